import PyProof.Rows.All
import Wide.All
import OpenK.AllK
import Wide.FinOn
import HandS.ForMost
import HandS.Evl
import HandS.Lambda
import HandS.IsInst
import HandS.Walk
import HandS.Conv
import KE.KBits
import HandS.WideBits
import HandS.More
import HandS.OwnEq
import PyProof.InstNe
import HandS.Exc
import HandS.ExcOwn
import HandS.TryOnly
import HandS.SortInts
import HandS.TupAny
import HandS.Deep
import HandS.Style
import PyProof.ExcBaseAll.ValueError
import HandS.TryMany
import HandS.ExcInit
import HandS.ExcField
import HandS.TupLe
import HandS.Nested
import HandS.EndTab
import HandS.Zip
import PyProof.DelItemList
import PyProof.RulesDelMore
import HandS.GenList
import HandS.SortOrd
import HandS.SortRule
import HandS.Zip0
import HandS.Wide
import HandS.TupMul
import PySem.Challenge.RW_orderforms_k11_whole_matchings_and_cover
set_option Elab.async false
set_option linter.all false
set_option maxRecDepth 100000
set_option maxHeartbeats 1000000
namespace Fo
open PySem PySem.Spec PyProof.Rows L2
open LamX (TabS CodeO)
open Evl (ixN_nat)
class Nm where
  nm : Addr → Str
  inj : ∀ a b, nm a = nm b → nm a ≠ ("" : Str) → a = b
variable [Nm]
def notT : HO → Bool
  | .tbl _ => false
  | _ => true
def notC : HO → Bool
  | .tbl _ => false
  | .ext _ => false
  | _ => true
theorem notC_T {o : HO} (h : notC o = true) : notT o = true := by
  cases o <;> first | rfl | cases h
structure Ex (H H2 : Hp) : Prop where
  g : ∀ a o, H a = some o → notT o = true → H2 a = some o
  k : ∀ a ps, H a = some (.tbl ps) → ∃ ps2, H2 a = some (.tbl ps2)
  t : ∀ P, TabS H P (Nm.nm P) → TabS H2 P (Nm.nm P)
theorem Ex.s {H H2 : Hp} (e : Ex H H2) (a : Addr) (h : H2 a = none) : H a = none := by
  cases h1 : H a with
  | none => rfl
  | some o =>
    cases hn : notT o with
    | true =>
      rw [e.g a o h1 hn] at h
      cases h
    | false =>
      cases o with
      | tbl ps =>
        obtain ⟨ps2, h2⟩ := e.k a ps h1
        rw [h2] at h
        cases h
      | _ => cases hn
theorem Ex.app {H H2 : Hp} (e : Ex H H2) (a : Addr) (o : HO) (h0 : H a = some o) (h : notT o = true := by rfl) : H2 a = some o := e.g a o h0 h
instance {H H2 : Hp} : CoeFun (Ex H H2) (fun _ => ∀ (a : Addr) (o : HO), H a = some o → (h : notT o = true := by rfl) → H2 a = some o) := ⟨@Ex.app _ H H2⟩
def ML (H : Hp) (p : Addr) : Prop := ∀ o, H p = some o → notC o = true
theorem ml_of {H : Hp} {p : Addr} {o : HO} (h : H p = some o) (hc : notC o = true := by rfl) : ML H p := fun u hu => by
  rw [h] at hu
  cases hu
  exact hc
theorem tab_ne {H : Hp} {P p : Addr} {q : Str} (t : TabS H P q) (m : ML H p) : P ≠ p := fun e => by
  obtain ⟨ps, h1, _, _⟩ := t
  rw [e] at h1
  cases m _ h1
theorem code_ne {H : Hp} {c p : Addr} {q : Str} (h : H c = some (CodeO c q)) (m : ML H p) : c ≠ p := fun e => by
  rw [e] at h
  have := m _ h
  unfold CodeO at this
  cases this
theorem Ex.refl (H : Hp) : Ex H H := ⟨fun _ _ h _ => h, fun _ ps h => ⟨ps, h⟩, fun _ h => h⟩
theorem Ex.trans {H H1 H2 : Hp} (a : Ex H H1) (b : Ex H1 H2) : Ex H H2 := ⟨fun x o h n => b.g x o (a.g x o h n) n, fun x ps h => by
  obtain ⟨ps1, h1⟩ := a.k x ps h
  exact b.k x ps1 h1, fun P h => b.t P (a.t P h)⟩
theorem Ex.of {H H2 : Hp} (e : ∀ a o, H a = some o → H2 a = some o) : Ex H H2 := ⟨fun a o h _ => e a o h, fun a ps h => ⟨ps, e _ _ h⟩, fun P h => TabS.ext h e⟩
theorem Ex.new {H : Hp} {p : Addr} {o : HO} (h : H p = none) : Ex H (upd H p o) := Ex.of fun a u e => by rw [upd_ne (ne_of_none e h)]; exact e
theorem tab_upd {H : Hp} {P p : Addr} {q : Str} {o : HO} (t : TabS H P q) (m : ML H p) : TabS (upd H p o) P q := by
  have hne := tab_ne t m
  obtain ⟨ps, h1, h2, h3⟩ := t
  refine ⟨ps, by rw [upd_ne hne]; exact h1, h2, fun pos cv hc => ?_⟩
  obtain ⟨c, e1, e2⟩ := h3 pos cv hc
  exact ⟨c, e1, by rw [upd_ne (code_ne e2 m)]; exact e2⟩
theorem tab_back {H : Hp} {P p : Addr} {q : Str} {o : HO} (t : TabS (upd H p o) P q) (ho : notC o = true) : TabS H P q := by
  have m : ML (upd H p o) p := ml_of upd_same ho
  have hne := tab_ne t m
  obtain ⟨ps, h1, h2, h3⟩ := t
  refine ⟨ps, by rw [upd_ne hne] at h1; exact h1, h2, fun pos cv hc => ?_⟩
  obtain ⟨c, e1, e2⟩ := h3 pos cv hc
  have := code_ne e2 m
  exact ⟨c, e1, by rw [upd_ne this] at e2; exact e2⟩
theorem Ex.mut {H H' : Hp} {p : Addr} {o : HO} (e : Ex H H') (h : H p = none) (m : ML H' p) : Ex H (upd H' p o) := ⟨fun a u ha n => by rw [upd_ne (ne_of_none ha h)]; exact e.g a u ha n, fun a ps ha => by
  obtain ⟨ps2, h2⟩ := e.k a ps ha
  exact ⟨ps2, by rw [upd_ne (ne_of_none ha h)]; exact h2⟩, fun P t => tab_upd (e.t P t) m⟩
theorem ex_rd {H H' : Hp} {a : Addr} {u : HO} (e : Ex H H') (h : Rd H a u) (hn : notT u = true := by rfl) : Rd H' a u := by
  rcases h with h | ⟨o, h⟩
  · exact .inl (e.g _ _ h hn)
  · exact .inr ⟨o, e.g _ _ h rfl⟩
theorem ex_l {K : PySem.W.Frag} {H H' : Hp} {a : Addr} {xs : List V} (e : Ex H H') (h : SqL K H a xs) : SqL K H' a xs := by
  rcases h with h | h
  · exact Or.inl (ex_rd e h)
  · exact Or.inr h
theorem ex_t {K : PySem.W.Frag} {H H' : Hp} {a : Addr} {xs : List V} (e : Ex H H') (h : H a = some (.tup xs)) : SqT K H' a xs := Or.inl (.inl (e.g _ _ h rfl))
theorem ex_frz0 {B H : Hp} {l : Addr} {o : HO} (e : Ex B H) (hH : H l = some o) (hc : notC o = true) : Ex (upd B l o) H := ⟨fun a u h n => by
  by_cases ha : a = l
  · subst ha
    rw [upd_same] at h
    rw [hH]
    exact h
  · rw [upd_ne ha] at h
    exact e.g a u h n, fun a ps h => by
  by_cases ha : a = l
  · rw [ha, upd_same] at h
    cases h
    cases hc
  · rw [upd_ne ha] at h
    exact e.k a ps h, fun P t => e.t P (tab_back t hc)⟩
theorem ex_upd {B H : Hp} {p : Addr} {o : HO} (e : Ex B H) (hp : H p = none) (hc : notC o = true) : Ex (upd B p o) (upd H p o) := ⟨fun a u h n => by
  by_cases ha : a = p
  · subst ha
    rw [upd_same] at h ⊢
    exact h
  · rw [upd_ne ha] at h ⊢
    exact e.g a u h n, fun a ps h => by
  by_cases ha : a = p
  · rw [ha, upd_same] at h
    cases h
    cases hc
  · rw [upd_ne ha] at h
    obtain ⟨ps2, h2⟩ := e.k a ps h
    exact ⟨ps2, by rw [upd_ne ha]; exact h2⟩, fun P t => (Ex.new hp).t P (e.t P (tab_back t hc))⟩
def delH (H : Hp) (l : Addr) : Hp := fun a => if a = l then none else H a
theorem delH_ne {H : Hp} {l a : Addr} (h : a ≠ l) : delH H l a = H a := if_neg h
theorem delH_same {H : Hp} {l : Addr} : delH H l l = none := if_pos rfl
theorem del_sub {H : Hp} {l : Addr} : Ex (delH H l) H := Ex.of fun a o h => by
  by_cases e : a = l
  · rw [e, delH_same] at h
    cases h
  · rwa [delH_ne e] at h
theorem ex_del {H0 H : Hp} {l : Addr} (e : Ex H0 H) (h : H0 l = none) (m : ML H l) : Ex H0 (delH H l) := ⟨fun a o ha hn => by
  rw [delH_ne (ne_of_none ha h)]
  exact e.g a o ha hn, fun a ps ha => by
  obtain ⟨ps2, h2⟩ := e.k a ps ha
  exact ⟨ps2, by rw [delH_ne (ne_of_none ha h)]; exact h2⟩, fun P t => by
  have t2 := e.t P t
  have hne := tab_ne t2 m
  obtain ⟨ps, h1, h2, h3⟩ := t2
  refine ⟨ps, by rw [delH_ne hne]; exact h1, h2, fun pos cv hc => ?_⟩
  obtain ⟨c, e1, e2⟩ := h3 pos cv hc
  exact ⟨c, e1, by rw [delH_ne (code_ne e2 m)]; exact e2⟩⟩
def NC (H : Hp) (a : Addr) : Prop := ∃ o, H a = some o ∧ notC o = true
theorem NC.ex {H H2 : Hp} {a : Addr} (h : NC H a) (e : Ex H H2) : NC H2 a := by
  obtain ⟨o, h1, h2⟩ := h
  exact ⟨o, e.g _ _ h1 (notC_T h2), h2⟩
theorem NC.ne {H : Hp} {a : Addr} (h : NC H a) : H a ≠ none := by
  obtain ⟨o, h1, _⟩ := h
  rw [h1]
  exact fun z => nomatch z
theorem NC.del {H : Hp} {a l : Addr} (h : NC H a) (n : a ≠ l) : NC (delH H l) a := by
  obtain ⟨o, h1, h2⟩ := h
  exact ⟨o, by rw [delH_ne n]; exact h1, h2⟩
theorem fresh_back {H H' : Hp} {p : Addr} (e : Ex H H') (h : H' p = none) : H p = none := e.s p h
end Fo
namespace Fo
open PySem PySem.Spec PyProof.Rows L2
open Evl (ixN_nat)
variable [Nm]
inductive Da where
  | non | bl (b : Bool) | int (i : Int) | str (x : Str)
  | lst (ds : List Da) | tup (ds : List Da)
  | rng (lo hi : Int)
  | raw (u : V)
  | fn (f c : Addr) (q : Str) (ds : List Da) (ws : List V)
  | ins (C : Addr) (ns : List Str) (ds : List Da)
  | dct (ks vs : List Da)
def kD : Key → Da
  | .inl i => .int i
  | .inr x => .str x
def DctO (ks : List Da) (xs : List V) (o : HO) : Prop := (∃ kk : List Key, ks = kk.map kD ∧ o = .dK (kk.zip xs)) ∨ ∃ kk : List (List Key), ks = kk.map (fun k => .tup (k.map kD)) ∧ o = .dT (kk.zip xs)
mutual
def Rp (K : PySem.W.Frag) (B : Hp) : Da → V → Prop
  | .non, v => v = .non
  | .bl b, v => v = .bl b
  | .int i, v => v = .int i
  | .str x, v => v = .str x
  | .lst ds, v => ∃ a xs, v = .ref a ∧ B a = some (.lst xs) ∧ RpA K B ds xs
  | .tup ds, v => ∃ a xs, v = .ref a ∧ B a = some (.tup xs) ∧ RpA K B ds xs
  | .rng lo hi, v => ∃ a, v = .ref a ∧ B a = some (.rng lo hi)
  | .raw u, v => v = u
  | .fn f c q ds ws, v => v = .ref f ∧ B c = some (LamX.CodeO c q) ∧ RpA K B ds ws
  | .ins C ns ds, v => ∃ a dx xs, v = .ref a ∧ B a = some (.ins C dx (ns.zip xs)) ∧ RpA K B ds xs
  | .dct ks vs, v => ∃ a xs o, v = .ref a ∧ B a = some o ∧ DctO ks xs o ∧ ks.length = vs.length ∧ RpA K B vs xs
def RpA (K : PySem.W.Frag) (B : Hp) : List Da → List V → Prop
  | [], xs => xs = []
  | d :: ds, xs => ∃ x r, xs = x :: r ∧ Rp K B d x ∧ RpA K B ds r
end
section
variable {K : PySem.W.Frag} {B B2 H H2 : Hp}
mutual
theorem Rp.mono (e : Ex B B2) : ∀ (d : Da) (v : V), Rp K B d v → Rp K B2 d v
  | .non, _, h => h
  | .bl _, _, h => h
  | .int _, _, h => h
  | .str _, _, h => h
  | .raw _, _, h => h
  | .fn f c q ds ws, _, h => by
    obtain ⟨h1, h2, h3⟩ := h
    exact ⟨h1, e _ _ h2, RpA.mono e ds ws h3⟩
  | .lst ds, _, h => by
    obtain ⟨a, xs, h1, h2, h3⟩ := h
    exact ⟨a, xs, h1, e _ _ h2, RpA.mono e ds xs h3⟩
  | .tup ds, _, h => by
    obtain ⟨a, xs, h1, h2, h3⟩ := h
    exact ⟨a, xs, h1, e _ _ h2, RpA.mono e ds xs h3⟩
  | .rng lo hi, _, h => by
    obtain ⟨a, h1, h2⟩ := h
    exact ⟨a, h1, e _ _ h2⟩
  | .ins C ns ds, _, h => by
    obtain ⟨a, dx, xs, h1, h2, h3⟩ := h
    exact ⟨a, dx, xs, h1, e _ _ h2, RpA.mono e ds xs h3⟩
  | .dct ks vs, _, h => by
    obtain ⟨a, xs, o, h1, h2, h3, h4, h5⟩ := h
    exact ⟨a, xs, o, h1, e.g _ _ h2 (by rcases h3 with ⟨_, _, rfl⟩ | ⟨_, _, rfl⟩ <;> rfl), h3, h4, RpA.mono e vs xs h5⟩
theorem RpA.mono (e : Ex B B2) : ∀ (ds : List Da) (xs : List V), RpA K B ds xs → RpA K B2 ds xs
  | [], _, h => h
  | d :: ds, _, h => by
    obtain ⟨x, r, h1, h2, h3⟩ := h
    exact ⟨x, r, h1, Rp.mono e d x h2, RpA.mono e ds r h3⟩
end
theorem sq1 {a : Addr} {xs : List V} (e : Ex B H) (h : B a = some (.lst xs)) : SqL K H a xs := .inl (.inl (e _ _ h))
theorem RpA.length : ∀ {ds : List Da} {xs : List V}, RpA K B ds xs → xs.length = ds.length
  | [], _, h => by
    rw [show _ = _ from h]
    rfl
  | d :: ds, _, h => by
    obtain ⟨x, r, rfl, _, h3⟩ := h
    rw [List.length_cons, List.length_cons, RpA.length h3]
theorem RpA.get : ∀ {ds : List Da} {xs : List V} {i : Nat} {d : Da}, RpA K B ds xs → ds[i]? = some d → ∃ x, xs[i]? = some x ∧ Rp K B d x
  | [], _, _, _, _, e => by simp at e
  | d :: ds, _, 0, _, h, e => by
    obtain ⟨x, r, rfl, h2, _⟩ := h
    cases (Option.some.inj e : d = _)
    exact ⟨x, rfl, h2⟩
  | d :: ds, _, i + 1, d2, h, e => by
    obtain ⟨x, r, rfl, _, h3⟩ := h
    exact RpA.get (i := i) h3 e
theorem RpA.append : ∀ {ds es : List Da} {xs ys : List V}, RpA K B ds xs → RpA K B es ys → RpA K B (ds ++ es) (xs ++ ys)
  | [], _, _, _, h, k => by
    rw [show _ = _ from h]
    exact k
  | d :: ds, _, _, _, h, k => by
    obtain ⟨x, r, rfl, h2, h3⟩ := h
    exact ⟨x, _, rfl, h2, RpA.append h3 k⟩
theorem RpA.one {d : Da} {x : V} (h : Rp K B d x) : RpA K B [d] [x] := ⟨x, [], rfl, h, rfl⟩
theorem RpA.take : ∀ {ds : List Da} {xs : List V} (n : Nat), RpA K B ds xs → RpA K B (ds.take n) (xs.take n)
  | _, _, 0, _ => rfl
  | [], _, n + 1, h => by
    rw [show _ = _ from h]
    rfl
  | d :: ds, _, n + 1, h => by
    obtain ⟨x, r, rfl, h2, h3⟩ := h
    exact ⟨x, _, rfl, h2, RpA.take n h3⟩
theorem RpA.drop : ∀ {ds : List Da} {xs : List V} (n : Nat), RpA K B ds xs → RpA K B (ds.drop n) (xs.drop n)
  | _, _, 0, h => h
  | [], _, n + 1, h => by
    rw [show _ = _ from h]
    rfl
  | d :: ds, _, n + 1, h => by
    obtain ⟨x, r, rfl, h2, h3⟩ := h
    exact RpA.drop n h3
theorem RpA.set : ∀ {ds : List Da} {xs : List V} {d : Da} {x : V} (i : Nat), RpA K B ds xs → Rp K B d x → RpA K B (ds.set i d) (xs.set i x)
  | [], _, _, _, i, h, _ => by
    rw [show _ = _ from h]
    exact (rfl : ([] : List V).set i _ = [])
  | d :: ds, _, _, x, 0, h, k => by
    obtain ⟨y, r, rfl, h2, h3⟩ := h
    exact ⟨x, r, rfl, k, h3⟩
  | d :: ds, _, _, x, i + 1, h, k => by
    obtain ⟨y, r, rfl, h2, h3⟩ := h
    exact ⟨y, _, rfl, h2, RpA.set i h3 k⟩
theorem RpA.eraseIdx : ∀ {ds : List Da} {xs : List V} (i : Nat), RpA K B ds xs → RpA K B (ds.eraseIdx i) (xs.eraseIdx i)
  | [], _, _, h => by
    rw [show _ = _ from h]
    rfl
  | d :: ds, _, 0, h => by
    obtain ⟨y, r, rfl, h2, h3⟩ := h
    exact h3
  | d :: ds, _, i + 1, h => by
    obtain ⟨y, r, rfl, h2, h3⟩ := h
    exact ⟨y, _, rfl, h2, RpA.eraseIdx i h3⟩
theorem RpA.reverse : ∀ {ds : List Da} {xs : List V}, RpA K B ds xs → RpA K B ds.reverse xs.reverse
  | [], _, h => by
    rw [show _ = _ from h]
    rfl
  | d :: ds, _, h => by
    obtain ⟨y, r, rfl, h2, h3⟩ := h
    rw [List.reverse_cons, List.reverse_cons]
    exact (RpA.reverse h3).append (.one h2)
theorem RpA.ints (ns : List Int) : RpA K B (ns.map Da.int) (ns.map V.int) := by
  induction ns with
  | nil => rfl
  | cons n r ih => exact ⟨_, _, rfl, rfl, ih⟩
theorem RpA.ints_of : ∀ {ns : List Int} {xs : List V}, RpA K B (ns.map Da.int) xs → xs = ns.map V.int
  | [], _, h => h
  | n :: r, _, h => by
    obtain ⟨x, q, rfl, h2, h3⟩ := h
    rw [RpA.ints_of h3, show x = _ from h2]
    rfl
theorem RpA.bls_of : ∀ {bs : List Bool} {xs : List V}, RpA K B (bs.map Da.bl) xs → xs = bs.map V.bl
  | [], _, h => h
  | n :: r, _, h => by
    obtain ⟨x, q, rfl, h2, h3⟩ := h
    rw [RpA.bls_of h3, show x = _ from h2]
    rfl
structure Nx (B H B2 H2 : Hp) : Prop where
  ok : Ex B2 H2
  b : Ex B B2
  h : Ex H H2
  nw : ∀ a, B a = none → NC H a → B2 a = none
theorem Nx.refl (e : Ex B H) : Nx B H B H := ⟨e, .refl _, .refl _, fun _ h _ => h⟩
theorem Nx.trans {B3 H3 : Hp} (p : Nx B H B2 H2) (q : Nx B2 H2 B3 H3) : Nx B H B3 H3 :=
  ⟨q.ok, p.b.trans q.b, p.h.trans q.h, fun a h1 h2 => q.nw a (p.nw a h1 h2) (h2.ex p.h)⟩
theorem Nx.new {p : Addr} {o : HO} (e : Ex B H) (hp : H p = none) (hc : notC o = true := by rfl) : Nx B H (upd B p o) (upd H p o) :=
  ⟨ex_upd e hp hc, .new (fresh_back e hp), .new hp, fun a h1 h2 => by
    have hne : a ≠ p := by
      intro z
      subst z
      exact h2.ne hp
    rw [upd_ne hne]
    exact h1⟩
theorem Nx.grow (e : Ex B H) (h : Ex H H2) : Nx B H B H2 := ⟨e.trans h, .refl _, h, fun _ h _ => h⟩
theorem Nx.out {p : Addr} {o : HO} (e : Ex B H) (hp : H p = none) : Nx B H B (upd H p o) := .grow e (.new hp)
theorem Nx.apart {a : Addr} (p : Nx B H B2 H2) {o : HO} (h1 : B a = none) (h2 : H a = some o) (hn : notC o = true := by rfl) : B2 a = none ∧ H2 a = some o :=
  ⟨p.nw a h1 ⟨o, h2, hn⟩, p.h.g a o h2 (notC_T hn)⟩
theorem ex_mut {p : Addr} {o : HO} (e : Ex B H) (hp : B p = none) (m : ML H p) : Ex B (upd H p o) := Ex.mut e hp m
def Sl (K : PySem.W.Frag) (B : Hp) : List (Option Da) → L2.St → Prop
  | [], [] => True
  | g :: Γ, s :: σ => (match g with
      | none => True
      | some d => ∃ v, s = some v ∧ Rp K B d v) ∧ Sl K B Γ σ
  | _, _ => False
theorem Sl.mono : ∀ {Γ : List (Option Da)} {σ : L2.St}, Ex B B2 → Sl K B Γ σ → Sl K B2 Γ σ
  | [], [], _, _ => trivial
  | none :: Γ, s :: σ, e, h => ⟨trivial, Sl.mono e h.2⟩
  | some d :: Γ, s :: σ, e, h => by
    obtain ⟨⟨v, h1, h2⟩, h3⟩ := h
    exact ⟨⟨v, h1, Rp.mono e _ _ h2⟩, Sl.mono e h3⟩
  | [], _ :: _, _, h => h.elim
  | _ :: _, [], _, h => by
    unfold Sl at h
    exact h.elim
theorem Sl.get : ∀ {Γ : List (Option Da)} {σ : L2.St} {i : Nat} {d : Da}, Sl K B Γ σ → Γ[i]? = some (some d) → ∃ v, σ[i]? = some (some v) ∧ Rp K B d v
  | [], _, _, _, _, e => by simp at e
  | g :: Γ, [], _, _, h, _ => by
    unfold Sl at h
    exact h.elim
  | some d :: Γ, s :: σ, 0, _, h, e => by
    obtain ⟨⟨v, h1, h2⟩, _⟩ := h
    cases (Option.some.inj (Option.some.inj e) : d = _)
    exact ⟨v, by rw [h1]; rfl, h2⟩
  | none :: Γ, s :: σ, 0, _, h, e => by
    have e2 := Option.some.inj e
    cases e2
  | g :: Γ, s :: σ, i + 1, _, h, e => by
    have h2 : Sl K B Γ σ := by
      cases g with
      | none => exact h.2
      | some d => exact h.2
    exact Sl.get (i := i) h2 e
theorem Sl.set : ∀ {Γ : List (Option Da)} {σ : L2.St} {d : Da} {v : V} (i : Nat), Sl K B Γ σ → Rp K B d v → Sl K B (Γ.set i (some d)) (σ.set i (some v))
  | [], [], _, _, _, _, _ => trivial
  | [], _ :: _, _, _, _, h, _ => h.elim
  | g :: Γ, [], _, _, _, h, _ => by
    unfold Sl at h
    exact h.elim
  | g :: Γ, s :: σ, d, v, 0, h, r => ⟨⟨v, rfl, r⟩, by
      cases g with
      | none => exact h.2
      | some d => exact h.2⟩
  | none :: Γ, s :: σ, d, v, i + 1, h, r => ⟨trivial, Sl.set i h.2 r⟩
  | some g :: Γ, s :: σ, d, v, i + 1, h, r => ⟨h.1, Sl.set i h.2 r⟩
theorem Sl.set0 : ∀ {Γ : List (Option Da)} {σ : L2.St} {x : Option V} (i : Nat), Sl K B Γ σ → Sl K B (Γ.set i none) (σ.set i x)
  | [], [], _, _, _ => trivial
  | [], _ :: _, _, _, h => h.elim
  | g :: Γ, [], _, _, h => by
    unfold Sl at h
    exact h.elim
  | g :: Γ, s :: σ, x, 0, h => ⟨trivial, by
      cases g with
      | none => exact h.2
      | some d => exact h.2⟩
  | none :: Γ, s :: σ, x, i + 1, h => ⟨trivial, Sl.set0 i h.2⟩
  | some g :: Γ, s :: σ, x, i + 1, h => ⟨h.1, Sl.set0 i h.2⟩
def wipeG (Γ : List (Option Da)) : List Nat → List (Option Da)
  | [] => Γ
  | v :: vs => (wipeG Γ vs).set v none
theorem Sl.wipe {Γ : List (Option Da)} {σ : L2.St} : ∀ (vs : List Nat), Sl K B Γ σ → Sl K B (wipeG Γ vs) (L2.wipe σ vs)
  | [], h => h
  | v :: vs, h => Sl.set0 v (Sl.wipe vs h)
theorem sl_args : ∀ {ds : List Da} {vs : List V} (n : Nat), RpA K B ds vs → Sl K B (ds.map some ++ List.replicate n none) (vs.map some ++ List.replicate n none)
  | [], _, 0, h => by
    rw [show _ = _ from h]
    trivial
  | [], _, n + 1, h => by
    have ih := sl_args (ds := []) (vs := []) n (show RpA K B [] [] from rfl)
    rw [show _ = _ from h]
    exact ⟨trivial, ih⟩
  | d :: ds, _, n, h => by
    obtain ⟨x, r, rfl, h2, h3⟩ := h
    exact ⟨⟨x, rfl, h2⟩, sl_args n h3⟩
end
section
variable {K : PySem.W.Frag} {B H : Hp} {Γ : List (Option Da)} {te ta tb tc : TE} {tt t u : TT} {d d1 d2 d3 : Da}
def Goes (K : PySem.W.Frag) (B H : Hp) (d : Da) (Q : VK) : Prop := ∀ v B2 H2, Nx B H B2 H2 → Rp K B2 d v → Q v H2
def EvG (K : PySem.W.Frag) (Γ : List (Option Da)) (te : TE) (d : Da) : Prop := ∀ σ B H, Sl K B Γ σ → Ex B H → ∀ Q : VK, Goes K B H d Q → te σ H Q
def EvB (K : PySem.W.Frag) (Γ : List (Option Da)) (tt : TT) (b : Bool) : Prop := ∀ σ B H, Sl K B Γ σ → Ex B H → ∀ Q : Bool → Hp → Prop, (∀ B2 H2, Nx B H B2 H2 → Q b H2) → tt σ H Q
def EvS (K : PySem.W.Frag) (Γ : List (Option Da)) (ta : TA) (ds : List Da) : Prop := ∀ σ B H, Sl K B Γ σ → Ex B H → ∀ Q : List V → Hp → Prop, (∀ vs B2 H2, Nx B H B2 H2 → RpA K B2 ds vs → Q vs H2) → ta σ H Q
def RG (K : PySem.W.Frag) (r : R2) (x y z : Da) : Prop := ∀ B H vx vy, Ex B H → Rp K B x vx → Rp K B y vy → ∀ Q : VK, Goes K B H z Q → r vx vy H Q
def RG1 (K : PySem.W.Frag) (r : V → Hp → VK → Prop) (x z : Da) : Prop := ∀ B H vx, Ex B H → Rp K B x vx → ∀ Q : VK, Goes K B H z Q → r vx H Q
def RGC (K : PySem.W.Frag) (r : List V → Hp → VK → Prop) (ds : List Da) (z : Da) : Prop := ∀ B H vs, Ex B H → RpA K B ds vs → ∀ Q : VK, Goes K B H z Q → r vs H Q
theorem Goes.now {Q : VK} {v : V} (k : Goes K B H d Q) (e : Ex B H) (r : Rp K B d v) : Q v H := k v B H (.refl e) r
theorem Goes.mono {Q : VK} {B2 H2 : Hp} (k : Goes K B H d Q) (n : Nx B H B2 H2) : Goes K B2 H2 d Q := fun v B3 H3 n3 r => k v B3 H3 (n.trans n3) r
theorem Goes.lst {Q : VK} {ds : List Da} {xs : List V} {p : Addr} (k : Goes K B H (.lst ds) Q) (e : Ex B H) (r : RpA K B ds xs) (hp : H p = none) : Q (.ref p) (upd H p (.lst xs)) :=
  k _ _ _ (.new e hp) ⟨p, xs, rfl, upd_same, RpA.mono (.new (fresh_back e hp)) _ _ r⟩
theorem Goes.tup {Q : VK} {ds : List Da} {xs : List V} {p : Addr} (k : Goes K B H (.tup ds) Q) (e : Ex B H) (r : RpA K B ds xs) (hp : H p = none) : Q (.ref p) (upd H p (.tup xs)) :=
  k _ _ _ (.new e hp) ⟨p, xs, rfl, upd_same, RpA.mono (.new (fresh_back e hp)) _ _ r⟩
theorem g_var {i : Nat} (h : Γ[i]? = some (some d)) : EvG K Γ (tVar i) d := fun σ B H hs e Q k => by
  obtain ⟨v, h1, h2⟩ := hs.get h
  exact ⟨v, h1, k.now e h2⟩
theorem g_c {v : V} (h : ∀ B, Rp K B d v) : EvG K Γ (tC v) d := fun σ B H _ e Q k => k.now e (h B)
theorem g_int {i : Int} : EvG K Γ (tC (.int i)) (.int i) := g_c fun _ => rfl
theorem g_bl {b : Bool} : EvG K Γ (tC (.bl b)) (.bl b) := g_c fun _ => rfl
theorem g_op {r : R2} (ha : EvG K Γ ta d1) (hb : EvG K Γ tb d2) (hr : RG K r d1 d2 d) : EvG K Γ (tOp r ta tb) d := fun σ B H hs e Q k =>
  ha σ B H hs e _ fun x B1 H1 n1 rx => hb σ B1 H1 (hs.mono n1.b) n1.ok _ fun y B2 H2 n2 ry => hr B2 H2 x y n2.ok (Rp.mono n2.b _ _ rx) ry Q (k.mono (n1.trans n2))
theorem g_un {r : V → Hp → VK → Prop} (ha : EvG K Γ ta d1) (hr : RG1 K r d1 d) : EvG K Γ (tUn r ta) d := fun σ B H hs e Q k =>
  ha σ B H hs e _ fun x B1 H1 n1 rx => hr B1 H1 x n1.ok rx Q (k.mono n1)
theorem r_I0 {g : Int → Int → V} {i j : Int} (h : ∀ B, Rp K B d (g i j)) : RG K (rI0 g) (.int i) (.int j) d := fun B H vx vy e rx ry Q k => ⟨i, j, rx, ry, k.now e (h B)⟩
theorem r_I {C : Int → Int → Prop} {g : Int → Int → V} {i j : Int} (hc : C i j) (h : ∀ B, Rp K B d (g i j)) : RG K (rI C g) (.int i) (.int j) d := fun B H vx vy e rx ry Q k => ⟨i, j, rx, ry, hc, k.now e (h B)⟩
theorem g_II {f : Int → Int → Int} {i j : Int} (ha : EvG K Γ ta (.int i)) (hb : EvG K Γ tb (.int j)) : EvG K Γ (tOp (rI0 fun i j => .int (f i j)) ta tb) (.int (f i j)) := g_op ha hb (r_I0 fun _ => rfl)
theorem g_IB {f : Int → Int → Bool} {i j : Int} (ha : EvG K Γ ta (.int i)) (hb : EvG K Γ tb (.int j)) : EvG K Γ (tOp (rI0 fun i j => .bl (f i j)) ta tb) (.bl (f i j)) := g_op ha hb (r_I0 fun _ => rfl)
theorem g_IC {C : Int → Int → Prop} {f : Int → Int → Int} {i j : Int} (ha : EvG K Γ ta (.int i)) (hb : EvG K Γ tb (.int j)) (hc : C i j) : EvG K Γ (tOp (rI C fun i j => .int (f i j)) ta tb) (.int (f i j)) := g_op ha hb (r_I hc fun _ => rfl)
def sca : Da → Option V
  | .non => some .non
  | .bl b => some (.bl b)
  | .int i => some (.int i)
  | .str x => some (.str x)
  | _ => none
theorem sca_rp {x : V} : ∀ {d : Da}, sca d = some x → ∀ {B v}, Rp K B d v → v = x
  | .non, h, _, _, r => by cases h; exact r
  | .bl _, h, _, _, r => by cases h; exact r
  | .int _, h, _, _, r => by cases h; exact r
  | .str _, h, _, _, r => by cases h; exact r
  | .lst _, h, _, _, _ => by cases h
  | .tup _, h, _, _, _ => by cases h
  | .rng _ _, h, _, _, _ => by cases h
  | .raw _, h, _, _, _ => by cases h
  | .fn _ _ _ _ _, h, _, _, _ => by cases h
  | .dct _ _, h, _, _, _ => by cases h
  | .ins _ _ _, h, _, _, _ => by cases h
theorem EvG.to (h : EvG K Γ te d) (e : d = d2) : EvG K Γ te d2 := e ▸ h
theorem g_not {a : Bool} (ha : EvG K Γ ta (.bl a)) : EvG K Γ (tNotV ta) (.bl (!a)) := fun σ B H hs e Q k =>
  ha σ B H hs e _ fun x B1 H1 n1 rx => ⟨a, rx, (k.mono n1).now n1.ok rfl⟩
theorem s_nil : EvS K Γ tNil [] := fun σ B H _ e Q k => k [] B H (.refl e) rfl
theorem s_cons {tr : TA} {ds : List Da} (ha : EvG K Γ ta d) (hr : EvS K Γ tr ds) : EvS K Γ (tCons ta tr) (d :: ds) := fun σ B H hs e Q k =>
  ha σ B H hs e _ fun x B1 H1 n1 rx => hr σ B1 H1 (hs.mono n1.b) n1.ok _ fun xs B2 H2 n2 rs => k _ B2 H2 (n1.trans n2) ⟨x, xs, rfl, Rp.mono n2.b _ _ rx, rs⟩
theorem size_ok {n : Nat} (h : n ≤ 1000000) : n ≤ sizeLine := Nat.le_trans h (by decide)
theorem size_lt {n : Nat} (h : n < 1000000) : n < sizeLine := Nat.lt_of_lt_of_le h (by decide)
theorem g_lst {tr : TA} {ds : List Da} (h : EvS K Γ tr ds) (hl : ds.length ≤ 1000000) : EvG K Γ (tLst tr) (.lst ds) := fun σ B H hs e Q k =>
  h σ B H hs e _ fun xs B1 H1 n1 rs => ⟨size_ok (by rw [rs.length]; exact hl), fun p hp => (k.mono n1).lst n1.ok rs hp⟩
theorem g_tup {tr : TA} {ds : List Da} (h : EvS K Γ tr ds) (hl : ds.length ≤ 1000000) : EvG K Γ (tTup tr) (.tup ds) := fun σ B H hs e Q k =>
  h σ B H hs e _ fun xs B1 H1 n1 rs => ⟨size_ok (by rw [rs.length]; exact hl), fun p hp => (k.mono n1).tup n1.ok rs hp⟩
theorem atI_rp {ds : List Da} {xs : List V} {i : Int} (h : RpA K B ds xs) (e : atI ds i = some d) : ∃ x, atI xs i = some x ∧ Rp K B d x := by
  unfold atI at e ⊢
  rw [h.length]
  cases hj : ixN ds.length i with
  | none =>
    rw [hj] at e
    cases e
  | some j =>
    rw [hj] at e
    exact h.get e
theorem g_cb {r : List V → Hp → VK → Prop} {tr : TA} {ds : List Da} (h : EvS K Γ tr ds) (hr : RGC K r ds d) : EvG K Γ (tCB r tr) d := fun σ B H hs e Q k =>
  h σ B H hs e _ fun xs B1 H1 n1 rs => hr B1 H1 xs n1.ok rs Q (k.mono n1)
theorem rpa1 {v : List V} (h : RpA K B [d] v) : ∃ x, v = [x] ∧ Rp K B d x := by
  obtain ⟨x, r, rfl, h1, h2⟩ := h
  obtain rfl : r = [] := h2
  exact ⟨x, rfl, h1⟩
theorem rpa2 {v : List V} (h : RpA K B [d1, d2] v) : ∃ x y, v = [x, y] ∧ Rp K B d1 x ∧ Rp K B d2 y := by
  obtain ⟨x, r, rfl, h1, h2⟩ := h
  obtain ⟨y, rfl, h3⟩ := rpa1 h2
  exact ⟨x, y, rfl, h1, h3⟩
abbrev rLenQ (K : PySem.W.Frag) : List V → Hp → VK → Prop := fun xs H Q => ∃ p ys, xs = [.ref p] ∧ (SqL K H p ys ∨ SqT K H p ys) ∧ Q (.int ys.length) H
theorem c_lenL {ds : List Da} : RGC K (rLenQ K) [.lst ds] (.int ds.length) := fun B H vs e r Q k => by
  obtain ⟨x, rfl, a, xs, rfl, h1, h2⟩ := rpa1 r
  exact ⟨a, xs, rfl, .inl (sq1 e h1), by rw [h2.length]; exact k.now e rfl⟩
theorem c_lenT {ds : List Da} : RGC K (rLenQ K) [.tup ds] (.int ds.length) := fun B H vs e r Q k => by
  obtain ⟨x, rfl, a, xs, rfl, h1, h2⟩ := rpa1 r
  exact ⟨a, xs, rfl, .inr (ex_t e h1), by rw [h2.length]; exact k.now e rfl⟩
theorem c_all {bs : List Bool} : RGC K (rAll K) [.lst (bs.map Da.bl)] (.bl (bs.all id)) := fun B H vs e r Q k => by
  obtain ⟨x, rfl, a, xs, rfl, h1, h2⟩ := rpa1 r
  obtain rfl := h2.bls_of
  exact ⟨a, bs, rfl, sq1 e h1, k.now e rfl⟩
theorem g_tupL {ds : List Da} (ha : EvG K Γ ta (.lst ds)) : EvG K Γ (tThen ta (kTup K)) (.tup ds) := fun σ B H hs e Q k =>
  ha σ B H hs e _ fun x B1 H1 n1 rx => by
    obtain ⟨a, xs, rfl, h1, h2⟩ := rx
    exact .inl ⟨a, xs, rfl, sq1 n1.ok h1, fun q hq => (k.mono n1).tup n1.ok h2 hq⟩
theorem g_tupT {ds : List Da} (ha : EvG K Γ ta (.tup ds)) : EvG K Γ (tThen ta (kTup K)) (.tup ds) := fun σ B H hs e Q k =>
  ha σ B H hs e _ fun x B1 H1 n1 rx => by
    obtain ⟨a, xs, rfl, h1, h2⟩ := rx
    exact .inr ⟨a, xs, rfl, ex_t n1.ok h1, (k.mono n1).now n1.ok ⟨a, xs, rfl, h1, h2⟩⟩
theorem b_test {b : Bool} (h : EvG K Γ te (.bl b)) : EvB K Γ (tTest te) b := fun σ B H hs e Q k => h σ B H hs e _ fun v B1 H1 n1 r => ⟨b, r, k B1 H1 n1⟩
theorem b_B {b : Bool} (h : EvG K Γ te (.bl b)) : EvB K Γ (tB te) b := fun σ B H hs e Q k => h σ B H hs e _ fun v B1 H1 n1 r => ⟨b, r, k B1 H1 n1⟩
theorem b_and {a b : Bool} (ha : EvB K Γ t a) (hb : a = true → EvB K Γ u b) : EvB K Γ (tAnd t u) (a && b) := fun σ B H hs e Q k => ha σ B H hs e _ fun B1 H1 n1 => by
  cases a with
  | false =>
    rw [if_neg Bool.false_ne_true]
    exact k B1 H1 n1
  | true =>
    rw [if_pos rfl]
    exact hb rfl σ B1 H1 (hs.mono n1.b) n1.ok Q fun B2 H2 n2 => k B2 H2 (n1.trans n2)
theorem b_or {a b : Bool} (ha : EvB K Γ t a) (hb : a = false → EvB K Γ u b) : EvB K Γ (tOr t u) (a || b) := fun σ B H hs e Q k => ha σ B H hs e _ fun B1 H1 n1 => by
  cases a with
  | true =>
    rw [if_pos rfl]
    exact k B1 H1 n1
  | false =>
    rw [if_neg Bool.false_ne_true]
    exact hb rfl σ B1 H1 (hs.mono n1.b) n1.ok Q fun B2 H2 n2 => k B2 H2 (n1.trans n2)
theorem b_not {a : Bool} (ha : EvB K Γ t a) : EvB K Γ (tNot t) (!a) := fun σ B H hs e Q k => ha σ B H hs e _ fun B1 H1 n1 => k B1 H1 n1
theorem EvB.to {a b : Bool} (h : EvB K Γ t a) (e : a = b) : EvB K Γ t b := e ▸ h
theorem b_yes : EvB K Γ tYes true := fun σ B H hs e Q k => k B H (.refl e)
structure WalkD (K : PySem.W.Frag) (J : It) (B : Hp) (ds : List Da) : Prop where
  goes : ∀ i H, i < ds.length → Ex B H → J.go i H
  stops : ∀ H, Ex B H → J.stop ds.length H
  yld : ∀ i B1 H x H2 d, ds[i]? = some d → Ex B B1 → Ex B1 H → J.yld i H x H2 → ∃ B2, Nx B1 H B2 H2 ∧ Rp K B2 d x
def EvI (K : PySem.W.Frag) (Γ : List (Option Da)) (wi : TI) (ds : List Da) : Prop := ∀ σ B H, Sl K B Γ σ → Ex B H → ∀ R : It → Hp → Prop, (∀ J B2 H2, Nx B H B2 H2 → WalkD K J B2 ds → R J H2) → wi σ H R
theorem WalkD.mono {J : It} {B2 : Hp} {ds : List Da} (w : WalkD K J B ds) (e : Ex B B2) : WalkD K J B2 ds :=
  ⟨fun i H hi h => w.goes i H hi (e.trans h), fun H h => w.stops H (e.trans h), fun i B1 H x H2 d hd h1 h2 y => w.yld i B1 H x H2 d hd (e.trans h1) h2 y⟩
def rng (lo : Int) (n : Nat) : List Da := (List.range n).map fun i => .int (lo + (i : Nat))
theorem rng_length (lo : Int) (n : Nat) : (rng lo n).length = n := by
  unfold rng
  rw [List.length_map, List.length_range]
theorem rng_get {lo : Int} {n i : Nat} (h : (rng lo n)[i]? = some d) : i < n ∧ d = .int (lo + (i : Nat)) := by
  unfold rng at h
  rw [List.getElem?_map] at h
  by_cases hi : i < n
  · rw [List.getElem?_range hi] at h
    exact ⟨hi, (Option.some.inj h).symm⟩
  · rw [List.getElem?_eq_none (by rw [List.length_range]; omega)] at h
    cases h
theorem walk_rng {lo : Int} {n : Nat} : WalkD K (Itr lo n) B (rng lo n) :=
  ⟨fun i H hi _ => by rw [rng_length] at hi; exact hi, fun H _ => by rw [rng_length]; exact Nat.le_refl _, fun i B1 H x H2 d hd _ e y => by
    obtain ⟨rfl, y⟩ := y
    obtain ⟨_, rfl⟩ := rng_get hd
    exact ⟨B1, .refl e, y⟩⟩
theorem i_rng1 {ta : TA} {n : Int} (h : EvS K Γ ta [.int n]) (hn : n ≤ 1000000) (h0 : -1000000 ≤ n) : EvI K Γ (iRng1 ta) (rng 0 n.toNat) := fun σ B H hs e R k =>
  h σ B H hs e _ fun xs B1 H1 n1 rs => by
    obtain ⟨x, rfl, rx⟩ := rpa1 rs
    obtain rfl : x = .int n := rx
    exact ⟨n, rfl, by omega, by omega, k _ B1 H1 n1 walk_rng⟩
def Tgt (K : PySem.W.Frag) (Γ : List (Option Da)) (vs : List Nat) (g : TG) (tt : TT) (te : TE) (ds : List Da) (f : Da → Bool) (v : Da → Da) : Prop :=
  ∀ d ∈ ds, ∀ x σ B H, Sl K B Γ σ → Ex B H → Rp K B d x → ∀ Q : L2.St → Hp → Prop, (∀ σ2, wipe σ2 vs = wipe σ vs → ∀ Γ2, Sl K B Γ2 σ2 → EvB K Γ2 tt (f d) → (f d = true → EvG K Γ2 te (v d)) → Q σ2 H) → g x (wipe σ vs) H Q
theorem g_lc {wi : TI} {g : TG} {vs : List Nat} {ds : List Da} (f : Da → Bool) (v : Da → Da) (hi : EvI K Γ wi ds) (hl : ds.length ≤ 500000) (hb : Tgt K Γ vs g tt te ds f v) :
    EvG K Γ (tLc wi g tt te vs) (.lst ((ds.filter f).map v)) := fun σ B H hs e Q k =>
  hi σ B H hs e _ fun J B1 H1 n1 w Dl hD => by
    refine ⟨fun i m H' => m = ds.length - i ∧ i ≤ ds.length ∧ ∃ B' acc, Nx B1 H1 B' H' ∧ B' Dl = none ∧ H' Dl = some (.lst acc) ∧ RpA K B' (((ds.take i).filter f).map v) acc,
      ⟨ds.length, by simp, Nat.zero_le _, B1, [], .out n1.ok hD, fresh_back n1.ok hD, upd_same, rfl⟩, ?_⟩
    rintro i m H' ⟨rfl, hi, B', acc, n2, hB, hH, ra⟩
    by_cases hlt : i < ds.length
    · refine .inr ⟨w.goes i H' hlt (n2.b.trans n2.ok), fun H'' => ∃ B'' acc, Nx B1 H1 B'' H'' ∧ B'' Dl = none ∧ H'' Dl = some (.lst acc) ∧ RpA K B'' (((ds.take (i + 1)).filter f).map v) acc,
        fun H'' z => ⟨ds.length - (i + 1), by omega, rfl, hlt, z⟩, fun x H'' y => ?_⟩
      obtain ⟨B3, n3, rx⟩ := w.yld i B' H' x H'' ds[i] (by simp [hlt]) n2.b n2.ok y
      have m3 := n3.apart hB hH
      have et : (ds.take (i + 1)) = ds.take i ++ [ds[i]] := by
        rw [List.take_add_one]
        simp [hlt]
      refine hb ds[i] (List.getElem_mem _) x σ B3 H'' (hs.mono ((n1.b.trans n2.b).trans n3.b)) n3.ok rx _ fun σ2 hw Γ2 hs2 ht he => ⟨hw, ?_⟩
      refine ht σ2 B3 H'' hs2 n3.ok _ fun B4 H4 n4 => ?_
      have m4 := n4.apart m3.1 m3.2
      rw [et, List.filter_append, List.map_append]
      cases hf : f ds[i] with
      | false =>
        rw [if_neg Bool.false_ne_true]
        refine ⟨B4, acc, (n2.trans n3).trans n4, m4.1, m4.2, ?_⟩
        rw [List.filter_cons, if_neg (by rw [hf]; decide)]
        show RpA K B4 (_ ++ []) acc
        rw [List.append_nil]
        exact RpA.mono (n3.b.trans n4.b) _ _ ra
      | true =>
        rw [if_pos rfl]
        refine he hf σ2 B4 H4 (hs2.mono n4.b) n4.ok _ fun z B5 H5 n5 rz => ?_
        have m5 := n5.apart m4.1 m4.2
        refine ⟨acc, m5.2, size_lt ?_, B5, acc ++ [z], ?_, m5.1, upd_same, ?_⟩
        · rw [ra.length, List.length_map]
          have := List.length_filter_le f (ds.take i)
          rw [List.length_take] at this
          omega
        · have n6 := ((n2.trans n3).trans n4).trans n5
          exact ⟨ex_mut n6.ok m5.1 (ml_of m5.2), n6.b, Ex.mut n6.h hD (ml_of m5.2), n6.nw⟩
        · rw [List.filter_cons, if_pos hf]
          exact (RpA.mono ((n3.b.trans n4.b).trans n5.b) _ _ ra).append (.one rz)
    · have ei : i = ds.length := by omega
      subst ei
      rw [List.take_length] at ra
      refine .inl ⟨w.stops H' (n2.b.trans n2.ok), ?_⟩
      have n3 : Nx B1 H1 (upd B' Dl (.lst acc)) H' := ⟨ex_frz0 n2.ok hH rfl, n2.b.trans (.new hB), n2.h, fun a h1 h2 => by
          have hne : a ≠ Dl := by
            intro z
            subst z
            exact h2.ne hD
          rw [upd_ne hne]
          exact n2.nw a h1 h2⟩
      exact k _ _ _ (n1.trans n3) ⟨Dl, acc, rfl, upd_same, RpA.mono (.new hB) _ _ ra⟩
variable {σ : L2.St} {D : Ends} {tu tz : TS}
theorem z_for {wi : TI} {g : TG} {ds : List Da} (hi : EvI K Γ wi ds) (hs : Sl K B Γ σ) (e : Ex B H) (Pv : Nat → L2.St → Hp → Hp → Prop)
    (h0 : ∀ B1 H1, Nx B H B1 H1 → Pv 0 σ B1 H1) (hp : ∀ i σ' B' H', Pv i σ' B' H' → Ex B' H')
    (hb : ∀ i d x σ' B' H' B2 H2, ds[i]? = some d → Ex B B' → Pv i σ' B' H' → Nx B' H' B2 H2 → Rp K B2 d x →
      g x σ' H2 fun σ2 H3 => tu { D with nx := fun σ3 H4 => ∃ B4, Ex B' B4 ∧ Pv (i + 1) σ3 B4 H4, ct := fun σ3 H4 => ∃ B4, Ex B' B4 ∧ Pv (i + 1) σ3 B4 H4, bk := D.nx } σ2 H3)
    (hd : ∀ σ' B' H', Ex B B' → Pv ds.length σ' B' H' → D.nx σ' H') : tFor wi g tu D σ H :=
  hi σ B H hs e _ fun J B1 H1 n1 w => by
    refine ⟨fun i m σ' H' => m = ds.length - i ∧ i ≤ ds.length ∧ ∃ B', Ex B1 B' ∧ Pv i σ' B' H', ⟨ds.length, by simp, Nat.zero_le _, B1, .refl _, h0 B1 H1 n1⟩, ?_⟩
    rintro i m σ' H' ⟨rfl, hi, B', e1, p⟩
    have e2 := hp i σ' B' H' p
    by_cases hlt : i < ds.length
    · refine .inr ⟨w.goes i H' hlt (e1.trans e2), fun σ3 H4 => ∃ B4, Ex B' B4 ∧ Pv (i + 1) σ3 B4 H4, fun σ3 H4 z => ?_, fun x H2 y => ?_⟩
      · obtain ⟨B4, e4, p4⟩ := z
        exact ⟨ds.length - (i + 1), by omega, rfl, hlt, B4, e1.trans e4, p4⟩
      · obtain ⟨B2, n2, rx⟩ := w.yld i B' H' x H2 ds[i] (by simp [hlt]) e1 e2 y
        exact hb i ds[i] x σ' B' H' B2 H2 (by simp [hlt]) (n1.b.trans e1) p n2 rx
    · have ei : i = ds.length := by omega
      subst ei
      exact .inl ⟨w.stops H' (e1.trans e2), hd σ' B' H' (n1.b.trans e1) p⟩
theorem Nx.mut {B2 H2 : Hp} {l : Addr} {o : HO} (n : Nx B H B2 H2) (h0 : H l = none) (hB : B2 l = none) (m : ML H2 l) : Nx B H B2 (upd H2 l o) := ⟨ex_mut n.ok hB m, n.b, Ex.mut n.h h0 m, n.nw⟩
theorem Nx.frz {B2 H2 : Hp} {l : Addr} {o : HO} (n : Nx B H B2 H2) (h0 : H l = none) (hB : B2 l = none) (hH : H2 l = some o) (hc : notC o = true := by rfl) : Nx B H (upd B2 l o) H2 := ⟨ex_frz0 n.ok hH hc, n.b.trans (.new hB), n.h, fun a h1 h2 => by
    have hne : a ≠ l := by
      intro z
      subst z
      exact h2.ne h0
    rw [upd_ne hne]
    exact n.nw a h1 h2⟩
end
end Fo
namespace Fo
open PySem PySem.Spec PyProof.Rows L2
open Evl (ixN_nat)
variable [Nm]
structure Cal (P : Program) (w : World) (K : PySem.W.Frag) (mg : Str → Option Value) (base : Heap) (CX : CXT) (k : Nat) (x : Str) (ps : List Str) (sp : Sp) : Prop where
  ex : ∃ f fd, FnOk P w K mg base CX k f fd ps sp ∧ mg x = some (.ref f) ∧ PySem.W.keepIn K (.ref f) = true ∧ Binds K fd ps []
section
variable {X : Cx} {CX : CXT} {k : Nat} {ps : List Str} {sp : Sp} {E : XK} {x m : Str} {p pos apos : Pos} {e o : Expr} {es : List Expr} {ta : TE} {t : TA} {C : Addr}
theorem pe_cal (c : Cal X.prog X.w X.K X.mg X.base CX k x ps sp) (hr : Room k X.A) (hx : Passes CX X E) (ha : PA X (e :: es) t) (hg : Gl X x := by rfl)
    (hdb : (x == ("__debug__" : Str)) = false := by decide) (he : starEach (e :: es) X.env = (false, eval e X.env) :: starEach es X.env := by rfl) (hpl : (backTo pos (starEach es X.env)).any (·.1) = false := by rfl) :
    PE X (.Call (.Name x p) (e :: es) [] pos) (tCall sp [] E t) := by
  obtain ⟨f, fd, F, hm, hk, hb⟩ := c.ex
  exact pe_call F hr hg hm hk hb .nil hx ha hdb he hpl
end
def tyD : Da → Option String
  | .non => some "NoneType"
  | .bl _ => some "bool"
  | .int _ => some "int"
  | .str _ => some "str"
  | .lst _ => some "list"
  | .tup _ => some "tuple"
  | .rng _ _ => none
  | .raw _ => none
  | .fn _ _ _ _ _ => none
  | .dct _ _ => none
  | .ins _ _ _ => none
section
variable {K : PySem.W.Frag} {B H : Hp} {Γ : List (Option Da)} {te ta tb tc : TE} {d d1 d2 d3 : Da}
theorem ty_of {T : String} {v : V} (e : Ex B H) : ∀ {d : Da}, tyD d = some T → Rp K B d v → TyX K H v (.type T)
  | .non, h, r => by
    cases h
    obtain rfl : v = .non := r
    exact .base .non
  | .bl _, h, r => by
    cases h
    obtain rfl : v = .bl _ := r
    exact .base (.bl _)
  | .int _, h, r => by
    cases h
    obtain rfl : v = .int _ := r
    exact .base (.int _)
  | .str _, h, r => by
    cases h
    obtain rfl : v = .str _ := r
    exact .base (.str _)
  | .lst _, h, r => by
    cases h
    obtain ⟨a, xs, rfl, h1, _⟩ := r
    exact .base (.lst (e _ _ h1))
  | .tup _, h, r => by
    cases h
    obtain ⟨a, xs, rfl, h1, _⟩ := r
    exact .base (.tup (e _ _ h1))
  | .rng _ _, h, _ => by cases h
  | .raw _, h, _ => by cases h
  | .fn _ _ _ _ _, h, _ => by cases h
  | .dct _ _, h, _ => by cases h
  | .ins _ _ _, h, _ => by cases h
theorem g_isi {T c : String} {b : Bool} (ha : EvG K Γ ta d) (hT : tyD d = some T) (hb : kitB T c = some b) : EvG K Γ (tCB (rIsi K) (tCons ta (tCons (tC (.ty c)) tNil))) (.bl b) := fun σ B H hs e Q k =>
  ha σ B H hs e _ fun x B1 H1 n1 rx => ⟨x, .ty c, .type T, .type c, b, rfl, .ty c, ty_of n1.ok hT rx, kit_ty hb, (k.mono n1).now n1.ok rfl⟩
end
end Fo
namespace Fo
open PySem
theorem odd_part : ∀ b : Nat, 0 < b → ∃ k a, b = 2 ^ k * (2 * a + 1) := by
  intro b
  induction b using Nat.strongRecOn with
  | ind b ih =>
    intro hb
    by_cases h : b % 2 = 1
    · exact ⟨0, b / 2, by omega⟩
    · obtain ⟨k, a, e⟩ := ih (b / 2) (by omega) (by omega)
      refine ⟨k + 1, a, ?_⟩
      rw [Nat.pow_succ, Nat.mul_comm (2 ^ k) 2, Nat.mul_assoc, ← e]
      omega
theorem bitAnd_nat (x y : Nat) : Builtin.bitAnd (x : Int) (y : Int) = ((x &&& y : Nat) : Int) := by
  unfold Builtin.bitAnd
  rw [show decide ((0 : Int) ≤ (x : Int)) = true from decide_eq_true (by omega), show decide ((0 : Int) ≤ (y : Int)) = true from decide_eq_true (by omega)]
  rfl
theorem bitOr_nat (x y : Nat) : Builtin.bitOr (x : Int) (y : Int) = ((x ||| y : Nat) : Int) := by
  rw [L2.bitOr_nn (by omega) (by omega)]
  rfl
theorem bit_low (k a : Nat) : Builtin.bitAnd ((2 ^ k * (2 * a + 1) : Nat) : Int) (-((2 ^ k * (2 * a + 1) : Nat) : Int)) = ((2 ^ k : Nat) : Int) := by
  have h := PySem.W.kbt_low k (a : Int)
  have e : ((2 ^ k * (2 * a + 1) : Nat) : Int) = 2 ^ k * (2 * (a : Int) + 1) := by
    rw [Int.natCast_mul, PySem.W.kbt_cast]
    rfl
  rw [e, h, PySem.W.kbt_cast]
theorem and_pred (x : Nat) (hx : 0 < x) : (((x &&& (x - 1)) : Nat) : Int) = (x : Int) - Builtin.bitAnd (x : Int) (-(x : Int)) := by
  unfold Builtin.bitAnd
  rw [show decide ((0 : Int) ≤ (x : Int)) = true from decide_eq_true (by omega), show decide ((0 : Int) ≤ -(x : Int)) = false from decide_eq_false (by omega)]
  show _ = (x : Int) - ((x : Int) - ((((x : Int).toNat &&& (Builtin.bitNot (-(x : Int))).toNat : Nat)) : Int))
  have e : (Builtin.bitNot (-(x : Int))).toNat = x - 1 := by
    unfold Builtin.bitNot
    omega
  rw [e, Int.toNat_natCast]
  omega
theorem and_pred_low (k a : Nat) : (2 ^ k * (2 * a + 1)) &&& (2 ^ k * (2 * a + 1) - 1) = 2 ^ (k + 1) * a := by
  have hp : 0 < 2 ^ k := Nat.two_pow_pos k
  have h1 : 0 < 2 ^ k * (2 * a + 1) := Nat.mul_pos hp (by omega)
  have h := and_pred _ h1
  rw [bit_low] at h
  have e : 2 ^ k * (2 * a + 1) = 2 ^ (k + 1) * a + 2 ^ k := by
    rw [Nat.mul_add, Nat.mul_one, Nat.pow_succ, Nat.mul_assoc]
  have h2 : (((2 ^ k * (2 * a + 1)) &&& (2 ^ k * (2 * a + 1) - 1) : Nat) : Int) = ((2 ^ (k + 1) * a : Nat) : Int) := by
    rw [h]
    omega
  exact Int.ofNat_inj.mp h2
theorem bits_pow (k : Nat) : Builtin.Int.intBits ((2 ^ k : Nat) : Int) = k + 1 := by
  unfold Builtin.Int.intBits
  have hp : 0 < 2 ^ k := Nat.two_pow_pos k
  rw [if_neg (fun z => absurd (beq_iff_eq.mp z) (by omega))]
  rw [Int.natAbs_natCast, Nat.log2_two_pow]
def mem (n b : Nat) : List Nat := (List.range n).filter fun x => b.testBit x
theorem mem_more {b i j : Nat} (h : i ≤ j) (hz : ∀ k, i ≤ k → k < j → b.testBit k = false) : mem j b = mem i b := by
  unfold mem
  obtain ⟨d, rfl⟩ : ∃ d, j = i + d := ⟨j - i, by omega⟩
  induction d with
  | zero => rfl
  | succ d ih =>
    rw [← Nat.add_assoc, List.range_succ, List.filter_append, ih (by omega) (fun k h1 h2 => hz k h1 (by omega))]
    rw [List.filter_cons, if_neg (by rw [hz (i + d) (by omega) (by omega)]; decide)]
    simp
theorem mem_step {b k : Nat} (h : b.testBit k = true) : mem (k + 1) b = mem k b ++ [k] := by
  unfold mem
  rw [List.range_succ, List.filter_append, List.filter_cons, if_pos h]
  simp
theorem mem_big {b n m : Nat} (hn : b < 2 ^ n) (hm : b < 2 ^ m) : mem n b = mem m b := by
  by_cases h : n ≤ m
  · exact (mem_more h fun k h1 _ => Nat.testBit_lt_two_pow (Nat.lt_of_lt_of_le hn (Nat.pow_le_pow_right (by decide) h1))).symm
  · exact mem_more (by omega) fun k h1 _ => Nat.testBit_lt_two_pow (Nat.lt_of_lt_of_le hm (Nat.pow_le_pow_right (by decide) h1))
theorem mem_lt {n b x : Nat} (h : x ∈ mem n b) : x < n ∧ b.testBit x = true := by
  unfold mem at h
  rw [List.mem_filter, List.mem_range] at h
  exact h
theorem next_bit {b j : Nat} (h : 0 < b / 2 ^ j) : ∃ k a, j ≤ k ∧ 2 ^ j * (b / 2 ^ j) = 2 ^ k * (2 * a + 1) ∧ mem (k + 1) b = mem j b ++ [k] ∧ b / 2 ^ (k + 1) = a := by
  obtain ⟨i, a, e⟩ := odd_part _ h
  have hb : b / 2 ^ (j + i) = 2 * a + 1 := by
    rw [Nat.pow_add, ← Nat.div_div_eq_div_mul, e, Nat.mul_div_cancel_left _ (Nat.two_pow_pos i)]
  have ht : b.testBit (j + i) = true := by
    rw [Nat.testBit_eq_decide_div_mod_eq, hb]
    apply decide_eq_true
    omega
  refine ⟨j + i, a, by omega, ?_, ?_, ?_⟩
  · rw [e, Nat.pow_add, Nat.mul_assoc]
  · rw [mem_step ht, mem_more (i := j) (j := j + i) (by omega) fun k h1 h2 => ?_]
    obtain ⟨l, rfl⟩ : ∃ l, k = j + l := ⟨k - j, by omega⟩
    have hl : l < i := by omega
    rw [Nat.testBit_eq_decide_div_mod_eq, Nat.pow_add, ← Nat.div_div_eq_div_mul, e]
    obtain ⟨d, rfl⟩ : ∃ d, i = l + (d + 1) := ⟨i - l - 1, by omega⟩
    rw [Nat.pow_add, Nat.mul_assoc, Nat.mul_div_cancel_left _ (Nat.two_pow_pos l), Nat.pow_succ]
    apply decide_eq_false
    rw [show 2 ^ d * 2 * (2 * a + 1) = 2 * (2 ^ d * (2 * a + 1)) by rw [Nat.mul_comm (2 ^ d) 2, Nat.mul_assoc]]
    omega
  · rw [Nat.pow_succ, ← Nat.div_div_eq_div_mul, hb]
    omega
def bitsOf : Nat → (Nat → Bool) → Nat
  | 0, _ => 0
  | n + 1, p => bitsOf n p + if p n then 2 ^ n else 0
theorem bitsOf_lt : ∀ (n : Nat) (p : Nat → Bool), bitsOf n p < 2 ^ n
  | 0, _ => by
    show 0 < 1
    omega
  | n + 1, p => by
    have := bitsOf_lt n p
    unfold bitsOf
    rw [Nat.pow_succ]
    split <;> omega
theorem bitsOf_test : ∀ (n : Nat) (p : Nat → Bool) (y : Nat), (bitsOf n p).testBit y = (decide (y < n) && p y)
  | 0, _, y => by
    unfold bitsOf
    rw [Nat.zero_testBit]
    simp
  | n + 1, p, y => by
    unfold bitsOf
    have hl := bitsOf_lt n p
    have ih := bitsOf_test n p
    split
    · rename_i hp
      have e : bitsOf n p + 2 ^ n = 2 ^ n * 1 ||| bitsOf n p := by
        rw [← Nat.two_pow_add_eq_or_of_lt hl]
        omega
      rw [e, Nat.testBit_or, ih, Nat.mul_one, Nat.testBit_two_pow]
      by_cases hy : y = n
      · subst hy
        simp [hp]
      · by_cases h2 : y < n
        · simp [h2, show y < n + 1 by omega, show ¬ n = y by omega]
        · simp [h2, show ¬ y < n + 1 by omega, show ¬ n = y by omega]
    · rename_i hp
      rw [Nat.add_zero, ih]
      by_cases hy : y = n
      · subst hy
        simp [hp]
      · by_cases h2 : y < n
        · simp [h2, show y < n + 1 by omega]
        · simp [h2, show ¬ y < n + 1 by omega]
theorem bits_ext {n a b : Nat} (ha : a < 2 ^ n) (hb : b < 2 ^ n) (h : ∀ y, y < n → a.testBit y = b.testBit y) : a = b := by
  apply Nat.eq_of_testBit_eq
  intro y
  by_cases hy : y < n
  · exact h y hy
  · have hp : 2 ^ n ≤ 2 ^ y := Nat.pow_le_pow_right (by decide) (by omega)
    rw [Nat.testBit_lt_two_pow (Nat.lt_of_lt_of_le ha hp), Nat.testBit_lt_two_pow (Nat.lt_of_lt_of_le hb hp)]
theorem bitsOf_self {n b : Nat} (h : b < 2 ^ n) : bitsOf n b.testBit = b := bits_ext (bitsOf_lt _ _) h fun y hy => by
  rw [bitsOf_test]
  simp [hy]
abbrev Rel := Nat → Nat → Bool
def stepR (R : Rel) (m : Nat) : Rel := fun x z => R x z || (R x m && R m z)
def In (n : Nat) (R : Rel) : Prop := ∀ x y, R x y = true → x < n ∧ y < n
end Fo
namespace Fo
open PySem PySem.Spec PyProof.Rows L2
open Evl (ixN_nat)
variable [Nm]
def iSeq (K : PySem.W.Frag) (tl : TE) : TI := fun σ H R => tl σ H fun x H1 => (∃ a, x = .ref a ∧ (∃ xs, SqL K H1 a xs) ∧ R (Itl K a) H1) ∨ ∃ a, x = .ref a ∧ (∃ xs, SqT K H1 a xs) ∧ R (Itt K a) H1
theorem pi_seq {X : Cx} {tg l : Expr} {tl : TE} (hl : PE X l tl) : PI X tg l (iSeq X.K tl) := by
  refine ⟨fun pins s σ H R I h => ?_⟩
  refine thn (hl.run pins s σ H _ I h) fun v s1 ⟨x, H1, I1, r1, q1⟩ => ?_
  rcases q1 with ⟨a, e, ⟨xs, hq⟩, q⟩ | ⟨a, e, ⟨xs, hq⟩, q⟩
  · subst e
    cases r1
    obtain ⟨its, rv, p, hz⟩ := I1.list hq
    refine wpAny_pyIter_list p.isList ?_
    refine ⟨s1.heap.objs.size, [s1.heap.objs.size], _, _, H1, rfl, I1.kept (t' := s1.toks) fun b o e => Heap.get?_push_of_some _ e, turn_list a _, ⟨_, Heap.get?_push_size _ rfl, rfl, rfl⟩, fun b hb => ?_, q⟩
    have e : b = s1.heap.objs.size := by simpa using hb
    subst e
    exact I1.fpOk (Nat.le_refl _) (I1.hok.fresh (Nat.le_refl _))
  · subst e
    cases r1
    obtain ⟨its, rv, p, hz⟩ := I1.tuple hq
    refine wpAny_pyIter_tuple (show s1.heap.IsTuple a its.toArray from p) ?_
    refine ⟨s1.heap.objs.size, [s1.heap.objs.size], _, _, H1, rfl, I1.kept (t' := s1.toks) fun b o e => Heap.get?_push_of_some _ e, turn_tuple a _, ⟨_, Heap.get?_push_size _ rfl, rfl, rfl⟩, fun b hb => ?_, q⟩
    have e : b = s1.heap.objs.size := by simpa using hb
    subst e
    exact I1.fpOk (Nat.le_refl _) (I1.hok.fresh (Nat.le_refl _))
section
variable {K : PySem.W.Frag} {B H : Hp} {Γ : List (Option Da)} {te ta tb tc tl : TE} {tt tt1 t u : TT} {d d1 d2 d3 : Da}
theorem i_seqL {ds : List Da} (h : EvG K Γ tl (.lst ds)) : EvI K Γ (iSeq K tl) ds := fun σ B H hs e R k =>
  h σ B H hs e _ fun x B1 H1 n1 rx => by
    obtain ⟨a, xs, rfl, h1, h2⟩ := id rx
    refine .inl ⟨a, rfl, ⟨xs, sq1 n1.ok h1⟩, k _ B1 H1 n1 ⟨fun i H hi e2 => ?_, fun H e2 => ⟨xs, sq1 e2 h1, by rw [h2.length]; exact Nat.le_refl _⟩, fun i B2 H x H2 d hd e2 e3 y => ?_⟩⟩
    · have hi2 : i < xs.length := by rw [h2.length]; exact hi
      exact ⟨xs, xs[i], sq1 e2 h1, by simp [hi2]⟩
    · obtain ⟨rfl, y⟩ := y
      obtain ⟨z, h3, h4⟩ := h2.get hd
      have hx : xs[i]? = some x := y xs (sq1 (e2.trans e3) h1)
      rw [h3] at hx
      cases hx
      exact ⟨B2, .refl e3, Rp.mono e2 _ _ h4⟩
theorem i_seqT {ds : List Da} (h : EvG K Γ tl (.tup ds)) : EvI K Γ (iSeq K tl) ds := fun σ B H hs e R k =>
  h σ B H hs e _ fun x B1 H1 n1 rx => by
    obtain ⟨a, xs, rfl, h1, h2⟩ := id rx
    refine .inr ⟨a, rfl, ⟨xs, ex_t n1.ok h1⟩, k _ B1 H1 n1 ⟨fun i H hi e2 => ?_, fun H e2 => ⟨xs, ex_t e2 h1, by rw [h2.length]; exact Nat.le_refl _⟩, fun i B2 H x H2 d hd e2 e3 y => ?_⟩⟩
    · have hi2 : i < xs.length := by rw [h2.length]; exact hi
      exact ⟨xs, xs[i], ex_t e2 h1, by simp [hi2]⟩
    · obtain ⟨rfl, y⟩ := y
      obtain ⟨z, h3, h4⟩ := h2.get hd
      have hx : xs[i]? = some x := y xs (ex_t (e2.trans e3) h1)
      rw [h3] at hx
      cases hx
      exact ⟨B2, .refl e3, Rp.mono e2 _ _ h4⟩
theorem take_snoc {α : Type} {l : List α} {i : Nat} (h : i < l.length) : l.take (i + 1) = l.take i ++ [l[i]] := by
  rw [List.take_add_one]
  simp [h]
theorem wipe_get {σ : L2.St} {i : Nat} : ∀ {vs : List Nat}, (wipe σ vs)[i]? = if i ∈ vs ∧ i < σ.length then some none else σ[i]?
  | [] => by
    rw [if_neg (by simp)]
    rfl
  | v :: vs => by
    show ((wipe σ vs).set v none)[i]? = _
    rw [List.getElem?_set, wipe_length, wipe_get]
    by_cases h : v = i
    · subst h
      by_cases h2 : v < σ.length
      · simp [h2]
      · rw [if_pos rfl, if_neg h2, if_neg (by simp [h2]), List.getElem?_eq_none (by omega)]
    · rw [if_neg h]
      have e : (i ∈ v :: vs) ↔ (i ∈ vs) := by
        simp only [List.mem_cons]
        exact ⟨fun q => q.elim (fun z => absurd z.symm h) id, .inr⟩
      simp only [e]
theorem wipe_back {σ : L2.St} {j : Nat} {x : V} {vs : List Nat} (h : j ∈ vs) : wipe ((wipe σ vs).set j (some x)) vs = wipe σ vs := by
  apply List.ext_getElem?
  intro i
  rw [wipe_get, wipe_get, List.length_set, wipe_length]
  by_cases hi : i ∈ vs ∧ i < σ.length
  · rw [if_pos hi, if_pos hi]
  · rw [if_neg hi, if_neg hi, List.getElem?_set]
    by_cases e : j = i
    · subst e
      have h2 : ¬ j < σ.length := fun z => hi ⟨h, z⟩
      rw [if_pos rfl, wipe_length, if_neg h2, List.getElem?_eq_none (by omega)]
    · rw [if_neg e, wipe_get, if_neg hi]
theorem EvG.sc {x : V} (h : EvG K Γ te d) (hx : sca d = some x) {σ : L2.St} (hs : Sl K B Γ σ) (e : Ex B H) {Q : VK} (k : ∀ H2, Ex H H2 → Q x H2) : te σ H Q :=
  h σ B H hs e Q fun v B2 H2 n r => by
    obtain rfl := sca_rp hx r
    exact k H2 n.h
theorem EvB.sc {b : Bool} (h : EvB K Γ tt b) {σ : L2.St} (hs : Sl K B Γ σ) (e : Ex B H) {Q : Bool → Hp → Prop} (k : ∀ H2, Ex H H2 → Q b H2) : tt σ H Q :=
  h σ B H hs e Q fun B2 H2 n => k H2 n.h
end
end Fo
namespace Fo
def upF {α : Type} (f : Nat → α) (i : Nat) (v : α) : Nat → α := fun j => if j = i then v else f j
theorem set_tab {α β : Type} {n i : Nat} (g : α → β) (f : Nat → α) (v : α) (hi : i < n) : ((List.range n).map fun x => g (f x)).set i (g v) = (List.range n).map fun x => g (upF f i v x) := by
  apply List.ext_getElem?
  intro j
  rw [List.getElem?_set]
  by_cases hj : j < n
  · by_cases e : i = j
    · subst e
      simp [hj, upF]
    · simp [e, hj, upF, show ¬ j = i by omega]
  · by_cases e : i = j
    · omega
    · rw [if_neg e, List.getElem?_eq_none (by simp; omega), List.getElem?_eq_none (by simp; omega)]
theorem tab_congr {α : Type} {n : Nat} {f g : Nat → α} (h : ∀ i, i < n → f i = g i) : (List.range n).map f = (List.range n).map g := by
  apply List.map_congr_left
  intro a ha
  exact h a (List.mem_range.mp ha)
end Fo
namespace Fo
open PySem PySem.Spec PyProof.Rows L2
open Evl (ixN_nat)
variable [Nm]
structure TabAt (H : Hp) (t : Addr) (rs : List Addr) (n : Nat) (R : Rel) : Prop where
  tab : H t = some (.lst (rs.map V.ref))
  len : rs.length = n
  nd : rs.Nodup
  nt : t ∉ rs
  row : ∀ x r, rs[x]? = some r → H r = some (.lst ((List.range n).map fun z => V.bl (R x z)))
def dTab (n : Nat) (R : Rel) : Da := .lst ((List.range n).map fun x => .lst ((List.range n).map fun z => .bl (R x z)))
def frzT (B H : Hp) (t : Addr) (rs : List Addr) : Hp := fun a => if a = t ∨ a ∈ rs then H a else B a
section
variable {K : PySem.W.Frag} {B H : Hp} {t : Addr} {rs : List Addr} {n : Nat} {R R2 : Rel} {Γ : List (Option Da)}
theorem TabAt.congr (h : TabAt H t rs n R) (e : ∀ x z, x < n → z < n → R x z = R2 x z) : TabAt H t rs n R2 :=
  ⟨h.tab, h.len, h.nd, h.nt, fun x r hr => by
    rw [h.row x r hr]
    have hx : x < n := by
      rw [← h.len]
      exact (List.getElem?_eq_some_iff.mp hr).1
    congr 2
    exact tab_congr fun z hz => by rw [e x z hx hz]⟩
theorem TabAt.at {H2 : Hp} (h : TabAt H t rs n R) (e : ∀ a, a = t ∨ a ∈ rs → H2 a = H a) : TabAt H2 t rs n R :=
  ⟨by rw [e t (.inl rfl)]; exact h.tab, h.len, h.nd, h.nt, fun x r hr => by rw [e r (.inr (List.mem_of_getElem? hr))]; exact h.row x r hr⟩
theorem TabAt.there (h : TabAt H t rs n R) {a : Addr} (ha : a = t ∨ a ∈ rs) : ∃ o, H a = some o ∧ notC o = true := by
  rcases ha with rfl | ha
  · exact ⟨_, h.tab, rfl⟩
  · obtain ⟨x, hx⟩ := List.mem_iff_getElem?.mp ha
    exact ⟨_, h.row x a hx, rfl⟩
theorem TabAt.ml (h : TabAt H t rs n R) {a : Addr} (ha : a = t ∨ a ∈ rs) : ML H a := by
  obtain ⟨o, ho, hc⟩ := h.there ha
  exact ml_of ho hc
theorem TabAt.ex {H2 : Hp} (h : TabAt H t rs n R) (e : Ex H H2) : TabAt H2 t rs n R := h.at fun a ha => by
  obtain ⟨o, ho, hc⟩ := h.there ha
  rw [e.g a o ho (notC_T hc), ho]
def updR (R : Rel) (x z : Nat) (b : Bool) : Rel := fun x' z' => if x' = x ∧ z' = z then b else R x' z'
theorem TabAt.set (h : TabAt H t rs n R) {x z : Nat} {r : Addr} {b : Bool} (hr : rs[x]? = some r) (hz : z < n) :
    TabAt (upd H r (.lst (((List.range n).map fun z => V.bl (R x z)).set z (.bl b)))) t rs n (updR R x z b) := by
  have hrm := List.mem_of_getElem? hr
  refine ⟨?_, h.len, h.nd, h.nt, fun x' r' hr' => ?_⟩
  · rw [upd_ne (fun e => h.nt (by rw [e]; exact hrm))]
    exact h.tab
  · by_cases e : r' = r
    · subst e
      have ex : x' = x := nd_ix h.nd hr' hr
      subst ex
      rw [upd_same, set_tab (fun c : Bool => V.bl c) (fun z => R x' z) b hz]
      congr 2
      apply tab_congr
      intro i _
      unfold upF updR
      by_cases e2 : i = z
      · rw [if_pos e2, if_pos ⟨rfl, e2⟩]
      · rw [if_neg e2, if_neg (fun q => e2 q.2)]
    · rw [upd_ne e, h.row x' r' hr']
      have ne : x' ≠ x := fun q => e (by
        subst q
        rw [hr'] at hr
        exact Option.some.inj hr)
      congr 2
      apply tab_congr
      intro i _
      unfold updR
      rw [if_neg (fun q => ne q.1)]
theorem frz_ex (h : TabAt H t rs n R) (e : Ex B H) : Ex (frzT B H t rs) H := ⟨fun a o q hn => by
  unfold frzT at q
  by_cases ha : a = t ∨ a ∈ rs
  · rw [if_pos ha] at q
    exact q
  · rw [if_neg ha] at q
    exact e.g a o q hn, fun a ps q => by
  unfold frzT at q
  by_cases ha : a = t ∨ a ∈ rs
  · rw [if_pos ha] at q
    cases h.ml ha _ q
  · rw [if_neg ha] at q
    exact e.k a ps q, fun P ⟨ps, h1, h2, h3⟩ => e.t P (by
  have key : ∀ a o, frzT B H t rs a = some o → notC o = false → B a = some o := fun a o ha hc => by
    unfold frzT at ha
    by_cases h2 : a = t ∨ a ∈ rs
    · rw [if_pos h2] at ha
      rw [h.ml h2 o ha] at hc
      cases hc
    · rwa [if_neg h2] at ha
  exact ⟨ps, key _ _ h1 rfl, h2, fun pos cv hc => by
    obtain ⟨c, e1, e2⟩ := h3 pos cv hc
    exact ⟨c, e1, key _ _ e2 rfl⟩⟩)⟩
theorem frz_sub (hB : ∀ a, a = t ∨ a ∈ rs → B a = none) : Ex B (frzT B H t rs) := Ex.of fun a o q => by
  unfold frzT
  by_cases ha : a = t ∨ a ∈ rs
  · rw [hB a ha] at q
    cases q
  · rw [if_neg ha]
    exact q
theorem TabAt.rp (h : TabAt H t rs n R) : Rp K (frzT B H t rs) (dTab n R) (.ref t) := by
  have ft : ∀ a, a = t ∨ a ∈ rs → frzT B H t rs a = H a := fun a ha => by unfold frzT; rw [if_pos ha]
  refine ⟨t, rs.map V.ref, rfl, by rw [ft t (.inl rfl)]; exact h.tab, ?_⟩
  have key : ∀ (l : List Addr) (i : Nat), (∀ x r, l[x]? = some r → rs[i + x]? = some r) → RpA K (frzT B H t rs) ((List.range l.length).map fun x => .lst ((List.range n).map fun z => .bl (R (i + x) z))) (l.map V.ref) := by
    intro l
    induction l with
    | nil => intro i _; rfl
    | cons a l ih =>
      intro i hl
      rw [List.length_cons, List.range_succ_eq_map, List.map_cons, List.map_map]
      have ha := hl 0 a rfl
      refine ⟨.ref a, l.map V.ref, rfl, ⟨a, _, rfl, by rw [ft a (.inr (List.mem_of_getElem? ha))]; exact h.row _ a ha, ?_⟩, ?_⟩
      · have e1 : ((List.range n).map fun z => Da.bl (R (i + 0) z)) = ((List.range n).map fun z => R (i + 0) z).map Da.bl := by rw [List.map_map]; rfl
        have e2 : ((List.range n).map fun z => V.bl (R (i + 0) z)) = ((List.range n).map fun z => R (i + 0) z).map V.bl := by rw [List.map_map]; rfl
        rw [e1, e2]
        generalize (List.range n).map (fun z => R (i + 0) z) = bs
        induction bs with
        | nil => rfl
        | cons b r ih => exact ⟨_, _, rfl, rfl, ih⟩
      · have := ih (i + 1) fun x r hx => by
          have := hl (x + 1) r hx
          rw [show i + 1 + x = i + (x + 1) by omega]
          exact this
        have e : ((fun x => Da.lst ((List.range n).map fun z => Da.bl (R (i + x) z))) ∘ Nat.succ) = fun x => Da.lst ((List.range n).map fun z => Da.bl (R (i + 1 + x) z)) := by
          funext x
          show Da.lst ((List.range n).map fun z => Da.bl (R (i + (x + 1)) z)) = _
          rw [show i + 1 + x = i + (x + 1) by omega]
        rw [e]
        exact this
  have := key rs 0 fun x r hx => by rw [Nat.zero_add]; exact hx
  rw [h.len] at this
  have e : ((List.range n).map fun x => Da.lst ((List.range n).map fun z => Da.bl (R (0 + x) z))) = (List.range n).map fun x => Da.lst ((List.range n).map fun z => Da.bl (R x z)) := by
    apply List.map_congr_left
    intro a _
    rw [Nat.zero_add]
  rw [e] at this
  exact this
theorem Nx.frzT {B2 H2 : Hp} (nx : Nx B H B2 H2) (h : TabAt H2 t rs n R) (h0 : ∀ a, a = t ∨ a ∈ rs → H a = none) (hB : ∀ a, a = t ∨ a ∈ rs → B2 a = none) : Nx B H (Fo.frzT B2 H2 t rs) H2 :=
  ⟨frz_ex h nx.ok, nx.b.trans (frz_sub hB), nx.h, fun a h1 h2 => by
    have ha : ¬ (a = t ∨ a ∈ rs) := fun z => h2.ne (h0 a z)
    unfold Fo.frzT
    rw [if_neg ha]
    exact nx.nw a h1 h2⟩
def prog (R : Rel) (y x z : Nat) : Rel := fun x' z' => if x' < x ∨ (x' = x ∧ z' < z) then stepR R y x' z' else R x' z'
end
end Fo
namespace Fo
open PySem PySem.Spec PyProof.Rows L2
open Evl (ixN_nat)
variable [Nm]
section
variable {M : Model} {prog : Program} {w : World} {A : Around} {E : Value → Shared → Prop} {s : Shared} {K : PySem.W.Frag} {x C f L : Addr} {ox : Obj} {od : Option Obj} {b tb : Value} {h₀ : Heap} {m : Str → Option Value}
end
section
variable {X : Cx} {CX : CXT} {C f : Addr} {fd : FuncData} {ps : List Str} {sp : Sp} {E : XK} {n : Nat}
end
end Fo
namespace Fo
open PySem PySem.Spec PyProof.Rows L2
open Evl (ixN_nat)
variable [Nm]
mutual
def toP : Da → PyData
  | .non => .none
  | .bl b => .bool b
  | .int i => .int i
  | .str x => .str x
  | .lst ds => .list (toPs ds)
  | .tup ds => .tuple (toPs ds)
  | .rng _ _ => .none
  | .raw _ => .none
  | .fn _ _ _ _ _ => .none
  | .dct _ _ => .none
  | .ins _ _ _ => .none
def toPs : List Da → List PyData
  | [] => []
  | d :: ds => toP d :: toPs ds
end
section
variable {K : PySem.W.Frag} {B H : Hp} {Γ : List (Option Da)} {ta tb : TE} {d d1 d2 : Da}
end
end Fo
namespace Fo
open PySem PySem.Spec PyProof.Rows L2
open Evl (ixN_nat)
variable [Nm]
abbrev Sls := List (Option Da)
abbrev Mus := List (Nat × List Da)
def MuS (K : PySem.W.Frag) (H0 B H : Hp) (σ : L2.St) : Mus → Prop
  | [] => True
  | m :: r => (∃ l xs, σ[m.1]? = some (some (.ref l)) ∧ H0 l = none ∧ B l = none ∧ H l = some (.lst xs) ∧ RpA K B m.2 xs ∧ ∀ q ∈ r, σ[q.1]? ≠ some (some (.ref l))) ∧ MuS K H0 B H σ r
inductive Out where
  | nx (Γ : Sls) (M : Mus)
  | rt (d : Da)
  | bk (Γ : Sls) (M : Mus)
def Fin (K : PySem.W.Frag) (B0 H0 B : Hp) (D : Ends) : Out → Prop
  | .nx Γ M => ∀ σ2 B2 H2, Ex B B2 → Sl K B2 Γ σ2 → MuS K H0 B2 H2 σ2 M → Nx B0 H0 B2 H2 → D.nx σ2 H2
  | .rt d => ∀ v B2 H2, Nx B0 H0 B2 H2 → Rp K B2 d v → D.rt v H2
  | .bk Γ M => ∀ σ2 B2 H2, Ex B B2 → Sl K B2 Γ σ2 → MuS K H0 B2 H2 σ2 M → Nx B0 H0 B2 H2 → D.bk σ2 H2
def EvT (K : PySem.W.Frag) (B0 H0 : Hp) (Γ : Sls) (M : Mus) (ts : TS) (o : Out) : Prop :=
  ∀ σ B H D, Sl K B Γ σ → MuS K H0 B H σ M → Nx B0 H0 B H → Fin K B0 H0 B D o → ts D σ H
def le : Sls → Sls → Prop
  | [], [] => True
  | a :: r, b :: s => (b = none ∨ b = a) ∧ le r s
  | _, _ => False
theorem le_refl : ∀ Γ : Sls, le Γ Γ
  | [] => trivial
  | _ :: r => ⟨.inr rfl, le_refl r⟩
theorem Sl.le {K : PySem.W.Frag} {B : Hp} : ∀ {Γ Γ2 : Sls} {σ : L2.St}, Sl K B Γ σ → le Γ Γ2 → Sl K B Γ2 σ
  | [], [], _, h, _ => h
  | a :: r, b :: s, [], h, l => by
    cases a <;> exact False.elim h
  | none :: r, b :: s, x :: σ, h, l => by
    have e : b = none := by
      rcases l.1 with e | e <;> exact e
    subst e
    exact ⟨trivial, Sl.le h.2 l.2⟩
  | some d :: r, b :: s, x :: σ, h, l => by
    rcases l.1 with e | e
    · subst e
      exact ⟨trivial, Sl.le h.2 l.2⟩
    · subst e
      exact ⟨h.1, Sl.le h.2 l.2⟩
theorem Sl.len {K : PySem.W.Frag} {B : Hp} : ∀ {Γ : Sls} {σ : L2.St}, Sl K B Γ σ → σ.length = Γ.length
  | [], [], _ => rfl
  | a :: r, [], h => by
    cases a <;> exact False.elim h
  | [], x :: σ, h => False.elim h
  | none :: r, x :: σ, h => by
    rw [List.length_cons, List.length_cons, Sl.len h.2]
  | some d :: r, x :: σ, h => by
    rw [List.length_cons, List.length_cons, Sl.len h.2]
section
variable {K : PySem.W.Frag} {B0 H0 B H B2 H2 : Hp} {Γ Γ1 Γ2 : Sls} {M M1 M2 : Mus} {te ta tb : TE} {tt : TT} {t u tu t1 t2 : TS} {o : Out} {d d1 d2 : Da} {σ : L2.St} {i j k : Nat} {ds : List Da}
theorem MuS.nx : ∀ {M : Mus}, MuS K H0 B H σ M → Nx B H B2 H2 → MuS K H0 B2 H2 σ M
  | [], _, _ => trivial
  | _ :: _, ⟨⟨l, xs, h1, h2, h3, h4, h5, h6⟩, hr⟩, n => ⟨⟨l, xs, h1, h2, (n.apart h3 h4).1, (n.apart h3 h4).2, RpA.mono n.b _ _ h5, h6⟩, hr.nx n⟩
theorem MuS.set {x : Option V} : ∀ {M : Mus}, MuS K H0 B H σ M → (∀ q ∈ M, q.1 ≠ i) → MuS K H0 B H (σ.set i x) M
  | [], _, _ => trivial
  | m :: r, ⟨⟨l, xs, h1, h2, h3, h4, h5, h6⟩, hr⟩, n => by
    have hg : ∀ q ∈ m :: r, (σ.set i x)[q.1]? = σ[q.1]? := fun q hq => by rw [List.getElem?_set_ne (fun e => n q hq e.symm)]
    exact ⟨⟨l, xs, by rw [hg m (by simp)]; exact h1, h2, h3, h4, h5, fun q hq => by rw [hg q (List.mem_cons_of_mem _ hq)]; exact h6 q hq⟩, hr.set fun q hq => n q (List.mem_cons_of_mem _ hq)⟩
theorem MuS.updH {l : Addr} {o : HO} : ∀ {M : Mus}, MuS K H0 B H σ M → (∀ q ∈ M, σ[q.1]? ≠ some (some (.ref l))) → MuS K H0 B (upd H l o) σ M
  | [], _, _ => trivial
  | m :: r, ⟨⟨a, xs, h1, h2, h3, h4, h5, h6⟩, hr⟩, n => ⟨⟨a, xs, h1, h2, h3, by
    have : a ≠ l := fun e => n m (by simp) (by rw [h1, e])
    rw [upd_ne this]
    exact h4, h5, h6⟩, hr.updH fun q hq => n q (List.mem_cons_of_mem _ hq)⟩
theorem MuS.updB {l : Addr} {o : HO} (hl : B l = none) : ∀ {M : Mus}, MuS K H0 B H σ M → (∀ q ∈ M, σ[q.1]? ≠ some (some (.ref l))) → MuS K H0 (upd B l o) H σ M
  | [], _, _ => trivial
  | m :: r, ⟨⟨a, xs, h1, h2, h3, h4, h5, h6⟩, hr⟩, n => ⟨⟨a, xs, h1, h2, by
    have : a ≠ l := fun e => n m (by simp) (by rw [h1, e])
    rw [upd_ne this]
    exact h3, h4, RpA.mono (.new hl) _ _ h5, h6⟩, hr.updB hl fun q hq => n q (List.mem_cons_of_mem _ hq)⟩
theorem MuS.fresh {l : Addr} : ∀ {M : Mus}, MuS K H0 B H σ M → H l = none → ∀ q ∈ M, σ[q.1]? ≠ some (some (.ref l))
  | [], _, _, q, hq => nomatch hq
  | m :: r, ⟨⟨a, xs, h1, h2, h3, h4, h5, h6⟩, hr⟩, n, q, hq => by
    rcases List.mem_cons.mp hq with e | hq
    · subst e
      rw [h1]
      intro z
      cases z
      rw [n] at h4
      cases h4
    · exact hr.fresh n q hq
theorem Fin.mono {D : Ends} (f : Fin K B0 H0 B D o) (e : Ex B B2) : Fin K B0 H0 B2 D o := by
  cases o with
  | nx Γ M => exact fun σ2 B3 H2 e2 => f σ2 B3 H2 (e.trans e2)
  | rt d => exact f
  | bk Γ M => exact fun σ2 B3 H2 e2 => f σ2 B3 H2 (e.trans e2)
theorem EvT.to {Γ' : Sls} {M' : Mus} (h : EvT K B0 H0 Γ M t (.nx Γ1 M1)) (e : Γ1 = Γ') (e2 : M1 = M') : EvT K B0 H0 Γ M t (.nx Γ' M') := by
  subst e
  subst e2
  exact h
end
end Fo
namespace Fo
open PySem PySem.Spec PyProof.Rows L2
open Evl (ixN_nat)
variable [Nm]
structure Gx (K : PySem.W.Frag) (B0 H0 : Hp) (σ : L2.St) (M : Mus) (B H : Hp) (M' : Mus) (B2 H2 : Hp) : Prop where
  e : Ex B B2
  m : MuS K H0 B2 H2 σ M'
  n : Nx B0 H0 B2 H2
  k : ∀ q ∈ M', ∃ p ∈ M, p.1 = q.1
  f : ∀ a o, notC o = true → B a = none → H a = some o → (∀ q ∈ M, σ[q.1]? ≠ some (some (.ref a))) → B2 a = none ∧ H2 a = some o
section
variable {K : PySem.W.Frag} {B0 H0 B H B2 H2 B3 H3 : Hp} {Γ Γ1 Γ2 : Sls} {M M1 M2 : Mus} {te ta tb : TE} {tt : TT} {t u tu t1 t2 : TS} {o : Out} {d d1 d2 : Da} {σ σ2 : L2.St} {i j k : Nat} {ds : List Da} {r : R2} {tr : TA} {post P1 : Da → Mus → Prop}
theorem MuS.congr : ∀ {M : Mus}, MuS K H0 B H σ M → (∀ q ∈ M, σ2[q.1]? = σ[q.1]?) → MuS K H0 B H σ2 M
  | [], _, _ => trivial
  | m :: r, ⟨⟨l, xs, h1, h2, h3, h4, h5, h6⟩, hr⟩, n =>
    ⟨⟨l, xs, by rw [n m (by simp)]; exact h1, h2, h3, h4, h5, fun q hq => by rw [n q (List.mem_cons_of_mem _ hq)]; exact h6 q hq⟩, hr.congr fun q hq => n q (List.mem_cons_of_mem _ hq)⟩
theorem Gx.of (hm : MuS K H0 B H σ M) (n : Nx B0 H0 B H) (n2 : Nx B H B2 H2) : Gx K B0 H0 σ M B H M B2 H2 := ⟨n2.b, hm.nx n2, n.trans n2, fun q hq => ⟨q, hq, rfl⟩, fun a o hn h1 h2 _ => n2.apart h1 h2 hn⟩
theorem Gx.trans (g : Gx K B0 H0 σ M B H M1 B2 H2) (g2 : Gx K B0 H0 σ M1 B2 H2 M2 B3 H3) : Gx K B0 H0 σ M B H M2 B3 H3 :=
  ⟨g.e.trans g2.e, g2.m, g2.n, fun q hq => by
    obtain ⟨p, hp, e⟩ := g2.k q hq
    obtain ⟨p2, hp2, e2⟩ := g.k p hp
    exact ⟨p2, hp2, e2.trans e⟩, fun a o hn h1 h2 h3 => by
    obtain ⟨q1, q2⟩ := g.f a o hn h1 h2 h3
    exact g2.f a o hn q1 q2 fun q hq => by
      obtain ⟨p, hp, e⟩ := g.k q hq
      rw [← e]
      exact h3 p hp⟩
theorem Gx.slots (g : Gx K B0 H0 σ2 M B H M1 B2 H2) (h : ∀ q ∈ M, σ2[q.1]? = σ[q.1]?) : Gx K B0 H0 σ M B H M1 B2 H2 :=
  ⟨g.e, g.m.congr fun q hq => by
    obtain ⟨p, hp, e⟩ := g.k q hq
    rw [← e]
    exact (h p hp).symm, g.n, g.k, fun a o hn h1 h2 h3 => g.f a o hn h1 h2 fun q hq => by rw [h q hq]; exact h3 q hq⟩
end
end Fo
set_option maxHeartbeats 4000000
namespace Fo
open PySem PyProof.Rows Srt SrtO
section
variable {prog : Program} {w : World} {A : Around} {E : Value → Shared → Prop} {s : Shared}
end
open PySem.Spec L2
open Evl (ixN_nat)
variable [Nm]
section
variable {K : PySem.W.Frag} {Γ : Sls} {ta : TE}
end
end Fo
namespace Fo
open PySem PySem.Spec PyProof.Rows L2
open Evl (ixN_nat)
variable [Nm]
section
variable {P : Program} {w : World} {K : PySem.W.Frag} {mg : Str → Option Value} {base : Heap}
theorem okX {x qual : Str} {st : Stmt} {f : Addr} {fd : FuncData} {N ps : List Str} {k : Nat} {sp : Sp} (F : Fun K x qual st f fd) (S : FnScope N ps (defScope st)) (len : ∀ vs H Q E, sp vs H Q E → vs.length = ps.length)
    (hbody : ∀ (cdv : Value) (A : Around) (outer : List Env) (s : Shared) (H : Hp) (vs : List V) (Q : VK) (E : XK), Room k (A.deeper (envOfC qual (defScope st) s.heap.objs.size f cdv)) → sp vs H Q E →
      ∃ t, PSs (cxOf (L2.CX P w) P w K mg base N qual (defScope st) f cdv A outer s H E) (defBody st) t ∧ t { nx := fun _ H' => Q .non H', rt := Q } (start N vs) H) : FnOk P w K mg base (L2.CX P w) (k + 1) f fd ps sp := by
  obtain ⟨oc, od, kV, doc, pm, an, cdv, ct, osl, rfl, lk, hcd⟩ := F.ex
  exact fn_of lk hcd S len fun A outer s H vs Q E hr hsp => hbody cdv A outer s H vs Q E hr hsp
theorem passX0 {X : Cx} (hp : X.prog = P := by rfl) (hw : X.w = w := by rfl) : Passes (L2.CX P w) X E0 := fun _ _ _ _ _ _ _ h => by
  obtain ⟨a, B, H', cls, d, _, _, _, _, _, _, _, h⟩ := h
  exact h.elim
end
section
variable {K : PySem.W.Frag} {B0 H0 B H : Hp} {Γ : Sls} {M : Mus} {ta : TE} {tr : TA} {d : Da} {ds : List Da} {f : List Da → Da → Prop} {g : List Da → Value → Prop}
theorem g_bits {i : Int} (h : EvG K Γ ta (.int i)) : EvG K Γ (tBits ta) (.int (Builtin.Int.intBits i : Nat)) := fun σ B H hs e Q k => h σ B H hs e _ fun v B1 H1 n1 r => ⟨i, r, (k.mono n1).now n1.ok rfl⟩
end
end Fo
set_option maxHeartbeats 2000000
namespace L2
open PySem PySem.Spec PyProof.Rows
section
variable {X : Cx} {body : List Stmt} {h₀ : ExceptHandler} {hds : List ExceptHandler} {l : List (Value × Option Nat × (Addr → Value → Option Addr → TS))} {pos : Pos} {tb : WX → TS} {Wout : WX}
end
end L2
namespace Fo
open PySem PySem.Spec PyProof.Rows L2
open Evl (ixN_nat)
variable [Nm]
inductive Ra where
  | mal
  | ref (r : Str)
def RaE (CM CR : Addr) (b : Ra) (H : Hp) (E : XK) : Prop := match b with
  | .mal => ∀ H2, Ex H H2 → E (.ref CM) none H2
  | .ref r => ∀ dd H2, Ex H H2 → H2 dd = some (.xd [("reason", .str r)]) → E (.ref CR) (some dd) H2
theorem RaE.mono {CM CR : Addr} {b : Ra} {H H2 : Hp} {E : XK} (h : RaE CM CR b H E) (e : Ex H H2) : RaE CM CR b H2 E := by
  cases b with
  | mal => exact fun H3 e3 => h H3 (e.trans e3)
  | ref r => exact fun dd H3 e3 => h dd H3 (e.trans e3)
section
variable {P : Program} {w : World} {K : PySem.W.Frag} {mg : Str → Option Value} {base : Heap}
end
section
variable {K : PySem.W.Frag} {B H : Hp} {Γ : Sls} {tr : TA} {d : Da} {ds : List Da} {f : List Da → Da → Prop} {g : List Da → Ra → Prop} {CM CR C : Addr} {E : XK} {σ : L2.St} {Q : VK}
end
end Fo
namespace Fo
open PySem PySem.Spec PyProof.Rows L2
open Evl (ixN_nat)
variable [Nm]
section
variable {M : Model} {A : Around} {E : Value → Shared → Prop} {s : Shared} {K : PySem.W.Frag} {x C f : Addr} {ox : Obj} {od : Option Obj}
end
section
variable {X : Cx} {CX : CXT} {C f : Addr} {fd : FuncData} {ps : List Str} {sp : Sp} {E : XK} {n : Nat}
end
section
variable {K : PySem.W.Frag} {B0 H0 B H : Hp} {Γ : Sls} {M : Mus} {ta te : TE} {tr : TA} {d : Da} {t u tu : TS} {i j : Nat}
end
end Fo
namespace Fo
open PySem PySem.Spec PyProof.Rows L2
open Evl (ixN_nat)
variable [Nm]
abbrev Mu := List (Option Nat × Addr × List Da)
def MuH (K : PySem.W.Frag) (H0 B H : Hp) : Mu → Prop
  | [] => True
  | m :: r => (H0 m.2.1 = none ∧ B m.2.1 = none ∧ (∃ xs, H m.2.1 = some (.lst xs) ∧ RpA K B m.2.2 xs) ∧ ∀ q ∈ r, q.2.1 ≠ m.2.1) ∧ MuH K H0 B H r
structure Stt (K : PySem.W.Frag) (B0 H0 : Hp) (Γ : Sls) (M : Mu) (σ : L2.St) (B H : Hp) : Prop where
  s : Sl K B Γ σ
  h : MuH K H0 B H M
  l : ∀ m ∈ M, ∀ k, m.1 = some k → σ[k]? = some (some (.ref m.2.1))
  n : Nx B0 H0 B H
inductive Ou where
  | nx (Γ : Sls) (M : Mu)
  | rt (d : Da) (M : Mu)
  | bk (Γ : Sls) (M : Mu)
  | ct (Γ : Sls) (M : Mu)
def FinO (K : PySem.W.Frag) (B0 H0 B : Hp) (D : Ends) : Ou → Prop
  | .nx Γ M => ∀ σ2 B2 H2, Ex B B2 → Stt K B0 H0 Γ M σ2 B2 H2 → D.nx σ2 H2
  | .rt d M => ∀ v B2 H2, Ex B B2 → MuH K H0 B2 H2 M → Nx B0 H0 B2 H2 → Rp K B2 d v → D.rt v H2
  | .bk Γ M => ∀ σ2 B2 H2, Ex B B2 → Stt K B0 H0 Γ M σ2 B2 H2 → D.bk σ2 H2
  | .ct Γ M => ∀ σ2 B2 H2, Ex B B2 → Stt K B0 H0 Γ M σ2 B2 H2 → D.ct σ2 H2
def EvP (K : PySem.W.Frag) (B0 H0 : Hp) (Γ : Sls) (M : Mu) (ts : TS) (post : Ou → Prop) : Prop :=
  ∀ σ B H D, Stt K B0 H0 Γ M σ B H → (∀ o, post o → FinO K B0 H0 B D o) → ts D σ H
def EvY (K : PySem.W.Frag) (B0 H0 : Hp) (Γ : Sls) (M : Mu) (te : TE) (post : Da → Mu → Prop) : Prop :=
  ∀ σ B H, Stt K B0 H0 Γ M σ B H → ∀ Q : VK, (∀ d M' v B2 H2, post d M' → Ex B B2 → Stt K B0 H0 Γ M' σ B2 H2 → Rp K B2 d v → Q v H2) → te σ H Q
def EvYB (K : PySem.W.Frag) (B0 H0 : Hp) (Γ : Sls) (M : Mu) (tt : TT) (post : Bool → Mu → Prop) : Prop :=
  ∀ σ B H, Stt K B0 H0 Γ M σ B H → ∀ Q : Bool → Hp → Prop, (∀ b M' B2 H2, post b M' → Ex B B2 → Stt K B0 H0 Γ M' σ B2 H2 → Q b H2) → tt σ H Q
def EvYS (K : PySem.W.Frag) (B0 H0 : Hp) (Γ : Sls) (M : Mu) (ta : TA) (post : List Da → Mu → Prop) : Prop :=
  ∀ σ B H, Stt K B0 H0 Γ M σ B H → ∀ Q : List V → Hp → Prop, (∀ ds M' vs B2 H2, post ds M' → Ex B B2 → Stt K B0 H0 Γ M' σ B2 H2 → RpA K B2 ds vs → Q vs H2) → ta σ H Q
def EvYI (K : PySem.W.Frag) (B0 H0 : Hp) (Γ : Sls) (M : Mu) (wi : TI) (post : List Da → Mu → Prop) : Prop :=
  ∀ σ B H, Stt K B0 H0 Γ M σ B H → ∀ R : It → Hp → Prop, (∀ ds M' J B2 H2, post ds M' → Ex B B2 → Stt K B0 H0 Γ M' σ B2 H2 → WalkD K J B2 ds → R J H2) → wi σ H R
section
variable {K : PySem.W.Frag} {B0 H0 B H B2 H2 B3 H3 : Hp} {Γ Γ1 Γ2 : Sls} {M M1 M2 : Mu} {te ta tb : TE} {tt ttb : TT} {t u tu t1 t2 : TS} {d d1 d2 : Da} {σ σ2 : L2.St} {i j k : Nat} {ds : List Da} {r : R2} {tr : TA} {post : Ou → Prop}
theorem MuH.nx : ∀ {M : Mu}, MuH K H0 B H M → Nx B H B2 H2 → MuH K H0 B2 H2 M
  | [], _, _ => trivial
  | _ :: _, ⟨⟨h1, h2, ⟨xs, h3, h4⟩, h5⟩, hr⟩, n => ⟨⟨h1, (n.apart h2 h3).1, ⟨xs, (n.apart h2 h3).2, RpA.mono n.b _ _ h4⟩, h5⟩, hr.nx n⟩
theorem MuH.updH {l : Addr} {o : HO} : ∀ {M : Mu}, MuH K H0 B H M → (∀ q ∈ M, q.2.1 ≠ l) → MuH K H0 B (upd H l o) M
  | [], _, _ => trivial
  | m :: r, ⟨⟨h1, h2, ⟨xs, h3, h4⟩, h5⟩, hr⟩, n => ⟨⟨h1, h2, ⟨xs, by rw [upd_ne (n m (by simp))]; exact h3, h4⟩, h5⟩, hr.updH fun q hq => n q (List.mem_cons_of_mem _ hq)⟩
theorem MuH.updB {l : Addr} {o : HO} (hl : B l = none) : ∀ {M : Mu}, MuH K H0 B H M → (∀ q ∈ M, q.2.1 ≠ l) → MuH K H0 (upd B l o) H M
  | [], _, _ => trivial
  | m :: r, ⟨⟨h1, h2, ⟨xs, h3, h4⟩, h5⟩, hr⟩, n => ⟨⟨h1, by rw [upd_ne (n m (by simp))]; exact h2, ⟨xs, h3, RpA.mono (.new hl) _ _ h4⟩, h5⟩, hr.updB hl fun q hq => n q (List.mem_cons_of_mem _ hq)⟩
theorem MuH.fresh {l : Addr} : ∀ {M : Mu}, MuH K H0 B H M → H l = none → ∀ q ∈ M, q.2.1 ≠ l
  | [], _, _, q, hq => nomatch hq
  | m :: r, ⟨⟨h1, h2, ⟨xs, h3, h4⟩, h5⟩, hr⟩, n, q, hq => by
    rcases List.mem_cons.mp hq with e | hq
    · subst e
      intro z
      rw [z, n] at h3
      cases h3
    · exact hr.fresh n q hq
theorem MuH.at : ∀ {M : Mu} {j : Nat} {o : Option Nat} {l : Addr} {ds : List Da}, MuH K H0 B H M → M[j]? = some (o, l, ds) → H0 l = none ∧ B l = none ∧ ∃ xs, H l = some (.lst xs) ∧ RpA K B ds xs
  | [], _, _, _, _, _, e => by simp at e
  | m :: r, 0, o, l, ds, ⟨⟨h1, h2, h3, h5⟩, hr⟩, e => by
    cases (Option.some.inj e : m = _)
    exact ⟨h1, h2, h3⟩
  | m :: r, j + 1, o, l, ds, ⟨_, hr⟩, e => hr.at (j := j) e
theorem MuH.put {xs : List V} {ds2 : List Da} : ∀ {M : Mu} {j : Nat} {o : Option Nat} {l : Addr} {ds : List Da}, MuH K H0 B H M → M[j]? = some (o, l, ds) → RpA K B ds2 xs → MuH K H0 B (upd H l (.lst xs)) (M.set j (o, l, ds2))
  | [], _, _, _, _, _, e, _ => by simp at e
  | m :: r, 0, o, l, ds, ⟨⟨h1, h2, h3, h5⟩, hr⟩, e, rr => by
    cases (Option.some.inj e : m = _)
    exact ⟨⟨h1, h2, ⟨xs, upd_same, rr⟩, h5⟩, hr.updH h5⟩
  | m :: r, j + 1, o, l, ds, ⟨⟨h1, h2, ⟨ys, h3, h4⟩, h5⟩, hr⟩, e, rr => by
    have hm : (o, l, ds) ∈ r := List.mem_of_getElem? (i := j) e
    have hne : m.2.1 ≠ l := fun z => h5 _ hm z.symm
    refine ⟨⟨h1, h2, ⟨ys, by rw [upd_ne hne]; exact h3, h4⟩, fun q hq => ?_⟩, hr.put (j := j) e rr⟩
    rcases List.mem_or_eq_of_mem_set hq with hq | hq
    · exact h5 q hq
    · subst hq
      exact Ne.symm hne
theorem MuH.drop : ∀ {M : Mu} {j : Nat}, MuH K H0 B H M → MuH K H0 B H (M.eraseIdx j)
  | [], _, _ => trivial
  | m :: r, 0, ⟨_, hr⟩ => hr
  | m :: r, j + 1, ⟨⟨h1, h2, h3, h5⟩, hr⟩ => ⟨⟨h1, h2, h3, fun q hq => h5 q (List.mem_of_mem_eraseIdx hq)⟩, hr.drop (j := j)⟩
theorem MuH.apart : ∀ {M : Mu} {j : Nat} {o : Option Nat} {l : Addr} {ds : List Da}, MuH K H0 B H M → M[j]? = some (o, l, ds) → ∀ q ∈ M.eraseIdx j, q.2.1 ≠ l
  | [], _, _, _, _, _, e, q, hq => by simp at e
  | m :: r, 0, o, l, ds, ⟨⟨h1, h2, h3, h5⟩, hr⟩, e, q, hq => by
    cases (Option.some.inj e : m = _)
    exact h5 q hq
  | m :: r, j + 1, o, l, ds, ⟨⟨h1, h2, h3, h5⟩, hr⟩, e, q, hq => by
    rcases List.mem_cons.mp hq with e2 | hq
    · subst e2
      exact fun z => h5 _ (List.mem_of_getElem? (i := j) e) z.symm
    · exact hr.apart (j := j) e q hq
theorem Stt.nx (s : Stt K B0 H0 Γ M σ B H) (n : Nx B H B2 H2) : Stt K B0 H0 Γ M σ B2 H2 := ⟨s.s.mono n.b, s.h.nx n, s.l, s.n.trans n⟩
theorem Stt.ok (s : Stt K B0 H0 Γ M σ B H) : Ex B H := s.n.ok
theorem Stt.le (s : Stt K B0 H0 Γ M σ B H) (l : le Γ Γ2) : Stt K B0 H0 Γ2 M σ B H := ⟨s.s.le l, s.h, s.l, s.n⟩
theorem Stt.set {v : V} (s : Stt K B0 H0 Γ M σ B H) (r : Rp K B d v) (hi : ∀ m ∈ M, m.1 ≠ some i) : Stt K B0 H0 (Γ.set i (some d)) M (σ.set i (some v)) B H :=
  ⟨s.s.set i r, s.h, fun m hm k hk => by rw [List.getElem?_set_ne (fun e => hi m hm (by rw [hk, e]))]; exact s.l m hm k hk, s.n⟩
theorem FinO.mono {D : Ends} {o : Ou} (f : FinO K B0 H0 B D o) (e : Ex B B2) : FinO K B0 H0 B2 D o := by
  cases o with
  | nx Γ M => exact fun σ2 B3 H2 e2 => f σ2 B3 H2 (e.trans e2)
  | rt d M => exact fun v B3 H2 e2 => f v B3 H2 (e.trans e2)
  | bk Γ M => exact fun σ2 B3 H2 e2 => f σ2 B3 H2 (e.trans e2)
  | ct Γ M => exact fun σ2 B3 H2 e2 => f σ2 B3 H2 (e.trans e2)
theorem h0_none {l : Addr} (n : Nx B0 H0 B H) (h : H l = none) : H0 l = none := n.h.s l h
theorem y_pure (h : EvG K Γ te d) : EvY K B0 H0 Γ M te (fun d' M' => d' = d ∧ M' = M) := fun σ B H s Q q =>
  h σ B H s.s s.ok _ fun v B2 H2 n2 r => q d M v B2 H2 ⟨rfl, rfl⟩ n2.b (s.nx n2) r
theorem y_of {P : Da → Mu → Prop} (h : EvG K Γ te d) (p : P d M) : EvY K B0 H0 Γ M te P := fun σ B H s Q q =>
  h σ B H s.s s.ok _ fun v B2 H2 n2 r => q d M v B2 H2 p n2.b (s.nx n2) r
theorem yb_of {b : Bool} {P : Bool → Mu → Prop} (h : EvB K Γ tt b) (p : P b M) : EvYB K B0 H0 Γ M tt P := fun σ B H s Q q =>
  h σ B H s.s s.ok _ fun B2 H2 n2 => q b M B2 H2 p n2.b (s.nx n2)
theorem ys_of {P : List Da → Mu → Prop} (h : EvS K Γ tr ds) (p : P ds M) : EvYS K B0 H0 Γ M tr P := fun σ B H s Q q =>
  h σ B H s.s s.ok _ fun v B2 H2 n2 r => q ds M v B2 H2 p n2.b (s.nx n2) r
theorem yi_of {P : List Da → Mu → Prop} {wi : TI} (h : EvI K Γ wi ds) (p : P ds M) : EvYI K B0 H0 Γ M wi P := fun σ B H s R q =>
  h σ B H s.s s.ok _ fun J B2 H2 n2 w => q ds M J B2 H2 p n2.b (s.nx n2) w
theorem ys_nil {P : List Da → Mu → Prop} (p : P [] M) : EvYS K B0 H0 Γ M tNil P := ys_of s_nil p
theorem ys_cons {P1 : Da → Mu → Prop} {P : List Da → Mu → Prop} (ha : EvY K B0 H0 Γ M ta P1) (hr : ∀ d1 M1, P1 d1 M1 → EvYS K B0 H0 Γ M1 tr (fun ds M2 => P (d1 :: ds) M2)) : EvYS K B0 H0 Γ M (tCons ta tr) P := fun σ B H s Q q =>
  ha σ B H s _ fun d1 M1 v1 B1 H1 p1 e1 s1 r1 => hr d1 M1 p1 σ B1 H1 s1 _ fun ds M2 vs B2 H2 p2 e2 s2 r2 => q (d1 :: ds) M2 (v1 :: vs) B2 H2 p2 (e1.trans e2) s2 ⟨v1, vs, rfl, Rp.mono e2 _ _ r1, r2⟩
theorem y_cb {rc : List V → Hp → VK → Prop} {P1 : List Da → Mu → Prop} {P : Da → Mu → Prop} (h : EvYS K B0 H0 Γ M tr P1) (hf : ∀ ds M1, P1 ds M1 → ∃ d, RGC K rc ds d ∧ P d M1) : EvY K B0 H0 Γ M (tCB rc tr) P := fun σ B H s Q q =>
  h σ B H s _ fun ds M1 vs B1 H1 p1 e1 s1 r1 => by
    obtain ⟨d, hd, hp⟩ := hf ds M1 p1
    exact hd B1 H1 vs s1.ok r1 Q fun v B2 H2 n2 r2 => q d M1 v B2 H2 hp (e1.trans n2.b) (s1.nx n2) r2
theorem y_len {o : Nat} {l : Addr} {P : Da → Mu → Prop} (hj : M[j]? = some (some o, l, ds)) (hp : P (.int (ds.length : Nat)) M) : EvY K B0 H0 Γ M (tCB (rLenQ K) (tCons (tVar o) tNil)) P := fun σ B H s Q q => by
  obtain ⟨h1, h2, xs, h3, h4⟩ := s.h.at hj
  refine ⟨.ref l, s.l _ (List.mem_of_getElem? hj) o rfl, l, xs, rfl, .inl (.inl (.inl h3)), ?_⟩
  rw [h4.length]
  exact q (.int (ds.length : Nat)) M _ B H hp (.refl _) s rfl
theorem Stt.put {o : Option Nat} {l : Addr} {xs : List V} {ds2 : List Da} (s : Stt K B0 H0 Γ M σ B H) (hj : M[j]? = some (o, l, ds)) (rr : RpA K B ds2 xs) : Stt K B0 H0 Γ (M.set j (o, l, ds2)) σ B (upd H l (.lst xs)) := by
  obtain ⟨h1, h2, ys, h3, h4⟩ := s.h.at hj
  refine ⟨s.s, s.h.put hj rr, fun m hm k hk => ?_, s.n.mut h1 h2 (ml_of h3)⟩
  rcases List.mem_or_eq_of_mem_set hm with hm | hm
  · exact s.l m hm k hk
  · subst hm
    exact s.l _ (List.mem_of_getElem? hj) k hk
theorem seq_natF {x n : Nat} (h1 : x < n) : seqIndex? (x : Int) n = some x := by
  unfold seqIndex?
  simp
  omega
def seqO (u : TS) (K : PySem.W.Frag) (B0 H0 : Hp) (post : Ou → Prop) : Ou → Prop
  | .nx Γ M => EvP K B0 H0 Γ M u post
  | o => post o
theorem p_seq (h : EvP K B0 H0 Γ M t (seqO u K B0 H0 post)) : EvP K B0 H0 Γ M (tSeq t u) post := fun σ B H D s f => by
  refine h σ B H _ s fun o po => ?_
  cases o with
  | nx Γ1 M1 => exact fun σ2 B2 H2 e2 s2 => po σ2 B2 H2 D s2 fun o2 p2 => (f o2 p2).mono e2
  | rt d M1 => exact f _ po
  | bk Γ1 M1 => exact f _ po
  | ct Γ1 M1 => exact f _ po
theorem p_next (hp : post (.nx Γ M)) : EvP K B0 H0 Γ M tNext post := fun σ B H D s f => f _ hp σ B H (.refl _) s
theorem p_asgY {P : Da → Mu → Prop} (h : EvY K B0 H0 Γ M te P) (hk : ∀ d M1, P d M1 → (∀ m ∈ M1, m.1 ≠ some i) ∧ post (.nx (Γ.set i (some d)) M1)) : EvP K B0 H0 Γ M (tAsg te (gName i)) post := fun σ B H D s f =>
  h σ B H s _ fun d M1 v B2 H2 p e2 s2 r => f _ (hk d M1 p).2 _ B2 H2 e2 (s2.set r (hk d M1 p).1)
theorem p_asg (h : EvG K Γ te d) (hi : ∀ m ∈ M, m.1 ≠ some i) (hp : post (.nx (Γ.set i (some d)) M)) : EvP K B0 H0 Γ M (tAsg te (gName i)) post := p_asgY (y_pure h) fun d' M1 ⟨e1, e2⟩ => by
  subst e1
  subst e2
  exact ⟨hi, hp⟩
theorem p_retY {P : Da → Mu → Prop} (h : EvY K B0 H0 Γ M te P) (hk : ∀ d M1, P d M1 → post (.rt d M1)) : EvP K B0 H0 Γ M (tRet te) post := fun σ B H D s f =>
  h σ B H s _ fun d M1 v B2 H2 p e2 s2 r => f _ (hk d M1 p) v B2 H2 e2 s2.h s2.n r
theorem p_ret (h : EvG K Γ te d) (hp : post (.rt d M)) : EvP K B0 H0 Γ M (tRet te) post := p_retY (y_pure h) fun d' M1 ⟨e1, e2⟩ => by
  subst e1
  subst e2
  exact hp
theorem p_if {b : Bool} (h : EvB K Γ tt b) (h1 : b = true → EvP K B0 H0 Γ M t1 post) (h2 : b = false → EvP K B0 H0 Γ M t2 post) : EvP K B0 H0 Γ M (tIfS tt t1 t2) post := fun σ B H D s f =>
  h σ B H s.s s.ok _ fun B2 H2 n2 => by
    cases b with
    | true =>
      rw [if_pos rfl]
      exact h1 rfl σ B2 H2 D (s.nx n2) fun o po => (f o po).mono n2.b
    | false =>
      rw [if_neg Bool.false_ne_true]
      exact h2 rfl σ B2 H2 D (s.nx n2) fun o po => (f o po).mono n2.b
theorem p_new (hi : (Γ[i]?).isSome = true) (hn : ∀ m ∈ M, m.1 ≠ some i) (hp : ∀ l, post (.nx (Γ.set i none) ((some i, l, []) :: M))) : EvP K B0 H0 Γ M (tAsg (tLst tNil) (gName i)) post := fun σ B H D s f => by
  refine ⟨Nat.zero_le _, fun l hl => ?_⟩
  have n2 : Nx B H B (upd H l (.lst [])) := .out s.ok hl
  have s2 := s.nx n2
  refine f _ (hp l) _ B _ (.refl _) ⟨s2.s.set0 i, ⟨⟨h0_none s.n hl, fresh_back s.ok hl, ⟨[], upd_same, rfl⟩, s.h.fresh hl⟩, s2.h⟩, fun m hm k hk => ?_, s2.n⟩
  rcases List.mem_cons.mp hm with e | hm
  · subst e
    cases (Option.some.inj hk : i = k)
    have : i < σ.length := by
      rw [s.s.len]
      cases e : Γ[i]? with
      | none => rw [e] at hi; cases hi
      | some x => exact (List.getElem?_eq_some_iff.mp e).1
    simp [this]
  · rw [List.getElem?_set_ne (fun e => hn m hm (by rw [hk, e]))]
    exact s.l m hm k hk
theorem p_app {o : Nat} {l : Addr} {P : Da → Mu → Prop} (hj : M[j]? = some (some o, l, ds)) (h : EvY K B0 H0 Γ M te P) (hk : ∀ d M1, P d M1 → ∃ ds', M1[j]? = some (some o, l, ds') ∧ ds'.length < 1000000 ∧ post (.nx Γ (M1.set j (some o, l, ds' ++ [d])))) : EvP K B0 H0 Γ M (tDrop (tBM K "list" rAppend (tVar o) (tCons te tNil))) post := fun σ B H D s f => by
  obtain ⟨_, _, xs0, h30, _⟩ := s.h.at hj
  refine ⟨.ref l, s.l _ (List.mem_of_getElem? hj) o rfl, .inl ⟨rfl, xs0, .inl (.inl h30)⟩, h σ B H s _ fun d M1 v B2 H2 p e2 s2 r => ?_⟩
  obtain ⟨ds', hj', hz, hp⟩ := hk d M1 p
  obtain ⟨h1, h2, xs, h3, h4⟩ := s2.h.at hj'
  exact ⟨l, xs, v, rfl, rfl, h3, size_lt (by rw [h4.length]; exact hz), f _ hp σ B2 _ e2 (s2.put hj' (h4.append (.one r)))⟩
theorem Stt.frz {o : Option Nat} {l : Addr} (s : Stt K B0 H0 Γ M σ B H) (hj : M[j]? = some (o, l, ds)) : ∃ xs, RpA K B ds xs ∧ H l = some (.lst xs) ∧ B l = none ∧ Stt K B0 H0 Γ (M.eraseIdx j) σ (upd B l (.lst xs)) H := by
  obtain ⟨h1, h2, xs, h3, h4⟩ := s.h.at hj
  exact ⟨xs, h4, h3, h2, s.s.mono (.new h2), s.h.drop.updB h2 (s.h.apart hj), fun m hm => s.l m (List.mem_of_mem_eraseIdx hm), s.n.frz h1 h2 h3⟩
def lopO (I : Sls → Mu → Prop) (post : Ou → Prop) : Ou → Prop
  | .nx Γ M => I Γ M
  | .ct Γ M => I Γ M
  | .bk Γ M => post (.nx Γ M)
  | .rt d M => post (.rt d M)
theorem p_for {wi : TI} (hi : EvI K Γ wi ds) (I : Nat → Sls → Mu → Prop) (h0 : I 0 Γ M) (hn : ∀ i Γ1 M1, I i Γ1 M1 → ∀ m ∈ M1, m.1 ≠ some j)
    (hb : ∀ i d Γ1 M1, ds[i]? = some d → I i Γ1 M1 → EvP K B0 H0 (Γ1.set j (some d)) M1 tu (lopO (I (i + 1)) post)) (he : ∀ Γ1 M1, I ds.length Γ1 M1 → post (.nx Γ1 M1)) : EvP K B0 H0 Γ M (tFor wi (gName j) tu) post := fun σ B H D s f => by
  refine z_for hi s.s s.ok (fun i σ' B' H' => Ex B B' ∧ ∃ Γ1 M1, I i Γ1 M1 ∧ Stt K B0 H0 Γ1 M1 σ' B' H') (fun B1 H1 n1 => ⟨n1.b, Γ, M, h0, s.nx n1⟩) (fun i σ' B' H' ⟨_, _, _, _, q⟩ => q.ok)
    (fun i d x σ' B' H' B2 H2 hd eb ⟨_, Γ1, M1, q, s1⟩ n2 rx => ?_) (fun σ' B' H' eb ⟨_, Γ1, M1, q, s1⟩ => f _ (he Γ1 M1 q) σ' B' H' eb s1)
  refine hb i d Γ1 M1 hd q _ B2 H2 _ ((s1.nx n2).set rx (hn i Γ1 M1 q)) fun o po => ?_
  cases o with
  | nx Γ2 M2 => exact fun σ3 B3 H3 e3 s3 => ⟨B3, n2.b.trans e3, eb.trans (n2.b.trans e3), Γ2, M2, po, s3⟩
  | ct Γ2 M2 => exact fun σ3 B3 H3 e3 s3 => ⟨B3, n2.b.trans e3, eb.trans (n2.b.trans e3), Γ2, M2, po, s3⟩
  | bk Γ2 M2 => exact fun σ3 B3 H3 e3 s3 => f _ po σ3 B3 H3 (eb.trans (n2.b.trans e3)) s3
  | rt d M2 => exact fun v B3 H3 e3 => f _ po v B3 H3 (eb.trans (n2.b.trans e3))
theorem nx_del {l : Addr} (e : Ex B H) (hB : B l = none) : Nx B (delH H l) B H := ⟨e, .refl _, del_sub, fun a h1 _ => h1⟩
theorem MuH.other {l : Addr} (n : Nx B (delH H l) B2 H2) : ∀ {M : Mu}, MuH K H0 B H M → (∀ q ∈ M, q.2.1 ≠ l) → MuH K H0 B2 H2 M
  | [], _, _ => trivial
  | m :: r, ⟨⟨a1, a2, ⟨zs, a3, a4⟩, a5⟩, hr⟩, hn => by
    have hne := hn m (by simp)
    have q := n.apart a2 (by rw [delH_ne hne]; exact a3)
    exact ⟨⟨a1, q.1, ⟨zs, q.2, RpA.mono n.b _ _ a4⟩, a5⟩, hr.other n fun q hq => hn q (List.mem_cons_of_mem _ hq)⟩
theorem MuH.called {o : Option Nat} {l : Addr} {xs1 : List V} {ds1 : List Da} (n : Nx B (delH H l) B2 H2) (hB : B2 l = none) (hH : H2 l = some (.lst xs1)) (ra : RpA K B2 ds1 xs1) : ∀ {M : Mu} {j : Nat}, MuH K H0 B H M → M[j]? = some (o, l, ds) → MuH K H0 B2 H2 (M.set j (o, l, ds1))
  | [], _, _, e => by simp at e
  | m :: r, 0, ⟨⟨a1, a2, a3, a5⟩, hr⟩, e => by
    cases (Option.some.inj e : m = _)
    exact ⟨⟨a1, hB, ⟨xs1, hH, ra⟩, a5⟩, hr.other n a5⟩
  | m :: r, j + 1, ⟨⟨a1, a2, ⟨zs, a3, a4⟩, a5⟩, hr⟩, e => by
    have hml : (o, l, ds) ∈ r := List.mem_of_getElem? (i := j) e
    have hne : m.2.1 ≠ l := fun z => a5 _ hml z.symm
    have q := n.apart a2 (by rw [delH_ne hne]; exact a3)
    refine ⟨⟨a1, q.1, ⟨zs, q.2, RpA.mono n.b _ _ a4⟩, fun q hq => ?_⟩, hr.called n hB hH ra (j := j) e⟩
    rcases List.mem_or_eq_of_mem_set hq with hq | hq
    · exact a5 q hq
    · subst hq
      exact Ne.symm hne
theorem Stt.call {o : Option Nat} {l : Addr} {xs1 : List V} {ds1 : List Da} (s : Stt K B0 H0 Γ M σ B H) (hj : M[j]? = some (o, l, ds)) (n : Nx B (delH H l) B2 H2) (hB : B2 l = none) (hH : H2 l = some (.lst xs1)) (ra : RpA K B2 ds1 xs1) : Stt K B0 H0 Γ (M.set j (o, l, ds1)) σ B2 H2 := by
  obtain ⟨h1, h2, ys, h3, h4⟩ := s.h.at hj
  refine ⟨s.s.mono n.b, s.h.called n hB hH ra hj, fun m hm k hk => ?_, ⟨n.ok, s.n.b.trans n.b, (ex_del s.n.h h1 (ml_of h3)).trans n.h, fun a ha hh => ?_⟩⟩
  · rcases List.mem_or_eq_of_mem_set hm with hm | hm
    · exact s.l m hm k hk
    · subst hm
      exact s.l _ (List.mem_of_getElem? hj) k hk
  · by_cases hal : a = l
    · subst hal
      exact hB
    · exact n.nw a (s.n.nw a ha hh) ((hh.ex s.n.h).del hal)
end
end Fo
namespace Fo
open PySem PySem.Spec PyProof.Rows L2
open Evl (ixN_nat)
variable [Nm]
section
variable {K : PySem.W.Frag} {B0 H0 B H B2 H2 B3 H3 : Hp} {Γ Γ1 Γ2 : Sls} {M M1 M2 : Mu} {te ta tb : TE} {tt ttb : TT} {t u tu t1 t2 : TS} {d d1 d2 : Da} {σ σ2 : L2.St} {i j k : Nat} {ds : List Da} {r : R2} {tr : TA} {post : Ou → Prop}
theorem Stt.over {l : Addr} {xs : List V} {o : Option Nat} (s : Stt K B0 H0 Γ ((o, l, ds) :: M) σ B H) : ∃ xs, RpA K B ds xs ∧ H l = some (.lst xs) ∧ B l = none ∧ H0 l = none ∧ Stt K B0 (upd H0 l (.lst xs)) Γ M σ B H := by
  obtain ⟨⟨h1, h2, ⟨xs, h3, h4⟩, h5⟩, hr⟩ := s.h
  refine ⟨xs, h4, h3, h2, h1, s.s, ?_, fun m hm => s.l m (List.mem_cons_of_mem _ hm), ⟨s.n.ok, s.n.b, ex_frz0 s.n.h h3 rfl, fun a ha hh => ?_⟩⟩
  · have key : ∀ {M : Mu}, MuH K H0 B H M → (∀ q ∈ M, q.2.1 ≠ l) → MuH K (upd H0 l (.lst xs)) B H M := fun {M} => by
      induction M with
      | nil => exact fun _ _ => trivial
      | cons m r ih =>
        intro hm hn
        obtain ⟨⟨a1, a2, a3, a5⟩, hr⟩ := hm
        exact ⟨⟨by rw [upd_ne (hn m (by simp))]; exact a1, a2, a3, a5⟩, ih hr fun q hq => hn q (List.mem_cons_of_mem _ hq)⟩
    exact key hr h5
  · by_cases e : a = l
    · subst e
      exact h2
    · obtain ⟨u, hu, hc⟩ := hh
      rw [upd_ne e] at hu
      exact s.n.nw a ha ⟨u, hu, hc⟩
theorem Stt.back {l : Addr} {xs : List V} {o : Option Nat} (s : Stt K B0 (upd H0 l (.lst xs)) Γ M σ B H) (h0 : H0 l = none) (hb : B0 l = none) : H l = some (.lst xs) ∧ B l = none ∧ Stt K B0 H0 Γ M σ B H ∧ ∀ q ∈ M, q.2.1 ≠ l := by
  have hn : ∀ {M : Mu}, MuH K (upd H0 l (.lst xs)) B H M → MuH K H0 B H M ∧ ∀ q ∈ M, q.2.1 ≠ l := fun {M} => by
    induction M with
    | nil => exact fun _ => ⟨trivial, fun q hq => nomatch hq⟩
    | cons m r ih =>
      intro hm
      obtain ⟨⟨a1, a2, a3, a5⟩, hr⟩ := hm
      have hne : m.2.1 ≠ l := fun z => by
        rw [z, upd_same] at a1
        cases a1
      rw [upd_ne hne] at a1
      refine ⟨⟨⟨a1, a2, a3, a5⟩, (ih hr).1⟩, fun q hq => ?_⟩
      rcases List.mem_cons.mp hq with e | hq
      · subst e
        exact hne
      · exact (ih hr).2 q hq
  refine ⟨s.n.h l _ upd_same, s.n.nw l hb ⟨_, upd_same, rfl⟩, ⟨s.s, (hn s.h).1, s.l, ⟨s.n.ok, s.n.b, (Ex.new h0).trans s.n.h, fun a ha hh => s.n.nw a ha ?_⟩⟩, (hn s.h).2⟩
  · by_cases e : a = l
    · subst e
      exact absurd h0 hh.ne
    · obtain ⟨u, hu, hc⟩ := hh
      exact ⟨u, by rw [upd_ne e]; exact hu, hc⟩
theorem b0_none {l : Addr} (n : Nx B0 H0 B H) (h : B l = none) : B0 l = none := n.b.s l h
theorem lc_own {wi : TI} {vs : List Nat} {P0 : List Da → Mu → Prop} {I : List Da → Nat → List Da → Mu → Prop}
    (hi : EvYI K B0 H0 Γ M wi P0) (hl : ∀ ds M1, P0 ds M1 → ds.length ≤ 500000 ∧ I ds 0 [] M1) (hj : j ∈ vs) (hk : ∀ ds i acc M1, I ds i acc M1 → ∀ m ∈ M1, ∀ k ∈ vs, m.1 ≠ some k) (hz : ∀ ds i acc M1, I ds i acc M1 → acc.length ≤ i)
    (hb : ∀ H0 ds M0 i d acc M1, P0 ds M0 → ds[i]? = some d → I ds i acc M1 → EvYB K B0 H0 ((wipeG Γ vs).set j (some d)) M1 tt (fun b M2 => if b = true then EvY K B0 H0 ((wipeG Γ vs).set j (some d)) M2 te (fun d2 M3 => I ds (i + 1) (acc ++ [d2]) M3) else I ds (i + 1) acc M2))
    (s : Stt K B0 H0 Γ M σ B H) (Q : VK) (q : ∀ ds M0 acc M1 D B2 H2, P0 ds M0 → I ds ds.length acc M1 → Ex B B2 → Stt K B0 H0 Γ ((none, D, acc) :: M1) σ B2 H2 → Q (.ref D) H2) : tLc wi (gName j) tt te vs σ H Q :=
  hi σ B H s _ fun ds M0 J B1 H1 p0 e1 s1 w D hD => by
    have hlen := (hl ds M0 p0).1
    have n2 : Nx B1 H1 B1 (upd H1 D (.lst [])) := .out s1.ok hD
    have s2 := s1.nx n2
    have sD : Stt K B0 H0 Γ ((none, D, []) :: M0) σ B1 (upd H1 D (.lst [])) := ⟨s2.s, ⟨⟨h0_none s1.n hD, fresh_back s1.ok hD, ⟨[], upd_same, rfl⟩, s1.h.fresh hD⟩, s2.h⟩, fun m hm k hk => by
      rcases List.mem_cons.mp hm with e | hm
      · subst e
        cases hk
      · exact s2.l m hm k hk, s2.n⟩
    refine ⟨fun i m H' => m = ds.length - i ∧ i ≤ ds.length ∧ ∃ (B' : Hp) (acc : List Da) (M' : Mu), Ex B1 B' ∧ I ds i acc M' ∧ Stt K B0 H0 Γ ((none, D, acc) :: M') σ B' H',
      ⟨ds.length, by simp, Nat.zero_le _, B1, [], M0, .refl _, (hl ds M0 p0).2, sD⟩, ?_⟩
    rintro i m H' ⟨rfl, hi, B', acc, M', eB, hI, s'⟩
    by_cases hlt : i < ds.length
    · refine .inr ⟨w.goes i H' hlt (eB.trans s'.ok), fun H'' => ∃ (B' : Hp) (acc : List Da) (M' : Mu), Ex B1 B' ∧ I ds (i + 1) acc M' ∧ Stt K B0 H0 Γ ((none, D, acc) :: M') σ B' H'', fun H'' z => ⟨ds.length - (i + 1), by omega, rfl, hlt, z⟩, fun x H'' y => ?_⟩
      obtain ⟨B3, n3, rx⟩ := w.yld i B' H' x H'' ds[i] (by simp [hlt]) eB s'.ok y
      have s3 := s'.nx n3
      obtain ⟨xs, ra, hH, hB, h0, so⟩ := s3.over (xs := [])
      have hB0 : B0 D = none := b0_none s3.n hB
      have hkk := hk ds i acc M' hI
      have same : ∀ m ∈ M', ∀ k, m.1 = some k → ((wipe σ vs).set j (some x))[k]? = some (some (.ref m.2.1)) := fun m hm k hkm => by
        have h1 : k ∉ vs := fun z => hkk m hm k z hkm
        rw [List.getElem?_set_ne (fun e => h1 (by rw [← e]; exact hj)), wipe_get, if_neg (fun z => h1 z.1)]
        exact so.l m hm k hkm
      have st : Stt K B0 (upd H0 D (.lst xs)) ((wipeG Γ vs).set j (some ds[i])) M' ((wipe σ vs).set j (some x)) B3 H'' := ⟨((so.s.wipe vs).set j rx), so.h, same, so.n⟩
      have backS : ∀ {M4 : Mu} {B4 H4 : Hp}, Ex B3 B4 → Stt K B0 (upd H0 D (.lst xs)) ((wipeG Γ vs).set j (some ds[i])) M4 ((wipe σ vs).set j (some x)) B4 H4 → (∀ m ∈ M4, ∀ k ∈ vs, m.1 ≠ some k) → H4 D = some (.lst xs) ∧ B4 D = none ∧ Stt K B0 H0 Γ ((none, D, acc) :: M4) σ B4 H4 := fun {M4 B4 H4} e4 s4 hk4 => by
        obtain ⟨q1, q2, q3, q4⟩ := s4.back (o := none) h0 hB0
        refine ⟨q1, q2, s3.s.mono e4, ⟨⟨h0, q2, ⟨xs, q1, RpA.mono e4 _ _ ra⟩, q4⟩, q3.h⟩, fun m hm k hkm => ?_, q3.n⟩
        rcases List.mem_cons.mp hm with e | hm
        · subst e
          cases hkm
        · have := q3.l m hm k hkm
          have h1 : k ∉ vs := fun z => hk4 m hm k z hkm
          rw [List.getElem?_set_ne (fun e => h1 (by rw [← e]; exact hj)), wipe_get, if_neg (fun z => h1 z.1)] at this
          exact this
      refine ⟨wipe_back hj, hb _ ds M0 i ds[i] acc M' p0 (by simp [hlt]) hI _ B3 H'' st _ fun b M4 B4 H4 p4 e4 s4 => ?_⟩
      cases b with
      | false =>
        rw [if_neg Bool.false_ne_true] at p4 ⊢
        exact ⟨B4, acc, M4, eB.trans (n3.b.trans e4), p4, (backS e4 s4 (hk ds (i + 1) acc M4 p4)).2.2⟩
      | true =>
        rw [if_pos rfl] at p4 ⊢
        refine p4 _ B4 H4 s4 _ fun d2 M5 z B5 H5 p5 e5 s5 rz => ?_
        obtain ⟨q1, q2, q3⟩ := backS (e4.trans e5) s5 (hk ds (i + 1) _ M5 p5)
        refine ⟨xs, q1, size_lt ?_, B5, acc ++ [d2], M5, eB.trans (n3.b.trans (e4.trans e5)), p5, ?_⟩
        · rw [ra.length]
          have := hz ds i acc M' hI
          omega
        · have := q3.put (j := 0) (xs := xs ++ [z]) (ds2 := acc ++ [d2]) rfl ((RpA.mono (e4.trans e5) _ _ ra).append (.one rz))
          exact this
    · have ei : i = ds.length := by omega
      subst ei
      exact .inl ⟨w.stops H' (eB.trans s'.ok), q ds M0 acc M' D B' H' p0 hI (e1.trans eB) s'⟩
end
end Fo
namespace Fo
open PySem PySem.Spec PyProof.Rows L2
open Evl (ixN_nat)
variable [Nm]
def rIxE (K : PySem.W.Frag) : R2 := fun x y H Q => rIxL K x y H Q ∨ rIxT K x y H Q
section
variable {K : PySem.W.Frag} {B0 H0 B H B2 H2 B3 H3 : Hp} {Γ Γ1 Γ2 : Sls} {M M1 M2 : Mu} {te ta tb : TE} {tt ttb : TT} {t u tu t1 t2 : TS} {d d1 d2 : Da} {σ σ2 : L2.St} {i j k : Nat} {ds : List Da} {r : R2} {tr : TA} {post : Ou → Prop}
theorem c_lenE {pl : Da} (hr : pl = .lst ds ∨ pl = .tup ds) : RGC K (rLenQ K) [pl] (.int ds.length) := by
  rcases hr with rfl | rfl
  · exact c_lenL
  · exact c_lenT
theorem yi_rng1N {ts : TA} {P : List Da → Mu → Prop} (h : EvYS K B0 H0 Γ M ts (fun es M' => ∃ n : Nat, es = [.int (n : Int)] ∧ n ≤ 1000 ∧ P ((List.range n).map fun x : Nat => Da.int (x : Int)) M')) : EvYI K B0 H0 Γ M (iRng1 ts) P := fun σ B H s R q =>
  h σ B H s _ fun es M' vs B2 H2 ⟨n, e1, hn, hp⟩ e2 s2 r => by
    subst e1
    obtain ⟨x, rfl, rx⟩ := rpa1 r
    obtain rfl : x = .int (n : Int) := rx
    refine ⟨(n : Int), rfl, by omega, by omega, q _ M' _ B2 H2 hp e2 s2 ?_⟩
    have w : WalkD K (Itr 0 ((n : Int)).toNat) B2 (rng 0 ((n : Int)).toNat) := walk_rng
    have e : rng 0 (((n : Int)).toNat) = (List.range n).map fun x : Nat => Da.int (x : Int) := by
      unfold rng
      rw [Int.toNat_natCast]
      apply List.map_congr_left
      intro a _
      rw [Int.zero_add]
    rw [e] at w
    exact w
end
end Fo
namespace Fo
open PySem PySem.Spec PyProof.Rows L2
open Evl (ixN_nat)
variable [Nm]
abbrev rMin2 : List V → Hp → VK → Prop := fun xs H Q => ∃ i j, xs = [V.int i, V.int j] ∧ Q (.int (if j < i then j else i)) H
abbrev rAbs : List V → Hp → VK → Prop := fun xs H Q => ∃ i, xs = [V.int i] ∧ Q (.int (if i < 0 then -i else i)) H
section
variable {K : PySem.W.Frag} {B0 H0 B H B2 H2 B3 H3 : Hp} {Γ Γ1 Γ2 : Sls} {M M1 M2 : Mu} {te ta tb : TE} {tt ttb : TT} {t u tu t1 t2 : TS} {d d1 d2 : Da} {σ σ2 : L2.St} {i j k : Nat} {ds : List Da} {r : R2} {tr : TA} {post : Ou → Prop}
theorem c_min2 {i j : Int} : RGC K rMin2 [.int i, .int j] (.int (if j < i then j else i)) := fun B H vs e r Q k => by
  obtain ⟨x, y, rfl, rx, ry⟩ := rpa2 r
  exact ⟨i, j, by rw [show x = _ from rx, show y = _ from ry], k.now e rfl⟩
theorem c_abs {i : Int} : RGC K rAbs [.int i] (.int (if i < 0 then -i else i)) := fun B H vs e r Q k => by
  obtain ⟨x, rfl, rx⟩ := rpa1 r
  exact ⟨i, by rw [show x = _ from rx], k.now e rfl⟩
theorem p_raw {o : Nat} {l : Addr} (hj : M[j]? = some (some o, l, ds)) (h : EvP K B0 H0 (Γ.set o (some (.raw (.ref l)))) M t post) : EvP K B0 H0 Γ M t post := fun σ B H D s f => by
  have hσ := s.l _ (List.mem_of_getElem? hj) o rfl
  have e : σ.set o (some (.ref l)) = σ := by
    apply List.ext_getElem?
    intro m
    by_cases hm : m = o
    · subst hm
      obtain ⟨hk, e⟩ := List.getElem?_eq_some_iff.mp hσ
      rw [List.getElem?_set_self hk, hσ]
    · rw [List.getElem?_set_ne (Ne.symm hm)]
  have hs2 := s.s.set (d := .raw (.ref l)) (v := .ref l) o rfl
  rw [e] at hs2
  exact h σ B H D ⟨hs2, s.h, s.l, s.n⟩ f
theorem sq_ex {a : Addr} {xs : List V} (e : Ex H0 H) (h : SqL K H0 a xs) : SqL K H a xs := ex_l e h
theorem y_rowLen {a : Addr} {xs : List V} {P : Da → Mu → Prop} (hS : SqL K H0 a xs) (h : EvG K Γ ta (.raw (.ref a))) (hp : P (.int (xs.length : Nat)) M) : EvY K B0 H0 Γ M (tCB (rLenQ K) (tCons ta tNil)) P := fun σ B H s Q q =>
  h σ B H s.s s.ok _ fun v B2 H2 n2 r => by
    obtain rfl : v = .ref a := r
    have s2 := s.nx n2
    exact ⟨a, xs, rfl, .inl (sq_ex s2.n.h hS), q _ M _ B2 H2 hp n2.b s2 rfl⟩
theorem y_rowIx {a : Addr} {ns : List Int} {x : Nat} {z : Int} {P : Da → Mu → Prop} (hS : SqL K H0 a (ns.map V.int)) (h : EvG K Γ ta (.raw (.ref a))) (hi : EvG K Γ tb (.int (x : Int))) (hx : ns[x]? = some z) (hp : P (.int z) M) : EvY K B0 H0 Γ M (tOp (rIxL K) ta tb) P := fun σ B H s Q q =>
  h σ B H s.s s.ok _ fun v B1 H1 n1 r1 => hi σ B1 H1 (s.nx n1).s (s.nx n1).ok _ fun y B2 H2 n2 r2 => by
    obtain rfl : v = .ref a := r1
    obtain rfl : y = .int (x : Int) := r2
    have s2 := (s.nx n1).nx n2
    exact ⟨a, ns.map V.int, (x : Int), .int z, rfl, rfl, sq_ex s2.n.h hS, atI_nat (by rw [List.getElem?_map, hx]; rfl), q _ M _ B2 H2 hp (n1.b.trans n2.b) s2 rfl⟩
theorem p_forY {wi : TI} {P0 : List Da → Mu → Prop} (hi : EvYI K B0 H0 Γ M wi P0) (I : List Da → Nat → Sls → Mu → Prop) (h0 : ∀ ds M0, P0 ds M0 → I ds 0 Γ M0) (hn : ∀ ds i Γ1 M1, I ds i Γ1 M1 → ∀ m ∈ M1, m.1 ≠ some j)
    (hb : ∀ ds M0 i d Γ1 M1, P0 ds M0 → ds[i]? = some d → I ds i Γ1 M1 → EvP K B0 H0 (Γ1.set j (some d)) M1 tu (lopO (I ds (i + 1)) post)) (he : ∀ ds M0 Γ1 M1, P0 ds M0 → I ds ds.length Γ1 M1 → post (.nx Γ1 M1)) : EvP K B0 H0 Γ M (tFor wi (gName j) tu) post := fun σ B H D s f =>
  hi σ B H s _ fun ds M0 J B1 H1 p0 e1 s1 w => by
    refine ⟨fun i m σ' H' => m = ds.length - i ∧ i ≤ ds.length ∧ ∃ B' Γ1 M1, Ex B1 B' ∧ I ds i Γ1 M1 ∧ Stt K B0 H0 Γ1 M1 σ' B' H', ⟨ds.length, by simp, Nat.zero_le _, B1, Γ, M0, .refl _, h0 ds M0 p0, s1⟩, ?_⟩
    rintro i m σ' H' ⟨rfl, hi, B', Γ1, M1, eB, q, s'⟩
    by_cases hlt : i < ds.length
    · refine .inr ⟨w.goes i H' hlt (eB.trans s'.ok), fun σ3 H4 => ∃ B4 Γ1 M1, Ex B1 B4 ∧ I ds (i + 1) Γ1 M1 ∧ Stt K B0 H0 Γ1 M1 σ3 B4 H4, fun σ3 H4 z => ?_, fun x H2 y => ?_⟩
      · obtain ⟨B4, Γ2, M2, e4, q4, s4⟩ := z
        exact ⟨ds.length - (i + 1), by omega, rfl, hlt, B4, Γ2, M2, e4, q4, s4⟩
      · obtain ⟨B2, n2, rx⟩ := w.yld i B' H' x H2 ds[i] (by simp [hlt]) eB s'.ok y
        refine hb ds M0 i ds[i] Γ1 M1 p0 (by simp [hlt]) q _ B2 H2 _ ((s'.nx n2).set rx (hn ds i Γ1 M1 q)) fun o po => ?_
        cases o with
        | nx Γ2 M2 => exact fun σ3 B3 H3 e3 s3 => ⟨B3, Γ2, M2, eB.trans (n2.b.trans e3), po, s3⟩
        | ct Γ2 M2 => exact fun σ3 B3 H3 e3 s3 => ⟨B3, Γ2, M2, eB.trans (n2.b.trans e3), po, s3⟩
        | bk Γ2 M2 => exact fun σ3 B3 H3 e3 s3 => f _ po σ3 B3 H3 ((e1.trans eB).trans (n2.b.trans e3)) s3
        | rt d M2 => exact fun v B3 H3 e3 => f _ po v B3 H3 ((e1.trans eB).trans (n2.b.trans e3))
    · have ei : i = ds.length := by omega
      subst ei
      exact .inl ⟨w.stops H' (eB.trans s'.ok), f _ (he ds M0 Γ1 M1 p0 q) σ' B' H' (e1.trans eB) s'⟩
end
end Fo
namespace Fo
end Fo
namespace Fo
open PySem PySem.Spec PyProof.Rows L2
open Evl (ixN_nat)
variable [Nm]
section
variable {K : PySem.W.Frag} {B0 H0 B H B2 H2 B3 H3 : Hp} {Γ Γ1 Γ2 : Sls} {M M1 M2 : Mu} {te ta tb to tx : TE} {tt ttb : TT} {t u tu t1 t2 : TS} {d d1 d2 : Da} {σ σ2 : L2.St} {i j k : Nat} {ds : List Da} {r : R2} {tr : TA} {post : Ou → Prop}
theorem and_not_nat (a b : Nat) : Builtin.bitAnd (a : Int) (Builtin.bitNot (b : Int)) = ((a - (a &&& b) : Nat) : Int) := by
  unfold Builtin.bitAnd
  rw [show decide ((0 : Int) ≤ (a : Int)) = true from decide_eq_true (by omega), show decide ((0 : Int) ≤ Builtin.bitNot (b : Int)) = false from decide_eq_false (by unfold Builtin.bitNot; omega)]
  have e : (Builtin.bitNot (Builtin.bitNot (b : Int))).toNat = b := by
    unfold Builtin.bitNot
    omega
  have hle : a &&& b ≤ a := Nat.and_le_left
  show (a : Int) - (((a : Int)).toNat &&& (Builtin.bitNot (Builtin.bitNot (b : Int))).toNat : Nat) = _
  rw [e, Int.toNat_natCast]
  omega
theorem bits_and (n : Nat) (p q : Nat → Bool) : bitsOf n q &&& bitsOf n p = bitsOf n (fun x => q x && p x) := bits_ext (Nat.lt_of_le_of_lt Nat.and_le_left (bitsOf_lt n q)) (bitsOf_lt _ _) fun y hy => by
  rw [Nat.testBit_and, bitsOf_test, bitsOf_test, bitsOf_test, decide_eq_true hy]
  simp
theorem bits_sub : ∀ (n : Nat) (p q : Nat → Bool), bitsOf n q = bitsOf n (fun x => q x && p x) + bitsOf n (fun x => q x && !p x)
  | 0, _, _ => rfl
  | n + 1, p, q => by
    have ih := bits_sub n p q
    unfold bitsOf
    cases hq : q n <;> cases hp : p n <;> simp [hq, hp] <;> omega
theorem bits_minus (n : Nat) (p q : Nat → Bool) : bitsOf n q - (bitsOf n q &&& bitsOf n p) = bitsOf n (fun x => q x && !p x) := by
  rw [bits_and]
  have := bits_sub n p q
  omega
end
end Fo
namespace HandS.TR
open PySem PySem.Spec PyProof PyProof.Rows L2
section
variable {prog : Program} {w : World} {A : Around} {E : Value → Shared → Prop} {s : Shared}
end
end HandS.TR
namespace Fo
open PySem PySem.Spec PyProof.Rows L2 HandS.TR
open Evl (ixN_nat)
variable [Nm]
section
variable {K : PySem.W.Frag} {B0 H0 B H B2 H2 : Hp} {Γ : Sls} {M : Mu} {te ta tb : TE} {d : Da} {ds : List Da}
theorem eqv_int {i j : Int} : PyData.eqv (.int i) (.int j) = decide (i = j) := by
  unfold PyData.eqv
  rw [Bool.eq_iff_iff, decide_eq_true_iff]
  simp
end
end Fo
namespace Fo
open PySem PySem.Spec PyProof.Rows L2
open Evl (ixN_nat)
variable [Nm]
section
variable {K : PySem.W.Frag} {B0 H0 B H B2 H2 B3 H3 : Hp} {Γ Γ1 Γ2 : Sls} {M M1 M2 : Mu} {te ta tb : TE} {tt ttb : TT} {t u tu t1 t2 : TS} {d d1 d2 : Da} {σ σ2 : L2.St} {i j k : Nat} {ds : List Da} {r : R2} {tr : TA} {post : Ou → Prop}
end
end Fo
set_option maxHeartbeats 2000000
namespace Fo
open PySem PySem.Spec PyProof.Rows L2
open LamX (TabS CodeO TabB inv_table)
open NdefX (NF CellsAt NScope startF slotAt ncx envF)
variable [Nm]
section
variable {X : Cx} {pins : List (Addr × Obj)} {σ : L2.St} {H : Hp} {s : Shared}
end
section
variable {P : Program} {w : World} {K : PySem.W.Frag} {mg : Str → Option Value} {base : Heap} {k : Nat} {f c : Addr} {q : Str} {ws : List V} {sp : Sp}
end
end Fo
set_option maxHeartbeats 2000000
namespace Fo
open PySem PySem.Spec PyProof.Rows L2
open LamX (TabS CodeO TabB)
open NdefX (NF CellsAt NScope startF slotAt ncx envF Caps)
variable [Nm]
section
variable {X : Cx} {CX : CXT} {kg kl : Nat} {x p1 p2 : Str} {spg : Heap → Sp} {spl : Sp} {E : XK} {e1 body : Expr} {t1 : TE} {c P : Addr} {params : Arguments} {scope : Scope} {N ps fr : List Str} {js : List Nat} {lpos pos p : Pos}
end
section
variable {K : PySem.W.Frag} {B0 H0 B H : Hp} {Γ : Sls} {M : Mu} {t1 : TE} {tr : TA} {d d1 : Da} {ds cs : List Da} {σ : L2.St}
end
end Fo
set_option maxHeartbeats 2000000
namespace Fo
open PySem PySem.Spec PyProof.Rows L2
open LamX (TabS CodeO TabB)
open PySem.Calls
structure FunL (K : PySem.W.Frag) (x qual : Str) (st : Stmt) (f : Addr) (fd : FuncData) (c : Addr) : Prop where
  ex : ∃ (oc : Value) (od : Option Addr) (kV doc pm : Value) (an : Option Addr) (ct : Value) (osl : Array (Option Value)),
    fd = PySem.W.fnOf x qual (defArgs st) (defBody st) (defScope st) .none kV doc pm an (.ref c) ct ∧ K.lookup f = some ⟨oc, od, .func fd, osl⟩ ∧ PySem.W.codeIn K (.ref c) qual = true
  kp : PySem.W.keepIn K (.ref f) = true
section
variable {P : Program} {w : World} {K : PySem.W.Frag} {mg : Str → Option Value} {base : Heap}
theorem FunL.fun {x qual : Str} {st : Stmt} {f c : Addr} {fd : FuncData} (F : FunL K x qual st f fd c) : Fun K x qual st f fd := by
  obtain ⟨oc, od, kV, doc, pm, an, ct, osl, h1, h2, h3⟩ := F.ex
  exact ⟨⟨oc, od, kV, doc, pm, an, _, ct, osl, h1, h2, h3⟩, F.kp⟩
end
end Fo
set_option maxHeartbeats 2000000
namespace Fo
open PySem PySem.Spec PyProof.Rows L2
open Evl (ixN_nat)
variable [Nm]
def rowsM (n : Nat) (R : Rel) : Nat → List Addr → Mu
  | _, [] => []
  | i, r :: rs => (none, r, (List.range n).map fun z => Da.bl (R i z)) :: rowsM n R (i + 1) rs
def tabM (o : Nat) (t : Addr) (rs : List Addr) (n : Nat) (R : Rel) : Mu := (some o, t, rs.map fun r => Da.raw (.ref r)) :: rowsM n R 0 rs
section
variable {K : PySem.W.Frag} {B0 H0 B H B2 H2 : Hp} {Γ : Sls} {M M2 : Mu} {te : TE} {t1 : TS} {ta tb : TA} {σ : L2.St} {n o : Nat} {t : Addr} {R R2 : Rel} {rs : List Addr} {post : Ou → Prop} {P : Da → Mu → Prop}
theorem rpa_bls {f : Nat → Bool} : ∀ {l : List Nat} {xs : List V}, RpA K B (l.map fun z => Da.bl (f z)) xs ↔ xs = l.map fun z => V.bl (f z)
  | [], xs => Iff.rfl
  | a :: l, xs => by
    constructor
    · rintro ⟨x, r, rfl, h1, h2⟩
      obtain rfl : x = .bl (f a) := h1
      rw [rpa_bls.mp h2]
      rfl
    · rintro rfl
      exact ⟨_, _, rfl, rfl, rpa_bls.mpr rfl⟩
theorem rpa_raws : ∀ {rs : List Addr} {xs : List V}, RpA K B (rs.map fun r => Da.raw (.ref r)) xs ↔ xs = rs.map V.ref
  | [], xs => Iff.rfl
  | a :: l, xs => by
    constructor
    · rintro ⟨x, r, rfl, h1, h2⟩
      obtain rfl : x = .ref a := h1
      rw [rpa_raws.mp h2]
      rfl
    · rintro rfl
      exact ⟨_, _, rfl, rfl, rpa_raws.mpr rfl⟩
theorem rowsM_has {r : Addr} : ∀ {rs : List Addr} {i : Nat}, r ∈ rs → ∃ q ∈ rowsM n R i rs, q.2.1 = r
  | [], _, h => nomatch h
  | a :: rs, i, h => by
    rcases List.mem_cons.mp h with e | h
    · exact ⟨_, List.mem_cons_self, e.symm⟩
    · obtain ⟨q, h1, h2⟩ := rowsM_has h
      exact ⟨q, List.mem_cons_of_mem _ h1, h2⟩
theorem rows_of : ∀ {rs : List Addr} {i : Nat}, MuH K H0 B H (rowsM n R i rs ++ M) → (∀ x r, rs[x]? = some r → H0 r = none ∧ B r = none ∧ H r = some (.lst ((List.range n).map fun z => V.bl (R (i + x) z)))) ∧ rs.Nodup ∧ (∀ q ∈ M, q.2.1 ∉ rs) ∧ MuH K H0 B H M
  | [], i, h => ⟨fun x r e => by simp at e, List.nodup_nil, fun q _ => List.not_mem_nil, h⟩
  | a :: rs, i, ⟨⟨h1, h2, ⟨xs, h3, h4⟩, h5⟩, hr⟩ => by
    obtain ⟨q1, q2, q3, q4⟩ := rows_of hr
    refine ⟨fun x r e => ?_, List.nodup_cons.mpr ⟨fun hm => ?_, q2⟩, fun q hq hm => ?_, q4⟩
    · cases x with
      | zero =>
        cases (Option.some.inj e : a = r)
        exact ⟨h1, h2, by rw [h3, rpa_bls.mp h4]; rfl⟩
      | succ x =>
        obtain ⟨k1, k2, k3⟩ := q1 x r e
        exact ⟨k1, k2, by rw [k3, show i + 1 + x = i + (x + 1) by omega]⟩
    · obtain ⟨q, hq, e⟩ := rowsM_has (n := n) (R := R) (i := i + 1) hm
      exact h5 q (List.mem_append_left _ hq) e
    · rcases List.mem_cons.mp hm with e | hm
      · exact h5 q (List.mem_append_right _ hq) e
      · exact q3 q hq hm
theorem MuH.tab (h : MuH K H0 B H (tabM o t rs n R ++ M)) (hl : rs.length = n) : TabAt H t rs n R ∧ (∀ a, a = t ∨ a ∈ rs → H0 a = none ∧ B a = none) ∧ (∀ q ∈ M, q.2.1 ≠ t ∧ q.2.1 ∉ rs) ∧ MuH K H0 B H M := by
  obtain ⟨⟨h1, h2, ⟨xs, h3, h4⟩, h5⟩, hr⟩ := h
  obtain ⟨q1, q2, q3, q4⟩ := rows_of hr
  rw [rpa_raws.mp h4] at h3
  refine ⟨⟨h3, hl, q2, fun hm => ?_, fun x r e => by rw [(q1 x r e).2.2, Nat.zero_add]⟩, fun a ha => ?_, fun q hq => ⟨h5 q (List.mem_append_right _ hq), q3 q hq⟩, q4⟩
  · obtain ⟨q, hq, e⟩ := rowsM_has (n := n) (R := R) (i := 0) hm
    exact h5 q (List.mem_append_left _ hq) e
  · rcases ha with rfl | ha
    · exact ⟨h1, h2⟩
    · obtain ⟨x, hx⟩ := List.mem_iff_getElem?.mp ha
      exact ⟨(q1 x a hx).1, (q1 x a hx).2.1⟩
theorem MuH.perm (h : M.Perm M2) : MuH K H0 B H M → MuH K H0 B H M2 := by
  induction h with
  | nil => exact id
  | cons a h ih => exact fun ⟨⟨h1, h2, h3, h5⟩, hr⟩ => ⟨⟨h1, h2, h3, fun q hq => h5 q (h.mem_iff.mpr hq)⟩, ih hr⟩
  | swap a b l => exact fun ⟨⟨h1, h2, h3, h5⟩, ⟨⟨k1, k2, k3, k5⟩, hr⟩⟩ => ⟨⟨k1, k2, k3, fun q hq => by
      rcases List.mem_cons.mp hq with e | hq
      · subst e
        exact fun z => h5 _ List.mem_cons_self z.symm
      · exact k5 q hq⟩, ⟨h1, h2, h3, fun q hq => h5 q (List.mem_cons_of_mem _ hq)⟩, hr⟩
  | trans _ _ ih1 ih2 => exact fun h => ih2 (ih1 h)
theorem Stt.perm (h : M.Perm M2) (s : Stt K B0 H0 Γ M σ B H) : Stt K B0 H0 Γ M2 σ B H := ⟨s.s, s.h.perm h, fun m hm => s.l m (h.mem_iff.mpr hm), s.n⟩
theorem MuH.frzT (hB : ∀ a, a ≠ t → a ∉ rs → B2 a = B a) (e : Ex B B2) : ∀ {M : Mu}, MuH K H0 B H M → (∀ q ∈ M, q.2.1 ≠ t ∧ q.2.1 ∉ rs) → MuH K H0 B2 H M
  | [], _, _ => trivial
  | m :: r, ⟨⟨h1, h2, ⟨xs, h3, h4⟩, h5⟩, hr⟩, hm => ⟨⟨h1, by rw [hB _ (hm m List.mem_cons_self).1 (hm m List.mem_cons_self).2]; exact h2, ⟨xs, h3, RpA.mono e _ _ h4⟩, h5⟩, hr.frzT hB e fun q hq => hm q (List.mem_cons_of_mem _ hq)⟩
end
end Fo
set_option maxHeartbeats 2000000
namespace Fo
open PySem PySem.Spec PyProof.Rows L2
open Evl (ixN_nat)
variable [Nm]
section
variable {K : PySem.W.Frag} {B0 H0 B H B2 H2 : Hp} {Γ : Sls} {M : Mu} {te ta tb : TE} {tr : TA} {ds es : List Da} {d : Da} {σ : L2.St} {j : Nat} {post : Ou → Prop}
end
end Fo
set_option maxHeartbeats 2000000
namespace Fo
open PySem PySem.Spec PyProof.Rows L2
theorem last_bounds (n : Nat) : sliceBounds (some (-1)) none none n = (((n - 1 : Nat) : Int), (n : Int), 1) := by
  simp only [sliceBounds, Option.getD_none]
  simp only [show ((-1 : Int) < 0) = True from eq_true (by decide), if_true, show (1 : Int) > 0 by decide]
  congr 1
  · omega
theorem keep_init {α : Type} (p : Nat → Bool) : ∀ (l : List α) (k : Nat), (∀ i, i + 1 < l.length → p (k + i) = false) → (∀ i, i + 1 = l.length → p (k + i) = true) → ((l.zipIdx k).filterMap fun x => if p x.2 then none else some x.1) = l.dropLast
  | [], k, _, _ => rfl
  | [a], k, _, h => by
    have := h 0 rfl
    rw [Nat.add_zero] at this
    simp [List.zipIdx, this]
  | a :: b :: l, k, h1, h2 => by
    have h0 := h1 0 (by simp)
    rw [Nat.add_zero] at h0
    have ih := keep_init p (b :: l) (k + 1) (fun i hi => by
      have := h1 (i + 1) (by simp at hi ⊢; omega)
      rwa [show k + (i + 1) = k + 1 + i by omega] at this) (fun i hi => by
      have := h2 (i + 1) (by simp at hi ⊢; omega)
      rwa [show k + (i + 1) = k + 1 + i by omega] at this)
    rw [List.zipIdx_cons, List.filterMap_cons, h0]
    simp only [Bool.false_eq_true, if_false]
    rw [ih]
    rfl
section
variable {prog : Program} {w : World} {A : Around} {E : Value → Shared → Prop} {s : Shared}
theorem delItem_last {l sl : Addr} {items : Array Value} {n : Nat} {t : Tok} {Q : Unit → Shared → Prop} (e : IsL s.heap l items n) (hs : s.heap.IsSliceOf sl (.int (-1) t) .none .none) (hsz : items.size ≤ sizeLine)
    (h : ∀ f : Array Value → Array Value, f items = items.pop → Q () { s with heap := s.heap.update l (Obj.mapSeq f) }) : wpAny (model prog w) A (delItem (.ref l) (.ref sl)) Q E s := by
  have hl : s.heap.IsList l items := PySem.IsL.isList e
  obtain ⟨os, hos, hcs, hds⟩ := id hs
  have hTs : s.TypeIs (.ref sl) "slice" := ⟨os, hos, hcs⟩
  have hstep : ¬ ((rawPart none == rawInt 0) = true) := Bool.false_ne_true
  unfold delItem
  try with_reducible refine wpAny_holding ?_
  refine wpAny_bind (wpAny_sequenceKey hl.typeIs (by decide) ?_)
  refine wpAny_bind (wpAny_callSpecial?_slot (name := Str.ofString "__delitem__") hl.typeIs PySem.F.slot_list_delitem
    (wpAny_call_entry PySem.F.slot_list_delitem hl.typeIs PySem.F.entry_list_delitem ?_ (PySem.F.args_list_delitem_2 _ _)))
  show wpAny _ _ (Builtin.List.listSubscript? (.ref sl) >>= _) _ _ s
  refine wpAny_bind ?_
  unfold Builtin.List.listSubscript?
  refine wpAny_bind (wpAny_specialOf hTs slice_no_index ?_)
  simp only [Option.isNone_none, if_true]
  refine wpAny_pure ?_
  show wpAny _ _ (typeOf (.ref sl) >>= _) _ _ s
  refine wpAny_bind (wpAny_typeOf hTs ?_)
  first
    | rw [if_neg (by decide)]
    | refine PySem.W.KFB.if_not (by decide) ?_
  rw [listSliceParts_eq]
  refine wpAny_bind (wpAny_bind (wpAny_field hos hds (x := .none) rfl (wpAny_bind (wpAny_listPart .none ?_))))
  rw [if_neg hstep]
  refine wpAny_bind (wpAny_field hos hds (x := .int (-1) t) rfl (wpAny_bind (wpAny_listPart (.int (-1) t) ?_)))
  refine wpAny_bind (wpAny_field hos hds (x := .none) rfl (wpAny_bind (wpAny_listPart .none (wpAny_pure ?_))))
  unfold Builtin.List.listItems
  refine wpAny_bind (wpAny_bind (wpAny_seqItems e rfl (wpAny_pure ?_)))
  refine wpAny_bind (wpAny_of_eq ((sliceIndices_raw (some (-1)) none none items.size (by simp)).trans (congrArg (pure : Int × Int × Int → Sem (Int × Int × Int)) (last_bounds _))) ?_)
  refine wpAny_bind (wpAny_rule ?_)
  have key : ∀ p : Nat → Bool, (∀ i, p i = (decide (((items.size - 1 : Nat) : Int) ≤ (i : Int)) && decide ((i : Int) < (items.size : Int)) && (((i : Int) - ((items.size - 1 : Nat) : Int)) % 1 == 0))) → (items.toList.zipIdx.filterMap fun x => if p x.2 then none else some x.1).toArray = items.pop := fun p hp => by
    rw [keep_init p items.toList 0 (fun i hi => ?_) (fun i hi => ?_)]
    · apply Array.toList_inj.mp
      simp
    · rw [Array.length_toList] at hi
      rw [Nat.zero_add, hp, decide_eq_false (by omega)]
      rfl
    · rw [Array.length_toList] at hi
      rw [Nat.zero_add, hp, decide_eq_true (by omega), decide_eq_true (by omega)]
      simp
  show wpAny _ _ (updateSeq l _ >>= _) _ _ s
  refine wpAny_bind (wpAny_updateSeq (hz := hsz) (_hz' := Nat.le_trans (Nat.le_of_eq (congrArg Array.size (key _ fun i => rfl))) (by rw [Array.size_pop]; omega)) e rfl ?_)
  refine wpAny_bind (wpAny_letGo ?_)
  first
    | exact wpAny_bind (wpAny_pure (wpAny_pure ⟨.none, rfl, wpAny_pure (h _ (key _ fun i => rfl))⟩))
    | exact wpAny_pure ⟨.none, rfl, wpAny_pure (h _ (key _ fun i => rfl))⟩
end
section
variable {X : Cx}
def tDelLast (to : TE) (tl : TO) : TS := fun D σ H => to σ H fun x H1 => tl σ H1 fun lo H2 => lo = some (-1) ∧ ∃ a xs, x = .ref a ∧ H2 a = some (.lst xs) ∧ D.nx σ (upd H2 a (.lst xs.dropLast))
theorem ps_delLast {o lo : Expr} {to : TE} {tl : TO} {p2 tpos pos : Pos} (ho : PE X o to) (hl : PO X (some lo) tl) : PS X (.Delete [.Subscript o (.Slice (some lo) none none p2) tpos] pos) (tDelLast to tl) := by
  refine ⟨fun pins s σ H D I h => ?_⟩
  refine wpAny_Delete (wpAny_deleteEach_cons (wpAny_delete_Subscript (thn (ho.run pins s σ H _ I h) fun u s1 ⟨x, H1, I1, rx, q1⟩ => ?_)))
  refine wpAny_Slice (thn (hl.run pins s1 σ H1 _ I1 q1) fun vl s2 ⟨lo, H2, I2, pl, e0, a, xs, ex, hH, q2⟩ => ?_)
  subst e0
  subst ex
  rw [evalPart_none]
  refine wpAny_pure (wpAny_pure ?_)
  cases (show u = Value.ref a from rx)
  have I4 : Inv X pins σ H2 { s2 with heap := s2.heap.push { cls := .type "slice", data := .fields #[vl, .none, .none] } } := I2.kept (t' := s2.toks) fun b ob q => Heap.get?_push_of_some _ q
  obtain ⟨t, rfl⟩ : ∃ t, vl = .int (-1) t := by
    cases pl
    exact ⟨_, rfl⟩
  obtain ⟨z, its, n, r, hln, e⟩ := I4.lstM hH
  refine delItem_last (t := t) e (Heap.IsSliceOf.new ..) (by rw [List.size_toArray]; omega) fun f hf => wpAny_deleteEach_nil ⟨σ, _, I4.lset (its' := its.take (xs.length - 1)) (t' := s2.toks) hH e ?_ (r.take (xs.length - 1)) ?_, ?_⟩
  · rw [hf]
    apply Array.toList_inj.mp
    rw [hln]
    simp [List.dropLast_eq_take]
  · rw [List.length_take]
    omega
  · rw [← List.dropLast_eq_take]
    exact q2
end
end Fo
namespace Fo
open PySem PySem.Spec PyProof.Rows L2
variable [Nm]
section
variable {K : PySem.W.Frag} {B0 H0 : Hp} {Γ : Sls} {M : Mu} {te : TE} {ds : List Da} {j : Nat} {post : Ou → Prop}
end
end Fo
namespace FZ
open PySem PySem.Spec PyProof.Rows L2
section
variable {prog : Program} {w : World} {A : Around} {E : Value → Shared → Prop} {s : Shared}
theorem wpAny_loadIfAlive {M : Model} {a : Addr} {Q : Option Obj → Shared → Prop} (h : Q (s.heap.get? a) s) : wpAny M A (loadIfAlive a) Q E s := fun Γ p _ => by
  show Sem.wp M Γ (.loadIfAlive a .pure) _ _ p s
  rw [Sem.wp_loadIfAlive]
  exact h
abbrev IsZipF (h : Heap) (z TI TO T : Addr) (b : Bool) : Prop :=
  h.get? z = some { cls := .type "zip", dict := none, data := .fields #[rawInt T, .bool b, .bool false, .ref TI, .ref TO], slots := #[] }
theorem not_free {z TI TO T : Addr} {b : Bool} {Q : Bool → Shared → Prop} (hz : IsZipF s.heap z TI TO T b) (hT : ∃ o, s.heap.get? T = some o) (hQ : ∀ h', IsZipF h' z TI TO T true → Heap.SameBut z s.heap h' → Q false { s with heap := h' }) :
    wpAny (model prog w) A (Builtin.SmallTypes.ownedTupleIsFree (.ref z)) Q E s := by
  obtain ⟨o, ho⟩ := hT
  unfold Builtin.SmallTypes.ownedTupleIsFree
  refine wpAny_bind (wpAny_field hz rfl (x := rawInt T) rfl ?_)
  show wpAny _ _ (loadIfAlive ((T : Int)).toNat >>= _) _ _ _
  refine wpAny_bind (wpAny_loadIfAlive ?_)
  rw [Int.toNat_natCast, ho]
  rw [if_neg (show ¬ (some o).isNone = true by simp)]
  refine wpAny_bind (wpAny_field hz rfl (x := .bool b) rfl ?_)
  cases b with
  | true =>
    rw [if_neg (by decide)]
    exact wpAny_pure (hQ s.heap hz ⟨rfl, fun _ _ => rfl⟩)
  | false =>
    rw [if_pos (by decide)]
    refine wpAny_bind (wpAny_setField_rec hz (by simp) fun h1 hz1 hs1 => ?_)
    exact wpAny_pure (hQ h1 hz1 hs1)
theorem zip_next_more {z TI TO i1 i2 l1 l2 T : Addr} {bb : Bool} {k1 k2 : Nat} {xs ys : Array Value} {x y : Value} {Q : Value → Shared → Prop} (D : ZipApart z TI TO i1 i2 l1 l2)
    (hz : IsZipF s.heap z TI TO T bb) (hT : ∃ o, s.heap.get? T = some o) (hTI : IsPair s.heap TI (.ref i1) (.ref i2))
    (h1 : s.heap.IsListIter i1 l1 k1) (h2 : s.heap.IsListIter i2 l2 k2) (hl1 : s.heap.IsList l1 xs) (hl2 : s.heap.IsList l2 ys) (hx : xs[k1]? = some x) (hy : ys[k2]? = some y)
    (hQ : ∀ h', IsZipF h' z TI TO T true → h'.IsListIter i1 l1 (k1 + 1) → h'.IsListIter i2 l2 (k2 + 1) → IsPair h' s.heap.objs.size x y → h'.objs.size = s.heap.objs.size + 1 →
      (∀ c o, c ≠ z → c ≠ i1 → c ≠ i2 → s.heap.get? c = some o → h'.get? c = some o) → Q (.ref s.heap.objs.size) { s with heap := h' }) :
    wpAny (model prog w) A (Builtin.«zip.__next__» ⟨[.ref z], []⟩) (fun fin s' => ∃ v, fin = .done (.ret v) ∧ Q v s') E s := by
  show wpAny _ _ (field (.ref z) 2 >>= _) _ _ _
  refine wpAny_bind (wpAny_field hz rfl (x := .bool false) rfl ?_)
  show wpAny _ _ (field (.ref z) 3 >>= _) _ _ _
  refine wpAny_bind (wpAny_field hz rfl (x := .ref TI) rfl ?_)
  refine wpAny_bind (wpAny_seqItems hTI rfl ?_)
  show wpAny _ _ (Builtin.SmallTypes.ownedTupleIsFree (.ref z) >>= _) _ _ _
  refine wpAny_bind (not_free hz hT fun h₁ hz₁ hs₁ => ?_)
  simp only [Bool.false_eq_true, if_false]
  refine wpAny_bind ?_
  simp only [List.forIn_toArray, List.forIn_cons, List.forIn_nil]
  refine wpAny_bind (wpAny_bind (wpAny_holding ?_))
  show wpAny _ _ (Builtin.SmallTypes.nextOf (.ref i1) >>= _) _ _ _
  refine wpAny_bind (wpAny_nextOf_list_item (h1.extBut hs₁.extBut D.i1z) (hl1.extBut hs₁.extBut D.l1z) hx fun h₂ h1₂ hs₂ => wpAny_pure (wpAny_pure ?_))
  refine wpAny_bind (wpAny_bind (wpAny_holding ?_))
  show wpAny _ _ (Builtin.SmallTypes.nextOf (.ref i2) >>= _) _ _ _
  refine wpAny_bind (wpAny_nextOf_list_item ((h2.extBut hs₁.extBut D.i2z).extBut hs₂.extBut D.i12.symm)
    ((hl2.extBut hs₁.extBut D.l2z).extBut hs₂.extBut D.l2i1) hy fun h₄ h2₄ hs₄ => wpAny_pure (wpAny_pure (wpAny_pure ?_)))
  show wpAny _ _ (newTuple [x, y] >>= _) _ _ _
  refine wpAny_bind (wpAny_newTuple ?_)
  have hsz : h₄.objs.size = s.heap.objs.size := by rw [hs₄.1, hs₂.1, hs₁.1]
  have hz₄ : IsZipF h₄ z TI TO T true := hs₄.extBut _ _ D.i2z.symm (hs₂.extBut _ _ D.i1z.symm hz₁)
  have hk₄ : ∀ c o, c ≠ z → c ≠ i1 → c ≠ i2 → s.heap.get? c = some o → h₄.get? c = some o := fun c o c1 c3 c4 e => hs₄.extBut _ _ c4 (hs₂.extBut _ _ c3 (hs₁.extBut _ _ c1 e))
  have h1₄ : h₄.IsListIter i1 l1 (k1 + 1) := h1₂.extBut hs₄.extBut D.i12
  refine wpAny_pure ⟨_, rfl, ?_⟩
  show Q (.ref h₄.objs.size) _
  have up : ∀ c o, h₄.get? c = some o → (h₄.push { cls := .type "tuple", data := .seq #[x, y] }).get? c = some o := fun c o e => Heap.get?_push_of_some _ e
  have hT4 : IsPair (h₄.push { cls := .type "tuple", data := .seq #[x, y] }) h₄.objs.size x y := Heap.get?_push_size _ rfl
  have hz8 : (h₄.push { cls := .type "tuple", data := .seq #[x, y] }).objs.size = h₄.objs.size + 1 := Heap.size_push ..
  rw [hsz] at hT4 hz8 ⊢
  exact hQ _ (up _ _ hz₄) (h1₄.at fun o e => up _ o e) (h2₄.at fun o e => up _ o e) hT4 hz8 fun c o c1 c3 c4 e => up c o (hk₄ c o c1 c3 c4 e)
theorem zip_next_over {z TI TO i1 i2 l1 l2 T : Addr} {bb : Bool} {k1 k2 : Nat} {xs ys : Array Value} {Q : Fin → Shared → Prop} (hh : A.handled = none) (D : ZipApart z TI TO i1 i2 l1 l2)
    (hz : IsZipF s.heap z TI TO T bb) (hT : ∃ o, s.heap.get? T = some o) (hTI : IsPair s.heap TI (.ref i1) (.ref i2))
    (h1 : s.heap.IsListIter i1 l1 k1) (h2 : s.heap.IsListIter i2 l2 k2) (hl1 : s.heap.IsList l1 xs) (hl2 : s.heap.IsList l2 ys) (hend : xs[k1]? = none ∨ ys[k2]? = none)
    (hE : ∀ h' e, (∀ c o, c ≠ z → c ≠ i1 → c ≠ i2 → s.heap.get? c = some o → h'.get? c = some o) → (∃ o, h'.get? e = some o ∧ o.cls = .type "StopIteration") → E (.ref e) { s with heap := h' }) :
    wpAny (model prog w) A (Builtin.«zip.__next__» ⟨[.ref z], []⟩) Q E s := by
  show wpAny _ _ (field (.ref z) 2 >>= _) _ _ _
  refine wpAny_bind (wpAny_field hz rfl (x := .bool false) rfl ?_)
  show wpAny _ _ (field (.ref z) 3 >>= _) _ _ _
  refine wpAny_bind (wpAny_field hz rfl (x := .ref TI) rfl ?_)
  refine wpAny_bind (wpAny_seqItems hTI rfl ?_)
  show wpAny _ _ (Builtin.SmallTypes.ownedTupleIsFree (.ref z) >>= _) _ _ _
  refine wpAny_bind (not_free hz hT fun h₁ hz₁ hs₁ => ?_)
  simp only [Bool.false_eq_true, if_false]
  refine wpAny_bind ?_
  simp only [List.forIn_toArray, List.forIn_cons, List.forIn_nil]
  refine wpAny_bind (wpAny_bind (wpAny_holding ?_))
  show wpAny _ _ (Builtin.SmallTypes.nextOf (.ref i1) >>= _) _ _ _
  cases hx : xs[k1]? with
  | none =>
    exact wpAny_bind (wpAny_nextOf_list_end hh (h1.extBut hs₁.extBut D.i1z) (hl1.extBut hs₁.extBut D.l1z) hx fun h₂ e hs₂ he => hE h₂ e (fun c o c1 c3 _ x => hs₂ _ _ c3 (hs₁.extBut _ _ c1 x)) he)
  | some x =>
    have hy : ys[k2]? = none := by rcases hend with h | h; rw [hx] at h; cases h; exact h
    refine wpAny_bind (wpAny_nextOf_list_item (h1.extBut hs₁.extBut D.i1z) (hl1.extBut hs₁.extBut D.l1z) hx fun h₂ h1₂ hs₂ => wpAny_pure (wpAny_pure ?_))
    refine wpAny_bind (wpAny_bind (wpAny_holding ?_))
    show wpAny _ _ (Builtin.SmallTypes.nextOf (.ref i2) >>= _) _ _ _
    exact wpAny_bind (wpAny_nextOf_list_end hh ((h2.extBut hs₁.extBut D.i2z).extBut hs₂.extBut D.i12.symm) ((hl2.extBut hs₁.extBut D.l2z).extBut hs₂.extBut D.l2i1) hy fun h₄ e hs₄ he =>
      hE h₄ e (fun c o c1 c3 c4 x => hs₄ _ _ c4 (hs₂.extBut _ _ c3 (hs₁.extBut _ _ c1 x))) he)
theorem pyNext_zip_more {z TI TO i1 i2 l1 l2 T : Addr} {bb : Bool} {k1 k2 : Nat} {xs ys : Array Value} {x y : Value} {Q : Option Value → Shared → Prop} (D : ZipApart z TI TO i1 i2 l1 l2)
    (hz : IsZipF s.heap z TI TO T bb) (hT : ∃ o, s.heap.get? T = some o) (hTI : IsPair s.heap TI (.ref i1) (.ref i2))
    (h1 : s.heap.IsListIter i1 l1 k1) (h2 : s.heap.IsListIter i2 l2 k2) (hl1 : s.heap.IsList l1 xs) (hl2 : s.heap.IsList l2 ys) (hx : xs[k1]? = some x) (hy : ys[k2]? = some y)
    (hQ : ∀ h', IsZipF h' z TI TO T true → h'.IsListIter i1 l1 (k1 + 1) → h'.IsListIter i2 l2 (k2 + 1) → IsPair h' s.heap.objs.size x y → h'.objs.size = s.heap.objs.size + 1 →
      (∀ c o, c ≠ z → c ≠ i1 → c ≠ i2 → s.heap.get? c = some o → h'.get? c = some o) → Q (some (.ref s.heap.objs.size)) { s with heap := h' }) :
    wpAny (model prog w) A (pyNext (.ref z)) Q E s := by
  have hTy : s.TypeIs (.ref z) "zip" := ⟨_, hz, rfl⟩
  unfold pyNext
  exact wpAny_bind (wpAny_attempt (wpAny_callSpecial?_slot (name := Str.ofString "__next__") hTy F.slot_zip_next
    (wpAny_call_entry F.slot_zip_next hTy F.entry_zip_next
      (zip_next_more D hz hT hTI h1 h2 hl1 hl2 hx hy fun h' a1 a2 a3 a4 a5 a6 => wpAny_pure (hQ h' a1 a2 a3 a4 a5 a6)) (F.args_zip_next_1 _))))
theorem pyNext_zip_over {z TI TO i1 i2 l1 l2 T : Addr} {bb : Bool} {k1 k2 : Nat} {xs ys : Array Value} {Q : Option Value → Shared → Prop} (hh : A.handled = none) (D : ZipApart z TI TO i1 i2 l1 l2)
    (hz : IsZipF s.heap z TI TO T bb) (hT : ∃ o, s.heap.get? T = some o) (hTI : IsPair s.heap TI (.ref i1) (.ref i2))
    (h1 : s.heap.IsListIter i1 l1 k1) (h2 : s.heap.IsListIter i2 l2 k2) (hl1 : s.heap.IsList l1 xs) (hl2 : s.heap.IsList l2 ys) (hend : xs[k1]? = none ∨ ys[k2]? = none)
    (hQ : ∀ h', (∀ c o, c ≠ z → c ≠ i1 → c ≠ i2 → s.heap.get? c = some o → h'.get? c = some o) → Q none { s with heap := h' }) : wpAny (model prog w) A (pyNext (.ref z)) Q E s := by
  have hTy : s.TypeIs (.ref z) "zip" := ⟨_, hz, rfl⟩
  unfold pyNext
  refine wpAny_bind (wpAny_attempt (wpAny_callSpecial?_slot (name := Str.ofString "__next__") hTy F.slot_zip_next
    (wpAny_call_entry F.slot_zip_next hTy F.entry_zip_next (zip_next_over hh D hz hT hTI h1 h2 hl1 hl2 hend fun h' e hk he => ?_) (F.args_zip_next_1 _))))
  obtain ⟨o, ho, hc⟩ := he
  refine wpAny_bind (wpAny_isInstance (T := "StopIteration") (b := true) ⟨o, ho, hc⟩ isSubtype_stop ?_)
  exact wpAny_pure (hQ _ hk)
end
theorem nolen_zip : typeLookup (.type "zip") "__len__" = pure none := by rw [typeLookup_type, builtinLookup_eq_fast]; kernel_rfl
theorem hint_zip : typeLookup (.type "zip") "__length_hint__" = pure none := by rw [typeLookup_type, builtinLookup_eq_fast]; kernel_rfl
def zipQ (q : Addr) : List (V × V) → List V → Hp → (Hp → Prop) → Prop
  | [], _, H, Q => Q H
  | p :: ps, acc, H, Q => ∀ T, H T = none → zipQ q ps (acc ++ [.ref T]) (upd (upd H T (.tup [p.1, p.2])) q (.lst (acc ++ [.ref T]))) Q
structure ZSt (z TI TO i1 i2 a b : Addr) (i : Nat) (h : Heap) : Prop where
  z : (IsZip h z TI TO .none) ∨ ∃ T bb, IsZipF h z TI TO T bb ∧ ∃ o, h.get? T = some o
  ti : IsPair h TI (.ref i1) (.ref i2)
  to' : ∃ x y, IsPair h TO x y
  h1 : h.IsListIter i1 a i
  h2 : h.IsListIter i2 b i
theorem ZSt.keep {z TI TO i1 i2 a b : Addr} {i : Nat} {h h' : Heap} (Z : ZSt z TI TO i1 i2 a b i h) (k : ∀ c o, c ∈ [z, TI, TO, i1, i2] → h.get? c = some o → h'.get? c = some o) (k2 : ∀ c o, h.get? c = some o → ∃ o', h'.get? c = some o') : ZSt z TI TO i1 i2 a b i h' := by
  obtain ⟨hz, hTI, ⟨x, y, hTO⟩, h1, h2⟩ := Z
  refine ⟨?_, k TI _ (by simp) hTI, ⟨x, y, k TO _ (by simp) hTO⟩, h1.at fun o q => k i1 o (by simp) q, h2.at fun o q => k i2 o (by simp) q⟩
  rcases hz with hz | ⟨T, bb, hz, o, ho⟩
  · exact .inl (k z _ (by simp) hz)
  · exact .inr ⟨T, bb, k z _ (by simp) hz, k2 T o ho⟩
theorem drain_zip {X : Cx} {pins : List (Addr × Obj)} {σ : L2.St} {A : Around} {R : Result → Shared → Prop} {z TI TO i1 i2 a b q : Addr} {xs ys : List V} (hh : A.handled = none) (D : ZipApart z TI TO i1 i2 a b) (hq : q ∉ [z, TI, TO, i1, i2]) (hqa : q ≠ a) (hqb : q ≠ b) {Qf : Hp → Prop}
    (hR : ∀ s' H', Inv X pins σ H' s' → Qf H' → R (.ok (.ret .none)) s') :
    ∀ (m i : Nat) (s : Shared) (H : Hp) (acc : List V), Inv X pins σ H s → ZSt z TI TO i1 i2 a b i s.heap → (∀ c ∈ [z, TI, TO, i1, i2], FpOk X pins H c) → H a = some (.lst xs) → H b = some (.lst ys) → xs.length = i + m → ys.length = i + m → acc.length + m ≤ sizeLine → H q = some (.lst acc) →
      zipQ q ((xs.zip ys).drop i) acc H Qf → codeAny (model X.prog X.w) A (.builtin "list.extend.loop" ⟨[.ref q, .ref z, .none], []⟩) R s := by
  intro m
  induction m with
  | zero =>
    intro i s H acc I Z hf ha hb hx hy hl hH hZ
    obtain ⟨its, rv, p, _⟩ := I.list (.of ha)
    obtain ⟨its2, rv2, p2, _⟩ := I.list (.of hb)
    have hz0 : Qf H := by
      rw [List.drop_of_length_le (by rw [List.length_zip]; omega)] at hZ
      exact hZ
    have he : its.toArray[i]? = none ∨ its2.toArray[i]? = none := .inl (by
      have := rv.length
      simp
      omega)
    refine codeAny_builtin F.entry_extend_loop ?_
    rw [Around.under_plainId F.plain_extend_loop _]
    show wpAny _ A.in1 (pyNext (.ref z) >>= _) _ _ s
    have fin : ∀ h' : Heap, (∀ c o, c ≠ z → c ≠ TO → c ≠ i1 → c ≠ i2 → s.heap.get? c = some o → h'.get? c = some o) → R (.ok (.ret .none)) { s with heap := h' } := fun h' hk =>
      hR _ H (I.turnedL (t' := s.toks) (ch := [z, TI, TO, i1, i2]) (fun c o hb e => hk c o (fun e' => hb (by simp [e'])) (fun e' => hb (by simp [e'])) (fun e' => hb (by simp [e'])) (fun e' => hb (by simp [e'])) e) hf) hz0
    obtain ⟨x0, y0, hTO⟩ := Z.to'
    rcases Z.z with hz | ⟨T, bb, hz, hT⟩
    · exact wpAny_bind (wpAny_pyNext_zip_end hh D hz Z.ti hTO Z.h1 Z.h2 p.isList p2.isList he fun h' hk => wpAny_pure (fin h' hk))
    · exact wpAny_bind (pyNext_zip_over hh D hz hT Z.ti Z.h1 Z.h2 p.isList p2.isList he fun h' hk => wpAny_pure (fin h' fun c o c1 _ c3 c4 e => hk c o c1 c3 c4 e))
  | succ m ih =>
    intro i s H acc I Z hf ha hb hx hy hl hH hZ
    obtain ⟨its, rv, p, _⟩ := I.list (.of ha)
    obtain ⟨its2, rv2, p2, _⟩ := I.list (.of hb)
    obtain ⟨x, hxi⟩ : ∃ x, xs[i]? = some x := ⟨xs[i]'(by omega), by simp⟩
    obtain ⟨y, hyi⟩ : ∃ y, ys[i]? = some y := ⟨ys[i]'(by omega), by simp⟩
    obtain ⟨u, hu, ru⟩ := rv.get hxi
    obtain ⟨u2, hu2, ru2⟩ := rv2.get hyi
    have hdz : (xs.zip ys).drop i = (x, y) :: (xs.zip ys).drop (i + 1) := by
      have hlt : i < (xs.zip ys).length := by rw [List.length_zip]; omega
      rw [List.drop_eq_getElem_cons hlt]
      congr 1
      have h1 : (xs.zip ys)[i]? = some (x, y) := List.getElem?_zip_eq_some.mpr ⟨hxi, hyi⟩
      rw [List.getElem?_eq_getElem hlt] at h1
      exact Option.some.inj h1
    rw [hdz] at hZ
    have hTn : H s.heap.objs.size = none := I.hok.fresh (Nat.le_refl _)
    have go : ∀ (h' : Heap), IsPair h' s.heap.objs.size u u2 → ZSt z TI TO i1 i2 a b (i + 1) h' → (∀ c o, c ∉ [z, TI, TO, i1, i2] → s.heap.get? c = some o → h'.get? c = some o) →
        wpAny (model X.prog X.w) A.in1 (updateSeq q (·.push (.ref s.heap.objs.size)) >>= fun _ => again (.builtin "list.extend.loop" ⟨[.ref q, .ref z, .none], []⟩))
          (fun fin s' => match fin with | .done f => R (.ok f) s' | .again c' => c'.quiet = true ∧ codeAny (model X.prog X.w) A c' R s') (fun e s' => R (.error e) s') { s with heap := h' } := by
      intro h' hpr Z' hk
      have hqT : q ≠ s.heap.objs.size := fun e => by rw [e, hTn] at hH; cases hH
      have new : ObjOk X.prog X.w (upd H s.heap.objs.size (.tup [x, y])) h' s.heap.objs.size (.tup [x, y]) := ⟨by show 2 ≤ sizeLine; decide, [u, u2], .cons ru (.cons ru2 .nil), ⟨_, hpr, rfl, _, rfl⟩⟩
      have I1 : Inv X pins σ (upd H s.heap.objs.size (.tup [x, y])) { s with heap := h' } := I.turnedNew (t' := s.toks) (ch := [z, TI, TO, i1, i2]) hk hf (Nat.le_refl _) new
      have hH1 : upd H s.heap.objs.size (.tup [x, y]) q = some (.lst acc) := by rw [upd_ne hqT]; exact hH
      obtain ⟨z0, its3, n, r, hl3, e⟩ := I1.lstM hH1
      have lt : ∀ c ∈ [z, TI, TO, i1, i2], c ≠ s.heap.objs.size := fun c hc e2 => by
        subst e2
        obtain ⟨x0, y0, hTO⟩ := Z.to'
        have hz := Z.z
        rcases (by simpa using hc : s.heap.objs.size = z ∨ s.heap.objs.size = TI ∨ s.heap.objs.size = TO ∨ s.heap.objs.size = i1 ∨ s.heap.objs.size = i2) with q | q | q | q | q
        · rcases hz with hz | ⟨T, bb, hz, _⟩ <;> exact absurd (Heap.lt_size (q ▸ hz)) (Nat.lt_irrefl _)
        · exact absurd (Heap.lt_size (q ▸ Z.ti)) (Nat.lt_irrefl _)
        · exact absurd (Heap.lt_size (q ▸ hTO)) (Nat.lt_irrefl _)
        · obtain ⟨_, e, _⟩ := Z.h1
          exact absurd (Heap.lt_size (q ▸ e)) (Nat.lt_irrefl _)
        · obtain ⟨_, e, _⟩ := Z.h2
          exact absurd (Heap.lt_size (q ▸ e)) (Nat.lt_irrefl _)
      have hne : ∀ c, H c ≠ none → c ≠ s.heap.objs.size := fun c hc e2 => hc (by rw [e2]; exact hTn)
      have hsz : its3.toArray.size < sizeLine := by rw [List.size_toArray]; omega
      refine wpAny_bind ?_
      refine wpAny_updateSeq e rfl (wpAny_pure ⟨plainId_quiet F.plain_extend_loop _, ?_⟩) (Nat.le_of_lt hsz) (by show (its3.toArray.push _).size ≤ sizeLine + 1; rw [Array.size_push]; omega)
      have I2 : Inv X pins σ (upd (upd H s.heap.objs.size (.tup [x, y])) q (.lst (acc ++ [.ref s.heap.objs.size]))) { s with heap := h'.update q (Obj.mapSeq (·.push (.ref s.heap.objs.size))) } :=
        I1.lset (its' := its3 ++ [.ref s.heap.objs.size]) (t' := s.toks) hH1 e (by simp) (r.append (.cons (show L2.RelV (.ref s.heap.objs.size) (.ref s.heap.objs.size) from rfl) .nil)) (by rw [List.length_append, List.length_singleton]; omega)
      refine ih (i + 1) _ _ (acc ++ [.ref s.heap.objs.size]) I2 (Z'.keep (fun c o hc hg => (Heap.get?_update_other _ _ (fun hcq : q = c => hq (hcq ▸ hc))).trans hg) fun c o hg => ?_) (fun c hc => ?_) ?_ ?_ (by omega) (by omega) (by rw [List.length_append, List.length_singleton]; omega) upd_same (hZ _ hTn)
      · by_cases hcq : c = q
        · subst hcq
          exact ⟨_, Heap.get?_update_self _ e rfl⟩
        · exact ⟨o, (Heap.get?_update_other _ _ (Ne.symm hcq)).trans hg⟩
      · obtain ⟨f1, f2⟩ := hf c hc
        have hcq : c ≠ q := fun e2 => hq (by rw [← e2]; exact hc)
        exact ⟨by rw [upd_ne hcq, upd_ne (lt c hc)]; exact f1, f2⟩
      · rw [upd_ne (Ne.symm hqa), upd_ne (hne a (by rw [ha]; simp))]
        exact ha
      · rw [upd_ne (Ne.symm hqb), upd_ne (hne b (by rw [hb]; simp))]
        exact hb
    refine codeAny_builtin F.entry_extend_loop ?_
    rw [Around.under_plainId F.plain_extend_loop _]
    show wpAny _ A.in1 (pyNext (.ref z) >>= _) _ _ s
    obtain ⟨x0, y0, hTO⟩ := Z.to'
    rcases Z.z with hz | ⟨T, bb, hz, hT⟩
    · refine wpAny_bind (wpAny_pyNext_zip_item D hz Z.ti hTO Z.h1 Z.h2 p.isList p2.isList (x := u) (y := u2) (by simpa using hu) (by simpa using hu2) fun h' z' TO' h1' h2' hT hsz hk => ?_)
      refine go h' hT ⟨.inr ⟨_, false, z', _, hT⟩, hk TI _ D.TIz D.TITO D.TIi1 D.TIi2 Z.ti, ⟨_, _, TO'⟩, h1', h2'⟩ fun c o hc e => hk c o (fun e' => hc (by simp [e'])) (fun e' => hc (by simp [e'])) (fun e' => hc (by simp [e'])) (fun e' => hc (by simp [e'])) e
    · refine wpAny_bind (pyNext_zip_more D hz hT Z.ti Z.h1 Z.h2 p.isList p2.isList (x := u) (y := u2) (by simpa using hu) (by simpa using hu2) fun h' z' h1' h2' hT2 hsz hk => ?_)
      refine go h' hT2 ⟨.inr ⟨T, true, z', ?_⟩, hk TI _ D.TIz D.TIi1 D.TIi2 Z.ti, ⟨_, _, hk TO _ D.TOz D.TOi1 D.TOi2 hTO⟩, h1', h2'⟩ fun c o hc e => hk c o (fun e' => hc (by simp [e'])) (fun e' => hc (by simp [e'])) (fun e' => hc (by simp [e'])) e
      obtain ⟨o, ho⟩ := hT
      by_cases c1 : T = z
      · exact ⟨_, by rw [c1]; exact z'⟩
      · by_cases c2 : T = i1
        · obtain ⟨o1, e1, _⟩ := h1'
          exact ⟨o1, by rw [c2]; exact e1⟩
        · by_cases c3 : T = i2
          · obtain ⟨o1, e1, _⟩ := h2'
            exact ⟨o1, by rw [c3]; exact e1⟩
          · exact ⟨o, hk T o c1 c2 c3 ho⟩
theorem call_list_zip {X : Cx} {pins : List (Addr × Obj)} {σ : L2.St} {A : Around} {Q' : Value → Shared → Prop} {E : Value → Shared → Prop} {s : Shared} {H : Hp} {z TI TO i1 i2 a b : Addr} {xs ys : List V} {Qf : Addr → Hp → Prop} (hh : A.handled = none) (I : Inv X pins σ H s) (D : ZipApart z TI TO i1 i2 a b) (Z : ZSt z TI TO i1 i2 a b 0 s.heap) (hzz : IsZip s.heap z TI TO .none)
    (hf : ∀ c ∈ [z, TI, TO, i1, i2], FpOk X pins H c) (hlt : ∀ c ∈ [z, TI, TO, i1, i2], c < s.heap.objs.size) (ha : H a = some (.lst xs)) (hb : H b = some (.lst ys)) (hlen : xs.length = ys.length) (hle : xs.length ≤ sizeLine)
    (hq : ∀ q, H q = none → zipQ q (xs.zip ys) [] (upd H q (.lst [])) (Qf q)) (hQ : ∀ q s' H', Inv X pins σ H' s' → Qf q H' → Q' (.ref q) s') : wpAny (model X.prog X.w) A (call (.type "list") [.ref z]) Q' E s := by
  have hn : H s.heap.objs.size = none := I.hok.fresh (Nat.le_refl _)
  have hzl : z < s.heap.objs.size := hlt z (by simp)
  have hSz : s.heap.objs.size ≠ z := Nat.ne_of_gt hzl
  refine callType_codes (Q₁ := fun obj s₁ => obj = .ref s.heap.objs.size ∧ s₁ = { s with heap := s.heap.push { cls := .type "list", data := .seq #[] } }) F.called_list (F.typeCall_list_1 _) F.entry_list_init
    (code_list_new _ ⟨rfl, rfl⟩) fun obj s₁ h₁ => ?_
  obtain ⟨rfl, rfl⟩ := h₁
  have hS : (s.heap.push { cls := .type "list", data := .seq #[] }).get? s.heap.objs.size = some { cls := .type "list", data := .seq #[] } := Heap.get?_push_size _ rfl
  refine ⟨⟨_, hS, rfl⟩, F.args_list_init_2 _ _, ?_⟩
  show wpAny _ A.in1.in1 (do let old ← Builtin.List.listItems (.ref s.heap.objs.size); Builtin.List.listUpdate (.ref s.heap.objs.size) (fun _ => #[]); letGo old.toList.reverse; Builtin.List.listExtendWith (.ref s.heap.objs.size) (.ref z) .none) _ _ _
  refine wpAny_bind ?_
  unfold Builtin.List.listItems
  refine wpAny_bind (wpAny_seqItems hS rfl (wpAny_pure ?_))
  show wpAny _ A.in1.in1 (updateSeq s.heap.objs.size (fun _ => #[]) >>= fun _ => letGo (#[] : Array Value).toList.reverse >>= fun _ => Builtin.List.listExtendWith (.ref s.heap.objs.size) (.ref z) .none) _ _ _
  refine wpAny_bind (wpAny_updateSeq hS rfl ?_)
  have hS2 := Heap.get?_update_self (Obj.mapSeq (fun _ => (#[] : Array Value))) hS rfl
  refine wpAny_bind (wpAny_letGo ?_)
  unfold Builtin.List.listExtendWith
  have up : ∀ (h : Heap) (f : Obj → Obj), (∀ b o, s.heap.get? b = some o → h.get? b = some o) → ∀ b o, s.heap.get? b = some o → (h.update s.heap.objs.size f).get? b = some o := fun h f q b o e =>
    (Heap.get?_update_other _ _ (Ne.symm (Nat.ne_of_lt (Heap.lt_size e)))).trans (q b o e)
  have k1 : ∀ b o, s.heap.get? b = some o → (s.heap.push { cls := .type "list", data := .seq #[] }).get? b = some o := fun b o e => Heap.get?_push_of_some _ e
  have k2 := up _ (Obj.mapSeq (fun _ => (#[] : Array Value))) k1
  have hty : ∀ {h : Heap}, (∀ b o, s.heap.get? b = some o → h.get? b = some o) → ({ s with heap := h } : Shared).TypeIs (.ref z) "zip" := fun {h} q => ⟨_, q _ _ hzz, rfl⟩
  refine wpAny_bind (wpAny_typeOf (hty k2) ?_)
  have h1 : Builtin.List.listSameRef (.ref s.heap.objs.size) (.ref z) = false := by simp [Builtin.List.listSameRef, hSz]
  have h2 : (Value.type "zip" == Value.type "list") = false := by decide
  have h3 : (Value.type "zip" == Value.type "tuple") = false := by decide
  simp only [h1, h2, h3, Bool.or_false, Bool.false_eq_true, if_false]
  refine wpAny_bind (wpAny_pyIter_zip (s := { s with heap := _ }) (k2 _ _ hzz) ?_)
  refine wpAny_bind (wpAny_holding ?_)
  unfold Builtin.List.listLengthHint
  refine wpAny_bind (wpAny_specialOf (hty k2) nolen_zip ?_)
  show wpAny _ A.in1.in1 (specialOf (Value.ref z) (Str.ofString "__length_hint__") >>= _) _ _ _
  refine wpAny_bind (wpAny_specialOf (hty k2) hint_zip ?_)
  refine wpAny_pure ?_
  show wpAny _ A.in1.in1 (rule "list.extend.makes-room" >>= fun _ => Builtin.List.listTouch (.ref s.heap.objs.size) >>= fun _ =>
    again (.builtin "list.extend.loop" ⟨[.ref s.heap.objs.size, .ref z, .none], []⟩)) _ _ _
  refine wpAny_bind (wpAny_rule ?_)
  refine wpAny_bind ?_
  show wpAny _ A.in1.in1 (updateSeq s.heap.objs.size (·.push .none) >>= fun _ => updateSeq s.heap.objs.size (·.pop)) _ _ _
  refine wpAny_bind (wpAny_updateSeq hS2 rfl ?_)
  have hS3 := Heap.get?_update_self (Obj.mapSeq (·.push Value.none)) hS2 rfl
  refine wpAny_updateSeq (hz := by seq_fits) hS3 rfl ?_
  have hS4 := Heap.get?_update_self (Obj.mapSeq (·.pop)) hS3 rfl
  have k4 := up _ (Obj.mapSeq (·.pop)) (up _ (Obj.mapSeq (·.push Value.none)) k2)
  refine wpAny_pure ⟨plainId_quiet F.plain_extend_loop _, ?_⟩
  have I2 : Inv X pins σ (upd H s.heap.objs.size (.lst [])) { s with heap := _ } := I.laid (t' := s.toks) k4 (Nat.le_refl _) ⟨Nat.zero_le _, [], _, .nil, hS4⟩
  have hne : ∀ c, H c ≠ none → c ≠ s.heap.objs.size := fun c hc e2 => hc (by rw [e2]; exact hn)
  refine drain_zip (A := A.in1) (R := _) (xs := xs) (ys := ys) (Qf := Qf s.heap.objs.size) hh D (fun hm => absurd (hlt _ hm) (Nat.lt_irrefl _)) (Ne.symm (hne a (by rw [ha]; simp))) (Ne.symm (hne b (by rw [hb]; simp))) (fun s' H' I' q => ⟨rfl, hQ _ _ _ I' q⟩) xs.length 0 _ _ [] I2 (Z.keep (fun c o _ e => k4 c o e) fun c o e => ⟨o, k4 c o e⟩) (fun c hc => ?_) ?_ ?_ (by omega) (by omega) (by rw [List.length_nil]; omega) upd_same (by rw [List.drop_zero]; exact hq _ hn)
  · obtain ⟨f1, f2⟩ := hf c hc
    exact ⟨by rw [upd_ne (Nat.ne_of_lt (hlt c hc))]; exact f1, f2⟩
  · rw [upd_ne (hne a (by rw [ha]; simp))]
    exact ha
  · rw [upd_ne (hne b (by rw [hb]; simp))]
    exact hb
def tListZip (ta : TA) : TE := fun σ H Q => ta σ H fun vs H1 => ∃ a b xs ys, vs = [.ref a, .ref b] ∧ H1 a = some (.lst xs) ∧ H1 b = some (.lst ys) ∧ xs.length = ys.length ∧ xs.length ≤ sizeLine ∧ ∀ q, H1 q = none → zipQ q (xs.zip ys) [] (upd H1 q (.lst [])) (Q (.ref q))
theorem pe_listZip {X : Cx} {e e2 : Expr} {ta : TA} {p p2 pos pos2 : Pos} (hc : X.calm = true) (hgl : Gl X "list") (hml : X.mg "list" = none) (hg : Gl X "zip") (hm : X.mg "zip" = none) (ha : PA X [e, e2] ta)
    (hs : starEach [e, e2] X.env = (false, eval e X.env) :: starEach [e2] X.env := by rfl) (hpl : (backTo pos2 (starEach [e2] X.env)).any (·.1) = false := by rfl)
    (na : starEach [.Call (.Name "zip" p2) [e, e2] [] pos2] X.env = (false, eval (.Call (.Name "zip" p2) [e, e2] [] pos2) X.env) :: starEach [] X.env := by rfl) :
    PE X (.Call (.Name "list" p) [.Call (.Name "zip" p2) [e, e2] [] pos2] [] pos) (tListZip ta) := by
  refine ⟨fun pins s σ H Q I h => ?_⟩
  refine Call_ (ld_blt I hgl hml boot_list (PyProof.Rows.callWith_type1 (args_cons ?_ na) na))
  refine Call_ (ld_blt I hg hm PyProof.Rows.boot_zip (PyProof.Rows.callWith_type1 (thn (ha.run pos2 pins s σ H _ I h) fun us s1 ⟨vs, H1, I1, r1, q1⟩ => ?_) hs hpl))
  obtain ⟨a, b, xs, ys, ex, hqx, hqy, hlen, hle, q⟩ := q1
  subst ex
  cases r1 with
  | cons r rr =>
    cases rr with
    | cons r' rr =>
      cases rr
      cases r
      cases r'
      obtain ⟨its, rv, p1, _⟩ := I1.list (.of hqx)
      obtain ⟨its2, rv2, p2, _⟩ := I1.list (.of hqy)
      refine call_zip_2 p1.isList p2.isList fun h' hz hTI hTO h1 h2 hsz hk => args_nil ?_
      have I2 : Inv X pins σ H1 { s1 with heap := h' } := I1.kept (t' := s1.toks) hk
      have sz : ∀ c ∈ [s1.heap.objs.size + 4, s1.heap.objs.size + 2, s1.heap.objs.size + 3, s1.heap.objs.size, s1.heap.objs.size + 1], s1.heap.objs.size ≤ c ∧ c < s1.heap.objs.size + 5 := fun c hc => by
        have : c = s1.heap.objs.size + 4 ∨ c = s1.heap.objs.size + 2 ∨ c = s1.heap.objs.size + 3 ∨ c = s1.heap.objs.size ∨ c = s1.heap.objs.size + 1 := by simpa using hc
        exact ⟨by omega, by omega⟩
      exact call_list_zip (A := _) (I2.ok.hd hc) I2 (PySem.W.ktu_apart s1.heap.objs.size a b p1.lt p2.lt) ⟨.inl hz, hTI, ⟨_, _, hTO⟩, h1, h2⟩ hz (fun c hm => I1.fpOk (sz c hm).1 (I1.hok.fresh (sz c hm).1)) (fun c hm => by
        show c < h'.objs.size
        rw [hsz]
        exact (sz c hm).2) hqx hqy hlen hle (Qf := fun q => Q (.ref q)) q fun q s' H' I' hq => ⟨.ref q, H', I', rfl, hq⟩
end FZ
namespace FZ
open PySem PySem.Spec PyProof.Rows L2
section
variable {prog : Program} {w : World} {A : Around} {E : Value → Shared → Prop} {s : Shared}
end
end FZ
set_option maxHeartbeats 4000000
namespace FZ
open PySem PySem.Spec PyProof.Rows L2
section
variable {prog : Program} {w : World} {A : Around} {E : Value → Shared → Prop} {s : Shared}
theorem enumT_item {e it l : Addr} {i : Nat} {items : Array Value} {x old : Value} {Q : Option Value → Shared → Prop}
    (he : IsEnum s.heap e it i old) (hit : s.heap.IsTupleIter it l i) (hl : s.heap.IsTuple l items) (hx : items[i]? = some x) (hne : e ≠ it)
    (hQ : ∀ h', IsEnumOut h' e it ((i : Int) + 1) x s.heap.objs.size → h'.IsTupleIter it l (i + 1) →
      h'.get? s.heap.objs.size = some { cls := .type "tuple", data := .seq #[.int i s.toks, x] } → h'.objs.size = s.heap.objs.size + 1 →
      (∀ b o, b ≠ e → b ≠ it → s.heap.get? b = some o → h'.get? b = some o) → Q (some (.ref s.heap.objs.size)) { s with heap := h', toks := s.toks + 1 }) :
    wpAny (model prog w) A (pyNext (.ref e)) Q E s := by
  have hT : s.TypeIs (.ref e) "enumerate" := ⟨_, he, rfl⟩
  unfold pyNext
  refine wpAny_bind (wpAny_attempt (wpAny_callSpecial?_slot (name := Str.ofString "__next__") hT F.slot_enumerate_next (wpAny_call_entry F.slot_enumerate_next hT F.entry_enumerate_next ?_ (F.args_enumerate_next_1 _))))
  obtain ⟨hp, g, d, tk, os⟩ := s
  refine wpAny_bind (m := field (.ref e) 2) (wpAny_field he rfl (x := .ref it) rfl ?_)
  refine wpAny_bind (RZ.nextOf_tuple_item hit hl hx fun h₁ hit₁ hs₁ => ?_)
  replace hs₁ : Heap.SameBut it hp h₁ := hs₁
  have he₁ : IsEnum h₁ e it i old := (hs₁.2 e hne).trans he
  refine wpAny_bind (m := field (.ref e) 3) (wpAny_field he₁ rfl (x := rawInt i) rfl ?_)
  refine wpAny_bind (m := field (.ref e) 4) (wpAny_field he₁ rfl (x := .none) rfl ?_)
  show wpAny _ _ (mkInt i >>= _) _ _ ⟨h₁, g, d, tk, os⟩
  refine wpAny_bind (wpAny_mkInt ?_)
  refine wpAny_bind (m := setField (.ref e) 3 (rawInt ((i : Int) + 1))) (wpAny_setField_rec he₁ (by simp) fun h₂ he₂ hs₂ => ?_)
  replace hs₂ : Heap.SameBut e h₁ h₂ := hs₂
  replace he₂ : IsEnum h₂ e it ((i : Int) + 1) old := he₂
  refine wpAny_bind (m := setField (.ref e) 4 .none) (wpAny_setField_rec he₂ (by simp) fun h₃ he₃ hs₃ => ?_)
  replace hs₃ : Heap.SameBut e h₂ h₃ := hs₃
  replace he₃ : IsEnum h₃ e it ((i : Int) + 1) old := he₃
  show wpAny _ _ (newTuple [.int i tk, x] >>= _) _ _ ⟨h₃, g, d, tk + 1, os⟩
  refine wpAny_bind (wpAny_newTuple ?_)
  have hsz : h₃.objs.size = hp.objs.size := by rw [hs₃.1, hs₂.1, hs₁.1]
  have hel : e < hp.objs.size := Heap.lt_size he
  have hts : e ≠ hp.objs.size := Nat.ne_of_lt hel
  have hst : hp.objs.size ≠ e := Ne.symm hts
  have he₄ : IsEnum (h₃.push { cls := .type "tuple", data := .seq #[.int i tk, x] }) e it ((i : Int) + 1) old := Heap.get?_push_of_some _ he₃
  show wpAny _ _ (Builtin.SmallTypes.ownedTupleIsFree (.ref e) >>= _) _ _ _
  unfold Builtin.SmallTypes.ownedTupleIsFree
  refine wpAny_bind (wpAny_bind (wpAny_field he₄ rfl (x := .none) rfl (wpAny_pure ?_)))
  simp only [if_true]
  refine wpAny_bind (wpAny_rule ?_)
  refine wpAny_bind (wpAny_field he₄ rfl (x := old) rfl ?_)
  refine wpAny_bind (wpAny_setField_rec he₄ (by simp) fun h₅ he₅ hs₅ => ?_)
  replace he₅ : IsEnum h₅ e it ((i : Int) + 1) x := he₅
  show wpAny _ _ (Builtin.SmallTypes.ownedTupleHandOut (.ref e) (.ref h₃.objs.size) >>= _) _ _ _
  unfold Builtin.SmallTypes.ownedTupleHandOut
  refine wpAny_bind (wpAny_bind (wpAny_setField_rec he₅ (by simp) fun h₆ he₆ hs₆ => ?_))
  replace he₆ : IsEnumOut h₆ e it ((i : Int) + 1) x h₃.objs.size := he₆
  refine wpAny_setField_rec he₆ (by simp) fun h₇ he₇ hs₇ => ?_
  replace he₇ : IsEnumOut h₇ e it ((i : Int) + 1) x h₃.objs.size := he₇
  refine wpAny_bind (wpAny_letGo (wpAny_pure ⟨_, rfl, wpAny_pure ?_⟩))
  have up : ∀ b o, b ≠ e → h₃.get? b = some o → h₇.get? b = some o := fun b o c q => hs₇.extBut _ _ c (hs₆.extBut _ _ c (hs₅.extBut _ _ c (Heap.get?_push_of_some _ q)))
  have hT7 : h₇.get? h₃.objs.size = some { cls := .type "tuple", data := .seq #[.int i tk, x] } := by
    have c : h₃.objs.size ≠ e := by rw [hsz]; exact hst
    exact hs₇.extBut _ _ c (hs₆.extBut _ _ c (hs₅.extBut _ _ c (Heap.get?_push_size _ rfl)))
  have hz7 : h₇.objs.size = h₃.objs.size + 1 := by rw [hs₇.1, hs₆.1, hs₅.1, Heap.size_push]
  show Q (some (.ref h₃.objs.size)) _
  rw [hsz] at he₇ hT7 hz7 ⊢
  refine hQ h₇ he₇ ?_ hT7 hz7 fun b o hbe hbi hb => up b o hbe (hs₃.extBut b o hbe (hs₂.extBut b o hbe (hs₁.extBut b o hbi hb)))
  exact ((hit₁.extBut hs₂.extBut (Ne.symm hne)).extBut hs₃.extBut (Ne.symm hne)).at fun o q => up it o (Ne.symm hne) q
theorem enumT_end {e it l : Addr} {i : Nat} {items : Array Value} {old : Value} {Q : Option Value → Shared → Prop} (hh : A.handled = none)
    (he : IsEnum s.heap e it i old) (hit : s.heap.IsTupleIter it l i) (hl : s.heap.IsTuple l items) (hx : items[i]? = none)
    (hQ : ∀ h', Heap.ExtBut it s.heap h' → Q none { s with heap := h' }) : wpAny (model prog w) A (pyNext (.ref e)) Q E s := by
  have hT : s.TypeIs (.ref e) "enumerate" := ⟨_, he, rfl⟩
  unfold pyNext
  refine wpAny_bind (wpAny_attempt (wpAny_callSpecial?_slot (name := Str.ofString "__next__") hT F.slot_enumerate_next (wpAny_call_entry F.slot_enumerate_next hT F.entry_enumerate_next ?_ (F.args_enumerate_next_1 _))))
  refine wpAny_bind (m := field (.ref e) 2) (wpAny_field he rfl (x := .ref it) rfl ?_)
  refine wpAny_bind (RZ.nextOf_tuple_end hh hit hl hx fun h' x he' hx' => ?_)
  obtain ⟨o, ho, hc⟩ := hx'
  refine wpAny_bind (wpAny_isInstance (T := "StopIteration") (b := true) ⟨o, ho, hc⟩ isSubtype_stop ?_)
  exact wpAny_pure (hQ _ he')
end
theorem enumT_new (l : Addr) (items : Array Value) (n : Nat) (dct : Option Addr) (sl : Array (Option Value)) :
    Meets (Builtin.«enumerate.__new__» ⟨[.type "enumerate", .ref l], []⟩) (fun _ R s => s.heap.get? l = some { cls := .type "tuple", dict := dct, data := .seq items n, slots := sl } ∧
      R (.ok (.ret (.ref (s.heap.push { cls := .type "tuple_iterator", data := .fields #[.ref l, .int 0 0] }).objs.size)))
        { s with heap := (s.heap.push { cls := .type "tuple_iterator", data := .fields #[.ref l, .int 0 0] }).push { cls := .type "enumerate", data := .fields #[.none, .bool false, .ref s.heap.objs.size, rawInt 0, .none, .none] } }) :=
  .of_wp fun prog w A R s h => by
    obtain ⟨hp, g, d, tk, os⟩ := s; obtain ⟨hl, h⟩ := h
    have hsub := sub_enumerate
    have hL : Heap.IsTuple (Shared.heap ⟨hp, g, d, tk, os⟩) l items := ⟨_, hl, rfl, n, rfl⟩
    wp_walk using AutoSeq1.wpAny_loadPart' hl
    refine wpAny_stack_any fun st => wpAny_pure ?_
    split
    · rename_i c _ _ _ _ _
      cases (c == Value.type "enumerate")
      · wp_walk using AutoSeq1.wpAny_loadPart' hl, wpAny_pyIter_tuple hL
        exact ⟨_, rfl, h⟩
      · wp_walk using AutoSeq1.wpAny_loadPart' hl, wpAny_pyIter_tuple hL
        exact ⟨_, rfl, h⟩
    · wp_walk using AutoSeq1.wpAny_loadPart' hl, wpAny_pyIter_tuple hL
      exact ⟨_, rfl, h⟩
section
variable {prog : Program} {w : World} {A : Around} {E : Value → Shared → Prop} {s : Shared}
theorem enumT_call {l : Addr} {items : Array Value} {Q : Value → Shared → Prop} (hL : s.heap.IsTuple l items)
    (h : ∀ h', IsEnum h' (s.heap.objs.size + 1) s.heap.objs.size 0 .none → h'.IsTupleIter s.heap.objs.size l 0 → h'.objs.size = s.heap.objs.size + 2 →
      (∀ b o, s.heap.get? b = some o → h'.get? b = some o) → Q (.ref (s.heap.objs.size + 1)) { s with heap := h' }) :
    wpAny (model prog w) A (call (.type "enumerate") [.ref l]) Q E s := by
  obtain ⟨⟨c, dct, dt, sl⟩, hl, hc, n, hd⟩ := hL
  replace hc : c = .type "tuple" := hc
  replace hd : dt = .seq items n := hd
  subst hc hd
  refine callType_new F.called_enumerate (by decide) (F.typeCall_enumerate_1 _) (F.newCall_enumerate_1 _) (fun obj => F.args_object_init_2 obj _) F.entry_enumerate_new (enumT_new l items n dct sl) ⟨hl, ?_⟩
  have hz : (s.heap.push { cls := .type "tuple_iterator", data := .fields #[.ref l, .int 0 0] }).objs.size = s.heap.objs.size + 1 := Heap.size_push ..
  show _ ∧ _
  rw [hz]
  have he : IsEnum ((s.heap.push { cls := .type "tuple_iterator", data := .fields #[.ref l, .int 0 0] }).push { cls := .type "enumerate", data := .fields #[.none, .bool false, .ref s.heap.objs.size, rawInt 0, .none, .none] }) (s.heap.objs.size + 1) s.heap.objs.size 0 .none := by
    have := Heap.get?_push_size (s.heap.push { cls := .type "tuple_iterator", data := .fields #[.ref l, .int 0 0] }) (o := { cls := .type "enumerate", data := .fields #[.none, .bool false, .ref s.heap.objs.size, rawInt 0, .none, .none] }) rfl
    rw [hz] at this
    exact this
  exact ⟨⟨_, he, rfl⟩, h _ he ⟨_, Heap.get?_push_of_some _ (Heap.get?_push_size _ rfl), rfl, rfl⟩ (by rw [Heap.size_push, hz]) fun b o x => Heap.get?_push_of_some _ (Heap.get?_push_of_some _ x)⟩
end
def IteT (K : PySem.W.Frag) (a : Addr) : It :=
  ⟨fun i H => ∃ (xs : List V) (x : V), SqT K H a xs ∧ xs[i]? = some x, fun i H v H' => ∃ T x, v = .ref T ∧ H T = none ∧ H' = upd H T (.tup [.int (i : Nat), x]) ∧ ∀ xs, SqT K H a xs → xs[i]? = some x, fun i H => ∃ xs : List V, SqT K H a xs ∧ xs.length ≤ i⟩
theorem turn_enumT {P : Program} {w : World} {K : PySem.W.Frag} {elts : List Expr} {kk : Nat} {tpos : Pos} (a e it : Addr) :
    Turn P w K (.Tuple elts kk tpos) (IteT K a) [e, it] e (fun i h => (∃ old, IsEnum h e it ((i : Nat) : Int) old) ∧ h.IsTupleIter it a i ∧ e ≠ it) where
  mem := by simp
  obj := fun i h st b hb => by
    obtain ⟨⟨old, he⟩, ⟨o, ho, hc, hd⟩, _⟩ := st
    rcases (by simpa using hb : b = e ∨ b = it) with z | z
    · rw [z]; exact ⟨_, he, fun v q => nomatch q⟩
    · rw [z]; exact ⟨o, ho, fun v q => by rw [hd] at q; cases q⟩
  keep := fun i h h' st k => let ⟨⟨old, he⟩, hi, hne⟩ := st; ⟨⟨old, k e (by simp) _ he⟩, hi.at fun o q => k it (by simp) o q, hne⟩
  item := by
    intro X hP hw hK hc i pins s σ H E I hf st hg
    subst hP hw hK
    obtain ⟨⟨old, he⟩, hit, hne⟩ := st
    obtain ⟨xs, x, hq, hx⟩ := hg
    obtain ⟨its, rv, p, hz⟩ := I.tuple hq
    obtain ⟨u, hu, ru⟩ := rv.get hx
    have hel : e < s.heap.objs.size := Heap.lt_size he
    have hil : it < s.heap.objs.size := by obtain ⟨_, q, _⟩ := hit; exact Heap.lt_size q
    refine enumT_item he hit (show s.heap.IsTuple a its.toArray from p) (x := u) (by simpa using hu) hne fun h' ho hit' hT hsz hk => ?_
    refine ⟨_, rfl, wpAny_letOwnedTupleGo_enum (s := { s with heap := h', toks := s.toks + 1 }) ho fun h'' he' sb => ?_⟩
    have hT2 : h''.get? s.heap.objs.size = some { cls := .type "tuple", data := .seq #[.int i s.toks, u] } := (sb.2 _ (Nat.ne_of_gt hel)).trans hT
    have new : ObjOk X.prog X.w (upd H s.heap.objs.size (.tup [.int (i : Nat), x])) h'' s.heap.objs.size (.tup [.int (i : Nat), x]) :=
      ⟨by show 2 ≤ sizeLine; decide, [.int i s.toks, u], .cons ⟨_, rfl⟩ (.cons ru .nil), ⟨_, hT2, rfl, _, rfl⟩⟩
    have I1 : Inv X pins σ (upd H s.heap.objs.size (.tup [.int (i : Nat), x])) { s with heap := h'', toks := s.toks + 1 } :=
      I.turnedNew (ch := [e, it]) (fun b ob hb q => (sb.2 b (fun z => hb (by simp [z]))).trans (hk b ob (fun z => hb (by simp [z])) (fun z => hb (by simp [z])) q)) hf (Nat.le_refl _) new
    refine ⟨.ref s.heap.objs.size, _, I1, rfl, ⟨_, x, rfl, I.hok.fresh (Nat.le_refl _), rfl, fun ys hy => by rw [I.tuple_inj hy hq]; exact hx⟩, ⟨⟨u, by rw [show ((i + 1 : Nat) : Int) = (i : Int) + 1 by omega]; exact he'⟩, hit'.at fun o q => (sb.2 it (Ne.symm hne)).trans q, hne⟩, fun b hb => ?_⟩
    have hb' : b < s.heap.objs.size := by
      rcases (by simpa using hb : b = e ∨ b = it) with z | z
      · rw [z]; exact hel
      · rw [z]; exact hil
    rw [upd_ne (Nat.ne_of_lt hb')]
    exact (hf b hb).1
  done := by
    intro X hP hw hK hc i pins s σ H E I hf st hg
    subst hP hw hK
    obtain ⟨⟨old, he⟩, hit, hne⟩ := st
    obtain ⟨xs, hq, hx⟩ := hg
    obtain ⟨its, rv, p, hz⟩ := I.tuple hq
    obtain ⟨f0, f1, f2, f3, f4, f5⟩ := hf it (by simp)
    have hl := rv.length
    exact enumT_end (I.ok.hd hc) he hit (show s.heap.IsTuple a its.toArray from p) (by simp; omega) fun h' eb => ⟨rfl, I.turned (t' := s.toks) (fun b o hb q => eb b o hb q) f0 f1 f3 f4 f5⟩
  self := fun A i s Q E st h => let ⟨⟨_, he⟩, _⟩ := st; wpAny_pyIter_enum he h
def iEnumA (K : PySem.W.Frag) (ta : TA) : TI := fun σ H R => ta σ H fun vs H1 => ∃ a xs, vs = [.ref a] ∧ ((SqL K H1 a xs ∧ R (Ite K a) H1) ∨ (SqT K H1 a xs ∧ R (IteT K a) H1))
theorem pi_enumA {X : Cx} {e : Expr} {ta : TA} {p pos tpos : Pos} {elts : List Expr} {kk : Nat} (hg : Gl X "enumerate") (hm : X.mg "enumerate" = none) (ha : PA X [e] ta) (hs : starEach [e] X.env = [(false, eval e X.env)] := by rfl) :
    PI X (.Tuple elts kk tpos) (.Call (.Name "enumerate" p) [e] [] pos) (iEnumA X.K ta) := by
  refine ⟨fun pins s σ H R I h => ?_⟩
  refine Call_ (ld_blt I hg hm boot_enumerate (PyProof.Rows.callWith_type1 (thn (ha.run pos pins s σ H _ I h) fun us s1 ⟨vs, H1, I1, r1, q1⟩ => ?_) hs rfl))
  obtain ⟨a, xs, ex, q1⟩ := q1
  subst ex
  cases r1 with
  | cons r rr =>
    cases rr
    cases r
    have fp : ∀ b ∈ [s1.heap.objs.size + 1, s1.heap.objs.size], FpOk X pins H1 b := fun b hb => by
      have hle : s1.heap.objs.size ≤ b := by
        rcases (by simpa using hb : b = s1.heap.objs.size + 1 ∨ b = s1.heap.objs.size) with z | z
        · rw [z]; exact Nat.le_add_right _ _
        · rw [z]; exact Nat.le_refl _
      exact I1.fpOk hle (I1.hok.fresh hle)
    rcases q1 with ⟨hq, q⟩ | ⟨hq, q⟩
    · obtain ⟨its, rv, p', hz⟩ := I1.list hq
      refine call_enumerate_list p'.isList fun h' he hit hsz hk => wpAny_pyIter_enum he ?_
      exact ⟨s1.heap.objs.size + 1, [s1.heap.objs.size + 1, s1.heap.objs.size], _, _, H1, rfl, I1.kept (t' := s1.toks) hk, turn_enum a (s1.heap.objs.size + 1) s1.heap.objs.size, ⟨⟨.none, he⟩, hit, Nat.succ_ne_self _⟩, fp, q⟩
    · obtain ⟨its, rv, p', hz⟩ := I1.tuple hq
      refine enumT_call (show s1.heap.IsTuple a its.toArray from p') fun h' he hit hsz hk => wpAny_pyIter_enum he ?_
      exact ⟨s1.heap.objs.size + 1, [s1.heap.objs.size + 1, s1.heap.objs.size], _, _, H1, rfl, I1.kept (t' := s1.toks) hk, turn_enumT a (s1.heap.objs.size + 1) s1.heap.objs.size, ⟨⟨.none, he⟩, hit, Nat.succ_ne_self _⟩, fp, q⟩
end FZ
namespace Mi
open PySem PySem.Spec PyProof.Rows L2 Fo
variable [Nm]
inductive Xc where
  | mal
  | ref (r : Str)
  | at_ (i : Int)
inductive Rs (α : Type) where
  | bad
  | ok (a : α)
  | ex (x : Xc)
variable {α β : Type}
def Rs.bind (r : Rs α) (f : α → Rs β) : Rs β := match r with
  | .bad => .bad
  | .ok a => f a
  | .ex x => .ex x
theorem bind_ok {r : Rs α} {f : α → Rs β} {b : β} (h : r.bind f = .ok b) : ∃ a, r = .ok a ∧ f a = .ok b := by
  cases r with
  | bad => cases h
  | ex x => cases h
  | ok a => exact ⟨a, rfl, h⟩
@[simp] theorem ok_bind (a : α) (f : α → Rs β) : (Rs.ok a).bind f = f a := rfl
abbrev Env := List (Option Da)
abbrev ME := Env → Rs Da
abbrev MT := Env → Rs Bool
abbrev MA := Env → Rs (List Da)
def mVar (i : Nat) : ME := fun e => match e[i]? with
  | some (some d) => .ok d
  | _ => .bad
def mC (d : Da) : ME := fun _ => .ok d
def m1 (f : Da → Rs Da) (a : ME) : ME := fun e => (a e).bind f
def m2 (f : Da → Da → Rs Da) (a b : ME) : ME := fun e => (a e).bind fun x => (b e).bind fun y => f x y
def mNil : MA := fun _ => .ok []
def mCons (a : ME) (r : MA) : MA := fun e => (a e).bind fun x => (r e).bind fun xs => .ok (x :: xs)
def mN (f : List Da → Rs Da) (a : MA) : ME := fun e => (a e).bind f
def mTup (a : MA) : ME := fun e => (a e).bind fun xs => .ok (.tup xs)
def mLst (a : MA) : ME := fun e => (a e).bind fun xs => .ok (.lst xs)
def fBl : Da → Rs Bool
  | .bl b => .ok b
  | _ => .bad
def mT (a : ME) : MT := fun e => (a e).bind fBl
def mTNot (a : MT) : MT := fun e => (a e).bind fun b => .ok (!b)
def mTAnd (a b : MT) : MT := fun e => (a e).bind fun x => if x then b e else .ok false
def mTOr (a b : MT) : MT := fun e => (a e).bind fun x => if x then .ok true else b e
def mYes : MT := fun _ => .ok true
def mAnd (a b : ME) : ME := fun e => (mT a e).bind fun x => if x then b e else .ok (.bl false)
def mOr (a b : ME) : ME := fun e => (mT a e).bind fun x => if x then .ok (.bl true) else b e
def mNot (a : ME) : ME := fun e => (mT a e).bind fun x => .ok (.bl (!x))
def mIf (t : MT) (a b : ME) : ME := fun e => (t e).bind fun x => if x then a e else b e
def mChain (f g : Da → Da → Rs Da) (a b c : ME) : ME := fun e => (a e).bind fun x => (b e).bind fun y => (f x y).bind fun z => match z with
  | .bl true => (c e).bind fun u => (g y u).bind fun q => match q with
    | .bl k => .ok (.bl k)
    | _ => .bad
  | .bl false => .ok (.bl false)
  | _ => .bad
def fII (g : Int → Int → Int) : Da → Da → Rs Da
  | .int i, .int j => .ok (.int (g i j))
  | _, _ => .bad
def fIB (g : Int → Int → Bool) : Da → Da → Rs Da
  | .int i, .int j => .ok (.bl (g i j))
  | _, _ => .bad
def fIC (c : Int → Int → Bool) (g : Int → Int → Int) : Da → Da → Rs Da
  | .int i, .int j => if c i j then .ok (.int (g i j)) else .bad
  | _, _ => .bad
def fU (g : Int → Int) : Da → Rs Da
  | .int i => .ok (.int (g i))
  | _ => .bad
def cDiv (_ j : Int) : Bool := decide (0 < j ∧ j.natAbs.log2 < 9000)
def cMod (_ j : Int) : Bool := decide (0 < j)
def cShl (i j : Int) : Bool := decide (0 ≤ j ∧ (Builtin.Int.intBits i : Int) + j ≤ 2 ^ 27)
def cShr (_ j : Int) : Bool := decide (0 ≤ j)
def eqD (x y : Da) : Bool := PyData.eqv (toP x) (toP y)
def seqOf : Da → Rs (List Da)
  | .lst ds => .ok ds
  | .tup ds => .ok ds
  | _ => .bad
def lstOf : Da → Rs (List Da)
  | .lst ds => .ok ds
  | _ => .bad
def tupOf : Da → Rs (List Da)
  | .tup ds => .ok ds
  | _ => .bad
def getR : Option Da → Rs Da
  | some d => .ok d
  | none => .bad
def fIx (x y : Da) : Rs Da := (seqOf x).bind fun ds => match y with
  | .int i => getR (atI ds i)
  | _ => .bad
def fCatT (x y : Da) : Rs Da := match x, y with
  | .tup a, .tup b => if a.length + b.length ≤ 1000000 then .ok (.tup (a ++ b)) else .bad
  | _, _ => .bad
def fLen : List Da → Rs Da
  | [x] => (seqOf x).bind fun ds => .ok (.int ds.length)
  | _ => .bad
def blsOf : List Da → Rs (List Bool)
  | [] => .ok []
  | d :: ds => (fBl d).bind fun b => (blsOf ds).bind fun bs => .ok (b :: bs)
def fAll : List Da → Rs Da
  | [x] => (lstOf x).bind fun ds => (blsOf ds).bind fun bs => .ok (.bl (bs.all id))
  | _ => .bad
def fTupOf (x : Da) : Rs Da := (seqOf x).bind fun ds => .ok (.tup ds)
def fListOf : List Da → Rs Da
  | [x] => (seqOf x).bind fun ds => .ok (.lst ds)
  | _ => .bad
def fRange1 : List Da → Rs Da
  | [.int j] => .ok (.rng 0 j)
  | _ => .bad
def fInt1 : List Da → Rs Da
  | [.int i] => .ok (.int i)
  | [.bl k] => .ok (.int (if k = true then 1 else 0))
  | _ => .bad
def fBits (x : Da) : Rs Da := match x with
  | .int i => .ok (.int (Builtin.Int.intBits i : Nat))
  | _ => .bad
def fIsi (c : String) (x : Da) : Rs Da := match tyD x with
  | some T => match kitB T c with
    | some b => .ok (.bl b)
    | none => .bad
  | none => .bad
def fIsi2 (c1 c2 : String) (x : Da) : Rs Da := match tyD x with
  | some T => match kitB T c1, kitB T c2 with
    | some b1, some b2 => .ok (.bl (b1 || b2))
    | _, _ => .bad
  | none => .bad
def flatD : Da → Bool
  | .non => true
  | .bl _ => true
  | .int _ => true
  | .str _ => true
  | _ => false
def fIn (neg : Bool) (x y : Da) : Rs Da := (seqOf y).bind fun ds => if flatD x && ds.all flatD then .ok (.bl (if neg then !ds.any (fun z => eqD z x) else ds.any (fun z => eqD z x))) else .bad
inductive Tg where
  | nm (i : Nat)
  | tp (ts : List Tg)
mutual
def bindT : Tg → Da → Env → Option Env
  | .nm i, d, e => some (e.set i (some d))
  | .tp ts, d, e => match d with
    | .tup ds => bindTs ts ds e
    | _ => none
def bindTs : List Tg → List Da → Env → Option Env
  | [], [], e => some e
  | t :: ts, d :: ds, e => match bindT t d e with
    | some e1 => bindTs ts ds e1
    | none => none
  | _, _, _ => none
end
mutual
def Tg.sl : Tg → List Nat
  | .nm i => [i]
  | .tp ts => Tg.sls ts
def Tg.sls : List Tg → List Nat
  | [] => []
  | t :: ts => t.sl ++ Tg.sls ts
end
def mRng1 (a : MA) : MA := fun e => (a e).bind fun xs => match xs with
  | [.int n] => if -1000000 ≤ n ∧ n ≤ 1000000 then .ok (rng 0 n.toNat) else .bad
  | _ => .bad
def mRng2 (a : MA) : MA := fun e => (a e).bind fun xs => match xs with
  | [.int lo, .int n] => if -1000000 ≤ n ∧ n ≤ 1000000 ∧ -1000000 ≤ lo ∧ lo ≤ 1000000 then .ok (rng lo (n - lo).toNat) else .bad
  | _ => .bad
def mSeq (a : ME) : MA := fun e => (a e).bind seqOf
def mRngV (a : ME) : MA := fun e => (a e).bind fun x => match x with
  | .rng lo hi => if -1000000 ≤ lo ∧ lo ≤ 1000000 ∧ -1000000 ≤ hi ∧ hi ≤ 1000000 then .ok (rng lo (hi - lo).toNat) else .bad
  | _ => .bad
def mEnum (a : ME) : MA := fun e => (a e).bind fun x => (lstOf x).bind fun ds => .ok (ds.mapIdx fun i d => .tup [.int (i : Int), d])
def mRev (a : ME) : MA := fun e => (a e).bind fun x => (lstOf x).bind fun ds => .ok ds.reverse
def lcRun (tg : Tg) (t : MT) (v : ME) (e : Env) : List Da → Rs (List Da)
  | [] => .ok []
  | d :: ds => match bindT tg d e with
    | none => .bad
    | some e1 => (t e1).bind fun b => if b then (v e1).bind fun x => (lcRun tg t v e ds).bind fun r => .ok (x :: r) else lcRun tg t v e ds
def mLc (w : MA) (tg : Tg) (t : MT) (v : ME) (vs : List Nat) : ME := fun e => (w e).bind fun ds => if ds.length ≤ 500000 then (lcRun tg t v (wipeG e vs) ds).bind fun r => .ok (.lst r) else .bad
def lc2Run (tg : Tg) (t : MT) (w1 : MA) (tg1 : Tg) (t1 : MT) (v : ME) (vs1 : List Nat) (e : Env) : List Da → Rs (List Da)
  | [] => .ok []
  | d :: ds => match bindT tg d e with
    | none => .bad
    | some e1 => (t e1).bind fun b => if b then (w1 e1).bind fun ds1 => (lcRun tg1 t1 v (wipeG e1 vs1) ds1).bind fun x => (lc2Run tg t w1 tg1 t1 v vs1 e ds).bind fun r => .ok (x ++ r) else lc2Run tg t w1 tg1 t1 v vs1 e ds
def mLc2 (w : MA) (tg : Tg) (t : MT) (w1 : MA) (tg1 : Tg) (t1 : MT) (v : ME) (vs vs1 : List Nat) : ME := fun e => (w e).bind fun ds => (lc2Run tg t w1 tg1 t1 v vs1 (wipeG e vs) ds).bind fun r => if r.length ≤ 500000 then .ok (.lst r) else .bad
section
variable {K : PySem.W.Frag} {te ta tb tc : TE} {tt tu : TT} {tr : TA} {wi wi1 : TI} {a b c me : ME} {t u : MT} {ma : MA} {w w1 : MA}
def GE (K : PySem.W.Frag) (te : TE) (me : ME) : Prop := ∀ e d, me e = .ok d → EvG K e te d
def GB (K : PySem.W.Frag) (tt : TT) (mt : MT) : Prop := ∀ e b, mt e = .ok b → EvB K e tt b
def GA (K : PySem.W.Frag) (tr : TA) (ma : MA) (n : Nat) : Prop := ∀ e ds, ma e = .ok ds → EvS K e tr ds ∧ ds.length = n
def GI (K : PySem.W.Frag) (wi : TI) (mi : MA) : Prop := ∀ e ds, mi e = .ok ds → EvI K e wi ds
def R2m (K : PySem.W.Frag) (r : R2) (f : Da → Da → Rs Da) : Prop := ∀ x y z, f x y = .ok z → RG K r x y z
def R1m (K : PySem.W.Frag) (r : V → Hp → VK → Prop) (f : Da → Rs Da) : Prop := ∀ x z, f x = .ok z → RG1 K r x z
def RNm (K : PySem.W.Frag) (r : List V → Hp → VK → Prop) (f : List Da → Rs Da) : Prop := ∀ xs z, f xs = .ok z → RGC K r xs z
theorem e_var (i : Nat) : GE K (tVar i) (mVar i) := fun e d h => by
  unfold mVar at h
  split at h
  · cases h
    exact g_var ‹_›
  · cases h
theorem e_int {i : Int} : GE K (tC (.int i)) (mC (.int i)) := fun e d h => by cases h; exact g_int
theorem e_bl {b : Bool} : GE K (tC (.bl b)) (mC (.bl b)) := fun e d h => by cases h; exact g_bl
theorem e_op {r : R2} {f : Da → Da → Rs Da} (hr : R2m K r f) (ha : GE K ta a) (hb : GE K tb b) : GE K (tOp r ta tb) (m2 f a b) := fun e d h => by
  obtain ⟨x, hx, h⟩ := bind_ok h
  obtain ⟨y, hy, h⟩ := bind_ok h
  exact g_op (ha e x hx) (hb e y hy) (hr x y d h)
theorem e_un {r : V → Hp → VK → Prop} {f : Da → Rs Da} (hr : R1m K r f) (ha : GE K ta a) : GE K (tUn r ta) (m1 f a) := fun e d h => by
  obtain ⟨x, hx, h⟩ := bind_ok h
  exact g_un (ha e x hx) (hr x d h)
theorem a_nil : GA K tNil mNil 0 := fun e ds h => by cases h; exact ⟨s_nil, rfl⟩
theorem a_cons {n : Nat} (ha : GE K ta a) (hr : GA K tr ma n) : GA K (tCons ta tr) (mCons a ma) (n + 1) := fun e ds h => by
  obtain ⟨x, hx, h⟩ := bind_ok h
  obtain ⟨y, hy, h⟩ := bind_ok h
  cases h
  obtain ⟨h1, h2⟩ := hr e y hy
  exact ⟨s_cons (ha e x hx) h1, by rw [List.length_cons, h2]⟩
theorem e_cb {r : List V → Hp → VK → Prop} {f : List Da → Rs Da} {n : Nat} (hr : RNm K r f) (h : GA K tr ma n) : GE K (tCB r tr) (mN f ma) := fun e d hd => by
  obtain ⟨xs, hx, hd⟩ := bind_ok hd
  exact g_cb (h e xs hx).1 (hr xs d hd)
theorem e_tup {n : Nat} (h : GA K tr ma n) (hn : n ≤ 1000000 := by decide) : GE K (tTup tr) (mTup ma) := fun e d hd => by
  obtain ⟨xs, hx, hd⟩ := bind_ok hd
  cases hd
  obtain ⟨h1, h2⟩ := h e xs hx
  exact g_tup h1 (by omega)
theorem e_lst {n : Nat} (h : GA K tr ma n) (hn : n ≤ 1000000 := by decide) : GE K (tLst tr) (mLst ma) := fun e d hd => by
  obtain ⟨xs, hx, hd⟩ := bind_ok hd
  cases hd
  obtain ⟨h1, h2⟩ := h e xs hx
  exact g_lst h1 (by omega)
theorem mT_ok {a : ME} {e : Env} {x : Bool} (h : mT a e = .ok x) : a e = .ok (.bl x) := by
  obtain ⟨d, hd, h⟩ := bind_ok h
  cases d <;> cases h
  exact hd
theorem b_tst (ha : GE K ta a) : GB K (tTest ta) (mT a) := fun e x h => b_test (ha e _ (mT_ok h))
theorem b_tB (ha : GE K ta a) : GB K (tB ta) (mT a) := fun e x h => b_B (ha e _ (mT_ok h))
theorem b_tnot (ha : GB K tt t) : GB K (tNot tt) (mTNot t) := fun e x h => by
  obtain ⟨d, hd, h⟩ := bind_ok h
  cases h
  exact b_not (ha e d hd)
theorem b_tand (ha : GB K tt t) (hb : GB K tu u) : GB K (tAnd tt tu) (mTAnd t u) := fun e x h => by
  obtain ⟨d, hd, h⟩ := bind_ok h
  cases d with
  | true => exact (b_and (ha e _ hd) fun _ => hb e x h).to (by simp)
  | false =>
    cases h
    exact (b_and (b := false) (ha e _ hd) fun z => nomatch z).to rfl
theorem b_tor (ha : GB K tt t) (hb : GB K tu u) : GB K (tOr tt tu) (mTOr t u) := fun e x h => by
  obtain ⟨d, hd, h⟩ := bind_ok h
  cases d with
  | false => exact (b_or (ha e _ hd) fun _ => hb e x h).to (by simp)
  | true =>
    cases h
    exact (b_or (b := true) (ha e _ hd) fun z => nomatch z).to rfl
theorem b_tyes : GB K tYes mYes := fun e x h => by cases h; exact b_yes
theorem e_and (ha : GE K ta a) (hb : GE K tb b) : GE K (tAndV ta tb) (mAnd a b) := fun e d h => by
  obtain ⟨x, hx, h⟩ := bind_ok h
  have hx := mT_ok hx
  cases x with
  | true => exact fun σ B H hs ex Q k => ha e _ hx σ B H hs ex _ fun v B1 H1 n1 r1 => ⟨true, r1, by
      rw [if_pos rfl]
      exact hb e d h σ B1 H1 (hs.mono n1.b) n1.ok Q (k.mono n1)⟩
  | false =>
    cases h
    exact fun σ B H hs ex Q k => ha e _ hx σ B H hs ex _ fun v B1 H1 n1 r1 => ⟨false, r1, by
      rw [if_neg Bool.false_ne_true]
      exact k _ B1 H1 n1 rfl⟩
theorem e_or (ha : GE K ta a) (hb : GE K tb b) : GE K (tOrV ta tb) (mOr a b) := fun e d h => by
  obtain ⟨x, hx, h⟩ := bind_ok h
  have hx := mT_ok hx
  cases x with
  | false => exact fun σ B H hs ex Q k => ha e _ hx σ B H hs ex _ fun v B1 H1 n1 r1 => ⟨false, r1, by
      rw [if_neg Bool.false_ne_true]
      exact hb e d h σ B1 H1 (hs.mono n1.b) n1.ok Q (k.mono n1)⟩
  | true =>
    cases h
    exact fun σ B H hs ex Q k => ha e _ hx σ B H hs ex _ fun v B1 H1 n1 r1 => ⟨true, r1, by
      rw [if_pos rfl]
      exact k _ B1 H1 n1 rfl⟩
theorem e_not (ha : GE K ta a) : GE K (tNotV ta) (mNot a) := fun e d h => by
  obtain ⟨x, hx, h⟩ := bind_ok h
  cases h
  exact g_not (ha e _ (mT_ok hx))
theorem o_II {g : Int → Int → Int} : R2m K (rI0 fun i j => .int (g i j)) (fII g) := fun x y z h => by
  unfold fII at h
  split at h
  · cases h
    exact r_I0 fun _ => rfl
  · cases h
theorem o_IB {g : Int → Int → Bool} : R2m K (rI0 fun i j => .bl (g i j)) (fIB g) := fun x y z h => by
  unfold fIB at h
  split at h
  · cases h
    exact r_I0 fun _ => rfl
  · cases h
theorem o_IC {C : Int → Int → Prop} {c : Int → Int → Bool} {g : Int → Int → Int} (hc : ∀ i j, c i j = true → C i j) : R2m K (rI C fun i j => .int (g i j)) (fIC c g) := fun x y z h => by
  unfold fIC at h
  split at h
  · split at h
    · cases h
      exact r_I (hc _ _ ‹_›) fun _ => rfl
    · cases h
  · cases h
theorem c_div (i j : Int) (h : cDiv i j = true) : CDivW i j := of_decide_eq_true (p := 0 < j ∧ j.natAbs.log2 < 9000) h
theorem c_mod (i j : Int) (h : cMod i j = true) : (0 : Int) < j := of_decide_eq_true h
theorem c_shl (i j : Int) (h : cShl i j = true) : CShl i j := of_decide_eq_true (p := 0 ≤ j ∧ (Builtin.Int.intBits i : Int) + j ≤ 2 ^ 27) h
theorem c_shr (i j : Int) (h : cShr i j = true) : (0 : Int) ≤ j := of_decide_eq_true h
theorem o_U {g : Int → Int} : R1m K (rU fun i => .int (g i)) (fU g) := fun x z h => by
  unfold fU at h
  split at h
  · cases h
    exact fun B H v e r Q k => ⟨_, r, k.now e rfl⟩
  · cases h
theorem and2 {a b : Bool} (h : (a && b) = true) : a = true ∧ b = true := by
  cases a <;> cases b <;> first | exact ⟨rfl, rfl⟩ | cases h
theorem seq_ok {x : Da} {ds : List Da} (h : seqOf x = .ok ds) : x = .lst ds ∨ x = .tup ds := by
  cases x <;> cases h
  · exact .inl rfl
  · exact .inr rfl
theorem lst_ok {x : Da} {ds : List Da} (h : lstOf x = .ok ds) : x = .lst ds := by
  cases x <;> cases h
  rfl
theorem tup_ok {x : Da} {ds : List Da} (h : tupOf x = .ok ds) : x = .tup ds := by
  cases x <;> cases h
  rfl
theorem get_ok {o : Option Da} {d : Da} (h : getR o = .ok d) : o = some d := by
  cases o <;> cases h
  rfl
theorem o_ix : R2m K (fun x y H Q => rIxL K x y H Q ∨ rIxT K x y H Q) fIx := fun x y z h => by
  obtain ⟨ds, h1, h⟩ := bind_ok h
  split at h
  · have h2 := get_ok h
    exact fun B H vx vy e rx ry Q k => by
      rcases seq_ok h1 with rfl | rfl
      · obtain ⟨a, xs, rfl, q1, q2⟩ := rx
        obtain ⟨x, h3, h4⟩ := atI_rp q2 h2
        exact .inl ⟨a, xs, _, x, rfl, ry, sq1 e q1, h3, k.now e h4⟩
      · obtain ⟨a, xs, rfl, q1, q2⟩ := rx
        obtain ⟨x, h3, h4⟩ := atI_rp q2 h2
        exact .inr ⟨a, xs, _, x, rfl, ry, ex_t e q1, h3, k.now e h4⟩
  · cases h
theorem o_catT : R2m K (rCatA K) fCatT := fun x y z h => by
  unfold fCatT at h
  split at h
  · split at h
    · cases h
      rename_i ds es hl
      intro B H vx vy e rx ry Q q
      obtain ⟨a, xs, rfl, h1, h2⟩ := rx
      obtain ⟨b, ys, rfl, h3, h4⟩ := ry
      refine ⟨a, b, xs, ys, rfl, rfl, ex_t e h1, ex_t e h3, size_ok (by rw [h2.length, h4.length]; exact hl), fun e0 => ?_, fun _ e0 => ?_, fun _ _ p hp => q.tup e (h2.append h4) hp⟩
      · subst e0
        have : ds = [] := List.length_eq_zero_iff.mp h2.length.symm
        subst this
        exact q.now e ⟨b, ys, rfl, h3, h4⟩
      · subst e0
        have : es = [] := List.length_eq_zero_iff.mp h4.length.symm
        subst this
        rw [List.append_nil] at q
        exact q.now e ⟨a, xs, rfl, h1, h2⟩
    · cases h
  · cases h
theorem n_len : RNm K (rLenQ K) fLen := fun xs z h => by
  unfold fLen at h
  split at h
  · obtain ⟨ds, h1, h⟩ := bind_ok h
    cases h
    exact c_lenE (seq_ok h1)
  · cases h
theorem bls_ok : ∀ {ds : List Da} {bs : List Bool}, blsOf ds = .ok bs → ds = bs.map Da.bl
  | [], _, h => by cases h; rfl
  | d :: ds, _, h => by
    obtain ⟨b, h1, h⟩ := bind_ok h
    obtain ⟨r, h2, h⟩ := bind_ok h
    cases h
    cases d <;> cases h1
    rw [bls_ok h2]
    rfl
theorem n_all : RNm K (rAll K) fAll := fun xs z h => by
  unfold fAll at h
  split at h
  · obtain ⟨ds, h1, h⟩ := bind_ok h
    obtain ⟨bs, h2, h⟩ := bind_ok h
    cases h
    rw [lst_ok h1, bls_ok h2]
    exact c_all
  · cases h
theorem e_tupOf {a : ME} {ta : TE} (ha : GE K ta a) : GE K (tThen ta (kTup K)) (m1 fTupOf a) := fun e d h => by
  obtain ⟨x, hx, h⟩ := bind_ok h
  obtain ⟨ds, h1, h⟩ := bind_ok h
  cases h
  rcases seq_ok h1 with rfl | rfl
  · exact g_tupL (ha e _ hx)
  · exact g_tupT (ha e _ hx)
theorem e_bits {a : ME} {ta : TE} (ha : GE K ta a) : GE K (tBits ta) (m1 fBits a) := fun e d h => by
  obtain ⟨x, hx, h⟩ := bind_ok h
  unfold fBits at h
  split at h
  · cases h
    exact g_bits (ha e _ hx)
  · cases h
theorem e_isi {a : ME} {ta : TE} {c : String} (ha : GE K ta a) : GE K (tCB (rIsi K) (tCons ta (tCons (tC (.ty c)) tNil))) (m1 (fIsi c) a) := fun e d h => by
  obtain ⟨x, hx, h⟩ := bind_ok h
  unfold fIsi at h
  split at h
  · split at h
    · cases h
      exact g_isi (ha e _ hx) ‹_› ‹_›
    · cases h
  · cases h
theorem flat_sca {d : Da} (h : flatD d = true) : ∃ v, sca d = some v ∧ flatV v = true := by
  cases d <;> first | exact ⟨_, rfl, rfl⟩ | cases h
theorem eqV_D {x y : Da} {v u : V} (h1 : sca x = some v) (h2 : sca y = some u) : eqV v u = eqD x y := by
  cases x <;> cases h1 <;> cases y <;> cases h2 <;> simp [eqV, eqD, toP, PyData.eqv]
theorem flat_vs {B : Hp} : ∀ {ds : List Da} {xs : List V}, ds.all flatD = true → RpA K B ds xs → xs.all flatV = true ∧ ∀ (x : Da) (v : V), sca x = some v → inV v xs = ds.any fun z => eqD z x
  | [], xs, _, r => by
    rw [show xs = [] from r]
    exact ⟨rfl, fun _ _ _ => rfl⟩
  | d :: ds, xs, h, r => by
    obtain ⟨x, q, rfl, h1, h2⟩ := r
    obtain ⟨h3, h4⟩ := and2 (show (flatD d && ds.all flatD) = true from h)
    obtain ⟨q1, q2⟩ := flat_vs h4 h2
    obtain ⟨v, e1, e2⟩ := flat_sca h3
    have e3 := sca_rp e1 h1
    subst e3
    refine ⟨by show (flatV x && q.all flatV) = true; rw [e2, q1]; rfl, fun y u hu => ?_⟩
    show (eqV x u || inV u q) = (eqD d y || ds.any fun z => eqD z y)
    rw [q2 y u hu, eqV_D e1 hu]
theorem o_in {neg : Bool} : R2m K (rIn K neg) (fIn neg) := fun x y z h => by
  obtain ⟨ds, h1, h⟩ := bind_ok h
  split at h
  · cases h
    obtain ⟨f1, f2⟩ := and2 ‹_›
    obtain ⟨u, e1, e2⟩ := flat_sca f1
    intro B H vx vy e rx ry Q k
    have e3 := sca_rp e1 rx
    subst e3
    rcases seq_ok h1 with rfl | rfl
    · obtain ⟨a, xs, rfl, h2, h3⟩ := ry
      obtain ⟨q1, q2⟩ := flat_vs f2 h3
      refine ⟨a, xs, rfl, .inl (sq1 e h2), e2, q1, ?_⟩
      rw [q2 x _ e1]
      exact k.now e rfl
    · obtain ⟨a, xs, rfl, h2, h3⟩ := ry
      obtain ⟨q1, q2⟩ := flat_vs f2 h3
      refine ⟨a, xs, rfl, .inr (ex_t e h2), e2, q1, ?_⟩
      rw [q2 x _ e1]
      exact k.now e rfl
  · cases h
theorem w_rng1 {tr : TA} {ma : MA} {n : Nat} (h : GA K tr ma n) : GI K (iRng1 tr) (mRng1 ma) := fun e ds hd => by
  obtain ⟨xs, hx, hd⟩ := bind_ok hd
  split at hd
  · split at hd
    · cases hd
      rename_i hn
      exact i_rng1 (h e _ hx).1 hn.2 hn.1
    · cases hd
  · cases hd
theorem w_seq {a : ME} {ta : TE} (ha : GE K ta a) : GI K (iSeq K ta) (Mi.mSeq a) := fun e ds hd => by
  obtain ⟨x, hx, hd⟩ := bind_ok hd
  rcases seq_ok hd with rfl | rfl
  · exact i_seqL (ha e _ hx)
  · exact i_seqT (ha e _ hx)
theorem wipe_set {σ : L2.St} {i : Nat} {x : Option V} {vs : List Nat} (h : i ∈ vs) : wipe (σ.set i x) vs = wipe σ vs := by
  apply List.ext_getElem?
  intro k
  rw [wipe_get, wipe_get, List.length_set]
  by_cases hk : k ∈ vs ∧ k < σ.length
  · rw [if_pos hk, if_pos hk]
  · rw [if_neg hk, if_neg hk]
    by_cases e : i = k
    · subst e
      have : ¬ i < σ.length := fun z => hk ⟨h, z⟩
      rw [List.getElem?_eq_none (by rw [List.length_set]; omega), List.getElem?_eq_none (by omega)]
    · rw [List.getElem?_set_ne e]
theorem wipe_idem {σ : L2.St} {vs : List Nat} : wipe (wipe σ vs) vs = wipe σ vs := by
  apply List.ext_getElem?
  intro k
  rw [wipe_get, wipe_length]
  by_cases hk : k ∈ vs ∧ k < σ.length
  · rw [if_pos hk, wipe_get, if_pos hk]
  · rw [if_neg hk]
def GT (K : PySem.W.Frag) (g : TG) (tg : Tg) : Prop := ∀ d e e1, bindT tg d e = some e1 → ∀ x σ B H, Sl K B e σ → Ex B H → Rp K B d x → ∀ Q : L2.St → Hp → Prop,
  (∀ σ2, Sl K B e1 σ2 → (∀ vs, (∀ i ∈ tg.sl, i ∈ vs) → wipe σ2 vs = wipe σ vs) → (∀ k, k ∉ tg.sl → σ2[k]? = σ[k]?) → Q σ2 H) → g x σ H Q
def GTs (K : PySem.W.Frag) (g : TGs) (tg : List Tg) : Prop := ∀ ds e e1, bindTs tg ds e = some e1 → ∀ xs σ B H, Sl K B e σ → Ex B H → RpA K B ds xs → ∀ Q : L2.St → Hp → Prop,
  (∀ σ2, Sl K B e1 σ2 → (∀ vs, (∀ i ∈ Tg.sls tg, i ∈ vs) → wipe σ2 vs = wipe σ vs) → (∀ k, k ∉ Tg.sls tg → σ2[k]? = σ[k]?) → Q σ2 H) → g xs σ H Q
theorem t_nm (i : Nat) : GT K (gName i) (.nm i) := fun d e e1 h x σ B H hs ex r Q k => by
  cases h
  exact k _ (hs.set i r) (fun vs hv => wipe_set (hv i List.mem_cons_self)) fun j hj => List.getElem?_set_ne fun z => hj (by rw [z]; exact List.mem_cons_self)
theorem bindTs_len : ∀ {ts : List Tg} {ds : List Da} {e e1 : Env}, bindTs ts ds e = some e1 → ds.length = ts.length
  | [], [], _, _, _ => rfl
  | [], _ :: _, _, _, h => by cases h
  | _ :: _, [], _, _, h => by cases h
  | t :: ts, d :: ds, e, e1, h => by
    unfold bindTs at h
    split at h
    · rw [List.length_cons, List.length_cons, bindTs_len h]
    · cases h
theorem t_tp {gs : TGs} {ts : List Tg} {n : Nat} (h : GTs K gs ts) (hn : ts.length = n := by rfl) : GT K (gTup K n gs) (.tp ts) := fun d e e1 hb x σ B H hs ex r Q k => by
  unfold bindT at hb
  split at hb
  · obtain ⟨a, xs, rfl, h1, h2⟩ := r
    exact ⟨a, xs, rfl, ex_t ex h1, by rw [h2.length, bindTs_len hb, hn], h _ e e1 hb xs σ B H hs ex h2 Q k⟩
  · cases hb
theorem ts_nil : GTs K gNil [] := fun ds e e1 h xs σ B H hs ex r Q k => by
  cases ds with
  | nil =>
    cases h
    exact ⟨r, k σ hs (fun _ _ => rfl) fun _ _ => rfl⟩
  | cons d ds => cases h
theorem ts_cons {g : TG} {gs : TGs} {t : Tg} {ts : List Tg} (h1 : GT K g t) (h2 : GTs K gs ts) : GTs K (gCons g gs) (t :: ts) := fun ds e e1 h xs σ B H hs ex r Q k => by
  cases ds with
  | nil => cases h
  | cons d ds =>
    unfold bindTs at h
    split at h
    · rename_i e2 he
      obtain ⟨x, q, rfl, r1, r2⟩ := r
      exact ⟨x, q, rfl, h1 d e e2 he x σ B H hs ex r1 _ fun σ2 s2 w2 g2 => h2 ds e2 e1 h q σ2 B H s2 ex r2 Q fun σ3 s3 w3 g3 => k σ3 s3 (fun vs hv => (w3 vs fun i hi => hv i (List.mem_append.mpr (.inr hi))).trans (w2 vs fun i hi => hv i (List.mem_append.mpr (.inl hi)))) fun j hj => (g3 j fun z => hj (List.mem_append.mpr (.inr z))).trans (g2 j fun z => hj (List.mem_append.mpr (.inl z)))⟩
    · cases h
def lcF (tg : Tg) (t : MT) (e : Env) (d : Da) : Bool := match bindT tg d e with
  | some e1 => match t e1 with
    | .ok b => b
    | _ => false
  | none => false
def lcV (tg : Tg) (v : ME) (e : Env) (d : Da) : Da := match bindT tg d e with
  | some e1 => match v e1 with
    | .ok x => x
    | _ => .non
  | none => .non
theorem lcRun_ok {tg : Tg} {t : MT} {v : ME} {e : Env} : ∀ {ds r : List Da}, lcRun tg t v e ds = .ok r → (∀ d ∈ ds, ∃ e1 b, bindT tg d e = some e1 ∧ t e1 = .ok b ∧ (b = true → ∃ x, v e1 = .ok x)) ∧ r = (ds.filter (lcF tg t e)).map (lcV tg v e)
  | [], r, h => by
    cases h
    exact ⟨(fun d hd => nomatch hd), rfl⟩
  | d :: ds, r, h => by
    unfold lcRun at h
    split at h
    · cases h
    · rename_i e1 he
      obtain ⟨b, hb, h⟩ := bind_ok h
      have hf : lcF tg t e d = b := by unfold lcF; rw [he]; simp only; rw [hb]
      cases b with
      | true =>
        obtain ⟨x, hx, h⟩ := bind_ok h
        obtain ⟨q, hq, h⟩ := bind_ok h
        cases h
        obtain ⟨h1, h2⟩ := lcRun_ok hq
        refine ⟨fun d2 hd => ?_, ?_⟩
        · rcases List.mem_cons.mp hd with z | hd
          · subst z
            exact ⟨e1, true, he, hb, fun _ => ⟨x, hx⟩⟩
          · exact h1 d2 hd
        · rw [List.filter_cons, hf, if_pos rfl, List.map_cons, ← h2]
          unfold lcV
          rw [he]
          simp only
          rw [hx]
      | false =>
        obtain ⟨h1, h2⟩ := lcRun_ok h
        refine ⟨fun d2 hd => ?_, ?_⟩
        · rcases List.mem_cons.mp hd with z | hd
          · subst z
            exact ⟨e1, false, he, hb, fun z => nomatch z⟩
          · exact h1 d2 hd
        · rw [List.filter_cons, hf, if_neg Bool.false_ne_true, ← h2]
theorem tgt_of {g : TG} {tg : Tg} {tt : TT} {t : MT} {te : TE} {v : ME} {vs : List Nat} {e : Env} {ds r : List Da} (hg : GT K g tg) (ht : GB K tt t) (hv : GE K te v) (hin : ∀ i ∈ tg.sl, i ∈ vs) (h : lcRun tg t v (wipeG e vs) ds = .ok r) : Tgt K e vs g tt te ds (lcF tg t (wipeG e vs)) (lcV tg v (wipeG e vs)) := fun d hd x σ B H hs ex rx Q k => by
  obtain ⟨e1, b, h1, h2, h3⟩ := (lcRun_ok h).1 d hd
  refine hg d _ e1 h1 x (wipe σ vs) B H (Sl.wipe vs hs) ex rx Q fun σ2 s2 w2 _ => k σ2 ((w2 vs hin).trans wipe_idem) e1 s2 ?_ fun hf => ?_
  · have hf : lcF tg t (wipeG e vs) d = b := by unfold lcF; rw [h1]; simp only; rw [h2]
    rw [hf]
    exact ht e1 b h2
  · have hf2 : lcF tg t (wipeG e vs) d = b := by unfold lcF; rw [h1]; simp only; rw [h2]
    obtain ⟨y, hy⟩ := h3 (hf2 ▸ hf)
    have : lcV tg v (wipeG e vs) d = y := by unfold lcV; rw [h1]; simp only; rw [hy]
    rw [this]
    exact hv e1 y hy
theorem e_lc {wi : TI} {w : MA} {g : TG} {tg : Tg} {tt : TT} {t : MT} {te : TE} {v : ME} {vs : List Nat} (hw : GI K wi w) (hg : GT K g tg) (ht : GB K tt t) (hv : GE K te v) (hin : ∀ i ∈ tg.sl, i ∈ vs := by decide) : GE K (tLc wi g tt te vs) (mLc w tg t v vs) := fun e d h => by
  obtain ⟨ds, h1, h⟩ := bind_ok h
  split at h
  · obtain ⟨r, h2, h⟩ := bind_ok h
    cases h
    rw [(lcRun_ok h2).2]
    exact g_lc _ _ (hw e ds h1) ‹_› (tgt_of hg ht hv hin h2)
  · cases h
end
end Mi
namespace Mi
open PySem PySem.Spec PyProof.Rows L2 Fo
variable [Nm]
abbrev Mu := List (Option Nat × Addr × Da)
def HoR (K : PySem.W.Frag) (B : Hp) (d : Da) (o : HO) : Prop := match d with
  | .lst ds => ∃ xs, o = .lst xs ∧ RpA K B ds xs
  | .dct ks vs => ∃ xs, DctO ks xs o ∧ ks.length = vs.length ∧ RpA K B vs xs
  | _ => False
def MuH (K : PySem.W.Frag) (H0 B H : Hp) : Mu → Prop
  | [] => True
  | m :: r => (H0 m.2.1 = none ∧ B m.2.1 = none ∧ (∃ o, H m.2.1 = some o ∧ HoR K B m.2.2 o) ∧ ∀ q ∈ r, q.2.1 ≠ m.2.1) ∧ MuH K H0 B H r
structure Stt (K : PySem.W.Frag) (B0 H0 : Hp) (Γ : Sls) (M : Mu) (σ : L2.St) (B H : Hp) : Prop where
  s : Sl K B Γ σ
  h : MuH K H0 B H M
  l : ∀ m ∈ M, ∀ k, m.1 = some k → σ[k]? = some (some (.ref m.2.1))
  n : Nx B0 H0 B H
variable {K : PySem.W.Frag} {B0 H0 B H B2 H2 B3 H3 : Hp} {Γ Γ1 Γ2 : Sls} {M M1 M2 : Mu} {d d1 d2 : Da} {σ σ2 : L2.St} {i j k : Nat} {ds : List Da} {o : HO}
theorem HoR.mono (h : HoR K B d o) (e : Ex B B2) : HoR K B2 d o := by
  cases d with
  | lst ds =>
    obtain ⟨xs, h1, h2⟩ := h
    exact ⟨xs, h1, RpA.mono e _ _ h2⟩
  | dct ks vs =>
    obtain ⟨xs, h1, h2, h3⟩ := h
    exact ⟨xs, h1, h2, RpA.mono e _ _ h3⟩
  | _ => exact h.elim
theorem dctO_c {ks : List Da} {xs : List V} (h : DctO ks xs o) : notC o = true := by
  rcases h with ⟨_, _, rfl⟩ | ⟨_, _, rfl⟩ <;> rfl
theorem HoR.c (h : HoR K B d o) : notC o = true := by
  cases d with
  | lst ds =>
    obtain ⟨xs, rfl, h2⟩ := h
    rfl
  | dct ks vs =>
    obtain ⟨xs, h1, _⟩ := h
    exact dctO_c h1
  | _ => exact h.elim
theorem HoR.rp {l : Addr} (h : HoR K B d o) (hl : B l = some o) : Rp K B d (.ref l) := by
  cases d with
  | lst ds =>
    obtain ⟨xs, rfl, h2⟩ := h
    exact ⟨l, xs, rfl, hl, h2⟩
  | dct ks vs =>
    obtain ⟨xs, h1, h2, h3⟩ := h
    exact ⟨l, xs, o, rfl, hl, h1, h2, h3⟩
  | _ => exact h.elim
theorem MuH.nx : ∀ {M : Mu}, MuH K H0 B H M → Nx B H B2 H2 → MuH K H0 B2 H2 M
  | [], _, _ => trivial
  | _ :: _, ⟨⟨h1, h2, ⟨o, h3, h4⟩, h5⟩, hr⟩, n => ⟨⟨h1, (n.apart h2 h3 h4.c).1, ⟨o, (n.apart h2 h3 h4.c).2, h4.mono n.b⟩, h5⟩, hr.nx n⟩
theorem MuH.updH {l : Addr} {o : HO} : ∀ {M : Mu}, MuH K H0 B H M → (∀ q ∈ M, q.2.1 ≠ l) → MuH K H0 B (upd H l o) M
  | [], _, _ => trivial
  | m :: r, ⟨⟨h1, h2, ⟨xs, h3, h4⟩, h5⟩, hr⟩, n => ⟨⟨h1, h2, ⟨xs, by rw [upd_ne (n m (by simp))]; exact h3, h4⟩, h5⟩, hr.updH fun q hq => n q (List.mem_cons_of_mem _ hq)⟩
theorem MuH.updB {l : Addr} {o : HO} (hl : B l = none) : ∀ {M : Mu}, MuH K H0 B H M → (∀ q ∈ M, q.2.1 ≠ l) → MuH K H0 (upd B l o) H M
  | [], _, _ => trivial
  | m :: r, ⟨⟨h1, h2, ⟨xs, h3, h4⟩, h5⟩, hr⟩, n => ⟨⟨h1, by rw [upd_ne (n m (by simp))]; exact h2, ⟨xs, h3, h4.mono (.new hl)⟩, h5⟩, hr.updB hl fun q hq => n q (List.mem_cons_of_mem _ hq)⟩
theorem MuH.fresh {l : Addr} : ∀ {M : Mu}, MuH K H0 B H M → H l = none → ∀ q ∈ M, q.2.1 ≠ l
  | [], _, _, q, hq => nomatch hq
  | m :: r, ⟨⟨h1, h2, ⟨xs, h3, h4⟩, h5⟩, hr⟩, n, q, hq => by
    rcases List.mem_cons.mp hq with e | hq
    · subst e
      intro z
      rw [z, n] at h3
      cases h3
    · exact hr.fresh n q hq
theorem MuH.at : ∀ {M : Mu} {j : Nat} {o : Option Nat} {l : Addr} {d : Da}, MuH K H0 B H M → M[j]? = some (o, l, d) → H0 l = none ∧ B l = none ∧ ∃ u, H l = some u ∧ HoR K B d u
  | [], _, _, _, _, _, e => by simp at e
  | m :: r, 0, o, l, ds, ⟨⟨h1, h2, h3, h5⟩, hr⟩, e => by
    cases (Option.some.inj e : m = _)
    exact ⟨h1, h2, h3⟩
  | m :: r, j + 1, o, l, ds, ⟨_, hr⟩, e => hr.at (j := j) e
theorem MuH.put {u : HO} {d2 : Da} : ∀ {M : Mu} {j : Nat} {o : Option Nat} {l : Addr} {d : Da}, MuH K H0 B H M → M[j]? = some (o, l, d) → HoR K B d2 u → MuH K H0 B (upd H l u) (M.set j (o, l, d2))
  | [], _, _, _, _, _, e, _ => by simp at e
  | m :: r, 0, o, l, d, ⟨⟨h1, h2, h3, h5⟩, hr⟩, e, rr => by
    cases (Option.some.inj e : m = _)
    exact ⟨⟨h1, h2, ⟨u, upd_same, rr⟩, h5⟩, hr.updH h5⟩
  | m :: r, j + 1, o, l, d, ⟨⟨h1, h2, ⟨ys, h3, h4⟩, h5⟩, hr⟩, e, rr => by
    have hm : (o, l, d) ∈ r := List.mem_of_getElem? (i := j) e
    have hne : m.2.1 ≠ l := fun z => h5 _ hm z.symm
    refine ⟨⟨h1, h2, ⟨ys, by rw [upd_ne hne]; exact h3, h4⟩, fun q hq => ?_⟩, hr.put (j := j) e rr⟩
    rcases List.mem_or_eq_of_mem_set hq with hq | hq
    · exact h5 q hq
    · subst hq
      exact Ne.symm hne
theorem MuH.drop : ∀ {M : Mu} {j : Nat}, MuH K H0 B H M → MuH K H0 B H (M.eraseIdx j)
  | [], _, _ => trivial
  | m :: r, 0, ⟨_, hr⟩ => hr
  | m :: r, j + 1, ⟨⟨h1, h2, h3, h5⟩, hr⟩ => ⟨⟨h1, h2, h3, fun q hq => h5 q (List.mem_of_mem_eraseIdx hq)⟩, hr.drop (j := j)⟩
theorem MuH.apart : ∀ {M : Mu} {j : Nat} {o : Option Nat} {l : Addr} {d : Da}, MuH K H0 B H M → M[j]? = some (o, l, d) → ∀ q ∈ M.eraseIdx j, q.2.1 ≠ l
  | [], _, _, _, _, _, e, q, hq => by simp at e
  | m :: r, 0, o, l, d, ⟨⟨h1, h2, h3, h5⟩, hr⟩, e, q, hq => by
    cases (Option.some.inj e : m = _)
    exact h5 q hq
  | m :: r, j + 1, o, l, d, ⟨⟨h1, h2, h3, h5⟩, hr⟩, e, q, hq => by
    rcases List.mem_cons.mp hq with e2 | hq
    · subst e2
      exact fun z => h5 _ (List.mem_of_getElem? (i := j) e) z.symm
    · exact hr.apart (j := j) e q hq
theorem MuH.perm (h : M.Perm M2) : MuH K H0 B H M → MuH K H0 B H M2 := by
  induction h with
  | nil => exact id
  | cons a h ih => exact fun ⟨⟨h1, h2, h3, h5⟩, hr⟩ => ⟨⟨h1, h2, h3, fun q hq => h5 q (h.mem_iff.mpr hq)⟩, ih hr⟩
  | swap a b l => exact fun ⟨⟨h1, h2, h3, h5⟩, ⟨⟨k1, k2, k3, k5⟩, hr⟩⟩ => ⟨⟨k1, k2, k3, fun q hq => by
      rcases List.mem_cons.mp hq with e | hq
      · subst e
        exact fun z => h5 _ List.mem_cons_self z.symm
      · exact k5 q hq⟩, ⟨h1, h2, h3, fun q hq => h5 q (List.mem_cons_of_mem _ hq)⟩, hr⟩
  | trans _ _ ih1 ih2 => exact fun h => ih2 (ih1 h)
theorem Stt.nx (s : Stt K B0 H0 Γ M σ B H) (n : Nx B H B2 H2) : Stt K B0 H0 Γ M σ B2 H2 := ⟨s.s.mono n.b, s.h.nx n, s.l, s.n.trans n⟩
theorem Stt.ok (s : Stt K B0 H0 Γ M σ B H) : Ex B H := s.n.ok
theorem Stt.set {v : V} (s : Stt K B0 H0 Γ M σ B H) (r : Rp K B d v) (hi : ∀ m ∈ M, m.1 ≠ some i) : Stt K B0 H0 (Γ.set i (some d)) M (σ.set i (some v)) B H :=
  ⟨s.s.set i r, s.h, fun m hm k hk => by rw [List.getElem?_set_ne (fun e => hi m hm (by rw [hk, e]))]; exact s.l m hm k hk, s.n⟩
theorem Stt.perm (h : M.Perm M2) (s : Stt K B0 H0 Γ M σ B H) : Stt K B0 H0 Γ M2 σ B H := ⟨s.s, s.h.perm h, fun m hm => s.l m (h.mem_iff.mpr hm), s.n⟩
theorem Stt.put {u : HO} {o : Option Nat} {l : Addr} {d2 : Da} (s : Stt K B0 H0 Γ M σ B H) (hj : M[j]? = some (o, l, d)) (rr : HoR K B d2 u) : Stt K B0 H0 Γ (M.set j (o, l, d2)) σ B (upd H l u) := by
  obtain ⟨h1, h2, ys, h3, h4⟩ := s.h.at hj
  refine ⟨s.s, s.h.put hj rr, fun m hm k hk => ?_, s.n.mut h1 h2 (ml_of h3 h4.c)⟩
  rcases List.mem_or_eq_of_mem_set hm with hm | hm
  · exact s.l m hm k hk
  · subst hm
    exact s.l _ (List.mem_of_getElem? hj) k hk
theorem Stt.frz {o : Option Nat} {l : Addr} (s : Stt K B0 H0 Γ M σ B H) (hj : M[j]? = some (o, l, d)) : ∃ u, HoR K B d u ∧ H l = some u ∧ B l = none ∧ Stt K B0 H0 Γ (M.eraseIdx j) σ (upd B l u) H := by
  obtain ⟨h1, h2, xs, h3, h4⟩ := s.h.at hj
  exact ⟨xs, h4, h3, h2, s.s.mono (.new h2), s.h.drop.updB h2 (s.h.apart hj), fun m hm => s.l m (List.mem_of_mem_eraseIdx hm), s.n.frz h1 h2 h3 h4.c⟩
theorem MuH.other {l : Addr} (n : Nx B (delH H l) B2 H2) : ∀ {M : Mu}, MuH K H0 B H M → (∀ q ∈ M, q.2.1 ≠ l) → MuH K H0 B2 H2 M
  | [], _, _ => trivial
  | m :: r, ⟨⟨a1, a2, ⟨zs, a3, a4⟩, a5⟩, hr⟩, hn => by
    have hne := hn m (by simp)
    have q := n.apart a2 (by rw [delH_ne hne]; exact a3) a4.c
    exact ⟨⟨a1, q.1, ⟨zs, q.2, a4.mono n.b⟩, a5⟩, hr.other n fun q hq => hn q (List.mem_cons_of_mem _ hq)⟩
theorem MuH.called {u : HO} {o : Option Nat} {l : Addr} {d1 : Da} (n : Nx B (delH H l) B2 H2) (hB : B2 l = none) (hH : H2 l = some u) (ra : HoR K B2 d1 u) : ∀ {M : Mu} {j : Nat}, MuH K H0 B H M → M[j]? = some (o, l, d) → MuH K H0 B2 H2 (M.set j (o, l, d1))
  | [], _, _, e => by simp at e
  | m :: r, 0, ⟨⟨a1, a2, a3, a5⟩, hr⟩, e => by
    cases (Option.some.inj e : m = _)
    exact ⟨⟨a1, hB, ⟨u, hH, ra⟩, a5⟩, hr.other n a5⟩
  | m :: r, j + 1, ⟨⟨a1, a2, ⟨zs, a3, a4⟩, a5⟩, hr⟩, e => by
    have hml : (o, l, d) ∈ r := List.mem_of_getElem? (i := j) e
    have hne : m.2.1 ≠ l := fun z => a5 _ hml z.symm
    have q := n.apart a2 (by rw [delH_ne hne]; exact a3) a4.c
    refine ⟨⟨a1, q.1, ⟨zs, q.2, a4.mono n.b⟩, fun q hq => ?_⟩, hr.called n hB hH ra (j := j) e⟩
    rcases List.mem_or_eq_of_mem_set hq with hq | hq
    · exact a5 q hq
    · subst hq
      exact Ne.symm hne
theorem Stt.call {u : HO} {o : Option Nat} {l : Addr} {d1 : Da} (s : Stt K B0 H0 Γ M σ B H) (hj : M[j]? = some (o, l, d)) (n : Nx B (delH H l) B2 H2) (hB : B2 l = none) (hH : H2 l = some u) (ra : HoR K B2 d1 u) : Stt K B0 H0 Γ (M.set j (o, l, d1)) σ B2 H2 := by
  obtain ⟨h1, h2, ys, h3, h4⟩ := s.h.at hj
  refine ⟨s.s.mono n.b, s.h.called n hB hH ra hj, fun m hm k hk => ?_, ⟨n.ok, s.n.b.trans n.b, (ex_del s.n.h h1 (ml_of h3 h4.c)).trans n.h, fun a ha hh => ?_⟩⟩
  · rcases List.mem_or_eq_of_mem_set hm with hm | hm
    · exact s.l m hm k hk
    · subst hm
      exact s.l _ (List.mem_of_getElem? hj) k hk
  · by_cases hal : a = l
    · subst hal
      exact hB
    · exact n.nw a (s.n.nw a ha hh) ((hh.ex s.n.h).del hal)
theorem Stt.over {l : Addr} {o : Option Nat} (s : Stt K B0 H0 Γ ((o, l, .lst ds) :: M) σ B H) : ∃ xs, RpA K B ds xs ∧ H l = some (.lst xs) ∧ B l = none ∧ H0 l = none ∧ Stt K B0 (upd H0 l (.lst xs)) Γ M σ B H := by
  obtain ⟨⟨h1, h2, ⟨u, h3, h4⟩, h5⟩, hr⟩ := s.h
  obtain ⟨xs, rfl, h4⟩ := h4
  refine ⟨xs, h4, h3, h2, h1, s.s, ?_, fun m hm => s.l m (List.mem_cons_of_mem _ hm), ⟨s.n.ok, s.n.b, ex_frz0 s.n.h h3 rfl, fun a ha hh => ?_⟩⟩
  · have key : ∀ {M : Mu}, MuH K H0 B H M → (∀ q ∈ M, q.2.1 ≠ l) → MuH K (upd H0 l (.lst xs)) B H M := fun {M} => by
      induction M with
      | nil => exact fun _ _ => trivial
      | cons m r ih =>
        intro hm hn
        obtain ⟨⟨a1, a2, a3, a5⟩, hr⟩ := hm
        exact ⟨⟨by rw [upd_ne (hn m (by simp))]; exact a1, a2, a3, a5⟩, ih hr fun q hq => hn q (List.mem_cons_of_mem _ hq)⟩
    exact key hr h5
  · by_cases e : a = l
    · subst e
      exact h2
    · obtain ⟨u, hu, hc⟩ := hh
      rw [upd_ne e] at hu
      exact s.n.nw a ha ⟨u, hu, hc⟩
theorem Stt.back {l : Addr} {xs : List V} (s : Stt K B0 (upd H0 l (.lst xs)) Γ M σ B H) (h0 : H0 l = none) (hb : B0 l = none) : H l = some (.lst xs) ∧ B l = none ∧ Stt K B0 H0 Γ M σ B H ∧ ∀ q ∈ M, q.2.1 ≠ l := by
  have hn : ∀ {M : Mu}, MuH K (upd H0 l (.lst xs)) B H M → MuH K H0 B H M ∧ ∀ q ∈ M, q.2.1 ≠ l := fun {M} => by
    induction M with
    | nil => exact fun _ => ⟨trivial, fun q hq => nomatch hq⟩
    | cons m r ih =>
      intro hm
      obtain ⟨⟨a1, a2, a3, a5⟩, hr⟩ := hm
      have hne : m.2.1 ≠ l := fun z => by
        rw [z, upd_same] at a1
        cases a1
      rw [upd_ne hne] at a1
      refine ⟨⟨⟨a1, a2, a3, a5⟩, (ih hr).1⟩, fun q hq => ?_⟩
      rcases List.mem_cons.mp hq with e | hq
      · subst e
        exact hne
      · exact (ih hr).2 q hq
  refine ⟨s.n.h.g l _ upd_same rfl, s.n.nw l hb ⟨_, upd_same, rfl⟩, ⟨s.s, (hn s.h).1, s.l, ⟨s.n.ok, s.n.b, (Ex.new h0).trans s.n.h, fun a ha hh => s.n.nw a ha ?_⟩⟩, (hn s.h).2⟩
  by_cases e : a = l
  · subst e
    exact absurd h0 hh.ne
  · obtain ⟨u, hu, hc⟩ := hh
    exact ⟨u, by rw [upd_ne e]; exact hu, hc⟩
theorem b0_none {l : Addr} (n : Nx B0 H0 B H) (h : B l = none) : B0 l = none := n.b.s l h
def EvY (K : PySem.W.Frag) (B0 H0 : Hp) (Γ : Sls) (M : Mu) (te : TE) (post : Da → Mu → Prop) : Prop :=
  ∀ σ B H, Stt K B0 H0 Γ M σ B H → ∀ Q : VK, (∀ d M' v B2 H2, post d M' → Ex B B2 → Stt K B0 H0 Γ M' σ B2 H2 → Rp K B2 d v → Q v H2) → te σ H Q
def EvYB (K : PySem.W.Frag) (B0 H0 : Hp) (Γ : Sls) (M : Mu) (tt : TT) (post : Bool → Mu → Prop) : Prop :=
  ∀ σ B H, Stt K B0 H0 Γ M σ B H → ∀ Q : Bool → Hp → Prop, (∀ b M' B2 H2, post b M' → Ex B B2 → Stt K B0 H0 Γ M' σ B2 H2 → Q b H2) → tt σ H Q
def EvYI (K : PySem.W.Frag) (B0 H0 : Hp) (Γ : Sls) (M : Mu) (wi : TI) (post : List Da → Mu → Prop) : Prop :=
  ∀ σ B H, Stt K B0 H0 Γ M σ B H → ∀ R : It → Hp → Prop, (∀ ds M' J B2 H2, post ds M' → Ex B B2 → Stt K B0 H0 Γ M' σ B2 H2 → WalkD K J B2 ds → R J H2) → wi σ H R
theorem y_of {te : TE} {P : Da → Mu → Prop} (h : EvG K Γ te d) (p : P d M) : EvY K B0 H0 Γ M te P := fun σ B H s Q q =>
  h σ B H s.s s.ok _ fun v B2 H2 n2 r => q d M v B2 H2 p n2.b (s.nx n2) r
theorem yb_of {tt : TT} {b : Bool} {P : Bool → Mu → Prop} (h : EvB K Γ tt b) (p : P b M) : EvYB K B0 H0 Γ M tt P := fun σ B H s Q q =>
  h σ B H s.s s.ok _ fun B2 H2 n2 => q b M B2 H2 p n2.b (s.nx n2)
theorem yi_of {P : List Da → Mu → Prop} {wi : TI} (h : EvI K Γ wi ds) (p : P ds M) : EvYI K B0 H0 Γ M wi P := fun σ B H s R q =>
  h σ B H s.s s.ok _ fun J B2 H2 n2 w => q ds M J B2 H2 p n2.b (s.nx n2) w
theorem lc_own2 {te : TE} {tt : TT} {wi : TI} {vs : List Nat} {P0 : List Da → Mu → Prop} {I : List Da → Nat → List Da → Mu → Prop}
    (hi : ∀ R : It → Hp → Prop, (∀ ds M' J B2 H2, P0 ds M' → Ex B B2 → Stt K B0 H0 Γ M' σ B2 H2 → WalkD K J B2 ds → R J H2) → wi σ H R) (hl : ∀ ds M1, P0 ds M1 → ds.length ≤ 500000 ∧ I ds 0 [] M1) (hj : j ∈ vs) (hk : ∀ ds i acc M1, I ds i acc M1 → ∀ m ∈ M1, ∀ k ∈ vs, m.1 ≠ some k) (hz : ∀ ds i acc M1, I ds i acc M1 → acc.length ≤ i)
    (hb : ∀ H0 ds M0 i d acc M1, P0 ds M0 → ds[i]? = some d → I ds i acc M1 → EvYB K B0 H0 ((wipeG Γ vs).set j (some d)) M1 tt (fun b M2 => if b = true then EvY K B0 H0 ((wipeG Γ vs).set j (some d)) M2 te (fun d2 M3 => I ds (i + 1) (acc ++ [d2]) M3) else I ds (i + 1) acc M2))
    (Q : VK) (q : ∀ ds M0 acc M1 D B2 H2, P0 ds M0 → I ds ds.length acc M1 → Ex B B2 → Stt K B0 H0 Γ ((none, D, .lst acc) :: M1) σ B2 H2 → Q (.ref D) H2) : tLc wi (gName j) tt te vs σ H Q :=
  hi _ fun ds M0 J B1 H1 p0 e1 s1 w D hD => by
    have hlen := (hl ds M0 p0).1
    have n2 : Nx B1 H1 B1 (upd H1 D (.lst [])) := .out s1.ok hD
    have s2 := s1.nx n2
    have sD : Stt K B0 H0 Γ ((none, D, .lst []) :: M0) σ B1 (upd H1 D (.lst [])) := ⟨s2.s, ⟨⟨h0_none s1.n hD, fresh_back s1.ok hD, ⟨.lst [], upd_same, [], rfl, rfl⟩, s1.h.fresh hD⟩, s2.h⟩, fun m hm k hk => by
      rcases List.mem_cons.mp hm with e | hm
      · subst e
        cases hk
      · exact s2.l m hm k hk, s2.n⟩
    refine ⟨fun i m H' => m = ds.length - i ∧ i ≤ ds.length ∧ ∃ (B' : Hp) (acc : List Da) (M' : Mu), Ex B1 B' ∧ I ds i acc M' ∧ Stt K B0 H0 Γ ((none, D, .lst acc) :: M') σ B' H',
      ⟨ds.length, by simp, Nat.zero_le _, B1, [], M0, .refl _, (hl ds M0 p0).2, sD⟩, ?_⟩
    rintro i m H' ⟨rfl, hi, B', acc, M', eB, hI, s'⟩
    by_cases hlt : i < ds.length
    · refine .inr ⟨w.goes i H' hlt (eB.trans s'.ok), fun H'' => ∃ (B' : Hp) (acc : List Da) (M' : Mu), Ex B1 B' ∧ I ds (i + 1) acc M' ∧ Stt K B0 H0 Γ ((none, D, .lst acc) :: M') σ B' H'', fun H'' z => ⟨ds.length - (i + 1), by omega, rfl, hlt, z⟩, fun x H'' y => ?_⟩
      obtain ⟨B3, n3, rx⟩ := w.yld i B' H' x H'' ds[i] (by simp [hlt]) eB s'.ok y
      have s3 := s'.nx n3
      obtain ⟨xs, ra, hH, hB, h0, so⟩ := s3.over
      have hB0 : B0 D = none := b0_none s3.n hB
      have hkk := hk ds i acc M' hI
      have same : ∀ m ∈ M', ∀ k, m.1 = some k → ((wipe σ vs).set j (some x))[k]? = some (some (.ref m.2.1)) := fun m hm k hkm => by
        have h1 : k ∉ vs := fun z => hkk m hm k z hkm
        rw [List.getElem?_set_ne (fun e => h1 (by rw [← e]; exact hj)), wipe_get, if_neg (fun z => h1 z.1)]
        exact so.l m hm k hkm
      have st : Stt K B0 (upd H0 D (.lst xs)) ((wipeG Γ vs).set j (some ds[i])) M' ((wipe σ vs).set j (some x)) B3 H'' := ⟨((so.s.wipe vs).set j rx), so.h, same, so.n⟩
      have backS : ∀ {M4 : Mu} {B4 H4 : Hp}, Ex B3 B4 → Stt K B0 (upd H0 D (.lst xs)) ((wipeG Γ vs).set j (some ds[i])) M4 ((wipe σ vs).set j (some x)) B4 H4 → (∀ m ∈ M4, ∀ k ∈ vs, m.1 ≠ some k) → H4 D = some (.lst xs) ∧ B4 D = none ∧ Stt K B0 H0 Γ ((none, D, .lst acc) :: M4) σ B4 H4 := fun {M4 B4 H4} e4 s4 hk4 => by
        obtain ⟨q1, q2, q3, q4⟩ := s4.back h0 hB0
        refine ⟨q1, q2, s3.s.mono e4, ⟨⟨h0, q2, ⟨.lst xs, q1, xs, rfl, RpA.mono e4 _ _ ra⟩, q4⟩, q3.h⟩, fun m hm k hkm => ?_, q3.n⟩
        rcases List.mem_cons.mp hm with e | hm
        · subst e
          cases hkm
        · have := q3.l m hm k hkm
          have h1 : k ∉ vs := fun z => hk4 m hm k z hkm
          rw [List.getElem?_set_ne (fun e => h1 (by rw [← e]; exact hj)), wipe_get, if_neg (fun z => h1 z.1)] at this
          exact this
      refine ⟨wipe_back hj, hb _ ds M0 i ds[i] acc M' p0 (by simp [hlt]) hI _ B3 H'' st _ fun b M4 B4 H4 p4 e4 s4 => ?_⟩
      cases b with
      | false =>
        rw [if_neg Bool.false_ne_true] at p4 ⊢
        exact ⟨B4, acc, M4, eB.trans (n3.b.trans e4), p4, (backS e4 s4 (hk ds (i + 1) acc M4 p4)).2.2⟩
      | true =>
        rw [if_pos rfl] at p4 ⊢
        refine p4 _ B4 H4 s4 _ fun d2 M5 z B5 H5 p5 e5 s5 rz => ?_
        obtain ⟨q1, q2, q3⟩ := backS (e4.trans e5) s5 (hk ds (i + 1) _ M5 p5)
        refine ⟨xs, q1, size_lt ?_, B5, acc ++ [d2], M5, eB.trans (n3.b.trans (e4.trans e5)), p5, ?_⟩
        · rw [ra.length]
          have := hz ds i acc M' hI
          omega
        · have := q3.put (j := 0) (u := .lst (xs ++ [z])) (d2 := .lst (acc ++ [d2])) rfl ⟨_, rfl, (RpA.mono (e4.trans e5) _ _ ra).append (.one rz)⟩
          exact this
    · have ei : i = ds.length := by omega
      subst ei
      exact .inl ⟨w.stops H' (eB.trans s'.ok), q ds M0 acc M' D B' H' p0 hI (e1.trans eB) s'⟩
theorem lc_own {te : TE} {tt : TT} {wi : TI} {vs : List Nat} {P0 : List Da → Mu → Prop} {I : List Da → Nat → List Da → Mu → Prop}
    (hi : EvYI K B0 H0 Γ M wi P0) (hl : ∀ ds M1, P0 ds M1 → ds.length ≤ 500000 ∧ I ds 0 [] M1) (hj : j ∈ vs) (hk : ∀ ds i acc M1, I ds i acc M1 → ∀ m ∈ M1, ∀ k ∈ vs, m.1 ≠ some k) (hz : ∀ ds i acc M1, I ds i acc M1 → acc.length ≤ i)
    (hb : ∀ H0 ds M0 i d acc M1, P0 ds M0 → ds[i]? = some d → I ds i acc M1 → EvYB K B0 H0 ((wipeG Γ vs).set j (some d)) M1 tt (fun b M2 => if b = true then EvY K B0 H0 ((wipeG Γ vs).set j (some d)) M2 te (fun d2 M3 => I ds (i + 1) (acc ++ [d2]) M3) else I ds (i + 1) acc M2))
    (s : Stt K B0 H0 Γ M σ B H) (Q : VK) (q : ∀ ds M0 acc M1 D B2 H2, P0 ds M0 → I ds ds.length acc M1 → Ex B B2 → Stt K B0 H0 Γ ((none, D, .lst acc) :: M1) σ B2 H2 → Q (.ref D) H2) : tLc wi (gName j) tt te vs σ H Q :=
  lc_own2 (hi σ B H s) hl hj hk hz hb Q q
end Mi
namespace Mi
open PySem PySem.Spec PyProof.Rows L2 Fo
variable [Nm]
inductive Pm where
  | no
  | lst (i : Nat)
  | slf
deriving DecidableEq
inductive Kd where
  | l
  | t
  | d
deriving DecidableEq
abbrev Own := List (Nat × Kd)
def hideF : Nat → List Nat → Env → Env
  | _, _, [] => []
  | k, l, d :: e => (if l.contains k then none else d) :: hideF (k + 1) l e
def hide (l : List Nat) (e : Env) : Env := match l with
  | [] => e
  | _ => hideF 0 l e
def pmS : Pm → List Nat
  | .no => []
  | .lst i => [i]
  | .slf => [0]
def slots (pm : Pm) (ow : Own) : List Nat := pmS pm ++ ow.map (·.1)
theorem hideF_len : ∀ (k : Nat) (l : List Nat) (e : Env), (hideF k l e).length = e.length
  | _, _, [] => rfl
  | k, l, d :: e => by
    show (hideF (k + 1) l e).length + 1 = e.length + 1
    rw [hideF_len]
theorem hideF_get : ∀ (k : Nat) (l : List Nat) (e : Env) (i : Nat), (hideF k l e)[i]? = if i < e.length ∧ (k + i) ∈ l then some none else e[i]?
  | k, l, [], i => by simp [hideF]
  | k, l, d :: e, 0 => by
    unfold hideF
    by_cases h : k ∈ l <;> simp [h]
  | k, l, d :: e, i + 1 => by
    unfold hideF
    rw [List.getElem?_cons_succ, List.getElem?_cons_succ, hideF_get (k + 1) l e i]
    have e1 : k + 1 + i = k + (i + 1) := by omega
    rw [e1]
    simp
theorem hide_len (l : List Nat) (e : Env) : (hide l e).length = e.length := by
  cases l with
  | nil => rfl
  | cons a l => exact hideF_len 0 _ e
theorem hide_get (l : List Nat) (e : Env) (i : Nat) : (hide l e)[i]? = if i < e.length ∧ i ∈ l then some none else e[i]? := by
  cases l with
  | nil => simp [hide]
  | cons a l =>
    have := hideF_get 0 (a :: l) e i
    rw [Nat.zero_add] at this
    exact this
theorem hide_set {l : List Nat} {e : Env} {i : Nat} {d : Option Da} (h : i ∉ l) : hide l (e.set i d) = (hide l e).set i d := by
  apply List.ext_getElem?
  intro k
  rw [hide_get, List.getElem?_set, List.getElem?_set, hide_get, hide_len, List.length_set]
  by_cases hk : i = k
  · subst hk
    rw [if_neg (fun z => h z.2), if_pos rfl, if_pos rfl]
  · rw [if_neg hk, if_neg hk]
theorem hide_own {l : List Nat} {e : Env} {i : Nat} {d : Option Da} (h : i ∈ l) : hide l (e.set i d) = hide l e := by
  apply List.ext_getElem?
  intro k
  rw [hide_get, hide_get, List.length_set]
  by_cases hk : k < e.length ∧ k ∈ l
  · rw [if_pos hk, if_pos hk]
  · rw [if_neg hk, if_neg hk]
    by_cases e1 : i = k
    · subst e1
      have : ¬ i < e.length := fun z => hk ⟨z, h⟩
      rw [List.getElem?_eq_none (by rw [List.length_set]; omega), List.getElem?_eq_none (by omega)]
    · rw [List.getElem?_set_ne e1]
theorem set_out {α : Type} {e : List α} {i k : Nat} {d : α} {l : List Nat} (hi : i ∉ l) (hk : k ∈ l) : (e.set i d)[k]? = e[k]? := List.getElem?_set_ne fun z => hi (by rw [z]; exact hk)
def zipR : List Addr → List (List Da) → Mu
  | r :: rs, d :: ds => (none, r, .lst d) :: zipR rs ds
  | _, _ => []
def Muf (pm : Pm) (pa : Addr) (e : Env) : Own → Mu → Prop
  | [], M => match pm with
    | .lst i => ∃ ds, e[i]? = some (some (.lst ds)) ∧ M = [(some i, pa, .lst ds)]
    | _ => M = []
  | (o, .l) :: r, M => ∃ l ds M', e[o]? = some (some (.lst ds)) ∧ M = (some o, l, .lst ds) :: M' ∧ Muf pm pa e r M'
  | (o, .d) :: r, M => ∃ l ks vs M', e[o]? = some (some (.dct ks vs)) ∧ M = (some o, l, .dct ks vs) :: M' ∧ Muf pm pa e r M'
  | (o, .t) :: r, M => ∃ t rs rows M', e[o]? = some (some (.lst (rows.map Da.lst))) ∧ rs.length = rows.length ∧ M = (some o, t, .lst (rs.map fun r => Da.raw (.ref r))) :: (zipR rs rows ++ M') ∧ Muf pm pa e r M'
variable {K : PySem.W.Frag} {B0 H0 B H B2 H2 : Hp} {pm : Pm} {pa : Addr} {ow ow' : Own} {e e1 e2 : Env} {M : Mu} {σ σ2 : L2.St}
theorem zipR_none : ∀ {rs : List Addr} {ds : List (List Da)} {m}, m ∈ zipR rs ds → m.1 = none
  | r :: rs, d :: ds, m, h => by
    rcases List.mem_cons.mp h with z | h
    · subst z
      rfl
    · exact zipR_none h
  | [], _, m, h => by cases h
  | _ :: _, [], m, h => by cases h
theorem Muf.slot : ∀ {ow : Own} {M : Mu}, Muf pm pa e ow M → ∀ m ∈ M, ∀ k, m.1 = some k → k ∈ slots pm ow
  | [], M, h, m, hm, k, hk => by
    unfold Muf at h
    cases pm with
    | lst i =>
      obtain ⟨ds, _, rfl⟩ := h
      obtain rfl := List.mem_singleton.mp hm
      cases (Option.some.inj hk : i = k)
      simp [slots, pmS]
    | no =>
      obtain rfl : M = [] := h
      cases hm
    | slf =>
      obtain rfl : M = [] := h
      cases hm
  | (o, .l) :: r, M, h, m, hm, k, hk => by
    obtain ⟨l, ds, M', h1, rfl, h2⟩ := h
    rcases List.mem_cons.mp hm with z | hm
    · subst z
      cases (Option.some.inj hk : o = k)
      simp [slots, pmS]
    · have := h2.slot m hm k hk
      simp only [slots, List.map_cons, List.mem_append, List.mem_cons] at this ⊢
      rcases this with q | q
      · exact .inl q
      · exact .inr (.inr q)
  | (o, .d) :: r, M, h, m, hm, k, hk => by
    obtain ⟨l, ks, vs, M', h1, rfl, h2⟩ := h
    rcases List.mem_cons.mp hm with z | hm
    · subst z
      cases (Option.some.inj hk : o = k)
      simp [slots, pmS]
    · have := h2.slot m hm k hk
      simp only [slots, List.map_cons, List.mem_append, List.mem_cons] at this ⊢
      rcases this with q | q
      · exact .inl q
      · exact .inr (.inr q)
  | (o, .t) :: r, M, h, m, hm, k, hk => by
    obtain ⟨t, rs, rows, M', h1, h0, rfl, h2⟩ := h
    rcases List.mem_cons.mp hm with z | hm
    · subst z
      cases (Option.some.inj hk : o = k)
      simp [slots, pmS]
    · rcases List.mem_append.mp hm with hm | hm
      · rw [zipR_none hm] at hk
        cases hk
      · have := h2.slot m hm k hk
        simp only [slots, List.map_cons, List.mem_append, List.mem_cons] at this ⊢
        rcases this with q | q
        · exact .inl q
        · exact .inr (.inr q)
theorem Muf.congr : ∀ {ow : Own} {M : Mu}, Muf pm pa e ow M → (∀ k ∈ slots pm ow, e1[k]? = e[k]?) → Muf pm pa e1 ow M
  | [], M, h, hk => by
    unfold Muf at h ⊢
    cases pm with
    | lst i =>
      obtain ⟨ds, h1, h2⟩ := h
      exact ⟨ds, by rw [hk i (by simp [slots, pmS])]; exact h1, h2⟩
    | no => exact h
    | slf => exact h
  | (o, .l) :: r, M, h, hk => by
    obtain ⟨l, ds, M', h1, h2, h3⟩ := h
    refine ⟨l, ds, M', by rw [hk o (by simp [slots, pmS])]; exact h1, h2, h3.congr fun k hm => hk k ?_⟩
    simp only [slots, List.map_cons, List.mem_append, List.mem_cons] at hm ⊢
    rcases hm with q | q
    · exact .inl q
    · exact .inr (.inr q)
  | (o, .d) :: r, M, h, hk => by
    obtain ⟨l, ks, vs, M', h1, h2, h3⟩ := h
    refine ⟨l, ks, vs, M', by rw [hk o (by simp [slots, pmS])]; exact h1, h2, h3.congr fun k hm => hk k ?_⟩
    simp only [slots, List.map_cons, List.mem_append, List.mem_cons] at hm ⊢
    rcases hm with q | q
    · exact .inl q
    · exact .inr (.inr q)
  | (o, .t) :: r, M, h, hk => by
    obtain ⟨t, rs, rows, M', h1, h0, h2, h3⟩ := h
    refine ⟨t, rs, rows, M', by rw [hk o (by simp [slots, pmS])]; exact h1, h0, h2, h3.congr fun k hm => hk k ?_⟩
    simp only [slots, List.map_cons, List.mem_append, List.mem_cons] at hm ⊢
    rcases hm with q | q
    · exact .inl q
    · exact .inr (.inr q)
theorem slots_hd {o : Nat} {b : Kd} {r : Own} : o ∈ slots pm ((o, b) :: r) := by simp [slots, pmS]
theorem slots_nd {o : Nat} {b : Kd} {r : Own} (h : (slots pm ((o, b) :: r)).Nodup) : o ∉ slots pm r ∧ (slots pm r).Nodup := by
  unfold slots at h ⊢
  rw [List.map_cons] at h
  have h2 : (o :: (pmS pm ++ r.map (·.1))).Nodup := (List.perm_middle.nodup_iff).mp h
  exact ⟨(List.nodup_cons.mp h2).1, (List.nodup_cons.mp h2).2⟩
theorem Muf.at : ∀ {ow : Own} {M : Mu} {o : Nat}, (slots pm ow).Nodup → Muf pm pa e ow M → (o, Kd.l) ∈ ow → ∃ j l ds, M[j]? = some (some o, l, .lst ds) ∧ e[o]? = some (some (.lst ds)) ∧
    ∀ e1 ds1, (∀ k, k ≠ o → e1[k]? = e[k]?) → e1[o]? = some (some (.lst ds1)) → Muf pm pa e1 ow (M.set j (some o, l, .lst ds1))
  | (o', .l) :: r, M, o, nd, h, hm => by
    obtain ⟨l, ds, M', h1, rfl, h3⟩ := h
    obtain ⟨n1, n2⟩ := slots_nd nd
    by_cases ho : o' = o
    · subst ho
      exact ⟨0, l, ds, rfl, h1, fun e1 ds1 hk he => ⟨l, ds1, M', he, rfl, h3.congr fun k hk2 => hk k fun z => n1 (z ▸ hk2)⟩⟩
    · have hm : (o, Kd.l) ∈ r := by
        rcases List.mem_cons.mp hm with z | z
        · cases z
          exact absurd rfl ho
        · exact z
      obtain ⟨j, l2, ds2, q1, q2, q3⟩ := h3.at n2 hm
      exact ⟨j + 1, l2, ds2, q1, q2, fun e1 ds1 hk he => ⟨l, ds, _, by rw [hk o' ho]; exact h1, rfl, q3 e1 ds1 hk he⟩⟩
  | (o', .d) :: r, M, o, nd, h, hm => by
    obtain ⟨l, ks, vs, M', h1, rfl, h3⟩ := h
    obtain ⟨n1, n2⟩ := slots_nd nd
    have hm : (o, Kd.l) ∈ r := by
      rcases List.mem_cons.mp hm with z | z
      · cases z
      · exact z
    have ho : o' ≠ o := fun z => n1 (z ▸ (by
      simp only [slots, List.mem_append, List.mem_map]
      exact .inr ⟨_, hm, rfl⟩))
    obtain ⟨j, l2, ds2, q1, q2, q3⟩ := h3.at n2 hm
    exact ⟨j + 1, l2, ds2, q1, q2, fun e1 ds1 hk he => ⟨l, ks, vs, _, by rw [hk o' ho]; exact h1, rfl, q3 e1 ds1 hk he⟩⟩
  | (o', .t) :: r, M, o, nd, h, hm => by
    obtain ⟨t, rs, rows, M', h1, h0, rfl, h3⟩ := h
    obtain ⟨n1, n2⟩ := slots_nd nd
    have hm : (o, Kd.l) ∈ r := by
      rcases List.mem_cons.mp hm with z | z
      · cases z
      · exact z
    have ho : o' ≠ o := fun z => n1 (z ▸ (by
      simp only [slots, List.mem_append, List.mem_map]
      exact .inr ⟨_, hm, rfl⟩))
    obtain ⟨j, l2, ds2, q1, q2, q3⟩ := h3.at n2 hm
    refine ⟨(zipR rs rows).length + j + 1, l2, ds2, ?_, q2, fun e1 ds1 hk he => ⟨t, rs, rows, _, by rw [hk o' ho]; exact h1, h0, ?_, q3 e1 ds1 hk he⟩⟩
    · rw [List.getElem?_cons_succ, List.getElem?_append_right (by omega), Nat.add_sub_cancel_left]
      exact q1
    · rw [List.set_cons_succ, List.set_append_right _ _ (by omega), Nat.add_sub_cancel_left]
theorem Muf.par {i : Nat} : ∀ {ow : Own} {M : Mu}, (slots (.lst i) ow).Nodup → Muf (.lst i) pa e ow M → ∃ j ds, M[j]? = some (some i, pa, .lst ds) ∧ e[i]? = some (some (.lst ds)) ∧
    ∀ e1 ds1, (∀ k, k ≠ i → e1[k]? = e[k]?) → e1[i]? = some (some (.lst ds1)) → Muf (.lst i) pa e1 ow (M.set j (some i, pa, .lst ds1))
  | [], M, nd, h => by
    obtain ⟨ds, h1, rfl⟩ := h
    exact ⟨0, ds, rfl, h1, fun e1 ds1 hk he => ⟨ds1, he, rfl⟩⟩
  | (o', .l) :: r, M, nd, h => by
    obtain ⟨l, ds, M', h1, rfl, h3⟩ := h
    obtain ⟨n1, n2⟩ := slots_nd nd
    have ho : o' ≠ i := fun z => n1 (by simp [slots, pmS, z])
    obtain ⟨j, ds2, q1, q2, q3⟩ := h3.par n2
    exact ⟨j + 1, ds2, q1, q2, fun e1 ds1 hk he => ⟨l, ds, _, by rw [hk o' ho]; exact h1, rfl, q3 e1 ds1 hk he⟩⟩
  | (o', .d) :: r, M, nd, h => by
    obtain ⟨l, ks, vs, M', h1, rfl, h3⟩ := h
    obtain ⟨n1, n2⟩ := slots_nd nd
    have ho : o' ≠ i := fun z => n1 (by simp [slots, pmS, z])
    obtain ⟨j, ds2, q1, q2, q3⟩ := h3.par n2
    exact ⟨j + 1, ds2, q1, q2, fun e1 ds1 hk he => ⟨l, ks, vs, _, by rw [hk o' ho]; exact h1, rfl, q3 e1 ds1 hk he⟩⟩
  | (o', .t) :: r, M, nd, h => by
    obtain ⟨t, rs, rows, M', h1, h0, rfl, h3⟩ := h
    obtain ⟨n1, n2⟩ := slots_nd nd
    have ho : o' ≠ i := fun z => n1 (by simp [slots, pmS, z])
    obtain ⟨j, ds2, q1, q2, q3⟩ := h3.par n2
    refine ⟨(zipR rs rows).length + j + 1, ds2, ?_, q2, fun e1 ds1 hk he => ⟨t, rs, rows, _, by rw [hk o' ho]; exact h1, h0, ?_, q3 e1 ds1 hk he⟩⟩
    · rw [List.getElem?_cons_succ, List.getElem?_append_right (by omega), Nat.add_sub_cancel_left]
      exact q1
    · rw [List.set_cons_succ, List.set_append_right _ _ (by omega), Nat.add_sub_cancel_left]
theorem Muf.frz {kd : Kd} (hkd : kd ≠ .t) : ∀ {ow : Own} {M : Mu} {i o : Nat}, Muf pm pa e ow M → ow[i]? = some (o, kd) → ∃ j l d, M[j]? = some (some o, l, d) ∧ e[o]? = some (some d) ∧ Muf pm pa e (ow.eraseIdx i) (M.eraseIdx j)
  | (o', .l) :: r, M, 0, o, h, hi => by
    obtain ⟨l, ds, M', h1, rfl, h3⟩ := h
    cases (Option.some.inj hi : (o', _) = (o, _))
    exact ⟨0, l, _, rfl, h1, h3⟩
  | (o', .d) :: r, M, 0, o, h, hi => by
    obtain ⟨l, ks, vs, M', h1, rfl, h3⟩ := h
    cases (Option.some.inj hi : (o', _) = (o, _))
    exact ⟨0, l, _, rfl, h1, h3⟩
  | (o', .t) :: r, M, 0, o, h, hi => by
    cases (Option.some.inj hi : (o', Kd.t) = (o, kd))
    exact absurd rfl hkd
  | (o', .l) :: r, M, i + 1, o, h, hi => by
    obtain ⟨l, ds, M', h1, rfl, h3⟩ := h
    obtain ⟨j, l2, ds2, q1, q2, q3⟩ := h3.frz hkd (i := i) hi
    exact ⟨j + 1, l2, ds2, q1, q2, l, ds, _, h1, rfl, q3⟩
  | (o', .d) :: r, M, i + 1, o, h, hi => by
    obtain ⟨l, ks, vs, M', h1, rfl, h3⟩ := h
    obtain ⟨j, l2, ds2, q1, q2, q3⟩ := h3.frz hkd (i := i) hi
    exact ⟨j + 1, l2, ds2, q1, q2, l, ks, vs, _, h1, rfl, q3⟩
  | (o', .t) :: r, M, i + 1, o, h, hi => by
    obtain ⟨t, rs, rows, M', h1, h0, rfl, h3⟩ := h
    obtain ⟨j, l2, ds2, q1, q2, q3⟩ := h3.frz hkd (i := i) hi
    refine ⟨(zipR rs rows).length + j + 1, l2, ds2, ?_, q2, t, rs, rows, _, h1, h0, ?_, q3⟩
    · rw [List.getElem?_cons_succ, List.getElem?_append_right (by omega), Nat.add_sub_cancel_left]
      exact q1
    · rw [List.eraseIdx_cons_succ, List.eraseIdx_append_of_length_le (by omega), Nat.add_sub_cancel_left]
def StE (K : PySem.W.Frag) (B0 H0 : Hp) (pm : Pm) (pa : Addr) (ow : Own) (e : Env) (σ : L2.St) (B H : Hp) : Prop := (∃ M, Muf pm pa e ow M ∧ Stt K B0 H0 (hide (slots pm ow) e) M σ B H) ∧ (pm = .slf → σ[0]? = some (some (.ref pa)) ∧ e[0]? = some none)
theorem StE.sl (s : StE K B0 H0 pm pa ow e σ B H) : Sl K B (hide (slots pm ow) e) σ := s.1.choose_spec.2.s
theorem StE.n (s : StE K B0 H0 pm pa ow e σ B H) : Nx B0 H0 B H := s.1.choose_spec.2.n
theorem StE.ok (s : StE K B0 H0 pm pa ow e σ B H) : Ex B H := s.n.ok
theorem StE.nx (s : StE K B0 H0 pm pa ow e σ B H) (n : Nx B H B2 H2) : StE K B0 H0 pm pa ow e σ B2 H2 := by
  obtain ⟨⟨M, h1, h2⟩, sf⟩ := s
  exact ⟨⟨M, h1, h2.nx n⟩, sf⟩
theorem StE.mv (s : StE K B0 H0 pm pa ow e σ B H) (hs : Sl K B (hide (slots pm ow) e1) σ2) (h1 : ∀ k ∈ slots pm ow, e1[k]? = e[k]?) (h2 : ∀ k ∈ slots pm ow, σ2[k]? = σ[k]?) : StE K B0 H0 pm pa ow e1 σ2 B H := by
  obtain ⟨⟨M, q1, q2⟩, sf⟩ := s
  exact ⟨⟨M, q1.congr h1, hs, q2.h, fun m hm k hk => by rw [h2 k (q1.slot m hm k hk)]; exact q2.l m hm k hk, q2.n⟩, fun e => by rw [h2 0 (by rw [e]; simp [slots, pmS]), h1 0 (by rw [e]; simp [slots, pmS])]; exact sf e⟩
theorem StE.set {d : Da} {v : V} {i : Nat} (s : StE K B0 H0 pm pa ow e σ B H) (r : Rp K B d v) (hi : i ∉ slots pm ow) : StE K B0 H0 pm pa ow (e.set i (some d)) (σ.set i (some v)) B H :=
  s.mv (by rw [hide_set hi]; exact s.sl.set i r) (fun k hk => set_out hi hk) (fun k hk => set_out hi hk)
mutual
theorem bindT_hide : ∀ (t : Tg) (d : Da) (e e1 : Env) (l : List Nat), bindT t d e = some e1 → (∀ i ∈ t.sl, i ∉ l) → bindT t d (hide l e) = some (hide l e1) ∧ (∀ k ∈ l, e1[k]? = e[k]?)
  | .nm i, d, e, e1, l, h, hi => by
    cases h
    refine ⟨?_, fun k hk => set_out (hi i List.mem_cons_self) hk⟩
    rw [hide_set (hi i List.mem_cons_self)]
    rfl
  | .tp ts, d, e, e1, l, h, hi => by
    unfold bindT at h ⊢
    split at h
    · exact bindTs_hide ts _ e e1 l h hi
    · cases h
theorem bindTs_hide : ∀ (ts : List Tg) (ds : List Da) (e e1 : Env) (l : List Nat), bindTs ts ds e = some e1 → (∀ i ∈ Tg.sls ts, i ∉ l) → bindTs ts ds (hide l e) = some (hide l e1) ∧ (∀ k ∈ l, e1[k]? = e[k]?)
  | [], [], e, e1, l, h, hi => by
    cases h
    exact ⟨rfl, fun _ _ => rfl⟩
  | [], _ :: _, e, e1, l, h, hi => by cases h
  | _ :: _, [], e, e1, l, h, hi => by cases h
  | t :: ts, d :: ds, e, e1, l, h, hi => by
    unfold bindTs at h ⊢
    split at h
    · rename_i e2 he
      obtain ⟨q1, q2⟩ := bindT_hide t d e e2 l he fun i hm => hi i (List.mem_append.mpr (.inl hm))
      obtain ⟨q3, q4⟩ := bindTs_hide ts ds e2 e1 l h fun i hm => hi i (List.mem_append.mpr (.inr hm))
      rw [q1]
      exact ⟨q3, fun k hk => (q4 k hk).trans (q2 k hk)⟩
    · cases h
end
theorem StE.bind {d : Da} {v : V} {g : TG} {tg : Tg} (s : StE K B0 H0 pm pa ow e σ B H) (hg : GT K g tg) (hb : bindT tg d e = some e1) (hd : ∀ i ∈ tg.sl, i ∉ slots pm ow) (r : Rp K B d v) {Q : L2.St → Hp → Prop} (k : ∀ σ2, StE K B0 H0 pm pa ow e1 σ2 B H → Q σ2 H) : g v σ H Q := by
  obtain ⟨q1, q2⟩ := bindT_hide tg d e e1 _ hb hd
  exact hg d _ _ q1 v σ B H s.sl s.ok r Q fun σ2 s2 _ g2 => k σ2 (s.mv s2 q2 fun j hj => g2 j fun z => hd j z hj)
theorem StE.at {o : Nat} (s : StE K B0 H0 pm pa ow e σ B H) (nd : (slots pm ow).Nodup) (ho : (o, Kd.l) ∈ ow ∨ pm = .lst o) : ∃ l ds xs, e[o]? = some (some (.lst ds)) ∧ σ[o]? = some (some (.ref l)) ∧ H l = some (.lst xs) ∧ RpA K B ds xs ∧ H0 l = none ∧ B l = none ∧ o ∈ slots pm ow ∧
    (∀ ds1 xs1, RpA K B ds1 xs1 → StE K B0 H0 pm pa ow (e.set o (some (.lst ds1))) σ B (upd H l (.lst xs1))) ∧
    (∀ B2 H2 ds1 xs1, Nx B (delH H l) B2 H2 → B2 l = none → H2 l = some (.lst xs1) → RpA K B2 ds1 xs1 → StE K B0 H0 pm pa ow (e.set o (some (.lst ds1))) σ B2 H2) := by
  obtain ⟨⟨M, q1, q2⟩, sf⟩ := s
  have : ∃ j l ds, M[j]? = some (some o, l, .lst ds) ∧ e[o]? = some (some (.lst ds)) ∧ o ∈ slots pm ow ∧ ∀ e1 ds1, (∀ k, k ≠ o → e1[k]? = e[k]?) → e1[o]? = some (some (.lst ds1)) → Muf pm pa e1 ow (M.set j (some o, l, .lst ds1)) := by
    rcases ho with ho | rfl
    · obtain ⟨j, l, ds, a1, a2, a3⟩ := q1.at nd ho
      exact ⟨j, l, ds, a1, a2, q1.slot _ (List.mem_of_getElem? a1) o rfl, a3⟩
    · obtain ⟨j, ds, a1, a2, a3⟩ := q1.par nd
      exact ⟨j, pa, ds, a1, a2, q1.slot _ (List.mem_of_getElem? a1) o rfl, a3⟩
  obtain ⟨j, l, ds, a1, a2, a0, a3⟩ := this
  obtain ⟨h1, h2, u, h3, h4⟩ := q2.h.at a1
  obtain ⟨xs, rfl, h4⟩ := h4
  have hlt : o < e.length := (List.getElem?_eq_some_iff.mp a2).1
  have sf2 : ∀ ds1, pm = .slf → σ[0]? = some (some (.ref pa)) ∧ (e.set o (some (.lst ds1)))[0]? = some none := fun ds1 hp => by
    have ho0 : o ≠ 0 := fun z => by
      subst z
      rw [(sf hp).2] at a2
      cases a2
    rw [List.getElem?_set_ne ho0]
    exact sf hp
  refine ⟨l, ds, xs, a2, q2.l _ (List.mem_of_getElem? a1) o rfl, h3, h4, h1, h2, a0, fun ds1 xs1 rr => ⟨⟨_, a3 _ ds1 (fun k hk => List.getElem?_set_ne (Ne.symm hk)) (by rw [List.getElem?_set_self hlt]), ?_⟩, sf2 ds1⟩, fun B2 H2 ds1 xs1 n hB hH rr => ⟨⟨_, a3 _ ds1 (fun k hk => List.getElem?_set_ne (Ne.symm hk)) (by rw [List.getElem?_set_self hlt]), ?_⟩, sf2 ds1⟩⟩
  · rw [hide_own a0]
    exact q2.put a1 ⟨_, rfl, rr⟩
  · rw [hide_own a0]
    exact q2.call a1 n hB hH ⟨_, rfl, rr⟩
theorem slots_c {a1 : Nat} {a2 : Kd} {r : Own} (k : Nat) : k ∈ slots pm ((a1, a2) :: r) ↔ k = a1 ∨ k ∈ slots pm r := by
  unfold slots
  rw [List.map_cons, List.mem_append, List.mem_append, List.mem_cons]
  exact ⟨fun z => z.elim (fun z => .inr (.inl z)) fun z => z.elim .inl fun z => .inr (.inr z), fun z => z.elim (fun z => .inr (.inl z)) fun z => z.elim .inl fun z => .inr (.inr z)⟩
theorem slots_of {ow : Own} {i o : Nat} {b : Kd} (h : ow[i]? = some (o, b)) : o ∈ slots pm ow := by
  unfold slots
  rw [List.mem_append, List.mem_map]
  exact .inr ⟨_, List.mem_of_getElem? h, rfl⟩
theorem slots_erase {o : Nat} {b : Kd} : ∀ (ow : Own) (i : Nat), (slots pm ow).Nodup → ow[i]? = some (o, b) → ∀ k, k ∈ slots pm (ow.eraseIdx i) ↔ k ∈ slots pm ow ∧ k ≠ o
  | [], i, _, h, _ => by simp at h
  | (a1, a2) :: r, 0, nd, hi, k => by
    obtain ⟨n1, n2⟩ := slots_nd nd
    cases (Option.some.inj hi : (a1, a2) = (o, b))
    rw [slots_c]
    show k ∈ slots pm r ↔ _
    exact ⟨fun z => ⟨.inr z, fun q => n1 (q ▸ z)⟩, fun z => z.1.elim (fun q => absurd q z.2) id⟩
  | (a1, a2) :: r, i + 1, nd, hi, k => by
    obtain ⟨n1, n2⟩ := slots_nd nd
    rw [List.eraseIdx_cons_succ, slots_c, slots_c, slots_erase r i n2 hi k]
    have hne : a1 ≠ o := fun z => n1 (by
      rw [z]
      exact slots_of (show r[i]? = some (o, b) from hi))
    exact ⟨fun z => z.elim (fun q => ⟨.inl q, by rw [q]; exact hne⟩) fun q => ⟨.inr q.1, q.2⟩, fun z => z.1.elim .inl fun q => .inr ⟨q, z.2⟩⟩
theorem hide_erase {o i : Nat} {b : Kd} {d : Da} (nd : (slots pm ow).Nodup) (hi : ow[i]? = some (o, b)) (he : e[o]? = some (some d)) : hide (slots pm (ow.eraseIdx i)) e = (hide (slots pm ow) e).set o (some d) := by
  have hlt : o < e.length := (List.getElem?_eq_some_iff.mp he).1
  apply List.ext_getElem?
  intro k
  rw [hide_get, List.getElem?_set, hide_get, hide_len]
  by_cases hk : o = k
  · subst hk
    rw [if_neg (fun z => ((slots_erase ow i nd hi o).mp z.2).2 rfl), if_pos rfl, if_pos hlt, he]
  · rw [if_neg hk]
    have : k ∈ slots pm (ow.eraseIdx i) ↔ k ∈ slots pm ow := by
      rw [slots_erase ow i nd hi]
      exact ⟨fun z => z.1, fun z => ⟨z, Ne.symm hk⟩⟩
    simp only [this]
theorem set_same {o : Nat} {x : Option V} (h : σ[o]? = some x) : σ.set o x = σ := by
  apply List.ext_getElem?
  intro m
  by_cases hm : o = m
  · subst hm
    obtain ⟨hk, e⟩ := List.getElem?_eq_some_iff.mp h
    rw [List.getElem?_set_self hk, h]
  · rw [List.getElem?_set_ne hm]
theorem StE.frz {i o : Nat} {kd : Kd} (s : StE K B0 H0 pm pa ow e σ B H) (nd : (slots pm ow).Nodup) (hi : ow[i]? = some (o, kd)) (hkd : kd ≠ .t := by decide) : ∃ B2, Ex B B2 ∧ StE K B0 H0 pm pa (ow.eraseIdx i) e σ B2 H := by
  obtain ⟨⟨M, q1, q2⟩, sf⟩ := s
  obtain ⟨j, l, d, a1, a2, a3⟩ := q1.frz hkd hi
  have hσ := q2.l _ (List.mem_of_getElem? a1) o rfl
  obtain ⟨u, hr, hH, hB, s2⟩ := q2.frz a1
  have hs2 := s2.s.set (d := d) (v := .ref l) o ((hr.mono (.new hB)).rp upd_same)
  rw [set_same hσ] at hs2
  exact ⟨_, .new hB, ⟨_, a3, by rw [hide_erase nd hi a2]; exact hs2, s2.h, s2.l, s2.n⟩, sf⟩
theorem perm_sw {α : Type} (h1 h2 : α) (A C D : List α) : (h1 :: (A ++ (h2 :: (C ++ D)))).Perm (h2 :: (C ++ (h1 :: (A ++ D)))) := by
  have := (List.perm_append_comm (l₁ := h1 :: A) (l₂ := h2 :: C)).append_right D
  rw [List.append_assoc, List.append_assoc] at this
  exact this
theorem Muf.frzT : ∀ {ow : Own} {M : Mu} {i o : Nat}, Muf pm pa e ow M → ow[i]? = some (o, Kd.t) → ∃ t rs rows M', M.Perm ((some o, t, .lst (rs.map fun r => Da.raw (.ref r))) :: (zipR rs rows ++ M')) ∧ rs.length = rows.length ∧ e[o]? = some (some (.lst (rows.map Da.lst))) ∧ Muf pm pa e (ow.eraseIdx i) M'
  | (o', .t) :: r, M, 0, o, h, hi => by
    obtain ⟨t, rs, rows, M', h1, h0, rfl, h3⟩ := h
    cases (Option.some.inj hi : (o', Kd.t) = (o, Kd.t))
    exact ⟨t, rs, rows, M', List.Perm.refl _, h0, h1, h3⟩
  | (o', .l) :: r, M, 0, o, h, hi => by cases hi
  | (o', .d) :: r, M, 0, o, h, hi => by cases hi
  | (o', .l) :: r, M, i + 1, o, h, hi => by
    obtain ⟨l, ds, M', h1, rfl, h3⟩ := h
    obtain ⟨t, rs, rows, M2, q1, q2, q3, q4⟩ := h3.frzT (i := i) hi
    exact ⟨t, rs, rows, (some o', l, .lst ds) :: M2, (q1.cons _).trans (by
      rw [← List.cons_append, ← List.cons_append]
      exact (List.perm_middle (l₁ := (some o, t, .lst (rs.map fun r => Da.raw (.ref r))) :: zipR rs rows)).symm), q2, q3, l, ds, M2, h1, rfl, q4⟩
  | (o', .d) :: r, M, i + 1, o, h, hi => by
    obtain ⟨l, ks, vs, M', h1, rfl, h3⟩ := h
    obtain ⟨t, rs, rows, M2, q1, q2, q3, q4⟩ := h3.frzT (i := i) hi
    exact ⟨t, rs, rows, (some o', l, .dct ks vs) :: M2, (q1.cons _).trans (by
      rw [← List.cons_append, ← List.cons_append]
      exact (List.perm_middle (l₁ := (some o, t, Da.lst (rs.map fun r => Da.raw (.ref r))) :: zipR rs rows)).symm), q2, q3, l, ks, vs, M2, h1, rfl, q4⟩
  | (o', .t) :: r, M, i + 1, o, h, hi => by
    obtain ⟨t', rs', rows', M', h1, h0, rfl, h3⟩ := h
    obtain ⟨t, rs, rows, M2, q1, q2, q3, q4⟩ := h3.frzT (i := i) hi
    refine ⟨t, rs, rows, (some o', t', .lst (rs'.map fun r => Da.raw (.ref r))) :: (zipR rs' rows' ++ M2), ?_, q2, q3, t', rs', rows', M2, h1, h0, rfl, q4⟩
    have a := ((q1.append_left (zipR rs' rows')).cons (some o', t', Da.lst (rs'.map fun r => Da.raw (.ref r))))
    exact a.trans (perm_sw _ _ _ _ _)
theorem frzRows {hd : Option Nat × Addr × Da} : ∀ {rs : List Addr} {rows : List (List Da)} {Γ : Sls} {M : Mu} {B : Hp}, rs.length = rows.length → Stt K B0 H0 Γ (hd :: (zipR rs rows ++ M)) σ B H → ∃ B2, Ex B B2 ∧ Stt K B0 H0 Γ (hd :: M) σ B2 H ∧ RpA K B2 (rows.map Da.lst) (rs.map V.ref)
  | [], [], Γ, M, B, _, s => ⟨B, .refl B, s, rfl⟩
  | [], _ :: _, Γ, M, B, h, s => by cases h
  | _ :: _, [], Γ, M, B, h, s => by cases h
  | r :: rs, d :: rows, Γ, M, B, h, s => by
    obtain ⟨u, hu, hH, hB, s2⟩ := s.frz (j := 1) (o := none) (l := r) (d := .lst d) rfl
    obtain ⟨xs, rfl, ra⟩ := hu
    obtain ⟨B2, e2, s3, r3⟩ := frzRows (rs := rs) (rows := rows) (by simpa using h) s2
    refine ⟨B2, (Ex.new hB).trans e2, s3, .ref r, rs.map V.ref, rfl, ⟨r, xs, rfl, e2 _ _ upd_same, RpA.mono ((Ex.new hB).trans e2) _ _ ra⟩, r3⟩
theorem StE.frzT {i o : Nat} (s : StE K B0 H0 pm pa ow e σ B H) (nd : (slots pm ow).Nodup) (hi : ow[i]? = some (o, Kd.t)) : ∃ B2, Ex B B2 ∧ StE K B0 H0 pm pa (ow.eraseIdx i) e σ B2 H := by
  obtain ⟨⟨M, q1, q2⟩, sf⟩ := s
  obtain ⟨t, rs, rows, M', a1, a0, a2, a3⟩ := q1.frzT hi
  have q3 := q2.perm a1
  have hσ := q3.l _ List.mem_cons_self o rfl
  obtain ⟨B2, e2, s3, r3⟩ := frzRows a0 q3
  obtain ⟨u, hu, hH, hB, s4⟩ := s3.frz (j := 0) rfl
  obtain ⟨xs, rfl, ra⟩ := hu
  obtain rfl := rpa_raws.mp ra
  have hs2 := s4.s.set (d := .lst (rows.map Da.lst)) (v := .ref t) o ⟨t, _, rfl, upd_same, RpA.mono (.new hB) _ _ r3⟩
  rw [set_same hσ] at hs2
  exact ⟨_, e2.trans (.new hB), ⟨_, a3, by rw [hide_erase nd hi a2]; exact hs2, s4.h, s4.l, s4.n⟩, sf⟩
theorem StE.all : ∀ {ow : Own} {B : Hp}, StE K B0 H0 pm pa ow e σ B H → (slots pm ow).Nodup → ∃ B2, Ex B B2 ∧ Ex B2 H ∧ Sl K B2 e σ
  | [], B, s, nd => by
    cases pm with
    | no => exact ⟨B, .refl B, s.ok, s.sl⟩
    | slf =>
      refine ⟨B, .refl B, s.ok, ?_⟩
      have h1 := (s.2 rfl).2
      have : e = hide (slots .slf []) e := by
        apply List.ext_getElem?
        intro k
        rw [hide_get]
        by_cases hk : 0 = k
        · subst hk
          rw [if_pos ⟨(List.getElem?_eq_some_iff.mp h1).1, by simp [slots, pmS]⟩, h1]
        · have : k ∉ slots .slf [] := by
            simp [slots, pmS]
            omega
          rw [if_neg (fun z => this z.2)]
      rw [this]
      exact s.sl
    | lst i =>
      obtain ⟨⟨M, q1, q2⟩, sf⟩ := s
      obtain ⟨ds, h1, rfl⟩ := q1
      have hσ := q2.l _ List.mem_cons_self i rfl
      obtain ⟨u, hu, hH, hB, s2⟩ := q2.frz (j := 0) rfl
      obtain ⟨xs, rfl, ra⟩ := hu
      have hs2 := s2.s.set (d := .lst ds) (v := .ref pa) i ⟨pa, xs, rfl, upd_same, RpA.mono (.new hB) _ _ ra⟩
      rw [set_same hσ] at hs2
      refine ⟨_, .new hB, s2.ok, ?_⟩
      have : e = (hide (slots (.lst i) []) e).set i (some (.lst ds)) := by
        have hlt : i < e.length := (List.getElem?_eq_some_iff.mp h1).1
        apply List.ext_getElem?
        intro k
        rw [List.getElem?_set, hide_get, hide_len]
        by_cases hk : i = k
        · subst hk
          rw [if_pos rfl, if_pos hlt, h1]
        · have : k ∉ slots (.lst i) [] := by
            simp [slots, pmS]
            omega
          rw [if_neg hk, if_neg (fun z => this z.2)]
      rw [this]
      exact hs2
  | (o, .l) :: r, B, s, nd => by
    obtain ⟨B2, e2, s2⟩ := s.frz nd (i := 0) rfl
    obtain ⟨B3, e3, h3, h4⟩ := s2.all (slots_nd nd).2
    exact ⟨B3, e2.trans e3, h3, h4⟩
  | (o, .d) :: r, B, s, nd => by
    obtain ⟨B2, e2, s2⟩ := s.frz nd (i := 0) rfl
    obtain ⟨B3, e3, h3, h4⟩ := s2.all (slots_nd nd).2
    exact ⟨B3, e2.trans e3, h3, h4⟩
  | (o, .t) :: r, B, s, nd => by
    obtain ⟨B2, e2, s2⟩ := s.frzT nd (i := 0) rfl
    obtain ⟨B3, e3, h3, h4⟩ := s2.all (slots_nd nd).2
    exact ⟨B3, e2.trans e3, h3, h4⟩
theorem StE.newG {o l : Nat} {d : Da} {u : HO} {kd : Kd} (s : StE K B0 H0 pm pa ow e σ B H) (n : Nx B H B2 H2) (ho : o ∉ slots pm ow) (hl : o < e.length) (hH : H l = none) (hB2 : B2 l = none) (hH2 : H2 l = some u) (rr : HoR K B2 d u)
    (hk : ∀ M, Muf pm pa (e.set o (some d)) ow M → Muf pm pa (e.set o (some d)) ((o, kd) :: ow) ((some o, l, d) :: M)) :
    StE K B0 H0 pm pa ((o, kd) :: ow) (e.set o (some d)) (σ.set o (some (.ref l))) B2 H2 := by
  obtain ⟨⟨M, q1, q2⟩, sf⟩ := s
  have q3 := q2.nx n
  have hne := q2.h.fresh hH
  refine ⟨⟨(some o, l, d) :: M, hk M (q1.congr fun k hk => set_out ho hk), ?_, ⟨⟨h0_none q2.n hH, hB2, ⟨u, hH2, rr⟩, hne⟩, q3.h⟩, fun m hm k hk => ?_, q3.n⟩, fun hp => ?_⟩
  · have : hide (slots pm ((o, kd) :: ow)) (e.set o (some d)) = (hide (slots pm ow) e).set o none := by
      apply List.ext_getElem?
      intro k
      rw [hide_get, List.getElem?_set, List.getElem?_set, hide_get, List.length_set, hide_len]
      by_cases hk : o = k
      · subst hk
        rw [if_pos ⟨hl, slots_hd⟩, if_pos rfl, if_pos hl]
      · rw [if_neg hk, if_neg hk]
        have : k ∈ slots pm ((o, kd) :: ow) ↔ k ∈ slots pm ow := by
          rw [slots_c]
          exact ⟨fun z => z.elim (fun z => absurd z.symm hk) id, .inr⟩
        simp only [this]
    rw [this]
    exact q3.s.set0 o
  · rcases List.mem_cons.mp hm with z | hm
    · subst z
      cases (Option.some.inj hk : o = k)
      have : o < σ.length := by
        rw [q2.s.len, hide_len]
        exact hl
      simp [this]
    · rw [set_out ho (q1.slot m hm k hk)]
      exact q3.l m hm k hk
  · rw [set_out ho (show 0 ∈ slots pm ow by rw [hp]; simp [slots, pmS]), set_out ho (show 0 ∈ slots pm ow by rw [hp]; simp [slots, pmS])]
    exact sf hp
theorem StE.newN {o l : Nat} {ds : List Da} {xs : List V} (s : StE K B0 H0 pm pa ow e σ B H) (n : Nx B H B2 H2) (ho : o ∉ slots pm ow) (hl : o < e.length) (hH : H l = none) (hB2 : B2 l = none) (hH2 : H2 l = some (.lst xs)) (rr : RpA K B2 ds xs) :
    StE K B0 H0 pm pa ((o, .l) :: ow) (e.set o (some (.lst ds))) (σ.set o (some (.ref l))) B2 H2 :=
  s.newG n ho hl hH hB2 hH2 ⟨xs, rfl, rr⟩ fun M hM => ⟨l, ds, M, by rw [List.getElem?_set_self hl], rfl, hM⟩
theorem StE.par {i : Nat} (s : StE K B0 H0 (.lst i) pa ow e σ B H) (nd : (slots (.lst i) ow).Nodup) : ∃ ds xs, e[i]? = some (some (.lst ds)) ∧ B pa = none ∧ H pa = some (.lst xs) ∧ RpA K B ds xs := by
  obtain ⟨⟨M, q1, q2⟩, sf⟩ := s
  obtain ⟨j, ds, a1, a2, a3⟩ := q1.par nd
  obtain ⟨h1, h2, u, h3, h4⟩ := q2.h.at a1
  obtain ⟨xs, rfl, h4⟩ := h4
  exact ⟨ds, xs, a2, h2, h3, h4⟩
theorem StE.len (s : StE K B0 H0 pm pa ow e σ B H) : σ.length = e.length := by
  have := s.sl.len
  rw [hide_len] at this
  exact this
end Mi
namespace Mi
open PySem PySem.Spec PyProof.Rows L2 Fo
variable [Nm]
structure Xcs where
  mal : Addr
  ref : Addr
  nt : Addr
def XcE (cs : Xcs) : Xc → Hp → XK → Prop
  | .mal, H, E => ∀ H2, Ex H H2 → E (.ref cs.mal) none H2
  | .ref r, H, E => ∀ dd H2, Ex H H2 → H2 dd = some (.xd [("reason", .str r)]) → E (.ref cs.ref) (some dd) H2
  | .at_ i, H, E => ∀ dd H2, Ex H H2 → H2 dd = some (.xd [("at", .int i)]) → E (.ref cs.nt) (some dd) H2
theorem XcE.mono {cs : Xcs} {x : Xc} {H H2 : Hp} {E : XK} (h : XcE cs x H E) (e : Ex H H2) : XcE cs x H2 E := by
  cases x with
  | mal => exact fun H3 e3 => h H3 (e.trans e3)
  | ref r => exact fun dd H3 e3 => h dd H3 (e.trans e3)
  | at_ r => exact fun dd H3 e3 => h dd H3 (e.trans e3)
def ResE (K : PySem.W.Frag) (cs : Xcs) (B H : Hp) (Q : VK) (E : XK) : Rs Da → Prop
  | .bad => False
  | .ok d => Goes K B H d Q
  | .ex x => XcE cs x H E
theorem ResE.mono {K : PySem.W.Frag} {cs : Xcs} {B H B2 H2 : Hp} {Q : VK} {E : XK} {r : Rs Da} (h : ResE K cs B H Q E r) (n : Nx B H B2 H2) : ResE K cs B2 H2 Q E r := by
  cases r with
  | bad => exact h
  | ok d => exact Goes.mono h n
  | ex x => exact XcE.mono h n.h
def PuX (K : PySem.W.Frag) (cs : Xcs) (m : List Da → Rs Da) : Sp := fun vs H Q E => ∃ B ds, Ex B H ∧ RpA K B ds vs ∧ ResE K cs B H Q E (m ds)
def PuMX (K : PySem.W.Frag) (m : List Da → List Da → Rs (Da × List Da)) : Sp := fun vs H Q _ => ∃ B l xs ds0 ds ws d ds1, vs = .ref l :: ws ∧ Ex B H ∧ B l = none ∧ H l = some (.lst xs) ∧ RpA K B ds0 xs ∧ RpA K B ds ws ∧ m ds0 ds = .ok (d, ds1) ∧
  ∀ v xs1 B2 H2, Nx B (delH H l) B2 H2 → B2 l = none → H2 l = some (.lst xs1) → RpA K B2 ds1 xs1 → Rp K B2 d v → Q v H2
variable {K : PySem.W.Frag} {cs : Xcs} {E : XK} {te ta tb tc : TE} {tt tu : TT} {tr : TA} {wi : TI} {a b c me : ME} {t u : MT} {ma : MA} {w : MA} {m : List Da → Rs Da}
theorem e_call {n : Nat} (h : GA K tr ma n) : GE K (tCall (PuX K cs m) [] E tr) (mN m ma) := fun e d hd σ B H hs ex Q k => by
  obtain ⟨xs, hx, hd⟩ := bind_ok hd
  refine (h e xs hx).1 σ B H hs ex _ fun vs B1 H1 n1 r => ?_
  rw [List.append_nil]
  exact ⟨B1, xs, n1.ok, r, by rw [hd]; exact k.mono n1⟩
abbrev YM := Env → Rs (Da × Env)
abbrev YAM := Env → Rs (List Da × Env)
abbrev YBM := Env → Rs (Bool × Env)
variable {B0 H0 B H B2 H2 : Hp} {pm : Pm} {pa : Addr} {ow ow' : Own} {e e1 e2 : Env} {σ : L2.St} {Q : VK} {y z : YM} {ya : YAM} {yb yc : YBM}
def FinY (K : PySem.W.Frag) (cs : Xcs) (E : XK) (B0 H0 : Hp) (pm : Pm) (pa : Addr) (ow : Own) (σ : L2.St) (B : Hp) (Q : VK) : Rs (Da × Env) → Prop
  | .bad => False
  | .ok (d, e) => ∀ v B2 H2, Ex B B2 → StE K B0 H0 pm pa ow e σ B2 H2 → Rp K B2 d v → Q v H2
  | .ex x => XcE cs x H0 E
def FinA (K : PySem.W.Frag) (cs : Xcs) (E : XK) (B0 H0 : Hp) (pm : Pm) (pa : Addr) (ow : Own) (σ : L2.St) (B : Hp) (Q : List V → Hp → Prop) : Rs (List Da × Env) → Prop
  | .bad => False
  | .ok (ds, e) => ∀ vs B2 H2, Ex B B2 → StE K B0 H0 pm pa ow e σ B2 H2 → RpA K B2 ds vs → Q vs H2
  | .ex x => XcE cs x H0 E
def FinB (K : PySem.W.Frag) (cs : Xcs) (E : XK) (B0 H0 : Hp) (pm : Pm) (pa : Addr) (ow : Own) (σ : L2.St) (B : Hp) (Q : Bool → Hp → Prop) : Rs (Bool × Env) → Prop
  | .bad => False
  | .ok (b, e) => ∀ B2 H2, Ex B B2 → StE K B0 H0 pm pa ow e σ B2 H2 → Q b H2
  | .ex x => XcE cs x H0 E
def FinI (K : PySem.W.Frag) (cs : Xcs) (E : XK) (B0 H0 : Hp) (pm : Pm) (pa : Addr) (ow : Own) (σ : L2.St) (B : Hp) (R : It → Hp → Prop) : Rs (List Da × Env) → Prop
  | .bad => False
  | .ok (ds, e) => ∀ J B2 H2, Ex B B2 → StE K B0 H0 pm pa ow e σ B2 H2 → WalkD K J B2 ds → R J H2
  | .ex x => XcE cs x H0 E
def YE (K : PySem.W.Frag) (cs : Xcs) (E : XK) (pm : Pm) (ow : Own) (te : TE) (y : YM) : Prop := ∀ B0 H0 pa e σ B H Q, StE K B0 H0 pm pa ow e σ B H → FinY K cs E B0 H0 pm pa ow σ B Q (y e) → te σ H Q
def YA (K : PySem.W.Frag) (cs : Xcs) (E : XK) (pm : Pm) (ow : Own) (tr : TA) (y : YAM) : Prop := ∀ B0 H0 pa e σ B H Q, StE K B0 H0 pm pa ow e σ B H → FinA K cs E B0 H0 pm pa ow σ B Q (y e) → tr σ H Q
def YB (K : PySem.W.Frag) (cs : Xcs) (E : XK) (pm : Pm) (ow : Own) (tt : TT) (y : YBM) : Prop := ∀ B0 H0 pa e σ B H Q, StE K B0 H0 pm pa ow e σ B H → FinB K cs E B0 H0 pm pa ow σ B Q (y e) → tt σ H Q
def YI (K : PySem.W.Frag) (cs : Xcs) (E : XK) (pm : Pm) (ow : Own) (wi : TI) (y : YAM) : Prop := ∀ B0 H0 pa e σ B H R, StE K B0 H0 pm pa ow e σ B H → FinI K cs E B0 H0 pm pa ow σ B R (y e) → wi σ H R
def yH (l : List Nat) (me : ME) : YM := fun e => match me (hide l e) with
  | .ok d => .ok (d, e)
  | _ => .bad
def yP (me : ME) : YM := fun e => match me e with
  | .ok d => if (sca d).isSome then .ok (d, e) else .bad
  | _ => .bad
def ybH (l : List Nat) (mt : MT) : YBM := fun e => match mt (hide l e) with
  | .ok d => .ok (d, e)
  | _ => .bad
def ybP (mt : MT) : YBM := fun e => match mt e with
  | .ok d => .ok (d, e)
  | _ => .bad
def yaH (l : List Nat) (ma : MA) : YAM := fun e => match ma (hide l e) with
  | .ok d => .ok (d, e)
  | _ => .bad
theorem ye_H {l : List Nat} (h : GE K te me) (hl : slots pm ow = l := by rfl) : YE K cs E pm ow te (yH l me) := fun B0 H0 pa e σ B H Q s q => by
  subst hl
  unfold yH at q
  cases hm : me (hide (slots pm ow) e) with
  | ok d =>
    rw [hm] at q
    exact h _ d hm σ B H s.sl s.ok Q fun v B2 H2 n r => q v B2 H2 n.b (s.nx n) r
  | bad => rw [hm] at q; exact q.elim
  | ex x => rw [hm] at q; exact q.elim
theorem yb_H {l : List Nat} (h : GB K tt t) (hl : slots pm ow = l := by rfl) : YB K cs E pm ow tt (ybH l t) := fun B0 H0 pa e σ B H Q s q => by
  subst hl
  unfold ybH at q
  cases hm : t (hide (slots pm ow) e) with
  | ok d =>
    rw [hm] at q
    exact h _ d hm σ B H s.sl s.ok Q fun B2 H2 n => q B2 H2 n.b (s.nx n)
  | bad => rw [hm] at q; exact q.elim
  | ex x => rw [hm] at q; exact q.elim
theorem yi_H {l : List Nat} (h : GI K wi ma) (hl : slots pm ow = l := by rfl) : YI K cs E pm ow wi (yaH l ma) := fun B0 H0 pa e σ B H Q s q => by
  subst hl
  unfold yaH at q
  cases hm : ma (hide (slots pm ow) e) with
  | ok d =>
    rw [hm] at q
    exact h _ d hm σ B H s.sl s.ok Q fun v B2 H2 n r => q v B2 H2 n.b (s.nx n) r
  | bad => rw [hm] at q; exact q.elim
  | ex x => rw [hm] at q; exact q.elim
theorem ye_P (h : GE K te me) (nd : (slots pm ow).Nodup := by decide) : YE K cs E pm ow te (yP me) := fun B0 H0 pa e σ B H Q s q => by
  unfold yP at q
  cases hm : me e with
  | ok d =>
    rw [hm] at q
    simp only at q
    split at q
    · obtain ⟨x, hx⟩ := Option.isSome_iff_exists.mp ‹_›
      obtain ⟨B2, e1, e2, hs⟩ := s.all nd
      exact (h _ d hm).sc hx hs e2 fun H2 eH => q x B H2 (.refl _) (s.nx (.grow s.ok eH)) (by
        cases d <;> cases hx <;> rfl)
    · exact q.elim
  | bad => rw [hm] at q; exact q.elim
  | ex x => rw [hm] at q; exact q.elim
theorem yb_P (h : GB K tt t) (nd : (slots pm ow).Nodup := by decide) : YB K cs E pm ow tt (ybP t) := fun B0 H0 pa e σ B H Q s q => by
  unfold ybP at q
  cases hm : t e with
  | ok d =>
    rw [hm] at q
    obtain ⟨B2, e1, e2, hs⟩ := s.all nd
    exact (h _ d hm).sc hs e2 fun H2 eH => q B H2 (.refl _) (s.nx (.grow s.ok eH))
  | bad => rw [hm] at q; exact q.elim
  | ex x => rw [hm] at q; exact q.elim
def y1 (f : Da → Rs Da) (y : YM) : YM := fun e => (y e).bind fun p => match f p.1 with
  | .ok d => .ok (d, p.2)
  | _ => .bad
def y2 (f : Da → Da → Rs Da) (y z : YM) : YM := fun e => (y e).bind fun p => (z p.2).bind fun q => match f p.1 q.1 with
  | .ok d => .ok (d, q.2)
  | _ => .bad
def yNil : YAM := fun e => .ok ([], e)
def yCons (y : YM) (ya : YAM) : YAM := fun e => (y e).bind fun p => (ya p.2).bind fun q => .ok (p.1 :: q.1, q.2)
def yN (f : List Da → Rs Da) (ya : YAM) : YM := fun e => (ya e).bind fun p => match f p.1 with
  | .ok d => .ok (d, p.2)
  | _ => .bad
def yX (f : List Da → Rs Da) (ya : YAM) : YM := fun e => (ya e).bind fun p => (f p.1).bind fun d => .ok (d, p.2)
def yTup (ya : YAM) : YM := fun e => (ya e).bind fun p => .ok (.tup p.1, p.2)
def yLst (ya : YAM) : YM := fun e => (ya e).bind fun p => .ok (.lst p.1, p.2)
def yT (y : YM) : YBM := fun e => (y e).bind fun p => match p.1 with
  | .bl b => .ok (b, p.2)
  | _ => .bad
def yTNot (yb : YBM) : YBM := fun e => (yb e).bind fun p => .ok (!p.1, p.2)
def yTAnd (yb yc : YBM) : YBM := fun e => (yb e).bind fun p => if p.1 then yc p.2 else .ok (false, p.2)
def yTOr (yb yc : YBM) : YBM := fun e => (yb e).bind fun p => if p.1 then .ok (true, p.2) else yc p.2
def yIf (yb : YBM) (y z : YM) : YM := fun e => (yb e).bind fun p => if p.1 then y p.2 else z p.2
def yAnd (y z : YM) : YM := fun e => (yT y e).bind fun p => if p.1 then z p.2 else .ok (.bl false, p.2)
def yOr (y z : YM) : YM := fun e => (yT y e).bind fun p => if p.1 then .ok (.bl true, p.2) else z p.2
def yNot (y : YM) : YM := fun e => (yT y e).bind fun p => .ok (.bl (!p.1), p.2)
theorem ye_2 {r : R2} {f : Da → Da → Rs Da} (hr : R2m K r f) (hy : YE K cs E pm ow ta y) (hz : YE K cs E pm ow tb z) : YE K cs E pm ow (tOp r ta tb) (y2 f y z) := fun B0 H0 pa e σ B H Q s q => by
  refine hy B0 H0 pa e σ B H _ s ?_
  unfold y2 at q
  cases h1 : y e with
  | bad => rw [h1] at q; exact q.elim
  | ex x => rw [h1] at q; exact q
  | ok p =>
    obtain ⟨d, e1⟩ := p
    rw [h1] at q
    refine fun v B1 H1 b1 s1 r1 => hz B0 H0 pa e1 σ B1 H1 _ s1 ?_
    simp only [ok_bind] at q
    cases h2 : z e1 with
    | bad => rw [h2] at q; exact q.elim
    | ex x => rw [h2] at q; exact q
    | ok p2 =>
      obtain ⟨d2, e2⟩ := p2
      rw [h2] at q
      refine fun v2 B2 H2 b2 s2 r2 => ?_
      simp only [ok_bind] at q
      cases hf : f d d2 with
      | ok d3 =>
        rw [hf] at q
        exact hr d d2 d3 hf B2 H2 v v2 s2.ok (Rp.mono b2 _ _ r1) r2 Q fun v3 B3 H3 n3 r3 => q v3 B3 H3 ((b1.trans b2).trans n3.b) (s2.nx n3) r3
      | bad => rw [hf] at q; exact q.elim
      | ex x => rw [hf] at q; exact q.elim
theorem ya_nil : YA K cs E pm ow tNil yNil := fun B0 H0 pa e σ B H Q s q => q [] B H (.refl _) s rfl
theorem ya_cons (hy : YE K cs E pm ow ta y) (hr : YA K cs E pm ow tr ya) : YA K cs E pm ow (tCons ta tr) (yCons y ya) := fun B0 H0 pa e σ B H Q s q => by
  refine hy B0 H0 pa e σ B H _ s ?_
  unfold yCons at q
  cases h1 : y e with
  | bad => rw [h1] at q; exact q.elim
  | ex x => rw [h1] at q; exact q
  | ok p =>
    obtain ⟨d, e1⟩ := p
    rw [h1] at q
    refine fun v B1 H1 b1 s1 r1 => hr B0 H0 pa e1 σ B1 H1 _ s1 ?_
    simp only [ok_bind] at q
    cases h2 : ya e1 with
    | bad => rw [h2] at q; exact q.elim
    | ex x => rw [h2] at q; exact q
    | ok p2 =>
      obtain ⟨ds, e2⟩ := p2
      rw [h2] at q
      exact fun vs B2 H2 b2 s2 r2 => q (v :: vs) B2 H2 (b1.trans b2) s2 ⟨v, vs, rfl, Rp.mono b2 _ _ r1, r2⟩
theorem FinB.mono {Q : Bool → Hp → Prop} {r : Rs (Bool × Env)} (q : FinB K cs E B0 H0 pm pa ow σ B Q r) (b1 : Ex B B2) : FinB K cs E B0 H0 pm pa ow σ B2 Q r := by
  cases r with
  | bad => exact q
  | ex x => exact q
  | ok p =>
    obtain ⟨d, e1⟩ := p
    exact fun B3 H3 b3 s3 => q B3 H3 (b1.trans b3) s3
theorem FinY.mono {r : Rs (Da × Env)} (q : FinY K cs E B0 H0 pm pa ow σ B Q r) (b1 : Ex B B2) : FinY K cs E B0 H0 pm pa ow σ B2 Q r := by
  cases r with
  | bad => exact q
  | ex x => exact q
  | ok p =>
    obtain ⟨d, e1⟩ := p
    exact fun v B3 H3 b3 s3 => q v B3 H3 (b1.trans b3) s3
def lstAt (e : Env) (o : Nat) : Rs (List Da) := match e[o]? with
  | some (some (.lst ds)) => .ok ds
  | _ => .bad
theorem lstAt_ok {ds : List Da} {o : Nat} (h : e[o]? = some (some (.lst ds))) : lstAt e o = .ok ds := by
  unfold lstAt
  rw [h]
def yM (o : Nat) (m : List Da → List Da → Rs (Da × List Da)) (ya : YAM) : YM := fun e => (ya e).bind fun p => (lstAt p.2 o).bind fun st => match m st p.1 with
  | .ok q => .ok (q.1, p.2.set o (some (.lst q.2)))
  | _ => .bad
def yPop (o : Nat) : YM := fun e => (lstAt e o).bind fun ds => match ds[ds.length - 1]? with
  | some d => .ok (d, e.set o (some (.lst ds.dropLast)))
  | none => .bad
def yPopAt (o : Nat) (y : YM) : YM := fun e => (y e).bind fun p => (lstAt p.2 o).bind fun ds => match p.1 with
  | .int i => if 0 ≤ i ∧ i.toNat < 1000000 then match ds[i.toNat]? with
    | some d => .ok (d, p.2.set o (some (.lst (ds.eraseIdx i.toNat))))
    | none => .bad
    else .bad
  | _ => .bad
theorem ye_M {mm : List Da → List Da → Rs (Da × List Da)} {o : Nat} (h : YA K cs E pm ow tr ya) (ho : (o, Kd.l) ∈ ow ∨ pm = .lst o := by decide) (nd : (slots pm ow).Nodup := by decide) : YE K cs E pm ow (tCall (PuMX K mm) [] E (tCons (tVar o) tr)) (yM o mm ya) := fun B0 H0 pa e σ B H Q s q => by
  obtain ⟨l, ds, xs, _, hσ, _⟩ := s.at nd ho
  refine ⟨.ref l, hσ, h B0 H0 pa e σ B H _ s ?_⟩
  unfold yM at q
  cases h1 : ya e with
  | bad => rw [h1] at q; exact q.elim
  | ex x => rw [h1] at q; exact q
  | ok p =>
    obtain ⟨es, e1⟩ := p
    rw [h1] at q
    refine fun vs B1 H1 b1 s1 r1 => ?_
    obtain ⟨l2, ds2, xs2, g1, g2, g3, g4, g5, g6, g7, g8, g9⟩ := s1.at nd ho
    have el : l2 = l := by
      rw [hσ] at g2
      cases g2
      rfl
    subst el
    simp only [ok_bind, lstAt_ok g1] at q
    rw [List.append_nil]
    cases hm : mm ds2 es with
    | bad => rw [hm] at q; exact q.elim
    | ex x => rw [hm] at q; exact q.elim
    | ok p2 =>
      obtain ⟨d, st⟩ := p2
      rw [hm] at q
      exact ⟨B1, l2, xs2, ds2, es, vs, d, st, rfl, s1.ok, g6, g3, g4, r1, hm, fun v xs1 B2 H2 n hB hH ra rv => q v B2 H2 (b1.trans n.b) (g9 B2 H2 st xs1 n hB hH ra) rv⟩
theorem ye_pop {o : Nat} (ho : (o, Kd.l) ∈ ow ∨ pm = .lst o := by decide) (nd : (slots pm ow).Nodup := by decide) : YE K cs E pm ow (tBM0 K "list" rPop (tVar o)) (yPop o) := fun B0 H0 pa e σ B H Q s q => by
  obtain ⟨l, ds, xs, g1, g2, g3, g4, g5, g6, g7, g8, g9⟩ := s.at nd ho
  unfold yPop at q
  rw [lstAt_ok g1] at q
  simp only [ok_bind] at q
  split at q
  · rename_i d hd
    have hz := g4.length
    obtain ⟨x, hx, rx⟩ := g4.get hd
    refine ⟨.ref l, g2, .inl ⟨rfl, xs, .inl (.inl g3)⟩, l, xs, x, rfl, rfl, g3, by rw [hz]; exact hx, ?_⟩
    refine q x B _ (.refl _) (g8 _ _ ?_) rx
    have e1 : ds.dropLast = ds.eraseIdx (ds.length - 1) := by rw [List.eraseIdx_length_sub_one]
    have e2 : xs.dropLast = xs.eraseIdx (xs.length - 1) := by rw [List.eraseIdx_length_sub_one]
    rw [e1, e2, hz]
    exact RpA.eraseIdx _ g4
  · exact q.elim
theorem ye_popAt {o : Nat} (hy : YE K cs E pm ow tb y) (ho : (o, Kd.l) ∈ ow ∨ pm = .lst o := by decide) (nd : (slots pm ow).Nodup := by decide) : YE K cs E pm ow (tBM K "list" rPopAt (tVar o) (tCons tb tNil)) (yPopAt o y) := fun B0 H0 pa e σ B H Q s q => by
  obtain ⟨l, ds, xs, _, hσ, h3, _⟩ := s.at nd ho
  refine ⟨.ref l, hσ, .inl ⟨rfl, xs, .inl (.inl h3)⟩, hy B0 H0 pa e σ B H _ s ?_⟩
  unfold yPopAt at q
  cases h1 : y e with
  | bad => rw [h1] at q; exact q.elim
  | ex x => rw [h1] at q; exact q
  | ok p =>
    obtain ⟨d, e1⟩ := p
    rw [h1] at q
    refine fun v B1 H1 b1 s1 r1 => ?_
    obtain ⟨l2, ds2, xs2, g1, g2, g3, g4, g5, g6, g7, g8, g9⟩ := s1.at nd ho
    have el : l2 = l := by
      rw [hσ] at g2
      cases g2
      rfl
    subst el
    simp only [ok_bind, lstAt_ok g1] at q
    split at q
    · rename_i i
      obtain rfl : v = .int i := r1
      split at q
      · rename_i hi
        split at q
        · rename_i d2 hd
          obtain ⟨y, hy, ry⟩ := g4.get hd
          refine ⟨l2, xs2, i, i.toNat, y, rfl, rfl, g3, by omega, by omega, ?_, hy, q y B1 _ b1 (g8 _ _ (RpA.eraseIdx _ g4)) ry⟩
          have := seq_natF (x := i.toNat) (List.getElem?_eq_some_iff.mp hy).1
          rw [Int.toNat_of_nonneg hi.1] at this
          exact this
        · exact q.elim
      · exact q.elim
    · exact q.elim
end Mi
namespace Mi
open PySem PySem.Spec PyProof.Rows L2 Fo
variable [Nm]
inductive Rst where
  | bad
  | nx (e : Env)
  | rt (d : Da) (e : Env)
  | bk (e : Env)
  | ct (e : Env)
  | ex (x : Xc)
abbrev SM := Env → Rst
def sNext : SM := .nx
def sBreak : SM := .bk
def sCont : SM := .ct
def sRaise (x : Xc) : SM := fun _ => .ex x
def sSeq (a b : SM) : SM := fun e => match a e with
  | .nx e1 => b e1
  | r => r
def sAsg (tg : Tg) (y : YM) : SM := fun e => match y e with
  | .ok p => match bindT tg p.1 p.2 with
    | some e1 => .nx e1
    | none => .bad
  | .bad => .bad
  | .ex x => .ex x
def sNew (i : Nat) (l : List Nat) (me : ME) : SM := fun e => match me (hide l e) with
  | .ok d => if i < e.length then .nx (e.set i (some d)) else .bad
  | _ => .bad
def sDrop (y : YM) : SM := fun e => match y e with
  | .ok p => .nx p.2
  | .bad => .bad
  | .ex x => .ex x
def sRet (y : YM) : SM := fun e => match y e with
  | .ok p => .rt p.1 p.2
  | .bad => .bad
  | .ex x => .ex x
def sRetN : SM := fun e => .rt .non e
def sIf (yb : YBM) (a b : SM) : SM := fun e => match yb e with
  | .ok p => if p.1 then a p.2 else b p.2
  | .bad => .bad
  | .ex x => .ex x
def forRun (tg : Tg) (body : SM) : List Da → SM
  | [], e => .nx e
  | d :: ds, e => match bindT tg d e with
    | none => .bad
    | some e1 => match body e1 with
      | .nx e2 => forRun tg body ds e2
      | .ct e2 => forRun tg body ds e2
      | .bk e2 => .nx e2
      | .bad => .bad
      | .rt d e2 => .rt d e2
      | .ex x => .ex x
def sFor (ya : YAM) (tg : Tg) (body : SM) : SM := fun e => match ya e with
  | .ok p => forRun tg body p.1 p.2
  | .bad => .bad
  | .ex x => .ex x
def whRun (yb : YBM) (body : SM) : Nat → SM
  | 0, _ => .bad
  | n + 1, e => match yb e with
    | .ok p => if p.1 then match body p.2 with
        | .nx e2 => whRun yb body n e2
        | .ct e2 => whRun yb body n e2
        | .bk e2 => .nx e2
        | .bad => .bad
        | .rt d e2 => .rt d e2
        | .ex x => .ex x
      else .nx p.2
    | .bad => .bad
    | .ex x => .ex x
def wFuel : Nat := 1000000
def sWhile (yb : YBM) (body : SM) : SM := whRun yb body wFuel
def sPar (i j : Nat) (ya : YAM) : SM := fun e => match ya e with
  | .ok p => match p.1 with
    | [a, b] => .nx ((p.2.set i (some a)).set j (some b))
    | _ => .bad
  | .bad => .bad
  | .ex x => .ex x
def sApp (o : Nat) (y : YM) : SM := fun e => match y e with
  | .ok p => match lstAt p.2 o with
    | .ok ds => if ds.length < 1000000 then .nx (p.2.set o (some (.lst (ds ++ [p.1])))) else .bad
    | _ => .bad
  | .bad => .bad
  | .ex x => .ex x
def sExt (o : Nat) (y : YM) : SM := fun e => match y e with
  | .ok p => match lstAt p.2 o, p.1 with
    | .ok ds, .lst es => if ds.length + es.length ≤ 1000000 then .nx (p.2.set o (some (.lst (ds ++ es)))) else .bad
    | _, _ => .bad
  | .bad => .bad
  | .ex x => .ex x
def sSet (o : Nat) (yi y : YM) : SM := fun e => match y e with
  | .ok p => match yi p.2 with
    | .ok q => match lstAt q.2 o, q.1 with
      | .ok ds, .int i => match ixN ds.length i with
        | some k => .nx (q.2.set o (some (.lst (ds.set k p.1))))
        | none => .bad
      | _, _ => .bad
    | .bad => .bad
    | .ex x => .ex x
  | .bad => .bad
  | .ex x => .ex x
def sDelLast (o : Nat) : SM := fun e => match lstAt e o with
  | .ok ds => .nx (e.set o (some (.lst ds.dropLast)))
  | _ => .bad
variable {K : PySem.W.Frag} {cs : Xcs} {E : XK} {te ta tb tc : TE} {tt tu : TT} {tr : TA} {wi : TI} {a b c : ME} {me : ME} {mt : MT} {ma w : MA} {m : List Da → Rs Da}
variable {B0 H0 B H B2 H2 : Hp} {pm : Pm} {pa : Addr} {ow ow' ow1 ow2 owL : Own} {e e1 e2 : Env} {σ σ2 : L2.St} {Q : VK} {y z : YM} {ya : YAM} {yb yc : YBM} {ts t1 t2 : TS} {ms m1' m2' : SM} {D : Ends}
def FinE (K : PySem.W.Frag) (cs : Xcs) (E : XK) (B0 H0 : Hp) (pm : Pm) (pa : Addr) (owN owL : Own) (B : Hp) (D : Ends) : Rst → Prop
  | .bad => False
  | .nx e => ∀ σ2 B2 H2, Ex B B2 → StE K B0 H0 pm pa owN e σ2 B2 H2 → D.nx σ2 H2
  | .rt d e => ∀ v B2 H2, Ex B B2 → (∀ i, pm = .lst i → ∃ ds xs, e[i]? = some (some (.lst ds)) ∧ B2 pa = none ∧ H2 pa = some (.lst xs) ∧ RpA K B2 ds xs) → Nx B0 H0 B2 H2 → Rp K B2 d v → D.rt v H2
  | .bk e => ∀ σ2 B2 H2, Ex B B2 → StE K B0 H0 pm pa owL e σ2 B2 H2 → D.bk σ2 H2
  | .ct e => ∀ σ2 B2 H2, Ex B B2 → StE K B0 H0 pm pa owL e σ2 B2 H2 → D.ct σ2 H2
  | .ex x => XcE cs x H0 E
def SE (K : PySem.W.Frag) (cs : Xcs) (E : XK) (pm : Pm) (ow owN owL : Own) (ts : TS) (ms : SM) : Prop := ∀ B0 H0 pa e σ B H D, StE K B0 H0 pm pa ow e σ B H → FinE K cs E B0 H0 pm pa owN owL B D (ms e) → ts D σ H
theorem FinE.mono {r : Rst} (q : FinE K cs E B0 H0 pm pa ow owL B D r) (b : Ex B B2) : FinE K cs E B0 H0 pm pa ow owL B2 D r := by
  cases r with
  | bad => exact q
  | ex x => exact q
  | nx e => exact fun σ2 B3 H3 b3 => q σ2 B3 H3 (b.trans b3)
  | bk e => exact fun σ2 B3 H3 b3 => q σ2 B3 H3 (b.trans b3)
  | ct e => exact fun σ2 B3 H3 b3 => q σ2 B3 H3 (b.trans b3)
  | rt d e => exact fun v B3 H3 b3 => q v B3 H3 (b.trans b3)
theorem se_next : SE K cs E pm ow ow owL tNext sNext := fun B0 H0 pa e σ B H D s q => q σ B H (.refl _) s
theorem se_cont : SE K cs E pm ow ow' ow tCont sCont := fun B0 H0 pa e σ B H D s q => q σ B H (.refl _) s
theorem se_seq (h1 : SE K cs E pm ow ow1 owL t1 m1') (h2 : SE K cs E pm ow1 ow2 owL t2 m2') : SE K cs E pm ow ow2 owL (tSeq t1 t2) (sSeq m1' m2') := fun B0 H0 pa e σ B H D s q => by
  refine h1 B0 H0 pa e σ B H _ s ?_
  unfold sSeq at q
  cases hm : m1' e with
  | nx e1 =>
    rw [hm] at q
    exact fun σ2 B2 H2 b2 s2 => h2 B0 H0 pa e1 σ2 B2 H2 D s2 (FinE.mono q b2)
  | bad => rw [hm] at q; exact q
  | rt d e1 => rw [hm] at q; exact q
  | bk e1 => rw [hm] at q; exact q
  | ct e1 => rw [hm] at q; exact q
  | ex x => rw [hm] at q; exact q
theorem se_frz {i o : Nat} {kd : Kd} (hi : ow[i]? = some (o, kd)) (h : SE K cs E pm (ow.eraseIdx i) ow' owL ts ms) (nd : (slots pm ow).Nodup := by decide) (hkd : kd ≠ .t := by decide) : SE K cs E pm ow ow' owL ts ms := fun B0 H0 pa e σ B H D s q => by
  obtain ⟨B2, b2, s2⟩ := s.frz nd hi hkd
  exact h B0 H0 pa e σ B2 H D s2 (q.mono b2)
theorem se_asg {g : TG} {tg : Tg} (hy : YE K cs E pm ow te y) (hg : GT K g tg) (hd : ∀ i ∈ tg.sl, i ∉ slots pm ow := by decide) : SE K cs E pm ow ow owL (tAsg te g) (sAsg tg y) := fun B0 H0 pa e σ B H D s q => by
  refine hy B0 H0 pa e σ B H _ s ?_
  unfold sAsg at q
  cases h1 : y e with
  | bad => rw [h1] at q; exact q
  | ex x => rw [h1] at q; exact q
  | ok p =>
    obtain ⟨d, e1⟩ := p
    rw [h1] at q
    simp only at q
    split at q
    · rename_i e2 hb
      exact fun v B2 H2 b2 s2 r2 => s2.bind hg hb hd r2 fun σ2 s3 => q σ2 B2 H2 b2 s3
    · exact q.elim
theorem se_drop (hy : YE K cs E pm ow te y) : SE K cs E pm ow ow owL (tDrop te) (sDrop y) := fun B0 H0 pa e σ B H D s q => by
  refine hy B0 H0 pa e σ B H _ s ?_
  unfold sDrop at q
  cases h1 : y e with
  | bad => rw [h1] at q; exact q
  | ex x => rw [h1] at q; exact q
  | ok p =>
    rw [h1] at q
    exact fun v B2 H2 b2 s2 r2 => q σ B2 H2 b2 s2
theorem se_ret (hy : YE K cs E pm ow te y) (nd : (slots pm ow).Nodup := by decide) : SE K cs E pm ow ow' owL (tRet te) (sRet y) := fun B0 H0 pa e σ B H D s q => by
  refine hy B0 H0 pa e σ B H _ s ?_
  unfold sRet at q
  cases h1 : y e with
  | bad => rw [h1] at q; exact q
  | ex x => rw [h1] at q; exact q
  | ok p =>
    rw [h1] at q
    exact fun v B2 H2 b2 s2 r2 => q v B2 H2 b2 (fun i hp => by subst hp; exact s2.par nd) s2.n r2
theorem se_if (hb : YB K cs E pm ow tt yb) (h1 : SE K cs E pm ow ow' owL t1 m1') (h2 : SE K cs E pm ow ow' owL t2 m2') : SE K cs E pm ow ow' owL (tIfS tt t1 t2) (sIf yb m1' m2') := fun B0 H0 pa e σ B H D s q => by
  refine hb B0 H0 pa e σ B H _ s ?_
  unfold sIf at q
  cases hy : yb e with
  | bad => rw [hy] at q; exact q
  | ex x => rw [hy] at q; exact q
  | ok p =>
    obtain ⟨k, e1⟩ := p
    rw [hy] at q
    refine fun B2 H2 b2 s2 => ?_
    cases k with
    | true =>
      rw [if_pos rfl]
      exact h1 B0 H0 pa e1 σ B2 H2 D s2 (FinE.mono q b2)
    | false =>
      rw [if_neg Bool.false_ne_true]
      exact h2 B0 H0 pa e1 σ B2 H2 D s2 (FinE.mono q b2)
theorem se_for {g : TG} {tg : Tg} {tu : TS} {body : SM} (hi : YI K cs E pm ow wi ya) (hg : GT K g tg) (hb : SE K cs E pm ow ow ow tu body) (hd : ∀ i ∈ tg.sl, i ∉ slots pm ow := by decide) : SE K cs E pm ow ow owL (tFor wi g tu) (sFor ya tg body) := fun B0 H0 pa e σ B H D s q => by
  refine hi B0 H0 pa e σ B H _ s ?_
  unfold sFor at q
  cases hy : ya e with
  | bad => rw [hy] at q; exact q
  | ex x => rw [hy] at q; exact q
  | ok p =>
    obtain ⟨ds, e1⟩ := p
    rw [hy] at q
    refine fun J B1 H1 b1 s1 wd => ?_
    refine ⟨fun i m σ' H' => ∃ B' e', Ex B1 B' ∧ StE K B0 H0 pm pa ow e' σ' B' H' ∧ i + m = ds.length ∧ FinE K cs E B0 H0 pm pa ow owL B' D (forRun tg body (ds.drop i) e'), ⟨ds.length, B1, e1, .refl _, s1, Nat.zero_add _, FinE.mono q b1⟩, ?_⟩
    rintro i m σ' H' ⟨B', e', b', s', him, q'⟩
    cases hd2 : ds[i]? with
    | none =>
      have hil : ds.length ≤ i := List.getElem?_eq_none_iff.mp hd2
      have hi2 : i = ds.length := by omega
      subst hi2
      rw [List.drop_length] at q'
      exact .inl ⟨wd.stops H' (b'.trans s'.ok), q' σ' B' H' (.refl _) s'⟩
    | some d =>
      obtain ⟨hlt, hde⟩ := List.getElem?_eq_some_iff.mp hd2
      rw [List.drop_eq_getElem_cons hlt, hde] at q'
      refine .inr ⟨wd.goes i H' hlt (b'.trans s'.ok), fun σ3 H3 => ∃ m', m' < m ∧ ∃ B3 e3, Ex B1 B3 ∧ StE K B0 H0 pm pa ow e3 σ3 B3 H3 ∧ (i + 1) + m' = ds.length ∧ FinE K cs E B0 H0 pm pa ow owL B3 D (forRun tg body (ds.drop (i + 1)) e3), fun σ3 H3 h => h, fun x H2 hx => ?_⟩
      obtain ⟨B2, n2, rx⟩ := wd.yld i B' H' x H2 d hd2 b' s'.ok hx
      unfold forRun at q'
      cases hbd : bindT tg d e' with
      | none => rw [hbd] at q'; exact q'.elim
      | some e2 =>
        rw [hbd] at q'
        simp only at q'
        refine (s'.nx n2).bind hg hbd hd rx fun σ2 s2 => hb B0 H0 pa e2 σ2 B2 H2 _ s2 ?_
        cases hbo : body e2 with
        | bad => rw [hbo] at q'; exact q'
        | ex x => rw [hbo] at q'; exact q'
        | rt d e3 => rw [hbo] at q'; exact FinE.mono q' n2.b
        | bk e3 =>
          rw [hbo] at q'
          exact fun σ3 B3 H3 b3 s3 => q' σ3 B3 H3 (n2.b.trans b3) s3
        | nx e3 =>
          rw [hbo] at q'
          exact fun σ3 B3 H3 b3 s3 => ⟨m - 1, by omega, B3, e3, b'.trans (n2.b.trans b3), s3, by omega, FinE.mono q' (n2.b.trans b3)⟩
        | ct e3 =>
          rw [hbo] at q'
          exact fun σ3 B3 H3 b3 s3 => ⟨m - 1, by omega, B3, e3, b'.trans (n2.b.trans b3), s3, by omega, FinE.mono q' (n2.b.trans b3)⟩
theorem se_while {tu : TS} {body : SM} (hc : YB K cs E pm ow tt yb) (hb : SE K cs E pm ow ow ow tu body) : SE K cs E pm ow ow owL (tWhile tt tu) (sWhile yb body) := fun B0 H0 pa e σ B H D s q => by
  refine ⟨fun m σ' H' => ∃ B' e', Ex B B' ∧ StE K B0 H0 pm pa ow e' σ' B' H' ∧ FinE K cs E B0 H0 pm pa ow owL B' D (whRun yb body m e'), ⟨wFuel, B, e, .refl _, s, q⟩, ?_⟩
  rintro m σ' H' ⟨B', e', b', s', q'⟩
  refine hc B0 H0 pa e' σ' B' H' _ s' ?_
  cases m with
  | zero => exact q'.elim
  | succ m =>
    unfold whRun at q'
    cases hy : yb e' with
    | bad => rw [hy] at q'; exact q'
    | ex x => rw [hy] at q'; exact q'
    | ok p =>
      obtain ⟨k, e1⟩ := p
      rw [hy] at q'
      refine fun B1 H1 b1 s1 => ?_
      cases k with
      | false =>
        rw [if_neg Bool.false_ne_true]
        exact q' σ' B1 H1 b1 s1
      | true =>
        rw [if_pos rfl]
        simp only [if_true] at q'
        refine ⟨fun σ3 H3 => ∃ m', m' < m + 1 ∧ ∃ B3 e3, Ex B B3 ∧ StE K B0 H0 pm pa ow e3 σ3 B3 H3 ∧ FinE K cs E B0 H0 pm pa ow owL B3 D (whRun yb body m' e3), fun σ3 H3 h => h, hb B0 H0 pa e1 σ' B1 H1 _ s1 ?_⟩
        cases hbo : body e1 with
        | bad => rw [hbo] at q'; exact q'
        | ex x => rw [hbo] at q'; exact q'
        | rt d e3 => rw [hbo] at q'; exact FinE.mono q' b1
        | bk e3 =>
          rw [hbo] at q'
          exact fun σ3 B3 H3 b3 s3 => q' σ3 B3 H3 (b1.trans b3) s3
        | nx e3 =>
          rw [hbo] at q'
          exact fun σ3 B3 H3 b3 s3 => ⟨m, by omega, B3, e3, b'.trans (b1.trans b3), s3, FinE.mono q' (b1.trans b3)⟩
        | ct e3 =>
          rw [hbo] at q'
          exact fun σ3 B3 H3 b3 s3 => ⟨m, by omega, B3, e3, b'.trans (b1.trans b3), s3, FinE.mono q' (b1.trans b3)⟩
theorem se_app {o : Nat} (hy : YE K cs E pm ow te y) (ho : (o, Kd.l) ∈ ow ∨ pm = .lst o := by decide) (nd : (slots pm ow).Nodup := by decide) : SE K cs E pm ow ow owL (tDrop (tBM K "list" rAppend (tVar o) (tCons te tNil))) (sApp o y) := fun B0 H0 pa e σ B H D s q => by
  obtain ⟨l, ds, xs, _, hσ, h3, _⟩ := s.at nd ho
  refine ⟨.ref l, hσ, .inl ⟨rfl, xs, .inl (.inl h3)⟩, hy B0 H0 pa e σ B H _ s ?_⟩
  unfold sApp at q
  cases h1 : y e with
  | bad => rw [h1] at q; exact q
  | ex x => rw [h1] at q; exact q
  | ok p =>
    obtain ⟨d, e1⟩ := p
    rw [h1] at q
    refine fun v B2 H2 b2 s2 r2 => ?_
    obtain ⟨l2, ds2, xs2, g1, g2, g3, g4, g5, g6, g7, g8, g9⟩ := s2.at nd ho
    have el : l2 = l := by
      rw [hσ] at g2
      cases g2
      rfl
    subst el
    simp only [lstAt_ok g1] at q
    split at q
    · exact ⟨l2, xs2, v, rfl, rfl, g3, size_lt (by rw [g4.length]; assumption), q σ B2 _ b2 (g8 _ _ (g4.append (.one r2)))⟩
    · exact q.elim
theorem se_ext {o : Nat} (hy : YE K cs E pm ow te y) (ho : (o, Kd.l) ∈ ow ∨ pm = .lst o := by decide) (nd : (slots pm ow).Nodup := by decide) : SE K cs E pm ow ow owL (tDrop (tBM K "list" rExtend (tVar o) (tCons te tNil))) (sExt o y) := fun B0 H0 pa e σ B H D s q => by
  obtain ⟨l, ds, xs, _, hσ, h3, _⟩ := s.at nd ho
  refine ⟨.ref l, hσ, .inl ⟨rfl, xs, .inl (.inl h3)⟩, hy B0 H0 pa e σ B H _ s ?_⟩
  unfold sExt at q
  cases h1 : y e with
  | bad => rw [h1] at q; exact q
  | ex x => rw [h1] at q; exact q
  | ok p =>
    obtain ⟨d, e1⟩ := p
    rw [h1] at q
    refine fun v B2 H2 b2 s2 r2 => ?_
    obtain ⟨l2, ds2, xs2, g1, g2, g3, g4, g5, g6, g7, g8, g9⟩ := s2.at nd ho
    have el : l2 = l := by
      rw [hσ] at g2
      cases g2
      rfl
    subst el
    simp only [lstAt_ok g1] at q
    split at q
    · split at q
      · rename_i ds3 es heq hl
        cases heq
        obtain ⟨b, zs, rfl, q1, q2⟩ := r2
        exact ⟨l2, b, xs2, zs, rfl, rfl, g3, s2.ok.g _ _ q1 rfl, size_ok (by rw [g4.length, q2.length]; exact hl), q σ B2 _ b2 (g8 _ _ (g4.append q2))⟩
      · exact q.elim
    · exact q.elim
theorem se_set {o : Nat} {tb : TE} {yi : YM} (hy : YE K cs E pm ow te y) (hi : YE K cs E pm ow tb yi) (ho : (o, Kd.l) ∈ ow ∨ pm = .lst o := by decide) (nd : (slots pm ow).Nodup := by decide) : SE K cs E pm ow ow owL (tAsg te (gSub (tVar o) tb rSetL)) (sSet o yi y) := fun B0 H0 pa e σ B H D s q => by
  refine hy B0 H0 pa e σ B H _ s ?_
  unfold sSet at q
  cases h1 : y e with
  | bad => rw [h1] at q; exact q
  | ex x => rw [h1] at q; exact q
  | ok p =>
    obtain ⟨d, e1⟩ := p
    rw [h1] at q
    refine fun v B1 H1 b1 s1 r1 => ?_
    obtain ⟨l, ds, xs, _, hσ, h3, _⟩ := s1.at nd ho
    refine ⟨.ref l, hσ, hi B0 H0 pa e1 σ B1 H1 _ s1 ?_⟩
    simp only at q
    cases h2 : yi e1 with
    | bad => rw [h2] at q; exact q
    | ex x => rw [h2] at q; exact q
    | ok p2 =>
      obtain ⟨d2, e2⟩ := p2
      rw [h2] at q
      refine fun u B2 H2 b2 s2 r2 => ?_
      obtain ⟨l2, ds2, xs2, g1, g2, g3, g4, g5, g6, g7, g8, g9⟩ := s2.at nd ho
      have el : l2 = l := by
        rw [hσ] at g2
        cases g2
        rfl
      subst el
      simp only [lstAt_ok g1] at q
      split at q
      · rename_i i heq
        cases heq
        split at q
        · rename_i k hk
          obtain rfl : u = .int _ := r2
          exact ⟨l2, xs2, _, k, rfl, rfl, g3, by rw [g4.length]; exact hk, q σ B2 _ (b1.trans b2) (g8 _ _ (RpA.set k g4 (Rp.mono b2 _ _ r1)))⟩
        · exact q.elim
      · exact q.elim
theorem se_delLast {o : Nat} (ho : (o, Kd.l) ∈ ow ∨ pm = .lst o := by decide) (nd : (slots pm ow).Nodup := by decide) : SE K cs E pm ow ow owL (tDelLast (tVar o) (tPart (tUn (rU fun i => .int (-i)) (tC (.int 1))))) (sDelLast o) := fun B0 H0 pa e σ B H D s q => by
  obtain ⟨l2, ds2, xs2, g1, g2, g3, g4, g5, g6, g7, g8, g9⟩ := s.at nd ho
  unfold sDelLast at q
  rw [lstAt_ok g1] at q
  refine ⟨.ref l2, g2, 1, rfl, -1, rfl, rfl, l2, xs2, rfl, g3, q σ B _ (.refl _) (g8 _ _ ?_)⟩
  have e1 : ds2.dropLast = ds2.eraseIdx (ds2.length - 1) := by rw [List.eraseIdx_length_sub_one]
  have e2 : xs2.dropLast = xs2.eraseIdx (xs2.length - 1) := by rw [List.eraseIdx_length_sub_one]
  rw [e1, e2, g4.length]
  exact RpA.eraseIdx _ g4
def FE (K : PySem.W.Frag) (te : TE) (me : ME) : Prop := ∀ e d, me e = .ok d → ∃ ds, d = .lst ds ∧ ∀ σ B H, Sl K B e σ → Ex B H → ∀ Q : VK, (∀ l xs B2 H2, Nx B H B2 H2 → H l = none → B2 l = none → H2 l = some (.lst xs) → RpA K B2 ds xs → Q (.ref l) H2) → te σ H Q
theorem se_new {i : Nat} {l : List Nat} (h : FE K te me) (hl : slots pm ow = l := by rfl) (hi : i ∉ slots pm ow := by decide) : SE K cs E pm ow ((i, Kd.l) :: ow) owL (tAsg te (gName i)) (sNew i l me) := fun B0 H0 pa e σ B H D s q => by
  subst hl
  unfold sNew at q
  cases hm : me (hide (slots pm ow) e) with
  | bad => rw [hm] at q; exact q.elim
  | ex x => rw [hm] at q; exact q.elim
  | ok d =>
    rw [hm] at q
    simp only at q
    split at q
    · obtain ⟨ds, rfl, h2⟩ := h _ d hm
      exact h2 σ B H s.sl s.ok _ fun l xs B2 H2 n h3 h4 h5 h6 => q _ B2 H2 n.b (s.newN n hi ‹_› h3 h4 h5 h6)
    · exact q.elim
theorem fe_at {ds : List Da} {xs : List V} {B1 H1 : Hp} {Q : VK} {p : Addr} (n1 : Nx B H B1 H1) (hp : H1 p = none) (r : RpA K B1 ds xs) (q : ∀ l xs B2 H2, Nx B H B2 H2 → H l = none → B2 l = none → H2 l = some (.lst xs) → RpA K B2 ds xs → Q (.ref l) H2) : Q (.ref p) (upd H1 p (.lst xs)) :=
  q p xs B1 _ (n1.trans (.out n1.ok hp)) (n1.h.s _ hp) (fresh_back n1.ok hp) upd_same r
theorem f_lst {n : Nat} (h : GA K tr ma n) (hn : n ≤ 1000000 := by decide) : FE K (tLst tr) (mLst ma) := fun e d hd => by
  obtain ⟨xs, hx, hd⟩ := bind_ok hd
  cases hd
  obtain ⟨h1, h2⟩ := h e xs hx
  exact ⟨xs, rfl, fun σ B H hs ex Q q => h1 σ B H hs ex _ fun vs B1 H1 n1 r => ⟨size_ok (by rw [r.length]; omega), fun p hp => fe_at n1 hp r q⟩⟩
def fRep (x y : Da) : Rs Da := match x, y with
  | .lst ds, .int k => if ds.length * k.toNat ≤ 1000000 ∧ k ≤ 1000000 ∧ -1000000 ≤ k then .ok (.lst (List.replicate k.toNat ds).flatten) else .bad
  | _, _ => .bad
theorem rep_rp {ds : List Da} {xs : List V} (r : RpA K B ds xs) : ∀ n : Nat, RpA K B (List.replicate n ds).flatten (List.replicate n xs).flatten
  | 0 => rfl
  | n + 1 => by
    rw [List.replicate_succ, List.replicate_succ, List.flatten_cons, List.flatten_cons]
    exact r.append (rep_rp r n)
theorem f_rep (ha : GE K ta a) (hb : GE K tb b) : FE K (tOp rRep ta tb) (m2 fRep a b) := fun e d h => by
  obtain ⟨x, hx, h⟩ := bind_ok h
  obtain ⟨y, hy, h⟩ := bind_ok h
  unfold fRep at h
  split at h
  · split at h
    · cases h
      rename_i ds k hk _
      refine ⟨_, rfl, fun σ B H hs ex Q q => ha e _ hx σ B H hs ex _ fun v B1 H1 n1 r1 => hb e _ hy σ B1 H1 (hs.mono n1.b) n1.ok _ fun u B2 H2 n2 r2 => ?_⟩
      obtain rfl : u = .int k := r2
      obtain ⟨l, xs, rfl, q1, q2⟩ := r1
      have q3 := RpA.mono n2.b _ _ q2
      refine ⟨l, k, xs, rfl, rfl, (n1.b.trans n2.b |> fun _ => n2.ok) _ _ (n2.b.g _ _ q1 rfl), by omega, by omega, size_ok (by rw [q2.length]; exact hk.1), fun p hp => fe_at (n1.trans n2) hp (rep_rp q3 _) q⟩
    · cases h
  · cases h
theorem f_lc {wi : TI} {w : MA} {j : Nat} {tt : TT} {t : MT} {te : TE} {v : ME} {vs : List Nat} (hw : GI K wi w) (ht : GB K tt t) (hv : GE K te v) (hj : j ∈ vs := by decide) : FE K (tLc wi (gName j) tt te vs) (mLc w (.nm j) t v vs) := fun e d h => by
  obtain ⟨ds, h1, h⟩ := bind_ok h
  split at h
  · rename_i hl
    obtain ⟨r, h2, h⟩ := bind_ok h
    cases h
    obtain ⟨g1, g2⟩ := lcRun_ok h2
    refine ⟨r, rfl, fun σ B H hs ex Q q => ?_⟩
    refine lc_own (K := K) (B0 := B) (H0 := H) (Γ := e) (M := []) (P0 := fun ds' M' => ds' = ds ∧ M' = []) (I := fun ds' i acc M' => acc = ((ds.take i).filter (lcF (.nm j) t (wipeG e vs))).map (lcV (.nm j) v (wipeG e vs)) ∧ M' = []) (yi_of (hw e ds h1) ⟨rfl, rfl⟩) (fun ds' M1 ⟨e1, e2⟩ => ⟨by rw [e1]; exact hl, rfl, e2⟩) hj (fun ds i acc M1 ⟨e1, e2⟩ m hm => by rw [e2] at hm; cases hm) (fun ds i acc M1 ⟨e1, e2⟩ => ?_) (fun H0 ds' M0 i d acc M1 ⟨e1, e2⟩ hd ⟨e3, e4⟩ => ?_) ⟨hs, trivial, (fun m hm => nomatch hm), .refl ex⟩ Q (fun ds' M0 acc M1 D B2 H2 ⟨e1, e2⟩ ⟨e3, e4⟩ b2 s2 => ?_)
    · rw [e1, List.length_map]
      exact Nat.le_trans (List.length_filter_le _ _) (by rw [List.length_take]; omega)
    · subst e1
      subst e4
      obtain ⟨e5, b, q1, q2, q3⟩ := g1 d (List.mem_of_getElem? hd)
      cases q1
      have hf : lcF (.nm j) t (wipeG e vs) d = b := by
        show (match t ((wipeG e vs).set j (some d)) with | .ok b => b | _ => false) = b
        rw [q2]
      obtain ⟨hlt, hde⟩ := List.getElem?_eq_some_iff.mp hd
      refine yb_of (ht _ b q2) ?_
      rw [take_snoc hlt, hde, List.filter_append, List.map_append, List.filter_cons, hf]
      cases b with
      | true =>
        rw [if_pos rfl, if_pos rfl]
        obtain ⟨x, hx⟩ := q3 rfl
        have hv2 : lcV (.nm j) v (wipeG e vs) d = x := by
          show (match v ((wipeG e vs).set j (some d)) with | .ok x => x | _ => Da.non) = x
          rw [hx]
        refine y_of (hv _ x hx) ⟨?_, rfl⟩
        rw [e3]
        simp [hv2]
      | false =>
        rw [if_neg Bool.false_ne_true, if_neg Bool.false_ne_true]
        exact ⟨by rw [e3]; simp, rfl⟩
    · subst e1
      subst e4
      obtain ⟨⟨a1, a2, ⟨u, a3, a4⟩, _⟩, _⟩ := s2.h
      obtain ⟨xs, rfl, a4⟩ := a4
      refine q D xs B2 H2 s2.n a1 a2 a3 ?_
      rw [g2]
      rw [List.take_length] at e3
      rw [← e3]
      exact a4
  · cases h
def runD (np nl : Nat) (body : SM) : List Da → Rs Da := fun ds => if ds.length = np then match body (ds.map some ++ List.replicate nl none) with
  | .rt d _ => .ok d
  | .nx _ => .ok .non
  | .ex x => .ex x
  | _ => .bad
  else .bad
def runM (np nl : Nat) (body : SM) : List Da → List Da → Rs (Da × List Da) := fun st ds => if ds.length = np then match body (some (.lst st) :: (ds.map some ++ List.replicate nl none)) with
  | .rt d e => match lstAt e 0 with
    | .ok st2 => .ok (d, st2)
    | _ => .bad
  | _ => .bad
  else .bad
theorem runD_len {np nl : Nat} {body : SM} {ds : List Da} (h : runD np nl body ds ≠ .bad) : ds.length = np := by
  unfold runD at h
  split at h
  · assumption
  · exact absurd rfl h
theorem ResE.nb {r : Rs Da} (h : ResE K cs B H Q E r) : r ≠ .bad := by
  cases r with
  | bad => exact h.elim
  | ok d => exact fun z => nomatch z
  | ex x => exact fun z => nomatch z
theorem fn_mk {P : Program} {w : World} {mg : Str → Option Value} {base : Heap} {x qual : Str} {st : Stmt} {f : Addr} {fd : FuncData} {N ps : List Str} {k np nl : Nat} {body : SM} (F : Fun K x qual st f fd) (S : FnScope N ps (defScope st)) (hp : ps.length = np) (hn : N.length = np + nl)
    (h : ∀ (cdv : Value) (A : Around) (outer : List PySem.Env) (s : Shared) (H : Hp) (E : XK), Room k (A.deeper (envOfC qual (defScope st) s.heap.objs.size f cdv)) → ∃ t, PSs (cxOf (L2.CX P w) P w K mg base N qual (defScope st) f cdv A outer s H E) (defBody st) t ∧ SE K cs E .no [] [] [] t body) :
    FnOk P w K mg base (L2.CX P w) (k + 1) f fd ps (PuX K cs (runD np nl body)) := by
  refine okX F S (fun vs H Q E ⟨B, ds, _, ra, r⟩ => by rw [ra.length, runD_len r.nb, hp]) fun cdv A outer s H vs Q E hr h2 => ?_
  obtain ⟨B, ds, ok, ra, r⟩ := h2
  obtain ⟨t, h3, h4⟩ := h cdv A outer s H E hr
  refine ⟨t, h3, ?_⟩
  have hl := runD_len r.nb
  have hs : Sl K B (ds.map some ++ List.replicate nl none) (L2.start N vs) := by
    have := sl_args (K := K) (B := B) nl ra
    unfold L2.start
    have e1 : N.length - vs.length = nl := by rw [ra.length, hl, hn]; omega
    rw [e1]
    exact this
  refine h4 B H 0 _ (L2.start N vs) B H _ ⟨⟨[], rfl, hs, trivial, (fun m hm => nomatch hm), .refl ok⟩, fun z => nomatch z⟩ ?_
  unfold runD at r
  rw [if_pos hl] at r
  cases hb : body (ds.map some ++ List.replicate nl none) with
  | bad => rw [hb] at r; exact r.elim
  | bk e => rw [hb] at r; exact r.elim
  | ct e => rw [hb] at r; exact r.elim
  | ex x => rw [hb] at r; exact r
  | nx e =>
    rw [hb] at r
    exact fun σ2 B2 H2 b2 s2 => r _ B2 H2 s2.n rfl
  | rt d e =>
    rw [hb] at r
    exact fun v B2 H2 b2 _ n2 r2 => r v B2 H2 n2 r2
theorem fn_mkM {P : Program} {w : World} {mg : Str → Option Value} {base : Heap} {x qual : Str} {st : Stmt} {f : Addr} {fd : FuncData} {N ps : List Str} {k np nl : Nat} {body : SM} (F : Fun K x qual st f fd) (S : FnScope N ps (defScope st)) (hp : ps.length = np + 1) (hn : N.length = np + 1 + nl)
    (h : ∀ (cdv : Value) (A : Around) (outer : List PySem.Env) (s : Shared) (H : Hp) (E : XK), Room k (A.deeper (envOfC qual (defScope st) s.heap.objs.size f cdv)) → ∃ t, PSs (cxOf (L2.CX P w) P w K mg base N qual (defScope st) f cdv A outer s H E) (defBody st) t ∧ SE K cs E (.lst 0) [] [] [] t body) :
    FnOk P w K mg base (L2.CX P w) (k + 1) f fd ps (PuMX K (runM np nl body)) := by
  have hlen : ∀ st0 ds0 d ds1, runM np nl body st0 ds0 = .ok (d, ds1) → ds0.length = np := fun st0 ds0 d ds1 hm => by
    unfold runM at hm
    split at hm
    · assumption
    · cases hm
  refine okX F S (fun vs H Q E ⟨B, l, xs, ds0, ds, ws, d, ds1, e1, _, _, _, _, ra, hm, _⟩ => by rw [e1, List.length_cons, ra.length, hlen _ _ _ _ hm, hp]) fun cdv A outer s H vs Q E hr h2 => ?_
  obtain ⟨B, l, xs, ds0, ds, ws, d, ds1, rfl, ok, hB, hH, ra0, ra, hm, k⟩ := h2
  obtain ⟨t, h3, h4⟩ := h cdv A outer s H E hr
  refine ⟨t, h3, ?_⟩
  have hl := hlen _ _ _ _ hm
  have hs : Sl K B (none :: (ds.map some ++ List.replicate nl none)) (L2.start N (.ref l :: ws)) := by
    have := sl_args (K := K) (B := B) nl ra
    have e1 : N.length - (V.ref l :: ws).length = nl := by rw [List.length_cons, ra.length, hl, hn]; omega
    unfold L2.start
    rw [e1]
    exact ⟨trivial, this⟩
  refine h4 B (delH H l) l (some (.lst ds0) :: (ds.map some ++ List.replicate nl none)) (L2.start N (.ref l :: ws)) B H _ ⟨⟨[(some 0, l, .lst ds0)], ⟨ds0, rfl, rfl⟩, ?_, ⟨⟨delH_same, hB, ⟨_, hH, _, rfl, ra0⟩, fun q hq => nomatch hq⟩, trivial⟩, fun m hm k hk => ?_, nx_del ok hB⟩, fun z => nomatch z⟩ ?_
  · have e1 : hide (slots (.lst 0) []) (some (.lst ds0) :: (ds.map some ++ List.replicate nl none)) = none :: (ds.map some ++ List.replicate nl none) := by
      apply List.ext_getElem?
      intro k
      rw [hide_get]
      cases k with
      | zero => simp [slots, pmS]
      | succ k =>
        have : k + 1 ∉ slots (.lst 0) [] := by simp [slots, pmS]
        rw [if_neg (fun z => this z.2), List.getElem?_cons_succ, List.getElem?_cons_succ]
    rw [e1]
    exact hs
  · obtain rfl := List.mem_singleton.mp hm
    cases (Option.some.inj hk : 0 = k)
    rfl
  · unfold runM at hm
    rw [if_pos hl] at hm
    split at hm
    · rename_i d2 e2 hb
      rw [hb]
      split at hm
      · rename_i st2 hst
        cases hm
        refine fun v B2 H2 b2 hp n2 r2 => ?_
        obtain ⟨ds3, xs3, g1, g2, g3, g4⟩ := hp 0 rfl
        rw [lstAt_ok g1] at hst
        cases hst
        exact k v xs3 B2 H2 n2 g2 g3 g4 r2
      · cases hm
    · cases hm
end Mi
namespace Mi
open PySem PySem.Spec PyProof.Rows L2 Fo HandS.TR
variable [Nm]
structure Ax where
  cs : Xcs
  O : Addr
  L : Addr
  I : Addr
variable {K : PySem.W.Frag} {cs : Xcs} {E : XK} {te ta tb tc : TE} {tt tu : TT} {tr : TA} {wi : TI} {a b c me : ME} {t u : MT} {ma w : MA} {m : List Da → Rs Da}
variable {B0 H0 B H B2 H2 : Hp} {pm : Pm} {pa : Addr} {ow ow' ow1 ow2 owL : Own} {e e1 e2 : Env} {σ σ2 : L2.St} {Q : VK} {y z : YM} {ya : YAM} {yb yc : YBM} {ts t1 t2 : TS} {ms m1' m2' : SM} {D : Ends}
def fEqS (neg : Bool) (x y : Da) : Rs Da := match sca x, sca y with
  | some u, some v => if scal u v then .ok (.bl (if neg then !decide (u = v) else decide (u = v))) else .bad
  | _, _ => .bad
theorem o_eqS : R2m K rEq (fEqS false) := fun x y z h => by
  unfold fEqS at h
  split at h
  · split at h
    · cases h
      rename_i u v h1 h2 h3
      exact fun B H vx vy e rx ry Q k => by
        rw [sca_rp h1 rx, sca_rp h2 ry]
        exact ⟨h3, k.now e rfl⟩
    · cases h
  · cases h
theorem o_neS : R2m K rNe (fEqS true) := fun x y z h => by
  unfold fEqS at h
  split at h
  · split at h
    · cases h
      rename_i u v h1 h2 h3
      exact fun B H vx vy e rx ry Q k => by
        rw [sca_rp h1 rx, sca_rp h2 ry]
        exact ⟨h3, k.now e rfl⟩
    · cases h
  · cases h
def cutL {α : Type} (xs : List α) (lo hi : Option Int) : List α := (xs.drop (HT.sIx xs.length 0 lo)).take (HT.sIx xs.length xs.length hi - HT.sIx xs.length 0 lo)
theorem cut_rp {ds : List Da} {xs : List V} {lo hi : Option Int} (h : RpA K B ds xs) : RpA K B (cutL ds lo hi) (cutV xs lo hi) := by
  unfold cutL cutV
  rw [h.length]
  exact (h.drop _).take _
abbrev MO := Env → Rs (Option Int)
def mNoP : MO := fun _ => .ok none
def mPart (a : ME) : MO := fun e => (a e).bind fun d => match d with
  | .int i => .ok (some i)
  | _ => .bad
def GO (K : PySem.W.Frag) (to : TO) (mo : MO) : Prop := ∀ e o, mo e = .ok o → ∀ σ B H, Sl K B e σ → Ex B H → ∀ Q : Option Int → Hp → Prop, (∀ B2 H2, Nx B H B2 H2 → Q o H2) → to σ H Q
theorem o_noP : GO K tNoPart mNoP := fun e o h σ B H hs ex Q q => by
  cases h
  exact q B H (.refl ex)
theorem o_part (ha : GE K ta a) : GO K (tPart ta) (mPart a) := fun e o h σ B H hs ex Q q => by
  obtain ⟨d, hd, h⟩ := bind_ok h
  split at h
  · cases h
    exact ha e _ hd σ B H hs ex _ fun v B1 H1 n1 r => ⟨_, r, q B1 H1 n1⟩
  · cases h
def mSlL (a : ME) (lo hi : MO) : ME := fun e => (a e).bind fun x => (lo e).bind fun l => (hi e).bind fun h => (lstOf x).bind fun ds => .ok (.lst (cutL ds l h))
def mSlT (a : ME) (lo hi : MO) : ME := fun e => (a e).bind fun x => (lo e).bind fun l => (hi e).bind fun h => (tupOf x).bind fun ds => .ok (.tup (cutL ds l h))
theorem cut_all {α : Type} {xs : List α} {lo hi : Option Int} (h : HT.sIx xs.length 0 lo = 0 ∧ HT.sIx xs.length xs.length hi = xs.length) : cutL xs lo hi = xs := by
  unfold cutL
  rw [h.1, h.2, List.drop_zero, Nat.sub_zero, List.take_length]
theorem e_slT {to1 to2 : TO} {lo hi : MO} (ha : GE K ta a) (hl : GO K to1 lo) (hh : GO K to2 hi) : GE K (tSl (rSlA K) ta to1 to2) (mSlT a lo hi) := fun e d h σ B H hs ex Q k => by
  obtain ⟨x, hx, h⟩ := bind_ok h
  obtain ⟨l, h1, h⟩ := bind_ok h
  obtain ⟨h', h2, h⟩ := bind_ok h
  obtain ⟨ds, h3, h⟩ := bind_ok h
  cases h
  have := tup_ok h3
  subst this
  refine ha e _ hx σ B H hs ex _ fun v B1 H1 n1 r => hl e l h1 σ B1 H1 (hs.mono n1.b) n1.ok _ fun B2 H2 n2 => hh e h' h2 σ B2 H2 (hs.mono (n1.b.trans n2.b)) n2.ok _ fun B3 H3 n3 => ?_
  obtain ⟨q, xs, rfl, q1, q2⟩ := Rp.mono (n2.b.trans n3.b) _ _ r
  have k3 := k.mono ((n1.trans n2).trans n3)
  refine ⟨q, xs, rfl, ex_t n3.ok q1, fun z => ?_, fun _ p hp => k3.tup n3.ok (cut_rp q2) hp⟩
  rw [q2.length] at z
  refine k3.now n3.ok ⟨q, xs, rfl, q1, ?_⟩
  rw [cut_all z]
  exact q2
def fRevT (x : Da) : Rs Da := (tupOf x).bind fun ds => .ok (.tup ds.reverse)
def yRng1 (ya : YAM) : YAM := fun e => (ya e).bind fun p => match p.1 with
  | [.int n] => if -1000000 ≤ n ∧ n ≤ 1000000 then .ok (rng 0 n.toNat, p.2) else .bad
  | _ => .bad
def yRng2 (ya : YAM) : YAM := fun e => (ya e).bind fun p => match p.1 with
  | [.int lo, .int n] => if -1000000 ≤ n ∧ n ≤ 1000000 ∧ -1000000 ≤ lo ∧ lo ≤ 1000000 then .ok (rng lo (n - lo).toNat, p.2) else .bad
  | _ => .bad
def ySeq (y : YM) : YAM := fun e => (y e).bind fun p => (seqOf p.1).bind fun ds => .ok (ds, p.2)
theorem ye_tupOf (hy : YE K cs E pm ow ta y) : YE K cs E pm ow (tThen ta (kTup K)) (y1 fTupOf y) := fun B0 H0 pa e σ B H Q s q => by
  refine hy B0 H0 pa e σ B H _ s ?_
  unfold y1 at q
  cases h1 : y e with
  | bad => rw [h1] at q; exact q.elim
  | ex x => rw [h1] at q; exact q
  | ok p =>
    obtain ⟨d, e1⟩ := p
    rw [h1] at q
    refine fun v B1 H1 b1 s1 r1 => ?_
    simp only [ok_bind] at q
    cases h2 : seqOf d with
    | bad => unfold fTupOf at q; rw [h2] at q; exact q.elim
    | ex x => cases d <;> cases h2
    | ok ds =>
      unfold fTupOf at q
      rw [h2] at q
      have key : tThen (tVar 0) (kTup K) [some v] H1 Q := by
        rcases seq_ok h2 with rfl | rfl
        · exact g_tupL (Γ := [some (.lst ds)]) (g_var rfl) [some v] B1 H1 ⟨⟨v, rfl, r1⟩, trivial⟩ s1.ok Q fun u B2 H2 n w => q u B2 H2 (b1.trans n.b) (s1.nx n) w
        · exact g_tupT (Γ := [some (.tup ds)]) (g_var rfl) [some v] B1 H1 ⟨⟨v, rfl, r1⟩, trivial⟩ s1.ok Q fun u B2 H2 n w => q u B2 H2 (b1.trans n.b) (s1.nx n) w
      obtain ⟨v', hv, h⟩ := key
      cases hv
      exact h
def yMeth (C : Addr) (nm : Str) (m : List Da → Rs Da) (y : YM) (ya : YAM) : YM := fun e => (y e).bind fun p => match p.1 with
  | .ins C' ns fs => if C' = C ∧ nm ∉ ns then (ya p.2).bind fun q => (m (.ins C ns fs :: q.1)).bind fun d => .ok (d, q.2) else .bad
  | _ => .bad
def ins (x : Int) : List Int → List Int
  | [] => [x]
  | y :: l => if x ≤ y then x :: y :: l else y :: ins x l
theorem se_never {tn : TS} : SE K cs E pm ow ow' owL tn (fun _ => .bad) := fun B0 H0 pa e σ B H D s q => q.elim
end Mi
namespace Mi
open PySem PySem.Spec PyProof.Rows L2 Fo
variable [Nm]
abbrev IM := Env → List Str → List Da → Rs (List Str × List Da)
def iFld (f : Str) (y : YM) : IM := fun e ns ds => match y e with
  | .ok p => if f ∉ ns ∧ ns.length < 100 ∧ ns.length = ds.length then .ok (ns ++ [f], ds ++ [p.1]) else .bad
  | .bad => .bad
  | .ex x => .ex x
def iFldS (f : Str) (y : YM) (r : IM) : IM := fun e ns ds => match y e with
  | .ok p => if f ∉ ns ∧ ns.length < 100 ∧ ns.length = ds.length then r e (ns ++ [f]) (ds ++ [p.1]) else .bad
  | .bad => .bad
  | .ex x => .ex x
def iSeq (s : SM) (r : IM) : IM := fun e ns ds => match s e with
  | .nx e1 => r e1 ns ds
  | .ex x => .ex x
  | _ => .bad
def runI (C : Addr) (np nl : Nat) (im : IM) : List Da → Rs Da := fun ds => if ds.length = np then match im (none :: (ds.map some ++ List.replicate nl none)) [] [] with
  | .ok p => .ok (.ins C p.1 p.2)
  | .ex x => .ex x
  | .bad => .bad
  else .bad
variable {K : PySem.W.Frag} {cs : Xcs} {E : XK} {C : Addr} {te : TE} {y : YM} {ts t1 t2 : TS} {s1 : SM} {r : IM} {f : Str}
structure StI (K : PySem.W.Frag) (B0 H0 : Hp) (C x dx : Addr) (ns : List Str) (ds : List Da) (e : Env) (σ : L2.St) (B H : Hp) : Prop where
  s : Sl K B e σ
  x0 : σ[0]? = some (some (.ref x))
  e0 : e[0]? = some none
  ok : Ex B H
  b : Ex B0 B
  bx : B x = none
  h : Ex (delH H0 x) H
  nw : ∀ a, B0 a = none → NC H0 a → B a = none
  hx : ∃ ys, H x = some (.ins C dx (ns.zip ys)) ∧ RpA K B ds ys ∧ ns.length = ds.length
theorem hide0 {e : Env} (h : e[0]? = some none) : hide (slots .slf []) e = e := by
  apply List.ext_getElem?
  intro k
  rw [hide_get]
  by_cases hk : 0 = k
  · subst hk
    rw [if_pos ⟨(List.getElem?_eq_some_iff.mp h).1, by simp [slots, pmS]⟩, h]
  · have : k ∉ slots .slf [] := by
      simp [slots, pmS]
      omega
    rw [if_neg (fun z => this z.2)]
theorem StI.st {B0 H0 : Hp} {x dx : Addr} {ns : List Str} {ds : List Da} {e : Env} {σ : L2.St} {B H : Hp} (s : StI K B0 H0 C x dx ns ds e σ B H) : StE K B H .slf x [] e σ B H :=
  ⟨⟨[], rfl, by rw [hide0 s.e0]; exact s.s, trivial, (fun m hm => nomatch hm), .refl s.ok⟩, fun _ => ⟨s.x0, s.e0⟩⟩
def FinI2 (K : PySem.W.Frag) (cs : Xcs) (E : XK) (C x dx : Addr) (B0 H0 B : Hp) (D : Ends) : Rs (List Str × List Da) → Prop
  | .bad => False
  | .ex b => XcE cs b (delH H0 x) E
  | .ok p => ∀ σ2 B2 H2 ys, Ex B B2 → Ex B2 H2 → B2 x = none → Ex (delH H0 x) H2 → (∀ a, B0 a = none → NC H0 a → B2 a = none) → H2 x = some (.ins C dx (p.1.zip ys)) → RpA K B2 p.2 ys → D.nx σ2 H2
theorem FinI2.mono {x dx : Addr} {B0 H0 B B2 : Hp} {D : Ends} {p : Rs (List Str × List Da)} (q : FinI2 K cs E C x dx B0 H0 B D p) (b : Ex B B2) : FinI2 K cs E C x dx B0 H0 B2 D p := by
  cases p with
  | bad => exact q
  | ex b => exact q
  | ok p => exact fun σ2 B3 H2 ys b3 => q σ2 B3 H2 ys (b.trans b3)
end Mi
namespace Mi
open PySem PySem.Spec PyProof.Rows L2 Fo
variable [Nm]
variable {K : PySem.W.Frag} {cs : Xcs} {E : XK} {te ta tb tc tx ty : TE} {tt tu : TT} {tr : TA} {wi : TI} {a b c me : ME} {t u : MT} {ma w : MA} {m : List Da → Rs Da}
variable {B0 H0 B H B2 H2 : Hp} {pm : Pm} {pa : Addr} {ow ow' ow1 ow2 owL : Own} {e e1 e2 : Env} {σ σ2 : L2.St} {Q : VK} {y z : YM} {ya : YAM} {yb yc : YBM} {ts t1 t2 : TS} {ms m1' m2' : SM} {D : Ends} {M : Mu}
def rowAt (ds : List Da) (x : Int) : Rs (List Da) := if 0 ≤ x then match ds[x.toNat]? with
    | some (.lst row) => .ok row
    | _ => .bad
  else .bad
def sSet2 (o : Nat) (yx yy y : YM) : SM := fun e => match y e with
  | .ok p => match yx p.2 with
    | .ok px => match lstAt px.2 o, px.1 with
      | .ok ds, .int x => match rowAt ds x with
        | .ok row => match yy px.2 with
          | .ok py => match py.1 with
            | .int z => match ixN row.length z with
              | some k => .nx (py.2.set o (some (.lst (ds.set x.toNat (.lst (row.set k p.1))))))
              | none => .bad
            | _ => .bad
          | _ => .bad
        | _ => .bad
      | _, _ => .bad
    | _ => .bad
  | .bad => .bad
  | .ex x => .ex x
def setAt (o : Nat) (y : YM) (d : Da) (e : Env) : Rs Env := match y e with
  | .ok p => match p.1, lstAt e o with
    | .int i, .ok ds => match ixN ds.length i with
      | some k => .ok (e.set o (some (.lst (ds.set k d))))
      | none => .bad
    | _, _ => .bad
  | _ => .bad
def sSwap (o : Nat) (yi yj y : YM) : SM := fun e => match y e with
  | .ok p => match p.1 with
    | .tup [d1, d2] => match setAt o yi d1 p.2 with
      | .ok e1 => match setAt o yj d2 e1 with
        | .ok e2 => .nx e2
        | _ => .bad
      | _ => .bad
    | _ => .bad
  | .bad => .bad
  | .ex x => .ex x
end Mi
namespace Mi
open PySem PySem.Spec PyProof.Rows L2 Fo
variable [Nm]
def spLaw (K : PySem.W.Frag) : Sp := fun vs H Q _ => ∃ (a : Addr) (ns : List Int), vs = [.ref a] ∧ SqL K H a (ns.map V.int) ∧ ∀ H', Q (.bl true) H'
def spNums (K : PySem.W.Frag) : Sp := fun vs H Q _ => ∃ (a : Addr) (ns : List Int), vs = [.ref a] ∧ SqL K H a (ns.map V.int) ∧ ∀ p H2 (ms : List Nat), H p = none → Ex H H2 → H2 p = some (.lst (ms.map fun m : Nat => V.int (m : Int))) → ms.length ≤ 4000 → Q (.ref p) H2
variable {P : Program} {w : World} {K : PySem.W.Frag} {mg : Str → Option Value} {base : Heap} {cs : Xcs}
theorem sl_nones {B : Hp} : ∀ (n : Nat) (σ : L2.St), σ.length = n → Sl K B (List.replicate n none) σ
  | 0, [], _ => trivial
  | 0, _ :: _, h => by cases h
  | n + 1, [], h => by cases h
  | n + 1, s :: σ, h => ⟨trivial, sl_nones n σ (by simpa using h)⟩
theorem law_go {t2 : TS} {body : SM} {ow' : Own} {E : XK} {H H2 : Hp} {a p : Addr} {N : List Str} {nl : Nat} {ds : List Da} {xs : List V} {D : Ends} (hN : N.length = 2 + nl) (hS : SE K cs E .no [(1, Kd.l)] ow' [] t2 body) (hp : H p = none) (ex : Ex H H2) (hH : H2 p = some (.lst xs)) (rr : RpA K H ds xs)
    (hm : ∃ e, body (none :: some (.lst ds) :: List.replicate nl none) = .rt (.bl true) e) (k : ∀ H', D.rt (.bl true) H') : t2 D ((L2.start N [V.ref a]).set 1 (some (.ref p))) H2 := by
  obtain ⟨e, hm⟩ := hm
  have eσ : (L2.start N [V.ref a]).set 1 (some (.ref p)) = some (.ref a) :: some (.ref p) :: List.replicate nl none := by
    unfold L2.start
    have : N.length - [V.ref a].length = nl + 1 := by rw [hN]; simp; omega
    rw [this]
    rfl
  rw [eσ]
  refine hS H H 0 (none :: some (.lst ds) :: List.replicate nl none) _ H H2 D ⟨⟨[(some 1, p, .lst ds)], ⟨p, ds, [], rfl, rfl, rfl⟩, ?_, ⟨⟨hp, hp, ⟨_, hH, xs, rfl, rr⟩, fun q hq => nomatch hq⟩, trivial⟩, fun m hm k hk => ?_, .grow (.refl _) ex⟩, fun z => nomatch z⟩ ?_
  · have e1 : hide (slots .no [(1, Kd.l)]) (none :: some (Da.lst ds) :: List.replicate nl none) = List.replicate (nl + 2) none := by
      apply List.ext_getElem?
      intro k
      rw [hide_get]
      match k with
      | 0 => rfl
      | 1 => simp [slots, pmS, List.replicate_succ]
      | k + 2 =>
        have : k + 2 ∉ slots .no [(1, Kd.l)] := by simp [slots, pmS]
        rw [if_neg (fun z => this z.2), List.getElem?_cons_succ, List.getElem?_cons_succ, List.replicate_succ, List.replicate_succ, List.getElem?_cons_succ, List.getElem?_cons_succ]
    rw [e1]
    exact sl_nones _ _ (by simp)
  · obtain rfl := List.mem_singleton.mp hm
    cases (Option.some.inj hk : 1 = k)
    rfl
  · rw [hm]
    exact fun v B3 H3 _ _ _ r => by
      obtain rfl : v = .bl true := r
      exact k H3
theorem law_mkN {x qual : Str} {st : Stmt} {f : Addr} {fd : FuncData} {N : List Str} {k nl : Nat} {body : SM} {ow' : Own} (F : Fun K x qual st f fd) (S : FnScope N ["script"] (defScope st)) (hN : N.length = 2 + nl)
    (h : ∀ (cdv : Value) (A : Around) (outer : List PySem.Env) (s : Shared) (H : Hp) (E : XK), Room k (A.deeper (envOfC qual (defScope st) s.heap.objs.size f cdv)) → ∃ t2, PSs (cxOf CX0 P w K mg base N qual (defScope st) f cdv A outer s H E).nox (defBody st) (tSeq (tAsg (tCall (spNums K) [] E0 (tCons (tVar 0) tNil)) (gName 1)) t2) ∧ SE K cs E .no [(1, Kd.l)] ow' [] t2 body)
    (hm : ∀ ms : List Nat, ms.length ≤ 4000 → ∃ e, body (none :: some (.lst (ms.map fun m : Nat => Da.int (m : Int))) :: List.replicate nl none) = .rt (.bl true) e) : FnOk P w K mg base CX0 (k + 1) f fd ["script"] (spLaw K) := by
  refine F.ok S (fun vs H Q E ⟨a, ns, e1, _⟩ => by rw [e1]; rfl) fun cdv A outer s H vs Q E hr h2 => ?_
  obtain ⟨a, ns, rfl, hS, k⟩ := h2
  obtain ⟨t2, h3, h4⟩ := h cdv A outer s H E hr
  refine ⟨_, h3, ?_⟩
  refine ⟨.ref a, rfl, ?_⟩
  refine ⟨a, ns, rfl, hS, fun p H2 ms hp ex hH hl => ?_⟩
  have := RpA.ints (K := K) (B := H) (ms.map fun m : Nat => (m : Int))
  rw [List.map_map, List.map_map] at this
  exact law_go (t2 := t2) (D := { nx := fun _ H' => Q .non H', rt := Q }) hN h4 hp ex hH this (hm ms hl) k
end Mi
namespace Mi
open PySem PySem.Spec PyProof.Rows L2 Fo HandS.TR FZ
variable [Nm]
variable {K : PySem.W.Frag} {cs : Xcs} {E : XK} {te ta tb tc : TE} {tt tu : TT} {tr : TA} {wi : TI} {a b c me : ME} {t u : MT} {ma w : MA} {m : List Da → Rs Da}
variable {B0 H0 B H B2 H2 : Hp} {pm : Pm} {pa : Addr} {ow ow' ow1 ow2 owL : Own} {e e1 e2 : Env} {σ σ2 : L2.St} {Q : VK} {y z : YM} {ya : YAM} {yb yc : YBM} {ts t1 t2 : TS} {ms m1' m2' : SM} {D : Ends}
def prD : List Da → List Da → List Da
  | x :: xs, y :: ys => .tup [x, y] :: prD xs ys
  | _, _ => []
theorem zip_nx {q : Addr} (hBH : Ex B H) (hq : H q = none) : ∀ (ps : List (V × V)) (d1 d2 : List Da) (acc : List V) (dacc : List Da) (B1 H1 : Hp), Nx B H B1 H1 → B1 q = none → H1 q = some (.lst acc) → RpA K B1 dacc acc → RpA K B1 d1 (ps.map (·.1)) → RpA K B1 d2 (ps.map (·.2)) → ∀ Qf : Hp → Prop,
    (∀ xs B2 H2, Nx B H B2 H2 → B2 q = none → H2 q = some (.lst xs) → RpA K B2 (dacc ++ prD d1 d2) xs → Qf H2) → zipQ q ps acc H1 Qf
  | [], d1, d2, acc, dacc, B1, H1, n, hB, hH, ra, r1, r2, Qf, k => by
    have e1 : d1 = [] := by
      have := r1.length
      cases d1 with
      | nil => rfl
      | cons => cases this
    subst e1
    exact k acc B1 H1 n hB hH (by rw [show prD [] d2 = [] from by cases d2 <;> rfl, List.append_nil]; exact ra)
  | p :: ps, d1, d2, acc, dacc, B1, H1, n, hB, hH, ra, r1, r2, Qf, k => by
    cases d1 with
    | nil =>
      have := r1.length
      cases this
    | cons x d1 =>
      cases d2 with
      | nil =>
        have := r2.length
        cases this
      | cons y d2 =>
        obtain ⟨v1, w1, e1, rx, r1⟩ := r1
        obtain ⟨v2, w2, e2, ry, r2⟩ := r2
        rw [List.map_cons] at e1 e2
        cases e1
        cases e2
        intro T hT
        have hTq : T ≠ q := fun z => by rw [z, hH] at hT; cases hT
        have n1 := n.trans (Nx.new (o := .tup [p.1, p.2]) n.ok hT)
        have hB1 : upd B1 T (.tup [p.1, p.2]) q = none := by rw [upd_ne (Ne.symm hTq)]; exact hB
        have hH1 : upd H1 T (.tup [p.1, p.2]) q = some (.lst acc) := by rw [upd_ne (Ne.symm hTq)]; exact hH
        have up : Ex B1 (upd B1 T (.tup [p.1, p.2])) := .new (fresh_back n.ok hT)
        have n2 := n1.mut (o := .lst (acc ++ [.ref T])) hq hB1 (ml_of hH1)
        have rT : Rp K (upd B1 T (.tup [p.1, p.2])) (.tup [x, y]) (.ref T) := ⟨T, [p.1, p.2], rfl, upd_same, p.1, [p.2], rfl, Rp.mono up _ _ rx, p.2, [], rfl, Rp.mono up _ _ ry, rfl⟩
        refine zip_nx hBH hq ps d1 d2 (acc ++ [.ref T]) (dacc ++ [.tup [x, y]]) _ _ n2 hB1 upd_same (RpA.append (RpA.mono up _ _ ra) ⟨.ref T, [], rfl, rT, rfl⟩) (RpA.mono up _ _ r1) (RpA.mono up _ _ r2) Qf fun xs B2 H2 n3 h1 h2 h3 => k xs B2 H2 n3 h1 h2 ?_
        rw [List.append_assoc] at h3
        exact h3
def yZip (o1 o2 : Nat) : YM := fun e => (lstAt e o1).bind fun xs => (lstAt e o2).bind fun ys => if xs.length = ys.length ∧ xs.length ≤ 1000000 then .ok (.lst (prD xs ys), e) else .bad
theorem ye_zip {o1 o2 : Nat} (ho1 : (o1, Kd.l) ∈ ow ∨ pm = .lst o1 := by decide) (ho2 : (o2, Kd.l) ∈ ow ∨ pm = .lst o2 := by decide) (nd : (slots pm ow).Nodup := by decide) : YE K cs E pm ow (tListZip (tCons (tVar o1) (tCons (tVar o2) tNil))) (yZip o1 o2) := fun B0 H0 pa e σ B H Q s q => by
  obtain ⟨l1, ds1, xs1, g1, g2, g3, g4, g5, g6, g7, _, _⟩ := s.at nd ho1
  obtain ⟨l2, ds2, xs2, k1, k2, k3, k4, k5, k6, k7, _, _⟩ := s.at nd ho2
  unfold yZip at q
  rw [lstAt_ok g1, lstAt_ok k1] at q
  simp only [ok_bind] at q
  split at q
  · rename_i hc
    have hl1 := g4.length
    have hl2 := k4.length
    refine ⟨.ref l1, g2, .ref l2, k2, l1, l2, xs1, xs2, rfl, g3, k3, by omega, by rw [sizeLine_eq]; omega, fun p hp => ?_⟩
    refine zip_nx s.ok hp (xs1.zip xs2) ds1 ds2 [] [] B (upd H p (.lst [])) (Nx.out s.ok hp) (fresh_back s.ok hp) upd_same rfl (by rw [List.map_fst_zip (by omega)]; exact g4) (by rw [List.map_snd_zip (by omega)]; exact k4) _ fun xs B2 H2 n hB hH ra => ?_
    exact q _ _ _ (n.frz hp hB hH).b (s.nx (n.frz hp hB hH)) ⟨p, xs, rfl, upd_same, RpA.mono (.new hB) _ _ ra⟩
  · exact q.elim
def PuBX (K : PySem.W.Frag) (i : Nat) (m : List Da → List Da → Rs (Da × List Da)) : Sp := fun vs H Q _ => ∃ B l xs ds0 du dw us ws d ds1, vs = us ++ .ref l :: ws ∧ us.length = i ∧ Ex B H ∧ B l = none ∧ H l = some (.lst xs) ∧ RpA K B ds0 xs ∧ RpA K B du us ∧ RpA K B dw ws ∧ m ds0 (du ++ dw) = .ok (d, ds1) ∧
  ∀ v xs1 B2 H2, Nx B (delH H l) B2 H2 → B2 l = none → H2 l = some (.lst xs1) → RpA K B2 ds1 xs1 → Rp K B2 d v → Q v H2
def runB (i np nl : Nat) (body : SM) : List Da → List Da → Rs (Da × List Da) := fun st ds => if ds.length = np ∧ i ≤ np then match body ((ds.take i).map some ++ some (.lst st) :: ((ds.drop i).map some ++ List.replicate nl none)) with
  | .rt d e => match lstAt e i with
    | .ok st2 => .ok (d, st2)
    | _ => .bad
  | _ => .bad
  else .bad
theorem sl_ins {nl : Nat} {l : Addr} : ∀ {du dw : List Da} {us ws : List V}, RpA K B du us → RpA K B dw ws → Sl K B (du.map some ++ none :: (dw.map some ++ List.replicate nl none)) ((us ++ .ref l :: ws).map some ++ List.replicate nl none)
  | [], dw, us, ws, r1, r2 => by
    obtain rfl : us = [] := r1
    exact ⟨trivial, sl_args nl r2⟩
  | d :: du, dw, us, ws, r1, r2 => by
    obtain ⟨x, r, rfl, h1, h2⟩ := r1
    exact ⟨⟨x, rfl, h1⟩, sl_ins h2 r2⟩
theorem fn_mkB {P : Program} {w : World} {mg : Str → Option Value} {base : Heap} {x qual : Str} {st : Stmt} {f : Addr} {fd : FuncData} {N ps : List Str} {k i np nl : Nat} {body : SM} (F : Fun K x qual st f fd) (S : FnScope N ps (defScope st)) (hp : ps.length = np + 1) (hn : N.length = np + 1 + nl)
    (h : ∀ (cdv : Value) (A : Around) (outer : List PySem.Env) (s : Shared) (H : Hp) (E : XK), Room k (A.deeper (envOfC qual (defScope st) s.heap.objs.size f cdv)) → ∃ t, PSs (cxOf (L2.CX P w) P w K mg base N qual (defScope st) f cdv A outer s H E) (defBody st) t ∧ SE K cs E (.lst i) [] [] [] t body) :
    FnOk P w K mg base (L2.CX P w) (k + 1) f fd ps (PuBX K i (runB i np nl body)) := by
  have hlen : ∀ st0 ds0 d ds1, runB i np nl body st0 ds0 = .ok (d, ds1) → ds0.length = np ∧ i ≤ np := fun st0 ds0 d ds1 hm => by
    unfold runB at hm
    split at hm
    · assumption
    · cases hm
  refine okX F S (fun vs H Q E ⟨B, l, xs, ds0, du, dw, us, ws, d, ds1, e1, _, _, _, _, _, ra, rb, hm, _⟩ => by
    have := (hlen _ _ _ _ hm).1
    rw [List.length_append] at this
    rw [e1, List.length_append, List.length_cons, ra.length, rb.length, hp]
    omega) fun cdv A outer s H vs Q E hr h2 => ?_
  obtain ⟨B, l, xs, ds0, du, dw, us, ws, d, ds1, rfl, hi, ok, hB, hH, ra0, ra, rb, hm, k⟩ := h2
  obtain ⟨t, h3, h4⟩ := h cdv A outer s H E hr
  refine ⟨t, h3, ?_⟩
  obtain ⟨hl, hl2⟩ := hlen _ _ _ _ hm
  have hdu : du.length = i := by rw [← ra.length, hi]
  have hdw : du.length + dw.length = np := by rw [← List.length_append]; exact hl
  have hs : Sl K B (du.map some ++ none :: (dw.map some ++ List.replicate nl none)) (L2.start N (us ++ .ref l :: ws)) := by
    have e1 : N.length - (us ++ V.ref l :: ws).length = nl := by rw [List.length_append, List.length_cons, ra.length, rb.length, hn]; omega
    unfold L2.start
    rw [e1]
    exact sl_ins ra rb
  have hli : (du.map some : List (Option Da)).length = i := by rw [List.length_map, hdu]
  have ei : (du.map some ++ some (Da.lst ds0) :: (dw.map some ++ List.replicate nl none))[i]? = some (some (.lst ds0)) := by
    rw [List.getElem?_append_right (by omega), hli, Nat.sub_self]
    rfl
  have hσ : (L2.start N (us ++ .ref l :: ws))[i]? = some (some (.ref l)) := by
    unfold L2.start
    rw [List.getElem?_append_left (by rw [List.length_map, List.length_append, List.length_cons]; omega), List.getElem?_map, List.getElem?_append_right (by omega), hi, Nat.sub_self]
    rfl
  refine h4 B (delH H l) l (du.map some ++ some (.lst ds0) :: (dw.map some ++ List.replicate nl none)) (L2.start N (us ++ .ref l :: ws)) B H _ ⟨⟨[(some i, l, .lst ds0)], ⟨ds0, ei, rfl⟩, ?_, ⟨⟨delH_same, hB, ⟨_, hH, xs, rfl, ra0⟩, fun q hq => nomatch hq⟩, trivial⟩, fun m hm k hk => ?_, nx_del ok hB⟩, fun z => nomatch z⟩ ?_
  · have e1 : hide (slots (.lst i) []) (du.map some ++ some (Da.lst ds0) :: (dw.map some ++ List.replicate nl none)) = du.map some ++ none :: (dw.map some ++ List.replicate nl none) := by
      apply List.ext_getElem?
      intro k
      rw [hide_get]
      by_cases hk : k = i
      · subst hk
        rw [if_pos ⟨by rw [List.length_append, List.length_cons]; omega, by simp [slots, pmS]⟩, List.getElem?_append_right (by omega), hli, Nat.sub_self]
        rfl
      · have : k ∉ slots (.lst i) [] := by simp [slots, pmS]; exact hk
        rw [if_neg (fun z => this z.2)]
        by_cases hk2 : k < i
        · rw [List.getElem?_append_left (by omega), List.getElem?_append_left (by omega)]
        · rw [List.getElem?_append_right (by omega), List.getElem?_append_right (by omega), hli]
          obtain ⟨j, hj⟩ : ∃ j, k - i = j + 1 := ⟨k - i - 1, by omega⟩
          rw [hj, List.getElem?_cons_succ, List.getElem?_cons_succ]
    rw [e1]
    exact hs
  · obtain rfl := List.mem_singleton.mp hm
    cases (Option.some.inj hk : i = k)
    exact hσ
  · unfold runB at hm
    rw [if_pos ⟨hl, hl2⟩, List.take_left' hdu, List.drop_left' hdu] at hm
    split at hm
    · rename_i d2 e2 hb
      rw [hb]
      split at hm
      · rename_i st2 hst
        cases hm
        refine fun v B2 H2 b2 hp n2 r2 => ?_
        obtain ⟨ds3, xs3, g1, g2, g3, g4⟩ := hp i rfl
        rw [lstAt_ok g1] at hst
        cases hst
        exact k v xs3 B2 H2 n2 g2 g3 g4 r2
      · cases hm
    · cases hm
def yB (o : Nat) (m : List Da → List Da → Rs (Da × List Da)) (y : YM) (ya : YAM) : YM := fun e => (y e).bind fun r => (ya r.2).bind fun p => (lstAt p.2 o).bind fun st => match m st (r.1 :: p.1) with
  | .ok q => .ok (q.1, p.2.set o (some (.lst q.2)))
  | _ => .bad
theorem ye_B {mm : List Da → List Da → Rs (Da × List Da)} {o : Nat} (hy : YE K cs E pm ow ta y) (h : YA K cs E pm ow tr ya) (ho : (o, Kd.l) ∈ ow ∨ pm = .lst o := by decide) (nd : (slots pm ow).Nodup := by decide) : YE K cs E pm ow (tCall (PuBX K 1 mm) [] E (tCons ta (tCons (tVar o) tr))) (yB o mm y ya) := fun B0 H0 pa e σ B H Q s q => by
  refine hy B0 H0 pa e σ B H _ s ?_
  unfold yB at q
  cases h0 : y e with
  | bad => rw [h0] at q; exact q.elim
  | ex x => rw [h0] at q; exact q
  | ok r =>
  obtain ⟨d0, e0⟩ := r
  rw [h0] at q
  refine fun v0 B1 H1 b0 s0 r0 => ?_
  obtain ⟨l, ds, xs, _, hσ, _⟩ := s0.at nd ho
  refine ⟨.ref l, hσ, h B0 H0 pa e0 σ B1 H1 _ s0 ?_⟩
  simp only [ok_bind] at q
  cases h1 : ya e0 with
  | bad => rw [h1] at q; exact q.elim
  | ex x => rw [h1] at q; exact q
  | ok p =>
    obtain ⟨es, e1⟩ := p
    rw [h1] at q
    refine fun vs B2 H2 b1 s1 r1 => ?_
    obtain ⟨l2, ds2, xs2, g1, g2, g3, g4, g5, g6, g7, g8, g9⟩ := s1.at nd ho
    have el : l2 = l := by
      rw [hσ] at g2
      cases g2
      rfl
    subst el
    simp only [ok_bind, lstAt_ok g1] at q
    rw [List.append_nil]
    cases hm : mm ds2 (d0 :: es) with
    | bad => rw [hm] at q; exact q.elim
    | ex x => rw [hm] at q; exact q.elim
    | ok p2 =>
      obtain ⟨d, st⟩ := p2
      rw [hm] at q
      exact ⟨B2, l2, xs2, ds2, [d0], es, [v0], vs, d, st, rfl, rfl, s1.ok, g6, g3, g4, ⟨v0, [], rfl, Rp.mono b1 _ _ r0, rfl⟩, r1, hm, fun v xs1 B3 H3 n hB hH ra rv => q v B3 H3 ((b0.trans b1).trans n.b) (g9 B3 H3 st xs1 n hB hH ra) rv⟩
end Mi
namespace Mi
open PySem PySem.Spec PyProof.Rows L2 Fo HandS.TR FZ
variable [Nm]
variable {K : PySem.W.Frag} {B : Hp}
end Mi
namespace Mi
open PySem PySem.Spec PyProof.Rows L2 Fo HandS.TR FZ
variable [Nm]
variable {K : PySem.W.Frag} {Γ : List (Option Da)} {ta : TE} {ds : List Da} {a : ME}
theorem i_enumAL (h : EvG K Γ ta (.lst ds)) : EvI K Γ (iEnumA K (tCons ta tNil)) (ds.mapIdx fun i d => .tup [.int (i : Int), d]) := fun σ B H hs e R k =>
  h σ B H hs e _ fun x B1 H1 n1 rx => by
    obtain ⟨a, xs, rfl, h1, h2⟩ := rx
    refine ⟨a, xs, rfl, .inl ⟨sq1 n1.ok h1, k _ B1 H1 n1 ⟨fun i H hi e2 => ?_, fun H e2 => ⟨xs, sq1 e2 h1, by rw [h2.length, List.length_mapIdx]; exact Nat.le_refl _⟩, fun i B2 H x H2 d hd e2 e3 y => ?_⟩⟩⟩
    · have hi2 : i < xs.length := by rw [h2.length]; rwa [List.length_mapIdx] at hi
      exact ⟨xs, xs[i], sq1 e2 h1, by simp [hi2]⟩
    · obtain ⟨T, z, rfl, hT, rfl, y⟩ := y
      rw [List.getElem?_mapIdx] at hd
      obtain ⟨d1, hd1, rfl⟩ := Option.map_eq_some_iff.mp hd
      obtain ⟨z2, h3, h4⟩ := h2.get hd1
      have hx := y xs (sq1 (e2.trans e3) h1)
      rw [h3] at hx
      cases hx
      have n2 : Nx B2 H (upd B2 T (.tup [.int (i : Nat), z])) (upd H T (.tup [.int (i : Nat), z])) := .new e3 hT
      exact ⟨_, n2, T, _, rfl, upd_same, _, _, rfl, rfl, _, _, rfl, Rp.mono n2.b _ _ (Rp.mono e2 _ _ h4), rfl⟩
theorem i_enumAT (h : EvG K Γ ta (.tup ds)) : EvI K Γ (iEnumA K (tCons ta tNil)) (ds.mapIdx fun i d => .tup [.int (i : Int), d]) := fun σ B H hs e R k =>
  h σ B H hs e _ fun x B1 H1 n1 rx => by
    obtain ⟨a, xs, rfl, h1, h2⟩ := rx
    refine ⟨a, xs, rfl, .inr ⟨ex_t n1.ok h1, k _ B1 H1 n1 ⟨fun i H hi e2 => ?_, fun H e2 => ⟨xs, ex_t e2 h1, by rw [h2.length, List.length_mapIdx]; exact Nat.le_refl _⟩, fun i B2 H x H2 d hd e2 e3 y => ?_⟩⟩⟩
    · have hi2 : i < xs.length := by rw [h2.length]; rwa [List.length_mapIdx] at hi
      exact ⟨xs, xs[i], ex_t e2 h1, by simp [hi2]⟩
    · obtain ⟨T, z, rfl, hT, rfl, y⟩ := y
      rw [List.getElem?_mapIdx] at hd
      obtain ⟨d1, hd1, rfl⟩ := Option.map_eq_some_iff.mp hd
      obtain ⟨z2, h3, h4⟩ := h2.get hd1
      have hx := y xs (ex_t (e2.trans e3) h1)
      rw [h3] at hx
      cases hx
      have n2 : Nx B2 H (upd B2 T (.tup [.int (i : Nat), z])) (upd H T (.tup [.int (i : Nat), z])) := .new e3 hT
      exact ⟨_, n2, T, _, rfl, upd_same, _, _, rfl, rfl, _, _, rfl, Rp.mono n2.b _ _ (Rp.mono e2 _ _ h4), rfl⟩
def mEnumA (a : ME) : MA := fun e => (a e).bind fun x => (seqOf x).bind fun ds => .ok (ds.mapIdx fun i d => .tup [.int (i : Int), d])
theorem w_enumA (ha : GE K ta a) : GI K (iEnumA K (tCons ta tNil)) (mEnumA a) := fun e ds hd => by
  obtain ⟨x, hx, hd⟩ := bind_ok hd
  obtain ⟨y, hy, hd⟩ := bind_ok hd
  cases hd
  rcases seq_ok hy with h | h
  · subst h
    exact i_enumAL (ha e _ hx)
  · subst h
    exact i_enumAT (ha e _ hx)
end Mi
namespace Mi
open PySem PySem.Spec PyProof.Rows L2 Fo HandS.TR FZ
variable [Nm]
def bring : List Nat → Env → Env → Env
  | [], e, _ => e
  | o :: l, e, e2 => bring l (match e2[o]? with
    | some x => e.set o x
    | none => e) e2
theorem bring_nil (e e2 : Env) : bring [] e e2 = e := rfl
theorem bring_cons (o : Nat) (l : List Nat) (e e2 : Env) : bring (o :: l) e e2 = bring l (match e2[o]? with
    | some x => e.set o x
    | none => e) e2 := rfl
theorem bring_len : ∀ (l : List Nat) (e e2 : Env), (bring l e e2).length = e.length
  | [], e, e2 => rfl
  | o :: l, e, e2 => by
    rw [bring_cons, bring_len]
    split
    · rw [List.length_set]
    · rfl
theorem bring_in {e2 : Env} : ∀ (l : List Nat) (e : Env) (k : Nat), e.length = e2.length → k ∈ l → (bring l e e2)[k]? = e2[k]?
  | [], e, k, _, h => nomatch h
  | o :: l, e, k, hl, h => by
    rw [bring_cons]
    have hl2 : (match e2[o]? with
      | some x => e.set o x
      | none => e).length = e2.length := by
      split
      · rw [List.length_set, hl]
      · exact hl
    by_cases hk : k ∈ l
    · exact bring_in l _ k hl2 hk
    · have hko : k = o := by
        rcases List.mem_cons.mp h with z | z
        · exact z
        · exact absurd z hk
      subst hko
      have key : ∀ (l : List Nat) (e : Env), k ∉ l → (bring l e e2)[k]? = e[k]? := by
        intro l
        induction l with
        | nil => intro e _; rfl
        | cons o l ih =>
          intro e hn
          rw [bring_cons, ih _ fun z => hn (List.mem_cons_of_mem _ z)]
          split
          · exact List.getElem?_set_ne fun z => hn (by rw [← z]; exact List.mem_cons_self)
          · rfl
      rw [key l _ hk]
      cases h2 : e2[k]? with
      | some x =>
        have : k < e.length := by
          rw [hl]
          exact (List.getElem?_eq_some_iff.mp h2).1
        simp [this]
      | none =>
        have := List.getElem?_eq_none_iff.mp h2
        simp only
        exact List.getElem?_eq_none (by omega)
theorem hide_bring {l : List Nat} {e2 : Env} : ∀ (m : List Nat) (e : Env), (∀ o ∈ m, o ∈ l) → hide l (bring m e e2) = hide l e
  | [], e, _ => rfl
  | o :: m, e, h => by
    rw [bring_cons, hide_bring m _ fun k hk => h k (List.mem_cons_of_mem _ hk)]
    split
    · exact hide_own (h o List.mem_cons_self)
    · rfl
theorem hide_wipe {l : List Nat} {e : Env} : ∀ vs : List Nat, (∀ k ∈ vs, k ∉ l) → hide l (wipeG e vs) = wipeG (hide l e) vs
  | [], _ => rfl
  | v :: vs, h => by
    show hide l ((wipeG e vs).set v none) = (wipeG (hide l e) vs).set v none
    rw [hide_set (h v List.mem_cons_self), hide_wipe vs fun k hk => h k (List.mem_cons_of_mem _ hk)]
theorem wipeG_get {e : Env} {k : Nat} : ∀ vs : List Nat, k ∉ vs → (wipeG e vs)[k]? = e[k]?
  | [], _ => rfl
  | v :: vs, h => by
    show ((wipeG e vs).set v none)[k]? = _
    rw [List.getElem?_set_ne fun z => h (by rw [← z]; exact List.mem_cons_self), wipeG_get vs fun z => h (List.mem_cons_of_mem _ z)]
theorem wipeG_len {e : Env} : ∀ vs : List Nat, (wipeG e vs).length = e.length
  | [] => rfl
  | v :: vs => by
    show ((wipeG e vs).set v none).length = _
    rw [List.length_set, wipeG_len vs]
def ylcRun (l : List Nat) (j : Nat) (tb : YBM) (y : YM) (vs : List Nat) : List Da → Env → Rs (List Da × Env)
  | [], e => .ok ([], e)
  | d :: ds, e => match tb ((wipeG e vs).set j (some d)) with
    | .ok p => if p.1 then match y (bring l ((wipeG e vs).set j (some d)) p.2) with
        | .ok q => (ylcRun l j tb y vs ds (bring l e q.2)).bind fun r => .ok (q.1 :: r.1, r.2)
        | _ => .bad
      else ylcRun l j tb y vs ds (bring l e p.2)
    | _ => .bad
def yLc (l : List Nat) (ya : YAM) (j : Nat) (tb : YBM) (y : YM) (vs : List Nat) : YM := fun e => (ya e).bind fun p => if p.1.length ≤ 500000 then (ylcRun l j tb y vs p.1 (bring l e p.2)).bind fun r => .ok (.lst r.1, r.2) else .bad
def ybYes : YBM := fun e => .ok (true, e)
variable {K : PySem.W.Frag} {cs : Xcs} {E E' : XK} {te ta tb' : TE} {tt : TT} {wi : TI} {y : YM} {ya : YAM} {tb : YBM}
variable {B0 H0 B H B2 H2 : Hp} {pm : Pm} {pa : Addr} {ow ow' owL : Own} {e e1 e2 ef : Env} {σ σ2 : L2.St} {Q : VK} {j : Nat} {vs l : List Nat} {ds r : List Da}
theorem yb_yes : YB K cs E pm ow tYes ybYes := fun B0 H0 pa e σ B H Q s q => q B H (.refl _) s
theorem Muf.bring {M : Mu} (h : Muf pm pa e2 ow M) (hl : e.length = e2.length) : Muf pm pa (bring (slots pm ow) e e2) ow M := h.congr fun k hk => bring_in _ e k hl hk
theorem lcY_go (hi : YI K cs E pm ow wi ya) (hb : YB K cs E' pm ow tt tb) (hy : YE K cs E' pm ow te y) (hl : slots pm ow = l) (hj : j ∈ vs) (hd : ∀ k ∈ vs, k ∉ slots pm ow) (hp : pm ≠ .slf) (s : StE K B0 H0 pm pa ow e σ B H)
    (h1 : ya e = .ok (ds, e1)) (h2 : ds.length ≤ 500000) (h3 : ylcRun l j tb y vs ds (bring l e e1) = .ok (r, ef))
    (k : ∀ D M1 B2 H2, Ex B B2 → Muf pm pa ef ow M1 → hide l ef = hide l e → ef.length = e.length → Stt K B0 H0 (hide l e) ((none, D, .lst r) :: M1) σ B2 H2 → Q (.ref D) H2) : tLc wi (gName j) tt te vs σ H Q := by
  subst hl
  have hslf : ∀ {σ : L2.St} {e : Env}, pm = .slf → σ[0]? = some (some (.ref pa)) ∧ e[0]? = some none := fun z => absurd z hp
  obtain ⟨⟨M, hM, st⟩, _⟩ := s
  refine lc_own (K := K) (B0 := B0) (H0 := H0) (Γ := hide (slots pm ow) e) (M := M) (P0 := fun ds' M' => ds' = ds ∧ Muf pm pa (bring (slots pm ow) e e1) ow M')
    (I := fun ds' i acc M' => ds' = ds ∧ acc.length ≤ i ∧ ∃ e' r', Muf pm pa e' ow M' ∧ hide (slots pm ow) e' = hide (slots pm ow) e ∧ e'.length = e.length ∧ ylcRun (slots pm ow) j tb y vs (ds.drop i) e' = .ok (r', ef) ∧ acc ++ r' = r)
    (fun σ' B' H' st' R q => ?_) (fun ds' M1 ⟨z, m1⟩ => ?_) hj (fun ds' i acc M1 ⟨_, _, e', r', m1, _⟩ m hm k' hk' hmk => hd k' hk' (m1.slot m hm k' hmk)) (fun ds' i acc M1 h => h.2.1) (fun H0' ds' M0 i d acc M1 ⟨z, _⟩ hdi ⟨_, hz, e', r', m1, hh, hlen, hrun, hacc⟩ => ?_) st Q (fun ds' M0 acc M1 D B2 H2 ⟨z, _⟩ ⟨_, hz, e', r', m1, hh, hlen, hrun, hacc⟩ b2 s2 => ?_)
  · have s' : StE K B0 H0 pm pa ow e σ' B' H' := ⟨⟨M, hM, st'⟩, hslf⟩
    refine hi B0 H0 pa e σ' B' H' R s' ?_
    rw [h1]
    intro J B2 H2 b2 s2 w
    have hlen : e.length = e1.length := by rw [← s'.len, ← s2.len]
    obtain ⟨⟨M2, m1, m2⟩, _⟩ := s2
    exact q ds M2 J B2 H2 ⟨rfl, m1.bring hlen⟩ b2 ⟨st'.s.mono b2, m2.h, m2.l, m2.n⟩ w
  · subst z
    exact ⟨h2, rfl, Nat.zero_le _, _, r, m1, hide_bring _ _ fun _ h => h, bring_len _ _ _, by rw [List.drop_zero]; exact h3, rfl⟩
  · subst z
    obtain ⟨hlt, hde⟩ := List.getElem?_eq_some_iff.mp hdi
    rw [List.drop_eq_getElem_cons hlt, hde] at hrun
    have hE1 : hide (slots pm ow) ((wipeG e' vs).set j (some d)) = (wipeG (hide (slots pm ow) e) vs).set j (some d) := by
      rw [hide_set (hd j hj), hide_wipe vs hd, hh]
    have hM1 : Muf pm pa ((wipeG e' vs).set j (some d)) ow M1 := m1.congr fun k' hk' => by
      have hkv : k' ∉ vs := fun z => hd k' z hk'
      rw [List.getElem?_set_ne (fun z => hkv (by rw [← z]; exact hj)), wipeG_get vs hkv]
    unfold ylcRun at hrun
    generalize hEE : (wipeG e' vs).set j (some d) = E1 at *
    have hElen : E1.length = e'.length := by rw [← hEE, List.length_set, wipeG_len]
    intro σ' B' H' st' Qb qb
    have s' : StE K B0 H0' pm pa ow E1 σ' B' H' := ⟨⟨M1, hM1, by rw [hE1]; exact st'⟩, hslf⟩
    refine hb B0 H0' pa E1 σ' B' H' Qb s' ?_
    cases htb : tb E1 with
    | bad => rw [htb] at hrun; cases hrun
    | ex x => rw [htb] at hrun; cases hrun
    | ok p =>
      obtain ⟨b, E2⟩ := p
      rw [htb] at hrun
      simp only at hrun
      intro B2 H2 b2 s2
      have hl2 : E1.length = E2.length := by rw [← s'.len, ← s2.len]
      obtain ⟨⟨M2, m3, m4⟩, _⟩ := s2
      refine qb b M2 B2 H2 ?_ b2 ⟨st'.s.mono b2, m4.h, m4.l, m4.n⟩
      cases b with
      | false =>
        rw [if_neg Bool.false_ne_true]
        rw [if_neg Bool.false_ne_true] at hrun
        exact ⟨rfl, by omega, _, r', m3.bring (by omega), by rw [hide_bring _ _ fun _ h => h, hh], by rw [bring_len, hlen], hrun, hacc⟩
      | true =>
        rw [if_pos rfl]
        rw [if_pos rfl] at hrun
        intro σ3 B3 H3 st3 Q3 q3
        have s3 : StE K B0 H0' pm pa ow (bring (slots pm ow) E1 E2) σ3 B3 H3 := ⟨⟨M2, m3.bring hl2, by rw [hide_bring _ _ fun _ h => h, hE1]; exact st3⟩, hslf⟩
        refine hy B0 H0' pa _ σ3 B3 H3 Q3 s3 ?_
        cases hyy : y (bring (slots pm ow) E1 E2) with
        | bad => rw [hyy] at hrun; cases hrun
        | ex x => rw [hyy] at hrun; cases hrun
        | ok q =>
          obtain ⟨x, E3⟩ := q
          rw [hyy] at hrun
          simp only at hrun
          obtain ⟨rr, hrr, hrun⟩ := bind_ok hrun
          obtain ⟨r2, ef2⟩ := rr
          cases hrun
          intro v B4 H4 b4 s4 r4
          have hl4 : e'.length = E3.length := by
            have := s4.len
            have := s3.len
            rw [bring_len] at this
            omega
          obtain ⟨⟨M4, m5, m6⟩, _⟩ := s4
          exact q3 x M4 v B4 H4 ⟨rfl, by rw [List.length_append]; simp; omega, _, r2, m5.bring hl4, by rw [hide_bring _ _ fun _ h => h, hh], by rw [bring_len, hlen], hrr, by rw [List.append_assoc]; exact hacc⟩ b4 ⟨st3.s.mono b4, m6.h, m6.l, m6.n⟩ r4
  · subst z
    rw [List.drop_length] at hrun
    cases hrun
    rw [List.append_nil] at hacc
    subst hacc
    exact k D M1 B2 H2 b2 m1 hh hlen s2
theorem ye_lc (hi : YI K cs E pm ow wi ya) (hb : YB K cs E' pm ow tt tb) (hy : YE K cs E' pm ow te y) (hl : slots pm ow = l := by rfl) (hj : j ∈ vs := by decide) (hd : ∀ k ∈ vs, k ∉ slots pm ow := by decide) (hp : pm ≠ .slf := by decide) : YE K cs E pm ow (tLc wi (gName j) tt te vs) (yLc l ya j tb y vs) := fun B0 H0 pa e σ B H Q s q => by
  unfold yLc at q
  cases h1 : ya e with
  | bad => rw [h1] at q; exact q.elim
  | ex x =>
    rw [h1] at q
    refine hi B0 H0 pa e σ B H _ s ?_
    rw [h1]
    exact q
  | ok p =>
    obtain ⟨ds, e1⟩ := p
    rw [h1] at q
    simp only [ok_bind] at q
    split at q
    · cases h3 : ylcRun l j tb y vs ds (bring l e e1) with
      | bad => rw [h3] at q; exact q.elim
      | ex x => rw [h3] at q; exact (by
          have : ∀ (ds : List Da) (e : Env), ylcRun l j tb y vs ds e ≠ .ex x := by
            intro ds
            induction ds with
            | nil => intro e h; cases h
            | cons d ds ih =>
              intro e h
              unfold ylcRun at h
              split at h
              · split at h
                · split at h
                  · rename_i q' _
                    cases hr : ylcRun l j tb y vs ds (bring l e q'.2) with
                    | bad => rw [hr] at h; cases h
                    | ok _ => rw [hr] at h; cases h
                    | ex z =>
                      rw [hr] at h
                      cases h
                      exact ih _ hr
                  · cases h
                · exact ih _ h
              · cases h
          exact absurd h3 (this ds _))
      | ok rr =>
        obtain ⟨r, ef⟩ := rr
        rw [h3] at q
        refine lcY_go hi hb hy hl hj hd hp s h1 ‹_› h3 fun D M1 B2 H2 b2 m1 hh hlen s2 => ?_
        obtain ⟨u, hu, hH, hB, s3⟩ := s2.frz (j := 0) rfl
        refine q (.ref D) _ H2 (b2.trans (.new hB)) ⟨⟨M1, m1, ?_⟩, fun z => absurd z hp⟩ ((hu.mono (.new hB)).rp upd_same)
        rw [hl, hh]
        exact s3
    · exact q.elim
def sNewY (i : Nat) (y : YM) : SM := fun e => if i < e.length then match y e with
  | .ok p => .nx (p.2.set i (some p.1))
  | .bad => .bad
  | .ex x => .ex x
  else .bad
end Mi
namespace Mi
open PySem PySem.Spec PyProof.Rows L2 Fo
variable [Nm]
-- _law_take: 0:state 1:m 2:value
def m_is_integer (a : Ax) : List Da → Rs Da := runD 1 0
    (sRet (yH [] (mAnd (m1 (fIsi "int") (mVar 0)) (mNot (m1 (fIsi "bool") (mVar 0))))))
-- check_size: 0:n
def m_has (a : Ax) : List Da → Rs Da := runD 2 0
    (sRet (yH [] (m2 (fEqS false) (m2 (fII Builtin.bitAnd) (m2 (fIC cShr fun i j => i / 2 ^ j.toNat) (mVar 0) (mVar 1)) (mC (.int 1))) (mC (.int 1)))))
-- closed: 0:n 1:pairs 2:above 3:x 4:y 5:middle
def m_set_of (a : Ax) : List Da → Rs Da := runD 1 2
    (sSeq (sAsg (.nm 1) (yH [] (mC (.int 0))))
    (sSeq (sFor (yaH [] (Mi.mSeq (mVar 0))) (.nm 2) (sAsg (.nm 1) (yH [] (m2 (fII Builtin.bitOr) (mVar 1) (m2 (fIC cShl fun i j => i * 2 ^ j.toNat) (mC (.int 1)) (mVar 2))))))
    (sRet (yH [] (mVar 1)))))
-- turned_sets: 0:above 1:points 2:x 3:y
def m_lowest (a : Ax) : List Da → Rs Da := runD 1 0
    (sSeq (sIf (ybH [] (mT (m2 (fEqS false) (mVar 0) (mC (.int 0))))) (fun _ => Rst.bad) sNext)
    (sRet (yH [] (m2 (fII fun i j => i - j) (m1 fBits (m2 (fII Builtin.bitAnd) (mVar 0) (m1 (fU fun i => -i) (mVar 0)))) (mC (.int 1))))))
-- members: 0:bits 1:points
def m_members (a : Ax) : List Da → Rs Da := runD 1 1
    (sSeq (sNew 1 [] (mLst mNil))
    (sSeq (sWhile (ybH [1] (mT (m2 (fIB fun i j => decide (j < i)) (mVar 0) (mC (.int 0))))) (sSeq (sApp 1 (yH [1] (mN (m_lowest a) (mCons (mVar 0) mNil))))
    (sAsg (.nm 0) (yH [1] (m2 (fII Builtin.bitAnd) (mVar 0) (m2 (fII fun i j => i - j) (mVar 0) (mC (.int 1))))))))
    (sRet (yH [] (m1 fTupOf (mVar 1))))))
-- levels: 0:order 1:below 2:rest 3:found 4:level 5:x
end Mi
namespace Mi
open PySem PySem.Spec PyProof.Rows L2 Fo
variable [Nm]
-- partners: 0:size 1:holders 2:found 3:y 4:x
def m_partners (a : Ax) : List Da → Rs Da := runD 2 3
    (sSeq (sNew 2 [] (m2 fRep (mLst (mCons (m1 (fU fun i => -i) (mC (.int 1))) mNil)) (mVar 0)))
    (sSeq (sFor (yaH [2] (mEnumA (mVar 1))) (.tp [.nm 3, .nm 4]) (sIf (ybH [2] (mT (m2 (fEqS true) (mVar 4) (m1 (fU fun i => -i) (mC (.int 1)))))) (sSet 2 (yH [2] (mVar 4)) (yH [2] (mVar 3))) sNext))
    (sRet (yH [] (m1 fTupOf (mVar 2))))))
-- augmenting_way: 0:joined 1:holders 2:start 3:lefts 4:rights 5:seen 6:fresh 7:y
def m_augmenting_way (a : Ax) : List Da → List Da → Rs (Da × List Da) := runB 1 2 5
    (sSeq (sNew 3 [1] (mLst (mCons (mVar 2) mNil)))
    (sSeq (sNew 4 [1, 3] (mLst mNil))
    (sSeq (sAsg (.nm 5) (yH [1, 4, 3] (mC (.int 0))))
    (sSeq (sWhile (ybP (mT (m2 (fIB fun i j => decide (j < i)) (mN fLen (mCons (mVar 3) mNil)) (mC (.int 0))))) (sSeq (sAsg (.nm 6) (yP (m2 (fII Builtin.bitAnd) (m2 fIx (mVar 0) (m2 fIx (mVar 3) (m1 (fU fun i => -i) (mC (.int 1))))) (m1 (fU Builtin.bitNot) (mVar 5)))))
    (sSeq (sIf (ybH [1, 4, 3] (mT (m2 (fEqS false) (mVar 6) (mC (.int 0))))) (sSeq (sDrop (yPop 3))
    (sSeq (sDelLast 4)
    sCont)) sNext)
    (sSeq (sAsg (.nm 7) (yH [1, 4, 3] (mN (m_lowest a) (mCons (mVar 6) mNil))))
    (sSeq (sAsg (.nm 5) (yH [1, 4, 3] (m2 (fII Builtin.bitOr) (mVar 5) (m2 (fIC cShl fun i j => i * 2 ^ j.toNat) (mC (.int 1)) (mVar 7)))))
    (sSeq (sApp 4 (yH [1, 4, 3] (mVar 7)))
    (sSeq (sIf (ybP (mT (m2 (fEqS false) (m2 fIx (mVar 1) (mVar 7)) (m1 (fU fun i => -i) (mC (.int 1)))))) (sRet (yZip 3 4)) sNext)
    (sApp 3 (yP (m2 fIx (mVar 1) (mVar 7)))))))))))
    (sRet (yH [1] (mLst mNil)))))))
-- largest_matching: 0:joined 1:right 2:holders 3:x 4:way 5:left 6:y
def m_largest_matching (a : Ax) : List Da → Rs Da := runD 2 5
    (sSeq (sNew 2 [] (m2 fRep (mLst (mCons (m1 (fU fun i => -i) (mC (.int 1))) mNil)) (mVar 1)))
    (sSeq (sFor (yaH [2] (mRng1 (mCons (mN fLen (mCons (mVar 0) mNil)) mNil))) (.nm 3) (sSeq (sAsg (.nm 4) (yB 2 (m_augmenting_way a) (yH [2] (mVar 0)) (yCons (yH [2] (mVar 3)) yNil)))
    (sFor (yaH [2] (Mi.mSeq (mVar 4))) (.tp [.nm 5, .nm 6]) (sSet 2 (yH [2] (mVar 6)) (yH [2] (mVar 5))))))
    (sRet (yH [] (mN (m_partners a) (mCons (mN fLen (mCons (mVar 0) mNil)) (mCons (mVar 2) mNil)))))))
-- least_cover: 0:joined 1:right 2:matching 3:holders 4:waiting 5:x 6:left_reached 7:right_reached 8:fresh 9:found 10:y 11:outside
def m_least_cover (a : Ax) : List Da → Rs Da := runD 3 9
    (sSeq (sAsg (.nm 3) (yH [] (mN (m_partners a) (mCons (mVar 1) (mCons (mVar 2) mNil)))))
    (sSeq (sNew 4 [] (mLc (mRng1 (mCons (mN fLen (mCons (mVar 0) mNil)) mNil)) (.nm 5) (mT (m2 (fEqS false) (m2 fIx (mVar 2) (mVar 5)) (m1 (fU fun i => -i) (mC (.int 1))))) (mVar 5) [5]))
    (sSeq (sAsg (.nm 6) (yP (mN (m_set_of a) (mCons (mVar 4) mNil))))
    (sSeq (sAsg (.nm 7) (yH [4] (mC (.int 0))))
    (sSeq (sWhile (ybP (mT (m2 (fIB fun i j => decide (j < i)) (mN fLen (mCons (mVar 4) mNil)) (mC (.int 0))))) (sSeq (sAsg (.nm 8) (y2 (fII Builtin.bitAnd) (y2 fIx (yH [4] (mVar 0)) (yPop 4)) (yH [4] (m1 (fU Builtin.bitNot) (mVar 7)))))
    (sSeq (sAsg (.nm 7) (yH [4] (m2 (fII Builtin.bitOr) (mVar 7) (mVar 8))))
    (sSeq (sAsg (.nm 9) (yH [4] (mLc (Mi.mSeq (mN (m_members a) (mCons (mVar 8) mNil))) (.nm 10) (mT (m2 (fEqS true) (m2 fIx (mVar 3) (mVar 10)) (m1 (fU fun i => -i) (mC (.int 1))))) (m2 fIx (mVar 3) (mVar 10)) [10])))
    (sSeq (sAsg (.nm 6) (yH [4] (m2 (fII Builtin.bitOr) (mVar 6) (mN (m_set_of a) (mCons (mVar 9) mNil)))))
    (sExt 4 (yH [4] (mVar 9))))))))
    (sSeq (sAsg (.nm 11) (yH [] (mLc (mRng1 (mCons (mN fLen (mCons (mVar 0) mNil)) mNil)) (.nm 5) (mTNot (mT (mN (m_has a) (mCons (mVar 6) (mCons (mVar 5) mNil))))) (mVar 5) [5])))
    (sRet (yH [] (mTup (mCons (mN (m_set_of a) (mCons (mVar 11) mNil)) (mCons (mVar 7) mNil)))))))))))
-- largest_antichain: 0:order 1:matching 2:left 3:right
end Mi
namespace Mi
open PySem PySem.Spec PyProof.Rows L2 Fo
variable [Nm]
-- _law_next: 0:numbers 1:many
def m_law_next (a : Ax) : List Da → List Da → Rs (Da × List Da) := runM 1 0
    (sSeq (sIf (ybP (mT (m2 (fEqS false) (mN fLen (mCons (mVar 0) mNil)) (mC (.int 0))))) (sRet (yH [0] (mC (.int 0)))) sNext)
    (sRet (y2 (fIC cMod fun i j => i % j) (yPopAt 0 (yH [0] (mC (.int 0)))) (yH [0] (mVar 1)))))
-- _law_order: 0:numbers 1:most 2:n 3:images 4:rest 5:k 6:turn 7:thick 8:pairs 9:i 10:j
end Mi
namespace Mi
open PySem PySem.Spec PyProof.Rows L2 Fo
variable [Nm]
-- count: 0:bits
def m_count (a : Ax) : List Da → Rs Da := runD 1 0
    (sRet (yH [] (mN fLen (mCons (mN (m_members a) (mCons (mVar 0) mNil)) mNil))))
-- is_matching: 0:joined 1:matching 2:y 3:matched 4:x
def m_is_matching (a : Ax) : List Da → Rs Da := runD 2 3
    (sSeq (sIf (ybH [] (mTOr (mTNot (mT (m1 (fIsi "tuple") (mVar 1)))) (mT (m2 (fEqS true) (mN fLen (mCons (mVar 1) mNil)) (mN fLen (mCons (mVar 0) mNil)))))) (sRet (yH [] (mC (.bl false)))) sNext)
    (sSeq (sIf (ybH [] (mTNot (mT (mN fAll (mCons (mLc (Mi.mSeq (mVar 1)) (.nm 2) mYes (mAnd (mN (m_is_integer a) (mCons (mVar 2) mNil)) (m2 (fIB fun i j => decide (j ≤ i)) (mVar 2) (m1 (fU fun i => -i) (mC (.int 1))))) [2]) mNil))))) (sRet (yH [] (mC (.bl false)))) sNext)
    (sSeq (sAsg (.nm 3) (yH [] (mLc (mEnumA (mVar 1)) (.tp [.nm 4, .nm 2]) (mT (m2 (fEqS true) (mVar 2) (m1 (fU fun i => -i) (mC (.int 1))))) (mTup (mCons (mVar 4) (mCons (mVar 2) mNil))) [4, 2])))
    (sSeq (sIf (ybH [] (mTNot (mT (mN fAll (mCons (mLc (Mi.mSeq (mVar 3)) (.tp [.nm 4, .nm 2]) mYes (mN (m_has a) (mCons (m2 fIx (mVar 0) (mVar 4)) (mCons (mVar 2) mNil))) [4, 2]) mNil))))) (sRet (yH [] (mC (.bl false)))) sNext)
    (sRet (yH [] (m2 (fEqS false) (mN (m_count a) (mCons (mN (m_set_of a) (mCons (mLc (Mi.mSeq (mVar 3)) (.tp [.nm 4, .nm 2]) mYes (mVar 2) [4, 2]) mNil)) mNil)) (mN fLen (mCons (mVar 3) mNil)))))))))
-- is_set: 0:value 1:n
def m_is_set (a : Ax) : List Da → Rs Da := runD 2 0
    (sRet (yH [] (mAnd (mN (m_is_integer a) (mCons (mVar 0) mNil)) (mAnd (m2 (fIB fun i j => decide (j ≤ i)) (mVar 0) (mC (.int 0))) (m2 (fIB fun i j => decide (i ≤ j)) (m1 fBits (mVar 0)) (mVar 1))))))
-- is_part: 0:one 1:two
def m_is_part (a : Ax) : List Da → Rs Da := runD 2 0
    (sRet (yH [] (m2 (fEqS false) (m2 (fII Builtin.bitAnd) (mVar 0) (mVar 1)) (mVar 0))))
-- is_cover: 0:joined 1:cover 2:left 3:right 4:x
def m_is_cover (a : Ax) : List Da → Rs Da := runD 2 3
    (sSeq (sIf (ybH [] (mTOr (mTNot (mT (m1 (fIsi "tuple") (mVar 1)))) (mT (m2 (fEqS true) (mN fLen (mCons (mVar 1) mNil)) (mC (.int 2)))))) (sRet (yH [] (mC (.bl false)))) sNext)
    (sSeq (sAsg (.tp [.nm 2, .nm 3]) (yH [] (mVar 1)))
    (sSeq (sIf (ybH [] (mTOr (mTNot (mT (mN (m_is_set a) (mCons (mVar 2) (mCons (mN fLen (mCons (mVar 0) mNil)) mNil))))) (mTOr (mTNot (mT (mN (m_is_integer a) (mCons (mVar 3) mNil)))) (mT (m2 (fIB fun i j => decide (i < j)) (mVar 3) (mC (.int 0))))))) (sRet (yH [] (mC (.bl false)))) sNext)
    (sRet (yH [] (mN fAll (mCons (mLc (mRng1 (mCons (mN fLen (mCons (mVar 0) mNil)) mNil)) (.nm 4) mYes (mOr (mN (m_has a) (mCons (mVar 2) (mCons (mVar 4) mNil))) (mN (m_is_part a) (mCons (m2 fIx (mVar 0) (mVar 4)) (mCons (mVar 3) mNil)))) [4]) mNil)))))))
-- _law_bit: 0:bits 1:y
def m_law_bit (a : Ax) : List Da → Rs Da := runD 2 0
    (sRet (yH [] (m2 (fEqS false) (m2 (fIC cMod fun i j => i % j) (m2 (fIC cDiv fun i j => i / j) (mVar 0) (m2 fIx (mLst (mCons (mC (.int 1)) (mCons (mC (.int 2)) (mCons (mC (.int 4)) (mCons (mC (.int 8)) (mCons (mC (.int 16)) (mCons (mC (.int 32)) mNil))))))) (mVar 1))) (mC (.int 2))) (mC (.int 1)))))
-- law: 0:script 1:numbers 2:left 3:right 4:most 5:joined 6:turn 7:matching 8:cover 9:used 10:x 11:y 12:size
def b_k11 (a : Ax) : SM :=
    (sSeq (sAsg (.nm 2) (yM 1 (m_law_next a) (yCons (yH [1] (mC (.int 6))) yNil)))
    (sSeq (sAsg (.nm 3) (yM 1 (m_law_next a) (yCons (yH [1] (mC (.int 6))) yNil)))
    (sSeq (sAsg (.nm 4) (yH [1] (m2 fIx (mLst (mCons (mC (.int 1)) (mCons (mC (.int 2)) (mCons (mC (.int 4)) (mCons (mC (.int 8)) (mCons (mC (.int 16)) (mCons (mC (.int 32)) mNil))))))) (mVar 3))))
    (sSeq (sAsg (.nm 5) (y1 fTupOf (yLc [1] (yaH [1] (mRng1 (mCons (mVar 2) mNil))) 6 ybYes (yM 1 (m_law_next a) (yCons (yH [1] (mVar 4)) yNil)) [6])))
    (sSeq (sAsg (.nm 7) (yH [1] (mN (m_largest_matching a) (mCons (mVar 5) (mCons (mVar 3) mNil)))))
    (sSeq (sAsg (.nm 8) (yH [1] (mN (m_least_cover a) (mCons (mVar 5) (mCons (mVar 3) (mCons (mVar 7) mNil))))))
    (sSeq (sNew 9 [1] (mLst mNil))
    (sSeq (sFor (yaH [9, 1] (mRng1 (mCons (mVar 2) mNil))) (.nm 10) (sSeq (sAsg (.nm 11) (yH [9, 1] (m2 fIx (mVar 7) (mVar 10))))
    (sIf (ybH [9, 1] (mT (m2 (fEqS true) (mVar 11) (m1 (fU fun i => -i) (mC (.int 1)))))) (sSeq (sIf (ybP (mTOr (mT (m2 (fIB fun i j => decide (i < j)) (mVar 11) (mC (.int 0)))) (mTOr (mT (m2 (fIB fun i j => decide (j ≤ i)) (mVar 11) (mVar 3))) (mTOr (mTNot (mT (mN (m_law_bit a) (mCons (m2 fIx (mVar 5) (mVar 10)) (mCons (mVar 11) mNil))))) (mT (m2 (fIn false) (mVar 11) (mVar 9))))))) (sRet (yH [9, 1] (mC (.bl false)))) sNext)
    (sApp 9 (yH [9, 1] (mVar 11)))) sNext)))
    (sSeq (sFor (yaH [1] (mRng1 (mCons (mVar 2) mNil))) (.nm 10) (sFor (yaH [1] (mRng1 (mCons (mVar 3) mNil))) (.nm 11) (sIf (ybH [1] (mTAnd (mT (mN (m_law_bit a) (mCons (m2 fIx (mVar 5) (mVar 10)) (mCons (mVar 11) mNil)))) (mTAnd (mTNot (mT (mN (m_law_bit a) (mCons (m2 fIx (mVar 8) (mC (.int 0))) (mCons (mVar 10) mNil))))) (mTNot (mT (mN (m_law_bit a) (mCons (m2 fIx (mVar 8) (mC (.int 1))) (mCons (mVar 11) mNil)))))))) (sRet (yH [1] (mC (.bl false)))) sNext)))
    (sSeq (sAsg (.nm 12) (yH [1] (m2 (fII fun i j => i + j) (mN fLen (mCons (mLc (mRng1 (mCons (mVar 2) mNil)) (.nm 10) (mT (mN (m_law_bit a) (mCons (m2 fIx (mVar 8) (mC (.int 0))) (mCons (mVar 10) mNil)))) (mVar 10) [10]) mNil)) (mN fLen (mCons (mLc (mRng1 (mCons (mVar 3) mNil)) (.nm 11) (mT (mN (m_law_bit a) (mCons (m2 fIx (mVar 8) (mC (.int 1))) (mCons (mVar 11) mNil)))) (mVar 11) [11]) mNil)))))
    (sSeq (sIf (ybH [1] (mTOr (mT (m2 (fEqS true) (mN fLen (mCons (mVar 7) mNil)) (mVar 2))) (mT (m2 (fEqS true) (mVar 12) (mN fLen (mCons (mVar 9) mNil)))))) (sRet (yH [1] (mC (.bl false)))) sNext)
    (sSeq (sIf (ybH [1] (mTOr (mTNot (mT (mN (m_is_matching a) (mCons (mVar 5) (mCons (mVar 7) mNil))))) (mTOr (mTNot (mT (mN (m_is_cover a) (mCons (mVar 5) (mCons (mVar 8) mNil))))) (mT (mN (m_is_matching a) (mCons (mVar 5) (mCons (m2 fCatT (mVar 7) (mTup (mCons (m1 (fU fun i => -i) (mC (.int 1))) mNil))) mNil))))))) (sRet (yH [1] (mC (.bl false)))) sNext)
    (sSeq (sFor (yaH [1] (mRng1 (mCons (mVar 2) mNil))) (.nm 10) (sFor (yaH [1] (mRng1 (mCons (mVar 3) mNil))) (.nm 11) (sIf (ybH [1] (mTNot (mT (mN (m_law_bit a) (mCons (m2 fIx (mVar 5) (mVar 10)) (mCons (mVar 11) mNil)))))) (sIf (ybH [1] (mT (mN (m_is_matching a) (mCons (mVar 5) (mCons (m2 fCatT (m2 fCatT (mSlT (mVar 7) mNoP (mPart (mVar 10))) (mTup (mCons (mVar 11) mNil))) (mSlT (mVar 7) (mPart (m2 (fII fun i j => i + j) (mVar 10) (mC (.int 1)))) mNoP)) mNil))))) (sRet (yH [1] (mC (.bl false)))) sNext) (sIf (ybH [1] (mT (mN (m_is_cover a) (mCons (mVar 5) (mCons (mTup (mCons (m2 (fII fun i j => i - j) (m2 fIx (mVar 8) (mC (.int 0))) (m2 fIx (mVar 8) (mC (.int 0)))) (mCons (mC (.int 0)) mNil))) mNil))))) (sRet (yH [1] (mC (.bl false)))) sNext))))
    (sSeq (sIf (ybH [1] (mTAnd (mT (m2 (fIB fun i j => decide (j < i)) (mN fLen (mCons (mVar 9) mNil)) (mC (.int 0)))) (mT (m2 (fIB fun i j => decide (j < i)) (mVar 2) (mC (.int 1)))))) (sRet (yH [1] (mNot (mN (m_is_matching a) (mCons (mTup (mCons (m2 fIx (mVar 5) (mC (.int 0))) (mCons (m2 fIx (mVar 5) (mC (.int 0))) mNil))) (mCons (mTup (mCons (m2 fIx (mVar 9) (mC (.int 0))) (mCons (m2 fIx (mVar 9) (mC (.int 0))) mNil))) mNil)))))) sNext)
    (sRet (yH [1] (mC (.bl true))))))))))))))))))
end Mi
namespace OF
open PySem PySem.Spec PyProof.Rows L2 Fo HandS.TR FZ
variable [Nm]
def topS (i : Nat) : Stmt := PySem.Challenge.pw_orderforms_k11_whole_matchings_and_cover.main.body.getD i (.Pass ⟨0, 0, 0, 0⟩)
abbrev s_is_integer : Stmt := topS 4
abbrev N_is_integer : List Str := ["value"]
theorem sc_is_integer : FnScope N_is_integer ["value"] (defScope s_is_integer) := ⟨rfl, rfl, rfl, by decide +kernel, rfl, by decide +kernel, by decide +kernel⟩
abbrev s_is_set : Stmt := topS 5
abbrev N_is_set : List Str := ["value", "n"]
theorem sc_is_set : FnScope N_is_set ["value", "n"] (defScope s_is_set) := ⟨rfl, rfl, rfl, by decide +kernel, rfl, by decide +kernel, by decide +kernel⟩
abbrev s_members : Stmt := topS 6
abbrev N_members : List Str := ["bits", "points"]
theorem sc_members : FnScope N_members ["bits"] (defScope s_members) := ⟨rfl, rfl, rfl, by decide +kernel, rfl, by decide +kernel, by decide +kernel⟩
abbrev s_count : Stmt := topS 7
abbrev N_count : List Str := ["bits"]
theorem sc_count : FnScope N_count ["bits"] (defScope s_count) := ⟨rfl, rfl, rfl, by decide +kernel, rfl, by decide +kernel, by decide +kernel⟩
abbrev s_set_of : Stmt := topS 8
abbrev N_set_of : List Str := ["points", "bits", "x"]
theorem sc_set_of : FnScope N_set_of ["points"] (defScope s_set_of) := ⟨rfl, rfl, rfl, by decide +kernel, rfl, by decide +kernel, by decide +kernel⟩
abbrev s_lowest : Stmt := topS 9
abbrev N_lowest : List Str := ["bits"]
theorem sc_lowest : FnScope N_lowest ["bits"] (defScope s_lowest) := ⟨rfl, rfl, rfl, by decide +kernel, rfl, by decide +kernel, by decide +kernel⟩
abbrev s_has : Stmt := topS 10
abbrev N_has : List Str := ["bits", "x"]
theorem sc_has : FnScope N_has ["bits", "x"] (defScope s_has) := ⟨rfl, rfl, rfl, by decide +kernel, rfl, by decide +kernel, by decide +kernel⟩
abbrev s_is_part : Stmt := topS 11
abbrev N_is_part : List Str := ["one", "two"]
theorem sc_is_part : FnScope N_is_part ["one", "two"] (defScope s_is_part) := ⟨rfl, rfl, rfl, by decide +kernel, rfl, by decide +kernel, by decide +kernel⟩
abbrev s_largest_matching : Stmt := topS 13
abbrev N_largest_matching : List Str := ["joined", "right", "holders", "x", "way", "left", "y"]
theorem sc_largest_matching : FnScope N_largest_matching ["joined", "right"] (defScope s_largest_matching) := ⟨rfl, rfl, rfl, by decide +kernel, rfl, by decide +kernel, by decide +kernel⟩
abbrev s_augmenting_way : Stmt := topS 14
abbrev N_augmenting_way : List Str := ["joined", "holders", "start", "lefts", "rights", "seen", "fresh", "y"]
theorem sc_augmenting_way : FnScope N_augmenting_way ["joined", "holders", "start"] (defScope s_augmenting_way) := ⟨rfl, rfl, rfl, by decide +kernel, rfl, by decide +kernel, by decide +kernel⟩
abbrev s_partners : Stmt := topS 15
abbrev N_partners : List Str := ["size", "holders", "found", "y", "x"]
theorem sc_partners : FnScope N_partners ["size", "holders"] (defScope s_partners) := ⟨rfl, rfl, rfl, by decide +kernel, rfl, by decide +kernel, by decide +kernel⟩
abbrev s_least_cover : Stmt := topS 16
abbrev N_least_cover : List Str := ["joined", "right", "matching", "holders", "waiting", "x", "left_reached", "right_reached", "fresh", "found", "y", "outside"]
theorem sc_least_cover : FnScope N_least_cover ["joined", "right", "matching"] (defScope s_least_cover) := ⟨rfl, rfl, rfl, by decide +kernel, rfl, by decide +kernel, by decide +kernel⟩
abbrev s_is_matching : Stmt := topS 17
abbrev N_is_matching : List Str := ["joined", "matching", "y", "matched", "x"]
theorem sc_is_matching : FnScope N_is_matching ["joined", "matching"] (defScope s_is_matching) := ⟨rfl, rfl, rfl, by decide +kernel, rfl, by decide +kernel, by decide +kernel⟩
abbrev s_is_cover : Stmt := topS 18
abbrev N_is_cover : List Str := ["joined", "cover", "left", "right", "x"]
theorem sc_is_cover : FnScope N_is_cover ["joined", "cover"] (defScope s_is_cover) := ⟨rfl, rfl, rfl, by decide +kernel, rfl, by decide +kernel, by decide +kernel⟩
abbrev s_law_numbers : Stmt := topS 20
abbrev N_law_numbers : List Str := ["script", "found", "k", "cell", "turn", "i", "mixed"]
theorem sc_law_numbers : FnScope N_law_numbers ["script"] (defScope s_law_numbers) := ⟨rfl, rfl, rfl, by decide +kernel, rfl, by decide +kernel, by decide +kernel⟩
abbrev s_law_next : Stmt := topS 21
abbrev N_law_next : List Str := ["numbers", "many"]
theorem sc_law_next : FnScope N_law_next ["numbers", "many"] (defScope s_law_next) := ⟨rfl, rfl, rfl, by decide +kernel, rfl, by decide +kernel, by decide +kernel⟩
abbrev s_law_bit : Stmt := topS 22
abbrev N_law_bit : List Str := ["bits", "y"]
theorem sc_law_bit : FnScope N_law_bit ["bits", "y"] (defScope s_law_bit) := ⟨rfl, rfl, rfl, by decide +kernel, rfl, by decide +kernel, by decide +kernel⟩
abbrev s_law : Stmt := topS 23
abbrev N_law : List Str := ["script", "numbers", "left", "right", "most", "joined", "turn", "matching", "cover", "used", "x", "y", "size"]
theorem sc_law : FnScope N_law ["script"] (defScope s_law) := ⟨rfl, rfl, rfl, by decide +kernel, rfl, by decide +kernel, by decide +kernel⟩
section
variable {P : Program} {w : World} {K : PySem.W.Frag} {mg : Str → Option Value} {base : Heap} {f C : Addr} {fd : FuncData}
end
section
def dNs (l : List Nat) : List Da := l.map fun x : Nat => Da.int (x : Int)
theorem dNs_len (l : List Nat) : (dNs l).length = l.length := by unfold dNs; rw [List.length_map]
theorem dNs_ints (l : List Nat) : dNs l = (l.map fun x : Nat => (x : Int)).map Da.int := by
  unfold dNs
  rw [List.map_map]
  rfl
theorem dNs_snoc (l : List Nat) (x : Nat) : dNs l ++ [.int (x : Int)] = dNs (l ++ [x]) := by
  unfold dNs
  rw [List.map_append]
  rfl
theorem i_rngN {K : PySem.W.Frag} {Γ : Sls} {ts : TA} {n : Nat} (h : EvS K Γ ts [.int (n : Int)]) (hn : n ≤ 1000) : EvI K Γ (iRng1 ts) (dNs (List.range n)) := by
  have := i_rng1 h (by omega) (by omega)
  have e : rng 0 (n : Int).toNat = dNs (List.range n) := by
    unfold rng dNs
    exact List.map_congr_left fun i _ => by rw [Int.zero_add]
  rw [e] at this
  exact this
theorem i_rngN_at {n i : Nat} {d : Da} (h : (dNs (List.range n))[i]? = some d) : i < n ∧ d = .int (i : Int) := by
  unfold dNs at h
  rw [List.getElem?_map] at h
  obtain ⟨x, hx, rfl⟩ := Option.map_eq_some_iff.mp h
  obtain ⟨h1, h2⟩ := List.getElem?_eq_some_iff.mp hx
  rw [List.getElem_range] at h2
  rw [List.length_range] at h1
  subst h2
  exact ⟨h1, rfl⟩
variable {P : Program} {w : World} {K : PySem.W.Frag} {mg : Str → Option Value} {base : Heap} {f C CM CR : Addr} {fd : FuncData}
set_option maxHeartbeats 4000000 in
theorem ok_lnums (F : Fun K "_law_numbers" "_law_numbers" s_law_numbers f fd) (z_range : mg "range" = none) (z_len : mg "len" = none) (z_min : mg "min" = none) (z_abs : mg "abs" = none) : FnOk P w K mg base CX0 1 f fd ["script"] (Mi.spNums K) := by
  refine F.ok sc_law_numbers (fun vs H Q E h => ?_) (fun cdv A outer s H vs Q E hr h => ?_)
  · obtain ⟨a, ns, rfl, _⟩ := h
    rfl
  obtain ⟨a, ns, rfl, hS, k⟩ := h
  -- slots: 0:script 1:found 2:k 3:cell 4:turn 5:i 6:mixed
  refine ⟨_, (pss_cons (ps_set (i := 1) sc_law_numbers.nd rfl (by first | exact .inl rfl | exact .inr rfl) (pe_lst pa_nil))
    (pss_cons (ps_for PassesOwn.never rfl (pi_range1 (by rfl) z_range (pa_cons (pe_callB (call_min2 rfl) (by rfl) z_min (by decide +kernel) (pa_cons (pe_callB call_len_seq (by rfl) z_len PySem.boot_len (pa_cons (pv 0) pa_nil)) (pa_cons pe_int pa_nil))) pa_nil)) (pg_name (i := 2) sc_law_numbers.nd rfl (by first | exact .inl rfl | exact .inr rfl)) (pss_cons (ps_set (i := 3) sc_law_numbers.nd rfl (by first | exact .inl rfl | exact .inr rfl) (pe_callB call_abs (by rfl) z_abs (by decide +kernel) (pa_cons (pe_ix ix_list (pv 0) (pv 2) (fun _ _ => rfl)) pa_nil)))
    (pss_one (ps_if (pt_cmpR op_ge (pv 3) (pe_op op_pow pe_int pe_int) (nomark _)) (pss_one (ps_for PassesOwn.never rfl (pi_range1 (by rfl) z_range (pa_cons pe_int pa_nil)) (pg_name (i := 4) sc_law_numbers.nd rfl (by first | exact .inl rfl | exact .inr rfl)) (pss_one (ps_if (pt_cmpR op_gt (pv 3) pe_int (nomark _)) (pss_cons (ps_expr (pe_bm PySem.F.plainAttrs_list PySem.F.slot_list_append PySem.F.type_list_append mt_append (pv 1) (pa_cons (pe_op op_mod (pv 3) pe_int) pa_nil)))
    (pss_one (ps_set (i := 3) sc_law_numbers.nd rfl (by first | exact .inl rfl | exact .inr rfl) (pe_op op_fdiv (pv 3) pe_int)))) pss_nil)))) (pss_one (ps_for PassesOwn.never rfl (pi_range1 (by rfl) z_range (pa_cons pe_int pa_nil)) (pg_name (i := 5) sc_law_numbers.nd rfl (by first | exact .inl rfl | exact .inr rfl)) (pss_cons (ps_set (i := 3) sc_law_numbers.nd rfl (by first | exact .inl rfl | exact .inr rfl) (pe_op op_mod (pe_op op_add (pe_op op_add (pe_op op_mul (pv 3) pe_int) (pe_op op_mul pe_int (pe_op op_add (pv 5) (pv 2)))) pe_int) pe_int))
    (pss_cons (ps_set (i := 6) sc_law_numbers.nd rfl (by first | exact .inl rfl | exact .inr rfl) (pe_op op_mod (pe_op op_add (pe_op op_mul (pv 3) pe_int) (pe_op op_fdiv (pv 3) pe_int)) pe_int))
    (pss_one (ps_expr (pe_bm PySem.F.plainAttrs_list PySem.F.slot_list_append PySem.F.type_list_append mt_append (pv 1) (pa_cons (pe_op op_mod (pv 6) pe_int) pa_nil))))))))))))
    (pss_one (ps_ret (pv 1))))), ?_⟩
  have key : ∀ {t : TS} {D : Ends}, D.rt = Q → EvP K H H [some (.raw (.ref a)), none, none, none, none, none, none] [] t (fun o => ∃ (q : Addr) (w : Option Nat) (ms : List Nat), o = .rt (.raw (.ref q)) [(w, q, dNs ms)] ∧ ms.length ≤ 4000) → t D [some (.ref a), none, none, none, none, none, none] H := fun {t D} hD h => by
    refine h _ H H D ⟨⟨⟨_, rfl, rfl⟩, trivial, trivial, trivial, trivial, trivial, trivial, trivial⟩, trivial, (fun m hm => nomatch hm), .refl (.refl _)⟩ fun o po => ?_
    obtain ⟨q, w, ms, rfl, hz⟩ := po
    refine fun v B2 H2 _ hm n r => ?_
    obtain ⟨⟨h1, _, ⟨xs, h3, h4⟩, _⟩, _⟩ := hm
    obtain rfl : v = .ref q := r
    rw [dNs_ints] at h4
    obtain rfl := RpA.ints_of h4
    rw [hD]
    refine k q H2 ms h1 n.h ?_ hz
    rw [h3, List.map_map]
    rfl
  refine key rfl ?_
  refine p_seq (p_new rfl (by simp) fun q => ?_)
  refine p_seq (p_forY (P0 := fun ds M' => ∃ m : Nat, ds = dNs (List.range m) ∧ m ≤ 63 ∧ m ≤ ns.length ∧ M' = [(some 1, q, [])]) (yi_rng1N (ys_cons (y_cb (P1 := fun es M' => es = [.int (ns.length : Nat), .int 63] ∧ M' = [(some 1, q, [])]) (P := fun d M' => ∃ m : Nat, d = .int (m : Int) ∧ m ≤ 63 ∧ m ≤ ns.length ∧ M' = [(some 1, q, [])]) (ys_cons (y_rowLen (P := fun d M' => d = .int (ns.length : Nat) ∧ M' = [(some 1, q, [])]) hS (g_var rfl) ⟨by rw [List.length_map], rfl⟩) fun d1 M1 ⟨e1, e2⟩ => by
      subst e1
      subst e2
      exact ys_of (s_cons g_int s_nil) ⟨rfl, rfl⟩) fun es M1 ⟨e1, e2⟩ => by
      subst e1
      refine ⟨_, c_min2, if (63 : Int) < (ns.length : Int) then 63 else ns.length, ?_, ?_, ?_, e2⟩
      · split <;> rfl
      · split <;> omega
      · split <;> omega) fun d1 M1 ⟨m, e1, h1, h2, e2⟩ => by
      subst e1
      exact ys_nil ⟨m, rfl, by omega, m, rfl, h1, h2, e2⟩))
    (fun ds i Γ1 M1 => ∃ (y2 y3 y4 y5 y6 : Option Da) (ms : List Nat), Γ1 = [some (.raw (.ref a)), none, y2, y3, y4, y5, y6] ∧ M1 = [(some 1, q, dNs ms)] ∧ ms.length ≤ i * 60) (fun ds M0 ⟨m, _, _, _, e2⟩ => ⟨none, none, none, none, none, [], rfl, e2, by simp⟩) (fun ds i Γ1 M1 ⟨_, _, _, _, _, _, _, e2, _⟩ m hm => by subst e2; simp at hm; subst hm; simp)
    (fun ds M0 i d Γ1 M1 ⟨m, e0, h1, h2, _⟩ hd ⟨y2, y3, y4, y5, y6, ms, e1, e2, hz⟩ => ?_) (fun ds M0 Γ1 M1 ⟨m, e0, h1, h2, _⟩ ⟨y2, y3, y4, y5, y6, ms, e1, e2, hz⟩ => ?_))
  · subst e0
    subst e1
    subst e2
    obtain ⟨hi, rfl⟩ := i_rngN_at hd
    have hil : i < ns.length := by omega
    obtain ⟨z, hzz⟩ : ∃ z, ns[i]? = some z := ⟨_, List.getElem?_eq_getElem hil⟩
    refine p_seq (p_asgY (P := fun d M' => ∃ c : Nat, d = .int (c : Int) ∧ M' = [(some 1, q, dNs ms)]) (y_cb (P1 := fun es M' => es = [.int z] ∧ M' = [(some 1, q, dNs ms)]) (ys_cons (y_rowIx (P := fun d M' => d = .int z ∧ M' = [(some 1, q, dNs ms)]) hS (g_var rfl) (g_var rfl) hzz ⟨rfl, rfl⟩) fun d1 M1 ⟨e1, e2⟩ => ys_nil ⟨by rw [e1], e2⟩) fun es M1 ⟨e1, e2⟩ => by
      subst e1
      refine ⟨_, c_abs, z.natAbs, ?_, e2⟩
      congr 1
      split <;> omega) fun d M1 ⟨c, e1, e2⟩ => ?_)
    subst e1
    subst e2
    refine ⟨by simp, ?_⟩
    refine p_if (b_test (g_IB (g_var rfl) (g_IC g_int g_int ⟨by decide, by decide, by decide⟩))) (fun hb => ?_) (fun hb => ?_)
    · refine p_for (i_rngN (n := 60) (s_cons g_int s_nil) (by decide)) (fun j Γ1 M1 => ∃ (c : Nat) (y4 : Option Da) (ms : List Nat), Γ1 = [some (.raw (.ref a)), none, some (.int (i : Int)), some (.int (c : Int)), y4, y5, y6] ∧ M1 = [(some 1, q, dNs ms)] ∧ ms.length ≤ i * 60 + j) ⟨c, y4, ms, rfl, rfl, hz⟩ (fun i Γ1 M1 ⟨_, _, _, _, e2, _⟩ m hm => by subst e2; simp at hm; subst hm; simp)
        (fun j d Γ1 M1 hd ⟨c, y4, ms, e1, e2, hz⟩ => ?_) (fun Γ1 M1 ⟨c, y4, ms, e1, e2, hz⟩ => ?_)
      · subst e1
        subst e2
        obtain ⟨hj, rfl⟩ := i_rngN_at hd
        refine p_if (b_test (g_IB (g_var rfl) g_int)) (fun _ => ?_) (fun _ => p_next ⟨c, _, ms, rfl, rfl, by omega⟩)
        refine p_seq (p_app (j := 0) rfl (y_pure (g_IC (g_var rfl) g_int (by decide))) fun d M1 ⟨e1, e2⟩ => ?_)
        subst e1
        subst e2
        refine ⟨dNs ms, rfl, by rw [dNs_len]; omega, ?_⟩
        refine p_asg (d := .int ((c / 1009 : Nat) : Int)) ((g_IC (g_var rfl) g_int ⟨by decide, by decide⟩).to rfl) (by simp) ⟨c / 1009, _, ms ++ [c % 1009], rfl, ?_, by rw [List.length_append]; show ms.length + 1 ≤ _; omega⟩
        show [(some 1, q, dNs ms ++ [.int ((c % 1009 : Nat) : Int)])] = _
        rw [dNs_snoc]
      · subst e1
        subst e2
        rw [dNs_len, List.length_range] at hz
        exact ⟨_, _, _, _, _, ms, rfl, rfl, by omega⟩
    · have hc : c < 10 ^ 18 := by
        have := of_decide_eq_false hb
        have e : (10 : Int) ^ ((18 : Int)).toNat = 1000000000000000000 := by decide
        rw [e] at this
        omega
      refine p_for (i_rngN (n := 5) (s_cons g_int s_nil) (by decide)) (fun j Γ1 M1 => ∃ (c : Nat) (y5 y6 : Option Da) (ms : List Nat), Γ1 = [some (.raw (.ref a)), none, some (.int (i : Int)), some (.int (c : Int)), y4, y5, y6] ∧ M1 = [(some 1, q, dNs ms)] ∧ c < 10 ^ 18 ∧ ms.length ≤ i * 60 + j) ⟨c, y5, y6, ms, rfl, rfl, hc, hz⟩ (fun i Γ1 M1 ⟨_, _, _, _, _, e2, _⟩ m hm => by subst e2; simp at hm; subst hm; simp)
        (fun j d Γ1 M1 hd ⟨c, y5, y6, ms, e1, e2, hc, hz⟩ => ?_) (fun Γ1 M1 ⟨c, y5, y6, ms, e1, e2, hc, hz⟩ => ?_)
      · subst e1
        subst e2
        obtain ⟨hj, rfl⟩ := i_rngN_at hd
        refine p_seq (p_asg (d := .int (((c * 48271 + 69621 * (j + i) + 11) % 2147483647 : Nat) : Int)) ((g_IC (g_II (g_II (g_IC (g_var rfl) g_int (.inr ⟨by decide, by decide⟩)) (g_IC g_int (g_II (g_var rfl) (g_var rfl)) (.inl ⟨by decide, by decide⟩))) g_int) g_int (by decide)).to ?_) (by simp) ?_)
        · congr 1
        have hc2 : (c * 48271 + 69621 * (j + i) + 11) % 2147483647 < 2147483647 := Nat.mod_lt _ (by decide)
        generalize (c * 48271 + 69621 * (j + i) + 11) % 2147483647 = c2 at *
        refine p_seq (p_asg (d := .int (((c2 * 16807 + c2 / 65536) % 2147483629 : Nat) : Int)) ((g_IC (g_II (g_IC (g_var rfl) g_int (.inr ⟨by decide, by decide⟩)) (g_IC (g_var rfl) g_int ⟨by decide, by decide⟩)) g_int (by decide)).to ?_) (by simp) ?_)
        · congr 1
        generalize (c2 * 16807 + c2 / 65536) % 2147483629 = c3 at *
        refine p_app (j := 0) rfl (y_pure (g_IC (g_var rfl) g_int (by decide))) fun d M1 ⟨e1, e2⟩ => ?_
        subst e1
        subst e2
        refine ⟨dNs ms, rfl, by rw [dNs_len]; omega, c2, _, _, ms ++ [c3 % 1009], rfl, ?_, by omega, by rw [List.length_append]; show ms.length + 1 ≤ _; omega⟩
        show [(some 1, q, dNs ms ++ [.int ((c3 % 1009 : Nat) : Int)])] = _
        rw [dNs_snoc]
      · subst e1
        subst e2
        rw [dNs_len, List.length_range] at hz
        exact ⟨_, _, _, _, _, ms, rfl, rfl, by omega⟩
  · subst e0
    subst e1
    subst e2
    rw [dNs_len, List.length_range] at hz
    exact p_raw (j := 0) rfl (p_ret (g_var rfl) ⟨q, _, ms, rfl, by omega⟩)
end
section
variable {P : Program} {w : World} {K : PySem.W.Frag} {mg : Str → Option Value} {base : Heap} {f C CM CR : Addr} {fd : FuncData}
end
section
open Mi
variable {P : Program} {w : World} {K : PySem.W.Frag} {mg : Str → Option Value} {base : Heap} {f : Addr} {fd : FuncData} {a : Ax}
theorem ok_law_next (F : Fun K "_law_next" "_law_next" s_law_next f fd) (z_len : mg "len" = none) : FnOk P w K mg base (L2.CX P w) 1 f fd ["numbers", "many"] (PuMX K (m_law_next a)) :=
  fn_mkM (cs := a.cs) F sc_law_next rfl rfl fun cdv A outer s H E hr => ⟨_,
    (pss_cons (ps_if (pt_cmpR op_eq (pe_callB call_len_seq (by rfl) z_len PySem.boot_len (pa_cons (pv 0) pa_nil)) pe_int (nomark _)) (pss_one (ps_ret pe_int)) pss_nil)
    (pss_one (ps_ret (pe_op op_mod (pe_bm PySem.F.plainAttrs_list PySem.F.slot_list_pop PySem.F.type_list_pop mt_popAt (pv 0) (pa_cons pe_int pa_nil)) (pv 1))))),
    (se_seq (se_if (yb_P (b_tst (e_op o_eqS (e_cb n_len (a_cons (e_var 0) a_nil)) e_int))) (se_ret (ye_H e_int)) se_next)
    (se_ret (ye_2 (o_IC c_mod) (ye_popAt (ye_H e_int)) (ye_H (e_var 1)))))⟩
theorem ok_partners (F : Fun K "partners" "partners" s_partners f fd) (z_enumerate : mg "enumerate" = none) (z_tuple : mg "tuple" = none) : FnOk P w K mg base (L2.CX P w) 1 f fd ["size", "holders"] (PuX K a.cs (m_partners a)) :=
  fn_mk F sc_partners rfl rfl fun cdv A outer s H E hr => ⟨_,
    (pss_cons (ps_set (i := 2) sc_partners.nd rfl (by first | exact .inl rfl | exact .inr rfl) (pe_op op_rep (pe_lst (pa_cons (pe_un un_neg pe_int) pa_nil)) (pv 0)))
    (pss_cons (ps_for (passes_of rfl) rfl (pi_enumA (by rfl) z_enumerate (pa_cons (pv 1) pa_nil)) (pg_tup (by rfl) (pgs_cons (pg_name (i := 3) sc_partners.nd rfl (by first | exact .inl rfl | exact .inr rfl)) (pgs_cons (pg_name (i := 4) sc_partners.nd rfl (by first | exact .inl rfl | exact .inr rfl)) pgs_nil))) (pss_one (ps_if (pt_cmpR op_ne (pv 4) (pe_un un_neg pe_int) (nomark _)) (pss_one (ps_asg (pv 3) (pg_sub (pv 2) (pv 4) set_list))) pss_nil)))
    (pss_one (ps_ret (pe_tupleOf (by rfl) z_tuple (pv 2)))))),
    (se_seq (se_new (f_rep (e_lst (a_cons (e_un o_U e_int) a_nil)) (e_var 0)))
    (se_seq (se_for (yi_H (w_enumA (e_var 1))) (t_tp (ts_cons (t_nm 3) (ts_cons (t_nm 4) ts_nil))) (se_if (yb_H (b_tst (e_op o_neS (e_var 4) (e_un o_U e_int)))) (se_set (o := 2) (ye_H (e_var 3)) (ye_H (e_var 4))) se_next))
    (se_frz (i := 0) (o := 2) rfl (se_ret (ye_H (e_tupOf (e_var 2)))))))⟩
theorem ok_lowest (F : Fun K "lowest" "lowest" s_lowest f fd)  : FnOk P w K mg base (L2.CX P w) 3 f fd ["bits"] (PuX K a.cs (m_lowest a)) :=
  fn_mk F sc_lowest rfl rfl fun cdv A outer s H E hr => ⟨_,
    (pss_cons (ps_if (pt_cmpR op_eq (pv 0) pe_int (nomark _)) (pss_one ps_never) pss_nil)
    (pss_one (ps_ret (pe_op op_sub (pe_bits (pe_op op_and (pv 0) (pe_un un_neg (pv 0)))) pe_int)))),
    (se_seq (se_if (yb_H (b_tst (e_op o_eqS (e_var 0) e_int))) se_never se_next)
    (se_ret (ye_H (e_op o_II (e_bits (e_op o_II (e_var 0) (e_un o_U (e_var 0)))) e_int))))⟩
theorem ok_augmenting_way (F : Fun K "augmenting_way" "augmenting_way" s_augmenting_way f fd) (z_len : mg "len" = none) (c_lowest : Cal P w K mg base (L2.CX P w) 3 "lowest" ["bits"] (PuX K a.cs (m_lowest a))) (z_list : mg "list" = none) (z_zip : mg "zip" = none) : FnOk P w K mg base (L2.CX P w) 4 f fd ["joined", "holders", "start"] (PuBX K 1 (m_augmenting_way a)) :=
  fn_mkB (i := 1) (cs := a.cs) F sc_augmenting_way rfl rfl fun cdv A outer s H E hr => ⟨_,
    (pss_cons (ps_set (i := 3) sc_augmenting_way.nd rfl (by first | exact .inl rfl | exact .inr rfl) (pe_lst (pa_cons (pv 2) pa_nil)))
    (pss_cons (ps_set (i := 4) sc_augmenting_way.nd rfl (by first | exact .inl rfl | exact .inr rfl) (pe_lst pa_nil))
    (pss_cons (ps_set (i := 5) sc_augmenting_way.nd rfl (by first | exact .inl rfl | exact .inr rfl) pe_int)
    (pss_cons (ps_while (passes_of rfl) (pt_cmpR op_gt (pe_callB call_len_seq (by rfl) z_len PySem.boot_len (pa_cons (pv 3) pa_nil)) pe_int (nomark _)) (pss_cons (ps_set (i := 6) sc_augmenting_way.nd rfl (by first | exact .inl rfl | exact .inr rfl) (pe_op op_and (pe_ix (ix_list.or ix_tup) (pv 0) (pe_ix (ix_list.or ix_tup) (pv 3) (pe_un un_neg pe_int) (fun _ _ => rfl)) (fun _ _ => rfl)) (pe_un un_inv (pv 5))))
    (pss_cons (ps_if (pt_cmpR op_eq (pv 6) pe_int (nomark _)) (pss_cons (ps_expr (pe_bm0 PySem.F.plainAttrs_list PySem.F.slot_list_pop PySem.F.type_list_pop mt_pop (pv 3)))
    (pss_cons (ps_delLast (pv 4) (po_some (pe_un un_neg pe_int)))
    (pss_one ps_continue))) pss_nil)
    (pss_cons (ps_set (i := 7) sc_augmenting_way.nd rfl (by first | exact .inl rfl | exact .inr rfl) (pe_cal c_lowest (hr.mono (by decide)) passX0 (pa_cons (pv 6) pa_nil)))
    (pss_cons (ps_set (i := 5) sc_augmenting_way.nd rfl (by first | exact .inl rfl | exact .inr rfl) (pe_op op_or (pv 5) (pe_op op_shlW pe_int (pv 7))))
    (pss_cons (ps_expr (pe_bm PySem.F.plainAttrs_list PySem.F.slot_list_append PySem.F.type_list_append mt_append (pv 4) (pa_cons (pv 7) pa_nil)))
    (pss_cons (ps_if (pt_cmpR op_eq (pe_ix (ix_list.or ix_tup) (pv 1) (pv 7) (fun _ _ => rfl)) (pe_un un_neg pe_int) (nomark _)) (pss_one (ps_ret (pe_listZip rfl (by rfl) z_list (by rfl) z_zip (pa_cons (pv 3) (pa_cons (pv 4) pa_nil))))) pss_nil)
    (pss_one (ps_expr (pe_bm PySem.F.plainAttrs_list PySem.F.slot_list_append PySem.F.type_list_append mt_append (pv 3) (pa_cons (pe_ix (ix_list.or ix_tup) (pv 1) (pv 7) (fun _ _ => rfl)) pa_nil)))))))))))
    (pss_one (ps_ret (pe_lst pa_nil))))))),
    (se_seq (se_new (f_lst (a_cons (e_var 2) a_nil)))
    (se_seq (se_new (f_lst a_nil))
    (se_seq (se_asg (ye_H e_int) (t_nm 5))
    (se_seq (se_while (yb_P (b_tst (e_op o_IB (e_cb n_len (a_cons (e_var 3) a_nil)) e_int))) (se_seq (se_asg (ye_P (e_op o_II (e_op o_ix (e_var 0) (e_op o_ix (e_var 3) (e_un o_U e_int))) (e_un o_U (e_var 5)))) (t_nm 6))
    (se_seq (se_if (yb_H (b_tst (e_op o_eqS (e_var 6) e_int))) (se_seq (se_drop ye_pop)
    (se_seq (se_delLast (o := 4))
    se_cont)) se_next)
    (se_seq (se_asg (ye_H (e_call (a_cons (e_var 6) a_nil))) (t_nm 7))
    (se_seq (se_asg (ye_H (e_op o_II (e_var 5) (e_op (o_IC c_shl) e_int (e_var 7)))) (t_nm 5))
    (se_seq (se_app (ye_H (e_var 7)))
    (se_seq (se_if (yb_P (b_tst (e_op o_eqS (e_op o_ix (e_var 1) (e_var 7)) (e_un o_U e_int)))) (se_ret ye_zip) se_next)
    (se_app (ye_P (e_op o_ix (e_var 1) (e_var 7)))))))))))
    (se_frz (i := 0) (o := 4) rfl (se_frz (i := 0) (o := 3) rfl (se_ret (ye_H (e_lst a_nil)))))))))⟩
theorem ok_largest_matching (F : Fun K "largest_matching" "largest_matching" s_largest_matching f fd) (z_len : mg "len" = none) (z_range : mg "range" = none) (c_augmenting_way : Cal P w K mg base (L2.CX P w) 4 "augmenting_way" ["joined", "holders", "start"] (PuBX K 1 (m_augmenting_way a))) (c_partners : Cal P w K mg base (L2.CX P w) 1 "partners" ["size", "holders"] (PuX K a.cs (m_partners a))) : FnOk P w K mg base (L2.CX P w) 5 f fd ["joined", "right"] (PuX K a.cs (m_largest_matching a)) :=
  fn_mk F sc_largest_matching rfl rfl fun cdv A outer s H E hr => ⟨_,
    (pss_cons (ps_set (i := 2) sc_largest_matching.nd rfl (by first | exact .inl rfl | exact .inr rfl) (pe_op op_rep (pe_lst (pa_cons (pe_un un_neg pe_int) pa_nil)) (pv 1)))
    (pss_cons (ps_for (passes_of rfl) rfl (pi_range1 (by rfl) z_range (pa_cons (pe_callB call_len_seq (by rfl) z_len PySem.boot_len (pa_cons (pv 0) pa_nil)) pa_nil)) (pg_name (i := 3) sc_largest_matching.nd rfl (by first | exact .inl rfl | exact .inr rfl)) (pss_cons (ps_set (i := 4) sc_largest_matching.nd rfl (by first | exact .inl rfl | exact .inr rfl) (pe_cal c_augmenting_way (hr.mono (by decide)) passX0 (pa_cons (pv 0) (pa_cons (pv 2) (pa_cons (pv 3) pa_nil)))))
    (pss_one (ps_for (passes_of rfl) rfl (pi_seq (pv 4)) (pg_tup (by rfl) (pgs_cons (pg_name (i := 5) sc_largest_matching.nd rfl (by first | exact .inl rfl | exact .inr rfl)) (pgs_cons (pg_name (i := 6) sc_largest_matching.nd rfl (by first | exact .inl rfl | exact .inr rfl)) pgs_nil))) (pss_one (ps_asg (pv 5) (pg_sub (pv 2) (pv 6) set_list)))))))
    (pss_one (ps_ret (pe_cal c_partners (hr.mono (by decide)) passX0 (pa_cons (pe_callB call_len_seq (by rfl) z_len PySem.boot_len (pa_cons (pv 0) pa_nil)) (pa_cons (pv 2) pa_nil))))))),
    (se_seq (se_new (f_rep (e_lst (a_cons (e_un o_U e_int) a_nil)) (e_var 1)))
    (se_seq (se_for (yi_H (w_rng1 (a_cons (e_cb n_len (a_cons (e_var 0) a_nil)) a_nil))) (t_nm 3) (se_seq (se_asg (ye_B (ye_H (e_var 0)) (ya_cons (ye_H (e_var 3)) ya_nil)) (t_nm 4))
    (se_for (yi_H (w_seq (e_var 4))) (t_tp (ts_cons (t_nm 5) (ts_cons (t_nm 6) ts_nil))) (se_set (o := 2) (ye_H (e_var 5)) (ye_H (e_var 6))))))
    (se_frz (i := 0) (o := 2) rfl (se_ret (ye_H (e_call (a_cons (e_cb n_len (a_cons (e_var 0) a_nil)) (a_cons (e_var 2) a_nil))))))))⟩
theorem ok_set_of (F : Fun K "set_of" "set_of" s_set_of f fd)  : FnOk P w K mg base (L2.CX P w) 1 f fd ["points"] (PuX K a.cs (m_set_of a)) :=
  fn_mk F sc_set_of rfl rfl fun cdv A outer s H E hr => ⟨_,
    (pss_cons (ps_set (i := 1) sc_set_of.nd rfl (by first | exact .inl rfl | exact .inr rfl) pe_int)
    (pss_cons (ps_for (passes_of rfl) rfl (pi_seq (pv 0)) (pg_name (i := 2) sc_set_of.nd rfl (by first | exact .inl rfl | exact .inr rfl)) (pss_one (ps_set (i := 1) sc_set_of.nd rfl (by first | exact .inl rfl | exact .inr rfl) (pe_op op_or (pv 1) (pe_op op_shlW pe_int (pv 2))))))
    (pss_one (ps_ret (pv 1))))),
    (se_seq (se_asg (ye_H e_int) (t_nm 1))
    (se_seq (se_for (yi_H (w_seq (e_var 0))) (t_nm 2) (se_asg (ye_H (e_op o_II (e_var 1) (e_op (o_IC c_shl) e_int (e_var 2)))) (t_nm 1)))
    (se_ret (ye_H (e_var 1)))))⟩
theorem ok_members (F : Fun K "members" "members" s_members f fd) (c_lowest : Cal P w K mg base (L2.CX P w) 3 "lowest" ["bits"] (PuX K a.cs (m_lowest a))) (z_tuple : mg "tuple" = none) : FnOk P w K mg base (L2.CX P w) 4 f fd ["bits"] (PuX K a.cs (m_members a)) :=
  fn_mk F sc_members rfl rfl fun cdv A outer s H E hr => ⟨_,
    (pss_cons (ps_set (i := 1) sc_members.nd rfl (by first | exact .inl rfl | exact .inr rfl) (pe_lst pa_nil))
    (pss_cons (ps_while (passes_of rfl) (pt_cmpR op_gt (pv 0) pe_int (nomark _)) (pss_cons (ps_expr (pe_bm PySem.F.plainAttrs_list PySem.F.slot_list_append PySem.F.type_list_append mt_append (pv 1) (pa_cons (pe_cal c_lowest (hr.mono (by decide)) passX0 (pa_cons (pv 0) pa_nil)) pa_nil)))
    (pss_one (ps_set (i := 0) sc_members.nd rfl (by first | exact .inl rfl | exact .inr rfl) (pe_op op_and (pv 0) (pe_op op_sub (pv 0) pe_int))))))
    (pss_one (ps_ret (pe_tupleOf (by rfl) z_tuple (pv 1)))))),
    (se_seq (se_new (f_lst a_nil))
    (se_seq (se_while (yb_H (b_tst (e_op o_IB (e_var 0) e_int))) (se_seq (se_app (ye_H (e_call (a_cons (e_var 0) a_nil))))
    (se_asg (ye_H (e_op o_II (e_var 0) (e_op o_II (e_var 0) e_int))) (t_nm 0))))
    (se_frz (i := 0) (o := 1) rfl (se_ret (ye_H (e_tupOf (e_var 1)))))))⟩
theorem ok_has (F : Fun K "has" "has" s_has f fd)  : FnOk P w K mg base (L2.CX P w) 1 f fd ["bits", "x"] (PuX K a.cs (m_has a)) :=
  fn_mk F sc_has rfl rfl fun cdv A outer s H E hr => ⟨_,
    pss_one (ps_ret (pe_cmpR op_eq (pe_op op_and (pe_op op_shr (pv 0) (pv 1)) pe_int) pe_int (nomark _))),
    se_ret (ye_H (e_op o_eqS (e_op o_II (e_op (o_IC c_shr) (e_var 0) (e_var 1)) e_int) e_int))⟩
theorem ok_least_cover (F : Fun K "least_cover" "least_cover" s_least_cover f fd) (c_partners : Cal P w K mg base (L2.CX P w) 1 "partners" ["size", "holders"] (PuX K a.cs (m_partners a))) (z_len : mg "len" = none) (z_range : mg "range" = none) (c_set_of : Cal P w K mg base (L2.CX P w) 1 "set_of" ["points"] (PuX K a.cs (m_set_of a))) (c_members : Cal P w K mg base (L2.CX P w) 4 "members" ["bits"] (PuX K a.cs (m_members a))) (c_has : Cal P w K mg base (L2.CX P w) 1 "has" ["bits", "x"] (PuX K a.cs (m_has a))) : FnOk P w K mg base (L2.CX P w) 5 f fd ["joined", "right", "matching"] (PuX K a.cs (m_least_cover a)) :=
  fn_mk F sc_least_cover rfl rfl fun cdv A outer s H E hr => ⟨_,
    (pss_cons (ps_set (i := 3) sc_least_cover.nd rfl (by first | exact .inl rfl | exact .inr rfl) (pe_cal c_partners (hr.mono (by decide)) passX0 (pa_cons (pv 1) (pa_cons (pv 2) pa_nil))))
    (pss_cons (ps_setLc (i := 4) (own := [("x", 5)]) (g := gName 5) (tt := tTest (tOp (rEq) (tOp (rIxE K) (tVar 2) (tVar 5)) (tUn (rU fun i => .int (-i)) (tC (.int 1))))) (te := tVar 5) rfl sc_least_cover.nd rfl rfl (sw_true rfl rfl rfl (by decide +kernel)) (pi_range1 (by rfl) z_range (pa_cons (pe_callB call_len_seq (by rfl) z_len PySem.boot_len (pa_cons (pv 0) pa_nil)) pa_nil)) (blkOk_by (N := N_least_cover) (sc := defScope s_least_cover) (by decide +kernel)) (fun _ _ _ _ _ => pg_name (i := 5) sc_least_cover.nd rfl (by first | exact .inl rfl | exact .inr rfl)) (fun _ _ _ _ _ => pts_one (pt_cmpR op_eq (pe_ix (ix_list.or ix_tup) (pv 2) (pv 5) (fun _ _ => rfl)) (pe_un un_neg pe_int) (nomark _))) (fun _ _ _ _ _ => pv 5))
    (pss_cons (ps_set (i := 6) sc_least_cover.nd rfl (by first | exact .inl rfl | exact .inr rfl) (pe_cal c_set_of (hr.mono (by decide)) passX0 (pa_cons (pv 4) pa_nil)))
    (pss_cons (ps_set (i := 7) sc_least_cover.nd rfl (by first | exact .inl rfl | exact .inr rfl) pe_int)
    (pss_cons (ps_while (passes_of rfl) (pt_cmpR op_gt (pe_callB call_len_seq (by rfl) z_len PySem.boot_len (pa_cons (pv 4) pa_nil)) pe_int (nomark _)) (pss_cons (ps_set (i := 8) sc_least_cover.nd rfl (by first | exact .inl rfl | exact .inr rfl) (pe_op op_and (pe_ix (ix_list.or ix_tup) (pv 0) (pe_bm0 PySem.F.plainAttrs_list PySem.F.slot_list_pop PySem.F.type_list_pop mt_pop (pv 4)) (fun _ _ => rfl)) (pe_un un_inv (pv 7))))
    (pss_cons (ps_set (i := 7) sc_least_cover.nd rfl (by first | exact .inl rfl | exact .inr rfl) (pe_op op_or (pv 7) (pv 8)))
    (pss_cons (ps_setLc (i := 9) (own := [("y", 10)]) (g := gName 10) (tt := tTest (tOp (rNe) (tOp (rIxE K) (tVar 3) (tVar 10)) (tUn (rU fun i => .int (-i)) (tC (.int 1))))) (te := tOp (rIxE K) (tVar 3) (tVar 10)) rfl sc_least_cover.nd rfl rfl (sw_true rfl rfl rfl (by decide +kernel)) (pi_seq (pe_cal c_members (hr.mono (by decide)) passX0 (pa_cons (pv 8) pa_nil))) (blkOk_by (N := N_least_cover) (sc := defScope s_least_cover) (by decide +kernel)) (fun _ _ _ _ _ => pg_name (i := 10) sc_least_cover.nd rfl (by first | exact .inl rfl | exact .inr rfl)) (fun _ _ _ _ _ => pts_one (pt_cmpR op_ne (pe_ix (ix_list.or ix_tup) (pv 3) (pv 10) (fun _ _ => rfl)) (pe_un un_neg pe_int) (nomark _))) (fun _ _ _ _ _ => pe_ix (ix_list.or ix_tup) (pv 3) (pv 10) (fun _ _ => rfl)))
    (pss_cons (ps_set (i := 6) sc_least_cover.nd rfl (by first | exact .inl rfl | exact .inr rfl) (pe_op op_or (pv 6) (pe_cal c_set_of (hr.mono (by decide)) passX0 (pa_cons (pv 9) pa_nil))))
    (pss_one (ps_expr (pe_bm PySem.F.plainAttrs_list PySem.F.slot_list_extend PySem.F.type_list_extend mt_extend (pv 4) (pa_cons (pv 9) pa_nil)))))))))
    (pss_cons (ps_setLc (i := 11) (own := [("x", 5)]) (g := gName 5) (tt := tNot (tB (tCall (PuX K a.cs (m_has a)) [] E0 (tCons (tVar 6) (tCons (tVar 5) tNil))))) (te := tVar 5) rfl sc_least_cover.nd rfl rfl (sw_true rfl rfl rfl (by decide +kernel)) (pi_range1 (by rfl) z_range (pa_cons (pe_callB call_len_seq (by rfl) z_len PySem.boot_len (pa_cons (pv 0) pa_nil)) pa_nil)) (blkOk_by (N := N_least_cover) (sc := defScope s_least_cover) (by decide +kernel)) (fun _ _ _ _ _ => pg_name (i := 5) sc_least_cover.nd rfl (by first | exact .inl rfl | exact .inr rfl)) (fun _ _ _ _ _ => pts_one (pt_not (pt_val (pe_cal c_has (hr.mono (by decide)) passX0 (pa_cons (pv 6) (pa_cons (pv 5) pa_nil)))))) (fun _ _ _ _ _ => pv 5))
    (pss_one (ps_ret (pe_tup (pa_cons (pe_cal c_set_of (hr.mono (by decide)) passX0 (pa_cons (pv 11) pa_nil)) (pa_cons (pv 7) pa_nil))))))))))),
    (se_seq (se_asg (ye_H (e_call (a_cons (e_var 1) (a_cons (e_var 2) a_nil)))) (t_nm 3))
    (se_seq (se_new (f_lc (w_rng1 (a_cons (e_cb n_len (a_cons (e_var 0) a_nil)) a_nil)) (b_tst (e_op o_eqS (e_op o_ix (e_var 2) (e_var 5)) (e_un o_U e_int))) (e_var 5)))
    (se_seq (se_asg (ye_P (e_call (a_cons (e_var 4) a_nil))) (t_nm 6))
    (se_seq (se_asg (ye_H e_int) (t_nm 7))
    (se_seq (se_while (yb_P (b_tst (e_op o_IB (e_cb n_len (a_cons (e_var 4) a_nil)) e_int))) (se_seq (se_asg (ye_2 o_II (ye_2 o_ix (ye_H (e_var 0)) ye_pop) (ye_H (e_un o_U (e_var 7)))) (t_nm 8))
    (se_seq (se_asg (ye_H (e_op o_II (e_var 7) (e_var 8))) (t_nm 7))
    (se_seq (se_asg (ye_H (e_lc (w_seq (e_call (a_cons (e_var 8) a_nil))) (t_nm 10) (b_tst (e_op o_neS (e_op o_ix (e_var 3) (e_var 10)) (e_un o_U e_int))) (e_op o_ix (e_var 3) (e_var 10)))) (t_nm 9))
    (se_seq (se_asg (ye_H (e_op o_II (e_var 6) (e_call (a_cons (e_var 9) a_nil)))) (t_nm 6))
    (se_ext (ye_H (e_var 9))))))))
    (se_frz (i := 0) (o := 4) rfl ((se_seq (se_asg (ye_H (e_lc (w_rng1 (a_cons (e_cb n_len (a_cons (e_var 0) a_nil)) a_nil)) (t_nm 5) (b_tnot (b_tB (e_call (a_cons (e_var 6) (a_cons (e_var 5) a_nil))))) (e_var 5))) (t_nm 11))
    (se_ret (ye_H (e_tup (a_cons (e_call (a_cons (e_var 11) a_nil)) (a_cons (e_var 7) a_nil)))))))))))))⟩
theorem ok_count (F : Fun K "count" "count" s_count f fd) (c_members : Cal P w K mg base (L2.CX P w) 4 "members" ["bits"] (PuX K a.cs (m_members a))) (z_len : mg "len" = none) : FnOk P w K mg base (L2.CX P w) 5 f fd ["bits"] (PuX K a.cs (m_count a)) :=
  fn_mk F sc_count rfl rfl fun cdv A outer s H E hr => ⟨_,
    pss_one (ps_ret (pe_callB call_len_seq (by rfl) z_len PySem.boot_len (pa_cons (pe_cal c_members (hr.mono (by decide)) passX0 (pa_cons (pv 0) pa_nil)) pa_nil))),
    se_ret (ye_H (e_cb n_len (a_cons (e_call (a_cons (e_var 0) a_nil)) a_nil)))⟩
theorem ok_is_integer (F : Fun K "is_integer" "is_integer" s_is_integer f fd) (z_isinstance : mg "isinstance" = none) (z_int : mg "int" = none) (z_bool : mg "bool" = none) : FnOk P w K mg base (L2.CX P w) 1 f fd ["value"] (PuX K a.cs (m_is_integer a)) :=
  fn_mk F sc_is_integer rfl rfl fun cdv A outer s H E hr => ⟨_,
    pss_one (ps_ret (pe_and (pe_callB call_isi (by rfl) z_isinstance (by decide +kernel) (pa_cons (pv 0) (pa_cons (pe_bltn (v := .ty "int") (by rfl) z_int (by decide +kernel) rfl) pa_nil))) (pe_one (pe_not (pe_callB call_isi (by rfl) z_isinstance (by decide +kernel) (pa_cons (pv 0) (pa_cons (pe_bltn (v := .ty "bool") (by rfl) z_bool (by decide +kernel) rfl) pa_nil))))))),
    se_ret (ye_H (e_and (e_isi (e_var 0)) (e_not (e_isi (e_var 0)))))⟩
theorem ok_is_matching (F : Fun K "is_matching" "is_matching" s_is_matching f fd) (z_isinstance : mg "isinstance" = none) (z_tuple : mg "tuple" = none) (z_len : mg "len" = none) (c_is_integer : Cal P w K mg base (L2.CX P w) 1 "is_integer" ["value"] (PuX K a.cs (m_is_integer a))) (z_all : mg "all" = none) (z_enumerate : mg "enumerate" = none) (c_has : Cal P w K mg base (L2.CX P w) 1 "has" ["bits", "x"] (PuX K a.cs (m_has a))) (c_count : Cal P w K mg base (L2.CX P w) 5 "count" ["bits"] (PuX K a.cs (m_count a))) (c_set_of : Cal P w K mg base (L2.CX P w) 1 "set_of" ["points"] (PuX K a.cs (m_set_of a))) : FnOk P w K mg base (L2.CX P w) 6 f fd ["joined", "matching"] (PuX K a.cs (m_is_matching a)) :=
  fn_mk F sc_is_matching rfl rfl fun cdv A outer s H E hr => ⟨_,
    (pss_cons (ps_if ((pw_or (pt_not (pt_val (pe_callB call_isi (by rfl) z_isinstance (by decide +kernel) (pa_cons (pv 1) (pa_cons (pe_bltn (v := .ty "tuple") (by rfl) z_tuple (by decide +kernel) rfl) pa_nil))))) (pw_or1 (pt_cmpR op_ne (pe_callB call_len_seq (by rfl) z_len PySem.boot_len (pa_cons (pv 1) pa_nil)) (pe_callB call_len_seq (by rfl) z_len PySem.boot_len (pa_cons (pv 0) pa_nil)) (nomark _)))).pt) (pss_one (ps_ret pe_bl)) pss_nil)
    (pss_cons (ps_if (pt_not (pt_val (pe_callB (cr_all rfl) (by rfl) z_all (by decide +kernel) (pa_cons (pe_lc (own := [("y", 2)]) (g := gName 2) (tt := tYes) (te := tAndV (tCall (PuX K a.cs (m_is_integer a)) [] E0 (tCons (tVar 2) tNil)) (tOp (rI0 fun i j => .bl (decide (j ≤ i))) (tVar 2) (tUn (rU fun i => .int (-i)) (tC (.int 1))))) rfl sc_is_matching.nd (pi_seq (pv 1)) (blkOk_by (N := N_is_matching) (sc := defScope s_is_matching) (by decide +kernel)) (fun _ _ _ _ _ => pg_name (i := 2) sc_is_matching.nd rfl (by first | exact .inl rfl | exact .inr rfl)) (fun _ _ _ _ _ => pts_nil) (fun _ _ _ _ _ => pe_and (pe_cal c_is_integer (hr.mono (by decide)) passX0 (pa_cons (pv 2) pa_nil)) (pe_one (pe_cmpR op_ge (pv 2) (pe_un un_neg pe_int) (nomark _))))) pa_nil)))) (pss_one (ps_ret pe_bl)) pss_nil)
    (pss_cons (ps_setLc (i := 3) (own := [("x", 4), ("y", 2)]) (g := gTup K 2 (gCons (gName 4) (gCons (gName 2) gNil))) (tt := tTest (tOp (rNe) (tVar 2) (tUn (rU fun i => .int (-i)) (tC (.int 1))))) (te := tTup (tCons (tVar 4) (tCons (tVar 2) tNil))) rfl sc_is_matching.nd rfl rfl (sw_true rfl rfl rfl (by decide +kernel)) (pi_enumA (by rfl) z_enumerate (pa_cons (pv 1) pa_nil)) (blkOk_by (N := N_is_matching) (sc := defScope s_is_matching) (by decide +kernel)) (fun _ _ _ _ _ => pg_tup (by rfl) (pgs_cons (pg_name (i := 4) sc_is_matching.nd rfl (by first | exact .inl rfl | exact .inr rfl)) (pgs_cons (pg_name (i := 2) sc_is_matching.nd rfl (by first | exact .inl rfl | exact .inr rfl)) pgs_nil))) (fun _ _ _ _ _ => pts_one (pt_cmpR op_ne (pv 2) (pe_un un_neg pe_int) (nomark _))) (fun _ _ _ _ _ => pe_tup (pa_cons (pv 4) (pa_cons (pv 2) pa_nil))))
    (pss_cons (ps_if (pt_not (pt_val (pe_callB (cr_all rfl) (by rfl) z_all (by decide +kernel) (pa_cons (pe_lc (own := [("x", 4), ("y", 2)]) (g := gTup K 2 (gCons (gName 4) (gCons (gName 2) gNil))) (tt := tYes) (te := tCall (PuX K a.cs (m_has a)) [] E0 (tCons (tOp (rIxE K) (tVar 0) (tVar 4)) (tCons (tVar 2) tNil))) rfl sc_is_matching.nd (pi_seq (pv 3)) (blkOk_by (N := N_is_matching) (sc := defScope s_is_matching) (by decide +kernel)) (fun _ _ _ _ _ => pg_tup (by rfl) (pgs_cons (pg_name (i := 4) sc_is_matching.nd rfl (by first | exact .inl rfl | exact .inr rfl)) (pgs_cons (pg_name (i := 2) sc_is_matching.nd rfl (by first | exact .inl rfl | exact .inr rfl)) pgs_nil))) (fun _ _ _ _ _ => pts_nil) (fun _ _ _ _ _ => pe_cal c_has (hr.mono (by decide)) passX0 (pa_cons (pe_ix (ix_list.or ix_tup) (pv 0) (pv 4) (fun _ _ => rfl)) (pa_cons (pv 2) pa_nil)))) pa_nil)))) (pss_one (ps_ret pe_bl)) pss_nil)
    (pss_one (ps_ret (pe_cmpR op_eq (pe_cal c_count (hr.mono (by decide)) passX0 (pa_cons (pe_cal c_set_of (hr.mono (by decide)) passX0 (pa_cons (pe_lc (own := [("x", 4), ("y", 2)]) (g := gTup K 2 (gCons (gName 4) (gCons (gName 2) gNil))) (tt := tYes) (te := tVar 2) rfl sc_is_matching.nd (pi_seq (pv 3)) (blkOk_by (N := N_is_matching) (sc := defScope s_is_matching) (by decide +kernel)) (fun _ _ _ _ _ => pg_tup (by rfl) (pgs_cons (pg_name (i := 4) sc_is_matching.nd rfl (by first | exact .inl rfl | exact .inr rfl)) (pgs_cons (pg_name (i := 2) sc_is_matching.nd rfl (by first | exact .inl rfl | exact .inr rfl)) pgs_nil))) (fun _ _ _ _ _ => pts_nil) (fun _ _ _ _ _ => pv 2)) pa_nil)) pa_nil)) (pe_callB call_len_seq (by rfl) z_len PySem.boot_len (pa_cons (pv 3) pa_nil)) (nomark _)))))))),
    (se_seq (se_if (yb_H (b_tor (b_tnot (b_tB (e_isi (e_var 1)))) (b_tst (e_op o_neS (e_cb n_len (a_cons (e_var 1) a_nil)) (e_cb n_len (a_cons (e_var 0) a_nil)))))) (se_ret (ye_H e_bl)) se_next)
    (se_seq (se_if (yb_H (b_tnot (b_tB (e_cb n_all (a_cons (e_lc (w_seq (e_var 1)) (t_nm 2) b_tyes (e_and (e_call (a_cons (e_var 2) a_nil)) (e_op o_IB (e_var 2) (e_un o_U e_int)))) a_nil))))) (se_ret (ye_H e_bl)) se_next)
    (se_seq (se_asg (ye_H (e_lc (w_enumA (e_var 1)) (t_tp (ts_cons (t_nm 4) (ts_cons (t_nm 2) ts_nil))) (b_tst (e_op o_neS (e_var 2) (e_un o_U e_int))) (e_tup (a_cons (e_var 4) (a_cons (e_var 2) a_nil))))) (t_nm 3))
    (se_seq (se_if (yb_H (b_tnot (b_tB (e_cb n_all (a_cons (e_lc (w_seq (e_var 3)) (t_tp (ts_cons (t_nm 4) (ts_cons (t_nm 2) ts_nil))) b_tyes (e_call (a_cons (e_op o_ix (e_var 0) (e_var 4)) (a_cons (e_var 2) a_nil)))) a_nil))))) (se_ret (ye_H e_bl)) se_next)
    (se_ret (ye_H (e_op o_eqS (e_call (a_cons (e_call (a_cons (e_lc (w_seq (e_var 3)) (t_tp (ts_cons (t_nm 4) (ts_cons (t_nm 2) ts_nil))) b_tyes (e_var 2)) a_nil)) a_nil)) (e_cb n_len (a_cons (e_var 3) a_nil)))))))))⟩
theorem ok_is_set (F : Fun K "is_set" "is_set" s_is_set f fd) (c_is_integer : Cal P w K mg base (L2.CX P w) 1 "is_integer" ["value"] (PuX K a.cs (m_is_integer a))) : FnOk P w K mg base (L2.CX P w) 2 f fd ["value", "n"] (PuX K a.cs (m_is_set a)) :=
  fn_mk F sc_is_set rfl rfl fun cdv A outer s H E hr => ⟨_,
    pss_one (ps_ret (pe_and (pe_cal c_is_integer (hr.mono (by decide)) passX0 (pa_cons (pv 0) pa_nil)) (pe_and (pe_cmpR op_ge (pv 0) pe_int (nomark _)) (pe_one (pe_cmpR op_le (pe_bits (pv 0)) (pv 1) (nomark _)))))),
    se_ret (ye_H (e_and (e_call (a_cons (e_var 0) a_nil)) (e_and (e_op o_IB (e_var 0) e_int) (e_op o_IB (e_bits (e_var 0)) (e_var 1)))))⟩
theorem ok_is_part (F : Fun K "is_part" "is_part" s_is_part f fd)  : FnOk P w K mg base (L2.CX P w) 1 f fd ["one", "two"] (PuX K a.cs (m_is_part a)) :=
  fn_mk F sc_is_part rfl rfl fun cdv A outer s H E hr => ⟨_,
    pss_one (ps_ret (pe_cmpR op_eq (pe_op op_and (pv 0) (pv 1)) (pv 0) (nomark _))),
    se_ret (ye_H (e_op o_eqS (e_op o_II (e_var 0) (e_var 1)) (e_var 0)))⟩
theorem ok_is_cover (F : Fun K "is_cover" "is_cover" s_is_cover f fd) (z_isinstance : mg "isinstance" = none) (z_tuple : mg "tuple" = none) (z_len : mg "len" = none) (c_is_set : Cal P w K mg base (L2.CX P w) 2 "is_set" ["value", "n"] (PuX K a.cs (m_is_set a))) (c_is_integer : Cal P w K mg base (L2.CX P w) 1 "is_integer" ["value"] (PuX K a.cs (m_is_integer a))) (z_range : mg "range" = none) (c_has : Cal P w K mg base (L2.CX P w) 1 "has" ["bits", "x"] (PuX K a.cs (m_has a))) (c_is_part : Cal P w K mg base (L2.CX P w) 1 "is_part" ["one", "two"] (PuX K a.cs (m_is_part a))) (z_all : mg "all" = none) : FnOk P w K mg base (L2.CX P w) 3 f fd ["joined", "cover"] (PuX K a.cs (m_is_cover a)) :=
  fn_mk F sc_is_cover rfl rfl fun cdv A outer s H E hr => ⟨_,
    (pss_cons (ps_if ((pw_or (pt_not (pt_val (pe_callB call_isi (by rfl) z_isinstance (by decide +kernel) (pa_cons (pv 1) (pa_cons (pe_bltn (v := .ty "tuple") (by rfl) z_tuple (by decide +kernel) rfl) pa_nil))))) (pw_or1 (pt_cmpR op_ne (pe_callB call_len_seq (by rfl) z_len PySem.boot_len (pa_cons (pv 1) pa_nil)) pe_int (nomark _)))).pt) (pss_one (ps_ret pe_bl)) pss_nil)
    (pss_cons (ps_asg (pv 1) (pg_tup (by rfl) (pgs_cons (pg_name (i := 2) sc_is_cover.nd rfl (by first | exact .inl rfl | exact .inr rfl)) (pgs_cons (pg_name (i := 3) sc_is_cover.nd rfl (by first | exact .inl rfl | exact .inr rfl)) pgs_nil))))
    (pss_cons (ps_if ((pw_or (pt_not (pt_val (pe_cal c_is_set (hr.mono (by decide)) passX0 (pa_cons (pv 2) (pa_cons (pe_callB call_len_seq (by rfl) z_len PySem.boot_len (pa_cons (pv 0) pa_nil)) pa_nil))))) (pw_or (pt_not (pt_val (pe_cal c_is_integer (hr.mono (by decide)) passX0 (pa_cons (pv 3) pa_nil)))) (pw_or1 (pt_cmpR op_lt (pv 3) pe_int (nomark _))))).pt) (pss_one (ps_ret pe_bl)) pss_nil)
    (pss_one (ps_ret (pe_callB (cr_all rfl) (by rfl) z_all (by decide +kernel) (pa_cons (pe_lc (own := [("x", 4)]) (g := gName 4) (tt := tYes) (te := tOrV (tCall (PuX K a.cs (m_has a)) [] E0 (tCons (tVar 2) (tCons (tVar 4) tNil))) (tCall (PuX K a.cs (m_is_part a)) [] E0 (tCons (tOp (rIxE K) (tVar 0) (tVar 4)) (tCons (tVar 3) tNil)))) rfl sc_is_cover.nd (pi_range1 (by rfl) z_range (pa_cons (pe_callB call_len_seq (by rfl) z_len PySem.boot_len (pa_cons (pv 0) pa_nil)) pa_nil)) (blkOk_by (N := N_is_cover) (sc := defScope s_is_cover) (by decide +kernel)) (fun _ _ _ _ _ => pg_name (i := 4) sc_is_cover.nd rfl (by first | exact .inl rfl | exact .inr rfl)) (fun _ _ _ _ _ => pts_nil) (fun _ _ _ _ _ => pe_or (pe_cal c_has (hr.mono (by decide)) passX0 (pa_cons (pv 2) (pa_cons (pv 4) pa_nil))) (pe_one (pe_cal c_is_part (hr.mono (by decide)) passX0 (pa_cons (pe_ix (ix_list.or ix_tup) (pv 0) (pv 4) (fun _ _ => rfl)) (pa_cons (pv 3) pa_nil)))))) pa_nil))))))),
    (se_seq (se_if (yb_H (b_tor (b_tnot (b_tB (e_isi (e_var 1)))) (b_tst (e_op o_neS (e_cb n_len (a_cons (e_var 1) a_nil)) e_int)))) (se_ret (ye_H e_bl)) se_next)
    (se_seq (se_asg (ye_H (e_var 1)) (t_tp (ts_cons (t_nm 2) (ts_cons (t_nm 3) ts_nil))))
    (se_seq (se_if (yb_H (b_tor (b_tnot (b_tB (e_call (a_cons (e_var 2) (a_cons (e_cb n_len (a_cons (e_var 0) a_nil)) a_nil))))) (b_tor (b_tnot (b_tB (e_call (a_cons (e_var 3) a_nil)))) (b_tst (e_op o_IB (e_var 3) e_int))))) (se_ret (ye_H e_bl)) se_next)
    (se_ret (ye_H (e_cb n_all (a_cons (e_lc (w_rng1 (a_cons (e_cb n_len (a_cons (e_var 0) a_nil)) a_nil)) (t_nm 4) b_tyes (e_or (e_call (a_cons (e_var 2) (a_cons (e_var 4) a_nil))) (e_call (a_cons (e_op o_ix (e_var 0) (e_var 4)) (a_cons (e_var 3) a_nil))))) a_nil)))))))⟩
theorem ok_law_bit (F : Fun K "_law_bit" "_law_bit" s_law_bit f fd)  : FnOk P w K mg base (L2.CX P w) 1 f fd ["bits", "y"] (PuX K a.cs (m_law_bit a)) :=
  fn_mk F sc_law_bit rfl rfl fun cdv A outer s H E hr => ⟨_,
    pss_one (ps_ret (pe_cmpR op_eq (pe_op op_mod (pe_op op_fdivW (pv 0) (pe_ix (ix_list.or ix_tup) (pe_lst (pa_cons pe_int (pa_cons pe_int (pa_cons pe_int (pa_cons pe_int (pa_cons pe_int (pa_cons pe_int pa_nil))))))) (pv 1) (fun _ _ => rfl))) pe_int) pe_int (nomark _))),
    se_ret (ye_H (e_op o_eqS (e_op (o_IC c_mod) (e_op (o_IC c_div) (e_var 0) (e_op o_ix (e_lst (a_cons e_int (a_cons e_int (a_cons e_int (a_cons e_int (a_cons e_int (a_cons e_int a_nil))))))) (e_var 1))) e_int) e_int))⟩
set_option maxHeartbeats 0 in
theorem ok_law (F : Fun K "law" "law" s_law f fd) (c_law_numbers : Cal P w K mg base CX0 1 "_law_numbers" ["script"] (spNums K)) (c_law_next : Cal P w K mg base (L2.CX P w) 1 "_law_next" ["numbers", "many"] (PuMX K (m_law_next a))) (z_range : mg "range" = none) (z_tuple : mg "tuple" = none) (c_largest_matching : Cal P w K mg base (L2.CX P w) 5 "largest_matching" ["joined", "right"] (PuX K a.cs (m_largest_matching a))) (c_least_cover : Cal P w K mg base (L2.CX P w) 5 "least_cover" ["joined", "right", "matching"] (PuX K a.cs (m_least_cover a))) (c_law_bit : Cal P w K mg base (L2.CX P w) 1 "_law_bit" ["bits", "y"] (PuX K a.cs (m_law_bit a))) (z_len : mg "len" = none) (c_is_matching : Cal P w K mg base (L2.CX P w) 6 "is_matching" ["joined", "matching"] (PuX K a.cs (m_is_matching a))) (c_is_cover : Cal P w K mg base (L2.CX P w) 3 "is_cover" ["joined", "cover"] (PuX K a.cs (m_is_cover a)))
    (hm : ∀ ms : List Nat, ms.length ≤ 4000 → ∃ e, b_k11 a (none :: some (.lst (ms.map fun m : Nat => Da.int (m : Int))) :: List.replicate 11 none) = .rt (.bl true) e) : FnOk P w K mg base CX0 7 f fd ["script"] (spLaw K) :=
  law_mkN (cs := a.cs) (ow' := [(1, Kd.l)]) F sc_law rfl (fun cdv A outer s H E hr => ⟨_,
    (pss_cons (ps_set (i := 1) sc_law.nd rfl (by first | exact .inl rfl | exact .inr rfl) (pe_cal c_law_numbers (hr.mono (by decide)) pass0 (pa_cons (pv 0) pa_nil)))
    (pss_cons (ps_set (i := 2) sc_law.nd rfl (by first | exact .inl rfl | exact .inr rfl) (pe_cal c_law_next (hr.mono (by decide)) passX0 (pa_cons (pv 1) (pa_cons pe_int pa_nil))))
    (pss_cons (ps_set (i := 3) sc_law.nd rfl (by first | exact .inl rfl | exact .inr rfl) (pe_cal c_law_next (hr.mono (by decide)) passX0 (pa_cons (pv 1) (pa_cons pe_int pa_nil))))
    (pss_cons (ps_set (i := 4) sc_law.nd rfl (by first | exact .inl rfl | exact .inr rfl) (pe_ix (ix_list.or ix_tup) (pe_lst (pa_cons pe_int (pa_cons pe_int (pa_cons pe_int (pa_cons pe_int (pa_cons pe_int (pa_cons pe_int pa_nil))))))) (pv 3) (fun _ _ => rfl)))
    (pss_cons (ps_set (i := 5) sc_law.nd rfl (by first | exact .inl rfl | exact .inr rfl) (pe_tupleOf (by rfl) z_tuple (pe_lc (own := [("turn", 6)]) (g := gName 6) (tt := tYes) (te := tCall (PuMX K (m_law_next a)) [] E0 (tCons (tVar 1) (tCons (tVar 4) tNil))) rfl sc_law.nd (pi_range1 (by rfl) z_range (pa_cons (pv 2) pa_nil)) (blkOk_by (N := N_law) (sc := defScope s_law) (by decide +kernel)) (fun _ _ _ _ _ => pg_name (i := 6) sc_law.nd rfl (by first | exact .inl rfl | exact .inr rfl)) (fun _ _ _ _ _ => pts_nil) (fun _ _ _ _ _ => pe_cal c_law_next (hr.mono (by decide)) passX0 (pa_cons (pv 1) (pa_cons (pv 4) pa_nil))))))
    (pss_cons (ps_set (i := 7) sc_law.nd rfl (by first | exact .inl rfl | exact .inr rfl) (pe_cal c_largest_matching (hr.mono (by decide)) passX0 (pa_cons (pv 5) (pa_cons (pv 3) pa_nil))))
    (pss_cons (ps_set (i := 8) sc_law.nd rfl (by first | exact .inl rfl | exact .inr rfl) (pe_cal c_least_cover (hr.mono (by decide)) passX0 (pa_cons (pv 5) (pa_cons (pv 3) (pa_cons (pv 7) pa_nil)))))
    (pss_cons (ps_set (i := 9) sc_law.nd rfl (by first | exact .inl rfl | exact .inr rfl) (pe_lst pa_nil))
    (pss_cons (ps_for PassesOwn.never rfl (pi_range1 (by rfl) z_range (pa_cons (pv 2) pa_nil)) (pg_name (i := 10) sc_law.nd rfl (by first | exact .inl rfl | exact .inr rfl)) (pss_cons (ps_set (i := 11) sc_law.nd rfl (by first | exact .inl rfl | exact .inr rfl) (pe_ix (ix_list.or ix_tup) (pv 7) (pv 10) (fun _ _ => rfl)))
    (pss_one (ps_if (pt_cmpR op_ne (pv 11) (pe_un un_neg pe_int) (nomark _)) (pss_cons (ps_if ((pw_or (pt_cmpR op_lt (pv 11) pe_int (nomark _)) (pw_or (pt_cmpR op_ge (pv 11) (pv 3) (nomark _)) (pw_or (pt_not (pt_val (pe_cal c_law_bit (hr.mono (by decide)) passX0 (pa_cons (pe_ix (ix_list.or ix_tup) (pv 5) (pv 10) (fun _ _ => rfl)) (pa_cons (pv 11) pa_nil))))) (pw_or1 (pt_cmpR op_in_seq (pv 11) (pv 9) rfl))))).pt) (pss_one (ps_ret pe_bl)) pss_nil)
    (pss_one (ps_expr (pe_bm PySem.F.plainAttrs_list PySem.F.slot_list_append PySem.F.type_list_append mt_append (pv 9) (pa_cons (pv 11) pa_nil))))) pss_nil))))
    (pss_cons (ps_for PassesOwn.never rfl (pi_range1 (by rfl) z_range (pa_cons (pv 2) pa_nil)) (pg_name (i := 10) sc_law.nd rfl (by first | exact .inl rfl | exact .inr rfl)) (pss_one (ps_for PassesOwn.never rfl (pi_range1 (by rfl) z_range (pa_cons (pv 3) pa_nil)) (pg_name (i := 11) sc_law.nd rfl (by first | exact .inl rfl | exact .inr rfl)) (pss_one (ps_if ((pw_and (pt_val (pe_cal c_law_bit (hr.mono (by decide)) passX0 (pa_cons (pe_ix (ix_list.or ix_tup) (pv 5) (pv 10) (fun _ _ => rfl)) (pa_cons (pv 11) pa_nil)))) (pw_and (pt_not (pt_val (pe_cal c_law_bit (hr.mono (by decide)) passX0 (pa_cons (pe_ix (ix_list.or ix_tup) (pv 8) pe_int (fun _ _ => rfl)) (pa_cons (pv 10) pa_nil))))) (pw_and1 (pt_not (pt_val (pe_cal c_law_bit (hr.mono (by decide)) passX0 (pa_cons (pe_ix (ix_list.or ix_tup) (pv 8) pe_int (fun _ _ => rfl)) (pa_cons (pv 11) pa_nil)))))))).pt) (pss_one (ps_ret pe_bl)) pss_nil)))))
    (pss_cons (ps_set (i := 12) sc_law.nd rfl (by first | exact .inl rfl | exact .inr rfl) (pe_op op_add (pe_callB call_len_seq (by rfl) z_len PySem.boot_len (pa_cons (pe_lc (own := [("x", 10)]) (g := gName 10) (tt := tB (tCall (PuX K a.cs (m_law_bit a)) [] E0 (tCons (tOp (rIxE K) (tVar 8) (tC (.int 0))) (tCons (tVar 10) tNil)))) (te := tVar 10) rfl sc_law.nd (pi_range1 (by rfl) z_range (pa_cons (pv 2) pa_nil)) (blkOk_by (N := N_law) (sc := defScope s_law) (by decide +kernel)) (fun _ _ _ _ _ => pg_name (i := 10) sc_law.nd rfl (by first | exact .inl rfl | exact .inr rfl)) (fun _ _ _ _ _ => pts_one (pt_val (pe_cal c_law_bit (hr.mono (by decide)) passX0 (pa_cons (pe_ix (ix_list.or ix_tup) (pv 8) pe_int (fun _ _ => rfl)) (pa_cons (pv 10) pa_nil))))) (fun _ _ _ _ _ => pv 10)) pa_nil)) (pe_callB call_len_seq (by rfl) z_len PySem.boot_len (pa_cons (pe_lc (own := [("y", 11)]) (g := gName 11) (tt := tB (tCall (PuX K a.cs (m_law_bit a)) [] E0 (tCons (tOp (rIxE K) (tVar 8) (tC (.int 1))) (tCons (tVar 11) tNil)))) (te := tVar 11) rfl sc_law.nd (pi_range1 (by rfl) z_range (pa_cons (pv 3) pa_nil)) (blkOk_by (N := N_law) (sc := defScope s_law) (by decide +kernel)) (fun _ _ _ _ _ => pg_name (i := 11) sc_law.nd rfl (by first | exact .inl rfl | exact .inr rfl)) (fun _ _ _ _ _ => pts_one (pt_val (pe_cal c_law_bit (hr.mono (by decide)) passX0 (pa_cons (pe_ix (ix_list.or ix_tup) (pv 8) pe_int (fun _ _ => rfl)) (pa_cons (pv 11) pa_nil))))) (fun _ _ _ _ _ => pv 11)) pa_nil))))
    (pss_cons (ps_if ((pw_or (pt_cmpR op_ne (pe_callB call_len_seq (by rfl) z_len PySem.boot_len (pa_cons (pv 7) pa_nil)) (pv 2) (nomark _)) (pw_or1 (pt_cmpR op_ne (pv 12) (pe_callB call_len_seq (by rfl) z_len PySem.boot_len (pa_cons (pv 9) pa_nil)) (nomark _)))).pt) (pss_one (ps_ret pe_bl)) pss_nil)
    (pss_cons (ps_if ((pw_or (pt_not (pt_val (pe_cal c_is_matching (hr.mono (by decide)) passX0 (pa_cons (pv 5) (pa_cons (pv 7) pa_nil))))) (pw_or (pt_not (pt_val (pe_cal c_is_cover (hr.mono (by decide)) passX0 (pa_cons (pv 5) (pa_cons (pv 8) pa_nil))))) (pw_or1 (pt_val (pe_cal c_is_matching (hr.mono (by decide)) passX0 (pa_cons (pv 5) (pa_cons (pe_op op_catA (pv 7) (pe_tup (pa_cons (pe_un un_neg pe_int) pa_nil))) pa_nil))))))).pt) (pss_one (ps_ret pe_bl)) pss_nil)
    (pss_cons (ps_for PassesOwn.never rfl (pi_range1 (by rfl) z_range (pa_cons (pv 2) pa_nil)) (pg_name (i := 10) sc_law.nd rfl (by first | exact .inl rfl | exact .inr rfl)) (pss_one (ps_for PassesOwn.never rfl (pi_range1 (by rfl) z_range (pa_cons (pv 3) pa_nil)) (pg_name (i := 11) sc_law.nd rfl (by first | exact .inl rfl | exact .inr rfl)) (pss_one (ps_if (pt_not (pt_val (pe_cal c_law_bit (hr.mono (by decide)) passX0 (pa_cons (pe_ix (ix_list.or ix_tup) (pv 5) (pv 10) (fun _ _ => rfl)) (pa_cons (pv 11) pa_nil))))) (pss_one (ps_if (pt_val (pe_cal c_is_matching (hr.mono (by decide)) passX0 (pa_cons (pv 5) (pa_cons (pe_op op_catA (pe_op op_catA (pe_slice sl_tupA (pv 7) po_none (po_some (pv 10))) (pe_tup (pa_cons (pv 11) pa_nil))) (pe_slice sl_tupA (pv 7) (po_some (pe_op op_add (pv 10) pe_int)) po_none)) pa_nil)))) (pss_one (ps_ret pe_bl)) pss_nil)) (pss_one (ps_if (pt_val (pe_cal c_is_cover (hr.mono (by decide)) passX0 (pa_cons (pv 5) (pa_cons (pe_tup (pa_cons (pe_op op_sub (pe_ix (ix_list.or ix_tup) (pv 8) pe_int (fun _ _ => rfl)) (pe_ix (ix_list.or ix_tup) (pv 8) pe_int (fun _ _ => rfl))) (pa_cons pe_int pa_nil))) pa_nil)))) (pss_one (ps_ret pe_bl)) pss_nil)))))))
    (pss_cons (ps_if ((pw_and (pt_cmpR op_gt (pe_callB call_len_seq (by rfl) z_len PySem.boot_len (pa_cons (pv 9) pa_nil)) pe_int (nomark _)) (pw_and1 (pt_cmpR op_gt (pv 2) pe_int (nomark _)))).pt) (pss_one (ps_ret (pe_not (pe_cal c_is_matching (hr.mono (by decide)) passX0 (pa_cons (pe_tup (pa_cons (pe_ix (ix_list.or ix_tup) (pv 5) pe_int (fun _ _ => rfl)) (pa_cons (pe_ix (ix_list.or ix_tup) (pv 5) pe_int (fun _ _ => rfl)) pa_nil))) (pa_cons (pe_tup (pa_cons (pe_ix (ix_list.or ix_tup) (pv 9) pe_int (fun _ _ => rfl)) (pa_cons (pe_ix (ix_list.or ix_tup) (pv 9) pe_int (fun _ _ => rfl)) pa_nil))) pa_nil)))))) pss_nil)
    (pss_one (ps_ret pe_bl))))))))))))))))),
    (se_seq (se_asg (ye_M (ya_cons (ye_H e_int) ya_nil)) (t_nm 2))
    (se_seq (se_asg (ye_M (ya_cons (ye_H e_int) ya_nil)) (t_nm 3))
    (se_seq (se_asg (ye_H (e_op o_ix (e_lst (a_cons e_int (a_cons e_int (a_cons e_int (a_cons e_int (a_cons e_int (a_cons e_int a_nil))))))) (e_var 3))) (t_nm 4))
    (se_seq (se_asg (ye_tupOf (ye_lc (yi_H (w_rng1 (a_cons (e_var 2) a_nil))) yb_yes (ye_M (ya_cons (ye_H (e_var 4)) ya_nil)))) (t_nm 5))
    (se_seq (se_asg (ye_H (e_call (a_cons (e_var 5) (a_cons (e_var 3) a_nil)))) (t_nm 7))
    (se_seq (se_asg (ye_H (e_call (a_cons (e_var 5) (a_cons (e_var 3) (a_cons (e_var 7) a_nil))))) (t_nm 8))
    (se_seq (se_new (f_lst a_nil))
    (se_seq (se_for (yi_H (w_rng1 (a_cons (e_var 2) a_nil))) (t_nm 10) (se_seq (se_asg (ye_H (e_op o_ix (e_var 7) (e_var 10))) (t_nm 11))
    (se_if (yb_H (b_tst (e_op o_neS (e_var 11) (e_un o_U e_int)))) (se_seq (se_if (yb_P (b_tor (b_tst (e_op o_IB (e_var 11) e_int)) (b_tor (b_tst (e_op o_IB (e_var 11) (e_var 3))) (b_tor (b_tnot (b_tB (e_call (a_cons (e_op o_ix (e_var 5) (e_var 10)) (a_cons (e_var 11) a_nil))))) (b_tst (e_op o_in (e_var 11) (e_var 9))))))) (se_ret (ye_H e_bl)) se_next)
    (se_app (ye_H (e_var 11)))) se_next)))
    (se_frz (i := 0) (o := 9) rfl ((se_seq (se_for (yi_H (w_rng1 (a_cons (e_var 2) a_nil))) (t_nm 10) (se_for (yi_H (w_rng1 (a_cons (e_var 3) a_nil))) (t_nm 11) (se_if (yb_H (b_tand (b_tB (e_call (a_cons (e_op o_ix (e_var 5) (e_var 10)) (a_cons (e_var 11) a_nil)))) (b_tand (b_tnot (b_tB (e_call (a_cons (e_op o_ix (e_var 8) e_int) (a_cons (e_var 10) a_nil))))) (b_tnot (b_tB (e_call (a_cons (e_op o_ix (e_var 8) e_int) (a_cons (e_var 11) a_nil)))))))) (se_ret (ye_H e_bl)) se_next)))
    (se_seq (se_asg (ye_H (e_op o_II (e_cb n_len (a_cons (e_lc (w_rng1 (a_cons (e_var 2) a_nil)) (t_nm 10) (b_tB (e_call (a_cons (e_op o_ix (e_var 8) e_int) (a_cons (e_var 10) a_nil)))) (e_var 10)) a_nil)) (e_cb n_len (a_cons (e_lc (w_rng1 (a_cons (e_var 3) a_nil)) (t_nm 11) (b_tB (e_call (a_cons (e_op o_ix (e_var 8) e_int) (a_cons (e_var 11) a_nil)))) (e_var 11)) a_nil)))) (t_nm 12))
    (se_seq (se_if (yb_H (b_tor (b_tst (e_op o_neS (e_cb n_len (a_cons (e_var 7) a_nil)) (e_var 2))) (b_tst (e_op o_neS (e_var 12) (e_cb n_len (a_cons (e_var 9) a_nil)))))) (se_ret (ye_H e_bl)) se_next)
    (se_seq (se_if (yb_H (b_tor (b_tnot (b_tB (e_call (a_cons (e_var 5) (a_cons (e_var 7) a_nil))))) (b_tor (b_tnot (b_tB (e_call (a_cons (e_var 5) (a_cons (e_var 8) a_nil))))) (b_tB (e_call (a_cons (e_var 5) (a_cons (e_op o_catT (e_var 7) (e_tup (a_cons (e_un o_U e_int) a_nil))) a_nil))))))) (se_ret (ye_H e_bl)) se_next)
    (se_seq (se_for (yi_H (w_rng1 (a_cons (e_var 2) a_nil))) (t_nm 10) (se_for (yi_H (w_rng1 (a_cons (e_var 3) a_nil))) (t_nm 11) (se_if (yb_H (b_tnot (b_tB (e_call (a_cons (e_op o_ix (e_var 5) (e_var 10)) (a_cons (e_var 11) a_nil)))))) (se_if (yb_H (b_tB (e_call (a_cons (e_var 5) (a_cons (e_op o_catT (e_op o_catT (e_slT (e_var 7) o_noP (o_part (e_var 10))) (e_tup (a_cons (e_var 11) a_nil))) (e_slT (e_var 7) (o_part (e_op o_II (e_var 10) e_int)) o_noP)) a_nil))))) (se_ret (ye_H e_bl)) se_next) (se_if (yb_H (b_tB (e_call (a_cons (e_var 5) (a_cons (e_tup (a_cons (e_op o_II (e_op o_ix (e_var 8) e_int) (e_op o_ix (e_var 8) e_int)) (a_cons e_int a_nil))) a_nil))))) (se_ret (ye_H e_bl)) se_next))))
    (se_seq (se_if (yb_H (b_tand (b_tst (e_op o_IB (e_cb n_len (a_cons (e_var 9) a_nil)) e_int)) (b_tst (e_op o_IB (e_var 2) e_int)))) (se_ret (ye_H (e_not (e_call (a_cons (e_tup (a_cons (e_op o_ix (e_var 5) e_int) (a_cons (e_op o_ix (e_var 5) e_int) a_nil))) (a_cons (e_tup (a_cons (e_op o_ix (e_var 9) e_int) (a_cons (e_op o_ix (e_var 9) e_int) a_nil))) a_nil)))))) se_next)
    (se_ret (ye_H e_bl))))))))))))))))))⟩) hm
end
end OF
namespace Mi
open PySem PySem.Spec PyProof.Rows L2 Fo
variable [Nm]
theorem mVar_ap (i : Nat) (e : Env) : mVar i e = (match e[i]? with
  | some (some d) => .ok d
  | _ => .bad : Rs Da) := rfl
theorem mC_ap (d : Da) (e : Env) : mC d e = (.ok d : Rs Da) := rfl
theorem m1_ap (f : Da → Rs Da) (a : ME) (e : Env) : m1 f a e = ((a e).bind f : Rs Da) := rfl
theorem m2_ap (f : Da → Da → Rs Da) (a b : ME) (e : Env) : m2 f a b e = ((a e).bind fun x => (b e).bind fun y => f x y : Rs Da) := rfl
theorem mNil_ap (e : Env) : mNil  e = (.ok [] : Rs (List Da)) := rfl
theorem mCons_ap (a : ME) (r : MA) (e : Env) : mCons a r e = ((a e).bind fun x => (r e).bind fun xs => .ok (x :: xs) : Rs (List Da)) := rfl
theorem mN_ap (f : List Da → Rs Da) (a : MA) (e : Env) : mN f a e = ((a e).bind f : Rs Da) := rfl
theorem mTup_ap (a : MA) (e : Env) : mTup a e = ((a e).bind fun xs => .ok (.tup xs) : Rs Da) := rfl
theorem mLst_ap (a : MA) (e : Env) : mLst a e = ((a e).bind fun xs => .ok (.lst xs) : Rs Da) := rfl
theorem mT_ap (a : ME) (e : Env) : mT a e = ((a e).bind fBl : Rs Bool) := rfl
theorem mTNot_ap (a : MT) (e : Env) : mTNot a e = ((a e).bind fun b => .ok (!b) : Rs Bool) := rfl
theorem mTAnd_ap (a b : MT) (e : Env) : mTAnd a b e = ((a e).bind fun x => if x then b e else .ok false : Rs Bool) := rfl
theorem mTOr_ap (a b : MT) (e : Env) : mTOr a b e = ((a e).bind fun x => if x then .ok true else b e : Rs Bool) := rfl
theorem mYes_ap (e : Env) : mYes  e = (.ok true : Rs Bool) := rfl
theorem mAnd_ap (a b : ME) (e : Env) : mAnd a b e = ((mT a e).bind fun x => if x then b e else .ok (.bl false) : Rs Da) := rfl
theorem mOr_ap (a b : ME) (e : Env) : mOr a b e = ((mT a e).bind fun x => if x then .ok (.bl true) else b e : Rs Da) := rfl
theorem mNot_ap (a : ME) (e : Env) : mNot a e = ((mT a e).bind fun x => .ok (.bl (!x)) : Rs Da) := rfl
theorem mIf_ap (t : MT) (a b : ME) (e : Env) : mIf t a b e = ((t e).bind fun x => if x then a e else b e : Rs Da) := rfl
theorem mChain_ap (f g : Da → Da → Rs Da) (a b c : ME) (e : Env) : mChain f g a b c e = ((a e).bind fun x => (b e).bind fun y => (f x y).bind fun z => match z with
  | .bl true => (c e).bind fun u => (g y u).bind fun q => match q with
    | .bl k => .ok (.bl k)
    | _ => .bad
  | .bl false => .ok (.bl false)
  | _ => .bad : Rs Da) := rfl
theorem mRng1_ap (a : MA) (e : Env) : mRng1 a e = ((a e).bind fun xs => match xs with
  | [.int n] => if -1000000 ≤ n ∧ n ≤ 1000000 then .ok (rng 0 n.toNat) else .bad
  | _ => .bad : Rs (List Da)) := rfl
theorem mRng2_ap (a : MA) (e : Env) : mRng2 a e = ((a e).bind fun xs => match xs with
  | [.int lo, .int n] => if -1000000 ≤ n ∧ n ≤ 1000000 ∧ -1000000 ≤ lo ∧ lo ≤ 1000000 then .ok (rng lo (n - lo).toNat) else .bad
  | _ => .bad : Rs (List Da)) := rfl
theorem mSeq_ap (a : ME) (e : Env) : mSeq a e = ((a e).bind seqOf : Rs (List Da)) := rfl
theorem mRngV_ap (a : ME) (e : Env) : mRngV a e = ((a e).bind fun x => match x with
  | .rng lo hi => if -1000000 ≤ lo ∧ lo ≤ 1000000 ∧ -1000000 ≤ hi ∧ hi ≤ 1000000 then .ok (rng lo (hi - lo).toNat) else .bad
  | _ => .bad : Rs (List Da)) := rfl
theorem mEnum_ap (a : ME) (e : Env) : mEnum a e = ((a e).bind fun x => (lstOf x).bind fun ds => .ok (ds.mapIdx fun i d => .tup [.int (i : Int), d]) : Rs (List Da)) := rfl
theorem mRev_ap (a : ME) (e : Env) : mRev a e = ((a e).bind fun x => (lstOf x).bind fun ds => .ok ds.reverse : Rs (List Da)) := rfl
theorem mLc_ap (w : MA) (tg : Tg) (t : MT) (v : ME) (vs : List Nat) (e : Env) : mLc w tg t v vs e = ((w e).bind fun ds => if ds.length ≤ 500000 then (lcRun tg t v (wipeG e vs) ds).bind fun r => .ok (.lst r) else .bad : Rs Da) := rfl
theorem mLc2_ap (w : MA) (tg : Tg) (t : MT) (w1 : MA) (tg1 : Tg) (t1 : MT) (v : ME) (vs vs1 : List Nat) (e : Env) : mLc2 w tg t w1 tg1 t1 v vs vs1 e = ((w e).bind fun ds => (lc2Run tg t w1 tg1 t1 v vs1 (wipeG e vs) ds).bind fun r => if r.length ≤ 500000 then .ok (.lst r) else .bad : Rs Da) := rfl
theorem yH_ap (l : List Nat) (me : ME) (e : Env) : yH l me e = (match me (hide l e) with
  | .ok d => .ok (d, e)
  | _ => .bad : Rs (Da × Env)) := rfl
theorem yP_ap (me : ME) (e : Env) : yP me e = (match me e with
  | .ok d => if (sca d).isSome then .ok (d, e) else .bad
  | _ => .bad : Rs (Da × Env)) := rfl
theorem ybH_ap (l : List Nat) (mt : MT) (e : Env) : ybH l mt e = (match mt (hide l e) with
  | .ok d => .ok (d, e)
  | _ => .bad : Rs (Bool × Env)) := rfl
theorem ybP_ap (mt : MT) (e : Env) : ybP mt e = (match mt e with
  | .ok d => .ok (d, e)
  | _ => .bad : Rs (Bool × Env)) := rfl
theorem yaH_ap (l : List Nat) (ma : MA) (e : Env) : yaH l ma e = (match ma (hide l e) with
  | .ok d => .ok (d, e)
  | _ => .bad : Rs (List Da × Env)) := rfl
theorem y1_ap (f : Da → Rs Da) (y : YM) (e : Env) : y1 f y e = ((y e).bind fun p => match f p.1 with
  | .ok d => .ok (d, p.2)
  | _ => .bad : Rs (Da × Env)) := rfl
theorem y2_ap (f : Da → Da → Rs Da) (y z : YM) (e : Env) : y2 f y z e = ((y e).bind fun p => (z p.2).bind fun q => match f p.1 q.1 with
  | .ok d => .ok (d, q.2)
  | _ => .bad : Rs (Da × Env)) := rfl
theorem yNil_ap (e : Env) : yNil  e = (.ok ([], e) : Rs (List Da × Env)) := rfl
theorem yCons_ap (y : YM) (ya : YAM) (e : Env) : yCons y ya e = ((y e).bind fun p => (ya p.2).bind fun q => .ok (p.1 :: q.1, q.2) : Rs (List Da × Env)) := rfl
theorem yN_ap (f : List Da → Rs Da) (ya : YAM) (e : Env) : yN f ya e = ((ya e).bind fun p => match f p.1 with
  | .ok d => .ok (d, p.2)
  | _ => .bad : Rs (Da × Env)) := rfl
theorem yX_ap (f : List Da → Rs Da) (ya : YAM) (e : Env) : yX f ya e = ((ya e).bind fun p => (f p.1).bind fun d => .ok (d, p.2) : Rs (Da × Env)) := rfl
theorem yTup_ap (ya : YAM) (e : Env) : yTup ya e = ((ya e).bind fun p => .ok (.tup p.1, p.2) : Rs (Da × Env)) := rfl
theorem yLst_ap (ya : YAM) (e : Env) : yLst ya e = ((ya e).bind fun p => .ok (.lst p.1, p.2) : Rs (Da × Env)) := rfl
theorem yT_ap (y : YM) (e : Env) : yT y e = ((y e).bind fun p => match p.1 with
  | .bl b => .ok (b, p.2)
  | _ => .bad : Rs (Bool × Env)) := rfl
theorem yTNot_ap (yb : YBM) (e : Env) : yTNot yb e = ((yb e).bind fun p => .ok (!p.1, p.2) : Rs (Bool × Env)) := rfl
theorem yTAnd_ap (yb yc : YBM) (e : Env) : yTAnd yb yc e = ((yb e).bind fun p => if p.1 then yc p.2 else .ok (false, p.2) : Rs (Bool × Env)) := rfl
theorem yTOr_ap (yb yc : YBM) (e : Env) : yTOr yb yc e = ((yb e).bind fun p => if p.1 then .ok (true, p.2) else yc p.2 : Rs (Bool × Env)) := rfl
theorem yIf_ap (yb : YBM) (y z : YM) (e : Env) : yIf yb y z e = ((yb e).bind fun p => if p.1 then y p.2 else z p.2 : Rs (Da × Env)) := rfl
theorem yAnd_ap (y z : YM) (e : Env) : yAnd y z e = ((yT y e).bind fun p => if p.1 then z p.2 else .ok (.bl false, p.2) : Rs (Da × Env)) := rfl
theorem yOr_ap (y z : YM) (e : Env) : yOr y z e = ((yT y e).bind fun p => if p.1 then .ok (.bl true, p.2) else z p.2 : Rs (Da × Env)) := rfl
theorem yNot_ap (y : YM) (e : Env) : yNot y e = ((yT y e).bind fun p => .ok (.bl (!p.1), p.2) : Rs (Da × Env)) := rfl
theorem yM_ap (o : Nat) (m : List Da → List Da → Rs (Da × List Da)) (ya : YAM) (e : Env) : yM o m ya e = ((ya e).bind fun p => (lstAt p.2 o).bind fun st => match m st p.1 with
  | .ok q => .ok (q.1, p.2.set o (some (.lst q.2)))
  | _ => .bad : Rs (Da × Env)) := rfl
theorem yPop_ap (o : Nat) (e : Env) : yPop o e = ((lstAt e o).bind fun ds => match ds[ds.length - 1]? with
  | some d => .ok (d, e.set o (some (.lst ds.dropLast)))
  | none => .bad : Rs (Da × Env)) := rfl
theorem yPopAt_ap (o : Nat) (y : YM) (e : Env) : yPopAt o y e = ((y e).bind fun p => (lstAt p.2 o).bind fun ds => match p.1 with
  | .int i => if 0 ≤ i ∧ i.toNat < 1000000 then match ds[i.toNat]? with
    | some d => .ok (d, p.2.set o (some (.lst (ds.eraseIdx i.toNat))))
    | none => .bad
    else .bad
  | _ => .bad : Rs (Da × Env)) := rfl
theorem sNext_ap (e : Env) : sNext  e = (.nx e : Rst) := rfl
theorem sBreak_ap (e : Env) : sBreak  e = (.bk e : Rst) := rfl
theorem sCont_ap (e : Env) : sCont  e = (.ct e : Rst) := rfl
theorem sRaise_ap (x : Xc) (e : Env) : sRaise x e = (.ex x : Rst) := rfl
theorem sSeq_ap (a b : SM) (e : Env) : sSeq a b e = (match a e with
  | .nx e1 => b e1
  | r => r : Rst) := rfl
theorem sAsg_ap (tg : Tg) (y : YM) (e : Env) : sAsg tg y e = (match y e with
  | .ok p => match bindT tg p.1 p.2 with
    | some e1 => .nx e1
    | none => .bad
  | .bad => .bad
  | .ex x => .ex x : Rst) := rfl
theorem sNew_ap (i : Nat) (l : List Nat) (me : ME) (e : Env) : sNew i l me e = (match me (hide l e) with
  | .ok d => if i < e.length then .nx (e.set i (some d)) else .bad
  | _ => .bad : Rst) := rfl
theorem sDrop_ap (y : YM) (e : Env) : sDrop y e = (match y e with
  | .ok p => .nx p.2
  | .bad => .bad
  | .ex x => .ex x : Rst) := rfl
theorem sRet_ap (y : YM) (e : Env) : sRet y e = (match y e with
  | .ok p => .rt p.1 p.2
  | .bad => .bad
  | .ex x => .ex x : Rst) := rfl
theorem sRetN_ap (e : Env) : sRetN  e = (.rt .non e : Rst) := rfl
theorem sIf_ap (yb : YBM) (a b : SM) (e : Env) : sIf yb a b e = (match yb e with
  | .ok p => if p.1 then a p.2 else b p.2
  | .bad => .bad
  | .ex x => .ex x : Rst) := rfl
theorem sFor_ap (ya : YAM) (tg : Tg) (body : SM) (e : Env) : sFor ya tg body e = (match ya e with
  | .ok p => forRun tg body p.1 p.2
  | .bad => .bad
  | .ex x => .ex x : Rst) := rfl
theorem sWhile_ap (yb : YBM) (body : SM) (e : Env) : sWhile yb body e = ((whRun yb body wFuel) e : Rst) := rfl
theorem sPar_ap (i j : Nat) (ya : YAM) (e : Env) : sPar i j ya e = (match ya e with
  | .ok p => match p.1 with
    | [a, b] => .nx ((p.2.set i (some a)).set j (some b))
    | _ => .bad
  | .bad => .bad
  | .ex x => .ex x : Rst) := rfl
theorem sApp_ap (o : Nat) (y : YM) (e : Env) : sApp o y e = (match y e with
  | .ok p => match lstAt p.2 o with
    | .ok ds => if ds.length < 1000000 then .nx (p.2.set o (some (.lst (ds ++ [p.1])))) else .bad
    | _ => .bad
  | .bad => .bad
  | .ex x => .ex x : Rst) := rfl
theorem sExt_ap (o : Nat) (y : YM) (e : Env) : sExt o y e = (match y e with
  | .ok p => match lstAt p.2 o, p.1 with
    | .ok ds, .lst es => if ds.length + es.length ≤ 1000000 then .nx (p.2.set o (some (.lst (ds ++ es)))) else .bad
    | _, _ => .bad
  | .bad => .bad
  | .ex x => .ex x : Rst) := rfl
theorem sSet_ap (o : Nat) (yi y : YM) (e : Env) : sSet o yi y e = (match y e with
  | .ok p => match yi p.2 with
    | .ok q => match lstAt q.2 o, q.1 with
      | .ok ds, .int i => match ixN ds.length i with
        | some k => .nx (q.2.set o (some (.lst (ds.set k p.1))))
        | none => .bad
      | _, _ => .bad
    | .bad => .bad
    | .ex x => .ex x
  | .bad => .bad
  | .ex x => .ex x : Rst) := rfl
theorem sDelLast_ap (o : Nat) (e : Env) : sDelLast o e = (match lstAt e o with
  | .ok ds => .nx (e.set o (some (.lst ds.dropLast)))
  | _ => .bad : Rst) := rfl
theorem mNoP_ap (e : Env) : mNoP  e = (.ok none : Rs (Option Int)) := rfl
theorem mPart_ap (a : ME) (e : Env) : mPart a e = ((a e).bind fun d => match d with
  | .int i => .ok (some i)
  | _ => .bad : Rs (Option Int)) := rfl
theorem mSlL_ap (a : ME) (lo hi : MO) (e : Env) : mSlL a lo hi e = ((a e).bind fun x => (lo e).bind fun l => (hi e).bind fun h => (lstOf x).bind fun ds => .ok (.lst (cutL ds l h)) : Rs Da) := rfl
theorem mSlT_ap (a : ME) (lo hi : MO) (e : Env) : mSlT a lo hi e = ((a e).bind fun x => (lo e).bind fun l => (hi e).bind fun h => (tupOf x).bind fun ds => .ok (.tup (cutL ds l h)) : Rs Da) := rfl
theorem yRng1_ap (ya : YAM) (e : Env) : yRng1 ya e = ((ya e).bind fun p => match p.1 with
  | [.int n] => if -1000000 ≤ n ∧ n ≤ 1000000 then .ok (rng 0 n.toNat, p.2) else .bad
  | _ => .bad : Rs (List Da × Env)) := rfl
theorem yRng2_ap (ya : YAM) (e : Env) : yRng2 ya e = ((ya e).bind fun p => match p.1 with
  | [.int lo, .int n] => if -1000000 ≤ n ∧ n ≤ 1000000 ∧ -1000000 ≤ lo ∧ lo ≤ 1000000 then .ok (rng lo (n - lo).toNat, p.2) else .bad
  | _ => .bad : Rs (List Da × Env)) := rfl
theorem ySeq_ap (y : YM) (e : Env) : ySeq y e = ((y e).bind fun p => (seqOf p.1).bind fun ds => .ok (ds, p.2) : Rs (List Da × Env)) := rfl
theorem yMeth_ap (C : Addr) (nm : Str) (m : List Da → Rs Da) (y : YM) (ya : YAM) (e : Env) : yMeth C nm m y ya e = ((y e).bind fun p => match p.1 with
  | .ins C' ns fs => if C' = C ∧ nm ∉ ns then (ya p.2).bind fun q => (m (.ins C ns fs :: q.1)).bind fun d => .ok (d, q.2) else .bad
  | _ => .bad : Rs (Da × Env)) := rfl
theorem iFld_ap (f : Str) (y : YM) (e : Env) (ns : List Str) (ds : List Da) : iFld f y e ns ds = (match y e with
  | .ok p => if f ∉ ns ∧ ns.length < 100 ∧ ns.length = ds.length then .ok (ns ++ [f], ds ++ [p.1]) else .bad
  | .bad => .bad
  | .ex x => .ex x : Rs (List Str × List Da)) := rfl
theorem iFldS_ap (f : Str) (y : YM) (r : IM) (e : Env) (ns : List Str) (ds : List Da) : iFldS f y r e ns ds = (match y e with
  | .ok p => if f ∉ ns ∧ ns.length < 100 ∧ ns.length = ds.length then r e (ns ++ [f]) (ds ++ [p.1]) else .bad
  | .bad => .bad
  | .ex x => .ex x : Rs (List Str × List Da)) := rfl
theorem iSeq_ap (s : SM) (r : IM) (e : Env) (ns : List Str) (ds : List Da) : iSeq s r e ns ds = (match s e with
  | .nx e1 => r e1 ns ds
  | .ex x => .ex x
  | _ => .bad : Rs (List Str × List Da)) := rfl
theorem sSet2_ap (o : Nat) (yx yy y : YM) (e : Env) : sSet2 o yx yy y e = (match y e with
  | .ok p => match yx p.2 with
    | .ok px => match lstAt px.2 o, px.1 with
      | .ok ds, .int x => match rowAt ds x with
        | .ok row => match yy px.2 with
          | .ok py => match py.1 with
            | .int z => match ixN row.length z with
              | some k => .nx (py.2.set o (some (.lst (ds.set x.toNat (.lst (row.set k p.1))))))
              | none => .bad
            | _ => .bad
          | _ => .bad
        | _ => .bad
      | _, _ => .bad
    | _ => .bad
  | .bad => .bad
  | .ex x => .ex x : Rst) := rfl
theorem sSwap_ap (o : Nat) (yi yj y : YM) (e : Env) : sSwap o yi yj y e = (match y e with
  | .ok p => match p.1 with
    | .tup [d1, d2] => match setAt o yi d1 p.2 with
      | .ok e1 => match setAt o yj d2 e1 with
        | .ok e2 => .nx e2
        | _ => .bad
      | _ => .bad
    | _ => .bad
  | .bad => .bad
  | .ex x => .ex x : Rst) := rfl
theorem runD_ap (np nl : Nat) (body : SM) (ds : List Da) : runD np nl body ds = if ds.length = np then (match body (ds.map some ++ List.replicate nl none) with
  | .rt d _ => .ok d
  | .nx _ => .ok .non
  | .ex x => .ex x
  | _ => .bad)
  else .bad := rfl
theorem runM_ap (np nl : Nat) (body : SM) (st ds : List Da) : runM np nl body st ds = if ds.length = np then (match body (some (.lst st) :: (ds.map some ++ List.replicate nl none)) with
  | .rt d e => match lstAt e 0 with
    | .ok st2 => .ok (d, st2)
    | _ => .bad
  | _ => .bad)
  else .bad := rfl
theorem runI_ap (C : Addr) (np nl : Nat) (im : IM) (ds : List Da) : runI C np nl im ds = if ds.length = np then (match im (none :: (ds.map some ++ List.replicate nl none)) [] [] with
  | .ok p => .ok (.ins C p.1 p.2)
  | .ex x => .ex x
  | .bad => .bad)
  else .bad := rfl
theorem ex_bind {α β : Type} (x : Xc) (f : α → Rs β) : (Rs.ex x).bind f = .ex x := rfl
theorem seqOf_lst (ds : List Da) : seqOf (.lst ds) = .ok ds := rfl
theorem seqOf_tup (ds : List Da) : seqOf (.tup ds) = .ok ds := rfl
theorem lstOf_lst (ds : List Da) : lstOf (.lst ds) = .ok ds := rfl
theorem tupOf_tup (ds : List Da) : tupOf (.tup ds) = .ok ds := rfl
theorem fBl_bl (b : Bool) : fBl (.bl b) = .ok b := rfl
theorem getR_some (d : Da) : getR (some d) = .ok d := rfl
theorem sca_int (i : Int) : sca (.int i) = some (.int i) := rfl
theorem sca_bl (i : Bool) : sca (.bl i) = some (.bl i) := rfl
theorem sca_str (i : Str) : sca (.str i) = some (.str i) := rfl
theorem sca_non : sca .non = some .non := rfl
theorem fLen_1 (d : Da) : fLen [d] = (seqOf d).bind fun ds => .ok (.int ds.length) := rfl
theorem fRange1_int (j : Int) : fRange1 [.int j] = .ok (.rng 0 j) := rfl
theorem fTupOf_1 (d : Da) : fTupOf d = (seqOf d).bind fun ds => .ok (.tup ds) := rfl
theorem fListOf_1 (d : Da) : fListOf [d] = (seqOf d).bind fun ds => .ok (.lst ds) := rfl
theorem fRevT_1 (d : Da) : fRevT d = (tupOf d).bind fun ds => .ok (.tup ds.reverse) := rfl
theorem fII_int (g : Int → Int → Int) (i j : Int) : fII g (.int i) (.int j) = .ok (.int (g i j)) := rfl
theorem fIB_int (g : Int → Int → Bool) (i j : Int) : fIB g (.int i) (.int j) = .ok (.bl (g i j)) := rfl
theorem fU_int (g : Int → Int) (i : Int) : fU g (.int i) = .ok (.int (g i)) := rfl
theorem fBits_int (i : Int) : fBits (.int i) = .ok (.int (Builtin.Int.intBits i : Nat)) := rfl
theorem fInt1_int (i : Int) : fInt1 [.int i] = .ok (.int i) := rfl
theorem fIsi_tt (ds : List Da) : fIsi "tuple" (.tup ds) = .ok (.bl true) := by
  have : kitB "tuple" "tuple" = some true := by decide +kernel
  show (match kitB "tuple" "tuple" with | some b => Rs.ok (Da.bl b) | none => .bad) = _
  rw [this]
theorem fIsi_tl (ds : List Da) : fIsi "tuple" (.lst ds) = .ok (.bl false) := by
  have : kitB "list" "tuple" = some false := by decide +kernel
  show (match kitB "list" "tuple" with | some b => Rs.ok (Da.bl b) | none => .bad) = _
  rw [this]
theorem fIsi_ti (i : Int) : fIsi "tuple" (.int i) = .ok (.bl false) := by
  have : kitB "int" "tuple" = some false := by decide +kernel
  show (match kitB "int" "tuple" with | some b => Rs.ok (Da.bl b) | none => .bad) = _
  rw [this]
theorem fIsi_ii (i : Int) : fIsi "int" (.int i) = .ok (.bl true) := by
  have : kitB "int" "int" = some true := by decide +kernel
  show (match kitB "int" "int" with | some b => Rs.ok (Da.bl b) | none => .bad) = _
  rw [this]
theorem fIsi_bi (i : Int) : fIsi "bool" (.int i) = .ok (.bl false) := by
  have : kitB "int" "bool" = some false := by decide +kernel
  show (match kitB "int" "bool" with | some b => Rs.ok (Da.bl b) | none => .bad) = _
  rw [this]
theorem fIsi_ib (i : Bool) : fIsi "int" (.bl i) = .ok (.bl true) := by
  have : kitB "bool" "int" = some true := by decide +kernel
  show (match kitB "bool" "int" with | some b => Rs.ok (Da.bl b) | none => .bad) = _
  rw [this]
theorem fIsi_bb (i : Bool) : fIsi "bool" (.bl i) = .ok (.bl true) := by
  have : kitB "bool" "bool" = some true := by decide +kernel
  show (match kitB "bool" "bool" with | some b => Rs.ok (Da.bl b) | none => .bad) = _
  rw [this]
theorem fIsi2_l (ds : List Da) : fIsi2 "list" "tuple" (.lst ds) = .ok (.bl true) := by
  have h1 : kitB "list" "list" = some true := by decide +kernel
  have h2 : kitB "list" "tuple" = some false := by decide +kernel
  show (match kitB "list" "list", kitB "list" "tuple" with | some b1, some b2 => Rs.ok (Da.bl (b1 || b2)) | _, _ => .bad) = _
  rw [h1, h2]
  rfl
theorem fIsi2_t (ds : List Da) : fIsi2 "list" "tuple" (.tup ds) = .ok (.bl true) := by
  have h1 : kitB "tuple" "list" = some false := by decide +kernel
  have h2 : kitB "tuple" "tuple" = some true := by decide +kernel
  show (match kitB "tuple" "list", kitB "tuple" "tuple" with | some b1, some b2 => Rs.ok (Da.bl (b1 || b2)) | _, _ => .bad) = _
  rw [h1, h2]
  rfl
theorem rep_0 : List.replicate 0 (none : Option Da) = [] := rfl
theorem rep_1 : List.replicate 1 (none : Option Da) = [none] := rfl
theorem rep_2 : List.replicate 2 (none : Option Da) = [none, none] := rfl
theorem rep_3 : List.replicate 3 (none : Option Da) = [none, none, none] := rfl
theorem rep_4 : List.replicate 4 (none : Option Da) = [none, none, none, none] := rfl
theorem rep_5 : List.replicate 5 (none : Option Da) = [none, none, none, none, none] := rfl
theorem rep_6 : List.replicate 6 (none : Option Da) = [none, none, none, none, none, none] := rfl
theorem rep_7 : List.replicate 7 (none : Option Da) = [none, none, none, none, none, none, none] := rfl
theorem rep_8 : List.replicate 8 (none : Option Da) = [none, none, none, none, none, none, none, none] := rfl
theorem rep_9 : List.replicate 9 (none : Option Da) = [none, none, none, none, none, none, none, none, none] := rfl
theorem rep_10 : List.replicate 10 (none : Option Da) = [none, none, none, none, none, none, none, none, none, none] := rfl
theorem rep_11 : List.replicate 11 (none : Option Da) = [none, none, none, none, none, none, none, none, none, none, none] := rfl
theorem rep_12 : List.replicate 12 (none : Option Da) = [none, none, none, none, none, none, none, none, none, none, none, none] := rfl
theorem rep_13 : List.replicate 13 (none : Option Da) = [none, none, none, none, none, none, none, none, none, none, none, none, none] := rfl
theorem rep_14 : List.replicate 14 (none : Option Da) = [none, none, none, none, none, none, none, none, none, none, none, none, none, none] := rfl
theorem rep_15 : List.replicate 15 (none : Option Da) = [none, none, none, none, none, none, none, none, none, none, none, none, none, none, none] := rfl
theorem rep_16 : List.replicate 16 (none : Option Da) = [none, none, none, none, none, none, none, none, none, none, none, none, none, none, none, none] := rfl
theorem rep_17 : List.replicate 17 (none : Option Da) = [none, none, none, none, none, none, none, none, none, none, none, none, none, none, none, none, none] := rfl
theorem rep_18 : List.replicate 18 (none : Option Da) = [none, none, none, none, none, none, none, none, none, none, none, none, none, none, none, none, none, none] := rfl
theorem rep_19 : List.replicate 19 (none : Option Da) = [none, none, none, none, none, none, none, none, none, none, none, none, none, none, none, none, none, none, none] := rfl
theorem rep_20 : List.replicate 20 (none : Option Da) = [none, none, none, none, none, none, none, none, none, none, none, none, none, none, none, none, none, none, none, none] := rfl
theorem rep_21 : List.replicate 21 (none : Option Da) = [none, none, none, none, none, none, none, none, none, none, none, none, none, none, none, none, none, none, none, none, none] := rfl
theorem rep_22 : List.replicate 22 (none : Option Da) = [none, none, none, none, none, none, none, none, none, none, none, none, none, none, none, none, none, none, none, none, none, none] := rfl
theorem rep_23 : List.replicate 23 (none : Option Da) = [none, none, none, none, none, none, none, none, none, none, none, none, none, none, none, none, none, none, none, none, none, none, none] := rfl
theorem rep_24 : List.replicate 24 (none : Option Da) = [none, none, none, none, none, none, none, none, none, none, none, none, none, none, none, none, none, none, none, none, none, none, none, none] := rfl
theorem rep_25 : List.replicate 25 (none : Option Da) = [none, none, none, none, none, none, none, none, none, none, none, none, none, none, none, none, none, none, none, none, none, none, none, none, none] := rfl
theorem rep_26 : List.replicate 26 (none : Option Da) = [none, none, none, none, none, none, none, none, none, none, none, none, none, none, none, none, none, none, none, none, none, none, none, none, none, none] := rfl
theorem rep_27 : List.replicate 27 (none : Option Da) = [none, none, none, none, none, none, none, none, none, none, none, none, none, none, none, none, none, none, none, none, none, none, none, none, none, none, none] := rfl
theorem rep_28 : List.replicate 28 (none : Option Da) = [none, none, none, none, none, none, none, none, none, none, none, none, none, none, none, none, none, none, none, none, none, none, none, none, none, none, none, none] := rfl
theorem rep_29 : List.replicate 29 (none : Option Da) = [none, none, none, none, none, none, none, none, none, none, none, none, none, none, none, none, none, none, none, none, none, none, none, none, none, none, none, none, none] := rfl
theorem rep_30 : List.replicate 30 (none : Option Da) = [none, none, none, none, none, none, none, none, none, none, none, none, none, none, none, none, none, none, none, none, none, none, none, none, none, none, none, none, none, none] := rfl
theorem rep_31 : List.replicate 31 (none : Option Da) = [none, none, none, none, none, none, none, none, none, none, none, none, none, none, none, none, none, none, none, none, none, none, none, none, none, none, none, none, none, none, none] := rfl
theorem rep_32 : List.replicate 32 (none : Option Da) = [none, none, none, none, none, none, none, none, none, none, none, none, none, none, none, none, none, none, none, none, none, none, none, none, none, none, none, none, none, none, none, none] := rfl
theorem rep_33 : List.replicate 33 (none : Option Da) = [none, none, none, none, none, none, none, none, none, none, none, none, none, none, none, none, none, none, none, none, none, none, none, none, none, none, none, none, none, none, none, none, none] := rfl
theorem rep_34 : List.replicate 34 (none : Option Da) = [none, none, none, none, none, none, none, none, none, none, none, none, none, none, none, none, none, none, none, none, none, none, none, none, none, none, none, none, none, none, none, none, none, none] := rfl
theorem rep_35 : List.replicate 35 (none : Option Da) = [none, none, none, none, none, none, none, none, none, none, none, none, none, none, none, none, none, none, none, none, none, none, none, none, none, none, none, none, none, none, none, none, none, none, none] := rfl
theorem rep_36 : List.replicate 36 (none : Option Da) = [none, none, none, none, none, none, none, none, none, none, none, none, none, none, none, none, none, none, none, none, none, none, none, none, none, none, none, none, none, none, none, none, none, none, none, none] := rfl
theorem rep_37 : List.replicate 37 (none : Option Da) = [none, none, none, none, none, none, none, none, none, none, none, none, none, none, none, none, none, none, none, none, none, none, none, none, none, none, none, none, none, none, none, none, none, none, none, none, none] := rfl
theorem rep_38 : List.replicate 38 (none : Option Da) = [none, none, none, none, none, none, none, none, none, none, none, none, none, none, none, none, none, none, none, none, none, none, none, none, none, none, none, none, none, none, none, none, none, none, none, none, none, none] := rfl
theorem rep_39 : List.replicate 39 (none : Option Da) = [none, none, none, none, none, none, none, none, none, none, none, none, none, none, none, none, none, none, none, none, none, none, none, none, none, none, none, none, none, none, none, none, none, none, none, none, none, none, none] := rfl
theorem rep_40 : List.replicate 40 (none : Option Da) = [none, none, none, none, none, none, none, none, none, none, none, none, none, none, none, none, none, none, none, none, none, none, none, none, none, none, none, none, none, none, none, none, none, none, none, none, none, none, none, none] := rfl
section
variable {K : PySem.W.Frag} {a : Ax} {e e1 e2 : Env} {tg : Tg} {body : SM} {α β σ : Type}
theorem for_fold (g : α → Da) (f : σ → α → σ) (P : σ → Env → Prop) : ∀ (xs : List α) (s : σ) (e : Env), (∀ s x e, x ∈ xs → P s e → ∃ e1 e2, bindT tg (g x) e = some e1 ∧ (body e1 = .nx e2 ∨ body e1 = .ct e2) ∧ P (f s x) e2) → P s e → ∃ e2, forRun tg body (xs.map g) e = .nx e2 ∧ P (xs.foldl f s) e2
  | [], s, e, _, h => ⟨e, rfl, h⟩
  | x :: xs, s, e, hs, h => by
    obtain ⟨e1, e2, h1, h2, h3⟩ := hs s x e List.mem_cons_self h
    obtain ⟨e3, h4, h5⟩ := for_fold g f P xs (f s x) e2 (fun s y e hy hp => hs s y e (List.mem_cons_of_mem _ hy) hp) h3
    refine ⟨e3, ?_, h5⟩
    show forRun tg body (g x :: xs.map g) e = _
    unfold forRun
    rw [h1]
    rcases h2 with h2 | h2 <;> simp only [h2] <;> exact h4
theorem for_inv (g : α → Da) (I : List α → Env → Prop) : ∀ (xs done : List α) (e : Env), (∀ d1 x d2 e, xs = d1 ++ x :: d2 → I (done ++ d1) e → ∃ e1 e2, bindT tg (g x) e = some e1 ∧ (body e1 = .nx e2 ∨ body e1 = .ct e2) ∧ I (done ++ d1 ++ [x]) e2) → I done e → ∃ e2, forRun tg body (xs.map g) e = .nx e2 ∧ I (done ++ xs) e2
  | [], done, e, _, h => ⟨e, rfl, by rw [List.append_nil]; exact h⟩
  | x :: xs, done, e, hs, h => by
    obtain ⟨e1, e2, h1, h2, h3⟩ := hs [] x xs e rfl (by rw [List.append_nil]; exact h)
    rw [List.append_nil] at h3
    obtain ⟨e3, h4, h5⟩ := for_inv g I xs (done ++ [x]) e2 (fun d1 y d2 e hq hp => by
      have := hs (x :: d1) y d2 e (by rw [hq]; rfl) (by rw [List.append_assoc] at hp; exact hp)
      rw [List.append_assoc done [x]]
      exact this) h3
    refine ⟨e3, ?_, by rw [List.append_assoc] at h5; exact h5⟩
    show forRun tg body (g x :: xs.map g) e = _
    unfold forRun
    rw [h1]
    rcases h2 with h2 | h2 <;> simp only [h2] <;> exact h4
theorem wh_run {yb : YBM} (I : σ → Env → Prop) (μ : σ → Nat) (Q : Env → Prop) (step : ∀ s e, I s e → (∃ e1, yb e = .ok (false, e1) ∧ Q e1) ∨ ∃ s2 e1 e2, yb e = .ok (true, e1) ∧ (body e1 = .nx e2 ∨ body e1 = .ct e2) ∧ I s2 e2 ∧ μ s2 < μ s) : ∀ (n : Nat) (s : σ) (e : Env), I s e → μ s < n → ∃ e1, whRun yb body n e = .nx e1 ∧ Q e1
  | 0, s, e, _, h => absurd h (by omega)
  | n + 1, s, e, hi, h => by
    unfold whRun
    rcases step s e hi with ⟨e1, h1, h2⟩ | ⟨s2, e1, e2, h1, h2, h3, h4⟩
    · exact ⟨e1, by simp [h1], h2⟩
    · obtain ⟨e3, h5, h6⟩ := wh_run I μ Q step n s2 e2 h3 (by omega)
      exact ⟨e3, by rcases h2 with h2 | h2 <;> simp only [h1, h2, if_true] <;> exact h5, h6⟩
theorem wh_go {yb : YBM} (I : σ → Env → Prop) (μ : σ → Nat) (Q : Env → Prop) (s : σ) (step : ∀ s e, I s e → (∃ e1, yb e = .ok (false, e1) ∧ Q e1) ∨ ∃ s2 e1 e2, yb e = .ok (true, e1) ∧ (body e1 = .nx e2 ∨ body e1 = .ct e2) ∧ I s2 e2 ∧ μ s2 < μ s) (h0 : I s e) (hm : μ s < 1000000) : ∃ e1, whRun yb body wFuel e = .nx e1 ∧ Q e1 := wh_run I μ Q step _ s e h0 hm
theorem lc_ok (g : α → Da) (p : α → Bool) (f : α → Da) {t : MT} {v : ME} : ∀ (xs : List α), (∀ x ∈ xs, ∃ e1, bindT tg (g x) e = some e1 ∧ t e1 = .ok (p x) ∧ (p x = true → v e1 = .ok (f x))) → lcRun tg t v e (xs.map g) = .ok ((xs.filter p).map f)
  | [], _ => rfl
  | x :: xs, h => by
    obtain ⟨e1, h1, h2, h3⟩ := h x List.mem_cons_self
    have ih := lc_ok g p f (t := t) (v := v) xs fun y hy => h y (List.mem_cons_of_mem _ hy)
    show lcRun tg t v e (g x :: xs.map g) = _
    unfold lcRun
    rw [h1]
    show (t e1).bind _ = _
    rw [h2, ok_bind, List.filter_cons]
    cases hp : p x with
    | true =>
      rw [if_pos rfl, h3 hp, ok_bind, ih, ok_bind, if_pos rfl]
      rfl
    | false =>
      rw [if_neg Bool.false_ne_true, ih, if_neg Bool.false_ne_true]
theorem lc_yes (g : α → Da) (f : α → Da) {v : ME} (xs : List α) (h : ∀ x ∈ xs, ∃ e1, bindT tg (g x) e = some e1 ∧ v e1 = .ok (f x)) : lcRun tg mYes v e (xs.map g) = .ok (xs.map f) := by
  rw [lc_ok g (fun _ => true) f xs fun x hx => by
    obtain ⟨e1, h1, h2⟩ := h x hx
    exact ⟨e1, h1, rfl, fun _ => h2⟩]
  rw [List.filter_eq_self.mpr fun _ _ => rfl]
end
def dNs (l : List Nat) : List Da := l.map fun x : Nat => Da.int (x : Int)
theorem dNs_len (l : List Nat) : (dNs l).length = l.length := by unfold dNs; rw [List.length_map]
theorem rng_nat (n : Nat) : rng 0 n = dNs (List.range n) := by
  unfold rng dNs
  exact List.map_congr_left fun i _ => by rw [Int.zero_add]
theorem rng_natC (n : Nat) : rng 0 (n : Int).toNat = dNs (List.range n) := rng_nat n
theorem atI_nat {α : Type} (xs : List α) (i : Nat) : atI xs (i : Int) = xs[i]? := by
  unfold atI ixN
  by_cases h : i < xs.length
  · rw [if_pos (by omega), if_pos (by omega)]
    rfl
  · rw [if_pos (by omega), if_neg (by omega), List.getElem?_eq_none (by omega)]
    rfl
theorem ixN_nat {n i : Nat} (h : i < n) : ixN n (i : Int) = some i := by
  unfold ixN
  rw [if_pos (by omega), if_pos (by omega)]
  rfl
theorem fIx_lst (ds : List Da) (i : Nat) : fIx (.lst ds) (.int (i : Int)) = getR ds[i]? := by
  show getR (atI ds i) = _
  rw [atI_nat]
theorem fIx_tup (ds : List Da) (i : Nat) : fIx (.tup ds) (.int (i : Int)) = getR ds[i]? := by
  show getR (atI ds i) = _
  rw [atI_nat]
theorem fIx_lst0 (ds : List Da) : fIx (.lst ds) (.int 0) = getR ds[0]? := fIx_lst ds 0
theorem fIx_tup0 (ds : List Da) : fIx (.tup ds) (.int 0) = getR ds[0]? := fIx_tup ds 0
theorem fIx_tup1 (ds : List Da) : fIx (.tup ds) (.int 1) = getR ds[1]? := fIx_tup ds 1
theorem fIC_ok {c : Int → Int → Bool} {g : Int → Int → Int} {i j : Int} (h : c i j = true) : fIC c g (.int i) (.int j) = .ok (.int (g i j)) := by
  show (if c i j = true then _ else _) = _
  rw [if_pos h]
theorem shr_ok (b x : Nat) : fIC cShr (fun i j => i / 2 ^ j.toNat) (.int (b : Int)) (.int (x : Int)) = .ok (.int ((b >>> x : Nat) : Int)) := by
  rw [fIC_ok (by unfold cShr; rw [decide_eq_true_iff]; omega)]
  congr 2
  rw [Nat.shiftRight_eq_div_pow]
  show (b : Int) / 2 ^ x = _
  norm_cast
theorem shl_one {x : Nat} (h : x ≤ 100000000) : fIC cShl (fun i j => i * 2 ^ j.toNat) (.int 1) (.int (x : Int)) = .ok (.int ((2 ^ x : Nat) : Int)) := by
  rw [fIC_ok (by
    unfold cShl
    rw [decide_eq_true_iff]
    have : Builtin.Int.intBits 1 = 1 := by decide
    rw [this]
    omega)]
  congr 2
  show (1 : Int) * 2 ^ x = _
  rw [Int.one_mul]
  norm_cast
theorem eqS_int (i j : Int) : fEqS false (.int i) (.int j) = .ok (.bl (decide (i = j))) := by
  show Rs.ok (Da.bl (decide (V.int i = V.int j))) = _
  congr 2
  exact decide_eq_decide.mpr ⟨fun h => by cases h; rfl, fun h => by rw [h]⟩
theorem neS_int (i j : Int) : fEqS true (.int i) (.int j) = .ok (.bl (!decide (i = j))) := by
  show Rs.ok (Da.bl (!decide (V.int i = V.int j))) = _
  congr 3
  exact decide_eq_decide.mpr ⟨fun h => by cases h; rfl, fun h => by rw [h]⟩
theorem eqS_nat (i j : Nat) : fEqS false (.int (i : Int)) (.int (j : Int)) = .ok (.bl (decide (i = j))) := by
  rw [eqS_int]
  congr 2
  exact decide_eq_decide.mpr (by omega)
theorem neS_nat (i j : Nat) : fEqS true (.int (i : Int)) (.int (j : Int)) = .ok (.bl (!decide (i = j))) := by
  rw [neS_int]
  congr 3
  exact decide_eq_decide.mpr (by omega)
theorem blsOf_map {α : Type} (f : α → Bool) : ∀ xs : List α, blsOf (xs.map fun x => Da.bl (f x)) = .ok (xs.map f)
  | [] => rfl
  | x :: xs => by
    show (Rs.ok (f x)).bind (fun b => (blsOf (xs.map fun x => Da.bl (f x))).bind fun bs => .ok (b :: bs)) = _
    rw [ok_bind, blsOf_map f xs, ok_bind]
    rfl
theorem fAll_map {α : Type} (f : α → Bool) (xs : List α) : fAll [.lst (xs.map fun x => Da.bl (f x))] = .ok (.bl (xs.all f)) := by
  show (blsOf _).bind _ = _
  rw [blsOf_map, ok_bind, List.all_map]
  rfl
def Go (Q : Env → Prop) : Rst → Prop
  | .nx e => Q e
  | .ct e => Q e
  | _ => False
theorem Go_nx (Q : Env → Prop) (e : Env) : Go Q (.nx e) = Q e := rfl
theorem Go_ct (Q : Env → Prop) (e : Env) : Go Q (.ct e) = Q e := rfl
theorem Go.out {Q : Env → Prop} : ∀ {r : Rst}, Go Q r → ∃ e, (r = .nx e ∨ r = .ct e) ∧ Q e
  | .nx e, h => ⟨e, .inl rfl, h⟩
  | .ct e, h => ⟨e, .inr rfl, h⟩
def Rt (d : Da) : Rst → Prop
  | .rt d' _ => d' = d
  | _ => False
theorem Rt_rt (d d' : Da) (e : Env) : Rt d (.rt d' e) = (d' = d) := rfl
theorem Rt.out {d : Da} : ∀ {r : Rst}, Rt d r → ∃ e, r = .rt d e
  | .rt _ e, h => ⟨e, by cases (show _ = d from h); rfl⟩
def Bk (Q : Env → Prop) : Rst → Prop
  | .bk e => Q e
  | _ => False
theorem Bk_bk (Q : Env → Prop) (e : Env) : Bk Q (.bk e) = Q e := rfl
theorem Bk.out {Q : Env → Prop} : ∀ {r : Rst}, Bk Q r → ∃ e, r = .bk e ∧ Q e
  | .bk e, h => ⟨e, rfl, h⟩
section
variable {e : Env} {tg : Tg} {body : SM} {α σ : Type} {ds : List Da} {r : Rst} {R : Rs (List Da)}
theorem for_fold_of (hR : forRun tg body ds e = r) (g : α → Da) (f : σ → α → σ) (P : σ → Env → Prop) (xs : List α) (s : σ) (hds : ds = xs.map g) (h0 : P s e) (hs : ∀ s x e, x ∈ xs → P s e → ∃ e1, bindT tg (g x) e = some e1 ∧ Go (P (f s x)) (body e1)) : ∃ e2, r = .nx e2 ∧ P (xs.foldl f s) e2 := by
  subst hds hR
  exact for_fold g f P xs s e (fun s x e hx hp => by
    obtain ⟨e1, h1, h2⟩ := hs s x e hx hp
    obtain ⟨e2, h2⟩ := h2.out
    exact ⟨e1, e2, h1, h2⟩) h0
theorem for_inv_of (hR : forRun tg body ds e = r) (g : α → Da) (I : List α → Env → Prop) (xs : List α) (hds : ds = xs.map g) (h0 : I [] e) (hs : ∀ d1 x d2 e, xs = d1 ++ x :: d2 → I d1 e → ∃ e1, bindT tg (g x) e = some e1 ∧ Go (I (d1 ++ [x])) (body e1)) : ∃ e2, r = .nx e2 ∧ I xs e2 := by
  subst hds hR
  exact for_inv g I xs [] e (fun d1 x d2 e hx hp => by
    obtain ⟨e1, h1, h2⟩ := hs d1 x d2 e hx hp
    obtain ⟨e2, h2⟩ := h2.out
    exact ⟨e1, e2, h1, h2⟩) h0
theorem wh_of {yb : YBM} (hR : whRun yb body wFuel e = r) (I : σ → Env → Prop) (μ : σ → Nat) (Q : Env → Prop) (s : σ) (h0 : I s e) (hm : μ s < 1000000) (step : ∀ s e, I s e → (∃ e1, yb e = .ok (false, e1) ∧ Q e1) ∨ ∃ e1, yb e = .ok (true, e1) ∧ Go (fun e2 => ∃ s2, I s2 e2 ∧ μ s2 < μ s) (body e1)) : ∃ e1, r = .nx e1 ∧ Q e1 := by
  subst hR
  exact wh_go I μ Q s (fun s e hi => by
    rcases step s e hi with h | ⟨e1, h1, h2⟩
    · exact .inl h
    · obtain ⟨e2, h2, s2, h3, h4⟩ := h2.out
      exact .inr ⟨s2, e1, e2, h1, h2, h3, h4⟩) h0 hm
theorem lc_of {t : MT} {v : ME} (hR : lcRun tg t v e ds = R) (g : α → Da) (p : α → Bool) (f : α → Da) (xs : List α) (hds : ds = xs.map g) (h : ∀ x ∈ xs, ∃ e1, bindT tg (g x) e = some e1 ∧ t e1 = .ok (p x) ∧ (p x = true → v e1 = .ok (f x))) : R = .ok ((xs.filter p).map f) := by
  subst hds hR
  exact lc_ok g p f xs h
theorem lcy_of {v : ME} (hR : lcRun tg mYes v e ds = R) (g : α → Da) (f : α → Da) (xs : List α) (hds : ds = xs.map g) (h : ∀ x ∈ xs, ∃ e1, bindT tg (g x) e = some e1 ∧ v e1 = .ok (f x)) : R = .ok (xs.map f) := by
  subst hds hR
  exact lc_yes g f xs h
end
theorem neg_ok1 : ((-1000000 : Int) ≤ 0) = True := eq_true (by decide)
theorem neg_ok2 : ((0 : Int) ≤ 1000000) = True := eq_true (by decide)
section
variable {e : Env} {tg : Tg} {body : SM} {α σ : Type} {ds : List Da} {r : Rst}
end
def Rq (Q : Da → Env → Prop) : Rst → Prop
  | .rt d e => Q d e
  | _ => False
theorem Rq_rt (Q : Da → Env → Prop) (d : Da) (e : Env) : Rq Q (.rt d e) = Q d e := rfl
theorem Rq.out {Q : Da → Env → Prop} : ∀ {r : Rst}, Rq Q r → ∃ d e, r = .rt d e ∧ Q d e
  | .rt d e, h => ⟨d, e, rfl, h⟩
section
variable {e : Env} {body : SM} {σ : Type} {r : Rst}
theorem wh_ret {yb : YBM} (I : σ → Env → Prop) (μ : σ → Nat) (Q : Env → Prop) (Q2 : Da → Env → Prop) (step : ∀ s e, I s e → (∃ e1, yb e = .ok (false, e1) ∧ Q e1) ∨ ∃ e1, yb e = .ok (true, e1) ∧ (Go (fun e2 => ∃ s2, I s2 e2 ∧ μ s2 < μ s) (body e1) ∨ Rq Q2 (body e1))) : ∀ (n : Nat) (s : σ) (e : Env), I s e → μ s < n → (∃ e1, whRun yb body n e = .nx e1 ∧ Q e1) ∨ ∃ d e1, whRun yb body n e = .rt d e1 ∧ Q2 d e1
  | 0, s, e, _, h => absurd h (by omega)
  | n + 1, s, e, hi, h => by
    unfold whRun
    rcases step s e hi with ⟨e1, h1, h2⟩ | ⟨e1, h1, h2 | h2⟩
    · exact .inl ⟨e1, by simp [h1], h2⟩
    · obtain ⟨e2, h2, s2, h3, h4⟩ := h2.out
      have := wh_ret I μ Q Q2 step n s2 e2 h3 (by omega)
      rcases h2 with h2 | h2 <;> simp only [h1, h2, if_true] <;> exact this
    · obtain ⟨d, e2, h2, h3⟩ := h2.out
      exact .inr ⟨d, e2, by simp only [h1, h2, if_true], h3⟩
theorem wh_ret_of {yb : YBM} (hR : whRun yb body wFuel e = r) (I : σ → Env → Prop) (μ : σ → Nat) (Q : Env → Prop) (Q2 : Da → Env → Prop) (s : σ) (h0 : I s e) (hm : μ s < 1000000) (step : ∀ s e, I s e → (∃ e1, yb e = .ok (false, e1) ∧ Q e1) ∨ ∃ e1, yb e = .ok (true, e1) ∧ (Go (fun e2 => ∃ s2, I s2 e2 ∧ μ s2 < μ s) (body e1) ∨ Rq Q2 (body e1))) : (∃ e1, r = .nx e1 ∧ Q e1) ∨ ∃ d e1, r = .rt d e1 ∧ Q2 d e1 := by
  subst hR
  exact wh_ret I μ Q Q2 step _ s e h0 hm
end
theorem runB_ap (i np nl : Nat) (body : SM) (st ds : List Da) : runB i np nl body st ds = if ds.length = np ∧ i ≤ np then (match body ((ds.take i).map some ++ some (.lst st) :: ((ds.drop i).map some ++ List.replicate nl none)) with
  | .rt d e => match lstAt e i with
    | .ok st2 => .ok (d, st2)
    | _ => .bad
  | _ => .bad)
  else .bad := rfl
theorem yZip_ap (o1 o2 : Nat) (e : Env) : yZip o1 o2 e = ((lstAt e o1).bind fun xs => (lstAt e o2).bind fun ys => if xs.length = ys.length ∧ xs.length ≤ 1000000 then .ok (.lst (prD xs ys), e) else .bad) := rfl
theorem yB_ap (o : Nat) (m : List Da → List Da → Rs (Da × List Da)) (y : YM) (ya : YAM) (e : Env) : yB o m y ya e = ((y e).bind fun r => (ya r.2).bind fun p => (lstAt p.2 o).bind fun st => match m st (r.1 :: p.1) with
  | .ok q => .ok (q.1, p.2.set o (some (.lst q.2)))
  | _ => .bad) := rfl
theorem yLc_ap (l : List Nat) (ya : YAM) (j : Nat) (tb : YBM) (y : YM) (vs : List Nat) (e : Env) : yLc l ya j tb y vs e = ((ya e).bind fun p => if p.1.length ≤ 500000 then (ylcRun l j tb y vs p.1 (bring l e p.2)).bind fun r => .ok (.lst r.1, r.2) else .bad) := rfl
theorem sNewY_ap (i : Nat) (y : YM) (e : Env) : sNewY i y e = (if i < e.length then (match y e with
  | .ok p => Rst.nx (p.2.set i (some p.1))
  | .bad => .bad
  | .ex x => .ex x)
  else .bad) := rfl
theorem ybYes_ap (e : Env) : ybYes e = .ok (true, e) := rfl
theorem ylcRun_nil (l : List Nat) (j : Nat) (tb : YBM) (y : YM) (vs : List Nat) (e : Env) : ylcRun l j tb y vs [] e = .ok ([], e) := rfl
section
variable {l : List Nat} {j : Nat} {tb : YBM} {y : YM} {vs : List Nat} {e : Env} {ds : List Da} {R : Rs (List Da × Env)} {α : Type}
theorem ylc_go (g : α → Da) (I : List α → List Da → Env → Prop) : ∀ (xs done : List α) (acc : List Da) (e : Env), (∀ d1 x d2 acc e, xs = d1 ++ x :: d2 → I (done ++ d1) acc e → ∃ b e1, tb ((wipeG e vs).set j (some (g x))) = .ok (b, e1) ∧
      (b = true → ∃ v e2, y (bring l ((wipeG e vs).set j (some (g x))) e1) = .ok (v, e2) ∧ I (done ++ d1 ++ [x]) (acc ++ [v]) (bring l e e2)) ∧ (b = false → I (done ++ d1 ++ [x]) acc (bring l e e1))) → I done acc e → ∃ r e2, ylcRun l j tb y vs (xs.map g) e = .ok (r, e2) ∧ I (done ++ xs) (acc ++ r) e2
  | [], done, acc, e, _, h => ⟨[], e, rfl, by rw [List.append_nil, List.append_nil]; exact h⟩
  | x :: xs, done, acc, e, hs, h => by
    obtain ⟨b, e1, h1, h2, h3⟩ := hs [] x xs acc e rfl (by rw [List.append_nil]; exact h)
    rw [List.append_nil] at h2 h3
    have hs2 : ∀ d1 y' d2 acc e, xs = d1 ++ y' :: d2 → I (done ++ [x] ++ d1) acc e → ∃ b e1, tb ((wipeG e vs).set j (some (g y'))) = .ok (b, e1) ∧
      (b = true → ∃ v e2, y (bring l ((wipeG e vs).set j (some (g y'))) e1) = .ok (v, e2) ∧ I (done ++ [x] ++ d1 ++ [y']) (acc ++ [v]) (bring l e e2)) ∧ (b = false → I (done ++ [x] ++ d1 ++ [y']) acc (bring l e e1)) := fun d1 y' d2 acc e hq hi => by
      have := hs (x :: d1) y' d2 acc e (by rw [hq]; rfl) (by rw [List.append_assoc] at hi; exact hi)
      rw [List.append_assoc done [x]]
      exact this
    show ∃ r e2, ylcRun l j tb y vs (g x :: xs.map g) e = .ok (r, e2) ∧ _
    unfold ylcRun
    rw [h1]
    simp only
    cases b with
    | true =>
      obtain ⟨v, e2, h4, h5⟩ := h2 rfl
      obtain ⟨r, e3, h6, h7⟩ := ylc_go g I xs (done ++ [x]) (acc ++ [v]) _ hs2 h5
      rw [if_pos rfl, h4]
      refine ⟨v :: r, e3, ?_, ?_⟩
      · simp only [h6, ok_bind]
      · rw [List.append_assoc, List.append_assoc] at h7
        exact h7
    | false =>
      obtain ⟨r, e3, h6, h7⟩ := ylc_go g I xs (done ++ [x]) acc _ hs2 (h3 rfl)
      rw [if_neg Bool.false_ne_true]
      refine ⟨r, e3, h6, ?_⟩
      rw [List.append_assoc] at h7
      exact h7
def Yk (Q : Da → Env → Prop) : Rs (Da × Env) → Prop
  | .ok p => Q p.1 p.2
  | _ => False
theorem Yk_ok (Q : Da → Env → Prop) (p : Da × Env) : Yk Q (.ok p) = Q p.1 p.2 := rfl
theorem Yk.out {Q : Da → Env → Prop} : ∀ {r : Rs (Da × Env)}, Yk Q r → ∃ v e, r = .ok (v, e) ∧ Q v e
  | .ok (v, e), h => ⟨v, e, rfl, h⟩
theorem ylc_of (hR : ylcRun l j ybYes y vs ds e = R) (g : α → Da) (I : List α → List Da → Env → Prop) (xs : List α) (hds : ds = xs.map g) (h0 : I [] [] e) (hs : ∀ d1 x d2 acc e, xs = d1 ++ x :: d2 → I d1 acc e → Yk (fun v e2 => I (d1 ++ [x]) (acc ++ [v]) (bring l e e2)) (y (bring l ((wipeG e vs).set j (some (g x))) ((wipeG e vs).set j (some (g x)))))) : ∃ r e2, R = .ok (r, e2) ∧ I xs r e2 := by
  subst hds hR
  obtain ⟨r, e2, h1, h2⟩ := ylc_go (tb := ybYes) (l := l) (j := j) (y := y) (vs := vs) g I xs [] [] e (fun d1 x d2 acc e hx hi => by
    obtain ⟨v, e2, h3, h4⟩ := (hs d1 x d2 acc e hx hi).out
    exact ⟨true, _, rfl, fun _ => ⟨v, e2, h3, h4⟩, fun z => nomatch z⟩) h0
  exact ⟨r, e2, h1, h2⟩
end
end Mi
namespace Mi
open PySem PySem.Spec PyProof.Rows L2 Fo
variable [Nm]
section
variable (a : Ax)
theorem bitAnd_one (x : Nat) : Builtin.bitAnd (x : Int) 1 = ((x &&& 1 : Nat) : Int) := bitAnd_nat x 1
theorem m_has_ok (b x : Nat) : m_has a [.int (b : Int), .int (x : Int)] = .ok (.bl (b.testBit x)) := by
  unfold m_has
  simp only [mVar_ap, mC_ap, m1_ap, m2_ap, mN_ap, mCons_ap, mNil_ap, mTup_ap, mLst_ap, mT_ap, mTNot_ap, mTAnd_ap, mTOr_ap, mYes_ap, mAnd_ap, mOr_ap, mNot_ap, mIf_ap, mChain_ap, mSeq_ap, mRng1_ap, mRng2_ap, mRngV_ap, mRev_ap, mEnum_ap, mLc_ap, mLc2_ap, mSlL_ap, mSlT_ap, mPart_ap, mNoP_ap, Go_nx, Go_ct, Rt_rt, Bk_bk, runD_ap, runM_ap, runI_ap, ok_bind, ex_bind, fBl_bl, sSeq_ap, sAsg_ap, sNew_ap, sDrop_ap, sRet_ap, sRetN_ap, sIf_ap, sNext_ap, sBreak_ap, sCont_ap, sRaise_ap, sFor_ap, sWhile_ap, sPar_ap, sApp_ap, sExt_ap, sSet_ap, sDelLast_ap, sSet2_ap, sSwap_ap, iFld_ap, iFldS_ap, iSeq_ap, yH_ap, yP_ap, ybH_ap, ybP_ap, yaH_ap, y1_ap, y2_ap, yNil_ap, yCons_ap, yN_ap, yX_ap, yTup_ap, yLst_ap, yT_ap, yTNot_ap, yTAnd_ap, yTOr_ap, yIf_ap, yAnd_ap, yOr_ap, yNot_ap, yM_ap, yPop_ap, yPopAt_ap, yRng1_ap, yRng2_ap, ySeq_ap, yMeth_ap, bindT, bindTs, hide, hideF, wipeG, seqOf_lst, seqOf_tup, lstOf_lst, tupOf_tup, lstAt, getR_some, sca_int, sca_bl, sca_str, sca_non, Option.isSome_some, fLen_1, fRange1_int, fTupOf_1, fListOf_1, fII_int, fIB_int, fU_int, fRevT_1, fBits_int, fInt1_int, fIsi_tt, fIsi_tl, fIsi_ti, fIsi_ii, fIsi_bi, fIsi_ib, fIsi_bb, fIsi2_l, fIsi2_t, List.length_cons, List.length_nil, List.map_cons, List.map_nil, List.cons_append, List.nil_append, List.append_nil, List.getElem?_cons_zero, List.getElem?_cons_succ, List.set_cons_zero, List.set_cons_succ, List.contains_cons, List.contains_nil, Nat.reduceBEq, Bool.or_false, Bool.false_or, Bool.or_true, Bool.true_or, Bool.false_eq_true, if_true, if_false, ite_true, ite_false, ↓reduceIte, reduceCtorEq, Nat.reduceLeDiff, Nat.zero_add, Nat.reduceAdd, Nat.reduceLT, Nat.lt_add_one, bitAnd_nat, bitOr_nat, rep_0, rep_1, rep_2, rep_3, rep_4, rep_5, rep_6, rep_7, rep_8, rep_9, rep_10, rep_11, rep_12, rep_13, rep_14, rep_15, rep_16, rep_17, rep_18, rep_19, rep_20, rep_21, rep_22, rep_23, rep_24, rep_25, rep_26, rep_27, rep_28, rep_29, rep_30, rep_31, rep_32, rep_33, rep_34, rep_35, rep_36, rep_37, rep_38, rep_39, rep_40, and_self, and_true, true_and, decide_true, decide_false, Bool.not_true, Bool.not_false, Bool.and_true, Bool.true_and, Bool.and_false, Bool.false_and, neg_ok1, neg_ok2, Int.sub_zero, dNs_len, List.length_range, Rq_rt, runB_ap, yZip_ap, yB_ap, List.take_succ_cons, List.take_zero, List.drop_succ_cons, List.drop_zero, bring_nil, bring_cons, yLc_ap, sNewY_ap, ybYes_ap, ylcRun_nil, shr_ok, bitAnd_one, eqS_int]
  congr 2
  rw [Nat.testBit, Bool.eq_iff_iff, decide_eq_true_iff, bne_iff_ne, Nat.and_comm 1, Nat.and_one_is_mod]
  omega
def bsOf (l : List Nat) : Nat := l.foldl (fun b x => b ||| 2 ^ x) 0
theorem bs_fold (l : List Nat) : ∀ (b y : Nat), (l.foldl (fun b x => b ||| 2 ^ x) b).testBit y = (b.testBit y || l.contains y) := by
  induction l with
  | nil =>
    intro b y
    simp
  | cons x l ih =>
    intro b y
    rw [List.foldl_cons, ih, Nat.testBit_or, Nat.testBit_two_pow, List.contains_cons, Bool.or_assoc]
    congr 2
    rw [Bool.eq_iff_iff, decide_eq_true_iff, beq_iff_eq]
    exact ⟨fun h => h.symm, fun h => h.symm⟩
theorem bsOf_test (l : List Nat) (y : Nat) : (bsOf l).testBit y = l.contains y := by
  unfold bsOf
  rw [bs_fold, Nat.zero_testBit, Bool.false_or]
theorem lt_pow_of {n b : Nat} (h : ∀ y, b.testBit y = true → y < n) : b < 2 ^ n := by
  apply Nat.lt_of_not_le
  intro hle
  obtain ⟨i, hi, ht⟩ := Nat.exists_ge_and_testBit_of_ge_two_pow hle
  have := h i ht
  omega
theorem bsOf_lt {n : Nat} {l : List Nat} (h : ∀ x ∈ l, x < n) : bsOf l < 2 ^ n := lt_pow_of fun y hy => by
  rw [bsOf_test, List.contains_iff_mem] at hy
  exact h y hy
theorem bsOf_filter (n : Nat) (p : Nat → Bool) : bsOf ((List.range n).filter p) = bitsOf n p := by
  apply Nat.eq_of_testBit_eq
  intro y
  rw [bsOf_test, bitsOf_test, Bool.eq_iff_iff, List.contains_iff_mem, List.mem_filter, List.mem_range, Bool.and_eq_true, decide_eq_true_iff]
theorem m_set_of_ok {x : Da} (l : List Nat) (h : seqOf x = .ok (dNs l)) (hl : ∀ x ∈ l, x ≤ 100000000) : m_set_of a [x] = .ok (.int (bsOf l : Nat)) := by
  unfold m_set_of
  simp only [mVar_ap, mC_ap, m1_ap, m2_ap, mN_ap, mCons_ap, mNil_ap, mTup_ap, mLst_ap, mT_ap, mTNot_ap, mTAnd_ap, mTOr_ap, mYes_ap, mAnd_ap, mOr_ap, mNot_ap, mIf_ap, mChain_ap, mSeq_ap, mRng1_ap, mRng2_ap, mRngV_ap, mRev_ap, mEnum_ap, mLc_ap, mLc2_ap, mSlL_ap, mSlT_ap, mPart_ap, mNoP_ap, Go_nx, Go_ct, Rt_rt, Bk_bk, runD_ap, runM_ap, runI_ap, ok_bind, ex_bind, fBl_bl, sSeq_ap, sAsg_ap, sNew_ap, sDrop_ap, sRet_ap, sRetN_ap, sIf_ap, sNext_ap, sBreak_ap, sCont_ap, sRaise_ap, sFor_ap, sWhile_ap, sPar_ap, sApp_ap, sExt_ap, sSet_ap, sDelLast_ap, sSet2_ap, sSwap_ap, iFld_ap, iFldS_ap, iSeq_ap, yH_ap, yP_ap, ybH_ap, ybP_ap, yaH_ap, y1_ap, y2_ap, yNil_ap, yCons_ap, yN_ap, yX_ap, yTup_ap, yLst_ap, yT_ap, yTNot_ap, yTAnd_ap, yTOr_ap, yIf_ap, yAnd_ap, yOr_ap, yNot_ap, yM_ap, yPop_ap, yPopAt_ap, yRng1_ap, yRng2_ap, ySeq_ap, yMeth_ap, bindT, bindTs, hide, hideF, wipeG, seqOf_lst, seqOf_tup, lstOf_lst, tupOf_tup, lstAt, getR_some, sca_int, sca_bl, sca_str, sca_non, Option.isSome_some, fLen_1, fRange1_int, fTupOf_1, fListOf_1, fII_int, fIB_int, fU_int, fRevT_1, fBits_int, fInt1_int, fIsi_tt, fIsi_tl, fIsi_ti, fIsi_ii, fIsi_bi, fIsi_ib, fIsi_bb, fIsi2_l, fIsi2_t, List.length_cons, List.length_nil, List.map_cons, List.map_nil, List.cons_append, List.nil_append, List.append_nil, List.getElem?_cons_zero, List.getElem?_cons_succ, List.set_cons_zero, List.set_cons_succ, List.contains_cons, List.contains_nil, Nat.reduceBEq, Bool.or_false, Bool.false_or, Bool.or_true, Bool.true_or, Bool.false_eq_true, if_true, if_false, ite_true, ite_false, ↓reduceIte, reduceCtorEq, Nat.reduceLeDiff, Nat.zero_add, Nat.reduceAdd, Nat.reduceLT, Nat.lt_add_one, bitAnd_nat, bitOr_nat, rep_0, rep_1, rep_2, rep_3, rep_4, rep_5, rep_6, rep_7, rep_8, rep_9, rep_10, rep_11, rep_12, rep_13, rep_14, rep_15, rep_16, rep_17, rep_18, rep_19, rep_20, rep_21, rep_22, rep_23, rep_24, rep_25, rep_26, rep_27, rep_28, rep_29, rep_30, rep_31, rep_32, rep_33, rep_34, rep_35, rep_36, rep_37, rep_38, rep_39, rep_40, and_self, and_true, true_and, decide_true, decide_false, Bool.not_true, Bool.not_false, Bool.and_true, Bool.true_and, Bool.and_false, Bool.false_and, neg_ok1, neg_ok2, Int.sub_zero, dNs_len, List.length_range, Rq_rt, runB_ap, yZip_ap, yB_ap, List.take_succ_cons, List.take_zero, List.drop_succ_cons, List.drop_zero, bring_nil, bring_cons, yLc_ap, sNewY_ap, ybYes_ap, ylcRun_nil, h]
  generalize hR : forRun _ _ _ _ = r
  obtain ⟨_, rfl, v, rfl⟩ := for_fold_of hR (fun x : Nat => Da.int (x : Int)) (fun (b x : Nat) => b ||| 2 ^ x) (fun (b : Nat) e => ∃ v, e = [some x, some (.int (b : Int)), v]) l 0 rfl ⟨none, rfl⟩ fun s y e hy => by
    rintro ⟨v, rfl⟩
    refine ⟨_, rfl, ?_⟩
    simp only [mVar_ap, mC_ap, m1_ap, m2_ap, mN_ap, mCons_ap, mNil_ap, mTup_ap, mLst_ap, mT_ap, mTNot_ap, mTAnd_ap, mTOr_ap, mYes_ap, mAnd_ap, mOr_ap, mNot_ap, mIf_ap, mChain_ap, mSeq_ap, mRng1_ap, mRng2_ap, mRngV_ap, mRev_ap, mEnum_ap, mLc_ap, mLc2_ap, mSlL_ap, mSlT_ap, mPart_ap, mNoP_ap, Go_nx, Go_ct, Rt_rt, Bk_bk, runD_ap, runM_ap, runI_ap, ok_bind, ex_bind, fBl_bl, sSeq_ap, sAsg_ap, sNew_ap, sDrop_ap, sRet_ap, sRetN_ap, sIf_ap, sNext_ap, sBreak_ap, sCont_ap, sRaise_ap, sFor_ap, sWhile_ap, sPar_ap, sApp_ap, sExt_ap, sSet_ap, sDelLast_ap, sSet2_ap, sSwap_ap, iFld_ap, iFldS_ap, iSeq_ap, yH_ap, yP_ap, ybH_ap, ybP_ap, yaH_ap, y1_ap, y2_ap, yNil_ap, yCons_ap, yN_ap, yX_ap, yTup_ap, yLst_ap, yT_ap, yTNot_ap, yTAnd_ap, yTOr_ap, yIf_ap, yAnd_ap, yOr_ap, yNot_ap, yM_ap, yPop_ap, yPopAt_ap, yRng1_ap, yRng2_ap, ySeq_ap, yMeth_ap, bindT, bindTs, hide, hideF, wipeG, seqOf_lst, seqOf_tup, lstOf_lst, tupOf_tup, lstAt, getR_some, sca_int, sca_bl, sca_str, sca_non, Option.isSome_some, fLen_1, fRange1_int, fTupOf_1, fListOf_1, fII_int, fIB_int, fU_int, fRevT_1, fBits_int, fInt1_int, fIsi_tt, fIsi_tl, fIsi_ti, fIsi_ii, fIsi_bi, fIsi_ib, fIsi_bb, fIsi2_l, fIsi2_t, List.length_cons, List.length_nil, List.map_cons, List.map_nil, List.cons_append, List.nil_append, List.append_nil, List.getElem?_cons_zero, List.getElem?_cons_succ, List.set_cons_zero, List.set_cons_succ, List.contains_cons, List.contains_nil, Nat.reduceBEq, Bool.or_false, Bool.false_or, Bool.or_true, Bool.true_or, Bool.false_eq_true, if_true, if_false, ite_true, ite_false, ↓reduceIte, reduceCtorEq, Nat.reduceLeDiff, Nat.zero_add, Nat.reduceAdd, Nat.reduceLT, Nat.lt_add_one, bitAnd_nat, bitOr_nat, rep_0, rep_1, rep_2, rep_3, rep_4, rep_5, rep_6, rep_7, rep_8, rep_9, rep_10, rep_11, rep_12, rep_13, rep_14, rep_15, rep_16, rep_17, rep_18, rep_19, rep_20, rep_21, rep_22, rep_23, rep_24, rep_25, rep_26, rep_27, rep_28, rep_29, rep_30, rep_31, rep_32, rep_33, rep_34, rep_35, rep_36, rep_37, rep_38, rep_39, rep_40, and_self, and_true, true_and, decide_true, decide_false, Bool.not_true, Bool.not_false, Bool.and_true, Bool.true_and, Bool.and_false, Bool.false_and, neg_ok1, neg_ok2, Int.sub_zero, dNs_len, List.length_range, Rq_rt, runB_ap, yZip_ap, yB_ap, List.take_succ_cons, List.take_zero, List.drop_succ_cons, List.drop_zero, bring_nil, bring_cons, yLc_ap, sNewY_ap, ybYes_ap, ylcRun_nil, shl_one (hl y hy)]
    exact ⟨_, rfl⟩
  simp only [mVar_ap, mC_ap, m1_ap, m2_ap, mN_ap, mCons_ap, mNil_ap, mTup_ap, mLst_ap, mT_ap, mTNot_ap, mTAnd_ap, mTOr_ap, mYes_ap, mAnd_ap, mOr_ap, mNot_ap, mIf_ap, mChain_ap, mSeq_ap, mRng1_ap, mRng2_ap, mRngV_ap, mRev_ap, mEnum_ap, mLc_ap, mLc2_ap, mSlL_ap, mSlT_ap, mPart_ap, mNoP_ap, Go_nx, Go_ct, Rt_rt, Bk_bk, runD_ap, runM_ap, runI_ap, ok_bind, ex_bind, fBl_bl, sSeq_ap, sAsg_ap, sNew_ap, sDrop_ap, sRet_ap, sRetN_ap, sIf_ap, sNext_ap, sBreak_ap, sCont_ap, sRaise_ap, sFor_ap, sWhile_ap, sPar_ap, sApp_ap, sExt_ap, sSet_ap, sDelLast_ap, sSet2_ap, sSwap_ap, iFld_ap, iFldS_ap, iSeq_ap, yH_ap, yP_ap, ybH_ap, ybP_ap, yaH_ap, y1_ap, y2_ap, yNil_ap, yCons_ap, yN_ap, yX_ap, yTup_ap, yLst_ap, yT_ap, yTNot_ap, yTAnd_ap, yTOr_ap, yIf_ap, yAnd_ap, yOr_ap, yNot_ap, yM_ap, yPop_ap, yPopAt_ap, yRng1_ap, yRng2_ap, ySeq_ap, yMeth_ap, bindT, bindTs, hide, hideF, wipeG, seqOf_lst, seqOf_tup, lstOf_lst, tupOf_tup, lstAt, getR_some, sca_int, sca_bl, sca_str, sca_non, Option.isSome_some, fLen_1, fRange1_int, fTupOf_1, fListOf_1, fII_int, fIB_int, fU_int, fRevT_1, fBits_int, fInt1_int, fIsi_tt, fIsi_tl, fIsi_ti, fIsi_ii, fIsi_bi, fIsi_ib, fIsi_bb, fIsi2_l, fIsi2_t, List.length_cons, List.length_nil, List.map_cons, List.map_nil, List.cons_append, List.nil_append, List.append_nil, List.getElem?_cons_zero, List.getElem?_cons_succ, List.set_cons_zero, List.set_cons_succ, List.contains_cons, List.contains_nil, Nat.reduceBEq, Bool.or_false, Bool.false_or, Bool.or_true, Bool.true_or, Bool.false_eq_true, if_true, if_false, ite_true, ite_false, ↓reduceIte, reduceCtorEq, Nat.reduceLeDiff, Nat.zero_add, Nat.reduceAdd, Nat.reduceLT, Nat.lt_add_one, bitAnd_nat, bitOr_nat, rep_0, rep_1, rep_2, rep_3, rep_4, rep_5, rep_6, rep_7, rep_8, rep_9, rep_10, rep_11, rep_12, rep_13, rep_14, rep_15, rep_16, rep_17, rep_18, rep_19, rep_20, rep_21, rep_22, rep_23, rep_24, rep_25, rep_26, rep_27, rep_28, rep_29, rep_30, rep_31, rep_32, rep_33, rep_34, rep_35, rep_36, rep_37, rep_38, rep_39, rep_40, and_self, and_true, true_and, decide_true, decide_false, Bool.not_true, Bool.not_false, Bool.and_true, Bool.true_and, Bool.and_false, Bool.false_and, neg_ok1, neg_ok2, Int.sub_zero, dNs_len, List.length_range, Rq_rt, runB_ap, yZip_ap, yB_ap, List.take_succ_cons, List.take_zero, List.drop_succ_cons, List.drop_zero, bring_nil, bring_cons, yLc_ap, sNewY_ap, ybYes_ap, ylcRun_nil]
  rfl
theorem m_lowest_pow (k b : Nat) : m_lowest a [.int ((2 ^ k * (2 * b + 1) : Nat) : Int)] = .ok (.int (k : Int)) := by
  unfold m_lowest
  have h0 : (2 ^ k * (2 * b + 1) : Nat) ≠ 0 := Nat.ne_of_gt (Nat.mul_pos (Nat.two_pow_pos k) (by omega))
  simp only [mVar_ap, mC_ap, m1_ap, m2_ap, mN_ap, mCons_ap, mNil_ap, mTup_ap, mLst_ap, mT_ap, mTNot_ap, mTAnd_ap, mTOr_ap, mYes_ap, mAnd_ap, mOr_ap, mNot_ap, mIf_ap, mChain_ap, mSeq_ap, mRng1_ap, mRng2_ap, mRngV_ap, mRev_ap, mEnum_ap, mLc_ap, mLc2_ap, mSlL_ap, mSlT_ap, mPart_ap, mNoP_ap, Go_nx, Go_ct, Rt_rt, Bk_bk, runD_ap, runM_ap, runI_ap, ok_bind, ex_bind, fBl_bl, sSeq_ap, sAsg_ap, sNew_ap, sDrop_ap, sRet_ap, sRetN_ap, sIf_ap, sNext_ap, sBreak_ap, sCont_ap, sRaise_ap, sFor_ap, sWhile_ap, sPar_ap, sApp_ap, sExt_ap, sSet_ap, sDelLast_ap, sSet2_ap, sSwap_ap, iFld_ap, iFldS_ap, iSeq_ap, yH_ap, yP_ap, ybH_ap, ybP_ap, yaH_ap, y1_ap, y2_ap, yNil_ap, yCons_ap, yN_ap, yX_ap, yTup_ap, yLst_ap, yT_ap, yTNot_ap, yTAnd_ap, yTOr_ap, yIf_ap, yAnd_ap, yOr_ap, yNot_ap, yM_ap, yPop_ap, yPopAt_ap, yRng1_ap, yRng2_ap, ySeq_ap, yMeth_ap, bindT, bindTs, hide, hideF, wipeG, seqOf_lst, seqOf_tup, lstOf_lst, tupOf_tup, lstAt, getR_some, sca_int, sca_bl, sca_str, sca_non, Option.isSome_some, fLen_1, fRange1_int, fTupOf_1, fListOf_1, fII_int, fIB_int, fU_int, fRevT_1, fBits_int, fInt1_int, fIsi_tt, fIsi_tl, fIsi_ti, fIsi_ii, fIsi_bi, fIsi_ib, fIsi_bb, fIsi2_l, fIsi2_t, List.length_cons, List.length_nil, List.map_cons, List.map_nil, List.cons_append, List.nil_append, List.append_nil, List.getElem?_cons_zero, List.getElem?_cons_succ, List.set_cons_zero, List.set_cons_succ, List.contains_cons, List.contains_nil, Nat.reduceBEq, Bool.or_false, Bool.false_or, Bool.or_true, Bool.true_or, Bool.false_eq_true, if_true, if_false, ite_true, ite_false, ↓reduceIte, reduceCtorEq, Nat.reduceLeDiff, Nat.zero_add, Nat.reduceAdd, Nat.reduceLT, Nat.lt_add_one, bitAnd_nat, bitOr_nat, rep_0, rep_1, rep_2, rep_3, rep_4, rep_5, rep_6, rep_7, rep_8, rep_9, rep_10, rep_11, rep_12, rep_13, rep_14, rep_15, rep_16, rep_17, rep_18, rep_19, rep_20, rep_21, rep_22, rep_23, rep_24, rep_25, rep_26, rep_27, rep_28, rep_29, rep_30, rep_31, rep_32, rep_33, rep_34, rep_35, rep_36, rep_37, rep_38, rep_39, rep_40, and_self, and_true, true_and, decide_true, decide_false, Bool.not_true, Bool.not_false, Bool.and_true, Bool.true_and, Bool.and_false, Bool.false_and, neg_ok1, neg_ok2, Int.sub_zero, dNs_len, List.length_range, Rq_rt, runB_ap, yZip_ap, yB_ap, List.take_succ_cons, List.take_zero, List.drop_succ_cons, List.drop_zero, bring_nil, bring_cons, yLc_ap, sNewY_ap, ybYes_ap, ylcRun_nil, eqS_int]
  rw [decide_eq_false (by omega)]
  simp only [mVar_ap, mC_ap, m1_ap, m2_ap, mN_ap, mCons_ap, mNil_ap, mTup_ap, mLst_ap, mT_ap, mTNot_ap, mTAnd_ap, mTOr_ap, mYes_ap, mAnd_ap, mOr_ap, mNot_ap, mIf_ap, mChain_ap, mSeq_ap, mRng1_ap, mRng2_ap, mRngV_ap, mRev_ap, mEnum_ap, mLc_ap, mLc2_ap, mSlL_ap, mSlT_ap, mPart_ap, mNoP_ap, Go_nx, Go_ct, Rt_rt, Bk_bk, runD_ap, runM_ap, runI_ap, ok_bind, ex_bind, fBl_bl, sSeq_ap, sAsg_ap, sNew_ap, sDrop_ap, sRet_ap, sRetN_ap, sIf_ap, sNext_ap, sBreak_ap, sCont_ap, sRaise_ap, sFor_ap, sWhile_ap, sPar_ap, sApp_ap, sExt_ap, sSet_ap, sDelLast_ap, sSet2_ap, sSwap_ap, iFld_ap, iFldS_ap, iSeq_ap, yH_ap, yP_ap, ybH_ap, ybP_ap, yaH_ap, y1_ap, y2_ap, yNil_ap, yCons_ap, yN_ap, yX_ap, yTup_ap, yLst_ap, yT_ap, yTNot_ap, yTAnd_ap, yTOr_ap, yIf_ap, yAnd_ap, yOr_ap, yNot_ap, yM_ap, yPop_ap, yPopAt_ap, yRng1_ap, yRng2_ap, ySeq_ap, yMeth_ap, bindT, bindTs, hide, hideF, wipeG, seqOf_lst, seqOf_tup, lstOf_lst, tupOf_tup, lstAt, getR_some, sca_int, sca_bl, sca_str, sca_non, Option.isSome_some, fLen_1, fRange1_int, fTupOf_1, fListOf_1, fII_int, fIB_int, fU_int, fRevT_1, fBits_int, fInt1_int, fIsi_tt, fIsi_tl, fIsi_ti, fIsi_ii, fIsi_bi, fIsi_ib, fIsi_bb, fIsi2_l, fIsi2_t, List.length_cons, List.length_nil, List.map_cons, List.map_nil, List.cons_append, List.nil_append, List.append_nil, List.getElem?_cons_zero, List.getElem?_cons_succ, List.set_cons_zero, List.set_cons_succ, List.contains_cons, List.contains_nil, Nat.reduceBEq, Bool.or_false, Bool.false_or, Bool.or_true, Bool.true_or, Bool.false_eq_true, if_true, if_false, ite_true, ite_false, ↓reduceIte, reduceCtorEq, Nat.reduceLeDiff, Nat.zero_add, Nat.reduceAdd, Nat.reduceLT, Nat.lt_add_one, bitAnd_nat, bitOr_nat, rep_0, rep_1, rep_2, rep_3, rep_4, rep_5, rep_6, rep_7, rep_8, rep_9, rep_10, rep_11, rep_12, rep_13, rep_14, rep_15, rep_16, rep_17, rep_18, rep_19, rep_20, rep_21, rep_22, rep_23, rep_24, rep_25, rep_26, rep_27, rep_28, rep_29, rep_30, rep_31, rep_32, rep_33, rep_34, rep_35, rep_36, rep_37, rep_38, rep_39, rep_40, and_self, and_true, true_and, decide_true, decide_false, Bool.not_true, Bool.not_false, Bool.and_true, Bool.true_and, Bool.and_false, Bool.false_and, neg_ok1, neg_ok2, Int.sub_zero, dNs_len, List.length_range, Rq_rt, runB_ap, yZip_ap, yB_ap, List.take_succ_cons, List.take_zero, List.drop_succ_cons, List.drop_zero, bring_nil, bring_cons, yLc_ap, sNewY_ap, ybYes_ap, ylcRun_nil, bit_low, bits_pow]
  congr 2
  omega
theorem nat_pos_dec (b : Nat) : decide ((0 : Int) < (b : Int)) = decide (0 < b) := decide_eq_decide.mpr (by omega)
theorem m_members_ok {n b : Nat} (h : b < 2 ^ n) (hn : n ≤ 100000) : m_members a [.int (b : Int)] = .ok (.tup (dNs (mem n b))) := by
  unfold m_members
  simp only [mVar_ap, mC_ap, m1_ap, m2_ap, mN_ap, mCons_ap, mNil_ap, mTup_ap, mLst_ap, mT_ap, mTNot_ap, mTAnd_ap, mTOr_ap, mYes_ap, mAnd_ap, mOr_ap, mNot_ap, mIf_ap, mChain_ap, mSeq_ap, mRng1_ap, mRng2_ap, mRngV_ap, mRev_ap, mEnum_ap, mLc_ap, mLc2_ap, mSlL_ap, mSlT_ap, mPart_ap, mNoP_ap, Go_nx, Go_ct, Rt_rt, Bk_bk, runD_ap, runM_ap, runI_ap, ok_bind, ex_bind, fBl_bl, sSeq_ap, sAsg_ap, sNew_ap, sDrop_ap, sRet_ap, sRetN_ap, sIf_ap, sNext_ap, sBreak_ap, sCont_ap, sRaise_ap, sFor_ap, sWhile_ap, sPar_ap, sApp_ap, sExt_ap, sSet_ap, sDelLast_ap, sSet2_ap, sSwap_ap, iFld_ap, iFldS_ap, iSeq_ap, yH_ap, yP_ap, ybH_ap, ybP_ap, yaH_ap, y1_ap, y2_ap, yNil_ap, yCons_ap, yN_ap, yX_ap, yTup_ap, yLst_ap, yT_ap, yTNot_ap, yTAnd_ap, yTOr_ap, yIf_ap, yAnd_ap, yOr_ap, yNot_ap, yM_ap, yPop_ap, yPopAt_ap, yRng1_ap, yRng2_ap, ySeq_ap, yMeth_ap, bindT, bindTs, hide, hideF, wipeG, seqOf_lst, seqOf_tup, lstOf_lst, tupOf_tup, lstAt, getR_some, sca_int, sca_bl, sca_str, sca_non, Option.isSome_some, fLen_1, fRange1_int, fTupOf_1, fListOf_1, fII_int, fIB_int, fU_int, fRevT_1, fBits_int, fInt1_int, fIsi_tt, fIsi_tl, fIsi_ti, fIsi_ii, fIsi_bi, fIsi_ib, fIsi_bb, fIsi2_l, fIsi2_t, List.length_cons, List.length_nil, List.map_cons, List.map_nil, List.cons_append, List.nil_append, List.append_nil, List.getElem?_cons_zero, List.getElem?_cons_succ, List.set_cons_zero, List.set_cons_succ, List.contains_cons, List.contains_nil, Nat.reduceBEq, Bool.or_false, Bool.false_or, Bool.or_true, Bool.true_or, Bool.false_eq_true, if_true, if_false, ite_true, ite_false, ↓reduceIte, reduceCtorEq, Nat.reduceLeDiff, Nat.zero_add, Nat.reduceAdd, Nat.reduceLT, Nat.lt_add_one, bitAnd_nat, bitOr_nat, rep_0, rep_1, rep_2, rep_3, rep_4, rep_5, rep_6, rep_7, rep_8, rep_9, rep_10, rep_11, rep_12, rep_13, rep_14, rep_15, rep_16, rep_17, rep_18, rep_19, rep_20, rep_21, rep_22, rep_23, rep_24, rep_25, rep_26, rep_27, rep_28, rep_29, rep_30, rep_31, rep_32, rep_33, rep_34, rep_35, rep_36, rep_37, rep_38, rep_39, rep_40, and_self, and_true, true_and, decide_true, decide_false, Bool.not_true, Bool.not_false, Bool.and_true, Bool.true_and, Bool.and_false, Bool.false_and, neg_ok1, neg_ok2, Int.sub_zero, dNs_len, List.length_range, Rq_rt, runB_ap, yZip_ap, yB_ap, List.take_succ_cons, List.take_zero, List.drop_succ_cons, List.drop_zero, bring_nil, bring_cons, yLc_ap, sNewY_ap, ybYes_ap, ylcRun_nil]
  generalize hR : whRun _ _ _ _ = r
  obtain ⟨_, rfl, v, rfl⟩ := wh_of hR (fun (j : Nat) e => j ≤ n ∧ e = [some (.int ((2 ^ j * (b / 2 ^ j) : Nat) : Int)), some (.lst (dNs (mem j b)))]) (fun j => n - j) (fun e => ∃ v, e = [v, some (.lst (dNs (mem n b)))]) 0 ⟨Nat.zero_le _, by rw [Nat.pow_zero, Nat.div_one, Nat.one_mul]; rfl⟩ (by omega) fun j e => by
      rintro ⟨hj, rfl⟩
      by_cases hb : 0 < b / 2 ^ j
      · obtain ⟨k, c, q1, q2, q3, q4⟩ := next_bit hb
        have hk : k < n := by
          have : k ∈ mem (k + 1) b := by rw [q3]; simp
          have ht := (mem_lt this).2
          apply Nat.lt_of_not_le
          intro hle
          rw [Nat.testBit_lt_two_pow (Nat.lt_of_lt_of_le h (Nat.pow_le_pow_right (by decide) hle))] at ht
          cases ht
        have hl : (mem j b).length ≤ n := by
          have := List.length_filter_le (fun x => b.testBit x) (List.range j)
          rw [List.length_range] at this
          unfold mem
          omega
        refine .inr ⟨[some (.int ((2 ^ j * (b / 2 ^ j) : Nat) : Int)), some (.lst (dNs (mem j b)))], ?_, ?_⟩
        · simp only [mVar_ap, mC_ap, m1_ap, m2_ap, mN_ap, mCons_ap, mNil_ap, mTup_ap, mLst_ap, mT_ap, mTNot_ap, mTAnd_ap, mTOr_ap, mYes_ap, mAnd_ap, mOr_ap, mNot_ap, mIf_ap, mChain_ap, mSeq_ap, mRng1_ap, mRng2_ap, mRngV_ap, mRev_ap, mEnum_ap, mLc_ap, mLc2_ap, mSlL_ap, mSlT_ap, mPart_ap, mNoP_ap, Go_nx, Go_ct, Rt_rt, Bk_bk, runD_ap, runM_ap, runI_ap, ok_bind, ex_bind, fBl_bl, sSeq_ap, sAsg_ap, sNew_ap, sDrop_ap, sRet_ap, sRetN_ap, sIf_ap, sNext_ap, sBreak_ap, sCont_ap, sRaise_ap, sFor_ap, sWhile_ap, sPar_ap, sApp_ap, sExt_ap, sSet_ap, sDelLast_ap, sSet2_ap, sSwap_ap, iFld_ap, iFldS_ap, iSeq_ap, yH_ap, yP_ap, ybH_ap, ybP_ap, yaH_ap, y1_ap, y2_ap, yNil_ap, yCons_ap, yN_ap, yX_ap, yTup_ap, yLst_ap, yT_ap, yTNot_ap, yTAnd_ap, yTOr_ap, yIf_ap, yAnd_ap, yOr_ap, yNot_ap, yM_ap, yPop_ap, yPopAt_ap, yRng1_ap, yRng2_ap, ySeq_ap, yMeth_ap, bindT, bindTs, hide, hideF, wipeG, seqOf_lst, seqOf_tup, lstOf_lst, tupOf_tup, lstAt, getR_some, sca_int, sca_bl, sca_str, sca_non, Option.isSome_some, fLen_1, fRange1_int, fTupOf_1, fListOf_1, fII_int, fIB_int, fU_int, fRevT_1, fBits_int, fInt1_int, fIsi_tt, fIsi_tl, fIsi_ti, fIsi_ii, fIsi_bi, fIsi_ib, fIsi_bb, fIsi2_l, fIsi2_t, List.length_cons, List.length_nil, List.map_cons, List.map_nil, List.cons_append, List.nil_append, List.append_nil, List.getElem?_cons_zero, List.getElem?_cons_succ, List.set_cons_zero, List.set_cons_succ, List.contains_cons, List.contains_nil, Nat.reduceBEq, Bool.or_false, Bool.false_or, Bool.or_true, Bool.true_or, Bool.false_eq_true, if_true, if_false, ite_true, ite_false, ↓reduceIte, reduceCtorEq, Nat.reduceLeDiff, Nat.zero_add, Nat.reduceAdd, Nat.reduceLT, Nat.lt_add_one, bitAnd_nat, bitOr_nat, rep_0, rep_1, rep_2, rep_3, rep_4, rep_5, rep_6, rep_7, rep_8, rep_9, rep_10, rep_11, rep_12, rep_13, rep_14, rep_15, rep_16, rep_17, rep_18, rep_19, rep_20, rep_21, rep_22, rep_23, rep_24, rep_25, rep_26, rep_27, rep_28, rep_29, rep_30, rep_31, rep_32, rep_33, rep_34, rep_35, rep_36, rep_37, rep_38, rep_39, rep_40, and_self, and_true, true_and, decide_true, decide_false, Bool.not_true, Bool.not_false, Bool.and_true, Bool.true_and, Bool.and_false, Bool.false_and, neg_ok1, neg_ok2, Int.sub_zero, dNs_len, List.length_range, Rq_rt, runB_ap, yZip_ap, yB_ap, List.take_succ_cons, List.take_zero, List.drop_succ_cons, List.drop_zero, bring_nil, bring_cons, yLc_ap, sNewY_ap, ybYes_ap, ylcRun_nil, nat_pos_dec]
          rw [decide_eq_true (Nat.mul_pos (Nat.two_pow_pos j) hb)]
        · rw [q2]
          simp only [mVar_ap, mC_ap, m1_ap, m2_ap, mN_ap, mCons_ap, mNil_ap, mTup_ap, mLst_ap, mT_ap, mTNot_ap, mTAnd_ap, mTOr_ap, mYes_ap, mAnd_ap, mOr_ap, mNot_ap, mIf_ap, mChain_ap, mSeq_ap, mRng1_ap, mRng2_ap, mRngV_ap, mRev_ap, mEnum_ap, mLc_ap, mLc2_ap, mSlL_ap, mSlT_ap, mPart_ap, mNoP_ap, Go_nx, Go_ct, Rt_rt, Bk_bk, runD_ap, runM_ap, runI_ap, ok_bind, ex_bind, fBl_bl, sSeq_ap, sAsg_ap, sNew_ap, sDrop_ap, sRet_ap, sRetN_ap, sIf_ap, sNext_ap, sBreak_ap, sCont_ap, sRaise_ap, sFor_ap, sWhile_ap, sPar_ap, sApp_ap, sExt_ap, sSet_ap, sDelLast_ap, sSet2_ap, sSwap_ap, iFld_ap, iFldS_ap, iSeq_ap, yH_ap, yP_ap, ybH_ap, ybP_ap, yaH_ap, y1_ap, y2_ap, yNil_ap, yCons_ap, yN_ap, yX_ap, yTup_ap, yLst_ap, yT_ap, yTNot_ap, yTAnd_ap, yTOr_ap, yIf_ap, yAnd_ap, yOr_ap, yNot_ap, yM_ap, yPop_ap, yPopAt_ap, yRng1_ap, yRng2_ap, ySeq_ap, yMeth_ap, bindT, bindTs, hide, hideF, wipeG, seqOf_lst, seqOf_tup, lstOf_lst, tupOf_tup, lstAt, getR_some, sca_int, sca_bl, sca_str, sca_non, Option.isSome_some, fLen_1, fRange1_int, fTupOf_1, fListOf_1, fII_int, fIB_int, fU_int, fRevT_1, fBits_int, fInt1_int, fIsi_tt, fIsi_tl, fIsi_ti, fIsi_ii, fIsi_bi, fIsi_ib, fIsi_bb, fIsi2_l, fIsi2_t, List.length_cons, List.length_nil, List.map_cons, List.map_nil, List.cons_append, List.nil_append, List.append_nil, List.getElem?_cons_zero, List.getElem?_cons_succ, List.set_cons_zero, List.set_cons_succ, List.contains_cons, List.contains_nil, Nat.reduceBEq, Bool.or_false, Bool.false_or, Bool.or_true, Bool.true_or, Bool.false_eq_true, if_true, if_false, ite_true, ite_false, ↓reduceIte, reduceCtorEq, Nat.reduceLeDiff, Nat.zero_add, Nat.reduceAdd, Nat.reduceLT, Nat.lt_add_one, bitAnd_nat, bitOr_nat, rep_0, rep_1, rep_2, rep_3, rep_4, rep_5, rep_6, rep_7, rep_8, rep_9, rep_10, rep_11, rep_12, rep_13, rep_14, rep_15, rep_16, rep_17, rep_18, rep_19, rep_20, rep_21, rep_22, rep_23, rep_24, rep_25, rep_26, rep_27, rep_28, rep_29, rep_30, rep_31, rep_32, rep_33, rep_34, rep_35, rep_36, rep_37, rep_38, rep_39, rep_40, and_self, and_true, true_and, decide_true, decide_false, Bool.not_true, Bool.not_false, Bool.and_true, Bool.true_and, Bool.and_false, Bool.false_and, neg_ok1, neg_ok2, Int.sub_zero, dNs_len, List.length_range, Rq_rt, runB_ap, yZip_ap, yB_ap, List.take_succ_cons, List.take_zero, List.drop_succ_cons, List.drop_zero, bring_nil, bring_cons, yLc_ap, sNewY_ap, ybYes_ap, ylcRun_nil, m_lowest_pow, dNs_len]
          rw [if_pos (by omega)]
          simp only [mVar_ap, mC_ap, m1_ap, m2_ap, mN_ap, mCons_ap, mNil_ap, mTup_ap, mLst_ap, mT_ap, mTNot_ap, mTAnd_ap, mTOr_ap, mYes_ap, mAnd_ap, mOr_ap, mNot_ap, mIf_ap, mChain_ap, mSeq_ap, mRng1_ap, mRng2_ap, mRngV_ap, mRev_ap, mEnum_ap, mLc_ap, mLc2_ap, mSlL_ap, mSlT_ap, mPart_ap, mNoP_ap, Go_nx, Go_ct, Rt_rt, Bk_bk, runD_ap, runM_ap, runI_ap, ok_bind, ex_bind, fBl_bl, sSeq_ap, sAsg_ap, sNew_ap, sDrop_ap, sRet_ap, sRetN_ap, sIf_ap, sNext_ap, sBreak_ap, sCont_ap, sRaise_ap, sFor_ap, sWhile_ap, sPar_ap, sApp_ap, sExt_ap, sSet_ap, sDelLast_ap, sSet2_ap, sSwap_ap, iFld_ap, iFldS_ap, iSeq_ap, yH_ap, yP_ap, ybH_ap, ybP_ap, yaH_ap, y1_ap, y2_ap, yNil_ap, yCons_ap, yN_ap, yX_ap, yTup_ap, yLst_ap, yT_ap, yTNot_ap, yTAnd_ap, yTOr_ap, yIf_ap, yAnd_ap, yOr_ap, yNot_ap, yM_ap, yPop_ap, yPopAt_ap, yRng1_ap, yRng2_ap, ySeq_ap, yMeth_ap, bindT, bindTs, hide, hideF, wipeG, seqOf_lst, seqOf_tup, lstOf_lst, tupOf_tup, lstAt, getR_some, sca_int, sca_bl, sca_str, sca_non, Option.isSome_some, fLen_1, fRange1_int, fTupOf_1, fListOf_1, fII_int, fIB_int, fU_int, fRevT_1, fBits_int, fInt1_int, fIsi_tt, fIsi_tl, fIsi_ti, fIsi_ii, fIsi_bi, fIsi_ib, fIsi_bb, fIsi2_l, fIsi2_t, List.length_cons, List.length_nil, List.map_cons, List.map_nil, List.cons_append, List.nil_append, List.append_nil, List.getElem?_cons_zero, List.getElem?_cons_succ, List.set_cons_zero, List.set_cons_succ, List.contains_cons, List.contains_nil, Nat.reduceBEq, Bool.or_false, Bool.false_or, Bool.or_true, Bool.true_or, Bool.false_eq_true, if_true, if_false, ite_true, ite_false, ↓reduceIte, reduceCtorEq, Nat.reduceLeDiff, Nat.zero_add, Nat.reduceAdd, Nat.reduceLT, Nat.lt_add_one, bitAnd_nat, bitOr_nat, rep_0, rep_1, rep_2, rep_3, rep_4, rep_5, rep_6, rep_7, rep_8, rep_9, rep_10, rep_11, rep_12, rep_13, rep_14, rep_15, rep_16, rep_17, rep_18, rep_19, rep_20, rep_21, rep_22, rep_23, rep_24, rep_25, rep_26, rep_27, rep_28, rep_29, rep_30, rep_31, rep_32, rep_33, rep_34, rep_35, rep_36, rep_37, rep_38, rep_39, rep_40, and_self, and_true, true_and, decide_true, decide_false, Bool.not_true, Bool.not_false, Bool.and_true, Bool.true_and, Bool.and_false, Bool.false_and, neg_ok1, neg_ok2, Int.sub_zero, dNs_len, List.length_range, Rq_rt, runB_ap, yZip_ap, yB_ap, List.take_succ_cons, List.take_zero, List.drop_succ_cons, List.drop_zero, bring_nil, bring_cons, yLc_ap, sNewY_ap, ybYes_ap, ylcRun_nil]
          have hc : ((2 ^ k * (2 * c + 1) : Nat) : Int) - 1 = ((2 ^ k * (2 * c + 1) - 1 : Nat) : Int) := by
            have := Nat.mul_pos (Nat.two_pow_pos k) (show 0 < 2 * c + 1 by omega)
            omega
          rw [hc, bitAnd_nat, and_pred_low]
          refine ⟨k + 1, ⟨by omega, ?_⟩, by omega⟩
          rw [q3, q4]
          unfold dNs
          rw [List.map_append]
          rfl
      · have h0 : b / 2 ^ j = 0 := Nat.eq_zero_of_not_pos hb
        refine .inl ⟨[some (.int ((2 ^ j * (b / 2 ^ j) : Nat) : Int)), some (.lst (dNs (mem j b)))], ?_, ?_⟩
        · simp only [mVar_ap, mC_ap, m1_ap, m2_ap, mN_ap, mCons_ap, mNil_ap, mTup_ap, mLst_ap, mT_ap, mTNot_ap, mTAnd_ap, mTOr_ap, mYes_ap, mAnd_ap, mOr_ap, mNot_ap, mIf_ap, mChain_ap, mSeq_ap, mRng1_ap, mRng2_ap, mRngV_ap, mRev_ap, mEnum_ap, mLc_ap, mLc2_ap, mSlL_ap, mSlT_ap, mPart_ap, mNoP_ap, Go_nx, Go_ct, Rt_rt, Bk_bk, runD_ap, runM_ap, runI_ap, ok_bind, ex_bind, fBl_bl, sSeq_ap, sAsg_ap, sNew_ap, sDrop_ap, sRet_ap, sRetN_ap, sIf_ap, sNext_ap, sBreak_ap, sCont_ap, sRaise_ap, sFor_ap, sWhile_ap, sPar_ap, sApp_ap, sExt_ap, sSet_ap, sDelLast_ap, sSet2_ap, sSwap_ap, iFld_ap, iFldS_ap, iSeq_ap, yH_ap, yP_ap, ybH_ap, ybP_ap, yaH_ap, y1_ap, y2_ap, yNil_ap, yCons_ap, yN_ap, yX_ap, yTup_ap, yLst_ap, yT_ap, yTNot_ap, yTAnd_ap, yTOr_ap, yIf_ap, yAnd_ap, yOr_ap, yNot_ap, yM_ap, yPop_ap, yPopAt_ap, yRng1_ap, yRng2_ap, ySeq_ap, yMeth_ap, bindT, bindTs, hide, hideF, wipeG, seqOf_lst, seqOf_tup, lstOf_lst, tupOf_tup, lstAt, getR_some, sca_int, sca_bl, sca_str, sca_non, Option.isSome_some, fLen_1, fRange1_int, fTupOf_1, fListOf_1, fII_int, fIB_int, fU_int, fRevT_1, fBits_int, fInt1_int, fIsi_tt, fIsi_tl, fIsi_ti, fIsi_ii, fIsi_bi, fIsi_ib, fIsi_bb, fIsi2_l, fIsi2_t, List.length_cons, List.length_nil, List.map_cons, List.map_nil, List.cons_append, List.nil_append, List.append_nil, List.getElem?_cons_zero, List.getElem?_cons_succ, List.set_cons_zero, List.set_cons_succ, List.contains_cons, List.contains_nil, Nat.reduceBEq, Bool.or_false, Bool.false_or, Bool.or_true, Bool.true_or, Bool.false_eq_true, if_true, if_false, ite_true, ite_false, ↓reduceIte, reduceCtorEq, Nat.reduceLeDiff, Nat.zero_add, Nat.reduceAdd, Nat.reduceLT, Nat.lt_add_one, bitAnd_nat, bitOr_nat, rep_0, rep_1, rep_2, rep_3, rep_4, rep_5, rep_6, rep_7, rep_8, rep_9, rep_10, rep_11, rep_12, rep_13, rep_14, rep_15, rep_16, rep_17, rep_18, rep_19, rep_20, rep_21, rep_22, rep_23, rep_24, rep_25, rep_26, rep_27, rep_28, rep_29, rep_30, rep_31, rep_32, rep_33, rep_34, rep_35, rep_36, rep_37, rep_38, rep_39, rep_40, and_self, and_true, true_and, decide_true, decide_false, Bool.not_true, Bool.not_false, Bool.and_true, Bool.true_and, Bool.and_false, Bool.false_and, neg_ok1, neg_ok2, Int.sub_zero, dNs_len, List.length_range, Rq_rt, runB_ap, yZip_ap, yB_ap, List.take_succ_cons, List.take_zero, List.drop_succ_cons, List.drop_zero, bring_nil, bring_cons, yLc_ap, sNewY_ap, ybYes_ap, ylcRun_nil, nat_pos_dec, h0, Nat.mul_zero, Nat.lt_irrefl, decide_false]
        · have hb2 : b < 2 ^ j := by
            rcases (Nat.div_eq_zero_iff).mp h0 with z | z
            · have := Nat.two_pow_pos j
              omega
            · exact z
          rw [mem_big hb2 h]
          exact ⟨_, rfl⟩
  simp only [mVar_ap, mC_ap, m1_ap, m2_ap, mN_ap, mCons_ap, mNil_ap, mTup_ap, mLst_ap, mT_ap, mTNot_ap, mTAnd_ap, mTOr_ap, mYes_ap, mAnd_ap, mOr_ap, mNot_ap, mIf_ap, mChain_ap, mSeq_ap, mRng1_ap, mRng2_ap, mRngV_ap, mRev_ap, mEnum_ap, mLc_ap, mLc2_ap, mSlL_ap, mSlT_ap, mPart_ap, mNoP_ap, Go_nx, Go_ct, Rt_rt, Bk_bk, runD_ap, runM_ap, runI_ap, ok_bind, ex_bind, fBl_bl, sSeq_ap, sAsg_ap, sNew_ap, sDrop_ap, sRet_ap, sRetN_ap, sIf_ap, sNext_ap, sBreak_ap, sCont_ap, sRaise_ap, sFor_ap, sWhile_ap, sPar_ap, sApp_ap, sExt_ap, sSet_ap, sDelLast_ap, sSet2_ap, sSwap_ap, iFld_ap, iFldS_ap, iSeq_ap, yH_ap, yP_ap, ybH_ap, ybP_ap, yaH_ap, y1_ap, y2_ap, yNil_ap, yCons_ap, yN_ap, yX_ap, yTup_ap, yLst_ap, yT_ap, yTNot_ap, yTAnd_ap, yTOr_ap, yIf_ap, yAnd_ap, yOr_ap, yNot_ap, yM_ap, yPop_ap, yPopAt_ap, yRng1_ap, yRng2_ap, ySeq_ap, yMeth_ap, bindT, bindTs, hide, hideF, wipeG, seqOf_lst, seqOf_tup, lstOf_lst, tupOf_tup, lstAt, getR_some, sca_int, sca_bl, sca_str, sca_non, Option.isSome_some, fLen_1, fRange1_int, fTupOf_1, fListOf_1, fII_int, fIB_int, fU_int, fRevT_1, fBits_int, fInt1_int, fIsi_tt, fIsi_tl, fIsi_ti, fIsi_ii, fIsi_bi, fIsi_ib, fIsi_bb, fIsi2_l, fIsi2_t, List.length_cons, List.length_nil, List.map_cons, List.map_nil, List.cons_append, List.nil_append, List.append_nil, List.getElem?_cons_zero, List.getElem?_cons_succ, List.set_cons_zero, List.set_cons_succ, List.contains_cons, List.contains_nil, Nat.reduceBEq, Bool.or_false, Bool.false_or, Bool.or_true, Bool.true_or, Bool.false_eq_true, if_true, if_false, ite_true, ite_false, ↓reduceIte, reduceCtorEq, Nat.reduceLeDiff, Nat.zero_add, Nat.reduceAdd, Nat.reduceLT, Nat.lt_add_one, bitAnd_nat, bitOr_nat, rep_0, rep_1, rep_2, rep_3, rep_4, rep_5, rep_6, rep_7, rep_8, rep_9, rep_10, rep_11, rep_12, rep_13, rep_14, rep_15, rep_16, rep_17, rep_18, rep_19, rep_20, rep_21, rep_22, rep_23, rep_24, rep_25, rep_26, rep_27, rep_28, rep_29, rep_30, rep_31, rep_32, rep_33, rep_34, rep_35, rep_36, rep_37, rep_38, rep_39, rep_40, and_self, and_true, true_and, decide_true, decide_false, Bool.not_true, Bool.not_false, Bool.and_true, Bool.true_and, Bool.and_false, Bool.false_and, neg_ok1, neg_ok2, Int.sub_zero, dNs_len, List.length_range, Rq_rt, runB_ap, yZip_ap, yB_ap, List.take_succ_cons, List.take_zero, List.drop_succ_cons, List.drop_zero, bring_nil, bring_cons, yLc_ap, sNewY_ap, ybYes_ap, ylcRun_nil]
theorem m_is_integer_int (i : Int) : m_is_integer a [.int i] = .ok (.bl true) := by
  unfold m_is_integer
  simp only [mVar_ap, mC_ap, m1_ap, m2_ap, mN_ap, mCons_ap, mNil_ap, mTup_ap, mLst_ap, mT_ap, mTNot_ap, mTAnd_ap, mTOr_ap, mYes_ap, mAnd_ap, mOr_ap, mNot_ap, mIf_ap, mChain_ap, mSeq_ap, mRng1_ap, mRng2_ap, mRngV_ap, mRev_ap, mEnum_ap, mLc_ap, mLc2_ap, mSlL_ap, mSlT_ap, mPart_ap, mNoP_ap, Go_nx, Go_ct, Rt_rt, Bk_bk, runD_ap, runM_ap, runI_ap, ok_bind, ex_bind, fBl_bl, sSeq_ap, sAsg_ap, sNew_ap, sDrop_ap, sRet_ap, sRetN_ap, sIf_ap, sNext_ap, sBreak_ap, sCont_ap, sRaise_ap, sFor_ap, sWhile_ap, sPar_ap, sApp_ap, sExt_ap, sSet_ap, sDelLast_ap, sSet2_ap, sSwap_ap, iFld_ap, iFldS_ap, iSeq_ap, yH_ap, yP_ap, ybH_ap, ybP_ap, yaH_ap, y1_ap, y2_ap, yNil_ap, yCons_ap, yN_ap, yX_ap, yTup_ap, yLst_ap, yT_ap, yTNot_ap, yTAnd_ap, yTOr_ap, yIf_ap, yAnd_ap, yOr_ap, yNot_ap, yM_ap, yPop_ap, yPopAt_ap, yRng1_ap, yRng2_ap, ySeq_ap, yMeth_ap, bindT, bindTs, hide, hideF, wipeG, seqOf_lst, seqOf_tup, lstOf_lst, tupOf_tup, lstAt, getR_some, sca_int, sca_bl, sca_str, sca_non, Option.isSome_some, fLen_1, fRange1_int, fTupOf_1, fListOf_1, fII_int, fIB_int, fU_int, fRevT_1, fBits_int, fInt1_int, fIsi_tt, fIsi_tl, fIsi_ti, fIsi_ii, fIsi_bi, fIsi_ib, fIsi_bb, fIsi2_l, fIsi2_t, List.length_cons, List.length_nil, List.map_cons, List.map_nil, List.cons_append, List.nil_append, List.append_nil, List.getElem?_cons_zero, List.getElem?_cons_succ, List.set_cons_zero, List.set_cons_succ, List.contains_cons, List.contains_nil, Nat.reduceBEq, Bool.or_false, Bool.false_or, Bool.or_true, Bool.true_or, Bool.false_eq_true, if_true, if_false, ite_true, ite_false, ↓reduceIte, reduceCtorEq, Nat.reduceLeDiff, Nat.zero_add, Nat.reduceAdd, Nat.reduceLT, Nat.lt_add_one, bitAnd_nat, bitOr_nat, rep_0, rep_1, rep_2, rep_3, rep_4, rep_5, rep_6, rep_7, rep_8, rep_9, rep_10, rep_11, rep_12, rep_13, rep_14, rep_15, rep_16, rep_17, rep_18, rep_19, rep_20, rep_21, rep_22, rep_23, rep_24, rep_25, rep_26, rep_27, rep_28, rep_29, rep_30, rep_31, rep_32, rep_33, rep_34, rep_35, rep_36, rep_37, rep_38, rep_39, rep_40, and_self, and_true, true_and, decide_true, decide_false, Bool.not_true, Bool.not_false, Bool.and_true, Bool.true_and, Bool.and_false, Bool.false_and, neg_ok1, neg_ok2, Int.sub_zero, dNs_len, List.length_range, Rq_rt, runB_ap, yZip_ap, yB_ap, List.take_succ_cons, List.take_zero, List.drop_succ_cons, List.drop_zero, bring_nil, bring_cons, yLc_ap, sNewY_ap, ybYes_ap, ylcRun_nil, Bool.not_false]
def dP (p : Nat × Nat) : Da := .tup [.int (p.1 : Int), .int (p.2 : Int)]
def dPs (ps : List (Nat × Nat)) : List Da := ps.map dP
theorem fRep_one {n : Nat} (d : Da) (h : n ≤ 1000000) : fRep (.lst [d]) (.int (n : Int)) = .ok (.lst (List.replicate n [d]).flatten) := by
  show (if [d].length * (n : Int).toNat ≤ 1000000 ∧ (n : Int) ≤ 1000000 ∧ -1000000 ≤ (n : Int) then Rs.ok (Da.lst (List.replicate (n : Int).toNat [d]).flatten) else Rs.bad) = _
  have h1 : [d].length * (n : Int).toNat ≤ 1000000 ∧ (n : Int) ≤ 1000000 ∧ -1000000 ≤ (n : Int) := ⟨by rw [List.length_singleton, Int.toNat_natCast]; omega, by omega, by omega⟩
  rw [if_pos h1]
  rfl
theorem rng_ok {n : Nat} (h : n ≤ 1000000) : -1000000 ≤ (n : Int) ∧ (n : Int) ≤ 1000000 := ⟨by omega, by omega⟩
theorem range_split {n i : Nat} {d1 d2 : List Nat} (h : List.range n = d1 ++ i :: d2) : i = d1.length ∧ d1.length < n := by
  have h1 : (List.range n)[d1.length]? = some i := by rw [h]; simp
  have h2 : d1.length < n := by
    have := congrArg List.length h
    simp at this
    omega
  rw [List.getElem?_range h2] at h1
  exact ⟨(Option.some.inj h1).symm, h2⟩
end
end Mi
namespace Mi
open PySem PySem.Spec PyProof.Rows L2 Fo
variable [Nm]
section
variable (a : Ax)
end
end Mi
namespace Mi
open PySem PySem.Spec PyProof.Rows L2 Fo
variable [Nm]
theorem mod_ok {i j : Int} (h : 0 < j) : fIC cMod (fun i j => i % j) (.int i) (.int j) = .ok (.int (i % j)) := fIC_ok (decide_eq_true h)
theorem div_ok {i j : Int} (h : 0 < j) (h2 : j.natAbs.log2 < 9000) : fIC cDiv (fun i j => i / j) (.int i) (.int j) = .ok (.int (i / j)) := fIC_ok (decide_eq_true ⟨h, h2⟩)
theorem log_small {m : Nat} (h : m < 2 ^ 200) : (m : Int).natAbs.log2 < 9000 := by
  rw [Int.natAbs_natCast]
  by_cases h0 : m = 0
  · subst h0
    decide
  · have := (Nat.log2_lt h0).mpr h
    omega
section
variable (a : Ax)
end
def rowB (n : Nat) (p : Nat → Bool) : List Da := (List.range n).map fun y => Da.bl (p y)
def tabR (n : Nat) (R : Rel) : List Da := (List.range n).map fun x => Da.lst (rowB n (R x))
def dTab (n : Nat) (R : Rel) : Da := .lst (tabR n R)
def updR (R : Rel) (i j : Nat) (b : Bool) : Rel := fun x y => if x = i ∧ y = j then b else R x y
structure Nms (n : Nat) (g : Nat → Nat) : Prop where
  lt : ∀ x, x < n → g x < n
  inj : ∀ x y, x < n → y < n → g x = g y → x = y
theorem Nms.swap {n : Nat} {g : Nat → Nat} (h : Nms n g) {k j : Nat} (hk : k < n) (hj : j < n) : Nms n (upF (upF g k (g j)) j (g k)) := by
  refine ⟨fun x hx => ?_, fun x y hx hy e => ?_⟩
  · unfold upF
    split
    · exact h.lt k hk
    · split
      · exact h.lt j hj
      · exact h.lt x hx
  · unfold upF at e
    split at e <;> split at e <;> (try split at e) <;> (try split at e) <;> first
      | omega
      | (have := h.inj _ _ (by assumption) (by assumption) e; omega)
      | (have := h.inj _ _ hk hj e; omega)
      | (have := h.inj _ _ hj hk e; omega)
      | (have := h.inj _ _ hk hy e; omega)
      | (have := h.inj _ _ hj hy e; omega)
      | (have := h.inj _ _ hx hk e; omega)
      | (have := h.inj _ _ hx hj e; omega)
theorem Nms.pos {n : Nat} {g : Nat → Nat} (h : Nms n g) : ∃ pos : Nat → Nat, ∀ x, x < n → pos (g x) = x := by
  refine ⟨fun z => ((List.range n).find? fun x => g x == z).getD 0, fun x hx => ?_⟩
  cases e : (List.range n).find? fun y => g y == g x with
  | none =>
    rw [List.find?_eq_none] at e
    exact absurd (beq_self_eq_true _) (e x (List.mem_range.mpr hx))
  | some y =>
    have h1 := List.find?_some e
    have h2 := List.mem_of_find?_eq_some e
    rw [List.mem_range] at h2
    show (((List.range n).find? fun y => g y == g x).getD 0) = x
    rw [e]
    exact h.inj y x h2 hx (beq_iff_eq.mp h1)
theorem cast_succ (m : Nat) : (m : Int) + 1 = ((m + 1 : Nat) : Int) := rfl
section
variable (a : Ax)
end
end Mi
namespace Mi
open PySem PySem.Spec PyProof.Rows L2 Fo
variable [Nm]
def rs (n : Nat) (R : Rel) : Nat → Nat → Bool
  | 0, x => decide (x < n)
  | k + 1, x => rs n R k x && (List.range n).any fun y => rs n R k y && R y x
def Hgt (n : Nat) (R : Rel) (h : Nat) : Prop := (∀ x, rs n R h x = false) ∧ ∀ k, k < h → ∃ x, rs n R k x = true
section
variable {n : Nat} {R : Rel} {pos : Nat → Nat}
theorem rs_down {k x : Nat} (h : rs n R (k + 1) x = true) : rs n R k x = true := by
  unfold rs at h
  rw [Bool.and_eq_true] at h
  exact h.1
theorem rs_le {x j : Nat} : ∀ {k : Nat}, j ≤ k → rs n R k x = true → rs n R j x = true
  | 0, hj, h => by
    have : j = 0 := by omega
    subst this
    exact h
  | k + 1, hj, h => by
    by_cases e : j = k + 1
    · subst e
      exact h
    · exact rs_le (k := k) (by omega) (rs_down h)
theorem cnt_lt {p q : Nat → Bool} (l : List Nat) (h1 : ∀ x, q x = true → p x = true) {x : Nat} (hx : x ∈ l) (hp : p x = true) (hq : q x = false) : (l.filter q).length < (l.filter p).length := by
  induction l with
  | nil => cases hx
  | cons a l ih =>
    have hle : (l.filter q).length ≤ (l.filter p).length := by
      clear ih hx
      induction l with
      | nil => exact Nat.le_refl _
      | cons b l ih =>
        rw [List.filter_cons, List.filter_cons]
        cases e : q b with
        | true =>
          rw [if_pos rfl, if_pos (h1 b e), List.length_cons, List.length_cons]
          omega
        | false =>
          rw [if_neg Bool.false_ne_true]
          split
          · rw [List.length_cons]
            omega
          · exact ih
    rw [List.filter_cons, List.filter_cons]
    rcases List.mem_cons.mp hx with e | hx
    · subst e
      rw [hq, hp, if_neg Bool.false_ne_true, if_pos rfl, List.length_cons]
      omega
    · have := ih hx
      cases e : q a with
      | true =>
        rw [if_pos rfl, if_pos (h1 a e), List.length_cons, List.length_cons]
        omega
      | false =>
        rw [if_neg Bool.false_ne_true]
        split
        · rw [List.length_cons]
          omega
        · exact this
theorem Hgt.lt {h k x : Nat} (H : Hgt n R h) (hx : rs n R k x = true) : k < h := by
  refine Nat.lt_of_not_le fun hle => ?_
  have := rs_le hle hx
  rw [H.1 x] at this
  cases this
theorem filter_le {p q : Nat → Bool} (l : List Nat) (h : ∀ x ∈ l, q x = true → p x = true) : (l.filter q).length ≤ (l.filter p).length := by
  induction l with
  | nil => exact Nat.le_refl _
  | cons b l ih =>
    have ih := ih fun x hx => h x (List.mem_cons_of_mem _ hx)
    rw [List.filter_cons, List.filter_cons]
    cases e : q b with
    | true =>
      rw [if_pos rfl, if_pos (h b (by simp) e), List.length_cons, List.length_cons]
      omega
    | false =>
      rw [if_neg Bool.false_ne_true]
      split
      · rw [List.length_cons]
        omega
      · exact ih
end
section
variable {n : Nat} {R : Rel} {pos : Nat → Nat}
theorem range_pick {n : Nat} {l : List Nat} (nd : l.Nodup) (hl : ∀ y ∈ l, y < n) {p : Nat → Bool} (hp : ∀ y, p y = true ↔ y ∈ l) : ((List.range n).filter p).length = l.length := by
  refine List.Perm.length_eq ((List.perm_ext_iff_of_nodup (List.nodup_range.filter _) nd).mpr fun a => ?_)
  rw [List.mem_filter, List.mem_range, hp]
  exact ⟨fun z => z.2, fun z => ⟨hl a z, z⟩⟩
end
theorem odd_bit (k a : Nat) : (2 ^ k * (2 * a + 1)).testBit k = true := by
  rw [Nat.testBit_eq_decide_div_mod_eq, Nat.mul_div_cancel_left _ (Nat.two_pow_pos k)]
  exact decide_eq_true (by omega)
def dT (s : List Nat) : Da := .tup (dNs s)
end Mi
namespace Mi
open PySem PySem.Spec PyProof.Rows L2 Fo
variable [Nm]
theorem and_zero {n f b : Nat} (hb : b < 2 ^ n) : (f &&& b == 0) = (mem n b).all fun y => !f.testBit y := by
  rw [Bool.eq_iff_iff, beq_iff_eq, List.all_eq_true]
  constructor
  · intro h y hy
    have ⟨h1, h2⟩ := mem_lt hy
    have h3 : (f &&& b).testBit y = false := by rw [h, Nat.zero_testBit]
    rw [Nat.testBit_and, h2, Bool.and_true] at h3
    rw [h3]
    rfl
  · intro h
    apply Nat.eq_of_testBit_eq
    intro y
    rw [Nat.testBit_and, Nat.zero_testBit]
    cases hy : b.testBit y with
    | false => rw [Bool.and_false]
    | true =>
      have hn : y < n := Nat.lt_of_not_le fun hle => by
        rw [Nat.testBit_lt_two_pow (Nat.lt_of_lt_of_le hb (Nat.pow_le_pow_right (by decide) hle))] at hy
        cases hy
      have := h y (by unfold mem; rw [List.mem_filter, List.mem_range]; exact ⟨hn, hy⟩)
      rw [Bool.and_true]
      simpa using this
theorem dNs_snoc (l : List Nat) (x : Nat) : dNs (l ++ [x]) = dNs l ++ [.int (x : Int)] := by
  unfold dNs
  rw [List.map_append]
  rfl
section
variable (a : Ax)
theorem m_set_of_lst (l : List Nat) (hl : ∀ x ∈ l, x ≤ 100000000) : m_set_of a [.lst (dNs l)] = .ok (.int (bsOf l : Nat)) := m_set_of_ok a l rfl hl
end
end Mi
namespace Mi
open PySem PySem.Spec PyProof.Rows L2 Fo
variable [Nm]
section
variable (a : Ax)
end
end Mi
namespace Mi
open PySem PySem.Spec PyProof.Rows L2 Fo
variable [Nm]
section
variable (a : Ax)
end
end Mi
namespace Mi
open PySem PySem.Spec PyProof.Rows L2 Fo
variable [Nm]
theorem fCatT_ok {x y : List Da} (h : x.length + y.length ≤ 1000000) : fCatT (.tup x) (.tup y) = .ok (.tup (x ++ y)) := by
  show (if _ then _ else _) = _
  rw [if_pos h]
theorem cut_from {α : Type} (xs : List α) (k : Nat) : cutL xs (some (k : Int)) none = xs.drop k := by
  unfold cutL
  rw [HT.sIx_none, HT.sIx_nat]
  by_cases h : k ≤ xs.length
  · rw [Nat.min_eq_left h, List.take_of_length_le (by rw [List.length_drop]; omega)]
  · rw [Nat.min_eq_right (by omega), List.drop_of_length_le (Nat.le_refl _), List.drop_of_length_le (by omega), List.take_nil]
theorem cut_to {α : Type} (xs : List α) (k : Nat) : cutL xs none (some (k : Int)) = xs.take k := by
  unfold cutL
  rw [HT.sIx_none, HT.sIx_nat, List.drop_zero, Nat.sub_zero]
  by_cases h : k ≤ xs.length
  · rw [Nat.min_eq_left h]
  · rw [Nat.min_eq_right (by omega), List.take_of_length_le (Nat.le_refl _), List.take_of_length_le (by omega)]
section
variable (a : Ax)
end
end Mi
namespace Mi
open PySem PySem.Spec PyProof.Rows L2 Fo
variable [Nm]
theorem dNs_app (l m : List Nat) : dNs l ++ dNs m = dNs (l ++ m) := by unfold dNs; rw [List.map_append]
theorem dNs_app1 (l : List Nat) (n : Nat) : dNs l ++ [.int (n : Int)] = dNs (l ++ [n]) := by unfold dNs; rw [List.map_append]; rfl
section
variable (a : Ax)
end
end Mi
namespace Mi
open PySem PySem.Spec PyProof.Rows L2 Fo
variable [Nm]
namespace Mt
abbrev Hs := List (Option Nat)
def jn (J : List Nat) (x y : Nat) : Prop := (J.getD x 0).testBit y = true
inductive Way (J : List Nat) (hs : Hs) : Nat → List (Nat × Nat) → Prop where
  | last {x y : Nat} : jn J x y → hs[y]? = some none → Way J hs x [(x, y)]
  | step {x y x' : Nat} {w : List (Nat × Nat)} : jn J x y → hs[y]? = some (some x') → Way J hs x' w → Way J hs x ((x, y) :: w)
def Closed (J : List Nat) (hs : Hs) (c : Nat → Prop) : Prop := ∀ y : Nat, c y → ∃ z : Nat, hs[y]? = some (some z) ∧ ∀ y', jn J z y' → c y'
def Cert (J : List Nat) (hs : Hs) (x : Nat) : Prop := ∃ c : Nat → Prop, (∀ y : Nat, jn J x y → c y) ∧ Closed J hs c
structure MInv (J : List Nat) (n : Nat) (hs : Hs) : Prop where
  ok : ∀ (y x : Nat), hs[y]? = some (some x) → x < n ∧ jn J x y
  inj : ∀ (y y' x : Nat), hs[y]? = some (some x) → hs[y']? = some (some x) → y = y'
  all : ∀ x : Nat, x < n → (∃ y : Nat, hs[y]? = some (some x)) ∨ Cert J hs x
def put (hs : Hs) (w : List (Nat × Nat)) : Hs := w.foldl (fun h p => h.set p.2 (some p.1)) hs
theorem put_out {w : List (Nat × Nat)} {y : Nat} : ∀ {hs : Hs}, y ∉ w.map (·.2) → (put hs w)[y]? = hs[y]? := by
  induction w with
  | nil => intro hs _; rfl
  | cons p w ih =>
    intro hs h
    rw [List.map_cons, List.mem_cons, not_or] at h
    show (put (hs.set p.2 (some p.1)) w)[y]? = _
    rw [ih h.2, List.getElem?_set_ne (Ne.symm h.1)]
theorem put_in {w : List (Nat × Nat)} {x y : Nat} : ∀ {hs : Hs}, (w.map (·.2)).Nodup → (x, y) ∈ w → y < hs.length → (put hs w)[y]? = some (some x) := by
  induction w with
  | nil => intro hs _ h; cases h
  | cons p w ih =>
    intro hs nd h hy
    rw [List.map_cons, List.nodup_cons] at nd
    show (put (hs.set p.2 (some p.1)) w)[y]? = _
    rcases List.mem_cons.mp h with e | h
    · subst e
      rw [put_out nd.1, List.getElem?_set_self hy]
    · exact ih nd.2 h (by rw [List.length_set]; exact hy)
section
variable {J : List Nat} {hs : Hs}
theorem Way.ne {x : Nat} {w : List (Nat × Nat)} (h : Way J hs x w) : ∃ y, (x, y) ∈ w ∧ jn J x y := by
  cases h with
  | last a b => exact ⟨_, List.mem_singleton.mpr rfl, a⟩
  | step a b c => exact ⟨_, List.mem_cons_self, a⟩
theorem Way.pair {x : Nat} {w : List (Nat × Nat)} (h : Way J hs x w) : ∀ p ∈ w, jn J p.1 p.2 ∧ (∃ o, hs[p.2]? = some o) ∧ (p.1 = x ∨ ∃ q ∈ w, hs[q.2]? = some (some p.1)) := by
  induction h with
  | last a b =>
    intro p hp
    obtain rfl := List.mem_singleton.mp hp
    exact ⟨a, ⟨_, b⟩, .inl rfl⟩
  | step a b c ih =>
    intro p hp
    rcases List.mem_cons.mp hp with e | hp
    · subst e
      exact ⟨a, ⟨_, b⟩, .inl rfl⟩
    · obtain ⟨h1, h2, h3⟩ := ih p hp
      refine ⟨h1, h2, .inr ?_⟩
      rcases h3 with e | ⟨q, hq, e⟩
      · exact ⟨_, List.mem_cons_self, by rw [e]; exact b⟩
      · exact ⟨q, List.mem_cons_of_mem _ hq, e⟩
theorem Way.next {x : Nat} {w : List (Nat × Nat)} (h : Way J hs x w) : ∀ p ∈ w, ∀ z, hs[p.2]? = some (some z) → ∃ y, (z, y) ∈ w := by
  induction h with
  | last a b =>
    intro p hp z hz
    obtain rfl := List.mem_singleton.mp hp
    rw [b] at hz
    cases hz
  | step a b c ih =>
    intro p hp z hz
    rcases List.mem_cons.mp hp with e | hp
    · subst e
      rw [b] at hz
      cases hz
      obtain ⟨y, hy, _⟩ := c.ne
      exact ⟨y, List.mem_cons_of_mem _ hy⟩
    · obtain ⟨y, hy⟩ := ih p hp z hz
      exact ⟨y, List.mem_cons_of_mem _ hy⟩
theorem Way.apart {c : Nat → Prop} (hc : Closed J hs c) {x : Nat} {w : List (Nat × Nat)} (h : Way J hs x w) : (¬ ∀ y, jn J x y → c y) ∧ ∀ p ∈ w, ¬ c p.2 := by
  induction h with
  | last a b =>
    have no : ∀ {y}, hs[y]? = some none → ¬ c y := fun {y} hy hcy => by
      obtain ⟨z, hz, _⟩ := hc y hcy
      rw [hy] at hz
      cases hz
    refine ⟨fun h => no b (h _ a), fun p hp => ?_⟩
    obtain rfl := List.mem_singleton.mp hp
    exact no b
  | step a b w ih =>
    have no : ¬ c _ := fun hcy => by
      obtain ⟨z, hz, hn⟩ := hc _ hcy
      rw [b] at hz
      cases hz
      exact ih.1 hn
    refine ⟨fun h => no (h _ a), fun p hp => ?_⟩
    rcases List.mem_cons.mp hp with e | hp
    · subst e
      exact no
    · exact ih.2 p hp
theorem Way.lefts {x : Nat} {w : List (Nat × Nat)} (h : Way J hs x w) (inj : ∀ (y y' x : Nat), hs[y]? = some (some x) → hs[y']? = some (some x) → y = y') : (w.map (·.2)).Nodup → (∀ p ∈ w, hs[p.2]? ≠ some (some x)) → (w.map (·.1)).Nodup := by
  induction h with
  | last a b => exact fun _ _ => List.nodup_cons.mpr ⟨List.not_mem_nil, List.nodup_nil⟩
  | @step x y x' w a b c ih =>
    intro nd hx
    rw [List.map_cons, List.nodup_cons] at nd
    rw [List.map_cons, List.nodup_cons]
    refine ⟨fun hm => ?_, ih nd.2 fun p hp e => ?_⟩
    · obtain ⟨p, hp, e⟩ := List.mem_map.mp hm
      have e : p.1 = x := e
      obtain ⟨_, _, h3⟩ := c.pair p hp
      rcases h3 with z | ⟨q, hq, z⟩
      · exact hx (x, y) List.mem_cons_self (by rw [b, ← z, e])
      · exact hx q (List.mem_cons_of_mem _ hq) (by rw [z, e])
    · have := inj _ _ _ e b
      exact nd.1 (List.mem_map.mpr ⟨p, hp, this⟩)
theorem MInv.way {n : Nat} {w : List (Nat × Nat)} (I : MInv J n hs) (h : Way J hs n w) (nd : (w.map (·.2)).Nodup) : MInv J (n + 1) (put hs w) := by
  have lt : ∀ p ∈ w, p.2 < hs.length := fun p hp => by
    obtain ⟨_, ⟨o, ho⟩, _⟩ := h.pair p hp
    exact (List.getElem?_eq_some_iff.mp ho).1
  have nl := h.lefts I.inj nd fun p _ e => Nat.lt_irrefl _ (I.ok _ _ e).1
  have inn : ∀ p ∈ w, (put hs w)[p.2]? = some (some p.1) := fun p hp => put_in nd hp (lt p hp)
  have look : ∀ {y x}, (put hs w)[y]? = some (some x) → (x, y) ∈ w ∨ (y ∉ w.map (·.2) ∧ hs[y]? = some (some x)) := fun {y x} e => by
    by_cases hy : y ∈ w.map (·.2)
    · obtain ⟨p, hp, rfl⟩ := List.mem_map.mp hy
      rw [inn p hp] at e
      cases e
      exact .inl hp
    · rw [put_out hy] at e
      exact .inr ⟨hy, e⟩
  have ltn : ∀ p ∈ w, p.1 < n + 1 := fun p hp => by
    rcases (h.pair p hp).2.2 with e | ⟨q, hq, e⟩
    · omega
    · have := (I.ok _ _ e).1
      omega
  have cross : ∀ {p : Nat × Nat} {y : Nat}, p ∈ w → y ∉ w.map (·.2) → hs[y]? = some (some p.1) → False := fun {p y} hp hy e => by
    rcases (h.pair p hp).2.2 with z | ⟨q, hq, z⟩
    · rw [z] at e
      exact Nat.lt_irrefl _ (I.ok _ _ e).1
    · exact hy (by rw [I.inj _ _ _ e z]; exact List.mem_map.mpr ⟨q, hq, rfl⟩)
  refine ⟨fun y x e => ?_, fun y y' x e e' => ?_, fun x hx => ?_⟩
  · rcases look e with m | ⟨_, m⟩
    · exact ⟨ltn _ m, (h.pair _ m).1⟩
    · have := I.ok _ _ m
      exact ⟨by omega, this.2⟩
  · rcases look e with m | ⟨o, m⟩
    · rcases look e' with m' | ⟨o', m'⟩
      · have key : ∀ {l : List (Nat × Nat)}, (l.map (·.1)).Nodup → (x, y) ∈ l → (x, y') ∈ l → y = y' := by
          intro l
          induction l with
          | nil => intro _ h; cases h
          | cons a l ih =>
            intro nd h1 h2
            rw [List.map_cons, List.nodup_cons] at nd
            rcases List.mem_cons.mp h1 with e1 | g1
            · rcases List.mem_cons.mp h2 with e2 | g2
              · rw [← e1] at e2
                exact (congrArg Prod.snd e2).symm
              · subst e1
                exact (nd.1 (List.mem_map.mpr ⟨(x, y'), g2, rfl⟩)).elim
            · rcases List.mem_cons.mp h2 with e2 | g2
              · subst e2
                exact (nd.1 (List.mem_map.mpr ⟨(x, y), g1, rfl⟩)).elim
              · exact ih nd.2 g1 g2
        exact key nl m m'
      · exact (cross m o' m').elim
    · rcases look e' with m' | ⟨o', m'⟩
      · exact (cross m' o m).elim
      · exact I.inj _ _ _ m m'
  · rcases Nat.lt_or_ge x n with hx | hx
    · rcases I.all x hx with ⟨y, hy⟩ | ⟨c, c1, c2⟩
      · left
        by_cases hm : y ∈ w.map (·.2)
        · obtain ⟨p, hp, rfl⟩ := List.mem_map.mp hm
          obtain ⟨y2, h2⟩ := h.next p hp x hy
          exact ⟨y2, inn _ h2⟩
        · exact ⟨y, by rw [put_out hm]; exact hy⟩
      · refine .inr ⟨c, c1, fun y hy => ?_⟩
        obtain ⟨z, hz, hn⟩ := c2 y hy
        refine ⟨z, ?_, hn⟩
        rw [put_out fun hm => ?_]
        · exact hz
        · obtain ⟨p, hp, rfl⟩ := List.mem_map.mp hm
          exact (h.apart c2).2 p hp hy
    · obtain ⟨y, hy, _⟩ := h.ne
      have : x = n := by omega
      subst this
      exact .inl ⟨y, inn _ hy⟩
theorem MInv.alone {n : Nat} (I : MInv J n hs) (h : Cert J hs n) : MInv J (n + 1) hs :=
  ⟨fun y x e => ⟨Nat.lt_succ_of_lt (I.ok y x e).1, (I.ok y x e).2⟩, I.inj, fun x hx => by
    rcases Nat.lt_or_ge x n with hx | hx
    · exact I.all x hx
    · have : x = n := by omega
      subst this
      exact .inr h⟩
theorem MInv.nil {r : Nat} : MInv J 0 (List.replicate r none) := by
  have no : ∀ {y x : Nat}, (List.replicate r (none : Option Nat))[y]? ≠ some (some x) := fun {y x} e => by
    have := List.eq_of_mem_replicate (List.mem_of_getElem? e)
    cases this
  exact ⟨fun y x e => (no e).elim, fun y y' x e _ => (no e).elim, fun x hx => absurd hx (Nat.not_lt_zero x)⟩
theorem MInv.cert {n : Nat} (I : MInv J n hs) : ∃ c : Nat → Prop, Closed J hs c ∧ ∀ x : Nat, x < n → (∀ y : Nat, hs[y]? ≠ some (some x)) → ∀ y, jn J x y → c y := by
  refine ⟨fun y => ∃ x, x < n ∧ ∃ c : Nat → Prop, (∀ y : Nat, jn J x y → c y) ∧ Closed J hs c ∧ c y, fun y hy => ?_, fun x hx h y hy => ?_⟩
  · obtain ⟨x, hx, c, c1, c2, c3⟩ := hy
    obtain ⟨z, hz, hn⟩ := c2 y c3
    exact ⟨z, hz, fun y' hy' => ⟨x, hx, c, c1, c2, hn y' hy'⟩⟩
  · rcases I.all x hx with ⟨y, hy⟩ | ⟨c, c1, c2⟩
    · exact absurd hy (h y)
    · exact ⟨x, hx, c, c1, c2, c1 y hy⟩
end
inductive Ch (J : List Nat) (hs : Hs) (s : Nat) : List Nat → List Nat → Prop where
  | base : Ch J hs s [s] []
  | snoc {ls rs : List Nat} {x y x' : Nat} : Ch J hs s (ls ++ [x]) rs → jn J x y → hs[y]? = some (some x') → y ∉ rs → Ch J hs s (ls ++ [x] ++ [x']) (rs ++ [y])
section
variable {J : List Nat} {hs : Hs} {s : Nat}
theorem Ch.len {ls rs : List Nat} (h : Ch J hs s ls rs) : ls.length = rs.length + 1 := by
  induction h with
  | base => rfl
  | snoc _ _ _ _ ih =>
    rw [List.length_append, ih, List.length_append]
    rfl
theorem Ch.nd {ls rs : List Nat} (h : Ch J hs s ls rs) : rs.Nodup := by
  induction h with
  | base => exact List.nodup_nil
  | snoc _ _ _ n ih => exact List.nodup_append.mpr ⟨ih, List.nodup_cons.mpr ⟨List.not_mem_nil, List.nodup_nil⟩, fun a ha b hb e => n (by rw [← List.mem_singleton.mp hb, ← e]; exact ha)⟩
theorem Ch.way {ls rs : List Nat} {x : Nat} (h : Ch J hs s (ls ++ [x]) rs) : ∀ {w : List (Nat × Nat)}, Way J hs x w → Way J hs s (ls.zip rs ++ w) := by
  generalize e : ls ++ [x] = l at h
  induction h generalizing ls x with
  | base =>
    intro w hw
    cases ls with
    | nil =>
      cases e
      exact hw
    | cons a l =>
      have := congrArg List.length e
      simp at this
  | @snoc ls' rs' x0 y x' c a b n ih =>
    intro w hw
    obtain ⟨e1, e2⟩ := List.append_inj' e rfl
    cases e2
    subst e1
    have := ih rfl (Way.step a b hw)
    have hl := c.len
    rw [List.length_append] at hl
    rw [List.zip_append (by simpa using hl)]
    rw [List.append_assoc]
    exact this
structure Seen (J : List Nat) (hs : Hs) (s : Nat) (ls : List Nat) (seen : Nat) : Prop where
  st : s ∈ ls ∨ ∀ y, jn J s y → seen.testBit y = true
  all : ∀ y, seen.testBit y = true → ∃ z, hs[y]? = some (some z) ∧ (z ∈ ls ∨ ∀ y', jn J z y' → seen.testBit y' = true)
theorem Seen.start : Seen J hs s [s] 0 := ⟨.inl (List.mem_singleton.mpr rfl), fun y h => by
  rw [Nat.zero_testBit] at h
  cases h⟩
theorem Seen.pop {ls : List Nat} {x seen : Nat} (h : Seen J hs s (ls ++ [x]) seen) (hx : ∀ y, jn J x y → seen.testBit y = true) : Seen J hs s ls seen := by
  have key : ∀ {z}, (z ∈ ls ++ [x] ∨ ∀ y', jn J z y' → seen.testBit y' = true) → (z ∈ ls ∨ ∀ y', jn J z y' → seen.testBit y' = true) := fun {z} hz => by
    rcases hz with hz | hz
    · rcases List.mem_append.mp hz with hz | hz
      · exact .inl hz
      · rw [List.mem_singleton.mp hz]
        exact .inr hx
    · exact .inr hz
  exact ⟨key h.st, fun y hy => by
    obtain ⟨z, h1, h2⟩ := h.all y hy
    exact ⟨z, h1, key h2⟩⟩
theorem bit_or {seen y z : Nat} : (seen ||| 2 ^ y).testBit z = true ↔ seen.testBit z = true ∨ z = y := by
  rw [Nat.testBit_or, Bool.or_eq_true, Nat.testBit_two_pow]
  simp
  constructor
  · rintro (h | h)
    · exact .inl h
    · exact .inr h.symm
  · rintro (h | h)
    · exact .inl h
    · exact .inr h.symm
theorem Seen.push {ls : List Nat} {x' y seen : Nat} (h : Seen J hs s ls seen) (hy : hs[y]? = some (some x')) : Seen J hs s (ls ++ [x']) (seen ||| 2 ^ y) := by
  have key : ∀ {z}, (z ∈ ls ∨ ∀ y', jn J z y' → seen.testBit y' = true) → (z ∈ ls ++ [x'] ∨ ∀ y', jn J z y' → (seen ||| 2 ^ y).testBit y' = true) := fun {z} hz => by
    rcases hz with hz | hz
    · exact .inl (List.mem_append_left _ hz)
    · exact .inr fun y' h' => bit_or.mpr (.inl (hz y' h'))
  refine ⟨key h.st, fun z hz => ?_⟩
  rcases bit_or.mp hz with hz | hz
  · obtain ⟨u, h1, h2⟩ := h.all z hz
    exact ⟨u, h1, key h2⟩
  · rw [hz]
    exact ⟨x', hy, .inl (List.mem_append_right _ (List.mem_singleton.mpr rfl))⟩
theorem Seen.cert {seen : Nat} (h : Seen J hs s [] seen) : Cert J hs s := by
  refine ⟨fun y => seen.testBit y = true, fun y hy => ?_, fun y hy => ?_⟩
  · rcases h.st with z | z
    · cases z
    · exact z y hy
  · obtain ⟨z, h1, h2⟩ := h.all y hy
    rcases h2 with q | q
    · cases q
    · exact ⟨z, h1, q⟩
end
end Mt
open Mt
def hI : Option Nat → Int
  | none => -1
  | some x => (x : Int)
def dH (hs : Hs) : List Da := hs.map fun o => Da.int (hI o)
theorem dH_len (hs : Hs) : (dH hs).length = hs.length := by unfold dH; rw [List.length_map]
theorem dH_at {hs : Hs} {y : Nat} {o : Option Nat} (h : hs[y]? = some o) : (dH hs)[y]? = some (.int (hI o)) := by
  unfold dH
  rw [List.getElem?_map, h]
  rfl
theorem dH_set {hs : Hs} {y : Nat} (o : Option Nat) : (dH hs).set y (.int (hI o)) = dH (hs.set y o) := by
  unfold dH
  rw [List.map_set]
theorem hI_none (o : Option Nat) : decide (hI o = -1) = o.isNone := by
  cases o with
  | none => rfl
  | some x => exact decide_eq_false (by show ¬ ((x : Int) = -1); omega)
theorem atI_last {α : Type} (l : List α) (x : α) : atI (l ++ [x]) (-1) = some x := by
  unfold atI ixN
  rw [List.length_append, List.length_singleton, if_neg (by omega), if_pos (by omega)]
  show (l ++ [x])[((-1 : Int) + ((l.length + 1 : Nat) : Int)).toNat]? = some x
  rw [show ((-1 : Int) + ((l.length + 1 : Nat) : Int)).toNat = l.length by omega, List.getElem?_append_right (Nat.le_refl _), Nat.sub_self]
  rfl
theorem fIx_last (l : List Nat) (x : Nat) : fIx (.lst (dNs (l ++ [x]))) (.int (-1)) = .ok (.int (x : Int)) := by
  show getR (atI (dNs (l ++ [x])) (-1)) = _
  rw [dNs_snoc, atI_last]
  rfl
theorem ch_pop {J : List Nat} {hs : Hs} {s x : Nat} {ls rs : List Nat} (h : Ch J hs s (ls ++ [x]) rs) : (ls = [] ∧ rs = []) ∨ Ch J hs s ls rs.dropLast := by
  generalize e : ls ++ [x] = l at h
  cases h with
  | base =>
    cases ls with
    | nil => exact .inl ⟨rfl, rfl⟩
    | cons a l =>
      have := congrArg List.length e
      simp at this
  | snoc c a b n =>
    obtain ⟨e1, e2⟩ := List.append_inj' e rfl
    subst e1
    rw [List.dropLast_concat]
    exact .inr c
theorem dNs_dropLast (l : List Nat) : (dNs l).dropLast = dNs l.dropLast := by unfold dNs; rw [List.map_dropLast]
def unseen (r seen : Nat) : Nat := ((List.range r).filter fun y => !seen.testBit y).length
theorem unseen_push {r seen y : Nat} (hy : y < r) (h : seen.testBit y = false) : unseen r (seen ||| 2 ^ y) < unseen r seen := by
  unfold unseen
  refine cnt_lt (List.range r) (fun x hx => ?_) (List.mem_range.mpr hy) (by rw [h]; rfl) (by rw [bit_or.mpr (.inr rfl)]; rfl)
  cases hs : seen.testBit x with
  | false => rfl
  | true =>
    rw [bit_or.mpr (.inl hs)] at hx
    cases hx
theorem prD_zip (xs ys : List Nat) : prD (dNs xs) (dNs ys) = dPs (xs.zip ys) := by
  induction xs generalizing ys with
  | nil => cases ys <;> rfl
  | cons x xs ih =>
    cases ys with
    | nil => rfl
    | cons y ys =>
      show Da.tup [.int (x : Int), .int (y : Int)] :: prD (dNs xs) (dNs ys) = _
      rw [ih]
      rfl
section
variable (a : Ax)
structure WI (J : List Nat) (hs : Hs) (s : Nat) (ls rs : List Nat) (seen : Nat) : Prop where
  ch : (ls = [] ∧ rs = []) ∨ Ch J hs s ls rs
  sn : Seen J hs s ls seen
  rsn : ∀ y ∈ rs, seen.testBit y = true
  lt : ∀ x ∈ ls, x < J.length
  sl : seen < 2 ^ hs.length
theorem J_at {J : List Nat} {x : Nat} (h : x < J.length) : (dNs J)[x]? = some (.int ((J.getD x 0 : Nat) : Int)) := by
  unfold dNs
  rw [List.getElem?_map, List.getElem?_eq_getElem h, List.getD_eq_getElem?_getD, List.getElem?_eq_getElem h]
  rfl
theorem fIx_J {dJ : Da} {J : List Nat} {x : Nat} (hJ : seqOf dJ = .ok (dNs J)) (h : x < J.length) : fIx dJ (.int (x : Int)) = .ok (.int ((J.getD x 0 : Nat) : Int)) := by
  unfold fIx
  rw [hJ]
  show getR (atI (dNs J) (x : Int)) = _
  rw [atI_nat, J_at h]
  rfl
theorem fIx_H {hs : Hs} {y : Nat} {o : Option Nat} (h : hs[y]? = some o) : fIx (.lst (dH hs)) (.int (y : Int)) = .ok (.int (hI o)) := by
  rw [fIx_lst, dH_at h]
  rfl
theorem and_not_test {n p : Nat} (h : p < 2 ^ n) (q y : Nat) : (p - (p &&& q)).testBit y = (p.testBit y && !q.testBit y) := by
  have e1 : p &&& q = p &&& bitsOf n q.testBit := by
    apply Nat.eq_of_testBit_eq
    intro z
    rw [Nat.testBit_and, Nat.testBit_and, bitsOf_test]
    cases hz : p.testBit z with
    | false => rfl
    | true =>
      have : z < n := Nat.lt_of_not_le fun hle => by
        rw [Nat.testBit_lt_two_pow (Nat.lt_of_lt_of_le h (Nat.pow_le_pow_right (by decide) hle))] at hz
        cases hz
      rw [decide_eq_true this, Bool.true_and, Bool.true_and]
  have e2 := bits_minus n q.testBit p.testBit
  rw [bitsOf_self h, ← e1] at e2
  rw [e2, bitsOf_test]
  cases hz : p.testBit y with
  | false => rw [Bool.false_and, Bool.and_false]
  | true =>
    have : y < n := Nat.lt_of_not_le fun hle => by
      rw [Nat.testBit_lt_two_pow (Nat.lt_of_lt_of_le h (Nat.pow_le_pow_right (by decide) hle))] at hz
      cases hz
    rw [decide_eq_true this, Bool.true_and]
theorem dNs_nil : dNs [] = [] := rfl
theorem m_augmenting_way_ok {J : List Nat} {hs : Hs} {x : Nat} {dJ : Da} (hJ : seqOf dJ = .ok (dNs J)) (hx : x < J.length) (hr : hs.length ≤ 1000) (hb : ∀ z, z < J.length → J.getD z 0 < 2 ^ hs.length) (hh : ∀ y z : Nat, hs[y]? = some (some z) → z < J.length) :
    ∃ w, m_augmenting_way a (dH hs) [dJ, .int (x : Int)] = .ok (.lst (dPs w), dH hs) ∧ ((w = [] ∧ Cert J hs x) ∨ (Way J hs x w ∧ (w.map (·.2)).Nodup)) := by
  unfold m_augmenting_way
  simp only [mVar_ap, mC_ap, m1_ap, m2_ap, mN_ap, mCons_ap, mNil_ap, mTup_ap, mLst_ap, mT_ap, mTNot_ap, mTAnd_ap, mTOr_ap, mYes_ap, mAnd_ap, mOr_ap, mNot_ap, mIf_ap, mChain_ap, mSeq_ap, mRng1_ap, mRng2_ap, mRngV_ap, mRev_ap, mEnum_ap, mLc_ap, mLc2_ap, mSlL_ap, mSlT_ap, mPart_ap, mNoP_ap, Go_nx, Go_ct, Rt_rt, Bk_bk, runD_ap, runM_ap, runI_ap, ok_bind, ex_bind, fBl_bl, sSeq_ap, sAsg_ap, sNew_ap, sDrop_ap, sRet_ap, sRetN_ap, sIf_ap, sNext_ap, sBreak_ap, sCont_ap, sRaise_ap, sFor_ap, sWhile_ap, sPar_ap, sApp_ap, sExt_ap, sSet_ap, sDelLast_ap, sSet2_ap, sSwap_ap, iFld_ap, iFldS_ap, iSeq_ap, yH_ap, yP_ap, ybH_ap, ybP_ap, yaH_ap, y1_ap, y2_ap, yNil_ap, yCons_ap, yN_ap, yX_ap, yTup_ap, yLst_ap, yT_ap, yTNot_ap, yTAnd_ap, yTOr_ap, yIf_ap, yAnd_ap, yOr_ap, yNot_ap, yM_ap, yPop_ap, yPopAt_ap, yRng1_ap, yRng2_ap, ySeq_ap, yMeth_ap, bindT, bindTs, hide, hideF, wipeG, seqOf_lst, seqOf_tup, lstOf_lst, tupOf_tup, lstAt, getR_some, sca_int, sca_bl, sca_str, sca_non, Option.isSome_some, fLen_1, fRange1_int, fTupOf_1, fListOf_1, fII_int, fIB_int, fU_int, fRevT_1, fBits_int, fInt1_int, fIsi_tt, fIsi_tl, fIsi_ti, fIsi_ii, fIsi_bi, fIsi_ib, fIsi_bb, fIsi2_l, fIsi2_t, List.length_cons, List.length_nil, List.map_cons, List.map_nil, List.cons_append, List.nil_append, List.append_nil, List.getElem?_cons_zero, List.getElem?_cons_succ, List.set_cons_zero, List.set_cons_succ, List.contains_cons, List.contains_nil, Nat.reduceBEq, Bool.or_false, Bool.false_or, Bool.or_true, Bool.true_or, Bool.false_eq_true, if_true, if_false, ite_true, ite_false, ↓reduceIte, reduceCtorEq, Nat.reduceLeDiff, Nat.zero_add, Nat.reduceAdd, Nat.reduceLT, Nat.lt_add_one, bitAnd_nat, bitOr_nat, rep_0, rep_1, rep_2, rep_3, rep_4, rep_5, rep_6, rep_7, rep_8, rep_9, rep_10, rep_11, rep_12, rep_13, rep_14, rep_15, rep_16, rep_17, rep_18, rep_19, rep_20, rep_21, rep_22, rep_23, rep_24, rep_25, rep_26, rep_27, rep_28, rep_29, rep_30, rep_31, rep_32, rep_33, rep_34, rep_35, rep_36, rep_37, rep_38, rep_39, rep_40, and_self, and_true, true_and, decide_true, decide_false, Bool.not_true, Bool.not_false, Bool.and_true, Bool.true_and, Bool.and_false, Bool.false_and, neg_ok1, neg_ok2, Int.sub_zero, dNs_len, List.length_range, Rq_rt, runB_ap, yZip_ap, yB_ap, List.take_succ_cons, List.take_zero, List.drop_succ_cons, List.drop_zero, bring_nil, bring_cons, yLc_ap, sNewY_ap, ybYes_ap, ylcRun_nil, show (1 : Nat) ≤ 2 from by decide]
  generalize hR : whRun _ _ _ _ = r
  rcases wh_ret_of hR (fun (s : List Nat × List Nat × Nat) e => WI J hs x s.1 s.2.1 s.2.2 ∧ ∃ v6 v7, e = [some dJ, some (.lst (dH hs)), some (.int (x : Int)), some (.lst (dNs s.1)), some (.lst (dNs s.2.1)), some (.int (s.2.2 : Int)), v6, v7]) (fun s => 2 * unseen hs.length s.2.2 + s.1.length) (fun e => Cert J hs x ∧ ∃ v3 v4 v5 v6 v7, e = [some dJ, some (.lst (dH hs)), some (.int (x : Int)), v3, v4, v5, v6, v7]) (fun d e => ∃ w v3 v4 v5 v6 v7, d = .lst (dPs w) ∧ Way J hs x w ∧ (w.map (·.2)).Nodup ∧ e = [some dJ, some (.lst (dH hs)), some (.int (x : Int)), v3, v4, v5, v6, v7]) ([x], [], 0) ⟨⟨.inr .base, Seen.start, fun y hy => (by cases hy), fun z hz => (by rw [List.mem_singleton.mp hz]; exact hx), Nat.two_pow_pos _⟩, none, none, rfl⟩ (by
      have := List.length_filter_le (fun y => !(0 : Nat).testBit y) (List.range hs.length)
      rw [List.length_range] at this
      show 2 * unseen hs.length 0 + 1 < 1000000
      unfold unseen
      omega) (fun ⟨ls, rs, seen⟩ e => by
    rintro ⟨W, v6, v7, rfl⟩
    rcases List.eq_nil_or_concat ls with hls | ⟨l0, z, hls⟩
    · subst hls
      have hsn : Cert J hs x := W.sn.cert
      refine .inl ⟨[some dJ, some (.lst (dH hs)), some (.int (x : Int)), some (.lst (dNs [])), some (.lst (dNs rs)), some (.int (seen : Int)), v6, v7], ?_, hsn, _, _, _, _, _, rfl⟩
      simp only [mVar_ap, mC_ap, m1_ap, m2_ap, mN_ap, mCons_ap, mNil_ap, mTup_ap, mLst_ap, mT_ap, mTNot_ap, mTAnd_ap, mTOr_ap, mYes_ap, mAnd_ap, mOr_ap, mNot_ap, mIf_ap, mChain_ap, mSeq_ap, mRng1_ap, mRng2_ap, mRngV_ap, mRev_ap, mEnum_ap, mLc_ap, mLc2_ap, mSlL_ap, mSlT_ap, mPart_ap, mNoP_ap, Go_nx, Go_ct, Rt_rt, Bk_bk, runD_ap, runM_ap, runI_ap, ok_bind, ex_bind, fBl_bl, sSeq_ap, sAsg_ap, sNew_ap, sDrop_ap, sRet_ap, sRetN_ap, sIf_ap, sNext_ap, sBreak_ap, sCont_ap, sRaise_ap, sFor_ap, sWhile_ap, sPar_ap, sApp_ap, sExt_ap, sSet_ap, sDelLast_ap, sSet2_ap, sSwap_ap, iFld_ap, iFldS_ap, iSeq_ap, yH_ap, yP_ap, ybH_ap, ybP_ap, yaH_ap, y1_ap, y2_ap, yNil_ap, yCons_ap, yN_ap, yX_ap, yTup_ap, yLst_ap, yT_ap, yTNot_ap, yTAnd_ap, yTOr_ap, yIf_ap, yAnd_ap, yOr_ap, yNot_ap, yM_ap, yPop_ap, yPopAt_ap, yRng1_ap, yRng2_ap, ySeq_ap, yMeth_ap, bindT, bindTs, hide, hideF, wipeG, seqOf_lst, seqOf_tup, lstOf_lst, tupOf_tup, lstAt, getR_some, sca_int, sca_bl, sca_str, sca_non, Option.isSome_some, fLen_1, fRange1_int, fTupOf_1, fListOf_1, fII_int, fIB_int, fU_int, fRevT_1, fBits_int, fInt1_int, fIsi_tt, fIsi_tl, fIsi_ti, fIsi_ii, fIsi_bi, fIsi_ib, fIsi_bb, fIsi2_l, fIsi2_t, List.length_cons, List.length_nil, List.map_cons, List.map_nil, List.cons_append, List.nil_append, List.append_nil, List.getElem?_cons_zero, List.getElem?_cons_succ, List.set_cons_zero, List.set_cons_succ, List.contains_cons, List.contains_nil, Nat.reduceBEq, Bool.or_false, Bool.false_or, Bool.or_true, Bool.true_or, Bool.false_eq_true, if_true, if_false, ite_true, ite_false, ↓reduceIte, reduceCtorEq, Nat.reduceLeDiff, Nat.zero_add, Nat.reduceAdd, Nat.reduceLT, Nat.lt_add_one, bitAnd_nat, bitOr_nat, rep_0, rep_1, rep_2, rep_3, rep_4, rep_5, rep_6, rep_7, rep_8, rep_9, rep_10, rep_11, rep_12, rep_13, rep_14, rep_15, rep_16, rep_17, rep_18, rep_19, rep_20, rep_21, rep_22, rep_23, rep_24, rep_25, rep_26, rep_27, rep_28, rep_29, rep_30, rep_31, rep_32, rep_33, rep_34, rep_35, rep_36, rep_37, rep_38, rep_39, rep_40, and_self, and_true, true_and, decide_true, decide_false, Bool.not_true, Bool.not_false, Bool.and_true, Bool.true_and, Bool.and_false, Bool.false_and, neg_ok1, neg_ok2, Int.sub_zero, dNs_len, List.length_range, Rq_rt, runB_ap, yZip_ap, yB_ap, List.take_succ_cons, List.take_zero, List.drop_succ_cons, List.drop_zero, bring_nil, bring_cons, yLc_ap, sNewY_ap, ybYes_ap, ylcRun_nil, dNs_nil, nat_pos_dec]
    · rw [List.concat_eq_append] at hls
      subst hls
      have hzJ : z < J.length := W.lt z (by simp)
      have hl0 : (l0 ++ [z]).length = l0.length + 1 := by simp
      have hfl := hb z hzJ
      refine .inr ⟨[some dJ, some (.lst (dH hs)), some (.int (x : Int)), some (.lst (dNs (l0 ++ [z]))), some (.lst (dNs rs)), some (.int (seen : Int)), v6, v7], ?_, ?_⟩
      · simp only [mVar_ap, mC_ap, m1_ap, m2_ap, mN_ap, mCons_ap, mNil_ap, mTup_ap, mLst_ap, mT_ap, mTNot_ap, mTAnd_ap, mTOr_ap, mYes_ap, mAnd_ap, mOr_ap, mNot_ap, mIf_ap, mChain_ap, mSeq_ap, mRng1_ap, mRng2_ap, mRngV_ap, mRev_ap, mEnum_ap, mLc_ap, mLc2_ap, mSlL_ap, mSlT_ap, mPart_ap, mNoP_ap, Go_nx, Go_ct, Rt_rt, Bk_bk, runD_ap, runM_ap, runI_ap, ok_bind, ex_bind, fBl_bl, sSeq_ap, sAsg_ap, sNew_ap, sDrop_ap, sRet_ap, sRetN_ap, sIf_ap, sNext_ap, sBreak_ap, sCont_ap, sRaise_ap, sFor_ap, sWhile_ap, sPar_ap, sApp_ap, sExt_ap, sSet_ap, sDelLast_ap, sSet2_ap, sSwap_ap, iFld_ap, iFldS_ap, iSeq_ap, yH_ap, yP_ap, ybH_ap, ybP_ap, yaH_ap, y1_ap, y2_ap, yNil_ap, yCons_ap, yN_ap, yX_ap, yTup_ap, yLst_ap, yT_ap, yTNot_ap, yTAnd_ap, yTOr_ap, yIf_ap, yAnd_ap, yOr_ap, yNot_ap, yM_ap, yPop_ap, yPopAt_ap, yRng1_ap, yRng2_ap, ySeq_ap, yMeth_ap, bindT, bindTs, hide, hideF, wipeG, seqOf_lst, seqOf_tup, lstOf_lst, tupOf_tup, lstAt, getR_some, sca_int, sca_bl, sca_str, sca_non, Option.isSome_some, fLen_1, fRange1_int, fTupOf_1, fListOf_1, fII_int, fIB_int, fU_int, fRevT_1, fBits_int, fInt1_int, fIsi_tt, fIsi_tl, fIsi_ti, fIsi_ii, fIsi_bi, fIsi_ib, fIsi_bb, fIsi2_l, fIsi2_t, List.length_cons, List.length_nil, List.map_cons, List.map_nil, List.cons_append, List.nil_append, List.append_nil, List.getElem?_cons_zero, List.getElem?_cons_succ, List.set_cons_zero, List.set_cons_succ, List.contains_cons, List.contains_nil, Nat.reduceBEq, Bool.or_false, Bool.false_or, Bool.or_true, Bool.true_or, Bool.false_eq_true, if_true, if_false, ite_true, ite_false, ↓reduceIte, reduceCtorEq, Nat.reduceLeDiff, Nat.zero_add, Nat.reduceAdd, Nat.reduceLT, Nat.lt_add_one, bitAnd_nat, bitOr_nat, rep_0, rep_1, rep_2, rep_3, rep_4, rep_5, rep_6, rep_7, rep_8, rep_9, rep_10, rep_11, rep_12, rep_13, rep_14, rep_15, rep_16, rep_17, rep_18, rep_19, rep_20, rep_21, rep_22, rep_23, rep_24, rep_25, rep_26, rep_27, rep_28, rep_29, rep_30, rep_31, rep_32, rep_33, rep_34, rep_35, rep_36, rep_37, rep_38, rep_39, rep_40, and_self, and_true, true_and, decide_true, decide_false, Bool.not_true, Bool.not_false, Bool.and_true, Bool.true_and, Bool.and_false, Bool.false_and, neg_ok1, neg_ok2, Int.sub_zero, dNs_len, List.length_range, Rq_rt, runB_ap, yZip_ap, yB_ap, List.take_succ_cons, List.take_zero, List.drop_succ_cons, List.drop_zero, bring_nil, bring_cons, yLc_ap, sNewY_ap, ybYes_ap, ylcRun_nil, hl0, nat_pos_dec, Nat.succ_pos]
      · by_cases hf : J.getD z 0 - (J.getD z 0 &&& seen) = 0
        · refine .inl ?_
          have hpop : (dNs (l0 ++ [z]))[(l0 ++ [z]).length - 1]? = some (.int (z : Int)) := by
            rw [hl0, Nat.add_sub_cancel, dNs_snoc, List.getElem?_append_right (by rw [dNs_len]; omega), dNs_len, Nat.sub_self]
            rfl
          have z0 : decide (((0 : Nat) : Int) = 0) = true := rfl
          simp only [mVar_ap, mC_ap, m1_ap, m2_ap, mN_ap, mCons_ap, mNil_ap, mTup_ap, mLst_ap, mT_ap, mTNot_ap, mTAnd_ap, mTOr_ap, mYes_ap, mAnd_ap, mOr_ap, mNot_ap, mIf_ap, mChain_ap, mSeq_ap, mRng1_ap, mRng2_ap, mRngV_ap, mRev_ap, mEnum_ap, mLc_ap, mLc2_ap, mSlL_ap, mSlT_ap, mPart_ap, mNoP_ap, Go_nx, Go_ct, Rt_rt, Bk_bk, runD_ap, runM_ap, runI_ap, ok_bind, ex_bind, fBl_bl, sSeq_ap, sAsg_ap, sNew_ap, sDrop_ap, sRet_ap, sRetN_ap, sIf_ap, sNext_ap, sBreak_ap, sCont_ap, sRaise_ap, sFor_ap, sWhile_ap, sPar_ap, sApp_ap, sExt_ap, sSet_ap, sDelLast_ap, sSet2_ap, sSwap_ap, iFld_ap, iFldS_ap, iSeq_ap, yH_ap, yP_ap, ybH_ap, ybP_ap, yaH_ap, y1_ap, y2_ap, yNil_ap, yCons_ap, yN_ap, yX_ap, yTup_ap, yLst_ap, yT_ap, yTNot_ap, yTAnd_ap, yTOr_ap, yIf_ap, yAnd_ap, yOr_ap, yNot_ap, yM_ap, yPop_ap, yPopAt_ap, yRng1_ap, yRng2_ap, ySeq_ap, yMeth_ap, bindT, bindTs, hide, hideF, wipeG, seqOf_lst, seqOf_tup, lstOf_lst, tupOf_tup, lstAt, getR_some, sca_int, sca_bl, sca_str, sca_non, Option.isSome_some, fLen_1, fRange1_int, fTupOf_1, fListOf_1, fII_int, fIB_int, fU_int, fRevT_1, fBits_int, fInt1_int, fIsi_tt, fIsi_tl, fIsi_ti, fIsi_ii, fIsi_bi, fIsi_ib, fIsi_bb, fIsi2_l, fIsi2_t, List.length_cons, List.length_nil, List.map_cons, List.map_nil, List.cons_append, List.nil_append, List.append_nil, List.getElem?_cons_zero, List.getElem?_cons_succ, List.set_cons_zero, List.set_cons_succ, List.contains_cons, List.contains_nil, Nat.reduceBEq, Bool.or_false, Bool.false_or, Bool.or_true, Bool.true_or, Bool.false_eq_true, if_true, if_false, ite_true, ite_false, ↓reduceIte, reduceCtorEq, Nat.reduceLeDiff, Nat.zero_add, Nat.reduceAdd, Nat.reduceLT, Nat.lt_add_one, bitAnd_nat, bitOr_nat, rep_0, rep_1, rep_2, rep_3, rep_4, rep_5, rep_6, rep_7, rep_8, rep_9, rep_10, rep_11, rep_12, rep_13, rep_14, rep_15, rep_16, rep_17, rep_18, rep_19, rep_20, rep_21, rep_22, rep_23, rep_24, rep_25, rep_26, rep_27, rep_28, rep_29, rep_30, rep_31, rep_32, rep_33, rep_34, rep_35, rep_36, rep_37, rep_38, rep_39, rep_40, and_self, and_true, true_and, decide_true, decide_false, Bool.not_true, Bool.not_false, Bool.and_true, Bool.true_and, Bool.and_false, Bool.false_and, neg_ok1, neg_ok2, Int.sub_zero, dNs_len, List.length_range, Rq_rt, runB_ap, yZip_ap, yB_ap, List.take_succ_cons, List.take_zero, List.drop_succ_cons, List.drop_zero, bring_nil, bring_cons, yLc_ap, sNewY_ap, ybYes_ap, ylcRun_nil, fIx_last, fIx_J hJ hzJ, and_not_nat, hf, eqS_int, z0, hpop, dNs_dropLast, List.dropLast_concat]
          refine ⟨(l0, rs.dropLast, seen), ⟨⟨?_, W.sn.pop fun y hy => ?_, fun y hy => W.rsn y ((List.dropLast_sublist _).subset hy), fun u hu => W.lt u (List.mem_append_left _ hu), W.sl⟩, _, _, rfl⟩, (by
            show 2 * unseen hs.length seen + l0.length < 2 * unseen hs.length seen + (l0 ++ [z]).length
            rw [hl0]
            omega)⟩
          · rcases W.ch with ⟨h1, _⟩ | h1
            · exact absurd (congrArg List.length h1) (by simp)
            · rcases ch_pop h1 with ⟨h2, h3⟩ | h2
              · have h3 : rs = [] := h3
                exact .inl ⟨h2, by rw [h3]; rfl⟩
              · exact .inr h2
          · have := and_not_test hfl seen y
            rw [hf, Nat.zero_testBit, show (J.getD z 0).testBit y = true from hy, Bool.true_and] at this
            show seen.testBit y = true
            cases hsy : seen.testBit y with
            | true => rfl
            | false =>
              rw [hsy] at this
              cases this
        · obtain ⟨y, c, hyc⟩ := odd_part _ (Nat.pos_of_ne_zero hf)
          have hbit : (J.getD z 0 - (J.getD z 0 &&& seen)).testBit y = true := by rw [hyc]; exact odd_bit y c
          rw [and_not_test hfl, Bool.and_eq_true] at hbit
          have hjn : jn J z y := hbit.1
          have hns : seen.testBit y = false := by simpa using hbit.2
          have hyr : y < hs.length := Nat.lt_of_not_le fun hle => by
            have := hbit.1
            rw [Nat.testBit_lt_two_pow (Nat.lt_of_lt_of_le hfl (Nat.pow_le_pow_right (by decide) hle))] at this
            cases this
          obtain ⟨o, ho⟩ : ∃ o, hs[y]? = some o := ⟨hs[y], by simp [hyr]⟩
          have hyrs : y ∉ rs := fun hm => by
            have := W.rsn y hm
            rw [hns] at this
            cases this
          have hch : Ch J hs x (l0 ++ [z]) rs := by
            rcases W.ch with ⟨h1, _⟩ | h1
            · exact absurd (congrArg List.length h1) (by simp)
            · exact h1
          have hlen := hch.len
          have hnd := hch.nd
          have hrl : rs.length ≤ 1000 := by
            have hlt : ∀ u ∈ rs, u < hs.length := fun u hu => by
              have h2 : seen.testBit u = true := W.rsn u hu
              refine Nat.lt_of_not_le fun hle => ?_
              rw [Nat.testBit_lt_two_pow (Nat.lt_of_lt_of_le W.sl (Nat.pow_le_pow_right (by decide) hle))] at h2
              cases h2
            have h1 := range_pick hnd hlt (p := fun y => decide (y ∈ rs)) fun y => decide_eq_true_iff
            have h2 := List.length_filter_le (fun y => decide (y ∈ rs)) (List.range hs.length)
            rw [List.length_range] at h2
            omega
          have nz : decide (((2 ^ y * (2 * c + 1) : Nat) : Int) = 0) = false := decide_eq_false (by
            have := Nat.mul_pos (Nat.two_pow_pos y) (show 0 < 2 * c + 1 by omega)
            omega)
          have hy8 : y ≤ 100000000 := by omega
          cases o with
          | none =>
            refine .inr ?_
            have l3 : (dNs (l0 ++ [z])).length = (dNs rs ++ [Da.int (y : Int)]).length ∧ (dNs (l0 ++ [z])).length ≤ 1000000 := by
              rw [List.length_append, dNs_len, dNs_len, List.length_singleton]
              omega
            have d1 : decide (hI none = -1) = true := rfl
            simp only [mVar_ap, mC_ap, m1_ap, m2_ap, mN_ap, mCons_ap, mNil_ap, mTup_ap, mLst_ap, mT_ap, mTNot_ap, mTAnd_ap, mTOr_ap, mYes_ap, mAnd_ap, mOr_ap, mNot_ap, mIf_ap, mChain_ap, mSeq_ap, mRng1_ap, mRng2_ap, mRngV_ap, mRev_ap, mEnum_ap, mLc_ap, mLc2_ap, mSlL_ap, mSlT_ap, mPart_ap, mNoP_ap, Go_nx, Go_ct, Rt_rt, Bk_bk, runD_ap, runM_ap, runI_ap, ok_bind, ex_bind, fBl_bl, sSeq_ap, sAsg_ap, sNew_ap, sDrop_ap, sRet_ap, sRetN_ap, sIf_ap, sNext_ap, sBreak_ap, sCont_ap, sRaise_ap, sFor_ap, sWhile_ap, sPar_ap, sApp_ap, sExt_ap, sSet_ap, sDelLast_ap, sSet2_ap, sSwap_ap, iFld_ap, iFldS_ap, iSeq_ap, yH_ap, yP_ap, ybH_ap, ybP_ap, yaH_ap, y1_ap, y2_ap, yNil_ap, yCons_ap, yN_ap, yX_ap, yTup_ap, yLst_ap, yT_ap, yTNot_ap, yTAnd_ap, yTOr_ap, yIf_ap, yAnd_ap, yOr_ap, yNot_ap, yM_ap, yPop_ap, yPopAt_ap, yRng1_ap, yRng2_ap, ySeq_ap, yMeth_ap, bindT, bindTs, hide, hideF, wipeG, seqOf_lst, seqOf_tup, lstOf_lst, tupOf_tup, lstAt, getR_some, sca_int, sca_bl, sca_str, sca_non, Option.isSome_some, fLen_1, fRange1_int, fTupOf_1, fListOf_1, fII_int, fIB_int, fU_int, fRevT_1, fBits_int, fInt1_int, fIsi_tt, fIsi_tl, fIsi_ti, fIsi_ii, fIsi_bi, fIsi_ib, fIsi_bb, fIsi2_l, fIsi2_t, List.length_cons, List.length_nil, List.map_cons, List.map_nil, List.cons_append, List.nil_append, List.append_nil, List.getElem?_cons_zero, List.getElem?_cons_succ, List.set_cons_zero, List.set_cons_succ, List.contains_cons, List.contains_nil, Nat.reduceBEq, Bool.or_false, Bool.false_or, Bool.or_true, Bool.true_or, Bool.false_eq_true, if_true, if_false, ite_true, ite_false, ↓reduceIte, reduceCtorEq, Nat.reduceLeDiff, Nat.zero_add, Nat.reduceAdd, Nat.reduceLT, Nat.lt_add_one, bitAnd_nat, bitOr_nat, rep_0, rep_1, rep_2, rep_3, rep_4, rep_5, rep_6, rep_7, rep_8, rep_9, rep_10, rep_11, rep_12, rep_13, rep_14, rep_15, rep_16, rep_17, rep_18, rep_19, rep_20, rep_21, rep_22, rep_23, rep_24, rep_25, rep_26, rep_27, rep_28, rep_29, rep_30, rep_31, rep_32, rep_33, rep_34, rep_35, rep_36, rep_37, rep_38, rep_39, rep_40, and_self, and_true, true_and, decide_true, decide_false, Bool.not_true, Bool.not_false, Bool.and_true, Bool.true_and, Bool.and_false, Bool.false_and, neg_ok1, neg_ok2, Int.sub_zero, dNs_len, List.length_range, Rq_rt, runB_ap, yZip_ap, yB_ap, List.take_succ_cons, List.take_zero, List.drop_succ_cons, List.drop_zero, bring_nil, bring_cons, yLc_ap, sNewY_ap, ybYes_ap, ylcRun_nil, fIx_last, fIx_J hJ hzJ, and_not_nat, hyc, eqS_int, nz, m_lowest_pow, shl_one hy8, show rs.length < 1000000 from by omega, fIx_H ho, d1, l3]
            have e1 : dNs rs ++ [Da.int (y : Int)] = dNs (rs ++ [y]) := (dNs_snoc rs y).symm
            rw [e1, prD_zip]
            have l5 : (rs ++ [y]).length ≤ 1000000 := by rw [List.length_append, List.length_singleton]; omega
            simp only [mVar_ap, mC_ap, m1_ap, m2_ap, mN_ap, mCons_ap, mNil_ap, mTup_ap, mLst_ap, mT_ap, mTNot_ap, mTAnd_ap, mTOr_ap, mYes_ap, mAnd_ap, mOr_ap, mNot_ap, mIf_ap, mChain_ap, mSeq_ap, mRng1_ap, mRng2_ap, mRngV_ap, mRev_ap, mEnum_ap, mLc_ap, mLc2_ap, mSlL_ap, mSlT_ap, mPart_ap, mNoP_ap, Go_nx, Go_ct, Rt_rt, Bk_bk, runD_ap, runM_ap, runI_ap, ok_bind, ex_bind, fBl_bl, sSeq_ap, sAsg_ap, sNew_ap, sDrop_ap, sRet_ap, sRetN_ap, sIf_ap, sNext_ap, sBreak_ap, sCont_ap, sRaise_ap, sFor_ap, sWhile_ap, sPar_ap, sApp_ap, sExt_ap, sSet_ap, sDelLast_ap, sSet2_ap, sSwap_ap, iFld_ap, iFldS_ap, iSeq_ap, yH_ap, yP_ap, ybH_ap, ybP_ap, yaH_ap, y1_ap, y2_ap, yNil_ap, yCons_ap, yN_ap, yX_ap, yTup_ap, yLst_ap, yT_ap, yTNot_ap, yTAnd_ap, yTOr_ap, yIf_ap, yAnd_ap, yOr_ap, yNot_ap, yM_ap, yPop_ap, yPopAt_ap, yRng1_ap, yRng2_ap, ySeq_ap, yMeth_ap, bindT, bindTs, hide, hideF, wipeG, seqOf_lst, seqOf_tup, lstOf_lst, tupOf_tup, lstAt, getR_some, sca_int, sca_bl, sca_str, sca_non, Option.isSome_some, fLen_1, fRange1_int, fTupOf_1, fListOf_1, fII_int, fIB_int, fU_int, fRevT_1, fBits_int, fInt1_int, fIsi_tt, fIsi_tl, fIsi_ti, fIsi_ii, fIsi_bi, fIsi_ib, fIsi_bb, fIsi2_l, fIsi2_t, List.length_cons, List.length_nil, List.map_cons, List.map_nil, List.cons_append, List.nil_append, List.append_nil, List.getElem?_cons_zero, List.getElem?_cons_succ, List.set_cons_zero, List.set_cons_succ, List.contains_cons, List.contains_nil, Nat.reduceBEq, Bool.or_false, Bool.false_or, Bool.or_true, Bool.true_or, Bool.false_eq_true, if_true, if_false, ite_true, ite_false, ↓reduceIte, reduceCtorEq, Nat.reduceLeDiff, Nat.zero_add, Nat.reduceAdd, Nat.reduceLT, Nat.lt_add_one, bitAnd_nat, bitOr_nat, rep_0, rep_1, rep_2, rep_3, rep_4, rep_5, rep_6, rep_7, rep_8, rep_9, rep_10, rep_11, rep_12, rep_13, rep_14, rep_15, rep_16, rep_17, rep_18, rep_19, rep_20, rep_21, rep_22, rep_23, rep_24, rep_25, rep_26, rep_27, rep_28, rep_29, rep_30, rep_31, rep_32, rep_33, rep_34, rep_35, rep_36, rep_37, rep_38, rep_39, rep_40, and_self, and_true, true_and, decide_true, decide_false, Bool.not_true, Bool.not_false, Bool.and_true, Bool.true_and, Bool.and_false, Bool.false_and, neg_ok1, neg_ok2, Int.sub_zero, dNs_len, List.length_range, Rq_rt, runB_ap, yZip_ap, yB_ap, List.take_succ_cons, List.take_zero, List.drop_succ_cons, List.drop_zero, bring_nil, bring_cons, yLc_ap, sNewY_ap, ybYes_ap, ylcRun_nil, l5]
            refine ⟨_, _, _, _, _, _, rfl, ?_, ?_, rfl⟩
            · rw [List.zip_append (by rw [List.length_append, List.length_singleton] at hlen; omega)]
              exact hch.way (.last hjn ho)
            · rw [List.map_snd_zip (by rw [List.length_append, List.length_append, List.length_singleton, List.length_singleton]; rw [List.length_append, List.length_singleton] at hlen; omega)]
              exact List.nodup_append.mpr ⟨hnd, List.nodup_cons.mpr ⟨List.not_mem_nil, List.nodup_nil⟩, fun a ha b hb e => hyrs (by rw [← List.mem_singleton.mp hb, ← e]; exact ha)⟩
          | some x' =>
            refine .inl ?_
            have d1 : decide (hI (some x') = -1) = false := hI_none (some x')
            have hx' := hh y x' ho
            have e2 : hI (some x') = (x' : Int) := rfl
            simp only [mVar_ap, mC_ap, m1_ap, m2_ap, mN_ap, mCons_ap, mNil_ap, mTup_ap, mLst_ap, mT_ap, mTNot_ap, mTAnd_ap, mTOr_ap, mYes_ap, mAnd_ap, mOr_ap, mNot_ap, mIf_ap, mChain_ap, mSeq_ap, mRng1_ap, mRng2_ap, mRngV_ap, mRev_ap, mEnum_ap, mLc_ap, mLc2_ap, mSlL_ap, mSlT_ap, mPart_ap, mNoP_ap, Go_nx, Go_ct, Rt_rt, Bk_bk, runD_ap, runM_ap, runI_ap, ok_bind, ex_bind, fBl_bl, sSeq_ap, sAsg_ap, sNew_ap, sDrop_ap, sRet_ap, sRetN_ap, sIf_ap, sNext_ap, sBreak_ap, sCont_ap, sRaise_ap, sFor_ap, sWhile_ap, sPar_ap, sApp_ap, sExt_ap, sSet_ap, sDelLast_ap, sSet2_ap, sSwap_ap, iFld_ap, iFldS_ap, iSeq_ap, yH_ap, yP_ap, ybH_ap, ybP_ap, yaH_ap, y1_ap, y2_ap, yNil_ap, yCons_ap, yN_ap, yX_ap, yTup_ap, yLst_ap, yT_ap, yTNot_ap, yTAnd_ap, yTOr_ap, yIf_ap, yAnd_ap, yOr_ap, yNot_ap, yM_ap, yPop_ap, yPopAt_ap, yRng1_ap, yRng2_ap, ySeq_ap, yMeth_ap, bindT, bindTs, hide, hideF, wipeG, seqOf_lst, seqOf_tup, lstOf_lst, tupOf_tup, lstAt, getR_some, sca_int, sca_bl, sca_str, sca_non, Option.isSome_some, fLen_1, fRange1_int, fTupOf_1, fListOf_1, fII_int, fIB_int, fU_int, fRevT_1, fBits_int, fInt1_int, fIsi_tt, fIsi_tl, fIsi_ti, fIsi_ii, fIsi_bi, fIsi_ib, fIsi_bb, fIsi2_l, fIsi2_t, List.length_cons, List.length_nil, List.map_cons, List.map_nil, List.cons_append, List.nil_append, List.append_nil, List.getElem?_cons_zero, List.getElem?_cons_succ, List.set_cons_zero, List.set_cons_succ, List.contains_cons, List.contains_nil, Nat.reduceBEq, Bool.or_false, Bool.false_or, Bool.or_true, Bool.true_or, Bool.false_eq_true, if_true, if_false, ite_true, ite_false, ↓reduceIte, reduceCtorEq, Nat.reduceLeDiff, Nat.zero_add, Nat.reduceAdd, Nat.reduceLT, Nat.lt_add_one, bitAnd_nat, bitOr_nat, rep_0, rep_1, rep_2, rep_3, rep_4, rep_5, rep_6, rep_7, rep_8, rep_9, rep_10, rep_11, rep_12, rep_13, rep_14, rep_15, rep_16, rep_17, rep_18, rep_19, rep_20, rep_21, rep_22, rep_23, rep_24, rep_25, rep_26, rep_27, rep_28, rep_29, rep_30, rep_31, rep_32, rep_33, rep_34, rep_35, rep_36, rep_37, rep_38, rep_39, rep_40, and_self, and_true, true_and, decide_true, decide_false, Bool.not_true, Bool.not_false, Bool.and_true, Bool.true_and, Bool.and_false, Bool.false_and, neg_ok1, neg_ok2, Int.sub_zero, dNs_len, List.length_range, Rq_rt, runB_ap, yZip_ap, yB_ap, List.take_succ_cons, List.take_zero, List.drop_succ_cons, List.drop_zero, bring_nil, bring_cons, yLc_ap, sNewY_ap, ybYes_ap, ylcRun_nil, fIx_last, fIx_J hJ hzJ, and_not_nat, hyc, eqS_int, nz, m_lowest_pow, shl_one hy8, show rs.length < 1000000 from by omega, fIx_H ho, d1, show (l0 ++ [z]).length < 1000000 from by omega]
            refine ⟨(l0 ++ [z] ++ [x'], rs ++ [y], seen ||| 2 ^ y), ⟨⟨.inr (.snoc hch hjn ho hyrs), W.sn.push ho, fun u hu => ?_, fun u hu => ?_, ?_⟩, some (.int ((2 ^ y * (2 * c + 1) : Nat) : Int)), some (.int (y : Int)), ?_⟩, ?_⟩
            · rcases List.mem_append.mp hu with hu | hu
              · exact bit_or.mpr (.inl (W.rsn u hu))
              · exact bit_or.mpr (.inr (List.mem_singleton.mp hu))
            · rcases List.mem_append.mp hu with hu | hu
              · exact W.lt u hu
              · rw [List.mem_singleton.mp hu]
                exact hx'
            · exact Nat.or_lt_two_pow W.sl (Nat.pow_lt_pow_right (by decide) hyr)
            · rw [dNs_snoc (l0 ++ [z]) x', dNs_snoc rs y]
              rfl
            · show 2 * unseen hs.length (seen ||| 2 ^ y) + (l0 ++ [z] ++ [x']).length < 2 * unseen hs.length seen + (l0 ++ [z]).length
              have := unseen_push hyr hns
              rw [List.length_append, List.length_singleton]
              omega) with ⟨e1, rfl, hc, v3, v4, v5, v6, v7, rfl⟩ | ⟨d, e1, rfl, w, v3, v4, v5, v6, v7, rfl, h1, h2, rfl⟩
  · simp only [mVar_ap, mC_ap, m1_ap, m2_ap, mN_ap, mCons_ap, mNil_ap, mTup_ap, mLst_ap, mT_ap, mTNot_ap, mTAnd_ap, mTOr_ap, mYes_ap, mAnd_ap, mOr_ap, mNot_ap, mIf_ap, mChain_ap, mSeq_ap, mRng1_ap, mRng2_ap, mRngV_ap, mRev_ap, mEnum_ap, mLc_ap, mLc2_ap, mSlL_ap, mSlT_ap, mPart_ap, mNoP_ap, Go_nx, Go_ct, Rt_rt, Bk_bk, runD_ap, runM_ap, runI_ap, ok_bind, ex_bind, fBl_bl, sSeq_ap, sAsg_ap, sNew_ap, sDrop_ap, sRet_ap, sRetN_ap, sIf_ap, sNext_ap, sBreak_ap, sCont_ap, sRaise_ap, sFor_ap, sWhile_ap, sPar_ap, sApp_ap, sExt_ap, sSet_ap, sDelLast_ap, sSet2_ap, sSwap_ap, iFld_ap, iFldS_ap, iSeq_ap, yH_ap, yP_ap, ybH_ap, ybP_ap, yaH_ap, y1_ap, y2_ap, yNil_ap, yCons_ap, yN_ap, yX_ap, yTup_ap, yLst_ap, yT_ap, yTNot_ap, yTAnd_ap, yTOr_ap, yIf_ap, yAnd_ap, yOr_ap, yNot_ap, yM_ap, yPop_ap, yPopAt_ap, yRng1_ap, yRng2_ap, ySeq_ap, yMeth_ap, bindT, bindTs, hide, hideF, wipeG, seqOf_lst, seqOf_tup, lstOf_lst, tupOf_tup, lstAt, getR_some, sca_int, sca_bl, sca_str, sca_non, Option.isSome_some, fLen_1, fRange1_int, fTupOf_1, fListOf_1, fII_int, fIB_int, fU_int, fRevT_1, fBits_int, fInt1_int, fIsi_tt, fIsi_tl, fIsi_ti, fIsi_ii, fIsi_bi, fIsi_ib, fIsi_bb, fIsi2_l, fIsi2_t, List.length_cons, List.length_nil, List.map_cons, List.map_nil, List.cons_append, List.nil_append, List.append_nil, List.getElem?_cons_zero, List.getElem?_cons_succ, List.set_cons_zero, List.set_cons_succ, List.contains_cons, List.contains_nil, Nat.reduceBEq, Bool.or_false, Bool.false_or, Bool.or_true, Bool.true_or, Bool.false_eq_true, if_true, if_false, ite_true, ite_false, ↓reduceIte, reduceCtorEq, Nat.reduceLeDiff, Nat.zero_add, Nat.reduceAdd, Nat.reduceLT, Nat.lt_add_one, bitAnd_nat, bitOr_nat, rep_0, rep_1, rep_2, rep_3, rep_4, rep_5, rep_6, rep_7, rep_8, rep_9, rep_10, rep_11, rep_12, rep_13, rep_14, rep_15, rep_16, rep_17, rep_18, rep_19, rep_20, rep_21, rep_22, rep_23, rep_24, rep_25, rep_26, rep_27, rep_28, rep_29, rep_30, rep_31, rep_32, rep_33, rep_34, rep_35, rep_36, rep_37, rep_38, rep_39, rep_40, and_self, and_true, true_and, decide_true, decide_false, Bool.not_true, Bool.not_false, Bool.and_true, Bool.true_and, Bool.and_false, Bool.false_and, neg_ok1, neg_ok2, Int.sub_zero, dNs_len, List.length_range, Rq_rt, runB_ap, yZip_ap, yB_ap, List.take_succ_cons, List.take_zero, List.drop_succ_cons, List.drop_zero, bring_nil, bring_cons, yLc_ap, sNewY_ap, ybYes_ap, ylcRun_nil]
    exact ⟨[], rfl, .inl ⟨rfl, hc⟩⟩
  · simp only [mVar_ap, mC_ap, m1_ap, m2_ap, mN_ap, mCons_ap, mNil_ap, mTup_ap, mLst_ap, mT_ap, mTNot_ap, mTAnd_ap, mTOr_ap, mYes_ap, mAnd_ap, mOr_ap, mNot_ap, mIf_ap, mChain_ap, mSeq_ap, mRng1_ap, mRng2_ap, mRngV_ap, mRev_ap, mEnum_ap, mLc_ap, mLc2_ap, mSlL_ap, mSlT_ap, mPart_ap, mNoP_ap, Go_nx, Go_ct, Rt_rt, Bk_bk, runD_ap, runM_ap, runI_ap, ok_bind, ex_bind, fBl_bl, sSeq_ap, sAsg_ap, sNew_ap, sDrop_ap, sRet_ap, sRetN_ap, sIf_ap, sNext_ap, sBreak_ap, sCont_ap, sRaise_ap, sFor_ap, sWhile_ap, sPar_ap, sApp_ap, sExt_ap, sSet_ap, sDelLast_ap, sSet2_ap, sSwap_ap, iFld_ap, iFldS_ap, iSeq_ap, yH_ap, yP_ap, ybH_ap, ybP_ap, yaH_ap, y1_ap, y2_ap, yNil_ap, yCons_ap, yN_ap, yX_ap, yTup_ap, yLst_ap, yT_ap, yTNot_ap, yTAnd_ap, yTOr_ap, yIf_ap, yAnd_ap, yOr_ap, yNot_ap, yM_ap, yPop_ap, yPopAt_ap, yRng1_ap, yRng2_ap, ySeq_ap, yMeth_ap, bindT, bindTs, hide, hideF, wipeG, seqOf_lst, seqOf_tup, lstOf_lst, tupOf_tup, lstAt, getR_some, sca_int, sca_bl, sca_str, sca_non, Option.isSome_some, fLen_1, fRange1_int, fTupOf_1, fListOf_1, fII_int, fIB_int, fU_int, fRevT_1, fBits_int, fInt1_int, fIsi_tt, fIsi_tl, fIsi_ti, fIsi_ii, fIsi_bi, fIsi_ib, fIsi_bb, fIsi2_l, fIsi2_t, List.length_cons, List.length_nil, List.map_cons, List.map_nil, List.cons_append, List.nil_append, List.append_nil, List.getElem?_cons_zero, List.getElem?_cons_succ, List.set_cons_zero, List.set_cons_succ, List.contains_cons, List.contains_nil, Nat.reduceBEq, Bool.or_false, Bool.false_or, Bool.or_true, Bool.true_or, Bool.false_eq_true, if_true, if_false, ite_true, ite_false, ↓reduceIte, reduceCtorEq, Nat.reduceLeDiff, Nat.zero_add, Nat.reduceAdd, Nat.reduceLT, Nat.lt_add_one, bitAnd_nat, bitOr_nat, rep_0, rep_1, rep_2, rep_3, rep_4, rep_5, rep_6, rep_7, rep_8, rep_9, rep_10, rep_11, rep_12, rep_13, rep_14, rep_15, rep_16, rep_17, rep_18, rep_19, rep_20, rep_21, rep_22, rep_23, rep_24, rep_25, rep_26, rep_27, rep_28, rep_29, rep_30, rep_31, rep_32, rep_33, rep_34, rep_35, rep_36, rep_37, rep_38, rep_39, rep_40, and_self, and_true, true_and, decide_true, decide_false, Bool.not_true, Bool.not_false, Bool.and_true, Bool.true_and, Bool.and_false, Bool.false_and, neg_ok1, neg_ok2, Int.sub_zero, dNs_len, List.length_range, Rq_rt, runB_ap, yZip_ap, yB_ap, List.take_succ_cons, List.take_zero, List.drop_succ_cons, List.drop_zero, bring_nil, bring_cons, yLc_ap, sNewY_ap, ybYes_ap, ylcRun_nil]
    exact ⟨w, rfl, .inr ⟨h1, h2⟩⟩
end
theorem mEnumA_ap (a : ME) (e : Env) : mEnumA a e = ((a e).bind fun x => (seqOf x).bind fun ds => .ok (ds.mapIdx fun i d => .tup [.int (i : Int), d])) := rfl
structure Dual (n : Nat) (hs ms : Hs) : Prop where
  len : ms.length = n
  iff : ∀ x y : Nat, ms[x]? = some (some y) ↔ hs[y]? = some (some x)
def prI (p : Nat × Option Nat) : Da := .tup [.int (p.1 : Int), .int (hI p.2)]
theorem dH_idx (hs : Hs) : ((dH hs).mapIdx fun i d => Da.tup [.int (i : Int), d]) = (hs.mapIdx fun i o => (i, o)).map prI := by
  unfold dH
  apply List.ext_getElem?
  intro i
  rw [List.getElem?_mapIdx, List.getElem?_map, List.getElem?_map, List.getElem?_mapIdx]
  cases hs[i]? <;> rfl
theorem rep_none (n : Nat) : (List.replicate n [Da.int (-1)]).flatten = dH (List.replicate n none) := by
  rw [List.flatten_replicate_singleton]
  unfold dH
  rw [List.map_replicate]
  rfl
section
variable (a : Ax)
theorem m_partners_ok {n : Nat} {hs : Hs} {x : Da} (hx : seqOf x = .ok (dH hs)) (hn : n ≤ 1000) (hh : hs.length ≤ 1000) (hlt : ∀ y z : Nat, hs[y]? = some (some z) → z < n) (inj : ∀ (y y' x : Nat), hs[y]? = some (some x) → hs[y']? = some (some x) → y = y') :
    ∃ ms, m_partners a [.int (n : Int), x] = .ok (.tup (dH ms)) ∧ Dual n hs ms := by
  unfold m_partners
  have hn1 : n ≤ 1000000 := by omega
  simp only [mVar_ap, mC_ap, m1_ap, m2_ap, mN_ap, mCons_ap, mNil_ap, mTup_ap, mLst_ap, mT_ap, mTNot_ap, mTAnd_ap, mTOr_ap, mYes_ap, mAnd_ap, mOr_ap, mNot_ap, mIf_ap, mChain_ap, mSeq_ap, mRng1_ap, mRng2_ap, mRngV_ap, mRev_ap, mEnum_ap, mLc_ap, mLc2_ap, mSlL_ap, mSlT_ap, mPart_ap, mNoP_ap, Go_nx, Go_ct, Rt_rt, Bk_bk, runD_ap, runM_ap, runI_ap, ok_bind, ex_bind, fBl_bl, sSeq_ap, sAsg_ap, sNew_ap, sDrop_ap, sRet_ap, sRetN_ap, sIf_ap, sNext_ap, sBreak_ap, sCont_ap, sRaise_ap, sFor_ap, sWhile_ap, sPar_ap, sApp_ap, sExt_ap, sSet_ap, sDelLast_ap, sSet2_ap, sSwap_ap, iFld_ap, iFldS_ap, iSeq_ap, yH_ap, yP_ap, ybH_ap, ybP_ap, yaH_ap, y1_ap, y2_ap, yNil_ap, yCons_ap, yN_ap, yX_ap, yTup_ap, yLst_ap, yT_ap, yTNot_ap, yTAnd_ap, yTOr_ap, yIf_ap, yAnd_ap, yOr_ap, yNot_ap, yM_ap, yPop_ap, yPopAt_ap, yRng1_ap, yRng2_ap, ySeq_ap, yMeth_ap, bindT, bindTs, hide, hideF, wipeG, seqOf_lst, seqOf_tup, lstOf_lst, tupOf_tup, lstAt, getR_some, sca_int, sca_bl, sca_str, sca_non, Option.isSome_some, fLen_1, fRange1_int, fTupOf_1, fListOf_1, fII_int, fIB_int, fU_int, fRevT_1, fBits_int, fInt1_int, fIsi_tt, fIsi_tl, fIsi_ti, fIsi_ii, fIsi_bi, fIsi_ib, fIsi_bb, fIsi2_l, fIsi2_t, List.length_cons, List.length_nil, List.map_cons, List.map_nil, List.cons_append, List.nil_append, List.append_nil, List.getElem?_cons_zero, List.getElem?_cons_succ, List.set_cons_zero, List.set_cons_succ, List.contains_cons, List.contains_nil, Nat.reduceBEq, Bool.or_false, Bool.false_or, Bool.or_true, Bool.true_or, Bool.false_eq_true, if_true, if_false, ite_true, ite_false, ↓reduceIte, reduceCtorEq, Nat.reduceLeDiff, Nat.zero_add, Nat.reduceAdd, Nat.reduceLT, Nat.lt_add_one, bitAnd_nat, bitOr_nat, rep_0, rep_1, rep_2, rep_3, rep_4, rep_5, rep_6, rep_7, rep_8, rep_9, rep_10, rep_11, rep_12, rep_13, rep_14, rep_15, rep_16, rep_17, rep_18, rep_19, rep_20, rep_21, rep_22, rep_23, rep_24, rep_25, rep_26, rep_27, rep_28, rep_29, rep_30, rep_31, rep_32, rep_33, rep_34, rep_35, rep_36, rep_37, rep_38, rep_39, rep_40, and_self, and_true, true_and, decide_true, decide_false, Bool.not_true, Bool.not_false, Bool.and_true, Bool.true_and, Bool.and_false, Bool.false_and, neg_ok1, neg_ok2, Int.sub_zero, dNs_len, List.length_range, Rq_rt, runB_ap, yZip_ap, yB_ap, List.take_succ_cons, List.take_zero, List.drop_succ_cons, List.drop_zero, bring_nil, bring_cons, yLc_ap, sNewY_ap, ybYes_ap, ylcRun_nil, fRep_one _ hn1, rep_none, mEnumA_ap, hx, dH_idx]
  generalize hR : forRun _ _ _ _ = r
  obtain ⟨_, rfl, ms, v1, v2, rfl, hl, hi⟩ := for_inv_of hR prI (fun d e => ∃ ms v1 v2, e = [some (.int (n : Int)), some x, some (.lst (dH ms)), v1, v2] ∧ ms.length = n ∧ ∀ x y : Nat, ms[x]? = some (some y) ↔ y < d.length ∧ hs[y]? = some (some x)) (hs.mapIdx fun i o => (i, o)) rfl ⟨List.replicate n none, none, none, rfl, List.length_replicate, fun x y => ⟨fun h => (by
      have := List.eq_of_mem_replicate (List.mem_of_getElem? h)
      cases this), fun h => absurd h.1 (Nat.not_lt_zero _)⟩⟩ fun d1 p d2 e hp => by
    rintro ⟨ms, v1, v2, rfl, hl, hi⟩
    have h0 : (hs.mapIdx fun i o => (i, o))[d1.length]? = some p := by rw [hp]; simp
    rw [List.getElem?_mapIdx] at h0
    obtain ⟨o, ho, rfl⟩ := Option.map_eq_some_iff.mp h0
    refine ⟨_, rfl, ?_⟩
    cases o with
    | none =>
      have d : decide (hI none = -1) = true := rfl
      simp only [mVar_ap, mC_ap, m1_ap, m2_ap, mN_ap, mCons_ap, mNil_ap, mTup_ap, mLst_ap, mT_ap, mTNot_ap, mTAnd_ap, mTOr_ap, mYes_ap, mAnd_ap, mOr_ap, mNot_ap, mIf_ap, mChain_ap, mSeq_ap, mRng1_ap, mRng2_ap, mRngV_ap, mRev_ap, mEnum_ap, mLc_ap, mLc2_ap, mSlL_ap, mSlT_ap, mPart_ap, mNoP_ap, Go_nx, Go_ct, Rt_rt, Bk_bk, runD_ap, runM_ap, runI_ap, ok_bind, ex_bind, fBl_bl, sSeq_ap, sAsg_ap, sNew_ap, sDrop_ap, sRet_ap, sRetN_ap, sIf_ap, sNext_ap, sBreak_ap, sCont_ap, sRaise_ap, sFor_ap, sWhile_ap, sPar_ap, sApp_ap, sExt_ap, sSet_ap, sDelLast_ap, sSet2_ap, sSwap_ap, iFld_ap, iFldS_ap, iSeq_ap, yH_ap, yP_ap, ybH_ap, ybP_ap, yaH_ap, y1_ap, y2_ap, yNil_ap, yCons_ap, yN_ap, yX_ap, yTup_ap, yLst_ap, yT_ap, yTNot_ap, yTAnd_ap, yTOr_ap, yIf_ap, yAnd_ap, yOr_ap, yNot_ap, yM_ap, yPop_ap, yPopAt_ap, yRng1_ap, yRng2_ap, ySeq_ap, yMeth_ap, bindT, bindTs, hide, hideF, wipeG, seqOf_lst, seqOf_tup, lstOf_lst, tupOf_tup, lstAt, getR_some, sca_int, sca_bl, sca_str, sca_non, Option.isSome_some, fLen_1, fRange1_int, fTupOf_1, fListOf_1, fII_int, fIB_int, fU_int, fRevT_1, fBits_int, fInt1_int, fIsi_tt, fIsi_tl, fIsi_ti, fIsi_ii, fIsi_bi, fIsi_ib, fIsi_bb, fIsi2_l, fIsi2_t, List.length_cons, List.length_nil, List.map_cons, List.map_nil, List.cons_append, List.nil_append, List.append_nil, List.getElem?_cons_zero, List.getElem?_cons_succ, List.set_cons_zero, List.set_cons_succ, List.contains_cons, List.contains_nil, Nat.reduceBEq, Bool.or_false, Bool.false_or, Bool.or_true, Bool.true_or, Bool.false_eq_true, if_true, if_false, ite_true, ite_false, ↓reduceIte, reduceCtorEq, Nat.reduceLeDiff, Nat.zero_add, Nat.reduceAdd, Nat.reduceLT, Nat.lt_add_one, bitAnd_nat, bitOr_nat, rep_0, rep_1, rep_2, rep_3, rep_4, rep_5, rep_6, rep_7, rep_8, rep_9, rep_10, rep_11, rep_12, rep_13, rep_14, rep_15, rep_16, rep_17, rep_18, rep_19, rep_20, rep_21, rep_22, rep_23, rep_24, rep_25, rep_26, rep_27, rep_28, rep_29, rep_30, rep_31, rep_32, rep_33, rep_34, rep_35, rep_36, rep_37, rep_38, rep_39, rep_40, and_self, and_true, true_and, decide_true, decide_false, Bool.not_true, Bool.not_false, Bool.and_true, Bool.true_and, Bool.and_false, Bool.false_and, neg_ok1, neg_ok2, Int.sub_zero, dNs_len, List.length_range, Rq_rt, runB_ap, yZip_ap, yB_ap, List.take_succ_cons, List.take_zero, List.drop_succ_cons, List.drop_zero, bring_nil, bring_cons, yLc_ap, sNewY_ap, ybYes_ap, ylcRun_nil, neS_int, d]
      refine ⟨ms, _, _, rfl, hl, fun x y => ?_⟩
      rw [hi x y, List.length_append, List.length_singleton]
      refine and_congr_left fun h2 => ⟨fun h => by omega, fun h => ?_⟩
      by_cases e1 : y = d1.length
      · subst e1
        rw [ho] at h2
        cases h2
      · omega
    | some z =>
      have d : decide (hI (some z) = -1) = false := hI_none (some z)
      have hz := hlt _ _ ho
      have e2 : hI (some z) = (z : Int) := rfl
      have e3 : (dH ms).set z (.int (d1.length : Int)) = dH (ms.set z (some d1.length)) := dH_set (some d1.length)
      simp only [mVar_ap, mC_ap, m1_ap, m2_ap, mN_ap, mCons_ap, mNil_ap, mTup_ap, mLst_ap, mT_ap, mTNot_ap, mTAnd_ap, mTOr_ap, mYes_ap, mAnd_ap, mOr_ap, mNot_ap, mIf_ap, mChain_ap, mSeq_ap, mRng1_ap, mRng2_ap, mRngV_ap, mRev_ap, mEnum_ap, mLc_ap, mLc2_ap, mSlL_ap, mSlT_ap, mPart_ap, mNoP_ap, Go_nx, Go_ct, Rt_rt, Bk_bk, runD_ap, runM_ap, runI_ap, ok_bind, ex_bind, fBl_bl, sSeq_ap, sAsg_ap, sNew_ap, sDrop_ap, sRet_ap, sRetN_ap, sIf_ap, sNext_ap, sBreak_ap, sCont_ap, sRaise_ap, sFor_ap, sWhile_ap, sPar_ap, sApp_ap, sExt_ap, sSet_ap, sDelLast_ap, sSet2_ap, sSwap_ap, iFld_ap, iFldS_ap, iSeq_ap, yH_ap, yP_ap, ybH_ap, ybP_ap, yaH_ap, y1_ap, y2_ap, yNil_ap, yCons_ap, yN_ap, yX_ap, yTup_ap, yLst_ap, yT_ap, yTNot_ap, yTAnd_ap, yTOr_ap, yIf_ap, yAnd_ap, yOr_ap, yNot_ap, yM_ap, yPop_ap, yPopAt_ap, yRng1_ap, yRng2_ap, ySeq_ap, yMeth_ap, bindT, bindTs, hide, hideF, wipeG, seqOf_lst, seqOf_tup, lstOf_lst, tupOf_tup, lstAt, getR_some, sca_int, sca_bl, sca_str, sca_non, Option.isSome_some, fLen_1, fRange1_int, fTupOf_1, fListOf_1, fII_int, fIB_int, fU_int, fRevT_1, fBits_int, fInt1_int, fIsi_tt, fIsi_tl, fIsi_ti, fIsi_ii, fIsi_bi, fIsi_ib, fIsi_bb, fIsi2_l, fIsi2_t, List.length_cons, List.length_nil, List.map_cons, List.map_nil, List.cons_append, List.nil_append, List.append_nil, List.getElem?_cons_zero, List.getElem?_cons_succ, List.set_cons_zero, List.set_cons_succ, List.contains_cons, List.contains_nil, Nat.reduceBEq, Bool.or_false, Bool.false_or, Bool.or_true, Bool.true_or, Bool.false_eq_true, if_true, if_false, ite_true, ite_false, ↓reduceIte, reduceCtorEq, Nat.reduceLeDiff, Nat.zero_add, Nat.reduceAdd, Nat.reduceLT, Nat.lt_add_one, bitAnd_nat, bitOr_nat, rep_0, rep_1, rep_2, rep_3, rep_4, rep_5, rep_6, rep_7, rep_8, rep_9, rep_10, rep_11, rep_12, rep_13, rep_14, rep_15, rep_16, rep_17, rep_18, rep_19, rep_20, rep_21, rep_22, rep_23, rep_24, rep_25, rep_26, rep_27, rep_28, rep_29, rep_30, rep_31, rep_32, rep_33, rep_34, rep_35, rep_36, rep_37, rep_38, rep_39, rep_40, and_self, and_true, true_and, decide_true, decide_false, Bool.not_true, Bool.not_false, Bool.and_true, Bool.true_and, Bool.and_false, Bool.false_and, neg_ok1, neg_ok2, Int.sub_zero, dNs_len, List.length_range, Rq_rt, runB_ap, yZip_ap, yB_ap, List.take_succ_cons, List.take_zero, List.drop_succ_cons, List.drop_zero, bring_nil, bring_cons, yLc_ap, sNewY_ap, ybYes_ap, ylcRun_nil, neS_int, d]
      rw [e2]
      simp only [mVar_ap, mC_ap, m1_ap, m2_ap, mN_ap, mCons_ap, mNil_ap, mTup_ap, mLst_ap, mT_ap, mTNot_ap, mTAnd_ap, mTOr_ap, mYes_ap, mAnd_ap, mOr_ap, mNot_ap, mIf_ap, mChain_ap, mSeq_ap, mRng1_ap, mRng2_ap, mRngV_ap, mRev_ap, mEnum_ap, mLc_ap, mLc2_ap, mSlL_ap, mSlT_ap, mPart_ap, mNoP_ap, Go_nx, Go_ct, Rt_rt, Bk_bk, runD_ap, runM_ap, runI_ap, ok_bind, ex_bind, fBl_bl, sSeq_ap, sAsg_ap, sNew_ap, sDrop_ap, sRet_ap, sRetN_ap, sIf_ap, sNext_ap, sBreak_ap, sCont_ap, sRaise_ap, sFor_ap, sWhile_ap, sPar_ap, sApp_ap, sExt_ap, sSet_ap, sDelLast_ap, sSet2_ap, sSwap_ap, iFld_ap, iFldS_ap, iSeq_ap, yH_ap, yP_ap, ybH_ap, ybP_ap, yaH_ap, y1_ap, y2_ap, yNil_ap, yCons_ap, yN_ap, yX_ap, yTup_ap, yLst_ap, yT_ap, yTNot_ap, yTAnd_ap, yTOr_ap, yIf_ap, yAnd_ap, yOr_ap, yNot_ap, yM_ap, yPop_ap, yPopAt_ap, yRng1_ap, yRng2_ap, ySeq_ap, yMeth_ap, bindT, bindTs, hide, hideF, wipeG, seqOf_lst, seqOf_tup, lstOf_lst, tupOf_tup, lstAt, getR_some, sca_int, sca_bl, sca_str, sca_non, Option.isSome_some, fLen_1, fRange1_int, fTupOf_1, fListOf_1, fII_int, fIB_int, fU_int, fRevT_1, fBits_int, fInt1_int, fIsi_tt, fIsi_tl, fIsi_ti, fIsi_ii, fIsi_bi, fIsi_ib, fIsi_bb, fIsi2_l, fIsi2_t, List.length_cons, List.length_nil, List.map_cons, List.map_nil, List.cons_append, List.nil_append, List.append_nil, List.getElem?_cons_zero, List.getElem?_cons_succ, List.set_cons_zero, List.set_cons_succ, List.contains_cons, List.contains_nil, Nat.reduceBEq, Bool.or_false, Bool.false_or, Bool.or_true, Bool.true_or, Bool.false_eq_true, if_true, if_false, ite_true, ite_false, ↓reduceIte, reduceCtorEq, Nat.reduceLeDiff, Nat.zero_add, Nat.reduceAdd, Nat.reduceLT, Nat.lt_add_one, bitAnd_nat, bitOr_nat, rep_0, rep_1, rep_2, rep_3, rep_4, rep_5, rep_6, rep_7, rep_8, rep_9, rep_10, rep_11, rep_12, rep_13, rep_14, rep_15, rep_16, rep_17, rep_18, rep_19, rep_20, rep_21, rep_22, rep_23, rep_24, rep_25, rep_26, rep_27, rep_28, rep_29, rep_30, rep_31, rep_32, rep_33, rep_34, rep_35, rep_36, rep_37, rep_38, rep_39, rep_40, and_self, and_true, true_and, decide_true, decide_false, Bool.not_true, Bool.not_false, Bool.and_true, Bool.true_and, Bool.and_false, Bool.false_and, neg_ok1, neg_ok2, Int.sub_zero, dNs_len, List.length_range, Rq_rt, runB_ap, yZip_ap, yB_ap, List.take_succ_cons, List.take_zero, List.drop_succ_cons, List.drop_zero, bring_nil, bring_cons, yLc_ap, sNewY_ap, ybYes_ap, ylcRun_nil, dH_len, hl, ixN_nat hz, e3]
      refine ⟨ms.set z (some d1.length), _, _, rfl, by rw [List.length_set]; exact hl, fun x y => ?_⟩
      rw [List.length_append, List.length_singleton]
      by_cases e1 : x = z
      · subst e1
        rw [List.getElem?_set_self (by omega)]
        constructor
        · intro h
          cases h
          exact ⟨by omega, ho⟩
        · intro h
          rw [inj _ _ _ h.2 ho]
      · rw [List.getElem?_set_ne (Ne.symm e1), hi x y]
        refine and_congr_left fun h2 => ⟨fun h => by omega, fun h => ?_⟩
        by_cases e4 : y = d1.length
        · subst e4
          rw [ho] at h2
          cases h2
          exact absurd rfl e1
        · omega
  simp only [mVar_ap, mC_ap, m1_ap, m2_ap, mN_ap, mCons_ap, mNil_ap, mTup_ap, mLst_ap, mT_ap, mTNot_ap, mTAnd_ap, mTOr_ap, mYes_ap, mAnd_ap, mOr_ap, mNot_ap, mIf_ap, mChain_ap, mSeq_ap, mRng1_ap, mRng2_ap, mRngV_ap, mRev_ap, mEnum_ap, mLc_ap, mLc2_ap, mSlL_ap, mSlT_ap, mPart_ap, mNoP_ap, Go_nx, Go_ct, Rt_rt, Bk_bk, runD_ap, runM_ap, runI_ap, ok_bind, ex_bind, fBl_bl, sSeq_ap, sAsg_ap, sNew_ap, sDrop_ap, sRet_ap, sRetN_ap, sIf_ap, sNext_ap, sBreak_ap, sCont_ap, sRaise_ap, sFor_ap, sWhile_ap, sPar_ap, sApp_ap, sExt_ap, sSet_ap, sDelLast_ap, sSet2_ap, sSwap_ap, iFld_ap, iFldS_ap, iSeq_ap, yH_ap, yP_ap, ybH_ap, ybP_ap, yaH_ap, y1_ap, y2_ap, yNil_ap, yCons_ap, yN_ap, yX_ap, yTup_ap, yLst_ap, yT_ap, yTNot_ap, yTAnd_ap, yTOr_ap, yIf_ap, yAnd_ap, yOr_ap, yNot_ap, yM_ap, yPop_ap, yPopAt_ap, yRng1_ap, yRng2_ap, ySeq_ap, yMeth_ap, bindT, bindTs, hide, hideF, wipeG, seqOf_lst, seqOf_tup, lstOf_lst, tupOf_tup, lstAt, getR_some, sca_int, sca_bl, sca_str, sca_non, Option.isSome_some, fLen_1, fRange1_int, fTupOf_1, fListOf_1, fII_int, fIB_int, fU_int, fRevT_1, fBits_int, fInt1_int, fIsi_tt, fIsi_tl, fIsi_ti, fIsi_ii, fIsi_bi, fIsi_ib, fIsi_bb, fIsi2_l, fIsi2_t, List.length_cons, List.length_nil, List.map_cons, List.map_nil, List.cons_append, List.nil_append, List.append_nil, List.getElem?_cons_zero, List.getElem?_cons_succ, List.set_cons_zero, List.set_cons_succ, List.contains_cons, List.contains_nil, Nat.reduceBEq, Bool.or_false, Bool.false_or, Bool.or_true, Bool.true_or, Bool.false_eq_true, if_true, if_false, ite_true, ite_false, ↓reduceIte, reduceCtorEq, Nat.reduceLeDiff, Nat.zero_add, Nat.reduceAdd, Nat.reduceLT, Nat.lt_add_one, bitAnd_nat, bitOr_nat, rep_0, rep_1, rep_2, rep_3, rep_4, rep_5, rep_6, rep_7, rep_8, rep_9, rep_10, rep_11, rep_12, rep_13, rep_14, rep_15, rep_16, rep_17, rep_18, rep_19, rep_20, rep_21, rep_22, rep_23, rep_24, rep_25, rep_26, rep_27, rep_28, rep_29, rep_30, rep_31, rep_32, rep_33, rep_34, rep_35, rep_36, rep_37, rep_38, rep_39, rep_40, and_self, and_true, true_and, decide_true, decide_false, Bool.not_true, Bool.not_false, Bool.and_true, Bool.true_and, Bool.and_false, Bool.false_and, neg_ok1, neg_ok2, Int.sub_zero, dNs_len, List.length_range, Rq_rt, runB_ap, yZip_ap, yB_ap, List.take_succ_cons, List.take_zero, List.drop_succ_cons, List.drop_zero, bring_nil, bring_cons, yLc_ap, sNewY_ap, ybYes_ap, ylcRun_nil]
  refine ⟨ms, rfl, hl, fun x y => ?_⟩
  rw [hi x y, List.length_mapIdx]
  exact ⟨fun h => h.2, fun h => ⟨(List.getElem?_eq_some_iff.mp h).1, h⟩⟩
theorem m_largest_matching_ok {J : List Nat} {dJ : Da} {r : Nat} (hJ : seqOf dJ = .ok (dNs J)) (hr : r ≤ 1000) (hl : J.length ≤ 1000) (hb : ∀ z, z < J.length → J.getD z 0 < 2 ^ r) : ∃ hs ms : Hs, hs.length = r ∧ MInv J J.length hs ∧ Dual J.length hs ms ∧ m_largest_matching a [dJ, .int (r : Int)] = .ok (.tup (dH ms)) := by
  have hr1 : r ≤ 1000000 := by omega
  have hl1 : J.length ≤ 1000000 := by omega
  unfold m_largest_matching
  simp only [mVar_ap, mC_ap, m1_ap, m2_ap, mN_ap, mCons_ap, mNil_ap, mTup_ap, mLst_ap, mT_ap, mTNot_ap, mTAnd_ap, mTOr_ap, mYes_ap, mAnd_ap, mOr_ap, mNot_ap, mIf_ap, mChain_ap, mSeq_ap, mRng1_ap, mRng2_ap, mRngV_ap, mRev_ap, mEnum_ap, mLc_ap, mLc2_ap, mSlL_ap, mSlT_ap, mPart_ap, mNoP_ap, Go_nx, Go_ct, Rt_rt, Bk_bk, runD_ap, runM_ap, runI_ap, ok_bind, ex_bind, fBl_bl, sSeq_ap, sAsg_ap, sNew_ap, sDrop_ap, sRet_ap, sRetN_ap, sIf_ap, sNext_ap, sBreak_ap, sCont_ap, sRaise_ap, sFor_ap, sWhile_ap, sPar_ap, sApp_ap, sExt_ap, sSet_ap, sDelLast_ap, sSet2_ap, sSwap_ap, iFld_ap, iFldS_ap, iSeq_ap, yH_ap, yP_ap, ybH_ap, ybP_ap, yaH_ap, y1_ap, y2_ap, yNil_ap, yCons_ap, yN_ap, yX_ap, yTup_ap, yLst_ap, yT_ap, yTNot_ap, yTAnd_ap, yTOr_ap, yIf_ap, yAnd_ap, yOr_ap, yNot_ap, yM_ap, yPop_ap, yPopAt_ap, yRng1_ap, yRng2_ap, ySeq_ap, yMeth_ap, bindT, bindTs, hide, hideF, wipeG, seqOf_lst, seqOf_tup, lstOf_lst, tupOf_tup, lstAt, getR_some, sca_int, sca_bl, sca_str, sca_non, Option.isSome_some, fLen_1, fRange1_int, fTupOf_1, fListOf_1, fII_int, fIB_int, fU_int, fRevT_1, fBits_int, fInt1_int, fIsi_tt, fIsi_tl, fIsi_ti, fIsi_ii, fIsi_bi, fIsi_ib, fIsi_bb, fIsi2_l, fIsi2_t, List.length_cons, List.length_nil, List.map_cons, List.map_nil, List.cons_append, List.nil_append, List.append_nil, List.getElem?_cons_zero, List.getElem?_cons_succ, List.set_cons_zero, List.set_cons_succ, List.contains_cons, List.contains_nil, Nat.reduceBEq, Bool.or_false, Bool.false_or, Bool.or_true, Bool.true_or, Bool.false_eq_true, if_true, if_false, ite_true, ite_false, ↓reduceIte, reduceCtorEq, Nat.reduceLeDiff, Nat.zero_add, Nat.reduceAdd, Nat.reduceLT, Nat.lt_add_one, bitAnd_nat, bitOr_nat, rep_0, rep_1, rep_2, rep_3, rep_4, rep_5, rep_6, rep_7, rep_8, rep_9, rep_10, rep_11, rep_12, rep_13, rep_14, rep_15, rep_16, rep_17, rep_18, rep_19, rep_20, rep_21, rep_22, rep_23, rep_24, rep_25, rep_26, rep_27, rep_28, rep_29, rep_30, rep_31, rep_32, rep_33, rep_34, rep_35, rep_36, rep_37, rep_38, rep_39, rep_40, and_self, and_true, true_and, decide_true, decide_false, Bool.not_true, Bool.not_false, Bool.and_true, Bool.true_and, Bool.and_false, Bool.false_and, neg_ok1, neg_ok2, Int.sub_zero, dNs_len, List.length_range, Rq_rt, runB_ap, yZip_ap, yB_ap, List.take_succ_cons, List.take_zero, List.drop_succ_cons, List.drop_zero, bring_nil, bring_cons, yLc_ap, sNewY_ap, ybYes_ap, ylcRun_nil, fRep_one _ hr1, rep_none, hJ, rng_ok hl1, rng_natC]
  generalize hR : forRun _ _ _ _ = q
  obtain ⟨_, rfl, hs, v3, v4, v5, v6, rfl, hsl, hI⟩ := for_inv_of hR (fun x : Nat => Da.int (x : Int)) (fun d e => ∃ (hs : Hs) (v3 v4 v5 v6 : Option Da), e = [some dJ, some (.int (r : Int)), some (.lst (dH hs)), v3, v4, v5, v6] ∧ hs.length = r ∧ MInv J d.length hs) (List.range J.length) rfl ⟨List.replicate r none, none, none, none, none, rfl, List.length_replicate, MInv.nil⟩ fun d1 x d2 e hx => by
    rintro ⟨hs, v3, v4, v5, v6, rfl, hsl, hI⟩
    obtain ⟨rfl, hx2⟩ := range_split hx
    refine ⟨_, rfl, ?_⟩
    rw [List.length_append, List.length_singleton]
    obtain ⟨w, h1, h2⟩ := m_augmenting_way_ok a (hs := hs) (x := d1.length) hJ hx2 (by omega) (by rw [hsl]; exact hb) fun y z h => Nat.lt_trans (hI.ok y z h).1 hx2
    have wlt : ∀ p ∈ w, p.2 < hs.length := fun p hp => by
      rcases h2 with ⟨rfl, _⟩ | ⟨h2, _⟩
      · cases hp
      · obtain ⟨_, ⟨o, ho⟩, _⟩ := h2.pair p hp
        exact (List.getElem?_eq_some_iff.mp ho).1
    simp only [mVar_ap, mC_ap, m1_ap, m2_ap, mN_ap, mCons_ap, mNil_ap, mTup_ap, mLst_ap, mT_ap, mTNot_ap, mTAnd_ap, mTOr_ap, mYes_ap, mAnd_ap, mOr_ap, mNot_ap, mIf_ap, mChain_ap, mSeq_ap, mRng1_ap, mRng2_ap, mRngV_ap, mRev_ap, mEnum_ap, mLc_ap, mLc2_ap, mSlL_ap, mSlT_ap, mPart_ap, mNoP_ap, Go_nx, Go_ct, Rt_rt, Bk_bk, runD_ap, runM_ap, runI_ap, ok_bind, ex_bind, fBl_bl, sSeq_ap, sAsg_ap, sNew_ap, sDrop_ap, sRet_ap, sRetN_ap, sIf_ap, sNext_ap, sBreak_ap, sCont_ap, sRaise_ap, sFor_ap, sWhile_ap, sPar_ap, sApp_ap, sExt_ap, sSet_ap, sDelLast_ap, sSet2_ap, sSwap_ap, iFld_ap, iFldS_ap, iSeq_ap, yH_ap, yP_ap, ybH_ap, ybP_ap, yaH_ap, y1_ap, y2_ap, yNil_ap, yCons_ap, yN_ap, yX_ap, yTup_ap, yLst_ap, yT_ap, yTNot_ap, yTAnd_ap, yTOr_ap, yIf_ap, yAnd_ap, yOr_ap, yNot_ap, yM_ap, yPop_ap, yPopAt_ap, yRng1_ap, yRng2_ap, ySeq_ap, yMeth_ap, bindT, bindTs, hide, hideF, wipeG, seqOf_lst, seqOf_tup, lstOf_lst, tupOf_tup, lstAt, getR_some, sca_int, sca_bl, sca_str, sca_non, Option.isSome_some, fLen_1, fRange1_int, fTupOf_1, fListOf_1, fII_int, fIB_int, fU_int, fRevT_1, fBits_int, fInt1_int, fIsi_tt, fIsi_tl, fIsi_ti, fIsi_ii, fIsi_bi, fIsi_ib, fIsi_bb, fIsi2_l, fIsi2_t, List.length_cons, List.length_nil, List.map_cons, List.map_nil, List.cons_append, List.nil_append, List.append_nil, List.getElem?_cons_zero, List.getElem?_cons_succ, List.set_cons_zero, List.set_cons_succ, List.contains_cons, List.contains_nil, Nat.reduceBEq, Bool.or_false, Bool.false_or, Bool.or_true, Bool.true_or, Bool.false_eq_true, if_true, if_false, ite_true, ite_false, ↓reduceIte, reduceCtorEq, Nat.reduceLeDiff, Nat.zero_add, Nat.reduceAdd, Nat.reduceLT, Nat.lt_add_one, bitAnd_nat, bitOr_nat, rep_0, rep_1, rep_2, rep_3, rep_4, rep_5, rep_6, rep_7, rep_8, rep_9, rep_10, rep_11, rep_12, rep_13, rep_14, rep_15, rep_16, rep_17, rep_18, rep_19, rep_20, rep_21, rep_22, rep_23, rep_24, rep_25, rep_26, rep_27, rep_28, rep_29, rep_30, rep_31, rep_32, rep_33, rep_34, rep_35, rep_36, rep_37, rep_38, rep_39, rep_40, and_self, and_true, true_and, decide_true, decide_false, Bool.not_true, Bool.not_false, Bool.and_true, Bool.true_and, Bool.and_false, Bool.false_and, neg_ok1, neg_ok2, Int.sub_zero, dNs_len, List.length_range, Rq_rt, runB_ap, yZip_ap, yB_ap, List.take_succ_cons, List.take_zero, List.drop_succ_cons, List.drop_zero, bring_nil, bring_cons, yLc_ap, sNewY_ap, ybYes_ap, ylcRun_nil, h1]
    generalize hR : forRun _ _ _ _ = q
    obtain ⟨_, rfl, v5, v6, rfl, hpl⟩ := for_fold_of hR dP (fun (h : Hs) p => h.set p.2 (some p.1)) (fun h e => ∃ v5 v6, e = [some dJ, some (.int (r : Int)), some (.lst (dH h)), some (.int (d1.length : Int)), some (.lst (dPs w)), v5, v6] ∧ h.length = r) w hs rfl ⟨v5, v6, rfl, hsl⟩ fun h p e hp => by
      rintro ⟨v5, v6, rfl, hh⟩
      have hp2 : p.2 < r := by rw [← hsl]; exact wlt p hp
      have e3 : (dH h).set p.2 (.int (p.1 : Int)) = dH (h.set p.2 (some p.1)) := dH_set (some p.1)
      refine ⟨_, rfl, ?_⟩
      simp only [mVar_ap, mC_ap, m1_ap, m2_ap, mN_ap, mCons_ap, mNil_ap, mTup_ap, mLst_ap, mT_ap, mTNot_ap, mTAnd_ap, mTOr_ap, mYes_ap, mAnd_ap, mOr_ap, mNot_ap, mIf_ap, mChain_ap, mSeq_ap, mRng1_ap, mRng2_ap, mRngV_ap, mRev_ap, mEnum_ap, mLc_ap, mLc2_ap, mSlL_ap, mSlT_ap, mPart_ap, mNoP_ap, Go_nx, Go_ct, Rt_rt, Bk_bk, runD_ap, runM_ap, runI_ap, ok_bind, ex_bind, fBl_bl, sSeq_ap, sAsg_ap, sNew_ap, sDrop_ap, sRet_ap, sRetN_ap, sIf_ap, sNext_ap, sBreak_ap, sCont_ap, sRaise_ap, sFor_ap, sWhile_ap, sPar_ap, sApp_ap, sExt_ap, sSet_ap, sDelLast_ap, sSet2_ap, sSwap_ap, iFld_ap, iFldS_ap, iSeq_ap, yH_ap, yP_ap, ybH_ap, ybP_ap, yaH_ap, y1_ap, y2_ap, yNil_ap, yCons_ap, yN_ap, yX_ap, yTup_ap, yLst_ap, yT_ap, yTNot_ap, yTAnd_ap, yTOr_ap, yIf_ap, yAnd_ap, yOr_ap, yNot_ap, yM_ap, yPop_ap, yPopAt_ap, yRng1_ap, yRng2_ap, ySeq_ap, yMeth_ap, bindT, bindTs, hide, hideF, wipeG, seqOf_lst, seqOf_tup, lstOf_lst, tupOf_tup, lstAt, getR_some, sca_int, sca_bl, sca_str, sca_non, Option.isSome_some, fLen_1, fRange1_int, fTupOf_1, fListOf_1, fII_int, fIB_int, fU_int, fRevT_1, fBits_int, fInt1_int, fIsi_tt, fIsi_tl, fIsi_ti, fIsi_ii, fIsi_bi, fIsi_ib, fIsi_bb, fIsi2_l, fIsi2_t, List.length_cons, List.length_nil, List.map_cons, List.map_nil, List.cons_append, List.nil_append, List.append_nil, List.getElem?_cons_zero, List.getElem?_cons_succ, List.set_cons_zero, List.set_cons_succ, List.contains_cons, List.contains_nil, Nat.reduceBEq, Bool.or_false, Bool.false_or, Bool.or_true, Bool.true_or, Bool.false_eq_true, if_true, if_false, ite_true, ite_false, ↓reduceIte, reduceCtorEq, Nat.reduceLeDiff, Nat.zero_add, Nat.reduceAdd, Nat.reduceLT, Nat.lt_add_one, bitAnd_nat, bitOr_nat, rep_0, rep_1, rep_2, rep_3, rep_4, rep_5, rep_6, rep_7, rep_8, rep_9, rep_10, rep_11, rep_12, rep_13, rep_14, rep_15, rep_16, rep_17, rep_18, rep_19, rep_20, rep_21, rep_22, rep_23, rep_24, rep_25, rep_26, rep_27, rep_28, rep_29, rep_30, rep_31, rep_32, rep_33, rep_34, rep_35, rep_36, rep_37, rep_38, rep_39, rep_40, and_self, and_true, true_and, decide_true, decide_false, Bool.not_true, Bool.not_false, Bool.and_true, Bool.true_and, Bool.and_false, Bool.false_and, neg_ok1, neg_ok2, Int.sub_zero, dNs_len, List.length_range, Rq_rt, runB_ap, yZip_ap, yB_ap, List.take_succ_cons, List.take_zero, List.drop_succ_cons, List.drop_zero, bring_nil, bring_cons, yLc_ap, sNewY_ap, ybYes_ap, ylcRun_nil, dH_len, hh, ixN_nat hp2, e3]
      exact ⟨_, _, rfl, by rw [List.length_set]; exact hh⟩
    simp only [mVar_ap, mC_ap, m1_ap, m2_ap, mN_ap, mCons_ap, mNil_ap, mTup_ap, mLst_ap, mT_ap, mTNot_ap, mTAnd_ap, mTOr_ap, mYes_ap, mAnd_ap, mOr_ap, mNot_ap, mIf_ap, mChain_ap, mSeq_ap, mRng1_ap, mRng2_ap, mRngV_ap, mRev_ap, mEnum_ap, mLc_ap, mLc2_ap, mSlL_ap, mSlT_ap, mPart_ap, mNoP_ap, Go_nx, Go_ct, Rt_rt, Bk_bk, runD_ap, runM_ap, runI_ap, ok_bind, ex_bind, fBl_bl, sSeq_ap, sAsg_ap, sNew_ap, sDrop_ap, sRet_ap, sRetN_ap, sIf_ap, sNext_ap, sBreak_ap, sCont_ap, sRaise_ap, sFor_ap, sWhile_ap, sPar_ap, sApp_ap, sExt_ap, sSet_ap, sDelLast_ap, sSet2_ap, sSwap_ap, iFld_ap, iFldS_ap, iSeq_ap, yH_ap, yP_ap, ybH_ap, ybP_ap, yaH_ap, y1_ap, y2_ap, yNil_ap, yCons_ap, yN_ap, yX_ap, yTup_ap, yLst_ap, yT_ap, yTNot_ap, yTAnd_ap, yTOr_ap, yIf_ap, yAnd_ap, yOr_ap, yNot_ap, yM_ap, yPop_ap, yPopAt_ap, yRng1_ap, yRng2_ap, ySeq_ap, yMeth_ap, bindT, bindTs, hide, hideF, wipeG, seqOf_lst, seqOf_tup, lstOf_lst, tupOf_tup, lstAt, getR_some, sca_int, sca_bl, sca_str, sca_non, Option.isSome_some, fLen_1, fRange1_int, fTupOf_1, fListOf_1, fII_int, fIB_int, fU_int, fRevT_1, fBits_int, fInt1_int, fIsi_tt, fIsi_tl, fIsi_ti, fIsi_ii, fIsi_bi, fIsi_ib, fIsi_bb, fIsi2_l, fIsi2_t, List.length_cons, List.length_nil, List.map_cons, List.map_nil, List.cons_append, List.nil_append, List.append_nil, List.getElem?_cons_zero, List.getElem?_cons_succ, List.set_cons_zero, List.set_cons_succ, List.contains_cons, List.contains_nil, Nat.reduceBEq, Bool.or_false, Bool.false_or, Bool.or_true, Bool.true_or, Bool.false_eq_true, if_true, if_false, ite_true, ite_false, ↓reduceIte, reduceCtorEq, Nat.reduceLeDiff, Nat.zero_add, Nat.reduceAdd, Nat.reduceLT, Nat.lt_add_one, bitAnd_nat, bitOr_nat, rep_0, rep_1, rep_2, rep_3, rep_4, rep_5, rep_6, rep_7, rep_8, rep_9, rep_10, rep_11, rep_12, rep_13, rep_14, rep_15, rep_16, rep_17, rep_18, rep_19, rep_20, rep_21, rep_22, rep_23, rep_24, rep_25, rep_26, rep_27, rep_28, rep_29, rep_30, rep_31, rep_32, rep_33, rep_34, rep_35, rep_36, rep_37, rep_38, rep_39, rep_40, and_self, and_true, true_and, decide_true, decide_false, Bool.not_true, Bool.not_false, Bool.and_true, Bool.true_and, Bool.and_false, Bool.false_and, neg_ok1, neg_ok2, Int.sub_zero, dNs_len, List.length_range, Rq_rt, runB_ap, yZip_ap, yB_ap, List.take_succ_cons, List.take_zero, List.drop_succ_cons, List.drop_zero, bring_nil, bring_cons, yLc_ap, sNewY_ap, ybYes_ap, ylcRun_nil]
    refine ⟨put hs w, _, _, _, _, rfl, hpl, ?_⟩
    rcases h2 with ⟨rfl, h2⟩ | ⟨h2, h3⟩
    · exact hI.alone h2
    · exact hI.way h2 h3
  rw [List.length_range] at hI
  obtain ⟨ms, h1, h2⟩ := m_partners_ok a (n := J.length) (hs := hs) (x := .lst (dH hs)) rfl (by omega) (by omega) (fun y z h => (hI.ok y z h).1) hI.inj
  refine ⟨hs, ms, hsl, hI, h2, ?_⟩
  simp only [mVar_ap, mC_ap, m1_ap, m2_ap, mN_ap, mCons_ap, mNil_ap, mTup_ap, mLst_ap, mT_ap, mTNot_ap, mTAnd_ap, mTOr_ap, mYes_ap, mAnd_ap, mOr_ap, mNot_ap, mIf_ap, mChain_ap, mSeq_ap, mRng1_ap, mRng2_ap, mRngV_ap, mRev_ap, mEnum_ap, mLc_ap, mLc2_ap, mSlL_ap, mSlT_ap, mPart_ap, mNoP_ap, Go_nx, Go_ct, Rt_rt, Bk_bk, runD_ap, runM_ap, runI_ap, ok_bind, ex_bind, fBl_bl, sSeq_ap, sAsg_ap, sNew_ap, sDrop_ap, sRet_ap, sRetN_ap, sIf_ap, sNext_ap, sBreak_ap, sCont_ap, sRaise_ap, sFor_ap, sWhile_ap, sPar_ap, sApp_ap, sExt_ap, sSet_ap, sDelLast_ap, sSet2_ap, sSwap_ap, iFld_ap, iFldS_ap, iSeq_ap, yH_ap, yP_ap, ybH_ap, ybP_ap, yaH_ap, y1_ap, y2_ap, yNil_ap, yCons_ap, yN_ap, yX_ap, yTup_ap, yLst_ap, yT_ap, yTNot_ap, yTAnd_ap, yTOr_ap, yIf_ap, yAnd_ap, yOr_ap, yNot_ap, yM_ap, yPop_ap, yPopAt_ap, yRng1_ap, yRng2_ap, ySeq_ap, yMeth_ap, bindT, bindTs, hide, hideF, wipeG, seqOf_lst, seqOf_tup, lstOf_lst, tupOf_tup, lstAt, getR_some, sca_int, sca_bl, sca_str, sca_non, Option.isSome_some, fLen_1, fRange1_int, fTupOf_1, fListOf_1, fII_int, fIB_int, fU_int, fRevT_1, fBits_int, fInt1_int, fIsi_tt, fIsi_tl, fIsi_ti, fIsi_ii, fIsi_bi, fIsi_ib, fIsi_bb, fIsi2_l, fIsi2_t, List.length_cons, List.length_nil, List.map_cons, List.map_nil, List.cons_append, List.nil_append, List.append_nil, List.getElem?_cons_zero, List.getElem?_cons_succ, List.set_cons_zero, List.set_cons_succ, List.contains_cons, List.contains_nil, Nat.reduceBEq, Bool.or_false, Bool.false_or, Bool.or_true, Bool.true_or, Bool.false_eq_true, if_true, if_false, ite_true, ite_false, ↓reduceIte, reduceCtorEq, Nat.reduceLeDiff, Nat.zero_add, Nat.reduceAdd, Nat.reduceLT, Nat.lt_add_one, bitAnd_nat, bitOr_nat, rep_0, rep_1, rep_2, rep_3, rep_4, rep_5, rep_6, rep_7, rep_8, rep_9, rep_10, rep_11, rep_12, rep_13, rep_14, rep_15, rep_16, rep_17, rep_18, rep_19, rep_20, rep_21, rep_22, rep_23, rep_24, rep_25, rep_26, rep_27, rep_28, rep_29, rep_30, rep_31, rep_32, rep_33, rep_34, rep_35, rep_36, rep_37, rep_38, rep_39, rep_40, and_self, and_true, true_and, decide_true, decide_false, Bool.not_true, Bool.not_false, Bool.and_true, Bool.true_and, Bool.and_false, Bool.false_and, neg_ok1, neg_ok2, Int.sub_zero, dNs_len, List.length_range, Rq_rt, runB_ap, yZip_ap, yB_ap, List.take_succ_cons, List.take_zero, List.drop_succ_cons, List.drop_zero, bring_nil, bring_cons, yLc_ap, sNewY_ap, ybYes_ap, ylcRun_nil, hJ, h1]
end
end Mi
namespace Mi
open PySem PySem.Spec PyProof.Rows L2 Fo
variable [Nm]
open Mt
theorem dual_back {n r : Nat} {hs ms hs2 : Hs} (h1 : Dual n hs ms) (hl : hs.length = r) (h2 : Dual r ms hs2) (hd : ∀ y, y < r → ∃ o, hs[y]? = some o) : hs2 = hs := by
  apply List.ext_getElem?
  intro y
  by_cases hy : y < r
  · obtain ⟨o, ho⟩ := hd y hy
    obtain ⟨o2, ho2⟩ : ∃ o, hs2[y]? = some o := ⟨hs2[y]'(by rw [h2.len]; exact hy), by simp [h2.len, hy]⟩
    rw [ho, ho2]
    congr 1
    cases o with
    | none =>
      cases o2 with
      | none => rfl
      | some z =>
        have := (h1.iff z y).mp ((h2.iff y z).mp ho2)
        rw [ho] at this
        cases this
    | some z =>
      have := (h2.iff y z).mpr ((h1.iff z y).mpr ho)
      rw [ho2] at this
      exact Option.some.inj this
  · rw [List.getElem?_eq_none (by rw [h2.len]; omega), List.getElem?_eq_none (by omega)]
theorem or_test (p q y : Nat) : (p ||| q).testBit y = (p.testBit y || q.testBit y) := Nat.testBit_or ..
structure Rch (J : List Nat) (hs ms : Hs) (c : Nat → Prop) (W : List Nat) (Lb Rb : Nat) : Prop where
  al : ∀ x, x < J.length → ms[x]? = some none → Lb.testBit x = true
  lt : ∀ x, Lb.testBit x = true → x < J.length
  lc : ∀ x, Lb.testBit x = true → ∀ y, jn J x y → c y
  dn : ∀ x, Lb.testBit x = true → x ∈ W ∨ ∀ y, jn J x y → Rb.testBit y = true
  wl : ∀ x ∈ W, Lb.testBit x = true
  rc : ∀ y, Rb.testBit y = true → c y
  rl : ∀ y x : Nat, Rb.testBit y = true → hs[y]? = some (some x) → Lb.testBit x = true
theorem unseen_all {r seen F : Nat} (hF : F < 2 ^ r) (hd : ∀ y, F.testBit y = true → seen.testBit y = false) : unseen r (seen ||| F) + (mem r F).length = unseen r seen := by
  unfold unseen mem
  have : ∀ l : List Nat, (l.filter fun y => !(seen ||| F).testBit y).length + (l.filter fun y => F.testBit y).length = (l.filter fun y => !seen.testBit y).length := by
    intro l
    induction l with
    | nil => rfl
    | cons y l ih =>
      rw [List.filter_cons, List.filter_cons, List.filter_cons, or_test]
      cases h1 : F.testBit y with
      | true =>
        simp only [hd y h1, Bool.or_true, Bool.not_true, Bool.not_false, Bool.false_eq_true, if_false, if_true, List.length_cons]
        omega
      | false =>
        cases h2 : seen.testBit y <;> simp only [Bool.or_false, Bool.not_true, Bool.not_false, Bool.false_eq_true, if_false, if_true, List.length_cons] <;> omega
  exact this _
section
variable (a : Ax)
def outB (n Lb : Nat) : Nat := bitsOf n fun x => !Lb.testBit x
theorem m_least_cover_ok {J : List Nat} {dJ : Da} {r : Nat} {hs ms : Hs} (hJ : seqOf dJ = .ok (dNs J)) (hr : r ≤ 1000) (hl : J.length ≤ 1000) (hb : ∀ z, z < J.length → J.getD z 0 < 2 ^ r) (hsl : hs.length = r) (hI : MInv J J.length hs) (hD : Dual J.length hs ms) : ∃ (c : Nat → Prop) (Lb Rb : Nat), (∀ y, c y → ∃ z : Nat, hs[y]? = some (some z)) ∧ Rch J hs ms c [] Lb Rb ∧ Rb < 2 ^ r ∧ m_least_cover a [dJ, .int (r : Int), .tup (dH ms)] = .ok (.tup [.int (outB J.length Lb : Nat), .int (Rb : Int)]) := by
  obtain ⟨c, hc1, hc2⟩ := hI.cert
  have hl1 : J.length ≤ 1000000 := by omega
  have hd : ∀ y, y < r → ∃ o, hs[y]? = some o := fun y hy => ⟨hs[y]'(by omega), by simp [hsl, hy]⟩
  obtain ⟨hs2, p1, p2⟩ := m_partners_ok a (n := r) (hs := ms) (x := .tup (dH ms)) rfl hr (by rw [hD.len]; exact hl) (fun x y h => by
    have := (hD.iff x y).mp h
    rw [← hsl]
    exact (List.getElem?_eq_some_iff.mp this).1) (fun x x' y h1 h2 => by
    have e1 := (hD.iff x y).mp h1
    have e2 := (hD.iff x' y).mp h2
    rw [e1] at e2
    exact Option.some.inj (Option.some.inj e2))
  obtain rfl := dual_back hD hsl p2 hd
  have hmx : ∀ x, x < J.length → ∃ o, ms[x]? = some o := fun x hx => ⟨ms[x]'(by rw [hD.len]; exact hx), by simp [hD.len, hx]⟩
  have hal : ∀ x, x < J.length → ms[x]? = some none → ∀ y : Nat, hs2[y]? ≠ some (some x) := fun x hx h y hy => by
    rw [(hD.iff x y).mpr hy] at h
    cases h
  unfold m_least_cover
  simp only [mVar_ap, mC_ap, m1_ap, m2_ap, mN_ap, mCons_ap, mNil_ap, mTup_ap, mLst_ap, mT_ap, mTNot_ap, mTAnd_ap, mTOr_ap, mYes_ap, mAnd_ap, mOr_ap, mNot_ap, mIf_ap, mChain_ap, mSeq_ap, mRng1_ap, mRng2_ap, mRngV_ap, mRev_ap, mEnum_ap, mLc_ap, mLc2_ap, mSlL_ap, mSlT_ap, mPart_ap, mNoP_ap, Go_nx, Go_ct, Rt_rt, Bk_bk, runD_ap, runM_ap, runI_ap, ok_bind, ex_bind, fBl_bl, sSeq_ap, sAsg_ap, sNew_ap, sDrop_ap, sRet_ap, sRetN_ap, sIf_ap, sNext_ap, sBreak_ap, sCont_ap, sRaise_ap, sFor_ap, sWhile_ap, sPar_ap, sApp_ap, sExt_ap, sSet_ap, sDelLast_ap, sSet2_ap, sSwap_ap, iFld_ap, iFldS_ap, iSeq_ap, yH_ap, yP_ap, ybH_ap, ybP_ap, yaH_ap, y1_ap, y2_ap, yNil_ap, yCons_ap, yN_ap, yX_ap, yTup_ap, yLst_ap, yT_ap, yTNot_ap, yTAnd_ap, yTOr_ap, yIf_ap, yAnd_ap, yOr_ap, yNot_ap, yM_ap, yPop_ap, yPopAt_ap, yRng1_ap, yRng2_ap, ySeq_ap, yMeth_ap, bindT, bindTs, hide, hideF, wipeG, seqOf_lst, seqOf_tup, lstOf_lst, tupOf_tup, lstAt, getR_some, sca_int, sca_bl, sca_str, sca_non, Option.isSome_some, fLen_1, fRange1_int, fTupOf_1, fListOf_1, fII_int, fIB_int, fU_int, fRevT_1, fBits_int, fInt1_int, fIsi_tt, fIsi_tl, fIsi_ti, fIsi_ii, fIsi_bi, fIsi_ib, fIsi_bb, fIsi2_l, fIsi2_t, List.length_cons, List.length_nil, List.map_cons, List.map_nil, List.cons_append, List.nil_append, List.append_nil, List.getElem?_cons_zero, List.getElem?_cons_succ, List.set_cons_zero, List.set_cons_succ, List.contains_cons, List.contains_nil, Nat.reduceBEq, Bool.or_false, Bool.false_or, Bool.or_true, Bool.true_or, Bool.false_eq_true, if_true, if_false, ite_true, ite_false, ↓reduceIte, reduceCtorEq, Nat.reduceLeDiff, Nat.zero_add, Nat.reduceAdd, Nat.reduceLT, Nat.lt_add_one, bitAnd_nat, bitOr_nat, rep_0, rep_1, rep_2, rep_3, rep_4, rep_5, rep_6, rep_7, rep_8, rep_9, rep_10, rep_11, rep_12, rep_13, rep_14, rep_15, rep_16, rep_17, rep_18, rep_19, rep_20, rep_21, rep_22, rep_23, rep_24, rep_25, rep_26, rep_27, rep_28, rep_29, rep_30, rep_31, rep_32, rep_33, rep_34, rep_35, rep_36, rep_37, rep_38, rep_39, rep_40, and_self, and_true, true_and, decide_true, decide_false, Bool.not_true, Bool.not_false, Bool.and_true, Bool.true_and, Bool.and_false, Bool.false_and, neg_ok1, neg_ok2, Int.sub_zero, dNs_len, List.length_range, Rq_rt, runB_ap, yZip_ap, yB_ap, List.take_succ_cons, List.take_zero, List.drop_succ_cons, List.drop_zero, bring_nil, bring_cons, yLc_ap, sNewY_ap, ybYes_ap, ylcRun_nil, p1, hJ, rng_ok hl1, rng_natC, show J.length ≤ 500000 from by omega]
  generalize hR : lcRun _ _ _ _ _ = q
  rw [lc_of hR (fun x : Nat => Da.int (x : Int)) (fun x => decide (ms[x]? = some none)) (fun x : Nat => Da.int (x : Int)) (List.range J.length) rfl fun x hx => by
    have hx := List.mem_range.mp hx
    obtain ⟨o, ho⟩ := hmx x hx
    refine ⟨_, rfl, ?_, fun _ => ?_⟩
    · simp only [mVar_ap, mC_ap, m1_ap, m2_ap, mN_ap, mCons_ap, mNil_ap, mTup_ap, mLst_ap, mT_ap, mTNot_ap, mTAnd_ap, mTOr_ap, mYes_ap, mAnd_ap, mOr_ap, mNot_ap, mIf_ap, mChain_ap, mSeq_ap, mRng1_ap, mRng2_ap, mRngV_ap, mRev_ap, mEnum_ap, mLc_ap, mLc2_ap, mSlL_ap, mSlT_ap, mPart_ap, mNoP_ap, Go_nx, Go_ct, Rt_rt, Bk_bk, runD_ap, runM_ap, runI_ap, ok_bind, ex_bind, fBl_bl, sSeq_ap, sAsg_ap, sNew_ap, sDrop_ap, sRet_ap, sRetN_ap, sIf_ap, sNext_ap, sBreak_ap, sCont_ap, sRaise_ap, sFor_ap, sWhile_ap, sPar_ap, sApp_ap, sExt_ap, sSet_ap, sDelLast_ap, sSet2_ap, sSwap_ap, iFld_ap, iFldS_ap, iSeq_ap, yH_ap, yP_ap, ybH_ap, ybP_ap, yaH_ap, y1_ap, y2_ap, yNil_ap, yCons_ap, yN_ap, yX_ap, yTup_ap, yLst_ap, yT_ap, yTNot_ap, yTAnd_ap, yTOr_ap, yIf_ap, yAnd_ap, yOr_ap, yNot_ap, yM_ap, yPop_ap, yPopAt_ap, yRng1_ap, yRng2_ap, ySeq_ap, yMeth_ap, bindT, bindTs, hide, hideF, wipeG, seqOf_lst, seqOf_tup, lstOf_lst, tupOf_tup, lstAt, getR_some, sca_int, sca_bl, sca_str, sca_non, Option.isSome_some, fLen_1, fRange1_int, fTupOf_1, fListOf_1, fII_int, fIB_int, fU_int, fRevT_1, fBits_int, fInt1_int, fIsi_tt, fIsi_tl, fIsi_ti, fIsi_ii, fIsi_bi, fIsi_ib, fIsi_bb, fIsi2_l, fIsi2_t, List.length_cons, List.length_nil, List.map_cons, List.map_nil, List.cons_append, List.nil_append, List.append_nil, List.getElem?_cons_zero, List.getElem?_cons_succ, List.set_cons_zero, List.set_cons_succ, List.contains_cons, List.contains_nil, Nat.reduceBEq, Bool.or_false, Bool.false_or, Bool.or_true, Bool.true_or, Bool.false_eq_true, if_true, if_false, ite_true, ite_false, ↓reduceIte, reduceCtorEq, Nat.reduceLeDiff, Nat.zero_add, Nat.reduceAdd, Nat.reduceLT, Nat.lt_add_one, bitAnd_nat, bitOr_nat, rep_0, rep_1, rep_2, rep_3, rep_4, rep_5, rep_6, rep_7, rep_8, rep_9, rep_10, rep_11, rep_12, rep_13, rep_14, rep_15, rep_16, rep_17, rep_18, rep_19, rep_20, rep_21, rep_22, rep_23, rep_24, rep_25, rep_26, rep_27, rep_28, rep_29, rep_30, rep_31, rep_32, rep_33, rep_34, rep_35, rep_36, rep_37, rep_38, rep_39, rep_40, and_self, and_true, true_and, decide_true, decide_false, Bool.not_true, Bool.not_false, Bool.and_true, Bool.true_and, Bool.and_false, Bool.false_and, neg_ok1, neg_ok2, Int.sub_zero, dNs_len, List.length_range, Rq_rt, runB_ap, yZip_ap, yB_ap, List.take_succ_cons, List.take_zero, List.drop_succ_cons, List.drop_zero, bring_nil, bring_cons, yLc_ap, sNewY_ap, ybYes_ap, ylcRun_nil, fIx_tup, dH_at ho, eqS_int, hI_none, ho]
      cases o <;> rfl
    · simp only [mVar_ap, mC_ap, m1_ap, m2_ap, mN_ap, mCons_ap, mNil_ap, mTup_ap, mLst_ap, mT_ap, mTNot_ap, mTAnd_ap, mTOr_ap, mYes_ap, mAnd_ap, mOr_ap, mNot_ap, mIf_ap, mChain_ap, mSeq_ap, mRng1_ap, mRng2_ap, mRngV_ap, mRev_ap, mEnum_ap, mLc_ap, mLc2_ap, mSlL_ap, mSlT_ap, mPart_ap, mNoP_ap, Go_nx, Go_ct, Rt_rt, Bk_bk, runD_ap, runM_ap, runI_ap, ok_bind, ex_bind, fBl_bl, sSeq_ap, sAsg_ap, sNew_ap, sDrop_ap, sRet_ap, sRetN_ap, sIf_ap, sNext_ap, sBreak_ap, sCont_ap, sRaise_ap, sFor_ap, sWhile_ap, sPar_ap, sApp_ap, sExt_ap, sSet_ap, sDelLast_ap, sSet2_ap, sSwap_ap, iFld_ap, iFldS_ap, iSeq_ap, yH_ap, yP_ap, ybH_ap, ybP_ap, yaH_ap, y1_ap, y2_ap, yNil_ap, yCons_ap, yN_ap, yX_ap, yTup_ap, yLst_ap, yT_ap, yTNot_ap, yTAnd_ap, yTOr_ap, yIf_ap, yAnd_ap, yOr_ap, yNot_ap, yM_ap, yPop_ap, yPopAt_ap, yRng1_ap, yRng2_ap, ySeq_ap, yMeth_ap, bindT, bindTs, hide, hideF, wipeG, seqOf_lst, seqOf_tup, lstOf_lst, tupOf_tup, lstAt, getR_some, sca_int, sca_bl, sca_str, sca_non, Option.isSome_some, fLen_1, fRange1_int, fTupOf_1, fListOf_1, fII_int, fIB_int, fU_int, fRevT_1, fBits_int, fInt1_int, fIsi_tt, fIsi_tl, fIsi_ti, fIsi_ii, fIsi_bi, fIsi_ib, fIsi_bb, fIsi2_l, fIsi2_t, List.length_cons, List.length_nil, List.map_cons, List.map_nil, List.cons_append, List.nil_append, List.append_nil, List.getElem?_cons_zero, List.getElem?_cons_succ, List.set_cons_zero, List.set_cons_succ, List.contains_cons, List.contains_nil, Nat.reduceBEq, Bool.or_false, Bool.false_or, Bool.or_true, Bool.true_or, Bool.false_eq_true, if_true, if_false, ite_true, ite_false, ↓reduceIte, reduceCtorEq, Nat.reduceLeDiff, Nat.zero_add, Nat.reduceAdd, Nat.reduceLT, Nat.lt_add_one, bitAnd_nat, bitOr_nat, rep_0, rep_1, rep_2, rep_3, rep_4, rep_5, rep_6, rep_7, rep_8, rep_9, rep_10, rep_11, rep_12, rep_13, rep_14, rep_15, rep_16, rep_17, rep_18, rep_19, rep_20, rep_21, rep_22, rep_23, rep_24, rep_25, rep_26, rep_27, rep_28, rep_29, rep_30, rep_31, rep_32, rep_33, rep_34, rep_35, rep_36, rep_37, rep_38, rep_39, rep_40, and_self, and_true, true_and, decide_true, decide_false, Bool.not_true, Bool.not_false, Bool.and_true, Bool.true_and, Bool.and_false, Bool.false_and, neg_ok1, neg_ok2, Int.sub_zero, dNs_len, List.length_range, Rq_rt, runB_ap, yZip_ap, yB_ap, List.take_succ_cons, List.take_zero, List.drop_succ_cons, List.drop_zero, bring_nil, bring_cons, yLc_ap, sNewY_ap, ybYes_ap, ylcRun_nil]]
  clear hR
  generalize hW0 : (List.range J.length).filter (fun x => decide (ms[x]? = some none)) = W0
  have hW0m : ∀ x, x ∈ W0 ↔ x < J.length ∧ ms[x]? = some none := fun x => by
    rw [← hW0, List.mem_filter, List.mem_range, decide_eq_true_iff]
  have hW0l : W0.length ≤ J.length := by
    have := List.length_filter_le (fun x => decide (ms[x]? = some none)) (List.range J.length)
    rw [List.length_range, hW0] at this
    exact this
  have s0 := m_set_of_lst a W0 fun x hx => by
    have := ((hW0m x).mp hx).1
    omega
  unfold dNs at s0
  simp only [mVar_ap, mC_ap, m1_ap, m2_ap, mN_ap, mCons_ap, mNil_ap, mTup_ap, mLst_ap, mT_ap, mTNot_ap, mTAnd_ap, mTOr_ap, mYes_ap, mAnd_ap, mOr_ap, mNot_ap, mIf_ap, mChain_ap, mSeq_ap, mRng1_ap, mRng2_ap, mRngV_ap, mRev_ap, mEnum_ap, mLc_ap, mLc2_ap, mSlL_ap, mSlT_ap, mPart_ap, mNoP_ap, Go_nx, Go_ct, Rt_rt, Bk_bk, runD_ap, runM_ap, runI_ap, ok_bind, ex_bind, fBl_bl, sSeq_ap, sAsg_ap, sNew_ap, sDrop_ap, sRet_ap, sRetN_ap, sIf_ap, sNext_ap, sBreak_ap, sCont_ap, sRaise_ap, sFor_ap, sWhile_ap, sPar_ap, sApp_ap, sExt_ap, sSet_ap, sDelLast_ap, sSet2_ap, sSwap_ap, iFld_ap, iFldS_ap, iSeq_ap, yH_ap, yP_ap, ybH_ap, ybP_ap, yaH_ap, y1_ap, y2_ap, yNil_ap, yCons_ap, yN_ap, yX_ap, yTup_ap, yLst_ap, yT_ap, yTNot_ap, yTAnd_ap, yTOr_ap, yIf_ap, yAnd_ap, yOr_ap, yNot_ap, yM_ap, yPop_ap, yPopAt_ap, yRng1_ap, yRng2_ap, ySeq_ap, yMeth_ap, bindT, bindTs, hide, hideF, wipeG, seqOf_lst, seqOf_tup, lstOf_lst, tupOf_tup, lstAt, getR_some, sca_int, sca_bl, sca_str, sca_non, Option.isSome_some, fLen_1, fRange1_int, fTupOf_1, fListOf_1, fII_int, fIB_int, fU_int, fRevT_1, fBits_int, fInt1_int, fIsi_tt, fIsi_tl, fIsi_ti, fIsi_ii, fIsi_bi, fIsi_ib, fIsi_bb, fIsi2_l, fIsi2_t, List.length_cons, List.length_nil, List.map_cons, List.map_nil, List.cons_append, List.nil_append, List.append_nil, List.getElem?_cons_zero, List.getElem?_cons_succ, List.set_cons_zero, List.set_cons_succ, List.contains_cons, List.contains_nil, Nat.reduceBEq, Bool.or_false, Bool.false_or, Bool.or_true, Bool.true_or, Bool.false_eq_true, if_true, if_false, ite_true, ite_false, ↓reduceIte, reduceCtorEq, Nat.reduceLeDiff, Nat.zero_add, Nat.reduceAdd, Nat.reduceLT, Nat.lt_add_one, bitAnd_nat, bitOr_nat, rep_0, rep_1, rep_2, rep_3, rep_4, rep_5, rep_6, rep_7, rep_8, rep_9, rep_10, rep_11, rep_12, rep_13, rep_14, rep_15, rep_16, rep_17, rep_18, rep_19, rep_20, rep_21, rep_22, rep_23, rep_24, rep_25, rep_26, rep_27, rep_28, rep_29, rep_30, rep_31, rep_32, rep_33, rep_34, rep_35, rep_36, rep_37, rep_38, rep_39, rep_40, and_self, and_true, true_and, decide_true, decide_false, Bool.not_true, Bool.not_false, Bool.and_true, Bool.true_and, Bool.and_false, Bool.false_and, neg_ok1, neg_ok2, Int.sub_zero, dNs_len, List.length_range, Rq_rt, runB_ap, yZip_ap, yB_ap, List.take_succ_cons, List.take_zero, List.drop_succ_cons, List.drop_zero, bring_nil, bring_cons, yLc_ap, sNewY_ap, ybYes_ap, ylcRun_nil, s0]
  generalize hR : whRun _ _ _ _ = q
  have un0 : unseen r 0 ≤ r := by
    have := List.length_filter_le (fun y => !(0 : Nat).testBit y) (List.range r)
    rw [List.length_range] at this
    exact this
  obtain ⟨_, rfl, Lb, Rb, v4, v5, v8, v9, v10, hRc, hRb, rfl⟩ := wh_of hR (fun (s : List Nat × Nat × Nat) e => Rch J hs2 ms c s.1 s.2.1 s.2.2 ∧ s.2.2 < 2 ^ r ∧ 2 * unseen r s.2.2 + s.1.length ≤ 3000 ∧ ∃ v5 v8 v9 v10, e = [some dJ, some (.int (r : Int)), some (.tup (dH ms)), some (.tup (dH hs2)), some (.lst (dNs s.1)), v5, some (.int (s.2.1 : Int)), some (.int (s.2.2 : Int)), v8, v9, v10, none]) (fun s => 2 * unseen r s.2.2 + s.1.length) (fun e => ∃ Lb Rb v4 v5 v8 v9 v10, Rch J hs2 ms c [] Lb Rb ∧ Rb < 2 ^ r ∧ e = [some dJ, some (.int (r : Int)), some (.tup (dH ms)), some (.tup (dH hs2)), v4, v5, some (.int (Lb : Int)), some (.int (Rb : Int)), v8, v9, v10, none]) (W0, bsOf W0, 0) ⟨⟨fun x hx h => (by rw [bsOf_test, List.contains_iff_mem]; exact (hW0m x).mpr ⟨hx, h⟩), fun x h => (by
      rw [bsOf_test, List.contains_iff_mem] at h
      exact ((hW0m x).mp h).1), fun x h y hy => (by
      rw [bsOf_test, List.contains_iff_mem] at h
      obtain ⟨h1, h2⟩ := (hW0m x).mp h
      exact hc2 x h1 (hal x h1 h2) y hy), fun x h => (by
      rw [bsOf_test, List.contains_iff_mem] at h
      exact .inl h), fun x h => (by rw [bsOf_test, List.contains_iff_mem]; exact h), fun y h => (by
      rw [Nat.zero_testBit] at h
      cases h), fun y x h => (by
      rw [Nat.zero_testBit] at h
      cases h)⟩, Nat.two_pow_pos r, (by show 2 * unseen r 0 + W0.length ≤ 3000; omega), _, _, _, _, rfl⟩ (by show 2 * unseen r 0 + W0.length < 1000000; omega) fun ⟨W, Lb, Rb⟩ e => by
    rintro ⟨hC, hRb, hM, v5, v8, v9, v10, rfl⟩
    rcases List.eq_nil_or_concat W with hW | ⟨W1, z, hW⟩
    · subst hW
      refine .inl ⟨_, ?_, Lb, Rb, some (.lst (dNs [])), v5, v8, v9, v10, hC, hRb, rfl⟩
      simp only [mVar_ap, mC_ap, m1_ap, m2_ap, mN_ap, mCons_ap, mNil_ap, mTup_ap, mLst_ap, mT_ap, mTNot_ap, mTAnd_ap, mTOr_ap, mYes_ap, mAnd_ap, mOr_ap, mNot_ap, mIf_ap, mChain_ap, mSeq_ap, mRng1_ap, mRng2_ap, mRngV_ap, mRev_ap, mEnum_ap, mLc_ap, mLc2_ap, mSlL_ap, mSlT_ap, mPart_ap, mNoP_ap, Go_nx, Go_ct, Rt_rt, Bk_bk, runD_ap, runM_ap, runI_ap, ok_bind, ex_bind, fBl_bl, sSeq_ap, sAsg_ap, sNew_ap, sDrop_ap, sRet_ap, sRetN_ap, sIf_ap, sNext_ap, sBreak_ap, sCont_ap, sRaise_ap, sFor_ap, sWhile_ap, sPar_ap, sApp_ap, sExt_ap, sSet_ap, sDelLast_ap, sSet2_ap, sSwap_ap, iFld_ap, iFldS_ap, iSeq_ap, yH_ap, yP_ap, ybH_ap, ybP_ap, yaH_ap, y1_ap, y2_ap, yNil_ap, yCons_ap, yN_ap, yX_ap, yTup_ap, yLst_ap, yT_ap, yTNot_ap, yTAnd_ap, yTOr_ap, yIf_ap, yAnd_ap, yOr_ap, yNot_ap, yM_ap, yPop_ap, yPopAt_ap, yRng1_ap, yRng2_ap, ySeq_ap, yMeth_ap, bindT, bindTs, hide, hideF, wipeG, seqOf_lst, seqOf_tup, lstOf_lst, tupOf_tup, lstAt, getR_some, sca_int, sca_bl, sca_str, sca_non, Option.isSome_some, fLen_1, fRange1_int, fTupOf_1, fListOf_1, fII_int, fIB_int, fU_int, fRevT_1, fBits_int, fInt1_int, fIsi_tt, fIsi_tl, fIsi_ti, fIsi_ii, fIsi_bi, fIsi_ib, fIsi_bb, fIsi2_l, fIsi2_t, List.length_cons, List.length_nil, List.map_cons, List.map_nil, List.cons_append, List.nil_append, List.append_nil, List.getElem?_cons_zero, List.getElem?_cons_succ, List.set_cons_zero, List.set_cons_succ, List.contains_cons, List.contains_nil, Nat.reduceBEq, Bool.or_false, Bool.false_or, Bool.or_true, Bool.true_or, Bool.false_eq_true, if_true, if_false, ite_true, ite_false, ↓reduceIte, reduceCtorEq, Nat.reduceLeDiff, Nat.zero_add, Nat.reduceAdd, Nat.reduceLT, Nat.lt_add_one, bitAnd_nat, bitOr_nat, rep_0, rep_1, rep_2, rep_3, rep_4, rep_5, rep_6, rep_7, rep_8, rep_9, rep_10, rep_11, rep_12, rep_13, rep_14, rep_15, rep_16, rep_17, rep_18, rep_19, rep_20, rep_21, rep_22, rep_23, rep_24, rep_25, rep_26, rep_27, rep_28, rep_29, rep_30, rep_31, rep_32, rep_33, rep_34, rep_35, rep_36, rep_37, rep_38, rep_39, rep_40, and_self, and_true, true_and, decide_true, decide_false, Bool.not_true, Bool.not_false, Bool.and_true, Bool.true_and, Bool.and_false, Bool.false_and, neg_ok1, neg_ok2, Int.sub_zero, dNs_len, List.length_range, Rq_rt, runB_ap, yZip_ap, yB_ap, List.take_succ_cons, List.take_zero, List.drop_succ_cons, List.drop_zero, bring_nil, bring_cons, yLc_ap, sNewY_ap, ybYes_ap, ylcRun_nil, dNs_nil, nat_pos_dec]
    · rw [List.concat_eq_append] at hW
      subst hW
      have hzb : Lb.testBit z = true := hC.wl z (by simp)
      have hzJ := hC.lt z hzb
      have hlW : (W1 ++ [z]).length = W1.length + 1 := by simp
      have hM : 2 * unseen r Rb + (W1 ++ [z]).length ≤ 3000 := hM
      have hpop : (dNs (W1 ++ [z]))[(W1 ++ [z]).length - 1]? = some (.int (z : Int)) := by
        rw [hlW, Nat.add_sub_cancel, dNs_snoc, List.getElem?_append_right (by rw [dNs_len]; omega), dNs_len, Nat.sub_self]
        rfl
      have hJz := hb z hzJ
      generalize hF : J.getD z 0 - (J.getD z 0 &&& Rb) = F at *
      have hFt : ∀ y, F.testBit y = ((J.getD z 0).testBit y && !Rb.testBit y) := fun y => by rw [← hF]; exact and_not_test hJz Rb y
      have hFr : F < 2 ^ r := lt_pow_of fun y hy => by
        rw [hFt, Bool.and_eq_true] at hy
        refine Nat.lt_of_not_le fun hle => ?_
        rw [Nat.testBit_lt_two_pow (Nat.lt_of_lt_of_le hJz (Nat.pow_le_pow_right (by decide) hle))] at hy
        cases hy.1
      have hFj : ∀ y, F.testBit y = true → jn J z y := fun y hy => by
        rw [hFt, Bool.and_eq_true] at hy
        exact hy.1
      have hFc : ∀ y, F.testBit y = true → c y := fun y hy => hC.lc z hzb y (hFj y hy)
      have hold : ∀ y, ∃ x : Nat, F.testBit y = true → hs2[y]? = some (some x) := fun y => by
        cases hy : F.testBit y with
        | false => exact ⟨0, fun h => nomatch h⟩
        | true =>
          obtain ⟨x, hx, _⟩ := hc1 y (hFc y hy)
          exact ⟨x, fun _ => hx⟩
      obtain ⟨ho, hho⟩ : ∃ ho : Nat → Nat, ∀ y, F.testBit y = true → hs2[y]? = some (some (ho y)) := ⟨fun y => (hold y).choose, fun y hy => (hold y).choose_spec hy⟩
      have hmem : ∀ y, y ∈ mem r F ↔ F.testBit y = true := fun y => ⟨fun h => (mem_lt h).2, fun h => by
        unfold mem
        rw [List.mem_filter, List.mem_range]
        refine ⟨Nat.lt_of_not_le fun hle => ?_, h⟩
        rw [Nat.testBit_lt_two_pow (Nat.lt_of_lt_of_le hFr (Nat.pow_le_pow_right (by decide) hle))] at h
        cases h⟩
      have hml : (mem r F).length ≤ r := by
        have := List.length_filter_le (fun y => F.testBit y) (List.range r)
        rw [List.length_range] at this
        exact this
      have hua := unseen_all (seen := Rb) hFr fun y hy => by
        rw [hFt, Bool.and_eq_true] at hy
        simpa using hy.2
      refine .inr ⟨[some dJ, some (.int (r : Int)), some (.tup (dH ms)), some (.tup (dH hs2)), some (.lst (dNs (W1 ++ [z]))), v5, some (.int (Lb : Int)), some (.int (Rb : Int)), v8, v9, v10, none], ?_, ?_⟩
      · simp only [mVar_ap, mC_ap, m1_ap, m2_ap, mN_ap, mCons_ap, mNil_ap, mTup_ap, mLst_ap, mT_ap, mTNot_ap, mTAnd_ap, mTOr_ap, mYes_ap, mAnd_ap, mOr_ap, mNot_ap, mIf_ap, mChain_ap, mSeq_ap, mRng1_ap, mRng2_ap, mRngV_ap, mRev_ap, mEnum_ap, mLc_ap, mLc2_ap, mSlL_ap, mSlT_ap, mPart_ap, mNoP_ap, Go_nx, Go_ct, Rt_rt, Bk_bk, runD_ap, runM_ap, runI_ap, ok_bind, ex_bind, fBl_bl, sSeq_ap, sAsg_ap, sNew_ap, sDrop_ap, sRet_ap, sRetN_ap, sIf_ap, sNext_ap, sBreak_ap, sCont_ap, sRaise_ap, sFor_ap, sWhile_ap, sPar_ap, sApp_ap, sExt_ap, sSet_ap, sDelLast_ap, sSet2_ap, sSwap_ap, iFld_ap, iFldS_ap, iSeq_ap, yH_ap, yP_ap, ybH_ap, ybP_ap, yaH_ap, y1_ap, y2_ap, yNil_ap, yCons_ap, yN_ap, yX_ap, yTup_ap, yLst_ap, yT_ap, yTNot_ap, yTAnd_ap, yTOr_ap, yIf_ap, yAnd_ap, yOr_ap, yNot_ap, yM_ap, yPop_ap, yPopAt_ap, yRng1_ap, yRng2_ap, ySeq_ap, yMeth_ap, bindT, bindTs, hide, hideF, wipeG, seqOf_lst, seqOf_tup, lstOf_lst, tupOf_tup, lstAt, getR_some, sca_int, sca_bl, sca_str, sca_non, Option.isSome_some, fLen_1, fRange1_int, fTupOf_1, fListOf_1, fII_int, fIB_int, fU_int, fRevT_1, fBits_int, fInt1_int, fIsi_tt, fIsi_tl, fIsi_ti, fIsi_ii, fIsi_bi, fIsi_ib, fIsi_bb, fIsi2_l, fIsi2_t, List.length_cons, List.length_nil, List.map_cons, List.map_nil, List.cons_append, List.nil_append, List.append_nil, List.getElem?_cons_zero, List.getElem?_cons_succ, List.set_cons_zero, List.set_cons_succ, List.contains_cons, List.contains_nil, Nat.reduceBEq, Bool.or_false, Bool.false_or, Bool.or_true, Bool.true_or, Bool.false_eq_true, if_true, if_false, ite_true, ite_false, ↓reduceIte, reduceCtorEq, Nat.reduceLeDiff, Nat.zero_add, Nat.reduceAdd, Nat.reduceLT, Nat.lt_add_one, bitAnd_nat, bitOr_nat, rep_0, rep_1, rep_2, rep_3, rep_4, rep_5, rep_6, rep_7, rep_8, rep_9, rep_10, rep_11, rep_12, rep_13, rep_14, rep_15, rep_16, rep_17, rep_18, rep_19, rep_20, rep_21, rep_22, rep_23, rep_24, rep_25, rep_26, rep_27, rep_28, rep_29, rep_30, rep_31, rep_32, rep_33, rep_34, rep_35, rep_36, rep_37, rep_38, rep_39, rep_40, and_self, and_true, true_and, decide_true, decide_false, Bool.not_true, Bool.not_false, Bool.and_true, Bool.true_and, Bool.and_false, Bool.false_and, neg_ok1, neg_ok2, Int.sub_zero, dNs_len, List.length_range, Rq_rt, runB_ap, yZip_ap, yB_ap, List.take_succ_cons, List.take_zero, List.drop_succ_cons, List.drop_zero, bring_nil, bring_cons, yLc_ap, sNewY_ap, ybYes_ap, ylcRun_nil, hlW, nat_pos_dec, Nat.succ_pos]
      · simp only [mVar_ap, mC_ap, m1_ap, m2_ap, mN_ap, mCons_ap, mNil_ap, mTup_ap, mLst_ap, mT_ap, mTNot_ap, mTAnd_ap, mTOr_ap, mYes_ap, mAnd_ap, mOr_ap, mNot_ap, mIf_ap, mChain_ap, mSeq_ap, mRng1_ap, mRng2_ap, mRngV_ap, mRev_ap, mEnum_ap, mLc_ap, mLc2_ap, mSlL_ap, mSlT_ap, mPart_ap, mNoP_ap, Go_nx, Go_ct, Rt_rt, Bk_bk, runD_ap, runM_ap, runI_ap, ok_bind, ex_bind, fBl_bl, sSeq_ap, sAsg_ap, sNew_ap, sDrop_ap, sRet_ap, sRetN_ap, sIf_ap, sNext_ap, sBreak_ap, sCont_ap, sRaise_ap, sFor_ap, sWhile_ap, sPar_ap, sApp_ap, sExt_ap, sSet_ap, sDelLast_ap, sSet2_ap, sSwap_ap, iFld_ap, iFldS_ap, iSeq_ap, yH_ap, yP_ap, ybH_ap, ybP_ap, yaH_ap, y1_ap, y2_ap, yNil_ap, yCons_ap, yN_ap, yX_ap, yTup_ap, yLst_ap, yT_ap, yTNot_ap, yTAnd_ap, yTOr_ap, yIf_ap, yAnd_ap, yOr_ap, yNot_ap, yM_ap, yPop_ap, yPopAt_ap, yRng1_ap, yRng2_ap, ySeq_ap, yMeth_ap, bindT, bindTs, hide, hideF, wipeG, seqOf_lst, seqOf_tup, lstOf_lst, tupOf_tup, lstAt, getR_some, sca_int, sca_bl, sca_str, sca_non, Option.isSome_some, fLen_1, fRange1_int, fTupOf_1, fListOf_1, fII_int, fIB_int, fU_int, fRevT_1, fBits_int, fInt1_int, fIsi_tt, fIsi_tl, fIsi_ti, fIsi_ii, fIsi_bi, fIsi_ib, fIsi_bb, fIsi2_l, fIsi2_t, List.length_cons, List.length_nil, List.map_cons, List.map_nil, List.cons_append, List.nil_append, List.append_nil, List.getElem?_cons_zero, List.getElem?_cons_succ, List.set_cons_zero, List.set_cons_succ, List.contains_cons, List.contains_nil, Nat.reduceBEq, Bool.or_false, Bool.false_or, Bool.or_true, Bool.true_or, Bool.false_eq_true, if_true, if_false, ite_true, ite_false, ↓reduceIte, reduceCtorEq, Nat.reduceLeDiff, Nat.zero_add, Nat.reduceAdd, Nat.reduceLT, Nat.lt_add_one, bitAnd_nat, bitOr_nat, rep_0, rep_1, rep_2, rep_3, rep_4, rep_5, rep_6, rep_7, rep_8, rep_9, rep_10, rep_11, rep_12, rep_13, rep_14, rep_15, rep_16, rep_17, rep_18, rep_19, rep_20, rep_21, rep_22, rep_23, rep_24, rep_25, rep_26, rep_27, rep_28, rep_29, rep_30, rep_31, rep_32, rep_33, rep_34, rep_35, rep_36, rep_37, rep_38, rep_39, rep_40, and_self, and_true, true_and, decide_true, decide_false, Bool.not_true, Bool.not_false, Bool.and_true, Bool.true_and, Bool.and_false, Bool.false_and, neg_ok1, neg_ok2, Int.sub_zero, dNs_len, List.length_range, Rq_rt, runB_ap, yZip_ap, yB_ap, List.take_succ_cons, List.take_zero, List.drop_succ_cons, List.drop_zero, bring_nil, bring_cons, yLc_ap, sNewY_ap, ybYes_ap, ylcRun_nil, hpop, fIx_J hJ hzJ, dNs_dropLast, List.dropLast_concat, and_not_nat, hF, m_members_ok a hFr (show r ≤ 100000 by omega), show (mem r F).length ≤ 500000 from by omega]
        generalize hR : lcRun _ _ _ _ _ = q
        rw [lc_of hR (fun x : Nat => Da.int (x : Int)) (fun _ => true) (fun y : Nat => Da.int (ho y : Nat)) (mem r F) rfl fun y hy => by
          have h1 := hho y ((hmem y).mp hy)
          have e2 : Mi.hI (some (ho y)) = (ho y : Int) := rfl
          have d : decide (Mi.hI (some (ho y)) = -1) = false := hI_none _
          refine ⟨_, rfl, ?_, fun _ => ?_⟩
          · simp only [mVar_ap, mC_ap, m1_ap, m2_ap, mN_ap, mCons_ap, mNil_ap, mTup_ap, mLst_ap, mT_ap, mTNot_ap, mTAnd_ap, mTOr_ap, mYes_ap, mAnd_ap, mOr_ap, mNot_ap, mIf_ap, mChain_ap, mSeq_ap, mRng1_ap, mRng2_ap, mRngV_ap, mRev_ap, mEnum_ap, mLc_ap, mLc2_ap, mSlL_ap, mSlT_ap, mPart_ap, mNoP_ap, Go_nx, Go_ct, Rt_rt, Bk_bk, runD_ap, runM_ap, runI_ap, ok_bind, ex_bind, fBl_bl, sSeq_ap, sAsg_ap, sNew_ap, sDrop_ap, sRet_ap, sRetN_ap, sIf_ap, sNext_ap, sBreak_ap, sCont_ap, sRaise_ap, sFor_ap, sWhile_ap, sPar_ap, sApp_ap, sExt_ap, sSet_ap, sDelLast_ap, sSet2_ap, sSwap_ap, iFld_ap, iFldS_ap, iSeq_ap, yH_ap, yP_ap, ybH_ap, ybP_ap, yaH_ap, y1_ap, y2_ap, yNil_ap, yCons_ap, yN_ap, yX_ap, yTup_ap, yLst_ap, yT_ap, yTNot_ap, yTAnd_ap, yTOr_ap, yIf_ap, yAnd_ap, yOr_ap, yNot_ap, yM_ap, yPop_ap, yPopAt_ap, yRng1_ap, yRng2_ap, ySeq_ap, yMeth_ap, bindT, bindTs, hide, hideF, wipeG, seqOf_lst, seqOf_tup, lstOf_lst, tupOf_tup, lstAt, getR_some, sca_int, sca_bl, sca_str, sca_non, Option.isSome_some, fLen_1, fRange1_int, fTupOf_1, fListOf_1, fII_int, fIB_int, fU_int, fRevT_1, fBits_int, fInt1_int, fIsi_tt, fIsi_tl, fIsi_ti, fIsi_ii, fIsi_bi, fIsi_ib, fIsi_bb, fIsi2_l, fIsi2_t, List.length_cons, List.length_nil, List.map_cons, List.map_nil, List.cons_append, List.nil_append, List.append_nil, List.getElem?_cons_zero, List.getElem?_cons_succ, List.set_cons_zero, List.set_cons_succ, List.contains_cons, List.contains_nil, Nat.reduceBEq, Bool.or_false, Bool.false_or, Bool.or_true, Bool.true_or, Bool.false_eq_true, if_true, if_false, ite_true, ite_false, ↓reduceIte, reduceCtorEq, Nat.reduceLeDiff, Nat.zero_add, Nat.reduceAdd, Nat.reduceLT, Nat.lt_add_one, bitAnd_nat, bitOr_nat, rep_0, rep_1, rep_2, rep_3, rep_4, rep_5, rep_6, rep_7, rep_8, rep_9, rep_10, rep_11, rep_12, rep_13, rep_14, rep_15, rep_16, rep_17, rep_18, rep_19, rep_20, rep_21, rep_22, rep_23, rep_24, rep_25, rep_26, rep_27, rep_28, rep_29, rep_30, rep_31, rep_32, rep_33, rep_34, rep_35, rep_36, rep_37, rep_38, rep_39, rep_40, and_self, and_true, true_and, decide_true, decide_false, Bool.not_true, Bool.not_false, Bool.and_true, Bool.true_and, Bool.and_false, Bool.false_and, neg_ok1, neg_ok2, Int.sub_zero, dNs_len, List.length_range, Rq_rt, runB_ap, yZip_ap, yB_ap, List.take_succ_cons, List.take_zero, List.drop_succ_cons, List.drop_zero, bring_nil, bring_cons, yLc_ap, sNewY_ap, ybYes_ap, ylcRun_nil, fIx_tup, dH_at h1, neS_int, d]
          · simp only [mVar_ap, mC_ap, m1_ap, m2_ap, mN_ap, mCons_ap, mNil_ap, mTup_ap, mLst_ap, mT_ap, mTNot_ap, mTAnd_ap, mTOr_ap, mYes_ap, mAnd_ap, mOr_ap, mNot_ap, mIf_ap, mChain_ap, mSeq_ap, mRng1_ap, mRng2_ap, mRngV_ap, mRev_ap, mEnum_ap, mLc_ap, mLc2_ap, mSlL_ap, mSlT_ap, mPart_ap, mNoP_ap, Go_nx, Go_ct, Rt_rt, Bk_bk, runD_ap, runM_ap, runI_ap, ok_bind, ex_bind, fBl_bl, sSeq_ap, sAsg_ap, sNew_ap, sDrop_ap, sRet_ap, sRetN_ap, sIf_ap, sNext_ap, sBreak_ap, sCont_ap, sRaise_ap, sFor_ap, sWhile_ap, sPar_ap, sApp_ap, sExt_ap, sSet_ap, sDelLast_ap, sSet2_ap, sSwap_ap, iFld_ap, iFldS_ap, iSeq_ap, yH_ap, yP_ap, ybH_ap, ybP_ap, yaH_ap, y1_ap, y2_ap, yNil_ap, yCons_ap, yN_ap, yX_ap, yTup_ap, yLst_ap, yT_ap, yTNot_ap, yTAnd_ap, yTOr_ap, yIf_ap, yAnd_ap, yOr_ap, yNot_ap, yM_ap, yPop_ap, yPopAt_ap, yRng1_ap, yRng2_ap, ySeq_ap, yMeth_ap, bindT, bindTs, hide, hideF, wipeG, seqOf_lst, seqOf_tup, lstOf_lst, tupOf_tup, lstAt, getR_some, sca_int, sca_bl, sca_str, sca_non, Option.isSome_some, fLen_1, fRange1_int, fTupOf_1, fListOf_1, fII_int, fIB_int, fU_int, fRevT_1, fBits_int, fInt1_int, fIsi_tt, fIsi_tl, fIsi_ti, fIsi_ii, fIsi_bi, fIsi_ib, fIsi_bb, fIsi2_l, fIsi2_t, List.length_cons, List.length_nil, List.map_cons, List.map_nil, List.cons_append, List.nil_append, List.append_nil, List.getElem?_cons_zero, List.getElem?_cons_succ, List.set_cons_zero, List.set_cons_succ, List.contains_cons, List.contains_nil, Nat.reduceBEq, Bool.or_false, Bool.false_or, Bool.or_true, Bool.true_or, Bool.false_eq_true, if_true, if_false, ite_true, ite_false, ↓reduceIte, reduceCtorEq, Nat.reduceLeDiff, Nat.zero_add, Nat.reduceAdd, Nat.reduceLT, Nat.lt_add_one, bitAnd_nat, bitOr_nat, rep_0, rep_1, rep_2, rep_3, rep_4, rep_5, rep_6, rep_7, rep_8, rep_9, rep_10, rep_11, rep_12, rep_13, rep_14, rep_15, rep_16, rep_17, rep_18, rep_19, rep_20, rep_21, rep_22, rep_23, rep_24, rep_25, rep_26, rep_27, rep_28, rep_29, rep_30, rep_31, rep_32, rep_33, rep_34, rep_35, rep_36, rep_37, rep_38, rep_39, rep_40, and_self, and_true, true_and, decide_true, decide_false, Bool.not_true, Bool.not_false, Bool.and_true, Bool.true_and, Bool.and_false, Bool.false_and, neg_ok1, neg_ok2, Int.sub_zero, dNs_len, List.length_range, Rq_rt, runB_ap, yZip_ap, yB_ap, List.take_succ_cons, List.take_zero, List.drop_succ_cons, List.drop_zero, bring_nil, bring_cons, yLc_ap, sNewY_ap, ybYes_ap, ylcRun_nil, fIx_tup, dH_at h1, e2]]
        rw [List.filter_eq_self.mpr fun _ _ => rfl]
        have e3 : (mem r F).map (fun y : Nat => Da.int (ho y : Nat)) = dNs ((mem r F).map ho) := by unfold dNs; rw [List.map_map]; rfl
        have hlt2 : ∀ x ∈ (mem r F).map ho, x < J.length := fun x hx => by
          obtain ⟨y, hy, rfl⟩ := List.mem_map.mp hx
          exact (hI.ok y _ (hho y ((hmem y).mp hy))).1
        have s2 := m_set_of_lst a ((mem r F).map ho) fun x hx => by
          have := hlt2 x hx
          omega
        have hlen : W1.length + ((mem r F).map ho).length ≤ 1000000 := by rw [List.length_map]; omega
        rw [e3]
        simp only [mVar_ap, mC_ap, m1_ap, m2_ap, mN_ap, mCons_ap, mNil_ap, mTup_ap, mLst_ap, mT_ap, mTNot_ap, mTAnd_ap, mTOr_ap, mYes_ap, mAnd_ap, mOr_ap, mNot_ap, mIf_ap, mChain_ap, mSeq_ap, mRng1_ap, mRng2_ap, mRngV_ap, mRev_ap, mEnum_ap, mLc_ap, mLc2_ap, mSlL_ap, mSlT_ap, mPart_ap, mNoP_ap, Go_nx, Go_ct, Rt_rt, Bk_bk, runD_ap, runM_ap, runI_ap, ok_bind, ex_bind, fBl_bl, sSeq_ap, sAsg_ap, sNew_ap, sDrop_ap, sRet_ap, sRetN_ap, sIf_ap, sNext_ap, sBreak_ap, sCont_ap, sRaise_ap, sFor_ap, sWhile_ap, sPar_ap, sApp_ap, sExt_ap, sSet_ap, sDelLast_ap, sSet2_ap, sSwap_ap, iFld_ap, iFldS_ap, iSeq_ap, yH_ap, yP_ap, ybH_ap, ybP_ap, yaH_ap, y1_ap, y2_ap, yNil_ap, yCons_ap, yN_ap, yX_ap, yTup_ap, yLst_ap, yT_ap, yTNot_ap, yTAnd_ap, yTOr_ap, yIf_ap, yAnd_ap, yOr_ap, yNot_ap, yM_ap, yPop_ap, yPopAt_ap, yRng1_ap, yRng2_ap, ySeq_ap, yMeth_ap, bindT, bindTs, hide, hideF, wipeG, seqOf_lst, seqOf_tup, lstOf_lst, tupOf_tup, lstAt, getR_some, sca_int, sca_bl, sca_str, sca_non, Option.isSome_some, fLen_1, fRange1_int, fTupOf_1, fListOf_1, fII_int, fIB_int, fU_int, fRevT_1, fBits_int, fInt1_int, fIsi_tt, fIsi_tl, fIsi_ti, fIsi_ii, fIsi_bi, fIsi_ib, fIsi_bb, fIsi2_l, fIsi2_t, List.length_cons, List.length_nil, List.map_cons, List.map_nil, List.cons_append, List.nil_append, List.append_nil, List.getElem?_cons_zero, List.getElem?_cons_succ, List.set_cons_zero, List.set_cons_succ, List.contains_cons, List.contains_nil, Nat.reduceBEq, Bool.or_false, Bool.false_or, Bool.or_true, Bool.true_or, Bool.false_eq_true, if_true, if_false, ite_true, ite_false, ↓reduceIte, reduceCtorEq, Nat.reduceLeDiff, Nat.zero_add, Nat.reduceAdd, Nat.reduceLT, Nat.lt_add_one, bitAnd_nat, bitOr_nat, rep_0, rep_1, rep_2, rep_3, rep_4, rep_5, rep_6, rep_7, rep_8, rep_9, rep_10, rep_11, rep_12, rep_13, rep_14, rep_15, rep_16, rep_17, rep_18, rep_19, rep_20, rep_21, rep_22, rep_23, rep_24, rep_25, rep_26, rep_27, rep_28, rep_29, rep_30, rep_31, rep_32, rep_33, rep_34, rep_35, rep_36, rep_37, rep_38, rep_39, rep_40, and_self, and_true, true_and, decide_true, decide_false, Bool.not_true, Bool.not_false, Bool.and_true, Bool.true_and, Bool.and_false, Bool.false_and, neg_ok1, neg_ok2, Int.sub_zero, dNs_len, List.length_range, Rq_rt, runB_ap, yZip_ap, yB_ap, List.take_succ_cons, List.take_zero, List.drop_succ_cons, List.drop_zero, bring_nil, bring_cons, yLc_ap, sNewY_ap, ybYes_ap, ylcRun_nil, s2, hlen, dNs_app]
        have hin : ∀ x, (bsOf ((mem r F).map ho)).testBit x = true ↔ ∃ y, F.testBit y = true ∧ ho y = x := fun x => by
          rw [bsOf_test, List.contains_iff_mem, List.mem_map]
          exact ⟨fun ⟨y, hy, e⟩ => ⟨y, (hmem y).mp hy, e⟩, fun ⟨y, hy, e⟩ => ⟨y, (hmem y).mpr hy, e⟩⟩
        have orl : ∀ x, (Lb ||| bsOf ((mem r F).map ho)).testBit x = true ↔ Lb.testBit x = true ∨ ∃ y, F.testBit y = true ∧ ho y = x := fun x => by
          rw [or_test, Bool.or_eq_true, hin]
        have orr : ∀ y, (Rb ||| F).testBit y = true ↔ Rb.testBit y = true ∨ F.testBit y = true := fun y => by rw [or_test, Bool.or_eq_true]
        refine ⟨(W1 ++ (mem r F).map ho, Lb ||| bsOf ((mem r F).map ho), Rb ||| F), ⟨⟨fun x hx h => (orl x).mpr (.inl (hC.al x hx h)), fun x h => ?_, fun x h y hy => ?_, fun x h => ?_, fun x h => ?_, fun y h => ?_, fun y x h hx => ?_⟩, Nat.or_lt_two_pow hRb hFr, ?_, _, _, _, _, rfl⟩, ?_⟩
        · rcases (orl x).mp h with h | ⟨y, hy, rfl⟩
          · exact hC.lt x h
          · exact (hI.ok y _ (hho y hy)).1
        · rcases (orl x).mp h with h | ⟨y', hy', rfl⟩
          · exact hC.lc x h y hy
          · obtain ⟨z', hz', hn⟩ := hc1 y' (hFc y' hy')
            rw [hho y' hy'] at hz'
            cases hz'
            exact hn y hy
        · rcases (orl x).mp h with h | ⟨y', hy', rfl⟩
          · rcases hC.dn x h with h2 | h2
            · rcases List.mem_append.mp h2 with h2 | h2
              · exact .inl (List.mem_append_left _ h2)
              · rw [List.mem_singleton.mp h2]
                refine .inr fun y hy => (orr y).mpr ?_
                cases hRy : Rb.testBit y with
                | true => exact .inl rfl
                | false =>
                  refine .inr ?_
                  rw [hFt, hRy, show (J.getD z 0).testBit y = true from hy]
                  rfl
            · exact .inr fun y hy => (orr y).mpr (.inl (h2 y hy))
          · exact .inl (List.mem_append_right _ (List.mem_map.mpr ⟨y', (hmem y').mpr hy', rfl⟩))
        · rcases List.mem_append.mp h with h | h
          · exact (orl x).mpr (.inl (hC.wl x (List.mem_append_left _ h)))
          · obtain ⟨y, hy, rfl⟩ := List.mem_map.mp h
            exact (orl _).mpr (.inr ⟨y, (hmem y).mp hy, rfl⟩)
        · rcases (orr y).mp h with h | h
          · exact hC.rc y h
          · exact hFc y h
        · rcases (orr y).mp h with h | h
          · exact (orl x).mpr (.inl (hC.rl y x h hx))
          · refine (orl x).mpr (.inr ⟨y, h, ?_⟩)
            rw [hho y h] at hx
            exact Option.some.inj (Option.some.inj hx)
        · show 2 * unseen r (Rb ||| F) + (W1 ++ (mem r F).map ho).length ≤ 3000
          rw [List.length_append, List.length_map]
          omega
        · show 2 * unseen r (Rb ||| F) + (W1 ++ (mem r F).map ho).length < 2 * unseen r Rb + (W1 ++ [z]).length
          rw [List.length_append, List.length_map]
          omega
  simp only [mVar_ap, mC_ap, m1_ap, m2_ap, mN_ap, mCons_ap, mNil_ap, mTup_ap, mLst_ap, mT_ap, mTNot_ap, mTAnd_ap, mTOr_ap, mYes_ap, mAnd_ap, mOr_ap, mNot_ap, mIf_ap, mChain_ap, mSeq_ap, mRng1_ap, mRng2_ap, mRngV_ap, mRev_ap, mEnum_ap, mLc_ap, mLc2_ap, mSlL_ap, mSlT_ap, mPart_ap, mNoP_ap, Go_nx, Go_ct, Rt_rt, Bk_bk, runD_ap, runM_ap, runI_ap, ok_bind, ex_bind, fBl_bl, sSeq_ap, sAsg_ap, sNew_ap, sDrop_ap, sRet_ap, sRetN_ap, sIf_ap, sNext_ap, sBreak_ap, sCont_ap, sRaise_ap, sFor_ap, sWhile_ap, sPar_ap, sApp_ap, sExt_ap, sSet_ap, sDelLast_ap, sSet2_ap, sSwap_ap, iFld_ap, iFldS_ap, iSeq_ap, yH_ap, yP_ap, ybH_ap, ybP_ap, yaH_ap, y1_ap, y2_ap, yNil_ap, yCons_ap, yN_ap, yX_ap, yTup_ap, yLst_ap, yT_ap, yTNot_ap, yTAnd_ap, yTOr_ap, yIf_ap, yAnd_ap, yOr_ap, yNot_ap, yM_ap, yPop_ap, yPopAt_ap, yRng1_ap, yRng2_ap, ySeq_ap, yMeth_ap, bindT, bindTs, hide, hideF, wipeG, seqOf_lst, seqOf_tup, lstOf_lst, tupOf_tup, lstAt, getR_some, sca_int, sca_bl, sca_str, sca_non, Option.isSome_some, fLen_1, fRange1_int, fTupOf_1, fListOf_1, fII_int, fIB_int, fU_int, fRevT_1, fBits_int, fInt1_int, fIsi_tt, fIsi_tl, fIsi_ti, fIsi_ii, fIsi_bi, fIsi_ib, fIsi_bb, fIsi2_l, fIsi2_t, List.length_cons, List.length_nil, List.map_cons, List.map_nil, List.cons_append, List.nil_append, List.append_nil, List.getElem?_cons_zero, List.getElem?_cons_succ, List.set_cons_zero, List.set_cons_succ, List.contains_cons, List.contains_nil, Nat.reduceBEq, Bool.or_false, Bool.false_or, Bool.or_true, Bool.true_or, Bool.false_eq_true, if_true, if_false, ite_true, ite_false, ↓reduceIte, reduceCtorEq, Nat.reduceLeDiff, Nat.zero_add, Nat.reduceAdd, Nat.reduceLT, Nat.lt_add_one, bitAnd_nat, bitOr_nat, rep_0, rep_1, rep_2, rep_3, rep_4, rep_5, rep_6, rep_7, rep_8, rep_9, rep_10, rep_11, rep_12, rep_13, rep_14, rep_15, rep_16, rep_17, rep_18, rep_19, rep_20, rep_21, rep_22, rep_23, rep_24, rep_25, rep_26, rep_27, rep_28, rep_29, rep_30, rep_31, rep_32, rep_33, rep_34, rep_35, rep_36, rep_37, rep_38, rep_39, rep_40, and_self, and_true, true_and, decide_true, decide_false, Bool.not_true, Bool.not_false, Bool.and_true, Bool.true_and, Bool.and_false, Bool.false_and, neg_ok1, neg_ok2, Int.sub_zero, dNs_len, List.length_range, Rq_rt, runB_ap, yZip_ap, yB_ap, List.take_succ_cons, List.take_zero, List.drop_succ_cons, List.drop_zero, bring_nil, bring_cons, yLc_ap, sNewY_ap, ybYes_ap, ylcRun_nil, hJ, rng_ok hl1, rng_natC, show J.length ≤ 500000 from by omega]
  generalize hR : lcRun _ _ _ _ _ = q
  rw [lc_of hR (fun x : Nat => Da.int (x : Int)) (fun x => !Lb.testBit x) (fun x : Nat => Da.int (x : Int)) (List.range J.length) rfl fun x hx => ⟨_, rfl, by simp only [mVar_ap, mC_ap, m1_ap, m2_ap, mN_ap, mCons_ap, mNil_ap, mTup_ap, mLst_ap, mT_ap, mTNot_ap, mTAnd_ap, mTOr_ap, mYes_ap, mAnd_ap, mOr_ap, mNot_ap, mIf_ap, mChain_ap, mSeq_ap, mRng1_ap, mRng2_ap, mRngV_ap, mRev_ap, mEnum_ap, mLc_ap, mLc2_ap, mSlL_ap, mSlT_ap, mPart_ap, mNoP_ap, Go_nx, Go_ct, Rt_rt, Bk_bk, runD_ap, runM_ap, runI_ap, ok_bind, ex_bind, fBl_bl, sSeq_ap, sAsg_ap, sNew_ap, sDrop_ap, sRet_ap, sRetN_ap, sIf_ap, sNext_ap, sBreak_ap, sCont_ap, sRaise_ap, sFor_ap, sWhile_ap, sPar_ap, sApp_ap, sExt_ap, sSet_ap, sDelLast_ap, sSet2_ap, sSwap_ap, iFld_ap, iFldS_ap, iSeq_ap, yH_ap, yP_ap, ybH_ap, ybP_ap, yaH_ap, y1_ap, y2_ap, yNil_ap, yCons_ap, yN_ap, yX_ap, yTup_ap, yLst_ap, yT_ap, yTNot_ap, yTAnd_ap, yTOr_ap, yIf_ap, yAnd_ap, yOr_ap, yNot_ap, yM_ap, yPop_ap, yPopAt_ap, yRng1_ap, yRng2_ap, ySeq_ap, yMeth_ap, bindT, bindTs, hide, hideF, wipeG, seqOf_lst, seqOf_tup, lstOf_lst, tupOf_tup, lstAt, getR_some, sca_int, sca_bl, sca_str, sca_non, Option.isSome_some, fLen_1, fRange1_int, fTupOf_1, fListOf_1, fII_int, fIB_int, fU_int, fRevT_1, fBits_int, fInt1_int, fIsi_tt, fIsi_tl, fIsi_ti, fIsi_ii, fIsi_bi, fIsi_ib, fIsi_bb, fIsi2_l, fIsi2_t, List.length_cons, List.length_nil, List.map_cons, List.map_nil, List.cons_append, List.nil_append, List.append_nil, List.getElem?_cons_zero, List.getElem?_cons_succ, List.set_cons_zero, List.set_cons_succ, List.contains_cons, List.contains_nil, Nat.reduceBEq, Bool.or_false, Bool.false_or, Bool.or_true, Bool.true_or, Bool.false_eq_true, if_true, if_false, ite_true, ite_false, ↓reduceIte, reduceCtorEq, Nat.reduceLeDiff, Nat.zero_add, Nat.reduceAdd, Nat.reduceLT, Nat.lt_add_one, bitAnd_nat, bitOr_nat, rep_0, rep_1, rep_2, rep_3, rep_4, rep_5, rep_6, rep_7, rep_8, rep_9, rep_10, rep_11, rep_12, rep_13, rep_14, rep_15, rep_16, rep_17, rep_18, rep_19, rep_20, rep_21, rep_22, rep_23, rep_24, rep_25, rep_26, rep_27, rep_28, rep_29, rep_30, rep_31, rep_32, rep_33, rep_34, rep_35, rep_36, rep_37, rep_38, rep_39, rep_40, and_self, and_true, true_and, decide_true, decide_false, Bool.not_true, Bool.not_false, Bool.and_true, Bool.true_and, Bool.and_false, Bool.false_and, neg_ok1, neg_ok2, Int.sub_zero, dNs_len, List.length_range, Rq_rt, runB_ap, yZip_ap, yB_ap, List.take_succ_cons, List.take_zero, List.drop_succ_cons, List.drop_zero, bring_nil, bring_cons, yLc_ap, sNewY_ap, ybYes_ap, ylcRun_nil, m_has_ok], fun _ => by simp only [mVar_ap, mC_ap, m1_ap, m2_ap, mN_ap, mCons_ap, mNil_ap, mTup_ap, mLst_ap, mT_ap, mTNot_ap, mTAnd_ap, mTOr_ap, mYes_ap, mAnd_ap, mOr_ap, mNot_ap, mIf_ap, mChain_ap, mSeq_ap, mRng1_ap, mRng2_ap, mRngV_ap, mRev_ap, mEnum_ap, mLc_ap, mLc2_ap, mSlL_ap, mSlT_ap, mPart_ap, mNoP_ap, Go_nx, Go_ct, Rt_rt, Bk_bk, runD_ap, runM_ap, runI_ap, ok_bind, ex_bind, fBl_bl, sSeq_ap, sAsg_ap, sNew_ap, sDrop_ap, sRet_ap, sRetN_ap, sIf_ap, sNext_ap, sBreak_ap, sCont_ap, sRaise_ap, sFor_ap, sWhile_ap, sPar_ap, sApp_ap, sExt_ap, sSet_ap, sDelLast_ap, sSet2_ap, sSwap_ap, iFld_ap, iFldS_ap, iSeq_ap, yH_ap, yP_ap, ybH_ap, ybP_ap, yaH_ap, y1_ap, y2_ap, yNil_ap, yCons_ap, yN_ap, yX_ap, yTup_ap, yLst_ap, yT_ap, yTNot_ap, yTAnd_ap, yTOr_ap, yIf_ap, yAnd_ap, yOr_ap, yNot_ap, yM_ap, yPop_ap, yPopAt_ap, yRng1_ap, yRng2_ap, ySeq_ap, yMeth_ap, bindT, bindTs, hide, hideF, wipeG, seqOf_lst, seqOf_tup, lstOf_lst, tupOf_tup, lstAt, getR_some, sca_int, sca_bl, sca_str, sca_non, Option.isSome_some, fLen_1, fRange1_int, fTupOf_1, fListOf_1, fII_int, fIB_int, fU_int, fRevT_1, fBits_int, fInt1_int, fIsi_tt, fIsi_tl, fIsi_ti, fIsi_ii, fIsi_bi, fIsi_ib, fIsi_bb, fIsi2_l, fIsi2_t, List.length_cons, List.length_nil, List.map_cons, List.map_nil, List.cons_append, List.nil_append, List.append_nil, List.getElem?_cons_zero, List.getElem?_cons_succ, List.set_cons_zero, List.set_cons_succ, List.contains_cons, List.contains_nil, Nat.reduceBEq, Bool.or_false, Bool.false_or, Bool.or_true, Bool.true_or, Bool.false_eq_true, if_true, if_false, ite_true, ite_false, ↓reduceIte, reduceCtorEq, Nat.reduceLeDiff, Nat.zero_add, Nat.reduceAdd, Nat.reduceLT, Nat.lt_add_one, bitAnd_nat, bitOr_nat, rep_0, rep_1, rep_2, rep_3, rep_4, rep_5, rep_6, rep_7, rep_8, rep_9, rep_10, rep_11, rep_12, rep_13, rep_14, rep_15, rep_16, rep_17, rep_18, rep_19, rep_20, rep_21, rep_22, rep_23, rep_24, rep_25, rep_26, rep_27, rep_28, rep_29, rep_30, rep_31, rep_32, rep_33, rep_34, rep_35, rep_36, rep_37, rep_38, rep_39, rep_40, and_self, and_true, true_and, decide_true, decide_false, Bool.not_true, Bool.not_false, Bool.and_true, Bool.true_and, Bool.and_false, Bool.false_and, neg_ok1, neg_ok2, Int.sub_zero, dNs_len, List.length_range, Rq_rt, runB_ap, yZip_ap, yB_ap, List.take_succ_cons, List.take_zero, List.drop_succ_cons, List.drop_zero, bring_nil, bring_cons, yLc_ap, sNewY_ap, ybYes_ap, ylcRun_nil]⟩]
  have s1 := m_set_of_lst a ((List.range J.length).filter fun x => !Lb.testBit x) fun x hx => by
    have := List.mem_range.mp (List.mem_filter.mp hx).1
    omega
  unfold dNs at s1
  rw [bsOf_filter] at s1
  simp only [mVar_ap, mC_ap, m1_ap, m2_ap, mN_ap, mCons_ap, mNil_ap, mTup_ap, mLst_ap, mT_ap, mTNot_ap, mTAnd_ap, mTOr_ap, mYes_ap, mAnd_ap, mOr_ap, mNot_ap, mIf_ap, mChain_ap, mSeq_ap, mRng1_ap, mRng2_ap, mRngV_ap, mRev_ap, mEnum_ap, mLc_ap, mLc2_ap, mSlL_ap, mSlT_ap, mPart_ap, mNoP_ap, Go_nx, Go_ct, Rt_rt, Bk_bk, runD_ap, runM_ap, runI_ap, ok_bind, ex_bind, fBl_bl, sSeq_ap, sAsg_ap, sNew_ap, sDrop_ap, sRet_ap, sRetN_ap, sIf_ap, sNext_ap, sBreak_ap, sCont_ap, sRaise_ap, sFor_ap, sWhile_ap, sPar_ap, sApp_ap, sExt_ap, sSet_ap, sDelLast_ap, sSet2_ap, sSwap_ap, iFld_ap, iFldS_ap, iSeq_ap, yH_ap, yP_ap, ybH_ap, ybP_ap, yaH_ap, y1_ap, y2_ap, yNil_ap, yCons_ap, yN_ap, yX_ap, yTup_ap, yLst_ap, yT_ap, yTNot_ap, yTAnd_ap, yTOr_ap, yIf_ap, yAnd_ap, yOr_ap, yNot_ap, yM_ap, yPop_ap, yPopAt_ap, yRng1_ap, yRng2_ap, ySeq_ap, yMeth_ap, bindT, bindTs, hide, hideF, wipeG, seqOf_lst, seqOf_tup, lstOf_lst, tupOf_tup, lstAt, getR_some, sca_int, sca_bl, sca_str, sca_non, Option.isSome_some, fLen_1, fRange1_int, fTupOf_1, fListOf_1, fII_int, fIB_int, fU_int, fRevT_1, fBits_int, fInt1_int, fIsi_tt, fIsi_tl, fIsi_ti, fIsi_ii, fIsi_bi, fIsi_ib, fIsi_bb, fIsi2_l, fIsi2_t, List.length_cons, List.length_nil, List.map_cons, List.map_nil, List.cons_append, List.nil_append, List.append_nil, List.getElem?_cons_zero, List.getElem?_cons_succ, List.set_cons_zero, List.set_cons_succ, List.contains_cons, List.contains_nil, Nat.reduceBEq, Bool.or_false, Bool.false_or, Bool.or_true, Bool.true_or, Bool.false_eq_true, if_true, if_false, ite_true, ite_false, ↓reduceIte, reduceCtorEq, Nat.reduceLeDiff, Nat.zero_add, Nat.reduceAdd, Nat.reduceLT, Nat.lt_add_one, bitAnd_nat, bitOr_nat, rep_0, rep_1, rep_2, rep_3, rep_4, rep_5, rep_6, rep_7, rep_8, rep_9, rep_10, rep_11, rep_12, rep_13, rep_14, rep_15, rep_16, rep_17, rep_18, rep_19, rep_20, rep_21, rep_22, rep_23, rep_24, rep_25, rep_26, rep_27, rep_28, rep_29, rep_30, rep_31, rep_32, rep_33, rep_34, rep_35, rep_36, rep_37, rep_38, rep_39, rep_40, and_self, and_true, true_and, decide_true, decide_false, Bool.not_true, Bool.not_false, Bool.and_true, Bool.true_and, Bool.and_false, Bool.false_and, neg_ok1, neg_ok2, Int.sub_zero, dNs_len, List.length_range, Rq_rt, runB_ap, yZip_ap, yB_ap, List.take_succ_cons, List.take_zero, List.drop_succ_cons, List.drop_zero, bring_nil, bring_cons, yLc_ap, sNewY_ap, ybYes_ap, ylcRun_nil, s1]
  exact ⟨c, Lb, Rb, fun y hy => (let ⟨z, hz, _⟩ := hc1 y hy; ⟨z, hz⟩), hRc, hRb, rfl⟩
end
end Mi
namespace Mi
open PySem PySem.Spec PyProof.Rows L2 Fo
variable [Nm]
open Mt
theorem filter_not {l : List Nat} {p : Nat → Bool} : (l.filter p).length + (l.filter fun x => !p x).length = l.length := by
  induction l with
  | nil => rfl
  | cons x l ih =>
    rw [List.filter_cons, List.filter_cons]
    cases p x <;> simp only [Bool.not_true, Bool.not_false, Bool.false_eq_true, if_false, if_true, List.length_cons] <;> omega
def mtd (ms : Hs) (x : Nat) : Bool := (ms.getD x none).isSome
theorem mtd_none {ms : Hs} {x : Nat} (h : x < ms.length) : mtd ms x = false ↔ ms[x]? = some none := by
  unfold mtd
  rw [List.getD_eq_getElem?_getD, List.getElem?_eq_getElem h]
  cases ms[x] <;> simp
theorem mtd_some {ms : Hs} {x y : Nat} (h : ms[x]? = some (some y)) : mtd ms x = true := by
  unfold mtd
  rw [List.getD_eq_getElem?_getD, h]
  rfl
section
variable (a : Ax)
end
end Mi
namespace Mi
open PySem PySem.Spec PyProof.Rows L2 Fo
variable [Nm]
open Mt
inductive Chn (ms : Hs) : Option Nat → List Nat → Prop where
  | nil : Chn ms none []
  | cons {x : Nat} {o : Option Nat} {l : List Nat} : ms[x]? = some o → Chn ms o l → Chn ms (some x) (x :: l)
theorem Chn.one {ms : Hs} {x : Nat} {l : List Nat} (h : Chn ms (some x) l) : x ∈ l := by
  cases h
  exact List.mem_cons_self
section
variable (a : Ax)
theorem eqv_int (i j : Int) : eqD (.int i) (.int j) = decide (i = j) := by
  unfold eqD
  simp only [toP, PyData.eqv]
  rfl
end
end Mi
namespace Mi
open PySem PySem.Spec PyProof.Rows L2 Fo
variable [Nm]
open Mt
section
variable {n : Nat} {R : Rel} {hs ms : Hs} {pos : Nat → Nat}
end
end Mi
namespace Mi
open PySem PySem.Spec PyProof.Rows L2 Fo
variable [Nm]
open Mt
section
variable (a : Ax)
end
end Mi
namespace Mi
open PySem PySem.Spec PyProof.Rows L2 Fo
variable [Nm]
open Mt
section
variable (a : Ax)
end
end Mi
namespace Mi
open PySem PySem.Spec PyProof.Rows L2 Fo
variable [Nm]
def SN (st : List Da) : Prop := ∃ ms : List Nat, st = dNs ms ∧ ms.length ≤ 4000
theorem pop0_ok : ((0 : Int) ≤ 0) = True := eq_true (by decide)
theorem toNat_0 : (0 : Int).toNat = 0 := rfl
theorem SN.of {ms : List Nat} (h : ms.length ≤ 4000) : SN (ms.map fun m : Nat => Da.int (m : Int)) := ⟨ms, rfl, h⟩
section
variable (a : Ax)
theorem m_law_next_ok {st : List Da} {m : Nat} (h : SN st) (h0 : 0 < m) : ∃ (v : Nat) (st2 : List Da), m_law_next a st [.int (m : Int)] = .ok (.int (v : Int), st2) ∧ SN st2 ∧ v < m := by
  obtain ⟨ms, rfl, hl⟩ := h
  have hm : (0 : Int) < (m : Int) := by omega
  unfold m_law_next
  cases ms with
  | nil =>
    refine ⟨0, dNs [], ?_, ⟨[], rfl, by simp⟩, h0⟩
    have e1 : decide (((0 : Nat) : Int) = 0) = true := rfl
    simp only [mVar_ap, mC_ap, m1_ap, m2_ap, mN_ap, mCons_ap, mNil_ap, mTup_ap, mLst_ap, mT_ap, mTNot_ap, mTAnd_ap, mTOr_ap, mYes_ap, mAnd_ap, mOr_ap, mNot_ap, mIf_ap, mChain_ap, mSeq_ap, mRng1_ap, mRng2_ap, mRngV_ap, mRev_ap, mEnum_ap, mLc_ap, mLc2_ap, mSlL_ap, mSlT_ap, mPart_ap, mNoP_ap, Go_nx, Go_ct, Rt_rt, Bk_bk, runD_ap, runM_ap, runI_ap, ok_bind, ex_bind, fBl_bl, sSeq_ap, sAsg_ap, sNew_ap, sDrop_ap, sRet_ap, sRetN_ap, sIf_ap, sNext_ap, sBreak_ap, sCont_ap, sRaise_ap, sFor_ap, sWhile_ap, sPar_ap, sApp_ap, sExt_ap, sSet_ap, sDelLast_ap, sSet2_ap, sSwap_ap, iFld_ap, iFldS_ap, iSeq_ap, yH_ap, yP_ap, ybH_ap, ybP_ap, yaH_ap, y1_ap, y2_ap, yNil_ap, yCons_ap, yN_ap, yX_ap, yTup_ap, yLst_ap, yT_ap, yTNot_ap, yTAnd_ap, yTOr_ap, yIf_ap, yAnd_ap, yOr_ap, yNot_ap, yM_ap, yPop_ap, yPopAt_ap, yRng1_ap, yRng2_ap, ySeq_ap, yMeth_ap, bindT, bindTs, hide, hideF, wipeG, seqOf_lst, seqOf_tup, lstOf_lst, tupOf_tup, lstAt, getR_some, sca_int, sca_bl, sca_str, sca_non, Option.isSome_some, fLen_1, fRange1_int, fTupOf_1, fListOf_1, fII_int, fIB_int, fU_int, fRevT_1, fBits_int, fInt1_int, fIsi_tt, fIsi_tl, fIsi_ti, fIsi_ii, fIsi_bi, fIsi_ib, fIsi_bb, fIsi2_l, fIsi2_t, List.length_cons, List.length_nil, List.map_cons, List.map_nil, List.cons_append, List.nil_append, List.append_nil, List.getElem?_cons_zero, List.getElem?_cons_succ, List.set_cons_zero, List.set_cons_succ, List.contains_cons, List.contains_nil, Nat.reduceBEq, Bool.or_false, Bool.false_or, Bool.or_true, Bool.true_or, Bool.false_eq_true, if_true, if_false, ite_true, ite_false, ↓reduceIte, reduceCtorEq, Nat.reduceLeDiff, Nat.zero_add, Nat.reduceAdd, Nat.reduceLT, Nat.lt_add_one, bitAnd_nat, bitOr_nat, rep_0, rep_1, rep_2, rep_3, rep_4, rep_5, rep_6, rep_7, rep_8, rep_9, rep_10, rep_11, rep_12, rep_13, rep_14, rep_15, rep_16, rep_17, rep_18, rep_19, rep_20, rep_21, rep_22, rep_23, rep_24, rep_25, rep_26, rep_27, rep_28, rep_29, rep_30, rep_31, rep_32, rep_33, rep_34, rep_35, rep_36, rep_37, rep_38, rep_39, rep_40, and_self, and_true, true_and, decide_true, decide_false, Bool.not_true, Bool.not_false, Bool.and_true, Bool.true_and, Bool.and_false, Bool.false_and, neg_ok1, neg_ok2, Int.sub_zero, dNs_len, List.length_range, Rq_rt, runB_ap, yZip_ap, yB_ap, List.take_succ_cons, List.take_zero, List.drop_succ_cons, List.drop_zero, bring_nil, bring_cons, yLc_ap, sNewY_ap, ybYes_ap, ylcRun_nil, dNs_nil, eqS_int, e1]
    rfl
  | cons k ms =>
    refine ⟨k % m, dNs ms, ?_, ⟨ms, rfl, by rw [List.length_cons] at hl; omega⟩, Nat.mod_lt _ h0⟩
    have e1 : dNs (k :: ms) = .int (k : Int) :: dNs ms := rfl
    have e2 : decide (((ms.length + 1 : Nat) : Int) = 0) = false := decide_eq_false (by omega)
    simp only [mVar_ap, mC_ap, m1_ap, m2_ap, mN_ap, mCons_ap, mNil_ap, mTup_ap, mLst_ap, mT_ap, mTNot_ap, mTAnd_ap, mTOr_ap, mYes_ap, mAnd_ap, mOr_ap, mNot_ap, mIf_ap, mChain_ap, mSeq_ap, mRng1_ap, mRng2_ap, mRngV_ap, mRev_ap, mEnum_ap, mLc_ap, mLc2_ap, mSlL_ap, mSlT_ap, mPart_ap, mNoP_ap, Go_nx, Go_ct, Rt_rt, Bk_bk, runD_ap, runM_ap, runI_ap, ok_bind, ex_bind, fBl_bl, sSeq_ap, sAsg_ap, sNew_ap, sDrop_ap, sRet_ap, sRetN_ap, sIf_ap, sNext_ap, sBreak_ap, sCont_ap, sRaise_ap, sFor_ap, sWhile_ap, sPar_ap, sApp_ap, sExt_ap, sSet_ap, sDelLast_ap, sSet2_ap, sSwap_ap, iFld_ap, iFldS_ap, iSeq_ap, yH_ap, yP_ap, ybH_ap, ybP_ap, yaH_ap, y1_ap, y2_ap, yNil_ap, yCons_ap, yN_ap, yX_ap, yTup_ap, yLst_ap, yT_ap, yTNot_ap, yTAnd_ap, yTOr_ap, yIf_ap, yAnd_ap, yOr_ap, yNot_ap, yM_ap, yPop_ap, yPopAt_ap, yRng1_ap, yRng2_ap, ySeq_ap, yMeth_ap, bindT, bindTs, hide, hideF, wipeG, seqOf_lst, seqOf_tup, lstOf_lst, tupOf_tup, lstAt, getR_some, sca_int, sca_bl, sca_str, sca_non, Option.isSome_some, fLen_1, fRange1_int, fTupOf_1, fListOf_1, fII_int, fIB_int, fU_int, fRevT_1, fBits_int, fInt1_int, fIsi_tt, fIsi_tl, fIsi_ti, fIsi_ii, fIsi_bi, fIsi_ib, fIsi_bb, fIsi2_l, fIsi2_t, List.length_cons, List.length_nil, List.map_cons, List.map_nil, List.cons_append, List.nil_append, List.append_nil, List.getElem?_cons_zero, List.getElem?_cons_succ, List.set_cons_zero, List.set_cons_succ, List.contains_cons, List.contains_nil, Nat.reduceBEq, Bool.or_false, Bool.false_or, Bool.or_true, Bool.true_or, Bool.false_eq_true, if_true, if_false, ite_true, ite_false, ↓reduceIte, reduceCtorEq, Nat.reduceLeDiff, Nat.zero_add, Nat.reduceAdd, Nat.reduceLT, Nat.lt_add_one, bitAnd_nat, bitOr_nat, rep_0, rep_1, rep_2, rep_3, rep_4, rep_5, rep_6, rep_7, rep_8, rep_9, rep_10, rep_11, rep_12, rep_13, rep_14, rep_15, rep_16, rep_17, rep_18, rep_19, rep_20, rep_21, rep_22, rep_23, rep_24, rep_25, rep_26, rep_27, rep_28, rep_29, rep_30, rep_31, rep_32, rep_33, rep_34, rep_35, rep_36, rep_37, rep_38, rep_39, rep_40, and_self, and_true, true_and, decide_true, decide_false, Bool.not_true, Bool.not_false, Bool.and_true, Bool.true_and, Bool.and_false, Bool.false_and, neg_ok1, neg_ok2, Int.sub_zero, dNs_len, List.length_range, Rq_rt, runB_ap, yZip_ap, yB_ap, List.take_succ_cons, List.take_zero, List.drop_succ_cons, List.drop_zero, bring_nil, bring_cons, yLc_ap, sNewY_ap, ybYes_ap, ylcRun_nil, e1, eqS_int, e2, pop0_ok, toNat_0, mod_ok hm, List.eraseIdx_cons_zero]
    rfl
end
end Mi
namespace Mi
open PySem PySem.Spec PyProof.Rows L2 Fo
variable [Nm]
theorem dNs_flat (l : List Nat) : (dNs l).all flatD = true := by
  unfold dNs
  rw [List.all_map, List.all_eq_true]
  intro _ _
  rfl
theorem dNs_any (l : List Nat) (x : Nat) : (dNs l).any (fun z => eqD z (.int (x : Int))) = l.contains x := by
  unfold dNs
  rw [List.any_map, Bool.eq_iff_iff, List.any_eq_true, List.contains_iff_mem]
  constructor
  · rintro ⟨y, hy, h⟩
    have h : eqD (.int (y : Int)) (.int (x : Int)) = true := h
    rw [eqv_int, decide_eq_true_iff] at h
    have : y = x := by omega
    exact this ▸ hy
  · intro h
    refine ⟨x, h, ?_⟩
    show eqD (.int (x : Int)) (.int (x : Int)) = true
    rw [eqv_int, decide_eq_true rfl]
theorem in_nat {y : Da} {l : List Nat} (hy : seqOf y = .ok (dNs l)) (x : Nat) : fIn false (.int (x : Int)) y = .ok (.bl (l.contains x)) := by
  unfold fIn
  rw [hy, ok_bind, dNs_flat, dNs_any]
  rfl
end Mi
namespace Mi
open PySem PySem.Spec PyProof.Rows L2 Fo
variable [Nm]
open Mt
theorem inj_len2 {n m : Nat} {p q : Nat → Bool} (g : Nat → Nat) (hg : ∀ x, x < n → p x = true → g x < m ∧ q (g x) = true) (inj : ∀ x y, x < n → y < n → p x = true → p y = true → g x = g y → x = y) : ((List.range n).filter p).length ≤ ((List.range m).filter q).length := by
  have nd : (((List.range n).filter p).map g).Nodup := by
    rw [List.Nodup, List.pairwise_map]
    refine (List.nodup_range.filter p).imp_of_mem fun {x y} hx hy hne e => hne ?_
    obtain ⟨a1, a2⟩ := List.mem_filter.mp hx
    obtain ⟨b1, b2⟩ := List.mem_filter.mp hy
    exact inj x y (List.mem_range.mp a1) (List.mem_range.mp b1) a2 b2 e
  have hm : ∀ z ∈ ((List.range n).filter p).map g, z < m ∧ q z = true := fun z hz => by
    obtain ⟨x, hx, rfl⟩ := List.mem_map.mp hz
    obtain ⟨a1, a2⟩ := List.mem_filter.mp hx
    exact hg x (List.mem_range.mp a1) a2
  have e1 := range_pick nd (fun y hy => (hm y hy).1) (p := fun y => decide (y ∈ ((List.range n).filter p).map g)) fun y => decide_eq_true_iff
  rw [List.length_map] at e1
  rw [← e1]
  exact filter_le _ fun x _ h => (hm x (of_decide_eq_true h)).2
def mv (ks : Hs) (i : Nat) : Nat := (ks.getD i none).getD 0
def mIdx (ks : Hs) : List Nat := (List.range ks.length).filter (mtd ks)
theorem mv_some {ks : Hs} {x y : Nat} (h : ks[x]? = some (some y)) : mv ks x = y := by
  unfold mv
  rw [List.getD_eq_getElem?_getD, h]
  rfl
theorem mtd_iff {ks : Hs} {x : Nat} : mtd ks x = true ↔ ks[x]? = some (some (mv ks x)) := by
  unfold mtd mv
  rw [List.getD_eq_getElem?_getD]
  cases h : ks[x]? with
  | none => simp
  | some o => cases o <;> simp
theorem mtd_lt {ks : Hs} {x : Nat} (h : mtd ks x = true) : x < ks.length := (List.getElem?_eq_some_iff.mp (mtd_iff.mp h)).1
theorem mtd_no {ks : Hs} {x : Nat} (hx : x < ks.length) (h : mtd ks x = false) : ks[x]? = some none := (mtd_none hx).mp h
theorem idx_range (ks : Hs) : (ks.mapIdx fun i o => (i, o)) = (List.range ks.length).map fun i => (i, ks.getD i none) := by
  apply List.ext_getElem?
  intro i
  rw [List.getElem?_mapIdx, List.getElem?_map]
  by_cases h : i < ks.length
  · rw [List.getElem?_range h]
    show Option.map (fun o => (i, o)) ks[i]? = some (i, ks.getD i none)
    rw [List.getD_eq_getElem?_getD, List.getElem?_eq_getElem h]
    rfl
  · rw [List.getElem?_eq_none (by omega), List.getElem?_eq_none (by rw [List.length_range]; omega)]
    rfl
def isMB (J : List Nat) (ks : Hs) : Bool := (mIdx ks).all (fun i => (J.getD i 0).testBit (mv ks i)) && decide ((mem 1000 (bsOf ((mIdx ks).map (mv ks)))).length = (mIdx ks).length)
theorem neg1 : (-1 : Int) ≤ -1 := by decide
theorem hI_ge (o : Option Nat) : decide (-1 ≤ hI o) = true := decide_eq_true (by cases o with
  | none => exact neg1
  | some x => show (-1 : Int) ≤ (x : Int); omega)
theorem mem_distinct {n : Nat} {l : List Nat} (nd : l.Nodup) (hl : ∀ y ∈ l, y < n) : (mem n (bsOf l)).length = l.length := by
  unfold mem
  exact range_pick nd hl fun y => by rw [bsOf_test, List.contains_iff_mem]
section
variable (a : Ax)
theorem m_count_ok {n b : Nat} (h : b < 2 ^ n) (hn : n ≤ 100000) : m_count a [.int (b : Int)] = .ok (.int ((mem n b).length : Nat)) := by
  unfold m_count
  simp only [mVar_ap, mC_ap, m1_ap, m2_ap, mN_ap, mCons_ap, mNil_ap, mTup_ap, mLst_ap, mT_ap, mTNot_ap, mTAnd_ap, mTOr_ap, mYes_ap, mAnd_ap, mOr_ap, mNot_ap, mIf_ap, mChain_ap, mSeq_ap, mRng1_ap, mRng2_ap, mRngV_ap, mRev_ap, mEnum_ap, mLc_ap, mLc2_ap, mSlL_ap, mSlT_ap, mPart_ap, mNoP_ap, Go_nx, Go_ct, Rt_rt, Bk_bk, runD_ap, runM_ap, runI_ap, ok_bind, ex_bind, fBl_bl, sSeq_ap, sAsg_ap, sNew_ap, sDrop_ap, sRet_ap, sRetN_ap, sIf_ap, sNext_ap, sBreak_ap, sCont_ap, sRaise_ap, sFor_ap, sWhile_ap, sPar_ap, sApp_ap, sExt_ap, sSet_ap, sDelLast_ap, sSet2_ap, sSwap_ap, iFld_ap, iFldS_ap, iSeq_ap, yH_ap, yP_ap, ybH_ap, ybP_ap, yaH_ap, y1_ap, y2_ap, yNil_ap, yCons_ap, yN_ap, yX_ap, yTup_ap, yLst_ap, yT_ap, yTNot_ap, yTAnd_ap, yTOr_ap, yIf_ap, yAnd_ap, yOr_ap, yNot_ap, yM_ap, yPop_ap, yPopAt_ap, yRng1_ap, yRng2_ap, ySeq_ap, yMeth_ap, bindT, bindTs, hide, hideF, wipeG, seqOf_lst, seqOf_tup, lstOf_lst, tupOf_tup, lstAt, getR_some, sca_int, sca_bl, sca_str, sca_non, Option.isSome_some, fLen_1, fRange1_int, fTupOf_1, fListOf_1, fII_int, fIB_int, fU_int, fRevT_1, fBits_int, fInt1_int, fIsi_tt, fIsi_tl, fIsi_ti, fIsi_ii, fIsi_bi, fIsi_ib, fIsi_bb, fIsi2_l, fIsi2_t, List.length_cons, List.length_nil, List.map_cons, List.map_nil, List.cons_append, List.nil_append, List.append_nil, List.getElem?_cons_zero, List.getElem?_cons_succ, List.set_cons_zero, List.set_cons_succ, List.contains_cons, List.contains_nil, Nat.reduceBEq, Bool.or_false, Bool.false_or, Bool.or_true, Bool.true_or, Bool.false_eq_true, if_true, if_false, ite_true, ite_false, ↓reduceIte, reduceCtorEq, Nat.reduceLeDiff, Nat.zero_add, Nat.reduceAdd, Nat.reduceLT, Nat.lt_add_one, bitAnd_nat, bitOr_nat, rep_0, rep_1, rep_2, rep_3, rep_4, rep_5, rep_6, rep_7, rep_8, rep_9, rep_10, rep_11, rep_12, rep_13, rep_14, rep_15, rep_16, rep_17, rep_18, rep_19, rep_20, rep_21, rep_22, rep_23, rep_24, rep_25, rep_26, rep_27, rep_28, rep_29, rep_30, rep_31, rep_32, rep_33, rep_34, rep_35, rep_36, rep_37, rep_38, rep_39, rep_40, and_self, and_true, true_and, decide_true, decide_false, Bool.not_true, Bool.not_false, Bool.and_true, Bool.true_and, Bool.and_false, Bool.false_and, neg_ok1, neg_ok2, Int.sub_zero, dNs_len, List.length_range, Rq_rt, runB_ap, yZip_ap, yB_ap, List.take_succ_cons, List.take_zero, List.drop_succ_cons, List.drop_zero, bring_nil, bring_cons, yLc_ap, sNewY_ap, ybYes_ap, ylcRun_nil, m_members_ok a h hn]
theorem m_is_matching_len {J : List Nat} {ks : Hs} {dJ : Da} (hJ : seqOf dJ = .ok (dNs J)) (h : ks.length ≠ J.length) : m_is_matching a [dJ, .tup (dH ks)] = .ok (.bl false) := by
  unfold m_is_matching
  simp only [mVar_ap, mC_ap, m1_ap, m2_ap, mN_ap, mCons_ap, mNil_ap, mTup_ap, mLst_ap, mT_ap, mTNot_ap, mTAnd_ap, mTOr_ap, mYes_ap, mAnd_ap, mOr_ap, mNot_ap, mIf_ap, mChain_ap, mSeq_ap, mRng1_ap, mRng2_ap, mRngV_ap, mRev_ap, mEnum_ap, mLc_ap, mLc2_ap, mSlL_ap, mSlT_ap, mPart_ap, mNoP_ap, Go_nx, Go_ct, Rt_rt, Bk_bk, runD_ap, runM_ap, runI_ap, ok_bind, ex_bind, fBl_bl, sSeq_ap, sAsg_ap, sNew_ap, sDrop_ap, sRet_ap, sRetN_ap, sIf_ap, sNext_ap, sBreak_ap, sCont_ap, sRaise_ap, sFor_ap, sWhile_ap, sPar_ap, sApp_ap, sExt_ap, sSet_ap, sDelLast_ap, sSet2_ap, sSwap_ap, iFld_ap, iFldS_ap, iSeq_ap, yH_ap, yP_ap, ybH_ap, ybP_ap, yaH_ap, y1_ap, y2_ap, yNil_ap, yCons_ap, yN_ap, yX_ap, yTup_ap, yLst_ap, yT_ap, yTNot_ap, yTAnd_ap, yTOr_ap, yIf_ap, yAnd_ap, yOr_ap, yNot_ap, yM_ap, yPop_ap, yPopAt_ap, yRng1_ap, yRng2_ap, ySeq_ap, yMeth_ap, bindT, bindTs, hide, hideF, wipeG, seqOf_lst, seqOf_tup, lstOf_lst, tupOf_tup, lstAt, getR_some, sca_int, sca_bl, sca_str, sca_non, Option.isSome_some, fLen_1, fRange1_int, fTupOf_1, fListOf_1, fII_int, fIB_int, fU_int, fRevT_1, fBits_int, fInt1_int, fIsi_tt, fIsi_tl, fIsi_ti, fIsi_ii, fIsi_bi, fIsi_ib, fIsi_bb, fIsi2_l, fIsi2_t, List.length_cons, List.length_nil, List.map_cons, List.map_nil, List.cons_append, List.nil_append, List.append_nil, List.getElem?_cons_zero, List.getElem?_cons_succ, List.set_cons_zero, List.set_cons_succ, List.contains_cons, List.contains_nil, Nat.reduceBEq, Bool.or_false, Bool.false_or, Bool.or_true, Bool.true_or, Bool.false_eq_true, if_true, if_false, ite_true, ite_false, ↓reduceIte, reduceCtorEq, Nat.reduceLeDiff, Nat.zero_add, Nat.reduceAdd, Nat.reduceLT, Nat.lt_add_one, bitAnd_nat, bitOr_nat, rep_0, rep_1, rep_2, rep_3, rep_4, rep_5, rep_6, rep_7, rep_8, rep_9, rep_10, rep_11, rep_12, rep_13, rep_14, rep_15, rep_16, rep_17, rep_18, rep_19, rep_20, rep_21, rep_22, rep_23, rep_24, rep_25, rep_26, rep_27, rep_28, rep_29, rep_30, rep_31, rep_32, rep_33, rep_34, rep_35, rep_36, rep_37, rep_38, rep_39, rep_40, and_self, and_true, true_and, decide_true, decide_false, Bool.not_true, Bool.not_false, Bool.and_true, Bool.true_and, Bool.and_false, Bool.false_and, neg_ok1, neg_ok2, Int.sub_zero, dNs_len, List.length_range, Rq_rt, runB_ap, yZip_ap, yB_ap, List.take_succ_cons, List.take_zero, List.drop_succ_cons, List.drop_zero, bring_nil, bring_cons, yLc_ap, sNewY_ap, ybYes_ap, ylcRun_nil, hJ, dH_len, neS_nat, decide_eq_false h]
theorem m_is_matching_ok {J : List Nat} {ks : Hs} {dJ : Da} (hJ : seqOf dJ = .ok (dNs J)) (h : ks.length = J.length) (hl : ks.length ≤ 1000) (hk : ∀ x y : Nat, ks[x]? = some (some y) → y < 1000) : m_is_matching a [dJ, .tup (dH ks)] = .ok (.bl (isMB J ks)) := by
  unfold m_is_matching
  simp only [mVar_ap, mC_ap, m1_ap, m2_ap, mN_ap, mCons_ap, mNil_ap, mTup_ap, mLst_ap, mT_ap, mTNot_ap, mTAnd_ap, mTOr_ap, mYes_ap, mAnd_ap, mOr_ap, mNot_ap, mIf_ap, mChain_ap, mSeq_ap, mRng1_ap, mRng2_ap, mRngV_ap, mRev_ap, mEnum_ap, mLc_ap, mLc2_ap, mSlL_ap, mSlT_ap, mPart_ap, mNoP_ap, Go_nx, Go_ct, Rt_rt, Bk_bk, runD_ap, runM_ap, runI_ap, ok_bind, ex_bind, fBl_bl, sSeq_ap, sAsg_ap, sNew_ap, sDrop_ap, sRet_ap, sRetN_ap, sIf_ap, sNext_ap, sBreak_ap, sCont_ap, sRaise_ap, sFor_ap, sWhile_ap, sPar_ap, sApp_ap, sExt_ap, sSet_ap, sDelLast_ap, sSet2_ap, sSwap_ap, iFld_ap, iFldS_ap, iSeq_ap, yH_ap, yP_ap, ybH_ap, ybP_ap, yaH_ap, y1_ap, y2_ap, yNil_ap, yCons_ap, yN_ap, yX_ap, yTup_ap, yLst_ap, yT_ap, yTNot_ap, yTAnd_ap, yTOr_ap, yIf_ap, yAnd_ap, yOr_ap, yNot_ap, yM_ap, yPop_ap, yPopAt_ap, yRng1_ap, yRng2_ap, ySeq_ap, yMeth_ap, bindT, bindTs, hide, hideF, wipeG, seqOf_lst, seqOf_tup, lstOf_lst, tupOf_tup, lstAt, getR_some, sca_int, sca_bl, sca_str, sca_non, Option.isSome_some, fLen_1, fRange1_int, fTupOf_1, fListOf_1, fII_int, fIB_int, fU_int, fRevT_1, fBits_int, fInt1_int, fIsi_tt, fIsi_tl, fIsi_ti, fIsi_ii, fIsi_bi, fIsi_ib, fIsi_bb, fIsi2_l, fIsi2_t, List.length_cons, List.length_nil, List.map_cons, List.map_nil, List.cons_append, List.nil_append, List.append_nil, List.getElem?_cons_zero, List.getElem?_cons_succ, List.set_cons_zero, List.set_cons_succ, List.contains_cons, List.contains_nil, Nat.reduceBEq, Bool.or_false, Bool.false_or, Bool.or_true, Bool.true_or, Bool.false_eq_true, if_true, if_false, ite_true, ite_false, ↓reduceIte, reduceCtorEq, Nat.reduceLeDiff, Nat.zero_add, Nat.reduceAdd, Nat.reduceLT, Nat.lt_add_one, bitAnd_nat, bitOr_nat, rep_0, rep_1, rep_2, rep_3, rep_4, rep_5, rep_6, rep_7, rep_8, rep_9, rep_10, rep_11, rep_12, rep_13, rep_14, rep_15, rep_16, rep_17, rep_18, rep_19, rep_20, rep_21, rep_22, rep_23, rep_24, rep_25, rep_26, rep_27, rep_28, rep_29, rep_30, rep_31, rep_32, rep_33, rep_34, rep_35, rep_36, rep_37, rep_38, rep_39, rep_40, and_self, and_true, true_and, decide_true, decide_false, Bool.not_true, Bool.not_false, Bool.and_true, Bool.true_and, Bool.and_false, Bool.false_and, neg_ok1, neg_ok2, Int.sub_zero, dNs_len, List.length_range, Rq_rt, runB_ap, yZip_ap, yB_ap, List.take_succ_cons, List.take_zero, List.drop_succ_cons, List.drop_zero, bring_nil, bring_cons, yLc_ap, sNewY_ap, ybYes_ap, ylcRun_nil, hJ, dH_len, neS_nat, decide_eq_true h, show ks.length ≤ 500000 from by omega]
  generalize hR : lcRun _ _ _ _ _ = r
  rw [lcy_of hR (fun o => Da.int (hI o)) (fun _ => Da.bl true) ks rfl fun o _ => ⟨_, rfl, by simp only [mVar_ap, mC_ap, m1_ap, m2_ap, mN_ap, mCons_ap, mNil_ap, mTup_ap, mLst_ap, mT_ap, mTNot_ap, mTAnd_ap, mTOr_ap, mYes_ap, mAnd_ap, mOr_ap, mNot_ap, mIf_ap, mChain_ap, mSeq_ap, mRng1_ap, mRng2_ap, mRngV_ap, mRev_ap, mEnum_ap, mLc_ap, mLc2_ap, mSlL_ap, mSlT_ap, mPart_ap, mNoP_ap, Go_nx, Go_ct, Rt_rt, Bk_bk, runD_ap, runM_ap, runI_ap, ok_bind, ex_bind, fBl_bl, sSeq_ap, sAsg_ap, sNew_ap, sDrop_ap, sRet_ap, sRetN_ap, sIf_ap, sNext_ap, sBreak_ap, sCont_ap, sRaise_ap, sFor_ap, sWhile_ap, sPar_ap, sApp_ap, sExt_ap, sSet_ap, sDelLast_ap, sSet2_ap, sSwap_ap, iFld_ap, iFldS_ap, iSeq_ap, yH_ap, yP_ap, ybH_ap, ybP_ap, yaH_ap, y1_ap, y2_ap, yNil_ap, yCons_ap, yN_ap, yX_ap, yTup_ap, yLst_ap, yT_ap, yTNot_ap, yTAnd_ap, yTOr_ap, yIf_ap, yAnd_ap, yOr_ap, yNot_ap, yM_ap, yPop_ap, yPopAt_ap, yRng1_ap, yRng2_ap, ySeq_ap, yMeth_ap, bindT, bindTs, hide, hideF, wipeG, seqOf_lst, seqOf_tup, lstOf_lst, tupOf_tup, lstAt, getR_some, sca_int, sca_bl, sca_str, sca_non, Option.isSome_some, fLen_1, fRange1_int, fTupOf_1, fListOf_1, fII_int, fIB_int, fU_int, fRevT_1, fBits_int, fInt1_int, fIsi_tt, fIsi_tl, fIsi_ti, fIsi_ii, fIsi_bi, fIsi_ib, fIsi_bb, fIsi2_l, fIsi2_t, List.length_cons, List.length_nil, List.map_cons, List.map_nil, List.cons_append, List.nil_append, List.append_nil, List.getElem?_cons_zero, List.getElem?_cons_succ, List.set_cons_zero, List.set_cons_succ, List.contains_cons, List.contains_nil, Nat.reduceBEq, Bool.or_false, Bool.false_or, Bool.or_true, Bool.true_or, Bool.false_eq_true, if_true, if_false, ite_true, ite_false, ↓reduceIte, reduceCtorEq, Nat.reduceLeDiff, Nat.zero_add, Nat.reduceAdd, Nat.reduceLT, Nat.lt_add_one, bitAnd_nat, bitOr_nat, rep_0, rep_1, rep_2, rep_3, rep_4, rep_5, rep_6, rep_7, rep_8, rep_9, rep_10, rep_11, rep_12, rep_13, rep_14, rep_15, rep_16, rep_17, rep_18, rep_19, rep_20, rep_21, rep_22, rep_23, rep_24, rep_25, rep_26, rep_27, rep_28, rep_29, rep_30, rep_31, rep_32, rep_33, rep_34, rep_35, rep_36, rep_37, rep_38, rep_39, rep_40, and_self, and_true, true_and, decide_true, decide_false, Bool.not_true, Bool.not_false, Bool.and_true, Bool.true_and, Bool.and_false, Bool.false_and, neg_ok1, neg_ok2, Int.sub_zero, dNs_len, List.length_range, Rq_rt, runB_ap, yZip_ap, yB_ap, List.take_succ_cons, List.take_zero, List.drop_succ_cons, List.drop_zero, bring_nil, bring_cons, yLc_ap, sNewY_ap, ybYes_ap, ylcRun_nil, m_is_integer_int, hI_ge]⟩]
  clear hR
  simp only [mVar_ap, mC_ap, m1_ap, m2_ap, mN_ap, mCons_ap, mNil_ap, mTup_ap, mLst_ap, mT_ap, mTNot_ap, mTAnd_ap, mTOr_ap, mYes_ap, mAnd_ap, mOr_ap, mNot_ap, mIf_ap, mChain_ap, mSeq_ap, mRng1_ap, mRng2_ap, mRngV_ap, mRev_ap, mEnum_ap, mLc_ap, mLc2_ap, mSlL_ap, mSlT_ap, mPart_ap, mNoP_ap, Go_nx, Go_ct, Rt_rt, Bk_bk, runD_ap, runM_ap, runI_ap, ok_bind, ex_bind, fBl_bl, sSeq_ap, sAsg_ap, sNew_ap, sDrop_ap, sRet_ap, sRetN_ap, sIf_ap, sNext_ap, sBreak_ap, sCont_ap, sRaise_ap, sFor_ap, sWhile_ap, sPar_ap, sApp_ap, sExt_ap, sSet_ap, sDelLast_ap, sSet2_ap, sSwap_ap, iFld_ap, iFldS_ap, iSeq_ap, yH_ap, yP_ap, ybH_ap, ybP_ap, yaH_ap, y1_ap, y2_ap, yNil_ap, yCons_ap, yN_ap, yX_ap, yTup_ap, yLst_ap, yT_ap, yTNot_ap, yTAnd_ap, yTOr_ap, yIf_ap, yAnd_ap, yOr_ap, yNot_ap, yM_ap, yPop_ap, yPopAt_ap, yRng1_ap, yRng2_ap, ySeq_ap, yMeth_ap, bindT, bindTs, hide, hideF, wipeG, seqOf_lst, seqOf_tup, lstOf_lst, tupOf_tup, lstAt, getR_some, sca_int, sca_bl, sca_str, sca_non, Option.isSome_some, fLen_1, fRange1_int, fTupOf_1, fListOf_1, fII_int, fIB_int, fU_int, fRevT_1, fBits_int, fInt1_int, fIsi_tt, fIsi_tl, fIsi_ti, fIsi_ii, fIsi_bi, fIsi_ib, fIsi_bb, fIsi2_l, fIsi2_t, List.length_cons, List.length_nil, List.map_cons, List.map_nil, List.cons_append, List.nil_append, List.append_nil, List.getElem?_cons_zero, List.getElem?_cons_succ, List.set_cons_zero, List.set_cons_succ, List.contains_cons, List.contains_nil, Nat.reduceBEq, Bool.or_false, Bool.false_or, Bool.or_true, Bool.true_or, Bool.false_eq_true, if_true, if_false, ite_true, ite_false, ↓reduceIte, reduceCtorEq, Nat.reduceLeDiff, Nat.zero_add, Nat.reduceAdd, Nat.reduceLT, Nat.lt_add_one, bitAnd_nat, bitOr_nat, rep_0, rep_1, rep_2, rep_3, rep_4, rep_5, rep_6, rep_7, rep_8, rep_9, rep_10, rep_11, rep_12, rep_13, rep_14, rep_15, rep_16, rep_17, rep_18, rep_19, rep_20, rep_21, rep_22, rep_23, rep_24, rep_25, rep_26, rep_27, rep_28, rep_29, rep_30, rep_31, rep_32, rep_33, rep_34, rep_35, rep_36, rep_37, rep_38, rep_39, rep_40, and_self, and_true, true_and, decide_true, decide_false, Bool.not_true, Bool.not_false, Bool.and_true, Bool.true_and, Bool.and_false, Bool.false_and, neg_ok1, neg_ok2, Int.sub_zero, dNs_len, List.length_range, Rq_rt, runB_ap, yZip_ap, yB_ap, List.take_succ_cons, List.take_zero, List.drop_succ_cons, List.drop_zero, bring_nil, bring_cons, yLc_ap, sNewY_ap, ybYes_ap, ylcRun_nil, fAll_map (fun _ : Option Nat => true) ks]
  rw [List.all_eq_true.mpr fun _ _ => rfl]
  have hi : ((dH ks).mapIdx fun i d => Da.tup [.int (i : Int), d]) = (List.range ks.length).map fun i => prI (i, ks.getD i none) := by
    rw [dH_idx, idx_range, List.map_map]
    rfl
  simp only [mVar_ap, mC_ap, m1_ap, m2_ap, mN_ap, mCons_ap, mNil_ap, mTup_ap, mLst_ap, mT_ap, mTNot_ap, mTAnd_ap, mTOr_ap, mYes_ap, mAnd_ap, mOr_ap, mNot_ap, mIf_ap, mChain_ap, mSeq_ap, mRng1_ap, mRng2_ap, mRngV_ap, mRev_ap, mEnum_ap, mLc_ap, mLc2_ap, mSlL_ap, mSlT_ap, mPart_ap, mNoP_ap, Go_nx, Go_ct, Rt_rt, Bk_bk, runD_ap, runM_ap, runI_ap, ok_bind, ex_bind, fBl_bl, sSeq_ap, sAsg_ap, sNew_ap, sDrop_ap, sRet_ap, sRetN_ap, sIf_ap, sNext_ap, sBreak_ap, sCont_ap, sRaise_ap, sFor_ap, sWhile_ap, sPar_ap, sApp_ap, sExt_ap, sSet_ap, sDelLast_ap, sSet2_ap, sSwap_ap, iFld_ap, iFldS_ap, iSeq_ap, yH_ap, yP_ap, ybH_ap, ybP_ap, yaH_ap, y1_ap, y2_ap, yNil_ap, yCons_ap, yN_ap, yX_ap, yTup_ap, yLst_ap, yT_ap, yTNot_ap, yTAnd_ap, yTOr_ap, yIf_ap, yAnd_ap, yOr_ap, yNot_ap, yM_ap, yPop_ap, yPopAt_ap, yRng1_ap, yRng2_ap, ySeq_ap, yMeth_ap, bindT, bindTs, hide, hideF, wipeG, seqOf_lst, seqOf_tup, lstOf_lst, tupOf_tup, lstAt, getR_some, sca_int, sca_bl, sca_str, sca_non, Option.isSome_some, fLen_1, fRange1_int, fTupOf_1, fListOf_1, fII_int, fIB_int, fU_int, fRevT_1, fBits_int, fInt1_int, fIsi_tt, fIsi_tl, fIsi_ti, fIsi_ii, fIsi_bi, fIsi_ib, fIsi_bb, fIsi2_l, fIsi2_t, List.length_cons, List.length_nil, List.map_cons, List.map_nil, List.cons_append, List.nil_append, List.append_nil, List.getElem?_cons_zero, List.getElem?_cons_succ, List.set_cons_zero, List.set_cons_succ, List.contains_cons, List.contains_nil, Nat.reduceBEq, Bool.or_false, Bool.false_or, Bool.or_true, Bool.true_or, Bool.false_eq_true, if_true, if_false, ite_true, ite_false, ↓reduceIte, reduceCtorEq, Nat.reduceLeDiff, Nat.zero_add, Nat.reduceAdd, Nat.reduceLT, Nat.lt_add_one, bitAnd_nat, bitOr_nat, rep_0, rep_1, rep_2, rep_3, rep_4, rep_5, rep_6, rep_7, rep_8, rep_9, rep_10, rep_11, rep_12, rep_13, rep_14, rep_15, rep_16, rep_17, rep_18, rep_19, rep_20, rep_21, rep_22, rep_23, rep_24, rep_25, rep_26, rep_27, rep_28, rep_29, rep_30, rep_31, rep_32, rep_33, rep_34, rep_35, rep_36, rep_37, rep_38, rep_39, rep_40, and_self, and_true, true_and, decide_true, decide_false, Bool.not_true, Bool.not_false, Bool.and_true, Bool.true_and, Bool.and_false, Bool.false_and, neg_ok1, neg_ok2, Int.sub_zero, dNs_len, List.length_range, Rq_rt, runB_ap, yZip_ap, yB_ap, List.take_succ_cons, List.take_zero, List.drop_succ_cons, List.drop_zero, bring_nil, bring_cons, yLc_ap, sNewY_ap, ybYes_ap, ylcRun_nil, mEnumA_ap, hi, List.length_map, List.length_range, show ks.length ≤ 500000 from by omega]
  generalize hR : lcRun _ _ _ _ _ = r
  rw [lc_of hR (fun i => prI (i, ks.getD i none)) (mtd ks) (fun i => dP (i, mv ks i)) (List.range ks.length) rfl fun i hi => by
    refine ⟨_, rfl, ?_, fun hm => ?_⟩
    · simp only [mVar_ap, mC_ap, m1_ap, m2_ap, mN_ap, mCons_ap, mNil_ap, mTup_ap, mLst_ap, mT_ap, mTNot_ap, mTAnd_ap, mTOr_ap, mYes_ap, mAnd_ap, mOr_ap, mNot_ap, mIf_ap, mChain_ap, mSeq_ap, mRng1_ap, mRng2_ap, mRngV_ap, mRev_ap, mEnum_ap, mLc_ap, mLc2_ap, mSlL_ap, mSlT_ap, mPart_ap, mNoP_ap, Go_nx, Go_ct, Rt_rt, Bk_bk, runD_ap, runM_ap, runI_ap, ok_bind, ex_bind, fBl_bl, sSeq_ap, sAsg_ap, sNew_ap, sDrop_ap, sRet_ap, sRetN_ap, sIf_ap, sNext_ap, sBreak_ap, sCont_ap, sRaise_ap, sFor_ap, sWhile_ap, sPar_ap, sApp_ap, sExt_ap, sSet_ap, sDelLast_ap, sSet2_ap, sSwap_ap, iFld_ap, iFldS_ap, iSeq_ap, yH_ap, yP_ap, ybH_ap, ybP_ap, yaH_ap, y1_ap, y2_ap, yNil_ap, yCons_ap, yN_ap, yX_ap, yTup_ap, yLst_ap, yT_ap, yTNot_ap, yTAnd_ap, yTOr_ap, yIf_ap, yAnd_ap, yOr_ap, yNot_ap, yM_ap, yPop_ap, yPopAt_ap, yRng1_ap, yRng2_ap, ySeq_ap, yMeth_ap, bindT, bindTs, hide, hideF, wipeG, seqOf_lst, seqOf_tup, lstOf_lst, tupOf_tup, lstAt, getR_some, sca_int, sca_bl, sca_str, sca_non, Option.isSome_some, fLen_1, fRange1_int, fTupOf_1, fListOf_1, fII_int, fIB_int, fU_int, fRevT_1, fBits_int, fInt1_int, fIsi_tt, fIsi_tl, fIsi_ti, fIsi_ii, fIsi_bi, fIsi_ib, fIsi_bb, fIsi2_l, fIsi2_t, List.length_cons, List.length_nil, List.map_cons, List.map_nil, List.cons_append, List.nil_append, List.append_nil, List.getElem?_cons_zero, List.getElem?_cons_succ, List.set_cons_zero, List.set_cons_succ, List.contains_cons, List.contains_nil, Nat.reduceBEq, Bool.or_false, Bool.false_or, Bool.or_true, Bool.true_or, Bool.false_eq_true, if_true, if_false, ite_true, ite_false, ↓reduceIte, reduceCtorEq, Nat.reduceLeDiff, Nat.zero_add, Nat.reduceAdd, Nat.reduceLT, Nat.lt_add_one, bitAnd_nat, bitOr_nat, rep_0, rep_1, rep_2, rep_3, rep_4, rep_5, rep_6, rep_7, rep_8, rep_9, rep_10, rep_11, rep_12, rep_13, rep_14, rep_15, rep_16, rep_17, rep_18, rep_19, rep_20, rep_21, rep_22, rep_23, rep_24, rep_25, rep_26, rep_27, rep_28, rep_29, rep_30, rep_31, rep_32, rep_33, rep_34, rep_35, rep_36, rep_37, rep_38, rep_39, rep_40, and_self, and_true, true_and, decide_true, decide_false, Bool.not_true, Bool.not_false, Bool.and_true, Bool.true_and, Bool.and_false, Bool.false_and, neg_ok1, neg_ok2, Int.sub_zero, dNs_len, List.length_range, Rq_rt, runB_ap, yZip_ap, yB_ap, List.take_succ_cons, List.take_zero, List.drop_succ_cons, List.drop_zero, bring_nil, bring_cons, yLc_ap, sNewY_ap, ybYes_ap, ylcRun_nil, neS_int, hI_none]
      unfold mtd
      cases ks.getD i none <;> rfl
    · simp only [mVar_ap, mC_ap, m1_ap, m2_ap, mN_ap, mCons_ap, mNil_ap, mTup_ap, mLst_ap, mT_ap, mTNot_ap, mTAnd_ap, mTOr_ap, mYes_ap, mAnd_ap, mOr_ap, mNot_ap, mIf_ap, mChain_ap, mSeq_ap, mRng1_ap, mRng2_ap, mRngV_ap, mRev_ap, mEnum_ap, mLc_ap, mLc2_ap, mSlL_ap, mSlT_ap, mPart_ap, mNoP_ap, Go_nx, Go_ct, Rt_rt, Bk_bk, runD_ap, runM_ap, runI_ap, ok_bind, ex_bind, fBl_bl, sSeq_ap, sAsg_ap, sNew_ap, sDrop_ap, sRet_ap, sRetN_ap, sIf_ap, sNext_ap, sBreak_ap, sCont_ap, sRaise_ap, sFor_ap, sWhile_ap, sPar_ap, sApp_ap, sExt_ap, sSet_ap, sDelLast_ap, sSet2_ap, sSwap_ap, iFld_ap, iFldS_ap, iSeq_ap, yH_ap, yP_ap, ybH_ap, ybP_ap, yaH_ap, y1_ap, y2_ap, yNil_ap, yCons_ap, yN_ap, yX_ap, yTup_ap, yLst_ap, yT_ap, yTNot_ap, yTAnd_ap, yTOr_ap, yIf_ap, yAnd_ap, yOr_ap, yNot_ap, yM_ap, yPop_ap, yPopAt_ap, yRng1_ap, yRng2_ap, ySeq_ap, yMeth_ap, bindT, bindTs, hide, hideF, wipeG, seqOf_lst, seqOf_tup, lstOf_lst, tupOf_tup, lstAt, getR_some, sca_int, sca_bl, sca_str, sca_non, Option.isSome_some, fLen_1, fRange1_int, fTupOf_1, fListOf_1, fII_int, fIB_int, fU_int, fRevT_1, fBits_int, fInt1_int, fIsi_tt, fIsi_tl, fIsi_ti, fIsi_ii, fIsi_bi, fIsi_ib, fIsi_bb, fIsi2_l, fIsi2_t, List.length_cons, List.length_nil, List.map_cons, List.map_nil, List.cons_append, List.nil_append, List.append_nil, List.getElem?_cons_zero, List.getElem?_cons_succ, List.set_cons_zero, List.set_cons_succ, List.contains_cons, List.contains_nil, Nat.reduceBEq, Bool.or_false, Bool.false_or, Bool.or_true, Bool.true_or, Bool.false_eq_true, if_true, if_false, ite_true, ite_false, ↓reduceIte, reduceCtorEq, Nat.reduceLeDiff, Nat.zero_add, Nat.reduceAdd, Nat.reduceLT, Nat.lt_add_one, bitAnd_nat, bitOr_nat, rep_0, rep_1, rep_2, rep_3, rep_4, rep_5, rep_6, rep_7, rep_8, rep_9, rep_10, rep_11, rep_12, rep_13, rep_14, rep_15, rep_16, rep_17, rep_18, rep_19, rep_20, rep_21, rep_22, rep_23, rep_24, rep_25, rep_26, rep_27, rep_28, rep_29, rep_30, rep_31, rep_32, rep_33, rep_34, rep_35, rep_36, rep_37, rep_38, rep_39, rep_40, and_self, and_true, true_and, decide_true, decide_false, Bool.not_true, Bool.not_false, Bool.and_true, Bool.true_and, Bool.and_false, Bool.false_and, neg_ok1, neg_ok2, Int.sub_zero, dNs_len, List.length_range, Rq_rt, runB_ap, yZip_ap, yB_ap, List.take_succ_cons, List.take_zero, List.drop_succ_cons, List.drop_zero, bring_nil, bring_cons, yLc_ap, sNewY_ap, ybYes_ap, ylcRun_nil]
      have := mtd_iff.mp hm
      have e1 : ks.getD i none = some (mv ks i) := by rw [List.getD_eq_getElem?_getD, this]; rfl
      rw [e1]
      rfl]
  clear hR
  have e2 : ((List.range ks.length).filter (mtd ks)).map (fun i => dP (i, mv ks i)) = (mIdx ks).map fun i => dP (i, mv ks i) := rfl
  have hml : (mIdx ks).length ≤ 1000 := by
    have := List.length_filter_le (mtd ks) (List.range ks.length)
    rw [List.length_range] at this
    unfold mIdx
    omega
  have hmt : ∀ i ∈ mIdx ks, i < J.length ∧ mv ks i < 1000 := fun i hi => by
    obtain ⟨_, h2⟩ := List.mem_filter.mp hi
    exact ⟨by rw [← h]; exact mtd_lt h2, hk i _ (mtd_iff.mp h2)⟩
  simp only [mVar_ap, mC_ap, m1_ap, m2_ap, mN_ap, mCons_ap, mNil_ap, mTup_ap, mLst_ap, mT_ap, mTNot_ap, mTAnd_ap, mTOr_ap, mYes_ap, mAnd_ap, mOr_ap, mNot_ap, mIf_ap, mChain_ap, mSeq_ap, mRng1_ap, mRng2_ap, mRngV_ap, mRev_ap, mEnum_ap, mLc_ap, mLc2_ap, mSlL_ap, mSlT_ap, mPart_ap, mNoP_ap, Go_nx, Go_ct, Rt_rt, Bk_bk, runD_ap, runM_ap, runI_ap, ok_bind, ex_bind, fBl_bl, sSeq_ap, sAsg_ap, sNew_ap, sDrop_ap, sRet_ap, sRetN_ap, sIf_ap, sNext_ap, sBreak_ap, sCont_ap, sRaise_ap, sFor_ap, sWhile_ap, sPar_ap, sApp_ap, sExt_ap, sSet_ap, sDelLast_ap, sSet2_ap, sSwap_ap, iFld_ap, iFldS_ap, iSeq_ap, yH_ap, yP_ap, ybH_ap, ybP_ap, yaH_ap, y1_ap, y2_ap, yNil_ap, yCons_ap, yN_ap, yX_ap, yTup_ap, yLst_ap, yT_ap, yTNot_ap, yTAnd_ap, yTOr_ap, yIf_ap, yAnd_ap, yOr_ap, yNot_ap, yM_ap, yPop_ap, yPopAt_ap, yRng1_ap, yRng2_ap, ySeq_ap, yMeth_ap, bindT, bindTs, hide, hideF, wipeG, seqOf_lst, seqOf_tup, lstOf_lst, tupOf_tup, lstAt, getR_some, sca_int, sca_bl, sca_str, sca_non, Option.isSome_some, fLen_1, fRange1_int, fTupOf_1, fListOf_1, fII_int, fIB_int, fU_int, fRevT_1, fBits_int, fInt1_int, fIsi_tt, fIsi_tl, fIsi_ti, fIsi_ii, fIsi_bi, fIsi_ib, fIsi_bb, fIsi2_l, fIsi2_t, List.length_cons, List.length_nil, List.map_cons, List.map_nil, List.cons_append, List.nil_append, List.append_nil, List.getElem?_cons_zero, List.getElem?_cons_succ, List.set_cons_zero, List.set_cons_succ, List.contains_cons, List.contains_nil, Nat.reduceBEq, Bool.or_false, Bool.false_or, Bool.or_true, Bool.true_or, Bool.false_eq_true, if_true, if_false, ite_true, ite_false, ↓reduceIte, reduceCtorEq, Nat.reduceLeDiff, Nat.zero_add, Nat.reduceAdd, Nat.reduceLT, Nat.lt_add_one, bitAnd_nat, bitOr_nat, rep_0, rep_1, rep_2, rep_3, rep_4, rep_5, rep_6, rep_7, rep_8, rep_9, rep_10, rep_11, rep_12, rep_13, rep_14, rep_15, rep_16, rep_17, rep_18, rep_19, rep_20, rep_21, rep_22, rep_23, rep_24, rep_25, rep_26, rep_27, rep_28, rep_29, rep_30, rep_31, rep_32, rep_33, rep_34, rep_35, rep_36, rep_37, rep_38, rep_39, rep_40, and_self, and_true, true_and, decide_true, decide_false, Bool.not_true, Bool.not_false, Bool.and_true, Bool.true_and, Bool.and_false, Bool.false_and, neg_ok1, neg_ok2, Int.sub_zero, dNs_len, List.length_range, Rq_rt, runB_ap, yZip_ap, yB_ap, List.take_succ_cons, List.take_zero, List.drop_succ_cons, List.drop_zero, bring_nil, bring_cons, yLc_ap, sNewY_ap, ybYes_ap, ylcRun_nil, e2, List.length_map, show (mIdx ks).length ≤ 500000 from by omega]
  generalize hR : lcRun _ _ _ _ _ = r
  rw [lcy_of hR (fun i => dP (i, mv ks i)) (fun i => Da.bl ((J.getD i 0).testBit (mv ks i))) (mIdx ks) rfl fun i hi => ⟨_, rfl, by simp only [mVar_ap, mC_ap, m1_ap, m2_ap, mN_ap, mCons_ap, mNil_ap, mTup_ap, mLst_ap, mT_ap, mTNot_ap, mTAnd_ap, mTOr_ap, mYes_ap, mAnd_ap, mOr_ap, mNot_ap, mIf_ap, mChain_ap, mSeq_ap, mRng1_ap, mRng2_ap, mRngV_ap, mRev_ap, mEnum_ap, mLc_ap, mLc2_ap, mSlL_ap, mSlT_ap, mPart_ap, mNoP_ap, Go_nx, Go_ct, Rt_rt, Bk_bk, runD_ap, runM_ap, runI_ap, ok_bind, ex_bind, fBl_bl, sSeq_ap, sAsg_ap, sNew_ap, sDrop_ap, sRet_ap, sRetN_ap, sIf_ap, sNext_ap, sBreak_ap, sCont_ap, sRaise_ap, sFor_ap, sWhile_ap, sPar_ap, sApp_ap, sExt_ap, sSet_ap, sDelLast_ap, sSet2_ap, sSwap_ap, iFld_ap, iFldS_ap, iSeq_ap, yH_ap, yP_ap, ybH_ap, ybP_ap, yaH_ap, y1_ap, y2_ap, yNil_ap, yCons_ap, yN_ap, yX_ap, yTup_ap, yLst_ap, yT_ap, yTNot_ap, yTAnd_ap, yTOr_ap, yIf_ap, yAnd_ap, yOr_ap, yNot_ap, yM_ap, yPop_ap, yPopAt_ap, yRng1_ap, yRng2_ap, ySeq_ap, yMeth_ap, bindT, bindTs, hide, hideF, wipeG, seqOf_lst, seqOf_tup, lstOf_lst, tupOf_tup, lstAt, getR_some, sca_int, sca_bl, sca_str, sca_non, Option.isSome_some, fLen_1, fRange1_int, fTupOf_1, fListOf_1, fII_int, fIB_int, fU_int, fRevT_1, fBits_int, fInt1_int, fIsi_tt, fIsi_tl, fIsi_ti, fIsi_ii, fIsi_bi, fIsi_ib, fIsi_bb, fIsi2_l, fIsi2_t, List.length_cons, List.length_nil, List.map_cons, List.map_nil, List.cons_append, List.nil_append, List.append_nil, List.getElem?_cons_zero, List.getElem?_cons_succ, List.set_cons_zero, List.set_cons_succ, List.contains_cons, List.contains_nil, Nat.reduceBEq, Bool.or_false, Bool.false_or, Bool.or_true, Bool.true_or, Bool.false_eq_true, if_true, if_false, ite_true, ite_false, ↓reduceIte, reduceCtorEq, Nat.reduceLeDiff, Nat.zero_add, Nat.reduceAdd, Nat.reduceLT, Nat.lt_add_one, bitAnd_nat, bitOr_nat, rep_0, rep_1, rep_2, rep_3, rep_4, rep_5, rep_6, rep_7, rep_8, rep_9, rep_10, rep_11, rep_12, rep_13, rep_14, rep_15, rep_16, rep_17, rep_18, rep_19, rep_20, rep_21, rep_22, rep_23, rep_24, rep_25, rep_26, rep_27, rep_28, rep_29, rep_30, rep_31, rep_32, rep_33, rep_34, rep_35, rep_36, rep_37, rep_38, rep_39, rep_40, and_self, and_true, true_and, decide_true, decide_false, Bool.not_true, Bool.not_false, Bool.and_true, Bool.true_and, Bool.and_false, Bool.false_and, neg_ok1, neg_ok2, Int.sub_zero, dNs_len, List.length_range, Rq_rt, runB_ap, yZip_ap, yB_ap, List.take_succ_cons, List.take_zero, List.drop_succ_cons, List.drop_zero, bring_nil, bring_cons, yLc_ap, sNewY_ap, ybYes_ap, ylcRun_nil, fIx_J hJ (hmt i hi).1, m_has_ok]⟩]
  clear hR
  simp only [mVar_ap, mC_ap, m1_ap, m2_ap, mN_ap, mCons_ap, mNil_ap, mTup_ap, mLst_ap, mT_ap, mTNot_ap, mTAnd_ap, mTOr_ap, mYes_ap, mAnd_ap, mOr_ap, mNot_ap, mIf_ap, mChain_ap, mSeq_ap, mRng1_ap, mRng2_ap, mRngV_ap, mRev_ap, mEnum_ap, mLc_ap, mLc2_ap, mSlL_ap, mSlT_ap, mPart_ap, mNoP_ap, Go_nx, Go_ct, Rt_rt, Bk_bk, runD_ap, runM_ap, runI_ap, ok_bind, ex_bind, fBl_bl, sSeq_ap, sAsg_ap, sNew_ap, sDrop_ap, sRet_ap, sRetN_ap, sIf_ap, sNext_ap, sBreak_ap, sCont_ap, sRaise_ap, sFor_ap, sWhile_ap, sPar_ap, sApp_ap, sExt_ap, sSet_ap, sDelLast_ap, sSet2_ap, sSwap_ap, iFld_ap, iFldS_ap, iSeq_ap, yH_ap, yP_ap, ybH_ap, ybP_ap, yaH_ap, y1_ap, y2_ap, yNil_ap, yCons_ap, yN_ap, yX_ap, yTup_ap, yLst_ap, yT_ap, yTNot_ap, yTAnd_ap, yTOr_ap, yIf_ap, yAnd_ap, yOr_ap, yNot_ap, yM_ap, yPop_ap, yPopAt_ap, yRng1_ap, yRng2_ap, ySeq_ap, yMeth_ap, bindT, bindTs, hide, hideF, wipeG, seqOf_lst, seqOf_tup, lstOf_lst, tupOf_tup, lstAt, getR_some, sca_int, sca_bl, sca_str, sca_non, Option.isSome_some, fLen_1, fRange1_int, fTupOf_1, fListOf_1, fII_int, fIB_int, fU_int, fRevT_1, fBits_int, fInt1_int, fIsi_tt, fIsi_tl, fIsi_ti, fIsi_ii, fIsi_bi, fIsi_ib, fIsi_bb, fIsi2_l, fIsi2_t, List.length_cons, List.length_nil, List.map_cons, List.map_nil, List.cons_append, List.nil_append, List.append_nil, List.getElem?_cons_zero, List.getElem?_cons_succ, List.set_cons_zero, List.set_cons_succ, List.contains_cons, List.contains_nil, Nat.reduceBEq, Bool.or_false, Bool.false_or, Bool.or_true, Bool.true_or, Bool.false_eq_true, if_true, if_false, ite_true, ite_false, ↓reduceIte, reduceCtorEq, Nat.reduceLeDiff, Nat.zero_add, Nat.reduceAdd, Nat.reduceLT, Nat.lt_add_one, bitAnd_nat, bitOr_nat, rep_0, rep_1, rep_2, rep_3, rep_4, rep_5, rep_6, rep_7, rep_8, rep_9, rep_10, rep_11, rep_12, rep_13, rep_14, rep_15, rep_16, rep_17, rep_18, rep_19, rep_20, rep_21, rep_22, rep_23, rep_24, rep_25, rep_26, rep_27, rep_28, rep_29, rep_30, rep_31, rep_32, rep_33, rep_34, rep_35, rep_36, rep_37, rep_38, rep_39, rep_40, and_self, and_true, true_and, decide_true, decide_false, Bool.not_true, Bool.not_false, Bool.and_true, Bool.true_and, Bool.and_false, Bool.false_and, neg_ok1, neg_ok2, Int.sub_zero, dNs_len, List.length_range, Rq_rt, runB_ap, yZip_ap, yB_ap, List.take_succ_cons, List.take_zero, List.drop_succ_cons, List.drop_zero, bring_nil, bring_cons, yLc_ap, sNewY_ap, ybYes_ap, ylcRun_nil, fAll_map (fun i => (J.getD i 0).testBit (mv ks i)) (mIdx ks)]
  cases hall : (mIdx ks).all (fun i => (J.getD i 0).testBit (mv ks i)) with
  | false =>
    simp only [mVar_ap, mC_ap, m1_ap, m2_ap, mN_ap, mCons_ap, mNil_ap, mTup_ap, mLst_ap, mT_ap, mTNot_ap, mTAnd_ap, mTOr_ap, mYes_ap, mAnd_ap, mOr_ap, mNot_ap, mIf_ap, mChain_ap, mSeq_ap, mRng1_ap, mRng2_ap, mRngV_ap, mRev_ap, mEnum_ap, mLc_ap, mLc2_ap, mSlL_ap, mSlT_ap, mPart_ap, mNoP_ap, Go_nx, Go_ct, Rt_rt, Bk_bk, runD_ap, runM_ap, runI_ap, ok_bind, ex_bind, fBl_bl, sSeq_ap, sAsg_ap, sNew_ap, sDrop_ap, sRet_ap, sRetN_ap, sIf_ap, sNext_ap, sBreak_ap, sCont_ap, sRaise_ap, sFor_ap, sWhile_ap, sPar_ap, sApp_ap, sExt_ap, sSet_ap, sDelLast_ap, sSet2_ap, sSwap_ap, iFld_ap, iFldS_ap, iSeq_ap, yH_ap, yP_ap, ybH_ap, ybP_ap, yaH_ap, y1_ap, y2_ap, yNil_ap, yCons_ap, yN_ap, yX_ap, yTup_ap, yLst_ap, yT_ap, yTNot_ap, yTAnd_ap, yTOr_ap, yIf_ap, yAnd_ap, yOr_ap, yNot_ap, yM_ap, yPop_ap, yPopAt_ap, yRng1_ap, yRng2_ap, ySeq_ap, yMeth_ap, bindT, bindTs, hide, hideF, wipeG, seqOf_lst, seqOf_tup, lstOf_lst, tupOf_tup, lstAt, getR_some, sca_int, sca_bl, sca_str, sca_non, Option.isSome_some, fLen_1, fRange1_int, fTupOf_1, fListOf_1, fII_int, fIB_int, fU_int, fRevT_1, fBits_int, fInt1_int, fIsi_tt, fIsi_tl, fIsi_ti, fIsi_ii, fIsi_bi, fIsi_ib, fIsi_bb, fIsi2_l, fIsi2_t, List.length_cons, List.length_nil, List.map_cons, List.map_nil, List.cons_append, List.nil_append, List.append_nil, List.getElem?_cons_zero, List.getElem?_cons_succ, List.set_cons_zero, List.set_cons_succ, List.contains_cons, List.contains_nil, Nat.reduceBEq, Bool.or_false, Bool.false_or, Bool.or_true, Bool.true_or, Bool.false_eq_true, if_true, if_false, ite_true, ite_false, ↓reduceIte, reduceCtorEq, Nat.reduceLeDiff, Nat.zero_add, Nat.reduceAdd, Nat.reduceLT, Nat.lt_add_one, bitAnd_nat, bitOr_nat, rep_0, rep_1, rep_2, rep_3, rep_4, rep_5, rep_6, rep_7, rep_8, rep_9, rep_10, rep_11, rep_12, rep_13, rep_14, rep_15, rep_16, rep_17, rep_18, rep_19, rep_20, rep_21, rep_22, rep_23, rep_24, rep_25, rep_26, rep_27, rep_28, rep_29, rep_30, rep_31, rep_32, rep_33, rep_34, rep_35, rep_36, rep_37, rep_38, rep_39, rep_40, and_self, and_true, true_and, decide_true, decide_false, Bool.not_true, Bool.not_false, Bool.and_true, Bool.true_and, Bool.and_false, Bool.false_and, neg_ok1, neg_ok2, Int.sub_zero, dNs_len, List.length_range, Rq_rt, runB_ap, yZip_ap, yB_ap, List.take_succ_cons, List.take_zero, List.drop_succ_cons, List.drop_zero, bring_nil, bring_cons, yLc_ap, sNewY_ap, ybYes_ap, ylcRun_nil]
    unfold isMB
    rw [hall]
    rfl
  | true =>
    simp only [mVar_ap, mC_ap, m1_ap, m2_ap, mN_ap, mCons_ap, mNil_ap, mTup_ap, mLst_ap, mT_ap, mTNot_ap, mTAnd_ap, mTOr_ap, mYes_ap, mAnd_ap, mOr_ap, mNot_ap, mIf_ap, mChain_ap, mSeq_ap, mRng1_ap, mRng2_ap, mRngV_ap, mRev_ap, mEnum_ap, mLc_ap, mLc2_ap, mSlL_ap, mSlT_ap, mPart_ap, mNoP_ap, Go_nx, Go_ct, Rt_rt, Bk_bk, runD_ap, runM_ap, runI_ap, ok_bind, ex_bind, fBl_bl, sSeq_ap, sAsg_ap, sNew_ap, sDrop_ap, sRet_ap, sRetN_ap, sIf_ap, sNext_ap, sBreak_ap, sCont_ap, sRaise_ap, sFor_ap, sWhile_ap, sPar_ap, sApp_ap, sExt_ap, sSet_ap, sDelLast_ap, sSet2_ap, sSwap_ap, iFld_ap, iFldS_ap, iSeq_ap, yH_ap, yP_ap, ybH_ap, ybP_ap, yaH_ap, y1_ap, y2_ap, yNil_ap, yCons_ap, yN_ap, yX_ap, yTup_ap, yLst_ap, yT_ap, yTNot_ap, yTAnd_ap, yTOr_ap, yIf_ap, yAnd_ap, yOr_ap, yNot_ap, yM_ap, yPop_ap, yPopAt_ap, yRng1_ap, yRng2_ap, ySeq_ap, yMeth_ap, bindT, bindTs, hide, hideF, wipeG, seqOf_lst, seqOf_tup, lstOf_lst, tupOf_tup, lstAt, getR_some, sca_int, sca_bl, sca_str, sca_non, Option.isSome_some, fLen_1, fRange1_int, fTupOf_1, fListOf_1, fII_int, fIB_int, fU_int, fRevT_1, fBits_int, fInt1_int, fIsi_tt, fIsi_tl, fIsi_ti, fIsi_ii, fIsi_bi, fIsi_ib, fIsi_bb, fIsi2_l, fIsi2_t, List.length_cons, List.length_nil, List.map_cons, List.map_nil, List.cons_append, List.nil_append, List.append_nil, List.getElem?_cons_zero, List.getElem?_cons_succ, List.set_cons_zero, List.set_cons_succ, List.contains_cons, List.contains_nil, Nat.reduceBEq, Bool.or_false, Bool.false_or, Bool.or_true, Bool.true_or, Bool.false_eq_true, if_true, if_false, ite_true, ite_false, ↓reduceIte, reduceCtorEq, Nat.reduceLeDiff, Nat.zero_add, Nat.reduceAdd, Nat.reduceLT, Nat.lt_add_one, bitAnd_nat, bitOr_nat, rep_0, rep_1, rep_2, rep_3, rep_4, rep_5, rep_6, rep_7, rep_8, rep_9, rep_10, rep_11, rep_12, rep_13, rep_14, rep_15, rep_16, rep_17, rep_18, rep_19, rep_20, rep_21, rep_22, rep_23, rep_24, rep_25, rep_26, rep_27, rep_28, rep_29, rep_30, rep_31, rep_32, rep_33, rep_34, rep_35, rep_36, rep_37, rep_38, rep_39, rep_40, and_self, and_true, true_and, decide_true, decide_false, Bool.not_true, Bool.not_false, Bool.and_true, Bool.true_and, Bool.and_false, Bool.false_and, neg_ok1, neg_ok2, Int.sub_zero, dNs_len, List.length_range, Rq_rt, runB_ap, yZip_ap, yB_ap, List.take_succ_cons, List.take_zero, List.drop_succ_cons, List.drop_zero, bring_nil, bring_cons, yLc_ap, sNewY_ap, ybYes_ap, ylcRun_nil, List.length_map, show (mIdx ks).length ≤ 500000 from by omega]
    generalize hR : lcRun _ _ _ _ _ = r
    rw [lcy_of hR (fun i => dP (i, mv ks i)) (fun i => Da.int (mv ks i : Nat)) (mIdx ks) rfl fun i hi => ⟨_, rfl, by simp only [mVar_ap, mC_ap, m1_ap, m2_ap, mN_ap, mCons_ap, mNil_ap, mTup_ap, mLst_ap, mT_ap, mTNot_ap, mTAnd_ap, mTOr_ap, mYes_ap, mAnd_ap, mOr_ap, mNot_ap, mIf_ap, mChain_ap, mSeq_ap, mRng1_ap, mRng2_ap, mRngV_ap, mRev_ap, mEnum_ap, mLc_ap, mLc2_ap, mSlL_ap, mSlT_ap, mPart_ap, mNoP_ap, Go_nx, Go_ct, Rt_rt, Bk_bk, runD_ap, runM_ap, runI_ap, ok_bind, ex_bind, fBl_bl, sSeq_ap, sAsg_ap, sNew_ap, sDrop_ap, sRet_ap, sRetN_ap, sIf_ap, sNext_ap, sBreak_ap, sCont_ap, sRaise_ap, sFor_ap, sWhile_ap, sPar_ap, sApp_ap, sExt_ap, sSet_ap, sDelLast_ap, sSet2_ap, sSwap_ap, iFld_ap, iFldS_ap, iSeq_ap, yH_ap, yP_ap, ybH_ap, ybP_ap, yaH_ap, y1_ap, y2_ap, yNil_ap, yCons_ap, yN_ap, yX_ap, yTup_ap, yLst_ap, yT_ap, yTNot_ap, yTAnd_ap, yTOr_ap, yIf_ap, yAnd_ap, yOr_ap, yNot_ap, yM_ap, yPop_ap, yPopAt_ap, yRng1_ap, yRng2_ap, ySeq_ap, yMeth_ap, bindT, bindTs, hide, hideF, wipeG, seqOf_lst, seqOf_tup, lstOf_lst, tupOf_tup, lstAt, getR_some, sca_int, sca_bl, sca_str, sca_non, Option.isSome_some, fLen_1, fRange1_int, fTupOf_1, fListOf_1, fII_int, fIB_int, fU_int, fRevT_1, fBits_int, fInt1_int, fIsi_tt, fIsi_tl, fIsi_ti, fIsi_ii, fIsi_bi, fIsi_ib, fIsi_bb, fIsi2_l, fIsi2_t, List.length_cons, List.length_nil, List.map_cons, List.map_nil, List.cons_append, List.nil_append, List.append_nil, List.getElem?_cons_zero, List.getElem?_cons_succ, List.set_cons_zero, List.set_cons_succ, List.contains_cons, List.contains_nil, Nat.reduceBEq, Bool.or_false, Bool.false_or, Bool.or_true, Bool.true_or, Bool.false_eq_true, if_true, if_false, ite_true, ite_false, ↓reduceIte, reduceCtorEq, Nat.reduceLeDiff, Nat.zero_add, Nat.reduceAdd, Nat.reduceLT, Nat.lt_add_one, bitAnd_nat, bitOr_nat, rep_0, rep_1, rep_2, rep_3, rep_4, rep_5, rep_6, rep_7, rep_8, rep_9, rep_10, rep_11, rep_12, rep_13, rep_14, rep_15, rep_16, rep_17, rep_18, rep_19, rep_20, rep_21, rep_22, rep_23, rep_24, rep_25, rep_26, rep_27, rep_28, rep_29, rep_30, rep_31, rep_32, rep_33, rep_34, rep_35, rep_36, rep_37, rep_38, rep_39, rep_40, and_self, and_true, true_and, decide_true, decide_false, Bool.not_true, Bool.not_false, Bool.and_true, Bool.true_and, Bool.and_false, Bool.false_and, neg_ok1, neg_ok2, Int.sub_zero, dNs_len, List.length_range, Rq_rt, runB_ap, yZip_ap, yB_ap, List.take_succ_cons, List.take_zero, List.drop_succ_cons, List.drop_zero, bring_nil, bring_cons, yLc_ap, sNewY_ap, ybYes_ap, ylcRun_nil]⟩]
    clear hR
    have e3 : (mIdx ks).map (fun i => Da.int (mv ks i : Nat)) = dNs ((mIdx ks).map (mv ks)) := by unfold dNs; rw [List.map_map]; rfl
    have hlt : ∀ y ∈ (mIdx ks).map (mv ks), y < 1000 := fun y hy => by
      obtain ⟨i, hi, rfl⟩ := List.mem_map.mp hy
      exact (hmt i hi).2
    simp only [mVar_ap, mC_ap, m1_ap, m2_ap, mN_ap, mCons_ap, mNil_ap, mTup_ap, mLst_ap, mT_ap, mTNot_ap, mTAnd_ap, mTOr_ap, mYes_ap, mAnd_ap, mOr_ap, mNot_ap, mIf_ap, mChain_ap, mSeq_ap, mRng1_ap, mRng2_ap, mRngV_ap, mRev_ap, mEnum_ap, mLc_ap, mLc2_ap, mSlL_ap, mSlT_ap, mPart_ap, mNoP_ap, Go_nx, Go_ct, Rt_rt, Bk_bk, runD_ap, runM_ap, runI_ap, ok_bind, ex_bind, fBl_bl, sSeq_ap, sAsg_ap, sNew_ap, sDrop_ap, sRet_ap, sRetN_ap, sIf_ap, sNext_ap, sBreak_ap, sCont_ap, sRaise_ap, sFor_ap, sWhile_ap, sPar_ap, sApp_ap, sExt_ap, sSet_ap, sDelLast_ap, sSet2_ap, sSwap_ap, iFld_ap, iFldS_ap, iSeq_ap, yH_ap, yP_ap, ybH_ap, ybP_ap, yaH_ap, y1_ap, y2_ap, yNil_ap, yCons_ap, yN_ap, yX_ap, yTup_ap, yLst_ap, yT_ap, yTNot_ap, yTAnd_ap, yTOr_ap, yIf_ap, yAnd_ap, yOr_ap, yNot_ap, yM_ap, yPop_ap, yPopAt_ap, yRng1_ap, yRng2_ap, ySeq_ap, yMeth_ap, bindT, bindTs, hide, hideF, wipeG, seqOf_lst, seqOf_tup, lstOf_lst, tupOf_tup, lstAt, getR_some, sca_int, sca_bl, sca_str, sca_non, Option.isSome_some, fLen_1, fRange1_int, fTupOf_1, fListOf_1, fII_int, fIB_int, fU_int, fRevT_1, fBits_int, fInt1_int, fIsi_tt, fIsi_tl, fIsi_ti, fIsi_ii, fIsi_bi, fIsi_ib, fIsi_bb, fIsi2_l, fIsi2_t, List.length_cons, List.length_nil, List.map_cons, List.map_nil, List.cons_append, List.nil_append, List.append_nil, List.getElem?_cons_zero, List.getElem?_cons_succ, List.set_cons_zero, List.set_cons_succ, List.contains_cons, List.contains_nil, Nat.reduceBEq, Bool.or_false, Bool.false_or, Bool.or_true, Bool.true_or, Bool.false_eq_true, if_true, if_false, ite_true, ite_false, ↓reduceIte, reduceCtorEq, Nat.reduceLeDiff, Nat.zero_add, Nat.reduceAdd, Nat.reduceLT, Nat.lt_add_one, bitAnd_nat, bitOr_nat, rep_0, rep_1, rep_2, rep_3, rep_4, rep_5, rep_6, rep_7, rep_8, rep_9, rep_10, rep_11, rep_12, rep_13, rep_14, rep_15, rep_16, rep_17, rep_18, rep_19, rep_20, rep_21, rep_22, rep_23, rep_24, rep_25, rep_26, rep_27, rep_28, rep_29, rep_30, rep_31, rep_32, rep_33, rep_34, rep_35, rep_36, rep_37, rep_38, rep_39, rep_40, and_self, and_true, true_and, decide_true, decide_false, Bool.not_true, Bool.not_false, Bool.and_true, Bool.true_and, Bool.and_false, Bool.false_and, neg_ok1, neg_ok2, Int.sub_zero, dNs_len, List.length_range, Rq_rt, runB_ap, yZip_ap, yB_ap, List.take_succ_cons, List.take_zero, List.drop_succ_cons, List.drop_zero, bring_nil, bring_cons, yLc_ap, sNewY_ap, ybYes_ap, ylcRun_nil, e3, m_set_of_lst a ((mIdx ks).map (mv ks)) (fun y hy => by have := hlt y hy; omega), m_count_ok a (bsOf_lt hlt) (by decide), eqS_nat, List.length_map]
    unfold isMB
    rw [hall]
    rfl
theorem bits_le {n b : Nat} (h : b < 2 ^ n) : Builtin.Int.intBits (b : Int) ≤ n := by
  unfold Builtin.Int.intBits
  split
  · exact Nat.zero_le n
  · rename_i hz
    have hb : b ≠ 0 := fun z => hz (by rw [z]; rfl)
    rw [Int.natAbs_natCast]
    have := (Nat.log2_lt hb).mpr h
    omega
theorem m_is_set_ok {n b : Nat} (h : b < 2 ^ n) : m_is_set a [.int (b : Int), .int (n : Int)] = .ok (.bl true) := by
  unfold m_is_set
  have h1 : decide ((0 : Int) ≤ (b : Int)) = true := decide_eq_true (by omega)
  have h2 : decide (((Builtin.Int.intBits (b : Int) : Nat) : Int) ≤ (n : Int)) = true := decide_eq_true (by
    have := bits_le h
    omega)
  simp only [mVar_ap, mC_ap, m1_ap, m2_ap, mN_ap, mCons_ap, mNil_ap, mTup_ap, mLst_ap, mT_ap, mTNot_ap, mTAnd_ap, mTOr_ap, mYes_ap, mAnd_ap, mOr_ap, mNot_ap, mIf_ap, mChain_ap, mSeq_ap, mRng1_ap, mRng2_ap, mRngV_ap, mRev_ap, mEnum_ap, mLc_ap, mLc2_ap, mSlL_ap, mSlT_ap, mPart_ap, mNoP_ap, Go_nx, Go_ct, Rt_rt, Bk_bk, runD_ap, runM_ap, runI_ap, ok_bind, ex_bind, fBl_bl, sSeq_ap, sAsg_ap, sNew_ap, sDrop_ap, sRet_ap, sRetN_ap, sIf_ap, sNext_ap, sBreak_ap, sCont_ap, sRaise_ap, sFor_ap, sWhile_ap, sPar_ap, sApp_ap, sExt_ap, sSet_ap, sDelLast_ap, sSet2_ap, sSwap_ap, iFld_ap, iFldS_ap, iSeq_ap, yH_ap, yP_ap, ybH_ap, ybP_ap, yaH_ap, y1_ap, y2_ap, yNil_ap, yCons_ap, yN_ap, yX_ap, yTup_ap, yLst_ap, yT_ap, yTNot_ap, yTAnd_ap, yTOr_ap, yIf_ap, yAnd_ap, yOr_ap, yNot_ap, yM_ap, yPop_ap, yPopAt_ap, yRng1_ap, yRng2_ap, ySeq_ap, yMeth_ap, bindT, bindTs, hide, hideF, wipeG, seqOf_lst, seqOf_tup, lstOf_lst, tupOf_tup, lstAt, getR_some, sca_int, sca_bl, sca_str, sca_non, Option.isSome_some, fLen_1, fRange1_int, fTupOf_1, fListOf_1, fII_int, fIB_int, fU_int, fRevT_1, fBits_int, fInt1_int, fIsi_tt, fIsi_tl, fIsi_ti, fIsi_ii, fIsi_bi, fIsi_ib, fIsi_bb, fIsi2_l, fIsi2_t, List.length_cons, List.length_nil, List.map_cons, List.map_nil, List.cons_append, List.nil_append, List.append_nil, List.getElem?_cons_zero, List.getElem?_cons_succ, List.set_cons_zero, List.set_cons_succ, List.contains_cons, List.contains_nil, Nat.reduceBEq, Bool.or_false, Bool.false_or, Bool.or_true, Bool.true_or, Bool.false_eq_true, if_true, if_false, ite_true, ite_false, ↓reduceIte, reduceCtorEq, Nat.reduceLeDiff, Nat.zero_add, Nat.reduceAdd, Nat.reduceLT, Nat.lt_add_one, bitAnd_nat, bitOr_nat, rep_0, rep_1, rep_2, rep_3, rep_4, rep_5, rep_6, rep_7, rep_8, rep_9, rep_10, rep_11, rep_12, rep_13, rep_14, rep_15, rep_16, rep_17, rep_18, rep_19, rep_20, rep_21, rep_22, rep_23, rep_24, rep_25, rep_26, rep_27, rep_28, rep_29, rep_30, rep_31, rep_32, rep_33, rep_34, rep_35, rep_36, rep_37, rep_38, rep_39, rep_40, and_self, and_true, true_and, decide_true, decide_false, Bool.not_true, Bool.not_false, Bool.and_true, Bool.true_and, Bool.and_false, Bool.false_and, neg_ok1, neg_ok2, Int.sub_zero, dNs_len, List.length_range, Rq_rt, runB_ap, yZip_ap, yB_ap, List.take_succ_cons, List.take_zero, List.drop_succ_cons, List.drop_zero, bring_nil, bring_cons, yLc_ap, sNewY_ap, ybYes_ap, ylcRun_nil, m_is_integer_int, h1, h2]
theorem m_is_part_ok (x y : Nat) : m_is_part a [.int (x : Int), .int (y : Int)] = .ok (.bl (x &&& y == x)) := by
  unfold m_is_part
  simp only [mVar_ap, mC_ap, m1_ap, m2_ap, mN_ap, mCons_ap, mNil_ap, mTup_ap, mLst_ap, mT_ap, mTNot_ap, mTAnd_ap, mTOr_ap, mYes_ap, mAnd_ap, mOr_ap, mNot_ap, mIf_ap, mChain_ap, mSeq_ap, mRng1_ap, mRng2_ap, mRngV_ap, mRev_ap, mEnum_ap, mLc_ap, mLc2_ap, mSlL_ap, mSlT_ap, mPart_ap, mNoP_ap, Go_nx, Go_ct, Rt_rt, Bk_bk, runD_ap, runM_ap, runI_ap, ok_bind, ex_bind, fBl_bl, sSeq_ap, sAsg_ap, sNew_ap, sDrop_ap, sRet_ap, sRetN_ap, sIf_ap, sNext_ap, sBreak_ap, sCont_ap, sRaise_ap, sFor_ap, sWhile_ap, sPar_ap, sApp_ap, sExt_ap, sSet_ap, sDelLast_ap, sSet2_ap, sSwap_ap, iFld_ap, iFldS_ap, iSeq_ap, yH_ap, yP_ap, ybH_ap, ybP_ap, yaH_ap, y1_ap, y2_ap, yNil_ap, yCons_ap, yN_ap, yX_ap, yTup_ap, yLst_ap, yT_ap, yTNot_ap, yTAnd_ap, yTOr_ap, yIf_ap, yAnd_ap, yOr_ap, yNot_ap, yM_ap, yPop_ap, yPopAt_ap, yRng1_ap, yRng2_ap, ySeq_ap, yMeth_ap, bindT, bindTs, hide, hideF, wipeG, seqOf_lst, seqOf_tup, lstOf_lst, tupOf_tup, lstAt, getR_some, sca_int, sca_bl, sca_str, sca_non, Option.isSome_some, fLen_1, fRange1_int, fTupOf_1, fListOf_1, fII_int, fIB_int, fU_int, fRevT_1, fBits_int, fInt1_int, fIsi_tt, fIsi_tl, fIsi_ti, fIsi_ii, fIsi_bi, fIsi_ib, fIsi_bb, fIsi2_l, fIsi2_t, List.length_cons, List.length_nil, List.map_cons, List.map_nil, List.cons_append, List.nil_append, List.append_nil, List.getElem?_cons_zero, List.getElem?_cons_succ, List.set_cons_zero, List.set_cons_succ, List.contains_cons, List.contains_nil, Nat.reduceBEq, Bool.or_false, Bool.false_or, Bool.or_true, Bool.true_or, Bool.false_eq_true, if_true, if_false, ite_true, ite_false, ↓reduceIte, reduceCtorEq, Nat.reduceLeDiff, Nat.zero_add, Nat.reduceAdd, Nat.reduceLT, Nat.lt_add_one, bitAnd_nat, bitOr_nat, rep_0, rep_1, rep_2, rep_3, rep_4, rep_5, rep_6, rep_7, rep_8, rep_9, rep_10, rep_11, rep_12, rep_13, rep_14, rep_15, rep_16, rep_17, rep_18, rep_19, rep_20, rep_21, rep_22, rep_23, rep_24, rep_25, rep_26, rep_27, rep_28, rep_29, rep_30, rep_31, rep_32, rep_33, rep_34, rep_35, rep_36, rep_37, rep_38, rep_39, rep_40, and_self, and_true, true_and, decide_true, decide_false, Bool.not_true, Bool.not_false, Bool.and_true, Bool.true_and, Bool.and_false, Bool.false_and, neg_ok1, neg_ok2, Int.sub_zero, dNs_len, List.length_range, Rq_rt, runB_ap, yZip_ap, yB_ap, List.take_succ_cons, List.take_zero, List.drop_succ_cons, List.drop_zero, bring_nil, bring_cons, yLc_ap, sNewY_ap, ybYes_ap, ylcRun_nil, eqS_nat]
  congr 2
def isCB (J : List Nat) (L R : Nat) : Bool := (List.range J.length).all fun x => L.testBit x || ((J.getD x 0) &&& R == J.getD x 0)
theorem m_is_cover_ok {J : List Nat} {L R : Nat} {dJ : Da} (hJ : seqOf dJ = .ok (dNs J)) (hl : J.length ≤ 1000) (hL : L < 2 ^ J.length) : m_is_cover a [dJ, .tup [.int (L : Int), .int (R : Int)]] = .ok (.bl (isCB J L R)) := by
  unfold m_is_cover
  have h2 : decide (((0 + 1 + 1 : Nat) : Int) = 2) = true := rfl
  have h2' : decide (((2 : Nat) : Int) = 2) = true := rfl
  have h3 : decide ((R : Int) < 0) = false := decide_eq_false (by omega)
  have hl1 : J.length ≤ 1000000 := by omega
  simp only [mVar_ap, mC_ap, m1_ap, m2_ap, mN_ap, mCons_ap, mNil_ap, mTup_ap, mLst_ap, mT_ap, mTNot_ap, mTAnd_ap, mTOr_ap, mYes_ap, mAnd_ap, mOr_ap, mNot_ap, mIf_ap, mChain_ap, mSeq_ap, mRng1_ap, mRng2_ap, mRngV_ap, mRev_ap, mEnum_ap, mLc_ap, mLc2_ap, mSlL_ap, mSlT_ap, mPart_ap, mNoP_ap, Go_nx, Go_ct, Rt_rt, Bk_bk, runD_ap, runM_ap, runI_ap, ok_bind, ex_bind, fBl_bl, sSeq_ap, sAsg_ap, sNew_ap, sDrop_ap, sRet_ap, sRetN_ap, sIf_ap, sNext_ap, sBreak_ap, sCont_ap, sRaise_ap, sFor_ap, sWhile_ap, sPar_ap, sApp_ap, sExt_ap, sSet_ap, sDelLast_ap, sSet2_ap, sSwap_ap, iFld_ap, iFldS_ap, iSeq_ap, yH_ap, yP_ap, ybH_ap, ybP_ap, yaH_ap, y1_ap, y2_ap, yNil_ap, yCons_ap, yN_ap, yX_ap, yTup_ap, yLst_ap, yT_ap, yTNot_ap, yTAnd_ap, yTOr_ap, yIf_ap, yAnd_ap, yOr_ap, yNot_ap, yM_ap, yPop_ap, yPopAt_ap, yRng1_ap, yRng2_ap, ySeq_ap, yMeth_ap, bindT, bindTs, hide, hideF, wipeG, seqOf_lst, seqOf_tup, lstOf_lst, tupOf_tup, lstAt, getR_some, sca_int, sca_bl, sca_str, sca_non, Option.isSome_some, fLen_1, fRange1_int, fTupOf_1, fListOf_1, fII_int, fIB_int, fU_int, fRevT_1, fBits_int, fInt1_int, fIsi_tt, fIsi_tl, fIsi_ti, fIsi_ii, fIsi_bi, fIsi_ib, fIsi_bb, fIsi2_l, fIsi2_t, List.length_cons, List.length_nil, List.map_cons, List.map_nil, List.cons_append, List.nil_append, List.append_nil, List.getElem?_cons_zero, List.getElem?_cons_succ, List.set_cons_zero, List.set_cons_succ, List.contains_cons, List.contains_nil, Nat.reduceBEq, Bool.or_false, Bool.false_or, Bool.or_true, Bool.true_or, Bool.false_eq_true, if_true, if_false, ite_true, ite_false, ↓reduceIte, reduceCtorEq, Nat.reduceLeDiff, Nat.zero_add, Nat.reduceAdd, Nat.reduceLT, Nat.lt_add_one, bitAnd_nat, bitOr_nat, rep_0, rep_1, rep_2, rep_3, rep_4, rep_5, rep_6, rep_7, rep_8, rep_9, rep_10, rep_11, rep_12, rep_13, rep_14, rep_15, rep_16, rep_17, rep_18, rep_19, rep_20, rep_21, rep_22, rep_23, rep_24, rep_25, rep_26, rep_27, rep_28, rep_29, rep_30, rep_31, rep_32, rep_33, rep_34, rep_35, rep_36, rep_37, rep_38, rep_39, rep_40, and_self, and_true, true_and, decide_true, decide_false, Bool.not_true, Bool.not_false, Bool.and_true, Bool.true_and, Bool.and_false, Bool.false_and, neg_ok1, neg_ok2, Int.sub_zero, dNs_len, List.length_range, Rq_rt, runB_ap, yZip_ap, yB_ap, List.take_succ_cons, List.take_zero, List.drop_succ_cons, List.drop_zero, bring_nil, bring_cons, yLc_ap, sNewY_ap, ybYes_ap, ylcRun_nil, neS_int, h2, h2', hJ, m_is_set_ok a hL, m_is_integer_int, h3, rng_ok hl1, rng_natC, show J.length ≤ 500000 from by omega]
  generalize hR : lcRun _ _ _ _ _ = r
  rw [lcy_of hR (fun x : Nat => Da.int (x : Int)) (fun x => Da.bl (L.testBit x || ((J.getD x 0) &&& R == J.getD x 0))) (List.range J.length) rfl fun x hx => ⟨_, rfl, by
    have hx := List.mem_range.mp hx
    simp only [mVar_ap, mC_ap, m1_ap, m2_ap, mN_ap, mCons_ap, mNil_ap, mTup_ap, mLst_ap, mT_ap, mTNot_ap, mTAnd_ap, mTOr_ap, mYes_ap, mAnd_ap, mOr_ap, mNot_ap, mIf_ap, mChain_ap, mSeq_ap, mRng1_ap, mRng2_ap, mRngV_ap, mRev_ap, mEnum_ap, mLc_ap, mLc2_ap, mSlL_ap, mSlT_ap, mPart_ap, mNoP_ap, Go_nx, Go_ct, Rt_rt, Bk_bk, runD_ap, runM_ap, runI_ap, ok_bind, ex_bind, fBl_bl, sSeq_ap, sAsg_ap, sNew_ap, sDrop_ap, sRet_ap, sRetN_ap, sIf_ap, sNext_ap, sBreak_ap, sCont_ap, sRaise_ap, sFor_ap, sWhile_ap, sPar_ap, sApp_ap, sExt_ap, sSet_ap, sDelLast_ap, sSet2_ap, sSwap_ap, iFld_ap, iFldS_ap, iSeq_ap, yH_ap, yP_ap, ybH_ap, ybP_ap, yaH_ap, y1_ap, y2_ap, yNil_ap, yCons_ap, yN_ap, yX_ap, yTup_ap, yLst_ap, yT_ap, yTNot_ap, yTAnd_ap, yTOr_ap, yIf_ap, yAnd_ap, yOr_ap, yNot_ap, yM_ap, yPop_ap, yPopAt_ap, yRng1_ap, yRng2_ap, ySeq_ap, yMeth_ap, bindT, bindTs, hide, hideF, wipeG, seqOf_lst, seqOf_tup, lstOf_lst, tupOf_tup, lstAt, getR_some, sca_int, sca_bl, sca_str, sca_non, Option.isSome_some, fLen_1, fRange1_int, fTupOf_1, fListOf_1, fII_int, fIB_int, fU_int, fRevT_1, fBits_int, fInt1_int, fIsi_tt, fIsi_tl, fIsi_ti, fIsi_ii, fIsi_bi, fIsi_ib, fIsi_bb, fIsi2_l, fIsi2_t, List.length_cons, List.length_nil, List.map_cons, List.map_nil, List.cons_append, List.nil_append, List.append_nil, List.getElem?_cons_zero, List.getElem?_cons_succ, List.set_cons_zero, List.set_cons_succ, List.contains_cons, List.contains_nil, Nat.reduceBEq, Bool.or_false, Bool.false_or, Bool.or_true, Bool.true_or, Bool.false_eq_true, if_true, if_false, ite_true, ite_false, ↓reduceIte, reduceCtorEq, Nat.reduceLeDiff, Nat.zero_add, Nat.reduceAdd, Nat.reduceLT, Nat.lt_add_one, bitAnd_nat, bitOr_nat, rep_0, rep_1, rep_2, rep_3, rep_4, rep_5, rep_6, rep_7, rep_8, rep_9, rep_10, rep_11, rep_12, rep_13, rep_14, rep_15, rep_16, rep_17, rep_18, rep_19, rep_20, rep_21, rep_22, rep_23, rep_24, rep_25, rep_26, rep_27, rep_28, rep_29, rep_30, rep_31, rep_32, rep_33, rep_34, rep_35, rep_36, rep_37, rep_38, rep_39, rep_40, and_self, and_true, true_and, decide_true, decide_false, Bool.not_true, Bool.not_false, Bool.and_true, Bool.true_and, Bool.and_false, Bool.false_and, neg_ok1, neg_ok2, Int.sub_zero, dNs_len, List.length_range, Rq_rt, runB_ap, yZip_ap, yB_ap, List.take_succ_cons, List.take_zero, List.drop_succ_cons, List.drop_zero, bring_nil, bring_cons, yLc_ap, sNewY_ap, ybYes_ap, ylcRun_nil, m_has_ok]
    cases L.testBit x with
    | true => simp only [mVar_ap, mC_ap, m1_ap, m2_ap, mN_ap, mCons_ap, mNil_ap, mTup_ap, mLst_ap, mT_ap, mTNot_ap, mTAnd_ap, mTOr_ap, mYes_ap, mAnd_ap, mOr_ap, mNot_ap, mIf_ap, mChain_ap, mSeq_ap, mRng1_ap, mRng2_ap, mRngV_ap, mRev_ap, mEnum_ap, mLc_ap, mLc2_ap, mSlL_ap, mSlT_ap, mPart_ap, mNoP_ap, Go_nx, Go_ct, Rt_rt, Bk_bk, runD_ap, runM_ap, runI_ap, ok_bind, ex_bind, fBl_bl, sSeq_ap, sAsg_ap, sNew_ap, sDrop_ap, sRet_ap, sRetN_ap, sIf_ap, sNext_ap, sBreak_ap, sCont_ap, sRaise_ap, sFor_ap, sWhile_ap, sPar_ap, sApp_ap, sExt_ap, sSet_ap, sDelLast_ap, sSet2_ap, sSwap_ap, iFld_ap, iFldS_ap, iSeq_ap, yH_ap, yP_ap, ybH_ap, ybP_ap, yaH_ap, y1_ap, y2_ap, yNil_ap, yCons_ap, yN_ap, yX_ap, yTup_ap, yLst_ap, yT_ap, yTNot_ap, yTAnd_ap, yTOr_ap, yIf_ap, yAnd_ap, yOr_ap, yNot_ap, yM_ap, yPop_ap, yPopAt_ap, yRng1_ap, yRng2_ap, ySeq_ap, yMeth_ap, bindT, bindTs, hide, hideF, wipeG, seqOf_lst, seqOf_tup, lstOf_lst, tupOf_tup, lstAt, getR_some, sca_int, sca_bl, sca_str, sca_non, Option.isSome_some, fLen_1, fRange1_int, fTupOf_1, fListOf_1, fII_int, fIB_int, fU_int, fRevT_1, fBits_int, fInt1_int, fIsi_tt, fIsi_tl, fIsi_ti, fIsi_ii, fIsi_bi, fIsi_ib, fIsi_bb, fIsi2_l, fIsi2_t, List.length_cons, List.length_nil, List.map_cons, List.map_nil, List.cons_append, List.nil_append, List.append_nil, List.getElem?_cons_zero, List.getElem?_cons_succ, List.set_cons_zero, List.set_cons_succ, List.contains_cons, List.contains_nil, Nat.reduceBEq, Bool.or_false, Bool.false_or, Bool.or_true, Bool.true_or, Bool.false_eq_true, if_true, if_false, ite_true, ite_false, ↓reduceIte, reduceCtorEq, Nat.reduceLeDiff, Nat.zero_add, Nat.reduceAdd, Nat.reduceLT, Nat.lt_add_one, bitAnd_nat, bitOr_nat, rep_0, rep_1, rep_2, rep_3, rep_4, rep_5, rep_6, rep_7, rep_8, rep_9, rep_10, rep_11, rep_12, rep_13, rep_14, rep_15, rep_16, rep_17, rep_18, rep_19, rep_20, rep_21, rep_22, rep_23, rep_24, rep_25, rep_26, rep_27, rep_28, rep_29, rep_30, rep_31, rep_32, rep_33, rep_34, rep_35, rep_36, rep_37, rep_38, rep_39, rep_40, and_self, and_true, true_and, decide_true, decide_false, Bool.not_true, Bool.not_false, Bool.and_true, Bool.true_and, Bool.and_false, Bool.false_and, neg_ok1, neg_ok2, Int.sub_zero, dNs_len, List.length_range, Rq_rt, runB_ap, yZip_ap, yB_ap, List.take_succ_cons, List.take_zero, List.drop_succ_cons, List.drop_zero, bring_nil, bring_cons, yLc_ap, sNewY_ap, ybYes_ap, ylcRun_nil]
    | false => simp only [mVar_ap, mC_ap, m1_ap, m2_ap, mN_ap, mCons_ap, mNil_ap, mTup_ap, mLst_ap, mT_ap, mTNot_ap, mTAnd_ap, mTOr_ap, mYes_ap, mAnd_ap, mOr_ap, mNot_ap, mIf_ap, mChain_ap, mSeq_ap, mRng1_ap, mRng2_ap, mRngV_ap, mRev_ap, mEnum_ap, mLc_ap, mLc2_ap, mSlL_ap, mSlT_ap, mPart_ap, mNoP_ap, Go_nx, Go_ct, Rt_rt, Bk_bk, runD_ap, runM_ap, runI_ap, ok_bind, ex_bind, fBl_bl, sSeq_ap, sAsg_ap, sNew_ap, sDrop_ap, sRet_ap, sRetN_ap, sIf_ap, sNext_ap, sBreak_ap, sCont_ap, sRaise_ap, sFor_ap, sWhile_ap, sPar_ap, sApp_ap, sExt_ap, sSet_ap, sDelLast_ap, sSet2_ap, sSwap_ap, iFld_ap, iFldS_ap, iSeq_ap, yH_ap, yP_ap, ybH_ap, ybP_ap, yaH_ap, y1_ap, y2_ap, yNil_ap, yCons_ap, yN_ap, yX_ap, yTup_ap, yLst_ap, yT_ap, yTNot_ap, yTAnd_ap, yTOr_ap, yIf_ap, yAnd_ap, yOr_ap, yNot_ap, yM_ap, yPop_ap, yPopAt_ap, yRng1_ap, yRng2_ap, ySeq_ap, yMeth_ap, bindT, bindTs, hide, hideF, wipeG, seqOf_lst, seqOf_tup, lstOf_lst, tupOf_tup, lstAt, getR_some, sca_int, sca_bl, sca_str, sca_non, Option.isSome_some, fLen_1, fRange1_int, fTupOf_1, fListOf_1, fII_int, fIB_int, fU_int, fRevT_1, fBits_int, fInt1_int, fIsi_tt, fIsi_tl, fIsi_ti, fIsi_ii, fIsi_bi, fIsi_ib, fIsi_bb, fIsi2_l, fIsi2_t, List.length_cons, List.length_nil, List.map_cons, List.map_nil, List.cons_append, List.nil_append, List.append_nil, List.getElem?_cons_zero, List.getElem?_cons_succ, List.set_cons_zero, List.set_cons_succ, List.contains_cons, List.contains_nil, Nat.reduceBEq, Bool.or_false, Bool.false_or, Bool.or_true, Bool.true_or, Bool.false_eq_true, if_true, if_false, ite_true, ite_false, ↓reduceIte, reduceCtorEq, Nat.reduceLeDiff, Nat.zero_add, Nat.reduceAdd, Nat.reduceLT, Nat.lt_add_one, bitAnd_nat, bitOr_nat, rep_0, rep_1, rep_2, rep_3, rep_4, rep_5, rep_6, rep_7, rep_8, rep_9, rep_10, rep_11, rep_12, rep_13, rep_14, rep_15, rep_16, rep_17, rep_18, rep_19, rep_20, rep_21, rep_22, rep_23, rep_24, rep_25, rep_26, rep_27, rep_28, rep_29, rep_30, rep_31, rep_32, rep_33, rep_34, rep_35, rep_36, rep_37, rep_38, rep_39, rep_40, and_self, and_true, true_and, decide_true, decide_false, Bool.not_true, Bool.not_false, Bool.and_true, Bool.true_and, Bool.and_false, Bool.false_and, neg_ok1, neg_ok2, Int.sub_zero, dNs_len, List.length_range, Rq_rt, runB_ap, yZip_ap, yB_ap, List.take_succ_cons, List.take_zero, List.drop_succ_cons, List.drop_zero, bring_nil, bring_cons, yLc_ap, sNewY_ap, ybYes_ap, ylcRun_nil, fIx_J hJ hx, m_is_part_ok]⟩]
  simp only [mVar_ap, mC_ap, m1_ap, m2_ap, mN_ap, mCons_ap, mNil_ap, mTup_ap, mLst_ap, mT_ap, mTNot_ap, mTAnd_ap, mTOr_ap, mYes_ap, mAnd_ap, mOr_ap, mNot_ap, mIf_ap, mChain_ap, mSeq_ap, mRng1_ap, mRng2_ap, mRngV_ap, mRev_ap, mEnum_ap, mLc_ap, mLc2_ap, mSlL_ap, mSlT_ap, mPart_ap, mNoP_ap, Go_nx, Go_ct, Rt_rt, Bk_bk, runD_ap, runM_ap, runI_ap, ok_bind, ex_bind, fBl_bl, sSeq_ap, sAsg_ap, sNew_ap, sDrop_ap, sRet_ap, sRetN_ap, sIf_ap, sNext_ap, sBreak_ap, sCont_ap, sRaise_ap, sFor_ap, sWhile_ap, sPar_ap, sApp_ap, sExt_ap, sSet_ap, sDelLast_ap, sSet2_ap, sSwap_ap, iFld_ap, iFldS_ap, iSeq_ap, yH_ap, yP_ap, ybH_ap, ybP_ap, yaH_ap, y1_ap, y2_ap, yNil_ap, yCons_ap, yN_ap, yX_ap, yTup_ap, yLst_ap, yT_ap, yTNot_ap, yTAnd_ap, yTOr_ap, yIf_ap, yAnd_ap, yOr_ap, yNot_ap, yM_ap, yPop_ap, yPopAt_ap, yRng1_ap, yRng2_ap, ySeq_ap, yMeth_ap, bindT, bindTs, hide, hideF, wipeG, seqOf_lst, seqOf_tup, lstOf_lst, tupOf_tup, lstAt, getR_some, sca_int, sca_bl, sca_str, sca_non, Option.isSome_some, fLen_1, fRange1_int, fTupOf_1, fListOf_1, fII_int, fIB_int, fU_int, fRevT_1, fBits_int, fInt1_int, fIsi_tt, fIsi_tl, fIsi_ti, fIsi_ii, fIsi_bi, fIsi_ib, fIsi_bb, fIsi2_l, fIsi2_t, List.length_cons, List.length_nil, List.map_cons, List.map_nil, List.cons_append, List.nil_append, List.append_nil, List.getElem?_cons_zero, List.getElem?_cons_succ, List.set_cons_zero, List.set_cons_succ, List.contains_cons, List.contains_nil, Nat.reduceBEq, Bool.or_false, Bool.false_or, Bool.or_true, Bool.true_or, Bool.false_eq_true, if_true, if_false, ite_true, ite_false, ↓reduceIte, reduceCtorEq, Nat.reduceLeDiff, Nat.zero_add, Nat.reduceAdd, Nat.reduceLT, Nat.lt_add_one, bitAnd_nat, bitOr_nat, rep_0, rep_1, rep_2, rep_3, rep_4, rep_5, rep_6, rep_7, rep_8, rep_9, rep_10, rep_11, rep_12, rep_13, rep_14, rep_15, rep_16, rep_17, rep_18, rep_19, rep_20, rep_21, rep_22, rep_23, rep_24, rep_25, rep_26, rep_27, rep_28, rep_29, rep_30, rep_31, rep_32, rep_33, rep_34, rep_35, rep_36, rep_37, rep_38, rep_39, rep_40, and_self, and_true, true_and, decide_true, decide_false, Bool.not_true, Bool.not_false, Bool.and_true, Bool.true_and, Bool.and_false, Bool.false_and, neg_ok1, neg_ok2, Int.sub_zero, dNs_len, List.length_range, Rq_rt, runB_ap, yZip_ap, yB_ap, List.take_succ_cons, List.take_zero, List.drop_succ_cons, List.drop_zero, bring_nil, bring_cons, yLc_ap, sNewY_ap, ybYes_ap, ylcRun_nil, fAll_map (fun x => L.testBit x || ((J.getD x 0) &&& R == J.getD x 0)) (List.range J.length)]
  rfl
theorem m_law_bit_ok (b : Nat) {y : Nat} (hy : y ≤ 5) : m_law_bit a [.int (b : Int), .int (y : Int)] = .ok (.bl (b.testBit y)) := by
  have key : ∀ k : Nat, fIx (.lst [.int 1, .int 2, .int 4, .int 8, .int 16, .int 32]) (.int (y : Int)) = .ok (.int ((k : Nat) : Int)) → k = 2 ^ y → 0 < k → m_law_bit a [.int (b : Int), .int (y : Int)] = .ok (.bl (b.testBit y)) := fun k h1 h2 h3 => by
    unfold m_law_bit
    have hk : k < 2 ^ 200 := by rw [h2]; exact Nat.pow_lt_pow_right (by decide) (by omega)
    simp only [mVar_ap, mC_ap, m1_ap, m2_ap, mN_ap, mCons_ap, mNil_ap, mTup_ap, mLst_ap, mT_ap, mTNot_ap, mTAnd_ap, mTOr_ap, mYes_ap, mAnd_ap, mOr_ap, mNot_ap, mIf_ap, mChain_ap, mSeq_ap, mRng1_ap, mRng2_ap, mRngV_ap, mRev_ap, mEnum_ap, mLc_ap, mLc2_ap, mSlL_ap, mSlT_ap, mPart_ap, mNoP_ap, Go_nx, Go_ct, Rt_rt, Bk_bk, runD_ap, runM_ap, runI_ap, ok_bind, ex_bind, fBl_bl, sSeq_ap, sAsg_ap, sNew_ap, sDrop_ap, sRet_ap, sRetN_ap, sIf_ap, sNext_ap, sBreak_ap, sCont_ap, sRaise_ap, sFor_ap, sWhile_ap, sPar_ap, sApp_ap, sExt_ap, sSet_ap, sDelLast_ap, sSet2_ap, sSwap_ap, iFld_ap, iFldS_ap, iSeq_ap, yH_ap, yP_ap, ybH_ap, ybP_ap, yaH_ap, y1_ap, y2_ap, yNil_ap, yCons_ap, yN_ap, yX_ap, yTup_ap, yLst_ap, yT_ap, yTNot_ap, yTAnd_ap, yTOr_ap, yIf_ap, yAnd_ap, yOr_ap, yNot_ap, yM_ap, yPop_ap, yPopAt_ap, yRng1_ap, yRng2_ap, ySeq_ap, yMeth_ap, bindT, bindTs, hide, hideF, wipeG, seqOf_lst, seqOf_tup, lstOf_lst, tupOf_tup, lstAt, getR_some, sca_int, sca_bl, sca_str, sca_non, Option.isSome_some, fLen_1, fRange1_int, fTupOf_1, fListOf_1, fII_int, fIB_int, fU_int, fRevT_1, fBits_int, fInt1_int, fIsi_tt, fIsi_tl, fIsi_ti, fIsi_ii, fIsi_bi, fIsi_ib, fIsi_bb, fIsi2_l, fIsi2_t, List.length_cons, List.length_nil, List.map_cons, List.map_nil, List.cons_append, List.nil_append, List.append_nil, List.getElem?_cons_zero, List.getElem?_cons_succ, List.set_cons_zero, List.set_cons_succ, List.contains_cons, List.contains_nil, Nat.reduceBEq, Bool.or_false, Bool.false_or, Bool.or_true, Bool.true_or, Bool.false_eq_true, if_true, if_false, ite_true, ite_false, ↓reduceIte, reduceCtorEq, Nat.reduceLeDiff, Nat.zero_add, Nat.reduceAdd, Nat.reduceLT, Nat.lt_add_one, bitAnd_nat, bitOr_nat, rep_0, rep_1, rep_2, rep_3, rep_4, rep_5, rep_6, rep_7, rep_8, rep_9, rep_10, rep_11, rep_12, rep_13, rep_14, rep_15, rep_16, rep_17, rep_18, rep_19, rep_20, rep_21, rep_22, rep_23, rep_24, rep_25, rep_26, rep_27, rep_28, rep_29, rep_30, rep_31, rep_32, rep_33, rep_34, rep_35, rep_36, rep_37, rep_38, rep_39, rep_40, and_self, and_true, true_and, decide_true, decide_false, Bool.not_true, Bool.not_false, Bool.and_true, Bool.true_and, Bool.and_false, Bool.false_and, neg_ok1, neg_ok2, Int.sub_zero, dNs_len, List.length_range, Rq_rt, runB_ap, yZip_ap, yB_ap, List.take_succ_cons, List.take_zero, List.drop_succ_cons, List.drop_zero, bring_nil, bring_cons, yLc_ap, sNewY_ap, ybYes_ap, ylcRun_nil, h1, div_ok (show (0 : Int) < (k : Int) by omega) (log_small hk), mod_ok (show (0 : Int) < 2 by decide), eqS_int]
    congr 2
    rw [Nat.testBit_eq_decide_div_mod_eq, ← h2]
    exact decide_eq_decide.mpr (by omega)
  have h6 : y = 0 ∨ y = 1 ∨ y = 2 ∨ y = 3 ∨ y = 4 ∨ y = 5 := by omega
  rcases h6 with rfl | rfl | rfl | rfl | rfl | rfl
  · exact key 1 rfl rfl (by decide)
  · exact key 2 rfl rfl (by decide)
  · exact key 4 rfl rfl (by decide)
  · exact key 8 rfl rfl (by decide)
  · exact key 16 rfl rfl (by decide)
  · exact key 32 rfl rfl (by decide)
end
end Mi
namespace Mi
open PySem PySem.Spec PyProof.Rows L2 Fo
variable [Nm]
open Mt
theorem pow_ix {r : Nat} (h : r ≤ 5) : fIx (.lst [.int 1, .int 2, .int 4, .int 8, .int 16, .int 32]) (.int (r : Int)) = .ok (.int ((2 ^ r : Nat) : Int)) := by
  have h6 : r = 0 ∨ r = 1 ∨ r = 2 ∨ r = 3 ∨ r = 4 ∨ r = 5 := by omega
  rcases h6 with rfl | rfl | rfl | rfl | rfl | rfl <;> rfl
theorem dH_take (ms : Hs) (k : Nat) : (dH ms).take k = dH (ms.take k) := by unfold dH; rw [List.map_take]
theorem dH_drop (ms : Hs) (k : Nat) : (dH ms).drop k = dH (ms.drop k) := by unfold dH; rw [List.map_drop]
theorem dH_app (l m : Hs) : dH l ++ dH m = dH (l ++ m) := by unfold dH; rw [List.map_append]
theorem two_no (u : Nat) (hu : u < 1000) (j0 : Nat) : isMB [j0, j0] [some u, some u] = false := by
  have h1 : mIdx [some u, some u] = [0, 1] := rfl
  have h2 : (mem 1000 (bsOf [u, u])).length = 1 := by
    have e : bsOf [u, u] = bsOf [u] := by
      apply Nat.eq_of_testBit_eq
      intro y
      rw [bsOf_test, bsOf_test]
      simp
    rw [e]
    exact mem_distinct (by simp) (by simpa using hu)
  unfold isMB
  rw [h1]
  have e2 : [0, 1].map (mv [some u, some u]) = [u, u] := rfl
  rw [e2, h2]
  simp
section
variable {J : List Nat} {hs ms : Hs} {c : Nat → Prop} {Lb Rb r : Nat}
theorem mv_inj (hI : MInv J J.length hs) (hD : Dual J.length hs ms) {x x' : Nat} (h : mtd ms x = true) (h' : mtd ms x' = true) (e : mv ms x = mv ms x') : x = x' := by
  have h1 := (hD.iff _ _).mp (mtd_iff.mp h)
  have h2 := (hD.iff _ _).mp (mtd_iff.mp h')
  rw [e, h2] at h1
  exact (Option.some.inj (Option.some.inj h1)).symm
theorem match_yes (hI : MInv J J.length hs) (hD : Dual J.length hs ms) (hr : hs.length ≤ 1000) : isMB J ms = true := by
  have hlt : ∀ x, mtd ms x = true → mv ms x < hs.length := fun x h => (List.getElem?_eq_some_iff.mp ((hD.iff _ _).mp (mtd_iff.mp h))).1
  have nd : ((mIdx ms).map (mv ms)).Nodup := by
    rw [List.Nodup, List.pairwise_map]
    refine (List.nodup_range.filter _).imp_of_mem fun {x y} hx hy hne e => hne ?_
    exact mv_inj hI hD (List.mem_filter.mp hx).2 (List.mem_filter.mp hy).2 e
  unfold isMB
  rw [mem_distinct nd fun y hy => by
    obtain ⟨x, hx, rfl⟩ := List.mem_map.mp hy
    have := hlt x (List.mem_filter.mp hx).2
    omega, List.length_map, decide_eq_true rfl, Bool.and_true, List.all_eq_true]
  intro x hx
  exact (hI.ok _ _ ((hD.iff _ _).mp (mtd_iff.mp (List.mem_filter.mp hx).2))).2
theorem cover_eq (hI : MInv J J.length hs) (hD : Dual J.length hs ms) (hsl : hs.length = r) (hc : ∀ y, c y → ∃ z : Nat, hs[y]? = some (some z)) (hR : Rch J hs ms c [] Lb Rb) :
    ((List.range J.length).filter fun x => (outB J.length Lb).testBit x).length + ((List.range r).filter fun y => Rb.testBit y).length = ((List.range J.length).filter (mtd ms)).length := by
  have e0 : ((List.range J.length).filter fun x => (outB J.length Lb).testBit x) = ((List.range J.length).filter (mtd ms)).filter fun x => !Lb.testBit x := by
    rw [List.filter_filter]
    refine List.filter_congr fun x hx => ?_
    have hx := List.mem_range.mp hx
    unfold outB
    rw [bitsOf_test, decide_eq_true hx, Bool.true_and]
    cases hl : Lb.testBit x with
    | true => rfl
    | false =>
      cases hm : mtd ms x with
      | true => rfl
      | false =>
        have := hR.al x hx ((mtd_none (by rw [hD.len]; exact hx)).mp hm)
        rw [hl] at this
        cases this
  have e1 := filter_not (l := (List.range J.length).filter (mtd ms)) (p := fun x => Lb.testBit x)
  rw [e0]
  have e2 : (((List.range J.length).filter (mtd ms)).filter fun x => Lb.testBit x) = (List.range J.length).filter fun x => Lb.testBit x && mtd ms x := by rw [List.filter_filter]
  have ex : ∀ y, ∃ x : Nat, Rb.testBit y = true → hs[y]? = some (some x) := fun y => by
    cases hy : Rb.testBit y with
    | false => exact ⟨0, fun h => nomatch h⟩
    | true =>
      obtain ⟨x, hx⟩ := hc y (hR.rc y hy)
      exact ⟨x, fun _ => hx⟩
  obtain ⟨ho, hho⟩ : ∃ ho : Nat → Nat, ∀ y, Rb.testBit y = true → hs[y]? = some (some (ho y)) := ⟨fun y => (ex y).choose, fun y hy => (ex y).choose_spec hy⟩
  have le1 := inj_len2 (n := J.length) (m := r) (p := fun x => Lb.testBit x && mtd ms x) (q := fun y => Rb.testBit y) (mv ms) (fun x hx h => by
    rw [Bool.and_eq_true] at h
    have h1 := (hD.iff _ _).mp (mtd_iff.mp h.2)
    refine ⟨by rw [← hsl]; exact (List.getElem?_eq_some_iff.mp h1).1, ?_⟩
    rcases hR.dn x h.1 with h2 | h2
    · cases h2
    · exact h2 _ (hI.ok _ _ h1).2) fun x y _ _ h1 h2 e => by
      rw [Bool.and_eq_true] at h1 h2
      exact mv_inj hI hD h1.2 h2.2 e
  have le2 := inj_len2 (n := r) (m := J.length) (p := fun y => Rb.testBit y) (q := fun x => Lb.testBit x && mtd ms x) ho (fun y hy h => by
    have h1 := hho y h
    refine ⟨(hI.ok _ _ h1).1, ?_⟩
    rw [hR.rl y _ h h1, Bool.true_and]
    exact mtd_some ((hD.iff _ _).mpr h1)) fun x y _ _ h1 h2 e => by
      have q1 := hho x h1
      rw [e] at q1
      exact hI.inj _ _ _ q1 (hho y h2)
  rw [e2] at e1
  omega
theorem cover_yes (hR : Rch J hs ms c [] Lb Rb) {x y : Nat} (hx : x < J.length) (hj : (J.getD x 0).testBit y = true) : (outB J.length Lb).testBit x = true ∨ Rb.testBit y = true := by
  unfold outB
  rw [bitsOf_test, decide_eq_true hx, Bool.true_and]
  cases hl : Lb.testBit x with
  | false => exact .inl rfl
  | true =>
    rcases hR.dn x hl with h | h
    · cases h
    · exact .inr (h y hj)
theorem cover_is (hR : Rch J hs ms c [] Lb Rb) : isCB J (outB J.length Lb) Rb = true := by
  unfold isCB
  rw [List.all_eq_true]
  intro x hx
  have hx := List.mem_range.mp hx
  cases ho : (outB J.length Lb).testBit x with
  | true => rfl
  | false =>
    rw [Bool.false_or, beq_iff_eq]
    apply Nat.eq_of_testBit_eq
    intro y
    rw [Nat.testBit_and]
    cases hj : (J.getD x 0).testBit y with
    | false => rfl
    | true =>
      rcases cover_yes hR hx hj with h | h
      · rw [ho] at h
        cases h
      · rw [h]
        rfl
end
section
variable (a : Ax)
theorem law_k11 : ∀ ms : List Nat, ms.length ≤ 4000 → ∃ e, b_k11 a (none :: some (.lst (ms.map fun m : Nat => Da.int (m : Int))) :: List.replicate 11 none) = .rt (.bl true) e := by
  intro zs hzs
  obtain ⟨L, st1, e1, hs1, hL⟩ := m_law_next_ok a (m := 6) (SN.of hzs) (by decide)
  have e1 : m_law_next a (zs.map fun m : Nat => Da.int (m : Int)) [.int 6] = _ := e1
  obtain ⟨r, st2, e2, hs2, hr⟩ := m_law_next_ok a (m := 6) hs1 (by decide)
  have e2 : m_law_next a st1 [.int 6] = _ := e2
  have hr5 : r ≤ 5 := by omega
  unfold b_k11
  simp only [mVar_ap, mC_ap, m1_ap, m2_ap, mN_ap, mCons_ap, mNil_ap, mTup_ap, mLst_ap, mT_ap, mTNot_ap, mTAnd_ap, mTOr_ap, mYes_ap, mAnd_ap, mOr_ap, mNot_ap, mIf_ap, mChain_ap, mSeq_ap, mRng1_ap, mRng2_ap, mRngV_ap, mRev_ap, mEnum_ap, mLc_ap, mLc2_ap, mSlL_ap, mSlT_ap, mPart_ap, mNoP_ap, Go_nx, Go_ct, Rt_rt, Bk_bk, runD_ap, runM_ap, runI_ap, ok_bind, ex_bind, fBl_bl, sSeq_ap, sAsg_ap, sNew_ap, sDrop_ap, sRet_ap, sRetN_ap, sIf_ap, sNext_ap, sBreak_ap, sCont_ap, sRaise_ap, sFor_ap, sWhile_ap, sPar_ap, sApp_ap, sExt_ap, sSet_ap, sDelLast_ap, sSet2_ap, sSwap_ap, iFld_ap, iFldS_ap, iSeq_ap, yH_ap, yP_ap, ybH_ap, ybP_ap, yaH_ap, y1_ap, y2_ap, yNil_ap, yCons_ap, yN_ap, yX_ap, yTup_ap, yLst_ap, yT_ap, yTNot_ap, yTAnd_ap, yTOr_ap, yIf_ap, yAnd_ap, yOr_ap, yNot_ap, yM_ap, yPop_ap, yPopAt_ap, yRng1_ap, yRng2_ap, ySeq_ap, yMeth_ap, bindT, bindTs, hide, hideF, wipeG, seqOf_lst, seqOf_tup, lstOf_lst, tupOf_tup, lstAt, getR_some, sca_int, sca_bl, sca_str, sca_non, Option.isSome_some, fLen_1, fRange1_int, fTupOf_1, fListOf_1, fII_int, fIB_int, fU_int, fRevT_1, fBits_int, fInt1_int, fIsi_tt, fIsi_tl, fIsi_ti, fIsi_ii, fIsi_bi, fIsi_ib, fIsi_bb, fIsi2_l, fIsi2_t, List.length_cons, List.length_nil, List.map_cons, List.map_nil, List.cons_append, List.nil_append, List.append_nil, List.getElem?_cons_zero, List.getElem?_cons_succ, List.set_cons_zero, List.set_cons_succ, List.contains_cons, List.contains_nil, Nat.reduceBEq, Bool.or_false, Bool.false_or, Bool.or_true, Bool.true_or, Bool.false_eq_true, if_true, if_false, ite_true, ite_false, ↓reduceIte, reduceCtorEq, Nat.reduceLeDiff, Nat.zero_add, Nat.reduceAdd, Nat.reduceLT, Nat.lt_add_one, bitAnd_nat, bitOr_nat, rep_0, rep_1, rep_2, rep_3, rep_4, rep_5, rep_6, rep_7, rep_8, rep_9, rep_10, rep_11, rep_12, rep_13, rep_14, rep_15, rep_16, rep_17, rep_18, rep_19, rep_20, rep_21, rep_22, rep_23, rep_24, rep_25, rep_26, rep_27, rep_28, rep_29, rep_30, rep_31, rep_32, rep_33, rep_34, rep_35, rep_36, rep_37, rep_38, rep_39, rep_40, and_self, and_true, true_and, decide_true, decide_false, Bool.not_true, Bool.not_false, Bool.and_true, Bool.true_and, Bool.and_false, Bool.false_and, neg_ok1, neg_ok2, Int.sub_zero, dNs_len, List.length_range, Rq_rt, runB_ap, yZip_ap, yB_ap, List.take_succ_cons, List.take_zero, List.drop_succ_cons, List.drop_zero, bring_nil, bring_cons, yLc_ap, sNewY_ap, ybYes_ap, ylcRun_nil, e1, e2, pow_ix hr5, rng_ok (show L ≤ 1000000 by omega), rng_natC, show L ≤ 500000 from by omega]
  generalize hR : ylcRun _ _ _ _ _ _ _ = q
  obtain ⟨_, _, rfl, st3, J, rfl, hJl, hJb, hs3, rfl⟩ := ylc_of hR (fun x : Nat => Da.int (x : Int)) (fun d acc e => ∃ st J, acc = dNs J ∧ J.length = d.length ∧ (∀ z ∈ J, z < 2 ^ r) ∧ SN st ∧ e = [none, some (.lst st), some (.int (L : Int)), some (.int (r : Int)), some (.int ((2 ^ r : Nat) : Int)), none, none, none, none, none, none, none, none]) (List.range L) rfl ⟨st2, [], rfl, rfl, (fun z hz => nomatch hz), hs2, rfl⟩ fun d1 x d2 acc e hx => by
    rintro ⟨st, J, rfl, hJl, hJb, hs, rfl⟩
    obtain ⟨v, st4, h4, hs4, hv⟩ := m_law_next_ok a (m := 2 ^ r) hs (Nat.two_pow_pos r)
    simp only [mVar_ap, mC_ap, m1_ap, m2_ap, mN_ap, mCons_ap, mNil_ap, mTup_ap, mLst_ap, mT_ap, mTNot_ap, mTAnd_ap, mTOr_ap, mYes_ap, mAnd_ap, mOr_ap, mNot_ap, mIf_ap, mChain_ap, mSeq_ap, mRng1_ap, mRng2_ap, mRngV_ap, mRev_ap, mEnum_ap, mLc_ap, mLc2_ap, mSlL_ap, mSlT_ap, mPart_ap, mNoP_ap, Go_nx, Go_ct, Rt_rt, Bk_bk, runD_ap, runM_ap, runI_ap, ok_bind, ex_bind, fBl_bl, sSeq_ap, sAsg_ap, sNew_ap, sDrop_ap, sRet_ap, sRetN_ap, sIf_ap, sNext_ap, sBreak_ap, sCont_ap, sRaise_ap, sFor_ap, sWhile_ap, sPar_ap, sApp_ap, sExt_ap, sSet_ap, sDelLast_ap, sSet2_ap, sSwap_ap, iFld_ap, iFldS_ap, iSeq_ap, yH_ap, yP_ap, ybH_ap, ybP_ap, yaH_ap, y1_ap, y2_ap, yNil_ap, yCons_ap, yN_ap, yX_ap, yTup_ap, yLst_ap, yT_ap, yTNot_ap, yTAnd_ap, yTOr_ap, yIf_ap, yAnd_ap, yOr_ap, yNot_ap, yM_ap, yPop_ap, yPopAt_ap, yRng1_ap, yRng2_ap, ySeq_ap, yMeth_ap, bindT, bindTs, hide, hideF, wipeG, seqOf_lst, seqOf_tup, lstOf_lst, tupOf_tup, lstAt, getR_some, sca_int, sca_bl, sca_str, sca_non, Option.isSome_some, fLen_1, fRange1_int, fTupOf_1, fListOf_1, fII_int, fIB_int, fU_int, fRevT_1, fBits_int, fInt1_int, fIsi_tt, fIsi_tl, fIsi_ti, fIsi_ii, fIsi_bi, fIsi_ib, fIsi_bb, fIsi2_l, fIsi2_t, List.length_cons, List.length_nil, List.map_cons, List.map_nil, List.cons_append, List.nil_append, List.append_nil, List.getElem?_cons_zero, List.getElem?_cons_succ, List.set_cons_zero, List.set_cons_succ, List.contains_cons, List.contains_nil, Nat.reduceBEq, Bool.or_false, Bool.false_or, Bool.or_true, Bool.true_or, Bool.false_eq_true, if_true, if_false, ite_true, ite_false, ↓reduceIte, reduceCtorEq, Nat.reduceLeDiff, Nat.zero_add, Nat.reduceAdd, Nat.reduceLT, Nat.lt_add_one, bitAnd_nat, bitOr_nat, rep_0, rep_1, rep_2, rep_3, rep_4, rep_5, rep_6, rep_7, rep_8, rep_9, rep_10, rep_11, rep_12, rep_13, rep_14, rep_15, rep_16, rep_17, rep_18, rep_19, rep_20, rep_21, rep_22, rep_23, rep_24, rep_25, rep_26, rep_27, rep_28, rep_29, rep_30, rep_31, rep_32, rep_33, rep_34, rep_35, rep_36, rep_37, rep_38, rep_39, rep_40, and_self, and_true, true_and, decide_true, decide_false, Bool.not_true, Bool.not_false, Bool.and_true, Bool.true_and, Bool.and_false, Bool.false_and, neg_ok1, neg_ok2, Int.sub_zero, dNs_len, List.length_range, Rq_rt, runB_ap, yZip_ap, yB_ap, List.take_succ_cons, List.take_zero, List.drop_succ_cons, List.drop_zero, bring_nil, bring_cons, yLc_ap, sNewY_ap, ybYes_ap, ylcRun_nil, h4, Yk_ok]
    exact ⟨st4, J ++ [v], by rw [dNs_snoc], by simp [hJl], fun z hz => by
      rcases List.mem_append.mp hz with hz | hz
      · exact hJb z hz
      · rw [List.mem_singleton.mp hz]
        exact hv, hs4, rfl⟩
  clear hR
  rw [List.length_range] at hJl
  subst hJl
  have hJ : seqOf (.tup (dNs J)) = .ok (dNs J) := rfl
  have hb : ∀ z, z < J.length → J.getD z 0 < 2 ^ r := fun z hz => by
    rw [List.getD_eq_getElem?_getD, List.getElem?_eq_getElem hz]
    exact hJb _ (List.getElem_mem _)
  obtain ⟨hs, ms, h1, h2, h3, h4⟩ := m_largest_matching_ok a (r := r) hJ (by omega) (by omega) hb
  obtain ⟨c, Lb, Rb, c1, c2, c3, c4⟩ := m_least_cover_ok a (r := r) hJ (by omega) (by omega) hb h1 h2 h3
  have hml := h3.len
  have hlt : ∀ x, mtd ms x = true → mv ms x < r := fun x h => by
    rw [← h1]
    exact (List.getElem?_eq_some_iff.mp ((h3.iff _ _).mp (mtd_iff.mp h))).1
  simp only [mVar_ap, mC_ap, m1_ap, m2_ap, mN_ap, mCons_ap, mNil_ap, mTup_ap, mLst_ap, mT_ap, mTNot_ap, mTAnd_ap, mTOr_ap, mYes_ap, mAnd_ap, mOr_ap, mNot_ap, mIf_ap, mChain_ap, mSeq_ap, mRng1_ap, mRng2_ap, mRngV_ap, mRev_ap, mEnum_ap, mLc_ap, mLc2_ap, mSlL_ap, mSlT_ap, mPart_ap, mNoP_ap, Go_nx, Go_ct, Rt_rt, Bk_bk, runD_ap, runM_ap, runI_ap, ok_bind, ex_bind, fBl_bl, sSeq_ap, sAsg_ap, sNew_ap, sDrop_ap, sRet_ap, sRetN_ap, sIf_ap, sNext_ap, sBreak_ap, sCont_ap, sRaise_ap, sFor_ap, sWhile_ap, sPar_ap, sApp_ap, sExt_ap, sSet_ap, sDelLast_ap, sSet2_ap, sSwap_ap, iFld_ap, iFldS_ap, iSeq_ap, yH_ap, yP_ap, ybH_ap, ybP_ap, yaH_ap, y1_ap, y2_ap, yNil_ap, yCons_ap, yN_ap, yX_ap, yTup_ap, yLst_ap, yT_ap, yTNot_ap, yTAnd_ap, yTOr_ap, yIf_ap, yAnd_ap, yOr_ap, yNot_ap, yM_ap, yPop_ap, yPopAt_ap, yRng1_ap, yRng2_ap, ySeq_ap, yMeth_ap, bindT, bindTs, hide, hideF, wipeG, seqOf_lst, seqOf_tup, lstOf_lst, tupOf_tup, lstAt, getR_some, sca_int, sca_bl, sca_str, sca_non, Option.isSome_some, fLen_1, fRange1_int, fTupOf_1, fListOf_1, fII_int, fIB_int, fU_int, fRevT_1, fBits_int, fInt1_int, fIsi_tt, fIsi_tl, fIsi_ti, fIsi_ii, fIsi_bi, fIsi_ib, fIsi_bb, fIsi2_l, fIsi2_t, List.length_cons, List.length_nil, List.map_cons, List.map_nil, List.cons_append, List.nil_append, List.append_nil, List.getElem?_cons_zero, List.getElem?_cons_succ, List.set_cons_zero, List.set_cons_succ, List.contains_cons, List.contains_nil, Nat.reduceBEq, Bool.or_false, Bool.false_or, Bool.or_true, Bool.true_or, Bool.false_eq_true, if_true, if_false, ite_true, ite_false, ↓reduceIte, reduceCtorEq, Nat.reduceLeDiff, Nat.zero_add, Nat.reduceAdd, Nat.reduceLT, Nat.lt_add_one, bitAnd_nat, bitOr_nat, rep_0, rep_1, rep_2, rep_3, rep_4, rep_5, rep_6, rep_7, rep_8, rep_9, rep_10, rep_11, rep_12, rep_13, rep_14, rep_15, rep_16, rep_17, rep_18, rep_19, rep_20, rep_21, rep_22, rep_23, rep_24, rep_25, rep_26, rep_27, rep_28, rep_29, rep_30, rep_31, rep_32, rep_33, rep_34, rep_35, rep_36, rep_37, rep_38, rep_39, rep_40, and_self, and_true, true_and, decide_true, decide_false, Bool.not_true, Bool.not_false, Bool.and_true, Bool.true_and, Bool.and_false, Bool.false_and, neg_ok1, neg_ok2, Int.sub_zero, dNs_len, List.length_range, Rq_rt, runB_ap, yZip_ap, yB_ap, List.take_succ_cons, List.take_zero, List.drop_succ_cons, List.drop_zero, bring_nil, bring_cons, yLc_ap, sNewY_ap, ybYes_ap, ylcRun_nil, h4, c4, rng_ok (show J.length ≤ 1000000 by omega), rng_natC, show J.length ≤ 500000 from by omega]
  generalize hR : forRun _ _ _ _ = q
  obtain ⟨_, rfl, v10, v11, rfl⟩ := for_inv_of hR (fun x : Nat => Da.int (x : Int)) (fun d e => ∃ v10 v11, e = [none, some (.lst st3), some (.int (J.length : Int)), some (.int (r : Int)), some (.int ((2 ^ r : Nat) : Int)), some (.tup (dNs J)), none, some (.tup (dH ms)), some (.tup [.int (outB J.length Lb : Nat), .int (Rb : Int)]), some (.lst (dNs (((List.range d.length).filter (mtd ms)).map (mv ms)))), v10, v11, none]) (List.range J.length) rfl ⟨none, none, rfl⟩ fun d1 x d2 e hx => by
    rintro ⟨v10, v11, rfl⟩
    obtain ⟨rfl, hx2⟩ := range_split hx
    have ho : ms[d1.length]? = some (ms.getD d1.length none) := by
      rw [List.getD_eq_getElem?_getD, List.getElem?_eq_getElem (by omega)]
      rfl
    refine ⟨_, rfl, ?_⟩
    rw [List.length_append, List.length_singleton, List.range_succ, List.filter_append, List.map_append]
    cases hm : mtd ms d1.length with
    | false =>
      have h0 := mtd_no (by omega) hm
      have d0 : decide (hI none = -1) = true := rfl
      simp only [mVar_ap, mC_ap, m1_ap, m2_ap, mN_ap, mCons_ap, mNil_ap, mTup_ap, mLst_ap, mT_ap, mTNot_ap, mTAnd_ap, mTOr_ap, mYes_ap, mAnd_ap, mOr_ap, mNot_ap, mIf_ap, mChain_ap, mSeq_ap, mRng1_ap, mRng2_ap, mRngV_ap, mRev_ap, mEnum_ap, mLc_ap, mLc2_ap, mSlL_ap, mSlT_ap, mPart_ap, mNoP_ap, Go_nx, Go_ct, Rt_rt, Bk_bk, runD_ap, runM_ap, runI_ap, ok_bind, ex_bind, fBl_bl, sSeq_ap, sAsg_ap, sNew_ap, sDrop_ap, sRet_ap, sRetN_ap, sIf_ap, sNext_ap, sBreak_ap, sCont_ap, sRaise_ap, sFor_ap, sWhile_ap, sPar_ap, sApp_ap, sExt_ap, sSet_ap, sDelLast_ap, sSet2_ap, sSwap_ap, iFld_ap, iFldS_ap, iSeq_ap, yH_ap, yP_ap, ybH_ap, ybP_ap, yaH_ap, y1_ap, y2_ap, yNil_ap, yCons_ap, yN_ap, yX_ap, yTup_ap, yLst_ap, yT_ap, yTNot_ap, yTAnd_ap, yTOr_ap, yIf_ap, yAnd_ap, yOr_ap, yNot_ap, yM_ap, yPop_ap, yPopAt_ap, yRng1_ap, yRng2_ap, ySeq_ap, yMeth_ap, bindT, bindTs, hide, hideF, wipeG, seqOf_lst, seqOf_tup, lstOf_lst, tupOf_tup, lstAt, getR_some, sca_int, sca_bl, sca_str, sca_non, Option.isSome_some, fLen_1, fRange1_int, fTupOf_1, fListOf_1, fII_int, fIB_int, fU_int, fRevT_1, fBits_int, fInt1_int, fIsi_tt, fIsi_tl, fIsi_ti, fIsi_ii, fIsi_bi, fIsi_ib, fIsi_bb, fIsi2_l, fIsi2_t, List.length_cons, List.length_nil, List.map_cons, List.map_nil, List.cons_append, List.nil_append, List.append_nil, List.getElem?_cons_zero, List.getElem?_cons_succ, List.set_cons_zero, List.set_cons_succ, List.contains_cons, List.contains_nil, Nat.reduceBEq, Bool.or_false, Bool.false_or, Bool.or_true, Bool.true_or, Bool.false_eq_true, if_true, if_false, ite_true, ite_false, ↓reduceIte, reduceCtorEq, Nat.reduceLeDiff, Nat.zero_add, Nat.reduceAdd, Nat.reduceLT, Nat.lt_add_one, bitAnd_nat, bitOr_nat, rep_0, rep_1, rep_2, rep_3, rep_4, rep_5, rep_6, rep_7, rep_8, rep_9, rep_10, rep_11, rep_12, rep_13, rep_14, rep_15, rep_16, rep_17, rep_18, rep_19, rep_20, rep_21, rep_22, rep_23, rep_24, rep_25, rep_26, rep_27, rep_28, rep_29, rep_30, rep_31, rep_32, rep_33, rep_34, rep_35, rep_36, rep_37, rep_38, rep_39, rep_40, and_self, and_true, true_and, decide_true, decide_false, Bool.not_true, Bool.not_false, Bool.and_true, Bool.true_and, Bool.and_false, Bool.false_and, neg_ok1, neg_ok2, Int.sub_zero, dNs_len, List.length_range, Rq_rt, runB_ap, yZip_ap, yB_ap, List.take_succ_cons, List.take_zero, List.drop_succ_cons, List.drop_zero, bring_nil, bring_cons, yLc_ap, sNewY_ap, ybYes_ap, ylcRun_nil, fIx_tup, dH_at h0, neS_int, d0, List.filter_cons, List.filter_nil, hm]
      exact ⟨_, _, rfl⟩
    | true =>
      have h0 := mtd_iff.mp hm
      have d0 : decide (hI (some (mv ms d1.length)) = -1) = false := hI_none _
      have e0 : hI (some (mv ms d1.length)) = ((mv ms d1.length : Nat) : Int) := rfl
      have hy := hlt _ hm
      have d1' : decide (((mv ms d1.length : Nat) : Int) < 0) = false := decide_eq_false (by omega)
      have d2' : decide ((r : Int) ≤ ((mv ms d1.length : Nat) : Int)) = false := decide_eq_false (by omega)
      have hbit : (J.getD d1.length 0).testBit (mv ms d1.length) = true := (h2.ok _ _ ((h3.iff _ _).mp h0)).2
      have hnot : (((List.range d1.length).filter (mtd ms)).map (mv ms)).contains (mv ms d1.length) = false := by
        rw [Bool.eq_false_iff]
        intro hc
        rw [List.contains_iff_mem] at hc
        obtain ⟨z, hz, e⟩ := List.mem_map.mp hc
        obtain ⟨z1, z2⟩ := List.mem_filter.mp hz
        have := mv_inj h2 h3 z2 hm e
        have := List.mem_range.mp z1
        omega
      have hll : ((List.range d1.length).filter (mtd ms)).length ≤ d1.length := by
        have := List.length_filter_le (mtd ms) (List.range d1.length)
        rw [List.length_range] at this
        exact this
      simp only [mVar_ap, mC_ap, m1_ap, m2_ap, mN_ap, mCons_ap, mNil_ap, mTup_ap, mLst_ap, mT_ap, mTNot_ap, mTAnd_ap, mTOr_ap, mYes_ap, mAnd_ap, mOr_ap, mNot_ap, mIf_ap, mChain_ap, mSeq_ap, mRng1_ap, mRng2_ap, mRngV_ap, mRev_ap, mEnum_ap, mLc_ap, mLc2_ap, mSlL_ap, mSlT_ap, mPart_ap, mNoP_ap, Go_nx, Go_ct, Rt_rt, Bk_bk, runD_ap, runM_ap, runI_ap, ok_bind, ex_bind, fBl_bl, sSeq_ap, sAsg_ap, sNew_ap, sDrop_ap, sRet_ap, sRetN_ap, sIf_ap, sNext_ap, sBreak_ap, sCont_ap, sRaise_ap, sFor_ap, sWhile_ap, sPar_ap, sApp_ap, sExt_ap, sSet_ap, sDelLast_ap, sSet2_ap, sSwap_ap, iFld_ap, iFldS_ap, iSeq_ap, yH_ap, yP_ap, ybH_ap, ybP_ap, yaH_ap, y1_ap, y2_ap, yNil_ap, yCons_ap, yN_ap, yX_ap, yTup_ap, yLst_ap, yT_ap, yTNot_ap, yTAnd_ap, yTOr_ap, yIf_ap, yAnd_ap, yOr_ap, yNot_ap, yM_ap, yPop_ap, yPopAt_ap, yRng1_ap, yRng2_ap, ySeq_ap, yMeth_ap, bindT, bindTs, hide, hideF, wipeG, seqOf_lst, seqOf_tup, lstOf_lst, tupOf_tup, lstAt, getR_some, sca_int, sca_bl, sca_str, sca_non, Option.isSome_some, fLen_1, fRange1_int, fTupOf_1, fListOf_1, fII_int, fIB_int, fU_int, fRevT_1, fBits_int, fInt1_int, fIsi_tt, fIsi_tl, fIsi_ti, fIsi_ii, fIsi_bi, fIsi_ib, fIsi_bb, fIsi2_l, fIsi2_t, List.length_cons, List.length_nil, List.map_cons, List.map_nil, List.cons_append, List.nil_append, List.append_nil, List.getElem?_cons_zero, List.getElem?_cons_succ, List.set_cons_zero, List.set_cons_succ, List.contains_cons, List.contains_nil, Nat.reduceBEq, Bool.or_false, Bool.false_or, Bool.or_true, Bool.true_or, Bool.false_eq_true, if_true, if_false, ite_true, ite_false, ↓reduceIte, reduceCtorEq, Nat.reduceLeDiff, Nat.zero_add, Nat.reduceAdd, Nat.reduceLT, Nat.lt_add_one, bitAnd_nat, bitOr_nat, rep_0, rep_1, rep_2, rep_3, rep_4, rep_5, rep_6, rep_7, rep_8, rep_9, rep_10, rep_11, rep_12, rep_13, rep_14, rep_15, rep_16, rep_17, rep_18, rep_19, rep_20, rep_21, rep_22, rep_23, rep_24, rep_25, rep_26, rep_27, rep_28, rep_29, rep_30, rep_31, rep_32, rep_33, rep_34, rep_35, rep_36, rep_37, rep_38, rep_39, rep_40, and_self, and_true, true_and, decide_true, decide_false, Bool.not_true, Bool.not_false, Bool.and_true, Bool.true_and, Bool.and_false, Bool.false_and, neg_ok1, neg_ok2, Int.sub_zero, dNs_len, List.length_range, Rq_rt, runB_ap, yZip_ap, yB_ap, List.take_succ_cons, List.take_zero, List.drop_succ_cons, List.drop_zero, bring_nil, bring_cons, yLc_ap, sNewY_ap, ybYes_ap, ylcRun_nil, fIx_tup, dH_at h0, neS_int, d0]
      simp only [mVar_ap, mC_ap, m1_ap, m2_ap, mN_ap, mCons_ap, mNil_ap, mTup_ap, mLst_ap, mT_ap, mTNot_ap, mTAnd_ap, mTOr_ap, mYes_ap, mAnd_ap, mOr_ap, mNot_ap, mIf_ap, mChain_ap, mSeq_ap, mRng1_ap, mRng2_ap, mRngV_ap, mRev_ap, mEnum_ap, mLc_ap, mLc2_ap, mSlL_ap, mSlT_ap, mPart_ap, mNoP_ap, Go_nx, Go_ct, Rt_rt, Bk_bk, runD_ap, runM_ap, runI_ap, ok_bind, ex_bind, fBl_bl, sSeq_ap, sAsg_ap, sNew_ap, sDrop_ap, sRet_ap, sRetN_ap, sIf_ap, sNext_ap, sBreak_ap, sCont_ap, sRaise_ap, sFor_ap, sWhile_ap, sPar_ap, sApp_ap, sExt_ap, sSet_ap, sDelLast_ap, sSet2_ap, sSwap_ap, iFld_ap, iFldS_ap, iSeq_ap, yH_ap, yP_ap, ybH_ap, ybP_ap, yaH_ap, y1_ap, y2_ap, yNil_ap, yCons_ap, yN_ap, yX_ap, yTup_ap, yLst_ap, yT_ap, yTNot_ap, yTAnd_ap, yTOr_ap, yIf_ap, yAnd_ap, yOr_ap, yNot_ap, yM_ap, yPop_ap, yPopAt_ap, yRng1_ap, yRng2_ap, ySeq_ap, yMeth_ap, bindT, bindTs, hide, hideF, wipeG, seqOf_lst, seqOf_tup, lstOf_lst, tupOf_tup, lstAt, getR_some, sca_int, sca_bl, sca_str, sca_non, Option.isSome_some, fLen_1, fRange1_int, fTupOf_1, fListOf_1, fII_int, fIB_int, fU_int, fRevT_1, fBits_int, fInt1_int, fIsi_tt, fIsi_tl, fIsi_ti, fIsi_ii, fIsi_bi, fIsi_ib, fIsi_bb, fIsi2_l, fIsi2_t, List.length_cons, List.length_nil, List.map_cons, List.map_nil, List.cons_append, List.nil_append, List.append_nil, List.getElem?_cons_zero, List.getElem?_cons_succ, List.set_cons_zero, List.set_cons_succ, List.contains_cons, List.contains_nil, Nat.reduceBEq, Bool.or_false, Bool.false_or, Bool.or_true, Bool.true_or, Bool.false_eq_true, if_true, if_false, ite_true, ite_false, ↓reduceIte, reduceCtorEq, Nat.reduceLeDiff, Nat.zero_add, Nat.reduceAdd, Nat.reduceLT, Nat.lt_add_one, bitAnd_nat, bitOr_nat, rep_0, rep_1, rep_2, rep_3, rep_4, rep_5, rep_6, rep_7, rep_8, rep_9, rep_10, rep_11, rep_12, rep_13, rep_14, rep_15, rep_16, rep_17, rep_18, rep_19, rep_20, rep_21, rep_22, rep_23, rep_24, rep_25, rep_26, rep_27, rep_28, rep_29, rep_30, rep_31, rep_32, rep_33, rep_34, rep_35, rep_36, rep_37, rep_38, rep_39, rep_40, and_self, and_true, true_and, decide_true, decide_false, Bool.not_true, Bool.not_false, Bool.and_true, Bool.true_and, Bool.and_false, Bool.false_and, neg_ok1, neg_ok2, Int.sub_zero, dNs_len, List.length_range, Rq_rt, runB_ap, yZip_ap, yB_ap, List.take_succ_cons, List.take_zero, List.drop_succ_cons, List.drop_zero, bring_nil, bring_cons, yLc_ap, sNewY_ap, ybYes_ap, ylcRun_nil, e0, d1', d2', J_at hx2, m_law_bit_ok a (J.getD d1.length 0) (show mv ms d1.length ≤ 5 by omega), hbit, in_nat (seqOf_lst _), hnot, dNs_len, List.length_map, show ((List.range d1.length).filter (mtd ms)).length < 1000000 from by omega, List.filter_cons, List.filter_nil, hm, dNs_app1]
      exact ⟨_, _, rfl⟩
  clear hR
  rw [List.length_range]
  simp only [mVar_ap, mC_ap, m1_ap, m2_ap, mN_ap, mCons_ap, mNil_ap, mTup_ap, mLst_ap, mT_ap, mTNot_ap, mTAnd_ap, mTOr_ap, mYes_ap, mAnd_ap, mOr_ap, mNot_ap, mIf_ap, mChain_ap, mSeq_ap, mRng1_ap, mRng2_ap, mRngV_ap, mRev_ap, mEnum_ap, mLc_ap, mLc2_ap, mSlL_ap, mSlT_ap, mPart_ap, mNoP_ap, Go_nx, Go_ct, Rt_rt, Bk_bk, runD_ap, runM_ap, runI_ap, ok_bind, ex_bind, fBl_bl, sSeq_ap, sAsg_ap, sNew_ap, sDrop_ap, sRet_ap, sRetN_ap, sIf_ap, sNext_ap, sBreak_ap, sCont_ap, sRaise_ap, sFor_ap, sWhile_ap, sPar_ap, sApp_ap, sExt_ap, sSet_ap, sDelLast_ap, sSet2_ap, sSwap_ap, iFld_ap, iFldS_ap, iSeq_ap, yH_ap, yP_ap, ybH_ap, ybP_ap, yaH_ap, y1_ap, y2_ap, yNil_ap, yCons_ap, yN_ap, yX_ap, yTup_ap, yLst_ap, yT_ap, yTNot_ap, yTAnd_ap, yTOr_ap, yIf_ap, yAnd_ap, yOr_ap, yNot_ap, yM_ap, yPop_ap, yPopAt_ap, yRng1_ap, yRng2_ap, ySeq_ap, yMeth_ap, bindT, bindTs, hide, hideF, wipeG, seqOf_lst, seqOf_tup, lstOf_lst, tupOf_tup, lstAt, getR_some, sca_int, sca_bl, sca_str, sca_non, Option.isSome_some, fLen_1, fRange1_int, fTupOf_1, fListOf_1, fII_int, fIB_int, fU_int, fRevT_1, fBits_int, fInt1_int, fIsi_tt, fIsi_tl, fIsi_ti, fIsi_ii, fIsi_bi, fIsi_ib, fIsi_bb, fIsi2_l, fIsi2_t, List.length_cons, List.length_nil, List.map_cons, List.map_nil, List.cons_append, List.nil_append, List.append_nil, List.getElem?_cons_zero, List.getElem?_cons_succ, List.set_cons_zero, List.set_cons_succ, List.contains_cons, List.contains_nil, Nat.reduceBEq, Bool.or_false, Bool.false_or, Bool.or_true, Bool.true_or, Bool.false_eq_true, if_true, if_false, ite_true, ite_false, ↓reduceIte, reduceCtorEq, Nat.reduceLeDiff, Nat.zero_add, Nat.reduceAdd, Nat.reduceLT, Nat.lt_add_one, bitAnd_nat, bitOr_nat, rep_0, rep_1, rep_2, rep_3, rep_4, rep_5, rep_6, rep_7, rep_8, rep_9, rep_10, rep_11, rep_12, rep_13, rep_14, rep_15, rep_16, rep_17, rep_18, rep_19, rep_20, rep_21, rep_22, rep_23, rep_24, rep_25, rep_26, rep_27, rep_28, rep_29, rep_30, rep_31, rep_32, rep_33, rep_34, rep_35, rep_36, rep_37, rep_38, rep_39, rep_40, and_self, and_true, true_and, decide_true, decide_false, Bool.not_true, Bool.not_false, Bool.and_true, Bool.true_and, Bool.and_false, Bool.false_and, neg_ok1, neg_ok2, Int.sub_zero, dNs_len, List.length_range, Rq_rt, runB_ap, yZip_ap, yB_ap, List.take_succ_cons, List.take_zero, List.drop_succ_cons, List.drop_zero, bring_nil, bring_cons, yLc_ap, sNewY_ap, ybYes_ap, ylcRun_nil, rng_ok (show J.length ≤ 1000000 by omega), rng_natC, show J.length ≤ 500000 from by omega]
  generalize hR : forRun _ _ _ _ = q
  obtain ⟨_, rfl, v10, v11, rfl⟩ := for_inv_of hR (fun x : Nat => Da.int (x : Int)) (fun d e => ∃ v10 v11, e = [none, some (.lst st3), some (.int (J.length : Int)), some (.int (r : Int)), some (.int ((2 ^ r : Nat) : Int)), some (.tup (dNs J)), none, some (.tup (dH ms)), some (.tup [.int (outB J.length Lb : Nat), .int (Rb : Int)]), some (.lst (dNs (((List.range J.length).filter (mtd ms)).map (mv ms)))), v10, v11, none]) (List.range J.length) rfl ⟨v10, v11, rfl⟩ fun d1 x d2 e hx => by
    rintro ⟨v10, v11, rfl⟩
    obtain ⟨rfl, hx2⟩ := range_split hx
    refine ⟨_, rfl, ?_⟩
    simp only [mVar_ap, mC_ap, m1_ap, m2_ap, mN_ap, mCons_ap, mNil_ap, mTup_ap, mLst_ap, mT_ap, mTNot_ap, mTAnd_ap, mTOr_ap, mYes_ap, mAnd_ap, mOr_ap, mNot_ap, mIf_ap, mChain_ap, mSeq_ap, mRng1_ap, mRng2_ap, mRngV_ap, mRev_ap, mEnum_ap, mLc_ap, mLc2_ap, mSlL_ap, mSlT_ap, mPart_ap, mNoP_ap, Go_nx, Go_ct, Rt_rt, Bk_bk, runD_ap, runM_ap, runI_ap, ok_bind, ex_bind, fBl_bl, sSeq_ap, sAsg_ap, sNew_ap, sDrop_ap, sRet_ap, sRetN_ap, sIf_ap, sNext_ap, sBreak_ap, sCont_ap, sRaise_ap, sFor_ap, sWhile_ap, sPar_ap, sApp_ap, sExt_ap, sSet_ap, sDelLast_ap, sSet2_ap, sSwap_ap, iFld_ap, iFldS_ap, iSeq_ap, yH_ap, yP_ap, ybH_ap, ybP_ap, yaH_ap, y1_ap, y2_ap, yNil_ap, yCons_ap, yN_ap, yX_ap, yTup_ap, yLst_ap, yT_ap, yTNot_ap, yTAnd_ap, yTOr_ap, yIf_ap, yAnd_ap, yOr_ap, yNot_ap, yM_ap, yPop_ap, yPopAt_ap, yRng1_ap, yRng2_ap, ySeq_ap, yMeth_ap, bindT, bindTs, hide, hideF, wipeG, seqOf_lst, seqOf_tup, lstOf_lst, tupOf_tup, lstAt, getR_some, sca_int, sca_bl, sca_str, sca_non, Option.isSome_some, fLen_1, fRange1_int, fTupOf_1, fListOf_1, fII_int, fIB_int, fU_int, fRevT_1, fBits_int, fInt1_int, fIsi_tt, fIsi_tl, fIsi_ti, fIsi_ii, fIsi_bi, fIsi_ib, fIsi_bb, fIsi2_l, fIsi2_t, List.length_cons, List.length_nil, List.map_cons, List.map_nil, List.cons_append, List.nil_append, List.append_nil, List.getElem?_cons_zero, List.getElem?_cons_succ, List.set_cons_zero, List.set_cons_succ, List.contains_cons, List.contains_nil, Nat.reduceBEq, Bool.or_false, Bool.false_or, Bool.or_true, Bool.true_or, Bool.false_eq_true, if_true, if_false, ite_true, ite_false, ↓reduceIte, reduceCtorEq, Nat.reduceLeDiff, Nat.zero_add, Nat.reduceAdd, Nat.reduceLT, Nat.lt_add_one, bitAnd_nat, bitOr_nat, rep_0, rep_1, rep_2, rep_3, rep_4, rep_5, rep_6, rep_7, rep_8, rep_9, rep_10, rep_11, rep_12, rep_13, rep_14, rep_15, rep_16, rep_17, rep_18, rep_19, rep_20, rep_21, rep_22, rep_23, rep_24, rep_25, rep_26, rep_27, rep_28, rep_29, rep_30, rep_31, rep_32, rep_33, rep_34, rep_35, rep_36, rep_37, rep_38, rep_39, rep_40, and_self, and_true, true_and, decide_true, decide_false, Bool.not_true, Bool.not_false, Bool.and_true, Bool.true_and, Bool.and_false, Bool.false_and, neg_ok1, neg_ok2, Int.sub_zero, dNs_len, List.length_range, Rq_rt, runB_ap, yZip_ap, yB_ap, List.take_succ_cons, List.take_zero, List.drop_succ_cons, List.drop_zero, bring_nil, bring_cons, yLc_ap, sNewY_ap, ybYes_ap, ylcRun_nil, rng_ok (show r ≤ 1000000 by omega), rng_natC, show r ≤ 500000 from by omega]
    generalize hR : forRun _ _ _ _ = q
    obtain ⟨_, rfl, v11, rfl⟩ := for_inv_of hR (fun x : Nat => Da.int (x : Int)) (fun d e => ∃ v11, e = [none, some (.lst st3), some (.int (J.length : Int)), some (.int (r : Int)), some (.int ((2 ^ r : Nat) : Int)), some (.tup (dNs J)), none, some (.tup (dH ms)), some (.tup [.int (outB J.length Lb : Nat), .int (Rb : Int)]), some (.lst (dNs (((List.range J.length).filter (mtd ms)).map (mv ms)))), some (.int (d1.length : Int)), v11, none]) (List.range r) rfl ⟨v11, rfl⟩ fun d3 y d4 e hy => by
      rintro ⟨v11, rfl⟩
      obtain ⟨rfl, hy2⟩ := range_split hy
      refine ⟨_, rfl, ?_⟩
      have f1 := m_law_bit_ok a (J.getD d1.length 0) (show d3.length ≤ 5 by omega)
      have f2 := m_law_bit_ok a (outB J.length Lb) (show d1.length ≤ 5 by omega)
      have f3 := m_law_bit_ok a Rb (show d3.length ≤ 5 by omega)
      simp only [mVar_ap, mC_ap, m1_ap, m2_ap, mN_ap, mCons_ap, mNil_ap, mTup_ap, mLst_ap, mT_ap, mTNot_ap, mTAnd_ap, mTOr_ap, mYes_ap, mAnd_ap, mOr_ap, mNot_ap, mIf_ap, mChain_ap, mSeq_ap, mRng1_ap, mRng2_ap, mRngV_ap, mRev_ap, mEnum_ap, mLc_ap, mLc2_ap, mSlL_ap, mSlT_ap, mPart_ap, mNoP_ap, Go_nx, Go_ct, Rt_rt, Bk_bk, runD_ap, runM_ap, runI_ap, ok_bind, ex_bind, fBl_bl, sSeq_ap, sAsg_ap, sNew_ap, sDrop_ap, sRet_ap, sRetN_ap, sIf_ap, sNext_ap, sBreak_ap, sCont_ap, sRaise_ap, sFor_ap, sWhile_ap, sPar_ap, sApp_ap, sExt_ap, sSet_ap, sDelLast_ap, sSet2_ap, sSwap_ap, iFld_ap, iFldS_ap, iSeq_ap, yH_ap, yP_ap, ybH_ap, ybP_ap, yaH_ap, y1_ap, y2_ap, yNil_ap, yCons_ap, yN_ap, yX_ap, yTup_ap, yLst_ap, yT_ap, yTNot_ap, yTAnd_ap, yTOr_ap, yIf_ap, yAnd_ap, yOr_ap, yNot_ap, yM_ap, yPop_ap, yPopAt_ap, yRng1_ap, yRng2_ap, ySeq_ap, yMeth_ap, bindT, bindTs, hide, hideF, wipeG, seqOf_lst, seqOf_tup, lstOf_lst, tupOf_tup, lstAt, getR_some, sca_int, sca_bl, sca_str, sca_non, Option.isSome_some, fLen_1, fRange1_int, fTupOf_1, fListOf_1, fII_int, fIB_int, fU_int, fRevT_1, fBits_int, fInt1_int, fIsi_tt, fIsi_tl, fIsi_ti, fIsi_ii, fIsi_bi, fIsi_ib, fIsi_bb, fIsi2_l, fIsi2_t, List.length_cons, List.length_nil, List.map_cons, List.map_nil, List.cons_append, List.nil_append, List.append_nil, List.getElem?_cons_zero, List.getElem?_cons_succ, List.set_cons_zero, List.set_cons_succ, List.contains_cons, List.contains_nil, Nat.reduceBEq, Bool.or_false, Bool.false_or, Bool.or_true, Bool.true_or, Bool.false_eq_true, if_true, if_false, ite_true, ite_false, ↓reduceIte, reduceCtorEq, Nat.reduceLeDiff, Nat.zero_add, Nat.reduceAdd, Nat.reduceLT, Nat.lt_add_one, bitAnd_nat, bitOr_nat, rep_0, rep_1, rep_2, rep_3, rep_4, rep_5, rep_6, rep_7, rep_8, rep_9, rep_10, rep_11, rep_12, rep_13, rep_14, rep_15, rep_16, rep_17, rep_18, rep_19, rep_20, rep_21, rep_22, rep_23, rep_24, rep_25, rep_26, rep_27, rep_28, rep_29, rep_30, rep_31, rep_32, rep_33, rep_34, rep_35, rep_36, rep_37, rep_38, rep_39, rep_40, and_self, and_true, true_and, decide_true, decide_false, Bool.not_true, Bool.not_false, Bool.and_true, Bool.true_and, Bool.and_false, Bool.false_and, neg_ok1, neg_ok2, Int.sub_zero, dNs_len, List.length_range, Rq_rt, runB_ap, yZip_ap, yB_ap, List.take_succ_cons, List.take_zero, List.drop_succ_cons, List.drop_zero, bring_nil, bring_cons, yLc_ap, sNewY_ap, ybYes_ap, ylcRun_nil, fIx_J hJ hx2, f1]
      cases hj : (J.getD d1.length 0).testBit d3.length with
      | false =>
        simp only [mVar_ap, mC_ap, m1_ap, m2_ap, mN_ap, mCons_ap, mNil_ap, mTup_ap, mLst_ap, mT_ap, mTNot_ap, mTAnd_ap, mTOr_ap, mYes_ap, mAnd_ap, mOr_ap, mNot_ap, mIf_ap, mChain_ap, mSeq_ap, mRng1_ap, mRng2_ap, mRngV_ap, mRev_ap, mEnum_ap, mLc_ap, mLc2_ap, mSlL_ap, mSlT_ap, mPart_ap, mNoP_ap, Go_nx, Go_ct, Rt_rt, Bk_bk, runD_ap, runM_ap, runI_ap, ok_bind, ex_bind, fBl_bl, sSeq_ap, sAsg_ap, sNew_ap, sDrop_ap, sRet_ap, sRetN_ap, sIf_ap, sNext_ap, sBreak_ap, sCont_ap, sRaise_ap, sFor_ap, sWhile_ap, sPar_ap, sApp_ap, sExt_ap, sSet_ap, sDelLast_ap, sSet2_ap, sSwap_ap, iFld_ap, iFldS_ap, iSeq_ap, yH_ap, yP_ap, ybH_ap, ybP_ap, yaH_ap, y1_ap, y2_ap, yNil_ap, yCons_ap, yN_ap, yX_ap, yTup_ap, yLst_ap, yT_ap, yTNot_ap, yTAnd_ap, yTOr_ap, yIf_ap, yAnd_ap, yOr_ap, yNot_ap, yM_ap, yPop_ap, yPopAt_ap, yRng1_ap, yRng2_ap, ySeq_ap, yMeth_ap, bindT, bindTs, hide, hideF, wipeG, seqOf_lst, seqOf_tup, lstOf_lst, tupOf_tup, lstAt, getR_some, sca_int, sca_bl, sca_str, sca_non, Option.isSome_some, fLen_1, fRange1_int, fTupOf_1, fListOf_1, fII_int, fIB_int, fU_int, fRevT_1, fBits_int, fInt1_int, fIsi_tt, fIsi_tl, fIsi_ti, fIsi_ii, fIsi_bi, fIsi_ib, fIsi_bb, fIsi2_l, fIsi2_t, List.length_cons, List.length_nil, List.map_cons, List.map_nil, List.cons_append, List.nil_append, List.append_nil, List.getElem?_cons_zero, List.getElem?_cons_succ, List.set_cons_zero, List.set_cons_succ, List.contains_cons, List.contains_nil, Nat.reduceBEq, Bool.or_false, Bool.false_or, Bool.or_true, Bool.true_or, Bool.false_eq_true, if_true, if_false, ite_true, ite_false, ↓reduceIte, reduceCtorEq, Nat.reduceLeDiff, Nat.zero_add, Nat.reduceAdd, Nat.reduceLT, Nat.lt_add_one, bitAnd_nat, bitOr_nat, rep_0, rep_1, rep_2, rep_3, rep_4, rep_5, rep_6, rep_7, rep_8, rep_9, rep_10, rep_11, rep_12, rep_13, rep_14, rep_15, rep_16, rep_17, rep_18, rep_19, rep_20, rep_21, rep_22, rep_23, rep_24, rep_25, rep_26, rep_27, rep_28, rep_29, rep_30, rep_31, rep_32, rep_33, rep_34, rep_35, rep_36, rep_37, rep_38, rep_39, rep_40, and_self, and_true, true_and, decide_true, decide_false, Bool.not_true, Bool.not_false, Bool.and_true, Bool.true_and, Bool.and_false, Bool.false_and, neg_ok1, neg_ok2, Int.sub_zero, dNs_len, List.length_range, Rq_rt, runB_ap, yZip_ap, yB_ap, List.take_succ_cons, List.take_zero, List.drop_succ_cons, List.drop_zero, bring_nil, bring_cons, yLc_ap, sNewY_ap, ybYes_ap, ylcRun_nil]
        exact ⟨_, rfl⟩
      | true =>
        simp only [mVar_ap, mC_ap, m1_ap, m2_ap, mN_ap, mCons_ap, mNil_ap, mTup_ap, mLst_ap, mT_ap, mTNot_ap, mTAnd_ap, mTOr_ap, mYes_ap, mAnd_ap, mOr_ap, mNot_ap, mIf_ap, mChain_ap, mSeq_ap, mRng1_ap, mRng2_ap, mRngV_ap, mRev_ap, mEnum_ap, mLc_ap, mLc2_ap, mSlL_ap, mSlT_ap, mPart_ap, mNoP_ap, Go_nx, Go_ct, Rt_rt, Bk_bk, runD_ap, runM_ap, runI_ap, ok_bind, ex_bind, fBl_bl, sSeq_ap, sAsg_ap, sNew_ap, sDrop_ap, sRet_ap, sRetN_ap, sIf_ap, sNext_ap, sBreak_ap, sCont_ap, sRaise_ap, sFor_ap, sWhile_ap, sPar_ap, sApp_ap, sExt_ap, sSet_ap, sDelLast_ap, sSet2_ap, sSwap_ap, iFld_ap, iFldS_ap, iSeq_ap, yH_ap, yP_ap, ybH_ap, ybP_ap, yaH_ap, y1_ap, y2_ap, yNil_ap, yCons_ap, yN_ap, yX_ap, yTup_ap, yLst_ap, yT_ap, yTNot_ap, yTAnd_ap, yTOr_ap, yIf_ap, yAnd_ap, yOr_ap, yNot_ap, yM_ap, yPop_ap, yPopAt_ap, yRng1_ap, yRng2_ap, ySeq_ap, yMeth_ap, bindT, bindTs, hide, hideF, wipeG, seqOf_lst, seqOf_tup, lstOf_lst, tupOf_tup, lstAt, getR_some, sca_int, sca_bl, sca_str, sca_non, Option.isSome_some, fLen_1, fRange1_int, fTupOf_1, fListOf_1, fII_int, fIB_int, fU_int, fRevT_1, fBits_int, fInt1_int, fIsi_tt, fIsi_tl, fIsi_ti, fIsi_ii, fIsi_bi, fIsi_ib, fIsi_bb, fIsi2_l, fIsi2_t, List.length_cons, List.length_nil, List.map_cons, List.map_nil, List.cons_append, List.nil_append, List.append_nil, List.getElem?_cons_zero, List.getElem?_cons_succ, List.set_cons_zero, List.set_cons_succ, List.contains_cons, List.contains_nil, Nat.reduceBEq, Bool.or_false, Bool.false_or, Bool.or_true, Bool.true_or, Bool.false_eq_true, if_true, if_false, ite_true, ite_false, ↓reduceIte, reduceCtorEq, Nat.reduceLeDiff, Nat.zero_add, Nat.reduceAdd, Nat.reduceLT, Nat.lt_add_one, bitAnd_nat, bitOr_nat, rep_0, rep_1, rep_2, rep_3, rep_4, rep_5, rep_6, rep_7, rep_8, rep_9, rep_10, rep_11, rep_12, rep_13, rep_14, rep_15, rep_16, rep_17, rep_18, rep_19, rep_20, rep_21, rep_22, rep_23, rep_24, rep_25, rep_26, rep_27, rep_28, rep_29, rep_30, rep_31, rep_32, rep_33, rep_34, rep_35, rep_36, rep_37, rep_38, rep_39, rep_40, and_self, and_true, true_and, decide_true, decide_false, Bool.not_true, Bool.not_false, Bool.and_true, Bool.true_and, Bool.and_false, Bool.false_and, neg_ok1, neg_ok2, Int.sub_zero, dNs_len, List.length_range, Rq_rt, runB_ap, yZip_ap, yB_ap, List.take_succ_cons, List.take_zero, List.drop_succ_cons, List.drop_zero, bring_nil, bring_cons, yLc_ap, sNewY_ap, ybYes_ap, ylcRun_nil, fIx_tup0, f2]
        rcases cover_yes c2 hx2 hj with h | h
        · simp only [mVar_ap, mC_ap, m1_ap, m2_ap, mN_ap, mCons_ap, mNil_ap, mTup_ap, mLst_ap, mT_ap, mTNot_ap, mTAnd_ap, mTOr_ap, mYes_ap, mAnd_ap, mOr_ap, mNot_ap, mIf_ap, mChain_ap, mSeq_ap, mRng1_ap, mRng2_ap, mRngV_ap, mRev_ap, mEnum_ap, mLc_ap, mLc2_ap, mSlL_ap, mSlT_ap, mPart_ap, mNoP_ap, Go_nx, Go_ct, Rt_rt, Bk_bk, runD_ap, runM_ap, runI_ap, ok_bind, ex_bind, fBl_bl, sSeq_ap, sAsg_ap, sNew_ap, sDrop_ap, sRet_ap, sRetN_ap, sIf_ap, sNext_ap, sBreak_ap, sCont_ap, sRaise_ap, sFor_ap, sWhile_ap, sPar_ap, sApp_ap, sExt_ap, sSet_ap, sDelLast_ap, sSet2_ap, sSwap_ap, iFld_ap, iFldS_ap, iSeq_ap, yH_ap, yP_ap, ybH_ap, ybP_ap, yaH_ap, y1_ap, y2_ap, yNil_ap, yCons_ap, yN_ap, yX_ap, yTup_ap, yLst_ap, yT_ap, yTNot_ap, yTAnd_ap, yTOr_ap, yIf_ap, yAnd_ap, yOr_ap, yNot_ap, yM_ap, yPop_ap, yPopAt_ap, yRng1_ap, yRng2_ap, ySeq_ap, yMeth_ap, bindT, bindTs, hide, hideF, wipeG, seqOf_lst, seqOf_tup, lstOf_lst, tupOf_tup, lstAt, getR_some, sca_int, sca_bl, sca_str, sca_non, Option.isSome_some, fLen_1, fRange1_int, fTupOf_1, fListOf_1, fII_int, fIB_int, fU_int, fRevT_1, fBits_int, fInt1_int, fIsi_tt, fIsi_tl, fIsi_ti, fIsi_ii, fIsi_bi, fIsi_ib, fIsi_bb, fIsi2_l, fIsi2_t, List.length_cons, List.length_nil, List.map_cons, List.map_nil, List.cons_append, List.nil_append, List.append_nil, List.getElem?_cons_zero, List.getElem?_cons_succ, List.set_cons_zero, List.set_cons_succ, List.contains_cons, List.contains_nil, Nat.reduceBEq, Bool.or_false, Bool.false_or, Bool.or_true, Bool.true_or, Bool.false_eq_true, if_true, if_false, ite_true, ite_false, ↓reduceIte, reduceCtorEq, Nat.reduceLeDiff, Nat.zero_add, Nat.reduceAdd, Nat.reduceLT, Nat.lt_add_one, bitAnd_nat, bitOr_nat, rep_0, rep_1, rep_2, rep_3, rep_4, rep_5, rep_6, rep_7, rep_8, rep_9, rep_10, rep_11, rep_12, rep_13, rep_14, rep_15, rep_16, rep_17, rep_18, rep_19, rep_20, rep_21, rep_22, rep_23, rep_24, rep_25, rep_26, rep_27, rep_28, rep_29, rep_30, rep_31, rep_32, rep_33, rep_34, rep_35, rep_36, rep_37, rep_38, rep_39, rep_40, and_self, and_true, true_and, decide_true, decide_false, Bool.not_true, Bool.not_false, Bool.and_true, Bool.true_and, Bool.and_false, Bool.false_and, neg_ok1, neg_ok2, Int.sub_zero, dNs_len, List.length_range, Rq_rt, runB_ap, yZip_ap, yB_ap, List.take_succ_cons, List.take_zero, List.drop_succ_cons, List.drop_zero, bring_nil, bring_cons, yLc_ap, sNewY_ap, ybYes_ap, ylcRun_nil, h]
          exact ⟨_, rfl⟩
        · cases (outB J.length Lb).testBit d1.length with
          | true =>
            simp only [mVar_ap, mC_ap, m1_ap, m2_ap, mN_ap, mCons_ap, mNil_ap, mTup_ap, mLst_ap, mT_ap, mTNot_ap, mTAnd_ap, mTOr_ap, mYes_ap, mAnd_ap, mOr_ap, mNot_ap, mIf_ap, mChain_ap, mSeq_ap, mRng1_ap, mRng2_ap, mRngV_ap, mRev_ap, mEnum_ap, mLc_ap, mLc2_ap, mSlL_ap, mSlT_ap, mPart_ap, mNoP_ap, Go_nx, Go_ct, Rt_rt, Bk_bk, runD_ap, runM_ap, runI_ap, ok_bind, ex_bind, fBl_bl, sSeq_ap, sAsg_ap, sNew_ap, sDrop_ap, sRet_ap, sRetN_ap, sIf_ap, sNext_ap, sBreak_ap, sCont_ap, sRaise_ap, sFor_ap, sWhile_ap, sPar_ap, sApp_ap, sExt_ap, sSet_ap, sDelLast_ap, sSet2_ap, sSwap_ap, iFld_ap, iFldS_ap, iSeq_ap, yH_ap, yP_ap, ybH_ap, ybP_ap, yaH_ap, y1_ap, y2_ap, yNil_ap, yCons_ap, yN_ap, yX_ap, yTup_ap, yLst_ap, yT_ap, yTNot_ap, yTAnd_ap, yTOr_ap, yIf_ap, yAnd_ap, yOr_ap, yNot_ap, yM_ap, yPop_ap, yPopAt_ap, yRng1_ap, yRng2_ap, ySeq_ap, yMeth_ap, bindT, bindTs, hide, hideF, wipeG, seqOf_lst, seqOf_tup, lstOf_lst, tupOf_tup, lstAt, getR_some, sca_int, sca_bl, sca_str, sca_non, Option.isSome_some, fLen_1, fRange1_int, fTupOf_1, fListOf_1, fII_int, fIB_int, fU_int, fRevT_1, fBits_int, fInt1_int, fIsi_tt, fIsi_tl, fIsi_ti, fIsi_ii, fIsi_bi, fIsi_ib, fIsi_bb, fIsi2_l, fIsi2_t, List.length_cons, List.length_nil, List.map_cons, List.map_nil, List.cons_append, List.nil_append, List.append_nil, List.getElem?_cons_zero, List.getElem?_cons_succ, List.set_cons_zero, List.set_cons_succ, List.contains_cons, List.contains_nil, Nat.reduceBEq, Bool.or_false, Bool.false_or, Bool.or_true, Bool.true_or, Bool.false_eq_true, if_true, if_false, ite_true, ite_false, ↓reduceIte, reduceCtorEq, Nat.reduceLeDiff, Nat.zero_add, Nat.reduceAdd, Nat.reduceLT, Nat.lt_add_one, bitAnd_nat, bitOr_nat, rep_0, rep_1, rep_2, rep_3, rep_4, rep_5, rep_6, rep_7, rep_8, rep_9, rep_10, rep_11, rep_12, rep_13, rep_14, rep_15, rep_16, rep_17, rep_18, rep_19, rep_20, rep_21, rep_22, rep_23, rep_24, rep_25, rep_26, rep_27, rep_28, rep_29, rep_30, rep_31, rep_32, rep_33, rep_34, rep_35, rep_36, rep_37, rep_38, rep_39, rep_40, and_self, and_true, true_and, decide_true, decide_false, Bool.not_true, Bool.not_false, Bool.and_true, Bool.true_and, Bool.and_false, Bool.false_and, neg_ok1, neg_ok2, Int.sub_zero, dNs_len, List.length_range, Rq_rt, runB_ap, yZip_ap, yB_ap, List.take_succ_cons, List.take_zero, List.drop_succ_cons, List.drop_zero, bring_nil, bring_cons, yLc_ap, sNewY_ap, ybYes_ap, ylcRun_nil]
            exact ⟨_, rfl⟩
          | false =>
            simp only [mVar_ap, mC_ap, m1_ap, m2_ap, mN_ap, mCons_ap, mNil_ap, mTup_ap, mLst_ap, mT_ap, mTNot_ap, mTAnd_ap, mTOr_ap, mYes_ap, mAnd_ap, mOr_ap, mNot_ap, mIf_ap, mChain_ap, mSeq_ap, mRng1_ap, mRng2_ap, mRngV_ap, mRev_ap, mEnum_ap, mLc_ap, mLc2_ap, mSlL_ap, mSlT_ap, mPart_ap, mNoP_ap, Go_nx, Go_ct, Rt_rt, Bk_bk, runD_ap, runM_ap, runI_ap, ok_bind, ex_bind, fBl_bl, sSeq_ap, sAsg_ap, sNew_ap, sDrop_ap, sRet_ap, sRetN_ap, sIf_ap, sNext_ap, sBreak_ap, sCont_ap, sRaise_ap, sFor_ap, sWhile_ap, sPar_ap, sApp_ap, sExt_ap, sSet_ap, sDelLast_ap, sSet2_ap, sSwap_ap, iFld_ap, iFldS_ap, iSeq_ap, yH_ap, yP_ap, ybH_ap, ybP_ap, yaH_ap, y1_ap, y2_ap, yNil_ap, yCons_ap, yN_ap, yX_ap, yTup_ap, yLst_ap, yT_ap, yTNot_ap, yTAnd_ap, yTOr_ap, yIf_ap, yAnd_ap, yOr_ap, yNot_ap, yM_ap, yPop_ap, yPopAt_ap, yRng1_ap, yRng2_ap, ySeq_ap, yMeth_ap, bindT, bindTs, hide, hideF, wipeG, seqOf_lst, seqOf_tup, lstOf_lst, tupOf_tup, lstAt, getR_some, sca_int, sca_bl, sca_str, sca_non, Option.isSome_some, fLen_1, fRange1_int, fTupOf_1, fListOf_1, fII_int, fIB_int, fU_int, fRevT_1, fBits_int, fInt1_int, fIsi_tt, fIsi_tl, fIsi_ti, fIsi_ii, fIsi_bi, fIsi_ib, fIsi_bb, fIsi2_l, fIsi2_t, List.length_cons, List.length_nil, List.map_cons, List.map_nil, List.cons_append, List.nil_append, List.append_nil, List.getElem?_cons_zero, List.getElem?_cons_succ, List.set_cons_zero, List.set_cons_succ, List.contains_cons, List.contains_nil, Nat.reduceBEq, Bool.or_false, Bool.false_or, Bool.or_true, Bool.true_or, Bool.false_eq_true, if_true, if_false, ite_true, ite_false, ↓reduceIte, reduceCtorEq, Nat.reduceLeDiff, Nat.zero_add, Nat.reduceAdd, Nat.reduceLT, Nat.lt_add_one, bitAnd_nat, bitOr_nat, rep_0, rep_1, rep_2, rep_3, rep_4, rep_5, rep_6, rep_7, rep_8, rep_9, rep_10, rep_11, rep_12, rep_13, rep_14, rep_15, rep_16, rep_17, rep_18, rep_19, rep_20, rep_21, rep_22, rep_23, rep_24, rep_25, rep_26, rep_27, rep_28, rep_29, rep_30, rep_31, rep_32, rep_33, rep_34, rep_35, rep_36, rep_37, rep_38, rep_39, rep_40, and_self, and_true, true_and, decide_true, decide_false, Bool.not_true, Bool.not_false, Bool.and_true, Bool.true_and, Bool.and_false, Bool.false_and, neg_ok1, neg_ok2, Int.sub_zero, dNs_len, List.length_range, Rq_rt, runB_ap, yZip_ap, yB_ap, List.take_succ_cons, List.take_zero, List.drop_succ_cons, List.drop_zero, bring_nil, bring_cons, yLc_ap, sNewY_ap, ybYes_ap, ylcRun_nil, fIx_tup1, f3, h]
            exact ⟨_, rfl⟩
    simp only [mVar_ap, mC_ap, m1_ap, m2_ap, mN_ap, mCons_ap, mNil_ap, mTup_ap, mLst_ap, mT_ap, mTNot_ap, mTAnd_ap, mTOr_ap, mYes_ap, mAnd_ap, mOr_ap, mNot_ap, mIf_ap, mChain_ap, mSeq_ap, mRng1_ap, mRng2_ap, mRngV_ap, mRev_ap, mEnum_ap, mLc_ap, mLc2_ap, mSlL_ap, mSlT_ap, mPart_ap, mNoP_ap, Go_nx, Go_ct, Rt_rt, Bk_bk, runD_ap, runM_ap, runI_ap, ok_bind, ex_bind, fBl_bl, sSeq_ap, sAsg_ap, sNew_ap, sDrop_ap, sRet_ap, sRetN_ap, sIf_ap, sNext_ap, sBreak_ap, sCont_ap, sRaise_ap, sFor_ap, sWhile_ap, sPar_ap, sApp_ap, sExt_ap, sSet_ap, sDelLast_ap, sSet2_ap, sSwap_ap, iFld_ap, iFldS_ap, iSeq_ap, yH_ap, yP_ap, ybH_ap, ybP_ap, yaH_ap, y1_ap, y2_ap, yNil_ap, yCons_ap, yN_ap, yX_ap, yTup_ap, yLst_ap, yT_ap, yTNot_ap, yTAnd_ap, yTOr_ap, yIf_ap, yAnd_ap, yOr_ap, yNot_ap, yM_ap, yPop_ap, yPopAt_ap, yRng1_ap, yRng2_ap, ySeq_ap, yMeth_ap, bindT, bindTs, hide, hideF, wipeG, seqOf_lst, seqOf_tup, lstOf_lst, tupOf_tup, lstAt, getR_some, sca_int, sca_bl, sca_str, sca_non, Option.isSome_some, fLen_1, fRange1_int, fTupOf_1, fListOf_1, fII_int, fIB_int, fU_int, fRevT_1, fBits_int, fInt1_int, fIsi_tt, fIsi_tl, fIsi_ti, fIsi_ii, fIsi_bi, fIsi_ib, fIsi_bb, fIsi2_l, fIsi2_t, List.length_cons, List.length_nil, List.map_cons, List.map_nil, List.cons_append, List.nil_append, List.append_nil, List.getElem?_cons_zero, List.getElem?_cons_succ, List.set_cons_zero, List.set_cons_succ, List.contains_cons, List.contains_nil, Nat.reduceBEq, Bool.or_false, Bool.false_or, Bool.or_true, Bool.true_or, Bool.false_eq_true, if_true, if_false, ite_true, ite_false, ↓reduceIte, reduceCtorEq, Nat.reduceLeDiff, Nat.zero_add, Nat.reduceAdd, Nat.reduceLT, Nat.lt_add_one, bitAnd_nat, bitOr_nat, rep_0, rep_1, rep_2, rep_3, rep_4, rep_5, rep_6, rep_7, rep_8, rep_9, rep_10, rep_11, rep_12, rep_13, rep_14, rep_15, rep_16, rep_17, rep_18, rep_19, rep_20, rep_21, rep_22, rep_23, rep_24, rep_25, rep_26, rep_27, rep_28, rep_29, rep_30, rep_31, rep_32, rep_33, rep_34, rep_35, rep_36, rep_37, rep_38, rep_39, rep_40, and_self, and_true, true_and, decide_true, decide_false, Bool.not_true, Bool.not_false, Bool.and_true, Bool.true_and, Bool.and_false, Bool.false_and, neg_ok1, neg_ok2, Int.sub_zero, dNs_len, List.length_range, Rq_rt, runB_ap, yZip_ap, yB_ap, List.take_succ_cons, List.take_zero, List.drop_succ_cons, List.drop_zero, bring_nil, bring_cons, yLc_ap, sNewY_ap, ybYes_ap, ylcRun_nil]
    exact ⟨_, _, rfl⟩
  clear hR
  simp only [mVar_ap, mC_ap, m1_ap, m2_ap, mN_ap, mCons_ap, mNil_ap, mTup_ap, mLst_ap, mT_ap, mTNot_ap, mTAnd_ap, mTOr_ap, mYes_ap, mAnd_ap, mOr_ap, mNot_ap, mIf_ap, mChain_ap, mSeq_ap, mRng1_ap, mRng2_ap, mRngV_ap, mRev_ap, mEnum_ap, mLc_ap, mLc2_ap, mSlL_ap, mSlT_ap, mPart_ap, mNoP_ap, Go_nx, Go_ct, Rt_rt, Bk_bk, runD_ap, runM_ap, runI_ap, ok_bind, ex_bind, fBl_bl, sSeq_ap, sAsg_ap, sNew_ap, sDrop_ap, sRet_ap, sRetN_ap, sIf_ap, sNext_ap, sBreak_ap, sCont_ap, sRaise_ap, sFor_ap, sWhile_ap, sPar_ap, sApp_ap, sExt_ap, sSet_ap, sDelLast_ap, sSet2_ap, sSwap_ap, iFld_ap, iFldS_ap, iSeq_ap, yH_ap, yP_ap, ybH_ap, ybP_ap, yaH_ap, y1_ap, y2_ap, yNil_ap, yCons_ap, yN_ap, yX_ap, yTup_ap, yLst_ap, yT_ap, yTNot_ap, yTAnd_ap, yTOr_ap, yIf_ap, yAnd_ap, yOr_ap, yNot_ap, yM_ap, yPop_ap, yPopAt_ap, yRng1_ap, yRng2_ap, ySeq_ap, yMeth_ap, bindT, bindTs, hide, hideF, wipeG, seqOf_lst, seqOf_tup, lstOf_lst, tupOf_tup, lstAt, getR_some, sca_int, sca_bl, sca_str, sca_non, Option.isSome_some, fLen_1, fRange1_int, fTupOf_1, fListOf_1, fII_int, fIB_int, fU_int, fRevT_1, fBits_int, fInt1_int, fIsi_tt, fIsi_tl, fIsi_ti, fIsi_ii, fIsi_bi, fIsi_ib, fIsi_bb, fIsi2_l, fIsi2_t, List.length_cons, List.length_nil, List.map_cons, List.map_nil, List.cons_append, List.nil_append, List.append_nil, List.getElem?_cons_zero, List.getElem?_cons_succ, List.set_cons_zero, List.set_cons_succ, List.contains_cons, List.contains_nil, Nat.reduceBEq, Bool.or_false, Bool.false_or, Bool.or_true, Bool.true_or, Bool.false_eq_true, if_true, if_false, ite_true, ite_false, ↓reduceIte, reduceCtorEq, Nat.reduceLeDiff, Nat.zero_add, Nat.reduceAdd, Nat.reduceLT, Nat.lt_add_one, bitAnd_nat, bitOr_nat, rep_0, rep_1, rep_2, rep_3, rep_4, rep_5, rep_6, rep_7, rep_8, rep_9, rep_10, rep_11, rep_12, rep_13, rep_14, rep_15, rep_16, rep_17, rep_18, rep_19, rep_20, rep_21, rep_22, rep_23, rep_24, rep_25, rep_26, rep_27, rep_28, rep_29, rep_30, rep_31, rep_32, rep_33, rep_34, rep_35, rep_36, rep_37, rep_38, rep_39, rep_40, and_self, and_true, true_and, decide_true, decide_false, Bool.not_true, Bool.not_false, Bool.and_true, Bool.true_and, Bool.and_false, Bool.false_and, neg_ok1, neg_ok2, Int.sub_zero, dNs_len, List.length_range, Rq_rt, runB_ap, yZip_ap, yB_ap, List.take_succ_cons, List.take_zero, List.drop_succ_cons, List.drop_zero, bring_nil, bring_cons, yLc_ap, sNewY_ap, ybYes_ap, ylcRun_nil, rng_ok (show J.length ≤ 1000000 by omega), rng_natC, show J.length ≤ 500000 from by omega, rng_ok (show r ≤ 1000000 by omega), rng_natC, show r ≤ 500000 from by omega]
  generalize hR : lcRun _ _ _ _ _ = q
  rw [lc_of hR (fun x : Nat => Da.int (x : Int)) (fun x => (outB J.length Lb).testBit x) (fun x : Nat => Da.int (x : Int)) (List.range J.length) rfl fun x hx => ⟨_, rfl, by
    have hx := List.mem_range.mp hx
    simp only [mVar_ap, mC_ap, m1_ap, m2_ap, mN_ap, mCons_ap, mNil_ap, mTup_ap, mLst_ap, mT_ap, mTNot_ap, mTAnd_ap, mTOr_ap, mYes_ap, mAnd_ap, mOr_ap, mNot_ap, mIf_ap, mChain_ap, mSeq_ap, mRng1_ap, mRng2_ap, mRngV_ap, mRev_ap, mEnum_ap, mLc_ap, mLc2_ap, mSlL_ap, mSlT_ap, mPart_ap, mNoP_ap, Go_nx, Go_ct, Rt_rt, Bk_bk, runD_ap, runM_ap, runI_ap, ok_bind, ex_bind, fBl_bl, sSeq_ap, sAsg_ap, sNew_ap, sDrop_ap, sRet_ap, sRetN_ap, sIf_ap, sNext_ap, sBreak_ap, sCont_ap, sRaise_ap, sFor_ap, sWhile_ap, sPar_ap, sApp_ap, sExt_ap, sSet_ap, sDelLast_ap, sSet2_ap, sSwap_ap, iFld_ap, iFldS_ap, iSeq_ap, yH_ap, yP_ap, ybH_ap, ybP_ap, yaH_ap, y1_ap, y2_ap, yNil_ap, yCons_ap, yN_ap, yX_ap, yTup_ap, yLst_ap, yT_ap, yTNot_ap, yTAnd_ap, yTOr_ap, yIf_ap, yAnd_ap, yOr_ap, yNot_ap, yM_ap, yPop_ap, yPopAt_ap, yRng1_ap, yRng2_ap, ySeq_ap, yMeth_ap, bindT, bindTs, hide, hideF, wipeG, seqOf_lst, seqOf_tup, lstOf_lst, tupOf_tup, lstAt, getR_some, sca_int, sca_bl, sca_str, sca_non, Option.isSome_some, fLen_1, fRange1_int, fTupOf_1, fListOf_1, fII_int, fIB_int, fU_int, fRevT_1, fBits_int, fInt1_int, fIsi_tt, fIsi_tl, fIsi_ti, fIsi_ii, fIsi_bi, fIsi_ib, fIsi_bb, fIsi2_l, fIsi2_t, List.length_cons, List.length_nil, List.map_cons, List.map_nil, List.cons_append, List.nil_append, List.append_nil, List.getElem?_cons_zero, List.getElem?_cons_succ, List.set_cons_zero, List.set_cons_succ, List.contains_cons, List.contains_nil, Nat.reduceBEq, Bool.or_false, Bool.false_or, Bool.or_true, Bool.true_or, Bool.false_eq_true, if_true, if_false, ite_true, ite_false, ↓reduceIte, reduceCtorEq, Nat.reduceLeDiff, Nat.zero_add, Nat.reduceAdd, Nat.reduceLT, Nat.lt_add_one, bitAnd_nat, bitOr_nat, rep_0, rep_1, rep_2, rep_3, rep_4, rep_5, rep_6, rep_7, rep_8, rep_9, rep_10, rep_11, rep_12, rep_13, rep_14, rep_15, rep_16, rep_17, rep_18, rep_19, rep_20, rep_21, rep_22, rep_23, rep_24, rep_25, rep_26, rep_27, rep_28, rep_29, rep_30, rep_31, rep_32, rep_33, rep_34, rep_35, rep_36, rep_37, rep_38, rep_39, rep_40, and_self, and_true, true_and, decide_true, decide_false, Bool.not_true, Bool.not_false, Bool.and_true, Bool.true_and, Bool.and_false, Bool.false_and, neg_ok1, neg_ok2, Int.sub_zero, dNs_len, List.length_range, Rq_rt, runB_ap, yZip_ap, yB_ap, List.take_succ_cons, List.take_zero, List.drop_succ_cons, List.drop_zero, bring_nil, bring_cons, yLc_ap, sNewY_ap, ybYes_ap, ylcRun_nil, fIx_tup0, m_law_bit_ok a (outB J.length Lb) (show x ≤ 5 by omega)], fun _ => by simp only [mVar_ap, mC_ap, m1_ap, m2_ap, mN_ap, mCons_ap, mNil_ap, mTup_ap, mLst_ap, mT_ap, mTNot_ap, mTAnd_ap, mTOr_ap, mYes_ap, mAnd_ap, mOr_ap, mNot_ap, mIf_ap, mChain_ap, mSeq_ap, mRng1_ap, mRng2_ap, mRngV_ap, mRev_ap, mEnum_ap, mLc_ap, mLc2_ap, mSlL_ap, mSlT_ap, mPart_ap, mNoP_ap, Go_nx, Go_ct, Rt_rt, Bk_bk, runD_ap, runM_ap, runI_ap, ok_bind, ex_bind, fBl_bl, sSeq_ap, sAsg_ap, sNew_ap, sDrop_ap, sRet_ap, sRetN_ap, sIf_ap, sNext_ap, sBreak_ap, sCont_ap, sRaise_ap, sFor_ap, sWhile_ap, sPar_ap, sApp_ap, sExt_ap, sSet_ap, sDelLast_ap, sSet2_ap, sSwap_ap, iFld_ap, iFldS_ap, iSeq_ap, yH_ap, yP_ap, ybH_ap, ybP_ap, yaH_ap, y1_ap, y2_ap, yNil_ap, yCons_ap, yN_ap, yX_ap, yTup_ap, yLst_ap, yT_ap, yTNot_ap, yTAnd_ap, yTOr_ap, yIf_ap, yAnd_ap, yOr_ap, yNot_ap, yM_ap, yPop_ap, yPopAt_ap, yRng1_ap, yRng2_ap, ySeq_ap, yMeth_ap, bindT, bindTs, hide, hideF, wipeG, seqOf_lst, seqOf_tup, lstOf_lst, tupOf_tup, lstAt, getR_some, sca_int, sca_bl, sca_str, sca_non, Option.isSome_some, fLen_1, fRange1_int, fTupOf_1, fListOf_1, fII_int, fIB_int, fU_int, fRevT_1, fBits_int, fInt1_int, fIsi_tt, fIsi_tl, fIsi_ti, fIsi_ii, fIsi_bi, fIsi_ib, fIsi_bb, fIsi2_l, fIsi2_t, List.length_cons, List.length_nil, List.map_cons, List.map_nil, List.cons_append, List.nil_append, List.append_nil, List.getElem?_cons_zero, List.getElem?_cons_succ, List.set_cons_zero, List.set_cons_succ, List.contains_cons, List.contains_nil, Nat.reduceBEq, Bool.or_false, Bool.false_or, Bool.or_true, Bool.true_or, Bool.false_eq_true, if_true, if_false, ite_true, ite_false, ↓reduceIte, reduceCtorEq, Nat.reduceLeDiff, Nat.zero_add, Nat.reduceAdd, Nat.reduceLT, Nat.lt_add_one, bitAnd_nat, bitOr_nat, rep_0, rep_1, rep_2, rep_3, rep_4, rep_5, rep_6, rep_7, rep_8, rep_9, rep_10, rep_11, rep_12, rep_13, rep_14, rep_15, rep_16, rep_17, rep_18, rep_19, rep_20, rep_21, rep_22, rep_23, rep_24, rep_25, rep_26, rep_27, rep_28, rep_29, rep_30, rep_31, rep_32, rep_33, rep_34, rep_35, rep_36, rep_37, rep_38, rep_39, rep_40, and_self, and_true, true_and, decide_true, decide_false, Bool.not_true, Bool.not_false, Bool.and_true, Bool.true_and, Bool.and_false, Bool.false_and, neg_ok1, neg_ok2, Int.sub_zero, dNs_len, List.length_range, Rq_rt, runB_ap, yZip_ap, yB_ap, List.take_succ_cons, List.take_zero, List.drop_succ_cons, List.drop_zero, bring_nil, bring_cons, yLc_ap, sNewY_ap, ybYes_ap, ylcRun_nil]⟩]
  clear hR
  simp only [mVar_ap, mC_ap, m1_ap, m2_ap, mN_ap, mCons_ap, mNil_ap, mTup_ap, mLst_ap, mT_ap, mTNot_ap, mTAnd_ap, mTOr_ap, mYes_ap, mAnd_ap, mOr_ap, mNot_ap, mIf_ap, mChain_ap, mSeq_ap, mRng1_ap, mRng2_ap, mRngV_ap, mRev_ap, mEnum_ap, mLc_ap, mLc2_ap, mSlL_ap, mSlT_ap, mPart_ap, mNoP_ap, Go_nx, Go_ct, Rt_rt, Bk_bk, runD_ap, runM_ap, runI_ap, ok_bind, ex_bind, fBl_bl, sSeq_ap, sAsg_ap, sNew_ap, sDrop_ap, sRet_ap, sRetN_ap, sIf_ap, sNext_ap, sBreak_ap, sCont_ap, sRaise_ap, sFor_ap, sWhile_ap, sPar_ap, sApp_ap, sExt_ap, sSet_ap, sDelLast_ap, sSet2_ap, sSwap_ap, iFld_ap, iFldS_ap, iSeq_ap, yH_ap, yP_ap, ybH_ap, ybP_ap, yaH_ap, y1_ap, y2_ap, yNil_ap, yCons_ap, yN_ap, yX_ap, yTup_ap, yLst_ap, yT_ap, yTNot_ap, yTAnd_ap, yTOr_ap, yIf_ap, yAnd_ap, yOr_ap, yNot_ap, yM_ap, yPop_ap, yPopAt_ap, yRng1_ap, yRng2_ap, ySeq_ap, yMeth_ap, bindT, bindTs, hide, hideF, wipeG, seqOf_lst, seqOf_tup, lstOf_lst, tupOf_tup, lstAt, getR_some, sca_int, sca_bl, sca_str, sca_non, Option.isSome_some, fLen_1, fRange1_int, fTupOf_1, fListOf_1, fII_int, fIB_int, fU_int, fRevT_1, fBits_int, fInt1_int, fIsi_tt, fIsi_tl, fIsi_ti, fIsi_ii, fIsi_bi, fIsi_ib, fIsi_bb, fIsi2_l, fIsi2_t, List.length_cons, List.length_nil, List.map_cons, List.map_nil, List.cons_append, List.nil_append, List.append_nil, List.getElem?_cons_zero, List.getElem?_cons_succ, List.set_cons_zero, List.set_cons_succ, List.contains_cons, List.contains_nil, Nat.reduceBEq, Bool.or_false, Bool.false_or, Bool.or_true, Bool.true_or, Bool.false_eq_true, if_true, if_false, ite_true, ite_false, ↓reduceIte, reduceCtorEq, Nat.reduceLeDiff, Nat.zero_add, Nat.reduceAdd, Nat.reduceLT, Nat.lt_add_one, bitAnd_nat, bitOr_nat, rep_0, rep_1, rep_2, rep_3, rep_4, rep_5, rep_6, rep_7, rep_8, rep_9, rep_10, rep_11, rep_12, rep_13, rep_14, rep_15, rep_16, rep_17, rep_18, rep_19, rep_20, rep_21, rep_22, rep_23, rep_24, rep_25, rep_26, rep_27, rep_28, rep_29, rep_30, rep_31, rep_32, rep_33, rep_34, rep_35, rep_36, rep_37, rep_38, rep_39, rep_40, and_self, and_true, true_and, decide_true, decide_false, Bool.not_true, Bool.not_false, Bool.and_true, Bool.true_and, Bool.and_false, Bool.false_and, neg_ok1, neg_ok2, Int.sub_zero, dNs_len, List.length_range, Rq_rt, runB_ap, yZip_ap, yB_ap, List.take_succ_cons, List.take_zero, List.drop_succ_cons, List.drop_zero, bring_nil, bring_cons, yLc_ap, sNewY_ap, ybYes_ap, ylcRun_nil, List.length_map]
  generalize hR : lcRun _ _ _ _ _ = q
  rw [lc_of hR (fun x : Nat => Da.int (x : Int)) (fun y => Rb.testBit y) (fun x : Nat => Da.int (x : Int)) (List.range r) rfl fun x hx => ⟨_, rfl, by
    have hx := List.mem_range.mp hx
    simp only [mVar_ap, mC_ap, m1_ap, m2_ap, mN_ap, mCons_ap, mNil_ap, mTup_ap, mLst_ap, mT_ap, mTNot_ap, mTAnd_ap, mTOr_ap, mYes_ap, mAnd_ap, mOr_ap, mNot_ap, mIf_ap, mChain_ap, mSeq_ap, mRng1_ap, mRng2_ap, mRngV_ap, mRev_ap, mEnum_ap, mLc_ap, mLc2_ap, mSlL_ap, mSlT_ap, mPart_ap, mNoP_ap, Go_nx, Go_ct, Rt_rt, Bk_bk, runD_ap, runM_ap, runI_ap, ok_bind, ex_bind, fBl_bl, sSeq_ap, sAsg_ap, sNew_ap, sDrop_ap, sRet_ap, sRetN_ap, sIf_ap, sNext_ap, sBreak_ap, sCont_ap, sRaise_ap, sFor_ap, sWhile_ap, sPar_ap, sApp_ap, sExt_ap, sSet_ap, sDelLast_ap, sSet2_ap, sSwap_ap, iFld_ap, iFldS_ap, iSeq_ap, yH_ap, yP_ap, ybH_ap, ybP_ap, yaH_ap, y1_ap, y2_ap, yNil_ap, yCons_ap, yN_ap, yX_ap, yTup_ap, yLst_ap, yT_ap, yTNot_ap, yTAnd_ap, yTOr_ap, yIf_ap, yAnd_ap, yOr_ap, yNot_ap, yM_ap, yPop_ap, yPopAt_ap, yRng1_ap, yRng2_ap, ySeq_ap, yMeth_ap, bindT, bindTs, hide, hideF, wipeG, seqOf_lst, seqOf_tup, lstOf_lst, tupOf_tup, lstAt, getR_some, sca_int, sca_bl, sca_str, sca_non, Option.isSome_some, fLen_1, fRange1_int, fTupOf_1, fListOf_1, fII_int, fIB_int, fU_int, fRevT_1, fBits_int, fInt1_int, fIsi_tt, fIsi_tl, fIsi_ti, fIsi_ii, fIsi_bi, fIsi_ib, fIsi_bb, fIsi2_l, fIsi2_t, List.length_cons, List.length_nil, List.map_cons, List.map_nil, List.cons_append, List.nil_append, List.append_nil, List.getElem?_cons_zero, List.getElem?_cons_succ, List.set_cons_zero, List.set_cons_succ, List.contains_cons, List.contains_nil, Nat.reduceBEq, Bool.or_false, Bool.false_or, Bool.or_true, Bool.true_or, Bool.false_eq_true, if_true, if_false, ite_true, ite_false, ↓reduceIte, reduceCtorEq, Nat.reduceLeDiff, Nat.zero_add, Nat.reduceAdd, Nat.reduceLT, Nat.lt_add_one, bitAnd_nat, bitOr_nat, rep_0, rep_1, rep_2, rep_3, rep_4, rep_5, rep_6, rep_7, rep_8, rep_9, rep_10, rep_11, rep_12, rep_13, rep_14, rep_15, rep_16, rep_17, rep_18, rep_19, rep_20, rep_21, rep_22, rep_23, rep_24, rep_25, rep_26, rep_27, rep_28, rep_29, rep_30, rep_31, rep_32, rep_33, rep_34, rep_35, rep_36, rep_37, rep_38, rep_39, rep_40, and_self, and_true, true_and, decide_true, decide_false, Bool.not_true, Bool.not_false, Bool.and_true, Bool.true_and, Bool.and_false, Bool.false_and, neg_ok1, neg_ok2, Int.sub_zero, dNs_len, List.length_range, Rq_rt, runB_ap, yZip_ap, yB_ap, List.take_succ_cons, List.take_zero, List.drop_succ_cons, List.drop_zero, bring_nil, bring_cons, yLc_ap, sNewY_ap, ybYes_ap, ylcRun_nil, fIx_tup1, m_law_bit_ok a Rb (show x ≤ 5 by omega)], fun _ => by simp only [mVar_ap, mC_ap, m1_ap, m2_ap, mN_ap, mCons_ap, mNil_ap, mTup_ap, mLst_ap, mT_ap, mTNot_ap, mTAnd_ap, mTOr_ap, mYes_ap, mAnd_ap, mOr_ap, mNot_ap, mIf_ap, mChain_ap, mSeq_ap, mRng1_ap, mRng2_ap, mRngV_ap, mRev_ap, mEnum_ap, mLc_ap, mLc2_ap, mSlL_ap, mSlT_ap, mPart_ap, mNoP_ap, Go_nx, Go_ct, Rt_rt, Bk_bk, runD_ap, runM_ap, runI_ap, ok_bind, ex_bind, fBl_bl, sSeq_ap, sAsg_ap, sNew_ap, sDrop_ap, sRet_ap, sRetN_ap, sIf_ap, sNext_ap, sBreak_ap, sCont_ap, sRaise_ap, sFor_ap, sWhile_ap, sPar_ap, sApp_ap, sExt_ap, sSet_ap, sDelLast_ap, sSet2_ap, sSwap_ap, iFld_ap, iFldS_ap, iSeq_ap, yH_ap, yP_ap, ybH_ap, ybP_ap, yaH_ap, y1_ap, y2_ap, yNil_ap, yCons_ap, yN_ap, yX_ap, yTup_ap, yLst_ap, yT_ap, yTNot_ap, yTAnd_ap, yTOr_ap, yIf_ap, yAnd_ap, yOr_ap, yNot_ap, yM_ap, yPop_ap, yPopAt_ap, yRng1_ap, yRng2_ap, ySeq_ap, yMeth_ap, bindT, bindTs, hide, hideF, wipeG, seqOf_lst, seqOf_tup, lstOf_lst, tupOf_tup, lstAt, getR_some, sca_int, sca_bl, sca_str, sca_non, Option.isSome_some, fLen_1, fRange1_int, fTupOf_1, fListOf_1, fII_int, fIB_int, fU_int, fRevT_1, fBits_int, fInt1_int, fIsi_tt, fIsi_tl, fIsi_ti, fIsi_ii, fIsi_bi, fIsi_ib, fIsi_bb, fIsi2_l, fIsi2_t, List.length_cons, List.length_nil, List.map_cons, List.map_nil, List.cons_append, List.nil_append, List.append_nil, List.getElem?_cons_zero, List.getElem?_cons_succ, List.set_cons_zero, List.set_cons_succ, List.contains_cons, List.contains_nil, Nat.reduceBEq, Bool.or_false, Bool.false_or, Bool.or_true, Bool.true_or, Bool.false_eq_true, if_true, if_false, ite_true, ite_false, ↓reduceIte, reduceCtorEq, Nat.reduceLeDiff, Nat.zero_add, Nat.reduceAdd, Nat.reduceLT, Nat.lt_add_one, bitAnd_nat, bitOr_nat, rep_0, rep_1, rep_2, rep_3, rep_4, rep_5, rep_6, rep_7, rep_8, rep_9, rep_10, rep_11, rep_12, rep_13, rep_14, rep_15, rep_16, rep_17, rep_18, rep_19, rep_20, rep_21, rep_22, rep_23, rep_24, rep_25, rep_26, rep_27, rep_28, rep_29, rep_30, rep_31, rep_32, rep_33, rep_34, rep_35, rep_36, rep_37, rep_38, rep_39, rep_40, and_self, and_true, true_and, decide_true, decide_false, Bool.not_true, Bool.not_false, Bool.and_true, Bool.true_and, Bool.and_false, Bool.false_and, neg_ok1, neg_ok2, Int.sub_zero, dNs_len, List.length_range, Rq_rt, runB_ap, yZip_ap, yB_ap, List.take_succ_cons, List.take_zero, List.drop_succ_cons, List.drop_zero, bring_nil, bring_cons, yLc_ap, sNewY_ap, ybYes_ap, ylcRun_nil]⟩]
  clear hR
  have hsz := cover_eq h2 h3 h1 c1 c2
  have dml : decide ((ms.length : Int) = (J.length : Int)) = true := decide_eq_true (by omega)
  have dsz : decide ((((List.range J.length).filter fun x => (outB J.length Lb).testBit x).length : Int) + (((List.range r).filter fun y => Rb.testBit y).length : Int) = (((List.range J.length).filter (mtd ms)).length : Int)) = true := decide_eq_true (by omega)
  have hkm : ∀ x y : Nat, ms[x]? = some (some y) → y < 1000 := fun x y h => by
    have := hlt x (mtd_some h)
    rw [mv_some h] at this
    omega
  have g1 := m_is_matching_ok a hJ hml (by omega) hkm
  rw [match_yes h2 h3 (by omega)] at g1
  have g2 := m_is_cover_ok a (L := outB J.length Lb) (R := Rb) hJ (by omega) (bitsOf_lt _ _)
  rw [cover_is c2] at g2
  have g3 : m_is_matching a [.tup (dNs J), .tup (dH ms ++ [.int (-1)])] = .ok (.bl false) := by
    have := m_is_matching_len a (ks := ms ++ [none]) hJ (by rw [List.length_append, List.length_singleton]; omega)
    rw [← dH_app] at this
    exact this
  have g4 : fCatT (.tup (dH ms)) (.tup [.int (-1)]) = .ok (.tup (dH ms ++ [.int (-1)])) := fCatT_ok (by rw [dH_len, List.length_singleton]; omega)
  simp only [mVar_ap, mC_ap, m1_ap, m2_ap, mN_ap, mCons_ap, mNil_ap, mTup_ap, mLst_ap, mT_ap, mTNot_ap, mTAnd_ap, mTOr_ap, mYes_ap, mAnd_ap, mOr_ap, mNot_ap, mIf_ap, mChain_ap, mSeq_ap, mRng1_ap, mRng2_ap, mRngV_ap, mRev_ap, mEnum_ap, mLc_ap, mLc2_ap, mSlL_ap, mSlT_ap, mPart_ap, mNoP_ap, Go_nx, Go_ct, Rt_rt, Bk_bk, runD_ap, runM_ap, runI_ap, ok_bind, ex_bind, fBl_bl, sSeq_ap, sAsg_ap, sNew_ap, sDrop_ap, sRet_ap, sRetN_ap, sIf_ap, sNext_ap, sBreak_ap, sCont_ap, sRaise_ap, sFor_ap, sWhile_ap, sPar_ap, sApp_ap, sExt_ap, sSet_ap, sDelLast_ap, sSet2_ap, sSwap_ap, iFld_ap, iFldS_ap, iSeq_ap, yH_ap, yP_ap, ybH_ap, ybP_ap, yaH_ap, y1_ap, y2_ap, yNil_ap, yCons_ap, yN_ap, yX_ap, yTup_ap, yLst_ap, yT_ap, yTNot_ap, yTAnd_ap, yTOr_ap, yIf_ap, yAnd_ap, yOr_ap, yNot_ap, yM_ap, yPop_ap, yPopAt_ap, yRng1_ap, yRng2_ap, ySeq_ap, yMeth_ap, bindT, bindTs, hide, hideF, wipeG, seqOf_lst, seqOf_tup, lstOf_lst, tupOf_tup, lstAt, getR_some, sca_int, sca_bl, sca_str, sca_non, Option.isSome_some, fLen_1, fRange1_int, fTupOf_1, fListOf_1, fII_int, fIB_int, fU_int, fRevT_1, fBits_int, fInt1_int, fIsi_tt, fIsi_tl, fIsi_ti, fIsi_ii, fIsi_bi, fIsi_ib, fIsi_bb, fIsi2_l, fIsi2_t, List.length_cons, List.length_nil, List.map_cons, List.map_nil, List.cons_append, List.nil_append, List.append_nil, List.getElem?_cons_zero, List.getElem?_cons_succ, List.set_cons_zero, List.set_cons_succ, List.contains_cons, List.contains_nil, Nat.reduceBEq, Bool.or_false, Bool.false_or, Bool.or_true, Bool.true_or, Bool.false_eq_true, if_true, if_false, ite_true, ite_false, ↓reduceIte, reduceCtorEq, Nat.reduceLeDiff, Nat.zero_add, Nat.reduceAdd, Nat.reduceLT, Nat.lt_add_one, bitAnd_nat, bitOr_nat, rep_0, rep_1, rep_2, rep_3, rep_4, rep_5, rep_6, rep_7, rep_8, rep_9, rep_10, rep_11, rep_12, rep_13, rep_14, rep_15, rep_16, rep_17, rep_18, rep_19, rep_20, rep_21, rep_22, rep_23, rep_24, rep_25, rep_26, rep_27, rep_28, rep_29, rep_30, rep_31, rep_32, rep_33, rep_34, rep_35, rep_36, rep_37, rep_38, rep_39, rep_40, and_self, and_true, true_and, decide_true, decide_false, Bool.not_true, Bool.not_false, Bool.and_true, Bool.true_and, Bool.and_false, Bool.false_and, neg_ok1, neg_ok2, Int.sub_zero, dNs_len, List.length_range, Rq_rt, runB_ap, yZip_ap, yB_ap, List.take_succ_cons, List.take_zero, List.drop_succ_cons, List.drop_zero, bring_nil, bring_cons, yLc_ap, sNewY_ap, ybYes_ap, ylcRun_nil, List.length_map, dH_len, dml, neS_int, dsz, g1, g2, g4, g3, rng_ok (show J.length ≤ 1000000 by omega), rng_natC, show J.length ≤ 500000 from by omega]
  generalize hR : forRun _ _ _ _ = q
  obtain ⟨_, rfl, v10, v11, rfl⟩ := for_inv_of hR (fun x : Nat => Da.int (x : Int)) (fun d e => ∃ v10 v11, e = [none, some (.lst st3), some (.int (J.length : Int)), some (.int (r : Int)), some (.int ((2 ^ r : Nat) : Int)), some (.tup (dNs J)), none, some (.tup (dH ms)), some (.tup [.int (outB J.length Lb : Nat), .int (Rb : Int)]), some (.lst (dNs (((List.range J.length).filter (mtd ms)).map (mv ms)))), v10, v11, some (.int ((((List.range J.length).filter fun x => (outB J.length Lb).testBit x).length : Int) + (((List.range r).filter fun y => Rb.testBit y).length : Int)))]) (List.range J.length) rfl ⟨v10, v11, rfl⟩ fun d1 x d2 e hx => by
    rintro ⟨v10, v11, rfl⟩
    obtain ⟨rfl, hx2⟩ := range_split hx
    refine ⟨_, rfl, ?_⟩
    simp only [mVar_ap, mC_ap, m1_ap, m2_ap, mN_ap, mCons_ap, mNil_ap, mTup_ap, mLst_ap, mT_ap, mTNot_ap, mTAnd_ap, mTOr_ap, mYes_ap, mAnd_ap, mOr_ap, mNot_ap, mIf_ap, mChain_ap, mSeq_ap, mRng1_ap, mRng2_ap, mRngV_ap, mRev_ap, mEnum_ap, mLc_ap, mLc2_ap, mSlL_ap, mSlT_ap, mPart_ap, mNoP_ap, Go_nx, Go_ct, Rt_rt, Bk_bk, runD_ap, runM_ap, runI_ap, ok_bind, ex_bind, fBl_bl, sSeq_ap, sAsg_ap, sNew_ap, sDrop_ap, sRet_ap, sRetN_ap, sIf_ap, sNext_ap, sBreak_ap, sCont_ap, sRaise_ap, sFor_ap, sWhile_ap, sPar_ap, sApp_ap, sExt_ap, sSet_ap, sDelLast_ap, sSet2_ap, sSwap_ap, iFld_ap, iFldS_ap, iSeq_ap, yH_ap, yP_ap, ybH_ap, ybP_ap, yaH_ap, y1_ap, y2_ap, yNil_ap, yCons_ap, yN_ap, yX_ap, yTup_ap, yLst_ap, yT_ap, yTNot_ap, yTAnd_ap, yTOr_ap, yIf_ap, yAnd_ap, yOr_ap, yNot_ap, yM_ap, yPop_ap, yPopAt_ap, yRng1_ap, yRng2_ap, ySeq_ap, yMeth_ap, bindT, bindTs, hide, hideF, wipeG, seqOf_lst, seqOf_tup, lstOf_lst, tupOf_tup, lstAt, getR_some, sca_int, sca_bl, sca_str, sca_non, Option.isSome_some, fLen_1, fRange1_int, fTupOf_1, fListOf_1, fII_int, fIB_int, fU_int, fRevT_1, fBits_int, fInt1_int, fIsi_tt, fIsi_tl, fIsi_ti, fIsi_ii, fIsi_bi, fIsi_ib, fIsi_bb, fIsi2_l, fIsi2_t, List.length_cons, List.length_nil, List.map_cons, List.map_nil, List.cons_append, List.nil_append, List.append_nil, List.getElem?_cons_zero, List.getElem?_cons_succ, List.set_cons_zero, List.set_cons_succ, List.contains_cons, List.contains_nil, Nat.reduceBEq, Bool.or_false, Bool.false_or, Bool.or_true, Bool.true_or, Bool.false_eq_true, if_true, if_false, ite_true, ite_false, ↓reduceIte, reduceCtorEq, Nat.reduceLeDiff, Nat.zero_add, Nat.reduceAdd, Nat.reduceLT, Nat.lt_add_one, bitAnd_nat, bitOr_nat, rep_0, rep_1, rep_2, rep_3, rep_4, rep_5, rep_6, rep_7, rep_8, rep_9, rep_10, rep_11, rep_12, rep_13, rep_14, rep_15, rep_16, rep_17, rep_18, rep_19, rep_20, rep_21, rep_22, rep_23, rep_24, rep_25, rep_26, rep_27, rep_28, rep_29, rep_30, rep_31, rep_32, rep_33, rep_34, rep_35, rep_36, rep_37, rep_38, rep_39, rep_40, and_self, and_true, true_and, decide_true, decide_false, Bool.not_true, Bool.not_false, Bool.and_true, Bool.true_and, Bool.and_false, Bool.false_and, neg_ok1, neg_ok2, Int.sub_zero, dNs_len, List.length_range, Rq_rt, runB_ap, yZip_ap, yB_ap, List.take_succ_cons, List.take_zero, List.drop_succ_cons, List.drop_zero, bring_nil, bring_cons, yLc_ap, sNewY_ap, ybYes_ap, ylcRun_nil, rng_ok (show r ≤ 1000000 by omega), rng_natC, show r ≤ 500000 from by omega]
    generalize hR : forRun _ _ _ _ = q
    obtain ⟨_, rfl, v11, rfl⟩ := for_inv_of hR (fun x : Nat => Da.int (x : Int)) (fun d e => ∃ v11, e = [none, some (.lst st3), some (.int (J.length : Int)), some (.int (r : Int)), some (.int ((2 ^ r : Nat) : Int)), some (.tup (dNs J)), none, some (.tup (dH ms)), some (.tup [.int (outB J.length Lb : Nat), .int (Rb : Int)]), some (.lst (dNs (((List.range J.length).filter (mtd ms)).map (mv ms)))), some (.int (d1.length : Int)), v11, some (.int ((((List.range J.length).filter fun x => (outB J.length Lb).testBit x).length : Int) + (((List.range r).filter fun y => Rb.testBit y).length : Int)))]) (List.range r) rfl ⟨v11, rfl⟩ fun d3 y d4 e hy => by
      rintro ⟨v11, rfl⟩
      obtain ⟨rfl, hy2⟩ := range_split hy
      refine ⟨_, rfl, ?_⟩
      have f1 := m_law_bit_ok a (J.getD d1.length 0) (show d3.length ≤ 5 by omega)
      cases hj : (J.getD d1.length 0).testBit d3.length with
      | false =>
        have k1 : fCatT (.tup (dH (ms.take d1.length))) (.tup [.int (d3.length : Int)]) = .ok (.tup (dH (ms.take d1.length ++ [some d3.length]))) := by
          rw [fCatT_ok (by rw [dH_len, List.length_take, List.length_singleton]; omega), ← dH_app]
          rfl
        have k2 : fCatT (.tup (dH (ms.take d1.length ++ [some d3.length]))) (.tup (dH (ms.drop (d1.length + 1)))) = .ok (.tup (dH (ms.set d1.length (some d3.length)))) := by
          rw [fCatT_ok (by rw [dH_len, dH_len, List.length_append, List.length_take, List.length_drop, List.length_singleton]; omega), dH_app, List.set_eq_take_append_cons_drop, if_pos (by omega), List.append_assoc]
          rfl
        have k3 := m_is_matching_ok a (ks := ms.set d1.length (some d3.length)) hJ (by rw [List.length_set]; exact hml) (by rw [List.length_set]; omega) fun x y h => by
          rw [List.getElem?_set] at h
          split at h
          · split at h
            · cases h
              omega
            · cases h
          · exact hkm x y h
        have hat : (ms.set d1.length (some d3.length))[d1.length]? = some (some d3.length) := by simp [show d1.length < ms.length by omega]
        have k4 : isMB J (ms.set d1.length (some d3.length)) = false := by
          unfold isMB
          rw [show (mIdx (ms.set d1.length (some d3.length))).all (fun i => (J.getD i 0).testBit (mv (ms.set d1.length (some d3.length)) i)) = false from by
            rw [List.all_eq_false]
            refine ⟨d1.length, List.mem_filter.mpr ⟨List.mem_range.mpr (by rw [List.length_set]; omega), mtd_some hat⟩, ?_⟩
            rw [mv_some hat, hj]
            decide]
          rfl
        rw [k4] at k3
        simp only [mVar_ap, mC_ap, m1_ap, m2_ap, mN_ap, mCons_ap, mNil_ap, mTup_ap, mLst_ap, mT_ap, mTNot_ap, mTAnd_ap, mTOr_ap, mYes_ap, mAnd_ap, mOr_ap, mNot_ap, mIf_ap, mChain_ap, mSeq_ap, mRng1_ap, mRng2_ap, mRngV_ap, mRev_ap, mEnum_ap, mLc_ap, mLc2_ap, mSlL_ap, mSlT_ap, mPart_ap, mNoP_ap, Go_nx, Go_ct, Rt_rt, Bk_bk, runD_ap, runM_ap, runI_ap, ok_bind, ex_bind, fBl_bl, sSeq_ap, sAsg_ap, sNew_ap, sDrop_ap, sRet_ap, sRetN_ap, sIf_ap, sNext_ap, sBreak_ap, sCont_ap, sRaise_ap, sFor_ap, sWhile_ap, sPar_ap, sApp_ap, sExt_ap, sSet_ap, sDelLast_ap, sSet2_ap, sSwap_ap, iFld_ap, iFldS_ap, iSeq_ap, yH_ap, yP_ap, ybH_ap, ybP_ap, yaH_ap, y1_ap, y2_ap, yNil_ap, yCons_ap, yN_ap, yX_ap, yTup_ap, yLst_ap, yT_ap, yTNot_ap, yTAnd_ap, yTOr_ap, yIf_ap, yAnd_ap, yOr_ap, yNot_ap, yM_ap, yPop_ap, yPopAt_ap, yRng1_ap, yRng2_ap, ySeq_ap, yMeth_ap, bindT, bindTs, hide, hideF, wipeG, seqOf_lst, seqOf_tup, lstOf_lst, tupOf_tup, lstAt, getR_some, sca_int, sca_bl, sca_str, sca_non, Option.isSome_some, fLen_1, fRange1_int, fTupOf_1, fListOf_1, fII_int, fIB_int, fU_int, fRevT_1, fBits_int, fInt1_int, fIsi_tt, fIsi_tl, fIsi_ti, fIsi_ii, fIsi_bi, fIsi_ib, fIsi_bb, fIsi2_l, fIsi2_t, List.length_cons, List.length_nil, List.map_cons, List.map_nil, List.cons_append, List.nil_append, List.append_nil, List.getElem?_cons_zero, List.getElem?_cons_succ, List.set_cons_zero, List.set_cons_succ, List.contains_cons, List.contains_nil, Nat.reduceBEq, Bool.or_false, Bool.false_or, Bool.or_true, Bool.true_or, Bool.false_eq_true, if_true, if_false, ite_true, ite_false, ↓reduceIte, reduceCtorEq, Nat.reduceLeDiff, Nat.zero_add, Nat.reduceAdd, Nat.reduceLT, Nat.lt_add_one, bitAnd_nat, bitOr_nat, rep_0, rep_1, rep_2, rep_3, rep_4, rep_5, rep_6, rep_7, rep_8, rep_9, rep_10, rep_11, rep_12, rep_13, rep_14, rep_15, rep_16, rep_17, rep_18, rep_19, rep_20, rep_21, rep_22, rep_23, rep_24, rep_25, rep_26, rep_27, rep_28, rep_29, rep_30, rep_31, rep_32, rep_33, rep_34, rep_35, rep_36, rep_37, rep_38, rep_39, rep_40, and_self, and_true, true_and, decide_true, decide_false, Bool.not_true, Bool.not_false, Bool.and_true, Bool.true_and, Bool.and_false, Bool.false_and, neg_ok1, neg_ok2, Int.sub_zero, dNs_len, List.length_range, Rq_rt, runB_ap, yZip_ap, yB_ap, List.take_succ_cons, List.take_zero, List.drop_succ_cons, List.drop_zero, bring_nil, bring_cons, yLc_ap, sNewY_ap, ybYes_ap, ylcRun_nil, fIx_J hJ hx2, f1, hj, cut_to, dH_take, cast_succ, cut_from, dH_drop, k1, k2, k3]
        exact ⟨_, rfl⟩
      | true =>
        have k0 : m_is_cover a [.tup (dNs J), .tup [.int 0, .int 0]] = .ok (.bl (isCB J 0 0)) := m_is_cover_ok a (L := 0) (R := 0) hJ (by omega) (Nat.two_pow_pos _)
        have k1 : isCB J 0 0 = false := by
          unfold isCB
          rw [List.all_eq_false]
          refine ⟨d1.length, List.mem_range.mpr hx2, ?_⟩
          rw [Nat.zero_testBit, Nat.and_zero, Bool.false_or]
          intro h
          rw [beq_iff_eq] at h
          rw [← h, Nat.zero_testBit] at hj
          cases hj
        rw [k1] at k0
        simp only [mVar_ap, mC_ap, m1_ap, m2_ap, mN_ap, mCons_ap, mNil_ap, mTup_ap, mLst_ap, mT_ap, mTNot_ap, mTAnd_ap, mTOr_ap, mYes_ap, mAnd_ap, mOr_ap, mNot_ap, mIf_ap, mChain_ap, mSeq_ap, mRng1_ap, mRng2_ap, mRngV_ap, mRev_ap, mEnum_ap, mLc_ap, mLc2_ap, mSlL_ap, mSlT_ap, mPart_ap, mNoP_ap, Go_nx, Go_ct, Rt_rt, Bk_bk, runD_ap, runM_ap, runI_ap, ok_bind, ex_bind, fBl_bl, sSeq_ap, sAsg_ap, sNew_ap, sDrop_ap, sRet_ap, sRetN_ap, sIf_ap, sNext_ap, sBreak_ap, sCont_ap, sRaise_ap, sFor_ap, sWhile_ap, sPar_ap, sApp_ap, sExt_ap, sSet_ap, sDelLast_ap, sSet2_ap, sSwap_ap, iFld_ap, iFldS_ap, iSeq_ap, yH_ap, yP_ap, ybH_ap, ybP_ap, yaH_ap, y1_ap, y2_ap, yNil_ap, yCons_ap, yN_ap, yX_ap, yTup_ap, yLst_ap, yT_ap, yTNot_ap, yTAnd_ap, yTOr_ap, yIf_ap, yAnd_ap, yOr_ap, yNot_ap, yM_ap, yPop_ap, yPopAt_ap, yRng1_ap, yRng2_ap, ySeq_ap, yMeth_ap, bindT, bindTs, hide, hideF, wipeG, seqOf_lst, seqOf_tup, lstOf_lst, tupOf_tup, lstAt, getR_some, sca_int, sca_bl, sca_str, sca_non, Option.isSome_some, fLen_1, fRange1_int, fTupOf_1, fListOf_1, fII_int, fIB_int, fU_int, fRevT_1, fBits_int, fInt1_int, fIsi_tt, fIsi_tl, fIsi_ti, fIsi_ii, fIsi_bi, fIsi_ib, fIsi_bb, fIsi2_l, fIsi2_t, List.length_cons, List.length_nil, List.map_cons, List.map_nil, List.cons_append, List.nil_append, List.append_nil, List.getElem?_cons_zero, List.getElem?_cons_succ, List.set_cons_zero, List.set_cons_succ, List.contains_cons, List.contains_nil, Nat.reduceBEq, Bool.or_false, Bool.false_or, Bool.or_true, Bool.true_or, Bool.false_eq_true, if_true, if_false, ite_true, ite_false, ↓reduceIte, reduceCtorEq, Nat.reduceLeDiff, Nat.zero_add, Nat.reduceAdd, Nat.reduceLT, Nat.lt_add_one, bitAnd_nat, bitOr_nat, rep_0, rep_1, rep_2, rep_3, rep_4, rep_5, rep_6, rep_7, rep_8, rep_9, rep_10, rep_11, rep_12, rep_13, rep_14, rep_15, rep_16, rep_17, rep_18, rep_19, rep_20, rep_21, rep_22, rep_23, rep_24, rep_25, rep_26, rep_27, rep_28, rep_29, rep_30, rep_31, rep_32, rep_33, rep_34, rep_35, rep_36, rep_37, rep_38, rep_39, rep_40, and_self, and_true, true_and, decide_true, decide_false, Bool.not_true, Bool.not_false, Bool.and_true, Bool.true_and, Bool.and_false, Bool.false_and, neg_ok1, neg_ok2, Int.sub_zero, dNs_len, List.length_range, Rq_rt, runB_ap, yZip_ap, yB_ap, List.take_succ_cons, List.take_zero, List.drop_succ_cons, List.drop_zero, bring_nil, bring_cons, yLc_ap, sNewY_ap, ybYes_ap, ylcRun_nil, fIx_J hJ hx2, f1, hj, fIx_tup0, Int.sub_self, k0]
        exact ⟨_, rfl⟩
    simp only [mVar_ap, mC_ap, m1_ap, m2_ap, mN_ap, mCons_ap, mNil_ap, mTup_ap, mLst_ap, mT_ap, mTNot_ap, mTAnd_ap, mTOr_ap, mYes_ap, mAnd_ap, mOr_ap, mNot_ap, mIf_ap, mChain_ap, mSeq_ap, mRng1_ap, mRng2_ap, mRngV_ap, mRev_ap, mEnum_ap, mLc_ap, mLc2_ap, mSlL_ap, mSlT_ap, mPart_ap, mNoP_ap, Go_nx, Go_ct, Rt_rt, Bk_bk, runD_ap, runM_ap, runI_ap, ok_bind, ex_bind, fBl_bl, sSeq_ap, sAsg_ap, sNew_ap, sDrop_ap, sRet_ap, sRetN_ap, sIf_ap, sNext_ap, sBreak_ap, sCont_ap, sRaise_ap, sFor_ap, sWhile_ap, sPar_ap, sApp_ap, sExt_ap, sSet_ap, sDelLast_ap, sSet2_ap, sSwap_ap, iFld_ap, iFldS_ap, iSeq_ap, yH_ap, yP_ap, ybH_ap, ybP_ap, yaH_ap, y1_ap, y2_ap, yNil_ap, yCons_ap, yN_ap, yX_ap, yTup_ap, yLst_ap, yT_ap, yTNot_ap, yTAnd_ap, yTOr_ap, yIf_ap, yAnd_ap, yOr_ap, yNot_ap, yM_ap, yPop_ap, yPopAt_ap, yRng1_ap, yRng2_ap, ySeq_ap, yMeth_ap, bindT, bindTs, hide, hideF, wipeG, seqOf_lst, seqOf_tup, lstOf_lst, tupOf_tup, lstAt, getR_some, sca_int, sca_bl, sca_str, sca_non, Option.isSome_some, fLen_1, fRange1_int, fTupOf_1, fListOf_1, fII_int, fIB_int, fU_int, fRevT_1, fBits_int, fInt1_int, fIsi_tt, fIsi_tl, fIsi_ti, fIsi_ii, fIsi_bi, fIsi_ib, fIsi_bb, fIsi2_l, fIsi2_t, List.length_cons, List.length_nil, List.map_cons, List.map_nil, List.cons_append, List.nil_append, List.append_nil, List.getElem?_cons_zero, List.getElem?_cons_succ, List.set_cons_zero, List.set_cons_succ, List.contains_cons, List.contains_nil, Nat.reduceBEq, Bool.or_false, Bool.false_or, Bool.or_true, Bool.true_or, Bool.false_eq_true, if_true, if_false, ite_true, ite_false, ↓reduceIte, reduceCtorEq, Nat.reduceLeDiff, Nat.zero_add, Nat.reduceAdd, Nat.reduceLT, Nat.lt_add_one, bitAnd_nat, bitOr_nat, rep_0, rep_1, rep_2, rep_3, rep_4, rep_5, rep_6, rep_7, rep_8, rep_9, rep_10, rep_11, rep_12, rep_13, rep_14, rep_15, rep_16, rep_17, rep_18, rep_19, rep_20, rep_21, rep_22, rep_23, rep_24, rep_25, rep_26, rep_27, rep_28, rep_29, rep_30, rep_31, rep_32, rep_33, rep_34, rep_35, rep_36, rep_37, rep_38, rep_39, rep_40, and_self, and_true, true_and, decide_true, decide_false, Bool.not_true, Bool.not_false, Bool.and_true, Bool.true_and, Bool.and_false, Bool.false_and, neg_ok1, neg_ok2, Int.sub_zero, dNs_len, List.length_range, Rq_rt, runB_ap, yZip_ap, yB_ap, List.take_succ_cons, List.take_zero, List.drop_succ_cons, List.drop_zero, bring_nil, bring_cons, yLc_ap, sNewY_ap, ybYes_ap, ylcRun_nil]
    exact ⟨_, _, rfl⟩
  simp only [mVar_ap, mC_ap, m1_ap, m2_ap, mN_ap, mCons_ap, mNil_ap, mTup_ap, mLst_ap, mT_ap, mTNot_ap, mTAnd_ap, mTOr_ap, mYes_ap, mAnd_ap, mOr_ap, mNot_ap, mIf_ap, mChain_ap, mSeq_ap, mRng1_ap, mRng2_ap, mRngV_ap, mRev_ap, mEnum_ap, mLc_ap, mLc2_ap, mSlL_ap, mSlT_ap, mPart_ap, mNoP_ap, Go_nx, Go_ct, Rt_rt, Bk_bk, runD_ap, runM_ap, runI_ap, ok_bind, ex_bind, fBl_bl, sSeq_ap, sAsg_ap, sNew_ap, sDrop_ap, sRet_ap, sRetN_ap, sIf_ap, sNext_ap, sBreak_ap, sCont_ap, sRaise_ap, sFor_ap, sWhile_ap, sPar_ap, sApp_ap, sExt_ap, sSet_ap, sDelLast_ap, sSet2_ap, sSwap_ap, iFld_ap, iFldS_ap, iSeq_ap, yH_ap, yP_ap, ybH_ap, ybP_ap, yaH_ap, y1_ap, y2_ap, yNil_ap, yCons_ap, yN_ap, yX_ap, yTup_ap, yLst_ap, yT_ap, yTNot_ap, yTAnd_ap, yTOr_ap, yIf_ap, yAnd_ap, yOr_ap, yNot_ap, yM_ap, yPop_ap, yPopAt_ap, yRng1_ap, yRng2_ap, ySeq_ap, yMeth_ap, bindT, bindTs, hide, hideF, wipeG, seqOf_lst, seqOf_tup, lstOf_lst, tupOf_tup, lstAt, getR_some, sca_int, sca_bl, sca_str, sca_non, Option.isSome_some, fLen_1, fRange1_int, fTupOf_1, fListOf_1, fII_int, fIB_int, fU_int, fRevT_1, fBits_int, fInt1_int, fIsi_tt, fIsi_tl, fIsi_ti, fIsi_ii, fIsi_bi, fIsi_ib, fIsi_bb, fIsi2_l, fIsi2_t, List.length_cons, List.length_nil, List.map_cons, List.map_nil, List.cons_append, List.nil_append, List.append_nil, List.getElem?_cons_zero, List.getElem?_cons_succ, List.set_cons_zero, List.set_cons_succ, List.contains_cons, List.contains_nil, Nat.reduceBEq, Bool.or_false, Bool.false_or, Bool.or_true, Bool.true_or, Bool.false_eq_true, if_true, if_false, ite_true, ite_false, ↓reduceIte, reduceCtorEq, Nat.reduceLeDiff, Nat.zero_add, Nat.reduceAdd, Nat.reduceLT, Nat.lt_add_one, bitAnd_nat, bitOr_nat, rep_0, rep_1, rep_2, rep_3, rep_4, rep_5, rep_6, rep_7, rep_8, rep_9, rep_10, rep_11, rep_12, rep_13, rep_14, rep_15, rep_16, rep_17, rep_18, rep_19, rep_20, rep_21, rep_22, rep_23, rep_24, rep_25, rep_26, rep_27, rep_28, rep_29, rep_30, rep_31, rep_32, rep_33, rep_34, rep_35, rep_36, rep_37, rep_38, rep_39, rep_40, and_self, and_true, true_and, decide_true, decide_false, Bool.not_true, Bool.not_false, Bool.and_true, Bool.true_and, Bool.and_false, Bool.false_and, neg_ok1, neg_ok2, Int.sub_zero, dNs_len, List.length_range, Rq_rt, runB_ap, yZip_ap, yB_ap, List.take_succ_cons, List.take_zero, List.drop_succ_cons, List.drop_zero, bring_nil, bring_cons, yLc_ap, sNewY_ap, ybYes_ap, ylcRun_nil, dNs_len, List.length_map, nat_pos_dec]
  cases d1 : decide (0 < ((List.range J.length).filter (mtd ms)).length) with
  | false =>
    simp only [mVar_ap, mC_ap, m1_ap, m2_ap, mN_ap, mCons_ap, mNil_ap, mTup_ap, mLst_ap, mT_ap, mTNot_ap, mTAnd_ap, mTOr_ap, mYes_ap, mAnd_ap, mOr_ap, mNot_ap, mIf_ap, mChain_ap, mSeq_ap, mRng1_ap, mRng2_ap, mRngV_ap, mRev_ap, mEnum_ap, mLc_ap, mLc2_ap, mSlL_ap, mSlT_ap, mPart_ap, mNoP_ap, Go_nx, Go_ct, Rt_rt, Bk_bk, runD_ap, runM_ap, runI_ap, ok_bind, ex_bind, fBl_bl, sSeq_ap, sAsg_ap, sNew_ap, sDrop_ap, sRet_ap, sRetN_ap, sIf_ap, sNext_ap, sBreak_ap, sCont_ap, sRaise_ap, sFor_ap, sWhile_ap, sPar_ap, sApp_ap, sExt_ap, sSet_ap, sDelLast_ap, sSet2_ap, sSwap_ap, iFld_ap, iFldS_ap, iSeq_ap, yH_ap, yP_ap, ybH_ap, ybP_ap, yaH_ap, y1_ap, y2_ap, yNil_ap, yCons_ap, yN_ap, yX_ap, yTup_ap, yLst_ap, yT_ap, yTNot_ap, yTAnd_ap, yTOr_ap, yIf_ap, yAnd_ap, yOr_ap, yNot_ap, yM_ap, yPop_ap, yPopAt_ap, yRng1_ap, yRng2_ap, ySeq_ap, yMeth_ap, bindT, bindTs, hide, hideF, wipeG, seqOf_lst, seqOf_tup, lstOf_lst, tupOf_tup, lstAt, getR_some, sca_int, sca_bl, sca_str, sca_non, Option.isSome_some, fLen_1, fRange1_int, fTupOf_1, fListOf_1, fII_int, fIB_int, fU_int, fRevT_1, fBits_int, fInt1_int, fIsi_tt, fIsi_tl, fIsi_ti, fIsi_ii, fIsi_bi, fIsi_ib, fIsi_bb, fIsi2_l, fIsi2_t, List.length_cons, List.length_nil, List.map_cons, List.map_nil, List.cons_append, List.nil_append, List.append_nil, List.getElem?_cons_zero, List.getElem?_cons_succ, List.set_cons_zero, List.set_cons_succ, List.contains_cons, List.contains_nil, Nat.reduceBEq, Bool.or_false, Bool.false_or, Bool.or_true, Bool.true_or, Bool.false_eq_true, if_true, if_false, ite_true, ite_false, ↓reduceIte, reduceCtorEq, Nat.reduceLeDiff, Nat.zero_add, Nat.reduceAdd, Nat.reduceLT, Nat.lt_add_one, bitAnd_nat, bitOr_nat, rep_0, rep_1, rep_2, rep_3, rep_4, rep_5, rep_6, rep_7, rep_8, rep_9, rep_10, rep_11, rep_12, rep_13, rep_14, rep_15, rep_16, rep_17, rep_18, rep_19, rep_20, rep_21, rep_22, rep_23, rep_24, rep_25, rep_26, rep_27, rep_28, rep_29, rep_30, rep_31, rep_32, rep_33, rep_34, rep_35, rep_36, rep_37, rep_38, rep_39, rep_40, and_self, and_true, true_and, decide_true, decide_false, Bool.not_true, Bool.not_false, Bool.and_true, Bool.true_and, Bool.and_false, Bool.false_and, neg_ok1, neg_ok2, Int.sub_zero, dNs_len, List.length_range, Rq_rt, runB_ap, yZip_ap, yB_ap, List.take_succ_cons, List.take_zero, List.drop_succ_cons, List.drop_zero, bring_nil, bring_cons, yLc_ap, sNewY_ap, ybYes_ap, ylcRun_nil]
    exact ⟨_, rfl⟩
  | true =>
    simp only [mVar_ap, mC_ap, m1_ap, m2_ap, mN_ap, mCons_ap, mNil_ap, mTup_ap, mLst_ap, mT_ap, mTNot_ap, mTAnd_ap, mTOr_ap, mYes_ap, mAnd_ap, mOr_ap, mNot_ap, mIf_ap, mChain_ap, mSeq_ap, mRng1_ap, mRng2_ap, mRngV_ap, mRev_ap, mEnum_ap, mLc_ap, mLc2_ap, mSlL_ap, mSlT_ap, mPart_ap, mNoP_ap, Go_nx, Go_ct, Rt_rt, Bk_bk, runD_ap, runM_ap, runI_ap, ok_bind, ex_bind, fBl_bl, sSeq_ap, sAsg_ap, sNew_ap, sDrop_ap, sRet_ap, sRetN_ap, sIf_ap, sNext_ap, sBreak_ap, sCont_ap, sRaise_ap, sFor_ap, sWhile_ap, sPar_ap, sApp_ap, sExt_ap, sSet_ap, sDelLast_ap, sSet2_ap, sSwap_ap, iFld_ap, iFldS_ap, iSeq_ap, yH_ap, yP_ap, ybH_ap, ybP_ap, yaH_ap, y1_ap, y2_ap, yNil_ap, yCons_ap, yN_ap, yX_ap, yTup_ap, yLst_ap, yT_ap, yTNot_ap, yTAnd_ap, yTOr_ap, yIf_ap, yAnd_ap, yOr_ap, yNot_ap, yM_ap, yPop_ap, yPopAt_ap, yRng1_ap, yRng2_ap, ySeq_ap, yMeth_ap, bindT, bindTs, hide, hideF, wipeG, seqOf_lst, seqOf_tup, lstOf_lst, tupOf_tup, lstAt, getR_some, sca_int, sca_bl, sca_str, sca_non, Option.isSome_some, fLen_1, fRange1_int, fTupOf_1, fListOf_1, fII_int, fIB_int, fU_int, fRevT_1, fBits_int, fInt1_int, fIsi_tt, fIsi_tl, fIsi_ti, fIsi_ii, fIsi_bi, fIsi_ib, fIsi_bb, fIsi2_l, fIsi2_t, List.length_cons, List.length_nil, List.map_cons, List.map_nil, List.cons_append, List.nil_append, List.append_nil, List.getElem?_cons_zero, List.getElem?_cons_succ, List.set_cons_zero, List.set_cons_succ, List.contains_cons, List.contains_nil, Nat.reduceBEq, Bool.or_false, Bool.false_or, Bool.or_true, Bool.true_or, Bool.false_eq_true, if_true, if_false, ite_true, ite_false, ↓reduceIte, reduceCtorEq, Nat.reduceLeDiff, Nat.zero_add, Nat.reduceAdd, Nat.reduceLT, Nat.lt_add_one, bitAnd_nat, bitOr_nat, rep_0, rep_1, rep_2, rep_3, rep_4, rep_5, rep_6, rep_7, rep_8, rep_9, rep_10, rep_11, rep_12, rep_13, rep_14, rep_15, rep_16, rep_17, rep_18, rep_19, rep_20, rep_21, rep_22, rep_23, rep_24, rep_25, rep_26, rep_27, rep_28, rep_29, rep_30, rep_31, rep_32, rep_33, rep_34, rep_35, rep_36, rep_37, rep_38, rep_39, rep_40, and_self, and_true, true_and, decide_true, decide_false, Bool.not_true, Bool.not_false, Bool.and_true, Bool.true_and, Bool.and_false, Bool.false_and, neg_ok1, neg_ok2, Int.sub_zero, dNs_len, List.length_range, Rq_rt, runB_ap, yZip_ap, yB_ap, List.take_succ_cons, List.take_zero, List.drop_succ_cons, List.drop_zero, bring_nil, bring_cons, yLc_ap, sNewY_ap, ybYes_ap, ylcRun_nil]
    cases d2 : decide ((1 : Int) < (J.length : Int)) with
    | false =>
      simp only [mVar_ap, mC_ap, m1_ap, m2_ap, mN_ap, mCons_ap, mNil_ap, mTup_ap, mLst_ap, mT_ap, mTNot_ap, mTAnd_ap, mTOr_ap, mYes_ap, mAnd_ap, mOr_ap, mNot_ap, mIf_ap, mChain_ap, mSeq_ap, mRng1_ap, mRng2_ap, mRngV_ap, mRev_ap, mEnum_ap, mLc_ap, mLc2_ap, mSlL_ap, mSlT_ap, mPart_ap, mNoP_ap, Go_nx, Go_ct, Rt_rt, Bk_bk, runD_ap, runM_ap, runI_ap, ok_bind, ex_bind, fBl_bl, sSeq_ap, sAsg_ap, sNew_ap, sDrop_ap, sRet_ap, sRetN_ap, sIf_ap, sNext_ap, sBreak_ap, sCont_ap, sRaise_ap, sFor_ap, sWhile_ap, sPar_ap, sApp_ap, sExt_ap, sSet_ap, sDelLast_ap, sSet2_ap, sSwap_ap, iFld_ap, iFldS_ap, iSeq_ap, yH_ap, yP_ap, ybH_ap, ybP_ap, yaH_ap, y1_ap, y2_ap, yNil_ap, yCons_ap, yN_ap, yX_ap, yTup_ap, yLst_ap, yT_ap, yTNot_ap, yTAnd_ap, yTOr_ap, yIf_ap, yAnd_ap, yOr_ap, yNot_ap, yM_ap, yPop_ap, yPopAt_ap, yRng1_ap, yRng2_ap, ySeq_ap, yMeth_ap, bindT, bindTs, hide, hideF, wipeG, seqOf_lst, seqOf_tup, lstOf_lst, tupOf_tup, lstAt, getR_some, sca_int, sca_bl, sca_str, sca_non, Option.isSome_some, fLen_1, fRange1_int, fTupOf_1, fListOf_1, fII_int, fIB_int, fU_int, fRevT_1, fBits_int, fInt1_int, fIsi_tt, fIsi_tl, fIsi_ti, fIsi_ii, fIsi_bi, fIsi_ib, fIsi_bb, fIsi2_l, fIsi2_t, List.length_cons, List.length_nil, List.map_cons, List.map_nil, List.cons_append, List.nil_append, List.append_nil, List.getElem?_cons_zero, List.getElem?_cons_succ, List.set_cons_zero, List.set_cons_succ, List.contains_cons, List.contains_nil, Nat.reduceBEq, Bool.or_false, Bool.false_or, Bool.or_true, Bool.true_or, Bool.false_eq_true, if_true, if_false, ite_true, ite_false, ↓reduceIte, reduceCtorEq, Nat.reduceLeDiff, Nat.zero_add, Nat.reduceAdd, Nat.reduceLT, Nat.lt_add_one, bitAnd_nat, bitOr_nat, rep_0, rep_1, rep_2, rep_3, rep_4, rep_5, rep_6, rep_7, rep_8, rep_9, rep_10, rep_11, rep_12, rep_13, rep_14, rep_15, rep_16, rep_17, rep_18, rep_19, rep_20, rep_21, rep_22, rep_23, rep_24, rep_25, rep_26, rep_27, rep_28, rep_29, rep_30, rep_31, rep_32, rep_33, rep_34, rep_35, rep_36, rep_37, rep_38, rep_39, rep_40, and_self, and_true, true_and, decide_true, decide_false, Bool.not_true, Bool.not_false, Bool.and_true, Bool.true_and, Bool.and_false, Bool.false_and, neg_ok1, neg_ok2, Int.sub_zero, dNs_len, List.length_range, Rq_rt, runB_ap, yZip_ap, yB_ap, List.take_succ_cons, List.take_zero, List.drop_succ_cons, List.drop_zero, bring_nil, bring_cons, yLc_ap, sNewY_ap, ybYes_ap, ylcRun_nil]
      exact ⟨_, rfl⟩
    | true =>
      have d1 := of_decide_eq_true d1
      have d2 := of_decide_eq_true d2
      obtain ⟨u, hu⟩ : ∃ u, (((List.range J.length).filter (mtd ms)).map (mv ms))[0]? = some u := ⟨_, List.getElem?_eq_getElem (by rw [List.length_map]; exact d1)⟩
      have hu5 : u < r := by
        obtain ⟨x, hx, rfl⟩ := List.mem_map.mp (List.mem_of_getElem? hu)
        exact hlt x (List.mem_filter.mp hx).2
      have hu2 : (dNs (((List.range J.length).filter (mtd ms)).map (mv ms)))[0]? = some (.int (u : Int)) := by
        rw [dNs, List.getElem?_map, hu]
        rfl
      have hj0 : fIx (.tup (dNs J)) (.int 0) = .ok (.int ((J.getD 0 0 : Nat) : Int)) := fIx_J hJ (show 0 < J.length by omega)
      have k : m_is_matching a [.tup [.int ((J.getD 0 0 : Nat) : Int), .int ((J.getD 0 0 : Nat) : Int)], .tup [.int (u : Int), .int (u : Int)]] = .ok (.bl (isMB [J.getD 0 0, J.getD 0 0] [some u, some u])) := m_is_matching_ok a (J := [J.getD 0 0, J.getD 0 0]) (ks := [some u, some u]) rfl rfl (show 2 ≤ 1000 by decide) fun x y h => by
        match x, h with
        | 0, h => cases h; omega
        | 1, h => cases h; omega
        | x + 2, h => simp at h
      rw [two_no u (by omega)] at k
      simp only [mVar_ap, mC_ap, m1_ap, m2_ap, mN_ap, mCons_ap, mNil_ap, mTup_ap, mLst_ap, mT_ap, mTNot_ap, mTAnd_ap, mTOr_ap, mYes_ap, mAnd_ap, mOr_ap, mNot_ap, mIf_ap, mChain_ap, mSeq_ap, mRng1_ap, mRng2_ap, mRngV_ap, mRev_ap, mEnum_ap, mLc_ap, mLc2_ap, mSlL_ap, mSlT_ap, mPart_ap, mNoP_ap, Go_nx, Go_ct, Rt_rt, Bk_bk, runD_ap, runM_ap, runI_ap, ok_bind, ex_bind, fBl_bl, sSeq_ap, sAsg_ap, sNew_ap, sDrop_ap, sRet_ap, sRetN_ap, sIf_ap, sNext_ap, sBreak_ap, sCont_ap, sRaise_ap, sFor_ap, sWhile_ap, sPar_ap, sApp_ap, sExt_ap, sSet_ap, sDelLast_ap, sSet2_ap, sSwap_ap, iFld_ap, iFldS_ap, iSeq_ap, yH_ap, yP_ap, ybH_ap, ybP_ap, yaH_ap, y1_ap, y2_ap, yNil_ap, yCons_ap, yN_ap, yX_ap, yTup_ap, yLst_ap, yT_ap, yTNot_ap, yTAnd_ap, yTOr_ap, yIf_ap, yAnd_ap, yOr_ap, yNot_ap, yM_ap, yPop_ap, yPopAt_ap, yRng1_ap, yRng2_ap, ySeq_ap, yMeth_ap, bindT, bindTs, hide, hideF, wipeG, seqOf_lst, seqOf_tup, lstOf_lst, tupOf_tup, lstAt, getR_some, sca_int, sca_bl, sca_str, sca_non, Option.isSome_some, fLen_1, fRange1_int, fTupOf_1, fListOf_1, fII_int, fIB_int, fU_int, fRevT_1, fBits_int, fInt1_int, fIsi_tt, fIsi_tl, fIsi_ti, fIsi_ii, fIsi_bi, fIsi_ib, fIsi_bb, fIsi2_l, fIsi2_t, List.length_cons, List.length_nil, List.map_cons, List.map_nil, List.cons_append, List.nil_append, List.append_nil, List.getElem?_cons_zero, List.getElem?_cons_succ, List.set_cons_zero, List.set_cons_succ, List.contains_cons, List.contains_nil, Nat.reduceBEq, Bool.or_false, Bool.false_or, Bool.or_true, Bool.true_or, Bool.false_eq_true, if_true, if_false, ite_true, ite_false, ↓reduceIte, reduceCtorEq, Nat.reduceLeDiff, Nat.zero_add, Nat.reduceAdd, Nat.reduceLT, Nat.lt_add_one, bitAnd_nat, bitOr_nat, rep_0, rep_1, rep_2, rep_3, rep_4, rep_5, rep_6, rep_7, rep_8, rep_9, rep_10, rep_11, rep_12, rep_13, rep_14, rep_15, rep_16, rep_17, rep_18, rep_19, rep_20, rep_21, rep_22, rep_23, rep_24, rep_25, rep_26, rep_27, rep_28, rep_29, rep_30, rep_31, rep_32, rep_33, rep_34, rep_35, rep_36, rep_37, rep_38, rep_39, rep_40, and_self, and_true, true_and, decide_true, decide_false, Bool.not_true, Bool.not_false, Bool.and_true, Bool.true_and, Bool.and_false, Bool.false_and, neg_ok1, neg_ok2, Int.sub_zero, dNs_len, List.length_range, Rq_rt, runB_ap, yZip_ap, yB_ap, List.take_succ_cons, List.take_zero, List.drop_succ_cons, List.drop_zero, bring_nil, bring_cons, yLc_ap, sNewY_ap, ybYes_ap, ylcRun_nil, hj0, fIx_lst0, hu2, k]
      exact ⟨_, rfl⟩
end
end Mi
namespace OF
open PySem PySem.Spec PyProof.Rows L2 Fo Mi FZ
instance nm0 : Fo.Nm := ⟨fun _ => "", fun a b _ n => absurd rfl n⟩
theorem all_mk {l : PySem.W.OpenLaw} {w : World} {K : PySem.W.Frag} {h : Heap} {mg : Str → Option Value} {fa ad_law_numbers ad_law_next ad_partners ad_lowest ad_augmenting_way ad_largest_matching ad_set_of ad_members ad_has ad_least_cover ad_count ad_is_integer ad_is_matching ad_is_set ad_is_part ad_is_cover ad_law_bit ad_law : Addr} (X : K.In h) (G : h.Ns mainGlobals mg) (hfa : mg "law" = some (.ref fa))
    {od_law_numbers an_law_numbers od_law_next an_law_next od_partners an_partners od_lowest an_lowest od_augmenting_way an_augmenting_way od_largest_matching an_largest_matching od_set_of an_set_of od_members an_members od_has an_has od_least_cover an_least_cover od_count an_count od_is_integer an_is_integer od_is_matching an_is_matching od_is_set an_is_set od_is_part an_is_part od_is_cover an_is_cover od_law_bit an_law_bit od_law an_law : Option Addr} {sl_law_numbers sl_law_next sl_partners sl_lowest sl_augmenting_way sl_largest_matching sl_set_of sl_members sl_has sl_least_cover sl_count sl_is_integer sl_is_matching sl_is_set sl_is_part sl_is_cover sl_law_bit sl_law : Array (Option Value)} {oc_law_numbers kV_law_numbers dc_law_numbers pm_law_numbers cd_law_numbers ct_law_numbers oc_law_next kV_law_next dc_law_next pm_law_next cd_law_next ct_law_next oc_partners kV_partners dc_partners pm_partners cd_partners ct_partners oc_lowest kV_lowest dc_lowest pm_lowest cd_lowest ct_lowest oc_augmenting_way kV_augmenting_way dc_augmenting_way pm_augmenting_way cd_augmenting_way ct_augmenting_way oc_largest_matching kV_largest_matching dc_largest_matching pm_largest_matching cd_largest_matching ct_largest_matching oc_set_of kV_set_of dc_set_of pm_set_of cd_set_of ct_set_of oc_members kV_members dc_members pm_members cd_members ct_members oc_has kV_has dc_has pm_has cd_has ct_has oc_least_cover kV_least_cover dc_least_cover pm_least_cover cd_least_cover ct_least_cover oc_count kV_count dc_count pm_count cd_count ct_count oc_is_integer kV_is_integer dc_is_integer pm_is_integer cd_is_integer ct_is_integer oc_is_matching kV_is_matching dc_is_matching pm_is_matching cd_is_matching ct_is_matching oc_is_set kV_is_set dc_is_set pm_is_set cd_is_set ct_is_set oc_is_part kV_is_part dc_is_part pm_is_part cd_is_part ct_is_part oc_is_cover kV_is_cover dc_is_cover pm_is_cover cd_is_cover ct_is_cover oc_law_bit kV_law_bit dc_law_bit pm_law_bit cd_law_bit ct_law_bit oc_law kV_law dc_law pm_law cd_law ct_law : Value} 
    (a_law_numbers : PySem.W.nsIn K mainGlobals "_law_numbers" = some (some (.ref ad_law_numbers)))
    (l_law_numbers : K.lookup ad_law_numbers = some ⟨oc_law_numbers, od_law_numbers, .func (PySem.W.fnOf "_law_numbers" "_law_numbers" (defArgs s_law_numbers) (defBody s_law_numbers) (defScope s_law_numbers) .none kV_law_numbers dc_law_numbers pm_law_numbers an_law_numbers cd_law_numbers ct_law_numbers), sl_law_numbers⟩)
    (c_law_numbers : PySem.W.codeIn K cd_law_numbers "_law_numbers" = true)
    (k_law_numbers : PySem.W.keepIn K (.ref ad_law_numbers) = true)
    (a_law_next : PySem.W.nsIn K mainGlobals "_law_next" = some (some (.ref ad_law_next)))
    (l_law_next : K.lookup ad_law_next = some ⟨oc_law_next, od_law_next, .func (PySem.W.fnOf "_law_next" "_law_next" (defArgs s_law_next) (defBody s_law_next) (defScope s_law_next) .none kV_law_next dc_law_next pm_law_next an_law_next cd_law_next ct_law_next), sl_law_next⟩)
    (c_law_next : PySem.W.codeIn K cd_law_next "_law_next" = true)
    (k_law_next : PySem.W.keepIn K (.ref ad_law_next) = true)
    (a_partners : PySem.W.nsIn K mainGlobals "partners" = some (some (.ref ad_partners)))
    (l_partners : K.lookup ad_partners = some ⟨oc_partners, od_partners, .func (PySem.W.fnOf "partners" "partners" (defArgs s_partners) (defBody s_partners) (defScope s_partners) .none kV_partners dc_partners pm_partners an_partners cd_partners ct_partners), sl_partners⟩)
    (c_partners : PySem.W.codeIn K cd_partners "partners" = true)
    (k_partners : PySem.W.keepIn K (.ref ad_partners) = true)
    (a_lowest : PySem.W.nsIn K mainGlobals "lowest" = some (some (.ref ad_lowest)))
    (l_lowest : K.lookup ad_lowest = some ⟨oc_lowest, od_lowest, .func (PySem.W.fnOf "lowest" "lowest" (defArgs s_lowest) (defBody s_lowest) (defScope s_lowest) .none kV_lowest dc_lowest pm_lowest an_lowest cd_lowest ct_lowest), sl_lowest⟩)
    (c_lowest : PySem.W.codeIn K cd_lowest "lowest" = true)
    (k_lowest : PySem.W.keepIn K (.ref ad_lowest) = true)
    (a_augmenting_way : PySem.W.nsIn K mainGlobals "augmenting_way" = some (some (.ref ad_augmenting_way)))
    (l_augmenting_way : K.lookup ad_augmenting_way = some ⟨oc_augmenting_way, od_augmenting_way, .func (PySem.W.fnOf "augmenting_way" "augmenting_way" (defArgs s_augmenting_way) (defBody s_augmenting_way) (defScope s_augmenting_way) .none kV_augmenting_way dc_augmenting_way pm_augmenting_way an_augmenting_way cd_augmenting_way ct_augmenting_way), sl_augmenting_way⟩)
    (c_augmenting_way : PySem.W.codeIn K cd_augmenting_way "augmenting_way" = true)
    (k_augmenting_way : PySem.W.keepIn K (.ref ad_augmenting_way) = true)
    (a_largest_matching : PySem.W.nsIn K mainGlobals "largest_matching" = some (some (.ref ad_largest_matching)))
    (l_largest_matching : K.lookup ad_largest_matching = some ⟨oc_largest_matching, od_largest_matching, .func (PySem.W.fnOf "largest_matching" "largest_matching" (defArgs s_largest_matching) (defBody s_largest_matching) (defScope s_largest_matching) .none kV_largest_matching dc_largest_matching pm_largest_matching an_largest_matching cd_largest_matching ct_largest_matching), sl_largest_matching⟩)
    (c_largest_matching : PySem.W.codeIn K cd_largest_matching "largest_matching" = true)
    (k_largest_matching : PySem.W.keepIn K (.ref ad_largest_matching) = true)
    (a_set_of : PySem.W.nsIn K mainGlobals "set_of" = some (some (.ref ad_set_of)))
    (l_set_of : K.lookup ad_set_of = some ⟨oc_set_of, od_set_of, .func (PySem.W.fnOf "set_of" "set_of" (defArgs s_set_of) (defBody s_set_of) (defScope s_set_of) .none kV_set_of dc_set_of pm_set_of an_set_of cd_set_of ct_set_of), sl_set_of⟩)
    (c_set_of : PySem.W.codeIn K cd_set_of "set_of" = true)
    (k_set_of : PySem.W.keepIn K (.ref ad_set_of) = true)
    (a_members : PySem.W.nsIn K mainGlobals "members" = some (some (.ref ad_members)))
    (l_members : K.lookup ad_members = some ⟨oc_members, od_members, .func (PySem.W.fnOf "members" "members" (defArgs s_members) (defBody s_members) (defScope s_members) .none kV_members dc_members pm_members an_members cd_members ct_members), sl_members⟩)
    (c_members : PySem.W.codeIn K cd_members "members" = true)
    (k_members : PySem.W.keepIn K (.ref ad_members) = true)
    (a_has : PySem.W.nsIn K mainGlobals "has" = some (some (.ref ad_has)))
    (l_has : K.lookup ad_has = some ⟨oc_has, od_has, .func (PySem.W.fnOf "has" "has" (defArgs s_has) (defBody s_has) (defScope s_has) .none kV_has dc_has pm_has an_has cd_has ct_has), sl_has⟩)
    (c_has : PySem.W.codeIn K cd_has "has" = true)
    (k_has : PySem.W.keepIn K (.ref ad_has) = true)
    (a_least_cover : PySem.W.nsIn K mainGlobals "least_cover" = some (some (.ref ad_least_cover)))
    (l_least_cover : K.lookup ad_least_cover = some ⟨oc_least_cover, od_least_cover, .func (PySem.W.fnOf "least_cover" "least_cover" (defArgs s_least_cover) (defBody s_least_cover) (defScope s_least_cover) .none kV_least_cover dc_least_cover pm_least_cover an_least_cover cd_least_cover ct_least_cover), sl_least_cover⟩)
    (c_least_cover : PySem.W.codeIn K cd_least_cover "least_cover" = true)
    (k_least_cover : PySem.W.keepIn K (.ref ad_least_cover) = true)
    (a_count : PySem.W.nsIn K mainGlobals "count" = some (some (.ref ad_count)))
    (l_count : K.lookup ad_count = some ⟨oc_count, od_count, .func (PySem.W.fnOf "count" "count" (defArgs s_count) (defBody s_count) (defScope s_count) .none kV_count dc_count pm_count an_count cd_count ct_count), sl_count⟩)
    (c_count : PySem.W.codeIn K cd_count "count" = true)
    (k_count : PySem.W.keepIn K (.ref ad_count) = true)
    (a_is_integer : PySem.W.nsIn K mainGlobals "is_integer" = some (some (.ref ad_is_integer)))
    (l_is_integer : K.lookup ad_is_integer = some ⟨oc_is_integer, od_is_integer, .func (PySem.W.fnOf "is_integer" "is_integer" (defArgs s_is_integer) (defBody s_is_integer) (defScope s_is_integer) .none kV_is_integer dc_is_integer pm_is_integer an_is_integer cd_is_integer ct_is_integer), sl_is_integer⟩)
    (c_is_integer : PySem.W.codeIn K cd_is_integer "is_integer" = true)
    (k_is_integer : PySem.W.keepIn K (.ref ad_is_integer) = true)
    (a_is_matching : PySem.W.nsIn K mainGlobals "is_matching" = some (some (.ref ad_is_matching)))
    (l_is_matching : K.lookup ad_is_matching = some ⟨oc_is_matching, od_is_matching, .func (PySem.W.fnOf "is_matching" "is_matching" (defArgs s_is_matching) (defBody s_is_matching) (defScope s_is_matching) .none kV_is_matching dc_is_matching pm_is_matching an_is_matching cd_is_matching ct_is_matching), sl_is_matching⟩)
    (c_is_matching : PySem.W.codeIn K cd_is_matching "is_matching" = true)
    (k_is_matching : PySem.W.keepIn K (.ref ad_is_matching) = true)
    (a_is_set : PySem.W.nsIn K mainGlobals "is_set" = some (some (.ref ad_is_set)))
    (l_is_set : K.lookup ad_is_set = some ⟨oc_is_set, od_is_set, .func (PySem.W.fnOf "is_set" "is_set" (defArgs s_is_set) (defBody s_is_set) (defScope s_is_set) .none kV_is_set dc_is_set pm_is_set an_is_set cd_is_set ct_is_set), sl_is_set⟩)
    (c_is_set : PySem.W.codeIn K cd_is_set "is_set" = true)
    (k_is_set : PySem.W.keepIn K (.ref ad_is_set) = true)
    (a_is_part : PySem.W.nsIn K mainGlobals "is_part" = some (some (.ref ad_is_part)))
    (l_is_part : K.lookup ad_is_part = some ⟨oc_is_part, od_is_part, .func (PySem.W.fnOf "is_part" "is_part" (defArgs s_is_part) (defBody s_is_part) (defScope s_is_part) .none kV_is_part dc_is_part pm_is_part an_is_part cd_is_part ct_is_part), sl_is_part⟩)
    (c_is_part : PySem.W.codeIn K cd_is_part "is_part" = true)
    (k_is_part : PySem.W.keepIn K (.ref ad_is_part) = true)
    (a_is_cover : PySem.W.nsIn K mainGlobals "is_cover" = some (some (.ref ad_is_cover)))
    (l_is_cover : K.lookup ad_is_cover = some ⟨oc_is_cover, od_is_cover, .func (PySem.W.fnOf "is_cover" "is_cover" (defArgs s_is_cover) (defBody s_is_cover) (defScope s_is_cover) .none kV_is_cover dc_is_cover pm_is_cover an_is_cover cd_is_cover ct_is_cover), sl_is_cover⟩)
    (c_is_cover : PySem.W.codeIn K cd_is_cover "is_cover" = true)
    (k_is_cover : PySem.W.keepIn K (.ref ad_is_cover) = true)
    (a_law_bit : PySem.W.nsIn K mainGlobals "_law_bit" = some (some (.ref ad_law_bit)))
    (l_law_bit : K.lookup ad_law_bit = some ⟨oc_law_bit, od_law_bit, .func (PySem.W.fnOf "_law_bit" "_law_bit" (defArgs s_law_bit) (defBody s_law_bit) (defScope s_law_bit) .none kV_law_bit dc_law_bit pm_law_bit an_law_bit cd_law_bit ct_law_bit), sl_law_bit⟩)
    (c_law_bit : PySem.W.codeIn K cd_law_bit "_law_bit" = true)
    (k_law_bit : PySem.W.keepIn K (.ref ad_law_bit) = true)
    (a_law : PySem.W.nsIn K mainGlobals "law" = some (some (.ref ad_law)))
    (l_law : K.lookup ad_law = some ⟨oc_law, od_law, .func (PySem.W.fnOf "law" "law" (defArgs s_law) (defBody s_law) (defScope s_law) .none kV_law dc_law pm_law an_law cd_law ct_law), sl_law⟩)
    (c_law : PySem.W.codeIn K cd_law "law" = true)
    (k_law : PySem.W.keepIn K (.ref ad_law) = true)
    (z_abs : PySem.W.nsIn K mainGlobals "abs" = some none)
    (z_all : PySem.W.nsIn K mainGlobals "all" = some none)
    (z_bool : PySem.W.nsIn K mainGlobals "bool" = some none)
    (z_enumerate : PySem.W.nsIn K mainGlobals "enumerate" = some none)
    (z_int : PySem.W.nsIn K mainGlobals "int" = some none)
    (z_isinstance : PySem.W.nsIn K mainGlobals "isinstance" = some none)
    (z_len : PySem.W.nsIn K mainGlobals "len" = some none)
    (z_list : PySem.W.nsIn K mainGlobals "list" = some none)
    (z_min : PySem.W.nsIn K mainGlobals "min" = some none)
    (z_range : PySem.W.nsIn K mainGlobals "range" = some none)
    (z_tuple : PySem.W.nsIn K mainGlobals "tuple" = some none)
    (z_zip : PySem.W.nsIn K mainGlobals "zip" = some none)
    : ∃ fd : FuncData, (∀ (s : Shared) (v : Value), BindsTo s fd ⟨[v], []⟩ [("script", v)]) ∧ ∀ base : Heap, K.In base → base.Ns mainGlobals mg → FnOk l.prog w K mg base CX0 7 fa fd ["script"] (Mi.spLaw K) := by
  have e := hfa.symm.trans (PySem.W.mg_of X G a_law)
  cases e
  have y_abs := PySem.W.mg_none_of X G z_abs
  have y_all := PySem.W.mg_none_of X G z_all
  have y_bool := PySem.W.mg_none_of X G z_bool
  have y_enumerate := PySem.W.mg_none_of X G z_enumerate
  have y_int := PySem.W.mg_none_of X G z_int
  have y_isinstance := PySem.W.mg_none_of X G z_isinstance
  have y_len := PySem.W.mg_none_of X G z_len
  have y_list := PySem.W.mg_none_of X G z_list
  have y_min := PySem.W.mg_none_of X G z_min
  have y_range := PySem.W.mg_none_of X G z_range
  have y_tuple := PySem.W.mg_none_of X G z_tuple
  have y_zip := PySem.W.mg_none_of X G z_zip
  have F_law_numbers := fun_mk (st := s_law_numbers) l_law_numbers c_law_numbers k_law_numbers
  have b_law_numbers := F_law_numbers.binds (ps := ["script"]) fun _ _ _ _ _ _ us hl => match us, hl with | [_], _ => rfl
  have F_law_next := fun_mk (st := s_law_next) l_law_next c_law_next k_law_next
  have b_law_next := F_law_next.binds (ps := ["numbers", "many"]) fun _ _ _ _ _ _ us hl => match us, hl with | [_, _], _ => rfl
  have F_partners := fun_mk (st := s_partners) l_partners c_partners k_partners
  have b_partners := F_partners.binds (ps := ["size", "holders"]) fun _ _ _ _ _ _ us hl => match us, hl with | [_, _], _ => rfl
  have F_lowest := fun_mk (st := s_lowest) l_lowest c_lowest k_lowest
  have b_lowest := F_lowest.binds (ps := ["bits"]) fun _ _ _ _ _ _ us hl => match us, hl with | [_], _ => rfl
  have F_augmenting_way := fun_mk (st := s_augmenting_way) l_augmenting_way c_augmenting_way k_augmenting_way
  have b_augmenting_way := F_augmenting_way.binds (ps := ["joined", "holders", "start"]) fun _ _ _ _ _ _ us hl => match us, hl with | [_, _, _], _ => rfl
  have F_largest_matching := fun_mk (st := s_largest_matching) l_largest_matching c_largest_matching k_largest_matching
  have b_largest_matching := F_largest_matching.binds (ps := ["joined", "right"]) fun _ _ _ _ _ _ us hl => match us, hl with | [_, _], _ => rfl
  have F_set_of := fun_mk (st := s_set_of) l_set_of c_set_of k_set_of
  have b_set_of := F_set_of.binds (ps := ["points"]) fun _ _ _ _ _ _ us hl => match us, hl with | [_], _ => rfl
  have F_members := fun_mk (st := s_members) l_members c_members k_members
  have b_members := F_members.binds (ps := ["bits"]) fun _ _ _ _ _ _ us hl => match us, hl with | [_], _ => rfl
  have F_has := fun_mk (st := s_has) l_has c_has k_has
  have b_has := F_has.binds (ps := ["bits", "x"]) fun _ _ _ _ _ _ us hl => match us, hl with | [_, _], _ => rfl
  have F_least_cover := fun_mk (st := s_least_cover) l_least_cover c_least_cover k_least_cover
  have b_least_cover := F_least_cover.binds (ps := ["joined", "right", "matching"]) fun _ _ _ _ _ _ us hl => match us, hl with | [_, _, _], _ => rfl
  have F_count := fun_mk (st := s_count) l_count c_count k_count
  have b_count := F_count.binds (ps := ["bits"]) fun _ _ _ _ _ _ us hl => match us, hl with | [_], _ => rfl
  have F_is_integer := fun_mk (st := s_is_integer) l_is_integer c_is_integer k_is_integer
  have b_is_integer := F_is_integer.binds (ps := ["value"]) fun _ _ _ _ _ _ us hl => match us, hl with | [_], _ => rfl
  have F_is_matching := fun_mk (st := s_is_matching) l_is_matching c_is_matching k_is_matching
  have b_is_matching := F_is_matching.binds (ps := ["joined", "matching"]) fun _ _ _ _ _ _ us hl => match us, hl with | [_, _], _ => rfl
  have F_is_set := fun_mk (st := s_is_set) l_is_set c_is_set k_is_set
  have b_is_set := F_is_set.binds (ps := ["value", "n"]) fun _ _ _ _ _ _ us hl => match us, hl with | [_, _], _ => rfl
  have F_is_part := fun_mk (st := s_is_part) l_is_part c_is_part k_is_part
  have b_is_part := F_is_part.binds (ps := ["one", "two"]) fun _ _ _ _ _ _ us hl => match us, hl with | [_, _], _ => rfl
  have F_is_cover := fun_mk (st := s_is_cover) l_is_cover c_is_cover k_is_cover
  have b_is_cover := F_is_cover.binds (ps := ["joined", "cover"]) fun _ _ _ _ _ _ us hl => match us, hl with | [_, _], _ => rfl
  have F_law_bit := fun_mk (st := s_law_bit) l_law_bit c_law_bit k_law_bit
  have b_law_bit := F_law_bit.binds (ps := ["bits", "y"]) fun _ _ _ _ _ _ us hl => match us, hl with | [_, _], _ => rfl
  have F_law := fun_mk (st := s_law) l_law c_law k_law
  have b_law := F_law.binds (ps := ["script"]) fun _ _ _ _ _ _ us hl => match us, hl with | [_], _ => rfl
  refine ⟨PySem.W.fnOf "law" "law" (defArgs s_law) (defBody s_law) (defScope s_law) .none kV_law dc_law pm_law an_law cd_law ct_law, fun s v => .of_eq rfl, fun base _ _ => ?_⟩
  let a : Mi.Ax := ⟨⟨0, 0, 0⟩, 0, 0, 0⟩
  have q_law_numbers : Cal l.prog w K mg base CX0 1 "_law_numbers" ["script"] (Mi.spNums K) := ⟨ad_law_numbers, _, OF.ok_lnums F_law_numbers y_range y_len y_min y_abs, PySem.W.mg_of X G a_law_numbers, k_law_numbers, b_law_numbers⟩
  have q_law_next : Cal l.prog w K mg base (L2.CX l.prog w) 1 "_law_next" ["numbers", "many"] (Mi.PuMX K (Mi.m_law_next a)) := ⟨ad_law_next, _, OF.ok_law_next F_law_next y_len, PySem.W.mg_of X G a_law_next, k_law_next, b_law_next⟩
  have q_partners : Cal l.prog w K mg base (L2.CX l.prog w) 1 "partners" ["size", "holders"] (Mi.PuX K a.cs (Mi.m_partners a)) := ⟨ad_partners, _, OF.ok_partners F_partners y_enumerate y_tuple, PySem.W.mg_of X G a_partners, k_partners, b_partners⟩
  have q_lowest : Cal l.prog w K mg base (L2.CX l.prog w) 3 "lowest" ["bits"] (Mi.PuX K a.cs (Mi.m_lowest a)) := ⟨ad_lowest, _, OF.ok_lowest F_lowest , PySem.W.mg_of X G a_lowest, k_lowest, b_lowest⟩
  have q_augmenting_way : Cal l.prog w K mg base (L2.CX l.prog w) 4 "augmenting_way" ["joined", "holders", "start"] (PuBX K 1 (Mi.m_augmenting_way a)) := ⟨ad_augmenting_way, _, OF.ok_augmenting_way F_augmenting_way y_len q_lowest y_list y_zip, PySem.W.mg_of X G a_augmenting_way, k_augmenting_way, b_augmenting_way⟩
  have q_largest_matching : Cal l.prog w K mg base (L2.CX l.prog w) 5 "largest_matching" ["joined", "right"] (Mi.PuX K a.cs (Mi.m_largest_matching a)) := ⟨ad_largest_matching, _, OF.ok_largest_matching F_largest_matching y_len y_range q_augmenting_way q_partners, PySem.W.mg_of X G a_largest_matching, k_largest_matching, b_largest_matching⟩
  have q_set_of : Cal l.prog w K mg base (L2.CX l.prog w) 1 "set_of" ["points"] (Mi.PuX K a.cs (Mi.m_set_of a)) := ⟨ad_set_of, _, OF.ok_set_of F_set_of , PySem.W.mg_of X G a_set_of, k_set_of, b_set_of⟩
  have q_members : Cal l.prog w K mg base (L2.CX l.prog w) 4 "members" ["bits"] (Mi.PuX K a.cs (Mi.m_members a)) := ⟨ad_members, _, OF.ok_members F_members q_lowest y_tuple, PySem.W.mg_of X G a_members, k_members, b_members⟩
  have q_has : Cal l.prog w K mg base (L2.CX l.prog w) 1 "has" ["bits", "x"] (Mi.PuX K a.cs (Mi.m_has a)) := ⟨ad_has, _, OF.ok_has F_has , PySem.W.mg_of X G a_has, k_has, b_has⟩
  have q_least_cover : Cal l.prog w K mg base (L2.CX l.prog w) 5 "least_cover" ["joined", "right", "matching"] (Mi.PuX K a.cs (Mi.m_least_cover a)) := ⟨ad_least_cover, _, OF.ok_least_cover F_least_cover q_partners y_len y_range q_set_of q_members q_has, PySem.W.mg_of X G a_least_cover, k_least_cover, b_least_cover⟩
  have q_count : Cal l.prog w K mg base (L2.CX l.prog w) 5 "count" ["bits"] (Mi.PuX K a.cs (Mi.m_count a)) := ⟨ad_count, _, OF.ok_count F_count q_members y_len, PySem.W.mg_of X G a_count, k_count, b_count⟩
  have q_is_integer : Cal l.prog w K mg base (L2.CX l.prog w) 1 "is_integer" ["value"] (Mi.PuX K a.cs (Mi.m_is_integer a)) := ⟨ad_is_integer, _, OF.ok_is_integer F_is_integer y_isinstance y_int y_bool, PySem.W.mg_of X G a_is_integer, k_is_integer, b_is_integer⟩
  have q_is_matching : Cal l.prog w K mg base (L2.CX l.prog w) 6 "is_matching" ["joined", "matching"] (Mi.PuX K a.cs (Mi.m_is_matching a)) := ⟨ad_is_matching, _, OF.ok_is_matching F_is_matching y_isinstance y_tuple y_len q_is_integer y_all y_enumerate q_has q_count q_set_of, PySem.W.mg_of X G a_is_matching, k_is_matching, b_is_matching⟩
  have q_is_set : Cal l.prog w K mg base (L2.CX l.prog w) 2 "is_set" ["value", "n"] (Mi.PuX K a.cs (Mi.m_is_set a)) := ⟨ad_is_set, _, OF.ok_is_set F_is_set q_is_integer, PySem.W.mg_of X G a_is_set, k_is_set, b_is_set⟩
  have q_is_part : Cal l.prog w K mg base (L2.CX l.prog w) 1 "is_part" ["one", "two"] (Mi.PuX K a.cs (Mi.m_is_part a)) := ⟨ad_is_part, _, OF.ok_is_part F_is_part , PySem.W.mg_of X G a_is_part, k_is_part, b_is_part⟩
  have q_is_cover : Cal l.prog w K mg base (L2.CX l.prog w) 3 "is_cover" ["joined", "cover"] (Mi.PuX K a.cs (Mi.m_is_cover a)) := ⟨ad_is_cover, _, OF.ok_is_cover F_is_cover y_isinstance y_tuple y_len q_is_set q_is_integer y_range q_has q_is_part y_all, PySem.W.mg_of X G a_is_cover, k_is_cover, b_is_cover⟩
  have q_law_bit : Cal l.prog w K mg base (L2.CX l.prog w) 1 "_law_bit" ["bits", "y"] (Mi.PuX K a.cs (Mi.m_law_bit a)) := ⟨ad_law_bit, _, OF.ok_law_bit F_law_bit , PySem.W.mg_of X G a_law_bit, k_law_bit, b_law_bit⟩
  exact OF.ok_law (a := a) F_law q_law_numbers q_law_next y_range y_tuple q_largest_matching q_least_cover q_law_bit y_len q_is_matching q_is_cover (Mi.law_k11 a)
end OF
open PySem PySem.W PyProof.Rows in
set_option maxRecDepth 100000 in
set_option maxHeartbeats 0 in
theorem PySem.Challenge.cw_orderforms_k11_whole_matchings_and_cover_holds : PySem.Challenge.rw_orderforms_k11_whole_matchings_and_cover.Holds := by
  w_on; o_law; k_head; (case hw => w_witness2)
  k_fill
  refine L2.walk_of (l := PySem.Challenge.rw_orderforms_k11_whole_matchings_and_cover) (n := 63) (k := 7) (x := "script") (CX := fun _ => L2.CX0) (sp := fun w => Mi.spLaw _) rfl (by decide) rfl ⟨rfl, by decide, by decide⟩ (fun w h Y => PySem.W.kIn_of Y) ?F (fun _ _ a ns hl _ hS => ⟨a, ns, rfl, hS, fun _ => rfl⟩) (fun _ _ _ _ _ h => h)
  case F =>
    intro w mg fa h KX G hmg
    refine' OF.all_mk KX G hmg ?a_law_numbers ?l_law_numbers ?c_law_numbers ?k_law_numbers ?a_law_next ?l_law_next ?c_law_next ?k_law_next ?a_partners ?l_partners ?c_partners ?k_partners ?a_lowest ?l_lowest ?c_lowest ?k_lowest ?a_augmenting_way ?l_augmenting_way ?c_augmenting_way ?k_augmenting_way ?a_largest_matching ?l_largest_matching ?c_largest_matching ?k_largest_matching ?a_set_of ?l_set_of ?c_set_of ?k_set_of ?a_members ?l_members ?c_members ?k_members ?a_has ?l_has ?c_has ?k_has ?a_least_cover ?l_least_cover ?c_least_cover ?k_least_cover ?a_count ?l_count ?c_count ?k_count ?a_is_integer ?l_is_integer ?c_is_integer ?k_is_integer ?a_is_matching ?l_is_matching ?c_is_matching ?k_is_matching ?a_is_set ?l_is_set ?c_is_set ?k_is_set ?a_is_part ?l_is_part ?c_is_part ?k_is_part ?a_is_cover ?l_is_cover ?c_is_cover ?k_is_cover ?a_law_bit ?l_law_bit ?c_law_bit ?k_law_bit ?a_law ?l_law ?c_law ?k_law ?z_abs ?z_all ?z_bool ?z_enumerate ?z_int ?z_isinstance ?z_len ?z_list ?z_min ?z_range ?z_tuple ?z_zip
    (case a_law_numbers => k_is)
    (case l_law_numbers => k_is)
    (case c_law_numbers => k_is)
    (case k_law_numbers => k_is)
    (case a_law_next => k_is)
    (case l_law_next => k_is)
    (case c_law_next => k_is)
    (case k_law_next => k_is)
    (case a_partners => k_is)
    (case l_partners => k_is)
    (case c_partners => k_is)
    (case k_partners => k_is)
    (case a_lowest => k_is)
    (case l_lowest => k_is)
    (case c_lowest => k_is)
    (case k_lowest => k_is)
    (case a_augmenting_way => k_is)
    (case l_augmenting_way => k_is)
    (case c_augmenting_way => k_is)
    (case k_augmenting_way => k_is)
    (case a_largest_matching => k_is)
    (case l_largest_matching => k_is)
    (case c_largest_matching => k_is)
    (case k_largest_matching => k_is)
    (case a_set_of => k_is)
    (case l_set_of => k_is)
    (case c_set_of => k_is)
    (case k_set_of => k_is)
    (case a_members => k_is)
    (case l_members => k_is)
    (case c_members => k_is)
    (case k_members => k_is)
    (case a_has => k_is)
    (case l_has => k_is)
    (case c_has => k_is)
    (case k_has => k_is)
    (case a_least_cover => k_is)
    (case l_least_cover => k_is)
    (case c_least_cover => k_is)
    (case k_least_cover => k_is)
    (case a_count => k_is)
    (case l_count => k_is)
    (case c_count => k_is)
    (case k_count => k_is)
    (case a_is_integer => k_is)
    (case l_is_integer => k_is)
    (case c_is_integer => k_is)
    (case k_is_integer => k_is)
    (case a_is_matching => k_is)
    (case l_is_matching => k_is)
    (case c_is_matching => k_is)
    (case k_is_matching => k_is)
    (case a_is_set => k_is)
    (case l_is_set => k_is)
    (case c_is_set => k_is)
    (case k_is_set => k_is)
    (case a_is_part => k_is)
    (case l_is_part => k_is)
    (case c_is_part => k_is)
    (case k_is_part => k_is)
    (case a_is_cover => k_is)
    (case l_is_cover => k_is)
    (case c_is_cover => k_is)
    (case k_is_cover => k_is)
    (case a_law_bit => k_is)
    (case l_law_bit => k_is)
    (case c_law_bit => k_is)
    (case k_law_bit => k_is)
    (case a_law => k_is)
    (case l_law => k_is)
    (case c_law => k_is)
    (case k_law => k_is)
    (case z_abs => k_is)
    (case z_all => k_is)
    (case z_bool => k_is)
    (case z_enumerate => k_is)
    (case z_int => k_is)
    (case z_isinstance => k_is)
    (case z_len => k_is)
    (case z_list => k_is)
    (case z_min => k_is)
    (case z_range => k_is)
    (case z_tuple => k_is)
    (case z_zip => k_is)
