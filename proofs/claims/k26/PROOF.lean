import PyProof.Rows.All
import Wide.All
import OpenK.AllK
import Wide.FinOn
import HandS.ForMost
import HandS.ForExc
import HandS.Wide
import HandS.Iter
import HandS.IsInst
import HandS.Flow
import HandS.Style
import HandS.EndBits
import HandS.Dict
import HandS.Sort
import HandS.More
import HandS.WideBits
import HandS.SetFor
import HandS.Conv
import PyProof.Rows.ChunkEnd
import KE.KDictZip
import PyProof.Rows.SetFrom
import HandS.TryOnly
import HandS.Deep
import PySem.Challenge.RW_hardwraps_k26_normal_forms_are_shortest
set_option Elab.async false
set_option linter.all false
set_option maxRecDepth 100000
namespace FX
open PySem PySem.Spec PyProof.Rows L2

/-- a value as data; `hnd i` is the i-th cell of the store (a list or dict that may change) -/
inductive D where
  | non | bl (b : Bool) | int (i : Int) | str (x : Str) | ty (n : String) | con (a : Addr)
  | lst (xs : List D) | tup (xs : List D) | dct (ks : List Key) (xs : List D) | set (xs : List Int)
  | hnd (i : Nat) | scr (ns : List Int)
  deriving Inhabited
abbrev Sto := List D

mutual
def Rep (K : PySem.W.Frag) (ad Z : List Addr) (H : Hp) : D → V → Prop
  | .non, v => v = .non
  | .bl b, v => v = .bl b
  | .int i, v => v = .int i
  | .str x, v => v = .str x
  | .ty n, v => v = .ty n
  | .con a, v => v = .ref a
  | .lst ds, v => ∃ a vs, v = .ref a ∧ (a ∉ ad ∧ a ∉ Z) ∧ H a = some (.lst vs) ∧ RepL K ad Z H ds vs
  | .tup ds, v => ∃ a vs, v = .ref a ∧ (a ∉ ad ∧ a ∉ Z) ∧ H a = some (.tup vs) ∧ RepL K ad Z H ds vs
  | .dct ks ds, v => ∃ a kvs, v = .ref a ∧ (a ∉ ad ∧ a ∉ Z) ∧ H a = some (.dK kvs) ∧ kvs.map (·.1) = ks ∧ RepL K ad Z H ds (kvs.map (·.2))
  | .set xs, v => ∃ a S, v = .ref a ∧ (a ∉ ad ∧ a ∉ Z) ∧ H a = some (.set S xs.length) ∧ (∀ i, S i = true ↔ i ∈ xs) ∧ xs.Nodup
  | .hnd i, v => ∃ a, ad[i]? = some a ∧ v = .ref a
  | .scr ns, v => ∃ a, v = .ref a ∧ (((a ∉ ad ∧ a ∉ Z) ∧ Rd H a (.lst (ns.map V.int))) ∨ ∀ H' : Hp, SqL K H' a (ns.map V.int))
def RepL (K : PySem.W.Frag) (ad Z : List Addr) (H : Hp) : List D → List V → Prop
  | [], vs => vs = []
  | d :: ds, vs => ∃ v r, vs = v :: r ∧ Rep K ad Z H d v ∧ RepL K ad Z H ds r
end

/-- a cell of the store, at its address -/
def Cell (K : PySem.W.Frag) (ad Z : List Addr) (H : Hp) (a : Addr) : D → Prop
  | .lst ds => ∃ vs, H a = some (.lst vs) ∧ RepL K ad Z H ds vs
  | .dct ks ds => ∃ kvs, H a = some (.dK kvs) ∧ kvs.map (·.1) = ks ∧ RepL K ad Z H ds (kvs.map (·.2))
  | .set xs => ∃ S, H a = some (.set S xs.length) ∧ (∀ i, S i = true ↔ i ∈ xs) ∧ xs.Nodup
  | _ => False
structure StoOk (K : PySem.W.Frag) (ad Z : List Addr) (sto : Sto) (H : Hp) : Prop where
  len : ad.length = sto.length
  nd : ad.Nodup
  zd : ∀ z ∈ Z, ∃ o, H z = some o
  zn : ∀ z ∈ Z, z ∉ ad
  cell : ∀ (i : Nat) (a : Addr) (c : D), ad[i]? = some a → sto[i]? = some c → Cell K ad Z H a c

/-- all but the cells at ad stays -/
def FrA (ad : List Addr) (H H' : Hp) : Prop := ∀ b o, H b = some o → b ∉ ad → H' b = some o
def Ext (ad ad' : List Addr) (H : Hp) : Prop := ∃ more, ad' = ad ++ more ∧ ∀ b ∈ more, H b = none
structure Step (ad : List Addr) (H : Hp) (ad' : List Addr) (H' : Hp) : Prop where
  ext : Ext ad ad' H
  fr : FrA ad H H'

theorem Step.refl {ad H} : Step ad H ad H := ⟨⟨[], by simp, by simp⟩, fun _ _ h _ => h⟩
theorem Step.same {ad H H'} (h : Same H H') : Step ad H ad H' := ⟨⟨[], by simp, by simp⟩, fun b o e _ => h b o e⟩
theorem Step.trans {ad H ad1 H1 ad2 H2} (a : Step ad H ad1 H1) (b : Step ad1 H1 ad2 H2) (dom : ∀ x ∈ ad, ∃ o, H1 x = some o) : Step ad H ad2 H2 := by
  obtain ⟨⟨m1, rfl, n1⟩, f1⟩ := a
  obtain ⟨⟨m2, rfl, n2⟩, f2⟩ := b
  refine ⟨⟨m1 ++ m2, by simp, fun b hb => ?_⟩, fun b o e hb => ?_⟩
  · rcases List.mem_append.mp hb with h | h
    · exact n1 b h
    · have z := n2 b h
      cases q : H b with
      | none => rfl
      | some o =>
        by_cases hm : b ∈ ad
        · obtain ⟨o', e'⟩ := dom b hm
          rw [e'] at z; cases z
        · rw [f1 b o q hm] at z; cases z
  · refine f2 b o (f1 b o e hb) fun hm => ?_
    rcases List.mem_append.mp hm with h | h
    · exact hb h
    · rw [n1 b h] at e; cases e

theorem getElem?_ext {ad more : List Addr} {i : Nat} {a : Addr} (h : ad[i]? = some a) : (ad ++ more)[i]? = some a := by
  have hi : i < ad.length := (List.getElem?_eq_some_iff.mp h).1
  rw [List.getElem?_append_left hi]; exact h

theorem Rd.dom {H : Hp} {a : Addr} {u : HO} (h : Rd H a u) : ∃ o, H a = some o := by
  rcases h with h | ⟨o, h⟩
  · exact ⟨_, h⟩
  · exact ⟨_, h⟩
theorem Rd.fr {ad : List Addr} {H H' : Hp} {a : Addr} {u : HO} (f : FrA ad H H') (n : a ∉ ad) (h : Rd H a u) : Rd H' a u := by
  rcases h with h | ⟨o, h⟩
  · exact .inl (f _ _ h n)
  · exact .inr ⟨o, f _ _ h n⟩
theorem Ext.out {ad ad' : List Addr} {H : Hp} {a : Addr} {o : HO} (x : Ext ad ad' H) (n : a ∉ ad) (e : H a = some o) : a ∉ ad' := by
  obtain ⟨m, rfl, nm⟩ := x
  intro h
  rcases List.mem_append.mp h with h | h
  · exact n h
  · rw [nm a h] at e; cases e

mutual
theorem Rep.core {K : PySem.W.Frag} {ad ad' Z : List Addr} {H H' : Hp} (s : Ext ad ad' H) (f : ∀ b o, H b = some o → b ∉ ad → b ∉ Z → H' b = some o) : ∀ (d : D) (v : V), Rep K ad Z H d v → Rep K ad' Z H' d v
  | .non, _, h => h
  | .bl _, _, h => h
  | .int _, _, h => h
  | .str _, _, h => h
  | .ty _, _, h => h
  | .con _, _, h => h
  | .lst ds, v, h => by
    unfold Rep at h ⊢
    obtain ⟨a, vs, e, n, r, q⟩ := h
    exact ⟨a, vs, e, ⟨s.out n.1 r, n.2⟩, f _ _ r n.1 n.2, RepL.core s f ds vs q⟩
  | .tup ds, v, h => by
    unfold Rep at h ⊢
    obtain ⟨a, vs, e, n, r, q⟩ := h
    exact ⟨a, vs, e, ⟨s.out n.1 r, n.2⟩, f _ _ r n.1 n.2, RepL.core s f ds vs q⟩
  | .dct ks ds, v, h => by
    unfold Rep at h ⊢
    obtain ⟨a, kvs, e, n, r, k, q⟩ := h
    exact ⟨a, kvs, e, ⟨s.out n.1 r, n.2⟩, f _ _ r n.1 n.2, k, RepL.core s f ds _ q⟩
  | .set xs, v, h => by
    unfold Rep at h ⊢
    obtain ⟨a, S, e, n, r, q⟩ := h
    exact ⟨a, S, e, ⟨s.out n.1 r, n.2⟩, f _ _ r n.1 n.2, q⟩
  | .hnd i, v, h => by
    unfold Rep at h ⊢
    obtain ⟨a, e, q⟩ := h
    obtain ⟨m, rfl, _⟩ := s
    exact ⟨a, getElem?_ext e, q⟩
  | .scr ns, v, h => by
    unfold Rep at h ⊢
    obtain ⟨a, e, q⟩ := h
    refine ⟨a, e, ?_⟩
    rcases q with ⟨n, q⟩ | q
    · obtain ⟨o, eo⟩ := Rd.dom q
      exact .inl ⟨⟨s.out n.1 eo, n.2⟩, q.imp (fun q => f _ _ q n.1 n.2) fun ⟨o, q⟩ => ⟨o, f _ _ q n.1 n.2⟩⟩
    · exact .inr q
theorem RepL.core {K : PySem.W.Frag} {ad ad' Z : List Addr} {H H' : Hp} (s : Ext ad ad' H) (f : ∀ b o, H b = some o → b ∉ ad → b ∉ Z → H' b = some o) : ∀ (ds : List D) (vs : List V), RepL K ad Z H ds vs → RepL K ad' Z H' ds vs
  | [], _, h => h
  | d :: ds, vs, h => by
    unfold RepL at h ⊢
    obtain ⟨v, r, e, h1, h2⟩ := h
    exact ⟨v, r, e, Rep.core s f d v h1, RepL.core s f ds r h2⟩
end

theorem Rep.step {K : PySem.W.Frag} {ad ad' Z : List Addr} {H H' : Hp} (s : Step ad H ad' H') (d : D) (v : V) (h : Rep K ad Z H d v) : Rep K ad' Z H' d v := Rep.core s.ext (fun b o e n _ => s.fr b o e n) d v h
theorem RepL.step {K : PySem.W.Frag} {ad ad' Z : List Addr} {H H' : Hp} (s : Step ad H ad' H') (ds : List D) (vs : List V) (h : RepL K ad Z H ds vs) : RepL K ad' Z H' ds vs := RepL.core s.ext (fun b o e n _ => s.fr b o e n) ds vs h
theorem StoOk.dom {K : PySem.W.Frag} {ad Z sto H} (h : StoOk K ad Z sto H) : ∀ x ∈ ad, ∃ o, H x = some o := fun x hx => by
  obtain ⟨i, hi, e⟩ := List.getElem_of_mem hx
  have hi' : i < sto.length := by rw [← h.len]; exact hi
  have q := h.cell i x sto[i] (by rw [List.getElem?_eq_getElem hi, e]) (List.getElem?_eq_getElem hi')
  cases hc : sto[i] with
  | lst ds => rw [hc] at q; obtain ⟨vs, e, _⟩ := q; exact ⟨_, e⟩
  | dct ks ds => rw [hc] at q; obtain ⟨vs, e, _⟩ := q; exact ⟨_, e⟩
  | set xs => rw [hc] at q; obtain ⟨vs, e, _⟩ := q; exact ⟨_, e⟩
  | _ => rw [hc] at q; exact q.elim
theorem StoOk.same {K : PySem.W.Frag} {ad Z sto H H'} (h : StoOk K ad Z sto H) (s : Same H H') : StoOk K ad Z sto H' :=
  ⟨h.len, h.nd, fun z hz => (h.zd z hz).imp fun o e => s _ _ e, h.zn, fun i a c e1 e2 => by
    have q := h.cell i a c e1 e2
    cases c with
    | lst ds => obtain ⟨vs, e, r⟩ := q; exact ⟨vs, s _ _ e, RepL.step (.same s) _ _ r⟩
    | dct ks ds => obtain ⟨vs, e, k, r⟩ := q; exact ⟨vs, s _ _ e, k, RepL.step (.same s) _ _ r⟩
    | set xs => obtain ⟨S, e, r⟩ := q; exact ⟨S, s _ _ e, r⟩
    | _ => exact q.elim⟩
theorem RepL.len {K : PySem.W.Frag} {ad Z H} : ∀ {ds : List D} {vs : List V}, RepL K ad Z H ds vs → ds.length = vs.length
  | [], _, h => by unfold RepL at h; subst h; rfl
  | d :: ds, vs, h => by
    unfold RepL at h
    obtain ⟨v, r, rfl, _, h2⟩ := h
    simp [RepL.len h2]
theorem RepL.get {K : PySem.W.Frag} {ad Z H} : ∀ {ds : List D} {vs : List V} {i : Nat} {d : D}, RepL K ad Z H ds vs → ds[i]? = some d → ∃ v, vs[i]? = some v ∧ Rep K ad Z H d v
  | [], _, _, _, _, e => by simp at e
  | c :: ds, vs, 0, d, h, e => by
    unfold RepL at h
    obtain ⟨v, r, rfl, h1, _⟩ := h
    simp at e; subst e
    exact ⟨v, rfl, h1⟩
  | c :: ds, vs, i + 1, d, h, e => by
    unfold RepL at h
    obtain ⟨v, r, rfl, _, h2⟩ := h
    simp at e
    obtain ⟨w, e1, e2⟩ := RepL.get h2 e
    exact ⟨w, by simpa using e1, e2⟩
theorem RepL.append {K : PySem.W.Frag} {ad Z H} : ∀ {ds es : List D} {vs ws : List V}, RepL K ad Z H ds vs → RepL K ad Z H es ws → RepL K ad Z H (ds ++ es) (vs ++ ws)
  | [], _, _, _, h, k => by unfold RepL at h; subst h; exact k
  | d :: ds, es, vs, ws, h, k => by
    unfold RepL at h
    obtain ⟨v, r, rfl, h1, h2⟩ := h
    show RepL K ad Z H (d :: (ds ++ es)) (v :: (r ++ ws))
    unfold RepL
    exact ⟨v, _, rfl, h1, RepL.append h2 k⟩
theorem RepL.map_same {K : PySem.W.Frag} {ad Z : List Addr} {H : Hp} : ∀ (ns : List Int), RepL K ad Z H (ns.map D.int) (ns.map V.int)
  | [] => by unfold RepL; rfl
  | n :: r => by
    show RepL K ad Z H (D.int n :: r.map D.int) (V.int n :: r.map V.int)
    unfold RepL
    exact ⟨_, _, rfl, by unfold Rep; rfl, RepL.map_same r⟩
theorem RepL.set {K : PySem.W.Frag} {ad Z : List Addr} {H : Hp} : ∀ {ds : List D} {vs : List V} (i : Nat) {d : D} {v : V}, RepL K ad Z H ds vs → Rep K ad Z H d v → RepL K ad Z H (ds.set i d) (vs.set i v)
  | [], vs, i, d, v, h, k => by unfold RepL at h; subst h; unfold RepL; rfl
  | c :: ds, vs, 0, d, v, h, k => by
    unfold RepL at h
    obtain ⟨w, r, rfl, h1, h2⟩ := h
    show RepL K ad Z H (d :: ds) (v :: r)
    unfold RepL
    exact ⟨_, _, rfl, k, h2⟩
  | c :: ds, vs, i + 1, d, v, h, k => by
    unfold RepL at h
    obtain ⟨w, r, rfl, h1, h2⟩ := h
    show RepL K ad Z H (c :: ds.set i d) (w :: r.set i v)
    unfold RepL
    exact ⟨_, _, rfl, h1, RepL.set i h2 k⟩
theorem RepL.drop {K : PySem.W.Frag} {ad Z : List Addr} {H : Hp} : ∀ {ds : List D} {vs : List V} (n : Nat), RepL K ad Z H ds vs → RepL K ad Z H (ds.drop n) (vs.drop n)
  | _, _, 0, h => h
  | [], vs, n + 1, h => by unfold RepL at h; subst h; unfold RepL; rfl
  | c :: ds, vs, n + 1, h => by
    unfold RepL at h
    obtain ⟨w, r, rfl, h1, h2⟩ := h
    exact RepL.drop n h2
theorem RepL.take {K : PySem.W.Frag} {ad Z : List Addr} {H : Hp} : ∀ {ds : List D} {vs : List V} (n : Nat), RepL K ad Z H ds vs → RepL K ad Z H (ds.take n) (vs.take n)
  | _, _, 0, h => by simp; unfold RepL; rfl
  | [], vs, n + 1, h => by unfold RepL at h; subst h; unfold RepL; rfl
  | c :: ds, vs, n + 1, h => by
    unfold RepL at h
    obtain ⟨w, r, rfl, h1, h2⟩ := h
    show RepL K ad Z H (c :: ds.take n) (w :: r.take n)
    unfold RepL
    exact ⟨_, _, rfl, h1, RepL.take n h2⟩
mutual
theorem Rep.z {K : PySem.W.Frag} {ad Z Z' : List Addr} {H : Hp} (s : ∀ a o, H a = some o → a ∉ Z → a ∉ Z') : ∀ (d : D) (v : V), Rep K ad Z H d v → Rep K ad Z' H d v
  | .non, _, h => h
  | .bl _, _, h => h
  | .int _, _, h => h
  | .str _, _, h => h
  | .ty _, _, h => h
  | .con _, _, h => h
  | .lst ds, v, h => by
    unfold Rep at h ⊢
    obtain ⟨a, vs, e, n, r, q⟩ := h
    exact ⟨a, vs, e, ⟨n.1, s _ _ r n.2⟩, r, RepL.z s ds vs q⟩
  | .tup ds, v, h => by
    unfold Rep at h ⊢
    obtain ⟨a, vs, e, n, r, q⟩ := h
    exact ⟨a, vs, e, ⟨n.1, s _ _ r n.2⟩, r, RepL.z s ds vs q⟩
  | .dct ks ds, v, h => by
    unfold Rep at h ⊢
    obtain ⟨a, kvs, e, n, r, k, q⟩ := h
    exact ⟨a, kvs, e, ⟨n.1, s _ _ r n.2⟩, r, k, RepL.z s ds _ q⟩
  | .set xs, v, h => by
    unfold Rep at h ⊢
    obtain ⟨a, S, e, n, r, q⟩ := h
    exact ⟨a, S, e, ⟨n.1, s _ _ r n.2⟩, r, q⟩
  | .hnd i, v, h => h
  | .scr ns, v, h => by
    unfold Rep at h ⊢
    obtain ⟨a, e, q⟩ := h
    refine ⟨a, e, ?_⟩
    rcases q with ⟨n, q⟩ | q
    · obtain ⟨o, eo⟩ := Rd.dom q
      exact .inl ⟨⟨n.1, s _ _ eo n.2⟩, q⟩
    · exact .inr q
theorem RepL.z {K : PySem.W.Frag} {ad Z Z' : List Addr} {H : Hp} (s : ∀ a o, H a = some o → a ∉ Z → a ∉ Z') : ∀ (ds : List D) (vs : List V), RepL K ad Z H ds vs → RepL K ad Z' H ds vs
  | [], _, h => h
  | d :: ds, vs, h => by
    unfold RepL at h ⊢
    obtain ⟨v, r, e, h1, h2⟩ := h
    exact ⟨v, r, e, Rep.z s d v h1, RepL.z s ds r h2⟩
end
theorem StoOk.z {K : PySem.W.Frag} {ad Z Z' : List Addr} {sto : Sto} {H : Hp} (s : ∀ a o, H a = some o → a ∉ Z → a ∉ Z') (zd : ∀ z ∈ Z', ∃ o, H z = some o) (zn : ∀ z ∈ Z', z ∉ ad) (h : StoOk K ad Z sto H) : StoOk K ad Z' sto H :=
  ⟨h.len, h.nd, zd, zn, fun i a c e1 e2 => by
    have q := h.cell i a c e1 e2
    cases c with
    | lst ds => obtain ⟨vs, e, r⟩ := q; exact ⟨vs, e, RepL.z s _ _ r⟩
    | dct ks ds => obtain ⟨vs, e, k, r⟩ := q; exact ⟨vs, e, k, RepL.z s _ _ r⟩
    | set xs => exact q
    | _ => exact q.elim⟩
theorem Ext.refl {ad : List Addr} {H : Hp} : Ext ad ad H := ⟨[], by simp, by simp⟩
theorem StoOk.core {K : PySem.W.Frag} {ad Z : List Addr} {sto : Sto} {H H' : Hp} (f : ∀ b o, H b = some o → b ∉ Z → H' b = some o) (zd : ∀ z ∈ Z, ∃ o, H' z = some o) (h : StoOk K ad Z sto H) : StoOk K ad Z sto H' :=
  ⟨h.len, h.nd, zd, h.zn, fun i a c e1 e2 => by
    have q := h.cell i a c e1 e2
    have hm : a ∉ Z := fun hz => h.zn a hz (List.mem_of_getElem? e1)
    cases c with
    | lst ds => obtain ⟨vs, e, r⟩ := q; exact ⟨vs, f _ _ e hm, RepL.core .refl (fun b o e _ n => f b o e n) _ _ r⟩
    | dct ks ds => obtain ⟨vs, e, k, r⟩ := q; exact ⟨vs, f _ _ e hm, k, RepL.core .refl (fun b o e _ n => f b o e n) _ _ r⟩
    | set xs => obtain ⟨S, e, r⟩ := q; exact ⟨S, f _ _ e hm, r⟩
    | _ => exact q.elim⟩
end FX

set_option Elab.async false
set_option linter.all false
set_option maxRecDepth 100000
namespace FX
open PySem PySem.Spec PyProof.Rows L2

/-- locals (with: was it made since the def's entry), store -/
structure En where
  loc : List (Option (D × Bool))
  sto : Sto
inductive R (α : Type) where
  | ok (a : α) (s : Sto)
  | exc (C : Addr) (fs : Option (List (Str × D))) (s : Sto)
  | bad
def R.bind {α β : Type} (r : R α) (f : α → Sto → R β) : R β :=
  match r with
  | .ok a s => f a s
  | .exc C fs s => .exc C fs s
  | .bad => .bad
@[simp] theorem R.bind_ok {α β : Type} {a : α} {s : Sto} {f : α → Sto → R β} : (R.ok a s).bind f = f a s := rfl
@[simp] theorem R.bind_exc {α β : Type} {C fs} {s : Sto} {f : α → Sto → R β} : (R.exc C fs s : R α).bind f = .exc C fs s := rfl
@[simp] theorem R.bind_bad {α β : Type} {f : α → Sto → R β} : (R.bad : R α).bind f = .bad := rfl
abbrev EvE := En → R (D × Nat)
abbrev EvA := En → R (List D)
abbrev EvT := En → R Bool
def ofO {α : Type} (o : Option α) (s : Sto) : R α := match o with | some x => .ok x s | none => .bad
@[simp] theorem ofO_some {α : Type} {x : α} {s : Sto} : ofO (some x) s = .ok x s := rfl
@[simp] theorem ofO_none {α : Type} {s : Sto} : ofO (none : Option α) s = .bad := rfl

/-- a value that is new to the heap -/
def Lv (H : Hp) (v : V) : Prop := ∀ a, v = .ref a → H a = none
structure Rel (K : PySem.W.Frag) (H0 : Hp) (ad0 ad Z : List Addr) (e : En) (σ : L2.St) (H : Hp) : Prop where
  sto : StoOk K ad Z e.sto H
  loc : ∀ (i : Nat) (d : D) (y : Bool), e.loc[i]? = some (some (d, y)) → ∃ v, σ[i]? = some (some v) ∧ Rep K ad Z H d v ∧ (y = true → Lv H0 v)
  len : σ.length = e.loc.length
  st : Step ad0 H0 ad H
def XOk (K : PySem.W.Frag) (ad Z : List Addr) (H : Hp) (od : Option Addr) : Option (List (Str × D)) → Prop
  | none => od = none
  | some fs => ∃ dx kvs, od = some dx ∧ H dx = some (.xd kvs) ∧ kvs.map (·.1) = fs.map (·.1) ∧ RepL K ad Z H (fs.map (·.2)) (kvs.map (·.2))

theorem Step.sub {ad H ad' H'} (s : Step ad H ad' H') : ∀ x ∈ ad, x ∈ ad' := fun x hx => by
  obtain ⟨⟨m, rfl, _⟩, _⟩ := s
  exact List.mem_append_left _ hx
theorem Lv.back {ad H ad' H' v} (s : Step ad H ad' H') (dom : ∀ x ∈ ad', ∃ o, H' x = some o) (h : Lv H' v) : Lv H v := fun a e => by
  have z := h a e
  cases q : H a with
  | none => rfl
  | some o =>
    by_cases hm : a ∈ ad
    · obtain ⟨o', e'⟩ := dom a (s.sub a hm)
      rw [z] at e'; cases e'
    · rw [s.fr a o q hm] at z; cases z

section
variable {K : PySem.W.Frag} {H0 : Hp} {ad0 : List Addr} {W : WX}
theorem Rel.same {ad Z e σ H H'} (r : Rel K H0 ad0 ad Z e σ H) (s : Same H H') : Rel K H0 ad0 ad Z e σ H' where
  sto := r.sto.same s
  loc := fun i d y h => by
    obtain ⟨v, h1, h2, h3⟩ := r.loc i d y h
    exact ⟨v, h1, Rep.step (.same s) _ _ h2, h3⟩
  len := r.len
  st := r.st.trans (.same s) fun x hx => r.sto.dom x (r.st.sub x hx)
theorem Rel.lv0 {ad Z e σ H v} (r : Rel K H0 ad0 ad Z e σ H) (h : Lv H v) : Lv H0 v := h.back r.st r.sto.dom
/-- a step from a related state, and behind it -/
theorem Rel.tr {ad Z H ad1 e1 σ1 H1 ad2 H2} (r1 : Rel K H0 ad0 ad1 Z e1 σ1 H1) (a : Step ad H ad1 H1) (b : Step ad1 H1 ad2 H2) : Step ad H ad2 H2 :=
  a.trans b fun x hx => r1.sto.dom x (a.sub x hx)

/-- what is wanted behind an evaluation -/
def post (K : PySem.W.Frag) (H0 : Hp) (ad0 : List Addr) (W : WX) {α : Type} (ad Z : List Addr) (e : En) (σ : L2.St) (H : Hp) (r : R α) (k : α → List Addr → Sto → Hp → Prop) : Prop :=
  match r with
  | .ok x s' => ∀ H' ad', Step ad H ad' H' → Rel K H0 ad0 ad' Z ⟨e.loc, s'⟩ σ H' → k x ad' s' H'
  | .exc C fs s' => ∀ od H' ad', Step ad H ad' H' → Rel K H0 ad0 ad' Z ⟨e.loc, s'⟩ σ H' → XOk K ad' Z H' od fs → W (.ref C) od σ H'
  | .bad => False
theorem post_bind {α β : Type} {ad Z : List Addr} {e : En} {σ : L2.St} {H : Hp} {r : R α} {f : α → Sto → R β} {k : β → List Addr → Sto → Hp → Prop}
    (h : post K H0 ad0 W ad Z e σ H (r.bind f) k) : post K H0 ad0 W ad Z e σ H r fun x ad1 s1 H1 => Step ad H ad1 H1 ∧ Rel K H0 ad0 ad1 Z ⟨e.loc, s1⟩ σ H1 ∧ post K H0 ad0 W ad1 Z ⟨e.loc, s1⟩ σ H1 (f x s1) fun y ad2 s2 H2 => Step ad1 H1 ad2 H2 ∧ Rel K H0 ad0 ad2 Z ⟨e.loc, s2⟩ σ H2 ∧ k y ad2 s2 H2 := by
  cases r with
  | ok x s1 =>
    intro H1 ad1 st1 r1
    refine ⟨st1, r1, ?_⟩
    have h : post K H0 ad0 W ad Z e σ H (f x s1) k := h
    cases hf : f x s1 with
    | ok y s2 =>
      rw [hf] at h
      intro H2 ad2 st2 r2
      exact ⟨st2, r2, h H2 ad2 (r1.tr st1 st2) r2⟩
    | exc C fs s2 =>
      rw [hf] at h
      intro od H2 ad2 st2 r2 x2
      exact h od H2 ad2 (r1.tr st1 st2) r2 x2
    | bad => rw [hf] at h; exact h.elim
  | exc C fs s1 => exact h
  | bad => exact h
theorem post.mono {α : Type} {ad Z : List Addr} {e : En} {σ : L2.St} {H : Hp} {r : R α} {k k' : α → List Addr → Sto → Hp → Prop}
    (h : post K H0 ad0 W ad Z e σ H r k) (m : ∀ x ad' s' H', k x ad' s' H' → k' x ad' s' H') : post K H0 ad0 W ad Z e σ H r k' := by
  cases r with
  | ok x s => exact fun H' ad' a b => m _ _ _ _ (h H' ad' a b)
  | exc C fs s => exact h
  | bad => exact h
/-- the wanted end of an expression -/
def fin (K : PySem.W.Frag) (Z : List Addr) (H0 H : Hp) (Q : VK) (x : D × Nat) (ad' : List Addr) (s' : Sto) (H' : Hp) : Prop :=
  ∀ v, Rep K ad' Z H' x.1 v → (1 ≤ x.2 → Lv H0 v) → (2 ≤ x.2 → Lv H v) → Q v H'
def finA (K : PySem.W.Frag) (Z : List Addr) (Q : List V → Hp → Prop) (x : List D) (ad' : List Addr) (s' : Sto) (H' : Hp) : Prop := ∀ vs, RepL K ad' Z H' x vs → Q vs H'

def tE (K : PySem.W.Frag) (H0 : Hp) (ad0 : List Addr) (W : WX) (ev : EvE) : TE := fun σ H Q => ∃ Z ad e, Rel K H0 ad0 ad Z e σ H ∧ post K H0 ad0 W ad Z e σ H (ev e) (fin K Z H0 H Q)
def tAr (K : PySem.W.Frag) (H0 : Hp) (ad0 : List Addr) (W : WX) (ev : EvA) : TA := fun σ H Q => ∃ Z ad e, Rel K H0 ad0 ad Z e σ H ∧ post K H0 ad0 W ad Z e σ H (ev e) (finA K Z Q)
def tTs (K : PySem.W.Frag) (H0 : Hp) (ad0 : List Addr) (W : WX) (ev : EvT) : TT := fun σ H Q => ∃ Z ad e, Rel K H0 ad0 ad Z e σ H ∧ post K H0 ad0 W ad Z e σ H (ev e) fun b _ _ H' => Q b H'

/-- a value at once -/
theorem post_now {ad Z e σ H Q d l} (rel : Rel K H0 ad0 ad Z e σ H) (h : post K H0 ad0 W ad Z e σ H (.ok (d, l) e.sto) (fin K Z H0 H Q)) {v : V} {H' : Hp} (s : Same H H') (r : Rep K ad Z H' d v) (lv : 1 ≤ l → Lv H v) : Q v H' :=
  h H' ad (.same s) (rel.same s) v r (fun h1 => rel.lv0 (lv h1)) fun h2 => lv (by omega)
end

/-! ### the rules' frame -/
theorem pe_mono {X : Cx} {e : Expr} {t t' : TE} (h : PE X e t) (m : ∀ σ H Q, t' σ H Q → t σ H Q) : PE X e t' := ⟨fun p s σ H Q I q => h.run p s σ H Q I (m σ H Q q)⟩
theorem pa_mono {X : Cx} {e : List Expr} {t t' : TA} (h : PA X e t) (m : ∀ σ H Q, t' σ H Q → t σ H Q) : PA X e t' := ⟨fun po p s σ H Q I q => h.run po p s σ H Q I (m σ H Q q)⟩
theorem pt_mono {X : Cx} {e : Expr} {t t' : TT} (h : PT X e t) (m : ∀ σ H Q, t' σ H Q → t σ H Q) : PT X e t' := ⟨fun p s σ H Q I q => h.run p s σ H Q I (m σ H Q q)⟩
theorem ps_mono {X : Cx} {e : Stmt} {t t' : TS} (h : PS X e t) (m : ∀ D σ H, t' D σ H → t D σ H) : PS X e t' := ⟨fun p s σ H D I q => h.run p s σ H D I (m D σ H q)⟩
theorem pss_mono {X : Cx} {e : List Stmt} {t t' : TS} (h : PSs X e t) (m : ∀ D σ H, t' D σ H → t D σ H) : PSs X e t' := ⟨fun p s σ H D I q => h.run p s σ H D I (m D σ H q)⟩

/-! ### the view of a value: a cell's contents -/
/-- the i-th cell -/
def rd (s : Sto) (i : Nat) : D := s.getD i .non
def vw (s : Sto) : D → D
  | .hnd i => rd s i
  | d => d
theorem cell_vw {K ad Z s H i c} (ok : StoOk K ad Z s H) (hd : ∃ a, ad[i]? = some a) (e : vw s (.hnd i) = c) : ∃ a, ad[i]? = some a ∧ Cell K ad Z H a c := by
  obtain ⟨a, ha⟩ := hd
  have hi : i < s.length := by rw [← ok.len]; exact (List.getElem?_eq_some_iff.mp ha).1
  have e2 : s[i]? = some c := by
    have : s.getD i .non = c := e
    rw [List.getD_eq_getElem?_getD, List.getElem?_eq_getElem hi] at this
    rw [List.getElem?_eq_getElem hi]
    exact congrArg some this
  exact ⟨a, ha, ok.cell i a c ha e2⟩
/-- a list that is read -/
theorem lst_of {K ad Z s H d v ds} (ok : StoOk K ad Z s H) (h : Rep K ad Z H d v) (e : vw s d = .lst ds) : ∃ a vs, v = .ref a ∧ H a = some (.lst vs) ∧ RepL K ad Z H ds vs := by
  cases d with
  | lst xs =>
    have e' : D.lst xs = D.lst ds := e
    cases e'
    unfold Rep at h
    obtain ⟨a, vs, e1, _, e2, e3⟩ := h
    exact ⟨a, vs, e1, e2, e3⟩
  | hnd i =>
    unfold Rep at h
    obtain ⟨a, ha, rfl⟩ := h
    obtain ⟨b, hb, c⟩ := cell_vw ok ⟨a, ha⟩ e
    rw [ha] at hb; cases hb
    obtain ⟨vs, e2, e3⟩ := c
    exact ⟨a, vs, rfl, e2, e3⟩
  | _ => nomatch e
theorem dct_of {K ad Z s H d v ks ds} (ok : StoOk K ad Z s H) (h : Rep K ad Z H d v) (e : vw s d = .dct ks ds) : ∃ a kvs, v = .ref a ∧ H a = some (.dK kvs) ∧ kvs.map (·.1) = ks ∧ RepL K ad Z H ds (kvs.map (·.2)) := by
  cases d with
  | dct xs ys =>
    have e' : D.dct xs ys = D.dct ks ds := e
    cases e'
    unfold Rep at h
    obtain ⟨a, vs, e1, _, e2, e3⟩ := h
    exact ⟨a, vs, e1, e2, e3⟩
  | hnd i =>
    unfold Rep at h
    obtain ⟨a, ha, rfl⟩ := h
    obtain ⟨b, hb, c⟩ := cell_vw ok ⟨a, ha⟩ e
    rw [ha] at hb; cases hb
    obtain ⟨vs, e2, e3⟩ := c
    exact ⟨a, vs, rfl, e2, e3⟩
  | _ => nomatch e
theorem tup_of {K ad Z H v ds} (h : Rep K ad Z H (.tup ds) v) : ∃ a vs, v = .ref a ∧ H a = some (.tup vs) ∧ RepL K ad Z H ds vs := by
  unfold Rep at h
  obtain ⟨a, vs, e1, _, e2, e3⟩ := h
  exact ⟨a, vs, e1, e2, e3⟩
theorem same_upd {H : Hp} {p : Addr} {o : HO} (h : H p = none) : Same H (upd H p o) := fun b x e => by
  rw [upd_ne (ne_of_none e h)]
  exact e
theorem lv_ref {H : Hp} {p : Addr} (h : H p = none) : Lv H (.ref p) := fun a e => by cases e; exact h
theorem StoOk.new {K ad Z s H p} (ok : StoOk K ad Z s H) (h : H p = none) : p ∉ ad ∧ p ∉ Z := by
  refine ⟨fun hm => ?_, fun hm => ?_⟩
  · obtain ⟨o, e⟩ := ok.dom p hm
    rw [h] at e; cases e
  · obtain ⟨o, e⟩ := ok.zd p hm
    rw [h] at e; cases e
/-- a new list -/
theorem rep_new_lst {K ad Z s H p ds vs} (ok : StoOk K ad Z s H) (h : H p = none) (r : RepL K ad Z H ds vs) : Rep K ad Z (upd H p (.lst vs)) (.lst ds) (.ref p) := by
  unfold Rep
  exact ⟨p, vs, rfl, ok.new h, upd_same, RepL.step (.same (same_upd h)) _ _ r⟩
theorem rep_new_tup {K ad Z s H p ds vs} (ok : StoOk K ad Z s H) (h : H p = none) (r : RepL K ad Z H ds vs) : Rep K ad Z (upd H p (.tup vs)) (.tup ds) (.ref p) := by
  unfold Rep
  exact ⟨p, vs, rfl, ok.new h, upd_same, RepL.step (.same (same_upd h)) _ _ r⟩
theorem rep_new_dct {K ad Z s H p ds kvs} (ok : StoOk K ad Z s H) (h : H p = none) (r : RepL K ad Z H ds (kvs.map (·.2))) : Rep K ad Z (upd H p (.dK kvs)) (.dct (kvs.map (·.1)) ds) (.ref p) := by
  unfold Rep
  exact ⟨p, kvs, rfl, ok.new h, upd_same, rfl, RepL.step (.same (same_upd h)) _ _ r⟩
@[simp] theorem rep_int {K ad Z H i v} : Rep K ad Z H (.int i) v ↔ v = .int i := by unfold Rep; exact Iff.rfl
@[simp] theorem rep_bl {K ad Z H i v} : Rep K ad Z H (.bl i) v ↔ v = .bl i := by unfold Rep; exact Iff.rfl
@[simp] theorem rep_non {K ad Z H v} : Rep K ad Z H .non v ↔ v = .non := by unfold Rep; exact Iff.rfl
@[simp] theorem rep_str {K ad Z H i v} : Rep K ad Z H (.str i) v ↔ v = .str i := by unfold Rep; exact Iff.rfl
@[simp] theorem rep_ty {K ad Z H i v} : Rep K ad Z H (.ty i) v ↔ v = .ty i := by unfold Rep; exact Iff.rfl
@[simp] theorem rep_con {K ad Z H i v} : Rep K ad Z H (.con i) v ↔ v = .ref i := by unfold Rep; exact Iff.rfl

/-! ### operations on values -/
/-- f on values computes g -/
structure OpSim (X : Cx) (f : Value → Value → Sem Value) (g : Sto → D → D → Option (D × Nat)) : Prop where
  go : ∃ r : R2, OpR X f r ∧ ∀ (ad Z : List Addr) (s : Sto) (H : Hp) (x y : V) (dx dy d : D) (l : Nat) (Q : VK), StoOk X.K ad Z s H → Rep X.K ad Z H dx x → Rep X.K ad Z H dy y → g s dx dy = some (d, l) →
    (∀ v H', Same H H' → Rep X.K ad Z H' d v → (1 ≤ l → Lv H v) → Q v H') → r x y H Q
theorem OpR.or {X : Cx} {f : Value → Value → Sem Value} {r r' : R2} (h : OpR X f r) (h' : OpR X f r') : OpR X f (fun x y H Q => r x y H Q ∨ r' x y H Q) := by
  intro pins s σ H x y v u Q I rx ry q
  rcases q with q | q
  · exact h pins s σ H x y v u Q I rx ry q
  · exact h' pins s σ H x y v u Q I rx ry q
def gOr (g g' : Sto → D → D → Option (D × Nat)) : Sto → D → D → Option (D × Nat) := fun s x y => match g s x y with | some r => some r | none => g' s x y
theorem OpSim.or {X : Cx} {f g g'} (h : OpSim X f g) (h' : OpSim X f g') : OpSim X f (gOr g g') := by
  obtain ⟨r, hr, k⟩ := h.go
  obtain ⟨r', hr', k'⟩ := h'.go
  refine ⟨_, hr.or hr', fun ad Z s H x y dx dy d l Q ok rx ry e q => ?_⟩
  unfold gOr at e
  cases q1 : g s dx dy with
  | some z =>
    rw [q1] at e
    exact .inl (k ad Z s H x y dx dy d l Q ok rx ry (by rw [q1]; exact e) q)
  | none =>
    rw [q1] at e
    exact .inr (k' ad Z s H x y dx dy d l Q ok rx ry e q)

section
variable {X : Cx} {H0 : Hp} {ad0 : List Addr} {W : WX}
def eBin (g : Sto → D → D → Option (D × Nat)) (a b : EvE) : EvE := fun e => (a e).bind fun x s1 => (b ⟨e.loc, s1⟩).bind fun y s2 => ofO (g s2 x.1 y.1) s2
theorem sim_top {g : Sto → D → D → Option (D × Nat)} {ea eb : EvE} {f} (o : OpSim X f g) : ∃ r, OpR X f r ∧ ∀ σ H Q, tE X.K H0 ad0 W (eBin g ea eb) σ H Q → tOp r (tE X.K H0 ad0 W ea) (tE X.K H0 ad0 W eb) σ H Q := by
  obtain ⟨r, hr, k⟩ := o.go
  refine ⟨r, hr, fun σ H Q h => ?_⟩
  obtain ⟨Z, ad, e, rel, h⟩ := h
  refine ⟨Z, ad, e, rel, (post_bind h).mono fun x ad1 s1 H1 ⟨st1, rel1, h1⟩ v1 rv1 _ _ => ⟨Z, ad1, ⟨e.loc, s1⟩, rel1, (post_bind h1).mono fun y ad2 s2 H2 ⟨st2, rel2, h2⟩ v2 rv2 _ _ => ?_⟩⟩
  cases q : g s2 x.1 y.1 with
  | none => rw [q] at h2; exact h2.elim
  | some z =>
    rw [q] at h2
    have rv1' := Rep.step st2 _ _ rv1
    refine k ad2 Z s2 H2 v1 v2 x.1 y.1 z.1 z.2 Q rel2.sto rv1' rv2 q fun v H' sm rv lv => ?_
    obtain ⟨st3, rel3, st4, rel4, f⟩ := h2 H' ad2 (.same sm) (rel2.same sm)
    exact f v rv (fun h1 => rel2.lv0 (lv h1)) fun h2 => ((lv (by omega)).back st2 rel2.sto.dom).back st1 rel1.sto.dom
theorem sim_bin {g : Sto → D → D → Option (D × Nat)} {ea eb : EvE} {op : Operator} {a b : Expr} {pos : Pos} (o : OpSim X (binaryOp op) g) (ha : PE X a (tE X.K H0 ad0 W ea)) (hb : PE X b (tE X.K H0 ad0 W eb)) :
    PE X (.BinOp a op b pos) (tE X.K H0 ad0 W (eBin g ea eb)) := by
  obtain ⟨r, hr, k⟩ := sim_top (H0 := H0) (ad0 := ad0) (W := W) (ea := ea) (eb := eb) o
  exact pe_mono (pe_op hr ha hb) k
end
end FX

set_option Elab.async false
set_option linter.all false
set_option maxRecDepth 100000
namespace FX
open PySem PySem.Spec PyProof.Rows L2

inductive RS where
  | nx (e : En) | ret (d : D) (l : Nat) (s : Sto) | brk (e : En) | cnt (e : En)
  | exc (C : Addr) (fs : Option (List (Str × D))) (e : En) | bad
abbrev EvS := En → RS
def R.toS {α : Type} (r : R α) (e : En) (f : α → En → RS) : RS :=
  match r with
  | .ok x s => f x ⟨e.loc, s⟩
  | .exc C fs s => .exc C fs ⟨e.loc, s⟩
  | .bad => .bad
@[simp] theorem R.toS_ok {α : Type} {a : α} {s : Sto} {e} {f : α → En → RS} : (R.ok a s).toS e f = f a ⟨e.loc, s⟩ := rfl
@[simp] theorem R.toS_exc {α : Type} {C fs} {s : Sto} {e} {f : α → En → RS} : (R.exc C fs s : R α).toS e f = .exc C fs ⟨e.loc, s⟩ := rfl
@[simp] theorem R.toS_bad {α : Type} {e} {f : α → En → RS} : (R.bad : R α).toS e f = .bad := rfl

section
variable {K : PySem.W.Frag} {H0 : Hp} {ad0 : List Addr} {W : WX}
def postS (K : PySem.W.Frag) (H0 : Hp) (ad0 : List Addr) (W : WX) (ad Z : List Addr) (H : Hp) (r : RS) (Dn : Ends) : Prop :=
  match r with
  | .nx e' => ∀ σ' H' ad', Step ad H ad' H' → Rel K H0 ad0 ad' Z e' σ' H' → Dn.nx σ' H'
  | .brk e' => ∀ σ' H' ad', Step ad H ad' H' → Rel K H0 ad0 ad' Z e' σ' H' → Dn.bk σ' H'
  | .cnt e' => ∀ σ' H' ad', Step ad H ad' H' → Rel K H0 ad0 ad' Z e' σ' H' → Dn.ct σ' H'
  | .ret d l s' => ∀ v H' ad', Step ad H ad' H' → Step ad0 H0 ad' H' → StoOk K ad' Z s' H' → Rep K ad' Z H' d v → (1 ≤ l → Lv H0 v) → Dn.rt v H'
  | .exc C fs e' => ∀ od σ' H' ad', Step ad H ad' H' → Rel K H0 ad0 ad' Z e' σ' H' → XOk K ad' Z H' od fs → W (.ref C) od σ' H'
  | .bad => False
def tS (K : PySem.W.Frag) (H0 : Hp) (ad0 : List Addr) (W : WX) (ev : EvS) : TS := fun Dn σ H => ∃ Z ad e, Rel K H0 ad0 ad Z e σ H ∧ postS K H0 ad0 W ad Z H (ev e) Dn
theorem postS_later {ad Z H ad1 H1 r Dn} (s : Step ad H ad1 H1) (dom : ∀ x ∈ ad1, ∃ o, H1 x = some o) (h : postS K H0 ad0 W ad Z H r Dn) : postS K H0 ad0 W ad1 Z H1 r Dn := by
  have tr : ∀ {ad2 H2}, Step ad1 H1 ad2 H2 → Step ad H ad2 H2 := fun {ad2 H2} b => s.trans b fun x hx => dom x (s.sub x hx)
  cases r with
  | nx e => exact fun σ' H' ad' a b => h σ' H' ad' (tr a) b
  | brk e => exact fun σ' H' ad' a b => h σ' H' ad' (tr a) b
  | cnt e => exact fun σ' H' ad' a b => h σ' H' ad' (tr a) b
  | ret d l s' => exact fun v H' ad' a b => h v H' ad' (tr a) b
  | exc C fs e => exact fun od σ' H' ad' a b => h od σ' H' ad' (tr a) b
  | bad => exact h
theorem postS_toS {α : Type} {ad Z : List Addr} {e : En} {σ : L2.St} {H : Hp} {r : R α} {f : α → En → RS} {Dn : Ends} (h : postS K H0 ad0 W ad Z H (r.toS e f) Dn) :
    post K H0 ad0 W ad Z e σ H r fun x ad1 s1 H1 => Step ad H ad1 H1 ∧ Rel K H0 ad0 ad1 Z ⟨e.loc, s1⟩ σ H1 ∧ postS K H0 ad0 W ad1 Z H1 (f x ⟨e.loc, s1⟩) Dn := by
  cases r with
  | ok x s1 => exact fun H1 ad1 st rel => ⟨st, rel, postS_later st rel.sto.dom h⟩
  | exc C fs s1 => exact fun od H1 ad1 st rel x => h od σ H1 ad1 st rel x
  | bad => exact h.elim
/-- the locals with slot i set -/
def En.put (e : En) (i : Nat) (d : D) (y : Bool) : En := ⟨e.loc.set i (some (d, y)), e.sto⟩
theorem Rel.put {ad Z e σ H i d y v} (r : Rel K H0 ad0 ad Z e σ H) (h : Rep K ad Z H d v) (l : y = true → Lv H0 v) : Rel K H0 ad0 ad Z (e.put i d y) (σ.set i (some v)) H where
  sto := r.sto
  len := by simp [En.put, r.len]
  st := r.st
  loc := fun j d' y' hj => by
    by_cases hij : i = j
    · subst hij
      have hj : (e.loc.set i (some (d, y)))[i]? = some (some (d', y')) := hj
      by_cases hl : i < e.loc.length
      · rw [List.getElem?_set_self hl] at hj
        cases hj
        exact ⟨v, by rw [List.getElem?_set_self (by rw [r.len]; exact hl)], h, l⟩
      · rw [List.getElem?_eq_none (by simpa using hl)] at hj; cases hj
    · have hj : (e.loc.set i (some (d, y)))[j]? = some (some (d', y')) := hj
      rw [List.getElem?_set_ne hij] at hj
      rw [List.getElem?_set_ne hij]
      exact r.loc j d' y' hj
end

section
variable {X : Cx} {H0 : Hp} {ad0 : List Addr} {W : WX} {e a b : Expr} {st : Stmt} {sts els : List Stmt} {pos : Pos} {ev ea eb : EvE} {es er : EvS}
/-! ### statements -/
def sNil : EvS := .nx
def sSeq (a b : EvS) : EvS := fun e => match a e with | .nx e' => b e' | r => r
theorem sim_nil : PSs X [] (tS X.K H0 ad0 W sNil) := pss_mono pss_nil fun D σ H ⟨Z, ad, e, rel, h⟩ => h σ H ad .refl rel
theorem sim_cons (h1 : PS X st (tS X.K H0 ad0 W es)) (h2 : PSs X sts (tS X.K H0 ad0 W er)) : PSs X (st :: sts) (tS X.K H0 ad0 W (sSeq es er)) := by
  refine pss_mono (pss_cons h1 h2) fun D σ H ⟨Z, ad, e, rel, h⟩ => ⟨Z, ad, e, rel, ?_⟩
  unfold sSeq at h
  cases q : es e with
  | nx e' => rw [q] at h; exact fun σ' H' ad' stp rel' => ⟨Z, ad', e', rel', postS_later stp rel'.sto.dom h⟩
  | brk e' => rw [q] at h; exact h
  | cnt e' => rw [q] at h; exact h
  | ret d l s' => rw [q] at h; exact h
  | exc C fs e' => rw [q] at h; exact h
  | bad => rw [q] at h; exact h
def sPass : EvS := .nx
theorem sim_pass : PS X (.Pass pos) (tS X.K H0 ad0 W sPass) := ps_mono ps_pass fun D σ H ⟨Z, ad, e, rel, h⟩ => h σ H ad .refl rel
def sBreak : EvS := .brk
theorem sim_break : PS X (.Break pos) (tS X.K H0 ad0 W sBreak) := ps_mono ps_break fun D σ H ⟨Z, ad, e, rel, h⟩ => h σ H ad .refl rel
def sCont : EvS := .cnt
theorem sim_cont : PS X (.Continue pos) (tS X.K H0 ad0 W sCont) := ps_mono ps_continue fun D σ H ⟨Z, ad, e, rel, h⟩ => h σ H ad .refl rel
def sExpr (ev : EvE) : EvS := fun e => (ev e).toS e fun _ e1 => .nx e1
theorem sim_expr (he : PE X a (tE X.K H0 ad0 W ev)) (hs : swapsWith a none pos.line X.env = pure false := by rfl) : PS X (.Expr a pos) (tS X.K H0 ad0 W (sExpr ev)) := by
  refine ps_mono (ps_expr he hs) fun D σ H ⟨Z, ad, e, rel, h⟩ => ⟨Z, ad, e, rel, (postS_toS h).mono fun x ad1 s1 H1 ⟨stp, rel1, h1⟩ v rv _ _ => h1 σ H1 ad1 .refl rel1⟩
def sRet (ev : EvE) : EvS := fun e => (ev e).toS e fun x e1 => .ret x.1 x.2 e1.sto
theorem sim_ret (he : PE X a (tE X.K H0 ad0 W ev)) : PS X (.Return (some a) pos) (tS X.K H0 ad0 W (sRet ev)) := by
  refine ps_mono (ps_ret he) fun D σ H ⟨Z, ad, e, rel, h⟩ => ⟨Z, ad, e, rel, (postS_toS h).mono fun x ad1 s1 H1 ⟨stp, rel1, h1⟩ v rv l1 _ => h1 v H1 ad1 .refl rel1.st rel1.sto rv l1⟩
def sRetN : EvS := fun e => .ret .non 0 e.sto
theorem sim_retN : PS X (.Return none pos) (tS X.K H0 ad0 W sRetN) :=
  ps_mono ps_retN fun D σ H ⟨Z, ad, e, rel, h⟩ => h .non H ad .refl rel.st rel.sto (by simp) (by intro z; omega)
def sIf (c : EvT) (a b : EvS) : EvS := fun e => (c e).toS e fun t e1 => if t = true then a e1 else b e1
theorem sim_if {c : Expr} {ec : EvT} (hc : PT X c (tTs X.K H0 ad0 W ec)) (ha : PSs X sts (tS X.K H0 ad0 W es)) (hb : PSs X els (tS X.K H0 ad0 W er)) : PS X (.If c sts els pos) (tS X.K H0 ad0 W (sIf ec es er)) := by
  refine ps_mono (ps_if hc ha hb) fun D σ H ⟨Z, ad, e, rel, h⟩ => ⟨Z, ad, e, rel, (postS_toS h).mono fun x ad1 s1 H1 ⟨stp, rel1, h1⟩ => ?_⟩
  cases x with
  | true => exact iteT ⟨Z, ad1, _, rel1, h1⟩
  | false => exact iteF ⟨Z, ad1, _, rel1, h1⟩
/-- x = e -/
def sSet (i : Nat) (ev : EvE) : EvS := fun e => (ev e).toS e fun x e1 => .nx (e1.put i x.1 (decide (1 ≤ x.2)))
theorem sim_set {i : Nat} {x : Str} {pos' : Pos} (hN : X.N.Nodup) (hi : X.N[i]? = some x) (hx : Loc X.env.scope x) (he : PE X a (tE X.K H0 ad0 W ev)) (hs : swapsWith a (some (.Name x pos')) pos.line X.env = pure false := by rfl)
    (hf : X.fn x = true ∨ X.env.scope.names.lookup x = some .local := by first | exact .inl rfl | exact .inr rfl) : PS X (.Assign [.Name x pos'] a pos) (tS X.K H0 ad0 W (sSet i ev)) := by
  refine ps_mono (ps_set hN hi hx he hs hf) fun D σ H ⟨Z, ad, e, rel, h⟩ => ⟨Z, ad, e, rel, (postS_toS h).mono fun x ad1 s1 H1 ⟨stp, rel1, h1⟩ v rv l1 _ => ?_⟩
  exact h1 _ H1 ad1 .refl (rel1.put rv fun q => l1 (of_decide_eq_true q))

/-! ### thawing: a new list or dict becomes a cell of the store -/
def thaw (x : D × Nat) (s : Sto) : R (D × Nat) :=
  match x with
  | (.lst ds, 2) => .ok (.hnd s.length, 1) (s ++ [.lst ds])
  | (.dct ks ds, 2) => .ok (.hnd s.length, 1) (s ++ [.dct ks ds])
  | (.set xs, 2) => .ok (.hnd s.length, 1) (s ++ [.set xs])
  | _ => .bad
end
end FX

set_option Elab.async false
set_option linter.all false
set_option maxRecDepth 100000
namespace FX
open PySem PySem.Spec PyProof.Rows L2
open Classical

/-! ### what a loop walks -/
abbrev EvI := En → R (List D × (Sto → Prop))
def WalkOk (K : PySem.W.Frag) (Z : List Addr) (G : Sto → Prop) (J : It) (ds : List D) (ad1 : List Addr) (H1 : Hp) : Prop :=
  ∀ (i : Nat) (ad2 : List Addr) (s2 : Sto) (H2 : Hp), Step ad1 H1 ad2 H2 → StoOk K ad2 Z s2 H2 → G s2 →
    (∀ d, ds[i]? = some d → J.go i H2 ∧ ∀ x H3, J.yld i H2 x H3 → Same H2 H3 ∧ Rep K ad2 Z H3 d x) ∧ (ds.length ≤ i → J.stop i H2)
def tI (K : PySem.W.Frag) (H0 : Hp) (ad0 : List Addr) (W : WX) (it : EvI) : TI := fun σ H Rr => ∃ Z ad e, Rel K H0 ad0 ad Z e σ H ∧ post K H0 ad0 W ad Z e σ H (it e) fun x ad1 s1 H1 => ∀ J, (∀ Z', (∀ z ∈ Z, z ∈ Z') → (∀ z ∈ Z', z ∈ Z ∨ H1 z = none) → WalkOk K Z' x.2 J x.1 ad1 H1) → Rr J H1
theorem pi_mono {X : Cx} {tg e : Expr} {t t' : TI} (h : PI X tg e t) (m : ∀ σ H Q, t' σ H Q → t σ H Q) : PI X tg e t' := ⟨fun p s σ H Q I q => h.run p s σ H Q I (m σ H Q q)⟩
theorem pi_or {X : Cx} {tg e : Expr} {t t' : TI} (h : PI X tg e t) (h' : PI X tg e t') : PI X tg e (fun σ H Q => t σ H Q ∨ t' σ H Q) :=
  ⟨fun p s σ H Q I q => q.elim (h.run p s σ H Q I) (h'.run p s σ H Q I)⟩

/-- what a target of an assignment does -/
abbrev Asg := D → En → Option En
def GSim (K : PySem.W.Frag) (H0 : Hp) (ad0 : List Addr) (g : TG) (sl : List Nat) (asg : Asg) : Prop :=
  ∀ (ad Z : List Addr) (e e1 : En) (σ : L2.St) (H : Hp) (d : D) (x : V) (Q : L2.St → Hp → Prop), Rel K H0 ad0 ad Z e σ H → Rep K ad Z H d x → asg d e = some e1 →
    (∀ σ', Rel K H0 ad0 ad Z e1 σ' H → (∀ own, (∀ i ∈ sl, i ∈ own) → wipe σ' own = wipe σ own) → Q σ' H) → g x σ H Q
def aName (i : Nat) : Asg := fun d e => some (e.put i d false)
theorem wipe_set {σ : L2.St} {i : Nat} {v : Option V} : ∀ {own : List Nat}, i ∈ own → wipe (σ.set i v) own = wipe σ own := fun {own} h => by
  apply List.ext_getElem?
  intro j
  have key : ∀ (own : List Nat) (τ : L2.St) (j : Nat), (wipe τ own)[j]? = if j ∈ own then (τ[j]?).map (fun _ => none) else τ[j]? := by
    intro own
    induction own with
    | nil => intro τ j; simp [wipe]
    | cons a r ih =>
      intro τ j
      show ((wipe τ r).set a none)[j]? = _
      rw [List.getElem?_set, wipe_length]
      by_cases haj : a = j
      · subst haj
        by_cases hl : a < τ.length
        · simp [hl]
        · simp [hl, List.getElem?_eq_none (Nat.le_of_not_lt hl)]
      · rw [if_neg haj, ih]
        simp [List.mem_cons, show ¬ j = a from fun e => haj e.symm]
  rw [key, key, List.getElem?_set]
  by_cases hij : i = j
  · subst hij
    simp [h]
    by_cases hl : i < σ.length
    · simp [hl]
    · simp [hl]
  · simp [hij]
theorem gsim_name {K : PySem.W.Frag} {H0 : Hp} {ad0 : List Addr} {i : Nat} : GSim K H0 ad0 (gName i) [i] (aName i) := fun ad Z e e1 σ H d v Q rel rep ha h => by
  cases ha
  exact h _ (rel.put rep (by intro z; cases z)) fun own ho => wipe_set (ho i (by simp))

noncomputable section
variable {X : Cx} {H0 : Hp} {ad0 : List Addr} {W : WX}
def loopK (k : En → RS) : RS → RS
  | .nx e => k e
  | .cnt e => k e
  | .brk e => .nx e
  | r => r
def loopS (G : Sto → Prop) (asg : Asg) (body : EvS) : List D → En → RS
  | [], e => if G e.sto then .nx e else .bad
  | d :: ds, e => if G e.sto then
      match asg d e with
      | none => .bad
      | some e1 => loopK (loopS G asg body ds) (body e1)
    else .bad
def sFor (it : EvI) (asg : Asg) (body : EvS) : EvS := fun e => (it e).toS e fun x e1 => loopS x.2 asg body x.1 e1
theorem sim_for {tg iter : Expr} {sts : List Stmt} {pos : Pos} {it : EvI} {sl : List Nat} {asg : Asg} {body : EvS} (hp : PassesOwn (model X.prog X.w) X.A X.env X.xe) (hc : X.calm = true) (hi : PI X tg iter (tI X.K H0 ad0 W it)) {g : TG} (pg : PG X tg g) (hga : GSim X.K H0 ad0 g sl asg) (hb : PSs X sts (tS X.K H0 ad0 W body))
    (hs : ∀ x, foldedSetIterable iter X.env x = pure x := by intro _; rfl) : PS X (.For tg iter sts [] pos) (tS X.K H0 ad0 W (sFor it asg body)) := by
  refine ps_mono (ps_for hp hc hi pg hb hs) fun Dn σ H ⟨Z, ad, e, rel, h⟩ => ⟨Z, ad, e, rel, (postS_toS h).mono fun x ad1 s1 H1 ⟨st1, rel1, h1⟩ J hJ => ?_⟩
  have hJ := hJ Z (fun _ z => z) fun _ z => .inl z
  obtain ⟨ds, G⟩ := x
  refine ⟨fun i m σ' H' => m = ds.length - i ∧ i ≤ ds.length ∧ ∃ ad' e', Step ad1 H1 ad' H' ∧ Rel X.K H0 ad0 ad' Z e' σ' H' ∧ postS X.K H0 ad0 W ad' Z H' (loopS G asg body (ds.drop i) e') Dn, ⟨ds.length, by simp, Nat.zero_le _, ad1, _, .refl, rel1, h1⟩, ?_⟩
  rintro i m σ2 H2 ⟨rfl, hi, ad2, e2, st2, rel2, h2⟩
  cases hd : ds.drop i with
  | nil =>
    rw [hd] at h2
    unfold loopS at h2
    by_cases hG : G e2.sto
    · rw [if_pos hG] at h2
      have hl : ds.length ≤ i := by
        have := congrArg List.length hd
        simp at this; omega
      exact .inl ⟨(hJ i ad2 e2.sto H2 st2 rel2.sto hG).2 hl, h2 σ2 H2 ad2 .refl rel2⟩
    · rw [if_neg hG] at h2; exact h2.elim
  | cons d rest =>
    have hget : ds[i]? = some d := by
      have : (ds.drop i)[0]? = some d := by rw [hd]; rfl
      simpa using this
    have hdrop : ds.drop (i + 1) = rest := by
      rw [← List.drop_drop, hd]; rfl
    have hlt : i < ds.length := (List.getElem?_eq_some_iff.mp hget).1
    rw [hd] at h2
    unfold loopS at h2
    by_cases hG : G e2.sto
    · rw [if_pos hG] at h2
      obtain ⟨go, yl⟩ := (hJ i ad2 e2.sto H2 st2 rel2.sto hG).1 d hget
      refine .inr ⟨go, fun σ' H' => ∃ ad' e', Step ad1 H1 ad' H' ∧ Rel X.K H0 ad0 ad' Z e' σ' H' ∧ postS X.K H0 ad0 W ad' Z H' (loopS G asg body rest e') Dn, fun σ' H' ⟨ad', e', a, b, c⟩ => ⟨ds.length - (i + 1), by omega, rfl, hlt, ad', e', a, b, by rw [hdrop]; exact c⟩, fun x H3 hy => ?_⟩
      obtain ⟨sm, rep⟩ := yl x H3 hy
      cases ha : asg d e2 with
      | none => rw [ha] at h2; exact h2.elim
      | some e3 =>
        rw [ha] at h2
        have h2 : postS X.K H0 ad0 W ad2 Z H2 (loopK (loopS G asg body rest) (body e3)) Dn := h2
        refine hga ad2 Z e2 e3 σ2 H3 d x _ (rel2.same sm) rep ha fun σ3 rel3 _ => ⟨Z, ad2, e3, rel3, ?_⟩
        have st3 : Step ad2 H2 ad2 H3 := .same sm
        cases hb : body e3 with
        | nx e4 =>
          rw [hb] at h2
          intro σ4 H4 ad4 st4 rel4
          have st5 := rel3.tr st3 st4
          exact ⟨ad4, e4, rel2.tr st2 st5, rel4, postS_later st5 rel4.sto.dom h2⟩
        | cnt e4 =>
          rw [hb] at h2
          intro σ4 H4 ad4 st4 rel4
          have st5 := rel3.tr st3 st4
          exact ⟨ad4, e4, rel2.tr st2 st5, rel4, postS_later st5 rel4.sto.dom h2⟩
        | brk e4 =>
          rw [hb] at h2
          intro σ4 H4 ad4 st4 rel4
          exact h2 σ4 H4 ad4 (rel3.tr st3 st4) rel4
        | ret d l s4 =>
          rw [hb] at h2
          intro v H4 ad4 st4
          exact h2 v H4 ad4 (rel3.tr st3 st4)
        | exc C fs e4 =>
          rw [hb] at h2
          intro od σ4 H4 ad4 st4
          exact h2 od σ4 H4 ad4 (rel3.tr st3 st4)
        | bad => rw [hb] at h2; exact h2.elim
    · rw [if_neg hG] at h2; exact h2.elim
end
end FX

set_option Elab.async false
set_option linter.all false
set_option maxRecDepth 100000
namespace FX
open PySem PySem.Spec PyProof.Rows L2
open Classical
def W0 : WX := fun _ _ _ _ => False
def wipeL : List (Option (D × Bool)) → List Nat → List (Option (D × Bool))
  | l, [] => l
  | l, v :: vs => (wipeL l vs).set v none
theorem wipe_ne {σ : L2.St} {i : Nat} : ∀ {vs : List Nat}, i ∉ vs → (wipe σ vs)[i]? = σ[i]?
  | [], _ => rfl
  | v :: vs, h => by
    unfold wipe
    rw [List.getElem?_set_ne (fun e => h (by simp [e])), wipe_ne fun e => h (List.mem_cons_of_mem _ e)]
theorem wipe_wipe {σ : L2.St} {own : List Nat} : wipe (wipe σ own) own = wipe σ own := by
  apply List.ext_getElem?
  intro j
  by_cases h : j ∈ own
  · have key : ∀ (τ : L2.St) (vs : List Nat), j ∈ vs → (wipe τ vs)[j]? = (τ[j]?).map fun _ => none := by
      intro τ vs
      induction vs with
      | nil => intro h; cases h
      | cons a r ih =>
        intro h
        show ((wipe τ r).set a none)[j]? = _
        rw [List.getElem?_set, wipe_length]
        by_cases e : a = j
        · subst e
          by_cases hl : a < τ.length
          · simp [hl]
          · simp [hl, List.getElem?_eq_none (Nat.le_of_not_lt hl)]
        · rw [if_neg e]
          rcases List.mem_cons.mp h with q | q
          · exact absurd q.symm e
          · exact ih q
    rw [key _ _ h, key _ _ h]
    cases σ[j]? <;> rfl
  · rw [wipe_ne h]
theorem wipeL_length (l) : ∀ vs : List Nat, (wipeL l vs).length = l.length
  | [] => rfl
  | v :: vs => by unfold wipeL; rw [List.length_set, wipeL_length l vs]
theorem wipeL_some {l : List (Option (D × Bool))} {i : Nat} {x} : ∀ {vs : List Nat}, (wipeL l vs)[i]? = some (some x) → l[i]? = some (some x) ∧ i ∉ vs
  | [], h => ⟨h, by simp⟩
  | v :: vs, h => by
    unfold wipeL at h
    by_cases hi : v = i
    · subst hi
      by_cases hv : v < (wipeL l vs).length
      · rw [List.getElem?_set_self hv] at h; cases h
      · rw [List.getElem?_eq_none (by simpa using hv)] at h; cases h
    · rw [List.getElem?_set_ne hi] at h
      obtain ⟨h1, h2⟩ := wipeL_some h
      exact ⟨h1, by simp only [List.mem_cons, not_or]; exact ⟨fun e => hi e.symm, h2⟩⟩
section
variable {K : PySem.W.Frag} {H0 : Hp} {ad0 : List Addr}
theorem Rel.wiped {ad Z e σ H} (own : List Nat) (r : Rel K H0 ad0 ad Z e σ H) : Rel K H0 ad0 ad Z ⟨wipeL e.loc own, e.sto⟩ (wipe σ own) H where
  sto := r.sto
  len := by rw [wipe_length]; show _ = (wipeL e.loc own).length; rw [wipeL_length]; exact r.len
  st := r.st
  loc := fun i d y h => by
    obtain ⟨h1, h2⟩ := wipeL_some h
    rw [wipe_ne h2]
    exact r.loc i d y h1
/-- a new object that is to change: pinned -/
theorem Rel.pin {ad Z e σ H Da o} (r : Rel K H0 ad0 ad Z e σ H) (h : H Da = none) : Rel K H0 ad0 ad (Da :: Z) e σ (upd H Da o) := by
  have nz : ∀ a o, H a = some o → a ∉ Z → a ∉ Da :: Z := fun a o e n => by
    simp only [List.mem_cons, not_or]
    exact ⟨ne_of_none e h, n⟩
  have sm : Same H (upd H Da o) := same_upd h
  have hn := r.sto.new h
  refine ⟨⟨r.sto.len, r.sto.nd, fun z hz => ?_, fun z hz => ?_, fun i a c e1 e2 => ?_⟩, fun i d y e1 => ?_, r.len, (r.same sm).st⟩
  · rcases List.mem_cons.mp hz with e | e
    · exact ⟨o, by rw [e]; exact upd_same⟩
    · exact (r.sto.zd z e).imp fun o q => sm _ _ q
  · rcases List.mem_cons.mp hz with e | e
    · rw [e]; exact hn.1
    · exact r.sto.zn z e
  · have q := r.sto.cell i a c e1 e2
    cases c with
    | lst ds => obtain ⟨vs, e, r⟩ := q; exact ⟨vs, sm _ _ e, RepL.step (.same sm) _ _ (RepL.z nz _ _ r)⟩
    | dct ks ds => obtain ⟨vs, e, k, r⟩ := q; exact ⟨vs, sm _ _ e, k, RepL.step (.same sm) _ _ (RepL.z nz _ _ r)⟩
    | set xs => obtain ⟨S, e, r⟩ := q; exact ⟨S, sm _ _ e, r⟩
    | _ => exact q.elim
  · obtain ⟨v, h1, h2, h3⟩ := r.loc i d y e1
    exact ⟨v, h1, Rep.step (.same sm) _ _ (Rep.z nz _ _ h2), h3⟩
/-- what is pinned changes -/
theorem Rel.core {ad Z e σ H H'} (r : Rel K H0 ad0 ad Z e σ H) (f : ∀ b o, H b = some o → b ∉ Z → H' b = some o) (zd : ∀ z ∈ Z, ∃ o, H' z = some o) (st : Step ad0 H0 ad H') : Rel K H0 ad0 ad Z e σ H' :=
  ⟨r.sto.core f zd, fun i d y e1 => by
    obtain ⟨v, h1, h2, h3⟩ := r.loc i d y e1
    exact ⟨v, h1, Rep.core .refl (fun b o e _ n => f b o e n) _ _ h2, h3⟩, r.len, st⟩
/-- the same locals, a later store -/
theorem Rel.later {ad Z e σ H ad' s' H'} (r : Rel K H0 ad0 ad Z e σ H) (st : Step ad H ad' H') (ok : StoOk K ad' Z s' H') (st0 : Step ad0 H0 ad' H') : Rel K H0 ad0 ad' Z ⟨e.loc, s'⟩ σ H' :=
  ⟨ok, fun i d y e1 => by
    obtain ⟨v, h1, h2, h3⟩ := r.loc i d y e1
    exact ⟨v, h1, Rep.step st _ _ h2, h3⟩, r.len, st0⟩
end
/-- no exception -/
def R.bindN {α β : Type} (r : R α) (f : α → Sto → R β) : R β :=
  match r with
  | .ok a s => f a s
  | _ => .bad
@[simp] theorem R.bindN_ok {α β : Type} {a : α} {s : Sto} {f : α → Sto → R β} : (R.ok a s).bindN f = f a s := rfl
noncomputable section
def compL (G : Sto → Prop) (asg : Asg) (cond : EvT) (elt : EvE) (loc : List (Option (D × Bool))) : List D → List D → Sto → R (List D)
  | [], acc, s => if G s then .ok acc s else .bad
  | d :: ds, acc, s => if G s then
      match asg d ⟨loc, s⟩ with
      | none => .bad
      | some e1 => (cond e1).bindN fun b s1 => if b = true then (elt ⟨e1.loc, s1⟩).bindN fun y s2 => if acc.length < sizeLine then compL G asg cond elt loc ds (acc ++ [y.1]) s2 else .bad else compL G asg cond elt loc ds acc s1
    else .bad
def eComp (it : EvI) (asg : Asg) (cond : EvT) (elt : EvE) (own : List Nat) : EvE := fun e => (it e).bind fun x s1 => (compL x.2 asg cond elt (wipeL e.loc own) x.1 [] s1).bind fun acc s2 => .ok (.lst acc, 2) s2
def cYes : EvT := fun e => .ok true e.sto
theorem sim_ptsnil {X : Cx} {H0 : Hp} {ad0 : List Addr} : PTs X [] (tTs X.K H0 ad0 W0 cYes) := ⟨fun pins s σ H Q I ⟨Z, ad, e, rel, h⟩ => pts_nil.run pins s σ H Q I (h H ad .refl rel)⟩
theorem lc_to {K : PySem.W.Frag} {H0 : Hp} {ad0 : List Addr} {W : WX} {own : List Nat} {it : EvI} {g : TG} {sl : List Nat} {asg : Asg} {cond : EvT} {el : EvE} (hga : GSim K H0 ad0 g sl asg) (hsl : ∀ i ∈ sl, i ∈ own) (σ : L2.St) (H : Hp) (Q : VK)
    (h : tE K H0 ad0 W (eComp it asg cond el own) σ H Q) : tLc (tI K H0 ad0 W it) g (tTs K H0 ad0 W0 cond) (tE K H0 ad0 W0 el) own σ H Q := by
  obtain ⟨Z, ad, e, rel, h⟩ := h
  refine ⟨Z, ad, e, rel, (post_bind h).mono fun x ad1 s1 H1 ⟨st1, rel1, h1⟩ J hJ Da hDa => ?_⟩
  obtain ⟨ds, G⟩ := x
  have h1 : post K H0 ad0 W ad1 Z ⟨e.loc, s1⟩ σ H1 ((compL G asg cond el (wipeL e.loc (own)) ds [] s1).bind fun acc s2 => .ok (D.lst acc, 2) s2) _ := h1
  have hJ := hJ (Da :: Z) (fun z hz => List.mem_cons_of_mem _ hz) fun z hz => (List.mem_cons.mp hz).elim (fun q => .inr (by rw [q]; exact hDa)) .inl
  generalize hr : compL G asg cond el (wipeL e.loc (own)) ds [] s1 = r at h1
  have nDz : Da ∉ Z := (rel1.sto.new hDa).2
  have relD := (rel1.pin (o := HO.lst []) hDa).wiped (own)
  have sm0 : Same H1 (upd H1 Da (.lst [])) := same_upd hDa
  refine ⟨fun i m H' => m = ds.length - i ∧ i ≤ ds.length ∧ ∃ ad' s' accD accV, Step ad1 H1 ad' H' ∧ Rel K H0 ad0 ad' (Da :: Z) ⟨wipeL e.loc (own), s'⟩ (wipe σ (own)) H' ∧ H' Da = some (.lst accV) ∧ RepL K ad' (Da :: Z) H' accD accV ∧ compL G asg cond el (wipeL e.loc (own)) (ds.drop i) accD s' = r,
    ⟨ds.length, by simp, Nat.zero_le _, ad1, s1, [], [], .same sm0, relD, upd_same, by unfold RepL; rfl, hr⟩, ?_⟩
  rintro i m H2 ⟨rfl, hi, ad2, s2, accD, accV, st2, rel2, hD2, rp2, h2⟩
  have nbad : r ≠ .bad := fun q => by rw [q] at h1; exact h1
  have nDa : Da ∉ ad2 := rel2.sto.zn Da (by simp)
  cases hd : ds.drop i with
  | nil =>
    rw [hd] at h2
    unfold compL at h2
    by_cases hG : G s2
    · rw [if_pos hG] at h2
      have hl : ds.length ≤ i := by
        have := congrArg List.length hd
        simp at this; omega
      refine .inl ⟨(hJ i ad2 s2 H2 st2 rel2.sto hG).2 hl, ?_⟩
      rw [← h2] at h1
      have zz : ∀ a o, H2 a = some o → a ∉ Da :: Z → a ∉ Z := fun a o _ n => fun q => n (List.mem_cons_of_mem _ q)
      have sto2 : StoOk K ad2 Z s2 H2 := rel2.sto.z zz (fun z hz => rel2.sto.zd z (List.mem_cons_of_mem _ hz)) (fun z hz => rel2.sto.zn z (List.mem_cons_of_mem _ hz))
      refine (h1 H2 ad2 st2 (rel1.later st2 sto2 rel2.st)).2.2 (.ref Da) ?_ (fun _ => ?_) (fun _ => ?_)
      · show Rep K ad2 Z H2 (.lst accD) (.ref Da)
        unfold Rep
        exact ⟨Da, accV, rfl, ⟨nDa, nDz⟩, hD2, RepL.z zz _ _ rp2⟩
      · exact rel1.lv0 (lv_ref hDa)
      · exact (lv_ref hDa).back st1 rel1.sto.dom
    · rw [if_neg hG] at h2; exact absurd h2.symm nbad
  | cons d rest =>
    have hget : ds[i]? = some d := by
      have : (ds.drop i)[0]? = some d := by rw [hd]; rfl
      simpa using this
    have hdrop : ds.drop (i + 1) = rest := by
      rw [← List.drop_drop, hd]; rfl
    have hlt : i < ds.length := (List.getElem?_eq_some_iff.mp hget).1
    rw [hd] at h2
    unfold compL at h2
    by_cases hG : G s2
    · rw [if_pos hG] at h2
      obtain ⟨go, yl⟩ := (hJ i ad2 s2 H2 st2 rel2.sto hG).1 d hget
      refine .inr ⟨go, fun H' => ∃ ad' s' accD accV, Step ad1 H1 ad' H' ∧ Rel K H0 ad0 ad' (Da :: Z) ⟨wipeL e.loc (own), s'⟩ (wipe σ (own)) H' ∧ H' Da = some (.lst accV) ∧ RepL K ad' (Da :: Z) H' accD accV ∧ compL G asg cond el (wipeL e.loc (own)) rest accD s' = r,
        fun H' ⟨ad', s', a', b', a, b, c, d', e'⟩ => ⟨ds.length - (i + 1), by omega, rfl, hlt, ad', s', a', b', a, b, c, d', by rw [hdrop]; exact e'⟩, fun x H3 hy => ?_⟩
      obtain ⟨sm3, rep⟩ := yl x H3 hy
      have st3 : Step ad2 H2 ad2 H3 := .same sm3
      cases ha : asg d ⟨wipeL e.loc (own), s2⟩ with
      | none => rw [ha] at h2; exact absurd h2.symm nbad
      | some e3 =>
        rw [ha] at h2
        have h2 : ((cond e3).bindN fun b s1 => if b = true then (el ⟨e3.loc, s1⟩).bindN fun y s2 => if accD.length < sizeLine then compL G asg cond el (wipeL e.loc (own)) rest (accD ++ [y.1]) s2 else .bad else compL G asg cond el (wipeL e.loc (own)) rest accD s1) = r := h2
        refine hga ad2 (Da :: Z) _ e3 _ H3 d x _ (rel2.same sm3) rep ha fun σ3 rel3 hw => ⟨(hw _ hsl).trans wipe_wipe, Da :: Z, ad2, e3, rel3, ?_⟩
        cases hcnd : cond e3 with
        | bad => rw [hcnd] at h2; exact absurd h2.symm nbad
        | exc C fs s => rw [hcnd] at h2; exact absurd h2.symm nbad
        | ok b s4 =>
          rw [hcnd] at h2
          intro H4 ad4 st4 rel4
          have st34 := rel3.tr st3 st4
          cases b with
          | false =>
            refine iteF ⟨ad4, s4, accD, accV, rel2.tr st2 st34, rel2.later st34 rel4.sto rel4.st, st34.fr _ _ hD2 nDa, RepL.step st34 _ _ rp2, h2⟩
          | true =>
            refine iteT ⟨Da :: Z, ad4, ⟨e3.loc, s4⟩, rel4, ?_⟩
            have h2 : ((el ⟨e3.loc, s4⟩).bindN fun y s2 => if accD.length < sizeLine then compL G asg cond el (wipeL e.loc (own)) rest (accD ++ [y.1]) s2 else .bad) = r := h2
            cases hel : el ⟨e3.loc, s4⟩ with
            | bad => rw [hel] at h2; exact absurd h2.symm nbad
            | exc C fs s => rw [hel] at h2; exact absurd h2.symm nbad
            | ok y s5 =>
              rw [hel] at h2
              have h2 : (if accD.length < sizeLine then compL G asg cond el (wipeL e.loc (own)) rest (accD ++ [y.1]) s5 else .bad) = r := h2
              by_cases hz : accD.length < sizeLine
              · rw [if_pos hz] at h2
                intro H5 ad5 st5 rel5 v rv _ _
                have st35 := rel4.tr st34 st5
                have hD5 : H5 Da = some (.lst accV) := st35.fr _ _ hD2 nDa
                have rp5 := RepL.step st35 _ _ rp2
                have n5 : Da ∉ ad5 := rel5.sto.zn Da (by simp)
                have fr : ∀ b o, H5 b = some o → b ∉ Da :: Z → upd H5 Da (.lst (accV ++ [v])) b = some o := fun b o q n => by
                  rw [upd_ne (fun z => n (by simp [z]))]; exact q
                have st15 := rel2.tr st2 st35
                have stF : Step ad1 H1 ad5 (upd H5 Da (.lst (accV ++ [v]))) := ⟨st15.ext, fun b o q n => by
                  rw [upd_ne (ne_of_none q hDa)]; exact st15.fr b o q n⟩
                refine ⟨accV, hD5, by rw [← RepL.len rp2]; exact hz, ad5, s5, accD ++ [y.1], accV ++ [v], stF, ?_, upd_same, ?_, h2⟩
                · refine (rel2.later st35 rel5.sto rel5.st).core fr (fun z hz => ?_) ?_
                  · rcases List.mem_cons.mp hz with q | q
                    · exact ⟨_, by rw [q]; exact upd_same⟩
                    · by_cases hzd : z = Da
                      · exact ⟨_, by rw [hzd]; exact upd_same⟩
                      · obtain ⟨o, q'⟩ := rel5.sto.zd z hz
                        exact ⟨o, by rw [upd_ne hzd]; exact q'⟩
                  · exact rel1.st.trans stF fun x hx => rel1.sto.dom x (rel1.st.sub x hx)
                · exact RepL.core .refl (fun b o e _ n => fr b o e n) _ _ (RepL.append rp5 (by unfold RepL; exact ⟨v, [], rfl, rv, by unfold RepL; rfl⟩))
              · rw [if_neg hz] at h2; exact absurd h2.symm nbad
    · rw [if_neg hG] at h2; exact absurd h2.symm nbad
section
variable {X : Cx} {H0 : Hp} {ad0 : List Addr} {W : WX} {elt tg iter : Expr} {ifs : List Expr} {scope : Scope} {own : List (Str × Nat)} {pos : Pos} {it : EvI} {g : TG} {sl : List Nat} {asg : Asg} {cond : EvT} {el : EvE}
theorem sim_lc (hc : X.calm = true) (hN : X.N.Nodup) (hi : PI X tg iter (tI X.K H0 ad0 W it)) (ok : BlkOk X.N X.env.scope scope own)
    (hg : ∀ (s : Shared) (H : Hp) (C : Addr) (cl : List (Str × Addr)) (fp : List Addr), PG (X.blk s H scope (compEnvC scope cl C X.env) fp) tg g) (hga : GSim X.K H0 ad0 g sl asg) (hsl : ∀ i ∈ sl, i ∈ own.map (·.2))
    (ht : ∀ (s : Shared) (H : Hp) (C : Addr) (cl : List (Str × Addr)) (fp : List Addr), PTs (X.blk s H scope (compEnvC scope cl C X.env) fp) ifs (tTs X.K H0 ad0 W0 cond))
    (he : ∀ (s : Shared) (H : Hp) (C : Addr) (cl : List (Str × Addr)) (fp : List Addr), PE (X.blk s H scope (compEnvC scope cl C X.env) fp) elt (tE X.K H0 ad0 W0 el)) (hs : ∀ x, foldedSetIterable iter X.env x = pure x := by intro _; rfl) :
    PE X (.ListComp elt [⟨tg, iter, ifs, 0⟩] scope pos) (tE X.K H0 ad0 W (eComp it asg cond el (own.map (·.2)))) := pe_mono (pe_lc hc hN hi ok hg ht he hs) (lc_to hga hsl)
/-- y = [..] on one line; k: what is done with the list (nothing, or eThaw) -/
theorem sim_setLc {i : Nat} {y : Str} {py spos : Pos} {ev : EvE} (hc : X.calm = true) (hN : X.N.Nodup) (hy : X.N[i]? = some y) (hyl : X.env.scope.names.lookup y = some .local)
    (hsw : swapsWith (.ListComp elt [⟨tg, iter, ifs, 0⟩] scope pos) (some (.Name y py)) spos.line X.env = pure true) (hi : PI X tg iter (tI X.K H0 ad0 W it)) (ok : BlkOk X.N X.env.scope scope own)
    (hg : ∀ (s : Shared) (H : Hp) (C : Addr) (cl : List (Str × Addr)) (fp : List Addr), PG (X.blk s H scope (compEnvC scope cl C X.env) fp) tg g) (hga : GSim X.K H0 ad0 g sl asg) (hsl : ∀ i ∈ sl, i ∈ own.map (·.2))
    (ht : ∀ (s : Shared) (H : Hp) (C : Addr) (cl : List (Str × Addr)) (fp : List Addr), PTs (X.blk s H scope (compEnvC scope cl C X.env) fp) ifs (tTs X.K H0 ad0 W0 cond))
    (he : ∀ (s : Shared) (H : Hp) (C : Addr) (cl : List (Str × Addr)) (fp : List Addr), PE (X.blk s H scope (compEnvC scope cl C X.env) fp) elt (tE X.K H0 ad0 W0 el))
    (hk : ∀ σ H Q, tE X.K H0 ad0 W ev σ H Q → tE X.K H0 ad0 W (eComp it asg cond el (own.map (·.2))) σ H Q) (hs : ∀ x, foldedSetIterable iter X.env x = pure x := by intro _; rfl) :
    PS X (.Assign [.Name y py] (.ListComp elt [⟨tg, iter, ifs, 0⟩] scope pos) spos) (tS X.K H0 ad0 W (sSet i ev)) := by
  refine ps_mono (ps_setLc hc hN hy hyl hsw hi ok hg ht he hs) fun D σ H ⟨Z, ad, e, rel, h⟩ => lc_to hga hsl σ H _ (hk σ H _ ⟨Z, ad, e, rel, (postS_toS h).mono fun x ad1 s1 H1 ⟨stp, rel1, h1⟩ v rv l1 _ => ?_⟩)
  exact h1 _ H1 ad1 .refl (rel1.put rv fun q => l1 (of_decide_eq_true q))
end
end
end FX

set_option Elab.async false
set_option linter.all false
set_option maxRecDepth 100000
namespace FX
open PySem PySem.Spec PyProof.Rows L2
open Classical

/-! ### targets -/
abbrev Asgs := List D → En → Option En
def aNil : Asgs := fun ds e => match ds with | [] => some e | _ => none
def aCons (a : Asg) (b : Asgs) : Asgs := fun ds e => match ds with | d :: r => (a d e).bind (b r) | [] => none
def aTup (n : Nat) (b : Asgs) : Asg := fun d e => match d with | .tup ds => if ds.length = n then b ds e else none | _ => none
def GSims (K : PySem.W.Frag) (H0 : Hp) (ad0 : List Addr) (g : TGs) (sl : List Nat) (asg : Asgs) : Prop :=
  ∀ (ad Z : List Addr) (e e1 : En) (σ : L2.St) (H : Hp) (ds : List D) (xs : List V) (Q : L2.St → Hp → Prop), Rel K H0 ad0 ad Z e σ H → RepL K ad Z H ds xs → asg ds e = some e1 →
    (∀ σ', Rel K H0 ad0 ad Z e1 σ' H → (∀ own, (∀ i ∈ sl, i ∈ own) → wipe σ' own = wipe σ own) → Q σ' H) → g xs σ H Q
section
variable {K : PySem.W.Frag} {H0 : Hp} {ad0 : List Addr}
theorem gsim_nil : GSims K H0 ad0 gNil [] aNil := fun ad Z e e1 σ H ds xs Q rel rep ha h => by
  cases ds with
  | nil =>
    cases ha
    unfold RepL at rep
    subst rep
    exact ⟨rfl, h σ rel fun _ _ => rfl⟩
  | cons d r => cases ha
theorem gsim_cons {g : TG} {u : TGs} {sl sl' : List Nat} {a : Asg} {b : Asgs} (h1 : GSim K H0 ad0 g sl a) (h2 : GSims K H0 ad0 u sl' b) : GSims K H0 ad0 (gCons g u) (sl ++ sl') (aCons a b) := fun ad Z e e1 σ H ds xs Q rel rep ha h => by
  cases ds with
  | nil => cases ha
  | cons d r =>
    unfold RepL at rep
    obtain ⟨v, vr, rfl, rd, rr⟩ := rep
    have ha : (a d e).bind (b r) = some e1 := ha
    cases q : a d e with
    | none => rw [q] at ha; cases ha
    | some e2 =>
      rw [q] at ha
      have ha : b r e2 = some e1 := ha
      exact ⟨v, vr, rfl, h1 ad Z e e2 σ H d v _ rel rd q fun σ1 rel1 w1 => h2 ad Z e2 e1 σ1 H r vr Q rel1 rr ha fun σ' rel' w' => h σ' rel' fun own ho => (w' own fun i hi => ho i (List.mem_append_right _ hi)).trans (w1 own fun i hi => ho i (List.mem_append_left _ hi))⟩
theorem gsim_tup {u : TGs} {n : Nat} {sl : List Nat} {b : Asgs} (h : GSims K H0 ad0 u sl b) : GSim K H0 ad0 (gTup K n u) sl (aTup n b) := fun ad Z e e1 σ H d v Q rel rep ha hq => by
  cases d with
  | tup ds =>
    obtain ⟨a, vs, rfl, e2, e3⟩ := tup_of rep
    have ha : (if ds.length = n then b ds e else none) = some e1 := ha
    by_cases hl : ds.length = n
    · rw [if_pos hl] at ha
      exact ⟨a, vs, rfl, .inl (.inl e2), by rw [← RepL.len e3]; exact hl, h ad Z e e1 σ H ds vs Q rel e3 ha hq⟩
    · rw [if_neg hl] at ha; cases ha
  | _ => cases ha
end

/-! ### what is walked -/
section
variable {X : Cx} {H0 : Hp} {ad0 : List Addr} {W : WX} {tg l : Expr} {ev : EvE} {ea : EvA}
def itSeq (ev : EvE) : EvI := fun e => (ev e).bind fun x s1 =>
  match vw s1 x.1 with
  | .lst ds => .ok (ds, fun s => vw s x.1 = .lst ds) s1
  | .tup ds => .ok (ds, fun _ => True) s1
  | .scr ns => .ok (ns.map .int, fun _ => True) s1
  | _ => .bad
theorem vw_tup {K ad Z s H d v ds} (ok : StoOk K ad Z s H) (h : Rep K ad Z H d v) (e : vw s d = .tup ds) : d = .tup ds := by
  cases d with
  | hnd i =>
    unfold Rep at h
    obtain ⟨a, ha, rfl⟩ := h
    obtain ⟨b, hb, c⟩ := cell_vw ok ⟨a, ha⟩ e
    exact c.elim
  | _ => exact e
theorem vw_scr {K ad Z s H d v ns} (ok : StoOk K ad Z s H) (h : Rep K ad Z H d v) (e : vw s d = .scr ns) : d = .scr ns := by
  cases d with
  | hnd i =>
    unfold Rep at h
    obtain ⟨a, ha, rfl⟩ := h
    obtain ⟨b, hb, c⟩ := cell_vw ok ⟨a, ha⟩ e
    exact c.elim
  | _ => exact e
theorem scr_of {K ad Z H v ns} (h : Rep K ad Z H (.scr ns) v) : ∃ a, v = .ref a ∧ SqL K H a (ns.map V.int) := by
  unfold Rep at h
  obtain ⟨a, e, q⟩ := h
  refine ⟨a, e, ?_⟩
  rcases q with ⟨_, q⟩ | q
  · exact .inl q
  · exact q H
theorem walk_seq {K Z J ds ad1 H1} {a : Addr} {G : Sto → Prop} {Ssq : Hp → List V → Prop}
    (hJ1 : ∀ i H xs x, Ssq H xs → xs[i]? = some x → J.go i H) (hJ2 : ∀ i H x H' xs, J.yld i H x H' → Ssq H xs → H' = H ∧ xs[i]? = some x) (hJ3 : ∀ i H xs, Ssq H xs → xs.length ≤ i → J.stop i H)
    (h : ∀ ad2 s2 H2, Step ad1 H1 ad2 H2 → StoOk K ad2 Z s2 H2 → G s2 → ∃ vs, Ssq H2 vs ∧ RepL K ad2 Z H2 ds vs) : WalkOk K Z G J ds ad1 H1 := by
  intro i ad2 s2 H2 st ok g
  obtain ⟨vs, e2, e3⟩ := h ad2 s2 H2 st ok g
  refine ⟨fun d hd => ?_, fun hl => hJ3 i H2 vs e2 (by rw [← RepL.len e3]; exact hl)⟩
  obtain ⟨v, hv, rv⟩ := RepL.get e3 hd
  refine ⟨hJ1 i H2 vs v e2 hv, fun x H3 hy => ?_⟩
  obtain ⟨rfl, hx⟩ := hJ2 i H2 x H3 vs hy e2
  rw [hv] at hx; cases hx
  exact ⟨Same.refl _, rv⟩
theorem lift_z {K ad Z Z' H d v} (hz' : ∀ z ∈ Z', z ∈ Z ∨ H z = none) (h : Rep K ad Z H d v) : Rep K ad Z' H d v :=
  Rep.z (fun a o e n hm => (hz' a hm).elim n fun q => by rw [q] at e; cases e) d v h
theorem sim_iseq (he : PE X l (tE X.K H0 ad0 W ev)) : PI X tg l (tI X.K H0 ad0 W (itSeq ev)) := by
  refine pi_mono (pi_or (pi_list he) (pi_tup he)) fun σ H Rr ⟨Z, ad, e, rel, h⟩ => ?_
  have h := post_bind h
  cases q : ev e with
  | bad => rw [q] at h; exact h.elim
  | exc C fs s => rw [q] at h; exact .inl ⟨Z, ad, e, rel, by rw [q]; exact h⟩
  | ok x s1 =>
    rw [q] at h
    cases hv : vw s1 x.1 with
    | lst ds =>
      refine .inl ⟨Z, ad, e, rel, ?_⟩
      rw [q]
      intro H1 ad1 st1 rel1 v rv _ _
      obtain ⟨_, _, h2⟩ := h H1 ad1 st1 rel1
      rw [hv] at h2
      obtain ⟨_, _, h3⟩ := h2 H1 ad1 .refl rel1
      obtain ⟨a, vs, rfl, e1, e2⟩ := lst_of rel1.sto rv hv
      refine ⟨a, rfl, ⟨vs, .inl (.inl e1)⟩, h3 _ fun Z' hz hz' => walk_seq (a := a) (Ssq := fun H xs => H a = some (.lst xs)) (fun i H xs x h1 h2 => ⟨xs, x, .inl (.inl h1), h2⟩) (fun i H x H' xs hy h1 => ⟨hy.1, hy.2 xs (.inl (.inl h1))⟩) (fun i H xs h1 h2 => ⟨xs, .inl (.inl h1), h2⟩) fun ad2 s2 H2 st ok g => ?_⟩
      obtain ⟨a', vs', ea, e1', e2'⟩ := lst_of ok (Rep.step st _ _ (lift_z hz' rv)) g
      cases ea
      exact ⟨vs', e1', e2'⟩
    | tup ds =>
      refine .inr ⟨Z, ad, e, rel, ?_⟩
      rw [q]
      intro H1 ad1 st1 rel1 v rv _ _
      obtain ⟨_, _, h2⟩ := h H1 ad1 st1 rel1
      rw [hv] at h2
      obtain ⟨_, _, h3⟩ := h2 H1 ad1 .refl rel1
      have ed := vw_tup rel1.sto rv hv
      rw [ed] at rv
      obtain ⟨a, vs, rfl, e1, e2⟩ := tup_of rv
      refine ⟨a, rfl, ⟨vs, .inl (.inl e1)⟩, h3 _ fun Z' hz hz' => walk_seq (a := a) (Ssq := fun H xs => H a = some (.tup xs)) (fun i H xs x h1 h2 => ⟨xs, x, .inl (.inl h1), h2⟩) (fun i H x H' xs hy h1 => ⟨hy.1, hy.2 xs (.inl (.inl h1))⟩) (fun i H xs h1 h2 => ⟨xs, .inl (.inl h1), h2⟩) fun ad2 s2 H2 st ok g => ?_⟩
      obtain ⟨a', vs', ea, e1', e2'⟩ := tup_of (Rep.step st _ _ (lift_z hz' rv))
      cases ea
      exact ⟨vs', e1', e2'⟩
    | scr ns =>
      refine .inl ⟨Z, ad, e, rel, ?_⟩
      rw [q]
      intro H1 ad1 st1 rel1 v rv _ _
      obtain ⟨_, _, h2⟩ := h H1 ad1 st1 rel1
      rw [hv] at h2
      obtain ⟨_, _, h3⟩ := h2 H1 ad1 .refl rel1
      have ed := vw_scr rel1.sto rv hv
      rw [ed] at rv
      obtain ⟨a, rfl, e1⟩ := scr_of rv
      refine ⟨a, rfl, ⟨_, e1⟩, h3 _ fun Z' hz hz' => walk_seq (a := a) (Ssq := fun H xs => SqL X.K H a xs) (fun i H xs x h1 h2 => ⟨xs, x, h1, h2⟩) (fun i H x H' xs hy h1 => ⟨hy.1, hy.2 xs h1⟩) (fun i H xs h1 h2 => ⟨xs, h1, h2⟩) fun ad2 s2 H2 st ok g => ?_⟩
      obtain ⟨a', ea, e1'⟩ := scr_of (Rep.step st _ _ (lift_z hz' rv))
      cases ea
      exact ⟨_, e1', RepL.map_same ns⟩
    | _ =>
      refine .inl ⟨Z, ad, e, rel, ?_⟩
      rw [q]
      intro H1 ad1 st1 rel1
      obtain ⟨_, _, h2⟩ := h H1 ad1 st1 rel1
      rw [hv] at h2
      exact h2.elim
def rangeD (lo : Int) (n : Nat) : List D := (List.range n).map fun k : Nat => D.int (lo + (k : Nat))
theorem walk_range {K Z ad1 H1 lo n} : WalkOk K Z (fun _ => True) (Itr lo n) (rangeD lo n) ad1 H1 := by
  intro i ad2 s2 H2 st ok g
  unfold rangeD
  refine ⟨fun d hd => ?_, fun hl => by simp at hl; exact hl⟩
  rw [List.getElem?_map] at hd
  by_cases hi : i < n
  · rw [List.getElem?_range hi] at hd
    cases hd
    refine ⟨hi, fun x H3 ⟨a, b⟩ => ?_⟩
    subst a b
    exact ⟨Same.refl _, by simp⟩
  · rw [List.getElem?_eq_none (by simpa using hi)] at hd; cases hd
def itRange (ea : EvA) : EvI := fun e => (ea e).bind fun ds s1 =>
  match ds with
  | [.int j] => if -(2 ^ 62) ≤ j ∧ j < 2 ^ 62 then .ok (rangeD 0 j.toNat, fun _ => True) s1 else .bad
  | _ => .bad
def itRange2 (ea : EvA) : EvI := fun e => (ea e).bind fun ds s1 =>
  match ds with
  | [.int i, .int j] => if -(2 ^ 62) ≤ i ∧ i < 2 ^ 62 ∧ -(2 ^ 62) ≤ j ∧ j < 2 ^ 62 then .ok (rangeD i (j - i).toNat, fun _ => True) s1 else .bad
  | _ => .bad
theorem repL1 {K ad Z H d vs} (h : RepL K ad Z H [d] vs) : ∃ v, vs = [v] ∧ Rep K ad Z H d v := by
  unfold RepL at h
  obtain ⟨v, r, e, h1, h2⟩ := h
  unfold RepL at h2
  subst h2
  exact ⟨v, e, h1⟩
theorem repL2 {K ad Z H d d' vs} (h : RepL K ad Z H [d, d'] vs) : ∃ v v', vs = [v, v'] ∧ Rep K ad Z H d v ∧ Rep K ad Z H d' v' := by
  unfold RepL at h
  obtain ⟨v, r, e, h1, h2⟩ := h
  obtain ⟨v', rfl, h3⟩ := repL1 h2
  exact ⟨v, v', e, h1, h3⟩
theorem repL3 {K ad Z H d d' d'' vs} (h : RepL K ad Z H [d, d', d''] vs) : ∃ v v' v'', vs = [v, v', v''] ∧ Rep K ad Z H d v ∧ Rep K ad Z H d' v' ∧ Rep K ad Z H d'' v'' := by
  unfold RepL at h
  obtain ⟨v, r, e, h1, h2⟩ := h
  obtain ⟨v', v'', rfl, h3⟩ := repL2 h2
  exact ⟨v, v', v'', e, h1, h3⟩
/-- the general shape of a walk whose arguments are evaluated first -/
theorem walk_args {iT : TA → TI} {f : List D → Sto → R (List D × (Sto → Prop))} {Pm : Hp → List V → (It → Hp → Prop) → Prop}
    (hT : ∀ ta σ H Rr, ta σ H (fun vs H1 => Pm H1 vs (fun J H2 => Rr J H2)) → iT ta σ H Rr)
    (hf : ∀ ad Z H ds vs s Rr x s', StoOk X.K ad Z s H → RepL X.K ad Z H ds vs → f ds s = .ok x s' → s' = s ∧ ((∀ J, (∀ Z', (∀ z ∈ Z, z ∈ Z') → (∀ z ∈ Z', z ∈ Z ∨ H z = none) → WalkOk X.K Z' x.2 J x.1 ad H) → Rr J H) → Pm H vs Rr))
    (hx : ∀ ds s C fs s', f ds s ≠ .exc C fs s')
    {σ H Rr} (h : tI X.K H0 ad0 W (fun e => (ea e).bind f) σ H Rr) : iT (tAr X.K H0 ad0 W ea) σ H Rr := by
  obtain ⟨Z, ad, e, rel, h⟩ := h
  refine hT _ _ _ _ ⟨Z, ad, e, rel, (post_bind h).mono fun ds ad1 s1 H1 ⟨st1, rel1, h1⟩ vs rvs => ?_⟩
  cases q : f ds s1 with
  | bad => rw [q] at h1; exact h1.elim
  | exc C fs s => exact absurd q (hx _ _ _ _ _)
  | ok x s2 =>
    rw [q] at h1
    obtain ⟨rfl, k⟩ := hf ad1 Z H1 ds vs s1 Rr x s2 rel1.sto rvs q
    exact k (h1 H1 ad1 .refl rel1).2.2
theorem sim_irange {a : Expr} {p pos : Pos} (hg : Gl X "range") (hm : X.mg "range" = none) (ha : PA X [a] (tAr X.K H0 ad0 W ea)) (hs : starEach [a] X.env = [(false, eval a X.env)] := by rfl) : PI X tg (.Call (.Name "range" p) [a] [] pos) (tI X.K H0 ad0 W (itRange ea)) := by
  refine pi_mono (pi_range1 hg hm ha hs) fun σ H Rr h => walk_args (iT := iRng1) (Pm := fun H1 vs R => ∃ j : Int, vs = [.int j] ∧ -(2 ^ 62) ≤ j ∧ j < 2 ^ 62 ∧ R (Itr 0 j.toNat) H1) (fun _ _ _ _ z => z) (fun ad Z H ds vs s Rr x s' ok rvs q => ?_) (fun ds s C fs s' q => ?_) h
  · split at q
    · rename_i j
      obtain ⟨v, rfl, hv⟩ := repL1 rvs
      split at q
      · rename_i hb
        cases q
        exact ⟨rfl, fun k => ⟨j, by rw [rep_int.mp hv], hb.1, hb.2, k _ fun _ _ _ => walk_range⟩⟩
      · cases q
    · cases q
  · split at q
    · split at q <;> cases q
    · cases q
theorem sim_irange2 {a b : Expr} {p pos : Pos} (hg : Gl X "range") (hm : X.mg "range" = none) (ha : PA X [a, b] (tAr X.K H0 ad0 W ea)) (hs : starEach [a, b] X.env = [(false, eval a X.env), (false, eval b X.env)] := by rfl) (hs2 : starEach [b] X.env = [(false, eval b X.env)] := by rfl) :
    PI X tg (.Call (.Name "range" p) [a, b] [] pos) (tI X.K H0 ad0 W (itRange2 ea)) := by
  refine pi_mono (pi_range2 hg hm ha hs hs2) fun σ H Rr h => walk_args (iT := iRng2) (Pm := fun H1 vs R => ∃ i j : Int, vs = [.int i, .int j] ∧ (-(2 ^ 62) ≤ i ∧ i < 2 ^ 62 ∧ -(2 ^ 62) ≤ j ∧ j < 2 ^ 62) ∧ R (Itr i (j - i).toNat) H1) (fun _ _ _ _ z => z) (fun ad Z H ds vs s Rr x s' ok rvs q => ?_) (fun ds s C fs s' q => ?_) h
  · split at q
    · rename_i i j
      obtain ⟨v, v', rfl, hv, hv'⟩ := repL2 rvs
      split at q
      · rename_i hb
        cases q
        exact ⟨rfl, fun k => ⟨i, j, by rw [rep_int.mp hv, rep_int.mp hv'], hb, k _ fun _ _ _ => walk_range⟩⟩
      · cases q
    · cases q
  · split at q
    · split at q <;> cases q
    · cases q
/-- zip of two lists -/
def itZip (ea : EvA) : EvI := fun e => (ea e).bind fun ds s1 =>
  match ds with
  | [x, y] => match vw s1 x, vw s1 y with
    | .lst xs, .lst ys => .ok ((xs.zip ys).map fun p => D.tup [p.1, p.2], fun s => vw s x = .lst xs ∧ vw s y = .lst ys) s1
    | _, _ => .bad
  | _ => .bad
theorem rep_pair {K ad Z s H T d d' v v'} (ok : StoOk K ad Z s H) (h : H T = none) (r1 : Rep K ad Z H d v) (r2 : Rep K ad Z H d' v') : Rep K ad Z (upd H T (.tup [v, v'])) (.tup [d, d']) (.ref T) :=
  rep_new_tup ok h (by unfold RepL; exact ⟨v, [v'], rfl, r1, by unfold RepL; exact ⟨v', [], rfl, r2, by unfold RepL; rfl⟩⟩)
theorem sim_izip {e1 e2 : Expr} {p pos tpos : Pos} {elts : List Expr} {kk : Nat} (hg : Gl X "zip") (hm : X.mg "zip" = none) (ha : PA X [e1, e2] (tAr X.K H0 ad0 W ea))
    (hs : starEach [e1, e2] X.env = (false, eval e1 X.env) :: starEach [e2] X.env := by rfl) (hpl : (backTo pos (starEach [e2] X.env)).any (·.1) = false := by rfl) :
    PI X (.Tuple elts kk tpos) (.Call (.Name "zip" p) [e1, e2] [] pos) (tI X.K H0 ad0 W (itZip ea)) := by
  refine pi_mono (pi_zip hg hm ha hs hpl) fun σ H Rr h => walk_args (iT := iZip X.K) (Pm := fun H1 vs R => ∃ a b xs ys, vs = [.ref a, .ref b] ∧ SqL X.K H1 a xs ∧ SqL X.K H1 b ys ∧ R (Itz X.K a b) H1) (fun _ _ _ _ z => z) (fun ad Z H ds vs s Rr x s' ok rvs q => ?_) (fun ds s C fs s' q => ?_) h
  · split at q
    · rename_i dx dy
      obtain ⟨v, v', rfl, hv, hv'⟩ := repL2 rvs
      split at q
      · rename_i xs ys hx hy
        cases q
        refine ⟨rfl, fun k => ?_⟩
        obtain ⟨a, vx, rfl, ea, ra⟩ := lst_of ok hv hx
        obtain ⟨b, vy, rfl, eb, rb⟩ := lst_of ok hv' hy
        refine ⟨a, b, vx, vy, rfl, .inl (.inl ea), .inl (.inl eb), k _ fun Z' hz hz' i ad2 s2 H2 st ok2 g => ?_⟩
        obtain ⟨a', vx', e, ea', ra'⟩ := lst_of ok2 (Rep.step st _ _ (lift_z hz' hv)) g.1
        cases e
        obtain ⟨b', vy', e, eb', rb'⟩ := lst_of ok2 (Rep.step st _ _ (lift_z hz' hv')) g.2
        cases e
        have la := RepL.len ra'
        have lb := RepL.len rb'
        refine ⟨fun d hd => ?_, fun hl => ⟨vx', vy', .inl (.inl ea'), .inl (.inl eb'), ?_⟩⟩
        · obtain ⟨⟨dx', dy'⟩, hp, rfl⟩ := List.getElem?_map .. ▸ hd |> Option.map_eq_some_iff.mp
          obtain ⟨h1, h2⟩ := List.getElem?_zip_eq_some.mp hp
          obtain ⟨wx, hwx, rwx⟩ := RepL.get ra' h1
          obtain ⟨wy, hwy, rwy⟩ := RepL.get rb' h2
          refine ⟨⟨vx', vy', wx, wy, .inl (.inl ea'), .inl (.inl eb'), hwx, hwy⟩, fun x H3 hyl => ?_⟩
          obtain ⟨T, x, y, rfl, hT, rfl, h3, h4⟩ := hyl
          have ex := h3 _ (.inl (.inl ea'))
          have ey := h4 _ (.inl (.inl eb'))
          rw [hwx] at ex; rw [hwy] at ey
          cases ex; cases ey
          exact ⟨same_upd hT, rep_pair ok2 hT rwx rwy⟩
        · simp at hl
          omega
      · cases q
    · cases q
  · split at q
    · split at q <;> cases q
    · cases q
/-- enumerate of a list -/
def itEnum (ea : EvA) : EvI := fun e => (ea e).bind fun ds s1 =>
  match ds with
  | [x] => match vw s1 x with
    | .lst xs => .ok (xs.zipIdx.map fun p => D.tup [.int (p.2 : Nat), p.1], fun s => vw s x = .lst xs) s1
    | _ => .bad
  | _ => .bad
theorem sim_ienum {e1 : Expr} {p pos tpos : Pos} {elts : List Expr} {kk : Nat} (hg : Gl X "enumerate") (hm : X.mg "enumerate" = none) (ha : PA X [e1] (tAr X.K H0 ad0 W ea)) (hs : starEach [e1] X.env = [(false, eval e1 X.env)] := by rfl) :
    PI X (.Tuple elts kk tpos) (.Call (.Name "enumerate" p) [e1] [] pos) (tI X.K H0 ad0 W (itEnum ea)) := by
  refine pi_mono (pi_enum hg hm ha hs) fun σ H Rr h => walk_args (iT := iEnum X.K) (Pm := fun H1 vs R => ∃ a xs, vs = [.ref a] ∧ SqL X.K H1 a xs ∧ R (Ite X.K a) H1) (fun _ _ _ _ z => z) (fun ad Z H ds vs s Rr x s' ok rvs q => ?_) (fun ds s C fs s' q => ?_) h
  · split at q
    · rename_i dx
      obtain ⟨v, rfl, hv⟩ := repL1 rvs
      split at q
      · rename_i xs hx
        cases q
        refine ⟨rfl, fun k => ?_⟩
        obtain ⟨a, vx, rfl, ea, ra⟩ := lst_of ok hv hx
        refine ⟨a, vx, rfl, .inl (.inl ea), k _ fun Z' hz hz' i ad2 s2 H2 st ok2 g => ?_⟩
        obtain ⟨a', vx', e, ea', ra'⟩ := lst_of ok2 (Rep.step st _ _ (lift_z hz' hv)) g
        cases e
        have la := RepL.len ra'
        refine ⟨fun d hd => ?_, fun hl => ⟨vx', .inl (.inl ea'), by simp at hl; omega⟩⟩
        obtain ⟨⟨dx', j⟩, hp, rfl⟩ := List.getElem?_map .. ▸ hd |> Option.map_eq_some_iff.mp
        rw [List.getElem?_zipIdx] at hp
        obtain ⟨d1, h1, h2⟩ := Option.map_eq_some_iff.mp hp
        cases h2
        obtain ⟨wx, hwx, rwx⟩ := RepL.get ra' h1
        refine ⟨⟨vx', wx, .inl (.inl ea'), hwx⟩, fun x H3 hyl => ?_⟩
        obtain ⟨T, x, rfl, hT, rfl, h3⟩ := hyl
        have ex := h3 _ (.inl (.inl ea'))
        rw [hwx] at ex
        cases ex
        refine ⟨same_upd hT, rep_pair ok2 hT ?_ rwx⟩
        simp
      · cases q
    · cases q
  · split at q
    · split at q <;> cases q
    · cases q
end
end FX

set_option Elab.async false
set_option linter.all false
set_option maxRecDepth 100000
namespace FX
open PySem PySem.Spec PyProof.Rows L2
open Classical

/-! ### names, constants -/
noncomputable section
variable {X : Cx} {H0 : Hp} {ad0 : List Addr} {W : WX} {a b c : Expr} {ev ea eb ec : EvE} {pos : Pos}
def eVar (i : Nat) : EvE := fun e => match e.loc[i]? with | some (some (d, y)) => .ok (d, if y = true then 1 else 0) e.sto | _ => .bad
theorem sim_var (i : Nat) {x : Str} (hN : X.N[i]? = some x := by rfl) (hv : Vis X.env.scope x := by first | exact Or.inl rfl | exact Or.inr (Or.inl rfl) | exact Or.inr (Or.inr rfl)) (hd : (x == ("__debug__" : Str)) = false := by decide)
    (hcd : (x == ("__classdict__" : Str)) = false := by decide) : PE X (.Name x pos) (tE X.K H0 ad0 W (eVar i)) := by
  refine pe_mono (pe_var hN hv hd hcd) fun σ H Q ⟨Z, ad, e, rel, h⟩ => ?_
  unfold eVar at h
  cases q : e.loc[i]? with
  | none => rw [q] at h; exact h.elim
  | some o =>
    cases o with
    | none => rw [q] at h; exact h.elim
    | some p =>
      obtain ⟨d, y⟩ := p
      rw [q] at h
      obtain ⟨v, h1, h2, h3⟩ := rel.loc i d y q
      exact ⟨v, h1, h H ad .refl rel v h2 (fun z => h3 (by cases y with | true => rfl | false => simp at z)) fun z => by cases y <;> simp at z⟩
def eC (d : D) : EvE := fun e => .ok (d, 0) e.sto
theorem sim_const {d : D} {v : V} (h : PE X a (tC v)) (r : ∀ ad Z H, Rep X.K ad Z H d v) : PE X a (tE X.K H0 ad0 W (eC d)) :=
  pe_mono h fun σ H Q ⟨Z, ad, e, rel, h⟩ => h H ad .refl rel v (r _ _ _) (by intro z; simp at z) (by intro z; simp at z)
theorem sim_int {i j} : PE X (.Constant (.int i) j pos) (tE X.K H0 ad0 W (eC (.int i))) := sim_const pe_int fun _ _ _ => by simp
theorem sim_bl {i j} : PE X (.Constant (.bool i) j pos) (tE X.K H0 ad0 W (eC (.bl i))) := sim_const pe_bl fun _ _ _ => by simp
theorem sim_non {j} : PE X (.Constant .none j pos) (tE X.K H0 ad0 W (eC .non)) := sim_const pe_non fun _ _ _ => by simp
theorem sim_str {x j} : PE X (.Constant (.str x) j pos) (tE X.K H0 ad0 W (eC (.str x))) := sim_const pe_str fun _ _ _ => by simp
/-- a module's constant -/
theorem sim_globI {x : Str} {i : Int} {t : Tok} (hg : Gl X x) (hm : X.mg x = some (.int i t)) (hd : (x == ("__debug__" : Str)) = false := by decide) : PE X (.Name x pos) (tE X.K H0 ad0 W (eC (.int i))) := sim_const (v := .int i) (pe_glob hg hm ⟨_, rfl⟩ hd) fun _ _ _ => by simp
theorem sim_globR {x : Str} {f : Addr} (hg : Gl X x) (hm : X.mg x = some (.ref f)) (hd : (x == ("__debug__" : Str)) = false := by decide) : PE X (.Name x pos) (tE X.K H0 ad0 W (eC (.con f))) := sim_const (v := .ref f) (pe_glob hg hm rfl hd) fun _ _ _ => by simp
theorem sim_ty {x : Str} {n : String} (hg : Gl X x) (hm : X.mg x = none) (hv : bootBuiltins x = some (.type n)) (hn : x ≠ "__name__" := by decide) (hd : (x == ("__debug__" : Str)) = false := by decide) : PE X (.Name x pos) (tE X.K H0 ad0 W (eC (.ty n))) := sim_const (v := .ty n) (pe_bltn hg hm hv rfl hn hd) fun _ _ _ => by simp

/-! ### arithmetic -/
def sz (i : Int) : Prop := i.natAbs.log2 < 40000000
def szP (i : Int) : Prop := i.natAbs.log2 < 400000
abbrev Op2 := Sto → D → D → Option (D × Nat)
def gI (C : Int → Int → Prop) (f : Int → Int → D) : Op2 := fun _ x y => match x, y with
  | .int i, .int j => if C i j then some (f i j, 0) else none
  | _, _ => none
theorem gI_some {C : Int → Int → Prop} {f : Int → Int → D} {s x y d l} (h : gI C f s x y = some (d, l)) : ∃ i j, x = .int i ∧ y = .int j ∧ C i j ∧ d = f i j ∧ l = 0 := by
  unfold gI at h
  split at h
  · split at h
    · rename_i i j hc
      cases h
      exact ⟨i, j, rfl, rfl, hc, rfl, rfl⟩
    · cases h
  · cases h
theorem osim_I {f : Value → Value → Sem Value} {C C' : Int → Int → Prop} {g : Int → Int → V} {k : Int → Int → D} (h : OpR X f (rI C g)) (hc : ∀ i j, C' i j → C i j) (hk : ∀ ad Z H i j, Rep X.K ad Z H (k i j) (g i j)) (hl : ∀ i j a, g i j ≠ .ref a) : OpSim X f (gI C' k) :=
  ⟨_, h, fun ad Z s H x y dx dy d l Q ok rx ry e q => by
    obtain ⟨i, j, rfl, rfl, c, rfl, rfl⟩ := gI_some e
    exact ⟨i, j, rep_int.mp rx, rep_int.mp ry, hc i j c, q _ H (Same.refl _) (hk _ _ _ _ _) (by intro z; simp at z)⟩⟩
theorem osim_I0 {f : Value → Value → Sem Value} {g : Int → Int → V} {k : Int → Int → D} (h : OpR X f (rI0 g)) (hk : ∀ ad Z H i j, Rep X.K ad Z H (k i j) (g i j)) : OpSim X f (gI (fun _ _ => True) k) :=
  ⟨_, h, fun ad Z s H x y dx dy d l Q ok rx ry e q => by
    obtain ⟨i, j, rfl, rfl, c, rfl, rfl⟩ := gI_some e
    exact ⟨i, j, rep_int.mp rx, rep_int.mp ry, q _ H (Same.refl _) (hk _ _ _ _ _) (by intro z; simp at z)⟩⟩
def gAddI : Op2 := gI (fun _ _ => True) fun i j => .int (i + j)
theorem o_addI : OpSim X (binaryOp .Add) gAddI := osim_I0 op_add fun _ _ _ _ _ => by simp
def gSub : Op2 := gI (fun _ _ => True) fun i j => .int (i - j)
theorem o_sub : OpSim X (binaryOp .Sub) gSub := osim_I0 op_sub fun _ _ _ _ _ => by simp
def gMulI : Op2 := gI (fun i j => sz i ∧ sz j) fun i j => .int (i * j)
theorem mul_ok {i j : Int} (h : sz i ∧ sz j) : IntMulOk i j := by
  have bits : ∀ x : Int, Builtin.Int.intBits x ≤ x.natAbs.log2 + 1 := fun x => by unfold Builtin.Int.intBits; split <;> omega
  have b1 := bits i
  have b2 := bits j
  obtain ⟨h1, h2⟩ := h
  unfold sz at h1 h2
  have line : bitsLine = 134217728 := by decide
  intro z
  rw [Bool.and_eq_true] at z
  have z2 := z.2
  unfold Builtin.Int.intTooBig at z2
  have z3 := of_decide_eq_true z2
  rw [line] at z3
  omega
theorem op_mulZ : OpR X (binaryOp .Mult) (rI (fun i j => sz i ∧ sz j) fun i j => .int (i * j)) := opI fun _ _ _ _ _ _ _ hc q => mul_int q (mul_ok hc)
theorem o_mulI : OpSim X (binaryOp .Mult) gMulI := osim_I op_mulZ (fun i j h => h) (fun _ _ _ _ _ => by simp) fun _ _ _ h => nomatch h
def gDiv : Op2 := gI (fun _ j => 0 < j ∧ j.natAbs.log2 < 9000) fun i j => .int (i / j)
theorem o_div : OpSim X (binaryOp .FloorDiv) gDiv := osim_I op_fdivW (fun i j h => h) (fun _ _ _ _ _ => by simp) fun _ _ _ h => nomatch h
def gMod : Op2 := gI (fun _ j => 0 < j) fun i j => .int (i % j)
theorem o_mod : OpSim X (binaryOp .Mod) gMod := osim_I op_mod (fun i j h => h) (fun _ _ _ _ _ => by simp) fun _ _ _ h => nomatch h
def CPowW (i j : Int) : Prop := 0 ≤ j ∧ j ≤ 100 ∧ szP i
theorem op_powW : OpR X (binaryOp .Pow) (rI CPowW fun i j => .int (i ^ j.toNat)) := opI fun i j _ _ _ _ _ hc q => by
  obtain ⟨h0, h1, h2⟩ := hc
  refine pow_int h0 ?_ q
  have b : Builtin.Int.intBits i ≤ i.natAbs.log2 + 1 := by unfold Builtin.Int.intBits; split <;> omega
  unfold szP at h2
  have hb : (Builtin.Int.intBits i : Int) ≤ 400000 := by omega
  have : (Builtin.Int.intBits i : Int) * j ≤ 400000 * 100 := Int.mul_le_mul hb h1 h0 (by omega)
  omega
def gPow : Op2 := gI CPowW fun i j => .int (i ^ j.toNat)
theorem o_pow : OpSim X (binaryOp .Pow) gPow := osim_I op_powW (fun i j h => h) (fun _ _ _ _ _ => by simp) fun _ _ _ h => nomatch h
def gLt : Op2 := gI (fun _ _ => True) fun i j => .bl (decide (i < j))
theorem o_lt : OpSim X (compareOp .Lt) gLt := osim_I0 op_lt fun _ _ _ _ _ => by simp
def gLe : Op2 := gI (fun _ _ => True) fun i j => .bl (decide (i ≤ j))
theorem o_le : OpSim X (compareOp .LtE) gLe := osim_I0 op_le fun _ _ _ _ _ => by simp
def gGt : Op2 := gI (fun _ _ => True) fun i j => .bl (decide (j < i))
theorem o_gt : OpSim X (compareOp .Gt) gGt := osim_I0 op_gt fun _ _ _ _ _ => by simp
def gGe : Op2 := gI (fun _ _ => True) fun i j => .bl (decide (j ≤ i))
theorem o_ge : OpSim X (compareOp .GtE) gGe := osim_I0 op_ge fun _ _ _ _ _ => by simp

/-! ### lists and texts -/
def gAddL : Op2 := fun s x y => match vw s x, vw s y with
  | .lst a, .lst b => if a.length + b.length ≤ sizeLine then some (.lst (a ++ b), 2) else none
  | _, _ => none
theorem o_addL : OpSim X (binaryOp .Add) gAddL := ⟨_, op_cat, fun ad Z s H x y dx dy d l Q ok rx ry e q => by
  unfold gAddL at e
  split at e
  · rename_i da db ha hb
    split at e
    · rename_i hz
      cases e
      obtain ⟨a, vs, rfl, e1, r1⟩ := lst_of ok rx ha
      obtain ⟨b, ws, rfl, e2, r2⟩ := lst_of ok ry hb
      exact ⟨a, b, vs, ws, rfl, rfl, e1, e2, by rw [← RepL.len r1, ← RepL.len r2]; exact hz, fun p np => q _ _ (same_upd np) (rep_new_lst ok np (RepL.append r1 r2)) fun _ => lv_ref np⟩
    · cases e
  · cases e⟩
def gAddS : Op2 := fun _ x y => match x, y with
  | .str a, .str b => if a.length + b.length ≤ sizeLine then some (.str (a ++ b), 0) else none
  | _, _ => none
theorem o_addS : OpSim X (binaryOp .Add) gAddS := ⟨_, op_add_str, fun ad Z s H x y dx dy d l Q ok rx ry e q => by
  unfold gAddS at e
  split at e
  · rename_i da db
    split at e
    · rename_i hz
      cases e
      exact ⟨da, db, rep_str.mp rx, rep_str.mp ry, hz, q _ H (Same.refl _) (by simp) (by intro z; simp at z)⟩
    · cases e
  · cases e⟩
def gAdd : Op2 := gOr gAddI (gOr gAddL gAddS)
theorem o_add : OpSim X (binaryOp .Add) gAdd := o_addI.or (o_addL.or o_addS)
def gMulL : Op2 := fun s x y => match vw s x, y with
  | .lst a, .int k => if -(2 ^ 63) ≤ k ∧ k < 2 ^ 63 ∧ a.length * k.toNat ≤ sizeLine then some (.lst (List.replicate k.toNat a).flatten, 2) else none
  | _, _ => none
theorem RepL.rep {K ad Z H ds vs} (h : RepL K ad Z H ds vs) : ∀ n : Nat, RepL K ad Z H (List.replicate n ds).flatten (List.replicate n vs).flatten
  | 0 => by show RepL K ad Z H [] []; unfold RepL; rfl
  | n + 1 => by
    rw [List.replicate_succ, List.replicate_succ, List.flatten_cons, List.flatten_cons]
    exact RepL.append h (RepL.rep h n)
theorem o_mulL : OpSim X (binaryOp .Mult) gMulL := ⟨_, op_rep, fun ad Z s H x y dx dy d l Q ok rx ry e q => by
  unfold gMulL at e
  split at e
  · rename_i da k ha
    split at e
    · rename_i hz
      cases e
      obtain ⟨a, vs, rfl, e1, r1⟩ := lst_of ok rx ha
      exact ⟨a, k, vs, rfl, rep_int.mp ry, e1, hz.1, hz.2.1, by rw [← RepL.len r1]; exact hz.2.2, fun p np => q _ _ (same_upd np) (rep_new_lst ok np (RepL.rep r1 _)) fun _ => lv_ref np⟩
    · cases e
  · cases e⟩
def gMul : Op2 := gOr gMulI gMulL
theorem o_mul : OpSim X (binaryOp .Mult) gMul := o_mulI.or o_mulL

/-! ### == and its like at any depth -/
mutual
def toP : D → Option PyData
  | .non => some .none | .bl b => some (.bool b) | .int i => some (.int i) | .str x => some (.str x)
  | .lst ds => (toPs ds).map .list
  | .tup ds => (toPs ds).map .tuple
  | .scr ns => some (.list (ns.map .int))
  | _ => none
def toPs : List D → Option (List PyData)
  | [] => some []
  | d :: ds => match toP d, toPs ds with | some x, some xs => some (x :: xs) | _, _ => none
end
theorem dp_ints {K H} : ∀ ns : List Int, DpAll K H (ns.map V.int) (ns.map PyData.int)
  | [] => .nil
  | n :: r => .cons (.int n) (dp_ints r)
mutual
theorem dp_of {K ad Z H} : ∀ (d : D) (v : V) (p : PyData), Rep K ad Z H d v → toP d = some p → Dp K H v p
  | .non, v, p, h, e => by rw [rep_non] at h; unfold toP at e; cases e; subst h; exact .non
  | .bl b, v, p, h, e => by rw [rep_bl] at h; unfold toP at e; cases e; subst h; exact .bl b
  | .int b, v, p, h, e => by rw [rep_int] at h; unfold toP at e; cases e; subst h; exact .int b
  | .str b, v, p, h, e => by rw [rep_str] at h; unfold toP at e; cases e; subst h; exact .str b
  | .lst ds, v, p, h, e => by
    unfold Rep at h
    obtain ⟨a, vs, rfl, _, e2, e3⟩ := h
    unfold toP at e
    obtain ⟨ps, h1, rfl⟩ := Option.map_eq_some_iff.mp e
    exact .lst (.inl (.inl e2)) (dp_ofs ds vs ps e3 h1)
  | .tup ds, v, p, h, e => by
    unfold Rep at h
    obtain ⟨a, vs, rfl, _, e2, e3⟩ := h
    unfold toP at e
    obtain ⟨ps, h1, rfl⟩ := Option.map_eq_some_iff.mp e
    exact .tup (.inl (.inl e2)) (dp_ofs ds vs ps e3 h1)
  | .scr ns, v, p, h, e => by
    obtain ⟨a, rfl, e2⟩ := scr_of h
    unfold toP at e
    cases e
    exact .lst e2 (dp_ints ns)
  | .ty n, v, p, h, e => by unfold toP at e; cases e
  | .con n, v, p, h, e => by unfold toP at e; cases e
  | .dct ks n, v, p, h, e => by unfold toP at e; cases e
  | .set n, v, p, h, e => by unfold toP at e; cases e
  | .hnd n, v, p, h, e => by unfold toP at e; cases e
theorem dp_ofs {K ad Z H} : ∀ (ds : List D) (vs : List V) (ps : List PyData), RepL K ad Z H ds vs → toPs ds = some ps → DpAll K H vs ps
  | [], vs, ps, h, e => by unfold RepL at h; subst h; unfold toPs at e; cases e; exact .nil
  | d :: ds, vs, ps, h, e => by
    unfold RepL at h
    obtain ⟨v, r, rfl, h1, h2⟩ := h
    unfold toPs at e
    split at e
    · rename_i x xs ex exs
      cases e
      exact .cons (dp_of d v x h1 ex) (dp_ofs ds r xs h2 exs)
    · cases e
end
/-- a value's data, through its cell -/
def datP (s : Sto) (d : D) : Option PyData := toP (vw s d)
theorem dp_vw {K ad Z s H d v p} (ok : StoOk K ad Z s H) (h : Rep K ad Z H d v) (e : datP s d = some p) : Dp K H v p := by
  cases hd : vw s d with
  | lst ds =>
    unfold datP at e
    rw [hd] at e
    obtain ⟨a, vs, rfl, e1, e2⟩ := lst_of ok h hd
    unfold toP at e
    obtain ⟨ps, h1, rfl⟩ := Option.map_eq_some_iff.mp e
    exact .lst (.inl (.inl e1)) (dp_ofs ds vs ps e2 h1)
  | _ =>
    cases d with
    | hnd i =>
      unfold Rep at h
      obtain ⟨a, ha, rfl⟩ := h
      obtain ⟨b, hb, c⟩ := cell_vw ok ⟨a, ha⟩ hd
      first | exact c.elim | (unfold datP at e; rw [hd] at e; unfold toP at e; cases e)
    | _ => exact dp_of _ v p h e
def gEq (neg : Bool) : Op2 := fun s x y => match datP s x, datP s y with
  | some p, some q => if SeqAt.shaped p = true ∧ SeqAt.shaped q = true then some (.bl (if neg = true then !PyData.eqv p q else PyData.eqv p q), 0) else none
  | _, _ => none
theorem o_eq (hu : X.A.units + 64 < cLine) : OpSim X (compareOp .Eq) (gEq false) := ⟨_, op_eqD hu, fun ad Z s H x y dx dy d l Q ok rx ry e q => by
  unfold gEq at e
  split at e
  · rename_i p r hp hr
    split at e
    · rename_i hs
      cases e
      exact ⟨p, r, dp_vw ok rx hp, dp_vw ok ry hr, hs.1, hs.2, q _ H (Same.refl _) (by simp) (by intro z; simp at z)⟩
    · cases e
  · cases e⟩
theorem o_ne (hu : X.A.units + 64 < cLine) : OpSim X (compareOp .NotEq) (gEq true) := ⟨_, op_neD hu, fun ad Z s H x y dx dy d l Q ok rx ry e q => by
  unfold gEq at e
  split at e
  · rename_i p r hp hr
    split at e
    · rename_i hs
      cases e
      exact ⟨p, r, dp_vw ok rx hp, dp_vw ok ry hr, hs.1, hs.2, q _ H (Same.refl _) (by simp) (by intro z; simp at z)⟩
    · cases e
  · cases e⟩
end
end FX

set_option Elab.async false
set_option linter.all false
set_option maxRecDepth 100000
namespace FX
open PySem PySem.Spec PyProof.Rows L2
open Classical

noncomputable section
variable {X : Cx} {H0 : Hp} {ad0 : List Addr} {W : WX} {a b c : Expr} {ev ea eb ec : EvE} {pos : Pos} {rest es : List Expr}
/-! ### comparisons -/
theorem sim_cmp {op : CmpOp} {g : Op2} (o : OpSim X (compareOp op) g) (ha : PE X a (tE X.K H0 ad0 W ea)) (hb : PE X b (tE X.K H0 ad0 W eb)) (hm : behindInMarks op b = false := by first | exact nobehind _ (by decide) (by decide) | rfl) :
    PE X (.Compare a [op] [b] pos) (tE X.K H0 ad0 W (eBin g ea eb)) := by
  obtain ⟨r, hr, k⟩ := sim_top (H0 := H0) (ad0 := ad0) (W := W) (ea := ea) (eb := eb) o
  exact pe_mono (pe_cmpR hr ha hb hm) k
def tst (ev : EvE) : EvT := fun e => (ev e).bind fun x s => match x.1 with | .bl b => .ok b s | _ => .bad
theorem tst_to {σ H} {Q : Bool → Hp → Prop} (h : tTs X.K H0 ad0 W (tst ev) σ H Q) : tE X.K H0 ad0 W ev σ H fun x H' => ∃ k, x = .bl k ∧ Q k H' := by
  obtain ⟨Z, ad, e, rel, h⟩ := h
  refine ⟨Z, ad, e, rel, (post_bind h).mono fun x ad1 s1 H1 ⟨st1, rel1, h1⟩ v rv _ _ => ?_⟩
  obtain ⟨d, l⟩ := x
  cases d with
  | bl k => exact ⟨k, rep_bl.mp rv, (h1 H1 ad1 .refl rel1).2.2⟩
  | _ => exact h1.elim
theorem sim_tcmp {op : CmpOp} {g : Op2} (o : OpSim X (compareOp op) g) (ha : PE X a (tE X.K H0 ad0 W ea)) (hb : PE X b (tE X.K H0 ad0 W eb)) (hm : behindInMarks op b = false := by first | exact nobehind _ (by decide) (by decide) | rfl) :
    PT X (.Compare a [op] [b] pos) (tTs X.K H0 ad0 W (tst (eBin g ea eb))) := by
  obtain ⟨r, hr, k⟩ := sim_top (H0 := H0) (ad0 := ad0) (W := W) (ea := ea) (eb := eb) o
  exact pt_mono (pt_cmpR hr ha hb hm) fun σ H Q h => k σ H _ (tst_to h)
/-- a op b op' c -/
def eChain (g g' : Op2) (a b c : EvE) : EvE := fun e => (a e).bind fun x s1 => (b ⟨e.loc, s1⟩).bind fun y s2 => (ofO (g s2 x.1 y.1) s2).bind fun t s3 => match t.1 with
  | .bl true => (c ⟨e.loc, s3⟩).bind fun z s4 => ofO (g' s4 y.1 z.1) s4
  | .bl false => .ok (.bl false, 0) s3
  | _ => .bad
theorem sim_chain {op op' : CmpOp} {g g' : Op2} (o : OpSim X (compareOp op) g) (o' : OpSim X (compareOp op') g') (ha : PE X a (tE X.K H0 ad0 W ea)) (hb : PE X b (tE X.K H0 ad0 W eb)) (hc : PE X c (tE X.K H0 ad0 W ec))
    (hm : lastMarks [op, op'] [b, c] = false := by with_unfolding_all rfl) : ∃ t, PE X (.Compare a [op, op'] [b, c] pos) t ∧ PT X (.Compare a [op, op'] [b, c] pos) (tTest t) ∧ ∀ σ H Q, tE X.K H0 ad0 W (eChain g g' ea eb ec) σ H Q → t σ H Q := by
  obtain ⟨r, hr, k⟩ := o.go
  obtain ⟨r', hr', k'⟩ := o'.go
  refine ⟨_, pe_chain hr hr' ha hb hc hm, pt_chain hr hr' ha hb hc hm, fun σ H Q h => ?_⟩
  obtain ⟨Z, ad, e, rel, h⟩ := h
  refine ⟨Z, ad, e, rel, (post_bind h).mono fun x ad1 s1 H1 ⟨st1, rel1, h1⟩ v1 rv1 _ _ => ⟨Z, ad1, ⟨e.loc, s1⟩, rel1, (post_bind h1).mono fun y ad2 s2 H2 ⟨st2, rel2, h2⟩ v2 rv2 _ _ => ?_⟩⟩
  cases q : g s2 x.1 y.1 with
  | none => rw [q] at h2; exact h2.elim
  | some z =>
    rw [q] at h2
    obtain ⟨z, l⟩ := z
    refine k ad2 Z s2 H2 v1 v2 x.1 y.1 z l _ rel2.sto (Rep.step st2 _ _ rv1) rv2 q fun v H' sm rv lv => ?_
    have relS := rel2.same sm
    have stS : Step ad2 H2 ad2 H' := .same sm
    cases z with
    | bl t =>
      refine ⟨t, rep_bl.mp rv, ?_⟩
      cases t with
      | false =>
        refine iteF ?_
        obtain ⟨_, _, _, _, f⟩ := h2 H' ad2 stS relS
        exact f (.bl false) (by simp) (by intro z; simp at z) (by intro z; simp at z)
      | true =>
        refine iteT ⟨Z, ad2, ⟨e.loc, s2⟩, relS, ?_⟩
        have h2 : post X.K H0 ad0 W ad2 Z ⟨e.loc, s2⟩ σ H2 ((ec ⟨e.loc, s2⟩).bind fun z s4 => ofO (g' s4 y.1 z.1) s4) _ := h2
        have h3 : post X.K H0 ad0 W ad2 Z ⟨e.loc, s2⟩ σ H' ((ec ⟨e.loc, s2⟩).bind fun z s4 => ofO (g' s4 y.1 z.1) s4) fun w ad3 s3 H3 => Step ad1 H1 ad3 H3 ∧ (Step ad H ad3 H3) ∧ fin X.K Z H0 H Q w ad3 s3 H3 := by
          revert h2
          generalize ((ec ⟨e.loc, s2⟩).bind fun z s4 => ofO (g' s4 y.1 z.1) s4) = rr
          intro h2
          cases rr with
          | ok w s3 =>
            intro H3 ad3 st3 rel3
            have stt := relS.tr stS st3
            obtain ⟨_, _, _, _, f⟩ := h2 H3 ad3 stt rel3
            exact ⟨rel2.tr st2 stt, rel1.tr st1 (rel2.tr st2 stt), f⟩
          | exc C fs s3 => exact fun od H3 ad3 st3 rel3 => h2 od H3 ad3 (relS.tr stS st3) rel3
          | bad => exact h2
        refine (post_bind h3).mono fun w ad3 s3 H3 ⟨st3, rel3, h4⟩ v3 rv3 _ _ => ?_
        cases q' : g' s3 y.1 w.1 with
        | none => rw [q'] at h4; exact h4.elim
        | some z' =>
          rw [q'] at h4
          refine k' ad3 Z s3 H3 v2 v3 y.1 w.1 z'.1 z'.2 Q rel3.sto (Rep.step (relS.tr stS st3) _ _ rv2) rv3 q' fun v' H4 sm' rv' lv' => ?_
          have f := (h4 H4 ad3 (.same sm') (rel3.same sm')).2.2.2.2
          refine f v' rv' (fun h1 => rel3.lv0 (lv' h1)) fun h2 => ?_
          exact (lv' (by omega)).back (rel1.tr st1 (rel2.tr st2 (relS.tr stS st3))) rel3.sto.dom
    | _ => exact h2.elim
theorem sim_pchain {op op' : CmpOp} {g g' : Op2} (o : OpSim X (compareOp op) g) (o' : OpSim X (compareOp op') g') (ha : PE X a (tE X.K H0 ad0 W ea)) (hb : PE X b (tE X.K H0 ad0 W eb)) (hc : PE X c (tE X.K H0 ad0 W ec))
    (hm : lastMarks [op, op'] [b, c] = false := by with_unfolding_all rfl) : PE X (.Compare a [op, op'] [b, c] pos) (tE X.K H0 ad0 W (eChain g g' ea eb ec)) := by
  obtain ⟨t, h1, _, k⟩ := sim_chain (H0 := H0) (ad0 := ad0) (W := W) (pos := pos) o o' ha hb hc hm
  exact pe_mono h1 k
theorem sim_tchain {op op' : CmpOp} {g g' : Op2} (o : OpSim X (compareOp op) g) (o' : OpSim X (compareOp op') g') (ha : PE X a (tE X.K H0 ad0 W ea)) (hb : PE X b (tE X.K H0 ad0 W eb)) (hc : PE X c (tE X.K H0 ad0 W ec))
    (hm : lastMarks [op, op'] [b, c] = false := by with_unfolding_all rfl) : PT X (.Compare a [op, op'] [b, c] pos) (tTs X.K H0 ad0 W (tst (eChain g g' ea eb ec))) := by
  obtain ⟨t, _, h1, k⟩ := sim_chain (H0 := H0) (ad0 := ad0) (W := W) (pos := pos) o o' ha hb hc hm
  exact pt_mono h1 fun σ H Q h => k σ H _ (tst_to h)

end
end FX

set_option Elab.async false
set_option linter.all false
set_option maxRecDepth 100000
namespace FX
open PySem PySem.Spec PyProof.Rows L2
open Classical

noncomputable section
variable {X : Cx} {H0 : Hp} {ad0 : List Addr} {W : WX} {a b c : Expr} {ev ea eb ec : EvE} {pos : Pos} {rest es : List Expr}
/-! ### truth -/
def dTru (s : Sto) (d : D) : Option Bool := match vw s d with
  | .non => some false
  | .bl b => some b
  | .int i => some (i != 0)
  | .str y => if y.length ≤ sizeLine then some ((y.length : Int) != 0) else none
  | .lst ds => some (!ds.isEmpty)
  | .tup ds => some (!ds.isEmpty)
  | .dct ks ds => some (!ks.isEmpty)
  | .scr ns => some (!ns.isEmpty)
  | _ => none
theorem isEmpty_len {α β : Type} {l : List α} {m : List β} (h : l.length = m.length) : l.isEmpty = m.isEmpty := by
  cases l <;> cases m <;> simp at h ⊢
theorem tru_lst {K ad Z s H d v ds k} (ok : StoOk K ad Z s H) (h : Rep K ad Z H d v) (hd : vw s d = .lst ds) (e : dTru s d = some k) : TruV K v H k := by
  unfold dTru at e
  rw [hd] at e; cases e
  obtain ⟨a, vs, rfl, e1, e2⟩ := lst_of ok h hd
  exact .inl ⟨vs, .inl (.inl e1), by rw [isEmpty_len (RepL.len e2)]⟩
theorem tru_dct {K ad Z s H d v ks ds k} (ok : StoOk K ad Z s H) (h : Rep K ad Z H d v) (hd : vw s d = .dct ks ds) (e : dTru s d = some k) : TruV K v H k := by
  unfold dTru at e
  rw [hd] at e; cases e
  obtain ⟨a, kvs, rfl, e1, e2, _⟩ := dct_of ok h hd
  exact .inr (.inr ⟨kvs, e1, by rw [← e2]; cases kvs <;> rfl⟩)
theorem tru_of {K ad Z s H d v k} (ok : StoOk K ad Z s H) (h : Rep K ad Z H d v) (e : dTru s d = some k) : TruV K v H k := by
  cases d with
  | lst ds => exact tru_lst ok h rfl e
  | dct ks ds => exact tru_dct ok h rfl e
  | tup ds =>
    cases (show some (!ds.isEmpty) = some k from e)
    obtain ⟨a, vs, rfl, e1, e2⟩ := tup_of h
    exact .inr (.inl ⟨vs, .inl (.inl e1), by rw [isEmpty_len (RepL.len e2)]⟩)
  | scr ns =>
    cases (show some (!ns.isEmpty) = some k from e)
    obtain ⟨a, rfl, e1⟩ := scr_of h
    exact .inl ⟨_, e1, by cases ns <;> rfl⟩
  | non => rw [rep_non] at h; subst h; cases (show some false = some k from e); rfl
  | bl b => rw [rep_bl] at h; subst h; cases (show some b = some k from e); rfl
  | int i => rw [rep_int] at h; subst h; cases (show some (i != 0) = some k from e); rfl
  | str y =>
    rw [rep_str] at h; subst h
    have e : (if y.length ≤ sizeLine then some ((y.length : Int) != 0) else none) = some k := e
    split at e
    · cases e; exact ⟨by assumption, rfl⟩
    · cases e
  | ty n => cases (show (none : Option Bool) = some k from e)
  | con n => cases (show (none : Option Bool) = some k from e)
  | set n => cases (show (none : Option Bool) = some k from e)
  | hnd i =>
    have h' := h
    unfold Rep at h'
    obtain ⟨a, ha, _⟩ := h'
    cases hd : vw s (.hnd i) with
    | lst ds => exact tru_lst ok h hd e
    | dct ks ds => exact tru_dct ok h hd e
    | set n => unfold dTru at e; rw [hd] at e; cases e
    | _ =>
      obtain ⟨b, hb, c⟩ := cell_vw ok ⟨a, ha⟩ hd
      exact c.elim
end
end FX

set_option Elab.async false
set_option linter.all false
set_option maxRecDepth 100000
namespace FX
open PySem PySem.Spec PyProof.Rows L2
open Classical

noncomputable section
variable {X : Cx} {H0 : Hp} {ad0 : List Addr} {W : WX} {a b c : Expr} {ev ea eb ec : EvE} {pos : Pos} {rest es : List Expr}
def tru (ev : EvE) : EvT := fun e => (ev e).bind fun x s => ofO (dTru s x.1) s
theorem sim_tru (ha : PE X a (tE X.K H0 ad0 W ea)) (he : ∀ whole, isTrue a X.env whole = (do let v ← whole; standAt a.pos; holding [v] (truthy v)) := by exact fun _ => rfl) : PT X a (tTs X.K H0 ad0 W (tru ea)) := by
  refine pt_mono (pt_truth ha he) fun σ H Q ⟨Z, ad, e, rel, h⟩ => ⟨Z, ad, e, rel, (post_bind h).mono fun x ad1 s1 H1 ⟨st1, rel1, h1⟩ v rv _ _ => ?_⟩
  cases q : dTru s1 x.1 with
  | none => rw [q] at h1; exact h1.elim
  | some k => rw [q] at h1; exact ⟨k, tru_of rel1.sto rv q, (h1 H1 ad1 .refl rel1).2.2⟩
def tAndS (a b : EvT) : EvT := fun e => (a e).bind fun c s1 => if c = true then b ⟨e.loc, s1⟩ else .ok false s1
def tOrS (a b : EvT) : EvT := fun e => (a e).bind fun c s1 => if c = true then .ok true s1 else b ⟨e.loc, s1⟩
def tNotS (a : EvT) : EvT := fun e => (a e).bind fun c s1 => .ok (!c) s1
variable {ta tb : EvT}
theorem pw_mono {X : Cx} {e : Expr} {t t' : TT} (h : PW X e t) (m : ∀ σ H Q, t' σ H Q → t σ H Q) : PW X e t' := ⟨fun w p s σ H Q I q => h.run w p s σ H Q I (m σ H Q q)⟩
theorem swp_and1 (ha : PT X a (tTs X.K H0 ad0 W ta)) : PW X (.BoolOp .And [a] pos) (tTs X.K H0 ad0 W ta) := pw_and1 ha
theorem swp_or1 (ha : PT X a (tTs X.K H0 ad0 W ta)) : PW X (.BoolOp .Or [a] pos) (tTs X.K H0 ad0 W ta) := pw_or1 ha
theorem swp_and (ha : PT X a (tTs X.K H0 ad0 W ta)) (hb : PW X (.BoolOp .And (b :: rest) pos) (tTs X.K H0 ad0 W tb)) : PW X (.BoolOp .And (a :: b :: rest) pos) (tTs X.K H0 ad0 W (tAndS ta tb)) := by
  refine pw_mono (pw_and ha hb) fun σ H Q ⟨Z, ad, e, rel, h⟩ => ⟨Z, ad, e, rel, (post_bind h).mono fun x ad1 s1 H1 ⟨st1, rel1, h1⟩ => ?_⟩
  cases x with
  | true => exact iteT ⟨Z, ad1, _, rel1, (show post X.K H0 ad0 W ad1 Z ⟨e.loc, s1⟩ σ H1 (tb ⟨e.loc, s1⟩) _ from h1).mono fun _ _ _ _ z => z.2.2⟩
  | false => exact iteF (h1 H1 ad1 .refl rel1).2.2
theorem swp_or (ha : PT X a (tTs X.K H0 ad0 W ta)) (hb : PW X (.BoolOp .Or (b :: rest) pos) (tTs X.K H0 ad0 W tb)) : PW X (.BoolOp .Or (a :: b :: rest) pos) (tTs X.K H0 ad0 W (tOrS ta tb)) := by
  refine pw_mono (pw_or ha hb) fun σ H Q ⟨Z, ad, e, rel, h⟩ => ⟨Z, ad, e, rel, (post_bind h).mono fun x ad1 s1 H1 ⟨st1, rel1, h1⟩ => ?_⟩
  cases x with
  | false => exact iteF ⟨Z, ad1, _, rel1, (show post X.K H0 ad0 W ad1 Z ⟨e.loc, s1⟩ σ H1 (tb ⟨e.loc, s1⟩) _ from h1).mono fun _ _ _ _ z => z.2.2⟩
  | true => exact iteT (h1 H1 ad1 .refl rel1).2.2
theorem sim_tnot (ha : PT X a (tTs X.K H0 ad0 W ta)) : PT X (.UnaryOp .Not a pos) (tTs X.K H0 ad0 W (tNotS ta)) :=
  pt_mono (pt_not ha) fun σ H Q ⟨Z, ad, e, rel, h⟩ => ⟨Z, ad, e, rel, (post_bind h).mono fun x ad1 s1 H1 ⟨st1, rel1, h1⟩ => (h1 H1 ad1 .refl rel1).2.2⟩
/-! ### and, or, not as values; a if c else b -/
def eAnd (a b : EvE) : EvE := fun e => (a e).bind fun x s1 => (ofO (dTru s1 x.1) s1).bind fun t s2 => if t = true then b ⟨e.loc, s2⟩ else .ok (x.1, min x.2 1) s2
def eOr (a b : EvE) : EvE := fun e => (a e).bind fun x s1 => (ofO (dTru s1 x.1) s1).bind fun t s2 => if t = true then .ok (x.1, min x.2 1) s2 else b ⟨e.loc, s2⟩
theorem sim_one {op : BoolOp} {t : TE} (h : PE X a t) : PE X (.BoolOp op [a] pos) t := pe_one h
theorem fin_later {ad Z H ad1 H1 Q} {x : D × Nat} {ad2 s2 H2} (st : Step ad H ad1 H1) (dom : ∀ z ∈ ad1, ∃ o, H1 z = some o) (h : fin X.K Z H0 H Q x ad2 s2 H2) : fin X.K Z H0 H1 Q x ad2 s2 H2 := fun v rv l1 l2 => h v rv l1 fun z => (l2 z).back st dom
theorem sim_and (ha : PE X a (tE X.K H0 ad0 W ea)) (hb : PE X (.BoolOp .And (b :: rest) pos) (tE X.K H0 ad0 W eb)) : PE X (.BoolOp .And (a :: b :: rest) pos) (tE X.K H0 ad0 W (eAnd ea eb)) := by
  refine pe_mono (pe_andT ha hb) fun σ H Q ⟨Z, ad, e, rel, h⟩ => ⟨Z, ad, e, rel, (post_bind h).mono fun x ad1 s1 H1 ⟨st1, rel1, h1⟩ v rv l1 l2 => ?_⟩
  cases q : dTru s1 x.1 with
  | none => rw [q] at h1; exact h1.elim
  | some k =>
    rw [q] at h1
    refine ⟨k, tru_of rel1.sto rv q, ?_⟩
    cases k with
    | true => exact iteT ⟨Z, ad1, ⟨e.loc, s1⟩, rel1, (show post X.K H0 ad0 W ad1 Z ⟨e.loc, s1⟩ σ H1 (eb ⟨e.loc, s1⟩) _ from h1).mono fun _ _ _ _ z => fin_later st1 rel1.sto.dom z.2.2⟩
    | false => exact iteF ((h1 H1 ad1 .refl rel1).2.2 v rv (fun z => l1 (by have : 1 ≤ min x.2 1 := z; omega)) fun z => by have : 2 ≤ min x.2 1 := z; omega)
theorem sim_or (ha : PE X a (tE X.K H0 ad0 W ea)) (hb : PE X (.BoolOp .Or (b :: rest) pos) (tE X.K H0 ad0 W eb)) : PE X (.BoolOp .Or (a :: b :: rest) pos) (tE X.K H0 ad0 W (eOr ea eb)) := by
  refine pe_mono (pe_orT ha hb) fun σ H Q ⟨Z, ad, e, rel, h⟩ => ⟨Z, ad, e, rel, (post_bind h).mono fun x ad1 s1 H1 ⟨st1, rel1, h1⟩ v rv l1 l2 => ?_⟩
  cases q : dTru s1 x.1 with
  | none => rw [q] at h1; exact h1.elim
  | some k =>
    rw [q] at h1
    refine ⟨k, tru_of rel1.sto rv q, ?_⟩
    cases k with
    | false => exact iteF ⟨Z, ad1, ⟨e.loc, s1⟩, rel1, (show post X.K H0 ad0 W ad1 Z ⟨e.loc, s1⟩ σ H1 (eb ⟨e.loc, s1⟩) _ from h1).mono fun _ _ _ _ z => fin_later st1 rel1.sto.dom z.2.2⟩
    | true => exact iteT ((h1 H1 ad1 .refl rel1).2.2 v rv (fun z => l1 (by have : 1 ≤ min x.2 1 := z; omega)) fun z => by have : 2 ≤ min x.2 1 := z; omega)
def eNot (a : EvE) : EvE := fun e => (a e).bind fun x s1 => (ofO (dTru s1 x.1) s1).bind fun t s2 => .ok (.bl (!t), 0) s2
theorem sim_not (ha : PE X a (tE X.K H0 ad0 W ea)) : PE X (.UnaryOp .Not a pos) (tE X.K H0 ad0 W (eNot ea)) := by
  refine pe_mono (pe_notT ha) fun σ H Q ⟨Z, ad, e, rel, h⟩ => ⟨Z, ad, e, rel, (post_bind h).mono fun x ad1 s1 H1 ⟨st1, rel1, h1⟩ v rv l1 l2 => ?_⟩
  cases q : dTru s1 x.1 with
  | none => rw [q] at h1; exact h1.elim
  | some k =>
    rw [q] at h1
    exact ⟨k, tru_of rel1.sto rv q, (h1 H1 ad1 .refl rel1).2.2 _ (by simp) (by intro z; simp at z) (by intro z; simp at z)⟩
def eIf (c : EvT) (a b : EvE) : EvE := fun e => (c e).bind fun t s1 => if t = true then a ⟨e.loc, s1⟩ else b ⟨e.loc, s1⟩
theorem sim_ifE (hc : PT X c (tTs X.K H0 ad0 W ta)) (ha : PE X a (tE X.K H0 ad0 W ea)) (hb : PE X b (tE X.K H0 ad0 W eb)) : PE X (.IfExp c a b pos) (tE X.K H0 ad0 W (eIf ta ea eb)) := by
  refine pe_mono (pe_ifExp hc ha hb) fun σ H Q ⟨Z, ad, e, rel, h⟩ => ⟨Z, ad, e, rel, (post_bind h).mono fun x ad1 s1 H1 ⟨st1, rel1, h1⟩ => ?_⟩
  cases x with
  | true => exact iteT ⟨Z, ad1, ⟨e.loc, s1⟩, rel1, (show post X.K H0 ad0 W ad1 Z ⟨e.loc, s1⟩ σ H1 (ea ⟨e.loc, s1⟩) _ from h1).mono fun _ _ _ _ z => fin_later st1 rel1.sto.dom z.2.2⟩
  | false => exact iteF ⟨Z, ad1, ⟨e.loc, s1⟩, rel1, (show post X.K H0 ad0 W ad1 Z ⟨e.loc, s1⟩ σ H1 (eb ⟨e.loc, s1⟩) _ from h1).mono fun _ _ _ _ z => fin_later st1 rel1.sto.dom z.2.2⟩

/-! ### is -/
def gIs (neg : Bool) : Op2 := fun _ x y => match x, y with
  | .bl a, .bl b => some (.bl (if neg = true then !decide (a = b) else decide (a = b)), 0)
  | _, _ => none
theorem o_isB : OpSim X (compareOp .Is) (gIs false) := ⟨_, op_isBl, fun ad Z s H x y dx dy d l Q ok rx ry e q => by
  unfold gIs at e
  split at e
  · rename_i a b
    cases e
    exact ⟨a, b, rep_bl.mp rx, rep_bl.mp ry, q _ H (Same.refl _) (by simp) (by intro z; simp at z)⟩
  · cases e⟩
theorem o_notB : OpSim X (compareOp .IsNot) (gIs true) := ⟨_, op_notBl, fun ad Z s H x y dx dy d l Q ok rx ry e q => by
  unfold gIs at e
  split at e
  · rename_i a b
    cases e
    exact ⟨a, b, rep_bl.mp rx, rep_bl.mp ry, q _ H (Same.refl _) (by simp) (by intro z; simp at z)⟩
  · cases e⟩
def isNon : D → Bool | .non => true | _ => false
theorem isNon_rep {K ad Z H d v} (h : Rep K ad Z H d v) : decide (v = V.non) = isNon d := by
  cases d with
  | non => rw [rep_non] at h; subst h; rfl
  | bl b => rw [rep_bl] at h; subst h; rfl
  | int b => rw [rep_int] at h; subst h; rfl
  | str b => rw [rep_str] at h; subst h; rfl
  | ty b => rw [rep_ty] at h; subst h; rfl
  | con b => rw [rep_con] at h; subst h; rfl
  | lst b => unfold Rep at h; obtain ⟨a, vs, rfl, _⟩ := h; rfl
  | tup b => unfold Rep at h; obtain ⟨a, vs, rfl, _⟩ := h; rfl
  | dct k b => unfold Rep at h; obtain ⟨a, vs, rfl, _⟩ := h; rfl
  | set b => unfold Rep at h; obtain ⟨a, vs, rfl, _⟩ := h; rfl
  | hnd b => unfold Rep at h; obtain ⟨a, _, rfl⟩ := h; rfl
  | scr b => unfold Rep at h; obtain ⟨a, rfl, _⟩ := h; rfl
def gIsN (neg : Bool) : Op2 := fun _ x y => match y with
  | .non => some (.bl (if neg = true then !isNon x else isNon x), 0)
  | _ => none
theorem o_isN : OpSim X (compareOp .Is) (gIsN false) := ⟨_, op_isN, fun ad Z s H x y dx dy d l Q ok rx ry e q => by
  unfold gIsN at e
  split at e
  · cases e
    exact ⟨rep_non.mp ry, q _ H (Same.refl _) (by rw [isNon_rep rx]; simp) (by intro z; simp at z)⟩
  · cases e⟩
theorem o_notN : OpSim X (compareOp .IsNot) (gIsN true) := ⟨_, op_notN, fun ad Z s H x y dx dy d l Q ok rx ry e q => by
  unfold gIsN at e
  split at e
  · cases e
    exact ⟨rep_non.mp ry, q _ H (Same.refl _) (by rw [isNon_rep rx]; simp) (by intro z; simp at z)⟩
  · cases e⟩
def gIsA (neg : Bool) : Op2 := gOr (gIsN neg) (gIs neg)
theorem o_is : OpSim X (compareOp .Is) (gIsA false) := o_isN.or o_isB
theorem o_isnot : OpSim X (compareOp .IsNot) (gIsA true) := o_notN.or o_notB
end
end FX

set_option Elab.async false
set_option linter.all false
set_option maxRecDepth 100000
namespace FX
open PySem PySem.Spec PyProof.Rows L2
open Classical

noncomputable section
variable {X : Cx} {H0 : Hp} {ad0 : List Addr} {W : WX} {a b c e1 : Expr} {ev ea eb ec : EvE} {pos : Pos} {rest es : List Expr} {as : EvA}
/-! ### arguments, displays -/
def aNilE : EvA := fun e => .ok [] e.sto
def aConsE (a : EvE) (r : EvA) : EvA := fun e => (a e).bind fun x s1 => (r ⟨e.loc, s1⟩).bind fun ds s2 => .ok (x.1 :: ds) s2
theorem sim_anil : PA X [] (tAr X.K H0 ad0 W aNilE) := pa_mono pa_nil fun σ H Q ⟨Z, ad, e, rel, h⟩ => h H ad .refl rel [] (by unfold RepL; rfl)
theorem sim_acons (ha : PE X a (tE X.K H0 ad0 W ea)) (hr : PA X es (tAr X.K H0 ad0 W as)) (hs : starEach (a :: es) X.env = (false, eval a X.env) :: starEach es X.env := by rfl) : PA X (a :: es) (tAr X.K H0 ad0 W (aConsE ea as)) := by
  refine pa_mono (pa_cons ha hr hs) fun σ H Q ⟨Z, ad, e, rel, h⟩ => ⟨Z, ad, e, rel, (post_bind h).mono fun x ad1 s1 H1 ⟨st1, rel1, h1⟩ v rv _ _ => ⟨Z, ad1, ⟨e.loc, s1⟩, rel1, (post_bind h1).mono fun ds ad2 s2 H2 ⟨st2, rel2, h2⟩ vs rvs => ?_⟩⟩
  refine (h2 H2 ad2 .refl rel2).2.2.2.2 (v :: vs) ?_
  unfold RepL
  exact ⟨v, vs, rfl, Rep.step st2 _ _ rv, rvs⟩
def eLst (as : EvA) : EvE := fun e => (as e).bind fun ds s1 => if ds.length ≤ sizeLine then .ok (.lst ds, 2) s1 else .bad
def eTup (as : EvA) : EvE := fun e => (as e).bind fun ds s1 => if ds.length ≤ sizeLine then .ok (.tup ds, 2) s1 else .bad
theorem sim_lst (h : PA X es (tAr X.K H0 ad0 W as)) : PE X (.List es pos) (tE X.K H0 ad0 W (eLst as)) := by
  refine pe_mono (pe_lst h) fun σ H Q ⟨Z, ad, e, rel, h⟩ => ⟨Z, ad, e, rel, (post_bind h).mono fun ds ad1 s1 H1 ⟨st1, rel1, h1⟩ vs rvs => ?_⟩
  by_cases hz : ds.length ≤ sizeLine
  · rw [if_pos hz] at h1
    refine ⟨by rw [← RepL.len rvs]; exact hz, fun p np => ?_⟩
    exact (h1 _ ad1 (.same (same_upd np)) (rel1.same (same_upd np))).2.2 _ (rep_new_lst rel1.sto np rvs) (fun _ => rel1.lv0 (lv_ref np)) fun _ => (lv_ref np).back st1 rel1.sto.dom
  · rw [if_neg hz] at h1; exact h1.elim
theorem sim_tup {k} (h : PA X es (tAr X.K H0 ad0 W as)) : PE X (.Tuple es k pos) (tE X.K H0 ad0 W (eTup as)) := by
  refine pe_mono (pe_tup h) fun σ H Q ⟨Z, ad, e, rel, h⟩ => ⟨Z, ad, e, rel, (post_bind h).mono fun ds ad1 s1 H1 ⟨st1, rel1, h1⟩ vs rvs => ?_⟩
  by_cases hz : ds.length ≤ sizeLine
  · rw [if_pos hz] at h1
    refine ⟨by rw [← RepL.len rvs]; exact hz, fun p np => ?_⟩
    exact (h1 _ ad1 (.same (same_upd np)) (rel1.same (same_upd np))).2.2 _ (rep_new_tup rel1.sto np rvs) (fun _ => rel1.lv0 (lv_ref np)) fun _ => (lv_ref np).back st1 rel1.sto.dom
  · rw [if_neg hz] at h1; exact h1.elim

/-! ### subscripts -/
def gIx : Op2 := fun s x y => match y with
  | .int i => match vw s x with
    | .lst ds => (atI ds i).map fun d => (d, 0)
    | .tup ds => (atI ds i).map fun d => (d, 0)
    | .scr ns => (atI ns i).map fun n => (.int n, 0)
    | _ => none
  | _ => none
theorem RepL.at {K ad Z H ds vs i d} (r : RepL K ad Z H ds vs) (h : atI ds i = some d) : ∃ v, atI vs i = some v ∧ Rep K ad Z H d v := by
  unfold atI at h ⊢
  rw [← RepL.len r]
  cases q : ixN ds.length i with
  | none => rw [q] at h; cases h
  | some j => rw [q] at h; exact RepL.get r h
theorem atI_map {α β : Type} {f : α → β} {xs : List α} {i : Int} {x : α} (h : atI xs i = some x) : atI (xs.map f) i = some (f x) := by
  unfold atI at h ⊢
  rw [List.length_map]
  cases q : ixN xs.length i with
  | none => rw [q] at h; cases h
  | some j =>
    rw [q] at h
    have h : xs[j]? = some x := h
    show (xs.map f)[j]? = _
    rw [List.getElem?_map, h]; rfl
theorem sim_ix (ha : PE X a (tE X.K H0 ad0 W ea)) (hb : PE X b (tE X.K H0 ad0 W eb)) (hs : PlainIx b := by exact fun _ _ => rfl) : PE X (.Subscript a b pos) (tE X.K H0 ad0 W (eBin gIx ea eb)) := by
  refine pe_mono (pe_ix ix_seq ha hb hs) fun σ H Q ⟨Z, ad, e, rel, h⟩ => ⟨Z, ad, e, rel, (post_bind h).mono fun x ad1 s1 H1 ⟨st1, rel1, h1⟩ v1 rv1 _ _ => ⟨Z, ad1, ⟨e.loc, s1⟩, rel1, (post_bind h1).mono fun y ad2 s2 H2 ⟨st2, rel2, h2⟩ v2 rv2 _ _ => ?_⟩⟩
  have rv1 := Rep.step st2 _ _ rv1
  cases q : gIx s2 x.1 y.1 with
  | none => rw [q] at h2; exact h2.elim
  | some z =>
    rw [q] at h2
    obtain ⟨d, l⟩ := z
    have key : l = 0 → ∀ v, Rep X.K ad2 Z H2 d v → Q v H2 := fun hl v rv => by
      subst hl
      exact (h2 H2 ad2 .refl rel2).2.2.2.2 v rv (by intro z; simp at z) (by intro z; simp at z)
    unfold gIx at q
    split at q
    · rename_i i hy
      rw [hy] at rv2
      split at q
      · rename_i ds hd
        obtain ⟨d', hd', q⟩ := Option.map_eq_some_iff.mp q
        cases q
        obtain ⟨p, vs, rfl, e1, e2⟩ := lst_of rel2.sto rv1 hd
        obtain ⟨w, hw, rw'⟩ := RepL.at e2 hd'
        exact .inl ⟨p, vs, i, w, rfl, rep_int.mp rv2, .inl (.inl e1), hw, key rfl w rw'⟩
      · rename_i ds hd
        obtain ⟨d', hd', q⟩ := Option.map_eq_some_iff.mp q
        cases q
        rw [vw_tup rel2.sto rv1 hd] at rv1
        obtain ⟨p, vs, rfl, e1, e2⟩ := tup_of rv1
        obtain ⟨w, hw, rw'⟩ := RepL.at e2 hd'
        exact .inr (.inl ⟨p, vs, i, w, rfl, rep_int.mp rv2, .inl (.inl e1), hw, key rfl w rw'⟩)
      · rename_i ns hd
        obtain ⟨n, hn, q⟩ := Option.map_eq_some_iff.mp q
        cases q
        rw [vw_scr rel2.sto rv1 hd] at rv1
        obtain ⟨p, rfl, e1⟩ := scr_of rv1
        exact .inl ⟨p, _, i, .int n, rfl, rep_int.mp rv2, e1, atI_map hn, key rfl _ (by simp)⟩
      · cases q
    · cases q
/-! ### slices -/
abbrev EvO := En → R (Option Int)
def tOs (K : PySem.W.Frag) (H0 : Hp) (ad0 : List Addr) (W : WX) (ev : EvO) : TO := fun σ H Q => ∃ Z ad e, Rel K H0 ad0 ad Z e σ H ∧ post K H0 ad0 W ad Z e σ H (ev e) fun o _ _ H' => Q o H'
theorem po_mono {X : Cx} {e : Option Expr} {t t' : TO} (h : PO X e t) (m : ∀ σ H Q, t' σ H Q → t σ H Q) : PO X e t' := ⟨fun p s σ H Q I q => h.run p s σ H Q I (m σ H Q q)⟩
def oNo : EvO := fun e => .ok none e.sto
def oSome (ev : EvE) : EvO := fun e => (ev e).bind fun x s1 => match x.1 with | .int i => .ok (some i) s1 | _ => .bad
theorem sim_ono : PO X none (tOs X.K H0 ad0 W oNo) := po_mono po_none fun σ H Q ⟨Z, ad, e, rel, h⟩ => h H ad .refl rel
theorem sim_osome (ha : PE X a (tE X.K H0 ad0 W ea)) : PO X (some a) (tOs X.K H0 ad0 W (oSome ea)) := by
  refine po_mono (po_some ha) fun σ H Q ⟨Z, ad, e, rel, h⟩ => ⟨Z, ad, e, rel, (post_bind h).mono fun x ad1 s1 H1 ⟨st1, rel1, h1⟩ v rv _ _ => ?_⟩
  obtain ⟨d, l⟩ := x
  cases d with
  | int i => exact ⟨i, rep_int.mp rv, (h1 H1 ad1 .refl rel1).2.2⟩
  | _ => exact h1.elim
def cutD (xs : List D) (lo hi : Option Int) : List D := (xs.drop (HT.sIx xs.length 0 lo)).take (HT.sIx xs.length xs.length hi - HT.sIx xs.length 0 lo)
def eSl (a : EvE) (lo hi : EvO) : EvE := fun e => (a e).bind fun x s1 => (lo ⟨e.loc, s1⟩).bind fun l s2 => (hi ⟨e.loc, s2⟩).bind fun u s3 => match vw s3 x.1 with
  | .lst ds => .ok (.lst (cutD ds l u), 2) s3
  | _ => .bad
theorem sim_slice {lo hi : Option Expr} {el eh : EvO} {p2 : Pos} (ha : PE X a (tE X.K H0 ad0 W ea)) (hl : PO X lo (tOs X.K H0 ad0 W el)) (hh : PO X hi (tOs X.K H0 ad0 W eh)) : PE X (.Subscript a (.Slice lo hi none p2) pos) (tE X.K H0 ad0 W (eSl ea el eh)) := by
  refine pe_mono (pe_slice sl_list ha hl hh) fun σ H Q ⟨Z, ad, e, rel, h⟩ => ⟨Z, ad, e, rel, (post_bind h).mono fun x ad1 s1 H1 ⟨st1, rel1, h1⟩ v rv _ _ => ⟨Z, ad1, ⟨e.loc, s1⟩, rel1, (post_bind h1).mono fun l ad2 s2 H2 ⟨st2, rel2, h2⟩ => ⟨Z, ad2, ⟨e.loc, s2⟩, rel2, (post_bind h2).mono fun u ad3 s3 H3 ⟨st3, rel3, h3⟩ => ?_⟩⟩⟩
  have h3 : post X.K H0 ad0 W ad3 Z ⟨e.loc, s3⟩ σ H3 (match vw s3 x.1 with | .lst ds => .ok (D.lst (cutD ds l u), 2) s3 | _ => .bad) _ := h3
  have st23 := rel2.tr st2 st3
  have rv := Rep.step st23 _ _ rv
  split at h3
  · rename_i ds hd
    obtain ⟨p, vs, rfl, e1, e2⟩ := lst_of rel3.sto rv hd
    refine ⟨p, vs, rfl, .inl (.inl e1), fun q nq => ?_⟩
    have sm := same_upd (o := HO.lst (cutV vs l u)) nq
    refine (h3 _ ad3 (.same sm) (rel3.same sm)).2.2.2.2.2.2 _ (rep_new_lst rel3.sto nq ?_) (fun _ => rel3.lv0 (lv_ref nq)) fun _ => (lv_ref nq).back (rel1.tr st1 st23) rel3.sto.dom
    unfold cutD cutV
    rw [RepL.len e2]
    exact RepL.take _ (RepL.drop _ e2)
  · exact h3.elim

/-! ### calls of built-ins -/
abbrev OpN := Sto → List D → Option (D × Nat)
structure CallSim (X : Cx) (f : Value) (g : OpN) : Prop where
  go : ∃ r, CallR X f r ∧ ∀ (ad Z : List Addr) (s : Sto) (H : Hp) (ds : List D) (vs : List V) (d : D) (l : Nat) (Q : VK), StoOk X.K ad Z s H → RepL X.K ad Z H ds vs → g s ds = some (d, l) →
    (∀ v H', Same H H' → Rep X.K ad Z H' d v → (1 ≤ l → Lv H v) → Q v H') → r vs H Q
def nOr (g g' : OpN) : OpN := fun s ds => match g s ds with | some r => some r | none => g' s ds
theorem CallSim.or {f g g'} (h : CallSim X f g) (h' : CallSim X f g') : CallSim X f (nOr g g') := by
  obtain ⟨r, hr, k⟩ := h.go
  obtain ⟨r', hr', k'⟩ := h'.go
  refine ⟨_, hr.or hr', fun ad Z s H ds vs d l Q ok rv e q => ?_⟩
  unfold nOr at e
  cases q1 : g s ds with
  | some z =>
    rw [q1] at e
    exact .inl (k ad Z s H ds vs d l Q ok rv (by rw [q1]; exact e) q)
  | none =>
    rw [q1] at e
    exact .inr (k' ad Z s H ds vs d l Q ok rv e q)
def eCB (g : OpN) (as : EvA) : EvE := fun e => (as e).bind fun ds s1 => ofO (g s1 ds) s1
theorem cb_to {g : OpN} {f : Value} (o : CallSim X f g) : ∃ r, CallR X f r ∧ ∀ σ H Q, tE X.K H0 ad0 W (eCB g as) σ H Q → tCB r (tAr X.K H0 ad0 W as) σ H Q := by
  obtain ⟨r, hr, k⟩ := o.go
  refine ⟨r, hr, fun σ H Q ⟨Z, ad, e, rel, h⟩ => ⟨Z, ad, e, rel, (post_bind h).mono fun ds ad1 s1 H1 ⟨st1, rel1, h1⟩ vs rvs => ?_⟩⟩
  cases q : g s1 ds with
  | none => rw [q] at h1; exact h1.elim
  | some z =>
    rw [q] at h1
    exact k ad1 Z s1 H1 ds vs z.1 z.2 Q rel1.sto rvs q fun v H' sm rv lv => (h1 H' ad1 (.same sm) (rel1.same sm)).2.2 v rv (fun h => rel1.lv0 (lv h)) fun h => (lv (by omega)).back st1 rel1.sto.dom
theorem sim_callB {g : OpN} {x : Str} {id : String} {p : Pos} (o : CallSim X (.builtin id) g) (hg : Gl X x) (hm : X.mg x = none) (hv : bootBuiltins x = some (.builtin id)) (ha : PA X (a :: es) (tAr X.K H0 ad0 W as)) (hn : x ≠ "__name__" := by decide) (hdb : (x == ("__debug__" : Str)) = false := by decide)
    (he : starEach (a :: es) X.env = (false, eval a X.env) :: starEach es X.env := by rfl) (hpl : (backTo pos (starEach es X.env)).any (·.1) = false := by rfl) : PE X (.Call (.Name x p) (a :: es) [] pos) (tE X.K H0 ad0 W (eCB g as)) := by
  obtain ⟨r, hr, k⟩ := cb_to (H0 := H0) (ad0 := ad0) (W := W) (as := as) o
  exact pe_mono (pe_callB hr hg hm hv ha hn hdb he hpl) k
theorem sim_callTy {g : OpN} {x : Str} {T : String} {p : Pos} (o : CallSim X (.type T) g) (hg : Gl X x) (hm : X.mg x = none) (hv : bootBuiltins x = some (.type T)) (ha : PA X (a :: es) (tAr X.K H0 ad0 W as)) (hn : x ≠ "__name__" := by decide) (hdb : (x == ("__debug__" : Str)) = false := by decide)
    (he : starEach (a :: es) X.env = (false, eval a X.env) :: starEach es X.env := by rfl) (hpl : (backTo pos (starEach es X.env)).any (·.1) = false := by rfl) : PE X (.Call (.Name x p) (a :: es) [] pos) (tE X.K H0 ad0 W (eCB g as)) := by
  obtain ⟨r, hr, k⟩ := cb_to (H0 := H0) (ad0 := ad0) (W := W) (as := as) o
  exact pe_mono (pe_callTy hr hg hm hv ha hn hdb he hpl) k
def nLen : OpN := fun s ds => match ds with
  | [x] => match vw s x with
    | .lst xs => some (.int xs.length, 0)
    | .tup xs => some (.int xs.length, 0)
    | .scr ns => some (.int ns.length, 0)
    | .str y => if y.length ≤ sizeLine then some (.int y.length, 0) else none
    | _ => none
  | _ => none
theorem c_len : CallSim X (.builtin "len") nLen := ⟨_, call_len, fun ad Z s H ds vs d l Q ok rv e q => by
  unfold nLen at e
  split at e
  · rename_i x
    obtain ⟨v, rfl, hv⟩ := repL1 rv
    split at e
    · rename_i xs hx
      cases e
      obtain ⟨a, ws, rfl, e1, e2⟩ := lst_of ok hv hx
      exact ⟨_, ws.length, rfl, .inl ⟨ws, .inl (.inl e1), rfl⟩, q _ H (Same.refl _) (by simp [RepL.len e2]) (by intro z; simp at z)⟩
    · rename_i xs hx
      cases e
      rw [vw_tup ok hv hx] at hv
      obtain ⟨a, ws, rfl, e1, e2⟩ := tup_of hv
      exact ⟨_, ws.length, rfl, .inr ⟨ws, .inl (.inl e1), rfl⟩, q _ H (Same.refl _) (by simp [RepL.len e2]) (by intro z; simp at z)⟩
    · rename_i ns hx
      cases e
      rw [vw_scr ok hv hx] at hv
      obtain ⟨a, rfl, e1⟩ := scr_of hv
      exact ⟨_, (ns.map V.int).length, rfl, .inl ⟨_, e1, rfl⟩, q _ H (Same.refl _) (by simp) (by intro z; simp at z)⟩
    · rename_i y hx
      have hx' : x = .str y := by
        cases x with
        | hnd i =>
          unfold Rep at hv
          obtain ⟨a, ha, _⟩ := hv
          obtain ⟨b, hb, c⟩ := cell_vw ok ⟨a, ha⟩ hx
          exact c.elim
        | _ => exact hx
      split at e
      · rename_i hz
        cases e
        rw [hx', rep_str] at hv
        subst hv
        exact ⟨.str y, y.length, rfl, ⟨hz, rfl⟩, q _ H (Same.refl _) (by simp) (by intro z; simp at z)⟩
      · cases e
    · cases e
  · cases e⟩
def ofInts : List D → Option (List Int)
  | [] => some []
  | .int i :: r => (ofInts r).map (i :: ·)
  | _ => none
theorem ofInts_eq : ∀ {ds : List D} {ns : List Int}, ofInts ds = some ns → ds = ns.map .int
  | [], ns, h => by unfold ofInts at h; cases h; rfl
  | d :: r, ns, h => by
    cases d with
    | int i =>
      unfold ofInts at h
      obtain ⟨m, h1, rfl⟩ := Option.map_eq_some_iff.mp h
      rw [ofInts_eq h1]; rfl
    | _ => unfold ofInts at h; cases h
theorem ofInts_map : ∀ ns : List Int, ofInts (ns.map .int) = some ns
  | [] => rfl
  | n :: r => by show (ofInts (r.map .int)).map (n :: ·) = _; rw [ofInts_map r]; rfl
theorem RepL.ints {K ad Z H} : ∀ {ns : List Int} {vs : List V}, RepL K ad Z H (ns.map D.int) vs → vs = ns.map V.int
  | [], vs, h => by
    have h : RepL K ad Z H [] vs := h
    unfold RepL at h; exact h
  | n :: r, vs, h => by
    have h : RepL K ad Z H (.int n :: r.map D.int) vs := h
    unfold RepL at h
    obtain ⟨v, w, rfl, h1, h2⟩ := h
    rw [rep_int.mp h1, RepL.ints h2]; rfl
/-- the ints of one list -/
def nIntsOf (s : Sto) (ds : List D) : Option (List Int) := match ds with
  | [x] => match vw s x with
    | .lst xs => ofInts xs
    | _ => none
  | _ => none
theorem intsOf_rep {K ad Z s H ds vs ns} (ok : StoOk K ad Z s H) (rv : RepL K ad Z H ds vs) (e : nIntsOf s ds = some ns) : ∃ a, vs = [.ref a] ∧ H a = some (.lst (ns.map V.int)) := by
  unfold nIntsOf at e
  split at e
  · obtain ⟨v, rfl, hv⟩ := repL1 rv
    split at e
    · rename_i xs hx
      obtain ⟨a, ws, rfl, e1, e2⟩ := lst_of ok hv hx
      rw [ofInts_eq e] at e2
      rw [RepL.ints e2] at e1
      exact ⟨a, rfl, e1⟩
    · cases e
  · cases e
def nSum : OpN := fun s ds => (nIntsOf s ds).map fun ns => (.int ns.sum, 0)
theorem c_sum (h : CallR X (.builtin "sum") (rSum X.K)) : CallSim X (.builtin "sum") nSum := ⟨_, h, fun ad Z s H ds vs d l Q ok rv e q => by
  obtain ⟨ns, h1, e⟩ := Option.map_eq_some_iff.mp e
  cases e
  obtain ⟨a, rfl, e1⟩ := intsOf_rep ok rv h1
  exact ⟨a, ns, rfl, .inl (.inl e1), q _ H (Same.refl _) (by simp) (by intro z; simp at z)⟩⟩
def two (f : Int → Int → Int) : OpN := fun _ ds => match ds with | [.int i, .int j] => some (.int (f i j), 0) | _ => none
theorem two_some {f s ds d l} (e : two f s ds = some (d, l)) : ∃ i j, ds = [.int i, .int j] ∧ d = .int (f i j) ∧ l = 0 := by
  unfold two at e
  split at e
  · rename_i i j
    cases e; exact ⟨i, j, rfl, rfl, rfl⟩
  · cases e
def nMax2 : OpN := two fun i j => max i j
def nMin2 : OpN := two fun i j => min i j
theorem c_max2 (hc : X.calm = true) : CallSim X (.builtin "max") nMax2 := ⟨_, call_max2 hc, fun ad Z s H ds vs d l Q ok rv e q => by
  obtain ⟨i, j, rfl, rfl, rfl⟩ := two_some e
  obtain ⟨v, v', rfl, h1, h2⟩ := repL2 rv
  refine ⟨i, j, by rw [rep_int.mp h1, rep_int.mp h2], q _ H (Same.refl _) ?_ (by intro z; simp at z)⟩
  have : (if j > i then j else i) = max i j := by split <;> omega
  rw [this]; simp⟩
theorem c_min2 (hc : X.calm = true) : CallSim X (.builtin "min") nMin2 := ⟨_, call_min2 hc, fun ad Z s H ds vs d l Q ok rv e q => by
  obtain ⟨i, j, rfl, rfl, rfl⟩ := two_some e
  obtain ⟨v, v', rfl, h1, h2⟩ := repL2 rv
  refine ⟨i, j, by rw [rep_int.mp h1, rep_int.mp h2], q _ H (Same.refl _) ?_ (by intro z; simp at z)⟩
  have : (if j < i then j else i) = min i j := by split <;> omega
  rw [this]; simp⟩
def nAbs : OpN := fun _ ds => match ds with | [.int i] => some (.int i.natAbs, 0) | _ => none
theorem c_abs : CallSim X (.builtin "abs") nAbs := ⟨_, call_abs, fun ad Z s H ds vs d l Q ok rv e q => by
  unfold nAbs at e
  split at e
  · rename_i i
    cases e
    obtain ⟨v, rfl, h1⟩ := repL1 rv
    refine ⟨i, by rw [rep_int.mp h1], q _ H (Same.refl _) ?_ (by intro z; simp at z)⟩
    have : (if i < 0 then -i else i) = (i.natAbs : Int) := by split <;> omega
    rw [this]; simp
  · cases e⟩
def nInt : OpN := fun _ ds => match ds with | [.int i] => some (.int i, 0) | [.bl b] => some (.int (if b = true then 1 else 0), 0) | _ => none
theorem c_int : CallSim X (.type "int") nInt := ⟨_, call_int1, fun ad Z s H ds vs d l Q ok rv e q => by
  unfold nInt at e
  split at e
  · rename_i i
    cases e
    obtain ⟨v, rfl, h1⟩ := repL1 rv
    exact .inl ⟨i, by rw [rep_int.mp h1], q _ H (Same.refl _) (by simp) (by intro z; simp at z)⟩
  · rename_i i
    cases e
    obtain ⟨v, rfl, h1⟩ := repL1 rv
    exact .inr ⟨i, by rw [rep_bl.mp h1], q _ H (Same.refl _) (by simp) (by intro z; simp at z)⟩
  · cases e⟩
end
end FX

set_option Elab.async false
set_option linter.all false
set_option maxRecDepth 100000
namespace FX
open PySem PySem.Spec PyProof.Rows L2
open Classical

noncomputable section
/-! ### cells -/
section
variable {K : PySem.W.Frag} {H0 : Hp} {ad0 : List Addr}
theorem fr_upd {ad Z : List Addr} {H : Hp} {a : Addr} {o : HO} (ha : a ∈ ad) : ∀ b u, H b = some u → b ∉ ad → upd H a o b = some u := fun b u e n => by
  rw [upd_ne (fun z => n (by rw [z]; exact ha))]; exact e
theorem Rel.cellSet {ad Z e σ H i a o c} (r : Rel K H0 ad0 ad Z e σ H) (ha : ad[i]? = some a) (hc : Cell K ad Z (upd H a o) a c) : Step ad H ad (upd H a o) ∧ Rel K H0 ad0 ad Z ⟨e.loc, e.sto.set i c⟩ σ (upd H a o) := by
  have hm : a ∈ ad := List.mem_of_getElem? ha
  have fr : ∀ b u, H b = some u → b ∉ ad → upd H a o b = some u := fr_upd (Z := Z) hm
  have st : Step ad H ad (upd H a o) := ⟨.refl, fr⟩
  refine ⟨st, ⟨by rw [List.length_set]; exact r.sto.len, r.sto.nd, fun z hz => ?_, r.sto.zn, fun j b c' e1 e2 => ?_⟩, fun j d y e1 => ?_, r.len, r.st.trans st fun x hx => r.sto.dom x (r.st.sub x hx)⟩
  · obtain ⟨u, q⟩ := r.sto.zd z hz
    exact ⟨u, fr z u q (r.sto.zn z hz)⟩
  · by_cases hj : i = j
    · subst hj
      rw [ha] at e1; cases e1
      have hl : i < e.sto.length := by rw [← r.sto.len]; exact (List.getElem?_eq_some_iff.mp ha).1
      rw [List.getElem?_set_self hl] at e2
      cases e2
      exact hc
    · rw [List.getElem?_set_ne hj] at e2
      have hne : b ≠ a := fun z => by
        subst z
        have h1 := (List.getElem?_eq_some_iff.mp ha)
        have h2 := (List.getElem?_eq_some_iff.mp e1)
        exact hj ((List.getElem_inj r.sto.nd).mp (h1.2.trans h2.2.symm))
      have q := r.sto.cell j b c' e1 e2
      cases c' with
      | lst ds => obtain ⟨vs, e, r⟩ := q; exact ⟨vs, by rw [upd_ne hne]; exact e, RepL.step st _ _ r⟩
      | dct ks ds => obtain ⟨vs, e, k, r⟩ := q; exact ⟨vs, by rw [upd_ne hne]; exact e, k, RepL.step st _ _ r⟩
      | set xs => obtain ⟨S, e, r⟩ := q; exact ⟨S, by rw [upd_ne hne]; exact e, r⟩
      | _ => exact q.elim
  · obtain ⟨v, h1, h2, h3⟩ := r.loc j d y e1
    exact ⟨v, h1, Rep.step st _ _ h2, h3⟩
/-- a new cell -/
theorem Rel.cellNew {ad Z e σ H ad1 s1 H1 a c} (r0 : Rel K H0 ad0 ad Z e σ H) (st : Step ad H ad1 H1) (r1 : Rel K H0 ad0 ad1 Z ⟨e.loc, s1⟩ σ H1) (hn : H a = none) (na : a ∉ ad1) (nz : a ∉ Z)
    (hs : ∀ (i : Nat) (b : Addr) (c' : D), ad1[i]? = some b → s1[i]? = some c' → Cell K (ad1 ++ [a]) Z H1 b c') (hc : Cell K (ad1 ++ [a]) Z H1 a c) :
    Step ad H (ad1 ++ [a]) H1 ∧ Rel K H0 ad0 (ad1 ++ [a]) Z ⟨e.loc, s1 ++ [c]⟩ σ H1 ∧ Rep K (ad1 ++ [a]) Z H1 (.hnd s1.length) (.ref a) := by
  have st2 : Step ad H (ad1 ++ [a]) H1 := by
    obtain ⟨⟨m, rfl, nm⟩, f⟩ := st
    refine ⟨⟨m ++ [a], by simp, fun b hb => ?_⟩, f⟩
    rcases List.mem_append.mp hb with h | h
    · exact nm b h
    · rw [List.mem_singleton.mp h]; exact hn
  have hl : ad1.length = s1.length := r1.sto.len
  refine ⟨st2, ⟨⟨by simp [hl], ?_, r1.sto.zd, fun z hz hm => ?_, fun i b c' e1 e2 => ?_⟩, fun i d y e1 => ?_, r1.len, r0.st.trans st2 fun x hx => r0.sto.dom x (r0.st.sub x hx)⟩, ?_⟩
  · rw [List.nodup_append]
    refine ⟨r1.sto.nd, by simp, fun x hx y hy => ?_⟩
    rw [List.mem_singleton.mp hy]
    exact fun z => na (by rw [← z]; exact hx)
  · rcases List.mem_append.mp hm with h | h
    · exact r1.sto.zn z hz h
    · exact nz (by rw [← List.mem_singleton.mp h]; exact hz)
  · by_cases hi : i < ad1.length
    · rw [List.getElem?_append_left hi] at e1
      rw [List.getElem?_append_left (by omega)] at e2
      exact hs i b c' e1 e2
    · have hi' : i = ad1.length := by
        have := (List.getElem?_eq_some_iff.mp e1).1
        simp at this; omega
      rw [hi'] at e1 e2
      rw [List.getElem?_append_right (Nat.le_refl _)] at e1
      rw [List.getElem?_append_right (by omega)] at e2
      simp [hl] at e1 e2
      rw [← e1, ← e2]
      exact hc
  · obtain ⟨v, h1, h2, h3⟩ := r0.loc i d y e1
    exact ⟨v, h1, Rep.step st2 _ _ h2, h3⟩
  · unfold Rep
    exact ⟨a, by rw [← hl, List.getElem?_append_right (Nat.le_refl _)]; simp, rfl⟩
end
def scalD : D → Bool
  | .lst _ | .tup _ | .dct _ _ | .set _ | .scr _ => false
  | _ => true
def flatC : D → Bool
  | .lst ds => ds.all scalD
  | .dct _ ds => ds.all scalD
  | .set _ => true
  | _ => false
theorem scal_more {K ad Z H d v m} (h : Rep K ad Z H d v) (s : scalD d = true) : Rep K (ad ++ m) Z H d v := by
  cases d with
  | hnd i =>
    unfold Rep at h ⊢
    obtain ⟨a, e, q⟩ := h
    exact ⟨a, getElem?_ext e, q⟩
  | lst _ => cases s
  | tup _ => cases s
  | dct _ _ => cases s
  | set _ => cases s
  | scr _ => cases s
  | non => unfold Rep at h ⊢; exact h
  | bl _ => unfold Rep at h ⊢; exact h
  | int _ => unfold Rep at h ⊢; exact h
  | str _ => unfold Rep at h ⊢; exact h
  | ty _ => unfold Rep at h ⊢; exact h
  | con _ => unfold Rep at h ⊢; exact h
theorem scal_moreL {K ad Z H m} : ∀ {ds : List D} {vs : List V}, RepL K ad Z H ds vs → ds.all scalD = true → RepL K (ad ++ m) Z H ds vs
  | [], _, h, _ => by unfold RepL at h ⊢; exact h
  | d :: ds, vs, h, s => by
    unfold RepL at h ⊢
    obtain ⟨v, r, e, h1, h2⟩ := h
    rw [List.all_cons, Bool.and_eq_true] at s
    exact ⟨v, r, e, scal_more h1 s.1, scal_moreL h2 s.2⟩
theorem cell_more {K ad Z H a c m} (h : Cell K ad Z H a c) (s : flatC c = true) : Cell K (ad ++ m) Z H a c := by
  cases c with
  | lst ds => obtain ⟨vs, e, r⟩ := h; exact ⟨vs, e, scal_moreL r s⟩
  | dct ks ds => obtain ⟨vs, e, k, r⟩ := h; exact ⟨vs, e, k, scal_moreL r s⟩
  | set xs => exact h
  | _ => exact h.elim
/-- a new list or dict of scalars becomes a cell -/
def thawR (x : D × Nat) (s1 : Sto) : R (D × Nat) :=
  match x.1 with
  | .lst ds => if x.2 = 2 ∧ flatC (.lst ds) = true ∧ s1.all flatC = true then .ok (.hnd s1.length, 1) (s1 ++ [.lst ds]) else .bad
  | .dct ks ds => if x.2 = 2 ∧ flatC (.dct ks ds) = true ∧ s1.all flatC = true then .ok (.hnd s1.length, 1) (s1 ++ [.dct ks ds]) else .bad
  | _ => .bad
def eThaw (ev : EvE) : EvE := fun e => (ev e).bind thawR
variable {X : Cx} {H0 : Hp} {ad0 : List Addr} {W : WX} {a b c e1 : Expr} {ev ea eb ec eo : EvE} {pos : Pos} {rest es : List Expr} {as : EvA}
theorem thaw_to (σ : L2.St) (H : Hp) (Q : VK) (h : tE X.K H0 ad0 W (eThaw ea) σ H Q) : tE X.K H0 ad0 W ea σ H Q := by
  obtain ⟨Z, ad, e, rel, h⟩ := h
  refine ⟨Z, ad, e, rel, ?_⟩
  unfold eThaw at h
  cases q : ea e with
  | bad => rw [q] at h; exact h.elim
  | exc C fs s => rw [q] at h; exact h
  | ok x s1 =>
    rw [q] at h
    intro H1 ad1 st1 rel1 v rv l1 l2
    obtain ⟨d, l⟩ := x
    have key : ∀ (p : Addr) (c : D), v = .ref p → l = 2 → p ∉ ad1 → p ∉ Z → Cell X.K ad1 Z H1 p c → flatC c = true → s1.all flatC = true → post X.K H0 ad0 W ad Z e σ H (.ok (.hnd s1.length, 1) (s1 ++ [c])) (fin X.K Z H0 H Q) → Q v H1 := by
      intro p c hv hl np nz hc fc fs hh
      have hn : H p = none := l2 (by rw [hl]; exact Nat.le_refl _) p hv
      obtain ⟨st2, rel2, rep2⟩ := rel.cellNew st1 rel1 hn np nz (fun i b c' e1 e2 => cell_more (rel1.sto.cell i b c' e1 e2) (List.all_eq_true.mp fs _ (List.mem_of_getElem? e2))) (cell_more hc fc)
      rw [hv]
      exact hh H1 _ st2 rel2 (.ref p) rep2 (fun _ => rel.lv0 (lv_ref hn)) (by intro z; simp at z)
    have h : post X.K H0 ad0 W ad Z e σ H (thawR (d, l) s1) (fin X.K Z H0 H Q) := h
    cases d with
    | lst ds =>
      have h : post X.K H0 ad0 W ad Z e σ H (if l = 2 ∧ flatC (.lst ds) = true ∧ s1.all flatC = true then .ok (D.hnd s1.length, 1) (s1 ++ [D.lst ds]) else .bad) (fin X.K Z H0 H Q) := h
      by_cases hf : l = 2 ∧ flatC (.lst ds) = true ∧ s1.all flatC = true
      · rw [if_pos hf] at h
        unfold Rep at rv
        obtain ⟨p, vs, e3, n, e4, e5⟩ := rv
        exact key p (.lst ds) e3 hf.1 n.1 n.2 ⟨vs, e4, e5⟩ hf.2.1 hf.2.2 h
      · rw [if_neg hf] at h; exact h.elim
    | dct ks ds =>
      have h : post X.K H0 ad0 W ad Z e σ H (if l = 2 ∧ flatC (.dct ks ds) = true ∧ s1.all flatC = true then .ok (D.hnd s1.length, 1) (s1 ++ [D.dct ks ds]) else .bad) (fin X.K Z H0 H Q) := h
      by_cases hf : l = 2 ∧ flatC (.dct ks ds) = true ∧ s1.all flatC = true
      · rw [if_pos hf] at h
        unfold Rep at rv
        obtain ⟨p, kvs, e3, n, e4, e5, e6⟩ := rv
        exact key p (.dct ks ds) e3 hf.1 n.1 n.2 ⟨kvs, e4, e5, e6⟩ hf.2.1 hf.2.2 h
      · rw [if_neg hf] at h; exact h.elim
    | _ => exact h.elim
theorem sim_thaw (ha : PE X a (tE X.K H0 ad0 W ea)) : PE X a (tE X.K H0 ad0 W (eThaw ea)) := pe_mono ha thaw_to
/-- a display that becomes a cell -/
def eLstH (as : EvA) : EvE := fun e => (as e).bind fun ds s1 => if ds.length ≤ sizeLine then .ok (.hnd s1.length, 1) (s1 ++ [.lst ds]) else .bad
theorem sim_lstH (h : PA X es (tAr X.K H0 ad0 W as)) : PE X (.List es pos) (tE X.K H0 ad0 W (eLstH as)) := by
  refine pe_mono (pe_lst h) fun σ H Q ⟨Z, ad, e, rel, h⟩ => ⟨Z, ad, e, rel, (post_bind h).mono fun ds ad1 s1 H1 ⟨st1, rel1, h1⟩ vs rvs => ?_⟩
  by_cases hz : ds.length ≤ sizeLine
  · rw [if_pos hz] at h1
    refine ⟨by rw [← RepL.len rvs]; exact hz, fun p np => ?_⟩
    have sm := same_upd (o := HO.lst vs) np
    have n := rel1.sto.new np
    have stp : Step ad1 H1 (ad1 ++ [p]) (upd H1 p (.lst vs)) := ⟨⟨[p], rfl, fun b hb => by rw [List.mem_singleton.mp hb]; exact np⟩, fun b o e _ => sm b o e⟩
    obtain ⟨st2, rel2, rep2⟩ := rel1.cellNew (a := p) (c := .lst ds) (.same sm) (rel1.same sm) np n.1 n.2 (fun i b c' e1 e2 => by
      have q := rel1.sto.cell i b c' e1 e2
      cases c' with
      | lst ds => obtain ⟨vs, e, r⟩ := q; exact ⟨vs, sm _ _ e, RepL.step stp _ _ r⟩
      | dct ks ds => obtain ⟨vs, e, k, r⟩ := q; exact ⟨vs, sm _ _ e, k, RepL.step stp _ _ r⟩
      | set xs => obtain ⟨S, e, r⟩ := q; exact ⟨S, sm _ _ e, r⟩
      | _ => exact q.elim) ⟨vs, upd_same, RepL.step stp _ _ rvs⟩
    exact (h1 _ _ st2 rel2).2.2 _ rep2 (fun _ => rel1.lv0 (lv_ref np)) (by intro z; simp at z)
  · rw [if_neg hz] at h1; exact h1.elim

/-! ### methods that change a list -/
structure MutSim (X : Cx) (id : String) (g : D → List D → Option (D × D)) : Prop where
  go : ∃ r, MtR X id r ∧ ∀ (ad Z : List Addr) (s : Sto) (H : Hp) (a : Addr) (c res c' : D) (ds : List D) (vs : List V) (Q : VK), StoOk X.K ad Z s H → a ∈ ad → Cell X.K ad Z H a c → RepL X.K ad Z H ds vs → g c ds = some (res, c') →
    (∀ v o, Cell X.K ad Z (upd H a o) a c' → Rep X.K ad Z (upd H a o) res v → Q v (upd H a o)) → r (.ref a) vs H Q
def eMut (g : D → List D → Option (D × D)) (o : EvE) (as : EvA) : EvE := fun e => (o e).bind fun x s1 => match x.1, vw s1 x.1 with
  | .hnd i, .lst _ => (as ⟨e.loc, s1⟩).bind fun ds s2 => match g (rd s2 i) ds with
    | some (r, c) => .ok (r, 0) (s2.set i c)
    | none => .bad
  | _, _ => .bad
theorem sim_mut {o e : Expr} {name : Str} {apos cpos : Pos} {id : String} {g : D → List D → Option (D × D)} (m : MutSim X id g) (slot : Slot "list" name id) (hty : typeOf (.builtin id) = pure (.type "method_descriptor")) (ho : PE X o (tE X.K H0 ad0 W eo)) (ha : PA X (e :: es) (tAr X.K H0 ad0 W as))
    (hbase : attributeBase o name X.env (eval o X.env) = eval o X.env := by rfl)
    (hfew : ((backTo cpos (starEach (e :: es) X.env)).all (fun x => !x.1) && (backToKw cpos (keywordEach [] X.env)).all (fun x => x.1.isSome)
      && decide ((e :: es).length + ([] : List Keyword).length + (if ([] : List Keyword).isEmpty then 0 else 1) < 30)) = true := by rfl)
    (hline : (apos.endLine == cpos.line) = true := by rfl) (hs : starEach (e :: es) X.env = (false, eval e X.env) :: starEach es X.env := by rfl) (hplain : (backTo cpos (starEach es X.env)).any (·.1) = false := by rfl) :
    PE X (.Call (.Attribute o name apos) (e :: es) [] cpos) (tE X.K H0 ad0 W (eMut g eo as)) := by
  obtain ⟨r, hr, k⟩ := m.go
  refine pe_mono (pe_bm PySem.F.plainAttrs_list slot hty hr ho ha hbase hfew hline hs hplain) fun σ H Q ⟨Z, ad, e, rel, h⟩ => ⟨Z, ad, e, rel, (post_bind h).mono fun x ad1 s1 H1 ⟨st1, rel1, h1⟩ v rv _ _ => ?_⟩
  split at h1
  · rename_i i ds0 hx hv
    rw [hx] at rv hv
    have rv' := rv
    unfold Rep at rv'
    obtain ⟨p, hp, rfl⟩ := rv'
    obtain ⟨p', vs0, e, e1, e2⟩ := lst_of rel1.sto rv hv
    cases e
    refine ⟨.inl ⟨rfl, vs0, .inl (.inl e1)⟩, Z, ad1, _, rel1, (post_bind h1).mono fun ds ad2 s2 H2 ⟨st2, rel2, h2⟩ vs rvs => ?_⟩
    have hp2 : ad2[i]? = some p := by
      obtain ⟨⟨mm, rfl, _⟩, _⟩ := st2
      exact getElem?_ext hp
    have hl : i < s2.length := by
      have := rel2.sto.len
      have := (List.getElem?_eq_some_iff.mp hp2).1
      simp only at *; omega
    have hc : Cell X.K ad2 Z H2 p (rd s2 i) := rel2.sto.cell i p _ hp2 (by show s2[i]? = some (s2.getD i .non); rw [List.getD_eq_getElem?_getD, List.getElem?_eq_getElem hl]; rfl)
    split at h2
    · rename_i res c q
      refine k ad2 Z s2 H2 p _ res c ds vs Q rel2.sto (List.mem_of_getElem? hp2) hc rvs q fun v o hc' rv' => ?_
      obtain ⟨st3, rel3⟩ := rel2.cellSet hp2 hc'
      exact (h2 _ ad2 st3 rel3).2.2.2.2 v rv' (by intro z; simp at z) (by intro z; simp at z)
    · exact h2.elim
  · exact h1.elim
def mAppend : D → List D → Option (D × D) := fun c ds => match c, ds with
  | .lst xs, [y] => if xs.length < sizeLine then some (.non, .lst (xs ++ [y])) else none
  | _, _ => none
theorem core_upd {K ad Z H a o} {ds : List D} {vs : List V} (ha : a ∈ ad) (h : RepL K ad Z H ds vs) : RepL K ad Z (upd H a o) ds vs := RepL.core .refl (fun b u e n _ => fr_upd (Z := Z) ha b u e n) _ _ h
theorem core_upd1 {K ad Z H a o} {d : D} {v : V} (ha : a ∈ ad) (h : Rep K ad Z H d v) : Rep K ad Z (upd H a o) d v := Rep.core .refl (fun b u e n _ => fr_upd (Z := Z) ha b u e n) _ _ h
theorem m_append : MutSim X "list.append" mAppend := ⟨_, mt_append, fun ad Z s H a c res c' ds vs Q ok ha hc rv e q => by
  unfold mAppend at e
  split at e
  · rename_i xs y
    split at e
    · rename_i hz
      cases e
      obtain ⟨ws, e1, e2⟩ := hc
      obtain ⟨v, rfl, hv⟩ := repL1 rv
      exact ⟨a, ws, v, rfl, rfl, e1, by rw [← RepL.len e2]; exact hz, q .non (.lst (ws ++ [v])) ⟨_, upd_same, RepL.append (core_upd ha e2) (by unfold RepL; exact ⟨v, [], rfl, core_upd1 ha hv, by unfold RepL; rfl⟩)⟩ (by simp)⟩
    · cases e
  · cases e⟩
def mPopAt : D → List D → Option (D × D) := fun c ds => match c, ds with
  | .lst xs, [.int i] => if -(2 ^ 63) ≤ i ∧ i < 2 ^ 63 then (seqIndex? i xs.length).bind fun k => (xs[k]?).map fun y => (y, .lst (xs.eraseIdx k)) else none
  | _, _ => none
theorem RepL.erase {K ad Z H} : ∀ {ds : List D} {vs : List V} (n : Nat), RepL K ad Z H ds vs → RepL K ad Z H (ds.eraseIdx n) (vs.eraseIdx n)
  | [], vs, n, h => by unfold RepL at h; subst h; simp; unfold RepL; rfl
  | c :: ds, vs, 0, h => by
    unfold RepL at h
    obtain ⟨w, r, rfl, h1, h2⟩ := h
    exact h2
  | c :: ds, vs, n + 1, h => by
    unfold RepL at h
    obtain ⟨w, r, rfl, h1, h2⟩ := h
    show RepL K ad Z H (c :: ds.eraseIdx n) (w :: r.eraseIdx n)
    unfold RepL
    exact ⟨_, _, rfl, h1, RepL.erase n h2⟩
theorem m_popAt : MutSim X "list.pop" mPopAt := ⟨_, mt_popAt, fun ad Z s H a c res c' ds vs Q ok ha hc rv e q => by
  unfold mPopAt at e
  split at e
  · rename_i xs i
    split at e
    · rename_i hz
      obtain ⟨k, h1, e⟩ := Option.bind_eq_some_iff.mp e
      obtain ⟨y, h2, e⟩ := Option.map_eq_some_iff.mp e
      cases e
      obtain ⟨ws, e1, e2⟩ := hc
      obtain ⟨v, rfl, hv⟩ := repL1 rv
      obtain ⟨w, hw, rw'⟩ := RepL.get e2 h2
      exact ⟨a, ws, i, k, w, rfl, by rw [rep_int.mp hv], e1, hz.1, hz.2, by rw [← RepL.len e2]; exact h1, hw, q w (.lst (ws.eraseIdx k)) ⟨_, upd_same, core_upd ha (RepL.erase k e2)⟩ (core_upd1 ha rw')⟩
    · cases e
  · cases e⟩
end
end FX

set_option Elab.async false
set_option linter.all false
set_option maxRecDepth 100000
namespace FX
open PySem PySem.Spec PyProof.Rows L2
open Classical

noncomputable section
/-! ### a def's value: its body, the store cut back behind it -/
mutual
def noH (n : Nat) : D → Bool
  | .hnd i => decide (i < n)
  | .lst ds => noHs n ds
  | .tup ds => noHs n ds
  | .dct _ ds => noHs n ds
  | _ => true
def noHs (n : Nat) : List D → Bool
  | [] => true
  | d :: ds => noH n d && noHs n ds
end
theorem noHs_ints (n : Nat) : ∀ ns : List Int, noHs n (ns.map .int) = true
  | [] => rfl
  | a :: r => by show (noH n (.int a) && noHs n (r.map .int)) = true; rw [noHs_ints n r]; rfl
mutual
theorem Rep.cut {K : PySem.W.Frag} {ad m Z : List Addr} {H : Hp} : ∀ (d : D) (v : V), Rep K (ad ++ m) Z H d v → noH ad.length d = true → Rep K ad Z H d v
  | .non, _, h, _ => h
  | .bl _, _, h, _ => h
  | .int _, _, h, _ => h
  | .str _, _, h, _ => h
  | .ty _, _, h, _ => h
  | .con _, _, h, _ => h
  | .lst ds, v, h, n => by
    unfold Rep at h ⊢
    obtain ⟨a, vs, e, q, r, k⟩ := h
    exact ⟨a, vs, e, ⟨fun z => q.1 (List.mem_append_left _ z), q.2⟩, r, RepL.cut ds vs k (by unfold noH at n; exact n)⟩
  | .tup ds, v, h, n => by
    unfold Rep at h ⊢
    obtain ⟨a, vs, e, q, r, k⟩ := h
    exact ⟨a, vs, e, ⟨fun z => q.1 (List.mem_append_left _ z), q.2⟩, r, RepL.cut ds vs k (by unfold noH at n; exact n)⟩
  | .dct ks ds, v, h, n => by
    unfold Rep at h ⊢
    obtain ⟨a, vs, e, q, r, k1, k⟩ := h
    exact ⟨a, vs, e, ⟨fun z => q.1 (List.mem_append_left _ z), q.2⟩, r, k1, RepL.cut ds _ k (by unfold noH at n; exact n)⟩
  | .set xs, v, h, n => by
    unfold Rep at h ⊢
    obtain ⟨a, S, e, q, r⟩ := h
    exact ⟨a, S, e, ⟨fun z => q.1 (List.mem_append_left _ z), q.2⟩, r⟩
  | .hnd i, v, h, n => by
    unfold Rep at h ⊢
    obtain ⟨a, e, q⟩ := h
    unfold noH at n
    exact ⟨a, by rw [List.getElem?_append_left (of_decide_eq_true n)] at e; exact e, q⟩
  | .scr ns, v, h, n => by
    unfold Rep at h ⊢
    obtain ⟨a, e, q⟩ := h
    exact ⟨a, e, q.imp (fun q => ⟨⟨fun z => q.1.1 (List.mem_append_left _ z), q.1.2⟩, q.2⟩) id⟩
theorem RepL.cut {K : PySem.W.Frag} {ad m Z : List Addr} {H : Hp} : ∀ (ds : List D) (vs : List V), RepL K (ad ++ m) Z H ds vs → noHs ad.length ds = true → RepL K ad Z H ds vs
  | [], _, h, _ => by unfold RepL at h ⊢; exact h
  | d :: ds, vs, h, n => by
    unfold RepL at h ⊢
    obtain ⟨v, r, e, h1, h2⟩ := h
    unfold noHs at n
    rw [Bool.and_eq_true] at n
    exact ⟨v, r, e, Rep.cut d v h1 n.1, RepL.cut ds r h2 n.2⟩
end
/-- the result: a cell made in the def becomes a plain value -/
def trR (n : Nat) (d : D) (l : Nat) (s : Sto) : R (D × Nat) :=
  if noHs n (s.take n) = true then
    match d with
    | .hnd j => if j < n then .ok (.hnd j, 0) (s.take n) else (match rd s j with
      | .lst ds => if noHs n ds = true then .ok (.lst ds, 1) (s.take n) else .bad
      | .dct ks ds => if noHs n ds = true then .ok (.dct ks ds, 1) (s.take n) else .bad
      | _ => .bad)
    | d => if noH n d = true then .ok (d, l) (s.take n) else .bad
  else .bad
def trX (n : Nat) (C : Addr) (fs : Option (List (Str × D))) (s : Sto) : R (D × Nat) :=
  if noHs n (s.take n) = true ∧ noHs n ((fs.getD []).map (·.2)) = true then .exc C fs (s.take n) else .bad
def defT (m n : Nat) (body : EvS) : List D → Sto → R (D × Nat) := fun ds s =>
  if ds.length = n then
    match body ⟨ds.map (fun d => some (d, false)) ++ List.replicate m none, s⟩ with
    | .ret d l s' => trR s.length d l s'
    | .nx e' => trR s.length .non 0 e'.sto
    | .exc C fs e' => trX s.length C fs e'.sto
    | _ => .bad
  else .bad
def noX (f : List D → Sto → R (D × Nat)) : List D → Sto → R (D × Nat) := fun ds s => match f ds s with | .exc .. => .bad | r => r
def postC (K : PySem.W.Frag) (ad Z : List Addr) (H : Hp) (r : R (D × Nat)) (Q : VK) (E : XK) : Prop :=
  match r with
  | .ok x s' => ∀ v H' , Step ad H ad H' → StoOk K ad Z s' H' → Rep K ad Z H' x.1 v → (1 ≤ x.2 → Lv H v) → Q v H'
  | .exc C fs s' => ∀ od H', Step ad H ad H' → StoOk K ad Z s' H' → XOk K ad Z H' od fs → E (.ref C) od H'
  | .bad => False
def spD (K : PySem.W.Frag) (n : Nat) (f : List D → Sto → R (D × Nat)) : Sp := fun vs H Q E => ∃ Z ad s ds, StoOk K ad Z s H ∧ RepL K ad Z H ds vs ∧ ds.length = n ∧ postC K ad Z H (f ds s) Q E
theorem StoOk.cut {K ad m Z s H} (h : StoOk K (ad ++ m) Z s H) (n : noHs ad.length (s.take ad.length) = true) : StoOk K ad Z (s.take ad.length) H := by
  have hl : (ad ++ m).length = s.length := h.len
  rw [List.length_append] at hl
  refine ⟨by rw [List.length_take]; omega, (List.nodup_append.mp h.nd).1, h.zd, fun z hz hm => h.zn z hz (List.mem_append_left _ hm), fun i a c e1 e2 => ?_⟩
  have hi : i < ad.length := (List.getElem?_eq_some_iff.mp e1).1
  have nc : noH ad.length c = true := by
    have key : ∀ (l : List D) (c : D), noHs ad.length l = true → c ∈ l → noH ad.length c = true := by
      intro l
      induction l with
      | nil => intro c _ hc; cases hc
      | cons a r ih =>
        intro c hn hc
        unfold noHs at hn
        rw [Bool.and_eq_true] at hn
        rcases List.mem_cons.mp hc with e | e
        · rw [e]; exact hn.1
        · exact ih c hn.2 e
    exact key _ c n (List.mem_of_getElem? e2)
  rw [List.getElem?_take_of_lt hi] at e2
  have q := h.cell i a c (by rw [List.getElem?_append_left hi]; exact e1) e2
  cases c with
  | lst ds => obtain ⟨vs, e, r⟩ := q; exact ⟨vs, e, RepL.cut _ _ r (by unfold noH at nc; exact nc)⟩
  | dct ks ds => obtain ⟨vs, e, k, r⟩ := q; exact ⟨vs, e, k, RepL.cut _ _ r (by unfold noH at nc; exact nc)⟩
  | set xs => exact q
  | _ => exact q.elim
theorem Rel.begin {K Z ad s H ds vs} {N : List Str} (ok : StoOk K ad Z s H) (r : RepL K ad Z H ds vs) : Rel K H ad ad Z ⟨ds.map (fun d => some (d, false)) ++ List.replicate (N.length - ds.length) none, s⟩ (L2.start N vs) H := by
  have hl := RepL.len r
  refine ⟨ok, fun i d y h => ?_, by unfold L2.start; simp [hl], .refl⟩
  have h : (ds.map (fun d => some (d, false)) ++ List.replicate (N.length - ds.length) none)[i]? = some (some (d, y)) := h
  by_cases hi : i < ds.length
  · rw [List.getElem?_append_left (by simpa using hi), List.getElem?_map, List.getElem?_eq_getElem hi] at h
    cases h
    obtain ⟨v, hv, rv⟩ := RepL.get r (List.getElem?_eq_getElem hi)
    refine ⟨v, ?_, rv, by intro z; cases z⟩
    unfold L2.start
    rw [List.getElem?_append_left (by rw [List.length_map, ← hl]; exact hi), List.getElem?_map, hv]
    rfl
  · rw [List.getElem?_append_right (by simpa using hi), List.getElem?_replicate] at h
    split at h <;> cases h
theorem trR_post {K : PySem.W.Frag} {Z ad : List Addr} {s s' : Sto} {H : Hp} {d : D} {l : Nat} (hs : ad.length = s.length) {Q : VK} {E : XK} (h : postC K ad Z H (trR s.length d l s') Q E) :
    ∀ v H' ad', Step ad H ad' H' → StoOk K ad' Z s' H' → Rep K ad' Z H' d v → (1 ≤ l → Lv H v) → Q v H' := by
  intro v H' ad' st ok rv lv
  unfold trR at h
  by_cases hn : noHs s.length (s'.take s.length) = true
  · rw [if_pos hn] at h
    obtain ⟨⟨m, rfl, nm⟩, fr⟩ := st
    rw [← hs] at h hn
    have ok2 : StoOk K ad Z (s'.take ad.length) H' := ok.cut hn
    have st2 : Step ad H ad H' := ⟨.refl, fr⟩
    have fin : ∀ d' l', noH ad.length d' = true → Rep K (ad ++ m) Z H' d' v → (1 ≤ l' → Lv H v) → postC K ad Z H (.ok (d', l') (s'.take ad.length)) Q E → Q v H' := fun d' l' n r lv h => h v H' st2 ok2 (Rep.cut d' v r n) lv
    cases d with
    | hnd j =>
      have h : postC K ad Z H (if j < ad.length then .ok (.hnd j, 0) (s'.take ad.length) else (match rd s' j with
        | .lst ds => if noHs ad.length ds = true then .ok (D.lst ds, 1) (s'.take ad.length) else .bad
        | .dct ks ds => if noHs ad.length ds = true then .ok (D.dct ks ds, 1) (s'.take ad.length) else .bad
        | _ => .bad)) Q E := h
      by_cases hj : j < ad.length
      · rw [if_pos hj] at h
        exact fin (.hnd j) 0 (by unfold noH; exact decide_eq_true hj) rv (by intro z; simp at z) h
      · rw [if_neg hj] at h
        have rv' := rv
        unfold Rep at rv'
        obtain ⟨a, ha, rfl⟩ := rv'
        have ham : a ∈ m := by
          rw [List.getElem?_append_right (Nat.le_of_not_lt hj)] at ha
          exact List.mem_of_getElem? ha
        have hlv : Lv H (.ref a) := lv_ref (nm a ham)
        have na : a ∉ ad := fun z => (List.nodup_append.mp ok.nd).2.2 a z a ham rfl
        have nz : a ∉ Z := fun z => ok.zn a z (List.mem_append_right _ ham)
        split at h
        · rename_i ds hd
          by_cases hq : noHs ad.length ds = true
          · rw [if_pos hq] at h
            obtain ⟨b, vs, e, e1, e2⟩ := lst_of ok rv (show vw s' (.hnd j) = .lst ds from hd)
            cases e
            refine h _ H' st2 ok2 ?_ fun _ => hlv
            show Rep K ad Z H' (.lst ds) (.ref a)
            unfold Rep
            exact ⟨a, vs, rfl, ⟨na, nz⟩, e1, RepL.cut _ _ e2 hq⟩
          · rw [if_neg hq] at h; exact h.elim
        · rename_i ks ds hd
          by_cases hq : noHs ad.length ds = true
          · rw [if_pos hq] at h
            obtain ⟨b, vs, e, e1, e2, e3⟩ := dct_of ok rv (show vw s' (.hnd j) = .dct ks ds from hd)
            cases e
            refine h _ H' st2 ok2 ?_ fun _ => hlv
            show Rep K ad Z H' (.dct ks ds) (.ref a)
            unfold Rep
            exact ⟨a, vs, rfl, ⟨na, nz⟩, e1, e2, RepL.cut _ _ e3 hq⟩
          · rw [if_neg hq] at h; exact h.elim
        · exact h.elim
    | _ =>
      simp only at h
      split at h
      · exact fin _ l (by assumption) rv lv h
      · exact h.elim
  · rw [if_neg hn] at h; exact h.elim
theorem trX_post {K : PySem.W.Frag} {Z ad : List Addr} {s s' : Sto} {H : Hp} {C : Addr} {fs : Option (List (Str × D))} (hs : ad.length = s.length) {Q : VK} {E : XK} (h : postC K ad Z H (trX s.length C fs s') Q E) :
    ∀ od H' ad', Step ad H ad' H' → StoOk K ad' Z s' H' → XOk K ad' Z H' od fs → E (.ref C) od H' := by
  intro od H' ad' st ok xo
  unfold trX at h
  by_cases hn : noHs s.length (s'.take s.length) = true ∧ noHs s.length ((fs.getD []).map (·.2)) = true
  · rw [if_pos hn] at h
    obtain ⟨⟨m, rfl, nm⟩, fr⟩ := st
    rw [← hs] at h hn
    refine h od H' ⟨.refl, fr⟩ (ok.cut hn.1) ?_
    cases fs with
    | none => exact xo
    | some fs =>
      obtain ⟨dx, kvs, e1, e2, e3, e4⟩ := xo
      exact ⟨dx, kvs, e1, e2, e3, RepL.cut _ _ e4 hn.2⟩
  · rw [if_neg hn] at h; exact h.elim
end
end FX

set_option Elab.async false
set_option linter.all false
set_option maxRecDepth 100000
namespace FX
open PySem PySem.Spec PyProof.Rows L2
open Classical

noncomputable section
/-- a def's promise where no repr runs around the call -/
structure FnG (P : Program) (w : World) (K : PySem.W.Frag) (mg : Str → Option Value) (base : Heap) (CX : CXT) (k : Nat) (f : Addr) (fd : FuncData) (ps : List Str) (sp : Sp) : Prop where
  len : ∀ vs H Q E, sp vs H Q E → vs.length = ps.length
  run : ∀ (A : Around) (outer : List Env) (s : Shared) (H : Hp) (args : Args) (us : List Value) (vs : List V) (Q : VK) (E : XK), Room k A → A.guards = some [] → Env0 P w K mg base A outer s H →
    BindsTo s fd args (ps.zip us) → Vals vs us → sp vs H Q E → codeAny (model P w) A (.call (.ref f) args) (CR CX outer P w H s Q E) s
theorem FnG.imp {P w K mg base CX k f fd ps} {sp sp' : Sp} (F : FnG P w K mg base CX k f fd ps sp) (h : ∀ vs H Q E, sp' vs H Q E → sp vs H Q E) : FnG P w K mg base CX k f fd ps sp' where
  len := fun vs H Q E q => F.len vs H Q E (h vs H Q E q)
  run := fun A outer s H args us vs Q E hr hg e0 hb hv q => F.run A outer s H args us vs Q E hr hg e0 hb hv (h vs H Q E q)
section
variable {P : Program} {w : World} {K : PySem.W.Frag} {mg : Str → Option Value} {base : Heap}
/-- the frame of a def: from its body's walk -/
theorem fnG_of {CX : CXT} {k : Nat} {x qual : Str} {st : Stmt} {f : Addr} {fd : FuncData} {N ps : List Str} {sp : Sp} (F : Fun K x qual st f fd) (S : FnScope N ps (defScope st)) (len : ∀ vs H Q E, sp vs H Q E → vs.length = ps.length)
    (hbody : ∀ (cdv : Value) (A : Around) (outer : List Env) (s : Shared) (H : Hp) (vs : List V) (Q : VK) (E : XK), Room k (A.deeper (envOfC qual (defScope st) s.heap.objs.size f cdv)) → (A.deeper (envOfC qual (defScope st) s.heap.objs.size f cdv)).guards = some [] → sp vs H Q E →
      ∃ t, PSs (cxOf CX P w K mg base N qual (defScope st) f cdv A outer s H E) (defBody st) t ∧ t { nx := fun _ H' => Q .non H', rt := Q } (L2.start N vs) H) : FnG P w K mg base CX (k + 1) f fd ps sp := by
  obtain ⟨oc, od, kV, doc, pm, an, cdv, ct, osl, rfl, lk, hcd⟩ := F.ex
  constructor
  · exact len
  · intro A outer s H args us vs Q E hr hgd e0 hb rv hsp
    have ln := len vs H Q E hsp
    have stay : ∀ b o, base.get? b = some o → s.heap.get? b = some o := fun b o e => (e0.bs b o e).1
    have inK : K.In s.heap := e0.mod.kin.keeps stay
    have lim : s.heap.NoLimit := e0.mod.nolimit.keeps stay
    have kinds : ∀ y ∈ ps.zip us, (defScope st).names.lookup y.1 = some .local ∨ ((defScope st).names.lookup y.1 = some .cell ∧ ((cellsFrom (s.heap.objs.size + 1) (defScope st).names []).lookup y.1).isSome = true) := by
      rintro ⟨n, v⟩ hy
      have hm := (List.of_mem_zip hy).1
      exact (S.par n hm).imp id fun q => ⟨q, PySem.W.cellsFrom_some _ _ _ (.inl q)⟩
    refine codeAny_call_function hr.depth (inK _ _ lk) rfl S.co S.gen rfl (PySem.W.codeRec_of inK hcd) (hb _ _ _ _ ?_)
    refine wpAny_newFunctionEnv_cells S.kind kinds fun env he s1 x1 => ?_
    subst he
    obtain ⟨t, ht, hq⟩ := hbody cdv A outer s H vs Q E (hr.deeper _) hgd hsp
    have I := inv_start (CX := CX) (E := E) S hr.hd e0 ln rv x1
    refine ⟨lim.keeps x1.toInCall.keep, codeAny_func (wpAny_mono (ht.run [] s1 (L2.start N vs) H _ I hq) (fun fl s' hs => ?_) fun _ _ hs => hs)⟩
    have done : ∀ (σ' : L2.St) (H' : Hp) (v : V) (u : Value), Inv (cxOf CX P w K mg base N qual (defScope st) f cdv A outer s H E) [] σ' H' s' → RelV v u → Q v H' → CE outer P w H s Q u s' := by
      intro σ' H' v u J r q
      exact ⟨v, H', J.os, J.bare, J.base, J.hok, r, q⟩
    match fl, hs with
    | .ret u, ⟨v, σ', H', J, r, q⟩ => exact done σ' H' v u J r q
    | .next, ⟨σ', H', J, q⟩ => exact done σ' H' .non .none J rfl q
    | .brk, ⟨_, _, _, q⟩ => exact q.elim
    | .cont, ⟨_, _, _, q⟩ => exact q.elim
/-- a def that lets no exception out -/
theorem okD {x qual : Str} {st : Stmt} {f : Addr} {fd : FuncData} {N ps : List Str} {k : Nat} {body : EvS} (F : Fun K x qual st f fd) (S : FnScope N ps (defScope st)) (hp : ps.length ≤ N.length)
    (hb : ∀ (cdv : Value) (A : Around) (outer : List Env) (s : Shared) (H : Hp) (E : XK) (ad : List Addr), Room k (A.deeper (envOfC qual (defScope st) s.heap.objs.size f cdv)) → (A.deeper (envOfC qual (defScope st) s.heap.objs.size f cdv)).guards = some [] → PSs (cxOf CX0 P w K mg base N qual (defScope st) f cdv A outer s H E).nox (defBody st) (tS K H ad W0 body)) :
    FnG P w K mg base CX0 (k + 1) f fd ps (spD K ps.length (noX (defT (N.length - ps.length) ps.length body))) := by
  refine fnG_of F S (fun vs H Q E ⟨Z, ad, s, ds, ok, r, hl, _⟩ => by rw [← RepL.len r]; exact hl) (fun cdv A outer s H vs Q E hr hg ⟨Z, ad, sto, ds, ok, r, hl, h⟩ => ⟨_, (hb cdv A outer s H E ad hr hg).nox, Z, ad, ⟨ds.map (fun d => some (d, false)) ++ List.replicate (N.length - ds.length) none, sto⟩, Rel.begin ok r, ?_⟩)
  unfold noX defT at h
  rw [if_pos hl] at h
  rw [hl]
  generalize hres : body ⟨ds.map (fun d => some (d, false)) ++ List.replicate (N.length - ps.length) none, sto⟩ = res at h
  have noexc : ∀ {r : R (D × Nat)}, postC K ad Z H (match r with | .exc .. => .bad | r => r) Q E → postC K ad Z H r Q E := by
    intro r h
    cases r with
    | ok x s => exact h
    | exc C fs s => exact h.elim
    | bad => exact h
  cases res with
  | ret d l s' => exact fun v H' ad' st _ ok' rv lv => trR_post ok.len (noexc h) v H' ad' st ok' rv lv
  | nx e' => exact fun σ' H' ad' st rel' => trR_post ok.len (noexc h) .non H' ad' st rel'.sto (by simp) (by intro z; simp at z)
  | exc C fs e' =>
    have h : postC K ad Z H (match trX sto.length C fs e'.sto with | .exc .. => .bad | r => r) Q E := h
    unfold trX at h
    by_cases hc : noHs sto.length (e'.sto.take sto.length) = true ∧ noHs sto.length ((fs.getD []).map (·.2)) = true
    · rw [if_pos hc] at h; exact h.elim
    · rw [if_neg hc] at h; exact h.elim
  | brk e' => exact h.elim
  | cnt e' => exact h.elim
  | bad => exact h.elim
/-- a def that may raise -/
theorem okDX {x qual : Str} {st : Stmt} {f : Addr} {fd : FuncData} {N ps : List Str} {k : Nat} {body : EvS} (F : Fun K x qual st f fd) (S : FnScope N ps (defScope st)) (hp : ps.length ≤ N.length)
    (hb : ∀ (cdv : Value) (A : Around) (outer : List Env) (s : Shared) (H : Hp) (E : XK) (ad : List Addr), Room k (A.deeper (envOfC qual (defScope st) s.heap.objs.size f cdv)) → (A.deeper (envOfC qual (defScope st) s.heap.objs.size f cdv)).guards = some [] → PSs (cxOf (L2.CX P w) P w K mg base N qual (defScope st) f cdv A outer s H E) (defBody st) (tS K H ad (fun c d _ H' => E c d H') body)) :
    FnG P w K mg base (L2.CX P w) (k + 1) f fd ps (spD K ps.length (defT (N.length - ps.length) ps.length body)) := by
  refine fnG_of F S (fun vs H Q E ⟨Z, ad, s, ds, ok, r, hl, _⟩ => by rw [← RepL.len r]; exact hl) (fun cdv A outer s H vs Q E hr hg ⟨Z, ad, sto, ds, ok, r, hl, h⟩ => ⟨_, hb cdv A outer s H E ad hr hg, Z, ad, ⟨ds.map (fun d => some (d, false)) ++ List.replicate (N.length - ds.length) none, sto⟩, Rel.begin ok r, ?_⟩)
  unfold defT at h
  rw [if_pos hl] at h
  rw [hl]
  generalize hres : body ⟨ds.map (fun d => some (d, false)) ++ List.replicate (N.length - ps.length) none, sto⟩ = res at h
  cases res with
  | ret d l s' => exact fun v H' ad' st _ ok' rv lv => trR_post ok.len h v H' ad' st ok' rv lv
  | nx e' => exact fun σ' H' ad' st rel' => trR_post ok.len h .non H' ad' st rel'.sto (by simp) (by intro z; simp at z)
  | exc C fs e' => exact fun od σ' H' ad' st rel' xo => trX_post ok.len h od H' ad' st rel'.sto xo
  | brk e' => exact h.elim
  | cnt e' => exact h.elim
  | bad => exact h.elim
end
end
end FX

set_option Elab.async false
set_option linter.all false
set_option maxRecDepth 100000
namespace FX
open PySem PySem.Spec PyProof.Rows L2
open Classical

noncomputable section
section
variable {X : Cx} {H0 : Hp} {ad0 : List Addr} {W : WX} {a b c e1 : Expr} {ev ea eb ec eo : EvE} {pos : Pos} {rest es : List Expr} {as ak : EvA}
/-! ### calls of defs -/
def eCall (f : List D → Sto → R (D × Nat)) (as : EvA) : EvE := fun e => (as e).bind fun ds s1 => (f ds s1).bind fun x s2 => .ok (x.1, if 1 ≤ x.2 then 2 else 0) s2
def Len (f : List D → Sto → R (D × Nat)) (n : Nat) : Prop := ∀ ds s, ds.length ≠ n → f ds s = .bad
theorem len_defT {m n body} : Len (defT m n body) n := fun ds s h => by unfold defT; rw [if_neg h]
theorem len_noX {f n} (h : Len f n) : Len (noX f) n := fun ds s q => by unfold noX; rw [h ds s q]
theorem call_to {f : List D → Sto → R (D × Nat)} {n : Nat} {ds : List D} {ad1 Z : List Addr} {e : En} {s1 : Sto} {σ : L2.St} {H1 H : Hp} {ad : List Addr} {Q : VK} {vs : List V} (hlen : Len f n) (st1 : Step ad H ad1 H1) (rel1 : Rel X.K H0 ad0 ad1 Z ⟨e.loc, s1⟩ σ H1) (rvs : RepL X.K ad1 Z H1 ds vs)
    (h1 : post X.K H0 ad0 W ad1 Z ⟨e.loc, s1⟩ σ H1 ((f ds s1).bind fun x s2 => .ok (x.1, if 1 ≤ x.2 then 2 else 0) s2) fun y ad2 s2 H2 => fin X.K Z H0 H Q y ad2 s2 H2) : spD X.K n f vs H1 Q (WE W σ) := by
  by_cases hn : ds.length = n
  · refine ⟨Z, ad1, s1, ds, rel1.sto, rvs, hn, ?_⟩
    cases q : f ds s1 with
    | ok x s2 =>
      rw [q] at h1
      intro v H' st ok rv lv
      have st0 : Step ad0 H0 ad1 H' := rel1.st.trans st fun x hx => rel1.sto.dom x (rel1.st.sub x hx)
      refine h1 H' ad1 st (rel1.later st ok st0) v rv (fun z => ?_) (fun z => ?_)
      · by_cases hl : 1 ≤ x.2
        · exact rel1.lv0 (lv hl)
        · exact absurd (show 1 ≤ (if 1 ≤ x.2 then 2 else 0) from z) (by rw [if_neg hl]; omega)
      · by_cases hl : 1 ≤ x.2
        · exact (lv hl).back st1 rel1.sto.dom
        · exact absurd (show 2 ≤ (if 1 ≤ x.2 then 2 else 0) from z) (by rw [if_neg hl]; omega)
    | exc C fs s2 =>
      rw [q] at h1
      intro od H' st ok xo
      have st0 : Step ad0 H0 ad1 H' := rel1.st.trans st fun x hx => rel1.sto.dom x (rel1.st.sub x hx)
      exact h1 od H' ad1 st (rel1.later st ok st0) xo
    | bad => rw [q] at h1; exact h1.elim
  · rw [hlen ds s1 hn] at h1; exact h1.elim
variable {CX : CXT} {k n : Nat} {f : Addr} {fd : FuncData} {ps ks : List Str} {x m : Str} {p : Pos} {fs : List D → Sto → R (D × Nat)} {kws : List Keyword}
/-- a call of a def that keeps its promise -/
theorem run_g {sp : Sp} {pins : List (Addr × Obj)} {σ : L2.St} {H : Hp} {s : Shared} {Q : VK} {E : XK} {args : Args} {us : List Value} {vs : List V} (F : FnG X.prog X.w X.K X.mg X.base CX k f fd ps sp) (hr : Room k X.A) (hgd : X.A.guards = some []) (hx : PassesAt CX X σ E) (I : Inv X pins σ H s)
    (hb : BindsTo s fd args (ps.zip us)) (rv : Vals vs us) (h : sp vs H Q E) : codeAny (model X.prog X.w) X.A (.call (.ref f) args) (fun r s' => match r with | .ok (.ret u) => EP X pins σ Q u s' | .ok _ => False | .error e => X.xe e s') s :=
  codeAny_mono (F.run X.A X.stack s H args us vs Q E hr hgd I.env0 hb rv h) fun r s' hq => by
    match r, hq with
    | .ok (.ret u), hq => exact I.after hq
    | .ok .next, hq => exact False.elim hq
    | .ok .brk, hq => exact False.elim hq
    | .ok .cont, hq => exact False.elim hq
    | .error e, hq => exact hx pins H s e s' I hq
/-- what a caller knows of a def: its promise, its name, how it binds (pm: by the keywords ks alone, in the order of the parameters) -/
structure CalD (P : Program) (w : World) (K : PySem.W.Frag) (mg : Str → Option Value) (base : Heap) (CX : CXT) (k : Nat) (x : Str) (n : Nat) (fs : List D → Sto → R (D × Nat)) (kb : List (List Str × List Nat)) : Prop where
  ex : ∃ f fd ps, FnG P w K mg base CX k f fd ps (spD K n fs) ∧ mg x = some (.ref f) ∧ PySem.W.keepIn K (.ref f) = true ∧ Binds K fd ps [] ∧ ps.length = n ∧
    ∀ q ∈ kb, ∀ (s : Shared) (ws : List Value), K.In s.heap → ws.length = n → BindsTo s fd ⟨ws.take (n - q.1.length), q.1.zip (ws.drop (n - q.1.length))⟩ (ps.zip (q.2.filterMap (ws[·]?)))
  len : Len fs n
theorem sim_call {kb} (F : CalD X.prog X.w X.K X.mg X.base CX k x n fs kb) (hr : Room k X.A) (hgd : X.A.guards = some []) (hg : Gl X x) (hx : ∀ σ, PassesAt CX X σ (WE W σ))
    (ha : PA X (a :: es) (tAr X.K H0 ad0 W as)) (hdb : (x == ("__debug__" : Str)) = false := by decide) (he : starEach (a :: es) X.env = (false, eval a X.env) :: starEach es X.env := by rfl) (hpl : (backTo pos (starEach es X.env)).any (·.1) = false := by rfl) :
    PE X (.Call (.Name x p) (a :: es) [] pos) (tE X.K H0 ad0 W (eCall fs as)) := by
  obtain ⟨⟨f, fd, ps, G, hm, hk, hb, hn, _⟩, hlen⟩ := F
  constructor
  intro pins s σ H Q I ⟨Z, ad, e, rel, h⟩
  have ht : tAr X.K H0 ad0 W as σ H fun vs H1 => spD X.K n fs vs H1 Q (WE W σ) := ⟨Z, ad, e, rel, (post_bind h).mono fun ds ad1 s1 H1 ⟨st1, rel1, h1⟩ vs rvs => call_to hlen st1 rel1 rvs (h1.mono fun _ _ _ _ z => z.2.2)⟩
  refine wpAny_Call_Name_kw (ld_glob I hg hm (PySem.W.callWith_K (h₀ := X.base) I.ok.mod.kin hk (thn (ha.run pos pins s σ H _ I ht) fun us s1 ⟨vs, H1, I1, r, q⟩ => ⟨I1.kIn, ?_⟩) he hpl) hdb)
  have hl : (us ++ []).length = ps.length := by rw [List.append_nil, ← r.length]; exact G.len _ _ _ _ q
  have b := hb s1 us I1.kIn hl
  rw [List.append_nil] at b
  refine wpAny_call (codeAny_mono (run_g G hr hgd (hx σ) I1 b r q) fun r s' hq => ?_)
  match r, hq with
  | .ok (.ret u), hq => exact hq
  | .ok .next, hq => exact False.elim hq
  | .ok .brk, hq => exact False.elim hq
  | .ok .cont, hq => exact False.elim hq
  | .error e, hq => exact hq
theorem pass_nox0 {σ : L2.St} : PassesAt CX0 X σ (WE W σ) := fun _ _ _ _ _ _ h => h.elim
theorem pass_nox {σ : L2.St} : PassesAt (L2.CX X.prog X.w) X σ (WE W0 σ) := fun pins H s e s' I c => passL pins σ H s e s' I c
/-! ### calls by keywords alone -/
def tKw (K : PySem.W.Frag) (H0 : Hp) (ad0 : List Addr) (W : WX) (ev : EvA) : TA := tAr K H0 ad0 W ev
theorem sim_knil : PK X [] (tAr X.K H0 ad0 W aNilE) := ⟨fun po p s σ H Q I ⟨Z, ad, e, rel, h⟩ => pk_nil.run po p s σ H Q I (h H ad .refl rel [] (by unfold RepL; rfl))⟩
theorem pk_mono {kws : List Keyword} {t t' : TA} (h : PK X kws t) (m : ∀ σ H Q, t' σ H Q → t σ H Q) : PK X kws t' := ⟨fun po p s σ H Q I q => h.run po p s σ H Q I (m σ H Q q)⟩
theorem sim_kcons {nm : Option Str} {kpos : Pos} (ha : PE X a (tE X.K H0 ad0 W ea)) (hr : PK X kws (tAr X.K H0 ad0 W as)) : PK X (⟨nm, a, kpos⟩ :: kws) (tAr X.K H0 ad0 W (aConsE ea as)) := by
  refine pk_mono (pk_cons ha hr) fun σ H Q ⟨Z, ad, e, rel, h⟩ => ⟨Z, ad, e, rel, (post_bind h).mono fun x ad1 s1 H1 ⟨st1, rel1, h1⟩ v rv _ _ => ⟨Z, ad1, ⟨e.loc, s1⟩, rel1, (post_bind h1).mono fun ds ad2 s2 H2 ⟨st2, rel2, h2⟩ vs rvs => ?_⟩⟩
  refine (h2 H2 ad2 .refl rel2).2.2.2.2 (v :: vs) ?_
  unfold RepL
  exact ⟨v, vs, rfl, Rep.step st2 _ _ rv, rvs⟩
theorem vals_perm {zs : List V} {ws : List Value} (r : Vals zs ws) : ∀ pm : List Nat, Vals (pm.filterMap (zs[·]?)) (pm.filterMap (ws[·]?))
  | [] => .nil
  | i :: pm => by
    cases e : zs[i]? with
    | none =>
      have e2 : ws[i]? = none := r.none_of e
      rw [List.filterMap_cons_none e, List.filterMap_cons_none e2]
      exact vals_perm r pm
    | some v =>
      obtain ⟨u, hu, ru⟩ := r.get e
      rw [List.filterMap_cons_some e, List.filterMap_cons_some hu]
      exact .cons ru (vals_perm r pm)
theorem repL_perm {K ad Z H} {ds : List D} {vs : List V} (r : RepL K ad Z H ds vs) : ∀ pm : List Nat, RepL K ad Z H (pm.filterMap (ds[·]?)) (pm.filterMap (vs[·]?))
  | [] => by show RepL K ad Z H [] []; unfold RepL; rfl
  | i :: pm => by
    cases e : ds[i]? with
    | none =>
      have e2 : vs[i]? = none := by
        have := List.getElem?_eq_none_iff.mp e
        exact List.getElem?_eq_none_iff.mpr (by rw [← RepL.len r]; exact this)
      rw [List.filterMap_cons_none e, List.filterMap_cons_none e2]
      exact repL_perm r pm
    | some d =>
      obtain ⟨v, hv, rv⟩ := RepL.get r e
      rw [List.filterMap_cons_some e, List.filterMap_cons_some hv]
      unfold RepL
      exact ⟨v, _, rfl, rv, repL_perm r pm⟩
def eCallK (f : List D → Sto → R (D × Nat)) (n : Nat) (pm : List Nat) (as : EvA) : EvE := fun e => (as e).bind fun ds s1 => if ds.length = n then (f (pm.filterMap (ds[·]?)) s1).bind fun x s2 => .ok (x.1, if 1 ≤ x.2 then 2 else 0) s2 else .bad
theorem sim_callK {kb} {pm : List Nat} (F : CalD X.prog X.w X.K X.mg X.base CX k x n fs kb) (hkb : (ks, pm) ∈ kb) (hr : Room k X.A) (hgd : X.A.guards = some []) (hg : Gl X x) (hx : ∀ σ, PassesAt CX X σ (WE W σ))
    (hkw : PK X kws (tAr X.K H0 ad0 W as)) (hall : (backToKw pos (keywordEach kws X.env)).all (·.1.isSome) = true := by rfl) (hks : (backToKw pos (keywordEach kws X.env)).filterMap (·.1) = ks := by rfl)
    (hdb : (x == ("__debug__" : Str)) = false := by decide) (hpl : (backToKw pos (keywordEach kws X.env)).any (·.1.isNone) = false := by rfl) (hkn : n - ks.length = 0 := by rfl) :
    PE X (.Call (.Name x p) [] kws pos) (tE X.K H0 ad0 W (eCallK fs n pm as)) := by
  obtain ⟨⟨f, fd, ps, G, hm, hk, _, hn, hb⟩, hlen⟩ := F
  constructor
  intro pins s σ H Q I ⟨Z, ad, e, rel, h⟩
  have ht : tAr X.K H0 ad0 W as σ H fun vs H1 => vs.length = n ∧ spD X.K n fs (pm.filterMap (vs[·]?)) H1 Q (WE W σ) := ⟨Z, ad, e, rel, (post_bind h).mono fun ds ad1 s1 H1 ⟨st1, rel1, h1⟩ vs rvs => by
    by_cases hl : ds.length = n
    · rw [if_pos hl] at h1
      exact ⟨by rw [← RepL.len rvs]; exact hl, call_to hlen st1 rel1 (repL_perm rvs pm) (h1.mono fun _ _ _ _ z => z.2.2)⟩
    · rw [if_neg hl] at h1; exact h1.elim⟩
  refine wpAny_Call_Name_kw (ld_glob I hg hm (PySem.W.callWith_KW0 (h₀ := X.base) I.ok.mod.kin hk hall (thn (hkw.run pos pins s σ H _ I ht) fun ws s2 ⟨zs, H2, I2, rz, l2, q2⟩ => ⟨I2.kIn, ?_⟩) hpl) hdb)
  rw [hks]
  have b : BindsTo s2 fd ⟨ws.take (n - ks.length), ks.zip (ws.drop (n - ks.length))⟩ (ps.zip (pm.filterMap (ws[·]?))) := hb _ hkb s2 ws I2.kIn (by rw [← rz.length]; exact l2)
  rw [hkn, List.take_zero, List.drop_zero] at b
  refine wpAny_call (codeAny_mono (run_g G hr hgd (hx σ) I2 b (vals_perm rz pm) q2) fun r s' hq => ?_)
  match r, hq with
  | .ok (.ret u), hq => exact hq
  | .ok .next, hq => exact False.elim hq
  | .ok .brk, hq => exact False.elim hq
  | .ok .cont, hq => exact False.elim hq
  | .error e, hq => exact hq

/-! ### calls by places and keywords -/
def eCallM (f : List D → Sto → R (D × Nat)) (m n : Nat) (pm : List Nat) (as ak : EvA) : EvE := fun e => (as e).bind fun ds s1 => (ak ⟨e.loc, s1⟩).bind fun es s2 => if ds.length = m ∧ (ds ++ es).length = n then (f (pm.filterMap ((ds ++ es)[·]?)) s2).bind fun x s3 => .ok (x.1, if 1 ≤ x.2 then 2 else 0) s3 else .bad
theorem sim_callM {kb} {pm : List Nat} {mp : Nat} (F : CalD X.prog X.w X.K X.mg X.base CX k x n fs kb) (hkb : (ks, pm) ∈ kb) (hr : Room k X.A) (hgd : X.A.guards = some []) (hg : Gl X x) (hx : ∀ σ, PassesAt CX X σ (WE W σ))
    (ha : PA X (a :: es) (tAr X.K H0 ad0 W as)) (hkw : PK X kws (tAr X.K H0 ad0 W ak)) (hall : (backToKw pos (keywordEach kws X.env)).all (·.1.isSome) = true := by rfl) (hks : (backToKw pos (keywordEach kws X.env)).filterMap (·.1) = ks := by rfl)
    (hdb : (x == ("__debug__" : Str)) = false := by decide) (hpl : ((backTo pos (starEach (a :: es) X.env)).any (·.1) || (backToKw pos (keywordEach kws X.env)).any (·.1.isNone)) = false := by rfl) (he : starEach (a :: es) X.env = (false, eval a X.env) :: starEach es X.env := by rfl) (hkn : n - ks.length = mp := by rfl) :
    PE X (.Call (.Name x p) (a :: es) kws pos) (tE X.K H0 ad0 W (eCallM fs mp n pm as ak)) := by
  obtain ⟨⟨f, fd, ps, G, hm, hk, _, hn, hb⟩, hlen⟩ := F
  constructor
  intro pins s σ H Q I ⟨Z, ad, e, rel, h⟩
  have ht : tAr X.K H0 ad0 W as σ H fun vs H1 => tAr X.K H0 ad0 W ak σ H1 fun us H2 => vs.length = mp ∧ (vs ++ us).length = n ∧ spD X.K n fs (pm.filterMap ((vs ++ us)[·]?)) H2 Q (WE W σ) :=
    ⟨Z, ad, e, rel, (post_bind h).mono fun ds ad1 s1 H1 ⟨st1, rel1, h1⟩ vs rvs => ⟨Z, ad1, ⟨e.loc, s1⟩, rel1, (post_bind h1).mono fun es ad2 s2 H2 ⟨st2, rel2, h2⟩ us rus => by
      by_cases hl : ds.length = mp ∧ (ds ++ es).length = n
      · rw [if_pos hl] at h2
        have r := RepL.append (RepL.step st2 _ _ rvs) rus
        exact ⟨by rw [← RepL.len rvs]; exact hl.1, by rw [← RepL.len r]; exact hl.2, call_to hlen (rel1.tr st1 st2) rel2 (repL_perm r pm) (h2.mono fun _ _ _ _ z => z.2.2.2.2)⟩
      · rw [if_neg hl] at h2; exact h2.elim⟩⟩
  refine wpAny_Call_Name_kw (ld_glob I hg hm (PySem.W.callWith_KW (h₀ := X.base) I.ok.mod.kin hk hall (thn (ha.run pos pins s σ H _ I ht) fun us s1 ⟨vs, H1, I1, r, q⟩ => thn (hkw.run pos pins s1 σ H1 _ I1 q) fun ws s2 ⟨zs, H2, I2, rz, l1, l2, q2⟩ => ⟨I2.kIn, ?_⟩) hpl he) hdb)
  rw [hks]
  have lu : us.length = mp := by rw [← r.length]; exact l1
  have b : BindsTo s2 fd ⟨(us ++ ws).take (n - ks.length), ks.zip ((us ++ ws).drop (n - ks.length))⟩ (ps.zip (pm.filterMap ((us ++ ws)[·]?))) := hb _ hkb s2 (us ++ ws) I2.kIn (by rw [← (Vals.append r rz).length]; exact l2)
  rw [hkn, ← lu, List.take_left, List.drop_left] at b
  refine wpAny_call (codeAny_mono (run_g G hr hgd (hx σ) I2 b (vals_perm (Vals.append r rz) pm) q2) fun r s' hq => ?_)
  match r, hq with
  | .ok (.ret u), hq => exact hq
  | .ok .next, hq => exact False.elim hq
  | .ok .brk, hq => exact False.elim hq
  | .ok .cont, hq => exact False.elim hq
  | .error e, hq => exact hq

/-! ### stores -/
def sSetIx (v o i : EvE) : EvS := fun e => (v e).toS e fun x e1 => (o e1).toS e1 fun y e2 => (i e2).toS e2 fun z e3 => match y.1, z.1 with
  | .hnd h, .int k => (match rd e3.sto h with
    | .lst ds => (match ixN ds.length k with
      | some j => .nx ⟨e3.loc, e3.sto.set h (.lst (ds.set j x.1))⟩
      | none => .bad)
    | _ => .bad)
  | _, _ => .bad
theorem sim_setIx {o i e : Expr} {ei ev eo : EvE} {tp pos : Pos} (he : PE X e (tE X.K H0 ad0 W ev)) (ho : PE X o (tE X.K H0 ad0 W eo)) (hi : PE X i (tE X.K H0 ad0 W ei))
    (ha : ∀ v, assign (.Subscript o i tp) X.env v = (do
      let ov ← holding [v] (eval o X.env)
      let iv ← holding [v, ov] (eval i X.env)
      standAt tp
      holding [v, ov, iv] (setItem ov iv v)
      release [v, ov, iv] []) := by intro _; rfl)
    (hs : swapsWithSole [.Subscript o i tp] e pos.line X.env = pure false := by rfl) (hw : swappedStores [.Subscript o i tp] e X.env = pure none := by rfl) : PS X (.Assign [.Subscript o i tp] e pos) (tS X.K H0 ad0 W (sSetIx ev eo ei)) := by
  refine ps_mono (ps_asg he (pg_sub ho hi set_list ha) hs hw) fun D σ H ⟨Z, ad, e, rel, h⟩ => ⟨Z, ad, e, rel, (postS_toS h).mono fun x ad1 s1 H1 ⟨st1, rel1, h1⟩ v rv _ _ => ⟨Z, ad1, _, rel1, (postS_toS h1).mono fun y ad2 s2 H2 ⟨st2, rel2, h2⟩ u ru _ _ => ⟨Z, ad2, _, rel2, (postS_toS h2).mono fun z ad3 s3 H3 ⟨st3, rel3, h3⟩ w rw' _ _ => ?_⟩⟩⟩
  split at h3
  · rename_i j k hy hz
    rw [hy] at ru; rw [hz] at rw'
    have ru := Rep.step st3 _ _ ru
    have ru' := ru
    unfold Rep at ru'
    obtain ⟨q, hq, rfl⟩ := ru'
    split at h3
    · rename_i ds hd
      obtain ⟨q', vs, e, e1, e2⟩ := lst_of rel3.sto ru (show vw s3 (.hnd j) = .lst ds from hd)
      cases e
      split at h3
      · rename_i l hl
        have hm : q ∈ ad3 := List.mem_of_getElem? hq
        refine ⟨q, vs, k, l, rfl, rep_int.mp rw', e1, by rw [← RepL.len e2]; exact hl, ?_⟩
        obtain ⟨st4, rel4⟩ := rel3.cellSet (o := HO.lst (vs.set l v)) (c := .lst (ds.set l x.1)) hq ⟨_, upd_same, RepL.set l (core_upd hm e2) (core_upd1 hm (Rep.step (rel2.tr st2 st3) _ _ rv))⟩
        exact h3 σ _ ad3 st4 rel4
      · exact h3.elim
    · exact h3.elim
  · exact h3.elim
def sPar (i j : Nat) (as : EvA) : EvS := fun e => (as e).toS e fun ds e1 => match ds with | [x, y] => .nx ((e1.put i x false).put j y false) | _ => .bad
theorem sim_par {i j : Nat} {x y : Str} {px py pt : Pos} {kt k2 pt2} (hc : X.calm = true) (hN : X.N.Nodup) (hi : X.N[i]? = some x) (hj : X.N[j]? = some y) (hij : i ≠ j)
    (hx : X.env.scope.names.lookup x = some .local) (hy : X.env.scope.names.lookup y = some .local) (ha : PA X [a, b] (tAr X.K H0 ad0 W as))
    (hw : swappedStores [.Tuple [.Name x px, .Name y py] kt pt] (.Tuple [a, b] k2 pt2) X.env = pure (some [x, y]))
    (hs : swapsWithSole [.Tuple [.Name x px, .Name y py] kt pt] (.Tuple [a, b] k2 pt2) pos.line X.env = pure false := by rfl) :
    PS X (.Assign [.Tuple [.Name x px, .Name y py] kt pt] (.Tuple [a, b] k2 pt2) pos) (tS X.K H0 ad0 W (sPar i j as)) := by
  refine ps_mono (ps_par hc hN hi hj hij hx hy ha hw hs) fun D σ H ⟨Z, ad, e, rel, h⟩ => ⟨Z, ad, e, rel, (postS_toS h).mono fun ds ad1 s1 H1 ⟨st1, rel1, h1⟩ vs rvs => ?_⟩
  split at h1
  · obtain ⟨v, w, rfl, hv, hw⟩ := repL2 rvs
    exact ⟨v, w, rfl, h1 _ H1 ad1 .refl ((rel1.put hv (by intro z; cases z)).put hw (by intro z; cases z))⟩
  · exact h1.elim
/-- target = value, any target of names -/
def sAsg (asg : Asg) (ev : EvE) : EvS := fun e => (ev e).toS e fun x e1 => match asg x.1 e1 with | some e2 => .nx e2 | none => .bad
theorem sim_asg {tg e : Expr} {g : TG} {sl : List Nat} {asg : Asg} (he : PE X e (tE X.K H0 ad0 W ev)) (hg : PG X tg g) (hga : GSim X.K H0 ad0 g sl asg) (hs : swapsWithSole [tg] e pos.line X.env = pure false := by rfl) (hw : swappedStores [tg] e X.env = pure none := by rfl) (h1 : (assignEach [tg] X.env).map (·.2) = [assign tg X.env] := by rfl) : PS X (.Assign [tg] e pos) (tS X.K H0 ad0 W (sAsg asg ev)) := by
  refine ps_mono (ps_asg he hg hs hw (h1 := h1)) fun Dn σ H ⟨Z, ad, e, rel, h⟩ => ⟨Z, ad, e, rel, (postS_toS h).mono fun x ad1 s1 H1 ⟨st1, rel1, h1⟩ v rv _ _ => ?_⟩
  cases q : asg x.1 ⟨e.loc, s1⟩ with
  | none => rw [q] at h1; exact h1.elim
  | some e2 =>
    rw [q] at h1
    exact hga ad1 Z _ e2 σ H1 x.1 v _ rel1 rv q fun σ' rel' _ => h1 σ' H1 ad1 .refl rel'
/-- x op= e -/
def sAug (g : Op2) (i : Nat) (ev : EvE) : EvS := fun e => match e.loc[i]? with
  | some (some (d, _)) => (ev e).toS e fun y e1 => match g e1.sto d y.1 with | some z => .nx (e1.put i z.1 (decide (1 ≤ z.2))) | none => .bad
  | _ => .bad
theorem sim_aug {i : Nat} {x : Str} {e : Expr} {op : Operator} {pos' : Pos} {g : Op2} (o : OpSim X (inplaceOp op) g) (hN : X.N.Nodup) (hi : X.N[i]? = some x) (hx : Loc X.env.scope x) (he : PE X e (tE X.K H0 ad0 W ev)) (hf : X.fn x = true ∨ X.env.scope.names.lookup x = some .local := by first | exact .inl rfl | exact .inr rfl) :
    PS X (.AugAssign (.Name x pos') op e pos) (tS X.K H0 ad0 W (sAug g i ev)) := by
  obtain ⟨r, hr, k⟩ := o.go
  refine ps_mono (ps_aug (ti := r) hN hi hx he (fun pins s σ H x y v u Q I rx ry q => hr pins s σ H x y v u Q I rx ry q) hf) fun Dn σ H ⟨Z, ad, e, rel, h⟩ => ?_
  unfold sAug at h
  cases q : e.loc[i]? with
  | none => rw [q] at h; exact h.elim
  | some o =>
    cases o with
    | none => rw [q] at h; exact h.elim
    | some p =>
      obtain ⟨d, y⟩ := p
      rw [q] at h
      obtain ⟨v, h1, h2, h3⟩ := rel.loc i d y q
      refine ⟨v, h1, Z, ad, e, rel, (postS_toS h).mono fun z ad1 s1 H1 ⟨st1, rel1, h4⟩ w rw' _ _ => ?_⟩
      cases q' : g s1 d z.1 with
      | none => rw [q'] at h4; exact h4.elim
      | some t =>
        rw [q'] at h4
        refine k ad1 Z s1 H1 v w d z.1 t.1 t.2 _ rel1.sto (Rep.step st1 _ _ h2) rw' q' fun v' H' sm rv lv => ?_
        exact h4 _ H' ad1 (.same sm) ((rel1.same sm).put rv fun q => rel1.lv0 (lv (of_decide_eq_true q)))
theorem o_iaddI : OpSim X (inplaceOp .Add) gAddI := osim_I0 iop_add fun _ _ _ _ _ => by simp
theorem o_isub : OpSim X (inplaceOp .Sub) gSub := osim_I0 iop_sub fun _ _ _ _ _ => by simp
end
/-! ### the law's end -/
def spLaw (K : PySem.W.Frag) : Sp := fun vs H Q _ => ∃ (a : Addr) (ns : List Int), vs = [.ref a] ∧ SqL K H a (ns.map V.int) ∧ ns.length ≤ 63 ∧ (∀ z ∈ ns, Builtin.Int.intBits z ≤ 1048576) ∧ ∀ H', Q (.bl true) H'
theorem law_fn {P w K mg base CX k f fd ps} {fs : List D → Sto → R (D × Nat)} (F : FnG P w K mg base CX k f fd ps (spD K 1 fs))
    (h : ∀ ns : List Int, ns.length ≤ 63 → (∀ z ∈ ns, Builtin.Int.intBits z ≤ 1048576) → ∃ l s, fs [.scr ns] [] = .ok (.bl true, l) s) : FnG P w K mg base CX k f fd ps (spLaw K) :=
  F.imp fun vs H Q E ⟨a, ns, hv, hs, hl, hb, q⟩ => by
    obtain ⟨l, s, e⟩ := h ns hl hb
    refine ⟨[], [], [], [.scr ns], ⟨rfl, by simp, by simp, by simp, fun i a c e => by simp at e⟩, ?_, rfl, ?_⟩
    · rw [hv]
      unfold RepL
      refine ⟨.ref a, [], rfl, ?_, by unfold RepL; rfl⟩
      unfold Rep
      exact ⟨a, rfl, hs.imp (fun h => ⟨⟨by simp, by simp⟩, h⟩) fun h _ => .inr h⟩
    · rw [e]
      intro v H' _ _ rv _
      rw [rep_bl.mp rv]
      exact q H'
/-- the script is handed over -/
theorem law_in {P : Program} {w : World} {K : PySem.W.Frag} {mg mb : Str → Option Value} {k : Nat} {fa a : Addr} {fd : FuncData} {x : Str} {s₁ : Shared} {vs : List Value} {ns : List Int}
    (KX : K.In s₁.heap) (hns : s₁.heap.Ns mainGlobals mg) (hb : s₁.heap.Ns builtinsNs mb) (hbb : ∀ x : Str, x ≠ "__name__" → mb x = bootBuiltins x) (hlim : s₁.heap.NoLimit) (hg : s₁.gens = #[])
    (ha : s₁.heap.get? a = some { cls := .type "list", data := .seq vs.toArray }) (hi : IntsAre vs ns) (h63 : ns.length ≤ 63) (hbits : ∀ z ∈ ns, Builtin.Int.intBits z ≤ 1048576) (hr : Room k callerA)
    (F : ∀ base : Heap, K.In base → base.Ns mainGlobals mg → FnG P w K mg base CX0 k fa fd [x] (spLaw K)) (hbind : ∀ (s : Shared) (u : Value), BindsTo s fd ⟨[u], []⟩ [(x, u)]) :
    codeAny (model P w) callerA (.call (.ref fa) ⟨[.ref a], []⟩) (fun r s' => r = .ok (.ret (.bool true)) ∧ OldK s₁.heap s'.heap ∧ s'.os = s₁.os ∧ AllBare s'.gens) s₁ := by
  have hsz : ns.length ≤ sizeLine := Nat.le_trans h63 (by decide)
  have key : ∀ H : Hp, Only H → SqL K H a (ns.map V.int) → HOk P w H s₁.heap → (∀ b u, H b = some u → b = a) → (∀ u, H a = some u → K.lookup a = none) →
      codeAny (model P w) callerA (.call (.ref fa) ⟨[.ref a], []⟩) (fun r s' => r = .ok (.ret (.bool true)) ∧ OldK s₁.heap s'.heap ∧ s'.os = s₁.os ∧ AllBare s'.gens) s₁ := by
    intro H only hS hok isA noK
    have dn : ∀ (b : Addr) (o : Obj) es ep, s₁.heap.get? b = some o → o.data = .dict es ep → H b = none := by
      intro b o es ep e d
      by_cases hu : ∃ u, H b = some u
      · obtain ⟨u, hu⟩ := hu
        rw [isA b u hu, ha] at e
        cases e
        exact nomatch d
      · exact Option.eq_none_iff_forall_ne_some.mpr fun u q => hu ⟨u, q⟩
    have nsKeep : ∀ (b : Addr) (m : Str → Option Value), s₁.heap.Ns b m → (hidT s₁.heap H).Ns b m := by
      rintro b m ⟨o, es, ep, e, d, r⟩
      exact ⟨o, es, ep, hidT_get e (dn b o es ep e d), d, r⟩
    have inB : K.In (hidT s₁.heap H) := by
      intro b o e
      refine hidT_get (KX b o e) (Option.eq_none_iff_forall_ne_some.mpr fun u q => ?_)
      have eb := isA b u q
      subst eb
      rw [noK u q] at e
      cases e
    obtain ⟨mc, lm1, lm2⟩ := hlim
    have md : Mod K mg (hidT s₁.heap H) := ⟨inB, nsKeep _ _ hns, ⟨mb, nsKeep _ _ hb, hbb⟩, ⟨mc, nsKeep _ _ lm1, lm2⟩⟩
    have e0 : Env0 P w K mg (hidT s₁.heap H) callerA [] s₁ H := ⟨rfl, md, fun b o e => of_hidT e, Nat.le_of_eq (hidT_size _ _), trivial, fun b hb => absurd hb (by simp [frs]), hok, .of_eq hg⟩
    have run := (F _ inB (nsKeep _ _ hns)).run callerA [] s₁ H ⟨[.ref a], []⟩ [.ref a] [.ref a] (fun v _ => v = .bl true) (fun _ _ _ => False) hr rfl e0 (hbind s₁ (.ref a)) (.cons rfl .nil) ⟨a, ns, rfl, hS, h63, hbits, fun _ => rfl⟩
    refine codeAny_mono run fun r s' hq => ?_
    match r, hq with
    | .error e, hq => exact False.elim hq
    | .ok .next, hq => exact False.elim hq
    | .ok .brk, hq => exact False.elim hq
    | .ok .cont, hq => exact False.elim hq
    | .ok (.ret u), ⟨v, H', os, bare, un, hok', r', q⟩ =>
      subst q
      cases (show u = Value.bool true from r')
      refine ⟨rfl, OldK.of_keep fun b o e => ?_, os, bare⟩
      rcases only b with z | ⟨ob, xs, z⟩
      · exact un.keep b o e z (fun q => absurd q (by simp [frs])) (by simp)
      · have f1 := (hok b _ z).1
        have f2 := (hok' b _ (un.frzs b ob _ z)).1
        rw [e] at f1
        cases f1
        exact f2
  have lenV := hi.length
  have rv := vals_ints hi
  cases hk : K.lookup a with
  | some o =>
    have e := KX a o hk
    rw [ha] at e
    cases e
    exact key (fun _ => none) (fun _ => .inl rfl) (.inr ⟨_, vs.toArray, _, hk, rfl, rfl, rfl, by rw [List.size_toArray, lenV]; exact hsz, by simpa using rv⟩) (fun b u z => nomatch z) (fun b u z => nomatch z) fun u z => nomatch z
  | none =>
    have at_a : ∀ (b : Addr) (u : HO), (if b = a then some (HO.frz { cls := .type "list", data := .seq vs.toArray } (.lst (ns.map V.int))) else none) = some u → b = a ∧ u = .frz { cls := .type "list", data := .seq vs.toArray } (.lst (ns.map V.int)) := by
      intro b u z
      by_cases hb : b = a
      · rw [if_pos hb] at z; cases z; exact ⟨hb, rfl⟩
      · rw [if_neg hb] at z; cases z
    refine key (fun b => if b = a then some (.frz { cls := .type "list", data := .seq vs.toArray } (.lst (ns.map V.int))) else none) (fun b => ?_) (.inl (.inr ⟨_, if_pos rfl⟩)) (fun b u z => ?_) (fun b u z => (at_a b u z).1) fun u _ => hk
    · by_cases hb : b = a
      · exact .inr ⟨_, _, if_pos hb⟩
      · exact .inl (if_neg hb)
    · obtain ⟨e1, e2⟩ := at_a b u z
      rw [e1, e2]
      exact ⟨ha, by rw [List.length_map]; exact hsz, vs, _, rv, ha⟩
theorem walk {l : PySem.W.OpenLaw} {q : Program} {loose : List Str} {XP : (Str → Option Value) → Heap → Prop} {YP : World → Heap → Prop} {d : DefRec} {K : Params → PySem.W.Frag} (k : Nat) (hr : Room k callerA) (hn : l.most = some 63) (hdf : d.params.defaults = [])
    (hY : ∀ (w : World) (h : Heap), YP w h → (K w.params).In h)
    (F : ∀ (w : World) (mg : Str → Option Value) (fa : Addr) (h : Heap), (K w.params).In h → h.Ns mainGlobals mg → mg d.name = some (.ref fa) →
      ∃ fd : FuncData, (∀ (s : Shared) (u : Value), BindsTo s fd ⟨[u], []⟩ [("script", u)]) ∧ ∀ base : Heap, (K w.params).In base → base.Ns mainGlobals mg → FnG l.prog w (K w.params) mg base CX0 k fa fd ["script"] (spLaw (K w.params))) :
    PySem.W.WalkO q loose XP YP l.row.toRowW d [] (fun f vs => PySem.call f vs) :=
  Att.attach_callB hn hdf fun w s₀ s₁ mg mb fa o pm cd doc a vs ns G Y ho hd hcd hmg hobj hints hlen hbits hg => by
    have KX := hY w _ Y
    obtain ⟨fd, hb, hF⟩ := F w mg fa _ KX G.T.g hmg
    exact law_in KX G.T.g G.T.b G.T.builtins G.T.nolimit hg hobj hints hlen hbits hr hF hb
end
end FX

set_option Elab.async false
set_option linter.all false
set_option maxRecDepth 100000
namespace FX
open PySem PySem.Spec PyProof.Rows L2
open Classical

noncomputable section
variable {X : Cx} {H0 : Hp} {ad0 : List Addr} {W : WX} {a b c e1 : Expr} {ev ea eb ec eo : EvE} {pos : Pos} {rest es : List Expr} {as ak : EvA}
/-! ### repr -/
def rRepr (K : PySem.W.Frag) : List V → Hp → VK → Prop := fun vs H Q => ∃ x p, vs = [x] ∧ Dp K H x p ∧ p.showable = true ∧ p.hasDict = false ∧ p.depth ≤ 40 ∧ p.shown.length ≤ sizeLine ∧ Q (.str p.shown) H
theorem cr_repr (hgd : X.A.guards = some []) (hu : X.A.units + 64 < cLine) : CallR X (.builtin "repr") (rRepr X.K) := by
  intro pins s σ H vs us Q I r h
  obtain ⟨x, p, rfl, dp, h1, h2, h3, h4, q⟩ := h
  obtain ⟨u, rfl, rx⟩ := vals1 r
  cases dp with
  | non => cases rx; exact PySem.P.repr_of_none ⟨.str _, H, I.tok _, ⟨_, rfl⟩, q⟩
  | bl b => cases rx; exact PySem.P.repr_of_bool ⟨.str _, H, I.tok _, ⟨_, rfl⟩, q⟩
  | int i =>
    obtain ⟨t, rfl⟩ := rx
    exact PySem.P.repr_of_int (by simpa [PyData.showable] using h1) ⟨.str _, H, I.tok _, ⟨_, rfl⟩, q⟩
  | str y =>
    obtain ⟨t, rfl⟩ := rx
    exact PySem.P.repr_of_str ⟨.str _, H, I.tok _, ⟨_, rfl⟩, q⟩ (by simpa only [PyData.shown] using h4)
  | lst hs ha =>
    cases rx
    obtain ⟨adr, rd⟩ := Dp.reads I _ _ _ (Dp.lst hs ha) rfl
    exact repr_of_reads' rd h1 (PyData.noDict_hsm h2) hgd (by omega) (fun _ _ e => e) (fun h' u tk k => ⟨.str _, H, I.kept k, ⟨_, rfl⟩, q⟩) h4
  | tup hs ha =>
    cases rx
    obtain ⟨adr, rd⟩ := Dp.reads I _ _ _ (Dp.tup hs ha) rfl
    exact repr_of_reads' rd h1 (PyData.noDict_hsm h2) hgd (by omega) (fun _ _ e => e) (fun h' u tk k => ⟨.str _, H, I.kept k, ⟨_, rfl⟩, q⟩) h4
def nRepr : OpN := fun s ds => match ds with
  | [x] => match datP s x with
    | some p => if p.showable = true ∧ p.hasDict = false ∧ p.depth ≤ 40 ∧ p.shown.length ≤ sizeLine then some (.str p.shown, 0) else none
    | none => none
  | _ => none
theorem c_repr (hgd : X.A.guards = some []) (hu : X.A.units + 64 < cLine) : CallSim X (.builtin "repr") nRepr := ⟨_, cr_repr hgd hu, fun ad Z s H ds vs d l Q ok rv e q => by
  unfold nRepr at e
  split at e
  · obtain ⟨v, rfl, hv⟩ := repL1 rv
    split at e
    · rename_i p hp
      split at e
      · rename_i hc
        cases e
        exact ⟨v, p, rfl, dp_vw ok hv hp, hc.1, hc.2.1, hc.2.2.1, hc.2.2.2, q _ H (Same.refl _) (by simp) (by intro z; simp at z)⟩
      · cases e
    · cases e
  · cases e⟩
/-! ### isinstance of built-in types -/
def dTy (s : Sto) (d : D) : Option String := match vw s d with
  | .non => some "NoneType" | .bl _ => some "bool" | .int _ => some "int" | .str _ => some "str"
  | .lst _ => some "list" | .scr _ => some "list" | .tup _ => some "tuple" | .dct _ _ => some "dict" | .set _ => some "set"
  | _ => none
theorem ty_of {K ad Z s H d v n} (ok : StoOk K ad Z s H) (h : Rep K ad Z H d v) (e : dTy s d = some n) : TyX K H v (.type n) := by
  have lst : ∀ ds, vw s d = .lst ds → n = "list" → TyX K H v (.type n) := by
    rintro ds hd rfl
    obtain ⟨a, vs, rfl, e1, _⟩ := lst_of ok h hd
    exact .base (.lst e1)
  have dct : ∀ ks ds, vw s d = .dct ks ds → n = "dict" → TyX K H v (.type n) := by
    rintro ks ds hd rfl
    obtain ⟨a, vs, rfl, e1, _⟩ := dct_of ok h hd
    exact .base (.dK e1)
  cases d with
  | non => rw [rep_non] at h; subst h; cases (show some "NoneType" = some n from e); exact .base .non
  | bl b => rw [rep_bl] at h; subst h; cases (show some "bool" = some n from e); exact .base (.bl b)
  | int b => rw [rep_int] at h; subst h; cases (show some "int" = some n from e); exact .base (.int b)
  | str b => rw [rep_str] at h; subst h; cases (show some "str" = some n from e); exact .base (.str b)
  | lst ds => exact lst ds rfl (by cases (show some "list" = some n from e); rfl)
  | dct ks ds => exact dct ks ds rfl (by cases (show some "dict" = some n from e); rfl)
  | tup ds =>
    cases (show some "tuple" = some n from e)
    obtain ⟨a, vs, rfl, e1, _⟩ := tup_of h
    exact .base (.tup e1)
  | set xs =>
    cases (show some "set" = some n from e)
    unfold Rep at h
    obtain ⟨a, S, rfl, _, e1, _⟩ := h
    exact .set e1
  | scr ns =>
    cases (show some "list" = some n from e)
    obtain ⟨a, rfl, e1⟩ := scr_of h
    rcases e1 with (e1 | ⟨o, e1⟩) | ⟨o, its, m, e1, e2, _⟩
    · exact .base (.lst e1)
    · exact .base (.frz e1)
    · exact .kList e1 e2
  | hnd i =>
    have h' := h
    unfold Rep at h'
    obtain ⟨a, ha, rfl⟩ := h'
    cases hd : vw s (.hnd i) with
    | lst ds => exact lst ds hd (by unfold dTy at e; rw [hd] at e; cases e; rfl)
    | dct ks ds => exact dct ks ds hd (by unfold dTy at e; rw [hd] at e; cases e; rfl)
    | set xs =>
      unfold dTy at e; rw [hd] at e; cases e
      obtain ⟨b, hb, c⟩ := cell_vw ok ⟨a, ha⟩ hd
      rw [ha] at hb; cases hb
      obtain ⟨S, e1, _⟩ := c
      exact .set e1
    | _ =>
      obtain ⟨b, hb, c⟩ := cell_vw ok ⟨a, ha⟩ hd
      exact c.elim
  | ty n => cases (show (none : Option String) = some _ from e)
  | con n => cases (show (none : Option String) = some _ from e)
def nIsi : OpN := fun s ds => match ds with
  | [x, .ty t] => (dTy s x).bind fun n => (kitB n t).map fun b => (.bl b, 0)
  | _ => none
theorem c_isi : CallSim X (.builtin "isinstance") nIsi := ⟨_, call_isi, fun ad Z s H ds vs d l Q ok rv e q => by
  unfold nIsi at e
  split at e
  · rename_i x t
    obtain ⟨v, v', rfl, h1, h2⟩ := repL2 rv
    obtain ⟨n, e1, e⟩ := Option.bind_eq_some_iff.mp e
    obtain ⟨bb, e2, e⟩ := Option.map_eq_some_iff.mp e
    cases e
    rw [rep_ty] at h2
    subst h2
    exact ⟨v, .ty t, .type n, .type t, bb, rfl, .ty t, ty_of ok h1 e1, kit_ty e2, q _ H (Same.refl _) (by simp) (by intro z; simp at z)⟩
  · cases e⟩
/-! ### all, any -/
def ofBls : List D → Option (List Bool)
  | [] => some []
  | .bl b :: r => (ofBls r).map (b :: ·)
  | _ => none
theorem ofBls_eq : ∀ {ds : List D} {bs : List Bool}, ofBls ds = some bs → ds = bs.map .bl
  | [], ns, h => by unfold ofBls at h; cases h; rfl
  | d :: r, ns, h => by
    cases d with
    | bl i =>
      unfold ofBls at h
      obtain ⟨m, h1, rfl⟩ := Option.map_eq_some_iff.mp h
      rw [ofBls_eq h1]; rfl
    | _ => unfold ofBls at h; cases h
theorem ofBls_map : ∀ bs : List Bool, ofBls (bs.map .bl) = some bs
  | [] => rfl
  | n :: r => by show (ofBls (r.map .bl)).map (n :: ·) = _; rw [ofBls_map r]; rfl
theorem RepL.bls {K ad Z H} : ∀ {bs : List Bool} {vs : List V}, RepL K ad Z H (bs.map D.bl) vs → vs = bs.map V.bl
  | [], vs, h => by
    have h : RepL K ad Z H [] vs := h
    unfold RepL at h; exact h
  | n :: r, vs, h => by
    have h : RepL K ad Z H (.bl n :: r.map D.bl) vs := h
    unfold RepL at h
    obtain ⟨v, w, rfl, h1, h2⟩ := h
    rw [rep_bl.mp h1, RepL.bls h2]; rfl
def nBlsOf (s : Sto) (ds : List D) : Option (List Bool) := match ds with
  | [x] => match vw s x with
    | .lst xs => ofBls xs
    | _ => none
  | _ => none
theorem blsOf_rep {K ad Z s H ds vs ns} (ok : StoOk K ad Z s H) (rv : RepL K ad Z H ds vs) (e : nBlsOf s ds = some ns) : ∃ a, vs = [.ref a] ∧ H a = some (.lst (ns.map V.bl)) := by
  unfold nBlsOf at e
  split at e
  · obtain ⟨v, rfl, hv⟩ := repL1 rv
    split at e
    · rename_i xs hx
      obtain ⟨a, ws, rfl, e1, e2⟩ := lst_of ok hv hx
      rw [ofBls_eq e] at e2
      rw [RepL.bls e2] at e1
      exact ⟨a, rfl, e1⟩
    · cases e
  · cases e
def nAll : OpN := fun s ds => (nBlsOf s ds).map fun bs => (.bl (bs.all id), 0)
def nAny : OpN := fun s ds => (nBlsOf s ds).map fun bs => (.bl (bs.any id), 0)
theorem c_all (hc : X.calm = true) : CallSim X (.builtin "all") nAll := ⟨_, cr_all hc, fun ad Z s H ds vs d l Q ok rv e q => by
  obtain ⟨ns, h1, e⟩ := Option.map_eq_some_iff.mp e
  cases e
  obtain ⟨a, rfl, e1⟩ := blsOf_rep ok rv h1
  exact ⟨a, ns, rfl, .inl (.inl e1), q _ H (Same.refl _) (by simp) (by intro z; simp at z)⟩⟩
theorem c_any (hc : X.calm = true) : CallSim X (.builtin "any") nAny := ⟨_, cr_any hc, fun ad Z s H ds vs d l Q ok rv e q => by
  obtain ⟨ns, h1, e⟩ := Option.map_eq_some_iff.mp e
  cases e
  obtain ⟨a, rfl, e1⟩ := blsOf_rep ok rv h1
  exact ⟨a, ns, rfl, .inl (.inl e1), q _ H (Same.refl _) (by simp) (by intro z; simp at z)⟩⟩
/-! ### more -/
def eNeg (a : EvE) : EvE := fun e => (a e).bind fun x s1 => match x.1 with | .int i => .ok (.int (-i), 0) s1 | _ => .bad
theorem sim_neg (ha : PE X a (tE X.K H0 ad0 W ea)) : PE X (.UnaryOp .USub a pos) (tE X.K H0 ad0 W (eNeg ea)) := by
  refine pe_mono (pe_un un_neg ha) fun σ H Q ⟨Z, ad, e, rel, h⟩ => ⟨Z, ad, e, rel, (post_bind h).mono fun x ad1 s1 H1 ⟨st1, rel1, h1⟩ v rv l1 l2 => ?_⟩
  obtain ⟨d, l⟩ := x
  cases d with
  | int i => exact ⟨i, rep_int.mp rv, (h1 H1 ad1 .refl rel1).2.2 _ (by simp) (by intro z; simp at z) (by intro z; simp at z)⟩
  | _ => exact h1.elim
def sNever : EvS := fun _ => .bad
theorem sim_never {st : Stmt} : PS X st (tS X.K H0 ad0 W sNever) := ps_mono ps_never fun D σ H ⟨Z, ad, e, rel, h⟩ => h.elim
/-! ### while -/
def whileS (c : EvT) (body : EvS) : Nat → En → RS
  | 0, _ => .bad
  | n + 1, e => (c e).toS e fun t e1 => if t = true then loopK (whileS c body n) (body e1) else .nx e1
def sWhile (c : EvT) (body : EvS) : EvS := fun e => if h : ∃ n, whileS c body n e ≠ .bad then whileS c body h.choose e else .bad
theorem whileS_mono {c : EvT} {body : EvS} : ∀ {n m : Nat} {e : En}, n ≤ m → whileS c body n e ≠ .bad → whileS c body m e = whileS c body n e
  | 0, _, _, _, h => absurd rfl h
  | n + 1, 0, _, l, _ => absurd l (by omega)
  | n + 1, m + 1, e, l, h => by
    unfold whileS at h ⊢
    cases hc : c e with
    | bad => rfl
    | exc C fs s => rfl
    | ok t s1 =>
      rw [hc] at h
      simp only [R.toS_ok] at h ⊢
      cases t with
      | false => rfl
      | true =>
        simp only [if_true] at h ⊢
        cases hb : body ⟨e.loc, s1⟩ with
        | nx e2 => rw [hb] at h; exact whileS_mono (by omega) h
        | cnt e2 => rw [hb] at h; exact whileS_mono (by omega) h
        | _ => rfl
theorem sWhile_eq {c : EvT} {body : EvS} {n : Nat} {e : En} (h : whileS c body n e ≠ .bad) : sWhile c body e = whileS c body n e := by
  have hx : ∃ n, whileS c body n e ≠ .bad := ⟨n, h⟩
  unfold sWhile
  rw [dif_pos hx]
  rcases Nat.le_total n hx.choose with l | l
  · exact whileS_mono l h
  · exact (whileS_mono l hx.choose_spec).symm
theorem sim_while {c : Expr} {sts : List Stmt} {ec : EvT} {body : EvS} (hp : PassesOwn (model X.prog X.w) X.A X.env X.xe) (hc : PT X c (tTs X.K H0 ad0 W ec)) (hb : PSs X sts (tS X.K H0 ad0 W body)) : PS X (.While c sts [] pos) (tS X.K H0 ad0 W (sWhile ec body)) := by
  refine ps_mono (ps_while hp hc hb) fun Dn σ H ⟨Z, ad, e, rel, h⟩ => ?_
  by_cases hx : ∃ n, whileS ec body n e ≠ .bad
  · unfold sWhile at h
    rw [dif_pos hx] at h
    generalize hx.choose = n at h
    refine ⟨fun m σ' H' => ∃ ad' e', Step ad H ad' H' ∧ Rel X.K H0 ad0 ad' Z e' σ' H' ∧ postS X.K H0 ad0 W ad' Z H' (whileS ec body m e') Dn, ⟨n, ad, e, .refl, rel, h⟩, ?_⟩
    rintro m σ' H' ⟨ad', e', st, rel', h'⟩
    cases m with
    | zero => exact h'.elim
    | succ m =>
      unfold whileS at h'
      refine ⟨Z, ad', e', rel', (postS_toS h').mono fun t ad1 s1 H1 ⟨st1, rel1, h1⟩ => ?_⟩
      cases t with
      | false => exact iteF (h1 σ' H1 ad1 .refl rel1)
      | true =>
        have h1 : postS X.K H0 ad0 W ad1 Z H1 (loopK (whileS ec body m) (body ⟨e'.loc, s1⟩)) Dn := h1
        refine iteT ⟨fun σ2 H2 => ∃ ad' e', Step ad H ad' H2 ∧ Rel X.K H0 ad0 ad' Z e' σ2 H2 ∧ postS X.K H0 ad0 W ad' Z H2 (whileS ec body m e') Dn, fun σ2 H2 hN => ⟨m, Nat.lt_succ_self m, hN⟩, Z, ad1, ⟨e'.loc, s1⟩, rel1, ?_⟩
        cases hbd : body ⟨e'.loc, s1⟩ with
        | nx e2 =>
          rw [hbd] at h1
          exact fun σ2 H2 ad2 st2 rel2 => ⟨ad2, e2, rel'.tr st (rel1.tr st1 st2), rel2, postS_later st2 rel2.sto.dom h1⟩
        | cnt e2 =>
          rw [hbd] at h1
          exact fun σ2 H2 ad2 st2 rel2 => ⟨ad2, e2, rel'.tr st (rel1.tr st1 st2), rel2, postS_later st2 rel2.sto.dom h1⟩
        | brk e2 => rw [hbd] at h1; exact fun σ2 H2 ad2 st2 rel2 => h1 σ2 H2 ad2 st2 rel2
        | ret d l s2 => rw [hbd] at h1; exact fun v H2 ad2 st2 => h1 v H2 ad2 st2
        | exc C fs e2 => rw [hbd] at h1; exact fun od σ2 H2 ad2 st2 => h1 od σ2 H2 ad2 st2
        | bad => rw [hbd] at h1; exact h1.elim
  · unfold sWhile at h
    rw [dif_neg hx] at h
    exact h.elim
end
end FX

set_option Elab.async false
set_option linter.all false
set_option maxRecDepth 100000
namespace FX
open PySem PySem.Spec PyProof.Rows L2
open Classical
noncomputable section
variable {X : Cx} {H0 : Hp} {ad0 : List Addr} {W : WX} {a b c e1 : Expr} {ev ea eb ec eo : EvE} {pos : Pos} {rest es : List Expr} {as ak : EvA}
theorem sim_ptsone {c : Expr} {ec : EvT} (h : PT X c (tTs X.K H0 ad0 W0 ec)) : PTs X [c] (tTs X.K H0 ad0 W0 ec) := ⟨fun pins s σ H Q I q => (pts_one h).run pins s σ H Q I q⟩
end
end FX

set_option Elab.async false
set_option linter.all false
set_option maxRecDepth 100000
namespace FX
open PySem PySem.Spec PyProof.Rows L2
open Classical
section
variable {e : En} {s s' : Sto} {i j : Nat} {d x y : D} {l : Nat} {a b c : EvE} {as : EvA} {tt uu : EvT} {g g' : Op2} {ds : List D}
@[simp] theorem ap_var : eVar i e = (match e.loc[i]? with | some (some (d, y)) => .ok (d, if y = true then 1 else 0) e.sto | _ => .bad) := rfl
@[simp] theorem ap_C : eC d e = .ok (d, 0) e.sto := rfl
@[simp] theorem ap_bin : eBin g a b e = (a e).bind fun x s1 => (b ⟨e.loc, s1⟩).bind fun y s2 => ofO (g s2 x.1 y.1) s2 := rfl
@[simp] theorem ap_chain : eChain g g' a b c e = (a e).bind fun x s1 => (b ⟨e.loc, s1⟩).bind fun y s2 => (ofO (g s2 x.1 y.1) s2).bind fun t s3 => (match t.1 with
  | .bl true => (c ⟨e.loc, s3⟩).bind fun z s4 => ofO (g' s4 y.1 z.1) s4
  | .bl false => .ok (.bl false, 0) s3
  | _ => .bad) := rfl
@[simp] theorem ap_tst : tst a e = (a e).bind fun x s => (match x.1 with | .bl b => .ok b s | _ => .bad) := rfl
@[simp] theorem ap_tru : tru a e = (a e).bind fun x s => ofO (dTru s x.1) s := rfl
@[simp] theorem ap_andS : tAndS tt uu e = (tt e).bind fun c s1 => if c = true then uu ⟨e.loc, s1⟩ else .ok false s1 := rfl
@[simp] theorem ap_orS : tOrS tt uu e = (tt e).bind fun c s1 => if c = true then .ok true s1 else uu ⟨e.loc, s1⟩ := rfl
@[simp] theorem ap_notS : tNotS tt e = (tt e).bind fun c s1 => .ok (!c) s1 := rfl
@[simp] theorem ap_and : eAnd a b e = (a e).bind fun x s1 => (ofO (dTru s1 x.1) s1).bind fun t s2 => if t = true then b ⟨e.loc, s2⟩ else .ok (x.1, min x.2 1) s2 := rfl
@[simp] theorem ap_or : eOr a b e = (a e).bind fun x s1 => (ofO (dTru s1 x.1) s1).bind fun t s2 => if t = true then .ok (x.1, min x.2 1) s2 else b ⟨e.loc, s2⟩ := rfl
@[simp] theorem ap_not : eNot a e = (a e).bind fun x s1 => (ofO (dTru s1 x.1) s1).bind fun t s2 => .ok (.bl (!t), 0) s2 := rfl
@[simp] theorem ap_if : eIf tt a b e = (tt e).bind fun t s1 => if t = true then a ⟨e.loc, s1⟩ else b ⟨e.loc, s1⟩ := rfl
@[simp] theorem ap_neg : eNeg a e = (a e).bind fun x s1 => (match x.1 with | .int i => .ok (.int (-i), 0) s1 | _ => .bad) := rfl
@[simp] theorem ap_anil : aNilE e = .ok [] e.sto := rfl
@[simp] theorem ap_acons : aConsE a as e = (a e).bind fun x s1 => (as ⟨e.loc, s1⟩).bind fun ds s2 => .ok (x.1 :: ds) s2 := rfl
@[simp] theorem ap_lst : eLst as e = (as e).bind fun ds s1 => if ds.length ≤ sizeLine then .ok (.lst ds, 2) s1 else .bad := rfl
@[simp] theorem ap_tup : eTup as e = (as e).bind fun ds s1 => if ds.length ≤ sizeLine then .ok (.tup ds, 2) s1 else .bad := rfl
@[simp] theorem ap_lstH : eLstH as e = (as e).bind fun ds s1 => if ds.length ≤ sizeLine then .ok (.hnd s1.length, 1) (s1 ++ [.lst ds]) else .bad := rfl
@[simp] theorem ap_thaw : eThaw a e = (a e).bind thawR := rfl
@[simp] theorem ap_cb {g : OpN} : eCB g as e = (as e).bind fun ds s1 => ofO (g s1 ds) s1 := rfl
@[simp] theorem ap_call {f} : eCall f as e = (as e).bind fun ds s1 => (f ds s1).bind fun x s2 => .ok (x.1, if 1 ≤ x.2 then 2 else 0) s2 := rfl
@[simp] theorem ap_callK {f n pm} : eCallK f n pm as e = (as e).bind fun ds s1 => if ds.length = n then (f (pm.filterMap (ds[·]?)) s1).bind fun x s2 => .ok (x.1, if 1 ≤ x.2 then 2 else 0) s2 else .bad := rfl
@[simp] theorem ap_sl {lo hi : EvO} : eSl a lo hi e = (a e).bind fun x s1 => (lo ⟨e.loc, s1⟩).bind fun l s2 => (hi ⟨e.loc, s2⟩).bind fun u s3 => (match vw s3 x.1 with | .lst ds => .ok (.lst (cutD ds l u), 2) s3 | _ => .bad) := rfl
@[simp] theorem ap_ono : oNo e = .ok none e.sto := rfl
@[simp] theorem ap_osome : oSome a e = (a e).bind fun x s1 => (match x.1 with | .int i => .ok (some i) s1 | _ => .bad) := rfl
@[simp] theorem ap_seq {p q : EvS} : sSeq p q e = (match p e with | .nx e' => q e' | r => r) := rfl
@[simp] theorem ap_nil : sNil e = .nx e := rfl
@[simp] theorem ap_set : sSet i a e = (a e).toS e fun x e1 => .nx (e1.put i x.1 (decide (1 ≤ x.2))) := rfl
@[simp] theorem ap_expr : sExpr a e = (a e).toS e fun _ e1 => .nx e1 := rfl
@[simp] theorem ap_ret : sRet a e = (a e).toS e fun x e1 => .ret x.1 x.2 e1.sto := rfl
@[simp] theorem ap_sif {p q : EvS} : sIf tt p q e = (tt e).toS e fun t e1 => if t = true then p e1 else q e1 := rfl
@[simp] theorem ap_never : sNever e = .bad := rfl
@[simp] theorem ap_for {it : EvI} {asg : Asg} {p : EvS} : sFor it asg p e = (it e).toS e fun x e1 => loopS x.2 asg p x.1 e1 := rfl
@[simp] theorem ap_comp {it : EvI} {asg : Asg} {own : List Nat} : eComp it asg tt a own e = (it e).bind fun x s1 => (compL x.2 asg tt a (wipeL e.loc own) x.1 [] s1).bind fun acc s2 => .ok (.lst acc, 2) s2 := rfl
@[simp] theorem ap_itseq : itSeq a e = (a e).bind fun x s1 => (match vw s1 x.1 with
  | .lst ds => .ok (ds, fun (s : Sto) => vw s x.1 = .lst ds) s1
  | .tup ds => .ok (ds, fun (_ : Sto) => True) s1
  | .scr ns => .ok (ns.map D.int, fun (_ : Sto) => True) s1
  | _ => .bad) := rfl
@[simp] theorem ap_itrange : itRange as e = (as e).bind fun ds s1 => (match ds with
  | [.int j] => if -(2 ^ 62) ≤ j ∧ j < 2 ^ 62 then .ok (rangeD 0 j.toNat, fun (_ : Sto) => True) s1 else .bad
  | _ => .bad) := rfl
@[simp] theorem ap_setix {v o i : EvE} : sSetIx v o i e = (v e).toS e fun x e1 => (o e1).toS e1 fun y e2 => (i e2).toS e2 fun z e3 => (match y.1, z.1 with
  | .hnd h, .int k => (match rd e3.sto h with
    | .lst ds => (match ixN ds.length k with
      | some j => .nx ⟨e3.loc, e3.sto.set h (.lst (ds.set j x.1))⟩
      | none => .bad)
    | _ => .bad)
  | _, _ => .bad) := rfl
@[simp] theorem ap_put {y : Bool} : (e.put i d y) = ⟨e.loc.set i (some (d, y)), e.sto⟩ := rfl
@[simp] theorem ap_aname : aName i d e = some ⟨e.loc.set i (some (d, false)), e.sto⟩ := rfl
@[simp] theorem vw_hnd : vw s (.hnd i) = rd s i := rfl
@[simp] theorem vw_lst : vw s (.lst ds) = .lst ds := rfl
@[simp] theorem vw_tup' : vw s (.tup ds) = .tup ds := rfl
@[simp] theorem vw_int {i : Int} : vw s (.int i) = .int i := rfl
@[simp] theorem vw_bl {i : Bool} : vw s (.bl i) = .bl i := rfl
@[simp] theorem vw_non : vw s .non = .non := rfl
@[simp] theorem vw_str {i : Str} : vw s (.str i) = .str i := rfl
@[simp] theorem vw_scr' {i : List Int} : vw s (.scr i) = .scr i := rfl
section
variable {m n k : Int}
@[simp] theorem gAdd_i : gAdd s (.int m) (.int n) = some (.int (m + n), 0) := by unfold gAdd gOr gAddI gI; simp
@[simp] theorem gSub_i : gSub s (.int m) (.int n) = some (.int (m - n), 0) := by unfold gSub gI; simp
theorem gMul_i (h : sz m) (h' : sz n) : gMul s (.int m) (.int n) = some (.int (m * n), 0) := by unfold gMul gOr gMulI gI; simp [h, h']
theorem gDiv_i (h : 0 < n) (h' : n.natAbs.log2 < 9000) : gDiv s (.int m) (.int n) = some (.int (m / n), 0) := by unfold gDiv gI; simp [h, h']
@[simp] theorem gMod_i (h : 0 < n) : gMod s (.int m) (.int n) = some (.int (m % n), 0) := by unfold gMod gI; simp [h]
theorem gPow_i (h : 0 ≤ n) (h' : n ≤ 100) (h2 : szP m) : gPow s (.int m) (.int n) = some (.int (m ^ n.toNat), 0) := by unfold gPow gI CPowW; simp [h, h', h2]
@[simp] theorem gLt_i : gLt s (.int m) (.int n) = some (.bl (decide (m < n)), 0) := by unfold gLt gI; simp
@[simp] theorem gLe_i : gLe s (.int m) (.int n) = some (.bl (decide (m ≤ n)), 0) := by unfold gLe gI; simp
@[simp] theorem gGt_i : gGt s (.int m) (.int n) = some (.bl (decide (n < m)), 0) := by unfold gGt gI; simp
@[simp] theorem gGe_i : gGe s (.int m) (.int n) = some (.bl (decide (n ≤ m)), 0) := by unfold gGe gI; simp
theorem sz_of {c : Nat} (h : m.natAbs < 2 ^ c) (hc : 0 < c) (hl : c ≤ 40000000) : sz m := by
  unfold sz
  exact Nat.lt_of_lt_of_le (PySem.Flt.log2_lt_of hc h) hl
/-- below 2 ^ 250 -/
theorem sz_le (h : -(2 ^ 250) < m) (h' : m < 2 ^ 250) : sz m := sz_of (c := 250) (by omega) (by decide) (by decide)
theorem szP_le (h : -(2 ^ 250) < m) (h' : m < 2 ^ 250) : szP m := by
  unfold szP
  exact Nat.lt_of_lt_of_le (PySem.Flt.log2_lt_of (k := 250) (by decide) (by omega)) (by decide)
theorem log_le (h : 0 < m) (h' : m < 2 ^ 250) : m.natAbs.log2 < 9000 := Nat.lt_of_lt_of_le (PySem.Flt.log2_lt_of (k := 250) (by decide) (by omega)) (by decide)
theorem gIx_l {p : D} (h : vw s d = .lst ds) (h' : atI ds k = some p) : gIx s d (.int k) = some (p, 0) := by unfold gIx; simp [h, h']
theorem atI_0 {α : Type} {x : α} {r : List α} : atI (x :: r) 0 = some x := atI_nat (j := 0) rfl
theorem atI_1 {α : Type} {x y : α} {r : List α} : atI (x :: y :: r) 1 = some y := atI_nat (j := 1) rfl
theorem atI_2 {α : Type} {x y z : α} {r : List α} : atI (x :: y :: z :: r) 2 = some z := atI_nat (j := 2) rfl
end
end
end FX

set_option Elab.async false
set_option linter.all false
set_option maxRecDepth 100000
namespace FX
open PySem PySem.Spec PyProof.Rows L2
open Classical
/-- no cell refers to a cell behind the store -/
def NH (s : Sto) : Prop := noHs s.length s = true
theorem noHs_mem {n : Nat} : ∀ {l : List D}, noHs n l = true ↔ ∀ d ∈ l, noH n d = true
  | [] => by simp [noHs]
  | d :: l => by unfold noHs; rw [Bool.and_eq_true, noHs_mem]; simp
theorem trR_of {n : Nat} {d : D} {l : Nat} {s' s : Sto} (h1 : s'.take n = s) (h2 : noHs n s = true) (h3 : noH n d = true) (h4 : ∀ i, d ≠ .hnd i) : trR n d l s' = .ok (d, l) s := by
  unfold trR
  rw [h1, if_pos h2]
  cases d with
  | hnd i => exact absurd rfl (h4 i)
  | _ => simp only; rw [if_pos h3]
theorem trR_hnd {n j : Nat} {l : Nat} {s' s : Sto} {ds : List D} (h1 : s'.take n = s) (h2 : noHs n s = true) (h3 : n ≤ j) (h4 : rd s' j = .lst ds) (h5 : noHs n ds = true) : trR n (.hnd j) l s' = .ok (.lst ds, 1) s := by
  unfold trR
  rw [h1, if_pos h2]
  simp only
  rw [if_neg (by omega), h4]
  simp only
  rw [if_pos h5]
theorem trR_s {d : D} {l : Nat} {s : Sto} (h : NH s) (h3 : noH s.length d = true) (h4 : ∀ i, d ≠ .hnd i) : trR s.length d l s = .ok (d, l) s := trR_of (List.take_length) h h3 h4
@[simp] theorem noH_int {n : Nat} {i : Int} : noH n (.int i) = true := rfl
@[simp] theorem noH_bl {n : Nat} {i : Bool} : noH n (.bl i) = true := rfl
@[simp] theorem noH_non {n : Nat} : noH n .non = true := rfl
@[simp] theorem noH_str {n : Nat} {i : Str} : noH n (.str i) = true := rfl
theorem noH_ints {n : Nat} {ns : List Int} : noH n (.lst (ns.map .int)) = true := by unfold noH; exact noHs_ints n ns
@[simp] theorem dTru_bl {s : Sto} {b : Bool} : dTru s (.bl b) = some b := rfl
@[simp] theorem dTru_int {s : Sto} {b : Int} : dTru s (.int b) = some (b != 0) := rfl
theorem kit_ib : kitB "int" "bool" = some false := by decide +kernel
theorem kit_ii : kitB "int" "int" = some true := by decide +kernel
theorem kit_bb : kitB "bool" "bool" = some true := by decide +kernel
theorem kit_bi : kitB "bool" "int" = some true := by decide +kernel
theorem kit_ll : kitB "list" "list" = some true := by decide +kernel
@[simp] theorem isi_ib {s : Sto} {i : Int} : nIsi s [.int i, .ty "bool"] = some (.bl false, 0) := by simp [nIsi, dTy, kit_ib]
@[simp] theorem isi_ii {s : Sto} {i : Int} : nIsi s [.int i, .ty "int"] = some (.bl true, 0) := by simp [nIsi, dTy, kit_ii]
theorem isi_ll {s : Sto} {d : D} {ds : List D} (h : vw s d = .lst ds) : nIsi s [d, .ty "list"] = some (.bl true, 0) := by simp [nIsi, dTy, h, kit_ll]
/-- a loop that runs through -/
theorem loop_run {G : Sto → Prop} {asg : Asg} {body : EvS} (I : Nat → En → Prop) : ∀ (ds : List D) (k : Nat) (e : En), I k e → (∀ i e, k ≤ i → i ≤ k + ds.length → I i e → G e.sto) →
    (∀ (i : Nat) (d : D) (e : En), ds[i]? = some d → I (k + i) e → ∃ e1, asg d e = some e1 ∧ ∃ e2, (body e1 = .nx e2 ∨ body e1 = .cnt e2) ∧ I (k + i + 1) e2) →
    ∃ e', loopS G asg body ds e = .nx e' ∧ I (k + ds.length) e'
  | [], k, e, h, hG, _ => ⟨e, by unfold loopS; rw [if_pos (hG k e (Nat.le_refl _) (Nat.le_add_right _ _) h)], h⟩
  | d :: ds, k, e, h, hG, st => by
    obtain ⟨e1, h1, e2, h2, h3⟩ := st 0 d e rfl h
    obtain ⟨e', h4, h5⟩ := loop_run (G := G) (asg := asg) (body := body) I ds (k + 1) e2 h3 (fun i e a b => hG i e (by omega) (by simp; omega)) fun i d' e hd hi => by
      have := st (i + 1) d' e (by simpa using hd) (by rw [show k + (i + 1) = k + 1 + i by omega]; exact hi)
      rw [show k + (i + 1) + 1 = k + 1 + i + 1 by omega] at this
      exact this
    refine ⟨e', ?_, by simpa [Nat.add_assoc, Nat.add_comm 1] using h5⟩
    unfold loopS
    rw [if_pos (hG k e (Nat.le_refl _) (Nat.le_add_right _ _) h), h1]
    simp only
    rcases h2 with h2 | h2
    · rw [h2]; exact h4
    · rw [h2]; exact h4
/-- a loop over all items, with what holds of the items taken -/
theorem loop_all {G : Sto → Prop} {asg : Asg} {body : EvS} {ds : List D} {e : En} (I : Nat → En → Prop) (h0 : I 0 e) (hG : ∀ i e, i ≤ ds.length → I i e → G e.sto)
    (st : ∀ (i : Nat) (d : D) (e : En), ds[i]? = some d → I i e → ∃ e1, asg d e = some e1 ∧ ∃ e2, (body e1 = .nx e2 ∨ body e1 = .cnt e2) ∧ I (i + 1) e2) :
    ∃ e', loopS G asg body ds e = .nx e' ∧ I ds.length e' := by
  have := loop_run (G := G) (asg := asg) (body := body) I ds 0 e h0 (fun i e _ b => hG i e (by omega)) fun i d e hd hi => by
    rw [Nat.zero_add] at hi ⊢
    exact st i d e hd hi
  rwa [Nat.zero_add] at this
/-- a comprehension that runs through, without a test -/
theorem comp_map {G : Sto → Prop} {asg : Asg} {el : EvE} {loc : List (Option (D × Bool))} {s : Sto} (f : D → D) : ∀ (ds acc : List D), G s → acc.length + ds.length ≤ sizeLine →
    (∀ d ∈ ds, ∃ e1 l, asg d ⟨loc, s⟩ = some e1 ∧ e1.sto = s ∧ el e1 = .ok (f d, l) s) → compL G asg cYes el loc ds acc s = .ok (acc ++ ds.map f) s
  | [], acc, hG, _, _ => by unfold compL; rw [if_pos hG]; simp
  | d :: ds, acc, hG, hz, h => by
    obtain ⟨e1, l, h1, h2, h3⟩ := h d (by simp)
    unfold compL
    rw [if_pos hG, h1]
    simp only [cYes, R.bindN_ok, if_true]
    rw [show (⟨e1.loc, e1.sto⟩ : En) = e1 from rfl, h3]
    simp only [R.bindN_ok]
    rw [if_pos (by simp at hz; omega), comp_map f ds (acc ++ [f d]) hG (by simp at hz ⊢; omega) fun d' hd => h d' (List.mem_cons_of_mem _ hd)]
    simp
@[simp] theorem trR_int {i : Int} {l : Nat} {s : Sto} (h : NH s) : trR s.length (.int i) l s = .ok (.int i, l) s := trR_s h rfl fun _ q => nomatch q
@[simp] theorem trR_bl {i : Bool} {l : Nat} {s : Sto} (h : NH s) : trR s.length (.bl i) l s = .ok (.bl i, l) s := trR_s h rfl fun _ q => nomatch q
@[simp] theorem trR_non {l : Nat} {s : Sto} (h : NH s) : trR s.length .non l s = .ok (.non, l) s := trR_s h rfl fun _ q => nomatch q
@[simp] theorem trR_str {i : Str} {l : Nat} {s : Sto} (h : NH s) : trR s.length (.str i) l s = .ok (.str i, l) s := trR_s h rfl fun _ q => nomatch q
theorem trR_ints {i : List Int} {l : Nat} {s : Sto} (h : NH s) : trR s.length (.lst (i.map .int)) l s = .ok (.lst (i.map .int), l) s := trR_s h (noH_ints) fun _ q => nomatch q
/-- a turn goes on -/
def Nx (I : En → Prop) : RS → Prop
  | .nx e => I e
  | .cnt e => I e
  | _ => False
@[simp] theorem Nx_nx {I : En → Prop} {e : En} : Nx I (.nx e) = I e := rfl
@[simp] theorem Nx_cnt {I : En → Prop} {e : En} : Nx I (.cnt e) = I e := rfl
theorem loop_nx {G : Sto → Prop} {asg : Asg} {body : EvS} {ds : List D} {e : En} (I : Nat → En → Prop) (h0 : I 0 e) (hG : ∀ i e, i ≤ ds.length → I i e → G e.sto)
    (st : ∀ (i : Nat) (d : D) (e : En), ds[i]? = some d → I i e → ∃ e1, asg d e = some e1 ∧ Nx (I (i + 1)) (body e1)) : ∃ e', loopS G asg body ds e = .nx e' ∧ I ds.length e' :=
  loop_all I h0 hG fun i d e hd hi => by
    obtain ⟨e1, h1, h2⟩ := st i d e hd hi
    refine ⟨e1, h1, ?_⟩
    cases hb : body e1 with
    | nx e2 => rw [hb] at h2; exact ⟨e2, .inl rfl, h2⟩
    | cnt e2 => rw [hb] at h2; exact ⟨e2, .inr rfl, h2⟩
    | _ => rw [hb] at h2; exact h2.elim
/-- over ints -/
theorem loop_ints {G : Sto → Prop} {asg : Asg} {body : EvS} {ns : List Int} {e : En} (I : Nat → En → Prop) (h0 : I 0 e) (hG : ∀ i e, i ≤ ns.length → I i e → G e.sto)
    (st : ∀ (i : Nat) (n : Int) (e : En), ns[i]? = some n → I i e → ∃ e1, asg (.int n) e = some e1 ∧ Nx (I (i + 1)) (body e1)) : ∃ e', loopS G asg body (ns.map .int) e = .nx e' ∧ I ns.length e' := by
  have := loop_nx (G := G) (asg := asg) (body := body) (ds := ns.map .int) (e := e) I h0 (fun i e h => hG i e (by simpa using h)) fun i d e hd hi => by
    rw [List.getElem?_map] at hd
    obtain ⟨n, hn, rfl⟩ := Option.map_eq_some_iff.mp hd
    exact st i n e hn hi
  rwa [List.length_map] at this
end FX

set_option Elab.async false
set_option linter.all false
set_option maxRecDepth 100000
namespace FX
open PySem PySem.Spec PyProof.Rows L2
open Classical
/-- every cell is a list of ints -/
def AI (s : Sto) : Prop := ∀ c ∈ s, ∃ ns : List Int, c = .lst (ns.map .int)
theorem AI.nil : AI [] := fun c h => nomatch h
theorem AI.nh {s : Sto} (h : AI s) : NH s := by
  unfold NH
  rw [noHs_mem]
  intro d hd
  obtain ⟨ns, rfl⟩ := h d hd
  exact noH_ints
theorem scal_ints : ∀ ns : List Int, (ns.map D.int).all scalD = true
  | [] => rfl
  | n :: r => by rw [List.map_cons, List.all_cons, scal_ints r]; rfl
theorem flat_ints {ns : List Int} : flatC (.lst (ns.map .int)) = true := scal_ints ns
theorem AI.fl {s : Sto} (h : AI s) : s.all flatC = true := by
  rw [List.all_eq_true]
  intro d hd
  obtain ⟨ns, rfl⟩ := h d hd
  exact flat_ints
theorem AI.set {s : Sto} {i : Nat} (ns : List Int) (h : AI s) : AI (s.set i (.lst (ns.map .int))) := fun c hc => by
  rcases List.mem_or_eq_of_mem_set hc with q | q
  · exact h c q
  · exact ⟨ns, q⟩
theorem AI.app {s : Sto} (ns : List Int) (h : AI s) : AI (s ++ [.lst (ns.map .int)]) := fun c hc => by
  rcases List.mem_append.mp hc with q | q
  · exact h c q
  · exact ⟨ns, List.mem_singleton.mp q⟩
theorem AI.take {s : Sto} {n : Nat} (h : AI s) : AI (s.take n) := fun c hc => h c (List.mem_of_mem_take hc)
theorem AI.rd {s : Sto} {i : Nat} (h : AI s) (hi : i < s.length) : ∃ ns : List Int, rd s i = .lst (ns.map .int) := by
  unfold FX.rd
  rw [List.getD_eq_getElem?_getD, List.getElem?_eq_getElem hi]
  exact h _ (List.getElem_mem hi)
theorem rd_set {s : Sto} {i : Nat} {c : D} (h : i < s.length) : rd (s.set i c) i = c := by
  unfold rd; rw [List.getD_eq_getElem?_getD, List.getElem?_set_self h]; rfl
theorem rd_set_ne {s : Sto} {i j : Nat} {c : D} (h : i ≠ j) : rd (s.set i c) j = rd s j := by
  unfold rd; rw [List.getD_eq_getElem?_getD, List.getD_eq_getElem?_getD, List.getElem?_set_ne h]
theorem rd_app {s : Sto} {j : Nat} {c : List D} (h : j < s.length) : rd (s ++ c) j = rd s j := by
  unfold rd; rw [List.getD_eq_getElem?_getD, List.getD_eq_getElem?_getD, List.getElem?_append_left h]
theorem rd_new {s : Sto} {c : D} : rd (s ++ [c]) s.length = c := by
  unfold rd; rw [List.getD_eq_getElem?_getD, List.getElem?_append_right (Nat.le_refl _)]; simp
theorem rd_take {s : Sto} {n j : Nat} (h : j < n) : rd (s.take n) j = rd s j := by
  unfold rd; rw [List.getD_eq_getElem?_getD, List.getD_eq_getElem?_getD, List.getElem?_take_of_lt h]
/-- s' has the cells of s, changed at i at most, and may have more -/
structure Ex (s : Sto) (i : Nat) (s' : Sto) : Prop where
  len : s.length ≤ s'.length
  oth : ∀ j, j < s.length → j ≠ i → rd s' j = rd s j
theorem Ex.refl {s i} : Ex s i s := ⟨Nat.le_refl _, fun _ _ _ => rfl⟩
theorem Ex.trans {s i s' s''} (a : Ex s i s') (b : Ex s' i s'') : Ex s i s'' := ⟨Nat.le_trans a.len b.len, fun j h n => (b.oth j (Nat.lt_of_lt_of_le h a.len) n).trans (a.oth j h n)⟩
theorem Ex.set {s : Sto} {i : Nat} {c : D} : Ex s i (s.set i c) := ⟨by simp, fun j _ h => rd_set_ne (Ne.symm h)⟩
theorem Ex.app {s : Sto} {i : Nat} {c : List D} : Ex s i (s ++ c) := ⟨by simp, fun j h _ => rd_app h⟩
theorem Ex.cut {s i s'} (a : Ex s i s') : Ex s i (s'.take s.length) := ⟨by rw [List.length_take]; exact Nat.le_min.mpr ⟨Nat.le_refl _, a.len⟩, fun j h n => by rw [rd_take h]; exact a.oth j h n⟩
theorem trR_intc {i : Int} {l n : Nat} {s : Sto} (h : AI s) : trR n (.int i) l s = .ok (.int i, l) (s.take n) := trR_of rfl (by
  rw [noHs_mem]; intro d hd; obtain ⟨ns, rfl⟩ := h.take d hd; exact noH_ints) rfl fun _ q => nomatch q
theorem trR_blc {i : Bool} {l n : Nat} {s : Sto} (h : AI s) : trR n (.bl i) l s = .ok (.bl i, l) (s.take n) := trR_of rfl (by
  rw [noHs_mem]; intro d hd; obtain ⟨ns, rfl⟩ := h.take d hd; exact noH_ints) rfl fun _ q => nomatch q
theorem trR_nonc {l n : Nat} {s : Sto} (h : AI s) : trR n .non l s = .ok (.non, l) (s.take n) := trR_of rfl (by
  rw [noHs_mem]; intro d hd; obtain ⟨ns, rfl⟩ := h.take d hd; exact noH_ints) rfl fun _ q => nomatch q
theorem trR_intsc {i : List Int} {l n : Nat} {s : Sto} (h : AI s) : trR n (.lst (i.map .int)) l s = .ok (.lst (i.map .int), l) (s.take n) := trR_of rfl (by
  rw [noHs_mem]; intro d hd; obtain ⟨ns, rfl⟩ := h.take d hd; exact noH_ints) noH_ints fun _ q => nomatch q
theorem trR_hndc {j : Nat} {i : List Int} {l n : Nat} {s : Sto} (h : AI s) (hj : n ≤ j) (hi : rd s j = .lst (i.map .int)) : trR n (.hnd j) l s = .ok (.lst (i.map .int), 1) (s.take n) := trR_hnd rfl (by
  rw [noHs_mem]; intro d hd; obtain ⟨ns, rfl⟩ := h.take d hd; exact noH_ints) hj hi (noHs_ints _ _)
/-! ### data of ints -/
theorem toPs_ints : ∀ ns : List Int, toPs (ns.map .int) = some (ns.map .int)
  | [] => rfl
  | n :: r => by show (match toP (.int n), toPs (r.map .int) with | some x, some xs => some (x :: xs) | _, _ => none) = _; rw [toPs_ints r]; rfl
theorem datP_ints {s : Sto} {d : D} {ns : List Int} (h : vw s d = .lst (ns.map .int)) : datP s d = some (.list (ns.map .int)) := by
  unfold datP; rw [h]; unfold toP; rw [toPs_ints]; rfl
@[simp] theorem datP_int {s : Sto} {i : Int} : datP s (.int i) = some (.int i) := rfl
@[simp] theorem datP_bl {s : Sto} {i : Bool} : datP s (.bl i) = some (.bool i) := rfl
@[simp] theorem datP_non {s : Sto} : datP s .non = some .none := rfl
@[simp] theorem datP_nil {s : Sto} : datP s (.lst []) = some (.list []) := rfl
theorem canLay_ints : ∀ ns : List Int, PyData.canLayAll0 (ns.map .int) = true
  | [] => by simp [PyData.canLayAll0]
  | n :: r => by rw [List.map_cons]; unfold PyData.canLayAll0; rw [canLay_ints r]; simp [PyData.canLay0]
theorem depth_ints : ∀ ns : List Int, PyData.depthAll (ns.map .int) = 0
  | [] => by simp [PyData.depthAll]
  | n :: r => by rw [List.map_cons]; unfold PyData.depthAll; rw [depth_ints r]; simp [PyData.depth]
theorem shaped_ints {ns : List Int} : SeqAt.shaped (.list (ns.map .int)) = true := by
  unfold SeqAt.shaped PyData.canLay0 PyData.depth
  rw [canLay_ints, depth_ints]; rfl
theorem shaped_int {i : Int} : SeqAt.shaped (.int i) = true := by simp [SeqAt.shaped, PyData.canLay0, PyData.depth]
theorem shaped_bl {i : Bool} : SeqAt.shaped (.bool i) = true := by simp [SeqAt.shaped, PyData.canLay0, PyData.depth]
theorem shaped_non : SeqAt.shaped .none = true := by simp [SeqAt.shaped, PyData.canLay0, PyData.depth]
theorem eqv_ints : ∀ ns ms : List Int, PyData.eqvAll (ns.map .int) (ms.map .int) = decide (ns = ms)
  | [], [] => by simp [PyData.eqvAll]
  | [], m :: ms => by simp [PyData.eqvAll]
  | n :: ns, [] => by simp [PyData.eqvAll]
  | n :: ns, m :: ms => by
    rw [List.map_cons, List.map_cons]
    unfold PyData.eqvAll
    rw [eqv_ints ns ms]
    simp only [PyData.eqv]
    by_cases h : n = m <;> by_cases h' : ns = ms <;> simp [h, h']
theorem eqv_list {ns ms : List Int} : PyData.eqv (.list (ns.map .int)) (.list (ms.map .int)) = decide (ns = ms) := by
  unfold PyData.eqv; exact eqv_ints ns ms
/-- == of two lists of ints, of two ints -/
theorem gEq_l {s : Sto} {d e : D} {ns ms : List Int} (h : vw s d = .lst (ns.map .int)) (h' : vw s e = .lst (ms.map .int)) : gEq false s d e = some (.bl (decide (ns = ms)), 0) := by
  unfold gEq
  rw [datP_ints h, datP_ints h']
  simp [shaped_ints, eqv_list]
theorem gNe_l {s : Sto} {d e : D} {ns ms : List Int} (h : vw s d = .lst (ns.map .int)) (h' : vw s e = .lst (ms.map .int)) : gEq true s d e = some (.bl (!decide (ns = ms)), 0) := by
  unfold gEq
  rw [datP_ints h, datP_ints h']
  simp [shaped_ints, eqv_list]
@[simp] theorem gEq_i {s : Sto} {i j : Int} : gEq false s (.int i) (.int j) = some (.bl (decide (i = j)), 0) := by
  unfold gEq
  simp [shaped_int, PyData.eqv, Bool.beq_eq_decide_eq]
@[simp] theorem gNe_i {s : Sto} {i j : Int} : gEq true s (.int i) (.int j) = some (.bl (!decide (i = j)), 0) := by
  unfold gEq
  simp [shaped_int, PyData.eqv, Bool.beq_eq_decide_eq]
@[simp] theorem gEq_b {s : Sto} {i j : Bool} : gEq false s (.bl i) (.bl j) = some (.bl (decide (i = j)), 0) := by
  unfold gEq
  simp [shaped_bl, PyData.eqv, Bool.beq_eq_decide_eq]
theorem gAdd_l {s : Sto} {d e : D} {a b : List D} (h : vw s d = .lst a) (h' : vw s e = .lst b) (hz : a.length + b.length ≤ sizeLine) : gAdd s d e = some (.lst (a ++ b), 2) := by
  unfold gAdd gOr
  have h1 : gAddI s d e = none := by
    cases d <;> first | rfl | (cases h)
  rw [h1]
  unfold gAddL
  simp [h, h', hz]
theorem cut_map {α : Type} {f : α → D} {xs : List α} {lo hi : Option Int} : cutD (xs.map f) lo hi = ((xs.drop (HT.sIx xs.length 0 lo)).take (HT.sIx xs.length xs.length hi - HT.sIx xs.length 0 lo)).map f := by
  unfold cutD
  rw [List.length_map, ← List.map_drop, ← List.map_take]
theorem nSum_l {s : Sto} {d : D} {ns : List Int} (h : vw s d = .lst (ns.map .int)) : nSum s [d] = some (.int ns.sum, 0) := by
  unfold nSum nIntsOf
  simp [h, ofInts_map]
theorem nLen_l {s : Sto} {d : D} {ds : List D} (h : vw s d = .lst ds) : nLen s [d] = some (.int ds.length, 0) := by
  unfold nLen; simp [h]
@[simp] theorem nLen_scr {s : Sto} {ns : List Int} : nLen s [.scr ns] = some (.int ns.length, 0) := by unfold nLen; simp
@[simp] theorem nMax_i {s : Sto} {i j : Int} : nMax2 s [.int i, .int j] = some (.int (max i j), 0) := rfl
@[simp] theorem nMin_i {s : Sto} {i j : Int} : nMin2 s [.int i, .int j] = some (.int (min i j), 0) := rfl
@[simp] theorem nAbs_i {s : Sto} {i : Int} : nAbs s [.int i] = some (.int i.natAbs, 0) := rfl
theorem thawR_l {ns : List Int} {s : Sto} (h : AI s) : thawR (.lst (ns.map .int), 2) s = .ok (.hnd s.length, 1) (s ++ [.lst (ns.map .int)]) := by
  unfold thawR
  simp only
  rw [if_pos ⟨trivial, flat_ints, h.fl⟩]
theorem sz_bits {z : Int} (h : Builtin.Int.intBits z ≤ 1048576) : sz z := by
  unfold sz
  unfold Builtin.Int.intBits at h
  split at h
  · rename_i hz
    rw [beq_iff_eq] at hz
    subst hz
    decide
  · omega
end FX

set_option Elab.async false
set_option linter.all false
set_option maxRecDepth 100000
namespace FX
open PySem PySem.Spec PyProof.Rows L2
open Classical
/-- over a range -/
theorem loop_rng {G : Sto → Prop} {asg : Asg} {body : EvS} {n : Nat} {e : En} (I : Nat → En → Prop) (h0 : I 0 e) (hG : ∀ i e, i ≤ n → I i e → G e.sto)
    (st : ∀ (i : Nat) (e : En), i < n → I i e → ∃ e1, asg (.int i) e = some e1 ∧ Nx (I (i + 1)) (body e1)) : ∃ e', loopS G asg body (rangeD 0 n) e = .nx e' ∧ I n e' := by
  have := loop_nx (G := G) (asg := asg) (body := body) (ds := rangeD 0 n) (e := e) I h0 (fun i e h => hG i e (by simpa [rangeD] using h)) fun i d e hd hi => by
    unfold rangeD at hd
    rw [List.getElem?_map] at hd
    obtain ⟨k, hk, rfl⟩ := Option.map_eq_some_iff.mp hd
    obtain ⟨hi', hk'⟩ := List.getElem?_eq_some_iff.mp hk
    rw [List.getElem_range] at hk'
    subst hk'
    rw [Int.zero_add]
    exact st i e (by simpa using hi') hi
  unfold rangeD at this ⊢
  rwa [List.length_map, List.length_range] at this
end FX

set_option Elab.async false
set_option linter.all false
set_option maxRecDepth 100000
namespace FX
open PySem PySem.Spec PyProof.Rows L2
open Classical
theorem strOk_app {a b : Str} (h : PyData.strOk a = true) (h' : PyData.strOk b = true) : PyData.strOk (a ++ b) = true := by
  unfold PyData.strOk at *
  rw [show (a ++ b).cps = a.cps ++ b.cps from rfl, Array.all_append, h, h']; rfl
theorem strOk_of (s : String) : PyData.strOk (Str.ofString s) = true := by
  unfold PyData.strOk
  rw [Str.ofString_eq_toList]
  simp only [List.all_toArray, List.all_map, List.all_eq_true, Function.comp_apply, decide_eq_true_eq]
  intro c _
  have := c.valid
  have h2 : c.toNat = c.val.toNat := rfl
  rcases this with q | ⟨_, q⟩ <;> omega
theorem strOk_from : ∀ (ts : List Str) (k : Nat) (acc : Str), PyData.strOk acc = true → (∀ t ∈ ts, PyData.strOk t = true) → PyData.strOk (textFrom k acc ts) = true
  | [], _, _, h, _ => h
  | t :: ts, k, acc, h, hs => by
    unfold textFrom
    exact strOk_from ts (k + 1) _ (strOk_app (strOk_app h (strOk_of _)) (hs t (by simp))) fun u hu => hs u (List.mem_cons_of_mem _ hu)
theorem strOk_list {ts : List Str} (hs : ∀ t ∈ ts, PyData.strOk t = true) : PyData.strOk (listText ts) = true := by
  unfold listText
  exact strOk_app (strOk_from ts 0 _ (strOk_of _) hs) (strOk_of _)
/-- data whose repr is taken: depth, length of the repr -/
structure Okp (k w : Nat) (p : PyData) : Prop where
  cl : p.canLay0 = true
  sh : p.showable = true
  dp : p.depth ≤ k
  ln : p.shown.length ≤ w
  so : PyData.strOk p.shown = true
theorem Okp.mono {k w k' w' p} (h : Okp k w p) (a : k ≤ k') (b : w ≤ w') : Okp k' w' p := ⟨h.cl, h.sh, Nat.le_trans h.dp a, Nat.le_trans h.ln b, h.so⟩
theorem Okp.int {i : Int} {k : Nat} (h : -(2 ^ 250) < i) (h' : i < 2 ^ 250) : Okp k 260 (.int i) := ⟨by simp [PyData.canLay0], by
  simp only [PyData.showable]
  exact decide_eq_true (Nat.lt_of_lt_of_le (PySem.Flt.log2_lt_of (k := 250) (by decide) (by omega)) (by decide)), by simp [PyData.depth], by
  simp only [PyData.shown]
  rw [PySem.ofString_length]
  exact Nat.le_trans (int_text_length_le (k := 250) (by decide) (PySem.Flt.log2_lt_of (k := 250) (by decide) (by omega))) (by decide), by simp only [PyData.shown]; exact strOk_of _⟩
theorem Okp.bl {b : Bool} {k : Nat} : Okp k 5 (.bool b) := ⟨by simp [PyData.canLay0], by simp [PyData.showable], by simp [PyData.depth], by cases b <;> decide +kernel, by cases b <;> exact strOk_of _⟩
theorem Okp.non {k : Nat} : Okp k 5 .none := ⟨by simp [PyData.canLay0], by simp [PyData.showable], by simp [PyData.depth], by decide +kernel, strOk_of _⟩
theorem okp_all {k w : Nat} : ∀ {ps : List PyData}, (∀ p ∈ ps, Okp k w p) → PyData.canLayAll0 ps = true ∧ PyData.showableAll ps = true ∧ PyData.depthAll ps ≤ k + 1 ∧ ((PyData.shownAll ps).map (·.length)).sum ≤ ps.length * w ∧ (PyData.shownAll ps).length = ps.length ∧ ∀ t ∈ PyData.shownAll ps, PyData.strOk t = true
  | [], _ => by simp [PyData.canLayAll0, PyData.showableAll, PyData.depthAll, PyData.shownAll]
  | p :: ps, h => by
    have a := h p (by simp)
    obtain ⟨b1, b2, b3, b4, b5, b6⟩ := okp_all (ps := ps) fun q hq => h q (List.mem_cons_of_mem _ hq)
    refine ⟨?_, ?_, ?_, ?_, ?_, ?_⟩
    · simp [PyData.canLayAll0, a.cl, b1]
    · simp [PyData.showableAll, a.sh, b2]
    · have := a.dp
      simp only [PyData.depthAll]
      omega
    · have := a.ln
      simp only [PyData.shownAll, List.map_cons, List.sum_cons, List.length_cons, Nat.add_mul, Nat.one_mul]
      omega
    · simp [PyData.shownAll, b5]
    · simp only [PyData.shownAll]; intro t ht; rcases List.mem_cons.mp ht with rfl | ht; exact a.so; exact b6 t ht
theorem Okp.lst {k w n : Nat} {ps : List PyData} (h : ∀ p ∈ ps, Okp k w p) (hn : ps.length ≤ n) : Okp (k + 2) (n * (w + 2) + 3) (.list ps) := by
  obtain ⟨b1, b2, b3, b4, b5, b6⟩ := okp_all h
  refine ⟨by simp [PyData.canLay0, b1], by simp [PyData.showable, b2], by simp only [PyData.depth]; omega, ?_, by simp only [PyData.shown]; exact strOk_list b6⟩
  simp only [PyData.shown]
  have := listText_len_le (PyData.shownAll ps)
  have hm : ps.length * (w + 2) ≤ n * (w + 2) := Nat.mul_le_mul_right _ hn
  rw [Nat.mul_add] at hm
  omega
theorem nRepr_ev {s : Sto} {d : D} {p : PyData} {k w : Nat} (h : datP s d = some p) (o : Okp k w p) (hk : k ≤ 40) (hw : w ≤ sizeLine) : nRepr s [d] = some (.str p.shown, 0) := by
  unfold nRepr
  simp only [h]
  rw [if_pos ⟨o.sh, PyData.hasDict_of_canLay _ o.cl, Nat.le_trans o.dp hk, Nat.le_trans o.ln hw⟩]
theorem shaped_ok {p : PyData} {k w : Nat} (o : Okp k w p) (hk : k ≤ 64) : SeqAt.shaped p = true := by
  unfold SeqAt.shaped
  rw [o.cl, decide_eq_true (Nat.le_trans o.dp hk)]; rfl
theorem toPs_bls : ∀ ns : List Bool, toPs (ns.map .bl) = some (ns.map .bool)
  | [] => rfl
  | n :: r => by show (match toP (.bl n), toPs (r.map .bl) with | some x, some xs => some (x :: xs) | _, _ => none) = _; rw [toPs_bls r]; rfl
theorem datP_bls {s : Sto} {d : D} {ns : List Bool} (h : vw s d = .lst (ns.map .bl)) : datP s d = some (.list (ns.map .bool)) := by
  unfold datP; rw [h]; unfold toP; rw [toPs_bls]; rfl
theorem repr_l {s : Sto} {d : D} {ns : List Int} (h : vw s d = .lst (ns.map .int)) (hn : ns.length ≤ 60000) (hb : ∀ n ∈ ns, -(2 ^ 250) < n ∧ n < 2 ^ 250) : nRepr s [d] = some (.str (PyData.list (ns.map .int)).shown, 0) :=
  nRepr_ev (datP_ints h) (Okp.lst (k := 0) (w := 260) (n := 60000) (fun p hp => by
    obtain ⟨n, hm, rfl⟩ := List.mem_map.mp hp
    exact .int (hb n hm).1 (hb n hm).2) (by simpa using hn)) (by decide) (by decide)
theorem repr_b {s : Sto} {d : D} {ns : List Bool} (h : vw s d = .lst (ns.map .bl)) (hn : ns.length ≤ 60000) : nRepr s [d] = some (.str (PyData.list (ns.map .bool)).shown, 0) :=
  nRepr_ev (datP_bls h) (Okp.lst (k := 0) (w := 5) (n := 60000) (fun p hp => by
    obtain ⟨n, hm, rfl⟩ := List.mem_map.mp hp
    exact .bl) (by simpa using hn)) (by decide) (by decide)
theorem eq_shown {s : Sto} {p : PyData} {k w : Nat} (o : Okp k w p) : gEq false s (.str p.shown) (.str p.shown) = some (.bl true, 0) ∧ gEq true s (.str p.shown) (.str p.shown) = some (.bl false, 0) := by
  have h : SeqAt.shaped (.str p.shown) = true := by unfold SeqAt.shaped PyData.canLay0 PyData.depth; rw [o.so]; rfl
  unfold gEq
  have d : datP s (.str p.shown) = some (.str p.shown) := rfl
  simp [d, h, PyData.eqv]
theorem okp_l {ns : List Int} (hn : ns.length ≤ 60000) (hb : ∀ n ∈ ns, -(2 ^ 250) < n ∧ n < 2 ^ 250) : Okp 2 (60000 * (260 + 2) + 3) (.list (ns.map .int)) := Okp.lst (k := 0) (w := 260) (n := 60000) (fun p hp => by
    obtain ⟨n, hm, rfl⟩ := List.mem_map.mp hp
    exact .int (hb n hm).1 (hb n hm).2) (by simpa using hn)
theorem okp_b {ns : List Bool} (hn : ns.length ≤ 60000) : Okp 2 (60000 * (5 + 2) + 3) (.list (ns.map .bool)) := Okp.lst (k := 0) (w := 5) (n := 60000) (fun p hp => by
    obtain ⟨n, hm, rfl⟩ := List.mem_map.mp hp
    exact .bl) (by simpa using hn)
end FX

set_option Elab.async false
set_option linter.all false
set_option maxRecDepth 100000
namespace FX
open PySem PySem.Spec PyProof.Rows L2
open Classical
section
variable {X : Cx}
/-- the least, the greatest of a list of ints -/
def leastOf : List Int → Option Int
  | [] => none
  | n :: r => some (r.foldl min n)
def mostOf : List Int → Option Int
  | [] => none
  | n :: r => some (r.foldl max n)
theorem foldl_min : ∀ (r : List Int) (n : Int), (r.foldl min n = n ∨ r.foldl min n ∈ r) ∧ r.foldl min n ≤ n ∧ ∀ x ∈ r, r.foldl min n ≤ x
  | [], n => ⟨.inl rfl, Int.le_refl _, fun _ h => nomatch h⟩
  | a :: r, n => by
    obtain ⟨h1, h2, h3⟩ := foldl_min r (min n a)
    show (r.foldl min (min n a) = n ∨ r.foldl min (min n a) ∈ a :: r) ∧ _
    refine ⟨?_, Int.le_trans h2 (Int.min_le_left _ _), fun x hx => ?_⟩
    · rcases h1 with h1 | h1
      · rw [h1]
        rcases Int.le_total n a with q | q
        · exact .inl (Int.min_eq_left q)
        · right; rw [Int.min_eq_right q]; simp
      · exact .inr (List.mem_cons_of_mem _ h1)
    · rcases List.mem_cons.mp hx with rfl | hx
      · exact Int.le_trans h2 (Int.min_le_right _ _)
      · exact h3 x hx
theorem foldl_max : ∀ (r : List Int) (n : Int), (r.foldl max n = n ∨ r.foldl max n ∈ r) ∧ n ≤ r.foldl max n ∧ ∀ x ∈ r, x ≤ r.foldl max n
  | [], n => ⟨.inl rfl, Int.le_refl _, fun _ h => nomatch h⟩
  | a :: r, n => by
    obtain ⟨h1, h2, h3⟩ := foldl_max r (max n a)
    show (r.foldl max (max n a) = n ∨ r.foldl max (max n a) ∈ a :: r) ∧ _
    refine ⟨?_, Int.le_trans (Int.le_max_left _ _) h2, fun x hx => ?_⟩
    · rcases h1 with h1 | h1
      · rw [h1]
        rcases Int.le_total a n with q | q
        · exact .inl (Int.max_eq_left q)
        · right; rw [Int.max_eq_right q]; simp
      · exact .inr (List.mem_cons_of_mem _ h1)
    · rcases List.mem_cons.mp hx with rfl | hx
      · exact Int.le_trans (Int.le_max_right _ _) h2
      · exact h3 x hx
theorem least_eq {ns : List Int} {m k : Int} (h : leastOf ns = some k) (hm : m ∈ ns) (hl : ∀ y ∈ ns, m ≤ y) : m = k := by
  cases ns with
  | nil => cases h
  | cons n r =>
    cases h
    obtain ⟨h1, h2, h3⟩ := foldl_min r n
    apply Int.le_antisymm
    · rcases h1 with h1 | h1
      · rw [h1]; exact hl n (by simp)
      · exact hl _ (List.mem_cons_of_mem _ h1)
    · rcases List.mem_cons.mp hm with rfl | hm
      · exact h2
      · exact h3 m hm
theorem most_eq {ns : List Int} {m k : Int} (h : mostOf ns = some k) (hm : m ∈ ns) (hl : ∀ y ∈ ns, y ≤ m) : m = k := by
  cases ns with
  | nil => cases h
  | cons n r =>
    cases h
    obtain ⟨h1, h2, h3⟩ := foldl_max r n
    apply Int.le_antisymm
    · rcases List.mem_cons.mp hm with rfl | hm
      · exact h2
      · exact h3 m hm
    · rcases h1 with h1 | h1
      · rw [h1]; exact hl n (by simp)
      · exact hl _ (List.mem_cons_of_mem _ h1)
def nMinL : OpN := fun s ds => (nIntsOf s ds).bind fun ns => (leastOf ns).map fun k => (.int k, 0)
def nMaxL : OpN := fun s ds => (nIntsOf s ds).bind fun ns => (mostOf ns).map fun k => (.int k, 0)
theorem len_least {ns : List Int} {k : Int} (h : leastOf ns = some k) : 0 < ns.length := by
  cases ns with
  | nil => cases h
  | cons n r => simp
theorem len_most {ns : List Int} {k : Int} (h : mostOf ns = some k) : 0 < ns.length := by
  cases ns with
  | nil => cases h
  | cons n r => simp
theorem c_minL (h : CallR X (.builtin "min") (rMin X.K)) : CallSim X (.builtin "min") nMinL := ⟨_, h, fun ad Z s H ds vs d l Q ok rv e q => by
  obtain ⟨ns, h1, e⟩ := Option.bind_eq_some_iff.mp e
  obtain ⟨k, h2, e⟩ := Option.map_eq_some_iff.mp e
  cases e
  obtain ⟨a, rfl, e1⟩ := intsOf_rep ok rv h1
  exact ⟨a, ns, rfl, .inl (.inl e1), len_least h2, fun m hm hl => by
    rw [least_eq h2 hm hl]
    exact q _ H (Same.refl _) (by simp) (by intro z; simp at z)⟩⟩
theorem c_maxL (h : CallR X (.builtin "max") (rMax X.K)) : CallSim X (.builtin "max") nMaxL := ⟨_, h, fun ad Z s H ds vs d l Q ok rv e q => by
  obtain ⟨ns, h1, e⟩ := Option.bind_eq_some_iff.mp e
  obtain ⟨k, h2, e⟩ := Option.map_eq_some_iff.mp e
  cases e
  obtain ⟨a, rfl, e1⟩ := intsOf_rep ok rv h1
  exact ⟨a, ns, rfl, .inl (.inl e1), len_most h2, fun m hm hl => by
    rw [most_eq h2 hm hl]
    exact q _ H (Same.refl _) (by simp) (by intro z; simp at z)⟩⟩
end
section
variable {P : Program} {w : World} {K : PySem.W.Frag} {mg : Str → Option Value} {base : Heap}
/-- no answer: where a def that calls itself is at its last -/
def noAns : List D → Sto → R (D × Nat) := fun _ _ => .bad
theorem fn_bad {CX : CXT} {k : Nat} {f : Addr} {fd : FuncData} {ps : List Str} : FnG P w K mg base CX k f fd ps (spD K ps.length noAns) where
  len := fun vs H Q E ⟨Z, ad, s, ds, ok, r, hl, h⟩ => by rw [← RepL.len r]; exact hl
  run := fun A outer s H args us vs Q E _ _ _ _ _ ⟨Z, ad, s', ds, ok, r, hl, h⟩ => h.elim
theorem len_bad {n : Nat} : Len noAns n := fun _ _ _ => rfl
end
end FX

set_option Elab.async false
set_option linter.all false
set_option maxRecDepth 100000
namespace FX
open PySem PySem.Spec PyProof.Rows L2
open Classical
section
variable {s : Sto} {d o : D} {ds : List D} {ns : List Int}
theorem kit_lt : kitB "list" "tuple" = some false := by decide +kernel
theorem kit_tl : kitB "tuple" "list" = some false := by decide +kernel
theorem kit_tt : kitB "tuple" "tuple" = some true := by decide +kernel
theorem kit_lb : kitB "list" "bool" = some false := by decide +kernel
theorem kit_il : kitB "int" "list" = some false := by decide +kernel
theorem kit_it : kitB "int" "tuple" = some false := by decide +kernel
theorem kit_is : kitB "int" "str" = some false := by decide +kernel
theorem kit_bl : kitB "bool" "list" = some false := by decide +kernel
theorem kit_bt : kitB "bool" "tuple" = some false := by decide +kernel
theorem kit_bs : kitB "bool" "str" = some false := by decide +kernel
theorem isi_lt (h : vw s d = .lst ds) : nIsi s [d, .ty "tuple"] = some (.bl false, 0) := by simp [nIsi, dTy, h, kit_lt]
theorem isi_tl (h : vw s d = .tup ds) : nIsi s [d, .ty "list"] = some (.bl false, 0) := by simp [nIsi, dTy, h, kit_tl]
theorem isi_tt (h : vw s d = .tup ds) : nIsi s [d, .ty "tuple"] = some (.bl true, 0) := by simp [nIsi, dTy, h, kit_tt]
theorem isi_il {i : Int} : nIsi s [.int i, .ty "list"] = some (.bl false, 0) := by simp [nIsi, dTy, kit_il]
theorem isi_it {i : Int} : nIsi s [.int i, .ty "tuple"] = some (.bl false, 0) := by simp [nIsi, dTy, kit_it]
theorem isi_is {i : Int} : nIsi s [.int i, .ty "str"] = some (.bl false, 0) := by simp [nIsi, dTy, kit_is]
theorem isi_bl {i : Bool} : nIsi s [.bl i, .ty "list"] = some (.bl false, 0) := by simp [nIsi, dTy, kit_bl]
theorem isi_bt {i : Bool} : nIsi s [.bl i, .ty "tuple"] = some (.bl false, 0) := by simp [nIsi, dTy, kit_bt]
theorem isi_bb {i : Bool} : nIsi s [.bl i, .ty "bool"] = some (.bl true, 0) := by simp [nIsi, dTy, kit_bb]
theorem isi_bs {i : Bool} : nIsi s [.bl i, .ty "str"] = some (.bl false, 0) := by simp [nIsi, dTy, kit_bs]
theorem isn_i {i : Int} : gIsA false s (.int i) .non = some (.bl false, 0) := rfl
theorem isn_b {i : Bool} : gIsA false s (.bl i) .non = some (.bl false, 0) := rfl
theorem isn_n : gIsA false s .non .non = some (.bl true, 0) := rfl
theorem dTru_l (h : vw s d = .lst ds) : dTru s d = some (!ds.isEmpty) := by unfold dTru; rw [h]
theorem ap_mut {g : D → List D → Option (D × D)} {ob : EvE} {as : EvA} {e : En} : eMut g ob as e = (ob e).bind fun x s1 => (match x.1, vw s1 x.1 with
  | .hnd i, .lst _ => (as ⟨e.loc, s1⟩).bind fun ds s2 => match g (rd s2 i) ds with
    | some (r, c) => .ok (r, 0) (s2.set i c)
    | none => .bad
  | _, _ => .bad) := rfl
theorem mut_h {g : D → List D → Option (D × D)} {ob : EvE} {as : EvA} {e : En} {i l : Nat} {s1 s2 : Sto} {r c : D} {as' : List D} (h1 : ob e = .ok (.hnd i, l) s1) (h2 : rd s1 i = .lst ds) (h3 : as ⟨e.loc, s1⟩ = .ok as' s2) (h4 : g (rd s2 i) as' = some (r, c)) : eMut g ob as e = .ok (r, 0) (s2.set i c) := by
  unfold eMut
  simp only [h1, R.bind_ok]
  have : vw s1 (.hnd i) = .lst ds := h2
  rw [this]
  simp only [h3, R.bind_ok, h4]
theorem ap_neg1 {e : En} : eNeg (eC (.int 1)) e = .ok (.int (-1), 0) e.sto := rfl
theorem atI_last {α : Type} {xs : List α} {x : α} : atI (xs ++ [x]) (-1) = some x := by
  have h : ixN (xs ++ [x]).length (-1) = some xs.length := by
    unfold ixN
    rw [if_neg (by decide), if_pos (by simp; omega)]
    simp
    omega
  unfold atI
  rw [h]
  simp
theorem app_l {x : D} {xs : List D} (h : xs.length < sizeLine) : mAppend (.lst xs) [x] = some (.non, .lst (xs ++ [x])) := by unfold mAppend; simp [h]
/-- a comprehension with a test; items by their place -/
theorem comp_flt {G : Sto → Prop} {asg : Asg} {cond : EvT} {el : EvE} {loc : List (Option (D × Bool))} {s : Sto} (p : D → Bool) (f : D → D) : ∀ (ds acc : List D), G s → acc.length + ds.length ≤ sizeLine →
    (∀ d ∈ ds, ∃ e1 l, asg d ⟨loc, s⟩ = some e1 ∧ e1.sto = s ∧ cond e1 = .ok (p d) s ∧ (p d = true → el e1 = .ok (f d, l) s)) → compL G asg cond el loc ds acc s = .ok (acc ++ (ds.filter p).map f) s
  | [], acc, hG, _, _ => by unfold compL; rw [if_pos hG]; simp
  | d :: ds, acc, hG, hz, h => by
    obtain ⟨e1, l, h1, h2, h3, h4⟩ := h d (by simp)
    unfold compL
    rw [if_pos hG, h1]
    simp only [h3, R.bindN_ok]
    simp only [List.length_cons] at hz
    by_cases hp : p d = true
    · rw [if_pos hp, show (⟨e1.loc, s⟩ : En) = e1 from by rw [← h2], h4 hp]
      simp only [R.bindN_ok]
      rw [if_pos (by omega), comp_flt p f ds (acc ++ [f d]) hG (by simp; omega) fun d' hd => h d' (List.mem_cons_of_mem _ hd)]
      simp [hp]
    · rw [if_neg hp, comp_flt p f ds acc hG (by omega) fun d' hd => h d' (List.mem_cons_of_mem _ hd)]
      simp [hp]
/-- a comprehension without a test whose elements change the store -/
theorem comp_inv {G : Sto → Prop} {asg : Asg} {el : EvE} {loc : List (Option (D × Bool))} (I : Nat → List D → Sto → Prop) (hG : ∀ i acc s, I i acc s → G s) : ∀ (ds : List D) (k : Nat) (acc : List D) (s : Sto), I k acc s →
    (∀ i d acc s, ds[i]? = some d → I (k + i) acc s → ∃ e1 y l s', asg d ⟨loc, s⟩ = some e1 ∧ e1.sto = s ∧ el e1 = .ok (y, l) s' ∧ acc.length < sizeLine ∧ I (k + i + 1) (acc ++ [y]) s') →
    ∃ acc' s', compL G asg cYes el loc ds acc s = .ok acc' s' ∧ I (k + ds.length) acc' s'
  | [], k, acc, s, h, _ => ⟨acc, s, by unfold compL; rw [if_pos (hG _ _ _ h)], h⟩
  | d :: ds, k, acc, s, h, st => by
    obtain ⟨e1, y, l, s', h1, h2, h3, h4, h5⟩ := st 0 d acc s rfl h
    obtain ⟨acc', s'', h6, h7⟩ := comp_inv I hG ds (k + 1) (acc ++ [y]) s' h5 fun i d' acc s hd hi => by
      have := st (i + 1) d' acc s (by simpa using hd) (by rw [show k + (i + 1) = k + 1 + i by omega]; exact hi)
      rw [show k + (i + 1) + 1 = k + 1 + i + 1 by omega] at this
      exact this
    refine ⟨acc', s'', ?_, by simpa [Nat.add_assoc, Nat.add_comm 1] using h7⟩
    unfold compL
    rw [if_pos (hG _ _ _ h), h1]
    simp only [cYes, R.bindN_ok, if_true]
    rw [show (⟨e1.loc, e1.sto⟩ : En) = e1 from rfl, h3]
    simp only [R.bindN_ok]
    rw [if_pos h4, h6]
end
end FX

set_option Elab.async false
set_option linter.all false
set_option maxRecDepth 100000
namespace FX
open PySem PySem.Spec PyProof.Rows L2
open Classical
/-! ### dicts with ints and texts as keys -/
def kOf : D → Option Key
  | .int i => some (.inl i)
  | .str x => some (.inr x)
  | _ => none
theorem kOf_rep {K ad Z H d v k} (h : Rep K ad Z H d v) (e : kOf d = some k) : v = kV k := by
  cases d <;> (unfold kOf at e; cases e) <;> (unfold Rep at h; exact h)
noncomputable def lookD : List Key → List D → Key → Option D
  | k' :: ks, d :: ds, k => if k' = k then some d else lookD ks ds k
  | _, _, _ => none
noncomputable def setD : List Key → List D → Key → D → List D
  | k' :: ks, d :: ds, k, x => (if k' = k then x else d) :: setD ks ds k x
  | _, _, _, _ => []
noncomputable def putD (ks : List Key) (ds : List D) (k : Key) (x : D) : List Key × List D := if k ∈ ks then (ks, setD ks ds k x) else (ks ++ [k], ds ++ [x])
section
variable {K : PySem.W.Frag} {ad Z : List Addr} {H : Hp}
theorem look_rep {k : Key} : ∀ {ks : List Key} {ds : List D} {kvs : List (Key × V)}, kvs.map (·.1) = ks → RepL K ad Z H ds (kvs.map (·.2)) →
    match lookD ks ds k with
    | some d => ∃ v, valV kvs k = some v ∧ Rep K ad Z H d v
    | none => valV kvs k = none
  | ks, ds, [], e, h => by
    cases e
    cases ds <;> exact rfl
  | ks, [], p :: r, e, h => by unfold RepL at h; cases h
  | ks, d :: ds, p :: r, e, h => by
    cases e
    unfold RepL at h
    obtain ⟨v, vr, e, h1, h2⟩ := h
    cases e
    show match (if p.1 = k then some d else lookD (r.map (·.1)) ds k) with | some d => _ | none => _
    by_cases hk : p.1 = k
    · rw [if_pos hk]
      exact ⟨p.2, valV_pos hk, h1⟩
    · rw [if_neg hk, valV_neg hk]
      exact look_rep rfl h2
theorem put_rep {k : Key} {x : D} {v : V} (hx : Rep K ad Z H x v) {ks : List Key} {ds : List D} {kvs : List (Key × V)} (e : kvs.map (·.1) = ks) (h : RepL K ad Z H ds (kvs.map (·.2))) :
    (putK kvs k v).map (·.1) = (putD ks ds k x).1 ∧ RepL K ad Z H (putD ks ds k x).2 ((putK kvs k v).map (·.2)) := by
  have hany : ((kvs.any fun kv => decide (kv.1 = k)) = true) ↔ k ∈ ks := by
    rw [← e, List.any_eq_true]
    constructor
    · rintro ⟨p, hp, hk⟩
      rw [← of_decide_eq_true hk]
      exact List.mem_map_of_mem hp
    · intro hk
      obtain ⟨p, hp, hk⟩ := List.mem_map.mp hk
      exact ⟨p, hp, decide_eq_true hk⟩
  unfold putK putD
  by_cases hk : k ∈ ks
  · rw [if_pos (hany.mpr hk), if_pos hk]
    have key : ∀ (kvs : List (Key × V)) (ds : List D), RepL K ad Z H ds (kvs.map (·.2)) → ((kvs.map fun kv => if kv.1 = k then (kv.1, v) else kv).map (·.1)) = kvs.map (·.1) ∧ RepL K ad Z H (setD (kvs.map (·.1)) ds k x) ((kvs.map fun kv => if kv.1 = k then (kv.1, v) else kv).map (·.2)) := by
      intro kvs
      induction kvs with
      | nil =>
        intro ds h
        refine ⟨rfl, ?_⟩
        cases ds <;> (unfold setD RepL; exact rfl)
      | cons p r ih =>
        intro ds h
        cases ds with
        | nil => unfold RepL at h; cases h
        | cons d ds =>
          unfold RepL at h
          obtain ⟨w, vr, e, h1, h2⟩ := h
          cases e
          obtain ⟨i1, i2⟩ := ih ds h2
          refine ⟨?_, ?_⟩
          · rw [List.map_cons, List.map_cons, List.map_cons, i1]
            by_cases q : p.1 = k <;> simp [q]
          · show RepL K ad Z H ((if p.1 = k then x else d) :: setD (r.map (·.1)) ds k x) _
            rw [List.map_cons, List.map_cons]
            unfold RepL
            refine ⟨_, _, rfl, ?_, i2⟩
            by_cases q : p.1 = k
            · simp only [q, if_true]; exact hx
            · simp only [q, if_false]; exact h1
    obtain ⟨a, b⟩ := key kvs ds h
    rw [e] at a b
    exact ⟨a, b⟩
  · rw [if_neg (fun q => hk (hany.mp q)), if_neg hk]
    refine ⟨by rw [List.map_append, e]; rfl, ?_⟩
    rw [List.map_append]
    exact RepL.append h (by unfold RepL; exact ⟨v, [], rfl, hx, by unfold RepL; rfl⟩)
end
section
variable {X : Cx} {H0 : Hp} {ad0 : List Addr} {W : WX} {pos : Pos}
/-- {}, as a value, as a cell -/
def eDict0 : EvE := fun e => .ok (.dct [] [], 2) e.sto
theorem sim_dict0 : PE X (.Dict [] [] pos) (tE X.K H0 ad0 W eDict0) := by
  refine pe_mono pe_dnewK fun σ H Q ⟨Z, ad, e, rel, h⟩ p np => ?_
  have h := h (upd H p (.dK [])) ad (.same (same_upd np)) (rel.same (same_upd np))
  exact h _ (rep_new_dct rel.sto np (by unfold RepL; rfl)) (fun _ => rel.lv0 (lv_ref np)) (fun _ => lv_ref np)
def eDictH : EvE := fun e => .ok (.hnd e.sto.length, 1) (e.sto ++ [.dct [] []])
theorem sim_dictH : PE X (.Dict [] [] pos) (tE X.K H0 ad0 W eDictH) := by
  refine pe_mono pe_dnewK fun σ H Q ⟨Z, ad, e, rel, h⟩ p np => ?_
  have sm := same_upd (o := HO.dK []) np
  have n := rel.sto.new np
  have stp : Step ad H (ad ++ [p]) (upd H p (.dK [])) := ⟨⟨[p], rfl, fun b hb => by rw [List.mem_singleton.mp hb]; exact np⟩, fun b o e _ => sm b o e⟩
  obtain ⟨st2, rel2, rep2⟩ := rel.cellNew (a := p) (c := .dct [] []) (.same sm) (rel.same sm) np n.1 n.2 (fun i b c' e1 e2 => by
    have q := rel.sto.cell i b c' e1 e2
    cases c' with
    | lst ds => obtain ⟨vs, e, r⟩ := q; exact ⟨vs, sm _ _ e, RepL.step stp _ _ r⟩
    | dct ks ds => obtain ⟨vs, e, k, r⟩ := q; exact ⟨vs, sm _ _ e, k, RepL.step stp _ _ r⟩
    | set xs => obtain ⟨S, e, r⟩ := q; exact ⟨S, sm _ _ e, r⟩
    | _ => exact q.elim) ⟨[], upd_same, rfl, by unfold RepL; rfl⟩
  exact h _ _ st2 rel2 _ rep2 (fun _ => rel.lv0 (lv_ref np)) (by intro z; simp at z)
end
end FX

set_option Elab.async false
set_option linter.all false
set_option maxRecDepth 100000
namespace FX
open PySem PySem.Spec PyProof.Rows L2
open Classical
noncomputable section
variable {X : Cx} {H0 : Hp} {ad0 : List Addr} {W : WX} {pos : Pos}
/-- d.get(k, x) -/
def eDGet2 (eo ek ex : EvE) : EvE := fun e => (eo e).bind fun x s1 => match vw s1 x.1 with
  | .dct _ _ => (ek ⟨e.loc, s1⟩).bind fun y s2 => (ex ⟨e.loc, s2⟩).bind fun z s3 => match vw s3 x.1 with
    | .dct ks ds => (match kOf y.1 with | some k => .ok ((lookD ks ds k).getD z.1, 0) s3 | none => .bad)
    | _ => .bad
  | _ => .bad
theorem sim_dget2 {o a b : Expr} {apos cpos : Pos} {eo ek ex : EvE} (hu : X.A.units + 64 < cLine) (ho : PE X o (tE X.K H0 ad0 W eo)) (ha : PE X a (tE X.K H0 ad0 W ek)) (hb : PE X b (tE X.K H0 ad0 W ex))
    (hbase : attributeBase o "get" X.env (eval o X.env) = eval o X.env := by rfl)
    (hfew : ((backTo cpos (starEach [a, b] X.env)).all (fun x => !x.1) && (backToKw cpos (keywordEach [] X.env)).all (fun x => x.1.isSome)
      && decide (([a, b] : List Expr).length + ([] : List Keyword).length + (if ([] : List Keyword).isEmpty then 0 else 1) < 30)) = true := by rfl)
    (hline : (apos.endLine == cpos.line) = true := by rfl) (ht : backTo cpos (starEach [a, b] X.env) = [(false, eval a X.env), (false, eval b X.env)] := by rfl) :
    PE X (.Call (.Attribute o "get" apos) [a, b] [] cpos) (tE X.K H0 ad0 W (eDGet2 eo ek ex)) := by
  refine pe_mono (pe_dget2 (by omega) ho ha hb ⟨hbase, hfew, hline, ht⟩) fun σ H Q ⟨Z, ad, e, rel, h⟩ => ⟨Z, ad, e, rel, (post_bind h).mono fun x ad1 s1 H1 ⟨st1, rel1, h1⟩ v rv _ _ => ?_⟩
  split at h1
  · rename_i ks ds hv
    obtain ⟨p, kvs, rfl, e1, e2, e3⟩ := dct_of rel1.sto rv hv
    refine ⟨p, rfl, .inl ⟨kvs, .inl e1⟩, Z, ad1, ⟨e.loc, s1⟩, rel1, (post_bind h1).mono fun y ad2 s2 H2 ⟨st2, rel2, h2⟩ u ru _ _ => ⟨Z, ad2, ⟨e.loc, s2⟩, rel2, (post_bind h2).mono fun z ad3 s3 H3 ⟨st3, rel3, h3⟩ w rw' _ _ => ?_⟩⟩
    split at h3
    · rename_i ks' ds' hv'
      split at h3
      · rename_i k hk
        have rv3 := Rep.step (rel2.tr st2 st3) _ _ rv
        obtain ⟨p', kvs', e, f1, f2, f3⟩ := dct_of rel3.sto rv3 hv'
        cases e
        have hy := kOf_rep ru hk
        have lk := look_rep (k := k) f2 f3
        have h3 := h3 H3 ad3 .refl rel3
        refine ⟨valV kvs' k, .inl ⟨kvs', k, .inl f1, hy, rfl⟩, ?_⟩
        cases hl : lookD ks' ds' k with
        | some d =>
          rw [hl] at lk h3
          obtain ⟨v', q1, q2⟩ := lk
          rw [q1]
          exact h3.2.2.2.2.2.2 _ q2 (by intro z; simp at z) (by intro z; simp at z)
        | none =>
          rw [hl] at lk h3
          rw [lk]
          exact h3.2.2.2.2.2.2 _ rw' (by intro z; simp at z) (by intro z; simp at z)
      · exact h3.elim
    · exact h3.elim
  · exact h1.elim
/-- d[k] = v -/
def sDPutK (ev eo ei : EvE) : EvS := fun e => (ev e).toS e fun x e1 => (eo e1).toS e1 fun y e2 => (ei e2).toS e2 fun z e3 => match y.1 with
  | .hnd h => (match rd e3.sto h with
    | .dct ks ds => (match kOf z.1 with
      | some k => if ks.length < sizeLine then .nx ⟨e3.loc, e3.sto.set h (.dct (putD ks ds k x.1).1 (putD ks ds k x.1).2)⟩ else .bad
      | none => .bad)
    | _ => .bad)
  | _ => .bad
theorem sim_dput {o i e : Expr} {ei ev eo : EvE} {tp pos : Pos} (hu : X.A.units + 64 < cLine) (he : PE X e (tE X.K H0 ad0 W ev)) (ho : PE X o (tE X.K H0 ad0 W eo)) (hi : PE X i (tE X.K H0 ad0 W ei))
    (hs : swapsWith e (some (.Subscript o i tp)) pos.line X.env = pure false := by rfl) : PS X (.Assign [.Subscript o i tp] e pos) (tS X.K H0 ad0 W (sDPutK ev eo ei)) := by
  refine ps_mono (ps_dput (by omega) ho hi he hs) fun D σ H ⟨Z, ad, e, rel, h⟩ => ⟨Z, ad, e, rel, (postS_toS h).mono fun x ad1 s1 H1 ⟨st1, rel1, h1⟩ v rv _ _ => ⟨Z, ad1, _, rel1, (postS_toS h1).mono fun y ad2 s2 H2 ⟨st2, rel2, h2⟩ u ru _ _ => ⟨Z, ad2, _, rel2, (postS_toS h2).mono fun z ad3 s3 H3 ⟨st3, rel3, h3⟩ w rw' _ _ => ?_⟩⟩⟩
  split at h3
  · rename_i j hy
    rw [hy] at ru
    have ru := Rep.step st3 _ _ ru
    have ru' := ru
    unfold Rep at ru'
    obtain ⟨q, hq, rfl⟩ := ru'
    split at h3
    · rename_i ks ds hd
      obtain ⟨q', kvs, e, e1, e2, e3⟩ := dct_of rel3.sto ru (show vw s3 (.hnd j) = .dct ks ds from hd)
      cases e
      split at h3
      · rename_i k hk
        by_cases hl : ks.length < sizeLine
        · rw [if_pos hl] at h3
          have hm : q ∈ ad3 := List.mem_of_getElem? hq
          have hlen : kvs.length < sizeLine := by rw [← e2, List.length_map] at hl; exact hl
          refine ⟨q, _, rfl, .inl ⟨kvs, k, e1, kOf_rep rw' hk, hlen, rfl⟩, ?_⟩
          obtain ⟨p1, p2⟩ := put_rep (ad := ad3) (Z := Z) (H := upd H3 q (.dK (putK kvs k v))) (x := x.1) (v := v) (k := k) (core_upd1 hm (Rep.step (rel2.tr st2 st3) _ _ rv)) e2 (core_upd hm e3)
          obtain ⟨st4, rel4⟩ := rel3.cellSet (o := HO.dK (putK kvs k v)) (c := .dct (putD ks ds k x.1).1 (putD ks ds k x.1).2) hq ⟨_, upd_same, p1, p2⟩
          exact h3 σ _ ad3 st4 rel4
        · rw [if_neg hl] at h3; exact h3.elim
      · exact h3.elim
    · exact h3.elim
  · exact h3.elim
/-- {x: c} -/
def eDict1 (i : Nat) (c : Int) : EvE := fun e => match e.loc[i]? with
  | some (some (.int n, _)) => .ok (.dct [.inl n] [.int c], 2) e.sto
  | _ => .bad
theorem sim_dict1 {i : Nat} {x : Str} {c : Int} {j} {px pc : Pos} (hN : X.N[i]? = some x) (hv : Vis X.env.scope x) (hd : (x == ("__debug__" : Str)) = false := by decide) (hcd : (x == ("__classdict__" : Str)) = false := by decide) :
    PE X (.Dict [some (.Name x px)] [.Constant (.int c) j pc] pos) (tE X.K H0 ad0 W (eDict1 i c)) := by
  refine pe_mono (pe_disp (pps_cons (pe_var hN hv hd hcd) pe_int pps_nil) (by rfl) (by rfl) (by simp) (by simp)) fun σ H Q ⟨Z, ad, e, rel, h⟩ p np => ?_
  unfold eDict1 at h
  split at h
  · rename_i n y hi
    obtain ⟨v, h1, h2, _⟩ := rel.loc i _ _ hi
    rw [rep_int.mp h2] at h1
    refine ⟨_, h1, upd_same, [(.inl n, .int c)], rfl, by simp, ?_⟩
    have h := h (upd H p (.dK [(.inl n, .int c)])) ad (.same (same_upd np)) (rel.same (same_upd np))
    have e : upd (upd H p (.dK [])) p (.dK (mergeK [] [(.inl n, .int c)])) = upd H p (.dK [(.inl n, .int c)]) := by
      funext b
      unfold upd
      by_cases hb : b = p <;> simp [hb, mergeK, putK]
    rw [e]
    have r := rep_new_dct (K := X.K) (kvs := [(Sum.inl n, V.int c)]) (ds := [D.int c]) rel.sto np (by unfold RepL; exact ⟨_, [], rfl, by simp, by unfold RepL; rfl⟩)
    exact h _ r (fun _ => rel.lv0 (lv_ref np)) (fun _ => lv_ref np)
  · exact h.elim
end
end FX

set_option Elab.async false
set_option linter.all false
set_option maxRecDepth 100000
namespace FX
open PySem PySem.Spec PyProof.Rows L2
open Classical
mutual
/-- no dict within -/
def noD : D → Bool
  | .lst ds => noDs ds
  | .tup ds => noDs ds
  | .dct _ _ => false
  | _ => true
def noDs : List D → Bool
  | [] => true
  | d :: ds => noD d && noDs ds
end
def noDc : D → Bool
  | .lst ds => noDs ds
  | .dct _ ds => noDs ds
  | _ => true
def okO (o : HO) : Prop := (∀ kvs, o ≠ .dK kvs) ∧ ∀ od kvs, o ≠ .frz od (.dK kvs)
mutual
theorem Rep.lk {K : PySem.W.Frag} {ad Z : List Addr} {H H' : Hp} (f : ∀ b o, H b = some o → okO o → H' b = some o) : ∀ (d : D) (v : V), noD d = true → Rep K ad Z H d v → Rep K ad Z H' d v
  | .non, _, _, h => h
  | .bl _, _, _, h => h
  | .int _, _, _, h => h
  | .str _, _, _, h => h
  | .ty _, _, _, h => h
  | .con _, _, _, h => h
  | .lst ds, v, n, h => by
    unfold Rep at h ⊢
    unfold noD at n
    obtain ⟨a, vs, e, m, r, q⟩ := h
    exact ⟨a, vs, e, m, f _ _ r ⟨(fun _ z => nomatch z), (fun _ _ z => nomatch z)⟩, RepL.lk f ds vs n q⟩
  | .tup ds, v, n, h => by
    unfold Rep at h ⊢
    unfold noD at n
    obtain ⟨a, vs, e, m, r, q⟩ := h
    exact ⟨a, vs, e, m, f _ _ r ⟨(fun _ z => nomatch z), (fun _ _ z => nomatch z)⟩, RepL.lk f ds vs n q⟩
  | .dct ks ds, v, n, h => by unfold noD at n; cases n
  | .set xs, v, _, h => by
    unfold Rep at h ⊢
    obtain ⟨a, S, e, n, r, q⟩ := h
    exact ⟨a, S, e, n, f _ _ r ⟨(fun _ z => nomatch z), (fun _ _ z => nomatch z)⟩, q⟩
  | .hnd i, v, _, h => by unfold Rep at h ⊢; exact h
  | .scr ns, v, _, h => by
    unfold Rep at h ⊢
    obtain ⟨a, e, q⟩ := h
    refine ⟨a, e, q.imp (fun ⟨n, q⟩ => ⟨n, ?_⟩) id⟩
    rcases q with q | ⟨o, q⟩
    · exact .inl (f _ _ q ⟨(fun _ z => nomatch z), (fun _ _ z => nomatch z)⟩)
    · exact .inr ⟨o, f _ _ q ⟨(fun _ z => nomatch z), (fun _ _ z => nomatch z)⟩⟩
theorem RepL.lk {K : PySem.W.Frag} {ad Z : List Addr} {H H' : Hp} (f : ∀ b o, H b = some o → okO o → H' b = some o) : ∀ (ds : List D) (vs : List V), noDs ds = true → RepL K ad Z H ds vs → RepL K ad Z H' ds vs
  | [], _, _, h => h
  | d :: ds, vs, n, h => by
    unfold RepL at h ⊢
    unfold noDs at n
    rw [Bool.and_eq_true] at n
    obtain ⟨v, r, e, h1, h2⟩ := h
    exact ⟨v, r, e, Rep.lk f d v n.1 h1, RepL.lk f ds r n.2 h2⟩
end
theorem StoOk.lk {K : PySem.W.Frag} {ad Z : List Addr} {s : Sto} {H H' : Hp} (f : ∀ b o, H b = some o → okO o → H' b = some o) (g : ∀ b o, H b = some o → b ∈ ad → H' b = some o) (zd : ∀ z ∈ Z, ∃ o, H' z = some o) (n : s.all noDc = true) (h : StoOk K ad Z s H) : StoOk K ad Z s H' :=
  ⟨h.len, h.nd, zd, h.zn, fun i a c e1 e2 => by
    have q := h.cell i a c e1 e2
    have ha : a ∈ ad := List.mem_of_getElem? e1
    have nc := List.all_eq_true.mp n c (List.mem_of_getElem? e2)
    cases c with
    | lst ds => obtain ⟨vs, e, r⟩ := q; exact ⟨vs, g _ _ e ha, RepL.lk f _ _ (by unfold noDc at nc; exact nc) r⟩
    | dct ks ds => obtain ⟨vs, e, k, r⟩ := q; exact ⟨vs, g _ _ e ha, k, RepL.lk f _ _ (by unfold noDc at nc; exact nc) r⟩
    | set xs => obtain ⟨S, e, r⟩ := q; exact ⟨S, g _ _ e ha, r⟩
    | _ => exact q.elim⟩
def okI (e : En) : Bool := (e.loc.all fun o => match o with | some (d, _) => noD d | none => true) && e.sto.all noDc
def fOff (o : Option (D × Bool)) : Option (D × Bool) := o.map fun p => (p.1, false)
def kD : Key → D
  | .inl i => .int i
  | .inr x => .str x
def itemsD (ks : List Key) (ds : List D) : List D := (ks.zip ds).map fun p => .tup [kD p.1, p.2]
theorem kD_rep {K ad Z H} (k : Key) : Rep K ad Z H (kD k) (kV k) := by cases k <;> (unfold kD Rep; rfl)
def loopI (asg : Asg) (body : EvS) : List D → En → RS
  | [], e => .nx e
  | d :: ds, e => match asg d e with
    | none => .bad
    | some e1 => match body e1 with
      | .nx e2 => loopI asg body ds e2
      | .cnt e2 => loopI asg body ds e2
      | _ => .bad
/-- the locals while the dict in slot i is walked: p stands for it -/
def lockL (loc : List (Option (D × Bool))) (i : Nat) (p : Addr) : List (Option (D × Bool)) := (loc.map fOff).set i (some (.con p, false))
def ForI (i : Nat) (asg : Asg) (body : EvS) (ks : List Key) (ds : List D) (e e' : En) : Prop :=
  okI ⟨(e.loc.map fOff).set i none, e.sto⟩ = true ∧ noDs ds = true ∧ okI ⟨e'.loc.set i none, e'.sto⟩ = true ∧ ∀ p, loopI asg body (itemsD ks ds) ⟨lockL e.loc i p, e.sto⟩ = .nx ⟨e'.loc.set i (some (.con p, false)), e'.sto⟩
noncomputable section
def sForI (i : Nat) (asg : Asg) (body : EvS) : EvS := fun e => match e.loc[i]? with
  | some (some (.dct ks ds, _)) => if h : ∃ e', ForI i asg body ks ds e e' then .nx ⟨h.choose.loc.set i (some (.dct ks ds, false)), h.choose.sto⟩ else .bad
  | _ => .bad
end
theorem forI_ev {i : Nat} {asg : Asg} {body : EvS} {ks : List Key} {ds : List D} {e e' : En} {y : Bool} (hi : e.loc[i]? = some (some (.dct ks ds, y))) (h : ForI i asg body ks ds e e') : sForI i asg body e = .nx ⟨e'.loc.set i (some (.dct ks ds, false)), e'.sto⟩ := by
  unfold sForI
  rw [hi]
  simp only
  have hx : ∃ e', ForI i asg body ks ds e e' := ⟨e', h⟩
  rw [dif_pos hx]
  have h1 := hx.choose_spec.2.2.2 0
  rw [h.2.2.2 0] at h1
  have h2 : (⟨e'.loc.set i (some (.con 0, false)), e'.sto⟩ : En) = ⟨hx.choose.loc.set i (some (.con 0, false)), hx.choose.sto⟩ := RS.nx.inj h1
  have h3 : e'.loc.set i (some (.con 0, false)) = hx.choose.loc.set i (some (.con 0, false)) := (En.mk.inj h2).1
  have h4 : e'.sto = hx.choose.sto := (En.mk.inj h2).2
  have h5 : (e'.loc.set i (some (.con 0, false))).set i (some (.dct ks ds, false)) = (hx.choose.loc.set i (some (.con 0, false))).set i (some (.dct ks ds, false)) := by rw [h3]
  rw [List.set_set, List.set_set] at h5
  rw [h5, h4]
end FX

set_option Elab.async false
set_option linter.all false
set_option maxRecDepth 100000
namespace FX
open PySem PySem.Spec PyProof.Rows L2
open Classical
theorem items_len {ks : List Key} {ds : List D} (h : ks.length = ds.length) : (itemsD ks ds).length = ks.length := by unfold itemsD; simp [h]
theorem lock_loc {loc : List (Option (D × Bool))} {i j : Nat} {p : Addr} {d : D} {y : Bool} (h : (lockL loc i p)[j]? = some (some (d, y))) (hi : i < loc.length) : (j = i ∧ d = .con p ∧ y = false) ∨ (j ≠ i ∧ y = false ∧ ∃ y', loc[j]? = some (some (d, y'))) := by
  unfold lockL at h
  by_cases hj : i = j
  · subst hj
    rw [List.getElem?_set_self (by simpa using hi)] at h
    cases h
    exact .inl ⟨rfl, rfl, rfl⟩
  · rw [List.getElem?_set_ne hj, List.getElem?_map] at h
    cases q : loc[j]? with
    | none => rw [q] at h; cases h
    | some o =>
      rw [q] at h
      cases o with
      | none => cases h
      | some dy => cases h; exact .inr ⟨fun z => hj z.symm, rfl, dy.2, rfl⟩
theorem okI_loc {loc : List (Option (D × Bool))} {s : Sto} {i j : Nat} {d : D} {y : Bool} (h : okI ⟨loc.set i none, s⟩ = true) (hj : i ≠ j) (e : loc[j]? = some (some (d, y))) : noD d = true := by
  unfold okI at h
  rw [Bool.and_eq_true] at h
  have := List.all_eq_true.mp h.1 (some (d, y)) (List.mem_of_getElem? (i := j) (by rw [List.getElem?_set_ne hj]; exact e))
  exact this
theorem okI_off {loc : List (Option (D × Bool))} {s : Sto} {i : Nat} (h : okI ⟨(loc.map fOff).set i none, s⟩ = true) : okI ⟨loc.set i none, s⟩ = true := by
  unfold okI at h ⊢
  rw [Bool.and_eq_true] at h ⊢
  refine ⟨List.all_eq_true.mpr fun o ho => ?_, h.2⟩
  obtain ⟨j, hj, rfl⟩ := List.getElem_of_mem ho
  have hj' : j < loc.length := by simpa using hj
  by_cases hij : i = j
  · subst hij; simp
  · have := List.all_eq_true.mp h.1 (fOff loc[j]) (List.mem_of_getElem? (i := j) (by rw [List.getElem?_set_ne hij, List.getElem?_map, List.getElem?_eq_getElem hj']; rfl))
    rw [List.getElem_set_ne hij]
    cases q : loc[j] with
    | none => rfl
    | some dy => rw [q] at this; exact this
section
variable {X : Cx} {H0 : Hp} {ad0 : List Addr} {W : WX} {pos : Pos}
theorem sim_forI {elts : List Expr} {kk : Nat} {tpos px apos cpos : Pos} {x : Str} {i : Nat} {sts : List Stmt} {sl : List Nat} {asg : Asg} {body : EvS} {g : TG} (hp : PassesOwn (model X.prog X.w) X.A X.env X.xe) (hc : X.calm = true) (hN : X.N[i]? = some x) (hv : Vis X.env.scope x)
    (pg : PG X (.Tuple elts kk tpos) g) (hga : ∀ H0 ad0, GSim X.K H0 ad0 g sl asg) (hb : ∀ H0 ad0, PSs X sts (tS X.K H0 ad0 W body)) (hd : (x == ("__debug__" : Str)) = false := by decide) (hcd : (x == ("__classdict__" : Str)) = false := by decide)
    (hbase : attributeBase (.Name x px) "items" X.env (eval (.Name x px) X.env) = eval (.Name x px) X.env := by rfl) (hline : (apos.endLine == cpos.line) = true := by rfl)
    (hs : ∀ y, foldedSetIterable (.Call (.Attribute (.Name x px) "items" apos) [] [] cpos) X.env y = pure y := by intro _; rfl) :
    PS X (.For (.Tuple elts kk tpos) (.Call (.Attribute (.Name x px) "items" apos) [] [] cpos) sts [] pos) (tS X.K H0 ad0 W (sForI i asg body)) := by
  have hb' : PSs X sts (fun D σ H => ∃ H0 ad0, tS X.K H0 ad0 W body D σ H) := ⟨fun p s σ H D I ⟨H0, ad0, q⟩ => (hb H0 ad0).run p s σ H D I q⟩
  refine ps_mono (ps_lock (ps_for hp hc (pi_items (pe_var hN hv hd hcd) hbase hline) pg hb' hs)) fun Dn σ H ⟨Z, ad, e, rel, h⟩ => ?_
  unfold sForI at h
  split at h
  · rename_i ks ds y hi
    by_cases hx : ∃ e', ForI i asg body ks ds e e'
    · rw [dif_pos hx] at h
      obtain ⟨c1, c2, c3, c4⟩ := hx.choose_spec
      generalize hx.choose = e' at h c1 c2 c3 c4
      obtain ⟨v, hv1, rv, _⟩ := rel.loc i _ _ hi
      have rv0 := rv
      unfold Rep at rv
      obtain ⟨p, kvs, rfl, np, e1, e2, e3⟩ := rv
      have hil : i < e.loc.length := (List.getElem?_eq_some_iff.mp hi).1
      refine ⟨p, .dK kvs, e1, trivial, fun od => ⟨.ref p, hv1, p, od, kvs, rfl, upd_same, ?_⟩⟩
      obtain ⟨H1, eH1⟩ : ∃ H1, H1 = upd H p (.frz od (.dK kvs)) := ⟨_, rfl⟩
      have H1p : H1 p = some (.frz od (.dK kvs)) := by rw [eH1]; exact upd_same
      have H1n : ∀ b, b ≠ p → H1 b = H b := fun b hb => by rw [eH1]; exact upd_ne hb
      rw [← eH1]
      have fl : ∀ b o, H b = some o → okO o → H1 b = some o := fun b o q k => by
        rw [H1n b (fun z => by subst z; rw [e1] at q; cases q; exact k.1 kvs rfl)]; exact q
      have okE := okI_off c1
      have oks : e.sto.all noDc = true := by unfold okI at okE; rw [Bool.and_eq_true] at okE; exact okE.2
      have rel0 : Rel X.K H1 ad ad Z ⟨lockL e.loc i p, e.sto⟩ σ H1 := by
        refine ⟨rel.sto.lk fl (fun b o q hm => ?_) (fun z hz => ?_) oks, fun j d y' hj => ?_, ?_, .refl⟩
        · rw [H1n b (fun z => np.1 (by rw [← z]; exact hm))]; exact q
        · obtain ⟨o, q⟩ := rel.sto.zd z hz
          by_cases hz' : z = p
          · subst hz'; exact ⟨_, H1p⟩
          · exact ⟨o, by rw [H1n z hz']; exact q⟩
        · rcases lock_loc hj hil with ⟨rfl, rfl, rfl⟩ | ⟨hne, rfl, y2, q⟩
          · exact ⟨_, hv1, by unfold Rep; rfl, fun z => nomatch z⟩
          · obtain ⟨v', q1, q2, _⟩ := rel.loc j d y2 q
            exact ⟨v', q1, Rep.lk fl d v' (okI_loc okE (fun z => hne z.symm) q) q2, fun z => nomatch z⟩
        · rw [rel.len]; unfold lockL; simp
      have lks : ks.length = ds.length := by rw [RepL.len e3, ← e2]; simp
      have lkv : kvs.length = ks.length := by rw [← e2]; simp
      have il := items_len lks
      -- back
      have back : ∀ {ad2 : List Addr} {H2 : Hp}, Step ad H1 ad2 H2 → H2 p = some (.frz od (.dK kvs)) ∧ Step ad H ad2 (upd H2 p (.dK kvs)) := fun {ad2 H2} st => by
        have hp2 := st.fr p _ H1p np.1
        refine ⟨hp2, ?_, fun b o q hb => ?_⟩
        · obtain ⟨m, rfl, nm⟩ := st.ext
          refine ⟨m, rfl, fun b hb => ?_⟩
          have q := nm b hb
          rw [H1n b (fun z => by rw [z, H1p] at q; cases q)] at q
          exact q
        · by_cases hbp : b = p
          · subst hbp; rw [e1] at q; cases q; exact upd_same
          · rw [upd_ne hbp]; exact st.fr b o (by rw [H1n b hbp]; exact q) hb
      refine ⟨fun j m σ' H' => m = kvs.length - j ∧ j ≤ kvs.length ∧ ∃ ad2 en, Step ad H1 ad2 H' ∧ Rel X.K H1 ad ad2 Z en σ' H' ∧ loopI asg body ((itemsD ks ds).drop j) en = .nx ⟨e'.loc.set i (some (.con p, false)), e'.sto⟩, ⟨kvs.length, by simp, Nat.zero_le _, ad, _, .refl, rel0, c4 p⟩, ?_⟩
      rintro j m σ2 H2 ⟨rfl, hj, ad2, en, st2, rel2, hl⟩
      obtain ⟨hp2, stB⟩ := back st2
      cases hd' : (itemsD ks ds).drop j with
      | nil =>
        rw [hd'] at hl
        have hen : en = ⟨e'.loc.set i (some (.con p, false)), e'.sto⟩ := RS.nx.inj hl
        subst hen
        have hle : kvs.length ≤ j := by
          have := congrArg List.length hd'
          simp [il] at this; omega
        refine .inl ⟨⟨hp2, hle⟩, hp2, h σ2 _ ad2 stB ?_⟩
        have okE' : e'.sto.all noDc = true := by unfold okI at c3; rw [Bool.and_eq_true] at c3; exact c3.2
        have fu : ∀ b o, H2 b = some o → okO o → upd H2 p (.dK kvs) b = some o := fun b o q k => by
          rw [upd_ne (fun z => by subst z; rw [hp2] at q; cases q; exact k.2 od kvs rfl)]; exact q
        have np2 : p ∉ ad2 := st2.ext.out np.1 H1p
        refine ⟨rel2.sto.lk fu (fun b o q hm => ?_) (fun z hz => ?_) okE', fun l d y' hl' => ?_, ?_, rel.st.trans stB fun x hx => rel.sto.dom x (rel.st.sub x hx)⟩
        · rw [upd_ne (fun z => np2 (by rw [← z]; exact hm))]; exact q
        · obtain ⟨o, q⟩ := rel2.sto.zd z hz
          by_cases hz' : z = p
          · subst hz'; exact ⟨_, upd_same⟩
          · exact ⟨o, by rw [upd_ne hz']; exact q⟩
        · have hlen : i < (e'.loc.set i (some (.con p, false))).length ∨ ¬ i < e'.loc.length := by by_cases q : i < e'.loc.length <;> simp [q]
          by_cases hli : i = l
          · subst hli
            by_cases q : i < e'.loc.length
            · obtain ⟨v', q1, q2, _⟩ := rel2.loc i (.con p) false (by show (e'.loc.set i _)[i]? = _; rw [List.getElem?_set_self q])
              have hl' : (e'.loc.set i (some (.dct ks ds, false)))[i]? = some (some (d, y')) := hl'
              rw [List.getElem?_set_self q] at hl'
              cases hl'
              unfold Rep at q2
              subst q2
              exact ⟨_, q1, Rep.step stB _ _ rv0, fun z => nomatch z⟩
            · have hl' : (e'.loc.set i (some (.dct ks ds, false)))[i]? = some (some (d, y')) := hl'
              rw [List.getElem?_eq_none (by simpa using q)] at hl'; cases hl'
          · have hl' : (e'.loc.set i (some (.dct ks ds, false)))[l]? = some (some (d, y')) := hl'
            rw [List.getElem?_set_ne hli] at hl'
            obtain ⟨v', q1, q2, q3⟩ := rel2.loc l d y' (by show (e'.loc.set i _)[l]? = _; rw [List.getElem?_set_ne hli]; exact hl')
            refine ⟨v', q1, Rep.lk fu d v' (okI_loc c3 hli hl') q2, fun z => ?_⟩
            have lv : Lv H v' := fun a ea => by
              have q := q3 z a ea
              by_cases hap : a = p
              · rw [hap, H1p] at q; cases q
              · rw [H1n a hap] at q; exact q
            exact lv.back rel.st rel.sto.dom
        · rw [rel2.len]; simp
      | cons d rest =>
        have hget : (itemsD ks ds)[j]? = some d := by
          have : ((itemsD ks ds).drop j)[0]? = some d := by rw [hd']; rfl
          simpa using this
        have hdrop : (itemsD ks ds).drop (j + 1) = rest := by rw [← List.drop_drop, hd']; rfl
        have hlt : j < kvs.length := by
          have := (List.getElem?_eq_some_iff.mp hget).1
          rw [il] at this; omega
        rw [hd'] at hl
        refine .inr ⟨⟨hp2, hlt⟩, fun σ' H' => ∃ ad' en', Step ad H1 ad' H' ∧ Rel X.K H1 ad ad' Z en' σ' H' ∧ loopI asg body rest en' = .nx ⟨e'.loc.set i (some (.con p, false)), e'.sto⟩, fun σ' H' ⟨ad', en', a, b, c⟩ => ⟨kvs.length - (j + 1), by omega, rfl, hlt, ad', en', a, b, by rw [hdrop]; exact c⟩, fun xv H3 hy => ?_⟩
        obtain ⟨T, k, vv, hk, rfl, hT, rfl⟩ := hy
        have r2 : RepL X.K ad2 Z H2 ds (kvs.map (·.2)) := RepL.step st2 _ _ (RepL.lk fl ds _ c2 e3)
        have hget' := hget
        unfold itemsD at hget'
        rw [List.getElem?_map] at hget'
        obtain ⟨⟨k', d'⟩, hz, rfl⟩ := Option.map_eq_some_iff.mp hget'
        obtain ⟨z1, z2⟩ := List.getElem?_zip_eq_some.mp hz
        have hkk : k' = k := by
          rw [← e2, List.getElem?_map, hk] at z1
          exact (Option.some.inj z1).symm
        subst hkk
        obtain ⟨v', q1, q2⟩ := RepL.get r2 z2
        have hvv : v' = vv := by
          rw [List.getElem?_map, hk] at q1
          exact (Option.some.inj q1).symm
        subst hvv
        have sm := same_upd (o := HO.tup [kV k', v']) hT
        have rep := rep_pair (d := kD k') (d' := d') rel2.sto hT (kD_rep k') q2
        unfold loopI at hl
        cases ha : asg (.tup [kD k', d']) en with
        | none => rw [ha] at hl; cases hl
        | some en1 =>
          rw [ha] at hl
          simp only at hl
          refine hga H1 ad ad2 Z en en1 σ2 _ _ (.ref T) _ (rel2.same sm) rep ha fun σ3 rel3 _ => ⟨H1, ad, Z, ad2, en1, rel3, ?_⟩
          have st3 : Step ad2 H2 ad2 (upd H2 T (.tup [kV k', v'])) := .same sm
          cases hbd : body en1 with
          | nx e4 =>
            rw [hbd] at hl
            intro σ4 H4 ad4 st4 rel4
            exact ⟨ad4, e4, rel2.tr st2 (rel3.tr st3 st4), rel4, hl⟩
          | cnt e4 =>
            rw [hbd] at hl
            intro σ4 H4 ad4 st4 rel4
            exact ⟨ad4, e4, rel2.tr st2 (rel3.tr st3 st4), rel4, hl⟩
          | brk e4 => rw [hbd] at hl; cases hl
          | ret d l s4 => rw [hbd] at hl; cases hl
          | exc C fs e4 => rw [hbd] at hl; cases hl
          | bad => rw [hbd] at hl; cases hl
    · rw [dif_neg hx] at h; exact h.elim
  · exact h.elim
end
end FX

set_option Elab.async false
set_option linter.all false
set_option maxRecDepth 100000
namespace FX
open PySem PySem.Spec PyProof.Rows L2
open Classical
theorem preSum_take (is : List Int) : ∀ n, PySem.preSum (fun i => is.getD i 0) n = (is.take n).sum
  | 0 => by simp [PySem.preSum]
  | n + 1 => by
    show PySem.preSum (fun i => is.getD i 0) n + is.getD n 0 = _
    rw [preSum_take is n, List.take_add_one, List.sum_append, List.getD_eq_getElem?_getD]
    cases is[n]? <;> simp
/-- the ints of a dict's values, beside their values -/
theorem val_int {kvs : List (Key × V)} {ws : List (Key × Value)} {is : List Int} (r : KV kvs ws) (e : kvs.map (·.2) = is.map V.int) {i : Nat} {u : Value} (h : ∃ k, ws[i]? = some (k, u)) : ∃ t, u = .int (is.getD i 0) t := by
  obtain ⟨k, h⟩ := h
  obtain ⟨x, a, b⟩ := KV.at' r h
  have c : (is.map V.int)[i]? = some x := by rw [← e, List.getElem?_map, a]; rfl
  rw [List.getElem?_map] at c
  cases q : is[i]? with
  | none => rw [q] at c; cases c
  | some n =>
    rw [q] at c
    cases c
    obtain ⟨t, rfl⟩ := b
    exact ⟨t, by rw [List.getD_eq_getElem?_getD, q]; rfl⟩
section
variable {prog : Program} {w : World} {A : Around} {E : Value → Shared → Prop}
/-- sum of a view on a dict's values -/
theorem sum_view {κ : Type} [DecidableEq κ] {knd : KeyKind prog w κ} {s : Shared} {v a : Addr} {ws : List (κ × Value)} {ep : Nat} {f : Nat → Int} {Q : Value → Shared → Prop} (hh : A.handled = none) (hv : s.heap.IsValuesView v a) (hm : s.heap.DictAt knd a ws ep) (ha : a < s.heap.objs.size)
    (hf : ∀ (i : Nat) (u : Value), (∃ k, ws[i]? = some (k, u)) → ∃ t, u = .int (f i) t) (hQ : ∀ h' tk t, (∀ b o, s.heap.get? b = some o → h'.get? b = some o) → Q (.int (PySem.preSum f ws.length) t) { s with heap := h', toks := tk }) :
    wpAny (model prog w) A (call (.builtin "sum") [.ref v]) Q E s := by
  have up : ∀ {o : Obj} {b : Addr} {u : Obj}, s.heap.get? b = some u → (s.heap.push o).get? b = some u := fun q => Heap.get?_push_of_some _ q
  refine call_sum_walkG (wpAny_pyIter_values hv hm ⟨_, _, _, _, _, _, f, rfl, Walks.dictValues (knd := knd) (A := A.in1) hh _ a (Nat.ne_of_lt ha) ws ep, ⟨⟨_, Heap.get?_push_size _ rfl, rfl, rfl⟩, hm.keep fun _ _ q => up q⟩, fun b hb => ?_, hf, fun h' tk t k => hQ h' tk t fun b o q => k b o (fun m => ?_) (up q)⟩)
  · have : b = s.heap.objs.size ∨ b = a := by simpa using hb
    show b < (s.heap.push _).objs.size
    rw [Heap.size_push]
    rcases this with q | q
    · rw [q]; exact Nat.lt_succ_self _
    · rw [q]; exact Nat.lt_succ_of_lt ha
  · have e : b = s.heap.objs.size := by simpa using m
    exact absurd (Heap.lt_size q) (by rw [e]; exact Nat.lt_irrefl _)
end
section
variable {X : Cx} {o : Expr} {p pos apos mpos : Pos} {td : TE}
/-- sum(o.values()), a dict with int values -/
def tSumVals (td : TE) : TE := fun σ H Q => td σ H fun x H1 => ∃ (a : Addr) (kvs : List (Key × V)) (is : List Int), x = V.ref a ∧ H1 a = some (.dK kvs) ∧ kvs.map (·.2) = is.map V.int ∧ Q (.int is.sum) H1
theorem pe_sumVals (hc : X.calm = true) (hg : Gl X "sum") (hm : X.mg "sum" = none) (hd : PE X o td) (hbase : attributeBase o "values" X.env (eval o X.env) = eval o X.env := by rfl) (hline : (apos.endLine == mpos.line) = true := by rfl)
    (hse : starEach [Expr.Call (.Attribute o "values" apos) [] [] mpos] X.env = [(false, eval (Expr.Call (.Attribute o "values" apos) [] [] mpos) X.env)] := by rfl) :
    PE X (.Call (.Name "sum" p) [.Call (.Attribute o "values" apos) [] [] mpos] [] pos) (tSumVals td) := ⟨fun pins s σ H Q I h => by
  refine wpAny_Call_Name_kw (ld_blt I hg hm (u := .builtin "sum") (by decide +kernel) (hse ▸ PySem.callWith_builtin1 (wpAny_Call_method0_late hbase hline (thn (hd.run pins s σ H _ I h) fun v s1 ⟨x, H1, J, rv, q⟩ => ?_))) (by decide +kernel) (by decide +kernel))
  obtain ⟨a, kvs, is, rfl, ha, hv, q⟩ := q
  cases rv
  obtain ⟨_, ns, ws, r, dd⟩ := dk_of J.hok ha
  obtain ⟨ep, at0⟩ := dd.dictAt
  have tI := dd.typeIs
  have nd : ∀ b, Value.ref a = .ref b → ∃ ob, s1.heap.get? b = some ob ∧ ob.dict = none := fun b e => by
    cases e
    obtain ⟨ob, _, _, g1, g2, _⟩ := dd
    exact ⟨ob, g1, g2.2.1⟩
  have lt : a < s1.heap.objs.size := by
    obtain ⟨ob, _, _, g1, _⟩ := dd
    exact Heap.lt_size g1
  have len : ws.length = is.length := by
    have l1 := KV.length r
    have l2 := congrArg List.length hv
    simp only [List.length_map] at l2
    omega
  refine ⟨"dict", "dict.values", F.plainAttrs_dict, F.slot_dict_values, F.type_dict_values, tI, nd, Calls.callWith_builtin rfl (PySem.evalArgs_none (call_meetsIn F.slot_dict_values tI F.entry_dict_values (F.args_dict_values_1 _) (meets_dict_values (mixKind X.prog X.w) a ns) ⟨⟨ws, dd⟩, ?_⟩))⟩
  refine sum_view (knd := mixKind X.prog X.w) (a := a) (ws := ws) (ep := ep) (f := fun i => is.getD i 0) (J.ok.hd hc) ⟨_, Heap.get?_push_size _ rfl, rfl, rfl⟩ (at0.keep fun _ _ z => Heap.get?_push_of_some _ z) (by rw [Heap.size_push]; exact Nat.lt_succ_of_lt lt) (fun i u z => val_int r hv z) fun h' tk t k => ?_
  rw [preSum_take, len, List.take_length]
  exact ⟨.int is.sum, H1, J.kept (t' := tk) fun b ob z => k b ob (Heap.get?_push_of_some _ z), ⟨t, rfl⟩, q⟩⟩
end
end FX

set_option Elab.async false
set_option linter.all false
set_option maxRecDepth 100000
namespace FX
open PySem PySem.Spec PyProof.Rows L2
open Classical
section
variable {X : Cx} {H0 : Hp} {ad0 : List Addr} {W : WX} {pos : Pos}
/-- sum(d.values()) -/
def eSumVals (ev : EvE) : EvE := fun e => (ev e).bind fun x s1 => match vw s1 x.1 with
  | .dct _ ds => (match ofInts ds with | some is => .ok (.int is.sum, 0) s1 | none => .bad)
  | _ => .bad
theorem sim_sumVals {o : Expr} {p apos mpos : Pos} {ev : EvE} (hc : X.calm = true) (hg : Gl X "sum") (hm : X.mg "sum" = none) (hd : PE X o (tE X.K H0 ad0 W ev)) (hbase : attributeBase o "values" X.env (eval o X.env) = eval o X.env := by rfl) (hline : (apos.endLine == mpos.line) = true := by rfl)
    (hse : starEach [Expr.Call (.Attribute o "values" apos) [] [] mpos] X.env = [(false, eval (Expr.Call (.Attribute o "values" apos) [] [] mpos) X.env)] := by rfl) :
    PE X (.Call (.Name "sum" p) [.Call (.Attribute o "values" apos) [] [] mpos] [] pos) (tE X.K H0 ad0 W (eSumVals ev)) := by
  refine pe_mono (pe_sumVals hc hg hm hd hbase hline hse) fun σ H Q ⟨Z, ad, e, rel, h⟩ => ⟨Z, ad, e, rel, (post_bind h).mono fun x ad1 s1 H1 ⟨st1, rel1, h1⟩ v rv _ _ => ?_⟩
  split at h1
  · rename_i ks ds hv
    split at h1
    · rename_i is hi
      obtain ⟨a, kvs, rfl, e1, e2, e3⟩ := dct_of rel1.sto rv hv
      rw [ofInts_eq hi] at e3
      exact ⟨a, kvs, is, rfl, e1, RepL.ints e3, (h1 H1 ad1 .refl rel1).2.2 _ (by simp) (by intro z; simp at z) (by intro z; simp at z)⟩
    · exact h1.elim
  · exact h1.elim
/-- sorted of a dict's keys, of a list of ints -/
def srt (ns : List Int) : List Int := ns.mergeSort fun a b => decide (a ≤ b)
theorem srt_perm (ns : List Int) : (srt ns).Perm ns := List.mergeSort_perm _ _
theorem srt_le (ns : List Int) : (srt ns).Pairwise (· ≤ ·) := by
  have := List.pairwise_mergeSort (le := fun a b : Int => decide (a ≤ b)) (fun a b c h1 h2 => by simp at *; omega) (fun a b => by simp; omega) ns
  simpa [srt] using this
theorem srt_eq {ns ms : List Int} (h : ms.Perm ns) (hs : ms.Pairwise (· ≤ ·)) : ms = srt ns :=
  List.Perm.eq_of_pairwise (le := (· ≤ ·)) (fun a b _ _ h1 h2 => Int.le_antisymm h1 h2) hs (srt_le ns) (h.trans (srt_perm ns).symm)
def ofKeys : List Key → Option (List Int)
  | [] => some []
  | .inl i :: r => (ofKeys r).map (i :: ·)
  | .inr _ :: _ => none
theorem ofKeys_eq : ∀ {ks : List Key} {ns : List Int}, ofKeys ks = some ns → ks = ns.map Sum.inl
  | [], ns, h => by cases h; rfl
  | .inl i :: r, ns, h => by
    obtain ⟨m, hm, rfl⟩ := Option.map_eq_some_iff.mp h
    rw [ofKeys_eq hm]; rfl
  | .inr _ :: _, _, h => by cases h
def nSortD : OpN := fun s ds => match ds with
  | [x] => (match vw s x with
    | .dct ks _ => (match ofKeys ks with | some ns => if ns.length < 64 then some (.lst ((srt ns).map .int), 2) else none | none => none)
    | _ => none)
  | _ => none
def nSortL : OpN := fun s ds => (nIntsOf s ds).bind fun ns => if ns.length < 64 then some (.lst ((srt ns).map .int), 2) else none
theorem c_sortD (hc : X.calm = true) : CallSim X (.builtin "sorted") nSortD := ⟨_, call_sortedDI hc, fun ad Z s H ds vs d l Q ok rv e q => by
  unfold nSortD at e
  split at e
  · obtain ⟨v, rfl, hv⟩ := repL1 rv
    split at e
    · rename_i ks ds' hd
      split at e
      · rename_i ns hn
        by_cases h : ns.length < 64
        · rw [if_pos h] at e
          cases e
          obtain ⟨a, kvs, rfl, e1, e2, e3⟩ := dct_of ok hv hd
          refine ⟨a, kvs, ns, rfl, .inl e1, by rw [e2, ofKeys_eq hn], h, fun ys p h1 h2 np => ?_⟩
          rw [srt_eq h1 h2]
          exact q _ _ (same_upd np) (rep_new_lst ok np (RepL.map_same _)) (fun _ => lv_ref np)
        · rw [if_neg h] at e; cases e
      · cases e
    · cases e
  · cases e⟩
theorem c_sortL : CallSim X (.builtin "sorted") nSortL := ⟨_, cr_sorted, fun ad Z s H ds vs d l Q ok rv e q => by
  obtain ⟨ns, h1, e⟩ := Option.bind_eq_some_iff.mp e
  by_cases h : ns.length < 64
  · rw [if_pos h] at e
    cases e
    obtain ⟨a, rfl, e1⟩ := intsOf_rep ok rv h1
    refine ⟨a, ns, rfl, .inl (.inl e1), h, fun ys p h1 h2 np => ?_⟩
    rw [srt_eq h1 h2]
    exact q _ _ (same_upd np) (rep_new_lst ok np (RepL.map_same _)) (fun _ => lv_ref np)
  · rw [if_neg h] at e; cases e⟩
def nSorted : OpN := nOr nSortD nSortL
theorem c_sorted (hc : X.calm = true) : CallSim X (.builtin "sorted") nSorted := (c_sortD hc).or c_sortL
end
end FX

set_option Elab.async false
set_option linter.all false
set_option maxRecDepth 100000
namespace FX
open PySem PySem.Spec PyProof.Rows L2
open Classical
section
variable {X : Cx} {H0 : Hp} {ad0 : List Addr} {W : WX} {pos : Pos} {tg : Expr} {ea : EvA}
/-- range(i, j, -1) -/
def rangeDn (lo : Int) (n : Nat) : List D := (List.range n).map fun k : Nat => D.int (lo + (k : Nat) * (-1))
theorem walk_rangeDn {K Z ad1 H1 lo n} : WalkOk K Z (fun _ => True) (Itc lo (-1) n) (rangeDn lo n) ad1 H1 := by
  intro i ad2 s2 H2 st ok g
  unfold rangeDn
  refine ⟨fun d hd => ?_, fun hl => by simp at hl; exact hl⟩
  rw [List.getElem?_map] at hd
  by_cases hi : i < n
  · rw [List.getElem?_range hi] at hd
    cases hd
    refine ⟨hi, fun x H3 ⟨a, b⟩ => ?_⟩
    subst a b
    exact ⟨Same.refl _, by simp⟩
  · rw [List.getElem?_eq_none (by simpa using hi)] at hd; cases hd
def itRange3 (ea : EvA) : EvI := fun e => (ea e).bind fun ds s1 =>
  match ds with
  | [.int i, .int j, .int c] => if c = -1 ∧ -(2 ^ 62) ≤ i ∧ i < 2 ^ 62 ∧ -(2 ^ 62) ≤ j ∧ j < 2 ^ 62 then .ok (rangeDn i (i - j).toNat, fun _ => True) s1 else .bad
  | _ => .bad
theorem sim_irange3 {a b c : Expr} {p pos : Pos} (hg : Gl X "range") (hm : X.mg "range" = none) (ha : PA X [a, b, c] (tAr X.K H0 ad0 W ea)) (hs : starEach [a, b, c] X.env = (false, eval a X.env) :: starEach [b, c] X.env := by rfl)
    (hpl : (backTo pos (starEach [b, c] X.env)).any (·.1) = false := by rfl) : PI X tg (.Call (.Name "range" p) [a, b, c] [] pos) (tI X.K H0 ad0 W (itRange3 ea)) := by
  refine pi_mono (pi_range3 hg hm ha hs hpl) fun σ H Rr h => walk_args (iT := iRng3) (Pm := fun H1 vs R => ∃ (i j c : Int) (n : Nat), vs = [.int i, .int j, .int c] ∧ RgC i j c n ∧ R (Itc i c n) H1) (fun _ _ _ _ z => z) (fun ad Z H ds vs s Rr x s' ok rvs q => ?_) (fun ds s C fs s' q => ?_) h
  · split at q
    · rename_i i j c
      obtain ⟨v, v', v'', rfl, hv, hv', hv''⟩ := repL3 rvs
      split at q
      · rename_i hb
        cases q
        obtain ⟨rfl, b1, b2, b3, b4⟩ := hb
        exact ⟨rfl, fun k => ⟨i, j, -1, _, by rw [rep_int.mp hv, rep_int.mp hv', rep_int.mp hv''], RgC.neg b1 b2 b3 b4, k _ fun _ _ _ => walk_rangeDn⟩⟩
      · cases q
    · cases q
  · split at q
    · split at q <;> cases q
    · cases q
/-- divmod -/
def nDivmod : OpN := fun s ds => match ds with
  | [.int i, .int j] => if 0 < j ∧ j.natAbs.log2 < 9000 then some (.tup [.int (i / j), .int (i % j)], 2) else none
  | _ => none
theorem c_divmod : CallSim X (.builtin "divmod") nDivmod := ⟨_, call_divmodW, fun ad Z s H ds vs d l Q ok rv e q => by
  unfold nDivmod at e
  split at e
  · rename_i i j
    by_cases h : 0 < j ∧ j.natAbs.log2 < 9000
    · rw [if_pos h] at e
      cases e
      obtain ⟨v, v', rfl, h1, h2⟩ := repL2 rv
      refine ⟨i, j, by rw [rep_int.mp h1, rep_int.mp h2], ⟨h.1, PyProof.noPylong_of_log2 h.2⟩, fun p np => ?_⟩
      exact q _ _ (same_upd np) (rep_new_tup ok np (by unfold RepL; exact ⟨_, _, rfl, by simp, by unfold RepL; exact ⟨_, _, rfl, by simp, by unfold RepL; rfl⟩⟩)) (fun _ => lv_ref np)
    · rw [if_neg h] at e; cases e
  · cases e⟩
end
end FX

set_option Elab.async false
set_option linter.all false
set_option maxRecDepth 100000
namespace FX
open PySem PySem.Spec PyProof.Rows L2
open Classical
noncomputable section
variable {X : Cx} {H0 : Hp} {ad0 : List Addr} {W : WX} {pos : Pos}
/-- list(range(n)), list(range(i, j)) -/
def eListRg1 (a : EvE) : EvE := fun e => (a e).bind fun x s1 => match x.1 with
  | .int n => if RgOk 0 n then .ok (.lst (rangeD 0 (n - 0).toNat), 2) s1 else .bad
  | _ => .bad
def eListRg2 (a b : EvE) : EvE := fun e => (a e).bind fun x s1 => (b ⟨e.loc, s1⟩).bind fun y s2 => match x.1, y.1 with
  | .int m, .int n => if RgOk m n then .ok (.lst (rangeD m (n - m).toNat), 2) s2 else .bad
  | _, _ => .bad
theorem rgV_rep {K ad Z H} (m n : Int) : RepL K ad Z H (rangeD m (n - m).toNat) (rgV m n) := by
  unfold rangeD rgV
  have := RepL.map_same (K := K) (ad := ad) (Z := Z) (H := H) ((List.range (n - m).toNat).map fun k : Nat => m + (k : Int))
  rw [List.map_map, List.map_map] at this
  exact this
theorem sim_listRg1 {a : Expr} {ea : EvE} {p p2 pos2 : Pos} (hc : X.calm = true) (hg : Gl X "list") (hm : X.mg "list" = none) (hg2 : Gl X "range") (hm2 : X.mg "range" = none) (ha : PE X a (tE X.K H0 ad0 W ea))
    (na : starEach [a] X.env = (false, eval a X.env) :: starEach [] X.env := by rfl) (nb : starEach [Expr.Call (.Name "range" p2) [a] [] pos2] X.env = (false, eval (Expr.Call (.Name "range" p2) [a] [] pos2) X.env) :: starEach [] X.env := by rfl) :
    PE X (.Call (.Name "list" p) [.Call (.Name "range" p2) [a] [] pos2] [] pos) (tE X.K H0 ad0 W (eListRg1 ea)) := by
  refine pe_mono (pe_listRg hc hg hm (prg_1 hg2 hm2 ha na) nb) fun σ H Q ⟨Z, ad, e, rel, h⟩ => ⟨Z, ad, e, rel, (post_bind h).mono fun x ad1 s1 H1 ⟨st1, rel1, h1⟩ v rv _ _ => ?_⟩
  split at h1
  · rename_i n hx
    rw [hx] at rv
    by_cases hr : RgOk 0 n
    · rw [if_pos hr] at h1
      refine ⟨n, rep_int.mp rv, hr, fun q nq => ?_⟩
      exact (h1 _ ad1 (.same (same_upd nq)) (rel1.same (same_upd nq))).2.2 _ (rep_new_lst rel1.sto nq (rgV_rep 0 n)) (fun _ => rel1.lv0 (lv_ref nq)) fun _ => (lv_ref nq).back st1 rel1.sto.dom
    · rw [if_neg hr] at h1; exact h1.elim
  · exact h1.elim
theorem sim_listRg2 {a b : Expr} {ea eb : EvE} {p p2 pos2 : Pos} (hc : X.calm = true) (hg : Gl X "list") (hm : X.mg "list" = none) (hg2 : Gl X "range") (hm2 : X.mg "range" = none) (ha : PE X a (tE X.K H0 ad0 W ea)) (hb : PE X b (tE X.K H0 ad0 W eb))
    (na : starEach [a, b] X.env = (false, eval a X.env) :: starEach [b] X.env := by rfl) (na2 : starEach [b] X.env = (false, eval b X.env) :: starEach [] X.env := by rfl) (hp : (backTo pos2 (starEach [b] X.env)).any (·.1) = false := by rfl)
    (nb : starEach [Expr.Call (.Name "range" p2) [a, b] [] pos2] X.env = (false, eval (Expr.Call (.Name "range" p2) [a, b] [] pos2) X.env) :: starEach [] X.env := by rfl) :
    PE X (.Call (.Name "list" p) [.Call (.Name "range" p2) [a, b] [] pos2] [] pos) (tE X.K H0 ad0 W (eListRg2 ea eb)) := by
  refine pe_mono (pe_listRg hc hg hm (prg_2 hg2 hm2 ha hb na na2 hp) nb) fun σ H Q ⟨Z, ad, e, rel, h⟩ => ⟨Z, ad, e, rel, (post_bind h).mono fun x ad1 s1 H1 ⟨st1, rel1, h1⟩ v rv _ _ => ⟨Z, ad1, _, rel1, (post_bind h1).mono fun y ad2 s2 H2 ⟨st2, rel2, h2⟩ w rw' _ _ => ?_⟩⟩
  split at h2
  · rename_i m n hx hy
    rw [hx] at rv
    rw [hy] at rw'
    by_cases hr : RgOk m n
    · rw [if_pos hr] at h2
      refine ⟨m, n, rep_int.mp rv, rep_int.mp rw', hr, fun q nq => ?_⟩
      exact (h2 _ ad2 (.same (same_upd nq)) (rel2.same (same_upd nq))).2.2.2.2 _ (rep_new_lst rel2.sto nq (rgV_rep m n)) (fun _ => rel2.lv0 (lv_ref nq)) fun _ => ((lv_ref nq).back st2 rel2.sto.dom).back st1 rel1.sto.dom
    · rw [if_neg hr] at h2; exact h2.elim
  · exact h2.elim
/-! ### methods that read a list -/
structure RdSim (X : Cx) (id : String) (g : List D → List D → Option D) : Prop where
  go : ∃ r, MtR X id r ∧ ∀ (ad Z : List Addr) (H : Hp) (a : Addr) (xs ds : List D) (ys vs : List V) (res : D) (Q : VK), H a = some (.lst ys) → RepL X.K ad Z H xs ys → RepL X.K ad Z H ds vs → g xs ds = some res →
    (∀ v, Rep X.K ad Z H res v → Q v H) → r (.ref a) vs H Q
def eRdM (g : List D → List D → Option D) (o : EvE) (as : EvA) : EvE := fun e => (o e).bind fun x s1 => match vw s1 x.1 with
  | .lst _ => (as ⟨e.loc, s1⟩).bind fun ds s2 => match vw s2 x.1 with
    | .lst xs => (match g xs ds with | some r => .ok (r, 0) s2 | none => .bad)
    | _ => .bad
  | _ => .bad
theorem sim_rdM {o e : Expr} {es : List Expr} {name : Str} {apos cpos : Pos} {id : String} {eo : EvE} {as : EvA} {g : List D → List D → Option D} (m : RdSim X id g) (slot : Slot "list" name id) (hty : typeOf (.builtin id) = pure (.type "method_descriptor")) (ho : PE X o (tE X.K H0 ad0 W eo)) (ha : PA X (e :: es) (tAr X.K H0 ad0 W as))
    (hbase : attributeBase o name X.env (eval o X.env) = eval o X.env := by rfl)
    (hfew : ((backTo cpos (starEach (e :: es) X.env)).all (fun x => !x.1) && (backToKw cpos (keywordEach [] X.env)).all (fun x => x.1.isSome)
      && decide ((e :: es).length + ([] : List Keyword).length + (if ([] : List Keyword).isEmpty then 0 else 1) < 30)) = true := by rfl)
    (hline : (apos.endLine == cpos.line) = true := by rfl) (hs : starEach (e :: es) X.env = (false, eval e X.env) :: starEach es X.env := by rfl) (hplain : (backTo cpos (starEach es X.env)).any (·.1) = false := by rfl) :
    PE X (.Call (.Attribute o name apos) (e :: es) [] cpos) (tE X.K H0 ad0 W (eRdM g eo as)) := by
  obtain ⟨r, hr, k⟩ := m.go
  refine pe_mono (pe_bm PySem.F.plainAttrs_list slot hty hr ho ha hbase hfew hline hs hplain) fun σ H Q ⟨Z, ad, e, rel, h⟩ => ⟨Z, ad, e, rel, (post_bind h).mono fun x ad1 s1 H1 ⟨st1, rel1, h1⟩ v rv _ _ => ?_⟩
  split at h1
  · rename_i ds0 hv
    obtain ⟨p, vs0, rfl, e1, e2⟩ := lst_of rel1.sto rv hv
    refine ⟨.inl ⟨rfl, vs0, .inl (.inl e1)⟩, Z, ad1, _, rel1, (post_bind h1).mono fun ds ad2 s2 H2 ⟨st2, rel2, h2⟩ vs rvs => ?_⟩
    split at h2
    · rename_i xs hv2
      obtain ⟨p', ys, e, f1, f2⟩ := lst_of rel2.sto (Rep.step st2 _ _ rv) hv2
      cases e
      split at h2
      · rename_i res hg
        exact k ad2 Z H2 p xs ds ys vs res _ f1 f2 rvs hg fun u ru => (h2 H2 ad2 .refl rel2).2.2.2.2 _ ru (by intro z; simp at z) (by intro z; simp at z)
      · exact h2.elim
    · exact h2.elim
  · exact h1.elim
def rdCount (xs ds : List D) : Option D := match ofInts xs, ds with
  | some ns, [.int k] => some (.int (ns.count k : Nat))
  | _, _ => none
theorem r_count : RdSim X "list.count" rdCount := ⟨_, mt_lcount, fun ad Z H a xs ds ys vs res Q e1 e2 e3 hg q => by
  unfold rdCount at hg
  split at hg
  · rename_i ns k hn
    cases hg
    obtain ⟨v, rfl, hv⟩ := repL1 e3
    rw [ofInts_eq hn] at e2
    rw [RepL.ints e2] at e1
    exact ⟨a, ns, k, rfl, by rw [rep_int.mp hv], .inl (.inl e1), q _ (by simp)⟩
  · cases hg⟩
def rdIndex (xs ds : List D) : Option D := match ofInts xs, ds with
  | some ns, [.int k] => if k ∈ ns then some (.int (ns.idxOf k : Nat)) else none
  | _, _ => none
theorem flat_intsV : ∀ ns : List Int, (ns.map V.int).all flatV = true
  | [] => rfl
  | n :: r => by rw [List.map_cons, List.all_cons, flat_intsV r]; rfl
theorem r_index : RdSim X "list.index" rdIndex := ⟨_, mt_index, fun ad Z H a xs ds ys vs res Q e1 e2 e3 hg q => by
  unfold rdIndex at hg
  split at hg
  · rename_i ns k hn
    by_cases hk : k ∈ ns
    · rw [if_pos hk] at hg
      cases hg
      obtain ⟨v, rfl, hv⟩ := repL1 e3
      rw [ofInts_eq hn] at e2
      rw [RepL.ints e2] at e1
      have hlt : ns.idxOf k < ns.length := List.idxOf_lt_length_of_mem hk
      refine ⟨a, ns.map V.int, .int k, ns.idxOf k, .int k, rfl, by rw [rep_int.mp hv], .inl (.inl e1), rfl, flat_intsV ns, ?_, by simp [eqV], fun m z' hm hz => ?_, q _ (by simp)⟩
      · rw [List.getElem?_map, List.getElem?_eq_getElem hlt, List.getElem_idxOf hlt]; rfl
      · rw [List.getElem?_map] at hz
        obtain ⟨n, hn', rfl⟩ := Option.map_eq_some_iff.mp hz
        have hne : n ≠ k := fun z => by
          obtain ⟨hm', e⟩ := List.getElem?_eq_some_iff.mp hn'
          have := List.not_of_lt_findIdx (p := (· == k)) (xs := ns) (i := m) hm
          rw [e, z] at this
          simp at this
        simp [eqV, hne]
    · rw [if_neg hk] at hg; cases hg
  · cases hg⟩
end
end FX

set_option Elab.async false
set_option linter.all false
set_option maxRecDepth 100000
namespace FX
open PySem PySem.Spec PyProof.Rows L2
open Classical
section
variable {X : Cx} {H0 : Hp} {ad0 : List Addr} {W : WX} {ea : EvA} {tg : Expr}
/-- reversed(list) -/
def itRev (ea : EvA) : EvI := fun e => (ea e).bind fun ds s1 =>
  match ds with
  | [x] => match vw s1 x with
    | .lst xs => .ok (xs.reverse, fun s => vw s x = .lst xs) s1
    | _ => .bad
  | _ => .bad
theorem sim_irev {a : Expr} {p pos : Pos} (hg : Gl X "reversed") (hm : X.mg "reversed" = none) (ha : PA X [a] (tAr X.K H0 ad0 W ea)) (hs : starEach [a] X.env = [(false, eval a X.env)] := by rfl) : PI X tg (.Call (.Name "reversed" p) [a] [] pos) (tI X.K H0 ad0 W (itRev ea)) := by
  refine pi_mono (pi_reversed hg hm ha hs) fun σ H Rr h => walk_args (iT := iRev X.K) (Pm := fun H1 vs R => ∃ (a : Addr) (xs : List V), vs = [.ref a] ∧ SqL X.K H1 a xs ∧ R (Itv X.K a xs.length) H1) (fun _ _ _ _ z => z) (fun ad Z H ds vs s Rr x s' ok rvs q => ?_) (fun ds s C fs s' q => ?_) h
  · split at q
    · rename_i dx
      obtain ⟨v, rfl, hv⟩ := repL1 rvs
      split at q
      · rename_i xs hx
        cases q
        refine ⟨rfl, fun k => ?_⟩
        obtain ⟨a, vx, rfl, ea, ra⟩ := lst_of ok hv hx
        have ll := RepL.len ra
        refine ⟨a, vx, rfl, .inl (.inl ea), k _ fun Z' hz hz' i ad2 s2 H2 st ok2 g => ?_⟩
        obtain ⟨a', vx', e, ea', ra'⟩ := lst_of ok2 (Rep.step st _ _ (lift_z hz' hv)) g
        cases e
        have la := RepL.len ra'
        refine ⟨fun d hd => ?_, fun hl => ?_⟩
        · have hi : i < xs.length := by simpa using (List.getElem?_eq_some_iff.mp hd).1
          rw [List.getElem?_reverse hi] at hd
          obtain ⟨wx, hwx, rwx⟩ := RepL.get ra' hd
          rw [← ll]
          refine ⟨⟨hi, vx', wx, .inl (.inl ea'), hwx⟩, fun x H3 hyl => ?_⟩
          obtain ⟨rfl, h3⟩ := hyl
          have ex := h3 _ (.inl (.inl ea'))
          rw [hwx] at ex
          cases ex
          exact ⟨.refl _, rwx⟩
        · show vx.length ≤ i
          simp at hl; omega
      · cases q
    · cases q
  · split at q
    · split at q <;> cases q
    · cases q
/-- l.extend(list) -/
def mExtend : D → List D → Option (D × D) := fun c ds => match c, ds with
  | .lst xs, [.lst ys] => if xs.length + ys.length ≤ sizeLine then some (.non, .lst (xs ++ ys)) else none
  | _, _ => none
theorem m_extend : MutSim X "list.extend" mExtend := ⟨_, mt_extend, fun ad Z s H a c res c' ds vs Q ok ha hc rv e q => by
  unfold mExtend at e
  split at e
  · rename_i xs ys
    split at e
    · rename_i hz
      cases e
      obtain ⟨ws, e1, e2⟩ := hc
      obtain ⟨v, rfl, hv⟩ := repL1 rv
      unfold Rep at hv
      obtain ⟨b, zs, rfl, nb, e3, e4⟩ := hv
      exact ⟨a, b, ws, zs, rfl, rfl, e1, e3, by rw [← RepL.len e2, ← RepL.len e4]; exact hz, q .non (.lst (ws ++ zs)) ⟨_, upd_same, RepL.append (core_upd ha e2) (core_upd ha e4)⟩ (by simp)⟩
    · cases e
  · cases e⟩
end
end FX

set_option Elab.async false
set_option linter.all false
set_option maxRecDepth 100000
namespace FX
open PySem PySem.Spec PyProof.Rows L2
open Classical
/-! ### comprehensions of two clauses, the inner one over a range -/
def WalkAll (K : PySem.W.Frag) (J : It) (ds : List D) : Prop := ∀ (i : Nat) (ad2 Z2 : List Addr) (H2 : Hp), (∀ d, ds[i]? = some d → J.go i H2 ∧ ∀ x H3, J.yld i H2 x H3 → Same H2 H3 ∧ Rep K ad2 Z2 H3 d x) ∧ (ds.length ≤ i → J.stop i H2)
abbrev EvI1 := En → R (List D)
def tI1 (K : PySem.W.Frag) (H0 : Hp) (ad0 : List Addr) (W : WX) (it : EvI1) : TI := fun σ H Rr => ∃ Z ad e, Rel K H0 ad0 ad Z e σ H ∧ post K H0 ad0 W ad Z e σ H (it e) fun x ad1 s1 H1 => ∀ J, WalkAll K J x → Rr J H1
theorem walkall_range {K lo n} : WalkAll K (Itr lo n) (rangeD lo n) := by
  intro i ad2 Z2 H2
  unfold rangeD
  refine ⟨fun d hd => ?_, fun hl => by simp at hl; exact hl⟩
  rw [List.getElem?_map] at hd
  by_cases hi : i < n
  · rw [List.getElem?_range hi] at hd
    cases hd
    refine ⟨hi, fun x H3 ⟨a, b⟩ => ?_⟩
    subst a b
    exact ⟨Same.refl _, by simp⟩
  · rw [List.getElem?_eq_none (by simpa using hi)] at hd; cases hd
def rangeC (c : Int) (n : Nat) : List D := (List.range n).map fun k : Nat => D.int (0 + (k : Nat) * c)
theorem walkall_rangeC {K c n} : WalkAll K (Itc 0 c n) (rangeC c n) := by
  intro i ad2 Z2 H2
  unfold rangeC
  refine ⟨fun d hd => ?_, fun hl => by simp at hl; exact hl⟩
  rw [List.getElem?_map] at hd
  by_cases hi : i < n
  · rw [List.getElem?_range hi] at hd
    cases hd
    refine ⟨hi, fun x H3 ⟨a, b⟩ => ?_⟩
    subst a b
    exact ⟨Same.refl _, by simp⟩
  · rw [List.getElem?_eq_none (by simpa using hi)] at hd; cases hd
section
variable {X : Cx} {H0 : Hp} {ad0 : List Addr} {W : WX} {ea : EvA} {tg : Expr}
theorem walk_args1 {iT : TA → TI} {f : List D → Sto → R (List D)} {Pm : Hp → List V → (It → Hp → Prop) → Prop}
    (hT : ∀ ta σ H Rr, ta σ H (fun vs H1 => Pm H1 vs (fun J H2 => Rr J H2)) → iT ta σ H Rr)
    (hf : ∀ ad Z H ds vs s Rr x s', StoOk X.K ad Z s H → RepL X.K ad Z H ds vs → f ds s = .ok x s' → s' = s ∧ ((∀ J, WalkAll X.K J x → Rr J H) → Pm H vs Rr))
    (hx : ∀ ds s C fs s', f ds s ≠ .exc C fs s')
    {σ H Rr} (h : tI1 X.K H0 ad0 W (fun e => (ea e).bind f) σ H Rr) : iT (tAr X.K H0 ad0 W ea) σ H Rr := by
  obtain ⟨Z, ad, e, rel, h⟩ := h
  refine hT _ _ _ _ ⟨Z, ad, e, rel, (post_bind h).mono fun ds ad1 s1 H1 ⟨st1, rel1, h1⟩ vs rvs => ?_⟩
  cases q : f ds s1 with
  | bad => rw [q] at h1; exact h1.elim
  | exc C fs s => exact absurd q (hx _ _ _ _ _)
  | ok x s2 =>
    rw [q] at h1
    obtain ⟨rfl, k⟩ := hf ad1 Z H1 ds vs s1 Rr x s2 rel1.sto rvs q
    exact k (h1 H1 ad1 .refl rel1).2.2
noncomputable def itR1 (ea : EvA) : EvI1 := fun e => (ea e).bind fun ds s1 =>
  match ds with
  | [.int j] => if -(2 ^ 62) ≤ j ∧ j < 2 ^ 62 then .ok (rangeD 0 j.toNat) s1 else .bad
  | _ => .bad
theorem sim_ir1 {a : Expr} {p pos : Pos} (hg : Gl X "range") (hm : X.mg "range" = none) (ha : PA X [a] (tAr X.K H0 ad0 W ea)) (hs : starEach [a] X.env = [(false, eval a X.env)] := by rfl) : PI X tg (.Call (.Name "range" p) [a] [] pos) (tI1 X.K H0 ad0 W (itR1 ea)) := by
  refine pi_mono (pi_range1 hg hm ha hs) fun σ H Rr h => walk_args1 (iT := iRng1) (Pm := fun H1 vs R => ∃ j : Int, vs = [.int j] ∧ -(2 ^ 62) ≤ j ∧ j < 2 ^ 62 ∧ R (Itr 0 j.toNat) H1) (fun _ _ _ _ z => z) (fun ad Z H ds vs s Rr x s' ok rvs q => ?_) (fun ds s C fs s' q => ?_) h
  · split at q
    · rename_i j
      obtain ⟨v, rfl, hv⟩ := repL1 rvs
      split at q
      · rename_i hb
        cases q
        exact ⟨rfl, fun k => ⟨j, by rw [rep_int.mp hv], hb.1, hb.2, k _ walkall_range⟩⟩
      · cases q
    · cases q
  · split at q
    · split at q <;> cases q
    · cases q
/-- range(0, j, c), c positive -/
noncomputable def itR3 (ea : EvA) : EvI1 := fun e => (ea e).bind fun ds s1 =>
  match ds with
  | [.int i, .int j, .int c] => if i = 0 ∧ 0 ≤ j ∧ j < 2 ^ 60 ∧ 1 ≤ c ∧ c < 1000000 then .ok (rangeC c ((j + c - 1) / c).toNat) s1 else .bad
  | _ => .bad
theorem rgc_pos {j c : Int} (h0 : 0 ≤ j) (h1 : j < 2 ^ 60) (h2 : 1 ≤ c) (h3 : c < 1000000) : RgC 0 j c ((j + c - 1) / c).toNat := by
  have e0 : 0 ≤ (j + c - 1) / c := Int.ediv_nonneg (by omega) (by omega)
  refine ⟨by omega, by omega, ?_, ?_⟩
  · have e1 : (j + c - 1) / c ≤ j + c - 1 := Int.ediv_le_self _ (by omega)
    have e2 := Int.emod_add_mul_ediv (j + c - 1) c
    have e3 := Int.emod_nonneg (j + c - 1) (show c ≠ 0 by omega)
    unfold Builtin.Range.small
    rw [rangeSize_pos h2 h0]
    obtain ⟨g, hg⟩ : ∃ g, g = (j + c - 1) / c := ⟨_, rfl⟩
    rw [← hg] at e0 e1 e2 ⊢
    have e4 : g * c ≤ j + c - 1 := by rw [Int.mul_comm]; omega
    simp only [Builtin.Range.rangeFitsLong, Bool.and_eq_true, Bool.or_eq_true, decide_eq_true_eq, beq_iff_eq]
    refine ⟨⟨⟨⟨by omega, by omega⟩, by omega⟩, by omega⟩, .inr ?_⟩
    rw [if_pos (by omega)]
    simp only [Bool.and_eq_true, decide_eq_true_eq]
    omega
  · rw [rangeSize_pos h2 h0, Int.toNat_of_nonneg e0]
theorem sim_ir3 {a b c : Expr} {p pos : Pos} (hg : Gl X "range") (hm : X.mg "range" = none) (ha : PA X [a, b, c] (tAr X.K H0 ad0 W ea)) (hs : starEach [a, b, c] X.env = (false, eval a X.env) :: starEach [b, c] X.env := by rfl)
    (hpl : (backTo pos (starEach [b, c] X.env)).any (·.1) = false := by rfl) : PI X tg (.Call (.Name "range" p) [a, b, c] [] pos) (tI1 X.K H0 ad0 W (itR3 ea)) := by
  refine pi_mono (pi_range3 hg hm ha hs hpl) fun σ H Rr h => walk_args1 (iT := iRng3) (Pm := fun H1 vs R => ∃ (i j c : Int) (n : Nat), vs = [.int i, .int j, .int c] ∧ RgC i j c n ∧ R (Itc i c n) H1) (fun _ _ _ _ z => z) (fun ad Z H ds vs s Rr x s' ok rvs q => ?_) (fun ds s C fs s' q => ?_) h
  · split at q
    · rename_i i j c
      obtain ⟨v, v', v'', rfl, hv, hv', hv''⟩ := repL3 rvs
      split at q
      · rename_i hb
        cases q
        obtain ⟨rfl, b1, b2, b3, b4⟩ := hb
        exact ⟨rfl, fun k => ⟨0, j, c, _, by rw [rep_int.mp hv, rep_int.mp hv', rep_int.mp hv''], rgc_pos b1 b2 b3 b4, k _ walkall_rangeC⟩⟩
      · cases q
    · cases q
  · split at q
    · split at q <;> cases q
    · cases q
end
/-- the inner clause, then the outer one -/
noncomputable def compL2 (G : Sto → Prop) (asg : Asg) (it1 : EvI1) (asg1 : Asg) (elt : EvE) (loc : List (Option (D × Bool))) (own1 : List Nat) : List D → List D → Sto → R (List D)
  | [], acc, s => if G s then .ok acc s else .bad
  | d :: ds, acc, s => if G s then
      match asg d ⟨loc, s⟩ with
      | none => .bad
      | some e1 => (it1 e1).bindN fun ds1 s1 => (compL (fun _ => True) asg1 cYes elt (wipeL e1.loc own1) ds1 acc s1).bindN fun acc1 s2 => compL2 G asg it1 asg1 elt loc own1 ds acc1 s2
    else .bad
noncomputable def eComp2 (it : EvI) (asg : Asg) (it1 : EvI1) (asg1 : Asg) (elt : EvE) (own own1 : List Nat) : EvE := fun e => (it e).bind fun x s1 => (compL2 x.2 asg it1 asg1 elt (wipeL e.loc own) own1 x.1 [] s1).bind fun acc s2 => .ok (.lst acc, 2) s2
theorem lc2_to {K : PySem.W.Frag} {H0 : Hp} {ad0 : List Addr} {W : WX} {own own1 : List Nat} {it : EvI} {it1 : EvI1} {g g1 : TG} {sl sl1 : List Nat} {asg asg1 : Asg} {el : EvE} (hga : GSim K H0 ad0 g sl asg) (hsl : ∀ i ∈ sl, i ∈ own) (hga1 : GSim K H0 ad0 g1 sl1 asg1) (hsl1 : ∀ i ∈ sl1, i ∈ own1) (σ : L2.St) (H : Hp) (Q : VK)
    (h : tE K H0 ad0 W (eComp2 it asg it1 asg1 el own own1) σ H Q) : tLc2 (tI K H0 ad0 W it) g (tTs K H0 ad0 W0 cYes) (tI1 K H0 ad0 W0 it1) g1 (tTs K H0 ad0 W0 cYes) (tE K H0 ad0 W0 el) own own1 σ H Q := by
  obtain ⟨Z, ad, e, rel, h⟩ := h
  refine ⟨Z, ad, e, rel, (post_bind h).mono fun x ad1 s1 H1 ⟨st1, rel1, h1⟩ J hJ Da hDa => ?_⟩
  obtain ⟨ds, G⟩ := x
  have h1 : post K H0 ad0 W ad1 Z ⟨e.loc, s1⟩ σ H1 ((compL2 G asg it1 asg1 el (wipeL e.loc own) own1 ds [] s1).bind fun acc s2 => .ok (D.lst acc, 2) s2) _ := h1
  have hJ := hJ (Da :: Z) (fun z hz => List.mem_cons_of_mem _ hz) fun z hz => (List.mem_cons.mp hz).elim (fun q => .inr (by rw [q]; exact hDa)) .inl
  generalize hr : compL2 G asg it1 asg1 el (wipeL e.loc own) own1 ds [] s1 = r at h1
  have nDz : Da ∉ Z := (rel1.sto.new hDa).2
  have relD := (rel1.pin (o := HO.lst []) hDa).wiped own
  have sm0 : Same H1 (upd H1 Da (.lst [])) := same_upd hDa
  refine ⟨fun i m H' => m = ds.length - i ∧ i ≤ ds.length ∧ ∃ ad' s' accD accV, Step ad1 H1 ad' H' ∧ Rel K H0 ad0 ad' (Da :: Z) ⟨wipeL e.loc own, s'⟩ (wipe σ own) H' ∧ H' Da = some (.lst accV) ∧ RepL K ad' (Da :: Z) H' accD accV ∧ compL2 G asg it1 asg1 el (wipeL e.loc own) own1 (ds.drop i) accD s' = r,
    ⟨ds.length, by simp, Nat.zero_le _, ad1, s1, [], [], .same sm0, relD, upd_same, by unfold RepL; rfl, hr⟩, ?_⟩
  rintro i m H2 ⟨rfl, hi, ad2, s2, accD, accV, st2, rel2, hD2, rp2, h2⟩
  have nbad : r ≠ .bad := fun q => by rw [q] at h1; exact h1
  have nDa : Da ∉ ad2 := rel2.sto.zn Da (by simp)
  cases hd : ds.drop i with
  | nil =>
    rw [hd] at h2
    unfold compL2 at h2
    by_cases hG : G s2
    · rw [if_pos hG] at h2
      have hl : ds.length ≤ i := by
        have := congrArg List.length hd
        simp at this; omega
      refine .inl ⟨(hJ i ad2 s2 H2 st2 rel2.sto hG).2 hl, ?_⟩
      rw [← h2] at h1
      have zz : ∀ a o, H2 a = some o → a ∉ Da :: Z → a ∉ Z := fun a o _ n => fun q => n (List.mem_cons_of_mem _ q)
      have sto2 : StoOk K ad2 Z s2 H2 := rel2.sto.z zz (fun z hz => rel2.sto.zd z (List.mem_cons_of_mem _ hz)) (fun z hz => rel2.sto.zn z (List.mem_cons_of_mem _ hz))
      refine (h1 H2 ad2 st2 (rel1.later st2 sto2 rel2.st)).2.2 (.ref Da) ?_ (fun _ => ?_) (fun _ => ?_)
      · show Rep K ad2 Z H2 (.lst accD) (.ref Da)
        unfold Rep
        exact ⟨Da, accV, rfl, ⟨nDa, nDz⟩, hD2, RepL.z zz _ _ rp2⟩
      · exact rel1.lv0 (lv_ref hDa)
      · exact (lv_ref hDa).back st1 rel1.sto.dom
    · rw [if_neg hG] at h2; exact absurd h2.symm nbad
  | cons d rest =>
    have hget : ds[i]? = some d := by
      have : (ds.drop i)[0]? = some d := by rw [hd]; rfl
      simpa using this
    have hdrop : ds.drop (i + 1) = rest := by
      rw [← List.drop_drop, hd]; rfl
    have hlt : i < ds.length := (List.getElem?_eq_some_iff.mp hget).1
    rw [hd] at h2
    unfold compL2 at h2
    by_cases hG : G s2
    · rw [if_pos hG] at h2
      obtain ⟨go, yl⟩ := (hJ i ad2 s2 H2 st2 rel2.sto hG).1 d hget
      refine .inr ⟨go, fun H' => ∃ ad' s' accD accV, Step ad1 H1 ad' H' ∧ Rel K H0 ad0 ad' (Da :: Z) ⟨wipeL e.loc own, s'⟩ (wipe σ own) H' ∧ H' Da = some (.lst accV) ∧ RepL K ad' (Da :: Z) H' accD accV ∧ compL2 G asg it1 asg1 el (wipeL e.loc own) own1 rest accD s' = r,
        fun H' ⟨ad', s', a', b', a, b, c, d', e'⟩ => ⟨ds.length - (i + 1), by omega, rfl, hlt, ad', s', a', b', a, b, c, d', by rw [hdrop]; exact e'⟩, fun x H3 hy => ?_⟩
      obtain ⟨sm3, rep⟩ := yl x H3 hy
      have st3 : Step ad2 H2 ad2 H3 := .same sm3
      cases ha : asg d ⟨wipeL e.loc own, s2⟩ with
      | none => rw [ha] at h2; exact absurd h2.symm nbad
      | some e3 =>
        rw [ha] at h2
        have h2 : ((it1 e3).bindN fun ds1 s1 => (compL (fun _ => True) asg1 cYes el (wipeL e3.loc own1) ds1 accD s1).bindN fun acc1 s2 => compL2 G asg it1 asg1 el (wipeL e.loc own) own1 rest acc1 s2) = r := h2
        refine hga ad2 (Da :: Z) _ e3 _ H3 d x _ (rel2.same sm3) rep ha fun σ3 rel3 hw => ⟨(hw _ hsl).trans wipe_wipe, Da :: Z, ad2, e3, rel3, ?_⟩
        intro H4 ad4 st4 rel4
        refine iteT ⟨Da :: Z, ad4, _, rel4, ?_⟩
        have e3e : (⟨e3.loc, e3.sto⟩ : En) = e3 := rfl
        have st34 := rel3.tr st3 st4
        show post K H0 ad0 W0 ad4 (Da :: Z) e3 σ3 H4 (it1 e3) _
        cases hit : it1 e3 with
        | bad => rw [hit] at h2; exact absurd h2.symm nbad
        | exc C fs s => rw [hit] at h2; exact absurd h2.symm nbad
        | ok ds1 s5 =>
          rw [hit] at h2
          have h2 : ((compL (fun _ => True) asg1 cYes el (wipeL e3.loc own1) ds1 accD s5).bindN fun acc1 s2 => compL2 G asg it1 asg1 el (wipeL e.loc own) own1 rest acc1 s2) = r := h2
          intro H5 ad5 st5 rel5 J1 hJ1
          have st35 := rel4.tr st34 st5
          generalize hr1 : compL (fun _ => True) asg1 cYes el (wipeL e3.loc own1) ds1 accD s5 = r1 at h2
          have nbad1 : r1 ≠ .bad := fun q => by rw [q] at h2; exact nbad h2.symm
          refine ⟨fun j k H' => k = ds1.length - j ∧ j ≤ ds1.length ∧ ∃ ad' s' accD' accV', Step ad1 H1 ad' H' ∧ Rel K H0 ad0 ad' (Da :: Z) ⟨wipeL e3.loc own1, s'⟩ (wipe σ3 own1) H' ∧ Rel K H0 ad0 ad' (Da :: Z) ⟨wipeL e.loc own, s'⟩ (wipe σ own) H' ∧ H' Da = some (.lst accV') ∧ RepL K ad' (Da :: Z) H' accD' accV' ∧ compL (fun _ => True) asg1 cYes el (wipeL e3.loc own1) (ds1.drop j) accD' s' = r1,
            ⟨ds1.length, by simp, Nat.zero_le _, ad5, s5, accD, accV, rel2.tr st2 st35, rel5.wiped own1, rel2.later st35 rel5.sto rel5.st, st35.fr _ _ hD2 nDa, RepL.step st35 _ _ rp2, hr1⟩, ?_⟩
          rintro j k H6 ⟨rfl, hj, ad6, s6, accD', accV', st6, rel6, rel6o, hD6, rp6, h6⟩
          have nDa6 : Da ∉ ad6 := rel6.sto.zn Da (by simp)
          cases hd1 : ds1.drop j with
          | nil =>
            rw [hd1] at h6
            unfold compL at h6
            rw [if_pos trivial] at h6
            have hl : ds1.length ≤ j := by
              have := congrArg List.length hd1
              simp at this; omega
            refine .inl ⟨(hJ1 j ad6 (Da :: Z) H6).2 hl, ad6, s6, accD', accV', st6, rel6o, hD6, rp6, ?_⟩
            rw [← h6] at h2
            exact h2
          | cons d1 rest1 =>
            have hget1 : ds1[j]? = some d1 := by
              have : (ds1.drop j)[0]? = some d1 := by rw [hd1]; rfl
              simpa using this
            have hdrop1 : ds1.drop (j + 1) = rest1 := by
              rw [← List.drop_drop, hd1]; rfl
            have hlt1 : j < ds1.length := (List.getElem?_eq_some_iff.mp hget1).1
            rw [hd1] at h6
            unfold compL at h6
            rw [if_pos trivial] at h6
            obtain ⟨go1, yl1⟩ := (hJ1 j ad6 (Da :: Z) H6).1 d1 hget1
            refine .inr ⟨go1, fun H' => ∃ ad' s' accD' accV', Step ad1 H1 ad' H' ∧ Rel K H0 ad0 ad' (Da :: Z) ⟨wipeL e3.loc own1, s'⟩ (wipe σ3 own1) H' ∧ Rel K H0 ad0 ad' (Da :: Z) ⟨wipeL e.loc own, s'⟩ (wipe σ own) H' ∧ H' Da = some (.lst accV') ∧ RepL K ad' (Da :: Z) H' accD' accV' ∧ compL (fun _ => True) asg1 cYes el (wipeL e3.loc own1) rest1 accD' s' = r1,
              fun H' ⟨ad', s', a', b', a, b, b2, c, d', e'⟩ => ⟨ds1.length - (j + 1), by omega, rfl, hlt1, ad', s', a', b', a, b, b2, c, d', by rw [hdrop1]; exact e'⟩, fun x1 H7 hy1 => ?_⟩
            obtain ⟨sm7, rep1⟩ := yl1 x1 H7 hy1
            have st7 : Step ad6 H6 ad6 H7 := .same sm7
            cases ha1 : asg1 d1 ⟨wipeL e3.loc own1, s6⟩ with
            | none => rw [ha1] at h6; exact absurd h6.symm nbad1
            | some e8 =>
              rw [ha1] at h6
              have h6 : ((el ⟨e8.loc, e8.sto⟩).bindN fun y s2 => if accD'.length < sizeLine then compL (fun _ => True) asg1 cYes el (wipeL e3.loc own1) rest1 (accD' ++ [y.1]) s2 else .bad) = r1 := h6
              refine hga1 ad6 (Da :: Z) _ e8 _ H7 d1 x1 _ (rel6.same sm7) rep1 ha1 fun σ8 rel8 hw1 => ⟨(hw1 _ hsl1).trans wipe_wipe, Da :: Z, ad6, e8, rel8, ?_⟩
              intro H8 ad8 st8 rel9
              refine iteT ⟨Da :: Z, ad8, ⟨e8.loc, e8.sto⟩, rel9, ?_⟩
              have st78 := rel8.tr st7 st8
              cases hel : el ⟨e8.loc, e8.sto⟩ with
              | bad => rw [hel] at h6; exact absurd h6.symm nbad1
              | exc C fs s => rw [hel] at h6; exact absurd h6.symm nbad1
              | ok y s9 =>
                rw [hel] at h6
                have h6 : (if accD'.length < sizeLine then compL (fun _ => True) asg1 cYes el (wipeL e3.loc own1) rest1 (accD' ++ [y.1]) s9 else .bad) = r1 := h6
                by_cases hz : accD'.length < sizeLine
                · rw [if_pos hz] at h6
                  intro H9 ad9 st9 rel10 v rv _ _
                  have st79 := rel9.tr st78 st9
                  have hD9 : H9 Da = some (.lst accV') := st79.fr _ _ hD6 nDa6
                  have rp9 := RepL.step st79 _ _ rp6
                  have fr : ∀ b o, H9 b = some o → b ∉ Da :: Z → upd H9 Da (.lst (accV' ++ [v])) b = some o := fun b o q n => by
                    rw [upd_ne (fun z => n (by simp [z]))]; exact q
                  have st19 := rel6.tr st6 st79
                  have stF : Step ad1 H1 ad9 (upd H9 Da (.lst (accV' ++ [v]))) := ⟨st19.ext, fun b o q n => by
                    rw [upd_ne (ne_of_none q hDa)]; exact st19.fr b o q n⟩
                  have zd : ∀ z ∈ Da :: Z, ∃ o, upd H9 Da (.lst (accV' ++ [v])) z = some o := fun z hz => by
                    by_cases hzd : z = Da
                    · exact ⟨_, by rw [hzd]; exact upd_same⟩
                    · obtain ⟨o, q'⟩ := rel10.sto.zd z hz
                      exact ⟨o, by rw [upd_ne hzd]; exact q'⟩
                  have stI := rel1.st.trans stF fun x hx => rel1.sto.dom x (rel1.st.sub x hx)
                  refine ⟨accV', hD9, by rw [← RepL.len rp6]; exact hz, ad9, s9, accD' ++ [y.1], accV' ++ [v], stF, ?_, ?_, upd_same, ?_, h6⟩
                  · exact (rel6.later st79 rel10.sto rel10.st).core fr zd stI
                  · exact (rel6o.later st79 rel10.sto rel10.st).core fr zd stI
                  · exact RepL.core .refl (fun b o e _ n => fr b o e n) _ _ (RepL.append rp9 (by unfold RepL; exact ⟨v, [], rfl, rv, by unfold RepL; rfl⟩))
                · rw [if_neg hz] at h6; exact absurd h6.symm nbad1
    · rw [if_neg hG] at h2; exact absurd h2.symm nbad
section
variable {X : Cx} {H0 : Hp} {ad0 : List Addr} {W : WX} {elt tg iter tg1 iter1 : Expr} {scope : Scope} {own : List (Str × Nat)} {vs1 : List Nat} {pos : Pos} {it : EvI} {it1 : EvI1} {g g1 : TG} {sl sl1 : List Nat} {asg asg1 : Asg} {el : EvE}
theorem sim_lc2 (hc : X.calm = true) (hN : X.N.Nodup) (hi : PI X tg iter (tI X.K H0 ad0 W it)) (ok : BlkOk X.N X.env.scope scope own) (hv : ∀ i ∈ vs1, i ∈ own.map (·.2))
    (hg : ∀ (s : Shared) (H : Hp) (C : Addr) (cl : List (Str × Addr)) (fp : List Addr), PG (X.blk s H scope (compEnvC scope cl C X.env) fp) tg g) (hga : GSim X.K H0 ad0 g sl asg) (hsl : ∀ i ∈ sl, i ∈ own.map (·.2))
    (hi1 : ∀ (s : Shared) (H : Hp) (C : Addr) (cl : List (Str × Addr)) (fp : List Addr), PI (X.blk s H scope (compEnvC scope cl C X.env) fp) tg1 iter1 (tI1 X.K H0 ad0 W0 it1))
    (hg1 : ∀ (s : Shared) (H : Hp) (C : Addr) (cl : List (Str × Addr)) (fp : List Addr), PG (X.blk s H scope (compEnvC scope cl C X.env) fp) tg1 g1) (hga1 : GSim X.K H0 ad0 g1 sl1 asg1) (hsl1 : ∀ i ∈ sl1, i ∈ vs1)
    (he : ∀ (s : Shared) (H : Hp) (C : Addr) (cl : List (Str × Addr)) (fp : List Addr), PE (X.blk s H scope (compEnvC scope cl C X.env) fp) elt (tE X.K H0 ad0 W0 el)) (hs : ∀ x, foldedSetIterable iter X.env x = pure x := by intro _; rfl) (hs1 : ∀ env x, foldedSetIterable iter1 env x = pure x := by intro _ _; rfl) :
    PE X (.ListComp elt [⟨tg, iter, [], 0⟩, ⟨tg1, iter1, [], 0⟩] scope pos) (tE X.K H0 ad0 W (eComp2 it asg it1 asg1 el (own.map (·.2)) vs1)) :=
  pe_mono (pe_lc2 hc hN hi ok hv hg (fun _ _ _ _ _ => sim_ptsnil) hi1 hg1 (fun _ _ _ _ _ => sim_ptsnil) he hs hs1) (lc2_to hga hsl hga1 hsl1)
theorem sim_setLc2 {i : Nat} {y : Str} {py spos : Pos} {ev : EvE} (hc : X.calm = true) (hN : X.N.Nodup) (hy : X.N[i]? = some y) (hyl : X.env.scope.names.lookup y = some .local)
    (hsw : swapsWith (.ListComp elt [⟨tg, iter, [], 0⟩, ⟨tg1, iter1, [], 0⟩] scope pos) (some (.Name y py)) spos.line X.env = pure true) (hi : PI X tg iter (tI X.K H0 ad0 W it)) (ok : BlkOk X.N X.env.scope scope own) (hv : ∀ i ∈ vs1, i ∈ own.map (·.2))
    (hg : ∀ (s : Shared) (H : Hp) (C : Addr) (cl : List (Str × Addr)) (fp : List Addr), PG (X.blk s H scope (compEnvC scope cl C X.env) fp) tg g) (hga : GSim X.K H0 ad0 g sl asg) (hsl : ∀ i ∈ sl, i ∈ own.map (·.2))
    (hi1 : ∀ (s : Shared) (H : Hp) (C : Addr) (cl : List (Str × Addr)) (fp : List Addr), PI (X.blk s H scope (compEnvC scope cl C X.env) fp) tg1 iter1 (tI1 X.K H0 ad0 W0 it1))
    (hg1 : ∀ (s : Shared) (H : Hp) (C : Addr) (cl : List (Str × Addr)) (fp : List Addr), PG (X.blk s H scope (compEnvC scope cl C X.env) fp) tg1 g1) (hga1 : GSim X.K H0 ad0 g1 sl1 asg1) (hsl1 : ∀ i ∈ sl1, i ∈ vs1)
    (he : ∀ (s : Shared) (H : Hp) (C : Addr) (cl : List (Str × Addr)) (fp : List Addr), PE (X.blk s H scope (compEnvC scope cl C X.env) fp) elt (tE X.K H0 ad0 W0 el))
    (hk : ∀ σ H Q, tE X.K H0 ad0 W ev σ H Q → tE X.K H0 ad0 W (eComp2 it asg it1 asg1 el (own.map (·.2)) vs1) σ H Q) (hs : ∀ x, foldedSetIterable iter X.env x = pure x := by intro _; rfl) (hs1 : ∀ env x, foldedSetIterable iter1 env x = pure x := by intro _ _; rfl) :
    PS X (.Assign [.Name y py] (.ListComp elt [⟨tg, iter, [], 0⟩, ⟨tg1, iter1, [], 0⟩] scope pos) spos) (tS X.K H0 ad0 W (sSet i ev)) := by
  refine ps_mono (ps_setLc2 hc hN hy hyl hsw hi ok hv hg (fun _ _ _ _ _ => sim_ptsnil) hi1 hg1 (fun _ _ _ _ _ => sim_ptsnil) he hs hs1) fun D σ H ⟨Z, ad, e, rel, h⟩ => lc2_to hga hsl hga1 hsl1 σ H _ (hk σ H _ ⟨Z, ad, e, rel, (postS_toS h).mono fun x ad1 s1 H1 ⟨stp, rel1, h1⟩ v rv l1 _ => ?_⟩)
  exact h1 _ H1 ad1 .refl (rel1.put rv fun q => l1 (of_decide_eq_true q))
end
end FX

set_option Elab.async false
set_option linter.all false
set_option maxRecDepth 100000
namespace FX
open PySem PySem.Spec PyProof.Rows L2
open Builtin.SmallTypes (nextOf ownedTupleIsFree ownedTupleHandOut)
/-! ### enumerate(zip(a, b)) -/
/-- a zip, whatever has become of its tuple -/
abbrev ZipAny (h : Heap) (z TI TO : Addr) (f0 : Value) (fl : Bool) : Prop :=
  h.get? z = some { cls := .type "zip", dict := none, data := .fields #[f0, .bool fl, .bool false, .ref TI, .ref TO], slots := #[] }
section
variable {prog : Program} {w : World} {A : Around} {E : Value → Shared → Prop} {s : Shared}
theorem alive_q {a : Addr} {Q : Option Obj → Shared → Prop} (q : Q (s.heap.get? a) s) : wpAny (model prog w) A (loadIfAlive a) Q E s := fun _ _ _ => q
/-- its tuple may be used: none is out, or it's gone -/
theorem zip_free {z TI TO : Addr} {f0 : Value} {fl : Bool} (hz : ZipAny s.heap z TI TO f0 fl) (h0 : f0 = .none ∨ ∃ T : Addr, f0 = rawInt T ∧ s.heap.get? T = none) {Q : Bool → Shared → Prop} (q : Q true s) :
    wpAny (model prog w) A (ownedTupleIsFree (.ref z)) Q E s := by
  unfold ownedTupleIsFree
  rcases h0 with rfl | ⟨T, rfl, hT⟩
  · exact wpAny_bind (wpAny_field hz rfl (x := .none) rfl (wpAny_pure q))
  · refine wpAny_bind (wpAny_field hz rfl (x := rawInt T) rfl ?_)
    show wpAny _ _ (loadIfAlive ((T : Int).toNat) >>= _) _ _ _
    rw [Int.toNat_natCast]
    refine wpAny_bind (alive_q ?_)
    rw [hT]
    exact wpAny_pure q
theorem zipF_item {z TI TO i1 i2 l1 l2 : Addr} {f0 : Value} {fl : Bool} {k1 k2 : Nat} {xs ys : Array Value} {x y a b : Value} {Q : Value → Shared → Prop} (D : ZipApart z TI TO i1 i2 l1 l2)
    (hz : ZipAny s.heap z TI TO f0 fl) (h0 : f0 = .none ∨ ∃ T : Addr, f0 = rawInt T ∧ s.heap.get? T = none) (hI : IsPair s.heap TI (.ref i1) (.ref i2)) (hO : IsPair s.heap TO a b)
    (m1 : s.heap.IsListIter i1 l1 k1) (m2 : s.heap.IsListIter i2 l2 k2) (n1 : s.heap.IsList l1 xs) (n2 : s.heap.IsList l2 ys) (ex : xs[k1]? = some x) (ey : ys[k2]? = some y)
    (q : ∀ g, ZipAny g z TI TO (rawInt s.heap.objs.size) false → IsPair g TO x y → g.IsListIter i1 l1 (k1 + 1) → g.IsListIter i2 l2 (k2 + 1) → IsPair g s.heap.objs.size x y → g.objs.size = s.heap.objs.size + 1 →
      (∀ c o, c ≠ z → c ≠ TO → c ≠ i1 → c ≠ i2 → s.heap.get? c = some o → g.get? c = some o) → Q (.ref s.heap.objs.size) { s with heap := g }) :
    wpAny (model prog w) A (Builtin.«zip.__next__» ⟨[.ref z], []⟩) (fun r t => ∃ v, r = .done (.ret v) ∧ Q v t) E s := by
  show wpAny _ _ (field (.ref z) 2 >>= _) _ _ _
  refine wpAny_bind (wpAny_field hz rfl (x := .bool false) rfl ?_)
  show wpAny _ _ (field (.ref z) 3 >>= _) _ _ _
  refine wpAny_bind (wpAny_field hz rfl (x := .ref TI) rfl ?_)
  refine wpAny_bind (wpAny_seqItems hI rfl ?_)
  show wpAny _ _ (ownedTupleIsFree (.ref z) >>= _) _ _ _
  refine wpAny_bind (zip_free hz h0 ?_)
  simp only [if_true]
  refine wpAny_bind (wpAny_rule (wpAny_bind (wpAny_field hz rfl (x := .ref TO) rfl ?_)))
  refine wpAny_bind (wpAny_setField_rec hz (by simp) fun g1 z1 b1 => ?_)
  replace z1 : ZipAny g1 z TI TO .ellipsis fl := z1
  refine wpAny_bind ?_
  simp only [List.zipIdx_cons, List.zipIdx_nil, List.forIn_cons, List.forIn_nil]
  refine wpAny_bind (wpAny_bind (wpAny_onRaise ?_))
  show wpAny _ _ (nextOf (.ref i1) >>= _) _ _ _
  refine wpAny_bind (wpAny_nextOf_list_item (m1.extBut b1.extBut D.i1z) (n1.extBut b1.extBut D.l1z) ex fun g2 m1' b2 => wpAny_pure ?_)
  have O2 : IsPair g2 TO a b := b2.extBut _ _ D.TOi1 (b1.extBut _ _ D.TOz hO)
  refine wpAny_bind (wpAny_seqItems O2 rfl (wpAny_bind (wpAny_updateSeq_pair O2 fun g3 O3 b3 => ?_)))
  replace O3 : IsPair g3 TO x b := O3
  refine wpAny_bind (wpAny_letGo (wpAny_pure (wpAny_bind (wpAny_bind (wpAny_onRaise ?_)))))
  show wpAny _ _ (nextOf (.ref i2) >>= _) _ _ _
  have m2' := ((m2.extBut b1.extBut D.i2z).extBut b2.extBut D.i12.symm).extBut b3.extBut D.TOi2.symm
  have n2' := ((n2.extBut b1.extBut D.l2z).extBut b2.extBut D.l2i1).extBut b3.extBut D.l2TO
  refine wpAny_bind (wpAny_nextOf_list_item m2' n2' ey fun g4 m24 b4 => wpAny_pure ?_)
  have O4 : IsPair g4 TO x b := b4.extBut _ _ D.TOi2 O3
  refine wpAny_bind (wpAny_seqItems O4 rfl (wpAny_bind (wpAny_updateSeq_pair O4 fun g5 O5 b5 => ?_)))
  replace O5 : IsPair g5 TO x y := O5
  refine wpAny_bind (wpAny_letGo (wpAny_pure (wpAny_pure (wpAny_bind (wpAny_seqItems O5 rfl (wpAny_bind (wpAny_newTuple ?_)))))))
  have sz : g5.objs.size = s.heap.objs.size := by rw [b5.1, b4.1, b3.1, b2.1, b1.1]
  have z5 : ZipAny g5 z TI TO .ellipsis fl := b5.extBut _ _ D.TOz.symm (b4.extBut _ _ D.i2z.symm (b3.extBut _ _ D.TOz.symm (b2.extBut _ _ D.i1z.symm z1)))
  have k5 : ∀ c o, c ≠ z → c ≠ TO → c ≠ i1 → c ≠ i2 → s.heap.get? c = some o → g5.get? c = some o := fun c o c1 c2 c3 c4 h =>
    b5.extBut _ _ c2 (b4.extBut _ _ c4 (b3.extBut _ _ c2 (b2.extBut _ _ c3 (b1.extBut _ _ c1 h))))
  have m15 : g5.IsListIter i1 l1 (k1 + 1) := ((m1'.extBut b3.extBut D.TOi1.symm).extBut b4.extBut D.i12).extBut b5.extBut D.TOi1.symm
  have m25 : g5.IsListIter i2 l2 (k2 + 1) := m24.extBut b5.extBut D.TOi2.symm
  have zl : z < g5.objs.size := Heap.lt_size z5
  show wpAny _ _ (ownedTupleHandOut (.ref z) (.ref g5.objs.size) >>= _) _ _ _
  refine wpAny_bind ?_
  unfold ownedTupleHandOut
  have z6 : ZipAny (g5.push { cls := .type "tuple", data := .seq #[x, y] }) z TI TO .ellipsis fl := Heap.get?_push_of_some _ z5
  refine wpAny_bind (wpAny_setField_rec z6 (by simp) fun g7 z7 b7 => ?_)
  replace z7 : ZipAny g7 z TI TO (rawInt g5.objs.size) fl := z7
  refine wpAny_setField_rec z7 (by simp) fun g8 z8 b8 => ?_
  replace z8 : ZipAny g8 z TI TO (rawInt g5.objs.size) false := z8
  have up : ∀ c o, c ≠ z → g5.get? c = some o → g8.get? c = some o := fun c o c1 h => b8.extBut _ _ c1 (b7.extBut _ _ c1 (Heap.get?_push_of_some _ h))
  have T8 : IsPair g8 g5.objs.size x y := b8.extBut _ _ (Nat.ne_of_gt zl) (b7.extBut _ _ (Nat.ne_of_gt zl) (Heap.get?_push_size _ rfl))
  have sz8 : g8.objs.size = g5.objs.size + 1 := by rw [b8.1, b7.1, Heap.size_push]
  rw [sz] at z8 T8 sz8
  refine wpAny_pure ⟨_, rfl, ?_⟩
  show Q (.ref g5.objs.size) _
  rw [sz]
  exact q g8 z8 (up _ _ D.TOz O5) (m15.at fun o h => up _ o D.i1z h) (m25.at fun o h => up _ o D.i2z h) T8 sz8 fun c o c1 c2 c3 c4 h => up c o c1 (k5 c o c1 c2 c3 c4 h)
theorem zipF_end {z TI TO i1 i2 l1 l2 : Addr} {f0 : Value} {fl : Bool} {k1 k2 : Nat} {xs ys : Array Value} {a b : Value} {Q : Fin → Shared → Prop} (hh : A.handled = none) (D : ZipApart z TI TO i1 i2 l1 l2)
    (hz : ZipAny s.heap z TI TO f0 fl) (h0 : f0 = .none ∨ ∃ T : Addr, f0 = rawInt T ∧ s.heap.get? T = none) (hI : IsPair s.heap TI (.ref i1) (.ref i2)) (hO : IsPair s.heap TO a b)
    (m1 : s.heap.IsListIter i1 l1 k1) (m2 : s.heap.IsListIter i2 l2 k2) (n1 : s.heap.IsList l1 xs) (n2 : s.heap.IsList l2 ys) (hend : xs[k1]? = none ∨ ys[k2]? = none)
    (q : ∀ g e, (∀ c o, c ≠ z → c ≠ TO → c ≠ i1 → c ≠ i2 → s.heap.get? c = some o → g.get? c = some o) → (∃ o, g.get? e = some o ∧ o.cls = .type "StopIteration") → E (.ref e) { s with heap := g }) :
    wpAny (model prog w) A (Builtin.«zip.__next__» ⟨[.ref z], []⟩) Q E s := by
  show wpAny _ _ (field (.ref z) 2 >>= _) _ _ _
  refine wpAny_bind (wpAny_field hz rfl (x := .bool false) rfl ?_)
  show wpAny _ _ (field (.ref z) 3 >>= _) _ _ _
  refine wpAny_bind (wpAny_field hz rfl (x := .ref TI) rfl ?_)
  refine wpAny_bind (wpAny_seqItems hI rfl ?_)
  show wpAny _ _ (ownedTupleIsFree (.ref z) >>= _) _ _ _
  refine wpAny_bind (zip_free hz h0 ?_)
  simp only [if_true]
  refine wpAny_bind (wpAny_rule (wpAny_bind (wpAny_field hz rfl (x := .ref TO) rfl ?_)))
  refine wpAny_bind (wpAny_setField_rec hz (by simp) fun g1 z1 b1 => ?_)
  replace z1 : ZipAny g1 z TI TO .ellipsis fl := z1
  refine wpAny_bind ?_
  simp only [List.zipIdx_cons, List.zipIdx_nil, List.forIn_cons, List.forIn_nil]
  refine wpAny_bind (wpAny_bind (wpAny_onRaise ?_))
  show wpAny _ _ (nextOf (.ref i1) >>= _) _ _ _
  cases hx : xs[k1]? with
  | none =>
    refine wpAny_bind (wpAny_nextOf_list_end hh (m1.extBut b1.extBut D.i1z) (n1.extBut b1.extBut D.l1z) hx fun g2 e b2 ⟨o, ho, hc⟩ => ?_)
    have z2 : ZipAny g2 z TI TO .ellipsis fl := b2 _ _ D.i1z.symm z1
    have ez : e ≠ z := fun r => by subst r; rw [z2] at ho; cases ho; simp at hc
    exact wpAny_setField_rec z2 (by simp) fun g3 _ b3 => q g3 e (fun c o c1 _ c3 _ h => b3.extBut _ _ c1 (b2 _ _ c3 (b1.extBut _ _ c1 h))) ⟨o, b3.extBut _ _ ez ho, hc⟩
  | some x =>
    have ey : ys[k2]? = none := hend.resolve_left fun h => by rw [hx] at h; cases h
    refine wpAny_bind (wpAny_nextOf_list_item (m1.extBut b1.extBut D.i1z) (n1.extBut b1.extBut D.l1z) hx fun g2 m1' b2 => wpAny_pure ?_)
    have O2 : IsPair g2 TO a b := b2.extBut _ _ D.TOi1 (b1.extBut _ _ D.TOz hO)
    refine wpAny_bind (wpAny_seqItems O2 rfl (wpAny_bind (wpAny_updateSeq_pair O2 fun g3 O3 b3 => ?_)))
    refine wpAny_bind (wpAny_letGo (wpAny_pure (wpAny_bind (wpAny_bind (wpAny_onRaise ?_)))))
    show wpAny _ _ (nextOf (.ref i2) >>= _) _ _ _
    have m2' := ((m2.extBut b1.extBut D.i2z).extBut b2.extBut D.i12.symm).extBut b3.extBut D.TOi2.symm
    have n2' := ((n2.extBut b1.extBut D.l2z).extBut b2.extBut D.l2i1).extBut b3.extBut D.l2TO
    refine wpAny_bind (wpAny_nextOf_list_end hh m2' n2' ey fun g4 e b4 ⟨o, ho, hc⟩ => ?_)
    have z4 : ZipAny g4 z TI TO .ellipsis fl := b4 _ _ D.i2z.symm (b3.extBut _ _ D.TOz.symm (b2.extBut _ _ D.i1z.symm z1))
    have ez : e ≠ z := fun r => by subst r; rw [z4] at ho; cases ho; simp at hc
    exact wpAny_setField_rec z4 (by simp) fun g5 _ b5 => q g5 e (fun c o c1 c2 c3 c4 h => b5.extBut _ _ c1 (b4 _ _ c4 (b3.extBut _ _ c2 (b2.extBut _ _ c3 (b1.extBut _ _ c1 h))))) ⟨o, b5.extBut _ _ ez ho, hc⟩
end
end FX

set_option Elab.async false
set_option linter.all false
set_option maxRecDepth 100000
namespace FX
open PySem PySem.Spec PyProof.Rows L2
open Builtin.SmallTypes (nextOf ownedTupleIsFree ownedTupleHandOut)
/-- a zip between two turns -/
def ZipSt (h : Heap) (z TI TO i1 i2 l1 l2 : Addr) (k : Nat) : Prop :=
  (∃ f0 fl, ZipAny h z TI TO f0 fl ∧ (f0 = .none ∨ ∃ T : Addr, f0 = rawInt T)) ∧ IsPair h TI (.ref i1) (.ref i2) ∧ (∃ a b, IsPair h TO a b) ∧ h.IsListIter i1 l1 k ∧ h.IsListIter i2 l2 k
theorem ZipSt.keep {h h' : Heap} {z TI TO i1 i2 l1 l2 : Addr} {k : Nat} (st : ZipSt h z TI TO i1 i2 l1 l2 k) (up : ∀ c ∈ [z, TI, TO, i1, i2], ∀ o, h.get? c = some o → h'.get? c = some o) : ZipSt h' z TI TO i1 i2 l1 l2 k := by
  obtain ⟨⟨f0, fl, hz, h0⟩, hI, ⟨a, b, hO⟩, m1, m2⟩ := st
  exact ⟨⟨f0, fl, up z (by simp) _ hz, h0⟩, up TI (by simp) _ hI, ⟨a, b, up TO (by simp) _ hO⟩, m1.at fun o q => up i1 (by simp) o q, m2.at fun o q => up i2 (by simp) o q⟩
section
variable {prog : Program} {w : World} {A : Around} {E : Value → Shared → Prop} {s : Shared} {z TI TO i1 i2 l1 l2 : Addr} {k : Nat} {xs ys : Array Value} {x y : Value}
theorem zip_turn {Q : Value → Shared → Prop} (D : ZipApart z TI TO i1 i2 l1 l2) (st : ZipSt s.heap z TI TO i1 i2 l1 l2 k) (n1 : s.heap.IsList l1 xs) (n2 : s.heap.IsList l2 ys) (ex : xs[k]? = some x) (ey : ys[k]? = some y)
    (q : ∀ g, ZipSt g z TI TO i1 i2 l1 l2 (k + 1) → IsPair g s.heap.objs.size x y → g.objs.size = s.heap.objs.size + 1 →
      (∀ c o, c ≠ z → c ≠ TO → c ≠ i1 → c ≠ i2 → s.heap.get? c = some o → g.get? c = some o) → Q (.ref s.heap.objs.size) { s with heap := g }) :
    wpAny (model prog w) A (Builtin.«zip.__next__» ⟨[.ref z], []⟩) (fun r t => ∃ v, r = .done (.ret v) ∧ Q v t) E s := by
  obtain ⟨⟨f0, fl, hz, h0⟩, hI, ⟨a, b, hO⟩, m1, m2⟩ := st
  have free : ∀ (h0 : f0 = .none ∨ ∃ T : Addr, f0 = rawInt T ∧ s.heap.get? T = none), wpAny (model prog w) A (Builtin.«zip.__next__» ⟨[.ref z], []⟩) (fun r t => ∃ v, r = .done (.ret v) ∧ Q v t) E s := fun h0 =>
    zipF_item D hz h0 hI hO m1 m2 n1 n2 ex ey fun g z' O' m1' m2' T' sz up =>
      q g ⟨⟨_, _, z', .inr ⟨_, rfl⟩⟩, up _ _ D.TIz D.TITO D.TIi1 D.TIi2 hI, ⟨_, _, O'⟩, m1', m2'⟩ T' sz up
  rcases h0 with h0 | ⟨T, rfl⟩
  · exact free (.inl h0)
  · cases hT : s.heap.get? T with
    | none => exact free (.inr ⟨T, rfl, hT⟩)
    | some oT =>
      refine zip_next_item_held D hz hT hI m1 m2 n1 n2 ex ey fun g z' m1' m2' T' sz up => ?_
      exact q g ⟨⟨_, _, z', .inr ⟨_, rfl⟩⟩, up _ _ D.TIz D.TIi1 D.TIi2 hI, ⟨_, _, up _ _ D.TOz D.TOi1 D.TOi2 hO⟩, m1', m2'⟩ T' sz fun c o c1 _ c3 c4 h => up c o c1 c3 c4 h
theorem zip_stop {Q : Fin → Shared → Prop} (hh : A.handled = none) (D : ZipApart z TI TO i1 i2 l1 l2) (st : ZipSt s.heap z TI TO i1 i2 l1 l2 k) (n1 : s.heap.IsList l1 xs) (n2 : s.heap.IsList l2 ys) (hend : xs[k]? = none ∨ ys[k]? = none)
    (q : ∀ g e, (∀ c o, c ≠ z → c ≠ TO → c ≠ i1 → c ≠ i2 → s.heap.get? c = some o → g.get? c = some o) → (∃ o, g.get? e = some o ∧ o.cls = .type "StopIteration") → E (.ref e) { s with heap := g }) :
    wpAny (model prog w) A (Builtin.«zip.__next__» ⟨[.ref z], []⟩) Q E s := by
  obtain ⟨⟨f0, fl, hz, h0⟩, hI, ⟨a, b, hO⟩, m1, m2⟩ := st
  rcases h0 with h0 | ⟨T, rfl⟩
  · exact zipF_end hh D hz (.inl h0) hI hO m1 m2 n1 n2 hend q
  · cases hT : s.heap.get? T with
    | none => exact zipF_end hh D hz (.inr ⟨T, rfl, hT⟩) hI hO m1 m2 n1 n2 hend q
    | some oT => exact zip_next_end_held hh D hz hT hI m1 m2 n1 n2 hend fun g e up he => q g e (fun c o c1 _ c3 c4 h => up c o c1 c3 c4 h) he
theorem nextOf_zip {Q : Value → Shared → Prop} (D : ZipApart z TI TO i1 i2 l1 l2) (st : ZipSt s.heap z TI TO i1 i2 l1 l2 k) (n1 : s.heap.IsList l1 xs) (n2 : s.heap.IsList l2 ys) (ex : xs[k]? = some x) (ey : ys[k]? = some y)
    (q : ∀ g, ZipSt g z TI TO i1 i2 l1 l2 (k + 1) → IsPair g s.heap.objs.size x y → g.objs.size = s.heap.objs.size + 1 →
      (∀ c o, c ≠ z → c ≠ TO → c ≠ i1 → c ≠ i2 → s.heap.get? c = some o → g.get? c = some o) → Q (.ref s.heap.objs.size) { s with heap := g }) :
    wpAny (model prog w) A (nextOf (.ref z)) Q E s := by
  obtain ⟨⟨f0, fl, hz, h0⟩, hr⟩ := id st
  have ty : s.TypeIs (.ref z) "zip" := ⟨_, hz, rfl⟩
  unfold nextOf
  exact wpAny_bind (wpAny_callSpecial?_slot (name := Str.ofString "__next__") ty F.slot_zip_next (wpAny_call_entry F.slot_zip_next ty F.entry_zip_next
    (zip_turn D st n1 n2 ex ey fun g a1 a2 a3 a4 => wpAny_pure (q g a1 a2 a3 a4)) (F.args_zip_next_1 _)))
theorem nextOf_zip_end {Q : Value → Shared → Prop} (hh : A.handled = none) (D : ZipApart z TI TO i1 i2 l1 l2) (st : ZipSt s.heap z TI TO i1 i2 l1 l2 k) (n1 : s.heap.IsList l1 xs) (n2 : s.heap.IsList l2 ys) (hend : xs[k]? = none ∨ ys[k]? = none)
    (q : ∀ g e, (∀ c o, c ≠ z → c ≠ TO → c ≠ i1 → c ≠ i2 → s.heap.get? c = some o → g.get? c = some o) → (∃ o, g.get? e = some o ∧ o.cls = .type "StopIteration") → E (.ref e) { s with heap := g }) :
    wpAny (model prog w) A (nextOf (.ref z)) Q E s := by
  obtain ⟨⟨f0, fl, hz, h0⟩, hr⟩ := id st
  have ty : s.TypeIs (.ref z) "zip" := ⟨_, hz, rfl⟩
  unfold nextOf
  exact wpAny_bind (wpAny_callSpecial?_slot (name := Str.ofString "__next__") ty F.slot_zip_next (wpAny_call_entry F.slot_zip_next ty F.entry_zip_next
    (zip_stop hh D st n1 n2 hend q) (F.args_zip_next_1 _)))
/-- enumerate's next over anything -/
theorem enum_over {e it : Addr} {c : Int} {old : Value} {G : Value → Heap → Prop} {Q : Value → Shared → Prop} (he : IsEnum s.heap e it c old)
    (hN : ∀ {A' : Around} (Q' : Value → Shared → Prop), (∀ x g, G x g → Q' x { s with heap := g }) → wpAny (model prog w) A (nextOf (.ref it)) Q' E s)
    (hG : ∀ x g, G x g → IsEnum g e it c old)
    (hQ : ∀ x g g', G x g → IsEnumOut g' e it (c + 1) x g.objs.size → g'.get? g.objs.size = some { cls := .type "tuple", data := .seq #[.int c s.toks, x] } → g'.objs.size = g.objs.size + 1 →
      (∀ b o, b ≠ e → g.get? b = some o → g'.get? b = some o) → Q (.ref g.objs.size) { s with heap := g', toks := s.toks + 1 }) :
    wpAny (model prog w) A (Builtin.«enumerate.__next__» ⟨[.ref e], []⟩) (fun r t => ∃ v, r = .done (.ret v) ∧ Q v t) E s := by
  obtain ⟨hp, gn, d, tk, os⟩ := s
  show wpAny _ _ (field (.ref e) 2 >>= _) _ _ _
  refine wpAny_bind (wpAny_field he rfl (x := .ref it) rfl (wpAny_bind (hN (A' := A) _ fun x g hg => ?_)))
  have e1 : IsEnum g e it c old := hG x g hg
  show wpAny _ _ (field (.ref e) 3 >>= _) _ _ ⟨g, gn, d, tk, os⟩
  refine wpAny_bind (wpAny_field e1 rfl (x := rawInt c) rfl ?_)
  show wpAny _ _ (field (.ref e) 4 >>= _) _ _ ⟨g, gn, d, tk, os⟩
  refine wpAny_bind (wpAny_field e1 rfl (x := .none) rfl ?_)
  show wpAny _ _ (mkInt c >>= _) _ _ ⟨g, gn, d, tk, os⟩
  refine wpAny_bind (wpAny_mkInt ?_)
  show wpAny _ _ (setField (.ref e) 3 (rawInt (c + 1)) >>= _) _ _ ⟨g, gn, d, tk + 1, os⟩
  refine wpAny_bind (wpAny_setField_rec e1 (by simp) fun g2 e2 b2 => ?_)
  replace b2 : Heap.SameBut e g g2 := b2
  replace e2 : IsEnum g2 e it (c + 1) old := e2
  show wpAny _ _ (setField (.ref e) 4 .none >>= _) _ _ ⟨g2, gn, d, tk + 1, os⟩
  refine wpAny_bind (wpAny_setField_rec e2 (by simp) fun g3 e3 b3 => ?_)
  replace b3 : Heap.SameBut e g2 g3 := b3
  replace e3 : IsEnum g3 e it (c + 1) old := e3
  show wpAny _ _ (newTuple [.int c tk, x] >>= _) _ _ ⟨g3, gn, d, tk + 1, os⟩
  refine wpAny_bind (wpAny_newTuple ?_)
  have e4 : IsEnum (g3.push { cls := .type "tuple", data := .seq #[.int c tk, x] }) e it (c + 1) old := Heap.get?_push_of_some _ e3
  generalize hg4 : g3.push { cls := .type "tuple", data := .seq #[.int c tk, x] } = g4 at e4
  have sz : g3.objs.size = g.objs.size := by rw [b3.1, b2.1]
  have el : e < g.objs.size := Heap.lt_size e1
  have t4 : g4.get? g.objs.size = some { cls := .type "tuple", data := .seq #[.int c tk, x] } := by rw [← hg4, ← sz]; exact Heap.get?_push_size _ rfl
  have z4 : g4.objs.size = g.objs.size + 1 := by rw [← hg4, Heap.size_push, sz]
  have k4 : ∀ b o, b ≠ e → g.get? b = some o → g4.get? b = some o := fun b o hb q => by
    rw [← hg4]; exact Heap.get?_push_of_some _ (b3.extBut b o hb (b2.extBut b o hb q))
  show wpAny _ _ (ownedTupleIsFree (.ref e) >>= _) _ _ ⟨g4, gn, d, tk + 1, os⟩
  rw [sz]
  clear hg4 e3 b3 e2 b2 sz g3 g2
  unfold ownedTupleIsFree
  refine wpAny_bind (wpAny_bind (wpAny_field e4 rfl (x := .none) rfl (wpAny_pure ?_)))
  simp only [if_true]
  refine wpAny_bind (wpAny_rule (wpAny_bind (wpAny_field e4 rfl (x := old) rfl (wpAny_bind (wpAny_setField_rec e4 (by simp) fun g5 e5 b5 => ?_)))))
  replace b5 : Heap.SameBut e g4 g5 := b5
  replace e5 : IsEnum g5 e it (c + 1) x := e5
  show wpAny _ _ (ownedTupleHandOut (.ref e) (.ref g.objs.size) >>= _) _ _ ⟨g5, gn, d, tk + 1, os⟩
  unfold ownedTupleHandOut
  refine wpAny_bind (wpAny_bind (wpAny_setField_rec e5 (by simp) fun g6 e6 b6 => ?_))
  replace b6 : Heap.SameBut e g5 g6 := b6
  replace e6 : IsEnumOut g6 e it (c + 1) x g.objs.size := e6
  refine wpAny_setField_rec e6 (by simp) fun g7 e7 b7 => ?_
  replace b7 : Heap.SameBut e g6 g7 := b7
  replace e7 : IsEnumOut g7 e it (c + 1) x g.objs.size := e7
  refine wpAny_bind (wpAny_letGo (wpAny_pure ⟨_, rfl, hQ x g g7 hg e7 ?_ ?_ ?_⟩))
  · exact b7.extBut _ _ (Nat.ne_of_gt el) (b6.extBut _ _ (Nat.ne_of_gt el) (b5.extBut _ _ (Nat.ne_of_gt el) t4))
  · rw [b7.1, b6.1, b5.1, z4]
  · exact fun b o hb q => b7.extBut b o hb (b6.extBut b o hb (b5.extBut b o hb (k4 b o hb q)))
end
end FX

set_option Elab.async false
set_option linter.all false
set_option maxRecDepth 100000
namespace FX
open PySem PySem.Spec PyProof.Rows L2
open Sem (wp)
open Builtin.SmallTypes (nextOf ownedTupleIsFree ownedTupleHandOut)
theorem meets_enum_zip (z TI TO : Addr) : Meets (Builtin.«enumerate.__new__» ⟨[.type "enumerate", .ref z], []⟩) (fun _ R s => IsZip s.heap z TI TO .none ∧
      R (.ok (.ret (.ref s.heap.objs.size))) { s with heap := s.heap.push { cls := .type "enumerate", data := .fields #[.none, .bool false, .ref z, rawInt 0, .none, .none] } }) :=
  .of_wp fun prog w A R s h => by
    obtain ⟨hp, g, d, tk, os⟩ := s; obtain ⟨hz, h⟩ := h
    have hsub := sub_enumerate
    have q1 : ∀ {A' : Around} {E : Value → Shared → Prop} {Q : Value → Shared → Prop}, Q (.ref z) ⟨hp, g, d, tk, os⟩ → wpAny (model prog w) A' (pyIter (.ref z)) Q E ⟨hp, g, d, tk, os⟩ :=
      fun q => wpAny_pyIter_zip (s := ⟨hp, g, d, tk, os⟩) hz q
    wp_walk using q1
    refine wpAny_stack_any fun st => wpAny_pure ?_
    split
    · rename_i c _ _ _ _ _
      cases (c == Value.type "enumerate")
      · wp_walk using q1
        exact ⟨_, rfl, h⟩
      · wp_walk using q1
        exact ⟨_, rfl, h⟩
    · wp_walk using q1
      exact ⟨_, rfl, h⟩
section
variable {prog : Program} {w : World} {A : Around} {E : Value → Shared → Prop} {s : Shared}
theorem call_enum_zip {z TI TO : Addr} {Q : Value → Shared → Prop} (hz : IsZip s.heap z TI TO .none)
    (q : ∀ g, IsEnum g s.heap.objs.size z 0 .none → g.objs.size = s.heap.objs.size + 1 → (∀ b o, s.heap.get? b = some o → g.get? b = some o) → Q (.ref s.heap.objs.size) { s with heap := g }) :
    wpAny (model prog w) A (call (.type "enumerate") [.ref z]) Q E s := by
  refine callType_new F.called_enumerate (by decide) (F.typeCall_enumerate_1 _) (F.newCall_enumerate_1 _) (fun obj => F.args_object_init_2 obj _) F.entry_enumerate_new (meets_enum_zip z TI TO) ⟨hz, ?_⟩
  have he : IsEnum (s.heap.push { cls := .type "enumerate", data := .fields #[.none, .bool false, .ref z, rawInt 0, .none, .none] }) s.heap.objs.size z 0 .none := Heap.get?_push_size _ rfl
  exact ⟨⟨_, he, rfl⟩, q _ he (Heap.size_push ..) fun b o x => Heap.get?_push_of_some _ x⟩
end
/-- the lists at a and b as they stand at each turn, in new pairs, in new pairs with their number -/
def Itez (K : PySem.W.Frag) (a b : Addr) : It :=
  ⟨(Itz K a b).go, fun i H v H' => ∃ T T2 x y, v = .ref T2 ∧ H T = none ∧ H T2 = none ∧ T2 ≠ T ∧ H' = upd (upd H T (.tup [x, y])) T2 (.tup [.int (i : Nat), .ref T]) ∧ (∀ xs, SqL K H a xs → xs[i]? = some x) ∧ ∀ ys, SqL K H b ys → ys[i]? = some y, (Itz K a b).stop⟩
theorem turn_enumzip {P : Program} {w : World} {K : PySem.W.Frag} {elts : List Expr} {kk : Nat} {tpos : Pos} {a b e z TI TO i1 i2 : Addr} (D : ZipApart z TI TO i1 i2 a b) (ne : e ∉ [z, TI, TO, i1, i2]) :
    Turn P w K (.Tuple elts kk tpos) (Itez K a b) [e, z, TI, TO, i1, i2] e (fun i h => (∃ old, IsEnum h e z ((i : Nat) : Int) old) ∧ ZipSt h z TI TO i1 i2 a b i) where
  mem := by simp
  obj := fun i h st c hc => by
    obtain ⟨⟨old, he⟩, ⟨f0, fl, hz, _⟩, hI, ⟨x, y, hO⟩, ⟨o1, e1, _, d1⟩, ⟨o2, e2, _, d2⟩⟩ := st
    simp only [List.mem_cons, List.not_mem_nil, or_false] at hc
    rcases hc with rfl | rfl | rfl | rfl | rfl | rfl
    · exact ⟨_, he, fun v q => nomatch q⟩
    · exact ⟨_, hz, fun v q => nomatch q⟩
    · exact ⟨_, hI, fun v q => nomatch q⟩
    · exact ⟨_, hO, fun v q => nomatch q⟩
    · exact ⟨o1, e1, fun v q => by rw [d1] at q; cases q⟩
    · exact ⟨o2, e2, fun v q => by rw [d2] at q; cases q⟩
  keep := fun i h h' st up => ⟨st.1.imp fun old he => up e (by simp) _ he, st.2.keep fun c hc o q => up c (List.mem_cons_of_mem _ hc) o q⟩
  item := by
    intro X hP hw hK hc i pins s σ H E I hf st hg
    subst hP hw hK
    obtain ⟨⟨old, he⟩, zs⟩ := st
    obtain ⟨xs, ys, x, y, qx, qy, hx, hy⟩ := hg
    obtain ⟨us, rv, p1, _⟩ := I.list qx
    obtain ⟨vs, rv2, p2, _⟩ := I.list qy
    obtain ⟨u, hu, ru⟩ := rv.get hx
    obtain ⟨v, hv, rv⟩ := rv2.get hy
    have el : e < s.heap.objs.size := Heap.lt_size he
    have hlt : ∀ c ∈ [e, z, TI, TO, i1, i2], c < s.heap.objs.size := by
      obtain ⟨⟨f0, fl, hz, _⟩, hI, ⟨_, _, hO⟩, ⟨_, e1, _⟩, ⟨_, e2, _⟩⟩ := zs
      intro c hc
      simp only [List.mem_cons, List.not_mem_nil, or_false] at hc
      rcases hc with rfl | rfl | rfl | rfl | rfl | rfl
      · exact el
      · exact Heap.lt_size hz
      · exact Heap.lt_size hI
      · exact Heap.lt_size hO
      · exact Heap.lt_size e1
      · exact Heap.lt_size e2
    have ty : s.TypeIs (.ref e) "enumerate" := ⟨_, he, rfl⟩
    unfold pyNext
    refine wpAny_bind (wpAny_attempt (wpAny_callSpecial?_slot (name := Str.ofString "__next__") ty F.slot_enumerate_next (wpAny_call_entry F.slot_enumerate_next ty F.entry_enumerate_next
      (enum_over (G := fun r g => r = .ref s.heap.objs.size ∧ ZipSt g z TI TO i1 i2 a b (i + 1) ∧ IsPair g s.heap.objs.size u v ∧ g.objs.size = s.heap.objs.size + 1 ∧ ∀ c o, c ≠ z → c ≠ TO → c ≠ i1 → c ≠ i2 → s.heap.get? c = some o → g.get? c = some o) he
        (fun Q' k => nextOf_zip D zs p1.isList p2.isList (x := u) (y := v) (by simpa using hu) (by simpa using hv) fun g a1 a2 a3 a4 => k _ g ⟨rfl, a1, a2, a3, a4⟩)
        (fun r g ⟨_, _, _, _, up⟩ => up _ _ (fun q => ne (by simp [q])) (fun q => ne (by simp [q])) (fun q => ne (by simp [q])) (fun q => ne (by simp [q])) he)
        fun r g g' ⟨er, zs', T1, sz, up⟩ eo T2 sz2 up2 => wpAny_pure ?_) (F.args_enumerate_next_1 _))))
    subst er
    refine ⟨_, rfl, wpAny_letOwnedTupleGo_enum (s := { s with heap := g', toks := s.toks + 1 }) eo fun g2 e2 sb => ?_⟩
    have I1 : Inv X pins σ (upd H s.heap.objs.size (.tup [x, y])) { s with heap := g, toks := s.toks } :=
      I.turnedNew (ch := [z, TO, i1, i2]) (fun c o hb q => up c o (fun r => hb (by simp [r])) (fun r => hb (by simp [r])) (fun r => hb (by simp [r])) (fun r => hb (by simp [r])) q)
        (fun c hc => hf c (by simp only [List.mem_cons, List.not_mem_nil, or_false] at hc ⊢; rcases hc with h | h | h | h <;> simp [h])) (Nat.le_refl _)
        ⟨by show 2 ≤ sizeLine; decide, [u, v], .cons ru (.cons rv .nil), ⟨_, T1, rfl, _, rfl⟩⟩
    have fe : FpOk X pins (upd H s.heap.objs.size (.tup [x, y])) e := by
      obtain ⟨f0, f1⟩ := hf e (by simp)
      exact ⟨by rw [upd_ne (Nat.ne_of_lt el)]; exact f0, f1⟩
    have nT : H s.heap.objs.size = none := I.hok.fresh (Nat.le_refl _)
    have nT2 : H g.objs.size = none := I.hok.fresh (by rw [sz]; exact Nat.le_succ _)
    have ne2 : g.objs.size ≠ s.heap.objs.size := by rw [sz]; exact Nat.succ_ne_self _
    have T2' : g2.get? g.objs.size = some { cls := .type "tuple", data := .seq #[.int i s.toks, .ref s.heap.objs.size] } :=
      (sb.2 _ (Nat.ne_of_gt (Nat.lt_of_lt_of_le el (by rw [sz]; exact Nat.le_succ _)))).trans T2
    have I2 : Inv X pins σ (upd (upd H s.heap.objs.size (.tup [x, y])) g.objs.size (.tup [.int (i : Nat), .ref s.heap.objs.size])) { s with heap := g2, toks := s.toks + 1 } :=
      I1.turnedNew (t' := s.toks + 1) (ch := [e]) (fun c o hb q => (sb.2 c (fun r => hb (by simp [r]))).trans (up2 c o (fun r => hb (by simp [r])) q))
        (fun c hc => by rw [List.mem_singleton.mp hc]; exact fe) (Nat.le_refl _)
        ⟨by show 2 ≤ sizeLine; decide, [.int i s.toks, .ref s.heap.objs.size], .cons ⟨_, rfl⟩ (.cons rfl .nil), ⟨_, T2', rfl, _, rfl⟩⟩
    refine ⟨.ref g.objs.size, _, I2, rfl, ⟨_, _, x, y, rfl, nT, nT2, ne2, rfl, fun l hl => by rw [I.list_inj hl qx]; exact hx, fun l hl => by rw [I.list_inj hl qy]; exact hy⟩, ⟨⟨.ref s.heap.objs.size, ?_⟩, zs'.keep fun c hc o q => ?_⟩, fun c hc => ?_⟩
    · have e1 : ((i + 1 : Nat) : Int) = (i : Int) + 1 := by omega
      rw [e1]; exact e2
    · have cne : c ≠ e := fun r => ne (by rw [← r]; exact hc)
      exact (sb.2 c cne).trans (up2 c o cne q)
    · have := hlt c hc
      rw [upd_ne (Nat.ne_of_lt (Nat.lt_of_lt_of_le this (by rw [sz]; exact Nat.le_succ _))), upd_ne (Nat.ne_of_lt this)]
      exact (hf c hc).1
  done := by
    intro X hP hw hK hc i pins s σ H E I hf st hg
    subst hP hw hK
    obtain ⟨⟨old, he⟩, zs⟩ := st
    obtain ⟨xs, ys, qx, qy, hend⟩ := hg
    obtain ⟨us, rv, p1, _⟩ := I.list qx
    obtain ⟨vs, rv2, p2, _⟩ := I.list qy
    have l1 := rv.length
    have l2 := rv2.length
    have hn : us.toArray[i]? = none ∨ vs.toArray[i]? = none := hend.imp (fun q => by simp; omega) (fun q => by simp; omega)
    have ty : s.TypeIs (.ref e) "enumerate" := ⟨_, he, rfl⟩
    unfold pyNext
    refine wpAny_bind (wpAny_attempt (wpAny_callSpecial?_slot (name := Str.ofString "__next__") ty F.slot_enumerate_next (wpAny_call_entry F.slot_enumerate_next ty F.entry_enumerate_next ?_ (F.args_enumerate_next_1 _))))
    show wpAny _ _ (field (.ref e) 2 >>= _) _ _ _
    refine wpAny_bind (wpAny_field he rfl (x := .ref z) rfl (wpAny_bind (nextOf_zip_end (I.ok.hd hc) D zs p1.isList p2.isList hn fun g er up ⟨o, ho, hcl⟩ => ?_)))
    refine wpAny_bind (wpAny_isInstance (T := "StopIteration") (b := true) ⟨o, ho, hcl⟩ isSubtype_stop (wpAny_pure ⟨rfl, ?_⟩))
    exact I.turnedL (t' := s.toks) (ch := [z, TO, i1, i2]) (fun c o hb q => up c o (fun r => hb (by simp [r])) (fun r => hb (by simp [r])) (fun r => hb (by simp [r])) (fun r => hb (by simp [r])) q)
      fun c hc => hf c (by simp only [List.mem_cons, List.not_mem_nil, or_false] at hc ⊢; rcases hc with h | h | h | h <;> simp [h])
  self := fun A i s Q E st h => let ⟨⟨_, he⟩, _⟩ := st; wpAny_pyIter_enum he h
def iEnumZip (K : PySem.W.Frag) (ta : TA) : TI := fun σ H R => ta σ H fun vs H1 => ∃ a b xs ys, vs = [.ref a, .ref b] ∧ SqL K H1 a xs ∧ SqL K H1 b ys ∧ R (Itez K a b) H1
theorem pi_enumzip {X : Cx} {a b : Expr} {ta : TA} {p p2 pos pos2 tpos : Pos} {elts : List Expr} {kk : Nat} (hg : Gl X "enumerate") (hm : X.mg "enumerate" = none) (hg2 : Gl X "zip") (hm2 : X.mg "zip" = none) (ha : PA X [a, b] ta)
    (hs : starEach [a, b] X.env = (false, eval a X.env) :: starEach [b] X.env := by rfl) (hpl : (backTo pos2 (starEach [b] X.env)).any (·.1) = false := by rfl)
    (na : starEach [.Call (.Name "zip" p2) [a, b] [] pos2] X.env = (false, eval (.Call (.Name "zip" p2) [a, b] [] pos2) X.env) :: starEach [] X.env := by rfl) :
    PI X (.Tuple elts kk tpos) (.Call (.Name "enumerate" p) [.Call (.Name "zip" p2) [a, b] [] pos2] [] pos) (iEnumZip X.K ta) := by
  refine ⟨fun pins s σ H R I h => ?_⟩
  refine Call_ (ld_blt I hg hm boot_enumerate (PyProof.Rows.callWith_type1 (PyProof.Rows.args_cons ?_ na) na rfl))
  refine Call_ (ld_blt I hg2 hm2 PyProof.Rows.boot_zip (PyProof.Rows.callWith_type1 (thn (ha.run pos2 pins s σ H _ I h) fun us s1 ⟨vs, H1, I1, r1, q1⟩ => ?_) hs hpl))
  obtain ⟨la, lb, xs, ys, ex, qx, qy, q⟩ := q1
  subst ex
  cases r1 with
  | cons r rr =>
    cases rr with
    | cons r' rr =>
      cases rr
      cases r
      cases r'
      obtain ⟨its, rv, p1, _⟩ := I1.list qx
      obtain ⟨its2, rv2, p2, _⟩ := I1.list qy
      refine call_zip_2 p1.isList p2.isList fun g hz hI hO m1 m2 sz up => PyProof.Rows.args_nil ?_
      refine call_enum_zip (s := { s1 with heap := g }) hz fun g2 he sz2 up2 => wpAny_pyIter_enum he ?_
      have sz2' : g2.objs.size = s1.heap.objs.size + 6 := by rw [sz2]; show g.objs.size + 1 = _; rw [sz]
      have e0 : (Shared.heap { s1 with heap := g }).objs.size = s1.heap.objs.size + 5 := sz
      rw [e0] at he ⊢
      have I2 : Inv X pins σ H1 { s1 with heap := g2 } := I1.kept (t' := s1.toks) fun c o h => up2 c o (up c o h)
      have zs : ZipSt g2 (s1.heap.objs.size + 4) (s1.heap.objs.size + 2) (s1.heap.objs.size + 3) s1.heap.objs.size (s1.heap.objs.size + 1) la lb 0 :=
        ⟨⟨_, _, up2 _ _ hz, .inl rfl⟩, up2 _ _ hI, ⟨_, _, up2 _ _ hO⟩, m1.at fun o h => up2 _ o h, m2.at fun o h => up2 _ o h⟩
      refine ⟨s1.heap.objs.size + 5, [s1.heap.objs.size + 5, s1.heap.objs.size + 4, s1.heap.objs.size + 2, s1.heap.objs.size + 3, s1.heap.objs.size, s1.heap.objs.size + 1], _, _, H1, rfl, I2,
        turn_enumzip (PySem.W.ktu_apart s1.heap.objs.size la lb p1.lt p2.lt) ?_, ⟨⟨.none, he⟩, zs⟩, fun c hc => ?_, q⟩
      · generalize s1.heap.objs.size = N
        show (N + 5 : Nat) ∉ ([N + 4, N + 2, N + 3, N, N + 1] : List Nat)
        simp
      · have hle : s1.heap.objs.size ≤ c := by
          simp only [List.mem_cons, List.not_mem_nil, or_false] at hc
          rcases hc with r | r | r | r | r | r <;> rw [r] <;> first | exact Nat.le_add_right _ _ | exact Nat.le_refl _
        exact I1.fpOk hle (I1.hok.fresh hle)
end FX

set_option Elab.async false
set_option linter.all false
set_option maxRecDepth 100000
namespace FX
open PySem PySem.Spec PyProof.Rows L2
section
variable {X : Cx} {H0 : Hp} {ad0 : List Addr} {W : WX} {ea : EvA}
/-- enumerate(zip(a, b)) -/
def itEnumZip (ea : EvA) : EvI := fun e => (ea e).bind fun ds s1 =>
  match ds with
  | [x, y] => match vw s1 x, vw s1 y with
    | .lst xs, .lst ys => .ok ((xs.zip ys).zipIdx.map fun p => D.tup [.int (p.2 : Nat), .tup [p.1.1, p.1.2]], fun s => vw s x = .lst xs ∧ vw s y = .lst ys) s1
    | _, _ => .bad
  | _ => .bad
theorem sim_ienumzip {e1 e2 : Expr} {p p2 pos pos2 tpos : Pos} {elts : List Expr} {kk : Nat} (hg : Gl X "enumerate") (hm : X.mg "enumerate" = none) (hg2 : Gl X "zip") (hm2 : X.mg "zip" = none) (ha : PA X [e1, e2] (tAr X.K H0 ad0 W ea))
    (hs : starEach [e1, e2] X.env = (false, eval e1 X.env) :: starEach [e2] X.env := by rfl) (hpl : (backTo pos2 (starEach [e2] X.env)).any (·.1) = false := by rfl)
    (na : starEach [.Call (.Name "zip" p2) [e1, e2] [] pos2] X.env = (false, eval (.Call (.Name "zip" p2) [e1, e2] [] pos2) X.env) :: starEach [] X.env := by rfl) :
    PI X (.Tuple elts kk tpos) (.Call (.Name "enumerate" p) [.Call (.Name "zip" p2) [e1, e2] [] pos2] [] pos) (tI X.K H0 ad0 W (itEnumZip ea)) := by
  refine pi_mono (pi_enumzip hg hm hg2 hm2 ha hs hpl na) fun σ H Rr h => walk_args (iT := iEnumZip X.K) (Pm := fun H1 vs R => ∃ a b xs ys, vs = [.ref a, .ref b] ∧ SqL X.K H1 a xs ∧ SqL X.K H1 b ys ∧ R (Itez X.K a b) H1) (fun _ _ _ _ z => z) (fun ad Z H ds vs s Rr x s' ok rvs q => ?_) (fun ds s C fs s' q => ?_) h
  · split at q
    · rename_i dx dy
      obtain ⟨v, v', rfl, hv, hv'⟩ := repL2 rvs
      split at q
      · rename_i xs ys hx hy
        cases q
        refine ⟨rfl, fun k => ?_⟩
        obtain ⟨a, vx, rfl, ea, ra⟩ := lst_of ok hv hx
        obtain ⟨b, vy, rfl, eb, rb⟩ := lst_of ok hv' hy
        refine ⟨a, b, vx, vy, rfl, .inl (.inl ea), .inl (.inl eb), k _ fun Z' hz hz' i ad2 s2 H2 st ok2 g => ?_⟩
        obtain ⟨a', vx', e, ea', ra'⟩ := lst_of ok2 (Rep.step st _ _ (lift_z hz' hv)) g.1
        cases e
        obtain ⟨b', vy', e, eb', rb'⟩ := lst_of ok2 (Rep.step st _ _ (lift_z hz' hv')) g.2
        cases e
        have la := RepL.len ra'
        have lb := RepL.len rb'
        refine ⟨fun d hd => ?_, fun hl => ⟨vx', vy', .inl (.inl ea'), .inl (.inl eb'), by simp at hl; omega⟩⟩
        obtain ⟨⟨⟨dx', dy'⟩, j⟩, hp, rfl⟩ := List.getElem?_map .. ▸ hd |> Option.map_eq_some_iff.mp
        rw [List.getElem?_zipIdx] at hp
        obtain ⟨⟨d1, d2⟩, hq, h3⟩ := Option.map_eq_some_iff.mp hp
        cases h3
        obtain ⟨h1, h2⟩ := List.getElem?_zip_eq_some.mp hq
        obtain ⟨wx, hwx, rwx⟩ := RepL.get ra' h1
        obtain ⟨wy, hwy, rwy⟩ := RepL.get rb' h2
        refine ⟨⟨vx', vy', wx, wy, .inl (.inl ea'), .inl (.inl eb'), hwx, hwy⟩, fun x H3 hyl => ?_⟩
        obtain ⟨T, T2, x, y, rfl, hT, hT2, hne, rfl, h3, h4⟩ := hyl
        have ex := h3 _ (.inl (.inl ea'))
        have ey := h4 _ (.inl (.inl eb'))
        rw [hwx] at ex; rw [hwy] at ey
        cases ex; cases ey
        have sm : Same H2 (upd H2 T (.tup [wx, wy])) := same_upd hT
        have hT2' : upd H2 T (.tup [wx, wy]) T2 = none := by rw [upd_ne hne]; exact hT2
        have ok3 := ok2.same sm
        refine ⟨fun b o q => same_upd hT2' b o (sm b o q), rep_new_tup ok3 hT2' ?_⟩
        unfold RepL
        refine ⟨_, [.ref T], rfl, ?_, ?_⟩
        · rw [Nat.zero_add]; exact rep_int.mpr rfl
        · unfold RepL
          exact ⟨_, [], rfl, rep_pair ok2 hT rwx rwy, by unfold RepL; rfl⟩
      · cases q
    · cases q
  · split at q
    · split at q <;> cases q
    · cases q
end
end FX

set_option Elab.async false
set_option linter.all false
set_option maxRecDepth 100000
namespace FX
open PySem PySem.Spec PyProof.Rows L2
/-- set(list of ints), with its order -/
abbrev nS (w : World) : Obj := { cls := .type "set", dict := none, data := .set #[] 0 (.fresh 0 0 (!w.params.followText "set-order")) }
section
variable {P : Program} {w : World} {A : Around} {E : Value → Shared → Prop} {s : Shared}
set_option maxRecDepth 100000 in
set_option maxHeartbeats 3200000 in
theorem call_set_lst {l : Addr} {us : Array Value} (ns : List Int) {Q : Value → Shared → Prop} (hh : A.handled = none) (hl : s.heap.IsList l us) (hI : IntsAre us.toList ns) (hb : ns.length + 1 < scanBound)
    (q : ∀ (g : Heap) (tk c : Nat), SetR w g s.heap.objs.size (fun j => decide (j ∈ ns)) c → c ≤ ns.length → (∀ b o, s.heap.get? b = some o → g.get? b = some o) → Q (.ref s.heap.objs.size) { s with heap := g, toks := tk }) :
    wpAny (model P w) A (call (.type "set") [.ref l]) Q E s := by
  have un : us.size = ns.length := by
    have z := IntsAre.length hI
    rwa [Array.length_toList] at z
  obtain ⟨c, tl, m0⟩ := F.called_set.mro
  have m1 := F.called_set.made
  have m2 := F.called_set.sub
  refine wpAny_call (codeAny_of_tree ?_)
  show wpAny _ _ (callAny (.type "set") _) _ _ _
  refine wpAny_pure ⟨Code.quiet_builtin _ (by decide +kernel), codeAny_builtin F.entry_type_call ?_⟩
  rw [Around.under_plain (weight_type_call_type "set" [.ref l] []) rfl]
  have m3 := F.called_set.notType
  have m4 := F.called_set.canCreate
  have m5 := F.typeCall_set_1 (.ref l)
  repeat (any_goals (first | assumption | wp_step))
  refine codeAny_mono (code_set_led1 (.ref l) (E := E) (Q₁ := fun u t => u = .ref s.heap.objs.size ∧ t = { s with heap := s.heap.push (nS w) }) ⟨rfl, rfl⟩) fun r t hr => ?_
  cases r with
  | error e => exact hr
  | ok fl =>
    cases fl with
    | ret u =>
      obtain ⟨rfl, rfl⟩ := hr
      have a1 : (s.heap.push (nS w)).get? s.heap.objs.size = some (nS w) := Heap.get?_push_size _ rfl
      have a2 : Shared.TypeIs { s with heap := s.heap.push (nS w) } (.ref s.heap.objs.size) "set" := ⟨_, a1, rfl⟩
      have a3 := F.called_set.init.lookup
      have a4 := F.called_set.init.bind (.ref s.heap.objs.size)
      repeat (any_goals (first | assumption | wp_step))
      refine codeAny_mono (codeAny_call_builtin (R := wants (fun r t => r = .none ∧ ∃ g tk c, t = { s with heap := g, toks := tk } ∧ SetR w g s.heap.objs.size (fun j => decide (j ∈ ns)) c ∧ c ≤ ns.length ∧
          ∀ b o, s.heap.get? b = some o → g.get? b = some o) E) F.called_set.init.plain F.entry_set_init (check_set_init_1 a2 ?_)) fun r2 t2 hr2 => ?_
      · obtain ⟨⟨ocls, od, odt, osl⟩, ho, hc, nl, hd⟩ := hl
        simp only at hc hd
        subst hc; subst hd
        have ho1 : (s.heap.push (nS w)).get? l = some { cls := .type "list", dict := od, data := .seq us nl, slots := osl } := Heap.get?_push_of_some _ ho
        have b1 := F.sub_list_set
        have b2 := F.sub_list_frozenset
        have b3 : (Value.type "list" == Value.type "dict") = false := by decide
        have b4 : (s.heap.push (nS w)).IsList l us := ⟨_, ho1, rfl, nl, rfl⟩
        unfold Builtin.«set.__init__» noKeywords Builtin.Frozenset.updateFrom
        generalize hPI : pyIter = PI
        wp_walk
        subst hPI
        refine wpAny_pyIter_list b4 (wpAny_bind (wpAny_runValue ?_))
        have ll : l < s.heap.objs.size := Heap.lt_size ho
        have h3 : A.in1.in1.in1.handled = none := by simp [hh]
        have sz1 : (s.heap.push (nS w)).objs.size = s.heap.objs.size + 1 := Heap.size_push ..
        have nI : l ≠ (s.heap.push (nS w)).objs.size := by rw [sz1]; exact Nat.ne_of_lt (Nat.lt_succ_of_lt ll)
        have nS' : s.heap.objs.size ∉ [(s.heap.push (nS w)).objs.size, l] := by
          rw [sz1]; simp only [List.mem_cons, List.not_mem_nil, or_false, not_or]
          exact ⟨Nat.ne_of_lt (Nat.lt_succ_self _), Nat.ne_of_gt ll⟩
        have vals : ∀ (i : Nat) (v : Value), us[i]? = some v → ∃ k t, ns[i]? = some k ∧ v = .int k t := fun i v hv => by
          have hi : i < ns.length := un ▸ (Array.getElem?_eq_some_iff.mp hv).1
          obtain ⟨t, e⟩ := PyProof.Rows.IntsAre.int_at hI i v (by rwa [Array.getElem?_toList])
          refine ⟨ns[i], t, List.getElem?_eq_getElem hi, ?_⟩
          rw [e, List.getD_eq_getElem?_getD, List.getElem?_eq_getElem hi] <;> rfl
        refine set_update_ints ((Walks.list h3 _ l nI us).toS) s.heap.objs.size nS' ns un hb vals (us.size - 0) 0 _ (by omega) (Nat.zero_le _) ⟨⟨_, Heap.get?_push_size _ rfl, rfl, rfl⟩, b4.push _⟩ ⟨0, Nat.le_refl 0, setR_new_at (Heap.get?_push_of_some _ a1)⟩ ?_
        intro t' c' mv hc' R'
        obtain ⟨g, g2, d', tk', os'⟩ := t'
        obtain rfl : g2 = s.gens := mv.gens
        obtain rfl : d' = s.drawn := mv.drawn
        obtain rfl : os' = s.os := mv.os
        show wpAny _ _ _ _ _ _
        refine wpAny_pure ?_
        show wpAny _ _ (ret Value.none) _ _ _
        rw [un] at hc'
        refine wpAny_pure ⟨rfl, g, tk', c', rfl, R', hc', fun b o e => ?_⟩
        have l0 : b < s.heap.objs.size := Heap.lt_size e
        refine mv.heap b o ?_ (Heap.get?_push_of_some _ (Heap.get?_push_of_some _ e))
        rw [sz1]
        simp only [List.mem_cons, List.not_mem_nil, or_false, not_or]
        exact ⟨Nat.ne_of_lt l0, Nat.ne_of_lt (Nat.lt_succ_of_lt l0)⟩
      · cases r2 with
        | error e => exact hr2
        | ok fl2 =>
          cases fl2 with
          | ret r =>
            obtain ⟨rfl, g, tk, c, rfl, R', hc, k⟩ := hr2
            repeat (any_goals (first | assumption | wp_step))
            exact q _ _ _ R' hc k
          | _ => exact hr2.elim
    | _ => exact hr.elim
end
end FX

set_option Elab.async false
set_option linter.all false
set_option maxRecDepth 100000
namespace FX
open PySem PySem.Spec PyProof.Rows L2
/-! ### sorted(set(list of ints)) -/
def insU (x : Int) : List Int → List Int
  | [] => [x]
  | y :: r => if x < y then x :: y :: r else if x = y then y :: r else y :: insU x r
def sset : List Int → List Int
  | [] => []
  | x :: r => insU x (sset r)
theorem mem_insU {x z : Int} : ∀ {l : List Int}, z ∈ insU x l ↔ z = x ∨ z ∈ l
  | [] => by simp [insU]
  | y :: r => by
    unfold insU
    by_cases h : x < y
    · rw [if_pos h]; simp
    · rw [if_neg h]
      by_cases h2 : x = y
      · rw [if_pos h2, h2]; simp
      · rw [if_neg h2, List.mem_cons, mem_insU, List.mem_cons]
        constructor
        · rintro (q | q | q) <;> simp [q]
        · rintro (q | q | q) <;> simp [q]
theorem mem_sset {z : Int} : ∀ {l : List Int}, z ∈ sset l ↔ z ∈ l
  | [] => Iff.rfl
  | x :: r => by unfold sset; rw [mem_insU, mem_sset, List.mem_cons]
theorem insU_lt {x : Int} : ∀ {l : List Int}, l.Pairwise (· < ·) → (insU x l).Pairwise (· < ·)
  | [], _ => by simp [insU]
  | y :: r, h => by
    obtain ⟨h1, h2⟩ := List.pairwise_cons.mp h
    unfold insU
    by_cases c : x < y
    · rw [if_pos c]
      refine List.pairwise_cons.mpr ⟨fun z hz => ?_, h⟩
      rcases List.mem_cons.mp hz with rfl | hz
      · exact c
      · have := h1 z hz; omega
    · rw [if_neg c]
      by_cases c2 : x = y
      · rw [if_pos c2]; exact h
      · rw [if_neg c2]
        refine List.pairwise_cons.mpr ⟨fun z hz => ?_, insU_lt h2⟩
        rcases mem_insU.mp hz with rfl | hz
        · omega
        · exact h1 z hz
theorem sset_lt : ∀ {l : List Int}, (sset l).Pairwise (· < ·)
  | [] => .nil
  | _ :: _ => insU_lt sset_lt
/-- rising lists with the same members are the same -/
theorem rising_eq : ∀ {a b : List Int}, a.Pairwise (· < ·) → b.Pairwise (· < ·) → (∀ z, z ∈ a ↔ z ∈ b) → a = b
  | [], [], _, _, _ => rfl
  | [], y :: s, _, _, h => by have := (h y).mpr (by simp); simp at this
  | x :: r, [], _, _, h => by have := (h x).mp (by simp); simp at this
  | x :: r, y :: s, ha, hb, h => by
    obtain ⟨a1, a2⟩ := List.pairwise_cons.mp ha
    obtain ⟨b1, b2⟩ := List.pairwise_cons.mp hb
    have e : x = y := by
      have h1 := (h x).mp (by simp)
      have h2 := (h y).mpr (by simp)
      rcases List.mem_cons.mp h1 with q | q
      · exact q
      · rcases List.mem_cons.mp h2 with q2 | q2
        · exact q2.symm
        · have := b1 x q; have := a1 y q2; omega
    subst e
    congr 1
    refine rising_eq a2 b2 fun z => ?_
    have hz := h z
    rw [List.mem_cons, List.mem_cons] at hz
    constructor
    · intro q
      rcases hz.mp (.inr q) with q2 | q2
      · have := a1 z q; omega
      · exact q2
    · intro q
      rcases hz.mpr (.inr q) with q2 | q2
      · have := b1 z q; omega
      · exact q2
theorem rising_len {a b : List Int} (ha : a.Pairwise (· < ·)) (hb : ∀ z ∈ a, z ∈ b) : a.length ≤ b.length := by
  induction a generalizing b with
  | nil => exact Nat.zero_le _
  | cons x r ih =>
    obtain ⟨a1, a2⟩ := List.pairwise_cons.mp ha
    have hx := hb x (by simp)
    have := ih (b := b.erase x) a2 fun z hz => (List.mem_erase_of_ne (by have := a1 z hz; omega)).mpr (hb z (List.mem_cons_of_mem _ hz))
    rw [List.length_erase_of_mem hx] at this
    have : 0 < b.length := List.length_pos_of_mem hx
    simp only [List.length_cons]; omega
theorem sset_unique {a l : List Int} (ha : a.Pairwise (· < ·)) (h : ∀ z, z ∈ a ↔ z ∈ l) : a = sset l := rising_eq ha sset_lt fun z => (h z).trans mem_sset.symm
section
variable {X : Cx}
def tSrtSet (K : PySem.W.Frag) (ta : TE) : TE := fun σ H Q => ta σ H fun x H1 => ∃ (l : Addr) (ns : List Int), x = .ref l ∧ SqL K H1 l (ns.map V.int) ∧ ns.length ≤ 4000 ∧ (sset ns).length < 64 ∧
  ∀ p, H1 p = none → Q (.ref p) (upd H1 p (.lst ((sset ns).map V.int)))
theorem pe_srtSet {a : Expr} {ta : TE} {p p2 q pos : Pos} (hc : X.calm = true) (hg : Gl X "sorted") (hm : X.mg "sorted" = none) (hg2 : Gl X "set") (hm2 : X.mg "set" = none) (ha : PE X a ta)
    (na : starEach [a] X.env = (false, eval a X.env) :: starEach [] X.env := by rfl) (nb : starEach [Expr.Call (.Name "set" p2) [a] [] q] X.env = (false, eval (Expr.Call (.Name "set" p2) [a] [] q) X.env) :: starEach [] X.env := by rfl) :
    PE X (.Call (.Name "sorted" p) [.Call (.Name "set" p2) [a] [] q] [] pos) (tSrtSet X.K ta) := by
  refine ⟨fun pins s σ H Q I h => ?_⟩
  refine Call_ (ld_blt I hg hm PyProof.Rows.boot_sorted (PyProof.Rows.callWith_builtin1 (PyProof.Rows.args_cons ?_ nb) nb rfl))
  refine Call_ (ld_blt I hg2 hm2 PyProof.Rows.boot_set (PyProof.Rows.callWith_type1 (PyProof.Rows.args_cons (thn (ha.run pins s σ H _ I h) fun v s1 ⟨x, H1, I1, r1, q1⟩ => PyProof.Rows.args_nil ?_) na) na rfl))
  obtain ⟨l, ns, rfl, hq, hl, h64, q1⟩ := q1
  cases r1
  obtain ⟨us, rv, pl, hz⟩ := I1.list hq
  refine call_set_lst ns (I1.ok.hd hc) pl.isList (by simpa using ints_of_vals rv) (by unfold scanBound; omega) fun g tk c R hcn k => ?_
  refine PyProof.Rows.args_nil ?_
  have I2 : Inv X pins σ H1 { s1 with heap := g, toks := tk } := I1.kept (t' := tk) k
  obtain ⟨o, es, ep, t, e1, e2, e3, e4, nd, e5, e6, e7, hn, e8⟩ := id R
  have mm : ∀ z, z ∈ es.toList.map keyOf ↔ z ∈ sset ns := fun z => by rw [← e5 z, mem_sset]; exact decide_eq_true_iff
  have hcl : c = (sset ns).length := by
    have l1 : (sset ns).length ≤ (es.toList.map keyOf).length := rising_len sset_lt fun z hz => (mm z).mpr hz
    have l2 : (es.toList.map keyOf).length ≤ (sset ns).length := List.Nodup.length_le_of_subset nd fun z hz => (mm z).mp hz
    have l3 : (es.toList.map keyOf).length = es.size := by simp
    omega
  refine sorted_set (s := { s1 with heap := g, toks := tk }) R (I2.ok.hd hc) (by omega) fun s' p out c' ns' k' g' o' hp hg' hi hs hmm hll => ?_
  have en : ns' = sset ns := sset_unique hs fun z => by rw [hmm z]; exact decide_eq_true_iff
  subst en
  have hlen : ((sset ns).map V.int).length ≤ sizeLine := by rw [List.length_map]; exact Nat.le_trans (Nat.le_of_lt h64) (by decide)
  have hnp : H1 p = none := I2.hok.fresh hp
  have J : Inv X pins σ (upd H1 p (.lst ((sset ns).map V.int))) s' :=
    I2.call' (ch := []) o' (Un.laid k' hp hnp) (I2.hok.laid k' hp ⟨hlen, out.toList, c', vals_of_ints hi, hg'⟩) (by rw [g']; exact I2.bare) (fun _ z => nomatch z)
  exact ⟨.ref p, _, J, rfl, q1 p hnp⟩
end
end FX
namespace FX
open PySem PySem.Spec PyProof.Rows L2
section
variable {X : Cx} {H0 : Hp} {ad0 : List Addr} {W : WX} {pos : Pos}
/-- sorted(set(l)) -/
def eSrtSet (a : EvE) : EvE := fun e => (a e).bind fun x s1 => match vw s1 x.1 with
  | .lst ds => (match ofInts ds with
    | some ns => if ns.length ≤ 4000 ∧ (sset ns).length < 64 then .ok (.lst ((sset ns).map .int), 2) s1 else .bad
    | none => .bad)
  | _ => .bad
theorem sim_srtSet {a : Expr} {ea : EvE} {p p2 q : Pos} (hc : X.calm = true) (hg : Gl X "sorted") (hm : X.mg "sorted" = none) (hg2 : Gl X "set") (hm2 : X.mg "set" = none) (ha : PE X a (tE X.K H0 ad0 W ea))
    (na : starEach [a] X.env = (false, eval a X.env) :: starEach [] X.env := by rfl) (nb : starEach [Expr.Call (.Name "set" p2) [a] [] q] X.env = (false, eval (Expr.Call (.Name "set" p2) [a] [] q) X.env) :: starEach [] X.env := by rfl) :
    PE X (.Call (.Name "sorted" p) [.Call (.Name "set" p2) [a] [] q] [] pos) (tE X.K H0 ad0 W (eSrtSet ea)) := by
  refine pe_mono (pe_srtSet hc hg hm hg2 hm2 ha na nb) fun σ H Q ⟨Z, ad, e, rel, h⟩ => ⟨Z, ad, e, rel, (post_bind h).mono fun x ad1 s1 H1 ⟨st1, rel1, h1⟩ v rv _ _ => ?_⟩
  split at h1
  · rename_i ds hv
    split at h1
    · rename_i ns hi
      obtain ⟨l, vs, rfl, e1, e2⟩ := lst_of rel1.sto rv hv
      rw [ofInts_eq hi] at e2
      rw [RepL.ints e2] at e1
      by_cases hz : ns.length ≤ 4000 ∧ (sset ns).length < 64
      · rw [if_pos hz] at h1
        refine ⟨l, ns, rfl, .inl (.inl e1), hz.1, hz.2, fun q nq => ?_⟩
        exact (h1 _ ad1 (.same (same_upd nq)) (rel1.same (same_upd nq))).2.2 _ (rep_new_lst rel1.sto nq (RepL.map_same _)) (fun _ => rel1.lv0 (lv_ref nq)) fun _ => (lv_ref nq).back st1 rel1.sto.dom
      · rw [if_neg hz] at h1; exact h1.elim
    · exact h1.elim
  · exact h1.elim
end
end FX

set_option Elab.async false
set_option linter.all false
set_option maxRecDepth 100000
namespace FX
open PySem PySem.Spec PyProof.Rows L2
open Classical
/-! ### repr of a list whose items may be cells -/
def flat (s : Sto) (d : D) : D := match vw s d with
  | .lst ds => .lst (ds.map (vw s))
  | x => x
theorem dp_flats {K ad Z s H} (ok : StoOk K ad Z s H) : ∀ (ds : List D) (vs : List V) (ps : List PyData), RepL K ad Z H ds vs → toPs (ds.map (vw s)) = some ps → DpAll K H vs ps
  | [], vs, ps, h, e => by
    unfold RepL at h; subst h
    have e : toPs [] = some ps := e
    unfold toPs at e; cases e; exact .nil
  | d :: ds, vs, ps, h, e => by
    unfold RepL at h
    obtain ⟨v, r, rfl, h1, h2⟩ := h
    have e : toPs (vw s d :: ds.map (vw s)) = some ps := e
    unfold toPs at e
    split at e
    · rename_i x xs ex exs
      cases e
      exact .cons (dp_vw ok h1 ex) (dp_flats ok ds r xs h2 exs)
    · cases e
theorem dp_flat {K ad Z s H d v p} (ok : StoOk K ad Z s H) (h : Rep K ad Z H d v) (e : toP (flat s d) = some p) : Dp K H v p := by
  unfold flat at e
  cases hd : vw s d with
  | lst ds =>
    rw [hd] at e
    obtain ⟨a, vs, rfl, e1, e2⟩ := lst_of ok h hd
    simp only at e
    unfold toP at e
    obtain ⟨ps, h1, rfl⟩ := Option.map_eq_some_iff.mp e
    exact .lst (.inl (.inl e1)) (dp_flats ok ds vs ps e2 h1)
  | _ => rw [hd] at e; exact dp_vw ok h (by unfold datP; rw [hd]; exact e)
noncomputable def nReprF : OpN := fun s ds => match ds with
  | [x] => (match toP (flat s x) with
    | some p => if p.showable = true ∧ p.hasDict = false ∧ p.depth ≤ 40 ∧ p.shown.length ≤ sizeLine then some (.str p.shown, 0) else none
    | none => none)
  | _ => none
section
variable {X : Cx}
theorem c_reprF (hgd : X.A.guards = some []) (hu : X.A.units + 64 < cLine) : CallSim X (.builtin "repr") nReprF := ⟨_, cr_repr hgd hu, fun ad Z s H ds vs d l Q ok rv e q => by
  unfold nReprF at e
  split at e
  · obtain ⟨v, rfl, hv⟩ := repL1 rv
    split at e
    · rename_i p hp
      split at e
      · rename_i hc
        cases e
        exact ⟨v, p, rfl, dp_flat ok hv hp, hc.1, hc.2.1, hc.2.2.1, hc.2.2.2, q _ H (Same.refl _) (by simp) (by intro z; simp at z)⟩
      · cases e
    · cases e
  · cases e⟩
end
end FX
namespace FX
open PySem PySem.Spec PyProof.Rows L2
open Classical
theorem RepL.snoc {K ad Z H} : ∀ {ds : List D} {vs : List V} {d : D} {v : V}, RepL K ad Z H ds vs → Rep K ad Z H d v → RepL K ad Z H (ds ++ [d]) (vs ++ [v]) := fun {ds vs d v} h k =>
  RepL.append h (by unfold RepL; exact ⟨v, [], rfl, k, by unfold RepL; rfl⟩)
theorem RepL.rev {K ad Z H} : ∀ {ds : List D} {vs : List V}, RepL K ad Z H ds vs → RepL K ad Z H ds.reverse vs.reverse
  | [], vs, h => by unfold RepL at h; subst h; unfold RepL; rfl
  | d :: ds, vs, h => by
    unfold RepL at h
    obtain ⟨v, r, rfl, h1, h2⟩ := h
    rw [List.reverse_cons, List.reverse_cons]
    exact RepL.snoc (RepL.rev h2) h1
section
variable {X : Cx} {H0 : Hp} {ad0 : List Addr} {W : WX} {pos : Pos}
/-- l[::-1] -/
def eRevL (a : EvE) : EvE := fun e => (a e).bind fun x s1 => match vw s1 x.1 with
  | .lst ds => .ok (.lst ds.reverse, 2) s1
  | _ => .bad
theorem sim_revL {a : Expr} {ea : EvE} {k : Nat} {p1 p2 p3 : Pos} (ha : PE X a (tE X.K H0 ad0 W ea)) : PE X (.Subscript a (.Slice none none (some (.UnaryOp .USub (.Constant (.int 1) k p1) p2)) p3) pos) (tE X.K H0 ad0 W (eRevL ea)) := by
  refine pe_mono (pe_revL ha) fun σ H Q ⟨Z, ad, e, rel, h⟩ => ⟨Z, ad, e, rel, (post_bind h).mono fun x ad1 s1 H1 ⟨st1, rel1, h1⟩ v rv _ _ => ?_⟩
  split at h1
  · rename_i ds hv
    obtain ⟨l, vs, rfl, e1, e2⟩ := lst_of rel1.sto rv hv
    refine ⟨l, vs, rfl, .inl (.inl e1), fun q nq => ?_⟩
    exact (h1 _ ad1 (.same (same_upd nq)) (rel1.same (same_upd nq))).2.2 _ (rep_new_lst rel1.sto nq (RepL.rev e2)) (fun _ => rel1.lv0 (lv_ref nq)) fun _ => (lv_ref nq).back st1 rel1.sto.dom
  · exact h1.elim
end
end FX
namespace FX
open PySem PySem.Spec PyProof.Rows L2
open Classical
section
variable {X : Cx}
/-- l.insert(i, int) -/
def mInsert : D → List D → Option (D × D) := fun c ds => match c, ds with
  | .lst xs, [.int i, .int y] => if xs.length < sizeLine ∧ 0 ≤ i ∧ i < 2 ^ 63 then some (.non, .lst (xs.take i.toNat ++ [.int y] ++ xs.drop i.toNat)) else none
  | _, _ => none
theorem m_insert : MutSim X "list.insert" mInsert := ⟨_, mt_insert, fun ad Z s H a c res c' ds vs Q ok ha hc rv e q => by
  unfold mInsert at e
  split at e
  · rename_i xs i y
    split at e
    · rename_i hz
      cases e
      obtain ⟨ws, e1, e2⟩ := hc
      obtain ⟨v, v', rfl, hv, hv'⟩ := repL2 rv
      rw [rep_int] at hv hv'
      subst hv hv'
      have l1 := RepL.len e2
      refine ⟨a, ws, i, .int y, rfl, rfl, e1, by rw [← l1]; exact hz.1, hz.2.1, hz.2.2, q .non (.lst (ws.take i.toNat ++ [.int y] ++ ws.drop i.toNat)) ⟨_, upd_same, ?_⟩ (by simp)⟩
      have e3 := core_upd (o := HO.lst (ws.take i.toNat ++ [.int y] ++ ws.drop i.toNat)) ha e2
      exact RepL.append (RepL.append (RepL.take _ e3) (by unfold RepL; exact ⟨_, [], rfl, rep_int.mpr rfl, by unfold RepL; rfl⟩)) (RepL.drop _ e3)
    · cases e
  · cases e⟩
end
end FX
namespace FX
open PySem PySem.Spec PyProof.Rows L2
open Classical
/-- a, b = a list -/
def aTupL (n : Nat) (b : Asgs) : Asg := fun d e => match vw e.sto d with
  | .lst ds => if ds.length = n then b ds e else none
  | _ => none
section
variable {K : PySem.W.Frag} {H0 : Hp} {ad0 : List Addr}
theorem gsim_lst {u : TGs} {n : Nat} {sl : List Nat} {b : Asgs} (h : GSims K H0 ad0 u sl b) : GSim K H0 ad0 (gLst K n u) sl (aTupL n b) := fun ad Z e e1 σ H d v Q rel rep ha hq => by
  unfold aTupL at ha
  cases hd : vw e.sto d with
  | lst ds =>
    rw [hd] at ha
    obtain ⟨a, vs, rfl, e2, e3⟩ := lst_of rel.sto rep hd
    have ha : (if ds.length = n then b ds e else none) = some e1 := ha
    by_cases hl : ds.length = n
    · rw [if_pos hl] at ha
      exact ⟨a, vs, rfl, .inl (.inl e2), by rw [← RepL.len e3]; exact hl, h ad Z e e1 σ H ds vs Q rel e3 ha hq⟩
    · rw [if_neg hl] at ha; cases ha
  | _ => rw [hd] at ha; cases ha
end
end FX

set_option Elab.async false
set_option linter.all false
set_option maxRecDepth 100000
namespace FX
open PySem PySem.Spec PyProof.Rows L2
open Classical
/-! ### x in l, for ints -/
noncomputable section
variable {X : Cx}
def gIn (neg : Bool) : Op2 := fun s x y => match x, vw s y with
  | .int i, .lst ds => (match ofInts ds with
    | some ns => some (.bl (if neg = true then !decide (i ∈ ns) else decide (i ∈ ns)), 0)
    | none => none)
  | _, _ => none
theorem inV_ints (i : Int) : ∀ ns : List Int, inV (V.int i) (ns.map V.int) = decide (i ∈ ns)
  | [] => by simp [inV]
  | n :: r => by
    have ih := inV_ints i r
    unfold inV at ih ⊢
    rw [List.map_cons, List.any_cons, ih]
    by_cases h : n = i
    · subst h; simp [eqV]
    · have h' : ¬i = n := fun e => h e.symm
      simp [eqV, h, h']
theorem in_of {K ad Z s H x y dx dy d l neg} (ok : StoOk K ad Z s H) (rx : Rep K ad Z H dx x) (ry : Rep K ad Z H dy y) (e : gIn neg s dx dy = some (d, l)) :
    ∃ (i : Int) (ns : List Int) (a : Addr), x = V.int i ∧ y = .ref a ∧ H a = some (.lst (ns.map V.int)) ∧ d = .bl (if neg = true then !decide (i ∈ ns) else decide (i ∈ ns)) ∧ l = 0 := by
  unfold gIn at e
  split at e
  · rename_i i ds hv
    split at e
    · rename_i ns hn
      cases e
      obtain ⟨a, vs, rfl, e1, e2⟩ := lst_of ok ry hv
      rw [ofInts_eq hn] at e2
      rw [RepL.ints e2] at e1
      exact ⟨i, ns, a, rep_int.mp rx, rfl, e1, rfl, rfl⟩
    · cases e
  · cases e
theorem o_in : OpSim X (compareOp .In) (gIn false) := ⟨_, op_in_seq, fun ad Z s H x y dx dy d l Q ok rx ry e q => by
  obtain ⟨i, ns, a, rfl, rfl, e1, rfl, rfl⟩ := in_of ok rx ry e
  refine ⟨a, _, rfl, .inl (.inl (.inl e1)), rfl, flat_intsV ns, ?_⟩
  rw [inV_ints]
  exact q _ H (Same.refl _) (by simp) (by intro z; simp at z)⟩
theorem o_notin : OpSim X (compareOp .NotIn) (gIn true) := ⟨_, op_notIn_seq, fun ad Z s H x y dx dy d l Q ok rx ry e q => by
  obtain ⟨i, ns, a, rfl, rfl, e1, rfl, rfl⟩ := in_of ok rx ry e
  refine ⟨a, _, rfl, .inl (.inl (.inl e1)), rfl, flat_intsV ns, ?_⟩
  rw [inV_ints]
  exact q _ H (Same.refl _) (by simp) (by intro z; simp at z)⟩
/-! ### list(l), a copy -/
def nList : OpN := fun s ds => match ds with
  | [d] => (match vw s d with | .lst xs => some (.lst xs, 2) | _ => none)
  | _ => none
theorem c_list : CallSim X (.type "list") nList := ⟨_, call_list_of, fun ad Z s H ds vs d l Q ok rv e q => by
  unfold nList at e
  split at e
  · rename_i x
    cases hv : vw s x with
    | lst xs =>
      rw [hv] at e
      cases e
      obtain ⟨v, rfl, h1⟩ := repL1 rv
      obtain ⟨a, ws, rfl, e1, e2⟩ := lst_of ok h1 hv
      exact ⟨a, ws, rfl, .inl (.inl (.inl e1)), fun p np => q _ _ (same_upd np) (rep_new_lst ok np e2) fun _ => lv_ref np⟩
    | _ => rw [hv] at e; cases e
  · cases e⟩
end
end FX

set_option Elab.async false
set_option linter.all false
set_option maxRecDepth 100000
namespace FX
open PySem PySem.Spec PyProof.Rows L2
open Classical
/-! ### x in l, for data of any depth -/
noncomputable section
variable {X : Cx}
theorem Room.units65 {k : Nat} {A : Around} (r : Room k A) : A.units + 65 < cLine := by have := r.un; omega
def gInD (neg : Bool) : Op2 := fun s x y => match datP s x, datP s y with
  | some p, some (.list ps) => if SeqAt.shaped p = true ∧ SeqAt.shaped (.list ps) = true then some (.bl (if neg = true then !(ps.any fun z => PyData.eqv z p) else ps.any fun z => PyData.eqv z p), 0) else none
  | _, _ => none
theorem o_inD (hu : X.A.units + 65 < cLine) : OpSim X (compareOp .In) (gInD false) := ⟨_, op_inD hu, fun ad Z s H x y dx dy d l Q ok rx ry e q => by
  unfold gInD at e
  split at e
  · rename_i p ps hp hr
    split at e
    · rename_i hs
      cases e
      exact ⟨p, ps, dp_vw ok rx hp, dp_vw ok ry hr, hs.1, hs.2, q _ H (Same.refl _) (by simp) (by intro z; simp at z)⟩
    · cases e
  · cases e⟩
theorem o_notinD (hu : X.A.units + 65 < cLine) : OpSim X (compareOp .NotIn) (gInD true) := ⟨_, op_notInD hu, fun ad Z s H x y dx dy d l Q ok rx ry e q => by
  unfold gInD at e
  split at e
  · rename_i p ps hp hr
    split at e
    · rename_i hs
      cases e
      exact ⟨p, ps, dp_vw ok rx hp, dp_vw ok ry hr, hs.1, hs.2, q _ H (Same.refl _) (by simp) (by intro z; simp at z)⟩
    · cases e
  · cases e⟩
def gIn2 (neg : Bool) : Op2 := gOr (gIn neg) (gInD neg)
theorem o_in2 (hu : X.A.units + 65 < cLine) : OpSim X (compareOp .In) (gIn2 false) := o_in.or (o_inD hu)
theorem o_notin2 (hu : X.A.units + 65 < cLine) : OpSim X (compareOp .NotIn) (gIn2 true) := o_notin.or (o_notinD hu)
end
end FX

set_option Elab.async false
set_option linter.all false
set_option maxRecDepth 100000
namespace FX
open PySem PySem.Spec PyProof.Rows L2
open Classical
abbrev Loc := List (Option (D × Bool))
abbrev QE := D → Nat → Sto → Prop
/-! ### what is wanted of an expression, of a statement -/
def WE (ev : EvE) (e : En) (Q : QE) : Prop := ∃ d l s, ev e = .ok (d, l) s ∧ Q d l s
def WA (ev : EvA) (e : En) (Q : List D → Sto → Prop) : Prop := ∃ ds s, ev e = .ok ds s ∧ Q ds s
def WT (ev : EvT) (e : En) (Q : Bool → Sto → Prop) : Prop := ∃ b s, ev e = .ok b s ∧ Q b s
def WI (it : EvI) (e : En) (Q : List D → (Sto → Prop) → Sto → Prop) : Prop := ∃ ds G s, it e = .ok (ds, G) s ∧ Q ds G s
def WU (ev : EvO) (e : En) (Q : Option Int → Sto → Prop) : Prop := ∃ o s, ev e = .ok o s ∧ Q o s
def WO (o : Option (D × Nat)) (s : Sto) (Q : QE) : Prop := ∃ d l, o = some (d, l) ∧ Q d l s
def WB (d : D) (s : Sto) (Q : Bool → Sto → Prop) : Prop := ∃ b, d = .bl b ∧ Q b s
def WTr (d : D) (s : Sto) (Q : Bool → Sto → Prop) : Prop := ∃ b, dTru s d = some b ∧ Q b s
def WC (f : List D → Sto → R (D × Nat)) (ds : List D) (s : Sto) (Q : QE) : Prop := ∃ d l s', f ds s = .ok (d, l) s' ∧ Q d l s'
@[irreducible] def WS (p : EvS) (e : En) (Q : RS → Prop) : Prop := Q (p e)
def Then (q : EvS) (Q : RS → Prop) : RS → Prop
  | .nx e => WS q e Q
  | r => Q r
def Cond (c : Bool) (A B : Prop) : Prop := (c = true → A) ∧ (c = false → B)
def CallQ (Q : QE) : QE := fun d l s => Q d (if 1 ≤ l then 2 else 0) s
def Turn (Q : RS → Prop) (J : Loc → Sto → Prop) : RS → Prop
  | .nx e => J e.loc e.sto
  | .cnt e => J e.loc e.sto
  | .brk e => Q (.nx e)
  | .ret d l s => Q (.ret d l s)
  | .exc C f e => Q (.exc C f e)
  | .bad => False
def Ret (n : Nat) (Q : QE) : RS → Prop
  | .ret d l s => ∃ d' l' s', trR n d l s = .ok (d', l') s' ∧ Q d' l' s'
  | .nx e => ∃ d' l' s', trR n .non 0 e.sto = .ok (d', l') s' ∧ Q d' l' s'
  | _ => False
section
variable {loc loc' : Loc} {s s' s1 : Sto} {cs : List D} {i n k h : Nat} {d x y : D} {l : Nat} {a b c : EvE} {as : EvA} {t u : EvT} {g g' : Op2} {ds : List D} {Q : QE} {QA : List D → Sto → Prop} {QB : Bool → Sto → Prop} {QS : RS → Prop} {p q : EvS}
theorem WE.mono {ev : EvE} {e : En} {Q' : QE} (h : WE ev e Q') (m : ∀ d l s, Q' d l s → Q d l s) : WE ev e Q := by
  obtain ⟨d, l, s, h, k⟩ := h; exact ⟨d, l, s, h, m _ _ _ k⟩
theorem WC.mono {f} {Q' : QE} (h : WC f ds s Q') (m : ∀ d l s, Q' d l s → Q d l s) : WC f ds s Q := by
  obtain ⟨d, l, s, h, k⟩ := h; exact ⟨d, l, s, h, m _ _ _ k⟩
theorem wc_ok {f} (h : f ds s = .ok (d, l) s') (k : Q d l s') : WC f ds s Q := ⟨_, _, _, h, k⟩
theorem WC.ok {f} (h : WC f ds s fun d' l' s'' => d' = d ∧ l' = l ∧ s'' = s') : f ds s = .ok (d, l) s' := by
  obtain ⟨_, _, _, h, rfl, rfl, rfl⟩ := h; exact h
/-! ### expressions -/
theorem we_var0 (h : loc[i]? = some (some (d, false))) (k : Q d 0 s) : WE (eVar i) ⟨loc, s⟩ Q := ⟨d, 0, s, by unfold eVar; simp only [h]; rfl, k⟩
theorem we_var1 (h : loc[i]? = some (some (d, true))) (k : Q d 1 s) : WE (eVar i) ⟨loc, s⟩ Q := ⟨d, 1, s, by unfold eVar; simp only [h]; rfl, k⟩
theorem we_C (k : Q d 0 s) : WE (eC d) ⟨loc, s⟩ Q := ⟨d, 0, s, rfl, k⟩
theorem we_bin (k : WE a ⟨loc, s⟩ fun x _ s1 => WE b ⟨loc, s1⟩ fun y _ s2 => WO (g s2 x y) s2 Q) : WE (eBin g a b) ⟨loc, s⟩ Q := by
  obtain ⟨x, l, s1, e1, y, l', s2, e2, d, l2, e3, k⟩ := k
  exact ⟨d, l2, s2, by unfold eBin; rw [e1]; show R.bind (b ⟨loc, s1⟩) _ = _; rw [e2]; show ofO _ _ = _; rw [e3]; rfl, k⟩
theorem we_chain (k : WE a ⟨loc, s⟩ fun x _ s1 => WE b ⟨loc, s1⟩ fun y _ s2 => WO (g s2 x y) s2 fun t _ s3 => WB t s3 fun v s3 => Cond v (WE c ⟨loc, s3⟩ fun z _ s4 => WO (g' s4 y z) s4 Q) (Q (.bl false) 0 s3)) : WE (eChain g g' a b c) ⟨loc, s⟩ Q := by
  obtain ⟨x, l, s1, e1, y, l', s2, e2, t, l2, e3, v, rfl, k1, k2⟩ := k
  unfold eChain WE
  simp only [e1, e2, e3, R.bind_ok, ofO_some]
  cases v with
  | true =>
    obtain ⟨z, l4, s4, e4, d, l5, e5, k⟩ := k1 rfl
    exact ⟨d, l5, s4, by simp only [e4, R.bind_ok, e5, ofO_some], k⟩
  | false => exact ⟨_, _, _, rfl, k2 rfl⟩
/-- a chain of comparisons whose last side only reads -/
theorem we_chainI (k : WE a ⟨loc, s⟩ fun x _ s1 => WE b ⟨loc, s1⟩ fun y _ s2 => WO (g s2 x y) s2 fun t l2 s3 => WB t s3 fun v _ => WE c ⟨loc, s2⟩ fun z _ s4 => WO (g' s4 y z) s4 fun t' l3 _ => WB t' s4 fun v' _ => l3 = 0 ∧ s4 = s2 ∧ Q (.bl (v && v')) 0 s2) : WE (eChain g g' a b c) ⟨loc, s⟩ Q := by
  obtain ⟨x, l, s1, e1, y, l', s2, e2, t, l2, e3, v, rfl, z, l4, s4, e4, d, l5, e5, v', rfl, rfl, rfl, k⟩ := k
  unfold eChain WE
  simp only [e1, e2, e3, R.bind_ok, ofO_some]
  cases v with
  | true => exact ⟨.bl v', 0, s4, by simp only [e4, R.bind_ok, e5, ofO_some], by simpa using k⟩
  | false => exact ⟨_, _, _, rfl, by simpa using k⟩
theorem we_and (k : WE a ⟨loc, s⟩ fun x l s1 => WTr x s1 fun t s2 => Cond t (WE b ⟨loc, s2⟩ Q) (Q x (min l 1) s2)) : WE (eAnd a b) ⟨loc, s⟩ Q := by
  obtain ⟨x, l, s1, e1, t, e2, k1, k2⟩ := k
  unfold eAnd WE
  simp only [e1, e2, R.bind_ok, ofO_some]
  cases t with
  | true => exact k1 rfl
  | false => exact ⟨_, _, _, rfl, k2 rfl⟩
theorem we_or (k : WE a ⟨loc, s⟩ fun x l s1 => WTr x s1 fun t s2 => Cond t (Q x (min l 1) s2) (WE b ⟨loc, s2⟩ Q)) : WE (eOr a b) ⟨loc, s⟩ Q := by
  obtain ⟨x, l, s1, e1, t, e2, k1, k2⟩ := k
  unfold eOr WE
  simp only [e1, e2, R.bind_ok, ofO_some]
  cases t with
  | true => exact ⟨_, _, _, rfl, k1 rfl⟩
  | false => exact k2 rfl
theorem we_not (k : WE a ⟨loc, s⟩ fun x l s1 => WTr x s1 fun t s2 => Q (.bl (!t)) 0 s2) : WE (eNot a) ⟨loc, s⟩ Q := by
  obtain ⟨x, l, s1, e1, t, e2, k⟩ := k
  exact ⟨_, _, _, by unfold eNot; simp only [e1, e2, R.bind_ok, ofO_some], k⟩
theorem we_if (k : WT t ⟨loc, s⟩ fun v s1 => Cond v (WE a ⟨loc, s1⟩ Q) (WE b ⟨loc, s1⟩ Q)) : WE (eIf t a b) ⟨loc, s⟩ Q := by
  obtain ⟨v, s1, e1, k1, k2⟩ := k
  unfold eIf WE
  simp only [e1, R.bind_ok]
  cases v with
  | true => exact k1 rfl
  | false => exact k2 rfl
theorem we_neg {j : Int → Int → Prop} (k : WE a ⟨loc, s⟩ fun x _ s1 => ∃ i : Int, x = .int i ∧ Q (.int (-i)) 0 s1) : WE (eNeg a) ⟨loc, s⟩ Q := by
  obtain ⟨x, l, s1, e1, i, rfl, k⟩ := k
  exact ⟨_, _, _, by unfold eNeg; simp only [e1, R.bind_ok], k⟩
theorem we_m1 (k : Q (.int (-1)) 0 s) : WE (eNeg (eC (.int 1))) ⟨loc, s⟩ Q := ⟨_, _, _, rfl, k⟩
theorem wa_nil (k : QA [] s) : WA aNilE ⟨loc, s⟩ QA := ⟨_, _, rfl, k⟩
theorem wa_cons (k : WE a ⟨loc, s⟩ fun x _ s1 => WA as ⟨loc, s1⟩ fun ds s2 => QA (x :: ds) s2) : WA (aConsE a as) ⟨loc, s⟩ QA := by
  obtain ⟨x, l, s1, e1, ds, s2, e2, k⟩ := k
  exact ⟨_, _, by unfold aConsE; simp only [e1, e2, R.bind_ok], k⟩
theorem we_lst (k : WA as ⟨loc, s⟩ fun ds s1 => ds.length ≤ sizeLine ∧ Q (.lst ds) 2 s1) : WE (eLst as) ⟨loc, s⟩ Q := by
  obtain ⟨ds, s1, e1, h, k⟩ := k
  exact ⟨_, _, _, by unfold eLst; simp only [e1, R.bind_ok, if_pos h], k⟩
theorem we_tup (k : WA as ⟨loc, s⟩ fun ds s1 => ds.length ≤ sizeLine ∧ Q (.tup ds) 2 s1) : WE (eTup as) ⟨loc, s⟩ Q := by
  obtain ⟨ds, s1, e1, h, k⟩ := k
  exact ⟨_, _, _, by unfold eTup; simp only [e1, R.bind_ok, if_pos h], k⟩
theorem we_cb {g : OpN} (k : WA as ⟨loc, s⟩ fun ds s1 => WO (g s1 ds) s1 Q) : WE (eCB g as) ⟨loc, s⟩ Q := by
  obtain ⟨ds, s1, e1, d, l, e2, k⟩ := k
  exact ⟨_, _, _, by unfold eCB; simp only [e1, R.bind_ok, e2, ofO_some], k⟩
theorem we_call {f} (k : WA as ⟨loc, s⟩ fun ds s1 => WC f ds s1 (CallQ Q)) : WE (eCall f as) ⟨loc, s⟩ Q := by
  obtain ⟨ds, s1, e1, d, l, s2, e2, k⟩ := k
  exact ⟨_, _, _, by unfold eCall; simp only [e1, R.bind_ok, e2], k⟩
theorem we_callK {f pm} (k : WA as ⟨loc, s⟩ fun ds s1 => ds.length = n ∧ WC f (pm.filterMap (ds[·]?)) s1 (CallQ Q)) : WE (eCallK f n pm as) ⟨loc, s⟩ Q := by
  obtain ⟨ds, s1, e1, h, d, l, s2, e2, k⟩ := k
  exact ⟨_, _, _, by unfold eCallK; simp only [e1, R.bind_ok, if_pos h, e2], k⟩
theorem cq0 (k : Q d 0 s) : CallQ Q d 0 s := k
theorem cq1 (k : Q d 2 s) : CallQ Q d 1 s := k
theorem cq2 (k : Q d 2 s) : CallQ Q d 2 s := k
theorem wu_no {QU : Option Int → Sto → Prop} (k : QU none s) : WU oNo ⟨loc, s⟩ QU := ⟨_, _, rfl, k⟩
theorem wu_some {QU : Option Int → Sto → Prop} (k : WE a ⟨loc, s⟩ fun x _ s1 => ∃ i : Int, x = .int i ∧ QU (some i) s1) : WU (oSome a) ⟨loc, s⟩ QU := by
  obtain ⟨x, l, s1, e1, i, rfl, k⟩ := k
  exact ⟨_, _, by unfold oSome; simp only [e1, R.bind_ok], k⟩
theorem we_sl {lo hi : EvO} (k : WE a ⟨loc, s⟩ fun x _ s1 => WU lo ⟨loc, s1⟩ fun o1 s2 => WU hi ⟨loc, s2⟩ fun o2 s3 => ∃ ds, vw s3 x = .lst ds ∧ Q (.lst (cutD ds o1 o2)) 2 s3) : WE (eSl a lo hi) ⟨loc, s⟩ Q := by
  obtain ⟨x, l, s1, e1, o1, s2, e2, o2, s3, e3, ds, h, k⟩ := k
  exact ⟨_, _, _, by unfold eSl; simp only [e1, e2, e3, R.bind_ok, h], k⟩
/-! ### conditions -/
theorem wt_tst (k : WE a ⟨loc, s⟩ fun d _ s1 => WB d s1 QB) : WT (tst a) ⟨loc, s⟩ QB := by
  obtain ⟨x, l, s1, e1, b, rfl, k⟩ := k
  exact ⟨_, _, by unfold tst; simp only [e1, R.bind_ok], k⟩
theorem wt_tru (k : WE a ⟨loc, s⟩ fun d _ s1 => WTr d s1 QB) : WT (tru a) ⟨loc, s⟩ QB := by
  obtain ⟨x, l, s1, e1, b, h, k⟩ := k
  exact ⟨_, _, by unfold tru; simp only [e1, R.bind_ok, h, ofO_some], k⟩
theorem wt_and (k : WT t ⟨loc, s⟩ fun v s1 => Cond v (WT u ⟨loc, s1⟩ QB) (QB false s1)) : WT (tAndS t u) ⟨loc, s⟩ QB := by
  obtain ⟨v, s1, e1, k1, k2⟩ := k
  unfold tAndS WT
  simp only [e1, R.bind_ok]
  cases v with
  | true => exact k1 rfl
  | false => exact ⟨_, _, rfl, k2 rfl⟩
theorem wt_or (k : WT t ⟨loc, s⟩ fun v s1 => Cond v (QB true s1) (WT u ⟨loc, s1⟩ QB)) : WT (tOrS t u) ⟨loc, s⟩ QB := by
  obtain ⟨v, s1, e1, k1, k2⟩ := k
  unfold tOrS WT
  simp only [e1, R.bind_ok]
  cases v with
  | true => exact ⟨_, _, rfl, k1 rfl⟩
  | false => exact k2 rfl
theorem wt_not (k : WT t ⟨loc, s⟩ fun v s1 => QB (!v) s1) : WT (tNotS t) ⟨loc, s⟩ QB := by
  obtain ⟨v, s1, e1, k⟩ := k
  exact ⟨_, _, by unfold tNotS; simp only [e1, R.bind_ok], k⟩
theorem wt_yes (k : QB true s) : WT cYes ⟨loc, s⟩ QB := ⟨_, _, rfl, k⟩
theorem wb {v : Bool} (k : QB v s) : WB (.bl v) s QB := ⟨_, rfl, k⟩
theorem wtr_b {v : Bool} (k : QB v s) : WTr (.bl v) s QB := ⟨_, rfl, k⟩
theorem wtr_i {v : Int} (k : QB (decide (v ≠ 0)) s) : WTr (.int v) s QB := ⟨_, rfl, by rw [show (v != 0) = decide (v ≠ 0) by by_cases h : v = 0 <;> simp [h]]; exact k⟩
theorem wtr_n (k : QB false s) : WTr .non s QB := ⟨_, rfl, k⟩
theorem wtr_l {ns : List Int} (h : vw s d = .lst (ns.map .int)) (k : QB (decide (ns ≠ [])) s) : WTr d s QB := ⟨_, by unfold dTru; rw [h], by
  rw [show (!(ns.map D.int).isEmpty) = decide (ns ≠ []) by cases ns <;> simp]; exact k⟩
variable {A B : Prop} {P : Prop} [Decidable P]
theorem cond_tt (k : A) : Cond true A B := ⟨fun _ => k, fun z => nomatch z⟩
theorem cond_ff (k : B) : Cond false A B := ⟨fun z => (nomatch z), fun _ => k⟩
theorem cond_t (h : P) (k : A) : Cond (decide P) A B := ⟨fun _ => k, fun z => absurd h (of_decide_eq_false z)⟩
theorem cond_f (h : ¬P) (k : B) : Cond (decide P) A B := ⟨fun z => absurd (of_decide_eq_true z) h, fun _ => k⟩
theorem cond_s (k : P → A) (k2 : ¬P → B) : Cond (decide P) A B := ⟨fun z => k (of_decide_eq_true z), fun z => k2 (of_decide_eq_false z)⟩
theorem cond_n {v : Bool} (k : Cond v B A) : Cond (!v) A B := ⟨fun z => k.2 (by simpa using z), fun z => k.1 (by simpa using z)⟩
theorem cond_a {v w : Bool} (k : Cond v (Cond w A B) B) : Cond (v && w) A B := by
  cases v
  · exact ⟨fun z => (nomatch z), fun _ => k.2 rfl⟩
  · exact ⟨fun z => (k.1 rfl).1 z, fun z => (k.1 rfl).2 z⟩
theorem cond_o {v w : Bool} (k : Cond v A (Cond w A B)) : Cond (v || w) A B := by
  cases v
  · exact ⟨fun z => (k.2 rfl).1 z, fun z => (k.2 rfl).2 z⟩
  · exact ⟨fun _ => k.1 rfl, fun z => (nomatch z)⟩
/-! ### statements -/
theorem ws_nil {e : En} (k : QS (.nx e)) : WS sNil e QS := by unfold WS; exact k
theorem ws_pass {e : En} (k : QS (.nx e)) : WS sPass e QS := by unfold WS; exact k
theorem ws_break {e : En} (k : QS (.brk e)) : WS sBreak e QS := by unfold WS; exact k
theorem ws_cont {e : En} (k : QS (.cnt e)) : WS sCont e QS := by unfold WS; exact k
theorem ws_seq {e : En} (k : WS p e (Then q QS)) : WS (sSeq p q) e QS := by
  unfold WS at k ⊢
  unfold sSeq
  cases r : p e <;> (rw [r] at k; first | exact k | (unfold Then WS at k; exact k))
theorem then_nx {y : Bool} (h : loc.set i (some (d, y)) = loc') (k : WS q ⟨loc', s⟩ QS) : Then q QS (.nx ⟨loc.set i (some (d, y)), s⟩) := by rw [h]; exact k
theorem then_0 {e : En} (k : WS q e QS) : Then q QS (.nx e) := k
theorem then_ret (k : QS (.ret d l s)) : Then q QS (.ret d l s) := k
theorem then_brk {e : En} (k : QS (.brk e)) : Then q QS (.brk e) := k
theorem then_cnt {e : En} (k : QS (.cnt e)) : Then q QS (.cnt e) := k
theorem ws_set (k : WE a ⟨loc, s⟩ fun d l s1 => QS (.nx ⟨loc.set i (some (d, decide (1 ≤ l))), s1⟩)) : WS (sSet i a) ⟨loc, s⟩ QS := by
  obtain ⟨x, l, s1, e1, k⟩ := k
  unfold WS sSet; rw [e1]; exact k
theorem ws_expr (k : WE a ⟨loc, s⟩ fun _ _ s1 => QS (.nx ⟨loc, s1⟩)) : WS (sExpr a) ⟨loc, s⟩ QS := by
  obtain ⟨x, l, s1, e1, k⟩ := k
  unfold WS sExpr; rw [e1]; exact k
theorem ws_ret (k : WE a ⟨loc, s⟩ fun d l s1 => QS (.ret d l s1)) : WS (sRet a) ⟨loc, s⟩ QS := by
  obtain ⟨x, l, s1, e1, k⟩ := k
  unfold WS sRet; rw [e1]; exact k
theorem ws_retN (k : QS (.ret .non 0 s)) : WS sRetN ⟨loc, s⟩ QS := by unfold WS; exact k
theorem ws_if (k : WT t ⟨loc, s⟩ fun v s1 => Cond v (WS p ⟨loc, s1⟩ QS) (WS q ⟨loc, s1⟩ QS)) : WS (sIf t p q) ⟨loc, s⟩ QS := by
  obtain ⟨v, s1, e1, k1, k2⟩ := k
  unfold WS sIf; rw [e1]
  cases v with
  | true => have k := k1 rfl; unfold WS at k; exact k
  | false => have k := k2 rfl; unfold WS at k; exact k
theorem ws_aug (h : loc[i]? = some (some (d, y'))) (k : WE a ⟨loc, s⟩ fun x _ s1 => WO (g s1 d x) s1 fun z l s1 => QS (.nx ⟨loc.set i (some (z, decide (1 ≤ l))), s1⟩)) : WS (sAug g i a) ⟨loc, s⟩ QS := by
  obtain ⟨x, l, s1, e1, z, l', e2, k⟩ := k
  unfold WS sAug; simp only [h, e1, R.toS_ok, e2]; exact k
theorem ws_par {j : Nat} (k : WA as ⟨loc, s⟩ fun ds s1 => ∃ x y, ds = [x, y] ∧ QS (.nx ⟨(loc.set i (some (x, false))).set j (some (y, false)), s1⟩)) : WS (sPar i j as) ⟨loc, s⟩ QS := by
  obtain ⟨ds, s1, e1, x, y, rfl, k⟩ := k
  unfold WS sPar; rw [e1]; exact k
theorem ws_parq {j : Nat} (k : WE a ⟨loc, s⟩ fun x _ s1 => WE b ⟨loc, s1⟩ fun y _ s2 => QS (.nx ⟨(loc.set i (some (x, false))).set j (some (y, false)), s2⟩)) : WS (sPar i j (aConsE a (aConsE b aNilE))) ⟨loc, s⟩ QS := by
  obtain ⟨x, l, s1, e1, y, l2, s2, e2, k⟩ := k
  exact ws_par (wa_cons ⟨_, _, _, e1, wa_cons ⟨_, _, _, e2, wa_nil ⟨x, y, rfl, k⟩⟩⟩)
theorem ws_asg {asg : Asg} (k : WE a ⟨loc, s⟩ fun x _ s1 => ∃ e2, asg x ⟨loc, s1⟩ = some e2 ∧ QS (.nx e2)) : WS (sAsg asg a) ⟨loc, s⟩ QS := by
  obtain ⟨x, l, s1, e1, e2, h, k⟩ := k
  unfold WS sAsg; simp only [e1, R.toS_ok, h]; exact k
theorem ws_asg2 {j : Nat} (k : WE a ⟨loc, s⟩ fun x _ s1 => ∃ y z, x = .tup [y, z] ∧ QS (.nx ⟨(loc.set i (some (y, false))).set j (some (z, false)), s1⟩)) : WS (sAsg (aTup 2 (aCons (aName i) (aCons (aName j) aNil))) a) ⟨loc, s⟩ QS := by
  obtain ⟨x, l, s1, e1, y, z, rfl, k⟩ := k
  exact ws_asg ⟨_, _, _, e1, _, rfl, k⟩
def TupK (x : D) (s : Sto) (P : D → D → Sto → Prop) : Prop := ∃ y z, x = .tup [y, z] ∧ P y z s
theorem tupk {P : D → D → Sto → Prop} (k : P x y s) : TupK (.tup [x, y]) s P := ⟨_, _, rfl, k⟩
theorem ws_asg2q {j : Nat} (k : WE a ⟨loc, s⟩ fun x _ s1 => TupK x s1 fun y z s1 => QS (.nx ⟨(loc.set i (some (y, false))).set j (some (z, false)), s1⟩)) : WS (sAsg (aTup 2 (aCons (aName i) (aCons (aName j) aNil))) a) ⟨loc, s⟩ QS := ws_asg2 k
def AugQ (o : Option (Option (D × Bool))) (P : D → Prop) : Prop := ∃ d y, o = some (some (d, y)) ∧ P d
theorem augq {o : Option (Option (D × Bool))} {y : Bool} {P : D → Prop} (h : o = some (some (d, y))) (k : P d) : AugQ o P := ⟨_, _, h, k⟩
theorem ws_augq (k : AugQ loc[i]? fun d => WE a ⟨loc, s⟩ fun x _ s1 => WO (g s1 d x) s1 fun z l s1 => QS (.nx ⟨loc.set i (some (z, decide (1 ≤ l))), s1⟩)) : WS (sAug g i a) ⟨loc, s⟩ QS := by
  obtain ⟨d, y, h, k⟩ := k
  exact ws_aug h k
/-! ### a def -/
theorem wc_def {m n : Nat} {body : EvS} (hd : ds.length = n) (hl : ds.map (fun d => some (d, false)) ++ List.replicate m none = loc) (k : WS body ⟨loc, s ++ []⟩ (Ret s.length Q)) : WC (noX (defT m n body)) ds s Q := by
  unfold WC noX defT
  rw [if_pos hd, hl]
  rw [List.append_nil] at k
  unfold WS at k
  cases r : body ⟨loc, s⟩ with
  | ret d l s' => rw [r] at k; obtain ⟨d', l', s'', h, k⟩ := k; exact ⟨d', l', s'', by simp only [h], k⟩
  | nx e' => rw [r] at k; obtain ⟨d', l', s'', h, k⟩ := k; exact ⟨d', l', s'', by simp only [h], k⟩
  | _ => rw [r] at k; exact k.elim
end
end FX

set_option Elab.async false
set_option linter.all false
set_option maxRecDepth 100000
namespace FX
open PySem PySem.Spec PyProof.Rows L2
open Classical
theorem size_eq : sizeLine = 16777216 := rfl
/-! ### plain stores: cells of scalars that are no cells themselves -/
def plC (c : D) : Prop := ∃ ns : List Int, c = .lst (ns.map .int)
theorem plC.f {c : D} (h : plC c) : flatC c = true ∧ noH 0 c = true := by obtain ⟨ns, rfl⟩ := h; exact ⟨flat_ints, noH_ints⟩
def PC (s : Sto) : Prop := ∀ c ∈ s, plC c
mutual
theorem noH_up {m n : Nat} (h : m ≤ n) : ∀ d : D, noH m d = true → noH n d = true
  | .hnd i, k => by unfold noH at k ⊢; have := of_decide_eq_true k; exact decide_eq_true (by omega)
  | .lst ds, k => by unfold noH at k ⊢; exact noHs_up h ds k
  | .tup ds, k => by unfold noH at k ⊢; exact noHs_up h ds k
  | .dct ks ds, k => by unfold noH at k ⊢; exact noHs_up h ds k
  | .non, _ => rfl
  | .bl _, _ => rfl
  | .int _, _ => rfl
  | .str _, _ => rfl
  | .ty _, _ => rfl
  | .con _, _ => rfl
  | .set _, _ => rfl
  | .scr _, _ => rfl
theorem noHs_up {m n : Nat} (h : m ≤ n) : ∀ ds : List D, noHs m ds = true → noHs n ds = true
  | [], _ => rfl
  | d :: ds, k => by
    unfold noHs at k ⊢
    rw [Bool.and_eq_true] at k ⊢
    exact ⟨noH_up h d k.1, noHs_up h ds k.2⟩
end
theorem pl_ints {ns : List Int} : plC (.lst (ns.map .int)) := ⟨ns, rfl⟩
theorem pl_nil : plC (.lst []) := ⟨[], rfl⟩
theorem PC.nil : PC [] := fun c h => nomatch h
theorem PC.cons {c : D} {cs : List D} (h : plC c) (k : PC cs) : PC (c :: cs) := fun x hx => by
  rcases List.mem_cons.mp hx with rfl | hx
  · exact h
  · exact k x hx
theorem PC.app {s : Sto} {cs : List D} (h : PC s) (k : PC cs) : PC (s ++ cs) := fun x hx => (List.mem_append.mp hx).elim (h x) (k x)
theorem PC.set {s : Sto} {i : Nat} {c : D} (h : PC s) (k : plC c) : PC (s.set i c) := fun x hx => by
  rcases List.mem_or_eq_of_mem_set hx with q | q
  · exact h x q
  · rw [q]; exact k
theorem PC.take {s : Sto} {n : Nat} (h : PC s) : PC (s.take n) := fun c hc => h c (List.mem_of_mem_take hc)
theorem AI.pc {s : Sto} (h : AI s) : PC s := fun c hc => by obtain ⟨ns, rfl⟩ := h c hc; exact pl_ints
theorem PC.no {s : Sto} {n : Nat} (h : PC s) : noHs n s = true := noHs_mem.mpr fun d hd => noH_up (Nat.zero_le _) d (h d hd).f.2
theorem PC.nh {s : Sto} (h : PC s) : NH s := h.no
theorem PC.fl {s : Sto} (h : PC s) : s.all flatC = true := by
  rw [List.all_eq_true]; exact fun d hd => (h d hd).f.1
section
variable {s s1 s' : Sto} {cs : List D} {n h k : Nat} {d c c0 c1 c2 c3 x y : D} {l : Nat} {Q : QE} {ds : List D}
/-! ### a def's answer -/
theorem ret_sc (hn : s1.length = n) (hp : PC s1) (hd : noH 0 d = true) (hh : ∀ i, d ≠ .hnd i) (q : Q d l s1) : Ret n Q (.ret d l (s1 ++ cs)) := by
  refine ⟨d, l, s1, ?_, q⟩
  subst hn
  exact trR_of List.take_left hp.no (noH_up (Nat.zero_le _) d hd) hh
theorem ret_int {i : Int} (hn : s1.length = n) (hp : PC s1) (q : Q (.int i) l s1) : Ret n Q (.ret (.int i) l (s1 ++ cs)) := ret_sc hn hp rfl (fun _ z => nomatch z) q
theorem ret_bl {i : Bool} (hn : s1.length = n) (hp : PC s1) (q : Q (.bl i) l s1) : Ret n Q (.ret (.bl i) l (s1 ++ cs)) := ret_sc hn hp rfl (fun _ z => nomatch z) q
theorem ret_non (hn : s1.length = n) (hp : PC s1) (q : Q .non l s1) : Ret n Q (.ret .non l (s1 ++ cs)) := ret_sc hn hp rfl (fun _ z => nomatch z) q
theorem ret_str {i : Str} (hn : s1.length = n) (hp : PC s1) (q : Q (.str i) l s1) : Ret n Q (.ret (.str i) l (s1 ++ cs)) := ret_sc hn hp rfl (fun _ z => nomatch z) q
theorem ret_ints {ns : List Int} (hn : s1.length = n) (hp : PC s1) (q : Q (.lst (ns.map .int)) l s1) : Ret n Q (.ret (.lst (ns.map .int)) l (s1 ++ cs)) := ret_sc hn hp noH_ints (fun _ z => nomatch z) q
theorem ret_nil (hn : s1.length = n) (hp : PC s1) (q : Q (.lst []) l s1) : Ret n Q (.ret (.lst []) l (s1 ++ cs)) := ret_sc hn hp rfl (fun _ z => nomatch z) q
theorem ret_nx {e : En} (he : e.sto = s1 ++ cs) (hn : s1.length = n) (hp : PC s1) (q : Q .non 0 s1) : Ret n Q (.nx e) := by
  refine ⟨.non, 0, s1, ?_, q⟩
  rw [he]; subst hn
  exact trR_of List.take_left hp.no rfl (fun _ z => nomatch z)
theorem ret_hnd {ns : List Int} {j : Nat} (hn : s1.length = n) (hp : PC s1) (hj : n ≤ j) (hr : rd (s1 ++ cs) j = .lst (ns.map .int)) (q : Q (.lst (ns.map .int)) 1 s1) : Ret n Q (.ret (.hnd j) l (s1 ++ cs)) := by
  refine ⟨_, 1, s1, ?_, q⟩
  subst hn
  exact trR_hnd List.take_left hp.no hj hr (noHs_ints _ _)
theorem ret_hdct {ks : List Key} {ns : List Int} {j : Nat} (hn : s1.length = n) (hp : PC s1) (hj : n ≤ j) (hr : rd (s1 ++ cs) j = .dct ks (ns.map .int)) (q : Q (.dct ks (ns.map .int)) 1 s1) : Ret n Q (.ret (.hnd j) l (s1 ++ cs)) := by
  refine ⟨_, 1, s1, ?_, q⟩
  subst hn
  unfold trR
  rw [List.take_left, if_pos hp.no]
  simp only
  rw [if_neg (by omega), hr]
  simp only
  rw [if_pos (noHs_ints _ _)]
theorem ret_top {b : Bool} (q : ∀ s, Q (.bl b) l s) : Ret ([] : Sto).length Q (.ret (.bl b) l s) := ⟨.bl b, l, [], trR_of (s := []) (by simp) rfl rfl (fun _ z => (nomatch z)), q _⟩
/-! ### cells of the frame -/
theorem rd_0 (hn : s1.length = n) : rd (s1 ++ c0 :: cs) n = c0 := by
  subst hn; unfold rd; rw [List.getD_eq_getElem?_getD, List.getElem?_append_right (Nat.le_refl _)]; simp
theorem rd_k (hn : s1.length = n) (hc : cs[k]? = some c) : rd (s1 ++ cs) (n + k) = c := by
  subst hn; unfold rd; rw [List.getD_eq_getElem?_getD, List.getElem?_append_right (by omega)]; simp [hc]
theorem rd_kx {X : Sto} (hn : s1.length = n) (hk : X.length = k) : rd (s1 ++ (X ++ c0 :: cs)) (n + k) = c0 := rd_k hn (by subst hk; simp)
theorem set_kx {X : Sto} (hn : s1.length = n) (hk : X.length = k) : (s1 ++ (X ++ c0 :: cs)).set (n + k) c = s1 ++ (X ++ c :: cs) := by
  subst hn; subst hk
  rw [List.set_append_right _ _ (by omega), show s1.length + X.length - s1.length = X.length by omega, List.set_append_right _ _ (Nat.le_refl _)]; simp
theorem set_0 (hn : s1.length = n) : (s1 ++ c0 :: cs).set n c = s1 ++ c :: cs := by
  subst hn; rw [List.set_append_right _ _ (Nat.le_refl _)]; simp
theorem set_k (hn : s1.length = n) : (s1 ++ cs).set (n + k) c = s1 ++ cs.set k c := by
  subst hn; rw [List.set_append_right _ _ (by omega)]; simp
theorem vw_app (e : vw s1 d = .lst ds) : vw (s1 ++ cs) d = .lst ds := by
  cases d with
  | hnd i =>
    have e' : rd s1 i = .lst ds := e
    have hi : i < s1.length := by
      by_cases hi : i < s1.length
      · exact hi
      · unfold rd at e'; rw [List.getD_eq_getElem?_getD, List.getElem?_eq_none (by omega)] at e'; cases e'
    exact (rd_app hi).trans e'
  | _ => exact e
/-- all but cell h stays -/
def Oth (h : Nat) (s s' : Sto) : Prop := ∀ j, j ≠ h → rd s' j = rd s j
theorem Oth.refl : Oth h s s := fun _ _ => rfl
theorem Oth.trans {s2 : Sto} (a : Oth h s s1) (b : Oth h s1 s2) : Oth h s s2 := fun j q => (b j q).trans (a j q)
theorem Oth.vw (o : Oth h s s1) (q : d ≠ .hnd h) (e : vw s d = .lst ds) : vw s1 d = .lst ds := by
  cases d with
  | hnd i => exact (o i fun z => q (by rw [z])).trans e
  | _ => exact e
theorem thaw0 {ns : List Int} {QR : D → Nat → Sto → Prop} (hn : s1.length = n) (hp : PC s1) (q : QR (.hnd n) 1 (s1 ++ [.lst (ns.map .int)])) : ∃ d l s', thawR (.lst (ns.map .int), 2) (s1 ++ []) = .ok (d, l) s' ∧ QR d l s' := by
  refine ⟨_, _, _, ?_, q⟩
  unfold thawR
  simp only
  rw [List.append_nil, if_pos ⟨trivial, flat_ints, hp.fl⟩, hn]
theorem thawk {ns : List Int} {QR : D → Nat → Sto → Prop} (hn : s1.length = n) (hp : PC s1) (hc : PC cs) (hk : cs.length = k) (q : QR (.hnd (n + k)) 1 (s1 ++ (cs ++ [.lst (ns.map .int)]))) : ∃ d l s', thawR (.lst (ns.map .int), 2) (s1 ++ cs) = .ok (d, l) s' ∧ QR d l s' := by
  refine ⟨_, _, _, ?_, q⟩
  unfold thawR
  simp only
  rw [if_pos ⟨trivial, flat_ints, (hp.app hc).fl⟩, List.length_append, hn, hk, List.append_assoc]
theorem ws_st {loc : Loc} {p : EvS} {QS : RS → Prop} (q : WS p ⟨loc, s ++ []⟩ QS) : WS p ⟨loc, s⟩ QS := by rwa [List.append_nil] at q
def Mid (I : Loc → Sto → Prop) : RS → Prop
  | .nx e => I e.loc e.sto
  | _ => False
theorem mid_nx {I : Loc → Sto → Prop} {e : En} (h : I e.loc e.sto) : Mid I (.nx e) := h
theorem ws_mid {p : EvS} {e : En} {QS : RS → Prop} (I : Loc → Sto → Prop) (h : WS p e (Mid I)) (q : ∀ loc s, I loc s → QS (.nx ⟨loc, s⟩)) : WS p e QS := by
  unfold WS at h ⊢
  cases r : p e with
  | nx e' => rw [r] at h; exact q _ _ h
  | _ => rw [r] at h; exact h.elim
/-- two ways meet again -/
theorem cond_mid {v : Bool} {p1 p2 p : EvS} {e1 e2 : En} {QS : RS → Prop} (I : Loc → Sto → Prop) (h : Cond v (WS p1 e1 (Mid I)) (WS p2 e2 (Mid I))) (q : ∀ loc s, I loc s → WS p ⟨loc, s⟩ QS) : Cond v (WS p1 e1 (Then p QS)) (WS p2 e2 (Then p QS)) :=
  ⟨fun z => ws_mid I (h.1 z) q, fun z => ws_mid I (h.2 z) q⟩
def Thaw (Q : QE) : QE := fun d l s => ∃ d' l' s', thawR (d, l) s = .ok (d', l') s' ∧ Q d' l' s'
theorem we_thaw {loc : Loc} {a : EvE} (q : WE a ⟨loc, s⟩ (Thaw Q)) : WE (eThaw a) ⟨loc, s⟩ Q := by
  obtain ⟨d, l, s1, e1, d', l', s', e2, k⟩ := q
  exact ⟨_, _, _, by unfold eThaw; rw [e1]; exact e2, k⟩
theorem th_0 {ns : List Int} (hn : s1.length = n) (hp : PC s1) (q : Q (.hnd n) 1 (s1 ++ [.lst (ns.map .int)])) : Thaw Q (.lst (ns.map .int)) 2 (s1 ++ []) := thaw0 hn hp q
theorem th_0n (hn : s1.length = n) (hp : PC s1) (q : Q (.hnd n) 1 (s1 ++ [.lst []])) : Thaw Q (.lst []) 2 (s1 ++ []) := thaw0 (ns := []) hn hp q
theorem th_1 {ns : List Int} (hn : s1.length = n) (hp : PC s1) (hc : plC c0) (q : Q (.hnd (n + 1)) 1 (s1 ++ [c0, .lst (ns.map .int)])) : Thaw Q (.lst (ns.map .int)) 2 (s1 ++ [c0]) := thawk hn hp (.cons hc .nil) rfl q
theorem th_2 {ns : List Int} (hn : s1.length = n) (hp : PC s1) (hc : plC c0) (hc1 : plC c1) (q : Q (.hnd (n + 2)) 1 (s1 ++ [c0, c1, .lst (ns.map .int)])) : Thaw Q (.lst (ns.map .int)) 2 (s1 ++ [c0, c1]) := thawk hn hp (.cons hc (.cons hc1 .nil)) rfl q
theorem th_3 {ns : List Int} (hn : s1.length = n) (hp : PC s1) (hc : plC c0) (hc1 : plC c1) (hc2 : plC c2) (q : Q (.hnd (n + 3)) 1 (s1 ++ [c0, c1, c2, .lst (ns.map .int)])) : Thaw Q (.lst (ns.map .int)) 2 (s1 ++ [c0, c1, c2]) := thawk hn hp (.cons hc (.cons hc1 (.cons hc2 .nil))) rfl q
theorem we_lstH {loc : Loc} {as : EvA} (q : WA as ⟨loc, s⟩ fun ds s1 => ds.length ≤ sizeLine ∧ Q (.hnd s1.length) 1 (s1 ++ [.lst ds])) : WE (eLstH as) ⟨loc, s⟩ Q := by
  obtain ⟨ds, s1, e1, h, k⟩ := q
  exact ⟨_, _, _, by unfold eLstH; simp only [e1, R.bind_ok, if_pos h], k⟩
/-- a new list of ints as a cell -/
theorem we_lstH0 {loc : Loc} (hn : s1.length = n) (q : Q (.hnd n) 1 (s1 ++ [.lst []])) : WE (eLstH aNilE) ⟨loc, s1 ++ []⟩ Q := by
  refine ⟨.hnd n, 1, s1 ++ [.lst []], ?_, q⟩
  unfold eLstH aNilE; simp [hn]
theorem we_lstH1 {loc : Loc} (hn : s1.length = n) (q : Q (.hnd (n + 1)) 1 (s1 ++ [c0, .lst []])) : WE (eLstH aNilE) ⟨loc, s1 ++ [c0]⟩ Q := by
  refine ⟨.hnd (n + 1), 1, s1 ++ [c0, .lst []], ?_, q⟩
  unfold eLstH aNilE; simp [hn]
theorem we_lstH2 {loc : Loc} (hn : s1.length = n) (q : Q (.hnd (n + 2)) 1 (s1 ++ [c0, c1, .lst []])) : WE (eLstH aNilE) ⟨loc, s1 ++ [c0, c1]⟩ Q := by
  refine ⟨.hnd (n + 2), 1, s1 ++ [c0, c1, .lst []], ?_, q⟩
  unfold eLstH aNilE; simp [hn]
/-! ### items of a list that changes -/
theorem ws_setix {loc : Loc} {v o i : EvE} {QS : RS → Prop} (q : WE v ⟨loc, s⟩ fun x _ s1 => WE o ⟨loc, s1⟩ fun y _ s2 => WE i ⟨loc, s2⟩ fun z _ s3 => ∃ h k ds j, y = .hnd h ∧ z = .int k ∧ rd s3 h = .lst ds ∧ ixN ds.length k = some j ∧ QS (.nx ⟨loc, s3.set h (.lst (ds.set j x))⟩)) : WS (sSetIx v o i) ⟨loc, s⟩ QS := by
  obtain ⟨x, l1, s1, e1, y, l2, s2, e2, z, l3, s3, e3, h, k, ds, j, rfl, rfl, h1, h2, q⟩ := q
  unfold WS sSetIx
  simp only [e1, e2, e3, R.toS_ok, h1, h2]
  exact q
theorem we_mut {loc : Loc} {g : D → List D → Option (D × D)} {o : EvE} {as : EvA} (q : WE o ⟨loc, s⟩ fun x _ s1 => ∃ h ds, x = .hnd h ∧ rd s1 h = .lst ds ∧ WA as ⟨loc, s1⟩ fun xs s2 => ∃ r c, g (rd s2 h) xs = some (r, c) ∧ Q r 0 (s2.set h c)) : WE (eMut g o as) ⟨loc, s⟩ Q := by
  obtain ⟨x, l, s1, e1, h, ds, rfl, h1, xs, s2, e2, r, c, h2, q⟩ := q
  exact ⟨_, _, _, mut_h e1 h1 e2 h2, q⟩
/-- append of an int to the cell h of the frame -/
theorem we_app {loc : Loc} {o a : EvE} (q : WE o ⟨loc, s⟩ fun x _ s1 => WE a ⟨loc, s1⟩ fun y _ s2 => ∃ h ns z, x = .hnd h ∧ y = .int z ∧ rd s1 h = .lst (ns.map .int) ∧ rd s2 h = .lst (ns.map .int) ∧ ns.length < sizeLine ∧ Q .non 0 (s2.set h (.lst ((ns ++ [z]).map .int)))) : WE (eMut mAppend o (aConsE a aNilE)) ⟨loc, s⟩ Q := by
  obtain ⟨x, l, s1, e1, y, l2, s2, e2, h, ns, z, rfl, rfl, h1, h2, h3, q⟩ := q
  refine we_mut ⟨_, _, _, e1, _, _, rfl, h1, ?_⟩
  refine wa_cons ⟨_, _, _, e2, wa_nil ⟨.non, _, ?_, q⟩⟩
  rw [h2, app_l (by simpa using h3)]
  simp
/-! ### operators -/
section
variable {i j : Int} {v w : Bool} {ns ms : List Int}
theorem wo {o : Option (D × Nat)} (e : o = some (d, l)) (q : Q d l s) : WO o s Q := ⟨_, _, e, q⟩
theorem wo_add (q : Q (.int (i + j)) 0 s) : WO (gAdd s (.int i) (.int j)) s Q := ⟨_, _, gAdd_i, q⟩
theorem wo_addI (q : Q (.int (i + j)) 0 s) : WO (gAddI s (.int i) (.int j)) s Q := ⟨_, _, by unfold gAddI gI; simp, q⟩
theorem wo_sub (q : Q (.int (i - j)) 0 s) : WO (gSub s (.int i) (.int j)) s Q := ⟨_, _, gSub_i, q⟩
theorem wo_mul (h1 : sz i) (h2 : sz j) (q : Q (.int (i * j)) 0 s) : WO (gMul s (.int i) (.int j)) s Q := ⟨_, _, gMul_i h1 h2, q⟩
theorem wo_div (h1 : 0 < j) (h2 : j.natAbs.log2 < 9000) (q : Q (.int (i / j)) 0 s) : WO (gDiv s (.int i) (.int j)) s Q := ⟨_, _, gDiv_i h1 h2, q⟩
theorem wo_mod (h1 : 0 < j) (q : Q (.int (i % j)) 0 s) : WO (gMod s (.int i) (.int j)) s Q := ⟨_, _, gMod_i h1, q⟩
theorem wo_pow (h1 : 0 ≤ j) (h2 : j ≤ 100) (h3 : szP i) (q : Q (.int (i ^ j.toNat)) 0 s) : WO (gPow s (.int i) (.int j)) s Q := ⟨_, _, gPow_i h1 h2 h3, q⟩
theorem wo_lt (q : Q (.bl (decide (i < j))) 0 s) : WO (gLt s (.int i) (.int j)) s Q := ⟨_, _, gLt_i, q⟩
theorem wo_le (q : Q (.bl (decide (i ≤ j))) 0 s) : WO (gLe s (.int i) (.int j)) s Q := ⟨_, _, gLe_i, q⟩
theorem wo_gt (q : Q (.bl (decide (j < i))) 0 s) : WO (gGt s (.int i) (.int j)) s Q := ⟨_, _, gGt_i, q⟩
theorem wo_ge (q : Q (.bl (decide (j ≤ i))) 0 s) : WO (gGe s (.int i) (.int j)) s Q := ⟨_, _, gGe_i, q⟩
theorem wo_eqi (q : Q (.bl (decide (i = j))) 0 s) : WO (gEq false s (.int i) (.int j)) s Q := ⟨_, _, gEq_i, q⟩
theorem wo_nei (q : Q (.bl (!decide (i = j))) 0 s) : WO (gEq true s (.int i) (.int j)) s Q := ⟨_, _, gNe_i, q⟩
theorem wo_eqb (q : Q (.bl (decide (v = w))) 0 s) : WO (gEq false s (.bl v) (.bl w)) s Q := ⟨_, _, gEq_b, q⟩
theorem gNe_b : gEq true s (.bl v) (.bl w) = some (.bl (!decide (v = w)), 0) := by
  unfold gEq
  simp [shaped_bl, PyData.eqv, Bool.beq_eq_decide_eq]
theorem wo_neb (q : Q (.bl (!decide (v = w))) 0 s) : WO (gEq true s (.bl v) (.bl w)) s Q := ⟨_, _, gNe_b, q⟩
theorem wo_eql (h1 : vw s x = .lst (ns.map .int)) (h2 : vw s y = .lst (ms.map .int)) (q : Q (.bl (decide (ns = ms))) 0 s) : WO (gEq false s x y) s Q := ⟨_, _, gEq_l h1 h2, q⟩
theorem wo_nel (h1 : vw s x = .lst (ns.map .int)) (h2 : vw s y = .lst (ms.map .int)) (q : Q (.bl (!decide (ns = ms))) 0 s) : WO (gEq true s x y) s Q := ⟨_, _, gNe_l h1 h2, q⟩
theorem wo_addl (h1 : vw s x = .lst (ns.map .int)) (h2 : vw s y = .lst (ms.map .int)) (hz : ns.length + ms.length ≤ 16777216) (q : Q (.lst ((ns ++ ms).map .int)) 2 s) : WO (gAdd s x y) s Q :=
  ⟨_, _, by rw [gAdd_l h1 h2 (by rw [size_eq]; simpa using hz), List.map_append], q⟩
theorem gMul_l (h1 : vw s x = .lst (ns.map .int)) (h2 : -(2 ^ 63) ≤ j) (h3 : j < 2 ^ 63) (hz : ns.length * j.toNat ≤ sizeLine) : gMul s x (.int j) = some (.lst ((List.replicate j.toNat ns).flatten.map .int), 2) := by
  unfold gMul gOr
  have e : gMulI s x (.int j) = none := by cases x <;> first | rfl | (cases h1)
  rw [e]
  unfold gMulL
  simp only [h1]
  rw [if_pos ⟨h2, h3, by simpa using hz⟩]
  simp [List.map_flatten]
theorem wo_mull (h1 : vw s x = .lst (ns.map .int)) (h2 : -(2 ^ 63) ≤ j) (h3 : j < 2 ^ 63) (hz : ns.length * j.toNat ≤ 16777216) (q : Q (.lst ((List.replicate j.toNat ns).flatten.map .int)) 2 s) : WO (gMul s x (.int j)) s Q := ⟨_, _, gMul_l h1 h2 h3 (by rw [size_eq]; exact hz), q⟩
theorem wo_mulD {ds : List D} (h1 : vw s x = .lst ds) (h2 : -(2 ^ 63) ≤ j) (h3 : j < 2 ^ 63) (hz : ds.length * j.toNat ≤ 16777216) (q : Q (.lst (List.replicate j.toNat ds).flatten) 2 s) : WO (gMul s x (.int j)) s Q := by
  refine ⟨_, _, ?_, q⟩
  unfold gMul gOr
  have e : gMulI s x (.int j) = none := by cases x <;> first | rfl | (cases h1)
  rw [e]
  unfold gMulL
  simp only [h1]
  rw [if_pos ⟨h2, h3, by rw [size_eq]; exact hz⟩]
theorem wo_addD {as bs : List D} (h1 : vw s x = .lst as) (h2 : vw s y = .lst bs) (hz : as.length + bs.length ≤ 16777216) (q : Q (.lst (as ++ bs)) 2 s) : WO (gAdd s x y) s Q :=
  ⟨_, _, gAdd_l h1 h2 (by rw [size_eq]; exact hz), q⟩
theorem wo_isn (q : Q (.bl (isNon x)) 0 s) : WO (gIsA false s x .non) s Q := ⟨_, _, by unfold gIsA gOr gIsN; rfl, q⟩
theorem wo_isnn (q : Q (.bl (!isNon x)) 0 s) : WO (gIsA true s x .non) s Q := ⟨_, _, by unfold gIsA gOr gIsN; rfl, q⟩
theorem wo_isn_i (q : Q (.bl false) 0 s) : WO (gIsA false s (.int i) .non) s Q := wo_isn q
theorem wo_isnn_i (q : Q (.bl (!false)) 0 s) : WO (gIsA true s (.int i) .non) s Q := wo_isnn q
theorem wo_isn_b (q : Q (.bl false) 0 s) : WO (gIsA false s (.bl v) .non) s Q := wo_isn q
theorem wo_isnn_b (q : Q (.bl (!false)) 0 s) : WO (gIsA true s (.bl v) .non) s Q := wo_isnn q
theorem wo_isn_l (q : Q (.bl false) 0 s) : WO (gIsA false s (.lst ds) .non) s Q := wo_isn q
theorem wo_isnn_l (q : Q (.bl (!false)) 0 s) : WO (gIsA true s (.lst ds) .non) s Q := wo_isnn q
theorem wo_isn_t (q : Q (.bl false) 0 s) : WO (gIsA false s (.tup ds) .non) s Q := wo_isn q
theorem wo_isnn_t (q : Q (.bl (!false)) 0 s) : WO (gIsA true s (.tup ds) .non) s Q := wo_isnn q
theorem wo_isn_h (q : Q (.bl false) 0 s) : WO (gIsA false s (.hnd n) .non) s Q := wo_isn q
theorem wo_isnn_h (q : Q (.bl (!false)) 0 s) : WO (gIsA true s (.hnd n) .non) s Q := wo_isnn q
theorem wo_isn_n (q : Q (.bl true) 0 s) : WO (gIsA false s .non .non) s Q := wo_isn q
theorem wo_isnn_n (q : Q (.bl (!true)) 0 s) : WO (gIsA true s .non .non) s Q := wo_isnn q
theorem wo_isb (q : Q (.bl (decide (v = w))) 0 s) : WO (gIsA false s (.bl v) (.bl w)) s Q := ⟨_, _, by unfold gIsA gOr gIsN gIs; rfl, q⟩
theorem wo_isnb (q : Q (.bl (!decide (v = w))) 0 s) : WO (gIsA true s (.bl v) (.bl w)) s Q := ⟨_, _, by unfold gIsA gOr gIsN gIs; rfl, q⟩
/-- an item of a list of ints -/
theorem wo_ix {z : Int} (h1 : vw s x = .lst (ns.map .int)) (h2 : atI ns j = some z) (q : Q (.int z) 0 s) : WO (gIx s x (.int j)) s Q := ⟨_, _, gIx_l h1 (atI_map h2), q⟩
theorem wo_ixany (h1 : vw s x = .lst (ns.map .int)) (h2 : 0 ≤ j) (h3 : j < ns.length) (q : ∀ z, z ∈ ns → ns[j.toNat]? = some z → Q (.int z) 0 s) : WO (gIx s x (.int j)) s Q := by
  have hj : j.toNat < ns.length := by omega
  have e : atI ns j = some ns[j.toNat] := by
    have := atI_nat (xs := ns) (j := j.toNat) (List.getElem?_eq_getElem hj)
    rwa [Int.toNat_of_nonneg h2] at this
  exact wo_ix h1 e (q _ (List.getElem_mem hj) (List.getElem?_eq_getElem hj))
theorem wo_ixD {z : D} (h1 : vw s x = .lst ds) (h2 : atI ds j = some z) (q : Q z 0 s) : WO (gIx s x (.int j)) s Q := ⟨_, _, gIx_l h1 h2, q⟩
theorem wo_ixscr {z : Int} (h2 : atI ns j = some z) (q : Q (.int z) 0 s) : WO (gIx s (.scr ns) (.int j)) s Q := ⟨_, _, by unfold gIx; simp [h2], q⟩
/-! ### built-in functions -/
theorem wn_len (h1 : vw s x = .lst ds) (q : Q (.int ds.length) 0 s) : WO (nLen s [x]) s Q := ⟨_, _, nLen_l h1, q⟩
theorem wn_leni (h1 : vw s x = .lst (ns.map .int)) (q : Q (.int ns.length) 0 s) : WO (nLen s [x]) s Q := ⟨_, _, by rw [nLen_l h1, List.length_map], q⟩
theorem wn_lens (q : Q (.int ns.length) 0 s) : WO (nLen s [.scr ns]) s Q := ⟨_, _, nLen_scr, q⟩
theorem wn_sum (h1 : vw s x = .lst (ns.map .int)) (q : Q (.int ns.sum) 0 s) : WO (nSum s [x]) s Q := ⟨_, _, nSum_l h1, q⟩
theorem wn_max2 (q : Q (.int (max i j)) 0 s) : WO (nMax2 s [.int i, .int j]) s Q := ⟨_, _, rfl, q⟩
theorem wn_min2 (q : Q (.int (min i j)) 0 s) : WO (nMin2 s [.int i, .int j]) s Q := ⟨_, _, rfl, q⟩
theorem wn_abs (q : Q (.int i.natAbs) 0 s) : WO (nAbs s [.int i]) s Q := ⟨_, _, rfl, q⟩
theorem wn_divmod (h1 : 0 < j) (h2 : j.natAbs.log2 < 9000) (q : Q (.tup [.int (i / j), .int (i % j)]) 2 s) : WO (nDivmod s [.int i, .int j]) s Q := ⟨_, _, by unfold nDivmod; simp [h1, h2], q⟩
theorem wn_int (q : Q (.int i) 0 s) : WO (nInt s [.int i]) s Q := ⟨_, _, rfl, q⟩
theorem wn_intb (q : Q (.int (if v = true then 1 else 0)) 0 s) : WO (nInt s [.bl v]) s Q := ⟨_, _, rfl, q⟩
theorem wn_min (h1 : vw s x = .lst (ns.map .int)) (h2 : leastOf ns = some i) (q : Q (.int i) 0 s) : WO (nMinL s [x]) s Q := ⟨_, _, by unfold nMinL nIntsOf; simp [h1, ofInts_map, h2], q⟩
theorem wn_max (h1 : vw s x = .lst (ns.map .int)) (h2 : mostOf ns = some i) (q : Q (.int i) 0 s) : WO (nMaxL s [x]) s Q := ⟨_, _, by unfold nMaxL nIntsOf; simp [h1, ofInts_map, h2], q⟩
theorem wn_all {bs : List Bool} (h1 : vw s x = .lst (bs.map .bl)) (q : Q (.bl (bs.all id)) 0 s) : WO (nAll s [x]) s Q := ⟨_, _, by unfold nAll nBlsOf; simp [h1, ofBls_map], q⟩
theorem wn_ii (q : Q (.bl true) 0 s) : WO (nIsi s [.int i, .ty "int"]) s Q := ⟨_, _, isi_ii, q⟩
theorem wn_ib (q : Q (.bl false) 0 s) : WO (nIsi s [.int i, .ty "bool"]) s Q := ⟨_, _, isi_ib, q⟩
theorem wn_lt (h1 : vw s x = .lst ds) (q : Q (.bl false) 0 s) : WO (nIsi s [x, .ty "tuple"]) s Q := ⟨_, _, isi_lt h1, q⟩
theorem wn_il (q : Q (.bl false) 0 s) : WO (nIsi s [.int i, .ty "list"]) s Q := ⟨_, _, isi_il, q⟩
theorem wn_it (q : Q (.bl false) 0 s) : WO (nIsi s [.int i, .ty "tuple"]) s Q := ⟨_, _, isi_it, q⟩
theorem wn_is (q : Q (.bl false) 0 s) : WO (nIsi s [.int i, .ty "str"]) s Q := ⟨_, _, isi_is, q⟩
theorem wn_bl (q : Q (.bl false) 0 s) : WO (nIsi s [.bl v, .ty "list"]) s Q := ⟨_, _, isi_bl, q⟩
theorem wn_bt (q : Q (.bl false) 0 s) : WO (nIsi s [.bl v, .ty "tuple"]) s Q := ⟨_, _, isi_bt, q⟩
theorem wn_bb (q : Q (.bl true) 0 s) : WO (nIsi s [.bl v, .ty "bool"]) s Q := ⟨_, _, isi_bb, q⟩
theorem wn_bs (q : Q (.bl false) 0 s) : WO (nIsi s [.bl v, .ty "str"]) s Q := ⟨_, _, isi_bs, q⟩
theorem wn_ll (h1 : vw s x = .lst ds) (q : Q (.bl true) 0 s) : WO (nIsi s [x, .ty "list"]) s Q := ⟨_, _, isi_ll h1, q⟩
end
end
end FX

set_option Elab.async false
set_option linter.all false
set_option maxRecDepth 100000
namespace FX
open PySem PySem.Spec PyProof.Rows L2
open Classical
/-- a comprehension with a test -/
theorem comp_fltE {G : Sto → Prop} {asg : Asg} {cond : EvT} {el : EvE} {loc : List (Option (D × Bool))} {s : Sto} (p : D → Bool) (f : D → D) : ∀ (ds acc : List D), G s → acc.length + ds.length ≤ sizeLine →
    (∀ d ∈ ds, ∃ e1, asg d ⟨loc, s⟩ = some e1 ∧ e1.sto = s ∧ cond e1 = .ok (p d) s ∧ (p d = true → ∃ l, el e1 = .ok (f d, l) s)) → compL G asg cond el loc ds acc s = .ok (acc ++ (ds.filter p).map f) s
  | [], acc, hG, _, _ => by unfold compL; rw [if_pos hG]; simp
  | d :: ds, acc, hG, hz, h => by
    obtain ⟨e1, h1, h2, h3, h4⟩ := h d (by simp)
    unfold compL
    rw [if_pos hG, h1]
    simp only [h3, R.bindN_ok]
    simp only [List.length_cons] at hz
    by_cases hp : p d = true
    · obtain ⟨l, h4⟩ := h4 hp
      rw [if_pos hp, show (⟨e1.loc, s⟩ : En) = e1 from by rw [← h2], h4]
      simp only [R.bindN_ok]
      rw [if_pos (by omega), comp_fltE p f ds (acc ++ [f d]) hG (by simp; omega) fun d' hd => h d' (List.mem_cons_of_mem _ hd)]
      simp [hp]
    · rw [if_neg hp, comp_fltE p f ds acc hG (by omega) fun d' hd => h d' (List.mem_cons_of_mem _ hd)]
      simp [hp]
section
variable {loc loc' : Loc} {s s' s1 : Sto} {cs : List D} {i n k h x : Nat} {d : D} {l : Nat} {a b c : EvE} {as : EvA} {t u : EvT} {ds : List D} {Q : QE} {QS : RS → Prop} {body : EvS} {asg : Asg} {it : EvI} {G : Sto → Prop}
/-! ### loops -/
def ForW (ds : List D) (G : Sto → Prop) (asg : Asg) (body : EvS) (loc : Loc) (s : Sto) (QS : RS → Prop) : Prop := QS (loopS G asg body ds ⟨loc, s⟩)
theorem ws_for (q : WI it ⟨loc, s⟩ fun ds G s1 => ForW ds G asg body loc s1 QS) : WS (sFor it asg body) ⟨loc, s⟩ QS := by
  obtain ⟨ds, G, s1, e, q⟩ := q
  unfold WS sFor; rw [e]; exact q
theorem for_run (I : Nat → Loc → Sto → Prop) : ∀ (ds : List D) (k : Nat) (loc : Loc) (s : Sto), I k loc s → (∀ i loc s, k ≤ i → i ≤ k + ds.length → I i loc s → G s) →
    (∀ i d loc s, ds[i]? = some d → I (k + i) loc s → ∃ e1, asg d ⟨loc, s⟩ = some e1 ∧ WS body e1 (Turn QS (I (k + i + 1)))) →
    (∀ loc s, I (k + ds.length) loc s → QS (.nx ⟨loc, s⟩)) → ForW ds G asg body loc s QS
  | [], k, loc, s, h, hG, _, fin => by unfold ForW loopS; rw [if_pos (hG k loc s (Nat.le_refl _) (Nat.le_add_right _ _) h)]; exact fin _ _ h
  | d :: ds, k, loc, s, h, hG, st, fin => by
    obtain ⟨e1, h1, h2⟩ := st 0 d loc s rfl h
    have ih := fun loc s h => for_run I ds (k + 1) loc s h (fun i l s a b => hG i l s (by omega) (by simp; omega)) (fun i d' l s hd hi => by
      have := st (i + 1) d' l s (by simpa using hd) (by rw [show k + (i + 1) = k + 1 + i by omega]; exact hi)
      rw [show k + (i + 1) + 1 = k + 1 + i + 1 by omega] at this
      exact this) (fun l s q => fin l s (by rw [show k + (d :: ds).length = k + 1 + ds.length by simp; omega]; exact q))
    unfold ForW loopS
    rw [if_pos (hG k loc s (Nat.le_refl _) (Nat.le_add_right _ _) h)]
    simp only [h1]
    unfold WS at h2
    cases r : body e1 with
    | nx e => rw [r] at h2; exact ih e.loc e.sto h2
    | cnt e => rw [r] at h2; exact ih e.loc e.sto h2
    | brk e => rw [r] at h2; exact h2
    | ret d l s => rw [r] at h2; exact h2
    | exc C f e => rw [r] at h2; exact h2
    | bad => rw [r] at h2; exact h2.elim
theorem for_all (I : Nat → Loc → Sto → Prop) (h0 : I 0 loc s) (hG : ∀ i loc s, i ≤ ds.length → I i loc s → G s)
    (st : ∀ i d loc s, ds[i]? = some d → I i loc s → ∃ e1, asg d ⟨loc, s⟩ = some e1 ∧ WS body e1 (Turn QS (I (i + 1))))
    (fin : ∀ loc s, I ds.length loc s → QS (.nx ⟨loc, s⟩)) : ForW ds G asg body loc s QS :=
  for_run I ds 0 loc s h0 (fun i l s _ b => hG i l s (by omega)) (fun i d l s hd hi => by
    rw [Nat.zero_add] at hi ⊢
    exact st i d l s hd hi) (fun l s q => fin l s (by rwa [Nat.zero_add] at q))
/-- for x in a list of ints -/
theorem for_ints {ns : List Int} (I : Nat → Loc → Sto → Prop) (h0 : I 0 loc s) (hG : ∀ i loc s, i ≤ ns.length → I i loc s → G s)
    (st : ∀ i z loc s, ns[i]? = some z → I i loc s → WS body ⟨loc.set x (some (.int z, false)), s⟩ (Turn QS (I (i + 1))))
    (fin : ∀ loc s, I ns.length loc s → QS (.nx ⟨loc, s⟩)) : ForW (ns.map .int) G (aName x) body loc s QS :=
  for_all I h0 (fun i l s h => hG i l s (by simpa using h)) (fun i d l s hd hi => by
    rw [List.getElem?_map] at hd
    obtain ⟨n, hn, rfl⟩ := Option.map_eq_some_iff.mp hd
    exact ⟨_, rfl, st i n l s hn hi⟩) (fun l s q => fin l s (by simpa using q))
/-- for x in range(..) -/
theorem for_rng {lo : Int} (I : Nat → Loc → Sto → Prop) (h0 : I 0 loc s) (hG : ∀ i loc s, i ≤ n → I i loc s → G s)
    (st : ∀ (i : Nat) loc s, i < n → I i loc s → WS body ⟨loc.set x (some (.int (lo + i), false)), s⟩ (Turn QS (I (i + 1))))
    (fin : ∀ loc s, I n loc s → QS (.nx ⟨loc, s⟩)) : ForW (rangeD lo n) G (aName x) body loc s QS := by
  have := for_ints (ns := (List.range n).map fun k : Nat => lo + (k : Nat)) (G := G) (x := x) (body := body) (loc := loc) (s := s) (QS := QS) I h0 (fun i l s h => hG i l s (by simpa using h)) (fun i z l s hz hi => by
    rw [List.getElem?_map] at hz
    obtain ⟨m, hm, rfl⟩ := Option.map_eq_some_iff.mp hz
    obtain ⟨hi', hk'⟩ := List.getElem?_eq_some_iff.mp hm
    rw [List.getElem_range] at hk'
    subst hk'
    exact st i l s (by simpa using hi') hi) (fun l s q => fin l s (by simpa using q))
  rwa [List.map_map] at this
theorem for_rngDn {lo : Int} (I : Nat → Loc → Sto → Prop) (h0 : I 0 loc s) (hG : ∀ i loc s, i ≤ n → I i loc s → G s)
    (st : ∀ (i : Nat) loc s, i < n → I i loc s → WS body ⟨loc.set x (some (.int (lo - i), false)), s⟩ (Turn QS (I (i + 1))))
    (fin : ∀ loc s, I n loc s → QS (.nx ⟨loc, s⟩)) : ForW (rangeDn lo n) G (aName x) body loc s QS := by
  have := for_ints (ns := (List.range n).map fun k : Nat => lo + (k : Nat) * (-1)) (G := G) (x := x) (body := body) (loc := loc) (s := s) (QS := QS) I h0 (fun i l s h => hG i l s (by simpa using h)) (fun i z l s hz hi => by
    rw [List.getElem?_map] at hz
    obtain ⟨m, hm, rfl⟩ := Option.map_eq_some_iff.mp hz
    obtain ⟨hi', hk'⟩ := List.getElem?_eq_some_iff.mp hm
    rw [List.getElem_range] at hk'
    subst hk'
    rw [show lo + ((i : Nat) : Int) * (-1) = lo - i by omega]
    exact st i l s (by simpa using hi') hi) (fun l s q => fin l s (by simpa using q))
  rwa [List.map_map] at this
theorem ws_pre (h : loc.set x (some (d, false)) = loc') (q : WS body ⟨loc', s⟩ QS) : WS body ⟨loc.set x (some (d, false)), s⟩ QS := by rw [h]; exact q
/-! ### what is walked -/
theorem wi_seq {QI : List D → (Sto → Prop) → Sto → Prop} (q : WE a ⟨loc, s⟩ fun x _ s1 => ∃ ds, vw s1 x = .lst ds ∧ QI ds (fun s => vw s x = .lst ds) s1) : WI (itSeq a) ⟨loc, s⟩ QI := by
  obtain ⟨x, l, s1, e, ds, h, q⟩ := q
  exact ⟨_, _, _, by unfold itSeq; simp only [e, R.bind_ok, h], q⟩
theorem wi_range {QI : List D → (Sto → Prop) → Sto → Prop} (q : WA as ⟨loc, s⟩ fun ds s1 => ∃ j : Int, ds = [.int j] ∧ (-(2 ^ 62) ≤ j ∧ j < 2 ^ 62) ∧ QI (rangeD 0 j.toNat) (fun _ => True) s1) : WI (itRange as) ⟨loc, s⟩ QI := by
  obtain ⟨ds, s1, e, j, rfl, h, q⟩ := q
  exact ⟨_, _, _, by unfold itRange; simp only [e, R.bind_ok, if_pos h], q⟩
theorem wi_range2 {QI : List D → (Sto → Prop) → Sto → Prop} (q : WA as ⟨loc, s⟩ fun ds s1 => ∃ i j : Int, ds = [.int i, .int j] ∧ (-(2 ^ 62) ≤ i ∧ i < 2 ^ 62 ∧ -(2 ^ 62) ≤ j ∧ j < 2 ^ 62) ∧ QI (rangeD i (j - i).toNat) (fun _ => True) s1) : WI (itRange2 as) ⟨loc, s⟩ QI := by
  obtain ⟨ds, s1, e, i, j, rfl, h, q⟩ := q
  exact ⟨_, _, _, by unfold itRange2; simp only [e, R.bind_ok, if_pos h], q⟩
theorem wi_rev {QI : List D → (Sto → Prop) → Sto → Prop} (q : WA as ⟨loc, s⟩ fun ds s1 => ∃ x xs, ds = [x] ∧ vw s1 x = .lst xs ∧ QI xs.reverse (fun s => vw s x = .lst xs) s1) : WI (itRev as) ⟨loc, s⟩ QI := by
  obtain ⟨ds, s1, e, x, xs, rfl, h, q⟩ := q
  exact ⟨_, _, _, by unfold itRev; simp only [e, R.bind_ok, h], q⟩
theorem wi_zip {QI : List D → (Sto → Prop) → Sto → Prop} (q : WA as ⟨loc, s⟩ fun ds s1 => ∃ x y xs ys, ds = [x, y] ∧ vw s1 x = .lst xs ∧ vw s1 y = .lst ys ∧ QI ((xs.zip ys).map fun p => D.tup [p.1, p.2]) (fun s => vw s x = .lst xs ∧ vw s y = .lst ys) s1) : WI (itZip as) ⟨loc, s⟩ QI := by
  obtain ⟨ds, s1, e, x, y, xs, ys, rfl, h, h2, q⟩ := q
  exact ⟨_, _, _, by unfold itZip; simp only [e, R.bind_ok, h, h2], q⟩
theorem wi_enum {QI : List D → (Sto → Prop) → Sto → Prop} (q : WA as ⟨loc, s⟩ fun ds s1 => ∃ x xs, ds = [x] ∧ vw s1 x = .lst xs ∧ QI (xs.zipIdx.map fun p => D.tup [.int (p.2 : Nat), p.1]) (fun s => vw s x = .lst xs) s1) : WI (itEnum as) ⟨loc, s⟩ QI := by
  obtain ⟨ds, s1, e, x, xs, rfl, h, q⟩ := q
  exact ⟨_, _, _, by unfold itEnum; simp only [e, R.bind_ok, h], q⟩
/-! ### comprehensions -/
def CompW (ds : List D) (G : Sto → Prop) (asg : Asg) (t : EvT) (b : EvE) (loc : Loc) (s : Sto) (Q : QE) : Prop := ∃ acc s', compL G asg t b loc ds [] s = .ok acc s' ∧ Q (.lst acc) 2 s'
theorem we_comp {own : List Nat} (q : WI it ⟨loc, s⟩ fun ds G s1 => CompW ds G asg t b (wipeL loc own) s1 Q) : WE (eComp it asg t b own) ⟨loc, s⟩ Q := by
  obtain ⟨ds, G, s1, e, acc, s', e2, q⟩ := q
  exact ⟨_, _, _, by unfold eComp; simp only [e, R.bind_ok, e2], q⟩
theorem comp_pre (h : loc = loc') (q : CompW ds G asg t b loc' s Q) : CompW ds G asg t b loc s Q := by rw [h]; exact q
/-- [f(x) for x in ns], ints to values -/
theorem comp_ints {ns : List Int} (f : Int → D) (hG : G s) (hz : ns.length ≤ 16777216) (st : ∀ z ∈ ns, WE b ⟨loc.set x (some (.int z, false)), s⟩ fun y _ s2 => y = f z ∧ s2 = s) (q : Q (.lst (ns.map f)) 2 s) : CompW (ns.map .int) G (aName x) cYes b loc s Q := by
  refine ⟨_, _, comp_map (fun d => match d with | .int z => f z | d => d) (ns.map .int) [] hG (by rw [size_eq]; simpa using hz) (fun d hd => ?_), ?_⟩
  · obtain ⟨z, hz, rfl⟩ := List.mem_map.mp hd
    obtain ⟨y, l, s2, e, rfl, rfl⟩ := st z hz
    exact ⟨_, l, rfl, rfl, e⟩
  · simpa [List.map_map, Function.comp_def] using q
/-- [f(x) for x in ns], ints to ints -/
theorem comp_intsI {ns : List Int} (f : Int → Int) (hG : G s) (hz : ns.length ≤ 16777216) (st : ∀ z ∈ ns, WE b ⟨loc.set x (some (.int z, false)), s⟩ fun y _ s2 => y = .int (f z) ∧ s2 = s) (q : Q (.lst ((ns.map f).map .int)) 2 s) : CompW (ns.map .int) G (aName x) cYes b loc s Q :=
  comp_ints (fun z => .int (f z)) hG hz st (by rw [List.map_map] at q; exact q)
/-- [f(x) for x in ns if p(x)] -/
theorem comp_intsF {ns : List Int} (p : Int → Bool) (f : Int → D) (hG : G s) (hz : ns.length ≤ 16777216) (st : ∀ z ∈ ns, WT t ⟨loc.set x (some (.int z, false)), s⟩ (fun v s2 => v = p z ∧ s2 = s) ∧ (p z = true → WE b ⟨loc.set x (some (.int z, false)), s⟩ fun y _ s2 => y = f z ∧ s2 = s)) (q : Q (.lst ((ns.filter p).map f)) 2 s) : CompW (ns.map .int) G (aName x) t b loc s Q := by
  refine ⟨_, _, comp_fltE (fun d => match d with | .int z => p z | _ => false) (fun d => match d with | .int z => f z | d => d) (ns.map .int) [] hG (by rw [size_eq]; simpa using hz) (fun d hd => ?_), ?_⟩
  · obtain ⟨z, hz, rfl⟩ := List.mem_map.mp hd
    obtain ⟨⟨v, s2, e, rfl, rfl⟩, k⟩ := st z hz
    refine ⟨_, rfl, rfl, e, fun hp => ?_⟩
    obtain ⟨y, l, s2, e, rfl, rfl⟩ := k hp
    exact ⟨l, e⟩
  · have : ((ns.map D.int).filter fun d => match d with | .int z => p z | _ => false) = (ns.filter p).map .int := by
      rw [List.filter_map]; rfl
    simpa [this, List.map_map, Function.comp_def] using q
theorem comp_intsFI {ns : List Int} (p : Int → Bool) (f : Int → Int) (hG : G s) (hz : ns.length ≤ 16777216) (st : ∀ z ∈ ns, WT t ⟨loc.set x (some (.int z, false)), s⟩ (fun v s2 => v = p z ∧ s2 = s) ∧ (p z = true → WE b ⟨loc.set x (some (.int z, false)), s⟩ fun y _ s2 => y = .int (f z) ∧ s2 = s)) (q : Q (.lst (((ns.filter p).map f).map .int)) 2 s) : CompW (ns.map .int) G (aName x) t b loc s Q :=
  comp_intsF p (fun z => .int (f z)) hG hz st (by rw [List.map_map] at q; exact q)
/-- with a test, over anything -/
theorem comp_F (p : D → Bool) (f : D → D) (hG : G s) (hz : ds.length ≤ 16777216) (st : ∀ d ∈ ds, ∃ e1, asg d ⟨loc, s⟩ = some e1 ∧ e1.sto = s ∧ WT t e1 (fun v s2 => v = p d ∧ s2 = s) ∧ (p d = true → WE b e1 fun y _ s2 => y = f d ∧ s2 = s)) (q : Q (.lst ((ds.filter p).map f)) 2 s) : CompW ds G asg t b loc s Q := by
  refine ⟨_, _, comp_fltE p f ds [] hG (by rw [size_eq]; simpa using hz) (fun d hd => ?_), by simpa using q⟩
  obtain ⟨e1, h1, h2, ⟨v, s2, e, rfl, rfl⟩, k⟩ := st d hd
  refine ⟨e1, h1, h2, e, fun hp => ?_⟩
  obtain ⟨y, l, s3, e', rfl, rfl⟩ := k hp
  exact ⟨l, e'⟩
/-- over anything, by place -/
theorem comp_any (I : Nat → List D → Sto → Prop) (h0 : I 0 [] s) (hG : ∀ i acc s, I i acc s → G s) (hz : ds.length ≤ 16777216)
    (st : ∀ i d acc s, ds[i]? = some d → I i acc s → acc.length = i → ∃ e1, asg d ⟨loc, s⟩ = some e1 ∧ e1.sto = s ∧ WE b e1 fun y _ s' => I (i + 1) (acc ++ [y]) s')
    (q : ∀ acc s', I ds.length acc s' → acc.length = ds.length → Q (.lst acc) 2 s') : CompW ds G asg cYes b loc s Q := by
  obtain ⟨acc, s', e, h⟩ := comp_inv (G := G) (asg := asg) (el := b) (loc := loc) (fun i acc s => I i acc s ∧ acc.length = i) (fun i acc s h => hG i acc s h.1) ds 0 [] s ⟨h0, rfl⟩ (fun i d acc s hd h => by
    rw [Nat.zero_add] at h ⊢
    obtain ⟨e1, h1, h2, y, l, s', h3, h4⟩ := st i d acc s hd h.1 h.2
    have := (List.getElem?_eq_some_iff.mp hd).1
    exact ⟨e1, y, l, s', h1, h2, h3, by rw [size_eq]; omega, h4, by simp [h.2]⟩)
  rw [Nat.zero_add] at h
  exact ⟨acc, s', e, q acc s' h.1 h.2⟩
/-! ### while -/
theorem ws_while {t : EvT} (I : Nat → Loc → Sto → Prop) (h0 : I n loc s)
    (st : ∀ m loc s, I m loc s → WT t ⟨loc, s⟩ fun v s1 => Cond v (WS body ⟨loc, s1⟩ (Turn QS fun l s => ∃ m', m' < m ∧ I m' l s)) (QS (.nx ⟨loc, s1⟩))) : WS (sWhile t body) ⟨loc, s⟩ QS := by
  have key : ∀ n loc s, I n loc s → ∃ k, whileS t body k ⟨loc, s⟩ ≠ .bad ∧ QS (whileS t body k ⟨loc, s⟩) ∨ False := by
    intro n
    induction n using Nat.strongRecOn with
    | _ n ih =>
      intro loc s h
      obtain ⟨v, s1, e, k1, k2⟩ := st n loc s h
      cases v with
      | false => exact ⟨1, .inl (by unfold whileS; rw [e]; exact ⟨fun z => (nomatch z), k2 rfl⟩)⟩
      | true =>
        have k := k1 rfl
        unfold WS at k
        cases r : body ⟨loc, s1⟩ with
        | nx e' =>
          rw [r] at k
          obtain ⟨m', hm, hI⟩ := k
          obtain ⟨j, hj | hj⟩ := ih m' hm e'.loc e'.sto hI
          · exact ⟨j + 1, .inl (by unfold whileS; rw [e]; simp only [R.toS_ok, if_true, r]; exact hj)⟩
          · exact hj.elim
        | cnt e' =>
          rw [r] at k
          obtain ⟨m', hm, hI⟩ := k
          obtain ⟨j, hj | hj⟩ := ih m' hm e'.loc e'.sto hI
          · exact ⟨j + 1, .inl (by unfold whileS; rw [e]; simp only [R.toS_ok, if_true, r]; exact hj)⟩
          · exact hj.elim
        | brk e' => rw [r] at k; exact ⟨1, .inl (by unfold whileS; rw [e]; simp only [R.toS_ok, if_true, r]; exact ⟨fun z => (nomatch z), k⟩)⟩
        | ret d l s' => rw [r] at k; exact ⟨1, .inl (by unfold whileS; rw [e]; simp only [R.toS_ok, if_true, r]; exact ⟨fun z => (nomatch z), k⟩)⟩
        | exc C f e' => rw [r] at k; exact ⟨1, .inl (by unfold whileS; rw [e]; simp only [R.toS_ok, if_true, r]; exact ⟨fun z => (nomatch z), k⟩)⟩
        | bad => rw [r] at k; exact k.elim
  obtain ⟨k, hk | hk⟩ := key n loc s h0
  · unfold WS; rw [sWhile_eq hk.1]; exact hk.2
  · exact hk.elim
end
end FX

set_option Elab.async false
set_option linter.all false
set_option maxRecDepth 100000
namespace FX
open PySem PySem.Spec PyProof.Rows L2
open Classical
section
variable {loc loc' : Loc} {s s' s1 : Sto} {cs : List D} {i n k h x : Nat} {d : D} {l : Nat} {a b c : EvE} {as : EvA} {t u : EvT} {ds : List D} {Q : QE} {QS : RS → Prop} {body : EvS} {asg : Asg} {it : EvI} {G : Sto → Prop} {ns ms : List Int} {j j' : Int}
/-! ### lists of ints in one form -/
def Ints (ds : List D) (ns : List Int) : Prop := ds = ns.map .int
theorem ints_nil : Ints [] [] := rfl
theorem ints_cons (h : Ints ds ns) : Ints (.int j :: ds) (j :: ns) := by unfold Ints at h ⊢; rw [h]; rfl
theorem ints_map : Ints (ns.map .int) ns := rfl
class IntsC (ds : List D) (ns : outParam (List Int)) : Prop where
  h : Ints ds ns
instance : IntsC [] [] := ⟨ints_nil⟩
instance [k : IntsC ds ns] : IntsC (.int j :: ds) (j :: ns) := ⟨ints_cons k.h⟩
instance : IntsC (ns.map .int) ns := ⟨ints_map⟩
def LstQ (ds : List D) (s : Sto) (Q : QE) : Prop := ds.length ≤ sizeLine ∧ Q (.lst ds) 2 s
theorem lq_ints (h : Ints ds ns) (hl : ds.length ≤ sizeLine) (q : Q (.lst (ns.map .int)) 2 s) : LstQ ds s Q := ⟨hl, by unfold Ints at h; rw [h]; exact q⟩
theorem lq_intsC [k : IntsC ds ns] (hl : ds.length ≤ sizeLine) (q : Q (.lst (ns.map .int)) 2 s) : LstQ ds s Q := lq_ints k.h hl q
theorem lq_raw (hl : ds.length ≤ sizeLine) (q : Q (.lst ds) 2 s) : LstQ ds s Q := ⟨hl, q⟩
theorem we_lstq (q : WA as ⟨loc, s⟩ fun ds s1 => LstQ ds s1 Q) : WE (eLst as) ⟨loc, s⟩ Q := we_lst q
def TupQ (ds : List D) (s : Sto) (Q : QE) : Prop := ds.length ≤ sizeLine ∧ Q (.tup ds) 2 s
theorem tq_raw (hl : ds.length ≤ sizeLine) (q : Q (.tup ds) 2 s) : TupQ ds s Q := ⟨hl, q⟩
theorem we_tupq (q : WA as ⟨loc, s⟩ fun ds s1 => TupQ ds s1 Q) : WE (eTup as) ⟨loc, s⟩ Q := we_tup q
/-! ### new cells -/
def LstHQ (ds : List D) (s : Sto) (Q : QE) : Prop := ds.length ≤ sizeLine ∧ Q (.hnd s.length) 1 (s ++ [.lst ds])
theorem we_lstHq (q : WA as ⟨loc, s⟩ fun ds s1 => LstHQ ds s1 Q) : WE (eLstH as) ⟨loc, s⟩ Q := we_lstH q
theorem lhq (h : Ints ds ns) (hl : ds.length ≤ sizeLine) (hn : s1.length = n) {X : Sto} (hk : X.length = k) (q : Q (.hnd (n + k)) 1 (s1 ++ (X ++ [.lst (ns.map .int)]))) : LstHQ ds (s1 ++ X) Q := by
  refine ⟨hl, ?_⟩
  unfold Ints at h
  rw [h, List.length_append, hn, hk, List.append_assoc]; exact q
theorem lhq_0 (h : Ints ds ns) (hl : ds.length ≤ sizeLine) (hn : s1.length = n) (q : Q (.hnd n) 1 (s1 ++ [.lst (ns.map .int)])) : LstHQ ds (s1 ++ []) Q := lhq (X := []) (k := 0) h hl hn rfl q
theorem lhq_1 {c0 : D} (h : Ints ds ns) (hl : ds.length ≤ sizeLine) (hn : s1.length = n) (q : Q (.hnd (n + 1)) 1 (s1 ++ [c0, .lst (ns.map .int)])) : LstHQ ds (s1 ++ [c0]) Q := lhq (X := [c0]) (k := 1) h hl hn rfl q
theorem lhqC [c : IntsC ds ns] (hl : ds.length ≤ sizeLine) (hn : s1.length = n) {X : Sto} (hk : X.length = k) (q : Q (.hnd (n + k)) 1 (s1 ++ (X ++ [.lst (ns.map .int)]))) : LstHQ ds (s1 ++ X) Q := lhq c.h hl hn hk q
theorem lhqC_0 [c : IntsC ds ns] (hl : ds.length ≤ sizeLine) (hn : s1.length = n) (q : Q (.hnd n) 1 (s1 ++ [.lst (ns.map .int)])) : LstHQ ds (s1 ++ []) Q := lhq_0 c.h hl hn q
theorem lhqC_1 {c0 : D} [c : IntsC ds ns] (hl : ds.length ≤ sizeLine) (hn : s1.length = n) (q : Q (.hnd (n + 1)) 1 (s1 ++ [c0, .lst (ns.map .int)])) : LstHQ ds (s1 ++ [c0]) Q := lhq_1 c.h hl hn q
theorem th_x {X : Sto} (hn : s1.length = n) (hp : PC s1) (hc : PC X) (hk : X.length = k) (q : Q (.hnd (n + k)) 1 (s1 ++ (X ++ [.lst (ns.map .int)]))) : Thaw Q (.lst (ns.map .int)) 2 (s1 ++ X) := thawk hn hp hc hk q
def ChQ (l : Nat) (s s' : Sto) (P : Prop) : Prop := l = 0 ∧ s = s' ∧ P
theorem chq {P : Prop} (q : P) : ChQ 0 s s P := ⟨rfl, rfl, q⟩
theorem we_chainq {g g' : Op2} (q : WE a ⟨loc, s⟩ fun x _ s1 => WE b ⟨loc, s1⟩ fun y _ s2 => WO (g s2 x y) s2 fun t l2 s3 => WB t s3 fun v _ => WE c ⟨loc, s2⟩ fun z _ s4 => WO (g' s4 y z) s4 fun t' l3 _ => WB t' s4 fun v' _ => ChQ l3 s4 s2 (Q (.bl (v && v')) 0 s2)) : WE (eChain g g' a b c) ⟨loc, s⟩ Q := we_chainI q
def CKQ (n : Nat) (pm : List Nat) (f : List D → Sto → R (D × Nat)) (ds : List D) (s : Sto) (Q : QE) : Prop := ds.length = n ∧ WC f (pm.filterMap (ds[·]?)) s Q
theorem we_callKq {f pm} (q : WA as ⟨loc, s⟩ fun ds s1 => CKQ n pm f ds s1 (CallQ Q)) : WE (eCallK f n pm as) ⟨loc, s⟩ Q := we_callK q
theorem ckq {f pm} {ds' : List D} (hl : ds.length = n) (h : pm.filterMap (ds[·]?) = ds') (q : WC f ds' s Q) : CKQ n pm f ds s Q := ⟨hl, by rw [h]; exact q⟩
/-! ### slices -/
def SlQ (x : D) (o1 o2 : Option Int) (s : Sto) (Q : QE) : Prop := ∃ ds, vw s x = .lst ds ∧ Q (.lst (cutD ds o1 o2)) 2 s
theorem we_slq {lo hi : EvO} (q : WE a ⟨loc, s⟩ fun x _ s1 => WU lo ⟨loc, s1⟩ fun o1 s2 => WU hi ⟨loc, s2⟩ fun o2 s3 => SlQ x o1 o2 s3 Q) : WE (eSl a lo hi) ⟨loc, s⟩ Q := we_sl q
def IntQ (x : D) (s : Sto) (P : Int → Sto → Prop) : Prop := ∃ i : Int, x = .int i ∧ P i s
theorem iq {P : Int → Sto → Prop} (q : P j s) : IntQ (.int j) s P := ⟨_, rfl, q⟩
theorem wu_someq {QU : Option Int → Sto → Prop} (q : WE a ⟨loc, s⟩ fun x _ s1 => IntQ x s1 fun i s => QU (some i) s) : WU (oSome a) ⟨loc, s⟩ QU := wu_some q
theorem six_lo {n : Nat} (h : 0 ≤ j) : HT.sIx n 0 (some j) = min j.toNat n := by
  unfold HT.sIx; first | (simp only; split <;> omega) | (simp [h]; omega)
theorem six_hi {n : Nat} (h : 0 ≤ j) : HT.sIx n n (some j) = min j.toNat n := by
  unfold HT.sIx; first | (simp only; split <;> omega) | (simp [h]; omega)
theorem six_no {n m : Nat} : HT.sIx n m none = m := by unfold HT.sIx; rfl
theorem cut_from (h : 0 ≤ j) : cutD (ns.map .int) (some j) none = (ns.drop j.toNat).map .int := by
  rw [cut_map, six_lo h, six_no]
  congr 1
  by_cases hj : j.toNat ≤ ns.length
  · rw [Nat.min_eq_left hj]; exact List.take_of_length_le (by simp)
  · rw [Nat.min_eq_right (by omega), List.drop_of_length_le (Nat.le_refl _), List.drop_of_length_le (by omega)]; simp
theorem cut_to (h : 0 ≤ j) : cutD (ns.map .int) none (some j) = (ns.take j.toNat).map .int := by
  rw [cut_map, six_hi h, six_no]
  congr 1
  simp only [List.drop_zero, Nat.sub_zero]
  by_cases hj : j.toNat ≤ ns.length
  · rw [Nat.min_eq_left hj]
  · rw [Nat.min_eq_right (by omega), List.take_of_length_le (Nat.le_refl _), List.take_of_length_le (by omega)]
theorem cut_ft (h : 0 ≤ j) (h' : 0 ≤ j') : cutD (ns.map .int) (some j) (some j') = ((ns.drop j.toNat).take (j'.toNat - j.toNat)).map .int := by
  rw [cut_map, six_lo h, six_hi h']
  congr 1
  by_cases hj : j.toNat ≤ ns.length
  · rw [Nat.min_eq_left hj]
    by_cases hj' : j'.toNat ≤ ns.length
    · rw [Nat.min_eq_left hj']
    · rw [Nat.min_eq_right (by omega), List.take_of_length_le (by simp), List.take_of_length_le (by simp; omega)]
  · have e1 : min j.toNat ns.length = ns.length := Nat.min_eq_right (by omega)
    rw [e1, List.drop_of_length_le (Nat.le_refl _), List.drop_of_length_le (show ns.length ≤ j.toNat by omega)]; simp
theorem cut_all : cutD (ns.map .int) none none = ns.map .int := by
  rw [cut_map, six_no, six_no]; simp
theorem sq_from (hv : vw s d = .lst (ns.map .int)) (h : 0 ≤ j) (q : Q (.lst ((ns.drop j.toNat).map .int)) 2 s) : SlQ d (some j) none s Q := ⟨_, hv, by rw [cut_from h]; exact q⟩
theorem sq_to (hv : vw s d = .lst (ns.map .int)) (h : 0 ≤ j) (q : Q (.lst ((ns.take j.toNat).map .int)) 2 s) : SlQ d none (some j) s Q := ⟨_, hv, by rw [cut_to h]; exact q⟩
theorem sq_ft (hv : vw s d = .lst (ns.map .int)) (h : 0 ≤ j) (h' : 0 ≤ j') (q : Q (.lst (((ns.drop j.toNat).take (j'.toNat - j.toNat)).map .int)) 2 s) : SlQ d (some j) (some j') s Q := ⟨_, hv, by rw [cut_ft h h']; exact q⟩
/-! ### ranges -/
def RngQ (x : D) (s : Sto) (QI : List D → (Sto → Prop) → Sto → Prop) : Prop := ∃ j : Int, x = .int j ∧ (-(2 ^ 62) ≤ j ∧ j < 2 ^ 62) ∧ QI (rangeD 0 j.toNat) (fun _ => True) s
def Rng2Q (x y : D) (s : Sto) (QI : List D → (Sto → Prop) → Sto → Prop) : Prop := ∃ i j : Int, x = .int i ∧ y = .int j ∧ (-(2 ^ 62) ≤ i ∧ i < 2 ^ 62 ∧ -(2 ^ 62) ≤ j ∧ j < 2 ^ 62) ∧ QI (rangeD i (j - i).toNat) (fun _ => True) s
def SeqQ (x : D) (s : Sto) (QI : List D → (Sto → Prop) → Sto → Prop) : Prop := ∃ ds, vw s x = .lst ds ∧ QI ds (fun s => vw s x = .lst ds) s
def RevQ (x : D) (s : Sto) (QI : List D → (Sto → Prop) → Sto → Prop) : Prop := ∃ ds, vw s x = .lst ds ∧ QI ds.reverse (fun s => vw s x = .lst ds) s
section
variable {QI : List D → (Sto → Prop) → Sto → Prop}
theorem wi_rangeq (q : WE a ⟨loc, s⟩ fun x _ s1 => RngQ x s1 QI) : WI (itRange (aConsE a aNilE)) ⟨loc, s⟩ QI := by
  obtain ⟨x, l, s1, e, j, rfl, h, q⟩ := q
  exact wi_range (wa_cons ⟨_, _, _, e, wa_nil ⟨j, rfl, h, q⟩⟩)
theorem wi_range2q (q : WE a ⟨loc, s⟩ fun x _ s1 => WE b ⟨loc, s1⟩ fun y _ s2 => Rng2Q x y s2 QI) : WI (itRange2 (aConsE a (aConsE b aNilE))) ⟨loc, s⟩ QI := by
  obtain ⟨x, l, s1, e, y, l2, s2, e2, i, j, rfl, rfl, h, q⟩ := q
  exact wi_range2 (wa_cons ⟨_, _, _, e, wa_cons ⟨_, _, _, e2, wa_nil ⟨i, j, rfl, h, q⟩⟩⟩)
theorem rq (h1 : -(2 ^ 62) ≤ j) (h2 : j < 2 ^ 62) (q : QI (rangeD 0 j.toNat) (fun _ => True) s) : RngQ (.int j) s QI := ⟨_, rfl, ⟨h1, h2⟩, q⟩
theorem rq2 (h1 : -(2 ^ 62) ≤ j) (h2 : j < 2 ^ 62) (h3 : -(2 ^ 62) ≤ j') (h4 : j' < 2 ^ 62) (q : QI (rangeD j (j' - j).toNat) (fun _ => True) s) : Rng2Q (.int j) (.int j') s QI := ⟨_, _, rfl, rfl, ⟨h1, h2, h3, h4⟩, q⟩
def Rng3Q (x y z : D) (s : Sto) (QI : List D → (Sto → Prop) → Sto → Prop) : Prop := ∃ i j : Int, x = .int i ∧ y = .int j ∧ z = .int (-1) ∧ (-(2 ^ 62) ≤ i ∧ i < 2 ^ 62 ∧ -(2 ^ 62) ≤ j ∧ j < 2 ^ 62) ∧ QI (rangeDn i (i - j).toNat) (fun _ => True) s
theorem wi_range3q (q : WE a ⟨loc, s⟩ fun x _ s1 => WE b ⟨loc, s1⟩ fun y _ s2 => WE c ⟨loc, s2⟩ fun z _ s3 => Rng3Q x y z s3 QI) : WI (itRange3 (aConsE a (aConsE b (aConsE c aNilE)))) ⟨loc, s⟩ QI := by
  obtain ⟨x, l, s1, e, y, l2, s2, e2, z, l3, s3, e3, i, j, rfl, rfl, rfl, h, q⟩ := q
  exact ⟨_, _, _, by unfold itRange3; simp only [ap_acons, ap_anil, e, e2, e3, R.bind_ok]; rw [if_pos ⟨trivial, h⟩], q⟩
theorem rq3 (h1 : -(2 ^ 62) ≤ j) (h2 : j < 2 ^ 62) (h3 : -(2 ^ 62) ≤ j') (h4 : j' < 2 ^ 62) (q : QI (rangeDn j (j - j').toNat) (fun _ => True) s) : Rng3Q (.int j) (.int j') (.int (-1)) s QI := ⟨_, _, rfl, rfl, rfl, ⟨h1, h2, h3, h4⟩, q⟩
theorem wi_seqq (q : WE a ⟨loc, s⟩ fun x _ s1 => SeqQ x s1 QI) : WI (itSeq a) ⟨loc, s⟩ QI := wi_seq q
theorem seqq (h : vw s d = .lst ds) (q : QI ds (fun s => vw s d = .lst ds) s) : SeqQ d s QI := ⟨_, h, q⟩
def EnumQ (x : D) (s : Sto) (QI : List D → (Sto → Prop) → Sto → Prop) : Prop := ∃ xs, vw s x = .lst xs ∧ QI (xs.zipIdx.map fun p => D.tup [.int (p.2 : Nat), p.1]) (fun s => vw s x = .lst xs) s
theorem wi_enumq (q : WE a ⟨loc, s⟩ fun x _ s1 => EnumQ x s1 QI) : WI (itEnum (aConsE a aNilE)) ⟨loc, s⟩ QI := by
  obtain ⟨x, l, s1, e, ds, h, q⟩ := q
  exact wi_enum (wa_cons ⟨_, _, _, e, wa_nil ⟨x, ds, rfl, h, q⟩⟩)
theorem enumq (h : vw s d = .lst ds) (q : QI (ds.zipIdx.map fun p => D.tup [.int (p.2 : Nat), p.1]) (fun s => vw s d = .lst ds) s) : EnumQ d s QI := ⟨_, h, q⟩
def ZipQ (x y : D) (s : Sto) (QI : List D → (Sto → Prop) → Sto → Prop) : Prop := ∃ xs ys, vw s x = .lst xs ∧ vw s y = .lst ys ∧ QI ((xs.zip ys).map fun p => D.tup [p.1, p.2]) (fun s => vw s x = .lst xs ∧ vw s y = .lst ys) s
theorem wi_zipq (q : WE a ⟨loc, s⟩ fun x _ s1 => WE b ⟨loc, s1⟩ fun y _ s2 => ZipQ x y s2 QI) : WI (itZip (aConsE a (aConsE b aNilE))) ⟨loc, s⟩ QI := by
  obtain ⟨x, l, s1, e, y, l2, s2, e2, xs, ys, h, h2, q⟩ := q
  exact wi_zip (wa_cons ⟨_, _, _, e, wa_cons ⟨_, _, _, e2, wa_nil ⟨x, y, xs, ys, rfl, h, h2, q⟩⟩⟩)
theorem zipq {y : D} {es : List D} (h : vw s d = .lst ds) (h2 : vw s y = .lst es) (q : QI ((ds.zip es).map fun p => D.tup [p.1, p.2]) (fun s => vw s d = .lst ds ∧ vw s y = .lst es) s) : ZipQ d y s QI := ⟨_, _, h, h2, q⟩
theorem wi_revq (q : WE a ⟨loc, s⟩ fun x _ s1 => RevQ x s1 QI) : WI (itRev (aConsE a aNilE)) ⟨loc, s⟩ QI := by
  obtain ⟨x, l, s1, e, ds, h, q⟩ := q
  exact wi_rev (wa_cons ⟨_, _, _, e, wa_nil ⟨x, ds, rfl, h, q⟩⟩)
theorem revq (h : vw s d = .lst (ns.map .int)) (q : QI (ns.reverse.map .int) (fun s => vw s d = .lst (ns.map .int)) s) : RevQ d s QI := ⟨_, h, by rw [← List.map_reverse]; exact q⟩
end
/-! ### list(range(..)) -/
def rg (lo : Int) (n : Nat) : List Int := (List.range n).map fun k : Nat => lo + (k : Int)
theorem rangeD_eq {lo : Int} {n : Nat} : rangeD lo n = (rg lo n).map .int := by unfold rangeD rg; rw [List.map_map]; rfl
def RgLQ (x : D) (s : Sto) (Q : QE) : Prop := ∃ j : Int, x = .int j ∧ (-(2 ^ 62) ≤ j ∧ j ≤ 16777216) ∧ Q (.lst ((rg 0 j.toNat).map .int)) 2 s
theorem rglq (h0 : -(2 ^ 62) ≤ j) (h : j ≤ 16777216) (q : Q (.lst ((rg 0 j.toNat).map .int)) 2 s) : RgLQ (.int j) s Q := ⟨_, rfl, ⟨h0, h⟩, q⟩
theorem we_lrg1 (q : WE a ⟨loc, s⟩ fun x _ s1 => RgLQ x s1 Q) : WE (eListRg1 a) ⟨loc, s⟩ Q := by
  obtain ⟨x, l, s1, e, j, rfl, h, q⟩ := q
  refine ⟨_, _, _, ?_, q⟩
  unfold eListRg1; simp only [e, R.bind_ok]
  rw [if_pos (show RgOk 0 j by unfold RgOk; omega), Int.sub_zero, rangeD_eq]
end
end FX

set_option Elab.async false
set_option linter.all false
set_option maxRecDepth 100000
namespace FX
open PySem PySem.Spec PyProof.Rows L2
open Classical
section
variable {s : Sto} {d e x y : D} {k w k' w' n : Nat} {ds es : List D} {Q : QE}
/-! ### repr -/
noncomputable def shw (d : D) : Str := match toP d with | some p => p.shown | none => default
/-- plain data of depth k, its text at most w long -/
def Sh (k w : Nat) (d : D) : Prop := ∃ p, toP d = some p ∧ Okp k w p
theorem Sh.mono (h : Sh k w d) (a : k ≤ k') (b : w ≤ w') : Sh k' w' d := by obtain ⟨p, e, o⟩ := h; exact ⟨p, e, o.mono a b⟩
theorem sh_int {i : Int} (h : -(2 ^ 250) < i) (h' : i < 2 ^ 250) : Sh 0 260 (.int i) := ⟨_, rfl, .int h h'⟩
theorem sh_bl {b : Bool} : Sh 0 260 (.bl b) := ⟨_, rfl, Okp.bl.mono (Nat.le_refl _) (by decide)⟩
theorem sh_non : Sh 0 260 .non := ⟨_, rfl, Okp.non.mono (Nat.le_refl _) (by decide)⟩
theorem toPs_of : ∀ {ds : List D}, (∀ d ∈ ds, Sh k w d) → ∃ ps, toPs ds = some ps ∧ ps.length = ds.length ∧ ∀ p ∈ ps, Okp k w p
  | [], _ => ⟨[], rfl, rfl, fun _ h => nomatch h⟩
  | d :: ds, h => by
    obtain ⟨p, e, o⟩ := h d (by simp)
    obtain ⟨ps, e2, l, o2⟩ := toPs_of (ds := ds) fun x hx => h x (List.mem_cons_of_mem _ hx)
    refine ⟨p :: ps, by unfold toPs; rw [e, e2], by simp [l], fun q hq => ?_⟩
    rcases List.mem_cons.mp hq with rfl | hq
    · exact o
    · exact o2 q hq
theorem sh_lst (h : ∀ d ∈ ds, Sh k w d) (hn : ds.length ≤ n) : Sh (k + 2) (n * (w + 2) + 3) (.lst ds) := by
  obtain ⟨ps, e, l, o⟩ := toPs_of h
  exact ⟨.list ps, by unfold toP; rw [e]; rfl, Okp.lst o (by omega)⟩
def OkI (ns : List Int) : Prop := ∀ n ∈ ns, -(2 ^ 250) < n ∧ n < 2 ^ 250
theorem sh_ints {ns : List Int} (h : OkI ns) (hn : ns.length ≤ n) : Sh 2 (n * 262 + 3) (.lst (ns.map .int)) := sh_lst (k := 0) (w := 260) (fun d hd => by
  obtain ⟨i, hi, rfl⟩ := List.mem_map.mp hd
  exact sh_int (h i hi).1 (h i hi).2) (by simpa using hn)
theorem wn_repr (h : Sh k w (vw s x)) (hk : k ≤ 40) (hw : w ≤ 16777216) (q : Q (.str (shw (vw s x))) 0 s) : WO (nRepr s [x]) s Q := by
  obtain ⟨p, e, o⟩ := h
  refine ⟨_, _, nRepr_ev (s := s) (d := x) e o hk hw, ?_⟩
  unfold shw at q
  rw [e] at q
  exact q
theorem shw_ok (h : Sh k w d) : gEq false s (.str (shw d)) (.str (shw d)) = some (.bl true, 0) ∧ gEq true s (.str (shw d)) (.str (shw d)) = some (.bl false, 0) := by
  obtain ⟨p, e, o⟩ := h
  unfold shw
  rw [e]
  exact eq_shown o
theorem wo_eqs (h : Sh k w d) (e : d = d') (q : Q (.bl true) 0 s) : WO (gEq false s (.str (shw d)) (.str (shw d'))) s Q := by subst e; exact ⟨_, _, (shw_ok h).1, q⟩
theorem wo_nes (h : Sh k w d) (e : d = d') (q : Q (.bl false) 0 s) : WO (gEq true s (.str (shw d)) (.str (shw d'))) s Q := by subst e; exact ⟨_, _, (shw_ok h).2, q⟩
def Shs (k w : Nat) (ds : List D) : Prop := ∀ d ∈ ds, Sh k w d
theorem shs_nil : Shs k w [] := fun _ h => nomatch h
theorem shs_cons (h : Sh k w d) (h2 : Shs k w ds) : Shs k w (d :: ds) := fun x hx => by
  rcases List.mem_cons.mp hx with rfl | hx
  · exact h
  · exact h2 x hx
/-- a list of at most 1000 ints; a list of at most ten such -/
theorem sh_1 {ns : List Int} (h : OkI ns) (hn : ns.length ≤ 1000) : Sh 2 300000 (.lst (ns.map .int)) := (sh_ints h hn).mono (by decide) (by decide)
theorem sh_1r (h : Shs 0 260 ds) (hn : ds.length ≤ 1000) : Sh 2 300000 (.lst ds) := (sh_lst h hn).mono (by decide) (by decide)
theorem sh_01 (h : Sh 0 260 d) : Sh 2 300000 d := h.mono (by decide) (by decide)
theorem sh_2 (h : Shs 2 300000 ds) (hn : ds.length ≤ 10) : Sh 4 3000100 (.lst ds) := (sh_lst h hn).mono (by decide) (by decide)
theorem oki_nil : OkI [] := fun _ h => nomatch h
theorem oki_cons {i : Int} {ns : List Int} (h : -(2 ^ 250) < i) (h' : i < 2 ^ 250) (k : OkI ns) : OkI (i :: ns) := fun x hx => by
  rcases List.mem_cons.mp hx with rfl | hx
  · exact ⟨h, h'⟩
  · exact k x hx
theorem oki_app {ns ms : List Int} (h : OkI ns) (k : OkI ms) : OkI (ns ++ ms) := fun x hx => (List.mem_append.mp hx).elim (h x) (k x)
/-! ### == of equal data -/
theorem eq_data (h : Sh k w (vw s x)) (hk : k ≤ 64) (e : vw s x = vw s y) : gEq false s x y = some (.bl true, 0) ∧ gEq true s x y = some (.bl false, 0) := by
  obtain ⟨p, e1, o⟩ := h
  unfold gEq datP
  rw [← e, e1]
  simp [shaped_ok o hk, PySem.SeqAt.eqv_refl p o.cl]
theorem wo_eqd (h : Sh k w (vw s x)) (hk : k ≤ 64) (e : vw s x = vw s y) (q : Q (.bl true) 0 s) : WO (gEq false s x y) s Q := ⟨_, _, (eq_data h hk e).1, q⟩
theorem wo_ned (h : Sh k w (vw s x)) (hk : k ≤ 64) (e : vw s x = vw s y) (q : Q (.bl false) 0 s) : WO (gEq true s x y) s Q := ⟨_, _, (eq_data h hk e).2, q⟩
end
end FX

set_option Elab.async false
set_option linter.all false
set_option maxRecDepth 100000
namespace FX
open PySem PySem.Spec PyProof.Rows L2
open Classical
















end FX

set_option Elab.async false
set_option linter.all false
set_option maxRecDepth 100000
namespace FX
open PySem PySem.Spec PyProof.Rows L2
open Classical
















end FX

set_option Elab.async false
set_option linter.all false
set_option maxRecDepth 100000
namespace Ma
/-- the column: what the remainders leave -/
def rm (ws : List Int) (p : Int) : Int := ws.foldl (fun a b => a % b) p
theorem rm_range : ∀ (ws : List Int) (p : Int), (∀ x ∈ ws, 0 < x) → 0 ≤ p → 0 ≤ rm ws p ∧ rm ws p ≤ p
  | [], p, _, h => ⟨h, Int.le_refl _⟩
  | w :: ws, p, hw, h => by
    have h1 := hw w (by simp)
    have := rm_range ws (p % w) (fun x hx => hw x (List.mem_cons_of_mem _ hx)) (Int.emod_nonneg _ (by omega))
    have h2 : p % w ≤ p := by
      have a := Int.emod_add_mul_ediv p w
      have b := Int.mul_nonneg (Int.le_of_lt h1) (Int.ediv_nonneg h (Int.le_of_lt h1))
      omega
    exact ⟨this.1, Int.le_trans this.2 h2⟩
/-- the number of pieces of a line -/
def Np : List Int → Int → Int
  | [], p => if 0 < p then 1 else 0
  | w :: r, p => p / w * Np r w + Np r (p % w)
theorem np_zero : ∀ (ws : List Int), (∀ x ∈ ws, 0 < x) → Np ws 0 = 0
  | [], _ => rfl
  | w :: r, h => by
    unfold Np
    rw [Int.zero_ediv, Int.zero_emod, np_zero r fun x hx => h x (List.mem_cons_of_mem _ hx)]
    simp
theorem np_self {w : Int} {r : List Int} (hw : 0 < w) (hr : ∀ x ∈ r, 0 < x) : Np (w :: r) w = Np r w := by
  show w / w * Np r w + Np r (w % w) = Np r w
  rw [Int.ediv_self (by omega), Int.emod_self, np_zero r hr]; omega
theorem np_small {w p : Int} {r : List Int} (h0 : 0 ≤ p) (h : p < w) : Np (w :: r) p = Np r p := by
  show p / w * Np r w + Np r (p % w) = Np r p
  rw [Int.ediv_eq_zero_of_lt h0 h, Int.emod_eq_of_lt h0 h]; omega
theorem np_add {w p t : Int} {r : List Int} (hw : 0 < w) : Np (w :: r) (p + w * t) = Np (w :: r) p + t * Np r w := by
  show (p + w * t) / w * Np r w + Np r ((p + w * t) % w) = (p / w * Np r w + Np r (p % w)) + t * Np r w
  rw [Int.add_mul_emod_self_left, Int.add_mul_ediv_left _ _ (by omega), Int.add_mul]
  omega
theorem np_nonneg : ∀ (ws : List Int) (p : Int), (∀ x ∈ ws, 0 < x) → 0 ≤ p → 0 ≤ Np ws p
  | [], p, _, _ => by unfold Np; split <;> omega
  | w :: r, p, h, h0 => by
    have hw := h w (by simp)
    have hr : ∀ x ∈ r, 0 < x := fun x hx => h x (List.mem_cons_of_mem _ hx)
    unfold Np
    exact Int.add_nonneg (Int.mul_nonneg (Int.ediv_nonneg h0 (by omega)) (np_nonneg r w hr (by omega))) (np_nonneg r _ hr (Int.emod_nonneg _ (by omega)))
/-- one more piece from a break on -/
theorem np_break : ∀ (ws : List Int) (q : Int), (∀ x ∈ ws, 0 < x) → 0 ≤ q → Np ws (q - rm ws q) + 1 = Np ws (q + 1)
  | [], q, _, h => by
    show Np [] (q - q) + 1 = Np [] (q + 1)
    rw [Int.sub_self]; unfold Np; rw [if_neg (by omega), if_pos (by omega)]; rfl
  | w :: r, q, h, h0 => by
    have hw := h w (by simp)
    have hr : ∀ x ∈ r, 0 < x := fun x hx => h x (List.mem_cons_of_mem _ hx)
    have s0 := Int.emod_nonneg q (show w ≠ 0 by omega)
    have s1 := Int.emod_lt_of_pos q hw
    have ih := np_break r (q % w) hr s0
    have rr := rm_range r (q % w) hr s0
    have dm := Int.emod_add_mul_ediv q w
    have e1 : q - rm (w :: r) q = (q % w - rm r (q % w)) + w * (q / w) := by show q - rm r (q % w) = _; omega
    rw [e1, np_add hw, np_small (by omega) (by omega)]
    have e2 : q + 1 = (q % w + 1) + w * (q / w) := by omega
    rw [e2, np_add hw]
    by_cases hs : q % w + 1 < w
    · rw [np_small (by omega) hs]; omega
    · have : q % w + 1 = w := by omega
      rw [this] at ih ⊢
      rw [np_self hw hr]; omega
/-- the widths that are less than all before them and than b -/
def ef (b : Int) : List Int → List Int
  | [] => []
  | w :: ws => if w < b then w :: ef w ws else ef b ws
theorem np_ef : ∀ (ws : List Int) (b p : Int), (∀ x ∈ ws, 0 < x) → 0 ≤ p → p ≤ b → Np (ef b ws) p = Np ws p
  | [], _, _, _, _, _ => rfl
  | w :: ws, b, p, hw, h0, h1 => by
    have hw1 := hw w (by simp)
    have hws : ∀ x ∈ ws, 0 < x := fun x hx => hw x (List.mem_cons_of_mem _ hx)
    show Np (if w < b then w :: ef w ws else ef b ws) p = Np (w :: ws) p
    split
    · show p / w * Np (ef w ws) w + Np (ef w ws) (p % w) = p / w * Np ws w + Np ws (p % w)
      rw [np_ef ws w w hws (by omega) (Int.le_refl _), np_ef ws w (p % w) hws (Int.emod_nonneg _ (by omega)) (Int.le_of_lt (Int.emod_lt_of_pos _ hw1))]
    · rw [np_ef ws b p hws h0 h1]
      by_cases hpw : p < w
      · rw [np_small h0 hpw]
      · have : p = w := by omega
        rw [this, np_self hw1 hws]
/-- tables of counts -/
abbrev Tab := List (Int × Int)
def addT : Tab → Int → Int → Tab
  | [], k, v => [(k, v)]
  | (a, b) :: r, k, v => if a = k then (a, b + v) :: r else (a, b) :: addT r k v
def wt (f : Int → Int) (t : Tab) : Int := (t.map fun x => x.2 * f x.1).sum
theorem wt_add (f : Int → Int) : ∀ (t : Tab) (k v : Int), wt f (addT t k v) = wt f t + v * f k
  | [], k, v => by simp [addT, wt]
  | (a, b) :: r, k, v => by
    unfold addT
    have ih := wt_add f r k v
    by_cases h : a = k
    · rw [if_pos h]
      simp only [wt, List.map_cons, List.sum_cons] at *
      rw [Int.add_mul, h]; omega
    · rw [if_neg h]
      simp only [wt, List.map_cons, List.sum_cons] at *
      omega
/-- one program, on one size -/
def brk1 (w : Int) (t : Tab) (x : Int × Int) : Tab :=
  let t1 := if 0 < w ∧ 0 < x.1 / w then addT t w (x.2 * (x.1 / w)) else t
  if 0 < x.1 % w then addT t1 (x.1 % w) (x.2 * 1) else t1
def brk (w : Int) (t : Tab) : Tab := t.foldl (brk1 w) []
def ov (w : Int) (f : Int → Int) (p : Int) : Int := p / w * f w + if 0 < p % w then f (p % w) else 0
theorem wt_brk1 {w : Int} {f : Int → Int} {t : Tab} {x : Int × Int} (hw : 0 < w) (hx : 0 ≤ x.1) : wt f (brk1 w t x) = wt f t + x.2 * ov w f x.1 := by
  have h0 := Int.ediv_nonneg hx (Int.le_of_lt hw)
  have hm := Int.emod_nonneg x.1 (show w ≠ 0 by omega)
  obtain ⟨t1, e1⟩ : ∃ t1, t1 = if 0 < w ∧ 0 < x.1 / w then addT t w (x.2 * (x.1 / w)) else t := ⟨_, rfl⟩
  have h1 : wt f t1 = wt f t + x.2 * (x.1 / w) * f w := by
    rw [e1]
    by_cases a : 0 < x.1 / w
    · rw [if_pos ⟨hw, a⟩, wt_add]
    · rw [if_neg (fun z => a z.2), show x.1 / w = 0 by omega]; simp
  show wt f (if 0 < x.1 % w then addT _ (x.1 % w) (x.2 * 1) else _) = wt f t + x.2 * (x.1 / w * f w + if 0 < x.1 % w then f (x.1 % w) else 0)
  rw [← e1]
  by_cases b : 0 < x.1 % w
  · rw [if_pos b, if_pos b, wt_add, h1, Int.mul_add, Int.mul_one, Int.mul_assoc]; omega
  · rw [if_neg b, if_neg b, h1, Int.mul_add, Int.mul_zero, Int.mul_assoc]; omega
theorem wt_brk {w : Int} {f : Int → Int} {t : Tab} (hw : 0 < w) (ht : ∀ x ∈ t, 0 ≤ x.1) : wt f (brk w t) = wt (ov w f) t := by
  have key : ∀ (t s : Tab), (∀ x ∈ t, 0 ≤ x.1) → wt f (t.foldl (brk1 w) s) = wt f s + wt (ov w f) t := by
    intro t
    induction t with
    | nil => intro s _; simp [wt]
    | cons x r ih =>
      intro s h
      rw [List.foldl_cons, ih _ fun y hy => h y (List.mem_cons_of_mem _ hy), wt_brk1 hw (h x (by simp))]
      simp only [wt, List.map_cons, List.sum_cons]
      omega
  unfold brk
  rw [key t [] ht]
  simp [wt]
end Ma

set_option Elab.async false
set_option linter.all false
set_option maxRecDepth 100000
namespace Ma
open FX
def over : List Int → (Int → Int) → Int → Int
  | [], f => f
  | w :: r, f => ov w (over r f)
theorem over_np : ∀ (ws : List Int) (p : Int), (∀ x ∈ ws, 0 < x) → 0 < p → over ws (fun _ => 1) p = Np ws p
  | [], p, _, h => by unfold over Np; rw [if_pos h]
  | w :: r, p, hw, h => by
    have hw1 := hw w (by simp)
    have hr : ∀ x ∈ r, 0 < x := fun x hx => hw x (List.mem_cons_of_mem _ hx)
    show p / w * over r (fun _ => 1) w + (if 0 < p % w then over r (fun _ => 1) (p % w) else 0) = p / w * Np r w + Np r (p % w)
    rw [over_np r w hr hw1]
    have hm := Int.emod_nonneg p (show w ≠ 0 by omega)
    by_cases b : 0 < p % w
    · rw [if_pos b, over_np r _ hr b]
    · rw [if_neg b, show p % w = 0 by omega, np_zero r hr]
/-- a table of sizes and numbers, both above 0, of a line of q characters -/
structure Good (q : Int) (t : Tab) : Prop where
  pos : ∀ x ∈ t, 0 < x.1 ∧ 0 < x.2
  sum : wt id t = q
  nd : (t.map (·.1)).Nodup
theorem addT_keys : ∀ (t : Tab) (k v : Int), (addT t k v).map (·.1) = if k ∈ t.map (·.1) then t.map (·.1) else t.map (·.1) ++ [k]
  | [], k, v => by simp [addT]
  | (a, b) :: r, k, v => by
    unfold addT
    by_cases h : a = k
    · rw [if_pos h]; simp [h]
    · rw [if_neg h, List.map_cons, addT_keys r k v]
      have h' : ¬ k = a := fun z => h z.symm
      by_cases hm : k ∈ r.map (·.1)
      · rw [if_pos hm, if_pos (by simp at hm ⊢; exact .inr hm)]; rfl
      · rw [if_neg hm, if_neg (by simp at hm ⊢; exact ⟨h', hm⟩)]; rfl
theorem addT_nd {t : Tab} {k v : Int} (h : (t.map (·.1)).Nodup) : ((addT t k v).map (·.1)).Nodup := by
  rw [addT_keys]
  by_cases hm : k ∈ t.map (·.1)
  · rw [if_pos hm]; exact h
  · rw [if_neg hm, List.nodup_append]
    refine ⟨h, by simp, fun a ha b hb z => ?_⟩
    rw [List.mem_singleton.mp hb] at z
    exact hm (z ▸ ha)
theorem addT_pos : ∀ {t : Tab} {k v : Int}, (∀ x ∈ t, 0 < x.1 ∧ 0 < x.2) → 0 < k → 0 < v → ∀ x ∈ addT t k v, 0 < x.1 ∧ 0 < x.2
  | [], k, v, _, hk, hv, x, hx => by rw [List.mem_singleton.mp hx]; exact ⟨hk, hv⟩
  | (a, b) :: r, k, v, h, hk, hv, x, hx => by
    unfold addT at hx
    have h0 := h (a, b) (by simp)
    simp only at h0
    by_cases q : a = k
    · rw [if_pos q] at hx
      rcases List.mem_cons.mp hx with rfl | hx
      · exact ⟨h0.1, by show 0 < b + v; omega⟩
      · exact h x (List.mem_cons_of_mem _ hx)
    · rw [if_neg q] at hx
      rcases List.mem_cons.mp hx with rfl | hx
      · exact h0
      · exact addT_pos (fun y hy => h y (List.mem_cons_of_mem _ hy)) hk hv x hx
theorem addT_len (t : Tab) (k v : Int) : (addT t k v).length ≤ t.length + 1 := by
  have := congrArg List.length (addT_keys t k v)
  split at this <;> simp at this <;> omega
theorem wt_le {t : Tab} {q : Int} (h : Good q t) {x : Int × Int} (hx : x ∈ t) : x.2 * x.1 ≤ q := by
  rw [← h.sum]
  have key : ∀ (t : Tab), (∀ x ∈ t, 0 < x.1 ∧ 0 < x.2) → 0 ≤ wt id t ∧ ∀ x ∈ t, x.2 * x.1 ≤ wt id t := by
    intro t
    induction t with
    | nil => intro _; exact ⟨by simp [wt], fun x h => nomatch h⟩
    | cons y r ih =>
      intro h
      obtain ⟨i1, i2⟩ := ih fun z hz => h z (List.mem_cons_of_mem _ hz)
      have hy := h y (by simp)
      have hyp := Int.mul_pos hy.2 hy.1
      have e : wt id (y :: r) = y.2 * y.1 + wt id r := by simp [wt]
      rw [e]
      refine ⟨by omega, fun x hx => ?_⟩
      rcases List.mem_cons.mp hx with rfl | hx
      · omega
      · have := i2 x hx; omega
  exact (key t h.pos).2 x hx
theorem brk1_ok {w : Int} {t : Tab} {x : Int × Int} (hw : 0 < w) (hx : 0 < x.1 ∧ 0 < x.2) (h : (∀ y ∈ t, 0 < y.1 ∧ 0 < y.2) ∧ (t.map (·.1)).Nodup) : (∀ y ∈ brk1 w t x, 0 < y.1 ∧ 0 < y.2) ∧ ((brk1 w t x).map (·.1)).Nodup := by
  obtain ⟨t1, e1⟩ : ∃ t1, t1 = if 0 < w ∧ 0 < x.1 / w then addT t w (x.2 * (x.1 / w)) else t := ⟨_, rfl⟩
  have h1 : (∀ y ∈ t1, 0 < y.1 ∧ 0 < y.2) ∧ (t1.map (·.1)).Nodup := by
    rw [e1]
    by_cases a : 0 < w ∧ 0 < x.1 / w
    · rw [if_pos a]; exact ⟨addT_pos h.1 hw (Int.mul_pos hx.2 a.2), addT_nd h.2⟩
    · rw [if_neg a]; exact h
  show (∀ y ∈ (if 0 < x.1 % w then addT _ (x.1 % w) (x.2 * 1) else _), 0 < y.1 ∧ 0 < y.2) ∧ _
  show (∀ y ∈ (if 0 < x.1 % w then addT _ (x.1 % w) (x.2 * 1) else _), 0 < y.1 ∧ 0 < y.2) ∧ ((if 0 < x.1 % w then addT _ (x.1 % w) (x.2 * 1) else _).map (·.1)).Nodup
  rw [← e1]
  by_cases b : 0 < x.1 % w
  · rw [if_pos b]; exact ⟨addT_pos h1.1 b (by omega), addT_nd h1.2⟩
  · rw [if_neg b]; exact h1
theorem brk_good {w q : Int} {t : Tab} (hw : 0 < w) (h : Good q t) : Good q (brk w t) := by
  have key : ∀ (t s : Tab), (∀ x ∈ t, 0 < x.1 ∧ 0 < x.2) → ((∀ y ∈ s, 0 < y.1 ∧ 0 < y.2) ∧ (s.map (·.1)).Nodup) → (∀ y ∈ t.foldl (brk1 w) s, 0 < y.1 ∧ 0 < y.2) ∧ ((t.foldl (brk1 w) s).map (·.1)).Nodup := by
    intro t
    induction t with
    | nil => intro s _ h; exact h
    | cons x r ih => intro s ht hs; exact ih _ (fun y hy => ht y (List.mem_cons_of_mem _ hy)) (brk1_ok hw (ht x (by simp)) hs)
  obtain ⟨a, b⟩ := key t [] h.pos ⟨(fun x h => nomatch h), by simp⟩
  refine ⟨a, ?_, b⟩
  show wt id (brk w t) = q
  rw [wt_brk hw fun x hx => Int.le_of_lt (h.pos x hx).1, ← h.sum]
  unfold wt
  congr 1
  apply List.map_congr_left
  intro x hx
  have h0 := (h.pos x hx).1
  have hm := Int.emod_nonneg x.1 (show w ≠ 0 by omega)
  have dm := Int.emod_add_mul_ediv x.1 w
  have : ov w id x.1 = x.1 := by
    unfold ov
    simp only [id]
    rw [Int.mul_comm] at dm
    split <;> omega
  rw [this]; rfl
/-- the first table -/
def tab0 (p : Int) : Tab := if 0 < p then [(p, 1)] else []
theorem tab0_good {p : Int} (h : 0 ≤ p) : Good p (tab0 p) := by
  unfold tab0
  by_cases q : 0 < p
  · rw [if_pos q]
    exact ⟨fun x hx => by rw [List.mem_singleton.mp hx]; exact ⟨q, (by show (0 : Int) < 1; decide)⟩, by simp [wt], by simp⟩
  · rw [if_neg q]
    exact ⟨(fun x h => nomatch h), (by simp [wt]; omega), by simp⟩
def talT (ws : List Int) (p : Int) : Tab := ws.foldl (fun t w => brk w t) (tab0 p)
theorem tal_good {p : Int} (h : 0 ≤ p) (ws : List Int) (hw : ∀ x ∈ ws, 0 < x) : Good p (talT ws p) := by
  have key : ∀ (ws : List Int) (t : Tab), (∀ x ∈ ws, 0 < x) → Good p t → Good p (ws.foldl (fun t w => brk w t) t) := by
    intro ws
    induction ws with
    | nil => intro t _ h; exact h
    | cons w r ih => intro t hw h; exact ih _ (fun x hx => hw x (List.mem_cons_of_mem _ hx)) (brk_good (hw w (by simp)) h)
  exact key ws _ hw (tab0_good h)
theorem wt_tal {p : Int} (h : 0 ≤ p) (ws : List Int) (hw : ∀ x ∈ ws, 0 < x) (f : Int → Int) : wt f (talT ws p) = wt (over ws f) (tab0 p) := by
  have key : ∀ (ws : List Int) (t : Tab), (∀ x ∈ ws, 0 < x) → Good p t → wt f (ws.foldl (fun t w => brk w t) t) = wt (over ws f) t := by
    intro ws
    induction ws with
    | nil => intro t _ _; rfl
    | cons w r ih =>
      intro t hw g
      rw [List.foldl_cons, ih _ (fun x hx => hw x (List.mem_cons_of_mem _ hx)) (brk_good (hw w (by simp)) g), wt_brk (hw w (by simp)) fun x hx => Int.le_of_lt (g.pos x hx).1]
      rfl
  exact key ws _ hw (tab0_good h)
/-- the sum of the numbers is the number of pieces -/
theorem tal_sum {p : Int} (h : 0 ≤ p) (ws : List Int) (hw : ∀ x ∈ ws, 0 < x) : ((talT ws p).map (·.2)).sum = Np ws p := by
  have e : ((talT ws p).map (·.2)).sum = wt (fun _ => 1) (talT ws p) := by unfold wt; simp
  rw [e, wt_tal h ws hw]
  unfold tab0
  by_cases q : 0 < p
  · rw [if_pos q]; simp [wt, over_np ws p hw q]
  · rw [if_neg q, show p = 0 by omega, np_zero ws hw]; rfl
end Ma

set_option Elab.async false
set_option linter.all false
set_option maxRecDepth 100000
namespace Ma
open FX PySem PySem.Spec PyProof.Rows L2
open Classical
def ksD (t : Tab) : List Key := t.map fun x => Sum.inl x.1
def dsD (t : Tab) : List D := t.map fun x => D.int x.2
def getT : Tab → Int → Int
  | [], _ => 0
  | (a, b) :: r, k => if a = k then b else getT r k
theorem look_tab : ∀ (t : Tab) (k : Int), (lookD (ksD t) (dsD t) (.inl k)).getD (.int 0) = .int (getT t k)
  | [], k => rfl
  | (a, b) :: r, k => by
    show (if (Sum.inl a : Key) = Sum.inl k then some (D.int b) else lookD (ksD r) (dsD r) (.inl k)).getD (.int 0) = .int (if a = k then b else getT r k)
    by_cases h : a = k
    · rw [if_pos (by rw [h]), if_pos h]; rfl
    · rw [if_neg (fun z => h (Sum.inl.inj z)), if_neg h]; exact look_tab r k
theorem getT_no : ∀ {t : Tab} {k : Int}, k ∉ t.map (·.1) → getT t k = 0
  | [], _, _ => rfl
  | (a, b) :: r, k, h => by
    simp only [List.map_cons, List.mem_cons, not_or] at h
    unfold getT
    rw [if_neg (fun z => h.1 z.symm)]
    exact getT_no h.2
theorem addT_no : ∀ {t : Tab} {k v : Int}, k ∉ t.map (·.1) → addT t k v = t ++ [(k, v)]
  | [], _, _, _ => rfl
  | (a, b) :: r, k, v, h => by
    simp only [List.map_cons, List.mem_cons, not_or] at h
    unfold addT
    rw [if_neg (fun z => h.1 z.symm), addT_no h.2]; rfl
theorem setD_no : ∀ {t : Tab} {k : Int} {x : D}, k ∉ t.map (·.1) → setD (ksD t) (dsD t) (.inl k) x = dsD t
  | [], _, _, _ => rfl
  | (a, b) :: r, k, x, h => by
    simp only [List.map_cons, List.mem_cons, not_or] at h
    show (if (Sum.inl a : Key) = Sum.inl k then x else D.int b) :: setD (ksD r) (dsD r) (.inl k) x = D.int b :: dsD r
    rw [if_neg (fun z => h.1 (Sum.inl.inj z).symm), setD_no h.2]
theorem setD_yes : ∀ {t : Tab} {k v : Int}, (t.map (·.1)).Nodup → k ∈ t.map (·.1) → setD (ksD t) (dsD t) (.inl k) (.int (getT t k + v)) = dsD (addT t k v)
  | [], _, _, _, h => nomatch h
  | (a, b) :: r, k, v, nd, h => by
    rw [List.map_cons, List.nodup_cons] at nd
    show (if (Sum.inl a : Key) = Sum.inl k then D.int ((if a = k then b else getT r k) + v) else D.int b) :: setD (ksD r) (dsD r) (.inl k) (.int ((if a = k then b else getT r k) + v)) = dsD (if a = k then (a, b + v) :: r else (a, b) :: addT r k v)
    by_cases q : a = k
    · rw [if_pos (by rw [q]), if_pos q, if_pos q, setD_no (q ▸ nd.1)]; rfl
    · rw [if_neg (fun z => q (Sum.inl.inj z)), if_neg q, if_neg q]
      rcases List.mem_cons.mp h with e | h
      · exact absurd e.symm q
      · rw [setD_yes nd.2 h]; rfl
theorem mem_ks {t : Tab} {k : Int} : (Sum.inl k : Key) ∈ ksD t ↔ k ∈ t.map (·.1) := by
  unfold ksD
  constructor
  · intro h
    obtain ⟨x, hx, e⟩ := List.mem_map.mp h
    exact List.mem_map.mpr ⟨x, hx, Sum.inl.inj e⟩
  · intro h
    obtain ⟨x, hx, e⟩ := List.mem_map.mp h
    exact List.mem_map.mpr ⟨x, hx, by rw [e]⟩
theorem put_tab {t : Tab} {k v : Int} (nd : (t.map (·.1)).Nodup) : putD (ksD t) (dsD t) (.inl k) (.int (getT t k + v)) = (ksD (addT t k v), dsD (addT t k v)) := by
  unfold putD
  by_cases h : k ∈ t.map (·.1)
  · rw [if_pos (mem_ks.mpr h), setD_yes nd h]
    have e : ksD (addT t k v) = ksD t := by
      have := addT_keys t k v
      rw [if_pos h] at this
      have := congrArg (List.map (Sum.inl : Int → Key)) this
      rw [List.map_map, List.map_map] at this
      exact this
    rw [e]
  · rw [if_neg (fun z => h (mem_ks.mp z)), addT_no h, getT_no h]
    unfold ksD dsD
    simp
end Ma

set_option Elab.async false
set_option linter.all false
set_option maxRecDepth 100000
namespace Ma
open FX
def okw (ws : List Int) : Prop := ws.length ≤ 100000 ∧ ∀ x ∈ ws, 1 ≤ x ∧ x ≤ 10000
theorem rm_app (a b : List Int) (p : Int) : rm (a ++ b) p = rm b (rm a p) := List.foldl_append
theorem rm_rng : ∀ (ws : List Int) (p : Int), (∀ x ∈ ws, 1 ≤ x) → 0 ≤ p → 0 ≤ rm ws p ∧ rm ws p ≤ p
  | [], p, _, h => ⟨h, Int.le_refl _⟩
  | w :: ws, p, hw, h => by
    have h1 := hw w (by simp)
    have := rm_rng ws (p % w) (fun x hx => hw x (List.mem_cons_of_mem _ hx)) (Int.emod_nonneg _ (by omega))
    have h2 : p % w ≤ p := by
      have a := Int.emod_add_mul_ediv p w
      have b := Int.mul_nonneg (show 0 ≤ w by omega) (Int.ediv_nonneg h (show 0 ≤ w by omega))
      omega
    exact ⟨this.1, Int.le_trans this.2 h2⟩
/-- the columns of the first n positions -/
def cols (ws : List Int) (n : Nat) : List Int := (List.range n).map fun k : Nat => rm ws (k : Int)
def rep (xs : List Int) (n : Nat) : List Int := ((List.replicate (n / xs.length + 1) xs).flatten).take n
theorem mul_div_le {v n : Nat} : v * (n / v + 1) ≤ n + v := by
  have := Nat.div_mul_le_self n v
  rw [Nat.mul_add, Nat.mul_comm]; omega
theorem range_mod (v : Nat) (hv : 0 < v) : ∀ n : Nat, ((List.replicate n (List.range v)).flatten) = (List.range (n * v)).map (· % v)
  | 0 => by simp
  | n + 1 => by
    rw [List.replicate_succ', List.flatten_append, range_mod v hv n, Nat.succ_mul, List.range_add, List.map_append]
    simp only [List.flatten_cons, List.flatten_nil, List.append_nil, List.map_map]
    congr 1
    conv => lhs; rw [← List.map_id (List.range v)]
    apply List.map_congr_left
    intro a ha
    have := List.mem_range.mp ha
    simp [Nat.mod_eq_of_lt this]
theorem rep_eq {f : Nat → Int} {v n : Nat} (hv : 0 < v) : rep ((List.range v).map f) n = (List.range n).map fun k => f (k % v) := by
  unfold rep
  rw [List.length_map, List.length_range, ← List.map_replicate, ← List.map_flatten, range_mod v hv, List.map_map, ← List.map_take, List.take_range]
  rw [Nat.min_eq_left]
  · rfl
  · have := Nat.div_add_mod n v
    have := Nat.mod_lt n hv
    rw [Nat.add_mul, Nat.mul_comm]; omega
theorem cols_cons {w : Int} {ws : List Int} {n : Nat} (hw : 1 ≤ w) : cols (w :: ws) n = rep (cols ws w.toNat) n := by
  unfold cols
  rw [rep_eq (by omega)]
  apply List.map_congr_left
  intro k _
  show rm ws ((k : Int) % w) = _
  congr 1
  rw [Int.natCast_emod]
  congr 1
  omega
theorem cols_len {ws : List Int} {n : Nat} : (cols ws n).length = n := by unfold cols; simp
theorem cols_rg {ws : List Int} {n : Nat} : cols ws n = (rg 0 n).map (rm ws) := by unfold cols rg; simp
theorem cols_nil {n : Nat} : cols [] n = rg 0 n := by unfold cols rg rm; simp
def cmb : List Int → List Int
  | [] => []
  | w :: r => cols r w.toNat
theorem rm_sub : ∀ (ws : List Int) (p t : Int), (∀ x ∈ ws, 1 ≤ x) → 0 ≤ p → 0 ≤ t → t ≤ rm ws p → rm ws (p - t) = rm ws p - t
  | [], p, t, _, _, _, _ => rfl
  | w :: ws, p, t, hw, hp, h0, h1 => by
    have hw1 := hw w (by simp)
    have hr := rm_rng ws (p % w) (fun x hx => hw x (List.mem_cons_of_mem _ hx)) (Int.emod_nonneg _ (by omega))
    have h1' : t ≤ rm ws (p % w) := h1
    have hlt : p % w < w := Int.emod_lt_of_pos _ (by omega)
    have e : (p - t) % w = p % w - t := by
      have a := Int.emod_add_mul_ediv p w
      have : p - t = (p % w - t) + w * (p / w) := by omega
      rw [this, Int.add_mul_emod_self_left]
      exact Int.emod_eq_of_lt (by omega) (by omega)
    show rm ws ((p - t) % w) = rm ws (p % w) - t
    rw [e]
    exact rm_sub ws (p % w) t (fun x hx => hw x (List.mem_cons_of_mem _ hx)) (Int.emod_nonneg _ (by omega)) h0 h1'
theorem rm_zero {ws : List Int} {p : Int} (hw : ∀ x ∈ ws, 1 ≤ x) (hp : 0 ≤ p) : rm ws (p - rm ws p) = 0 := by
  rw [rm_sub ws p _ hw hp (rm_rng ws p hw hp).1 (Int.le_refl _)]; omega
theorem np_le : ∀ (ws : List Int) (p : Int), (∀ x ∈ ws, 1 ≤ x) → 0 ≤ p → 0 ≤ Np ws p ∧ Np ws p ≤ p
  | [], p, _, h => by unfold Np; split <;> omega
  | w :: r, p, h, h0 => by
    have hw := h w (by simp)
    have hr : ∀ x ∈ r, 1 ≤ x := fun x hx => h x (List.mem_cons_of_mem _ hx)
    have a := np_le r w hr (by omega)
    have b := np_le r (p % w) hr (Int.emod_nonneg _ (by omega))
    have c := Int.emod_add_mul_ediv p w
    have d := Int.ediv_nonneg h0 (show 0 ≤ w by omega)
    have e := Int.mul_le_mul_of_nonneg_left a.2 d
    have f := Int.mul_nonneg d a.1
    show 0 ≤ p / w * Np r w + Np r (p % w) ∧ p / w * Np r w + Np r (p % w) ≤ p
    rw [Int.mul_comm w] at c
    omega
/-- the pieces of one block of each width -/
def blks : List Int → List Int
  | [] => []
  | w :: r => Np r w :: blks r
def ovr : List Int → List Int → Int → Int
  | w :: ws, n :: ns, p => p / w * n + ovr ws ns (p % w)
  | _, _, p => if 0 < p then 1 else 0
theorem ovr_np : ∀ (ws ms : List Int) (p : Int), ovr ws (blks ws ++ ms) p = Np ws p
  | [], ms, p => by unfold ovr Np; rfl
  | w :: r, ms, p => by
    show p / w * Np r w + ovr r (blks r ++ ms) (p % w) = p / w * Np r w + Np r (p % w)
    rw [ovr_np r]
theorem blks_len : ∀ ws : List Int, (blks ws).length = ws.length
  | [] => rfl
  | w :: r => by unfold blks; simp [blks_len r]
theorem blks_drop : ∀ (ws : List Int) (n : Nat), blks (ws.drop n) = (blks ws).drop n
  | ws, 0 => rfl
  | [], n + 1 => rfl
  | w :: r, n + 1 => blks_drop r n
theorem blks_le {ws : List Int} (h : ∀ x ∈ ws, 1 ≤ x ∧ x ≤ 10000) : ∀ x ∈ blks ws, 0 ≤ x ∧ x ≤ 10000 := by
  induction ws with
  | nil => intro x hx; cases hx
  | cons w r ih =>
    intro x hx
    have hw := h w (by simp)
    rcases List.mem_cons.mp hx with rfl | hx
    · have := np_le r w (fun y hy => (h y (List.mem_cons_of_mem _ hy)).1) (by omega)
      omega
    · exact ih (fun y hy => h y (List.mem_cons_of_mem _ hy)) x hx
end Ma

set_option Elab.async false
set_option linter.all false
set_option maxRecDepth 100000
namespace Ma
open FX PySem PySem.Spec PyProof.Rows L2
open Classical
theorem ef_cons {b w : Int} {ws : List Int} : ef b (w :: ws) = if w < b then w :: ef w ws else ef b ws := rfl
theorem ef_mem : ∀ (ws : List Int) (b x : Int), x ∈ ef b ws → x ∈ ws
  | [], _, _, h => nomatch h
  | w :: ws, b, x, h => by
    unfold ef at h
    split at h
    · rcases List.mem_cons.mp h with rfl | h
      · simp
      · exact List.mem_cons_of_mem _ (ef_mem ws _ _ h)
    · exact List.mem_cons_of_mem _ (ef_mem ws _ _ h)
theorem ef_len : ∀ (ws : List Int) (b : Int), (ef b ws).length ≤ ws.length
  | [], _ => Nat.le_refl _
  | w :: ws, b => by
    unfold ef
    split
    · have := ef_len ws w; simp; omega
    · have := ef_len ws b; simp; omega
theorem ef_ef : ∀ (ws : List Int) (b : Int), ef b (ef b ws) = ef b ws
  | [], _ => rfl
  | w :: ws, b => by
    by_cases h : w < b
    · have e : ef b (w :: ws) = w :: ef w ws := by rw [ef_cons, if_pos h]
      rw [e]
      show (if w < b then w :: ef w (ef w ws) else _) = _
      rw [if_pos h, ef_ef ws w]
    · have e : ef b (w :: ws) = ef b ws := by rw [ef_cons, if_neg h]
      rw [e]; exact ef_ef ws b
theorem rm_ef : ∀ (ws : List Int) (b p : Int), (∀ x ∈ ws, 0 < x) → 0 ≤ p → p < b → rm (ef b ws) p = rm ws p
  | [], _, _, _, _, _ => rfl
  | w :: ws, b, p, hw, h0, h1 => by
    have hw1 := hw w (by simp)
    have hws : ∀ x ∈ ws, 0 < x := fun x hx => hw x (List.mem_cons_of_mem _ hx)
    show rm (if w < b then w :: ef w ws else ef b ws) p = rm ws (p % w)
    split
    · show rm (ef w ws) (p % w) = _
      exact rm_ef ws w _ hws (Int.emod_nonneg _ (by omega)) (Int.emod_lt_of_pos _ hw1)
    · rw [Int.emod_eq_of_lt h0 (by omega)]
      exact rm_ef ws b p hws h0 h1
/-- all of a list -/
def E (ws : List Int) : List Int := ef (10 ^ 9) ws
theorem rm_E {ws : List Int} {p : Int} (hp : ∀ x ∈ ws, 0 < x ∧ x ≤ 10000) (h0 : 0 ≤ p) : rm (E ws) p = rm ws p := by
  cases ws with
  | nil => rfl
  | cons w ws =>
    have hw1 := hp w (by simp)
    show rm (if w < 10 ^ 9 then w :: ef w ws else _) p = rm ws (p % w)
    rw [if_pos (by omega)]
    exact rm_ef ws w _ (fun x hx => (hp x (List.mem_cons_of_mem _ hx)).1) (Int.emod_nonneg _ (by omega)) (Int.emod_lt_of_pos _ hw1.1)
theorem E_E (ws : List Int) : E (E ws) = E ws := ef_ef ws _

def bd (ks : List Int) : Int := (ks.getLast?).getD (10 ^ 9)
theorem bd_app {ks : List Int} {w : Int} : bd (ks ++ [w]) = w := by unfold bd; simp
theorem ef_big : ∀ (ws : List Int) (b b' : Int), (∀ x ∈ ws, x < b ∧ x < b') → ef b ws = ef b' ws
  | [], _, _, _ => rfl
  | w :: r, b, b', h => by
    have := h w (by simp)
    show (if w < b then w :: ef w r else ef b r) = (if w < b' then w :: ef w r else ef b' r)
    rw [if_pos this.1, if_pos this.2]
theorem np_E {ws : List Int} {p : Int} (ok : okw ws) (h : 0 ≤ p) : Np (E ws) p = Np ws p := by
  unfold E
  rw [ef_big ws (10 ^ 9) (p + 10 ^ 9) fun x hx => by have := ok.2 x hx; omega]
  exact np_ef ws _ p (fun x hx => by have := ok.2 x hx; omega) h (by omega)
theorem E_ok {ws : List Int} (ok : okw ws) : okw (E ws) := ⟨Nat.le_trans (ef_len ws _) ok.1, fun x hx => ok.2 x (ef_mem ws _ x hx)⟩
theorem E_cons {w : Int} {r : List Int} (ok : okw (w :: r)) : E (w :: r) = w :: ef w r := by
  have := ok.2 w (by simp)
  show (if w < 10 ^ 9 then w :: ef w r else ef (10 ^ 9) r) = _
  rw [if_pos (by omega)]
theorem E_nil : E [] = [] := rfl
theorem least_app {l : List Int} {b : Int} : leastOf (l ++ [b]) = some (l.foldl min b) := by
  obtain ⟨k, hk⟩ : ∃ k, leastOf (l ++ [b]) = some k := by
    cases l with
    | nil => exact ⟨_, rfl⟩
    | cons n r => exact ⟨_, rfl⟩
  obtain ⟨h1, h2, h3⟩ := foldl_min l b
  rw [hk, least_eq hk (m := l.foldl min b) (by rcases h1 with h1 | h1 <;> simp [h1]) (fun y hy => by
    rcases List.mem_append.mp hy with hy | hy
    · exact h3 y hy
    · rw [List.mem_singleton.mp hy]; exact h2)]
/-- the test of the due widths -/
def duP (ws : List Int) (d : D) : Bool := match d with
  | .tup [.int i, .int w] => decide (w < (ws.take i.toNat).foldl min (10 ^ 9))
  | _ => false
def duF (d : D) : D := match d with
  | .tup [_, w] => w
  | x => x
theorem due_list : ∀ (ws pre : List Int), (((((ws.map D.int).zipIdx pre.length).map fun q => D.tup [.int (q.2 : Nat), q.1]).filter (duP (pre ++ ws))).map duF) = (ef (pre.foldl min (10 ^ 9)) ws).map .int
  | [], pre => rfl
  | w :: ws, pre => by
    have ih := due_list ws (pre ++ [w])
    rw [List.length_append, List.length_singleton, List.append_assoc, List.singleton_append, List.foldl_append] at ih
    simp only [List.foldl_cons, List.foldl_nil] at ih
    rw [List.map_cons, List.zipIdx_cons, List.map_cons, List.filter_cons]
    have hp : duP (pre ++ w :: ws) (.tup [.int (pre.length : Nat), .int w]) = decide (w < pre.foldl min (10 ^ 9)) := by
      unfold duP; simp
    simp only [hp, ef_cons]
    by_cases h : w < pre.foldl min (10 ^ 9)
    · rw [Int.min_eq_right (by omega)] at ih
      rw [decide_eq_true h, if_pos rfl, if_pos h, List.map_cons, List.map_cons, ih]; rfl
    · rw [Int.min_eq_left (by omega)] at ih
      rw [decide_eq_false h, if_neg (by decide), if_neg h, ih]
theorem due_E {ws : List Int} : ((((ws.map D.int).zipIdx.map fun q => D.tup [.int (q.2 : Nat), q.1]).filter (duP ws)).map duF) = (E ws).map .int := due_list ws []
end Ma

set_option Elab.async false
set_option linter.all false
set_option maxRecDepth 100000
namespace Ma
open FX
/-- the pieces of a line, in order -/
def pcs : List Int → Int → List Int
  | [], p => if 0 < p then [p] else []
  | w :: r, p => (List.replicate (p / w).toNat (pcs r w)).flatten ++ pcs r (p % w)
theorem pcs_zero : ∀ (ws : List Int), pcs ws 0 = []
  | [] => rfl
  | w :: r => by unfold pcs; rw [Int.zero_ediv, Int.zero_emod, pcs_zero r]; rfl
theorem pcs_len : ∀ (ws : List Int) (p : Int), (∀ x ∈ ws, 1 ≤ x) → 0 ≤ p → ((pcs ws p).length : Int) = Np ws p
  | [], p, _, h => by unfold pcs Np; split <;> rfl
  | w :: r, p, hw, h => by
    have w1 := hw w (by simp)
    have hr : ∀ x ∈ r, 1 ≤ x := fun x hx => hw x (List.mem_cons_of_mem _ hx)
    have a := pcs_len r w hr (by omega)
    have b := pcs_len r (p % w) hr (Int.emod_nonneg _ (by omega))
    have c := Int.ediv_nonneg h (show 0 ≤ w by omega)
    unfold pcs Np
    rw [List.length_append, List.length_flatten, List.map_replicate, List.sum_replicate_nat, Int.natCast_add, Int.natCast_mul, a, b, Int.toNat_of_nonneg c]
theorem flat_sum (n : Nat) (l : List Int) : (List.replicate n l).flatten.sum = n * l.sum := by
  induction n with
  | zero => simp
  | succ n ih => rw [List.replicate_succ, List.flatten_cons, List.sum_append, ih, Int.natCast_add, Int.add_mul]; simp; omega
theorem pcs_sum : ∀ (ws : List Int) (p : Int), (∀ x ∈ ws, 1 ≤ x) → 0 ≤ p → (pcs ws p).sum = p
  | [], p, _, h => by
    unfold pcs; split
    · simp
    · simp; omega
  | w :: r, p, hw, h => by
    have w1 := hw w (by simp)
    have hr : ∀ x ∈ r, 1 ≤ x := fun x hx => hw x (List.mem_cons_of_mem _ hx)
    have a := pcs_sum r w hr (by omega)
    have b := pcs_sum r (p % w) hr (Int.emod_nonneg _ (by omega))
    have c := Int.ediv_nonneg h (show 0 ≤ w by omega)
    have d := Int.emod_add_mul_ediv p w
    unfold pcs
    rw [List.sum_append, flat_sum, a, b, Int.toNat_of_nonneg c, Int.mul_comm]; omega
theorem pcs_pos : ∀ (ws : List Int) (p : Int), (∀ x ∈ ws, 1 ≤ x) → 0 ≤ p → ∀ x ∈ pcs ws p, 1 ≤ x ∧ x ≤ p
  | [], p, _, h, x, hx => by
    unfold pcs at hx
    split at hx
    · rw [List.mem_singleton.mp hx]; omega
    · cases hx
  | w :: r, p, hw, h, x, hx => by
    have w1 := hw w (by simp)
    have hr : ∀ x ∈ r, 1 ≤ x := fun x hx => hw x (List.mem_cons_of_mem _ hx)
    have d := Int.emod_add_mul_ediv p w
    have d0 := Int.emod_nonneg p (show w ≠ 0 by omega)
    have c := Int.ediv_nonneg h (show 0 ≤ w by omega)
    unfold pcs at hx
    rcases List.mem_append.mp hx with hx | hx
    · obtain ⟨l, hl, hx⟩ := List.mem_flatten.mp hx
      obtain ⟨hn, rfl⟩ := List.mem_replicate.mp hl
      have a := pcs_pos r w hr (by omega) x hx
      have e : 1 ≤ p / w := by omega
      have f := Int.mul_le_mul_of_nonneg_left e (show 0 ≤ w by omega)
      omega
    · have a := pcs_pos r (p % w) hr d0 x hx
      have f := Int.mul_nonneg (show 0 ≤ w by omega) c
      omega
/-- one more program behind the others -/
theorem pcs_snoc : ∀ (ws : List Int) (w p : Int), (∀ x ∈ ws, 1 ≤ x) → 0 ≤ p → pcs (ws ++ [w]) p = (pcs ws p).flatMap (pcs [w])
  | [], w, p, _, hp => by
    by_cases h : 0 < p
    · have : pcs [] p = [p] := by unfold pcs; rw [if_pos h]
      rw [this]; simp
    · have : pcs [] p = [] := by unfold pcs; rw [if_neg h]
      rw [this]
      rw [show p = 0 by omega]; exact pcs_zero [w]
  | v :: r, w, p, hw, hp => by
    have v1 := hw v (by simp)
    have hr : ∀ x ∈ r, 1 ≤ x := fun x hx => hw x (List.mem_cons_of_mem _ hx)
    show (List.replicate (p / v).toNat (pcs (r ++ [w]) v)).flatten ++ pcs (r ++ [w]) (p % v) = _
    rw [pcs_snoc r w v hr (by omega), pcs_snoc r w (p % v) hr (Int.emod_nonneg _ (by omega))]
    show _ = ((List.replicate (p / v).toNat (pcs r v)).flatten ++ pcs r (p % v)).flatMap (pcs [w])
    rw [List.flatMap_append]
    congr 1
    generalize (p / v).toNat = n
    induction n with
    | zero => rfl
    | succ n ih => rw [List.replicate_succ, List.replicate_succ, List.flatten_cons, List.flatten_cons, List.flatMap_append, ih]
/-- the break with an index -/
def Nb : List Int → Int → Int
  | [], _ => 0
  | w :: r, i => i / Np r w * w + Nb r (i % Np r w)
theorem np_pos (ws : List Int) (p : Int) (hw : ∀ x ∈ ws, 1 ≤ x) (hp : 1 ≤ p) : 1 ≤ Np ws p := by
  have e := np_break ws (p - 1) (fun x hx => by have := hw x hx; omega) (by omega)
  have r := rm_rng ws (p - 1) hw (by omega)
  have n := np_le ws (p - 1 - rm ws (p - 1)) hw (by omega)
  rw [show p - 1 + 1 = p by omega] at e
  omega
theorem np_succ : ∀ (ws : List Int) (q : Int), (∀ x ∈ ws, 1 ≤ x) → 0 ≤ q → Np ws (q + 1) = Np ws q + if rm ws q = 0 then 1 else 0
  | [], q, _, h => by
    show (if 0 < q + 1 then (1 : Int) else 0) = (if 0 < q then 1 else 0) + if q = 0 then 1 else 0
    rw [if_pos (by omega)]
    by_cases h0 : q = 0
    · rw [if_neg (by omega), if_pos h0]; rfl
    · rw [if_pos (by omega), if_neg h0]; rfl
  | w :: r, q, hw, h => by
    have w1 := hw w (by simp)
    have hr : ∀ x ∈ r, 1 ≤ x := fun x hx => hw x (List.mem_cons_of_mem _ hx)
    have s0 := Int.emod_nonneg q (show w ≠ 0 by omega)
    have s1 := Int.emod_lt_of_pos q (show 0 < w by omega)
    have dm := Int.emod_add_mul_ediv q w
    have ih := np_succ r (q % w) hr s0
    show Np (w :: r) (q + 1) = Np (w :: r) q + if rm r (q % w) = 0 then 1 else 0
    have e1 : q + 1 = (q % w + 1) + w * (q / w) := by omega
    have e2 : Np (w :: r) q = Np r (q % w) + q / w * Np r w := by
      show q / w * Np r w + Np r (q % w) = _; omega
    rw [e1, np_add (by omega), e2]
    by_cases hl : q % w + 1 < w
    · rw [np_small (by omega) hl, ih]; omega
    · have e3 : q % w + 1 = w := by omega
      rw [e3, np_self (by omega) (fun x hx => by have := hr x hx; omega)]
      rw [e3] at ih
      rw [ih]; omega
theorem np_mono {ws : List Int} (hw : ∀ x ∈ ws, 1 ≤ x) {p q : Int} (h0 : 0 ≤ p) (h : p ≤ q) : Np ws p ≤ Np ws q := by
  obtain ⟨n, rfl⟩ : ∃ n : Nat, q = p + n := ⟨(q - p).toNat, by omega⟩
  induction n with
  | zero => simp
  | succ n ih =>
    have e := np_succ ws (p + n) hw (by omega)
    have := ih (by omega)
    rw [show p + ((n + 1 : Nat) : Int) = p + n + 1 by omega, e]
    split <;> omega
/-- what the break with an index is -/
theorem nb_ok : ∀ (ws : List Int) (i : Int), (∀ x ∈ ws, 1 ≤ x) → 0 ≤ i → (ws ≠ [] ∨ i = 0) → 0 ≤ Nb ws i ∧ rm ws (Nb ws i) = 0 ∧ Np ws (Nb ws i) = i
  | [], i, _, _, h => by
    rcases h with h | h
    · exact absurd rfl h
    · subst h; exact ⟨Int.le_refl _, rfl, rfl⟩
  | w :: r, i, hw, h0, _ => by
    have w1 := hw w (by simp)
    have hr : ∀ x ∈ r, 1 ≤ x := fun x hx => hw x (List.mem_cons_of_mem _ hx)
    have L := np_pos r w hr w1
    have b0 := Int.emod_nonneg i (show Np r w ≠ 0 by omega)
    have b1 := Int.emod_lt_of_pos i (show 0 < Np r w by omega)
    have a0 := Int.ediv_nonneg h0 (show 0 ≤ Np r w by omega)
    have dm := Int.emod_add_mul_ediv i (Np r w)
    have ne : r ≠ [] ∨ i % Np r w = 0 := by
      cases r with
      | nil =>
        have : Np [] w = 1 := by unfold Np; rw [if_pos (by omega)]
        rw [this] at b1 ⊢; omega
      | cons _ _ => exact .inl (by simp)
    obtain ⟨c0, c1, c2⟩ := nb_ok r (i % Np r w) hr b0 ne
    have c3 : Nb r (i % Np r w) < w := by
      by_cases hlt : Nb r (i % Np r w) < w
      · exact hlt
      · have := np_mono hr (show 0 ≤ w by omega) (show w ≤ Nb r (i % Np r w) by omega)
        omega
    have e : Nb (w :: r) i = Nb r (i % Np r w) + w * (i / Np r w) := by
      show i / Np r w * w + Nb r (i % Np r w) = _
      rw [Int.mul_comm]; omega
    have f := Int.mul_nonneg (show 0 ≤ w by omega) a0
    refine ⟨by omega, ?_, ?_⟩
    · show rm r (Nb (w :: r) i % w) = 0
      rw [e, Int.add_mul_emod_self_left, Int.emod_eq_of_lt c0 c3, c1]
    · rw [e, np_add (by omega), np_small c0 c3, c2]
      rw [Int.mul_comm (Np r w)] at dm; omega
theorem nb_lt {ws : List Int} {i j : Int} (hw : ∀ x ∈ ws, 1 ≤ x) (ne : ws ≠ []) (h0 : 0 ≤ i) (h : i < j) : Nb ws i < Nb ws j := by
  obtain ⟨a0, a1, a2⟩ := nb_ok ws i hw h0 (.inl ne)
  obtain ⟨b0, b1, b2⟩ := nb_ok ws j hw (by omega) (.inl ne)
  by_cases hlt : Nb ws i < Nb ws j
  · exact hlt
  · have := np_mono hw b0 (show Nb ws j ≤ Nb ws i by omega)
    omega
/-- the piece between two breaks -/
theorem nb_col {ws : List Int} {i q : Int} (hw : ∀ x ∈ ws, 1 ≤ x) (ne : ws ≠ []) (h0 : 0 ≤ i) (h1 : Nb ws i ≤ q) (h2 : q < Nb ws (i + 1)) : rm ws q = q - Nb ws i := by
  obtain ⟨a0, a1, a2⟩ := nb_ok ws i hw h0 (.inl ne)
  obtain ⟨b0, b1, b2⟩ := nb_ok ws (i + 1) hw (by omega) (.inl ne)
  have e := np_break ws q (fun x hx => by have := hw x hx; omega) (by omega)
  have r := rm_rng ws q hw (by omega)
  have z := rm_zero hw (show 0 ≤ q by omega)
  obtain ⟨B, hB⟩ : ∃ B, B = q - rm ws q := ⟨_, rfl⟩
  rw [← hB] at e z
  have m1 := np_mono hw (show 0 ≤ q + 1 by omega) (show q + 1 ≤ Nb ws (i + 1) by omega)
  have s1 := np_succ ws (Nb ws i) hw a0
  rw [a1, if_pos rfl, a2] at s1
  have m2 := np_mono hw (show 0 ≤ Nb ws i + 1 by omega) (show Nb ws i + 1 ≤ q + 1 by omega)
  have s2 := np_succ ws B hw (by omega)
  rw [z, if_pos rfl] at s2
  have hle : B = Nb ws i := by
    rcases Int.lt_trichotomy B (Nb ws i) with h | h | h
    · have := np_mono hw (show 0 ≤ B + 1 by omega) (show B + 1 ≤ Nb ws i by omega)
      omega
    · exact h
    · have := np_mono hw (show 0 ≤ Nb ws i + 1 by omega) (show Nb ws i + 1 ≤ B by omega)
      omega
  omega
/-- a break is not beyond its index times the greatest width -/
theorem nb_big : ∀ {ws : List Int} {w i : Int}, (∀ x ∈ ws, 1 ≤ x ∧ x ≤ w) → ws ≠ [] → 0 ≤ i → Nb ws i ≤ i * w
  | [], _, _, _, h, _ => absurd rfl h
  | v :: r, w, i, hw, _, h0 => by
    have v1 := hw v (by simp)
    have hr : ∀ x ∈ r, 1 ≤ x ∧ x ≤ w := fun x hx => hw x (List.mem_cons_of_mem _ hx)
    have L := np_pos r v (fun x hx => (hr x hx).1) v1.1
    have b0 := Int.emod_nonneg i (show Np r v ≠ 0 by omega)
    have b1 := Int.emod_lt_of_pos i (show 0 < Np r v by omega)
    have a0 := Int.ediv_nonneg h0 (show 0 ≤ Np r v by omega)
    have dm := Int.emod_add_mul_ediv i (Np r v)
    have ih : Nb r (i % Np r v) ≤ i % Np r v * w := by
      cases r with
      | nil => show (0 : Int) ≤ _; exact Int.mul_nonneg b0 (by omega)
      | cons x r => exact nb_big hr (by simp) b0
    have c1 : i / Np r v * v ≤ i / Np r v * w := Int.mul_le_mul_of_nonneg_left v1.2 a0
    have c2 : i / Np r v ≤ Np r v * (i / Np r v) := by
      have := Int.mul_le_mul_of_nonneg_right L a0
      omega
    have c3 : i / Np r v * w ≤ Np r v * (i / Np r v) * w := Int.mul_le_mul_of_nonneg_right c2 (by omega)
    show i / Np r v * v + Nb r (i % Np r v) ≤ i * w
    have c4 : i * w = i % Np r v * w + Np r v * (i / Np r v) * w := by rw [← Int.add_mul, dm]
    omega
theorem take_flat (l : List Int) (L : Nat) (hl : l.length = L) : ∀ (n j : Nat) (m : List Int), j ≤ n * L + m.length → L ≠ 0 →
    (((List.replicate n l).flatten ++ m).take j).sum = if j / L < n then (j / L : Nat) * l.sum + (l.take (j % L)).sum else n * l.sum + (m.take (j - n * L)).sum
  | 0, j, m, h, hL => by simp
  | n + 1, j, m, h, hL => by
    rw [List.replicate_succ, List.flatten_cons, List.append_assoc]
    by_cases hj : j < L
    · rw [List.take_append_of_le_length (by omega), if_pos (by rw [Nat.div_eq_of_lt hj]; omega), Nat.div_eq_of_lt hj, Nat.mod_eq_of_lt hj]; simp
    · have e1 : j = L + (j - L) := by omega
      have e2 : j / L = (j - L) / L + 1 := by
        rw [Nat.div_eq j L, if_pos ⟨by omega, by omega⟩]
      have e3 : j % L = (j - L) % L := by rw [Nat.mod_eq j L, if_pos ⟨by omega, by omega⟩]
      have hle : j - L ≤ n * L + m.length := by rw [Nat.succ_mul] at h; omega
      have ih := take_flat l L hl n (j - L) m hle hL
      have e4 : (l ++ ((List.replicate n l).flatten ++ m)).take j = l ++ ((List.replicate n l).flatten ++ m).take (j - L) := by
        rw [List.take_append, hl, List.take_of_length_le (by omega)]
      rw [e4, List.sum_append, ih, e2, e3, Nat.succ_mul]
      by_cases hq : (j - L) / L < n
      · rw [if_pos hq, if_pos (by omega), Int.natCast_add, Int.add_mul]; simp; omega
      · rw [if_neg hq, if_neg (by omega), Int.natCast_add, Int.add_mul, show j - L - n * L = j - (n * L + L) by omega]; simp; omega
/-- where the pieces begin -/
theorem nb_pcs : ∀ (ws : List Int) (p : Int) (j : Nat), (∀ x ∈ ws, 1 ≤ x) → 0 ≤ p → j < (pcs ws p).length → ((pcs ws p).take j).sum = Nb ws j
  | [], p, j, _, h, hj => by
    have : (pcs [] p).length ≤ 1 := by unfold pcs; split <;> simp
    rw [show j = 0 by omega]; rfl
  | w :: r, p, j, hw, h, hj => by
    have w1 := hw w (by simp)
    have hr : ∀ x ∈ r, 1 ≤ x := fun x hx => hw x (List.mem_cons_of_mem _ hx)
    have l1 := pcs_len r w hr (by omega)
    have L := np_pos r w hr w1
    have d0 := Int.emod_nonneg p (show w ≠ 0 by omega)
    have d1 := Int.emod_lt_of_pos p (show 0 < w by omega)
    have l2 := pcs_len r (p % w) hr d0
    have l3 := np_mono hr d0 (show p % w ≤ w by omega)
    obtain ⟨M, hM⟩ : ∃ M, M = (pcs r w).length := ⟨_, rfl⟩
    have lj : j < (p / w).toNat * M + (pcs r (p % w)).length := by
      have : (pcs (w :: r) p).length = (p / w).toNat * M + (pcs r (p % w)).length := by
        show ((List.replicate (p / w).toNat (pcs r w)).flatten ++ pcs r (p % w)).length = _
        rw [List.length_append, List.length_flatten, List.map_replicate, List.sum_replicate_nat, hM]
      omega
    have hq : ((j : Int) / Np r w) = ((j / M : Nat) : Int) := by rw [← l1, ← hM]; rfl
    have hm : ((j : Int) % Np r w) = ((j % M : Nat) : Int) := by rw [← l1, ← hM]; rfl
    show (((List.replicate (p / w).toNat (pcs r w)).flatten ++ pcs r (p % w)).take j).sum = (j : Int) / Np r w * w + Nb r ((j : Int) % Np r w)
    rw [take_flat (pcs r w) M hM.symm _ _ _ (by omega) (by omega), hq, hm]
    by_cases hlt : j / M < (p / w).toNat
    · rw [if_pos hlt, pcs_sum r w hr (by omega), nb_pcs r w (j % M) hr (by omega) (by rw [← hM]; exact Nat.mod_lt _ (by omega))]
    · rw [if_neg hlt, pcs_sum r w hr (by omega)]
      have e1 : j / M = (p / w).toNat := by
        have a : j / M < (p / w).toNat + 1 := by
          rw [Nat.div_lt_iff_lt_mul (by omega), Nat.succ_mul]; omega
        omega
      have e2 := Nat.div_add_mod j M
      rw [e1, Nat.mul_comm] at e2
      have e3 : j - (p / w).toNat * M = j % M := by omega
      rw [e1, e3, nb_pcs r (p % w) (j % M) hr d0 (by omega)]
theorem pcs_one {w p : Int} (hw : 1 ≤ w) (hp : 1 ≤ p) : pcs [w] p = List.replicate ((p - 1) / w).toNat w ++ [(p - 1) % w + 1] := by
  have e1 : pcs [] w = [w] := by unfold pcs; rw [if_pos (by omega)]
  have e2 : ∀ n : Nat, (List.replicate n [w]).flatten = List.replicate n w := fun n => by
    induction n with
    | zero => rfl
    | succ n ih => rw [List.replicate_succ, List.replicate_succ, List.flatten_cons, ih]; rfl
  show (List.replicate (p / w).toNat (pcs [] w)).flatten ++ pcs [] (p % w) = _
  rw [e1, e2]
  have a := Int.emod_add_mul_ediv p w
  have b := Int.emod_add_mul_ediv (p - 1) w
  have a0 := Int.emod_nonneg p (show w ≠ 0 by omega)
  have a1 := Int.emod_lt_of_pos p (show 0 < w by omega)
  have c0 := Int.ediv_nonneg (show 0 ≤ p - 1 by omega) (show 0 ≤ w by omega)
  by_cases h : p % w = 0
  · have e3 : (p - 1) / w = p / w - 1 ∧ (p - 1) % w = w - 1 := by
      have : p - 1 = (w - 1) + w * (p / w - 1) := by rw [Int.mul_sub]; omega
      rw [this, Int.add_mul_emod_self_left, Int.add_mul_ediv_left _ _ (by omega), Int.ediv_eq_zero_of_lt (by omega) (by omega), Int.emod_eq_of_lt (by omega) (by omega)]
      omega
    rw [e3.1] at c0
    rw [e3.1, e3.2, h, show (p / w).toNat = (p / w - 1).toNat + 1 by omega, List.replicate_succ']
    unfold pcs
    rw [if_neg (by omega), show w - 1 + 1 = w by omega]; simp
  · have e3 : (p - 1) / w = p / w ∧ (p - 1) % w = p % w - 1 := by
      have : p - 1 = (p % w - 1) + w * (p / w) := by omega
      rw [this, Int.add_mul_emod_self_left, Int.add_mul_ediv_left _ _ (by omega), Int.ediv_eq_zero_of_lt (by omega) (by omega), Int.emod_eq_of_lt (by omega) (by omega)]
      omega
    rw [e3.1, e3.2]
    unfold pcs
    rw [if_pos (by omega), show p % w - 1 + 1 = p % w by omega]
theorem sum_ge_len : ∀ (l : List Int), (∀ x ∈ l, 1 ≤ x) → (l.length : Int) ≤ l.sum
  | [], _ => Int.le_refl _
  | x :: l, h => by
    have := h x (by simp)
    have := sum_ge_len l fun y hy => h y (List.mem_cons_of_mem _ hy)
    simp; omega
/-- no more pieces than characters -/
theorem pcs_le {ws : List Int} {p : Int} (hw : ∀ x ∈ ws, 1 ≤ x) (hp : 0 ≤ p) : ((pcs ws p).length : Int) ≤ p := by
  have a := sum_ge_len (pcs ws p) fun x hx => (pcs_pos ws p hw hp x hx).1
  rw [pcs_sum ws p hw hp] at a; exact a
end Ma

set_option Elab.async false
set_option linter.all false
set_option maxRecDepth 100000
namespace FX
open PySem PySem.Spec PyProof.Rows L2
open Classical
/-! ### comprehensions of two clauses -/
def WI1 (it : EvI1) (e : En) (Q : List D → Sto → Prop) : Prop := ∃ ds s, it e = .ok ds s ∧ Q ds s
def Rng3P (x y z : D) (s : Sto) (QI : List D → Sto → Prop) : Prop := ∃ j c : Int, x = .int 0 ∧ y = .int j ∧ z = .int c ∧ (0 ≤ j ∧ j < 2 ^ 60 ∧ 1 ≤ c ∧ c < 1000000) ∧ QI (rangeC c ((j + c - 1) / c).toNat) s
def CompW2 (ds : List D) (G : Sto → Prop) (asg : Asg) (it1 : EvI1) (asg1 : Asg) (b : EvE) (loc : Loc) (own1 : List Nat) (s : Sto) (Q : QE) : Prop := ∃ acc s', compL2 G asg it1 asg1 b loc own1 ds [] s = .ok acc s' ∧ Q (.lst acc) 2 s'
section
variable {loc loc' : Loc} {s s' s1 : Sto} {x y : Nat} {d : D} {a b c : EvE} {Q : QE} {it : EvI} {it1 : EvI1} {asg asg1 : Asg} {G : Sto → Prop} {QI1 : List D → Sto → Prop}
theorem wi1_r3 (q : WE a ⟨loc, s⟩ fun x _ s1 => WE b ⟨loc, s1⟩ fun y _ s2 => WE c ⟨loc, s2⟩ fun z _ s3 => Rng3P x y z s3 QI1) : WI1 (itR3 (aConsE a (aConsE b (aConsE c aNilE)))) ⟨loc, s⟩ QI1 := by
  obtain ⟨x, l, s1, e, y, l2, s2, e2, z, l3, s3, e3, j, c, rfl, rfl, rfl, h, q⟩ := q
  exact ⟨_, _, by unfold itR3; simp only [ap_acons, ap_anil, e, e2, e3, R.bind_ok]; rw [if_pos ⟨trivial, h⟩], q⟩
theorem r3p {j c : Int} (h0 : 0 ≤ j) (h1 : j < 2 ^ 60) (h2 : 1 ≤ c) (h3 : c < 1000000) (q : QI1 (((List.range ((j + c - 1) / c).toNat).map fun k : Nat => 0 + (k : Int) * c).map .int) s) : Rng3P (.int 0) (.int j) (.int c) s QI1 := ⟨_, _, rfl, rfl, rfl, ⟨h0, h1, h2, h3⟩, by rw [List.map_map] at q; exact q⟩
theorem we_comp2 {own own1 : List Nat} (q : WI it ⟨loc, s⟩ fun ds G s1 => CompW2 ds G asg it1 asg1 b (wipeL loc own) own1 s1 Q) : WE (eComp2 it asg it1 asg1 b own own1) ⟨loc, s⟩ Q := by
  obtain ⟨ds, G, s1, e, acc, s', e2, q⟩ := q
  exact ⟨_, _, _, by unfold eComp2; simp only [e, R.bind_ok, e2], q⟩
theorem comp2_go {own1 : List Nat} (F : Int → List Int) : ∀ (ns acc : List Int), G s → acc.length + (ns.flatMap F).length ≤ 16777216 →
    (∀ z ∈ ns, ∃ (ms : List Int) (f : Int → Int), it1 ⟨loc.set x (some (.int z, false)), s⟩ = .ok (ms.map .int) s ∧ ms.map f = F z ∧ ∀ m ∈ ms, WE b ⟨(wipeL (loc.set x (some (.int z, false))) own1).set y (some (.int m, false)), s⟩ fun v _ s2 => v = .int (f m) ∧ s2 = s) →
    compL2 G (aName x) it1 (aName y) b loc own1 (ns.map .int) (acc.map .int) s = .ok ((acc ++ ns.flatMap F).map .int) s
  | [], acc, hG, _, _ => by
    show compL2 G (aName x) it1 (aName y) b loc own1 [] (acc.map .int) s = _
    unfold compL2; rw [if_pos hG]; simp
  | z :: ns, acc, hG, hz, h => by
    obtain ⟨ms, f, e1, e2, e3⟩ := h z (by simp)
    simp only [List.flatMap_cons, List.length_append] at hz
    show compL2 G (aName x) it1 (aName y) b loc own1 (.int z :: ns.map .int) (acc.map .int) s = _
    unfold compL2
    rw [if_pos hG]
    show (it1 ⟨loc.set x (some (.int z, false)), s⟩).bindN _ = _
    rw [e1]
    simp only [R.bindN_ok]
    have hlen : ms.length = (F z).length := by rw [← e2, List.length_map]
    have hsz : (acc.map D.int).length + (ms.map D.int).length ≤ sizeLine := by rw [size_eq, List.length_map, List.length_map]; omega
    have hc := comp_map (G := fun _ => True) (asg := aName y) (el := b) (loc := wipeL (loc.set x (some (.int z, false))) own1) (s := s) (fun d => match d with | .int m => .int (f m) | d => d) (ms.map .int) (acc.map .int) trivial hsz (fun d hd => by
      obtain ⟨m, hm, rfl⟩ := List.mem_map.mp hd
      obtain ⟨v, l, s2, e, rfl, rfl⟩ := e3 m hm
      exact ⟨_, l, rfl, rfl, e⟩)
    show (compL (fun _ => True) (aName y) cYes b (wipeL (loc.set x (some (.int z, false))) own1) (ms.map .int) (acc.map .int) s).bindN _ = _
    rw [hc]
    simp only [R.bindN_ok]
    have e4 : (acc.map D.int ++ (ms.map D.int).map fun d => match d with | .int m => .int (f m) | d => d) = (acc ++ F z).map D.int := by
      rw [List.map_append, ← e2, List.map_map, List.map_map]; rfl
    rw [e4, comp2_go F ns (acc ++ F z) hG (by rw [List.length_append]; omega) fun z' hz' => h z' (List.mem_cons_of_mem _ hz')]
    simp
theorem comp2_ints {own1 : List Nat} {ns : List Int} (F : Int → List Int) (hG : G s) (hz : (ns.flatMap F).length ≤ 16777216)
    (st : ∀ z ∈ ns, WI1 it1 ⟨loc.set x (some (.int z, false)), s⟩ fun ds s1 => s1 = s ∧ ∃ (ms : List Int) (f : Int → Int), ds = ms.map .int ∧ ms.map f = F z ∧ ∀ m ∈ ms, WE b ⟨(wipeL (loc.set x (some (.int z, false))) own1).set y (some (.int m, false)), s⟩ fun v _ s2 => v = .int (f m) ∧ s2 = s)
    (q : Q (.lst ((ns.flatMap F).map .int)) 2 s) : CompW2 (ns.map .int) G (aName x) it1 (aName y) b loc own1 s Q := by
  refine ⟨_, _, comp2_go F ns [] hG (by simpa using hz) (fun z hz => ?_), by simpa using q⟩
  obtain ⟨ds, s1, e, rfl, ms, f, rfl, e2, e3⟩ := st z hz
  exact ⟨ms, f, e, e2, e3⟩
end
end FX
namespace Ma
open FX
/-- the pieces of one program, by where they begin -/
theorem pcs_rng {w p : Int} (hw : 1 ≤ w) (hp : 1 ≤ p) : ((List.range ((p + w - 1) / w).toNat).map fun k : Nat => 0 + (k : Int) * w).map (fun z => min w (p - z)) = pcs [w] p := by
  rw [pcs_one hw hp, List.map_map]
  have e : (p + w - 1) / w = (p - 1) / w + 1 := by
    rw [show p + w - 1 = (p - 1) + w * 1 by omega, Int.add_mul_ediv_left _ _ (by omega)]
  have c0 := Int.ediv_nonneg (show 0 ≤ p - 1 by omega) (show 0 ≤ w by omega)
  have dm := Int.emod_add_mul_ediv (p - 1) w
  have m0 := Int.emod_nonneg (p - 1) (show w ≠ 0 by omega)
  have m1 := Int.emod_lt_of_pos (p - 1) (show 0 < w by omega)
  rw [e]
  obtain ⟨g, hg⟩ : ∃ g : Nat, (g : Int) = (p - 1) / w := ⟨((p - 1) / w).toNat, by omega⟩
  rw [← hg] at dm ⊢
  rw [show ((g : Int) + 1).toNat = g + 1 by omega, show (g : Int).toNat = g by omega, List.range_succ, List.map_append]
  congr 1
  · apply List.ext_getElem
    · simp
    · intro k h1 h2
      simp only [List.length_map, List.length_range] at h1
      simp only [List.getElem_map, List.getElem_range, List.getElem_replicate, Function.comp_apply]
      have h3 : ((k : Int) + 1) * w ≤ g * w := Int.mul_le_mul_of_nonneg_right (by omega) (by omega)
      rw [Int.add_mul, Int.one_mul] at h3
      rw [Int.mul_comm] at dm
      rw [Int.min_def]; split <;> omega
  · simp only [List.map_cons, List.map_nil, Function.comp_apply]
    rw [Int.mul_comm] at dm
    congr 1
    rw [Int.min_def]; split <;> omega
end Ma

set_option Elab.async false
set_option linter.all false
set_option maxRecDepth 100000
namespace Ma
open FX
theorem flatMap_rep (f : Int → List Int) (l : List Int) (n : Nat) : ((List.replicate n l).flatten).flatMap f = (List.replicate n (l.flatMap f)).flatten := by
  induction n with
  | zero => rfl
  | succ n ih => rw [List.replicate_succ, List.replicate_succ, List.flatten_cons, List.flatten_cons, List.flatMap_append, ih]
/-- first the one programs, then the others -/
theorem pcs_app : ∀ (a b : List Int) (p : Int), (∀ x ∈ a, 1 ≤ x) → 0 ≤ p → pcs (a ++ b) p = (pcs a p).flatMap (pcs b)
  | [], b, p, _, hp => by
    by_cases h : 0 < p
    · have : pcs [] p = [p] := by unfold pcs; rw [if_pos h]
      rw [this]; simp
    · have : pcs [] p = [] := by unfold pcs; rw [if_neg h]
      rw [this]
      rw [show p = 0 by omega]; exact pcs_zero b
  | v :: r, b, p, hw, hp => by
    have v1 := hw v (by simp)
    have hr : ∀ x ∈ r, 1 ≤ x := fun x hx => hw x (List.mem_cons_of_mem _ hx)
    show (List.replicate (p / v).toNat (pcs (r ++ b) v)).flatten ++ pcs (r ++ b) (p % v) = _
    rw [pcs_app r b v hr (by omega), pcs_app r b (p % v) hr (Int.emod_nonneg _ (by omega))]
    show _ = ((List.replicate (p / v).toNat (pcs r v)).flatten ++ pcs r (p % v)).flatMap (pcs b)
    rw [List.flatMap_append, flatMap_rep]
/-- no piece is longer than a width -/
theorem pcs_le_w : ∀ (ws : List Int) (p : Int), (∀ x ∈ ws, 1 ≤ x) → 0 ≤ p → ∀ x ∈ pcs ws p, ∀ w ∈ ws, x ≤ w
  | [], _, _, _, _, _, _, h => absurd h (by simp)
  | v :: r, p, hw, h, x, hx, w, hm => by
    have v1 := hw v (by simp)
    have hr : ∀ x ∈ r, 1 ≤ x := fun x hx => hw x (List.mem_cons_of_mem _ hx)
    have d0 := Int.emod_nonneg p (show v ≠ 0 by omega)
    have d1 := Int.emod_lt_of_pos p (show 0 < v by omega)
    have key : (x ∈ pcs r v) ∨ x ∈ pcs r (p % v) := by
      unfold pcs at hx
      rcases List.mem_append.mp hx with hx | hx
      · obtain ⟨l, hl, hx⟩ := List.mem_flatten.mp hx
        obtain ⟨_, rfl⟩ := List.mem_replicate.mp hl
        exact .inl hx
      · exact .inr hx
    rcases List.mem_cons.mp hm with rfl | hm
    · rcases key with k | k
      · exact (pcs_pos r w hr (by omega) x k).2
      · have := (pcs_pos r (p % w) hr d0 x k).2; omega
    · rcases key with k | k
      · exact pcs_le_w r v hr (by omega) x k w hm
      · exact pcs_le_w r (p % v) hr d0 x k w hm
/-- a line that is short enough is one piece -/
theorem pcs_fix : ∀ (ws : List Int) (x : Int), 1 ≤ x → (∀ w ∈ ws, x ≤ w) → pcs ws x = [x]
  | [], x, h, _ => by unfold pcs; rw [if_pos (by omega)]
  | v :: r, x, h, hw => by
    have v1 := hw v (by simp)
    have ih := pcs_fix r x h fun w hm => hw w (List.mem_cons_of_mem _ hm)
    unfold pcs
    by_cases hv : x = v
    · subst hv
      rw [Int.ediv_self (by omega), Int.emod_self, pcs_zero, ih]; rfl
    · rw [Int.ediv_eq_zero_of_lt (by omega) (by omega), Int.emod_eq_of_lt (by omega) (by omega), ih]; rfl
theorem flatMap_one {f : Int → List Int} : ∀ (l : List Int), (∀ x ∈ l, f x = [x]) → l.flatMap f = l
  | [], _ => rfl
  | x :: l, h => by rw [List.flatMap_cons, h x (by simp), flatMap_one l fun y hy => h y (List.mem_cons_of_mem _ hy)]; rfl
/-- once more changes nothing -/
theorem pcs_twice {ws : List Int} {p : Int} (hw : ∀ x ∈ ws, 1 ≤ x) (hp : 0 ≤ p) : pcs (ws ++ ws) p = pcs ws p := by
  rw [pcs_app ws ws p hw hp]
  exact flatMap_one _ fun x hx => pcs_fix ws x (pcs_pos ws p hw hp x hx).1 (pcs_le_w ws p hw hp x hx)
/-- where the pieces of a line begin -/
def beg (ws : List Int) (p : Int) : List Int := (List.range (pcs ws p).length).map fun j : Nat => Nb ws (j : Int)
theorem nb_np {ws : List Int} {q : Int} (hw : ∀ x ∈ ws, 1 ≤ x) (h0 : 0 ≤ q) (hb : rm ws q = 0) : Nb ws (Np ws q) = q := by
  have ne : ws ≠ [] ∨ Np ws q = 0 := by
    cases ws with
    | nil => right; rw [show q = 0 from hb]; rfl
    | cons _ _ => left; simp
  obtain ⟨a0, a1, a2⟩ := nb_ok ws (Np ws q) hw (np_le ws q hw h0).1 ne
  rcases Int.lt_trichotomy (Nb ws (Np ws q)) q with h | h | h
  · have e := np_succ ws (Nb ws (Np ws q)) hw a0
    rw [a1, if_pos rfl, a2] at e
    have := np_mono hw (show 0 ≤ Nb ws (Np ws q) + 1 by omega) (show Nb ws (Np ws q) + 1 ≤ q by omega)
    omega
  · exact h
  · have e := np_succ ws q hw h0
    rw [hb, if_pos rfl] at e
    have := np_mono hw (show 0 ≤ q + 1 by omega) (show q + 1 ≤ Nb ws (Np ws q) by omega)
    omega
theorem beg_brk {ws : List Int} (hw : ∀ x ∈ ws, 1 ≤ x) : ∀ n : Nat, (rg 0 n).filter (fun q => decide (rm ws q = 0)) = beg ws n
  | 0 => by unfold beg; rw [show ((0 : Nat) : Int) = 0 by rfl, pcs_zero]; rfl
  | n + 1 => by
    have ih := beg_brk hw n
    have e : rg 0 (n + 1) = rg 0 n ++ [(n : Int)] := by unfold rg; rw [List.range_succ]; simp
    have s := np_succ ws n hw (by omega)
    have l1 := pcs_len ws n hw (by omega)
    have l2 := pcs_len ws (n + 1) hw (by omega)
    rw [e, List.filter_append, ih]
    unfold beg
    rw [show ((n + 1 : Nat) : Int) = (n : Int) + 1 by omega]
    by_cases h : rm ws n = 0
    · rw [if_pos h] at s
      have b := nb_np hw (show (0 : Int) ≤ n by omega) h
      rw [show (pcs ws (↑n + 1)).length = (pcs ws ↑n).length + 1 by omega, List.range_succ, List.map_append]
      congr 1
      simp only [List.filter_cons, List.filter_nil, h, decide_true, if_true, List.map_cons, List.map_nil]
      rw [l1, b]
    · rw [if_neg h] at s
      rw [show (pcs ws (↑n + 1)).length = (pcs ws ↑n).length by omega]
      simp [h]
/-- where the pieces end -/
def ends (l : List Int) : List Int := (List.range l.length).map fun j : Nat => (l.take (j + 1)).sum
theorem ends_snoc {l : List Int} {x : Int} : ends (l ++ [x]) = ends l ++ [l.sum + x] := by
  unfold ends
  rw [List.length_append, List.length_singleton, List.range_succ, List.map_append]
  congr 1
  · apply List.map_congr_left
    intro j hj
    rw [List.mem_range] at hj
    rw [List.take_append_of_le_length (by omega)]
  · simp only [List.map_cons, List.map_nil]
    rw [List.take_of_length_le (by simp)]; simp
theorem ends_pcs {ws : List Int} {p : Int} (hw : ∀ x ∈ ws, 1 ≤ x) (hp : 1 ≤ p) : ends (pcs ws p) = (beg ws p).tail ++ [p] := by
  have l1 := pcs_len ws p hw (by omega)
  have L := np_pos ws p hw hp
  obtain ⟨m, hm⟩ : ∃ m, (pcs ws p).length = m + 1 := ⟨(pcs ws p).length - 1, by omega⟩
  have e0 : (beg ws p).tail = (List.range m).map fun j : Nat => Nb ws ((j + 1 : Nat) : Int) := by
    unfold beg
    rw [hm, List.range_succ_eq_map, List.map_cons, List.tail_cons, List.map_map]; rfl
  rw [e0]
  unfold ends
  rw [hm, List.range_succ, List.map_append]
  congr 1
  · apply List.ext_getElem
    · simp
    · intro j h1 h2
      simp only [List.length_map, List.length_range] at h1
      have e := nb_pcs ws p (j + 1) hw (by omega) (by omega)
      simp [e]
  · simp only [List.map_cons, List.map_nil]
    rw [List.take_of_length_le (by omega), pcs_sum ws p hw (by omega)]
theorem beg_cons {ws : List Int} {p : Int} (hw : ∀ x ∈ ws, 1 ≤ x) (hp : 1 ≤ p) : beg ws p = 0 :: (beg ws p).tail := by
  have l1 := pcs_len ws p hw (by omega)
  have L := np_pos ws p hw hp
  obtain ⟨m, hm⟩ : ∃ m, (pcs ws p).length = m + 1 := ⟨(pcs ws p).length - 1, by omega⟩
  have z : Nb ws ((0 : Nat) : Int) = 0 := by
    have h0 : rm ws 0 = 0 := by have := rm_rng ws 0 hw (by omega); omega
    have := nb_np hw (show (0 : Int) ≤ 0 by omega) h0
    rw [np_zero ws fun x hx => by have := hw x hx; omega] at this; exact this
  unfold beg
  rw [hm, List.range_succ_eq_map, List.map_cons, z]; rfl
/-- the ends of a shorter line -/
theorem ends_flt {ws : List Int} {p q : Int} (hw : ∀ x ∈ ws, 1 ≤ x) (hq : 1 ≤ q) (h : q ≤ p) : ends (pcs ws q) = (ends (pcs ws p)).filter (fun z => decide (z < q)) ++ [q] := by
  obtain ⟨m, rfl⟩ : ∃ m : Nat, (m : Int) = q := ⟨q.toNat, by omega⟩
  obtain ⟨n, rfl⟩ : ∃ n : Nat, (n : Int) = p := ⟨p.toNat, by omega⟩
  rw [ends_pcs hw hq, ends_pcs hw (by omega)]
  congr 1
  rw [List.filter_append, show [(n : Int)].filter (fun z => decide (z < (m : Int))) = [] by simp; omega, List.append_nil]
  have c1 := beg_cons hw hq
  have c2 := beg_cons hw (show (1 : Int) ≤ n by omega)
  have key : beg ws m = (beg ws n).filter (fun z => decide (z < (m : Int))) := by
    rw [← beg_brk hw, ← beg_brk hw, List.filter_filter]
    obtain ⟨k, rfl⟩ : ∃ k, n = m + k := ⟨n - m, by omega⟩
    have e : rg 0 (m + k) = rg 0 m ++ (List.range k).map (fun j : Nat => 0 + ((m + j : Nat) : Int)) := by
      unfold rg; rw [List.range_add, List.map_append, List.map_map]; rfl
    rw [e, List.filter_append]
    have e1 : ((List.range k).map (fun j : Nat => 0 + ((m + j : Nat) : Int))).filter (fun z => decide (z < (m : Int)) && decide (rm ws z = 0)) = [] := by
      rw [List.filter_eq_nil_iff]
      intro z hz
      obtain ⟨j, _, rfl⟩ := List.mem_map.mp hz
      simp; omega
    rw [e1, List.append_nil]
    apply List.filter_congr
    intro z hz
    unfold rg at hz
    obtain ⟨j, hj, rfl⟩ := List.mem_map.mp hz
    rw [List.mem_range] at hj
    simp; omega
  rw [c2, List.filter_cons, if_pos (by simp; omega)] at key
  rw [key]; rfl
end Ma
namespace FX
theorem cut_m1 {ns : List Int} : cutD (ns.map .int) none (some (-1)) = ns.dropLast.map .int := by
  rw [cut_map, six_no]
  congr 1
  have e : HT.sIx ns.length ns.length (some (-1)) = ns.length - 1 := by
    unfold HT.sIx; first | (simp only; split <;> omega) | (simp; omega)
  rw [e, List.dropLast_eq_take]; simp
theorem sq_m1 {d : D} {s : Sto} {ns : List Int} {Q : QE} (hv : vw s d = .lst (ns.map .int)) (q : Q (.lst (ns.dropLast.map .int)) 2 s) : SlQ d none (some (-1)) s Q := ⟨_, hv, by rw [cut_m1]; exact q⟩
end FX

set_option Elab.async false
set_option linter.all false
set_option maxRecDepth 100000
namespace Ma
open FX
/-! ### the table and the pieces -/
def sumF (f : Int → Int) (l : List Int) : Int := (l.map f).sum
theorem sumF_app {f : Int → Int} {a b : List Int} : sumF f (a ++ b) = sumF f a + sumF f b := by unfold sumF; rw [List.map_append, List.sum_append]
theorem sumF_rep {f : Int → Int} {l : List Int} : ∀ n : Nat, sumF f (List.replicate n l).flatten = n * sumF f l
  | 0 => by simp [sumF]
  | n + 1 => by
    rw [List.replicate_succ, List.flatten_cons, sumF_app, sumF_rep n, Int.natCast_add, Int.add_mul]; simp; omega
theorem over_pcs (f : Int → Int) : ∀ (ws : List Int) (p : Int), (∀ x ∈ ws, 1 ≤ x) → 0 ≤ p → (if 0 < p then over ws f p else 0) = sumF f (pcs ws p)
  | [], p, _, h => by
    unfold over pcs sumF
    by_cases q : 0 < p
    · rw [if_pos q, if_pos q]; simp
    · rw [if_neg q, if_neg q]; rfl
  | w :: r, p, hw, h => by
    have w1 := hw w (by simp)
    have hr : ∀ x ∈ r, 1 ≤ x := fun x hx => hw x (List.mem_cons_of_mem _ hx)
    have i1 := over_pcs f r w hr (by omega)
    have m0 := Int.emod_nonneg p (show w ≠ 0 by omega)
    have i2 := over_pcs f r (p % w) hr m0
    have d0 := Int.ediv_nonneg h (show 0 ≤ w by omega)
    rw [if_pos (by omega)] at i1
    unfold pcs
    rw [sumF_app, sumF_rep, ← i1, ← i2, Int.toNat_of_nonneg d0]
    by_cases q : 0 < p
    · rw [if_pos q]; rfl
    · rw [if_neg q]
      have : p = 0 := by omega
      subst this
      simp
theorem tal_sumF {ws : List Int} {p : Int} (hw : ∀ x ∈ ws, 1 ≤ x) (h : 0 ≤ p) (f : Int → Int) : wt f (talT ws p) = sumF f (pcs ws p) := by
  rw [wt_tal h ws (fun x hx => by have := hw x hx; omega), ← over_pcs f ws p hw h]
  unfold tab0
  by_cases q : 0 < p
  · rw [if_pos q, if_pos q]; simp [wt]
  · rw [if_neg q, if_neg q]; rfl
def ind (k : Int) : Int → Int := fun x => if x = k then 1 else 0
theorem wt_ind {k : Int} : ∀ {t : Tab}, (t.map (·.1)).Nodup → wt (ind k) t = getT t k
  | [], _ => rfl
  | (a, b) :: r, h => by
    rw [List.map_cons, List.nodup_cons] at h
    unfold getT
    have e : wt (ind k) ((a, b) :: r) = b * ind k a + wt (ind k) r := by simp [wt]
    rw [e, wt_ind h.2]
    by_cases q : a = k
    · rw [if_pos q]; subst q
      rw [getT_no h.1]; simp [ind]
    · rw [if_neg q]; simp [ind, q]
theorem sumF_ind {k : Int} : ∀ (l : List Int), sumF (ind k) l = (l.count k : Nat)
  | [] => rfl
  | x :: r => by
    have e : sumF (ind k) (x :: r) = ind k x + sumF (ind k) r := by simp [sumF]
    rw [e, sumF_ind r, List.count_cons]
    unfold ind
    by_cases q : x = k
    · subst q; simp; omega
    · simp [q]
/-- the table tells how often a length occurs -/
theorem tal_count {ws : List Int} {p : Int} (hw : ∀ x ∈ ws, 1 ≤ x) (h : 0 ≤ p) (k : Int) : getT (talT ws p) k = ((pcs ws p).count k : Nat) := by
  have g := tal_good h ws (fun x hx => by have := hw x hx; omega)
  rw [← wt_ind g.nd, tal_sumF hw h, sumF_ind]
theorem getT_mem : ∀ {t : Tab} {k : Int}, (∀ x ∈ t, 0 < x.1 ∧ 0 < x.2) → (k ∈ t.map (·.1) ↔ 0 < getT t k)
  | [], k, _ => by simp [getT]
  | (a, b) :: r, k, h => by
    have h0 := h (a, b) (by simp)
    have ih := getT_mem (k := k) fun x hx => h x (List.mem_cons_of_mem _ hx)
    unfold getT
    rw [List.map_cons, List.mem_cons]
    by_cases q : a = k
    · rw [if_pos q]; simp [q, h0.2]
    · rw [if_neg q, ← ih]
      constructor
      · rintro (z | z)
        · exact absurd z.symm q
        · exact z
      · exact .inr
theorem tal_mem {ws : List Int} {p : Int} (hw : ∀ x ∈ ws, 1 ≤ x) (h : 0 ≤ p) (k : Int) : k ∈ (talT ws p).map (·.1) ↔ k ∈ pcs ws p := by
  have g := tal_good h ws (fun x hx => by have := hw x hx; omega)
  rw [getT_mem g.pos, tal_count hw h, ← List.count_pos_iff (a := k) (l := pcs ws p)]
  omega
theorem srt_sset {l ns : List Int} (nd : l.Nodup) (h : ∀ z, z ∈ l ↔ z ∈ ns) : srt l = sset ns := by
  refine sset_unique ?_ fun z => ((srt_perm l).mem_iff).trans (h z)
  have h1 := srt_le l
  have h2 : (srt l).Nodup := (srt_perm l).nodup_iff.mpr nd
  clear h
  revert h1 h2
  generalize srt l = a
  intro h1 h2
  refine (List.Pairwise.and h1 h2).imp fun {x y} ⟨u, v⟩ => ?_
  have : x ≠ y := v
  omega
/-- the lengths of the pieces of a line, rising -/
theorem tal_keys {ws : List Int} {p : Int} (hw : ∀ x ∈ ws, 1 ≤ x) (h : 0 ≤ p) : srt ((talT ws p).map (·.1)) = sset (pcs ws p) :=
  srt_sset (tal_good h ws (fun x hx => by have := hw x hx; omega)).nd (tal_mem hw h)
theorem brk1_keys {w : Int} {t : Tab} {x : Int × Int} : ∀ z ∈ (brk1 w t x).map (·.1), z ∈ t.map (·.1) ∨ z = w ∨ z = x.1 % w := by
  intro z hz
  have one : ∀ (t : Tab) (k v : Int), ∀ z ∈ (addT t k v).map (·.1), z ∈ t.map (·.1) ∨ z = k := by
    intro t k v z hz
    rw [addT_keys] at hz
    split at hz
    · exact .inl hz
    · rcases List.mem_append.mp hz with q | q
      · exact .inl q
      · exact .inr (List.mem_singleton.mp q)
  have hz' : z ∈ (if 0 < x.1 % w then addT (if 0 < w ∧ 0 < x.1 / w then addT t w (x.2 * (x.1 / w)) else t) (x.1 % w) (x.2 * 1) else (if 0 < w ∧ 0 < x.1 / w then addT t w (x.2 * (x.1 / w)) else t)).map (·.1) := hz
  have two : z ∈ (if 0 < w ∧ 0 < x.1 / w then addT t w (x.2 * (x.1 / w)) else t).map (·.1) → z ∈ t.map (·.1) ∨ z = w := by
    intro q
    split at q
    · exact one _ _ _ z q
    · exact .inl q
  split at hz'
  · rcases one _ _ _ z hz' with q | q
    · rcases two q with q | q
      · exact .inl q
      · exact .inr (.inl q)
    · exact .inr (.inr q)
  · rcases two hz' with q | q
    · exact .inl q
    · exact .inr (.inl q)
theorem brk_keys {w : Int} {t : Tab} : ∀ z ∈ (brk w t).map (·.1), z ∈ w :: t.map fun x => x.1 % w := by
  have key : ∀ (r acc : Tab), (∀ z ∈ acc.map (·.1), z ∈ w :: t.map fun x => x.1 % w) → (∀ x ∈ r, x ∈ t) → ∀ z ∈ (r.foldl (brk1 w) acc).map (·.1), z ∈ w :: t.map fun x => x.1 % w := by
    intro r
    induction r with
    | nil => intro acc h _; exact h
    | cons x r ih =>
      intro acc h hr
      refine ih (brk1 w acc x) (fun z hz => ?_) fun y hy => hr y (List.mem_cons_of_mem _ hy)
      rcases brk1_keys z hz with q | q | q
      · exact h z q
      · rw [q]; simp
      · rw [q]; exact List.mem_cons_of_mem _ (List.mem_map.mpr ⟨x, hr x (by simp), rfl⟩)
  exact key t [] (by simp) fun x hx => hx
theorem brk_size {w q : Int} {t : Tab} (hw : 0 < w) (h : Good q t) : (brk w t).length ≤ t.length + 1 := by
  have g := brk_good hw h
  have := List.Nodup.length_le_of_subset g.nd (l₂ := w :: t.map fun x => x.1 % w) fun z hz => brk_keys z hz
  simpa using this
/-- with each program at most one more length -/
theorem tal_size {p : Int} (h : 0 ≤ p) (ws : List Int) (hw : ∀ x ∈ ws, 1 ≤ x) : (talT ws p).length ≤ ws.length + 1 := by
  have key : ∀ (ws : List Int) (t : Tab), (∀ x ∈ ws, 1 ≤ x) → Good p t → (ws.foldl (fun t w => brk w t) t).length ≤ t.length + ws.length := by
    intro ws
    induction ws with
    | nil => intro t _ _; exact Nat.le_refl _
    | cons w r ih =>
      intro t hw g
      have w1 := hw w (by simp)
      have := ih (brk w t) (fun x hx => hw x (List.mem_cons_of_mem _ hx)) (brk_good (by omega) g)
      have := brk_size (w := w) (by omega) g
      simp only [List.foldl_cons, List.length_cons] at *
      omega
  have := key ws (tab0 p) hw (tab0_good h)
  have h2 : (tab0 p).length ≤ 1 := by unfold tab0; split <;> simp
  unfold talT
  omega
/-- pieces have at most one more length than there are programs -/
theorem sset_size {ws : List Int} {p : Int} (hw : ∀ x ∈ ws, 1 ≤ x) (h : 0 ≤ p) : (sset (pcs ws p)).length ≤ ws.length + 1 := by
  have := rising_len (sset_lt (l := pcs ws p)) (b := (talT ws p).map (·.1)) fun z hz => (tal_mem hw h z).mpr (mem_sset.mp hz)
  have := tal_size h ws hw
  simp at *
  omega
/-- a shorter line: the pieces that fit, and what is left -/
theorem pcs_pre : ∀ (ws : List Int) (p q : Int), (∀ x ∈ ws, 1 ≤ x) → 0 ≤ p → p ≤ q → ∃ l r, pcs ws q = l ++ r ∧ pcs ws p = l ++ if rm ws p = 0 then [] else [rm ws p]
  | [], p, q, _, h0, h => ⟨[], pcs [] q, rfl, by
      show (if 0 < p then [p] else []) = if p = 0 then [] else [p]
      by_cases z : p = 0
      · rw [if_pos z, if_neg (by omega)]
      · rw [if_neg z, if_pos (by omega)]⟩
  | w :: ws, p, q, hw, h0, h => by
    have w1 := hw w (by simp)
    have hr : ∀ x ∈ ws, 1 ≤ x := fun x hx => hw x (List.mem_cons_of_mem _ hx)
    have dp := Int.emod_add_mul_ediv p w
    have dq := Int.emod_add_mul_ediv q w
    have p0 := Int.emod_nonneg p (show w ≠ 0 by omega)
    have p1 := Int.emod_lt_of_pos p (show 0 < w by omega)
    have q0 := Int.emod_nonneg q (show w ≠ 0 by omega)
    have q1 := Int.emod_lt_of_pos q (show 0 < w by omega)
    have a0 := Int.ediv_nonneg h0 (show 0 ≤ w by omega)
    have ab : p / w ≤ q / w := Int.ediv_le_ediv (by omega) h
    have e : rm (w :: ws) p = rm ws (p % w) := rfl
    rw [e]
    obtain ⟨a, ha⟩ : ∃ a : Nat, p / w = a := ⟨(p / w).toNat, by omega⟩
    obtain ⟨c, hc⟩ : ∃ c : Nat, q / w = a + c := ⟨(q / w - a).toNat, by omega⟩
    have up : pcs (w :: ws) p = (List.replicate a (pcs ws w)).flatten ++ pcs ws (p % w) := by
      show (List.replicate (p / w).toNat (pcs ws w)).flatten ++ _ = _
      rw [ha]; rfl
    have uq : pcs (w :: ws) q = (List.replicate a (pcs ws w)).flatten ++ ((List.replicate c (pcs ws w)).flatten ++ pcs ws (q % w)) := by
      show (List.replicate (q / w).toNat (pcs ws w)).flatten ++ _ = _
      rw [hc, show ((a : Int) + c).toNat = a + c by omega, ← List.replicate_append_replicate, List.flatten_append, List.append_assoc]
    rw [up, uq]
    cases c with
    | zero =>
      have : p % w ≤ q % w := by
        have e1 : p / w = q / w := by omega
        rw [e1] at dp
        omega
      obtain ⟨l, r, e1, e2⟩ := pcs_pre ws (p % w) (q % w) hr p0 this
      exact ⟨(List.replicate a (pcs ws w)).flatten ++ l, r, by simp [e1], by rw [e2, List.append_assoc]⟩
    | succ c =>
      obtain ⟨l, r, e1, e2⟩ := pcs_pre ws (p % w) w hr p0 (by omega)
      refine ⟨(List.replicate a (pcs ws w)).flatten ++ l, r ++ ((List.replicate c (pcs ws w)).flatten ++ pcs ws (q % w)), ?_, by rw [e2, List.append_assoc]⟩
      rw [List.replicate_succ, List.flatten_cons, e1]; simp
/-- the pieces of a block of the next width and of what is left of it -/
theorem pcs_next {v w : Int} {r : List Int} (hw : ∀ x ∈ v :: r, 1 ≤ x) (h : v ≤ w) (z : Int) : z ∈ pcs (v :: r) w ↔ z ∈ pcs r v ∨ (z = rm (v :: r) w ∧ 0 < z) := by
  have v1 := hw v (by simp)
  have hr : ∀ x ∈ r, 1 ≤ x := fun x hx => hw x (List.mem_cons_of_mem _ hx)
  have m0 := Int.emod_nonneg w (show v ≠ 0 by omega)
  have m1 := Int.emod_lt_of_pos w (show 0 < v by omega)
  have d1 : 1 ≤ w / v := (Int.le_ediv_iff_mul_le (by omega)).mpr (by omega)
  obtain ⟨l, r', e1, e2⟩ := pcs_pre r (w % v) v hr m0 (by omega)
  have rr := rm_rng r (w % v) hr m0
  obtain ⟨n, hn⟩ : ∃ n : Nat, (w / v).toNat = n + 1 := ⟨(w / v).toNat - 1, by omega⟩
  have e0 : pcs (v :: r) w = (List.replicate (w / v).toNat (pcs r v)).flatten ++ pcs r (w % v) := rfl
  rw [e0, hn, List.mem_append, List.mem_flatten, e2]
  show _ ↔ _ ∨ (z = rm r (w % v) ∧ 0 < z)
  constructor
  · rintro (⟨l2, h1, h2⟩ | h1)
    · rw [(List.mem_replicate.mp h1).2] at h2; exact .inl h2
    · rcases List.mem_append.mp h1 with h1 | h1
      · left; rw [e1]; exact List.mem_append_left _ h1
      · right
        split at h1
        · simp at h1
        · have := List.mem_singleton.mp h1
          exact ⟨this, by omega⟩
  · rintro (h1 | ⟨h1, h2⟩)
    · exact .inl ⟨pcs r v, List.mem_replicate.mpr ⟨by omega, rfl⟩, h1⟩
    · right
      refine List.mem_append_right _ ?_
      rw [if_neg (by omega), h1]; simp
/-- what remainders leave -/
def rests : List Int → List Int
  | [] => []
  | w :: r => (if 0 < rm r w then [rm r w] else []) ++ rests r
theorem rests_pcs : ∀ (r : List Int) (w : Int), (w :: r).Pairwise (· > ·) → (∀ x ∈ w :: r, 1 ≤ x) → ∀ z, z ∈ rests (w :: r) ↔ z ∈ pcs r w
  | [], w, _, hw, z => by
    have := hw w (by simp)
    unfold rests rests pcs
    rw [show rm [] w = w from rfl, if_pos (by omega)]; simp
  | v :: r, w, hp, hw, z => by
    obtain ⟨h1, h2⟩ := List.pairwise_cons.mp hp
    have hv := h1 v (by simp)
    have hw' : ∀ x ∈ v :: r, 1 ≤ x := fun x hx => hw x (List.mem_cons_of_mem _ hx)
    rw [pcs_next hw' (by omega), ← rests_pcs r v h2 hw' z]
    conv => lhs; unfold rests
    rw [List.mem_append]
    constructor
    · rintro (h | h)
      · right
        split at h
        · have := List.mem_singleton.mp h; exact ⟨this, by omega⟩
        · simp at h
      · exact .inl h
    · rintro (h | ⟨h, h0⟩)
      · exact .inr h
      · left; rw [if_pos (by omega), h]; simp
theorem ef_falls : ∀ (ws : List Int) (b : Int), (ef b ws).Pairwise (· > ·) ∧ ∀ x ∈ ef b ws, x < b
  | [], b => ⟨.nil, by simp [ef]⟩
  | w :: r, b => by
    rw [ef_cons]
    by_cases h : w < b
    · rw [if_pos h]
      obtain ⟨i1, i2⟩ := ef_falls r w
      refine ⟨List.pairwise_cons.mpr ⟨fun x hx => i2 x hx, i1⟩, fun x hx => ?_⟩
      rcases List.mem_cons.mp hx with rfl | hx
      · exact h
      · have := i2 x hx; omega
    · rw [if_neg h]; exact ef_falls r b
end Ma
namespace Ma
open FX
/-- the lengths that occur, rising -/
def plens : List Int → List Int
  | [] => []
  | w :: r => sset (pcs (w :: r) w)
theorem sset_congr {a b : List Int} (h : ∀ z, z ∈ a ↔ z ∈ b) : sset a = sset b := rising_eq sset_lt sset_lt fun z => by rw [mem_sset, mem_sset]; exact h z
theorem plens_two {w : Int} {r : List Int} (hw : ∀ x ∈ w :: r, 1 ≤ x) : sset (pcs (w :: r) (2 * w)) = plens (w :: r) := by
  have w1 := hw w (by simp)
  refine sset_congr fun z => ?_
  have e1 : pcs (w :: r) (2 * w) = pcs r w ++ pcs r w := by
    show (List.replicate (2 * w / w).toNat (pcs r w)).flatten ++ pcs r (2 * w % w) = _
    rw [Int.mul_ediv_cancel _ (by omega), Int.mul_emod_left, pcs_zero]; simp [List.replicate]
  have e2 : pcs (w :: r) w = pcs r w := by
    show (List.replicate (w / w).toNat (pcs r w)).flatten ++ pcs r (w % w) = _
    rw [Int.ediv_self (by omega), Int.emod_self, pcs_zero]; simp [List.replicate]
  rw [e1, e2, List.mem_append, or_self]
theorem pcs_self {w : Int} {r : List Int} (w1 : 1 ≤ w) : pcs (w :: r) w = pcs r w := by
  show (List.replicate (w / w).toNat (pcs r w)).flatten ++ pcs r (w % w) = _
  rw [Int.ediv_self (by omega), Int.emod_self, pcs_zero]; simp [List.replicate]
theorem plens_len {ws : List Int} (hw : ∀ x ∈ ws, 1 ≤ x) : (plens ws).length ≤ ws.length + 1 := by
  cases ws with
  | nil => exact Nat.zero_le _
  | cons w r => exact sset_size hw (by have := hw w (by simp); omega)
/-! ### what the columns tell -/
theorem rm_succ {ws : List Int} (hw : ∀ x ∈ ws, 1 ≤ x) {q : Int} (h : 0 ≤ q) : rm ws (q + 1) = if rm ws (q + 1) = 0 then 0 else rm ws q + 1 := by
  by_cases z : rm ws (q + 1) = 0
  · rw [if_pos z, z]
  · rw [if_neg z]
    have r := rm_rng ws (q + 1) hw (by omega)
    have := rm_sub ws (q + 1) 1 hw (by omega) (by omega) (by omega)
    rw [show q + 1 - 1 = q by omega] at this
    omega
theorem rm_0 {ws : List Int} (hw : ∀ x ∈ ws, 1 ≤ x) : rm ws 0 = 0 := by have := rm_rng ws 0 hw (by omega); omega
/-- lists with the same columns below n -/
def Agr (a b : List Int) (n : Int) : Prop := ∀ x, 0 ≤ x → x < n → rm a x = rm b x
theorem agr_brk {a b : List Int} (ha : ∀ x ∈ a, 1 ≤ x) (hb : ∀ x ∈ b, 1 ≤ x) {n : Int} (h : ∀ x, 0 ≤ x → x < n → (rm a x = 0 ↔ rm b x = 0)) : Agr a b n := by
  have key : ∀ k : Nat, (k : Int) < n → rm a k = rm b k := by
    intro k
    induction k with
    | zero => intro _; rw [show ((0 : Nat) : Int) = 0 from rfl, rm_0 ha, rm_0 hb]
    | succ k ih =>
      intro hk
      have i := ih (by omega)
      have e := h (k + 1) (by omega) (by omega)
      rw [Int.natCast_add, show ((1 : Nat) : Int) = 1 from rfl, rm_succ ha (by omega), rm_succ hb (by omega), i]
      simp only [e]
  intro x h0 h1
  have := key x.toNat (by omega)
  rwa [Int.toNat_of_nonneg h0] at this
theorem pcs_agr {a b : List Int} (ha : ∀ x ∈ a, 1 ≤ x) (hb : ∀ x ∈ b, 1 ≤ x) (n : Nat) : pcs a n = pcs b n ↔ Agr a b n := by
  have begs : ∀ ws : List Int, (∀ x ∈ ws, 1 ≤ x) → beg ws n = (List.range (pcs ws n).length).map fun j : Nat => ((pcs ws n).take j).sum := by
    intro ws hw
    unfold beg
    refine List.map_congr_left fun j hj => ?_
    rw [List.mem_range] at hj
    exact (nb_pcs ws n j hw (by omega) hj).symm
  have inRg : ∀ x : Int, x ∈ rg 0 n ↔ 0 ≤ x ∧ x < n := by
    intro x; unfold rg
    simp only [List.mem_map, List.mem_range]
    constructor
    · rintro ⟨k, hk, rfl⟩; omega
    · intro h; exact ⟨x.toNat, by omega, by omega⟩
  have inBeg : ∀ ws : List Int, (∀ x ∈ ws, 1 ≤ x) → ∀ x : Int, 0 ≤ x → x < n → (rm ws x = 0 ↔ x ∈ beg ws n) := by
    intro ws hw x h0 h1
    rw [← beg_brk hw n, List.mem_filter, inRg]
    simp [h0, h1]
  constructor
  · intro h
    refine agr_brk ha hb fun x h0 h1 => ?_
    rw [inBeg a ha x h0 h1, inBeg b hb x h0 h1, begs a ha, begs b hb, h]
  · intro h
    rcases Nat.eq_zero_or_pos n with z | z
    · subst z; rw [show ((0 : Nat) : Int) = 0 from rfl, pcs_zero, pcs_zero]
    · have eb : beg a n = beg b n := by
        rw [← beg_brk ha, ← beg_brk hb]
        refine List.filter_congr fun x hx => ?_
        have := (inRg x).mp hx
        rw [h x this.1 this.2]
      have ee : ends (pcs a n) = ends (pcs b n) := by rw [ends_pcs ha (by omega), ends_pcs hb (by omega), eb]
      have inj : ∀ l m : List Int, ends l = ends m → l = m := by
        intro l m e
        have hl : l.length = m.length := by have := congrArg List.length e; simpa [ends] using this
        have tk : ∀ k : Nat, k ≤ l.length → (l.take k).sum = (m.take k).sum := by
          intro k hk
          cases k with
          | zero => rfl
          | succ k =>
            have := congrArg (·[k]?) e
            unfold ends at this
            simp only [List.getElem?_map] at this
            rw [List.getElem?_range (by omega), List.getElem?_range (by omega)] at this
            exact Option.some.inj this
        refine List.ext_getElem hl fun k h1 h2 => ?_
        have a1 := tk k (by omega)
        have a2 := tk (k + 1) (by omega)
        rw [List.take_add_one, List.take_add_one, List.getElem?_eq_getElem h1, List.getElem?_eq_getElem h2] at a2
        simp only [Option.toList_some, List.sum_append, List.sum_cons, List.sum_nil] at a2
        omega
      exact inj _ _ ee
theorem pcs_E {ws : List Int} {p : Int} (ok : okw ws) (h : 0 ≤ p) : pcs (E ws) p = pcs ws p := by
  have h1 : ∀ x ∈ ws, 1 ≤ x := fun x hx => (ok.2 x hx).1
  have h2 : ∀ x ∈ E ws, 1 ≤ x := fun x hx => h1 x (ef_mem ws _ x hx)
  obtain ⟨n, rfl⟩ : ∃ n : Nat, p = n := ⟨p.toNat, by omega⟩
  exact (pcs_agr h2 h1 n).mpr fun x h0 _ => rm_E (fun x hx => by have := ok.2 x hx; omega) h0
/-- the lengths, by remainders -/
theorem plens_rests {ws : List Int} (ok : okw ws) : sset (rests (E ws)) = plens ws := by
  cases ws with
  | nil => rfl
  | cons w r =>
    have hw : ∀ x ∈ w :: r, 1 ≤ x := fun x hx => (ok.2 x hx).1
    have w1 := hw w (by simp)
    have hE : ∀ x ∈ E (w :: r), 1 ≤ x := fun x hx => hw x (ef_mem _ _ x hx)
    have e := E_cons ok
    have f := (ef_falls (w :: r) (10 ^ 9)).1
    show _ = sset (pcs (w :: r) w)
    rw [← pcs_E ok (by omega)]
    refine sset_congr fun z => ?_
    have f' : (E (w :: r)).Pairwise (· > ·) := f
    rw [e] at f' hE ⊢
    rw [pcs_self w1]
    exact rests_pcs _ w f' hE z
theorem rests_len (ws : List Int) : (rests ws).length ≤ ws.length := by
  induction ws with
  | nil => exact Nat.le_refl _
  | cons w r ih =>
    show ((if 0 < rm r w then [rm r w] else []) ++ rests r).length ≤ _
    rw [List.length_append, List.length_cons]
    split <;> simp <;> omega
theorem sset_len (l : List Int) : (sset l).length ≤ l.length := rising_len sset_lt fun z hz => mem_sset.mp hz
theorem plens_count {ws : List Int} (ok : okw ws) (w : Int) (r : List Int) (e : ws = w :: r) : ∀ z ∈ plens ws, 0 < (pcs ws w).count z := by
  intro z hz
  subst e
  exact List.count_pos_iff.mpr (mem_sset.mp hz)
theorem plens_few {ws : List Int} (ok : okw ws) : (plens ws).length ≤ (E ws).length := by
  rw [← plens_rests ok]
  exact Nat.le_trans (sset_len _) (rests_len _)
end Ma

set_option Elab.async false
set_option linter.all false
set_option maxRecDepth 100000
namespace FX
open PySem PySem.Spec PyProof.Rows L2
open Classical
section
variable {loc loc' : Loc} {s s' s1 : Sto} {d x y z : D} {a b c o : EvE} {Q : QE} {ns ms : List Int} {QS : RS → Prop} {body : EvS} {G : Sto → Prop}
theorem cond_we {v : Bool} {e : En} {Q' : QE} (h : Cond v (WE a e Q') (WE b e Q')) (m : ∀ d l s, Q' d l s → Q d l s) : Cond v (WE a e Q) (WE b e Q) := ⟨fun z => (h.1 z).mono m, fun z => (h.2 z).mono m⟩
/-- a and b, where b is false if a is true -/
theorem cond_and {v : Bool} {t : EvT} {QB : Bool → Sto → Prop} (hB : QB false s) (hA : v = true → WT t ⟨loc, s⟩ fun b s' => b = false ∧ s' = s) : Cond v (WT t ⟨loc, s⟩ QB) (QB false s) :=
  ⟨fun z => by obtain ⟨b, s', e, rfl, rfl⟩ := hA z; exact ⟨_, _, e, hB⟩, fun _ => hB⟩
theorem cond_both {v : Bool} {A B : Prop} (hB : B) (hA : v = true → B → A) : Cond v A B := ⟨fun z => hA z hB, fun _ => hB⟩
/-! ### sorted(set(l)) -/
def SSQ (x : D) (s : Sto) (Q : QE) : Prop := ∃ ns, vw s x = .lst (ns.map .int) ∧ ns.length ≤ 4000 ∧ (sset ns).length < 64 ∧ Q (.lst ((sset ns).map .int)) 2 s
theorem we_srtset (q : WE a ⟨loc, s⟩ fun x _ s1 => SSQ x s1 Q) : WE (eSrtSet a) ⟨loc, s⟩ Q := by
  obtain ⟨x, l, s1, e, ns, h, h1, h2, q⟩ := q
  exact ⟨_, _, _, by unfold eSrtSet; simp only [e, R.bind_ok, h, ofInts_map]; rw [if_pos ⟨h1, h2⟩], q⟩
theorem ssq (h : vw s x = .lst (ns.map .int)) (h1 : ns.length ≤ 4000) (h2 : (sset ns).length < 64) (q : Q (.lst ((sset ns).map .int)) 2 s) : SSQ x s Q := ⟨ns, h, h1, h2, q⟩
/-! ### tables -/
theorem ofKeys_ks (t : Ma.Tab) : ofKeys (Ma.ksD t) = some (t.map (·.1)) := by
  induction t with
  | nil => rfl
  | cons p r ih => show (ofKeys (Ma.ksD r)).map (p.1 :: ·) = _; rw [ih]; rfl
theorem wn_sortD {t : Ma.Tab} (h : vw s x = .dct (Ma.ksD t) (Ma.dsD t)) (hl : t.length < 64) (q : Q (.lst ((srt (t.map (·.1))).map .int)) 2 s) : WO (nSorted s [x]) s Q :=
  ⟨_, _, by unfold nSorted nOr nSortD; simp only [h, ofKeys_ks]; rw [if_pos (by simpa using hl)], q⟩
theorem wn_sortL (h : vw s x = .lst (ns.map .int)) (hl : ns.length < 64) (q : Q (.lst ((srt ns).map .int)) 2 s) : WO (nSorted s [x]) s Q :=
  ⟨_, _, by unfold nSorted nOr nSortD nSortL nIntsOf; simp only [h, ofInts_map]; simp [hl], q⟩
def DGQ (x : D) (s1 : Sto) (y z : D) (s : Sto) (Q : QE) : Prop := ∃ (t : Ma.Tab) (k : Int), vw s1 x = .dct (Ma.ksD t) (Ma.dsD t) ∧ vw s x = .dct (Ma.ksD t) (Ma.dsD t) ∧ y = .int k ∧ z = .int 0 ∧ Q (.int (Ma.getT t k)) 0 s
theorem dgq {t : Ma.Tab} {k : Int} (h1 : vw s1 x = .dct (Ma.ksD t) (Ma.dsD t)) (h : vw s x = .dct (Ma.ksD t) (Ma.dsD t)) (q : Q (.int (Ma.getT t k)) 0 s) : DGQ x s1 (.int k) (.int 0) s Q := ⟨t, k, h1, h, rfl, rfl, q⟩
theorem we_dget (q : WE o ⟨loc, s⟩ fun x _ s1 => WE a ⟨loc, s1⟩ fun y _ s2 => WE b ⟨loc, s2⟩ fun z _ s3 => DGQ x s1 y z s3 Q) : WE (eDGet2 o a b) ⟨loc, s⟩ Q := by
  obtain ⟨x, l, s1, e1, y, l2, s2, e2, z, l3, s3, e3, t, k, h1, h, rfl, rfl, q⟩ := q
  exact ⟨_, _, _, by unfold eDGet2; simp only [e1, e2, e3, R.bind_ok, h1, h, kOf, Ma.look_tab], q⟩
/-! ### enumerate(zip(a, b)) -/
def EnumZipQ (x y : D) (s : Sto) (QI : List D → (Sto → Prop) → Sto → Prop) : Prop := ∃ xs ys, vw s x = .lst xs ∧ vw s y = .lst ys ∧ QI ((xs.zip ys).zipIdx.map fun p => D.tup [.int (p.2 : Nat), .tup [p.1.1, p.1.2]]) (fun s => vw s x = .lst xs ∧ vw s y = .lst ys) s
theorem wi_enumzip {QI : List D → (Sto → Prop) → Sto → Prop} (q : WE a ⟨loc, s⟩ fun x _ s1 => WE b ⟨loc, s1⟩ fun y _ s2 => EnumZipQ x y s2 QI) : WI (itEnumZip (aConsE a (aConsE b aNilE))) ⟨loc, s⟩ QI := by
  obtain ⟨x, l, s1, e, y, l2, s2, e2, xs, ys, h, h2, q⟩ := q
  exact ⟨_, _, _, by unfold itEnumZip; simp only [ap_acons, ap_anil, e, e2, R.bind_ok, h, h2], q⟩
theorem enumzipq {QI : List D → (Sto → Prop) → Sto → Prop} {xs ys : List D} (h : vw s x = .lst xs) (h2 : vw s y = .lst ys) (q : QI ((xs.zip ys).zipIdx.map fun p => D.tup [.int (p.2 : Nat), .tup [p.1.1, p.1.2]]) (fun s => vw s x = .lst xs ∧ vw s y = .lst ys) s) : EnumZipQ x y s QI := ⟨_, _, h, h2, q⟩
/-- for i, (x, y) in enumerate(zip(ints, ints)) -/
theorem for_enumzip {i j k : Nat} (I : Nat → Loc → Sto → Prop) (h0 : I 0 loc s) (hG : ∀ n loc s, n ≤ min ns.length ms.length → I n loc s → G s)
    (st : ∀ (n : Nat) u v loc s, ns[n]? = some u → ms[n]? = some v → I n loc s → WS body ⟨((loc.set i (some (.int n, false))).set j (some (.int u, false))).set k (some (.int v, false)), s⟩ (Turn QS (I (n + 1))))
    (fin : ∀ loc s, I (min ns.length ms.length) loc s → QS (.nx ⟨loc, s⟩)) :
    ForW (((ns.map D.int).zip (ms.map D.int)).zipIdx.map fun p => D.tup [.int (p.2 : Nat), .tup [p.1.1, p.1.2]]) G (aTup 2 (aCons (aName i) (aCons (aTup 2 (aCons (aName j) (aCons (aName k) aNil))) aNil))) body loc s QS :=
  for_all I h0 (fun n l s h => hG n l s (by simpa using h)) (fun n d l s hd hi => by
    obtain ⟨⟨⟨d1, d2⟩, m⟩, hp, rfl⟩ := Option.map_eq_some_iff.mp ((List.getElem?_map ..) ▸ hd)
    rw [List.getElem?_zipIdx] at hp
    obtain ⟨⟨e1, e2⟩, hq, h3⟩ := Option.map_eq_some_iff.mp hp
    obtain ⟨h4, h5⟩ := List.getElem?_zip_eq_some.mp hq
    rw [List.getElem?_map] at h4 h5
    obtain ⟨u, hu, rfl⟩ := Option.map_eq_some_iff.mp h4
    obtain ⟨v, hv, rfl⟩ := Option.map_eq_some_iff.mp h5
    cases h3
    refine ⟨_, rfl, ?_⟩
    have := st n u v l s hu hv hi
    simp only [Nat.zero_add]
    exact this) (fun l s q => fin l s (by simpa using q))
/-- [f(i, v) for i, v in enumerate(vs)] -/
theorem comp_enumI {i j : Nat} {vs : List Int} {asg : Asg} (f : Nat → Int → Int) (ha : asg = aTup 2 (aCons (aName i) (aCons (aName j) aNil))) (hG : G s) (hz : vs.length ≤ 16777216)
    (st : ∀ (k : Nat) v, vs[k]? = some v → WE b ⟨(loc.set i (some (.int k, false))).set j (some (.int v, false)), s⟩ fun y _ s2 => y = .int (f k v) ∧ s2 = s) (q : Q (.lst ((vs.zipIdx.map fun p => f p.2 p.1).map .int)) 2 s) :
    CompW ((vs.map D.int).zipIdx.map fun p => D.tup [.int (p.2 : Nat), p.1]) G asg cYes b loc s Q := by
  subst ha
  refine comp_any (fun n acc s' => s' = s ∧ acc = ((vs.zipIdx.map fun p => f p.2 p.1).take n).map .int) ⟨rfl, rfl⟩ (fun n acc s' h => by rw [h.1]; exact hG) (by simpa using hz) (fun n e acc s' he ⟨e1, e2⟩ hi => ?_) (fun acc s' ⟨e1, e2⟩ _ => ?_)
  · subst e1
    obtain ⟨⟨x, m⟩, hp, rfl⟩ := Option.map_eq_some_iff.mp ((List.getElem?_map ..) ▸ he)
    rw [List.getElem?_zipIdx] at hp
    obtain ⟨y, hy, h3⟩ := Option.map_eq_some_iff.mp hp
    rw [List.getElem?_map] at hy
    obtain ⟨v, hv, rfl⟩ := Option.map_eq_some_iff.mp hy
    cases h3
    simp only [Nat.zero_add]
    refine ⟨_, rfl, rfl, (st n v hv).mono fun y l s2 h => ?_⟩
    obtain ⟨rfl, rfl⟩ := h
    refine ⟨rfl, ?_⟩
    rw [e2, List.take_add_one, List.getElem?_map, List.getElem?_zipIdx, hv]
    simp
  · subst e1
    rw [e2, List.take_of_length_le (by simp)]
    exact q
/-- == of lists of bools -/
theorem eqv_bools : ∀ ns ms : List Bool, PyData.eqvAll (ns.map .bool) (ms.map .bool) = decide (ns = ms)
  | [], [] => by simp [PyData.eqvAll]
  | [], m :: ms => by simp [PyData.eqvAll]
  | n :: ns, [] => by simp [PyData.eqvAll]
  | n :: ns, m :: ms => by
    rw [List.map_cons, List.map_cons]
    unfold PyData.eqvAll
    rw [eqv_bools ns ms]
    simp only [PyData.eqv]
    by_cases h : n = m <;> by_cases h' : ns = ms <;> simp [h, h']
theorem shaped_bls {as : List Bool} (h : as.length ≤ 1000) : SeqAt.shaped (.list (as.map .bool)) = true := by
  obtain ⟨p, e, o⟩ := sh_1r (ds := as.map .bl) (fun d hd => by obtain ⟨b, _, rfl⟩ := List.mem_map.mp hd; exact sh_bl) (by simpa using h)
  have e2 : toP (.lst (as.map .bl)) = some (.list (as.map .bool)) := by unfold toP; rw [toPs_bls]; rfl
  rw [e2] at e
  cases e
  exact shaped_ok o (by decide)
theorem wo_eqbls {as bs : List Bool} (h : vw s x = .lst (as.map .bl)) (h' : vw s y = .lst (bs.map .bl)) (ha : as.length ≤ 1000) (hb : bs.length ≤ 1000) (q : Q (.bl (decide (as = bs))) 0 s) : WO (gEq false s x y) s Q :=
  ⟨_, _, by unfold gEq; rw [datP_bls h, datP_bls h']; simp only [shaped_bls ha, shaped_bls hb, and_self, if_true]; unfold PyData.eqv; rw [eqv_bools]; rfl, q⟩
/-- extend of a cell by ints -/
theorem we_ext (q : WE o ⟨loc, s⟩ fun x _ s1 => WE a ⟨loc, s1⟩ fun y _ s2 => ∃ (h : Nat) (ns ms : List Int), x = .hnd h ∧ y = .lst (ms.map .int) ∧ rd s1 h = .lst (ns.map .int) ∧ rd s2 h = .lst (ns.map .int) ∧ ns.length + ms.length ≤ sizeLine ∧ Q .non 0 (s2.set h (.lst ((ns ++ ms).map .int)))) : WE (eMut mExtend o (aConsE a aNilE)) ⟨loc, s⟩ Q := by
  obtain ⟨x, l, s1, e1, y, l2, s2, e2, h, ns, ms, rfl, rfl, h1, h2, h3, q⟩ := q
  refine we_mut ⟨_, _, _, e1, _, _, rfl, h1, ?_⟩
  refine wa_cons ⟨_, _, _, e2, wa_nil ⟨.non, _, ?_, q⟩⟩
  rw [h2]
  unfold mExtend
  simp only
  rw [if_pos (by simpa using h3), List.map_append]
theorem we_insq (q : WE o ⟨loc, s⟩ fun x _ s1 => WE a ⟨loc, s1⟩ fun y _ s2 => WE b ⟨loc, s2⟩ fun z _ s3 => ∃ (h : Nat) (ns : List Int) (i v : Int), x = .hnd h ∧ y = .int i ∧ z = .int v ∧ rd s1 h = .lst (ns.map .int) ∧ rd s3 h = .lst (ns.map .int) ∧ (ns.length < sizeLine ∧ 0 ≤ i ∧ i < 2 ^ 63) ∧ Q .non 0 (s3.set h (.lst ((ns.take i.toNat ++ [v] ++ ns.drop i.toNat).map .int)))) : WE (eMut mInsert o (aConsE a (aConsE b aNilE))) ⟨loc, s⟩ Q := by
  obtain ⟨x, l, s1, e1, y, l2, s2, e2, z, l3, s3, e3, h, ns, i, v, rfl, rfl, rfl, h1, h2, h3, q⟩ := q
  refine we_mut ⟨_, _, _, e1, _, _, rfl, h1, ?_⟩
  refine wa_cons ⟨_, _, _, e2, wa_cons ⟨_, _, _, e3, wa_nil ⟨.non, _, ?_, q⟩⟩⟩
  rw [h2]
  unfold mInsert
  simp only
  rw [if_pos (by simpa using h3)]
  simp
def TupLK (x : D) (s : Sto) (P : D → D → Sto → Prop) : Prop := ∃ y z, vw s x = .lst [y, z] ∧ P y z s
theorem tuplk {P : D → D → Sto → Prop} {y z : D} (h : vw s x = .lst [y, z]) (k : P y z s) : TupLK x s P := ⟨_, _, h, k⟩
theorem ws_asgL2 {i j : Nat} (k : WE a ⟨loc, s⟩ fun x _ s1 => TupLK x s1 fun y z s1 => QS (.nx ⟨(loc.set i (some (y, false))).set j (some (z, false)), s1⟩)) : WS (sAsg (aTupL 2 (aCons (aName i) (aCons (aName j) aNil))) a) ⟨loc, s⟩ QS := by
  obtain ⟨x, l, s1, e1, y, z, h, k⟩ := k
  refine ws_asg ⟨_, _, _, e1, _, ?_, k⟩
  unfold aTupL
  simp only [h]
  rfl
/-- [f(x) for x in (a, b)]: the items of a tuple or a list, in turn -/
theorem comp_two {i : Nat} {u v y z : D} {Q : QE} (hG : G s) (h1 : WE b ⟨loc.set i (some (u, false)), s⟩ fun y' _ s2 => y' = y ∧ s2 = s) (h2 : WE b ⟨loc.set i (some (v, false)), s⟩ fun z' _ s2 => z' = z ∧ s2 = s) (q : Q (.lst [y, z]) 2 s) : CompW [u, v] G (aName i) cYes b loc s Q := by
  refine comp_any (fun n acc s' => s' = s ∧ acc = [y, z].take n) ⟨rfl, rfl⟩ (fun n acc s' h => by rw [h.1]; exact hG) (by simp) (fun n e acc s' he ⟨e1, e2⟩ hi => ?_) (fun acc s' ⟨e1, e2⟩ _ => ?_)
  · subst e1
    match n, he with
    | 0, he =>
      obtain rfl : u = e := Option.some.inj he
      refine ⟨_, rfl, rfl, h1.mono fun y' l s2 h => ?_⟩
      obtain ⟨rfl, rfl⟩ := h
      exact ⟨rfl, by rw [e2]; rfl⟩
    | 1, he =>
      obtain rfl : v = e := Option.some.inj he
      refine ⟨_, rfl, rfl, h2.mono fun y' l s2 h => ?_⟩
      obtain ⟨rfl, rfl⟩ := h
      exact ⟨rfl, by rw [e2]; rfl⟩
    | n + 2, he => simp at he
  · subst e1
    rw [e2]; exact q
/-! ### backwards; repr of lists with cells -/
def RevLQ (x : D) (s : Sto) (Q : QE) : Prop := ∃ ns : List Int, vw s x = .lst (ns.map .int) ∧ Q (.lst (ns.reverse.map .int)) 2 s
theorem revlq (h : vw s x = .lst (ns.map .int)) (q : Q (.lst (ns.reverse.map .int)) 2 s) : RevLQ x s Q := ⟨ns, h, q⟩
theorem we_revl (q : WE a ⟨loc, s⟩ fun x _ s1 => RevLQ x s1 Q) : WE (eRevL a) ⟨loc, s⟩ Q := by
  obtain ⟨x, l, s1, e, ns, h, q⟩ := q
  rw [List.map_reverse] at q
  exact ⟨_, _, _, by unfold eRevL; simp only [e, R.bind_ok, h], q⟩
theorem wn_reprF {k w : Nat} {d : D} (hf : flat s x = d) (h : Sh k w d) (hk : k ≤ 40) (hw : w ≤ 16777216) (q : Q (.str (shw d)) 0 s) : WO (nReprF s [x]) s Q := by
  obtain ⟨p, e, o⟩ := h
  subst hf
  refine ⟨.str p.shown, 0, ?_, ?_⟩
  · unfold nReprF
    simp only [e]
    rw [if_pos ⟨o.sh, PyData.hasDict_of_canLay _ o.cl, Nat.le_trans o.dp hk, Nat.le_trans o.ln (by rw [size_eq]; exact hw)⟩]
  · unfold shw at q
    rw [e] at q
    exact q
theorem flat_lst {ds es : List D} (h : vw s x = .lst ds) (e : ds.map (vw s) = es) : flat s x = .lst es := by unfold flat; rw [h, ← e]
/-! ### methods that read a list, minus, slices from behind -/
def RdcQ (x : D) (s1 : Sto) (y : D) (s : Sto) (Q : QE) : Prop := ∃ (ns : List Int) (k : Int), vw s1 x = .lst (ns.map .int) ∧ vw s x = .lst (ns.map .int) ∧ y = .int k ∧ Q (.int (ns.count k : Nat)) 0 s
theorem rdcq {k : Int} (h1 : vw s1 x = .lst (ns.map .int)) (h : vw s x = .lst (ns.map .int)) (q : Q (.int (ns.count k : Nat)) 0 s) : RdcQ x s1 (.int k) s Q := ⟨ns, k, h1, h, rfl, q⟩
theorem we_rdc (q : WE o ⟨loc, s⟩ fun x _ s1 => WE a ⟨loc, s1⟩ fun y _ s2 => RdcQ x s1 y s2 Q) : WE (eRdM rdCount o (aConsE a aNilE)) ⟨loc, s⟩ Q := by
  obtain ⟨x, l, s1, e1, y, l2, s2, e2, ns, k, h1, h, rfl, q⟩ := q
  exact ⟨_, _, _, by unfold eRdM; simp only [ap_acons, ap_anil, e1, e2, R.bind_ok, h1, h]; unfold rdCount; simp only [ofInts_map], q⟩
def RdiQ (x : D) (s1 : Sto) (y : D) (s : Sto) (Q : QE) : Prop := ∃ (ns : List Int) (k : Int), vw s1 x = .lst (ns.map .int) ∧ vw s x = .lst (ns.map .int) ∧ y = .int k ∧ k ∈ ns ∧ Q (.int (ns.idxOf k : Nat)) 0 s
theorem rdiq {k : Int} (h1 : vw s1 x = .lst (ns.map .int)) (h : vw s x = .lst (ns.map .int)) (hk : k ∈ ns) (q : Q (.int (ns.idxOf k : Nat)) 0 s) : RdiQ x s1 (.int k) s Q := ⟨ns, k, h1, h, rfl, hk, q⟩
theorem we_rdi (q : WE o ⟨loc, s⟩ fun x _ s1 => WE a ⟨loc, s1⟩ fun y _ s2 => RdiQ x s1 y s2 Q) : WE (eRdM rdIndex o (aConsE a aNilE)) ⟨loc, s⟩ Q := by
  obtain ⟨x, l, s1, e1, y, l2, s2, e2, ns, k, h1, h, rfl, hk, q⟩ := q
  exact ⟨_, _, _, by unfold eRdM; simp only [ap_acons, ap_anil, e1, e2, R.bind_ok, h1, h]; unfold rdIndex; simp only [ofInts_map, if_pos hk], q⟩
def NegQ (x : D) (s : Sto) (Q : QE) : Prop := ∃ i : Int, x = .int i ∧ Q (.int (-i)) 0 s
theorem negq {i : Int} (q : Q (.int (-i)) 0 s) : NegQ (.int i) s Q := ⟨i, rfl, q⟩
theorem we_negq (q : WE a ⟨loc, s⟩ fun x _ s1 => NegQ x s1 Q) : WE (eNeg a) ⟨loc, s⟩ Q := we_neg (j := fun _ _ => True) q
theorem cut_neg {k : Nat} (hk : 0 < k) : cutD (ns.map .int) (some (-(k : Int))) none = (ns.drop (ns.length - k)).map .int := by
  rw [cut_map, six_no]
  congr 1
  have e : HT.sIx ns.length 0 (some (-(k : Int))) = ns.length - k := by
    unfold HT.sIx; first | (simp only; split <;> omega) | (simp; omega)
  rw [e]
  exact List.take_of_length_le (by simp)
theorem sq_neg {i : Int} (hv : vw s x = .lst (ns.map .int)) (h : i < 0) (q : Q (.lst ((ns.drop (ns.length - (-i).toNat)).map .int)) 2 s) : SlQ x (some i) none s Q := ⟨_, hv, by
  have := cut_neg (ns := ns) (k := (-i).toNat) (by omega)
  rw [show -(((-i).toNat : Nat) : Int) = i by omega] at this
  rw [this]; exact q⟩
/-- [f(u, v) for u, v in zip(us, vs)] -/
theorem comp_zipI {i j : Nat} {us vs : List Int} {asg : Asg} (f : Int → Int → Int) (ha : asg = aTup 2 (aCons (aName i) (aCons (aName j) aNil))) (hG : G s) (hz : us.length ≤ 16777216)
    (st : ∀ u v, (u, v) ∈ us.zip vs → WE b ⟨(loc.set i (some (.int u, false))).set j (some (.int v, false)), s⟩ fun y _ s2 => y = .int (f u v) ∧ s2 = s) (q : Q (.lst ((List.zipWith f us vs).map .int)) 2 s) :
    CompW (((us.map D.int).zip (vs.map D.int)).map fun p => D.tup [p.1, p.2]) G asg cYes b loc s Q := by
  subst ha
  have e : ((us.map D.int).zip (vs.map D.int)).map (fun p => D.tup [p.1, p.2]) = (us.zip vs).map fun p => D.tup [D.int p.1, D.int p.2] := by
    rw [List.zip_map, List.map_map]; rfl
  rw [e]
  refine comp_F (fun _ => true) (fun d : D => match d with | .tup [.int u, .int v] => D.int (f u v) | d => d) hG (by simp; omega) (fun d hd => ?_) ?_
  · obtain ⟨⟨u, v⟩, hp, rfl⟩ := List.mem_map.mp hd
    exact ⟨_, rfl, rfl, ⟨true, s, rfl, rfl, rfl⟩, fun _ => st u v hp⟩
  · have e2 : (((us.zip vs).map fun p => D.tup [D.int p.1, D.int p.2]).filter fun _ => true).map (fun d : D => match d with | .tup [.int u, .int v] => D.int (f u v) | d => d) = (List.zipWith f us vs).map .int := by
      rw [List.filter_eq_self.mpr (fun _ _ => rfl), List.map_map, ← List.map_uncurry_zip_eq_zipWith, List.map_map]; rfl
    rw [e2]; exact q
end
theorem wn_list {ns : List Int} {x : D} (h : vw s x = .lst (ns.map .int)) (q : Q (.lst (ns.map .int)) 2 s) : WO (nList s [x]) s Q := ⟨_, _, by unfold nList; simp only [h], q⟩
theorem wo_in {ns : List Int} {i : Int} {y : D} (h : vw s y = .lst (ns.map .int)) (q : Q (.bl (decide (i ∈ ns))) 0 s) : WO (gIn false s (.int i) y) s Q := ⟨_, _, by unfold gIn; simp only [h, ofInts_map]; rfl, q⟩
theorem wo_notin {ns : List Int} {i : Int} {y : D} (h : vw s y = .lst (ns.map .int)) (q : Q (.bl (!decide (i ∈ ns))) 0 s) : WO (gIn true s (.int i) y) s Q := ⟨_, _, by unfold gIn; simp only [h, ofInts_map]; rfl, q⟩
def Tup3K (x : D) (s : Sto) (P : D → D → D → Sto → Prop) : Prop := ∃ y z u, x = .tup [y, z, u] ∧ P y z u s
theorem tupk3 {P : D → D → D → Sto → Prop} {x y z : D} (k : P x y z s) : Tup3K (.tup [x, y, z]) s P := ⟨_, _, _, rfl, k⟩
theorem ws_asg3 {i j k : Nat} (h : WE a ⟨loc, s⟩ fun x _ s1 => Tup3K x s1 fun y z u s1 => QS (.nx ⟨((loc.set i (some (y, false))).set j (some (z, false))).set k (some (u, false)), s1⟩)) : WS (sAsg (aTup 3 (aCons (aName i) (aCons (aName j) (aCons (aName k) aNil)))) a) ⟨loc, s⟩ QS := by
  obtain ⟨x, l, s1, e1, y, z, u, rfl, h⟩ := h
  exact ws_asg ⟨_, _, _, e1, _, rfl, h⟩
/-- calls by places and keywords -/
def CMQ (m n : Nat) (pm : List Nat) (f : List D → Sto → R (D × Nat)) (ds es : List D) (s : Sto) (Q : QE) : Prop := ds.length = m ∧ (ds ++ es).length = n ∧ WC f (pm.filterMap ((ds ++ es)[·]?)) s Q
theorem we_callMq {m n : Nat} {pm : List Nat} {f : List D → Sto → R (D × Nat)} {as ak : EvA} (q : WA as ⟨loc, s⟩ fun ds s1 => WA ak ⟨loc, s1⟩ fun es s2 => CMQ m n pm f ds es s2 (CallQ Q)) : WE (eCallM f m n pm as ak) ⟨loc, s⟩ Q := by
  obtain ⟨ds, s1, e1, es, s2, e2, h1, h2, d, l, s', e3, q⟩ := q
  exact ⟨_, _, _, by unfold eCallM; simp only [e1, e2, R.bind_ok]; rw [if_pos ⟨h1, h2⟩, e3]; rfl, q⟩
theorem cmq {m n : Nat} {pm : List Nat} {f : List D → Sto → R (D × Nat)} {ds es ds' : List D} (h1 : ds.length = m) (h2 : (ds ++ es).length = n) (h : pm.filterMap ((ds ++ es)[·]?) = ds') (q : WC f ds' s Q) : CMQ m n pm f ds es s Q := ⟨h1, h2, by rw [h]; exact q⟩
/-- walking over a tuple that is written out -/
theorem wi_seqt {QI : List D → (Sto → Prop) → Sto → Prop} (q : WA as ⟨loc, s⟩ fun ds s1 => TupQ ds s1 fun d _ s2 => ∃ es, d = .tup es ∧ QI es (fun _ => True) s2) : WI (itSeq (eTup as)) ⟨loc, s⟩ QI := by
  obtain ⟨x, l, s1, e, es, rfl, q⟩ := we_tupq (Q := fun d _ s2 => ∃ es, d = .tup es ∧ QI es (fun _ => True) s2) q
  exact ⟨_, _, _, by unfold itSeq; simp only [e, R.bind_ok]; rfl, q⟩
theorem tup_es {P : List D → Prop} {es : List D} (q : P es) : ∃ es', D.tup es = .tup es' ∧ P es' := ⟨_, rfl, q⟩


end FX

set_option Elab.async false
set_option linter.all false
set_option maxRecDepth 100000
namespace FX
open PySem PySem.Spec PyProof.Rows L2
open Classical
section
variable {loc : Loc} {s : Sto} {x y : D} {ns ms : List Int} {Q : QE} {i : Int}
/-- lists of ints, as values -/
def LD (cs : List (List Int)) : List D := cs.map fun c => .lst (c.map .int)
theorem ld_cons {c : List Int} {cs : List (List Int)} : LD (c :: cs) = .lst (c.map .int) :: LD cs := rfl
theorem ld_len {cs : List (List Int)} : (LD cs).length = cs.length := by simp [LD]
theorem ld_app {a b : List (List Int)} : LD (a ++ b) = LD a ++ LD b := by simp [LD]
theorem ld_mem {cs : List (List Int)} {d : D} : d ∈ LD cs ↔ ∃ c ∈ cs, d = .lst (c.map .int) := by
  unfold LD; rw [List.mem_map]
  exact ⟨fun ⟨c, h, e⟩ => ⟨c, h, e.symm⟩, fun ⟨c, h, e⟩ => ⟨c, h, e.symm⟩⟩
theorem ld_get {cs : List (List Int)} {k : Nat} {d : D} (h : (LD cs)[k]? = some d) : ∃ c, cs[k]? = some c ∧ d = .lst (c.map .int) := by
  unfold LD at h; rw [List.getElem?_map] at h
  obtain ⟨c, h1, h2⟩ := Option.map_eq_some_iff.mp h
  exact ⟨c, h1, h2.symm⟩
theorem toPs_map : ∀ ns : List Int, toPs (ns.map .int) = some (ns.map .int)
  | [] => rfl
  | n :: r => by show toPs (.int n :: r.map .int) = _; unfold toPs; rw [toPs_map r]; rfl
theorem toP_ints {ns : List Int} : toP (.lst (ns.map .int)) = some (.list (ns.map .int)) := by unfold toP; rw [toPs_map]; rfl
theorem toPs_ld : ∀ cs : List (List Int), toPs (LD cs) = some (cs.map fun c => .list (c.map .int))
  | [] => rfl
  | c :: r => by rw [ld_cons]; unfold toPs; rw [toPs_ld r, toP_ints]; rfl
theorem toP_ld {cs : List (List Int)} : toP (.lst (LD cs)) = some (.list (cs.map fun c => .list (c.map .int))) := by unfold toP; rw [toPs_ld]; rfl
theorem any_ld (ns : List Int) : ∀ cs : List (List Int), ((cs.map fun c => PyData.list (c.map .int)).any fun z => PyData.eqv z (.list (ns.map .int))) = decide (ns ∈ cs)
  | [] => by simp
  | c :: r => by
    rw [List.map_cons, List.any_cons, any_ld ns r, eqv_list]
    by_cases h : c = ns
    · subst h; simp
    · have h' : ¬ns = c := fun e => h e.symm
      simp [h, h']
theorem sh_ld {cs : List (List Int)} (h : ∀ c ∈ cs, OkI c ∧ c.length ≤ 1000) : ∃ k w, k ≤ 64 ∧ Sh k w (.lst (LD cs)) := ⟨4, _, by decide, sh_lst (k := 2) (w := 300000) (n := cs.length) (fun d hd => by
  obtain ⟨c, hc, rfl⟩ := ld_mem.mp hd
  exact sh_1 (h c hc).1 (h c hc).2) (by rw [ld_len]; exact Nat.le_refl _)⟩
theorem shaped_of {k w : Nat} {d : D} {p : PyData} (h : Sh k w d) (hk : k ≤ 64) (e : toP d = some p) : SeqAt.shaped p = true := by
  obtain ⟨p', e', o⟩ := h
  rw [e] at e'
  cases e'
  exact shaped_ok o hk
theorem inD_ev {neg : Bool} {cs : List (List Int)} (hx : vw s x = .lst (ns.map .int)) (hy : vw s y = .lst (LD cs)) (h : ∀ c ∈ cs, OkI c ∧ c.length ≤ 1000) : gIn2 neg s x y = some (.bl (if neg = true then !decide (ns ∈ cs) else decide (ns ∈ cs)), 0) := by
  have e1 : gIn neg s x y = none := by
    cases x with
    | int i => nomatch hx
    | _ => rfl
  obtain ⟨k, w, hk, hs⟩ := sh_ld h
  unfold gIn2 gOr
  rw [e1]
  show gInD neg s x y = _
  unfold gInD datP
  rw [hx, hy, toP_ints, toP_ld]
  simp only
  rw [if_pos ⟨shaped_ints, shaped_of hs hk toP_ld⟩, any_ld]
theorem wo_inD {cs : List (List Int)} (hx : vw s x = .lst (ns.map .int)) (hy : vw s y = .lst (LD cs)) (h : ∀ c ∈ cs, OkI c ∧ c.length ≤ 1000) (q : Q (.bl (decide (ns ∈ cs))) 0 s) : WO (gIn2 false s x y) s Q := ⟨_, _, inD_ev hx hy h, q⟩
theorem wo_notinD {cs : List (List Int)} (hx : vw s x = .lst (ns.map .int)) (hy : vw s y = .lst (LD cs)) (h : ∀ c ∈ cs, OkI c ∧ c.length ≤ 1000) (q : Q (.bl (!decide (ns ∈ cs))) 0 s) : WO (gIn2 true s x y) s Q := ⟨_, _, inD_ev hx hy h, q⟩
theorem wo_in2 {ns : List Int} {i : Int} {y : D} (h : vw s y = .lst (ns.map .int)) (q : Q (.bl (decide (i ∈ ns))) 0 s) : WO (gIn2 false s (.int i) y) s Q := ⟨_, _, by unfold gIn2 gOr gIn; simp only [h, ofInts_map]; rfl, q⟩
theorem wo_notin2 {ns : List Int} {i : Int} {y : D} (h : vw s y = .lst (ns.map .int)) (q : Q (.bl (!decide (i ∈ ns))) 0 s) : WO (gIn2 true s (.int i) y) s Q := ⟨_, _, by unfold gIn2 gOr gIn; simp only [h, ofInts_map]; rfl, q⟩

/-! ### comprehensions over lists of lists of ints -/
noncomputable def unL (d : D) : List Int := match d with | .lst ds => (ofInts ds).getD [] | _ => []
theorem unL_ints {c : List Int} : unL (.lst (c.map .int)) = c := by unfold unL; simp only [ofInts_map]; rfl
section
variable {G : Sto → Prop} {asg : Asg} {t : EvT} {b : EvE} {k : Nat}
theorem comp_ldF {cs : List (List Int)} (p : List Int → Bool) (f : List Int → D) (hG : G s) (hz : cs.length ≤ 16777216) (st : ∀ c ∈ cs, WT t ⟨loc.set k (some (.lst (c.map .int), false)), s⟩ (fun v s2 => v = p c ∧ s2 = s) ∧ (p c = true → WE b ⟨loc.set k (some (.lst (c.map .int), false)), s⟩ fun y _ s2 => y = f c ∧ s2 = s)) (q : Q (.lst ((cs.filter p).map f)) 2 s) : CompW (LD cs) G (aName k) t b loc s Q := by
  refine comp_F (fun d => p (unL d)) (fun d => f (unL d)) hG (by rw [ld_len]; exact hz) (fun d hd => ?_) ?_
  · obtain ⟨c, hc, rfl⟩ := ld_mem.mp hd
    obtain ⟨h1, h2⟩ := st c hc
    refine ⟨_, rfl, rfl, ?_, fun h => ?_⟩
    · rw [unL_ints]; exact h1
    · rw [unL_ints] at h ⊢; exact h2 h
  · have e : ((LD cs).filter fun d => p (unL d)).map (fun d => f (unL d)) = (cs.filter p).map f := by
      unfold LD
      rw [List.filter_map, List.map_map]
      have e1 : ((fun d => p (unL d)) ∘ fun c : List Int => D.lst (c.map .int)) = p := by funext c; show p (unL _) = _; rw [unL_ints]
      rw [e1]
      exact List.map_congr_left fun c _ => by show f (unL _) = _; rw [unL_ints]
    rw [e]; exact q
theorem comp_ld {cs : List (List Int)} (f : List Int → D) (hG : G s) (hz : cs.length ≤ 16777216) (st : ∀ c ∈ cs, WE b ⟨loc.set k (some (.lst (c.map .int), false)), s⟩ fun y _ s2 => y = f c ∧ s2 = s) (q : Q (.lst (cs.map f)) 2 s) : CompW (LD cs) G (aName k) cYes b loc s Q :=
  comp_ldF (fun _ => true) f hG hz (fun c hc => ⟨wt_yes ⟨rfl, rfl⟩, fun _ => st c hc⟩) (by rw [List.filter_eq_self.mpr fun _ _ => rfl]; exact q)
theorem comp_ldL {cs : List (List Int)} (f : List Int → List Int) (hG : G s) (hz : cs.length ≤ 16777216) (st : ∀ c ∈ cs, WE b ⟨loc.set k (some (.lst (c.map .int), false)), s⟩ fun y _ s2 => y = .lst ((f c).map .int) ∧ s2 = s) (q : Q (.lst (LD (cs.map f))) 2 s) : CompW (LD cs) G (aName k) cYes b loc s Q :=
  comp_ld (fun c => .lst ((f c).map .int)) hG hz st (by unfold LD at q; rw [List.map_map] at q; exact q)
theorem comp_ldI {cs : List (List Int)} (f : List Int → Int) (hG : G s) (hz : cs.length ≤ 16777216) (st : ∀ c ∈ cs, WE b ⟨loc.set k (some (.lst (c.map .int), false)), s⟩ fun y _ s2 => y = .int (f c) ∧ s2 = s) (q : Q (.lst ((cs.map f).map .int)) 2 s) : CompW (LD cs) G (aName k) cYes b loc s Q :=
  comp_ld (fun c => .int (f c)) hG hz st (by rw [List.map_map] at q; exact q)
/-- pairs of lists -/
def TD (g : List Int → List Int) (cs : List (List Int)) : List D := cs.map fun c => .tup [.lst (c.map .int), .lst ((g c).map .int)]
theorem comp_tdF {cs : List (List Int)} {g : List Int → List Int} {i j : Nat} (p : List Int → Bool) (ha : asg = aTup 2 (aCons (aName i) (aCons (aName j) aNil))) (hG : G s) (hz : cs.length ≤ 16777216) (st : ∀ c ∈ cs, WT t ⟨(loc.set i (some (.lst (c.map .int), false))).set j (some (.lst ((g c).map .int), false)), s⟩ (fun v s2 => v = p c ∧ s2 = s) ∧ WE b ⟨(loc.set i (some (.lst (c.map .int), false))).set j (some (.lst ((g c).map .int), false)), s⟩ fun y _ s2 => y = .lst (c.map .int) ∧ s2 = s) (q : Q (.lst (LD (cs.filter p))) 2 s) : CompW (TD g cs) G asg t b loc s Q := by
  subst ha
  refine comp_F (fun d => match d with | .tup [x, _] => p (unL x) | _ => false) (fun d => match d with | .tup [x, _] => x | d => d) hG (by unfold TD; simpa using hz) (fun d hd => ?_) ?_
  · unfold TD at hd
    obtain ⟨c, hc, rfl⟩ := List.mem_map.mp hd
    obtain ⟨h1, h2⟩ := st c hc
    refine ⟨_, rfl, rfl, ?_, fun _ => h2⟩
    simp only [unL_ints]
    exact h1
  · have e : ((TD g cs).filter fun d => match d with | .tup [x, _] => p (unL x) | _ => false).map (fun d => match d with | .tup [x, _] => x | d => d) = LD (cs.filter p) := by
      unfold TD LD
      rw [List.filter_map, List.map_map]
      have e1 : ((fun d : D => match d with | .tup [x, _] => p (unL x) | _ => false) ∘ fun c : List Int => D.tup [.lst (c.map .int), .lst ((g c).map .int)]) = p := by funext c; show p (unL _) = _; rw [unL_ints]
      rw [e1]
      rfl
    rw [e]; exact q
end
theorem ret_ld {n : Nat} {s1 : Sto} {cs : List D} {l : Nat} {F : List (List Int)} (hn : s1.length = n) (hp : PC s1) (q : Q (.lst (LD F)) l s1) : Ret n Q (.ret (.lst (LD F)) l (s1 ++ cs)) := by
  refine ret_sc hn hp ?_ (fun _ z => nomatch z) q
  unfold noH
  exact noHs_mem.mpr fun d hd => by
    obtain ⟨c, _, rfl⟩ := ld_mem.mp hd
    exact noH_ints
end
end FX

set_option Elab.async false
set_option linter.all false
set_option maxRecDepth 100000
namespace Ma
open FX
/-! ### sums over the lengths; the last piece -/
theorem sum_pick {f : Int → Int} {x : Int} : ∀ {L : List Int}, L.Nodup → x ∈ L → (L.map fun z => f z * if x = z then 1 else 0).sum = f x
  | [], _, h => by simp at h
  | y :: r, nd, h => by
    obtain ⟨n1, n2⟩ := List.nodup_cons.mp nd
    rw [List.map_cons, List.sum_cons]
    by_cases e : x = y
    · subst e
      have z : ∀ l : List Int, x ∉ l → (l.map fun z => f z * if x = z then 1 else 0).sum = 0 := by
        intro l
        induction l with
        | nil => intro _; rfl
        | cons u l ih =>
          intro hl
          rw [List.map_cons, List.sum_cons, ih (fun q => hl (List.mem_cons_of_mem _ q)), if_neg (fun q => hl (by simp [q]))]
          simp
      rw [z r n1]; simp
    · rw [if_neg e, sum_pick n2 ((List.mem_cons.mp h).resolve_left e)]; simp
theorem sum_add {f g : Int → Int} : ∀ L : List Int, (L.map fun z => f z + g z).sum = (L.map f).sum + (L.map g).sum
  | [] => rfl
  | y :: r => by rw [List.map_cons, List.sum_cons, sum_add r, List.map_cons, List.map_cons, List.sum_cons, List.sum_cons]; omega
/-- what is counted by length adds up -/
theorem sum_counts {f : Int → Int} {L : List Int} (nd : L.Nodup) : ∀ P : List Int, (∀ x ∈ P, x ∈ L) → (L.map fun z => f z * (P.count z : Nat)).sum = sumF f P
  | [], _ => by
    have : ∀ l : List Int, (l.map fun z => f z * (([] : List Int).count z : Nat)).sum = 0 := by
      intro l
      induction l with
      | nil => rfl
      | cons u l ih => rw [List.map_cons, List.sum_cons, ih]; simp
    rw [this]; rfl
  | x :: P, h => by
    have ih := sum_counts (f := f) nd P fun y hy => h y (List.mem_cons_of_mem _ hy)
    have e : (fun z : Int => f z * (((x :: P).count z : Nat) : Int)) = fun z => (f z * (P.count z : Nat)) + (f z * if x = z then 1 else 0) := by
      funext z
      rw [List.count_cons]
      by_cases q : x = z
      · subst q; simp [Int.mul_add]
      · simp [q]
    rw [e, sum_add, ih, sum_pick nd (h x (by simp))]
    simp [sumF]; omega
theorem sset_nd (l : List Int) : (sset l).Nodup := (sset_lt (l := l)).imp fun {a b} h => (by omega : a ≠ b)
/-- the last piece -/
theorem pcs_last : ∀ (ws : List Int) (p : Int), (∀ x ∈ ws, 1 ≤ x) → 1 ≤ p → ∃ l, pcs ws p = l ++ [rm ws (p - 1) + 1]
  | [], p, _, h => ⟨[], by unfold pcs; rw [if_pos (by omega)]; show [p] = [] ++ [p - 1 + 1]; rw [show p - 1 + 1 = p by omega]; rfl⟩
  | w :: r, p, hw, h => by
    have w1 := hw w (by simp)
    have hr : ∀ x ∈ r, 1 ≤ x := fun x hx => hw x (List.mem_cons_of_mem _ hx)
    have dm := Int.emod_add_mul_ediv p w
    have m0 := Int.emod_nonneg p (show w ≠ 0 by omega)
    have m1 := Int.emod_lt_of_pos p (show 0 < w by omega)
    have d0 := Int.ediv_nonneg (show 0 ≤ p by omega) (show 0 ≤ w by omega)
    have e0 : pcs (w :: r) p = (List.replicate (p / w).toNat (pcs r w)).flatten ++ pcs r (p % w) := rfl
    have e1 : rm (w :: r) (p - 1) = rm r ((p - 1) % w) := rfl
    rw [e0, e1]
    by_cases q : p % w = 0
    · rw [q, pcs_zero, List.append_nil]
      obtain ⟨n, hn⟩ : ∃ n : Nat, (p / w).toNat = n + 1 := ⟨(p / w).toNat - 1, by
        have : p / w ≠ 0 := by intro z; rw [z, q] at dm; omega
        omega⟩
      obtain ⟨l, hl⟩ := pcs_last r w hr w1
      have e2 : (p - 1) % w = w - 1 := by
        have : p - 1 = (w - 1) + w * (p / w - 1) := by rw [Int.mul_sub]; omega
        rw [this, Int.add_mul_emod_self_left]; exact Int.emod_eq_of_lt (by omega) (by omega)
      rw [e2, hn, List.replicate_succ', List.flatten_append, List.flatten_singleton, hl]
      exact ⟨_, (List.append_assoc ..).symm⟩
    · obtain ⟨l, hl⟩ := pcs_last r (p % w) hr (by omega)
      have e2 : (p - 1) % w = p % w - 1 := by
        have : p - 1 = (p % w - 1) + w * (p / w) := by omega
        rw [this, Int.add_mul_emod_self_left]; exact Int.emod_eq_of_lt (by omega) (by omega)
      rw [e2, hl]
      exact ⟨_, (List.append_assoc ..).symm⟩
/-- the pieces of a line have lengths that occur, or are the last one -/
theorem pcs_among {ws : List Int} {p : Int} (hw : ∀ x ∈ ws, 1 ≤ x) (h : 1 ≤ p) : ∀ z ∈ pcs ws p, z ∈ sset (plens ws ++ [rm ws (p - 1) + 1]) := by
  intro z hz
  rw [mem_sset, List.mem_append, List.mem_singleton]
  cases ws with
  | nil =>
    right
    unfold pcs at hz
    rw [if_pos (by omega)] at hz
    rw [List.mem_singleton.mp hz]
    show p = p - 1 + 1
    omega
  | cons w r =>
    have w1 := hw w (by simp)
    have e0 : pcs (w :: r) p = (List.replicate (p / w).toNat (pcs r w)).flatten ++ pcs r (p % w) := rfl
    have m0 := Int.emod_nonneg p (show w ≠ 0 by omega)
    have m1 := Int.emod_lt_of_pos p (show 0 < w by omega)
    have hr : ∀ x ∈ r, 1 ≤ x := fun x hx => hw x (List.mem_cons_of_mem _ hx)
    have inP : ∀ z, z ∈ pcs r w → z ∈ plens (w :: r) := fun z hz => mem_sset.mpr (by rw [pcs_self w1]; exact hz)
    rw [e0] at hz
    rcases List.mem_append.mp hz with hz | hz
    · obtain ⟨l, h1, h2⟩ := List.mem_flatten.mp hz
      rw [(List.mem_replicate.mp h1).2] at h2
      exact .inl (inP z h2)
    · obtain ⟨l, r', e1, e2⟩ := pcs_pre r (p % w) w hr m0 (by omega)
      rw [e2] at hz
      rcases List.mem_append.mp hz with hz | hz
      · left; refine inP z ?_; rw [e1]; exact List.mem_append_left _ hz
      · right
        split at hz
        · simp at hz
        · rename_i q
          have ez := List.mem_singleton.mp hz
          have s := rm_succ hw (q := p - 1) (by omega)
          rw [show p - 1 + 1 = p by omega] at s
          have e : rm (w :: r) p = rm r (p % w) := rfl
          rw [← e] at q ez
          rw [if_neg q] at s
          omega
end Ma
namespace Ma
theorem sumF_one (P : List Int) : sumF (fun _ => 1) P = (P.length : Int) := by
  induction P with
  | nil => rfl
  | cons x r ih => unfold sumF at *; rw [List.map_cons, List.sum_cons, ih, List.length_cons]; omega
theorem count_all {L P : List Int} (nd : L.Nodup) (h : ∀ x ∈ P, x ∈ L) : (L.map fun z => ((P.count z : Nat) : Int)).sum = P.length := by
  have := sum_counts (f := fun _ => 1) nd P h
  rw [sumF_one] at this
  rw [← this]; congr 1
  exact List.map_congr_left fun z _ => by rw [Int.one_mul]
theorem count_sum {L P : List Int} (nd : L.Nodup) (h : ∀ x ∈ P, x ∈ L) : (List.zipWith (fun u v => u * v) L (L.map fun z => ((P.count z : Nat) : Int))).sum = P.sum := by
  have := sum_counts (f := id) nd P h
  have e : sumF id P = P.sum := by unfold sumF; simp
  rw [← e, ← this]; congr 1
  rw [List.zipWith_map_right, List.zipWith_self]; rfl
end Ma
namespace Ma
open FX
theorem least_ok {l : List Int} {m : Int} (h : leastOf l = some m) : m ∈ l ∧ ∀ x ∈ l, m ≤ x := by
  cases l with
  | nil => cases h
  | cons n r =>
    obtain rfl : r.foldl min n = m := Option.some.inj h
    obtain ⟨h1, h2, h3⟩ := foldl_min r n
    exact ⟨by rcases h1 with e | e; · rw [e]; simp
              · exact List.mem_cons_of_mem _ e, fun x hx => by rcases List.mem_cons.mp hx with rfl | q; · exact h2
                                                               · exact h3 x q⟩
theorem least_ex {l : List Int} (h : l ≠ []) : ∃ m, leastOf l = some m := by
  cases l with
  | nil => exact absurd rfl h
  | cons n r => exact ⟨_, rfl⟩
theorem foldl_mx : ∀ (r : List Int) (n : Int), (r.foldl max n = n ∨ r.foldl max n ∈ r) ∧ n ≤ r.foldl max n ∧ ∀ x ∈ r, x ≤ r.foldl max n
  | [], n => ⟨.inl rfl, Int.le_refl _, fun _ h => nomatch h⟩
  | y :: r, n => by
    obtain ⟨h1, h2, h3⟩ := foldl_mx r (max n y)
    rw [List.foldl_cons]
    refine ⟨?_, by omega, fun x hx => ?_⟩
    · rcases h1 with e | e
      · rcases Int.le_total n y with q | q
        · right; rw [e, Int.max_eq_right q]; simp
        · left; rw [e, Int.max_eq_left q]
      · right; exact List.mem_cons_of_mem _ e
    · rcases List.mem_cons.mp hx with rfl | q
      · omega
      · exact h3 x q
theorem most_ok {l : List Int} {m : Int} (h : mostOf l = some m) : m ∈ l ∧ ∀ x ∈ l, x ≤ m := by
  cases l with
  | nil => cases h
  | cons n r =>
    obtain rfl : r.foldl max n = m := Option.some.inj h
    obtain ⟨h1, h2, h3⟩ := foldl_mx r n
    exact ⟨by rcases h1 with e | e; · rw [e]; simp
              · exact List.mem_cons_of_mem _ e, fun x hx => by rcases List.mem_cons.mp hx with rfl | q; · exact h2
                                                               · exact h3 x q⟩
theorem most_ex {l : List Int} (h : l ≠ []) : ∃ m, mostOf l = some m := by
  cases l with
  | nil => exact absurd rfl h
  | cons n r => exact ⟨_, rfl⟩
/-- a width that is not less than one before it has no effect -/
theorem ef_ge : ∀ (ws : List Int) (b m : Int), b ≤ m → ef b (ws ++ [m]) = ef b ws
  | [], b, m, h => by rw [List.nil_append, ef_cons, if_neg (by omega)]
  | w :: r, b, m, h => by
    rw [List.cons_append, ef_cons, ef_cons]
    by_cases q : w < b
    · rw [if_pos q, if_pos q, ef_ge r w m (by omega)]
    · rw [if_neg q, if_neg q, ef_ge r b m h]
theorem ef_last : ∀ (ws : List Int) (b m : Int), (∃ x ∈ ef b ws, x ≤ m) → ef b (ws ++ [m]) = ef b ws
  | [], b, m, ⟨x, hx, _⟩ => by simp [ef] at hx
  | w :: r, b, m, ⟨x, hx, h⟩ => by
    rw [List.cons_append, ef_cons, ef_cons]
    rw [ef_cons] at hx
    by_cases q : w < b
    · rw [if_pos q] at hx
      rw [if_pos q, if_pos q]
      rcases List.mem_cons.mp hx with rfl | hx
      · rw [ef_ge r x m h]
      · rw [ef_last r w m ⟨x, hx, h⟩]
    · rw [if_neg q] at hx
      rw [if_neg q, if_neg q, ef_last r b m ⟨x, hx, h⟩]
theorem cdiv {z m : Int} (hm : 1 ≤ m) : -(-z / m) = z / m + if 0 < z % m then 1 else 0 := by
  have dm := Int.emod_add_mul_ediv z m
  have m0 := Int.emod_nonneg z (show m ≠ 0 by omega)
  have m1 := Int.emod_lt_of_pos z (show 0 < m by omega)
  by_cases q : 0 < z % m
  · rw [if_pos q]
    have e : -z = (m - z % m) + m * (-(z / m) - 1) := by rw [Int.mul_sub, Int.mul_neg]; omega
    rw [e, Int.add_mul_ediv_left _ _ (by omega), Int.ediv_eq_zero_of_lt (by omega) (by omega)]; omega
  · rw [if_neg q]
    have e : -z = m * -(z / m) := by rw [Int.mul_neg]; omega
    rw [e, Int.mul_ediv_cancel_left _ (by omega)]; omega
theorem cdiv_le {z m : Int} (hm : 1 ≤ m) (h : 0 ≤ z) : 0 ≤ -(-z / m) ∧ -(-z / m) ≤ z + 1 := by
  rw [cdiv hm]
  have := Int.ediv_nonneg h (show 0 ≤ m by omega)
  have := Int.ediv_le_self m h
  split <;> omega
theorem pcs_cdiv {z m : Int} (hm : 1 ≤ m) (h : 0 ≤ z) : ((pcs [m] z).length : Int) = -(-z / m) := by
  rw [pcs_len [m] z (by simpa using hm) h, cdiv hm]
  unfold Np Np
  rw [if_pos (by omega)]; omega
theorem snoc_count {ws : List Int} {m p : Int} (hw : ∀ x ∈ ws, 1 ≤ x) (hm : 1 ≤ m) (hp : 0 ≤ p) {L : List Int} (nd : L.Nodup) (h : ∀ x ∈ pcs ws p, x ∈ L) :
    (L.map fun z => (((pcs ws p).count z : Nat) : Int) * -(-z / m)).sum = Np (ws ++ [m]) p := by
  have h1 : ∀ x ∈ ws ++ [m], 1 ≤ x := fun x hx => by
    rcases List.mem_append.mp hx with q | q
    · exact hw x q
    · rw [List.mem_singleton.mp q]; exact hm
  have e1 := sum_counts (f := fun z => -(-z / m)) nd (pcs ws p) h
  rw [← pcs_len (ws ++ [m]) p h1 hp, pcs_snoc ws m p hw hp]
  have e2 : ∀ P : List Int, (∀ x ∈ P, 0 ≤ x) → ((P.flatMap (pcs [m])).length : Int) = sumF (fun z => -(-z / m)) P := by
    intro P
    induction P with
    | nil => intro _; rfl
    | cons x r ih =>
      intro hx
      have i := ih fun y hy => hx y (List.mem_cons_of_mem _ hy)
      unfold sumF at i ⊢
      rw [List.flatMap_cons, List.length_append, List.map_cons, List.sum_cons, ← i, ← pcs_cdiv hm (hx x (by simp))]; omega
  rw [e2 _ fun x hx => by have := (pcs_pos ws p hw hp x hx).1; omega, ← e1]
  congr 1
  exact List.map_congr_left fun z _ => Int.mul_comm _ _
theorem pcs_wide {ws : List Int} {w p : Int} (h0 : 0 ≤ p) (h : p ≤ w) (hw : 1 ≤ w) : pcs (w :: ws) p = pcs ws p := by
  by_cases q : p = w
  · subst q; exact pcs_self hw
  · show (List.replicate (p / w).toNat (pcs ws w)).flatten ++ pcs ws (p % w) = _
    rw [Int.ediv_eq_zero_of_lt h0 (by omega), Int.emod_eq_of_lt h0 (by omega)]; rfl
/-- the last break before a length -/
theorem nb_last {ws : List Int} {p : Int} (hw : ∀ x ∈ ws, 1 ≤ x) (h : 1 ≤ p) : p - Nb ws (Np ws p - 1) = rm ws (p - 1) + 1 := by
  obtain ⟨l, hl⟩ := pcs_last ws p hw h
  have l1 := pcs_len ws p hw (by omega)
  have e : (pcs ws p).length = l.length + 1 := by rw [hl]; simp
  have n := nb_pcs ws p l.length hw (by omega) (by omega)
  have s := pcs_sum ws p hw (by omega)
  rw [hl] at n s
  rw [List.take_left] at n
  rw [List.sum_append] at s
  simp only [List.sum_cons, List.sum_nil] at s
  rw [show Np ws p - 1 = (l.length : Int) by omega, ← n]
  omega
end Ma

set_option Elab.async false
set_option linter.all false
set_option maxRecDepth 100000
namespace Ma
open FX
/-! ### first differences -/
def mism (xs ys : List Int) : Option Nat := (xs.zip ys).findIdx? fun p => decide (p.1 ≠ p.2)
theorem mism_some {xs ys : List Int} {k : Nat} {u v : Int} (h1 : xs[k]? = some u) (h2 : ys[k]? = some v) (ne : u ≠ v) (he : ∀ j, j < k → xs[j]? = ys[j]?) : mism xs ys = some k := by
  obtain ⟨a1, b1⟩ := List.getElem?_eq_some_iff.mp h1
  obtain ⟨a2, b2⟩ := List.getElem?_eq_some_iff.mp h2
  unfold mism
  rw [List.findIdx?_eq_some_iff_getElem]
  refine ⟨by rw [List.length_zip]; omega, ?_, fun j hj => ?_⟩
  · rw [List.getElem_zip]; simp [b1, b2, ne]
  · have := he j hj
    rw [List.getElem?_eq_getElem (by omega), List.getElem?_eq_getElem (by omega)] at this
    rw [List.getElem_zip]; simpa using this
theorem mism_none {xs ys : List Int} (he : ∀ j, j < min xs.length ys.length → xs[j]? = ys[j]?) : mism xs ys = none := by
  unfold mism
  rw [List.findIdx?_eq_none_iff]
  intro p hp
  obtain ⟨j, hj, e⟩ := List.getElem_of_mem hp
  rw [List.length_zip] at hj
  have := he j hj
  rw [List.getElem?_eq_getElem (by omega), List.getElem?_eq_getElem (by omega)] at this
  rw [List.getElem_zip] at e
  rw [← e]
  simpa using this
/-- the first position below n with different columns -/
theorem mism_cols {a b : List Int} {n : Nat} : (mism (cols a n) (cols b n) = none ∧ Agr a b n) ∨ ∃ k : Nat, mism (cols a n) (cols b n) = some k ∧ k < n ∧ rm a k ≠ rm b k ∧ Agr a b k := by
  have gc : ∀ (ws : List Int) (k : Nat), k < n → (cols ws n)[k]? = some (rm ws k) := fun ws k hk => by
    unfold cols; rw [List.getElem?_map, List.getElem?_range hk]; rfl
  by_cases h : ∃ k : Nat, k < n ∧ rm a k ≠ rm b k
  · right
    obtain ⟨k, hk, least⟩ : ∃ k : Nat, (k < n ∧ rm a k ≠ rm b k) ∧ ∀ j : Nat, j < k → ¬(j < n ∧ rm a j ≠ rm b j) := by
      obtain ⟨k0, h0⟩ := h
      have key : ∀ m : Nat, (∃ k : Nat, k ≤ m ∧ (k < n ∧ rm a k ≠ rm b k)) → ∃ k : Nat, (k < n ∧ rm a k ≠ rm b k) ∧ ∀ j : Nat, j < k → ¬(j < n ∧ rm a j ≠ rm b j) := by
        intro m
        induction m with
        | zero => rintro ⟨k, hk, p⟩; exact ⟨k, p, fun j hj => by omega⟩
        | succ m ih =>
          rintro ⟨k, hk, p⟩
          by_cases q : ∃ k : Nat, k ≤ m ∧ (k < n ∧ rm a k ≠ rm b k)
          · exact ih q
          · exact ⟨k, p, fun j hj c => q ⟨j, by omega, c⟩⟩
      exact key k0 ⟨k0, Nat.le_refl _, h0⟩
    have ag : Agr a b k := fun x h0 h1 => by
      have := least x.toNat (by omega)
      rw [Int.toNat_of_nonneg h0] at this
      exact Classical.byContradiction fun c => this ⟨by omega, c⟩
    refine ⟨k, mism_some (gc a k hk.1) (gc b k hk.1) hk.2 fun j hj => ?_, hk.1, hk.2, ag⟩
    rw [gc a j (by omega), gc b j (by omega), ag j (by omega) (by omega)]
  · left
    have ag : Agr a b n := fun x h0 h1 => by
      refine Classical.byContradiction fun c => h ⟨x.toNat, by omega, ?_⟩
      rw [Int.toNat_of_nonneg h0]; exact c
    refine ⟨mism_none fun j hj => ?_, ag⟩
    simp only [cols_len, Nat.min_self] at hj
    rw [gc a j hj, gc b j hj, ag j (by omega) (by omega)]
/-! ### periods -/
theorem rm_period {w : Int} {r : List Int} (x : Int) : rm (w :: r) (x + w) = rm (w :: r) x := by
  show rm r ((x + w) % w) = rm r (x % w)
  rw [Int.add_emod_right]
theorem rm_period_sub {w : Int} {r : List Int} (x : Int) : rm (w :: r) (x - w) = rm (w :: r) x := by
  have := rm_period (w := w) (r := r) (x - w)
  rw [show x - w + w = x by omega] at this
  exact this.symm
def hd (a : List Int) : Int := (a.take 1).sum
theorem hd_cons {w : Int} {r : List Int} : hd (w :: r) = w := by simp [hd]
theorem hd_nil : hd [] = 0 := rfl
theorem hd_nonneg {a : List Int} (ha : ∀ x ∈ a, 1 ≤ x) : 0 ≤ hd a := by
  cases a with
  | nil => exact Int.le_refl _
  | cons w r => rw [hd_cons]; have := ha w (by simp); omega
/-- lists that agree below the sum of their first widths agree everywhere -/
theorem agr_all {a b : List Int} (ha : ∀ x ∈ a, 1 ≤ x) (hb : ∀ x ∈ b, 1 ≤ x) (h : Agr a b (hd a + hd b + 1)) : ∀ x, 0 ≤ x → rm a x = rm b x := by
  cases a with
  | nil =>
    cases b with
    | nil => intro x _; rfl
    | cons w r =>
      have w1 := hb w (by simp)
      have := h w (by omega) (by rw [hd_nil, hd_cons]; omega)
      have e : rm (w :: r) w = rm r (w % w) := rfl
      rw [e, Int.emod_self, rm_0 fun x hx => hb x (List.mem_cons_of_mem _ hx)] at this
      have e2 : rm [] w = w := rfl
      omega
  | cons v s =>
    have v1 := ha v (by simp)
    cases b with
    | nil =>
      have := h v (by omega) (by rw [hd_nil, hd_cons]; omega)
      have e : rm (v :: s) v = rm s (v % v) := rfl
      rw [e, Int.emod_self, rm_0 fun x hx => ha x (List.mem_cons_of_mem _ hx)] at this
      have e2 : rm [] v = v := rfl
      omega
    | cons w r =>
      have w1 := hb w (by simp)
      rw [hd_cons, hd_cons] at h
      have key : ∀ n : Nat, ∀ x : Int, 0 ≤ x → x < n → rm (v :: s) x = rm (w :: r) x := by
        intro n
        induction n with
        | zero => intro x h0 h1; omega
        | succ n ih =>
          intro x h0 h1
          by_cases q : x < v + w + 1
          · exact h x h0 q
          · have e1 := ih (x - v) (by omega) (by omega)
            have e2 := ih (x - w) (by omega) (by omega)
            have e3 := ih (x - v - w) (by omega) (by omega)
            have a1 := rm_period_sub (w := v) (r := s) x
            have a2 := rm_period_sub (w := v) (r := s) (x - w)
            have b1 := rm_period_sub (w := w) (r := r) x
            have b2 := rm_period_sub (w := w) (r := r) (x - v)
            rw [show x - w - v = x - v - w by omega] at a2
            omega
      intro x h0
      exact key (x.toNat + 1) x h0 (by omega)
def fdi (a b : List Int) : Option Nat := mism (cols a (hd a + hd b + 1).toNat) (cols b (hd a + hd b + 1).toNat)
def eqE (a b : List Int) : Bool := (fdi a b).isNone
theorem eqE_iff {a b : List Int} (ha : ∀ x ∈ a, 1 ≤ x) (hb : ∀ x ∈ b, 1 ≤ x) : eqE a b = true ↔ ∀ x, 0 ≤ x → rm a x = rm b x := by
  have h0 := hd_nonneg ha
  have h1 := hd_nonneg hb
  unfold eqE
  rcases mism_cols (a := a) (b := b) (n := (hd a + hd b + 1).toNat) with ⟨e, ag⟩ | ⟨k, e, hk, ne, ag⟩
  · unfold fdi
    rw [e]
    refine ⟨fun _ => agr_all ha hb ?_, fun _ => rfl⟩
    rwa [Int.toNat_of_nonneg (by omega)] at ag
  · unfold fdi
    rw [e]
    exact ⟨fun h => (nomatch h), fun h => absurd (h k (by omega)) ne⟩
/-- equal in effect, told by the pieces of one long line -/
theorem eqE_pcs {a b : List Int} (ha : ∀ x ∈ a, 1 ≤ x) (hb : ∀ x ∈ b, 1 ≤ x) {n : Int} (h : hd a + hd b + 1 ≤ n) : decide (pcs a n = pcs b n) = eqE a b := by
  have h0 := hd_nonneg ha
  have h1 := hd_nonneg hb
  obtain ⟨m, rfl⟩ : ∃ m : Nat, n = m := ⟨n.toNat, by omega⟩
  rw [Bool.eq_iff_iff, decide_eq_true_iff, pcs_agr ha hb, eqE_iff ha hb]
  exact ⟨fun g => agr_all ha hb fun x x0 x1 => g x x0 (by omega), fun g x x0 _ => g x x0⟩
end Ma
namespace Ma
theorem pcs_dm {w x : Int} (hw : 1 ≤ w) : pcs [w] x = List.replicate (x / w).toNat w ++ if 0 < x % w then [x % w] else [] := by
  have e0 : pcs [w] x = (List.replicate (x / w).toNat (pcs [] w)).flatten ++ pcs [] (x % w) := rfl
  have e1 : pcs [] w = [w] := by unfold pcs; rw [if_pos (by omega)]
  have e2 : ∀ n : Nat, (List.replicate n [w]).flatten = List.replicate n w := by
    intro n
    induction n with
    | zero => rfl
    | succ n ih => rw [List.replicate_succ, List.replicate_succ, List.flatten_cons, ih]; rfl
  rw [e0, e1, e2]; rfl
end Ma
namespace Ma
open FX
theorem hd_le {a : List Int} {m : Int} (h0 : 0 ≤ m) (h : ∀ x ∈ a, x ≤ m) : hd a ≤ m := by
  cases a with
  | nil => exact h0
  | cons w r => rw [hd_cons]; exact h w (by simp)
/-- the line of the laws is long enough -/
theorem line_ok {a b : List Int} {m : Int} (ha : ∀ x ∈ a, 1 ≤ x) (hb : ∀ x ∈ b, 1 ≤ x) (h0 : 0 ≤ m) (h1 : ∀ x ∈ a, x ≤ m) (h2 : ∀ x ∈ b, x ≤ m) : decide (pcs a (2 * m + 10) = pcs b (2 * m + 10)) = eqE a b :=
  eqE_pcs ha hb (by have := hd_le h0 h1; have := hd_le h0 h2; omega)
end Ma

set_option Elab.async false
set_option linter.all false
set_option maxRecDepth 100000
namespace Ma
open FX
/-! ### overlaps and periods up to a length -/
def fnl (f : Nat → Int) (n : Nat) : List Int := (List.range n).map f
theorem fnl_at {f : Nat → Int} {n k : Nat} (h : k < n) : (fnl f n)[k]? = some (f k) := by unfold fnl; rw [List.getElem?_map, List.getElem?_range h]; rfl
theorem fnl_len {f : Nat → Int} {n : Nat} : (fnl f n).length = n := by simp [fnl]
theorem mism_fn {f g : Nat → Int} {n : Nat} : (mism (fnl f n) (fnl g n) = none ∧ ∀ k, k < n → f k = g k) ∨ ∃ k, mism (fnl f n) (fnl g n) = some k ∧ k < n ∧ f k ≠ g k ∧ ∀ j, j < k → f j = g j := by
  by_cases h : ∃ k : Nat, k < n ∧ f k ≠ g k
  · right
    obtain ⟨k0, h0⟩ := h
    have key : ∀ m : Nat, (∃ k : Nat, k ≤ m ∧ (k < n ∧ f k ≠ g k)) → ∃ k : Nat, (k < n ∧ f k ≠ g k) ∧ ∀ j : Nat, j < k → ¬(j < n ∧ f j ≠ g j) := by
      intro m
      induction m with
      | zero => rintro ⟨k, hk, p⟩; exact ⟨k, p, fun j hj => by omega⟩
      | succ m ih =>
        rintro ⟨k, hk, p⟩
        by_cases q : ∃ k : Nat, k ≤ m ∧ (k < n ∧ f k ≠ g k)
        · exact ih q
        · exact ⟨k, p, fun j hj c => q ⟨j, by omega, c⟩⟩
    obtain ⟨k, hk, least⟩ := key k0 ⟨k0, Nat.le_refl _, h0⟩
    have le : ∀ j, j < k → f j = g j := fun j hj => Classical.byContradiction fun c => least j hj ⟨by omega, c⟩
    exact ⟨k, mism_some (fnl_at hk.1) (fnl_at hk.1) hk.2 fun j hj => by rw [fnl_at (by omega), fnl_at (by omega), le j hj], hk.1, hk.2, le⟩
  · left
    have eq : ∀ k, k < n → f k = g k := fun k hk => Classical.byContradiction fun c => h ⟨k, hk, c⟩
    refine ⟨mism_none fun j hj => ?_, eq⟩
    rw [fnl_len, fnl_len, Nat.min_self] at hj
    rw [fnl_at hj, fnl_at hj, eq j hj]
theorem cols_fnl {ws : List Int} {n : Nat} : cols ws n = fnl (fun k => rm ws k) n := rfl
theorem rm_mod {w : Int} {r : List Int} {x y : Int} (h : x % w = y % w) : rm (w :: r) x = rm (w :: r) y := by
  show rm r (x % w) = rm r (y % w)
  rw [h]
theorem rot_eq {w : Int} {r : List Int} {p : Int} (hw : 1 ≤ w) (hp : 0 ≤ p) : (cols (w :: r) w.toNat).drop (p % w).toNat ++ (cols (w :: r) w.toNat).take (p % w).toNat = fnl (fun k => rm (w :: r) (k + p)) w.toNat := by
  have m0 := Int.emod_nonneg p (show w ≠ 0 by omega)
  have m1 := Int.emod_lt_of_pos p (show 0 < w by omega)
  obtain ⟨st, hst⟩ : ∃ st : Nat, (p % w) = st := ⟨(p % w).toNat, by omega⟩
  obtain ⟨v, hv⟩ : ∃ v : Nat, w = v := ⟨w.toNat, by omega⟩
  have es : (p % w).toNat = st := by omega
  have ev : w.toNat = v := by omega
  rw [es, ev]
  apply List.ext_getElem?
  intro k
  by_cases hk : k < v
  · rw [fnl_at hk]
    by_cases h1 : k < v - st
    · rw [List.getElem?_append_left (by rw [List.length_drop, cols_len]; exact h1), List.getElem?_drop, cols_fnl, fnl_at (by omega)]
      congr 1
      refine rm_mod ?_
      rw [show (((st + k : Nat) : Int)) = (k : Int) + p % w by omega, Int.add_emod_emod]
    · rw [List.getElem?_append_right (by rw [List.length_drop, cols_len]; omega), List.length_drop, cols_len, List.getElem?_take_of_lt (by omega), cols_fnl, fnl_at (by omega)]
      congr 1
      refine rm_mod ?_
      rw [show (((k - (v - st) : Nat) : Int)) = (k : Int) + p % w - w by omega, Int.sub_emod_right, Int.add_emod_emod]
  · have a1 : ((cols (w :: r) v).drop st ++ (cols (w :: r) v).take st).length ≤ k := by rw [List.length_append, List.length_drop, List.length_take, cols_len]; omega
    have a2 : (fnl (fun k : Nat => rm (w :: r) (k + p)) v).length ≤ k := by rw [fnl_len]; omega
    rw [List.getElem?_eq_none a1, List.getElem?_eq_none a2]
def ovl (ws : List Int) (p : Int) : Option Nat := match ws with
  | [] => if p = 0 then none else some 0
  | w :: r => mism (cols (w :: r) w.toNat) ((cols (w :: r) w.toNat).drop (p % w).toNat ++ (cols (w :: r) w.toNat).take (p % w).toNat)
theorem ovl_ok {ws : List Int} {p : Int} (hw : ∀ x ∈ ws, 1 ≤ x) (hp : 0 ≤ p) : (ovl ws p = none ∧ ∀ x, 0 ≤ x → rm ws x = rm ws (x + p)) ∨ ∃ t : Nat, ovl ws p = some t ∧ (t : Int) ≤ hd ws ∧ rm ws t ≠ rm ws (t + p) ∧ ∀ x : Int, 0 ≤ x → x < t → rm ws x = rm ws (x + p) := by
  cases ws with
  | nil =>
    unfold ovl
    by_cases h : p = 0
    · left; subst h; exact ⟨rfl, fun x _ => by rw [Int.add_zero]⟩
    · right
      refine ⟨0, by simp [h], Int.le_refl _, ?_, fun x h0 h1 => by omega⟩
      show ((0 : Nat) : Int) ≠ ((0 : Nat) : Int) + p
      omega
  | cons w r =>
    have w1 := hw w (by simp)
    have e : ovl (w :: r) p = mism (fnl (fun k => rm (w :: r) k) w.toNat) (fnl (fun k => rm (w :: r) (k + p)) w.toNat) := by
      show mism _ _ = _
      rw [rot_eq w1 hp, cols_fnl]
    rw [e, hd_cons]
    rcases mism_fn (f := fun k : Nat => rm (w :: r) k) (g := fun k : Nat => rm (w :: r) (k + p)) (n := w.toNat) with ⟨h1, h2⟩ | ⟨k, h1, h2, h3, h4⟩
    · left
      refine ⟨h1, fun x h0 => ?_⟩
      have m0 := Int.emod_nonneg x (show w ≠ 0 by omega)
      have m1 := Int.emod_lt_of_pos x (show 0 < w by omega)
      have := h2 (x % w).toNat (by omega)
      simp only [Int.toNat_of_nonneg m0] at this
      rw [rm_mod (x := x % w) (y := x) (Int.emod_emod_of_dvd _ (Int.dvd_refl _)), rm_mod (x := x % w + p) (y := x + p) (by rw [Int.emod_add_emod])] at this
      exact this
    · right
      refine ⟨k, h1, by omega, h3, fun x h0 hx => ?_⟩
      have := h4 x.toNat (by omega)
      simp only [Int.toNat_of_nonneg h0] at this
      exact this
def hasP (ws : List Int) (n p : Int) : Bool := match ovl ws p with
  | none => true
  | some t => decide (n ≤ p + t)
theorem hasP_iff {ws : List Int} {n p : Int} (hw : ∀ x ∈ ws, 1 ≤ x) (hp : 0 ≤ p) : hasP ws n p = true ↔ ∀ x, 0 ≤ x → x + p < n → rm ws x = rm ws (x + p) := by
  unfold hasP
  rcases ovl_ok hw hp with ⟨e, h⟩ | ⟨t, e, _, ne, h⟩
  · rw [e]; exact ⟨fun _ x h0 _ => h x h0, fun _ => rfl⟩
  · rw [e]
    simp only [decide_eq_true_iff]
    refine ⟨fun g x h0 h1 => h x h0 (by omega), fun g => Classical.byContradiction fun c => ne (g t (by omega) (by omega))⟩
theorem cols_take {ws : List Int} {n m : Nat} (h : m ≤ n) : (cols ws n).take m = cols ws m := by
  unfold cols; rw [← List.map_take, List.take_range, Nat.min_eq_left h]
theorem cols_drop {ws : List Int} {n m : Nat} : (cols ws n).drop m = fnl (fun k => rm ws (k + m)) (n - m) := by
  apply List.ext_getElem?
  intro k
  rw [List.getElem?_drop]
  by_cases h : k < n - m
  · rw [fnl_at h, cols_fnl, fnl_at (by omega)]; congr 2; omega
  · rw [List.getElem?_eq_none (by rw [cols_len]; omega), List.getElem?_eq_none (by rw [fnl_len]; omega)]
theorem fnl_eq {f g : Nat → Int} {n m : Nat} : fnl f n = fnl g m ↔ n = m ∧ ∀ k, k < n → f k = g k := by
  constructor
  · intro h
    have l := congrArg List.length h
    rw [fnl_len, fnl_len] at l
    refine ⟨l, fun k hk => ?_⟩
    have this : (fnl f n)[k]? = (fnl g m)[k]? := by rw [h]
    rw [fnl_at hk, fnl_at (by omega)] at this
    exact Option.some.inj this
  · rintro ⟨rfl, h⟩
    exact List.map_congr_left fun k hk => h k (List.mem_range.mp hk)
theorem fnl_take {f : Nat → Int} {n m : Nat} : (fnl f n).take m = fnl f (min m n) := by
  unfold fnl; rw [← List.map_take, List.take_range]
/-- the columns at a distance, place by place -/
theorem hasP_cols {ws : List Int} {n p N : Nat} (hw : ∀ x ∈ ws, 1 ≤ x) (h1 : n ≤ N) (h2 : 1 ≤ p) : decide (((cols ws N).drop p).take (n - p) = (cols ws N).take (n - p)) = hasP ws n p := by
  rw [Bool.eq_iff_iff, decide_eq_true_iff, hasP_iff hw (by omega), cols_drop, fnl_take, cols_take (by omega), cols_fnl, fnl_eq]
  constructor
  · rintro ⟨e, h⟩ x h0 hx
    have := h x.toNat (by omega)
    rw [Int.toNat_of_nonneg h0] at this
    exact this.symm
  · intro h
    refine ⟨by omega, fun k hk => ?_⟩
    exact (h k (by omega) (by omega)).symm
end Ma

set_option Elab.async false
set_option linter.all false
set_option maxRecDepth 100000
namespace Ma
open FX
/-! ### least periods of beginnings -/
def Per (f : Nat → Int) (p n : Nat) : Prop := ∀ x, x + p < n → f x = f (x + p)
def perB (f : Nat → Int) (p n : Nat) : Bool := (List.range (n - p)).all fun x => decide (f x = f (x + p))
theorem perB_iff {f : Nat → Int} {p n : Nat} : perB f p n = true ↔ Per f p n := by
  unfold perB Per
  rw [List.all_eq_true]
  constructor
  · intro h x hx
    have := h x (List.mem_range.mpr (by omega))
    exact of_decide_eq_true this
  · intro h x hx
    have := List.mem_range.mp hx
    exact decide_eq_true (h x (by omega))
/-- the least period of the first n (0 for none) -/
def lp (f : Nat → Int) (n : Nat) : Nat := ((List.range n).findIdx? fun p => perB f (p + 1) n).elim 0 (· + 1)
theorem per_self (f : Nat → Int) (n : Nat) : Per f n n := fun x hx => by omega
theorem lp_zero (f : Nat → Int) : lp f 0 = 0 := rfl
theorem lp_spec {f : Nat → Int} {n : Nat} (h : 1 ≤ n) : 1 ≤ lp f n ∧ lp f n ≤ n ∧ Per f (lp f n) n ∧ ∀ q, 1 ≤ q → q < lp f n → ¬Per f q n := by
  unfold lp
  cases e : (List.range n).findIdx? fun p => perB f (p + 1) n with
  | none =>
    rw [List.findIdx?_eq_none_iff] at e
    have := e (n - 1) (List.mem_range.mpr (by omega))
    rw [show n - 1 + 1 = n by omega] at this
    rw [perB_iff.mpr (per_self f n)] at this
    cases this
  | some k =>
    rw [List.findIdx?_eq_some_iff_getElem] at e
    obtain ⟨h1, h2, h3⟩ := e
    rw [List.getElem_range] at h2
    rw [List.length_range] at h1
    refine ⟨by show 1 ≤ k + 1; omega, by show k + 1 ≤ n; omega, perB_iff.mp h2, fun q q1 q2 c => ?_⟩
    have q2' : q < k + 1 := q2
    have := h3 (q - 1) (by omega)
    rw [List.getElem_range, show q - 1 + 1 = q by omega, perB_iff.mpr c] at this
    exact this rfl
theorem lp_unique {f : Nat → Int} {n p : Nat} (h1 : 1 ≤ p) (h2 : p ≤ n) (h3 : Per f p n) (h4 : ∀ q, 1 ≤ q → q < p → ¬Per f q n) : lp f n = p := by
  obtain ⟨a1, a2, a3, a4⟩ := lp_spec (f := f) (n := n) (by omega)
  rcases Nat.lt_trichotomy (lp f n) p with h | h | h
  · exact absurd a3 (h4 _ a1 h)
  · exact h
  · exact absurd h3 (a4 _ h1 h)
theorem lp_le {f : Nat → Int} {n p : Nat} (hn : 1 ≤ n) (h1 : 1 ≤ p) (h : Per f p n) : lp f n ≤ p :=
  Nat.le_of_not_lt fun c => (lp_spec hn).2.2.2 p h1 c h
theorem Per.mono {f : Nat → Int} {p n m : Nat} (h : Per f p n) (hm : m ≤ n) : Per f p m := fun x hx => h x (by omega)
theorem lp_mono {f : Nat → Int} {n m : Nat} (h : n ≤ m) : lp f n ≤ lp f m := by
  rcases Nat.eq_zero_or_pos n with z | z
  · subst z; rw [lp_zero]; exact Nat.zero_le _
  · obtain ⟨a1, a2, a3, a4⟩ := lp_spec (f := f) (n := m) (by omega)
    exact lp_le z a1 (a3.mono h)
theorem Per.congr {f g : Nat → Int} {p n : Nat} (h : ∀ x, x < n → f x = g x) (hp : Per f p n) : Per g p n := fun x hx => by
  rw [← h x (by omega), ← h (x + p) hx]; exact hp x hx
theorem lp_congr {f g : Nat → Int} {n : Nat} (h : ∀ x, x < n → f x = g x) : lp f n = lp g n := by
  rcases Nat.eq_zero_or_pos n with z | z
  · subst z; rfl
  · obtain ⟨a1, a2, a3, a4⟩ := lp_spec (f := f) z
    exact (lp_unique a1 a2 (a3.congr h) fun q q1 q2 c => a4 q q1 q2 (c.congr fun x hx => (h x hx).symm)).symm
/-! ### borders: the failure function -/
def Bd (f : Nat → Int) (k n : Nat) : Prop := k < n ∧ ∀ x, x < k → f x = f (x + (n - k))
theorem bd_per {f : Nat → Int} {k n : Nat} (h : k < n) : Bd f k n ↔ Per f (n - k) n := by
  unfold Bd Per
  constructor
  · rintro ⟨_, g⟩ x hx; exact g x (by omega)
  · intro g; exact ⟨h, fun x hx => g x (by omega)⟩
theorem bd_zero {f : Nat → Int} {n : Nat} (h : 0 < n) : Bd f 0 n := ⟨h, fun x hx => by omega⟩
theorem bd_succ {f : Nat → Int} {k n : Nat} (h : k < n) : Bd f (k + 1) (n + 1) ↔ Bd f k n ∧ f k = f n := by
  unfold Bd
  rw [show n + 1 - (k + 1) = n - k by omega]
  constructor
  · rintro ⟨_, g⟩
    refine ⟨⟨h, fun x hx => g x (by omega)⟩, ?_⟩
    have := g k (by omega)
    rwa [show k + (n - k) = n by omega] at this
  · rintro ⟨⟨_, g⟩, e⟩
    refine ⟨by omega, fun x hx => ?_⟩
    rcases Nat.lt_succ_iff_lt_or_eq.mp hx with z | z
    · exact g x z
    · rw [z, show k + (n - k) = n by omega]; exact e
theorem bd_trans {f : Nat → Int} {j k n : Nat} (hb : Bd f k n) (hj : j < k) : Bd f j n ↔ Bd f j k := by
  obtain ⟨hk, g⟩ := hb
  unfold Bd
  have key : ∀ x, x < j → f (x + (k - j)) = f (x + (n - j)) := fun x hx => by
    have := g (x + (k - j)) (by omega)
    rwa [show x + (k - j) + (n - k) = x + (n - j) by omega] at this
  constructor
  · rintro ⟨_, u⟩
    exact ⟨hj, fun x hx => by rw [key x hx]; exact u x hx⟩
  · rintro ⟨_, u⟩
    exact ⟨by omega, fun x hx => by rw [← key x hx]; exact u x hx⟩
/-- the longest border -/
def lb (f : Nat → Int) (n : Nat) : Nat := n - lp f n
theorem lb_spec {f : Nat → Int} {n : Nat} (h : 1 ≤ n) : Bd f (lb f n) n ∧ ∀ k, Bd f k n → k ≤ lb f n := by
  obtain ⟨a1, a2, a3, a4⟩ := lp_spec (f := f) h
  unfold lb
  refine ⟨(bd_per (by omega)).mpr (by rw [show n - (n - lp f n) = lp f n by omega]; exact a3), fun k hk => ?_⟩
  have := lp_le h (by have := hk.1; omega) ((bd_per hk.1).mp hk)
  have := hk.1
  omega
theorem lb_unique {f : Nat → Int} {n b : Nat} (h : 1 ≤ n) (h1 : Bd f b n) (h2 : ∀ k, Bd f k n → k ≤ b) : b = lb f n := by
  obtain ⟨a1, a2⟩ := lb_spec (f := f) h
  have := a2 b h1
  have := h2 _ a1
  omega
theorem lb_one (f : Nat → Int) : lb f 1 = 0 := by
  have := (lp_spec (f := f) (n := 1) (by omega))
  unfold lb; omega
theorem lb_zero (f : Nat → Int) : lb f 0 = 0 := rfl
/-- what the search keeps: a border, and none that can be carried on is longer -/
def Kmp (f : Nat → Int) (n b : Nat) : Prop := Bd f b n ∧ ∀ k, Bd f k n → f k = f n → k ≤ b
theorem kmp_start {f : Nat → Int} {n : Nat} (h : 1 ≤ n) : Kmp f n (lb f n) := ⟨(lb_spec h).1, fun k hk _ => (lb_spec h).2 k hk⟩
theorem kmp_step {f : Nat → Int} {n b : Nat} (h : Kmp f n b) (hb : 0 < b) (ne : f n ≠ f b) : Kmp f n (lb f b) := by
  obtain ⟨h1, h2⟩ := h
  obtain ⟨a1, a2⟩ := lb_spec (f := f) (n := b) hb
  refine ⟨(bd_trans h1 a1.1).mpr a1, fun k hk e => ?_⟩
  have h3 := h2 k hk e
  have h4 : k ≠ b := fun z => ne (by rw [← z]; exact e.symm)
  exact a2 k ((bd_trans h1 (by omega)).mp hk)
theorem kmp_yes {f : Nat → Int} {n b : Nat} (h : Kmp f n b) (e : f n = f b) : b + 1 = lb f (n + 1) := by
  obtain ⟨h1, h2⟩ := h
  refine lb_unique (by omega) ((bd_succ h1.1).mpr ⟨h1, e.symm⟩) fun k hk => ?_
  cases k with
  | zero => omega
  | succ k =>
    have := hk.1
    obtain ⟨u, v⟩ := (bd_succ (by omega)).mp hk
    have := h2 k u v
    omega
theorem kmp_no {f : Nat → Int} {n : Nat} (h : Kmp f n 0) (ne : f n ≠ f 0) : 0 = lb f (n + 1) := by
  obtain ⟨h1, h2⟩ := h
  refine lb_unique (by omega) (bd_zero (by omega)) fun k hk => ?_
  cases k with
  | zero => omega
  | succ k =>
    have := hk.1
    obtain ⟨u, v⟩ := (bd_succ (by omega)).mp hk
    have := h2 k u v
    have : k = 0 := by omega
    subst this
    exact absurd v.symm ne
theorem lb_lt {f : Nat → Int} {n : Nat} (h : 1 ≤ n) : lb f n < n := (lb_spec h).1.1
/-- a list as a function -/
def at0 (c : List Int) (k : Nat) : Int := c.getD k 0
theorem at0_get {c : List Int} {k : Nat} (h : k < c.length) : c[k]? = some (at0 c k) := by
  unfold at0; rw [List.getD_eq_getElem?_getD, List.getElem?_eq_getElem h]; rfl
theorem at0_cols {ws : List Int} {n k : Nat} (h : k < n) : at0 (cols ws n) k = rm ws k := by
  unfold at0; rw [List.getD_eq_getElem?_getD, cols_fnl, fnl_at h]; rfl
/-- the least periods of all beginnings -/
def lps (c : List Int) : List Int := fnl (fun n => (lp (at0 c) n : Int)) (c.length + 1)
theorem lps_at {c : List Int} {n : Nat} (h : n ≤ c.length) : (lps c)[n]? = some (lp (at0 c) n : Int) := fnl_at (by omega)
theorem lps_len {c : List Int} : (lps c).length = c.length + 1 := fnl_len
end Ma
namespace Ma
theorem fnl_zip {g : Nat → Int} {F : Nat → Int → Int} {m : Nat} : ((fnl g m).zipIdx.map fun p => F p.2 p.1) = fnl (fun k => F k (g k)) m := by
  apply List.ext_getElem?
  intro k
  rw [List.getElem?_map, List.getElem?_zipIdx]
  by_cases h : k < m
  · rw [fnl_at h, fnl_at h]; simp
  · rw [List.getElem?_eq_none (by rw [fnl_len]; omega), List.getElem?_eq_none (by rw [fnl_len]; omega)]; rfl
theorem fnl_snoc {g : Nat → Int} {m : Nat} : fnl g (m + 1) = fnl g m ++ [g m] := by unfold fnl; rw [List.range_succ, List.map_append]; rfl
theorem fnl_congr {f g : Nat → Int} {n : Nat} (h : ∀ k, k < n → f k = g k) : fnl f n = fnl g n := fnl_eq.mpr ⟨rfl, h⟩
end Ma

set_option Elab.async false
set_option linter.all false
set_option maxRecDepth 100000
namespace Ma
open FX
/-! ### descents -/
abbrev rmN (ws : List Int) : Nat → Int := fun k => rm ws k
def dscF (f : Nat → Int) : Nat → Nat → List Int
  | 0, _ => []
  | m + 1, n => if lp f n < n then (lp f n : Int) :: dscF f m (lp f n) else []
theorem dscF_any {f : Nat → Int} : ∀ {m m' n : Nat}, n ≤ m → n ≤ m' → dscF f m n = dscF f m' n
  | 0, 0, _, _, _ => rfl
  | 0, m' + 1, n, h, _ => by
    have : n = 0 := by omega
    subst this
    show [] = if lp f 0 < 0 then _ else []
    rw [if_neg (by omega)]
  | m + 1, 0, n, _, h => by
    have : n = 0 := by omega
    subst this
    show (if lp f 0 < 0 then _ else []) = []
    rw [if_neg (by omega)]
  | m + 1, m' + 1, n, h, h' => by
    unfold dscF
    by_cases q : lp f n < n
    · rw [if_pos q, if_pos q, dscF_any (m := m) (m' := m') (n := lp f n) (by omega) (by omega)]
    · rw [if_neg q, if_neg q]
def dsc (f : Nat → Int) (n : Nat) : List Int := dscF f n n
theorem dsc_eq {f : Nat → Int} {n : Nat} : dsc f n = if lp f n < n then (lp f n : Int) :: dsc f (lp f n) else [] := by
  unfold dsc
  cases n with
  | zero => rw [if_neg (by rw [lp_zero]; omega)]; rfl
  | succ m =>
    conv => lhs; unfold dscF
    by_cases q : lp f (m + 1) < m + 1
    · rw [if_pos q, if_pos q, dscF_any (m := m) (m' := lp f (m + 1)) (by omega) (Nat.le_refl _)]
    · rw [if_neg q, if_neg q]
theorem dsc_congr {f g : Nat → Int} : ∀ {n : Nat}, (∀ x, x < n → f x = g x) → dsc f n = dsc g n := by
  intro n
  induction n using Nat.strongRecOn with
  | _ n ih =>
    intro h
    rw [dsc_eq, dsc_eq (f := g), ← lp_congr h]
    by_cases q : lp f n < n
    · rw [if_pos q, if_pos q, ih _ q fun x hx => h x (by omega)]
    · rw [if_neg q, if_neg q]
theorem dsc_len {f : Nat → Int} : ∀ {n : Nat}, (dsc f n).length ≤ n := by
  intro n
  induction n using Nat.strongRecOn with
  | _ n ih =>
    rw [dsc_eq]
    by_cases q : lp f n < n
    · rw [if_pos q, List.length_cons]; have := ih _ q; omega
    · rw [if_neg q]; exact Nat.zero_le _
theorem dsc_mem {f : Nat → Int} : ∀ {n : Nat} {x : Int}, x ∈ dsc f n → 1 ≤ x ∧ x < n := by
  intro n
  induction n using Nat.strongRecOn with
  | _ n ih =>
    intro x hx
    rw [dsc_eq] at hx
    by_cases q : lp f n < n
    · rw [if_pos q] at hx
      have := (lp_spec (f := f) (n := n) (by omega)).1
      rcases List.mem_cons.mp hx with rfl | hx
      · omega
      · have := ih _ q hx; omega
    · rw [if_neg q] at hx; simp at hx
/-! ### the columns of widths -/
theorem rmN_period {w : Int} {r : List Int} (hw : 1 ≤ w) (n : Nat) : Per (rmN (w :: r)) w.toNat n := fun x _ => by
  show rm (w :: r) x = rm (w :: r) ((x + w.toNat : Nat) : Int)
  rw [show ((x + w.toNat : Nat) : Int) = (x : Int) + w by omega, rm_period]
/-- a period of two blocks is one for ever -/
theorem per_all {w : Int} {r : List Int} {p : Nat} (hw : 1 ≤ w) (hp : p ≤ w.toNat) (h : Per (rmN (w :: r)) p (2 * w.toNat)) (n : Nat) : Per (rmN (w :: r)) p n := fun x _ => by
  have m0 := Int.emod_nonneg (x : Int) (show w ≠ 0 by omega)
  have m1 := Int.emod_lt_of_pos (x : Int) (show 0 < w by omega)
  have := h ((x : Int) % w).toNat (by omega)
  show rm (w :: r) x = rm (w :: r) ((x + p : Nat) : Int)
  have e1 : rm (w :: r) (x : Int) = rm (w :: r) (((x : Int) % w).toNat : Int) := rm_mod (by rw [Int.toNat_of_nonneg m0, Int.emod_emod_of_dvd _ (Int.dvd_refl _)])
  have e2 : rm (w :: r) ((x + p : Nat) : Int) = rm (w :: r) ((((x : Int) % w).toNat + p : Nat) : Int) := rm_mod (by
    rw [Int.natCast_add, Int.natCast_add, Int.toNat_of_nonneg m0, Int.emod_add_emod])
  rw [e1, e2]; exact this
theorem lp_stable {w : Int} {r : List Int} {n : Nat} (hw : 1 ≤ w) (h : 2 * w.toNat ≤ n) : lp (rmN (w :: r)) n = lp (rmN (w :: r)) (2 * w.toNat) := by
  have hv : 1 ≤ w.toNat := by omega
  have a := lp_spec (f := rmN (w :: r)) (n := 2 * w.toNat) (by omega)
  have b := lp_le (f := rmN (w :: r)) (n := 2 * w.toNat) (by omega) hv (rmN_period hw _)
  have c := lp_le (f := rmN (w :: r)) (n := n) (by omega) a.1 (per_all hw b a.2.2.1 n)
  have d := lp_mono (f := rmN (w :: r)) h
  omega
theorem lp_half {w : Int} {r : List Int} {n : Nat} (hw : 1 ≤ w) (hn : 1 ≤ n) : lp (rmN (w :: r)) n ≤ w.toNat := lp_le hn (by omega) (rmN_period hw _)
theorem lp_cut {w : Int} {r : List Int} {n : Nat} (hw : 1 ≤ w) : lp (rmN (w :: r)) (min n (2 * w.toNat)) = lp (rmN (w :: r)) n := by
  by_cases h : n ≤ 2 * w.toNat
  · rw [Nat.min_eq_left h]
  · rw [Nat.min_eq_right (by omega)]; exact (lp_stable hw (by omega)).symm
theorem dsc_cut {w : Int} {r : List Int} {n : Nat} (hw : 1 ≤ w) (h : 2 * w.toNat ≤ n) : dsc (rmN (w :: r)) (2 * w.toNat) = dsc (rmN (w :: r)) n := by
  have hv : 1 ≤ w.toNat := by omega
  have e := lp_stable (r := r) hw h
  have b := lp_half (r := r) (n := 2 * w.toNat) hw (by omega)
  rw [dsc_eq, if_pos (by omega), dsc_eq (n := n), if_pos (by omega), e]
/-- as the program tells them -/
def nf (ws : List Int) : List Int := match ws with
  | [] => []
  | w :: r => dsc (rmN (w :: r)) (2 * w.toNat)
def dst (ws : List Int) (n : Nat) : List Int := match ws with
  | [] => []
  | w :: r => dsc (rmN (w :: r)) (min n (2 * w.toNat))
def lpd (ws : List Int) : Option Nat := match ws with
  | [] => none
  | w :: r => some (lp (rmN (w :: r)) (2 * w.toNat))
def lpt (ws : List Int) (n : Nat) : Nat := match ws with
  | [] => n
  | w :: r => lp (rmN (w :: r)) (min n (2 * w.toNat))
theorem lp_nil {n : Nat} : lp (rmN []) n = n := by
  rcases Nat.eq_zero_or_pos n with z | z
  · subst z; rfl
  · refine lp_unique z (Nat.le_refl _) (per_self _ _) fun q q1 q2 c => ?_
    have h : rm [] ((0 : Nat) : Int) = rm [] ((0 + q : Nat) : Int) := c 0 (by omega)
    have h' : ((0 : Nat) : Int) = ((0 + q : Nat) : Int) := h
    omega
theorem lpt_eq {ws : List Int} {n : Nat} (hw : ∀ x ∈ ws, 1 ≤ x) : lpt ws n = lp (rmN ws) n := by
  cases ws with
  | nil => exact lp_nil.symm
  | cons w r => exact lp_cut (hw w (by simp))
theorem dst_eq {ws : List Int} {n : Nat} (hw : ∀ x ∈ ws, 1 ≤ x) : dst ws n = dsc (rmN ws) n := by
  cases ws with
  | nil =>
    show [] = _
    rw [dsc_eq, if_neg (by rw [lp_nil]; omega)]
  | cons w r =>
    have w1 := hw w (by simp)
    show dsc (rmN (w :: r)) (min n (2 * w.toNat)) = _
    by_cases h : n ≤ 2 * w.toNat
    · rw [Nat.min_eq_left h]
    · rw [Nat.min_eq_right (by omega)]; exact dsc_cut w1 (by omega)
/-- the columns of the pieces -/
theorem pcs_cols : ∀ (ws : List Int) (n : Nat), (∀ x ∈ ws, 1 ≤ x) → (pcs ws n).flatMap (fun z => rg 0 z.toNat) = cols ws n
  | [], n, _ => by
    rw [cols_nil]
    unfold pcs
    rcases Nat.eq_zero_or_pos n with z | z
    · subst z; rfl
    · rw [if_pos (by omega)]; simp
  | w :: r, n, hw => by
    have w1 := hw w (by simp)
    have hr : ∀ x ∈ r, 1 ≤ x := fun x hx => hw x (List.mem_cons_of_mem _ hx)
    obtain ⟨v, hv⟩ : ∃ v : Nat, w = v := ⟨w.toNat, by omega⟩
    subst hv
    have e0 : pcs ((v : Int) :: r) n = (List.replicate ((n : Int) / v).toNat (pcs r v)).flatten ++ pcs r ((n : Int) % v) := rfl
    rw [e0, List.flatMap_append, flatMap_rep, show (n : Int) % v = ((n % v : Nat) : Int) by omega, pcs_cols r v hr, pcs_cols r (n % v) hr, cols_cons w1]
    have eq : ((n : Int) / v).toNat = n / v := by rw [← Int.natCast_ediv]; rfl
    unfold rep
    rw [eq, Int.toNat_natCast, cols_len, List.replicate_succ', List.flatten_append, List.flatten_singleton]
    have hl : ((List.replicate (n / v) (cols r v)).flatten).length = n / v * v := by simp [cols_len]
    have dm := Nat.div_add_mod n v
    rw [Nat.mul_comm] at dm
    rw [List.take_append, hl, List.take_of_length_le (by rw [hl]; omega)]
    congr 1
    rw [show n - n / v * v = n % v by omega, cols_take (Nat.le_of_lt (Nat.mod_lt _ (by omega)))]
end Ma
namespace Ma
open FX
theorem cols_agr {a b : List Int} {n : Nat} : cols a n = cols b n ↔ Agr a b n := by
  rw [cols_fnl, cols_fnl, fnl_eq]
  constructor
  · rintro ⟨_, h⟩ x h0 h1
    have := h x.toNat (by omega)
    rwa [Int.toNat_of_nonneg h0] at this
  · intro h
    exact ⟨rfl, fun k hk => h k (by omega) (by omega)⟩
theorem eqE_cols {a b : List Int} (ha : ∀ x ∈ a, 1 ≤ x) (hb : ∀ x ∈ b, 1 ≤ x) {n : Nat} (h : hd a + hd b + 1 ≤ n) : decide (cols a n = cols b n) = eqE a b := by
  have h0 := hd_nonneg ha
  have h1 := hd_nonneg hb
  rw [Bool.eq_iff_iff, decide_eq_true_iff, cols_agr, eqE_iff ha hb]
  exact ⟨fun g => agr_all ha hb fun x x0 x1 => g x x0 (by omega), fun g x x0 _ => g x x0⟩
/-- the first difference -/
theorem fdi_cases {a b : List Int} (ha : ∀ x ∈ a, 1 ≤ x) (hb : ∀ x ∈ b, 1 ≤ x) : (fdi a b = none ∧ eqE a b = true ∧ ∀ x, 0 ≤ x → rm a x = rm b x) ∨ ∃ k : Nat, fdi a b = some k ∧ eqE a b = false ∧ (k : Int) ≤ hd a + hd b ∧ rm a k ≠ rm b k ∧ Agr a b k := by
  have h0 := hd_nonneg ha
  have h1 := hd_nonneg hb
  rcases mism_cols (a := a) (b := b) (n := (hd a + hd b + 1).toNat) with ⟨e, ag⟩ | ⟨k, e, hk, ne, ag⟩
  · left
    have e' : fdi a b = none := e
    have e2 : eqE a b = true := by unfold eqE; rw [e']; rfl
    exact ⟨e', e2, (eqE_iff ha hb).mp e2⟩
  · right
    have e' : fdi a b = some k := e
    exact ⟨k, e', by unfold eqE; rw [e']; rfl, by omega, ne, ag⟩
theorem cols_get {ws : List Int} {n k : Nat} (h : k < n) : (cols ws n)[k]? = some (rm ws k) := by rw [cols_fnl, fnl_at h]
end Ma

set_option linter.all false
namespace Ma
open PySem
theorem mism_comm : ∀ xs ys : List Int, mism xs ys = mism ys xs
  | [], ys => by cases ys <;> rfl
  | x :: xs, [] => rfl
  | x :: xs, y :: ys => by
    have ih := mism_comm xs ys
    unfold mism at ih ⊢
    rw [List.zip_cons_cons, List.zip_cons_cons, List.findIdx?_cons, List.findIdx?_cons, ih]
    by_cases h : x = y
    · subst h; simp
    · have h' : ¬ y = x := fun e => h e.symm
      simp [h, h']
theorem fdi_comm {a b : List Int} : fdi a b = fdi b a := by
  unfold fdi
  rw [mism_comm, Int.add_comm (hd a) (hd b)]
theorem eqE_comm {a b : List Int} : eqE a b = eqE b a := by unfold eqE; rw [fdi_comm]
theorem nf_parts {w : Int} {r : List Int} {n : Nat} (hw : 1 ≤ w) (h : 2 * w.toNat ≤ n) : (lp (rmN (w :: r)) n : Int) :: dsc (rmN (w :: r)) (lp (rmN (w :: r)) n) = nf (w :: r) := by
  show _ = dsc (rmN (w :: r)) (2 * w.toNat)
  rw [dsc_cut hw h]
  have := lp_half (r := r) hw (show 1 ≤ n by omega)
  rw [dsc_eq (n := n), if_pos (by omega)]
theorem nf_len {ws : List Int} {m : Int} (hw : ∀ x ∈ ws, 1 ≤ x ∧ x ≤ m) : (nf ws).length ≤ 2 * m.toNat := by
  cases ws with
  | nil => simp [nf]
  | cons w r =>
    have := hw w (by simp)
    have := dsc_len (f := rmN (w :: r)) (n := 2 * w.toNat)
    show (dsc (rmN (w :: r)) (2 * w.toNat)).length ≤ _
    omega
theorem nf_mem {ws : List Int} {m : Int} (hw : ∀ x ∈ ws, 1 ≤ x ∧ x ≤ m) {x : Int} (h : x ∈ nf ws) : 1 ≤ x ∧ x < 2 * m := by
  cases ws with
  | nil => simp [nf] at h
  | cons w r =>
    have := hw w (by simp)
    have := dsc_mem (f := rmN (w :: r)) (n := 2 * w.toNat) h
    omega
end Ma

set_option linter.all false
namespace Ma
open PySem
/-! ### normal forms have the effect of the widths, fall, end with the least width, and are short -/
theorem rm_few : ∀ {ws : List Int} {v : Int}, 0 ≤ v → (∀ x ∈ ws, v < x) → rm ws v = v
  | [], v, _, _ => rfl
  | w :: r, v, h0, h => by
    show rm r (v % w) = v
    rw [Int.emod_eq_of_lt h0 (h w (by simp))]
    exact rm_few h0 fun x hx => h x (List.mem_cons_of_mem _ hx)
theorem rm_below : ∀ {ws : List Int} {p : Int}, (∀ x ∈ ws, 1 ≤ x) → 0 ≤ p → ∀ x ∈ ws, rm ws p < x
  | [], p, _, _, x, hx => by simp at hx
  | w :: r, p, hw, h0, x, hx => by
    have w0 := hw w (by simp)
    have m0 := Int.emod_nonneg p (show w ≠ 0 by omega)
    have m1 := Int.emod_lt_of_pos p (show 0 < w by omega)
    have hr : ∀ x ∈ r, 1 ≤ x := fun x hx => hw x (List.mem_cons_of_mem _ hx)
    have := rm_rng r (p % w) hr m0
    show rm r (p % w) < x
    rcases List.mem_cons.mp hx with h | h
    · omega
    · exact rm_below hr m0 x h
theorem rm_idem {ws : List Int} {p : Int} (hw : ∀ x ∈ ws, 1 ≤ x) (h0 : 0 ≤ p) : rm ws (rm ws p) = rm ws p := rm_few (rm_rng ws p hw h0).1 (rm_below hw h0)
/-- up to a column that occurs, the first columns are the positions -/
theorem rm_start {ws : List Int} {p x : Int} (hw : ∀ x ∈ ws, 1 ≤ x) (h0 : 0 ≤ p) (x0 : 0 ≤ x) (h : x ≤ rm ws p) : rm ws x = x := rm_few x0 fun y hy => by have := rm_below hw h0 y hy; omega
theorem lp_full {ws : List Int} {n : Nat} (hw : ∀ x ∈ ws, 1 ≤ x) (h : ¬lp (rmN ws) n < n) {y : Nat} (hy : y < n) : rmN ws y = y := by
  have hp : (0 : Int) ≤ ((n - 1 : Nat) : Int) := by omega
  have r := rm_rng ws ((n - 1 : Nat) : Int) hw hp
  obtain ⟨c, hc⟩ : ∃ c : Nat, rm ws ((n - 1 : Nat) : Int) = c := ⟨(rm ws ((n - 1 : Nat) : Int)).toNat, by omega⟩
  rw [hc] at r
  by_cases b : c = n - 1
  · exact rm_start hw hp (by omega) (by rw [hc]; omega)
  · exfalso
    refine h (Nat.lt_of_le_of_lt (lp_le (p := n - 1 - c) (by omega) (by omega) fun x hx => ?_) (show n - 1 - c < n by omega))
    have e1 : rm ws (x : Int) = x := rm_start hw hp (by omega) (by rw [hc]; omega)
    have e2 := rm_sub ws ((n - 1 : Nat) : Int) ((c : Int) - x) hw hp (by omega) (by omega)
    rw [hc] at e2
    show rm ws (x : Int) = rm ws ((x + (n - 1 - c) : Nat) : Int)
    rw [e1, show ((x + (n - 1 - c) : Nat) : Int) = ((n - 1 : Nat) : Int) - ((c : Int) - x) by omega, e2]
    omega
theorem per_mod {f : Nat → Int} {p n : Nat} (hp : 1 ≤ p) (h : Per f p n) : ∀ y, y < n → f (y % p) = f y := by
  intro y
  induction y using Nat.strongRecOn with
  | _ y ih =>
    intro hy
    by_cases q : y < p
    · rw [Nat.mod_eq_of_lt q]
    · have e := ih (y - p) (by omega) (by omega)
      rw [← Nat.mod_eq_sub_mod (by omega)] at e
      rw [e]
      have := h (y - p) (by omega)
      rw [this, show y - p + p = y by omega]
theorem dsc_rm {ws : List Int} (hw : ∀ x ∈ ws, 1 ≤ x) : ∀ n y : Nat, y < n → rm (dsc (rmN ws) n) y = rmN ws y := by
  intro n
  induction n using Nat.strongRecOn with
  | _ n ih =>
    intro y hy
    rw [dsc_eq]
    by_cases q : lp (rmN ws) n < n
    · have sp := lp_spec (f := rmN ws) (n := n) (by omega)
      rw [if_pos q]
      show rm (dsc (rmN ws) (lp (rmN ws) n)) ((y : Int) % (lp (rmN ws) n : Int)) = _
      rw [← Int.natCast_emod, ih _ q _ (Nat.mod_lt _ (by omega))]
      exact per_mod sp.1 sp.2.2.1 y hy
    · rw [if_neg q]
      exact (lp_full hw q hy).symm
theorem dsc_pos {f : Nat → Int} {n : Nat} : ∀ x ∈ dsc f n, 1 ≤ x := fun x hx => (dsc_mem hx).1
theorem nf_pos {ws : List Int} : ∀ x ∈ nf ws, 1 ≤ x := fun x hx => by
  cases ws with
  | nil => simp [nf] at hx
  | cons w r => exact (dsc_mem (f := rmN (w :: r)) (n := 2 * w.toNat) hx).1
theorem nf_cons {w : Int} {r : List Int} (hw : 1 ≤ w) : nf (w :: r) = (lp (rmN (w :: r)) (2 * w.toNat) : Int) :: dsc (rmN (w :: r)) (lp (rmN (w :: r)) (2 * w.toNat)) := (nf_parts hw (Nat.le_refl _)).symm
theorem nf_dsc {w : Int} {r : List Int} {n : Nat} (hw : 1 ≤ w) (h : 2 * w.toNat ≤ n) : nf (w :: r) = dsc (rmN (w :: r)) n := dsc_cut hw h
/-- the same effect -/
theorem nf_rm {ws : List Int} (hw : ∀ x ∈ ws, 1 ≤ x) {p : Int} (h : 0 ≤ p) : rm (nf ws) p = rm ws p := by
  cases ws with
  | nil => rfl
  | cons w r =>
    obtain ⟨n, rfl⟩ : ∃ n : Nat, p = n := ⟨p.toNat, by omega⟩
    rw [nf_dsc (hw w (by simp)) (n := 2 * w.toNat + n + 1) (by omega)]
    exact dsc_rm hw _ n (by omega)
theorem nf_eqE {ws : List Int} (hw : ∀ x ∈ ws, 1 ≤ x) : eqE ws (nf ws) = true := (eqE_iff hw nf_pos).mpr fun x hx => (nf_rm hw hx).symm
/-- lists of the same effect have the same normal form -/
theorem nf_congr {a b : List Int} (ha : ∀ x ∈ a, 1 ≤ x) (hb : ∀ x ∈ b, 1 ≤ x) (h : ∀ x, 0 ≤ x → rm a x = rm b x) : nf a = nf b := by
  have key : ∀ {w : Int} {r : List Int}, (∀ x ∈ w :: r, 1 ≤ x) → ¬∀ x, 0 ≤ x → rm [] x = rm (w :: r) x := fun {w r} hw h => by
    have w0 := hw w (by simp)
    have a := h w (by omega)
    have b := rm_below (p := w) hw (by omega) w (by simp)
    have a' : w = rm (w :: r) w := a
    omega
  cases a with
  | nil => cases b with
    | nil => rfl
    | cons w r => exact absurd h (key hb)
  | cons v t => cases b with
    | nil => exact absurd (fun x hx => (h x hx).symm) (key ha)
    | cons w r =>
      rw [nf_dsc (ha v (by simp)) (n := 2 * v.toNat + 2 * w.toNat) (by omega), nf_dsc (hb w (by simp)) (n := 2 * v.toNat + 2 * w.toNat) (by omega)]
      exact dsc_congr fun x _ => h x (by omega)
theorem nf_nf {ws : List Int} (hw : ∀ x ∈ ws, 1 ≤ x) : nf (nf ws) = nf ws := nf_congr nf_pos hw fun x hx => nf_rm hw hx
/-- falling -/
theorem dsc_falls {f : Nat → Int} : ∀ n : Nat, (dsc f n).Pairwise (· > ·) := by
  intro n
  induction n using Nat.strongRecOn with
  | _ n ih =>
    rw [dsc_eq]
    by_cases q : lp f n < n
    · rw [if_pos q, List.pairwise_cons]
      exact ⟨fun x hx => by have := dsc_mem hx; omega, ih _ q⟩
    · rw [if_neg q]; exact .nil
theorem nf_falls {ws : List Int} : (nf ws).Pairwise (· > ·) := by
  cases ws with
  | nil => exact .nil
  | cons w r => exact dsc_falls _
/-- short -/
theorem dsc_short : ∀ {ws : List Int} {n : Nat}, (∀ x ∈ ws, 1 ≤ x) → (dsc (rmN ws) n).length ≤ ws.length
  | [], n, _ => by rw [dsc_eq, if_neg (by rw [lp_nil]; omega)]; exact Nat.le_refl _
  | w :: r, n, hw => by
    have w0 := hw w (by simp)
    rw [dsc_eq]
    by_cases q : lp (rmN (w :: r)) n < n
    · rw [if_pos q, List.length_cons, List.length_cons]
      have hh := lp_half (r := r) w0 (show 1 ≤ n by omega)
      rw [dsc_congr (g := rmN r) fun x hx => by
        show rm r ((x : Int) % w) = rm r x
        rw [Int.emod_eq_of_lt (by omega) (by omega)]]
      have := dsc_short (ws := r) (n := lp (rmN (w :: r)) n) fun x hx => hw x (List.mem_cons_of_mem _ hx)
      omega
    · rw [if_neg q]; exact Nat.zero_le _
theorem nf_short {ws : List Int} (hw : ∀ x ∈ ws, 1 ≤ x) : (nf ws).length ≤ ws.length := by
  cases ws with
  | nil => exact Nat.le_refl _
  | cons w r => exact dsc_short hw
/-- the last one is the least width -/
theorem dsc_last {ws : List Int} {m : Int} (hw : ∀ x ∈ ws, 1 ≤ x) (hm : m ∈ ws) (hl : ∀ x ∈ ws, m ≤ x) : ∀ n : Nat, m < n → ∃ xs, dsc (rmN ws) n = xs ++ [m] := by
  have m0 := hw m hm
  have low : ∀ n : Nat, 1 ≤ n → lp (rmN ws) n < n → m ≤ lp (rmN ws) n := fun n n1 q => by
    have sp := lp_spec (f := rmN ws) n1
    refine Int.not_lt.mp fun c => ?_
    have e : rm ws ((0 : Nat) : Int) = rm ws ((0 + lp (rmN ws) n : Nat) : Int) := sp.2.2.1 0 (by omega)
    rw [rm_few (v := ((0 : Nat) : Int)) (by omega) fun x hx => by have := hl x hx; omega, rm_few (by omega) fun x hx => by have := hl x hx; omega] at e
    omega
  intro n
  induction n using Nat.strongRecOn with
  | _ n ih =>
    intro hn
    have q : lp (rmN ws) n < n := by
      refine Classical.byContradiction fun q => ?_
      have e := lp_full (y := m.toNat) hw q (by omega)
      have b := rm_below (p := m) hw (by omega) m hm
      have e' : rm ws (m.toNat : Int) = (m.toNat : Int) := e
      rw [Int.toNat_of_nonneg (by omega)] at e'
      omega
    have l := low n (by omega) q
    rw [dsc_eq, if_pos q]
    rcases Int.lt_or_eq_of_le l with h | h
    · obtain ⟨xs, hx⟩ := ih _ q h
      exact ⟨_ :: xs, by rw [hx]; rfl⟩
    · refine ⟨[], ?_⟩
      have z : ¬lp (rmN ws) (lp (rmN ws) n) < lp (rmN ws) n := fun c => by
        have := low _ (by omega) c
        omega
      rw [dsc_eq, if_neg z, ← h]; rfl
theorem nf_last {w : Int} {r : List Int} {m : Int} (hw : ∀ x ∈ w :: r, 1 ≤ x) (hm : m ∈ w :: r) (hl : ∀ x ∈ w :: r, m ≤ x) : ∃ xs, nf (w :: r) = xs ++ [m] :=
  dsc_last hw hm hl (2 * w.toNat) (by have := hl w (by simp); have := hw w (by simp); omega)
/-- beginnings -/
theorem dsc_drop {f : Nat → Int} : ∀ (n k d : Nat), (dsc f n)[k]? = some (d : Int) → dsc f d = (dsc f n).drop (k + 1) := by
  intro n
  induction n using Nat.strongRecOn with
  | _ n ih =>
    intro k d h
    rw [dsc_eq] at h ⊢
    rw [dsc_eq (n := n)]
    by_cases q : lp f n < n
    · rw [if_pos q] at h ⊢
      cases k with
      | zero =>
        have : d = lp f n := by have := Option.some.inj h; omega
        rw [this, ← dsc_eq]; rfl
      | succ k =>
        rw [← dsc_eq]
        exact ih _ q k d h
    · rw [if_neg q] at h; simp at h
theorem dsc_two {w : Int} {r : List Int} (hw : 1 ≤ w) {d : Nat} (hd : d = lp (rmN (w :: r)) (2 * w.toNat)) : dsc (rmN (w :: r)) (2 * d) = nf (w :: r) := by
  have sp := lp_spec (f := rmN (w :: r)) (n := 2 * w.toNat) (by omega)
  have b := lp_half (r := r) (n := 2 * w.toNat) hw (by omega)
  rw [← hd] at sp b
  have all := per_all hw b sp.2.2.1
  have q1 := lp_le (f := rmN (w :: r)) (n := 2 * d) (by omega) sp.1 (all _)
  have sq := lp_spec (f := rmN (w :: r)) (n := 2 * d) (by omega)
  have q2 : d ≤ lp (rmN (w :: r)) (2 * d) := by
    rw [hd]
    refine Nat.le_trans (lp_le (by omega) sq.1 fun x hx => ?_) (Nat.le_of_eq (by rw [← hd]))
    have e1 := per_mod sp.1 (all (x + 1)) x (by omega)
    have e2 := per_mod sp.1 (all (x + lp (rmN (w :: r)) (2 * d) + 1)) (x + lp (rmN (w :: r)) (2 * d)) (by omega)
    have lt := Nat.mod_lt x sp.1
    have e3 := sq.2.2.1 (x % d) (by omega)
    have e4 := per_mod sp.1 (all (2 * d)) (x % d + lp (rmN (w :: r)) (2 * d)) (by omega)
    rw [← e1, ← e2, e3, ← e4, Nat.mod_add_mod]
  have q3 : lp (rmN (w :: r)) (2 * d) = d := by omega
  rw [dsc_eq, if_pos (by omega), q3, nf_cons hw, ← hd]
end Ma

set_option linter.all false
namespace Ma
open PySem FX
theorem rm_double {ws : List Int} {p : Int} (hw : ∀ x ∈ ws, 1 ≤ x) (h : 0 ≤ p) : rm (ws ++ ws) p = rm ws p := by rw [rm_app, rm_idem hw h]
theorem rm_more {ws : List Int} {v m p : Int} (hw : ∀ x ∈ ws, 1 ≤ x) (hm : m ∈ ws) (hv : m ≤ v) (h : 0 ≤ p) : rm (ws ++ [v]) p = rm ws p := by
  rw [rm_app]
  exact Int.emod_eq_of_lt (rm_rng ws p hw h).1 (by have := rm_below hw h m hm; omega)
theorem rm_mult {w c : Int} {r : List Int} {p : Int} {d : Nat} (hw : 1 ≤ w) (hd : d = lp (rmN (w :: r)) (2 * w.toNat)) (hc : 1 ≤ c) (h : 0 ≤ p) : rm (c * d :: w :: r) p = rm (w :: r) p := by
  have sp := lp_spec (f := rmN (w :: r)) (n := 2 * w.toNat) (by omega)
  have b := lp_half (r := r) (n := 2 * w.toNat) hw (by omega)
  rw [← hd] at sp b
  have all := per_all hw b sp.2.2.1
  have key : ∀ y : Int, 0 ≤ y → rm (w :: r) (y % (d : Int)) = rm (w :: r) y := fun y hy => by
    obtain ⟨k, rfl⟩ : ∃ k : Nat, y = k := ⟨y.toNat, by omega⟩
    have := per_mod sp.1 (all (k + 1)) k (by omega)
    rw [← Int.natCast_emod]
    exact this
  have c0 : 0 < c * (d : Int) := Int.mul_pos (by omega) (by omega)
  show rm (w :: r) (p % (c * d)) = _
  rw [← key _ (Int.emod_nonneg _ (by omega)), Int.emod_emod_of_dvd _ (Int.dvd_mul_left _ _), key p h]
theorem rev_sset {l : List Int} (h : l.Pairwise (· > ·)) : (sset l).reverse = l := by
  rw [← sset_unique (a := l.reverse) (l := l) (List.pairwise_reverse.mpr h) (fun z => List.mem_reverse), List.reverse_reverse]
theorem nf_bound {ws : List Int} {m : Int} (hw : ∀ x ∈ ws, 1 ≤ x ∧ x ≤ m) : ∀ x ∈ nf ws, 1 ≤ x ∧ x ≤ m := fun x hx => by
  refine ⟨nf_pos x hx, ?_⟩
  cases ws with
  | nil => simp [nf] at hx
  | cons w r =>
    have w0 := hw w (by simp)
    have b := lp_half (r := r) (n := 2 * w.toNat) w0.1 (by omega)
    rw [nf_cons w0.1] at hx
    rcases List.mem_cons.mp hx with h | h
    · omega
    · have := dsc_mem h; omega
end Ma

set_option linter.all false
namespace Ma
open PySem FX
theorem nf_eq_iff {a b : List Int} (ha : ∀ x ∈ a, 1 ≤ x) (hb : ∀ x ∈ b, 1 ≤ x) : decide (nf a = nf b) = eqE a b := by
  rw [Bool.eq_iff_iff, decide_eq_true_iff, eqE_iff ha hb]
  exact ⟨fun h x hx => by rw [← nf_rm ha hx, h, nf_rm hb hx], nf_congr ha hb⟩
theorem nf_has_min {ws : List Int} {m : Int} (hw : ∀ x ∈ ws, 1 ≤ x) (hm : m ∈ ws) (hl : ∀ x ∈ ws, m ≤ x) : m ∈ nf ws := by
  cases ws with
  | nil => simp at hm
  | cons w r =>
    obtain ⟨xs, h⟩ := nf_last hw hm hl
    rw [h]; simp
/-- a width that is not less than one before it has no effect -/
theorem rm_spare {a b : List Int} {u v p : Int} (ha : ∀ x ∈ a, 1 ≤ x) (hu : u ∈ a) (h : u ≤ v) (h0 : 0 ≤ p) : rm (a ++ v :: b) p = rm (a ++ b) p := by
  rw [rm_app, rm_app]
  show rm b (rm a p % v) = _
  rw [Int.emod_eq_of_lt (rm_rng a p ha h0).1 (by have := rm_below ha h0 u hu; omega)]
theorem split_at {ws : List Int} {k : Nat} {v : Int} (h : ws[k]? = some v) : ws = ws.take k ++ v :: ws.drop (k + 1) := by
  obtain ⟨hk, e⟩ := List.getElem?_eq_some_iff.mp h
  conv => lhs; rw [← List.take_append_drop k ws]
  rw [List.drop_eq_getElem_cons hk, e]
end Ma

set_option linter.all false
namespace Ma
open PySem FX
/-! ### two periods -/
theorem per_two {f : Nat → Int} : ∀ (k p q n : Nat), p + q ≤ k → 1 ≤ p → 1 ≤ q → p + q ≤ n + Nat.gcd p q → Per f p n → Per f q n → ∀ y, y < n → f (y % Nat.gcd p q) = f y
  | 0, p, q, n, hk, hp, hq, _, _, _ => by omega
  | k + 1, p, q, n, hk, hp, hq, hn, h1, h2 => by
    rcases Nat.lt_trichotomy p q with lt | eq | gt
    · have eg : Nat.gcd p (q - p) = Nat.gcd p q := by rw [Nat.gcd_comm p (q - p), Nat.gcd_sub_self_left (by omega), Nat.gcd_comm]
      have gd : Nat.gcd p q ∣ q - p := by rw [← eg]; exact Nat.gcd_dvd_right _ _
      have gp : Nat.gcd p q ∣ p := Nat.gcd_dvd_left _ _
      have gl := Nat.le_of_dvd (by omega) gd
      have ih := per_two k p (q - p) (n - p) (by omega) hp (by omega) (by rw [eg]; omega) (h1.mono (by omega)) (fun x hx => by
        have a := h2 x (by omega)
        have b := h1 (x + (q - p)) (by omega)
        rw [a, b, show x + (q - p) + p = x + q by omega])
      rw [eg] at ih
      intro y hy
      have a := per_mod hp h1 y hy
      have lt2 := Nat.mod_lt y (show 0 < p by omega)
      have b := ih (y % p) (by omega)
      rw [Nat.mod_mod_of_dvd _ gp] at b
      rw [b, a]
    · subst eq
      rw [Nat.gcd_self]
      exact per_mod hp h1
    · have eg : Nat.gcd q (p - q) = Nat.gcd p q := by rw [Nat.gcd_comm q (p - q), Nat.gcd_sub_self_left (by omega)]
      have gd : Nat.gcd p q ∣ p - q := by rw [← eg]; exact Nat.gcd_dvd_right _ _
      have gp : Nat.gcd p q ∣ q := Nat.gcd_dvd_right _ _
      have gl := Nat.le_of_dvd (by omega) gd
      have ih := per_two k q (p - q) (n - q) (by omega) hq (by omega) (by rw [eg]; omega) (h2.mono (by omega)) (fun x hx => by
        have a := h1 x (by omega)
        have b := h2 (x + (p - q)) (by omega)
        rw [a, b, show x + (p - q) + q = x + p by omega])
      rw [eg] at ih
      intro y hy
      have a := per_mod hq h2 y hy
      have lt2 := Nat.mod_lt y (show 0 < q by omega)
      have b := ih (y % q) (by omega)
      rw [Nat.mod_mod_of_dvd _ gp] at b
      rw [b, a]
theorem agree_all {f g : Nat → Int} {p q k : Nat} (hp : 1 ≤ p) (hq : 1 ≤ q) (h1 : ∀ n, Per f p n) (h2 : ∀ n, Per g q n) (hk : p + q ≤ k + Nat.gcd p q) (h : ∀ x, x < k → f x = g x) (y : Nat) : f y = g y := by
  have d1 := Nat.gcd_dvd_left p q
  have d2 := Nat.gcd_dvd_right p q
  have l1 := Nat.le_of_dvd (by omega) d1
  have l2 := Nat.le_of_dvd (by omega) d2
  have key := per_two (f := f) (p + q) p q k (Nat.le_refl _) hp hq hk (h1 k) ((h2 k).congr fun x hx => (h x hx).symm)
  have a1 := per_mod hp (h1 (y + 1)) y (by omega)
  have b1 := per_mod hq (h2 (y + 1)) y (by omega)
  have c1 := Nat.mod_lt y (show 0 < p by omega)
  have c2 := Nat.mod_lt y (show 0 < q by omega)
  have e1 := key (y % p) (by omega)
  have e2 := key (y % q) (by omega)
  rw [Nat.mod_mod_of_dvd _ d1] at e1
  rw [Nat.mod_mod_of_dvd _ d2] at e2
  rw [← a1, ← e1, e2, ← b1]
  exact h _ (by omega)
/-- the first difference of two lists comes before the sum of their least periods less the greatest common divisor -/
theorem fdi_lt {v w : Int} {r t : List Int} {k p q : Nat} (hv : ∀ x ∈ v :: r, 1 ≤ x) (hw : ∀ x ∈ w :: t, 1 ≤ x) (hp : p = lp (rmN (v :: r)) (2 * v.toNat)) (hq : q = lp (rmN (w :: t)) (2 * w.toNat)) (h : fdi (v :: r) (w :: t) = some k) : k + Nat.gcd p q < p + q := by
  have v0 := hv v (by simp)
  have w0 := hw w (by simp)
  have sp := lp_spec (f := rmN (v :: r)) (n := 2 * v.toNat) (by omega)
  have sq := lp_spec (f := rmN (w :: t)) (n := 2 * w.toNat) (by omega)
  have bp := lp_half (r := r) (n := 2 * v.toNat) v0 (by omega)
  have bq := lp_half (r := t) (n := 2 * w.toNat) w0 (by omega)
  rw [← hp] at sp bp
  rw [← hq] at sq bq
  rcases fdi_cases hv hw with ⟨e, _⟩ | ⟨k', e, _, _, ne, ag⟩
  · rw [e] at h; cases h
  · rw [e] at h
    cases h
    refine Nat.lt_of_not_le fun c => ne ?_
    exact agree_all (f := rmN (v :: r)) (g := rmN (w :: t)) sp.1 sq.1 (per_all v0 bp sp.2.2.1) (per_all w0 bq sq.2.2.1) c (fun x hx => ag x (by omega) (by omega)) k
end Ma

set_option linter.all false
namespace Ma
open PySem FX
/-! ### the beginnings of pieces, and the descent read off them -/
def brks (zs : List Int) : List Int := (rg 1 (zs.length - 1)).map fun j => (zs.take j.toNat).sum
theorem mem_rgi {x : Int} {lo : Int} {n : Nat} : x ∈ rg lo n ↔ lo ≤ x ∧ x < lo + n := by
  unfold rg
  constructor
  · intro h
    obtain ⟨k, hk, rfl⟩ := List.mem_map.mp h
    have := List.mem_range.mp hk
    omega
  · rintro ⟨h1, h2⟩
    exact List.mem_map.mpr ⟨(x - lo).toNat, List.mem_range.mpr (by omega), by omega⟩
theorem sum_pos {l : List Int} (h : ∀ x ∈ l, 1 ≤ x) (ne : l ≠ []) : 1 ≤ l.sum := by
  cases l with
  | nil => exact absurd rfl ne
  | cons x r =>
    have h0 : 0 ≤ r.sum := by
      clear ne
      have hr : ∀ y ∈ r, 1 ≤ y := fun y hy => h y (List.mem_cons_of_mem _ hy)
      clear h
      induction r with
      | nil => simp
      | cons y t ih => rw [List.sum_cons]; have := hr y (by simp); have := ih fun z hz => hr z (List.mem_cons_of_mem _ hz); omega
    rw [List.sum_cons]
    have := h x (by simp)
    omega
theorem brks_mem {ws : List Int} {n : Nat} (hw : ∀ x ∈ ws, 1 ≤ x) (hn : 1 ≤ n) {p : Int} : p ∈ brks (pcs ws n) ↔ 0 < p ∧ p < n ∧ rm ws p = 0 := by
  have hpos : ∀ x ∈ pcs ws n, 1 ≤ x := fun x hx => (pcs_pos ws n hw (by omega) x hx).1
  have hsum := pcs_sum ws n hw (by omega)
  constructor
  · intro h
    obtain ⟨j, hj, rfl⟩ := List.mem_map.mp h
    rw [mem_rgi] at hj
    have hjl : j.toNat < (pcs ws n).length := by omega
    have ne : ws ≠ [] := fun e => by
      rw [e] at hjl
      have := pcs_len [] n (by simp) (by omega)
      unfold Np at this
      split at this <;> omega
    have e := List.take_append_drop j.toNat (pcs ws n)
    have es := congrArg List.sum e
    rw [List.sum_append, hsum] at es
    have s1 := sum_pos (l := (pcs ws n).take j.toNat) (fun x hx => hpos x (List.mem_of_mem_take hx)) (fun z => by have := congrArg List.length z; rw [List.length_take, List.length_nil] at this; omega)
    have s2 := sum_pos (l := (pcs ws n).drop j.toNat) (fun x hx => hpos x (List.mem_of_mem_drop hx)) (fun z => by have := congrArg List.length z; rw [List.length_drop, List.length_nil] at this; omega)
    refine ⟨by omega, by omega, ?_⟩
    rw [nb_pcs ws n j.toNat hw (by omega) hjl]
    exact (nb_ok ws _ hw (by omega) (.inl ne)).2.1
  · rintro ⟨h0, h1, h2⟩
    obtain ⟨l, r, e1, e2⟩ := pcs_pre ws p n hw (by omega) (by omega)
    rw [if_pos h2, List.append_nil] at e2
    have sp := pcs_sum ws p hw (by omega)
    rw [e2] at sp
    have es := hsum
    rw [e1, List.sum_append] at es
    have l0 : l ≠ [] := fun z => by rw [z] at sp; simp at sp; omega
    have r0 : r ≠ [] := fun z => by rw [z] at es; simp at es; omega
    have ll := List.length_pos_iff.mpr l0
    have rl := List.length_pos_iff.mpr r0
    unfold brks
    rw [e1]
    refine List.mem_map.mpr ⟨(l.length : Int), mem_rgi.mpr ⟨by omega, by rw [List.length_append]; omega⟩, ?_⟩
    rw [Int.toNat_natCast, List.take_left, sp]
theorem brks_lt {ws : List Int} {n : Nat} (hw : ∀ x ∈ ws, 1 ≤ x) (hn : 1 ≤ n) : (brks (pcs ws n)).Pairwise (· < ·) := by
  have hpos : ∀ x ∈ pcs ws n, 1 ≤ x := fun x hx => (pcs_pos ws n hw (by omega) x hx).1
  unfold brks rg
  rw [List.map_map, List.pairwise_map]
  refine List.Pairwise.imp_of_mem ?_ (List.pairwise_lt_range (n := (pcs ws n).length - 1))
  intro a b ha hb hab
  have ha := List.mem_range.mp ha
  have hb := List.mem_range.mp hb
  show ((pcs ws n).take (1 + (a : Int)).toNat).sum < ((pcs ws n).take (1 + (b : Int)).toNat).sum
  rw [show (1 + (a : Int)).toNat = a + 1 by omega, show (1 + (b : Int)).toNat = b + 1 by omega]
  have e : (pcs ws n).take (b + 1) = (pcs ws n).take (a + 1) ++ ((pcs ws n).drop (a + 1)).take (b - a) := by
    rw [← List.take_add]
    congr 1
    omega
  rw [e, List.sum_append]
  have := sum_pos (l := ((pcs ws n).drop (a + 1)).take (b - a)) (fun x hx => hpos x (List.mem_of_mem_drop (List.mem_of_mem_take hx))) (fun z => by have := congrArg List.length z; rw [List.length_take, List.length_drop, List.length_nil] at this; omega)
  omega
theorem dsc_break {ws : List Int} (hw : ∀ x ∈ ws, 1 ≤ x) : ∀ n : Nat, ∀ x ∈ dsc (rmN ws) n, rm ws x = 0 := by
  intro n
  induction n using Nat.strongRecOn with
  | _ n ih =>
    intro x hx
    rw [dsc_eq] at hx
    by_cases q : lp (rmN ws) n < n
    · rw [if_pos q] at hx
      rcases List.mem_cons.mp hx with h | h
      · have sp := lp_spec (f := rmN ws) (n := n) (by omega)
        have e : rm ws ((0 : Nat) : Int) = rm ws ((0 + lp (rmN ws) n : Nat) : Int) := sp.2.2.1 0 (by omega)
        rw [h, ← show ((0 + lp (rmN ws) n : Nat) : Int) = (lp (rmN ws) n : Int) by omega, ← e]
        exact rm_0 hw
      · exact ih _ q x h
    · rw [if_neg q] at hx; simp at hx
theorem dsc_brks {ws : List Int} {n : Nat} (hw : ∀ x ∈ ws, 1 ≤ x) (hn : 1 ≤ n) : (dsc (rmN ws) n).length ≤ (pcs ws n).length - 1 := by
  have h := rising_len (List.pairwise_reverse.mpr (dsc_falls (f := rmN ws) n)) (b := brks (pcs ws n)) fun z hz => by
    have hz := List.mem_reverse.mp hz
    have a := dsc_mem hz
    exact (brks_mem hw hn).mpr ⟨by omega, a.2, dsc_break hw n z hz⟩
  rw [List.length_reverse] at h
  have e : (brks (pcs ws n)).length = (pcs ws n).length - 1 := by unfold brks rg; simp
  omega
def fits (ws : List Int) (n far : Nat) : List Int := (brks (pcs ws n)).filter fun b => decide (b < far) && hasP ws far b
theorem fits_eq {ws : List Int} {n far : Nat} (hw : ∀ x ∈ ws, 1 ≤ x) (hn : 1 ≤ n) (hf : far ≤ n) (h1 : 1 ≤ far) :
    (¬lp (rmN ws) far < far ∧ fits ws n far = []) ∨ (lp (rmN ws) far < far ∧ ∃ r, fits ws n far = (lp (rmN ws) far : Int) :: r) := by
  have sp := lp_spec (f := rmN ws) h1
  have mem : ∀ {b : Int}, b ∈ fits ws n far ↔ (0 < b ∧ b < n ∧ rm ws b = 0) ∧ b < far ∧ Per (rmN ws) b.toNat far := fun {b} => by
    unfold fits
    rw [List.mem_filter, brks_mem hw hn, Bool.and_eq_true, decide_eq_true_iff]
    refine and_congr_right fun hb => and_congr_right fun _ => ?_
    rw [hasP_iff hw (by omega)]
    constructor
    · intro h x hx
      have := h x (by omega) (by omega)
      show rm ws (x : Int) = rm ws ((x + b.toNat : Nat) : Int)
      rw [this, show ((x + b.toNat : Nat) : Int) = (x : Int) + b by omega]
    · intro h x h0 hx
      have := h x.toNat (by omega)
      have this : rm ws (x.toNat : Int) = rm ws ((x.toNat + b.toNat : Nat) : Int) := this
      rw [show ((x.toNat + b.toNat : Nat) : Int) = x + b by omega, show (x.toNat : Int) = x by omega] at this
      exact this
  by_cases q : lp (rmN ws) far < far
  · refine .inr ⟨q, ?_⟩
    have e : rm ws ((0 : Nat) : Int) = rm ws ((0 + lp (rmN ws) far : Nat) : Int) := sp.2.2.1 0 (by omega)
    rw [show ((0 + lp (rmN ws) far : Nat) : Int) = (lp (rmN ws) far : Int) by omega] at e
    have pm : (lp (rmN ws) far : Int) ∈ fits ws n far := mem.mpr ⟨⟨by omega, by omega, by rw [← e]; exact rm_0 hw⟩, by omega, by rw [Int.toNat_natCast]; exact sp.2.2.1⟩
    have st : (fits ws n far).Pairwise (· < ·) := (brks_lt hw hn).filter _
    cases hF : fits ws n far with
    | nil => rw [hF] at pm; simp at pm
    | cons h r =>
      have hm : h ∈ fits ws n far := by rw [hF]; simp
      have a := mem.mp hm
      have b := lp_le h1 (p := h.toNat) (by omega) a.2.2
      rw [hF] at pm st
      refine ⟨r, ?_⟩
      rcases List.mem_cons.mp pm with z | z
      · rw [z]
      · have := (List.pairwise_cons.mp st).1 _ z
        omega
  · refine .inl ⟨q, ?_⟩
    rw [List.eq_nil_iff_forall_not_mem]
    intro b hb
    have a := mem.mp hb
    exact q (Nat.lt_of_le_of_lt (lp_le h1 (p := b.toNat) (by omega) a.2.2) (by omega))
end Ma

set_option linter.all false
namespace Ma
open PySem FX
theorem dsc_more {w : Int} {r : List Int} (hw : 1 ≤ w) {d n : Nat} (hd : d = lp (rmN (w :: r)) (2 * w.toNat)) (h : 2 * d ≤ n) : dsc (rmN (w :: r)) n = nf (w :: r) := by
  have sp := lp_spec (f := rmN (w :: r)) (n := 2 * w.toNat) (by omega)
  have b := lp_half (r := r) (n := 2 * w.toNat) hw (by omega)
  rw [← hd] at sp b
  have all := per_all hw b sp.2.2.1
  have e2 := dsc_two (r := r) hw hd
  rw [nf_cons hw, ← hd] at e2 ⊢
  have q : lp (rmN (w :: r)) (2 * d) < 2 * d := Nat.lt_of_le_of_lt (lp_le (by omega) sp.1 (all _)) (by omega)
  rw [dsc_eq, if_pos q] at e2
  have e3 := (List.cons.inj e2).1
  have m1 := lp_mono (f := rmN (w :: r)) h
  have m2 := lp_le (f := rmN (w :: r)) (n := n) (by omega) sp.1 (all _)
  have e4 : lp (rmN (w :: r)) n = d := by omega
  rw [dsc_eq, if_pos (by omega), e4]
/-- the descent gives the same pieces -/
theorem dsc_pcs {ws : List Int} {n : Nat} (hw : ∀ x ∈ ws, 1 ≤ x) : pcs (dsc (rmN ws) n) n = pcs ws n :=
  (pcs_agr dsc_pos hw n).mpr fun x h0 h1 => by
    obtain ⟨k, rfl⟩ : ∃ k : Nat, x = k := ⟨x.toNat, by omega⟩
    exact dsc_rm hw n k (by omega)
end Ma

set_option linter.all false
namespace Ma
open PySem FX
/-! ### any pieces, and lists that are read off them -/
def cz (zs : List Int) : List Int := zs.flatMap fun z => rg 0 z.toNat
theorem cz_cons {z : Int} {r : List Int} : cz (z :: r) = rg 0 z.toNat ++ cz r := by unfold cz; rw [List.flatMap_cons]
theorem rg_len {lo : Int} {n : Nat} : (rg lo n).length = n := by simp [rg]
theorem rg_get {n k : Nat} (h : k < n) : (rg 0 n)[k]? = some (k : Int) := by unfold rg; rw [List.getElem?_map, List.getElem?_range h]; simp
theorem cz_head {r : List Int} (h : ∀ z ∈ r, 1 ≤ z) : (cz r)[0]? = none ∨ (cz r)[0]? = some 0 := by
  cases r with
  | nil => exact .inl rfl
  | cons z t =>
    have := h z (by simp)
    rw [cz_cons, List.getElem?_append_left (by rw [rg_len]; omega), rg_get (by omega)]
    exact .inr rfl
theorem cz_lt {z z' : Int} {r r' : List Int} (h : ∀ x ∈ z :: r, 1 ≤ x) (lt : z < z') : cz (z :: r) ≠ cz (z' :: r') := fun e => by
  have z0 := h z (by simp)
  have a : (cz (z' :: r'))[z.toNat]? = some z := by
    rw [cz_cons, List.getElem?_append_left (by rw [rg_len]; omega), rg_get (by omega)]
    congr 1
    omega
  rw [← e, cz_cons, List.getElem?_append_right (by rw [rg_len]; exact Nat.le_refl _), rg_len, Nat.sub_self] at a
  rcases cz_head (r := r) fun x hx => h x (List.mem_cons_of_mem _ hx) with b | b
  · rw [b] at a; cases a
  · rw [b] at a; have := Option.some.inj a; omega
theorem cz_inj : ∀ {a b : List Int}, (∀ x ∈ a, 1 ≤ x) → (∀ x ∈ b, 1 ≤ x) → cz a = cz b → a = b
  | [], [], _, _, _ => rfl
  | [], z :: r, _, hb, e => by
    have := hb z (by simp)
    have e := congrArg List.length e
    rw [cz_cons, List.length_append, rg_len] at e
    have e : 0 = _ := e
    omega
  | z :: r, [], ha, _, e => by
    have := ha z (by simp)
    have e := congrArg List.length e
    rw [cz_cons, List.length_append, rg_len] at e
    have e : _ = 0 := e
    omega
  | z :: r, z' :: r', ha, hb, e => by
    rcases Int.lt_trichotomy z z' with h | h | h
    · exact absurd e (cz_lt ha h)
    · subst h
      rw [cz_cons, cz_cons] at e
      rw [cz_inj (fun x hx => ha x (List.mem_cons_of_mem _ hx)) (fun x hx => hb x (List.mem_cons_of_mem _ hx)) (List.append_cancel_left e)]
    · exact absurd e.symm (cz_lt hb h)
theorem cz_start {z : Int} {r : List Int} {y : Nat} (h : (y : Int) < z) : at0 (cz (z :: r)) y = y := by
  have a := at0_get (c := cz (z :: r)) (k := y) (by rw [cz_cons, List.length_append, rg_len]; omega)
  rw [cz_cons, List.getElem?_append_left (by rw [rg_len]; omega), rg_get (by omega), ← cz_cons] at a
  exact (Option.some.inj a).symm
theorem cz_len : ∀ {zs : List Int}, (∀ z ∈ zs, 0 ≤ z) → ((cz zs).length : Int) = zs.sum
  | [], _ => rfl
  | z :: r, h => by
    have ih := cz_len (zs := r) fun x hx => h x (List.mem_cons_of_mem _ hx)
    have := h z (by simp)
    rw [cz_cons, List.length_append, List.sum_cons, ← ih, rg_len]
    omega
theorem dsc_gen {f : Nat → Int} {h0 L : Nat} (hz : ∀ y, y < h0 → f y = y) (no : ∀ N, h0 < N → N ≤ L → lp f N ≠ N) : ∀ n y : Nat, n ≤ L → y < n → rm (dsc f n) y = f y := by
  intro n
  induction n using Nat.strongRecOn with
  | _ n ih =>
    intro y hn hy
    have sp := lp_spec (f := f) (n := n) (by omega)
    rw [dsc_eq]
    by_cases q : lp f n < n
    · rw [if_pos q]
      show rm (dsc f (lp f n)) ((y : Int) % (lp f n : Int)) = _
      rw [← Int.natCast_emod, ih _ q _ (by omega) (Nat.mod_lt _ (by omega))]
      exact per_mod sp.1 sp.2.2.1 y hy
    · rw [if_neg q]
      have : ¬h0 < n := fun c => no n c hn (by omega)
      exact (hz y (by omega)).symm
/-- without an obstacle the descent gives the pieces -/
theorem dsc_gives {zs : List Int} {L : Nat} (hp : ∀ z ∈ zs, 1 ≤ z) (hL : (L : Int) = zs.sum) (no : ∀ N : Nat, hd zs < N → N ≤ L → lp (at0 (cz zs)) N ≠ N) : pcs (dsc (at0 (cz zs)) L) L = zs := by
  have hl := cz_len fun z hz => by have := hp z hz; omega
  have hpd : ∀ x ∈ dsc (at0 (cz zs)) L, 1 ≤ x := dsc_pos
  refine cz_inj (fun x hx => (pcs_pos _ L hpd (by omega) x hx).1) hp ?_
  show (pcs (dsc (at0 (cz zs)) L) L).flatMap (fun z => rg 0 z.toNat) = _
  rw [pcs_cols _ L hpd]
  apply List.ext_getElem?
  intro k
  by_cases hk : k < L
  · rw [cols_get hk, at0_get (by omega)]
    congr 1
    cases zs with
    | nil => simp at hL; omega
    | cons z r =>
      have z0 := hp z (by simp)
      rw [hd_cons] at no
      exact dsc_gen (h0 := z.toNat) (fun y hy => cz_start (by omega)) (fun N h1 h2 => no N (by omega) h2) L k (Nat.le_refl _) hk
  · rw [List.getElem?_eq_none (by rw [cols_len]; omega), List.getElem?_eq_none (by omega)]
/-- the pieces of the first characters -/
def fstz : List Int → Int → List Int
  | [], _ => []
  | z :: r, n => (if 0 < n then [min z n] else []) ++ fstz r (n - z)
theorem fstz_pos : ∀ {zs : List Int} {n : Int}, (∀ z ∈ zs, 1 ≤ z) → ∀ x ∈ fstz zs n, 1 ≤ x ∧ x ≤ n
  | [], n, _, x, hx => by simp [fstz] at hx
  | z :: r, n, h, x, hx => by
    have z0 := h z (by simp)
    unfold fstz at hx
    rcases List.mem_append.mp hx with a | a
    · by_cases q : 0 < n
      · rw [if_pos q] at a; have := List.mem_singleton.mp a; omega
      · rw [if_neg q] at a; simp at a
    · have := fstz_pos (fun y hy => h y (List.mem_cons_of_mem _ hy)) x a
      omega
theorem fstz_len : ∀ {zs : List Int} {n : Int}, (fstz zs n).length ≤ zs.length
  | [], n => Nat.le_refl _
  | z :: r, n => by
    have := fstz_len (zs := r) (n := n - z)
    unfold fstz
    rw [List.length_append, List.length_cons]
    split <;> simp <;> omega
theorem fstz_neg : ∀ {zs : List Int} {n : Int}, (∀ z ∈ zs, 1 ≤ z) → n ≤ 0 → fstz zs n = []
  | [], n, _, _ => rfl
  | z :: r, n, h, h0 => by
    have z0 := h z (by simp)
    unfold fstz
    rw [if_neg (by omega), fstz_neg (fun y hy => h y (List.mem_cons_of_mem _ hy)) (by omega)]; rfl
theorem rg_take {n m : Nat} : (rg 0 n).take m = rg 0 (min m n) := by unfold rg; rw [← List.map_take, List.take_range]
theorem fstz_cz : ∀ {zs : List Int} {n : Int}, (∀ z ∈ zs, 1 ≤ z) → cz (fstz zs n) = (cz zs).take n.toNat
  | [], n, _ => by simp [fstz, cz]
  | z :: r, n, h => by
    have z0 := h z (by simp)
    have ih := fstz_cz (n := n - z) fun y hy => h y (List.mem_cons_of_mem _ hy)
    unfold fstz
    by_cases q : 0 < n
    · rw [if_pos q]
      show cz (min z n :: fstz r (n - z)) = _
      rw [cz_cons, cz_cons, ih, List.take_append, rg_len, rg_take, show (min z n).toNat = min n.toNat z.toNat by omega, show (n - z).toNat = n.toNat - z.toNat by omega]
    · rw [if_neg q, fstz_neg (fun y hy => h y (List.mem_cons_of_mem _ hy)) (by omega), show n.toNat = 0 by omega]; rfl
theorem fstz_sum {zs : List Int} {n : Int} (h : ∀ z ∈ zs, 1 ≤ z) (h0 : 0 ≤ n) (h1 : n ≤ zs.sum) : (fstz zs n).sum = n := by
  have a := cz_len (zs := fstz zs n) fun z hz => by have := fstz_pos h z hz; omega
  have b := cz_len (zs := zs) fun z hz => by have := h z hz; omega
  rw [fstz_cz h, List.length_take] at a
  omega
theorem fstz_hd {zs : List Int} {n : Int} (h : 0 < n) : hd (fstz zs n) = min (hd zs) n := by
  cases zs with
  | nil => show hd [] = _; rw [hd_nil]; omega
  | cons z r =>
    unfold fstz
    rw [if_pos h]
    show hd (min z n :: _) = _
    rw [hd_cons, hd_cons]
theorem fstz_lp {zs : List Int} {n : Int} {m : Nat} (h : ∀ z ∈ zs, 1 ≤ z) (hm : m ≤ n) (hn : n ≤ zs.sum) : lp (at0 (cz (fstz zs n))) m = lp (at0 (cz zs)) m := by
  have b := cz_len (zs := zs) fun z hz => by have := h z hz; omega
  rw [fstz_cz h]
  refine lp_congr fun x hx => ?_
  have a := at0_get (c := (cz zs).take n.toNat) (k := x) (by rw [List.length_take]; omega)
  rw [List.getElem?_take_of_lt (by omega), at0_get (by omega)] at a
  exact (Option.some.inj a).symm
/-- the first pieces of a line are the pieces of a line -/
theorem pcs_take {ws : List Int} {n j : Nat} (hw : ∀ x ∈ ws, 1 ≤ x) (n0 : 1 ≤ n) (j0 : 1 ≤ j) : ∃ p : Nat, 1 ≤ p ∧ p ≤ n ∧ (pcs ws n).take j = pcs ws p := by
  by_cases hj : (pcs ws n).length ≤ j
  · exact ⟨n, n0, Nat.le_refl _, List.take_of_length_le hj⟩
  · have hm : ((pcs ws n).take j).sum ∈ brks (pcs ws n) := List.mem_map.mpr ⟨(j : Int), mem_rgi.mpr ⟨by omega, by omega⟩, by rw [Int.toNat_natCast]⟩
    have a := (brks_mem hw n0).mp hm
    obtain ⟨p, hp⟩ : ∃ p : Nat, ((pcs ws n).take j).sum = p := ⟨((pcs ws n).take j).sum.toNat, by omega⟩
    rw [hp] at a
    refine ⟨p, by omega, by omega, ?_⟩
    have ne : ws ≠ [] := fun e => by
      rw [e] at hj
      have := pcs_len [] n (by simp) (by omega)
      unfold Np at this
      split at this <;> omega
    obtain ⟨l, r, e1, e2⟩ := pcs_pre ws p n hw (by omega) (by omega)
    rw [if_pos a.2.2, List.append_nil] at e2
    have hN := nb_pcs ws n j hw (by omega) (by omega)
    rw [hp] at hN
    have hl := pcs_len ws p hw (by omega)
    have hk := (nb_ok ws j hw (by omega) (.inl ne)).2.2
    rw [← hN, ← hl, e2] at hk
    rw [e1, e2, show j = l.length by omega, List.take_left]
end Ma
namespace Ma
open PySem FX
theorem fstz_snoc : ∀ {l : List Int} {z n : Int}, fstz (l ++ [z]) n = fstz l n ++ if 0 < n - l.sum then [min z (n - l.sum)] else []
  | [], z, n => by
    show (if 0 < n then [min z n] else []) ++ [] = [] ++ if 0 < n - 0 then [min z (n - 0)] else []
    rw [List.append_nil, List.nil_append, Int.sub_zero]
  | x :: r, z, n => by
    show (if 0 < n then [min x n] else []) ++ fstz (r ++ [z]) (n - x) = ((if 0 < n then [min x n] else []) ++ fstz r (n - x)) ++ _
    rw [fstz_snoc, List.append_assoc, List.sum_cons, show n - x - r.sum = n - (x + r.sum) by omega]
theorem dsc_eff {ws : List Int} {n : Nat} (hw : ∀ x ∈ ws, 1 ≤ x) : (dsc (rmN ws) n).length ≤ (ef n ws).length := by
  rw [dsc_congr (g := rmN (ef n ws)) fun x hx => (rm_ef ws n x (fun y hy => by have := hw y hy; omega) (by omega) (by omega)).symm]
  exact dsc_short fun x hx => hw x (ef_mem ws n x hx)
end Ma
namespace Ma
open PySem FX
theorem set_sum : ∀ {l : List Int} {k : Nat} {u v : Int}, l[k]? = some u → (l.set k v).sum = l.sum - u + v
  | [], k, u, v, h => by simp at h
  | x :: r, 0, u, v, h => by
    have e : x = u := Option.some.inj h
    rw [List.set_cons_zero, List.sum_cons, List.sum_cons]; omega
  | x :: r, k + 1, u, v, h => by
    have h : r[k]? = some u := h
    rw [List.set_cons_succ, List.sum_cons, List.sum_cons, set_sum h]; omega
end Ma

set_option linter.all false
namespace Ma
open PySem FX
theorem rep_get {xs : List Int} : ∀ {k j : Nat}, j < k * xs.length → ((List.replicate k xs).flatten)[j]? = xs[j % xs.length]?
  | 0, j, h => by omega
  | k + 1, j, h => by
    rw [List.replicate_succ, List.flatten_cons]
    by_cases q : j < xs.length
    · rw [List.getElem?_append_left q, Nat.mod_eq_of_lt q]
    · rw [Nat.add_mul, Nat.one_mul] at h
      rw [List.getElem?_append_right (by omega), rep_get (by omega), ← Nat.mod_eq_sub_mod (by omega)]
theorem rep_cols {ws : List Int} {n N : Nat} (n0 : 1 ≤ n) (hN : n ≤ N) : ((List.replicate n ((cols ws N).take (lp (rmN ws) n))).flatten).take n = (cols ws N).take n := by
  have sp := lp_spec (f := rmN ws) n0
  rw [cols_take (by omega), cols_take hN]
  apply List.ext_getElem?
  intro k
  by_cases hk : k < n
  · have hm := Nat.mod_lt k (show 0 < lp (rmN ws) n by omega)
    rw [List.getElem?_take_of_lt hk, rep_get (by rw [cols_len]; exact Nat.lt_of_lt_of_le hk (Nat.le_mul_of_pos_right _ (by omega))), cols_len, cols_get hm, cols_get hk]
    exact congrArg some (per_mod sp.1 sp.2.2.1 k hk)
  · rw [List.getElem?_eq_none (by rw [List.length_take]; omega), List.getElem?_eq_none (by rw [cols_len]; omega)]
theorem lp_next {f : Nat → Int} {n : Nat} (n0 : 1 ≤ n) : lp f (n + 1) = lp f n ↔ f n = f (n % lp f n) := by
  have sp := lp_spec (f := f) n0
  have sq := lp_spec (f := f) (n := n + 1) (by omega)
  constructor
  · intro h
    rw [h] at sq
    exact (per_mod sq.1 sq.2.2.1 n (by omega)).symm
  · intro h
    refine Nat.le_antisymm (lp_le (by omega) sp.1 fun x hx => ?_) (lp_mono (by omega))
    by_cases q : x + lp f n < n
    · exact sp.2.2.1 x q
    · have e : x + lp f n = n := by omega
      have e2 := per_mod sp.1 sp.2.2.1 x (by omega)
      have e3 : n % lp f n = x % lp f n := by
        have := Nat.add_mod_right x (lp f n)
        rwa [e] at this
      rw [e, h, e3, e2]
theorem lp_first : ∀ {ws : List Int} {n : Nat}, (∀ x ∈ ws, 1 ≤ x) → 1 ≤ n → ∃ b r, (ws.filter fun x => decide (x < (n : Int))) ++ [(n : Int)] = b :: r ∧ (lp (rmN ws) n : Int) ≤ b
  | [], n, _, _ => ⟨n, [], rfl, by rw [lp_nil]; exact Int.le_refl _⟩
  | w :: r, n, h, n0 => by
    have w0 := h w (by simp)
    by_cases q : w < (n : Int)
    · refine ⟨w, _, by rw [List.filter_cons_of_pos (by simpa using q)]; rfl, ?_⟩
      have := lp_half (r := r) w0 n0
      omega
    · rw [List.filter_cons_of_neg (by simpa using q)]
      obtain ⟨b, t, e1, e2⟩ := lp_first (ws := r) (fun x hx => h x (List.mem_cons_of_mem _ hx)) n0
      refine ⟨b, t, e1, ?_⟩
      rw [lp_congr (g := rmN r) fun x hx => by
        show rm r ((x : Int) % w) = rm r x
        rw [Int.emod_eq_of_lt (by omega) (by omega)]]
      exact e2
theorem dsc_end {f : Nat → Int} : ∀ n : Nat, 1 ≤ n → (dsc f n = [] ∧ ¬lp f n < n) ∨ ∃ (xs : List Int) (m : Nat), dsc f n = xs ++ [(m : Int)] ∧ ¬lp f m < m ∧ 1 ≤ m ∧ m < n := by
  intro n
  induction n using Nat.strongRecOn with
  | _ n ih =>
    intro n0
    have sp := lp_spec (f := f) n0
    rw [dsc_eq]
    by_cases q : lp f n < n
    · rw [if_pos q]
      refine .inr ?_
      rcases ih _ q sp.1 with ⟨e, h⟩ | ⟨xs, m, e, h, m1, m2⟩
      · exact ⟨[], lp f n, by rw [e]; rfl, h, sp.1, q⟩
      · exact ⟨_ :: xs, m, by rw [e]; rfl, h, m1, by omega⟩
    · rw [if_neg q]; exact .inl ⟨rfl, q⟩
theorem start_cols {ws : List Int} {n N : Nat} (hw : ∀ x ∈ ws, 1 ≤ x) (h : ¬lp (rmN ws) n < n) (hN : n ≤ N) : (cols ws N).take n = rg 0 n := by
  rw [cols_take hN]
  apply List.ext_getElem?
  intro k
  by_cases hk : k < n
  · rw [cols_get hk, rg_get hk]
    exact congrArg some (lp_full hw h hk)
  · rw [List.getElem?_eq_none (by rw [cols_len]; omega), List.getElem?_eq_none (by rw [rg_len]; omega)]
theorem dsc_cols {ws : List Int} {n : Nat} (hw : ∀ x ∈ ws, 1 ≤ x) : cols (dsc (rmN ws) n) n = cols ws n := by
  apply List.ext_getElem?
  intro k
  by_cases hk : k < n
  · rw [cols_get hk, cols_get hk]
    exact congrArg some (dsc_rm hw n k hk)
  · rw [List.getElem?_eq_none (by rw [cols_len]; omega), List.getElem?_eq_none (by rw [cols_len]; omega)]
end Ma

set_option linter.all false
namespace Ma
open PySem FX
theorem per_mul {f : Nat → Int} {p t n : Nat} (hp : 1 ≤ p) (h : Per f p n) : Per f (p * t) n := fun x hx => by
  rw [← per_mod hp h x (by omega), ← per_mod hp h (x + p * t) hx, Nat.add_mul_mod_self_left]
theorem per_gcd {f : Nat → Int} {p q n : Nat} (hp : 1 ≤ p) (hq : 1 ≤ q) (hn : p + q ≤ n + Nat.gcd p q) (h1 : Per f p n) (h2 : Per f q n) : Per f (Nat.gcd p q) n := fun x hx => by
  have key := per_two (p + q) p q n (Nat.le_refl _) hp hq hn h1 h2
  rw [← key x (by omega), ← key (x + Nat.gcd p q) hx, Nat.add_mod_right]
theorem per_first : ∀ {ws : List Int} {n : Nat} {b : Int} {r : List Int}, (∀ x ∈ ws, 1 ≤ x) → (ws.filter fun x => decide (x < (n : Int))) = b :: r → 1 ≤ b ∧ b < n ∧ Per (rmN ws) b.toNat n
  | [], n, b, r, _, h => by simp at h
  | w :: t, n, b, r, hw, h => by
    have w0 := hw w (by simp)
    by_cases q : w < (n : Int)
    · rw [List.filter_cons_of_pos (by simpa using q)] at h
      have e := (List.cons.inj h).1
      subst e
      exact ⟨w0, q, rmN_period w0 n⟩
    · rw [List.filter_cons_of_neg (by simpa using q)] at h
      obtain ⟨h1, h2, h3⟩ := per_first (ws := t) (fun x hx => hw x (List.mem_cons_of_mem _ hx)) h
      refine ⟨h1, h2, h3.congr fun x hx => ?_⟩
      show rm t (x : Int) = rm t ((x : Int) % w)
      rw [Int.emod_eq_of_lt (by omega) (by omega)]
theorem hasP_per {ws : List Int} {n : Nat} {z : Int} (hw : ∀ x ∈ ws, 1 ≤ x) (hz : 0 ≤ z) : hasP ws n z = true ↔ Per (rmN ws) z.toNat n := by
  rw [hasP_iff hw hz]
  constructor
  · intro h x hx
    have := h x (by omega) (by omega)
    show rm ws (x : Int) = rm ws ((x + z.toNat : Nat) : Int)
    rw [this, show ((x + z.toNat : Nat) : Int) = (x : Int) + z by omega]
  · intro h x h0 hx
    have := h x.toNat (by omega)
    have this : rm ws (x.toNat : Int) = rm ws ((x.toNat + z.toNat : Nat) : Int) := this
    rw [show ((x.toNat + z.toNat : Nat) : Int) = x + z by omega, show (x.toNat : Int) = x by omega] at this
    exact this
def helds (ws : List Int) (n : Nat) : List Int := (rg 1 n).filter fun z => hasP ws n z
theorem helds_mem {ws : List Int} {n : Nat} {z : Int} (hw : ∀ x ∈ ws, 1 ≤ x) : z ∈ helds ws n ↔ 1 ≤ z ∧ z ≤ n ∧ Per (rmN ws) z.toNat n := by
  unfold helds
  rw [List.mem_filter, mem_rgi]
  constructor
  · rintro ⟨h, k⟩
    exact ⟨by omega, by omega, (hasP_per hw (by omega)).mp k⟩
  · rintro ⟨h1, h2, k⟩
    exact ⟨by omega, (hasP_per hw (by omega)).mpr k⟩
theorem ovl_none {w : Int} {r : List Int} {d lag : Nat} (hw : ∀ x ∈ w :: r, 1 ≤ x) (hd : d = lp (rmN (w :: r)) (2 * w.toNat)) (h1 : 1 ≤ lag) : (ovl (w :: r) lag).isNone = decide ((lag : Int) % d = 0) := by
  have w0 := hw w (by simp)
  have sp := lp_spec (f := rmN (w :: r)) (n := 2 * w.toNat) (by omega)
  have b := lp_half (r := r) (n := 2 * w.toNat) w0 (by omega)
  rw [← hd] at sp b
  have all := per_all w0 b sp.2.2.1
  rw [Bool.eq_iff_iff, decide_eq_true_iff]
  have hdv : (lag : Int) % d = 0 ↔ d ∣ lag := by
    rw [← Int.natCast_emod]
    constructor
    · intro h; exact Nat.dvd_of_mod_eq_zero (by omega)
    · intro h; have := Nat.mod_eq_zero_of_dvd h; omega
  rw [hdv]
  rcases ovl_ok (ws := w :: r) (p := lag) hw (by omega) with ⟨e, h⟩ | ⟨t, e, _, ne, _⟩
  · rw [e]
    refine ⟨fun _ => ?_, fun _ => rfl⟩
    have hl : ∀ n, Per (rmN (w :: r)) lag n := fun n x _ => by
      have := h x (by omega)
      show rm (w :: r) (x : Int) = rm (w :: r) ((x + lag : Nat) : Int)
      rw [this, show ((x + lag : Nat) : Int) = (x : Int) + lag by omega]
    have g := per_gcd (n := 2 * w.toNat + d + lag) sp.1 h1 (by omega) (all _) (hl _)
    have g1 : 1 ≤ Nat.gcd d lag := Nat.gcd_pos_of_pos_left _ (by omega)
    have le := lp_le (f := rmN (w :: r)) (n := 2 * w.toNat) (by omega) g1 (g.mono (by omega))
    have dv := Nat.gcd_dvd_left d lag
    have le2 := Nat.le_of_dvd (by omega) dv
    have ed : Nat.gcd d lag = d := by omega
    rw [← ed]
    exact Nat.gcd_dvd_right _ _
  · rw [e]
    refine ⟨fun z => by simp at z, fun h => ?_⟩
    obtain ⟨c, rfl⟩ := h
    refine absurd ?_ ne
    have := per_mul (t := c) sp.1 (all (t + d * c + 1)) t (by omega)
    have this : rm (w :: r) (t : Int) = rm (w :: r) ((t + d * c : Nat) : Int) := this
    rw [this, show ((t + d * c : Nat) : Int) = (t : Int) + ((d * c : Nat) : Int) by omega]
/-- the columns of two lists up to what tells them -/
theorem pair_cols {v w : Int} {r t : List Int} {p q N : Nat} (hv : ∀ x ∈ v :: r, 1 ≤ x) (hw : ∀ x ∈ w :: t, 1 ≤ x) (hp : p = lp (rmN (v :: r)) (2 * v.toNat)) (hq : q = lp (rmN (w :: t)) (2 * w.toNat)) (hN : p + q ≤ N) :
    decide (cols (v :: r) (p + q - Nat.gcd p q) = cols (w :: t) (p + q - Nat.gcd p q)) = decide (cols (v :: r) N = cols (w :: t) N) := by
  have v0 := hv v (by simp)
  have w0 := hw w (by simp)
  have sp := lp_spec (f := rmN (v :: r)) (n := 2 * v.toNat) (by omega)
  have sq := lp_spec (f := rmN (w :: t)) (n := 2 * w.toNat) (by omega)
  have bp := lp_half (r := r) (n := 2 * v.toNat) v0 (by omega)
  have bq := lp_half (r := t) (n := 2 * w.toNat) w0 (by omega)
  rw [← hp] at sp bp
  rw [← hq] at sq bq
  rw [Bool.eq_iff_iff, decide_eq_true_iff, decide_eq_true_iff, cols_agr, cols_agr]
  constructor
  · intro h x h0 hx
    have := agree_all (f := rmN (v :: r)) (g := rmN (w :: t)) (k := p + q - Nat.gcd p q) sp.1 sq.1 (per_all v0 bp sp.2.2.1) (per_all w0 bq sq.2.2.1) (by omega) (fun x hx => h x (by omega) (by omega)) x.toNat
    have this : rm (v :: r) (x.toNat : Int) = rm (w :: t) (x.toNat : Int) := this
    rw [show (x.toNat : Int) = x by omega] at this
    exact this
  · intro h x h0 hx
    exact h x h0 (by omega)
theorem cols_nil_ne {w : Int} {r : List Int} {N : Nat} (hw : ∀ x ∈ w :: r, 1 ≤ x) (h : w < N) : ¬cols [] N = cols (w :: r) N := fun e => by
  have w0 := hw w (by simp)
  have a := (cols_agr.mp e) w (by omega) h
  have b := rm_below (p := w) hw (by omega) w (by simp)
  have a : w = rm (w :: r) w := a
  omega
end Ma

set_option Elab.async false
set_option linter.all false
namespace Ma
open FX
/-! the period for ever: columns, numbers of pieces, breaks, overlaps (k21) -/
theorem rm_per {w : Int} {r : List Int} {d : Nat} (hw : 1 ≤ w) (hd : d = lp (rmN (w :: r)) (2 * w.toNat)) {x : Int} (h : 0 ≤ x) : rm (w :: r) (x + d) = rm (w :: r) x := by
  have d1 : d ≤ w.toNat := by rw [hd]; exact lp_half hw (by omega)
  have hp : Per (rmN (w :: r)) d (2 * w.toNat) := by rw [hd]; exact (lp_spec (by omega)).2.2.1
  have := per_all hw d1 hp (x.toNat + d + 1) x.toNat (by omega)
  have e1 : ((x.toNat : Nat) : Int) = x := by omega
  have e2 : ((x.toNat + d : Nat) : Int) = x + d := by omega
  have h2 : rm (w :: r) ((x.toNat : Nat) : Int) = rm (w :: r) ((x.toNat + d : Nat) : Int) := this
  rw [e1, e2] at h2
  exact h2.symm
theorem rm_pers {w : Int} {r : List Int} {d : Nat} (hw : 1 ≤ w) (hd : d = lp (rmN (w :: r)) (2 * w.toNat)) : ∀ (t : Nat) {x : Int}, 0 ≤ x → rm (w :: r) (x + t * d) = rm (w :: r) x
  | 0, x, h => by simp
  | t + 1, x, h => by
    have e : x + ((t + 1 : Nat) : Int) * d = (x + t * d) + d := by rw [Int.natCast_add, Int.add_mul]; omega
    rw [e, rm_per hw hd (by have := Int.mul_nonneg (show 0 ≤ (t : Int) by omega) (show 0 ≤ (d : Int) by omega); omega), rm_pers hw hd t h]
theorem rm_perm {w : Int} {r : List Int} {d : Nat} (hw : 1 ≤ w) (hd : d = lp (rmN (w :: r)) (2 * w.toNat)) {x : Int} (h : 0 ≤ x) : rm (w :: r) (x % d) = rm (w :: r) x := by
  have d0 : 1 ≤ d := by rw [hd]; exact (lp_spec (by omega)).1
  have q0 := Int.ediv_nonneg h (show (0 : Int) ≤ d by omega)
  have e : x % d + ((x / d).toNat : Nat) * (d : Int) = x := by
    rw [Int.toNat_of_nonneg q0, Int.mul_comm]; exact Int.emod_add_mul_ediv x d
  have := rm_pers hw hd (x / d).toNat (x := x % d) (Int.emod_nonneg _ (by omega))
  rw [e] at this
  exact this.symm
theorem np_per {w : Int} {r : List Int} {d : Nat} (hw : ∀ x ∈ w :: r, 1 ≤ x) (hd : d = lp (rmN (w :: r)) (2 * w.toNat)) : ∀ n : Nat, Np (w :: r) (n + d) = Np (w :: r) n + Np (w :: r) d
  | 0 => by
    rw [show ((0 : Nat) : Int) = 0 from rfl, np_zero _ (fun x hx => by have := hw x hx; omega), Int.zero_add, Int.zero_add]
  | n + 1 => by
    have ih := np_per hw hd n
    have h1 := np_succ (w :: r) (n + d) hw (by omega)
    have h2 := np_succ (w :: r) n hw (by omega)
    rw [rm_per (hw w (by simp)) hd (show (0 : Int) ≤ n by omega)] at h1
    rw [show ((n + 1 : Nat) : Int) + d = (n : Int) + d + 1 by omega, h1, ih, show ((n + 1 : Nat) : Int) = (n : Int) + 1 by omega, h2]
    omega
theorem np_pers {w : Int} {r : List Int} {d : Nat} (hw : ∀ x ∈ w :: r, 1 ≤ x) (hd : d = lp (rmN (w :: r)) (2 * w.toNat)) : ∀ (t n : Nat), Np (w :: r) (n + t * d) = Np (w :: r) n + t * Np (w :: r) d
  | 0, n => by simp
  | t + 1, n => by
    have e : (n : Int) + ((t + 1 : Nat) : Int) * d = ((n + t * d : Nat) : Int) + d := by rw [Int.natCast_add, Int.add_mul]; push_cast; omega
    rw [e, np_per hw hd]
    push_cast
    rw [np_pers hw hd t n, Int.add_mul]
    omega
theorem nb_pers {w : Int} {r : List Int} {d : Nat} (hw : ∀ x ∈ w :: r, 1 ≤ x) (hd : d = lp (rmN (w :: r)) (2 * w.toNat)) (t : Nat) : Nb (w :: r) (t * Np (w :: r) d) = t * d := by
  have h := np_pers hw hd t 0
  rw [show ((0 : Nat) : Int) = 0 from rfl, np_zero _ (fun x hx => by have := hw x hx; omega), Int.zero_add, Int.zero_add] at h
  have n0 := Int.mul_nonneg (show 0 ≤ (t : Int) by omega) (show 0 ≤ (d : Int) by omega)
  have b : rm (w :: r) (t * d) = 0 := by
    have := rm_pers (hw w (by simp)) hd t (x := 0) (Int.le_refl _)
    rw [Int.zero_add, rm_0 hw] at this
    exact this
  rw [← h]
  exact nb_np hw n0 b
theorem ovl_congr {ws : List Int} {p q : Int} (hw : ∀ x ∈ ws, 1 ≤ x) (hp : 0 ≤ p) (hq : 0 ≤ q) (h : ∀ x, 0 ≤ x → rm ws (x + p) = rm ws (x + q)) : ovl ws p = ovl ws q := by
  rcases ovl_ok hw hp with ⟨e1, a1⟩ | ⟨t, e1, _, n1, a1⟩ <;> rcases ovl_ok hw hq with ⟨e2, a2⟩ | ⟨u, e2, _, n2, a2⟩
  · rw [e1, e2]
  · exact absurd (by rw [a1 u (by omega), h u (by omega)]) n2
  · exact absurd (by rw [a2 t (by omega), h t (by omega)]) n1
  · rw [e1, e2]
    rcases Nat.lt_trichotomy t u with l | l | l
    · exact absurd (by rw [a2 t (by omega) (by omega), h t (by omega)]) n1
    · rw [l]
    · exact absurd (by rw [a1 u (by omega) (by omega), h u (by omega)]) n2
theorem lp_far {w : Int} {r : List Int} {d n : Nat} (hw : 1 ≤ w) (hd : d = lp (rmN (w :: r)) (2 * w.toNat)) (h : 2 * d ≤ n) : lp (rmN (w :: r)) n = d := by
  have d0 : 1 ≤ d := by rw [hd]; exact (lp_spec (by omega)).1
  have pn : ∀ m, Per (rmN (w :: r)) d m := fun m => by
    have d1 : d ≤ w.toNat := by rw [hd]; exact lp_half hw (by omega)
    exact per_all hw d1 (by rw [hd]; exact (lp_spec (by omega)).2.2.1) m
  refine lp_unique d0 (by omega) (pn n) fun q q0 q1 hq => ?_
  have sp := (lp_spec (f := rmN (w :: r)) (n := 2 * w.toNat) (by omega)).2.2.2
  rw [← hd] at sp
  have g0 := Nat.gcd_pos_of_pos_left d q0
  have gl : Nat.gcd q d ≤ q := Nat.gcd_le_left d q0
  have pt := per_two (f := rmN (w :: r)) (q + d) q d n (Nat.le_refl _) q0 d0 (by omega) hq (pn n)
  have key : ∀ y, rmN (w :: r) (y % Nat.gcd q d) = rmN (w :: r) y := fun y => by
    have ym : y % d < d := Nat.mod_lt _ d0
    have e1 := pt (y % d) (by omega)
    have e2 := per_mod d0 (pn (y + 1)) y (by omega)
    rw [Nat.mod_mod_of_dvd _ (Nat.gcd_dvd_right q d)] at e1
    exact e1.trans e2
  refine sp (Nat.gcd q d) g0 (by omega) fun x _ => ?_
  rw [← key x, ← key (x + Nat.gcd q d), Nat.add_mod_right]
end Ma

set_option Elab.async false
set_option linter.all false
namespace Ma
open FX
/-! all falling lists of widths below a bound (k26, k38, k40) -/
/-- width after width: with it and without it -/
def sb (ws : List Int) : List (List Int) := ws.foldl (fun F w => F ++ F.map (· ++ [w])) [[]]
theorem sb_snoc {ws : List Int} {w : Int} : sb (ws ++ [w]) = sb ws ++ (sb ws).map (· ++ [w]) := by unfold sb; rw [List.foldl_append]; rfl
theorem sb_nil : sb [] = [[]] := rfl
theorem sb_len : ∀ (n : Nat) {ws : List Int}, ws.length = n → (sb ws).length = 2 ^ n
  | 0, ws, h => by rw [List.eq_nil_of_length_eq_zero h]; rfl
  | n + 1, ws, h => by
    have ne : ws ≠ [] := fun e => by rw [e] at h; simp at h
    have e := List.dropLast_concat_getLast ne
    rw [← e, sb_snoc, List.length_append, List.length_map, sb_len n (by rw [List.length_dropLast]; omega), Nat.pow_succ]
    omega
theorem sb_mem : ∀ (n : Nat) {ws c : List Int}, ws.length = n → (c ∈ sb ws ↔ c.Sublist ws)
  | 0, ws, c, h => by rw [List.eq_nil_of_length_eq_zero h]; simp [sb_nil]
  | n + 1, ws, c, h => by
    have ne : ws ≠ [] := fun e => by rw [e] at h; simp at h
    obtain ⟨b, w, rfl⟩ : ∃ b w, ws = b ++ [w] := ⟨_, _, (List.dropLast_concat_getLast ne).symm⟩
    have hb : b.length = n := by simp at h; exact h
    rw [sb_snoc, List.mem_append, List.mem_map, sb_mem n hb, List.sublist_append_iff]
    constructor
    · rintro (h | ⟨a, ha, rfl⟩)
      · exact ⟨c, [], by simp, h, List.nil_sublist _⟩
      · exact ⟨a, [w], rfl, (sb_mem n hb).mp ha, List.Sublist.refl _⟩
    · rintro ⟨a, t, rfl, h1, h2⟩
      have h2' : t = [] ∨ t = [w] := by
        cases h2 with
        | cons _ h => exact .inl (List.sublist_nil.mp h)
        | cons_cons _ h => exact .inr (by rw [List.sublist_nil.mp h])
      rcases h2' with rfl | rfl
      · exact .inl (by simpa using h1)
      · exact .inr ⟨a, (sb_mem n hb).mpr h1, rfl⟩
def downs : Nat → List Int
  | 0 => []
  | n + 1 => ((n + 1 : Nat) : Int) :: downs n
theorem downs_len : ∀ n, (downs n).length = n
  | 0 => rfl
  | n + 1 => by unfold downs; rw [List.length_cons, downs_len n]
theorem downs_mem {x : Int} : ∀ {n : Nat}, x ∈ downs n ↔ 1 ≤ x ∧ x ≤ n
  | 0 => by unfold downs; simp; omega
  | n + 1 => by unfold downs; rw [List.mem_cons, downs_mem]; omega
theorem downs_falls : ∀ n : Nat, (downs n).Pairwise (· > ·)
  | 0 => List.Pairwise.nil
  | n + 1 => by
    unfold downs
    exact List.pairwise_cons.mpr ⟨fun x hx => by have := downs_mem.mp hx; show x < _; omega, downs_falls n⟩
theorem sub_downs : ∀ {n : Nat} {c : List Int}, c.Pairwise (· > ·) → (∀ x ∈ c, 1 ≤ x ∧ x ≤ (n : Int)) → c.Sublist (downs n)
  | 0, [], _, _ => List.nil_sublist _
  | 0, x :: c, _, h => by have := h x (by simp); omega
  | n + 1, [], _, _ => List.nil_sublist _
  | n + 1, x :: c, hp, h => by
    obtain ⟨h1, h2⟩ := List.pairwise_cons.mp hp
    have hx := h x (by simp)
    unfold downs
    by_cases e : x = ((n + 1 : Nat) : Int)
    · rw [e]
      refine List.Sublist.cons_cons _ (sub_downs h2 fun y hy => ?_)
      have := h1 y hy
      have := h y (List.mem_cons_of_mem _ hy)
      omega
    · refine List.Sublist.cons _ (sub_downs hp fun y hy => ?_)
      have hy' := h y hy
      rcases List.mem_cons.mp hy with rfl | hy
      · omega
      · have := h1 y hy; omega
/-- the falling lists of widths less than top -/
def subs (n : Nat) : List (List Int) := sb (downs n)
theorem subs_mem {n : Nat} {c : List Int} : c ∈ subs n ↔ c.Pairwise (· > ·) ∧ ∀ x ∈ c, 1 ≤ x ∧ x ≤ (n : Int) := by
  unfold subs
  rw [sb_mem n (downs_len n)]
  refine ⟨fun h => ⟨(downs_falls n).sublist h, fun x hx => downs_mem.mp (h.subset hx)⟩, fun h => sub_downs h.1 h.2⟩
theorem subs_len (n : Nat) : (subs n).length = 2 ^ n := sb_len n (downs_len n)
theorem downs_take_snoc {n i : Nat} (h : i < n) : (downs n).take (i + 1) = (downs n).take i ++ [((n - i : Nat) : Int)] := by
  have key : ∀ (n i : Nat), i < n → (downs n)[i]? = some ((n - i : Nat) : Int) := by
    intro n
    induction n with
    | zero => intro i h; omega
    | succ n ih =>
      intro i h
      unfold downs
      cases i with
      | zero => rfl
      | succ i => rw [List.getElem?_cons_succ, ih i (by omega), Nat.add_sub_add_right]
  rw [List.take_succ, key n i h]
  rfl
theorem falls_len : ∀ {n : Nat} {c : List Int}, c.Pairwise (· > ·) → (∀ x ∈ c, 1 ≤ x ∧ x ≤ (n : Int)) → c.length ≤ n := fun {n c} h1 h2 => by
  have := (sub_downs h1 h2).length_le
  rwa [downs_len] at this
/-- lists of widths up to m with the same columns up to 2 m + 1 have the same columns -/
theorem cols_all {a b : List Int} {m : Int} {N : Nat} (ha : ∀ x ∈ a, 1 ≤ x ∧ x ≤ m) (hb : ∀ x ∈ b, 1 ≤ x ∧ x ≤ m) (h0 : 0 ≤ m) (hN : 2 * m + 1 ≤ N) (e : cols a N = cols b N) : ∀ x, 0 ≤ x → rm a x = rm b x := by
  have h := cols_agr.mp e
  have h1 := hd_le h0 fun x hx => (ha x hx).2
  have h2 := hd_le h0 fun x hx => (hb x hx).2
  exact agr_all (fun x hx => (ha x hx).1) (fun x hx => (hb x hx).1) fun x x0 x1 => h x x0 (by omega)
theorem cols_same {a b : List Int} {N : Nat} (h : ∀ x, 0 ≤ x → rm a x = rm b x) : cols a N = cols b N := cols_agr.mpr fun x x0 _ => h x x0
end Ma

set_option Elab.async false
set_option linter.all false
set_option maxRecDepth 100000
namespace My
open PySem PySem.Spec PyProof.Rows L2 FX
open Classical

def top (i : Nat) : Stmt := PySem.Challenge.pw_hardwraps_k26_normal_forms_are_shortest.main.body.getD i (.Pass ⟨0, 0, 0, 0⟩)
abbrev T_is_integer_in : Stmt := top 4
theorem sc_is_integer_in : FnScope ["value", "least", "greatest"] ["value", "least", "greatest"] (defScope T_is_integer_in) := ⟨rfl, rfl, rfl, by decide +kernel, rfl, by decide +kernel, by decide +kernel⟩
abbrev T_is_widths : Stmt := top 7
theorem sc_is_widths : FnScope ["value", "width"] ["value"] (defScope T_is_widths) := ⟨rfl, rfl, rfl, by decide +kernel, rfl, by decide +kernel, by decide +kernel⟩
abbrev T_check_widths : Stmt := top 8
theorem sc_check_widths : FnScope ["value"] ["value"] (defScope T_check_widths) := ⟨rfl, rfl, rfl, by decide +kernel, rfl, by decide +kernel, by decide +kernel⟩
abbrev T__repeated : Stmt := top 10
theorem sc__repeated : FnScope ["items", "length", "times"] ["items", "length"] (defScope T__repeated) := ⟨rfl, rfl, rfl, by decide +kernel, rfl, by decide +kernel, by decide +kernel⟩
abbrev T_first_columns : Stmt := top 9
theorem sc_first_columns : FnScope ["widths", "length", "found", "width"] ["widths", "length"] (defScope T_first_columns) := ⟨rfl, rfl, rfl, by decide +kernel, rfl, by decide +kernel, by decide +kernel⟩
abbrev T_first_mismatch : Stmt := top 12
theorem sc_first_mismatch : FnScope ["left", "right", "at", "one", "other"] ["left", "right"] (defScope T_first_mismatch) := ⟨rfl, rfl, rfl, by decide +kernel, rfl, by decide +kernel, by decide +kernel⟩
abbrev T_least_periods : Stmt := top 13
theorem sc_least_periods : FnScope ["columns", "borders", "border", "at", "length"] ["columns"] (defScope T_least_periods) := ⟨rfl, rfl, rfl, by decide +kernel, rfl, by decide +kernel, by decide +kernel⟩
abbrev T_telling_columns : Stmt := top 14
theorem sc_telling_columns : FnScope ["widths", "length"] ["widths", "length"] (defScope T_telling_columns) := ⟨rfl, rfl, rfl, by decide +kernel, rfl, by decide +kernel, by decide +kernel⟩
abbrev T_descent_of : Stmt := top 16
theorem sc_descent_of : FnScope ["columns", "periods", "found", "length"] ["columns"] (defScope T_descent_of) := ⟨rfl, rfl, rfl, by decide +kernel, rfl, by decide +kernel, by decide +kernel⟩
abbrev T_normal_form : Stmt := top 17
theorem sc_normal_form : FnScope ["widths"] ["widths"] (defScope T_normal_form) := ⟨rfl, rfl, rfl, by decide +kernel, rfl, by decide +kernel, by decide +kernel⟩
abbrev T_first_difference : Stmt := top 19
theorem sc_first_difference : FnScope ["widths", "other", "length"] ["widths", "other"] (defScope T_first_difference) := ⟨rfl, rfl, rfl, by decide +kernel, rfl, by decide +kernel, by decide +kernel⟩
abbrev T_are_equal : Stmt := top 18
theorem sc_are_equal : FnScope ["widths", "other"] ["widths", "other"] (defScope T_are_equal) := ⟨rfl, rfl, rfl, by decide +kernel, rfl, by decide +kernel, by decide +kernel⟩
abbrev T__law_bag : Stmt := top 21
theorem sc__law_bag : FnScope ["script", "k", "cell"] ["script", "k"] (defScope T__law_bag) := ⟨rfl, rfl, rfl, by decide +kernel, rfl, by decide +kernel, by decide +kernel⟩
abbrev T__law_take : Stmt := top 22
theorem sc__law_take : FnScope ["bag", "many", "found", "mixed"] ["bag", "many"] (defScope T__law_take) := ⟨rfl, rfl, rfl, by decide +kernel, rfl, by decide +kernel, by decide +kernel⟩
abbrev T__law_chain : Stmt := top 23
theorem sc__law_chain : FnScope ["bag", "most", "top", "found", "style", "k", "last", "below", "part"] ["bag", "most", "top"] (defScope T__law_chain) := ⟨rfl, rfl, rfl, by decide +kernel, rfl, by decide +kernel, by decide +kernel⟩
abbrev T__law_broken : Stmt := top 24
theorem sc__law_broken : FnScope ["chain", "span", "sizes", "width", "later", "size", "many", "rest"] ["chain", "span"] (defScope T__law_broken) := ⟨rfl, rfl, rfl, by decide +kernel, rfl, by decide +kernel, by decide +kernel⟩
abbrev T__law_cols : Stmt := top 25
theorem sc__law_cols : FnScope ["sizes", "found", "size"] ["sizes"] (defScope T__law_cols) := ⟨rfl, rfl, rfl, by decide +kernel, rfl, by decide +kernel, by decide +kernel⟩
abbrev T__law_subsets : Stmt := top 26
theorem sc__law_subsets : FnScope ["top", "found", "width", "chain"] ["top"] (defScope T__law_subsets) := ⟨rfl, rfl, rfl, by decide +kernel, rfl, by decide +kernel, by decide +kernel⟩
abbrev T_law : Stmt := top 27
theorem sc_law : FnScope ["script", "every", "chain", "k", "bag", "turn", "values", "same", "one", "own", "told"] ["script"] (defScope T_law) := ⟨rfl, rfl, rfl, by decide +kernel, rfl, by decide +kernel, by decide +kernel⟩
noncomputable section
def B_is_integer_in (K : PySem.W.Frag) : EvS := (sSeq (sIf (tOrS (tru (eCB nIsi (aConsE (eVar 0) (aConsE (eC (.ty "bool")) aNilE)))) (tNotS (tru (eCB nIsi (aConsE (eVar 0) (aConsE (eC (.ty "int")) aNilE)))))) (sSeq (sRet (eC (.bl false)))
  sNil) sNil)
  (sSeq (sRet (eChain gLe gLe (eVar 1) (eVar 0) (eVar 2)))
  sNil))
def S_is_integer_in (K : PySem.W.Frag) : List D → Sto → R (D × Nat) := noX (defT 0 3 (B_is_integer_in K))
def B_is_widths (K : PySem.W.Frag) : EvS := (sSeq (sIf (tNotS (tru (eCB nIsi (aConsE (eVar 0) (aConsE (eC (.ty "list")) aNilE))))) (sSeq (sRet (eC (.bl false)))
  sNil) sNil)
  (sSeq (sRet (eCB nAll (aConsE (eComp (itSeq (eVar 0)) (aName 1) cYes (eCall (S_is_integer_in K) (aConsE (eVar 1) (aConsE (eC (.int 1)) (aConsE (eC (.int 10000)) aNilE)))) [1]) aNilE)))
  sNil))
def S_is_widths (K : PySem.W.Frag) : List D → Sto → R (D × Nat) := noX (defT 1 1 (B_is_widths K))
def B_check_widths (K : PySem.W.Frag) : EvS := (sSeq (sIf (tNotS (tru (eCall (S_is_widths K) (aConsE (eVar 0) aNilE)))) (sSeq sNever
  sNil) sNil)
  sNil)
def S_check_widths (K : PySem.W.Frag) : List D → Sto → R (D × Nat) := noX (defT 0 1 (B_check_widths K))
def B__repeated (K : PySem.W.Frag) : EvS := (sSeq (sSet 2 (eBin gAdd (eBin gDiv (eVar 1) (eCB nLen (aConsE (eVar 0) aNilE))) (eC (.int 1))))
  (sSeq (sRet (eSl (eBin gMul (eVar 0) (eVar 2)) oNo (oSome (eVar 1))))
  sNil))
def S__repeated (K : PySem.W.Frag) : List D → Sto → R (D × Nat) := noX (defT 1 2 (B__repeated K))
def B_first_columns (K : PySem.W.Frag) : EvS := (sSeq (sSet 2 (eLst aNilE))
  (sSeq (sFor (itRev (aConsE (eBin gAdd (eLst (aConsE (eVar 1) aNilE)) (eVar 0)) aNilE)) (aName 3) (sSeq (sSet 2 (eIf (tru (eVar 2)) (eCall (S__repeated K) (aConsE (eVar 2) (aConsE (eVar 3) aNilE))) (eListRg1 (eVar 3))))
  sNil))
  (sSeq (sRet (eVar 2))
  sNil)))
def S_first_columns (K : PySem.W.Frag) : List D → Sto → R (D × Nat) := noX (defT 2 2 (B_first_columns K))
def B_first_mismatch (K : PySem.W.Frag) : EvS := (sSeq (sFor (itEnumZip (aConsE (eVar 0) (aConsE (eVar 1) aNilE))) (aTup 2 (aCons (aName 2) (aCons (aTup 2 (aCons (aName 3) (aCons (aName 4) aNil))) aNil))) (sSeq (sIf (tst (eBin (gEq true) (eVar 3) (eVar 4))) (sSeq (sRet (eVar 2))
  sNil) sNil)
  sNil))
  (sSeq (sRet (eC .non))
  sNil))
def S_first_mismatch (K : PySem.W.Frag) : List D → Sto → R (D × Nat) := noX (defT 3 2 (B_first_mismatch K))
def B_least_periods (K : PySem.W.Frag) : EvS := (sSeq (sSet 1 (eLstH (aConsE (eC (.int 0)) (aConsE (eC (.int 0)) aNilE))))
  (sSeq (sSet 2 (eC (.int 0)))
  (sSeq (sFor (itRange2 (aConsE (eC (.int 1)) (aConsE (eCB nLen (aConsE (eVar 0) aNilE)) aNilE))) (aName 3) (sSeq (sWhile (tAndS (tst (eBin gGt (eVar 2) (eC (.int 0)))) (tst (eBin (gEq true) (eBin gIx (eVar 0) (eVar 3)) (eBin gIx (eVar 0) (eVar 2))))) (sSeq (sSet 2 (eBin gIx (eVar 1) (eVar 2)))
  sNil))
  (sSeq (sIf (tst (eBin (gEq false) (eBin gIx (eVar 0) (eVar 3)) (eBin gIx (eVar 0) (eVar 2)))) (sSeq (sAug gAddI 2 (eC (.int 1)))
  sNil) sNil)
  (sSeq (sExpr (eMut mAppend (eVar 1) (aConsE (eVar 2) aNilE)))
  sNil))))
  (sSeq (sRet (eComp (itEnum (aConsE (eVar 1) aNilE)) (aTup 2 (aCons (aName 4) (aCons (aName 2) aNil))) cYes (eBin gSub (eVar 4) (eVar 2)) [4, 2]))
  sNil))))
def S_least_periods (K : PySem.W.Frag) : List D → Sto → R (D × Nat) := noX (defT 4 1 (B_least_periods K))
def B_telling_columns (K : PySem.W.Frag) : EvS := (sSeq (sRet (eCall (S_first_columns K) (aConsE (eVar 0) (aConsE (eCB nMin2 (aConsE (eVar 1) (aConsE (eBin gMul (eC (.int 2)) (eBin gIx (eVar 0) (eC (.int 0)))) aNilE))) aNilE))))
  sNil)
def S_telling_columns (K : PySem.W.Frag) : List D → Sto → R (D × Nat) := noX (defT 0 2 (B_telling_columns K))
def B_descent_of (K : PySem.W.Frag) : EvS := (sSeq (sSet 1 (eCall (S_least_periods K) (aConsE (eVar 0) aNilE)))
  (sSeq (sSet 2 (eLstH aNilE))
  (sSeq (sSet 3 (eCB nLen (aConsE (eVar 0) aNilE)))
  (sSeq (sWhile (tst (eBin gLt (eBin gIx (eVar 1) (eVar 3)) (eVar 3))) (sSeq (sSet 3 (eBin gIx (eVar 1) (eVar 3)))
  (sSeq (sExpr (eMut mAppend (eVar 2) (aConsE (eVar 3) aNilE)))
  sNil)))
  (sSeq (sRet (eVar 2))
  sNil)))))
def S_descent_of (K : PySem.W.Frag) : List D → Sto → R (D × Nat) := noX (defT 3 1 (B_descent_of K))
def B_normal_form (K : PySem.W.Frag) : EvS := (sSeq (sExpr (eCall (S_check_widths K) (aConsE (eVar 0) aNilE)))
  (sSeq (sIf (tNotS (tru (eVar 0))) (sSeq (sRet (eLst aNilE))
  sNil) sNil)
  (sSeq (sRet (eCall (S_descent_of K) (aConsE (eCall (S_telling_columns K) (aConsE (eVar 0) (aConsE (eBin gMul (eC (.int 2)) (eBin gIx (eVar 0) (eC (.int 0)))) aNilE))) aNilE)))
  sNil)))
def S_normal_form (K : PySem.W.Frag) : List D → Sto → R (D × Nat) := noX (defT 0 1 (B_normal_form K))
def B_first_difference (K : PySem.W.Frag) : EvS := (sSeq (sExpr (eCall (S_check_widths K) (aConsE (eVar 0) aNilE)))
  (sSeq (sExpr (eCall (S_check_widths K) (aConsE (eVar 1) aNilE)))
  (sSeq (sSet 2 (eBin gAdd (eBin gAdd (eCB nSum (aConsE (eSl (eVar 0) oNo (oSome (eC (.int 1)))) aNilE)) (eCB nSum (aConsE (eSl (eVar 1) oNo (oSome (eC (.int 1)))) aNilE))) (eC (.int 1))))
  (sSeq (sRet (eCall (S_first_mismatch K) (aConsE (eCall (S_first_columns K) (aConsE (eVar 0) (aConsE (eVar 2) aNilE))) (aConsE (eCall (S_first_columns K) (aConsE (eVar 1) (aConsE (eVar 2) aNilE))) aNilE))))
  sNil))))
def S_first_difference (K : PySem.W.Frag) : List D → Sto → R (D × Nat) := noX (defT 1 2 (B_first_difference K))
def B_are_equal (K : PySem.W.Frag) : EvS := (sSeq (sRet (eBin (gIsA false) (eCall (S_first_difference K) (aConsE (eVar 0) (aConsE (eVar 1) aNilE))) (eC .non)))
  sNil)
def S_are_equal (K : PySem.W.Frag) : List D → Sto → R (D × Nat) := noX (defT 0 2 (B_are_equal K))
def B__law_bag (K : PySem.W.Frag) : EvS := (sSeq (sSet 2 (eIf (tst (eBin gLt (eVar 1) (eCB nLen (aConsE (eVar 0) aNilE)))) (eBin gIx (eVar 0) (eVar 1)) (eC (.int 0))))
  (sSeq (sRet (eLst (aConsE (eCB nMax2 (aConsE (eC (.int 0)) (aConsE (eBin gSub (eCB nAbs (aConsE (eVar 2) aNilE)) (eBin gPow (eC (.int 10)) (eC (.int 18)))) aNilE))) (aConsE (eBin gAdd (eBin gMod (eVar 2) (eBin gAdd (eBin gPow (eC (.int 10)) (eC (.int 35))) (eC (.int 7)))) (eBin gMul (eC (.int 70793)) (eVar 1))) (aConsE (eC (.int 0)) aNilE)))))
  sNil))
def S__law_bag (K : PySem.W.Frag) : List D → Sto → R (D × Nat) := noX (defT 1 2 (B__law_bag K))
def B__law_take (K : PySem.W.Frag) : EvS := (sSeq (sIf (tst (eBin gGt (eBin gIx (eVar 0) (eC (.int 0))) (eC (.int 0)))) (sSeq (sSet 2 (eBin gMod (eBin gIx (eVar 0) (eC (.int 0))) (eVar 1)))
  (sSeq (sSetIx (eBin gDiv (eBin gIx (eVar 0) (eC (.int 0))) (eVar 1)) (eVar 0) (eC (.int 0)))
  (sSeq (sRet (eVar 2))
  sNil))) sNil)
  (sSeq (sSetIx (eBin gAdd (eBin gIx (eVar 0) (eC (.int 2))) (eC (.int 1))) (eVar 0) (eC (.int 2)))
  (sSeq (sSet 3 (eBin gMod (eBin gPow (eBin gAdd (eBin gIx (eVar 0) (eC (.int 1))) (eBin gMul (eC (.int 32452867)) (eBin gIx (eVar 0) (eC (.int 2))))) (eC (.int 3))) (eBin gAdd (eBin gPow (eC (.int 10)) (eC (.int 39))) (eC (.int 3)))))
  (sSeq (sSet 3 (eBin gMod (eBin gPow (eBin gAdd (eVar 3) (eBin gMul (eC (.int 49979693)) (eBin gIx (eVar 0) (eC (.int 2))))) (eC (.int 3))) (eBin gAdd (eBin gPow (eC (.int 10)) (eC (.int 38))) (eC (.int 133)))))
  (sSeq (sRet (eBin gMod (eBin gDiv (eVar 3) (eC (.int 87803))) (eVar 1)))
  sNil)))))
def S__law_take (K : PySem.W.Frag) : List D → Sto → R (D × Nat) := noX (defT 2 2 (B__law_take K))
def B__law_chain (K : PySem.W.Frag) : EvS := (sSeq (sPar 3 4 (aConsE (eLstH aNilE) (aConsE (eCall (S__law_take K) (aConsE (eVar 0) (aConsE (eC (.int 4)) aNilE))) aNilE)))
  (sSeq (sFor (itRange (aConsE (eCall (S__law_take K) (aConsE (eVar 0) (aConsE (eBin gAdd (eVar 1) (eC (.int 1))) aNilE))) aNilE)) (aName 5) (sSeq (sSet 6 (eIf (tst (eBin (gEq true) (eVar 3) (eLst aNilE))) (eBin gIx (eVar 3) (eNeg (eC (.int 1)))) (eVar 2)))
  (sSeq (sSet 7 (eBin gAdd (eC (.int 1)) (eCall (S__law_take K) (aConsE (eVar 0) (aConsE (eVar 6) aNilE)))))
  (sSeq (sSet 8 (eBin gSub (eBin gAdd (eBin gDiv (eVar 6) (eBin gAdd (eC (.int 1)) (eCall (S__law_take K) (aConsE (eVar 0) (aConsE (eC (.int 4)) aNilE))))) (eCall (S__law_take K) (aConsE (eVar 0) (aConsE (eC (.int 3)) aNilE)))) (eC (.int 1))))
  (sSeq (sExpr (eMut mAppend (eVar 3) (aConsE (eBin gIx (eLst (aConsE (eBin gAdd (eC (.int 1)) (eCall (S__law_take K) (aConsE (eVar 0) (aConsE (eVar 2) aNilE)))) (aConsE (eVar 7) (aConsE (eCB nMin2 (aConsE (eVar 2) (aConsE (eCB nMax2 (aConsE (eC (.int 1)) (aConsE (eVar 8) aNilE))) aNilE))) (aConsE (eVar 7) aNilE))))) (eVar 4)) aNilE)))
  sNil)))))
  (sSeq (sRet (eVar 3))
  sNil)))
def S__law_chain (K : PySem.W.Frag) : List D → Sto → R (D × Nat) := noX (defT 6 3 (B__law_chain K))
def B__law_broken (K : PySem.W.Frag) : EvS := (sSeq (sSet 2 (eBin gMul (eLst (aConsE (eVar 1) aNilE)) (eCB nInt (aConsE (eBin gGt (eVar 1) (eC (.int 0))) aNilE))))
  (sSeq (sFor (itSeq (eVar 0)) (aName 3) (sSeq (sSet 4 (eLstH aNilE))
  (sSeq (sFor (itSeq (eVar 2)) (aName 5) (sSeq (sAsg (aTup 2 (aCons (aName 6) (aCons (aName 7) aNil))) (eCB nDivmod (aConsE (eVar 5) (aConsE (eVar 3) aNilE))))
  (sSeq (sExpr (eMut mExtend (eVar 4) (aConsE (eBin gAdd (eBin gMul (eLst (aConsE (eVar 3) aNilE)) (eVar 6)) (eBin gMul (eLst (aConsE (eVar 7) aNilE)) (eCB nInt (aConsE (eBin gGt (eVar 7) (eC (.int 0))) aNilE)))) aNilE)))
  sNil)))
  (sSeq (sSet 2 (eVar 4))
  sNil))))
  (sSeq (sRet (eVar 2))
  sNil)))
def S__law_broken (K : PySem.W.Frag) : List D → Sto → R (D × Nat) := noX (defT 6 2 (B__law_broken K))
def B__law_cols (K : PySem.W.Frag) : EvS := (sSeq (sSet 1 (eLstH aNilE))
  (sSeq (sFor (itSeq (eVar 0)) (aName 2) (sSeq (sExpr (eMut mExtend (eVar 1) (aConsE (eListRg1 (eVar 2)) aNilE)))
  sNil))
  (sSeq (sRet (eVar 1))
  sNil)))
def S__law_cols (K : PySem.W.Frag) : List D → Sto → R (D × Nat) := noX (defT 2 1 (B__law_cols K))
def B__law_subsets (K : PySem.W.Frag) : EvS := (sSeq (sSet 1 (eLst (aConsE (eLst aNilE) aNilE)))
  (sSeq (sFor (itRange3 (aConsE (eBin gSub (eVar 0) (eC (.int 1))) (aConsE (eC (.int 0)) (aConsE (eNeg (eC (.int 1))) aNilE)))) (aName 2) (sSeq (sSet 1 (eBin gAdd (eVar 1) (eComp (itSeq (eVar 1)) (aName 3) cYes (eBin gAdd (eVar 3) (eLst (aConsE (eVar 2) aNilE))) [3])))
  sNil))
  (sSeq (sRet (eVar 1))
  sNil)))
def S__law_subsets (K : PySem.W.Frag) : List D → Sto → R (D × Nat) := noX (defT 3 1 (B__law_subsets K))
def B_law (K : PySem.W.Frag) : EvS := (sSeq (sSet 1 (eComp (itSeq (eCall (S__law_subsets K) (aConsE (eC (.int 9)) aNilE))) (aName 2) cYes (eTup (aConsE (eVar 2) (aConsE (eCall (S__law_cols K) (aConsE (eCall (S__law_broken K) (aConsE (eVar 2) (aConsE (eC (.int 80)) aNilE))) aNilE)) aNilE))) [2]))
  (sSeq (sFor (itRange (aConsE (eCB nMax2 (aConsE (eC (.int 1)) (aConsE (eCB nMin2 (aConsE (eCB nLen (aConsE (eVar 0) aNilE)) (aConsE (eC (.int 3)) aNilE))) aNilE))) aNilE)) (aName 3) (sSeq (sSet 4 (eThaw (eCall (S__law_bag K) (aConsE (eVar 0) (aConsE (eVar 3) aNilE)))))
  (sSeq (sFor (itRange (aConsE (eC (.int 3)) aNilE)) (aName 5) (sSeq (sSet 2 (eCall (S__law_chain K) (aConsE (eVar 4) (aConsE (eC (.int 6)) (aConsE (eC (.int 8)) aNilE)))))
  (sSeq (sSet 6 (eCall (S__law_cols K) (aConsE (eCall (S__law_broken K) (aConsE (eVar 2) (aConsE (eC (.int 80)) aNilE))) aNilE)))
  (sSeq (sSet 7 (eComp (itSeq (eVar 1)) (aTup 2 (aCons (aName 8) (aCons (aName 9) aNil))) (tst (eBin (gEq false) (eVar 9) (eVar 6))) (eVar 8) [8, 9]))
  (sSeq (sSet 10 (eCall (S_normal_form K) (aConsE (eVar 2) aNilE)))
  (sSeq (sIf (tOrS (tst (eBin (gIn2 true) (eVar 10) (eVar 7))) (tst (eBin (gEq true) (eCB nMinL (aConsE (eComp (itSeq (eVar 7)) (aName 8) cYes (eCB nLen (aConsE (eVar 8) aNilE)) [8]) aNilE)) (eCB nLen (aConsE (eVar 10) aNilE))))) (sSeq (sRet (eC (.bl false)))
  sNil) sNil)
  (sSeq (sFor (itSeq (eVar 7)) (aName 8) (sSeq (sIf (tOrS (tNotS (tru (eCall (S_are_equal K) (aConsE (eVar 2) (aConsE (eVar 8) aNilE))))) (tst (eBin (gEq true) (eCall (S_normal_form K) (aConsE (eVar 8) aNilE)) (eVar 10)))) (sSeq (sRet (eC (.bl false)))
  sNil) sNil)
  sNil))
  sNil)))))))
  sNil)))
  (sSeq (sRet (eC (.bl true)))
  sNil)))
def S_law (K : PySem.W.Frag) : List D → Sto → R (D × Nat) := noX (defT 10 1 (B_law K))
end
section
variable {P : Program} {w : World} {K : PySem.W.Frag} {mg : Str → Option Value} {base : Heap}
abbrev KB_is_integer_in : List (List Str × List Nat) := []
abbrev KB_is_widths : List (List Str × List Nat) := []
abbrev KB_check_widths : List (List Str × List Nat) := []
abbrev KB__repeated : List (List Str × List Nat) := []
abbrev KB_first_columns : List (List Str × List Nat) := []
abbrev KB_first_mismatch : List (List Str × List Nat) := []
abbrev KB_least_periods : List (List Str × List Nat) := []
abbrev KB_telling_columns : List (List Str × List Nat) := []
abbrev KB_descent_of : List (List Str × List Nat) := []
abbrev KB_normal_form : List (List Str × List Nat) := []
abbrev KB_first_difference : List (List Str × List Nat) := []
abbrev KB_are_equal : List (List Str × List Nat) := []
abbrev KB__law_bag : List (List Str × List Nat) := []
abbrev KB__law_take : List (List Str × List Nat) := []
abbrev KB__law_chain : List (List Str × List Nat) := []
abbrev KB__law_broken : List (List Str × List Nat) := []
abbrev KB__law_cols : List (List Str × List Nat) := []
abbrev KB__law_subsets : List (List Str × List Nat) := []
abbrev KB_law : List (List Str × List Nat) := []
set_option maxHeartbeats 4000000 in
theorem ok_is_integer_in {f : Addr} {fd : FuncData} (F : Fun K "is_integer_in" "is_integer_in" T_is_integer_in f fd) (z_bool : mg "bool" = none) (z_int : mg "int" = none) (z_isinstance : mg "isinstance" = none) : FnG P w K mg base CX0 1 f fd ["value", "least", "greatest"] (spD K 3 (S_is_integer_in K)) :=
  okD F sc_is_integer_in (by decide) fun cdv A outer s H E ad hr hgd =>
  (sim_cons (sim_if (PW.pt (swp_or (sim_tru (sim_callB c_isi (by rfl) z_isinstance (by decide +kernel) (sim_acons (sim_var 0) (sim_acons (sim_ty (by rfl) z_bool (by decide +kernel)) sim_anil)))) (swp_or1 (sim_tnot (sim_tru (sim_callB c_isi (by rfl) z_isinstance (by decide +kernel) (sim_acons (sim_var 0) (sim_acons (sim_ty (by rfl) z_int (by decide +kernel)) sim_anil)))))))) (sim_cons (sim_ret sim_bl)
  sim_nil) sim_nil)
  (sim_cons (sim_ret (sim_pchain o_le o_le (sim_var 1) (sim_var 0) (sim_var 2)))
  sim_nil))
set_option maxHeartbeats 4000000 in
theorem ok_is_widths {f : Addr} {fd : FuncData} (F : Fun K "is_widths" "is_widths" T_is_widths f fd) (G_is_integer_in : CalD P w K mg base CX0 1 "is_integer_in" 3 (S_is_integer_in K) KB_is_integer_in) (z_all : mg "all" = none) (z_isinstance : mg "isinstance" = none) (z_list : mg "list" = none) (c_WIDEST : ∃ t, mg "WIDEST" = some (.int 10000 t)) : FnG P w K mg base CX0 2 f fd ["value"] (spD K 1 (S_is_widths K)) :=
  okD F sc_is_widths (by decide) fun cdv A outer s H E ad hr hgd =>
  (sim_cons (sim_if (sim_tnot (sim_tru (sim_callB c_isi (by rfl) z_isinstance (by decide +kernel) (sim_acons (sim_var 0) (sim_acons (sim_ty (by rfl) z_list (by decide +kernel)) sim_anil))))) (sim_cons (sim_ret sim_bl)
  sim_nil) sim_nil)
  (sim_cons (sim_ret (sim_callB (c_all rfl) (by rfl) z_all (by decide +kernel) (sim_acons (sim_lc (own := [("width", 1)]) rfl sc_is_widths.nd (sim_iseq (sim_var 0)) (blkOk_by (N := ["value", "width"]) (sc := defScope T_is_widths) (by decide +kernel)) (fun _ _ _ _ _ => (pg_name (i := 1) sc_is_widths.nd rfl (by first | exact Or.inl rfl | exact Or.inr rfl) (by first | exact .inl rfl | exact .inr rfl))) gsim_name (by decide) (fun _ _ _ _ _ => sim_ptsnil) (fun _ _ _ _ _ => (sim_call G_is_integer_in (hr.mono (by decide)) hgd (by rfl) (fun _ => pass_nox0) (sim_acons (sim_var 1) (sim_acons sim_int (sim_acons (sim_globI (by rfl) c_WIDEST.choose_spec) sim_anil)))))) sim_anil)))
  sim_nil))
set_option maxHeartbeats 4000000 in
theorem ok_check_widths {f : Addr} {fd : FuncData} (F : Fun K "check_widths" "check_widths" T_check_widths f fd) (G_is_widths : CalD P w K mg base CX0 2 "is_widths" 1 (S_is_widths K) KB_is_widths) : FnG P w K mg base CX0 3 f fd ["value"] (spD K 1 (S_check_widths K)) :=
  okD F sc_check_widths (by decide) fun cdv A outer s H E ad hr hgd =>
  (sim_cons (sim_if (sim_tnot (sim_tru (sim_call G_is_widths (hr.mono (by decide)) hgd (by rfl) (fun _ => pass_nox0) (sim_acons (sim_var 0) sim_anil)))) (sim_cons sim_never
  sim_nil) sim_nil)
  sim_nil)
set_option maxHeartbeats 4000000 in
theorem ok__repeated {f : Addr} {fd : FuncData} (F : Fun K "_repeated" "_repeated" T__repeated f fd) (z_len : mg "len" = none) : FnG P w K mg base CX0 1 f fd ["items", "length"] (spD K 2 (S__repeated K)) :=
  okD F sc__repeated (by decide) fun cdv A outer s H E ad hr hgd =>
  (sim_cons (sim_set (i := 2) sc__repeated.nd rfl (by first | exact Or.inl rfl | exact Or.inr rfl) (sim_bin o_add (sim_bin o_div (sim_var 1) (sim_callB c_len (by rfl) z_len (by decide +kernel) (sim_acons (sim_var 0) sim_anil))) sim_int))
  (sim_cons (sim_ret (sim_slice (sim_bin o_mul (sim_var 0) (sim_var 2)) sim_ono (sim_osome (sim_var 1))))
  sim_nil))
set_option maxHeartbeats 4000000 in
theorem ok_first_columns {f : Addr} {fd : FuncData} (F : Fun K "first_columns" "first_columns" T_first_columns f fd) (G__repeated : CalD P w K mg base CX0 1 "_repeated" 2 (S__repeated K) KB__repeated) (z_list : mg "list" = none) (z_range : mg "range" = none) (z_reversed : mg "reversed" = none) : FnG P w K mg base CX0 2 f fd ["widths", "length"] (spD K 2 (S_first_columns K)) :=
  okD F sc_first_columns (by decide) fun cdv A outer s H E ad hr hgd =>
  (sim_cons (sim_set (i := 2) sc_first_columns.nd rfl (by first | exact Or.inl rfl | exact Or.inr rfl) (sim_lst sim_anil))
  (sim_cons (sim_for PassesOwn.never rfl (sim_irev (by rfl) z_reversed (sim_acons (sim_bin o_add (sim_lst (sim_acons (sim_var 1) sim_anil)) (sim_var 0)) sim_anil)) (pg_name (i := 3) sc_first_columns.nd rfl (by first | exact Or.inl rfl | exact Or.inr rfl) (by first | exact .inl rfl | exact .inr rfl)) gsim_name (sim_cons (sim_set (i := 2) sc_first_columns.nd rfl (by first | exact Or.inl rfl | exact Or.inr rfl) (sim_ifE (sim_tru (sim_var 2)) (sim_call G__repeated (hr.mono (by decide)) hgd (by rfl) (fun _ => pass_nox0) (sim_acons (sim_var 2) (sim_acons (sim_var 3) sim_anil))) (sim_listRg1 rfl (by rfl) z_list (by rfl) z_range (sim_var 3))))
  sim_nil))
  (sim_cons (sim_ret (sim_var 2))
  sim_nil)))
set_option maxHeartbeats 4000000 in
theorem ok_first_mismatch {f : Addr} {fd : FuncData} (F : Fun K "first_mismatch" "first_mismatch" T_first_mismatch f fd) (z_enumerate : mg "enumerate" = none) (z_zip : mg "zip" = none) : FnG P w K mg base CX0 1 f fd ["left", "right"] (spD K 2 (S_first_mismatch K)) :=
  okD F sc_first_mismatch (by decide) fun cdv A outer s H E ad hr hgd =>
  (sim_cons (sim_for PassesOwn.never rfl (sim_ienumzip (by rfl) z_enumerate (by rfl) z_zip (sim_acons (sim_var 0) (sim_acons (sim_var 1) sim_anil))) (pg_tup rfl (pgs_cons (pg_name (i := 2) sc_first_mismatch.nd rfl (by first | exact Or.inl rfl | exact Or.inr rfl) (by first | exact .inl rfl | exact .inr rfl)) (pgs_cons (pg_tup rfl (pgs_cons (pg_name (i := 3) sc_first_mismatch.nd rfl (by first | exact Or.inl rfl | exact Or.inr rfl) (by first | exact .inl rfl | exact .inr rfl)) (pgs_cons (pg_name (i := 4) sc_first_mismatch.nd rfl (by first | exact Or.inl rfl | exact Or.inr rfl) (by first | exact .inl rfl | exact .inr rfl)) pgs_nil))) pgs_nil))) (gsim_tup (gsim_cons gsim_name (gsim_cons (gsim_tup (gsim_cons gsim_name (gsim_cons gsim_name gsim_nil))) gsim_nil))) (sim_cons (sim_if (sim_tcmp (o_ne (Nat.lt_of_lt_of_le hr.units (Nat.le_refl _))) (sim_var 3) (sim_var 4)) (sim_cons (sim_ret (sim_var 2))
  sim_nil) sim_nil)
  sim_nil))
  (sim_cons (sim_ret sim_non)
  sim_nil))
set_option maxHeartbeats 4000000 in
theorem ok_least_periods {f : Addr} {fd : FuncData} (F : Fun K "least_periods" "least_periods" T_least_periods f fd) (z_enumerate : mg "enumerate" = none) (z_len : mg "len" = none) (z_range : mg "range" = none) : FnG P w K mg base CX0 1 f fd ["columns"] (spD K 1 (S_least_periods K)) :=
  okD F sc_least_periods (by decide) fun cdv A outer s H E ad hr hgd =>
  (sim_cons (sim_set (i := 1) sc_least_periods.nd rfl (by first | exact Or.inl rfl | exact Or.inr rfl) (sim_lstH (sim_acons sim_int (sim_acons sim_int sim_anil))))
  (sim_cons (sim_set (i := 2) sc_least_periods.nd rfl (by first | exact Or.inl rfl | exact Or.inr rfl) sim_int)
  (sim_cons (sim_for PassesOwn.never rfl (sim_irange2 (by rfl) z_range (sim_acons sim_int (sim_acons (sim_callB c_len (by rfl) z_len (by decide +kernel) (sim_acons (sim_var 0) sim_anil)) sim_anil))) (pg_name (i := 3) sc_least_periods.nd rfl (by first | exact Or.inl rfl | exact Or.inr rfl) (by first | exact .inl rfl | exact .inr rfl)) gsim_name (sim_cons (sim_while PassesOwn.never (PW.pt (swp_and (sim_tcmp o_gt (sim_var 2) sim_int) (swp_and1 (sim_tcmp (o_ne (Nat.lt_of_lt_of_le hr.units (Nat.le_refl _))) (sim_ix (sim_var 0) (sim_var 3)) (sim_ix (sim_var 0) (sim_var 2)))))) (sim_cons (sim_set (i := 2) sc_least_periods.nd rfl (by first | exact Or.inl rfl | exact Or.inr rfl) (sim_ix (sim_var 1) (sim_var 2)))
  sim_nil))
  (sim_cons (sim_if (sim_tcmp (o_eq (Nat.lt_of_lt_of_le hr.units (Nat.le_refl _))) (sim_ix (sim_var 0) (sim_var 3)) (sim_ix (sim_var 0) (sim_var 2))) (sim_cons (sim_aug o_iaddI sc_least_periods.nd rfl (by first | exact Or.inl rfl | exact Or.inr rfl) sim_int)
  sim_nil) sim_nil)
  (sim_cons (sim_expr (sim_mut m_append PySem.F.slot_list_append PySem.F.type_list_append (sim_var 1) (sim_acons (sim_var 2) sim_anil)))
  sim_nil))))
  (sim_cons (sim_ret (sim_lc (own := [("length", 4), ("border", 2)]) rfl sc_least_periods.nd (sim_ienum (by rfl) z_enumerate (sim_acons (sim_var 1) sim_anil)) (blkOk_by (N := ["columns", "borders", "border", "at", "length"]) (sc := defScope T_least_periods) (by decide +kernel)) (fun _ _ _ _ _ => (pg_tup rfl (pgs_cons (pg_name (i := 4) sc_least_periods.nd rfl (by first | exact Or.inl rfl | exact Or.inr rfl) (by first | exact .inl rfl | exact .inr rfl)) (pgs_cons (pg_name (i := 2) sc_least_periods.nd rfl (by first | exact Or.inl rfl | exact Or.inr rfl) (by first | exact .inl rfl | exact .inr rfl)) pgs_nil)))) (gsim_tup (gsim_cons gsim_name (gsim_cons gsim_name gsim_nil))) (by decide) (fun _ _ _ _ _ => sim_ptsnil) (fun _ _ _ _ _ => (sim_bin o_sub (sim_var 4) (sim_var 2)))))
  sim_nil))))
set_option maxHeartbeats 4000000 in
theorem ok_telling_columns {f : Addr} {fd : FuncData} (F : Fun K "telling_columns" "telling_columns" T_telling_columns f fd) (G_first_columns : CalD P w K mg base CX0 2 "first_columns" 2 (S_first_columns K) KB_first_columns) (z_min : mg "min" = none) : FnG P w K mg base CX0 3 f fd ["widths", "length"] (spD K 2 (S_telling_columns K)) :=
  okD F sc_telling_columns (by decide) fun cdv A outer s H E ad hr hgd =>
  (sim_cons (sim_ret (sim_call G_first_columns (hr.mono (by decide)) hgd (by rfl) (fun _ => pass_nox0) (sim_acons (sim_var 0) (sim_acons (sim_callB (c_min2 rfl) (by rfl) z_min (by decide +kernel) (sim_acons (sim_var 1) (sim_acons (sim_bin o_mul sim_int (sim_ix (sim_var 0) sim_int)) sim_anil))) sim_anil))))
  sim_nil)
set_option maxHeartbeats 4000000 in
theorem ok_descent_of {f : Addr} {fd : FuncData} (F : Fun K "descent_of" "descent_of" T_descent_of f fd) (G_least_periods : CalD P w K mg base CX0 1 "least_periods" 1 (S_least_periods K) KB_least_periods) (z_len : mg "len" = none) : FnG P w K mg base CX0 2 f fd ["columns"] (spD K 1 (S_descent_of K)) :=
  okD F sc_descent_of (by decide) fun cdv A outer s H E ad hr hgd =>
  (sim_cons (sim_set (i := 1) sc_descent_of.nd rfl (by first | exact Or.inl rfl | exact Or.inr rfl) (sim_call G_least_periods (hr.mono (by decide)) hgd (by rfl) (fun _ => pass_nox0) (sim_acons (sim_var 0) sim_anil)))
  (sim_cons (sim_set (i := 2) sc_descent_of.nd rfl (by first | exact Or.inl rfl | exact Or.inr rfl) (sim_lstH sim_anil))
  (sim_cons (sim_set (i := 3) sc_descent_of.nd rfl (by first | exact Or.inl rfl | exact Or.inr rfl) (sim_callB c_len (by rfl) z_len (by decide +kernel) (sim_acons (sim_var 0) sim_anil)))
  (sim_cons (sim_while PassesOwn.never (sim_tcmp o_lt (sim_ix (sim_var 1) (sim_var 3)) (sim_var 3)) (sim_cons (sim_set (i := 3) sc_descent_of.nd rfl (by first | exact Or.inl rfl | exact Or.inr rfl) (sim_ix (sim_var 1) (sim_var 3)))
  (sim_cons (sim_expr (sim_mut m_append PySem.F.slot_list_append PySem.F.type_list_append (sim_var 2) (sim_acons (sim_var 3) sim_anil)))
  sim_nil)))
  (sim_cons (sim_ret (sim_var 2))
  sim_nil)))))
set_option maxHeartbeats 4000000 in
theorem ok_normal_form {f : Addr} {fd : FuncData} (F : Fun K "normal_form" "normal_form" T_normal_form f fd) (G_check_widths : CalD P w K mg base CX0 3 "check_widths" 1 (S_check_widths K) KB_check_widths) (G_descent_of : CalD P w K mg base CX0 2 "descent_of" 1 (S_descent_of K) KB_descent_of) (G_telling_columns : CalD P w K mg base CX0 3 "telling_columns" 2 (S_telling_columns K) KB_telling_columns) : FnG P w K mg base CX0 4 f fd ["widths"] (spD K 1 (S_normal_form K)) :=
  okD F sc_normal_form (by decide) fun cdv A outer s H E ad hr hgd =>
  (sim_cons (sim_expr (sim_call G_check_widths (hr.mono (by decide)) hgd (by rfl) (fun _ => pass_nox0) (sim_acons (sim_var 0) sim_anil)))
  (sim_cons (sim_if (sim_tnot (sim_tru (sim_var 0))) (sim_cons (sim_ret (sim_lst sim_anil))
  sim_nil) sim_nil)
  (sim_cons (sim_ret (sim_call G_descent_of (hr.mono (by decide)) hgd (by rfl) (fun _ => pass_nox0) (sim_acons (sim_call G_telling_columns (hr.mono (by decide)) hgd (by rfl) (fun _ => pass_nox0) (sim_acons (sim_var 0) (sim_acons (sim_bin o_mul sim_int (sim_ix (sim_var 0) sim_int)) sim_anil))) sim_anil)))
  sim_nil)))
set_option maxHeartbeats 4000000 in
theorem ok_first_difference {f : Addr} {fd : FuncData} (F : Fun K "first_difference" "first_difference" T_first_difference f fd) (G_check_widths : CalD P w K mg base CX0 3 "check_widths" 1 (S_check_widths K) KB_check_widths) (G_first_columns : CalD P w K mg base CX0 2 "first_columns" 2 (S_first_columns K) KB_first_columns) (G_first_mismatch : CalD P w K mg base CX0 1 "first_mismatch" 2 (S_first_mismatch K) KB_first_mismatch) (z_sum : mg "sum" = none) : FnG P w K mg base CX0 4 f fd ["widths", "other"] (spD K 2 (S_first_difference K)) :=
  okD F sc_first_difference (by decide) fun cdv A outer s H E ad hr hgd =>
  (sim_cons (sim_expr (sim_call G_check_widths (hr.mono (by decide)) hgd (by rfl) (fun _ => pass_nox0) (sim_acons (sim_var 0) sim_anil)))
  (sim_cons (sim_expr (sim_call G_check_widths (hr.mono (by decide)) hgd (by rfl) (fun _ => pass_nox0) (sim_acons (sim_var 1) sim_anil)))
  (sim_cons (sim_set (i := 2) sc_first_difference.nd rfl (by first | exact Or.inl rfl | exact Or.inr rfl) (sim_bin o_add (sim_bin o_add (sim_callB (c_sum (cr_sum rfl)) (by rfl) z_sum (by decide +kernel) (sim_acons (sim_slice (sim_var 0) sim_ono (sim_osome sim_int)) sim_anil)) (sim_callB (c_sum (cr_sum rfl)) (by rfl) z_sum (by decide +kernel) (sim_acons (sim_slice (sim_var 1) sim_ono (sim_osome sim_int)) sim_anil))) sim_int))
  (sim_cons (sim_ret (sim_call G_first_mismatch (hr.mono (by decide)) hgd (by rfl) (fun _ => pass_nox0) (sim_acons (sim_call G_first_columns (hr.mono (by decide)) hgd (by rfl) (fun _ => pass_nox0) (sim_acons (sim_var 0) (sim_acons (sim_var 2) sim_anil))) (sim_acons (sim_call G_first_columns (hr.mono (by decide)) hgd (by rfl) (fun _ => pass_nox0) (sim_acons (sim_var 1) (sim_acons (sim_var 2) sim_anil))) sim_anil))))
  sim_nil))))
set_option maxHeartbeats 4000000 in
theorem ok_are_equal {f : Addr} {fd : FuncData} (F : Fun K "are_equal" "are_equal" T_are_equal f fd) (G_first_difference : CalD P w K mg base CX0 4 "first_difference" 2 (S_first_difference K) KB_first_difference) : FnG P w K mg base CX0 5 f fd ["widths", "other"] (spD K 2 (S_are_equal K)) :=
  okD F sc_are_equal (by decide) fun cdv A outer s H E ad hr hgd =>
  (sim_cons (sim_ret (sim_cmp o_is (sim_call G_first_difference (hr.mono (by decide)) hgd (by rfl) (fun _ => pass_nox0) (sim_acons (sim_var 0) (sim_acons (sim_var 1) sim_anil))) sim_non))
  sim_nil)
set_option maxHeartbeats 4000000 in
theorem ok__law_bag {f : Addr} {fd : FuncData} (F : Fun K "_law_bag" "_law_bag" T__law_bag f fd) (z_abs : mg "abs" = none) (z_len : mg "len" = none) (z_max : mg "max" = none) : FnG P w K mg base CX0 1 f fd ["script", "k"] (spD K 2 (S__law_bag K)) :=
  okD F sc__law_bag (by decide) fun cdv A outer s H E ad hr hgd =>
  (sim_cons (sim_set (i := 2) sc__law_bag.nd rfl (by first | exact Or.inl rfl | exact Or.inr rfl) (sim_ifE (sim_tcmp o_lt (sim_var 1) (sim_callB c_len (by rfl) z_len (by decide +kernel) (sim_acons (sim_var 0) sim_anil))) (sim_ix (sim_var 0) (sim_var 1)) sim_int))
  (sim_cons (sim_ret (sim_lst (sim_acons (sim_callB (c_max2 rfl) (by rfl) z_max (by decide +kernel) (sim_acons sim_int (sim_acons (sim_bin o_sub (sim_callB c_abs (by rfl) z_abs (by decide +kernel) (sim_acons (sim_var 2) sim_anil)) (sim_bin o_pow sim_int sim_int)) sim_anil))) (sim_acons (sim_bin o_add (sim_bin o_mod (sim_var 2) (sim_bin o_add (sim_bin o_pow sim_int sim_int) sim_int)) (sim_bin o_mul sim_int (sim_var 1))) (sim_acons sim_int sim_anil)))))
  sim_nil))
set_option maxHeartbeats 4000000 in
theorem ok__law_take {f : Addr} {fd : FuncData} (F : Fun K "_law_take" "_law_take" T__law_take f fd)  : FnG P w K mg base CX0 1 f fd ["bag", "many"] (spD K 2 (S__law_take K)) :=
  okD F sc__law_take (by decide) fun cdv A outer s H E ad hr hgd =>
  (sim_cons (sim_if (sim_tcmp o_gt (sim_ix (sim_var 0) sim_int) sim_int) (sim_cons (sim_set (i := 2) sc__law_take.nd rfl (by first | exact Or.inl rfl | exact Or.inr rfl) (sim_bin o_mod (sim_ix (sim_var 0) sim_int) (sim_var 1)))
  (sim_cons (sim_setIx (sim_bin o_div (sim_ix (sim_var 0) sim_int) (sim_var 1)) (sim_var 0) sim_int)
  (sim_cons (sim_ret (sim_var 2))
  sim_nil))) sim_nil)
  (sim_cons (sim_setIx (sim_bin o_add (sim_ix (sim_var 0) sim_int) sim_int) (sim_var 0) sim_int)
  (sim_cons (sim_set (i := 3) sc__law_take.nd rfl (by first | exact Or.inl rfl | exact Or.inr rfl) (sim_bin o_mod (sim_bin o_pow (sim_bin o_add (sim_ix (sim_var 0) sim_int) (sim_bin o_mul sim_int (sim_ix (sim_var 0) sim_int))) sim_int) (sim_bin o_add (sim_bin o_pow sim_int sim_int) sim_int)))
  (sim_cons (sim_set (i := 3) sc__law_take.nd rfl (by first | exact Or.inl rfl | exact Or.inr rfl) (sim_bin o_mod (sim_bin o_pow (sim_bin o_add (sim_var 3) (sim_bin o_mul sim_int (sim_ix (sim_var 0) sim_int))) sim_int) (sim_bin o_add (sim_bin o_pow sim_int sim_int) sim_int)))
  (sim_cons (sim_ret (sim_bin o_mod (sim_bin o_div (sim_var 3) sim_int) (sim_var 1)))
  sim_nil)))))
set_option maxHeartbeats 4000000 in
theorem ok__law_chain {f : Addr} {fd : FuncData} (F : Fun K "_law_chain" "_law_chain" T__law_chain f fd) (G__law_take : CalD P w K mg base CX0 1 "_law_take" 2 (S__law_take K) KB__law_take) (z_max : mg "max" = none) (z_min : mg "min" = none) (z_range : mg "range" = none) : FnG P w K mg base CX0 2 f fd ["bag", "most", "top"] (spD K 3 (S__law_chain K)) :=
  okD F sc__law_chain (by decide) fun cdv A outer s H E ad hr hgd =>
  (sim_cons (sim_par (i := 3) (j := 4) rfl sc__law_chain.nd rfl rfl (by decide) rfl rfl (sim_acons (sim_lstH sim_anil) (sim_acons (sim_call G__law_take (hr.mono (by decide)) hgd (by rfl) (fun _ => pass_nox0) (sim_acons (sim_var 0) (sim_acons sim_int sim_anil))) sim_anil)) (by rfl))
  (sim_cons (sim_for PassesOwn.never rfl (sim_irange (by rfl) z_range (sim_acons (sim_call G__law_take (hr.mono (by decide)) hgd (by rfl) (fun _ => pass_nox0) (sim_acons (sim_var 0) (sim_acons (sim_bin o_add (sim_var 1) sim_int) sim_anil))) sim_anil)) (pg_name (i := 5) sc__law_chain.nd rfl (by first | exact Or.inl rfl | exact Or.inr rfl) (by first | exact .inl rfl | exact .inr rfl)) gsim_name (sim_cons (sim_set (i := 6) sc__law_chain.nd rfl (by first | exact Or.inl rfl | exact Or.inr rfl) (sim_ifE (sim_tcmp (o_ne (Nat.lt_of_lt_of_le hr.units (Nat.le_refl _))) (sim_var 3) (sim_lst sim_anil)) (sim_ix (sim_var 3) (sim_neg sim_int)) (sim_var 2)))
  (sim_cons (sim_set (i := 7) sc__law_chain.nd rfl (by first | exact Or.inl rfl | exact Or.inr rfl) (sim_bin o_add sim_int (sim_call G__law_take (hr.mono (by decide)) hgd (by rfl) (fun _ => pass_nox0) (sim_acons (sim_var 0) (sim_acons (sim_var 6) sim_anil)))))
  (sim_cons (sim_set (i := 8) sc__law_chain.nd rfl (by first | exact Or.inl rfl | exact Or.inr rfl) (sim_bin o_sub (sim_bin o_add (sim_bin o_div (sim_var 6) (sim_bin o_add sim_int (sim_call G__law_take (hr.mono (by decide)) hgd (by rfl) (fun _ => pass_nox0) (sim_acons (sim_var 0) (sim_acons sim_int sim_anil))))) (sim_call G__law_take (hr.mono (by decide)) hgd (by rfl) (fun _ => pass_nox0) (sim_acons (sim_var 0) (sim_acons sim_int sim_anil)))) sim_int))
  (sim_cons (sim_expr (sim_mut m_append PySem.F.slot_list_append PySem.F.type_list_append (sim_var 3) (sim_acons (sim_ix (sim_lst (sim_acons (sim_bin o_add sim_int (sim_call G__law_take (hr.mono (by decide)) hgd (by rfl) (fun _ => pass_nox0) (sim_acons (sim_var 0) (sim_acons (sim_var 2) sim_anil)))) (sim_acons (sim_var 7) (sim_acons (sim_callB (c_min2 rfl) (by rfl) z_min (by decide +kernel) (sim_acons (sim_var 2) (sim_acons (sim_callB (c_max2 rfl) (by rfl) z_max (by decide +kernel) (sim_acons sim_int (sim_acons (sim_var 8) sim_anil))) sim_anil))) (sim_acons (sim_var 7) sim_anil))))) (sim_var 4)) sim_anil)))
  sim_nil)))))
  (sim_cons (sim_ret (sim_var 3))
  sim_nil)))
set_option maxHeartbeats 4000000 in
theorem ok__law_broken {f : Addr} {fd : FuncData} (F : Fun K "_law_broken" "_law_broken" T__law_broken f fd) (z_divmod : mg "divmod" = none) (z_int : mg "int" = none) : FnG P w K mg base CX0 1 f fd ["chain", "span"] (spD K 2 (S__law_broken K)) :=
  okD F sc__law_broken (by decide) fun cdv A outer s H E ad hr hgd =>
  (sim_cons (sim_set (i := 2) sc__law_broken.nd rfl (by first | exact Or.inl rfl | exact Or.inr rfl) (sim_bin o_mul (sim_lst (sim_acons (sim_var 1) sim_anil)) (sim_callTy c_int (by rfl) z_int (by decide +kernel) (sim_acons (sim_cmp o_gt (sim_var 1) sim_int) sim_anil))))
  (sim_cons (sim_for PassesOwn.never rfl (sim_iseq (sim_var 0)) (pg_name (i := 3) sc__law_broken.nd rfl (by first | exact Or.inl rfl | exact Or.inr rfl) (by first | exact .inl rfl | exact .inr rfl)) gsim_name (sim_cons (sim_set (i := 4) sc__law_broken.nd rfl (by first | exact Or.inl rfl | exact Or.inr rfl) (sim_lstH sim_anil))
  (sim_cons (sim_for PassesOwn.never rfl (sim_iseq (sim_var 2)) (pg_name (i := 5) sc__law_broken.nd rfl (by first | exact Or.inl rfl | exact Or.inr rfl) (by first | exact .inl rfl | exact .inr rfl)) gsim_name (sim_cons (sim_asg (sim_callB c_divmod (by rfl) z_divmod (by decide +kernel) (sim_acons (sim_var 5) (sim_acons (sim_var 3) sim_anil))) (pg_tup rfl (pgs_cons (pg_name (i := 6) sc__law_broken.nd rfl (by first | exact Or.inl rfl | exact Or.inr rfl) (by first | exact .inl rfl | exact .inr rfl)) (pgs_cons (pg_name (i := 7) sc__law_broken.nd rfl (by first | exact Or.inl rfl | exact Or.inr rfl) (by first | exact .inl rfl | exact .inr rfl)) pgs_nil))) (gsim_tup (gsim_cons gsim_name (gsim_cons gsim_name gsim_nil))))
  (sim_cons (sim_expr (sim_mut m_extend PySem.F.slot_list_extend PySem.F.type_list_extend (sim_var 4) (sim_acons (sim_bin o_add (sim_bin o_mul (sim_lst (sim_acons (sim_var 3) sim_anil)) (sim_var 6)) (sim_bin o_mul (sim_lst (sim_acons (sim_var 7) sim_anil)) (sim_callTy c_int (by rfl) z_int (by decide +kernel) (sim_acons (sim_cmp o_gt (sim_var 7) sim_int) sim_anil)))) sim_anil)))
  sim_nil)))
  (sim_cons (sim_set (i := 2) sc__law_broken.nd rfl (by first | exact Or.inl rfl | exact Or.inr rfl) (sim_var 4))
  sim_nil))))
  (sim_cons (sim_ret (sim_var 2))
  sim_nil)))
set_option maxHeartbeats 4000000 in
theorem ok__law_cols {f : Addr} {fd : FuncData} (F : Fun K "_law_cols" "_law_cols" T__law_cols f fd) (z_list : mg "list" = none) (z_range : mg "range" = none) : FnG P w K mg base CX0 1 f fd ["sizes"] (spD K 1 (S__law_cols K)) :=
  okD F sc__law_cols (by decide) fun cdv A outer s H E ad hr hgd =>
  (sim_cons (sim_set (i := 1) sc__law_cols.nd rfl (by first | exact Or.inl rfl | exact Or.inr rfl) (sim_lstH sim_anil))
  (sim_cons (sim_for PassesOwn.never rfl (sim_iseq (sim_var 0)) (pg_name (i := 2) sc__law_cols.nd rfl (by first | exact Or.inl rfl | exact Or.inr rfl) (by first | exact .inl rfl | exact .inr rfl)) gsim_name (sim_cons (sim_expr (sim_mut m_extend PySem.F.slot_list_extend PySem.F.type_list_extend (sim_var 1) (sim_acons (sim_listRg1 rfl (by rfl) z_list (by rfl) z_range (sim_var 2)) sim_anil)))
  sim_nil))
  (sim_cons (sim_ret (sim_var 1))
  sim_nil)))
set_option maxHeartbeats 4000000 in
theorem ok__law_subsets {f : Addr} {fd : FuncData} (F : Fun K "_law_subsets" "_law_subsets" T__law_subsets f fd) (z_range : mg "range" = none) : FnG P w K mg base CX0 1 f fd ["top"] (spD K 1 (S__law_subsets K)) :=
  okD F sc__law_subsets (by decide) fun cdv A outer s H E ad hr hgd =>
  (sim_cons (sim_set (i := 1) sc__law_subsets.nd rfl (by first | exact Or.inl rfl | exact Or.inr rfl) (sim_lst (sim_acons (sim_lst sim_anil) sim_anil)))
  (sim_cons (sim_for PassesOwn.never rfl (sim_irange3 (by rfl) z_range (sim_acons (sim_bin o_sub (sim_var 0) sim_int) (sim_acons sim_int (sim_acons (sim_neg sim_int) sim_anil)))) (pg_name (i := 2) sc__law_subsets.nd rfl (by first | exact Or.inl rfl | exact Or.inr rfl) (by first | exact .inl rfl | exact .inr rfl)) gsim_name (sim_cons (sim_set (i := 1) sc__law_subsets.nd rfl (by first | exact Or.inl rfl | exact Or.inr rfl) (sim_bin o_add (sim_var 1) (sim_lc (own := [("chain", 3)]) rfl sc__law_subsets.nd (sim_iseq (sim_var 1)) (blkOk_by (N := ["top", "found", "width", "chain"]) (sc := defScope T__law_subsets) (by decide +kernel)) (fun _ _ _ _ _ => (pg_name (i := 3) sc__law_subsets.nd rfl (by first | exact Or.inl rfl | exact Or.inr rfl) (by first | exact .inl rfl | exact .inr rfl))) gsim_name (by decide) (fun _ _ _ _ _ => sim_ptsnil) (fun _ _ _ _ _ => (sim_bin o_add (sim_var 3) (sim_lst (sim_acons (sim_var 2) sim_anil)))))))
  sim_nil))
  (sim_cons (sim_ret (sim_var 1))
  sim_nil)))
set_option maxHeartbeats 4000000 in
theorem ok_law {f : Addr} {fd : FuncData} (F : Fun K "law" "law" T_law f fd) (G__law_bag : CalD P w K mg base CX0 1 "_law_bag" 2 (S__law_bag K) KB__law_bag) (G__law_broken : CalD P w K mg base CX0 1 "_law_broken" 2 (S__law_broken K) KB__law_broken) (G__law_chain : CalD P w K mg base CX0 2 "_law_chain" 3 (S__law_chain K) KB__law_chain) (G__law_cols : CalD P w K mg base CX0 1 "_law_cols" 1 (S__law_cols K) KB__law_cols) (G__law_subsets : CalD P w K mg base CX0 1 "_law_subsets" 1 (S__law_subsets K) KB__law_subsets) (G_are_equal : CalD P w K mg base CX0 5 "are_equal" 2 (S_are_equal K) KB_are_equal) (G_normal_form : CalD P w K mg base CX0 4 "normal_form" 1 (S_normal_form K) KB_normal_form) (z_len : mg "len" = none) (z_max : mg "max" = none) (z_min : mg "min" = none) (z_range : mg "range" = none) : FnG P w K mg base CX0 6 f fd ["script"] (spD K 1 (S_law K)) :=
  okD F sc_law (by decide) fun cdv A outer s H E ad hr hgd =>
  (sim_cons (sim_setLc (i := 1) (own := [("chain", 2)]) rfl sc_law.nd rfl rfl (sw_true rfl rfl rfl (by decide +kernel)) (sim_iseq (sim_call G__law_subsets (hr.mono (by decide)) hgd (by rfl) (fun _ => pass_nox0) (sim_acons sim_int sim_anil))) (blkOk_by (N := ["script", "every", "chain", "k", "bag", "turn", "values", "same", "one", "own", "told"]) (sc := defScope T_law) (by decide +kernel)) (fun _ _ _ _ _ => (pg_name (i := 2) sc_law.nd rfl (by first | exact Or.inl rfl | exact Or.inr rfl) (by first | exact .inl rfl | exact .inr rfl))) gsim_name (by decide) (fun _ _ _ _ _ => sim_ptsnil) (fun _ _ _ _ _ => (sim_tup (sim_acons (sim_var 2) (sim_acons (sim_call G__law_cols (hr.mono (by decide)) hgd (by rfl) (fun _ => pass_nox0) (sim_acons (sim_call G__law_broken (hr.mono (by decide)) hgd (by rfl) (fun _ => pass_nox0) (sim_acons (sim_var 2) (sim_acons sim_int sim_anil))) sim_anil)) sim_anil)))) (fun _ _ _ z => z))
  (sim_cons (sim_for PassesOwn.never rfl (sim_irange (by rfl) z_range (sim_acons (sim_callB (c_max2 rfl) (by rfl) z_max (by decide +kernel) (sim_acons sim_int (sim_acons (sim_callB (c_min2 rfl) (by rfl) z_min (by decide +kernel) (sim_acons (sim_callB c_len (by rfl) z_len (by decide +kernel) (sim_acons (sim_var 0) sim_anil)) (sim_acons sim_int sim_anil))) sim_anil))) sim_anil)) (pg_name (i := 3) sc_law.nd rfl (by first | exact Or.inl rfl | exact Or.inr rfl) (by first | exact .inl rfl | exact .inr rfl)) gsim_name (sim_cons (sim_set (i := 4) sc_law.nd rfl (by first | exact Or.inl rfl | exact Or.inr rfl) (sim_thaw (sim_call G__law_bag (hr.mono (by decide)) hgd (by rfl) (fun _ => pass_nox0) (sim_acons (sim_var 0) (sim_acons (sim_var 3) sim_anil)))))
  (sim_cons (sim_for PassesOwn.never rfl (sim_irange (by rfl) z_range (sim_acons sim_int sim_anil)) (pg_name (i := 5) sc_law.nd rfl (by first | exact Or.inl rfl | exact Or.inr rfl) (by first | exact .inl rfl | exact .inr rfl)) gsim_name (sim_cons (sim_set (i := 2) sc_law.nd rfl (by first | exact Or.inl rfl | exact Or.inr rfl) (sim_call G__law_chain (hr.mono (by decide)) hgd (by rfl) (fun _ => pass_nox0) (sim_acons (sim_var 4) (sim_acons sim_int (sim_acons sim_int sim_anil)))))
  (sim_cons (sim_set (i := 6) sc_law.nd rfl (by first | exact Or.inl rfl | exact Or.inr rfl) (sim_call G__law_cols (hr.mono (by decide)) hgd (by rfl) (fun _ => pass_nox0) (sim_acons (sim_call G__law_broken (hr.mono (by decide)) hgd (by rfl) (fun _ => pass_nox0) (sim_acons (sim_var 2) (sim_acons sim_int sim_anil))) sim_anil)))
  (sim_cons (sim_setLc (i := 7) (own := [("one", 8), ("own", 9)]) rfl sc_law.nd rfl rfl (sw_true rfl rfl rfl (by decide +kernel)) (sim_iseq (sim_var 1)) (blkOk_by (N := ["script", "every", "chain", "k", "bag", "turn", "values", "same", "one", "own", "told"]) (sc := defScope T_law) (by decide +kernel)) (fun _ _ _ _ _ => (pg_tup rfl (pgs_cons (pg_name (i := 8) sc_law.nd rfl (by first | exact Or.inl rfl | exact Or.inr rfl) (by first | exact .inl rfl | exact .inr rfl)) (pgs_cons (pg_name (i := 9) sc_law.nd rfl (by first | exact Or.inl rfl | exact Or.inr rfl) (by first | exact .inl rfl | exact .inr rfl)) pgs_nil)))) (gsim_tup (gsim_cons gsim_name (gsim_cons gsim_name gsim_nil))) (by decide) (fun _ _ _ _ _ => (sim_ptsone (sim_tcmp (o_eq (Nat.lt_of_lt_of_le hr.units (Nat.le_refl _))) (sim_var 9) (sim_var 6)))) (fun _ _ _ _ _ => (sim_var 8)) (fun _ _ _ z => z))
  (sim_cons (sim_set (i := 10) sc_law.nd rfl (by first | exact Or.inl rfl | exact Or.inr rfl) (sim_call G_normal_form (hr.mono (by decide)) hgd (by rfl) (fun _ => pass_nox0) (sim_acons (sim_var 2) sim_anil)))
  (sim_cons (sim_if (PW.pt (swp_or (sim_tcmp (o_notin2 (Room.units65 hr)) (sim_var 10) (sim_var 7)) (swp_or1 (sim_tcmp (o_ne (Nat.lt_of_lt_of_le hr.units (Nat.le_refl _))) (sim_callB (c_minL (cr_min rfl)) (by rfl) z_min (by decide +kernel) (sim_acons (sim_lc (own := [("one", 8)]) rfl sc_law.nd (sim_iseq (sim_var 7)) (blkOk_by (N := ["script", "every", "chain", "k", "bag", "turn", "values", "same", "one", "own", "told"]) (sc := defScope T_law) (by decide +kernel)) (fun _ _ _ _ _ => (pg_name (i := 8) sc_law.nd rfl (by first | exact Or.inl rfl | exact Or.inr rfl) (by first | exact .inl rfl | exact .inr rfl))) gsim_name (by decide) (fun _ _ _ _ _ => sim_ptsnil) (fun _ _ _ _ _ => (sim_callB c_len (by rfl) z_len (by decide +kernel) (sim_acons (sim_var 8) sim_anil)))) sim_anil)) (sim_callB c_len (by rfl) z_len (by decide +kernel) (sim_acons (sim_var 10) sim_anil)))))) (sim_cons (sim_ret sim_bl)
  sim_nil) sim_nil)
  (sim_cons (sim_for PassesOwn.never rfl (sim_iseq (sim_var 7)) (pg_name (i := 8) sc_law.nd rfl (by first | exact Or.inl rfl | exact Or.inr rfl) (by first | exact .inl rfl | exact .inr rfl)) gsim_name (sim_cons (sim_if (PW.pt (swp_or (sim_tnot (sim_tru (sim_call G_are_equal (hr.mono (by decide)) hgd (by rfl) (fun _ => pass_nox0) (sim_acons (sim_var 2) (sim_acons (sim_var 8) sim_anil))))) (swp_or1 (sim_tcmp (o_ne (Nat.lt_of_lt_of_le hr.units (Nat.le_refl _))) (sim_call G_normal_form (hr.mono (by decide)) hgd (by rfl) (fun _ => pass_nox0) (sim_acons (sim_var 8) sim_anil)) (sim_var 10))))) (sim_cons (sim_ret sim_bl)
  sim_nil) sim_nil)
  sim_nil))
  sim_nil)))))))
  sim_nil)))
  (sim_cons (sim_ret sim_bl)
  sim_nil)))
end
end My
set_option Elab.async false
set_option linter.all false
set_option maxRecDepth 100000
namespace My
open PySem PySem.Spec PyProof.Rows L2 FX Ma
open Classical
local macro_rules
  | `(tactic| sizeOf_list_dec) => `(tactic| repeat' (first | assumption | exact PC.nil | (with_reducible refine PC.app ?_ ?_) | (with_reducible refine PC.cons ?_ ?_) | (first | assumption | exact FX.pl_ints | exact FX.pl_nil)))
local macro_rules
  | `(tactic| array_get_dec) => `(tactic| first
  | (with_reducible refine FX.ws_seq ?_)
  | (with_reducible refine FX.wa_cons ?_)
  | (with_reducible refine FX.wa_nil ?_)
  | (focus ((with_reducible apply FX.we_var0); (focus (exact rfl))))
  | (focus ((with_reducible apply FX.we_var1); (focus (exact rfl))))
  | (with_reducible refine FX.we_C ?_)
  | (focus ((with_reducible apply FX.then_nx); (focus ((first | (simp only [List.set_cons_zero, List.set_cons_succ, decide_true, decide_false, Nat.reduceLeDiff, Nat.le_refl, Nat.not_succ_le_zero]; done) | (simp only [List.set_cons_zero, List.set_cons_succ, decide_true, decide_false, Nat.reduceLeDiff, Nat.le_refl, Nat.not_succ_le_zero]; rfl))))))
  | (with_reducible refine FX.then_0 ?_)
  | (with_reducible refine FX.then_ret ?_)
  | (with_reducible refine FX.then_brk ?_)
  | (with_reducible refine FX.then_cnt ?_)
  | (with_reducible refine FX.ws_set ?_)
  | (with_reducible refine FX.we_call ?_)
  | (with_reducible refine FX.we_callKq ?_)
  | (focus ((with_reducible apply FX.ckq); (focus exact rfl); (focus (simp only [List.filterMap_cons, List.filterMap_nil, List.getElem?_cons_zero, List.getElem?_cons_succ]; try rfl))))
  | (with_reducible refine FX.cq0 ?_)
  | (with_reducible refine FX.cq1 ?_)
  | (with_reducible refine FX.cq2 ?_)
  | (with_reducible refine FX.we_bin ?_)
  | (with_reducible refine FX.we_cb ?_)
  | (with_reducible refine FX.ws_if ?_)
  | (with_reducible refine FX.ws_nil ?_)
  | (with_reducible refine FX.ws_ret ?_)
  | (with_reducible refine FX.ws_expr ?_)
  | (with_reducible refine FX.ws_parq ?_)
  | (with_reducible refine FX.ws_asg2q ?_)
  | (with_reducible refine FX.tupk ?_)
  | (with_reducible refine FX.ws_augq ?_)
  | (focus ((with_reducible apply FX.augq); (focus exact rfl)))
  | (with_reducible refine FX.wo_addI ?_)
  | (focus ((with_reducible refine FX.wn_divmod ?_ ?_ ?_); omega; (focus (first | decide | exact FX.log_le (by omega) (by omega)))))
  | (with_reducible refine FX.ws_retN ?_)
  | (with_reducible refine FX.ws_for ?_)
  | (with_reducible refine FX.wt_tst ?_)
  | (with_reducible refine FX.wt_tru ?_)
  | (with_reducible refine FX.wt_and ?_)
  | (with_reducible refine FX.wt_or ?_)
  | (with_reducible refine FX.wt_not ?_)
  | (with_reducible refine FX.wt_yes ?_)
  | (with_reducible refine FX.wb ?_)
  | (with_reducible refine FX.wtr_b ?_)
  | (with_reducible refine FX.wtr_i ?_)
  | (with_reducible refine FX.wtr_n ?_)
  | (with_reducible refine FX.cond_tt ?_)
  | (with_reducible refine FX.cond_ff ?_)
  | (with_reducible refine FX.cond_n ?_)
  | (with_reducible refine FX.cond_a ?_)
  | (with_reducible refine FX.cond_o ?_)
  | (with_reducible refine FX.we_lstq ?_)
  | (with_reducible refine FX.we_tupq ?_)
  | (with_reducible refine FX.we_lstHq ?_)
  | (focus ((with_reducible apply FX.lhqC_0); (focus ((first | decide | (with_reducible assumption) | omega | (simp only [FX.size_eq, List.length_cons, List.length_nil, List.length_append, List.length_map, List.length_take, List.length_drop, List.length_reverse, List.length_replicate, Nat.reduceAdd, Nat.reduceLeDiff]; done) | (simp only [FX.size_eq, List.length_cons, List.length_nil, List.length_append, List.length_map, List.length_take, List.length_drop, List.length_reverse, List.length_replicate]; omega)))); (focus (assumption))))
  | (focus ((with_reducible apply FX.lhqC_1); (focus ((first | decide | (with_reducible assumption) | omega | (simp only [FX.size_eq, List.length_cons, List.length_nil, List.length_append, List.length_map, List.length_take, List.length_drop, List.length_reverse, List.length_replicate, Nat.reduceAdd, Nat.reduceLeDiff]; done) | (simp only [FX.size_eq, List.length_cons, List.length_nil, List.length_append, List.length_map, List.length_take, List.length_drop, List.length_reverse, List.length_replicate]; omega)))); (focus (assumption))))
  | (focus ((with_reducible apply FX.lhqC); (focus ((first | decide | (with_reducible assumption) | omega | (simp only [FX.size_eq, List.length_cons, List.length_nil, List.length_append, List.length_map, List.length_take, List.length_drop, List.length_reverse, List.length_replicate, Nat.reduceAdd, Nat.reduceLeDiff]; done) | (simp only [FX.size_eq, List.length_cons, List.length_nil, List.length_append, List.length_map, List.length_take, List.length_drop, List.length_reverse, List.length_replicate]; omega)))); (focus (assumption)); (focus (assumption))))
  | (with_reducible refine FX.we_thaw ?_)
  | (with_reducible refine FX.we_if ?_)
  | (with_reducible refine FX.we_chainq ?_)
  | (with_reducible refine FX.chq ?_)
  | (with_reducible refine FX.we_slq ?_)
  | (with_reducible refine FX.wu_no ?_)
  | (with_reducible refine FX.wu_someq ?_)
  | (with_reducible refine FX.iq ?_)
  | (with_reducible refine FX.we_and ?_)
  | (with_reducible refine FX.we_or ?_)
  | (with_reducible refine FX.we_not ?_)
  | (with_reducible refine FX.we_m1 ?_)
  | (with_reducible refine FX.we_comp ?_)
  | (with_reducible refine FX.wi_rangeq ?_)
  | (with_reducible refine FX.wi_range2q ?_)
  | (with_reducible refine FX.wi_range3q ?_)
  | (with_reducible refine FX.wi_seqq ?_)
  | (with_reducible refine FX.wi_revq ?_)
  | (with_reducible refine FX.wi_enumq ?_)
  | (with_reducible refine FX.wi_zipq ?_)
  | (with_reducible refine FX.we_lrg1 ?_)
  | (focus ((with_reducible refine FX.lq_intsC ?hl ?q); (case hl => (first | decide | (with_reducible assumption) | omega | (simp only [FX.size_eq, List.length_cons, List.length_nil, List.length_append, List.length_map, List.length_take, List.length_drop, List.length_reverse, List.length_replicate, Nat.reduceAdd, Nat.reduceLeDiff]; done) | (simp only [FX.size_eq, List.length_cons, List.length_nil, List.length_append, List.length_map, List.length_take, List.length_drop, List.length_reverse, List.length_replicate]; omega)))))
  | (focus ((with_reducible refine FX.lq_raw ?_ ?_); (focus (first | decide | (with_reducible assumption) | omega | (simp only [FX.size_eq, List.length_cons, List.length_nil, List.length_append, List.length_map, List.length_take, List.length_drop, List.length_reverse, List.length_replicate, Nat.reduceAdd, Nat.reduceLeDiff]; done) | (simp only [FX.size_eq, List.length_cons, List.length_nil, List.length_append, List.length_map, List.length_take, List.length_drop, List.length_reverse, List.length_replicate]; omega)))))
  | (focus ((with_reducible refine FX.tq_raw ?_ ?_); (focus (first | decide | (with_reducible assumption) | omega | (simp only [FX.size_eq, List.length_cons, List.length_nil, List.length_append, List.length_map, List.length_take, List.length_drop, List.length_reverse, List.length_replicate, Nat.reduceAdd, Nat.reduceLeDiff]; done) | (simp only [FX.size_eq, List.length_cons, List.length_nil, List.length_append, List.length_map, List.length_take, List.length_drop, List.length_reverse, List.length_replicate]; omega)))))
  | (focus ((with_reducible refine FX.cond_t ?_ ?_); first | (with_reducible exact rfl) | assumption | omega))
  | (focus ((with_reducible refine FX.cond_f ?_ ?_); first | assumption | omega))
  | (with_reducible refine FX.wo_add ?_)
  | (with_reducible refine FX.wo_sub ?_)
  | (with_reducible refine FX.wo_lt ?_)
  | (with_reducible refine FX.wo_le ?_)
  | (with_reducible refine FX.wo_gt ?_)
  | (with_reducible refine FX.wo_ge ?_)
  | (with_reducible refine FX.wo_eqi ?_)
  | (with_reducible refine FX.wo_nei ?_)
  | (with_reducible refine FX.wo_eqb ?_)
  | (with_reducible refine FX.wo_neb ?_)
  | (with_reducible refine FX.wo_isn_i ?_)
  | (with_reducible refine FX.wo_isnn_i ?_)
  | (with_reducible refine FX.wo_isn_b ?_)
  | (with_reducible refine FX.wo_isnn_b ?_)
  | (with_reducible refine FX.wo_isn_h ?_)
  | (with_reducible refine FX.wo_isnn_h ?_)
  | (with_reducible refine FX.wo_isn_n ?_)
  | (with_reducible refine FX.wo_isnn_n ?_)
  | (with_reducible refine FX.wo_isn_l ?_)
  | (with_reducible refine FX.wo_isnn_l ?_)
  | (with_reducible refine FX.wo_isn_t ?_)
  | (with_reducible refine FX.wo_isnn_t ?_)
  | (with_reducible refine FX.wo_isn ?_)
  | (with_reducible refine FX.wo_isnn ?_)
  | (with_reducible refine FX.wo_isb ?_)
  | (with_reducible refine FX.wo_isnb ?_)
  | (focus ((with_reducible refine FX.wo_mod ?_ ?_); omega))
  | (focus ((with_reducible refine FX.wo_div ?_ ?_ ?_); omega; (focus (first | decide | exact FX.log_le (by omega) (by omega)))))
  | (focus ((with_reducible refine FX.wo_mul ?_ ?_ ?_); (focus (first | assumption | exact FX.sz_le (by omega) (by omega))); (focus (first | assumption | exact FX.sz_le (by omega) (by omega)))))
  | (focus ((with_reducible refine FX.wo_pow ?_ ?_ ?_ ?_); omega; omega; (focus (first | assumption | exact FX.szP_le (by omega) (by omega))); (try simp only [Int.reduceToNat])))
  | (focus ((with_reducible apply FX.wo_eql); (focus ((first | exact rfl | assumption | exact FX.rd_0 (by assumption) | exact FX.rd_kx (by assumption) (by assumption) | exact FX.rd_k (by assumption) rfl | exact FX.vw_app (by assumption)))); (focus ((first | exact rfl | assumption | exact FX.rd_0 (by assumption) | exact FX.rd_kx (by assumption) (by assumption) | exact FX.rd_k (by assumption) rfl | exact FX.vw_app (by assumption))))))
  | (focus ((with_reducible apply FX.wo_nel); (focus ((first | exact rfl | assumption | exact FX.rd_0 (by assumption) | exact FX.rd_kx (by assumption) (by assumption) | exact FX.rd_k (by assumption) rfl | exact FX.vw_app (by assumption)))); (focus ((first | exact rfl | assumption | exact FX.rd_0 (by assumption) | exact FX.rd_kx (by assumption) (by assumption) | exact FX.rd_k (by assumption) rfl | exact FX.vw_app (by assumption))))))
  | (focus ((with_reducible apply FX.wo_addl); (focus ((first | exact rfl | assumption | exact FX.rd_0 (by assumption) | exact FX.rd_kx (by assumption) (by assumption) | exact FX.rd_k (by assumption) rfl | exact FX.vw_app (by assumption)))); (focus ((first | exact rfl | assumption | exact FX.rd_0 (by assumption) | exact FX.rd_kx (by assumption) (by assumption) | exact FX.rd_k (by assumption) rfl | exact FX.vw_app (by assumption)))); (focus ((first | decide | (with_reducible assumption) | omega | (simp only [FX.size_eq, List.length_cons, List.length_nil, List.length_append, List.length_map, List.length_take, List.length_drop, List.length_reverse, List.length_replicate, Nat.reduceAdd, Nat.reduceLeDiff]; done) | (simp only [FX.size_eq, List.length_cons, List.length_nil, List.length_append, List.length_map, List.length_take, List.length_drop, List.length_reverse, List.length_replicate]; omega))))))
  | (focus ((with_reducible apply FX.wn_repr); (focus ((simp only [FX.vw_lst, FX.vw_int, FX.vw_bl, FX.vw_non]; (first
  | (with_reducible assumption)
  | (focus ((with_reducible refine FX.sh_1 ?_ ?_); (focus ((repeat' (first | (with_reducible assumption) | (with_reducible exact FX.oki_nil) | (with_reducible refine FX.oki_cons ?_ ?_ ?_) | (with_reducible refine FX.oki_app ?_ ?_) | omega)); done)); (focus (first | decide | (with_reducible assumption) | omega | (simp only [FX.size_eq, List.length_cons, List.length_nil, List.length_append, List.length_map, List.length_take, List.length_drop, List.length_reverse, List.length_replicate, Nat.reduceAdd, Nat.reduceLeDiff]; done) | (simp only [FX.size_eq, List.length_cons, List.length_nil, List.length_append, List.length_map, List.length_take, List.length_drop, List.length_reverse, List.length_replicate]; omega)))))
  | (focus ((with_reducible refine FX.sh_1r ?_ ?_); (focus ((repeat' (first | (with_reducible exact FX.shs_nil) | (with_reducible refine FX.shs_cons ?_ ?_) | (with_reducible exact FX.sh_bl) | (with_reducible exact FX.sh_non) | (with_reducible refine FX.sh_int ?_ ?_) | omega)); done)); (focus (first | decide | (with_reducible assumption) | omega | (simp only [FX.size_eq, List.length_cons, List.length_nil, List.length_append, List.length_map, List.length_take, List.length_drop, List.length_reverse, List.length_replicate, Nat.reduceAdd, Nat.reduceLeDiff]; done) | (simp only [FX.size_eq, List.length_cons, List.length_nil, List.length_append, List.length_map, List.length_take, List.length_drop, List.length_reverse, List.length_replicate]; omega)))))
  | (focus ((with_reducible refine FX.sh_2 ?_ ?_); (focus ((repeat' (first | (with_reducible assumption) | (with_reducible exact FX.shs_nil) | (with_reducible refine FX.shs_cons ?_ ?_) | (focus ((with_reducible refine FX.sh_1 ?_ ?_); (focus ((repeat' (first | (with_reducible assumption) | (with_reducible exact FX.oki_nil) | (with_reducible refine FX.oki_cons ?_ ?_ ?_) | (with_reducible refine FX.oki_app ?_ ?_) | omega)); done)); (focus (first | decide | (with_reducible assumption) | omega | (simp only [FX.size_eq, List.length_cons, List.length_nil, List.length_append, List.length_map, List.length_take, List.length_drop, List.length_reverse, List.length_replicate, Nat.reduceAdd, Nat.reduceLeDiff]; done) | (simp only [FX.size_eq, List.length_cons, List.length_nil, List.length_append, List.length_map, List.length_take, List.length_drop, List.length_reverse, List.length_replicate]; omega))))) | (with_reducible refine FX.sh_01 ?_) | (with_reducible exact FX.sh_bl) | (with_reducible exact FX.sh_non) | (focus ((with_reducible refine FX.sh_int ?_ ?_); omega; omega)) | (focus ((with_reducible refine FX.sh_1r ?_ ?_); (focus ((repeat' (first | (with_reducible exact FX.shs_nil) | (with_reducible refine FX.shs_cons ?_ ?_) | (with_reducible exact FX.sh_bl) | (with_reducible exact FX.sh_non) | (with_reducible refine FX.sh_int ?_ ?_) | omega)); done)); (focus (first | decide | (with_reducible assumption) | omega | (simp only [FX.size_eq, List.length_cons, List.length_nil, List.length_append, List.length_map, List.length_take, List.length_drop, List.length_reverse, List.length_replicate, Nat.reduceAdd, Nat.reduceLeDiff]; done) | (simp only [FX.size_eq, List.length_cons, List.length_nil, List.length_append, List.length_map, List.length_take, List.length_drop, List.length_reverse, List.length_replicate]; omega))))))); done)); (focus decide))))))); (focus (decide)); (focus (decide)); (try simp only [FX.vw_lst, FX.vw_int, FX.vw_bl, FX.vw_non])))
  | (focus ((with_reducible apply FX.wo_eqs); (focus ((first
  | (with_reducible assumption)
  | (focus ((with_reducible refine FX.sh_1 ?_ ?_); (focus ((repeat' (first | (with_reducible assumption) | (with_reducible exact FX.oki_nil) | (with_reducible refine FX.oki_cons ?_ ?_ ?_) | (with_reducible refine FX.oki_app ?_ ?_) | omega)); done)); (focus (first | decide | (with_reducible assumption) | omega | (simp only [FX.size_eq, List.length_cons, List.length_nil, List.length_append, List.length_map, List.length_take, List.length_drop, List.length_reverse, List.length_replicate, Nat.reduceAdd, Nat.reduceLeDiff]; done) | (simp only [FX.size_eq, List.length_cons, List.length_nil, List.length_append, List.length_map, List.length_take, List.length_drop, List.length_reverse, List.length_replicate]; omega)))))
  | (focus ((with_reducible refine FX.sh_1r ?_ ?_); (focus ((repeat' (first | (with_reducible exact FX.shs_nil) | (with_reducible refine FX.shs_cons ?_ ?_) | (with_reducible exact FX.sh_bl) | (with_reducible exact FX.sh_non) | (with_reducible refine FX.sh_int ?_ ?_) | omega)); done)); (focus (first | decide | (with_reducible assumption) | omega | (simp only [FX.size_eq, List.length_cons, List.length_nil, List.length_append, List.length_map, List.length_take, List.length_drop, List.length_reverse, List.length_replicate, Nat.reduceAdd, Nat.reduceLeDiff]; done) | (simp only [FX.size_eq, List.length_cons, List.length_nil, List.length_append, List.length_map, List.length_take, List.length_drop, List.length_reverse, List.length_replicate]; omega)))))
  | (focus ((with_reducible refine FX.sh_2 ?_ ?_); (focus ((repeat' (first | (with_reducible assumption) | (with_reducible exact FX.shs_nil) | (with_reducible refine FX.shs_cons ?_ ?_) | (focus ((with_reducible refine FX.sh_1 ?_ ?_); (focus ((repeat' (first | (with_reducible assumption) | (with_reducible exact FX.oki_nil) | (with_reducible refine FX.oki_cons ?_ ?_ ?_) | (with_reducible refine FX.oki_app ?_ ?_) | omega)); done)); (focus (first | decide | (with_reducible assumption) | omega | (simp only [FX.size_eq, List.length_cons, List.length_nil, List.length_append, List.length_map, List.length_take, List.length_drop, List.length_reverse, List.length_replicate, Nat.reduceAdd, Nat.reduceLeDiff]; done) | (simp only [FX.size_eq, List.length_cons, List.length_nil, List.length_append, List.length_map, List.length_take, List.length_drop, List.length_reverse, List.length_replicate]; omega))))) | (with_reducible refine FX.sh_01 ?_) | (with_reducible exact FX.sh_bl) | (with_reducible exact FX.sh_non) | (focus ((with_reducible refine FX.sh_int ?_ ?_); omega; omega)) | (focus ((with_reducible refine FX.sh_1r ?_ ?_); (focus ((repeat' (first | (with_reducible exact FX.shs_nil) | (with_reducible refine FX.shs_cons ?_ ?_) | (with_reducible exact FX.sh_bl) | (with_reducible exact FX.sh_non) | (with_reducible refine FX.sh_int ?_ ?_) | omega)); done)); (focus (first | decide | (with_reducible assumption) | omega | (simp only [FX.size_eq, List.length_cons, List.length_nil, List.length_append, List.length_map, List.length_take, List.length_drop, List.length_reverse, List.length_replicate, Nat.reduceAdd, Nat.reduceLeDiff]; done) | (simp only [FX.size_eq, List.length_cons, List.length_nil, List.length_append, List.length_map, List.length_take, List.length_drop, List.length_reverse, List.length_replicate]; omega))))))); done)); (focus decide)))))); (focus ((first | rfl | assumption)))))
  | (focus ((with_reducible apply FX.wo_nes); (focus ((first
  | (with_reducible assumption)
  | (focus ((with_reducible refine FX.sh_1 ?_ ?_); (focus ((repeat' (first | (with_reducible assumption) | (with_reducible exact FX.oki_nil) | (with_reducible refine FX.oki_cons ?_ ?_ ?_) | (with_reducible refine FX.oki_app ?_ ?_) | omega)); done)); (focus (first | decide | (with_reducible assumption) | omega | (simp only [FX.size_eq, List.length_cons, List.length_nil, List.length_append, List.length_map, List.length_take, List.length_drop, List.length_reverse, List.length_replicate, Nat.reduceAdd, Nat.reduceLeDiff]; done) | (simp only [FX.size_eq, List.length_cons, List.length_nil, List.length_append, List.length_map, List.length_take, List.length_drop, List.length_reverse, List.length_replicate]; omega)))))
  | (focus ((with_reducible refine FX.sh_1r ?_ ?_); (focus ((repeat' (first | (with_reducible exact FX.shs_nil) | (with_reducible refine FX.shs_cons ?_ ?_) | (with_reducible exact FX.sh_bl) | (with_reducible exact FX.sh_non) | (with_reducible refine FX.sh_int ?_ ?_) | omega)); done)); (focus (first | decide | (with_reducible assumption) | omega | (simp only [FX.size_eq, List.length_cons, List.length_nil, List.length_append, List.length_map, List.length_take, List.length_drop, List.length_reverse, List.length_replicate, Nat.reduceAdd, Nat.reduceLeDiff]; done) | (simp only [FX.size_eq, List.length_cons, List.length_nil, List.length_append, List.length_map, List.length_take, List.length_drop, List.length_reverse, List.length_replicate]; omega)))))
  | (focus ((with_reducible refine FX.sh_2 ?_ ?_); (focus ((repeat' (first | (with_reducible assumption) | (with_reducible exact FX.shs_nil) | (with_reducible refine FX.shs_cons ?_ ?_) | (focus ((with_reducible refine FX.sh_1 ?_ ?_); (focus ((repeat' (first | (with_reducible assumption) | (with_reducible exact FX.oki_nil) | (with_reducible refine FX.oki_cons ?_ ?_ ?_) | (with_reducible refine FX.oki_app ?_ ?_) | omega)); done)); (focus (first | decide | (with_reducible assumption) | omega | (simp only [FX.size_eq, List.length_cons, List.length_nil, List.length_append, List.length_map, List.length_take, List.length_drop, List.length_reverse, List.length_replicate, Nat.reduceAdd, Nat.reduceLeDiff]; done) | (simp only [FX.size_eq, List.length_cons, List.length_nil, List.length_append, List.length_map, List.length_take, List.length_drop, List.length_reverse, List.length_replicate]; omega))))) | (with_reducible refine FX.sh_01 ?_) | (with_reducible exact FX.sh_bl) | (with_reducible exact FX.sh_non) | (focus ((with_reducible refine FX.sh_int ?_ ?_); omega; omega)) | (focus ((with_reducible refine FX.sh_1r ?_ ?_); (focus ((repeat' (first | (with_reducible exact FX.shs_nil) | (with_reducible refine FX.shs_cons ?_ ?_) | (with_reducible exact FX.sh_bl) | (with_reducible exact FX.sh_non) | (with_reducible refine FX.sh_int ?_ ?_) | omega)); done)); (focus (first | decide | (with_reducible assumption) | omega | (simp only [FX.size_eq, List.length_cons, List.length_nil, List.length_append, List.length_map, List.length_take, List.length_drop, List.length_reverse, List.length_replicate, Nat.reduceAdd, Nat.reduceLeDiff]; done) | (simp only [FX.size_eq, List.length_cons, List.length_nil, List.length_append, List.length_map, List.length_take, List.length_drop, List.length_reverse, List.length_replicate]; omega))))))); done)); (focus decide)))))); (focus ((first | rfl | assumption)))))
  | (with_reducible refine FX.wn_lens ?_)
  | (focus ((with_reducible apply FX.wn_leni); (focus ((first | exact rfl | assumption | exact FX.rd_0 (by assumption) | exact FX.rd_kx (by assumption) (by assumption) | exact FX.rd_k (by assumption) rfl | exact FX.vw_app (by assumption))))))
  | (focus ((with_reducible apply FX.wn_len); (focus ((first | exact rfl | assumption | exact FX.rd_0 (by assumption) | exact FX.rd_kx (by assumption) (by assumption) | exact FX.rd_k (by assumption) rfl | exact FX.vw_app (by assumption))))))
  | (focus ((with_reducible apply FX.wn_sum); (focus ((first | exact rfl | assumption | exact FX.rd_0 (by assumption) | exact FX.rd_kx (by assumption) (by assumption) | exact FX.rd_k (by assumption) rfl | exact FX.vw_app (by assumption))))))
  | (with_reducible refine FX.wn_max2 ?_)
  | (with_reducible refine FX.wn_min2 ?_)
  | (with_reducible refine FX.wn_abs ?_)
  | (with_reducible refine FX.wn_int ?_)
  | (with_reducible refine FX.wn_intb ?_)
  | (with_reducible refine FX.wn_ii ?_)
  | (with_reducible refine FX.wn_ib ?_)
  | (with_reducible refine FX.wn_il ?_)
  | (with_reducible refine FX.wn_it ?_)
  | (with_reducible refine FX.wn_is ?_)
  | (with_reducible refine FX.wn_bl ?_)
  | (with_reducible refine FX.wn_bt ?_)
  | (with_reducible refine FX.wn_bb ?_)
  | (with_reducible refine FX.wn_bs ?_)
  | (focus ((with_reducible apply FX.wn_lt); (focus ((first | exact rfl | assumption | exact FX.rd_0 (by assumption) | exact FX.rd_kx (by assumption) (by assumption) | exact FX.rd_k (by assumption) rfl | exact FX.vw_app (by assumption))))))
  | (focus ((with_reducible apply FX.wn_ll); (focus ((first | exact rfl | assumption | exact FX.rd_0 (by assumption) | exact FX.rd_kx (by assumption) (by assumption) | exact FX.rd_k (by assumption) rfl | exact FX.vw_app (by assumption))))))
  | (focus ((with_reducible apply FX.wtr_l); (focus ((first | exact rfl | assumption | exact FX.rd_0 (by assumption) | exact FX.rd_kx (by assumption) (by assumption) | exact FX.rd_k (by assumption) rfl | exact FX.vw_app (by assumption))))))
  | (focus ((with_reducible refine FX.rq ?_ ?_ ?_); omega; omega))
  | (focus ((with_reducible refine FX.rq2 ?_ ?_ ?_ ?_ ?_); omega; omega; omega; omega))
  | (focus ((with_reducible refine FX.rq3 ?_ ?_ ?_ ?_ ?_); omega; omega; omega; omega))
  | (focus ((with_reducible refine FX.rglq ?_ ?_ ?_); omega; omega))
  | (focus ((with_reducible apply FX.enumq); (focus ((first | exact rfl | assumption | exact FX.rd_0 (by assumption) | exact FX.rd_kx (by assumption) (by assumption) | exact FX.rd_k (by assumption) rfl | exact FX.vw_app (by assumption))))))
  | (focus ((with_reducible apply FX.zipq); (focus ((first | exact rfl | assumption | exact FX.rd_0 (by assumption) | exact FX.rd_kx (by assumption) (by assumption) | exact FX.rd_k (by assumption) rfl | exact FX.vw_app (by assumption)))); (focus ((first | exact rfl | assumption | exact FX.rd_0 (by assumption) | exact FX.rd_kx (by assumption) (by assumption) | exact FX.rd_k (by assumption) rfl | exact FX.vw_app (by assumption))))))
  | (focus ((with_reducible apply FX.seqq); (focus ((first | exact rfl | assumption | exact FX.rd_0 (by assumption) | exact FX.rd_kx (by assumption) (by assumption) | exact FX.rd_k (by assumption) rfl | exact FX.vw_app (by assumption))))))
  | (focus ((with_reducible apply FX.revq); (focus ((first | exact rfl | assumption | exact FX.rd_0 (by assumption) | exact FX.rd_kx (by assumption) (by assumption) | exact FX.rd_k (by assumption) rfl | exact FX.vw_app (by assumption))))))
  | (focus ((with_reducible apply FX.sq_from); (focus ((first | exact rfl | assumption | exact FX.rd_0 (by assumption) | exact FX.rd_kx (by assumption) (by assumption) | exact FX.rd_k (by assumption) rfl | exact FX.vw_app (by assumption)))); (focus (omega))); (try simp only [Int.reduceToNat]))
  | (focus ((with_reducible apply FX.sq_to); (focus ((first | exact rfl | assumption | exact FX.rd_0 (by assumption) | exact FX.rd_kx (by assumption) (by assumption) | exact FX.rd_k (by assumption) rfl | exact FX.vw_app (by assumption)))); (focus (omega))); (try simp only [Int.reduceToNat]))
  | (focus ((with_reducible apply FX.sq_ft); (focus ((first | exact rfl | assumption | exact FX.rd_0 (by assumption) | exact FX.rd_kx (by assumption) (by assumption) | exact FX.rd_k (by assumption) rfl | exact FX.vw_app (by assumption)))); (focus (omega)); (focus (omega))); (try simp only [Int.reduceToNat]))
  | (focus ((with_reducible apply FX.th_0); (focus (assumption)); (focus (assumption))))
  | (focus ((with_reducible apply FX.th_0n); (focus (assumption)); (focus (assumption))))
  | (focus ((with_reducible apply FX.th_1); (focus (assumption)); (focus (assumption)); (focus ((first | assumption | exact FX.pl_ints | exact FX.pl_nil)))))
  | (focus ((with_reducible apply FX.th_2); (focus (assumption)); (focus (assumption)); (focus ((first | assumption | exact FX.pl_ints | exact FX.pl_nil))); (focus ((first | assumption | exact FX.pl_ints | exact FX.pl_nil)))))
  | (focus ((with_reducible apply FX.th_x); (focus (assumption)); (focus (assumption)); (focus (sizeOf_list_dec)); (focus (assumption))))
  | (focus ((with_reducible refine FX.ret_int ?h1 ?h2 ?q); (case h1 => assumption); (case h2 => assumption)))
  | (focus ((with_reducible refine FX.ret_bl ?h1 ?h2 ?q); (case h1 => assumption); (case h2 => assumption)))
  | (focus ((with_reducible refine FX.ret_non ?h1 ?h2 ?q); (case h1 => assumption); (case h2 => assumption)))
  | (focus ((with_reducible refine FX.ret_ints ?h1 ?h2 ?q); (case h1 => assumption); (case h2 => assumption)))
  | (focus ((with_reducible refine FX.ret_nil ?h1 ?h2 ?q); (case h1 => assumption); (case h2 => assumption)))
  | (focus ((with_reducible apply FX.ret_nx); (focus (exact rfl)); (focus (assumption)); (focus (assumption)))))
local macro_rules
  | `(tactic| decreasing_tactic) => `(tactic| repeat' array_get_dec)
section
variable {K : PySem.W.Frag} {s : Sto} {d : D} {ws : List Int} {Q : QE}
theorem is_integer_in_w {v l g : Int} (hp : PC s) (q : Q (.bl (decide (l ≤ v) && decide (v ≤ g))) 0 s) : WC (S_is_integer_in K) [.int v, .int l, .int g] s Q := by
  have hn : s.length = s.length := rfl
  ((apply FX.wc_def rfl; focus (simp only [List.map_cons, List.map_nil, List.cons_append, List.nil_append, List.replicate]; try rfl)))
  unfold B_is_integer_in
  decreasing_tactic
  exact q
theorem is_widths_w (hp : PC s) (hw : vw s d = .lst (ws.map .int)) (hl : ws.length ≤ 100000) (q : Q (.bl (ws.all fun x => decide (1 ≤ x) && decide (x ≤ 10000))) 0 s) : WC (S_is_widths K) [d] s Q := by
  have hn : s.length = s.length := rfl
  have hc : PC (s ++ []) := hp.app .nil
  ((apply FX.wc_def rfl; focus (simp only [List.map_cons, List.map_nil, List.cons_append, List.nil_append, List.replicate]; try rfl)))
  unfold B_is_widths
  decreasing_tactic
  refine comp_ints (fun x => .bl (decide (1 ≤ x) && decide (x ≤ 10000))) (by (first | exact rfl | assumption | exact FX.rd_0 (by assumption) | exact FX.rd_kx (by assumption) (by assumption) | exact FX.rd_k (by assumption) rfl | exact FX.vw_app (by assumption))) (by omega) (fun z hz => ?_) ?_
  · simp only [wipeL, List.set_cons_zero, List.set_cons_succ]
    decreasing_tactic
    refine is_integer_in_w hc ?_
    decreasing_tactic
    exact ⟨rfl, rfl⟩
  · decreasing_tactic
    refine wn_all (bs := ws.map fun x => decide (1 ≤ x) && decide (x ≤ 10000)) (by rw [List.map_map]; rfl) ?_
    decreasing_tactic
    simpa [List.all_map] using q
theorem check_widths_w (hp : PC s) (hw : vw s d = .lst (ws.map .int)) (ok : okw ws) (q : Q .non 0 s) : WC (S_check_widths K) [d] s Q := by
  have hn : s.length = s.length := rfl
  have hc : PC (s ++ []) := hp.app .nil
  have e : (ws.all fun x => decide (1 ≤ x) && decide (x ≤ 10000)) = true := by
    rw [List.all_eq_true]; intro x hx; have := ok.2 x hx; simp; omega
  ((apply FX.wc_def rfl; focus (simp only [List.map_cons, List.map_nil, List.cons_append, List.nil_append, List.replicate]; try rfl)))
  unfold B_check_widths
  decreasing_tactic
  refine is_widths_w hc (by (first | exact rfl | assumption | exact FX.rd_0 (by assumption) | exact FX.rd_kx (by assumption) (by assumption) | exact FX.rd_k (by assumption) rfl | exact FX.vw_app (by assumption))) ok.1 ?_
  rw [e]
  decreasing_tactic
  exact q
theorem repeated_w {xs : List Int} {n : Int} (hp : PC s) (hx : 0 < xs.length) (hx1 : xs.length ≤ 100000) (h0 : 0 ≤ n) (h1 : n ≤ 1000000) (q : Q (.lst ((rep xs n.toNat).map .int)) 2 s) : WC (S__repeated K) [.lst (xs.map .int), .int n] s Q := by
  have hn : s.length = s.length := rfl
  have hc : PC (s ++ []) := hp.app .nil
  have hz := mul_div_le (v := xs.length) (n := n.toNat)
  ((apply FX.wc_def rfl; focus (simp only [List.map_cons, List.map_nil, List.cons_append, List.nil_append, List.replicate]; try rfl)))
  unfold B__repeated
  have e : n / (xs.length : Int) = ((n.toNat / xs.length : Nat) : Int) := by
    rw [Int.natCast_ediv, Int.toNat_of_nonneg h0]
  have l2 := Nat.div_le_self n.toNat xs.length
  obtain ⟨g, hg⟩ : ∃ g, g = n.toNat / xs.length := ⟨_, rfl⟩
  rw [← hg] at hz l2 e
  decreasing_tactic
  rw [e]
  refine wo_mull rfl (by omega) (by omega) (by rw [show (g : Int) + 1 = ((g + 1 : Nat) : Int) from rfl, Int.toNat_natCast]; omega) ?_
  rw [show (g : Int) + 1 = ((g + 1 : Nat) : Int) from rfl, Int.toNat_natCast, hg]
  decreasing_tactic
  exact q
theorem first_columns_w {n : Int} (hp : PC s) (hw : vw s d = .lst (ws.map .int)) (ok : okw ws) (h0 : 0 ≤ n) (h1 : n ≤ 100000) (q : Q (.lst ((cols ws n.toNat).map .int)) 1 s) : WC (S_first_columns K) [d, .int n] s Q := by
  have hn : s.length = s.length := rfl
  have hc : PC (s ++ []) := hp.app .nil
  have hw' : vw (s ++ []) d = .lst (ws.map .int) := vw_app hw
  have hl := ok.1
  ((apply FX.wc_def rfl; focus (simp only [List.map_cons, List.map_nil, List.cons_append, List.nil_append, List.replicate]; try rfl)))
  unfold B_first_columns
  decreasing_tactic

  refine for_ints (ns := ([n] ++ ws).reverse) (fun (i : Nat) loc s' => ∃ z, loc = [some (d, false), some (.int n, false), some (.lst ((cmb ((n :: ws).drop (ws.length + 1 - i))).map .int), true), z] ∧ s' = s ++ []) (by refine ⟨none, ?_, rfl⟩; simp [cmb]) (fun i loc s' _ ⟨z, h1, h2⟩ => by rw [h2]; rfl) (fun i z loc s' hz ⟨x, h1, h2⟩ => ?_) (fun loc s' ⟨z, h1, h2⟩ => ?_)
  · subst h1 h2
    have hi : i < ws.length + 1 := by have := (List.getElem?_eq_some_iff.mp hz).1; simpa using this
    rw [List.getElem?_reverse (by simpa using hi)] at hz
    have hz' : (n :: ws)[ws.length - i]? = some z := by
      rw [← hz]; congr 1
    have e : (n :: ws).drop (ws.length + 1 - (i + 1)) = z :: (n :: ws).drop (ws.length + 1 - i) := by
      obtain ⟨hlt, hz''⟩ := List.getElem?_eq_some_iff.mp hz'
      rw [show ws.length + 1 - (i + 1) = ws.length - i by omega, List.drop_eq_getElem_cons hlt, hz'', show ws.length - i + 1 = ws.length + 1 - i by omega]
    have z0 : 0 ≤ z ∧ z ≤ 100000 := by
      rcases List.mem_cons.mp (List.mem_of_getElem? hz') with rfl | hm
      · exact ⟨h0, h1⟩
      · have := ok.2 z hm; omega
    simp only [List.set_cons_zero, List.set_cons_succ]
    cases hr : (n :: ws).drop (ws.length + 1 - i) with
    | nil =>
      (
        decreasing_tactic
        refine cond_f (by simp [cmb]) ?_
        decreasing_tactic
        exact ⟨some (.int z, false), by rw [e, hr]; simp only [cmb, cols_nil], rfl⟩)
    | cons w r =>
      have hm : ∀ y ∈ w :: r, 1 ≤ y ∧ y ≤ 10000 := by
        intro y hy
        rw [← hr] at hy
        have e3 : (n :: ws).drop (ws.length + 1 - i) = ws.drop (ws.length - i) := by
          have : 0 < i := by
            rcases Nat.eq_zero_or_pos i with q0 | q0
            · subst q0; simp at hr
            · exact q0
          rw [show ws.length + 1 - i = (ws.length - i) + 1 by omega]; rfl
        rw [e3] at hy
        exact ok.2 y (List.mem_of_mem_drop hy)
      have w0 := hm w (by simp)
      have hne : cmb (w :: r) ≠ [] := by
        intro h
        have := congrArg List.length h
        simp only [cmb, cols_len, List.length_nil] at this; omega
      have hlen : (cmb (w :: r)).length = w.toNat := cols_len
      (
        decreasing_tactic
        refine repeated_w hc (by omega) (by omega) z0.1 (by omega) ?_
        decreasing_tactic
        exact ⟨some (.int z, false), by rw [e, hr]; simp only [cmb]; rw [cols_cons w0.1], rfl⟩)
  · subst h1 h2
    have e : ([n] ++ ws).reverse.length = ws.length + 1 := by simp
    rw [e, Nat.sub_self]
    (
      decreasing_tactic
      exact q)
def oD : Option Nat → D
  | some k => .int (k : Nat)
  | none => .non
theorem isNon_oD (o : Option Nat) : isNon (oD o) = o.isNone := by cases o <;> rfl
theorem first_mismatch_w {x y : D} {xs ys : List Int} (hp : PC s) (hx : vw s x = .lst (xs.map .int)) (hy : vw s y = .lst (ys.map .int)) (q : Q (oD (mism xs ys)) 0 s) : WC (S_first_mismatch K) [x, y] s Q := by
  have hn : s.length = s.length := rfl
  have hx' : vw (s ++ []) x = .lst (xs.map .int) := vw_app hx
  have hy' : vw (s ++ []) y = .lst (ys.map .int) := vw_app hy
  ((apply FX.wc_def rfl; focus (simp only [List.map_cons, List.map_nil, List.cons_append, List.nil_append, List.replicate]; try rfl)))
  unfold B_first_mismatch
  (repeat' (first | (with_reducible refine wi_seqt ?_) | array_get_dec | (with_reducible refine tup_es ?_) | (first
  | (with_reducible refine we_srtset ?_)
  | (focus ((with_reducible apply wn_list); (focus ((first | exact rfl | assumption | exact FX.rd_0 (by assumption) | exact FX.rd_kx (by assumption) (by assumption) | exact FX.rd_k (by assumption) rfl | exact FX.vw_app (by assumption))))))
  | (focus ((with_reducible apply wo_in); (focus ((first | exact rfl | assumption | exact FX.rd_0 (by assumption) | exact FX.rd_kx (by assumption) (by assumption) | exact FX.rd_k (by assumption) rfl | exact FX.vw_app (by assumption))))))
  | (focus ((with_reducible apply wo_notin); (focus ((first | exact rfl | assumption | exact FX.rd_0 (by assumption) | exact FX.rd_kx (by assumption) (by assumption) | exact FX.rd_k (by assumption) rfl | exact FX.vw_app (by assumption))))))
  | (with_reducible refine wi_enumzip ?_)
  | (with_reducible refine we_dget ?_)
  | (focus ((with_reducible apply enumzipq); (focus ((first | exact rfl | assumption | exact FX.rd_0 (by assumption) | exact FX.rd_kx (by assumption) (by assumption) | exact FX.rd_k (by assumption) rfl | exact FX.vw_app (by assumption)))); (focus ((first | exact rfl | assumption | exact FX.rd_0 (by assumption) | exact FX.rd_kx (by assumption) (by assumption) | exact FX.rd_k (by assumption) rfl | exact FX.vw_app (by assumption))))))
  | (focus ((with_reducible apply dgq); (focus ((first | exact rfl | assumption | exact FX.rd_0 (by assumption) | exact FX.rd_kx (by assumption) (by assumption) | exact FX.rd_k (by assumption) rfl | exact FX.vw_app (by assumption)))); (focus ((first | exact rfl | assumption | exact FX.rd_0 (by assumption) | exact FX.rd_kx (by assumption) (by assumption) | exact FX.rd_k (by assumption) rfl | exact FX.vw_app (by assumption))))))
  | (with_reducible refine we_callMq ?_)
  | (focus ((with_reducible apply cmq); (focus exact rfl); (focus exact rfl); (focus (simp only [List.cons_append, List.nil_append, List.filterMap_cons, List.filterMap_nil, List.getElem?_cons_zero, List.getElem?_cons_succ]; try rfl))))
  | (with_reducible refine ws_asgL2 ?_)
  | (with_reducible refine ws_asg3 ?_)
  | (with_reducible refine tupk3 ?_)
  | (with_reducible refine we_revl ?_)
  | (focus ((with_reducible apply revlq); (focus ((first | exact rfl | assumption | exact FX.rd_0 (by assumption) | exact FX.rd_kx (by assumption) (by assumption) | exact FX.rd_k (by assumption) rfl | exact FX.vw_app (by assumption))))))
  | (with_reducible refine we_rdc ?_)
  | (with_reducible refine we_rdi ?_)
  | (with_reducible refine we_negq ?_)
  | (with_reducible refine negq ?_)
  | (focus ((with_reducible apply rdcq); (focus ((first | exact rfl | assumption | exact FX.rd_0 (by assumption) | exact FX.rd_kx (by assumption) (by assumption) | exact FX.rd_k (by assumption) rfl | exact FX.vw_app (by assumption)))); (focus ((first | exact rfl | assumption | exact FX.rd_0 (by assumption) | exact FX.rd_kx (by assumption) (by assumption) | exact FX.rd_k (by assumption) rfl | exact FX.vw_app (by assumption)))))))))
  refine for_enumzip (fun i loc s' => ∃ (x2 x3 x4 : Option (D × Bool)), loc = [some (x, false), some (y, false), x2, x3, x4] ∧ s' = s ++ [] ∧ ∀ j, j < i → xs[j]? = ys[j]?) (by exact ⟨_, _, _, rfl, rfl, fun j hj => absurd hj (Nat.not_lt_zero j)⟩) (fun i loc s' _ ⟨x2, x3, x4, eloc, h2, _⟩ => by rw [h2]; exact ⟨hx', hy'⟩) (fun i u v loc s' hu hv ⟨x2, x3, x4, eloc, h2, h3⟩ => ?_) (fun loc s' ⟨x2, x3, x4, eloc, h2, h3⟩ => ?_)
  · subst eloc h2
    simp only [List.set_cons_zero, List.set_cons_succ]
    decreasing_tactic
    refine cond_s (fun h => ?_) (fun h => ?_)
    · subst h
      decreasing_tactic
      refine ⟨_, _, _, rfl, rfl, fun j hj => ?_⟩
      rcases Nat.lt_succ_iff_lt_or_eq.mp hj with z | z
      · exact h3 j z
      · rw [z, hu, hv]
    · rw [mism_some hu hv h h3] at q
      decreasing_tactic
      show Ret _ _ (.ret (.int i) 0 (s ++ []))
      exact ret_int hn hp q
  · subst eloc h2
    rw [mism_none h3] at q
    decreasing_tactic
    exact q
theorem first_difference_w {d2 : D} {vs : List Int} (hp : PC s) (hw : vw s d = .lst (ws.map .int)) (hv : vw s d2 = .lst (vs.map .int)) (ok : okw ws) (okv : okw vs) (q : Q (oD (fdi ws vs)) 0 s) : WC (S_first_difference K) [d, d2] s Q := by
  have hn : s.length = s.length := rfl
  have hc : PC (s ++ []) := hp.app .nil
  have hw' : vw (s ++ []) d = .lst (ws.map .int) := vw_app hw
  have hv' : vw (s ++ []) d2 = .lst (vs.map .int) := vw_app hv
  have bd : ∀ l : List Int, okw l → 0 ≤ hd l ∧ hd l ≤ 10000 := by
    intro l o
    cases l with
    | nil => rw [hd_nil]; omega
    | cons w r => rw [hd_cons]; have := o.2 w (by simp); omega
  have b1 := bd ws ok
  have b2 := bd vs okv
  have e1 : ∀ l : List Int, (l.take (Int.toNat 1)).sum = hd l := fun l => rfl
  ((apply FX.wc_def rfl; focus (simp only [List.map_cons, List.map_nil, List.cons_append, List.nil_append, List.replicate]; try rfl)))
  unfold B_first_difference
  decreasing_tactic
  refine check_widths_w hc hw' ok ?_
  decreasing_tactic
  refine check_widths_w hc hv' okv ?_
  decreasing_tactic
  rw [show (List.take 1 ws).sum = hd ws from rfl, show (List.take 1 vs).sum = hd vs from rfl]
  refine first_columns_w hc hw' ok (by omega) (by omega) ?_
  decreasing_tactic
  refine first_columns_w hc hv' okv (by omega) (by omega) ?_
  decreasing_tactic
  refine first_mismatch_w hc rfl rfl ?_
  decreasing_tactic
  show Ret _ _ (.ret (oD (fdi ws vs)) 0 (s ++ []))
  cases h : fdi ws vs with
  | none => rw [h] at q; exact ret_non hn hp q
  | some k => rw [h] at q; exact ret_int hn hp q
theorem are_equal_w {d2 : D} {vs : List Int} (hp : PC s) (hw : vw s d = .lst (ws.map .int)) (hv : vw s d2 = .lst (vs.map .int)) (ok : okw ws) (okv : okw vs) (q : Q (.bl (eqE ws vs)) 0 s) : WC (S_are_equal K) [d, d2] s Q := by
  have hn : s.length = s.length := rfl
  have hc : PC (s ++ []) := hp.app .nil
  have hw' : vw (s ++ []) d = .lst (ws.map .int) := vw_app hw
  have hv' : vw (s ++ []) d2 = .lst (vs.map .int) := vw_app hv
  ((apply FX.wc_def rfl; focus (simp only [List.map_cons, List.map_nil, List.cons_append, List.nil_append, List.replicate]; try rfl)))
  unfold B_are_equal
  decreasing_tactic
  refine first_difference_w hc hw' hv' ok okv ?_
  decreasing_tactic
  rw [isNon_oD]
  decreasing_tactic
  exact q
theorem lps_last {c : List Int} : atI (lps c) (-1) = some (lp (at0 c) c.length : Int) := by
  unfold lps
  rw [fnl_snoc]
  exact atI_last
theorem least_periods_w {x : D} {c : List Int} (hp : PC s) (hx : vw s x = .lst (c.map .int)) (h1 : 1 ≤ c.length) (h2 : c.length ≤ 100000) (q : Q (.lst ((lps c).map .int)) 2 s) : WC (S_least_periods K) [x] s Q := by
  have hn : s.length = s.length := rfl
  have hx' : ∀ X, vw (s ++ X) x = .lst (c.map .int) := fun X => vw_app hx
  obtain ⟨f, hf⟩ : ∃ f, f = at0 c := ⟨_, rfl⟩
  have at_c : ∀ k : Nat, k < c.length → atI c (k : Int) = some (f k) := fun k hk => by rw [hf]; exact atI_nat (at0_get hk)
  ((apply FX.wc_def rfl; focus (simp only [List.map_cons, List.map_nil, List.cons_append, List.nil_append, List.replicate]; try rfl)))
  unfold B_least_periods
  decreasing_tactic
  refine for_rng (fun (i : Nat) loc s' => (∃ (x3 x4 : Option (D × Bool)), loc = [some (x, false), some (.hnd s.length, true), some (.int (lb f (i + 1) : Nat), false), x3, x4]) ∧ s' = s ++ [.lst ((fnl (fun k => (lb f k : Int)) (i + 2)).map .int)]) (by
    have e : [0, 0] = fnl (fun k => (lb f k : Int)) 2 := by show [0, 0] = [(lb f 0 : Int), (lb f 1 : Int)]; rw [lb_zero, lb_one]; rfl
    rw [← e, Nat.zero_add, lb_one]
    exact ⟨⟨_, _, rfl⟩, rfl⟩) (fun _ _ _ _ _ => trivial) (fun i loc s' hi ⟨⟨x3, x4, eloc⟩, h2'⟩ => ?_) (fun loc s' ⟨⟨x3, x4, eloc⟩, h2'⟩ => ?_)
  · subst eloc h2'
    have hi' : i + 1 < c.length := by omega
    have en : (1 : Int) + (i : Int) = ((i + 1 : Nat) : Int) := by omega
    rw [en]
    obtain ⟨n, hN⟩ : ∃ n, n = i + 1 := ⟨_, rfl⟩
    rw [show i + 2 = n + 1 by omega, show i + 1 = n from hN.symm]
    have hn1 : 1 ≤ n := by omega
    have hn2 : n < c.length := by omega
    obtain ⟨B, hB⟩ : ∃ B, B = fnl (fun k => (lb f k : Int)) (n + 1) := ⟨_, rfl⟩
    have B_at : ∀ k : Nat, k ≤ n → atI B (k : Int) = some (lb f k : Int) := fun k hk => by rw [hB]; exact atI_nat (fnl_at (by omega))
    have lB : B.length = n + 1 := by rw [hB]; exact fnl_len
    simp only [List.set_cons_zero, List.set_cons_succ]
    rw [← hB]
    refine ws_seq (ws_mid (fun loc s' => ∃ b : Nat, (∃ (x4 : Option (D × Bool)), loc = [some (x, false), some (.hnd s.length, true), some (.int b, false), some (.int n, false), x4]) ∧ s' = s ++ [.lst (B.map .int)] ∧ Kmp f n b ∧ (f n = f b ∨ (b = 0 ∧ f n ≠ f b))) ?_ (fun loc s' ⟨b, ⟨x4, eloc⟩, e2, hk, hb⟩ => ?_))
    · refine ws_while (n := lb f n) (fun m loc s' => ∃ b : Nat, b = m ∧ (∃ (x4 : Option (D × Bool)), loc = [some (x, false), some (.hnd s.length, true), some (.int b, false), some (.int n, false), x4]) ∧ s' = s ++ [.lst (B.map .int)] ∧ Kmp f n b) (by exact ⟨_, rfl, ⟨_, rfl⟩, rfl, kmp_start hn1⟩) (fun m loc s' ⟨b, em, ⟨x4, eloc⟩, e2, hk⟩ => ?_)
      subst em eloc e2
      have hbn : b < n := hk.1.1
      decreasing_tactic
      refine cond_s (fun hb => ?_) (fun hb => ?_)
      · decreasing_tactic
        refine wo_ix (hx' _) (at_c n hn2) ?_
        decreasing_tactic
        refine wo_ix (hx' _) (at_c b (by omega)) ?_
        decreasing_tactic
        refine cond_s (fun he => ?_) (fun he => ?_)
        · exact mid_nx ⟨b, ⟨_, rfl⟩, rfl, hk, .inl he⟩
        · decreasing_tactic
          refine wo_ix (rd_0 rfl) (B_at b (by omega)) ?_
          decreasing_tactic
          exact ⟨lb f b, lb_lt (by omega), _, rfl, ⟨_, rfl⟩, rfl, kmp_step hk (by omega) he⟩
      · have hb0 : b = 0 := by omega
        decreasing_tactic
        refine mid_nx ⟨b, ⟨_, rfl⟩, rfl, hk, ?_⟩
        by_cases he : f n = f b
        · exact .inl he
        · exact .inr ⟨hb0, he⟩
    · subst eloc e2
      have hbn : b < n := hk.1.1
      have fin : ∀ m : Nat, m = lb f (n + 1) → fnl (fun k => (lb f k : Int)) (n + 2) = B ++ [(m : Int)] := fun m hm => by rw [fnl_snoc, hB, hm]
      refine then_0 ?_
      decreasing_tactic
      refine wo_ix (hx' _) (at_c n hn2) ?_
      decreasing_tactic
      refine wo_ix (hx' _) (at_c b (by omega)) ?_
      decreasing_tactic
      have cont : ∀ m : Nat, m = lb f (n + 1) → FX.WE (eMut mAppend (eVar 1) (aConsE (eVar 2) aNilE)) ⟨[some (x, false), some (.hnd s.length, true), some (.int m, false), some (.int n, false), x4], s ++ [.lst (B.map .int)]⟩ fun _ _ s1 => Then sNil
          (Turn (Then (sSeq (sRet (eComp (itEnum (aConsE (eVar 1) aNilE)) (aTup 2 (aCons (aName 4) (aCons (aName 2) aNil))) cYes (eBin gSub (eVar 4) (eVar 2)) [4, 2])) sNil) (Ret s.length Q)) fun loc s' => (∃ (x3 x4 : Option (D × Bool)), loc = [some (x, false), some (.hnd s.length, true), some (.int (lb f (n + 1) : Nat), false), x3, x4]) ∧ s' = s ++ [.lst ((fnl (fun k => (lb f k : Int)) (n + 2)).map .int)])
          (.nx ⟨[some (x, false), some (.hnd s.length, true), some (.int m, false), some (.int n, false), x4], s1⟩) := by
        intro m hm
        refine we_app ?_
        decreasing_tactic
        refine ⟨_, B, m, rfl, rfl, rd_0 rfl, rd_0 rfl, by rw [size_eq]; omega, ?_⟩
        rw [set_0 rfl]
        decreasing_tactic
        rw [← fin m hm, hm]
        exact ⟨⟨_, _, rfl⟩, rfl⟩
      refine cond_s (fun he => ?_) (fun he => ?_)
      · decreasing_tactic
        rw [show (b : Int) + 1 = ((b + 1 : Nat) : Int) by omega]
        exact cont _ (kmp_yes hk he)
      · rcases hb with hb | ⟨hb, _⟩
        · exact absurd hb he
        · subst hb
          decreasing_tactic
          exact cont _ (kmp_no hk he)
  · subst eloc h2'
    have e1 : ((c.length : Int) - 1).toNat + 2 = c.length + 1 := by omega
    rw [e1]
    obtain ⟨B, hB⟩ : ∃ B, B = fnl (fun k => (lb f k : Int)) (c.length + 1) := ⟨_, rfl⟩
    have eq : (B.zipIdx.map fun p => (fun (k : Nat) (v : Int) => (k : Int) - v) p.2 p.1) = lps c := by
      rw [hB]
      refine (fnl_zip (g := fun k => (lb f k : Int)) (F := fun (k : Nat) (v : Int) => (k : Int) - v) (m := c.length + 1)).trans (fnl_congr fun k hk => ?_)
      rw [← hf]
      show (k : Int) - ((lb f k : Nat) : Int) = (lp f k : Int)
      unfold lb
      have : lp f k ≤ k := by
        rcases Nat.eq_zero_or_pos k with z | z
        · subst z; exact Nat.le_refl _
        · exact (lp_spec z).2.1
      omega
    rw [← hB]
    have lB : B.length = c.length + 1 := by rw [hB]; exact fnl_len
    decreasing_tactic
    refine comp_pre (by simp only [wipeL, List.set_cons_zero, List.set_cons_succ]; rfl) ?_
    refine comp_enumI (fun k v => (k : Int) - v) rfl (rd_0 rfl) (by omega) (fun k v hv => ?_) ?_
    · simp only [List.set_cons_zero, List.set_cons_succ]
      decreasing_tactic
      exact ⟨rfl, rfl⟩
    · rw [eq]
      decreasing_tactic
      exact q
theorem telling_w {n w : Int} {r : List Int} (hp : PC s) (hw : vw s d = .lst ((w :: r).map .int)) (ok : okw (w :: r)) (n0 : 0 ≤ n) (q : Q (.lst ((cols (w :: r) (min n (2 * w)).toNat).map .int)) 2 s) : WC (S_telling_columns K) [d, .int n] s Q := by
  have hn : s.length = s.length := rfl
  have hc : PC (s ++ []) := hp.app .nil
  have hw' : vw (s ++ []) d = .lst ((w :: r).map .int) := vw_app hw
  have w0 := ok.2 w (by simp)
  ((apply FX.wc_def rfl; focus (simp only [List.map_cons, List.map_nil, List.cons_append, List.nil_append, List.replicate]; try rfl)))
  unfold B_telling_columns
  decreasing_tactic
  refine wo_ix hw' atI_0 ?_
  decreasing_tactic
  refine first_columns_w hc hw' ok (by omega) (by omega) ?_
  decreasing_tactic
  exact q
theorem descent_of_w {x : D} {c : List Int} (hp : PC s) (hx : vw s x = .lst (c.map .int)) (h1 : 1 ≤ c.length) (h2 : c.length ≤ 100000) (q : Q (.lst ((dsc (at0 c) c.length).map .int)) 1 s) : WC (S_descent_of K) [x] s Q := by
  have hn : s.length = s.length := rfl
  have hc : PC (s ++ []) := hp.app .nil
  have hx' : ∀ X, vw (s ++ X) x = .lst (c.map .int) := fun X => vw_app hx
  obtain ⟨f, hf⟩ : ∃ f, f = at0 c := ⟨_, rfl⟩
  have p_at : ∀ k : Nat, k ≤ c.length → atI (lps c) (k : Int) = some (lp f k : Int) := fun k hk => by rw [hf]; exact atI_nat (lps_at hk)
  ((apply FX.wc_def rfl; focus (simp only [List.map_cons, List.map_nil, List.cons_append, List.nil_append, List.replicate]; try rfl)))
  unfold B_descent_of
  decreasing_tactic
  refine least_periods_w hc (hx' _) h1 h2 ?_
  decreasing_tactic
  rw [← hf] at q
  refine ws_mid (fun loc s' => (∃ (x3 : Option (D × Bool)), loc = [some (x, false), some (.lst ((lps c).map .int), true), some (.hnd s.length, true), x3]) ∧ s' = s ++ [.lst ((dsc f c.length).map .int)]) ?_ (fun loc s' ⟨⟨x3, eloc⟩, e2⟩ => ?_)
  · refine ws_while (n := c.length) (fun m loc s' => ∃ (k : Nat) (F : List Int), k = m ∧ (loc = [some (x, false), some (.lst ((lps c).map .int), true), some (.hnd s.length, true), some (.int k, false)]) ∧ s' = s ++ [.lst (F.map .int)] ∧ k ≤ c.length ∧ F ++ dsc f k = dsc f c.length) (by exact ⟨_, [], rfl, rfl, rfl, Nat.le_refl _, rfl⟩) (fun m loc s' ⟨k, F, em, eloc, e2, hk, hF⟩ => ?_)
    subst em eloc e2
    have e0 := dsc_eq (f := f) (n := k)
    have lF : F.length ≤ c.length := by
      have := congrArg List.length hF
      rw [List.length_append] at this
      have := dsc_len (f := f) (n := c.length)
      omega
    decreasing_tactic
    refine wo_ix rfl (p_at k hk) ?_
    decreasing_tactic
    refine cond_s (fun h => ?_) (fun h => ?_)
    · have h' : lp f k < k := by omega
      rw [if_pos h'] at e0
      have h1' := (lp_spec (f := f) (n := k) (by omega)).1
      decreasing_tactic
      refine wo_ix rfl (p_at k hk) ?_
      decreasing_tactic
      refine we_app ?_
      decreasing_tactic
      refine ⟨_, F, _, rfl, rfl, rd_0 rfl, rd_0 rfl, by rw [size_eq]; omega, ?_⟩
      rw [set_0 rfl]
      decreasing_tactic
      refine ⟨lp f k, h', lp f k, F ++ [(lp f k : Int)], rfl, rfl, rfl, by omega, ?_⟩
      rw [← hF, e0]; simp
    · have h' : ¬lp f k < k := by omega
      rw [if_neg h'] at e0
      rw [e0, List.append_nil] at hF
      rw [← hF]
      exact mid_nx ⟨⟨_, rfl⟩, rfl⟩
  · subst eloc e2
    refine then_0 ?_
    decreasing_tactic
    exact ret_hnd hn hp (Nat.le_refl _) (rd_0 rfl) q
theorem normal_form_w (hp : PC s) (hw : vw s d = .lst (ws.map .int)) (ok : okw ws) (q : Q (.lst ((nf ws).map .int)) 2 s) : WC (S_normal_form K) [d] s Q := by
  have hn : s.length = s.length := rfl
  have hc : PC (s ++ []) := hp.app .nil
  have hw' : vw (s ++ []) d = .lst (ws.map .int) := vw_app hw
  ((apply FX.wc_def rfl; focus (simp only [List.map_cons, List.map_nil, List.cons_append, List.nil_append, List.replicate]; try rfl)))
  unfold B_normal_form
  decreasing_tactic
  refine check_widths_w hc hw' ok ?_
  decreasing_tactic
  refine cond_s (fun h => ?_) (fun h => ?_)
  · obtain ⟨w, r, rfl⟩ := List.exists_cons_of_ne_nil h
    have w0 := ok.2 w (by simp)
    decreasing_tactic
    refine wo_ix hw' atI_0 ?_
    decreasing_tactic
    refine telling_w hc hw' ok (by omega) ?_
    rw [show (min (2 * w) (2 * w)).toNat = 2 * w.toNat by omega]
    decreasing_tactic
    refine descent_of_w hc rfl (by rw [cols_len]; omega) (by rw [cols_len]; omega) ?_
    rw [cols_len, dsc_congr (g := rmN (w :: r)) fun x hx => at0_cols hx]
    decreasing_tactic
    exact q
  · have e : ws = [] := by simpa using h
    subst e
    decreasing_tactic
    exact q
/-- the random numbers at cell i, with at most m mixed so far -/
def Nu (s : Sto) (i : Nat) (m : Int) : Prop := ∃ a c n : Int, rd s i = .lst ([a, c, n].map .int) ∧ 0 ≤ a ∧ -(10 ^ 40) ≤ c ∧ c < 10 ^ 40 ∧ 0 ≤ n ∧ n ≤ m
theorem Nu.lt {s i m} (h : Nu s i m) : i < s.length := by
  obtain ⟨a, c, n, h, _⟩ := h
  by_cases hi : i < s.length
  · exact hi
  · unfold rd at h; rw [List.getD_eq_getElem?_getD, List.getElem?_eq_none (by omega)] at h; cases h
theorem Nu.mono {s i m m'} (h : Nu s i m) (l : m ≤ m') : Nu s i m' := by
  obtain ⟨a, c, n, h, h1, h2, h3, h4, h5⟩ := h
  exact ⟨a, c, n, h, h1, h2, h3, h4, by omega⟩
theorem Nu.rd {s s' i m} (h : Nu s i m) (e : rd s' i = rd s i) : Nu s' i m := by
  obtain ⟨a, c, n, h, h1⟩ := h
  exact ⟨a, c, n, e.trans h, h1⟩
theorem Nu.app {s i m c} (h : Nu s i m) : Nu (s ++ c) i m := h.rd (rd_app h.lt)
theorem oth_set {c : D} {i : Nat} : Oth i s (s.set i c) := fun j q => rd_set_ne (Ne.symm q)
theorem wvw_hnd {i : Nat} {c : D} {cs : List D} (h : rd s i = c) (hc : c = .lst ds) : vw (s ++ cs) (.hnd i) = .lst ds := vw_app (d := .hnd i) (by rw [← hc, ← h]; rfl)
set_option maxHeartbeats 1000000 in
set_option exponentiation.threshold 400 in
theorem take_w {i n : Nat} {s cs : Sto} {m b : Int} (hn : s.length = n) (hs : PC s) (hc : PC cs) (hN : Nu s i m) (hm : m < 2 ^ 200) (hb : 0 < b) (hb2 : b < 2 ^ 249)
    (q : ∀ r s', 0 ≤ r → r < b → s'.length = n → PC s' → Nu s' i (m + 1) → Oth i s s' → Q (.int r) 0 (s' ++ cs)) : WC (S__law_take K) [.hnd i, .int b] (s ++ cs) Q := by
  have hi := hN.lt
  obtain ⟨a, c, t, hr, ha, c0, c1, t0, t1⟩ := hN
  have lb : b.natAbs.log2 < 9000 := log_le hb (by omega)
  have hR : vw ((s ++ cs) ++ []) (.hnd i) = .lst ([a, c, t].map .int) := vw_app (vw_app hr)
  have hr' : rd ((s ++ cs) ++ []) i = .lst ([a, c, t].map .int) := hR
  have fin : ∀ a' c' t' : Int, (s ++ cs ++ []).set i (.lst ([a', c', t'].map .int)) = (s.set i (.lst ([a', c', t'].map .int)) ++ cs) ++ [] := by
    intro a' c' t'
    rw [List.append_nil, List.append_nil, List.set_append_left _ _ hi]
  have fi2 : ∀ a' c' t' : Int, PC (s.set i (.lst ([a', c', t'].map .int)) ++ cs) := fun a' c' t' => (hs.set pl_ints).app hc
  have ln2 : ∀ a' c' t' : Int, (s.set i (.lst ([a', c', t'].map .int)) ++ cs).length = (s ++ cs).length := fun a' c' t' => by simp
  have nu2 : ∀ a' t' m' : Int, 0 ≤ a' → 0 ≤ t' → t' ≤ m' → Nu (s.set i (.lst ([a', c, t'].map .int))) i m' := fun a' t' m' z1 z2 z3 => ⟨a', c, t', rd_set hi, z1, c0, c1, z2, z3⟩
  ((apply FX.wc_def rfl; focus (simp only [List.map_cons, List.map_nil, List.cons_append, List.nil_append, List.replicate]; try rfl)))
  unfold B__law_take
  decreasing_tactic
  refine wo_ix hR atI_0 ?_
  decreasing_tactic
  refine cond_s (fun h => ?_) (fun h => ?_)
  · decreasing_tactic
    refine wo_ix hR atI_0 ?_
    decreasing_tactic
    refine ws_setix ?_
    decreasing_tactic
    refine wo_ix hR atI_0 ?_
    decreasing_tactic
    refine ⟨_, _, _, _, rfl, rfl, hr', by simp [ixN]; rfl, ?_⟩
    decreasing_tactic
    show Ret _ _ (.ret _ _ ((s ++ cs ++ []).set i (.lst ([a / b, c, t].map .int))))
    rw [fin]
    refine ret_int (ln2 _ _ _) (fi2 _ _ _) ?_
    exact q _ _ (Int.emod_nonneg _ (by omega)) (Int.emod_lt_of_pos _ hb) (by simpa using hn) (hs.set pl_ints) (nu2 _ _ _ (Int.ediv_nonneg ha (by omega)) t0 (by omega)) oth_set
  · have t3 : t + 1 < 2 ^ 201 := by omega
    decreasing_tactic
    refine ws_setix ?_
    decreasing_tactic
    refine wo_ix hR atI_2 ?_
    decreasing_tactic
    refine ⟨_, _, _, _, rfl, rfl, hr', by simp [ixN]; rfl, ?_⟩
    rw [show (List.map D.int [a, c, t]).set 2 (.int (t + 1)) = [a, c, t + 1].map .int from rfl, fin]
    have hV : vw ((s.set i (.lst ([a, c, t + 1].map .int)) ++ cs) ++ []) (.hnd i) = .lst ([a, c, t + 1].map .int) := vw_app (vw_app (show rd _ i = _ from rd_set hi))
    decreasing_tactic
    refine wo_ix hV atI_1 ?_
    decreasing_tactic
    refine wo_ix hV atI_2 ?_
    decreasing_tactic
    refine wo_ix hV atI_2 ?_
    decreasing_tactic
    exact ret_int (ln2 _ _ _) (fi2 _ _ _) (q _ _ (Int.emod_nonneg _ (by omega)) (Int.emod_lt_of_pos _ hb) (by simpa using hn) (hs.set pl_ints) (nu2 _ _ _ ha (by omega) (by omega)) oth_set)

set_option exponentiation.threshold 400 in
theorem bag_w {ns : List Int} {k : Int} (hp : PC s) (h0 : 0 ≤ k) (h1 : k ≤ 1000) (hl : ns.length ≤ 63) (hb : ∀ z ∈ ns, Builtin.Int.intBits z ≤ 1048576)
    (q : ∀ a c : Int, 0 ≤ a → -(10 ^ 40) ≤ c → c < 10 ^ 40 → Q (.lst ([a, c, 0].map .int)) 2 s) : WC (S__law_bag K) [.scr ns, .int k] s Q := by
  have hn : s.length = s.length := rfl
  have hc : PC (s ++ []) := hp.app .nil
  ((apply FX.wc_def rfl; focus (simp only [List.map_cons, List.map_nil, List.cons_append, List.nil_append, List.replicate]; try rfl)))
  unfold B__law_bag
  decreasing_tactic
  refine cond_s (fun h => ?_) (fun h => ?_)
  · obtain ⟨j, rfl⟩ : ∃ j : Nat, k = j := ⟨k.toNat, by omega⟩
    have hj : j < ns.length := by omega
    decreasing_tactic
    refine wo_ixscr (atI_nat (List.getElem?_eq_getElem hj)) ?_
    have hz := sz_bits (hb _ (List.getElem_mem hj))
    obtain ⟨z, hzz⟩ : ∃ z, z = ns[j] := ⟨_, rfl⟩
    rw [← hzz] at hz ⊢
    have z0 := Int.emod_nonneg z (show (10 ^ 35 + 7 : Int) ≠ 0 by decide)
    have z1 := Int.emod_lt_of_pos z (show (0 : Int) < 10 ^ 35 + 7 by decide)
    decreasing_tactic
    exact q _ _ (by omega) (by omega) (by omega)
  · decreasing_tactic
    exact q _ _ (by omega) (by omega) (by omega)
set_option exponentiation.threshold 400 in
theorem chain_w {h n : Nat} {s cs : Sto} {m most top : Int} (hn : s.length = n) (hs : PC s) (hc : PC cs) (hN : Nu s h m) (hm : m + 1000 < 2 ^ 200) (h0 : 0 ≤ most) (h1 : most ≤ 100) (w0 : 1 ≤ top) (w1 : top ≤ 10000)
    (q : ∀ (ws : List Int) s', ws.length ≤ most → (∀ x ∈ ws, 1 ≤ x ∧ x ≤ top) → s'.length = n → PC s' → Nu s' h (m + 2 + 4 * most) → Oth h s s' → Q (.lst (ws.map .int)) 1 (s' ++ cs)) : WC (S__law_chain K) [.hnd h, .int most, .int top] (s ++ cs) Q := by
  have hh := hN.lt
  obtain ⟨k, hk⟩ : ∃ k, cs.length = k := ⟨_, rfl⟩
  ((apply FX.wc_def rfl; focus (simp only [List.map_cons, List.map_nil, List.cons_append, List.nil_append, List.replicate]; try rfl)))
  unfold B__law_chain
  rw [List.append_nil]
  decreasing_tactic
  refine take_w hn hs (by sizeOf_list_dec) hN (by omega) (by omega) (by omega) (fun st s1 t0 t1 l1 p1 n1 o1 => ?_)
  decreasing_tactic
  refine take_w l1 p1 (by sizeOf_list_dec) n1 (by omega) (by omega) (by omega) (fun t s2 u0 u1 l2 p2 n2 o2 => ?_)
  decreasing_tactic
  refine for_rng (fun (i : Nat) loc s' => ∃ (s3 : Sto) (ws : List Int) (z5 z6 z7 z8 : Option (D × Bool)), loc = [some (.hnd h, false), some (.int most, false), some (.int top, false), some (.hnd (n + k), false), some (.int st, false), z5, z6, z7, z8] ∧ s' = s3 ++ (cs ++ [.lst (ws.map .int)]) ∧ ws.length = i ∧ (∀ x ∈ ws, 1 ≤ x ∧ x ≤ top) ∧ s3.length = n ∧ PC s3 ∧ Nu s3 h (m + 2 + 4 * i) ∧ Oth h s s3)
    (by exact ⟨s2, [], none, none, none, none, rfl, rfl, rfl, (by simp), l2, p2, n2.mono (by omega), o1.trans o2⟩) (fun _ _ _ _ _ => trivial) (fun i loc s' hi ⟨s3, ws, z5, z6, z7, z8, e1, e2, lw, hw, l3, p3, n3, o3⟩ => ?_) (fun loc s' ⟨s3, ws, z5, z6, z7, z8, e1, e2, lw, hw, l3, p3, n3, o3⟩ => ?_)
  · subst e1 e2
    simp only [List.set_cons_zero, List.set_cons_succ]
    refine ws_seq (ws_set (WE.mono (Q' := fun d l s' => ∃ last, d = .int last ∧ l = 0 ∧ s' = s3 ++ (cs ++ [.lst (ws.map .int)]) ∧ 1 ≤ last ∧ last ≤ top) ?_ ?_))
    · decreasing_tactic
      refine cond_s (fun hws => ?_) (fun hws => ?_)
      · decreasing_tactic
        exact ⟨top, rfl, rfl, rfl, w0, Int.le_refl _⟩
      · rcases List.eq_nil_or_concat ws with q0 | ⟨k0, x, q0⟩
        · exact absurd q0 hws
        · rw [List.concat_eq_append] at q0
          decreasing_tactic
          refine wo_ix (rd_kx l3 hk) (by rw [q0]; exact atI_last) ?_
          have := hw x (by rw [q0]; simp)
          exact ⟨x, rfl, rfl, rfl, this.1, this.2⟩
    · rintro d l s' ⟨last, rfl, rfl, rfl, a0, a1⟩
      decreasing_tactic
      refine take_w l3 p3 (by sizeOf_list_dec) n3 (by omega) (by omega) (by omega) (fun r1 s4 b0 b1 l4 p4 n4 o4 => ?_)
      decreasing_tactic
      refine take_w l4 p4 (by sizeOf_list_dec) n4 (by omega) (by omega) (by omega) (fun r2 s5 b2 b3 l5 p5 n5 o5 => ?_)
      decreasing_tactic
      refine take_w l5 p5 (by sizeOf_list_dec) n5 (by omega) (by omega) (by omega) (fun r3 s6 b4 b5 l6 p6 n6 o6 => ?_)
      decreasing_tactic
      refine we_app ?_
      decreasing_tactic
      refine take_w l6 p6 (by sizeOf_list_dec) n6 (by omega) (by omega) (by omega) (fun r4 s7 b6 b7 l7 p7 n7 o7 => ?_)
      decreasing_tactic
      refine wo_ixany rfl (by omega) (by simp; omega) (fun z hz _ => ?_)
      simp only [List.mem_cons, List.not_mem_nil, or_false] at hz
      refine ⟨_, ws, z, rfl, rfl, rd_kx l6 hk, rd_kx l7 hk, by rw [size_eq]; omega, ?_⟩
      rw [set_kx l7 hk]
      decreasing_tactic
      refine ⟨s7, ws ++ [z], _, _, _, _, rfl, rfl, by simp [lw], fun x hx => ?_, l7, p7, n7.mono (by omega), o3.trans (o4.trans (o5.trans (o6.trans o7)))⟩
      rcases List.mem_append.mp hx with h1 | h1
      · exact hw x h1
      · rw [List.mem_singleton.mp h1]; omega
  · subst e1 e2
    have hp3 : PC (s3 ++ cs) := p3.app hc
    have hl3 : (s3 ++ cs).length = (s ++ cs).length := by simp [l3, hn]
    rw [← List.append_assoc]
    decreasing_tactic
    refine ret_hnd hl3 hp3 (by simp [hn, hk]) (show rd (s3 ++ cs ++ [.lst (ws.map .int)]) (n + k) = _ by rw [List.append_assoc]; exact rd_kx l3 hk) ?_
    exact q _ _ (by omega) hw l3 p3 (n3.mono (by omega)) o3
theorem broken_w {p : Int} (hp : PC s) (hw : vw s d = .lst (ws.map .int)) (ok : okw ws) (h0 : 0 ≤ p) (h1 : p ≤ 8000000) (q : Q (.lst ((pcs ws p).map .int)) 1 s) : WC (S__law_broken K) [d, .int p] s Q := by
  have hn : s.length = s.length := rfl
  have hw' : ∀ X, vw (s ++ X) d = .lst (ws.map .int) := fun X => vw_app hw
  have hpos : ∀ x ∈ ws, 1 ≤ x := fun x hx => (ok.2 x hx).1
  have e0 : (List.replicate (if decide (0 < p) = true then (1 : Int) else 0).toNat [p]).flatten = pcs [] p := by
    unfold pcs
    by_cases h : 0 < p
    · simp [h]
    · simp [h]
  ((apply FX.wc_def rfl; focus (simp only [List.map_cons, List.map_nil, List.cons_append, List.nil_append, List.replicate]; try rfl)))
  unfold B__law_broken
  decreasing_tactic
  refine wo_mull rfl (by split <;> omega) (by split <;> omega) (by simp; split <;> omega) ?_
  rw [e0]
  decreasing_tactic
  refine for_ints (fun i loc s' => ∃ (dv : D) (X : Sto), (∃ (x3 x4 x5 x6 x7 : Option (D × Bool)), loc = [some (d, false), some (.int p, false), some (dv, true), x3, x4, x5, x6, x7]) ∧ s' = s ++ X ∧ PC X ∧ vw (s ++ X) dv = .lst ((pcs (ws.take i) p).map .int) ∧ (dv = .lst ((pcs (ws.take i) p).map .int) ∨ ∃ j, s.length ≤ j ∧ dv = .hnd j))
    (by exact ⟨_, [], ⟨_, _, _, _, _, rfl⟩, rfl, PC.nil, rfl, .inl rfl⟩) (fun i loc s' _ ⟨dv, X, _, h2, _⟩ => by rw [h2]; exact hw' X) (fun i w loc s' hz ⟨dv, X, ⟨x3, x4, x5, x6, x7, eloc⟩, h2, pX, hv, hd⟩ => ?_) (fun loc s' ⟨dv, X, ⟨x3, x4, x5, x6, x7, eloc⟩, h2, pX, hv, hd⟩ => ?_)
  · subst eloc h2
    have w0 := ok.2 w (List.mem_of_getElem? hz)
    have hpre : ∀ x ∈ ws.take i, 1 ≤ x := fun x hx => hpos x (List.mem_of_mem_take hx)
    have hnew : ∀ x ∈ ws.take i ++ [w], 1 ≤ x := fun x hx => by
      rcases List.mem_append.mp hx with h | h
      · exact hpre x h
      · rw [List.mem_singleton.mp h]; omega
    have etk : ws.take (i + 1) = ws.take i ++ [w] := by rw [List.take_add_one, hz]; rfl
    obtain ⟨L, hL⟩ : ∃ L, L = pcs (ws.take i) p := ⟨_, rfl⟩
    have hLp : ∀ x ∈ L, 1 ≤ x ∧ x ≤ p := by rw [hL]; exact pcs_pos _ p hpre h0
    have hfull : L.flatMap (pcs [w]) = pcs (ws.take i ++ [w]) p := by rw [hL, pcs_snoc _ w p hpre h0]
    have hlen : ((L.flatMap (pcs [w])).length : Int) ≤ p := by rw [hfull]; exact pcs_le hnew h0
    rw [← hL] at hv
    clear hd
    obtain ⟨k, hk⟩ : ∃ k, X.length = k := ⟨_, rfl⟩
    have hvX : ∀ c, vw (s ++ (X ++ [c])) dv = .lst (L.map .int) := fun c => by rw [← List.append_assoc]; exact vw_app hv
    simp only [List.set_cons_zero, List.set_cons_succ]
    decreasing_tactic
    refine seqq (hvX _) ?_
    refine for_ints (fun j loc s' => (∃ (x5 x6 x7 : Option (D × Bool)), loc = [some (d, false), some (.int p, false), some (dv, true), some (.int w, false), some (.hnd (s.length + k), true), x5, x6, x7]) ∧ s' = s ++ (X ++ [.lst (((L.take j).flatMap (pcs [w])).map .int)])) (by exact ⟨⟨_, _, _, rfl⟩, rfl⟩) (fun j loc s' _ ⟨_, h⟩ => by rw [h]; exact hvX _) (fun j x loc s' hx ⟨⟨x5, x6, x7, eloc⟩, h2⟩ => ?_) (fun loc s' ⟨⟨x5, x6, x7, eloc⟩, h2⟩ => ?_)
    · subst eloc h2
      have x0 := hLp x (List.mem_of_getElem? hx)
      have etj : (L.take (j + 1)).flatMap (pcs [w]) = (L.take j).flatMap (pcs [w]) ++ pcs [w] x := by rw [List.take_add_one, hx]; simp
      have el : ((L.take (j + 1)).flatMap (pcs [w])).length ≤ (L.flatMap (pcs [w])).length := by
        conv => rhs; rw [← List.take_append_drop (j + 1) L, List.flatMap_append, List.length_append]
        omega
      obtain ⟨M, hM⟩ : ∃ M, M = (L.take j).flatMap (pcs [w]) := ⟨_, rfl⟩
      rw [etj, ← hM, List.length_append] at el
      rw [etj, ← hM]
      have c0 := Int.ediv_nonneg (show 0 ≤ x by omega) (show 0 ≤ w by omega)
      have c1 := Int.ediv_le_self w (show 0 ≤ x by omega)
      have m0 := Int.emod_nonneg x (show w ≠ 0 by omega)
      obtain ⟨g, hg⟩ : ∃ g, g = x / w := ⟨_, rfl⟩
      obtain ⟨r, hr⟩ : ∃ r, r = x % w := ⟨_, rfl⟩
      have ep : pcs [w] x = List.replicate g.toNat w ++ if 0 < r then [r] else [] := by rw [hg, hr]; exact pcs_dm w0.1
      have e3 : (List.replicate g.toNat [w]).flatten = List.replicate g.toNat w := by
        generalize g.toNat = n
        induction n with
        | zero => rfl
        | succ n ih => rw [List.replicate_succ, List.replicate_succ, List.flatten_cons, ih]; rfl
      have e4 : (List.replicate (if decide (0 < r) = true then (1 : Int) else 0).toNat [r]).flatten = if 0 < r then [r] else [] := by
        by_cases h : 0 < r
        · simp [h]
        · simp [h]
      rw [ep] at el ⊢
      rw [← hg] at c0 c1
      rw [← hr] at m0
      simp only [List.set_cons_zero, List.set_cons_succ]
      decreasing_tactic
      rw [← hg, ← hr]
      refine we_ext ?_
      decreasing_tactic
      refine wo_mull rfl (by omega) (by omega) (by simp; omega) ?_
      rw [e3]
      decreasing_tactic
      refine wo_mull rfl (by split <;> omega) (by split <;> omega) (by simp; split <;> omega) ?_
      rw [e4]
      refine wo_addl rfl rfl (by simp only [List.length_replicate]; split <;> simp <;> omega) ?_
      refine ⟨_, M, _, rfl, rfl, rd_kx rfl hk, rd_kx rfl hk, by rw [size_eq]; simp only [List.length_append] at el ⊢; omega, ?_⟩
      rw [set_kx rfl hk]
      decreasing_tactic
      exact ⟨⟨_, _, _, rfl⟩, rfl⟩
    · subst eloc h2
      rw [List.take_length, hfull, ← etk]
      decreasing_tactic
      refine ⟨_, _, ⟨_, _, _, _, _, rfl⟩, rfl, pX.app (.cons pl_ints .nil), rd_kx rfl hk, .inr ⟨_, Nat.le_add_right _ _, rfl⟩⟩
  · subst eloc h2
    rw [List.take_length] at hv hd
    decreasing_tactic
    rcases hd with rfl | ⟨j, hj, rfl⟩
    · exact ret_ints hn hp q
    · exact ret_hnd hn hp hj hv q
theorem law_cols_w {x : D} {zs : List Int} (hp : PC s) (hx : vw s x = .lst (zs.map .int)) (h0 : ∀ z ∈ zs, 0 ≤ z ∧ z ≤ 1000000) (hl : (zs.flatMap fun z => rg 0 z.toNat).length ≤ 1000000) (q : Q (.lst ((zs.flatMap fun z => rg 0 z.toNat).map .int)) 1 s) : WC (S__law_cols K) [x] s Q := by
  have hn : s.length = s.length := rfl
  have hx' : ∀ X, vw (s ++ X) x = .lst (zs.map .int) := fun X => vw_app hx
  ((apply FX.wc_def rfl; focus (simp only [List.map_cons, List.map_nil, List.cons_append, List.nil_append, List.replicate]; try rfl)))
  unfold B__law_cols
  decreasing_tactic
  refine for_ints (fun i loc s' => (∃ (x2 : Option (D × Bool)), loc = [some (x, false), some (.hnd s.length, true), x2]) ∧ s' = s ++ [.lst (((zs.take i).flatMap fun z => rg 0 z.toNat).map .int)]) (by exact ⟨⟨_, rfl⟩, rfl⟩) (fun i loc s' _ ⟨_, h⟩ => by rw [h]; exact hx' _) (fun i z loc s' hz ⟨⟨x2, eloc⟩, h2⟩ => ?_) (fun loc s' ⟨⟨x2, eloc⟩, h2⟩ => ?_)
  · subst eloc h2
    have z0 := h0 z (List.mem_of_getElem? hz)
    have et : (zs.take (i + 1)).flatMap (fun z => rg 0 z.toNat) = (zs.take i).flatMap (fun z => rg 0 z.toNat) ++ rg 0 z.toNat := by rw [List.take_add_one, hz]; simp
    have el : ((zs.take (i + 1)).flatMap (fun z => rg 0 z.toNat)).length ≤ (zs.flatMap fun z => rg 0 z.toNat).length := by
      conv => rhs; rw [← List.take_append_drop (i + 1) zs, List.flatMap_append, List.length_append]
      omega
    obtain ⟨M, hM⟩ : ∃ M, M = (zs.take i).flatMap (fun z => rg 0 z.toNat) := ⟨_, rfl⟩
    rw [et, ← hM, List.length_append] at el
    rw [et, ← hM]
    simp only [List.set_cons_zero, List.set_cons_succ]
    decreasing_tactic
    refine we_ext ?_
    decreasing_tactic
    refine ⟨_, M, _, rfl, rfl, rd_0 rfl, rd_0 rfl, by rw [size_eq]; omega, ?_⟩
    rw [set_0 rfl]
    decreasing_tactic
    exact ⟨⟨_, rfl⟩, rfl⟩
  · subst eloc h2
    rw [List.take_length]
    decreasing_tactic
    exact ret_hnd hn hp (Nat.le_refl _) (rd_0 rfl) q
theorem subsets_w {n : Nat} (hp : PC s) (h1 : n ≤ 20) (q : Q (.lst (LD (subs n))) 1 s) : WC (S__law_subsets K) [.int ((n : Int) + 1)] s Q := by
  have hn : s.length = s.length := rfl
  ((apply FX.wc_def rfl; focus (simp only [List.map_cons, List.map_nil, List.cons_append, List.nil_append, List.replicate]; try rfl)))
  unfold B__law_subsets
  (repeat' (first | (with_reducible refine wi_seqt ?_) | array_get_dec | (with_reducible refine tup_es ?_) | (first
  | (with_reducible refine we_srtset ?_)
  | (focus ((with_reducible apply wn_list); (focus ((first | exact rfl | assumption | exact FX.rd_0 (by assumption) | exact FX.rd_kx (by assumption) (by assumption) | exact FX.rd_k (by assumption) rfl | exact FX.vw_app (by assumption))))))
  | (focus ((with_reducible apply wo_in); (focus ((first | exact rfl | assumption | exact FX.rd_0 (by assumption) | exact FX.rd_kx (by assumption) (by assumption) | exact FX.rd_k (by assumption) rfl | exact FX.vw_app (by assumption))))))
  | (focus ((with_reducible apply wo_notin); (focus ((first | exact rfl | assumption | exact FX.rd_0 (by assumption) | exact FX.rd_kx (by assumption) (by assumption) | exact FX.rd_k (by assumption) rfl | exact FX.vw_app (by assumption))))))
  | (with_reducible refine wi_enumzip ?_)
  | (with_reducible refine we_dget ?_)
  | (focus ((with_reducible apply enumzipq); (focus ((first | exact rfl | assumption | exact FX.rd_0 (by assumption) | exact FX.rd_kx (by assumption) (by assumption) | exact FX.rd_k (by assumption) rfl | exact FX.vw_app (by assumption)))); (focus ((first | exact rfl | assumption | exact FX.rd_0 (by assumption) | exact FX.rd_kx (by assumption) (by assumption) | exact FX.rd_k (by assumption) rfl | exact FX.vw_app (by assumption))))))
  | (focus ((with_reducible apply dgq); (focus ((first | exact rfl | assumption | exact FX.rd_0 (by assumption) | exact FX.rd_kx (by assumption) (by assumption) | exact FX.rd_k (by assumption) rfl | exact FX.vw_app (by assumption)))); (focus ((first | exact rfl | assumption | exact FX.rd_0 (by assumption) | exact FX.rd_kx (by assumption) (by assumption) | exact FX.rd_k (by assumption) rfl | exact FX.vw_app (by assumption))))))
  | (with_reducible refine we_callMq ?_)
  | (focus ((with_reducible apply cmq); (focus exact rfl); (focus exact rfl); (focus (simp only [List.cons_append, List.nil_append, List.filterMap_cons, List.filterMap_nil, List.getElem?_cons_zero, List.getElem?_cons_succ]; try rfl))))
  | (with_reducible refine ws_asgL2 ?_)
  | (with_reducible refine ws_asg3 ?_)
  | (with_reducible refine tupk3 ?_)
  | (with_reducible refine we_revl ?_)
  | (focus ((with_reducible apply revlq); (focus ((first | exact rfl | assumption | exact FX.rd_0 (by assumption) | exact FX.rd_kx (by assumption) (by assumption) | exact FX.rd_k (by assumption) rfl | exact FX.vw_app (by assumption))))))
  | (with_reducible refine we_rdc ?_)
  | (with_reducible refine we_rdi ?_)
  | (with_reducible refine we_negq ?_)
  | (with_reducible refine negq ?_)
  | (focus ((with_reducible apply rdcq); (focus ((first | exact rfl | assumption | exact FX.rd_0 (by assumption) | exact FX.rd_kx (by assumption) (by assumption) | exact FX.rd_k (by assumption) rfl | exact FX.vw_app (by assumption)))); (focus ((first | exact rfl | assumption | exact FX.rd_0 (by assumption) | exact FX.rd_kx (by assumption) (by assumption) | exact FX.rd_k (by assumption) rfl | exact FX.vw_app (by assumption)))))))))
  refine for_rngDn (fun i loc s' => (∃ (x2 x3 : Option (D × Bool)), loc = [some (.int ((n : Int) + 1), false), some (.lst (LD (sb ((downs n).take i))), true), x2, x3]) ∧ s' = s ++ []) (by exact ⟨⟨_, _, rfl⟩, rfl⟩) (fun _ _ _ _ _ => trivial) (fun i loc s' hi ⟨⟨x2, x3, eloc⟩, e2⟩ => ?_) (fun loc s' ⟨⟨x2, x3, eloc⟩, e2⟩ => ?_)
  · subst eloc e2
    have hi' : i < n := by omega
    have hl : (sb ((downs n).take i)).length ≤ 1048576 := by
      rw [sb_len i (by rw [List.length_take, downs_len]; omega)]
      exact Nat.pow_le_pow_right (by decide) (show i ≤ 20 by omega)
    simp only [List.set_cons_zero, List.set_cons_succ]
    (repeat' (first | (with_reducible refine wi_seqt ?_) | array_get_dec | (with_reducible refine tup_es ?_) | (first
  | (with_reducible refine we_srtset ?_)
  | (focus ((with_reducible apply wn_list); (focus ((first | exact rfl | assumption | exact FX.rd_0 (by assumption) | exact FX.rd_kx (by assumption) (by assumption) | exact FX.rd_k (by assumption) rfl | exact FX.vw_app (by assumption))))))
  | (focus ((with_reducible apply wo_in); (focus ((first | exact rfl | assumption | exact FX.rd_0 (by assumption) | exact FX.rd_kx (by assumption) (by assumption) | exact FX.rd_k (by assumption) rfl | exact FX.vw_app (by assumption))))))
  | (focus ((with_reducible apply wo_notin); (focus ((first | exact rfl | assumption | exact FX.rd_0 (by assumption) | exact FX.rd_kx (by assumption) (by assumption) | exact FX.rd_k (by assumption) rfl | exact FX.vw_app (by assumption))))))
  | (with_reducible refine wi_enumzip ?_)
  | (with_reducible refine we_dget ?_)
  | (focus ((with_reducible apply enumzipq); (focus ((first | exact rfl | assumption | exact FX.rd_0 (by assumption) | exact FX.rd_kx (by assumption) (by assumption) | exact FX.rd_k (by assumption) rfl | exact FX.vw_app (by assumption)))); (focus ((first | exact rfl | assumption | exact FX.rd_0 (by assumption) | exact FX.rd_kx (by assumption) (by assumption) | exact FX.rd_k (by assumption) rfl | exact FX.vw_app (by assumption))))))
  | (focus ((with_reducible apply dgq); (focus ((first | exact rfl | assumption | exact FX.rd_0 (by assumption) | exact FX.rd_kx (by assumption) (by assumption) | exact FX.rd_k (by assumption) rfl | exact FX.vw_app (by assumption)))); (focus ((first | exact rfl | assumption | exact FX.rd_0 (by assumption) | exact FX.rd_kx (by assumption) (by assumption) | exact FX.rd_k (by assumption) rfl | exact FX.vw_app (by assumption))))))
  | (with_reducible refine we_callMq ?_)
  | (focus ((with_reducible apply cmq); (focus exact rfl); (focus exact rfl); (focus (simp only [List.cons_append, List.nil_append, List.filterMap_cons, List.filterMap_nil, List.getElem?_cons_zero, List.getElem?_cons_succ]; try rfl))))
  | (with_reducible refine ws_asgL2 ?_)
  | (with_reducible refine ws_asg3 ?_)
  | (with_reducible refine tupk3 ?_)
  | (with_reducible refine we_revl ?_)
  | (focus ((with_reducible apply revlq); (focus ((first | exact rfl | assumption | exact FX.rd_0 (by assumption) | exact FX.rd_kx (by assumption) (by assumption) | exact FX.rd_k (by assumption) rfl | exact FX.vw_app (by assumption))))))
  | (with_reducible refine we_rdc ?_)
  | (with_reducible refine we_rdi ?_)
  | (with_reducible refine we_negq ?_)
  | (with_reducible refine negq ?_)
  | (focus ((with_reducible apply rdcq); (focus ((first | exact rfl | assumption | exact FX.rd_0 (by assumption) | exact FX.rd_kx (by assumption) (by assumption) | exact FX.rd_k (by assumption) rfl | exact FX.vw_app (by assumption)))); (focus ((first | exact rfl | assumption | exact FX.rd_0 (by assumption) | exact FX.rd_kx (by assumption) (by assumption) | exact FX.rd_k (by assumption) rfl | exact FX.vw_app (by assumption)))))))))
    refine comp_pre (by simp only [wipeL, List.set_cons_zero, List.set_cons_succ]; rfl) ?_
    refine comp_ldL (fun c => c ++ [((n : Int) + 1 - 1 - i)]) rfl (by omega) (fun c hc => ?_) ?_
    · have hc' : c.length ≤ 20 := by
        have := ((sb_mem i (by rw [List.length_take, downs_len]; omega)).mp hc).length_le
        rw [List.length_take] at this
        omega
      simp only [List.set_cons_zero, List.set_cons_succ]
      (repeat' (first | (with_reducible refine wi_seqt ?_) | array_get_dec | (with_reducible refine tup_es ?_) | (first
  | (with_reducible refine we_srtset ?_)
  | (focus ((with_reducible apply wn_list); (focus ((first | exact rfl | assumption | exact FX.rd_0 (by assumption) | exact FX.rd_kx (by assumption) (by assumption) | exact FX.rd_k (by assumption) rfl | exact FX.vw_app (by assumption))))))
  | (focus ((with_reducible apply wo_in); (focus ((first | exact rfl | assumption | exact FX.rd_0 (by assumption) | exact FX.rd_kx (by assumption) (by assumption) | exact FX.rd_k (by assumption) rfl | exact FX.vw_app (by assumption))))))
  | (focus ((with_reducible apply wo_notin); (focus ((first | exact rfl | assumption | exact FX.rd_0 (by assumption) | exact FX.rd_kx (by assumption) (by assumption) | exact FX.rd_k (by assumption) rfl | exact FX.vw_app (by assumption))))))
  | (with_reducible refine wi_enumzip ?_)
  | (with_reducible refine we_dget ?_)
  | (focus ((with_reducible apply enumzipq); (focus ((first | exact rfl | assumption | exact FX.rd_0 (by assumption) | exact FX.rd_kx (by assumption) (by assumption) | exact FX.rd_k (by assumption) rfl | exact FX.vw_app (by assumption)))); (focus ((first | exact rfl | assumption | exact FX.rd_0 (by assumption) | exact FX.rd_kx (by assumption) (by assumption) | exact FX.rd_k (by assumption) rfl | exact FX.vw_app (by assumption))))))
  | (focus ((with_reducible apply dgq); (focus ((first | exact rfl | assumption | exact FX.rd_0 (by assumption) | exact FX.rd_kx (by assumption) (by assumption) | exact FX.rd_k (by assumption) rfl | exact FX.vw_app (by assumption)))); (focus ((first | exact rfl | assumption | exact FX.rd_0 (by assumption) | exact FX.rd_kx (by assumption) (by assumption) | exact FX.rd_k (by assumption) rfl | exact FX.vw_app (by assumption))))))
  | (with_reducible refine we_callMq ?_)
  | (focus ((with_reducible apply cmq); (focus exact rfl); (focus exact rfl); (focus (simp only [List.cons_append, List.nil_append, List.filterMap_cons, List.filterMap_nil, List.getElem?_cons_zero, List.getElem?_cons_succ]; try rfl))))
  | (with_reducible refine ws_asgL2 ?_)
  | (with_reducible refine ws_asg3 ?_)
  | (with_reducible refine tupk3 ?_)
  | (with_reducible refine we_revl ?_)
  | (focus ((with_reducible apply revlq); (focus ((first | exact rfl | assumption | exact FX.rd_0 (by assumption) | exact FX.rd_kx (by assumption) (by assumption) | exact FX.rd_k (by assumption) rfl | exact FX.vw_app (by assumption))))))
  | (with_reducible refine we_rdc ?_)
  | (with_reducible refine we_rdi ?_)
  | (with_reducible refine we_negq ?_)
  | (with_reducible refine negq ?_)
  | (focus ((with_reducible apply rdcq); (focus ((first | exact rfl | assumption | exact FX.rd_0 (by assumption) | exact FX.rd_kx (by assumption) (by assumption) | exact FX.rd_k (by assumption) rfl | exact FX.vw_app (by assumption)))); (focus ((first | exact rfl | assumption | exact FX.rd_0 (by assumption) | exact FX.rd_kx (by assumption) (by assumption) | exact FX.rd_k (by assumption) rfl | exact FX.vw_app (by assumption)))))))))
      exact ⟨rfl, rfl⟩
    · (repeat' (first | (with_reducible refine wi_seqt ?_) | array_get_dec | (with_reducible refine tup_es ?_) | (first
  | (with_reducible refine we_srtset ?_)
  | (focus ((with_reducible apply wn_list); (focus ((first | exact rfl | assumption | exact FX.rd_0 (by assumption) | exact FX.rd_kx (by assumption) (by assumption) | exact FX.rd_k (by assumption) rfl | exact FX.vw_app (by assumption))))))
  | (focus ((with_reducible apply wo_in); (focus ((first | exact rfl | assumption | exact FX.rd_0 (by assumption) | exact FX.rd_kx (by assumption) (by assumption) | exact FX.rd_k (by assumption) rfl | exact FX.vw_app (by assumption))))))
  | (focus ((with_reducible apply wo_notin); (focus ((first | exact rfl | assumption | exact FX.rd_0 (by assumption) | exact FX.rd_kx (by assumption) (by assumption) | exact FX.rd_k (by assumption) rfl | exact FX.vw_app (by assumption))))))
  | (with_reducible refine wi_enumzip ?_)
  | (with_reducible refine we_dget ?_)
  | (focus ((with_reducible apply enumzipq); (focus ((first | exact rfl | assumption | exact FX.rd_0 (by assumption) | exact FX.rd_kx (by assumption) (by assumption) | exact FX.rd_k (by assumption) rfl | exact FX.vw_app (by assumption)))); (focus ((first | exact rfl | assumption | exact FX.rd_0 (by assumption) | exact FX.rd_kx (by assumption) (by assumption) | exact FX.rd_k (by assumption) rfl | exact FX.vw_app (by assumption))))))
  | (focus ((with_reducible apply dgq); (focus ((first | exact rfl | assumption | exact FX.rd_0 (by assumption) | exact FX.rd_kx (by assumption) (by assumption) | exact FX.rd_k (by assumption) rfl | exact FX.vw_app (by assumption)))); (focus ((first | exact rfl | assumption | exact FX.rd_0 (by assumption) | exact FX.rd_kx (by assumption) (by assumption) | exact FX.rd_k (by assumption) rfl | exact FX.vw_app (by assumption))))))
  | (with_reducible refine we_callMq ?_)
  | (focus ((with_reducible apply cmq); (focus exact rfl); (focus exact rfl); (focus (simp only [List.cons_append, List.nil_append, List.filterMap_cons, List.filterMap_nil, List.getElem?_cons_zero, List.getElem?_cons_succ]; try rfl))))
  | (with_reducible refine ws_asgL2 ?_)
  | (with_reducible refine ws_asg3 ?_)
  | (with_reducible refine tupk3 ?_)
  | (with_reducible refine we_revl ?_)
  | (focus ((with_reducible apply revlq); (focus ((first | exact rfl | assumption | exact FX.rd_0 (by assumption) | exact FX.rd_kx (by assumption) (by assumption) | exact FX.rd_k (by assumption) rfl | exact FX.vw_app (by assumption))))))
  | (with_reducible refine we_rdc ?_)
  | (with_reducible refine we_rdi ?_)
  | (with_reducible refine we_negq ?_)
  | (with_reducible refine negq ?_)
  | (focus ((with_reducible apply rdcq); (focus ((first | exact rfl | assumption | exact FX.rd_0 (by assumption) | exact FX.rd_kx (by assumption) (by assumption) | exact FX.rd_k (by assumption) rfl | exact FX.vw_app (by assumption)))); (focus ((first | exact rfl | assumption | exact FX.rd_0 (by assumption) | exact FX.rd_kx (by assumption) (by assumption) | exact FX.rd_k (by assumption) rfl | exact FX.vw_app (by assumption)))))))))
      refine wo_addD rfl rfl (by rw [ld_len, ld_len, List.length_map]; omega) ?_
      (repeat' (first | (with_reducible refine wi_seqt ?_) | array_get_dec | (with_reducible refine tup_es ?_) | (first
  | (with_reducible refine we_srtset ?_)
  | (focus ((with_reducible apply wn_list); (focus ((first | exact rfl | assumption | exact FX.rd_0 (by assumption) | exact FX.rd_kx (by assumption) (by assumption) | exact FX.rd_k (by assumption) rfl | exact FX.vw_app (by assumption))))))
  | (focus ((with_reducible apply wo_in); (focus ((first | exact rfl | assumption | exact FX.rd_0 (by assumption) | exact FX.rd_kx (by assumption) (by assumption) | exact FX.rd_k (by assumption) rfl | exact FX.vw_app (by assumption))))))
  | (focus ((with_reducible apply wo_notin); (focus ((first | exact rfl | assumption | exact FX.rd_0 (by assumption) | exact FX.rd_kx (by assumption) (by assumption) | exact FX.rd_k (by assumption) rfl | exact FX.vw_app (by assumption))))))
  | (with_reducible refine wi_enumzip ?_)
  | (with_reducible refine we_dget ?_)
  | (focus ((with_reducible apply enumzipq); (focus ((first | exact rfl | assumption | exact FX.rd_0 (by assumption) | exact FX.rd_kx (by assumption) (by assumption) | exact FX.rd_k (by assumption) rfl | exact FX.vw_app (by assumption)))); (focus ((first | exact rfl | assumption | exact FX.rd_0 (by assumption) | exact FX.rd_kx (by assumption) (by assumption) | exact FX.rd_k (by assumption) rfl | exact FX.vw_app (by assumption))))))
  | (focus ((with_reducible apply dgq); (focus ((first | exact rfl | assumption | exact FX.rd_0 (by assumption) | exact FX.rd_kx (by assumption) (by assumption) | exact FX.rd_k (by assumption) rfl | exact FX.vw_app (by assumption)))); (focus ((first | exact rfl | assumption | exact FX.rd_0 (by assumption) | exact FX.rd_kx (by assumption) (by assumption) | exact FX.rd_k (by assumption) rfl | exact FX.vw_app (by assumption))))))
  | (with_reducible refine we_callMq ?_)
  | (focus ((with_reducible apply cmq); (focus exact rfl); (focus exact rfl); (focus (simp only [List.cons_append, List.nil_append, List.filterMap_cons, List.filterMap_nil, List.getElem?_cons_zero, List.getElem?_cons_succ]; try rfl))))
  | (with_reducible refine ws_asgL2 ?_)
  | (with_reducible refine ws_asg3 ?_)
  | (with_reducible refine tupk3 ?_)
  | (with_reducible refine we_revl ?_)
  | (focus ((with_reducible apply revlq); (focus ((first | exact rfl | assumption | exact FX.rd_0 (by assumption) | exact FX.rd_kx (by assumption) (by assumption) | exact FX.rd_k (by assumption) rfl | exact FX.vw_app (by assumption))))))
  | (with_reducible refine we_rdc ?_)
  | (with_reducible refine we_rdi ?_)
  | (with_reducible refine we_negq ?_)
  | (with_reducible refine negq ?_)
  | (focus ((with_reducible apply rdcq); (focus ((first | exact rfl | assumption | exact FX.rd_0 (by assumption) | exact FX.rd_kx (by assumption) (by assumption) | exact FX.rd_k (by assumption) rfl | exact FX.vw_app (by assumption)))); (focus ((first | exact rfl | assumption | exact FX.rd_0 (by assumption) | exact FX.rd_kx (by assumption) (by assumption) | exact FX.rd_k (by assumption) rfl | exact FX.vw_app (by assumption)))))))))
      rw [← ld_app, show (sb ((downs n).take i)) ++ (sb ((downs n).take i)).map (fun c => c ++ [((n : Int) + 1 - 1 - i)]) = sb ((downs n).take (i + 1)) by rw [downs_take_snoc hi', sb_snoc, show (n : Int) + 1 - 1 - i = ((n - i : Nat) : Int) by omega]]
      exact ⟨⟨_, _, rfl⟩, rfl⟩
  · subst eloc e2
    have e : (downs n).take ((n : Int) + 1 - 1 - 0).toNat = downs n := by rw [List.take_of_length_le (by rw [downs_len]; omega)]
    rw [e]
    refine then_0 ?_
    (repeat' (first | (with_reducible refine wi_seqt ?_) | array_get_dec | (with_reducible refine tup_es ?_) | (first
  | (with_reducible refine we_srtset ?_)
  | (focus ((with_reducible apply wn_list); (focus ((first | exact rfl | assumption | exact FX.rd_0 (by assumption) | exact FX.rd_kx (by assumption) (by assumption) | exact FX.rd_k (by assumption) rfl | exact FX.vw_app (by assumption))))))
  | (focus ((with_reducible apply wo_in); (focus ((first | exact rfl | assumption | exact FX.rd_0 (by assumption) | exact FX.rd_kx (by assumption) (by assumption) | exact FX.rd_k (by assumption) rfl | exact FX.vw_app (by assumption))))))
  | (focus ((with_reducible apply wo_notin); (focus ((first | exact rfl | assumption | exact FX.rd_0 (by assumption) | exact FX.rd_kx (by assumption) (by assumption) | exact FX.rd_k (by assumption) rfl | exact FX.vw_app (by assumption))))))
  | (with_reducible refine wi_enumzip ?_)
  | (with_reducible refine we_dget ?_)
  | (focus ((with_reducible apply enumzipq); (focus ((first | exact rfl | assumption | exact FX.rd_0 (by assumption) | exact FX.rd_kx (by assumption) (by assumption) | exact FX.rd_k (by assumption) rfl | exact FX.vw_app (by assumption)))); (focus ((first | exact rfl | assumption | exact FX.rd_0 (by assumption) | exact FX.rd_kx (by assumption) (by assumption) | exact FX.rd_k (by assumption) rfl | exact FX.vw_app (by assumption))))))
  | (focus ((with_reducible apply dgq); (focus ((first | exact rfl | assumption | exact FX.rd_0 (by assumption) | exact FX.rd_kx (by assumption) (by assumption) | exact FX.rd_k (by assumption) rfl | exact FX.vw_app (by assumption)))); (focus ((first | exact rfl | assumption | exact FX.rd_0 (by assumption) | exact FX.rd_kx (by assumption) (by assumption) | exact FX.rd_k (by assumption) rfl | exact FX.vw_app (by assumption))))))
  | (with_reducible refine we_callMq ?_)
  | (focus ((with_reducible apply cmq); (focus exact rfl); (focus exact rfl); (focus (simp only [List.cons_append, List.nil_append, List.filterMap_cons, List.filterMap_nil, List.getElem?_cons_zero, List.getElem?_cons_succ]; try rfl))))
  | (with_reducible refine ws_asgL2 ?_)
  | (with_reducible refine ws_asg3 ?_)
  | (with_reducible refine tupk3 ?_)
  | (with_reducible refine we_revl ?_)
  | (focus ((with_reducible apply revlq); (focus ((first | exact rfl | assumption | exact FX.rd_0 (by assumption) | exact FX.rd_kx (by assumption) (by assumption) | exact FX.rd_k (by assumption) rfl | exact FX.vw_app (by assumption))))))
  | (with_reducible refine we_rdc ?_)
  | (with_reducible refine we_rdi ?_)
  | (with_reducible refine we_negq ?_)
  | (with_reducible refine negq ?_)
  | (focus ((with_reducible apply rdcq); (focus ((first | exact rfl | assumption | exact FX.rd_0 (by assumption) | exact FX.rd_kx (by assumption) (by assumption) | exact FX.rd_k (by assumption) rfl | exact FX.vw_app (by assumption)))); (focus ((first | exact rfl | assumption | exact FX.rd_0 (by assumption) | exact FX.rd_kx (by assumption) (by assumption) | exact FX.rd_k (by assumption) rfl | exact FX.vw_app (by assumption)))))))))
    exact ret_ld hn hp q
end
end My

set_option Elab.async false
set_option linter.all false
set_option maxRecDepth 100000
namespace My
open PySem PySem.Spec PyProof.Rows L2 FX Ma
open Classical
local macro_rules
  | `(tactic| sizeOf_list_dec) => `(tactic| repeat' (first | assumption | exact PC.nil | (with_reducible refine PC.app ?_ ?_) | (with_reducible refine PC.cons ?_ ?_) | (first | assumption | exact FX.pl_ints | exact FX.pl_nil)))
local macro_rules
  | `(tactic| array_get_dec) => `(tactic| first
  | (with_reducible refine FX.ws_seq ?_)
  | (with_reducible refine FX.wa_cons ?_)
  | (with_reducible refine FX.wa_nil ?_)
  | (focus ((with_reducible apply FX.we_var0); (focus (exact rfl))))
  | (focus ((with_reducible apply FX.we_var1); (focus (exact rfl))))
  | (with_reducible refine FX.we_C ?_)
  | (focus ((with_reducible apply FX.then_nx); (focus ((first | (simp only [List.set_cons_zero, List.set_cons_succ, decide_true, decide_false, Nat.reduceLeDiff, Nat.le_refl, Nat.not_succ_le_zero]; done) | (simp only [List.set_cons_zero, List.set_cons_succ, decide_true, decide_false, Nat.reduceLeDiff, Nat.le_refl, Nat.not_succ_le_zero]; rfl))))))
  | (with_reducible refine FX.then_0 ?_)
  | (with_reducible refine FX.then_ret ?_)
  | (with_reducible refine FX.then_brk ?_)
  | (with_reducible refine FX.then_cnt ?_)
  | (with_reducible refine FX.ws_set ?_)
  | (with_reducible refine FX.we_call ?_)
  | (with_reducible refine FX.we_callKq ?_)
  | (focus ((with_reducible apply FX.ckq); (focus exact rfl); (focus (simp only [List.filterMap_cons, List.filterMap_nil, List.getElem?_cons_zero, List.getElem?_cons_succ]; try rfl))))
  | (with_reducible refine FX.cq0 ?_)
  | (with_reducible refine FX.cq1 ?_)
  | (with_reducible refine FX.cq2 ?_)
  | (with_reducible refine FX.we_bin ?_)
  | (with_reducible refine FX.we_cb ?_)
  | (with_reducible refine FX.ws_if ?_)
  | (with_reducible refine FX.ws_nil ?_)
  | (with_reducible refine FX.ws_ret ?_)
  | (with_reducible refine FX.ws_expr ?_)
  | (with_reducible refine FX.ws_parq ?_)
  | (with_reducible refine FX.ws_asg2q ?_)
  | (with_reducible refine FX.tupk ?_)
  | (with_reducible refine FX.ws_augq ?_)
  | (focus ((with_reducible apply FX.augq); (focus exact rfl)))
  | (with_reducible refine FX.wo_addI ?_)
  | (focus ((with_reducible refine FX.wn_divmod ?_ ?_ ?_); omega; (focus (first | decide | exact FX.log_le (by omega) (by omega)))))
  | (with_reducible refine FX.ws_retN ?_)
  | (with_reducible refine FX.ws_for ?_)
  | (with_reducible refine FX.wt_tst ?_)
  | (with_reducible refine FX.wt_tru ?_)
  | (with_reducible refine FX.wt_and ?_)
  | (with_reducible refine FX.wt_or ?_)
  | (with_reducible refine FX.wt_not ?_)
  | (with_reducible refine FX.wt_yes ?_)
  | (with_reducible refine FX.wb ?_)
  | (with_reducible refine FX.wtr_b ?_)
  | (with_reducible refine FX.wtr_i ?_)
  | (with_reducible refine FX.wtr_n ?_)
  | (with_reducible refine FX.cond_tt ?_)
  | (with_reducible refine FX.cond_ff ?_)
  | (with_reducible refine FX.cond_n ?_)
  | (with_reducible refine FX.cond_a ?_)
  | (with_reducible refine FX.cond_o ?_)
  | (with_reducible refine FX.we_lstq ?_)
  | (with_reducible refine FX.we_tupq ?_)
  | (with_reducible refine FX.we_lstHq ?_)
  | (focus ((with_reducible apply FX.lhqC_0); (focus ((first | decide | (with_reducible assumption) | omega | (simp only [FX.size_eq, List.length_cons, List.length_nil, List.length_append, List.length_map, List.length_take, List.length_drop, List.length_reverse, List.length_replicate, Nat.reduceAdd, Nat.reduceLeDiff]; done) | (simp only [FX.size_eq, List.length_cons, List.length_nil, List.length_append, List.length_map, List.length_take, List.length_drop, List.length_reverse, List.length_replicate]; omega)))); (focus (assumption))))
  | (focus ((with_reducible apply FX.lhqC_1); (focus ((first | decide | (with_reducible assumption) | omega | (simp only [FX.size_eq, List.length_cons, List.length_nil, List.length_append, List.length_map, List.length_take, List.length_drop, List.length_reverse, List.length_replicate, Nat.reduceAdd, Nat.reduceLeDiff]; done) | (simp only [FX.size_eq, List.length_cons, List.length_nil, List.length_append, List.length_map, List.length_take, List.length_drop, List.length_reverse, List.length_replicate]; omega)))); (focus (assumption))))
  | (focus ((with_reducible apply FX.lhqC); (focus ((first | decide | (with_reducible assumption) | omega | (simp only [FX.size_eq, List.length_cons, List.length_nil, List.length_append, List.length_map, List.length_take, List.length_drop, List.length_reverse, List.length_replicate, Nat.reduceAdd, Nat.reduceLeDiff]; done) | (simp only [FX.size_eq, List.length_cons, List.length_nil, List.length_append, List.length_map, List.length_take, List.length_drop, List.length_reverse, List.length_replicate]; omega)))); (focus (assumption)); (focus (assumption))))
  | (with_reducible refine FX.we_thaw ?_)
  | (with_reducible refine FX.we_if ?_)
  | (with_reducible refine FX.we_chainq ?_)
  | (with_reducible refine FX.chq ?_)
  | (with_reducible refine FX.we_slq ?_)
  | (with_reducible refine FX.wu_no ?_)
  | (with_reducible refine FX.wu_someq ?_)
  | (with_reducible refine FX.iq ?_)
  | (with_reducible refine FX.we_and ?_)
  | (with_reducible refine FX.we_or ?_)
  | (with_reducible refine FX.we_not ?_)
  | (with_reducible refine FX.we_m1 ?_)
  | (with_reducible refine FX.we_comp ?_)
  | (with_reducible refine FX.wi_rangeq ?_)
  | (with_reducible refine FX.wi_range2q ?_)
  | (with_reducible refine FX.wi_range3q ?_)
  | (with_reducible refine FX.wi_seqq ?_)
  | (with_reducible refine FX.wi_revq ?_)
  | (with_reducible refine FX.wi_enumq ?_)
  | (with_reducible refine FX.wi_zipq ?_)
  | (with_reducible refine FX.we_lrg1 ?_)
  | (focus ((with_reducible refine FX.lq_intsC ?hl ?q); (case hl => (first | decide | (with_reducible assumption) | omega | (simp only [FX.size_eq, List.length_cons, List.length_nil, List.length_append, List.length_map, List.length_take, List.length_drop, List.length_reverse, List.length_replicate, Nat.reduceAdd, Nat.reduceLeDiff]; done) | (simp only [FX.size_eq, List.length_cons, List.length_nil, List.length_append, List.length_map, List.length_take, List.length_drop, List.length_reverse, List.length_replicate]; omega)))))
  | (focus ((with_reducible refine FX.lq_raw ?_ ?_); (focus (first | decide | (with_reducible assumption) | omega | (simp only [FX.size_eq, List.length_cons, List.length_nil, List.length_append, List.length_map, List.length_take, List.length_drop, List.length_reverse, List.length_replicate, Nat.reduceAdd, Nat.reduceLeDiff]; done) | (simp only [FX.size_eq, List.length_cons, List.length_nil, List.length_append, List.length_map, List.length_take, List.length_drop, List.length_reverse, List.length_replicate]; omega)))))
  | (focus ((with_reducible refine FX.tq_raw ?_ ?_); (focus (first | decide | (with_reducible assumption) | omega | (simp only [FX.size_eq, List.length_cons, List.length_nil, List.length_append, List.length_map, List.length_take, List.length_drop, List.length_reverse, List.length_replicate, Nat.reduceAdd, Nat.reduceLeDiff]; done) | (simp only [FX.size_eq, List.length_cons, List.length_nil, List.length_append, List.length_map, List.length_take, List.length_drop, List.length_reverse, List.length_replicate]; omega)))))
  | (focus ((with_reducible refine FX.cond_t ?_ ?_); first | (with_reducible exact rfl) | assumption | omega))
  | (focus ((with_reducible refine FX.cond_f ?_ ?_); first | assumption | omega))
  | (with_reducible refine FX.wo_add ?_)
  | (with_reducible refine FX.wo_sub ?_)
  | (with_reducible refine FX.wo_lt ?_)
  | (with_reducible refine FX.wo_le ?_)
  | (with_reducible refine FX.wo_gt ?_)
  | (with_reducible refine FX.wo_ge ?_)
  | (with_reducible refine FX.wo_eqi ?_)
  | (with_reducible refine FX.wo_nei ?_)
  | (with_reducible refine FX.wo_eqb ?_)
  | (with_reducible refine FX.wo_neb ?_)
  | (with_reducible refine FX.wo_isn_i ?_)
  | (with_reducible refine FX.wo_isnn_i ?_)
  | (with_reducible refine FX.wo_isn_b ?_)
  | (with_reducible refine FX.wo_isnn_b ?_)
  | (with_reducible refine FX.wo_isn_h ?_)
  | (with_reducible refine FX.wo_isnn_h ?_)
  | (with_reducible refine FX.wo_isn_n ?_)
  | (with_reducible refine FX.wo_isnn_n ?_)
  | (with_reducible refine FX.wo_isn_l ?_)
  | (with_reducible refine FX.wo_isnn_l ?_)
  | (with_reducible refine FX.wo_isn_t ?_)
  | (with_reducible refine FX.wo_isnn_t ?_)
  | (with_reducible refine FX.wo_isn ?_)
  | (with_reducible refine FX.wo_isnn ?_)
  | (with_reducible refine FX.wo_isb ?_)
  | (with_reducible refine FX.wo_isnb ?_)
  | (focus ((with_reducible refine FX.wo_mod ?_ ?_); omega))
  | (focus ((with_reducible refine FX.wo_div ?_ ?_ ?_); omega; (focus (first | decide | exact FX.log_le (by omega) (by omega)))))
  | (focus ((with_reducible refine FX.wo_mul ?_ ?_ ?_); (focus (first | assumption | exact FX.sz_le (by omega) (by omega))); (focus (first | assumption | exact FX.sz_le (by omega) (by omega)))))
  | (focus ((with_reducible refine FX.wo_pow ?_ ?_ ?_ ?_); omega; omega; (focus (first | assumption | exact FX.szP_le (by omega) (by omega))); (try simp only [Int.reduceToNat])))
  | (focus ((with_reducible apply FX.wo_eql); (focus ((first | exact rfl | assumption | exact FX.rd_0 (by assumption) | exact FX.rd_kx (by assumption) (by assumption) | exact FX.rd_k (by assumption) rfl | exact FX.vw_app (by assumption)))); (focus ((first | exact rfl | assumption | exact FX.rd_0 (by assumption) | exact FX.rd_kx (by assumption) (by assumption) | exact FX.rd_k (by assumption) rfl | exact FX.vw_app (by assumption))))))
  | (focus ((with_reducible apply FX.wo_nel); (focus ((first | exact rfl | assumption | exact FX.rd_0 (by assumption) | exact FX.rd_kx (by assumption) (by assumption) | exact FX.rd_k (by assumption) rfl | exact FX.vw_app (by assumption)))); (focus ((first | exact rfl | assumption | exact FX.rd_0 (by assumption) | exact FX.rd_kx (by assumption) (by assumption) | exact FX.rd_k (by assumption) rfl | exact FX.vw_app (by assumption))))))
  | (focus ((with_reducible apply FX.wo_addl); (focus ((first | exact rfl | assumption | exact FX.rd_0 (by assumption) | exact FX.rd_kx (by assumption) (by assumption) | exact FX.rd_k (by assumption) rfl | exact FX.vw_app (by assumption)))); (focus ((first | exact rfl | assumption | exact FX.rd_0 (by assumption) | exact FX.rd_kx (by assumption) (by assumption) | exact FX.rd_k (by assumption) rfl | exact FX.vw_app (by assumption)))); (focus ((first | decide | (with_reducible assumption) | omega | (simp only [FX.size_eq, List.length_cons, List.length_nil, List.length_append, List.length_map, List.length_take, List.length_drop, List.length_reverse, List.length_replicate, Nat.reduceAdd, Nat.reduceLeDiff]; done) | (simp only [FX.size_eq, List.length_cons, List.length_nil, List.length_append, List.length_map, List.length_take, List.length_drop, List.length_reverse, List.length_replicate]; omega))))))
  | (focus ((with_reducible apply FX.wn_repr); (focus ((simp only [FX.vw_lst, FX.vw_int, FX.vw_bl, FX.vw_non]; (first
  | (with_reducible assumption)
  | (focus ((with_reducible refine FX.sh_1 ?_ ?_); (focus ((repeat' (first | (with_reducible assumption) | (with_reducible exact FX.oki_nil) | (with_reducible refine FX.oki_cons ?_ ?_ ?_) | (with_reducible refine FX.oki_app ?_ ?_) | omega)); done)); (focus (first | decide | (with_reducible assumption) | omega | (simp only [FX.size_eq, List.length_cons, List.length_nil, List.length_append, List.length_map, List.length_take, List.length_drop, List.length_reverse, List.length_replicate, Nat.reduceAdd, Nat.reduceLeDiff]; done) | (simp only [FX.size_eq, List.length_cons, List.length_nil, List.length_append, List.length_map, List.length_take, List.length_drop, List.length_reverse, List.length_replicate]; omega)))))
  | (focus ((with_reducible refine FX.sh_1r ?_ ?_); (focus ((repeat' (first | (with_reducible exact FX.shs_nil) | (with_reducible refine FX.shs_cons ?_ ?_) | (with_reducible exact FX.sh_bl) | (with_reducible exact FX.sh_non) | (with_reducible refine FX.sh_int ?_ ?_) | omega)); done)); (focus (first | decide | (with_reducible assumption) | omega | (simp only [FX.size_eq, List.length_cons, List.length_nil, List.length_append, List.length_map, List.length_take, List.length_drop, List.length_reverse, List.length_replicate, Nat.reduceAdd, Nat.reduceLeDiff]; done) | (simp only [FX.size_eq, List.length_cons, List.length_nil, List.length_append, List.length_map, List.length_take, List.length_drop, List.length_reverse, List.length_replicate]; omega)))))
  | (focus ((with_reducible refine FX.sh_2 ?_ ?_); (focus ((repeat' (first | (with_reducible assumption) | (with_reducible exact FX.shs_nil) | (with_reducible refine FX.shs_cons ?_ ?_) | (focus ((with_reducible refine FX.sh_1 ?_ ?_); (focus ((repeat' (first | (with_reducible assumption) | (with_reducible exact FX.oki_nil) | (with_reducible refine FX.oki_cons ?_ ?_ ?_) | (with_reducible refine FX.oki_app ?_ ?_) | omega)); done)); (focus (first | decide | (with_reducible assumption) | omega | (simp only [FX.size_eq, List.length_cons, List.length_nil, List.length_append, List.length_map, List.length_take, List.length_drop, List.length_reverse, List.length_replicate, Nat.reduceAdd, Nat.reduceLeDiff]; done) | (simp only [FX.size_eq, List.length_cons, List.length_nil, List.length_append, List.length_map, List.length_take, List.length_drop, List.length_reverse, List.length_replicate]; omega))))) | (with_reducible refine FX.sh_01 ?_) | (with_reducible exact FX.sh_bl) | (with_reducible exact FX.sh_non) | (focus ((with_reducible refine FX.sh_int ?_ ?_); omega; omega)) | (focus ((with_reducible refine FX.sh_1r ?_ ?_); (focus ((repeat' (first | (with_reducible exact FX.shs_nil) | (with_reducible refine FX.shs_cons ?_ ?_) | (with_reducible exact FX.sh_bl) | (with_reducible exact FX.sh_non) | (with_reducible refine FX.sh_int ?_ ?_) | omega)); done)); (focus (first | decide | (with_reducible assumption) | omega | (simp only [FX.size_eq, List.length_cons, List.length_nil, List.length_append, List.length_map, List.length_take, List.length_drop, List.length_reverse, List.length_replicate, Nat.reduceAdd, Nat.reduceLeDiff]; done) | (simp only [FX.size_eq, List.length_cons, List.length_nil, List.length_append, List.length_map, List.length_take, List.length_drop, List.length_reverse, List.length_replicate]; omega))))))); done)); (focus decide))))))); (focus (decide)); (focus (decide)); (try simp only [FX.vw_lst, FX.vw_int, FX.vw_bl, FX.vw_non])))
  | (focus ((with_reducible apply FX.wo_eqs); (focus ((first
  | (with_reducible assumption)
  | (focus ((with_reducible refine FX.sh_1 ?_ ?_); (focus ((repeat' (first | (with_reducible assumption) | (with_reducible exact FX.oki_nil) | (with_reducible refine FX.oki_cons ?_ ?_ ?_) | (with_reducible refine FX.oki_app ?_ ?_) | omega)); done)); (focus (first | decide | (with_reducible assumption) | omega | (simp only [FX.size_eq, List.length_cons, List.length_nil, List.length_append, List.length_map, List.length_take, List.length_drop, List.length_reverse, List.length_replicate, Nat.reduceAdd, Nat.reduceLeDiff]; done) | (simp only [FX.size_eq, List.length_cons, List.length_nil, List.length_append, List.length_map, List.length_take, List.length_drop, List.length_reverse, List.length_replicate]; omega)))))
  | (focus ((with_reducible refine FX.sh_1r ?_ ?_); (focus ((repeat' (first | (with_reducible exact FX.shs_nil) | (with_reducible refine FX.shs_cons ?_ ?_) | (with_reducible exact FX.sh_bl) | (with_reducible exact FX.sh_non) | (with_reducible refine FX.sh_int ?_ ?_) | omega)); done)); (focus (first | decide | (with_reducible assumption) | omega | (simp only [FX.size_eq, List.length_cons, List.length_nil, List.length_append, List.length_map, List.length_take, List.length_drop, List.length_reverse, List.length_replicate, Nat.reduceAdd, Nat.reduceLeDiff]; done) | (simp only [FX.size_eq, List.length_cons, List.length_nil, List.length_append, List.length_map, List.length_take, List.length_drop, List.length_reverse, List.length_replicate]; omega)))))
  | (focus ((with_reducible refine FX.sh_2 ?_ ?_); (focus ((repeat' (first | (with_reducible assumption) | (with_reducible exact FX.shs_nil) | (with_reducible refine FX.shs_cons ?_ ?_) | (focus ((with_reducible refine FX.sh_1 ?_ ?_); (focus ((repeat' (first | (with_reducible assumption) | (with_reducible exact FX.oki_nil) | (with_reducible refine FX.oki_cons ?_ ?_ ?_) | (with_reducible refine FX.oki_app ?_ ?_) | omega)); done)); (focus (first | decide | (with_reducible assumption) | omega | (simp only [FX.size_eq, List.length_cons, List.length_nil, List.length_append, List.length_map, List.length_take, List.length_drop, List.length_reverse, List.length_replicate, Nat.reduceAdd, Nat.reduceLeDiff]; done) | (simp only [FX.size_eq, List.length_cons, List.length_nil, List.length_append, List.length_map, List.length_take, List.length_drop, List.length_reverse, List.length_replicate]; omega))))) | (with_reducible refine FX.sh_01 ?_) | (with_reducible exact FX.sh_bl) | (with_reducible exact FX.sh_non) | (focus ((with_reducible refine FX.sh_int ?_ ?_); omega; omega)) | (focus ((with_reducible refine FX.sh_1r ?_ ?_); (focus ((repeat' (first | (with_reducible exact FX.shs_nil) | (with_reducible refine FX.shs_cons ?_ ?_) | (with_reducible exact FX.sh_bl) | (with_reducible exact FX.sh_non) | (with_reducible refine FX.sh_int ?_ ?_) | omega)); done)); (focus (first | decide | (with_reducible assumption) | omega | (simp only [FX.size_eq, List.length_cons, List.length_nil, List.length_append, List.length_map, List.length_take, List.length_drop, List.length_reverse, List.length_replicate, Nat.reduceAdd, Nat.reduceLeDiff]; done) | (simp only [FX.size_eq, List.length_cons, List.length_nil, List.length_append, List.length_map, List.length_take, List.length_drop, List.length_reverse, List.length_replicate]; omega))))))); done)); (focus decide)))))); (focus ((first | rfl | assumption)))))
  | (focus ((with_reducible apply FX.wo_nes); (focus ((first
  | (with_reducible assumption)
  | (focus ((with_reducible refine FX.sh_1 ?_ ?_); (focus ((repeat' (first | (with_reducible assumption) | (with_reducible exact FX.oki_nil) | (with_reducible refine FX.oki_cons ?_ ?_ ?_) | (with_reducible refine FX.oki_app ?_ ?_) | omega)); done)); (focus (first | decide | (with_reducible assumption) | omega | (simp only [FX.size_eq, List.length_cons, List.length_nil, List.length_append, List.length_map, List.length_take, List.length_drop, List.length_reverse, List.length_replicate, Nat.reduceAdd, Nat.reduceLeDiff]; done) | (simp only [FX.size_eq, List.length_cons, List.length_nil, List.length_append, List.length_map, List.length_take, List.length_drop, List.length_reverse, List.length_replicate]; omega)))))
  | (focus ((with_reducible refine FX.sh_1r ?_ ?_); (focus ((repeat' (first | (with_reducible exact FX.shs_nil) | (with_reducible refine FX.shs_cons ?_ ?_) | (with_reducible exact FX.sh_bl) | (with_reducible exact FX.sh_non) | (with_reducible refine FX.sh_int ?_ ?_) | omega)); done)); (focus (first | decide | (with_reducible assumption) | omega | (simp only [FX.size_eq, List.length_cons, List.length_nil, List.length_append, List.length_map, List.length_take, List.length_drop, List.length_reverse, List.length_replicate, Nat.reduceAdd, Nat.reduceLeDiff]; done) | (simp only [FX.size_eq, List.length_cons, List.length_nil, List.length_append, List.length_map, List.length_take, List.length_drop, List.length_reverse, List.length_replicate]; omega)))))
  | (focus ((with_reducible refine FX.sh_2 ?_ ?_); (focus ((repeat' (first | (with_reducible assumption) | (with_reducible exact FX.shs_nil) | (with_reducible refine FX.shs_cons ?_ ?_) | (focus ((with_reducible refine FX.sh_1 ?_ ?_); (focus ((repeat' (first | (with_reducible assumption) | (with_reducible exact FX.oki_nil) | (with_reducible refine FX.oki_cons ?_ ?_ ?_) | (with_reducible refine FX.oki_app ?_ ?_) | omega)); done)); (focus (first | decide | (with_reducible assumption) | omega | (simp only [FX.size_eq, List.length_cons, List.length_nil, List.length_append, List.length_map, List.length_take, List.length_drop, List.length_reverse, List.length_replicate, Nat.reduceAdd, Nat.reduceLeDiff]; done) | (simp only [FX.size_eq, List.length_cons, List.length_nil, List.length_append, List.length_map, List.length_take, List.length_drop, List.length_reverse, List.length_replicate]; omega))))) | (with_reducible refine FX.sh_01 ?_) | (with_reducible exact FX.sh_bl) | (with_reducible exact FX.sh_non) | (focus ((with_reducible refine FX.sh_int ?_ ?_); omega; omega)) | (focus ((with_reducible refine FX.sh_1r ?_ ?_); (focus ((repeat' (first | (with_reducible exact FX.shs_nil) | (with_reducible refine FX.shs_cons ?_ ?_) | (with_reducible exact FX.sh_bl) | (with_reducible exact FX.sh_non) | (with_reducible refine FX.sh_int ?_ ?_) | omega)); done)); (focus (first | decide | (with_reducible assumption) | omega | (simp only [FX.size_eq, List.length_cons, List.length_nil, List.length_append, List.length_map, List.length_take, List.length_drop, List.length_reverse, List.length_replicate, Nat.reduceAdd, Nat.reduceLeDiff]; done) | (simp only [FX.size_eq, List.length_cons, List.length_nil, List.length_append, List.length_map, List.length_take, List.length_drop, List.length_reverse, List.length_replicate]; omega))))))); done)); (focus decide)))))); (focus ((first | rfl | assumption)))))
  | (with_reducible refine FX.wn_lens ?_)
  | (focus ((with_reducible apply FX.wn_leni); (focus ((first | exact rfl | assumption | exact FX.rd_0 (by assumption) | exact FX.rd_kx (by assumption) (by assumption) | exact FX.rd_k (by assumption) rfl | exact FX.vw_app (by assumption))))))
  | (focus ((with_reducible apply FX.wn_len); (focus ((first | exact rfl | assumption | exact FX.rd_0 (by assumption) | exact FX.rd_kx (by assumption) (by assumption) | exact FX.rd_k (by assumption) rfl | exact FX.vw_app (by assumption))))))
  | (focus ((with_reducible apply FX.wn_sum); (focus ((first | exact rfl | assumption | exact FX.rd_0 (by assumption) | exact FX.rd_kx (by assumption) (by assumption) | exact FX.rd_k (by assumption) rfl | exact FX.vw_app (by assumption))))))
  | (with_reducible refine FX.wn_max2 ?_)
  | (with_reducible refine FX.wn_min2 ?_)
  | (with_reducible refine FX.wn_abs ?_)
  | (with_reducible refine FX.wn_int ?_)
  | (with_reducible refine FX.wn_intb ?_)
  | (with_reducible refine FX.wn_ii ?_)
  | (with_reducible refine FX.wn_ib ?_)
  | (with_reducible refine FX.wn_il ?_)
  | (with_reducible refine FX.wn_it ?_)
  | (with_reducible refine FX.wn_is ?_)
  | (with_reducible refine FX.wn_bl ?_)
  | (with_reducible refine FX.wn_bt ?_)
  | (with_reducible refine FX.wn_bb ?_)
  | (with_reducible refine FX.wn_bs ?_)
  | (focus ((with_reducible apply FX.wn_lt); (focus ((first | exact rfl | assumption | exact FX.rd_0 (by assumption) | exact FX.rd_kx (by assumption) (by assumption) | exact FX.rd_k (by assumption) rfl | exact FX.vw_app (by assumption))))))
  | (focus ((with_reducible apply FX.wn_ll); (focus ((first | exact rfl | assumption | exact FX.rd_0 (by assumption) | exact FX.rd_kx (by assumption) (by assumption) | exact FX.rd_k (by assumption) rfl | exact FX.vw_app (by assumption))))))
  | (focus ((with_reducible apply FX.wtr_l); (focus ((first | exact rfl | assumption | exact FX.rd_0 (by assumption) | exact FX.rd_kx (by assumption) (by assumption) | exact FX.rd_k (by assumption) rfl | exact FX.vw_app (by assumption))))))
  | (focus ((with_reducible refine FX.rq ?_ ?_ ?_); omega; omega))
  | (focus ((with_reducible refine FX.rq2 ?_ ?_ ?_ ?_ ?_); omega; omega; omega; omega))
  | (focus ((with_reducible refine FX.rq3 ?_ ?_ ?_ ?_ ?_); omega; omega; omega; omega))
  | (focus ((with_reducible refine FX.rglq ?_ ?_ ?_); omega; omega))
  | (focus ((with_reducible apply FX.enumq); (focus ((first | exact rfl | assumption | exact FX.rd_0 (by assumption) | exact FX.rd_kx (by assumption) (by assumption) | exact FX.rd_k (by assumption) rfl | exact FX.vw_app (by assumption))))))
  | (focus ((with_reducible apply FX.zipq); (focus ((first | exact rfl | assumption | exact FX.rd_0 (by assumption) | exact FX.rd_kx (by assumption) (by assumption) | exact FX.rd_k (by assumption) rfl | exact FX.vw_app (by assumption)))); (focus ((first | exact rfl | assumption | exact FX.rd_0 (by assumption) | exact FX.rd_kx (by assumption) (by assumption) | exact FX.rd_k (by assumption) rfl | exact FX.vw_app (by assumption))))))
  | (focus ((with_reducible apply FX.seqq); (focus ((first | exact rfl | assumption | exact FX.rd_0 (by assumption) | exact FX.rd_kx (by assumption) (by assumption) | exact FX.rd_k (by assumption) rfl | exact FX.vw_app (by assumption))))))
  | (focus ((with_reducible apply FX.revq); (focus ((first | exact rfl | assumption | exact FX.rd_0 (by assumption) | exact FX.rd_kx (by assumption) (by assumption) | exact FX.rd_k (by assumption) rfl | exact FX.vw_app (by assumption))))))
  | (focus ((with_reducible apply FX.sq_from); (focus ((first | exact rfl | assumption | exact FX.rd_0 (by assumption) | exact FX.rd_kx (by assumption) (by assumption) | exact FX.rd_k (by assumption) rfl | exact FX.vw_app (by assumption)))); (focus (omega))); (try simp only [Int.reduceToNat]))
  | (focus ((with_reducible apply FX.sq_to); (focus ((first | exact rfl | assumption | exact FX.rd_0 (by assumption) | exact FX.rd_kx (by assumption) (by assumption) | exact FX.rd_k (by assumption) rfl | exact FX.vw_app (by assumption)))); (focus (omega))); (try simp only [Int.reduceToNat]))
  | (focus ((with_reducible apply FX.sq_ft); (focus ((first | exact rfl | assumption | exact FX.rd_0 (by assumption) | exact FX.rd_kx (by assumption) (by assumption) | exact FX.rd_k (by assumption) rfl | exact FX.vw_app (by assumption)))); (focus (omega)); (focus (omega))); (try simp only [Int.reduceToNat]))
  | (focus ((with_reducible apply FX.th_0); (focus (assumption)); (focus (assumption))))
  | (focus ((with_reducible apply FX.th_0n); (focus (assumption)); (focus (assumption))))
  | (focus ((with_reducible apply FX.th_1); (focus (assumption)); (focus (assumption)); (focus ((first | assumption | exact FX.pl_ints | exact FX.pl_nil)))))
  | (focus ((with_reducible apply FX.th_2); (focus (assumption)); (focus (assumption)); (focus ((first | assumption | exact FX.pl_ints | exact FX.pl_nil))); (focus ((first | assumption | exact FX.pl_ints | exact FX.pl_nil)))))
  | (focus ((with_reducible apply FX.th_x); (focus (assumption)); (focus (assumption)); (focus (sizeOf_list_dec)); (focus (assumption))))
  | (focus ((with_reducible refine FX.ret_int ?h1 ?h2 ?q); (case h1 => assumption); (case h2 => assumption)))
  | (focus ((with_reducible refine FX.ret_bl ?h1 ?h2 ?q); (case h1 => assumption); (case h2 => assumption)))
  | (focus ((with_reducible refine FX.ret_non ?h1 ?h2 ?q); (case h1 => assumption); (case h2 => assumption)))
  | (focus ((with_reducible refine FX.ret_ints ?h1 ?h2 ?q); (case h1 => assumption); (case h2 => assumption)))
  | (focus ((with_reducible refine FX.ret_nil ?h1 ?h2 ?q); (case h1 => assumption); (case h2 => assumption)))
  | (focus ((with_reducible apply FX.ret_nx); (focus (exact rfl)); (focus (assumption)); (focus (assumption)))))
local macro_rules
  | `(tactic| decreasing_tactic) => `(tactic| repeat' array_get_dec)
section
variable {K : PySem.W.Frag} {s : Sto} {d : D} {ws : List Int} {Q : QE}
theorem b80_w {x : D} (hp : PC s) (hx : vw s x = .lst (ws.map .int)) (hw : ∀ y ∈ ws, 1 ≤ y ∧ y ≤ 8) (hl : ws.length ≤ 10) (q : Q (.lst ((pcs ws ((80 : Nat) : Int)).map .int)) 1 s) : WC (S__law_broken K) [x, .int 80] s Q :=
  broken_w hp hx ⟨by omega, fun y hy => by have := hw y hy; omega⟩ (by omega) (by omega) q
theorem c80_w (hp : PC s) (hw : ∀ y ∈ ws, 1 ≤ y ∧ y ≤ 8) (q : Q (.lst ((cols ws 80).map .int)) 1 s) : WC (S__law_cols K) [.lst ((pcs ws ((80 : Nat) : Int)).map .int)] s Q := by
  have hpos : ∀ y ∈ ws, 1 ≤ y := fun y hy => (hw y hy).1
  have hpp := pcs_pos ws ((80 : Nat) : Int) hpos (by omega)
  have e := pcs_cols ws 80 hpos
  refine law_cols_w hp rfl (fun z hz => by have := hpp z hz; omega) (by rw [e, cols_len]; decide) ?_
  rw [e]
  exact q
set_option maxHeartbeats 4000000 in
set_option exponentiation.threshold 400 in
theorem law_true (K : PySem.W.Frag) (ns : List Int) (hl : ns.length ≤ 63) (hb : ∀ z ∈ ns, Builtin.Int.intBits z ≤ 1048576) : ∃ l s, S_law K [.scr ns] [] = .ok (.bl true, l) s := by
  have main : WC (S_law K) [.scr ns] [] fun d _ _ => d = .bl true := by
    ((apply FX.wc_def rfl; focus (simp only [List.map_cons, List.map_nil, List.cons_append, List.nil_append, List.replicate]; try rfl)))
    unfold B_law
    have cs8 : ∀ c ∈ subs 8, c.Pairwise (· > ·) ∧ (∀ y ∈ c, 1 ≤ y ∧ y ≤ 8) ∧ c.length ≤ 8 := fun c hc => by
      have h := subs_mem.mp hc
      exact ⟨h.1, h.2, falls_len h.1 h.2⟩
    have ln8 : (subs 8).length = 256 := subs_len 8
    have hc0 : PC (([] : Sto) ++ []) := by sizeOf_list_dec
    obtain ⟨cs, hcs⟩ : ∃ cs, cs = subs 8 := ⟨_, rfl⟩
    (repeat' (first | (with_reducible refine wi_seqt ?_) | array_get_dec | (with_reducible refine tup_es ?_) | (first
  | (with_reducible refine we_srtset ?_)
  | (focus ((with_reducible apply wn_list); (focus ((first | exact rfl | assumption | exact FX.rd_0 (by assumption) | exact FX.rd_kx (by assumption) (by assumption) | exact FX.rd_k (by assumption) rfl | exact FX.vw_app (by assumption))))))
  | (focus ((with_reducible apply wo_in); (focus ((first | exact rfl | assumption | exact FX.rd_0 (by assumption) | exact FX.rd_kx (by assumption) (by assumption) | exact FX.rd_k (by assumption) rfl | exact FX.vw_app (by assumption))))))
  | (focus ((with_reducible apply wo_notin); (focus ((first | exact rfl | assumption | exact FX.rd_0 (by assumption) | exact FX.rd_kx (by assumption) (by assumption) | exact FX.rd_k (by assumption) rfl | exact FX.vw_app (by assumption))))))
  | (with_reducible refine wi_enumzip ?_)
  | (with_reducible refine we_dget ?_)
  | (focus ((with_reducible apply enumzipq); (focus ((first | exact rfl | assumption | exact FX.rd_0 (by assumption) | exact FX.rd_kx (by assumption) (by assumption) | exact FX.rd_k (by assumption) rfl | exact FX.vw_app (by assumption)))); (focus ((first | exact rfl | assumption | exact FX.rd_0 (by assumption) | exact FX.rd_kx (by assumption) (by assumption) | exact FX.rd_k (by assumption) rfl | exact FX.vw_app (by assumption))))))
  | (focus ((with_reducible apply dgq); (focus ((first | exact rfl | assumption | exact FX.rd_0 (by assumption) | exact FX.rd_kx (by assumption) (by assumption) | exact FX.rd_k (by assumption) rfl | exact FX.vw_app (by assumption)))); (focus ((first | exact rfl | assumption | exact FX.rd_0 (by assumption) | exact FX.rd_kx (by assumption) (by assumption) | exact FX.rd_k (by assumption) rfl | exact FX.vw_app (by assumption))))))
  | (with_reducible refine we_callMq ?_)
  | (focus ((with_reducible apply cmq); (focus exact rfl); (focus exact rfl); (focus (simp only [List.cons_append, List.nil_append, List.filterMap_cons, List.filterMap_nil, List.getElem?_cons_zero, List.getElem?_cons_succ]; try rfl))))
  | (with_reducible refine ws_asgL2 ?_)
  | (with_reducible refine ws_asg3 ?_)
  | (with_reducible refine tupk3 ?_)
  | (with_reducible refine we_revl ?_)
  | (focus ((with_reducible apply revlq); (focus ((first | exact rfl | assumption | exact FX.rd_0 (by assumption) | exact FX.rd_kx (by assumption) (by assumption) | exact FX.rd_k (by assumption) rfl | exact FX.vw_app (by assumption))))))
  | (with_reducible refine we_rdc ?_)
  | (with_reducible refine we_rdi ?_)
  | (with_reducible refine we_negq ?_)
  | (with_reducible refine negq ?_)
  | (focus ((with_reducible apply rdcq); (focus ((first | exact rfl | assumption | exact FX.rd_0 (by assumption) | exact FX.rd_kx (by assumption) (by assumption) | exact FX.rd_k (by assumption) rfl | exact FX.vw_app (by assumption)))); (focus ((first | exact rfl | assumption | exact FX.rd_0 (by assumption) | exact FX.rd_kx (by assumption) (by assumption) | exact FX.rd_k (by assumption) rfl | exact FX.vw_app (by assumption)))))))))
    refine subsets_w (n := 8) hc0 (by decide) ?_
    rw [← hcs] at cs8 ln8 ⊢
    (repeat' (first | (with_reducible refine wi_seqt ?_) | array_get_dec | (with_reducible refine tup_es ?_) | (first
  | (with_reducible refine we_srtset ?_)
  | (focus ((with_reducible apply wn_list); (focus ((first | exact rfl | assumption | exact FX.rd_0 (by assumption) | exact FX.rd_kx (by assumption) (by assumption) | exact FX.rd_k (by assumption) rfl | exact FX.vw_app (by assumption))))))
  | (focus ((with_reducible apply wo_in); (focus ((first | exact rfl | assumption | exact FX.rd_0 (by assumption) | exact FX.rd_kx (by assumption) (by assumption) | exact FX.rd_k (by assumption) rfl | exact FX.vw_app (by assumption))))))
  | (focus ((with_reducible apply wo_notin); (focus ((first | exact rfl | assumption | exact FX.rd_0 (by assumption) | exact FX.rd_kx (by assumption) (by assumption) | exact FX.rd_k (by assumption) rfl | exact FX.vw_app (by assumption))))))
  | (with_reducible refine wi_enumzip ?_)
  | (with_reducible refine we_dget ?_)
  | (focus ((with_reducible apply enumzipq); (focus ((first | exact rfl | assumption | exact FX.rd_0 (by assumption) | exact FX.rd_kx (by assumption) (by assumption) | exact FX.rd_k (by assumption) rfl | exact FX.vw_app (by assumption)))); (focus ((first | exact rfl | assumption | exact FX.rd_0 (by assumption) | exact FX.rd_kx (by assumption) (by assumption) | exact FX.rd_k (by assumption) rfl | exact FX.vw_app (by assumption))))))
  | (focus ((with_reducible apply dgq); (focus ((first | exact rfl | assumption | exact FX.rd_0 (by assumption) | exact FX.rd_kx (by assumption) (by assumption) | exact FX.rd_k (by assumption) rfl | exact FX.vw_app (by assumption)))); (focus ((first | exact rfl | assumption | exact FX.rd_0 (by assumption) | exact FX.rd_kx (by assumption) (by assumption) | exact FX.rd_k (by assumption) rfl | exact FX.vw_app (by assumption))))))
  | (with_reducible refine we_callMq ?_)
  | (focus ((with_reducible apply cmq); (focus exact rfl); (focus exact rfl); (focus (simp only [List.cons_append, List.nil_append, List.filterMap_cons, List.filterMap_nil, List.getElem?_cons_zero, List.getElem?_cons_succ]; try rfl))))
  | (with_reducible refine ws_asgL2 ?_)
  | (with_reducible refine ws_asg3 ?_)
  | (with_reducible refine tupk3 ?_)
  | (with_reducible refine we_revl ?_)
  | (focus ((with_reducible apply revlq); (focus ((first | exact rfl | assumption | exact FX.rd_0 (by assumption) | exact FX.rd_kx (by assumption) (by assumption) | exact FX.rd_k (by assumption) rfl | exact FX.vw_app (by assumption))))))
  | (with_reducible refine we_rdc ?_)
  | (with_reducible refine we_rdi ?_)
  | (with_reducible refine we_negq ?_)
  | (with_reducible refine negq ?_)
  | (focus ((with_reducible apply rdcq); (focus ((first | exact rfl | assumption | exact FX.rd_0 (by assumption) | exact FX.rd_kx (by assumption) (by assumption) | exact FX.rd_k (by assumption) rfl | exact FX.vw_app (by assumption)))); (focus ((first | exact rfl | assumption | exact FX.rd_0 (by assumption) | exact FX.rd_kx (by assumption) (by assumption) | exact FX.rd_k (by assumption) rfl | exact FX.vw_app (by assumption)))))))))
    refine comp_pre (by simp only [wipeL, List.set_cons_zero, List.set_cons_succ]; rfl) ?_
    refine comp_ld (fun c => .tup [.lst (c.map .int), .lst ((cols c 80).map .int)]) rfl (by omega) (fun c hc => ?_) ?_
    · have h := cs8 c hc
      simp only [List.set_cons_zero, List.set_cons_succ]
      (repeat' (first | (with_reducible refine wi_seqt ?_) | array_get_dec | (with_reducible refine tup_es ?_) | (first
  | (with_reducible refine we_srtset ?_)
  | (focus ((with_reducible apply wn_list); (focus ((first | exact rfl | assumption | exact FX.rd_0 (by assumption) | exact FX.rd_kx (by assumption) (by assumption) | exact FX.rd_k (by assumption) rfl | exact FX.vw_app (by assumption))))))
  | (focus ((with_reducible apply wo_in); (focus ((first | exact rfl | assumption | exact FX.rd_0 (by assumption) | exact FX.rd_kx (by assumption) (by assumption) | exact FX.rd_k (by assumption) rfl | exact FX.vw_app (by assumption))))))
  | (focus ((with_reducible apply wo_notin); (focus ((first | exact rfl | assumption | exact FX.rd_0 (by assumption) | exact FX.rd_kx (by assumption) (by assumption) | exact FX.rd_k (by assumption) rfl | exact FX.vw_app (by assumption))))))
  | (with_reducible refine wi_enumzip ?_)
  | (with_reducible refine we_dget ?_)
  | (focus ((with_reducible apply enumzipq); (focus ((first | exact rfl | assumption | exact FX.rd_0 (by assumption) | exact FX.rd_kx (by assumption) (by assumption) | exact FX.rd_k (by assumption) rfl | exact FX.vw_app (by assumption)))); (focus ((first | exact rfl | assumption | exact FX.rd_0 (by assumption) | exact FX.rd_kx (by assumption) (by assumption) | exact FX.rd_k (by assumption) rfl | exact FX.vw_app (by assumption))))))
  | (focus ((with_reducible apply dgq); (focus ((first | exact rfl | assumption | exact FX.rd_0 (by assumption) | exact FX.rd_kx (by assumption) (by assumption) | exact FX.rd_k (by assumption) rfl | exact FX.vw_app (by assumption)))); (focus ((first | exact rfl | assumption | exact FX.rd_0 (by assumption) | exact FX.rd_kx (by assumption) (by assumption) | exact FX.rd_k (by assumption) rfl | exact FX.vw_app (by assumption))))))
  | (with_reducible refine we_callMq ?_)
  | (focus ((with_reducible apply cmq); (focus exact rfl); (focus exact rfl); (focus (simp only [List.cons_append, List.nil_append, List.filterMap_cons, List.filterMap_nil, List.getElem?_cons_zero, List.getElem?_cons_succ]; try rfl))))
  | (with_reducible refine ws_asgL2 ?_)
  | (with_reducible refine ws_asg3 ?_)
  | (with_reducible refine tupk3 ?_)
  | (with_reducible refine we_revl ?_)
  | (focus ((with_reducible apply revlq); (focus ((first | exact rfl | assumption | exact FX.rd_0 (by assumption) | exact FX.rd_kx (by assumption) (by assumption) | exact FX.rd_k (by assumption) rfl | exact FX.vw_app (by assumption))))))
  | (with_reducible refine we_rdc ?_)
  | (with_reducible refine we_rdi ?_)
  | (with_reducible refine we_negq ?_)
  | (with_reducible refine negq ?_)
  | (focus ((with_reducible apply rdcq); (focus ((first | exact rfl | assumption | exact FX.rd_0 (by assumption) | exact FX.rd_kx (by assumption) (by assumption) | exact FX.rd_k (by assumption) rfl | exact FX.vw_app (by assumption)))); (focus ((first | exact rfl | assumption | exact FX.rd_0 (by assumption) | exact FX.rd_kx (by assumption) (by assumption) | exact FX.rd_k (by assumption) rfl | exact FX.vw_app (by assumption)))))))))
      refine b80_w hc0 rfl h.2.1 (by omega) ?_
      (repeat' (first | (with_reducible refine wi_seqt ?_) | array_get_dec | (with_reducible refine tup_es ?_) | (first
  | (with_reducible refine we_srtset ?_)
  | (focus ((with_reducible apply wn_list); (focus ((first | exact rfl | assumption | exact FX.rd_0 (by assumption) | exact FX.rd_kx (by assumption) (by assumption) | exact FX.rd_k (by assumption) rfl | exact FX.vw_app (by assumption))))))
  | (focus ((with_reducible apply wo_in); (focus ((first | exact rfl | assumption | exact FX.rd_0 (by assumption) | exact FX.rd_kx (by assumption) (by assumption) | exact FX.rd_k (by assumption) rfl | exact FX.vw_app (by assumption))))))
  | (focus ((with_reducible apply wo_notin); (focus ((first | exact rfl | assumption | exact FX.rd_0 (by assumption) | exact FX.rd_kx (by assumption) (by assumption) | exact FX.rd_k (by assumption) rfl | exact FX.vw_app (by assumption))))))
  | (with_reducible refine wi_enumzip ?_)
  | (with_reducible refine we_dget ?_)
  | (focus ((with_reducible apply enumzipq); (focus ((first | exact rfl | assumption | exact FX.rd_0 (by assumption) | exact FX.rd_kx (by assumption) (by assumption) | exact FX.rd_k (by assumption) rfl | exact FX.vw_app (by assumption)))); (focus ((first | exact rfl | assumption | exact FX.rd_0 (by assumption) | exact FX.rd_kx (by assumption) (by assumption) | exact FX.rd_k (by assumption) rfl | exact FX.vw_app (by assumption))))))
  | (focus ((with_reducible apply dgq); (focus ((first | exact rfl | assumption | exact FX.rd_0 (by assumption) | exact FX.rd_kx (by assumption) (by assumption) | exact FX.rd_k (by assumption) rfl | exact FX.vw_app (by assumption)))); (focus ((first | exact rfl | assumption | exact FX.rd_0 (by assumption) | exact FX.rd_kx (by assumption) (by assumption) | exact FX.rd_k (by assumption) rfl | exact FX.vw_app (by assumption))))))
  | (with_reducible refine we_callMq ?_)
  | (focus ((with_reducible apply cmq); (focus exact rfl); (focus exact rfl); (focus (simp only [List.cons_append, List.nil_append, List.filterMap_cons, List.filterMap_nil, List.getElem?_cons_zero, List.getElem?_cons_succ]; try rfl))))
  | (with_reducible refine ws_asgL2 ?_)
  | (with_reducible refine ws_asg3 ?_)
  | (with_reducible refine tupk3 ?_)
  | (with_reducible refine we_revl ?_)
  | (focus ((with_reducible apply revlq); (focus ((first | exact rfl | assumption | exact FX.rd_0 (by assumption) | exact FX.rd_kx (by assumption) (by assumption) | exact FX.rd_k (by assumption) rfl | exact FX.vw_app (by assumption))))))
  | (with_reducible refine we_rdc ?_)
  | (with_reducible refine we_rdi ?_)
  | (with_reducible refine we_negq ?_)
  | (with_reducible refine negq ?_)
  | (focus ((with_reducible apply rdcq); (focus ((first | exact rfl | assumption | exact FX.rd_0 (by assumption) | exact FX.rd_kx (by assumption) (by assumption) | exact FX.rd_k (by assumption) rfl | exact FX.vw_app (by assumption)))); (focus ((first | exact rfl | assumption | exact FX.rd_0 (by assumption) | exact FX.rd_kx (by assumption) (by assumption) | exact FX.rd_k (by assumption) rfl | exact FX.vw_app (by assumption)))))))))
      refine c80_w hc0 h.2.1 ?_
      (repeat' (first | (with_reducible refine wi_seqt ?_) | array_get_dec | (with_reducible refine tup_es ?_) | (first
  | (with_reducible refine we_srtset ?_)
  | (focus ((with_reducible apply wn_list); (focus ((first | exact rfl | assumption | exact FX.rd_0 (by assumption) | exact FX.rd_kx (by assumption) (by assumption) | exact FX.rd_k (by assumption) rfl | exact FX.vw_app (by assumption))))))
  | (focus ((with_reducible apply wo_in); (focus ((first | exact rfl | assumption | exact FX.rd_0 (by assumption) | exact FX.rd_kx (by assumption) (by assumption) | exact FX.rd_k (by assumption) rfl | exact FX.vw_app (by assumption))))))
  | (focus ((with_reducible apply wo_notin); (focus ((first | exact rfl | assumption | exact FX.rd_0 (by assumption) | exact FX.rd_kx (by assumption) (by assumption) | exact FX.rd_k (by assumption) rfl | exact FX.vw_app (by assumption))))))
  | (with_reducible refine wi_enumzip ?_)
  | (with_reducible refine we_dget ?_)
  | (focus ((with_reducible apply enumzipq); (focus ((first | exact rfl | assumption | exact FX.rd_0 (by assumption) | exact FX.rd_kx (by assumption) (by assumption) | exact FX.rd_k (by assumption) rfl | exact FX.vw_app (by assumption)))); (focus ((first | exact rfl | assumption | exact FX.rd_0 (by assumption) | exact FX.rd_kx (by assumption) (by assumption) | exact FX.rd_k (by assumption) rfl | exact FX.vw_app (by assumption))))))
  | (focus ((with_reducible apply dgq); (focus ((first | exact rfl | assumption | exact FX.rd_0 (by assumption) | exact FX.rd_kx (by assumption) (by assumption) | exact FX.rd_k (by assumption) rfl | exact FX.vw_app (by assumption)))); (focus ((first | exact rfl | assumption | exact FX.rd_0 (by assumption) | exact FX.rd_kx (by assumption) (by assumption) | exact FX.rd_k (by assumption) rfl | exact FX.vw_app (by assumption))))))
  | (with_reducible refine we_callMq ?_)
  | (focus ((with_reducible apply cmq); (focus exact rfl); (focus exact rfl); (focus (simp only [List.cons_append, List.nil_append, List.filterMap_cons, List.filterMap_nil, List.getElem?_cons_zero, List.getElem?_cons_succ]; try rfl))))
  | (with_reducible refine ws_asgL2 ?_)
  | (with_reducible refine ws_asg3 ?_)
  | (with_reducible refine tupk3 ?_)
  | (with_reducible refine we_revl ?_)
  | (focus ((with_reducible apply revlq); (focus ((first | exact rfl | assumption | exact FX.rd_0 (by assumption) | exact FX.rd_kx (by assumption) (by assumption) | exact FX.rd_k (by assumption) rfl | exact FX.vw_app (by assumption))))))
  | (with_reducible refine we_rdc ?_)
  | (with_reducible refine we_rdi ?_)
  | (with_reducible refine we_negq ?_)
  | (with_reducible refine negq ?_)
  | (focus ((with_reducible apply rdcq); (focus ((first | exact rfl | assumption | exact FX.rd_0 (by assumption) | exact FX.rd_kx (by assumption) (by assumption) | exact FX.rd_k (by assumption) rfl | exact FX.vw_app (by assumption)))); (focus ((first | exact rfl | assumption | exact FX.rd_0 (by assumption) | exact FX.rd_kx (by assumption) (by assumption) | exact FX.rd_k (by assumption) rfl | exact FX.vw_app (by assumption)))))))))
      exact ⟨rfl, rfl⟩
    · rw [show (cs.map fun c => D.tup [.lst (c.map .int), .lst ((cols c 80).map .int)]) = TD (fun c => cols c 80) cs from rfl]
      (repeat' (first | (with_reducible refine wi_seqt ?_) | array_get_dec | (with_reducible refine tup_es ?_) | (first
  | (with_reducible refine we_srtset ?_)
  | (focus ((with_reducible apply wn_list); (focus ((first | exact rfl | assumption | exact FX.rd_0 (by assumption) | exact FX.rd_kx (by assumption) (by assumption) | exact FX.rd_k (by assumption) rfl | exact FX.vw_app (by assumption))))))
  | (focus ((with_reducible apply wo_in); (focus ((first | exact rfl | assumption | exact FX.rd_0 (by assumption) | exact FX.rd_kx (by assumption) (by assumption) | exact FX.rd_k (by assumption) rfl | exact FX.vw_app (by assumption))))))
  | (focus ((with_reducible apply wo_notin); (focus ((first | exact rfl | assumption | exact FX.rd_0 (by assumption) | exact FX.rd_kx (by assumption) (by assumption) | exact FX.rd_k (by assumption) rfl | exact FX.vw_app (by assumption))))))
  | (with_reducible refine wi_enumzip ?_)
  | (with_reducible refine we_dget ?_)
  | (focus ((with_reducible apply enumzipq); (focus ((first | exact rfl | assumption | exact FX.rd_0 (by assumption) | exact FX.rd_kx (by assumption) (by assumption) | exact FX.rd_k (by assumption) rfl | exact FX.vw_app (by assumption)))); (focus ((first | exact rfl | assumption | exact FX.rd_0 (by assumption) | exact FX.rd_kx (by assumption) (by assumption) | exact FX.rd_k (by assumption) rfl | exact FX.vw_app (by assumption))))))
  | (focus ((with_reducible apply dgq); (focus ((first | exact rfl | assumption | exact FX.rd_0 (by assumption) | exact FX.rd_kx (by assumption) (by assumption) | exact FX.rd_k (by assumption) rfl | exact FX.vw_app (by assumption)))); (focus ((first | exact rfl | assumption | exact FX.rd_0 (by assumption) | exact FX.rd_kx (by assumption) (by assumption) | exact FX.rd_k (by assumption) rfl | exact FX.vw_app (by assumption))))))
  | (with_reducible refine we_callMq ?_)
  | (focus ((with_reducible apply cmq); (focus exact rfl); (focus exact rfl); (focus (simp only [List.cons_append, List.nil_append, List.filterMap_cons, List.filterMap_nil, List.getElem?_cons_zero, List.getElem?_cons_succ]; try rfl))))
  | (with_reducible refine ws_asgL2 ?_)
  | (with_reducible refine ws_asg3 ?_)
  | (with_reducible refine tupk3 ?_)
  | (with_reducible refine we_revl ?_)
  | (focus ((with_reducible apply revlq); (focus ((first | exact rfl | assumption | exact FX.rd_0 (by assumption) | exact FX.rd_kx (by assumption) (by assumption) | exact FX.rd_k (by assumption) rfl | exact FX.vw_app (by assumption))))))
  | (with_reducible refine we_rdc ?_)
  | (with_reducible refine we_rdi ?_)
  | (with_reducible refine we_negq ?_)
  | (with_reducible refine negq ?_)
  | (focus ((with_reducible apply rdcq); (focus ((first | exact rfl | assumption | exact FX.rd_0 (by assumption) | exact FX.rd_kx (by assumption) (by assumption) | exact FX.rd_k (by assumption) rfl | exact FX.vw_app (by assumption)))); (focus ((first | exact rfl | assumption | exact FX.rd_0 (by assumption) | exact FX.rd_kx (by assumption) (by assumption) | exact FX.rd_k (by assumption) rfl | exact FX.vw_app (by assumption)))))))))
      refine for_rng (fun i loc s => ∃ (x2 x3 x4 x5 x6 x7 x8 x9 x10 : Option (D × Bool)), loc = [some (.scr ns, false), some (.lst (TD (fun c => cols c 80) cs), true), x2, x3, x4, x5, x6, x7, x8, x9, x10] ∧ PC s) (by exact ⟨_, _, _, _, _, _, _, _, _, rfl, PC.nil⟩) (fun _ _ _ _ _ => trivial) (fun i loc s hi ⟨x2, x3, x4, x5, x6, x7, x8, x9, x10, eloc, hp⟩ => ?_) (fun loc s ⟨x2, x3, x4, x5, x6, x7, x8, x9, x10, eloc, hp⟩ => ?_)
      · subst eloc
        obtain ⟨n, hn⟩ : ∃ n, s.length = n := ⟨_, rfl⟩
        have hk : (i : Int) ≤ 4 := by omega
        simp only [List.set_cons_zero, List.set_cons_succ]
        refine ws_st ?_
        decreasing_tactic
        refine bag_w (by sizeOf_list_dec) (by omega) (by omega) hl hb (fun a c a0 c0 c1 => ?_)
        decreasing_tactic
        refine for_rng (fun j loc s => (∃ (x2 x5 x6 x7 x8 x9 x10 : Option (D × Bool)), loc = [some (.scr ns, false), some (.lst (TD (fun c => cols c 80) cs), true), x2, some (.int (0 + i), false), some (.hnd n, true), x5, x6, x7, x8, x9, x10]) ∧ PC s ∧ Nu s n (1000 * j)) (by exact ⟨⟨_, _, _, _, _, _, _, rfl⟩, by sizeOf_list_dec, a, c, 0, rd_0 hn, a0, by omega, by omega, by omega, by omega⟩) (fun _ _ _ _ _ => trivial) (fun j loc s hj ⟨⟨x2, x5, x6, x7, x8, x9, x10, eloc⟩, hp, nu⟩ => ?_) (fun loc s ⟨⟨x2, x5, x6, x7, x8, x9, x10, eloc⟩, hp, nu⟩ => ?_)
        · subst eloc
          obtain ⟨n1, hn1⟩ : ∃ n, s.length = n := ⟨_, rfl⟩
          have hj1 : 1000 * (j : Int) ≤ 4000 := by omega
          simp only [List.set_cons_zero, List.set_cons_succ]
          refine ws_st ?_
          (repeat' (first | (with_reducible refine wi_seqt ?_) | array_get_dec | (with_reducible refine tup_es ?_) | (first
  | (with_reducible refine we_srtset ?_)
  | (focus ((with_reducible apply wn_list); (focus ((first | exact rfl | assumption | exact FX.rd_0 (by assumption) | exact FX.rd_kx (by assumption) (by assumption) | exact FX.rd_k (by assumption) rfl | exact FX.vw_app (by assumption))))))
  | (focus ((with_reducible apply wo_in); (focus ((first | exact rfl | assumption | exact FX.rd_0 (by assumption) | exact FX.rd_kx (by assumption) (by assumption) | exact FX.rd_k (by assumption) rfl | exact FX.vw_app (by assumption))))))
  | (focus ((with_reducible apply wo_notin); (focus ((first | exact rfl | assumption | exact FX.rd_0 (by assumption) | exact FX.rd_kx (by assumption) (by assumption) | exact FX.rd_k (by assumption) rfl | exact FX.vw_app (by assumption))))))
  | (with_reducible refine wi_enumzip ?_)
  | (with_reducible refine we_dget ?_)
  | (focus ((with_reducible apply enumzipq); (focus ((first | exact rfl | assumption | exact FX.rd_0 (by assumption) | exact FX.rd_kx (by assumption) (by assumption) | exact FX.rd_k (by assumption) rfl | exact FX.vw_app (by assumption)))); (focus ((first | exact rfl | assumption | exact FX.rd_0 (by assumption) | exact FX.rd_kx (by assumption) (by assumption) | exact FX.rd_k (by assumption) rfl | exact FX.vw_app (by assumption))))))
  | (focus ((with_reducible apply dgq); (focus ((first | exact rfl | assumption | exact FX.rd_0 (by assumption) | exact FX.rd_kx (by assumption) (by assumption) | exact FX.rd_k (by assumption) rfl | exact FX.vw_app (by assumption)))); (focus ((first | exact rfl | assumption | exact FX.rd_0 (by assumption) | exact FX.rd_kx (by assumption) (by assumption) | exact FX.rd_k (by assumption) rfl | exact FX.vw_app (by assumption))))))
  | (with_reducible refine we_callMq ?_)
  | (focus ((with_reducible apply cmq); (focus exact rfl); (focus exact rfl); (focus (simp only [List.cons_append, List.nil_append, List.filterMap_cons, List.filterMap_nil, List.getElem?_cons_zero, List.getElem?_cons_succ]; try rfl))))
  | (with_reducible refine ws_asgL2 ?_)
  | (with_reducible refine ws_asg3 ?_)
  | (with_reducible refine tupk3 ?_)
  | (with_reducible refine we_revl ?_)
  | (focus ((with_reducible apply revlq); (focus ((first | exact rfl | assumption | exact FX.rd_0 (by assumption) | exact FX.rd_kx (by assumption) (by assumption) | exact FX.rd_k (by assumption) rfl | exact FX.vw_app (by assumption))))))
  | (with_reducible refine we_rdc ?_)
  | (with_reducible refine we_rdi ?_)
  | (with_reducible refine we_negq ?_)
  | (with_reducible refine negq ?_)
  | (focus ((with_reducible apply rdcq); (focus ((first | exact rfl | assumption | exact FX.rd_0 (by assumption) | exact FX.rd_kx (by assumption) (by assumption) | exact FX.rd_k (by assumption) rfl | exact FX.vw_app (by assumption)))); (focus ((first | exact rfl | assumption | exact FX.rd_0 (by assumption) | exact FX.rd_kx (by assumption) (by assumption) | exact FX.rd_k (by assumption) rfl | exact FX.vw_app (by assumption)))))))))
          refine chain_w (by assumption) (by assumption) (by sizeOf_list_dec) (by assumption) (by omega) (by omega) (by omega) (by omega) (by omega) (fun vs s3 lw hw l3 p3 n3 o3 => ?_)
          have hc3 : PC (s3 ++ []) := by sizeOf_list_dec
          have ok : okw vs := ⟨by omega, fun x hx => by have := hw x hx; omega⟩
          have hpos : ∀ x ∈ vs, 1 ≤ x := fun x hx => (hw x hx).1
          (repeat' (first | (with_reducible refine wi_seqt ?_) | array_get_dec | (with_reducible refine tup_es ?_) | (first
  | (with_reducible refine we_srtset ?_)
  | (focus ((with_reducible apply wn_list); (focus ((first | exact rfl | assumption | exact FX.rd_0 (by assumption) | exact FX.rd_kx (by assumption) (by assumption) | exact FX.rd_k (by assumption) rfl | exact FX.vw_app (by assumption))))))
  | (focus ((with_reducible apply wo_in); (focus ((first | exact rfl | assumption | exact FX.rd_0 (by assumption) | exact FX.rd_kx (by assumption) (by assumption) | exact FX.rd_k (by assumption) rfl | exact FX.vw_app (by assumption))))))
  | (focus ((with_reducible apply wo_notin); (focus ((first | exact rfl | assumption | exact FX.rd_0 (by assumption) | exact FX.rd_kx (by assumption) (by assumption) | exact FX.rd_k (by assumption) rfl | exact FX.vw_app (by assumption))))))
  | (with_reducible refine wi_enumzip ?_)
  | (with_reducible refine we_dget ?_)
  | (focus ((with_reducible apply enumzipq); (focus ((first | exact rfl | assumption | exact FX.rd_0 (by assumption) | exact FX.rd_kx (by assumption) (by assumption) | exact FX.rd_k (by assumption) rfl | exact FX.vw_app (by assumption)))); (focus ((first | exact rfl | assumption | exact FX.rd_0 (by assumption) | exact FX.rd_kx (by assumption) (by assumption) | exact FX.rd_k (by assumption) rfl | exact FX.vw_app (by assumption))))))
  | (focus ((with_reducible apply dgq); (focus ((first | exact rfl | assumption | exact FX.rd_0 (by assumption) | exact FX.rd_kx (by assumption) (by assumption) | exact FX.rd_k (by assumption) rfl | exact FX.vw_app (by assumption)))); (focus ((first | exact rfl | assumption | exact FX.rd_0 (by assumption) | exact FX.rd_kx (by assumption) (by assumption) | exact FX.rd_k (by assumption) rfl | exact FX.vw_app (by assumption))))))
  | (with_reducible refine we_callMq ?_)
  | (focus ((with_reducible apply cmq); (focus exact rfl); (focus exact rfl); (focus (simp only [List.cons_append, List.nil_append, List.filterMap_cons, List.filterMap_nil, List.getElem?_cons_zero, List.getElem?_cons_succ]; try rfl))))
  | (with_reducible refine ws_asgL2 ?_)
  | (with_reducible refine ws_asg3 ?_)
  | (with_reducible refine tupk3 ?_)
  | (with_reducible refine we_revl ?_)
  | (focus ((with_reducible apply revlq); (focus ((first | exact rfl | assumption | exact FX.rd_0 (by assumption) | exact FX.rd_kx (by assumption) (by assumption) | exact FX.rd_k (by assumption) rfl | exact FX.vw_app (by assumption))))))
  | (with_reducible refine we_rdc ?_)
  | (with_reducible refine we_rdi ?_)
  | (with_reducible refine we_negq ?_)
  | (with_reducible refine negq ?_)
  | (focus ((with_reducible apply rdcq); (focus ((first | exact rfl | assumption | exact FX.rd_0 (by assumption) | exact FX.rd_kx (by assumption) (by assumption) | exact FX.rd_k (by assumption) rfl | exact FX.vw_app (by assumption)))); (focus ((first | exact rfl | assumption | exact FX.rd_0 (by assumption) | exact FX.rd_kx (by assumption) (by assumption) | exact FX.rd_k (by assumption) rfl | exact FX.vw_app (by assumption)))))))))
          refine b80_w hc3 rfl hw (by omega) ?_
          (repeat' (first | (with_reducible refine wi_seqt ?_) | array_get_dec | (with_reducible refine tup_es ?_) | (first
  | (with_reducible refine we_srtset ?_)
  | (focus ((with_reducible apply wn_list); (focus ((first | exact rfl | assumption | exact FX.rd_0 (by assumption) | exact FX.rd_kx (by assumption) (by assumption) | exact FX.rd_k (by assumption) rfl | exact FX.vw_app (by assumption))))))
  | (focus ((with_reducible apply wo_in); (focus ((first | exact rfl | assumption | exact FX.rd_0 (by assumption) | exact FX.rd_kx (by assumption) (by assumption) | exact FX.rd_k (by assumption) rfl | exact FX.vw_app (by assumption))))))
  | (focus ((with_reducible apply wo_notin); (focus ((first | exact rfl | assumption | exact FX.rd_0 (by assumption) | exact FX.rd_kx (by assumption) (by assumption) | exact FX.rd_k (by assumption) rfl | exact FX.vw_app (by assumption))))))
  | (with_reducible refine wi_enumzip ?_)
  | (with_reducible refine we_dget ?_)
  | (focus ((with_reducible apply enumzipq); (focus ((first | exact rfl | assumption | exact FX.rd_0 (by assumption) | exact FX.rd_kx (by assumption) (by assumption) | exact FX.rd_k (by assumption) rfl | exact FX.vw_app (by assumption)))); (focus ((first | exact rfl | assumption | exact FX.rd_0 (by assumption) | exact FX.rd_kx (by assumption) (by assumption) | exact FX.rd_k (by assumption) rfl | exact FX.vw_app (by assumption))))))
  | (focus ((with_reducible apply dgq); (focus ((first | exact rfl | assumption | exact FX.rd_0 (by assumption) | exact FX.rd_kx (by assumption) (by assumption) | exact FX.rd_k (by assumption) rfl | exact FX.vw_app (by assumption)))); (focus ((first | exact rfl | assumption | exact FX.rd_0 (by assumption) | exact FX.rd_kx (by assumption) (by assumption) | exact FX.rd_k (by assumption) rfl | exact FX.vw_app (by assumption))))))
  | (with_reducible refine we_callMq ?_)
  | (focus ((with_reducible apply cmq); (focus exact rfl); (focus exact rfl); (focus (simp only [List.cons_append, List.nil_append, List.filterMap_cons, List.filterMap_nil, List.getElem?_cons_zero, List.getElem?_cons_succ]; try rfl))))
  | (with_reducible refine ws_asgL2 ?_)
  | (with_reducible refine ws_asg3 ?_)
  | (with_reducible refine tupk3 ?_)
  | (with_reducible refine we_revl ?_)
  | (focus ((with_reducible apply revlq); (focus ((first | exact rfl | assumption | exact FX.rd_0 (by assumption) | exact FX.rd_kx (by assumption) (by assumption) | exact FX.rd_k (by assumption) rfl | exact FX.vw_app (by assumption))))))
  | (with_reducible refine we_rdc ?_)
  | (with_reducible refine we_rdi ?_)
  | (with_reducible refine we_negq ?_)
  | (with_reducible refine negq ?_)
  | (focus ((with_reducible apply rdcq); (focus ((first | exact rfl | assumption | exact FX.rd_0 (by assumption) | exact FX.rd_kx (by assumption) (by assumption) | exact FX.rd_k (by assumption) rfl | exact FX.vw_app (by assumption)))); (focus ((first | exact rfl | assumption | exact FX.rd_0 (by assumption) | exact FX.rd_kx (by assumption) (by assumption) | exact FX.rd_k (by assumption) rfl | exact FX.vw_app (by assumption)))))))))
          refine c80_w hc3 hw ?_
          (repeat' (first | (with_reducible refine wi_seqt ?_) | array_get_dec | (with_reducible refine tup_es ?_) | (first
  | (with_reducible refine we_srtset ?_)
  | (focus ((with_reducible apply wn_list); (focus ((first | exact rfl | assumption | exact FX.rd_0 (by assumption) | exact FX.rd_kx (by assumption) (by assumption) | exact FX.rd_k (by assumption) rfl | exact FX.vw_app (by assumption))))))
  | (focus ((with_reducible apply wo_in); (focus ((first | exact rfl | assumption | exact FX.rd_0 (by assumption) | exact FX.rd_kx (by assumption) (by assumption) | exact FX.rd_k (by assumption) rfl | exact FX.vw_app (by assumption))))))
  | (focus ((with_reducible apply wo_notin); (focus ((first | exact rfl | assumption | exact FX.rd_0 (by assumption) | exact FX.rd_kx (by assumption) (by assumption) | exact FX.rd_k (by assumption) rfl | exact FX.vw_app (by assumption))))))
  | (with_reducible refine wi_enumzip ?_)
  | (with_reducible refine we_dget ?_)
  | (focus ((with_reducible apply enumzipq); (focus ((first | exact rfl | assumption | exact FX.rd_0 (by assumption) | exact FX.rd_kx (by assumption) (by assumption) | exact FX.rd_k (by assumption) rfl | exact FX.vw_app (by assumption)))); (focus ((first | exact rfl | assumption | exact FX.rd_0 (by assumption) | exact FX.rd_kx (by assumption) (by assumption) | exact FX.rd_k (by assumption) rfl | exact FX.vw_app (by assumption))))))
  | (focus ((with_reducible apply dgq); (focus ((first | exact rfl | assumption | exact FX.rd_0 (by assumption) | exact FX.rd_kx (by assumption) (by assumption) | exact FX.rd_k (by assumption) rfl | exact FX.vw_app (by assumption)))); (focus ((first | exact rfl | assumption | exact FX.rd_0 (by assumption) | exact FX.rd_kx (by assumption) (by assumption) | exact FX.rd_k (by assumption) rfl | exact FX.vw_app (by assumption))))))
  | (with_reducible refine we_callMq ?_)
  | (focus ((with_reducible apply cmq); (focus exact rfl); (focus exact rfl); (focus (simp only [List.cons_append, List.nil_append, List.filterMap_cons, List.filterMap_nil, List.getElem?_cons_zero, List.getElem?_cons_succ]; try rfl))))
  | (with_reducible refine ws_asgL2 ?_)
  | (with_reducible refine ws_asg3 ?_)
  | (with_reducible refine tupk3 ?_)
  | (with_reducible refine we_revl ?_)
  | (focus ((with_reducible apply revlq); (focus ((first | exact rfl | assumption | exact FX.rd_0 (by assumption) | exact FX.rd_kx (by assumption) (by assumption) | exact FX.rd_k (by assumption) rfl | exact FX.vw_app (by assumption))))))
  | (with_reducible refine we_rdc ?_)
  | (with_reducible refine we_rdi ?_)
  | (with_reducible refine we_negq ?_)
  | (with_reducible refine negq ?_)
  | (focus ((with_reducible apply rdcq); (focus ((first | exact rfl | assumption | exact FX.rd_0 (by assumption) | exact FX.rd_kx (by assumption) (by assumption) | exact FX.rd_k (by assumption) rfl | exact FX.vw_app (by assumption)))); (focus ((first | exact rfl | assumption | exact FX.rd_0 (by assumption) | exact FX.rd_kx (by assumption) (by assumption) | exact FX.rd_k (by assumption) rfl | exact FX.vw_app (by assumption)))))))))
          obtain ⟨sm, hsm⟩ : ∃ sm, sm = cs.filter fun c => decide (cols c 80 = cols vs 80) := ⟨_, rfl⟩
          refine comp_pre (by simp only [wipeL, List.set_cons_zero, List.set_cons_succ]; rfl) ?_
          refine comp_tdF (fun c => decide (cols c 80 = cols vs 80)) rfl rfl (by omega) (fun c hc => ⟨?_, ?_⟩) ?_
          · simp only [List.set_cons_zero, List.set_cons_succ]
            (repeat' (first | (with_reducible refine wi_seqt ?_) | array_get_dec | (with_reducible refine tup_es ?_) | (first
  | (with_reducible refine we_srtset ?_)
  | (focus ((with_reducible apply wn_list); (focus ((first | exact rfl | assumption | exact FX.rd_0 (by assumption) | exact FX.rd_kx (by assumption) (by assumption) | exact FX.rd_k (by assumption) rfl | exact FX.vw_app (by assumption))))))
  | (focus ((with_reducible apply wo_in); (focus ((first | exact rfl | assumption | exact FX.rd_0 (by assumption) | exact FX.rd_kx (by assumption) (by assumption) | exact FX.rd_k (by assumption) rfl | exact FX.vw_app (by assumption))))))
  | (focus ((with_reducible apply wo_notin); (focus ((first | exact rfl | assumption | exact FX.rd_0 (by assumption) | exact FX.rd_kx (by assumption) (by assumption) | exact FX.rd_k (by assumption) rfl | exact FX.vw_app (by assumption))))))
  | (with_reducible refine wi_enumzip ?_)
  | (with_reducible refine we_dget ?_)
  | (focus ((with_reducible apply enumzipq); (focus ((first | exact rfl | assumption | exact FX.rd_0 (by assumption) | exact FX.rd_kx (by assumption) (by assumption) | exact FX.rd_k (by assumption) rfl | exact FX.vw_app (by assumption)))); (focus ((first | exact rfl | assumption | exact FX.rd_0 (by assumption) | exact FX.rd_kx (by assumption) (by assumption) | exact FX.rd_k (by assumption) rfl | exact FX.vw_app (by assumption))))))
  | (focus ((with_reducible apply dgq); (focus ((first | exact rfl | assumption | exact FX.rd_0 (by assumption) | exact FX.rd_kx (by assumption) (by assumption) | exact FX.rd_k (by assumption) rfl | exact FX.vw_app (by assumption)))); (focus ((first | exact rfl | assumption | exact FX.rd_0 (by assumption) | exact FX.rd_kx (by assumption) (by assumption) | exact FX.rd_k (by assumption) rfl | exact FX.vw_app (by assumption))))))
  | (with_reducible refine we_callMq ?_)
  | (focus ((with_reducible apply cmq); (focus exact rfl); (focus exact rfl); (focus (simp only [List.cons_append, List.nil_append, List.filterMap_cons, List.filterMap_nil, List.getElem?_cons_zero, List.getElem?_cons_succ]; try rfl))))
  | (with_reducible refine ws_asgL2 ?_)
  | (with_reducible refine ws_asg3 ?_)
  | (with_reducible refine tupk3 ?_)
  | (with_reducible refine we_revl ?_)
  | (focus ((with_reducible apply revlq); (focus ((first | exact rfl | assumption | exact FX.rd_0 (by assumption) | exact FX.rd_kx (by assumption) (by assumption) | exact FX.rd_k (by assumption) rfl | exact FX.vw_app (by assumption))))))
  | (with_reducible refine we_rdc ?_)
  | (with_reducible refine we_rdi ?_)
  | (with_reducible refine we_negq ?_)
  | (with_reducible refine negq ?_)
  | (focus ((with_reducible apply rdcq); (focus ((first | exact rfl | assumption | exact FX.rd_0 (by assumption) | exact FX.rd_kx (by assumption) (by assumption) | exact FX.rd_k (by assumption) rfl | exact FX.vw_app (by assumption)))); (focus ((first | exact rfl | assumption | exact FX.rd_0 (by assumption) | exact FX.rd_kx (by assumption) (by assumption) | exact FX.rd_k (by assumption) rfl | exact FX.vw_app (by assumption)))))))))
            exact ⟨rfl, rfl⟩
          · simp only [List.set_cons_zero, List.set_cons_succ]
            (repeat' (first | (with_reducible refine wi_seqt ?_) | array_get_dec | (with_reducible refine tup_es ?_) | (first
  | (with_reducible refine we_srtset ?_)
  | (focus ((with_reducible apply wn_list); (focus ((first | exact rfl | assumption | exact FX.rd_0 (by assumption) | exact FX.rd_kx (by assumption) (by assumption) | exact FX.rd_k (by assumption) rfl | exact FX.vw_app (by assumption))))))
  | (focus ((with_reducible apply wo_in); (focus ((first | exact rfl | assumption | exact FX.rd_0 (by assumption) | exact FX.rd_kx (by assumption) (by assumption) | exact FX.rd_k (by assumption) rfl | exact FX.vw_app (by assumption))))))
  | (focus ((with_reducible apply wo_notin); (focus ((first | exact rfl | assumption | exact FX.rd_0 (by assumption) | exact FX.rd_kx (by assumption) (by assumption) | exact FX.rd_k (by assumption) rfl | exact FX.vw_app (by assumption))))))
  | (with_reducible refine wi_enumzip ?_)
  | (with_reducible refine we_dget ?_)
  | (focus ((with_reducible apply enumzipq); (focus ((first | exact rfl | assumption | exact FX.rd_0 (by assumption) | exact FX.rd_kx (by assumption) (by assumption) | exact FX.rd_k (by assumption) rfl | exact FX.vw_app (by assumption)))); (focus ((first | exact rfl | assumption | exact FX.rd_0 (by assumption) | exact FX.rd_kx (by assumption) (by assumption) | exact FX.rd_k (by assumption) rfl | exact FX.vw_app (by assumption))))))
  | (focus ((with_reducible apply dgq); (focus ((first | exact rfl | assumption | exact FX.rd_0 (by assumption) | exact FX.rd_kx (by assumption) (by assumption) | exact FX.rd_k (by assumption) rfl | exact FX.vw_app (by assumption)))); (focus ((first | exact rfl | assumption | exact FX.rd_0 (by assumption) | exact FX.rd_kx (by assumption) (by assumption) | exact FX.rd_k (by assumption) rfl | exact FX.vw_app (by assumption))))))
  | (with_reducible refine we_callMq ?_)
  | (focus ((with_reducible apply cmq); (focus exact rfl); (focus exact rfl); (focus (simp only [List.cons_append, List.nil_append, List.filterMap_cons, List.filterMap_nil, List.getElem?_cons_zero, List.getElem?_cons_succ]; try rfl))))
  | (with_reducible refine ws_asgL2 ?_)
  | (with_reducible refine ws_asg3 ?_)
  | (with_reducible refine tupk3 ?_)
  | (with_reducible refine we_revl ?_)
  | (focus ((with_reducible apply revlq); (focus ((first | exact rfl | assumption | exact FX.rd_0 (by assumption) | exact FX.rd_kx (by assumption) (by assumption) | exact FX.rd_k (by assumption) rfl | exact FX.vw_app (by assumption))))))
  | (with_reducible refine we_rdc ?_)
  | (with_reducible refine we_rdi ?_)
  | (with_reducible refine we_negq ?_)
  | (with_reducible refine negq ?_)
  | (focus ((with_reducible apply rdcq); (focus ((first | exact rfl | assumption | exact FX.rd_0 (by assumption) | exact FX.rd_kx (by assumption) (by assumption) | exact FX.rd_k (by assumption) rfl | exact FX.vw_app (by assumption)))); (focus ((first | exact rfl | assumption | exact FX.rd_0 (by assumption) | exact FX.rd_kx (by assumption) (by assumption) | exact FX.rd_k (by assumption) rfl | exact FX.vw_app (by assumption)))))))))
            exact ⟨rfl, rfl⟩
          rw [← hsm]
          (repeat' (first | (with_reducible refine wi_seqt ?_) | array_get_dec | (with_reducible refine tup_es ?_) | (first
  | (with_reducible refine we_srtset ?_)
  | (focus ((with_reducible apply wn_list); (focus ((first | exact rfl | assumption | exact FX.rd_0 (by assumption) | exact FX.rd_kx (by assumption) (by assumption) | exact FX.rd_k (by assumption) rfl | exact FX.vw_app (by assumption))))))
  | (focus ((with_reducible apply wo_in); (focus ((first | exact rfl | assumption | exact FX.rd_0 (by assumption) | exact FX.rd_kx (by assumption) (by assumption) | exact FX.rd_k (by assumption) rfl | exact FX.vw_app (by assumption))))))
  | (focus ((with_reducible apply wo_notin); (focus ((first | exact rfl | assumption | exact FX.rd_0 (by assumption) | exact FX.rd_kx (by assumption) (by assumption) | exact FX.rd_k (by assumption) rfl | exact FX.vw_app (by assumption))))))
  | (with_reducible refine wi_enumzip ?_)
  | (with_reducible refine we_dget ?_)
  | (focus ((with_reducible apply enumzipq); (focus ((first | exact rfl | assumption | exact FX.rd_0 (by assumption) | exact FX.rd_kx (by assumption) (by assumption) | exact FX.rd_k (by assumption) rfl | exact FX.vw_app (by assumption)))); (focus ((first | exact rfl | assumption | exact FX.rd_0 (by assumption) | exact FX.rd_kx (by assumption) (by assumption) | exact FX.rd_k (by assumption) rfl | exact FX.vw_app (by assumption))))))
  | (focus ((with_reducible apply dgq); (focus ((first | exact rfl | assumption | exact FX.rd_0 (by assumption) | exact FX.rd_kx (by assumption) (by assumption) | exact FX.rd_k (by assumption) rfl | exact FX.vw_app (by assumption)))); (focus ((first | exact rfl | assumption | exact FX.rd_0 (by assumption) | exact FX.rd_kx (by assumption) (by assumption) | exact FX.rd_k (by assumption) rfl | exact FX.vw_app (by assumption))))))
  | (with_reducible refine we_callMq ?_)
  | (focus ((with_reducible apply cmq); (focus exact rfl); (focus exact rfl); (focus (simp only [List.cons_append, List.nil_append, List.filterMap_cons, List.filterMap_nil, List.getElem?_cons_zero, List.getElem?_cons_succ]; try rfl))))
  | (with_reducible refine ws_asgL2 ?_)
  | (with_reducible refine ws_asg3 ?_)
  | (with_reducible refine tupk3 ?_)
  | (with_reducible refine we_revl ?_)
  | (focus ((with_reducible apply revlq); (focus ((first | exact rfl | assumption | exact FX.rd_0 (by assumption) | exact FX.rd_kx (by assumption) (by assumption) | exact FX.rd_k (by assumption) rfl | exact FX.vw_app (by assumption))))))
  | (with_reducible refine we_rdc ?_)
  | (with_reducible refine we_rdi ?_)
  | (with_reducible refine we_negq ?_)
  | (with_reducible refine negq ?_)
  | (focus ((with_reducible apply rdcq); (focus ((first | exact rfl | assumption | exact FX.rd_0 (by assumption) | exact FX.rd_kx (by assumption) (by assumption) | exact FX.rd_k (by assumption) rfl | exact FX.vw_app (by assumption)))); (focus ((first | exact rfl | assumption | exact FX.rd_0 (by assumption) | exact FX.rd_kx (by assumption) (by assumption) | exact FX.rd_k (by assumption) rfl | exact FX.vw_app (by assumption)))))))))
          refine normal_form_w hc3 rfl ok ?_
          (repeat' (first | (with_reducible refine wi_seqt ?_) | array_get_dec | (with_reducible refine tup_es ?_) | (first
  | (with_reducible refine we_srtset ?_)
  | (focus ((with_reducible apply wn_list); (focus ((first | exact rfl | assumption | exact FX.rd_0 (by assumption) | exact FX.rd_kx (by assumption) (by assumption) | exact FX.rd_k (by assumption) rfl | exact FX.vw_app (by assumption))))))
  | (focus ((with_reducible apply wo_in); (focus ((first | exact rfl | assumption | exact FX.rd_0 (by assumption) | exact FX.rd_kx (by assumption) (by assumption) | exact FX.rd_k (by assumption) rfl | exact FX.vw_app (by assumption))))))
  | (focus ((with_reducible apply wo_notin); (focus ((first | exact rfl | assumption | exact FX.rd_0 (by assumption) | exact FX.rd_kx (by assumption) (by assumption) | exact FX.rd_k (by assumption) rfl | exact FX.vw_app (by assumption))))))
  | (with_reducible refine wi_enumzip ?_)
  | (with_reducible refine we_dget ?_)
  | (focus ((with_reducible apply enumzipq); (focus ((first | exact rfl | assumption | exact FX.rd_0 (by assumption) | exact FX.rd_kx (by assumption) (by assumption) | exact FX.rd_k (by assumption) rfl | exact FX.vw_app (by assumption)))); (focus ((first | exact rfl | assumption | exact FX.rd_0 (by assumption) | exact FX.rd_kx (by assumption) (by assumption) | exact FX.rd_k (by assumption) rfl | exact FX.vw_app (by assumption))))))
  | (focus ((with_reducible apply dgq); (focus ((first | exact rfl | assumption | exact FX.rd_0 (by assumption) | exact FX.rd_kx (by assumption) (by assumption) | exact FX.rd_k (by assumption) rfl | exact FX.vw_app (by assumption)))); (focus ((first | exact rfl | assumption | exact FX.rd_0 (by assumption) | exact FX.rd_kx (by assumption) (by assumption) | exact FX.rd_k (by assumption) rfl | exact FX.vw_app (by assumption))))))
  | (with_reducible refine we_callMq ?_)
  | (focus ((with_reducible apply cmq); (focus exact rfl); (focus exact rfl); (focus (simp only [List.cons_append, List.nil_append, List.filterMap_cons, List.filterMap_nil, List.getElem?_cons_zero, List.getElem?_cons_succ]; try rfl))))
  | (with_reducible refine ws_asgL2 ?_)
  | (with_reducible refine ws_asg3 ?_)
  | (with_reducible refine tupk3 ?_)
  | (with_reducible refine we_revl ?_)
  | (focus ((with_reducible apply revlq); (focus ((first | exact rfl | assumption | exact FX.rd_0 (by assumption) | exact FX.rd_kx (by assumption) (by assumption) | exact FX.rd_k (by assumption) rfl | exact FX.vw_app (by assumption))))))
  | (with_reducible refine we_rdc ?_)
  | (with_reducible refine we_rdi ?_)
  | (with_reducible refine we_negq ?_)
  | (with_reducible refine negq ?_)
  | (focus ((with_reducible apply rdcq); (focus ((first | exact rfl | assumption | exact FX.rd_0 (by assumption) | exact FX.rd_kx (by assumption) (by assumption) | exact FX.rd_k (by assumption) rfl | exact FX.vw_app (by assumption)))); (focus ((first | exact rfl | assumption | exact FX.rd_0 (by assumption) | exact FX.rd_kx (by assumption) (by assumption) | exact FX.rd_k (by assumption) rfl | exact FX.vw_app (by assumption)))))))))
          have nfm : nf vs ∈ sm := by
            rw [hsm, List.mem_filter]
            exact ⟨by rw [hcs]; exact subs_mem.mpr ⟨nf_falls, nf_bound hw⟩, decide_eq_true (cols_same fun x h => nf_rm hpos h)⟩
          have smf : ∀ c ∈ sm, (∀ y ∈ c, 1 ≤ y ∧ y ≤ 8) ∧ c.length ≤ 8 ∧ ∀ x, 0 ≤ x → rm c x = rm vs x := fun c hc => by
            rw [hsm, List.mem_filter, decide_eq_true_iff] at hc
            have h := cs8 c hc.1
            exact ⟨h.2.1, h.2.2, cols_all h.2.1 hw (by omega) (by omega) hc.2⟩
          have sml : sm.length ≤ 256 := by rw [hsm]; exact Nat.le_trans (List.length_filter_le _ _) (by omega)
          have okS : ∀ c ∈ sm, OkI c ∧ c.length ≤ 1000 := fun c hc => by
            have h := smf c hc
            exact ⟨fun y hy => by have := h.1 y hy; omega, by omega⟩
          refine wo_notinD rfl rfl okS ?_
          rw [decide_eq_true nfm]
          (repeat' (first | (with_reducible refine wi_seqt ?_) | array_get_dec | (with_reducible refine tup_es ?_) | (first
  | (with_reducible refine we_srtset ?_)
  | (focus ((with_reducible apply wn_list); (focus ((first | exact rfl | assumption | exact FX.rd_0 (by assumption) | exact FX.rd_kx (by assumption) (by assumption) | exact FX.rd_k (by assumption) rfl | exact FX.vw_app (by assumption))))))
  | (focus ((with_reducible apply wo_in); (focus ((first | exact rfl | assumption | exact FX.rd_0 (by assumption) | exact FX.rd_kx (by assumption) (by assumption) | exact FX.rd_k (by assumption) rfl | exact FX.vw_app (by assumption))))))
  | (focus ((with_reducible apply wo_notin); (focus ((first | exact rfl | assumption | exact FX.rd_0 (by assumption) | exact FX.rd_kx (by assumption) (by assumption) | exact FX.rd_k (by assumption) rfl | exact FX.vw_app (by assumption))))))
  | (with_reducible refine wi_enumzip ?_)
  | (with_reducible refine we_dget ?_)
  | (focus ((with_reducible apply enumzipq); (focus ((first | exact rfl | assumption | exact FX.rd_0 (by assumption) | exact FX.rd_kx (by assumption) (by assumption) | exact FX.rd_k (by assumption) rfl | exact FX.vw_app (by assumption)))); (focus ((first | exact rfl | assumption | exact FX.rd_0 (by assumption) | exact FX.rd_kx (by assumption) (by assumption) | exact FX.rd_k (by assumption) rfl | exact FX.vw_app (by assumption))))))
  | (focus ((with_reducible apply dgq); (focus ((first | exact rfl | assumption | exact FX.rd_0 (by assumption) | exact FX.rd_kx (by assumption) (by assumption) | exact FX.rd_k (by assumption) rfl | exact FX.vw_app (by assumption)))); (focus ((first | exact rfl | assumption | exact FX.rd_0 (by assumption) | exact FX.rd_kx (by assumption) (by assumption) | exact FX.rd_k (by assumption) rfl | exact FX.vw_app (by assumption))))))
  | (with_reducible refine we_callMq ?_)
  | (focus ((with_reducible apply cmq); (focus exact rfl); (focus exact rfl); (focus (simp only [List.cons_append, List.nil_append, List.filterMap_cons, List.filterMap_nil, List.getElem?_cons_zero, List.getElem?_cons_succ]; try rfl))))
  | (with_reducible refine ws_asgL2 ?_)
  | (with_reducible refine ws_asg3 ?_)
  | (with_reducible refine tupk3 ?_)
  | (with_reducible refine we_revl ?_)
  | (focus ((with_reducible apply revlq); (focus ((first | exact rfl | assumption | exact FX.rd_0 (by assumption) | exact FX.rd_kx (by assumption) (by assumption) | exact FX.rd_k (by assumption) rfl | exact FX.vw_app (by assumption))))))
  | (with_reducible refine we_rdc ?_)
  | (with_reducible refine we_rdi ?_)
  | (with_reducible refine we_negq ?_)
  | (with_reducible refine negq ?_)
  | (focus ((with_reducible apply rdcq); (focus ((first | exact rfl | assumption | exact FX.rd_0 (by assumption) | exact FX.rd_kx (by assumption) (by assumption) | exact FX.rd_k (by assumption) rfl | exact FX.vw_app (by assumption)))); (focus ((first | exact rfl | assumption | exact FX.rd_0 (by assumption) | exact FX.rd_kx (by assumption) (by assumption) | exact FX.rd_k (by assumption) rfl | exact FX.vw_app (by assumption)))))))))
          refine comp_pre (by simp only [wipeL, List.set_cons_zero, List.set_cons_succ]; rfl) ?_
          refine comp_ldI (fun c => (c.length : Int)) rfl (by omega) (fun c hc => ?_) ?_
          · simp only [List.set_cons_zero, List.set_cons_succ]
            (repeat' (first | (with_reducible refine wi_seqt ?_) | array_get_dec | (with_reducible refine tup_es ?_) | (first
  | (with_reducible refine we_srtset ?_)
  | (focus ((with_reducible apply wn_list); (focus ((first | exact rfl | assumption | exact FX.rd_0 (by assumption) | exact FX.rd_kx (by assumption) (by assumption) | exact FX.rd_k (by assumption) rfl | exact FX.vw_app (by assumption))))))
  | (focus ((with_reducible apply wo_in); (focus ((first | exact rfl | assumption | exact FX.rd_0 (by assumption) | exact FX.rd_kx (by assumption) (by assumption) | exact FX.rd_k (by assumption) rfl | exact FX.vw_app (by assumption))))))
  | (focus ((with_reducible apply wo_notin); (focus ((first | exact rfl | assumption | exact FX.rd_0 (by assumption) | exact FX.rd_kx (by assumption) (by assumption) | exact FX.rd_k (by assumption) rfl | exact FX.vw_app (by assumption))))))
  | (with_reducible refine wi_enumzip ?_)
  | (with_reducible refine we_dget ?_)
  | (focus ((with_reducible apply enumzipq); (focus ((first | exact rfl | assumption | exact FX.rd_0 (by assumption) | exact FX.rd_kx (by assumption) (by assumption) | exact FX.rd_k (by assumption) rfl | exact FX.vw_app (by assumption)))); (focus ((first | exact rfl | assumption | exact FX.rd_0 (by assumption) | exact FX.rd_kx (by assumption) (by assumption) | exact FX.rd_k (by assumption) rfl | exact FX.vw_app (by assumption))))))
  | (focus ((with_reducible apply dgq); (focus ((first | exact rfl | assumption | exact FX.rd_0 (by assumption) | exact FX.rd_kx (by assumption) (by assumption) | exact FX.rd_k (by assumption) rfl | exact FX.vw_app (by assumption)))); (focus ((first | exact rfl | assumption | exact FX.rd_0 (by assumption) | exact FX.rd_kx (by assumption) (by assumption) | exact FX.rd_k (by assumption) rfl | exact FX.vw_app (by assumption))))))
  | (with_reducible refine we_callMq ?_)
  | (focus ((with_reducible apply cmq); (focus exact rfl); (focus exact rfl); (focus (simp only [List.cons_append, List.nil_append, List.filterMap_cons, List.filterMap_nil, List.getElem?_cons_zero, List.getElem?_cons_succ]; try rfl))))
  | (with_reducible refine ws_asgL2 ?_)
  | (with_reducible refine ws_asg3 ?_)
  | (with_reducible refine tupk3 ?_)
  | (with_reducible refine we_revl ?_)
  | (focus ((with_reducible apply revlq); (focus ((first | exact rfl | assumption | exact FX.rd_0 (by assumption) | exact FX.rd_kx (by assumption) (by assumption) | exact FX.rd_k (by assumption) rfl | exact FX.vw_app (by assumption))))))
  | (with_reducible refine we_rdc ?_)
  | (with_reducible refine we_rdi ?_)
  | (with_reducible refine we_negq ?_)
  | (with_reducible refine negq ?_)
  | (focus ((with_reducible apply rdcq); (focus ((first | exact rfl | assumption | exact FX.rd_0 (by assumption) | exact FX.rd_kx (by assumption) (by assumption) | exact FX.rd_k (by assumption) rfl | exact FX.vw_app (by assumption)))); (focus ((first | exact rfl | assumption | exact FX.rd_0 (by assumption) | exact FX.rd_kx (by assumption) (by assumption) | exact FX.rd_k (by assumption) rfl | exact FX.vw_app (by assumption)))))))))
            exact ⟨by simp, rfl⟩
          obtain ⟨m, hm⟩ := least_ex (l := sm.map fun c => (c.length : Int)) (fun h => by rw [List.map_eq_nil_iff] at h; rw [h] at nfm; cases nfm)
          have em : m = ((nf vs).length : Int) := by
            obtain ⟨h1, h2⟩ := least_ok hm
            obtain ⟨c, hc, rfl⟩ := List.mem_map.mp h1
            have h3 := h2 _ (List.mem_map.mpr ⟨_, nfm, rfl⟩)
            have hp' : ∀ y ∈ c, 1 ≤ y := fun y hy => ((smf c hc).1 y hy).1
            have h4 := nf_short hp'
            rw [nf_congr hp' hpos (smf c hc).2.2] at h4
            omega
          (repeat' (first | (with_reducible refine wi_seqt ?_) | array_get_dec | (with_reducible refine tup_es ?_) | (first
  | (with_reducible refine we_srtset ?_)
  | (focus ((with_reducible apply wn_list); (focus ((first | exact rfl | assumption | exact FX.rd_0 (by assumption) | exact FX.rd_kx (by assumption) (by assumption) | exact FX.rd_k (by assumption) rfl | exact FX.vw_app (by assumption))))))
  | (focus ((with_reducible apply wo_in); (focus ((first | exact rfl | assumption | exact FX.rd_0 (by assumption) | exact FX.rd_kx (by assumption) (by assumption) | exact FX.rd_k (by assumption) rfl | exact FX.vw_app (by assumption))))))
  | (focus ((with_reducible apply wo_notin); (focus ((first | exact rfl | assumption | exact FX.rd_0 (by assumption) | exact FX.rd_kx (by assumption) (by assumption) | exact FX.rd_k (by assumption) rfl | exact FX.vw_app (by assumption))))))
  | (with_reducible refine wi_enumzip ?_)
  | (with_reducible refine we_dget ?_)
  | (focus ((with_reducible apply enumzipq); (focus ((first | exact rfl | assumption | exact FX.rd_0 (by assumption) | exact FX.rd_kx (by assumption) (by assumption) | exact FX.rd_k (by assumption) rfl | exact FX.vw_app (by assumption)))); (focus ((first | exact rfl | assumption | exact FX.rd_0 (by assumption) | exact FX.rd_kx (by assumption) (by assumption) | exact FX.rd_k (by assumption) rfl | exact FX.vw_app (by assumption))))))
  | (focus ((with_reducible apply dgq); (focus ((first | exact rfl | assumption | exact FX.rd_0 (by assumption) | exact FX.rd_kx (by assumption) (by assumption) | exact FX.rd_k (by assumption) rfl | exact FX.vw_app (by assumption)))); (focus ((first | exact rfl | assumption | exact FX.rd_0 (by assumption) | exact FX.rd_kx (by assumption) (by assumption) | exact FX.rd_k (by assumption) rfl | exact FX.vw_app (by assumption))))))
  | (with_reducible refine we_callMq ?_)
  | (focus ((with_reducible apply cmq); (focus exact rfl); (focus exact rfl); (focus (simp only [List.cons_append, List.nil_append, List.filterMap_cons, List.filterMap_nil, List.getElem?_cons_zero, List.getElem?_cons_succ]; try rfl))))
  | (with_reducible refine ws_asgL2 ?_)
  | (with_reducible refine ws_asg3 ?_)
  | (with_reducible refine tupk3 ?_)
  | (with_reducible refine we_revl ?_)
  | (focus ((with_reducible apply revlq); (focus ((first | exact rfl | assumption | exact FX.rd_0 (by assumption) | exact FX.rd_kx (by assumption) (by assumption) | exact FX.rd_k (by assumption) rfl | exact FX.vw_app (by assumption))))))
  | (with_reducible refine we_rdc ?_)
  | (with_reducible refine we_rdi ?_)
  | (with_reducible refine we_negq ?_)
  | (with_reducible refine negq ?_)
  | (focus ((with_reducible apply rdcq); (focus ((first | exact rfl | assumption | exact FX.rd_0 (by assumption) | exact FX.rd_kx (by assumption) (by assumption) | exact FX.rd_k (by assumption) rfl | exact FX.vw_app (by assumption)))); (focus ((first | exact rfl | assumption | exact FX.rd_0 (by assumption) | exact FX.rd_kx (by assumption) (by assumption) | exact FX.rd_k (by assumption) rfl | exact FX.vw_app (by assumption)))))))))
          refine wn_min rfl hm ?_
          rw [em]
          (repeat' (first | (with_reducible refine wi_seqt ?_) | array_get_dec | (with_reducible refine tup_es ?_) | (first
  | (with_reducible refine we_srtset ?_)
  | (focus ((with_reducible apply wn_list); (focus ((first | exact rfl | assumption | exact FX.rd_0 (by assumption) | exact FX.rd_kx (by assumption) (by assumption) | exact FX.rd_k (by assumption) rfl | exact FX.vw_app (by assumption))))))
  | (focus ((with_reducible apply wo_in); (focus ((first | exact rfl | assumption | exact FX.rd_0 (by assumption) | exact FX.rd_kx (by assumption) (by assumption) | exact FX.rd_k (by assumption) rfl | exact FX.vw_app (by assumption))))))
  | (focus ((with_reducible apply wo_notin); (focus ((first | exact rfl | assumption | exact FX.rd_0 (by assumption) | exact FX.rd_kx (by assumption) (by assumption) | exact FX.rd_k (by assumption) rfl | exact FX.vw_app (by assumption))))))
  | (with_reducible refine wi_enumzip ?_)
  | (with_reducible refine we_dget ?_)
  | (focus ((with_reducible apply enumzipq); (focus ((first | exact rfl | assumption | exact FX.rd_0 (by assumption) | exact FX.rd_kx (by assumption) (by assumption) | exact FX.rd_k (by assumption) rfl | exact FX.vw_app (by assumption)))); (focus ((first | exact rfl | assumption | exact FX.rd_0 (by assumption) | exact FX.rd_kx (by assumption) (by assumption) | exact FX.rd_k (by assumption) rfl | exact FX.vw_app (by assumption))))))
  | (focus ((with_reducible apply dgq); (focus ((first | exact rfl | assumption | exact FX.rd_0 (by assumption) | exact FX.rd_kx (by assumption) (by assumption) | exact FX.rd_k (by assumption) rfl | exact FX.vw_app (by assumption)))); (focus ((first | exact rfl | assumption | exact FX.rd_0 (by assumption) | exact FX.rd_kx (by assumption) (by assumption) | exact FX.rd_k (by assumption) rfl | exact FX.vw_app (by assumption))))))
  | (with_reducible refine we_callMq ?_)
  | (focus ((with_reducible apply cmq); (focus exact rfl); (focus exact rfl); (focus (simp only [List.cons_append, List.nil_append, List.filterMap_cons, List.filterMap_nil, List.getElem?_cons_zero, List.getElem?_cons_succ]; try rfl))))
  | (with_reducible refine ws_asgL2 ?_)
  | (with_reducible refine ws_asg3 ?_)
  | (with_reducible refine tupk3 ?_)
  | (with_reducible refine we_revl ?_)
  | (focus ((with_reducible apply revlq); (focus ((first | exact rfl | assumption | exact FX.rd_0 (by assumption) | exact FX.rd_kx (by assumption) (by assumption) | exact FX.rd_k (by assumption) rfl | exact FX.vw_app (by assumption))))))
  | (with_reducible refine we_rdc ?_)
  | (with_reducible refine we_rdi ?_)
  | (with_reducible refine we_negq ?_)
  | (with_reducible refine negq ?_)
  | (focus ((with_reducible apply rdcq); (focus ((first | exact rfl | assumption | exact FX.rd_0 (by assumption) | exact FX.rd_kx (by assumption) (by assumption) | exact FX.rd_k (by assumption) rfl | exact FX.vw_app (by assumption)))); (focus ((first | exact rfl | assumption | exact FX.rd_0 (by assumption) | exact FX.rd_kx (by assumption) (by assumption) | exact FX.rd_k (by assumption) rfl | exact FX.vw_app (by assumption)))))))))
          refine for_all (fun _ loc s' => (∃ (x5 x6 x7 x8 x9 : Option (D × Bool)), loc = [some (.scr ns, false), some (.lst (TD (fun c => cols c 80) cs), true), some (.lst (vs.map .int), true), some (.int (0 + i), false), some (.hnd n, true), x5, x6, x7, x8, x9, some (.lst ((nf vs).map .int), true)]) ∧ s' = s3 ++ []) (by exact ⟨⟨_, _, _, _, _, rfl⟩, rfl⟩) (fun _ _ _ _ _ => by rfl) (fun m d loc s' hd ⟨⟨x5, x6, x7, x8, x9, eloc⟩, e2⟩ => ?_) (fun loc s' ⟨⟨x5, x6, x7, x8, x9, eloc⟩, e2⟩ => ?_)
          · subst eloc e2
            obtain ⟨c, hc, rfl⟩ := ld_get hd
            have h := smf c (List.mem_of_getElem? hc)
            have hp' : ∀ y ∈ c, 1 ≤ y := fun y hy => (h.1 y hy).1
            have okc : okw c := ⟨by omega, fun y hy => by have := h.1 y hy; omega⟩
            refine ⟨_, rfl, ?_⟩
            try simp only [List.set_cons_zero, List.set_cons_succ]
            (repeat' (first | (with_reducible refine wi_seqt ?_) | array_get_dec | (with_reducible refine tup_es ?_) | (first
  | (with_reducible refine we_srtset ?_)
  | (focus ((with_reducible apply wn_list); (focus ((first | exact rfl | assumption | exact FX.rd_0 (by assumption) | exact FX.rd_kx (by assumption) (by assumption) | exact FX.rd_k (by assumption) rfl | exact FX.vw_app (by assumption))))))
  | (focus ((with_reducible apply wo_in); (focus ((first | exact rfl | assumption | exact FX.rd_0 (by assumption) | exact FX.rd_kx (by assumption) (by assumption) | exact FX.rd_k (by assumption) rfl | exact FX.vw_app (by assumption))))))
  | (focus ((with_reducible apply wo_notin); (focus ((first | exact rfl | assumption | exact FX.rd_0 (by assumption) | exact FX.rd_kx (by assumption) (by assumption) | exact FX.rd_k (by assumption) rfl | exact FX.vw_app (by assumption))))))
  | (with_reducible refine wi_enumzip ?_)
  | (with_reducible refine we_dget ?_)
  | (focus ((with_reducible apply enumzipq); (focus ((first | exact rfl | assumption | exact FX.rd_0 (by assumption) | exact FX.rd_kx (by assumption) (by assumption) | exact FX.rd_k (by assumption) rfl | exact FX.vw_app (by assumption)))); (focus ((first | exact rfl | assumption | exact FX.rd_0 (by assumption) | exact FX.rd_kx (by assumption) (by assumption) | exact FX.rd_k (by assumption) rfl | exact FX.vw_app (by assumption))))))
  | (focus ((with_reducible apply dgq); (focus ((first | exact rfl | assumption | exact FX.rd_0 (by assumption) | exact FX.rd_kx (by assumption) (by assumption) | exact FX.rd_k (by assumption) rfl | exact FX.vw_app (by assumption)))); (focus ((first | exact rfl | assumption | exact FX.rd_0 (by assumption) | exact FX.rd_kx (by assumption) (by assumption) | exact FX.rd_k (by assumption) rfl | exact FX.vw_app (by assumption))))))
  | (with_reducible refine we_callMq ?_)
  | (focus ((with_reducible apply cmq); (focus exact rfl); (focus exact rfl); (focus (simp only [List.cons_append, List.nil_append, List.filterMap_cons, List.filterMap_nil, List.getElem?_cons_zero, List.getElem?_cons_succ]; try rfl))))
  | (with_reducible refine ws_asgL2 ?_)
  | (with_reducible refine ws_asg3 ?_)
  | (with_reducible refine tupk3 ?_)
  | (with_reducible refine we_revl ?_)
  | (focus ((with_reducible apply revlq); (focus ((first | exact rfl | assumption | exact FX.rd_0 (by assumption) | exact FX.rd_kx (by assumption) (by assumption) | exact FX.rd_k (by assumption) rfl | exact FX.vw_app (by assumption))))))
  | (with_reducible refine we_rdc ?_)
  | (with_reducible refine we_rdi ?_)
  | (with_reducible refine we_negq ?_)
  | (with_reducible refine negq ?_)
  | (focus ((with_reducible apply rdcq); (focus ((first | exact rfl | assumption | exact FX.rd_0 (by assumption) | exact FX.rd_kx (by assumption) (by assumption) | exact FX.rd_k (by assumption) rfl | exact FX.vw_app (by assumption)))); (focus ((first | exact rfl | assumption | exact FX.rd_0 (by assumption) | exact FX.rd_kx (by assumption) (by assumption) | exact FX.rd_k (by assumption) rfl | exact FX.vw_app (by assumption)))))))))
            refine are_equal_w hc3 rfl rfl ok okc ?_
            rw [(eqE_iff hpos hp').mpr fun x x0 => (h.2.2 x x0).symm]
            (repeat' (first | (with_reducible refine wi_seqt ?_) | array_get_dec | (with_reducible refine tup_es ?_) | (first
  | (with_reducible refine we_srtset ?_)
  | (focus ((with_reducible apply wn_list); (focus ((first | exact rfl | assumption | exact FX.rd_0 (by assumption) | exact FX.rd_kx (by assumption) (by assumption) | exact FX.rd_k (by assumption) rfl | exact FX.vw_app (by assumption))))))
  | (focus ((with_reducible apply wo_in); (focus ((first | exact rfl | assumption | exact FX.rd_0 (by assumption) | exact FX.rd_kx (by assumption) (by assumption) | exact FX.rd_k (by assumption) rfl | exact FX.vw_app (by assumption))))))
  | (focus ((with_reducible apply wo_notin); (focus ((first | exact rfl | assumption | exact FX.rd_0 (by assumption) | exact FX.rd_kx (by assumption) (by assumption) | exact FX.rd_k (by assumption) rfl | exact FX.vw_app (by assumption))))))
  | (with_reducible refine wi_enumzip ?_)
  | (with_reducible refine we_dget ?_)
  | (focus ((with_reducible apply enumzipq); (focus ((first | exact rfl | assumption | exact FX.rd_0 (by assumption) | exact FX.rd_kx (by assumption) (by assumption) | exact FX.rd_k (by assumption) rfl | exact FX.vw_app (by assumption)))); (focus ((first | exact rfl | assumption | exact FX.rd_0 (by assumption) | exact FX.rd_kx (by assumption) (by assumption) | exact FX.rd_k (by assumption) rfl | exact FX.vw_app (by assumption))))))
  | (focus ((with_reducible apply dgq); (focus ((first | exact rfl | assumption | exact FX.rd_0 (by assumption) | exact FX.rd_kx (by assumption) (by assumption) | exact FX.rd_k (by assumption) rfl | exact FX.vw_app (by assumption)))); (focus ((first | exact rfl | assumption | exact FX.rd_0 (by assumption) | exact FX.rd_kx (by assumption) (by assumption) | exact FX.rd_k (by assumption) rfl | exact FX.vw_app (by assumption))))))
  | (with_reducible refine we_callMq ?_)
  | (focus ((with_reducible apply cmq); (focus exact rfl); (focus exact rfl); (focus (simp only [List.cons_append, List.nil_append, List.filterMap_cons, List.filterMap_nil, List.getElem?_cons_zero, List.getElem?_cons_succ]; try rfl))))
  | (with_reducible refine ws_asgL2 ?_)
  | (with_reducible refine ws_asg3 ?_)
  | (with_reducible refine tupk3 ?_)
  | (with_reducible refine we_revl ?_)
  | (focus ((with_reducible apply revlq); (focus ((first | exact rfl | assumption | exact FX.rd_0 (by assumption) | exact FX.rd_kx (by assumption) (by assumption) | exact FX.rd_k (by assumption) rfl | exact FX.vw_app (by assumption))))))
  | (with_reducible refine we_rdc ?_)
  | (with_reducible refine we_rdi ?_)
  | (with_reducible refine we_negq ?_)
  | (with_reducible refine negq ?_)
  | (focus ((with_reducible apply rdcq); (focus ((first | exact rfl | assumption | exact FX.rd_0 (by assumption) | exact FX.rd_kx (by assumption) (by assumption) | exact FX.rd_k (by assumption) rfl | exact FX.vw_app (by assumption)))); (focus ((first | exact rfl | assumption | exact FX.rd_0 (by assumption) | exact FX.rd_kx (by assumption) (by assumption) | exact FX.rd_k (by assumption) rfl | exact FX.vw_app (by assumption)))))))))
            refine normal_form_w hc3 rfl okc ?_
            rw [nf_congr hp' hpos h.2.2]
            (repeat' (first | (with_reducible refine wi_seqt ?_) | array_get_dec | (with_reducible refine tup_es ?_) | (first
  | (with_reducible refine we_srtset ?_)
  | (focus ((with_reducible apply wn_list); (focus ((first | exact rfl | assumption | exact FX.rd_0 (by assumption) | exact FX.rd_kx (by assumption) (by assumption) | exact FX.rd_k (by assumption) rfl | exact FX.vw_app (by assumption))))))
  | (focus ((with_reducible apply wo_in); (focus ((first | exact rfl | assumption | exact FX.rd_0 (by assumption) | exact FX.rd_kx (by assumption) (by assumption) | exact FX.rd_k (by assumption) rfl | exact FX.vw_app (by assumption))))))
  | (focus ((with_reducible apply wo_notin); (focus ((first | exact rfl | assumption | exact FX.rd_0 (by assumption) | exact FX.rd_kx (by assumption) (by assumption) | exact FX.rd_k (by assumption) rfl | exact FX.vw_app (by assumption))))))
  | (with_reducible refine wi_enumzip ?_)
  | (with_reducible refine we_dget ?_)
  | (focus ((with_reducible apply enumzipq); (focus ((first | exact rfl | assumption | exact FX.rd_0 (by assumption) | exact FX.rd_kx (by assumption) (by assumption) | exact FX.rd_k (by assumption) rfl | exact FX.vw_app (by assumption)))); (focus ((first | exact rfl | assumption | exact FX.rd_0 (by assumption) | exact FX.rd_kx (by assumption) (by assumption) | exact FX.rd_k (by assumption) rfl | exact FX.vw_app (by assumption))))))
  | (focus ((with_reducible apply dgq); (focus ((first | exact rfl | assumption | exact FX.rd_0 (by assumption) | exact FX.rd_kx (by assumption) (by assumption) | exact FX.rd_k (by assumption) rfl | exact FX.vw_app (by assumption)))); (focus ((first | exact rfl | assumption | exact FX.rd_0 (by assumption) | exact FX.rd_kx (by assumption) (by assumption) | exact FX.rd_k (by assumption) rfl | exact FX.vw_app (by assumption))))))
  | (with_reducible refine we_callMq ?_)
  | (focus ((with_reducible apply cmq); (focus exact rfl); (focus exact rfl); (focus (simp only [List.cons_append, List.nil_append, List.filterMap_cons, List.filterMap_nil, List.getElem?_cons_zero, List.getElem?_cons_succ]; try rfl))))
  | (with_reducible refine ws_asgL2 ?_)
  | (with_reducible refine ws_asg3 ?_)
  | (with_reducible refine tupk3 ?_)
  | (with_reducible refine we_revl ?_)
  | (focus ((with_reducible apply revlq); (focus ((first | exact rfl | assumption | exact FX.rd_0 (by assumption) | exact FX.rd_kx (by assumption) (by assumption) | exact FX.rd_k (by assumption) rfl | exact FX.vw_app (by assumption))))))
  | (with_reducible refine we_rdc ?_)
  | (with_reducible refine we_rdi ?_)
  | (with_reducible refine we_negq ?_)
  | (with_reducible refine negq ?_)
  | (focus ((with_reducible apply rdcq); (focus ((first | exact rfl | assumption | exact FX.rd_0 (by assumption) | exact FX.rd_kx (by assumption) (by assumption) | exact FX.rd_k (by assumption) rfl | exact FX.vw_app (by assumption)))); (focus ((first | exact rfl | assumption | exact FX.rd_0 (by assumption) | exact FX.rd_kx (by assumption) (by assumption) | exact FX.rd_k (by assumption) rfl | exact FX.vw_app (by assumption)))))))))
            exact ⟨⟨_, _, _, _, _, rfl⟩, rfl⟩
          · subst eloc e2
            (repeat' (first | (with_reducible refine wi_seqt ?_) | array_get_dec | (with_reducible refine tup_es ?_) | (first
  | (with_reducible refine we_srtset ?_)
  | (focus ((with_reducible apply wn_list); (focus ((first | exact rfl | assumption | exact FX.rd_0 (by assumption) | exact FX.rd_kx (by assumption) (by assumption) | exact FX.rd_k (by assumption) rfl | exact FX.vw_app (by assumption))))))
  | (focus ((with_reducible apply wo_in); (focus ((first | exact rfl | assumption | exact FX.rd_0 (by assumption) | exact FX.rd_kx (by assumption) (by assumption) | exact FX.rd_k (by assumption) rfl | exact FX.vw_app (by assumption))))))
  | (focus ((with_reducible apply wo_notin); (focus ((first | exact rfl | assumption | exact FX.rd_0 (by assumption) | exact FX.rd_kx (by assumption) (by assumption) | exact FX.rd_k (by assumption) rfl | exact FX.vw_app (by assumption))))))
  | (with_reducible refine wi_enumzip ?_)
  | (with_reducible refine we_dget ?_)
  | (focus ((with_reducible apply enumzipq); (focus ((first | exact rfl | assumption | exact FX.rd_0 (by assumption) | exact FX.rd_kx (by assumption) (by assumption) | exact FX.rd_k (by assumption) rfl | exact FX.vw_app (by assumption)))); (focus ((first | exact rfl | assumption | exact FX.rd_0 (by assumption) | exact FX.rd_kx (by assumption) (by assumption) | exact FX.rd_k (by assumption) rfl | exact FX.vw_app (by assumption))))))
  | (focus ((with_reducible apply dgq); (focus ((first | exact rfl | assumption | exact FX.rd_0 (by assumption) | exact FX.rd_kx (by assumption) (by assumption) | exact FX.rd_k (by assumption) rfl | exact FX.vw_app (by assumption)))); (focus ((first | exact rfl | assumption | exact FX.rd_0 (by assumption) | exact FX.rd_kx (by assumption) (by assumption) | exact FX.rd_k (by assumption) rfl | exact FX.vw_app (by assumption))))))
  | (with_reducible refine we_callMq ?_)
  | (focus ((with_reducible apply cmq); (focus exact rfl); (focus exact rfl); (focus (simp only [List.cons_append, List.nil_append, List.filterMap_cons, List.filterMap_nil, List.getElem?_cons_zero, List.getElem?_cons_succ]; try rfl))))
  | (with_reducible refine ws_asgL2 ?_)
  | (with_reducible refine ws_asg3 ?_)
  | (with_reducible refine tupk3 ?_)
  | (with_reducible refine we_revl ?_)
  | (focus ((with_reducible apply revlq); (focus ((first | exact rfl | assumption | exact FX.rd_0 (by assumption) | exact FX.rd_kx (by assumption) (by assumption) | exact FX.rd_k (by assumption) rfl | exact FX.vw_app (by assumption))))))
  | (with_reducible refine we_rdc ?_)
  | (with_reducible refine we_rdi ?_)
  | (with_reducible refine we_negq ?_)
  | (with_reducible refine negq ?_)
  | (focus ((with_reducible apply rdcq); (focus ((first | exact rfl | assumption | exact FX.rd_0 (by assumption) | exact FX.rd_kx (by assumption) (by assumption) | exact FX.rd_k (by assumption) rfl | exact FX.vw_app (by assumption)))); (focus ((first | exact rfl | assumption | exact FX.rd_0 (by assumption) | exact FX.rd_kx (by assumption) (by assumption) | exact FX.rd_k (by assumption) rfl | exact FX.vw_app (by assumption)))))))))
            exact ⟨⟨_, _, _, _, _, _, _, rfl⟩, hc3, n3.app.mono (by omega)⟩
        · subst eloc
          decreasing_tactic
          exact ⟨_, _, _, _, _, _, _, _, _, rfl, hp⟩
      · subst eloc
        decreasing_tactic
        exact ret_top fun _ => rfl
  obtain ⟨d, l, s, h, rfl⟩ := main
  exact ⟨l, s, h⟩
end
end My

namespace My
open PySem PySem.Spec PyProof.Rows L2 FX
open Classical
section
set_option maxHeartbeats 4000000 in
theorem all_mk {l : PySem.W.OpenLaw} {w : World} {K : PySem.W.Frag} {h : Heap} {mg : Str → Option Value} {fa f0 f1 f2 f3 f4 f5 f6 f7 f8 f9 f10 f11 f12 f13 f14 f15 f16 f17 f18 : Addr} (X : K.In h) (G : h.Ns mainGlobals mg) (hfa : mg "law" = some (.ref fa))
    {od0 an0 od1 an1 od2 an2 od3 an3 od4 an4 od5 an5 od6 an6 od7 an7 od8 an8 od9 an9 od10 an10 od11 an11 od12 an12 od13 an13 od14 an14 od15 an15 od16 an16 od17 an17 od18 an18 : Option Addr} {sl0 sl1 sl2 sl3 sl4 sl5 sl6 sl7 sl8 sl9 sl10 sl11 sl12 sl13 sl14 sl15 sl16 sl17 sl18 : Array (Option Value)} {oc0 kV0 dc0 pm0 cd0 ct0 oc1 kV1 dc1 pm1 cd1 ct1 oc2 kV2 dc2 pm2 cd2 ct2 oc3 kV3 dc3 pm3 cd3 ct3 oc4 kV4 dc4 pm4 cd4 ct4 oc5 kV5 dc5 pm5 cd5 ct5 oc6 kV6 dc6 pm6 cd6 ct6 oc7 kV7 dc7 pm7 cd7 ct7 oc8 kV8 dc8 pm8 cd8 ct8 oc9 kV9 dc9 pm9 cd9 ct9 oc10 kV10 dc10 pm10 cd10 ct10 oc11 kV11 dc11 pm11 cd11 ct11 oc12 kV12 dc12 pm12 cd12 ct12 oc13 kV13 dc13 pm13 cd13 ct13 oc14 kV14 dc14 pm14 cd14 ct14 oc15 kV15 dc15 pm15 cd15 ct15 oc16 kV16 dc16 pm16 cd16 ct16 oc17 kV17 dc17 pm17 cd17 ct17 oc18 kV18 dc18 pm18 cd18 ct18 : Value} {t0 : Tok}
    (a0 : PySem.W.nsIn K mainGlobals "is_integer_in" = some (some (.ref f0))) (l0 : K.lookup f0 = some ⟨oc0, od0, .func (PySem.W.fnOf "is_integer_in" "is_integer_in" (defArgs T_is_integer_in) (defBody T_is_integer_in) (defScope T_is_integer_in) .none kV0 dc0 pm0 an0 cd0 ct0), sl0⟩) (c0 : PySem.W.codeIn K cd0 "is_integer_in" = true) (k0 : PySem.W.keepIn K (.ref f0) = true)
    (a1 : PySem.W.nsIn K mainGlobals "is_widths" = some (some (.ref f1))) (l1 : K.lookup f1 = some ⟨oc1, od1, .func (PySem.W.fnOf "is_widths" "is_widths" (defArgs T_is_widths) (defBody T_is_widths) (defScope T_is_widths) .none kV1 dc1 pm1 an1 cd1 ct1), sl1⟩) (c1 : PySem.W.codeIn K cd1 "is_widths" = true) (k1 : PySem.W.keepIn K (.ref f1) = true)
    (a2 : PySem.W.nsIn K mainGlobals "check_widths" = some (some (.ref f2))) (l2 : K.lookup f2 = some ⟨oc2, od2, .func (PySem.W.fnOf "check_widths" "check_widths" (defArgs T_check_widths) (defBody T_check_widths) (defScope T_check_widths) .none kV2 dc2 pm2 an2 cd2 ct2), sl2⟩) (c2 : PySem.W.codeIn K cd2 "check_widths" = true) (k2 : PySem.W.keepIn K (.ref f2) = true)
    (a3 : PySem.W.nsIn K mainGlobals "_repeated" = some (some (.ref f3))) (l3 : K.lookup f3 = some ⟨oc3, od3, .func (PySem.W.fnOf "_repeated" "_repeated" (defArgs T__repeated) (defBody T__repeated) (defScope T__repeated) .none kV3 dc3 pm3 an3 cd3 ct3), sl3⟩) (c3 : PySem.W.codeIn K cd3 "_repeated" = true) (k3 : PySem.W.keepIn K (.ref f3) = true)
    (a4 : PySem.W.nsIn K mainGlobals "first_columns" = some (some (.ref f4))) (l4 : K.lookup f4 = some ⟨oc4, od4, .func (PySem.W.fnOf "first_columns" "first_columns" (defArgs T_first_columns) (defBody T_first_columns) (defScope T_first_columns) .none kV4 dc4 pm4 an4 cd4 ct4), sl4⟩) (c4 : PySem.W.codeIn K cd4 "first_columns" = true) (k4 : PySem.W.keepIn K (.ref f4) = true)
    (a5 : PySem.W.nsIn K mainGlobals "first_mismatch" = some (some (.ref f5))) (l5 : K.lookup f5 = some ⟨oc5, od5, .func (PySem.W.fnOf "first_mismatch" "first_mismatch" (defArgs T_first_mismatch) (defBody T_first_mismatch) (defScope T_first_mismatch) .none kV5 dc5 pm5 an5 cd5 ct5), sl5⟩) (c5 : PySem.W.codeIn K cd5 "first_mismatch" = true) (k5 : PySem.W.keepIn K (.ref f5) = true)
    (a6 : PySem.W.nsIn K mainGlobals "least_periods" = some (some (.ref f6))) (l6 : K.lookup f6 = some ⟨oc6, od6, .func (PySem.W.fnOf "least_periods" "least_periods" (defArgs T_least_periods) (defBody T_least_periods) (defScope T_least_periods) .none kV6 dc6 pm6 an6 cd6 ct6), sl6⟩) (c6 : PySem.W.codeIn K cd6 "least_periods" = true) (k6 : PySem.W.keepIn K (.ref f6) = true)
    (a7 : PySem.W.nsIn K mainGlobals "telling_columns" = some (some (.ref f7))) (l7 : K.lookup f7 = some ⟨oc7, od7, .func (PySem.W.fnOf "telling_columns" "telling_columns" (defArgs T_telling_columns) (defBody T_telling_columns) (defScope T_telling_columns) .none kV7 dc7 pm7 an7 cd7 ct7), sl7⟩) (c7 : PySem.W.codeIn K cd7 "telling_columns" = true) (k7 : PySem.W.keepIn K (.ref f7) = true)
    (a8 : PySem.W.nsIn K mainGlobals "descent_of" = some (some (.ref f8))) (l8 : K.lookup f8 = some ⟨oc8, od8, .func (PySem.W.fnOf "descent_of" "descent_of" (defArgs T_descent_of) (defBody T_descent_of) (defScope T_descent_of) .none kV8 dc8 pm8 an8 cd8 ct8), sl8⟩) (c8 : PySem.W.codeIn K cd8 "descent_of" = true) (k8 : PySem.W.keepIn K (.ref f8) = true)
    (a9 : PySem.W.nsIn K mainGlobals "normal_form" = some (some (.ref f9))) (l9 : K.lookup f9 = some ⟨oc9, od9, .func (PySem.W.fnOf "normal_form" "normal_form" (defArgs T_normal_form) (defBody T_normal_form) (defScope T_normal_form) .none kV9 dc9 pm9 an9 cd9 ct9), sl9⟩) (c9 : PySem.W.codeIn K cd9 "normal_form" = true) (k9 : PySem.W.keepIn K (.ref f9) = true)
    (a10 : PySem.W.nsIn K mainGlobals "first_difference" = some (some (.ref f10))) (l10 : K.lookup f10 = some ⟨oc10, od10, .func (PySem.W.fnOf "first_difference" "first_difference" (defArgs T_first_difference) (defBody T_first_difference) (defScope T_first_difference) .none kV10 dc10 pm10 an10 cd10 ct10), sl10⟩) (c10 : PySem.W.codeIn K cd10 "first_difference" = true) (k10 : PySem.W.keepIn K (.ref f10) = true)
    (a11 : PySem.W.nsIn K mainGlobals "are_equal" = some (some (.ref f11))) (l11 : K.lookup f11 = some ⟨oc11, od11, .func (PySem.W.fnOf "are_equal" "are_equal" (defArgs T_are_equal) (defBody T_are_equal) (defScope T_are_equal) .none kV11 dc11 pm11 an11 cd11 ct11), sl11⟩) (c11 : PySem.W.codeIn K cd11 "are_equal" = true) (k11 : PySem.W.keepIn K (.ref f11) = true)
    (a12 : PySem.W.nsIn K mainGlobals "_law_bag" = some (some (.ref f12))) (l12 : K.lookup f12 = some ⟨oc12, od12, .func (PySem.W.fnOf "_law_bag" "_law_bag" (defArgs T__law_bag) (defBody T__law_bag) (defScope T__law_bag) .none kV12 dc12 pm12 an12 cd12 ct12), sl12⟩) (c12 : PySem.W.codeIn K cd12 "_law_bag" = true) (k12 : PySem.W.keepIn K (.ref f12) = true)
    (a13 : PySem.W.nsIn K mainGlobals "_law_take" = some (some (.ref f13))) (l13 : K.lookup f13 = some ⟨oc13, od13, .func (PySem.W.fnOf "_law_take" "_law_take" (defArgs T__law_take) (defBody T__law_take) (defScope T__law_take) .none kV13 dc13 pm13 an13 cd13 ct13), sl13⟩) (c13 : PySem.W.codeIn K cd13 "_law_take" = true) (k13 : PySem.W.keepIn K (.ref f13) = true)
    (a14 : PySem.W.nsIn K mainGlobals "_law_chain" = some (some (.ref f14))) (l14 : K.lookup f14 = some ⟨oc14, od14, .func (PySem.W.fnOf "_law_chain" "_law_chain" (defArgs T__law_chain) (defBody T__law_chain) (defScope T__law_chain) .none kV14 dc14 pm14 an14 cd14 ct14), sl14⟩) (c14 : PySem.W.codeIn K cd14 "_law_chain" = true) (k14 : PySem.W.keepIn K (.ref f14) = true)
    (a15 : PySem.W.nsIn K mainGlobals "_law_broken" = some (some (.ref f15))) (l15 : K.lookup f15 = some ⟨oc15, od15, .func (PySem.W.fnOf "_law_broken" "_law_broken" (defArgs T__law_broken) (defBody T__law_broken) (defScope T__law_broken) .none kV15 dc15 pm15 an15 cd15 ct15), sl15⟩) (c15 : PySem.W.codeIn K cd15 "_law_broken" = true) (k15 : PySem.W.keepIn K (.ref f15) = true)
    (a16 : PySem.W.nsIn K mainGlobals "_law_cols" = some (some (.ref f16))) (l16 : K.lookup f16 = some ⟨oc16, od16, .func (PySem.W.fnOf "_law_cols" "_law_cols" (defArgs T__law_cols) (defBody T__law_cols) (defScope T__law_cols) .none kV16 dc16 pm16 an16 cd16 ct16), sl16⟩) (c16 : PySem.W.codeIn K cd16 "_law_cols" = true) (k16 : PySem.W.keepIn K (.ref f16) = true)
    (a17 : PySem.W.nsIn K mainGlobals "_law_subsets" = some (some (.ref f17))) (l17 : K.lookup f17 = some ⟨oc17, od17, .func (PySem.W.fnOf "_law_subsets" "_law_subsets" (defArgs T__law_subsets) (defBody T__law_subsets) (defScope T__law_subsets) .none kV17 dc17 pm17 an17 cd17 ct17), sl17⟩) (c17 : PySem.W.codeIn K cd17 "_law_subsets" = true) (k17 : PySem.W.keepIn K (.ref f17) = true)
    (a18 : PySem.W.nsIn K mainGlobals "law" = some (some (.ref f18))) (l18 : K.lookup f18 = some ⟨oc18, od18, .func (PySem.W.fnOf "law" "law" (defArgs T_law) (defBody T_law) (defScope T_law) .none kV18 dc18 pm18 an18 cd18 ct18), sl18⟩) (c18 : PySem.W.codeIn K cd18 "law" = true) (k18 : PySem.W.keepIn K (.ref f18) = true)
    (z0 : PySem.W.nsIn K mainGlobals "abs" = some none)
    (z1 : PySem.W.nsIn K mainGlobals "all" = some none)
    (z2 : PySem.W.nsIn K mainGlobals "bool" = some none)
    (z3 : PySem.W.nsIn K mainGlobals "divmod" = some none)
    (z4 : PySem.W.nsIn K mainGlobals "enumerate" = some none)
    (z5 : PySem.W.nsIn K mainGlobals "int" = some none)
    (z6 : PySem.W.nsIn K mainGlobals "isinstance" = some none)
    (z7 : PySem.W.nsIn K mainGlobals "len" = some none)
    (z8 : PySem.W.nsIn K mainGlobals "list" = some none)
    (z9 : PySem.W.nsIn K mainGlobals "max" = some none)
    (z10 : PySem.W.nsIn K mainGlobals "min" = some none)
    (z11 : PySem.W.nsIn K mainGlobals "range" = some none)
    (z12 : PySem.W.nsIn K mainGlobals "reversed" = some none)
    (z13 : PySem.W.nsIn K mainGlobals "sum" = some none)
    (z14 : PySem.W.nsIn K mainGlobals "zip" = some none)
    (n0 : PySem.W.nsIn K mainGlobals "WIDEST" = some (some (.int 10000 t0)))
    : ∃ fd : FuncData, (∀ (s : Shared) (v : Value), BindsTo s fd ⟨[v], []⟩ [("script", v)]) ∧ ∀ base : Heap, K.In base → base.Ns mainGlobals mg → FnG l.prog w K mg base CX0 6 fa fd ["script"] (FX.spLaw K) := by
  have e := hfa.symm.trans (PySem.W.mg_of X G a18)
  cases e
  have F0 := fun_mk (st := T_is_integer_in) l0 c0 k0
  have b0 := F0.binds (ps := ["value", "least", "greatest"]) fun _ _ _ _ _ _ us hl => match us, hl with | [_, _, _], _ => rfl
  have F1 := fun_mk (st := T_is_widths) l1 c1 k1
  have b1 := F1.binds (ps := ["value"]) fun _ _ _ _ _ _ us hl => match us, hl with | [_], _ => rfl
  have F2 := fun_mk (st := T_check_widths) l2 c2 k2
  have b2 := F2.binds (ps := ["value"]) fun _ _ _ _ _ _ us hl => match us, hl with | [_], _ => rfl
  have F3 := fun_mk (st := T__repeated) l3 c3 k3
  have b3 := F3.binds (ps := ["items", "length"]) fun _ _ _ _ _ _ us hl => match us, hl with | [_, _], _ => rfl
  have F4 := fun_mk (st := T_first_columns) l4 c4 k4
  have b4 := F4.binds (ps := ["widths", "length"]) fun _ _ _ _ _ _ us hl => match us, hl with | [_, _], _ => rfl
  have F5 := fun_mk (st := T_first_mismatch) l5 c5 k5
  have b5 := F5.binds (ps := ["left", "right"]) fun _ _ _ _ _ _ us hl => match us, hl with | [_, _], _ => rfl
  have F6 := fun_mk (st := T_least_periods) l6 c6 k6
  have b6 := F6.binds (ps := ["columns"]) fun _ _ _ _ _ _ us hl => match us, hl with | [_], _ => rfl
  have F7 := fun_mk (st := T_telling_columns) l7 c7 k7
  have b7 := F7.binds (ps := ["widths", "length"]) fun _ _ _ _ _ _ us hl => match us, hl with | [_, _], _ => rfl
  have F8 := fun_mk (st := T_descent_of) l8 c8 k8
  have b8 := F8.binds (ps := ["columns"]) fun _ _ _ _ _ _ us hl => match us, hl with | [_], _ => rfl
  have F9 := fun_mk (st := T_normal_form) l9 c9 k9
  have b9 := F9.binds (ps := ["widths"]) fun _ _ _ _ _ _ us hl => match us, hl with | [_], _ => rfl
  have F10 := fun_mk (st := T_first_difference) l10 c10 k10
  have b10 := F10.binds (ps := ["widths", "other"]) fun _ _ _ _ _ _ us hl => match us, hl with | [_, _], _ => rfl
  have F11 := fun_mk (st := T_are_equal) l11 c11 k11
  have b11 := F11.binds (ps := ["widths", "other"]) fun _ _ _ _ _ _ us hl => match us, hl with | [_, _], _ => rfl
  have F12 := fun_mk (st := T__law_bag) l12 c12 k12
  have b12 := F12.binds (ps := ["script", "k"]) fun _ _ _ _ _ _ us hl => match us, hl with | [_, _], _ => rfl
  have F13 := fun_mk (st := T__law_take) l13 c13 k13
  have b13 := F13.binds (ps := ["bag", "many"]) fun _ _ _ _ _ _ us hl => match us, hl with | [_, _], _ => rfl
  have F14 := fun_mk (st := T__law_chain) l14 c14 k14
  have b14 := F14.binds (ps := ["bag", "most", "top"]) fun _ _ _ _ _ _ us hl => match us, hl with | [_, _, _], _ => rfl
  have F15 := fun_mk (st := T__law_broken) l15 c15 k15
  have b15 := F15.binds (ps := ["chain", "span"]) fun _ _ _ _ _ _ us hl => match us, hl with | [_, _], _ => rfl
  have F16 := fun_mk (st := T__law_cols) l16 c16 k16
  have b16 := F16.binds (ps := ["sizes"]) fun _ _ _ _ _ _ us hl => match us, hl with | [_], _ => rfl
  have F17 := fun_mk (st := T__law_subsets) l17 c17 k17
  have b17 := F17.binds (ps := ["top"]) fun _ _ _ _ _ _ us hl => match us, hl with | [_], _ => rfl
  have F18 := fun_mk (st := T_law) l18 c18 k18
  have b18 := F18.binds (ps := ["script"]) fun _ _ _ _ _ _ us hl => match us, hl with | [_], _ => rfl
  refine ⟨PySem.W.fnOf "law" "law" (defArgs T_law) (defBody T_law) (defScope T_law) .none kV18 dc18 pm18 an18 cd18 ct18, fun s v => .of_eq rfl, fun base _ _ => ?_⟩
  have G_is_integer_in : CalD l.prog w K mg base CX0 1 "is_integer_in" 3 (S_is_integer_in K) KB_is_integer_in := ⟨⟨f0, _, ["value", "least", "greatest"], ok_is_integer_in F0 (PySem.W.mg_none_of X G z2) (PySem.W.mg_none_of X G z5) (PySem.W.mg_none_of X G z6), PySem.W.mg_of X G a0, k0, b0, rfl, fun q hq => nomatch hq⟩, len_noX len_defT⟩
  have G_is_widths : CalD l.prog w K mg base CX0 2 "is_widths" 1 (S_is_widths K) KB_is_widths := ⟨⟨f1, _, ["value"], ok_is_widths F1 G_is_integer_in (PySem.W.mg_none_of X G z1) (PySem.W.mg_none_of X G z6) (PySem.W.mg_none_of X G z8) ⟨_, PySem.W.mg_of X G n0⟩, PySem.W.mg_of X G a1, k1, b1, rfl, fun q hq => nomatch hq⟩, len_noX len_defT⟩
  have G_check_widths : CalD l.prog w K mg base CX0 3 "check_widths" 1 (S_check_widths K) KB_check_widths := ⟨⟨f2, _, ["value"], ok_check_widths F2 G_is_widths, PySem.W.mg_of X G a2, k2, b2, rfl, fun q hq => nomatch hq⟩, len_noX len_defT⟩
  have G__repeated : CalD l.prog w K mg base CX0 1 "_repeated" 2 (S__repeated K) KB__repeated := ⟨⟨f3, _, ["items", "length"], ok__repeated F3 (PySem.W.mg_none_of X G z7), PySem.W.mg_of X G a3, k3, b3, rfl, fun q hq => nomatch hq⟩, len_noX len_defT⟩
  have G_first_columns : CalD l.prog w K mg base CX0 2 "first_columns" 2 (S_first_columns K) KB_first_columns := ⟨⟨f4, _, ["widths", "length"], ok_first_columns F4 G__repeated (PySem.W.mg_none_of X G z8) (PySem.W.mg_none_of X G z11) (PySem.W.mg_none_of X G z12), PySem.W.mg_of X G a4, k4, b4, rfl, fun q hq => nomatch hq⟩, len_noX len_defT⟩
  have G_first_mismatch : CalD l.prog w K mg base CX0 1 "first_mismatch" 2 (S_first_mismatch K) KB_first_mismatch := ⟨⟨f5, _, ["left", "right"], ok_first_mismatch F5 (PySem.W.mg_none_of X G z4) (PySem.W.mg_none_of X G z14), PySem.W.mg_of X G a5, k5, b5, rfl, fun q hq => nomatch hq⟩, len_noX len_defT⟩
  have G_least_periods : CalD l.prog w K mg base CX0 1 "least_periods" 1 (S_least_periods K) KB_least_periods := ⟨⟨f6, _, ["columns"], ok_least_periods F6 (PySem.W.mg_none_of X G z4) (PySem.W.mg_none_of X G z7) (PySem.W.mg_none_of X G z11), PySem.W.mg_of X G a6, k6, b6, rfl, fun q hq => nomatch hq⟩, len_noX len_defT⟩
  have G_telling_columns : CalD l.prog w K mg base CX0 3 "telling_columns" 2 (S_telling_columns K) KB_telling_columns := ⟨⟨f7, _, ["widths", "length"], ok_telling_columns F7 G_first_columns (PySem.W.mg_none_of X G z10), PySem.W.mg_of X G a7, k7, b7, rfl, fun q hq => nomatch hq⟩, len_noX len_defT⟩
  have G_descent_of : CalD l.prog w K mg base CX0 2 "descent_of" 1 (S_descent_of K) KB_descent_of := ⟨⟨f8, _, ["columns"], ok_descent_of F8 G_least_periods (PySem.W.mg_none_of X G z7), PySem.W.mg_of X G a8, k8, b8, rfl, fun q hq => nomatch hq⟩, len_noX len_defT⟩
  have G_normal_form : CalD l.prog w K mg base CX0 4 "normal_form" 1 (S_normal_form K) KB_normal_form := ⟨⟨f9, _, ["widths"], ok_normal_form F9 G_check_widths G_descent_of G_telling_columns, PySem.W.mg_of X G a9, k9, b9, rfl, fun q hq => nomatch hq⟩, len_noX len_defT⟩
  have G_first_difference : CalD l.prog w K mg base CX0 4 "first_difference" 2 (S_first_difference K) KB_first_difference := ⟨⟨f10, _, ["widths", "other"], ok_first_difference F10 G_check_widths G_first_columns G_first_mismatch (PySem.W.mg_none_of X G z13), PySem.W.mg_of X G a10, k10, b10, rfl, fun q hq => nomatch hq⟩, len_noX len_defT⟩
  have G_are_equal : CalD l.prog w K mg base CX0 5 "are_equal" 2 (S_are_equal K) KB_are_equal := ⟨⟨f11, _, ["widths", "other"], ok_are_equal F11 G_first_difference, PySem.W.mg_of X G a11, k11, b11, rfl, fun q hq => nomatch hq⟩, len_noX len_defT⟩
  have G__law_bag : CalD l.prog w K mg base CX0 1 "_law_bag" 2 (S__law_bag K) KB__law_bag := ⟨⟨f12, _, ["script", "k"], ok__law_bag F12 (PySem.W.mg_none_of X G z0) (PySem.W.mg_none_of X G z7) (PySem.W.mg_none_of X G z9), PySem.W.mg_of X G a12, k12, b12, rfl, fun q hq => nomatch hq⟩, len_noX len_defT⟩
  have G__law_take : CalD l.prog w K mg base CX0 1 "_law_take" 2 (S__law_take K) KB__law_take := ⟨⟨f13, _, ["bag", "many"], ok__law_take F13 , PySem.W.mg_of X G a13, k13, b13, rfl, fun q hq => nomatch hq⟩, len_noX len_defT⟩
  have G__law_chain : CalD l.prog w K mg base CX0 2 "_law_chain" 3 (S__law_chain K) KB__law_chain := ⟨⟨f14, _, ["bag", "most", "top"], ok__law_chain F14 G__law_take (PySem.W.mg_none_of X G z9) (PySem.W.mg_none_of X G z10) (PySem.W.mg_none_of X G z11), PySem.W.mg_of X G a14, k14, b14, rfl, fun q hq => nomatch hq⟩, len_noX len_defT⟩
  have G__law_broken : CalD l.prog w K mg base CX0 1 "_law_broken" 2 (S__law_broken K) KB__law_broken := ⟨⟨f15, _, ["chain", "span"], ok__law_broken F15 (PySem.W.mg_none_of X G z3) (PySem.W.mg_none_of X G z5), PySem.W.mg_of X G a15, k15, b15, rfl, fun q hq => nomatch hq⟩, len_noX len_defT⟩
  have G__law_cols : CalD l.prog w K mg base CX0 1 "_law_cols" 1 (S__law_cols K) KB__law_cols := ⟨⟨f16, _, ["sizes"], ok__law_cols F16 (PySem.W.mg_none_of X G z8) (PySem.W.mg_none_of X G z11), PySem.W.mg_of X G a16, k16, b16, rfl, fun q hq => nomatch hq⟩, len_noX len_defT⟩
  have G__law_subsets : CalD l.prog w K mg base CX0 1 "_law_subsets" 1 (S__law_subsets K) KB__law_subsets := ⟨⟨f17, _, ["top"], ok__law_subsets F17 (PySem.W.mg_none_of X G z11), PySem.W.mg_of X G a17, k17, b17, rfl, fun q hq => nomatch hq⟩, len_noX len_defT⟩
  exact law_fn (ok_law F18 G__law_bag G__law_broken G__law_chain G__law_cols G__law_subsets G_are_equal G_normal_form (PySem.W.mg_none_of X G z7) (PySem.W.mg_none_of X G z9) (PySem.W.mg_none_of X G z10) (PySem.W.mg_none_of X G z11)) (law_true K)
end
end My
open PySem PySem.W PyProof.Rows
set_option maxRecDepth 100000 in
set_option maxHeartbeats 0 in
theorem PySem.Challenge.cw_hardwraps_k26_normal_forms_are_shortest_holds : PySem.Challenge.rw_hardwraps_k26_normal_forms_are_shortest.Holds := by
  w_on; o_law; k_head; (case hw => w_witness2)
  k_fill
  refine FX.walk (l := PySem.Challenge.rw_hardwraps_k26_normal_forms_are_shortest) 6 ⟨rfl, by decide, by decide⟩ rfl rfl (fun w h Y => PySem.W.kIn_of Y) ?F
  case F =>
    intro w mg fa h KX G hmg
    refine' My.all_mk KX G hmg ?a0 ?l0 ?c0 ?k0 ?a1 ?l1 ?c1 ?k1 ?a2 ?l2 ?c2 ?k2 ?a3 ?l3 ?c3 ?k3 ?a4 ?l4 ?c4 ?k4 ?a5 ?l5 ?c5 ?k5 ?a6 ?l6 ?c6 ?k6 ?a7 ?l7 ?c7 ?k7 ?a8 ?l8 ?c8 ?k8 ?a9 ?l9 ?c9 ?k9 ?a10 ?l10 ?c10 ?k10 ?a11 ?l11 ?c11 ?k11 ?a12 ?l12 ?c12 ?k12 ?a13 ?l13 ?c13 ?k13 ?a14 ?l14 ?c14 ?k14 ?a15 ?l15 ?c15 ?k15 ?a16 ?l16 ?c16 ?k16 ?a17 ?l17 ?c17 ?k17 ?a18 ?l18 ?c18 ?k18 ?z0 ?z1 ?z2 ?z3 ?z4 ?z5 ?z6 ?z7 ?z8 ?z9 ?z10 ?z11 ?z12 ?z13 ?z14 ?n0
    (case a0 => k_is)
    (case l0 => k_is)
    (case c0 => k_is)
    (case k0 => k_is)
    (case a1 => k_is)
    (case l1 => k_is)
    (case c1 => k_is)
    (case k1 => k_is)
    (case a2 => k_is)
    (case l2 => k_is)
    (case c2 => k_is)
    (case k2 => k_is)
    (case a3 => k_is)
    (case l3 => k_is)
    (case c3 => k_is)
    (case k3 => k_is)
    (case a4 => k_is)
    (case l4 => k_is)
    (case c4 => k_is)
    (case k4 => k_is)
    (case a5 => k_is)
    (case l5 => k_is)
    (case c5 => k_is)
    (case k5 => k_is)
    (case a6 => k_is)
    (case l6 => k_is)
    (case c6 => k_is)
    (case k6 => k_is)
    (case a7 => k_is)
    (case l7 => k_is)
    (case c7 => k_is)
    (case k7 => k_is)
    (case a8 => k_is)
    (case l8 => k_is)
    (case c8 => k_is)
    (case k8 => k_is)
    (case a9 => k_is)
    (case l9 => k_is)
    (case c9 => k_is)
    (case k9 => k_is)
    (case a10 => k_is)
    (case l10 => k_is)
    (case c10 => k_is)
    (case k10 => k_is)
    (case a11 => k_is)
    (case l11 => k_is)
    (case c11 => k_is)
    (case k11 => k_is)
    (case a12 => k_is)
    (case l12 => k_is)
    (case c12 => k_is)
    (case k12 => k_is)
    (case a13 => k_is)
    (case l13 => k_is)
    (case c13 => k_is)
    (case k13 => k_is)
    (case a14 => k_is)
    (case l14 => k_is)
    (case c14 => k_is)
    (case k14 => k_is)
    (case a15 => k_is)
    (case l15 => k_is)
    (case c15 => k_is)
    (case k15 => k_is)
    (case a16 => k_is)
    (case l16 => k_is)
    (case c16 => k_is)
    (case k16 => k_is)
    (case a17 => k_is)
    (case l17 => k_is)
    (case c17 => k_is)
    (case k17 => k_is)
    (case a18 => k_is)
    (case l18 => k_is)
    (case c18 => k_is)
    (case k18 => k_is)
    (case z0 => k_is)
    (case z1 => k_is)
    (case z2 => k_is)
    (case z3 => k_is)
    (case z4 => k_is)
    (case z5 => k_is)
    (case z6 => k_is)
    (case z7 => k_is)
    (case z8 => k_is)
    (case z9 => k_is)
    (case z10 => k_is)
    (case z11 => k_is)
    (case z12 => k_is)
    (case z13 => k_is)
    (case z14 => k_is)
    (case n0 => k_is)
