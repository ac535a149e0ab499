import PyProof.Rows.All
import Wide.All
import OpenK.AllK
import Wide.FinOn
import Lean
import PyProof.EqAt
import PyProof.EqKinds
import PyProof.TupleCall
import PyProof.AutoSeq1
import PyProof.ZipIter
import PyProof.LayNew
import KE.KRevSl
import KE.LcSums
import KE.KTabLook
import KE.KIntText
import PySem.Challenge.RW_kerb_k06_texts_shown_and_read
set_option compiler.extract_closed false
set_option genSizeOf false
set_option Elab.async false
set_option linter.all false
set_option maxRecDepth 100000
namespace L2
open PySem PySem.Spec PyProof.Rows

noncomputable abbrev Key := Sum Int Str
noncomputable def keyIs : Key → Value → Bool
  | .inl k, v => Value.isInt k v
  | .inr x, v => Value.isStrOf x v
noncomputable def keyH (w : World) : Key → Int
  | .inl k => hashInt k
  | .inr x => hashStr w x
theorem keyIs_shape : ∀ {k : Key} {v : Value}, keyIs k v = true → (∃ i t, k = Sum.inl i ∧ v = Value.int i t) ∨ (∃ x t, k = Sum.inr x ∧ v = Value.str x t)
  | .inl i, v, h => by
    obtain ⟨t, e⟩ := Value.isInt_shape (k := i) (v := v) h
    exact .inl ⟨i, t, rfl, e⟩
  | .inr x, v, h => by
    obtain ⟨t, e⟩ := Value.isStrOf_shape (x := x) (v := v) h
    exact .inr ⟨x, t, rfl, e⟩
theorem keyIs_int (i : Int) (t : Tok) : keyIs (.inl i) (.int i t) = true := by simp [keyIs, Value.isInt]
theorem keyIs_str (x : Str) (t : Tok) : keyIs (.inr x) (.str x t) = true := by simp [keyIs, Value.isStrOf]
theorem key_ll (a b : Int) : decide ((Sum.inl a : Key) = Sum.inl b) = (a == b) := by
  by_cases e : a = b
  · subst e; simp
  · have h : ¬ (Sum.inl a : Key) = Sum.inl b := fun q => e (Sum.inl.inj q)
    rw [decide_eq_false h]
    exact (beq_eq_false_iff_ne.mpr e).symm
theorem key_rr (a b : Str) : decide ((Sum.inr a : Key) = Sum.inr b) = decide (a = b) := by
  by_cases e : a = b
  · subst e; simp
  · have h : ¬ (Sum.inr a : Key) = Sum.inr b := fun q => e (Sum.inr.inj q)
    rw [decide_eq_false h, decide_eq_false e]
theorem key_lr (a : Int) (b : Str) : decide ((Sum.inl a : Key) = Sum.inr b) = false := decide_eq_false (fun q => nomatch q)
theorem key_rl (a : Str) (b : Int) : decide ((Sum.inr a : Key) = Sum.inl b) = false := decide_eq_false (fun q => nomatch q)

noncomputable def mixKind (prog : Program) (w : World) : PySem.KeyKind prog w Key where
  is := keyIs
  hash := keyH w
  inj := fun v a b ha hb => by
    rcases keyIs_shape ha with ⟨i, t, rfl, rfl⟩ | ⟨x, t, rfl, rfl⟩
    · rcases keyIs_shape hb with ⟨j, u, rfl, e⟩ | ⟨y, u, rfl, e⟩
      · injection e with e1 _; rw [e1]
      · exact nomatch e
    · rcases keyIs_shape hb with ⟨j, u, rfl, e⟩ | ⟨y, u, rfl, e⟩
      · exact nomatch e
      · injection e with e1 _; rw [e1]
  byValue := fun k v h => by
    rcases keyIs_shape h with ⟨i, t, rfl, rfl⟩ | ⟨x, t, rfl, rfl⟩ <;> rfl
  pyHash := fun hv h => by
    rcases keyIs_shape hv with ⟨i, t, rfl, rfl⟩ | ⟨x, t, rfl, rfl⟩
    · exact wpAny_pyHash_int h
    · exact wpAny_pyHash_str h
  eqBool := fun hu hv h => by
    rcases keyIs_shape hu with ⟨i, t, rfl, rfl⟩ | ⟨x, t, rfl, rfl⟩
    · rcases keyIs_shape hv with ⟨j, u, rfl, rfl⟩ | ⟨y, u, rfl, rfl⟩
      · rw [key_ll] at h; exact wpAny_eqBool_int h
      · rw [key_lr] at h; exact SeqAt.EqAt.int_str i t y u _ _ _ _ h
    · rcases keyIs_shape hv with ⟨j, u, rfl, rfl⟩ | ⟨y, u, rfl, rfl⟩
      · rw [key_rl] at h; exact SeqAt.EqAt.str_int x t j u _ _ _ _ h
      · rw [key_rr] at h; exact wpAny_eqBool_str h
  «strs» := fun k x t v h => by
    rcases keyIs_shape h with ⟨i, u, rfl, e⟩ | ⟨y, u, rfl, e⟩
    · exact nomatch e
    · injection e with e1 _
      subst e1
      cases v <;> rfl

theorem mixKind_int (prog : Program) (w : World) (i : Int) (t : Tok) : (mixKind prog w).is (.inl i) (.int i t) = true := keyIs_int i t
theorem mixKind_str (prog : Program) (w : World) (x : Str) (t : Tok) : (mixKind prog w).is (.inr x) (.str x t) = true := keyIs_str x t
end L2

namespace L2
open PySem PySem.Spec PyProof.Rows

inductive V where
  | non | bl (b : Bool) | int (i : Int) | str (x : Str) | byt (b : Array UInt8) | flt (b : UInt64) | ref (a : Addr) | ty (n : String)
  deriving DecidableEq

noncomputable def RelV : V → Value → Prop
  | .non, u => u = Value.none
  | .bl b, u => u = Value.bool b
  | .int i, u => ∃ t, u = Value.int i t
  | .str x, u => ∃ t, u = Value.str x t
  | .byt b, u => ∃ t, u = Value.bytes b t
  | .flt b, u => ∃ t, u = Value.float b t
  | .ref a, u => u = Value.ref a
  | .ty n, u => u = Value.type n

noncomputable abbrev Vals : List V → List Value → Prop := Paired RelV
theorem Vals.length {xs : List V} {us : List Value} (r : Vals xs us) : xs.length = us.length := Paired.length r
theorem Vals.get : ∀ {xs : List V} {us : List Value} {i : Nat} {x : V}, Vals xs us → xs[i]? = some x → ∃ u, us[i]? = some u ∧ RelV x u
  | _, _, _, _, .nil, e => by simp at e
  | _, _, 0, _, .cons r _, e => by simp at e; subst e; exact ⟨_, rfl, r⟩
  | _, _, i + 1, x, .cons _ t, e => by
    obtain ⟨u, h1, h2⟩ := Vals.get (i := i) (x := x) t (by simpa using e)
    exact ⟨u, by simpa using h1, h2⟩
theorem Vals.set {x : V} {u : Value} (r : RelV x u) : ∀ {xs : List V} {us : List Value} (i : Nat), Vals xs us → Vals (xs.set i x) (us.set i u)
  | _, _, _, .nil => .nil
  | _, _, 0, .cons _ t => .cons r t
  | _, _, i + 1, .cons q t => .cons q (Vals.set r i t)
theorem Vals.append : ∀ {xs ys : List V} {us ws : List Value}, Vals xs us → Vals ys ws → Vals (xs ++ ys) (us ++ ws)
  | _, _, _, _, .nil, s => s
  | _, _, _, _, .cons r t, s => .cons r (Vals.append t s)
theorem Vals.take : ∀ {xs : List V} {us : List Value} (n : Nat), Vals xs us → Vals (xs.take n) (us.take n)
  | _, _, 0, _ => .nil
  | _, _, _ + 1, .nil => .nil
  | _, _, n + 1, .cons r t => .cons r (Vals.take n t)
theorem Vals.drop : ∀ {xs : List V} {us : List Value} (n : Nat), Vals xs us → Vals (xs.drop n) (us.drop n)
  | _, _, 0, r => r
  | _, _, _ + 1, .nil => .nil
  | _, _, n + 1, .cons _ t => Vals.drop n t
noncomputable def RelO : Option V → Option Value → Prop
  | some v, some u => RelV v u
  | none, none => True
  | _, _ => False
noncomputable def KV {κ : Type} : List (κ × V) → List (κ × Value) → Prop := Paired fun (p : κ × V) (q : κ × Value) => p.1 = q.1 ∧ RelV p.2 q.2

noncomputable def kV : Key → V
  | .inl i => .int i
  | .inr x => .str x

inductive HO where
  | lst (xs : List V)
  | tup (xs : List V)
  | dK (kvs : List (Key × V)) | dT (kvs : List (List Key × V))
  | set (S : Int → Bool) (n : Nat)
  | ins (C dx : Addr) (fs : List (Str × V))
  | own (x : Addr)
  | xd (fs : List (Str × V))
  | met (f x : Addr)
  | rng (lo hi : Int)
  | frz (o : Obj) (u : HO)
  | tbl (ps : Array Value)
  | ext (φ : Heap → Prop)

noncomputable abbrev Hp := Addr → Option HO
noncomputable def upd (H : Hp) (a : Addr) (o : HO) : Hp := fun b => if b = a then some o else H b
theorem upd_same {H : Hp} {a : Addr} {o : HO} : upd H a o a = some o := by unfold upd; rw [if_pos rfl]
theorem upd_ne {H : Hp} {a b : Addr} {o : HO} (h : b ≠ a) : upd H a o b = H b := by unfold upd; rw [if_neg h]
theorem ne_of {H : Hp} {a b : Addr} {o u : HO} (h : H a = some o) (h' : H b = some u) (d : o ≠ u) : a ≠ b := by
  intro e; subst e; rw [h] at h'; exact d (Option.some.inj h')
theorem ne_of_none {H : Hp} {a b : Addr} {o : HO} (h : H a = some o) (h' : H b = none) : a ≠ b := by
  intro e; subst e; rw [h] at h'; cases h'

section
variable (P : Program) (w : World)
noncomputable def ObjOk (H : Hp) (h : Heap) (a : Addr) : HO → Prop
  | .lst xs => xs.length ≤ sizeLine ∧ ∃ (its : List Value) (n : Nat), Vals xs its ∧ h.get? a = some { cls := .type "list", data := .seq its.toArray n }
  | .tup xs => xs.length ≤ sizeLine ∧ ∃ its : List Value, Vals xs its ∧ IsTup h a its.toArray
  | .dK kvs => kvs.length ≤ sizeLine ∧ (a == sysModules) = false ∧ ∃ vs, KV kvs vs ∧ h.DictOf (mixKind P w) a vs
  | .dT kvs => kvs.length ≤ sizeLine ∧ (a == sysModules) = false ∧ ∃ xs : List (List Key × Addr × Value),
      Paired (fun (p : List Key × V) (q : List Key × Addr × Value) => p.1 = q.1 ∧ H q.2.1 = some (.tup (p.1.map kV)) ∧ RelV p.2 q.2.2) kvs xs ∧
      ∃ o es ep, h.get? a = some o ∧ o.ExactDict ∧ o.data = .dict es ep ∧ es.toList = xs.map (entryOfKey (tupleKind (mixKind P w))) ∧ (xs.map (·.1)).Nodup
  | .set S n => h.SetOf (intKind P w) a S n
  | .ins C dx fs => H dx = some (.own a) ∧ fs.length ≤ 1000 ∧ dx ≠ a ∧ h.get? a = some (PySem.W.instObj C dx) ∧
      ∃ mA, h.Ns1 dx mA ∧ (∀ f, RelO (fs.lookup f) (mA f)) ∧ PySem.Within mA (fs.map (·.1))
  | .own _ => ∃ o, h.get? a = some o
  | .xd fs => ∃ mA, h.Ns1 a mA ∧ ∀ f, RelO (fs.lookup f) (mA f)
  | .rng lo hi => ∃ t u v, h.get? a = some { cls := .type "range", data := .fields #[.int lo t, .int hi u, .int 1 v] }
  | .frz o u => h.get? a = some o ∧ ObjOk H h a u
  | .tbl ps => h.get? a = some { cls := .none, data := .fields ps }
  | .met f x => h.get? a = some (PySem.W.methodObj (.ref f) (.ref x))
  | .ext φ => φ h ∧ (∃ o, h.get? a = some o) ∧ ∀ h1 h2 : Heap, φ h1 → (∀ o, h1.get? a = some o → h2.get? a = some o) → φ h2
def HOk (H : Hp) (h : Heap) : Prop := ∀ a o, H a = some o → ObjOk P w H h a o
end

section
variable {P : Program} {w : World} {H H' : Hp} {h h' : Heap} {a : Addr} {o : HO}
theorem ObjOk.lt (x : ObjOk P w H h a o) : a < h.objs.size := by
  cases o with
  | lst xs => obtain ⟨_, _, _, _, e⟩ := x; exact Heap.lt_size e
  | tup xs => obtain ⟨_, _, _, p⟩ := x; exact p.lt
  | dK kvs => obtain ⟨_, _, _, _, o, _, _, e, _⟩ := x; exact Heap.lt_size e
  | dT kvs => obtain ⟨_, _, _, _, o, _, _, e, _⟩ := x; exact Heap.lt_size e
  | set S n => obtain ⟨o, _, _, _, e, _⟩ := x; exact Heap.lt_size e
  | ins C dx fs => obtain ⟨_, _, _, e, _⟩ := x; exact Heap.lt_size e
  | own y => obtain ⟨_, e⟩ := x; exact Heap.lt_size e
  | xd fs => obtain ⟨_, ⟨_, _, _, e, _⟩, _⟩ := x; exact Heap.lt_size e
  | rng lo hi => obtain ⟨_, _, _, e⟩ := x; exact Heap.lt_size e
  | frz ob u => obtain ⟨e, _⟩ := x; exact Heap.lt_size e
  | tbl ps => exact Heap.lt_size (show h.get? a = some _ from x)
  | met f y => exact Heap.lt_size (show h.get? a = some _ from x)
  | ext φ => obtain ⟨_, ⟨_, e⟩, _⟩ := x; exact Heap.lt_size e
theorem Paired.mapP {α β : Type} {F G : α → β → Prop} : ∀ {l₁ : List α} {l₂ : List β}, Paired F l₁ l₂ → (∀ a b, F a b → G a b) → Paired G l₁ l₂
  | _, _, .nil, _ => .nil
  | _, _, .cons r t, f => .cons (f _ _ r) (Paired.mapP t f)
theorem ObjOk.stay (x : ObjOk P w H h a o) (k : ∀ b u, (b = a ∨ H b = some (.own a)) → h.get? b = some u → h'.get? b = some u)
    (ho : ∀ b, H b = some (.own a) → H' b = some (.own a)) (ht : ∀ b xs, H b = some (.tup xs) → H' b = some (.tup xs)) : ObjOk P w H' h' a o := by
  induction o with
  | lst xs => obtain ⟨z, its, n, r, e⟩ := x; exact ⟨z, its, n, r, k _ _ (.inl rfl) e⟩
  | tup xs => obtain ⟨z, its, r, ob, e, c⟩ := x; exact ⟨z, its, r, ob, k _ _ (.inl rfl) e, c⟩
  | dK kvs => obtain ⟨z, y, vs, r, ob, es, ep, e, c⟩ := x; exact ⟨z, y, vs, r, ob, es, ep, k _ _ (.inl rfl) e, c⟩
  | dT kvs =>
    obtain ⟨z, y, xs, r, ob, es, ep, e, c⟩ := x
    exact ⟨z, y, xs, Paired.mapP r fun p q z => ⟨z.1, ht _ _ z.2.1, z.2.2⟩, ob, es, ep, k _ _ (.inl rfl) e, c⟩
  | set S n => obtain ⟨ob, es, ep, t, e, c⟩ := x; exact ⟨ob, es, ep, t, k _ _ (.inl rfl) e, c⟩
  | ins C dx fs =>
    obtain ⟨d, z, ne, e, mA, ⟨od, es, ep, e2, c⟩, r⟩ := x
    exact ⟨ho _ d, z, ne, k _ _ (.inl rfl) e, mA, ⟨od, es, ep, k _ _ (.inr d) e2, c⟩, r⟩
  | own y => obtain ⟨ob, e⟩ := x; exact ⟨ob, k _ _ (.inl rfl) e⟩
  | xd fs => obtain ⟨mA, ⟨od, es, ep, e, c⟩, r⟩ := x; exact ⟨mA, ⟨od, es, ep, k _ _ (.inl rfl) e, c⟩, r⟩
  | rng lo hi => obtain ⟨t, u, v, e⟩ := x; exact ⟨t, u, v, k _ _ (.inl rfl) e⟩
  | frz ob u ih => obtain ⟨e, q⟩ := x; exact ⟨k _ _ (.inl rfl) e, ih q⟩
  | tbl ps =>
    have e : h.get? a = some { cls := .none, data := .fields ps } := x
    show h'.get? a = some { cls := .none, data := .fields ps }
    exact k a _ (.inl rfl) e
  | met f y =>
    have e : h.get? a = some (PySem.W.methodObj (.ref f) (.ref y)) := x
    show h'.get? a = some (PySem.W.methodObj (.ref f) (.ref y))
    exact k a _ (.inl rfl) e
  | ext φ => obtain ⟨p, ⟨o, e⟩, st⟩ := x; exact ⟨st _ _ p fun o q => k _ _ (.inl rfl) q, ⟨o, k _ _ (.inl rfl) e⟩, st⟩
theorem HOk.lt (x : HOk P w H h) (e : H a = some o) : a < h.objs.size := (x a o e).lt
theorem HOk.fresh (x : HOk P w H h) (e : h.objs.size ≤ a) : H a = none := by
  cases q : H a with
  | none => rfl
  | some u => exact absurd (Nat.lt_of_lt_of_le (x.lt q) e) (Nat.lt_irrefl _)
theorem HOk.kept (x : HOk P w H h) (k : ∀ b u, h.get? b = some u → h'.get? b = some u) : HOk P w H h' := fun a o e =>
  (x a o e).stay (fun b u _ q => k b u q) (fun _ q => q) fun _ _ q => q
theorem HOk.laid (x : HOk P w H h) (k : ∀ b u, h.get? b = some u → h'.get? b = some u) (hp : h.objs.size ≤ a) (new : ObjOk P w (upd H a o) h' a o) : HOk P w (upd H a o) h' := fun b u e => by
  have hn := x.fresh hp
  by_cases hb : b = a
  · subst hb; rw [upd_same] at e; cases e; exact new
  · rw [upd_ne hb] at e
    exact (x b u e).stay (fun c v _ q => k c v q) (fun c q => by rw [upd_ne (ne_of_none q hn)]; exact q) fun c xs q => by rw [upd_ne (ne_of_none q hn)]; exact q
end

def Rd (H : Hp) (a : Addr) (u : HO) : Prop := H a = some u ∨ ∃ o, H a = some (.frz o u)
theorem Rd.of {H : Hp} {a : Addr} {u : HO} (h : H a = some u) : Rd H a u := .inl h
theorem Rd.ok {P : Program} {w : World} {H : Hp} {h : Heap} {a : Addr} {u : HO} (r : Rd H a u) (x : HOk P w H h) : ObjOk P w H h a u := by
  rcases r with r | ⟨o, r⟩
  · exact x a u r
  · obtain ⟨_, q⟩ := x a _ r
    exact q
noncomputable def Mut : Option HO → Prop
  | some (.lst _) => True
  | some (.dK _) => True
  | some (.dT _) => True
  | some (.set _ _) => True
  | some (.ins _ _ _) => True
  | some (.ext _) => True
  | _ => False
section
variable {P : Program} {w : World} {H : Hp} {h h' : Heap} {x e : Addr} {o' : HO}
theorem HOk.write (ok : HOk P w H h) (mu : Mut (H x)) (he : e = x ∨ H e = some (.own x)) (k : ∀ b u, b ≠ e → h.get? b = some u → h'.get? b = some u) (heo : ∃ u, h'.get? e = some u)
    (new : ObjOk P w (upd H x o') h' x o') : HOk P w (upd H x o') h' := fun b u q => by
  have nown : ∀ c y, H c = some (.own y) → c ≠ x := fun c y r z => by subst z; rw [r] at mu; exact mu
  have ntup : ∀ c xs, H c = some (.tup xs) → c ≠ x := fun c xs r z => by subst z; rw [r] at mu; exact mu
  by_cases hb : b = x
  · subst hb; rw [upd_same] at q; cases q; exact new
  · rw [upd_ne hb] at q
    by_cases hbe : b = e
    · have q' : H b = some (.own x) := by
        rcases he with z | z
        · exact absurd (hbe.trans z) hb
        · rw [hbe]; exact z
      rw [q] at q'; cases q'
      obtain ⟨v, hv⟩ := heo
      exact ⟨v, by rw [hbe]; exact hv⟩
    · refine (ok b u q).stay (fun c v hc r => k c v ?_ r) (fun c r => by rw [upd_ne (nown c b r)]; exact r) fun c xs r => by rw [upd_ne (ntup c xs r)]; exact r
      rcases hc with rfl | hc
      · exact hbe
      · rintro rfl
        rcases he with z | z
        · exact nown c b hc z
        · rw [hc] at z; cases z; exact hb rfl
end

structure Un (fs ex : List Addr) (H H' : Hp) (h h' : Heap) : Prop where
  keep : ∀ b o, h.get? b = some o → H b = none → b ∉ fs → b ∉ ex → h'.get? b = some o
  slot : ∀ b o, h.get? b = some o → H b = none → b ∈ fs → b ∉ ex → ∃ sl, h'.get? b = some { o with slots := sl }
  free : ∀ b o, h.get? b = some o → H b = none → b ∉ ex → H' b = none
  there : ∀ b o, h.get? b = some o → b ∉ ex → ∃ o', h'.get? b = some o'
  tups : ∀ b xs, H b = some (.tup xs) → H' b = some (.tup xs)
  frzs : ∀ b o u, H b = some (.frz o u) → H' b = some (.frz o u)
  tbls : ∀ b ps, H b = some (.tbl ps) → ∃ more, H' b = some (.tbl (ps ++ more))
section
variable {fs fs' ex ex' : List Addr} {H H1 H2 : Hp} {h h1 h2 h' : Heap} {a x e : Addr} {o : HO}
theorem Un.any (u : Un fs ex H H1 h h1) {b : Addr} {ob : Obj} (q : h.get? b = some ob) (n : H b = none) (hx : b ∉ ex) : ∃ sl, h1.get? b = some { ob with slots := sl } := by
  by_cases hb : b ∈ fs
  · exact u.slot b ob q n hb hx
  · exact ⟨ob.slots, u.keep b ob q n hb hx⟩
theorem Un.trans (a : Un fs ex H H1 h h1) (b : Un fs ex H1 H2 h1 h2) : Un fs ex H H2 h h2 where
  keep := fun c ob q n hc hx => b.keep c ob (a.keep c ob q n hc hx) (a.free c ob q n hx) hc hx
  slot := fun c ob q n hc hx => by
    obtain ⟨sl, e1⟩ := a.slot c ob q n hc hx
    obtain ⟨sl', e2⟩ := b.slot c _ e1 (a.free c ob q n hx) hc hx
    exact ⟨sl', e2⟩
  free := fun c ob q n hx => by
    obtain ⟨o', e1⟩ := a.there c ob q hx
    exact b.free c o' e1 (a.free c ob q n hx) hx
  there := fun c ob q hx => by
    obtain ⟨o', e1⟩ := a.there c ob q hx
    exact b.there c o' e1 hx
  tups := fun c xs q => b.tups c xs (a.tups c xs q)
  frzs := fun c ob xs q => b.frzs c ob xs (a.frzs c ob xs q)
  tbls := fun c ps q => by
    obtain ⟨m1, e1⟩ := a.tbls c ps q
    obtain ⟨m2, e2⟩ := b.tbls c _ e1
    exact ⟨m1 ++ m2, by rw [e2, Array.append_assoc]⟩
theorem Un.kept (k : ∀ b u, h.get? b = some u → h'.get? b = some u) : Un fs ex H H h h' :=
  ⟨fun b ob q _ _ _ => k b ob q, fun b ob q _ _ _ => ⟨ob.slots, k b ob q⟩, fun _ _ _ n _ => n, fun b ob q _ => ⟨ob, k b ob q⟩, fun _ _ q => q, fun _ _ _ q => q, fun _ ps q => ⟨#[], by rw [q]; simp⟩⟩
theorem Un.refl : Un fs ex H H h h := Un.kept fun _ _ q => q
theorem Un.laid (k : ∀ b u, h.get? b = some u → h'.get? b = some u) (hp : h.objs.size ≤ a) (hn : H a = none) : Un fs ex H (upd H a o) h h' where
  keep := fun b u q _ _ _ => k b u q
  slot := fun b u q _ _ _ => ⟨u.slots, k b u q⟩
  free := fun b u q n _ => by rw [upd_ne (Nat.ne_of_lt (Nat.lt_of_lt_of_le (Heap.lt_size q) hp))]; exact n
  there := fun b u q _ => ⟨u, k b u q⟩
  tups := fun b xs q => by rw [upd_ne (ne_of_none q hn)]; exact q
  frzs := fun b u xs q => by rw [upd_ne (ne_of_none q hn)]; exact q
  tbls := fun b ps q => ⟨#[], by rw [upd_ne (ne_of_none q hn), q]; simp⟩
theorem Un.write (mu : Mut (H x)) (he : e = x ∨ H e = some (.own x)) (k : ∀ b u, b ≠ e → h.get? b = some u → h'.get? b = some u) (heo : ∃ u, h'.get? e = some u) : Un fs ex H (upd H x o) h h' := by
  have hx : ∀ b, H b = none → b ≠ x := fun b n z => by subst z; rw [n] at mu; exact mu
  have hb : ∀ b, H b = none → b ≠ e := fun b n z => by
    subst z
    rcases he with r | r
    · exact hx b n r
    · rw [n] at r; cases r
  have hm : ∀ b u, H b = some u → ¬ Mut (some u) → b ≠ x := fun b u q nm z => by subst z; rw [q] at mu; exact nm mu
  refine ⟨fun b u q n _ _ => k b u (hb b n) q, fun b u q n _ _ => ⟨u.slots, k b u (hb b n) q⟩, fun b u q n _ => by rw [upd_ne (hx b n)]; exact n, fun b u q _ => ?_,
    fun b xs q => by rw [upd_ne (hm b _ q fun z => z)]; exact q, fun b u xs q => by rw [upd_ne (hm b _ q fun z => z)]; exact q, fun b ps q => ⟨#[], by rw [upd_ne (hm b _ q fun z => z), q]; simp⟩⟩
  by_cases hbe : b = e
  · subst hbe; exact heo
  · exact ⟨u, k b u hbe q⟩
theorem Un.mono (u : Un fs ex H H1 h h1) (hs : ∀ b ∈ fs, b ∈ fs') (hx : ∀ b ∈ ex, b ∈ ex') : Un fs' ex' H H1 h h1 :=
  ⟨fun b ob q n hb he => u.keep b ob q n (fun z => hb (hs b z)) fun z => he (hx b z), fun _ _ q n _ he => u.any q n fun z => he (hx _ z), fun b ob q n he => u.free b ob q n fun z => he (hx b z), fun b ob q he => u.there b ob q fun z => he (hx b z), u.tups, u.frzs, u.tbls⟩
end

noncomputable def trk (h : Heap) (H : Hp) : List Addr := (List.range h.objs.size).filter fun a => (H a).isSome
noncomputable def hidT (h : Heap) (H : Hp) : Heap := PySem.W.hideAll h (trk h H)
theorem hidT_size (h : Heap) (H : Hp) : (hidT h H).objs.size = h.objs.size := PySem.W.hideAll_size _ _
theorem hidT_get {h : Heap} {H : Hp} {b : Addr} {o : Obj} (e : h.get? b = some o) (n : H b = none) : (hidT h H).get? b = some o :=
  PySem.W.hideAll_get _ e fun hm => by
    have q : (H b).isSome = true := (List.mem_filter.mp hm).2
    rw [n] at q; simp at q
theorem of_hidT {h : Heap} {H : Hp} {b : Addr} {o : Obj} (e : (hidT h H).get? b = some o) : h.get? b = some o ∧ H b = none := by
  have e' : h.get? b = some o := PySem.W.of_hideAll (trk h H) e
  refine ⟨e', ?_⟩
  cases q : H b with
  | none => rfl
  | some x =>
    have hm : b ∈ trk h H := List.mem_filter.mpr ⟨List.mem_range.mpr (Heap.lt_size e'), by simp [q]⟩
    have z : (hidT h H).get? b = none := PySem.W.hideAll_none (trk h H) hm
    rw [z] at e; cases e

noncomputable def allNews (g h : Heap) (L : Addr) : List (Addr × Obj) := (List.range h.objs.size).filterMap fun a => if a = L ∨ (g.get? a).isSome = true then none else (h.get? a).map fun o => (a, o)
noncomputable def rest (g h : Heap) (L d : Addr) : List (Addr × Obj) := (allNews g h L).filter fun p => decide (p.1 ≠ d)
end L2

namespace L2
open PySem PySem.Spec PyProof.Rows

structure Mod (K : PySem.W.Frag) (mg : Str → Option Value) (base : Heap) : Prop where
  kin : K.In base
  glob : base.Ns mainGlobals mg
  blt : ∃ mb, base.Ns builtinsNs mb ∧ ∀ x : Str, x ≠ "__name__" → mb x = bootBuiltins x
  nolimit : base.NoLimit

structure Cx where
  prog : Program
  w : World
  K : PySem.W.Frag
  mg : Str → Option Value
  base : Heap
  A : Around
  N : List Str
  s₀ : Shared
  H₀ : Hp
  env : Env
  outer : List Env
  stack : List Env
  ex : List Addr
  fn : Str → Bool
  calm : Bool
  pn : List (Addr × Obj)
  xe : Value → Shared → Prop
noncomputable def frs (l : List Env) : List Addr := l.filterMap (·.frame)
noncomputable abbrev Cx.fs (X : Cx) : List Addr := frs X.outer

def Vis (sc : Scope) (x : Str) : Prop := sc.names.lookup x = some .local ∨ sc.names.lookup x = some .cell ∨ sc.names.lookup x = some .free
def Loc (sc : Scope) (x : Str) : Prop := sc.names.lookup x = some .local ∨ sc.names.lookup x = some .cell
def Look (env : Env) (h : Heap) (m : Str → Option Value) (x : Str) (u : Value) : Prop :=
  (env.kindOf x = some .local ∧ m x = some u) ∨ ((env.kindOf x = some .cell ∨ env.kindOf x = some .free) ∧ ∃ c, env.cells.lookup x = some c ∧ h.IsCell c (some u))

structure Cx.Ok (X : Cx) : Prop where
  mod : Mod X.K X.mg X.base
  kind : X.env.scope.kind = .function
  glob : X.env.globals = mainGlobals
  blt : X.env.builtins = builtinsNs
  above : X.s₀.heap.objs.size ≤ X.env.locals
  inj : ∀ x y c, X.env.cells.lookup x = some c → X.env.cells.lookup y = some c → x = y
  has : ∀ x, (X.env.kindOf x = some .cell ∨ X.env.kindOf x = some .free) → ∃ c, X.env.cells.lookup x = some c
  cab : ∀ x c, X.fn x = true → X.env.cells.lookup x = some c → X.s₀.heap.objs.size ≤ c
  hd : X.calm = true → X.A.handled = none
  frames : X.A.frames = some X.stack
  stk : X.stack = X.outer ∨ (X.stack = X.env :: X.outer ∧ X.env.frame = some X.env.locals)
  exf : ∀ b ∈ X.ex, b ≠ X.env.locals ∧ ∀ x c, X.env.cells.lookup x = some c → c ≠ b
  bs : ∀ b o, X.base.get? b = some o → X.s₀.heap.get? b = some o ∧ X.H₀ b = none
  bsz : X.base.objs.size ≤ X.s₀.heap.objs.size
  noex : ∀ b o, X.base.get? b = some o → b ∉ X.ex
  exfs : ∀ b ∈ X.ex, b ∉ X.fs
  funs : X.s₀.heap.FunFrames X.base X.outer
  frf : ∀ b ∈ X.fs, X.H₀ b = none

structure Inv (X : Cx) (pins : List (Addr × Obj)) (σ : List (Option V)) (H : Hp) (s : Shared) : Prop where
  ok : X.Ok
  os : s.os = X.s₀.os
  bare : AllBare s.gens
  base : Un X.fs X.ex X.H₀ H X.s₀.heap s.heap
  loc : ∃ m, s.heap.Ns X.env.locals m ∧ ∀ (i : Nat) (x : Str) (v : V), X.N[i]? = some x → σ[i]? = some (some v) → Vis X.env.scope x → ∃ u, RelV v u ∧ Look X.env s.heap m x u
  cell : ∀ x c, X.env.cells.lookup x = some c → ∃ v, s.heap.IsCell c v
  free : H X.env.locals = none
  freeC : ∀ x c, X.env.cells.lookup x = some c → H c = none
  pin : ∀ p ∈ X.pn ++ pins, s.heap.get? p.1 = some p.2 ∧ H p.1 = none ∧ p.1 ≠ X.env.locals ∧ p.1 ∉ X.fs ∧ ∀ v, p.2.data ≠ .cell v
  hok : HOk X.prog X.w H s.heap
  len : σ.length = X.N.length

section
variable {X : Cx} {pins : List (Addr × Obj)} {σ : List (Option V)} {H H' : Hp} {s : Shared} {h' : Heap}

theorem Cx.Ok.nofr (ok : X.Ok) {b : Addr} {o : Obj} (e : X.base.get? b = some o) : b ∉ X.fs := fun hb => by
  have := (ok.funs.mem hb).1
  rw [e] at this; cases this
theorem Inv.bs (I : Inv X pins σ H s) : ∀ b o, X.base.get? b = some o → s.heap.get? b = some o ∧ H b = none := fun b o e =>
  ⟨I.base.keep b o (I.ok.bs b o e).1 (I.ok.bs b o e).2 (I.ok.nofr e) (I.ok.noex b o e), I.base.free b o (I.ok.bs b o e).1 (I.ok.bs b o e).2 (I.ok.noex b o e)⟩
theorem Inv.bk (I : Inv X pins σ H s) : ∀ b o, X.base.get? b = some o → s.heap.get? b = some o := fun b o e => (I.bs b o e).1
theorem Inv.mod (I : Inv X pins σ H s) : Mod X.K X.mg X.base := I.ok.mod
theorem Inv.kIn (I : Inv X pins σ H s) : X.K.In s.heap := I.ok.mod.kin.keeps I.bk
theorem Inv.nolimit (I : Inv X pins σ H s) : s.heap.NoLimit := I.ok.mod.nolimit.keeps I.bk
theorem Inv.lt (I : Inv X pins σ H s) : X.env.locals < s.heap.objs.size := let ⟨_, hn, _⟩ := I.loc; hn.lt
theorem Inv.sz (I : Inv X pins σ H s) : X.s₀.heap.objs.size ≤ s.heap.objs.size := Nat.le_trans I.ok.above (Nat.le_of_lt I.lt)
theorem Inv.nofs (I : Inv X pins σ H s) {a : Addr} (h : s.heap.objs.size ≤ a) : a ∉ X.fs := fun hb => by
  obtain ⟨_, o, ho, _⟩ := I.ok.funs.mem hb
  exact absurd (Nat.lt_of_lt_of_le (Heap.lt_size ho) (Nat.le_trans I.sz h)) (Nat.lt_irrefl _)
theorem Inv.cne (I : Inv X pins σ H s) : ∀ x c, X.env.cells.lookup x = some c → c ≠ X.env.locals := fun x c e z => by
  obtain ⟨v, o, ho, hd⟩ := I.cell x c e
  obtain ⟨m, ⟨o', es, ep, ho', hd', _⟩, _⟩ := I.loc
  rw [z, ho'] at ho; cases ho; rw [hd'] at hd; cases hd
theorem Inv.funs (I : Inv X pins σ H s) : s.heap.FunFrames X.base X.outer := by
  have all : ∀ (l : List Env), (∀ b ∈ frs l, b ∈ X.fs) → X.s₀.heap.FunFrames X.base l → s.heap.FunFrames X.base l := by
    intro l
    induction l with
    | nil => intro _ _; trivial
    | cons env r ih =>
      intro hs hl
      obtain ⟨hk, ⟨L, o, hf, hn, ho, hd⟩, hr⟩ := hl
      have hL : L ∈ X.fs := hs L (by unfold frs; rw [List.filterMap_cons, hf]; exact List.mem_cons_self)
      obtain ⟨sl, e⟩ := I.base.slot L o ho (I.ok.frf L hL) hL fun z => I.ok.exfs L z hL
      exact ⟨hk, ⟨L, _, hf, hn, e, hd⟩, ih (fun b hb => hs b (by unfold frs; rw [List.filterMap_cons, hf]; exact List.mem_cons_of_mem _ hb)) hr⟩
  exact all X.outer (fun _ hb => hb) I.ok.funs

theorem Inv.stack (I : Inv X pins σ H s) : s.heap.FunFrames X.base X.stack := by
  rcases I.ok.stk with e | ⟨e, hf⟩
  · rw [e]; exact I.funs
  · rw [e]
    obtain ⟨m, hn, _⟩ := I.loc
    refine .cons (by rw [I.ok.kind]; decide) hf hn ?_ I.funs
    exact Heap.get?_none_of_le (Nat.le_trans I.ok.bsz I.ok.above)
theorem Inv.stkSub (I : Inv X pins σ H s) : ∀ b ∈ frs X.stack, b ∈ X.env.locals :: X.fs := fun b hb => by
  rcases I.ok.stk with e | ⟨e, hf⟩
  · rw [e] at hb; exact List.mem_cons_of_mem _ hb
  · rw [e] at hb
    unfold frs at hb
    rw [List.filterMap_cons, hf] at hb
    exact hb
theorem Inv.stkFree (I : Inv X pins σ H s) : ∀ b ∈ frs X.stack, H b = none := fun b hb => by
  rcases List.mem_cons.mp (I.stkSub b hb) with e | hb
  · rw [e]; exact I.free
  · obtain ⟨_, o, ho, _⟩ := I.ok.funs.mem hb
    exact I.base.free b o ho (I.ok.frf b hb) fun z => I.ok.exfs b z hb

theorem Inv.step {g' : Array GenState} {t' : Nat} {d' : Drawn} {ch : List Addr} (I : Inv X pins σ H s)
    (hch : ∀ b ∈ ch, (b ∈ X.ex ∨ X.s₀.heap.objs.size ≤ b) ∧ b ≠ X.env.locals ∧ (∀ x c, X.env.cells.lookup x = some c → c ≠ b) ∧ ∀ p ∈ X.pn ++ pins, p.1 ≠ b)
    (keep : ∀ b o, b ≠ X.env.locals → b ∉ X.fs → b ∉ ch → s.heap.get? b = some o → H b = none → h'.get? b = some o)
    (slot : ∀ b o, b ≠ X.env.locals → b ∈ X.fs → b ∉ ch → s.heap.get? b = some o → H b = none → ∃ sl, h'.get? b = some { o with slots := sl }) (free : ∀ b o, b ∉ ch → s.heap.get? b = some o → H b = none → H' b = none)
    (there : ∀ b o, b ∉ ch → s.heap.get? b = some o → ∃ o', h'.get? b = some o')
    (tups : ∀ b xs, H b = some (.tup xs) → H' b = some (.tup xs)) (frzs : ∀ b o u, H b = some (.frz o u) → H' b = some (.frz o u)) (tbls : ∀ b ps, H b = some (.tbl ps) → ∃ more, H' b = some (.tbl (ps ++ more)))
    (ns : ∀ m, s.heap.Ns X.env.locals m → h'.Ns X.env.locals m) (hok : HOk X.prog X.w H' h') (hg : AllBare g') :
    Inv X pins σ H' { s with heap := h', gens := g', drawn := d', toks := t' } := by
  have neL : ∀ b o, X.s₀.heap.get? b = some o → b ≠ X.env.locals := fun b o e => Nat.ne_of_lt (Nat.lt_of_lt_of_le (Heap.lt_size e) I.ok.above)
  have neC : ∀ b o, X.s₀.heap.get? b = some o → b ∉ X.ex → b ∉ ch := fun b o e hx hb => by
    rcases (hch b hb).1 with z | z
    · exact hx z
    · exact absurd (Nat.lt_of_lt_of_le (Heap.lt_size e) z) (Nat.lt_irrefl _)
  have cellK : ∀ x c, X.env.cells.lookup x = some c → ∀ v, s.heap.IsCell c v → h'.IsCell c v := fun x c e v ⟨o, ho, hd⟩ => by
    have nch : c ∉ ch := fun z => (hch c z).2.2.1 x c e rfl
    by_cases hc : c ∈ X.fs
    · obtain ⟨sl, q⟩ := slot c o (I.cne x c e) hc nch ho (I.freeC x c e)
      exact ⟨_, q, hd⟩
    · exact ⟨o, keep c o (I.cne x c e) hc nch ho (I.freeC x c e), hd⟩
  refine ⟨I.ok, I.os, hg, ⟨fun b o e n hb hx => ?_, fun b o e n hb hx => ?_, fun b o e n hx => ?_, fun b o e hx => ?_, fun b xs e => tups b xs (I.base.tups b xs e), fun b o xs e => frzs b o xs (I.base.frzs b o xs e), fun b ps e => ?_⟩, ?_, fun x c e => ?_, ?_, fun x c e => ?_, fun p hp => ?_, hok, I.len⟩
  · exact keep b o (neL b o e) hb (neC b o e hx) (I.base.keep b o e n hb hx) (I.base.free b o e n hx)
  · obtain ⟨sl, e1⟩ := I.base.slot b o e n hb hx
    obtain ⟨sl', e2⟩ := slot b _ (neL b o e) hb (neC b o e hx) e1 (I.base.free b o e n hx)
    exact ⟨sl', e2⟩
  · obtain ⟨o', e1⟩ := I.base.there b o e hx
    exact free b o' (neC b o e hx) e1 (I.base.free b o e n hx)
  · obtain ⟨o', e1⟩ := I.base.there b o e hx
    exact there b o' (neC b o e hx) e1
  · obtain ⟨m1, e1⟩ := I.base.tbls b ps e
    obtain ⟨m2, e2⟩ := tbls b _ e1
    exact ⟨m1 ++ m2, by rw [e2, Array.append_assoc]⟩
  · obtain ⟨m, hn, hl⟩ := I.loc
    refine ⟨m, ns m hn, fun i x v e1 e2 e3 => ?_⟩
    obtain ⟨u, r, l⟩ := hl i x v e1 e2 e3
    refine ⟨u, r, ?_⟩
    rcases l with l | ⟨k, c, e, z⟩
    · exact .inl l
    · exact .inr ⟨k, c, e, cellK x c e _ z⟩
  · obtain ⟨v, z⟩ := I.cell x c e
    exact ⟨v, cellK x c e v z⟩
  · obtain ⟨m, ⟨o, _, _, ho, _⟩, _⟩ := I.loc
    exact free _ o (fun z => (hch _ z).2.1 rfl) ho I.free
  · obtain ⟨v, o, ho, hd⟩ := I.cell x c e
    exact free c o (fun z => (hch c z).2.2.1 x c e rfl) ho (I.freeC x c e)
  · obtain ⟨e, n, ne, nf, d⟩ := I.pin p hp
    have nch : p.1 ∉ ch := fun z => (hch p.1 z).2.2.2 p hp rfl
    exact ⟨keep p.1 p.2 ne nf nch e n, free p.1 p.2 nch e n, ne, nf, d⟩
theorem Inv.un {t' : Nat} (I : Inv X pins σ H s) (u : Un X.fs [] H H' s.heap h') (hok : HOk X.prog X.w H' h') : Inv X pins σ H' { s with heap := h', toks := t' } := by
  obtain ⟨m, ⟨o, es, ep, ho, r⟩, _⟩ := id I.loc
  obtain ⟨sl, hL⟩ := u.any ho I.free (by simp)
  exact I.step (g' := s.gens) (d' := s.drawn) (ch := []) (fun _ z => nomatch z) (fun b o _ hb _ e n => u.keep b o e n hb (by simp)) (fun b o _ hb _ e n => u.slot b o e n hb (by simp)) (fun b o _ e n => u.free b o e n (by simp)) (fun b o _ e => u.there b o e (by simp)) u.tups u.frzs u.tbls (fun m' hm => by
    obtain ⟨o', es', ep', ho', r'⟩ := hm
    rw [ho] at ho'; cases ho'
    exact ⟨_, es', ep', hL, r'⟩) hok I.bare
theorem Inv.call {g' : Array GenState} {t' : Nat} {d' : Drawn} {ch : List Addr} (I : Inv X pins σ H s) (u : Un (frs X.stack) ch H H' s.heap h') (hok : HOk X.prog X.w H' h') (hg : AllBare g')
    (hch : ∀ b ∈ ch, (b ∈ X.ex ∨ X.s₀.heap.objs.size ≤ b) ∧ b ≠ X.env.locals ∧ (∀ x c, X.env.cells.lookup x = some c → c ≠ b) ∧ ∀ p ∈ X.pn ++ pins, p.1 ≠ b) :
    Inv X pins σ H' { s with heap := h', gens := g', drawn := d', toks := t' } := by
  obtain ⟨m, ⟨o, es, ep, ho, r⟩, _⟩ := id I.loc
  obtain ⟨sl, hL⟩ := u.any ho I.free fun z => (hch _ z).2.1 rfl
  exact I.step (ch := ch) hch (fun b o hL hb hc e n => u.keep b o e n (fun z => (List.mem_cons.mp (I.stkSub b z)).elim hL hb) hc) (fun b o _ _ hc e n => u.any e n hc) (fun b o hc e n => u.free b o e n hc) (fun b o hc e => u.there b o e hc) u.tups u.frzs u.tbls (fun m' hm => by
    obtain ⟨o', es', ep', ho', r'⟩ := hm
    rw [ho] at ho'; cases ho'
    exact ⟨_, es', ep', hL, r'⟩) hok hg
theorem Inv.turned {t' : Nat} {it : Addr} (I : Inv X pins σ H s) (k : ∀ b o, b ≠ it → s.heap.get? b = some o → h'.get? b = some o) (hn : H it = none) (hL : it ≠ X.env.locals)
    (h1 : it ∈ X.ex ∨ X.s₀.heap.objs.size ≤ it) (h2 : ∀ x c, X.env.cells.lookup x = some c → c ≠ it) (h3 : ∀ p ∈ X.pn ++ pins, p.1 ≠ it) : Inv X pins σ H { s with heap := h', toks := t' } := by
  have nit : ∀ b u, H b = some u → b ≠ it := fun b u e z => by rw [z, hn] at e; cases e
  refine I.step (g' := s.gens) (d' := s.drawn) (ch := [it]) (fun b hb => ?_) (fun b o _ _ hc e _ => k b o (fun z => hc (by simp [z])) e) (fun b o _ _ hc e _ => ⟨o.slots, k b o (fun z => hc (by simp [z])) e⟩) (fun _ _ _ _ n => n)
    (fun b o hc e => ⟨o, k b o (fun z => hc (by simp [z])) e⟩) (fun _ _ e => e) (fun _ _ _ e => e) (fun b ps e => ⟨#[], by rw [e]; simp⟩) (fun m hm => ?_) (fun b u e => ?_) I.bare
  · have e : b = it := by simpa using hb
    subst e
    exact ⟨h1, hL, h2, h3⟩
  · obtain ⟨o, es, ep, ho, r⟩ := hm
    exact ⟨o, es, ep, k _ o (Ne.symm hL) ho, r⟩
  · refine (I.hok b u e).stay (fun c v hc q => k c v ?_ q) (fun _ q => q) fun _ _ q => q
    rcases hc with z | z
    · rw [z]; exact nit b u e
    · exact nit c _ z
theorem Inv.tok (I : Inv X pins σ H s) (t : Nat) : Inv X pins σ H { s with toks := t } := I.un (h' := s.heap) (t' := t) Un.refl I.hok
theorem Inv.kept {t' : Nat} (I : Inv X pins σ H s) (k : ∀ b u, s.heap.get? b = some u → h'.get? b = some u) : Inv X pins σ H { s with heap := h', toks := t' } := I.un (Un.kept k) (I.hok.kept k)
theorem Inv.laid {a : Addr} {o : HO} {t' : Nat} (I : Inv X pins σ H s) (k : ∀ b u, s.heap.get? b = some u → h'.get? b = some u) (hp : s.heap.objs.size ≤ a) (new : ObjOk X.prog X.w (upd H a o) h' a o) :
    Inv X pins σ (upd H a o) { s with heap := h', toks := t' } := I.un (Un.laid k hp (I.hok.fresh hp)) (I.hok.laid k hp new)
theorem Inv.write {x e : Addr} {o : HO} {t' : Nat} (I : Inv X pins σ H s) (mu : Mut (H x)) (he : e = x ∨ H e = some (.own x)) (k : ∀ b u, b ≠ e → s.heap.get? b = some u → h'.get? b = some u) (heo : ∃ u, h'.get? e = some u)
    (new : ObjOk X.prog X.w (upd H x o) h' x o) : Inv X pins σ (upd H x o) { s with heap := h', toks := t' } := I.un (Un.write mu he k heo) (I.hok.write mu he k heo new)
theorem Inv.weak {σ' : List (Option V)} (I : Inv X pins σ H s) (hl : σ'.length = σ.length) (w : ∀ (i : Nat) v, σ'[i]? = some (some v) → σ[i]? = some (some v)) : Inv X pins σ' H s :=
  ⟨I.ok, I.os, I.bare, I.base, let ⟨m, hn, hl'⟩ := I.loc; ⟨m, hn, fun i x v e1 e2 e3 => hl' i x v e1 (w i v e2) e3⟩, I.cell, I.free, I.freeC, I.pin, I.hok, hl.trans I.len⟩
theorem Inv.pins_of {pins' : List (Addr × Obj)} (I : Inv X pins σ H s) (h : ∀ p ∈ pins', s.heap.get? p.1 = some p.2 ∧ H p.1 = none ∧ p.1 ≠ X.env.locals ∧ p.1 ∉ X.fs ∧ ∀ v, p.2.data ≠ .cell v) : Inv X pins' σ H s :=
  ⟨I.ok, I.os, I.bare, I.base, I.loc, I.cell, I.free, I.freeC, fun p hp => (List.mem_append.mp hp).elim (fun z => I.pin p (List.mem_append_left _ z)) (h p), I.hok, I.len⟩

theorem nodup_ix {N : List Str} (hN : N.Nodup) {i j : Nat} {x : Str} (a : N[i]? = some x) (b : N[j]? = some x) : i = j := by
  obtain ⟨h1, e1⟩ := List.getElem?_eq_some_iff.mp a
  obtain ⟨h2, e2⟩ := List.getElem?_eq_some_iff.mp b
  exact (List.getElem_inj hN).mp (e1.trans e2.symm)

theorem store_ok2 {M : Model} {A : Around} {E : Value → Shared → Prop} {i : Nat} {x : Str} {v : V} {u : Value} {Q : Unit → Shared → Prop} (I : Inv X pins σ H s) (hN : X.N.Nodup) (hi : X.N[i]? = some x) (hx : Loc X.env.scope x) (r : RelV v u)
    (h : ∀ s', Inv X pins (σ.set i (some v)) H s' → (∃ a, Heap.SameBut a s.heap s'.heap ∧ (a = X.env.locals ∨ X.env.cells.lookup x = some a)) → Q () s') (hf : X.fn x = true ∨ X.env.scope.names.lookup x = some .local := by first | exact .inl rfl | exact .inr rfl | assumption) : wpAny M A (storeName X.env x u) Q E s := by
  obtain ⟨m, hn, hl⟩ := id I.loc
  have hcls : (X.env.scope.kind == .class || (X.env.scope.kind == .module && X.env.locals != X.env.globals)) = false := by rw [I.ok.kind]; rfl
  have hiσ : i < σ.length := by rw [I.len]; exact (List.getElem?_eq_some_iff.mp hi).1
  have cne := I.cne
  have tracked : ∀ {a : Addr} {h' : Heap}, (∃ o, s.heap.get? a = some o ∧ H a = none) → Heap.SameBut a s.heap h' → HOk X.prog X.w H h' := fun {a h'} ha hs b ob e => by
    obtain ⟨_, _, hfree⟩ := ha
    refine (I.hok b ob e).stay (fun c w' hc q => (hs.2 c ?_).trans q) (fun _ q => q) fun _ _ q => q
    rintro rfl
    rcases hc with rfl | hc
    · rw [hfree] at e; cases e
    · rw [hfree] at hc; cases hc
  rcases hx with hk | hk
  · refine wpAny_storeName_local hk hn (fun h' hn' hs => ?_) hcls
    obtain ⟨oL, _, _, hoL, _⟩ := id hn
    refine h _ ⟨I.ok, I.os, I.bare, ⟨fun b o e n hb hx => ?_, fun b o e n hb hx => ?_, I.base.free, fun b o e hx => ?_, I.base.tups, I.base.frzs, I.base.tbls⟩, ⟨_, hn', fun j y v' e1 e2 e3 => ?_⟩, fun y c e => ?_, I.free, I.freeC, fun p hp => ?_, tracked ⟨oL, hoL, I.free⟩ hs, by simpa using I.len⟩ ⟨_, hs, .inl rfl⟩
    · exact (hs.2 b (Nat.ne_of_lt (Nat.lt_of_lt_of_le (Heap.lt_size e) I.ok.above))).trans (I.base.keep b o e n hb hx)
    · obtain ⟨sl, e1⟩ := I.base.slot b o e n hb hx
      exact ⟨sl, (hs.2 b (Nat.ne_of_lt (Nat.lt_of_lt_of_le (Heap.lt_size e) I.ok.above))).trans e1⟩
    · obtain ⟨o', e1⟩ := I.base.there b o e hx
      exact ⟨o', (hs.2 b (Nat.ne_of_lt (Nat.lt_of_lt_of_le (Heap.lt_size e) I.ok.above))).trans e1⟩
    · by_cases hj : j = i
      · subst hj
        rw [hi] at e1; cases e1
        rw [List.getElem?_set_self hiσ] at e2
        cases e2
        exact ⟨u, r, .inl ⟨hk, by simp⟩⟩
      · rw [List.getElem?_set_ne (Ne.symm hj)] at e2
        obtain ⟨u', r', q⟩ := hl j y v' e1 e2 e3
        refine ⟨u', r', ?_⟩
        rcases q with ⟨k, e⟩ | ⟨k, c, e, z⟩
        · refine .inl ⟨k, ?_⟩
          have : y ≠ x := fun e => hj (nodup_ix hN e1 (e ▸ hi))
          simp [this, e]
        · exact .inr ⟨k, c, e, z.sameBut hs (cne y c e)⟩
    · obtain ⟨w', z⟩ := I.cell y c e
      exact ⟨w', z.sameBut hs (cne y c e)⟩
    · obtain ⟨e, n, ne, nf, d⟩ := I.pin p hp
      exact ⟨(hs.2 p.1 ne).trans e, n, ne, nf, d⟩
  · have hfn : X.fn x = true := by
      rcases hf with z | z
      · exact z
      · rw [z] at hk; cases hk
    obtain ⟨c, hc⟩ := I.ok.has x (.inl hk)
    obtain ⟨w', z⟩ := I.cell x c hc
    refine wpAny_storeName_cell I.ok.kind hk hc z (fun h' hc' hs => ?_)
    obtain ⟨oc, hoc, hocd⟩ := id z
    refine h { s with heap := h' } ⟨I.ok, I.os, I.bare, ⟨fun b o e n hb hx => ?_, fun b o e n hb hx => ?_, I.base.free, fun b o e hx => ?_, I.base.tups, I.base.frzs, I.base.tbls⟩, ⟨m, hn.sameBut hs (Ne.symm (cne x c hc)), fun j y v' e1 e2 e3 => ?_⟩, fun y c' e => ?_, I.free, I.freeC, fun p hp => ?_, tracked ⟨oc, hoc, I.freeC x c hc⟩ hs, by simpa using I.len⟩ ⟨c, hs, .inr hc⟩
    · exact (hs.2 b (Nat.ne_of_lt (Nat.lt_of_lt_of_le (Heap.lt_size e) (I.ok.cab x c hfn hc)))).trans (I.base.keep b o e n hb hx)
    · obtain ⟨sl, e1⟩ := I.base.slot b o e n hb hx
      exact ⟨sl, (hs.2 b (Nat.ne_of_lt (Nat.lt_of_lt_of_le (Heap.lt_size e) (I.ok.cab x c hfn hc)))).trans e1⟩
    · obtain ⟨o', e1⟩ := I.base.there b o e hx
      exact ⟨o', (hs.2 b (Nat.ne_of_lt (Nat.lt_of_lt_of_le (Heap.lt_size e) (I.ok.cab x c hfn hc)))).trans e1⟩
    · by_cases hj : j = i
      · subst hj
        rw [hi] at e1; cases e1
        rw [List.getElem?_set_self hiσ] at e2
        cases e2
        exact ⟨u, r, .inr ⟨.inl hk, c, hc, hc'⟩⟩
      · rw [List.getElem?_set_ne (Ne.symm hj)] at e2
        obtain ⟨u', r', q⟩ := hl j y v' e1 e2 e3
        refine ⟨u', r', ?_⟩
        rcases q with q | ⟨k, c', e, z'⟩
        · exact .inl q
        · refine .inr ⟨k, c', e, z'.sameBut hs ?_⟩
          rintro rfl
          exact hj (nodup_ix hN e1 (I.ok.inj _ _ _ e hc ▸ hi))
    · by_cases hcc : c' = c
      · subst hcc; exact ⟨_, hc'⟩
      · obtain ⟨w2, z2⟩ := I.cell y c' e
        exact ⟨w2, z2.sameBut hs hcc⟩
    · obtain ⟨e, n, ne, nf, d⟩ := I.pin p hp
      refine ⟨(hs.2 p.1 ?_).trans e, n, ne, nf, d⟩
      intro q
      rw [q, hoc] at e
      have q' : oc = p.2 := Option.some.inj e
      exact d w' (by rw [← q']; exact hocd)
theorem store_ok {M : Model} {A : Around} {E : Value → Shared → Prop} {i : Nat} {x : Str} {v : V} {u : Value} {Q : Unit → Shared → Prop} (I : Inv X pins σ H s) (hN : X.N.Nodup) (hi : X.N[i]? = some x) (hx : Loc X.env.scope x) (r : RelV v u)
    (h : ∀ s', Inv X pins (σ.set i (some v)) H s' → Q () s') (hf : X.fn x = true ∨ X.env.scope.names.lookup x = some .local := by first | exact .inl rfl | exact .inr rfl | assumption) : wpAny M A (storeName X.env x u) Q E s :=
  store_ok2 I hN hi hx r (fun s' I' _ => h s' I') hf
theorem Inv.call' {s' : Shared} {ch : List Addr} (I : Inv X pins σ H s) (ho : s'.os = s.os) (u : Un (frs X.stack) ch H H' s.heap s'.heap) (hok : HOk X.prog X.w H' s'.heap) (hg : AllBare s'.gens)
    (hch : ∀ b ∈ ch, (b ∈ X.ex ∨ X.s₀.heap.objs.size ≤ b) ∧ b ≠ X.env.locals ∧ (∀ x c, X.env.cells.lookup x = some c → c ≠ b) ∧ ∀ p ∈ X.pn ++ pins, p.1 ≠ b) : Inv X pins σ H' s' := by
  obtain ⟨h', g', d', t', o'⟩ := s'
  have e : o' = s.os := ho
  subst e
  exact I.call (g' := g') (t' := t') (d' := d') u hok hg hch
end

noncomputable abbrev XK := Value → Option Addr → Hp → Prop
noncomputable abbrev St := List (Option V)
noncomputable abbrev VK := V → Hp → Prop
noncomputable abbrev TE := St → Hp → VK → Prop
noncomputable abbrev TT := St → Hp → (Bool → Hp → Prop) → Prop
noncomputable abbrev TA := St → Hp → (List V → Hp → Prop) → Prop
structure Ends where
  nx : St → Hp → Prop
  rt : VK
  bk : St → Hp → Prop := fun _ _ => False
  ct : St → Hp → Prop := fun _ _ => False
noncomputable abbrev TS := Ends → St → Hp → Prop

def EP (X : Cx) (pins : List (Addr × Obj)) (σ : St) (Q : VK) (u : Value) (s' : Shared) : Prop := ∃ v H', Inv X pins σ H' s' ∧ RelV v u ∧ Q v H'
def TP (X : Cx) (pins : List (Addr × Obj)) (σ : St) (Q : Bool → Hp → Prop) (b : Bool) (s' : Shared) : Prop := ∃ H', Inv X pins σ H' s' ∧ Q b H'
def AP (X : Cx) (pins : List (Addr × Obj)) (σ : St) (Q : List V → Hp → Prop) (us : List Value) (s' : Shared) : Prop := ∃ vs H', Inv X pins σ H' s' ∧ Vals vs us ∧ Q vs H'
def SP (X : Cx) (pins : List (Addr × Obj)) (D : Ends) (f : Flow) (s' : Shared) : Prop :=
  match f with
  | .next => ∃ σ' H', Inv X pins σ' H' s' ∧ D.nx σ' H'
  | .brk => ∃ σ' H', Inv X pins σ' H' s' ∧ D.bk σ' H'
  | .cont => ∃ σ' H', Inv X pins σ' H' s' ∧ D.ct σ' H'
  | .ret u => ∃ v σ' H', Inv X pins σ' H' s' ∧ RelV v u ∧ D.rt v H'

def PE (X : Cx) (e : Expr) (t : TE) : Prop :=
  ∀ (pins : List (Addr × Obj)) (s : Shared) (σ : St) (H : Hp) (Q : VK), Inv X pins σ H s → t σ H Q → wpAny (model X.prog X.w) X.A (eval e X.env) (EP X pins σ Q) X.xe s
def PT (X : Cx) (e : Expr) (t : TT) : Prop :=
  ∀ (pins : List (Addr × Obj)) (s : Shared) (σ : St) (H : Hp) (Q : Bool → Hp → Prop), Inv X pins σ H s → t σ H Q → wpAny (model X.prog X.w) X.A (isTrue e X.env (eval e X.env)) (TP X pins σ Q) X.xe s
def PW (X : Cx) (e : Expr) (t : TT) : Prop :=
  ∀ (whole : Sem Value) (pins : List (Addr × Obj)) (s : Shared) (σ : St) (H : Hp) (Q : Bool → Hp → Prop), Inv X pins σ H s → t σ H Q → wpAny (model X.prog X.w) X.A (isTrue e X.env whole) (TP X pins σ Q) X.xe s
theorem PW.pt {X : Cx} {e : Expr} {t : TT} (h : PW X e t) : PT X e t := h _
def PA (X : Cx) (es : List Expr) (t : TA) : Prop :=
  ∀ (pos : Pos) (pins : List (Addr × Obj)) (s : Shared) (σ : St) (H : Hp) (Q : List V → Hp → Prop), Inv X pins σ H s → t σ H Q → wpAny (model X.prog X.w) X.A (spliced (backTo pos (starEach es X.env))) (AP X pins σ Q) X.xe s
def PS (X : Cx) (st : Stmt) (t : TS) : Prop :=
  ∀ (pins : List (Addr × Obj)) (s : Shared) (σ : St) (H : Hp) (D : Ends), Inv X pins σ H s → t D σ H → wpAny (model X.prog X.w) X.A (exec st X.env) (SP X pins D) X.xe s
def PSs (X : Cx) (st : List Stmt) (t : TS) : Prop :=
  ∀ (pins : List (Addr × Obj)) (s : Shared) (σ : St) (H : Hp) (D : Ends), Inv X pins σ H s → t D σ H → wpAny (model X.prog X.w) X.A (execs st X.env) (SP X pins D) X.xe s
theorem thn {α : Type} {t : Sem α} {Q Q' : α → Shared → Prop} {M : Model} {A : Around} {E : Value → Shared → Prop} {s : Shared} (h : wpAny M A t Q E s) (hQ : ∀ a s, Q a s → Q' a s) : wpAny M A t Q' E s := wpAny_mono h hQ fun _ _ x => x
end L2

namespace L2
open PySem PySem.Spec PyProof.Rows
section
variable {X : Cx}

noncomputable def tVar (i : Nat) : TE := fun σ H Q => ∃ v, σ[i]? = some (some v) ∧ Q v H
noncomputable def tC (v : V) : TE := fun _ H Q => Q v H
theorem pe_var {i : Nat} {x : Str} {pos : Pos} (hN : X.N[i]? = some x) (hv : Vis X.env.scope x) (hd : (x == ("__debug__" : Str)) = false := by decide) (hcd : (x == ("__classdict__" : Str)) = false := by decide) : PE X (.Name x pos) (tVar i) := by
  intro pins s σ H Q I h
  obtain ⟨v, e, h⟩ := h
  obtain ⟨m, hn, hl⟩ := I.loc
  obtain ⟨u, r, l⟩ := hl i x v hN e hv
  have fin : EP X pins σ Q u s := ⟨v, H, I, r, h⟩
  rcases l with ⟨hk, hm⟩ | ⟨hk, c, hc, hcell⟩
  · exact wpAny_Name (wpAny_loadName_local I.ok.kind hk hn hm fin) hd
  · rcases hk with hk | hk
    · exact wpAny_Name (wpAny_loadName_cell I.ok.kind hk hc hcell fin) hd
    · exact wpAny_Name (wpAny_loadName_free I.ok.kind hk hc hcell fin hcd) hd
theorem pe_int {i j pos} : PE X (.Constant (.int i) j pos) (tC (.int i)) := fun _ _ _ H _ I h => wpAny_Constant_int ⟨.int i, H, I.tok _, ⟨_, rfl⟩, h⟩
theorem pe_bl {b j pos} : PE X (.Constant (.bool b) j pos) (tC (.bl b)) := fun _ _ _ H _ I h => Constant_bool ⟨.bl b, H, I, rfl, h⟩
theorem pe_str {x j pos} : PE X (.Constant (.str x) j pos) (tC (.str x)) := fun _ _ _ H _ I h => Calls.Constant_str ⟨.str x, H, I.tok _, ⟨_, rfl⟩, h⟩

def Gl (X : Cx) (x : Str) : Prop := X.env.kindOf x = some .globalImplicit
theorem ld_glob {E : Value → Shared → Prop} {pins : List (Addr × Obj)} {s : Shared} {σ : St} {H : Hp} {x : Str} {u : Value} {pos : Pos} {Q : Value → Shared → Prop} (I : Inv X pins σ H s) (hg : Gl X x) (hm : X.mg x = some u) (h : Q u s)
    (hd : (x == ("__debug__" : Str)) = false := by decide) : wpAny (model X.prog X.w) X.A (eval (.Name x pos) X.env) Q E s :=
  Calls.Name_function_global I.ok.kind hg (Calls.loadGlobal_global (by rw [I.ok.glob]; exact I.mod.glob.keeps I.bk) hm h) hd
theorem ld_blt {E : Value → Shared → Prop} {pins : List (Addr × Obj)} {s : Shared} {σ : St} {H : Hp} {x : Str} {u : Value} {pos : Pos} {Q : Value → Shared → Prop} (I : Inv X pins σ H s) (hg : Gl X x) (hm : X.mg x = none) (hv : bootBuiltins x = some u) (h : Q u s)
    (hn : x ≠ "__name__" := by decide) (hd : (x == ("__debug__" : Str)) = false := by decide) : wpAny (model X.prog X.w) X.A (eval (.Name x pos) X.env) Q E s := by
  obtain ⟨mb, h1, h2⟩ := I.mod.blt
  exact Calls.Name_function_global I.ok.kind hg (Calls.loadGlobal_builtin (by rw [I.ok.glob]; exact I.mod.glob.keeps I.bk) hm (by rw [I.ok.blt]; exact h1.keeps I.bk) ((h2 x hn).trans hv) h) hd
theorem pe_glob {x : Str} {v : V} {u : Value} {pos : Pos} (hg : Gl X x) (hm : X.mg x = some u) (r : RelV v u) (hd : (x == ("__debug__" : Str)) = false := by decide) : PE X (.Name x pos) (tC v) :=
  fun _ _ _ H _ I h => ld_glob I hg hm ⟨v, H, I, r, h⟩ hd
theorem pe_bltn {x : Str} {v : V} {u : Value} {pos : Pos} (hg : Gl X x) (hm : X.mg x = none) (hv : bootBuiltins x = some u) (r : RelV v u) (hn : x ≠ "__name__" := by decide) (hd : (x == ("__debug__" : Str)) = false := by decide) : PE X (.Name x pos) (tC v) :=
  fun _ _ _ H _ I h => ld_blt I hg hm hv ⟨v, H, I, r, h⟩ hn hd

variable {a b : Expr} {ta tb : TE} {pos : Pos}
def PC (X : Cx) (op : CmpOp) (a b : Expr) (t : TE) : Prop :=
  ∀ (pins : List (Addr × Obj)) (s : Shared) (σ : St) (H : Hp) (Q : VK), Inv X pins σ H s → t σ H Q →
    wpAny (model X.prog X.w) X.A (eval a X.env) (fun v s₁ => wpAny (model X.prog X.w) X.A (eval b X.env) (fun u s₂ => wpAny (model X.prog X.w) X.A (compareOp op v u) (EP X pins σ Q) X.xe s₂) X.xe s₁) X.xe s
theorem nobehind (b : Expr) {op : CmpOp} (h : op ≠ .In) (h2 : op ≠ .NotIn) : behindInMarks op b = false := by
  have e1 : (op == CmpOp.In) = false := by cases op <;> first | rfl | exact absurd rfl h
  have e2 : (op == CmpOp.NotIn) = false := by cases op <;> first | rfl | exact absurd rfl h2
  cases b <;> simp [behindInMarks, e1, e2]
noncomputable def tB (t : TE) : TT := fun σ H Q => t σ H fun x H1 => ∃ c, x = .bl c ∧ Q c H1
theorem pt_cmp {op : CmpOp} {t : TE} (h : PC X op a b t) (h1 : behindInMarks op b = false := by first | exact nobehind _ (by decide) (by decide) | rfl) : PT X (.Compare a [op] [b] pos) (tB t) := by
  intro pins s σ H Q I hw
  refine wpAny_isTrue_Compare1 (thn (h pins s σ H _ I hw) fun v s1 h1 => thn h1 fun u s2 h2 => thn h2 fun c s3 ⟨x, H1, I1, r1, q1⟩ => ?_) h1
  obtain ⟨d, rfl, q⟩ := q1
  cases r1
  exact wpAny_truthy_bool ⟨H1, I1, q⟩
theorem pt_val {e : Expr} {t : TE} (h : PE X e t) (he : ∀ whole, isTrue e X.env whole = (do let v ← whole; standAt e.pos; holding [v] (truthy v)) := by intro _; rfl) : PT X e (tB t) := by
  intro pins s σ H Q I hw
  refine isTrue_plain (thn (h pins s σ H _ I hw) fun v s1 ⟨x, H1, I1, r1, q1⟩ => ?_) (he _)
  obtain ⟨d, rfl, q⟩ := q1
  cases r1
  exact wpAny_truthy_bool ⟨H1, I1, q⟩

variable {tA tB' : TT} {rest : List Expr}
noncomputable def tAnd (t u : TT) : TT := fun σ H Q => t σ H fun c H1 => if c = true then u σ H1 Q else Q false H1
noncomputable def tOr (t u : TT) : TT := fun σ H Q => t σ H fun c H1 => if c = true then Q true H1 else u σ H1 Q
noncomputable def tNot (t : TT) : TT := fun σ H Q => t σ H fun c H1 => Q (!c) H1
theorem pw_and1 (ha : PT X a tA) : PW X (.BoolOp .And [a] pos) tA := by
  intro wh pins s σ H Q I h
  refine isTrue_and (thn (ha pins s σ H Q I h) fun c s1 e => ?_)
  cases c with
  | true => exact isTrue_and_nil e
  | false => exact e
theorem pw_or1 (ha : PT X a tA) : PW X (.BoolOp .Or [a] pos) tA := by
  intro wh pins s σ H Q I h
  refine isTrue_or (thn (ha pins s σ H Q I h) fun c s1 e => ?_)
  cases c with
  | false => exact isTrue_or_nil e
  | true => exact e
theorem pw_and (ha : PT X a tA) (hb : PW X (.BoolOp .And (b :: rest) pos) tB') : PW X (.BoolOp .And (a :: b :: rest) pos) (tAnd tA tB') := by
  intro wh pins s σ H Q I h
  refine isTrue_and (thn (ha pins s σ H _ I h) fun c s1 ⟨H1, I1, q1⟩ => ?_)
  cases c with
  | true => exact hb wh pins s1 σ H1 Q I1 q1
  | false => exact ⟨H1, I1, q1⟩
theorem pw_or (ha : PT X a tA) (hb : PW X (.BoolOp .Or (b :: rest) pos) tB') : PW X (.BoolOp .Or (a :: b :: rest) pos) (tOr tA tB') := by
  intro wh pins s σ H Q I h
  refine isTrue_or (thn (ha pins s σ H _ I h) fun c s1 ⟨H1, I1, q1⟩ => ?_)
  cases c with
  | true => exact ⟨H1, I1, q1⟩
  | false => exact hb wh pins s1 σ H1 Q I1 q1
theorem pt_not (ha : PT X a tA) : PT X (.UnaryOp .Not a pos) (tNot tA) := by
  intro pins s σ H Q I h
  exact isTrue_not (ha pins s σ H (fun c H1 => Q (!c) H1) I h)
noncomputable def tAndV (ta tb : TE) : TE := fun σ H Q => ta σ H fun x H1 => ∃ c, x = .bl c ∧ if c = true then tb σ H1 Q else Q (.bl false) H1
noncomputable def tNotV (ta : TE) : TE := fun σ H Q => ta σ H fun x H1 => ∃ c, x = .bl c ∧ Q (.bl (!c)) H1
theorem pe_one {op} {t : TE} (h : PE X a t) : PE X (.BoolOp op [a] pos) t := fun pins s σ H Q I hw => BoolOp_one (h pins s σ H Q I hw)
theorem pe_and (ha : PE X a ta) (hb : PE X (.BoolOp .And (b :: rest) pos) tb) : PE X (.BoolOp .And (a :: b :: rest) pos) (tAndV ta tb) := by
  intro pins s σ H Q I h
  refine BoolOp_and (thn (ha pins s σ H _ I h) fun v s1 ⟨x, H1, I1, r1, q1⟩ => ?_)
  obtain ⟨c, rfl, q1⟩ := q1
  cases r1
  refine wpAny_truthy_bool ?_
  cases c with
  | true => exact hb pins s1 σ H1 Q I1 q1
  | false => exact ⟨.bl false, H1, I1, rfl, q1⟩
theorem pe_not (ha : PE X a ta) : PE X (.UnaryOp .Not a pos) (tNotV ta) := by
  intro pins s σ H Q I h
  refine UnaryOp_ (thn (ha pins s σ H _ I h) fun v s1 ⟨x, H1, I1, r1, q1⟩ => ?_)
  obtain ⟨c, rfl, q1⟩ := q1
  cases r1
  exact not_of (wpAny_truthy_bool ⟨.bl (!c), H1, I1, rfl, q1⟩)
noncomputable def tIf (t : TT) (ta tb : TE) : TE := fun σ H Q => t σ H fun c H1 => if c = true then ta σ H1 Q else tb σ H1 Q
theorem pe_ifExp {c : Expr} (hc : PT X c tA) (ha : PE X a ta) (hb : PE X b tb) : PE X (.IfExp c a b pos) (tIf tA ta tb) := by
  intro pins s σ H Q I h
  refine wpAny_IfExp (thn (hc pins s σ H _ I h) fun d s1 ⟨H1, I1, q1⟩ => ?_)
  cases d with
  | true => exact ha pins s1 σ H1 Q I1 q1
  | false => exact hb pins s1 σ H1 Q I1 q1
end
end L2

namespace L2
open PySem PySem.Spec PyProof.Rows

def SqL (K : PySem.W.Frag) (H : Hp) (a : Addr) (xs : List V) : Prop :=
  Rd H a (.lst xs) ∨
    ∃ (o : Obj) (its : Array Value) (n : Nat), K.lookup a = some o ∧ o.cls = .type "list" ∧ o.dict = none ∧ o.data = .seq its n ∧ its.size ≤ sizeLine ∧ Vals xs its.toList
def SqT (K : PySem.W.Frag) (H : Hp) (a : Addr) (xs : List V) : Prop :=
  Rd H a (.tup xs) ∨
    ∃ (o : Obj) (its : Array Value) (n : Nat), K.lookup a = some o ∧ o.cls = .type "tuple" ∧ o.data = .seq its n ∧ its.size ≤ sizeLine ∧ Vals xs its.toList
noncomputable def absV : Value → Option V
  | .none => some .non
  | .bool b => some (.bl b)
  | .int i _ => some (.int i)
  | .str x _ => some (.str x)
  | .bytes b _ => some (.byt b)
  | .float b _ => some (.flt b)
  | .ref a => some (.ref a)
  | .type n => some (.ty n)
  | _ => none
theorem RelV.abs {x : V} {u : Value} (r : RelV x u) : absV u = some x := by
  cases x with
  | non => cases r; rfl
  | bl _ => cases r; rfl
  | int _ => obtain ⟨t, rfl⟩ := r; rfl
  | str _ => obtain ⟨t, rfl⟩ := r; rfl
  | byt _ => obtain ⟨t, rfl⟩ := r; rfl
  | flt _ => obtain ⟨t, rfl⟩ := r; rfl
  | ref _ => cases r; rfl
  | ty _ => cases r; rfl
theorem RelV.inj {x y : V} {u : Value} (r : RelV x u) (q : RelV y u) : x = y := Option.some.inj (r.abs.symm.trans q.abs)
theorem Vals.inj : ∀ {xs ys : List V} {us : List Value}, Vals xs us → Vals ys us → xs = ys
  | _, _, _, .nil, .nil => rfl
  | _, _, _, .cons r t, .cons r' t' => by rw [r.inj r', Vals.inj t t']
section
variable {X : Cx} {pins : List (Addr × Obj)} {σ : St} {H : Hp} {s : Shared} {a : Addr} {xs ys : List V}
theorem SqL.of {K : PySem.W.Frag} (h : H a = some (.lst xs)) : SqL K H a xs := .inl (.inl h)
theorem SqT.of {K : PySem.W.Frag} (h : H a = some (.tup xs)) : SqT K H a xs := .inl (.inl h)
theorem Inv.list (I : Inv X pins σ H s) (h : SqL X.K H a xs) : ∃ its : List Value, Vals xs its ∧ PlainL s.heap a its.toArray ∧ xs.length ≤ sizeLine := by
  rcases h with h | ⟨o, its, n, hk, hc, hd, hs, hz, r⟩
  · obtain ⟨z, its, n, r, e⟩ := h.ok I.hok
    exact ⟨its, r, ⟨_, n, e, rfl, rfl, rfl⟩, z⟩
  · refine ⟨its.toList, r, ⟨o, n, I.kIn a o hk, hc, hd, by simpa using hs⟩, ?_⟩
    have e := r.length
    simp only [Array.length_toList] at e
    omega
theorem Inv.tuple (I : Inv X pins σ H s) (h : SqT X.K H a xs) : ∃ its : List Value, Vals xs its ∧ IsTup s.heap a its.toArray ∧ xs.length ≤ sizeLine := by
  rcases h with h | ⟨o, its, n, hk, hc, hs, hz, r⟩
  · obtain ⟨z, its, r, p⟩ := h.ok I.hok
    exact ⟨its, r, p, z⟩
  · refine ⟨its.toList, r, ⟨o, I.kIn a o hk, hc, n, by simpa using hs⟩, ?_⟩
    have e := r.length
    simp only [Array.length_toList] at e
    omega
theorem Inv.list_inj (I : Inv X pins σ H s) (h : SqL X.K H a xs) (h' : SqL X.K H a ys) : xs = ys := by
  obtain ⟨its, r, ⟨o, n, e, _, _, d⟩, _⟩ := I.list h
  obtain ⟨its', r', ⟨o', n', e', _, _, d'⟩, _⟩ := I.list h'
  rw [e] at e'; cases e'
  rw [d] at d'
  injection d' with d1 _
  have : its = its' := by simpa using congrArg Array.toList d1
  subst this
  exact r.inj r'
theorem Inv.tuple_inj (I : Inv X pins σ H s) (h : SqT X.K H a xs) (h' : SqT X.K H a ys) : xs = ys := by
  obtain ⟨its, r, ⟨o, e, _, n, d⟩, _⟩ := I.tuple h
  obtain ⟨its', r', ⟨o', e', _, n', d'⟩, _⟩ := I.tuple h'
  rw [e] at e'; cases e'
  rw [d] at d'
  injection d' with d1 _
  have : its = its' := by simpa using congrArg Array.toList d1
  subst this
  exact r.inj r'
end

noncomputable abbrev Cx.wish (X : Cx) (E : Value → Shared → Prop) : Cx := { X with xe := E }
noncomputable abbrev Cx.nox (X : Cx) : Cx := X.wish fun _ _ => False
theorem Cx.Ok.wish {X : Cx} (ok : X.Ok) (E : Value → Shared → Prop) : (X.wish E).Ok :=
  ⟨ok.mod, ok.kind, ok.glob, ok.blt, ok.above, ok.inj, ok.has, ok.cab, ok.hd, ok.frames, ok.stk, ok.exf, ok.bs, ok.bsz, ok.noex, ok.exfs, ok.funs, ok.frf⟩
theorem Cx.Ok.unwish {X : Cx} {E : Value → Shared → Prop} (ok : (X.wish E).Ok) : X.Ok :=
  ⟨ok.mod, ok.kind, ok.glob, ok.blt, ok.above, ok.inj, ok.has, ok.cab, ok.hd, ok.frames, ok.stk, ok.exf, ok.bs, ok.bsz, ok.noex, ok.exfs, ok.funs, ok.frf⟩
section
variable {X : Cx} {pins : List (Addr × Obj)} {σ : St} {H : Hp} {s : Shared} {E : Value → Shared → Prop}
theorem Inv.wish (I : Inv X pins σ H s) (E : Value → Shared → Prop) : Inv (X.wish E) pins σ H s := ⟨I.ok.wish E, I.os, I.bare, I.base, I.loc, I.cell, I.free, I.freeC, I.pin, I.hok, I.len⟩
theorem Inv.unwish (I : Inv (X.wish E) pins σ H s) : Inv X pins σ H s := ⟨I.ok.unwish, I.os, I.bare, I.base, I.loc, I.cell, I.free, I.freeC, I.pin, I.hok, I.len⟩
theorem SP.unwish {D : Ends} {f : Flow} {s' : Shared} (h : SP (X.wish E) pins D f s') : SP X pins D f s' := by
  cases f with
  | next => obtain ⟨σ', H', I, q⟩ := h; exact ⟨σ', H', I.unwish, q⟩
  | brk => obtain ⟨σ', H', I, q⟩ := h; exact ⟨σ', H', I.unwish, q⟩
  | cont => obtain ⟨σ', H', I, q⟩ := h; exact ⟨σ', H', I.unwish, q⟩
  | ret u => obtain ⟨v, σ', H', I, r, q⟩ := h; exact ⟨v, σ', H', I.unwish, r, q⟩
theorem PE.nox {e : Expr} {t : TE} (h : PE X.nox e t) : PE X e t := fun pins s σ H Q I hw =>
  wpAny_mono (h pins s σ H Q (I.wish _) hw) (fun _ _ ⟨v, H', I', r, q⟩ => ⟨v, H', I'.unwish, r, q⟩) fun _ _ z => False.elim z
theorem PT.nox {e : Expr} {t : TT} (h : PT X.nox e t) : PT X e t := fun pins s σ H Q I hw =>
  wpAny_mono (h pins s σ H Q (I.wish _) hw) (fun _ _ ⟨H', I', q⟩ => ⟨H', I'.unwish, q⟩) fun _ _ z => False.elim z
theorem PSs.nox {st : List Stmt} {t : TS} (h : PSs X.nox st t) : PSs X st t := fun pins s σ H D I hw =>
  wpAny_mono (h pins s σ H D (I.wish _) hw) (fun _ _ q => q.unwish) fun _ _ z => False.elim z
end

section
variable {X : Cx} {st : Stmt} {rest : List Stmt} {t u : TS} {e : Expr} {te : TE} {pos : Pos}
noncomputable def tNext : TS := fun D σ H => D.nx σ H
noncomputable def tSeq (t u : TS) : TS := fun D σ H => t { D with nx := u D } σ H
theorem pss_nil : PSs X [] tNext := fun _ _ σ H _ I h => wpAny_execs_nil ⟨σ, H, I, h⟩
theorem pss_cons (h1 : PS X st t) (h2 : PSs X rest u) : PSs X (st :: rest) (tSeq t u) := by
  intro pins s σ H D I h
  refine wpAny_execs_cons (thn (h1 pins s σ H { D with nx := u D } I h) fun f s1 q => ?_)
  cases f with
  | next =>
    obtain ⟨σ', H', I', q⟩ := q
    exact h2 pins s1 σ' H' D I' q
  | ret v => exact q
  | brk => exact q
  | cont => exact q
theorem pss_one (h1 : PS X st t) : PSs X [st] t := by
  intro pins s σ H D I h
  refine wpAny_execs_cons (thn (h1 pins s σ H D I h) fun f s1 q => ?_)
  cases f with
  | next => exact wpAny_execs_nil q
  | ret v => exact q
  | brk => exact q
  | cont => exact q
theorem Inv.quiet {pins : List (Addr × Obj)} {σ : St} {H : Hp} {s : Shared} (I : Inv X pins σ H s) : interactive X.env = false := by simp [interactive, I.ok.kind]
noncomputable def tDrop (te : TE) : TS := fun D σ H => te σ H fun _ H1 => D.nx σ H1
theorem ps_expr (he : PE X e te) (hs : swapsWith e none pos.line X.env = pure false := by rfl) : PS X (.Expr e pos) (tDrop te) := by
  intro pins s σ H D I h
  exact wpAny_Expr_any (thn (he pins s σ H _ I h) fun v s1 ⟨x, H1, I1, r1, q1⟩ => ⟨σ, H1, I1, q1⟩) I.quiet hs
noncomputable def tRet (te : TE) : TS := fun D σ H => te σ H D.rt
theorem ps_ret (he : PE X e te) : PS X (.Return (some e) pos) (tRet te) := by
  intro pins s σ H D I h
  exact wpAny_Return_some (thn (he pins s σ H _ I h) fun v s1 ⟨x, H1, I1, r1, q1⟩ => ⟨x, σ, H1, I1, r1, q1⟩)
noncomputable def tIfS (c : TT) (t u : TS) : TS := fun D σ H => c σ H fun b H1 => if b = true then t D σ H1 else u D σ H1
theorem ps_if {c : Expr} {a b : List Stmt} {tc : TT} (hc : PT X c tc) (ha : PSs X a t) (hb : PSs X b u) : PS X (.If c a b pos) (tIfS tc t u) := by
  intro pins s σ H D I h
  refine wpAny_If (thn (hc pins s σ H _ I h) fun d s1 ⟨H1, I1, q1⟩ => ?_)
  cases d with
  | true => exact ha pins s1 σ H1 D I1 q1
  | false => exact hb pins s1 σ H1 D I1 q1
end

noncomputable abbrev TG := V → St → Hp → (St → Hp → Prop) → Prop
noncomputable abbrev TGs := List V → St → Hp → (St → Hp → Prop) → Prop
def PG (X : Cx) (target : Expr) (t : TG) : Prop :=
  ∀ (pins : List (Addr × Obj)) (s : Shared) (σ : St) (H : Hp) (v : V) (u : Value) (Q : St → Hp → Prop), Inv X pins σ H s → RelV v u → t v σ H Q →
    wpAny (model X.prog X.w) X.A (assign target X.env u) (fun _ s' => ∃ σ' H', Inv X pins σ' H' s' ∧ Q σ' H') X.xe s
def PGs (X : Cx) (ts : List Expr) (t : TGs) : Prop :=
  ∀ (pins : List (Addr × Obj)) (s : Shared) (σ : St) (H : Hp) (vs : List V) (us : List Value) (Q : St → Hp → Prop), Inv X pins σ H s → Vals vs us → t vs σ H Q →
    wpAny (model X.prog X.w) X.A (assignInOrder ((assignEach ts X.env).map (·.2)) us) (fun _ s' => ∃ σ' H', Inv X pins σ' H' s' ∧ Q σ' H') X.xe s
noncomputable abbrev TSet := V → V → V → Hp → (Hp → Prop) → Prop
def PSet (X : Cx) (t : TSet) : Prop :=
  ∀ (pins : List (Addr × Obj)) (s : Shared) (σ : St) (H : Hp) (o i v : V) (ov iv u : Value) (Q : Hp → Prop), Inv X pins σ H s → RelV o ov → RelV i iv → RelV v u → t o i v H Q →
    wpAny (model X.prog X.w) X.A (setItem ov iv u) (fun _ s' => ∃ H', Inv X pins σ H' s' ∧ Q H') X.xe s
section
variable {X : Cx} {pos : Pos}
noncomputable def gName (i : Nat) : TG := fun v σ H Q => Q (σ.set i (some v)) H
theorem pg_name {i : Nat} {x : Str} (hN : X.N.Nodup) (hi : X.N[i]? = some x) (hx : Loc X.env.scope x) (hf : X.fn x = true ∨ X.env.scope.names.lookup x = some .local := by first | exact .inl rfl | exact .inr rfl | assumption) : PG X (.Name x pos) (gName i) := by
  intro pins s σ H v u Q I r h
  exact wpAny_assign_Name (store_ok I hN hi hx r (fun s' I' => ⟨_, H, I', h⟩) hf)
noncomputable def gNil : TGs := fun vs σ H Q => vs = [] ∧ Q σ H
noncomputable def gCons (t : TG) (u : TGs) : TGs := fun vs σ H Q => ∃ v r, vs = v :: r ∧ t v σ H fun σ' H' => u r σ' H' Q
theorem pgs_nil : PGs X [] gNil := by
  intro pins s σ H vs us Q I r h
  obtain ⟨e, h⟩ := h
  subst e
  cases r
  exact assignInOrder_nil ⟨σ, H, I, h⟩
theorem pgs_cons {e : Expr} {es : List Expr} {t : TG} {u : TGs} (h1 : PG X e t) (h2 : PGs X es u)
    (hs : (assignEach (e :: es) X.env).map (·.2) = assign e X.env :: (assignEach es X.env).map (·.2) := by rfl) : PGs X (e :: es) (gCons t u) := by
  intro pins s σ H vs us Q I r h
  obtain ⟨v, vr, e1, h⟩ := h
  subst e1
  cases r with
  | cons r rr =>
    rw [hs]
    refine assignInOrder_cons (thn (h1 pins s σ H _ _ _ I r h) fun _ s1 ⟨σ1, H1, I1, q1⟩ => ?_)
    exact h2 pins s1 σ1 H1 _ _ Q I1 rr q1
noncomputable def gTup (K : PySem.W.Frag) (n : Nat) (t : TGs) : TG := fun v σ H Q => ∃ a xs, v = .ref a ∧ SqT K H a xs ∧ xs.length = n ∧ t xs σ H Q
theorem pg_tup {es : List Expr} {k : Nat} {t : TGs} {n : Nat} (hc : X.calm = true) (h : PGs X es t)
    (hn : (assignEach es X.env).length = n := by rfl) (hst : (assignEach es X.env).findIdx? (·.1) = none := by rfl) : PG X (.Tuple es k pos) (gTup X.K n t) := by
  intro pins s σ H v u Q I r hw
  obtain ⟨a, xs, e1, hq, hl, hw⟩ := hw
  subst e1
  cases r
  obtain ⟨its, rv, ht, hz⟩ := I.tuple hq
  refine assign_Tuple_tuple (I.ok.hd hc) ht (by simp [hn, ← hl, rv.length]) hst fun h' hx => ?_
  have I1 : Inv X pins σ H { s with heap := h' } := I.kept (t' := s.toks) fun b o e => hx b o (Nat.ne_of_lt (Heap.lt_size e)) e
  exact h pins _ σ H xs _ Q I1 (by simpa using rv) hw
noncomputable def gSub (to ti : TE) (t : TSet) : TG := fun v σ H Q => to σ H fun o H1 => ti σ H1 fun i H2 => t o i v H2 fun H3 => Q σ H3
theorem pg_sub {o i : Expr} {to ti : TE} {t : TSet} (ho : PE X o to) (hi : PE X i ti) (hs : PSet X t)
    (ha : ∀ v, assign (.Subscript o i pos) X.env v = (do
      let ov ← holding [v] (eval o X.env)
      let iv ← holding [v, ov] (eval i X.env)
      standAt pos
      holding [v, ov, iv] (setItem ov iv v)
      release [v, ov, iv] []) := by intro _; rfl) : PG X (.Subscript o i pos) (gSub to ti t) := by
  intro pins s σ H v u Q I r h
  rw [ha]
  refine wpAny_bind (wpAny_holding (thn (ho pins s σ H _ I h) fun ov s1 ⟨x, H1, I1, r1, q1⟩ => ?_))
  refine wpAny_bind (wpAny_holding (thn (hi pins s1 σ H1 _ I1 q1) fun iv s2 ⟨y, H2, I2, r2, q2⟩ => ?_))
  refine wpAny_bind (wpAny_standAt (wpAny_bind (wpAny_holding (thn (hs pins s2 σ H2 x y v ov iv u _ I2 r1 r2 r q2) fun _ s3 ⟨H3, I3, q3⟩ => ?_))))
  exact wpAny_release ⟨σ, H3, I3, q3⟩
noncomputable def tAsg (te : TE) (g : TG) : TS := fun D σ H => te σ H fun x H1 => g x σ H1 D.nx
theorem ps_asg {tg e : Expr} {te : TE} {g : TG} (he : PE X e te) (hg : PG X tg g) (hs : swapsWithSole [tg] e pos.line X.env = pure false := by rfl) (hw : swappedStores [tg] e X.env = pure none := by rfl)
    (h1 : (assignEach [tg] X.env).map (·.2) = [assign tg X.env] := by rfl) : PS X (.Assign [tg] e pos) (tAsg te g) := by
  intro pins s σ H D I h
  refine wpAny_Assign_stores (thn (he pins s σ H _ I h) fun v s1 ⟨x, H1, I1, r1, q1⟩ => ?_) hs hw
  rw [h1]
  exact thn (hg pins s1 σ H1 x v _ I1 r1 q1) fun _ s2 q => q
theorem ps_set {i : Nat} {x : Str} {e : Expr} {te : TE} {pos' : Pos} (hN : X.N.Nodup) (hi : X.N[i]? = some x) (hx : Loc X.env.scope x) (he : PE X e te) (hs : swapsWith e (some (.Name x pos')) pos.line X.env = pure false := by rfl) (hf : X.fn x = true ∨ X.env.scope.names.lookup x = some .local := by first | exact .inl rfl | exact .inr rfl | assumption) :
    PS X (.Assign [.Name x pos'] e pos) (tAsg te (gName i)) := by
  intro pins s σ H D I h
  refine wpAny_Assign_Name (thn (he pins s σ H _ I h) fun v s1 ⟨y, H1, I1, r1, q1⟩ => ?_) hs
  exact store_ok I1 hN hi hx r1 (fun s2 I2 => ⟨_, H1, I2, q1⟩) hf
end

section
variable {X : Cx} {pos : Pos}
end

structure It where
  go : Nat → Hp → Prop
  yld : Nat → Hp → V → Hp → Prop
  stop : Nat → Hp → Prop
def FpOk (X : Cx) (pins : List (Addr × Obj)) (H : Hp) (b : Addr) : Prop :=
  H b = none ∧ b ≠ X.env.locals ∧ b ∉ X.fs ∧ (b ∈ X.ex ∨ X.s₀.heap.objs.size ≤ b) ∧ (∀ x c, X.env.cells.lookup x = some c → c ≠ b) ∧ ∀ p ∈ X.pn ++ pins, p.1 ≠ b
theorem Inv.fpOk {X : Cx} {pins : List (Addr × Obj)} {σ : St} {H H' : Hp} {s : Shared} {b : Addr} (I : Inv X pins σ H s) (hb : s.heap.objs.size ≤ b) (hn : H' b = none) : FpOk X pins H' b := by
  refine ⟨hn, Nat.ne_of_gt (Nat.lt_of_lt_of_le I.lt hb), I.nofs hb, .inr (Nat.le_trans I.sz hb), fun x c e z => ?_, fun p hp z => ?_⟩
  · obtain ⟨v, q⟩ := I.cell x c e
    exact absurd (Nat.lt_of_lt_of_le q.lt (by rw [z]; exact hb)) (Nat.lt_irrefl _)
  · exact absurd (Nat.lt_of_lt_of_le (Heap.lt_size (I.pin p hp).1) (by rw [z]; exact hb)) (Nat.lt_irrefl _)
structure Turn (P : Program) (w : World) (K : PySem.W.Frag) (tg : Expr) (J : It) (fp : List Addr) (it : Addr) (tn : Nat → Heap → Prop) : Prop where
  mem : it ∈ fp
  obj : ∀ i h, tn i h → ∀ b ∈ fp, ∃ o, h.get? b = some o ∧ ∀ v, o.data ≠ .cell v
  keep : ∀ i h h', tn i h → (∀ b ∈ fp, ∀ o, h.get? b = some o → h'.get? b = some o) → tn i h'
  item : ∀ (X : Cx), X.prog = P → X.w = w → X.K = K → X.calm = true → ∀ (i : Nat) (pins : List (Addr × Obj)) (s : Shared) (σ : St) (H : Hp) (E : Value → Shared → Prop), Inv X pins σ H s → (∀ b ∈ fp, FpOk X pins H b) → tn i s.heap → J.go i H →
    wpAny (model P w) X.A (pyNext (.ref it)) (fun r s1 => ∃ u, r = some u ∧
      wpAny (model P w) X.A (letOwnedTupleGo tg (.ref it) u) (fun _ s2 => ∃ x H', Inv X pins σ H' s2 ∧ RelV x u ∧ J.yld i H x H' ∧ tn (i + 1) s2.heap ∧ ∀ b ∈ fp, H' b = none) E s1) E s
  done : ∀ (X : Cx), X.prog = P → X.w = w → X.K = K → X.calm = true → ∀ (i : Nat) (pins : List (Addr × Obj)) (s : Shared) (σ : St) (H : Hp) (E : Value → Shared → Prop), Inv X pins σ H s → (∀ b ∈ fp, FpOk X pins H b) → tn i s.heap → J.stop i H →
    wpAny (model P w) X.A (pyNext (.ref it)) (fun r s1 => r = none ∧ Inv X pins σ H s1) E s
  self : ∀ (A : Around) (i : Nat) (s : Shared) (Q : Value → Shared → Prop) (E : Value → Shared → Prop), tn i s.heap → Q (.ref it) s → wpAny (model P w) A (pyIter (.ref it)) Q E s
noncomputable abbrev TI := St → Hp → (It → Hp → Prop) → Prop
def PIE (X : Cx) (pins : List (Addr × Obj)) (σ : St) (tg : Expr) (R : It → Hp → Prop) (itv : Value) (s2 : Shared) : Prop :=
  ∃ (it : Addr) (fp : List Addr) (tn : Nat → Heap → Prop) (J : It) (H' : Hp), itv = .ref it ∧ Inv X pins σ H' s2 ∧ Turn X.prog X.w X.K tg J fp it tn ∧ tn 0 s2.heap ∧ (∀ b ∈ fp, FpOk X pins H' b) ∧ R J H'
def PI (X : Cx) (tg iter : Expr) (wi : TI) : Prop :=
  ∀ (pins : List (Addr × Obj)) (s : Shared) (σ : St) (H : Hp) (R : It → Hp → Prop), Inv X pins σ H s → wi σ H R →
    wpAny (model X.prog X.w) X.A (eval iter X.env) (fun v s1 => wpAny (model X.prog X.w) X.A (pyIter v) (PIE X pins σ tg R) X.xe s1) X.xe s

theorem go_of {M : Model} {A : Around} {E : Value → Shared → Prop} {s : Shared} {tg : Expr} {it : Addr} {u : Value} {o : Obj} {n : String} {vs : Array Value} {Q : Unit → Shared → Prop} (ho : s.heap.get? it = some o) (hc : o.cls = .type n) (hd : o.data = .fields vs)
    (hn : ["enumerate", "zip", "dict_itemiterator", "dict_reverseitemiterator", "odict_iterator", "itertools.zip_longest", "itertools.pairwise"].contains n = false) (hQ : Q () s) : wpAny M A (letOwnedTupleGo tg (.ref it) u) Q E s := by
  unfold letOwnedTupleGo
  cases tg <;> first
    | exact wpAny_pure hQ
    | (cases u <;> first
        | exact wpAny_pure hQ
        | (refine wpAny_bind (wpAny_load ho ?_)
           rw [hc, hd]
           show wpAny M A (if (["enumerate", "zip", "dict_itemiterator", "dict_reverseitemiterator", "odict_iterator", "itertools.zip_longest", "itertools.pairwise"].contains n && vs[0]? == some (rawInt _)) = true then _ else _) Q E s
           rw [if_neg (by intro h; rw [hn, Bool.false_and] at h; cases h)]
           exact wpAny_pure hQ))

noncomputable def Itl (K : PySem.W.Frag) (a : Addr) : It :=
  ⟨fun i H => ∃ xs x, SqL K H a xs ∧ xs[i]? = some x, fun i H x H' => H' = H ∧ ∀ xs, SqL K H a xs → xs[i]? = some x, fun i H => ∃ xs, SqL K H a xs ∧ xs.length ≤ i⟩
noncomputable def Itt (K : PySem.W.Frag) (a : Addr) : It :=
  ⟨fun i H => ∃ xs x, SqT K H a xs ∧ xs[i]? = some x, fun i H x H' => H' = H ∧ ∀ xs, SqT K H a xs → xs[i]? = some x, fun i H => ∃ xs, SqT K H a xs ∧ xs.length ≤ i⟩
noncomputable def Itr (lo : Int) (n : Nat) : It := ⟨fun i _ => i < n, fun i H x H' => H' = H ∧ x = .int (lo + i), fun i _ => n ≤ i⟩
theorem turn_list {P : Program} {w : World} {K : PySem.W.Frag} {tg : Expr} (a it : Addr) : Turn P w K tg (Itl K a) [it] it (fun i h => h.IsListIter it a i) where
  mem := by simp
  obj := fun i h st b hb => by
    have e : b = it := by simpa using hb
    subst e
    obtain ⟨o, e, c, d⟩ := st
    exact ⟨o, e, fun v z => by rw [d] at z; cases z⟩
  keep := fun i h h' st k => st.at fun o e => k it (by simp) o e
  item := by
    intro X hP hw hK hc i pins s σ H E I hf st hg
    subst hP hw hK
    obtain ⟨xs, x, hq, hx⟩ := hg
    obtain ⟨its, rv, p, hz⟩ := I.list hq
    obtain ⟨u, hu, ru⟩ := rv.get hx
    obtain ⟨f0, f1, f2, f3, f4, f5⟩ := hf it (by simp)
    refine wpAny_pyNext_list_item st p.isList (x := u) (by simpa using hu) fun h' st' sb => ?_
    have I1 : Inv X pins σ H { s with heap := h' } := I.turned (t' := s.toks) (fun b o hb e => (sb.2 b hb).trans e) f0 f1 f3 f4 f5
    obtain ⟨o, e, c, d⟩ := id st'
    exact ⟨u, rfl, go_of (s := { s with heap := h' }) e c d (by decide) ⟨x, H, I1, ru, ⟨rfl, fun ys hy => by rw [I.list_inj hy hq]; exact hx⟩, st', fun b hb => (hf b hb).1⟩⟩
  done := by
    intro X hP hw hK hc i pins s σ H E I hf st hg
    subst hP hw hK
    obtain ⟨xs, hq, hx⟩ := hg
    obtain ⟨its, rv, p, hz⟩ := I.list hq
    obtain ⟨f0, f1, f2, f3, f4, f5⟩ := hf it (by simp)
    have hl := rv.length
    exact wpAny_pyNext_list_end (I.ok.hd hc) st p.isList (by simp; omega) fun h' eb => ⟨rfl, I.turned (t' := s.toks) (fun b o hb e => eb b o hb e) f0 f1 f3 f4 f5⟩
  self := fun _ _ _ _ _ st h => wpAny_pyIter_listiter st h
theorem turn_tuple {P : Program} {w : World} {K : PySem.W.Frag} {tg : Expr} (a it : Addr) : Turn P w K tg (Itt K a) [it] it (fun i h => h.IsTupleIter it a i) where
  mem := by simp
  obj := fun i h st b hb => by
    have e : b = it := by simpa using hb
    subst e
    obtain ⟨o, e, c, d⟩ := st
    exact ⟨o, e, fun v z => by rw [d] at z; cases z⟩
  keep := fun i h h' st k => st.at fun o e => k it (by simp) o e
  item := by
    intro X hP hw hK hc i pins s σ H E I hf st hg
    subst hP hw hK
    obtain ⟨xs, x, hq, hx⟩ := hg
    obtain ⟨its, rv, p, hz⟩ := I.tuple hq
    obtain ⟨u, hu, ru⟩ := rv.get hx
    obtain ⟨f0, f1, f2, f3, f4, f5⟩ := hf it (by simp)
    refine wpAny_pyNext_tuple_item st (show s.heap.IsTuple a its.toArray from p) (x := u) (by simpa using hu) fun h' st' sb => ?_
    have I1 : Inv X pins σ H { s with heap := h' } := I.turned (t' := s.toks) (fun b o hb e => (sb.2 b hb).trans e) f0 f1 f3 f4 f5
    obtain ⟨o, e, c, d⟩ := id st'
    exact ⟨u, rfl, go_of (s := { s with heap := h' }) e c d (by decide) ⟨x, H, I1, ru, ⟨rfl, fun ys hy => by rw [I.tuple_inj hy hq]; exact hx⟩, st', fun b hb => (hf b hb).1⟩⟩
  done := by
    intro X hP hw hK hc i pins s σ H E I hf st hg
    subst hP hw hK
    obtain ⟨xs, hq, hx⟩ := hg
    obtain ⟨its, rv, p, hz⟩ := I.tuple hq
    obtain ⟨f0, f1, f2, f3, f4, f5⟩ := hf it (by simp)
    have hl := rv.length
    exact wpAny_pyNext_tuple_end (I.ok.hd hc) st (show s.heap.IsTuple a its.toArray from p) (by simp; omega) fun h' eb => ⟨rfl, I.turned (t' := s.toks) (fun b o hb e => eb b o hb e) f0 f1 f3 f4 f5⟩
  self := fun _ _ _ _ _ st h => wpAny_pyIter_tupleiter st h
theorem turn_range {P : Program} {w : World} {K : PySem.W.Frag} {tg : Expr} (it : Addr) (lo : Int) (n : Nat) : Turn P w K tg (Itr lo n) [it] it (fun i h => IsRangeIter h it (lo + (i : Nat) * 1) ((n : Int) - (i : Nat)) 1) where
  mem := by simp
  obj := fun i h st b hb => by
    have e : b = it := by simpa using hb
    subst e
    exact ⟨_, st, fun v z => by
      have z' : Data.fields _ = Data.cell v := z
      cases z'⟩
  keep := fun i h h' st k => k it (by simp) _ st
  item := by
    intro X hP hw hK hc i pins s σ H E I hf st hg
    subst hP hw hK
    obtain ⟨f0, f1, f2, f3, f4, f5⟩ := hf it (by simp)
    have W := Walks.range (prog := X.prog) (w := X.w) (I.ok.hd hc) it lo 1 n
    refine W.item i s _ _ hg st fun v h' tk hv st' kk => ?_
    obtain ⟨t, rfl⟩ := hv
    have I1 : Inv X pins σ H { s with heap := h', toks := tk } := I.turned (fun b o hb e => kk b o (by simpa using hb) e) f0 f1 f3 f4 f5
    refine ⟨_, rfl, go_of (s := { s with heap := h', toks := tk }) (n := "range_iterator") st' rfl rfl (by decide) ⟨.int (lo + i), H, I1, ⟨t, ?_⟩, ⟨rfl, rfl⟩, st', fun b hb => (hf b hb).1⟩⟩
    rw [Int.mul_one]
  done := by
    intro X hP hw hK hc i pins s σ H E I hf st hg
    subst hP hw hK
    obtain ⟨f0, f1, f2, f3, f4, f5⟩ := hf it (by simp)
    exact wpAny_pyNext_range_end (I.ok.hd hc) st (by have : n ≤ i := hg; omega) fun h' eb => ⟨rfl, I.turned (t' := s.toks) (fun b o hb e => eb b o hb e) f0 f1 f3 f4 f5⟩
  self := fun _ _ _ _ _ st h => wpAny_pyIter_rangeiter st h
end L2

namespace L2
open PySem PySem.Spec PyProof.Rows
section
variable {X : Cx} {tg : Expr}
noncomputable def iList (K : PySem.W.Frag) (tl : TE) : TI := fun σ H R => tl σ H fun x H1 => ∃ a, x = .ref a ∧ (∃ xs, SqL K H1 a xs) ∧ R (Itl K a) H1
noncomputable def iTup (K : PySem.W.Frag) (tl : TE) : TI := fun σ H R => tl σ H fun x H1 => ∃ a, x = .ref a ∧ (∃ xs, SqT K H1 a xs) ∧ R (Itt K a) H1
theorem pi_list {l : Expr} {tl : TE} (hl : PE X l tl) : PI X tg l (iList X.K tl) := by
  intro pins s σ H R I h
  refine thn (hl pins s σ H _ I h) fun v s1 ⟨x, H1, I1, r1, q1⟩ => ?_
  obtain ⟨a, e, ⟨xs, hq⟩, q⟩ := q1
  subst e
  cases r1
  obtain ⟨its, rv, p, hz⟩ := I1.list hq
  refine wpAny_pyIter_list p.isList ?_
  refine ⟨s1.heap.objs.size, [s1.heap.objs.size], _, _, H1, rfl, I1.kept (t' := s1.toks) fun b o e => Heap.get?_push_of_some _ e, turn_list a _, ⟨_, Heap.get?_push_size _ rfl, rfl, rfl⟩, fun b hb => ?_, q⟩
  have e : b = s1.heap.objs.size := by simpa using hb
  subst e
  exact I1.fpOk (Nat.le_refl _) (I1.hok.fresh (Nat.le_refl _))
theorem pi_tup {l : Expr} {tl : TE} (hl : PE X l tl) : PI X tg l (iTup X.K tl) := by
  intro pins s σ H R I h
  refine thn (hl pins s σ H _ I h) fun v s1 ⟨x, H1, I1, r1, q1⟩ => ?_
  obtain ⟨a, e, ⟨xs, hq⟩, q⟩ := q1
  subst e
  cases r1
  obtain ⟨its, rv, p, hz⟩ := I1.tuple hq
  refine wpAny_pyIter_tuple (show s1.heap.IsTuple a its.toArray from p) ?_
  refine ⟨s1.heap.objs.size, [s1.heap.objs.size], _, _, H1, rfl, I1.kept (t' := s1.toks) fun b o e => Heap.get?_push_of_some _ e, turn_tuple a _, ⟨_, Heap.get?_push_size _ rfl, rfl, rfl⟩, fun b hb => ?_, q⟩
  have e : b = s1.heap.objs.size := by simpa using hb
  subst e
  exact I1.fpOk (Nat.le_refl _) (I1.hok.fresh (Nat.le_refl _))
theorem range_it {pins : List (Addr × Obj)} {σ : St} {H : Hp} {s : Shared} {R : It → Hp → Prop} {E : Value → Shared → Prop} {lo hi : Int} {t u v : Tok} {tk : Nat} (I : Inv X pins σ H s) (h1 : -(2 ^ 62) ≤ lo) (h2 : lo < 2 ^ 62) (h3 : -(2 ^ 62) ≤ hi) (h4 : hi < 2 ^ 62)
    (q : R (Itr lo (hi - lo).toNat) H) : wpAny (model X.prog X.w) X.A (pyIter (.ref s.heap.objs.size)) (PIE X pins σ tg R) E { s with heap := s.heap.push { cls := .type "range", data := .fields #[.int lo t, .int hi u, .int 1 v] }, toks := tk } := by
  refine wpAny_pyIter_range (IsRange.new ..) (small_one h1 h2 h3 h4) ?_
  have I1 : Inv X pins σ H { s with heap := s.heap.push { cls := .type "range", data := .fields #[.int lo t, .int hi u, .int 1 v] }, toks := tk } := I.kept fun b o e => Heap.get?_push_of_some _ e
  refine ⟨(s.heap.push { cls := .type "range", data := .fields #[.int lo t, .int hi u, .int 1 v] }).objs.size, [(s.heap.push { cls := .type "range", data := .fields #[.int lo t, .int hi u, .int 1 v] }).objs.size], _, _, H, rfl,
    I1.kept (t' := tk) fun b o e => Heap.get?_push_of_some _ e, turn_range _ lo (hi - lo).toNat, ?_, fun b hb => ?_, q⟩
  · have e1 : lo + ((0 : Nat) : Int) * 1 = lo := by simp
    have e2 : (((hi - lo).toNat : Nat) : Int) - ((0 : Nat) : Int) = Builtin.Range.rangeSize lo hi 1 := by rw [rangeSize_one]; split <;> omega
    show IsRangeIter _ _ (lo + ((0 : Nat) : Int) * 1) ((((hi - lo).toNat : Nat) : Int) - ((0 : Nat) : Int)) 1
    rw [e1, e2]
    exact Heap.get?_push_size _ rfl
  · have e : b = (s.heap.push { cls := .type "range", data := .fields #[.int lo t, .int hi u, .int 1 v] }).objs.size := by simpa using hb
    subst e
    exact I1.fpOk (Nat.le_refl _) (I1.hok.fresh (Nat.le_refl _))
noncomputable def iRng1 (ta : TA) : TI := fun σ H R => ta σ H fun vs H1 => ∃ j : Int, vs = [.int j] ∧ -(2 ^ 62) ≤ j ∧ j < 2 ^ 62 ∧ R (Itr 0 j.toNat) H1
theorem pi_range1 {a : Expr} {ta : TA} {p pos : Pos} (hg : Gl X "range") (hm : X.mg "range" = none) (ha : PA X [a] ta) (hs : starEach [a] X.env = [(false, eval a X.env)] := by rfl) : PI X tg (.Call (.Name "range" p) [a] [] pos) (iRng1 ta) := by
  intro pins s σ H R I h
  refine Call_ (ld_blt I hg hm boot_range (PyProof.Rows.callWith_type1 (thn (ha pos pins s σ H _ I h) fun us s1 ⟨vs, H1, I1, r1, q1⟩ => ?_) hs rfl))
  obtain ⟨j, e, q1, q2, q⟩ := q1
  subst e
  cases r1 with
  | cons r rr =>
    cases rr
    obtain ⟨t, rfl⟩ := r
    exact call_range_1 (range_it I1 (by omega) (by omega) q1 q2 (by simpa using q))
noncomputable def tFor (wi : TI) (g : TG) (tb : TS) : TS := fun D σ H => wi σ H fun J H1 => ∃ W : Nat → Nat → St → Hp → Prop, (∃ m, W 0 m σ H1) ∧ ∀ i m σ H, W i m σ H →
  (J.stop i H ∧ D.nx σ H) ∨ (J.go i H ∧ ∃ N : St → Hp → Prop, (∀ σ' H', N σ' H' → ∃ m', m' < m ∧ W (i + 1) m' σ' H') ∧ ∀ x H', J.yld i H x H' → g x σ H' fun σ2 H2 => tb { D with nx := N, ct := N, bk := D.nx } σ2 H2)
noncomputable def pinsAt (fp : List Addr) (h : Heap) : List (Addr × Obj) := fp.filterMap fun b => (h.get? b).map fun o => (b, o)
theorem mem_pinsAt {fp : List Addr} {h : Heap} {b : Addr} {o : Obj} (hb : b ∈ fp) (e : h.get? b = some o) : (b, o) ∈ pinsAt fp h := List.mem_filterMap.mpr ⟨b, hb, by rw [e]; rfl⟩
theorem of_pinsAt {fp : List Addr} {h : Heap} {p : Addr × Obj} (hp : p ∈ pinsAt fp h) : p.1 ∈ fp ∧ h.get? p.1 = some p.2 := by
  obtain ⟨b, hb, e⟩ := List.mem_filterMap.mp hp
  cases q : h.get? b with
  | none => rw [q] at e; cases e
  | some o =>
    rw [q] at e
    have e' : (b, o) = p := Option.some.inj e
    subst e'
    exact ⟨hb, q⟩
theorem Inv.pinned {pins : List (Addr × Obj)} {σ : St} {H : Hp} {s : Shared} {fp : List Addr} (I : Inv X pins σ H s) (hf : ∀ b ∈ fp, FpOk X pins H b) (ho : ∀ b ∈ fp, ∃ o, s.heap.get? b = some o ∧ ∀ v, o.data ≠ .cell v) : Inv X (pins ++ pinsAt fp s.heap) σ H s :=
  I.pins_of fun p hp => (List.mem_append.mp hp).elim (fun z => I.pin p (List.mem_append_right _ z)) fun z => by
    obtain ⟨hb, e⟩ := of_pinsAt z
    obtain ⟨f0, f1, f2, _⟩ := hf p.1 hb
    obtain ⟨o, e', d⟩ := ho p.1 hb
    rw [e] at e'; cases e'
    exact ⟨e, f0, f1, f2, d⟩
theorem Inv.unpinned {pins pl : List (Addr × Obj)} {σ : St} {H : Hp} {s : Shared} (I : Inv X (pins ++ pl) σ H s) : Inv X pins σ H s := I.pins_of fun p hp => I.pin p (List.mem_append_right _ (List.mem_append_left _ hp))
theorem ps_for {iter : Expr} {body : List Stmt} {wi : TI} {g : TG} {tb : TS} {pos : Pos} (hp : PassesOwn (model X.prog X.w) X.A X.env X.xe) (hc : X.calm = true) (hi : PI X tg iter wi) (hg : PG X tg g) (hb : PSs X body tb)
    (hs : ∀ x, foldedSetIterable iter X.env x = pure x := by intro _; rfl) : PS X (.For tg iter body [] pos) (tFor wi g tb) := by
  intro pins s σ H D I h
  refine wpAny_For (thn (hi pins s σ H _ I h) fun v s1 h1 => thn h1 fun itv s2 h2 => ?_) hs
  obtain ⟨it, fp, tn, J, H2, e, I2, T, st2, f2, W, ⟨m0, w0⟩, turn⟩ := h2
  subst e
  -- what stays true of the iterator's objects through the loop
  have stat : ∀ {H' : Hp}, (∀ b ∈ fp, H' b = none) → ∀ b ∈ fp, FpOk X pins H' b := fun hn b hb => ⟨hn b hb, (f2 b hb).2⟩
  refine codeAny_forLoop_any (fun n s' => ∃ i σ' H', Inv X pins σ' H' s' ∧ tn i s'.heap ∧ (∀ b ∈ fp, H' b = none) ∧ W i n σ' H') ?_ m0 ⟨0, σ, H2, I2, st2, fun b hb => (f2 b hb).1, w0⟩
  rintro n s3 ⟨i, σ3, H3, I3, st3, fr3, w3⟩
  rcases turn i n σ3 H3 w3 with ⟨stop, qn⟩ | ⟨go, N, hN, step⟩
  · refine wpAny_passesOwn hp (thn (T.done X rfl rfl rfl hc i pins s3 σ3 H3 X.xe I3 (stat fr3) st3 stop) fun r s4 ⟨hr, I4⟩ => ?_)
    subst hr
    exact wpAny_execs_nil ⟨σ3, H3, I4, qn⟩
  · refine wpAny_passesOwn hp (thn (T.item X rfl rfl rfl hc i pins s3 σ3 H3 X.xe I3 (stat fr3) st3 go) fun r s4 ⟨u, hr, h4⟩ => ?_)
    subst hr
    refine wpAny_passesOwn hp (thn h4 fun _ s5 ⟨x, H5, I5, r5, y5, st5, fr5⟩ => ?_)
    have I5' := I5.pinned (stat fr5) (T.obj _ _ st5)
    refine wpAny_passesOwn hp (thn (hg _ s5 σ3 H5 x u _ I5' r5 (step x H5 y5)) fun _ s6 ⟨σ6, H6, I6, q6⟩ => ?_)
    refine wpAny_passesOwn hp (thn (hb _ s6 σ6 H6 _ I6 q6) fun f s7 q7 => ?_)
    have again : ∀ {σ7 : St} {H7 : Hp}, Inv X (pins ++ pinsAt fp s5.heap) σ7 H7 s7 → N σ7 H7 → ∃ m, m < n ∧ ∃ i σ' H', Inv X pins σ' H' s7 ∧ tn i s7.heap ∧ (∀ b ∈ fp, H' b = none) ∧ W i m σ' H' := fun {σ7 H7} I7 n7 => by
      obtain ⟨m', hm, w7⟩ := hN σ7 H7 n7
      refine ⟨m', hm, i + 1, σ7, H7, I7.unpinned, T.keep _ _ _ st5 fun b hb o e => (I7.pin (b, o) (List.mem_append_right _ (List.mem_append_right _ (mem_pinsAt hb e)))).1, fun b hb => ?_, w7⟩
      obtain ⟨o, e, d⟩ := T.obj _ _ st5 b hb
      exact (I7.pin (b, o) (List.mem_append_right _ (List.mem_append_right _ (mem_pinsAt hb e)))).2.1
    cases f with
    | next => obtain ⟨σ7, H7, I7, n7⟩ := q7; exact again I7 n7
    | cont => obtain ⟨σ7, H7, I7, n7⟩ := q7; exact again I7 n7
    | brk => obtain ⟨σ7, H7, I7, q7⟩ := q7; exact ⟨σ7, H7, I7.unpinned, q7⟩
    | ret v => obtain ⟨x7, σ7, H7, I7, r7, q7⟩ := q7; exact ⟨x7, σ7, H7, I7.unpinned, r7, q7⟩
end

end L2

namespace L2
open PySem PySem.Spec PyProof.Rows

noncomputable abbrev R2 := V → V → Hp → VK → Prop
def OpR (X : Cx) (f : Value → Value → Sem Value) (r : R2) : Prop :=
  ∀ (pins : List (Addr × Obj)) (s : Shared) (σ : St) (H : Hp) (x y : V) (v u : Value) (Q : VK), Inv X pins σ H s → RelV x v → RelV y u → r x y H Q →
    wpAny (model X.prog X.w) X.A (f v u) (EP X pins σ Q) X.xe s
def UnR (X : Cx) (f : Value → Sem Value) (r : V → Hp → VK → Prop) : Prop :=
  ∀ (pins : List (Addr × Obj)) (s : Shared) (σ : St) (H : Hp) (x : V) (v : Value) (Q : VK), Inv X pins σ H s → RelV x v → r x H Q →
    wpAny (model X.prog X.w) X.A (f v) (EP X pins σ Q) X.xe s
def CallR (X : Cx) (f : Value) (r : List V → Hp → VK → Prop) : Prop :=
  ∀ (pins : List (Addr × Obj)) (s : Shared) (σ : St) (H : Hp) (xs : List V) (us : List Value) (Q : VK), Inv X pins σ H s → Vals xs us → r xs H Q →
    wpAny (model X.prog X.w) X.A (call f us) (EP X pins σ Q) X.xe s
noncomputable def tOp (r : R2) (ta tb : TE) : TE := fun σ H Q => ta σ H fun x H1 => tb σ H1 fun y H2 => r x y H2 Q
noncomputable def tUn (r : V → Hp → VK → Prop) (ta : TE) : TE := fun σ H Q => ta σ H fun x H1 => r x H1 Q
noncomputable def rI (C : Int → Int → Prop) (g : Int → Int → V) : R2 := fun x y H Q => ∃ i j, x = .int i ∧ y = .int j ∧ C i j ∧ Q (g i j) H
noncomputable def rI0 (g : Int → Int → V) : R2 := fun x y H Q => ∃ i j, x = .int i ∧ y = .int j ∧ Q (g i j) H
noncomputable def rU (g : Int → V) : V → Hp → VK → Prop := fun x H Q => ∃ i, x = .int i ∧ Q (g i) H

section
variable {X : Cx} {a b c : Expr} {ta tb tc : TE} {pos : Pos}

theorem binT (ha : PE X a ta) (hb : PE X b tb) {pins : List (Addr × Obj)} {s : Shared} {σ : St} {H : Hp} {R : V → V → Hp → Prop} (I : Inv X pins σ H s)
    (h : ta σ H fun x H1 => tb σ H1 fun y H2 => R x y H2) {Q : Value → Shared → Prop} {f : Value → Value → Sem Value}
    (hf : ∀ v u s2 x y H2, Inv X pins σ H2 s2 → RelV x v → RelV y u → R x y H2 → wpAny (model X.prog X.w) X.A (f v u) Q X.xe s2) :
    wpAny (model X.prog X.w) X.A (eval a X.env) (fun v s₁ => wpAny (model X.prog X.w) X.A (eval b X.env) (fun u s₂ => wpAny (model X.prog X.w) X.A (f v u) Q X.xe s₂) X.xe s₁) X.xe s := by
  refine thn (ha pins s σ H _ I h) fun v s1 ⟨x, H1, I1, r1, q1⟩ => ?_
  refine thn (hb pins s1 σ H1 _ I1 q1) fun u s2 ⟨y, H2, I2, r2, q2⟩ => ?_
  exact hf v u s2 x y H2 I2 r1 r2 q2

theorem pe_op {op : Operator} {r : R2} (ho : OpR X (binaryOp op) r) (ha : PE X a ta) (hb : PE X b tb) : PE X (.BinOp a op b pos) (tOp r ta tb) := by
  intro pins s σ H Q I h
  exact wpAny_BinOp (binT ha hb I h fun v u s2 x y H2 I2 rx ry q => ho pins s2 σ H2 x y v u Q I2 rx ry q)
theorem pe_un {op : UnaryOp} {r : V → Hp → VK → Prop} (ho : UnR X (unaryOp op) r) (ha : PE X a ta) : PE X (.UnaryOp op a pos) (tUn r ta) := by
  intro pins s σ H Q I h
  exact UnaryOp_ (thn (ha pins s σ H _ I h) fun v s1 ⟨x, H1, I1, r1, q1⟩ => ho pins s1 σ H1 x v Q I1 r1 q1)
theorem opI {f : Value → Value → Sem Value} {C : Int → Int → Prop} {g : Int → Int → Int}
    (rule : ∀ (i j : Int) (t u : Tok) (s : Shared) (Q : Value → Shared → Prop) (E : Value → Shared → Prop), C i j → Q (.int (g i j) s.toks) { s with toks := s.toks + 1 } → wpAny (model X.prog X.w) X.A (f (.int i t) (.int j u)) Q E s) :
    OpR X f (rI C fun i j => .int (g i j)) := by
  intro pins s σ H x y v u Q I rx ry h
  obtain ⟨i, j, rfl, rfl, hc, q⟩ := h
  obtain ⟨t, rfl⟩ := rx
  obtain ⟨t', rfl⟩ := ry
  exact rule i j t t' s _ _ hc ⟨.int (g i j), H, I.tok _, ⟨_, rfl⟩, q⟩
theorem opI0 {f : Value → Value → Sem Value} {g : Int → Int → Int}
    (rule : ∀ (i j : Int) (t u : Tok) (s : Shared) (Q : Value → Shared → Prop) (E : Value → Shared → Prop), Q (.int (g i j) s.toks) { s with toks := s.toks + 1 } → wpAny (model X.prog X.w) X.A (f (.int i t) (.int j u)) Q E s) :
    OpR X f (rI0 fun i j => .int (g i j)) := by
  intro pins s σ H x y v u Q I rx ry h
  obtain ⟨i, j, rfl, rfl, q⟩ := h
  obtain ⟨t, rfl⟩ := rx
  obtain ⟨t', rfl⟩ := ry
  exact rule i j t t' s _ _ ⟨.int (g i j), H, I.tok _, ⟨_, rfl⟩, q⟩
theorem opB0 {f : Value → Value → Sem Value} {g : Int → Int → Bool}
    (rule : ∀ (i j : Int) (t u : Tok) (s : Shared) (Q : Value → Shared → Prop) (E : Value → Shared → Prop), Q (.bool (g i j)) s → wpAny (model X.prog X.w) X.A (f (.int i t) (.int j u)) Q E s) :
    OpR X f (rI0 fun i j => .bl (g i j)) := by
  intro pins s σ H x y v u Q I rx ry h
  obtain ⟨i, j, rfl, rfl, q⟩ := h
  obtain ⟨t, rfl⟩ := rx
  obtain ⟨t', rfl⟩ := ry
  exact rule i j t t' s _ _ ⟨.bl (g i j), H, I, rfl, q⟩

def CDiv (i j : Int) : Prop := 0 < j ∧ j < 1073741824
def CPow (i j : Int) : Prop := 0 ≤ j ∧ j ≤ 1000000 ∧ i.natAbs < 2 ^ 64
def CMul (i j : Int) : Prop := (-(2 ^ 64) < i ∧ i < 2 ^ 64) ∨ (-(2 ^ 64) < j ∧ j < 2 ^ 64)
theorem CMul.ok {i j : Int} (h : CMul i j) : IntMulOk i j := by
  rcases h with ⟨h1, h2⟩ | ⟨h1, h2⟩
  · exact .of_left (intBits_le_64 h1 h2)
  · exact .of_right (intBits_le_64 h1 h2)
theorem op_add : OpR X (binaryOp .Add) (rI0 fun i j => .int (i + j)) := opI0 fun _ _ _ _ _ _ _ q => add_int q
theorem op_sub : OpR X (binaryOp .Sub) (rI0 fun i j => .int (i - j)) := opI0 fun _ _ _ _ _ _ _ q => sub_int q
theorem op_mul : OpR X (binaryOp .Mult) (rI CMul fun i j => .int (i * j)) := opI fun _ _ _ _ _ _ _ hc q => mul_int q hc.ok
theorem op_fdiv : OpR X (binaryOp .FloorDiv) (rI CDiv fun i j => .int (i / j)) := opI fun i j _ _ _ _ _ hc q => by
  have h1 : (0 : Int) < j := hc.1
  have h2 : j < 1073741824 := hc.2
  exact floordiv_int (by omega) (by rw [Int.fdiv_eq_ediv_of_nonneg i (by omega)]; exact q) (.inl (PyProof.noPylong_small (by omega)))
theorem op_mod : OpR X (binaryOp .Mod) (rI (fun _ j => 0 < j) fun i j => .int (i % j)) := opI fun i j _ _ _ _ _ hc q => by
  have h1 : (0 : Int) < j := hc
  exact mod_int' (by omega) (by rw [Int.fmod_eq_emod_of_nonneg i (by omega)]; exact q)
theorem op_pow : OpR X (binaryOp .Pow) (rI CPow fun i j => .int (i ^ j.toNat)) := opI fun _ _ _ _ _ _ _ hc q => pow_int_small hc.1 hc.2.1 hc.2.2 q
theorem unI {f : Value → Sem Value} {g : Int → Int}
    (rule : ∀ (i : Int) (t : Tok) (s : Shared) (Q : Value → Shared → Prop) (E : Value → Shared → Prop), Q (.int (g i) s.toks) { s with toks := s.toks + 1 } → wpAny (model X.prog X.w) X.A (f (.int i t)) Q E s) :
    UnR X f (rU fun i => .int (g i)) := by
  intro pins s σ H x v Q I rx h
  obtain ⟨i, rfl, q⟩ := h
  obtain ⟨t, rfl⟩ := rx
  exact rule i t s _ _ ⟨.int (g i), H, I.tok _, ⟨_, rfl⟩, q⟩
theorem un_neg : UnR X (unaryOp .USub) (rU fun i => .int (-i)) := unI fun _ _ _ _ _ q => neg_int q
end

noncomputable def scal : V → V → Bool
  | .non, .non => true | .non, .int _ => true | .int _, .non => true | .non, .bl _ => true | .bl _, .non => true | .non, .str _ => true | .str _, .non => true
  | .int _, .int _ => true | .bl _, .bl _ => true | .str _, .str _ => true | .byt _, .byt _ => true
  | .int _, .str _ => true | .str _, .int _ => true | .bl _, .str _ => true | .str _, .bl _ => true
  | _, _ => false
noncomputable def rEq : R2 := fun x y H Q => scal x y = true ∧ Q (.bl (decide (x = y))) H
noncomputable def rNe : R2 := fun x y H Q => scal x y = true ∧ Q (.bl (!decide (x = y))) H

theorem dec_int {i j : Int} : decide (V.int i = V.int j) = (i == j) := by
  rw [Bool.eq_iff_iff]
  simp
theorem dec_bl {i j : Bool} : decide (V.bl i = V.bl j) = (i == j) := by
  rw [Bool.eq_iff_iff]
  simp
theorem dec_str {i j : Str} : decide (V.str i = V.str j) = (i == j) := by
  rw [Bool.eq_iff_iff]
  simp
theorem dec_byt {i j : Array UInt8} : decide (V.byt i = V.byt j) = (i.toList == j.toList) := by
  rw [Bool.eq_iff_iff]
  cases i
  cases j
  simp

section
variable {X : Cx} {a b c : Expr} {ta tb tc : TE} {pos : Pos}
theorem fin_bl {pins : List (Addr × Obj)} {σ : St} {H : Hp} {s : Shared} {Q : VK} {k k' : Bool} (I : Inv X pins σ H s) (q : Q (.bl k) H) (e : k = k') : EP X pins σ Q (.bool k') s := by
  subst e
  exact ⟨.bl k, H, I, rfl, q⟩
theorem op_eq : OpR X (compareOp .Eq) rEq := by
  intro pins s σ H x y v u Q I rx ry h
  obtain ⟨hs, q⟩ := h
  cases x with
  | non =>
    cases rx
    cases y with
    | non => cases ry; exact PySem.EqNone.eq_none_none (fin_bl I q (by simp))
    | bl j => cases ry; exact PySem.EqNone.eq_none_bool (fin_bl I q (by simp))
    | int j => obtain ⟨t', rfl⟩ := ry; exact PySem.EqNone.eq_none_int (fin_bl I q (by simp))
    | str j => obtain ⟨t', rfl⟩ := ry; exact PySem.EqNone.eq_none_str (fin_bl I q (by simp))
    | _ => exact absurd (show false = true from hs) Bool.false_ne_true
  | bl i =>
    cases rx
    cases y with
    | non => cases ry; exact PySem.EqNone.eq_bool_none (fin_bl I q (by simp))
    | bl j => cases ry; exact eq_bool (fin_bl I q dec_bl)
    | str j => obtain ⟨t', rfl⟩ := ry; exact PySem.EqMixed.eq_bool_str (fin_bl I q (by simp))
    | _ => exact absurd (show false = true from hs) Bool.false_ne_true
  | int i =>
    obtain ⟨t, rfl⟩ := rx
    cases y with
    | non => cases ry; exact PySem.EqNone.eq_int_none (fin_bl I q (by simp))
    | int j => obtain ⟨t', rfl⟩ := ry; exact eq_int (fin_bl I q dec_int)
    | str j => obtain ⟨t', rfl⟩ := ry; exact PySem.EqMixed.eq_int_str (fin_bl I q (by simp))
    | _ => exact absurd (show false = true from hs) Bool.false_ne_true
  | str i =>
    obtain ⟨t, rfl⟩ := rx
    cases y with
    | non => cases ry; exact PySem.EqNone.eq_str_none (fin_bl I q (by simp))
    | bl j => cases ry; exact PySem.EqMixed.eq_str_bool (fin_bl I q (by simp))
    | int j => obtain ⟨t', rfl⟩ := ry; exact PySem.EqMixed.eq_str_int (fin_bl I q (by simp))
    | str j => obtain ⟨t', rfl⟩ := ry; exact eq_str (fin_bl I q dec_str)
    | _ => exact absurd (show false = true from hs) Bool.false_ne_true
  | byt i =>
    obtain ⟨t, rfl⟩ := rx
    cases y with
    | byt j => obtain ⟨t', rfl⟩ := ry; exact PySem.W.eq_bytes (fin_bl I q dec_byt)
    | _ => exact absurd (show false = true from hs) Bool.false_ne_true
  | _ => cases y <;> exact absurd (show false = true from hs) Bool.false_ne_true
theorem op_ne : OpR X (compareOp .NotEq) rNe := by
  intro pins s σ H x y v u Q I rx ry h
  obtain ⟨hs, q⟩ := h
  cases x with
  | non =>
    cases rx
    cases y with
    | non => cases ry; exact PySem.EqNone.ne_none_none (fin_bl I q (by simp))
    | bl j => cases ry; exact PySem.EqNone.ne_none_bool (fin_bl I q (by simp))
    | int j => obtain ⟨t', rfl⟩ := ry; exact PySem.EqNone.ne_none_int (fin_bl I q (by simp))
    | str j => obtain ⟨t', rfl⟩ := ry; exact PySem.EqNone.ne_none_str (fin_bl I q (by simp))
    | _ => exact absurd (show false = true from hs) Bool.false_ne_true
  | bl i =>
    cases rx
    cases y with
    | non => cases ry; exact PySem.EqNone.ne_bool_none (fin_bl I q (by simp))
    | bl j => cases ry; exact ne_bool (fin_bl I q (congrArg not dec_bl))
    | str j => obtain ⟨t', rfl⟩ := ry; exact PySem.EqMixed.ne_bool_str (fin_bl I q (by simp))
    | _ => exact absurd (show false = true from hs) Bool.false_ne_true
  | int i =>
    obtain ⟨t, rfl⟩ := rx
    cases y with
    | non => cases ry; exact PySem.EqNone.ne_int_none (fin_bl I q (by simp))
    | int j => obtain ⟨t', rfl⟩ := ry; exact ne_int (fin_bl I q (congrArg not dec_int))
    | str j => obtain ⟨t', rfl⟩ := ry; exact PySem.EqMixed.ne_int_str (fin_bl I q (by simp))
    | _ => exact absurd (show false = true from hs) Bool.false_ne_true
  | str i =>
    obtain ⟨t, rfl⟩ := rx
    cases y with
    | non => cases ry; exact PySem.EqNone.ne_str_none (fin_bl I q (by simp))
    | bl j => cases ry; exact PySem.EqMixed.ne_str_bool (fin_bl I q (by simp))
    | int j => obtain ⟨t', rfl⟩ := ry; exact PySem.EqMixed.ne_str_int (fin_bl I q (by simp))
    | str j => obtain ⟨t', rfl⟩ := ry; exact ne_str (fin_bl I q (congrArg not dec_str))
    | _ => exact absurd (show false = true from hs) Bool.false_ne_true
  | byt i =>
    obtain ⟨t, rfl⟩ := rx
    cases y with
    | byt j => obtain ⟨t', rfl⟩ := ry; exact PySem.W.ne_bytes (fin_bl I q (congrArg not dec_byt))
    | _ => exact absurd (show false = true from hs) Bool.false_ne_true
  | _ => cases y <;> exact absurd (show false = true from hs) Bool.false_ne_true

theorem op_lt : OpR X (compareOp .Lt) (rI0 fun i j => .bl (decide (i < j))) := opB0 fun _ _ _ _ _ _ _ q => lt_int q
theorem op_le : OpR X (compareOp .LtE) (rI0 fun i j => .bl (decide (i ≤ j))) := opB0 fun _ _ _ _ _ _ _ q => le_int q
theorem op_gt : OpR X (compareOp .Gt) (rI0 fun i j => .bl (decide (j < i))) := opB0 fun _ _ _ _ _ _ _ q => gt_int q
theorem op_ge : OpR X (compareOp .GtE) (rI0 fun i j => .bl (decide (j ≤ i))) := opB0 fun _ _ _ _ _ _ _ q => ge_int q
theorem op_in_str : OpR X (compareOp .In) (fun x y H Q => ∃ i j, x = .str i ∧ y = .str j ∧ Q (.bl (!(Builtin.Str.occurrences j i 0 j.length 1).isEmpty)) H) := by
  intro pins s σ H x y v u Q I rx ry h
  obtain ⟨i, j, rfl, rfl, q⟩ := h
  obtain ⟨t, rfl⟩ := rx
  obtain ⟨t', rfl⟩ := ry
  exact in_str (fin_bl I q rfl)

theorem nomark (b : Expr) {op : CmpOp} (h : op ≠ .In := by decide) (h2 : op ≠ .NotIn := by decide) : behindInMarks op b = false := by
  have e1 : (op == CmpOp.In) = false := by cases op <;> first | rfl | exact absurd rfl h
  have e2 : (op == CmpOp.NotIn) = false := by cases op <;> first | rfl | exact absurd rfl h2
  cases b <;> simp [behindInMarks, e1, e2]
theorem pe_cmpR {op : CmpOp} {r : R2} (ho : OpR X (compareOp op) r) (ha : PE X a ta) (hb : PE X b tb) (hm : behindInMarks op b = false) : PE X (.Compare a [op] [b] pos) (tOp r ta tb) := by
  intro pins s σ H Q I h
  exact wpAny_Compare1 (binT ha hb I h fun v u s2 x y H2 I2 rx ry q => ho pins s2 σ H2 x y v u Q I2 rx ry q) hm
noncomputable def tTest (t : TE) : TT := fun σ H Q => t σ H fun x H' => ∃ k, x = .bl k ∧ Q k H'
theorem pt_cmpR {op : CmpOp} {r : R2} (ho : OpR X (compareOp op) r) (ha : PE X a ta) (hb : PE X b tb) (hm : behindInMarks op b = false) : PT X (.Compare a [op] [b] pos) (tTest (tOp r ta tb)) := by
  intro pins s σ H Q I h
  refine wpAny_isTrue_Compare1 (thn (ha pins s σ H _ I h) fun v s1 ⟨x, H1, I1, r1, q1⟩ => thn (hb pins s1 σ H1 _ I1 q1) fun u s2 ⟨y, H2, I2, r2, q2⟩ =>
    thn (ho pins s2 σ H2 x y v u _ I2 r1 r2 q2) fun c s3 ⟨z, H3, I3, r3, k, e, q3⟩ => ?_) hm
  subst e
  cases r3
  exact wpAny_truthy_bool ⟨H3, I3, q3⟩
noncomputable def tChain (r r' : R2) (ta tb tc : TE) : TE := fun σ H Q => ta σ H fun x H1 => tb σ H1 fun y H2 => r x y H2 fun z H3 => ∃ k, z = .bl k ∧
  (if k = true then tc σ H3 fun w' H4 => r' y w' H4 Q else Q (.bl false) H3)
theorem pe_chain {op op' : CmpOp} {r r' : R2} (ho : OpR X (compareOp op) r) (ho' : OpR X (compareOp op') r') (ha : PE X a ta) (hb : PE X b tb) (hc : PE X c tc)
    (hm : lastMarks [op, op'] [b, c] = false := by with_unfolding_all rfl) : PE X (.Compare a [op, op'] [b, c] pos) (tChain r r' ta tb tc) := by
  intro pins s σ H Q I h
  refine Compare_chain (thn (ha pins s σ H _ I h) fun v s1 ⟨x, H1, I1, r1, q1⟩ => chain_link (thn (hb pins s1 σ H1 _ I1 q1) fun u s2 ⟨y, H2, I2, r2, q2⟩ =>
    thn (ho pins s2 σ H2 x y v u _ I2 r1 r2 q2) fun d s3 ⟨z, H3, I3, r3, k, e, q3⟩ => ?_)) hm
  subst e
  cases r3
  refine wpAny_truthy_bool ?_
  cases k with
  | false => exact ite_ff ⟨.bl false, H3, I3, rfl, q3⟩
  | true => exact ite_tt (chain_last (thn (hc pins s3 σ H3 _ I3 q3) fun w' s4 ⟨z', H4, I4, r4, q4⟩ => ho' pins s4 σ H4 y z' u w' Q I4 r2 r4 q4))
theorem line63 : (sizeLine : Nat) < 2 ^ 63 := by rw [sizeLine_eq]; decide
theorem op_add_str : OpR X (binaryOp .Add) (fun x y H Q => ∃ i j, x = .str i ∧ y = .str j ∧ i.length + j.length ≤ sizeLine ∧ Q (.str (i ++ j)) H) := by
  intro pins s σ H x y v u Q I rx ry h
  obtain ⟨i, j, rfl, rfl, hz, q⟩ := h
  obtain ⟨t, rfl⟩ := rx
  obtain ⟨t', rfl⟩ := ry
  exact add_str (fun t' tk => ⟨.str (i ++ j), H, I.tok _, ⟨_, rfl⟩, q⟩) hz
theorem vals1 {x : V} {us : List Value} (r : Vals [x] us) : ∃ u, us = [u] ∧ RelV x u := by
  cases r with
  | cons r1 r2 => cases r2; exact ⟨_, rfl, r1⟩
theorem vals2 {x y : V} {us : List Value} (r : Vals [x, y] us) : ∃ u w', us = [u, w'] ∧ RelV x u ∧ RelV y w' := by
  cases r with
  | cons r1 r2 =>
    cases r2 with
    | cons r3 r4 => cases r4; exact ⟨_, _, rfl, r1, r3⟩
theorem call_int1 : CallR X (.type "int") (fun xs H Q => (∃ i, xs = [.int i] ∧ Q (.int i) H) ∨ ∃ k, xs = [.bl k] ∧ Q (.int (if k then 1 else 0)) H) := by
  intro pins s σ H xs us Q I r h
  rcases h with ⟨i, rfl, q⟩ | ⟨k, rfl, q⟩
  · obtain ⟨u, rfl, t, rfl⟩ := vals1 r
    exact call_int_int ⟨.int i, H, I, ⟨_, rfl⟩, q⟩
  · obtain ⟨u, rfl, r1⟩ := vals1 r
    cases r1
    exact call_int_bool ⟨.int (if k then 1 else 0), H, I.tok _, ⟨_, rfl⟩, q⟩
theorem call_str_int : CallR X (.type "str") (fun xs H Q => ∃ i, xs = [.int i] ∧ i.natAbs.log2 < 1920 ∧ Q (.str (toString i)) H) := by
  intro pins s σ H xs us Q I r h
  obtain ⟨i, rfl, hz, q⟩ := h
  obtain ⟨u, rfl, t, rfl⟩ := vals1 r
  exact PySem.P.str_of_int hz ⟨.str _, H, I.tok _, ⟨_, rfl⟩, q⟩
end
end L2

namespace L2
open PySem PySem.Spec PyProof.Rows

section
variable {prog : Program} {w : World} {A : Around} {E : Value → Shared → Prop} {s : Shared} {K : PySem.W.Frag} {x dx C f : Addr} {mA : Str → Option Value} {name : Str} {v : Value}

end

theorem RelO.some_of {v : V} {o : Option Value} (r : RelO (some v) o) : ∃ u, o = some u ∧ RelV v u := by
  cases o with
  | none => exact (show False from r).elim
  | some u => exact ⟨u, rfl, r⟩
section
variable {P : Program} {w : World} {H H' : Hp} {h h' : Heap} {a C dx : Addr} {fs fs' : List (Str × V)}
end

structure Cls (K : PySem.W.Frag) (C : Addr) : Prop where
  pg : PySem.W.plainGet K C Str.empty = true
  hd : PySem.W.hasDictIn K C = true
  po : PySem.W.plainOver K C = true
  sa : PySem.W.findIn K (.ref C) "__setattr__" = some (some (.builtin "object.__setattr__"))
theorem Cls.get {K : PySem.W.Frag} {C : Addr} (c : Cls K C) (f : Str) : PySem.W.plainGet K C f = true := c.pg
section
variable {X : Cx} {pins : List (Addr × Obj)} {σ : St} {H : Hp} {s : Shared} {a C dx : Addr} {fs : List (Str × V)} {f : Str} {v : V} {A : Around} {E : Value → Shared → Prop}

theorem Inv.made (I : Inv X pins σ H s) : Inv X pins σ (upd (upd H s.heap.objs.size (.own (s.heap.objs.size + 1))) (s.heap.objs.size + 1) (.ins C s.heap.objs.size []))
    { s with heap := (s.heap.push PySem.W.emptyDict).push (PySem.W.instObj C s.heap.objs.size) } := by
  have e1 : (s.heap.push PySem.W.emptyDict).get? s.heap.objs.size = some PySem.W.emptyDict := Heap.get?_push_size s.heap rfl
  have e2 : ((s.heap.push PySem.W.emptyDict).push (PySem.W.instObj C s.heap.objs.size)).get? (s.heap.objs.size + 1) = some (PySem.W.instObj C s.heap.objs.size) := by
    have := Heap.get?_push_size (s.heap.push PySem.W.emptyDict) (o := PySem.W.instObj C s.heap.objs.size) rfl
    rwa [Heap.size_push] at this
  have e3 : (s.heap.push PySem.W.emptyDict).Ns s.heap.objs.size (fun _ => none) := ⟨PySem.W.emptyDict, #[], _, e1, rfl, (fun e he => absurd he (by simp)), fun _ => rfl⟩
  have I1 := I.laid (a := s.heap.objs.size) (o := .own (s.heap.objs.size + 1)) (h' := s.heap.push PySem.W.emptyDict) (t' := s.toks) (fun b u q => Heap.get?_push_of_some _ q) (Nat.le_refl _) ⟨_, e1⟩
  refine I1.laid (a := s.heap.objs.size + 1) (o := .ins C s.heap.objs.size []) (t' := s.toks) (fun b u q => Heap.get?_push_of_some _ q) (Nat.le_of_eq (Heap.size_push _ _)) ?_
  have ne : s.heap.objs.size ≠ s.heap.objs.size + 1 := Nat.ne_of_lt (Nat.lt_succ_self _)
  refine ⟨by rw [upd_ne ne, upd_same], Nat.zero_le _, ne, e2, fun _ => none, (Heap.Ns1.of_empty e3).at fun o q => Heap.get?_push_of_some _ q, fun _ => True.intro, fun y hy => absurd rfl hy⟩

end

section
variable {X : Cx} {o e value : Expr} {f : Str} {pos pos' tpos : Pos} {ta tv : TE}
end

section
variable {X : Cx} {pins : List (Addr × Obj)} {σ : St} {H : Hp} {s : Shared} {A : Around} {E : Value → Shared → Prop} {Q : Value → Shared → Prop} {c : Value} {b : Bool}
inductive TyOf (K : PySem.W.Frag) (H : Hp) : V → Value → Prop where
  | non : TyOf K H .non (.type "NoneType")
  | bl (x : Bool) : TyOf K H (.bl x) (.type "bool")
  | int (i : Int) : TyOf K H (.int i) (.type "int")
  | str (x : Str) : TyOf K H (.str x) (.type "str")
  | flt (x : UInt64) : TyOf K H (.flt x) (.type "float")
  | lst {a : Addr} {xs : List V} (e : H a = some (.lst xs)) : TyOf K H (.ref a) (.type "list")
  | frz {a : Addr} {o : Obj} {xs : List V} (e : H a = some (.frz o (.lst xs))) : TyOf K H (.ref a) (.type "list")
  | tup {a : Addr} {xs : List V} (e : H a = some (.tup xs)) : TyOf K H (.ref a) (.type "tuple")
  | dK {a : Addr} {kvs : List (Key × V)} (e : H a = some (.dK kvs)) : TyOf K H (.ref a) (.type "dict")
  | dT {a : Addr} {kvs : List (List Key × V)} (e : H a = some (.dT kvs)) : TyOf K H (.ref a) (.type "dict")
  | ins {a C dx : Addr} {fs : List (Str × V)} (e : H a = some (.ins C dx fs)) (cl : Cls K C) (ha : PySem.W.findIn K (.ref C) "__class__" = some (some (.builtin "object.__class__")))
      (hn : PySem.W.specialIn K (.builtin "object.__class__") "__get__" = some (some (.builtin "getset_descriptor.__get__"))) (htk : PySem.W.takesIn K (.builtin "object.__class__") = some true)
      (hm : PySem.W.mroIn K C (.type "object") = some true) : TyOf K H (.ref a) (.ref C)
end
end L2

namespace L2
open PySem PySem.Spec PyProof.Rows

structure Room (k : Nat) (A : Around) : Prop where
  hd : A.handled = none
  dp : A.depth + 3 * k + 5 < recursionLimit
  un : A.units + 16 * k + 200 < cLine
theorem Room.mono {j k : Nat} {A : Around} (r : Room k A) (h : j ≤ k) : Room j A := ⟨r.hd, by have := r.dp; omega, by have := r.un; omega⟩
theorem Room.deeper {k : Nat} {A : Around} (r : Room (k + 1) A) (env : Env) : Room k (A.deeper env) :=
  ⟨r.hd, by have := r.dp; show A.depth + 1 + 3 * k + 5 < _; omega, by have := r.un; show A.units + 3 + 16 * k + 200 < _; omega⟩
theorem Room.in1 {k : Nat} {A : Around} (r : Room (k + 1) A) : Room k A.in1 :=
  ⟨r.hd, by have := r.dp; show A.depth + 3 * k + 5 < _; omega, by have := r.un; show A.units + 1 + 16 * k + 200 < _; omega⟩
theorem Room.depth {k : Nat} {A : Around} (r : Room k A) : A.depth < recursionLimit := by have := r.dp; omega
theorem Room.units {k : Nat} {A : Around} (r : Room k A) : A.units + 64 < cLine := by have := r.un; omega
noncomputable def tNil : TA := fun _ H Q => Q [] H
noncomputable def tCons (ta : TE) (tr : TA) : TA := fun σ H Q => ta σ H fun x H1 => tr σ H1 fun xs H2 => Q (x :: xs) H2
section
variable {X : Cx} {e : Expr} {es : List Expr} {te : TE} {t : TA} {pos : Pos}
theorem pa_nil : PA X [] tNil := fun _ _ _ _ H Q I h => Calls.spliced_nil ⟨[], H, I, .nil, h⟩
theorem pa_cons (ha : PE X e te) (hr : PA X es t) (hs : starEach (e :: es) X.env = (false, eval e X.env) :: starEach es X.env := by rfl) : PA X (e :: es) (tCons te t) := by
  intro pos pins s σ H Q I h
  rw [hs]
  show wpAny _ _ (spliced ((false, eval e X.env) :: backTo pos (starEach es X.env))) _ _ s
  refine Calls.spliced_cons (thn (ha pins s σ H _ I h) fun u s1 ⟨x, H1, I1, r1, q1⟩ => ?_)
  exact thn (hr pos pins s1 σ H1 _ I1 q1) fun us s2 ⟨xs, H2, I2, r2, q2⟩ => ⟨x :: xs, H2, I2, .cons r1 r2, q2⟩

noncomputable def tTup (t : TA) : TE := fun σ H Q => t σ H fun xs H1 => xs.length ≤ sizeLine ∧ ∀ p, H1 p = none → Q (.ref p) (upd H1 p (.tup xs))
noncomputable def tLst (t : TA) : TE := fun σ H Q => t σ H fun xs H1 => xs.length ≤ sizeLine ∧ ∀ p, H1 p = none → Q (.ref p) (upd H1 p (.lst xs))
theorem pe_tup {x1} (h : PA X es t) : PE X (.Tuple es x1 pos) (tTup t) := by
  intro pins s σ H Q I hq
  refine wpAny_Tuple_spliced (thn (h pos pins s σ H _ I hq) fun us s1 ⟨xs, H1, I1, r, z, q⟩ => ⟨by rw [← r.length]; exact z, ?_⟩)
  have hf : H1 s1.heap.objs.size = none := I1.hok.fresh (Nat.le_refl _)
  refine ⟨.ref s1.heap.objs.size, upd H1 s1.heap.objs.size (.tup xs), I1.laid (t' := s1.toks) (fun b u e => Heap.get?_push_of_some _ e) (Nat.le_refl _) ?_, rfl, q _ hf⟩
  exact ⟨z, us, r, ⟨_, Heap.get?_push_size _ rfl, rfl, _, rfl⟩⟩
theorem pe_lst (h : PA X es t) : PE X (.List es pos) (tLst t) := by
  intro pins s σ H Q I hq
  refine wpAny_List_spliced (thn (h pos pins s σ H _ I hq) fun us s1 ⟨xs, H1, I1, r, z, q⟩ => ⟨by rw [← r.length]; exact z, ?_⟩)
  have hf : H1 s1.heap.objs.size = none := I1.hok.fresh (Nat.le_refl _)
  refine ⟨.ref s1.heap.objs.size, upd H1 s1.heap.objs.size (.lst xs), I1.laid (t' := s1.toks) (fun b u e => Heap.get?_push_of_some _ e) (Nat.le_refl _) ?_, rfl, q _ hf⟩
  exact ⟨z, us, 0, r, Heap.get?_push_size _ rfl⟩
end

noncomputable abbrev Sp := List V → Hp → VK → XK → Prop
noncomputable abbrev CXT := List Env → Hp → Shared → XK → Value → Shared → Prop

structure Env0 (P : Program) (w : World) (K : PySem.W.Frag) (mg : Str → Option Value) (base : Heap) (A : Around) (outer : List Env) (s : Shared) (H : Hp) : Prop where
  frames : A.frames = some outer
  mod : Mod K mg base
  bs : ∀ b o, base.get? b = some o → s.heap.get? b = some o ∧ H b = none
  bsz : base.objs.size ≤ s.heap.objs.size
  funs : s.heap.FunFrames base outer
  frf : ∀ b ∈ frs outer, H b = none
  hok : HOk P w H s.heap
  bare : AllBare s.gens
def CE (outer : List Env) (P : Program) (w : World) (H : Hp) (s : Shared) (Q : VK) (u : Value) (s' : Shared) : Prop :=
  ∃ v H', s'.os = s.os ∧ AllBare s'.gens ∧ Un (frs outer) [] H H' s.heap s'.heap ∧ HOk P w H' s'.heap ∧ RelV v u ∧ Q v H'
def CR (CX : CXT) (outer : List Env) (P : Program) (w : World) (H : Hp) (s : Shared) (Q : VK) (E : XK) (r : Result) (s' : Shared) : Prop :=
  match r with
  | .ok (.ret u) => CE outer P w H s Q u s'
  | .ok _ => False
  | .error e => CX outer H s E e s'
structure FnOk (P : Program) (w : World) (K : PySem.W.Frag) (mg : Str → Option Value) (base : Heap) (CX : CXT) (k : Nat) (f : Addr) (fd : FuncData) (ps : List Str) (sp : Sp) : Prop where
  len : ∀ vs H Q E, sp vs H Q E → vs.length = ps.length
  run : ∀ (A : Around) (outer : List Env) (s : Shared) (H : Hp) (args : Args) (us : List Value) (vs : List V) (Q : VK) (E : XK), Room k A → Env0 P w K mg base A outer s H → BindsTo s fd args (ps.zip us) → Vals vs us → sp vs H Q E →
    codeAny (model P w) A (.call (.ref f) args) (CR CX outer P w H s Q E) s
theorem FnOk.mono {P : Program} {w : World} {K : PySem.W.Frag} {mg : Str → Option Value} {base : Heap} {CX : CXT} {j k : Nat} {f : Addr} {fd : FuncData} {ps : List Str} {sp : Sp} (F : FnOk P w K mg base CX j f fd ps sp) (h : j ≤ k) :
    FnOk P w K mg base CX k f fd ps sp := ⟨F.len, fun A outer s H args us vs Q E hr => F.run A outer s H args us vs Q E (hr.mono h)⟩
theorem FnOk.imp {P : Program} {w : World} {K : PySem.W.Frag} {mg : Str → Option Value} {base : Heap} {CX : CXT} {k : Nat} {f : Addr} {fd : FuncData} {ps : List Str} {sp sp' : Sp} (F : FnOk P w K mg base CX k f fd ps sp)
    (h : ∀ vs H Q E, sp' vs H Q E → sp vs H Q E) : FnOk P w K mg base CX k f fd ps sp' :=
  ⟨fun vs H Q E q => F.len vs H Q E (h _ _ _ _ q), fun A outer s H args us vs Q E hr he hb hv hs => F.run A outer s H args us vs Q E hr he hb hv (h _ _ _ _ hs)⟩

theorem Env0.in1 {P : Program} {w : World} {K : PySem.W.Frag} {mg : Str → Option Value} {base : Heap} {A : Around} {outer : List Env} {s : Shared} {H : Hp} (e : Env0 P w K mg base A outer s H) :
    Env0 P w K mg base A.in1 outer s H := ⟨e.frames, e.mod, e.bs, e.bsz, e.funs, e.frf, e.hok, e.bare⟩

section
variable {X : Cx} {pins : List (Addr × Obj)} {σ : St} {H : Hp} {s s' : Shared}
theorem Inv.env0 (I : Inv X pins σ H s) : Env0 X.prog X.w X.K X.mg X.base X.A X.stack s H :=
  ⟨I.ok.frames, I.ok.mod, I.bs, Nat.le_trans I.ok.bsz I.sz, I.stack, I.stkFree, I.hok, I.bare⟩
theorem Inv.after {Q : VK} {u : Value} (I : Inv X pins σ H s) (h : CE X.stack X.prog X.w H s Q u s') : EP X pins σ Q u s' := by
  obtain ⟨v, H', os, bare, un, hok, r, q⟩ := h
  obtain ⟨hh, g, d, t, os'⟩ := s'
  obtain rfl : os' = s.os := os
  exact ⟨v, H', I.call (h' := hh) (g' := g) (d' := d) (t' := t) (ch := []) un hok bare (fun b z => absurd z (by simp)), r, q⟩
end

noncomputable def tCall (sp : Sp) (dvs : List V) (E : XK) (t : TA) : TE := fun σ H Q => t σ H fun vs H1 => sp (vs ++ dvs) H1 Q E
def Binds (K : PySem.W.Frag) (fd : FuncData) (ps : List Str) (ds : List Value) : Prop :=
  ∀ (s : Shared) (us : List Value), K.In s.heap → (us ++ ds).length = ps.length → BindsTo s fd ⟨us, []⟩ (ps.zip (us ++ ds))
theorem Binds.all {K : PySem.W.Frag} {fd : FuncData} {ps : List Str} (h : ∀ us : List Value, us.length = ps.length → bindArgs fd ⟨us, []⟩ = pure (ps.zip us)) : Binds K fd ps [] := fun s us _ hl => by
  rw [List.append_nil] at hl ⊢
  exact .of_eq (h us hl)

def Passes (CX : CXT) (X : Cx) (E : XK) : Prop := ∀ (pins : List (Addr × Obj)) (σ : St) (H : Hp) (s : Shared) (e : Value) (s' : Shared), Inv X pins σ H s → CX X.stack H s E e s' → X.xe e s'

section
variable {X : Cx} {CX : CXT} {k : Nat} {f C : Addr} {fd : FuncData} {ps : List Str} {sp : Sp} {dvs : List V} {ds : List Value} {E : XK} {x m : Str} {p pos apos : Pos} {e o : Expr} {es : List Expr} {ta : TE} {t : TA}

theorem run_fn {pins : List (Addr × Obj)} {σ : St} {H : Hp} {s : Shared} {Q : VK} {us : List Value} {vs : List V} (F : FnOk X.prog X.w X.K X.mg X.base CX k f fd ps sp) (hr : Room k X.A) (hb : Binds X.K fd ps ds) (hd : Vals dvs ds) (hx : Passes CX X E)
    (I : Inv X pins σ H s) (r : Vals vs us) (h : sp (vs ++ dvs) H Q E) : wpAny (model X.prog X.w) X.A (call (.ref f) us) (EP X pins σ Q) X.xe s := by
  have r2 : Vals (vs ++ dvs) (us ++ ds) := r.append hd
  have hl : (us ++ ds).length = ps.length := by rw [← r2.length]; exact F.len _ _ _ _ h
  refine wpAny_call (codeAny_mono (F.run X.A X.stack s H ⟨us, []⟩ (us ++ ds) (vs ++ dvs) Q E hr I.env0 (hb s us I.kIn hl) r2 h) fun r s' hq => ?_)
  cases r with
  | error e => exact hx pins σ H s e s' I hq
  | ok fl =>
    cases fl with
    | ret u => exact I.after hq
    | next => exact False.elim hq
    | brk => exact False.elim hq
    | cont => exact False.elim hq

theorem pe_call (F : FnOk X.prog X.w X.K X.mg X.base CX k f fd ps sp) (hr : Room k X.A) (hg : Gl X x) (hm : X.mg x = some (.ref f)) (hk : PySem.W.keepIn X.K (.ref f) = true) (hb : Binds X.K fd ps ds) (hd : Vals dvs ds) (hx : Passes CX X E)
    (ha : PA X (e :: es) t) (hdb : (x == ("__debug__" : Str)) = false := by decide) (he : starEach (e :: es) X.env = (false, eval e X.env) :: starEach es X.env := by rfl) (hpl : (backTo pos (starEach es X.env)).any (·.1) = false := by rfl) :
    PE X (.Call (.Name x p) (e :: es) [] pos) (tCall sp dvs E t) := by
  intro pins s σ H Q I h
  refine wpAny_Call_Name_kw (ld_glob I hg hm ?_ hdb)
  refine PySem.W.callWith_K (h₀ := X.base) I.ok.mod.kin hk (thn (ha pos pins s σ H _ I h) fun us s1 ⟨vs, H1, I1, r, q⟩ => ⟨I1.kIn, ?_⟩) he hpl
  exact run_fn F hr hb hd hx I1 r q
end

section
variable {X : Cx} {CX : CXT} {k : Nat} {f C : Addr} {fd : FuncData} {ps ks : List Str} {sp : Sp} {E : XK} {x m : Str} {p pos apos kpos : Pos} {e o : Expr} {es : List Expr} {kws : List Keyword} {te ta : TE} {t tk : TA} {nm : Option Str}
variable {g : List Value → List Value → List Value} {gV : List V → List V → List V}
end

structure FnScope (N P : List Str) (sc : Scope) : Prop where
  kind : sc.kind = .function
  co : sc.isCoroutine = false
  gen : sc.isGenerator = false
  nd : N.Nodup
  pre : N.take P.length = P
  par : ∀ x ∈ P, sc.names.lookup x = some .local ∨ sc.names.lookup x = some .cell
  nofree : ∀ y ∈ sc.names, y.2 ≠ .free

theorem bindL_out {kindOf : Str → Option NameKind} {x : Str} : ∀ {binds : List (Str × Value)} {m : Str → Option Value}, (∀ v, (x, v) ∉ binds) → bindL kindOf binds m x = m x
  | [], _, _ => rfl
  | (n, v) :: r, m, h => by
    unfold bindL
    rw [bindL_out fun w hw => h w (List.mem_cons_of_mem _ hw)]
    split
    · have : x ≠ n := by rintro rfl; exact h v List.mem_cons_self
      simp [this]
    · rfl
theorem bindC_out {kindOf : Str → Option NameKind} {x : Str} : ∀ {binds : List (Str × Value)} {m : Str → Option Value}, (∀ v, (x, v) ∉ binds) → bindC kindOf binds m x = m x
  | [], _, _ => rfl
  | (n, v) :: r, m, h => by
    unfold bindC
    rw [bindC_out fun w hw => h w (List.mem_cons_of_mem _ hw)]
    split
    · rfl
    · have : x ≠ n := by rintro rfl; exact h v List.mem_cons_self
      simp [this]
theorem bindL_get {kindOf : Str → Option NameKind} {x : Str} {v : Value} : ∀ {P : List Str} {vs : List Value} {i : Nat} {m : Str → Option Value}, P.Nodup → P[i]? = some x → vs[i]? = some v → kindOf x = some .local →
    bindL kindOf (P.zip vs) m x = some v
  | [], _, _, _, _, h, _, _ => by simp at h
  | _ :: _, [], _, _, _, _, h, _ => by simp at h
  | p :: P, w :: vs, 0, m, nd, h1, h2, hk => by
    simp at h1 h2; subst h1; subst h2
    show bindL kindOf ((p, w) :: P.zip vs) m p = _
    unfold bindL
    rw [bindL_out fun v hv => (List.nodup_cons.mp nd).1 (List.of_mem_zip hv).1, if_pos hk]
    simp
  | p :: P, w :: vs, i + 1, m, nd, h1, h2, hk => by
    show bindL kindOf ((p, w) :: P.zip vs) m x = _
    unfold bindL
    exact bindL_get (i := i) (List.nodup_cons.mp nd).2 (by simpa using h1) (by simpa using h2) hk
theorem bindC_get {kindOf : Str → Option NameKind} {x : Str} {v : Value} : ∀ {P : List Str} {vs : List Value} {i : Nat} {m : Str → Option Value}, P.Nodup → P[i]? = some x → vs[i]? = some v → kindOf x ≠ some .local →
    bindC kindOf (P.zip vs) m x = some v
  | [], _, _, _, _, h, _, _ => by simp at h
  | _ :: _, [], _, _, _, _, h, _ => by simp at h
  | p :: P, w :: vs, 0, m, nd, h1, h2, hk => by
    simp at h1 h2; subst h1; subst h2
    show bindC kindOf ((p, w) :: P.zip vs) m p = _
    unfold bindC
    rw [bindC_out fun v hv => (List.nodup_cons.mp nd).1 (List.of_mem_zip hv).1, if_neg hk]
    simp
  | p :: P, w :: vs, i + 1, m, nd, h1, h2, hk => by
    show bindC kindOf ((p, w) :: P.zip vs) m x = _
    unfold bindC
    exact bindC_get (i := i) (List.nodup_cons.mp nd).2 (by simpa using h1) (by simpa using h2) hk

noncomputable def start (N : List Str) (vs : List V) : St := vs.map some ++ List.replicate (N.length - vs.length) none

noncomputable def cxOf (CX : CXT) (P : Program) (w : World) (K : PySem.W.Frag) (mg : Str → Option Value) (base : Heap) (N : List Str) (qual : Str) (scope : Scope) (f : Addr) (cd : Value) (A : Around) (outer : List Env) (s : Shared) (H : Hp) (E : XK) : Cx where
  prog := P
  w := w
  K := K
  mg := mg
  base := base
  A := A.deeper (envOfC qual scope s.heap.objs.size f cd)
  N := N
  s₀ := s
  H₀ := H
  env := envOfC qual scope s.heap.objs.size f cd
  outer := outer
  stack := envOfC qual scope s.heap.objs.size f cd :: outer
  ex := []
  calm := true
  fn := fun _ => true
  pn := []
  xe := fun e s' => wpAny (model P w) (A.deeper (envOfC qual scope s.heap.objs.size f cd)) (leaving (envOfC qual scope s.heap.objs.size f cd) e) (fun _ s'' => CX outer H s E e s'') (fun e' s'' => CX outer H s E e' s'') s'

theorem cell_has {sc : Scope} {n : Nat} {x : Str} (h : sc.names.lookup x = some .cell) : ∃ c, (cellsFrom n sc.names []).lookup x = some c := by
  have q := PySem.W.cellsFrom_some sc.names n [] (.inl h)
  exact Option.isSome_iff_exists.mp q

theorem inv_start {CX : CXT} {P : Program} {w : World} {K : PySem.W.Frag} {mg : Str → Option Value} {base : Heap} {N ps : List Str} {qual : Str} {scope : Scope} {f : Addr} {cd : Value} {A : Around} {outer : List Env} {s s1 : Shared} {H : Hp} {E : XK} {us : List Value} {vs : List V}
    (S : FnScope N ps scope) (hd : A.handled = none) (e0 : Env0 P w K mg base A outer s H) (hl : vs.length = ps.length) (r : Vals vs us)
    (x : InCallC s s.heap.objs.size (bindL (envOfC qual scope s.heap.objs.size f cd).kindOf (ps.zip us) fun _ => none) (cellsFrom (s.heap.objs.size + 1) scope.names []) (bindC (envOfC qual scope s.heap.objs.size f cd).kindOf (ps.zip us) fun _ => none) s1) :
    Inv (cxOf CX P w K mg base N qual scope f cd A outer s H E) [] (start N vs) H s1 := by
  have hpl : ps.length ≤ N.length := by have := congrArg List.length S.pre; rw [List.length_take] at this; omega
  obtain ⟨h1, tk, rfl, hk⟩ := x.done
  have noA : ∀ b : Addr, b ∉ (cxOf CX P w K mg base N qual scope f cd A outer s H E).ex := fun b z => absurd (show b ∈ ([] : List Addr) from z) (by simp)
  refine ⟨⟨e0.mod, S.kind, rfl, rfl, Nat.le_refl _, fun y z c h1 h2 => ?_, fun y hy => ?_, fun y c _ h => ?_, fun _ => hd, Around.frames_deeper e0.frames, .inr ⟨rfl, rfl⟩, fun b z => absurd z (noA b), e0.bs, e0.bsz, fun b _ _ => noA b, fun b z => absurd z (noA b), e0.funs, e0.frf⟩,
    rfl, e0.bare, Un.kept hk, ⟨_, x.toInCall.ns, fun i y v h1 h2 h3 => ?_⟩, fun y c h => ⟨_, x.cell y c h⟩, e0.hok.fresh (Nat.le_refl _), fun y c h => ?_, fun p hp => absurd (show p ∈ ([] : List (Addr × Obj)) from hp) (by simp), e0.hok.kept hk, ?_⟩
  · exact name_of_addr x.apart (PySem.mem_of_lookup h1) (PySem.mem_of_lookup h2)
  · have hy : scope.names.lookup y = some .cell ∨ scope.names.lookup y = some .free := hy
    rcases hy with hy | hy
    · exact cell_has hy
    · exact absurd rfl (S.nofree _ (PySem.mem_of_lookup hy))
  · exact Nat.le_of_lt (x.above y c (PySem.mem_of_lookup h))
  · have hi : i < vs.length := by
      unfold start at h2
      by_cases hi : i < vs.length
      · exact hi
      · rw [List.getElem?_append_right (by simpa using hi)] at h2
        rw [List.getElem?_replicate] at h2
        split at h2 <;> cases h2
    have ha : vs[i]? = some v := by
      unfold start at h2
      rw [List.getElem?_append_left (by simpa using hi), List.getElem?_map] at h2
      cases e : vs[i]? with
      | none => rw [e] at h2; cases h2
      | some a => rw [e] at h2; cases h2; rfl
    obtain ⟨u, hu, rv⟩ := r.get ha
    have hp : ps[i]? = some y := by
      rw [← S.pre, List.getElem?_take_of_lt (by omega)]; exact h1
    have ndP : ps.Nodup := by rw [← S.pre]; exact S.nd.sublist (List.take_sublist _ _)
    refine ⟨u, rv, ?_⟩
    rcases S.par y (List.mem_of_getElem? hp) with k | k
    · exact .inl ⟨k, bindL_get ndP hp hu k⟩
    · obtain ⟨c, e⟩ := cell_has (n := s.heap.objs.size + 1) k
      refine .inr ⟨.inl k, c, e, ?_⟩
      have q := x.cell y c e
      rw [bindC_get ndP hp hu (by show scope.names.lookup y ≠ _; rw [k]; decide)] at q
      exact q
  · exact e0.hok.fresh (Nat.le_of_lt (x.above y c (PySem.mem_of_lookup h)))
  · unfold start
    show _ = N.length
    rw [List.length_append, List.length_map, List.length_replicate]
    omega

theorem fn_of {CX : CXT} {P : Program} {w : World} {K : PySem.W.Frag} {mg : Str → Option Value} {base : Heap} {k : Nat} {f : Addr} {name qual : Str} {params : Arguments} {body : List Stmt} {scope : Scope} {dV kV doc pm cdv ct oc : Value} {an od : Option Addr}
    {osl : Array (Option Value)} {N ps : List Str} {sp : Sp} (lk : K.lookup f = some ⟨oc, od, .func (PySem.W.fnOf name qual params body scope dV kV doc pm an cdv ct), osl⟩) (hcd : PySem.W.codeIn K cdv qual = true) (S : FnScope N ps scope)
    (len : ∀ vs H Q E, sp vs H Q E → vs.length = ps.length)
    (hbody : ∀ (A : Around) (outer : List Env) (s : Shared) (H : Hp) (vs : List V) (Q : VK) (E : XK), Room k (A.deeper (envOfC qual scope s.heap.objs.size f cdv)) → sp vs H Q E →
      ∃ t, PSs (cxOf CX P w K mg base N qual scope f cdv A outer s H E) body t ∧ t { nx := fun _ H' => Q .non H', rt := Q } (start N vs) H) :
    FnOk P w K mg base CX (k + 1) f (PySem.W.fnOf name qual params body scope dV kV doc pm an cdv ct) ps sp := by
  refine ⟨len, fun A outer s H args us vs Q E hr e0 hb r hsp => ?_⟩
  have hl := len _ _ _ _ hsp
  have KX : K.In s.heap := e0.mod.kin.keeps fun b o e => (e0.bs b o e).1
  have lim : s.heap.NoLimit := e0.mod.nolimit.keeps fun b o e => (e0.bs b o e).1
  have hkind : ∀ y ∈ ps.zip us, scope.names.lookup y.1 = some .local ∨ (scope.names.lookup y.1 = some .cell ∧ ((cellsFrom (s.heap.objs.size + 1) scope.names []).lookup y.1).isSome = true) := fun ⟨n, v⟩ hy => by
    rcases S.par n (List.of_mem_zip hy).1 with q | q
    · exact .inl q
    · exact .inr ⟨q, PySem.W.cellsFrom_some _ _ _ (.inl q)⟩
  refine codeAny_call_function hr.depth (KX _ _ lk) rfl S.co S.gen rfl (PySem.W.codeRec_of KX hcd) (hb _ _ _ _ ?_)
  refine wpAny_newFunctionEnv_cells S.kind hkind fun env he s1 x => ?_
  subst he
  refine ⟨lim.keeps x.toInCall.keep, codeAny_func ?_⟩
  obtain ⟨t, ht, hq⟩ := hbody A outer s H vs Q E (hr.deeper _) hsp
  have I : Inv (cxOf CX P w K mg base N qual scope f cdv A outer s H E) [] (start N vs) H s1 := inv_start S hr.hd e0 hl r x
  refine wpAny_mono (ht [] s1 (start N vs) H _ I hq) (fun fl s' hs => ?_) fun e s' hs => hs
  have fin : ∀ {σ' : St} {H' : Hp} {v : V} {u : Value}, Inv (cxOf CX P w K mg base N qual scope f cdv A outer s H E) [] σ' H' s' → RelV v u → Q v H' → CE outer P w H s Q u s' :=
    fun {σ' H' v u} J rv q => ⟨v, H', J.os, J.bare, J.base, J.hok, rv, q⟩
  cases fl with
  | ret u =>
    obtain ⟨v, σ', H', J, rv, q⟩ := hs
    exact fin J rv q
  | next =>
    obtain ⟨σ', H', J, q⟩ := hs
    exact fin (v := V.non) (u := Value.none) J rfl q
  | brk =>
    obtain ⟨_, _, _, q⟩ := hs
    exact False.elim q
  | cont =>
    obtain ⟨_, _, _, q⟩ := hs
    exact False.elim q
end L2

namespace L2
open PySem PySem.Spec PyProof.Rows
section
variable {X : Cx} {x : Str} {p pos : Pos} {e : Expr} {es : List Expr} {t : TA} {id T : String} {r : List V → Hp → VK → Prop}

noncomputable def tCB (r : List V → Hp → VK → Prop) (t : TA) : TE := fun σ H Q => t σ H fun vs H1 => r vs H1 Q
theorem pe_callB (hc : CallR X (.builtin id) r) (hg : Gl X x) (hm : X.mg x = none) (hv : bootBuiltins x = some (.builtin id)) (ha : PA X (e :: es) t) (hn : x ≠ "__name__" := by decide) (hdb : (x == ("__debug__" : Str)) = false := by decide)
    (he : starEach (e :: es) X.env = (false, eval e X.env) :: starEach es X.env := by rfl) (hpl : (backTo pos (starEach es X.env)).any (·.1) = false := by rfl) : PE X (.Call (.Name x p) (e :: es) [] pos) (tCB r t) := by
  intro pins s σ H Q I h
  refine wpAny_Call_Name_kw (ld_blt I hg hm hv ?_ hn hdb)
  exact PyProof.Rows.callWith_builtin1 (thn (ha pos pins s σ H _ I h) fun us s1 ⟨vs, H1, I1, r1, q1⟩ => hc pins s1 σ H1 vs us Q I1 r1 q1) he hpl
theorem pe_callTy (hc : CallR X (.type T) r) (hg : Gl X x) (hm : X.mg x = none) (hv : bootBuiltins x = some (.type T)) (ha : PA X (e :: es) t) (hn : x ≠ "__name__" := by decide) (hdb : (x == ("__debug__" : Str)) = false := by decide)
    (he : starEach (e :: es) X.env = (false, eval e X.env) :: starEach es X.env := by rfl) (hpl : (backTo pos (starEach es X.env)).any (·.1) = false := by rfl) : PE X (.Call (.Name x p) (e :: es) [] pos) (tCB r t) := by
  intro pins s σ H Q I h
  refine wpAny_Call_Name_kw (ld_blt I hg hm hv ?_ hn hdb)
  exact PyProof.Rows.callWith_type1 (thn (ha pos pins s σ H _ I h) fun us s1 ⟨vs, H1, I1, r1, q1⟩ => hc pins s1 σ H1 vs us Q I1 r1 q1) he hpl
end
end L2

namespace L2
open PySem PySem.Spec PyProof.Rows

section
variable {κ : Type} [DecidableEq κ]
noncomputable def valV (kvs : List (κ × V)) (k : κ) : Option V := (kvs.find? fun kv => decide (kv.1 = k)).map (·.2)
noncomputable def putK (kvs : List (κ × V)) (k : κ) (v : V) : List (κ × V) :=
  if (kvs.any fun kv => decide (kv.1 = k)) = true then kvs.map (fun kv => if kv.1 = k then (kv.1, v) else kv) else kvs ++ [(k, v)]
noncomputable def dropK (kvs : List (κ × V)) (k : κ) : List (κ × V) := kvs.filter fun kv => decide (kv.1 ≠ k)

theorem valV_pos {p : κ × V} {r : List (κ × V)} {k : κ} (e : p.1 = k) : valV (p :: r) k = some p.2 := by simp [valV, List.find?_cons, e]
theorem valV_neg {p : κ × V} {r : List (κ × V)} {k : κ} (e : ¬ p.1 = k) : valV (p :: r) k = valV r k := by simp [valV, List.find?_cons, e]
theorem valV_any (k : κ) : ∀ kvs : List (κ × V), (kvs.any fun kv => decide (kv.1 = k)) = (valV kvs k).isSome
  | [] => rfl
  | p :: r => by
    rw [List.any_cons]
    by_cases e : p.1 = k
    · simp only [valV_pos e, decide_eq_true e, Bool.true_or, Option.isSome_some]
    · rw [valV_neg e, decide_eq_false e, Bool.false_or]; exact valV_any k r
theorem length_putK (kvs : List (κ × V)) (k : κ) (v : V) : (putK kvs k v).length ≤ kvs.length + 1 := by
  unfold putK
  split
  · rw [List.length_map]; omega
  · rw [List.length_append, List.length_cons, List.length_nil]; omega
theorem RelO.isSome_eq {o : Option V} {u : Option Value} (r : RelO o u) : o.isSome = u.isSome := by
  cases o with
  | none => cases u with
    | none => rfl
    | some _ => exact (show False from r).elim
  | some _ => cases u with
    | none => exact (show False from r).elim
    | some _ => rfl
theorem RelO.getD {o : Option V} {u : Option Value} {d : V} {d' : Value} (r : RelO o u) (rd : RelV d d') : RelV (o.getD d) (u.getD d') := by
  cases o with
  | none => cases u with
    | none => exact rd
    | some _ => exact (show False from r).elim
  | some _ => cases u with
    | none => exact (show False from r).elim
    | some _ => exact r

theorem KV.val {kvs : List (κ × V)} {vs : List (κ × Value)} (r : KV kvs vs) (k : κ) : RelO (valV kvs k) (valueAt vs k) := by
  unfold KV at r
  induction r with
  | nil => exact True.intro
  | @cons p q ps qs h t ih =>
    obtain ⟨h1, h2⟩ := h
    by_cases e : p.1 = k
    · have e' : q.1 = k := h1.symm.trans e
      have b : valueAt (q :: qs) k = some q.2 := by simp [valueAt, List.find?_cons, e']
      rw [valV_pos e, b]; exact h2
    · have e' : ¬ q.1 = k := fun z => e (h1.trans z)
      have b : valueAt (q :: qs) k = valueAt qs k := by simp [valueAt, List.find?_cons, e']
      rw [valV_neg e, b]; exact ih
theorem KV.any {kvs : List (κ × V)} {vs : List (κ × Value)} (r : KV kvs vs) (k : κ) : (kvs.any fun kv => decide (kv.1 = k)) = vs.any fun kv => decide (kv.1 = k) := by
  unfold KV at r
  induction r with
  | nil => rfl
  | cons h t ih => rw [List.any_cons, List.any_cons, ih, h.1]
theorem KV.repl {kvs : List (κ × V)} {vs : List (κ × Value)} (r : KV kvs vs) (k : κ) {y : V} {u : Value} (ry : RelV y u) :
    KV (kvs.map fun kv => if kv.1 = k then (kv.1, y) else kv) (vs.map fun kv => if kv.1 = k then (kv.1, u) else kv) := by
  unfold KV at r ⊢
  induction r with
  | nil => exact .nil
  | @cons p q ps qs h t ih =>
    rw [List.map_cons, List.map_cons]
    refine .cons ?_ ih
    obtain ⟨h1, h2⟩ := h
    by_cases e : p.1 = k
    · rw [if_pos e, if_pos (h1.symm.trans e)]; exact ⟨h1, ry⟩
    · rw [if_neg e, if_neg (fun z => e (h1.trans z))]; exact ⟨h1, h2⟩
theorem KV.put {kvs : List (κ × V)} {vs : List (κ × Value)} (r : KV kvs vs) (k : κ) {y : V} {u : Value} (ry : RelV y u) : KV (putK kvs k y) (stored vs k u) := by
  unfold putK stored
  rw [r.any k]
  by_cases e : (vs.any fun kv => decide (kv.1 = k)) = true
  · rw [if_pos e, if_pos e]; exact r.repl k ry
  · rw [if_neg e, if_neg e]; exact Paired.snoc r ⟨rfl, ry⟩
theorem KV.drop {kvs : List (κ × V)} {vs : List (κ × Value)} (r : KV kvs vs) (k : κ) : KV (dropK kvs k) (without vs k) := by
  unfold KV at r ⊢
  unfold dropK without
  induction r with
  | nil => exact .nil
  | @cons p q ps qs h t ih =>
    obtain ⟨h1, h2⟩ := h
    rw [List.filter_cons, List.filter_cons]
    by_cases e : p.1 = k
    · have a : ¬ decide (p.1 ≠ k) = true := by simp [e]
      have b : ¬ decide (q.1 ≠ k) = true := by simp [h1.symm.trans e]
      rw [if_neg a, if_neg b]; exact ih
    · have e' : ¬ q.1 = k := fun z => e (h1.trans z)
      have a : decide (p.1 ≠ k) = true := by simp [e]
      have b : decide (q.1 ≠ k) = true := by simp [e']
      rw [if_pos a, if_pos b]; exact .cons ⟨h1, h2⟩ ih
theorem KV.length {kvs : List (κ × V)} {vs : List (κ × Value)} (r : KV kvs vs) : kvs.length = vs.length := Paired.length r
end

theorem kV_is {P : Program} {w : World} {k : Key} {u : Value} (r : RelV (kV k) u) : (mixKind P w).is k u = true := by
  cases k with
  | inl i => obtain ⟨t, e⟩ := (show ∃ t, u = Value.int i t from r); subst e; exact mixKind_int P w i t
  | inr x => obtain ⟨t, e⟩ := (show ∃ t, u = Value.str x t from r); subst e; exact mixKind_str P w x t
theorem items_are {P : Program} {w : World} : ∀ {ks : List Key} {us : List Value}, Vals (ks.map kV) us → ItemsAre (mixKind P w) ks us
  | [], _, r => by rw [List.map_nil] at r; cases r; exact .nil
  | k :: ks, _, r => by
    rw [List.map_cons] at r
    cases r with
    | cons h t => exact .cons (kV_is h) (items_are t)

noncomputable abbrev KT (H : Hp) : List (List Key × V) → List (List Key × Addr × Value) → Prop := Paired fun p q => p.1 = q.1 ∧ H q.2.1 = some (.tup (p.1.map kV)) ∧ RelV p.2 q.2.2
theorem KT.val {H : Hp} {kvs : List (List Key × V)} {xs : List (List Key × Addr × Value)} (r : KT H kvs xs) (k : List Key) : RelO (valV kvs k) ((atKey xs k).map (·.2)) := by
  induction r with
  | nil => exact True.intro
  | @cons p q ps qs h t ih =>
    obtain ⟨h1, _, h2⟩ := h
    by_cases e : p.1 = k
    · have e' : q.1 = k := h1.symm.trans e
      have b : atKey (q :: qs) k = some q.2 := by simp [atKey, List.find?_cons, e']
      rw [valV_pos e, b]; exact h2
    · have e' : ¬ q.1 = k := fun z => e (h1.trans z)
      have b : atKey (q :: qs) k = atKey qs k := by simp [atKey, List.find?_cons, e']
      rw [valV_neg e, b]; exact ih
theorem KT.repl {H : Hp} {kvs : List (List Key × V)} {xs : List (List Key × Addr × Value)} (r : KT H kvs xs) (k : List Key) {y : V} {u : Value} (ry : RelV y u) :
    KT H (kvs.map fun kv => if kv.1 = k then (kv.1, y) else kv) (xs.map (putAt k u)) := by
  induction r with
  | nil => exact .nil
  | @cons p q ps qs h t ih =>
    rw [List.map_cons, List.map_cons]
    refine .cons ?_ ih
    obtain ⟨h1, h2, h3⟩ := h
    unfold putAt
    by_cases e : p.1 = k
    · rw [if_pos e, if_pos (h1.symm.trans e)]; exact ⟨h1, h2, ry⟩
    · rw [if_neg e, if_neg (fun z => e (h1.trans z))]; exact ⟨h1, h2, h3⟩
theorem KT.put {H : Hp} {kvs : List (List Key × V)} {xs : List (List Key × Addr × Value)} (r : KT H kvs xs) (k : List Key) {b : Addr} {y : V} {u : Value} (hb : H b = some (.tup (k.map kV))) (ry : RelV y u) :
    KT H (putK kvs k y) (storedH xs k b u) := by
  have e : (kvs.any fun kv => decide (kv.1 = k)) = (atKey xs k).isSome := by
    rw [valV_any, (r.val k).isSome_eq, Option.isSome_map]
  unfold putK storedH
  rw [e]
  by_cases q : (atKey xs k).isSome = true
  · rw [if_pos q, if_pos q]; exact r.repl k ry
  · rw [if_neg q, if_neg q]; exact Paired.snoc r ⟨rfl, hb, ry⟩
theorem KT.keeps {H H' : Hp} {kvs : List (List Key × V)} {xs : List (List Key × Addr × Value)} (r : KT H kvs xs) (ht : ∀ b ys, H b = some (.tup ys) → H' b = some (.tup ys)) : KT H' kvs xs :=
  Paired.mapP r fun _ _ z => ⟨z.1, ht _ _ z.2.1, z.2.2⟩

section
variable {P : Program} {w : World} {H : Hp} {h : Heap} {a : Addr}
theorem rd_of {u : HO} (ok : HOk P w H h) (e : Rd H a u) : ObjOk P w H h a u := e.ok ok
theorem dk_rd {kvs : List (Key × V)} (ok : HOk P w H h) (e : Rd H a (.dK kvs)) : kvs.length ≤ sizeLine ∧ (a == sysModules) = false ∧ ∃ vs, KV kvs vs ∧ h.DictOf (mixKind P w) a vs :=
  show ObjOk P w H h a (.dK kvs) from rd_of ok e
theorem dk_of {kvs : List (Key × V)} (ok : HOk P w H h) (e : H a = some (.dK kvs)) : kvs.length ≤ sizeLine ∧ (a == sysModules) = false ∧ ∃ vs, KV kvs vs ∧ h.DictOf (mixKind P w) a vs := dk_rd ok (.inl e)
theorem key_of {ks : List Key} (ok : HOk P w H h) (e : H a = some (.tup (ks.map kV))) : (tupleKind (mixKind P w)).is h ks a := by
  obtain ⟨_, its, r, o, h1, h2, n, h3⟩ := (show ObjOk P w H h a (.tup (ks.map kV)) from ok a _ e)
  exact ⟨o, its.toArray, n, h1, h2, h3, by simpa using items_are r⟩
theorem dt_rd {kvs : List (List Key × V)} (ok : HOk P w H h) (e : Rd H a (.dT kvs)) : kvs.length ≤ sizeLine ∧ (a == sysModules) = false ∧
    ∃ xs, KT H kvs xs ∧ h.DictOfH (tupleKind (mixKind P w)) a xs := by
  obtain ⟨z, y, xs, r, o, es, ep, h1, h2, h3, h4, h5⟩ := (show ObjOk P w H h a (.dT kvs) from rd_of ok e)
  refine ⟨z, y, xs, r, o, es, ep, h1, h2, h3, h4, fun x hx => ?_, h5⟩
  have all : ∀ {l : List (List Key × V)} {m : List (List Key × Addr × Value)}, KT H l m → ∀ x ∈ m, (tupleKind (mixKind P w)).is h x.1 x.2.1 := by
    intro l m q
    induction q with
    | nil => intro x hx; exact nomatch hx
    | @cons p q ps qs hq t ih =>
      intro x hx
      rcases List.mem_cons.mp hx with e | hx
      · subst e
        exact key_of ok (by rw [← hq.1]; exact hq.2.1)
      · exact ih x hx
  exact all r x hx
theorem dt_of {kvs : List (List Key × V)} (ok : HOk P w H h) (e : H a = some (.dT kvs)) : kvs.length ≤ sizeLine ∧ (a == sysModules) = false ∧
    ∃ xs, KT H kvs xs ∧ h.DictOfH (tupleKind (mixKind P w)) a xs := dt_rd ok (.inl e)
end

def DGet (H : Hp) (a : Addr) (y : V) (r : Option V) : Prop :=
  (∃ kvs k, Rd H a (.dK kvs) ∧ y = kV k ∧ r = valV kvs k) ∨ ∃ kvs k b, Rd H a (.dT kvs) ∧ y = .ref b ∧ H b = some (.tup (k.map kV)) ∧ r = valV kvs k
def DPut (H : Hp) (a : Addr) (y v : V) (H' : Hp) : Prop :=
  (∃ kvs k, H a = some (.dK kvs) ∧ y = kV k ∧ kvs.length < sizeLine ∧ H' = upd H a (.dK (putK kvs k v))) ∨
  ∃ kvs k b, H a = some (.dT kvs) ∧ y = .ref b ∧ H b = some (.tup (k.map kV)) ∧ kvs.length < sizeLine ∧ H' = upd H a (.dT (putK kvs k v))
theorem DGet.k {H : Hp} {a : Addr} {kvs : List (Key × V)} {k : Key} (e : H a = some (.dK kvs)) : DGet H a (kV k) (valV kvs k) := .inl ⟨kvs, k, .inl e, rfl, rfl⟩
theorem DGet.t {H : Hp} {a b : Addr} {kvs : List (List Key × V)} {k : List Key} (e : H a = some (.dT kvs)) (eb : H b = some (.tup (k.map kV))) : DGet H a (.ref b) (valV kvs k) := .inr ⟨kvs, k, b, .inl e, rfl, eb, rfl⟩
theorem DPut.k {H : Hp} {a : Addr} {kvs : List (Key × V)} {k : Key} {v : V} (e : H a = some (.dK kvs)) (hl : kvs.length < sizeLine) : DPut H a (kV k) v (upd H a (.dK (putK kvs k v))) := .inl ⟨kvs, k, e, rfl, hl, rfl⟩
theorem DPut.t {H : Hp} {a b : Addr} {kvs : List (List Key × V)} {k : List Key} {v : V} (e : H a = some (.dT kvs)) (eb : H b = some (.tup (k.map kV))) (hl : kvs.length < sizeLine) :
    DPut H a (.ref b) v (upd H a (.dT (putK kvs k v))) := .inr ⟨kvs, k, b, e, rfl, eb, hl, rfl⟩

section
variable {X : Cx} {pins : List (Addr × Obj)} {σ : St} {H : Hp} {s : Shared} {a : Addr} {y v : V} {u r : Value} {o : Option V} {A : Around} {E : Value → Shared → Prop}

theorem Inv.big (I : Inv X pins σ H s) : sysModules < s.heap.objs.size := by
  have h : mainGlobals < s.heap.objs.size := (I.mod.glob.keeps I.bk).lt
  exact Nat.lt_trans (by decide) h

theorem d_getItem {Q : Value → Shared → Prop} (hu : A.units + 1 < cLine) (I : Inv X pins σ H s) (g : DGet H a y (some v)) (ry : RelV y u) (h : ∀ w' s', Inv X pins σ H s' → RelV v w' → Q w' s') :
    wpAny (model X.prog X.w) A (getItem (.ref a) u) Q E s := by
  rcases g with ⟨kvs, k, e, ey, l⟩ | ⟨kvs, k, b, e, ey, eb, l⟩
  · subst ey
    obtain ⟨z, hd, vs, rel, dd⟩ := dk_rd I.hok e
    obtain ⟨w', hw, rw'⟩ := RelO.some_of (v := v) (o := valueAt vs k) (by rw [l]; exact rel.val k)
    exact wpAny_getItem_of (kV_is ry) dd.mapOf hw (h w' _ (I.tok _) rw')
  · subst ey
    cases (show u = Value.ref b from ry)
    obtain ⟨z, hd, xs, rel, dd⟩ := dt_rd I.hok e
    obtain ⟨w', hw, rw'⟩ := RelO.some_of (v := v) (o := (atKey xs k).map (·.2)) (by rw [l]; exact rel.val k)
    obtain ⟨p, hp, hp2⟩ := Option.map_eq_some_iff.mp hw
    refine wpAny_getItem_heap (tupleKind_room_in1 hu) (key_of I.hok eb) dd hp ?_
    rw [hp2]
    exact h w' _ (I.tok _) rw'
theorem d_notIn {Q : Value → Shared → Prop} (hu : A.units + 1 < cLine) (I : Inv X pins σ H s) (g : DGet H a y o) (ry : RelV y u) (h : ∀ s', Inv X pins σ H s' → Q (.bool (!o.isSome)) s') :
    wpAny (model X.prog X.w) A (compareOp .NotIn u (.ref a)) Q E s := by
  rcases g with ⟨kvs, k, e, ey, l⟩ | ⟨kvs, k, b, e, ey, eb, l⟩
  · subst ey
    obtain ⟨z, hd, vs, rel, dd⟩ := dk_rd I.hok e
    refine wpAny_notIn_of (kV_is ry) hd dd.mapOf ?_
    rw [← (rel.val k).isSome_eq, ← l]
    exact h _ (I.tok _)
  · subst ey
    cases (show u = Value.ref b from ry)
    obtain ⟨z, hd, xs, rel, dd⟩ := dt_rd I.hok e
    refine wpAny_notIn_heap (tupleKind_room_in1 hu) (key_of I.hok eb) hd dd ?_
    have q := (rel.val k).isSome_eq
    rw [Option.isSome_map] at q
    rw [← q, ← l]
    exact h _ (I.tok _)
theorem d_write {h' : Heap} {t' : Nat} {ob : HO} (I : Inv X pins σ H s) (mu : Mut (H a)) (hs : Heap.SameBut a s.heap h') (he : ∃ q, h'.get? a = some q) (new : ObjOk X.prog X.w (upd H a ob) h' a ob) :
    Inv X pins σ (upd H a ob) { s with heap := h', toks := t' } :=
  I.write (x := a) (e := a) mu (.inl rfl) (fun b q hb z => (hs.2 b hb).trans z) he new
theorem dk_new {P : Program} {w : World} {H' : Hp} {h' : Heap} {kvs : List (Key × V)} {vs : List (Key × Value)} (z : kvs.length ≤ sizeLine) (hd : (a == sysModules) = false) (rel : KV kvs vs) (dd : h'.DictOf (mixKind P w) a vs) :
    ObjOk P w H' h' a (.dK kvs) := ⟨z, hd, vs, rel, dd⟩
theorem d_setItem {H' : Hp} {Q : Unit → Shared → Prop} (hu : A.units + 1 < cLine) (I : Inv X pins σ H s) (g : DPut H a y v H') (ry : RelV y u) (rv : RelV v r) (h : ∀ s', Inv X pins σ H' s' → Q () s') :
    wpAny (model X.prog X.w) A (setItem (.ref a) u r) Q E s := by
  rcases g with ⟨kvs, k, e, ey, l, eH⟩ | ⟨kvs, k, b, e, ey, eb, l, eH⟩
  · subst ey eH
    obtain ⟨z, hd, vs, rel, dd⟩ := dk_of I.hok e
    have hz : vs.length ≤ sizeLine := by rw [← rel.length]; exact z
    have hl : (putK kvs k v).length ≤ sizeLine := by have := length_putK kvs k v; omega
    refine wpAny_setItem_pairs (hsz := hz) (kV_is ry) dd fun h' dd' hs => h _ ?_
    have he : ∃ q, h'.get? a = some q := let ⟨q, _, _, hq, _⟩ := dd'; ⟨q, hq⟩
    exact d_write I (by rw [e]; exact True.intro) hs he (dk_new hl hd (rel.put k rv) dd')
  · subst ey eH
    cases (show u = Value.ref b from ry)
    obtain ⟨z, hd, xs, rel, dd⟩ := dt_of I.hok e
    have hz : xs.length ≤ sizeLine := by rw [← Paired.length rel]; exact z
    have hl : (putK kvs k v).length ≤ sizeLine := by have := length_putK kvs k v; omega
    refine wpAny_setItem_heap (hsz := hz) (tupleKind_room_in1 hu) (key_of I.hok eb) dd fun h' dd' hs => h _ ?_
    obtain ⟨q, es, ep, hq, h2, h3, h4, _, h5⟩ := dd'
    refine d_write I (by rw [e]; exact True.intro) hs ⟨q, hq⟩ ⟨hl, hd, _, (rel.put k eb rv).keeps fun c ys ec => ?_, q, es, ep, hq, h2, h3, h4, h5⟩
    rw [upd_ne (ne_of ec e (fun z => nomatch z))]
    exact ec
end

section
variable {X : Cx} {pins : List (Addr × Obj)} {σ : St} {H : Hp} {s : Shared} {a : Addr} {kvs : List (Key × V)} {k : Key} {u : Value} {A : Around} {E : Value → Shared → Prop}
end

def NoSl (i : Expr) : Prop := ∀ ov iv, subscripted i false ov iv = operate [ov, iv] (getItem ov iv)
theorem subD_of {prog : Program} {w : World} {A : Around} {E : Value → Shared → Prop} {s : Shared} {env : Env} {value slice : Expr} {pos : Pos} {T id : String} {Q : Value → Shared → Prop}
    (hl : typeLookup (.type T) "__getitem__" = pure (some (.builtin id))) (hs : NoSl slice)
    (h : wpAny (model prog w) A (eval value env) (fun o s₁ => wpAny (model prog w) A (eval slice env) (fun i s₂ => s₂.TypeIs o T ∧ wpAny (model prog w) A (getItem o i) Q E s₂) E s₁) E s) :
    wpAny (model prog w) A (eval (.Subscript value slice pos) env) Q E s := by
  refine Subscript_ (wpAny_mono h (fun o s₁ h₁ => wpAny_mono h₁ (fun i s₂ h₂ => ?_) fun _ _ x => x) fun _ _ x => x)
  obtain ⟨hT, h₂⟩ := h₂
  unfold subscriptTail
  refine wpAny_bind ?_
  rw [getitemInPython_of_ne hT.not_modules]
  refine wpAny_bind (wpAny_specialOf hT hl ?_)
  have fin : wpAny (model prog w) A (subscripted slice false o i) (fun r s₃ => wpAny (model prog w) A (letTemporaryGo value o r >>= fun _ => pure r) Q E s₃) E s₂ := by
    rw [hs o i]
    exact wpAny_operating (wpAny_mono h₂ (fun r s₃ h₃ => wpAny_bind (wpAny_letTemporaryGo (wpAny_pure h₃))) fun _ _ x => x)
  first
    | exact wpAny_pure (wpAny_bind fin)
    | exact wpAny_bind (wpAny_pure (wpAny_bind fin))
    | exact wpAny_bind fin

theorem dict_typeIs {X : Cx} {pins : List (Addr × Obj)} {σ : St} {H : Hp} {s : Shared} {a : Addr} {y : V} {o : Option V} (I : Inv X pins σ H s) (g : DGet H a y o) : s.TypeIs (.ref a) "dict" := by
  rcases g with ⟨kvs, k, e, _, _⟩ | ⟨kvs, k, b, e, _, _, _⟩
  · obtain ⟨_, _, vs, _, dd⟩ := dk_rd I.hok e
    exact dd.typeIs
  · obtain ⟨_, _, xs, _, dd⟩ := dt_rd I.hok e
    exact dd.typeIs
noncomputable def tDGet (td ty : TE) : TE := fun σ H Q => td σ H fun x H1 => ty σ H1 fun y H2 => ∃ a v, x = .ref a ∧ DGet H2 a y (some v) ∧ Q v H2
noncomputable def tDNotIn (ty td : TE) : TE := fun σ H Q => ty σ H fun y H1 => td σ H1 fun x H2 => ∃ a o, x = .ref a ∧ DGet H2 a y o ∧ Q (.bl (!o.isSome)) H2
noncomputable def sDPut (td ty tv : TE) : TS := fun D σ H => tv σ H fun v H1 => td σ H1 fun x H2 => ty σ H2 fun y H3 => ∃ a H4, x = .ref a ∧ DPut H3 a y v H4 ∧ D.nx σ H4
section
variable {X : Cx} {o i e value : Expr} {pos pos' tpos : Pos} {td ty tv : TE}
theorem pe_dget (hu : X.A.units + 1 < cLine) (ho : PE X o td) (hi : PE X i ty) (hs : NoSl i) : PE X (.Subscript o i pos) (tDGet td ty) := by
  intro pins s σ H Q I h
  refine subD_of PySem.F.slot_dict_getitem.lookup hs (thn (ho pins s σ H _ I h) fun u s1 ⟨x, H1, I1, rx, q1⟩ => thn (hi pins s1 σ H1 _ I1 q1) fun iv s2 ⟨y, H2, I2, ry, a, v, ex, g, q2⟩ => ?_)
  subst ex
  obtain rfl : u = Value.ref a := rx
  exact ⟨dict_typeIs I2 g, d_getItem hu I2 g ry fun w' s3 I3 rw' => ⟨v, H2, I3, rw', q2⟩⟩
theorem pc_dnotin (hu : X.A.units + 1 < cLine) (hi : PE X i ty) (ho : PE X o td) : PC X .NotIn i o (tDNotIn ty td) := by
  intro pins s σ H Q I h
  refine thn (hi pins s σ H _ I h) fun iv s1 ⟨y, H1, I1, ry, q1⟩ => thn (ho pins s1 σ H1 _ I1 q1) fun u s2 ⟨x, H2, I2, rx, a, ov, ex, g, q2⟩ => ?_
  subst ex
  obtain rfl : u = Value.ref a := rx
  exact d_notIn hu I2 g ry fun s3 I3 => ⟨.bl (!ov.isSome), H2, I3, rfl, q2⟩
theorem ps_dput (hu : X.A.units + 1 < cLine) (ho : PE X o td) (hi : PE X i ty) (hv : PE X value tv) (hs : swapsWith value (some (.Subscript o i pos')) pos.line X.env = pure false) :
    PS X (.Assign [.Subscript o i pos'] value pos) (sDPut td ty tv) := by
  intro pins s σ H D I h
  refine wpAny_Assign_Subscript (thn (hv pins s σ H _ I h) fun r s1 ⟨v, H1, I1, rv, q1⟩ => thn (ho pins s1 σ H1 _ I1 q1) fun u s2 ⟨x, H2, I2, rx, q2⟩ => thn (hi pins s2 σ H2 _ I2 q2) fun iv s3 ⟨y, H3, I3, ry, a, H4, ex, g, q3⟩ => ?_) hs
  subst ex
  obtain rfl : u = Value.ref a := rx
  exact d_setItem hu I3 g ry rv fun s4 I4 => ⟨σ, H4, I4, q3⟩
end

theorem dk_empty {P : Program} {w : World} {H : Hp} (h : Heap) (hb : sysModules < h.objs.size) : ObjOk P w H (h.push { cls := .type "dict", data := .dict #[] }) h.objs.size (.dK []) :=
  ⟨Nat.zero_le _, beq_eq_false_iff_ne.mpr (Ne.symm (Nat.ne_of_lt hb)), [], .nil, Heap.DictOf.new h⟩
noncomputable def tDNewK : TE := fun _ H Q => ∀ p, H p = none → Q (.ref p) (upd H p (.dK []))
section
variable {X : Cx} {pos : Pos}
theorem pe_dnewK : PE X (.Dict [] [] pos) tDNewK := fun pins s σ H Q I h =>
  wpAny_Dict_empty ⟨.ref s.heap.objs.size, _, I.laid (a := s.heap.objs.size) (o := .dK []) (t' := s.toks) (fun _ _ q => Heap.get?_push_of_some _ q) (Nat.le_refl _) (dk_empty s.heap I.big), rfl, h _ (I.hok.fresh (Nat.le_refl _))⟩
end

section
variable {X : Cx} {pins : List (Addr × Obj)} {σ : St} {H : Hp} {s : Shared} {a : Addr} {y d : V} {u r : Value} {o : Option V} {A : Around} {E : Value → Shared → Prop}
end

section
variable {X : Cx} {o e f : Expr} {apos cpos : Pos} {td ty tx : TE}
end

section
variable {X : Cx} {pins : List (Addr × Obj)} {σ : St} {H : Hp} {s : Shared} {a : Addr} {kvs : List (Key × V)} {A : Around} {E : Value → Shared → Prop}
end

section
variable {X : Cx} {pins : List (Addr × Obj)} {σ : St} {H : Hp} {s : Shared} {a : Addr} {y : V} {u : Value} {A : Around} {E : Value → Shared → Prop}
end
end L2
namespace HT
open PySem PyProof.Rows

section
open PySem.SeqAt
open PySem.AutoSeq1 (wpAny_loadPart')
open PySem.MeetsSeq PySem.MeetsSeq2 PySem.MeetsSeq3

end

section
variable {prog : Program} {w : World} {A : Around} {E : Value → Shared → Prop} {s : Shared}

noncomputable def sIx (n d : Nat) : Option Int → Nat
  | none => d
  | some v => if v < 0 then (v + (n : Int)).toNat else min v.toNat n
theorem sIx_none (n d : Nat) : sIx n d none = d := rfl
theorem sIx_nat (n d k : Nat) : sIx n d (some (k : Int)) = min k n := by
  show (if (k : Int) < 0 then ((k : Int) + (n : Int)).toNat else min (k : Int).toNat n) = min k n
  rw [if_neg (by omega), Int.toNat_natCast]
theorem sIx_le (n d : Nat) (hd : d ≤ n) (o : Option Int) : sIx n d o ≤ n := by
  cases o with
  | none => exact hd
  | some v =>
    show (if v < 0 then (v + (n : Int)).toNat else min v.toNat n) ≤ n
    by_cases hv : v < 0
    · rw [if_pos hv]; omega
    · rw [if_neg hv]; exact Nat.min_le_right _ _
theorem clip_eq (v : Int) (n d : Nat) : (if v < 0 then max (v + (n : Int)) 0 else min v (n : Int)) = ((sIx n d (some v) : Nat) : Int) := by
  show (if v < 0 then max (v + (n : Int)) 0 else min v (n : Int)) = (((if v < 0 then (v + (n : Int)).toNat else min v.toNat n) : Nat) : Int)
  by_cases hv : v < 0
  · simp only [if_pos hv]; omega
  · simp only [if_neg hv]; omega
theorem adjust_gen (lo hi : Option Int) (n : Nat) : Builtin.Slice.sliceAdjust lo hi 1 (n : Int) = (((sIx n 0 lo : Nat) : Int), ((sIx n n hi : Nat) : Int)) := by
  have h1 : ¬ ((1 : Int) < 0) := by omega
  unfold Builtin.Slice.sliceAdjust
  simp only [h1, if_false]
  refine Prod.ext ?_ ?_
  · cases lo with
    | none => rfl
    | some v => exact clip_eq v n 0
  · cases hi with
    | none => rfl
    | some v => exact clip_eq v n n
theorem places_gen (i j : Nat) : Builtin.Slice.slicePlaces (i : Int) (j : Int) 1 = j - i := by
  unfold Builtin.Slice.slicePlaces
  have h1 : (1 : Int) > 0 := by omega
  simp only [h1, if_true, Int.ediv_one]
  split <;> omega
theorem slicePart_ {v : Value} {o : Option Int} {Q : Option Int → Shared → Prop} (p : IsPart v o) (h : Q o s) : wpAny (model prog w) A (Builtin.Slice.slicePartIndex v) Q E s := by
  cases p with
  | none => exact slicePart_none h
  | int i t => exact slicePart_int h
theorem sliceApplied_gen {sl : Addr} {vl vu : Value} {lo hi : Option Int} {n : Nat} {Q : Int × Int × Nat → Shared → Prop} (hs : s.heap.IsSliceOf sl vl vu .none) (pl : IsPart vl lo) (pu : IsPart vu hi)
    (h : Q (((sIx n 0 lo : Nat) : Int), 1, sIx n n hi - sIx n 0 lo) s) : wpAny (model prog w) A (Builtin.Slice.sliceApplied (.ref sl) (pure (n : Int))) Q E s := by
  obtain ⟨os, hos, hcs, hds⟩ := id hs
  unfold Builtin.Slice.sliceApplied Builtin.Slice.sliceFields
  refine wpAny_bind (wpAny_bind (wpAny_field hos hds (x := vl) rfl (wpAny_bind (wpAny_field hos hds (x := vu) rfl (wpAny_bind (wpAny_field hos hds (x := .none) rfl (wpAny_pure ?_)))))))
  refine wpAny_bind (slicePart_none ?_)
  show wpAny _ _ (if ((1 : Int) == 0) = true then _ else _) _ _ s
  rw [if_neg (by decide)]
  refine wpAny_bind (slicePart_ pl (wpAny_bind (slicePart_ pu (wpAny_bind (wpAny_pure ?_)))))
  show wpAny _ _ (match Builtin.Slice.sliceAdjust lo hi 1 (n : Int) with | (lo, hi) => pure (lo, (1 : Int), Builtin.Slice.slicePlaces lo hi 1)) _ _ s
  rw [adjust_gen lo hi n]
  show wpAny _ _ (pure (((sIx n 0 lo : Nat) : Int), (1 : Int), Builtin.Slice.slicePlaces ((sIx n 0 lo : Nat) : Int) ((sIx n n hi : Nat) : Int) 1)) _ _ s
  rw [places_gen]
  exact wpAny_pure h
theorem pick_gen (xs : Array Value) (i k : Nat) : ((List.range k).filterMap fun (m : Nat) => xs[((i : Int) + (m : Int) * 1).toNat]?).toArray = ((xs.toList.drop i).take k).toArray := by
  have e : (fun (m : Nat) => xs[((i : Int) + (m : Int) * 1).toNat]?) = fun m => xs[i + m]? := by
    funext m
    have : ((i : Int) + (m : Int) * 1).toNat = i + m := by omega
    rw [this]
  rw [e]
  have := pick_run xs i k
  rw [List.filterMap_map] at this
  have e2 : ((fun x => xs[x]?) ∘ fun x => i + x) = fun m => xs[i + m]? := rfl
  rw [e2] at this
  rw [this]

theorem getItem_tuple_cut {t sl : Addr} {items : Array Value} {vl vu : Value} {lo hi : Option Int} {Q : Value → Shared → Prop} (ht : IsTup s.heap t items) (hs : s.heap.IsSliceOf sl vl vu .none) (pl : IsPart vl lo) (pu : IsPart vu hi)
    (hw : ¬ (sIx items.size 0 lo = 0 ∧ sIx items.size items.size hi = items.size))
    (h : Q (.ref s.heap.objs.size) { s with heap := s.heap.push { cls := .type "tuple", data := .seq ((items.toList.drop (sIx items.size 0 lo)).take (sIx items.size items.size hi - sIx items.size 0 lo)).toArray } })
    (hsz : items.size ≤ sizeLine) : wpAny (model prog w) A (getItem (.ref t) (.ref sl)) Q E s := by
  have htake : sizeOk (.seq ((items.toList.drop (sIx items.size 0 lo)).take (sIx items.size items.size hi - sIx items.size 0 lo)).toArray) := by
    show ((items.toList.drop (sIx items.size 0 lo)).take (sIx items.size items.size hi - sIx items.size 0 lo)).toArray.size ≤ sizeLine
    rw [List.size_toArray, List.length_take, List.length_drop, Array.length_toList]
    omega
  have hj : sIx items.size items.size hi ≤ items.size := sIx_le _ _ (Nat.le_refl _) hi
  obtain ⟨os, hos, hcs, hds⟩ := id hs
  have hTs : s.TypeIs (.ref sl) "slice" := ⟨os, hos, hcs⟩
  unfold getItem
  try with_reducible refine wpAny_holding ?_
  first | refine wpAny_bind (wpAny_pure ?_) | skip
  refine wpAny_bind (wpAny_sequenceKey ht.typeIs (by decide) ?_)
  refine wpAny_bind (wpAny_callSpecial?_slot (name := Str.ofString "__getitem__") ht.typeIs PyProof.Rows.slot_tuple_getitem
    (wpAny_call_entry PyProof.Rows.slot_tuple_getitem ht.typeIs entry_tuple_getitem ?_ (args_tuple_getitem _ _)))
  show wpAny _ _ (Builtin.Tuple.tupleItemsOf (.ref t) >>= _) _ _ s
  refine wpAny_bind (tupleItemsOf_ ht ?_)
  refine wpAny_bind (wpAny_typeOf hTs ?_)
  rw [if_pos (by decide)]
  refine wpAny_bind (sliceApplied_gen hs pl pu ?_)
  have hno : ¬ ((((sIx items.size 0 lo : Nat) : Int) == 0 && (1 : Int) == 1 && (sIx items.size items.size hi - sIx items.size 0 lo) == items.size) = true) := by
    intro q
    rw [Bool.and_eq_true, Bool.and_eq_true] at q
    have q1 : ((sIx items.size 0 lo : Nat) : Int) = 0 := eq_of_beq q.1.1
    have q2 : sIx items.size items.size hi - sIx items.size 0 lo = items.size := eq_of_beq q.2
    exact hw ⟨by omega, by omega⟩
  show wpAny _ _ (if (((sIx items.size 0 lo : Nat) : Int) == 0 && (1 : Int) == 1 && (sIx items.size items.size hi - sIx items.size 0 lo) == items.size) = true then _ else _) _ _ s
  rw [if_neg hno, pick_gen]
  first
    | exact wpAny_bind (m := Builtin.Tuple.tupleExact _) (wpAny_newObj_type (wpAny_pure ⟨_, rfl, wpAny_pure h⟩) htake)
    | exact wpAny_bind (m := Builtin.Tuple.tupleExact _) (wpAny_newObj_type (wpAny_bind (wpAny_pure (wpAny_pure ⟨_, rfl, wpAny_pure h⟩))) htake)
    | exact wpAny_bind (wpAny_bind (m := Builtin.Tuple.tupleExact _) (wpAny_newObj_type (wpAny_pure (wpAny_pure ⟨_, rfl, wpAny_pure h⟩)) htake))
    | exact wpAny_bind (wpAny_bind (m := Builtin.Tuple.tupleExact _) (wpAny_newObj_type (wpAny_pure ⟨_, rfl, wpAny_pure h⟩) htake))
end
end HT

namespace L2
open PySem PySem.Spec PyProof.Rows

noncomputable abbrev TO := St → Hp → (Option Int → Hp → Prop) → Prop
def PO (X : Cx) (e : Option Expr) (t : TO) : Prop :=
  ∀ (pins : List (Addr × Obj)) (s : Shared) (σ : St) (H : Hp) (Q : Option Int → Hp → Prop), Inv X pins σ H s → t σ H Q →
    wpAny (model X.prog X.w) X.A (evalPart e X.env) (fun u s' => ∃ o H', Inv X pins σ H' s' ∧ IsPart u o ∧ Q o H') X.xe s
noncomputable def tNoPart : TO := fun _ H Q => Q none H
noncomputable def tPart (t : TE) : TO := fun σ H Q => t σ H fun x H1 => ∃ i, x = .int i ∧ Q (some i) H1

section
variable {X : Cx} {e : Expr} {te : TE} {lo hi : Option Expr} {tl th : TO} {pos p2 : Pos}

theorem po_none : PO X none tNoPart := by
  intro pins s σ H Q I h
  rw [evalPart_none]
  exact wpAny_pure ⟨none, H, I, .none, h⟩
theorem po_some (h : PE X e te) : PO X (some e) (tPart te) := by
  intro pins s σ H Q I hw
  rw [evalPart_some]
  refine thn (h pins s σ H _ I hw) fun u s1 ⟨x, H1, I1, r1, q1⟩ => ?_
  obtain ⟨i, rfl, q⟩ := q1
  obtain ⟨t, rfl⟩ := r1
  exact ⟨some i, H1, I1, .int i t, q⟩

def SlR (X : Cx) (r : V → Option Int → Option Int → Hp → VK → Prop) : Prop :=
  ∀ (pins : List (Addr × Obj)) (s : Shared) (σ : St) (H : Hp) (x : V) (v vl vu : Value) (lo hi : Option Int) (sl : Addr) (Q : VK), Inv X pins σ H s → RelV x v → s.heap.IsSliceOf sl vl vu .none → IsPart vl lo → IsPart vu hi → r x lo hi H Q →
    ∃ T id, typeLookup (.type T) "__getitem__" = pure (some (.builtin id)) ∧ s.TypeIs v T ∧ wpAny (model X.prog X.w) X.A (getItem v (.ref sl)) (EP X pins σ Q) X.xe s
noncomputable def tSl (r : V → Option Int → Option Int → Hp → VK → Prop) (te : TE) (tl th : TO) : TE := fun σ H Q => te σ H fun x H1 => tl σ H1 fun l H2 => th σ H2 fun u H3 => r x l u H3 Q
theorem pe_slice {r : V → Option Int → Option Int → Hp → VK → Prop} (hr : SlR X r) (he : PE X e te) (hl : PO X lo tl) (hu : PO X hi th) : PE X (.Subscript e (.Slice lo hi none p2) pos) (tSl r te tl th) := by
  intro pins s σ H Q I h
  refine Subscript_ (thn (he pins s σ H _ I h) fun v s1 ⟨x, H1, I1, r1, q1⟩ => ?_)
  refine wpAny_Slice (thn (hl pins s1 σ H1 _ I1 q1) fun vl s2 ⟨l, H2, I2, pl, q2⟩ => thn (hu pins s2 σ H2 _ I2 q2) fun vu s3 ⟨u, H3, I3, pu, q3⟩ => ?_)
  rw [evalPart_none]
  refine wpAny_pure ?_
  have I4 : Inv X pins σ H3 { s3 with heap := s3.heap.push { cls := .type "slice", data := .fields #[vl, vu, .none] } } := I3.kept (t' := s3.toks) fun b ob q => Heap.get?_push_of_some _ q
  obtain ⟨T, id, hT, ht, hg⟩ := hr pins { s3 with heap := s3.heap.push { cls := .type "slice", data := .fields #[vl, vu, .none] } } σ H3 x v vl vu l u s3.heap.objs.size Q I4 r1 (Heap.IsSliceOf.new ..) pl pu q3
  show wpAny (model X.prog X.w) X.A (subscriptTail e (.Slice lo hi none p2) v (.ref s3.heap.objs.size)) (EP X pins σ Q) X.xe { s3 with heap := s3.heap.push { cls := .type "slice", data := .fields #[vl, vu, .none] } }
  exact tail_any (ops := [.ref s3.heap.objs.size, v]) ht hT hg (by with_unfolding_all rfl)

noncomputable def cutV (xs : List V) (lo hi : Option Int) : List V := (xs.drop (HT.sIx xs.length 0 lo)).take (HT.sIx xs.length xs.length hi - HT.sIx xs.length 0 lo)
theorem cutV_length (xs : List V) (lo hi : Option Int) : (cutV xs lo hi).length ≤ xs.length := by
  unfold cutV
  rw [List.length_take, List.length_drop]
  omega
noncomputable def rSlT (K : PySem.W.Frag) : V → Option Int → Option Int → Hp → VK → Prop := fun x lo hi H Q => ∃ a xs, x = .ref a ∧ SqT K H a xs ∧
  ¬ (HT.sIx xs.length 0 lo = 0 ∧ HT.sIx xs.length xs.length hi = xs.length) ∧ ∀ p, H p = none → Q (.ref p) (upd H p (.tup (cutV xs lo hi)))
theorem sl_tup : SlR X (rSlT X.K) := by
  intro pins s σ H x v vl vu lo hi sl Q I rx hs pl pu h
  obtain ⟨a, xs, rfl, hx, hw, q⟩ := h
  cases rx
  obtain ⟨its, r, ht, hz⟩ := I.tuple hx
  have hlen : its.toArray.size = xs.length := by rw [List.size_toArray]; exact r.length.symm
  refine ⟨"tuple", _, PyProof.Rows.slot_tuple_getitem.lookup, ht.typeIs, ?_⟩
  refine HT.getItem_tuple_cut ht hs pl pu (by rw [hlen]; exact hw) ?_ (by rw [hlen]; exact hz)
  rw [hlen]
  refine ⟨.ref s.heap.objs.size, _, I.laid (t' := s.toks) (o := .tup (cutV xs lo hi)) (fun b ob q => Heap.get?_push_of_some _ q) (Nat.le_refl _) ?_, rfl, q _ (I.hok.fresh (Nat.le_refl _))⟩
  exact ⟨Nat.le_trans (cutV_length xs lo hi) hz, _, (r.drop (HT.sIx xs.length 0 lo)).take (HT.sIx xs.length xs.length hi - HT.sIx xs.length 0 lo), IsTup.new _ _⟩

end
end L2

namespace L2
open PySem PySem.Spec PyProof.Rows

noncomputable def ixN (n : Nat) (i : Int) : Option Nat := if 0 ≤ i then (if i < n then some i.toNat else none) else if -(n : Int) ≤ i then some (i + n).toNat else none
noncomputable def atI {α : Type} (xs : List α) (i : Int) : Option α := (ixN xs.length i).bind fun j => xs[j]?
theorem ixN_seq {n : Nat} {i : Int} {j : Nat} (h : ixN n i = some j) : seqIndex? i n = some j ∧ j < n ∧ -(n : Int) ≤ i ∧ i < n := by
  unfold ixN at h
  by_cases h0 : 0 ≤ i
  · rw [if_pos h0] at h
    by_cases h1 : i < n
    · rw [if_pos h1] at h
      have e : i.toNat = j := Option.some.inj h
      exact ⟨by rw [seqIndex_of h0 h1, e], by omega, by omega, h1⟩
    · rw [if_neg h1] at h; cases h
  · rw [if_neg h0] at h
    by_cases h1 : -(n : Int) ≤ i
    · rw [if_pos h1] at h
      have e : (i + n).toNat = j := Option.some.inj h
      exact ⟨by rw [seqIndex_neg (by omega) h1, e], by omega, h1, by omega⟩
    · rw [if_neg h1] at h; cases h
theorem atI_get {α : Type} {xs : List α} {i : Int} {v : α} (h : atI xs i = some v) : ∃ j, seqIndex? i xs.length = some j ∧ xs[j]? = some v ∧ j < xs.length ∧ -(xs.length : Int) ≤ i ∧ i < xs.length := by
  unfold atI at h
  cases e : ixN xs.length i with
  | none => rw [e] at h; cases h
  | some j =>
    rw [e] at h
    obtain ⟨h1, h2, h3, h4⟩ := ixN_seq e
    exact ⟨j, h1, h, h2, h3, h4⟩
theorem atI_nat {α : Type} {xs : List α} {j : Nat} {v : α} (h : xs[j]? = some v) : atI xs (j : Int) = some v := by
  have hj : j < xs.length := (List.getElem?_eq_some_iff.mp h).1
  have e : ixN xs.length (j : Int) = some j := by
    unfold ixN
    rw [if_pos (by omega), if_pos (by omega)]; simp
  unfold atI; rw [e]; exact h
def PlainIx (b : Expr) : Prop := ∀ o i, subscripted b false o i = operate [o, i] (getItem o i)
def IxR (X : Cx) (r : R2) : Prop :=
  ∀ (value slice : Expr) (pins : List (Addr × Obj)) (s : Shared) (σ : St) (H : Hp) (x y : V) (v u : Value) (Q : VK), Inv X pins σ H s → RelV x v → RelV y u → r x y H Q →
    subscripted slice false v u = operate [v, u] (getItem v u) → wpAny (model X.prog X.w) X.A (subscriptTail value slice v u) (EP X pins σ Q) X.xe s
def MtR (X : Cx) (id : String) (r : V → List V → Hp → VK → Prop) : Prop :=
  ∀ (pins : List (Addr × Obj)) (s : Shared) (σ : St) (H : Hp) (x : V) (xs : List V) (v : Value) (us : List Value) (Q : VK), Inv X pins σ H s → RelV x v → Vals xs us → r x xs H Q →
    wpAny (model X.prog X.w) X.A (call (.builtin id) (v :: us)) (EP X pins σ Q) X.xe s
section
variable {X : Cx} {a b : Expr} {ta tb : TE} {pos : Pos}
theorem pe_ix {r : R2} (hr : IxR X r) (ha : PE X a ta) (hb : PE X b tb) (hs : PlainIx b) : PE X (.Subscript a b pos) (tOp r ta tb) := by
  intro pins s σ H Q I h
  exact Subscript_ (binT ha hb I h fun v u s2 x y H2 I2 rx ry q => hr a b pins s2 σ H2 x y v u Q I2 rx ry q (hs _ _))

noncomputable def rIxL (K : PySem.W.Frag) : R2 := fun x y H Q => ∃ p xs i v, x = .ref p ∧ y = .int i ∧ SqL K H p xs ∧ atI xs i = some v ∧ Q v H
noncomputable def rIxT (K : PySem.W.Frag) : R2 := fun x y H Q => ∃ p xs i v, x = .ref p ∧ y = .int i ∧ SqT K H p xs ∧ atI xs i = some v ∧ Q v H
noncomputable def rIxS : R2 := fun x y H Q => ∃ z i c, x = .str z ∧ y = .int i ∧ z.length ≤ sizeLine ∧ atI z.cps.toList i = some c ∧ Q (.str ⟨#[c]⟩) H
theorem ix_list : IxR X (rIxL X.K) := by
  intro value slice pins s σ H x y v u Q I rx ry h hs
  obtain ⟨p, xs, i, z, rfl, rfl, hq, he, q⟩ := h
  cases rx
  obtain ⟨t, rfl⟩ := ry
  obtain ⟨its, r, pl, hz⟩ := I.list hq
  obtain ⟨j, h1, h2, h3, h4, h5⟩ := atI_get he
  obtain ⟨w, ew, rw'⟩ := r.get h2
  have hl := r.length
  have hn := line63
  have fin : EP X pins σ Q w s := ⟨z, H, I, rw', q⟩
  by_cases h0 : 0 ≤ i
  · have hj : i.toNat = j := by
      rw [seqIndex_of h0 h5] at h1
      exact Option.some.inj h1
    exact item_listR pl.isList h0 (by omega) (by rw [hj]; simpa using ew) fin hs
  · have hj : (i + (its.toArray.size : Int)).toNat = j := by
      rw [seqIndex_neg (by omega) h4] at h1
      rw [List.size_toArray, ← hl]
      exact Option.some.inj h1
    exact subscriptTail_builtinR (x := w) pl.isList.typeIs slot_list_getitem.lookup
      (wpAny_getItem_list_neg (Q := fun r s' => r = w ∧ EP X pins σ Q r s') pl.isList (by omega) (by rw [List.size_toArray] <;> omega) (by omega) (by rw [hj]; simpa using ew) ⟨rfl, fin⟩) hs
theorem ix_tup : IxR X (rIxT X.K) := by
  intro value slice pins s σ H x y v u Q I rx ry h hs
  obtain ⟨p, xs, i, z, rfl, rfl, hq, he, q⟩ := h
  cases rx
  obtain ⟨t, rfl⟩ := ry
  obtain ⟨its, r, pl, hz⟩ := I.tuple hq
  obtain ⟨j, h1, h2, h3, h4, h5⟩ := atI_get he
  obtain ⟨w, ew, rw'⟩ := r.get h2
  have hl := r.length
  have hn := line63
  have fin : EP X pins σ Q w s := ⟨z, H, I, rw', q⟩
  exact subscriptTail_builtinR (x := w) pl.typeIs slot_tuple_getitem.lookup
    (getItem_tuple (j := j) (Q := fun r s' => r = w ∧ EP X pins σ Q r s') pl (by omega) (by omega) (by rw [List.size_toArray, ← hl]; exact h1) (by simpa using ew) ⟨rfl, fin⟩) hs
theorem ix_str : IxR X rIxS := by
  intro value slice pins s σ H x y v u Q I rx ry h hs
  obtain ⟨z, i, c, rfl, rfl, hz, he, q⟩ := h
  obtain ⟨t, rfl⟩ := rx
  obtain ⟨t', rfl⟩ := ry
  obtain ⟨j, h1, h2, h3, h4, h5⟩ := atI_get he
  have hl : z.cps.toList.length = z.length := by simp [Str.length]
  rw [hl] at h1 h4 h5
  have hn := line63
  exact tail_any (typeIs_str s z t) slot_str_getitem.lookup (getItem_str (c := c) (by
    have e1 : decide (i < -(2 ^ 63 : Int)) = false := decide_eq_false (by omega)
    have e2 : decide (i ≥ 2 ^ 63) = false := decide_eq_false (by omega)
    rw [e1, e2, Bool.or_false]) (by rw [h1]; simpa using h2) ⟨.str ⟨#[c]⟩, H, I.tok _, ⟨_, rfl⟩, q⟩) hs
theorem mapSeq_set (its : List Value) (n j : Nat) (u : Value) : Obj.mapSeq (·.setIfInBounds j u) { cls := .type "list", data := .seq its.toArray n } = { cls := .type "list", data := .seq (its.set j u).toArray n } := by
  simp [Obj.mapSeq]
theorem Inv.lst {pins : List (Addr × Obj)} {σ : St} {H : Hp} {s : Shared} {p : Addr} {xs : List V} (I : Inv X pins σ H s) (h : H p = some (.lst xs)) :
    ∃ (its : List Value) (n : Nat), Vals xs its ∧ s.heap.get? p = some { cls := .type "list", data := .seq its.toArray n } ∧ xs.length ≤ sizeLine := by
  obtain ⟨z, its, n, r, e⟩ := I.hok p _ h
  exact ⟨its, n, r, e, z⟩
theorem Inv.lstUpd {pins : List (Addr × Obj)} {σ : St} {H : Hp} {s : Shared} {p : Addr} {xs ys : List V} {its its' : List Value} {n n' : Nat} {f : Obj → Obj} (I : Inv X pins σ H s) (h : H p = some (.lst xs))
    (ho : s.heap.get? p = some { cls := .type "list", data := .seq its.toArray n }) (hf : f { cls := .type "list", data := .seq its.toArray n } = { cls := .type "list", data := .seq its'.toArray n' }) (r : Vals ys its') (hz : ys.length ≤ sizeLine) (t : Nat) :
    Inv X pins σ (upd H p (.lst ys)) { s with heap := s.heap.update p f, toks := t } := by
  have e : (s.heap.update p f).get? p = some { cls := .type "list", data := .seq its'.toArray n' } := by
    rw [Heap.get?_update_self f ho (by rw [hf] <;> rfl), hf]
  refine I.write (x := p) (e := p) (by rw [h]; trivial) (.inl rfl) (fun b u hb q => (Heap.get?_update_other _ _ (Ne.symm hb)).trans q) ⟨_, e⟩ ?_
  exact ⟨hz, its', n', r, e⟩
noncomputable def rSetL : V → V → V → Hp → (Hp → Prop) → Prop := fun o i v H Q => ∃ p xs k j, o = .ref p ∧ i = .int k ∧ H p = some (.lst xs) ∧ ixN xs.length k = some j ∧ Q (upd H p (.lst (xs.set j v)))
theorem set_list : PSet X rSetL := by
  intro pins s σ H o i v ov iv u Q I ro ri rv h
  obtain ⟨p, xs, k, j, rfl, rfl, hp, hj, q⟩ := h
  cases ro
  obtain ⟨t, rfl⟩ := ri
  obtain ⟨its, n, r, ho, hz⟩ := I.lst hp
  obtain ⟨h1, h2, h3, h4⟩ := ixN_seq hj
  have hl := r.length
  have hn := line63
  have I' : Inv X pins σ (upd H p (.lst (xs.set j v))) { s with heap := s.heap.update p (Obj.mapSeq (·.setIfInBounds j u)) } :=
    I.lstUpd hp ho (mapSeq_set its n j u) (r.set rv j) (by rw [List.length_set]; exact hz) s.toks
  by_cases h0 : 0 ≤ k
  · have hk : k.toNat = j := by
      rw [seqIndex_of h0 h4] at h1
      exact Option.some.inj h1
    exact PySem.W.ki_setAt ho h0 (by omega) (by rw [List.size_toArray, ← hl]; exact h4) (by rw [hk]; exact ⟨_, I', q⟩)
  · have hk : (k + (its.toArray.size : Int)).toNat = j := by
      rw [seqIndex_neg (by omega) h3] at h1
      rw [List.size_toArray, ← hl]
      exact Option.some.inj h1
    exact PySem.W.ki_setBack ho (by omega) (by rw [List.size_toArray, ← hl]; exact h3) (by omega) (by rw [hk]; exact ⟨_, I', q⟩)

theorem slice_bounds (lo hi : Option Int) (n : Nat) : (sliceBounds lo hi none n).1 = ((HT.sIx n 0 lo : Nat) : Int) ∧ (sliceBounds lo hi none n).2.1 = ((HT.sIx n n hi : Nat) : Int) ∧ (sliceBounds lo hi none n).2.2 = 1 := by
  refine ⟨?_, ?_, rfl⟩
  · cases lo with
    | none => simp [sliceBounds, HT.sIx]
    | some i =>
      simp only [sliceBounds, HT.sIx, Option.getD_none, show (1 : Int) > 0 by decide, if_true]
      by_cases h : i < 0
      · simp only [h, if_true] <;> omega
      · simp only [h, if_false] <;> omega
  · cases hi with
    | none => simp [sliceBounds, HT.sIx]
    | some i =>
      simp only [sliceBounds, HT.sIx, Option.getD_none, show (1 : Int) > 0 by decide, if_true]
      by_cases h : i < 0
      · simp only [h, if_true] <;> omega
      · simp only [h, if_false] <;> omega
theorem slicePick_cut (its : List Value) (lo hi : Option Int) : slicePick its.toArray lo hi none = ((its.drop (HT.sIx its.length 0 lo)).take (HT.sIx its.length its.length hi - HT.sIx its.length 0 lo)).toArray := by
  obtain ⟨h1, h2, h3⟩ := slice_bounds lo hi its.toArray.size
  unfold slicePick
  rw [h1, h2, h3]
  simp only [sliceRange_one, pick_run, List.size_toArray] <;> rfl
noncomputable def rSlL (K : PySem.W.Frag) : V → Option Int → Option Int → Hp → VK → Prop := fun x lo hi H Q => ∃ a xs, x = .ref a ∧ SqL K H a xs ∧ ∀ p, H p = none → Q (.ref p) (upd H p (.lst (cutV xs lo hi)))
theorem sl_list : SlR X (rSlL X.K) := by
  intro pins s σ H x v vl vu lo hi sl Q I rx hs pl pu h
  obtain ⟨a, xs, rfl, hx, q⟩ := h
  cases rx
  obtain ⟨its, r, ht, hz⟩ := I.list hx
  have hlen := r.length
  refine ⟨"list", _, slot_list_getitem.lookup, ht.isList.typeIs, ?_⟩
  refine wpAny_getItem_list_slice ht.isList hs pl pu .none (by simp) ?_ (by rw [List.size_toArray] <;> omega)
  rw [slicePick_cut, ← hlen]
  refine ⟨.ref s.heap.objs.size, _, I.laid (t' := s.toks) (o := .lst (cutV xs lo hi)) (fun b ob q => Heap.get?_push_of_some _ q) (Nat.le_refl _) ?_, rfl, q _ (I.hok.fresh (Nat.le_refl _))⟩
  exact ⟨Nat.le_trans (cutV_length xs lo hi) hz, _, 0, (r.drop (HT.sIx xs.length 0 lo)).take (HT.sIx xs.length xs.length hi - HT.sIx xs.length 0 lo), Heap.get?_push_size _ rfl⟩

noncomputable def flatV : V → Bool
  | .non => true
  | .bl _ => true
  | .int _ => true
  | .str _ => true
  | _ => false
noncomputable def eqV : V → V → Bool
  | .non, .non => true
  | .bl a, .bl b => a == b
  | .bl a, .int b => (if a then 1 else 0) == b
  | .int a, .bl b => a == (if b then 1 else 0)
  | .int a, .int b => a == b
  | .str a, .str b => a == b
  | _, _ => false
theorem eqAt_V {A : Around} {s : Shared} {y x : V} {u v : Value} (ry : RelV y u) (rx : RelV x v) (fy : flatV y = true) (fx : flatV x = true) : SeqAt.EqAt A s u v (eqV y x) := by
  cases y with
  | non =>
    cases ry
    cases x with
    | non => cases rx; exact SeqAt.EqAt.same _
    | bl b => cases rx; exact SeqAt.EqAt.none_bool b
    | int b => obtain ⟨t, rfl⟩ := rx; exact SeqAt.EqAt.none_int b t
    | str b => obtain ⟨t, rfl⟩ := rx; exact SeqAt.EqAt.none_str b t
    | _ => exact absurd (show false = true from fx) Bool.false_ne_true
  | bl a =>
    cases ry
    cases x with
    | non => cases rx; exact SeqAt.EqAt.bool_none a
    | bl b => cases rx; exact SeqAt.EqAt.bool_bool a b
    | int b => obtain ⟨t, rfl⟩ := rx; exact SeqAt.EqAt.bool_int a b t
    | str b => obtain ⟨t, rfl⟩ := rx; exact SeqAt.EqAt.bool_str a b t
    | _ => exact absurd (show false = true from fx) Bool.false_ne_true
  | int a =>
    obtain ⟨t', rfl⟩ := ry
    cases x with
    | non => cases rx; exact SeqAt.EqAt.int_none a t'
    | bl b => cases rx; exact SeqAt.EqAt.int_bool a t' b
    | int b => obtain ⟨t, rfl⟩ := rx; exact SeqAt.EqAt.int_int a t' b t
    | str b => obtain ⟨t, rfl⟩ := rx; exact SeqAt.EqAt.int_str a t' b t
    | _ => exact absurd (show false = true from fx) Bool.false_ne_true
  | str a =>
    obtain ⟨t', rfl⟩ := ry
    cases x with
    | non => cases rx; exact SeqAt.EqAt.str_none a t'
    | bl b => cases rx; exact SeqAt.EqAt.str_bool a t' b
    | int b => obtain ⟨t, rfl⟩ := rx; exact SeqAt.EqAt.str_int a t' b t
    | str b => obtain ⟨t, rfl⟩ := rx; exact SeqAt.EqAt.str_str a t' b t
    | _ => exact absurd (show false = true from fx) Bool.false_ne_true
  | _ => exact absurd (show false = true from fy) Bool.false_ne_true
noncomputable def eqU (x : V) (u : Value) : Bool := match u with
  | .none => eqV .non x
  | .bool b => eqV (.bl b) x
  | .int i _ => eqV (.int i) x
  | .str z _ => eqV (.str z) x
  | _ => false
theorem eqU_of {x y : V} {u : Value} (r : RelV y u) (f : flatV y = true) : eqU x u = eqV y x := by
  cases y with
  | non => cases r; rfl
  | bl b => cases r; rfl
  | int i => obtain ⟨t, rfl⟩ := r; rfl
  | str z => obtain ⟨t, rfl⟩ := r; rfl
  | _ => exact absurd (show false = true from f) Bool.false_ne_true
theorem any_eqU {x : V} : ∀ {xs : List V} {us : List Value}, Vals xs us → xs.all flatV = true → us.any (eqU x) = xs.any fun y => eqV y x
  | _, _, .nil, _ => rfl
  | y :: xs, u :: us, .cons r t, f => by
    rw [List.all_cons, Bool.and_eq_true] at f
    rw [List.any_cons, List.any_cons, eqU_of r f.1, any_eqU t f.2]
theorem mem_eqAt {A : Around} {s : Shared} {x : V} {v : Value} (rx : RelV x v) (fx : flatV x = true) : ∀ {xs : List V} {us : List Value}, Vals xs us → xs.all flatV = true → ∀ u ∈ us, SeqAt.EqAt A s u v (eqU x u)
  | _, _, .nil, _ => fun u hu => by cases hu
  | y :: xs, u :: us, .cons r t, f => fun u' hu => by
    rw [List.all_cons, Bool.and_eq_true] at f
    rcases List.mem_cons.mp hu with rfl | hu
    · rw [eqU_of r f.1]; exact eqAt_V r rx f.1 fx
    · exact mem_eqAt rx fx t f.2 u' hu
noncomputable def inV (x : V) (xs : List V) : Bool := xs.any fun y => eqV y x
noncomputable def rIn (K : PySem.W.Frag) (neg : Bool) : R2 := fun x y H Q => ∃ p xs, y = .ref p ∧ (SqL K H p xs ∨ SqT K H p xs) ∧ flatV x = true ∧ xs.all flatV = true ∧ Q (.bl (if neg then !inV x xs else inV x xs)) H
theorem op_in_seq : OpR X (compareOp .In) (rIn X.K false) := by
  intro pins s σ H x y v u Q I rx ry h
  obtain ⟨p, xs, rfl, hq, fx, fs, q⟩ := h
  cases ry
  rcases hq with hq | hq
  · obtain ⟨its, r, pl, hz⟩ := I.list hq
    refine SeqAt.in_listAt (eqU x) pl.isList (fun w hw => mem_eqAt rx fx r fs w (by simpa using hw)) ⟨.bl _, H, I, rfl, ?_⟩
    rw [show its.toArray.any (eqU x) = its.any (eqU x) by simp, any_eqU r fs]
    exact q
  · obtain ⟨its, r, pl, hz⟩ := I.tuple hq
    refine SeqAt.in_tupleAt (eqU x) pl (fun w hw => mem_eqAt rx fx r fs w (by simpa using hw)) ⟨.bl _, H, I, rfl, ?_⟩
    rw [show its.toArray.any (eqU x) = its.any (eqU x) by simp, any_eqU r fs]
    exact q
theorem call_len_seq : CallR X (.builtin "len") (fun xs H Q => ∃ p ys, xs = [.ref p] ∧ (SqL X.K H p ys ∨ SqT X.K H p ys) ∧ Q (.int ys.length) H) := by
  intro pins s σ H xs us Q I r h
  obtain ⟨p, ys, rfl, hq, q⟩ := h
  obtain ⟨u, rfl, rx⟩ := vals1 r
  cases rx
  have hn := line63
  rcases hq with hq | hq
  · obtain ⟨its, r', pl, hz⟩ := I.list hq
    have hlen := r'.length
    exact Calls.call_len_list pl.isList (by simp only [List.size_toArray] <;> omega) ⟨.int ys.length, H, I.tok _, ⟨s.toks + 1, by rw [List.size_toArray, hlen]⟩, q⟩
  · obtain ⟨its, r', pl, hz⟩ := I.tuple hq
    have hlen := r'.length
    exact len_tuple pl (by simp only [List.size_toArray] <;> omega) ⟨.int ys.length, H, I.tok _, ⟨s.toks + 1, by rw [List.size_toArray, hlen]⟩, q⟩
theorem call_len_str : CallR X (.builtin "len") (fun xs H Q => ∃ z, xs = [.str z] ∧ z.length ≤ sizeLine ∧ Q (.int z.length) H) := by
  intro pins s σ H xs us Q I r h
  obtain ⟨z, rfl, hz, q⟩ := h
  obtain ⟨u, rfl, t, rfl⟩ := vals1 r
  have hn := line63
  exact len_str (by omega) ⟨.int z.length, H, I.tok _, ⟨_, rfl⟩, q⟩
theorem call_tuple_of : CallR X (.type "tuple") (fun xs H Q => ∃ p ys, xs = [.ref p] ∧ ((SqL X.K H p ys ∧ ∀ l, H l = none → Q (.ref l) (upd H l (.tup ys))) ∨ (SqT X.K H p ys ∧ Q (.ref p) H))) := by
  intro pins s σ H xs us Q I r h
  obtain ⟨p, ys, rfl, h⟩ := h
  obtain ⟨u, rfl, rx⟩ := vals1 r
  cases rx
  rcases h with ⟨hq, q⟩ | ⟨hq, q⟩
  · obtain ⟨its, r', pl, hz⟩ := I.list hq
    have hlen := r'.length
    refine call_tuple_list pl.isList (fun h' kp => ?_) (by simp only [List.size_toArray] <;> omega)
    have I1 : Inv X pins σ H { s with heap := h' } := I.kept (t' := s.toks) kp
    have I2 : Inv X pins σ (upd H h'.objs.size (.tup ys)) { s with heap := h'.push { cls := .type "tuple", data := .seq its.toArray } } :=
      I1.laid (t' := s.toks) (fun b o e => Heap.get?_push_of_some _ e) (Nat.le_refl _) (show ObjOk X.prog X.w _ _ _ (.tup ys) from ⟨hz, its, r', IsTup.new _ _⟩)
    exact ⟨.ref h'.objs.size, _, I2, rfl, q _ (I1.hok.fresh (Nat.le_refl _))⟩
  · obtain ⟨its, r', pl, hz⟩ := I.tuple hq
    exact call_tuple_same pl ⟨.ref p, H, I, rfl, q⟩

def tyV (K : PySem.W.Frag) (T : String) (x : V) (H : Hp) : Prop := match x with
  | .str _ => T = "str"
  | .int _ => T = "int"
  | .ref p => (T = "list" ∧ ∃ xs, SqL K H p xs) ∨ (T = "tuple" ∧ ∃ o, K.lookup p = some o ∧ o.cls = .type "tuple" ∧ o.dict = none) ∨
      (T = "dict" ∧ ((∃ kvs, H p = some (.dK kvs)) ∨ ∃ kvs, H p = some (.dT kvs))) ∨ (T = "set" ∧ ∃ S n, H p = some (.set S n))
  | _ => False
theorem tyV_is {pins : List (Addr × Obj)} {σ : St} {H : Hp} {s : Shared} {T : String} {x : V} {v : Value} (I : Inv X pins σ H s) (r : RelV x v) (ty : tyV X.K T x H) :
    s.TypeIs v T ∧ ∀ a, v = .ref a → ∃ ob, s.heap.get? a = some ob ∧ ob.dict = none := by
  cases x with
  | str z =>
    obtain ⟨t, rfl⟩ := r
    cases (show T = "str" from ty)
    exact ⟨typeIs_str s z t, fun _ e => nomatch e⟩
  | int i =>
    obtain ⟨t, rfl⟩ := r
    cases (show T = "int" from ty)
    exact ⟨typeIs_int s i t, fun _ e => nomatch e⟩
  | ref p =>
    cases r
    rcases ty with ⟨rfl, xs, hq⟩ | ⟨rfl, o, hk, hc, hd⟩ | ⟨rfl, hk⟩ | ⟨rfl, S, n, hk⟩
    · obtain ⟨its, _, pl, _⟩ := I.list hq
      refine ⟨pl.isList.typeIs, fun a e => ?_⟩
      cases e
      obtain ⟨o, n, e, c, hd, _⟩ := pl
      exact ⟨o, e, hd⟩
    · refine ⟨⟨o, I.kIn p o hk, hc⟩, fun a e => ?_⟩
      cases e
      exact ⟨o, I.kIn _ o hk, hd⟩
    · have z : ∃ o, s.heap.get? p = some o ∧ o.ExactDict := by
        rcases hk with ⟨kvs, hk⟩ | ⟨kvs, hk⟩
        · obtain ⟨_, _, _, _, o, _, _, e, ex, _⟩ := I.hok p _ hk
          exact ⟨o, e, ex⟩
        · obtain ⟨_, _, _, _, o, _, _, e, ex, _⟩ := I.hok p _ hk
          exact ⟨o, e, ex⟩
      obtain ⟨o, e, ex⟩ := z
      refine ⟨⟨o, e, ex.1⟩, fun a e2 => ?_⟩
      cases e2
      exact ⟨o, e, ex.2.1⟩
    · obtain ⟨o, _, _, _, e, ex, _⟩ := I.hok p _ hk
      refine ⟨⟨o, e, ex.1⟩, fun a e2 => ?_⟩
      cases e2
      exact ⟨o, e, ex.2.1⟩
  | _ => exact False.elim ty
noncomputable def tBM (K : PySem.W.Frag) (T : String) (r : V → List V → Hp → VK → Prop) (to : TE) (t : TA) : TE := fun σ H Q => to σ H fun x H1 => tyV K T x H1 ∧ t σ H1 fun xs H2 => r x xs H2 Q
variable {o e : Expr} {es : List Expr} {to : TE} {t : TA} {name : Str} {apos cpos : Pos} {T id : String} {r : V → List V → Hp → VK → Prop}
theorem pe_bm (pa : PlainAttrs T) (slot : Slot T name id) (hty : typeOf (.builtin id) = pure (.type "method_descriptor")) (hm : MtR X id r) (ho : PE X o to) (ha : PA X (e :: es) t)
    (hbase : attributeBase o name X.env (eval o X.env) = eval o X.env := by rfl)
    (hfew : ((backTo cpos (starEach (e :: es) X.env)).all (fun x => !x.1) && (backToKw cpos (keywordEach [] X.env)).all (fun x => x.1.isSome)
      && decide ((e :: es).length + ([] : List Keyword).length + (if ([] : List Keyword).isEmpty then 0 else 1) < 30)) = true := by rfl)
    (hline : (apos.endLine == cpos.line) = true := by rfl) (hs : starEach (e :: es) X.env = (false, eval e X.env) :: starEach es X.env := by rfl) (hplain : (backTo cpos (starEach es X.env)).any (·.1) = false := by rfl) :
    PE X (.Call (.Attribute o name apos) (e :: es) [] cpos) (tBM X.K T r to t) := by
  intro pins s σ H Q I h
  refine wpAny_Call_method_late hbase hfew hline rfl (thn (ho pins s σ H _ I h) fun v s1 ⟨x, H1, I1, r1, ty, q1⟩ => ?_)
  obtain ⟨h1, h2⟩ := tyV_is I1 r1 ty
  refine ⟨T, id, pa, slot, hty, h1, h2, ?_⟩
  have hA := ha cpos pins s1 σ H1 _ I1 q1
  rw [hs] at hA ⊢
  refine Calls.callWith_builtin (by show (false || (backTo cpos (starEach es X.env)).any (·.1)) = false; rw [hplain] <;> rfl) (Calls.evalArgs_plain ?_)
  exact thn hA fun us s2 ⟨vs, H2, I2, r2, q2⟩ => hm pins s2 σ H2 x vs v us Q I2 r1 r2 q2
/- xs.append(e), list.index on a module's tuple .. are MtR facts of 06m -/
end
end L2

namespace L2
open PySem PySem.Spec PyProof.Rows

def MtM (X : Cx) (id : String) (r : V → List V → Hp → VK → Prop) : Prop :=
  ∀ (pins : List (Addr × Obj)) (s : Shared) (σ : St) (H : Hp) (x : V) (xs : List V) (v : Value) (us : List Value) (Q : VK), Inv X pins σ H s → RelV x v → Vals xs us → r x xs H Q →
    wpAny (model X.prog X.w) X.A (call (.builtin id) (v :: us)) (EP X pins σ Q) X.xe s

theorem Vals.one : ∀ {x : V} {us : List Value}, Vals [x] us → ∃ u, us = [u] ∧ RelV x u
  | _, _, .cons r .nil => ⟨_, rfl, r⟩
theorem Vals.rep {xs : List V} {us : List Value} (h : Vals xs us) : ∀ k : Nat, Vals (List.replicate k xs).flatten (List.replicate k us).flatten
  | 0 => .nil
  | k + 1 => by
    rw [List.replicate_succ, List.replicate_succ, List.flatten_cons, List.flatten_cons]
    exact Vals.append h (Vals.rep h k)
section
variable {X : Cx} {pins : List (Addr × Obj)} {σ : St} {H : Hp} {s : Shared} {l b : Addr} {xs ys zs : List V}

theorem Inv.lset {its its' : List Value} {n : Nat} {f : Array Value → Array Value} {t' : Nat} (I : Inv X pins σ H s) (hH : H l = some (.lst xs))
    (e : s.heap.get? l = some { cls := .type "list", data := .seq its.toArray n }) (hf : f its.toArray = its'.toArray) (hv : Vals ys its') (hz : ys.length ≤ sizeLine) :
    Inv X pins σ (upd H l (.lst ys)) { s with heap := s.heap.update l (Obj.mapSeq f), toks := t' } := by
  have q := PySem.IsL.update e f
  rw [hf] at q
  refine I.write (x := l) (e := l) (by rw [hH]; exact trivial) (.inl rfl) (fun b' u hb hu => (Heap.get?_update_other s.heap (Obj.mapSeq f) (Ne.symm hb)).trans hu) ⟨_, q⟩ ?_
  exact ⟨hz, its', _, hv, q⟩
theorem Inv.lnew {its : List Value} {t' : Nat} (I : Inv X pins σ H s) (hv : Vals ys its) (hz : ys.length ≤ sizeLine) :
    Inv X pins σ (upd H s.heap.objs.size (.lst ys)) { s with heap := s.heap.push { cls := .type "list", data := .seq its.toArray }, toks := t' } :=
  I.laid (fun _ _ q => Heap.get?_push_of_some _ q) (Nat.le_refl _) ⟨hz, its, 0, hv, Heap.get?_push_size _ rfl⟩
theorem Inv.fresh (I : Inv X pins σ H s) : H s.heap.objs.size = none := I.hok.fresh (Nat.le_refl _)
theorem Inv.lstM (I : Inv X pins σ H s) (hH : H l = some (.lst xs)) : xs.length ≤ sizeLine ∧ ∃ (its : List Value) (n : Nat), Vals xs its ∧ xs.length = its.length ∧ s.heap.get? l = some { cls := .type "list", data := .seq its.toArray n } := by
  obtain ⟨z, its, n, r, e⟩ := I.hok l _ hH
  exact ⟨z, its, n, r, r.length, e⟩

theorem notLongL {n : Nat} (h : n ≤ sizeLine) : Builtin.List.listTooLong n = false := by
  unfold Builtin.List.listTooLong
  exact decide_eq_false (by omega)
end

section
variable {X : Cx}

noncomputable def rAppend : V → List V → Hp → VK → Prop := fun x vs H Q => ∃ l xs y, x = .ref l ∧ vs = [y] ∧ H l = some (.lst xs) ∧ xs.length < sizeLine ∧ Q .non (upd H l (.lst (xs ++ [y])))
theorem mt_append : MtM X "list.append" rAppend := by
  intro pins s σ H x vs v us Q I rx rv h
  obtain ⟨l, xs, y, rfl, rfl, hH, hz, q⟩ := h
  cases rx
  obtain ⟨u, rfl, ru⟩ := rv.one
  obtain ⟨z, its, n, r, hl, e⟩ := I.lstM hH
  refine call_meets F.slot_list_append ⟨_, e, rfl⟩ F.entry_list_append (F.args_list_append_2 _ _) (PySem.list_append l its.toArray n u (by rw [List.size_toArray]; omega)) ⟨e, ?_⟩
  refine ⟨.non, _, I.lset (its' := its ++ [u]) hH e (by simp) (r.append (.cons ru .nil)) ?_, rfl, q⟩
  rw [List.length_append, List.length_singleton]
  omega

end

section
variable {prog : Program} {w : World} {A : Around} {E : Value → Shared → Prop} {s : Shared}
end

section
variable {X : Cx}
end
end L2
namespace Att
open PySem PySem.W PySem.Calls PyProof.Rows

theorem ints_of_wellAll {P : Params} {h : Heap} : ∀ (ns : List Int) (vs : List Value), WellAll P h vs (ns.map WData.int) → IntsAre vs ns := by
  intro ns
  induction ns with
  | nil =>
    intro vs w
    rw [List.map_nil] at w
    cases w
    exact .nil
  | cons n ns ih =>
    intro vs w
    rw [List.map_cons] at w
    cases w with
    | cons a b =>
      cases a
      exact .cons _ _ (ih _ b)

theorem script_of {l : OpenLaw} {n : Nat} (hn : l.most = some n) {P : Params} {h : Heap} {args : List WData} {vals : List Value}
    (hpre : l.row.toRowW.claim.pre args = true) (hwl : WellAll P h vals args) :
    ∃ a vs ns, vals = [Value.ref a] ∧ args = [WData.list (ns.map WData.int)] ∧ h.get? a = some { cls := .type "list", data := .seq vs.toArray } ∧ IntsAre vs ns ∧ ns.length ≤ n := by
  have hsh : WShape.hasAll [] args [.list .int] = true := (pre_splitW hpre).1
  have hc : l.pre.holds [] { args := args } = true := (pre_splitW hpre).2
  obtain ⟨d, r, rfl, h1, h2⟩ := hasAllW_cons hsh
  obtain rfl := hasAllW_nil h2
  obtain ⟨xs, rfl, h3⟩ := hasW_list h1
  obtain ⟨ns, rfl⟩ := items_int h3
  have hlen : ns.length ≤ n := by
    unfold OpenLaw.pre at hc
    have h4 : (WTm.not (.lt (.lit (.int (n : Int))) (.len (.arg 0)))).holds [] { args := [.list (ns.map .int)] } = true := by
      have h4 := (holds_andW hc).1
      rw [hn] at h4
      exact h4
    have h5 := condW_of h4 (w_not (w_lt w_lit (w_len_list (w_arg rfl))))
    rw [List.length_map] at h5
    refine Nat.le_of_not_lt fun q => ?_
    have q' : (n : Int) < ((ns.length : Nat) : Int) := by omega
    first
      | (rw [decide_eq_true q'] at h5; exact absurd h5 (by decide))
      | (simp at h5; omega)
  cases hwl with
  | cons w1 w2 =>
    cases w2
    cases w1 with
    | list ho hall => exact ⟨_, _, ns, rfl, rfl, ho, ints_of_wellAll ns _ hall, hlen⟩

theorem post_true (l : OpenLaw) (args : List WData) : l.row.toRowW.claim.post args (.bool true) args = true :=
  postW_of (r := l.row.toRowW) (X := (true == true))
    (show WShape.has [] (.bool true) .bool = true by first | rfl | decide | simp [WShape.has, WShape.arms, WShape.armsAll])
    (show (WTm.eq .res (.lit (.bool true))).value [] { args := args, res := some (.bool true), after := args } = some (.bool (true == true)) from w_eq_bool (w_res rfl) w_lit) rfl

theorem attach_call {l : OpenLaw} {n : Nat} {q : Program} {loose : List Str} {XP : (Str → Option Value) → Heap → Prop} {YP : World → Heap → Prop} {d : DefRec}
    (hn : l.most = some n) (hdf : d.params.defaults = [])
    (call : ∀ (w : World) (s₀ s₁ : Shared) (mg mb : Str → Option Value) (fa : Addr) (o : Obj) (pm cd doc : Value) (a : Addr) (vs : List Value) (ns : List Int),
      Ground q loose [] XP w s₀ mg mb s₁.heap → YP w s₁.heap →
      s₁.heap.get? fa = some o → o.data = .func (docDef d.name d.params d.body d.scope pm cd doc) → s₁.heap.CodeRec cd d.name → mg d.name = some (.ref fa) →
      s₁.heap.get? a = some { cls := .type "list", data := .seq vs.toArray } → IntsAre vs ns → ns.length ≤ n → s₁.gens = #[] →
      codeAny (model l.prog w) callerA (.call (.ref fa) ⟨[.ref a], []⟩) (fun r s' => r = .ok (.ret (.bool true)) ∧ OldK s₁.heap s'.heap ∧ s'.os = s₁.os ∧ AllBare s'.gens) s₁) :
    WalkO q loose XP YP l.row.toRowW d [] (fun f vs => PySem.call f vs) := by
  intro w s₀ s₁ mg mb G Y fa o pm cd doc dV kV ho hd hcd hD hmg hg args vals as hpre hlay hrd hwl hlo
  obtain rfl : dV = .none := Dflts.none hD hdf
  obtain rfl : kV = .none := Dflts.noKw hD
  obtain ⟨a, vs, ns, rfl, rfl, hobj, hints, hlen⟩ := script_of hn hpre hwl
  refine enter_call (codeAny_mono (call w s₀ s₁ mg mb fa o pm cd doc a vs ns G Y ho (fd_plain hd) hcd hmg hobj hints hlen hg) fun r s' hq => ?_)
  obtain ⟨rfl, h2, h3, h4⟩ := hq
  exact ⟨.inl ⟨.bool true, .bool true, [], rfl, fun _ => rfl, .bool true, post_true l _, fun _ => ⟨List.Pairwise.nil, fun _ hm => (nomatch hm)⟩⟩, h2, h3, h4⟩

section
variable {prog : Program} {w : World} {A : Around} {E : Value → Shared → Prop} {s : Shared} {K : Frag}

end
end Att

namespace L2
open PySem PySem.Spec PyProof.Rows

theorem vals_ints : ∀ {vs : List Value} {ns : List Int}, IntsAre vs ns → Vals (ns.map V.int) vs
  | _, _, .nil => .nil
  | _, _, .cons n t h => .cons ⟨t, rfl⟩ (vals_ints h)

def Only (H : Hp) : Prop := ∀ b, H b = none ∨ ∃ o xs, H b = some (.frz o (.lst xs))

theorem law_call {P : Program} {w : World} {K : PySem.W.Frag} {mg mb : Str → Option Value} {CX : CXT} {k : Nat} {fa a : Addr} {fd : FuncData} {x : Str} {sp : Sp} {s₁ : Shared} {vs : List Value} {ns : List Int}
    (KX : K.In s₁.heap) (hns : s₁.heap.Ns mainGlobals mg) (hb : s₁.heap.Ns builtinsNs mb) (hbb : ∀ x : Str, x ≠ "__name__" → mb x = bootBuiltins x) (hlim : s₁.heap.NoLimit) (hg : s₁.gens = #[])
    (ha : s₁.heap.get? a = some { cls := .type "list", data := .seq vs.toArray }) (hi : IntsAre vs ns) (hl : ns.length ≤ sizeLine) (hr : Room k callerA)
    (F : ∀ base : Heap, K.In base → base.Ns mainGlobals mg → FnOk P w K mg base CX k fa fd [x] sp) (hbind : ∀ (s : Shared) (u : Value), BindsTo s fd ⟨[u], []⟩ [(x, u)])
    (hsp : ∀ H : Hp, Only H → SqL K H a (ns.map V.int) → sp [.ref a] H (fun v _ => v = .bl true) fun _ _ _ => False)
    (hCX : ∀ H e s', CX [] H s₁ (fun _ _ _ => False) e s' → False) :
    codeAny (model P w) callerA (.call (.ref fa) ⟨[.ref a], []⟩) (fun r s' => r = .ok (.ret (.bool true)) ∧ OldK s₁.heap s'.heap ∧ s'.os = s₁.os ∧ AllBare s'.gens) s₁ := by
  have rv := vals_ints hi
  have lenV := hi.length
  -- from an abstract heap in which nothing but the script may be tracked
  have core : ∀ H : Hp, Only H → SqL K H a (ns.map V.int) → HOk P w H s₁.heap → (∀ b, H b ≠ none → b = a) → (H a ≠ none → K.lookup a = none) →
      codeAny (model P w) callerA (.call (.ref fa) ⟨[.ref a], []⟩) (fun r s' => r = .ok (.ret (.bool true)) ∧ OldK s₁.heap s'.heap ∧ s'.os = s₁.os ∧ AllBare s'.gens) s₁ := by
    intro H hO hS hok hA hK
    have base_of : ∀ {b : Addr} {o : Obj}, s₁.heap.get? b = some o → H b = none → (hidT s₁.heap H).get? b = some o := fun e n => hidT_get e n
    have noA : ∀ {b : Addr} {o : Obj} {es : Array DictEntry} {ep : Nat}, s₁.heap.get? b = some o → o.data = .dict es ep → H b = none := fun {b o es ep} e d => by
      cases q : H b with
      | none => rfl
      | some u =>
        have e' : b = a := hA b (by rw [q]; simp)
        subst e'
        rw [ha] at e; cases e
        have d' : Data.seq vs.toArray _ = Data.dict es ep := d
        cases d'
    have nsK : ∀ {b : Addr} {m : Str → Option Value}, s₁.heap.Ns b m → (hidT s₁.heap H).Ns b m := fun {b m} ⟨o, es, ep, e, d, r⟩ => ⟨o, es, ep, base_of e (noA e d), d, r⟩
    have hKb : K.In (hidT s₁.heap H) := fun b o e => base_of (KX b o e) (by
      cases q : H b with
      | none => rfl
      | some u =>
        have e' : b = a := hA b (by rw [q]; simp)
        subst e'
        rw [hK (by rw [q]; simp)] at e; cases e)
    have hM : Mod K mg (hidT s₁.heap H) := ⟨hKb, nsK hns, ⟨mb, nsK hb, hbb⟩, let ⟨mc, h1, h2⟩ := hlim; ⟨mc, nsK h1, h2⟩⟩
    have e0 : Env0 P w K mg (hidT s₁.heap H) callerA [] s₁ H := ⟨rfl, hM, fun b o e => of_hidT e, Nat.le_of_eq (hidT_size _ _), trivial, fun b hb => absurd (show b ∈ ([] : List Addr) from hb) (by simp), hok, .of_eq hg⟩
    refine codeAny_mono ((F _ hKb (nsK hns)).run callerA [] s₁ H ⟨[.ref a], []⟩ [.ref a] [.ref a] _ _ hr e0 (hbind s₁ (.ref a)) (.cons rfl .nil) (hsp H hO hS)) fun r s' h => ?_
    cases r with
    | error e => exact (hCX H e s' h).elim
    | ok fl =>
      cases fl with
      | next => exact False.elim h
      | brk => exact False.elim h
      | cont => exact False.elim h
      | ret u =>
        obtain ⟨v, H', os, bare, un, hok', r', q⟩ := h
        have q' : v = .bl true := q
        subst q'
        obtain rfl : u = Value.bool true := r'
        refine ⟨rfl, OldK.of_keep fun b o e => ?_, os, bare⟩
        cases q : H b with
        | none => exact un.keep b o e q (by intro z; exact absurd (show b ∈ ([] : List Addr) from z) (by simp)) (by simp)
        | some u =>
          rcases hO b with z | ⟨ob, xs, z⟩
          · rw [q] at z; cases z
          · have z2 := un.frzs b ob _ z
            obtain ⟨e1, _⟩ := hok b _ z
            obtain ⟨e2, _⟩ := hok' b _ z2
            rw [e] at e1; cases e1
            exact e2
  cases hk : K.lookup a with
  | some o =>
    -- the script is one of the module's own objects
    have e := KX a o hk
    rw [ha] at e
    cases e
    refine core (fun _ => none) (fun _ => .inl rfl) (.inr ⟨_, vs.toArray, _, hk, rfl, rfl, rfl, by rw [List.size_toArray, lenV]; exact hl, by simpa using rv⟩) (fun b u z => by have z' : (none : Option HO) = some u := z; cases z') (fun b z => absurd rfl z) fun z => absurd rfl z
  | none =>
    refine core (fun b => if b = a then some (.frz { cls := .type "list", data := .seq vs.toArray } (.lst (ns.map V.int))) else none) (fun b => ?_) (.inl (.inr ⟨{ cls := .type "list", data := .seq vs.toArray }, if_pos rfl⟩)) (fun b u z => ?_) (fun b z => ?_) fun _ => hk
    · by_cases hb : b = a
      · exact .inr ⟨_, _, if_pos hb⟩
      · exact .inl (if_neg hb)
    · by_cases hb : b = a
      · have z' := (if_pos hb).symm.trans z
        cases z'
        subst hb
        exact ⟨ha, by rw [List.length_map]; exact hl, vs, _, rv, ha⟩
      · have z' := (if_neg hb).symm.trans z
        cases z'
    · by_cases hb : b = a
      · exact hb
      · exact absurd (if_neg hb) z
end L2

namespace L2
open PySem PySem.Spec PyProof.Rows

noncomputable abbrev KOf {K : PySem.W.Frag} {h : Heap} (_ : K.In h) : PySem.W.Frag := K

theorem walk_of {l : PySem.W.OpenLaw} {n k : Nat} {q : Program} {loose : List Str} {XP : (Str → Option Value) → Heap → Prop} {YP : World → Heap → Prop} {d : DefRec} {K : Params → PySem.W.Frag} {CX : World → CXT} {sp : World → Sp} {x : Str}
    (hn : l.most = some n) (hn2 : n ≤ sizeLine) (hdf : d.params.defaults = []) (hr : Room k callerA)
    (hY : ∀ (w : World) (h : Heap), YP w h → (K w.params).In h)
    (F : ∀ (w : World) (mg : Str → Option Value) (fa : Addr) (h : Heap), (K w.params).In h → h.Ns mainGlobals mg → mg d.name = some (.ref fa) →
      ∃ fd : FuncData, (∀ (s : Shared) (u : Value), BindsTo s fd ⟨[u], []⟩ [(x, u)]) ∧
        ∀ base : Heap, (K w.params).In base → base.Ns mainGlobals mg → FnOk l.prog w (K w.params) mg base (CX w) k fa fd [x] (sp w))
    (hsp : ∀ (w : World) (H : Hp) (a : Addr) (ns : List Int), ns.length ≤ n → Only H → SqL (K w.params) H a (ns.map V.int) → sp w [.ref a] H (fun v _ => v = .bl true) fun _ _ _ => False)
    (hCX : ∀ (w : World) (H : Hp) (s : Shared) (e : Value) (s' : Shared), CX w [] H s (fun _ _ _ => False) e s' → False) :
    PySem.W.WalkO q loose XP YP l.row.toRowW d [] (fun f vs => PySem.call f vs) := by
  refine Att.attach_call hn hdf fun w s₀ s₁ mg mb fa o pm cd doc a vs ns G Y ho hd hcd hmg hobj hints hlen hg => ?_
  have KX := hY w _ Y
  obtain ⟨fd, hb, hF⟩ := F w mg fa _ KX G.T.g hmg
  exact law_call KX G.T.g G.T.b G.T.builtins G.T.nolimit hg hobj hints (Nat.le_trans hlen hn2) hr hF hb (fun H hO hS => hsp w H a ns hlen hO hS) fun H e s' => hCX w H s₁ e s'
end L2

/- THE LAST THEOREM (shape; LID, My.* are yours):
   My.Adr: a structure of the addresses that your layer names (classes, functions); My.Txt K t: a structure (Prop) of the equations over K;
   My.txt_mk : {K} {implicit addresses ..} (e1 : nsIn K mainGlobals "law" = some (some (.ref f))) (e2 : K.lookup f = some ⟨oc, od, .func (fnOf "law" "law" params body scope dV kV doc pm an cdv ct), sl⟩) (e3 : codeIn K cdv "law" = true) .. : ∃ t, My.Txt K t

set_option maxRecDepth 100000 in
set_option maxHeartbeats 0 in
theorem PySem.Challenge.cw_LID_holds : PySem.Challenge.rw_LID.Holds := by
  w_on; o_law; k_head; (case hw => w_witness2)
  k_fill
  refine L2.walk_of (l := PySem.Challenge.rw_LID) (n := 63) (k := 40) (x := "script") (CX := fun w => ..) (sp := fun _ => My.sp_law) rfl (by decide) rfl ⟨rfl, by decide, by decide⟩ (fun w h Y => PySem.W.kIn_of Y) ?F ?S ?C
  case F =>
    intro w mg fa h KX G hmg
    have T : ∃ t, My.Txt (L2.KOf KX) t := by
      dsimp only [L2.KOf]                          -- K must stand as «<heap const> w.params» for k_is
      refine' My.txt_mk ?e1 ?e2 ?e3 ..
      (case e1 => PySem.W.k_is)                    -- in the order: a name -> its address -> its object -> its parts
      (case e2 => PySem.W.k_is)
      ..
    obtain ⟨t, T⟩ := T
    have e0 := hmg.symm.trans (PySem.W.mg_of KX G T.law)
    cases e0                                       -- fa is the law's own address
    exact ⟨_, fun s u => .of_eq rfl, fun base kb nb => My.law_fn T kb nb⟩     -- if «.of_eq rfl» comes too early: refine' ⟨_, ?b, fun base kb nb => My.law_fn T kb nb⟩; exact fun s u => .of_eq rfl
  case S => exact fun w H a ns hl hO hS => ..
  case C => exact ..
(the tactic k_is has no namespace: write k_is) -/

namespace L2
open PySem PySem.Spec PyProof.Rows

noncomputable def defArgs (s : Stmt) : Arguments := match s with
  | .FunctionDef _ a _ _ _ _ _ _ _ _ => a
  | _ => { posonlyargs := [], args := [], vararg := none, kwonlyargs := [], kw_defaults := [], kwarg := none, defaults := [] }
noncomputable def defBody (s : Stmt) : List Stmt := match s with
  | .FunctionDef _ _ b _ _ _ _ _ _ _ => b
  | _ => []
noncomputable def defScope (s : Stmt) : Scope := match s with
  | .FunctionDef _ _ _ _ _ _ sc _ _ _ => sc
  | _ => { kind := .function, names := [], isGenerator := false, isCoroutine := false }

noncomputable abbrev CX0 : CXT := fun _ _ _ _ _ _ => False
noncomputable abbrev E0 : XK := fun _ _ _ => False
structure Fun (K : PySem.W.Frag) (x qual : Str) (st : Stmt) (f : Addr) (fd : FuncData) : Prop where
  ex : ∃ (oc : Value) (od : Option Addr) (kV doc pm : Value) (an : Option Addr) (cdv ct : Value) (osl : Array (Option Value)),
    fd = PySem.W.fnOf x qual (defArgs st) (defBody st) (defScope st) .none kV doc pm an cdv ct ∧ K.lookup f = some ⟨oc, od, .func fd, osl⟩ ∧ PySem.W.codeIn K cdv qual = true
  kp : PySem.W.keepIn K (.ref f) = true
section
variable {P : Program} {w : World} {K : PySem.W.Frag} {mg : Str → Option Value} {base : Heap}
theorem Fun.ok {x qual : Str} {st : Stmt} {f : Addr} {fd : FuncData} {N ps : List Str} {k : Nat} {sp : Sp} (F : Fun K x qual st f fd) (S : FnScope N ps (defScope st)) (len : ∀ vs H Q E, sp vs H Q E → vs.length = ps.length)
    (hbody : ∀ (cdv : Value) (A : Around) (outer : List Env) (s : Shared) (H : Hp) (vs : List V) (Q : VK) (E : XK), Room k (A.deeper (envOfC qual (defScope st) s.heap.objs.size f cdv)) → sp vs H Q E →
      ∃ t, PSs (cxOf CX0 P w K mg base N qual (defScope st) f cdv A outer s H E).nox (defBody st) t ∧ t { nx := fun _ H' => Q .non H', rt := Q } (start N vs) H) : FnOk P w K mg base CX0 (k + 1) f fd ps sp := by
  obtain ⟨oc, od, kV, doc, pm, an, cdv, ct, osl, rfl, lk, hcd⟩ := F.ex
  refine fn_of lk hcd S len fun A outer s H vs Q E hr hsp => ?_
  obtain ⟨t, h, q⟩ := hbody cdv A outer s H vs Q E hr hsp
  exact ⟨t, h.nox, q⟩
theorem Fun.binds {x qual : Str} {st : Stmt} {f : Addr} {fd : FuncData} {ps : List Str} (F : Fun K x qual st f fd)
    (h : ∀ (kV doc pm : Value) (an : Option Addr) (cdv ct : Value) (us : List Value), us.length = ps.length → bindArgs (PySem.W.fnOf x qual (defArgs st) (defBody st) (defScope st) .none kV doc pm an cdv ct) ⟨us, []⟩ = pure (ps.zip us)) : Binds K fd ps [] := by
  obtain ⟨oc, od, kV, doc, pm, an, cdv, ct, osl, rfl, lk, hcd⟩ := F.ex
  exact .all (h kV doc pm an cdv ct)
theorem fun_mk {x qual : Str} {st : Stmt} {f : Addr} {oc : Value} {od an : Option Addr} {osl : Array (Option Value)} {kV doc pm cdv ct : Value} (l : K.lookup f = some ⟨oc, od, .func (PySem.W.fnOf x qual (defArgs st) (defBody st) (defScope st) .none kV doc pm an cdv ct), osl⟩)
    (c : PySem.W.codeIn K cdv qual = true) (k : PySem.W.keepIn K (.ref f) = true) : Fun K x qual st f (PySem.W.fnOf x qual (defArgs st) (defBody st) (defScope st) .none kV doc pm an cdv ct) := ⟨⟨oc, od, kV, doc, pm, an, cdv, ct, osl, rfl, l, c⟩, k⟩
end
theorem hu_of {A : Around} {k : Nat} (hr : Room k A) : A.units + 1 < cLine := Nat.lt_of_le_of_lt (Nat.add_le_add_left (by decide : 1 ≤ 64) _) hr.units
section
variable {X : Cx}
theorem pv (i : Nat) {x : Str} {pos : Pos} (hN : X.N[i]? = some x := by rfl) (hv : Vis X.env.scope x := by first | exact Or.inl rfl | exact Or.inr (Or.inl rfl) | exact Or.inr (Or.inr rfl)) (hd : (x == ("__debug__" : Str)) = false := by decide)
    (hcd : (x == ("__classdict__" : Str)) = false := by decide) : PE X (.Name x pos) (tVar i) := pe_var hN hv hd hcd
end

def Same (H H' : Hp) : Prop := ∀ b o, H b = some o → H' b = some o
theorem Same.refl (H : Hp) : Same H H := fun _ _ h => h
theorem Same.trans {H H1 H2 : Hp} (a : Same H H1) (b : Same H1 H2) : Same H H2 := fun c o h => b c o (a c o h)
theorem Same.free {H H' : Hp} (e : Same H H') {l : Addr} (h : H' l = Option.none) : H l = Option.none := by
  cases q : H l with
  | none => rfl
  | some o =>
    rw [e l o q] at h
    cases h
theorem Same.seq {K : PySem.W.Frag} {H H' : Hp} {a : Addr} {xs : List V} (e : Same H H') (h : SqL K H a xs) : SqL K H' a xs := by
  rcases h with (h | ⟨o, h⟩) | h
  · exact .inl (.inl (e _ _ h))
  · exact .inl (.inr ⟨o, e _ _ h⟩)
  · exact .inr h

section
variable {κ : Type} [DecidableEq κ]
end
end L2
set_option Elab.async false
set_option linter.all false
set_option maxRecDepth 100000
set_option maxHeartbeats 4000000
namespace L2
open PySem PySem.Spec PyProof.Rows

theorem closure_go {env : Env} {f : Str × NameKind → List (Str × Addr) → Sem (ForInStep (List (Str × Addr)))}
    (hf : ∀ n k r, f (n, k) r = if (k == NameKind.free) = true then (cellOf env n >>= fun c => pure (ForInStep.yield ((n, c) :: r))) else pure (ForInStep.yield r)) :
    ∀ (names : List (Str × NameKind)) (acc : List (Str × Addr)), (∀ y ∈ names, y.2 = .free → ∃ c, env.cells.lookup y.1 = some c) → (∀ y c, acc.lookup y = some c → env.cells.lookup y = some c) →
      ∃ cl, (forIn names acc f : Sem (List (Str × Addr))) = pure cl ∧ (∀ y c, cl.lookup y = some c → env.cells.lookup y = some c) ∧ (∀ y ∈ names, y.2 = .free → ∃ c, cl.lookup y.1 = some c) ∧ ∀ y c, acc.lookup y = some c → ∃ c', cl.lookup y = some c'
  | [], acc, _, ha => ⟨acc, rfl, ha, (fun y hy => absurd hy (by simp)), fun y c e => ⟨c, e⟩⟩
  | (n, k) :: r, acc, hn, ha => by
    rw [List.forIn_cons, hf]
    by_cases hk : (k == NameKind.free) = true
    · obtain ⟨c, hc⟩ := hn (n, k) List.mem_cons_self (by simpa using hk)
      have hc' : cellOf env n = pure c := by unfold cellOf; rw [show env.cells.lookup n = some c from hc]
      have ha' : ∀ y d, ((n, c) :: acc).lookup y = some d → env.cells.lookup y = some d := fun y d e => by
        rw [List.lookup_cons] at e
        by_cases hy : (y == n) = true
        · rw [hy] at e
          have e1 : y = n := by simpa using hy
          cases e
          rw [e1]; exact hc
        · have hy' : (y == n) = false := by simpa using hy
          rw [hy'] at e
          exact ha y d e
      obtain ⟨cl, h1, h2, h3, h4⟩ := closure_go hf r ((n, c) :: acc) (fun y hy => hn y (List.mem_cons_of_mem _ hy)) ha'
      refine ⟨cl, ?_, h2, fun y hy hf => ?_, fun y d e => ?_⟩
      · rw [if_pos hk, hc']
        exact h1
      · rcases List.mem_cons.mp hy with e | hy
        · subst e
          exact h4 n c (by simp [List.lookup_cons])
        · exact h3 y hy hf
      · by_cases hy : (y == n) = true
        · exact h4 y c (by rw [List.lookup_cons, hy])
        · have hy' : (y == n) = false := by simpa using hy
          exact h4 y d (by rw [List.lookup_cons, hy']; exact e)
    · obtain ⟨cl, h1, h2, h3, h4⟩ := closure_go hf r acc (fun y hy => hn y (List.mem_cons_of_mem _ hy)) ha
      refine ⟨cl, ?_, h2, fun y hy hf => ?_, h4⟩
      · rw [if_neg hk]
        exact h1
      · rcases List.mem_cons.mp hy with e | hy
        · subst e
          exact absurd (show (k == NameKind.free) = true by simpa using hf) hk
        · exact h3 y hy hf
theorem closure_ok {env : Env} {scope : Scope} (hn : ∀ y ∈ scope.names, y.2 = .free → ∃ c, env.cells.lookup y.1 = some c) :
    ∃ cl, closureFor scope env = pure cl ∧ (∀ y c, cl.lookup y = some c → env.cells.lookup y = some c) ∧ ∀ y ∈ scope.names, y.2 = .free → ∃ c, cl.lookup y.1 = some c := by
  obtain ⟨cl, h1, h2, h3, _⟩ := closure_go (env := env) (f := fun x r => match x with | (name, kind) => if (kind == NameKind.free) = true then (cellOf env name >>= fun c => pure (ForInStep.yield ((name, c) :: r))) else pure (ForInStep.yield r))
    (fun n k r => rfl) scope.names [] hn (fun y c e => by cases e)
  refine ⟨cl, ?_, h2, h3⟩
  unfold closureFor
  simp only [bind_pure]
  refine Eq.trans ?_ h1
  congr 1

theorem relabel_cf {env : Env} {x : Str} : ∀ {names : List (Str × NameKind)}, (∀ y ∈ names, y.2 ≠ .cell) →
    ((names.map fun (n, k) => if (k == NameKind.free && env.scope.kind == .function && env.kindOf n == some .cell) then (n, NameKind.cell) else (n, k)).lookup x = some .cell ∨
     (names.map fun (n, k) => if (k == NameKind.free && env.scope.kind == .function && env.kindOf n == some .cell) then (n, NameKind.cell) else (n, k)).lookup x = some .free) → (x, NameKind.free) ∈ names
  | [], _, h => by rcases h with h | h <;> cases h
  | (n, k) :: r, hc, h => by
    have ih := @relabel_cf env x r (fun y hy => hc y (List.mem_cons_of_mem _ hy))
    have hk : k ≠ .cell := hc (n, k) List.mem_cons_self
    rw [List.map_cons] at h
    by_cases hq : (k == NameKind.free && env.scope.kind == .function && env.kindOf n == some .cell) = true
    · have hfree : k = .free := by simp at hq; exact hq.1.1
      simp only [hq, if_true] at h
      rw [List.lookup_cons] at h
      cases hx : (x == n) with
      | true =>
        have e : x = n := by simpa using hx
        rw [e, hfree]
        exact List.mem_cons_self
      | false =>
        rw [hx] at h
        exact List.mem_cons_of_mem _ (ih h)
    · simp only [hq] at h
      simp only [Bool.false_eq_true, if_false] at h
      rw [List.lookup_cons] at h
      cases hx : (x == n) with
      | true =>
        have e : x = n := by simpa using hx
        rw [hx] at h
        have hk2 : k = .free := by
          rcases h with h | h
          · exact absurd (Option.some.inj h) hk
          · exact Option.some.inj h
        rw [e, hk2]
        exact List.mem_cons_self
      | false =>
        rw [hx] at h
        exact List.mem_cons_of_mem _ (ih h)

noncomputable def cxComp (X : Cx) (own N' : List Str) (scope : Scope) (cl : List (Str × Addr)) (C : Addr) (s : Shared) (H : Hp) (pins : List (Addr × Obj)) (fp : List Addr) : Cx where
  prog := X.prog
  w := X.w
  K := X.K
  mg := X.mg
  base := X.base
  A := X.A
  N := own ++ N'
  s₀ := s
  H₀ := H
  env := compEnvC scope cl C X.env
  outer := X.stack
  stack := X.stack
  ex := fp
  fn := fun _ => false
  calm := X.calm
  pn := X.pn ++ pins
  xe := fun _ _ => False

structure CompOk (X : Cx) (own N' : List Str) (scope : Scope) : Prop where
  like : N'.length = X.N.length ∧ ∀ (i : Nat) (x : Str), N'[i]? = some x → X.N[i]? = some x ∨ ∀ z ∈ scope.names, z.1 ≠ x
  kind : scope.kind = .function
  cell : ∀ y ∈ scope.names, y.2 ≠ .cell
  names : ∀ y ∈ scope.names, y.2 = .local → scope.names.lookup y.1 = some .local
  free : ∀ y ∈ scope.names, y.2 = .free → X.env.kindOf y.1 = some .cell ∨ X.env.kindOf y.1 = some .free
  away : ∀ y ∈ N', scope.names.lookup y ≠ some .local

theorem inv_comp {X : Cx} {own N' : List Str} {scope : Scope} {cl : List (Str × Addr)} {pins : List (Addr × Obj)} {σ : St} {H : Hp} {s : Shared} {fp : List Addr} {h₁ : Heap} {tk : Nat}
    (I : Inv X pins σ H s) (ok : CompOk X own N' scope) (c1 : ∀ y c, cl.lookup y = some c → X.env.cells.lookup y = some c) (c2 : ∀ y ∈ scope.names, y.2 = .free → ∃ c, cl.lookup y.1 = some c)
    (hfp : ∀ b ∈ fp, FpOk X pins H b) (hob : ∀ b ∈ fp, ∃ o, s.heap.get? b = some o)
    (hns : h₁.Ns (s.heap.objs.size + 1) fun _ => none) (hk : ∀ b o, s.heap.get? b = some o → h₁.get? b = some o) (hl : h₁.get? s.heap.objs.size = some { cls := .type "list", data := .seq ([] : List Value).toArray }) :
    Inv (cxComp X own N' scope cl (s.heap.objs.size + 1) s H pins fp) [] (List.replicate own.length none ++ σ) (upd H s.heap.objs.size (.lst [])) { s with heap := h₁, toks := tk } := by
  have lt : ∀ b ∈ fp, b < s.heap.objs.size := fun b hb => let ⟨o, e⟩ := hob b hb; Heap.lt_size e
  have clt : ∀ x c, X.env.cells.lookup x = some c → c < s.heap.objs.size := fun x c e => let ⟨v, z⟩ := I.cell x c e; z.lt
  have hD : H s.heap.objs.size = none := I.hok.fresh (Nat.le_refl _)
  have hC : H (s.heap.objs.size + 1) = none := I.hok.fresh (Nat.le_succ _)
  have nDC : s.heap.objs.size + 1 ≠ s.heap.objs.size := Nat.succ_ne_self _
  refine ⟨⟨I.ok.mod, ok.kind, I.ok.glob, I.ok.blt, Nat.le_succ _, fun x y c e1 e2 => I.ok.inj x y c (c1 _ _ e1) (c1 _ _ e2), fun x hx => ?_, fun x c hf => ?_, I.ok.hd, I.ok.frames, .inl rfl, fun b hb => ⟨?_, fun x c e => ?_⟩, I.bs, Nat.le_trans I.ok.bsz I.sz, fun b o e hb => ?_, fun b hb hs => ?_, I.stack, I.stkFree⟩,
    rfl, I.bare, Un.laid hk (Nat.le_refl _) hD, ⟨_, hns, fun i x v e1 e2 e3 => ?_⟩, fun x c e => ?_, ?_, fun x c e => ?_, fun p hp => ?_, I.hok.laid hk (Nat.le_refl _) ⟨Nat.zero_le _, [], 0, .nil, hl⟩, ?_⟩
  · have hm : (x, NameKind.free) ∈ scope.names := relabel_cf ok.cell hx
    exact c2 _ hm rfl
  · exact absurd (show false = true from hf) Bool.false_ne_true
  · exact Nat.ne_of_lt (Nat.lt_succ_of_lt (lt b hb))
  · exact (hfp b hb).2.2.2.2.1 x c (c1 _ _ e)
  · rcases (hfp b hb).2.2.2.1 with z | z
    · exact I.ok.noex b o e z
    · exact absurd (Nat.lt_of_lt_of_le (Heap.lt_size e) (Nat.le_trans I.ok.bsz z)) (Nat.lt_irrefl _)
  · rcases List.mem_cons.mp (I.stkSub b hs) with z | z
    · exact (hfp b hb).2.1 z
    · exact (hfp b hb).2.2.1 z
  · -- the names
    have hlen : (List.replicate own.length (none : Option V)).length = own.length := List.length_replicate
    by_cases hi : i < own.length
    · rw [List.getElem?_append_left (by rw [hlen]; exact hi), List.getElem?_replicate, if_pos hi] at e2
      cases e2
    · have e0' : N'[i - own.length]? = some x := by
        have : (own ++ N')[i]? = some x := e1
        rwa [List.getElem?_append_right (by omega)] at this
      have e2' : σ[i - own.length]? = some (some v) := by
        rwa [List.getElem?_append_right (by rw [hlen]; omega), hlen] at e2
      have hxN : x ∈ N' := List.mem_of_getElem? e0'
      have hcf : (compEnvC scope cl (s.heap.objs.size + 1) X.env).kindOf x = some .cell ∨ (compEnvC scope cl (s.heap.objs.size + 1) X.env).kindOf x = some .free := by
        rcases e3 with z | z | z
        · exfalso
          have key : ∀ {names : List (Str × NameKind)}, (names.map fun (n, k) => if (k == NameKind.free && X.env.scope.kind == .function && X.env.kindOf n == some .cell) then (n, NameKind.cell) else (n, k)).lookup x = some .local → names.lookup x = some .local := by
            intro names
            induction names with
            | nil => intro h; cases h
            | cons p r ih =>
              obtain ⟨n, k⟩ := p
              intro h
              rw [List.map_cons] at h
              by_cases hq : (k == NameKind.free && X.env.scope.kind == .function && X.env.kindOf n == some .cell) = true
              · simp only [hq, if_true] at h
                rw [List.lookup_cons] at h
                rw [List.lookup_cons]
                cases hx : (x == n) with
                | true => rw [hx] at h; cases h
                | false => rw [hx] at h; exact ih h
              · simp only [hq] at h
                simp only [Bool.false_eq_true, if_false] at h
                rw [List.lookup_cons] at h
                rw [List.lookup_cons]
                cases hx : (x == n) with
                | true => rw [hx] at h; exact h
                | false => rw [hx] at h; exact ih h
          exact ok.away x hxN (key z)
        · exact .inl z
        · exact .inr z
      have hm : (x, NameKind.free) ∈ scope.names := relabel_cf ok.cell hcf
      have e1' : X.N[i - own.length]? = some x := (ok.like.2 _ _ e0').resolve_right fun no => no _ hm rfl
      obtain ⟨c, hc⟩ := c2 _ hm rfl
      have hc' := c1 _ _ hc
      obtain ⟨m0, _, hl0⟩ := I.loc
      have hk0 := ok.free _ hm rfl
      have vis : Vis X.env.scope x := by
        rcases hk0 with z | z
        · exact .inr (.inl z)
        · exact .inr (.inr z)
      obtain ⟨u, r, l⟩ := hl0 _ x v e1' e2' vis
      refine ⟨u, r, .inr ⟨hcf, c, hc, ?_⟩⟩
      rcases l with ⟨z, _⟩ | ⟨_, c', z1, z2⟩
      · rcases hk0 with q | q
        · rw [show X.env.kindOf x = _ from q] at z; cases z
        · rw [show X.env.kindOf x = _ from q] at z; cases z
      · rw [hc'] at z1
        cases z1
        obtain ⟨o, ho, hd⟩ := z2
        exact ⟨o, hk _ _ ho, hd⟩
  · obtain ⟨v, o, ho, hd⟩ := I.cell x c (c1 _ _ e)
    exact ⟨v, o, hk _ _ ho, hd⟩
  · show upd H s.heap.objs.size (.lst []) (s.heap.objs.size + 1) = none
    rw [upd_ne nDC]; exact hC
  · rw [upd_ne (Nat.ne_of_lt (clt x c (c1 _ _ e)))]
    exact I.freeC x c (c1 _ _ e)
  · have hp' : p ∈ X.pn ++ pins := by
      have : p ∈ (X.pn ++ pins) ++ [] := hp
      simpa using this
    obtain ⟨e, n, ne, nf, d⟩ := I.pin p hp'
    have lp := Heap.lt_size e
    refine ⟨hk _ _ e, by rw [upd_ne (Nat.ne_of_lt lp)]; exact n, Nat.ne_of_lt (Nat.lt_succ_of_lt lp), fun hs => ?_, d⟩
    rcases List.mem_cons.mp (I.stkSub p.1 hs) with z | z
    · exact ne z
    · exact nf z
  · show (List.replicate own.length none ++ σ).length = (own ++ N').length
    rw [List.length_append, List.length_replicate, List.length_append, ok.like.1, I.len]

section
variable {prog : Program} {w : World} {A : Around} {R : Result → Shared → Prop} {s : Shared}
theorem compLoop_any {elt target iter : Expr} {ifs : List Expr} {scope : Scope} {pos : Pos} {it acc : Value} {env : Env} (I : Nat → Shared → Prop)
    (turn : ∀ n s, I n s → wpAny (model prog w) A (pyNext it) (fun r s₁ => match r with
      | none => R (.ok .next) s₁
      | some v => wpAny (model prog w) A (letOwnedTupleGo target it v) (fun _ s₁' => wpAny (model prog w) A (assign target env v) (fun _ s₂ =>
          wpAny (model prog w) A (forIn ifs true fun c r => if r = true then do let ok ← isTrue c env (eval c env); pure (ForInStep.yield ok) else pure (ForInStep.yield r)) (fun ok s₃ =>
            if ok = true then wpAny (model prog w) A (eval elt env) (fun x s₄ =>
              wpAny (model prog w) A (call (.builtin "list.append") [acc, x]) (fun _ s₅ => ∃ m, m < n ∧ I m s₅) (fun _ _ => False) s₄) (fun _ _ => False) s₃
            else ∃ m, m < n ∧ I m s₃) (fun _ _ => False) s₂) (fun _ _ => False) s₁') (fun _ _ => False) s₁) (fun _ _ => False) s)
    (n : Nat) (h : I n s) : codeAny (model prog w) A (.compLoop (.ListComp elt [⟨target, iter, ifs, 0⟩] scope pos) 0 it acc env) R s := by
  refine codeAny_loop rfl I (fun n s hI => ?_) n h
  show wpAny _ A ((compTurn (.ListComp elt [⟨target, iter, ifs, 0⟩] scope pos) 0 it acc env).onRaise (fun x => do noteFrame x env; theTreesLotGoes x)) _ _ s
  refine wpAny_noted ?_
  rw [compTurn_list]
  refine wpAny_bind (wpAny_standAt (wpAny_bind (wpAny_mono (turn n s hI) (fun r s₁ h₁ => ?_) fun _ _ h' => False.elim h')))
  cases r with
  | none => exact wpAny_pure h₁
  | some v =>
    refine wpAny_bind (wpAny_mono h₁ (fun _ s₁' h₁' => ?_) fun _ _ h' => False.elim h')
    refine wpAny_bind (wpAny_mono h₁' (fun _ s₂ h₂ => wpAny_bind (wpAny_mono h₂ (fun ok s₃ h₃ => ?_) fun _ _ h' => False.elim h')) fun _ _ h' => False.elim h')
    cases ok with
    | false => exact wpAny_pure ⟨rfl, h₃⟩
    | true =>
      exact wpAny_bind (wpAny_bind (wpAny_mono h₃ (fun x s₄ h₄ => wpAny_bind (wpAny_mono h₄ (fun _ s₅ h₅ => wpAny_pure (wpAny_pure ⟨rfl, h₅⟩)) fun _ _ h' => False.elim h')) fun _ _ h' => False.elim h'))
end

def PIfs (X : Cx) (ifs : List Expr) (t : TT) : Prop :=
  ∀ (pins : List (Addr × Obj)) (s : Shared) (σ : St) (H : Hp) (Q : Bool → Hp → Prop), Inv X pins σ H s → t σ H Q →
    wpAny (model X.prog X.w) X.A (forIn ifs true fun c r => if r = true then do let ok ← isTrue c X.env (eval c X.env); pure (ForInStep.yield ok) else pure (ForInStep.yield r)) (TP X pins σ Q) X.xe s
noncomputable def tTrue : TT := fun _ H Q => Q true H
theorem pifs_nil {X : Cx} : PIfs X [] tTrue := fun _ _ _ H _ I h => wpAny_tests_nil ⟨H, I, h⟩
theorem pifs_one {X : Cx} {c : Expr} {t : TT} (h : PT X c t) : PIfs X [c] t := fun pins s σ H Q I hw => wpAny_tests_one (h pins s σ H Q I hw)

def cComp (k : Nat) (wi : TI) (g : TG) (tt : TT) (te : TE) (σ : St) (H : Hp) (End : Addr → Hp → Prop) : Prop := wi σ H fun J H1 => ∀ D, H1 D = none →
  ∃ W : Nat → Nat → List V → Hp → Prop, (∃ m, W 0 m [] (upd H1 D (.lst []))) ∧ ∀ i m xs H, W i m xs H → H D = some (.lst xs) ∧
    ((J.stop i H ∧ End D H) ∨ (J.go i H ∧ ∀ x H', J.yld i H x H' → g x (List.replicate k none ++ σ) H' fun σ2 H2 => tt σ2 H2 fun b H3 => if b = true then
      te σ2 H3 fun y H4 => ∃ ys, H4 D = some (.lst ys) ∧ ys.length < sizeLine ∧ ∃ m', m' < m ∧ W (i + 1) m' (ys ++ [y]) (upd H4 D (.lst (ys ++ [y]))) else ∃ m', m' < m ∧ W (i + 1) m' xs H3))

def GOk (k : Nat) (g : TG) : Prop := ∀ x σ H Q, g x σ H Q → g x σ H fun σ2 H2 => Q σ2 H2 ∧ ∀ (j : Nat), k ≤ j → σ2[j]? = σ[j]?
theorem gok_name {k i : Nat} (hi : i < k := by decide) : GOk k (gName i) := fun x σ H Q h => ⟨h, fun j hj => List.getElem?_set_ne (by omega)⟩
theorem comp_core {X : Cx} {own : List Str} {scope : Scope} {elt tg iter : Expr} {ifs : List Expr} {pos p2 : Pos} {wi : TI} {g : TG} {tt : TT} {te : TE} {use : Option (Value → Sem Unit)} {pins : List (Addr × Obj)} {s : Shared} {σ : St} {H : Hp} {End : Addr → Hp → Prop} {Q : Value → Shared → Prop}
    (hc : X.calm = true) (ok : CompOk X own N' scope) (gk : GOk own.length g) (hi : PI X tg iter wi)
    (hg : ∀ cl C s H pins fp, PG (cxComp X own N' scope cl C s H pins fp) tg g) (ht : ∀ cl C s H pins fp, PIfs (cxComp X own N' scope cl C s H pins fp) ifs tt) (he : ∀ cl C s H pins fp, PE (cxComp X own N' scope cl C s H pins fp) elt te)
    (I : Inv X pins σ H s) (h : cComp own.length wi g tt te σ H End)
    (fin : ∀ D C H' s' m, Inv X pins σ H' s' → s'.heap.Ns C m → FpOk X pins H' C → (∃ o, s'.heap.get? C = some o ∧ ∀ v, o.data ≠ .cell v) → End D H' → compPost (model X.prog X.w) X.A X.xe use Q (.ref D) C (.ok .next) s')
    (hs : ∀ x, foldedSetIterable iter X.env x = pure x := by intro _; rfl) :
    wpAny (model X.prog X.w) X.A (comprehension (.ListComp elt [⟨tg, iter, ifs, 0⟩] scope pos) scope X.env p2 (newList []) false (eval iter X.env) use) Q X.xe s := by
  obtain ⟨cl, hcl, c1, c2⟩ := closure_ok (env := X.env) (scope := scope) fun y hy hf => I.ok.has y.1 (ok.free y hy hf)
  refine wpAny_comprehension_free (use := use) rfl hs hcl ok.kind ok.names (thn (hi pins s σ H _ I h) fun v s1 h1 => thn h1 fun itv s2 h2 => ?_)
  obtain ⟨it, fp, tn, J, H2, e, I2, T, st2, f2, hW⟩ := h2
  subst e
  obtain ⟨W, ⟨m0, w0⟩, turn⟩ := hW s2.heap.objs.size (I2.hok.fresh (Nat.le_refl _))
  refine wpAny_newObj_type (wpAny_newFunctionEnv ok.cell (by intro y hy; simp at hy) (fun h₁ hns₁ hsb₁ => ?_) ok.kind)
  dsimp only at hns₁ hsb₁ ⊢
  have hsz : (s2.heap.push { cls := .type "list", dict := none, data := .seq ([] : List Value).toArray }).objs.size = s2.heap.objs.size + 1 := Heap.size_push _ _
  rw [hsz] at hns₁ hsb₁ ⊢
  have old : ∀ b o, s2.heap.get? b = some o → h₁.get? b = some o := fun b o e =>
    hsb₁.extBut b o (Nat.ne_of_lt (Nat.lt_succ_of_lt (Heap.lt_size e))) (Heap.get?_push_of_some _ (Heap.get?_push_of_some _ e))
  have hacc : h₁.get? s2.heap.objs.size = some { cls := .type "list", data := .seq ([] : List Value).toArray } :=
    hsb₁.extBut _ _ (Nat.ne_of_lt (Nat.lt_succ_self _)) (Heap.get?_push_of_some _ (Heap.get?_push_size _ rfl))
  have hob : ∀ b ∈ fp, ∃ o, s2.heap.get? b = some o := fun b hb => let ⟨o, e, _⟩ := T.obj 0 _ st2 b hb; ⟨o, e⟩
  have I4 : Inv (cxComp X own N' scope cl (s2.heap.objs.size + 1) s2 H2 pins fp) [] (List.replicate own.length none ++ σ) (upd H2 s2.heap.objs.size (.lst [])) { s2 with heap := h₁, toks := s2.toks + ([] : List (Str × Value)).length } :=
    inv_comp I2 ok c1 c2 f2 hob hns₁ old hacc
  have st4 : tn 0 h₁ := T.keep 0 _ _ st2 fun b hb o e => old b o e
  have hfpn : ∀ b ∈ fp, b ≠ s2.heap.objs.size ∧ b ≠ s2.heap.objs.size + 1 := fun b hb => by
    obtain ⟨o, e⟩ := hob b hb
    have q := Heap.lt_size e
    exact ⟨Nat.ne_of_lt q, Nat.ne_of_lt (Nat.lt_succ_of_lt q)⟩
  -- the loop
  have loop : ∀ s₃ : Shared, s₃ = { s2 with heap := h₁, toks := s2.toks + ([] : List (Str × Value)).length } →
      codeAny (model X.prog X.w) X.A (.compLoop (.ListComp elt [⟨tg, iter, ifs, 0⟩] scope pos) 0 (.ref it) (.ref s2.heap.objs.size) (compEnvC scope cl (s2.heap.objs.size + 1) X.env))
        (compPost (model X.prog X.w) X.A X.xe use Q (.ref s2.heap.objs.size) (s2.heap.objs.size + 1)) s₃ := by
    rintro s₃ rfl
    have stat : ∀ {H' : Hp}, (∀ b ∈ fp, H' b = none) → ∀ b ∈ fp, FpOk (cxComp X own N' scope cl (s2.heap.objs.size + 1) s2 H2 pins fp) [] H' b := fun hn b hb =>
      ⟨hn b hb, (hfpn b hb).2, fun hs' => by
        rcases List.mem_cons.mp (I2.stkSub b hs') with z | z
        · exact (f2 b hb).2.1 z
        · exact (f2 b hb).2.2.1 z, .inl hb, fun x c e => (f2 b hb).2.2.2.2.1 x c (c1 _ _ e), fun p hp => (f2 b hb).2.2.2.2.2 p (by
          have : p ∈ (X.pn ++ pins) ++ [] := hp
          simpa using this)⟩
    refine compLoop_any (fun n s' => ∃ i xs σ' H', Inv (cxComp X own N' scope cl (s2.heap.objs.size + 1) s2 H2 pins fp) [] σ' H' s' ∧ (∀ (j : Nat) v, (List.replicate own.length none ++ σ)[j]? = some (some v) → σ'[j]? = some (some v)) ∧ tn i s'.heap ∧ (∀ b ∈ fp, H' b = none) ∧ W i n xs H') ?_ m0
      ⟨0, [], _, _, I4, fun _ _ e => e, st4, fun b hb => by rw [upd_ne (hfpn b hb).1]; exact (f2 b hb).1, w0⟩
    rintro n s3 ⟨i, xs, σ3, H3, I3', hσ, st3, fr3, w3⟩
    have I3 : Inv (cxComp X own N' scope cl (s2.heap.objs.size + 1) s2 H2 pins fp) [] (List.replicate own.length none ++ σ) H3 s3 :=
      I3'.weak (by rw [I3'.len, I4.len]) hσ
    obtain ⟨hD, tr⟩ := turn i n xs H3 w3
    rcases tr with ⟨stop, qn⟩ | ⟨go, step⟩
    · refine thn (T.done (cxComp X own N' scope cl (s2.heap.objs.size + 1) s2 H2 pins fp) rfl rfl rfl hc i [] s3 _ H3 _ I3 (stat fr3) st3 stop) fun r s4 ⟨hr, I4'⟩ => ?_
      subst hr
      have un : Un (frs X.stack) fp H2 H3 s2.heap s4.heap := I4'.base
      have I5 : Inv X pins σ H3 s4 := I2.call' (I4'.os) un I4'.hok I4'.bare fun b hb => ⟨(f2 b hb).2.2.2.1, (f2 b hb).2.1, (f2 b hb).2.2.2.2.1, (f2 b hb).2.2.2.2.2⟩
      obtain ⟨mC, hnC, _⟩ := I4'.loc
      obtain ⟨oC, es, ep, hoC, hdC, _⟩ := id hnC
      refine fin _ _ H3 s4 mC I5 hnC ?_ ⟨oC, hoC, fun v z => by rw [hdC] at z; cases z⟩ qn
      have fp0 := I2.fpOk (H' := H3) (b := s2.heap.objs.size + 1) (Nat.le_succ _) I4'.free
      exact fp0
    · refine thn (T.item (cxComp X own N' scope cl (s2.heap.objs.size + 1) s2 H2 pins fp) rfl rfl rfl hc i [] s3 _ H3 _ I3 (stat fr3) st3 go) fun r s4 ⟨u, hr, h4⟩ => ?_
      subst hr
      refine thn h4 fun _ s5 ⟨x, H5, I5, r5, y5, st5, fr5⟩ => ?_
      have I5' := I5.pinned (stat fr5) (T.obj _ _ st5)
      have back : ∀ {σ7 : St} {H7 : Hp} {s7 : Shared}, Inv (cxComp X own N' scope cl (s2.heap.objs.size + 1) s2 H2 pins fp) ([] ++ pinsAt fp s5.heap) σ7 H7 s7 → tn (i + 1) s7.heap ∧ ∀ b ∈ fp, H7 b = none := fun {σ7 H7 s7} I7 => by
        refine ⟨T.keep _ _ _ st5 fun b hb o e => (I7.pin (b, o) (List.mem_append_right _ (List.mem_append_right _ (mem_pinsAt hb e)))).1, fun b hb => ?_⟩
        obtain ⟨o, e, d⟩ := T.obj _ _ st5 b hb
        exact (I7.pin (b, o) (List.mem_append_right _ (List.mem_append_right _ (mem_pinsAt hb e)))).2.1
      refine thn (hg cl (s2.heap.objs.size + 1) s2 H2 pins fp _ s5 _ H5 x u _ I5' r5 (gk x _ H5 _ (step x H5 y5))) fun _ s6 ⟨σ6, H6, I6, q6, k6⟩ => ?_
      have hσ6 : ∀ (j : Nat) v, (List.replicate own.length none ++ σ)[j]? = some (some v) → σ6[j]? = some (some v) := fun j v e => by
        by_cases hj : j < own.length
        · rw [List.getElem?_append_left (by rw [List.length_replicate]; exact hj), List.getElem?_replicate, if_pos hj] at e
          cases e
        · rw [k6 j (by omega)]; exact e
      refine thn (ht cl (s2.heap.objs.size + 1) s2 H2 pins fp _ s6 σ6 H6 _ I6 q6) fun b s7 ⟨H7, I7, q7⟩ => ?_
      cases b with
      | false =>
        rw [if_neg Bool.false_ne_true] at q7
        rw [if_neg Bool.false_ne_true]
        obtain ⟨m', hm, w7⟩ := q7
        obtain ⟨t7, f7⟩ := back I7
        exact ⟨m', hm, i + 1, xs, σ6, H7, I7.unpinned, hσ6, t7, f7, w7⟩
      | true =>
        rw [if_pos rfl] at q7
        rw [if_pos rfl]
        refine thn (he cl (s2.heap.objs.size + 1) s2 H2 pins fp _ s7 σ6 H7 _ I7 q7) fun yv s8 ⟨y, H8, I8, r8, ys, hys, hl, m', hm, w8⟩ => ?_
        refine thn (mt_append (X := cxComp X own N' scope cl (s2.heap.objs.size + 1) s2 H2 pins fp) _ s8 σ6 H8 (.ref s2.heap.objs.size) [y] (.ref s2.heap.objs.size) [yv] (fun _ H' => H' = upd H8 s2.heap.objs.size (.lst (ys ++ [y]))) I8 rfl (.cons r8 .nil) ⟨_, ys, y, rfl, rfl, hys, hl, rfl⟩)
          fun _ s9 ⟨v9, H9, I9, _, q9⟩ => ?_
        subst q9
        obtain ⟨t9, f9⟩ := back I9
        exact ⟨m', hm, i + 1, _, σ6, _, I9.unpinned, hσ6, t9, f9, w8⟩
  exact codeAny_compStart_list (loop _ rfl) (T.self _ 0 _ _ _ st4 (loop _ rfl))

noncomputable def tComp (k : Nat) (wi : TI) (g : TG) (tt : TT) (te : TE) : TE := fun σ H Q => cComp k wi g tt te σ H fun D H' => Q (.ref D) H'
theorem pe_comp {X : Cx} (own N' : List Str) {scope : Scope} {elt tg iter : Expr} {ifs : List Expr} {pos : Pos} {wi : TI} {g : TG} {tt : TT} {te : TE}
    (hc : X.calm = true) (ok : CompOk X own N' scope) (gk : GOk own.length g) (hi : PI X tg iter wi)
    (hg : ∀ cl C s H pins fp, PG (cxComp X own N' scope cl C s H pins fp) tg g) (ht : ∀ cl C s H pins fp, PIfs (cxComp X own N' scope cl C s H pins fp) ifs tt) (he : ∀ cl C s H pins fp, PE (cxComp X own N' scope cl C s H pins fp) elt te)
    (hs : ∀ x, foldedSetIterable iter X.env x = pure x := by intro _; rfl) : PE X (.ListComp elt [⟨tg, iter, ifs, 0⟩] scope pos) (tComp own.length wi g tt te) := by
  intro pins s σ H Q I h
  rw [eval_ListComp]
  refine comp_core hc ok gk hi hg ht he I h (fun D C H' s' m I' hn hf ho hE => ?_) hs
  exact ⟨m, hn, fun h' hs' => ⟨.ref D, H', I'.turned (t' := s'.toks) (fun b o hb e => hs'.extBut b o hb e) hf.1 hf.2.1 hf.2.2.2.1 hf.2.2.2.2.1 hf.2.2.2.2.2, rfl, hE⟩⟩
noncomputable def tSetComp (i k : Nat) (wi : TI) (g : TG) (tt : TT) (te : TE) : TS := fun D σ H => cComp k wi g tt te σ H fun l H' => D.nx (σ.set i (some (.ref l))) H'
theorem ps_comp {X : Cx} (own N' : List Str) {i : Nat} {y : Str} {py spos : Pos} {scope : Scope} {elt tg iter : Expr} {ifs : List Expr} {pos : Pos} {wi : TI} {g : TG} {tt : TT} {te : TE}
    (hN : X.N.Nodup) (hy : X.N[i]? = some y) (hl : X.env.scope.names.lookup y = some .local)
    (hc : X.calm = true) (ok : CompOk X own N' scope) (gk : GOk own.length g) (hi : PI X tg iter wi)
    (hg : ∀ cl C s H pins fp, PG (cxComp X own N' scope cl C s H pins fp) tg g) (ht : ∀ cl C s H pins fp, PIfs (cxComp X own N' scope cl C s H pins fp) ifs tt) (he : ∀ cl C s H pins fp, PE (cxComp X own N' scope cl C s H pins fp) elt te)
    (hsw : swapsWith (.ListComp elt [⟨tg, iter, ifs, 0⟩] scope pos) (some (.Name y py)) spos.line X.env = pure true)
    (hs : ∀ x, foldedSetIterable iter X.env x = pure x := by intro _; rfl) : PS X (.Assign [.Name y py] (.ListComp elt [⟨tg, iter, ifs, 0⟩] scope pos) spos) (tSetComp i own.length wi g tt te) := by
  intro pins s σ H D I h
  rw [exec_Assign_Name_used _ _ _ _ hsw]
  refine wpAny_bind (wpAny_standAt (wpAny_bind ?_))
  show wpAny _ X.A (do let _ ← comprehension (.ListComp elt [⟨tg, iter, ifs, 0⟩] scope pos) scope X.env _ (newList []) false (eval iter X.env) (some (assign (.Name y py) X.env))) _ _ s
  refine wpAny_bind (wpAny_mono (comp_core (use := some (assign (.Name y py) X.env)) (Q := fun _ s' => SP X pins D .next s') hc ok gk hi hg ht he I h (fun l C H' s' m I' hn hf ho hE => ?_) hs) (fun _ s' hq => wpAny_pure (wpAny_pure hq)) fun _ _ e => e)
  obtain ⟨oC, hoC, hdC⟩ := ho
  have I2 : Inv X (pins ++ [(C, oC)]) σ H' s' := I'.pins_of fun p hp => by
    rcases List.mem_append.mp hp with z | z
    · exact I'.pin p (List.mem_append_right _ z)
    · have e : p = (C, oC) := by simpa using z
      subst e
      exact ⟨hoC, hf.1, hf.2.1, hf.2.2.1, hdC⟩
  show wpAny _ X.A (assign (.Name y py) X.env (.ref l)) _ _ _
  refine wpAny_assign_Name (store_ok I2 hN hy (.inl hl) (show RelV (.ref l) (.ref l) from rfl) (fun s2 I3 => ?_) (.inr hl))
  have hC2 : s2.heap.get? C = some oC := (I3.pin (C, oC) (List.mem_append_right _ (List.mem_append_right _ (by simp)))).1
  refine ⟨m, hn.at' (fun o e => by rw [hoC] at e; cases e; exact hC2), fun h' hs' => ⟨_, H', ?_, hE⟩⟩
  exact (I3.unpinned).turned (t' := s2.toks) (fun b o hb e => hs'.extBut b o hb e) hf.1 hf.2.1 hf.2.2.2.1 hf.2.2.2.2.1 hf.2.2.2.2.2

noncomputable def Its (z : Str) : It := ⟨fun i _ => i < z.cps.size, fun i H x H' => H' = H ∧ ∃ c, z.cps[i]? = some c ∧ x = .str ⟨#[c]⟩, fun i _ => z.cps.size ≤ i⟩
theorem turn_str {P : Program} {w : World} {K : PySem.W.Frag} {tg : Expr} {it : Addr} {z : Str} {t : Tok} {nm : String}
    (hn : ["enumerate", "zip", "dict_itemiterator", "dict_reverseitemiterator", "odict_iterator", "itertools.zip_longest", "itertools.pairwise"].contains nm = false)
    (W : ∀ A : Around, A.handled = none → Walks P w A it [it] [it] z.cps.size (SignAt z) fun i h => h.IsStrIter it nm z t i)
    (hsf : ∀ (A : Around) (i : Nat) (s : Shared) (Q : Value → Shared → Prop) (E : Value → Shared → Prop), s.heap.IsStrIter it nm z t i → Q (.ref it) s → wpAny (model P w) A (pyIter (.ref it)) Q E s) :
    Turn P w K tg (Its z) [it] it (fun i h => i ≤ z.cps.size ∧ h.IsStrIter it nm z t i) where
  mem := by simp
  obj := fun i h st b hb => by
    have e : b = it := by simpa using hb
    subst e
    obtain ⟨_, o, e, c, d⟩ := st
    exact ⟨o, e, fun v z => by rw [d] at z; cases z⟩
  keep := fun i h h' st k => by
    obtain ⟨hi, o, e, c, d⟩ := st
    exact ⟨hi, o, k it (by simp) o e, c, d⟩
  item := by
    intro X hP hw hK hc i pins s σ H E I hf st hg
    subst hP hw hK
    obtain ⟨f0, f1, f2, f3, f4, f5⟩ := hf it (by simp)
    refine (W X.A (I.ok.hd hc)).item i s _ _ hg st.2 fun v h' tk hv st' kk => ?_
    obtain ⟨c, u, hcx, rfl⟩ := hv
    have I1 : Inv X pins σ H { s with heap := h', toks := tk } := I.turned (fun b o hb e => kk b o (by simpa using hb) e) f0 f1 f3 f4 f5
    obtain ⟨o, e, c', d⟩ := id st'
    exact ⟨_, rfl, go_of (s := { s with heap := h', toks := tk }) e c' d hn ⟨.str ⟨#[c]⟩, H, I1, ⟨u, rfl⟩, ⟨rfl, c, hcx, rfl⟩, ⟨hg, st'⟩, fun b hb => (hf b hb).1⟩⟩
  done := by
    intro X hP hw hK hc i pins s σ H E I hf st hg
    subst hP hw hK
    obtain ⟨f0, f1, f2, f3, f4, f5⟩ := hf it (by simp)
    obtain ⟨hi, st⟩ := st
    have e : i = z.cps.size := Nat.le_antisymm hi hg
    subst e
    exact (W X.A (I.ok.hd hc)).done s _ _ st fun h' tk kk => ⟨rfl, I.turned (fun b o hb e => kk b o (by simpa using hb) e) f0 f1 f3 f4 f5⟩
  self := fun A i s Q E st h => hsf A i s Q E st.2 h
noncomputable def iStr (tl : TE) : TI := fun σ H R => tl σ H fun x H1 => ∃ z, x = .str z ∧ R (Its z) H1
theorem pi_str {X : Cx} {tg l : Expr} {tl : TE} (hl : PE X l tl) : PI X tg l (iStr tl) := by
  intro pins s σ H R I h
  refine thn (hl pins s σ H _ I h) fun v s1 ⟨x, H1, I1, r1, q1⟩ => ?_
  obtain ⟨z, e, q⟩ := q1
  subst e
  obtain ⟨t, rfl⟩ := r1
  have hf : ∀ b ∈ [s1.heap.objs.size], FpOk X pins H1 b := fun b hb => by
    have e : b = s1.heap.objs.size := by simpa using hb
    subst e
    exact I1.fpOk (Nat.le_refl _) (I1.hok.fresh (Nat.le_refl _))
  cases ha : z.cps.all (· < 128)
  · refine wpAny_pyIter_wide ha ⟨s1.heap.objs.size, [s1.heap.objs.size], _, _, H1, rfl, I1.kept (t' := s1.toks) fun b o e => Heap.get?_push_of_some _ e, turn_str (t := t) (nm := "str_iterator") (by decide) (fun A hA => Walks.strWide hA _ z t) (fun A i s Q E st h => wpAny_pyIter_striter_wide st h), ⟨Nat.zero_le _, _, Heap.get?_push_size _ rfl, rfl, rfl⟩, hf, q⟩
  · refine wpAny_pyIter_ascii ha ⟨s1.heap.objs.size, [s1.heap.objs.size], _, _, H1, rfl, I1.kept (t' := s1.toks) fun b o e => Heap.get?_push_of_some _ e, turn_str (t := t) (nm := "str_ascii_iterator") (by decide) (fun A hA => Walks.strAscii hA _ z t) (fun A i s Q E st h => wpAny_pyIter_striter_ascii st h), ⟨Nat.zero_le _, _, Heap.get?_push_size _ rfl, rfl, rfl⟩, hf, q⟩
end L2
set_option Elab.async false
set_option linter.all false
set_option maxRecDepth 100000
set_option maxHeartbeats 4000000
namespace L2
open PySem PySem.Spec PyProof.Rows
section
variable {X : Cx}
theorem strsAre_of : ∀ {ys : List Str} {us : List Value}, Vals (ys.map V.str) us → StrsAre us ys
  | [], _, r => by rw [List.map_nil] at r; cases r; exact .nil
  | y :: ys, _, r => by
    rw [List.map_cons] at r
    cases r with
    | cons r1 r2 =>
      obtain ⟨t, e⟩ := r1
      subst e
      exact .cons y t (strsAre_of r2)
noncomputable def rJoin (K : PySem.W.Frag) : V → List V → Hp → VK → Prop := fun x vs H Q => ∃ z p ys, x = .str z ∧ vs = [.ref p] ∧ SqL K H p (ys.map V.str) ∧ (ys.map (·.length)).sum + ys.length * z.length ≤ 16777216 ∧ Q (.str (Txt.join z ys)) H
theorem mt_join : MtR X "str.join" (rJoin X.K) := by
  intro pins s σ H x vs v us Q I rx rv h
  obtain ⟨z, p, ys, rfl, rfl, hq, hz, q⟩ := h
  obtain ⟨t, rfl⟩ := rx
  obtain ⟨u, rfl, ru⟩ := vals1 rv
  cases ru
  obtain ⟨its, r, pl, _⟩ := I.list hq
  exact join_list pl.isList (by simpa using strsAre_of r) hz fun t' k => ⟨.str _, H, I.tok k, ⟨t', rfl⟩, q⟩
noncomputable def rSlS : V → Option Int → Option Int → Hp → VK → Prop := fun x lo hi H Q => ∃ z, x = .str z ∧ z.length ≤ sizeLine ∧ Q (.str (Txt.slice z lo hi)) H
theorem part_of {v : Value} {o : Option Int} (p : IsPart v o) : ∃ l : Option (Int × Tok), v = partValue l ∧ l.map (·.1) = o := by
  cases p with
  | none => exact ⟨none, rfl, rfl⟩
  | int i t => exact ⟨some (i, t), rfl, rfl⟩
theorem sl_str : SlR X rSlS := by
  intro pins s σ H x v vl vu lo hi sl Q I rx hs pl pu h
  obtain ⟨z, rfl, hz, q⟩ := h
  obtain ⟨t, rfl⟩ := rx
  obtain ⟨l, rfl, hl⟩ := part_of pl
  obtain ⟨u, rfl, hu⟩ := part_of pu
  subst hl hu
  refine ⟨"str", _, F.slot_str_getitem.lookup, typeIs_str _ _ _, ?_⟩
  refine wpAny_getItem_str_slice (l := l) (u := u) (st := none) hs rfl ?_
  exact post_val_or_str ⟨Nat.le_trans (Txt.slice_le z _ _) hz, fun t' k => ⟨.str _, H, I.tok k, ⟨t', rfl⟩, q⟩⟩
theorem call_all (hc : X.calm = true) : CallR X (.builtin "all") (fun xs H Q => ∃ (p : Addr) (bs : List Bool), xs = [.ref p] ∧ SqL X.K H p (bs.map V.bl) ∧ Q (.bl (bs.all id)) H) := by
  intro pins s σ H xs us Q I r h
  obtain ⟨p, bs, rfl, hq, q⟩ := h
  obtain ⟨u, rfl, ru⟩ := vals1 r
  cases ru
  obtain ⟨its, rv, pl, hz⟩ := I.list hq
  have hlen : bs.length = its.length := by have := rv.length; rwa [List.length_map] at this
  have hne : p ≠ s.heap.objs.size := by
    obtain ⟨o, n, e, _⟩ := pl
    exact Nat.ne_of_lt (Heap.lt_size e)
  refine call_all_walk (wpAny_pyIter_list pl.isList ?_)
  refine ⟨s.heap.objs.size, [s.heap.objs.size, p], [s.heap.objs.size], its.toArray.size, _, _, fun i => bs.getD i false, rfl,
    Walks.list (show X.A.in1.handled = none from I.ok.hd hc) _ p hne its.toArray, ⟨⟨_, Heap.get?_push_size _ rfl, rfl, rfl⟩, pl.isList.push _⟩, ?_, ?_⟩
  · intro i v s' Q' E' hv hQ
    have hi : i < its.length := by
      have := (Array.getElem?_eq_some_iff.mp hv).1
      simpa using this
    have hb : (bs.map V.bl)[i]? = some (.bl (bs.getD i false)) := by
      rw [List.getElem?_map, List.getElem?_eq_getElem (by omega)]
      simp [List.getD, List.getElem?_eq_getElem (show i < bs.length by omega)]
    obtain ⟨u, hu, ru⟩ := rv.get hb
    have e : v = u := by
      have h1 : its.toArray[i]? = some u := by simpa using hu
      rw [hv] at h1
      exact Option.some.inj h1
    subst e
    cases ru
    exact wpAny_truthy_bool hQ
  · intro h' tk kk
    refine ⟨.bl (bs.all id), H, ?_, ?_, q⟩
    · refine I.kept (h' := h') (t' := tk) fun b o e => kk b o (fun z => ?_) (Heap.get?_push_of_some _ e)
      have z' : b = s.heap.objs.size := by simpa using z
      subst z'
      exact absurd (Heap.lt_size e) (Nat.lt_irrefl _)
    · show Value.bool _ = Value.bool _
      congr 1
      have : its.toArray.size = bs.length := by simp [hlen]
      rw [this]
      rw [Bool.eq_iff_iff, List.all_eq_true, List.all_eq_true]
      constructor
      · intro h x hx
        obtain ⟨i, hi, rfl⟩ := List.getElem_of_mem hx
        have := h i (List.mem_range.mpr hi)
        simpa [List.getD, List.getElem?_eq_getElem hi] using this
      · intro h i hi
        have hi' := List.mem_range.mp hi
        have := h bs[i] (List.getElem_mem hi')
        simpa [List.getD, List.getElem?_eq_getElem hi'] using this
def CMulB (i j : Int) : Prop := i.natAbs < 2 ^ 1000 ∧ j.natAbs < 2 ^ 1000
theorem op_mulB : OpR X (binaryOp .Mult) (rI CMulB fun i j => .int (i * j)) := opI fun _ _ _ _ _ _ _ hc q =>
  mul_int q (.of_bits (Nat.le_trans (intBits_le hc.1) (by decide)) (Nat.le_trans (intBits_le hc.2) (by decide)))
theorem op_mulS : OpR X (binaryOp .Mult) (fun x y H Q => ∃ z n, x = .str z ∧ y = .int n ∧ z.length ≤ 1000 ∧ n ≤ 1000 ∧ -1000 ≤ n ∧ Q (.str (Txt.mul z n)) H) := by
  intro pins s σ H x y v u Q I rx ry h
  obtain ⟨z, n, rfl, rfl, hz, h1, h2, q⟩ := h
  obtain ⟨t, rfl⟩ := rx
  obtain ⟨t', rfl⟩ := ry
  refine SB.mul ⟨?_, fun hn _ => ?_, fun hn _ => ?_⟩ fun t' k => ⟨.str _, H, I.tok k, ⟨t', rfl⟩, q⟩
  · rw [decide_eq_false (by omega), decide_eq_false (by omega)]; rfl
  · have : (1000 : Int) ≤ (2 ^ 63 - 1) / n := by
      rw [Int.le_ediv_iff_mul_le (by omega)]
      have : 1000 * n ≤ 1000 * 1000 := by omega
      omega
    omega
  · unfold Builtin.Str.tooLong
    have hm : z.length * n.toNat ≤ 1000 * 1000 := Nat.mul_le_mul hz (by omega)
    exact decide_eq_false (by rw [sizeLine_eq]; omega)
end
theorem Same.put {H H' : Hp} {D : Addr} {o : HO} (hD : H D = none) (sm : Same H H') : Same H (upd H' D o) := fun b u e => by rw [upd_ne (ne_of_none e hD)]; exact sm b u e
noncomputable def likeB (N N' : List Str) (scope : Scope) : Bool := N'.length == N.length && (N.zip N').all fun p => p.1 == p.2 || scope.names.all fun z => z.1 != p.2
theorem likeB_of {N N' : List Str} {scope : Scope} (h : likeB N N' scope = true) : N'.length = N.length ∧ ∀ (i : Nat) (x : Str), N'[i]? = some x → N[i]? = some x ∨ ∀ z ∈ scope.names, z.1 ≠ x := by
  unfold likeB at h
  rw [Bool.and_eq_true] at h
  have hl : N'.length = N.length := eq_of_beq h.1
  refine ⟨hl, fun i x e => ?_⟩
  obtain ⟨hi, e'⟩ := List.getElem?_eq_some_iff.mp e
  have hz : (N[i]'(by omega), x) ∈ N.zip N' := by
    rw [List.mem_iff_getElem]
    exact ⟨i, by rw [List.length_zip]; omega, by rw [List.getElem_zip, e']⟩
  have := List.all_eq_true.mp h.2 _ hz
  rcases Bool.or_eq_true_iff.mp this with z | z
  · left
    rw [List.getElem?_eq_getElem (by omega)]
    exact congrArg some (eq_of_beq z)
  · right
    intro y hy
    have := List.all_eq_true.mp z y hy
    exact bne_iff_ne.mp this
noncomputable def compOkB (sc : Scope) (N : List Str) (scope : Scope) : Bool :=
  (scope.names.all fun y => y.2 != .cell) && (scope.names.all fun y => y.2 != .local || scope.names.lookup y.1 == some .local) &&
  (scope.names.all fun y => y.2 != .free || (sc.names.lookup y.1 == some .cell || sc.names.lookup y.1 == some .free)) && (N.all fun y => scope.names.lookup y != some .local)
theorem CompOk.of {X : Cx} {own N' : List Str} {scope sc : Scope} {N : List Str} (h1 : X.env.scope = sc) (h2 : X.N = N) (d : (scope.kind == .function && compOkB sc N' scope) = true) (dl : likeB N N' scope = true) : CompOk X own N' scope := by
  unfold compOkB at d
  simp only [Bool.and_eq_true, List.all_eq_true, Bool.or_eq_true, bne_iff_ne, beq_iff_eq] at d
  obtain ⟨d0, ⟨⟨d1, d2⟩, d3⟩, d4⟩ := d
  refine ⟨h2 ▸ likeB_of dl, d0, d1, fun y hy e => ?_, fun y hy e => ?_, fun y hy => d4 y hy⟩
  · rcases d2 y hy with z | z
    · exact absurd e z
    · exact z
  · have : X.env.kindOf y.1 = sc.names.lookup y.1 := by unfold Env.kindOf; rw [h1]
    rw [this]
    rcases d3 y hy with z | z
    · exact absurd e z
    · exact z
end L2
set_option Elab.async false
set_option linter.all false
set_option maxRecDepth 100000
set_option maxHeartbeats 4000000
namespace L2
open PySem PySem.Spec PyProof.Rows

theorem ObjOk.there {P : Program} {w : World} {H : Hp} {h : Heap} {a : Addr} {o : HO} (x : ObjOk P w H h a o) : ∃ ob, h.get? a = some ob := by
  cases o with
  | lst xs => obtain ⟨_, _, _, _, e⟩ := x; exact ⟨_, e⟩
  | tup xs => obtain ⟨_, _, _, _, e, _⟩ := x; exact ⟨_, e⟩
  | dK kvs => obtain ⟨_, _, _, _, o, _, _, e, _⟩ := x; exact ⟨_, e⟩
  | dT kvs => obtain ⟨_, _, _, _, o, _, _, e, _⟩ := x; exact ⟨_, e⟩
  | set S n => obtain ⟨o, _, _, _, e, _⟩ := x; exact ⟨_, e⟩
  | ins C dx fs => obtain ⟨_, _, _, e, _⟩ := x; exact ⟨_, e⟩
  | own y => exact x
  | xd fs => obtain ⟨_, ⟨_, _, _, e, _⟩, _⟩ := x; exact ⟨_, e⟩
  | rng lo hi => obtain ⟨_, _, _, e⟩ := x; exact ⟨_, e⟩
  | frz ob u => obtain ⟨e, _⟩ := x; exact ⟨_, e⟩
  | tbl ps => exact ⟨_, (show h.get? a = some _ from x)⟩
  | met f y => exact ⟨_, (show h.get? a = some _ from x)⟩
  | ext φ => exact x.2.1

noncomputable def CXX (P : Program) (w : World) : CXT := fun outer H s E ev s' => ∃ (e C t : Addr) (H' : Hp) (B : Heap), ev = .ref e ∧ s'.os = s.os ∧ AllBare s'.gens ∧ Un (frs outer) [] H H' s.heap s'.heap ∧ HOk P w H' s'.heap ∧
  Heap.FlyingW B outer e (.ref C) (.ref t) s'.heap ∧ (∀ b u, H' b = some u → B.get? b = s'.heap.get? b) ∧ (∀ b o, s.heap.get? b = some o → b ∉ frs outer → B.get? b = s'.heap.get? b) ∧ E (.ref C) none H'

theorem fly_on {P : Program} {w : World} {l : List Env} {H H' : Hp} {h h' h5 B base : Heap} (un : Un (frs l) [] H H' h h') (hok : HOk P w H' h') (tr : ∀ b u, H' b = some u → B.get? b = h'.get? b)
    (st : ∀ b o, h.get? b = some o → b ∉ frs l → B.get? b = h'.get? b) (ff : h'.FunFrames base l) (B5 : B.StaysIn h5) (up : h'.UpToSlots h5) :
    Un (frs l) [] H H' h h5 ∧ HOk P w H' h5 ∧ (∀ b u, H' b = some u → B.get? b = h5.get? b) ∧ ∀ b o, h.get? b = some o → b ∉ frs l → B.get? b = h5.get? b := by
  have t5 : ∀ b u, H' b = some u → ∃ o, h'.get? b = some o ∧ B.get? b = some o ∧ h5.get? b = some o := fun b u e => by
    obtain ⟨o, ho⟩ := (hok b u e).there
    have q := tr b u e
    rw [ho] at q
    exact ⟨o, ho, q, B5 b o q⟩
  have s5 : ∀ b o, h.get? b = some o → b ∉ frs l → ∃ o', h'.get? b = some o' ∧ B.get? b = some o' ∧ h5.get? b = some o' := fun b o e hb => by
    obtain ⟨o', ho⟩ := un.there b o e (by simp)
    have q := st b o e hb
    rw [ho] at q
    exact ⟨o', ho, q, B5 b o' q⟩
  have f5 : ∀ b o, h'.get? b = some o → b ∈ frs l → ∃ sl, h5.get? b = some { o with slots := sl } := fun b o e hb => by
    obtain ⟨_, o', ho', hd⟩ := ff.mem hb
    rw [e] at ho'
    cases ho'
    exact up b o e hd
  refine ⟨⟨fun b o e n hb hx => ?_, fun b o e n hb hx => ?_, un.free, fun b o e hx => ?_, un.tups, un.frzs, un.tbls⟩, fun b u e => ?_, fun b u e => ?_, fun b o e hb => ?_⟩
  · obtain ⟨o', h1, _, h3⟩ := s5 b o e hb
    rw [un.keep b o e n hb hx] at h1
    cases h1
    exact h3
  · obtain ⟨sl, h1⟩ := un.slot b o e n hb hx
    obtain ⟨sl', h2⟩ := f5 b _ h1 hb
    exact ⟨sl', h2⟩
  · by_cases hb : b ∈ frs l
    · obtain ⟨o', ho⟩ := un.there b o e hx
      obtain ⟨sl, h1⟩ := f5 b o' ho hb
      exact ⟨_, h1⟩
    · obtain ⟨o', _, _, h3⟩ := s5 b o e hb
      exact ⟨o', h3⟩
  · refine (hok b u e).stay (fun c v hc q => ?_) (fun _ z => z) fun _ _ z => z
    have key : ∀ u', H' c = some u' → h5.get? c = some v := fun u' z => by
      obtain ⟨o, h1, _, h3⟩ := t5 c u' z
      rw [q] at h1
      cases h1
      exact h3
    rcases hc with rfl | hc
    · exact key u e
    · exact key _ hc
  · obtain ⟨o, _, h2, h3⟩ := t5 b u e
    rw [h2, h3]
  · obtain ⟨o', _, h2, h3⟩ := s5 b o e hb
    rw [h2, h3]

section
variable {P : Program} {w : World} {K : PySem.W.Frag} {mg : Str → Option Value} {base : Heap} {N : List Str} {qual : Str} {scope : Scope} {f : Addr} {cd : Value} {A : Around} {outer : List Env} {s : Shared} {H : Hp} {E : XK}
theorem passX : Passes (CXX P w) (cxOf (CXX P w) P w K mg base N qual scope f cd A outer s H E) E := by
  intro pins σ H1 s1 ev s' I hc
  obtain ⟨e, C, t, H', B, rfl, os, bare, un, hok, fl, tr, st, hE⟩ := hc
  show wpAny (model P w) (A.deeper (envOfC qual scope s.heap.objs.size f cd)) (leaving (envOfC qual scope s.heap.objs.size f cd) (.ref e)) (fun _ s'' => CXX P w outer H s E (.ref e) s'') (fun e' s'' => CXX P w outer H s E e' s'') s'
  refine wpAny_leaves_onW (L := s.heap.objs.size) I.ok.frames rfl fl fun h' fl' up => ?_
  obtain ⟨un', hok', tr', st'⟩ := fly_on un hok tr st fl.2.2.1 fl'.1 up
  have bu : Un (frs outer) [] H H1 s.heap s1.heap := I.base
  have nL : ∀ b o, s.heap.get? b = some o → b ∉ frs outer → b ∉ frs (envOfC qual scope s.heap.objs.size f cd :: outer) := fun b o q hb hm => by
    have hm' : b ∈ s.heap.objs.size :: frs outer := hm
    rcases List.mem_cons.mp hm' with z | z
    · exact absurd (Heap.lt_size q) (by rw [z]; exact Nat.lt_irrefl _)
    · exact hb z
  have mL : ∀ b, b ∈ frs outer → b ∈ frs (envOfC qual scope s.heap.objs.size f cd :: outer) := fun b hb => (List.mem_cons_of_mem _ hb : b ∈ s.heap.objs.size :: frs outer)
  refine ⟨e, C, t, H', B, rfl, os.trans I.os, bare, ⟨fun b o q n hb hx => ?_, fun b o q n hb hx => ?_, fun b o q n hx => ?_, fun b o q hx => ?_, fun b xs q => un'.tups b xs (bu.tups b xs q), fun b o u q => un'.frzs b o u (bu.frzs b o u q), fun b ps q => ?_⟩, hok', fl', tr', fun b o q hb => ?_, hE⟩
  · exact un'.keep b o (bu.keep b o q n hb hx) (bu.free b o q n hx) (nL b o q hb) hx
  · obtain ⟨sl, e1⟩ := bu.slot b o q n hb hx
    obtain ⟨sl', e2⟩ := un'.slot b _ e1 (bu.free b o q n hx) (mL b hb) hx
    exact ⟨sl', e2⟩
  · obtain ⟨o', e1⟩ := bu.there b o q hx
    exact un'.free b o' e1 (bu.free b o q n hx) hx
  · obtain ⟨o', e1⟩ := bu.there b o q hx
    exact un'.there b o' e1 hx
  · obtain ⟨m1, e1⟩ := bu.tbls b ps q
    obtain ⟨m2, e2⟩ := un'.tbls b _ e1
    exact ⟨m1 ++ m2, by rw [e2, Array.append_assoc]⟩
  · obtain ⟨o', e1⟩ := bu.there b o q (by simp)
    exact st' b o' e1 (nL b o q hb)

def RaiseOk (X : Cx) (E : XK) : Prop := ∀ (pins : List (Addr × Obj)) (σ : St) (H : Hp) (s : Shared) (h' : Heap) (e C : Addr) (args : List Value), Inv X pins σ H s → Heap.MadeExcOf s.heap h' e (.ref C) args → E (.ref C) none H → X.xe (.ref e) { s with heap := h' }
theorem raiseX : RaiseOk (cxOf (CXX P w) P w K mg base N qual scope f cd A outer s H E) E := by
  intro pins σ H1 s1 h1 e C args I hm hE
  show wpAny (model P w) (A.deeper (envOfC qual scope s.heap.objs.size f cd)) (leaving (envOfC qual scope s.heap.objs.size f cd) (.ref e)) (fun _ s'' => CXX P w outer H s E (.ref e) s'') (fun e' s'' => CXX P w outer H s E e' s'') _
  have stk : (cxOf (CXX P w) P w K mg base N qual scope f cd A outer s H E).stack = envOfC qual scope s.heap.objs.size f cd :: outer := rfl
  have hfs : s1.heap.FunFrames base (envOfC qual scope s.heap.objs.size f cd :: outer) := I.stack
  have hfree : ∀ b ∈ frs (envOfC qual scope s.heap.objs.size f cd :: outer), H1 b = none := I.stkFree
  refine wpAny_leaves_madeW (L := s.heap.objs.size) (base := PySem.W.hideAll s1.heap (frs (envOfC qual scope s.heap.objs.size f cd :: outer))) I.ok.frames rfl (fun b o q => PySem.W.of_hideAll _ q)
    (PySem.W.funFrames_hide hfs fun env he b hb => List.mem_filterMap.mpr ⟨env, he, hb⟩) hm fun h' t fl _ _ up => ?_
  have bu : Un (frs outer) [] H H1 s.heap s1.heap := I.base
  have inB : ∀ b o, s1.heap.get? b = some o → b ∉ frs (envOfC qual scope s.heap.objs.size f cd :: outer) → (PySem.W.hideAll s1.heap (frs (envOfC qual scope s.heap.objs.size f cd :: outer))).get? b = some o ∧ h'.get? b = some o := fun b o q hb =>
    ⟨PySem.W.hideAll_get _ q hb, fl.1 b o (PySem.W.hideAll_get _ q hb)⟩
  have nL : ∀ b o, s.heap.get? b = some o → b ∉ frs outer → b ∉ frs (envOfC qual scope s.heap.objs.size f cd :: outer) := fun b o q hb hm => by
    have hm' : b ∈ s.heap.objs.size :: frs outer := hm
    rcases List.mem_cons.mp hm' with z | z
    · exact absurd (Heap.lt_size q) (by rw [z]; exact Nat.lt_irrefl _)
    · exact hb z
  have slo : ∀ b o, s1.heap.get? b = some o → b ∈ frs outer → ∃ sl, h'.get? b = some { o with slots := sl } := fun b o q hb => by
    obtain ⟨_, o', ho', hd⟩ := hfs.mem (List.mem_cons_of_mem _ hb : b ∈ s.heap.objs.size :: frs outer)
    rw [q] at ho'
    cases ho'
    exact up b o (hm.keeps b o q) hd
  have trk : ∀ b u, H1 b = some u → ∃ o, s1.heap.get? b = some o ∧ b ∉ frs (envOfC qual scope s.heap.objs.size f cd :: outer) := fun b u q => by
    obtain ⟨o, ho⟩ := (I.hok b u q).there
    exact ⟨o, ho, fun z => by rw [hfree b z] at q; cases q⟩
  refine ⟨e, C, t, H1, _, rfl, I.os, I.bare, ⟨fun b o q n hb hx => ?_, fun b o q n hb hx => ?_, bu.free, fun b o q hx => ?_, bu.tups, bu.frzs, bu.tbls⟩, fun b u q => ?_, fl, fun b u q => ?_, fun b o q hb => ?_, hE⟩
  · exact (inB b o (bu.keep b o q n hb hx) (nL b o q hb)).2
  · obtain ⟨sl, e1⟩ := bu.slot b o q n hb hx
    obtain ⟨sl', e2⟩ := slo b _ e1 hb
    exact ⟨sl', e2⟩
  · obtain ⟨o', e1⟩ := bu.there b o q hx
    by_cases hb : b ∈ frs outer
    · obtain ⟨sl, e2⟩ := slo b o' e1 hb
      exact ⟨_, e2⟩
    · exact ⟨o', (inB b o' e1 (nL b o q hb)).2⟩
  · refine (I.hok b u q).stay (fun c v hc z => ?_) (fun _ z => z) fun _ _ z => z
    have key : ∀ u', H1 c = some u' → h'.get? c = some v := fun u' z' => by
      obtain ⟨o, h1, h2⟩ := trk c u' z'
      rw [z] at h1
      cases h1
      exact (inB c v z h2).2
    rcases hc with rfl | hc
    · exact key u q
    · exact key _ hc
  · obtain ⟨o, h1, h2⟩ := trk b u q
    obtain ⟨a1, a2⟩ := inB b o h1 h2
    rw [a1]
    exact a2.symm
  · obtain ⟨o', e1⟩ := bu.there b o q (by simp)
    obtain ⟨a1, a2⟩ := inB b o' e1 (nL b o q hb)
    rw [a1]
    exact a2.symm
end
theorem passX0 {P : Program} {w : World} {X : Cx} : Passes (CXX P w) X E0 := fun _ _ _ _ _ _ _ ⟨_, _, _, _, _, _, _, _, _, _, _, _, _, h⟩ => h.elim

section
variable {P : Program} {w : World} {K : PySem.W.Frag} {mg : Str → Option Value} {base : Heap}
theorem Fun.okX {x qual : Str} {st : Stmt} {f : Addr} {fd : FuncData} {N ps : List Str} {k : Nat} {sp : Sp} (F : Fun K x qual st f fd) (S : FnScope N ps (defScope st)) (len : ∀ vs H Q E, sp vs H Q E → vs.length = ps.length)
    (hbody : ∀ (cdv : Value) (A : Around) (outer : List Env) (s : Shared) (H : Hp) (vs : List V) (Q : VK) (E : XK), Room k (A.deeper (envOfC qual (defScope st) s.heap.objs.size f cdv)) → sp vs H Q E →
      ∃ t, PSs (cxOf (CXX P w) P w K mg base N qual (defScope st) f cdv A outer s H E) (defBody st) t ∧ t { nx := fun _ H' => Q .non H', rt := Q } (start N vs) H) : FnOk P w K mg base (CXX P w) (k + 1) f fd ps sp := by
  obtain ⟨oc, od, kV, doc, pm, an, cdv, ct, osl, rfl, lk, hcd⟩ := F.ex
  exact fn_of lk hcd S len fun A outer s H vs Q E hr hsp => hbody cdv A outer s H vs Q E hr hsp
end

noncomputable abbrev VE : List Value := [.type "ValueError", .type "Exception", .type "BaseException", .type "object"]
def ClsX (K : PySem.W.Frag) (C : Addr) : Prop := PySem.W.excIn K C VE "ValueError.__new__" = true
theorem exc_obj {K : PySem.W.Frag} {h : Heap} {C : Addr} (KI : K.In h) (q : ClsX K C) : ∃ nm qn N bs bm hdct sn sub ab col dd k0 k1 k2 k3 k5 mN,
    h.get? C = some (excClassObj nm qn C N bs bm hdct sn sub ab col dd k0 k1 k2 k3 k5 "ValueError.__new__") ∧ h.Ns N mN ∧ mN "__init__" = none ∧ OwnTail h VE bm := by
  unfold ClsX PySem.W.excIn at q
  split at q
  · next dd cd sl ho =>
    split at q
    · next C' bm k0 k1 k2 k3 n k5 hmro hsl =>
      simp only [Bool.and_eq_true, beq_iff_eq, Bool.not_eq_true'] at q
      obtain ⟨⟨⟨⟨⟨e1, e2⟩, e3⟩, e4⟩, e5⟩, e6⟩ := q
      subst e1 e2
      obtain ⟨nm, bs, mro, ns, qn, hd, sn, sub, ab, col, del⟩ := cd
      dsimp only at hmro e3 e5 e6
      subst hmro e3
      obtain ⟨ll⟩ := sl
      simp only at hsl
      subst hsl
      exact ⟨nm, qn, ns, bs, bm, hd, sn, sub, ab, col, dd, k0, k1, k2, k3, k5, _, KI _ _ ho, .of_isNs (PySem.W.isNs_of_in KI e5), PySem.W.nsMap_none_of_in KI e5 e6, PySem.W.tail_of_in KI e4⟩
    · cases q
  · cases q
noncomputable def tRaise (C : Addr) (E : XK) (ta : TA) : TS := fun _ σ H => ta σ H fun vs H1 => vs.length ≤ 1000 ∧ E (.ref C) none H1
theorem ps_raise {X : Cx} {E : XK} {x : Str} {C : Addr} {a : Expr} {as : List Expr} {ta : TA} {np cpos pos : Pos} (hR : RaiseOk X E) (hc : X.calm = true) (q : ClsX X.K C) (hg : Gl X x) (hm : X.mg x = some (.ref C)) (ha : PA X (a :: as) ta)
    (hs : starEach (a :: as) X.env = (false, eval a X.env) :: starEach as X.env := by rfl) (hpl : (backTo cpos (starEach (a :: as) X.env)).any (·.1) = false := by rfl) (hdb : (x == ("__debug__" : Str)) = false := by decide) :
    PS X (.Raise (some (.Call (.Name x np) (a :: as) [] cpos)) none pos) (tRaise C E ta) := by
  intro pins s σ H D I h
  obtain ⟨nm, qn, N, bs, bm, hdct, sn, sub, ab, col, dd, k0, k1, k2, k3, k5, mN, hC, hN, hni, TL⟩ := exc_obj I.mod.kin q
  have hB : bm.contains (.type "BaseException") = true := TL.hasType (by decide)
  refine wpAny_Raise_call_subU (C := C) (nm := nm) (q := qn) (N := N) (bs := bs) (bm := bm) (hdct := hdct) (sn := sn) (sub := sub) (ab := ab) (col := col) (dd := dd) (k0 := k0) (k1 := k1) (k2 := k2) (k3 := k3) (k5 := k5)
    F.excBase_ValueError (by decide) F.excBase_ValueError hB (I.ok.hd hc) hpl hni (ld_glob I hg hm ⟨rfl, ?_⟩ hdb)
  have hA := ha cpos pins s σ H _ I h
  rw [hs] at hA ⊢
  refine Calls.evalArgs_plain (thn hA fun us s2 ⟨vs, H2, I2, r2, hl, hE⟩ => ?_)
  refine ⟨rfl, ?_, I2.bk _ _ hC, hN.keeps I2.bk, TL.keeps I2.bk, fun h' e hm' => hR pins σ H2 s2 h' e C us I2 hm' hE⟩
  rw [← r2.length]
  exact Nat.le_trans hl (by decide)
end L2
set_option Elab.async false
set_option linter.all false
set_option maxRecDepth 100000
set_option maxHeartbeats 4000000
namespace L2
open PySem PySem.Spec PyProof.Rows PySem.W PySem.Builtin PySem.Builtin.ObjectAttr PySem.Builtin.Getset_descriptor

structure ExcC (K : Frag) (C : Addr) : Prop where
  ga : findIn K (.ref C) "__getattribute__" = some (some (.builtin "BaseException.__getattribute__"))
  gt : findIn K (.ref C) "__getattr__" = some none
  cl : findIn K (.ref C) "__class__" = some (some (.builtin "object.__class__"))
  gg : specialIn K (.builtin "object.__class__") "__get__" = some (some (.builtin "getset_descriptor.__get__"))
  gs : takesIn K (.builtin "object.__class__") = some true
  ob : mroIn K C (.type "object") = some true
  bx : mroIn K C (.type "BaseException") = some true
  ty : typeIn K (.ref C) = some (.type "type")
section
variable {prog : Program} {w : World} {A : Around} {E : Value → Shared → Prop} {K : Frag} {h : Heap} {g : Array GenState} {d : Drawn} {t : Nat} {os : OsState} {a C : Addr} {o : Obj}
def ExcAt (a C : Addr) (h : Heap) : Prop := ∃ ob, h.get? a = some ob ∧ ob.cls = .ref C
end
end L2
set_option Elab.async false
set_option linter.all false
set_option maxRecDepth 100000
set_option maxHeartbeats 4000000
namespace L2
open PySem PySem.Spec PyProof.Rows PySem.W

section
variable {M : Model} {A : Around} {E : Value → Shared → Prop} {K : Frag} {h : Heap} {g : Array GenState} {d : Drawn} {t : Nat} {os : OsState} {e C C' : Addr} {oe : Obj}
end

noncomputable def excO (a C : Addr) : HO := .ext (ExcAt a C)
section
variable {X : Cx} {pins : List (Addr × Obj)} {σ : St} {H : Hp} {s : Shared} {e C : Addr}
end
section
variable {X : Cx} {pins pn : List (Addr × Obj)} {σ : St} {H : Hp} {s : Shared} {xe : Value → Shared → Prop} {e : Addr}
end

end L2
set_option Elab.async false
set_option linter.all false
set_option maxRecDepth 100000
set_option maxHeartbeats 4000000
namespace Mr
open PySem L2

inductive T where
  | non | bl (b : Bool) | int (i : Int) | str (x : Str) | lst (xs : List T) | tup (xs : List T) | dct (fr : Bool) (ks : List Key) (xs : List T) | exc (c : Str)

inductive Rs (α : Type) where
  | ok (a : α) | er (c : Str) | no
namespace Rs
noncomputable def bind {α β : Type} (x : Rs α) (f : α → Rs β) : Rs β := match x with
  | .ok a => f a
  | .er c => .er c
  | .no => .no
noncomputable instance : Monad Rs where
  pure := .ok
  bind := bind
end Rs

inductive Ow where
  | l (xs : List T) | d (kvs : List (Key × T))
noncomputable def Ow.t : Ow → T
  | .l xs => .lst xs
  | .d kvs => .dct false (kvs.map (·.1)) (kvs.map (·.2))
inductive EV where
  | un | fz (t : T) | ow (o : Ow)
inductive XV where
  | fz (t : T) | ow (o : Ow) | bo (o : Ow)
noncomputable def XV.t : XV → T
  | .fz t => t
  | .ow o => o.t
  | .bo o => o.t
noncomputable abbrev En := List EV

structure Ks where
  K : PySem.W.Frag
  cl : Str → Option Addr

def DAt (R : Hp) (p : Addr) (fr : Bool) (kvs : List (Key × V)) : Prop := match fr with
  | true => ∃ o, R p = some (.frz o (.dK kvs))
  | false => R p = some (.dK kvs)
theorem DAt.mono {R R' : Hp} {p : Addr} {fr : Bool} {kvs : List (Key × V)} (h : DAt R p fr kvs) (e : Same R R') : DAt R' p fr kvs := by
  cases fr with
  | true => obtain ⟨o, h⟩ := h; exact ⟨o, e _ _ h⟩
  | false => exact e _ _ h
theorem DAt.rd {R : Hp} {p : Addr} {fr : Bool} {kvs : List (Key × V)} (h : DAt R p fr kvs) : Rd R p (.dK kvs) := by
  cases fr with
  | true => obtain ⟨o, h⟩ := h; exact .inr ⟨o, h⟩
  | false => exact .inl h
section
variable (k : Ks)
mutual
noncomputable def Rep (R : Hp) : T → V → Prop
  | .non, v => v = .non
  | .bl b, v => v = .bl b
  | .int i, v => v = .int i
  | .str x, v => v = .str x
  | .lst ts, v => ∃ p us, v = .ref p ∧ SqL k.K R p us ∧ Reps R ts us
  | .tup ts, v => ∃ p us, v = .ref p ∧ SqT k.K R p us ∧ Reps R ts us
  | .dct fr ks ts, v => ∃ p us, v = .ref p ∧ DAt R p fr (ks.zip us) ∧ us.length = ks.length ∧ Reps R ts us
  | .exc c, v => ∃ p C, v = .ref p ∧ R p = some (excO p C) ∧ k.cl c = some C
noncomputable def Reps (R : Hp) : List T → List V → Prop
  | [], us => us = []
  | t :: ts, us => ∃ u r, us = u :: r ∧ Rep R t u ∧ Reps R ts r
end
end

section
variable {k : Ks} {R R' H H' : Hp}
theorem SqT.mono {K : PySem.W.Frag} {a : Addr} {xs : List V} (e : Same H H') (h : SqT K H a xs) : SqT K H' a xs := by
  rcases h with (h | ⟨o, h⟩) | h
  · exact .inl (.inl (e _ _ h))
  · exact .inl (.inr ⟨o, e _ _ h⟩)
  · exact .inr h
mutual
theorem Rep.mono (e : Same R R') : ∀ {t : T} {v : V}, Rep k R t v → Rep k R' t v
  | .non, v, h => h
  | .bl b, v, h => h
  | .int i, v, h => h
  | .str x, v, h => h
  | .lst ts, v, h => by
    unfold Rep at h ⊢
    obtain ⟨p, us, h1, h2, h3⟩ := h
    exact ⟨p, us, h1, e.seq h2, Reps.mono e h3⟩
  | .tup ts, v, h => by
    unfold Rep at h ⊢
    obtain ⟨p, us, h1, h2, h3⟩ := h
    exact ⟨p, us, h1, SqT.mono e h2, Reps.mono e h3⟩
  | .dct fr ks ts, v, h => by
    unfold Rep at h ⊢
    obtain ⟨p, us, h1, h2, hl, h3⟩ := h
    exact ⟨p, us, h1, h2.mono e, hl, Reps.mono e h3⟩
  | .exc c, v, h => by
    unfold Rep at h ⊢
    obtain ⟨p, C, h1, h2, h3⟩ := h
    exact ⟨p, C, h1, e _ _ h2, h3⟩
theorem Reps.mono (e : Same R R') : ∀ {ts : List T} {us : List V}, Reps k R ts us → Reps k R' ts us
  | [], us, h => by unfold Reps at h ⊢; exact h
  | t :: ts, us, h => by
    unfold Reps at h ⊢
    obtain ⟨u, r, h1, h2, h3⟩ := h
    exact ⟨u, r, h1, Rep.mono e h2, Reps.mono e h3⟩
end
theorem Reps.length : ∀ {ts : List T} {us : List V}, Reps k R ts us → ts.length = us.length
  | [], us, h => by unfold Reps at h; subst h; rfl
  | t :: ts, us, h => by
    unfold Reps at h
    obtain ⟨u, r, h1, _, h3⟩ := h
    subst h1
    simp [Reps.length h3]
theorem Reps.nil : Reps k R [] [] := by unfold Reps; rfl
theorem Reps.cons {t : T} {u : V} {ts : List T} {us : List V} (h : Rep k R t u) (h' : Reps k R ts us) : Reps k R (t :: ts) (u :: us) := by
  unfold Reps; exact ⟨u, us, rfl, h, h'⟩
theorem Reps.head {t : T} {u : V} {ts : List T} {us : List V} (h : Reps k R (t :: ts) (u :: us)) : Rep k R t u ∧ Reps k R ts us := by
  unfold Reps at h
  obtain ⟨u', r, e, h1, h2⟩ := h
  cases e
  exact ⟨h1, h2⟩
theorem Reps.get : ∀ {ts : List T} {us : List V} {i : Nat} {t : T}, Reps k R ts us → ts[i]? = some t → ∃ u, us[i]? = some u ∧ Rep k R t u
  | [], _, i, t, _, e => by simp at e
  | t0 :: ts, us, i, t, h, e => by
    unfold Reps at h
    obtain ⟨u, r, rfl, h2, h3⟩ := h
    cases i with
    | zero => simp at e; subst e; exact ⟨u, by simp, h2⟩
    | succ i =>
      obtain ⟨w, h4, h5⟩ := Reps.get (i := i) h3 (by simpa using e)
      exact ⟨w, by simpa using h4, h5⟩
theorem Reps.getV : ∀ {ts : List T} {us : List V} {i : Nat} {u : V}, Reps k R ts us → us[i]? = some u → ∃ t, ts[i]? = some t ∧ Rep k R t u
  | [], us, i, u, h, e => by unfold Reps at h; subst h; simp at e
  | t0 :: ts, us, i, t, h, e => by
    unfold Reps at h
    obtain ⟨u, r, rfl, h2, h3⟩ := h
    cases i with
    | zero => simp at e; subst e; exact ⟨t0, by simp, h2⟩
    | succ i =>
      obtain ⟨w, h4, h5⟩ := Reps.getV (i := i) h3 (by simpa using e)
      exact ⟨w, by simpa using h4, h5⟩
theorem Reps.append : ∀ {ts ss : List T} {us ws : List V}, Reps k R ts us → Reps k R ss ws → Reps k R (ts ++ ss) (us ++ ws)
  | [], ss, us, ws, h, h' => by unfold Reps at h; subst h; exact h'
  | t :: ts, ss, us, ws, h, h' => by
    unfold Reps at h
    obtain ⟨u, r, rfl, h2, h3⟩ := h
    exact Reps.cons h2 (Reps.append h3 h')
theorem Reps.take : ∀ {ts : List T} {us : List V} (n : Nat), Reps k R ts us → Reps k R (ts.take n) (us.take n)
  | [], us, n, h => by unfold Reps at h; subst h; simp; exact Reps.nil
  | t :: ts, us, 0, h => by simp; exact Reps.nil
  | t :: ts, us, n + 1, h => by
    unfold Reps at h
    obtain ⟨u, r, rfl, h2, h3⟩ := h
    exact Reps.cons h2 (Reps.take n h3)
theorem Reps.drop : ∀ {ts : List T} {us : List V} (n : Nat), Reps k R ts us → Reps k R (ts.drop n) (us.drop n)
  | ts, us, 0, h => by simpa using h
  | [], us, n + 1, h => by unfold Reps at h; subst h; simp; exact Reps.nil
  | t :: ts, us, n + 1, h => by
    unfold Reps at h
    obtain ⟨u, r, rfl, h2, h3⟩ := h
    simpa using Reps.drop n h3
theorem Reps.set {t : T} {u : V} (r : Rep k R t u) : ∀ {ts : List T} {us : List V} (i : Nat), Reps k R ts us → Reps k R (ts.set i t) (us.set i u)
  | [], us, i, h => by unfold Reps at h; subst h; simp; exact Reps.nil
  | t :: ts, us, 0, h => by
    unfold Reps at h
    obtain ⟨u, r', rfl, h2, h3⟩ := h
    exact Reps.cons r h3
  | t :: ts, us, i + 1, h => by
    unfold Reps at h
    obtain ⟨u, r', rfl, h2, h3⟩ := h
    exact Reps.cons h2 (Reps.set r i h3)
theorem Rep.int {i : Int} {v : V} (h : Rep k R (.int i) v) : v = .int i := by unfold Rep at h; exact h
theorem Rep.bl {i : Bool} {v : V} (h : Rep k R (.bl i) v) : v = .bl i := by unfold Rep at h; exact h
theorem Rep.str {i : Str} {v : V} (h : Rep k R (.str i) v) : v = .str i := by unfold Rep at h; exact h
theorem Rep.non {v : V} (h : Rep k R .non v) : v = .non := by unfold Rep at h; exact h
theorem rep_int {i : Int} : Rep k R (.int i) (.int i) := by unfold Rep; rfl
theorem rep_bl {i : Bool} : Rep k R (.bl i) (.bl i) := by unfold Rep; rfl
theorem rep_str {i : Str} : Rep k R (.str i) (.str i) := by unfold Rep; rfl
theorem rep_non : Rep k R .non .non := by unfold Rep; rfl
theorem rep_tup {p : Addr} {us : List V} {ts : List T} (h : SqT k.K R p us) (h' : Reps k R ts us) : Rep k R (.tup ts) (.ref p) := by
  unfold Rep; exact ⟨p, us, rfl, h, h'⟩
theorem rep_lst {p : Addr} {us : List V} {ts : List T} (h : SqL k.K R p us) (h' : Reps k R ts us) : Rep k R (.lst ts) (.ref p) := by
  unfold Rep; exact ⟨p, us, rfl, h, h'⟩
end

structure Ext (R H R' H' : Hp) : Prop where
  r : Same R R'
  h : Same H H'
  i : Same R' H'
  n : ∀ a, R a = none → H a ≠ none → R' a = none
theorem Ext.refl {R H : Hp} (h : Same R H) : Ext R H R H := ⟨Same.refl R, Same.refl H, h, fun a h _ => h⟩
theorem Ext.trans {R H R1 H1 R2 H2 : Hp} (a : Ext R H R1 H1) (b : Ext R1 H1 R2 H2) : Ext R H R2 H2 :=
  ⟨a.r.trans b.r, a.h.trans b.h, b.i, fun x h1 h2 => b.n x (a.n x h1 h2) fun z => h2 (a.h.free z)⟩
theorem same_upd {R R' : Hp} {p : Addr} {o : HO} (h : Same R R') (hp : R p = none) : Same R (upd R' p o) := fun b u e => by
  rw [upd_ne (ne_of_none e hp)]; exact h b u e
theorem same_upd0 {R : Hp} {p : Addr} {o : HO} (hp : R p = none) : Same R (upd R p o) := same_upd (Same.refl R) hp
theorem Ext.new {R H R1 H1 : Hp} {p : Addr} {o : HO} (a : Ext R H R1 H1) (hp : H1 p = none) : Ext R H R1 (upd H1 p o) :=
  ⟨a.r, same_upd a.h (a.h.free hp), same_upd a.i (a.i.free hp), a.n⟩
theorem Ext.fz {R H R1 H1 : Hp} {p : Addr} {o : HO} (a : Ext R H R1 H1) (hp : H p = none) (ho : H1 p = some o) (hr : R1 p = none) : Ext R H (upd R1 p o) H1 where
  r := same_upd a.r (a.r.free hr)
  h := a.h
  i := fun b u e => by
    by_cases hb : b = p
    · subst hb; rw [upd_same] at e; cases e; exact ho
    · rw [upd_ne hb] at e; exact a.i b u e
  n := fun b h1 h2 => by
    have hb : b ≠ p := fun z => h2 (z ▸ hp)
    rw [upd_ne hb]; exact a.n b h1 h2
theorem Ext.newFz {R H R1 H1 : Hp} {p : Addr} {o : HO} (a : Ext R H R1 H1) (hp : H1 p = none) : Ext R H (upd R1 p o) (upd H1 p o) :=
  (a.new (o := o) hp).fz (a.h.free hp) upd_same (a.i.free hp)

def OwOk (k : Ks) (R H : Hp) (o : Ow) (p : Addr) : Prop := match o with
  | .l ts => ∃ us, H p = some (.lst us) ∧ Reps k R ts us
  | .d kvs => ∃ us, H p = some (.dK ((kvs.map (·.1)).zip us)) ∧ Reps k R (kvs.map (·.2)) us
theorem OwOk.mono {k : Ks} {R H R' H' : Hp} {o : Ow} {p : Addr} (x : OwOk k R H o p) (r : Same R R') (h : Same H H') : OwOk k R' H' o p := by
  cases o with
  | l ts => obtain ⟨us, h1, h2⟩ := x; exact ⟨us, h _ _ h1, h2.mono r⟩
  | d kvs => obtain ⟨us, h1, h2⟩ := x; exact ⟨us, h _ _ h1, h2.mono r⟩
theorem OwOk.some {k : Ks} {R H : Hp} {o : Ow} {p : Addr} (x : OwOk k R H o p) : H p ≠ none := by
  cases o with
  | l ts => obtain ⟨us, h1, h2⟩ := x; rw [h1]; exact fun z => nomatch z
  | d kvs => obtain ⟨us, h1, h2⟩ := x; rw [h1]; exact fun z => nomatch z
theorem OwOk.at {k : Ks} {R H H' : Hp} {o : Ow} {p : Addr} (x : OwOk k R H o p) (h : H' p = H p) : OwOk k R H' o p := by
  cases o with
  | l ts => obtain ⟨us, h1, h2⟩ := x; exact ⟨us, h.trans h1, h2⟩
  | d kvs => obtain ⟨us, h1, h2⟩ := x; exact ⟨us, h.trans h1, h2⟩
theorem OwOk.rep {k : Ks} {R R' H : Hp} {o : Ow} {p : Addr} (x : OwOk k R H o p) (r : Same R R') (h : R' p = H p) : Rep k R' o.t (.ref p) := by
  cases o with
  | l ts => obtain ⟨us, h1, h2⟩ := x; exact rep_lst (.inl (.inl (h.trans h1))) (h2.mono r)
  | d kvs =>
    obtain ⟨us, h1, h2⟩ := x
    show Rep k R' (.dct false _ _) _
    unfold Rep
    refine ⟨p, us, rfl, h.trans h1, ?_, h2.mono r⟩
    have := h2.length
    simp only [List.length_map] at this ⊢
    omega

noncomputable def RepX (k : Ks) (R H Hs : Hp) (v : V) : XV → Prop
  | .fz t => Rep k R t v
  | .ow o => ∃ p, v = .ref p ∧ Hs p = none ∧ R p = none ∧ OwOk k R H o p
  | .bo o => ∃ p, v = .ref p ∧ OwOk k R H o p
theorem RepX.mono {k : Ks} {R H Hs R' H' : Hp} {v : V} {x : XV} (h : RepX k R H Hs v x) (e : Ext R H R' H') : RepX k R' H' Hs v x := by
  cases x with
  | fz t => exact Rep.mono e.r h
  | ow o => obtain ⟨p, h1, h2, h3, h4⟩ := h; exact ⟨p, h1, h2, e.n p h3 h4.some, h4.mono e.r e.h⟩
  | bo o => obtain ⟨p, h1, h4⟩ := h; exact ⟨p, h1, h4.mono e.r e.h⟩
theorem RepX.back {k : Ks} {R H Hs Hs' : Hp} {v : V} {x : XV} (h : RepX k R H Hs' v x) (e : Same Hs Hs') : RepX k R H Hs v x := by
  cases x with
  | fz t => exact h
  | ow o => obtain ⟨p, h1, h2, h3, h4⟩ := h; exact ⟨p, h1, e.free h2, h3, h4⟩
  | bo o => exact h
def Vw (k : Ks) (R H : Hp) (v : V) (t : T) : Prop := Rep k R t v ∨ ∃ p o, v = .ref p ∧ OwOk k R H o p ∧ t = o.t
theorem RepX.vw {k : Ks} {R H Hs : Hp} {v : V} {x : XV} (h : RepX k R H Hs v x) : Vw k R H v x.t := by
  cases x with
  | fz t => exact .inl h
  | ow o => obtain ⟨p, h1, h2, h3, h4⟩ := h; exact .inr ⟨p, o, h1, h4, rfl⟩
  | bo o => obtain ⟨p, h1, h4⟩ := h; exact .inr ⟨p, o, h1, h4, rfl⟩
section
variable {k : Ks} {R H R' H' : Hp} {v : V}
theorem Vw.mono {t : T} (h : Vw k R H v t) (e : Ext R H R' H') : Vw k R' H' v t := by
  rcases h with h | ⟨p, o, h1, h2, h3⟩
  · exact .inl (h.mono e.r)
  · exact .inr ⟨p, o, h1, h2.mono e.r e.h, h3⟩
theorem Vw.int {i : Int} (h : Vw k R H v (.int i)) : v = .int i := by
  rcases h with h | ⟨p, o, h1, h2, h3⟩
  · exact h.int
  · cases o <;> cases h3
theorem Vw.bl {i : Bool} (h : Vw k R H v (.bl i)) : v = .bl i := by
  rcases h with h | ⟨p, o, h1, h2, h3⟩
  · exact h.bl
  · cases o <;> cases h3
theorem Vw.str {i : Str} (h : Vw k R H v (.str i)) : v = .str i := by
  rcases h with h | ⟨p, o, h1, h2, h3⟩
  · exact h.str
  · cases o <;> cases h3
theorem Vw.non (h : Vw k R H v .non) : v = .non := by
  rcases h with h | ⟨p, o, h1, h2, h3⟩
  · exact h.non
  · cases o <;> cases h3
theorem Vw.lst {ts : List T} (h : Vw k R H v (.lst ts)) (i : Same R H) : ∃ p us, v = .ref p ∧ SqL k.K H p us ∧ Reps k R ts us := by
  rcases h with h | ⟨p, o, h1, h2, h3⟩
  · unfold Rep at h
    obtain ⟨p, us, h1, h2, h3⟩ := h
    exact ⟨p, us, h1, i.seq h2, h3⟩
  · cases o with
    | l xs =>
      cases h3
      obtain ⟨us, h4, h5⟩ := h2
      exact ⟨p, us, h1, .inl (.inl h4), h5⟩
    | d kvs => cases h3
theorem Vw.tup {ts : List T} (h : Vw k R H v (.tup ts)) (i : Same R H) : ∃ p us, v = .ref p ∧ SqT k.K H p us ∧ Reps k R ts us := by
  rcases h with h | ⟨p, o, h1, h2, h3⟩
  · unfold Rep at h
    obtain ⟨p, us, h1, h2, h3⟩ := h
    exact ⟨p, us, h1, SqT.mono i h2, h3⟩
  · cases o with
    | l xs => cases h3
    | d kvs => cases h3
theorem Vw.dct {fr : Bool} {ks : List Key} {ts : List T} (h : Vw k R H v (.dct fr ks ts)) (i : Same R H) : ∃ p us, v = .ref p ∧ DAt H p fr (ks.zip us) ∧ us.length = ks.length ∧ Reps k R ts us := by
  rcases h with h | ⟨p, o, h1, h2, h3⟩
  · unfold Rep at h
    obtain ⟨p, us, h1, h2, hl, h3⟩ := h
    exact ⟨p, us, h1, h2.mono i, hl, h3⟩
  · cases o with
    | l xs => cases h3
    | d kvs =>
      cases h3
      obtain ⟨us, h4, h5⟩ := h2
      have := h5.length
      simp only [List.length_map] at this
      exact ⟨p, us, h1, h4, by simp only [List.length_map]; omega, h5⟩
theorem Vw.exc {c : Str} (h : Vw k R H v (.exc c)) (i : Same R H) : ∃ p C, v = .ref p ∧ H p = some (excO p C) ∧ k.cl c = some C := by
  rcases h with h | ⟨p, o, h1, h2, h3⟩
  · unfold Rep at h
    obtain ⟨p, C, h1, h2, h3⟩ := h
    exact ⟨p, C, h1, i _ _ h2, h3⟩
  · cases o <;> cases h3
end

structure RSt (k : Ks) (R0 H0 R : Hp) (σ : St) (ρ : En) (H : Hp) : Prop where
  ext : Ext R0 H0 R H
  len : σ.length = ρ.length
  fz : ∀ (i : Nat) (t : T), ρ[i]? = some (.fz t) → ∃ v, σ[i]? = some (some v) ∧ Rep k R t v
  ow : ∀ (i : Nat) (o : Ow), ρ[i]? = some (.ow o) → ∃ p, σ[i]? = some (some (.ref p)) ∧ H0 p = none ∧ R p = none ∧ OwOk k R H o p
  sep : ∀ (i j : Nat) (o o' : Ow) (p : Addr), i ≠ j → ρ[i]? = some (.ow o) → ρ[j]? = some (.ow o') → σ[i]? = some (some (.ref p)) → σ[j]? ≠ some (some (.ref p))
section
variable {k : Ks} {R0 H0 R R' : Hp} {σ : St} {ρ : En} {H H' : Hp}
theorem RSt.i (I : RSt k R0 H0 R σ ρ H) : Same R H := I.ext.i
theorem RSt.step (I : RSt k R0 H0 R σ ρ H) (e : Ext R H R' H') : RSt k R0 H0 R' σ ρ H' where
  ext := I.ext.trans e
  len := I.len
  fz := fun i t h => let ⟨v, h1, h2⟩ := I.fz i t h; ⟨v, h1, h2.mono e.r⟩
  ow := fun i o h => let ⟨p, h1, h2, h3, h4⟩ := I.ow i o h; ⟨p, h1, h2, e.n p h3 h4.some, h4.mono e.r e.h⟩
  sep := I.sep
theorem get_set_cases {α : Type} {l : List α} {i j : Nat} {a b : α} (h : (l.set i a)[j]? = some b) : (j = i ∧ i < l.length ∧ b = a) ∨ (j ≠ i ∧ l[j]? = some b) := by
  by_cases e : j = i
  · subst e
    by_cases hl : j < l.length
    · rw [List.getElem?_set_self hl] at h; cases h; exact .inl ⟨rfl, hl, rfl⟩
    · rw [List.getElem?_eq_none (by rw [List.length_set]; omega)] at h; cases h
  · rw [List.getElem?_set_ne (Ne.symm e)] at h; exact .inr ⟨e, h⟩
theorem RSt.setFz (I : RSt k R0 H0 R σ ρ H) {i : Nat} {v : V} {t : T} (h : Rep k R t v) : RSt k R0 H0 R (σ.set i (some v)) (ρ.set i (.fz t)) H where
  ext := I.ext
  len := by rw [List.length_set, List.length_set]; exact I.len
  fz := fun j t' e => by
    rcases get_set_cases e with ⟨rfl, hl, e⟩ | ⟨hj, e⟩
    · cases e; exact ⟨v, List.getElem?_set_self (by rw [I.len]; exact hl), h⟩
    · obtain ⟨u, h1, h2⟩ := I.fz j t' e
      exact ⟨u, by rw [List.getElem?_set_ne (Ne.symm hj)]; exact h1, h2⟩
  ow := fun j o e => by
    rcases get_set_cases e with ⟨rfl, hl, e⟩ | ⟨hj, e⟩
    · cases e
    · obtain ⟨p, h1, h2⟩ := I.ow j o e
      exact ⟨p, by rw [List.getElem?_set_ne (Ne.symm hj)]; exact h1, h2⟩
  sep := fun a b o o' p hab ea eb e1 => by
    rcases get_set_cases ea with ⟨_, _, z⟩ | ⟨ha, ea⟩
    · cases z
    rcases get_set_cases eb with ⟨_, _, z⟩ | ⟨hb, eb⟩
    · cases z
    rw [List.getElem?_set_ne (Ne.symm ha)] at e1
    rw [List.getElem?_set_ne (Ne.symm hb)]
    exact I.sep a b o o' p hab ea eb e1
theorem RSt.forget (I : RSt k R0 H0 R σ ρ H) (i : Nat) : RSt k R0 H0 R σ (ρ.set i .un) H where
  ext := I.ext
  len := by rw [List.length_set]; exact I.len
  fz := fun j t' e => by
    rcases get_set_cases e with ⟨rfl, hl, e⟩ | ⟨hj, e⟩
    · cases e
    · exact I.fz j t' e
  ow := fun j o e => by
    rcases get_set_cases e with ⟨rfl, hl, e⟩ | ⟨hj, e⟩
    · cases e
    · exact I.ow j o e
  sep := fun a b o o' p hab ea eb e1 => by
    rcases get_set_cases ea with ⟨_, _, z⟩ | ⟨ha, ea⟩
    · cases z
    rcases get_set_cases eb with ⟨_, _, z⟩ | ⟨hb, eb⟩
    · cases z
    exact I.sep a b o o' p hab ea eb e1
theorem RSt.setOw (I : RSt k R0 H0 R σ ρ H) {i : Nat} {p : Addr} {o : Ow} (e : Ext R H R' H') (hp : H p = none) (hr : R' p = none) (ho : OwOk k R' H' o p) : RSt k R0 H0 R' (σ.set i (some (.ref p))) (ρ.set i (.ow o)) H' where
  ext := I.ext.trans e
  len := by rw [List.length_set, List.length_set]; exact I.len
  fz := fun j t' q => by
    rcases get_set_cases q with ⟨rfl, hl, q⟩ | ⟨hj, q⟩
    · cases q
    · obtain ⟨u, h1, h2⟩ := I.fz j t' q
      exact ⟨u, by rw [List.getElem?_set_ne (Ne.symm hj)]; exact h1, h2.mono e.r⟩
  ow := fun j o' q => by
    rcases get_set_cases q with ⟨rfl, hl, q⟩ | ⟨hj, q⟩
    · cases q; exact ⟨p, List.getElem?_set_self (by rw [I.len]; exact hl), I.ext.h.free hp, hr, ho⟩
    · obtain ⟨p', h1, h2, h3, h4⟩ := I.ow j o' q
      exact ⟨p', by rw [List.getElem?_set_ne (Ne.symm hj)]; exact h1, h2, e.n p' h3 h4.some, h4.mono e.r e.h⟩
  sep := fun a b o1 o2 q hab ea eb e1 e2 => by
    rcases get_set_cases ea with ⟨rfl, hl, ea⟩ | ⟨ha, ea⟩
    · rcases get_set_cases eb with ⟨z, _, _⟩ | ⟨hb, eb⟩
      · exact hab z.symm
      · rw [List.getElem?_set_self (by rw [I.len]; exact hl)] at e1
        cases e1
        rw [List.getElem?_set_ne (Ne.symm hb)] at e2
        obtain ⟨p', h1, h2, h3, h4⟩ := I.ow b o2 eb
        rw [h1] at e2
        cases e2
        exact h4.some hp
    · rw [List.getElem?_set_ne (Ne.symm ha)] at e1
      obtain ⟨p', h1, h2, h3, h4⟩ := I.ow a o1 ea
      rw [h1] at e1
      cases e1
      rcases get_set_cases eb with ⟨rfl, hl, eb⟩ | ⟨hb, eb⟩
      · rw [List.getElem?_set_self (by rw [I.len]; exact hl)] at e2
        cases e2
        exact h4.some hp
      · rw [List.getElem?_set_ne (Ne.symm hb)] at e2
        exact I.sep a b o1 o2 _ hab ea eb h1 e2
theorem RSt.change (I : RSt k R0 H0 R σ ρ H) {i : Nat} {p : Addr} {o o' : Ow} {ob : HO} (hi : ρ[i]? = some (.ow o)) (hp : σ[i]? = some (some (.ref p))) (ho : OwOk k R (upd H p ob) o' p) :
    RSt k R0 H0 R σ (ρ.set i (.ow o')) (upd H p ob) := by
  obtain ⟨p', h1, h2, h3, h4⟩ := I.ow i o hi
  rw [hp] at h1
  cases h1
  have hl : i < ρ.length := (List.getElem?_eq_some_iff.mp hi).1
  refine ⟨⟨I.ext.r, same_upd I.ext.h h2, same_upd I.ext.i h3, I.ext.n⟩, by rw [List.length_set]; exact I.len, fun j t' q => ?_, fun j o1 q => ?_, fun a b o1 o2 q hab ea eb e1 e2 => ?_⟩
  · rcases get_set_cases q with ⟨rfl, hl, q⟩ | ⟨hj, q⟩
    · cases q
    · exact I.fz j t' q
  · rcases get_set_cases q with ⟨rfl, hl, q⟩ | ⟨hj, q⟩
    · cases q; exact ⟨p, hp, h2, h3, ho⟩
    · obtain ⟨p', g1, g2, g3, g4⟩ := I.ow j o1 q
      refine ⟨p', g1, g2, g3, g4.at (upd_ne fun z => ?_)⟩
      subst z
      exact I.sep i j o o1 _ (Ne.symm hj) hi q hp g1
  · have ea' : ∃ o3, ρ[a]? = some (.ow o3) := by
      rcases get_set_cases ea with ⟨rfl, _, _⟩ | ⟨_, ea⟩
      · exact ⟨_, hi⟩
      · exact ⟨_, ea⟩
    have eb' : ∃ o3, ρ[b]? = some (.ow o3) := by
      rcases get_set_cases eb with ⟨rfl, _, _⟩ | ⟨_, eb⟩
      · exact ⟨_, hi⟩
      · exact ⟨_, eb⟩
    obtain ⟨o3, ea'⟩ := ea'
    obtain ⟨o4, eb'⟩ := eb'
    exact I.sep a b o3 o4 q hab ea' eb' e1 e2
noncomputable def freeze (i : Nat) (ρ : En) : En := match ρ[i]? with
  | some (.ow o) => ρ.set i (.fz o.t)
  | _ => ρ
theorem RSt.freeze (I : RSt k R0 H0 R σ ρ H) (i : Nat) : ∃ R', Same R R' ∧ RSt k R0 H0 R' σ (freeze i ρ) H := by
  unfold Mr.freeze
  split
  · rename_i o hi
    obtain ⟨p, h1, h2, h3, h4⟩ := I.ow i o hi
    cases hH : H p with
    | none => exact absurd hH h4.some
    | some ob =>
      have hl : i < ρ.length := (List.getElem?_eq_some_iff.mp hi).1
      refine ⟨upd R p ob, same_upd0 h3, I.ext.fz h2 hH h3, by rw [List.length_set]; exact I.len, fun j t q => ?_, fun j o1 q => ?_, fun a b o1 o2 q hab ea eb e1 e2 => ?_⟩
      · rcases get_set_cases q with ⟨rfl, hl, q⟩ | ⟨hj, q⟩
        · cases q
          exact ⟨.ref p, h1, h4.rep (same_upd0 h3) (upd_same.trans hH.symm)⟩
        · obtain ⟨u, g1, g2⟩ := I.fz j t q
          exact ⟨u, g1, g2.mono (same_upd0 h3)⟩
      · rcases get_set_cases q with ⟨rfl, hl, q⟩ | ⟨hj, q⟩
        · cases q
        · obtain ⟨p', g1, g2, g3, g4⟩ := I.ow j o1 q
          refine ⟨p', g1, g2, ?_, g4.mono (same_upd0 h3) (Same.refl _)⟩
          rw [upd_ne fun z => ?_]
          · exact g3
          · subst z
            exact I.sep i j o o1 _ (Ne.symm hj) hi q h1 g1
      · rcases get_set_cases ea with ⟨_, _, z⟩ | ⟨ha, ea⟩
        · cases z
        rcases get_set_cases eb with ⟨_, _, z⟩ | ⟨hb, eb⟩
        · cases z
        exact I.sep a b o1 o2 q hab ea eb e1 e2
  · exact ⟨R, Same.refl R, I⟩
end
end Mr
set_option Elab.async false
set_option linter.all false
set_option maxRecDepth 100000
set_option maxHeartbeats 4000000
namespace Mr
open PySem L2

def Rs.holds {α : Type} (r : Rs α) (P : α → Prop) (E : Str → Prop) : Prop := match r with
  | .ok a => P a
  | .er c => E c
  | .no => False
theorem Rs.holds_bind {α β : Type} {x : Rs α} {f : α → Rs β} {P : β → Prop} {E : Str → Prop} (h : (x.bind f).holds P E) : x.holds (fun a => (f a).holds P E) E := by
  cases x <;> exact h
theorem Rs.holds_mono {α : Type} {x : Rs α} {P P' : α → Prop} {E E' : Str → Prop} (h : x.holds P E) (hP : ∀ a, x = .ok a → P a → P' a) (hE : ∀ c, E c → E' c) : x.holds P' E' := by
  cases x with
  | ok a => exact hP a rfl h
  | er c => exact hE c h
  | no => exact h
noncomputable def Rs.ofO {α : Type} : Option α → Rs α
  | some a => .ok a
  | none => .no

noncomputable abbrev ME := En → Rs XV
noncomputable abbrev MT := En → Rs Bool
noncomputable abbrev MA := En → Rs (List XV)

section
variable (k : Ks) (Ex : St → XK)
def Err (σ : St) (H : Hp) (c : Str) : Prop := ∀ H' C, Same H H' → k.cl c = some C → Ex σ (.ref C) none H'
abbrev WantX (R H : Hp) (Q : VK) (x : XV) : Prop := ∀ R' H' v, Ext R H R' H' → RepX k R' H' H v x → Q v H'
noncomputable abbrev RepXs (R H Hs : Hp) : List V → List XV → Prop := Paired fun v x => RepX k R H Hs v x
structure SE (te : TE) (me : ME) : Prop where
  run : ∀ {R0 H0 R : Hp} {σ : St} {ρ : En} {H : Hp} {Q : VK}, RSt k R0 H0 R σ ρ H → (me ρ).holds (WantX k R H Q) (Err k Ex σ H) → te σ H Q
structure ST (tt : TT) (mt : MT) : Prop where
  run : ∀ {R0 H0 R : Hp} {σ : St} {ρ : En} {H : Hp} {Q : Bool → Hp → Prop}, RSt k R0 H0 R σ ρ H → (mt ρ).holds (fun b => ∀ R' H', Ext R H R' H' → Q b H') (Err k Ex σ H) → tt σ H Q
structure SA (ta : TA) (ma : MA) : Prop where
  run : ∀ {R0 H0 R : Hp} {σ : St} {ρ : En} {H : Hp} {Q : List V → Hp → Prop}, RSt k R0 H0 R σ ρ H → (ma ρ).holds (fun xs => ∀ R' H' vs, Ext R H R' H' → RepXs k R' H' H vs xs → Q vs H') (Err k Ex σ H) → ta σ H Q
end
section
variable {k : Ks} {Ex : St → XK}
theorem Err.mono {σ : St} {H H' : Hp} {c : Str} (h : Err k Ex σ H c) (e : Same H H') : Err k Ex σ H' c := fun H2 C e2 hc => h H2 C (e.trans e2) hc
theorem WantX.step {R H R' H' : Hp} {Q : VK} {x : XV} (h : WantX k R H Q x) (e : Ext R H R' H') : WantX k R' H' Q x := fun R2 H2 v e2 r => h R2 H2 v (e.trans e2) (r.back e.h)

noncomputable def mVar (i : Nat) : ME := fun ρ => match ρ[i]? with
  | some (.fz t) => .ok (.fz t)
  | some (.ow o) => .ok (.bo o)
  | _ => .no
theorem se_var {i : Nat} : SE k Ex (tVar i) (mVar i) := by
  constructor
  intro R0 H0 R σ ρ H Q I h
  unfold mVar at h
  cases e : ρ[i]? with
  | none => rw [e] at h; exact h.elim
  | some x =>
    rw [e] at h
    cases x with
    | un => exact h.elim
    | fz t =>
      obtain ⟨v, h1, h2⟩ := I.fz i t e
      exact ⟨v, h1, h R H v (Ext.refl I.i) h2⟩
    | ow o =>
      obtain ⟨p, h1, h2, h3, h4⟩ := I.ow i o e
      exact ⟨.ref p, h1, h R H _ (Ext.refl I.i) ⟨p, rfl, h4⟩⟩
noncomputable def mC (t : T) : ME := fun _ => .ok (.fz t)
theorem se_c {v : V} {t : T} (h : ∀ R, Rep k R t v) : SE k Ex (tC v) (mC t) := by
  constructor
  intro R0 H0 R σ ρ H Q I hw
  exact hw R H v (Ext.refl I.i) (h R)
theorem se_int {i : Int} : SE k Ex (tC (.int i)) (mC (.int i)) := se_c fun _ => rep_int
theorem se_bl {i : Bool} : SE k Ex (tC (.bl i)) (mC (.bl i)) := se_c fun _ => rep_bl
theorem se_str {i : Str} : SE k Ex (tC (.str i)) (mC (.str i)) := se_c fun _ => rep_str
abbrev WO (k : Ks) (R H : Hp) (Q : VK) (o : Option XV) : Prop := ∃ x, o = some x ∧ WantX k R H Q x
def R2S (k : Ks) (r : R2) (f : T → T → Option XV) : Prop := ∀ R H x y t u Q, Same R H → Vw k R H x t → Vw k R H y u → WO k R H Q (f t u) → r x y H Q
def R1S (k : Ks) (r : V → Hp → VK → Prop) (f : T → Option XV) : Prop := ∀ R H x t Q, Same R H → Vw k R H x t → WO k R H Q (f t) → r x H Q
noncomputable abbrev Vws (k : Ks) (R H : Hp) : List V → List T → Prop := Paired fun v t => Vw k R H v t
def RnS (k : Ks) (r : List V → Hp → VK → Prop) (f : List T → Option XV) : Prop := ∀ R H vs ts Q, Same R H → Vws k R H vs ts → WO k R H Q (f ts) → r vs H Q
theorem holds_ofO {α : Type} {o : Option α} {P : α → Prop} {E : Str → Prop} (h : (Rs.ofO o).holds P E) : ∃ x, o = some x ∧ P x := by
  cases o with
  | none => exact h.elim
  | some x => exact ⟨x, rfl, h⟩
noncomputable def mOp (f : T → T → Option XV) (a b : ME) : ME := fun ρ => (a ρ).bind fun x => (b ρ).bind fun y => .ofO (f x.t y.t)
theorem se_op {r : R2} {f : T → T → Option XV} {ta tb : TE} {ma mb : ME} (hr : R2S k r f) (ha : SE k Ex ta ma) (hb : SE k Ex tb mb) : SE k Ex (tOp r ta tb) (mOp f ma mb) := by
  constructor
  intro R0 H0 R σ ρ H Q I h
  refine ha.run I (Rs.holds_mono (Rs.holds_bind h) (fun x _ hx => ?_) fun c z => z)
  intro R1 H1 v e1 r1
  refine hb.run (I.step e1) (Rs.holds_mono (Rs.holds_bind hx) (fun y _ hy => ?_) fun c z => z.mono e1.h)
  intro R2 H2 u e2 r2
  obtain ⟨z, hz, hw⟩ := holds_ofO hy
  exact hr R2 H2 v u x.t y.t Q e2.i (r1.vw.mono e2) r2.vw ⟨z, hz, hw.step (e1.trans e2)⟩
noncomputable def mUn (f : T → Option XV) (a : ME) : ME := fun ρ => (a ρ).bind fun x => .ofO (f x.t)
theorem se_un {r : V → Hp → VK → Prop} {f : T → Option XV} {ta : TE} {ma : ME} (hr : R1S k r f) (ha : SE k Ex ta ma) : SE k Ex (tUn r ta) (mUn f ma) := by
  constructor
  intro R0 H0 R σ ρ H Q I h
  refine ha.run I (Rs.holds_mono (Rs.holds_bind h) (fun x _ hx => ?_) fun c z => z)
  intro R1 H1 v e1 r1
  obtain ⟨z, hz, hw⟩ := holds_ofO hx
  exact hr R1 H1 v x.t Q e1.i r1.vw ⟨z, hz, hw.step e1⟩
noncomputable def mNil : MA := fun _ => .ok []
noncomputable def mCons (a : ME) (b : MA) : MA := fun ρ => (a ρ).bind fun x => (b ρ).bind fun xs => .ok (x :: xs)
theorem sa_nil : SA k Ex tNil mNil := by
  constructor
  intro R0 H0 R σ ρ H Q I h
  exact h R H [] (Ext.refl I.i) .nil
theorem RepXs.mono {R H Hs R' H' : Hp} (e : Ext R H R' H') : ∀ {vs : List V} {xs : List XV}, RepXs k R H Hs vs xs → RepXs k R' H' Hs vs xs
  | _, _, .nil => .nil
  | _, _, .cons a b => .cons (RepX.mono a e) (RepXs.mono e b)
theorem RepXs.back {R H Hs Hs' : Hp} (e : Same Hs Hs') : ∀ {vs : List V} {xs : List XV}, RepXs k R H Hs' vs xs → RepXs k R H Hs vs xs
  | _, _, .nil => .nil
  | _, _, .cons a b => .cons (RepX.back a e) (RepXs.back e b)
theorem RepXs.vws {R H Hs : Hp} : ∀ {vs : List V} {xs : List XV}, RepXs k R H Hs vs xs → Vws k R H vs (xs.map XV.t)
  | _, _, .nil => .nil
  | _, _, .cons a b => .cons (RepX.vw a) (RepXs.vws b)
theorem sa_cons {te : TE} {ta : TA} {me : ME} {ma : MA} (he : SE k Ex te me) (ha : SA k Ex ta ma) : SA k Ex (tCons te ta) (mCons me ma) := by
  constructor
  intro R0 H0 R σ ρ H Q I h
  refine he.run I (Rs.holds_mono (Rs.holds_bind h) (fun x _ hx => ?_) fun c z => z)
  intro R1 H1 v e1 r1
  refine ha.run (I.step e1) (Rs.holds_mono (Rs.holds_bind hx) (fun y _ hy => ?_) fun c z => z.mono e1.h)
  intro R2 H2 vs e2 r2
  exact hy R2 H2 (v :: vs) (e1.trans e2) (.cons (r1.mono e2) (RepXs.back e1.h r2))
noncomputable def mCB (f : List T → Option XV) (a : MA) : ME := fun ρ => (a ρ).bind fun xs => .ofO (f (xs.map XV.t))
theorem se_cb {r : List V → Hp → VK → Prop} {f : List T → Option XV} {ta : TA} {ma : MA} (hr : RnS k r f) (ha : SA k Ex ta ma) : SE k Ex (tCB r ta) (mCB f ma) := by
  constructor
  intro R0 H0 R σ ρ H Q I h
  refine ha.run I (Rs.holds_mono (Rs.holds_bind h) (fun x _ hx => ?_) fun c z => z)
  intro R1 H1 vs e1 r1
  obtain ⟨z, hz, hw⟩ := holds_ofO hx
  exact hr R1 H1 vs (x.map XV.t) Q e1.i (RepXs.vws r1) ⟨z, hz, hw.step e1⟩
noncomputable def XV.dur : XV → Option T
  | .fz t => some t
  | .ow o => some o.t
  | .bo _ => none
noncomputable def durs : List XV → Option (List T)
  | [] => some []
  | x :: xs => x.dur.bind fun t => (durs xs).bind fun ts => some (t :: ts)
theorem RepX.dur {R H R1 H1 Hs : Hp} {v : V} {x : XV} {t : T} (e : Ext R H R1 H1) (h : RepX k R1 H1 H v x) (ht : x.dur = some t) : ∃ R2, Ext R H R2 H1 ∧ Same R1 R2 ∧ Rep k R2 t v ∧ (∀ a, R1 a = none → H a ≠ none → R2 a = none) := by
  cases x with
  | fz u => cases ht; exact ⟨R1, e, Same.refl _, h, fun a z _ => z⟩
  | bo o => cases ht
  | ow o =>
    cases ht
    obtain ⟨p, rfl, h2, h3, h4⟩ := h
    cases hH : H1 p with
    | none => exact absurd hH h4.some
    | some ob =>
      refine ⟨upd R1 p ob, e.fz h2 hH h3, same_upd0 h3, h4.rep (same_upd0 h3) (upd_same.trans hH.symm), fun a z za => ?_⟩
      rw [upd_ne fun q => za (by rw [q]; exact h2)]
      exact z
theorem RepX.dur2 {R H R1 H1 Hs : Hp} {v : V} {x : XV} {t : T} (e : Ext R H R1 H1) (h : RepX k R1 H1 H v x ∨ (∃ t, x.dur = some t ∧ Rep k R1 t v)) (ht : x.dur = some t) : ∃ R2, Ext R H R2 H1 ∧ Same R1 R2 ∧ Rep k R2 t v := by
  rcases h with h | ⟨t', h1, h2⟩
  · obtain ⟨R2, h1, h2, h3, _⟩ := RepX.dur (Hs := H) e h ht
    exact ⟨R2, h1, h2, h3⟩
  · rw [ht] at h1; cases h1; exact ⟨R1, e, Same.refl _, h2⟩
theorem RepXs.dur {R H H1 : Hp} : ∀ {vs : List V} {xs : List XV} {ts : List T} {R1 : Hp}, Ext R H R1 H1 → (Paired (fun v x => RepX k R1 H1 H v x ∨ ∃ t, x.dur = some t ∧ Rep k R1 t v) vs xs) → durs xs = some ts → ∃ R2, Ext R H R2 H1 ∧ Same R1 R2 ∧ Reps k R2 ts vs
  | _, _, ts, R1, e, .nil, ht => by cases ht; exact ⟨R1, e, Same.refl _, Reps.nil⟩
  | v :: vs, x :: xs, ts, R1, e, .cons a b, ht => by
    unfold durs at ht
    cases hx : x.dur with
    | none => rw [hx] at ht; cases ht
    | some t =>
      cases hxs : durs xs with
      | none => rw [hx, hxs] at ht; cases ht
      | some ts' =>
        rw [hx, hxs] at ht
        cases ht
        obtain ⟨R2, e2, s2, r2⟩ := RepX.dur2 (Hs := H) e a hx
        have b' : Paired (fun v x => RepX k R2 H1 H v x ∨ ∃ t, x.dur = some t ∧ Rep k R2 t v) vs xs := by
          clear hxs
          induction b with
          | nil => exact .nil
          | @cons w y ws ys c d ih =>
            refine .cons ?_ ih
            rcases c with c | ⟨t', c1, c2⟩
            · cases y with
              | fz u => exact .inr ⟨u, rfl, Rep.mono s2 c⟩
              | bo o => exact .inl (by obtain ⟨p, q1, q2⟩ := c; exact ⟨p, q1, q2.mono s2 (Same.refl _)⟩)
              | ow o =>
                obtain ⟨p, q1, q2, q3, q4⟩ := c
                cases hR : R2 p with
                | none => exact .inl ⟨p, q1, q2, hR, q4.mono s2 (Same.refl _)⟩
                | some ob =>
                  refine .inr ⟨o.t, rfl, ?_⟩
                  rw [q1]
                  exact q4.rep s2 (hR.trans (e2.i p ob hR).symm)
            · exact .inr ⟨t', c1, c2.mono s2⟩
        obtain ⟨R3, e3, s3, r3⟩ := RepXs.dur e2 b' hxs
        exact ⟨R3, e3, s2.trans s3, Reps.cons (r2.mono s3) r3⟩
theorem RepXs.durs {R H R1 H1 : Hp} {vs : List V} {xs : List XV} {ts : List T} (e : Ext R H R1 H1) (h : RepXs k R1 H1 H vs xs) (ht : Mr.durs xs = some ts) : ∃ R2, Ext R H R2 H1 ∧ Same R1 R2 ∧ Reps k R2 ts vs := by
  refine RepXs.dur e ?_ ht
  clear ht
  induction h with
  | nil => exact .nil
  | cons a b ih => exact .cons (.inl a) ih
noncomputable def mTup (a : MA) : ME := fun ρ => (a ρ).bind fun xs => .ofO ((durs xs).bind fun ts => if ts.length ≤ sizeLine then some (.fz (.tup ts)) else none)
noncomputable def mLst (a : MA) : ME := fun ρ => (a ρ).bind fun xs => .ofO ((durs xs).bind fun ts => if ts.length ≤ sizeLine then some (.ow (.l ts)) else none)
theorem se_tup {ta : TA} {ma : MA} (ha : SA k Ex ta ma) : SE k Ex (tTup ta) (mTup ma) := by
  constructor
  intro R0 H0 R σ ρ H Q I h
  refine ha.run I (Rs.holds_mono (Rs.holds_bind h) (fun x _ hx => ?_) fun c z => z)
  intro R1 H1 vs e1 r1
  obtain ⟨z, hz, hw⟩ := holds_ofO hx
  obtain ⟨ts, hts, hz⟩ := Option.bind_eq_some_iff.mp hz
  obtain ⟨R2, e2, _, r2⟩ := RepXs.durs e1 r1 hts
  split at hz
  · rename_i hl
    cases hz
    refine ⟨by rw [← r2.length]; exact hl, fun p hp => hw _ _ _ (e2.newFz hp) ?_⟩
    exact rep_tup (SqT.of upd_same) (r2.mono (same_upd0 (e2.i.free hp)))
  · cases hz
theorem se_lst {ta : TA} {ma : MA} (ha : SA k Ex ta ma) : SE k Ex (tLst ta) (mLst ma) := by
  constructor
  intro R0 H0 R σ ρ H Q I h
  refine ha.run I (Rs.holds_mono (Rs.holds_bind h) (fun x _ hx => ?_) fun c z => z)
  intro R1 H1 vs e1 r1
  obtain ⟨z, hz, hw⟩ := holds_ofO hx
  obtain ⟨ts, hts, hz⟩ := Option.bind_eq_some_iff.mp hz
  obtain ⟨R2, e2, _, r2⟩ := RepXs.durs e1 r1 hts
  split at hz
  · rename_i hl
    cases hz
    refine ⟨by rw [← r2.length]; exact hl, fun p hp => hw _ _ _ (e2.new hp) ?_⟩
    exact ⟨p, rfl, e2.h.free hp, e2.i.free hp, vs, upd_same, r2⟩
  · cases hz
noncomputable def mDNew : ME := fun _ => .ok (.ow (.d []))
theorem se_dnew : SE k Ex tDNewK mDNew := by
  constructor
  intro R0 H0 R σ ρ H Q I h p hp
  exact h _ _ _ ((Ext.refl I.i).new hp) ⟨p, rfl, hp, I.i.free hp, [], upd_same, Reps.nil⟩
theorem repx_fz {R H Hs : Hp} {v : V} {t : T} (h : Rep k R t v) : RepX k R H Hs v (.fz t) := h
theorem repx_bl {R H Hs : Hp} {b : Bool} : RepX k R H Hs (.bl b) (.fz (.bl b)) := repx_fz rep_bl
theorem repx_int {R H Hs : Hp} {b : Int} : RepX k R H Hs (.int b) (.fz (.int b)) := repx_fz rep_int
theorem repx_str {R H Hs : Hp} {b : Str} : RepX k R H Hs (.str b) (.fz (.str b)) := repx_fz rep_str
theorem RepX.fzr {R H Hs : Hp} {v : V} {t : T} (h : RepX k R H Hs v (.fz t)) : Rep k R t v := h
noncomputable def XV.b? : XV → Rs Bool
  | .fz (.bl b) => .ok b
  | _ => .no
theorem RepX.b? {R H Hs : Hp} {v : V} {x : XV} {P : Bool → Prop} {E : Str → Prop} (h : RepX k R H Hs v x) (hb : x.b?.holds P E) : ∃ c, v = .bl c ∧ x.b? = .ok c ∧ P c := by
  cases x with
  | fz t =>
    cases t with
    | bl b => exact ⟨b, Rep.bl (RepX.fzr h), rfl, hb⟩
    | _ => exact hb.elim
  | ow o => exact hb.elim
  | bo o => exact hb.elim
noncomputable def mAndV (a b : ME) : ME := fun ρ => (a ρ).bind fun x => x.b?.bind fun c => if c = true then b ρ else .ok (.fz (.bl false))
noncomputable def mNotV (a : ME) : ME := fun ρ => (a ρ).bind fun x => x.b?.bind fun c => .ok (.fz (.bl (!c)))
theorem se_andV {ta tb : TE} {ma mb : ME} (ha : SE k Ex ta ma) (hb : SE k Ex tb mb) : SE k Ex (tAndV ta tb) (mAndV ma mb) := by
  constructor
  intro R0 H0 R σ ρ H Q I h
  refine ha.run I (Rs.holds_mono (Rs.holds_bind h) (fun x _ hx => ?_) fun c z => z)
  intro R1 H1 v e1 r1
  obtain ⟨c, rfl, _, hc⟩ := RepX.b? r1 (Rs.holds_bind hx)
  refine ⟨c, rfl, ?_⟩
  cases c with
  | true => exact hb.run (I.step e1) (Rs.holds_mono hc (fun x _ hx => WantX.step hx e1) fun c z => z.mono e1.h)
  | false => exact hc R1 H1 _ e1 repx_bl
theorem se_notV {ta : TE} {ma : ME} (ha : SE k Ex ta ma) : SE k Ex (tNotV ta) (mNotV ma) := by
  constructor
  intro R0 H0 R σ ρ H Q I h
  refine ha.run I (Rs.holds_mono (Rs.holds_bind h) (fun x _ hx => ?_) fun c z => z)
  intro R1 H1 v e1 r1
  obtain ⟨c, rfl, _, hc⟩ := RepX.b? r1 (Rs.holds_bind hx)
  exact ⟨c, rfl, hc R1 H1 _ e1 repx_bl⟩
noncomputable def mTest (a : ME) : MT := fun ρ => (a ρ).bind fun x => x.b?
theorem st_test {ta : TE} {ma : ME} (ha : SE k Ex ta ma) : ST k Ex (tTest ta) (mTest ma) := by
  constructor
  intro R0 H0 R σ ρ H Q I h
  refine ha.run I (Rs.holds_mono (Rs.holds_bind h) (fun x _ hx => ?_) fun c z => z)
  intro R1 H1 v e1 r1
  obtain ⟨c, rfl, _, hc⟩ := RepX.b? r1 hx
  exact ⟨c, rfl, hc R1 H1 e1⟩
theorem st_b {ta : TE} {ma : ME} (ha : SE k Ex ta ma) : ST k Ex (tB ta) (mTest ma) := st_test ha
noncomputable def mNotT (a : MT) : MT := fun ρ => (a ρ).bind fun b => .ok (!b)
noncomputable def mAndT (a b : MT) : MT := fun ρ => (a ρ).bind fun c => if c = true then b ρ else .ok false
noncomputable def mOrT (a b : MT) : MT := fun ρ => (a ρ).bind fun c => if c = true then .ok true else b ρ
theorem st_not {ta : TT} {ma : MT} (ha : ST k Ex ta ma) : ST k Ex (tNot ta) (mNotT ma) := by
  constructor
  intro R0 H0 R σ ρ H Q I h
  exact ha.run I (Rs.holds_mono (Rs.holds_bind h) (fun x _ hx => hx) fun c z => z)
theorem st_and {ta tb : TT} {ma mb : MT} (ha : ST k Ex ta ma) (hb : ST k Ex tb mb) : ST k Ex (tAnd ta tb) (mAndT ma mb) := by
  constructor
  intro R0 H0 R σ ρ H Q I h
  refine ha.run I (Rs.holds_mono (Rs.holds_bind h) (fun x _ hx => ?_) fun c z => z)
  intro R1 H1 e1
  cases x with
  | true => exact hb.run (I.step e1) (Rs.holds_mono hx (fun x _ hx R2 H2 e2 => hx R2 H2 (e1.trans e2)) fun c z => z.mono e1.h)
  | false => exact hx R1 H1 e1
theorem st_or {ta tb : TT} {ma mb : MT} (ha : ST k Ex ta ma) (hb : ST k Ex tb mb) : ST k Ex (tOr ta tb) (mOrT ma mb) := by
  constructor
  intro R0 H0 R σ ρ H Q I h
  refine ha.run I (Rs.holds_mono (Rs.holds_bind h) (fun x _ hx => ?_) fun c z => z)
  intro R1 H1 e1
  cases x with
  | false => exact hb.run (I.step e1) (Rs.holds_mono hx (fun x _ hx R2 H2 e2 => hx R2 H2 (e1.trans e2)) fun c z => z.mono e1.h)
  | true => exact hx R1 H1 e1
noncomputable def mTrue : MT := fun _ => .ok true
theorem st_true : ST k Ex tTrue mTrue := by
  constructor
  intro R0 H0 R σ ρ H Q I h
  exact h R H (Ext.refl I.i)
noncomputable def mIfE (c : MT) (a b : ME) : ME := fun ρ => (c ρ).bind fun z => if z = true then a ρ else b ρ
theorem se_if {tc : TT} {ta tb : TE} {mc : MT} {ma mb : ME} (hc : ST k Ex tc mc) (ha : SE k Ex ta ma) (hb : SE k Ex tb mb) : SE k Ex (tIf tc ta tb) (mIfE mc ma mb) := by
  constructor
  intro R0 H0 R σ ρ H Q I h
  refine hc.run I (Rs.holds_mono (Rs.holds_bind h) (fun x _ hx => ?_) fun c z => z)
  intro R1 H1 e1
  cases x with
  | true => exact ha.run (I.step e1) (Rs.holds_mono hx (fun x _ hx => WantX.step hx e1) fun c z => z.mono e1.h)
  | false => exact hb.run (I.step e1) (Rs.holds_mono hx (fun x _ hx => WantX.step hx e1) fun c z => z.mono e1.h)
noncomputable def mChain (f f' : T → T → Option XV) (a b c : ME) : ME := fun ρ => (a ρ).bind fun x => (b ρ).bind fun y => (Rs.ofO (f x.t y.t)).bind fun z => z.b?.bind fun q => if q = true then (c ρ).bind fun w => .ofO (f' y.t w.t) else .ok (.fz (.bl false))
theorem se_chain {r r' : R2} {f f' : T → T → Option XV} {ta tb tc : TE} {ma mb mc : ME} (hr : R2S k r f) (hr' : R2S k r' f') (ha : SE k Ex ta ma) (hb : SE k Ex tb mb) (hc : SE k Ex tc mc) : SE k Ex (tChain r r' ta tb tc) (mChain f f' ma mb mc) := by
  constructor
  intro R0 H0 R σ ρ H Q I h
  refine ha.run I (Rs.holds_mono (Rs.holds_bind h) (fun x _ hx => ?_) fun c z => z)
  intro R1 H1 v e1 r1
  refine hb.run (I.step e1) (Rs.holds_mono (Rs.holds_bind hx) (fun y _ hy => ?_) fun c z => z.mono e1.h)
  intro R2 H2 u e2 r2
  obtain ⟨z, hz, hw⟩ := holds_ofO (Rs.holds_bind hy)
  refine hr R2 H2 v u x.t y.t _ e2.i (r1.vw.mono e2) r2.vw ⟨z, hz, fun R3 H3 w e3 r3 => ?_⟩
  obtain ⟨c, rfl, _, hq⟩ := RepX.b? r3 (Rs.holds_bind hw)
  refine ⟨c, rfl, ?_⟩
  have e := e1.trans (e2.trans e3)
  cases c with
  | false => exact hq R3 H3 _ e repx_bl
  | true =>
    refine hc.run (I.step e) (Rs.holds_mono (Rs.holds_bind hq) (fun y' _ hy => ?_) fun c z => z.mono e.h)
    intro R4 H4 w e4 r4
    obtain ⟨z', hz', hw'⟩ := holds_ofO hy
    exact hr' R4 H4 u w y.t y'.t Q e4.i (r2.vw.mono (e3.trans e4)) r4.vw ⟨z', hz', hw'.step (e.trans e4)⟩
noncomputable abbrev MO := En → Rs (Option Int)
structure SO (k : Ks) (Ex : St → XK) (to : TO) (mo : MO) : Prop where
  run : ∀ {R0 H0 R : Hp} {σ : St} {ρ : En} {H : Hp} {Q : Option Int → Hp → Prop}, RSt k R0 H0 R σ ρ H → (mo ρ).holds (fun o => ∀ R' H', Ext R H R' H' → Q o H') (Err k Ex σ H) → to σ H Q
noncomputable def mNoPart : MO := fun _ => .ok none
noncomputable def mPart (a : ME) : MO := fun ρ => (a ρ).bind fun x => match x.t with | .int i => .ok (some i) | _ => .no
theorem so_none : SO k Ex tNoPart mNoPart := by
  constructor
  intro R0 H0 R σ ρ H Q I h
  exact h R H (Ext.refl I.i)
theorem so_some {te : TE} {me : ME} (he : SE k Ex te me) : SO k Ex (tPart te) (mPart me) := by
  constructor
  intro R0 H0 R σ ρ H Q I h
  refine he.run I (Rs.holds_mono (Rs.holds_bind h) (fun x _ hx => ?_) fun c z => z)
  intro R1 H1 v e1 r1
  have w := r1.vw
  cases hx' : x.t with
  | int i => rw [hx'] at hx w; exact ⟨i, w.int, hx R1 H1 e1⟩
  | _ => rw [hx'] at hx; exact hx.elim
def SlS (k : Ks) (r : V → Option Int → Option Int → Hp → VK → Prop) (f : T → Option Int → Option Int → Option XV) : Prop := ∀ R H x t lo hi Q, Same R H → Vw k R H x t → WO k R H Q (f t lo hi) → r x lo hi H Q
noncomputable def mSl (f : T → Option Int → Option Int → Option XV) (a : ME) (lo hi : MO) : ME := fun ρ => (a ρ).bind fun x => (lo ρ).bind fun l => (hi ρ).bind fun h => .ofO (f x.t l h)
theorem se_sl {r : V → Option Int → Option Int → Hp → VK → Prop} {f : T → Option Int → Option Int → Option XV} {te : TE} {me : ME} {tl th : TO} {ml mh : MO} (hr : SlS k r f) (he : SE k Ex te me) (hl : SO k Ex tl ml) (hh : SO k Ex th mh) : SE k Ex (tSl r te tl th) (mSl f me ml mh) := by
  constructor
  intro R0 H0 R σ ρ H Q I h
  refine he.run I (Rs.holds_mono (Rs.holds_bind h) (fun x _ hx => ?_) fun c z => z)
  intro R1 H1 v e1 r1
  refine hl.run (I.step e1) (Rs.holds_mono (Rs.holds_bind hx) (fun y _ hy => ?_) fun c z => z.mono e1.h)
  intro R2 H2 e2
  have e := e1.trans e2
  refine hh.run (I.step e) (Rs.holds_mono (Rs.holds_bind hy) (fun y' _ hz => ?_) fun c z => z.mono e.h)
  intro R3 H3 e3
  obtain ⟨z, hz, hw⟩ := holds_ofO hz
  exact hr R3 H3 v x.t y y' Q e3.i (r1.vw.mono (e2.trans e3)) ⟨z, hz, hw.step (e.trans e3)⟩
noncomputable def T.isStr : T → Bool
  | .str _ => true
  | _ => false
noncomputable def mBM (ty : T → Bool) (f : T → List T → Option XV) (a : ME) (b : MA) : ME := fun ρ => (a ρ).bind fun x => if ty x.t = true then (b ρ).bind fun xs => .ofO (f x.t (xs.map XV.t)) else .no
def TyS (k : Ks) (T' : String) (ty : T → Bool) : Prop := ∀ R H x t, Same R H → Vw k R H x t → ty t = true → tyV k.K T' x H
def MtS (k : Ks) (r : V → List V → Hp → VK → Prop) (f : T → List T → Option XV) : Prop := ∀ R H x t vs ts Q, Same R H → Vw k R H x t → Vws k R H vs ts → WO k R H Q (f t ts) → r x vs H Q
theorem ty_str : TyS k "str" T.isStr := by
  intro R H x t i h e
  cases t with
  | str z => rw [h.str]; rfl
  | _ => cases e
theorem se_bm {T' : String} {ty : T → Bool} {r : V → List V → Hp → VK → Prop} {f : T → List T → Option XV} {ta : TE} {tb : TA} {ma : ME} {mb : MA} (hty : TyS k T' ty) (hr : MtS k r f) (ha : SE k Ex ta ma) (hb : SA k Ex tb mb) : SE k Ex (tBM k.K T' r ta tb) (mBM ty f ma mb) := by
  constructor
  intro R0 H0 R σ ρ H Q I h
  refine ha.run I (Rs.holds_mono (Rs.holds_bind h) (fun x _ hx => ?_) fun c z => z)
  intro R1 H1 v e1 r1
  by_cases ht : ty x.t = true
  · rw [if_pos ht] at hx
    refine ⟨hty R1 H1 v x.t e1.i r1.vw ht, hb.run (I.step e1) (Rs.holds_mono (Rs.holds_bind hx) (fun y _ hy => ?_) fun c z => z.mono e1.h)⟩
    intro R2 H2 vs e2 r2
    obtain ⟨z, hz, hw⟩ := holds_ofO hy
    exact hr R2 H2 v x.t vs (y.map XV.t) Q e2.i (r1.vw.mono e2) (RepXs.vws r2) ⟨z, hz, hw.step (e1.trans e2)⟩
  · rw [if_neg ht] at hx; exact hx.elim
noncomputable def T.key : T → Option Key
  | .int i => some (.inl i)
  | .str x => some (.inr x)
  | _ => none
theorem Vw.key {R H : Hp} {v : V} {t : T} {q : Key} (h : Vw k R H v t) (e : t.key = some q) : v = kV q := by
  cases t with
  | int i => cases e; exact h.int
  | str i => cases e; exact h.str
  | _ => cases e
noncomputable def dLook (ks : List Key) (ts : List T) (q : Key) : Option T := ((ks.zip ts).find? fun kv => decide (kv.1 = q)).map (·.2)
theorem look_rep {R : Hp} {q : Key} : ∀ {ks : List Key} {ts : List T} {us : List V}, Reps k R ts us → (dLook ks ts q = none ∧ valV (ks.zip us) q = none) ∨ ∃ t u, dLook ks ts q = some t ∧ valV (ks.zip us) q = some u ∧ Rep k R t u
  | [], ts, us, h => by simp [dLook, valV]
  | q' :: ks, [], us, h => by unfold Reps at h; subst h; simp [dLook, valV]
  | q' :: ks, t :: ts, us, h => by
    unfold Reps at h
    obtain ⟨u, r, rfl, h2, h3⟩ := h
    by_cases e : q' = q
    · right
      refine ⟨t, u, ?_, ?_, h2⟩ <;> simp [dLook, valV, e]
    · rcases look_rep (q := q) (ks := ks) h3 with ⟨a, b⟩ | ⟨t', u', a, b, c⟩
      · left
        simp only [dLook, valV, List.zip_cons_cons] at a b ⊢
        rw [List.find?_cons_of_neg (by simpa using e), List.find?_cons_of_neg (by simpa using e)]
        exact ⟨a, b⟩
      · right
        refine ⟨t', u', ?_, ?_, c⟩
        · simp only [dLook, List.zip_cons_cons] at a ⊢
          rw [List.find?_cons_of_neg (by simpa using e)]; exact a
        · simp only [valV, List.zip_cons_cons] at b ⊢
          rw [List.find?_cons_of_neg (by simpa using e)]; exact b
noncomputable def fDGet : T → T → Option XV
  | .dct _ ks ts, y => y.key.bind fun q => (dLook ks ts q).bind fun t => some (.fz t)
  | _, _ => none
noncomputable def fDIn (neg : Bool) : T → T → Option XV
  | y, .dct _ ks ts => y.key.bind fun q => some (.fz (.bl (if neg then !(dLook ks ts q).isSome else (dLook ks ts q).isSome)))
  | _, _ => none
noncomputable def mDGet (a b : ME) : ME := mOp fDGet a b
noncomputable def mDIn (neg : Bool) (a b : ME) : ME := mOp (fDIn neg) a b
theorem se_dget {td ty : TE} {md my : ME} (ha : SE k Ex td md) (hb : SE k Ex ty my) : SE k Ex (tDGet td ty) (mDGet md my) := by
  refine se_op (r := fun x y H Q => ∃ a v, x = .ref a ∧ DGet H a y (some v) ∧ Q v H) ?_ ha hb
  intro R H x y t u Q i hx hy hw
  obtain ⟨z, hz, hw⟩ := hw
  cases t with
  | dct fr ks ts =>
    obtain ⟨p, us, rfl, h1, h2, h3⟩ := hx.dct i
    obtain ⟨q, hq, hz⟩ := Option.bind_eq_some_iff.mp hz
    obtain ⟨t, ht, hz⟩ := Option.bind_eq_some_iff.mp hz
    cases hz
    have := hy.key hq
    subst this
    rcases look_rep (q := q) (ks := ks) h3 with ⟨a, _⟩ | ⟨t', u', a, b, c⟩
    · rw [a] at ht; cases ht
    · rw [a] at ht; cases ht
      exact ⟨p, u', rfl, .inl ⟨_, q, h1.rd, rfl, b.symm⟩, hw R H _ (Ext.refl i) c⟩
  | _ => cases hz
theorem se_dnotin {td ty : TE} {md my : ME} (hb : SE k Ex ty my) (ha : SE k Ex td md) : SE k Ex (tDNotIn ty td) (mDIn true my md) := by
  refine se_op (r := fun y x H Q => ∃ a o, x = .ref a ∧ DGet H a y o ∧ Q (.bl (!o.isSome)) H) ?_ hb ha
  intro R H y x u t Q i hy hx hw
  obtain ⟨z, hz, hw⟩ := hw
  cases t with
  | dct fr ks ts =>
    obtain ⟨p, us, rfl, h1, h2, h3⟩ := hx.dct i
    obtain ⟨q, hq, hz⟩ := Option.bind_eq_some_iff.mp hz
    cases hz
    have := hy.key hq
    subst this
    refine ⟨p, _, rfl, .inl ⟨_, q, h1.rd, rfl, rfl⟩, hw R H _ (Ext.refl i) ?_⟩
    rcases look_rep (q := q) (ks := ks) h3 with ⟨a, b⟩ | ⟨t', u', a, b, c⟩
    · rw [b]; simp only [a]; exact repx_bl
    · rw [b]; simp only [a]; exact repx_bl
  | _ => unfold fDIn at hz; simp at hz
end
end Mr
set_option Elab.async false
set_option linter.all false
set_option maxRecDepth 100000
set_option maxHeartbeats 4000000
namespace Mr
open PySem L2

inductive So where
  | nx (ρ : En) | rt (x : XV) | bk (ρ : En) | ct (ρ : En) | er (c : Str) (ρ : En) | no
noncomputable abbrev MS := En → So
section
variable (k : Ks) (Ex : St → XK)
abbrev WantS (R0 H0 R : Hp) (P : St → Hp → Prop) (ρ : En) : Prop := ∀ R' σ' H', Same R R' → RSt k R0 H0 R' σ' ρ H' → P σ' H'
noncomputable def So.holds (R0 H0 R : Hp) (D : Ends) : So → Prop
  | .nx ρ => WantS k R0 H0 R D.nx ρ
  | .rt x => ∀ R' H' v, Ext R0 H0 R' H' → RepX k R' H' H0 v x → D.rt v H'
  | .bk ρ => WantS k R0 H0 R D.bk ρ
  | .ct ρ => WantS k R0 H0 R D.ct ρ
  | .er c ρ => ∀ R' σ' H' C, Same R R' → RSt k R0 H0 R' σ' ρ H' → k.cl c = some C → Ex σ' (.ref C) none H'
  | .no => False
structure SS (ts : TS) (ms : MS) : Prop where
  run : ∀ {R0 H0 R : Hp} {σ : St} {ρ : En} {H : Hp} {D : Ends}, RSt k R0 H0 R σ ρ H → (ms ρ).holds k Ex R0 H0 R D → ts D σ H
end
section
variable {k : Ks} {Ex : St → XK}
theorem So.holds_R {R0 H0 R R' : Hp} {D : Ends} {o : So} (h : o.holds k Ex R0 H0 R D) (e : Same R R') : o.holds k Ex R0 H0 R' D := by
  cases o with
  | nx ρ => exact fun R2 σ H e2 I => h R2 σ H (e.trans e2) I
  | rt x => exact h
  | bk ρ => exact fun R2 σ H e2 I => h R2 σ H (e.trans e2) I
  | ct ρ => exact fun R2 σ H e2 I => h R2 σ H (e.trans e2) I
  | er c ρ => exact fun R2 σ H C e2 I hc => h R2 σ H C (e.trans e2) I hc
  | no => exact h
theorem err_of {R0 H0 R : Hp} {σ : St} {ρ : En} {H : Hp} {D : Ends} {c : Str} (I : RSt k R0 H0 R σ ρ H) (h : (So.er c ρ).holds k Ex R0 H0 R D) : Err k Ex σ H c := fun H' C e hc =>
  h R σ H' C (Same.refl R) (I.step ⟨Same.refl R, e, I.i.trans e, fun a z _ => z⟩) hc
noncomputable def So.of {α : Type} (r : Rs α) (ρ : En) (f : α → So) : So := match r with
  | .ok a => f a
  | .er c => .er c ρ
  | .no => .no
theorem So.holds_of {α : Type} {r : Rs α} {ρ : En} {f : α → So} {R0 H0 R : Hp} {σ : St} {H : Hp} {D : Ends} (I : RSt k R0 H0 R σ ρ H) (h : (So.of r ρ f).holds k Ex R0 H0 R D) : r.holds (fun a => (f a).holds k Ex R0 H0 R D) (Err k Ex σ H) := by
  cases r with
  | ok a => exact h
  | er c => exact err_of I h
  | no => exact h

noncomputable def mNext : MS := fun ρ => .nx ρ
theorem ss_next : SS k Ex tNext mNext := by
  constructor
  intro R0 H0 R σ ρ H D I h
  exact h R σ H (Same.refl R) I
noncomputable def So.seq (o : So) (f : En → So) : So := match o with
  | .nx ρ => f ρ
  | o => o
noncomputable def mSeq (a b : MS) : MS := fun ρ => (a ρ).seq b
theorem ss_seq {ta tb : TS} {ma mb : MS} (ha : SS k Ex ta ma) (hb : SS k Ex tb mb) : SS k Ex (tSeq ta tb) (mSeq ma mb) := by
  constructor
  intro R0 H0 R σ ρ H D I h
  refine ha.run I ?_
  unfold mSeq So.seq at h
  cases hm : ma ρ with
  | nx ρ' => rw [hm] at h; exact fun R' σ' H' e I' => hb.run I' (So.holds_R h e)
  | rt x => rw [hm] at h; exact h
  | bk ρ' => rw [hm] at h; exact h
  | ct ρ' => rw [hm] at h; exact h
  | er c ρ' => rw [hm] at h; exact h
  | no => rw [hm] at h; exact h
noncomputable def mIf (c : MT) (a b : MS) : MS := fun ρ => So.of (c ρ) ρ fun z => if z = true then a ρ else b ρ
theorem ss_if {tc : TT} {ta tb : TS} {mc : MT} {ma mb : MS} (hc : ST k Ex tc mc) (ha : SS k Ex ta ma) (hb : SS k Ex tb mb) : SS k Ex (tIfS tc ta tb) (mIf mc ma mb) := by
  constructor
  intro R0 H0 R σ ρ H D I h
  refine hc.run I (Rs.holds_mono (So.holds_of I h) (fun z _ hz R' H' e => ?_) fun c z => z)
  cases z with
  | true => exact ha.run (I.step e) (So.holds_R hz e.r)
  | false => exact hb.run (I.step e) (So.holds_R hz e.r)
noncomputable def setX (i : Nat) (x : XV) (ρ : En) : So := match x with
  | .fz t => .nx (ρ.set i (.fz t))
  | .ow o => .nx (ρ.set i (.ow o))
  | .bo _ => .no
noncomputable def mSet (i : Nat) (a : ME) : MS := fun ρ => So.of (a ρ) ρ fun x => setX i x ρ
theorem ss_set {i : Nat} {te : TE} {me : ME} (he : SE k Ex te me) : SS k Ex (tAsg te (gName i)) (mSet i me) := by
  constructor
  intro R0 H0 R σ ρ H D I h
  refine he.run I (Rs.holds_mono (So.holds_of I h) (fun x _ hx => ?_) fun c z => z)
  intro R1 H1 v e1 r1
  cases x with
  | fz t => exact hx R1 _ _ e1.r ((I.step e1).setFz r1)
  | ow o =>
    obtain ⟨p, rfl, h1, h2, h3⟩ := r1
    exact hx R1 _ _ e1.r (I.setOw e1 h1 h2 h3)
  | bo o => exact hx.elim
noncomputable def mRet (a : ME) : MS := fun ρ => So.of (a ρ) ρ fun x => match x with | .bo _ => .no | x => .rt x
theorem ss_ret {te : TE} {me : ME} (he : SE k Ex te me) : SS k Ex (tRet te) (mRet me) := by
  constructor
  intro R0 H0 R σ ρ H D I h
  refine he.run I (Rs.holds_mono (So.holds_of I h) (fun x _ hx => ?_) fun c z => z)
  intro R1 H1 v e1 r1
  cases x with
  | fz t => exact hx R1 H1 v (I.ext.trans e1) r1
  | ow o => exact hx R1 H1 v (I.ext.trans e1) (r1.back I.ext.h)
  | bo o => exact hx.elim
noncomputable def mRetV (i : Nat) : MS := fun ρ => match ρ[i]? with
  | some (.fz t) => .rt (.fz t)
  | some (.ow o) => .rt (.ow o)
  | _ => .no
theorem ss_retV {i : Nat} : SS k Ex (tRet (tVar i)) (mRetV i) := by
  constructor
  intro R0 H0 R σ ρ H D I h
  unfold mRetV at h
  cases e : ρ[i]? with
  | none => rw [e] at h; exact h.elim
  | some x =>
    rw [e] at h
    cases x with
    | un => exact h.elim
    | fz t =>
      obtain ⟨v, h1, h2⟩ := I.fz i t e
      exact ⟨v, h1, h R H v I.ext h2⟩
    | ow o =>
      obtain ⟨p, h1, h2, h3, h4⟩ := I.ow i o e
      exact ⟨.ref p, h1, h R H _ I.ext ⟨p, rfl, h2, h3, h4⟩⟩
noncomputable def So.mapE (f : En → En) : So → So
  | .nx ρ => .nx (f ρ)
  | .bk ρ => .bk (f ρ)
  | .ct ρ => .ct (f ρ)
  | o => o
noncomputable def forgetE : List Nat → En → En
  | [], ρ => ρ
  | i :: is, ρ => forgetE is (ρ.set i .un)
theorem RSt.forgets {R0 H0 R : Hp} {σ : St} {H : Hp} : ∀ (is : List Nat) {ρ : En}, RSt k R0 H0 R σ ρ H → RSt k R0 H0 R σ (forgetE is ρ) H
  | [], _, I => I
  | i :: is, _, I => RSt.forgets is (I.forget i)
noncomputable def mForget (is : List Nat) (a : MS) : MS := fun ρ => (a ρ).mapE (forgetE is)
theorem ss_forget {is : List Nat} {ta : TS} {ma : MS} (ha : SS k Ex ta ma) : SS k Ex ta (mForget is ma) := by
  constructor
  intro R0 H0 R σ ρ H D I h
  refine ha.run I ?_
  unfold mForget at h
  cases hm : ma ρ with
  | nx ρ' => rw [hm] at h; exact fun R' σ' H' e I' => h R' σ' H' e (I'.forgets is)
  | rt x => rw [hm] at h; exact h
  | bk ρ' => rw [hm] at h; exact fun R' σ' H' e I' => h R' σ' H' e (I'.forgets is)
  | ct ρ' => rw [hm] at h; exact fun R' σ' H' e I' => h R' σ' H' e (I'.forgets is)
  | er c ρ' => rw [hm] at h; exact h
  | no => rw [hm] at h; exact h
noncomputable def mFreeze (i : Nat) (a : MS) : MS := fun ρ => a (freeze i ρ)
theorem ss_freeze {i : Nat} {ta : TS} {ma : MS} (ha : SS k Ex ta ma) : SS k Ex ta (mFreeze i ma) := by
  constructor
  intro R0 H0 R σ ρ H D I h
  obtain ⟨R', e, I'⟩ := I.freeze i
  exact ha.run I' (So.holds_R h e)
def MutL (r : V → List V → Hp → VK → Prop) (g : List T → List T → Option (List T)) : Prop := ∀ (k : Ks) (R : Hp) p us vs ts ss ts' (H : Hp) (Q : VK), H p = some (.lst us) → Reps k R ts us → Reps k R ss vs → g ts ss = some ts' → (∀ v us', Reps k R ts' us' → Q v (upd H p (.lst us'))) → r (.ref p) vs H Q
noncomputable def mMut (g : List T → List T → Option (List T)) (i : Nat) (b : MA) : MS := fun ρ => match ρ[i]? with
  | some (.ow (.l ts)) => So.of (b ρ) ρ fun xs => match (durs xs).bind fun ss => g ts ss with
    | some ts' => .nx (ρ.set i (.ow (.l ts')))
    | none => .no
  | _ => .no
theorem ss_mut {r : V → List V → Hp → VK → Prop} {g : List T → List T → Option (List T)} {i : Nat} {tb : TA} {mb : MA} (hr : MutL r g) (hb : SA k Ex tb mb) : SS k Ex (tDrop (tBM k.K "list" r (tVar i) tb)) (mMut g i mb) := by
  constructor
  intro R0 H0 R σ ρ H D I h
  unfold mMut at h
  cases e : ρ[i]? with
  | none => rw [e] at h; exact h.elim
  | some x =>
    rw [e] at h
    cases x with
    | un => exact h.elim
    | fz t => exact h.elim
    | ow o =>
      cases o with
      | d kvs => exact h.elim
      | l ts =>
        obtain ⟨p, h1, h2, h3, us, h4, h5⟩ := I.ow i _ e
        refine ⟨.ref p, h1, .inl ⟨rfl, us, SqL.of h4⟩, ?_⟩
        refine hb.run I (Rs.holds_mono (So.holds_of I h) (fun xs _ hx => ?_) fun c z => z)
        intro R1 H1 vs e1 r1
        cases hg : (durs xs).bind fun ss => g ts ss with
        | none => rw [hg] at hx; exact hx.elim
        | some ts' =>
          rw [hg] at hx
          obtain ⟨ss, hs, hg⟩ := Option.bind_eq_some_iff.mp hg
          obtain ⟨R2, e2, s2, r2⟩ := RepXs.durs e1 r1 hs
          have I2 := I.step e2
          refine hr k R2 p us vs ts ss ts' H1 _ (e1.h _ _ h4) (h5.mono e2.r) r2 hg fun _ us' hu => ?_
          exact hx R2 σ _ e2.r (I2.change e h1 ⟨us', upd_same, hu⟩)
theorem mu_append : MutL rAppend fun ts ss => match ss with | [t] => if ts.length < sizeLine then some (ts ++ [t]) else none | _ => none := by
  intro k R p us vs ts ss ts' H Q h1 h2 h3 hg hq
  match ss, hg with
  | [t], hg =>
    unfold Reps at h3
    obtain ⟨u, r, rfl, h4, h5⟩ := h3
    unfold Reps at h5
    subst h5
    dsimp only at hg
    split at hg
    · cases hg
      rename_i hl
      refine ⟨p, us, u, rfl, rfl, h1, by rw [← h2.length]; exact hl, hq _ _ (h2.append (Reps.cons h4 Reps.nil))⟩
    · cases hg
noncomputable def mSetItem (i : Nat) (j a : ME) : MS := fun ρ => match ρ[i]? with
  | some (.ow (.l ts)) => So.of (a ρ) ρ fun x => So.of (j ρ) ρ fun y => match y.t, x.dur with
    | .int n, some t => (match ixN ts.length n with | some q => .nx (ρ.set i (.ow (.l (ts.set q t)))) | none => .no)
    | _, _ => .no
  | _ => .no
theorem ss_setItem {i : Nat} {tj te : TE} {mj me : ME} (he : SE k Ex te me) (hj : SE k Ex tj mj) : SS k Ex (tAsg te (gSub (tVar i) tj rSetL)) (mSetItem i mj me) := by
  constructor
  intro R0 H0 R σ ρ H D I h
  unfold mSetItem at h
  cases e : ρ[i]? with
  | none => rw [e] at h; exact h.elim
  | some x =>
    rw [e] at h
    cases x with
    | un => exact h.elim
    | fz t => exact h.elim
    | ow o =>
      cases o with
      | d kvs => exact h.elim
      | l ts =>
        obtain ⟨p, h1, h2, h3, us, h4, h5⟩ := I.ow i _ e
        refine he.run I (Rs.holds_mono (So.holds_of I h) (fun x _ hx => ?_) fun c z => z)
        intro R1 H1 v e1 r1
        refine ⟨.ref p, h1, ?_⟩
        refine hj.run (I.step e1) (Rs.holds_mono (So.holds_of I hx) (fun y _ hy => ?_) fun c z => z.mono e1.h)
        intro R2 H2 w e2 r2
        split at hy
        · rename_i n t hyt hxt
          split at hy
          · rename_i q hq
            have hw := r2.vw
            rw [hyt] at hw
            obtain ⟨R3, e3, s3, r3, _⟩ := RepX.dur (Hs := H) (e1.trans e2) (r1.mono e2) hxt
            refine ⟨p, us, n, q, rfl, hw.int, (e1.trans e2).h _ _ h4, by rw [← h5.length]; exact hq, ?_⟩
            exact hy R3 σ _ e3.r ((I.step e3).change e h1 ⟨_, upd_same, Reps.set r3 q (h5.mono e3.r)⟩)
          · exact hy.elim
        · exact hy.elim
noncomputable def dPut (kvs : List (Key × T)) (q : Key) (t : T) : List (Key × T) :=
  if (kvs.any fun kv => decide (kv.1 = q)) = true then kvs.map (fun kv => if kv.1 = q then (kv.1, t) else kv) else kvs ++ [(q, t)]
theorem put_rep {R : Hp} {q : Key} {t : T} {u : V} (h : Rep k R t u) {kvs : List (Key × T)} {us : List V} (hr : Reps k R (kvs.map (·.2)) us) :
    ∃ us', putK ((kvs.map (·.1)).zip us) q u = ((dPut kvs q t).map (·.1)).zip us' ∧ Reps k R ((dPut kvs q t).map (·.2)) us' := by
  have hany : ∀ {kvs : List (Key × T)} {us : List V}, Reps k R (kvs.map (·.2)) us → (((kvs.map (·.1)).zip us).any fun kv => decide (kv.1 = q)) = (kvs.any fun kv => decide (kv.1 = q)) := by
    intro kvs
    induction kvs with
    | nil => intro us _; rfl
    | cons p r ih =>
      intro us hr
      unfold List.map Reps at hr
      obtain ⟨u', r', rfl, h2, h3⟩ := hr
      simp only [List.map_cons, List.zip_cons_cons, List.any_cons]
      rw [ih h3]
  unfold putK dPut
  rw [hany hr]
  split
  · clear hany
    rename_i hh
    clear hh
    induction kvs generalizing us with
    | nil => unfold List.map Reps at hr; subst hr; exact ⟨[], rfl, Reps.nil⟩
    | cons p r ih =>
      unfold List.map Reps at hr
      obtain ⟨u', r', rfl, h2, h3⟩ := hr
      obtain ⟨us', e, hr'⟩ := ih h3
      by_cases hp : p.1 = q
      · refine ⟨u :: us', ?_, ?_⟩
        · simp only [List.map_cons, List.zip_cons_cons, hp, if_true]
          rw [e]
        · simp only [List.map_cons, hp, if_true]
          exact Reps.cons h hr'
      · refine ⟨u' :: us', ?_, ?_⟩
        · simp only [List.map_cons, List.zip_cons_cons, hp, if_false]
          rw [e]
        · simp only [List.map_cons, hp, if_false]
          exact Reps.cons h2 hr'
  · refine ⟨us ++ [u], ?_, ?_⟩
    · rw [List.map_append, List.zip_append (by have := hr.length; simp only [List.length_map] at this ⊢; omega)]
      rfl
    · rw [List.map_append]
      exact hr.append (Reps.cons h Reps.nil)
noncomputable def mDPut (i : Nat) (q a : ME) : MS := fun ρ => match ρ[i]? with
  | some (.ow (.d kvs)) => So.of (a ρ) ρ fun x => So.of (q ρ) ρ fun y => match y.t.key, x.dur with
    | some q, some t => if kvs.length < sizeLine then .nx (ρ.set i (.ow (.d (dPut kvs q t)))) else .no
    | _, _ => .no
  | _ => .no
theorem ss_dput {i : Nat} {tj te : TE} {mj me : ME} (he : SE k Ex te me) (hj : SE k Ex tj mj) : SS k Ex (sDPut (tVar i) tj te) (mDPut i mj me) := by
  constructor
  intro R0 H0 R σ ρ H D I h
  unfold mDPut at h
  cases e : ρ[i]? with
  | none => rw [e] at h; exact h.elim
  | some x =>
    rw [e] at h
    cases x with
    | un => exact h.elim
    | fz t => exact h.elim
    | ow o =>
      cases o with
      | l kvs => exact h.elim
      | d kvs =>
        obtain ⟨p, h1, h2, h3, us, h4, h5⟩ := I.ow i _ e
        refine he.run I (Rs.holds_mono (So.holds_of I h) (fun x _ hx => ?_) fun c z => z)
        intro R1 H1 v e1 r1
        refine ⟨.ref p, h1, ?_⟩
        refine hj.run (I.step e1) (Rs.holds_mono (So.holds_of I hx) (fun y _ hy => ?_) fun c z => z.mono e1.h)
        intro R2 H2 w e2 r2
        split at hy
        · rename_i q t hyt hxt
          split at hy
          · rename_i hl
            have hw := r2.vw.key hyt
            obtain ⟨R3, e3, s3, r3, _⟩ := RepX.dur (Hs := H) (e1.trans e2) (r1.mono e2) hxt
            obtain ⟨us', g1, g2⟩ := put_rep (q := q) r3 (h5.mono e3.r)
            have h4' := (e1.trans e2).h _ _ h4
            subst hw
            have hlen : us.length = kvs.length := by have := h5.length; simp only [List.length_map] at this; omega
            refine ⟨p, _, rfl, DPut.k h4' (by simp only [List.length_zip, List.length_map]; omega), ?_⟩
            exact hy R3 σ _ e3.r ((I.step e3).change e h1 ⟨us', by rw [upd_same, g1], g2⟩)
          · exact hy.elim
        · exact hy.elim
end
end Mr
set_option Elab.async false
set_option linter.all false
set_option maxRecDepth 100000
set_option maxHeartbeats 4000000
namespace Mr
open PySem L2

section
variable {k : Ks} {Ex : St → XK}
noncomputable abbrev MG := T → En → Option En
structure SG (k : Ks) (g : TG) (mg : MG) : Prop where
  run : ∀ {R0 H0 R : Hp} {σ : St} {ρ ρ' : En} {H : Hp} {v : V} {t : T} {Q : St → Hp → Prop}, RSt k R0 H0 R σ ρ H → Rep k R t v → mg t ρ = some ρ' → (∀ σ', RSt k R0 H0 R σ' ρ' H → Q σ' H) → g v σ H Q
noncomputable def gN (i : Nat) : MG := fun t ρ => some (ρ.set i (.fz t))
theorem sg_name {i : Nat} : SG k (gName i) (gN i) := by
  constructor
  intro R0 H0 R σ ρ ρ' H v t Q I r e q
  cases e
  exact q _ (I.setFz r)
noncomputable abbrev MGs := List T → En → Option En
structure SGs (k : Ks) (g : TGs) (mg : MGs) : Prop where
  run : ∀ {R0 H0 R : Hp} {σ : St} {ρ ρ' : En} {H : Hp} {vs : List V} {ts : List T} {Q : St → Hp → Prop}, RSt k R0 H0 R σ ρ H → Reps k R ts vs → mg ts ρ = some ρ' → (∀ σ', RSt k R0 H0 R σ' ρ' H → Q σ' H) → g vs σ H Q
noncomputable def gsN : MGs := fun ts ρ => match ts with | [] => some ρ | _ => none
noncomputable def gsC (a : MG) (b : MGs) : MGs := fun ts ρ => match ts with | t :: ts => (a t ρ).bind fun ρ' => b ts ρ' | [] => none
theorem sgs_nil : SGs k gNil gsN := by
  constructor
  intro R0 H0 R σ ρ ρ' H vs ts Q I r e q
  cases ts with
  | nil => cases e; unfold Reps at r; exact ⟨r, q _ I⟩
  | cons t ts => cases e
theorem sgs_cons {g : TG} {gs : TGs} {mg : MG} {mgs : MGs} (h : SG k g mg) (h' : SGs k gs mgs) : SGs k (gCons g gs) (gsC mg mgs) := by
  constructor
  intro R0 H0 R σ ρ ρ' H vs ts Q I r e q
  cases ts with
  | nil => cases e
  | cons t ts =>
    obtain ⟨ρ1, e1, e2⟩ := Option.bind_eq_some_iff.mp e
    unfold Reps at r
    obtain ⟨v, vs', rfl, r1, r2⟩ := r
    exact ⟨v, vs', rfl, h.run I r1 e1 fun σ' I' => h'.run I' r2 e2 q⟩
noncomputable def gT (n : Nat) (b : MGs) : MG := fun t ρ => match t with | .tup ts => if ts.length = n then b ts ρ else none | _ => none
theorem sg_tup {n : Nat} {gs : TGs} {mgs : MGs} (h : SGs k gs mgs) : SG k (gTup k.K n gs) (gT n mgs) := by
  constructor
  intro R0 H0 R σ ρ ρ' H v t Q I r e q
  cases t with
  | tup ts =>
    have r' := r
    unfold Rep at r
    obtain ⟨p, us, rfl, h1, h2⟩ := r
    have e : (if ts.length = n then mgs ts ρ else none) = some ρ' := e
    split at e
    · rename_i hl
      exact ⟨p, us, rfl, SqT.mono I.i h1, by rw [← h2.length]; exact hl, h.run I h2 e q⟩
    · cases e
  | _ => cases e
def ItOk (k : Ks) (J : It) (R : Hp) (ts : List T) : Prop := ∀ H', Same R H' → (∀ i, i < ts.length → J.go i H' ∧ ∀ x H'', J.yld i H' x H'' → H'' = H' ∧ ∃ t, ts[i]? = some t ∧ Rep k R t x) ∧ J.stop ts.length H'
theorem ItOk.mono {J : It} {R R' : Hp} {ts : List T} (h : ItOk k J R ts) (e : Same R R') : ItOk k J R' ts := fun H' s =>
  ⟨fun i hi => ⟨((h H' (e.trans s)).1 i hi).1, fun x H'' y => let ⟨a, t, b, c⟩ := ((h H' (e.trans s)).1 i hi).2 x H'' y; ⟨a, t, b, c.mono e⟩⟩, (h H' (e.trans s)).2⟩
noncomputable abbrev MI := En → Rs (List T)
structure SI (k : Ks) (Ex : St → XK) (wi : TI) (mi : MI) : Prop where
  run : ∀ {R0 H0 R : Hp} {σ : St} {ρ : En} {H : Hp} {Q : It → Hp → Prop}, RSt k R0 H0 R σ ρ H → (mi ρ).holds (fun ts => ∀ J R' H', Ext R H R' H' → ItOk k J R' ts → Q J H') (Err k Ex σ H) → wi σ H Q
noncomputable def mItL (a : ME) : MI := fun ρ => (a ρ).bind fun x => .ofO (x.dur.bind fun t => match t with | .lst ts => some ts | _ => none)
noncomputable def mItT (a : ME) : MI := fun ρ => (a ρ).bind fun x => .ofO (x.dur.bind fun t => match t with | .tup ts => some ts | _ => none)
noncomputable def mItS (a : ME) : MI := fun ρ => (a ρ).bind fun x => .ofO (x.dur.bind fun t => match t with | .str z => some (z.cps.toList.map fun c => .str ⟨#[c]⟩) | _ => none)
theorem it_lst {R : Hp} {p : Addr} {us : List V} {ts : List T} (h : SqL k.K R p us) (r : Reps k R ts us) : ItOk k (Itl k.K p) R ts := by
  intro H' s
  have h' := s.seq h
  have hl := r.length
  refine ⟨fun i hi => ⟨⟨us, us[i]'(by omega), h', List.getElem?_eq_getElem (by omega)⟩, fun x H'' y => ⟨y.1, ?_⟩⟩, ⟨us, h', by omega⟩⟩
  obtain ⟨t, h1, h2⟩ := r.getV (y.2 us h')
  exact ⟨t, h1, h2⟩
theorem it_tup {R : Hp} {p : Addr} {us : List V} {ts : List T} (h : SqT k.K R p us) (r : Reps k R ts us) : ItOk k (Itt k.K p) R ts := by
  intro H' s
  have h' := SqT.mono s h
  have hl := r.length
  refine ⟨fun i hi => ⟨⟨us, us[i]'(by omega), h', List.getElem?_eq_getElem (by omega)⟩, fun x H'' y => ⟨y.1, ?_⟩⟩, ⟨us, h', by omega⟩⟩
  obtain ⟨t, h1, h2⟩ := r.getV (y.2 us h')
  exact ⟨t, h1, h2⟩
theorem si_list {te : TE} {me : ME} (he : SE k Ex te me) : SI k Ex (iList k.K te) (mItL me) := by
  constructor
  intro R0 H0 R σ ρ H Q I h
  refine he.run I (Rs.holds_mono (Rs.holds_bind h) (fun x _ hx => ?_) fun c z => z)
  intro R1 H1 v e1 r1
  obtain ⟨ts, hz, hw⟩ := holds_ofO hx
  obtain ⟨t, ht, hz⟩ := Option.bind_eq_some_iff.mp hz
  obtain ⟨R2, e2, s2, r2, _⟩ := RepX.dur (Hs := H) e1 r1 ht
  cases t with
  | lst ts' =>
    cases hz
    unfold Rep at r2
    obtain ⟨p, us, rfl, h1, h2⟩ := r2
    exact ⟨p, rfl, ⟨us, e2.i.seq h1⟩, hw _ R2 H1 e2 (it_lst h1 h2)⟩
  | _ => cases hz
theorem si_tup {te : TE} {me : ME} (he : SE k Ex te me) : SI k Ex (iTup k.K te) (mItT me) := by
  constructor
  intro R0 H0 R σ ρ H Q I h
  refine he.run I (Rs.holds_mono (Rs.holds_bind h) (fun x _ hx => ?_) fun c z => z)
  intro R1 H1 v e1 r1
  obtain ⟨ts, hz, hw⟩ := holds_ofO hx
  obtain ⟨t, ht, hz⟩ := Option.bind_eq_some_iff.mp hz
  obtain ⟨R2, e2, s2, r2, _⟩ := RepX.dur (Hs := H) e1 r1 ht
  cases t with
  | tup ts' =>
    cases hz
    unfold Rep at r2
    obtain ⟨p, us, rfl, h1, h2⟩ := r2
    exact ⟨p, rfl, ⟨us, SqT.mono e2.i h1⟩, hw _ R2 H1 e2 (it_tup h1 h2)⟩
  | _ => cases hz
theorem it_str {R : Hp} {z : Str} : ItOk k (Its z) R (z.cps.toList.map fun c => T.str ⟨#[c]⟩) := by
  intro H' s
  refine ⟨fun i hi => ⟨?_, fun x H'' y => ⟨y.1, ?_⟩⟩, ?_⟩
  · simp at hi; exact hi
  · obtain ⟨_, c, hc, rfl⟩ := y
    refine ⟨.str ⟨#[c]⟩, ?_, rep_str⟩
    rw [List.getElem?_map]
    have : z.cps.toList[i]? = some c := by simpa using hc
    rw [this]; rfl
  · show z.cps.size ≤ _
    simp
theorem si_str {te : TE} {me : ME} (he : SE k Ex te me) : SI k Ex (iStr te) (mItS me) := by
  constructor
  intro R0 H0 R σ ρ H Q I h
  refine he.run I (Rs.holds_mono (Rs.holds_bind h) (fun x _ hx => ?_) fun c z => z)
  intro R1 H1 v e1 r1
  obtain ⟨ts, hz, hw⟩ := holds_ofO hx
  obtain ⟨t, ht, hz⟩ := Option.bind_eq_some_iff.mp hz
  obtain ⟨R2, e2, s2, r2, _⟩ := RepX.dur (Hs := H) e1 r1 ht
  cases t with
  | str z =>
    cases hz
    have := r2.str
    subst this
    exact ⟨z, rfl, hw _ R2 H1 e2 it_str⟩
  | _ => cases hz
noncomputable def ranT (lo : Int) (n : Nat) : List T := (List.range n).map fun (i : Nat) => T.int (lo + (i : Int))
theorem it_rng {R : Hp} {lo : Int} {n : Nat} : ItOk k (Itr lo n) R (ranT lo n) := by
  intro H' s
  unfold ranT
  refine ⟨fun i hi => ⟨?_, fun x H'' y => ⟨y.1, ?_⟩⟩, ?_⟩
  · simp at hi; exact hi
  · obtain ⟨_, rfl⟩ := y
    refine ⟨.int (lo + i), ?_, rep_int⟩
    simp at hi
    simp [hi]
  · show n ≤ _
    simp
noncomputable def mItR1 (a : MA) : MI := fun ρ => (a ρ).bind fun xs => match xs.map XV.t with | [.int j] => if -(2 ^ 62) ≤ j ∧ j < 2 ^ 62 then .ok (ranT 0 j.toNat) else .no | _ => .no
theorem si_rng1 {ta : TA} {ma : MA} (ha : SA k Ex ta ma) : SI k Ex (iRng1 ta) (mItR1 ma) := by
  constructor
  intro R0 H0 R σ ρ H Q I h
  refine ha.run I (Rs.holds_mono (Rs.holds_bind h) (fun x _ hx => ?_) fun c z => z)
  intro R1 H1 vs e1 r1
  have w := RepXs.vws r1
  generalize x.map XV.t = ts at hx w
  split at hx
  · rename_i j
    split at hx
    · rename_i hj
      cases w with
      | cons a b =>
        cases b
        exact ⟨j, by rw [a.int], hj.1, hj.2, hx _ R1 H1 e1 it_rng⟩
    · exact hx.elim
  · exact hx.elim
noncomputable def loop (mg : MG) (mb : MS) : List T → En → So
  | [], ρ => .nx ρ
  | t :: ts, ρ => match mg t ρ with
    | none => .no
    | some ρ1 => match mb ρ1 with
      | .nx ρ2 => loop mg mb ts ρ2
      | .ct ρ2 => loop mg mb ts ρ2
      | .bk ρ2 => .nx ρ2
      | .rt x => .rt x
      | .er c ρ2 => .er c ρ2
      | .no => .no
noncomputable def mFor (mi : MI) (mg : MG) (mb : MS) : MS := fun ρ => So.of (mi ρ) ρ fun ts => loop mg mb ts ρ
theorem ss_for {wi : TI} {g : TG} {tb : TS} {mi : MI} {mg : MG} {mb : MS} (hi : SI k Ex wi mi) (hg : SG k g mg) (hb : SS k Ex tb mb) : SS k Ex (tFor wi g tb) (mFor mi mg mb) := by
  constructor
  intro R0 H0 R σ ρ H D I h
  refine hi.run I (Rs.holds_mono (So.holds_of I h) (fun ts _ hx => ?_) fun c z => z)
  intro J R1 H1 e1 it
  refine ⟨fun i m σ' H' => m = ts.length - i ∧ i ≤ ts.length ∧ ∃ R' ρ', Same R1 R' ∧ RSt k R0 H0 R' σ' ρ' H' ∧ (loop mg mb (ts.drop i) ρ').holds k Ex R0 H0 R' D,
    ⟨ts.length, by simp, Nat.zero_le _, R1, ρ, Same.refl _, I.step e1, by simpa using So.holds_R hx e1.r⟩, ?_⟩
  rintro i m σ' H' ⟨rfl, hi', R', ρ', s', I', h'⟩
  have it' := (it.mono s') H' I'.i
  by_cases hlt : i < ts.length
  · refine .inr ⟨(it'.1 i hlt).1, fun σ2 H2 => ∃ R2 ρ2, Same R1 R2 ∧ RSt k R0 H0 R2 σ2 ρ2 H2 ∧ (loop mg mb (ts.drop (i + 1)) ρ2).holds k Ex R0 H0 R2 D, fun σ2 H2 ⟨R2, ρ2, q1, q2, q3⟩ => ⟨ts.length - (i + 1), by omega, rfl, hlt, R2, ρ2, q1, q2, q3⟩, fun x H2 y => ?_⟩
    obtain ⟨rfl, t, ht, rt⟩ := (it'.1 i hlt).2 x H2 y
    have hd : ts.drop i = t :: ts.drop (i + 1) := by
      rw [List.drop_eq_getElem_cons hlt]
      congr 1
      rw [List.getElem?_eq_getElem hlt] at ht
      exact Option.some.inj ht
    rw [hd] at h'
    unfold loop at h'
    cases hg' : mg t ρ' with
    | none => rw [hg'] at h'; exact h'.elim
    | some ρ1 =>
      rw [hg'] at h'
      dsimp only at h'
      refine hg.run I' rt hg' fun σ2 I2 => hb.run I2 ?_
      cases hm : mb ρ1 with
      | nx ρ2 => rw [hm] at h'; exact fun R2 σ3 H3 e I3 => ⟨R2, ρ2, s'.trans e, I3, So.holds_R h' e⟩
      | ct ρ2 => rw [hm] at h'; exact fun R2 σ3 H3 e I3 => ⟨R2, ρ2, s'.trans e, I3, So.holds_R h' e⟩
      | bk ρ2 => rw [hm] at h'; exact h'
      | rt x => rw [hm] at h'; exact h'
      | er c ρ2 => rw [hm] at h'; exact h'
      | no => rw [hm] at h'; exact h'.elim
  · have e : i = ts.length := by omega
    subst e
    refine .inl ⟨it'.2, ?_⟩
    rw [List.drop_length] at h'
    exact h' R' σ' H' (Same.refl _) I'
theorem Ext.mut {R H R1 H1 : Hp} {p : Addr} {o : HO} (a : Ext R H R1 H1) (hp : H p = none) (hr : R1 p = none) : Ext R H R1 (upd H1 p o) := ⟨a.r, same_upd a.h hp, same_upd a.i hr, a.n⟩
noncomputable def cloop (mg : MG) (mt : MT) (me : ME) (ρ : En) : List T → List T → Rs (List T)
  | [], acc => .ok acc
  | t :: ts, acc => match mg t ρ with
    | none => .no
    | some ρ1 => (mt ρ1).bind fun b => if b = true then (me ρ1).bind fun x => match x.dur with
        | some u => if acc.length < sizeLine then cloop mg mt me ρ ts (acc ++ [u]) else .no
        | none => .no
      else cloop mg mt me ρ ts acc
noncomputable def Rs.noEr {α : Type} : Rs α → Rs α
  | .er _ => .no
  | r => r
noncomputable def mComp (n : Nat) (mi : MI) (mg : MG) (mt : MT) (me : ME) : ME := fun ρ => (mi ρ).bind fun ts => ((cloop mg mt me (List.replicate n .un ++ ρ) ts []).noEr).bind fun us => .ok (.ow (.l us))
theorem RSt.pre {R0 H0 R : Hp} {σ : St} {ρ : En} {H : Hp} (I : RSt k R0 H0 R σ ρ H) (n : Nat) : RSt k R0 H0 R (List.replicate n none ++ σ) (List.replicate n .un ++ ρ) H := by
  have g1 : ∀ (i : Nat) (x : EV), (x = .un → False) → (List.replicate n EV.un ++ ρ)[i]? = some x → n ≤ i ∧ ρ[i - n]? = some x := fun i x hx e => by
    by_cases hi : i < n
    · rw [List.getElem?_append_left (by simpa using hi), List.getElem?_replicate, if_pos hi] at e
      exact (hx (Option.some.inj e).symm).elim
    · rw [List.getElem?_append_right (by simpa using hi)] at e
      simp only [List.length_replicate] at e
      exact ⟨by omega, e⟩
  have g2 : ∀ (i : Nat), n ≤ i → (List.replicate n (none : Option V) ++ σ)[i]? = σ[i - n]? := fun i hi => by
    rw [List.getElem?_append_right (by simpa using hi)]
    simp only [List.length_replicate]
  refine ⟨I.ext, by simp [I.len], fun i t e => ?_, fun i o e => ?_, fun a b o o' p hab ea eb e1 => ?_⟩
  · obtain ⟨hi, e⟩ := g1 i (.fz t) (fun z => EV.noConfusion z) e
    rw [g2 i hi]; exact I.fz _ t e
  · obtain ⟨hi, e⟩ := g1 i (.ow o) (fun z => EV.noConfusion z) e
    rw [g2 i hi]; exact I.ow _ o e
  · obtain ⟨ha, ea⟩ := g1 a (.ow o) (fun z => EV.noConfusion z) ea
    obtain ⟨hb, eb⟩ := g1 b (.ow o') (fun z => EV.noConfusion z) eb
    rw [g2 a ha] at e1
    rw [g2 b hb]
    exact I.sep (a - n) (b - n) o o' p (by omega) ea eb e1
theorem se_comp {n : Nat} {wi : TI} {g : TG} {tt : TT} {te : TE} {mi : MI} {mg : MG} {mt : MT} {me : ME} (hi : SI k Ex wi mi) (hg : SG k g mg) (ht : ∀ Ex', ST k Ex' tt mt) (he : ∀ Ex', SE k Ex' te me) : SE k Ex (tComp n wi g tt te) (mComp n mi mg mt me) := by
  constructor
  intro R0 H0 R σ ρ H Q I h
  refine hi.run I (Rs.holds_mono (Rs.holds_bind h) (fun ts _ hx => ?_) fun c z => z)
  intro J R1 H1 e1 it D hD
  have hok : ∃ us, cloop mg mt me (List.replicate n .un ++ ρ) ts [] = .ok us ∧ WantX k R H Q (.ow (.l us)) := by
    have hx := Rs.holds_bind hx
    cases hc : cloop mg mt me (List.replicate n .un ++ ρ) ts [] with
    | ok us => rw [hc] at hx; exact ⟨us, rfl, hx⟩
    | er c => rw [hc] at hx; exact hx.elim
    | no => rw [hc] at hx; exact hx.elim
  obtain ⟨us, hc, hw⟩ := hok
  have HD : H D = none := e1.h.free hD
  have H0D : H0 D = none := I.ext.h.free HD
  refine ⟨fun i m xs H' => m = ts.length - i ∧ i ≤ ts.length ∧ H' D = some (.lst xs) ∧ ∃ R' acc, Same R1 R' ∧ Ext R H R' H' ∧ R' D = none ∧ Reps k R' acc xs ∧ cloop mg mt me (List.replicate n .un ++ ρ) (ts.drop i) acc = .ok us,
    ⟨ts.length, by simp, Nat.zero_le _, upd_same, R1, [], Same.refl _, e1.new hD, e1.i.free hD, Reps.nil, by simpa using hc⟩, ?_⟩
  rintro i m xs H' ⟨rfl, hi', hp, R', acc, s', e', d', r', c'⟩
  refine ⟨hp, ?_⟩
  have it' := (it.mono s') H' e'.i
  by_cases hlt : i < ts.length
  · refine .inr ⟨(it'.1 i hlt).1, fun x H2 y => ?_⟩
    obtain ⟨rfl, t, ht', rt⟩ := (it'.1 i hlt).2 x H2 y
    have hd : ts.drop i = t :: ts.drop (i + 1) := by
      rw [List.drop_eq_getElem_cons hlt]
      congr 1
      rw [List.getElem?_eq_getElem hlt] at ht'
      exact Option.some.inj ht'
    rw [hd] at c'
    unfold cloop at c'
    cases hg' : mg t (List.replicate n .un ++ ρ) with
    | none => rw [hg'] at c'; cases c'
    | some ρ1 =>
      rw [hg'] at c'
      dsimp only at c'
      refine hg.run ((I.step e').pre n) rt hg' fun σ2 I2 => ?_
      have done : ∀ (R3 : Hp) (xs3 : List V) (H3 : Hp) (acc3 : List T), Same R1 R3 → Ext R H R3 H3 → R3 D = none → Reps k R3 acc3 xs3 → H3 D = some (.lst xs3) → cloop mg mt me (List.replicate n .un ++ ρ) (ts.drop (i + 1)) acc3 = .ok us →
          ∃ m', m' < ts.length - i ∧ m' = ts.length - (i + 1) ∧ i + 1 ≤ ts.length ∧ H3 D = some (.lst xs3) ∧ ∃ R' acc, Same R1 R' ∧ Ext R H R' H3 ∧ R' D = none ∧ Reps k R' acc xs3 ∧ cloop mg mt me (List.replicate n .un ++ ρ) (ts.drop (i + 1)) acc = .ok us :=
        fun R3 xs3 H3 acc3 q1 q2 q3 q4 q5 q6 => ⟨ts.length - (i + 1), by omega, rfl, hlt, q5, R3, acc3, q1, q2, q3, q4, q6⟩
      cases hb : mt ρ1 with
      | no => rw [hb] at c'; cases c'
      | er c => rw [hb] at c'; cases c'
      | ok b =>
        rw [hb] at c'
        refine (ht (fun _ _ _ _ => False)).run I2 ?_
        rw [hb]
        intro R3 H3 e3
        have hD3 : H3 D = some (.lst xs) := e3.h _ _ hp
        have d3 : R3 D = none := e3.n D d' (by rw [hp]; exact fun z => nomatch z)
        cases b with
        | false => exact done R3 xs H3 acc (s'.trans e3.r) (e'.trans e3) d3 (r'.mono e3.r) hD3 c'
        | true =>
          have c' : ((me ρ1).bind fun x => match x.dur with | some u => if acc.length < sizeLine then cloop mg mt me (List.replicate n .un ++ ρ) (ts.drop (i + 1)) (acc ++ [u]) else .no | none => .no) = .ok us := c'
          cases hm : me ρ1 with
          | no => rw [hm] at c'; cases c'
          | er c => rw [hm] at c'; cases c'
          | ok x =>
            rw [hm] at c'
            refine (he (fun _ _ _ _ => False)).run (I2.step e3) ?_
            rw [hm]
            intro R4 H4 v e4 r4
            have c' : (match x.dur with | some u => if acc.length < sizeLine then cloop mg mt me (List.replicate n EV.un ++ ρ) (ts.drop (i + 1)) (acc ++ [u]) else Rs.no | none => Rs.no) = Rs.ok us := c'
            cases hu : x.dur with
            | none => rw [hu] at c'; cases c'
            | some u =>
              rw [hu] at c'
              dsimp only at c'
              split at c'
              · rename_i hl
                obtain ⟨R5, e5, s5, r5, n5⟩ := RepX.dur (Hs := H3) e4 r4 hu
                have hD4 : H4 D = some (.lst xs) := e4.h _ _ hD3
                have d5 : R5 D = none := e5.n D d3 (by rw [hD3]; exact fun z => nomatch z)
                have ef : Ext R H R5 H4 := e'.trans (e3.trans e5)
                refine ⟨xs, hD4, by rw [← r'.length]; exact hl, ?_⟩
                exact done R5 (xs ++ [v]) _ (acc ++ [u]) (s'.trans (e3.r.trans e5.r)) (ef.mut HD d5) d5 ((r'.mono (e3.r.trans e5.r)).append (Reps.cons r5 Reps.nil)) upd_same c'
              · cases c'
  · have e : i = ts.length := by omega
    subst e
    refine .inl ⟨it'.2, ?_⟩
    rw [List.drop_length] at c'
    cases c'
    exact hw R' H' _ e' ⟨D, rfl, HD, d', xs, hp, r'⟩
end
end Mr
set_option Elab.async false
set_option linter.all false
set_option maxRecDepth 100000
set_option maxHeartbeats 4000000
namespace Mr
open PySem L2

noncomputable def SpM (k : Ks) (n : Nat) (m : List T → Rs XV) : Sp := fun vs H Q E => ∃ R ts, Same R H ∧ Reps k R ts vs ∧ ts.length = n ∧ (m ts).holds (WantX k R H Q) (fun c => ∀ H' C, Same H H' → k.cl c = some C → E (.ref C) none H')
theorem SpM.len {k : Ks} {n : Nat} {m : List T → Rs XV} : ∀ vs H Q E, SpM k n m vs H Q E → vs.length = n := fun vs H Q E ⟨R, ts, _, h, e, _⟩ => by rw [← h.length]; exact e
noncomputable def startE (n : Nat) (ts : List T) : En := ts.map .fz ++ List.replicate (n - ts.length) .un
noncomputable def So.out : So → Rs XV
  | .rt (.bo _) => .no
  | .rt x => .ok x
  | .nx _ => .ok (.fz .non)
  | .er c _ => .er c
  | _ => .no
noncomputable def mDef (n : Nat) (mb : MS) (ts : List T) : Rs XV := (mb (startE n ts)).out
theorem start_ok {k : Ks} {R H : Hp} {vs : List V} {ts : List T} (n : Nat) (i : Same R H) (r : Reps k R ts vs) : RSt k R H R (vs.map some ++ List.replicate (n - vs.length) none) (startE n ts) H := by
  have hl := r.length
  have g : ∀ (j : Nat) (x : EV), (x = .un → False) → (startE n ts)[j]? = some x → ∃ t, ts[j]? = some t ∧ x = .fz t := fun j x hx e => by
    unfold startE at e
    by_cases hj : j < ts.length
    · rw [List.getElem?_append_left (by simpa using hj), List.getElem?_map, List.getElem?_eq_getElem hj] at e
      exact ⟨ts[j], List.getElem?_eq_getElem hj, (Option.some.inj e).symm⟩
    · rw [List.getElem?_append_right (by simpa using hj), List.getElem?_replicate] at e
      split at e
      · exact (hx (Option.some.inj e).symm).elim
      · cases e
  refine ⟨Ext.refl i, by simp [startE, hl], fun j t e => ?_, fun j o e => ?_, fun a b o o' p hab ea eb e1 => ?_⟩
  · obtain ⟨t', h1, h2⟩ := g j (.fz t) (fun z => EV.noConfusion z) e
    cases h2
    obtain ⟨u, h3, h4⟩ := r.get h1
    refine ⟨u, ?_, h4⟩
    have : j < vs.length := (List.getElem?_eq_some_iff.mp h3).1
    rw [List.getElem?_append_left (by simpa using this), List.getElem?_map, h3]
    rfl
  · obtain ⟨t', h1, h2⟩ := g j (.ow o) (fun z => EV.noConfusion z) e
    cases h2
  · obtain ⟨t', h1, h2⟩ := g a (.ow o) (fun z => EV.noConfusion z) ea
    cases h2
theorem body_ok {k : Ks} {n np : Nat} {mb : MS} {t : TS} {vs : List V} {H : Hp} {Q : VK} {E : XK} (hs : SS k (fun _ => E) t mb) (h : SpM k np (mDef n mb) vs H Q E) :
    t { nx := fun _ H' => Q .non H', rt := Q } (vs.map some ++ List.replicate (n - vs.length) none) H := by
  obtain ⟨R, ts, i, r, hl, hw⟩ := h
  refine hs.run (start_ok n i r) ?_
  unfold mDef at hw
  cases hm : mb (startE n ts) with
  | nx ρ => rw [hm] at hw; exact fun R' σ' H' e I' => hw R' H' .non I'.ext (repx_fz rep_non)
  | rt x =>
    rw [hm] at hw
    cases x with
    | fz t => exact fun R' H' v e r => hw R' H' v e r
    | ow o => exact fun R' H' v e r => hw R' H' v e r
    | bo o => exact hw.elim
  | er c ρ => rw [hm] at hw; exact fun R' σ' H' C e I' hc => hw H' C I'.ext.h hc
  | bk ρ => rw [hm] at hw; exact hw.elim
  | ct ρ => rw [hm] at hw; exact hw.elim
  | no => rw [hm] at hw; exact hw.elim

section
variable {k : Ks} {Ex : St → XK}
noncomputable def T.scal : T → Bool
  | .non => true
  | .bl _ => true
  | .int _ => true
  | .str _ => true
  | _ => false
noncomputable def XV.scal : XV → Bool
  | .fz t => t.scal
  | _ => false
noncomputable def XV.isBo : XV → Bool
  | .bo _ => true
  | _ => false
theorem Rep.anyR {R R' : Hp} {t : T} {v : V} (h : Rep k R t v) (e : t.scal = true) : Rep k R' t v := by
  cases t with
  | non => rw [h.non]; exact rep_non
  | bl b => rw [h.bl]; exact rep_bl
  | int b => rw [h.int]; exact rep_int
  | str b => rw [h.str]; exact rep_str
  | _ => cases e
noncomputable def mCall (n : Nat) (m : List T → Rs XV) (a : MA) : ME := fun ρ => (a ρ).bind fun xs => if xs.length = n then (m (xs.map XV.t)).bind fun r => if (xs.any XV.isBo && !r.scal) = true then .no else .ok r else .no
theorem durs_t : ∀ {xs : List XV}, xs.any XV.isBo = false → durs xs = some (xs.map XV.t)
  | [], _ => rfl
  | x :: xs, h => by
    rw [List.any_cons, Bool.or_eq_false_iff] at h
    unfold durs
    rw [durs_t h.2]
    cases x with
    | fz t => rfl
    | ow o => rfl
    | bo o => exact absurd h.1 (by simp [XV.isBo])
theorem Vws.all {R H : Hp} (i : Same R H) : ∀ {vs : List V} {xs : List XV} {Hs : Hp} {R1 : Hp}, Same R R1 → Same R1 H → RepXs k R H Hs vs xs → ∃ R2, Same R1 R2 ∧ Same R2 H ∧ Reps k R2 (xs.map XV.t) vs
  | _, _, Hs, R1, s1, s2, .nil => ⟨R1, Same.refl _, s2, Reps.nil⟩
  | v :: vs, x :: xs, Hs, R1, s1, s2, .cons a b => by
    obtain ⟨R2, h1, h2, h3⟩ := Vws.all i s1 s2 b
    have own : ∀ (p : Addr) (o : Ow), OwOk k R H o p → ∃ R3, Same R2 R3 ∧ Same R3 H ∧ Rep k R3 o.t (.ref p) := fun p o h4 => by
      cases hH : H p with
      | none => exact absurd hH h4.some
      | some ob =>
        have sm : Same R2 (upd R2 p ob) := fun b u e => by
          by_cases hb : b = p
          · subst hb
            have q := h2 b u e
            rw [hH] at q
            cases q
            exact upd_same
          · rw [upd_ne hb]; exact e
        refine ⟨upd R2 p ob, sm, fun b u e => ?_, h4.rep (s1.trans (h1.trans sm)) (upd_same.trans hH.symm)⟩
        by_cases hb : b = p
        · subst hb; rw [upd_same] at e; cases e; exact hH
        · rw [upd_ne hb] at e; exact h2 b u e
    cases x with
    | fz t => exact ⟨R2, h1, h2, Reps.cons (Rep.mono (s1.trans h1) a) h3⟩
    | ow o =>
      obtain ⟨p, rfl, _, _, h4⟩ := a
      obtain ⟨R3, q1, q2, q3⟩ := own p o h4
      exact ⟨R3, h1.trans q1, q2, Reps.cons q3 (h3.mono q1)⟩
    | bo o =>
      obtain ⟨p, rfl, h4⟩ := a
      obtain ⟨R3, q1, q2, q3⟩ := own p o h4
      exact ⟨R3, h1.trans q1, q2, Reps.cons q3 (h3.mono q1)⟩
theorem call_ok {n : Nat} {m : List T → Rs XV} {ta : TA} {ma : MA} {E : XK} {R0 H0 R : Hp} {σ : St} {ρ : En} {H : Hp} {Q : VK} (hE : ∀ c, Err k Ex σ H c → ∀ H' C, Same H H' → k.cl c = some C → E (.ref C) none H') (ha : SA k Ex ta ma) (I : RSt k R0 H0 R σ ρ H) (h : (mCall n m ma ρ).holds (WantX k R H Q) (Err k Ex σ H)) :
    ta σ H fun vs H1 => SpM k n m (vs ++ []) H1 Q E := by
  refine ha.run I (Rs.holds_mono (Rs.holds_bind h) (fun xs _ hx => ?_) fun c z => z)
  intro R1 H1 vs e1 r1
  rw [List.append_nil]
  split at hx
  · rename_i hl
    cases hb : xs.any XV.isBo with
    | false =>
      obtain ⟨R2, e2, s2, r2⟩ := RepXs.durs e1 r1 (durs_t hb)
      refine ⟨R2, xs.map XV.t, e2.i, r2, by simpa using hl, Rs.holds_mono (Rs.holds_bind hx) (fun x _ hx => ?_) fun c z H' C s hc => hE c z H' C (e1.h.trans s) hc⟩
      rw [hb, Bool.false_and, if_neg Bool.false_ne_true] at hx
      exact WantX.step hx e2
    | true =>
      obtain ⟨R2, s2, i2, r2⟩ := Vws.all e1.i (Same.refl _) e1.i r1
      refine ⟨R2, xs.map XV.t, i2, r2, by simpa using hl, Rs.holds_mono (Rs.holds_bind hx) (fun x _ hx => ?_) fun c z H' C s hc => hE c z H' C (e1.h.trans s) hc⟩
      rw [hb, Bool.true_and] at hx
      split at hx
      · exact hx.elim
      · rename_i hs
        intro R3 H3 v e3 r3
        cases x with
        | fz t =>
          have ht : t.scal = true := by simpa [XV.scal] using hs
          exact hx R1 H3 v (e1.trans ⟨Same.refl _, e3.h, e1.i.trans e3.h, fun a z _ => z⟩) (repx_fz (Rep.anyR r3.fzr ht))
        | ow o => exact absurd (by simp [XV.scal]) hs
        | bo o => exact absurd (by simp [XV.scal]) hs
  · exact hx.elim
theorem se_call {n : Nat} {m : List T → Rs XV} {ta : TA} {ma : MA} {E : XK} (ha : SA k (fun _ => E) ta ma) : SE k (fun _ => E) (tCall (SpM k n m) [] E ta) (mCall n m ma) := by
  constructor
  intro R0 H0 R σ ρ H Q I h
  exact call_ok (fun c z H' C s hc => z H' C s hc) ha I h
noncomputable def mCallN (n : Nat) (m : List T → Rs XV) (a : MA) : ME := mCall n (fun ts => (m ts).noEr) a
theorem se_callN {n : Nat} {m : List T → Rs XV} {ta : TA} {ma : MA} (ha : SA k Ex ta ma) : SE k Ex (tCall (SpM k n m) [] (fun _ _ _ => False) ta) (mCallN n m ma) := by
  constructor
  intro R0 H0 R σ ρ H Q I h
  refine ha.run I (Rs.holds_mono (Rs.holds_bind h) (fun xs hxs hx => ?_) fun c z => z)
  intro R1 H1 vs e1 r1
  dsimp only at hx
  have hne : ∃ x, m (xs.map XV.t) = .ok x ∧ xs.length = n := by
    split at hx
    · rename_i hl
      cases hm : m (xs.map XV.t) with
      | ok x => exact ⟨x, rfl, hl⟩
      | er c => rw [hm] at hx; exact hx.elim
      | no => rw [hm] at hx; exact hx.elim
    · exact hx.elim
  obtain ⟨x, hm, hl⟩ := hne
  rw [if_pos hl, hm] at hx
  have hx : (if (xs.any XV.isBo && !x.scal) = true then Rs.no else .ok x).holds (WantX k R H Q) (Err k Ex σ H) := hx
  rw [List.append_nil]
  cases hb : xs.any XV.isBo with
  | false =>
    obtain ⟨R2, e2, s2, r2⟩ := RepXs.durs e1 r1 (durs_t hb)
    refine ⟨R2, xs.map XV.t, e2.i, r2, by simpa using hl, ?_⟩
    rw [hm]
    rw [hb, Bool.false_and, if_neg Bool.false_ne_true] at hx
    exact WantX.step hx e2
  | true =>
    obtain ⟨R2, s2, i2, r2⟩ := Vws.all e1.i (Same.refl _) e1.i r1
    refine ⟨R2, xs.map XV.t, i2, r2, by simpa using hl, ?_⟩
    rw [hm]
    rw [hb, Bool.true_and] at hx
    split at hx
    · exact hx.elim
    · rename_i hs
      intro R3 H3 v e3 r3
      cases x with
      | fz t =>
        have ht : t.scal = true := by simpa [XV.scal] using hs
        exact hx R1 H3 v (e1.trans ⟨Same.refl _, e3.h, e1.i.trans e3.h, fun a z _ => z⟩) (repx_fz (Rep.anyR r3.fzr ht))
      | ow o => exact absurd (by simp [XV.scal]) hs
      | bo o => exact absurd (by simp [XV.scal]) hs
noncomputable def mRaise (c : Str) (a : MA) : MS := fun ρ => So.of (a ρ) ρ fun xs => if xs.length ≤ 1000 then .er c ρ else .no
theorem paired_len {α β : Type} {F : α → β → Prop} : ∀ {l₁ : List α} {l₂ : List β}, Paired F l₁ l₂ → l₁.length = l₂.length
  | _, _, .nil => rfl
  | _, _, .cons _ t => by simp [paired_len t]
theorem ss_raise {C : Addr} {E : XK} {ta : TA} {ma : MA} {c : Str} (hc : k.cl c = some C) (ha : SA k (fun _ => E) ta ma) : SS k (fun _ => E) (tRaise C E ta) (mRaise c ma) := by
  constructor
  intro R0 H0 R σ ρ H D I h
  refine ha.run I (Rs.holds_mono (So.holds_of I h) (fun xs _ hx => ?_) fun c z => z)
  intro R1 H1 vs e1 r1
  split at hx
  · rename_i hl
    exact ⟨by rw [paired_len r1]; exact hl, hx R1 σ H1 C e1.r (I.step e1) hc⟩
  · exact hx.elim
noncomputable def So.un (i : Nat) : So → So := So.mapE fun ρ => ρ.set i .un
end
end Mr
set_option Elab.async false
set_option linter.all false
set_option maxRecDepth 100000
set_option maxHeartbeats 4000000
namespace Mr
open PySem L2

section
variable {k : Ks}
theorem WO.here {R H : Hp} {Q : VK} {x : XV} {v : V} (i : Same R H) (h : WantX k R H Q x) (r : RepX k R H H v x) : Q v H := h R H v (Ext.refl i) r
noncomputable def fI0 (f : Int → Int → T) : T → T → Option XV
  | .int i, .int j => some (.fz (f i j))
  | _, _ => none
noncomputable def fI (C : Int → Int → Prop) [∀ i j, Decidable (C i j)] (f : Int → Int → T) : T → T → Option XV
  | .int i, .int j => if C i j then some (.fz (f i j)) else none
  | _, _ => none
theorem r2_I0 {g : Int → Int → V} {f : Int → Int → T} (h : ∀ i j R, Rep k R (f i j) (g i j)) : R2S k (rI0 g) (fI0 f) := by
  intro R H x y t u Q i hx hy hw
  obtain ⟨z, hz, hw⟩ := hw
  cases t with
  | int a =>
    cases u with
    | int b => cases hz; exact ⟨a, b, hx.int, hy.int, WO.here i hw (repx_fz (h a b R))⟩
    | _ => cases hz
  | _ => cases hz
theorem r2_I {C : Int → Int → Prop} [∀ i j, Decidable (C i j)] {g : Int → Int → V} {f : Int → Int → T} (h : ∀ i j R, Rep k R (f i j) (g i j)) : R2S k (rI C g) (fI C f) := by
  intro R H x y t u Q i hx hy hw
  obtain ⟨z, hz, hw⟩ := hw
  cases t with
  | int a =>
    cases u with
    | int b =>
      have hz : (if C a b then some (XV.fz (f a b)) else none) = some z := hz
      split at hz
      · rename_i hc
        cases hz; exact ⟨a, b, hx.int, hy.int, hc, WO.here i hw (repx_fz (h a b R))⟩
      · cases hz
    | _ => cases hz
  | _ => cases hz
noncomputable def oAdd := fI0 fun i j => .int (i + j)
noncomputable def oSub := fI0 fun i j => .int (i - j)
noncomputable def oLt := fI0 fun i j => .bl (decide (i < j))
noncomputable def oLe := fI0 fun i j => .bl (decide (i ≤ j))
noncomputable def oGt := fI0 fun i j => .bl (decide (j < i))
noncomputable def oGe := fI0 fun i j => .bl (decide (j ≤ i))
theorem r_add : R2S k (rI0 fun i j => .int (i + j)) oAdd := r2_I0 fun _ _ _ => rep_int
theorem r_sub : R2S k (rI0 fun i j => .int (i - j)) oSub := r2_I0 fun _ _ _ => rep_int
theorem r_lt : R2S k (rI0 fun i j => .bl (decide (i < j))) oLt := r2_I0 fun _ _ _ => rep_bl
theorem r_le : R2S k (rI0 fun i j => .bl (decide (i ≤ j))) oLe := r2_I0 fun _ _ _ => rep_bl
theorem r_gt : R2S k (rI0 fun i j => .bl (decide (j < i))) oGt := r2_I0 fun _ _ _ => rep_bl
theorem r_ge : R2S k (rI0 fun i j => .bl (decide (j ≤ i))) oGe := r2_I0 fun _ _ _ => rep_bl
noncomputable instance (i j : Int) : Decidable (CMul i j) := by unfold CMul; infer_instance
noncomputable instance (i j : Int) : Decidable (CMulB i j) := by unfold CMulB; infer_instance
noncomputable instance (i j : Int) : Decidable (CDiv i j) := by unfold CDiv; infer_instance
noncomputable instance (i j : Int) : Decidable (CPow i j) := by unfold CPow; infer_instance
noncomputable def oMul := fI CMul fun i j => .int (i * j)
noncomputable def oMulB := fI CMulB fun i j => .int (i * j)
noncomputable def oDiv := fI CDiv fun i j => .int (i / j)
noncomputable def oMod := fI (fun _ j => 0 < j) fun i j => .int (i % j)
noncomputable def oPow := fI CPow fun i j => .int (i ^ j.toNat)
theorem r_mul : R2S k (rI CMul fun i j => .int (i * j)) oMul := r2_I fun _ _ _ => rep_int
theorem r_mulB : R2S k (rI CMulB fun i j => .int (i * j)) oMulB := r2_I fun _ _ _ => rep_int
theorem r_div : R2S k (rI CDiv fun i j => .int (i / j)) oDiv := r2_I fun _ _ _ => rep_int
theorem r_mod : R2S k (rI (fun _ j => 0 < j) fun i j => .int (i % j)) oMod := r2_I fun _ _ _ => rep_int
theorem r_pow : R2S k (rI CPow fun i j => .int (i ^ j.toNat)) oPow := r2_I fun _ _ _ => rep_int
noncomputable def oNeg : T → Option XV
  | .int i => some (.fz (.int (-i)))
  | _ => none
theorem r_neg : R1S k (rU fun i => .int (-i)) oNeg := by
  intro R H x t Q i hx hw
  obtain ⟨z, hz, hw⟩ := hw
  cases t with
  | int a => cases hz; exact ⟨a, hx.int, WO.here i hw (repx_fz rep_int)⟩
  | _ => cases hz
noncomputable def oEq : T → T → Option XV
  | .int i, .int j => some (.fz (.bl (decide (i = j))))
  | .str i, .str j => some (.fz (.bl (decide (i = j))))
  | .bl i, .bl j => some (.fz (.bl (decide (i = j))))
  | .non, .non => some (.fz (.bl true))
  | .non, .int _ => some (.fz (.bl false))
  | .int _, .non => some (.fz (.bl false))
  | .non, .str _ => some (.fz (.bl false))
  | .str _, .non => some (.fz (.bl false))
  | .int _, .str _ => some (.fz (.bl false))
  | .str _, .int _ => some (.fz (.bl false))
  | _, _ => none
noncomputable def oNe : T → T → Option XV
  | .int i, .int j => some (.fz (.bl (!decide (i = j))))
  | .str i, .str j => some (.fz (.bl (!decide (i = j))))
  | .bl i, .bl j => some (.fz (.bl (!decide (i = j))))
  | .non, .non => some (.fz (.bl false))
  | .non, .int _ => some (.fz (.bl true))
  | .int _, .non => some (.fz (.bl true))
  | .non, .str _ => some (.fz (.bl true))
  | .str _, .non => some (.fz (.bl true))
  | .int _, .str _ => some (.fz (.bl true))
  | .str _, .int _ => some (.fz (.bl true))
  | _, _ => none
theorem r_eq : R2S k rEq oEq := by
  intro R H x y t u Q i hx hy hw
  obtain ⟨z, hz, hw⟩ := hw
  cases t <;> cases u <;> first
    | (cases hz; done)
    | (cases hz
       first | (rw [hx.int]) | (rw [hx.str]) | (rw [hx.bl]) | (rw [hx.non])
       first | (rw [hy.int]) | (rw [hy.str]) | (rw [hy.bl]) | (rw [hy.non])
       refine ⟨rfl, WO.here i hw ?_⟩
       first
         | (simp only [V.int.injEq, V.str.injEq, V.bl.injEq, decide_true, decide_false, reduceCtorEq]; exact repx_bl)
         | exact repx_bl)
theorem r_ne : R2S k rNe oNe := by
  intro R H x y t u Q i hx hy hw
  obtain ⟨z, hz, hw⟩ := hw
  cases t <;> cases u <;> first
    | (cases hz; done)
    | (cases hz
       first | (rw [hx.int]) | (rw [hx.str]) | (rw [hx.bl]) | (rw [hx.non])
       first | (rw [hy.int]) | (rw [hy.str]) | (rw [hy.bl]) | (rw [hy.non])
       refine ⟨rfl, WO.here i hw ?_⟩
       first
         | (simp only [V.int.injEq, V.str.injEq, V.bl.injEq, decide_true, decide_false, reduceCtorEq, Bool.not_true, Bool.not_false]; exact repx_bl)
         | exact repx_bl)
noncomputable def oAddS : T → T → Option XV
  | .str x, .str y => if x.length + y.length ≤ sizeLine then some (.fz (.str (x ++ y))) else none
  | _, _ => none
theorem r_addS : R2S k (fun x y H Q => ∃ i j, x = .str i ∧ y = .str j ∧ i.length + j.length ≤ sizeLine ∧ Q (.str (i ++ j)) H) oAddS := by
  intro R H x y t u Q i hx hy hw
  obtain ⟨z, hz, hw⟩ := hw
  cases t with
  | str a =>
    cases u with
    | str b =>
      have hz : (if a.length + b.length ≤ sizeLine then some (XV.fz (.str (a ++ b))) else none) = some z := hz
      split at hz
      · rename_i hc
        cases hz; exact ⟨a, b, hx.str, hy.str, hc, WO.here i hw repx_str⟩
      · cases hz
    | _ => cases hz
  | _ => cases hz
noncomputable def oMulS : T → T → Option XV
  | .str x, .int n => if x.length ≤ 1000 ∧ n ≤ 1000 ∧ -1000 ≤ n then some (.fz (.str (Txt.mul x n))) else none
  | _, _ => none
theorem r_mulS : R2S k (fun x y H Q => ∃ z n, x = .str z ∧ y = .int n ∧ z.length ≤ 1000 ∧ n ≤ 1000 ∧ -1000 ≤ n ∧ Q (.str (Txt.mul z n)) H) oMulS := by
  intro R H x y t u Q i hx hy hw
  obtain ⟨z, hz, hw⟩ := hw
  cases t with
  | str a =>
    cases u with
    | int b =>
      have hz : (if a.length ≤ 1000 ∧ b ≤ 1000 ∧ -1000 ≤ b then some (XV.fz (.str (Txt.mul a b))) else none) = some z := hz
      split at hz
      · rename_i hc
        cases hz; exact ⟨a, b, hx.str, hy.int, hc.1, hc.2.1, hc.2.2, WO.here i hw repx_str⟩
      · cases hz
    | _ => cases hz
  | _ => cases hz
noncomputable def hasT (z x : Str) : Bool := !(Builtin.Str.occurrences z x 0 z.length 1).isEmpty
noncomputable def oInS : T → T → Option XV
  | .str x, .str y => some (.fz (.bl (hasT y x)))
  | _, _ => none
theorem r_inS : R2S k (fun x y H Q => ∃ i j, x = .str i ∧ y = .str j ∧ Q (.bl (!(Builtin.Str.occurrences j i 0 j.length 1).isEmpty)) H) oInS := by
  intro R H x y t u Q i hx hy hw
  obtain ⟨z, hz, hw⟩ := hw
  cases t with
  | str a =>
    cases u with
    | str b => cases hz; exact ⟨a, b, hx.str, hy.str, WO.here i hw repx_bl⟩
    | _ => cases hz
  | _ => cases hz
noncomputable def oSlS : T → Option Int → Option Int → Option XV
  | .str x, lo, hi => if x.length ≤ sizeLine then some (.fz (.str (Txt.slice x lo hi))) else none
  | _, _, _ => none
theorem r_slS : SlS k rSlS oSlS := by
  intro R H x t lo hi Q i hx hw
  obtain ⟨z, hz, hw⟩ := hw
  cases t with
  | str a =>
    have hz : (if a.length ≤ sizeLine then some (XV.fz (.str (Txt.slice a lo hi))) else none) = some z := hz
    split at hz
    · rename_i hc
      cases hz; exact ⟨a, hx.str, hc, WO.here i hw repx_str⟩
    · cases hz
  | _ => cases hz
theorem at_rep {R : Hp} {ts : List T} {us : List V} {n : Int} {t : T} (r : Reps k R ts us) (h : atI ts n = some t) : ∃ u, atI us n = some u ∧ Rep k R t u := by
  unfold atI at h ⊢
  rw [← r.length]
  obtain ⟨j, h1, h2⟩ := Option.bind_eq_some_iff.mp h
  obtain ⟨u, h3, h4⟩ := r.get h2
  exact ⟨u, by rw [h1]; exact h3, h4⟩
noncomputable def oIxL : T → T → Option XV
  | .lst ts, .int n => (atI ts n).bind fun t => some (.fz t)
  | _, _ => none
noncomputable def oIxT : T → T → Option XV
  | .tup ts, .int n => (atI ts n).bind fun t => some (.fz t)
  | _, _ => none
noncomputable def oIxS : T → T → Option XV
  | .str x, .int n => if x.length ≤ sizeLine then (atI x.cps.toList n).bind fun c => some (.fz (.str ⟨#[c]⟩)) else none
  | _, _ => none
theorem r_ixL : R2S k (rIxL k.K) oIxL := by
  intro R H x y t u Q i hx hy hw
  obtain ⟨z, hz, hw⟩ := hw
  cases t with
  | lst ts =>
    cases u with
    | int n =>
      obtain ⟨t, h1, h2⟩ := Option.bind_eq_some_iff.mp hz
      cases h2
      obtain ⟨p, us, h3, h4, h5⟩ := hx.lst i
      obtain ⟨v, h6, h7⟩ := at_rep h5 h1
      exact ⟨p, us, n, v, h3, hy.int, h4, h6, WO.here i hw (repx_fz h7)⟩
    | _ => cases hz
  | _ => cases hz
theorem r_ixT : R2S k (rIxT k.K) oIxT := by
  intro R H x y t u Q i hx hy hw
  obtain ⟨z, hz, hw⟩ := hw
  cases t with
  | tup ts =>
    cases u with
    | int n =>
      obtain ⟨t, h1, h2⟩ := Option.bind_eq_some_iff.mp hz
      cases h2
      obtain ⟨p, us, h3, h4, h5⟩ := hx.tup i
      obtain ⟨v, h6, h7⟩ := at_rep h5 h1
      exact ⟨p, us, n, v, h3, hy.int, h4, h6, WO.here i hw (repx_fz h7)⟩
    | _ => cases hz
  | _ => cases hz
theorem r_ixS : R2S k rIxS oIxS := by
  intro R H x y t u Q i hx hy hw
  obtain ⟨z, hz, hw⟩ := hw
  cases t with
  | str ts =>
    cases u with
    | int n =>
      have hz : (if ts.length ≤ sizeLine then (atI ts.cps.toList n).bind fun c => some (XV.fz (.str ⟨#[c]⟩)) else none) = some z := hz
      split at hz
      · rename_i hl
        obtain ⟨c, h1, h2⟩ := Option.bind_eq_some_iff.mp hz
        cases h2
        exact ⟨ts, n, c, hx.str, hy.int, hl, h1, WO.here i hw repx_str⟩
      · cases hz
    | _ => cases hz
  | _ => cases hz
noncomputable def cutT (ts : List T) (lo hi : Option Int) : List T := (ts.drop (HT.sIx ts.length 0 lo)).take (HT.sIx ts.length ts.length hi - HT.sIx ts.length 0 lo)
theorem cut_rep {R : Hp} {ts : List T} {us : List V} {lo hi : Option Int} (r : Reps k R ts us) : Reps k R (cutT ts lo hi) (cutV us lo hi) := by
  unfold cutT cutV
  rw [← r.length]
  exact (r.drop _).take _
noncomputable def oSlL : T → Option Int → Option Int → Option XV
  | .lst ts, lo, hi => some (.ow (.l (cutT ts lo hi)))
  | _, _, _ => none
theorem r_slL : SlS k (rSlL k.K) oSlL := by
  intro R H x t lo hi Q i hx hw
  obtain ⟨z, hz, hw⟩ := hw
  cases t with
  | lst ts =>
    cases hz
    obtain ⟨p, us, h3, h4, h5⟩ := hx.lst i
    refine ⟨p, us, h3, h4, fun q hq => hw _ _ _ ((Ext.refl i).new hq) ⟨q, rfl, hq, i.free hq, _, upd_same, cut_rep h5⟩⟩
  | _ => cases hz
noncomputable def oSlT : T → Option Int → Option Int → Option XV
  | .tup ts, lo, hi => if HT.sIx ts.length 0 lo = 0 ∧ HT.sIx ts.length ts.length hi = ts.length then none else some (.fz (.tup (cutT ts lo hi)))
  | _, _, _ => none
theorem r_slT : SlS k (rSlT k.K) oSlT := by
  intro R H x t lo hi Q i hx hw
  obtain ⟨z, hz, hw⟩ := hw
  cases t with
  | tup ts =>
    have hz : (if HT.sIx ts.length 0 lo = 0 ∧ HT.sIx ts.length ts.length hi = ts.length then none else some (XV.fz (.tup (cutT ts lo hi)))) = some z := hz
    split at hz
    · cases hz
    · rename_i hn
      cases hz
      obtain ⟨p, us, h3, h4, h5⟩ := hx.tup i
      refine ⟨p, us, h3, h4, by rw [← h5.length]; exact hn, fun q hq => hw _ _ _ ((Ext.refl i).newFz hq) ?_⟩
      exact repx_fz (rep_tup (SqT.of upd_same) ((cut_rep h5).mono (same_upd0 (i.free hq))))
  | _ => cases hz
theorem vws1 {R H : Hp} {vs : List V} {t : T} (h : Vws k R H vs [t]) : ∃ v, vs = [v] ∧ Vw k R H v t := by
  cases h with
  | cons a b => cases b; exact ⟨_, rfl, a⟩
noncomputable def oLen : List T → Option XV
  | [.lst ts] => some (.fz (.int ts.length))
  | [.tup ts] => some (.fz (.int ts.length))
  | _ => none
theorem r_len : RnS k (fun xs H Q => ∃ p ys, xs = [.ref p] ∧ (SqL k.K H p ys ∨ SqT k.K H p ys) ∧ Q (.int ys.length) H) oLen := by
  intro R H vs ts Q i hx hw
  obtain ⟨z, hz, hw⟩ := hw
  match ts, hz with
  | [.lst ts], hz =>
    cases hz
    obtain ⟨v, rfl, hv⟩ := vws1 hx
    obtain ⟨p, us, rfl, h4, h5⟩ := hv.lst i
    exact ⟨p, us, rfl, .inl h4, WO.here i hw (by rw [h5.length]; exact repx_int)⟩
  | [.tup ts], hz =>
    cases hz
    obtain ⟨v, rfl, hv⟩ := vws1 hx
    obtain ⟨p, us, rfl, h4, h5⟩ := hv.tup i
    exact ⟨p, us, rfl, .inr h4, WO.here i hw (by rw [h5.length]; exact repx_int)⟩
noncomputable def oLenS : List T → Option XV
  | [.str x] => if x.length ≤ sizeLine then some (.fz (.int x.length)) else none
  | _ => none
theorem r_lenS : RnS k (fun xs H Q => ∃ z, xs = [.str z] ∧ z.length ≤ sizeLine ∧ Q (.int z.length) H) oLenS := by
  intro R H vs ts Q i hx hw
  obtain ⟨z, hz, hw⟩ := hw
  match ts, hz with
  | [.str x], hz =>
    have hz : (if x.length ≤ sizeLine then some (XV.fz (.int x.length)) else none) = some z := hz
    split at hz
    · rename_i hl
      cases hz
      obtain ⟨v, rfl, hv⟩ := vws1 hx
      exact ⟨x, by rw [hv.str], hl, WO.here i hw repx_int⟩
    · cases hz
noncomputable def oTuple : List T → Option XV
  | [.lst ts] => some (.fz (.tup ts))
  | [.tup ts] => some (.fz (.tup ts))
  | _ => none
theorem r_tuple : RnS k (fun xs H Q => ∃ p ys, xs = [.ref p] ∧ ((SqL k.K H p ys ∧ ∀ l, H l = none → Q (.ref l) (upd H l (.tup ys))) ∨ (SqT k.K H p ys ∧ Q (.ref p) H))) oTuple := by
  intro R H vs ts Q i hx hw
  obtain ⟨z, hz, hw⟩ := hw
  match ts, hz with
  | [.lst ts], hz =>
    cases hz
    obtain ⟨v, rfl, hv⟩ := vws1 hx
    obtain ⟨p, us, rfl, h4, h5⟩ := hv.lst i
    exact ⟨p, us, rfl, .inl ⟨h4, fun q hq => hw _ _ _ ((Ext.refl i).newFz hq) (repx_fz (rep_tup (SqT.of upd_same) (h5.mono (same_upd0 (i.free hq)))))⟩⟩
  | [.tup ts], hz =>
    cases hz
    obtain ⟨v, rfl, hv⟩ := vws1 hx
    obtain ⟨p, us, rfl, h4, h5⟩ := hv.tup i
    refine ⟨p, us, rfl, .inr ⟨h4, WO.here i hw (repx_fz ?_)⟩⟩
    rcases hv with hv | ⟨p, o, h1, h2, h3⟩
    · exact hv
    · cases o <;> cases h3
noncomputable def boolsT : List T → Option (List Bool)
  | [] => some []
  | .bl b :: ts => (boolsT ts).bind fun bs => some (b :: bs)
  | _ => none
theorem bools_rep {R : Hp} : ∀ {ts : List T} {us : List V} {bs : List Bool}, Reps k R ts us → boolsT ts = some bs → us = bs.map V.bl
  | [], us, bs, r, e => by cases e; unfold Reps at r; exact r
  | t :: ts, us, bs, r, e => by
    unfold Reps at r
    obtain ⟨u, us', rfl, h1, h2⟩ := r
    cases t with
    | bl b =>
      obtain ⟨bs', h3, h4⟩ := Option.bind_eq_some_iff.mp (show (boolsT ts).bind (fun bs => some (b :: bs)) = some bs from e)
      cases h4
      rw [h1.bl, bools_rep h2 h3]
      rfl
    | _ => cases e
noncomputable def oAll : List T → Option XV
  | [.lst ts] => (boolsT ts).bind fun bs => some (.fz (.bl (bs.all id)))
  | _ => none
theorem r_all : RnS k (fun xs H Q => ∃ (p : Addr) (bs : List Bool), xs = [.ref p] ∧ SqL k.K H p (bs.map V.bl) ∧ Q (.bl (bs.all id)) H) oAll := by
  intro R H vs ts Q i hx hw
  obtain ⟨z, hz, hw⟩ := hw
  match ts, hz with
  | [.lst ts], hz =>
    obtain ⟨bs, h1, h2⟩ := Option.bind_eq_some_iff.mp hz
    cases h2
    obtain ⟨v, rfl, hv⟩ := vws1 hx
    obtain ⟨p, us, rfl, h4, h5⟩ := hv.lst i
    have := bools_rep h5 h1
    subst this
    exact ⟨p, bs, rfl, h4, WO.here i hw repx_bl⟩
noncomputable def oInt : List T → Option XV
  | [.int i] => some (.fz (.int i))
  | [.bl b] => some (.fz (.int (if b = true then 1 else 0)))
  | _ => none
theorem r_int : RnS k (fun xs H Q => (∃ i, xs = [.int i] ∧ Q (.int i) H) ∨ ∃ k, xs = [.bl k] ∧ Q (.int (if k then 1 else 0)) H) oInt := by
  intro R H vs ts Q i hx hw
  obtain ⟨z, hz, hw⟩ := hw
  match ts, hz with
  | [.int a], hz =>
    cases hz
    obtain ⟨v, rfl, hv⟩ := vws1 hx
    exact .inl ⟨a, by rw [hv.int], WO.here i hw repx_int⟩
  | [.bl a], hz =>
    cases hz
    obtain ⟨v, rfl, hv⟩ := vws1 hx
    exact .inr ⟨a, by rw [hv.bl], WO.here i hw repx_int⟩
noncomputable def strsT : List T → Option (List Str)
  | [] => some []
  | .str b :: ts => (strsT ts).bind fun bs => some (b :: bs)
  | _ => none
theorem strs_rep {R : Hp} : ∀ {ts : List T} {us : List V} {bs : List Str}, Reps k R ts us → strsT ts = some bs → us = bs.map V.str
  | [], us, bs, r, e => by cases e; unfold Reps at r; exact r
  | t :: ts, us, bs, r, e => by
    unfold Reps at r
    obtain ⟨u, us', rfl, h1, h2⟩ := r
    cases t with
    | str b =>
      obtain ⟨bs', h3, h4⟩ := Option.bind_eq_some_iff.mp (show (strsT ts).bind (fun bs => some (b :: bs)) = some bs from e)
      cases h4
      rw [h1.str, strs_rep h2 h3]
      rfl
    | _ => cases e
noncomputable def oJoin : T → List T → Option XV
  | .str z, [.lst ts] => (strsT ts).bind fun ys => if (ys.map (·.length)).sum + ys.length * z.length ≤ 16777216 then some (.fz (.str (Txt.join z ys))) else none
  | _, _ => none
theorem r_join : MtS k (rJoin k.K) oJoin := by
  intro R H x t vs ts Q i hx hv hw
  obtain ⟨z, hz, hw⟩ := hw
  match t, ts, hz with
  | .str y, [.lst ts], hz =>
    obtain ⟨ys, h1, h2⟩ := Option.bind_eq_some_iff.mp hz
    split at h2
    · rename_i hl
      cases h2
      obtain ⟨v, rfl, hv2⟩ := vws1 hv
      obtain ⟨p, us, rfl, h4, h5⟩ := hv2.lst i
      have := strs_rep h5 h1
      subst this
      exact ⟨y, p, ys, hx.str, rfl, h4, hl, WO.here i hw repx_str⟩
    · cases h2
noncomputable def T.flat : T → Bool
  | .non => true
  | .bl _ => true
  | .int _ => true
  | .str _ => true
  | _ => false
noncomputable def eqF : T → T → Bool
  | .non, .non => true
  | .bl a, .bl b => a == b
  | .bl a, .int b => (if a then 1 else 0) == b
  | .int a, .bl b => a == (if b then 1 else 0)
  | .int a, .int b => a == b
  | .str a, .str b => a == b
  | _, _ => false
theorem flat_rep {R : Hp} {t : T} {v : V} (h : Rep k R t v) (e : t.flat = true) : flatV v = true ∧ ∀ u w, Rep k R u w → u.flat = true → eqV w v = eqF u t := by
  refine ⟨?_, fun u w hw eu => ?_⟩
  · cases t with
    | non => rw [h.non]; rfl
    | bl b => rw [h.bl]; rfl
    | int b => rw [h.int]; rfl
    | str b => rw [h.str]; rfl
    | _ => cases e
  · cases t <;> first | (cases e; done) | skip
    all_goals (cases u <;> first | (cases eu; done) | skip)
    all_goals (first | rw [h.non] | rw [h.bl] | rw [h.int] | rw [h.str])
    all_goals (first | rw [hw.non] | rw [hw.bl] | rw [hw.int] | rw [hw.str])
    all_goals rfl
theorem flats_rep {R : Hp} {t : T} {v : V} (h : Rep k R t v) (e : t.flat = true) : ∀ {ts : List T} {us : List V}, Reps k R ts us → ts.all T.flat = true → us.all flatV = true ∧ inV v us = ts.any fun u => eqF u t
  | [], us, r, _ => by unfold Reps at r; subst r; exact ⟨rfl, rfl⟩
  | u :: ts, us, r, he => by
    unfold Reps at r
    obtain ⟨w, us', rfl, h1, h2⟩ := r
    rw [List.all_cons, Bool.and_eq_true] at he
    obtain ⟨a, b⟩ := flats_rep h e h2 he.2
    refine ⟨by rw [List.all_cons, (flat_rep h1 he.1).1, a]; rfl, ?_⟩
    unfold inV at b ⊢
    rw [List.any_cons, List.any_cons, b, (flat_rep h e).2 u w h1 he.1]
noncomputable def oIn (neg : Bool) : T → T → Option XV := fun x y =>
  if x.flat = true then (match y with
    | .lst ts => if ts.all T.flat = true then some (.fz (.bl (if neg then !(ts.any fun u => eqF u x) else (ts.any fun u => eqF u x)))) else none
    | .tup ts => if ts.all T.flat = true then some (.fz (.bl (if neg then !(ts.any fun u => eqF u x) else (ts.any fun u => eqF u x)))) else none
    | _ => none) else none
theorem Vw.flat {R H : Hp} {v : V} {t : T} (h : Vw k R H v t) (e : t.flat = true) : Rep k R t v := by
  rcases h with h | ⟨p, o, h1, h2, h3⟩
  · exact h
  · cases o <;> (subst h3; cases e)
theorem r_in {neg : Bool} : R2S k (rIn k.K neg) (oIn neg) := by
  intro R H x y t u Q i hx hy hw
  obtain ⟨z, hz, hw⟩ := hw
  unfold oIn at hz
  split at hz
  · rename_i ht
    have hx' := hx.flat ht
    split at hz
    · rename_i ts
      split at hz
      · rename_i hs
        cases hz
        obtain ⟨p, us, rfl, h4, h5⟩ := hy.lst i
        obtain ⟨a, b⟩ := flats_rep hx' ht h5 hs
        exact ⟨p, us, rfl, .inl h4, (flat_rep hx' ht).1, a, WO.here i hw (by rw [b]; exact repx_bl)⟩
      · cases hz
    · rename_i ts
      split at hz
      · rename_i hs
        cases hz
        obtain ⟨p, us, rfl, h4, h5⟩ := hy.tup i
        obtain ⟨a, b⟩ := flats_rep hx' ht h5 hs
        exact ⟨p, us, rfl, .inr h4, (flat_rep hx' ht).1, a, WO.here i hw (by rw [b]; exact repx_bl)⟩
      · cases hz
    · cases hz
  · cases hz
end
end Mr
set_option Elab.async false
set_option linter.all false
set_option maxRecDepth 100000
set_option maxHeartbeats 4000000
namespace L2
open PySem PySem.W
noncomputable def rSplit : V → List V → Hp → VK → Prop := fun x vs H Q => ∃ z y, x = .str z ∧ vs = [.str y] ∧ (y.length == 0) = false ∧ z.length + 2 ≤ sizeLine ∧ ∀ p, H p = none → Q (.ref p) (upd H p (.lst ((Txt.split z y).map V.str)))
noncomputable def rInsert : V → List V → Hp → VK → Prop := fun x vs H Q => ∃ l xs i y, x = .ref l ∧ vs = [.int i, y] ∧ H l = some (.lst xs) ∧ 0 ≤ i ∧ i < 2 ^ 62 ∧ xs.length < sizeLine ∧ Q .non (upd H l (.lst (xs.take i.toNat ++ y :: xs.drop i.toNat)))
noncomputable abbrev TFs := St → Hp → Str → (Str → Hp → Prop) → Prop
noncomputable def tFNil : TFs := fun _ H acc Q => Q acc H
noncomputable def tFCons (te : TE) (rest : TFs) : TFs := fun σ H acc Q => te σ H fun x H1 => ∃ y, x = .str y ∧ (acc ++ y).length ≤ sizeLine ∧ rest σ H1 (acc ++ y) Q
noncomputable def tFstr (ts : TFs) : TE := fun σ H Q => ts σ H Str.empty fun out H1 => out.length ≤ sizeLine ∧ Q (.str out) H1
noncomputable def rFmtS : V → Hp → VK → Prop := fun x H Q => ∃ z, x = .str z ∧ z.length ≤ sizeLine ∧ Q (.str z) H
noncomputable def rFmtR : V → Hp → VK → Prop := fun x H Q => ∃ z, x = .str z ∧ (PySem.reprText z).length ≤ sizeLine ∧ Q (.str (PySem.reprText z)) H
def IsT (K : Frag) (H : Hp) (x : V) (n : String) : Prop := match x with
  | .non => n = "NoneType"
  | .bl _ => n = "bool"
  | .int _ => n = "int"
  | .str _ => n = "str"
  | .ref p => (n = "list" ∧ ∃ us, SqL K H p us) ∨ (n = "tuple" ∧ ∃ us, SqT K H p us) ∨ (n = "dict" ∧ ∃ kvs, Rd H p (.dK kvs))
  | _ => False
noncomputable def rIsT (K : Frag) : List V → Hp → VK → Prop := fun xs H Q => ∃ x cn tn b, xs = [x, .ty cn] ∧ IsT K H x tn ∧ kitOne K (.type tn) (.type cn) = some b ∧ Q (.bl b) H
noncomputable def Itd (a : Addr) (o : Obj) : It := ⟨fun i H => ∃ kvs, H a = some (.frz o (.dK kvs)) ∧ i < kvs.length, fun i H x H' => H' = H ∧ ∀ kvs, H a = some (.frz o (.dK kvs)) → ∃ kv, kvs[i]? = some kv ∧ x = kV kv.1, fun i H => ∃ kvs, H a = some (.frz o (.dK kvs)) ∧ kvs.length ≤ i⟩
noncomputable def iDict (tl : TE) : TI := fun σ H R => tl σ H fun x H1 => ∃ a o kvs, x = .ref a ∧ H1 a = some (.frz o (.dK kvs)) ∧ R (Itd a o) H1
end L2
namespace Mr
open PySem L2 PySem.W

section
variable {k : Ks} {Ex : St → XK}
theorem ss_setC {i n : Nat} {wi : TI} {g : TG} {tt : TT} {te : TE} {me : ME} (h : SE k Ex (tComp n wi g tt te) me) : SS k Ex (tSetComp i n wi g tt te) (mSet i me) := ss_set h
theorem reps_strs {R : Hp} : ∀ ys : List Str, Reps k R (ys.map T.str) (ys.map V.str)
  | [] => Reps.nil
  | y :: ys => Reps.cons rep_str (reps_strs ys)
noncomputable def oSplit : T → List T → Option XV
  | .str z, [.str y] => if (y.length == 0) = false ∧ z.length + 2 ≤ sizeLine then some (.ow (.l ((Txt.split z y).map T.str))) else none
  | _, _ => none
theorem r_split : MtS k rSplit oSplit := by
  intro R H x t vs ts Q i hx hv hw
  obtain ⟨z, hz, hw⟩ := hw
  match t, ts, hz with
  | .str a, [.str b], hz =>
    have hz : (if (b.length == 0) = false ∧ a.length + 2 ≤ sizeLine then some (XV.ow (.l ((Txt.split a b).map T.str))) else none) = some z := hz
    split at hz
    · rename_i hl
      cases hz
      obtain ⟨v, rfl, hv2⟩ := vws1 hv
      exact ⟨a, b, hx.str, by rw [hv2.str], hl.1, hl.2, fun p hp => hw _ _ _ ((Ext.refl i).new hp) ⟨p, rfl, hp, i.free hp, _, upd_same, reps_strs _⟩⟩
    · cases hz
noncomputable def uappend : List T → List T → Option (List T) := fun ts ss => match ss with | [t] => if ts.length < sizeLine then some (ts ++ [t]) else none | _ => none
noncomputable def uinsert : List T → List T → Option (List T) := fun ts ss => match ss with | [.int i, t] => if 0 ≤ i ∧ i < 2 ^ 62 ∧ ts.length < sizeLine then some (ts.take i.toNat ++ t :: ts.drop i.toNat) else none | _ => none
theorem mu_insert : MutL rInsert uinsert := by
  intro k R p us vs ts ss ts' H Q h1 h2 h3 hg hq
  unfold uinsert at hg
  split at hg
  · rename_i i t
    unfold Reps at h3
    obtain ⟨u, r, rfl, h4, h5⟩ := h3
    unfold Reps at h5
    obtain ⟨u', r, rfl, h6, h7⟩ := h5
    unfold Reps at h7
    subst h7
    split at hg
    · rename_i hc
      cases hg
      refine ⟨p, us, i, u', rfl, by rw [h4.int], h1, hc.1, hc.2.1, by rw [← h2.length]; exact hc.2.2, hq _ _ ?_⟩
      exact (h2.take _).append (Reps.cons h6 (h2.drop _))
    · cases hg
  · cases hg
noncomputable def keyT : Key → T
  | .inl i => .int i
  | .inr x => .str x
theorem rep_key {R : Hp} (q : Key) : Rep k R (keyT q) (kV q) := by
  cases q with
  | inl i => exact rep_int
  | inr x => exact rep_str
theorem reps_keys {R : Hp} : ∀ {ks : List Key} {us : List V}, us.length = ks.length → Reps k R (ks.map keyT) ((ks.zip us).map fun kv => kV kv.1)
  | [], us, h => Reps.nil
  | q :: ks, [], h => by simp at h
  | q :: ks, u :: us, h => Reps.cons (rep_key q) (reps_keys (by simpa using h))
noncomputable abbrev MF := En → Str → Rs Str
structure SF (k : Ks) (Ex : St → XK) (tf : TFs) (mf : MF) : Prop where
  run : ∀ {R0 H0 R : Hp} {σ : St} {ρ : En} {H : Hp} {acc : Str} {Q : Str → Hp → Prop}, RSt k R0 H0 R σ ρ H → (mf ρ acc).holds (fun o => ∀ R' H', Ext R H R' H' → Q o H') (Err k Ex σ H) → tf σ H acc Q
noncomputable def mFNil : MF := fun _ acc => .ok acc
noncomputable def mFCons (a : ME) (b : MF) : MF := fun ρ acc => (a ρ).bind fun x => match x.t with
  | .str y => if (acc ++ y).length ≤ sizeLine then b ρ (acc ++ y) else .no
  | _ => .no
noncomputable def mF (b : MF) : ME := fun ρ => (b ρ Str.empty).bind fun out => if out.length ≤ sizeLine then .ok (.fz (.str out)) else .no
theorem sf_nil : SF k Ex tFNil mFNil := by
  constructor
  intro R0 H0 R σ ρ H acc Q I h
  exact h R H (Ext.refl I.i)
theorem sf_cons {te : TE} {tf : TFs} {me : ME} {mf : MF} (he : SE k Ex te me) (hf : SF k Ex tf mf) : SF k Ex (tFCons te tf) (mFCons me mf) := by
  constructor
  intro R0 H0 R σ ρ H acc Q I h
  refine he.run I (Rs.holds_mono (Rs.holds_bind h) (fun x _ hx => ?_) fun c z => z)
  intro R1 H1 v e1 r1
  have w := r1.vw
  cases hx' : x.t with
  | str y =>
    rw [hx'] at hx w
    dsimp only at hx
    split at hx
    · rename_i hl
      exact ⟨y, w.str, hl, hf.run (I.step e1) (Rs.holds_mono hx (fun o _ ho R2 H2 e2 => ho R2 H2 (e1.trans e2)) fun c z => z.mono e1.h)⟩
    · exact hx.elim
  | _ => rw [hx'] at hx; exact hx.elim
theorem se_fstr {tf : TFs} {mf : MF} (hf : SF k Ex tf mf) : SE k Ex (tFstr tf) (mF mf) := by
  constructor
  intro R0 H0 R σ ρ H Q I h
  refine hf.run I (Rs.holds_mono (Rs.holds_bind h) (fun out _ ho R1 H1 e1 => ?_) fun c z => z)
  split at ho
  · rename_i hl
    exact ⟨hl, ho R1 H1 _ e1 repx_str⟩
  · exact ho.elim
noncomputable def oFmtS : T → Option XV
  | .str z => if z.length ≤ sizeLine then some (.fz (.str z)) else none
  | _ => none
theorem r_fmtS : R1S k rFmtS oFmtS := by
  intro R H x t Q i hx hw
  obtain ⟨z, hz, hw⟩ := hw
  cases t with
  | str a =>
    have hz : (if a.length ≤ sizeLine then some (XV.fz (.str a)) else none) = some z := hz
    split at hz
    · rename_i hl; cases hz; exact ⟨a, hx.str, hl, WO.here i hw repx_str⟩
    · cases hz
  | _ => cases hz
noncomputable def oFmtR : T → Option XV
  | .str z => if (PySem.reprText z).length ≤ sizeLine then some (.fz (.str (PySem.reprText z))) else none
  | _ => none
theorem r_fmtR : R1S k rFmtR oFmtR := by
  intro R H x t Q i hx hw
  obtain ⟨z, hz, hw⟩ := hw
  cases t with
  | str a =>
    have hz : (if (PySem.reprText a).length ≤ sizeLine then some (XV.fz (.str (PySem.reprText a))) else none) = some z := hz
    split at hz
    · rename_i hl; cases hz; exact ⟨a, hx.str, hl, WO.here i hw repx_str⟩
    · cases hz
  | _ => cases hz
noncomputable def tyN : T → Option String
  | .non => some "NoneType"
  | .bl _ => some "bool"
  | .int _ => some "int"
  | .str _ => some "str"
  | .lst _ => some "list"
  | .tup _ => some "tuple"
  | .dct _ _ _ => some "dict"
  | _ => none
noncomputable def isT (c : String) (t : T) : Option Bool := (tyN t).bind fun n => some (decide (n = c) || (decide (n = "bool") && decide (c = "int")))
theorem isT_rep {R H : Hp} {v : V} {t : T} {n : String} (i : Same R H) (h : Vw k R H v t) (e : tyN t = some n) : IsT k.K H v n := by
  cases t with
  | non => cases e; rw [h.non]; rfl
  | bl b => cases e; rw [h.bl]; rfl
  | int b => cases e; rw [h.int]; rfl
  | str b => cases e; rw [h.str]; rfl
  | lst ts => cases e; obtain ⟨p, us, rfl, h4, h5⟩ := h.lst i; exact .inl ⟨rfl, us, h4⟩
  | tup ts => cases e; obtain ⟨p, us, rfl, h4, h5⟩ := h.tup i; exact .inr (.inl ⟨rfl, us, h4⟩)
  | dct fr ks ts => cases e; obtain ⟨p, us, rfl, h4, h5⟩ := h.dct i; exact .inr (.inr ⟨rfl, _, h4.rd⟩)
  | exc c => cases e
noncomputable def mIsI (f : T → Option Bool) (a : ME) : ME := fun ρ => (a ρ).bind fun x => .ofO ((f x.t).bind fun b => some (.fz (.bl b)))
def KitOk (K : Frag) (c : String) : Prop := ∀ n, n ∈ ["NoneType", "bool", "int", "str", "list", "tuple", "dict"] → kitOne K (.type n) (.type c) = some (decide (n = c) || (decide (n = "bool") && decide (c = "int")))
theorem tyN_mem {t : T} {n : String} (h : tyN t = some n) : n ∈ ["NoneType", "bool", "int", "str", "list", "tuple", "dict"] := by
  cases t <;> cases h <;> simp
theorem se_isI {c : String} {te : TE} {me : ME} (hk : KitOk k.K c) (he : SE k Ex te me) : SE k Ex (tCB (rIsT k.K) (tCons te (tCons (tC (.ty c)) tNil))) (mIsI (isT c) me) := by
  constructor
  intro R0 H0 R σ ρ H Q I h
  refine he.run I (Rs.holds_mono (Rs.holds_bind h) (fun x _ hx => ?_) fun c z => z)
  intro R1 H1 v e1 r1
  obtain ⟨z, hz, hw⟩ := holds_ofO hx
  obtain ⟨b, hb, hz⟩ := Option.bind_eq_some_iff.mp hz
  cases hz
  obtain ⟨n, hn, hb⟩ := Option.bind_eq_some_iff.mp hb
  refine ⟨v, c, n, _, rfl, isT_rep e1.i r1.vw hn, hk n (tyN_mem hn), ?_⟩
  cases hb
  exact hw R1 H1 _ e1 repx_bl
noncomputable def mItD (a : ME) : MI := fun ρ => (a ρ).bind fun x => .ofO (match x with | .fz (.dct true ks _) => some (ks.map keyT) | _ => none)
theorem si_dict {te : TE} {me : ME} (he : SE k Ex te me) : SI k Ex (iDict te) (mItD me) := by
  constructor
  intro R0 H0 R σ ρ H Q I h
  refine he.run I (Rs.holds_mono (Rs.holds_bind h) (fun x _ hx => ?_) fun c z => z)
  intro R1 H1 v e1 r1
  obtain ⟨ts, hz, hw⟩ := holds_ofO hx
  have key : ∃ ks ts', x = .fz (.dct true ks ts') ∧ ts = ks.map keyT := by
    cases x with
    | fz t =>
      cases t with
      | dct fr ks ts' =>
        cases fr with
        | true => exact ⟨ks, ts', rfl, (Option.some.inj hz).symm⟩
        | false => cases hz
      | _ => cases hz
    | ow o => cases hz
    | bo o => cases hz
  obtain ⟨ks, ts', rfl, rfl⟩ := key
  have r2 := r1.fzr
  unfold Rep at r2
  obtain ⟨p, us, rfl, ⟨o, h1⟩, h2, h3⟩ := r2
  refine ⟨p, o, _, rfl, e1.i _ _ h1, hw _ R1 H1 e1 fun H' s => ?_⟩
  have h' := s _ _ h1
  have hl : (ks.map keyT).length = (ks.zip us).length := by rw [List.length_map, List.length_zip, h2, Nat.min_self]
  refine ⟨fun i hi => ⟨⟨_, h', by omega⟩, fun x H'' y => ⟨y.1, ?_⟩⟩, ⟨_, h', by omega⟩⟩
  obtain ⟨kv, g1, g2⟩ := y.2 _ h'
  have r := (reps_keys (k := k) (R := R1) h2)
  obtain ⟨t, g3, g4⟩ := r.getV (i := i) (u := x) (by rw [List.getElem?_map, g1, g2]; rfl)
  exact ⟨t, g3, g4⟩
noncomputable def plain : Nat → T → Bool
  | n + 1, .lst ts => ts.all (plain n)
  | n + 1, .tup ts => ts.all (plain n)
  | _, t => t.flat
mutual
noncomputable def eqT : T → T → Bool
  | .lst a, .lst b => eqTs a b
  | .tup a, .tup b => eqTs a b
  | .lst _, _ => false
  | .tup _, _ => false
  | .dct _ _ _, _ => false
  | .exc _, _ => false
  | t, u => eqF t u
noncomputable def eqTs : List T → List T → Bool
  | [], [] => true
  | a :: as, b :: bs => eqT a b && eqTs as bs
  | _, _ => false
end
noncomputable def seq2 : T → T → Bool
  | .lst _, .lst _ => true
  | .tup _, .tup _ => true
  | _, _ => false
noncomputable def rEqD (k : Ks) (neg : Bool) : R2 := fun x y H Q => ∃ t u, Rep k H t x ∧ Rep k H u y ∧ plain 8 t = true ∧ plain 8 u = true ∧ seq2 t u = true ∧ Q (.bl (if neg then !eqT t u else eqT t u)) H
theorem Vw.all {R H : Hp} {v : V} {t : T} (i : Same R H) (h : Vw k R H v t) : Rep k H t v := by
  rcases h with h | ⟨p, o, h1, h2, h3⟩
  · exact h.mono i
  · subst h1 h3; exact h2.rep i rfl
noncomputable def oEqD : T → T → Option XV := fun t u => if plain 8 t = true ∧ plain 8 u = true ∧ seq2 t u = true then some (.fz (.bl (eqT t u))) else none
noncomputable def oNeD : T → T → Option XV := fun t u => if plain 8 t = true ∧ plain 8 u = true ∧ seq2 t u = true then some (.fz (.bl (!eqT t u))) else none
theorem r_eqD : R2S k (rEqD k false) oEqD := by
  intro R H x y t u Q i hx hy hw
  obtain ⟨z, hz, hw⟩ := hw
  unfold oEqD at hz
  split at hz
  · rename_i hc
    cases hz
    exact ⟨t, u, hx.all i, hy.all i, hc.1, hc.2.1, hc.2.2, WO.here i hw repx_bl⟩
  · cases hz
theorem r_neD : R2S k (rEqD k true) oNeD := by
  intro R H x y t u Q i hx hy hw
  obtain ⟨z, hz, hw⟩ := hw
  unfold oNeD at hz
  split at hz
  · rename_i hc
    cases hz
    exact ⟨t, u, hx.all i, hy.all i, hc.1, hc.2.1, hc.2.2, WO.here i hw repx_bl⟩
  · cases hz
noncomputable def rInD (k : Ks) (neg : Bool) : R2 := fun x y H Q => ∃ p us t ts, y = .ref p ∧ (SqL k.K H p us ∨ SqT k.K H p us) ∧ Rep k H t x ∧ Reps k H ts us ∧ plain 8 t = true ∧ ts.all (plain 8) = true ∧ Q (.bl (if neg then !(ts.any fun u => eqT u t) else (ts.any fun u => eqT u t))) H
noncomputable def oInD (neg : Bool) : T → T → Option XV := fun x y =>
  if plain 8 x = true then (match y with
    | .lst ts => if ts.all (plain 8) = true then some (.fz (.bl (if neg then !(ts.any fun u => eqT u x) else (ts.any fun u => eqT u x)))) else none
    | .tup ts => if ts.all (plain 8) = true then some (.fz (.bl (if neg then !(ts.any fun u => eqT u x) else (ts.any fun u => eqT u x)))) else none
    | _ => none) else none
theorem r_inD {neg : Bool} : R2S k (rInD k neg) (oInD neg) := by
  intro R H x y t u Q i hx hy hw
  obtain ⟨z, hz, hw⟩ := hw
  unfold oInD at hz
  split at hz
  · rename_i ht
    split at hz
    · rename_i ts
      split at hz
      · rename_i hs
        cases hz
        obtain ⟨p, us, rfl, h4, h5⟩ := hy.lst i
        exact ⟨p, us, t, ts, rfl, .inl h4, hx.all i, h5.mono i, ht, hs, WO.here i hw repx_bl⟩
      · cases hz
    · rename_i ts
      split at hz
      · rename_i hs
        cases hz
        obtain ⟨p, us, rfl, h4, h5⟩ := hy.tup i
        exact ⟨p, us, t, ts, rfl, .inr h4, hx.all i, h5.mono i, ht, hs, WO.here i hw repx_bl⟩
      · cases hz
    · cases hz
  · cases hz
end
end Mr
set_option Elab.async false
set_option linter.all false
set_option maxRecDepth 100000
set_option maxHeartbeats 4000000
namespace L2
open PySem PySem.Spec PyProof.Rows PySem.W PySem.Builtin PySem.Builtin.Str
section
variable {X : Cx}
theorem vals_strs : ∀ (tk : Nat) (ys : List Str), Vals (ys.map V.str) (strsFrom tk ys)
  | _, [] => .nil
  | tk, y :: ys => .cons ⟨tk, rfl⟩ (vals_strs (tk + 1) ys)
theorem mt_split : MtR X "str.split" rSplit := by
  intro pins s σ H x vs v us Q I rx rv h
  obtain ⟨z, y, rfl, rfl, hy, hz, q⟩ := h
  obtain ⟨t, rfl⟩ := rx
  obtain ⟨u, rfl, t', rfl⟩ := vals1 rv
  have hz' : z.length ≤ sizeLine := by omega
  have one : ∀ tk, Inv X pins σ (upd H s.heap.objs.size (.lst [.str z])) { s with heap := s.heap.push { cls := .type "list", data := .seq [Value.str z t].toArray }, toks := tk } := fun tk =>
    I.lnew (t' := tk) (.cons ⟨t, rfl⟩ .nil) (by show 1 ≤ sizeLine; decide)
  cases h1 : (decide (z.length < y.length) || decide (strKind z < strKind y))
  · cases hf : (occurrences z y 0 z.length (z.length + 1)).isEmpty
    · have hp : (partsBetween z (occurrences z y 0 z.length (z.length + 1)) y.length).length ≤ sizeLine := by
        unfold partsBetween
        have := StrLaws.occ_length_le z y 0 z.length (z.length + 1)
        simp only [List.length_map, List.length_zip, List.length_cons, List.length_append, List.length_nil]
        omega
      refine call_meets F.slot_str_split (typeIs_str _ _ _) F.entry_str_split (F.args_str_split_2 _ _) (meets_str_split_sep z y t t' h1 hy hf hz' hp) ?_
      have e : Txt.split z y = partsBetween z (occurrences z y 0 z.length (z.length + 1)) y.length := (if_neg (ne_true_of_eq_false h1)).trans (if_neg (ne_true_of_eq_false hf))
      exact ⟨.ref _, _, I.lnew (vals_strs s.toks _) (by rw [List.length_map]; exact hp), rfl, by rw [← e]; exact q _ I.fresh⟩
    · refine call_meets F.slot_str_split (typeIs_str _ _ _) F.entry_str_split (F.args_str_split_2 _ _) (meets_str_split_not_found z y t t' h1 hy hf) ?_
      have e : Txt.split z y = [z] := (if_neg (ne_true_of_eq_false h1)).trans (if_pos hf)
      have q' := q _ I.fresh
      rw [e] at q'
      exact ⟨.ref _, _, one s.toks, rfl, q'⟩
  · refine call_meets F.slot_str_split (typeIs_str _ _ _) F.entry_str_split (F.args_str_split_2 _ _) (meets_str_split_cannot_occur z y t t' h1) ?_
    have e : Txt.split z y = [z] := if_pos h1
    have q' := q _ I.fresh
    rw [e] at q'
    exact ⟨.ref _, _, one s.toks, rfl, q'⟩
theorem mt_insert : MtM X "list.insert" rInsert := by
  intro pins s σ H x vs v us Q I rx rv h
  obtain ⟨l, xs, i, y, rfl, rfl, hH, h0, h62, hz, q⟩ := h
  cases rx
  obtain ⟨u, w', rfl, ⟨t, rfl⟩, rw'⟩ := vals2 rv
  obtain ⟨z, its, n, r, hl, e⟩ := I.lstM hH
  have hfit : ¬ (!Builtin.List.listFitsIndex i) = true := by
    rw [fitsIndex_both (by omega) (by omega)]; decide
  refine call_meets F.slot_list_insert ⟨_, e, rfl⟩ F.entry_list_insert (F.args_list_insert_3 _ _ _) (AutoSeq1.list_insert_list_int_val_1 l its.toArray n i t w' hfit (by rw [List.size_toArray]; omega)) ⟨e, ?_⟩
  have hv : Vals (xs.take i.toNat ++ y :: xs.drop i.toNat) (its.take i.toNat ++ w' :: its.drop i.toNat) := (Vals.take _ r).append (.cons rw' (Vals.drop _ r))
  refine ⟨.non, _, I.lset (its' := its.take i.toNat ++ w' :: its.drop i.toNat) hH e ?_ hv ?_, rfl, q⟩
  · have hi : ¬ i < 0 := by omega
    simp only [hi, if_false]
    apply Array.ext'
    simp only [Array.toList_append, Array.toList_push, Array.toList_extract, List.append_assoc, List.singleton_append, List.size_toArray]
    simp only [List.extract_eq_take_drop, Nat.sub_zero, List.drop_zero]
    rcases Nat.le_total i.toNat its.length with hle | hle
    · rw [Nat.min_eq_left hle, List.take_of_length_le (l := List.drop i.toNat its) (by rw [List.length_drop] <;> omega)]
    · rw [Nat.min_eq_right hle, List.take_length, List.drop_length, List.take_of_length_le hle, List.drop_eq_nil_of_le hle]
      simp
  · rw [List.length_append, List.length_cons, List.length_take, List.length_drop]
    omega
def PJ (X : Cx) (es : List Expr) (t : TFs) : Prop := ∀ (pins : List (Addr × Obj)) (s : Shared) (σ : St) (H : Hp) (acc : Str) (Q : Str → Hp → Prop), Inv X pins σ H s → t σ H acc Q →
  Joins (model X.prog X.w) X.A X.xe (evalEach es X.env) acc (fun out s1 => ∃ H', Inv X pins σ H' s1 ∧ Q out H') s
theorem joins_mono {M : Model} {A : Around} {E : Value → Shared → Prop} {Q Q' : Str → Shared → Prop} (h : ∀ o s, Q o s → Q' o s) : ∀ {ps : List (Sem Value)} {acc : Str} {s : Shared}, Joins M A E ps acc Q s → Joins M A E ps acc Q' s
  | [], acc, s, j => h _ _ j
  | p :: ps, acc, s, j => wpAny_mono j (fun v s1 ⟨y, t, e, hl, j'⟩ => ⟨y, t, e, hl, joins_mono h j'⟩) fun _ _ z => z
theorem pj_nil : PJ X [] tFNil := fun pins s σ H acc Q I h => ⟨H, I, h⟩
theorem pj_cons {e : Expr} {es : List Expr} {te : TE} {t : TFs} (he : PE X e te) (ht : PJ X es t) : PJ X (e :: es) (tFCons te t) := by
  intro pins s σ H acc Q I h
  show wpAny _ _ (eval e X.env) _ _ s
  refine thn (he pins s σ H _ I h) fun v s1 ⟨x, H1, I1, r, y, hy, hl, q⟩ => ?_
  subst hy
  obtain ⟨t', rfl⟩ := r
  exact ⟨y, t', rfl, hl, ht pins s1 σ H1 _ Q I1 q⟩
theorem pe_fstr {e1 e2 : Expr} {es : List Expr} {t : TFs} {pos : Pos} (h : PJ X (e1 :: e2 :: es) t) : PE X (.JoinedStr (e1 :: e2 :: es) pos) (tFstr t) := by
  intro pins s σ H Q I hw
  refine wpAny_JoinedStr (joins_mono (fun out s1 q => ?_) (h pins s σ H _ _ I hw))
  obtain ⟨H', I', hl, q⟩ := q
  exact ⟨hl, .str out, H', I'.tok _, ⟨_, rfl⟩, q⟩
theorem pe_fmtS {e : Expr} {te : TE} {pos : Pos} (h : PE X e te) : PE X (.FormattedValue e (-1) none pos) (tUn rFmtS te) := by
  intro pins s σ H Q I hw
  refine wpAny_FormattedValue_plain (thn (h pins s σ H _ I hw) fun v s1 ⟨x, H1, I1, r, z, hz, hl, q⟩ => ?_)
  subst hz
  obtain ⟨t', rfl⟩ := r
  exact wpAny_formatField_str ⟨.str z, H1, I1, ⟨t', rfl⟩, q⟩ ⟨.str z, H1, I1.tok _, ⟨_, rfl⟩, q⟩ hl
theorem pe_fmtR {e : Expr} {te : TE} {pos : Pos} (h : PE X e te) : PE X (.FormattedValue e 114 none pos) (tUn rFmtR te) := by
  intro pins s σ H Q I hw
  refine wpAny_FormattedValue_repr (thn (h pins s σ H _ I hw) fun v s1 ⟨x, H1, I1, r, z, hz, hl, q⟩ => ?_)
  subst hz
  obtain ⟨t', rfl⟩ := r
  have hb : (reprText z).length ≤ sizeLine := hl
  refine wpAny_pyReprObj_gives (typeIs_str _ _ _) F.slot_str_repr F.entry_str_repr (F.args_str_repr_1 _) (gives_str_repr z t') ?_ rfl hb
  exact wpAny_formatField_str ⟨.str _, H1, I1.tok _, ⟨_, rfl⟩, q⟩ ⟨.str _, H1, I1.tok _, ⟨_, rfl⟩, q⟩ hb
theorem call_isT : CallR X (.builtin "isinstance") (rIsT X.K) := by
  intro pins s σ H xs us Q I r h
  obtain ⟨x, cn, tn, b, rfl, ty, e, q⟩ := h
  obtain ⟨u, w', rfl, ru, rw'⟩ := vals2 r
  have ew : w' = .type cn := rw'
  subst ew
  have fin : ∀ tk, EP X pins σ Q (.bool b) { s with toks := tk } := fun tk => ⟨.bl b, H, I.tok tk, rfl, q⟩
  cases x with
  | non => cases (show tn = "NoneType" from ty); cases (show u = Value.none from ru); exact kia_one kitx_none I.kIn True.intro e (fun z => nomatch z) fin
  | bl y => cases (show tn = "bool" from ty); cases (show u = Value.bool y from ru); exact kia_one kitx_bool I.kIn True.intro e (fun z => nomatch z) fin
  | int i => cases (show tn = "int" from ty); obtain ⟨t, q⟩ := (show ∃ t, u = Value.int i t from ru); cases q; exact kia_one kitx_int I.kIn True.intro e (fun z => nomatch z) fin
  | str y => cases (show tn = "str" from ty); obtain ⟨t, q⟩ := (show ∃ t, u = Value.str y t from ru); cases q; exact kia_one kitx_str I.kIn True.intro e (fun z => nomatch z) fin
  | ref p =>
    cases (show u = Value.ref p from ru)
    rcases ty with ⟨rfl, us, hq⟩ | ⟨rfl, us, hq⟩ | ⟨rfl, kvs, hq⟩
    · obtain ⟨its, _, ⟨o, n, h1, h2, _⟩, _⟩ := I.list hq
      exact kia_one kitx_list I.kIn ⟨o, h1, h2⟩ e (fun z => nomatch z) fin
    · obtain ⟨its, _, ⟨o, h1, h2, _⟩, _⟩ := I.tuple hq
      exact kia_one kitx_tuple I.kIn ⟨o, h1, h2⟩ e (fun z => nomatch z) fin
    · obtain ⟨_, _, vs, _, o, es, ep, h1, h2, _⟩ := hq.ok I.hok
      exact kia_one kitx_dict I.kIn ⟨o, h1, h2.1⟩ e (fun z => nomatch z) fin
  | _ => exact (show False from ty).elim
end
end L2
set_option Elab.async false
set_option linter.all false
set_option maxRecDepth 100000
set_option maxHeartbeats 4000000
namespace L2
open PySem PySem.Spec PyProof.Rows PySem.W
theorem relV_key {q : Key} {v : Value} (h : keyIs q v = true) : RelV (kV q) v := by
  rcases keyIs_shape h with ⟨i, t, rfl, rfl⟩ | ⟨x, t, rfl, rfl⟩
  · exact ⟨t, rfl⟩
  · exact ⟨t, rfl⟩
theorem kv_at {kvs : List (Key × V)} {vs : List (Key × Value)} (r : KV kvs vs) : ∀ {i : Nat} {p : Key × Value}, vs[i]? = some p → ∃ q : Key × V, kvs[i]? = some q ∧ q.1 = p.1 := by
  unfold KV at r
  induction r with
  | nil => intro i p h; simp at h
  | @cons a b l1 l2 h t ih =>
    intro i p e
    cases i with
    | zero => simp at e; subst e; exact ⟨a, by simp, h.1⟩
    | succ i => obtain ⟨q, h1, h2⟩ := ih (i := i) (p := p) (by simpa using e); exact ⟨q, by simpa using h1, h2⟩
section
variable {X : Cx}
theorem turn_dict {P : Program} {w : World} {K : Frag} {tg : Expr} (a it : Addr) (o : Obj) (n ep : Nat) (hne : a ≠ it) (ho : ∃ es : Array DictEntry, o.data = .dict es ep ∧ es.size = n) :
    Turn P w K tg (Itd a o) [it] it (fun i h => i ≤ n ∧ h.IsKeyIter it a i n ep) where
  mem := by simp
  obj := fun i h st b hb => by
    have e : b = it := by simpa using hb
    subst e
    obtain ⟨_, o, e, c, d⟩ := st
    exact ⟨o, e, fun v z => by rw [d] at z; cases z⟩
  keep := fun i h h' st k => ⟨st.1, st.2.at fun o e => k it (by simp) o e⟩
  item := by
    intro X hP hw hK hc i pins s σ H E I hf st hg
    subst hP hw hK
    obtain ⟨kvs, hH, hi⟩ := hg
    obtain ⟨e0, hz, hS, vs, rk, o', es, ep', e, ex, dt, kk, pp, nd⟩ := I.hok a _ hH
    rw [e0] at e
    cases e
    obtain ⟨es', d1, d2⟩ := ho
    rw [dt] at d1
    cases d1
    have hlen : kvs.length = vs.length := Paired.length rk
    have hn : n = vs.length := by rw [← d2, ← pp.length]; simp
    have hD : s.heap.DictAt (mixKind X.prog X.w) a vs ep := ⟨o, es, e0, ex, dt, kk, pp, nd⟩
    obtain ⟨f0, f1, f2, f3, f4, f5⟩ := hf it (by simp)
    have hit : s.heap.IsKeyIter it a i vs.length ep := hn ▸ st.2
    refine (Walks.dictKeys (knd := mixKind X.prog X.w) (I.ok.hd hc) it a hne vs ep).item i s _ _ (by omega) ⟨hit, hD⟩ fun v h' tk hv st' kk' => ?_
    obtain ⟨k, x, hx, hk⟩ := hv
    obtain ⟨kv, h5, h6⟩ := kv_at rk hx
    have I1 : Inv X pins σ H { s with heap := h', toks := tk } := I.turned (fun b o hb e => kk' b o (by simpa using hb) e) f0 f1 f3 f4 f5
    obtain ⟨oi, ei, ci, di⟩ := id st'.1
    refine ⟨v, rfl, go_of (s := { s with heap := h', toks := tk }) ei ci di (by decide) ⟨kV k, H, I1, relV_key hk, ⟨rfl, fun kvs' hk' => ?_⟩, ⟨by omega, hn ▸ st'.1⟩, fun b hb => (hf b hb).1⟩⟩
    rw [hH] at hk'
    cases hk'
    exact ⟨kv, h5, by rw [h6]⟩
  done := by
    intro X hP hw hK hc i pins s σ H E I hf st hg
    subst hP hw hK
    obtain ⟨kvs, hH, hi⟩ := hg
    obtain ⟨e0, hz, hS, vs, rk, o', es, ep', e, ex, dt, kk, pp, nd⟩ := I.hok a _ hH
    rw [e0] at e
    cases e
    obtain ⟨es', d1, d2⟩ := ho
    rw [dt] at d1
    cases d1
    have hlen : kvs.length = vs.length := Paired.length rk
    have hn : n = vs.length := by rw [← d2, ← pp.length]; simp
    have hD : s.heap.DictAt (mixKind X.prog X.w) a vs ep := ⟨o, es, e0, ex, dt, kk, pp, nd⟩
    obtain ⟨f0, f1, f2, f3, f4, f5⟩ := hf it (by simp)
    have hi' : i = vs.length := by have := st.1; omega
    have hit : s.heap.IsKeyIter it a vs.length vs.length ep := by have := st.2; rw [hi', hn] at this; exact this
    exact (Walks.dictKeys (knd := mixKind X.prog X.w) (I.ok.hd hc) it a hne vs ep).done s _ _ ⟨hit, hD⟩ fun h' tk kk' => ⟨rfl, I.turned (fun b o hb e => kk' b o (by simpa using hb) e) f0 f1 f3 f4 f5⟩
  self := fun _ _ _ _ _ st h => wpAny_pyIter_keyiter st.2 h
theorem pi_dict {tg l : Expr} {tl : TE} (hl : PE X l tl) : PI X tg l (iDict tl) := by
  intro pins s σ H R I h
  refine thn (hl pins s σ H _ I h) fun v s1 ⟨x, H1, I1, r1, q1⟩ => ?_
  obtain ⟨a, o, kvs, e, hH, q⟩ := q1
  subst e
  cases r1
  obtain ⟨e0, hz, hS, vs, rk, o', es, ep', e, ex, dt, kk, pp, nd⟩ := I1.hok a _ hH
  rw [e0] at e
  cases e
  have hD : s1.heap.DictAt (mixKind X.prog X.w) a vs ep' := ⟨o, es, e0, ex, dt, kk, pp, nd⟩
  have hne : a ≠ s1.heap.objs.size := Nat.ne_of_lt (Heap.lt_size e0)
  refine wpAny_pyIter_dict hS hD ?_
  refine ⟨s1.heap.objs.size, [s1.heap.objs.size], _, _, H1, rfl, I1.kept (t' := s1.toks) fun b o e => Heap.get?_push_of_some _ e, turn_dict a _ o vs.length ep' hne ⟨es, dt, ?_⟩, ⟨Nat.zero_le _, _, Heap.get?_push_size _ rfl, rfl, rfl⟩, fun b hb => ?_, q⟩
  · rw [← pp.length]; simp
  · have e : b = s1.heap.objs.size := by simpa using hb
    subst e
    exact I1.fpOk (Nat.le_refl _) (I1.hok.fresh (Nat.le_refl _))
theorem Inv.freeze {pins : List (Addr × Obj)} {σ : St} {H : Hp} {s : Shared} {a : Addr} {kvs : List (Key × V)} (I : Inv X pins σ H s) (h : H a = some (.dK kvs)) : ∃ o, Inv X pins σ (upd H a (.frz o (.dK kvs))) s := by
  obtain ⟨hz, hS, vs, rk, o, es, ep, e, ex, dt, kk, pp, nd⟩ := I.hok a _ h
  have mu : Mut (H a) := by rw [h]; trivial
  refine ⟨o, ?_⟩
  have := I.write (x := a) (e := a) (o := .frz o (.dK kvs)) (h' := s.heap) (t' := s.toks) mu (.inl rfl) (fun _ _ _ q => q) ⟨o, e⟩ (show ObjOk X.prog X.w _ s.heap a (.frz o (.dK kvs)) from ⟨e, hz, hS, vs, rk, o, es, ep, e, ex, dt, kk, pp, nd⟩)
  exact this
end
end L2
set_option Elab.async false
set_option linter.all false
set_option maxRecDepth 100000
set_option maxHeartbeats 4000000
namespace Mr
open PySem PySem.Spec PyProof.Rows PySem.W L2 PySem.SeqAt
noncomputable def at2 (ts ss : List T) (j : Nat) : Bool := match ts[j]?, ss[j]? with
  | some t, some u => eqT t u
  | _, _ => false
theorem all_range_succ (n : Nat) (e : Nat → Bool) : (List.range (n + 1)).all e = (e 0 && (List.range n).all fun j => e (j + 1)) := by
  rw [List.range_succ_eq_map, List.all_cons, List.all_map]
  rfl
theorem eqTs_range : ∀ (ts ss : List T), ts.length = ss.length → eqTs ts ss = (List.range ts.length).all (at2 ts ss)
  | [], [], _ => by unfold eqTs; rfl
  | [], s :: ss, h => by simp at h
  | t :: ts, [], h => by simp at h
  | t :: ts, s :: ss, h => by
    rw [List.length_cons, all_range_succ]
    unfold eqTs
    rw [eqTs_range ts ss (by simpa using h)]
    congr 1
theorem eqTs_len : ∀ (ts ss : List T), ts.length ≠ ss.length → eqTs ts ss = false
  | [], [], h => absurd rfl h
  | [], s :: ss, h => by unfold eqTs; rfl
  | t :: ts, [], h => by unfold eqTs; rfl
  | t :: ts, s :: ss, h => by
    unfold eqTs
    rw [eqTs_len ts ss (by simpa using h), Bool.and_false]
mutual
theorem eqT_refl : ∀ {n : Nat} {t : T}, plain n t = true → eqT t t = true
  | n, .non, h => by unfold eqT; rfl
  | n, .bl b, h => by unfold eqT eqF; simp
  | n, .int b, h => by unfold eqT eqF; simp
  | n, .str b, h => by unfold eqT eqF; simp
  | 0, .lst ts, h => by unfold plain at h; cases h
  | n + 1, .lst ts, h => by
    unfold plain at h
    unfold eqT
    exact eqTs_refl h
  | 0, .tup ts, h => by unfold plain at h; cases h
  | n + 1, .tup ts, h => by
    unfold plain at h
    unfold eqT
    exact eqTs_refl h
  | 0, .dct _ _ _, h => by unfold plain at h; cases h
  | n + 1, .dct _ _ _, h => by unfold plain at h; cases h
  | 0, .exc _, h => by unfold plain at h; cases h
  | n + 1, .exc _, h => by unfold plain at h; cases h
theorem eqTs_refl : ∀ {n : Nat} {ts : List T}, ts.all (plain n) = true → eqTs ts ts = true
  | n, [], h => by unfold eqTs; rfl
  | n, t :: ts, h => by
    rw [List.all_cons, Bool.and_eq_true] at h
    unfold eqTs
    rw [eqT_refl h.1, eqTs_refl h.2]
    rfl
end
theorem eqT_flat {t u : T} (h : t.flat = true) : eqT t u = eqF t u := by
  cases t <;> first | (cases h; done) | (cases u <;> (unfold eqT; rfl))
theorem plain_cases {n : Nat} {t : T} (h : plain n t = true) : t.flat = true ∨ (∃ m ts, n = m + 1 ∧ t = .lst ts ∧ ts.all (plain m) = true) ∨ ∃ m ts, n = m + 1 ∧ t = .tup ts ∧ ts.all (plain m) = true := by
  cases t with
  | non => exact .inl rfl
  | bl b => exact .inl rfl
  | int b => exact .inl rfl
  | str b => exact .inl rfl
  | lst ts => cases n with
    | zero => unfold plain at h; cases h
    | succ m => unfold plain at h; exact .inr (.inl ⟨m, ts, rfl, rfl, h⟩)
  | tup ts => cases n with
    | zero => unfold plain at h; cases h
    | succ m => unfold plain at h; exact .inr (.inr ⟨m, ts, rfl, rfl, h⟩)
  | dct _ _ _ => cases n <;> (unfold plain at h; cases h)
  | exc _ => cases n <;> (unfold plain at h; cases h)
section
variable {k : Ks} {X : Cx} {pins : List (Addr × Obj)} {σ : L2.St} {H : Hp} {s : Shared}
theorem flat_inj {t u : T} {x : V} (ht : t.flat = true) (hu : u.flat = true) (h : Rep k H t x) (h' : Rep k H u x) : t = u := by
  cases t <;> first | (cases ht; done) | skip
  all_goals (cases u <;> first | (cases hu; done) | skip)
  all_goals (first | rw [h.non] at h' | rw [h.bl] at h' | rw [h.int] at h' | rw [h.str] at h')
  all_goals (unfold Rep at h')
  all_goals first | rfl | (cases h'; rfl) | cases h'
theorem flat_ref {t : T} {a : Addr} (ht : t.flat = true) (h : Rep k H t (.ref a)) : False := by
  cases t <;> first | (cases ht; done) | (unfold Rep at h; cases h)
theorem reps_inj {m : Nat} (ih : ∀ t u x, plain m t = true → plain m u = true → Rep k H t x → Rep k H u x → t = u) : ∀ {ts ss : List T} {us : List V}, ts.all (plain m) = true → ss.all (plain m) = true → Reps k H ts us → Reps k H ss us → ts = ss
  | [], [], us, _, _, _, _ => rfl
  | [], s :: ss, us, _, _, h, h' => by unfold Reps at h; subst h; unfold Reps at h'; obtain ⟨_, _, z, _⟩ := h'; cases z
  | t :: ts, [], us, _, _, h, h' => by unfold Reps at h'; subst h'; unfold Reps at h; obtain ⟨_, _, z, _⟩ := h; cases z
  | t :: ts, s :: ss, us, p, q, h, h' => by
    unfold Reps at h h'
    obtain ⟨u, r, rfl, h1, h2⟩ := h
    obtain ⟨u', r', e, h1', h2'⟩ := h'
    cases e
    rw [List.all_cons, Bool.and_eq_true] at p q
    rw [ih t s u p.1 q.1 h1 h1', reps_inj ih p.2 q.2 h2 h2']
theorem rep_inj (I : Inv X pins σ H s) (hK : X.K = k.K) : ∀ (n : Nat) (t u : T) (x : V), plain n t = true → plain n u = true → Rep k H t x → Rep k H u x → t = u := by
  have lt : ∀ {a : Addr} {us ws : List V}, SqL k.K H a us → SqT k.K H a ws → False := fun {a us ws} h1 h2 => by
    rw [← hK] at h1 h2
    obtain ⟨its, _, ⟨o, n, e, c, _⟩, _⟩ := I.list h1
    obtain ⟨its', _, ⟨o', e', c', _⟩, _⟩ := I.tuple h2
    rw [e] at e'; cases e'
    rw [c] at c'
    exact absurd c' (by simp)
  intro n
  induction n with
  | zero =>
    intro t u x ht hu h h'
    rcases plain_cases ht with ht | ⟨m, ts, z, _⟩ | ⟨m, ts, z, _⟩
    · rcases plain_cases hu with hu | ⟨m, ts, z, _⟩ | ⟨m, ts, z, _⟩
      · exact flat_inj ht hu h h'
      · cases z
      · cases z
    · cases z
    · cases z
  | succ n ih =>
    intro t u x ht hu h h'
    rcases plain_cases ht with ht | ⟨m, ts, z, rfl, hts⟩ | ⟨m, ts, z, rfl, hts⟩
    · rcases plain_cases hu with hu | ⟨m, ts, z, rfl, _⟩ | ⟨m, ts, z, rfl, _⟩
      · exact flat_inj ht hu h h'
      · unfold Rep at h'; obtain ⟨p, us, rfl, _⟩ := h'; exact (flat_ref ht h).elim
      · unfold Rep at h'; obtain ⟨p, us, rfl, _⟩ := h'; exact (flat_ref ht h).elim
    · cases z
      unfold Rep at h; obtain ⟨p, us, rfl, h1, h2⟩ := h
      rcases plain_cases hu with hu | ⟨m, ss, z, rfl, hss⟩ | ⟨m, ss, z, rfl, hss⟩
      · exact (flat_ref hu h').elim
      · cases z
        unfold Rep at h'; obtain ⟨p', us', e, h1', h2'⟩ := h'
        cases e
        have := I.list_inj (hK ▸ h1) (hK ▸ h1')
        subst this
        rw [reps_inj ih hts hss h2 h2']
      · unfold Rep at h'; obtain ⟨p', us', e, h1', h2'⟩ := h'
        cases e
        exact (lt h1 h1').elim
    · cases z
      unfold Rep at h; obtain ⟨p, us, rfl, h1, h2⟩ := h
      rcases plain_cases hu with hu | ⟨m, ss, z, rfl, hss⟩ | ⟨m, ss, z, rfl, hss⟩
      · exact (flat_ref hu h').elim
      · unfold Rep at h'; obtain ⟨p', us', e, h1', h2'⟩ := h'
        cases e
        exact (lt h1' h1).elim
      · cases z
        unfold Rep at h'; obtain ⟨p', us', e, h1', h2'⟩ := h'
        cases e
        have := I.tuple_inj (hK ▸ h1) (hK ▸ h1')
        subst this
        rw [reps_inj ih hts hss h2 h2']
theorem deep (I : Inv X pins σ H s) (hK : X.K = k.K) : ∀ (n : Nat) (A : Around), A.units + n < cLine → ∀ (t u : T) (x y : V) (vx vy : Value), plain n t = true → plain n u = true → Rep k H t x → Rep k H u y → RelV x vx → RelV y vy → EqAt A s vx vy (eqT t u) := by
  intro n
  induction n with
  | zero =>
    intro A hA t u x y vx vy ht hu h h' r r'
    rcases plain_cases ht with ht | ⟨m, ts, z, _⟩ | ⟨m, ts, z, _⟩
    · rcases plain_cases hu with hu | ⟨m, ts, z, _⟩ | ⟨m, ts, z, _⟩
      · rw [eqT_flat ht, ← (flat_rep h' hu).2 t x h ht]
        exact eqAt_V r r' (flat_rep h ht).1 (flat_rep h' hu).1
      · cases z
      · cases z
    · cases z
    · cases z
  | succ n ih =>
    intro A hA t u x y vx vy ht hu h h' r r'
    have hu0 : A.units < cLine := by omega
    have hin : A.in1.units + n < cLine := by show A.units + 1 + n < cLine; omega
    have items : ∀ {ts ss : List T} {us ws : List V} {its its2 : List Value}, ts.all (plain n) = true → ss.all (plain n) = true → Reps k H ts us → Reps k H ss ws → Vals us its → Vals ws its2 → ∀ j (h1 : j < its.toArray.size) (h2 : j < its2.toArray.size), EqAt A.in1 s its.toArray[j] its2.toArray[j] (at2 ts ss j) := by
      intro ts ss us ws its its2 hts hss h2 g2 rv rw' j h3 h4
      have l1 := h2.length
      have l2 := g2.length
      have l3 := rv.length
      have l4 := rw'.length
      simp only [List.size_toArray] at h3 h4
      have e1 : ts[j]? = some (ts[j]'(by omega)) := List.getElem?_eq_getElem (by omega)
      have e2 : ss[j]? = some (ss[j]'(by omega)) := List.getElem?_eq_getElem (by omega)
      obtain ⟨a, ha, ra⟩ := h2.get e1
      obtain ⟨b, hb, rb⟩ := g2.get e2
      obtain ⟨va, hva, qa⟩ := rv.get ha
      obtain ⟨vb, hvb, qb⟩ := rw'.get hb
      have f1 : its.toArray[j] = va := by rw [List.getElem?_eq_getElem h3] at hva; simpa using Option.some.inj hva
      have f2 : its2.toArray[j] = vb := by rw [List.getElem?_eq_getElem h4] at hvb; simpa using Option.some.inj hvb
      unfold at2
      rw [e1, e2, f1, f2]
      rw [List.all_eq_true] at hts hss
      exact ih A.in1 hin _ _ a b va vb (hts _ (List.getElem_mem _)) (hss _ (List.getElem_mem _)) ra rb qa qb
    rcases plain_cases ht with ht | ⟨m, ts, z, rfl, hts⟩ | ⟨m, ts, z, rfl, hts⟩
    · rcases plain_cases hu with hu | ⟨m, ss, z, rfl, hss⟩ | ⟨m, ss, z, rfl, hss⟩
      · rw [eqT_flat ht, ← (flat_rep h' hu).2 t x h ht]
        exact eqAt_V r r' (flat_rep h ht).1 (flat_rep h' hu).1
      · unfold Rep at h'; obtain ⟨p, us, rfl, h1, h2⟩ := h'
        cases r'
        obtain ⟨its, rv, pl, _⟩ := I.list (hK ▸ h1)
        rw [eqT_flat ht]
        cases t with
        | non => rw [h.non] at r; cases r; exact EqAt.none_list pl.isList hu0
        | bl b => rw [h.bl] at r; cases r; exact EqAt.bool_list b pl.isList hu0
        | int b => rw [h.int] at r; obtain ⟨t', rfl⟩ := r; exact EqAt.int_list b t' pl.isList hu0
        | str b => rw [h.str] at r; obtain ⟨t', rfl⟩ := r; exact EqAt.str_list b t' pl.isList hu0
        | _ => cases ht
      · unfold Rep at h'; obtain ⟨p, us, rfl, h1, h2⟩ := h'
        cases r'
        obtain ⟨its, rv, pl, _⟩ := I.tuple (hK ▸ h1)
        rw [eqT_flat ht]
        cases t with
        | non => rw [h.non] at r; cases r; exact EqAt.none_tuple pl hu0
        | bl b => rw [h.bl] at r; cases r; exact EqAt.bool_tuple b pl hu0
        | int b => rw [h.int] at r; obtain ⟨t', rfl⟩ := r; exact EqAt.int_tuple b t' pl hu0
        | str b => rw [h.str] at r; obtain ⟨t', rfl⟩ := r; exact EqAt.str_tuple b t' pl hu0
        | _ => cases ht
    · cases z
      have h0 := h
      unfold Rep at h; obtain ⟨p, us, rfl, h1, h2⟩ := h
      cases r
      obtain ⟨its, rv, pl, _⟩ := I.list (hK ▸ h1)
      rcases plain_cases hu with hu | ⟨m, ss, z, rfl, hss⟩ | ⟨m, ss, z, rfl, hss⟩
      · cases u with
        | non => rw [h'.non] at r'; cases r'; exact EqAt.list_none pl.isList hu0
        | bl b => rw [h'.bl] at r'; cases r'; exact EqAt.list_bool b pl.isList hu0
        | int b => rw [h'.int] at r'; obtain ⟨t', rfl⟩ := r'; exact EqAt.list_int b t' pl.isList hu0
        | str b => rw [h'.str] at r'; obtain ⟨t', rfl⟩ := r'; exact EqAt.list_str b t' pl.isList hu0
        | _ => cases hu
      · cases z
        have h0' := h'
        unfold Rep at h'; obtain ⟨q, ws, rfl, g1, g2⟩ := h'
        cases r'
        obtain ⟨its2, rw', pl2, _⟩ := I.list (hK ▸ g1)
        by_cases hpq : p = q
        · subst hpq
          have e := rep_inj I hK (n + 1) _ _ _ ht hu h0 h0'
          rw [← e, eqT_refl ht]
          exact EqAt.same _
        · refine EqAt.of_refs hpq ?_
          have l1 := h2.length
          have l2 := g2.length
          have l3 := rv.length
          have l4 := rw'.length
          unfold eqT
          by_cases hl : ts.length = ss.length
          · rw [eqTs_range ts ss hl, show ts.length = its.toArray.size by rw [List.size_toArray]; omega]
            exact RcAt.lists pl.isList pl2.isList (by rw [List.size_toArray, List.size_toArray]; omega) hu0 (items hts hss h2 g2 rv rw')
          · rw [eqTs_len ts ss hl]
            exact RcAt.lists_lengths pl.isList pl2.isList (by rw [List.size_toArray, List.size_toArray]; simp; omega) hu0
      · unfold Rep at h'; obtain ⟨q, ws, rfl, g1, g2⟩ := h'
        cases r'
        obtain ⟨its2, rw', pl2, _⟩ := I.tuple (hK ▸ g1)
        exact EqAt.list_tuple pl.isList pl2 hu0
    · cases z
      have h0 := h
      unfold Rep at h; obtain ⟨p, us, rfl, h1, h2⟩ := h
      cases r
      obtain ⟨its, rv, pl, _⟩ := I.tuple (hK ▸ h1)
      rcases plain_cases hu with hu | ⟨m, ss, z, rfl, hss⟩ | ⟨m, ss, z, rfl, hss⟩
      · cases u with
        | non => rw [h'.non] at r'; cases r'; exact EqAt.tuple_none pl hu0
        | bl b => rw [h'.bl] at r'; cases r'; exact EqAt.tuple_bool b pl hu0
        | int b => rw [h'.int] at r'; obtain ⟨t', rfl⟩ := r'; exact EqAt.tuple_int b t' pl hu0
        | str b => rw [h'.str] at r'; obtain ⟨t', rfl⟩ := r'; exact EqAt.tuple_str b t' pl hu0
        | _ => cases hu
      · unfold Rep at h'; obtain ⟨q, ws, rfl, g1, g2⟩ := h'
        cases r'
        obtain ⟨its2, rw', pl2, _⟩ := I.list (hK ▸ g1)
        exact EqAt.tuple_list pl pl2.isList hu0
      · cases z
        have h0' := h'
        unfold Rep at h'; obtain ⟨q, ws, rfl, g1, g2⟩ := h'
        cases r'
        obtain ⟨its2, rw', pl2, _⟩ := I.tuple (hK ▸ g1)
        by_cases hpq : p = q
        · subst hpq
          have e := rep_inj I hK (n + 1) _ _ _ ht hu h0 h0'
          rw [← e, eqT_refl ht]
          exact EqAt.same _
        · refine EqAt.of_refs hpq ?_
          have l1 := h2.length
          have l2 := g2.length
          have l3 := rv.length
          have l4 := rw'.length
          unfold eqT
          have e : eqTs ts ss = ((List.range (min its.toArray.size its2.toArray.size)).all (at2 ts ss) && its.toArray.size == its2.toArray.size) := by
            by_cases hl : ts.length = ss.length
            · rw [eqTs_range ts ss hl]
              have a1 : its.toArray.size = ts.length := by rw [List.size_toArray]; omega
              have a2 : its2.toArray.size = ts.length := by rw [List.size_toArray]; omega
              rw [a1, a2, Nat.min_self]
              simp
            · rw [eqTs_len ts ss hl]
              have : (its.toArray.size == its2.toArray.size) = false := by rw [List.size_toArray, List.size_toArray]; simp; omega
              rw [this, Bool.and_false]
          rw [e]
          exact RcAt.tuples pl pl2 hu0 (items hts hss h2 g2 rv rw')
theorem deepItems (I : Inv X pins σ H s) (hK : X.K = k.K) {n : Nat} {A : Around} (hin : A.units + n < cLine) {ts ss : List T} {us ws : List V} {its its2 : List Value} (hts : ts.all (plain n) = true) (hss : ss.all (plain n) = true) (h2 : Reps k H ts us) (g2 : Reps k H ss ws) (rv : Vals us its) (rw' : Vals ws its2) :
    ∀ j (h1 : j < its.toArray.size) (h2 : j < its2.toArray.size), EqAt A s its.toArray[j] its2.toArray[j] (at2 ts ss j) := by
  intro j h3 h4
  have l1 := h2.length
  have l2 := g2.length
  have l3 := rv.length
  have l4 := rw'.length
  simp only [List.size_toArray] at h3 h4
  have e1 : ts[j]? = some (ts[j]'(by omega)) := List.getElem?_eq_getElem (by omega)
  have e2 : ss[j]? = some (ss[j]'(by omega)) := List.getElem?_eq_getElem (by omega)
  obtain ⟨a, ha, ra⟩ := h2.get e1
  obtain ⟨b, hb, rb⟩ := g2.get e2
  obtain ⟨va, hva, qa⟩ := rv.get ha
  obtain ⟨vb, hvb, qb⟩ := rw'.get hb
  have f1 : its.toArray[j] = va := by rw [List.getElem?_eq_getElem h3] at hva; simpa using Option.some.inj hva
  have f2 : its2.toArray[j] = vb := by rw [List.getElem?_eq_getElem h4] at hvb; simpa using Option.some.inj hvb
  unfold at2
  rw [e1, e2, f1, f2]
  rw [List.all_eq_true] at hts hss
  exact deep I hK n A hin _ _ a b va vb (hts _ (List.getElem_mem _)) (hss _ (List.getElem_mem _)) ra rb qa qb
theorem deepRc (I : Inv X pins σ H s) (hK : X.K = k.K) {A : Around} (hA : A.units + 64 < cLine) {t u : T} {x y : V} {vx vy : Value} (ht : plain 8 t = true) (hu : plain 8 u = true) (hs : seq2 t u = true) (h : Rep k H t x) (h' : Rep k H u y) (r : RelV x vx) (r' : RelV y vy) :
    RcAt A s vx vy (eqT t u) ∧ RcNeAt A s vx vy (!eqT t u) := by
  have hu0 : A.units < cLine := by omega
  have hin : A.in1.units + 7 < cLine := by show A.units + 1 + 7 < cLine; omega
  cases t with
  | lst ts =>
    cases u with
    | lst ss =>
      unfold Rep at h h'
      obtain ⟨p, us, rfl, h1, h2⟩ := h
      obtain ⟨q, ws, rfl, g1, g2⟩ := h'
      cases r
      cases r'
      obtain ⟨its, rv, pl, _⟩ := I.list (hK ▸ h1)
      obtain ⟨its2, rw', pl2, _⟩ := I.list (hK ▸ g1)
      have hts : ts.all (plain 7) = true := by unfold plain at ht; exact ht
      have hss : ss.all (plain 7) = true := by unfold plain at hu; exact hu
      have items := deepItems I hK hin hts hss h2 g2 rv rw'
      have l1 := h2.length
      have l2 := g2.length
      have l3 := rv.length
      have l4 := rw'.length
      unfold eqT
      by_cases hl : ts.length = ss.length
      · rw [eqTs_range ts ss hl, show ts.length = its.toArray.size by rw [List.size_toArray]; omega]
        exact ⟨RcAt.lists pl.isList pl2.isList (by rw [List.size_toArray, List.size_toArray]; omega) hu0 items, RcNeAt.lists pl.isList pl2.isList (by rw [List.size_toArray, List.size_toArray]; omega) hu0 items⟩
      · rw [eqTs_len ts ss hl]
        exact ⟨RcAt.lists_lengths pl.isList pl2.isList (by rw [List.size_toArray, List.size_toArray]; simp; omega) hu0, RcNeAt.lists_lengths pl.isList pl2.isList (by rw [List.size_toArray, List.size_toArray]; simp; omega) hu0⟩
    | _ => cases hs
  | tup ts =>
    cases u with
    | tup ss =>
      unfold Rep at h h'
      obtain ⟨p, us, rfl, h1, h2⟩ := h
      obtain ⟨q, ws, rfl, g1, g2⟩ := h'
      cases r
      cases r'
      obtain ⟨its, rv, pl, _⟩ := I.tuple (hK ▸ h1)
      obtain ⟨its2, rw', pl2, _⟩ := I.tuple (hK ▸ g1)
      have hts : ts.all (plain 7) = true := by unfold plain at ht; exact ht
      have hss : ss.all (plain 7) = true := by unfold plain at hu; exact hu
      have items := deepItems I hK hin hts hss h2 g2 rv rw'
      have l1 := h2.length
      have l2 := g2.length
      have l3 := rv.length
      have l4 := rw'.length
      unfold eqT
      have e : eqTs ts ss = ((List.range (min its.toArray.size its2.toArray.size)).all (at2 ts ss) && its.toArray.size == its2.toArray.size) := by
        by_cases hl : ts.length = ss.length
        · rw [eqTs_range ts ss hl]
          have a1 : its.toArray.size = ts.length := by rw [List.size_toArray]; omega
          have a2 : its2.toArray.size = ts.length := by rw [List.size_toArray]; omega
          rw [a1, a2, Nat.min_self]
          simp
        · rw [eqTs_len ts ss hl]
          have : (its.toArray.size == its2.toArray.size) = false := by rw [List.size_toArray, List.size_toArray]; simp; omega
          rw [this, Bool.and_false]
      rw [e]
      exact ⟨RcAt.tuples pl pl2 hu0 items, RcNeAt.tuples pl pl2 hu0 items⟩
    | _ => cases hs
  | _ => cases hs
end
section
variable {k : Ks} {X : Cx}
theorem op_eqD (hK : X.K = k.K) (hu : X.A.units + 64 < cLine) : OpR X (compareOp .Eq) (rEqD k false) := by
  intro pins s σ H x y v u Q I rx ry h
  obtain ⟨t, w, h1, h2, h3, h4, h5, q⟩ := h
  exact (deepRc I hK hu h3 h4 h5 h1 h2 rx ry).1 _ _ _ _ ⟨.bl _, H, I, rfl, q⟩
theorem op_neD (hK : X.K = k.K) (hu : X.A.units + 64 < cLine) : OpR X (compareOp .NotEq) (rEqD k true) := by
  intro pins s σ H x y v u Q I rx ry h
  obtain ⟨t, w, h1, h2, h3, h4, h5, q⟩ := h
  exact (deepRc I hK hu h3 h4 h5 h1 h2 rx ry).2 _ _ _ _ ⟨.bl _, H, I, rfl, q⟩
noncomputable def eqB (k : Ks) (H : Hp) (t : T) (v : Value) : Bool := @decide (∃ x u, RelV x v ∧ Rep k H u x ∧ plain 8 u = true ∧ eqT u t = true) (Classical.propDecidable _)
theorem eqB_of {pins : List (Addr × Obj)} {σ : L2.St} {H : Hp} {s : Shared} (I : Inv X pins σ H s) (hK : X.K = k.K) {t u : T} {x : V} {v : Value} (r : RelV x v) (h : Rep k H u x) (hp : plain 8 u = true) : eqB k H t v = eqT u t := by
  unfold eqB
  cases e : eqT u t with
  | true => exact @decide_eq_true _ (Classical.propDecidable _) ⟨x, u, r, h, hp, e⟩
  | false =>
    refine @decide_eq_false _ (Classical.propDecidable _) fun ⟨x', u', r', h', hp', e'⟩ => ?_
    have := r'.inj r
    subst this
    rw [rep_inj I hK 8 u' u x' hp' hp h' h, e] at e'
    cases e'
theorem any_eqB {pins : List (Addr × Obj)} {σ : L2.St} {H : Hp} {s : Shared} (I : Inv X pins σ H s) (hK : X.K = k.K) {t : T} : ∀ {ts : List T} {us : List V} {its : List Value}, ts.all (plain 8) = true → Reps k H ts us → Vals us its → its.any (eqB k H t) = ts.any fun u => eqT u t
  | [], us, its, _, h, r => by unfold Reps at h; subst h; cases r; rfl
  | u :: ts, us, its, hp, h, r => by
    unfold Reps at h
    obtain ⟨x, us', rfl, h1, h2⟩ := h
    cases r with
    | cons r1 r2 =>
      rw [List.all_cons, Bool.and_eq_true] at hp
      rw [List.any_cons, List.any_cons, eqB_of I hK r1 h1 hp.1, any_eqB I hK hp.2 h2 r2]
theorem mem_eqB {pins : List (Addr × Obj)} {σ : L2.St} {H : Hp} {s : Shared} (I : Inv X pins σ H s) (hK : X.K = k.K) {A : Around} (hA : A.units + 8 < cLine) {t : T} {x : V} {v : Value} (ht : plain 8 t = true) (hx : Rep k H t x) (rx : RelV x v) : ∀ {ts : List T} {us : List V} {its : List Value}, ts.all (plain 8) = true → Reps k H ts us → Vals us its → ∀ y ∈ its, EqAt A s y v (eqB k H t y)
  | [], us, its, _, h, r => by unfold Reps at h; subst h; cases r; intro y hy; cases hy
  | u :: ts, us, its, hp, h, r => by
    unfold Reps at h
    obtain ⟨w, us', rfl, h1, h2⟩ := h
    cases r with
    | cons r1 r2 =>
      rw [List.all_cons, Bool.and_eq_true] at hp
      intro y hy
      rcases List.mem_cons.mp hy with rfl | hy
      · rw [eqB_of I hK r1 h1 hp.1]
        exact deep I hK 8 A hA u t w x _ v hp.1 ht h1 hx r1 rx
      · exact mem_eqB I hK hA ht hx rx hp.2 h2 r2 y hy
theorem op_notInD (hK : X.K = k.K) (hu : X.A.units + 64 < cLine) : OpR X (compareOp .NotIn) (rInD k true) := by
  intro pins s σ H x y v u Q I rx ry h
  obtain ⟨p, us, t, ts, rfl, hq, hx, hs, ht, hts, q⟩ := h
  cases ry
  have hin : X.A.in1.units + 8 < cLine := by show X.A.units + 1 + 8 < cLine; omega
  rcases hq with hq | hq
  · obtain ⟨its, r, pl, hz⟩ := I.list (hK ▸ hq)
    refine SeqAt.notIn_listAt (eqB k H t) pl.isList (fun w hw => mem_eqB I hK hin ht hx rx hts hs r w (by simpa using hw)) ⟨.bl _, H, I, rfl, ?_⟩
    rw [show its.toArray.any (eqB k H t) = its.any (eqB k H t) by simp, any_eqB I hK hts hs r]
    exact q
  · obtain ⟨its, r, pl, hz⟩ := I.tuple (hK ▸ hq)
    refine SeqAt.notIn_tupleAt (eqB k H t) pl (fun w hw => mem_eqB I hK hin ht hx rx hts hs r w (by simpa using hw)) ⟨.bl _, H, I, rfl, ?_⟩
    rw [show its.toArray.any (eqB k H t) = its.any (eqB k H t) by simp, any_eqB I hK hts hs r]
    exact q
end
theorem kit_ty {K : Frag} {n c : String} {b : Bool} (h : (if (Value.type n == Value.type c) = true then some true else if kitMeta c = true then (fastBuiltinMro n).map (·.contains (Value.type c)) else none) = some b) : kitOne K (.type n) (.type c) = some b := h
end Mr
set_option Elab.async false
set_option linter.all false
set_option maxRecDepth 100000
set_option maxHeartbeats 4000000
namespace L2
open PySem PySem.Spec PyProof.Rows PySem.W
section
variable {X : Cx}
theorem ix_listK {K : Frag} (h : X.K = K) : IxR X (rIxL K) := h ▸ ix_list
theorem ix_tupK {K : Frag} (h : X.K = K) : IxR X (rIxT K) := h ▸ ix_tup
theorem op_in_seqK {K : Frag} (h : X.K = K) : OpR X (compareOp .In) (rIn K false) := h ▸ op_in_seq
theorem sl_listK {K : Frag} (h : X.K = K) : SlR X (rSlL K) := h ▸ sl_list
theorem sl_tupK {K : Frag} (h : X.K = K) : SlR X (rSlT K) := h ▸ sl_tup
theorem mt_joinK {K : Frag} (h : X.K = K) : MtR X "str.join" (rJoin K) := h ▸ mt_join
theorem call_len_seqK {K : Frag} (h : X.K = K) : CallR X (.builtin "len") (fun xs H Q => ∃ p ys, xs = [.ref p] ∧ (SqL K H p ys ∨ SqT K H p ys) ∧ Q (.int ys.length) H) := by subst h; exact call_len_seq
theorem call_tuple_ofK {K : Frag} (h : X.K = K) : CallR X (.type "tuple") (fun xs H Q => ∃ p ys, xs = [.ref p] ∧ ((SqL K H p ys ∧ ∀ l, H l = none → Q (.ref l) (upd H l (.tup ys))) ∨ (SqT K H p ys ∧ Q (.ref p) H))) := by subst h; exact call_tuple_of
theorem call_allK {K : Frag} (h : X.K = K) (hc : X.calm = true) : CallR X (.builtin "all") (fun xs H Q => ∃ (p : Addr) (bs : List Bool), xs = [.ref p] ∧ SqL K H p (bs.map V.bl) ∧ Q (.bl (bs.all id)) H) := by subst h; exact call_all hc
theorem call_isTK {K : Frag} (h : X.K = K) : CallR X (.builtin "isinstance") (rIsT K) := h ▸ call_isT
theorem pi_listK {K : Frag} (h : X.K = K) {tg l : Expr} {tl : TE} (hl : PE X l tl) : PI X tg l (iList K tl) := by subst h; exact pi_list hl
theorem pi_tupK {K : Frag} (h : X.K = K) {tg l : Expr} {tl : TE} (hl : PE X l tl) : PI X tg l (iTup K tl) := by subst h; exact pi_tup hl
end
end L2
namespace L2
open PySem PySem.Spec PyProof.Rows PySem.W
theorem pg_tupK {X : Cx} {K : Frag} (hK : X.K = K) {es : List Expr} {k : Nat} {t : TGs} {n : Nat} {pos : Pos} (hc : X.calm = true) (h : PGs X es t)
    (hn : (assignEach es X.env).length = n := by rfl) (hst : (assignEach es X.env).findIdx? (·.1) = none := by rfl) : PG X (.Tuple es k pos) (gTup K n t) := by subst hK; exact pg_tup hc h hn hst
end L2
set_option Elab.async false
set_option linter.all false
set_option maxRecDepth 100000
set_option maxHeartbeats 4000000
namespace Mr
open PySem L2
section
variable {α β : Type} {f : α → Rs β} {a : α} {c : Str} {ρ : En} {g : α → So} {h : En → So} {x : XV} {t : T} {o : Ow} {i : Nat}
theorem bind_ok : (Rs.ok a).bind f = f a := rfl
theorem ofO_some : Rs.ofO (some a) = .ok a := rfl
theorem noEr_ok : (Rs.ok a).noEr = .ok a := rfl
theorem of_ok : So.of (.ok a) ρ g = g a := rfl
theorem seq_nx : (So.nx ρ).seq h = h ρ := rfl
theorem seq_rt : (So.rt x).seq h = .rt x := rfl
theorem out_fz : (So.rt (.fz t)).out = .ok (.fz t) := rfl
theorem out_ow : (So.rt (.ow o)).out = .ok (.ow o) := rfl
theorem setX_fz : setX i (.fz t) ρ = .nx (ρ.set i (.fz t)) := rfl
theorem setX_ow : setX i (.ow o) ρ = .nx (ρ.set i (.ow o)) := rfl
theorem t_fz : (XV.fz t).t = t := rfl
theorem t_ow : (XV.ow o).t = o.t := rfl
theorem t_bo : (XV.bo o).t = o.t := rfl
theorem t_l {xs : List T} : (Ow.l xs).t = .lst xs := rfl
theorem t_d {kvs : List (Key × T)} : (Ow.d kvs).t = .dct false (kvs.map (·.1)) (kvs.map (·.2)) := rfl
theorem dur_fz : (XV.fz t).dur = some t := rfl
theorem dur_ow : (XV.ow o).dur = some o.t := rfl
theorem b_bl {b : Bool} : (XV.fz (.bl b)).b? = .ok b := rfl
theorem mapE_nx {f : En → En} : (So.nx ρ).mapE f = .nx (f ρ) := rfl
noncomputable def rdV : Option EV → Rs XV
  | some (.fz t) => .ok (.fz t)
  | some (.ow o) => .ok (.bo o)
  | _ => .no
theorem mVar_eq : mVar i ρ = rdV ρ[i]? := by
  unfold mVar
  cases ρ[i]? with
  | none => rfl
  | some x => cases x <;> rfl
noncomputable def rtV : Option EV → So
  | some (.fz t) => .rt (.fz t)
  | some (.ow o) => .rt (.ow o)
  | _ => .no
theorem mRetV_eq : mRetV i ρ = rtV ρ[i]? := by
  unfold mRetV
  cases ρ[i]? with
  | none => rfl
  | some x => cases x <;> rfl
theorem mRet_eq {a : ME} : mRet a ρ = So.of (a ρ) ρ fun x => match x with | .bo _ => .no | x => .rt x := rfl
noncomputable def frV (ρ : En) (i : Nat) : Option EV → En
  | some (.ow o) => ρ.set i (.fz o.t)
  | _ => ρ
theorem freeze_eq : freeze i ρ = frV ρ i ρ[i]? := by
  unfold freeze
  cases ρ[i]? with
  | none => rfl
  | some x => cases x <;> rfl
noncomputable def nxL (i : Nat) (ρ : En) : Option (List T) → So
  | some ts => .nx (ρ.set i (.ow (.l ts)))
  | none => .no
theorem mMut_at {gg : List T → List T → Option (List T)} {b : MA} {ts : List T} (e : ρ[i]? = some (.ow (.l ts))) : mMut gg i b ρ = So.of (b ρ) ρ fun xs => nxL i ρ ((durs xs).bind fun ss => gg ts ss) := by
  unfold mMut
  rw [e]
  show So.of (b ρ) ρ _ = So.of (b ρ) ρ _
  congr 1
noncomputable def nxS (i : Nat) (ρ : En) (ts : List T) (t : T) : Option Nat → So
  | some q => .nx (ρ.set i (.ow (.l (ts.set q t))))
  | none => .no
theorem mSetItem_at {j a : ME} {ts : List T} {n : Int} {x y : XV} {t : T} (e : ρ[i]? = some (.ow (.l ts))) (ha : a ρ = .ok x) (hj : j ρ = .ok y) (hy : y.t = .int n) (hx : x.dur = some t) : mSetItem i j a ρ = nxS i ρ ts t (ixN ts.length n) := by
  unfold mSetItem
  rw [e, ha, hj]
  simp only [of_ok, hy, hx]
  cases ixN ts.length n <;> rfl
theorem mDPut_at {q a : ME} {kvs : List (Key × T)} {k : Key} {x y : XV} {t : T} (e : ρ[i]? = some (.ow (.d kvs))) (ha : a ρ = .ok x) (hj : q ρ = .ok y) (hy : y.t.key = some k) (hx : x.dur = some t) (hl : kvs.length < sizeLine) : mDPut i q a ρ = .nx (ρ.set i (.ow (.d (dPut kvs k t)))) := by
  unfold mDPut
  rw [e, ha, hj]
  simp only [of_ok, hy, hx, if_pos hl]
end
theorem sz0 : ((0 : Nat) ≤ sizeLine) = True := eq_true (by decide)
theorem sz1 : ((1 : Nat) ≤ sizeLine) = True := eq_true (by decide)
theorem sz2 : ((2 : Nat) ≤ sizeLine) = True := eq_true (by decide)
theorem sz3 : ((3 : Nat) ≤ sizeLine) = True := eq_true (by decide)
theorem sz5 : ((5 : Nat) ≤ sizeLine) = True := eq_true (by decide)
section
variable {mg : MG} {mb : MS}
theorem loop_nil {ρ : En} : loop mg mb [] ρ = .nx ρ := by unfold loop; rfl
theorem loop_nx {t : T} {ts : List T} {ρ ρ1 ρ2 : En} (h1 : mg t ρ = some ρ1) (h2 : mb ρ1 = .nx ρ2) : loop mg mb (t :: ts) ρ = loop mg mb ts ρ2 := by
  rw [loop]; simp only [h1, h2]
theorem loop_ct {t : T} {ts : List T} {ρ ρ1 ρ2 : En} (h1 : mg t ρ = some ρ1) (h2 : mb ρ1 = .ct ρ2) : loop mg mb (t :: ts) ρ = loop mg mb ts ρ2 := by
  rw [loop]; simp only [h1, h2]
theorem loop_same {ts : List T} {ρ : En} (h : ∀ t ∈ ts, ∃ ρ1, mg t ρ = some ρ1 ∧ (mb ρ1 = .nx ρ ∨ mb ρ1 = .ct ρ)) : loop mg mb ts ρ = .nx ρ := by
  induction ts with
  | nil => exact loop_nil
  | cons t ts ih =>
    obtain ⟨ρ1, h1, h2⟩ := h t List.mem_cons_self
    have ih := ih fun u hu => h u (List.mem_cons_of_mem _ hu)
    rcases h2 with h2 | h2
    · rw [loop_nx h1 h2, ih]
    · rw [loop_ct h1 h2, ih]
end
section
variable {mg : MG} {mt : MT} {me : ME} {ρ : En}
theorem cloop_map {u : T → T} : ∀ {ts acc : List T}, (∀ t ∈ ts, ∃ ρ1 x, mg t ρ = some ρ1 ∧ mt ρ1 = .ok true ∧ me ρ1 = .ok x ∧ x.dur = some (u t)) → acc.length + ts.length ≤ sizeLine → cloop mg mt me ρ ts acc = .ok (acc ++ ts.map u)
  | [], acc, h, hl => by rw [cloop]; simp
  | t :: ts, acc, h, hl => by
    obtain ⟨ρ1, x, h1, h2, h3, h4⟩ := h t List.mem_cons_self
    rw [List.length_cons] at hl
    rw [cloop]
    simp only [h1, h2, h3, h4, bind_ok, if_true]
    rw [if_pos (by omega), cloop_map (fun y hy => h y (List.mem_cons_of_mem _ hy)) (by rw [List.length_append, List.length_singleton]; omega)]
    simp
end
theorem strsT_map : ∀ ys : List Str, strsT (ys.map T.str) = some ys
  | [] => rfl
  | y :: ys => by
    show (strsT (ys.map T.str)).bind (fun bs => some (y :: bs)) = _
    rw [strsT_map ys]; rfl
theorem boolsT_map : ∀ ys : List Bool, boolsT (ys.map T.bl) = some ys
  | [] => rfl
  | y :: ys => by
    show (boolsT (ys.map T.bl)).bind (fun bs => some (y :: bs)) = _
    rw [boolsT_map ys]; rfl
theorem flats_str (ys : List Str) : (ys.map T.str).all T.flat = true := by
  rw [List.all_eq_true]; intro t ht; obtain ⟨y, _, rfl⟩ := List.mem_map.mp ht; rfl
theorem any_str (ys : List Str) (x : Str) : ((ys.map T.str).any fun u => eqF u (.str x)) = decide (x ∈ ys) := by
  induction ys with
  | nil => simp
  | cons y ys ih =>
    rw [List.map_cons, List.any_cons, ih]
    show ((y == x) || _) = _
    by_cases e : y = x
    · subst e; simp
    · rw [beq_eq_false_iff_ne.mpr e, Bool.false_or]
      congr 1
      rw [eq_iff_iff, List.mem_cons]
      exact ⟨.inr, fun h => h.resolve_left fun z => e z.symm⟩
end Mr
set_option Elab.async false
set_option linter.all false
set_option maxRecDepth 100000
set_option maxHeartbeats 4000000
namespace L2
open PySem PySem.Spec PyProof.Rows PySem.W
noncomputable def iSeq (K : Frag) (tl : TE) : TI := fun σ H R => tl σ H fun x H1 => ∃ a, x = .ref a ∧ (((∃ xs, SqL K H1 a xs) ∧ R (Itl K a) H1) ∨ ((∃ xs, SqT K H1 a xs) ∧ R (Itt K a) H1))
theorem pi_seqK {X : Cx} {K : Frag} (hK : X.K = K) {tg l : Expr} {tl : TE} (hl : PE X l tl) : PI X tg l (iSeq K tl) := by
  subst hK
  intro pins s σ H R I h
  refine thn (hl pins s σ H _ I h) fun v s1 ⟨x, H1, I1, r1, q1⟩ => ?_
  obtain ⟨a, e, q1⟩ := q1
  subst e
  cases r1
  have fin : ∀ b ∈ [s1.heap.objs.size], FpOk X pins H1 b := fun b hb => by
    have e : b = s1.heap.objs.size := by simpa using hb
    subst e
    exact I1.fpOk (Nat.le_refl _) (I1.hok.fresh (Nat.le_refl _))
  rcases q1 with ⟨⟨xs, hq⟩, q⟩ | ⟨⟨xs, hq⟩, q⟩
  · obtain ⟨its, rv, p, hz⟩ := I1.list hq
    refine wpAny_pyIter_list p.isList ?_
    exact ⟨s1.heap.objs.size, [s1.heap.objs.size], _, _, H1, rfl, I1.kept (t' := s1.toks) fun b o e => Heap.get?_push_of_some _ e, turn_list a _, ⟨_, Heap.get?_push_size _ rfl, rfl, rfl⟩, fin, q⟩
  · obtain ⟨its, rv, p, hz⟩ := I1.tuple hq
    refine wpAny_pyIter_tuple p ?_
    exact ⟨s1.heap.objs.size, [s1.heap.objs.size], _, _, H1, rfl, I1.kept (t' := s1.toks) fun b o e => Heap.get?_push_of_some _ e, turn_tuple a _, ⟨_, Heap.get?_push_size _ rfl, rfl, rfl⟩, fin, q⟩
noncomputable def tFrzE (te : TE) : TE := fun σ H Q => te σ H fun x H1 => ∃ a kvs, x = .ref a ∧ H1 a = some (.dK kvs) ∧ ∀ o, Q x (upd H1 a (.frz o (.dK kvs)))
theorem pe_frzE {X : Cx} {e : Expr} {te : TE} (h : PE X e te) : PE X e (tFrzE te) := by
  intro pins s σ H Q I hw
  refine thn (h pins s σ H _ I hw) fun v s1 ⟨x, H1, I1, r1, a, kvs, e, hk, q⟩ => ?_
  obtain ⟨o, I2⟩ := I1.freeze hk
  exact ⟨x, _, I2, r1, q o⟩
end L2
namespace Mr
open PySem L2
section
variable {k : Ks} {Ex : St → XK}
noncomputable def seqT : T → Option (List T)
  | .lst ts => some ts
  | .tup ts => some ts
  | _ => none
noncomputable def mItQ (a : ME) : MI := fun ρ => (a ρ).bind fun x => .ofO (x.dur.bind seqT)
theorem si_seq {te : TE} {me : ME} (he : SE k Ex te me) : SI k Ex (iSeq k.K te) (mItQ me) := by
  constructor
  intro R0 H0 R σ ρ H Q I h
  refine he.run I (Rs.holds_mono (Rs.holds_bind h) (fun x _ hx => ?_) fun c z => z)
  intro R1 H1 v e1 r1
  obtain ⟨ts, hz, hw⟩ := holds_ofO hx
  obtain ⟨t, ht, hz⟩ := Option.bind_eq_some_iff.mp hz
  obtain ⟨R2, e2, s2, r2, _⟩ := RepX.dur (Hs := H) e1 r1 ht
  cases t with
  | lst ts' =>
    cases hz
    unfold Rep at r2
    obtain ⟨p, us, rfl, h1, h2⟩ := r2
    exact ⟨p, rfl, .inl ⟨⟨us, e2.i.seq h1⟩, hw _ R2 H1 e2 (it_lst h1 h2)⟩⟩
  | tup ts' =>
    cases hz
    unfold Rep at r2
    obtain ⟨p, us, rfl, h1, h2⟩ := r2
    exact ⟨p, rfl, .inr ⟨⟨us, SqT.mono e2.i h1⟩, hw _ R2 H1 e2 (it_tup h1 h2)⟩⟩
  | _ => cases hz
noncomputable def frzD : XV → Rs XV
  | .ow (.d kvs) => .ok (.fz (.dct true (kvs.map (·.1)) (kvs.map (·.2))))
  | _ => .no
noncomputable def mFrzE (a : ME) : ME := fun ρ => (a ρ).bind frzD
theorem se_frzE {te : TE} {me : ME} (he : SE k Ex te me) : SE k Ex (tFrzE te) (mFrzE me) := by
  constructor
  intro R0 H0 R σ ρ H Q I h
  refine he.run I (Rs.holds_mono (Rs.holds_bind h) (fun x _ hx => ?_) fun c z => z)
  intro R1 H1 v e1 r1
  cases x with
  | fz t => exact hx.elim
  | bo o => exact hx.elim
  | ow o =>
    cases o with
    | l ts => exact hx.elim
    | d kvs =>
      obtain ⟨p, rfl, h2, h3, us, h4, h5⟩ := r1
      refine ⟨p, _, rfl, h4, fun o => ?_⟩
      have s1 : Same R1 (upd R1 p (.frz o (.dK ((kvs.map (·.1)).zip us)))) := same_upd0 h3
      refine hx (upd R1 p (.frz o (.dK ((kvs.map (·.1)).zip us)))) _ _ ⟨e1.r.trans s1, same_upd e1.h h2, fun b u q => ?_, fun b q1 q2 => ?_⟩ (repx_fz ?_)
      · by_cases hb : b = p
        · subst hb; rw [upd_same] at q ⊢; exact q
        · rw [upd_ne hb] at q ⊢; exact e1.i b u q
      · rw [upd_ne (fun z => q2 (by rw [z]; exact h2))]; exact e1.n b q1 q2
      · unfold Rep
        refine ⟨p, us, rfl, ⟨o, upd_same⟩, ?_, h5.mono s1⟩
        have := h5.length
        simp only [List.length_map] at this ⊢
        omega
end
end Mr
set_option Elab.async false
set_option linter.all false
set_option maxRecDepth 100000
set_option maxHeartbeats 4000000
namespace HT
open PySem PySem.Spec PyProof.Rows
section
variable {prog : Program} {w : World} {A : Around} {E : Value → Shared → Prop} {s : Shared}
end
end HT
namespace L2
open PySem PySem.Spec PyProof.Rows PySem.W
section
variable {X : Cx}
end
end L2
set_option Elab.async false
set_option linter.all false
set_option maxRecDepth 100000
set_option maxHeartbeats 4000000
namespace Mr
open PySem L2
theorem loop_range_from {mg : MG} {mb : MS} (enc : Nat → En) (N : Nat) (h : ∀ i, i < N → ∃ ρ1, mg (.int (0 + (i : Int))) (enc i) = some ρ1 ∧ (mb ρ1 = .nx (enc (i + 1)) ∨ mb ρ1 = .ct (enc (i + 1)))) : ∀ (m k : Nat), k + m = N → loop mg mb ((List.range' k m).map fun (i : Nat) => T.int (0 + (i : Int))) (enc k) = .nx (enc N)
  | 0, k, e => by
    rw [List.range'_zero, List.map_nil, loop_nil]
    congr 2
  | m + 1, k, e => by
    rw [List.range'_succ, List.map_cons]
    obtain ⟨ρ1, h1, h2⟩ := h k (by omega)
    have ih := loop_range_from enc N h m (k + 1) (by omega)
    rcases h2 with h2 | h2
    · rw [loop_nx h1 h2, ih]
    · rw [loop_ct h1 h2, ih]
theorem loop_range {mg : MG} {mb : MS} (enc : Nat → En) (n : Nat) (h : ∀ i, i < n → ∃ ρ1, mg (.int (0 + (i : Int))) (enc i) = some ρ1 ∧ (mb ρ1 = .nx (enc (i + 1)) ∨ mb ρ1 = .ct (enc (i + 1)))) : loop mg mb (ranT 0 n) (enc 0) = .nx (enc n) := by
  have := loop_range_from enc n h n 0 (by omega)
  unfold ranT
  rw [List.range_eq_range']
  exact this
theorem atI_map {α β : Type} (f : α → β) (xs : List α) (i : Int) : atI (xs.map f) i = (atI xs i).map f := by
  unfold atI
  rw [List.length_map]
  cases ixN xs.length i with
  | none => rfl
  | some j => simp
theorem atI_some {α : Type} {xs : List α} {i : Int} (h0 : 0 ≤ i) (h1 : i < xs.length) : atI xs i = some (xs[i.toNat]'(by omega)) := by
  obtain ⟨j, rfl⟩ := Int.eq_ofNat_of_zero_le h0
  exact atI_nat (List.getElem?_eq_getElem (by omega))
theorem mod_lt' (i : Int) {n : Int} (h : 0 < n) : 0 ≤ i % n ∧ i % n < n := ⟨Int.emod_nonneg i (by omega), Int.emod_lt_of_pos i h⟩
theorem itR1_nat {a : MA} {ρ : En} {x : XV} {n : Nat} (h : a ρ = .ok [x]) (hx : x.t = .int (n : Int)) (hn : n ≤ 1000000) : mItR1 a ρ = .ok (ranT 0 n) := by
  unfold mItR1
  rw [h, bind_ok, List.map_cons, List.map_nil, hx]
  show (if _ then Rs.ok (ranT 0 (n : Int).toNat) else Rs.no) = _
  have h1 : -(2 ^ 62) ≤ (n : Int) ∧ (n : Int) < 2 ^ 62 := ⟨by omega, by omega⟩
  rw [if_pos h1, Int.toNat_natCast]
theorem addE {i j : Int} : oAdd (.int i) (.int j) = some (.fz (.int (i + j))) := rfl
theorem subE {i j : Int} : oSub (.int i) (.int j) = some (.fz (.int (i - j))) := rfl
theorem ltE {i j : Int} : oLt (.int i) (.int j) = some (.fz (.bl (decide (i < j)))) := rfl
theorem leE {i j : Int} : oLe (.int i) (.int j) = some (.fz (.bl (decide (i ≤ j)))) := rfl
theorem gtE {i j : Int} : oGt (.int i) (.int j) = some (.fz (.bl (decide (j < i)))) := rfl
theorem geE {i j : Int} : oGe (.int i) (.int j) = some (.fz (.bl (decide (j ≤ i)))) := rfl
end Mr
set_option Elab.async false
set_option linter.all false
set_option maxRecDepth 100000
set_option maxHeartbeats 4000000
namespace SetT
open PySem PySem.SetTable
theorem php : ∀ (m n : Nat) (f : Nat → Nat), (∀ i, i < n → f i < m) → (∀ i j, i < n → j < n → f i = f j → i = j) → n ≤ m
  | 0, n, f, h, _ => by
    cases n with
    | zero => exact Nat.le_refl _
    | succ n => exact absurd (h 0 (Nat.succ_pos _)) (Nat.not_lt_zero _)
  | m + 1, n, f, h, hi => by
    cases n with
    | zero => exact Nat.zero_le _
    | succ n =>
      refine Nat.succ_le_succ (php m n (fun i => if f i = m then f n else f i) (fun i hin => ?_) fun i j hin hjn e => ?_)
      · have h1 := h i (by omega)
        have h2 := h n (by omega)
        by_cases e : f i = m
        · have : f n ≠ m := fun z => by have := hi i n (by omega) (by omega) (e.trans z.symm); omega
          simp only [e, if_true]; omega
        · simp only [e, if_false]; omega
      · by_cases e1 : f i = m <;> by_cases e2 : f j = m
        · exact hi i j (by omega) (by omega) (e1.trans e2.symm)
        · simp only [e1, e2, if_true, if_false] at e
          have := hi n j (by omega) (by omega) e; omega
        · simp only [e1, e2, if_true, if_false] at e
          have := hi i n (by omega) (by omega) e; omega
        · simp only [e1, e2, if_false] at e
          exact hi i j (by omega) (by omega) e
def Rising (xs : Array Nat) : Prop := ∀ i j (hi : i < xs.size) (hj : j < xs.size), i < j → xs[i] < xs[j]
theorem go_spec {xs : Array Nat} (R : Rising xs) (j : Nat) : ∀ (fuel lo hi : Nat), hi ≤ xs.size → lo ≤ hi → hi - lo ≤ fuel →
    (∀ i (h : i < xs.size), i < lo → xs[i] < j) → (∀ i (h : i < xs.size), hi ≤ i → j ≤ xs[i]) →
    (below.go xs j fuel lo hi ≤ xs.size ∧ (∀ i (h : i < xs.size), i < below.go xs j fuel lo hi → xs[i] < j) ∧ ∀ i (h : i < xs.size), below.go xs j fuel lo hi ≤ i → j ≤ xs[i])
  | 0, lo, hi, h1, h2, h3, h4, h5 => by
    unfold below.go
    have e : lo = hi := by omega
    subst e
    exact ⟨h1, h4, h5⟩
  | fuel + 1, lo, hi, h1, h2, h3, h4, h5 => by
    unfold below.go
    by_cases hl : lo < hi
    · rw [if_pos hl]
      have hm : (lo + hi) / 2 < xs.size := by omega
      have hg : xs.getD ((lo + hi) / 2) j = xs[(lo + hi) / 2] := by unfold Array.getD; rw [dif_pos hm]; rfl
      simp only [hg]
      by_cases hc : xs[(lo + hi) / 2] < j
      · rw [if_pos hc]
        refine go_spec R j fuel _ hi h1 (by omega) (by omega) (fun i h hi' => ?_) h5
        by_cases e : i = (lo + hi) / 2
        · subst e; exact hc
        · have := R i ((lo + hi) / 2) h hm (by omega); omega
      · rw [if_neg hc]
        refine go_spec R j fuel lo _ (by omega) (by omega) (by omega) h4 fun i h hi' => ?_
        by_cases e : i = (lo + hi) / 2
        · subst e; omega
        · have := R ((lo + hi) / 2) i hm h (by omega); omega
    · rw [if_neg hl]
      have e : lo = hi := by omega
      subst e
      exact ⟨h1, h4, h5⟩
theorem below_spec {xs : Array Nat} (R : Rising xs) (j : Nat) : below xs j ≤ xs.size ∧ (∀ i (h : i < xs.size), i < below xs j → xs[i] < j) ∧ ∀ i (h : i < xs.size), below xs j ≤ i → j ≤ xs[i] :=
  go_spec R j xs.size 0 xs.size (Nat.le_refl _) (Nat.zero_le _) (by omega) (fun i _ h => absurd h (Nat.not_lt_zero _)) fun i h h' => by omega
theorem below_at {xs : Array Nat} (R : Rising xs) {i : Nat} (h : i < xs.size) : below xs xs[i] = i := by
  obtain ⟨h1, h2, h3⟩ := below_spec R xs[i]
  rcases Nat.lt_trichotomy (below xs xs[i]) i with z | z | z
  · have hb : below xs xs[i] < xs.size := by omega
    have a := h3 _ hb (Nat.le_refl _)
    have b := R _ i hb h z
    omega
  · exact z
  · have := h2 i h z; omega
theorem slot_at {t : SetTable} (R : Rising t.place) {i : Nat} (h : i < t.place.size) : t.slot t.place[i] = .live i := by
  unfold SetTable.slot
  simp only [below_at R h]
  rw [if_pos (by simp [h])]
theorem slot_live {t : SetTable} {j i : Nat} (e : t.slot j = .live i) : t.place[i]? = some j := by
  unfold SetTable.slot at e
  simp only at e
  split at e
  · rename_i hc
    cases e
    exact eq_of_beq hc
  · split at e <;> cases e
theorem has_empty (j : Nat) : SetTable.has #[] j = false := by
  unfold SetTable.has
  simp
theorem slot_none {t : SetTable} (hd : t.dummies = #[]) {j : Nat} (h : j ∉ t.place) : t.slot j = .empty := by
  unfold SetTable.slot
  simp only
  rw [if_neg, hd, has_empty, if_neg (by decide)]
  intro z
  exact h (Array.mem_of_getElem? (eq_of_beq z))
noncomputable def adv (m : Nat) (p : Probe) : Probe := if p.more > 0 then { p with j := p.j + 1, more := p.more - 1 } else { p with j := (leap m p.i p.perturb).1, more := runEnd m (leap m p.i p.perturb).1 - (leap m p.i p.perturb).1, i := (leap m p.i p.perturb).1, perturb := (leap m p.i p.perturb).2 }
noncomputable def st (m i pt : Nat) : Probe := ⟨i, runEnd m i - i, i, pt, none⟩
noncomputable def road (m : Nat) (p : Probe) : Nat → Probe
  | 0 => p
  | n + 1 => adv m (road m p n)
theorem road_add (m : Nat) (p : Probe) (a : Nat) : ∀ b, road m p (a + b) = road m (road m p a) b
  | 0 => rfl
  | b + 1 => congrArg (adv m) (road_add m p a b)
theorem adv_dummy (m : Nat) (p : Probe) : (adv m p).dummy = p.dummy := by
  unfold adv
  split <;> rfl
theorem road_dummy (m : Nat) (p : Probe) : ∀ n, (road m p n).dummy = p.dummy
  | 0 => rfl
  | n + 1 => (adv_dummy m _).trans (road_dummy m p n)
theorem run_road (m i pt : Nat) : ∀ r, r ≤ runEnd m i - i → road m (st m i pt) r = ⟨i + r, runEnd m i - i - r, i, pt, none⟩
  | 0, _ => rfl
  | r + 1, h => by
    show adv m (road m (st m i pt) r) = _
    rw [run_road m i pt r (by omega)]
    unfold adv
    rw [if_pos (by show _ > 0; simp only; omega)]
    simp only [Probe.mk.injEq, and_true, true_and]
    exact ⟨by omega, by omega⟩
theorem run_leap (m i pt : Nat) : road m (st m i pt) (runEnd m i - i + 1) = st m (leap m i pt).1 (leap m i pt).2 := by
  show adv m (road m (st m i pt) (runEnd m i - i)) = _
  rw [run_road m i pt _ (Nat.le_refl _)]
  unfold adv
  rw [if_neg (by simp)]
  rfl
theorem run_le (m i : Nat) : runEnd m i - i ≤ 9 := by
  unfold runEnd
  split <;> omega
noncomputable def leaps (m i pt : Nat) : Nat → Nat × Nat
  | 0 => (i, pt)
  | k + 1 => leap m (leaps m i pt k).1 (leaps m i pt k).2
theorem leaps_add (m i pt a : Nat) : ∀ b, leaps m i pt (a + b) = leaps m (leaps m i pt a).1 (leaps m i pt a).2 b
  | 0 => rfl
  | b + 1 => by show leap m (leaps m i pt (a + b)).1 (leaps m i pt (a + b)).2 = _; rw [leaps_add m i pt a b]; rfl
theorem leaps_succ (m i pt k : Nat) : leaps m i pt (k + 1) = leaps m (leap m i pt).1 (leap m i pt).2 k := by
  rw [Nat.add_comm, leaps_add]; rfl
theorem road_leaps (m i pt : Nat) : ∀ k, ∃ n, n ≤ 10 * k ∧ road m (st m i pt) n = st m (leaps m i pt k).1 (leaps m i pt k).2
  | 0 => ⟨0, Nat.le_refl _, rfl⟩
  | k + 1 => by
    obtain ⟨n, hn, e⟩ := road_leaps m i pt k
    refine ⟨n + (runEnd m (leaps m i pt k).1 - (leaps m i pt k).1 + 1), ?_, ?_⟩
    · have := run_le m (leaps m i pt k).1; omega
    · rw [road_add, e, run_leap]; rfl
theorem leaps_pt (m i pt : Nat) : ∀ k, (leaps m i pt k).2 = pt / 32 ^ k
  | 0 => by simp [leaps]
  | k + 1 => by
    show (leaps m i pt k).2 / 32 = _
    rw [leaps_pt m i pt k, Nat.pow_succ, Nat.div_div_eq_div_mul]
theorem bits_lt (h : Int) : bits h < 2 ^ 64 := by
  unfold bits
  have h1 := Int.emod_nonneg h (b := 2 ^ 64) (by decide)
  have h2 := Int.emod_lt_of_pos h (b := 2 ^ 64) (by decide)
  omega
theorem leaps_done (m i : Nat) (h : Int) : (leaps m i (bits h) 13).2 = 0 := by
  rw [leaps_pt]
  exact Nat.div_eq_of_lt (Nat.lt_of_lt_of_le (bits_lt h) (by decide))
theorem leap_lt (m i pt : Nat) : (leap m i pt).1 < m + 1 := Nat.mod_lt _ (Nat.succ_pos m)
theorem cover7 : ∀ i, i < 8 → ∀ j, j < 8 → ∃ k, k < 8 ∧ (leaps 7 i 0 k).1 = j := by decide +kernel
theorem cover31 : ∀ i, i < 32 → ∀ j, j < 32 → ∃ k, k < 32 ∧ (leaps 31 i 0 k).1 = j := by decide +kernel
theorem cover_leaps {m : Nat} (hm : m = 7 ∨ m = 31) (i : Nat) (h : Int) {j : Nat} (hj : j < m + 1) : ∃ k, k < turns m ∧ (leaps m i (bits h) k).1 = j := by
  have e0 := leaps_done m i h
  have l0 : (leaps m i (bits h) 13).1 < m + 1 := leap_lt _ _ _
  have : ∃ k, k < m + 1 ∧ (leaps m (leaps m i (bits h) 13).1 0 k).1 = j := by
    rcases hm with rfl | rfl
    · exact cover7 _ l0 j hj
    · exact cover31 _ l0 j hj
  obtain ⟨k, hk, e⟩ := this
  refine ⟨13 + k, by unfold turns; omega, ?_⟩
  rw [leaps_add, e0]
  exact e
theorem cover {m : Nat} (hm : m = 7 ∨ m = 31) (i : Nat) (h : Int) {j : Nat} (hj : j < m + 1) : ∃ n, n < 10 * turns m ∧ (road m (st m i (bits h)) n).j = j := by
  obtain ⟨k, hk, e⟩ := cover_leaps hm i h hj
  obtain ⟨n, hn, e'⟩ := road_leaps m i (bits h) k
  exact ⟨n, by omega, by rw [e']; exact e⟩
end SetT
set_option Elab.async false
set_option linter.all false
set_option maxRecDepth 100000
set_option maxHeartbeats 4000000
namespace SetT
open PySem PySem.SetTable
noncomputable abbrev from0 (m : Nat) (h : Int) : Probe := st m (bits h % (m + 1)) (bits h)
structure Tab (t : SetTable) (hs : List Int) : Prop where
  sz : t.place.size = hs.length
  up : Rising t.place
  le : ∀ j, j ∈ t.place → j < t.mask + 1
  dm : t.dummies = #[]
  ms : t.mask = 7 ∨ t.mask = 31
  few : hs.length < t.mask + 1
  ch : ∀ (i : Nat) (h : Int), hs[i]? = some h → ∃ n j, t.place[i]? = some j ∧ (road t.mask (from0 t.mask h) n).j = j ∧ ∀ k, k < n → (road t.mask (from0 t.mask h) k).j ∈ t.place
theorem Tab.gap {t : SetTable} {hs : List Int} (T : Tab t hs) : ∃ j, j < t.mask + 1 ∧ j ∉ t.place := by
  refine Classical.byContradiction fun no => ?_
  have all : ∀ j, j < t.mask + 1 → ∃ i, ∃ h : i < t.place.size, t.place[i] = j := fun j hj => by
    have : j ∈ t.place := Classical.byContradiction fun z => no ⟨j, hj, z⟩
    exact Array.mem_iff_getElem.mp this
  have := php t.place.size (t.mask + 1) (fun j => if h : j < t.mask + 1 then (all j h).choose else 0) (fun j hj => by
    simp only [hj, dif_pos]
    exact (all j hj).choose_spec.choose) fun i j hi hj e => by
    simp only [hi, hj, dif_pos] at e
    obtain ⟨a, b⟩ := (all i hi).choose_spec
    obtain ⟨c, d⟩ := (all j hj).choose_spec
    rw [← b, ← d]
    simp only [e]
  have := T.few
  have := T.sz
  omega
theorem Tab.empty {t : SetTable} {hs : List Int} (T : Tab t hs) (h : Int) : ∃ n, n < 10 * turns t.mask ∧ t.slot (road t.mask (from0 t.mask h) n).j = .empty := by
  obtain ⟨j, hj, no⟩ := T.gap
  obtain ⟨n, hn, e⟩ := cover T.ms (bits h % (t.mask + 1)) h hj
  exact ⟨n, hn, by rw [e]; exact slot_none T.dm no⟩
theorem Tab.slot {t : SetTable} {hs : List Int} (T : Tab t hs) (j : Nat) : (j ∉ t.place ∧ t.slot j = .empty) ∨ ∃ i, i < hs.length ∧ t.place[i]? = some j ∧ t.slot j = .live i := by
  by_cases hj : j ∈ t.place
  · obtain ⟨i, h, e⟩ := Array.mem_iff_getElem.mp hj
    exact .inr ⟨i, by rw [← T.sz]; exact h, by rw [Array.getElem?_eq_getElem h, e], by rw [← e]; exact slot_at T.up h⟩
  · exact .inl ⟨hj, slot_none T.dm hj⟩
theorem go_meets {t : SetTable} {hs : List Int} (T : Tab t hs) (ha : Nat → Int) (h : Int) (p0 : Probe) (hp : p0.dummy = none) : ∀ (fuel n N : Nat), n ≤ N → N - n < fuel → t.slot (road t.mask p0 N).j = .empty →
    ∃ m, n ≤ m ∧ m ≤ N ∧ (∀ k, n ≤ k → k < m → ∃ i, i < hs.length ∧ t.slot (road t.mask p0 k).j = .live i ∧ ha i ≠ h) ∧
      ((probe.go t ha h fuel (road t.mask p0 n) = some (.empty (road t.mask p0 m).j none) ∧ (road t.mask p0 m).j ∉ t.place) ∨
       ∃ i, i < hs.length ∧ t.place[i]? = some (road t.mask p0 m).j ∧ t.slot (road t.mask p0 m).j = .live i ∧ ha i = h ∧ m < N ∧ probe.go t ha h fuel (road t.mask p0 n) = some (.candidate (road t.mask p0 m).j i (road t.mask p0 (m + 1))))
  | 0, n, N, _, hf, _ => absurd hf (Nat.not_lt_zero _)
  | fuel + 1, n, N, hn, hf, he => by
    rcases T.slot (road t.mask p0 n).j with ⟨h1, h2⟩ | ⟨i, h1, h2, h3⟩
    · refine ⟨n, Nat.le_refl _, hn, fun k a b => by omega, .inl ⟨?_, h1⟩⟩
      unfold probe.go
      rw [h2]
      simp only [road_dummy, hp]
    · have nN : n < N := by
        rcases Nat.lt_or_eq_of_le hn with z | z
        · exact z
        · rw [← z, h3] at he; cases he
      by_cases hh : ha i = h
      · refine ⟨n, Nat.le_refl _, hn, fun k a b => by omega, .inr ⟨i, h1, h2, h3, hh, nN, ?_⟩⟩
        unfold probe.go
        rw [h3]
        simp only [hh, beq_self_eq_true, if_true]
        rfl
      · obtain ⟨m, m1, m2, m3, m4⟩ := go_meets T ha h p0 hp fuel (n + 1) N nN (by omega) he
        have e : probe.go t ha h (fuel + 1) (road t.mask p0 n) = probe.go t ha h fuel (road t.mask p0 (n + 1)) := by
          conv => lhs; unfold probe.go
          rw [h3]
          simp only [beq_iff_eq, hh, if_false]
          rfl
        refine ⟨m, by omega, m2, fun k a b => ?_, ?_⟩
        · rcases Nat.lt_or_eq_of_le a with z | z
          · exact m3 k z b
          · exact ⟨i, h1, by rw [← z]; exact h3, hh⟩
        · rw [e]; exact m4
theorem Tab.meets {t : SetTable} {hs : List Int} (T : Tab t hs) (h : Int) {n N : Nat} (hn : n ≤ N) (hN : N < 10 * turns t.mask) (he : t.slot (road t.mask (from0 t.mask h) N).j = .empty) (ha : Nat → Int) :
    ∃ m, n ≤ m ∧ m ≤ N ∧ (∀ k, n ≤ k → k < m → ∃ i, i < hs.length ∧ t.slot (road t.mask (from0 t.mask h) k).j = .live i ∧ ha i ≠ h) ∧
      ((t.probe ha h (road t.mask (from0 t.mask h) n) = some (.empty (road t.mask (from0 t.mask h) m).j none) ∧ (road t.mask (from0 t.mask h) m).j ∉ t.place) ∨
       ∃ i, i < hs.length ∧ t.place[i]? = some (road t.mask (from0 t.mask h) m).j ∧ t.slot (road t.mask (from0 t.mask h) m).j = .live i ∧ ha i = h ∧ m < N ∧ t.probe ha h (road t.mask (from0 t.mask h) n) = some (.candidate (road t.mask (from0 t.mask h) m).j i (road t.mask (from0 t.mask h) (m + 1)))) :=
  go_meets T ha h _ rfl _ n N hn (by omega) he
theorem Tab.found {t : SetTable} {hs : List Int} (T : Tab t hs) {i : Nat} {h : Int} (hi : hs[i]? = some h) {m : Nat} (gap : (road t.mask (from0 t.mask h) m).j ∉ t.place) : ∃ k, k < m ∧ t.slot (road t.mask (from0 t.mask h) k).j = .live i := by
  obtain ⟨n, j, h1, h2, h3⟩ := T.ch i h hi
  have hl : i < t.place.size := by
    rcases Nat.lt_or_ge i t.place.size with z | z
    · exact z
    · rw [Array.getElem?_eq_none z] at h1; cases h1
  have e : t.place[i] = j := by rw [Array.getElem?_eq_getElem hl] at h1; exact Option.some.inj h1
  refine ⟨n, ?_, by rw [h2, ← e]; exact slot_at T.up hl⟩
  rcases Nat.lt_trichotomy n m with z | z | z
  · exact z
  · subst z; exact absurd (by rw [h2, ← e]; exact Array.getElem_mem hl) gap
  · exact absurd (h3 m z) gap
theorem insertAt_list {α : Type} (xs : Array α) (p : Nat) (x : α) : (SetTable.insertAt xs p x).toList = xs.toList.take p ++ x :: xs.toList.drop p := by
  simp [SetTable.insertAt, List.extract_eq_take_drop, List.take_of_length_le]
theorem insertAt_get {α : Type} (xs : Array α) {p : Nat} (hp : p ≤ xs.size) (x : α) (i : Nat) : (SetTable.insertAt xs p x)[i]? = if i < p then xs[i]? else if i = p then some x else xs[i - 1]? := by
  rw [← Array.getElem?_toList, insertAt_list, List.getElem?_append]
  have e : (List.take p xs.toList).length = p := by simp; omega
  rw [e]
  by_cases h1 : i < p
  · simp only [h1, if_true]
    rw [List.getElem?_take_of_lt h1]; simp
  · simp only [h1, if_false]
    by_cases h2 : i = p
    · subst h2; simp
    · simp only [h2, if_false]
      obtain ⟨d, rfl⟩ : ∃ d, i = p + d + 1 := ⟨i - p - 1, by omega⟩
      have : p + d + 1 - p = d + 1 := by omega
      rw [this, List.getElem?_cons_succ, List.getElem?_drop]
      simp
theorem insertAt_size {α : Type} (xs : Array α) {p : Nat} (hp : p ≤ xs.size) (x : α) : (SetTable.insertAt xs p x).size = xs.size + 1 := by
  rw [← Array.length_toList, insertAt_list, List.length_append, List.length_cons, List.length_take, List.length_drop, Array.length_toList]
  omega
theorem mem_insertAt {xs : Array Nat} (p x y : Nat) : y ∈ SetTable.insertAt xs p x ↔ y ∈ xs ∨ y = x := by
  rw [← Array.mem_toList_iff, insertAt_list, ← Array.mem_toList_iff]
  conv => rhs; rw [← List.take_append_drop p xs.toList]
  simp only [List.mem_append, List.mem_cons]
  constructor
  · rintro (h | h | h)
    · exact .inl (.inl h)
    · exact .inr h
    · exact .inl (.inr h)
  · rintro ((h | h) | h)
    · exact .inl h
    · exact .inr (.inr h)
    · exact .inr (.inl h)
theorem rising_insert {xs : Array Nat} (R : Rising xs) {j : Nat} (h : j ∉ xs) : Rising (SetTable.insertAt xs (below xs j) j) := by
  obtain ⟨b1, b2, b3⟩ := below_spec R j
  intro i k hi hk hik
  have ei := insertAt_get xs b1 j i
  have ek := insertAt_get xs b1 j k
  rw [Array.getElem?_eq_getElem hi] at ei
  rw [Array.getElem?_eq_getElem hk] at ek
  have hs := insertAt_size xs b1 j
  have ne : ∀ i (h' : i < xs.size), xs[i] ≠ j := fun i h' z => h (by rw [← z]; exact Array.getElem_mem h')
  by_cases i1 : i < below xs j
  · rw [if_pos i1] at ei
    have i2 : i < xs.size := by omega
    rw [Array.getElem?_eq_getElem i2] at ei
    have vi := b2 i i2 i1
    by_cases k1 : k < below xs j
    · rw [if_pos k1, Array.getElem?_eq_getElem (by omega : k < xs.size)] at ek
      rw [Option.some.inj ei, Option.some.inj ek]
      exact R i k i2 (by omega) hik
    · rw [if_neg k1] at ek
      by_cases k2 : k = below xs j
      · rw [if_pos k2] at ek
        rw [Option.some.inj ei, Option.some.inj ek]; exact vi
      · rw [if_neg k2, Array.getElem?_eq_getElem (by omega : k - 1 < xs.size)] at ek
        rw [Option.some.inj ei, Option.some.inj ek]
        have := b3 (k - 1) (by omega) (by omega)
        omega
  · rw [if_neg i1] at ei
    have k1 : ¬ k < below xs j := by omega
    have k2 : ¬ k = below xs j := by omega
    rw [if_neg k1, if_neg k2, Array.getElem?_eq_getElem (by omega : k - 1 < xs.size)] at ek
    by_cases i2 : i = below xs j
    · rw [if_pos i2] at ei
      rw [Option.some.inj ei, Option.some.inj ek]
      have a := b3 (k - 1) (by omega) (by omega)
      have b := ne (k - 1) (by omega)
      omega
    · rw [if_neg i2, Array.getElem?_eq_getElem (by omega : i - 1 < xs.size)] at ei
      rw [Option.some.inj ei, Option.some.inj ek]
      exact R _ _ (by omega) (by omega) (by omega)
noncomputable def insL {α : Type} (xs : List α) (p : Nat) (x : α) : List α := xs.take p ++ x :: xs.drop p
theorem insL_get {α : Type} (xs : List α) {p : Nat} (hp : p ≤ xs.length) (x : α) (i : Nat) : (insL xs p x)[i]? = if i < p then xs[i]? else if i = p then some x else xs[i - 1]? := by
  have := insertAt_get xs.toArray (p := p) (by simpa using hp) x i
  rw [← Array.getElem?_toList, insertAt_list] at this
  simpa [insL] using this
theorem insL_len {α : Type} (xs : List α) {p : Nat} (hp : p ≤ xs.length) (x : α) : (insL xs p x).length = xs.length + 1 := by
  unfold insL
  rw [List.length_append, List.length_cons, List.length_take, List.length_drop]
  omega
theorem Tab.put {t : SetTable} {hs : List Int} (T : Tab t hs) {h : Int} {m : Nat} (before : ∀ k, k < m → (road t.mask (from0 t.mask h) k).j ∈ t.place) (gap : (road t.mask (from0 t.mask h) m).j ∉ t.place) (room : hs.length + 1 < t.mask + 1) (le : (road t.mask (from0 t.mask h) m).j < t.mask + 1) :
    (t.put (road t.mask (from0 t.mask h) m).j).2 ≤ hs.length ∧ Tab (t.put (road t.mask (from0 t.mask h) m).j).1 (insL hs (t.put (road t.mask (from0 t.mask h) m).j).2 h) := by
  obtain ⟨b1, b2, b3⟩ := below_spec T.up (road t.mask (from0 t.mask h) m).j
  have hp : below t.place (road t.mask (from0 t.mask h) m).j ≤ hs.length := by rw [← T.sz]; exact b1
  refine ⟨hp, ?_⟩
  have mem : ∀ y, y ∈ t.place → y ∈ SetTable.insertAt t.place (below t.place (road t.mask (from0 t.mask h) m).j) (road t.mask (from0 t.mask h) m).j := fun y hy => (mem_insertAt _ _ _).mpr (.inl hy)
  refine ⟨?_, rising_insert T.up gap, fun j hj => ?_, ?_, T.ms, ?_, fun i h' hi => ?_⟩
  · show (SetTable.insertAt _ _ _).size = (insL _ (below _ _) _).length
    rw [insertAt_size _ b1, insL_len _ hp, T.sz]
  · rcases (mem_insertAt _ _ _).mp hj with z | z
    · exact T.le j z
    · rw [z]; exact le
  · show (if SetTable.has t.dummies _ = true then _ else t.dummies) = _
    rw [T.dm, has_empty, if_neg (by decide)]
  · show (insL _ (below _ _) _).length < _
    rw [insL_len _ hp]
    exact room
  · change (insL hs (below _ _) h)[i]? = some h' at hi
    show ∃ n j, (SetTable.insertAt _ _ _)[i]? = some j ∧ _
    rw [insL_get _ hp] at hi
    rw [insertAt_get _ b1]
    by_cases i1 : i < below t.place (road t.mask (from0 t.mask h) m).j
    · rw [if_pos i1] at hi ⊢
      obtain ⟨n, j, h1, h2, h3⟩ := T.ch i h' hi
      exact ⟨n, j, h1, h2, fun k hk => mem _ (h3 k hk)⟩
    · rw [if_neg i1] at hi ⊢
      by_cases i2 : i = below t.place (road t.mask (from0 t.mask h) m).j
      · rw [if_pos i2] at hi ⊢
        cases hi
        exact ⟨m, _, rfl, rfl, fun k hk => mem _ (before k hk)⟩
      · rw [if_neg i2] at hi ⊢
        obtain ⟨n, j, h1, h2, h3⟩ := T.ch (i - 1) h' hi
        exact ⟨n, j, h1, h2, fun k hk => mem _ (h3 k hk)⟩
theorem fresh_tab (led : Bool) : Tab (SetTable.fresh 0 0 led) [] :=
  ⟨rfl, fun i j hi => absurd hi (Nat.not_lt_zero _), fun j hj => absurd hj (by simp [SetTable.fresh]), rfl, .inl rfl, by show 0 < 8; omega, fun i h hi => by simp at hi⟩
end SetT
set_option Elab.async false
set_option linter.all false
set_option maxRecDepth 100000
set_option maxHeartbeats 4000000
namespace SetT
open PySem PySem.SetTable
theorem runEnd_le {m i : Nat} (h : i < m + 1) : runEnd m i ≤ m := by
  unfold runEnd
  split <;> omega
theorem le_runEnd (m i : Nat) : i ≤ runEnd m i := by
  unfold runEnd
  split <;> omega
theorem road_in (m i pt : Nat) (h : i < m + 1) : ∀ n, (road m (st m i pt) n).j + (road m (st m i pt) n).more ≤ m
  | 0 => by
    show i + (runEnd m i - i) ≤ m
    have := runEnd_le h
    have := le_runEnd m i
    omega
  | n + 1 => by
    have ih := road_in m i pt h n
    show (adv m (road m (st m i pt) n)).j + (adv m (road m (st m i pt) n)).more ≤ m
    generalize road m (st m i pt) n = p at ih ⊢
    unfold adv
    split
    · simp only; omega
    · simp only
      have := runEnd_le (leap_lt m p.i p.perturb)
      have := le_runEnd m (leap m p.i p.perturb).1
      omega
theorem road_lt (m : Nat) (h : Int) (n : Nat) : (road m (from0 m h) n).j < m + 1 := by
  have := road_in m (bits h % (m + 1)) (bits h) (Nat.mod_lt _ (Nat.succ_pos m)) n
  exact Nat.lt_succ_of_le (Nat.le_trans (Nat.le_add_right _ _) this)
theorem free_spec {m : Nat} {ow : Array (Option Nat)} (hz : ow.size = m + 1) : ∀ (fuel i pt : Nat), i < m + 1 → (∃ k, k < fuel ∧ ow[(leaps m i pt k).1]? = some none) →
    ∃ n, layClean.free m ow fuel i pt = some (road m (st m i pt) n).j ∧ ow[(road m (st m i pt) n).j]? = some none ∧ ∀ k, k < n → ∃ q, ow[(road m (st m i pt) k).j]? = some (some q)
  | 0, i, pt, _, h => by obtain ⟨k, hk, _⟩ := h; exact absurd hk (Nat.not_lt_zero _)
  | fuel + 1, i, pt, hi, h => by
    have r1 := runEnd_le hi
    have r2 := le_runEnd m i
    have at' : ∀ k, k < runEnd m i + 1 - i → ∃ o, ow[i + k]? = some o ∧ ((ow.getD (i + k) (some 0)).isNone = o.isNone) := fun k hk => by
      have hl : i + k < ow.size := by omega
      exact ⟨ow[i + k], Array.getElem?_eq_getElem hl, by unfold Array.getD; rw [dif_pos hl]; rfl⟩
    unfold layClean.free
    cases hf : (List.range (runEnd m i + 1 - i)).find? fun k => (ow.getD (i + k) (some 0)).isNone with
    | some k =>
      obtain ⟨f1, f2, f3⟩ := List.find?_range_eq_some.mp hf
      have f2 := List.mem_range.mp f2
      refine ⟨k, ?_, ?_, fun k' hk' => ?_⟩
      · rw [run_road m i pt k (by omega)]
      · rw [run_road m i pt k (by omega)]
        obtain ⟨o, o1, o2⟩ := at' k f2
        rw [o2] at f1
        cases o with
        | none => exact o1
        | some q => cases f1
      · rw [run_road m i pt k' (by omega)]
        obtain ⟨o, o1, o2⟩ := at' k' (by omega)
        have := f3 k' hk'
        rw [o2] at this
        cases o with
        | none => cases this
        | some q => exact ⟨q, o1⟩
    | none =>
      have f := List.find?_range_eq_none.mp hf
      have run : ∀ k, k ≤ runEnd m i - i → ∃ q, ow[i + k]? = some (some q) := fun k hk => by
        obtain ⟨o, o1, o2⟩ := at' k (by omega)
        have := f k (by omega)
        rw [o2] at this
        cases o with
        | none => cases this
        | some q => exact ⟨q, o1⟩
      obtain ⟨k, hk, e⟩ := h
      cases k with
      | zero =>
        obtain ⟨q, e'⟩ := run 0 (Nat.zero_le _)
        rw [Nat.add_zero] at e'
        rw [show (leaps m i pt 0).1 = i from rfl, e'] at e
        cases e
      | succ k =>
        rw [leaps_succ] at e
        obtain ⟨n, n1, n2, n3⟩ := free_spec hz fuel (leap m i pt).1 (leap m i pt).2 (leap_lt _ _ _) ⟨k, by omega, e⟩
        have er : ∀ x, road m (st m i pt) (runEnd m i - i + 1 + x) = road m (st m (leap m i pt).1 (leap m i pt).2) x := fun x => by rw [road_add, run_leap]
        refine ⟨runEnd m i - i + 1 + n, ?_, ?_, fun k' hk' => ?_⟩
        · rw [er]; exact n1
        · rw [er]; exact n2
        · by_cases c : k' ≤ runEnd m i - i
          · rw [run_road m i pt k' c]; exact run k' c
          · obtain ⟨d, rfl⟩ : ∃ d, k' = runEnd m i - i + 1 + d := ⟨k' - (runEnd m i - i + 1), by omega⟩
            rw [er]; exact n3 d (by omega)
structure Lay (m : Nat) (ow : Array (Option Nat)) (hs : List Int) : Prop where
  sz : ow.size = m + 1
  lt : ∀ (j q : Nat), ow[j]? = some (some q) → q < hs.length
  inj : ∀ (j j' q : Nat), ow[j]? = some (some q) → ow[j']? = some (some q) → j = j'
  ch : ∀ (q : Nat) (h : Int), hs[q]? = some h → ∃ (n j : Nat), ow[j]? = some (some q) ∧ (road m (from0 m h) n).j = j ∧ ∀ k, k < n → ∃ q', ow[(road m (from0 m h) k).j]? = some (some q')
theorem Lay.gap {m : Nat} {ow : Array (Option Nat)} {hs : List Int} (L : Lay m ow hs) (h : hs.length < m + 1) : ∃ j : Nat, j < m + 1 ∧ ow[j]? = some none := by
  refine Classical.byContradiction fun no => ?_
  have all : ∀ j, j < m + 1 → ∃ q, ow[j]? = some (some q) := fun j hj => by
    have hl : j < ow.size := by rw [L.sz]; exact hj
    cases e : ow[j] with
    | none => exact absurd ⟨j, hj, by rw [Array.getElem?_eq_getElem hl, e]⟩ no
    | some q => exact ⟨q, by rw [Array.getElem?_eq_getElem hl, e]⟩
  have := php hs.length (m + 1) (fun j => if h : j < m + 1 then (all j h).choose else 0) (fun j hj => by
    simp only [hj, dif_pos]
    exact L.lt _ _ (all j hj).choose_spec) fun i j hi hj e => by
    simp only [hi, hj, dif_pos] at e
    have a := (all i hi).choose_spec
    have b := (all j hj).choose_spec
    rw [← e] at b
    exact L.inj _ _ _ a b
  omega
noncomputable def layStep (m : Nat) (acc : Option (Array (Option Nat) × Nat)) (h : Int) : Option (Array (Option Nat) × Nat) := acc.bind fun x => (layClean.free m x.1 (turns m) (bits h % (m + 1)) (bits h)).bind fun j => some (x.1.setIfInBounds j (some x.2), x.2 + 1)
theorem Lay.step {m : Nat} (hm : m = 7 ∨ m = 31) {ow : Array (Option Nat)} {hs : List Int} (L : Lay m ow hs) (h : Int) (hl : hs.length < m + 1) : ∃ ow', layStep m (some (ow, hs.length)) h = some (ow', hs.length + 1) ∧ Lay m ow' (hs ++ [h]) := by
  obtain ⟨j0, hj0, e0⟩ := L.gap hl
  obtain ⟨k, hk, ek⟩ := cover_leaps hm (bits h % (m + 1)) h hj0
  obtain ⟨n, n1, n2, n3⟩ := free_spec L.sz (turns m) (bits h % (m + 1)) (bits h) (Nat.mod_lt _ (Nat.succ_pos m)) ⟨k, hk, by rw [ek]; exact e0⟩
  generalize hj : (road m (st m (bits h % (m + 1)) (bits h)) n).j = j at n1 n2
  have jl : j < ow.size := by
    rcases Nat.lt_or_ge j ow.size with z | z
    · exact z
    · rw [Array.getElem?_eq_none z] at n2; cases n2
  have get : ∀ i : Nat, (ow.setIfInBounds j (some hs.length))[i]? = if i = j then some (some hs.length) else ow[i]? := fun i => by
    rw [Array.getElem?_setIfInBounds]
    by_cases e : j = i
    · subst e; simp [jl]
    · rw [if_neg e, if_neg (fun z => e z.symm)]
  refine ⟨ow.setIfInBounds j (some hs.length), ?_, ⟨by rw [Array.size_setIfInBounds]; exact L.sz, fun i q e => ?_, fun i i' q e e' => ?_, fun q h' e => ?_⟩⟩
  · unfold layStep
    rw [Option.bind_some, n1, Option.bind_some]
  · rw [get] at e
    rw [List.length_append, List.length_singleton]
    by_cases c : i = j
    · rw [if_pos c] at e; cases e; omega
    · rw [if_neg c] at e; have := L.lt _ _ e; omega
  · rw [get] at e e'
    by_cases c : i = j <;> by_cases c' : i' = j
    · omega
    · rw [if_pos c] at e; rw [if_neg c'] at e'; cases e; have := L.lt _ _ e'; omega
    · rw [if_neg c] at e; rw [if_pos c'] at e'; cases e'; have := L.lt _ _ e; omega
    · rw [if_neg c] at e; rw [if_neg c'] at e'; exact L.inj _ _ _ e e'
  · have keep : ∀ (i q' : Nat), ow[i]? = some (some q') → (ow.setIfInBounds j (some hs.length))[i]? = some (some q') := fun i q' e' => by
      rw [get, if_neg, e']
      intro z; subst z; rw [n2] at e'; cases e'
    rw [List.getElem?_append] at e
    by_cases c : q < hs.length
    · rw [if_pos c] at e
      obtain ⟨n', j', a, b, d⟩ := L.ch q h' e
      exact ⟨n', j', keep _ _ a, b, fun k hk => let ⟨q', e'⟩ := d k hk; ⟨q', keep _ _ e'⟩⟩
    · rw [if_neg c] at e
      have hq : q = hs.length := by
        rcases Nat.lt_or_ge (q - hs.length) 1 with z | z
        · omega
        · rw [List.getElem?_eq_none (by simpa using z)] at e; cases e
      subst hq
      rw [Nat.sub_self] at e
      cases e
      exact ⟨n, j, by rw [get, if_pos rfl], hj, fun k hk => let ⟨q', e'⟩ := n3 k hk; ⟨q', keep _ _ e'⟩⟩
theorem lay_all {m : Nat} (hm : m = 7 ∨ m = 31) : ∀ (rest done : List Int) (ow : Array (Option Nat)), Lay m ow done → done.length + rest.length < m + 1 → ∃ ow', rest.foldl (layStep m) (some (ow, done.length)) = some (ow', done.length + rest.length) ∧ Lay m ow' (done ++ rest)
  | [], done, ow, L, _ => ⟨ow, rfl, by rw [List.append_nil]; exact L⟩
  | h :: rest, done, ow, L, hl => by
    rw [List.length_cons] at hl
    obtain ⟨ow', e, L'⟩ := L.step hm h (by omega)
    obtain ⟨ow2, e2, L2⟩ := lay_all hm rest (done ++ [h]) ow' L' (by rw [List.length_append, List.length_singleton]; omega)
    rw [List.length_append, List.length_singleton] at e2
    refine ⟨ow2, ?_, by rw [List.append_assoc] at L2; exact L2⟩
    rw [List.foldl_cons, e, e2, List.length_cons]
    congr 2
    omega
theorem layClean_spec {m : Nat} (hm : m = 7 ∨ m = 31) (hs : List Int) (hl : hs.length < m + 1) : ∃ ow, layClean m hs.toArray = some ow ∧ Lay m ow hs := by
  have L0 : Lay m (Array.replicate (m + 1) none) [] := by
    have none_at : ∀ (j q : Nat), (Array.replicate (m + 1) (none : Option Nat))[j]? ≠ some (some q) := fun j q e => by
      rw [Array.getElem?_replicate] at e
      split at e <;> cases e
    exact ⟨Array.size_replicate, fun j q e => absurd e (none_at j q), fun j j' q e => absurd e (none_at j q), fun q h e => by simp at e⟩
  obtain ⟨ow, e, L⟩ := lay_all hm hs [] _ L0 (by simpa using hl)
  refine ⟨ow, ?_, by simpa using L⟩
  unfold layClean
  have : (fun (acc : Option (Array (Option Nat) × Nat)) (h : Int) => (do
    let (owner, k) ← acc
    let j ← layClean.free m owner (turns m) (bits h % (m + 1)) (bits h)
    pure (owner.setIfInBounds j (some k), k + 1) : Option (Array (Option Nat) × Nat))) = layStep m := by
    funext acc h
    cases acc with
    | none => rfl
    | some x => rfl
  rw [this, List.foldl_toArray, show (0 : Nat) = ([] : List Int).length from rfl, e]
  rfl
end SetT
set_option Elab.async false
set_option linter.all false
set_option maxRecDepth 100000
set_option maxHeartbeats 4000000
namespace SetT
open PySem PySem.SetTable
noncomputable def liveOf (m : Nat) (ow : Array (Option Nat)) : List (Nat × Nat) := (List.range (m + 1)).filterMap fun j => (ow.getD j none).map (j, ·)
theorem mem_liveOf {m : Nat} {ow : Array (Option Nat)} (hz : ow.size = m + 1) (j q : Nat) : (j, q) ∈ liveOf m ow ↔ ow[j]? = some (some q) := by
  unfold liveOf
  rw [List.mem_filterMap]
  constructor
  · rintro ⟨j', h1, h2⟩
    have hl : j' < ow.size := by rw [hz]; exact List.mem_range.mp h1
    have hg : ow.getD j' none = ow[j'] := by unfold Array.getD; rw [dif_pos hl]; rfl
    rw [hg, Option.map_eq_some_iff] at h2
    obtain ⟨q', e1, e2⟩ := h2
    cases e2
    rw [Array.getElem?_eq_getElem hl, e1]
  · intro h
    have hl : j < ow.size := by
      rcases Nat.lt_or_ge j ow.size with z | z
      · exact z
      · rw [Array.getElem?_eq_none z] at h; cases h
    have hg : ow.getD j none = ow[j] := by unfold Array.getD; rw [dif_pos hl]; rfl
    rw [Array.getElem?_eq_getElem hl] at h
    refine ⟨j, List.mem_range.mpr (by omega), ?_⟩
    rw [hg, Option.some.inj h]
    rfl
theorem live_up (m : Nat) (ow : Array (Option Nat)) : (liveOf m ow).Pairwise fun a b => a.1 < b.1 := by
  unfold liveOf
  rw [List.pairwise_filterMap]
  refine List.Pairwise.imp ?_ List.pairwise_lt_range
  intro a b h x hx y hy
  rw [Option.map_eq_some_iff] at hx hy
  obtain ⟨_, _, rfl⟩ := hx
  obtain ⟨_, _, rfl⟩ := hy
  exact h
theorem live_lt {m : Nat} {ow : Array (Option Nat)} {i k : Nat} (hi : i < (liveOf m ow).length) (hk : k < (liveOf m ow).length) (h : i < k) : (liveOf m ow)[i].1 < (liveOf m ow)[k].1 :=
  List.pairwise_iff_getElem.mp (live_up m ow) i k hi hk h
theorem live_len {m : Nat} {ow : Array (Option Nat)} {hs : List Int} (L : Lay m ow hs) : (liveOf m ow).length = hs.length := by
  have at' : ∀ i (hi : i < (liveOf m ow).length), ow[(liveOf m ow)[i].1]? = some (some (liveOf m ow)[i].2) := fun i hi => (mem_liveOf L.sz _ _).mp (List.getElem_mem hi)
  refine Nat.le_antisymm ?_ ?_
  · refine php _ _ (fun i => if h : i < (liveOf m ow).length then (liveOf m ow)[i].2 else 0) (fun i hi => ?_) fun i k hi hk e => ?_
    · simp only [hi, dif_pos]; exact L.lt _ _ (at' i hi)
    · simp only [hi, hk, dif_pos] at e
      have a := at' i hi
      have b := at' k hk
      rw [← e] at b
      have z := L.inj _ _ _ a b
      rcases Nat.lt_trichotomy i k with y | y | y
      · have := live_lt hi hk y; omega
      · exact y
      · have := live_lt hk hi y; omega
  · have ex : ∀ q, q < hs.length → ∃ i, ∃ h : i < (liveOf m ow).length, (liveOf m ow)[i].2 = q := fun q hq => by
      obtain ⟨n, j, e, _⟩ := L.ch q _ (List.getElem?_eq_getElem hq)
      obtain ⟨i, h, e'⟩ := List.mem_iff_getElem.mp ((mem_liveOf L.sz j q).mpr e)
      exact ⟨i, h, by rw [e']⟩
    refine php _ _ (fun q => if h : q < hs.length then (ex q h).choose else 0) (fun q hq => ?_) fun q r hq hr e => ?_
    · simp only [hq, dif_pos]; exact (ex q hq).choose_spec.choose
    · simp only [hq, hr, dif_pos] at e
      obtain ⟨a, b⟩ := (ex q hq).choose_spec
      obtain ⟨c, d⟩ := (ex r hr).choose_spec
      rw [← b, ← d]
      simp only [e]
theorem filterMap_at {α : Type} (es : Array α) : ∀ (l : List Nat), (∀ q ∈ l, q < es.size) → ∀ i : Nat, (l.filterMap (fun q => es[q]?))[i]? = l[i]?.bind fun q => es[q]?
  | [], _, i => by simp
  | q :: l, h, i => by
    have hq := h q (List.mem_cons_self)
    rw [List.filterMap_cons_some (b := es[q]) (Array.getElem?_eq_getElem hq)]
    cases i with
    | zero => simp [hq]
    | succ i => rw [List.getElem?_cons_succ, List.getElem?_cons_succ]; exact filterMap_at es l (fun r hr => h r (List.mem_cons_of_mem _ hr)) i
theorem filterMap_len {α : Type} (es : Array α) : ∀ (l : List Nat), (∀ q ∈ l, q < es.size) → (l.filterMap (fun q => es[q]?)).length = l.length
  | [], _ => rfl
  | q :: l, h => by
    have hq := h q (List.mem_cons_self)
    rw [List.filterMap_cons_some (b := es[q]) (Array.getElem?_eq_getElem hq), List.length_cons, List.length_cons, filterMap_len es l fun r hr => h r (List.mem_cons_of_mem _ hr)]
noncomputable def hashesOf (es : Array (Int × Value)) : List Int := es.toList.map (·.1)
theorem laid_tab {m : Nat} (hm : m = 7 ∨ m = 31) (fg mv : Nat) (led plain : Bool) (es : Array (Int × Value)) (hl : es.size < m + 1) :
    ∃ t order, laid m fg mv led plain (es.map (·.1)) = some (t, order) ∧ t.mask = m ∧ (order.filterMap (es[·]?)).size = es.size ∧ (∀ e, e ∈ order.filterMap (es[·]?) ↔ e ∈ es) ∧ Tab t (hashesOf (order.filterMap (es[·]?))) := by
  have hh : (es.map (·.1)) = (hashesOf es).toArray := by
    apply Array.ext'
    simp [hashesOf]
  have hlen : (hashesOf es).length = es.size := by simp [hashesOf]
  obtain ⟨ow, e, L⟩ := layClean_spec hm (hashesOf es) (by rw [hlen]; exact hl)
  have ll := live_len L
  have at' : ∀ i (hi : i < (liveOf m ow).length), ow[(liveOf m ow)[i].1]? = some (some (liveOf m ow)[i].2) := fun i hi => (mem_liveOf L.sz _ _).mp (List.getElem_mem hi)
  have inr : ∀ q ∈ (liveOf m ow).map (·.2), q < es.size := fun q hq => by
    obtain ⟨⟨j, q'⟩, h1, rfl⟩ := List.mem_map.mp hq
    rw [← hlen]
    exact L.lt _ _ ((mem_liveOf L.sz _ _).mp h1)
  have el : ((((liveOf m ow).map (·.2)).toArray.filterMap (es[·]?)).toList) = ((liveOf m ow).map (·.2)).filterMap (fun q => es[q]?) := by
    rw [Array.toList_filterMap]
  refine ⟨{ mask := m, place := ((liveOf m ow).map (·.1)).toArray, dummies := #[], finger := fg, led := led, moves := mv, plain := plain }, ((liveOf m ow).map (·.2)).toArray, ?_, rfl, ?_, fun x => ?_, ⟨?_, ?_, ?_, rfl, hm, ?_, ?_⟩⟩
  · unfold laid
    rw [hh, e]
    rfl
  · show (((liveOf m ow).map (·.2)).toArray.filterMap (es[·]?)).size = _
    rw [← Array.length_toList, el, filterMap_len es _ inr, List.length_map, ll, hlen]
  · show x ∈ ((liveOf m ow).map (·.2)).toArray.filterMap (es[·]?) ↔ _
    rw [← Array.mem_toList_iff, el, List.mem_filterMap]
    constructor
    · rintro ⟨q, _, e2⟩
      exact Array.mem_of_getElem? e2
    · intro hx
      obtain ⟨q, hq, e2⟩ := Array.mem_iff_getElem.mp hx
      obtain ⟨n, j, e3, _⟩ := L.ch q _ (List.getElem?_eq_getElem (by rw [hlen]; exact hq))
      exact ⟨q, List.mem_map.mpr ⟨(j, q), (mem_liveOf L.sz _ _).mpr e3, rfl⟩, by rw [Array.getElem?_eq_getElem hq, e2]⟩
  · show ((liveOf m ow).map (·.1)).toArray.size = (hashesOf (((liveOf m ow).map (·.2)).toArray.filterMap (es[·]?))).length
    unfold hashesOf
    rw [List.length_map, el, filterMap_len es _ inr]
    simp
  · show Rising ((liveOf m ow).map (·.1)).toArray
    intro i k hi hk h
    simp only [List.size_toArray, List.length_map] at hi hk
    simp only [List.getElem_toArray, List.getElem_map]
    exact live_lt hi hk h
  · show ∀ j, j ∈ ((liveOf m ow).map (·.1)).toArray → j < m + 1
    intro j hj
    rw [List.mem_toArray] at hj
    obtain ⟨⟨j', q⟩, h1, rfl⟩ := List.mem_map.mp hj
    have h2 := (mem_liveOf L.sz _ _).mp h1
    rcases Nat.lt_or_ge j' ow.size with z | z
    · rw [← L.sz]; exact z
    · rw [Array.getElem?_eq_none z] at h2; cases h2
  · show (hashesOf (((liveOf m ow).map (·.2)).toArray.filterMap (es[·]?))).length < m + 1
    unfold hashesOf
    rw [List.length_map, el, filterMap_len es _ inr, List.length_map, ll, hlen]
    exact hl
  · show ∀ (i : Nat) (h : Int), (hashesOf (((liveOf m ow).map (·.2)).toArray.filterMap (es[·]?)))[i]? = some h → ∃ n j, ((liveOf m ow).map (·.1)).toArray[i]? = some j ∧ (road m (from0 m h) n).j = j ∧ ∀ k, k < n → (road m (from0 m h) k).j ∈ ((liveOf m ow).map (·.1)).toArray
    intro i h hi
    unfold hashesOf at hi
    rw [List.getElem?_map, el, filterMap_at es _ inr, Option.map_eq_some_iff] at hi
    obtain ⟨x, hx, rfl⟩ := hi
    obtain ⟨q, h1, h2⟩ := Option.bind_eq_some_iff.mp hx
    rw [List.getElem?_map, Option.map_eq_some_iff] at h1
    obtain ⟨⟨j, q'⟩, h3, rfl⟩ := h1
    obtain ⟨hi, h4⟩ := List.getElem?_eq_some_iff.mp h3
    have h5 := at' i hi
    rw [h4] at h5
    have h6 : (hashesOf es)[q']? = some x.1 := by
      unfold hashesOf
      rw [List.getElem?_map, Array.getElem?_toList]
      simp only at h2
      rw [h2]; rfl
    obtain ⟨n, j', g1, g2, g3⟩ := L.ch q' x.1 h6
    have : j' = j := L.inj _ _ _ g1 h5
    subst this
    refine ⟨n, j', ?_, g2, fun k hk => ?_⟩
    · rw [List.getElem?_toArray, List.getElem?_map, h3]; rfl
    · obtain ⟨q2, e2⟩ := g3 k hk
      rw [List.mem_toArray]
      exact List.mem_map.mpr ⟨(_, q2), (mem_liveOf L.sz _ _).mpr e2, rfl⟩
end SetT
set_option Elab.async false
set_option linter.all false
set_option maxRecDepth 100000
set_option maxHeartbeats 4000000
namespace SetT
open PySem PySem.SetTable
section
variable {prog : Program} {w : World} {A : Around} {E : Value → Shared → Prop} {s : Shared}
theorem Tab.fits {t : SetTable} {es : Array (Int × Value)} (T : Tab t (hashesOf es)) : t.fits es.size = true := by
  have h1 := T.sz
  have h2 := T.few
  have h3 : (hashesOf es).length = es.size := by simp [hashesOf]
  unfold SetTable.fits SetTable.fill
  rw [T.dm, Bool.and_eq_true, beq_iff_eq, decide_eq_true_eq]
  exact ⟨by omega, by show t.place.size + 0 ≤ _; omega⟩
theorem Tab.odd {t : SetTable} {hs : List Int} (T : Tab t hs) : t.gaveWay = false := by
  unfold SetTable.gaveWay
  rcases T.ms with e | e <;> rw [e] <;> decide
theorem items_str {ks : List Str} {vs : List Value} (h : ItemsAre (strKind prog w) ks vs) : ∀ v ∈ vs, ∃ k t, v = .str k t := by
  induction h with
  | nil => intro v hv; simp at hv
  | @cons k v' ks vs h1 _ ih =>
    intro v hv
    rcases List.mem_cons.mp hv with rfl | hv
    · obtain ⟨t, e⟩ := Value.isStrOf_shape h1
      exact ⟨k, t, e⟩
    · exact ih v hv
theorem wp_ofClass {ks : List Str} {a : Addr} {Q : Bool → Shared → Prop} (hk : IsTupleKey (strKind prog w) s.heap ks a) (h : Q false s) : wpAny (model prog w) A (ofAClassStatement 8 (.ref a)) Q E s := by
  have hT := hk.typeIs
  obtain ⟨o, items, n, ho, hc, hd, hi⟩ := hk
  unfold ofAClassStatement
  refine wpAny_bind (wpAny_typeOf hT ?_)
  dsimp only
  rw [if_pos (by decide)]
  refine wpAny_bind (wpAny_pure ?_)
  simp only [Bool.not_true, Bool.false_eq_true, if_false]
  refine wpAny_bind (wpAny_seqItems ho hd ?_)
  refine wpAny_bind ?_
  show wpAny _ _ (forIn items _ _) _ _ s
  rw [← Array.forIn_toList]
  refine wpAny_forIn_list _ (fun rest r s' => r.1 = none ∧ s' = s ∧ ∀ v ∈ rest, ∃ k t, v = .str k t) _ ?_ ?_ _ _ ⟨rfl, rfl, items_str hi⟩
  · rintro v rest r s' ⟨hr, rfl, hall⟩
    obtain ⟨k, t, rfl⟩ := hall v List.mem_cons_self
    show wpAny _ _ (ofAClassStatement 7 (.str k t) >>= _) _ _ _
    unfold ofAClassStatement
    refine wpAny_bind (wpAny_pure ?_)
    simp only [Bool.false_eq_true, if_false]
    exact wpAny_pure ⟨rfl, rfl, fun u hu' => hall u (List.mem_cons_of_mem _ hu')⟩
  · rintro ⟨r1, r2⟩ s' ⟨hr, rfl, _⟩
    simp only at hr
    subst hr
    exact wpAny_pure h
theorem wp_byValue {ks : List Str} {a : Addr} {Q : Bool → Shared → Prop} (hk : IsTupleKey (strKind prog w) s.heap ks a) (h : ∀ b, Q b s) : wpAny (model prog w) A (hashByValue 8 (.ref a)) Q E s := by
  have hT := hk.typeIs
  obtain ⟨o, items, n, ho, hc, hd, hi⟩ := hk
  unfold hashByValue
  refine wpAny_bind (wpAny_specialOf hT F.slot_tuple_hash.lookup ?_)
  dsimp only
  refine wpAny_bind (wpAny_seqItems ho hd ?_)
  refine wpAny_bind ?_
  show wpAny _ _ (forIn items _ _) _ _ s
  rw [← Array.forIn_toList]
  refine wpAny_forIn_list _ (fun rest r s' => r.1 = none ∧ s' = s ∧ ∀ v ∈ rest, ∃ k t, v = .str k t) _ ?_ ?_ _ _ ⟨rfl, rfl, items_str hi⟩
  · rintro v rest r s' ⟨hr, rfl, hall⟩
    obtain ⟨k, t, rfl⟩ := hall v List.mem_cons_self
    show wpAny _ _ (hashByValue 7 (.str k t) >>= _) _ _ _
    unfold hashByValue
    refine wpAny_bind (wpAny_pure ?_)
    simp only [Bool.not_false, if_true]
    exact wpAny_pure (wpAny_pure (h false))
  · rintro ⟨r1, r2⟩ s' ⟨hr, rfl, _⟩
    simp only at hr
    subst hr
    exact wpAny_pure (h true)
theorem wp_unseen {ks : List Str} {a : Addr} (hk : IsTupleKey (strKind prog w) s.heap ks a) : ∀ (ys : List Value) {Q : Bool → Shared → Prop}, (∀ y ∈ ys, ∃ k b, y = .ref b ∧ IsTupleKey (strKind prog w) s.heap k b) → Q false s → wpAny (model prog w) A (searchCouldBeSeen (.ref a) ys) Q E s := by
  intro ys Q hys h
  unfold searchCouldBeSeen
  refine wpAny_bind ?_
  refine wpAny_forIn_list _ (fun rest r s' => r.1 = none ∧ s' = s ∧ ∀ y ∈ rest, ∃ k b, y = .ref b ∧ IsTupleKey (strKind prog w) s.heap k b) _ ?_ ?_ _ _ ⟨rfl, rfl, hys⟩
  · rintro v rest r s' ⟨hr, rfl, hall⟩
    obtain ⟨k, b, rfl, hb⟩ := hall v List.mem_cons_self
    have next : (none : Option Bool) = none ∧ s' = s' ∧ ∀ y ∈ rest, ∃ k b, y = .ref b ∧ IsTupleKey (strKind prog w) s'.heap k b := ⟨rfl, rfl, fun u hu' => hall u (List.mem_cons_of_mem _ hu')⟩
    dsimp only
    by_cases c : ((a == b) || (carriedByValue (.ref a) && carriedByValue (.ref b))) = true
    · rw [if_pos c]
      exact wpAny_pure next
    · rw [if_neg c]
      refine wpAny_bind (wpAny_eqIsQuiet_tuple hk ?_)
      simp only [Bool.not_true, Bool.false_eq_true, if_false]
      refine wpAny_bind (wpAny_eqIsQuiet_tuple hb ?_)
      simp only [Bool.not_true, Bool.false_eq_true, if_false]
      refine wpAny_bind (wp_ofClass hk ?_)
      simp only [Bool.not_true, Bool.false_eq_true, if_false]
      refine wpAny_bind (wp_ofClass hb ?_)
      simp only [Bool.not_true, Bool.false_eq_true, if_false]
      exact wpAny_pure next
  · rintro ⟨r1, r2⟩ s' ⟨hr, rfl, _⟩
    simp only at hr
    subst hr
    exact wpAny_pure h
end
end SetT
set_option Elab.async false
set_option linter.all false
set_option maxRecDepth 100000
set_option maxHeartbeats 4000000
namespace SetT
open PySem PySem.SetTable
section
variable {prog : Program} {w : World} {A : Around} {E : Value → Shared → Prop} {s : Shared}
def Elems (prog : Program) (w : World) (M : Nat) (h : Heap) (es : List (Int × Value)) : Prop := ∀ e ∈ es, ∃ ks b, e.2 = .ref b ∧ IsTupleKey (strKind prog w) h ks b ∧ e.1 = tupleKeyHash (strKind prog w) ks ∧ b < M
theorem hashes_get {es : Array (Int × Value)} {i : Nat} {e : Int × Value} (h : es[i]? = some e) : (hashesOf es)[i]? = some e.1 := by
  unfold hashesOf
  rw [List.getElem?_map, Array.getElem?_toList, h]; rfl
theorem wp_search {a x : Addr} {o : Obj} {es : Array (Int × Value)} {ep : Nat} {t : SetTable} {ks : List Str} {M : Nat} (hu : A.units < cLine)
    (ho : s.heap.get? a = some o) (hd : o.data = .set es ep t) (T : Tab t (hashesOf es)) (hel : Elems prog w M s.heap es.toList) (hx : IsTupleKey (strKind prog w) s.heap ks x) {Q : SetFound → Shared → Prop}
    (there : (∃ e ∈ es.toList, ∃ b, e.2 = .ref b ∧ IsTupleKey (strKind prog w) s.heap ks b) → Q (.there none) s)
    (free : ∀ m, (∀ k, k < m → (road t.mask (from0 t.mask (tupleKeyHash (strKind prog w) ks)) k).j ∈ t.place) → (road t.mask (from0 t.mask (tupleKeyHash (strKind prog w) ks)) m).j ∉ t.place →
      (¬ ∃ e ∈ es.toList, ∃ b, e.2 = .ref b ∧ IsTupleKey (strKind prog w) s.heap ks b) → Q (.free (road t.mask (from0 t.mask (tupleKeyHash (strKind prog w) ks)) m).j false) s) :
    ∀ (fuel n N : Nat) (stand : Option Probe), n ≤ N → N < 10 * turns t.mask → N - n < fuel → t.slot (road t.mask (from0 t.mask (tupleKeyHash (strKind prog w) ks)) N).j = .empty →
      stand.getD (t.probeStart (tupleKeyHash (strKind prog w) ks)) = road t.mask (from0 t.mask (tupleKeyHash (strKind prog w) ks)) n →
      (∀ k, k < n → ∃ i e, es[i]? = some e ∧ t.slot (road t.mask (from0 t.mask (tupleKeyHash (strKind prog w) ks)) k).j = .live i ∧ ¬ ∃ b, e.2 = .ref b ∧ IsTupleKey (strKind prog w) s.heap ks b) →
      wpAny (model prog w) A (setSearchFrom a (.ref x) (tupleKeyHash (strKind prog w) ks) true fuel stand) Q E s := by
  intro fuel
  induction fuel with
  | zero => intro n N stand _ _ h; exact absurd h (Nat.not_lt_zero _)
  | succ fuel ih =>
    intro n N stand hn hN hf he hst bef
    have hlen : (hashesOf es).length = es.size := by simp [hashesOf]
    unfold setSearchFrom
    refine wpAny_bind (wpAny_setState_of ho hd T.fits ?_)
    dsimp only
    rw [if_neg (by rw [T.odd]; decide), hst]
    obtain ⟨m, m1, m2, m3, m4⟩ := T.meets (tupleKeyHash (strKind prog w) ks) hn hN he (fun i => (es[i]?.map (·.1)).getD 0)
    have bef' : ∀ k, k < m → ∃ i e, es[i]? = some e ∧ t.slot (road t.mask (from0 t.mask (tupleKeyHash (strKind prog w) ks)) k).j = .live i ∧ ¬ ∃ b, e.2 = .ref b ∧ IsTupleKey (strKind prog w) s.heap ks b := by
      intro k hk
      rcases Nat.lt_or_ge k n with z | z
      · exact bef k z
      · obtain ⟨i, i1, i2, i3⟩ := m3 k z hk
        have il : i < es.size := by omega
        refine ⟨i, es[i], Array.getElem?_eq_getElem il, i2, ?_⟩
        rintro ⟨b, e1, e2⟩
        obtain ⟨ks', b', f1, f2, f3, _⟩ := hel es[i] (Array.getElem_mem_toList il)
        rw [e1] at f1
        cases f1
        have : ks = ks' := e2.inj f2
        subst this
        apply i3
        rw [Array.getElem?_eq_getElem il]
        exact f3
    rcases m4 with ⟨p1, p2⟩ | ⟨i, i1, i2, i3, i4, i5, p1⟩
    · generalize hP : t.probe _ _ (road t.mask (from0 t.mask (tupleKeyHash (strKind prog w) ks)) n) = PR
      have hP' := hP.symm.trans p1
      subst hP'
      dsimp only
      refine wpAny_pure (free m (fun k hk => ?_) p2 ?_)
      · obtain ⟨i, e, e1, e2, _⟩ := bef' k hk
        exact Array.mem_of_getElem? (slot_live e2)
      · rintro ⟨e, e1, b, e2, e3⟩
        obtain ⟨ks', b', f1, f2, f3, _⟩ := hel e e1
        rw [e2] at f1
        cases f1
        have : ks = ks' := e3.inj f2
        subst this
        obtain ⟨i, hi, ei⟩ := Array.mem_iff_getElem.mp (Array.mem_toList_iff.mp e1)
        have hg : es[i]? = some e := by rw [Array.getElem?_eq_getElem hi, ei]
        obtain ⟨k, k1, k2⟩ := T.found (i := i) (by rw [hashes_get hg, f3]) p2
        obtain ⟨i', e', g1, g2, g3⟩ := bef' k k1
        rw [k2] at g2
        cases g2
        rw [hg] at g1
        cases g1
        exact g3 ⟨b, e2, e3⟩
    · generalize hP : t.probe _ _ (road t.mask (from0 t.mask (tupleKeyHash (strKind prog w) ks)) n) = PR
      have hP' := hP.symm.trans p1
      subst hP'
      dsimp only
      have il : i < es.size := by omega
      have hg : es[i]? = some es[i] := Array.getElem?_eq_getElem il
      obtain ⟨ks', b', f1, f2, f3, _⟩ := hel es[i] (Array.getElem_mem_toList il)
      have hseen : ∀ (u m' : Sem SetFound), wpAny (model prog w) A m' Q E s → wpAny (model prog w) A (if (!t.led) = true then (do
          let b ← searchCouldBeSeen (.ref x) (List.map (fun x => x.snd) (Array.filter (fun x => x.fst == tupleKeyHash (strKind prog w) ks) es).toList)
          if b = true then u else m') else m') Q E s := by
        intro u m' h
        refine wpAny_ite ?_
        split
        · refine wpAny_bind (wp_unseen hx _ (fun y hy => ?_) ?_)
          · obtain ⟨e, e1, rfl⟩ := List.mem_map.mp hy
            rw [Array.toList_filter] at e1
            obtain ⟨k2, b2, z1, z2, _⟩ := hel e (List.mem_filter.mp e1).1
            exact ⟨k2, b2, z1, z2⟩
          · rw [if_neg (by decide)]; exact h
        · exact h
      refine hseen _ _ ?_
      rw [hg]
      generalize hee : es[i] = ee at *
      obtain ⟨eh, ev⟩ := ee
      simp only at f1 f3
      subst f1
      dsimp only
      refine wpAny_bind (wpAny_holding (wpAny_eqBool_tuple hu f2 hx ?_))
      refine wpAny_bind (wpAny_setState_of ho hd T.fits ?_)
      by_cases hk : ks' = ks
      · rw [decide_eq_true hk, if_pos (by decide)]
        subst hk
        exact wpAny_pure (there ⟨(eh, .ref b'), by rw [← hee]; exact Array.getElem_mem_toList il, b', rfl, f2⟩)
      · rw [decide_eq_false hk, if_neg (by decide)]
        dsimp only
        have sm : t.sameMemory t.moves t.mask = some true := by unfold SetTable.sameMemory; rw [if_pos (beq_self_eq_true _)]
        rw [sm]
        dsimp only
        rw [if_pos rfl, i3]
        dsimp only
        rw [hg]
        dsimp only
        refine wpAny_bind (wpAny_isSame_ref_self ?_)
        rw [if_pos rfl]
        refine wpAny_bind (wpAny_pure ?_)
        dsimp only
        rw [if_neg (by decide)]
        refine ih (m + 1) N _ i5 hN (by omega) he rfl fun k hk' => ?_
        rcases Nat.lt_or_ge k m with z | z
        · exact bef' k z
        · have : k = m := by omega
          subst this
          refine ⟨i, (eh, .ref b'), hg, i3, ?_⟩
          rintro ⟨b, e1, e2⟩
          cases e1
          exact hk (f2.inj e2)
end
end SetT
set_option Elab.async false
set_option linter.all false
set_option maxRecDepth 100000
set_option maxHeartbeats 4000000
namespace SetT
open PySem PySem.SetTable
section
variable {prog : Program} {w : World} {A : Around} {E : Value → Shared → Prop} {s : Shared}
theorem Tab.withPlain {t : SetTable} {hs : List Int} (T : Tab t hs) (b : Bool) : Tab { t with plain := b } hs := ⟨T.sz, T.up, T.le, T.dm, T.ms, T.few, T.ch⟩
theorem hashes_ins (es : Array (Int × Value)) (p : Nat) (h : Int) (x : Value) : hashesOf (SetTable.insertAt es p (h, x)) = insL (hashesOf es) p h := by
  unfold hashesOf insL
  rw [insertAt_list, List.map_append, List.map_cons, List.map_take, List.map_drop]
def SetTup (prog : Program) (w : World) (M : Nat) (h : Heap) (a : Addr) (S : List Str → Bool) (n : Nat) : Prop :=
  ∃ o es ep t, h.get? a = some o ∧ o.ExactSet ∧ o.data = .set es ep t ∧ Elems prog w M h es.toList ∧ (∀ ks, S ks = true ↔ ∃ e ∈ es.toList, ∃ b, e.2 = .ref b ∧ IsTupleKey (strKind prog w) h ks b)
    ∧ es.size = n ∧ Tab t (hashesOf es) ∧ es.size * 5 < t.mask * 3
theorem key_keeps {h h' : Heap} {a b : Addr} {o : Obj} {es ep t} {ks : List Str} (ho : h.get? a = some o) (hd : o.data = .set es ep t) (hs : Heap.SameBut a h h') (hk : IsTupleKey (strKind prog w) h ks b) : IsTupleKey (strKind prog w) h' ks b := by
  obtain ⟨o', items, n, ho', hc, hd', hi⟩ := hk
  have hne : b ≠ a := by
    rintro rfl
    obtain rfl : o' = o := Option.some.inj (ho'.symm.trans ho)
    rw [hd] at hd'; exact nomatch hd'
  exact ⟨o', items, n, (hs.2 b hne).trans ho', hc, hd', hi⟩
theorem key_back {h h' : Heap} {a b : Addr} {o : Obj} {es ep t} {ks : List Str} (ho : h'.get? a = some o) (hd : o.data = .set es ep t) (hs : Heap.SameBut a h h') (hk : IsTupleKey (strKind prog w) h' ks b) : IsTupleKey (strKind prog w) h ks b := by
  obtain ⟨o', items, n, ho', hc, hd', hi⟩ := hk
  have hne : b ≠ a := by
    rintro rfl
    obtain rfl : o' = o := Option.some.inj (ho'.symm.trans ho)
    rw [hd] at hd'; exact nomatch hd'
  exact ⟨o', items, n, (hs.2 b hne).symm.trans ho', hc, hd', hi⟩
theorem wp_add {a x : Addr} {S : List Str → Bool} {n : Nat} {ks : List Str} {M : Nat} {Q : Bool → Shared → Prop} (hu : A.units < cLine) (hxM : x < M) (hx : IsTupleKey (strKind prog w) s.heap ks x) (hS : SetTup prog w M s.heap a S n) (hroom : n + 1 ≤ 18)
    (h : ∀ h', Heap.SameBut a s.heap h' → SetTup prog w M h' a (fun k' => S k' || decide (k' = ks)) (if S ks then n else n + 1) → Q (!S ks) { s with heap := h' }) :
    wpAny (model prog w) A (setAddHashed a (.ref x) (tupleKeyHash (strKind prog w) ks)) Q E s := by
  obtain ⟨o, es, ep, t, ho, hex, hd, hel, hmem, hn, T, hthin⟩ := hS
  have hlen : (hashesOf es).length = es.size := by simp [hashesOf]
  obtain ⟨N, hN, he⟩ := T.empty (tupleKeyHash (strKind prog w) ks)
  have hN' : N < 100000 := by
    have : 10 * turns t.mask ≤ 460 := by unfold turns; rcases T.ms with e | e <;> rw [e] <;> omega
    omega
  unfold setAddHashed setAddHashedIn
  refine wpAny_holding (wpAny_bind (wpAny_setState_of ho hd T.fits ?_))
  dsimp only
  rw [if_neg (by show ¬ (byScan (.ref x) es = true); unfold byScan Value.scannable; simp)]
  unfold setSearch
  refine wpAny_bind (wp_search hu ho hd T hel hx (fun hin => ?_) (fun m m1 m2 hno => ?_) 100000 0 N none (Nat.zero_le _) hN (by omega) he rfl fun k hk => absurd hk (Nat.not_lt_zero _))
  · -- already there
    dsimp only
    have hSk : S ks = true := (hmem ks).mpr hin
    refine wpAny_pure ?_
    have e : s = { s with heap := s.heap } := by cases s; rfl
    have := h s.heap (Heap.SameBut.refl a s.heap) ⟨o, es, ep, t, ho, hex, hd, hel, fun k' => by
      rw [Bool.or_eq_true, decide_eq_true_eq, ← hmem k']
      exact ⟨fun hk => hk.elim id (fun e => e ▸ hSk), .inl⟩, by rw [hSk]; exact hn, T, hthin⟩
    rw [hSk] at this; rw [e]; exact this
  · dsimp only
    have hSk : S ks = false := by
      cases hk : S ks with
      | false => rfl
      | true => exact absurd ((hmem ks).mp hk) hno
    have mlt : es.size < t.mask := by rcases T.ms with e | e <;> rw [e] at hthin ⊢ <;> omega
    obtain ⟨hp, T1⟩ := T.put m1 m2 (by omega) (road_lt _ _ _)
    refine wpAny_bind (wpAny_setState_of ho hd T.fits ?_)
    dsimp only
    generalize hj : (road t.mask (from0 t.mask (tupleKeyHash (strKind prog w) ks)) m).j = j at *
    generalize hpt : t.put j = P at *
    obtain ⟨t1, p⟩ := P
    dsimp only at hp T1 ⊢
    have hmask : t1.mask = t.mask := by
      have : (t.put j).1.mask = t.mask := rfl
      rw [hpt] at this; exact this
    rw [← hashes_ins es p _ (.ref x)] at T1
    have hp' : p ≤ es.size := by omega
    have sz1 := insertAt_size es hp' (tupleKeyHash (strKind prog w) ks, Value.ref x)
    generalize hes1 : SetTable.insertAt es p (tupleKeyHash (strKind prog w) ks, Value.ref x) = es1 at *
    have hin1 : ∀ e, e ∈ es1.toList ↔ e ∈ es.toList ∨ e = (tupleKeyHash (strKind prog w) ks, Value.ref x) := fun e => by
      rw [← hes1, insertAt_list]
      conv => rhs; rw [← List.take_append_drop p es.toList]
      simp only [List.mem_append, List.mem_cons]
      constructor
      · rintro (h | h | h)
        · exact .inl (.inl h)
        · exact .inr h
        · exact .inl (.inr h)
      · rintro ((h | h) | h)
        · exact .inl h
        · exact .inr (.inr h)
        · exact .inr (.inl h)
    -- what a set with these elements is
    have fin : ∀ (h' : Heap) (o' : Obj) (es2 : Array (Int × Value)) (ep2 : Nat) (t2 : SetTable), Heap.SameBut a s.heap h' → h'.get? a = some o' → o'.ExactSet → o'.data = .set es2 ep2 t2 → es2.size = es1.size → (∀ e, e ∈ es2.toList ↔ e ∈ es1.toList) → Tab t2 (hashesOf es2) → es2.size * 5 < t2.mask * 3 → Q true { s with heap := h' } := by
      intro h' o' es2 ep2 t2 sb ho' hex' hd' sz2 in2 T2 thin2
      have := h h' sb ⟨o', es2, ep2, t2, ho', hex', hd', fun e he' => ?_, fun k' => ?_, ?_, T2, thin2⟩
      · rw [hSk] at this; exact this
      · rcases (hin1 e).mp ((in2 e).mp he') with z | z
        · obtain ⟨k2, b2, z1, z2, z3⟩ := hel e z
          exact ⟨k2, b2, z1, key_keeps ho hd sb z2, z3⟩
        · rw [z]; exact ⟨ks, x, rfl, key_keeps ho hd sb hx, rfl, hxM⟩
      · rw [Bool.or_eq_true, hmem k', decide_eq_true_eq]
        constructor
        · rintro (⟨e, e1, b, e2, e3⟩ | rfl)
          · exact ⟨e, (in2 e).mpr ((hin1 e).mpr (.inl e1)), b, e2, key_keeps ho hd sb e3⟩
          · exact ⟨_, (in2 _).mpr ((hin1 _).mpr (.inr rfl)), x, rfl, key_keeps ho hd sb hx⟩
        · rintro ⟨e, e1, b, e2, e3⟩
          rcases (hin1 e).mp ((in2 e).mp e1) with z | z
          · exact .inl ⟨e, z, b, e2, key_back ho' hd' sb e3⟩
          · rw [z] at e2
            cases e2
            exact .inr ((key_back ho' hd' sb e3).inj hx)
      · rw [hSk, sz2, sz1, hn]; rfl
    -- stored
    have store : ∀ (b : Bool) (t2 : SetTable), t2 = (if b = true then t1 else { t1 with plain := false }) → wpAny (model prog w) A (do
        storeSet a es1 t2
        if (!false && t2.tooFull) = true then do
            setRelay a (SetTable.grown (es.size + 1))
            pure true
          else pure true) Q E s := by
      intro b t2 e2
      have T2 : Tab t2 (hashesOf es1) := by rw [e2]; split; exact T1; exact T1.withPlain false
      have hm2 : t2.mask = t.mask := by rw [e2]; split <;> exact hmask
      have hz : es1.size ≤ sizeLine := fits_of_scanBound (by unfold scanBound; omega)
      refine wpAny_bind (wpAny_storeSet_of ho hd ?_ hz)
      have hg : (s.heap.update a (Obj.putSet es1 t2)).get? a = some { o with data := .set es1 (ep + 1) t2 } := by
        have := Heap.get?_update_self (Obj.putSet es1 t2) ho (by rw [putSet_of es1 t2 hd]; rfl)
        rw [putSet_of es1 t2 hd] at this; exact this
      have sb1 := Heap.SameBut.update s.heap a (Obj.putSet es1 t2)
      have hfill : t2.fill = es.size + 1 := by
        have h1 := T2.sz
        have h2 : (hashesOf es1).length = es1.size := by simp [hashesOf]
        unfold SetTable.fill; rw [T2.dm]; show t2.place.size + 0 = _; omega
      split
      · rename_i hfull
        have hf2 : (es.size + 1) * 5 ≥ t.mask * 3 := by
          simp only [Bool.not_false, Bool.true_and] at hfull
          unfold SetTable.tooFull at hfull
          rw [hfill, hm2] at hfull
          exact of_decide_eq_true hfull
        have h4 : es.size + 1 = 5 := by rcases T.ms with e | e <;> rw [e] at hthin hf2 <;> omega
        rw [h4]
        unfold setRelay
        refine wpAny_bind (wpAny_bind (wpAny_setState_of hg rfl T2.fits ?_))
        dsimp only
        rw [if_neg (by rw [show SetTable.sizeAbove (SetTable.grown 5) = 32 from by decide, sizeLine_eq]; omega)]
        obtain ⟨t3, order, l1, l2, l3, l4, T3⟩ := laid_tab (m := 31) (.inr rfl) t2.finger (t2.movedTo 31) t2.led t2.plain es1 (by omega)
        have hrel : t2.relaid (es1.map (·.1)) (SetTable.grown 5) = some (t3, order) := l1
        rw [hrel]
        generalize hes3 : order.filterMap (es1[·]?) = es3 at l3 l4 T3
        refine wpAny_bind ?_
        show wpAny _ _ (if ((order.filterMap (es1[·]?)).size != es1.size) = true then (do unsupported _; pure (order.filterMap (es1[·]?), t3)) else pure (order.filterMap (es1[·]?), t3)) _ _ _
        rw [hes3, if_neg (by rw [l3]; simp)]
        refine wpAny_pure ?_
        dsimp only
        have hz3 : es3.size ≤ sizeLine := by rw [l3]; exact hz
        refine wpAny_storeSet_of hg rfl ?_ hz3
        have hg3 : ((s.heap.update a (Obj.putSet es1 t2)).update a (Obj.putSet es3 t3)).get? a = some { o with data := .set es3 (ep + 1 + 1) t3 } := by
          have := Heap.get?_update_self (Obj.putSet es3 t3) hg (by rw [putSet_of es3 t3 rfl]; rfl)
          rw [putSet_of es3 t3 rfl] at this; exact this
        refine wpAny_pure (fin _ _ es3 (ep + 1 + 1) t3 (sb1.trans (Heap.SameBut.update _ a _)) hg3 hex rfl l3 (fun e => ?_) T3 ?_)
        · rw [Array.mem_toList_iff, Array.mem_toList_iff]; exact l4 e
        · rw [l2, l3]; omega
      · rename_i hfull
        refine wpAny_pure (fin _ _ es1 (ep + 1) t2 sb1 hg hex rfl rfl (fun _ => Iff.rfl) T2 ?_)
        rw [hm2]
        simp only [Bool.not_false, Bool.true_and] at hfull
        unfold SetTable.tooFull at hfull
        rw [hfill, hm2] at hfull
        have := of_decide_eq_false (Bool.eq_false_iff.mpr hfull)
        omega
    split
    · exact wpAny_bind (wp_byValue hx fun b => store b _ rfl)
    · exact wpAny_bind (wpAny_pure (store true _ rfl))
end
end SetT
set_option Elab.async false
set_option linter.all false
set_option maxRecDepth 100000
set_option maxHeartbeats 4000000
namespace SetT
open PySem PySem.SetTable PyProof.Rows
def Kept (M : Nat) (h h' : Heap) : Prop := ∀ b o, b < M → h.get? b = some o → h'.get? b = some o
theorem Kept.refl (M : Nat) (h : Heap) : Kept M h h := fun _ _ _ e => e
theorem Kept.trans {M : Nat} {h h' h'' : Heap} (x : Kept M h h') (y : Kept M h' h'') : Kept M h h'' := fun b o hb e => y b o hb (x b o hb e)
structure SK (prog : Program) (w : World) (κ : Type) [DecidableEq κ] (M : Nat) where
  is : Heap → κ → Value → Prop
  mono : ∀ {h h' : Heap} {k v}, Kept M h h' → is h k v → is h' k v
  P : Heap → Addr → (κ → Bool) → Nat → Prop
  keep : ∀ {h h' : Heap} {a S n}, Kept M h h' → (∀ o, h.get? a = some o → h'.get? a = some o) → P h a S n → P h' a S n
  add : ∀ {A : Around} {E : Value → Shared → Prop} {s : Shared} {a : Addr} {S : κ → Bool} {n : Nat} {k : κ} {v : Value} {Q : Bool → Shared → Prop}, A.units < cLine → is s.heap k v → P s.heap a S n → n + 1 ≤ 18 →
    (∀ h' tk, s.toks ≤ tk → Heap.SameBut a s.heap h' → P h' a (fun k' => S k' || decide (k' = k)) (if S k then n else n + 1) → Q (!S k) { s with heap := h', toks := tk }) → wpAny (model prog w) A (setAdd a v) Q E s
  fresh : ∀ {h : Heap} {a : Addr} (led : Bool), h.get? a = some { cls := .type "set", dict := none, data := .set #[] 0 (.fresh 0 0 led) } → P h a (fun _ => false) 0
  obj : ∀ {h : Heap} {a : Addr} {S n}, P h a S n → ∃ o es ep t, h.get? a = some o ∧ o.ExactSet ∧ o.data = .set es ep t ∧ t.fits es.size = true ∧ es.size = n
noncomputable def strSK (prog : Program) (w : World) (M : Nat) : SK prog w Str M where
  is := fun _ k v => (strKind prog w).is k v = true
  mono := fun _ h => h
  P := fun h a S n => h.SetOf (strKind prog w) a S n
  keep := fun _ ha hS => by
    obtain ⟨o, es, ep, t, ho, rest⟩ := hS
    exact ⟨o, es, ep, t, ha o ho, rest⟩
  add := by
    intro A E s a S n k v Q hu hk hS hn h
    unfold setAdd
    refine wpAny_holding ?_
    refine wpAny_bind ((strKind prog w).pyHash hk ?_)
    have hsc : v.scannable = true := by obtain ⟨t, rfl⟩ := Value.isStrOf_shape hk; rfl
    exact wpAny_setAddHashed_of (knd := strKind prog w) (s := { s with toks := s.toks + 1 }) hk hsc hS (by unfold scanBound; omega) fun h' sb hS' => h h' _ (Nat.le_succ _) sb hS'
  fresh := fun led hg => SetOf_congr ((setObjOf_fresh (knd := strKind prog w) led).setOf hg (by unfold scanBound; omega)) (fun _ => rfl) rfl
  obj := fun hS => by
    obtain ⟨o, es, ep, t, ho, hex, hd, _, _, _, hf, hn⟩ := hS
    exact ⟨o, es, ep, t, ho, hex, hd, hf, hn⟩
theorem tup_mono {prog : Program} {w : World} {M : Nat} {h h' : Heap} {ks : List Str} {b : Addr} (hk : Kept M h h') (hb : b < M) (x : IsTupleKey (strKind prog w) h ks b) : IsTupleKey (strKind prog w) h' ks b := by
  obtain ⟨o, items, n, ho, rest⟩ := x
  exact ⟨o, items, n, hk b o hb ho, rest⟩
noncomputable def tupSK (prog : Program) (w : World) (M : Nat) : SK prog w (List Str) M where
  is := fun h ks v => ∃ b, v = .ref b ∧ b < M ∧ IsTupleKey (strKind prog w) h ks b
  mono := fun hk ⟨b, e, hb, x⟩ => ⟨b, e, hb, tup_mono hk hb x⟩
  P := fun h a S n => SetTup prog w M h a S n
  keep := fun {h h' a S n} hk ha hS => by
    obtain ⟨o, es, ep, t, ho, hex, hd, hel, hmem, hn, T, ht⟩ := hS
    refine ⟨o, es, ep, t, ha o ho, hex, hd, fun e he => ?_, fun ks => ?_, hn, T, ht⟩
    · obtain ⟨k, b, e1, e2, e3, e4⟩ := hel e he
      exact ⟨k, b, e1, tup_mono hk e4 e2, e3, e4⟩
    · rw [hmem ks]
      constructor
      · rintro ⟨e, he, b, f1, f2⟩
        obtain ⟨k, b', e1, e2, e3, e4⟩ := hel e he
        rw [f1] at e1
        cases e1
        exact ⟨e, he, b, f1, tup_mono hk e4 f2⟩
      · rintro ⟨e, he, b, f1, f2⟩
        obtain ⟨k, b', e1, e2, e3, e4⟩ := hel e he
        rw [f1] at e1
        cases e1
        have := f2.inj (tup_mono hk e4 e2)
        subst this
        exact ⟨e, he, b, f1, e2⟩
  add := by
    intro A E s a S n k v Q hu hk hS hn h
    obtain ⟨b, rfl, hb, hk⟩ := hk
    unfold setAdd
    refine wpAny_holding ?_
    refine wpAny_bind (wpAny_pyHash_tuple hu hk ?_)
    exact wp_add (s := { s with toks := s.toks + (k.length + 1) }) hu hb hk hS hn fun h' sb hS' => h h' _ (Nat.le_add_right _ _) sb hS'
  fresh := fun led hg => ⟨_, #[], 0, _, hg, ⟨rfl, rfl, rfl⟩, rfl, fun e he => by simp at he, fun k => by simp, rfl, fresh_tab led, by show 0 * 5 < 7 * 3; omega⟩
  obj := fun hS => by
    obtain ⟨o, es, ep, t, ho, hex, hd, _, _, hn, T, _⟩ := hS
    exact ⟨o, es, ep, t, ho, hex, hd, T.fits, hn⟩
section
variable {κ : Type} [DecidableEq κ]
noncomputable def stepD (xs : List κ) (k : κ) : List κ := if xs.any (fun y => decide (y = k)) then xs else xs ++ [k]
noncomputable def firstD (val : Nat → κ) (i : Nat) : List κ := ((List.range i).map val).foldl stepD []
theorem firstD_succ (val : Nat → κ) (i : Nat) : firstD val (i + 1) = stepD (firstD val i) (val i) := by
  unfold firstD; rw [List.range_succ, List.map_append, List.foldl_append]; rfl
theorem firstD_len (val : Nat → κ) : ∀ i, (firstD val i).length ≤ i
  | 0 => Nat.le_refl _
  | i + 1 => by
    rw [firstD_succ]; unfold stepD
    have ih := firstD_len val i
    split
    · omega
    · rw [List.length_append, List.length_singleton]; omega
theorem stepD_any (σ : List κ) (v k : κ) : (stepD σ v).any (fun y => decide (y = k)) = (σ.any (fun y => decide (y = k)) || decide (k = v)) := by
  unfold stepD
  by_cases h : σ.any (fun y => decide (y = v)) = true
  · rw [if_pos h]
    by_cases e : k = v
    · subst e; rw [h]; simp
    · simp [e]
  · rw [if_neg h, List.any_append]
    by_cases e : k = v
    · subst e; simp
    · have : ¬ v = k := fun z => e z.symm
      simp [e, this]
theorem stepD_length (σ : List κ) (v : κ) : (stepD σ v).length = if σ.any (fun y => decide (y = v)) then σ.length else σ.length + 1 := by
  unfold stepD; split <;> simp
variable {prog : Program} {w : World} {A : Around} {R : Result → Shared → Prop} {I : Addr} {fp wr : List Addr} {G : Array GenState → Array GenState → Prop} {n : Nat} {P : Nat → Value → Prop} {St : Nat → Shared → Prop}
theorem loop_set {M : Nat} (K : SK prog w κ M) (W : WalksS prog w A.in1 I fp wr G n P St) (S : Addr) (hSf : S ∉ fp) (hu : A.in1.units < cLine)
    (h0 : Heap) (val : Nat → κ) (hval : ∀ i v, P i v → K.is h0 (val i) v) (hb : n ≤ 17) (hwr : ∀ b ∈ wr, M ≤ b) (hMS : M ≤ S) :
    ∀ (k i : Nat) (s : Shared), n - i = k → i ≤ n → St i s → Kept M h0 s.heap →
      K.P s.heap S (fun k' => (firstD val i).any (fun y => decide (y = k'))) (firstD val i).length →
      (∀ s', Moved (S :: wr) G s s' → K.P s'.heap S (fun k' => (firstD val n).any (fun y => decide (y = k'))) (firstD val n).length → R (.ok (.ret .none)) s') →
      codeAny (model prog w) A (.builtin "set.update.loop" ⟨[.ref S, .ref I], []⟩) R s := by
  have hSw : S ∉ wr := fun h => hSf (W.sub _ h)
  have hsub : ∀ b ∈ wr, b ∈ S :: wr := fun b hb => List.mem_cons_of_mem _ hb
  have kp : ∀ {s s' : Shared}, Moved wr G s s' → Kept M s.heap s'.heap := fun hm b o hb e => hm.heap b o (fun z => Nat.lt_irrefl _ (Nat.lt_of_lt_of_le hb (hwr b z))) e
  intro k
  induction k with
  | zero =>
    intro i s hk hi hst hK hS hR
    have hin : i = n := by omega
    subst hin
    refine codeAny_builtin F.entry_set_update_loop ?_
    rw [Around.under_plainId F.plain_set_update_loop _]
    show wpAny _ A.in1 (pyNext (.ref I) >>= _) _ _ s
    refine wpAny_bind (W.done s _ _ hst fun s' hm => ?_)
    show wpAny _ A.in1 (ret Value.none) _ _ s'
    exact wpAny_pure (hR s' (hm.mono hsub) (K.keep (kp hm) (fun o e => hm.heap S _ hSw e) hS))
  | succ k ih =>
    intro i s hk hi hst hK hS hR
    have hlt : i < n := by omega
    refine codeAny_builtin F.entry_set_update_loop ?_
    rw [Around.under_plainId F.plain_set_update_loop _]
    show wpAny _ A.in1 (pyNext (.ref I) >>= _) _ _ s
    refine wpAny_bind (W.item i s _ _ hlt hst fun v s' hP hst' hm => ?_)
    have hv := K.mono (hK.trans (kp hm)) (hval i v hP)
    have hS' := K.keep (kp hm) (fun o e => hm.heap S _ hSw e) hS
    show wpAny _ A.in1 (holding [v] (setAdd S v) >>= _) _ _ s'
    refine wpAny_bind (wpAny_holding ?_)
    have hroom : (firstD val i).length + 1 ≤ 18 := by have := firstD_len val i; omega
    refine K.add hu hv hS' hroom fun h' tk htk hsb hS2 => ?_
    have hSi : K.P h' S (fun k' => (firstD val (i + 1)).any (fun y => decide (y = k'))) (firstD val (i + 1)).length := by
      have e1 : (fun k' => (firstD val (i + 1)).any (fun y => decide (y = k'))) = fun k' => (firstD val i).any (fun y => decide (y = k')) || decide (k' = val i) := by
        funext k'; rw [firstD_succ, stepD_any]
      have e2 : (firstD val (i + 1)).length = if (firstD val i).any (fun y => decide (y = val i)) then (firstD val i).length else (firstD val i).length + 1 := by rw [firstD_succ, stepD_length]
      rw [e1, e2]; exact hS2
    have hkS : Kept M s'.heap h' := fun b o hb e => by rw [hsb.2 b (fun z => Nat.lt_irrefl _ (Nat.lt_of_lt_of_le hb (by rw [z]; exact hMS)))]; exact e
    refine wpAny_pure ⟨plainId_quiet F.plain_set_update_loop _, ih (i + 1) _ (by omega) hlt (W.frame _ s' _ _ hst' htk fun b hb o e => ?_) ((hK.trans (kp hm)).trans hkS) hSi fun s'' hm'' hS'' => ?_⟩
    · rw [hsb.2 b (fun h : b = S => hSf (by rw [← h]; exact hb))]; exact e
    · refine hR s'' (Moved.trans W.gtrans ((hm.mono hsub).then_heap htk fun b o hb e => ?_) hm'') hS''
      rw [hsb.2 b (fun h : b = S => hb (by rw [h]; exact List.mem_cons_self))]; exact e
end
end SetT
set_option Elab.async false
set_option linter.all false
set_option maxRecDepth 100000
set_option maxHeartbeats 4000000
namespace SetT
open PySem PySem.SetTable PyProof.Rows
noncomputable abbrev newS (led : Bool) : Obj := { cls := .type "set", dict := none, data := .set #[] 0 (.fresh 0 0 led) }
section
variable {prog : Program} {w : World} {A : Around} {E : Value → Shared → Prop} {s : Shared} {κ : Type} [DecidableEq κ]

theorem call_set_list {M : Nat} (K : SK prog w κ M) {l : Addr} {items : Array Value} {val : Nat → κ} {Q : Value → Shared → Prop}
    (hh : A.handled = none) (hu : A.units + 8 < cLine) (hM : M = s.heap.objs.size) (hl : s.heap.IsList l items) (hi : ∀ i v, items[i]? = some v → K.is s.heap (val i) v) (hb : items.size ≤ 17)
    (h : ∀ (h' : Heap) (tk : Nat), K.P h' s.heap.objs.size (fun k' => (firstD val items.size).any (fun y => decide (y = k'))) (firstD val items.size).length →
      (∀ b o, b < s.heap.objs.size → s.heap.get? b = some o → h'.get? b = some o) → Q (.ref s.heap.objs.size) { s with heap := h', toks := tk }) :
    wpAny (model prog w) A (call (.type "set") [.ref l]) Q E s := by
  obtain ⟨c, tl, hmro⟩ := F.called_set.mro
  have hmade := F.called_set.made
  have hsub := F.called_set.sub
  refine wpAny_call (codeAny_of_tree ?_)
  show wpAny _ _ (callAny (.type "set") _) _ _ _
  refine wpAny_pure ⟨Code.quiet_builtin _ (by decide +kernel), codeAny_builtin F.entry_type_call ?_⟩
  rw [Around.under_plain (weight_type_call_type "set" [.ref l] []) rfl]
  have h1 := F.called_set.notType
  have h2 := F.called_set.canCreate
  have hct := F.typeCall_set_1 (.ref l)
  repeat (any_goals (first | assumption | wp_step))
  refine codeAny_mono (code_set_new_1 (.ref l) (E := E) (Q₁ := fun obj s₁ => ∃ led : Bool, obj = .ref s.heap.objs.size ∧ s₁ = { s with heap := s.heap.push (newS led) }) fun led => ⟨led, rfl, rfl⟩) fun r s₁ hr => ?_
  cases r with
  | error e => exact hr
  | ok fl =>
    cases fl with
    | ret obj =>
      obtain ⟨led, rfl, rfl⟩ := hr
      have hS : (s.heap.push (newS led)).get? s.heap.objs.size = some (newS led) := Heap.get?_push_size _ rfl
      have hT : Shared.TypeIs { s with heap := s.heap.push (newS led) } (.ref s.heap.objs.size) "set" := ⟨_, hS, rfl⟩
      have hli := F.called_set.init.lookup
      have hbi := F.called_set.init.bind (.ref s.heap.objs.size)
      repeat (any_goals (first | assumption | wp_step))
      refine codeAny_mono (codeAny_call_builtin (R := wants (fun r s₂ => r = .none ∧ ∃ h' tk, s₂ = { s with heap := h', toks := tk } ∧
          K.P h' s.heap.objs.size (fun k' => (firstD val items.size).any (fun y => decide (y = k'))) (firstD val items.size).length ∧
          (∀ b o, b < s.heap.objs.size → s.heap.get? b = some o → h'.get? b = some o)) E) F.called_set.init.plain F.entry_set_init (check_set_init_1 hT ?_)) fun r₂ s₂ hr₂ => ?_
      · obtain ⟨ol, hol, hcl, nl, hdl⟩ := id hl
        obtain ⟨ocls, odict, odata, oslots⟩ := ol
        simp only at hcl hdl
        subst hcl; subst hdl
        have hol' : (s.heap.push (newS led)).get? l = some { cls := .type "list", dict := odict, data := .seq items nl, slots := oslots } := Heap.get?_push_of_some _ hol
        have hsls := F.sub_list_set
        have hslf := F.sub_list_frozenset
        have hne : (Value.type "list" == Value.type "dict") = false := by decide
        have hl1 : (s.heap.push (newS led)).IsList l items := ⟨_, hol', rfl, nl, rfl⟩
        unfold Builtin.«set.__init__» noKeywords Builtin.Frozenset.updateFrom
        generalize hPI : pyIter = PI
        wp_walk
        subst hPI
        refine wpAny_pyIter_list hl1 ?_
        refine wpAny_bind (wpAny_runValue ?_)
        have hlS : l < s.heap.objs.size := Heap.lt_size hol
        have hh3 : A.in1.in1.in1.handled = none := by simp [hh]
        have hu3 : A.in1.in1.in1.units < cLine := by simp; omega
        have hneI : l ≠ (s.heap.push (newS led)).objs.size := by
          rw [Heap.size_push]; exact Nat.ne_of_lt (Nat.lt_succ_of_lt hlS)
        have hSf : s.heap.objs.size ∉ [(s.heap.push (newS led)).objs.size, l] := by
          rw [Heap.size_push]; simp only [List.mem_cons, List.mem_singleton, List.not_mem_nil, or_false, not_or]
          exact ⟨Nat.ne_of_lt (Nat.lt_succ_self _), Nat.ne_of_gt hlS⟩
        refine loop_set K ((Walks.list hh3 _ l hneI items).toS) s.heap.objs.size hSf hu3 s.heap val hi hb (fun b hb' => ?hwr) (Nat.le_of_eq hM) (items.size - 0) 0 _ (by omega) (Nat.zero_le _)
          ⟨⟨_, Heap.get?_push_size _ rfl, rfl, rfl⟩, (hl1.push _)⟩ (fun b o _ e => Heap.get?_push_of_some _ (Heap.get?_push_of_some _ e)) ?hS0 ?hR
        case hwr =>
          rw [Heap.size_push] at hb'
          simp only [List.mem_cons, List.mem_singleton, List.not_mem_nil, or_false] at hb'
          rw [hb', hM]; exact Nat.le_succ _
        case hS0 => exact K.fresh led (Heap.get?_push_of_some _ hS)
        case hR =>
          intro s' hm hS'
          obtain ⟨h', g', d', tk', os'⟩ := s'
          have eg : g' = s.gens := hm.gens
          have ed : d' = s.drawn := hm.drawn
          have eo : os' = s.os := hm.os
          subst eg; subst ed; subst eo
          show wpAny _ _ _ _ _ _
          refine wpAny_pure ?_
          show wpAny _ _ (ret Value.none) _ _ _
          refine wpAny_pure ⟨rfl, h', tk', rfl, hS', fun b o hb e => ?_⟩
          have hb1 : b ≠ s.heap.objs.size := Nat.ne_of_lt hb
          have hb2 : b ≠ (s.heap.push (newS led)).objs.size := by
            rw [Heap.size_push]; exact Nat.ne_of_lt (Nat.lt_succ_of_lt hb)
          exact hm.heap b o (by simp only [List.mem_cons, List.mem_singleton, List.not_mem_nil, or_false, not_or]; exact ⟨hb1, hb2⟩) (Heap.get?_push_of_some _ (Heap.get?_push_of_some _ e))
      · cases r₂ with
        | error e => exact hr₂
        | ok fl₂ =>
          cases fl₂ with
          | ret r =>
            obtain ⟨rfl, h', tk, rfl, hS', hk'⟩ := hr₂
            repeat (any_goals (first | assumption | wp_step))
            exact h _ _ hS' hk'
          | _ => exact hr₂.elim
    | _ => exact hr.elim

theorem call_set_tuple {M : Nat} (K : SK prog w κ M) {l : Addr} {items : Array Value} {val : Nat → κ} {Q : Value → Shared → Prop}
    (hh : A.handled = none) (hu : A.units + 8 < cLine) (hM : M = s.heap.objs.size) (hl : s.heap.IsTuple l items) (hi : ∀ i v, items[i]? = some v → K.is s.heap (val i) v) (hb : items.size ≤ 17)
    (h : ∀ (h' : Heap) (tk : Nat), K.P h' s.heap.objs.size (fun k' => (firstD val items.size).any (fun y => decide (y = k'))) (firstD val items.size).length →
      (∀ b o, b < s.heap.objs.size → s.heap.get? b = some o → h'.get? b = some o) → Q (.ref s.heap.objs.size) { s with heap := h', toks := tk }) :
    wpAny (model prog w) A (call (.type "set") [.ref l]) Q E s := by
  obtain ⟨c, tl, hmro⟩ := F.called_set.mro
  have hmade := F.called_set.made
  have hsub := F.called_set.sub
  refine wpAny_call (codeAny_of_tree ?_)
  show wpAny _ _ (callAny (.type "set") _) _ _ _
  refine wpAny_pure ⟨Code.quiet_builtin _ (by decide +kernel), codeAny_builtin F.entry_type_call ?_⟩
  rw [Around.under_plain (weight_type_call_type "set" [.ref l] []) rfl]
  have h1 := F.called_set.notType
  have h2 := F.called_set.canCreate
  have hct := F.typeCall_set_1 (.ref l)
  repeat (any_goals (first | assumption | wp_step))
  refine codeAny_mono (code_set_new_1 (.ref l) (E := E) (Q₁ := fun obj s₁ => ∃ led : Bool, obj = .ref s.heap.objs.size ∧ s₁ = { s with heap := s.heap.push (newS led) }) fun led => ⟨led, rfl, rfl⟩) fun r s₁ hr => ?_
  cases r with
  | error e => exact hr
  | ok fl =>
    cases fl with
    | ret obj =>
      obtain ⟨led, rfl, rfl⟩ := hr
      have hS : (s.heap.push (newS led)).get? s.heap.objs.size = some (newS led) := Heap.get?_push_size _ rfl
      have hT : Shared.TypeIs { s with heap := s.heap.push (newS led) } (.ref s.heap.objs.size) "set" := ⟨_, hS, rfl⟩
      have hli := F.called_set.init.lookup
      have hbi := F.called_set.init.bind (.ref s.heap.objs.size)
      repeat (any_goals (first | assumption | wp_step))
      refine codeAny_mono (codeAny_call_builtin (R := wants (fun r s₂ => r = .none ∧ ∃ h' tk, s₂ = { s with heap := h', toks := tk } ∧
          K.P h' s.heap.objs.size (fun k' => (firstD val items.size).any (fun y => decide (y = k'))) (firstD val items.size).length ∧
          (∀ b o, b < s.heap.objs.size → s.heap.get? b = some o → h'.get? b = some o)) E) F.called_set.init.plain F.entry_set_init (check_set_init_1 hT ?_)) fun r₂ s₂ hr₂ => ?_
      · obtain ⟨ol, hol, hcl, nl, hdl⟩ := id hl
        obtain ⟨ocls, odict, odata, oslots⟩ := ol
        simp only at hcl hdl
        subst hcl; subst hdl
        have hol' : (s.heap.push (newS led)).get? l = some { cls := .type "tuple", dict := odict, data := .seq items nl, slots := oslots } := Heap.get?_push_of_some _ hol
        have hsls := F.sub_tuple_set
        have hslf := F.sub_tuple_frozenset
        have hne : (Value.type "tuple" == Value.type "dict") = false := by decide
        have hl1 : (s.heap.push (newS led)).IsTuple l items := ⟨_, hol', rfl, nl, rfl⟩
        unfold Builtin.«set.__init__» noKeywords Builtin.Frozenset.updateFrom
        generalize hPI : pyIter = PI
        wp_walk
        subst hPI
        refine wpAny_pyIter_tuple hl1 ?_
        refine wpAny_bind (wpAny_runValue ?_)
        have hlS : l < s.heap.objs.size := Heap.lt_size hol
        have hh3 : A.in1.in1.in1.handled = none := by simp [hh]
        have hu3 : A.in1.in1.in1.units < cLine := by simp; omega
        have hneI : l ≠ (s.heap.push (newS led)).objs.size := by
          rw [Heap.size_push]; exact Nat.ne_of_lt (Nat.lt_succ_of_lt hlS)
        have hSf : s.heap.objs.size ∉ [(s.heap.push (newS led)).objs.size, l] := by
          rw [Heap.size_push]; simp only [List.mem_cons, List.mem_singleton, List.not_mem_nil, or_false, not_or]
          exact ⟨Nat.ne_of_lt (Nat.lt_succ_self _), Nat.ne_of_gt hlS⟩
        refine loop_set K ((Walks.tuple hh3 _ l hneI items).toS) s.heap.objs.size hSf hu3 s.heap val hi hb (fun b hb' => ?hwr) (Nat.le_of_eq hM) (items.size - 0) 0 _ (by omega) (Nat.zero_le _)
          ⟨⟨_, Heap.get?_push_size _ rfl, rfl, rfl⟩, (hl1.push _)⟩ (fun b o _ e => Heap.get?_push_of_some _ (Heap.get?_push_of_some _ e)) ?hS0 ?hR
        case hwr =>
          rw [Heap.size_push] at hb'
          simp only [List.mem_cons, List.mem_singleton, List.not_mem_nil, or_false] at hb'
          rw [hb', hM]; exact Nat.le_succ _
        case hS0 => exact K.fresh led (Heap.get?_push_of_some _ hS)
        case hR =>
          intro s' hm hS'
          obtain ⟨h', g', d', tk', os'⟩ := s'
          have eg : g' = s.gens := hm.gens
          have ed : d' = s.drawn := hm.drawn
          have eo : os' = s.os := hm.os
          subst eg; subst ed; subst eo
          show wpAny _ _ _ _ _ _
          refine wpAny_pure ?_
          show wpAny _ _ (ret Value.none) _ _ _
          refine wpAny_pure ⟨rfl, h', tk', rfl, hS', fun b o hb e => ?_⟩
          have hb1 : b ≠ s.heap.objs.size := Nat.ne_of_lt hb
          have hb2 : b ≠ (s.heap.push (newS led)).objs.size := by
            rw [Heap.size_push]; exact Nat.ne_of_lt (Nat.lt_succ_of_lt hb)
          exact hm.heap b o (by simp only [List.mem_cons, List.mem_singleton, List.not_mem_nil, or_false, not_or]; exact ⟨hb1, hb2⟩) (Heap.get?_push_of_some _ (Heap.get?_push_of_some _ e))
      · cases r₂ with
        | error e => exact hr₂
        | ok fl₂ =>
          cases fl₂ with
          | ret r =>
            obtain ⟨rfl, h', tk, rfl, hS', hk'⟩ := hr₂
            repeat (any_goals (first | assumption | wp_step))
            exact h _ _ hS' hk'
          | _ => exact hr₂.elim
    | _ => exact hr.elim
end
end SetT
set_option Elab.async false
set_option linter.all false
set_option maxRecDepth 100000
set_option maxHeartbeats 4000000
namespace SetT
open PySem L2
noncomputable def dist {κ : Type} [DecidableEq κ] (xs : List κ) : Nat := (xs.foldl stepD []).length
theorem dist_of {κ : Type} [DecidableEq κ] (xs : List κ) (d : κ) : firstD (fun i => xs.getD i d) xs.length = xs.foldl stepD [] := by
  unfold firstD
  congr 1
  apply List.ext_getElem?
  intro i
  rw [List.getElem?_map]
  by_cases h : i < xs.length
  · rw [List.getElem?_range h]
    simp [h]
  · rw [List.getElem?_eq_none (by simp; omega), List.getElem?_eq_none (by omega)]
    rfl
noncomputable def szAt (a : Addr) (n : Nat) : Heap → Prop := fun h => ∃ o es ep t, h.get? a = some o ∧ o.ExactSet ∧ o.data = .set es ep t ∧ t.fits es.size = true ∧ es.size = n
noncomputable def szO (a : Addr) (n : Nat) : HO := .ext (szAt a n)
theorem szO_ok {P : Program} {w : World} {H : Hp} {h : Heap} {a : Addr} {n : Nat} (x : szAt a n h) : ObjOk P w H h a (szO a n) := by
  refine ⟨x, ?_, fun h1 h2 ⟨o, es, ep, t, e, r⟩ k => ⟨o, es, ep, t, k o e, r⟩⟩
  obtain ⟨o, es, ep, t, e, _⟩ := x
  exact ⟨o, e⟩
def TupKeys (K : PySem.W.Frag) (H : Hp) (kss : List (List Str)) (ys : List V) : Prop := ys.length = kss.length ∧ ∀ i y, ys[i]? = some y → ∃ q, y = V.ref q ∧ SqT K H q ((kss.getD i []).map V.str)
def rSetS (K : PySem.W.Frag) (xs : List V) (H : Hp) (Q : VK) : Prop := ∃ p ys, xs = [.ref p] ∧ (SqL K H p ys ∨ SqT K H p ys) ∧ ys.length ≤ 17 ∧
  ((∃ ss : List Str, ys = ss.map V.str ∧ ∀ l, H l = none → Q (.ref l) (upd H l (szO l (dist ss)))) ∨ ∃ kss, TupKeys K H kss ys ∧ ∀ l, H l = none → Q (.ref l) (upd H l (szO l (dist kss))))
section
variable {X : Cx}
theorem items_of {P : Program} {w : World} : ∀ {ks : List Str} {its : List Value}, Vals (ks.map V.str) its → ItemsAre (strKind P w) ks its
  | [], _, r => by cases r; exact .nil
  | k :: ks, _, r => by
    cases r with
    | cons r1 r2 =>
      refine .cons ?_ (items_of r2)
      obtain ⟨t, rfl⟩ := r1
      exact beq_self_eq_true k
theorem call_setS {K : PySem.W.Frag} (hK : X.K = K) (hc : X.calm = true) (hu : X.A.units + 64 < cLine) : CallR X (.type "set") (rSetS K) := by
  subst hK
  intro pins s σ H xs us Q I r h
  obtain ⟨p, ys, rfl, hq, hl, h⟩ := h
  obtain ⟨u, rfl, rx⟩ := vals1 r
  cases rx
  have hh := I.ok.hd hc
  have hu8 : X.A.units + 8 < cLine := by omega
  -- what is walked
  have src : ∃ its : List Value, Vals ys its ∧ (s.heap.IsList p its.toArray ∨ s.heap.IsTuple p its.toArray) := by
    rcases hq with hq | hq
    · obtain ⟨its, r', pl, hz⟩ := I.list hq
      exact ⟨its, r', .inl pl.isList⟩
    · obtain ⟨its, r', pl, hz⟩ := I.tuple hq
      exact ⟨its, r', .inr pl⟩
  obtain ⟨its, rv, src⟩ := src
  have hlen := rv.length
  have hsz : its.toArray.size = ys.length := by simp [hlen]
  have fin : ∀ (n : Nat), (∀ l, H l = none → Q (.ref l) (upd H l (szO l n))) → ∀ (h' : Heap) (tk : Nat), szAt s.heap.objs.size n h' → (∀ b o, b < s.heap.objs.size → s.heap.get? b = some o → h'.get? b = some o) → EP X pins σ Q (.ref s.heap.objs.size) { s with heap := h', toks := tk } := fun n q h' tk hs kp =>
    ⟨.ref s.heap.objs.size, _, I.laid (t' := tk) (fun b o e => kp b o (Heap.lt_size e) e) (Nat.le_refl _) (szO_ok hs), rfl, q _ (I.hok.fresh (Nat.le_refl _))⟩
  have go : ∀ {κ : Type} [DecidableEq κ] (K : SK X.prog X.w κ s.heap.objs.size) (ks : List κ) (d : κ), ks.length = ys.length → (∀ (i : Nat) (v : Value), its.toArray[i]? = some v → K.is s.heap (ks.getD i d) v) → (∀ l, H l = none → Q (.ref l) (upd H l (szO l (dist ks)))) →
      wpAny (model X.prog X.w) X.A (call (.type "set") [.ref p]) (EP X pins σ Q) X.xe s := by
    intro κ _ K ks d hks hi q
    have hfd : firstD (fun i => ks.getD i d) its.toArray.size = ks.foldl stepD [] := by rw [hsz, ← hks]; exact dist_of ks d
    have done : ∀ (h' : Heap) (tk : Nat), K.P h' s.heap.objs.size (fun k' => (firstD (fun i => ks.getD i d) its.toArray.size).any (fun y => decide (y = k'))) (firstD (fun i => ks.getD i d) its.toArray.size).length →
      (∀ b o, b < s.heap.objs.size → s.heap.get? b = some o → h'.get? b = some o) → EP X pins σ Q (.ref s.heap.objs.size) { s with heap := h', toks := tk } := fun h' tk hP kp => by
      rw [hfd] at hP
      exact fin (dist ks) q h' tk (K.obj hP) kp
    rcases src with hs | hs
    · exact call_set_list K hh hu8 rfl hs hi (by omega) done
    · exact call_set_tuple K hh hu8 rfl hs hi (by omega) done
  rcases h with ⟨ss, rfl, q⟩ | ⟨kss, ⟨hk1, hk2⟩, q⟩
  · refine go (strSK X.prog X.w _) ss "" (by simp) (fun i v hv => ?_) q
    have hi : i < ss.length := by
      have := (Array.getElem?_eq_some_iff.mp hv).1
      simp at this hlen
      omega
    obtain ⟨u, hu1, ru⟩ := rv.get (i := i) (x := .str ss[i]) (by rw [List.getElem?_map, List.getElem?_eq_getElem hi]; rfl)
    have e : v = u := by
      rw [List.getElem?_toArray, hu1] at hv
      exact (Option.some.inj hv).symm
    subst e
    have : ss.getD i "" = ss[i] := by simp [hi]
    rw [this]
    obtain ⟨t, rfl⟩ := ru
    exact beq_self_eq_true ss[i]
  · refine go (tupSK X.prog X.w _) kss [] hk1.symm (fun i v hv => ?_) q
    have hi : i < ys.length := by
      have := (Array.getElem?_eq_some_iff.mp hv).1
      simp at this
      omega
    obtain ⟨u, hu1, ru⟩ := rv.get (i := i) (x := ys[i]) (List.getElem?_eq_getElem hi)
    have e : v = u := by
      rw [List.getElem?_toArray, hu1] at hv
      exact (Option.some.inj hv).symm
    subst e
    obtain ⟨b, e1, e2⟩ := hk2 i ys[i] (List.getElem?_eq_getElem hi)
    rw [e1] at ru
    cases ru
    obtain ⟨its2, r2, ⟨o, ho, hc2, n2, hd2⟩, _⟩ := I.tuple e2
    exact ⟨b, rfl, Heap.lt_size ho, o, its2.toArray, n2, ho, hc2, hd2, by simpa using items_of r2⟩
def rLenS (xs : List V) (H : Hp) (Q : VK) : Prop := ∃ p n, xs = [.ref p] ∧ n ≤ 100 ∧ H p = some (szO p n) ∧ Q (.int n) H
theorem call_lenS : CallR X (.builtin "len") rLenS := by
  intro pins s σ H xs us Q I r h
  obtain ⟨p, n, rfl, hn, hp, q⟩ := h
  obtain ⟨u, rfl, rx⟩ := vals1 r
  cases rx
  obtain ⟨⟨o, es, ep, t, ho, hex, hd, hf, rfl⟩, _, _⟩ := I.hok _ _ hp
  refine call_len_set ho hex hd hf (by omega) ?_
  exact ⟨.int es.size, H, I.kept (t' := s.toks + 1 + 1) (fun b o e => e), ⟨_, rfl⟩, q⟩
end
end SetT
set_option Elab.async false
set_option linter.all false
set_option maxRecDepth 100000
set_option maxHeartbeats 4000000
namespace Mr
open PySem L2 SetT
section
variable {k : Ks} {Ex : St → XK}
noncomputable def txtsOf : List T → Option (List Str)
  | [] => some []
  | .str s :: ts => (txtsOf ts).bind fun ss => some (s :: ss)
  | _ :: _ => none
noncomputable def tupsOf : List T → Option (List (List Str))
  | [] => some []
  | .tup us :: ts => (txtsOf us).bind fun ks => (tupsOf ts).bind fun kss => some (ks :: kss)
  | _ :: _ => none
theorem txts_rep {R : Hp} : ∀ {ts : List T} {ss : List Str} {us : List V}, txtsOf ts = some ss → Reps k R ts us → us = ss.map V.str
  | [], ss, us, e, r => by cases e; cases us with
    | nil => rfl
    | cons u us => exact absurd r.length (by simp)
  | t :: ts, ss, us, e, r => by
    cases t with
    | str x =>
      unfold txtsOf at e
      obtain ⟨ss', e1, e2⟩ := Option.bind_eq_some_iff.mp e
      cases e2
      cases us with
      | nil => exact absurd r.length (by simp)
      | cons u us =>
        rw [List.map_cons, ← txts_rep e1 (Reps.head r).2, (Reps.head r).1.str]
    | _ => cases e
theorem tups_rep {R H : Hp} (i : Same R H) : ∀ {ts : List T} {kss : List (List Str)} {us : List V}, tupsOf ts = some kss → Reps k R ts us → TupKeys k.K H kss us
  | [], kss, us, e, r => by
    cases e
    cases us with
    | nil => exact ⟨rfl, fun i y h => by simp at h⟩
    | cons u us => exact absurd r.length (by simp)
  | t :: ts, kss, us, e, r => by
    cases t with
    | tup ws =>
      unfold tupsOf at e
      obtain ⟨ks, e1, e2⟩ := Option.bind_eq_some_iff.mp e
      obtain ⟨kss', e3, e4⟩ := Option.bind_eq_some_iff.mp e2
      cases e4
      cases us with
      | nil => exact absurd r.length (by simp)
      | cons u us =>
        obtain ⟨h1, h2⟩ := tups_rep i e3 (Reps.head r).2
        refine ⟨by rw [List.length_cons, List.length_cons, h1], fun j y hj => ?_⟩
        cases j with
        | zero =>
          cases hj
          have hd := (Reps.head r).1
          unfold Rep at hd
          obtain ⟨p, vs, g1, g2, g3⟩ := hd
          refine ⟨p, g1, ?_⟩
          show SqT k.K H p (ks.map V.str)
          rw [← txts_rep e1 g3]
          exact SqT.mono i g2
        | succ j =>
          obtain ⟨q, g1, g2⟩ := h2 j y hj
          exact ⟨q, g1, g2⟩
    | _ => cases e
noncomputable def distT (ts : List T) : Option Nat := match txtsOf ts with
  | some ss => some (dist ss)
  | none => match tupsOf ts with
    | some kss => some (dist kss)
    | none => none
noncomputable def oLenSet : List T → Option XV
  | [t] => (seqT t).bind fun ts => if ts.length ≤ 17 then (distT ts).bind fun n => some (.fz (.int n)) else none
  | _ => none
theorem foldl_len {κ : Type} [DecidableEq κ] : ∀ (xs acc : List κ), (xs.foldl stepD acc).length ≤ acc.length + xs.length
  | [], acc => Nat.le_refl _
  | x :: xs, acc => by
    rw [List.foldl_cons]
    have := foldl_len xs (stepD acc x)
    have h2 : (stepD acc x).length ≤ acc.length + 1 := by rw [stepD_length]; split <;> omega
    rw [List.length_cons]; omega
theorem dist_le {κ : Type} [DecidableEq κ] (xs : List κ) : dist xs ≤ xs.length := by
  have := foldl_len xs []
  simpa [dist] using this
theorem r_lenSet : RnS k (fun xs H Q => rSetS k.K xs H fun v H1 => rLenS [v] H1 Q) oLenSet := by
  intro R H vs ts Q i hx hw
  obtain ⟨z, hz, hw⟩ := hw
  match ts, hz with
  | [t], hz =>
    obtain ⟨ys, e1, e2⟩ := Option.bind_eq_some_iff.mp hz
    have e2 : (if ys.length ≤ 17 then (distT ys).bind fun n => some (XV.fz (.int n)) else none) = some z := e2
    split at e2
    · rename_i hl
      obtain ⟨n, e3, e4⟩ := Option.bind_eq_some_iff.mp e2
      cases e4
      obtain ⟨v, rfl, hv⟩ := vws1 hx
      have src : ∃ p us, v = .ref p ∧ (SqL k.K H p us ∨ SqT k.K H p us) ∧ Reps k R ys us := by
        cases t with
        | lst us =>
          cases e1
          obtain ⟨p, us, h3, h4, h5⟩ := hv.lst i
          exact ⟨p, us, h3, .inl h4, h5⟩
        | tup us =>
          cases e1
          obtain ⟨p, us, h3, h4, h5⟩ := hv.tup i
          exact ⟨p, us, h3, .inr h4, h5⟩
        | _ => cases e1
      obtain ⟨p, us, rfl, hs, hr⟩ := src
      have hlen := hr.length
      have fin : n ≤ 17 → ∀ l, H l = none → rLenS [.ref l] (upd H l (szO l n)) Q := fun hn l hl' =>
        ⟨l, n, rfl, by omega, upd_same, hw R _ _ ((Ext.refl i).new hl') (repx_fz rep_int)⟩
      refine ⟨p, us, rfl, hs, by omega, ?_⟩
      unfold distT at e3
      cases hss : txtsOf ys with
      | some ss =>
        rw [hss] at e3
        cases e3
        have hu := txts_rep hss hr
        have hlu : us.length = ss.length := by rw [hu, List.length_map]
        refine .inl ⟨ss, hu, fin ?_⟩
        have := dist_le ss
        omega
      | none =>
        rw [hss] at e3
        cases hks : tupsOf ys with
        | some kss =>
          rw [hks] at e3
          cases e3
          have hu := tups_rep i hks hr
          refine .inr ⟨kss, hu, fin ?_⟩
          have := dist_le kss
          have := hu.1
          omega
        | none => rw [hks] at e3; cases e3
    · cases e2
noncomputable def mLenSet (a : MA) : ME := mCB oLenSet a
theorem se_lenSet {ta : TA} {ma : MA} (ha : SA k Ex ta ma) : SE k Ex (tCB rLenS (tCons (tCB (rSetS k.K) ta) tNil)) (mLenSet ma) := by
  show SE k Ex (tCB (fun xs H Q => rSetS k.K xs H fun v H1 => rLenS [v] H1 Q) ta) (mCB oLenSet ma)
  exact se_cb r_lenSet ha
end
end Mr
set_option Elab.async false
set_option linter.all false
set_option maxRecDepth 100000
set_option maxHeartbeats 4000000
namespace HT
open PySem PySem.Spec PyProof.Rows
open PySem.AutoSeq1 in
theorem extend_any (l : Addr) (items : Array Value) (n : Nat) (b : Addr) (items2 : Array Value) (n2 : Nat) (sl : Array (Option Value)) (hc0 : ¬(!items.isEmpty && Builtin.List.listTooLong (items.size + items2.size)) = true) (hc1 : items.size ≤ sizeLine) (hs2 : items.size + items2.size ≤ sizeLine + 1) :
    Meets (Builtin.«list.extend» ⟨[.ref l, .ref b], []⟩) (fun _ R s => s.heap.get? l = some { cls := .type "list", dict := none, data := .seq items n, slots := #[] } ∧ s.heap.get? b = some { cls := .type "list", dict := none, data := .seq items2 n2, slots := sl } ∧ R (.ok (.ret Value.none)) { s with heap := s.heap.update l (Obj.mapSeq fun x => x ++ items2), toks := s.toks }) :=
  .of_wp fun prog w A R s h => by
    obtain ⟨hp, g, d, tk, os⟩ := s
    obtain ⟨hl, hb, h⟩ := h
    have f1 := idx_int
    have f2 := AutoSeq1.sub_tuple_tuple
    have f3 := AutoSeq1.sub_list_list
    have f4 := AutoSeq1.sub_tuple_list
    have f5 := AutoSeq1.sub_list_tuple
    have hz' : (items ++ items2).size ≤ sizeLine + 1 := by rw [Array.size_append]; exact hs2
    wp_walk using (wpAny_updateSeq hl rfl (hz := hc1) (_hz' := hz')), wpAny_loadPart' hl, wpAny_loadPart' hb
    exact ⟨_, rfl, h⟩
end HT
namespace L2
open PySem PySem.Spec PyProof.Rows
section
variable {X : Cx}
noncomputable def rExtendK (K : PySem.W.Frag) : V → List V → Hp → VK → Prop := fun x vs H Q => ∃ l b xs zs, x = .ref l ∧ vs = [.ref b] ∧ H l = some (.lst xs) ∧ SqL K H b zs ∧ xs.length + zs.length ≤ sizeLine ∧ Q .non (upd H l (.lst (xs ++ zs)))
theorem mt_extendK {K : PySem.W.Frag} (hK : X.K = K) : MtM X "list.extend" (rExtendK K) := by
  subst hK
  intro pins s σ H x vs v us Q I rx rv h
  obtain ⟨l, b, xs, zs, rfl, rfl, hH, hB, hz, q⟩ := h
  cases rx
  obtain ⟨u, rfl, ru⟩ := rv.one
  cases ru
  obtain ⟨z, its, n, r, hl, e⟩ := I.lstM hH
  obtain ⟨its2, r2, ⟨o, n2, e2, hc, hd, hs⟩, z2⟩ := I.list hB
  obtain ⟨ocl, odi, oda, osl⟩ := o
  cases hc
  cases hd
  cases hs
  have hl2 := r2.length
  have hsz : its.toArray.size + its2.toArray.size ≤ sizeLine := by rw [List.size_toArray, List.size_toArray]; omega
  have hlong : ¬ (!its.toArray.isEmpty && Builtin.List.listTooLong (its.toArray.size + its2.toArray.size)) = true := by
    rw [notLongL hsz, Bool.and_false]
    exact Bool.false_ne_true
  refine call_meets F.slot_list_extend ⟨_, e, rfl⟩ F.entry_list_extend (F.args_list_extend_2 _ _)
    (HT.extend_any l its.toArray n b its2.toArray n2 osl hlong (by rw [List.size_toArray]; omega) (by omega)) ⟨e, e2, ?_⟩
  refine ⟨.non, _, I.lset (its' := its ++ its2) hH e (by simp) (r.append r2) ?_, rfl, q⟩
  rw [List.length_append]
  omega
end
end L2
set_option Elab.async false
set_option linter.all false
set_option maxRecDepth 100000
set_option maxHeartbeats 4000000
namespace Mr
open PySem L2
section
variable {k : Ks} {Ex : St → XK}
def MutS (k : Ks) (r : V → List V → Hp → VK → Prop) (g : List T → List T → Option (List T)) : Prop := ∀ (R : Hp) p us vs ts ss ts' (H : Hp) (Q : VK), Same R H → H p = some (.lst us) → Reps k R ts us → Reps k R ss vs → g ts ss = some ts' → (∀ v us', Reps k R ts' us' → Q v (upd H p (.lst us'))) → r (.ref p) vs H Q
theorem ss_mutS {r : V → List V → Hp → VK → Prop} {g : List T → List T → Option (List T)} {i : Nat} {tb : TA} {mb : MA} (hr : MutS k r g) (hb : SA k Ex tb mb) : SS k Ex (tDrop (tBM k.K "list" r (tVar i) tb)) (mMut g i mb) := by
  constructor
  intro R0 H0 R σ ρ H D I h
  unfold mMut at h
  cases e : ρ[i]? with
  | none => rw [e] at h; exact h.elim
  | some x =>
    rw [e] at h
    cases x with
    | un => exact h.elim
    | fz t => exact h.elim
    | ow o =>
      cases o with
      | d kvs => exact h.elim
      | l ts =>
        obtain ⟨p, h1, h2, h3, us, h4, h5⟩ := I.ow i _ e
        refine ⟨.ref p, h1, .inl ⟨rfl, us, SqL.of h4⟩, ?_⟩
        refine hb.run I (Rs.holds_mono (So.holds_of I h) (fun xs _ hx => ?_) fun c z => z)
        intro R1 H1 vs e1 r1
        cases hg : (durs xs).bind fun ss => g ts ss with
        | none => rw [hg] at hx; exact hx.elim
        | some ts' =>
          rw [hg] at hx
          obtain ⟨ss, hs, hg⟩ := Option.bind_eq_some_iff.mp hg
          obtain ⟨R2, e2, s2, r2⟩ := RepXs.durs e1 r1 hs
          have I2 := I.step e2
          refine hr R2 p us vs ts ss ts' H1 _ e2.i (e1.h _ _ h4) (h5.mono e2.r) r2 hg fun _ us' hu => ?_
          exact hx R2 σ _ e2.r (I2.change e h1 ⟨us', upd_same, hu⟩)
noncomputable def uextend : List T → List T → Option (List T) := fun ts ss => match ss with | [.lst zs] => if ts.length + zs.length ≤ sizeLine then some (ts ++ zs) else none | _ => none
theorem mu_extend : MutS k (rExtendK k.K) uextend := by
  intro R p us vs ts ss ts' H Q i h1 h2 h3 hg hq
  match ss, hg with
  | [.lst zs], hg =>
    obtain ⟨u, r, rfl, h4, h5⟩ : ∃ u r, vs = u :: r ∧ Rep k R (.lst zs) u ∧ Reps k R [] r := by unfold Reps at h3; exact h3
    unfold Reps at h5
    subst h5
    unfold Rep at h4
    obtain ⟨b, ws, rfl, h6, h7⟩ := h4
    unfold uextend at hg
    dsimp only at hg
    split at hg
    · cases hg
      rename_i hl
      refine ⟨p, b, us, ws, rfl, rfl, h1, i.seq h6, by rw [← h2.length, ← h7.length]; exact hl, hq _ _ (h2.append h7)⟩
    · cases hg
noncomputable def oStrI : List T → Option XV
  | [.int i] => if i.natAbs.log2 < 1920 then some (.fz (.str (toString i))) else none
  | _ => none
theorem r_strI : RnS k (fun xs H Q => ∃ i, xs = [.int i] ∧ i.natAbs.log2 < 1920 ∧ Q (.str (toString i)) H) oStrI := by
  intro R H vs ts Q i hv hw
  obtain ⟨z, hz, hw⟩ := hw
  unfold oStrI at hz
  split at hz
  · split at hz
    · cases hz
      rename_i hl
      obtain ⟨a, rfl, ha⟩ := vws1 hv
      cases ha.int
      exact ⟨_, rfl, hl, hw R H _ (Ext.refl i) (by unfold RepX; exact rep_str)⟩
    · cases hz
  · cases hz
end
end Mr
set_option Elab.async false
set_option linter.all false
set_option maxRecDepth 100000
set_option maxHeartbeats 4000000
namespace L2
open PySem PySem.Spec PyProof.Rows
section
variable {X : Cx}
end
end L2
set_option Elab.async false
set_option linter.all false
set_option maxRecDepth 100000
set_option maxHeartbeats 4000000
namespace Mr
open PySem L2
section
variable {k : Ks} {Ex : St → XK}
end
end Mr
set_option Elab.async false
set_option linter.all false
set_option maxRecDepth 100000
set_option maxHeartbeats 4000000
namespace L2
open PySem PySem.Spec PyProof.Rows PySem.W PyProof.Rows.KTD
noncomputable abbrev dats (D : List (Str × Int)) : List (Str × KTD.Dat) := D.map fun p => (p.1, KTD.Dat.flat (.int p.2))
section
variable {X : Cx}
theorem here_of {K : Frag} (hK : X.K = K) {pins : List (Addr × Obj)} {σ : St} {H : Hp} {s : Shared} {a : Addr} {D : List (Str × Int)} (hl : tabLook (datLooks fun b => K.lookup b) (fun b => K.lookup b) a (dats D) = true) (I : Inv X pins σ H s) : Here s.heap s.heap a (dats D) := by
  subst hK
  exact ⟨text_of_look (fun a o e => I.kIn a o e) hl, fun _ _ e => e⟩
noncomputable def rInK (neg : Bool) (a : Addr) (D : List (Str × Int)) : R2 := fun x y H Q => ∃ z, x = .str z ∧ y = .ref a ∧ Q (.bl (if neg then !inKeys z (dats D) else inKeys z (dats D))) H
theorem op_inK {K : Frag} (hK : X.K = K) {a : Addr} {D : List (Str × Int)} (hl : tabLook (datLooks fun b => K.lookup b) (fun b => K.lookup b) a (dats D) = true) : OpR X (compareOp .In) (rInK false a D) := by
  intro pins s σ H x y v u Q I rx ry h
  obtain ⟨z, rfl, rfl, q⟩ := h
  obtain ⟨t, rfl⟩ := rx
  cases ry
  exact in_text (here_of hK hl I) ⟨.bl _, H, I.tok _, rfl, q⟩
theorem op_notInK {K : Frag} (hK : X.K = K) {a : Addr} {D : List (Str × Int)} (hl : tabLook (datLooks fun b => K.lookup b) (fun b => K.lookup b) a (dats D) = true) : OpR X (compareOp .NotIn) (rInK true a D) := by
  intro pins s σ H x y v u Q I rx ry h
  obtain ⟨z, rfl, rfl, q⟩ := h
  obtain ⟨t, rfl⟩ := rx
  cases ry
  exact notin_text (here_of hK hl I) ⟨.bl _, H, I.tok _, rfl, q⟩
noncomputable def rIxK (a : Addr) (D : List (Str × Int)) : R2 := fun x y H Q => ∃ z i, x = .ref a ∧ y = .str z ∧ datumAt z (dats D) = some (.flat (.int i)) ∧ Q (.int i) H
theorem gi_text {prog : Program} {w : World} {A : Around} {E : Value → Shared → Prop} {s : Shared} {h₀ : Heap} {a : Addr} {D : List (Str × KTD.Dat)} {k : Str} {tk : Tok} {d : KTD.Dat} {Q : Value → Shared → Prop} (T : Here h₀ s.heap a D) (hmem : datumAt k D = some d) (h : ∀ v, d.At h₀ v → Q v { s with toks := s.toks + 1 }) :
    wpAny (model prog w) A (getItem (.ref a) (.str k tk)) Q E s := by
  unfold getItem
  try with_reducible refine wpAny_holding ?_
  refine wpAny_bind (wpAny_sequenceKey T.typeIs (by decide) ?_)
  refine wpAny_bind (wpAny_callSpecial?_slot (name := Str.ofString "__getitem__") T.typeIs PySem.F.slot_dict_getitem
    (wpAny_call_entry PySem.F.slot_dict_getitem T.typeIs PySem.F.entry_dict_getitem ?_ (PySem.F.args_dict_getitem_2 _ _)))
  show wpAny _ _ (dictGet a (.str k tk) >>= _) _ _ s
  refine wpAny_bind (dictGet_text T (fun d' v ha hv => ?_) fun hn => by rw [hmem] at hn; cases hn)
  rw [hmem] at ha
  cases ha
  exact wpAny_pure ⟨v, rfl, wpAny_pure (h v hv)⟩
theorem ix_K {K : Frag} (hK : X.K = K) {a : Addr} {D : List (Str × Int)} (hl : tabLook (datLooks fun b => K.lookup b) (fun b => K.lookup b) a (dats D) = true) : IxR X (rIxK a D) := by
  intro value slice pins s σ H x y v u Q I rx ry h hs
  obtain ⟨z, i, rfl, rfl, hd, q⟩ := h
  cases rx
  obtain ⟨t, rfl⟩ := ry
  have T := here_of hK hl I
  refine tail_any T.typeIs PySem.F.slot_dict_getitem.lookup (gi_text T hd fun w hw => ?_) hs
  obtain ⟨t', rfl⟩ := PyProof.V.Flat.int_inv hw
  exact ⟨.int i, H, I.tok _, ⟨t', rfl⟩, q⟩
theorem call_intS : CallR X (.type "int") (fun xs H Q => ∃ z n, xs = [.str z] ∧ PySem.intText? z = some n ∧ z.length ≤ 640 ∧ Q (.int n) H) := by
  intro pins s σ H xs us Q I r h
  obtain ⟨z, n, rfl, h1, h2, q⟩ := h
  obtain ⟨u, rfl, ru⟩ := vals1 r
  obtain ⟨t, rfl⟩ := ru
  exact PySem.W.KIN.call_text h1 h2 ⟨.int n, H, I.tok _, ⟨_, rfl⟩, q⟩
end
end L2
set_option Elab.async false
set_option linter.all false
set_option maxRecDepth 100000
set_option maxHeartbeats 4000000
namespace Mr
open PySem L2
section
variable {k : Ks} {Ex : St → XK}
noncomputable def keysK (D : List (Str × Int)) (z : Str) : Bool := D.any fun p => decide (z = p.1)
noncomputable def lookK (D : List (Str × Int)) (z : Str) : Option Int := (D.find? fun p => decide (z = p.1)).map (·.2)
theorem keysK_eq (z : Str) : ∀ D : List (Str × Int), PyProof.Rows.KTD.inKeys z (dats D) = keysK D z
  | [] => rfl
  | (x, d) :: D => by
    show (decide (z = x) || PyProof.Rows.KTD.inKeys z (dats D)) = _
    rw [keysK_eq z D]; rfl
theorem lookK_eq (z : Str) : ∀ (D : List (Str × Int)) (i : Int), lookK D z = some i → PyProof.Rows.KTD.datumAt z (dats D) = some (.flat (.int i))
  | [], i, h => by cases h
  | (x, d) :: D, i, h => by
    show (if decide (z = x) = true then some (.flat (.int d)) else PyProof.Rows.KTD.datumAt z (dats D)) = _
    unfold lookK at h
    rw [List.find?_cons] at h
    cases e : decide (z = x) with
    | true => rw [e] at h; cases h; rfl
    | false => rw [e] at h; rw [if_neg (by decide)]; exact lookK_eq z D i h
noncomputable def oInK (neg : Bool) (D : List (Str × Int)) : T → Option XV
  | .str z => some (.fz (.bl (if neg then !keysK D z else keysK D z)))
  | _ => none
noncomputable def oIxK (D : List (Str × Int)) : T → Option XV
  | .str z => (lookK D z).bind fun i => some (.fz (.int i))
  | _ => none
theorem se_inK {neg : Bool} {a : Addr} {D : List (Str × Int)} {te : TE} {me : ME} (he : SE k Ex te me) : SE k Ex (tOp (rInK neg a D) te (tC (.ref a))) (mUn (oInK neg D) me) := by
  constructor
  intro R0 H0 R σ ρ H Q I h
  refine he.run I (Rs.holds_mono (Rs.holds_bind h) (fun x _ hx => ?_) fun c z => z)
  intro R1 H1 v e1 r1
  obtain ⟨y, hy, hw⟩ := holds_ofO hx
  have vw := r1.vw
  unfold oInK at hy
  split at hy
  · rename_i z ht
    cases hy
    rw [ht] at vw
    refine ⟨z, vw.str, rfl, ?_⟩
    rw [keysK_eq]
    exact hw R1 H1 _ e1 (by unfold RepX; exact rep_bl)
  · cases hy
theorem se_ixK {a : Addr} {D : List (Str × Int)} {te : TE} {me : ME} (he : SE k Ex te me) : SE k Ex (tOp (rIxK a D) (tC (.ref a)) te) (mUn (oIxK D) me) := by
  constructor
  intro R0 H0 R σ ρ H Q I h
  refine he.run I (Rs.holds_mono (Rs.holds_bind h) (fun x _ hx => ?_) fun c z => z)
  intro R1 H1 v e1 r1
  obtain ⟨y, hy, hw⟩ := holds_ofO hx
  have vw := r1.vw
  unfold oIxK at hy
  split at hy
  · rename_i z ht
    rw [ht] at vw
    obtain ⟨i, hi, hy⟩ := Option.bind_eq_some_iff.mp hy
    cases hy
    exact ⟨z, i, rfl, vw.str, lookK_eq z D i hi, hw R1 H1 _ e1 (by unfold RepX; exact rep_int)⟩
  · cases hy
noncomputable def oIntS : List T → Option XV
  | [.str z] => if z.length ≤ 640 then (PySem.intText? z).bind fun n => some (.fz (.int n)) else none
  | _ => none
theorem r_intS : RnS k (fun xs H Q => ∃ z n, xs = [.str z] ∧ PySem.intText? z = some n ∧ z.length ≤ 640 ∧ Q (.int n) H) oIntS := by
  intro R H vs ts Q i hx hw
  obtain ⟨z, hz, hw⟩ := hw
  match ts, hz with
  | [.str y], hz =>
    unfold oIntS at hz
    dsimp only at hz
    split at hz
    · rename_i hl
      obtain ⟨n, h1, h2⟩ := Option.bind_eq_some_iff.mp hz
      cases h2
      obtain ⟨v, rfl, hv⟩ := vws1 hx
      cases hv.str
      exact ⟨y, n, rfl, h1, hl, WO.here i hw repx_int⟩
    · cases hz
end
end Mr
set_option Elab.async false
set_option linter.all false
set_option maxRecDepth 100000
set_option maxHeartbeats 4000000
namespace My
open PySem L2 Mr
noncomputable def mb_street_row : MS :=
    (mSeq (mSet 1 (mIfE (mTest (mOp oEq (mOp oIxT (mVar 0) (mC (.int 4))) (mC (.int 1)))) (mC (.str "lane")) (mC (.str "street"))))
      (mRet (mBM T.isStr oJoin (mC (.str " ")) (mCons (mLst (mCons (mVar 1) (mCons (mOp oIxT (mVar 0) (mC (.int 0))) (mCons (mOp oIxT (mVar 0) (mC (.int 1))) (mCons (mOp oIxT (mVar 0) (mC (.int 2))) (mCons (mCB oStrI (mCons (mOp oIxT (mVar 0) (mC (.int 3))) mNil)) mNil)))))) mNil))))
noncomputable def m_street_row : List T → Rs XV := mDef 2 mb_street_row
noncomputable def mb_ban_row : MS :=
    (mRet (mBM T.isStr oJoin (mC (.str " ")) (mCons (mLst (mCons (mC (.str "ban")) (mCons (mOp oIxT (mVar 0) (mC (.int 0))) (mCons (mOp oIxT (mVar 0) (mC (.int 1))) mNil)))) mNil)))
noncomputable def m_ban_row : List T → Rs XV := mDef 1 mb_ban_row
noncomputable def mb_show : MS :=
    (mSeq (mSet 1 (mLst (mCons (mBM T.isStr oJoin (mC (.str " ")) (mCons (mLst (mCons (mC (.str "yard")) (mCons (mOp oIxT (mVar 0) (mC (.int 0))) mNil))) mNil)) mNil)))
      (mSeq (mMut uextend 1 (mCons (mComp 1 (mItT (mOp oIxT (mVar 0) (mC (.int 1)))) (gN 0) mTrue (mCallN 1 m_street_row (mCons (mVar 0) mNil))) mNil))
      (mSeq (mMut uextend 1 (mCons (mComp 1 (mItT (mOp oIxT (mVar 0) (mC (.int 2)))) (gN 0) mTrue (mCallN 1 m_ban_row (mCons (mVar 0) mNil))) mNil))
      (mRet (mBM T.isStr oJoin (mC (.str "\n")) (mCons (mVar 1) mNil))))))
noncomputable def m_show : List T → Rs XV := mDef 2 mb_show
noncomputable def mb_stand_once : MS :=
    (mRet (mOp oEq (mLenSet (mCons (mVar 0) mNil)) (mCB oLen (mCons (mVar 0) mNil))))
noncomputable def m_stand_once : List T → Rs XV := mDef 1 mb_stand_once
noncomputable def mb_names_fit : MS :=
    (mRet (mCall 1 m_stand_once (mCons (mComp 1 (mItT (mOp oIxT (mVar 0) (mC (.int 1)))) (gN 0) mTrue (mOp oIxT (mVar 0) (mC (.int 0)))) mNil)))
noncomputable def m_names_fit : List T → Rs XV := mDef 1 mb_names_fit
noncomputable def mb_is_whole : MS :=
    (mRet (mAndV (mIsI (isT "int") (mVar 0)) (mNotV (mIsI (isT "bool") (mVar 0)))))
noncomputable def m_is_whole : List T → Rs XV := mDef 1 mb_is_whole
noncomputable def mb_street_fits : MS :=
    (mSeq (mSet 1 (mOp oIxT (mVar 0) (mC (.int 3))))
      (mSeq (mSet 2 (mOp oIxT (mVar 0) (mC (.int 4))))
      (mRet (mAndV (mCall 1 m_is_whole (mCons (mVar 1) mNil)) (mAndV (mOp oGe (mVar 1) (mC (.int 1))) (mAndV (mCall 1 m_is_whole (mCons (mVar 2) mNil)) (mOp (oIn false) (mVar 2) (mTup (mCons (mC (.int 1)) (mCons (mC (.int 2)) mNil))))))))))
noncomputable def m_street_fits : List T → Rs XV := mDef 3 mb_street_fits
noncomputable def mb_numbers_fit : MS :=
    (mRet (mCB oAll (mCons (mComp 1 (mItT (mOp oIxT (mVar 0) (mC (.int 1)))) (gN 0) mTrue (mCallN 1 m_street_fits (mCons (mVar 0) mNil))) mNil)))
noncomputable def m_numbers_fit : List T → Rs XV := mDef 1 mb_numbers_fit
noncomputable def mb_courses_of : MS :=
    (mSeq (mSet 1 mDNew)
      (mSeq (mFor (mItT (mOp oIxT (mVar 0) (mC (.int 1)))) (gT 5 (gsC (gN 2) (gsC (gN 3) (gsC (gN 4) (gsC (gN 5) (gsC (gN 6) gsN))))))
        (mForget [2, 3, 4, 5, 6] (mSeq (mDPut 1 (mF (mFCons (mUn oFmtS (mVar 2)) (mFCons (mC (.str ">")) mFNil))) (mTup (mCons (mVar 3) (mCons (mVar 4) (mCons (mVar 5) mNil)))))
      (mIf (mTest (mOp oEq (mVar 6) (mC (.int 2)))) (mDPut 1 (mF (mFCons (mUn oFmtS (mVar 2)) (mFCons (mC (.str "<")) mFNil))) (mTup (mCons (mVar 4) (mCons (mVar 3) (mCons (mVar 5) mNil))))) mNext))))
      (mRetV 1)))
noncomputable def m_courses_of : List T → Rs XV := mDef 7 mb_courses_of
noncomputable def mb_ban_fits : MS :=
    (mSeq (mIf (mOrT (mTest (mDIn true (mOp oIxT (mVar 2) (mC (.int 0))) (mVar 1))) (mTest (mDIn true (mOp oIxT (mVar 2) (mC (.int 1))) (mVar 1)))) (mRet (mC (.bl false))) mNext)
      (mSeq (mSet 3 (mOp oIxT (mDGet (mVar 1) (mOp oIxT (mVar 2) (mC (.int 0)))) (mC (.int 1))))
      (mRet (mAndV (mOp oEq (mVar 3) (mOp oIxT (mDGet (mVar 1) (mOp oIxT (mVar 2) (mC (.int 1)))) (mC (.int 0)))) (mOp oNe (mVar 3) (mVar 0))))))
noncomputable def m_ban_fits : List T → Rs XV := mDef 4 mb_ban_fits
noncomputable def mb_bans_fit : MS :=
    (mSeq (mSet 1 (mCall 1 m_courses_of (mCons (mVar 0) mNil)))
      (mRet (mAndV (mCall 1 m_stand_once (mCons (mOp oIxT (mVar 0) (mC (.int 2))) mNil)) (mCB oAll (mCons (mComp 1 (mItT (mOp oIxT (mVar 0) (mC (.int 2)))) (gN 0) mTrue (mCallN 3 m_ban_fits (mCons (mOp oIxT (mVar 1) (mC (.int 0))) (mCons (mVar 2) (mCons (mVar 0) mNil))))) mNil)))))
noncomputable def m_bans_fit : List T → Rs XV := mDef 2 mb_bans_fit
noncomputable def mb_fits : MS :=
    (mRet (mAndV (mCall 1 m_names_fit (mCons (mVar 0) mNil)) (mAndV (mCall 1 m_numbers_fit (mCons (mVar 0) mNil)) (mCall 1 m_bans_fit (mCons (mVar 0) mNil)))))
noncomputable def m_fits : List T → Rs XV := mDef 1 mb_fits
noncomputable def mb_fitted : MS :=
    (mSeq (mIf (mNotT (mTest (mCall 1 m_fits (mCons (mVar 0) mNil)))) (mRaise "Unfit" (mCons (mC (.str "the town does not fit")) mNil)) mNext)
      (mRetV 0))
noncomputable def m_fitted : List T → Rs XV := mDef 1 mb_fitted
noncomputable def mb_is_made_of : MS :=
    (mRet (mCB oAll (mCons (mComp 1 (mItS (mVar 0)) (gN 0) mTrue (mOp oInS (mVar 0) (mVar 2))) mNil)))
noncomputable def m_is_made_of : List T → Rs XV := mDef 2 mb_is_made_of
noncomputable def mb_is_name : MS :=
    (mRet (mAndV (mChain oLe oLe (mC (.int 1)) (mCB oLenS (mCons (mVar 0) mNil)) (mC (.int 8))) (mCall 2 m_is_made_of (mCons (mVar 0) (mCons (mC (.str "abcdefghijklmnopqrstuvwxyz")) mNil)))))
noncomputable def m_is_name : List T → Rs XV := mDef 1 mb_is_name
noncomputable def mb_is_number : MS :=
    (mRet (mAndV (mChain oLe oLe (mC (.int 1)) (mCB oLenS (mCons (mVar 0) mNil)) (mC (.int 60))) (mAndV (mOp oNe (mOp oIxS (mVar 0) (mC (.int 0))) (mC (.str "0"))) (mCall 2 m_is_made_of (mCons (mVar 0) (mCons (mC (.str "0123456789")) mNil))))))
noncomputable def m_is_number : List T → Rs XV := mDef 1 mb_is_number
noncomputable def mb_is_side : MS :=
    (mRet (mAndV (mOp (oIn false) (mSl oSlS (mVar 0) (mPart (mUn oNeg (mC (.int 1)))) mNoPart) (mTup (mCons (mC (.str ">")) (mCons (mC (.str "<")) mNil)))) (mCall 1 m_is_name (mCons (mSl oSlS (mVar 0) mNoPart (mPart (mUn oNeg (mC (.int 1))))) mNil))))
noncomputable def m_is_side : List T → Rs XV := mDef 1 mb_is_side
noncomputable def mb_words_of : MS :=
    (mSeq (mSet 1 (mBM T.isStr oSplit (mVar 0) (mCons (mC (.str " ")) mNil)))
      (mSeq (mIf (mTest (mOp (oIn false) (mC (.str "")) (mVar 1))) (mRaise "NoText" (mCons (mF (mFCons (mC (.str "a word without signs in the row ")) (mFCons (mUn oFmtR (mVar 0)) mFNil))) mNil)) mNext)
      (mRetV 1)))
noncomputable def m_words_of : List T → Rs XV := mDef 2 mb_words_of
noncomputable def mb_rows_of : MS :=
    (mSeq (mIf (mTest (mOp oEq (mVar 0) (mC (.str "")))) (mRet (mLst mNil)) mNext)
      (mRet (mBM T.isStr oSplit (mVar 0) (mCons (mC (.str "\n")) mNil))))
noncomputable def m_rows_of : List T → Rs XV := mDef 1 mb_rows_of
noncomputable def mb_is_street_row : MS :=
    (mSeq (mIf (mOrT (mTest (mOp oNe (mCB oLen (mCons (mVar 0) mNil)) (mC (.int 5)))) (mTest (mUn (oInK true ([("lane", 1), ("street", 2)] : List (Str × Int))) (mOp oIxL (mVar 0) (mC (.int 0)))))) (mRet (mC (.bl false))) mNext)
      (mRet (mAndV (mCB oAll (mCons (mComp 1 (mItL (mSl oSlL (mVar 0) (mPart (mC (.int 1))) (mPart (mC (.int 4))))) (gN 0) mTrue (mCallN 1 m_is_name (mCons (mVar 0) mNil))) mNil)) (mCall 1 m_is_number (mCons (mOp oIxL (mVar 0) (mC (.int 4))) mNil)))))
noncomputable def m_is_street_row : List T → Rs XV := mDef 1 mb_is_street_row
noncomputable def mb_street_of : MS :=
    (mSeq (mIf (mNotT (mTest (mCall 1 m_is_street_row (mCons (mVar 0) mNil)))) (mRaise "NoText" (mCons (mC (.str "a row is no street's where a street's is to stand")) mNil)) mNext)
      (mRet (mTup (mCons (mOp oIxL (mVar 0) (mC (.int 1))) (mCons (mOp oIxL (mVar 0) (mC (.int 2))) (mCons (mOp oIxL (mVar 0) (mC (.int 3))) (mCons (mCB oIntS (mCons (mOp oIxL (mVar 0) (mC (.int 4))) mNil)) (mCons (mUn (oIxK ([("lane", 1), ("street", 2)] : List (Str × Int))) (mOp oIxL (mVar 0) (mC (.int 0)))) mNil))))))))
noncomputable def m_street_of : List T → Rs XV := mDef 1 mb_street_of
noncomputable def mb_is_ban_row : MS :=
    (mRet (mAndV (mOp oEq (mCB oLen (mCons (mVar 0) mNil)) (mC (.int 3))) (mAndV (mOp oEq (mOp oIxL (mVar 0) (mC (.int 0))) (mC (.str "ban"))) (mAndV (mCall 1 m_is_side (mCons (mOp oIxL (mVar 0) (mC (.int 1))) mNil)) (mCall 1 m_is_side (mCons (mOp oIxL (mVar 0) (mC (.int 2))) mNil))))))
noncomputable def m_is_ban_row : List T → Rs XV := mDef 1 mb_is_ban_row
noncomputable def mb_ban_of : MS :=
    (mSeq (mIf (mNotT (mTest (mCall 1 m_is_ban_row (mCons (mVar 0) mNil)))) (mRaise "NoText" (mCons (mC (.str "a row is no ban's where a ban's is to stand")) mNil)) mNext)
      (mRet (mTup (mCons (mOp oIxL (mVar 0) (mC (.int 1))) (mCons (mOp oIxL (mVar 0) (mC (.int 2))) mNil)))))
noncomputable def m_ban_of : List T → Rs XV := mDef 1 mb_ban_of
noncomputable def mb_is_yard_row : MS :=
    (mRet (mAndV (mOp oEq (mCB oLen (mCons (mVar 0) mNil)) (mC (.int 2))) (mAndV (mOp oEq (mOp oIxL (mVar 0) (mC (.int 0))) (mC (.str "yard"))) (mCall 1 m_is_name (mCons (mOp oIxL (mVar 0) (mC (.int 1))) mNil)))))
noncomputable def m_is_yard_row : List T → Rs XV := mDef 1 mb_is_yard_row
noncomputable def mb_yard_of : MS :=
    (mSeq (mIf (mOrT (mTest (mOp oEqD (mVar 0) (mLst mNil))) (mNotT (mTest (mCall 1 m_is_yard_row (mCons (mOp oIxL (mVar 0) (mC (.int 0))) mNil))))) (mRaise "NoText" (mCons (mC (.str "the first row is no yard's")) mNil)) mNext)
      (mRet (mOp oIxL (mOp oIxL (mVar 0) (mC (.int 0))) (mC (.int 1)))))
noncomputable def m_yard_of : List T → Rs XV := mDef 1 mb_yard_of
noncomputable def mb_town_of : MS :=
    (mSeq (mSet 1 (mOp oAdd (mC (.int 1)) (mCB oLen (mCons (mComp 1 (mItL (mVar 0)) (gN 0) (mTest (mUn (oInK false ([("lane", 1), ("street", 2)] : List (Str × Int))) (mOp oIxL (mVar 0) (mC (.int 0))))) (mVar 0)) mNil))))
      (mSeq (mSet 2 (mComp 1 (mItL (mSl oSlL (mVar 0) (mPart (mC (.int 1))) (mPart (mVar 1)))) (gN 0) mTrue (mCallN 1 m_street_of (mCons (mVar 0) mNil))))
      (mSeq (mSet 3 (mComp 1 (mItL (mSl oSlL (mVar 0) (mPart (mVar 1)) mNoPart)) (gN 0) mTrue (mCallN 1 m_ban_of (mCons (mVar 0) mNil))))
      (mRet (mTup (mCons (mCall 1 m_yard_of (mCons (mSl oSlL (mVar 0) mNoPart (mPart (mC (.int 1)))) mNil)) (mCons (mCB oTuple (mCons (mVar 2) mNil)) (mCons (mCB oTuple (mCons (mVar 3) mNil)) mNil))))))))
noncomputable def m_town_of : List T → Rs XV := mDef 4 mb_town_of
noncomputable def mb_read : MS :=
    (mSeq (mIf (mNotT (mTest (mIsI (isT "str") (mVar 0)))) (mRaise "NoText" (mCons (mC (.str "a town is read of a text alone")) mNil)) mNext)
      (mRet (mCall 1 m_fitted (mCons (mCall 1 m_town_of (mCons (mComp 1 (mItL (mCall 1 m_rows_of (mCons (mVar 0) mNil))) (gN 0) mTrue (mCallN 1 m_words_of (mCons (mVar 0) mNil))) mNil)) mNil))))
noncomputable def m_read : List T → Rs XV := mDef 1 mb_read
noncomputable def mb__law_cell : MS :=
    (mSeq (mIf (mTest (mOp oLt (mVar 1) (mCB oLen (mCons (mVar 0) mNil)))) (mRet (mOp oIxL (mVar 0) (mVar 1))) mNext)
      (mRet (mC (.int 0))))
noncomputable def m__law_cell : List T → Rs XV := mDef 2 mb__law_cell
noncomputable def mb__law_names : MS :=
    (mSeq (mSet 2 (mC (.str "abcdefghijklmnopqrstuvwxyz")))
      (mSeq (mSet 3 (mOp oMod (mOp oMul (mVar 0) (mC (.int 48271))) (mC (.int 2147483647))))
      (mSeq (mSet 4 (mCB oInt (mCons (mOp oEq (mOp oMod (mOp oDiv (mVar 3) (mC (.int 43264))) (mC (.int 3))) (mC (.int 0))) mNil)))
      (mSeq (mSet 5 (mOp oAdd (mC (.int 1)) (mOp oMod (mVar 3) (mOp oSub (mC (.int 8)) (mVar 4)))))
      (mSeq (mSet 6 (mOp oMod (mOp oDiv (mVar 3) (mC (.int 8))) (mVar 5)))
      (mSeq (mSet 7 (mOp oIxS (mVar 2) (mOp oMod (mOp oDiv (mVar 3) (mC (.int 64))) (mC (.int 26)))))
      (mSeq (mSet 8 (mLst mNil))
      (mSeq (mFor (mItR1 (mCons (mVar 1) mNil)) (gN 9)
        (mForget [9, 10] (mSeq (mSet 10 (mOp oIxS (mVar 2) (mOp oMod (mOp oAdd (mOp oDiv (mVar 3) (mC (.int 1664))) (mOp oMul (mC (.int 3)) (mVar 9))) (mC (.int 26)))))
      (mSeq (mMut uappend 8 (mCons (mOp oAddS (mOp oAddS (mOp oMulS (mVar 7) (mVar 6)) (mVar 10)) (mOp oMulS (mVar 7) (mOp oSub (mOp oSub (mVar 5) (mVar 6)) (mC (.int 1))))) mNil))
      (mIf (mAndT (mTest (mOp oEq (mVar 4) (mC (.int 1)))) (mTest (mOp oEq (mOp oMod (mVar 9) (mC (.int 2))) (mC (.int 1))))) (mSetItem 8 (mVar 9) (mOp oAddS (mOp oIxL (mVar 8) (mOp oSub (mVar 9) (mC (.int 1)))) (mVar 7))) mNext)))))
      (mRetV 8)))))))))
noncomputable def m__law_names : List T → Rs XV := mDef 11 mb__law_names
noncomputable def mb__law_length : MS :=
    (mSeq (mIf (mTest (mOp oGt (mOp oMod (mVar 0) (mC (.int 3))) (mC (.int 0)))) (mRet (mOp oAdd (mC (.int 1)) (mOp oMod (mOp oDiv (mVar 0) (mC (.int 3))) (mC (.int 9))))) mNext)
      (mRet (mOp oAdd (mC (.int 1)) (mOp oMod (mOp oMulB (mOp oMod (mOp oDiv (mVar 0) (mC (.int 3))) (mOp oPow (mC (.int 10)) (mC (.int 30)))) (mOp oPow (mC (.int 48271)) (mC (.int 11)))) (mOp oSub (mOp oPow (mC (.int 10)) (mC (.int 60))) (mC (.int 1)))))))
noncomputable def m__law_length : List T → Rs XV := mDef 1 mb__law_length
noncomputable def mb__law_streets : MS :=
    (mSeq (mSet 3 (mLst mNil))
      (mSeq (mFor (mItR1 (mCons (mCB oLen (mCons (mVar 2) mNil)) mNil)) (gN 4)
        (mForget [4, 5, 6, 7, 8, 9] (mSeq (mSet 5 (mCall 2 m__law_cell (mCons (mVar 0) (mCons (mOp oAdd (mC (.int 6)) (mOp oMul (mC (.int 2)) (mVar 4))) mNil))))
      (mSeq (mSet 6 (mOp oIxL (mVar 1) (mOp oMod (mVar 4) (mCB oLen (mCons (mVar 1) mNil)))))
      (mSeq (mSet 7 (mOp oIxL (mVar 1) (mOp oMod (mOp oAdd (mVar 4) (mC (.int 1))) (mCB oLen (mCons (mVar 1) mNil)))))
      (mSeq (mIf (mTest (mOp oEq (mOp oMod (mVar 5) (mC (.int 2))) (mC (.int 1)))) (mSeq (mSet 6 (mOp oIxL (mVar 1) (mOp oMod (mOp oDiv (mVar 5) (mC (.int 2))) (mCB oLen (mCons (mVar 1) mNil)))))
      (mSet 7 (mOp oIxL (mVar 1) (mOp oMod (mOp oDiv (mVar 5) (mC (.int 10))) (mCB oLen (mCons (mVar 1) mNil)))))) mNext)
      (mSeq (mSet 8 (mCall 1 m__law_length (mCons (mCall 2 m__law_cell (mCons (mVar 0) (mCons (mOp oAdd (mC (.int 7)) (mOp oMul (mC (.int 2)) (mVar 4))) mNil))) mNil)))
      (mSeq (mSet 9 (mTup (mCons (mOp oIxL (mVar 2) (mVar 4)) (mCons (mVar 6) (mCons (mVar 7) (mCons (mVar 8) (mCons (mOp oAdd (mC (.int 1)) (mCB oInt (mCons (mOp oGt (mOp oMod (mOp oDiv (mVar 5) (mC (.int 50))) (mC (.int 3))) (mC (.int 0))) mNil))) mNil)))))))
      (mMut uinsert 3 (mCons (mOp oMod (mOp oDiv (mVar 5) (mC (.int 150))) (mOp oAdd (mCB oLen (mCons (mVar 3) mNil)) (mC (.int 1)))) (mCons (mVar 9) mNil)))))))))))
      (mRetV 3)))
noncomputable def m__law_streets : List T → Rs XV := mDef 10 mb__law_streets
noncomputable def mb__law_arcs : MS :=
    (mSeq (mSet 1 mDNew)
      (mSeq (mFor (mItQ (mVar 0)) (gT 5 (gsC (gN 2) (gsC (gN 3) (gsC (gN 4) (gsC (gN 5) (gsC (gN 6) gsN))))))
        (mForget [2, 3, 4, 5, 6] (mSeq (mDPut 1 (mOp oAddS (mVar 2) (mC (.str ">"))) (mTup (mCons (mVar 3) (mCons (mVar 4) (mCons (mVar 5) mNil)))))
      (mIf (mTest (mOp oEq (mVar 6) (mC (.int 2)))) (mDPut 1 (mOp oAddS (mVar 2) (mC (.str "<"))) (mTup (mCons (mVar 4) (mCons (mVar 3) (mCons (mVar 5) mNil))))) mNext))))
      (mRetV 1)))
noncomputable def m__law_arcs : List T → Rs XV := mDef 7 mb__law_arcs
noncomputable def mb__law_bans : MS :=
    (mSeq (mSet 3 (mLst mNil))
      (mSeq (mFor (mItD (mVar 1)) (gN 4)
        (mForget [4, 5] (mFor (mItD (mVar 1)) (gN 5)
        (mForget [5] (mIf (mAndT (mTest (mOp oEq (mOp oIxT (mDGet (mVar 1) (mVar 4)) (mC (.int 1))) (mOp oIxT (mDGet (mVar 1) (mVar 5)) (mC (.int 0))))) (mTest (mOp oNe (mOp oIxT (mDGet (mVar 1) (mVar 4)) (mC (.int 1))) (mVar 2)))) (mMut uappend 3 (mCons (mTup (mCons (mVar 4) (mCons (mVar 5) mNil))) mNil)) mNext)))))
      (mSeq (mSet 6 (mLst mNil))
      (mSeq (mFor (mItR1 (mCons (mOp oMod (mCall 2 m__law_cell (mCons (mVar 0) (mCons (mC (.int 4)) mNil))) (mC (.int 6))) mNil)) (gN 7)
        (mForget [7, 8] (mSeq (mSet 8 (mCall 2 m__law_cell (mCons (mVar 0) (mCons (mOp oAdd (mC (.int 24)) (mVar 7)) mNil))))
      (mIf (mAndT (mTest (mOp oGt (mCB oLen (mCons (mVar 3) mNil)) (mC (.int 0)))) (mTest (mOp (oInD true) (mOp oIxL (mVar 3) (mOp oMod (mVar 8) (mCB oLen (mCons (mVar 3) mNil)))) (mVar 6)))) (mMut uinsert 6 (mCons (mOp oMod (mOp oDiv (mVar 8) (mC (.int 97))) (mOp oAdd (mCB oLen (mCons (mVar 6) mNil)) (mC (.int 1)))) (mCons (mOp oIxL (mVar 3) (mOp oMod (mVar 8) (mCB oLen (mCons (mVar 3) mNil)))) mNil))) mNext))))
      (mRetV 6)))))
noncomputable def m__law_bans : List T → Rs XV := mDef 9 mb__law_bans
noncomputable def mb__law_town : MS :=
    (mSeq (mSet 1 (mCall 2 m__law_cell (mCons (mVar 0) (mCons (mC (.int 0)) mNil))))
      (mSeq (mSet 2 (mOp oMod (mOp oDiv (mVar 1) (mC (.int 5))) (mC (.int 7))))
      (mSeq (mIf (mTest (mOp oEq (mOp oMod (mOp oDiv (mVar 1) (mC (.int 35))) (mC (.int 8))) (mC (.int 1)))) (mSet 2 (mOp oAdd (mC (.int 7)) (mOp oMod (mOp oDiv (mVar 1) (mC (.int 280))) (mC (.int 2))))) mNext)
      (mSeq (mSet 3 (mCall 2 m__law_names (mCons (mCall 2 m__law_cell (mCons (mVar 0) (mCons (mC (.int 1)) mNil))) (mCons (mOp oAdd (mC (.int 1)) (mOp oMod (mVar 1) (mC (.int 5)))) mNil))))
      (mSeq (mSet 4 (mCall 2 m__law_cell (mCons (mVar 0) (mCons (mC (.int 2)) mNil))))
      (mSeq (mIf (mTest (mOp oEq (mOp oMod (mVar 4) (mC (.int 4))) (mC (.int 3)))) (mSet 4 (mCall 2 m__law_cell (mCons (mVar 0) (mCons (mC (.int 1)) mNil)))) mNext)
      (mFreeze 3 (mSeq (mSet 5 (mCall 3 m__law_streets (mCons (mVar 0) (mCons (mVar 3) (mCons (mCall 2 m__law_names (mCons (mVar 4) (mCons (mVar 2) mNil))) mNil)))))
      (mSeq (mSet 6 (mOp oIxL (mVar 3) (mOp oMod (mCall 2 m__law_cell (mCons (mVar 0) (mCons (mC (.int 3)) mNil))) (mCB oLen (mCons (mVar 3) mNil)))))
      (mFreeze 5 (mRet (mTup (mCons (mVar 6) (mCons (mCB oTuple (mCons (mVar 5) mNil)) (mCons (mCB oTuple (mCons (mCall 3 m__law_bans (mCons (mVar 0) (mCons (mFrzE (mCall 1 m__law_arcs (mCons (mVar 5) mNil))) (mCons (mVar 6) mNil)))) mNil)) mNil)))))))))))))))
noncomputable def m__law_town : List T → Rs XV := mDef 7 mb__law_town
noncomputable def mb__law_text : MS :=
    (mSeq (mSet 1 (mOp oAddS (mC (.str "yard ")) (mOp oIxT (mVar 0) (mC (.int 0)))))
      (mSeq (mFor (mItT (mOp oIxT (mVar 0) (mC (.int 1)))) (gT 5 (gsC (gN 2) (gsC (gN 3) (gsC (gN 4) (gsC (gN 5) (gsC (gN 6) gsN))))))
        (mForget [2, 3, 4, 5, 6] (mSeq (mSet 1 (mOp oAddS (mOp oAddS (mOp oAddS (mOp oAddS (mOp oAddS (mOp oAddS (mVar 1) (mC (.str "\n"))) (mOp oIxL (mLst (mCons (mC (.str "lane")) (mCons (mC (.str "street")) mNil))) (mOp oSub (mVar 6) (mC (.int 1))))) (mC (.str " "))) (mVar 2)) (mC (.str " "))) (mVar 3)))
      (mSet 1 (mOp oAddS (mOp oAddS (mOp oAddS (mOp oAddS (mVar 1) (mC (.str " "))) (mVar 4)) (mC (.str " "))) (mCB oStrI (mCons (mVar 5) mNil)))))))
      (mSeq (mFor (mItT (mOp oIxT (mVar 0) (mC (.int 2)))) (gT 2 (gsC (gN 7) (gsC (gN 8) gsN)))
        (mForget [7, 8] (mSet 1 (mOp oAddS (mOp oAddS (mOp oAddS (mOp oAddS (mOp oAddS (mVar 1) (mC (.str "\n"))) (mC (.str "ban "))) (mVar 7)) (mC (.str " "))) (mVar 8)))))
      (mRetV 1))))
noncomputable def m__law_text : List T → Rs XV := mDef 9 mb__law_text
noncomputable def mb__law_alike : MS :=
    (mSeq (mIf (mOrT (mNotT (mTest (mIsI (isT "tuple") (mVar 0)))) (mTest (mOp oNeD (mVar 0) (mVar 1)))) (mRet (mC (.bl false))) mNext)
      (mSeq (mFor (mItT (mOp oIxT (mVar 0) (mC (.int 1)))) (gN 2)
        (mForget [2, 3] (mSeq (mIf (mNotT (mTest (mIsI (isT "tuple") (mVar 2)))) (mRet (mC (.bl false))) mNext)
      (mFor (mItT (mSl oSlT (mVar 2) (mPart (mC (.int 3))) mNoPart)) (gN 3)
        (mForget [3] (mIf (mOrT (mNotT (mTest (mIsI (isT "int") (mVar 3)))) (mTest (mIsI (isT "bool") (mVar 3)))) (mRet (mC (.bl false))) mNext))))))
      (mRet (mAndV (mIsI (isT "tuple") (mOp oIxT (mVar 0) (mC (.int 1)))) (mIsI (isT "tuple") (mOp oIxT (mVar 0) (mC (.int 2))))))))
noncomputable def m__law_alike : List T → Rs XV := mDef 4 mb__law_alike
noncomputable def mb_law : MS :=
    (mSeq (mSet 1 (mCall 1 m__law_town (mCons (mVar 0) mNil)))
      (mSeq (mSet 2 (mCall 1 m__law_text (mCons (mVar 1) mNil)))
      (mSeq (mSet 3 (mCall 1 m_show (mCons (mVar 1) mNil)))
      (mSeq (mIf (mOrT (mNotT (mTest (mIsI (isT "str") (mVar 3)))) (mTest (mOp oNe (mVar 3) (mVar 2)))) (mRet (mC (.bl false))) mNext)
      (mRet (mAndV (mCall 2 m__law_alike (mCons (mCall 1 m_read (mCons (mVar 2) mNil)) (mCons (mVar 1) mNil))) (mAndV (mCall 2 m__law_alike (mCons (mCall 1 m_read (mCons (mVar 3) mNil)) (mCons (mVar 1) mNil))) (mOp oEq (mCall 1 m_show (mCons (mVar 1) mNil)) (mVar 2)))))))))
noncomputable def m_law : List T → Rs XV := mDef 4 mb_law
end My
set_option Elab.async false
set_option linter.all false
set_option maxRecDepth 100000
set_option maxHeartbeats 4000000
namespace My
open PySem L2 Mr
noncomputable def top (i : Nat) : Stmt := PySem.Challenge.pw_kerb_k06_texts_shown_and_read.main.body.getD i (.Pass ⟨0, 0, 0, 0⟩)
noncomputable abbrev s_show : Stmt := top 1
theorem sc_show : FnScope ["town", "rows"] ["town"] (defScope s_show) := ⟨rfl, rfl, rfl, by decide +kernel, rfl, by decide +kernel, by decide +kernel⟩
noncomputable abbrev s_street_row : Stmt := top 2
theorem sc_street_row : FnScope ["street", "word"] ["street"] (defScope s_street_row) := ⟨rfl, rfl, rfl, by decide +kernel, rfl, by decide +kernel, by decide +kernel⟩
noncomputable abbrev s_ban_row : Stmt := top 3
theorem sc_ban_row : FnScope ["ban"] ["ban"] (defScope s_ban_row) := ⟨rfl, rfl, rfl, by decide +kernel, rfl, by decide +kernel, by decide +kernel⟩
noncomputable abbrev s_fits : Stmt := top 9
theorem sc_fits : FnScope ["town"] ["town"] (defScope s_fits) := ⟨rfl, rfl, rfl, by decide +kernel, rfl, by decide +kernel, by decide +kernel⟩
noncomputable abbrev s_fitted : Stmt := top 10
theorem sc_fitted : FnScope ["town"] ["town"] (defScope s_fitted) := ⟨rfl, rfl, rfl, by decide +kernel, rfl, by decide +kernel, by decide +kernel⟩
noncomputable abbrev s_courses_of : Stmt := top 11
theorem sc_courses_of : FnScope ["town", "courses", "name", "first", "second", "length", "ways"] ["town"] (defScope s_courses_of) := ⟨rfl, rfl, rfl, by decide +kernel, rfl, by decide +kernel, by decide +kernel⟩
noncomputable abbrev s_names_fit : Stmt := top 12
theorem sc_names_fit : FnScope ["town"] ["town"] (defScope s_names_fit) := ⟨rfl, rfl, rfl, by decide +kernel, rfl, by decide +kernel, by decide +kernel⟩
noncomputable abbrev s_numbers_fit : Stmt := top 13
theorem sc_numbers_fit : FnScope ["town"] ["town"] (defScope s_numbers_fit) := ⟨rfl, rfl, rfl, by decide +kernel, rfl, by decide +kernel, by decide +kernel⟩
noncomputable abbrev s_street_fits : Stmt := top 14
theorem sc_street_fits : FnScope ["street", "length", "ways"] ["street"] (defScope s_street_fits) := ⟨rfl, rfl, rfl, by decide +kernel, rfl, by decide +kernel, by decide +kernel⟩
noncomputable abbrev s_bans_fit : Stmt := top 15
theorem sc_bans_fit : FnScope ["town", "courses"] ["town"] (defScope s_bans_fit) := ⟨rfl, rfl, rfl, by decide +kernel, rfl, by decide +kernel, by decide +kernel⟩
noncomputable abbrev s_ban_fits : Stmt := top 16
theorem sc_ban_fits : FnScope ["yard", "courses", "ban", "corner"] ["yard", "courses", "ban"] (defScope s_ban_fits) := ⟨rfl, rfl, rfl, by decide +kernel, rfl, by decide +kernel, by decide +kernel⟩
noncomputable abbrev s_stand_once : Stmt := top 17
theorem sc_stand_once : FnScope ["things"] ["things"] (defScope s_stand_once) := ⟨rfl, rfl, rfl, by decide +kernel, rfl, by decide +kernel, by decide +kernel⟩
noncomputable abbrev s_is_whole : Stmt := top 18
theorem sc_is_whole : FnScope ["value"] ["value"] (defScope s_is_whole) := ⟨rfl, rfl, rfl, by decide +kernel, rfl, by decide +kernel, by decide +kernel⟩
noncomputable abbrev s_is_name : Stmt := top 24
theorem sc_is_name : FnScope ["word"] ["word"] (defScope s_is_name) := ⟨rfl, rfl, rfl, by decide +kernel, rfl, by decide +kernel, by decide +kernel⟩
noncomputable abbrev s_is_number : Stmt := top 25
theorem sc_is_number : FnScope ["word"] ["word"] (defScope s_is_number) := ⟨rfl, rfl, rfl, by decide +kernel, rfl, by decide +kernel, by decide +kernel⟩
noncomputable abbrev s_is_side : Stmt := top 26
theorem sc_is_side : FnScope ["word"] ["word"] (defScope s_is_side) := ⟨rfl, rfl, rfl, by decide +kernel, rfl, by decide +kernel, by decide +kernel⟩
noncomputable abbrev s_words_of : Stmt := top 27
theorem sc_words_of : FnScope ["row", "words"] ["row"] (defScope s_words_of) := ⟨rfl, rfl, rfl, by decide +kernel, rfl, by decide +kernel, by decide +kernel⟩
noncomputable abbrev s_rows_of : Stmt := top 28
theorem sc_rows_of : FnScope ["text"] ["text"] (defScope s_rows_of) := ⟨rfl, rfl, rfl, by decide +kernel, rfl, by decide +kernel, by decide +kernel⟩
noncomputable abbrev s_is_made_of : Stmt := top 29
theorem sc_is_made_of : FnScope ["word", "signs"] ["word", "signs"] (defScope s_is_made_of) := ⟨rfl, rfl, rfl, by decide +kernel, rfl, by decide +kernel, by decide +kernel⟩
noncomputable abbrev s_read : Stmt := top 32
theorem sc_read : FnScope ["text"] ["text"] (defScope s_read) := ⟨rfl, rfl, rfl, by decide +kernel, rfl, by decide +kernel, by decide +kernel⟩
noncomputable abbrev s_town_of : Stmt := top 33
theorem sc_town_of : FnScope ["rows", "behind", "streets", "bans"] ["rows"] (defScope s_town_of) := ⟨rfl, rfl, rfl, by decide +kernel, rfl, by decide +kernel, by decide +kernel⟩
noncomputable abbrev s_yard_of : Stmt := top 34
theorem sc_yard_of : FnScope ["rows"] ["rows"] (defScope s_yard_of) := ⟨rfl, rfl, rfl, by decide +kernel, rfl, by decide +kernel, by decide +kernel⟩
noncomputable abbrev s_street_of : Stmt := top 35
theorem sc_street_of : FnScope ["words"] ["words"] (defScope s_street_of) := ⟨rfl, rfl, rfl, by decide +kernel, rfl, by decide +kernel, by decide +kernel⟩
noncomputable abbrev s_ban_of : Stmt := top 36
theorem sc_ban_of : FnScope ["words"] ["words"] (defScope s_ban_of) := ⟨rfl, rfl, rfl, by decide +kernel, rfl, by decide +kernel, by decide +kernel⟩
noncomputable abbrev s_is_yard_row : Stmt := top 37
theorem sc_is_yard_row : FnScope ["words"] ["words"] (defScope s_is_yard_row) := ⟨rfl, rfl, rfl, by decide +kernel, rfl, by decide +kernel, by decide +kernel⟩
noncomputable abbrev s_is_street_row : Stmt := top 38
theorem sc_is_street_row : FnScope ["words"] ["words"] (defScope s_is_street_row) := ⟨rfl, rfl, rfl, by decide +kernel, rfl, by decide +kernel, by decide +kernel⟩
noncomputable abbrev s_is_ban_row : Stmt := top 39
theorem sc_is_ban_row : FnScope ["words"] ["words"] (defScope s_is_ban_row) := ⟨rfl, rfl, rfl, by decide +kernel, rfl, by decide +kernel, by decide +kernel⟩
noncomputable abbrev s__law_cell : Stmt := top 41
theorem sc__law_cell : FnScope ["_law_script", "_law_k"] ["_law_script", "_law_k"] (defScope s__law_cell) := ⟨rfl, rfl, rfl, by decide +kernel, rfl, by decide +kernel, by decide +kernel⟩
noncomputable abbrev s__law_names : Stmt := top 42
theorem sc__law_names : FnScope ["_law_cell_here", "_law_many", "_law_letters", "_law_seed", "_law_longer", "_law_size", "_law_place", "_law_rest", "_law_names_here", "_law_k", "_law_sign"] ["_law_cell_here", "_law_many"] (defScope s__law_names) := ⟨rfl, rfl, rfl, by decide +kernel, rfl, by decide +kernel, by decide +kernel⟩
noncomputable abbrev s__law_length : Stmt := top 43
theorem sc__law_length : FnScope ["_law_cell_here"] ["_law_cell_here"] (defScope s__law_length) := ⟨rfl, rfl, rfl, by decide +kernel, rfl, by decide +kernel, by decide +kernel⟩
noncomputable abbrev s__law_streets : Stmt := top 44
theorem sc__law_streets : FnScope ["_law_script", "_law_corners", "_law_names_here", "_law_streets_here", "_law_k", "_law_cell_here", "_law_first", "_law_second", "_law_length_here", "_law_street"] ["_law_script", "_law_corners", "_law_names_here"] (defScope s__law_streets) := ⟨rfl, rfl, rfl, by decide +kernel, rfl, by decide +kernel, by decide +kernel⟩
noncomputable abbrev s__law_arcs : Stmt := top 45
theorem sc__law_arcs : FnScope ["_law_streets_here", "_law_arcs_here", "_law_name", "_law_first", "_law_second", "_law_length_here", "_law_ways"] ["_law_streets_here"] (defScope s__law_arcs) := ⟨rfl, rfl, rfl, by decide +kernel, rfl, by decide +kernel, by decide +kernel⟩
noncomputable abbrev s__law_bans : Stmt := top 46
theorem sc__law_bans : FnScope ["_law_script", "_law_arcs_here", "_law_yard", "_law_free", "_law_one", "_law_other", "_law_bans_here", "_law_k", "_law_cell_here"] ["_law_script", "_law_arcs_here", "_law_yard"] (defScope s__law_bans) := ⟨rfl, rfl, rfl, by decide +kernel, rfl, by decide +kernel, by decide +kernel⟩
noncomputable abbrev s__law_town : Stmt := top 47
theorem sc__law_town : FnScope ["_law_script", "_law_cell_here", "_law_many", "_law_corners", "_law_named", "_law_streets_here", "_law_yard"] ["_law_script"] (defScope s__law_town) := ⟨rfl, rfl, rfl, by decide +kernel, rfl, by decide +kernel, by decide +kernel⟩
noncomputable abbrev s__law_text : Stmt := top 48
theorem sc__law_text : FnScope ["_law_town_here", "_law_text_here", "_law_name", "_law_first", "_law_second", "_law_length_here", "_law_ways", "_law_one", "_law_other"] ["_law_town_here"] (defScope s__law_text) := ⟨rfl, rfl, rfl, by decide +kernel, rfl, by decide +kernel, by decide +kernel⟩
noncomputable abbrev s__law_alike : Stmt := top 49
theorem sc__law_alike : FnScope ["_law_found", "_law_town_here", "_law_street", "_law_number"] ["_law_found", "_law_town_here"] (defScope s__law_alike) := ⟨rfl, rfl, rfl, by decide +kernel, rfl, by decide +kernel, by decide +kernel⟩
noncomputable abbrev s_law : Stmt := top 50
theorem sc_law : FnScope ["_law_script", "_law_town_here", "_law_text_here", "_law_found"] ["_law_script"] (defScope s_law) := ⟨rfl, rfl, rfl, by decide +kernel, rfl, by decide +kernel, by decide +kernel⟩
theorem bt_all : bootBuiltins "all" = some (.builtin "all") := by first | decide +kernel | kernel_rfl
theorem bt_bool : bootBuiltins "bool" = some (.type "bool") := by first | decide +kernel | kernel_rfl
theorem bt_int : bootBuiltins "int" = some (.type "int") := by first | decide +kernel | kernel_rfl
theorem bt_isinstance : bootBuiltins "isinstance" = some (.builtin "isinstance") := by first | decide +kernel | kernel_rfl
theorem bt_len : bootBuiltins "len" = some (.builtin "len") := by first | decide +kernel | kernel_rfl
theorem bt_set : bootBuiltins "set" = some (.type "set") := by first | decide +kernel | kernel_rfl
theorem bt_str : bootBuiltins "str" = some (.type "str") := by first | decide +kernel | kernel_rfl
theorem bt_tuple : bootBuiltins "tuple" = some (.type "tuple") := by first | decide +kernel | kernel_rfl
set_option genInjectivity false
set_option genSizeOf false
structure Adr where
  f_show : Addr
  d_show : FuncData
  f_street_row : Addr
  d_street_row : FuncData
  f_ban_row : Addr
  d_ban_row : FuncData
  f_fits : Addr
  d_fits : FuncData
  f_fitted : Addr
  d_fitted : FuncData
  f_courses_of : Addr
  d_courses_of : FuncData
  f_names_fit : Addr
  d_names_fit : FuncData
  f_numbers_fit : Addr
  d_numbers_fit : FuncData
  f_street_fits : Addr
  d_street_fits : FuncData
  f_bans_fit : Addr
  d_bans_fit : FuncData
  f_ban_fits : Addr
  d_ban_fits : FuncData
  f_stand_once : Addr
  d_stand_once : FuncData
  f_is_whole : Addr
  d_is_whole : FuncData
  f_is_name : Addr
  d_is_name : FuncData
  f_is_number : Addr
  d_is_number : FuncData
  f_is_side : Addr
  d_is_side : FuncData
  f_words_of : Addr
  d_words_of : FuncData
  f_rows_of : Addr
  d_rows_of : FuncData
  f_is_made_of : Addr
  d_is_made_of : FuncData
  f_read : Addr
  d_read : FuncData
  f_town_of : Addr
  d_town_of : FuncData
  f_yard_of : Addr
  d_yard_of : FuncData
  f_street_of : Addr
  d_street_of : FuncData
  f_ban_of : Addr
  d_ban_of : FuncData
  f_is_yard_row : Addr
  d_is_yard_row : FuncData
  f_is_street_row : Addr
  d_is_street_row : FuncData
  f_is_ban_row : Addr
  d_is_ban_row : FuncData
  f__law_cell : Addr
  d__law_cell : FuncData
  f__law_names : Addr
  d__law_names : FuncData
  f__law_length : Addr
  d__law_length : FuncData
  f__law_streets : Addr
  d__law_streets : FuncData
  f__law_arcs : Addr
  d__law_arcs : FuncData
  f__law_bans : Addr
  d__law_bans : FuncData
  f__law_town : Addr
  d__law_town : FuncData
  f__law_text : Addr
  d__law_text : FuncData
  f__law_alike : Addr
  d__law_alike : FuncData
  f_law : Addr
  d_law : FuncData
  c_KerbError : Addr
  c_NoText : Addr
  c_Unfit : Addr
  t_LETTERS : Tok
  t_FIGURES : Tok
  t_MOST_LETTERS : Tok
  t_MOST_FIGURES : Tok
  d_WAYS : Addr
noncomputable def clOf (a : Adr) (c : Str) : Option Addr := if c = "Unfit" then some a.c_Unfit else if c = "NoText" then some a.c_NoText else none
noncomputable abbrev KS (K : PySem.W.Frag) (a : Adr) : Ks := ⟨K, clOf a⟩
structure Txt (K : PySem.W.Frag) (mg : Str → Option Value) (a : Adr) : Prop where
  F_show : Fun K "show" "show" s_show a.f_show a.d_show
  m_show : mg "show" = some (.ref a.f_show)
  k_show : PySem.W.keepIn K (.ref a.f_show) = true
  b_show : Binds K a.d_show ["town"] []
  F_street_row : Fun K "street_row" "street_row" s_street_row a.f_street_row a.d_street_row
  m_street_row : mg "street_row" = some (.ref a.f_street_row)
  k_street_row : PySem.W.keepIn K (.ref a.f_street_row) = true
  b_street_row : Binds K a.d_street_row ["street"] []
  F_ban_row : Fun K "ban_row" "ban_row" s_ban_row a.f_ban_row a.d_ban_row
  m_ban_row : mg "ban_row" = some (.ref a.f_ban_row)
  k_ban_row : PySem.W.keepIn K (.ref a.f_ban_row) = true
  b_ban_row : Binds K a.d_ban_row ["ban"] []
  F_fits : Fun K "fits" "fits" s_fits a.f_fits a.d_fits
  m_fits : mg "fits" = some (.ref a.f_fits)
  k_fits : PySem.W.keepIn K (.ref a.f_fits) = true
  b_fits : Binds K a.d_fits ["town"] []
  F_fitted : Fun K "fitted" "fitted" s_fitted a.f_fitted a.d_fitted
  m_fitted : mg "fitted" = some (.ref a.f_fitted)
  k_fitted : PySem.W.keepIn K (.ref a.f_fitted) = true
  b_fitted : Binds K a.d_fitted ["town"] []
  F_courses_of : Fun K "courses_of" "courses_of" s_courses_of a.f_courses_of a.d_courses_of
  m_courses_of : mg "courses_of" = some (.ref a.f_courses_of)
  k_courses_of : PySem.W.keepIn K (.ref a.f_courses_of) = true
  b_courses_of : Binds K a.d_courses_of ["town"] []
  F_names_fit : Fun K "names_fit" "names_fit" s_names_fit a.f_names_fit a.d_names_fit
  m_names_fit : mg "names_fit" = some (.ref a.f_names_fit)
  k_names_fit : PySem.W.keepIn K (.ref a.f_names_fit) = true
  b_names_fit : Binds K a.d_names_fit ["town"] []
  F_numbers_fit : Fun K "numbers_fit" "numbers_fit" s_numbers_fit a.f_numbers_fit a.d_numbers_fit
  m_numbers_fit : mg "numbers_fit" = some (.ref a.f_numbers_fit)
  k_numbers_fit : PySem.W.keepIn K (.ref a.f_numbers_fit) = true
  b_numbers_fit : Binds K a.d_numbers_fit ["town"] []
  F_street_fits : Fun K "street_fits" "street_fits" s_street_fits a.f_street_fits a.d_street_fits
  m_street_fits : mg "street_fits" = some (.ref a.f_street_fits)
  k_street_fits : PySem.W.keepIn K (.ref a.f_street_fits) = true
  b_street_fits : Binds K a.d_street_fits ["street"] []
  F_bans_fit : Fun K "bans_fit" "bans_fit" s_bans_fit a.f_bans_fit a.d_bans_fit
  m_bans_fit : mg "bans_fit" = some (.ref a.f_bans_fit)
  k_bans_fit : PySem.W.keepIn K (.ref a.f_bans_fit) = true
  b_bans_fit : Binds K a.d_bans_fit ["town"] []
  F_ban_fits : Fun K "ban_fits" "ban_fits" s_ban_fits a.f_ban_fits a.d_ban_fits
  m_ban_fits : mg "ban_fits" = some (.ref a.f_ban_fits)
  k_ban_fits : PySem.W.keepIn K (.ref a.f_ban_fits) = true
  b_ban_fits : Binds K a.d_ban_fits ["yard", "courses", "ban"] []
  F_stand_once : Fun K "stand_once" "stand_once" s_stand_once a.f_stand_once a.d_stand_once
  m_stand_once : mg "stand_once" = some (.ref a.f_stand_once)
  k_stand_once : PySem.W.keepIn K (.ref a.f_stand_once) = true
  b_stand_once : Binds K a.d_stand_once ["things"] []
  F_is_whole : Fun K "is_whole" "is_whole" s_is_whole a.f_is_whole a.d_is_whole
  m_is_whole : mg "is_whole" = some (.ref a.f_is_whole)
  k_is_whole : PySem.W.keepIn K (.ref a.f_is_whole) = true
  b_is_whole : Binds K a.d_is_whole ["value"] []
  F_is_name : Fun K "is_name" "is_name" s_is_name a.f_is_name a.d_is_name
  m_is_name : mg "is_name" = some (.ref a.f_is_name)
  k_is_name : PySem.W.keepIn K (.ref a.f_is_name) = true
  b_is_name : Binds K a.d_is_name ["word"] []
  F_is_number : Fun K "is_number" "is_number" s_is_number a.f_is_number a.d_is_number
  m_is_number : mg "is_number" = some (.ref a.f_is_number)
  k_is_number : PySem.W.keepIn K (.ref a.f_is_number) = true
  b_is_number : Binds K a.d_is_number ["word"] []
  F_is_side : Fun K "is_side" "is_side" s_is_side a.f_is_side a.d_is_side
  m_is_side : mg "is_side" = some (.ref a.f_is_side)
  k_is_side : PySem.W.keepIn K (.ref a.f_is_side) = true
  b_is_side : Binds K a.d_is_side ["word"] []
  F_words_of : Fun K "words_of" "words_of" s_words_of a.f_words_of a.d_words_of
  m_words_of : mg "words_of" = some (.ref a.f_words_of)
  k_words_of : PySem.W.keepIn K (.ref a.f_words_of) = true
  b_words_of : Binds K a.d_words_of ["row"] []
  F_rows_of : Fun K "rows_of" "rows_of" s_rows_of a.f_rows_of a.d_rows_of
  m_rows_of : mg "rows_of" = some (.ref a.f_rows_of)
  k_rows_of : PySem.W.keepIn K (.ref a.f_rows_of) = true
  b_rows_of : Binds K a.d_rows_of ["text"] []
  F_is_made_of : Fun K "is_made_of" "is_made_of" s_is_made_of a.f_is_made_of a.d_is_made_of
  m_is_made_of : mg "is_made_of" = some (.ref a.f_is_made_of)
  k_is_made_of : PySem.W.keepIn K (.ref a.f_is_made_of) = true
  b_is_made_of : Binds K a.d_is_made_of ["word", "signs"] []
  F_read : Fun K "read" "read" s_read a.f_read a.d_read
  m_read : mg "read" = some (.ref a.f_read)
  k_read : PySem.W.keepIn K (.ref a.f_read) = true
  b_read : Binds K a.d_read ["text"] []
  F_town_of : Fun K "town_of" "town_of" s_town_of a.f_town_of a.d_town_of
  m_town_of : mg "town_of" = some (.ref a.f_town_of)
  k_town_of : PySem.W.keepIn K (.ref a.f_town_of) = true
  b_town_of : Binds K a.d_town_of ["rows"] []
  F_yard_of : Fun K "yard_of" "yard_of" s_yard_of a.f_yard_of a.d_yard_of
  m_yard_of : mg "yard_of" = some (.ref a.f_yard_of)
  k_yard_of : PySem.W.keepIn K (.ref a.f_yard_of) = true
  b_yard_of : Binds K a.d_yard_of ["rows"] []
  F_street_of : Fun K "street_of" "street_of" s_street_of a.f_street_of a.d_street_of
  m_street_of : mg "street_of" = some (.ref a.f_street_of)
  k_street_of : PySem.W.keepIn K (.ref a.f_street_of) = true
  b_street_of : Binds K a.d_street_of ["words"] []
  F_ban_of : Fun K "ban_of" "ban_of" s_ban_of a.f_ban_of a.d_ban_of
  m_ban_of : mg "ban_of" = some (.ref a.f_ban_of)
  k_ban_of : PySem.W.keepIn K (.ref a.f_ban_of) = true
  b_ban_of : Binds K a.d_ban_of ["words"] []
  F_is_yard_row : Fun K "is_yard_row" "is_yard_row" s_is_yard_row a.f_is_yard_row a.d_is_yard_row
  m_is_yard_row : mg "is_yard_row" = some (.ref a.f_is_yard_row)
  k_is_yard_row : PySem.W.keepIn K (.ref a.f_is_yard_row) = true
  b_is_yard_row : Binds K a.d_is_yard_row ["words"] []
  F_is_street_row : Fun K "is_street_row" "is_street_row" s_is_street_row a.f_is_street_row a.d_is_street_row
  m_is_street_row : mg "is_street_row" = some (.ref a.f_is_street_row)
  k_is_street_row : PySem.W.keepIn K (.ref a.f_is_street_row) = true
  b_is_street_row : Binds K a.d_is_street_row ["words"] []
  F_is_ban_row : Fun K "is_ban_row" "is_ban_row" s_is_ban_row a.f_is_ban_row a.d_is_ban_row
  m_is_ban_row : mg "is_ban_row" = some (.ref a.f_is_ban_row)
  k_is_ban_row : PySem.W.keepIn K (.ref a.f_is_ban_row) = true
  b_is_ban_row : Binds K a.d_is_ban_row ["words"] []
  F__law_cell : Fun K "_law_cell" "_law_cell" s__law_cell a.f__law_cell a.d__law_cell
  m__law_cell : mg "_law_cell" = some (.ref a.f__law_cell)
  k__law_cell : PySem.W.keepIn K (.ref a.f__law_cell) = true
  b__law_cell : Binds K a.d__law_cell ["_law_script", "_law_k"] []
  F__law_names : Fun K "_law_names" "_law_names" s__law_names a.f__law_names a.d__law_names
  m__law_names : mg "_law_names" = some (.ref a.f__law_names)
  k__law_names : PySem.W.keepIn K (.ref a.f__law_names) = true
  b__law_names : Binds K a.d__law_names ["_law_cell_here", "_law_many"] []
  F__law_length : Fun K "_law_length" "_law_length" s__law_length a.f__law_length a.d__law_length
  m__law_length : mg "_law_length" = some (.ref a.f__law_length)
  k__law_length : PySem.W.keepIn K (.ref a.f__law_length) = true
  b__law_length : Binds K a.d__law_length ["_law_cell_here"] []
  F__law_streets : Fun K "_law_streets" "_law_streets" s__law_streets a.f__law_streets a.d__law_streets
  m__law_streets : mg "_law_streets" = some (.ref a.f__law_streets)
  k__law_streets : PySem.W.keepIn K (.ref a.f__law_streets) = true
  b__law_streets : Binds K a.d__law_streets ["_law_script", "_law_corners", "_law_names_here"] []
  F__law_arcs : Fun K "_law_arcs" "_law_arcs" s__law_arcs a.f__law_arcs a.d__law_arcs
  m__law_arcs : mg "_law_arcs" = some (.ref a.f__law_arcs)
  k__law_arcs : PySem.W.keepIn K (.ref a.f__law_arcs) = true
  b__law_arcs : Binds K a.d__law_arcs ["_law_streets_here"] []
  F__law_bans : Fun K "_law_bans" "_law_bans" s__law_bans a.f__law_bans a.d__law_bans
  m__law_bans : mg "_law_bans" = some (.ref a.f__law_bans)
  k__law_bans : PySem.W.keepIn K (.ref a.f__law_bans) = true
  b__law_bans : Binds K a.d__law_bans ["_law_script", "_law_arcs_here", "_law_yard"] []
  F__law_town : Fun K "_law_town" "_law_town" s__law_town a.f__law_town a.d__law_town
  m__law_town : mg "_law_town" = some (.ref a.f__law_town)
  k__law_town : PySem.W.keepIn K (.ref a.f__law_town) = true
  b__law_town : Binds K a.d__law_town ["_law_script"] []
  F__law_text : Fun K "_law_text" "_law_text" s__law_text a.f__law_text a.d__law_text
  m__law_text : mg "_law_text" = some (.ref a.f__law_text)
  k__law_text : PySem.W.keepIn K (.ref a.f__law_text) = true
  b__law_text : Binds K a.d__law_text ["_law_town_here"] []
  F__law_alike : Fun K "_law_alike" "_law_alike" s__law_alike a.f__law_alike a.d__law_alike
  m__law_alike : mg "_law_alike" = some (.ref a.f__law_alike)
  k__law_alike : PySem.W.keepIn K (.ref a.f__law_alike) = true
  b__law_alike : Binds K a.d__law_alike ["_law_found", "_law_town_here"] []
  F_law : Fun K "law" "law" s_law a.f_law a.d_law
  m_law : mg "law" = some (.ref a.f_law)
  k_law : PySem.W.keepIn K (.ref a.f_law) = true
  b_law : Binds K a.d_law ["_law_script"] []
  m_KerbError : mg "KerbError" = some (.ref a.c_KerbError)
  m_NoText : mg "NoText" = some (.ref a.c_NoText)
  m_Unfit : mg "Unfit" = some (.ref a.c_Unfit)
  x_Unfit : ClsX K a.c_Unfit
  x_NoText : ClsX K a.c_NoText
  e_NoText : ExcC K a.c_NoText
  e_Unfit : ExcC K a.c_Unfit
  z_ValueError : mg "ValueError" = none
  z_all : mg "all" = none
  z_bool : mg "bool" = none
  z_int : mg "int" = none
  z_isinstance : mg "isinstance" = none
  z_len : mg "len" = none
  z_range : mg "range" = none
  z_set : mg "set" = none
  z_str : mg "str" = none
  z_tuple : mg "tuple" = none
  g_LETTERS : mg "LETTERS" = some (.str "abcdefghijklmnopqrstuvwxyz" a.t_LETTERS)
  g_FIGURES : mg "FIGURES" = some (.str "0123456789" a.t_FIGURES)
  g_MOST_LETTERS : mg "MOST_LETTERS" = some (.int 8 a.t_MOST_LETTERS)
  g_MOST_FIGURES : mg "MOST_FIGURES" = some (.int 60 a.t_MOST_FIGURES)
  m_WAYS : mg "WAYS" = some (.ref a.d_WAYS)
  w_WAYS : PyProof.Rows.KTD.tabLook (PyProof.Rows.KTD.datLooks fun b => K.lookup b) (fun b => K.lookup b) a.d_WAYS (dats ([("lane", 1), ("street", 2)] : List (Str × Int))) = true
theorem Txt.cl_Unfit {K : PySem.W.Frag} {mg : Str → Option Value} {a : Adr} (_ : Txt K mg a) : (KS K a).cl "Unfit" = some a.c_Unfit := by show clOf a "Unfit" = _; unfold clOf; exact if_pos rfl
theorem Txt.cl_NoText {K : PySem.W.Frag} {mg : Str → Option Value} {a : Adr} (_ : Txt K mg a) : (KS K a).cl "NoText" = some a.c_NoText := by show clOf a "NoText" = _; unfold clOf; exact (if_neg (by decide +kernel)).trans (if_pos rfl)
theorem is_bool {K : PySem.W.Frag} : KitOk K "bool" := by intro n hn; simp only [List.mem_cons, List.not_mem_nil, or_false] at hn; rcases hn with rfl | rfl | rfl | rfl | rfl | rfl | rfl <;> (refine kit_ty ?_; decide +kernel)
theorem is_int {K : PySem.W.Frag} : KitOk K "int" := by intro n hn; simp only [List.mem_cons, List.not_mem_nil, or_false] at hn; rcases hn with rfl | rfl | rfl | rfl | rfl | rfl | rfl <;> (refine kit_ty ?_; decide +kernel)
theorem is_str {K : PySem.W.Frag} : KitOk K "str" := by intro n hn; simp only [List.mem_cons, List.not_mem_nil, or_false] at hn; rcases hn with rfl | rfl | rfl | rfl | rfl | rfl | rfl <;> (refine kit_ty ?_; decide +kernel)
theorem is_tuple {K : PySem.W.Frag} : KitOk K "tuple" := by intro n hn; simp only [List.mem_cons, List.not_mem_nil, or_false] at hn; rcases hn with rfl | rfl | rfl | rfl | rfl | rfl | rfl <;> (refine kit_ty ?_; decide +kernel)
section
variable {P : Program} {w : World} {K : PySem.W.Frag} {mg : Str → Option Value} {base : Heap} {a : Adr}
theorem ok_street_row (T : Txt K mg a) : FnOk P w K mg base (CXX P w) 1 a.f_street_row a.d_street_row ["street"] (SpM (KS K a) 1 m_street_row) := by
  refine T.F_street_row.okX sc_street_row SpM.len (fun cdv A outer s H vs Q E hr h => ?_)
  have nd := sc_street_row.nd
  have hu := hu_of hr
  have hu64 := hr.units
  refine ⟨_, (pss_cons (ps_set (i := 1) nd rfl (Or.inl rfl) (pe_ifExp (pt_cmpR op_eq (pe_ix (ix_tupK (K := K) rfl) (pv 0) pe_int (fun _ _ => rfl)) pe_int (nomark _)) pe_str pe_str))
      (pss_one (ps_ret (pe_bm F.plainAttrs_str F.slot_str_join F.type_str_join (mt_joinK (K := K) rfl) pe_str (pa_cons (pe_lst (pa_cons (pv 1) (pa_cons (pe_ix (ix_tupK (K := K) rfl) (pv 0) pe_int (fun _ _ => rfl)) (pa_cons (pe_ix (ix_tupK (K := K) rfl) (pv 0) pe_int (fun _ _ => rfl)) (pa_cons (pe_ix (ix_tupK (K := K) rfl) (pv 0) pe_int (fun _ _ => rfl)) (pa_cons (pe_callTy call_str_int (by rfl) T.z_str bt_str (pa_cons (pe_ix (ix_tupK (K := K) rfl) (pv 0) pe_int (fun _ _ => rfl)) pa_nil)) pa_nil)))))) pa_nil))))), ?_⟩
  exact body_ok (k := KS K a) (n := 2) (mb := mb_street_row) (ss_seq (ss_set (se_if (st_test (se_op r_eq (se_op r_ixT se_var se_int) se_int)) se_str se_str)) (ss_ret (se_bm ty_str r_join se_str (sa_cons (se_lst (sa_cons se_var (sa_cons (se_op r_ixT se_var se_int) (sa_cons (se_op r_ixT se_var se_int) (sa_cons (se_op r_ixT se_var se_int) (sa_cons (se_cb r_strI (sa_cons (se_op r_ixT se_var se_int) sa_nil)) sa_nil)))))) sa_nil)))) h
theorem ok_ban_row (T : Txt K mg a) : FnOk P w K mg base (CXX P w) 1 a.f_ban_row a.d_ban_row ["ban"] (SpM (KS K a) 1 m_ban_row) := by
  refine T.F_ban_row.okX sc_ban_row SpM.len (fun cdv A outer s H vs Q E hr h => ?_)
  have nd := sc_ban_row.nd
  have hu := hu_of hr
  have hu64 := hr.units
  refine ⟨_, (pss_one (ps_ret (pe_bm F.plainAttrs_str F.slot_str_join F.type_str_join (mt_joinK (K := K) rfl) pe_str (pa_cons (pe_lst (pa_cons pe_str (pa_cons (pe_ix (ix_tupK (K := K) rfl) (pv 0) pe_int (fun _ _ => rfl)) (pa_cons (pe_ix (ix_tupK (K := K) rfl) (pv 0) pe_int (fun _ _ => rfl)) pa_nil)))) pa_nil)))), ?_⟩
  exact body_ok (k := KS K a) (n := 1) (mb := mb_ban_row) (ss_ret (se_bm ty_str r_join se_str (sa_cons (se_lst (sa_cons se_str (sa_cons (se_op r_ixT se_var se_int) (sa_cons (se_op r_ixT se_var se_int) sa_nil)))) sa_nil))) h
theorem ok_show (T : Txt K mg a) : FnOk P w K mg base (CXX P w) 2 a.f_show a.d_show ["town"] (SpM (KS K a) 1 m_show) := by
  have G_ban_row := ok_ban_row (P := P) (w := w) (base := base) T
  have G_street_row := ok_street_row (P := P) (w := w) (base := base) T
  refine T.F_show.okX sc_show SpM.len (fun cdv A outer s H vs Q E hr h => ?_)
  have nd := sc_show.nd
  have hu := hu_of hr
  have hu64 := hr.units
  refine ⟨_, (pss_cons (ps_set (i := 1) nd rfl (Or.inl rfl) (pe_lst (pa_cons (pe_bm F.plainAttrs_str F.slot_str_join F.type_str_join (mt_joinK (K := K) rfl) pe_str (pa_cons (pe_lst (pa_cons pe_str (pa_cons (pe_ix (ix_tupK (K := K) rfl) (pv 0) pe_int (fun _ _ => rfl)) pa_nil))) pa_nil)) pa_nil)))
      (pss_cons (ps_expr (pe_bm F.plainAttrs_list F.slot_list_extend F.type_list_extend (mt_extendK (K := K) rfl) (pv 1) (pa_cons (pe_comp ["street"] ["town", "rows"] rfl (CompOk.of (sc := defScope s_show) (N := ["town", "rows"]) rfl rfl (by decide +kernel) (by decide +kernel)) gok_name (pi_tupK (K := K) rfl (pe_ix (ix_tupK (K := K) rfl) (pv 0) pe_int (fun _ _ => rfl))) (fun _ _ _ _ _ _ => (pg_name (i := 0) (show List.Nodup (["street", "town", "rows"] : List Str) by decide +kernel) rfl (Or.inl rfl) (Or.inr rfl))) (fun _ _ _ _ _ _ => pifs_nil) (fun _ _ _ _ _ _ => (pe_call G_street_row (hr.mono (by decide)) rfl T.m_street_row T.k_street_row T.b_street_row .nil passX0 (pa_cons (pv 0) pa_nil)))) pa_nil)))
      (pss_cons (ps_expr (pe_bm F.plainAttrs_list F.slot_list_extend F.type_list_extend (mt_extendK (K := K) rfl) (pv 1) (pa_cons (pe_comp ["ban"] ["town", "rows"] rfl (CompOk.of (sc := defScope s_show) (N := ["town", "rows"]) rfl rfl (by decide +kernel) (by decide +kernel)) gok_name (pi_tupK (K := K) rfl (pe_ix (ix_tupK (K := K) rfl) (pv 0) pe_int (fun _ _ => rfl))) (fun _ _ _ _ _ _ => (pg_name (i := 0) (show List.Nodup (["ban", "town", "rows"] : List Str) by decide +kernel) rfl (Or.inl rfl) (Or.inr rfl))) (fun _ _ _ _ _ _ => pifs_nil) (fun _ _ _ _ _ _ => (pe_call G_ban_row (hr.mono (by decide)) rfl T.m_ban_row T.k_ban_row T.b_ban_row .nil passX0 (pa_cons (pv 0) pa_nil)))) pa_nil)))
      (pss_one (ps_ret (pe_bm F.plainAttrs_str F.slot_str_join F.type_str_join (mt_joinK (K := K) rfl) pe_str (pa_cons (pv 1) pa_nil))))))), ?_⟩
  exact body_ok (k := KS K a) (n := 2) (mb := mb_show) (ss_seq (ss_set (se_lst (sa_cons (se_bm ty_str r_join se_str (sa_cons (se_lst (sa_cons se_str (sa_cons (se_op r_ixT se_var se_int) sa_nil))) sa_nil)) sa_nil))) (ss_seq (ss_mutS mu_extend (sa_cons (se_comp (si_tup (se_op r_ixT se_var se_int)) sg_name (fun _ => st_true) (fun _ => (se_callN (sa_cons se_var sa_nil)))) sa_nil)) (ss_seq (ss_mutS mu_extend (sa_cons (se_comp (si_tup (se_op r_ixT se_var se_int)) sg_name (fun _ => st_true) (fun _ => (se_callN (sa_cons se_var sa_nil)))) sa_nil)) (ss_ret (se_bm ty_str r_join se_str (sa_cons se_var sa_nil)))))) h
theorem ok_stand_once (T : Txt K mg a) : FnOk P w K mg base (CXX P w) 1 a.f_stand_once a.d_stand_once ["things"] (SpM (KS K a) 1 m_stand_once) := by
  refine T.F_stand_once.okX sc_stand_once SpM.len (fun cdv A outer s H vs Q E hr h => ?_)
  have nd := sc_stand_once.nd
  have hu := hu_of hr
  have hu64 := hr.units
  refine ⟨_, (pss_one (ps_ret (pe_cmpR op_eq (pe_callB SetT.call_lenS (by rfl) T.z_len bt_len (pa_cons (pe_callTy (SetT.call_setS (K := K) rfl rfl hu64) (by rfl) T.z_set bt_set (pa_cons (pv 0) pa_nil)) pa_nil)) (pe_callB (call_len_seqK (K := K) rfl) (by rfl) T.z_len bt_len (pa_cons (pv 0) pa_nil)) (nomark _)))), ?_⟩
  exact body_ok (k := KS K a) (n := 1) (mb := mb_stand_once) (ss_ret (se_op r_eq (se_lenSet (sa_cons se_var sa_nil)) (se_cb r_len (sa_cons se_var sa_nil)))) h
theorem ok_names_fit (T : Txt K mg a) : FnOk P w K mg base (CXX P w) 2 a.f_names_fit a.d_names_fit ["town"] (SpM (KS K a) 1 m_names_fit) := by
  have G_stand_once := ok_stand_once (P := P) (w := w) (base := base) T
  refine T.F_names_fit.okX sc_names_fit SpM.len (fun cdv A outer s H vs Q E hr h => ?_)
  have nd := sc_names_fit.nd
  have hu := hu_of hr
  have hu64 := hr.units
  refine ⟨_, (pss_one (ps_ret (pe_call G_stand_once (hr.mono (by decide)) rfl T.m_stand_once T.k_stand_once T.b_stand_once .nil passX (pa_cons (pe_comp ["street"] ["town"] rfl (CompOk.of (sc := defScope s_names_fit) (N := ["town"]) rfl rfl (by decide +kernel) (by decide +kernel)) gok_name (pi_tupK (K := K) rfl (pe_ix (ix_tupK (K := K) rfl) (pv 0) pe_int (fun _ _ => rfl))) (fun _ _ _ _ _ _ => (pg_name (i := 0) (show List.Nodup (["street", "town"] : List Str) by decide +kernel) rfl (Or.inl rfl) (Or.inr rfl))) (fun _ _ _ _ _ _ => pifs_nil) (fun _ _ _ _ _ _ => (pe_ix (ix_tupK (K := K) rfl) (pv 0) pe_int (fun _ _ => rfl)))) pa_nil)))), ?_⟩
  exact body_ok (k := KS K a) (n := 1) (mb := mb_names_fit) (ss_ret (se_call (sa_cons (se_comp (si_tup (se_op r_ixT se_var se_int)) sg_name (fun _ => st_true) (fun _ => (se_op r_ixT se_var se_int))) sa_nil))) h
theorem ok_is_whole (T : Txt K mg a) : FnOk P w K mg base (CXX P w) 1 a.f_is_whole a.d_is_whole ["value"] (SpM (KS K a) 1 m_is_whole) := by
  refine T.F_is_whole.okX sc_is_whole SpM.len (fun cdv A outer s H vs Q E hr h => ?_)
  have nd := sc_is_whole.nd
  have hu := hu_of hr
  have hu64 := hr.units
  refine ⟨_, (pss_one (ps_ret (pe_and (pe_callB (call_isTK (K := K) rfl) (by rfl) T.z_isinstance bt_isinstance (pa_cons (pv 0) (pa_cons (pe_bltn (v := .ty "int") rfl T.z_int bt_int rfl) pa_nil))) (pe_one (pe_not (pe_callB (call_isTK (K := K) rfl) (by rfl) T.z_isinstance bt_isinstance (pa_cons (pv 0) (pa_cons (pe_bltn (v := .ty "bool") rfl T.z_bool bt_bool rfl) pa_nil)))))))), ?_⟩
  exact body_ok (k := KS K a) (n := 1) (mb := mb_is_whole) (ss_ret (se_andV (se_isI is_int se_var) (se_notV (se_isI is_bool se_var)))) h
theorem ok_street_fits (T : Txt K mg a) : FnOk P w K mg base (CXX P w) 2 a.f_street_fits a.d_street_fits ["street"] (SpM (KS K a) 1 m_street_fits) := by
  have G_is_whole := ok_is_whole (P := P) (w := w) (base := base) T
  refine T.F_street_fits.okX sc_street_fits SpM.len (fun cdv A outer s H vs Q E hr h => ?_)
  have nd := sc_street_fits.nd
  have hu := hu_of hr
  have hu64 := hr.units
  refine ⟨_, (pss_cons (ps_set (i := 1) nd rfl (Or.inl rfl) (pe_ix (ix_tupK (K := K) rfl) (pv 0) pe_int (fun _ _ => rfl)))
      (pss_cons (ps_set (i := 2) nd rfl (Or.inl rfl) (pe_ix (ix_tupK (K := K) rfl) (pv 0) pe_int (fun _ _ => rfl)))
      (pss_one (ps_ret (pe_and (pe_call G_is_whole (hr.mono (by decide)) rfl T.m_is_whole T.k_is_whole T.b_is_whole .nil passX (pa_cons (pv 1) pa_nil)) (pe_and (pe_cmpR op_ge (pv 1) pe_int (nomark _)) (pe_and (pe_call G_is_whole (hr.mono (by decide)) rfl T.m_is_whole T.k_is_whole T.b_is_whole .nil passX (pa_cons (pv 2) pa_nil)) (pe_one (pe_cmpR (op_in_seqK (K := K) rfl) (pv 2) (pe_tup (pa_cons pe_int (pa_cons pe_int pa_nil))) (by with_unfolding_all rfl)))))))))), ?_⟩
  exact body_ok (k := KS K a) (n := 3) (mb := mb_street_fits) (ss_seq (ss_set (se_op r_ixT se_var se_int)) (ss_seq (ss_set (se_op r_ixT se_var se_int)) (ss_ret (se_andV (se_call (sa_cons se_var sa_nil)) (se_andV (se_op r_ge se_var se_int) (se_andV (se_call (sa_cons se_var sa_nil)) (se_op r_in se_var (se_tup (sa_cons se_int (sa_cons se_int sa_nil)))))))))) h
theorem ok_numbers_fit (T : Txt K mg a) : FnOk P w K mg base (CXX P w) 3 a.f_numbers_fit a.d_numbers_fit ["town"] (SpM (KS K a) 1 m_numbers_fit) := by
  have G_street_fits := ok_street_fits (P := P) (w := w) (base := base) T
  refine T.F_numbers_fit.okX sc_numbers_fit SpM.len (fun cdv A outer s H vs Q E hr h => ?_)
  have nd := sc_numbers_fit.nd
  have hu := hu_of hr
  have hu64 := hr.units
  refine ⟨_, (pss_one (ps_ret (pe_callB (call_allK (K := K) rfl rfl) (by rfl) T.z_all bt_all (pa_cons (pe_comp ["street"] ["town"] rfl (CompOk.of (sc := defScope s_numbers_fit) (N := ["town"]) rfl rfl (by decide +kernel) (by decide +kernel)) gok_name (pi_tupK (K := K) rfl (pe_ix (ix_tupK (K := K) rfl) (pv 0) pe_int (fun _ _ => rfl))) (fun _ _ _ _ _ _ => (pg_name (i := 0) (show List.Nodup (["street", "town"] : List Str) by decide +kernel) rfl (Or.inl rfl) (Or.inr rfl))) (fun _ _ _ _ _ _ => pifs_nil) (fun _ _ _ _ _ _ => (pe_call G_street_fits (hr.mono (by decide)) rfl T.m_street_fits T.k_street_fits T.b_street_fits .nil passX0 (pa_cons (pv 0) pa_nil)))) pa_nil)))), ?_⟩
  exact body_ok (k := KS K a) (n := 1) (mb := mb_numbers_fit) (ss_ret (se_cb r_all (sa_cons (se_comp (si_tup (se_op r_ixT se_var se_int)) sg_name (fun _ => st_true) (fun _ => (se_callN (sa_cons se_var sa_nil)))) sa_nil))) h
theorem ok_courses_of (T : Txt K mg a) : FnOk P w K mg base (CXX P w) 1 a.f_courses_of a.d_courses_of ["town"] (SpM (KS K a) 1 m_courses_of) := by
  refine T.F_courses_of.okX sc_courses_of SpM.len (fun cdv A outer s H vs Q E hr h => ?_)
  have nd := sc_courses_of.nd
  have hu := hu_of hr
  have hu64 := hr.units
  refine ⟨_, (pss_cons (ps_set (i := 1) nd rfl (Or.inl rfl) pe_dnewK)
      (pss_cons (ps_for PassesOwn.leaving rfl (pi_tupK (K := K) rfl (pe_ix (ix_tupK (K := K) rfl) (pv 0) pe_int (fun _ _ => rfl))) (pg_tupK (K := K) rfl rfl (pgs_cons (pg_name (i := 2) nd rfl (Or.inl rfl)) (pgs_cons (pg_name (i := 3) nd rfl (Or.inl rfl)) (pgs_cons (pg_name (i := 4) nd rfl (Or.inl rfl)) (pgs_cons (pg_name (i := 5) nd rfl (Or.inl rfl)) (pgs_cons (pg_name (i := 6) nd rfl (Or.inl rfl)) pgs_nil)))))) (pss_cons (ps_dput hu (pv 1) (pe_fstr (pj_cons (pe_fmtS (pv 2)) (pj_cons pe_str pj_nil))) (pe_tup (pa_cons (pv 3) (pa_cons (pv 4) (pa_cons (pv 5) pa_nil)))) rfl)
      (pss_one (ps_if (pt_cmpR op_eq (pv 6) pe_int (nomark _)) (pss_one (ps_dput hu (pv 1) (pe_fstr (pj_cons (pe_fmtS (pv 2)) (pj_cons pe_str pj_nil))) (pe_tup (pa_cons (pv 4) (pa_cons (pv 3) (pa_cons (pv 5) pa_nil)))) rfl)) pss_nil))))
      (pss_one (ps_ret (pv 1))))), ?_⟩
  exact body_ok (k := KS K a) (n := 7) (mb := mb_courses_of) (ss_seq (ss_set se_dnew) (ss_seq (ss_for (si_tup (se_op r_ixT se_var se_int)) (sg_tup (sgs_cons sg_name (sgs_cons sg_name (sgs_cons sg_name (sgs_cons sg_name (sgs_cons sg_name sgs_nil)))))) (ss_forget (ss_seq (ss_dput (se_tup (sa_cons se_var (sa_cons se_var (sa_cons se_var sa_nil)))) (se_fstr (sf_cons (se_un r_fmtS se_var) (sf_cons se_str sf_nil)))) (ss_if (st_test (se_op r_eq se_var se_int)) (ss_dput (se_tup (sa_cons se_var (sa_cons se_var (sa_cons se_var sa_nil)))) (se_fstr (sf_cons (se_un r_fmtS se_var) (sf_cons se_str sf_nil)))) ss_next)))) ss_retV)) h
theorem ok_ban_fits (T : Txt K mg a) : FnOk P w K mg base (CXX P w) 1 a.f_ban_fits a.d_ban_fits ["yard", "courses", "ban"] (SpM (KS K a) 3 m_ban_fits) := by
  refine T.F_ban_fits.okX sc_ban_fits SpM.len (fun cdv A outer s H vs Q E hr h => ?_)
  have nd := sc_ban_fits.nd
  have hu := hu_of hr
  have hu64 := hr.units
  refine ⟨_, (pss_cons (ps_if (PW.pt (pw_or (pt_cmp (pc_dnotin hu (pe_ix (ix_tupK (K := K) rfl) (pv 2) pe_int (fun _ _ => rfl)) (pv 1)) (by with_unfolding_all rfl)) (pw_or1 (pt_cmp (pc_dnotin hu (pe_ix (ix_tupK (K := K) rfl) (pv 2) pe_int (fun _ _ => rfl)) (pv 1)) (by with_unfolding_all rfl))))) (pss_one (ps_ret pe_bl)) pss_nil)
      (pss_cons (ps_set (i := 3) nd rfl (Or.inl rfl) (pe_ix (ix_tupK (K := K) rfl) (pe_dget hu (pv 1) (pe_ix (ix_tupK (K := K) rfl) (pv 2) pe_int (fun _ _ => rfl)) (fun _ _ => rfl)) pe_int (fun _ _ => rfl)))
      (pss_one (ps_ret (pe_and (pe_cmpR op_eq (pv 3) (pe_ix (ix_tupK (K := K) rfl) (pe_dget hu (pv 1) (pe_ix (ix_tupK (K := K) rfl) (pv 2) pe_int (fun _ _ => rfl)) (fun _ _ => rfl)) pe_int (fun _ _ => rfl)) (nomark _)) (pe_one (pe_cmpR op_ne (pv 3) (pv 0) (nomark _)))))))), ?_⟩
  exact body_ok (k := KS K a) (n := 4) (mb := mb_ban_fits) (ss_seq (ss_if (st_or (st_b (se_dnotin (se_op r_ixT se_var se_int) se_var)) (st_b (se_dnotin (se_op r_ixT se_var se_int) se_var))) (ss_ret se_bl) ss_next) (ss_seq (ss_set (se_op r_ixT (se_dget se_var (se_op r_ixT se_var se_int)) se_int)) (ss_ret (se_andV (se_op r_eq se_var (se_op r_ixT (se_dget se_var (se_op r_ixT se_var se_int)) se_int)) (se_op r_ne se_var se_var))))) h
theorem ok_bans_fit (T : Txt K mg a) : FnOk P w K mg base (CXX P w) 2 a.f_bans_fit a.d_bans_fit ["town"] (SpM (KS K a) 1 m_bans_fit) := by
  have G_ban_fits := ok_ban_fits (P := P) (w := w) (base := base) T
  have G_courses_of := ok_courses_of (P := P) (w := w) (base := base) T
  have G_stand_once := ok_stand_once (P := P) (w := w) (base := base) T
  refine T.F_bans_fit.okX sc_bans_fit SpM.len (fun cdv A outer s H vs Q E hr h => ?_)
  have nd := sc_bans_fit.nd
  have hu := hu_of hr
  have hu64 := hr.units
  refine ⟨_, (pss_cons (ps_set (i := 1) nd rfl (Or.inr rfl) (pe_call G_courses_of (hr.mono (by decide)) rfl T.m_courses_of T.k_courses_of T.b_courses_of .nil passX (pa_cons (pv 0) pa_nil)))
      (pss_one (ps_ret (pe_and (pe_call G_stand_once (hr.mono (by decide)) rfl T.m_stand_once T.k_stand_once T.b_stand_once .nil passX (pa_cons (pe_ix (ix_tupK (K := K) rfl) (pv 0) pe_int (fun _ _ => rfl)) pa_nil)) (pe_one (pe_callB (call_allK (K := K) rfl rfl) (by rfl) T.z_all bt_all (pa_cons (pe_comp ["ban"] ["town", "courses"] rfl (CompOk.of (sc := defScope s_bans_fit) (N := ["town", "courses"]) rfl rfl (by decide +kernel) (by decide +kernel)) gok_name (pi_tupK (K := K) rfl (pe_ix (ix_tupK (K := K) rfl) (pv 0) pe_int (fun _ _ => rfl))) (fun _ _ _ _ _ _ => (pg_name (i := 0) (show List.Nodup (["ban", "town", "courses"] : List Str) by decide +kernel) rfl (Or.inl rfl) (Or.inr rfl))) (fun _ _ _ _ _ _ => pifs_nil) (fun _ _ _ _ _ _ => (pe_call G_ban_fits (hr.mono (by decide)) rfl T.m_ban_fits T.k_ban_fits T.b_ban_fits .nil passX0 (pa_cons (pe_ix (ix_tupK (K := K) rfl) (pv 1) pe_int (fun _ _ => rfl)) (pa_cons (pv 2) (pa_cons (pv 0) pa_nil)))))) pa_nil))))))), ?_⟩
  exact body_ok (k := KS K a) (n := 2) (mb := mb_bans_fit) (ss_seq (ss_set (se_call (sa_cons se_var sa_nil))) (ss_ret (se_andV (se_call (sa_cons (se_op r_ixT se_var se_int) sa_nil)) (se_cb r_all (sa_cons (se_comp (si_tup (se_op r_ixT se_var se_int)) sg_name (fun _ => st_true) (fun _ => (se_callN (sa_cons (se_op r_ixT se_var se_int) (sa_cons se_var (sa_cons se_var sa_nil)))))) sa_nil))))) h
theorem ok_fits (T : Txt K mg a) : FnOk P w K mg base (CXX P w) 4 a.f_fits a.d_fits ["town"] (SpM (KS K a) 1 m_fits) := by
  have G_bans_fit := ok_bans_fit (P := P) (w := w) (base := base) T
  have G_names_fit := ok_names_fit (P := P) (w := w) (base := base) T
  have G_numbers_fit := ok_numbers_fit (P := P) (w := w) (base := base) T
  refine T.F_fits.okX sc_fits SpM.len (fun cdv A outer s H vs Q E hr h => ?_)
  have nd := sc_fits.nd
  have hu := hu_of hr
  have hu64 := hr.units
  refine ⟨_, (pss_one (ps_ret (pe_and (pe_call G_names_fit (hr.mono (by decide)) rfl T.m_names_fit T.k_names_fit T.b_names_fit .nil passX (pa_cons (pv 0) pa_nil)) (pe_and (pe_call G_numbers_fit (hr.mono (by decide)) rfl T.m_numbers_fit T.k_numbers_fit T.b_numbers_fit .nil passX (pa_cons (pv 0) pa_nil)) (pe_one (pe_call G_bans_fit (hr.mono (by decide)) rfl T.m_bans_fit T.k_bans_fit T.b_bans_fit .nil passX (pa_cons (pv 0) pa_nil))))))), ?_⟩
  exact body_ok (k := KS K a) (n := 1) (mb := mb_fits) (ss_ret (se_andV (se_call (sa_cons se_var sa_nil)) (se_andV (se_call (sa_cons se_var sa_nil)) (se_call (sa_cons se_var sa_nil))))) h
theorem ok_fitted (T : Txt K mg a) : FnOk P w K mg base (CXX P w) 5 a.f_fitted a.d_fitted ["town"] (SpM (KS K a) 1 m_fitted) := by
  have G_fits := ok_fits (P := P) (w := w) (base := base) T
  refine T.F_fitted.okX sc_fitted SpM.len (fun cdv A outer s H vs Q E hr h => ?_)
  have nd := sc_fitted.nd
  have hu := hu_of hr
  have hu64 := hr.units
  refine ⟨_, (pss_cons (ps_if (pt_not (pt_val (pe_call G_fits (hr.mono (by decide)) rfl T.m_fits T.k_fits T.b_fits .nil passX (pa_cons (pv 0) pa_nil)))) (pss_one (ps_raise raiseX rfl T.x_Unfit rfl T.m_Unfit (pa_cons pe_str pa_nil))) pss_nil)
      (pss_one (ps_ret (pv 0)))), ?_⟩
  exact body_ok (k := KS K a) (n := 1) (mb := mb_fitted) (ss_seq (ss_if (st_not (st_b (se_call (sa_cons se_var sa_nil)))) (ss_raise T.cl_Unfit (sa_cons se_str sa_nil)) ss_next) ss_retV) h
theorem ok_is_made_of (T : Txt K mg a) : FnOk P w K mg base (CXX P w) 1 a.f_is_made_of a.d_is_made_of ["word", "signs"] (SpM (KS K a) 2 m_is_made_of) := by
  refine T.F_is_made_of.okX sc_is_made_of SpM.len (fun cdv A outer s H vs Q E hr h => ?_)
  have nd := sc_is_made_of.nd
  have hu := hu_of hr
  have hu64 := hr.units
  refine ⟨_, (pss_one (ps_ret (pe_callB (call_allK (K := K) rfl rfl) (by rfl) T.z_all bt_all (pa_cons (pe_comp ["sign"] ["word", "signs"] rfl (CompOk.of (sc := defScope s_is_made_of) (N := ["word", "signs"]) rfl rfl (by decide +kernel) (by decide +kernel)) gok_name (pi_str (pv 0)) (fun _ _ _ _ _ _ => (pg_name (i := 0) (show List.Nodup (["sign", "word", "signs"] : List Str) by decide +kernel) rfl (Or.inl rfl) (Or.inr rfl))) (fun _ _ _ _ _ _ => pifs_nil) (fun _ _ _ _ _ _ => (pe_cmpR op_in_str (pv 0) (pv 2) (by with_unfolding_all rfl)))) pa_nil)))), ?_⟩
  exact body_ok (k := KS K a) (n := 2) (mb := mb_is_made_of) (ss_ret (se_cb r_all (sa_cons (se_comp (si_str se_var) sg_name (fun _ => st_true) (fun _ => (se_op r_inS se_var se_var))) sa_nil))) h
theorem ok_is_name (T : Txt K mg a) : FnOk P w K mg base (CXX P w) 2 a.f_is_name a.d_is_name ["word"] (SpM (KS K a) 1 m_is_name) := by
  have G_is_made_of := ok_is_made_of (P := P) (w := w) (base := base) T
  refine T.F_is_name.okX sc_is_name SpM.len (fun cdv A outer s H vs Q E hr h => ?_)
  have nd := sc_is_name.nd
  have hu := hu_of hr
  have hu64 := hr.units
  refine ⟨_, (pss_one (ps_ret (pe_and (pe_chain op_le op_le pe_int (pe_callB call_len_str (by rfl) T.z_len bt_len (pa_cons (pv 0) pa_nil)) (pe_glob (v := .int 8) rfl T.g_MOST_LETTERS ⟨_, rfl⟩)) (pe_one (pe_call G_is_made_of (hr.mono (by decide)) rfl T.m_is_made_of T.k_is_made_of T.b_is_made_of .nil passX (pa_cons (pv 0) (pa_cons (pe_glob (v := .str "abcdefghijklmnopqrstuvwxyz") rfl T.g_LETTERS ⟨_, rfl⟩) pa_nil))))))), ?_⟩
  exact body_ok (k := KS K a) (n := 1) (mb := mb_is_name) (ss_ret (se_andV (se_chain r_le r_le se_int (se_cb r_lenS (sa_cons se_var sa_nil)) se_int) (se_call (sa_cons se_var (sa_cons se_str sa_nil))))) h
theorem ok_is_number (T : Txt K mg a) : FnOk P w K mg base (CXX P w) 2 a.f_is_number a.d_is_number ["word"] (SpM (KS K a) 1 m_is_number) := by
  have G_is_made_of := ok_is_made_of (P := P) (w := w) (base := base) T
  refine T.F_is_number.okX sc_is_number SpM.len (fun cdv A outer s H vs Q E hr h => ?_)
  have nd := sc_is_number.nd
  have hu := hu_of hr
  have hu64 := hr.units
  refine ⟨_, (pss_one (ps_ret (pe_and (pe_chain op_le op_le pe_int (pe_callB call_len_str (by rfl) T.z_len bt_len (pa_cons (pv 0) pa_nil)) (pe_glob (v := .int 60) rfl T.g_MOST_FIGURES ⟨_, rfl⟩)) (pe_and (pe_cmpR op_ne (pe_ix ix_str (pv 0) pe_int (fun _ _ => rfl)) pe_str (nomark _)) (pe_one (pe_call G_is_made_of (hr.mono (by decide)) rfl T.m_is_made_of T.k_is_made_of T.b_is_made_of .nil passX (pa_cons (pv 0) (pa_cons (pe_glob (v := .str "0123456789") rfl T.g_FIGURES ⟨_, rfl⟩) pa_nil)))))))), ?_⟩
  exact body_ok (k := KS K a) (n := 1) (mb := mb_is_number) (ss_ret (se_andV (se_chain r_le r_le se_int (se_cb r_lenS (sa_cons se_var sa_nil)) se_int) (se_andV (se_op r_ne (se_op r_ixS se_var se_int) se_str) (se_call (sa_cons se_var (sa_cons se_str sa_nil)))))) h
theorem ok_is_side (T : Txt K mg a) : FnOk P w K mg base (CXX P w) 3 a.f_is_side a.d_is_side ["word"] (SpM (KS K a) 1 m_is_side) := by
  have G_is_name := ok_is_name (P := P) (w := w) (base := base) T
  refine T.F_is_side.okX sc_is_side SpM.len (fun cdv A outer s H vs Q E hr h => ?_)
  have nd := sc_is_side.nd
  have hu := hu_of hr
  have hu64 := hr.units
  refine ⟨_, (pss_one (ps_ret (pe_and (pe_cmpR (op_in_seqK (K := K) rfl) (pe_slice sl_str (pv 0) (po_some (pe_un un_neg pe_int)) po_none) (pe_tup (pa_cons pe_str (pa_cons pe_str pa_nil))) (by with_unfolding_all rfl)) (pe_one (pe_call G_is_name (hr.mono (by decide)) rfl T.m_is_name T.k_is_name T.b_is_name .nil passX (pa_cons (pe_slice sl_str (pv 0) po_none (po_some (pe_un un_neg pe_int))) pa_nil)))))), ?_⟩
  exact body_ok (k := KS K a) (n := 1) (mb := mb_is_side) (ss_ret (se_andV (se_op r_in (se_sl r_slS se_var (so_some (se_un r_neg se_int)) so_none) (se_tup (sa_cons se_str (sa_cons se_str sa_nil)))) (se_call (sa_cons (se_sl r_slS se_var so_none (so_some (se_un r_neg se_int))) sa_nil)))) h
theorem ok_words_of (T : Txt K mg a) : FnOk P w K mg base (CXX P w) 1 a.f_words_of a.d_words_of ["row"] (SpM (KS K a) 1 m_words_of) := by
  refine T.F_words_of.okX sc_words_of SpM.len (fun cdv A outer s H vs Q E hr h => ?_)
  have nd := sc_words_of.nd
  have hu := hu_of hr
  have hu64 := hr.units
  refine ⟨_, (pss_cons (ps_set (i := 1) nd rfl (Or.inl rfl) (pe_bm F.plainAttrs_str F.slot_str_split F.type_str_split mt_split (pv 0) (pa_cons pe_str pa_nil)))
      (pss_cons (ps_if (pt_cmpR (op_in_seqK (K := K) rfl) pe_str (pv 1) (by with_unfolding_all rfl)) (pss_one (ps_raise raiseX rfl T.x_NoText rfl T.m_NoText (pa_cons (pe_fstr (pj_cons pe_str (pj_cons (pe_fmtR (pv 0)) pj_nil))) pa_nil))) pss_nil)
      (pss_one (ps_ret (pv 1))))), ?_⟩
  exact body_ok (k := KS K a) (n := 2) (mb := mb_words_of) (ss_seq (ss_set (se_bm ty_str r_split se_var (sa_cons se_str sa_nil))) (ss_seq (ss_if (st_test (se_op r_in se_str se_var)) (ss_raise T.cl_NoText (sa_cons (se_fstr (sf_cons se_str (sf_cons (se_un r_fmtR se_var) sf_nil))) sa_nil)) ss_next) ss_retV)) h
theorem ok_rows_of (T : Txt K mg a) : FnOk P w K mg base (CXX P w) 1 a.f_rows_of a.d_rows_of ["text"] (SpM (KS K a) 1 m_rows_of) := by
  refine T.F_rows_of.okX sc_rows_of SpM.len (fun cdv A outer s H vs Q E hr h => ?_)
  have nd := sc_rows_of.nd
  have hu := hu_of hr
  have hu64 := hr.units
  refine ⟨_, (pss_cons (ps_if (pt_cmpR op_eq (pv 0) pe_str (nomark _)) (pss_one (ps_ret (pe_lst pa_nil))) pss_nil)
      (pss_one (ps_ret (pe_bm F.plainAttrs_str F.slot_str_split F.type_str_split mt_split (pv 0) (pa_cons pe_str pa_nil))))), ?_⟩
  exact body_ok (k := KS K a) (n := 1) (mb := mb_rows_of) (ss_seq (ss_if (st_test (se_op r_eq se_var se_str)) (ss_ret (se_lst sa_nil)) ss_next) (ss_ret (se_bm ty_str r_split se_var (sa_cons se_str sa_nil)))) h
theorem ok_is_street_row (T : Txt K mg a) : FnOk P w K mg base (CXX P w) 3 a.f_is_street_row a.d_is_street_row ["words"] (SpM (KS K a) 1 m_is_street_row) := by
  have G_is_name := ok_is_name (P := P) (w := w) (base := base) T
  have G_is_number := ok_is_number (P := P) (w := w) (base := base) T
  refine T.F_is_street_row.okX sc_is_street_row SpM.len (fun cdv A outer s H vs Q E hr h => ?_)
  have nd := sc_is_street_row.nd
  have hu := hu_of hr
  have hu64 := hr.units
  refine ⟨_, (pss_cons (ps_if (PW.pt (pw_or (pt_cmpR op_ne (pe_callB (call_len_seqK (K := K) rfl) (by rfl) T.z_len bt_len (pa_cons (pv 0) pa_nil)) pe_int (nomark _)) (pw_or1 (pt_cmpR (op_notInK (K := K) (D := ([("lane", 1), ("street", 2)] : List (Str × Int))) rfl T.w_WAYS) (pe_ix (ix_listK (K := K) rfl) (pv 0) pe_int (fun _ _ => rfl)) (pe_glob (v := .ref a.d_WAYS) rfl T.m_WAYS rfl) (by with_unfolding_all rfl))))) (pss_one (ps_ret pe_bl)) pss_nil)
      (pss_one (ps_ret (pe_and (pe_callB (call_allK (K := K) rfl rfl) (by rfl) T.z_all bt_all (pa_cons (pe_comp ["word"] ["words"] rfl (CompOk.of (sc := defScope s_is_street_row) (N := ["words"]) rfl rfl (by decide +kernel) (by decide +kernel)) gok_name (pi_listK (K := K) rfl (pe_slice (sl_listK (K := K) rfl) (pv 0) (po_some pe_int) (po_some pe_int))) (fun _ _ _ _ _ _ => (pg_name (i := 0) (show List.Nodup (["word", "words"] : List Str) by decide +kernel) rfl (Or.inl rfl) (Or.inr rfl))) (fun _ _ _ _ _ _ => pifs_nil) (fun _ _ _ _ _ _ => (pe_call G_is_name (hr.mono (by decide)) rfl T.m_is_name T.k_is_name T.b_is_name .nil passX0 (pa_cons (pv 0) pa_nil)))) pa_nil)) (pe_one (pe_call G_is_number (hr.mono (by decide)) rfl T.m_is_number T.k_is_number T.b_is_number .nil passX (pa_cons (pe_ix (ix_listK (K := K) rfl) (pv 0) pe_int (fun _ _ => rfl)) pa_nil))))))), ?_⟩
  exact body_ok (k := KS K a) (n := 1) (mb := mb_is_street_row) (ss_seq (ss_if (st_or (st_test (se_op r_ne (se_cb r_len (sa_cons se_var sa_nil)) se_int)) (st_test (se_inK (se_op r_ixL se_var se_int)))) (ss_ret se_bl) ss_next) (ss_ret (se_andV (se_cb r_all (sa_cons (se_comp (si_list (se_sl r_slL se_var (so_some se_int) (so_some se_int))) sg_name (fun _ => st_true) (fun _ => (se_callN (sa_cons se_var sa_nil)))) sa_nil)) (se_call (sa_cons (se_op r_ixL se_var se_int) sa_nil))))) h
theorem ok_street_of (T : Txt K mg a) : FnOk P w K mg base (CXX P w) 4 a.f_street_of a.d_street_of ["words"] (SpM (KS K a) 1 m_street_of) := by
  have G_is_street_row := ok_is_street_row (P := P) (w := w) (base := base) T
  refine T.F_street_of.okX sc_street_of SpM.len (fun cdv A outer s H vs Q E hr h => ?_)
  have nd := sc_street_of.nd
  have hu := hu_of hr
  have hu64 := hr.units
  refine ⟨_, (pss_cons (ps_if (pt_not (pt_val (pe_call G_is_street_row (hr.mono (by decide)) rfl T.m_is_street_row T.k_is_street_row T.b_is_street_row .nil passX (pa_cons (pv 0) pa_nil)))) (pss_one (ps_raise raiseX rfl T.x_NoText rfl T.m_NoText (pa_cons pe_str pa_nil))) pss_nil)
      (pss_one (ps_ret (pe_tup (pa_cons (pe_ix (ix_listK (K := K) rfl) (pv 0) pe_int (fun _ _ => rfl)) (pa_cons (pe_ix (ix_listK (K := K) rfl) (pv 0) pe_int (fun _ _ => rfl)) (pa_cons (pe_ix (ix_listK (K := K) rfl) (pv 0) pe_int (fun _ _ => rfl)) (pa_cons (pe_callTy call_intS (by rfl) T.z_int bt_int (pa_cons (pe_ix (ix_listK (K := K) rfl) (pv 0) pe_int (fun _ _ => rfl)) pa_nil)) (pa_cons (pe_ix (ix_K (K := K) (D := ([("lane", 1), ("street", 2)] : List (Str × Int))) rfl T.w_WAYS) (pe_glob (v := .ref a.d_WAYS) rfl T.m_WAYS rfl) (pe_ix (ix_listK (K := K) rfl) (pv 0) pe_int (fun _ _ => rfl)) (fun _ _ => rfl)) pa_nil))))))))), ?_⟩
  exact body_ok (k := KS K a) (n := 1) (mb := mb_street_of) (ss_seq (ss_if (st_not (st_b (se_call (sa_cons se_var sa_nil)))) (ss_raise T.cl_NoText (sa_cons se_str sa_nil)) ss_next) (ss_ret (se_tup (sa_cons (se_op r_ixL se_var se_int) (sa_cons (se_op r_ixL se_var se_int) (sa_cons (se_op r_ixL se_var se_int) (sa_cons (se_cb r_intS (sa_cons (se_op r_ixL se_var se_int) sa_nil)) (sa_cons (se_ixK (se_op r_ixL se_var se_int)) sa_nil)))))))) h
theorem ok_is_ban_row (T : Txt K mg a) : FnOk P w K mg base (CXX P w) 4 a.f_is_ban_row a.d_is_ban_row ["words"] (SpM (KS K a) 1 m_is_ban_row) := by
  have G_is_side := ok_is_side (P := P) (w := w) (base := base) T
  refine T.F_is_ban_row.okX sc_is_ban_row SpM.len (fun cdv A outer s H vs Q E hr h => ?_)
  have nd := sc_is_ban_row.nd
  have hu := hu_of hr
  have hu64 := hr.units
  refine ⟨_, (pss_one (ps_ret (pe_and (pe_cmpR op_eq (pe_callB (call_len_seqK (K := K) rfl) (by rfl) T.z_len bt_len (pa_cons (pv 0) pa_nil)) pe_int (nomark _)) (pe_and (pe_cmpR op_eq (pe_ix (ix_listK (K := K) rfl) (pv 0) pe_int (fun _ _ => rfl)) pe_str (nomark _)) (pe_and (pe_call G_is_side (hr.mono (by decide)) rfl T.m_is_side T.k_is_side T.b_is_side .nil passX (pa_cons (pe_ix (ix_listK (K := K) rfl) (pv 0) pe_int (fun _ _ => rfl)) pa_nil)) (pe_one (pe_call G_is_side (hr.mono (by decide)) rfl T.m_is_side T.k_is_side T.b_is_side .nil passX (pa_cons (pe_ix (ix_listK (K := K) rfl) (pv 0) pe_int (fun _ _ => rfl)) pa_nil)))))))), ?_⟩
  exact body_ok (k := KS K a) (n := 1) (mb := mb_is_ban_row) (ss_ret (se_andV (se_op r_eq (se_cb r_len (sa_cons se_var sa_nil)) se_int) (se_andV (se_op r_eq (se_op r_ixL se_var se_int) se_str) (se_andV (se_call (sa_cons (se_op r_ixL se_var se_int) sa_nil)) (se_call (sa_cons (se_op r_ixL se_var se_int) sa_nil)))))) h
theorem ok_ban_of (T : Txt K mg a) : FnOk P w K mg base (CXX P w) 5 a.f_ban_of a.d_ban_of ["words"] (SpM (KS K a) 1 m_ban_of) := by
  have G_is_ban_row := ok_is_ban_row (P := P) (w := w) (base := base) T
  refine T.F_ban_of.okX sc_ban_of SpM.len (fun cdv A outer s H vs Q E hr h => ?_)
  have nd := sc_ban_of.nd
  have hu := hu_of hr
  have hu64 := hr.units
  refine ⟨_, (pss_cons (ps_if (pt_not (pt_val (pe_call G_is_ban_row (hr.mono (by decide)) rfl T.m_is_ban_row T.k_is_ban_row T.b_is_ban_row .nil passX (pa_cons (pv 0) pa_nil)))) (pss_one (ps_raise raiseX rfl T.x_NoText rfl T.m_NoText (pa_cons pe_str pa_nil))) pss_nil)
      (pss_one (ps_ret (pe_tup (pa_cons (pe_ix (ix_listK (K := K) rfl) (pv 0) pe_int (fun _ _ => rfl)) (pa_cons (pe_ix (ix_listK (K := K) rfl) (pv 0) pe_int (fun _ _ => rfl)) pa_nil)))))), ?_⟩
  exact body_ok (k := KS K a) (n := 1) (mb := mb_ban_of) (ss_seq (ss_if (st_not (st_b (se_call (sa_cons se_var sa_nil)))) (ss_raise T.cl_NoText (sa_cons se_str sa_nil)) ss_next) (ss_ret (se_tup (sa_cons (se_op r_ixL se_var se_int) (sa_cons (se_op r_ixL se_var se_int) sa_nil))))) h
theorem ok_is_yard_row (T : Txt K mg a) : FnOk P w K mg base (CXX P w) 3 a.f_is_yard_row a.d_is_yard_row ["words"] (SpM (KS K a) 1 m_is_yard_row) := by
  have G_is_name := ok_is_name (P := P) (w := w) (base := base) T
  refine T.F_is_yard_row.okX sc_is_yard_row SpM.len (fun cdv A outer s H vs Q E hr h => ?_)
  have nd := sc_is_yard_row.nd
  have hu := hu_of hr
  have hu64 := hr.units
  refine ⟨_, (pss_one (ps_ret (pe_and (pe_cmpR op_eq (pe_callB (call_len_seqK (K := K) rfl) (by rfl) T.z_len bt_len (pa_cons (pv 0) pa_nil)) pe_int (nomark _)) (pe_and (pe_cmpR op_eq (pe_ix (ix_listK (K := K) rfl) (pv 0) pe_int (fun _ _ => rfl)) pe_str (nomark _)) (pe_one (pe_call G_is_name (hr.mono (by decide)) rfl T.m_is_name T.k_is_name T.b_is_name .nil passX (pa_cons (pe_ix (ix_listK (K := K) rfl) (pv 0) pe_int (fun _ _ => rfl)) pa_nil))))))), ?_⟩
  exact body_ok (k := KS K a) (n := 1) (mb := mb_is_yard_row) (ss_ret (se_andV (se_op r_eq (se_cb r_len (sa_cons se_var sa_nil)) se_int) (se_andV (se_op r_eq (se_op r_ixL se_var se_int) se_str) (se_call (sa_cons (se_op r_ixL se_var se_int) sa_nil))))) h
theorem ok_yard_of (T : Txt K mg a) : FnOk P w K mg base (CXX P w) 4 a.f_yard_of a.d_yard_of ["rows"] (SpM (KS K a) 1 m_yard_of) := by
  have G_is_yard_row := ok_is_yard_row (P := P) (w := w) (base := base) T
  refine T.F_yard_of.okX sc_yard_of SpM.len (fun cdv A outer s H vs Q E hr h => ?_)
  have nd := sc_yard_of.nd
  have hu := hu_of hr
  have hu64 := hr.units
  refine ⟨_, (pss_cons (ps_if (PW.pt (pw_or (pt_cmpR (op_eqD (k := KS K a) rfl hu64) (pv 0) (pe_lst pa_nil) (nomark _)) (pw_or1 (pt_not (pt_val (pe_call G_is_yard_row (hr.mono (by decide)) rfl T.m_is_yard_row T.k_is_yard_row T.b_is_yard_row .nil passX (pa_cons (pe_ix (ix_listK (K := K) rfl) (pv 0) pe_int (fun _ _ => rfl)) pa_nil))))))) (pss_one (ps_raise raiseX rfl T.x_NoText rfl T.m_NoText (pa_cons pe_str pa_nil))) pss_nil)
      (pss_one (ps_ret (pe_ix (ix_listK (K := K) rfl) (pe_ix (ix_listK (K := K) rfl) (pv 0) pe_int (fun _ _ => rfl)) pe_int (fun _ _ => rfl))))), ?_⟩
  exact body_ok (k := KS K a) (n := 1) (mb := mb_yard_of) (ss_seq (ss_if (st_or (st_test (se_op r_eqD se_var (se_lst sa_nil))) (st_not (st_b (se_call (sa_cons (se_op r_ixL se_var se_int) sa_nil))))) (ss_raise T.cl_NoText (sa_cons se_str sa_nil)) ss_next) (ss_ret (se_op r_ixL (se_op r_ixL se_var se_int) se_int))) h
theorem ok_town_of (T : Txt K mg a) : FnOk P w K mg base (CXX P w) 6 a.f_town_of a.d_town_of ["rows"] (SpM (KS K a) 1 m_town_of) := by
  have G_ban_of := ok_ban_of (P := P) (w := w) (base := base) T
  have G_street_of := ok_street_of (P := P) (w := w) (base := base) T
  have G_yard_of := ok_yard_of (P := P) (w := w) (base := base) T
  refine T.F_town_of.okX sc_town_of SpM.len (fun cdv A outer s H vs Q E hr h => ?_)
  have nd := sc_town_of.nd
  have hu := hu_of hr
  have hu64 := hr.units
  refine ⟨_, (pss_cons (ps_set (i := 1) nd rfl (Or.inl rfl) (pe_op op_add pe_int (pe_callB (call_len_seqK (K := K) rfl) (by rfl) T.z_len bt_len (pa_cons (pe_comp ["words"] ["rows", "behind", "streets", "bans"] rfl (CompOk.of (sc := defScope s_town_of) (N := ["rows", "behind", "streets", "bans"]) rfl rfl (by decide +kernel) (by decide +kernel)) gok_name (pi_listK (K := K) rfl (pv 0)) (fun _ _ _ _ _ _ => (pg_name (i := 0) (show List.Nodup (["words", "rows", "behind", "streets", "bans"] : List Str) by decide +kernel) rfl (Or.inl rfl) (Or.inr rfl))) (fun _ _ _ _ _ _ => (pifs_one (pt_cmpR (op_inK (K := K) (D := ([("lane", 1), ("street", 2)] : List (Str × Int))) rfl T.w_WAYS) (pe_ix (ix_listK (K := K) rfl) (pv 0) pe_int (fun _ _ => rfl)) (pe_glob (v := .ref a.d_WAYS) rfl T.m_WAYS rfl) (by with_unfolding_all rfl)))) (fun _ _ _ _ _ _ => (pv 0))) pa_nil))))
      (pss_cons (ps_comp ["words"] ["rows", "behind", "streets", "bans"] (i := 2) nd rfl rfl rfl (CompOk.of (sc := defScope s_town_of) (N := ["rows", "behind", "streets", "bans"]) rfl rfl (by decide +kernel) (by decide +kernel)) gok_name (pi_listK (K := K) rfl (pe_slice (sl_listK (K := K) rfl) (pv 0) (po_some pe_int) (po_some (pv 1)))) (fun _ _ _ _ _ _ => (pg_name (i := 0) (show List.Nodup (["words", "rows", "behind", "streets", "bans"] : List Str) by decide +kernel) rfl (Or.inl rfl) (Or.inr rfl))) (fun _ _ _ _ _ _ => pifs_nil) (fun _ _ _ _ _ _ => (pe_call G_street_of (hr.mono (by decide)) rfl T.m_street_of T.k_street_of T.b_street_of .nil passX0 (pa_cons (pv 0) pa_nil))) (by rfl))
      (pss_cons (ps_comp ["words"] ["rows", "behind", "streets", "bans"] (i := 3) nd rfl rfl rfl (CompOk.of (sc := defScope s_town_of) (N := ["rows", "behind", "streets", "bans"]) rfl rfl (by decide +kernel) (by decide +kernel)) gok_name (pi_listK (K := K) rfl (pe_slice (sl_listK (K := K) rfl) (pv 0) (po_some (pv 1)) po_none)) (fun _ _ _ _ _ _ => (pg_name (i := 0) (show List.Nodup (["words", "rows", "behind", "streets", "bans"] : List Str) by decide +kernel) rfl (Or.inl rfl) (Or.inr rfl))) (fun _ _ _ _ _ _ => pifs_nil) (fun _ _ _ _ _ _ => (pe_call G_ban_of (hr.mono (by decide)) rfl T.m_ban_of T.k_ban_of T.b_ban_of .nil passX0 (pa_cons (pv 0) pa_nil))) (by rfl))
      (pss_one (ps_ret (pe_tup (pa_cons (pe_call G_yard_of (hr.mono (by decide)) rfl T.m_yard_of T.k_yard_of T.b_yard_of .nil passX (pa_cons (pe_slice (sl_listK (K := K) rfl) (pv 0) po_none (po_some pe_int)) pa_nil)) (pa_cons (pe_callTy (call_tuple_ofK (K := K) rfl) (by rfl) T.z_tuple bt_tuple (pa_cons (pv 2) pa_nil)) (pa_cons (pe_callTy (call_tuple_ofK (K := K) rfl) (by rfl) T.z_tuple bt_tuple (pa_cons (pv 3) pa_nil)) pa_nil))))))))), ?_⟩
  exact body_ok (k := KS K a) (n := 4) (mb := mb_town_of) (ss_seq (ss_set (se_op r_add se_int (se_cb r_len (sa_cons (se_comp (si_list se_var) sg_name (fun _ => (st_test (se_inK (se_op r_ixL se_var se_int)))) (fun _ => se_var)) sa_nil)))) (ss_seq (ss_setC (se_comp (si_list (se_sl r_slL se_var (so_some se_int) (so_some se_var))) sg_name (fun _ => st_true) (fun _ => (se_callN (sa_cons se_var sa_nil))))) (ss_seq (ss_setC (se_comp (si_list (se_sl r_slL se_var (so_some se_var) so_none)) sg_name (fun _ => st_true) (fun _ => (se_callN (sa_cons se_var sa_nil))))) (ss_ret (se_tup (sa_cons (se_call (sa_cons (se_sl r_slL se_var so_none (so_some se_int)) sa_nil)) (sa_cons (se_cb r_tuple (sa_cons se_var sa_nil)) (sa_cons (se_cb r_tuple (sa_cons se_var sa_nil)) sa_nil)))))))) h
theorem ok_read (T : Txt K mg a) : FnOk P w K mg base (CXX P w) 7 a.f_read a.d_read ["text"] (SpM (KS K a) 1 m_read) := by
  have G_fitted := ok_fitted (P := P) (w := w) (base := base) T
  have G_rows_of := ok_rows_of (P := P) (w := w) (base := base) T
  have G_town_of := ok_town_of (P := P) (w := w) (base := base) T
  have G_words_of := ok_words_of (P := P) (w := w) (base := base) T
  refine T.F_read.okX sc_read SpM.len (fun cdv A outer s H vs Q E hr h => ?_)
  have nd := sc_read.nd
  have hu := hu_of hr
  have hu64 := hr.units
  refine ⟨_, (pss_cons (ps_if (pt_not (pt_val (pe_callB (call_isTK (K := K) rfl) (by rfl) T.z_isinstance bt_isinstance (pa_cons (pv 0) (pa_cons (pe_bltn (v := .ty "str") rfl T.z_str bt_str rfl) pa_nil))))) (pss_one (ps_raise raiseX rfl T.x_NoText rfl T.m_NoText (pa_cons pe_str pa_nil))) pss_nil)
      (pss_one (ps_ret (pe_call G_fitted (hr.mono (by decide)) rfl T.m_fitted T.k_fitted T.b_fitted .nil passX (pa_cons (pe_call G_town_of (hr.mono (by decide)) rfl T.m_town_of T.k_town_of T.b_town_of .nil passX (pa_cons (pe_comp ["row"] ["text"] rfl (CompOk.of (sc := defScope s_read) (N := ["text"]) rfl rfl (by decide +kernel) (by decide +kernel)) gok_name (pi_listK (K := K) rfl (pe_call G_rows_of (hr.mono (by decide)) rfl T.m_rows_of T.k_rows_of T.b_rows_of .nil passX (pa_cons (pv 0) pa_nil))) (fun _ _ _ _ _ _ => (pg_name (i := 0) (show List.Nodup (["row", "text"] : List Str) by decide +kernel) rfl (Or.inl rfl) (Or.inr rfl))) (fun _ _ _ _ _ _ => pifs_nil) (fun _ _ _ _ _ _ => (pe_call G_words_of (hr.mono (by decide)) rfl T.m_words_of T.k_words_of T.b_words_of .nil passX0 (pa_cons (pv 0) pa_nil)))) pa_nil)) pa_nil))))), ?_⟩
  exact body_ok (k := KS K a) (n := 1) (mb := mb_read) (ss_seq (ss_if (st_not (st_b (se_isI is_str se_var))) (ss_raise T.cl_NoText (sa_cons se_str sa_nil)) ss_next) (ss_ret (se_call (sa_cons (se_call (sa_cons (se_comp (si_list (se_call (sa_cons se_var sa_nil))) sg_name (fun _ => st_true) (fun _ => (se_callN (sa_cons se_var sa_nil)))) sa_nil)) sa_nil)))) h
theorem ok__law_cell (T : Txt K mg a) : FnOk P w K mg base (CXX P w) 1 a.f__law_cell a.d__law_cell ["_law_script", "_law_k"] (SpM (KS K a) 2 m__law_cell) := by
  refine T.F__law_cell.okX sc__law_cell SpM.len (fun cdv A outer s H vs Q E hr h => ?_)
  have nd := sc__law_cell.nd
  have hu := hu_of hr
  have hu64 := hr.units
  refine ⟨_, (pss_cons (ps_if (pt_cmpR op_lt (pv 1) (pe_callB (call_len_seqK (K := K) rfl) (by rfl) T.z_len bt_len (pa_cons (pv 0) pa_nil)) (nomark _)) (pss_one (ps_ret (pe_ix (ix_listK (K := K) rfl) (pv 0) (pv 1) (fun _ _ => rfl)))) pss_nil)
      (pss_one (ps_ret pe_int))), ?_⟩
  exact body_ok (k := KS K a) (n := 2) (mb := mb__law_cell) (ss_seq (ss_if (st_test (se_op r_lt se_var (se_cb r_len (sa_cons se_var sa_nil)))) (ss_ret (se_op r_ixL se_var se_var)) ss_next) (ss_ret se_int)) h
theorem ok__law_names (T : Txt K mg a) : FnOk P w K mg base (CXX P w) 1 a.f__law_names a.d__law_names ["_law_cell_here", "_law_many"] (SpM (KS K a) 2 m__law_names) := by
  refine T.F__law_names.okX sc__law_names SpM.len (fun cdv A outer s H vs Q E hr h => ?_)
  have nd := sc__law_names.nd
  have hu := hu_of hr
  have hu64 := hr.units
  refine ⟨_, (pss_cons (ps_set (i := 2) nd rfl (Or.inl rfl) pe_str)
      (pss_cons (ps_set (i := 3) nd rfl (Or.inl rfl) (pe_op op_mod (pe_op op_mul (pv 0) pe_int) pe_int))
      (pss_cons (ps_set (i := 4) nd rfl (Or.inl rfl) (pe_callTy call_int1 (by rfl) T.z_int bt_int (pa_cons (pe_cmpR op_eq (pe_op op_mod (pe_op op_fdiv (pv 3) pe_int) pe_int) pe_int (nomark _)) pa_nil)))
      (pss_cons (ps_set (i := 5) nd rfl (Or.inl rfl) (pe_op op_add pe_int (pe_op op_mod (pv 3) (pe_op op_sub pe_int (pv 4)))))
      (pss_cons (ps_set (i := 6) nd rfl (Or.inl rfl) (pe_op op_mod (pe_op op_fdiv (pv 3) pe_int) (pv 5)))
      (pss_cons (ps_set (i := 7) nd rfl (Or.inl rfl) (pe_ix ix_str (pv 2) (pe_op op_mod (pe_op op_fdiv (pv 3) pe_int) pe_int) (fun _ _ => rfl)))
      (pss_cons (ps_set (i := 8) nd rfl (Or.inl rfl) (pe_lst pa_nil))
      (pss_cons (ps_for PassesOwn.leaving rfl (pi_range1 rfl T.z_range (pa_cons (pv 1) pa_nil)) (pg_name (i := 9) nd rfl (Or.inl rfl)) (pss_cons (ps_set (i := 10) nd rfl (Or.inl rfl) (pe_ix ix_str (pv 2) (pe_op op_mod (pe_op op_add (pe_op op_fdiv (pv 3) pe_int) (pe_op op_mul pe_int (pv 9))) pe_int) (fun _ _ => rfl)))
      (pss_cons (ps_expr (pe_bm F.plainAttrs_list F.slot_list_append F.type_list_append mt_append (pv 8) (pa_cons (pe_op op_add_str (pe_op op_add_str (pe_op op_mulS (pv 7) (pv 6)) (pv 10)) (pe_op op_mulS (pv 7) (pe_op op_sub (pe_op op_sub (pv 5) (pv 6)) pe_int))) pa_nil)))
      (pss_one (ps_if (PW.pt (pw_and (pt_cmpR op_eq (pv 4) pe_int (nomark _)) (pw_and1 (pt_cmpR op_eq (pe_op op_mod (pv 9) pe_int) pe_int (nomark _))))) (pss_one (ps_asg (pe_op op_add_str (pe_ix (ix_listK (K := K) rfl) (pv 8) (pe_op op_sub (pv 9) pe_int) (fun _ _ => rfl)) (pv 7)) (pg_sub (pv 8) (pv 9) set_list))) pss_nil)))))
      (pss_one (ps_ret (pv 8))))))))))), ?_⟩
  exact body_ok (k := KS K a) (n := 11) (mb := mb__law_names) (ss_seq (ss_set se_str) (ss_seq (ss_set (se_op r_mod (se_op r_mul se_var se_int) se_int)) (ss_seq (ss_set (se_cb r_int (sa_cons (se_op r_eq (se_op r_mod (se_op r_div se_var se_int) se_int) se_int) sa_nil))) (ss_seq (ss_set (se_op r_add se_int (se_op r_mod se_var (se_op r_sub se_int se_var)))) (ss_seq (ss_set (se_op r_mod (se_op r_div se_var se_int) se_var)) (ss_seq (ss_set (se_op r_ixS se_var (se_op r_mod (se_op r_div se_var se_int) se_int))) (ss_seq (ss_set (se_lst sa_nil)) (ss_seq (ss_for (si_rng1 (sa_cons se_var sa_nil)) sg_name (ss_forget (ss_seq (ss_set (se_op r_ixS se_var (se_op r_mod (se_op r_add (se_op r_div se_var se_int) (se_op r_mul se_int se_var)) se_int))) (ss_seq (ss_mut mu_append (sa_cons (se_op r_addS (se_op r_addS (se_op r_mulS se_var se_var) se_var) (se_op r_mulS se_var (se_op r_sub (se_op r_sub se_var se_var) se_int))) sa_nil)) (ss_if (st_and (st_test (se_op r_eq se_var se_int)) (st_test (se_op r_eq (se_op r_mod se_var se_int) se_int))) (ss_setItem (se_op r_addS (se_op r_ixL se_var (se_op r_sub se_var se_int)) se_var) se_var) ss_next))))) ss_retV)))))))) h
theorem ok__law_length (T : Txt K mg a) : FnOk P w K mg base (CXX P w) 1 a.f__law_length a.d__law_length ["_law_cell_here"] (SpM (KS K a) 1 m__law_length) := by
  refine T.F__law_length.okX sc__law_length SpM.len (fun cdv A outer s H vs Q E hr h => ?_)
  have nd := sc__law_length.nd
  have hu := hu_of hr
  have hu64 := hr.units
  refine ⟨_, (pss_cons (ps_if (pt_cmpR op_gt (pe_op op_mod (pv 0) pe_int) pe_int (nomark _)) (pss_one (ps_ret (pe_op op_add pe_int (pe_op op_mod (pe_op op_fdiv (pv 0) pe_int) pe_int)))) pss_nil)
      (pss_one (ps_ret (pe_op op_add pe_int (pe_op op_mod (pe_op op_mulB (pe_op op_mod (pe_op op_fdiv (pv 0) pe_int) (pe_op op_pow pe_int pe_int)) (pe_op op_pow pe_int pe_int)) (pe_op op_sub (pe_op op_pow pe_int pe_int) pe_int)))))), ?_⟩
  exact body_ok (k := KS K a) (n := 1) (mb := mb__law_length) (ss_seq (ss_if (st_test (se_op r_gt (se_op r_mod se_var se_int) se_int)) (ss_ret (se_op r_add se_int (se_op r_mod (se_op r_div se_var se_int) se_int))) ss_next) (ss_ret (se_op r_add se_int (se_op r_mod (se_op r_mulB (se_op r_mod (se_op r_div se_var se_int) (se_op r_pow se_int se_int)) (se_op r_pow se_int se_int)) (se_op r_sub (se_op r_pow se_int se_int) se_int))))) h
theorem ok__law_streets (T : Txt K mg a) : FnOk P w K mg base (CXX P w) 2 a.f__law_streets a.d__law_streets ["_law_script", "_law_corners", "_law_names_here"] (SpM (KS K a) 3 m__law_streets) := by
  have G__law_cell := ok__law_cell (P := P) (w := w) (base := base) T
  have G__law_length := ok__law_length (P := P) (w := w) (base := base) T
  refine T.F__law_streets.okX sc__law_streets SpM.len (fun cdv A outer s H vs Q E hr h => ?_)
  have nd := sc__law_streets.nd
  have hu := hu_of hr
  have hu64 := hr.units
  refine ⟨_, (pss_cons (ps_set (i := 3) nd rfl (Or.inl rfl) (pe_lst pa_nil))
      (pss_cons (ps_for PassesOwn.leaving rfl (pi_range1 rfl T.z_range (pa_cons (pe_callB (call_len_seqK (K := K) rfl) (by rfl) T.z_len bt_len (pa_cons (pv 2) pa_nil)) pa_nil)) (pg_name (i := 4) nd rfl (Or.inl rfl)) (pss_cons (ps_set (i := 5) nd rfl (Or.inl rfl) (pe_call G__law_cell (hr.mono (by decide)) rfl T.m__law_cell T.k__law_cell T.b__law_cell .nil passX (pa_cons (pv 0) (pa_cons (pe_op op_add pe_int (pe_op op_mul pe_int (pv 4))) pa_nil))))
      (pss_cons (ps_set (i := 6) nd rfl (Or.inl rfl) (pe_ix (ix_listK (K := K) rfl) (pv 1) (pe_op op_mod (pv 4) (pe_callB (call_len_seqK (K := K) rfl) (by rfl) T.z_len bt_len (pa_cons (pv 1) pa_nil))) (fun _ _ => rfl)))
      (pss_cons (ps_set (i := 7) nd rfl (Or.inl rfl) (pe_ix (ix_listK (K := K) rfl) (pv 1) (pe_op op_mod (pe_op op_add (pv 4) pe_int) (pe_callB (call_len_seqK (K := K) rfl) (by rfl) T.z_len bt_len (pa_cons (pv 1) pa_nil))) (fun _ _ => rfl)))
      (pss_cons (ps_if (pt_cmpR op_eq (pe_op op_mod (pv 5) pe_int) pe_int (nomark _)) (pss_cons (ps_set (i := 6) nd rfl (Or.inl rfl) (pe_ix (ix_listK (K := K) rfl) (pv 1) (pe_op op_mod (pe_op op_fdiv (pv 5) pe_int) (pe_callB (call_len_seqK (K := K) rfl) (by rfl) T.z_len bt_len (pa_cons (pv 1) pa_nil))) (fun _ _ => rfl)))
      (pss_one (ps_set (i := 7) nd rfl (Or.inl rfl) (pe_ix (ix_listK (K := K) rfl) (pv 1) (pe_op op_mod (pe_op op_fdiv (pv 5) pe_int) (pe_callB (call_len_seqK (K := K) rfl) (by rfl) T.z_len bt_len (pa_cons (pv 1) pa_nil))) (fun _ _ => rfl))))) pss_nil)
      (pss_cons (ps_set (i := 8) nd rfl (Or.inl rfl) (pe_call G__law_length (hr.mono (by decide)) rfl T.m__law_length T.k__law_length T.b__law_length .nil passX (pa_cons (pe_call G__law_cell (hr.mono (by decide)) rfl T.m__law_cell T.k__law_cell T.b__law_cell .nil passX (pa_cons (pv 0) (pa_cons (pe_op op_add pe_int (pe_op op_mul pe_int (pv 4))) pa_nil))) pa_nil)))
      (pss_cons (ps_set (i := 9) nd rfl (Or.inl rfl) (pe_tup (pa_cons (pe_ix (ix_listK (K := K) rfl) (pv 2) (pv 4) (fun _ _ => rfl)) (pa_cons (pv 6) (pa_cons (pv 7) (pa_cons (pv 8) (pa_cons (pe_op op_add pe_int (pe_callTy call_int1 (by rfl) T.z_int bt_int (pa_cons (pe_cmpR op_gt (pe_op op_mod (pe_op op_fdiv (pv 5) pe_int) pe_int) pe_int (nomark _)) pa_nil))) pa_nil)))))))
      (pss_one (ps_expr (pe_bm F.plainAttrs_list F.slot_list_insert F.type_list_insert mt_insert (pv 3) (pa_cons (pe_op op_mod (pe_op op_fdiv (pv 5) pe_int) (pe_op op_add (pe_callB (call_len_seqK (K := K) rfl) (by rfl) T.z_len bt_len (pa_cons (pv 3) pa_nil)) pe_int)) (pa_cons (pv 9) pa_nil))))))))))))
      (pss_one (ps_ret (pv 3))))), ?_⟩
  exact body_ok (k := KS K a) (n := 10) (mb := mb__law_streets) (ss_seq (ss_set (se_lst sa_nil)) (ss_seq (ss_for (si_rng1 (sa_cons (se_cb r_len (sa_cons se_var sa_nil)) sa_nil)) sg_name (ss_forget (ss_seq (ss_set (se_call (sa_cons se_var (sa_cons (se_op r_add se_int (se_op r_mul se_int se_var)) sa_nil)))) (ss_seq (ss_set (se_op r_ixL se_var (se_op r_mod se_var (se_cb r_len (sa_cons se_var sa_nil))))) (ss_seq (ss_set (se_op r_ixL se_var (se_op r_mod (se_op r_add se_var se_int) (se_cb r_len (sa_cons se_var sa_nil))))) (ss_seq (ss_if (st_test (se_op r_eq (se_op r_mod se_var se_int) se_int)) (ss_seq (ss_set (se_op r_ixL se_var (se_op r_mod (se_op r_div se_var se_int) (se_cb r_len (sa_cons se_var sa_nil))))) (ss_set (se_op r_ixL se_var (se_op r_mod (se_op r_div se_var se_int) (se_cb r_len (sa_cons se_var sa_nil)))))) ss_next) (ss_seq (ss_set (se_call (sa_cons (se_call (sa_cons se_var (sa_cons (se_op r_add se_int (se_op r_mul se_int se_var)) sa_nil))) sa_nil))) (ss_seq (ss_set (se_tup (sa_cons (se_op r_ixL se_var se_var) (sa_cons se_var (sa_cons se_var (sa_cons se_var (sa_cons (se_op r_add se_int (se_cb r_int (sa_cons (se_op r_gt (se_op r_mod (se_op r_div se_var se_int) se_int) se_int) sa_nil))) sa_nil))))))) (ss_mut mu_insert (sa_cons (se_op r_mod (se_op r_div se_var se_int) (se_op r_add (se_cb r_len (sa_cons se_var sa_nil)) se_int)) (sa_cons se_var sa_nil))))))))))) ss_retV)) h
theorem ok__law_arcs (T : Txt K mg a) : FnOk P w K mg base (CXX P w) 1 a.f__law_arcs a.d__law_arcs ["_law_streets_here"] (SpM (KS K a) 1 m__law_arcs) := by
  refine T.F__law_arcs.okX sc__law_arcs SpM.len (fun cdv A outer s H vs Q E hr h => ?_)
  have nd := sc__law_arcs.nd
  have hu := hu_of hr
  have hu64 := hr.units
  refine ⟨_, (pss_cons (ps_set (i := 1) nd rfl (Or.inl rfl) pe_dnewK)
      (pss_cons (ps_for PassesOwn.leaving rfl (pi_seqK (K := K) rfl (pv 0)) (pg_tupK (K := K) rfl rfl (pgs_cons (pg_name (i := 2) nd rfl (Or.inl rfl)) (pgs_cons (pg_name (i := 3) nd rfl (Or.inl rfl)) (pgs_cons (pg_name (i := 4) nd rfl (Or.inl rfl)) (pgs_cons (pg_name (i := 5) nd rfl (Or.inl rfl)) (pgs_cons (pg_name (i := 6) nd rfl (Or.inl rfl)) pgs_nil)))))) (pss_cons (ps_dput hu (pv 1) (pe_op op_add_str (pv 2) pe_str) (pe_tup (pa_cons (pv 3) (pa_cons (pv 4) (pa_cons (pv 5) pa_nil)))) rfl)
      (pss_one (ps_if (pt_cmpR op_eq (pv 6) pe_int (nomark _)) (pss_one (ps_dput hu (pv 1) (pe_op op_add_str (pv 2) pe_str) (pe_tup (pa_cons (pv 4) (pa_cons (pv 3) (pa_cons (pv 5) pa_nil)))) rfl)) pss_nil))))
      (pss_one (ps_ret (pv 1))))), ?_⟩
  exact body_ok (k := KS K a) (n := 7) (mb := mb__law_arcs) (ss_seq (ss_set se_dnew) (ss_seq (ss_for (si_seq se_var) (sg_tup (sgs_cons sg_name (sgs_cons sg_name (sgs_cons sg_name (sgs_cons sg_name (sgs_cons sg_name sgs_nil)))))) (ss_forget (ss_seq (ss_dput (se_tup (sa_cons se_var (sa_cons se_var (sa_cons se_var sa_nil)))) (se_op r_addS se_var se_str)) (ss_if (st_test (se_op r_eq se_var se_int)) (ss_dput (se_tup (sa_cons se_var (sa_cons se_var (sa_cons se_var sa_nil)))) (se_op r_addS se_var se_str)) ss_next)))) ss_retV)) h
theorem ok__law_bans (T : Txt K mg a) : FnOk P w K mg base (CXX P w) 2 a.f__law_bans a.d__law_bans ["_law_script", "_law_arcs_here", "_law_yard"] (SpM (KS K a) 3 m__law_bans) := by
  have G__law_cell := ok__law_cell (P := P) (w := w) (base := base) T
  refine T.F__law_bans.okX sc__law_bans SpM.len (fun cdv A outer s H vs Q E hr h => ?_)
  have nd := sc__law_bans.nd
  have hu := hu_of hr
  have hu64 := hr.units
  refine ⟨_, (pss_cons (ps_set (i := 3) nd rfl (Or.inl rfl) (pe_lst pa_nil))
      (pss_cons (ps_for PassesOwn.leaving rfl (pi_dict (pv 1)) (pg_name (i := 4) nd rfl (Or.inl rfl)) (pss_one (ps_for PassesOwn.leaving rfl (pi_dict (pv 1)) (pg_name (i := 5) nd rfl (Or.inl rfl)) (pss_one (ps_if (PW.pt (pw_and (pt_cmpR op_eq (pe_ix (ix_tupK (K := K) rfl) (pe_dget hu (pv 1) (pv 4) (fun _ _ => rfl)) pe_int (fun _ _ => rfl)) (pe_ix (ix_tupK (K := K) rfl) (pe_dget hu (pv 1) (pv 5) (fun _ _ => rfl)) pe_int (fun _ _ => rfl)) (nomark _)) (pw_and1 (pt_cmpR op_ne (pe_ix (ix_tupK (K := K) rfl) (pe_dget hu (pv 1) (pv 4) (fun _ _ => rfl)) pe_int (fun _ _ => rfl)) (pv 2) (nomark _))))) (pss_one (ps_expr (pe_bm F.plainAttrs_list F.slot_list_append F.type_list_append mt_append (pv 3) (pa_cons (pe_tup (pa_cons (pv 4) (pa_cons (pv 5) pa_nil))) pa_nil)))) pss_nil)))))
      (pss_cons (ps_set (i := 6) nd rfl (Or.inl rfl) (pe_lst pa_nil))
      (pss_cons (ps_for PassesOwn.leaving rfl (pi_range1 rfl T.z_range (pa_cons (pe_op op_mod (pe_call G__law_cell (hr.mono (by decide)) rfl T.m__law_cell T.k__law_cell T.b__law_cell .nil passX (pa_cons (pv 0) (pa_cons pe_int pa_nil))) pe_int) pa_nil)) (pg_name (i := 7) nd rfl (Or.inl rfl)) (pss_cons (ps_set (i := 8) nd rfl (Or.inl rfl) (pe_call G__law_cell (hr.mono (by decide)) rfl T.m__law_cell T.k__law_cell T.b__law_cell .nil passX (pa_cons (pv 0) (pa_cons (pe_op op_add pe_int (pv 7)) pa_nil))))
      (pss_one (ps_if (PW.pt (pw_and (pt_cmpR op_gt (pe_callB (call_len_seqK (K := K) rfl) (by rfl) T.z_len bt_len (pa_cons (pv 3) pa_nil)) pe_int (nomark _)) (pw_and1 (pt_cmpR (op_notInD (k := KS K a) rfl hu64) (pe_ix (ix_listK (K := K) rfl) (pv 3) (pe_op op_mod (pv 8) (pe_callB (call_len_seqK (K := K) rfl) (by rfl) T.z_len bt_len (pa_cons (pv 3) pa_nil))) (fun _ _ => rfl)) (pv 6) (by with_unfolding_all rfl))))) (pss_one (ps_expr (pe_bm F.plainAttrs_list F.slot_list_insert F.type_list_insert mt_insert (pv 6) (pa_cons (pe_op op_mod (pe_op op_fdiv (pv 8) pe_int) (pe_op op_add (pe_callB (call_len_seqK (K := K) rfl) (by rfl) T.z_len bt_len (pa_cons (pv 6) pa_nil)) pe_int)) (pa_cons (pe_ix (ix_listK (K := K) rfl) (pv 3) (pe_op op_mod (pv 8) (pe_callB (call_len_seqK (K := K) rfl) (by rfl) T.z_len bt_len (pa_cons (pv 3) pa_nil))) (fun _ _ => rfl)) pa_nil))))) pss_nil))))
      (pss_one (ps_ret (pv 6))))))), ?_⟩
  exact body_ok (k := KS K a) (n := 9) (mb := mb__law_bans) (ss_seq (ss_set (se_lst sa_nil)) (ss_seq (ss_for (si_dict se_var) sg_name (ss_forget (ss_for (si_dict se_var) sg_name (ss_forget (ss_if (st_and (st_test (se_op r_eq (se_op r_ixT (se_dget se_var se_var) se_int) (se_op r_ixT (se_dget se_var se_var) se_int))) (st_test (se_op r_ne (se_op r_ixT (se_dget se_var se_var) se_int) se_var))) (ss_mut mu_append (sa_cons (se_tup (sa_cons se_var (sa_cons se_var sa_nil))) sa_nil)) ss_next))))) (ss_seq (ss_set (se_lst sa_nil)) (ss_seq (ss_for (si_rng1 (sa_cons (se_op r_mod (se_call (sa_cons se_var (sa_cons se_int sa_nil))) se_int) sa_nil)) sg_name (ss_forget (ss_seq (ss_set (se_call (sa_cons se_var (sa_cons (se_op r_add se_int se_var) sa_nil)))) (ss_if (st_and (st_test (se_op r_gt (se_cb r_len (sa_cons se_var sa_nil)) se_int)) (st_test (se_op r_inD (se_op r_ixL se_var (se_op r_mod se_var (se_cb r_len (sa_cons se_var sa_nil)))) se_var))) (ss_mut mu_insert (sa_cons (se_op r_mod (se_op r_div se_var se_int) (se_op r_add (se_cb r_len (sa_cons se_var sa_nil)) se_int)) (sa_cons (se_op r_ixL se_var (se_op r_mod se_var (se_cb r_len (sa_cons se_var sa_nil)))) sa_nil))) ss_next)))) ss_retV)))) h
theorem ok__law_town (T : Txt K mg a) : FnOk P w K mg base (CXX P w) 3 a.f__law_town a.d__law_town ["_law_script"] (SpM (KS K a) 1 m__law_town) := by
  have G__law_arcs := ok__law_arcs (P := P) (w := w) (base := base) T
  have G__law_bans := ok__law_bans (P := P) (w := w) (base := base) T
  have G__law_cell := ok__law_cell (P := P) (w := w) (base := base) T
  have G__law_names := ok__law_names (P := P) (w := w) (base := base) T
  have G__law_streets := ok__law_streets (P := P) (w := w) (base := base) T
  refine T.F__law_town.okX sc__law_town SpM.len (fun cdv A outer s H vs Q E hr h => ?_)
  have nd := sc__law_town.nd
  have hu := hu_of hr
  have hu64 := hr.units
  refine ⟨_, (pss_cons (ps_set (i := 1) nd rfl (Or.inl rfl) (pe_call G__law_cell (hr.mono (by decide)) rfl T.m__law_cell T.k__law_cell T.b__law_cell .nil passX (pa_cons (pv 0) (pa_cons pe_int pa_nil))))
      (pss_cons (ps_set (i := 2) nd rfl (Or.inl rfl) (pe_op op_mod (pe_op op_fdiv (pv 1) pe_int) pe_int))
      (pss_cons (ps_if (pt_cmpR op_eq (pe_op op_mod (pe_op op_fdiv (pv 1) pe_int) pe_int) pe_int (nomark _)) (pss_one (ps_set (i := 2) nd rfl (Or.inl rfl) (pe_op op_add pe_int (pe_op op_mod (pe_op op_fdiv (pv 1) pe_int) pe_int)))) pss_nil)
      (pss_cons (ps_set (i := 3) nd rfl (Or.inl rfl) (pe_call G__law_names (hr.mono (by decide)) rfl T.m__law_names T.k__law_names T.b__law_names .nil passX (pa_cons (pe_call G__law_cell (hr.mono (by decide)) rfl T.m__law_cell T.k__law_cell T.b__law_cell .nil passX (pa_cons (pv 0) (pa_cons pe_int pa_nil))) (pa_cons (pe_op op_add pe_int (pe_op op_mod (pv 1) pe_int)) pa_nil))))
      (pss_cons (ps_set (i := 4) nd rfl (Or.inl rfl) (pe_call G__law_cell (hr.mono (by decide)) rfl T.m__law_cell T.k__law_cell T.b__law_cell .nil passX (pa_cons (pv 0) (pa_cons pe_int pa_nil))))
      (pss_cons (ps_if (pt_cmpR op_eq (pe_op op_mod (pv 4) pe_int) pe_int (nomark _)) (pss_one (ps_set (i := 4) nd rfl (Or.inl rfl) (pe_call G__law_cell (hr.mono (by decide)) rfl T.m__law_cell T.k__law_cell T.b__law_cell .nil passX (pa_cons (pv 0) (pa_cons pe_int pa_nil))))) pss_nil)
      (pss_cons (ps_set (i := 5) nd rfl (Or.inl rfl) (pe_call G__law_streets (hr.mono (by decide)) rfl T.m__law_streets T.k__law_streets T.b__law_streets .nil passX (pa_cons (pv 0) (pa_cons (pv 3) (pa_cons (pe_call G__law_names (hr.mono (by decide)) rfl T.m__law_names T.k__law_names T.b__law_names .nil passX (pa_cons (pv 4) (pa_cons (pv 2) pa_nil))) pa_nil)))))
      (pss_cons (ps_set (i := 6) nd rfl (Or.inl rfl) (pe_ix (ix_listK (K := K) rfl) (pv 3) (pe_op op_mod (pe_call G__law_cell (hr.mono (by decide)) rfl T.m__law_cell T.k__law_cell T.b__law_cell .nil passX (pa_cons (pv 0) (pa_cons pe_int pa_nil))) (pe_callB (call_len_seqK (K := K) rfl) (by rfl) T.z_len bt_len (pa_cons (pv 3) pa_nil))) (fun _ _ => rfl)))
      (pss_one (ps_ret (pe_tup (pa_cons (pv 6) (pa_cons (pe_callTy (call_tuple_ofK (K := K) rfl) (by rfl) T.z_tuple bt_tuple (pa_cons (pv 5) pa_nil)) (pa_cons (pe_callTy (call_tuple_ofK (K := K) rfl) (by rfl) T.z_tuple bt_tuple (pa_cons (pe_call G__law_bans (hr.mono (by decide)) rfl T.m__law_bans T.k__law_bans T.b__law_bans .nil passX (pa_cons (pv 0) (pa_cons (pe_frzE (pe_call G__law_arcs (hr.mono (by decide)) rfl T.m__law_arcs T.k__law_arcs T.b__law_arcs .nil passX (pa_cons (pv 5) pa_nil))) (pa_cons (pv 6) pa_nil)))) pa_nil)) pa_nil)))))))))))))), ?_⟩
  exact body_ok (k := KS K a) (n := 7) (mb := mb__law_town) (ss_seq (ss_set (se_call (sa_cons se_var (sa_cons se_int sa_nil)))) (ss_seq (ss_set (se_op r_mod (se_op r_div se_var se_int) se_int)) (ss_seq (ss_if (st_test (se_op r_eq (se_op r_mod (se_op r_div se_var se_int) se_int) se_int)) (ss_set (se_op r_add se_int (se_op r_mod (se_op r_div se_var se_int) se_int))) ss_next) (ss_seq (ss_set (se_call (sa_cons (se_call (sa_cons se_var (sa_cons se_int sa_nil))) (sa_cons (se_op r_add se_int (se_op r_mod se_var se_int)) sa_nil)))) (ss_seq (ss_set (se_call (sa_cons se_var (sa_cons se_int sa_nil)))) (ss_seq (ss_if (st_test (se_op r_eq (se_op r_mod se_var se_int) se_int)) (ss_set (se_call (sa_cons se_var (sa_cons se_int sa_nil)))) ss_next) (ss_freeze (ss_seq (ss_set (se_call (sa_cons se_var (sa_cons se_var (sa_cons (se_call (sa_cons se_var (sa_cons se_var sa_nil))) sa_nil))))) (ss_seq (ss_set (se_op r_ixL se_var (se_op r_mod (se_call (sa_cons se_var (sa_cons se_int sa_nil))) (se_cb r_len (sa_cons se_var sa_nil))))) (ss_freeze (ss_ret (se_tup (sa_cons se_var (sa_cons (se_cb r_tuple (sa_cons se_var sa_nil)) (sa_cons (se_cb r_tuple (sa_cons (se_call (sa_cons se_var (sa_cons (se_frzE (se_call (sa_cons se_var sa_nil))) (sa_cons se_var sa_nil)))) sa_nil)) sa_nil))))))))))))))) h
theorem ok__law_text (T : Txt K mg a) : FnOk P w K mg base (CXX P w) 1 a.f__law_text a.d__law_text ["_law_town_here"] (SpM (KS K a) 1 m__law_text) := by
  refine T.F__law_text.okX sc__law_text SpM.len (fun cdv A outer s H vs Q E hr h => ?_)
  have nd := sc__law_text.nd
  have hu := hu_of hr
  have hu64 := hr.units
  refine ⟨_, (pss_cons (ps_set (i := 1) nd rfl (Or.inl rfl) (pe_op op_add_str pe_str (pe_ix (ix_tupK (K := K) rfl) (pv 0) pe_int (fun _ _ => rfl))))
      (pss_cons (ps_for PassesOwn.leaving rfl (pi_tupK (K := K) rfl (pe_ix (ix_tupK (K := K) rfl) (pv 0) pe_int (fun _ _ => rfl))) (pg_tupK (K := K) rfl rfl (pgs_cons (pg_name (i := 2) nd rfl (Or.inl rfl)) (pgs_cons (pg_name (i := 3) nd rfl (Or.inl rfl)) (pgs_cons (pg_name (i := 4) nd rfl (Or.inl rfl)) (pgs_cons (pg_name (i := 5) nd rfl (Or.inl rfl)) (pgs_cons (pg_name (i := 6) nd rfl (Or.inl rfl)) pgs_nil)))))) (pss_cons (ps_set (i := 1) nd rfl (Or.inl rfl) (pe_op op_add_str (pe_op op_add_str (pe_op op_add_str (pe_op op_add_str (pe_op op_add_str (pe_op op_add_str (pv 1) pe_str) (pe_ix (ix_listK (K := K) rfl) (pe_lst (pa_cons pe_str (pa_cons pe_str pa_nil))) (pe_op op_sub (pv 6) pe_int) (fun _ _ => rfl))) pe_str) (pv 2)) pe_str) (pv 3)))
      (pss_one (ps_set (i := 1) nd rfl (Or.inl rfl) (pe_op op_add_str (pe_op op_add_str (pe_op op_add_str (pe_op op_add_str (pv 1) pe_str) (pv 4)) pe_str) (pe_callTy call_str_int (by rfl) T.z_str bt_str (pa_cons (pv 5) pa_nil)))))))
      (pss_cons (ps_for PassesOwn.leaving rfl (pi_tupK (K := K) rfl (pe_ix (ix_tupK (K := K) rfl) (pv 0) pe_int (fun _ _ => rfl))) (pg_tupK (K := K) rfl rfl (pgs_cons (pg_name (i := 7) nd rfl (Or.inl rfl)) (pgs_cons (pg_name (i := 8) nd rfl (Or.inl rfl)) pgs_nil))) (pss_one (ps_set (i := 1) nd rfl (Or.inl rfl) (pe_op op_add_str (pe_op op_add_str (pe_op op_add_str (pe_op op_add_str (pe_op op_add_str (pv 1) pe_str) pe_str) (pv 7)) pe_str) (pv 8)))))
      (pss_one (ps_ret (pv 1)))))), ?_⟩
  exact body_ok (k := KS K a) (n := 9) (mb := mb__law_text) (ss_seq (ss_set (se_op r_addS se_str (se_op r_ixT se_var se_int))) (ss_seq (ss_for (si_tup (se_op r_ixT se_var se_int)) (sg_tup (sgs_cons sg_name (sgs_cons sg_name (sgs_cons sg_name (sgs_cons sg_name (sgs_cons sg_name sgs_nil)))))) (ss_forget (ss_seq (ss_set (se_op r_addS (se_op r_addS (se_op r_addS (se_op r_addS (se_op r_addS (se_op r_addS se_var se_str) (se_op r_ixL (se_lst (sa_cons se_str (sa_cons se_str sa_nil))) (se_op r_sub se_var se_int))) se_str) se_var) se_str) se_var)) (ss_set (se_op r_addS (se_op r_addS (se_op r_addS (se_op r_addS se_var se_str) se_var) se_str) (se_cb r_strI (sa_cons se_var sa_nil))))))) (ss_seq (ss_for (si_tup (se_op r_ixT se_var se_int)) (sg_tup (sgs_cons sg_name (sgs_cons sg_name sgs_nil))) (ss_forget (ss_set (se_op r_addS (se_op r_addS (se_op r_addS (se_op r_addS (se_op r_addS se_var se_str) se_str) se_var) se_str) se_var)))) ss_retV))) h
theorem ok__law_alike (T : Txt K mg a) : FnOk P w K mg base (CXX P w) 1 a.f__law_alike a.d__law_alike ["_law_found", "_law_town_here"] (SpM (KS K a) 2 m__law_alike) := by
  refine T.F__law_alike.okX sc__law_alike SpM.len (fun cdv A outer s H vs Q E hr h => ?_)
  have nd := sc__law_alike.nd
  have hu := hu_of hr
  have hu64 := hr.units
  refine ⟨_, (pss_cons (ps_if (PW.pt (pw_or (pt_not (pt_val (pe_callB (call_isTK (K := K) rfl) (by rfl) T.z_isinstance bt_isinstance (pa_cons (pv 0) (pa_cons (pe_bltn (v := .ty "tuple") rfl T.z_tuple bt_tuple rfl) pa_nil))))) (pw_or1 (pt_cmpR (op_neD (k := KS K a) rfl hu64) (pv 0) (pv 1) (nomark _))))) (pss_one (ps_ret pe_bl)) pss_nil)
      (pss_cons (ps_for PassesOwn.leaving rfl (pi_tupK (K := K) rfl (pe_ix (ix_tupK (K := K) rfl) (pv 0) pe_int (fun _ _ => rfl))) (pg_name (i := 2) nd rfl (Or.inl rfl)) (pss_cons (ps_if (pt_not (pt_val (pe_callB (call_isTK (K := K) rfl) (by rfl) T.z_isinstance bt_isinstance (pa_cons (pv 2) (pa_cons (pe_bltn (v := .ty "tuple") rfl T.z_tuple bt_tuple rfl) pa_nil))))) (pss_one (ps_ret pe_bl)) pss_nil)
      (pss_one (ps_for PassesOwn.leaving rfl (pi_tupK (K := K) rfl (pe_slice (sl_tupK (K := K) rfl) (pv 2) (po_some pe_int) po_none)) (pg_name (i := 3) nd rfl (Or.inl rfl)) (pss_one (ps_if (PW.pt (pw_or (pt_not (pt_val (pe_callB (call_isTK (K := K) rfl) (by rfl) T.z_isinstance bt_isinstance (pa_cons (pv 3) (pa_cons (pe_bltn (v := .ty "int") rfl T.z_int bt_int rfl) pa_nil))))) (pw_or1 (pt_val (pe_callB (call_isTK (K := K) rfl) (by rfl) T.z_isinstance bt_isinstance (pa_cons (pv 3) (pa_cons (pe_bltn (v := .ty "bool") rfl T.z_bool bt_bool rfl) pa_nil))))))) (pss_one (ps_ret pe_bl)) pss_nil))))))
      (pss_one (ps_ret (pe_and (pe_callB (call_isTK (K := K) rfl) (by rfl) T.z_isinstance bt_isinstance (pa_cons (pe_ix (ix_tupK (K := K) rfl) (pv 0) pe_int (fun _ _ => rfl)) (pa_cons (pe_bltn (v := .ty "tuple") rfl T.z_tuple bt_tuple rfl) pa_nil))) (pe_one (pe_callB (call_isTK (K := K) rfl) (by rfl) T.z_isinstance bt_isinstance (pa_cons (pe_ix (ix_tupK (K := K) rfl) (pv 0) pe_int (fun _ _ => rfl)) (pa_cons (pe_bltn (v := .ty "tuple") rfl T.z_tuple bt_tuple rfl) pa_nil))))))))), ?_⟩
  exact body_ok (k := KS K a) (n := 4) (mb := mb__law_alike) (ss_seq (ss_if (st_or (st_not (st_b (se_isI is_tuple se_var))) (st_test (se_op r_neD se_var se_var))) (ss_ret se_bl) ss_next) (ss_seq (ss_for (si_tup (se_op r_ixT se_var se_int)) sg_name (ss_forget (ss_seq (ss_if (st_not (st_b (se_isI is_tuple se_var))) (ss_ret se_bl) ss_next) (ss_for (si_tup (se_sl r_slT se_var (so_some se_int) so_none)) sg_name (ss_forget (ss_if (st_or (st_not (st_b (se_isI is_int se_var))) (st_b (se_isI is_bool se_var))) (ss_ret se_bl) ss_next)))))) (ss_ret (se_andV (se_isI is_tuple (se_op r_ixT se_var se_int)) (se_isI is_tuple (se_op r_ixT se_var se_int)))))) h
theorem ok_law (T : Txt K mg a) : FnOk P w K mg base (CXX P w) 8 a.f_law a.d_law ["_law_script"] (SpM (KS K a) 1 m_law) := by
  have G__law_alike := ok__law_alike (P := P) (w := w) (base := base) T
  have G__law_text := ok__law_text (P := P) (w := w) (base := base) T
  have G__law_town := ok__law_town (P := P) (w := w) (base := base) T
  have G_read := ok_read (P := P) (w := w) (base := base) T
  have G_show := ok_show (P := P) (w := w) (base := base) T
  refine T.F_law.okX sc_law SpM.len (fun cdv A outer s H vs Q E hr h => ?_)
  have nd := sc_law.nd
  have hu := hu_of hr
  have hu64 := hr.units
  refine ⟨_, (pss_cons (ps_set (i := 1) nd rfl (Or.inl rfl) (pe_call G__law_town (hr.mono (by decide)) rfl T.m__law_town T.k__law_town T.b__law_town .nil passX (pa_cons (pv 0) pa_nil)))
      (pss_cons (ps_set (i := 2) nd rfl (Or.inl rfl) (pe_call G__law_text (hr.mono (by decide)) rfl T.m__law_text T.k__law_text T.b__law_text .nil passX (pa_cons (pv 1) pa_nil)))
      (pss_cons (ps_set (i := 3) nd rfl (Or.inl rfl) (pe_call G_show (hr.mono (by decide)) rfl T.m_show T.k_show T.b_show .nil passX (pa_cons (pv 1) pa_nil)))
      (pss_cons (ps_if (PW.pt (pw_or (pt_not (pt_val (pe_callB (call_isTK (K := K) rfl) (by rfl) T.z_isinstance bt_isinstance (pa_cons (pv 3) (pa_cons (pe_bltn (v := .ty "str") rfl T.z_str bt_str rfl) pa_nil))))) (pw_or1 (pt_cmpR op_ne (pv 3) (pv 2) (nomark _))))) (pss_one (ps_ret pe_bl)) pss_nil)
      (pss_one (ps_ret (pe_and (pe_call G__law_alike (hr.mono (by decide)) rfl T.m__law_alike T.k__law_alike T.b__law_alike .nil passX (pa_cons (pe_call G_read (hr.mono (by decide)) rfl T.m_read T.k_read T.b_read .nil passX (pa_cons (pv 2) pa_nil)) (pa_cons (pv 1) pa_nil))) (pe_and (pe_call G__law_alike (hr.mono (by decide)) rfl T.m__law_alike T.k__law_alike T.b__law_alike .nil passX (pa_cons (pe_call G_read (hr.mono (by decide)) rfl T.m_read T.k_read T.b_read .nil passX (pa_cons (pv 3) pa_nil)) (pa_cons (pv 1) pa_nil))) (pe_one (pe_cmpR op_eq (pe_call G_show (hr.mono (by decide)) rfl T.m_show T.k_show T.b_show .nil passX (pa_cons (pv 1) pa_nil)) (pv 2) (nomark _))))))))))), ?_⟩
  exact body_ok (k := KS K a) (n := 4) (mb := mb_law) (ss_seq (ss_set (se_call (sa_cons se_var sa_nil))) (ss_seq (ss_set (se_call (sa_cons se_var sa_nil))) (ss_seq (ss_set (se_call (sa_cons se_var sa_nil))) (ss_seq (ss_if (st_or (st_not (st_b (se_isI is_str se_var))) (st_test (se_op r_ne se_var se_var))) (ss_ret se_bl) ss_next) (ss_ret (se_andV (se_call (sa_cons (se_call (sa_cons se_var sa_nil)) (sa_cons se_var sa_nil))) (se_andV (se_call (sa_cons (se_call (sa_cons se_var sa_nil)) (sa_cons se_var sa_nil))) (se_op r_eq (se_call (sa_cons se_var sa_nil)) se_var)))))))) h
end
end My
set_option Elab.async false
set_option linter.all false
set_option maxRecDepth 100000
set_option maxHeartbeats 4000000
namespace My
open PySem L2 Mr
theorem hsl : sizeLine = 16777216 := sizeLine_eq
theorem mod_pos {i j : Int} (h : 0 < j) : oMod (.int i) (.int j) = some (.fz (.int (i % j))) := by
  show (if 0 < j then some (XV.fz (T.int (i % j))) else none) = _
  rw [if_pos h]
theorem div_pos {i j : Int} (h : 0 < j) (h' : j < 1073741824) : oDiv (.int i) (.int j) = some (.fz (.int (i / j))) := by
  show (if CDiv i j then some (XV.fz (T.int (i / j))) else none) = _
  rw [if_pos ⟨h, h'⟩]
theorem mul_r {i j : Int} (h : -(2 ^ 64) < j) (h' : j < 2 ^ 64) : oMul (.int i) (.int j) = some (.fz (.int (i * j))) := by
  show (if CMul i j then some (XV.fz (T.int (i * j))) else none) = _
  rw [if_pos (.inr ⟨h, h'⟩)]
theorem mul_l {i j : Int} (h : -(2 ^ 64) < i) (h' : i < 2 ^ 64) : oMul (.int i) (.int j) = some (.fz (.int (i * j))) := by
  show (if CMul i j then some (XV.fz (T.int (i * j))) else none) = _
  rw [if_pos (.inl ⟨h, h'⟩)]
theorem dv2 {i : Int} : oDiv (.int i) (.int 2) = some (.fz (.int (i / 2))) := div_pos (by decide) (by decide)
theorem dv3 {i : Int} : oDiv (.int i) (.int 3) = some (.fz (.int (i / 3))) := div_pos (by decide) (by decide)
theorem dv5 {i : Int} : oDiv (.int i) (.int 5) = some (.fz (.int (i / 5))) := div_pos (by decide) (by decide)
theorem dv8 {i : Int} : oDiv (.int i) (.int 8) = some (.fz (.int (i / 8))) := div_pos (by decide) (by decide)
theorem dv10 {i : Int} : oDiv (.int i) (.int 10) = some (.fz (.int (i / 10))) := div_pos (by decide) (by decide)
theorem dv35 {i : Int} : oDiv (.int i) (.int 35) = some (.fz (.int (i / 35))) := div_pos (by decide) (by decide)
theorem dv50 {i : Int} : oDiv (.int i) (.int 50) = some (.fz (.int (i / 50))) := div_pos (by decide) (by decide)
theorem dv64 {i : Int} : oDiv (.int i) (.int 64) = some (.fz (.int (i / 64))) := div_pos (by decide) (by decide)
theorem dv97 {i : Int} : oDiv (.int i) (.int 97) = some (.fz (.int (i / 97))) := div_pos (by decide) (by decide)
theorem dv150 {i : Int} : oDiv (.int i) (.int 150) = some (.fz (.int (i / 150))) := div_pos (by decide) (by decide)
theorem dv280 {i : Int} : oDiv (.int i) (.int 280) = some (.fz (.int (i / 280))) := div_pos (by decide) (by decide)
theorem dv1664 {i : Int} : oDiv (.int i) (.int 1664) = some (.fz (.int (i / 1664))) := div_pos (by decide) (by decide)
theorem dv43264 {i : Int} : oDiv (.int i) (.int 43264) = some (.fz (.int (i / 43264))) := div_pos (by decide) (by decide)
theorem md2 {i : Int} : oMod (.int i) (.int 2) = some (.fz (.int (i % 2))) := mod_pos (by decide)
theorem md3 {i : Int} : oMod (.int i) (.int 3) = some (.fz (.int (i % 3))) := mod_pos (by decide)
theorem md4 {i : Int} : oMod (.int i) (.int 4) = some (.fz (.int (i % 4))) := mod_pos (by decide)
theorem md5 {i : Int} : oMod (.int i) (.int 5) = some (.fz (.int (i % 5))) := mod_pos (by decide)
theorem md6 {i : Int} : oMod (.int i) (.int 6) = some (.fz (.int (i % 6))) := mod_pos (by decide)
theorem md7 {i : Int} : oMod (.int i) (.int 7) = some (.fz (.int (i % 7))) := mod_pos (by decide)
theorem md8 {i : Int} : oMod (.int i) (.int 8) = some (.fz (.int (i % 8))) := mod_pos (by decide)
theorem md9 {i : Int} : oMod (.int i) (.int 9) = some (.fz (.int (i % 9))) := mod_pos (by decide)
theorem md26 {i : Int} : oMod (.int i) (.int 26) = some (.fz (.int (i % 26))) := mod_pos (by decide)
theorem md2147483647 {i : Int} : oMod (.int i) (.int 2147483647) = some (.fz (.int (i % 2147483647))) := mod_pos (by decide)
theorem ml2 {i : Int} : oMul (.int 2) (.int i) = some (.fz (.int (2 * i))) := mul_l (by decide) (by decide)
theorem ml3 {i : Int} : oMul (.int 3) (.int i) = some (.fz (.int (3 * i))) := mul_l (by decide) (by decide)
theorem mr48271 {i : Int} : oMul (.int i) (.int 48271) = some (.fz (.int (i * 48271))) := mul_r (by decide) (by decide)
noncomputable def dvA := And.intro @dv2 (And.intro @dv3 (And.intro @dv5 (And.intro @dv8 (And.intro @dv10 (And.intro @dv35 (And.intro @dv50 (And.intro @dv64 (And.intro @dv97 (And.intro @dv150 (And.intro @dv280 (And.intro @dv1664 (And.intro @dv43264 (And.intro @md2 (And.intro @md3 (And.intro @md4 (And.intro @md5 (And.intro @md6 (And.intro @md7 (And.intro @md8 (And.intro @md9 (And.intro @md26 (And.intro @md2147483647 (And.intro @ml2 (And.intro @ml3 (And.intro @mr48271 (And.intro @sz0 (And.intro @sz1 (And.intro @sz2 (And.intro @sz3 (@sz5))))))))))))))))))))))))))))))
noncomputable def liA := And.intro @List.map_cons.{0, 0} (And.intro @List.map_nil.{0, 0} (And.intro @List.length_cons.{0} (And.intro @List.length_nil.{0} (And.intro @List.cons_append.{0} (And.intro @List.nil_append.{0} (And.intro @List.getElem?_cons_zero.{0} (And.intro @List.getElem?_cons_succ.{0} (And.intro @List.set_cons_zero.{0} (And.intro @List.set_cons_succ.{0} (And.intro @List.any_cons.{0} (And.intro @List.any_nil.{0} (And.intro @Option.bind_some.{0, 0} (And.intro @Option.bind_none.{0, 0} (And.intro @Option.map_some.{0, 0} (And.intro @Nat.zero_add (And.intro @Bool.not_true (And.intro @Bool.not_false (And.intro @Bool.and_true (And.intro @Bool.true_and (And.intro @Bool.or_false (And.intro @Bool.false_or (And.intro @Bool.and_false (And.intro @Bool.false_and (@List.length_map.{0, 0}))))))))))))))))))))))))
local macro_rules | `(tactic| walk_at "mir") => `(tactic| (try simp (implicitDefEqProofs := false) only [mDef, startE, mSeq, mIf, mSet, mRet_eq, mRetV_eq, mNext, mForget, forgetE, mFreeze, freeze_eq, mFor, mRaise, mVar_eq, mC, mOp, mUn, mNil, mCons, mCB, mTup, mLst, mDNew, mAndV, mNotV, mTest, mNotT, mAndT, mOrT, mTrue, mIfE, mChain, mNoPart, mPart, mSl, mBM, mDGet, mDIn, mComp, mCall, mCallN, mF, mFCons, mFNil, mIsI, mItL, mItT, mItS, mItD, mItQ, mFrzE, frzD, seqT, bind_ok, ofO_some, noEr_ok, of_ok, seq_nx, seq_rt, out_fz, out_ow, setX_fz, setX_ow, t_fz, t_ow, t_bo, t_l, t_d, dur_fz, dur_ow, b_bl, mapE_nx, rdV, rtV, frV, XV.scal, XV.isBo, T.scal, durs, gN, gT, gsC, gsN, T.isStr, T.key, oEq, oNe, addE, subE, ltE, leE, gtE, geE, oNeg, oLen, oAll, oInt, oTuple, isT, tyN, nxL, nxS, fDGet, fDIn, List.replicate, Nat.reduceAdd, Nat.reduceSub, ite_true, ite_false, if_true, if_false, Bool.false_eq_true, reduceCtorEq, decide_true, decide_false, decide_eq_true_eq, Bool.true_eq_false, String.reduceEq, and_true, true_and, and_self, dvA, liA]))
noncomputable def cellI (ns : List Int) (k : Nat) : Int := ns.getD k 0
theorem cell_ok (ns : List Int) (k : Nat) : m__law_cell [.lst (ns.map T.int), .int (k : Int)] = .ok (.fz (.int (cellI ns k))) := by
  unfold m__law_cell mb__law_cell
  walk_at "mir"
  unfold cellI
  by_cases h : (k : Int) < ns.length
  · simp only [h, if_true, oIxL, atI_map]
    rw [atI_nat (List.getElem?_eq_getElem (by omega))]
    walk_at "mir"
    simp [List.getD, List.getElem?_eq_getElem (show k < ns.length by omega)]
  · simp only [h, if_false]
    walk_at "mir"
    simp [List.getD, List.getElem?_eq_none (show ns.length ≤ k by omega)]
noncomputable def letters : Str := "abcdefghijklmnopqrstuvwxyz"
noncomputable def let1 (i : Int) : Str := ⟨#[(atI letters.cps.toList (i % 26)).getD 0]⟩
theorem let_at (i : Int) : ∃ c, atI letters.cps.toList (i % 26) = some c ∧ 97 ≤ c ∧ c ≤ 122 ∧ c = 97 + (i % 26).toNat := by
  obtain ⟨h0, h1⟩ := mod_lt' i (show (0 : Int) < 26 by decide)
  obtain ⟨j, hj⟩ := Int.eq_ofNat_of_zero_le h0
  rw [hj] at h1 ⊢
  have hl : letters.cps.toList.length = 26 := by decide +kernel
  have all : ∀ j : Fin 26, letters.cps.toList[j.val]? = some (97 + j.val) := by decide +kernel
  have hj' : j < 26 := by omega
  refine ⟨97 + j, atI_nat (all ⟨j, hj'⟩), by omega, by omega, by simp⟩
theorem ix_let (i : Int) : oIxS (.str "abcdefghijklmnopqrstuvwxyz") (.int (i % 26)) = some (.fz (.str (let1 i))) := by
  obtain ⟨c, h, _⟩ := let_at i
  simp only [oIxS]
  rw [if_pos (by decide +kernel), show atI (Str.ofString "abcdefghijklmnopqrstuvwxyz").cps.toList (i % 26) = some c from h]
  unfold let1
  rw [h]
  rfl
theorem let1_len (i : Int) : (let1 i).length = 1 := rfl
noncomputable def seedI (c : Int) : Int := c * 48271 % 2147483647
noncomputable def longI (c : Int) : Int := if seedI c / 43264 % 3 = 0 then 1 else 0
noncomputable def sizeI (c : Int) : Int := 1 + seedI c % (8 - longI c)
noncomputable def placeI (c : Int) : Int := seedI c / 8 % sizeI c
noncomputable def restS (c : Int) : Str := let1 (seedI c / 64)
noncomputable def baseS (c k : Int) : Str := Txt.mul (restS c) (placeI c) ++ let1 (seedI c / 1664 + 3 * k) ++ Txt.mul (restS c) (sizeI c - placeI c - 1)
noncomputable def nmS (c : Int) (k : Nat) : Str := if longI c = 1 ∧ k % 2 = 1 then baseS c ((k : Int) - 1) ++ restS c else baseS c k
noncomputable def namesS (c : Int) (n : Nat) : List Str := (List.range n).map (nmS c)
theorem long_01 (c : Int) : longI c = 0 ∨ longI c = 1 := by unfold longI; split <;> simp
theorem size_18 (c : Int) : 1 ≤ sizeI c ∧ sizeI c ≤ 8 - longI c := by
  have := long_01 c
  have := mod_lt' (seedI c) (show 0 < 8 - longI c by omega)
  unfold sizeI
  omega
theorem place_lt (c : Int) : 0 ≤ placeI c ∧ placeI c < sizeI c := mod_lt' _ (by have := size_18 c; omega)
theorem mul_len (i n : Int) : (Txt.mul (let1 i) n).length = n.toNat := by
  have h := PyProof.Rows.mul_one_list ((atI letters.cps.toList (i % 26)).getD 0) n
  have := congrArg List.length h
  rw [List.length_replicate] at this
  rw [← this]
  simp [Str.length, let1]
theorem base_len (c k : Int) : ((baseS c k).length : Int) = sizeI c := by
  unfold baseS restS
  rw [strLen_append, strLen_append, mul_len, mul_len, let1_len]
  have := size_18 c
  have := place_lt c
  omega
theorem nm_len (c : Int) (k : Nat) : 1 ≤ (nmS c k).length ∧ (nmS c k).length ≤ 8 := by
  have h1 := base_len c ((k : Int) - 1)
  have h2 := base_len c k
  have h3 := size_18 c
  have h4 := long_01 c
  unfold nmS
  split
  · rename_i h
    rw [strLen_append, show (restS c).length = 1 from rfl]
    omega
  · omega
theorem mulS_ok (i n : Int) (h0 : -1000 ≤ n) (h1 : n ≤ 1000) : oMulS (.str (let1 i)) (.int n) = some (.fz (.str (Txt.mul (let1 i) n))) := by
  simp only [oMulS]
  rw [if_pos ⟨by rw [let1_len]; decide, h1, h0⟩]
theorem addS_ok (x y : Str) (h : x.length + y.length ≤ 1000) : oAddS (.str x) (.str y) = some (.fz (.str (x ++ y))) := by
  simp only [oAddS]
  rw [if_pos (by have := hsl; omega)]
theorem names_len (c : Int) (n : Nat) : (namesS c n).length = n := by unfold namesS; simp
noncomputable def namesBody : MS := (mForget [9, 10] (mSeq (mSet 10 (mOp oIxS (mVar 2) (mOp oMod (mOp oAdd (mOp oDiv (mVar 3) (mC (.int 1664))) (mOp oMul (mC (.int 3)) (mVar 9))) (mC (.int 26)))))
      (mSeq (mMut uappend 8 (mCons (mOp oAddS (mOp oAddS (mOp oMulS (mVar 7) (mVar 6)) (mVar 10)) (mOp oMulS (mVar 7) (mOp oSub (mOp oSub (mVar 5) (mVar 6)) (mC (.int 1))))) mNil))
      (mIf (mAndT (mTest (mOp oEq (mVar 4) (mC (.int 1)))) (mTest (mOp oEq (mOp oMod (mVar 9) (mC (.int 2))) (mC (.int 1))))) (mSetItem 8 (mVar 9) (mOp oAddS (mOp oIxL (mVar 8) (mOp oSub (mVar 9) (mC (.int 1)))) (mVar 7))) mNext))))
theorem names_succ (c : Int) (i : Nat) : namesS c (i + 1) = namesS c i ++ [nmS c i] := by
  unfold namesS
  rw [List.range_succ, List.map_append]
  rfl
theorem names_turn (c : Int) (n i : Nat) (hi : i ≤ 100) : namesBody [.fz (.int c), .fz (.int (n : Int)), .fz (.str "abcdefghijklmnopqrstuvwxyz"), .fz (.int (seedI c)), .fz (.int (longI c)), .fz (.int (sizeI c)), .fz (.int (placeI c)), .fz (.str (restS c)), .ow (.l ((namesS c i).map T.str)), .fz (.int (0 + (i : Int))), .un] =
    .nx [.fz (.int c), .fz (.int (n : Int)), .fz (.str "abcdefghijklmnopqrstuvwxyz"), .fz (.int (seedI c)), .fz (.int (longI c)), .fz (.int (sizeI c)), .fz (.int (placeI c)), .fz (.str (restS c)), .ow (.l ((namesS c (i + 1)).map T.str)), .un, .un] := by
  have hs := hsl
  have hsz := size_18 c
  have hpl := place_lt c
  have hlo := long_01 c
  rw [Int.zero_add]
  have hb : oAddS (.str (Txt.mul (restS c) (placeI c))) (.str (let1 (seedI c / 1664 + 3 * i))) = some (.fz (.str (Txt.mul (restS c) (placeI c) ++ let1 (seedI c / 1664 + 3 * i)))) := addS_ok _ _ (by unfold restS; rw [mul_len, let1_len]; omega)
  have hb2 : oAddS (.str (Txt.mul (restS c) (placeI c) ++ let1 (seedI c / 1664 + 3 * i))) (.str (Txt.mul (restS c) (sizeI c - placeI c - 1))) = some (.fz (.str (baseS c i))) := addS_ok _ _ (by unfold restS; rw [strLen_append, mul_len, mul_len, let1_len]; omega)
  have hm1 : oMulS (.str (restS c)) (.int (placeI c)) = some (.fz (.str (Txt.mul (restS c) (placeI c)))) := mulS_ok _ _ (by omega) (by omega)
  have hm2 : oMulS (.str (restS c)) (.int (sizeI c - placeI c - 1)) = some (.fz (.str (Txt.mul (restS c) (sizeI c - placeI c - 1)))) := mulS_ok _ _ (by omega) (by omega)
  unfold namesBody
  walk_at "mir"
  rw [ix_let]
  walk_at "mir"
  rw [mMut_at (ts := (namesS c i).map T.str) rfl]
  walk_at "mir"
  rw [hm1, hm2]
  walk_at "mir"
  rw [hb]
  walk_at "mir"
  rw [hb2]
  walk_at "mir"
  have l1 : ((namesS c i).map T.str).length < sizeLine := by rw [List.length_map, names_len]; omega
  simp only [uappend, if_pos l1]
  walk_at "mir"
  rw [names_succ, List.map_append]
  by_cases h : longI c = 1
  · simp only [h, if_true]
    walk_at "mir"
    by_cases h2 : (i : Int) % 2 = 1
    · simp only [h2, if_true]
      walk_at "mir"
      have en : nmS c i = baseS c ((i : Int) - 1) ++ restS c := by unfold nmS; rw [if_pos ⟨h, by omega⟩]
      have hpre : (namesS c i)[i - 1]? = some (nmS c (i - 1)) := by unfold namesS; rw [List.getElem?_map, List.getElem?_range (by omega)]; rfl
      have ep : nmS c (i - 1) = baseS c ((i : Int) - 1) := by
        unfold nmS
        rw [if_neg (by omega)]
        congr 1
        omega
      rw [mSetItem_at (ts := (namesS c i).map T.str ++ [T.str (baseS c i)]) (n := (i : Int)) (x := .fz (.str (nmS c i))) (y := .fz (.int (i : Int))) (t := .str (nmS c i)) rfl ?_ rfl rfl rfl]
      · have e2 : ixN ((namesS c i).map T.str ++ [T.str (baseS c i)]).length (i : Int) = some i := by
          unfold ixN
          rw [List.length_append, List.length_map, names_len, List.length_singleton, if_pos (by omega), if_pos (by omega)]
          simp
        rw [e2]
        walk_at "mir"
        rw [List.set_append_right (h := by rw [List.length_map, names_len]; omega), List.length_map, names_len, Nat.sub_self]
        rfl
      · walk_at "mir"
        have e3 : atI ((namesS c i).map T.str ++ [T.str (baseS c i)]) ((i : Int) - 1) = some (.str (baseS c ((i : Int) - 1))) := by
          have hc : ((i - 1 : Nat) : Int) = (i : Int) - 1 := by omega
          have := atI_nat (xs := (namesS c i).map T.str ++ [T.str (baseS c i)]) (j := i - 1) (v := .str (baseS c ((i : Int) - 1))) (by rw [List.getElem?_append_left (by rw [List.length_map, names_len]; omega), List.getElem?_map, hpre, ep]; rfl)
          rw [hc] at this
          exact this
        simp only [oIxL, e3]
        walk_at "mir"
        rw [addS_ok _ _ (by have := base_len c ((i : Int) - 1); rw [show (restS c).length = 1 from rfl]; omega), en]
        walk_at "mir"
    · simp only [h2, if_false]
      walk_at "mir"
      have en : nmS c i = baseS c i := by unfold nmS; rw [if_neg (by omega)]
      rw [en]
  · simp only [h, if_false]
    walk_at "mir"
    have en : nmS c i = baseS c i := by unfold nmS; rw [if_neg (by omega)]
    rw [en]
theorem names_ok (c : Int) (n : Nat) (hn : n ≤ 26) : m__law_names [.int c, .int (n : Int)] = .ok (.ow (.l ((namesS c n).map T.str))) := by
  have hs := hsl
  have hsz := size_18 c
  have hpl := place_lt c
  have hlo := long_01 c
  unfold m__law_names mb__law_names
  walk_at "mir"
  rw [show (if c * 48271 % 2147483647 / 43264 % 3 = 0 then (1 : Int) else 0) = longI c from rfl]
  rw [mod_pos (show 0 < 8 - longI c by omega)]
  walk_at "mir"
  rw [show c * 48271 % 2147483647 = seedI c from rfl, show 1 + seedI c % (8 - longI c) = sizeI c from rfl]
  rw [mod_pos (show 0 < sizeI c by omega)]
  walk_at "mir"
  rw [show seedI c / 8 % sizeI c = placeI c from rfl, ix_let]
  walk_at "mir"
  rw [show let1 (seedI c / 64) = restS c from rfl]
  rw [itR1_nat (n := n) rfl rfl (by omega)]
  walk_at "mir"
  have hl := loop_range (mg := gN 9) (mb := namesBody) (fun i => [.fz (.int c), .fz (.int (n : Int)), .fz (.str "abcdefghijklmnopqrstuvwxyz"), .fz (.int (seedI c)), .fz (.int (longI c)), .fz (.int (sizeI c)), .fz (.int (placeI c)), .fz (.str (restS c)), .ow (.l ((namesS c i).map T.str)), .un, .un]) n (fun i hi => ⟨_, rfl, .inl (names_turn c n i (by omega))⟩)
  unfold namesBody at hl
  rw [show (namesS c 0).map T.str = [] from rfl] at hl
  rw [hl]
  walk_at "mir"
noncomputable def lenI (c : Int) : Int := if 0 < c % 3 then 1 + c / 3 % 9 else 1 + c / 3 % 10 ^ 30 * 48271 ^ 11 % (10 ^ 60 - 1)
theorem pow_ok (i j : Nat) (hi : i < 100000) (hj : j ≤ 1000) : oPow (.int i) (.int j) = some (.fz (.int ((i : Int) ^ j))) := by
  show (if CPow i j then some (XV.fz (T.int ((i : Int) ^ (j : Int).toNat))) else none) = _
  rw [if_pos ⟨by omega, by omega, by simp; omega⟩, Int.toNat_natCast]
theorem p1030 : oPow (.int 10) (.int 30) = some (.fz (.int (10 ^ 30))) := pow_ok 10 30 (by decide) (by decide)
theorem p1060 : oPow (.int 10) (.int 60) = some (.fz (.int (10 ^ 60))) := pow_ok 10 60 (by decide) (by decide)
theorem p48 : oPow (.int 48271) (.int 11) = some (.fz (.int (48271 ^ 11))) := pow_ok 48271 11 (by decide) (by decide)
theorem length_ok (c : Int) : m__law_length [.int c] = .ok (.fz (.int (lenI c))) := by
  unfold m__law_length mb__law_length
  have h1 : (0 : Int) < 10 ^ 30 := by decide
  have h2 : (0 : Int) < 10 ^ 60 - 1 := by decide
  obtain ⟨a1, a2⟩ := mod_lt' (c / 3) h1
  have hm : oMulB (.int (c / 3 % 10 ^ 30)) (.int (48271 ^ 11)) = some (.fz (.int (c / 3 % 10 ^ 30 * 48271 ^ 11))) := by
    show (if CMulB _ _ then some (XV.fz (T.int _)) else none) = _
    have h3 : (10 : Int) ^ 30 < 2 ^ 1000 := by decide
    have h4 : CMulB (c / 3 % 10 ^ 30) (48271 ^ 11) := ⟨by omega, by decide⟩
    rw [if_pos h4]
  walk_at "mir"
  unfold lenI
  by_cases h : 0 < c % 3
  · simp only [h, if_true]
    walk_at "mir"
  · simp only [h, if_false]
    walk_at "mir"
    rw [p1030, p1060, p48]
    walk_at "mir"
    rw [mod_pos h1]
    walk_at "mir"
    rw [hm]
    walk_at "mir"
    rw [mod_pos h2]
    walk_at "mir"
structure Street where
  name : Str
  first : Str
  second : Str
  len : Int
  ways : Int
noncomputable def Street.t (s : Street) : T := .tup [.str s.name, .str s.first, .str s.second, .int s.len, .int s.ways]
noncomputable def at0 (xs : List Str) (i : Int) : Str := (atI xs i).getD ""
noncomputable def wayI (c : Int) : Int := 1 + (if 0 < c / 50 % 3 then 1 else 0)
noncomputable def streetS (ns : List Int) (cs nms : List Str) (k : Nat) : Street :=
  let c := cellI ns (6 + 2 * k)
  { name := at0 nms k
    first := if c % 2 = 1 then at0 cs (c / 2 % cs.length) else at0 cs ((k : Int) % cs.length)
    second := if c % 2 = 1 then at0 cs (c / 10 % cs.length) else at0 cs (((k : Int) + 1) % cs.length)
    len := lenI (cellI ns (7 + 2 * k))
    ways := wayI c }
noncomputable def streetsS (ns : List Int) (cs nms : List Str) : Nat → List Street
  | 0 => []
  | k + 1 => let p := (cellI ns (6 + 2 * k) / 150 % ((k : Int) + 1)).toNat
    (streetsS ns cs nms k).take p ++ streetS ns cs nms k :: (streetsS ns cs nms k).drop p
theorem streets_len (ns : List Int) (cs nms : List Str) : ∀ k, (streetsS ns cs nms k).length = k
  | 0 => rfl
  | k + 1 => by
    show ((streetsS ns cs nms k).take _ ++ streetS ns cs nms k :: (streetsS ns cs nms k).drop _).length = _
    rw [List.length_append, List.length_cons, List.length_take, List.length_drop, streets_len ns cs nms k]
    omega
theorem ix_at0 (xs : List Str) (i : Int) (h0 : 0 ≤ i) (h1 : i < xs.length) : oIxL (.lst (xs.map T.str)) (.int i) = some (.fz (.str (at0 xs i))) := by
  simp only [oIxL, atI_map]
  unfold at0
  rw [atI_some h0 h1]
  rfl
noncomputable def streetsBody : MS := (mForget [4, 5, 6, 7, 8, 9] (mSeq (mSet 5 (mCall 2 m__law_cell (mCons (mVar 0) (mCons (mOp oAdd (mC (.int 6)) (mOp oMul (mC (.int 2)) (mVar 4))) mNil))))
      (mSeq (mSet 6 (mOp oIxL (mVar 1) (mOp oMod (mVar 4) (mCB oLen (mCons (mVar 1) mNil)))))
      (mSeq (mSet 7 (mOp oIxL (mVar 1) (mOp oMod (mOp oAdd (mVar 4) (mC (.int 1))) (mCB oLen (mCons (mVar 1) mNil)))))
      (mSeq (mIf (mTest (mOp oEq (mOp oMod (mVar 5) (mC (.int 2))) (mC (.int 1)))) (mSeq (mSet 6 (mOp oIxL (mVar 1) (mOp oMod (mOp oDiv (mVar 5) (mC (.int 2))) (mCB oLen (mCons (mVar 1) mNil)))))
      (mSet 7 (mOp oIxL (mVar 1) (mOp oMod (mOp oDiv (mVar 5) (mC (.int 10))) (mCB oLen (mCons (mVar 1) mNil)))))) mNext)
      (mSeq (mSet 8 (mCall 1 m__law_length (mCons (mCall 2 m__law_cell (mCons (mVar 0) (mCons (mOp oAdd (mC (.int 7)) (mOp oMul (mC (.int 2)) (mVar 4))) mNil))) mNil)))
      (mSeq (mSet 9 (mTup (mCons (mOp oIxL (mVar 2) (mVar 4)) (mCons (mVar 6) (mCons (mVar 7) (mCons (mVar 8) (mCons (mOp oAdd (mC (.int 1)) (mCB oInt (mCons (mOp oGt (mOp oMod (mOp oDiv (mVar 5) (mC (.int 50))) (mC (.int 3))) (mC (.int 0))) mNil))) mNil)))))))
      (mMut uinsert 3 (mCons (mOp oMod (mOp oDiv (mVar 5) (mC (.int 150))) (mOp oAdd (mCB oLen (mCons (mVar 3) mNil)) (mC (.int 1)))) (mCons (mVar 9) mNil))))))))))
theorem cell_ok' (ns : List Int) (a b : Nat) (k : Nat) : m__law_cell [.lst (ns.map T.int), .int ((a : Int) + (b : Int) * (k : Int))] = .ok (.fz (.int (cellI ns (a + b * k)))) := by
  have := cell_ok ns (a + b * k)
  rw [Int.natCast_add, Int.natCast_mul] at this
  exact this
theorem streets_turn (ns : List Int) (cs nms : List Str) (hc : 0 < cs.length) (k : Nat) (hk : k < nms.length) (hn : nms.length ≤ 100) :
    streetsBody [.fz (.lst (ns.map T.int)), .fz (.lst (cs.map T.str)), .fz (.lst (nms.map T.str)), .ow (.l ((streetsS ns cs nms k).map Street.t)), .fz (.int (0 + (k : Int))), .un, .un, .un, .un, .un] =
    .nx [.fz (.lst (ns.map T.int)), .fz (.lst (cs.map T.str)), .fz (.lst (nms.map T.str)), .ow (.l ((streetsS ns cs nms (k + 1)).map Street.t)), .un, .un, .un, .un, .un, .un] := by
  have hs := hsl
  rw [Int.zero_add]
  have hcl : (0 : Int) < (cs.length : Int) := by omega
  have c1 := cell_ok' ns 6 2 k
  have c2 := cell_ok' ns 7 2 k
  have c1 : m__law_cell [.lst (ns.map T.int), .int (6 + 2 * (k : Int))] = .ok (.fz (.int (cellI ns (6 + 2 * k)))) := c1
  have c2 : m__law_cell [.lst (ns.map T.int), .int (7 + 2 * (k : Int))] = .ok (.fz (.int (cellI ns (7 + 2 * k)))) := c2
  have ix : ∀ i : Int, oIxL (.lst (cs.map T.str)) (.int (i % (cs.length : Int))) = some (.fz (.str (at0 cs (i % (cs.length : Int))))) := fun i => ix_at0 _ _ (mod_lt' i hcl).1 (mod_lt' i hcl).2
  unfold streetsBody
  walk_at "mir"
  rw [c1]
  walk_at "mir"
  rw [mod_pos hcl]
  walk_at "mir"
  rw [ix]
  walk_at "mir"
  rw [mod_pos hcl]
  walk_at "mir"
  rw [ix]
  walk_at "mir"
  rw [mod_pos hcl]
  walk_at "mir"
  rw [ix]
  walk_at "mir"
  rw [mod_pos hcl]
  walk_at "mir"
  rw [ix]
  walk_at "mir"
  have e1 : (if cellI ns (6 + 2 * k) % 2 = 1 then So.nx [EV.fz (T.lst (List.map T.int ns)), EV.fz (T.lst (List.map T.str cs)), EV.fz (T.lst (List.map T.str nms)), EV.ow (Ow.l (List.map Street.t (streetsS ns cs nms k))), EV.fz (T.int ↑k), EV.fz (T.int (cellI ns (6 + 2 * k))), EV.fz (T.str (at0 cs (cellI ns (6 + 2 * k) / 2 % ↑cs.length))), EV.fz (T.str (at0 cs (cellI ns (6 + 2 * k) / 10 % ↑cs.length))), EV.un, EV.un]
      else So.nx [EV.fz (T.lst (List.map T.int ns)), EV.fz (T.lst (List.map T.str cs)), EV.fz (T.lst (List.map T.str nms)), EV.ow (Ow.l (List.map Street.t (streetsS ns cs nms k))), EV.fz (T.int ↑k), EV.fz (T.int (cellI ns (6 + 2 * k))), EV.fz (T.str (at0 cs (↑k % ↑cs.length))), EV.fz (T.str (at0 cs ((↑k + 1) % ↑cs.length))), EV.un, EV.un]) =
      So.nx [EV.fz (T.lst (List.map T.int ns)), EV.fz (T.lst (List.map T.str cs)), EV.fz (T.lst (List.map T.str nms)), EV.ow (Ow.l (List.map Street.t (streetsS ns cs nms k))), EV.fz (T.int ↑k), EV.fz (T.int (cellI ns (6 + 2 * k))), EV.fz (T.str (streetS ns cs nms k).first), EV.fz (T.str (streetS ns cs nms k).second), EV.un, EV.un] := by
    unfold streetS
    by_cases h : cellI ns (6 + 2 * k) % 2 = 1
    · simp only [if_pos h]
    · simp only [if_neg h]
  rw [e1]
  walk_at "mir"
  rw [c2]
  walk_at "mir"
  rw [length_ok]
  walk_at "mir"
  rw [ix_at0 nms k (by omega) (by omega)]
  walk_at "mir"
  rw [mMut_at (ts := (streetsS ns cs nms k).map Street.t) rfl]
  walk_at "mir"
  rw [streets_len, mod_pos (show (0 : Int) < (k : Int) + 1 by omega)]
  walk_at "mir"
  obtain ⟨m1, m2⟩ := mod_lt' (cellI ns (6 + 2 * k) / 150) (show (0 : Int) < (k : Int) + 1 by omega)
  simp only [uinsert]
  rw [if_pos ⟨m1, by omega, by rw [List.length_map, streets_len]; omega⟩]
  walk_at "mir"
  rw [← List.map_take, ← List.map_drop]
  have e2 : T.tup [.str (at0 nms k), .str (streetS ns cs nms k).first, .str (streetS ns cs nms k).second, .int (lenI (cellI ns (7 + 2 * k))), .int (1 + if 0 < cellI ns (6 + 2 * k) / 50 % 3 then 1 else 0)] = (streetS ns cs nms k).t := rfl
  rw [e2, ← List.map_cons, ← List.map_append]
  rfl
theorem streets_ok (ns : List Int) (cs nms : List Str) (hc : 0 < cs.length) (hn : nms.length ≤ 100) :
    m__law_streets [.lst (ns.map T.int), .lst (cs.map T.str), .lst (nms.map T.str)] = .ok (.ow (.l ((streetsS ns cs nms nms.length).map Street.t))) := by
  unfold m__law_streets mb__law_streets
  walk_at "mir"
  rw [itR1_nat (n := nms.length) rfl (show (XV.fz (T.int ((nms.map T.str).length : Int))).t = T.int (nms.length : Int) by rw [List.length_map]; rfl) (by omega)]
  walk_at "mir"
  have hl := loop_range (mg := gN 4) (mb := streetsBody) (fun i => [.fz (.lst (ns.map T.int)), .fz (.lst (cs.map T.str)), .fz (.lst (nms.map T.str)), .ow (.l ((streetsS ns cs nms i).map Street.t)), .un, .un, .un, .un, .un, .un]) nms.length (fun i hi => ⟨_, rfl, .inl (streets_turn ns cs nms hc i hi hn)⟩)
  unfold streetsBody at hl
  rw [show (streetsS ns cs nms 0).map Street.t = [] from rfl] at hl
  rw [hl]
  walk_at "mir"
noncomputable abbrev Arc := Str × Str × Int
noncomputable def arcT (a : Arc) : T := .tup [.str a.1, .str a.2.1, .int a.2.2]
noncomputable def encA (A : List (Str × Arc)) : List (Key × T) := A.map fun p => (Sum.inr p.1, arcT p.2)
noncomputable def putA (A : List (Str × Arc)) (n : Str) (v : Arc) : List (Str × Arc) := if (A.any fun p => decide (p.1 = n)) = true then A.map (fun p => if p.1 = n then (p.1, v) else p) else A ++ [(n, v)]
noncomputable def lookA (A : List (Str × Arc)) (n : Str) : Option Arc := (A.find? fun p => decide (p.1 = n)).map (·.2)
theorem dec_inr (a b : Str) : decide ((Sum.inr a : Key) = Sum.inr b) = decide (a = b) := by
  by_cases h : a = b
  · subst h; simp
  · rw [decide_eq_false h, decide_eq_false (fun z => h (Sum.inr.inj z))]
theorem put_enc (A : List (Str × Arc)) (n : Str) (v : Arc) : dPut (encA A) (Sum.inr n) (arcT v) = encA (putA A n v) := by
  unfold dPut putA encA
  have h1 : ((A.map fun p => ((Sum.inr p.1 : Key), arcT p.2)).any fun kv => decide (kv.1 = Sum.inr n)) = A.any fun p => decide (p.1 = n) := by
    rw [List.any_map]
    congr 1
    funext p
    exact dec_inr p.1 n
  rw [h1]
  split
  · rw [List.map_map, List.map_map]
    apply List.map_congr_left
    intro p _
    show (if (Sum.inr p.1 : Key) = Sum.inr n then ((Sum.inr p.1 : Key), arcT v) else (Sum.inr p.1, arcT p.2)) = ((Sum.inr (if p.1 = n then (p.1, v) else p).1 : Key), arcT (if p.1 = n then (p.1, v) else p).2)
    by_cases h : p.1 = n
    · rw [if_pos (by rw [h]), if_pos h]
    · rw [if_neg (fun z => h (Sum.inr.inj z)), if_neg h]
  · rw [List.map_append]; rfl
theorem put_len (A : List (Str × Arc)) (n : Str) (v : Arc) : (putA A n v).length ≤ A.length + 1 := by
  unfold putA
  split
  · rw [List.length_map]; omega
  · rw [List.length_append, List.length_singleton]; omega
theorem enc_len (A : List (Str × Arc)) : (encA A).length = A.length := by unfold encA; simp
noncomputable def ksA (A : List (Str × Arc)) : List Key := A.map fun p => Sum.inr p.1
noncomputable def tsA (A : List (Str × Arc)) : List T := A.map fun p => arcT p.2
theorem enc_ks (A : List (Str × Arc)) : (encA A).map (·.1) = ksA A := by unfold encA ksA; rw [List.map_map]; rfl
theorem enc_ts (A : List (Str × Arc)) : (encA A).map (·.2) = tsA A := by unfold encA tsA; rw [List.map_map]; rfl
theorem look_enc (A : List (Str × Arc)) (n : Str) : dLook (ksA A) (tsA A) (Sum.inr n) = (lookA A n).map arcT := by
  unfold dLook lookA ksA tsA
  induction A with
  | nil => rfl
  | cons p A ih =>
    rw [List.map_cons, List.map_cons, List.zip_cons_cons, List.find?_cons, List.find?_cons]
    show Option.map _ (match decide ((Sum.inr p.1 : Key) = Sum.inr n) with | true => _ | false => _) = _
    rw [dec_inr]
    cases decide (p.1 = n) with
    | true => rfl
    | false => exact ih
theorem key_items (A : List (Str × Arc)) : (ksA A).map keyT = (A.map (·.1)).map T.str := by unfold ksA; rw [List.map_map, List.map_map]; rfl
noncomputable def stepA (A : List (Str × Arc)) (s : Street) : List (Str × Arc) :=
  let A1 := putA A (s.name ++ ">") (s.first, s.second, s.len)
  if s.ways = 2 then putA A1 (s.name ++ "<") (s.second, s.first, s.len) else A1
noncomputable def arcsS (ss : List Street) : List (Str × Arc) := ss.foldl stepA []
theorem step_len (A : List (Str × Arc)) (s : Street) : (stepA A s).length ≤ A.length + 2 := by
  have h1 := put_len A (s.name ++ ">") (s.first, s.second, s.len)
  have h2 := put_len (putA A (s.name ++ ">") (s.first, s.second, s.len)) (s.name ++ "<") (s.second, s.first, s.len)
  unfold stepA
  simp only
  split <;> omega
theorem arcs_len (ss : List Street) : (arcsS ss).length ≤ 2 * ss.length := by
  have gen : ∀ (ss : List Street) (A : List (Str × Arc)), (ss.foldl stepA A).length ≤ A.length + 2 * ss.length := by
    intro ss
    induction ss with
    | nil => intro A; simp
    | cons s ss ih =>
      intro A
      rw [List.foldl_cons, List.length_cons]
      have := ih (stepA A s)
      have := step_len A s
      omega
  have := gen ss []
  simpa [arcsS] using this
def SOk (s : Street) : Prop := s.name.length ≤ 100 ∧ s.first.length ≤ 100 ∧ s.second.length ≤ 100
noncomputable def arcsBody : MS := (mForget [2, 3, 4, 5, 6] (mSeq (mDPut 1 (mOp oAddS (mVar 2) (mC (.str ">"))) (mTup (mCons (mVar 3) (mCons (mVar 4) (mCons (mVar 5) mNil)))))
      (mIf (mTest (mOp oEq (mVar 6) (mC (.int 2)))) (mDPut 1 (mOp oAddS (mVar 2) (mC (.str "<"))) (mTup (mCons (mVar 4) (mCons (mVar 3) (mCons (mVar 5) mNil))))) mNext)))
noncomputable def coursesBody : MS := (mForget [2, 3, 4, 5, 6] (mSeq (mDPut 1 (mF (mFCons (mUn oFmtS (mVar 2)) (mFCons (mC (.str ">")) mFNil))) (mTup (mCons (mVar 3) (mCons (mVar 4) (mCons (mVar 5) mNil)))))
      (mIf (mTest (mOp oEq (mVar 6) (mC (.int 2)))) (mDPut 1 (mF (mFCons (mUn oFmtS (mVar 2)) (mFCons (mC (.str "<")) mFNil))) (mTup (mCons (mVar 4) (mCons (mVar 3) (mCons (mVar 5) mNil))))) mNext)))
theorem gt_len : (">" : Str).length = 1 := by decide +kernel
theorem lt_len : ("<" : Str).length = 1 := by decide +kernel
theorem tgt5 (a b c d e : EV) (x : EV) (dd : EV) (s : Street) : gT 5 (gsC (gN 2) (gsC (gN 3) (gsC (gN 4) (gsC (gN 5) (gsC (gN 6) gsN))))) s.t [x, dd, a, b, c, d, e] = some [x, dd, .fz (.str s.name), .fz (.str s.first), .fz (.str s.second), .fz (.int s.len), .fz (.int s.ways)] := rfl
theorem arcs_turn (x : EV) (A : List (Str × Arc)) (s : Street) (h : SOk s) (hA : A.length ≤ 1000) : arcsBody [x, .ow (.d (encA A)), .fz (.str s.name), .fz (.str s.first), .fz (.str s.second), .fz (.int s.len), .fz (.int s.ways)] = .nx [x, .ow (.d (encA (stepA A s))), .un, .un, .un, .un, .un] := by
  have hs := hsl
  have h1 := h.1
  have l1 := put_len A (s.name ++ ">") (s.first, s.second, s.len)
  unfold arcsBody
  walk_at "mir"
  rw [mDPut_at (kvs := encA A) (k := Sum.inr (s.name ++ ">")) (x := .fz (arcT (s.first, s.second, s.len))) (y := .fz (.str (s.name ++ ">"))) (t := arcT (s.first, s.second, s.len)) rfl ?_ ?_ rfl rfl (by rw [enc_len]; omega), put_enc]
  · walk_at "mir"
    unfold stepA
    by_cases h2 : s.ways = 2
    · simp only [h2, if_true]
      rw [mDPut_at (kvs := encA (putA A (s.name ++ ">") (s.first, s.second, s.len))) (k := Sum.inr (s.name ++ "<")) (x := .fz (arcT (s.second, s.first, s.len))) (y := .fz (.str (s.name ++ "<"))) (t := arcT (s.second, s.first, s.len)) rfl ?_ ?_ rfl rfl (by rw [enc_len]; omega), put_enc]
      · walk_at "mir"
      · walk_at "mir"; rfl
      · walk_at "mir"; rw [addS_ok _ _ (by rw [lt_len]; omega)]; walk_at "mir"
    · simp only [h2, if_false]
      walk_at "mir"
  · walk_at "mir"; rfl
  · walk_at "mir"; rw [addS_ok _ _ (by rw [gt_len]; omega)]; walk_at "mir"
theorem fmt2 (n y : Str) (h : n.length + y.length ≤ 1000) (ρ : En) (i : Nat) (hi : ρ[i]? = some (.fz (.str n))) : mF (mFCons (mUn oFmtS (mVar i)) (mFCons (mC (.str y)) mFNil)) ρ = .ok (.fz (.str (n ++ y))) := by
  have hs := hsl
  have e0 : Str.empty ++ n = n := by cases n; show (⟨#[] ++ _⟩ : Str) = _; simp
  walk_at "mir"
  rw [hi]
  walk_at "mir"
  simp only [oFmtS]
  rw [if_pos (by omega)]
  walk_at "mir"
  rw [e0, if_pos (by omega), if_pos (by rw [strLen_append]; omega)]
  walk_at "mir"
  rw [if_pos (by rw [strLen_append]; omega)]
theorem courses_turn (x : EV) (A : List (Str × Arc)) (s : Street) (h : SOk s) (hA : A.length ≤ 1000) : coursesBody [x, .ow (.d (encA A)), .fz (.str s.name), .fz (.str s.first), .fz (.str s.second), .fz (.int s.len), .fz (.int s.ways)] = .nx [x, .ow (.d (encA (stepA A s))), .un, .un, .un, .un, .un] := by
  have hs := hsl
  have h1 := h.1
  have l1 := put_len A (s.name ++ ">") (s.first, s.second, s.len)
  unfold coursesBody mForget mSeq
  rw [mDPut_at (kvs := encA A) (k := Sum.inr (s.name ++ ">")) (x := .fz (arcT (s.first, s.second, s.len))) (y := .fz (.str (s.name ++ ">"))) (t := arcT (s.first, s.second, s.len)) rfl ?_ (fmt2 s.name ">" (by rw [gt_len]; omega) _ 2 rfl) rfl rfl (by rw [enc_len]; omega), put_enc]
  · unfold mIf
    walk_at "mir"
    unfold stepA
    by_cases h2 : s.ways = 2
    · simp only [h2, if_true]
      rw [mDPut_at (kvs := encA (putA A (s.name ++ ">") (s.first, s.second, s.len))) (k := Sum.inr (s.name ++ "<")) (x := .fz (arcT (s.second, s.first, s.len))) (y := .fz (.str (s.name ++ "<"))) (t := arcT (s.second, s.first, s.len)) rfl ?_ (fmt2 s.name "<" (by rw [lt_len]; omega) _ 2 rfl) rfl rfl (by rw [enc_len]; omega), put_enc]
      · walk_at "mir"
      · walk_at "mir"; rfl
    · simp only [h2, if_false]
      walk_at "mir"
  · walk_at "mir"; rfl
theorem arcs_loop (mb : MS) (turn : ∀ (x : EV) (A : List (Str × Arc)) (s : Street), SOk s → A.length ≤ 1000 → mb [x, .ow (.d (encA A)), .fz (.str s.name), .fz (.str s.first), .fz (.str s.second), .fz (.int s.len), .fz (.int s.ways)] = .nx [x, .ow (.d (encA (stepA A s))), .un, .un, .un, .un, .un]) (x : EV) : ∀ (ss : List Street) (A : List (Str × Arc)), (∀ s ∈ ss, SOk s) → A.length + 2 * ss.length ≤ 1000 →
    loop (gT 5 (gsC (gN 2) (gsC (gN 3) (gsC (gN 4) (gsC (gN 5) (gsC (gN 6) gsN)))))) mb (ss.map Street.t) [x, .ow (.d (encA A)), .un, .un, .un, .un, .un] = .nx [x, .ow (.d (encA (ss.foldl stepA A))), .un, .un, .un, .un, .un]
  | [], A, _, _ => loop_nil
  | s :: ss, A, h, hl => by
    rw [List.length_cons] at hl
    rw [List.map_cons, loop_nx (tgt5 _ _ _ _ _ x _ s) (turn x A s (h s List.mem_cons_self) (by omega)), List.foldl_cons]
    have := step_len A s
    exact arcs_loop mb turn x ss (stepA A s) (fun y hy => h y (List.mem_cons_of_mem _ hy)) (by omega)
theorem arcs_ok (t : T) (ss : List Street) (ht : seqT t = some (ss.map Street.t)) (h : ∀ s ∈ ss, SOk s) (hl : ss.length ≤ 400) : m__law_arcs [t] = .ok (.ow (.d (encA (arcsS ss)))) := by
  unfold m__law_arcs mb__law_arcs
  walk_at "mir"
  have e : seqT t = some (ss.map Street.t) := ht
  have hr := arcs_loop arcsBody arcs_turn (.fz t) ss [] h (by rw [List.length_nil]; omega)
  rw [show encA [] = [] from rfl] at hr
  unfold arcsBody at hr
  cases t with
  | lst ts =>
    cases e
    walk_at "mir"
    rw [hr]
    walk_at "mir"
    rfl
  | tup ts =>
    cases e
    walk_at "mir"
    rw [hr]
    walk_at "mir"
    rfl
  | _ => cases e
noncomputable def endA (A : List (Str × Arc)) (a : Str) : Str := match lookA A a with | some v => v.2.1 | none => ""
noncomputable def begA (A : List (Str × Arc)) (a : Str) : Str := match lookA A a with | some v => v.1 | none => ""
noncomputable def okP (A : List (Str × Arc)) (yard a b : Str) : Bool := decide (endA A a = begA A b) && !decide (endA A a = yard)
noncomputable def keysA (A : List (Str × Arc)) : List Str := A.map (·.1)
noncomputable def freeS (A : List (Str × Arc)) (yard : Str) : List (Str × Str) := (keysA A).flatMap fun a => ((keysA A).filter (okP A yard a)).map fun b => (a, b)
noncomputable def pairT (p : Str × Str) : T := .tup [.str p.1, .str p.2]
theorem look_key {A : List (Str × Arc)} {a : Str} (h : a ∈ keysA A) : ∃ v, lookA A a = some v := by
  unfold keysA at h
  obtain ⟨p, hp, rfl⟩ := List.mem_map.mp h
  unfold lookA
  cases e : A.find? fun q => decide (q.1 = p.1) with
  | none =>
    rw [List.find?_eq_none] at e
    exact absurd (by simp) (e p hp)
  | some q => exact ⟨_, rfl⟩
theorem ixT0 (v : Arc) : oIxT (arcT v) (.int 0) = some (.fz (.str v.1)) := rfl
theorem ixT1 (v : Arc) : oIxT (arcT v) (.int 1) = some (.fz (.str v.2.1)) := rfl
noncomputable def innerBody : MS := (mForget [5] (mIf (mAndT (mTest (mOp oEq (mOp oIxT (mDGet (mVar 1) (mVar 4)) (mC (.int 1))) (mOp oIxT (mDGet (mVar 1) (mVar 5)) (mC (.int 0))))) (mTest (mOp oNe (mOp oIxT (mDGet (mVar 1) (mVar 4)) (mC (.int 1))) (mVar 2)))) (mMut uappend 3 (mCons (mTup (mCons (mVar 4) (mCons (mVar 5) mNil))) mNil)) mNext))
noncomputable def envB (x : EV) (A : List (Str × Arc)) (yard : Str) (fr : List (Str × Str)) (a b : EV) : En := [x, .fz (.dct true (ksA A) (tsA A)), .fz (.str yard), .ow (.l (fr.map pairT)), a, b, .un, .un, .un]
theorem inner_turn (x : EV) (A : List (Str × Arc)) (yard : Str) (fr : List (Str × Str)) (a b : Str) (ha : a ∈ keysA A) (hb : b ∈ keysA A) (hf : fr.length ≤ 1000000) :
    innerBody (envB x A yard fr (.fz (.str a)) (.fz (.str b))) = .nx (envB x A yard (if okP A yard a b = true then fr ++ [(a, b)] else fr) (.fz (.str a)) .un) := by
  have hs := hsl
  obtain ⟨va, ea⟩ := look_key ha
  obtain ⟨vb, eb⟩ := look_key hb
  have e1 : endA A a = va.2.1 := by unfold endA; rw [ea]
  have e2 : begA A b = vb.1 := by unfold begA; rw [eb]
  unfold okP
  rw [e1, e2]
  unfold innerBody envB
  walk_at "mir"
  simp only [T.key, look_enc, ea, eb, Option.bind_some, Option.map_some]
  walk_at "mir"
  rw [ixT1, ixT0]
  walk_at "mir"
  by_cases h1 : va.2.1 = vb.1
  · simp only [h1, if_true, decide_true, Bool.true_and]
    walk_at "mir"
    by_cases h2 : vb.1 = yard
    · simp only [h2, decide_true]
      walk_at "mir"
    · simp only [h2, decide_false]
      walk_at "mir"
      rw [mMut_at (ts := fr.map pairT) rfl]
      walk_at "mir"
      have l1 : (fr.map pairT).length < sizeLine := by rw [List.length_map]; omega
      simp only [uappend, if_pos l1]
      walk_at "mir"
      rw [List.map_append]
      rfl
  · simp only [h1, if_false, decide_false, Bool.false_and]
    walk_at "mir"
theorem inner_loop (x : EV) (A : List (Str × Arc)) (yard a : Str) (ha : a ∈ keysA A) : ∀ (bs : List Str) (fr : List (Str × Str)), (∀ b ∈ bs, b ∈ keysA A) → fr.length + bs.length ≤ 1000000 →
    loop (gN 5) innerBody (bs.map T.str) (envB x A yard fr (.fz (.str a)) .un) = .nx (envB x A yard (fr ++ (bs.filter (okP A yard a)).map fun b => (a, b)) (.fz (.str a)) .un)
  | [], fr, _, _ => by rw [List.map_nil, loop_nil]; simp
  | b :: bs, fr, h, hl => by
    rw [List.length_cons] at hl
    rw [List.map_cons, loop_nx (ρ1 := envB x A yard fr (.fz (.str a)) (.fz (.str b))) rfl (inner_turn x A yard fr a b ha (h b List.mem_cons_self) (by omega))]
    rw [List.filter_cons]
    by_cases hp : okP A yard a b = true
    · rw [if_pos hp, if_pos hp, inner_loop x A yard a ha bs _ (fun c hc => h c (List.mem_cons_of_mem _ hc)) (by rw [List.length_append, List.length_singleton]; omega)]
      simp
    · rw [if_neg hp, if_neg hp, inner_loop x A yard a ha bs _ (fun c hc => h c (List.mem_cons_of_mem _ hc)) (by omega)]
theorem itD_ok (x : EV) (A : List (Str × Arc)) (yard : Str) (fr : List (Str × Str)) (a b : EV) : mItD (mVar 1) (envB x A yard fr a b) = .ok ((keysA A).map T.str) := by
  unfold envB
  walk_at "mir"
  rw [key_items]
  rfl
noncomputable def outerBody : MS := (mForget [4, 5] (mFor (mItD (mVar 1)) (gN 5) innerBody))
theorem outer_loop (x : EV) (A : List (Str × Arc)) (yard : Str) (hA : A.length ≤ 100) : ∀ (as : List Str) (fr : List (Str × Str)), (∀ a ∈ as, a ∈ keysA A) → fr.length + as.length * A.length ≤ 1000000 →
    loop (gN 4) outerBody (as.map T.str) (envB x A yard fr .un .un) = .nx (envB x A yard (fr ++ as.flatMap fun a => ((keysA A).filter (okP A yard a)).map fun b => (a, b)) .un .un)
  | [], fr, _, _ => by rw [List.map_nil, loop_nil]; simp
  | a :: as, fr, h, hl => by
    have hk : (keysA A).length = A.length := by unfold keysA; simp
    rw [List.length_cons, Nat.succ_mul] at hl
    have h2 : outerBody (envB x A yard fr (.fz (.str a)) .un) = .nx (envB x A yard (fr ++ ((keysA A).filter (okP A yard a)).map fun b => (a, b)) .un .un) := by
      unfold outerBody mForget mFor
      rw [itD_ok, of_ok, inner_loop x A yard a (h a List.mem_cons_self) _ fr (fun b hb => hb) (by omega), mapE_nx]
      rfl
    rw [List.map_cons, loop_nx (ρ1 := envB x A yard fr (.fz (.str a)) .un) rfl h2, List.flatMap_cons]
    have hf : ((keysA A).filter (okP A yard a)).length ≤ A.length := by rw [← hk]; exact List.length_filter_le _ _
    rw [outer_loop x A yard hA as _ (fun c hc => h c (List.mem_cons_of_mem _ hc)) (by rw [List.length_append, List.length_map]; omega), List.append_assoc]
noncomputable def pickP (fr : List (Str × Str)) (c : Int) : Str × Str := (atI fr (c % (fr.length : Int))).getD ("", "")
noncomputable def bansS (ns : List Int) (fr : List (Str × Str)) : Nat → List (Str × Str)
  | 0 => []
  | k + 1 => let b := bansS ns fr k
    let c := cellI ns (24 + k)
    if 0 < fr.length ∧ pickP fr c ∉ b then b.take (c / 97 % ((b.length : Int) + 1)).toNat ++ pickP fr c :: b.drop (c / 97 % ((b.length : Int) + 1)).toNat else b
theorem bans_len (ns : List Int) (fr : List (Str × Str)) : ∀ k, (bansS ns fr k).length ≤ k
  | 0 => Nat.le_refl 0
  | k + 1 => by
    have := bans_len ns fr k
    unfold bansS
    simp only
    split
    · rw [List.length_append, List.length_cons, List.length_take, List.length_drop]; omega
    · omega
theorem eqT_pair (p q : Str × Str) : eqT (pairT p) (pairT q) = decide (p = q) := by
  have e : eqT (pairT p) (pairT q) = ((p.1 == q.1) && ((p.2 == q.2) && true)) := by
    unfold pairT
    unfold eqT
    unfold eqTs
    unfold eqTs
    unfold eqTs
    unfold eqT
    rfl
  rw [e, Bool.and_true, Bool.eq_iff_iff]
  simp only [Bool.and_eq_true, beq_iff_eq, decide_eq_true_eq]
  constructor
  · intro ⟨a, b⟩; exact Prod.ext a b
  · rintro rfl; exact ⟨rfl, rfl⟩
theorem any_pair (ps : List (Str × Str)) (q : Str × Str) : ((ps.map pairT).any fun u => eqT u (pairT q)) = decide (q ∈ ps) := by
  induction ps with
  | nil => simp
  | cons p ps ih =>
    rw [List.map_cons, List.any_cons, ih, eqT_pair]
    by_cases e : p = q
    · subst e; simp
    · rw [decide_eq_false e, Bool.false_or]
      congr 1
      rw [eq_iff_iff, List.mem_cons]
      exact ⟨.inr, fun h => h.resolve_left fun z => e z.symm⟩
theorem plain_pair (p : Str × Str) : plain 8 (pairT p) = true := rfl
theorem plain_pairs (ps : List (Str × Str)) : (ps.map pairT).all (plain 8) = true := by
  rw [List.all_eq_true]; intro t ht; obtain ⟨p, _, rfl⟩ := List.mem_map.mp ht; rfl
theorem notIn_pair (p : Str × Str) (ps : List (Str × Str)) : oInD true (pairT p) (.lst (ps.map pairT)) = some (.fz (.bl (!decide (p ∈ ps)))) := by
  unfold oInD
  rw [if_pos (plain_pair p)]
  simp only [plain_pairs, any_pair, if_true]
theorem ix_pick (fr : List (Str × Str)) (c : Int) (h : 0 < fr.length) : oIxL (.lst (fr.map pairT)) (.int (c % (fr.length : Int))) = some (.fz (pairT (pickP fr c))) := by
  obtain ⟨m1, m2⟩ := mod_lt' c (show (0 : Int) < (fr.length : Int) by omega)
  simp only [oIxL, atI_map]
  unfold pickP
  rw [atI_some m1 m2]
  rfl
noncomputable def bansBody : MS := (mForget [7, 8] (mSeq (mSet 8 (mCall 2 m__law_cell (mCons (mVar 0) (mCons (mOp oAdd (mC (.int 24)) (mVar 7)) mNil))))
      (mIf (mAndT (mTest (mOp oGt (mCB oLen (mCons (mVar 3) mNil)) (mC (.int 0)))) (mTest (mOp (oInD true) (mOp oIxL (mVar 3) (mOp oMod (mVar 8) (mCB oLen (mCons (mVar 3) mNil)))) (mVar 6)))) (mMut uinsert 6 (mCons (mOp oMod (mOp oDiv (mVar 8) (mC (.int 97))) (mOp oAdd (mCB oLen (mCons (mVar 6) mNil)) (mC (.int 1)))) (mCons (mOp oIxL (mVar 3) (mOp oMod (mVar 8) (mCB oLen (mCons (mVar 3) mNil)))) mNil))) mNext)))
theorem bans_turn (ns : List Int) (d y : EV) (fr : List (Str × Str)) (k : Nat) (hk : k ≤ 100) :
    bansBody [.fz (.lst (ns.map T.int)), d, y, .ow (.l (fr.map pairT)), .un, .un, .ow (.l ((bansS ns fr k).map pairT)), .fz (.int (0 + (k : Int))), .un] =
    .nx [.fz (.lst (ns.map T.int)), d, y, .ow (.l (fr.map pairT)), .un, .un, .ow (.l ((bansS ns fr (k + 1)).map pairT)), .un, .un] := by
  have hs := hsl
  have hb := bans_len ns fr k
  rw [Int.zero_add]
  have c1 : m__law_cell [.lst (ns.map T.int), .int (24 + (k : Int))] = .ok (.fz (.int (cellI ns (24 + k)))) := by
    have := cell_ok ns (24 + k)
    rw [Int.natCast_add] at this
    exact this
  unfold bansBody
  walk_at "mir"
  rw [c1]
  walk_at "mir"
  have eB : bansS ns fr (k + 1) = (if 0 < fr.length ∧ pickP fr (cellI ns (24 + k)) ∉ bansS ns fr k then (bansS ns fr k).take (cellI ns (24 + k) / 97 % (((bansS ns fr k).length : Int) + 1)).toNat ++ pickP fr (cellI ns (24 + k)) :: (bansS ns fr k).drop (cellI ns (24 + k) / 97 % (((bansS ns fr k).length : Int) + 1)).toNat else bansS ns fr k) := rfl
  by_cases h : 0 < fr.length
  · have h' : (0 : Int) < (fr.length : Int) := by omega
    simp only [h', if_true]
    rw [mod_pos h']
    walk_at "mir"
    rw [ix_pick fr _ h]
    walk_at "mir"
    rw [notIn_pair]
    walk_at "mir"
    by_cases h2 : pickP fr (cellI ns (24 + k)) ∈ bansS ns fr k
    · rw [if_neg (fun z => z.2 h2)] at eB
      rw [eB]
      simp only [h2, decide_true, Bool.not_true, Bool.false_eq_true, if_false]
      walk_at "mir"
    · rw [if_pos ⟨h, h2⟩] at eB
      rw [eB]
      simp only [h2, decide_false, Bool.not_false, if_true]
      walk_at "mir"
      rw [mMut_at (ts := (bansS ns fr k).map pairT) rfl]
      walk_at "mir"
      have hp : (0 : Int) < ((bansS ns fr k).length : Int) + 1 := by omega
      obtain ⟨m1, m2⟩ := mod_lt' (cellI ns (24 + k) / 97) hp
      rw [mod_pos hp, mod_pos h']
      walk_at "mir"
      rw [ix_pick fr _ h]
      walk_at "mir"
      simp only [uinsert]
      rw [if_pos ⟨m1, by omega, by rw [List.length_map]; omega⟩]
      walk_at "mir"
      rw [← List.map_take, ← List.map_drop, ← List.map_cons, ← List.map_append]
  · have h' : ¬ (0 : Int) < (fr.length : Int) := by omega
    rw [if_neg (fun z => h z.1)] at eB
    rw [eB]
    simp only [h', if_false]
    walk_at "mir"
noncomputable def manyB (ns : List Int) : Nat := (cellI ns 4 % 6).toNat
theorem bans_ok (ns : List Int) (A : List (Str × Arc)) (yard : Str) (hA : A.length ≤ 100) :
    m__law_bans [.lst (ns.map T.int), .dct true (ksA A) (tsA A), .str yard] = .ok (.ow (.l ((bansS ns (freeS A yard) (manyB ns)).map pairT))) := by
  have hk : (keysA A).length = A.length := by unfold keysA; simp
  have hmul : (keysA A).length * A.length ≤ 100 * 100 := Nat.mul_le_mul (by omega) hA
  have ho := outer_loop (.fz (.lst (ns.map T.int))) A yard hA (keysA A) [] (fun a ha => ha) (by rw [List.length_nil]; omega)
  rw [List.nil_append] at ho
  have c4 := cell_ok ns 4
  obtain ⟨m1, m2⟩ := mod_lt' (cellI ns 4) (show (0 : Int) < 6 by decide)
  have hm : cellI ns 4 % 6 = ((manyB ns : Nat) : Int) := by unfold manyB; omega
  have hl := loop_range (mg := gN 7) (mb := bansBody) (fun i => [.fz (.lst (ns.map T.int)), .fz (.dct true (ksA A) (tsA A)), .fz (.str yard), .ow (.l ((freeS A yard).map pairT)), .un, .un, .ow (.l ((bansS ns (freeS A yard) i).map pairT)), .un, .un]) (manyB ns) (fun i hi => ⟨_, rfl, .inl (bans_turn ns _ _ (freeS A yard) i (by omega))⟩)
  unfold bansBody at hl
  rw [show (bansS ns (freeS A yard) 0).map pairT = [] from rfl] at hl
  have hd := itD_ok (.fz (.lst (ns.map T.int))) A yard [] .un .un
  unfold envB at ho hd
  rw [show ([] : List (Str × Str)).map pairT = [] from rfl] at ho hd
  unfold outerBody innerBody at ho
  unfold m__law_bans mb__law_bans
  simp only [mDef, startE, List.map_cons, List.map_nil, List.length_cons, List.length_nil, Nat.reduceAdd, Nat.reduceSub, List.replicate, List.cons_append, List.nil_append]
  rw [show ∀ a b : MS, mSeq a b = fun ρ => (a ρ).seq b from fun _ _ => rfl]
  simp only
  rw [show mSet 3 (mLst mNil) [.fz (.lst (ns.map T.int)), .fz (.dct true (ksA A) (tsA A)), .fz (.str yard), .un, .un, .un, .un, .un, .un] = .nx [.fz (.lst (ns.map T.int)), .fz (.dct true (ksA A) (tsA A)), .fz (.str yard), .ow (.l []), .un, .un, .un, .un, .un] by walk_at "mir"]
  rw [seq_nx]
  simp only [mSeq]
  rw [show ∀ (mi : MI) (mg : MG) (mb : MS) (ρ : En), mFor mi mg mb ρ = So.of (mi ρ) ρ fun ts => loop mg mb ts ρ from fun _ _ _ _ => rfl]
  rw [hd, of_ok, ho, seq_nx]
  walk_at "mir"
  have c4' : m__law_cell [.lst (ns.map T.int), .int 4] = .ok (.fz (.int (cellI ns 4))) := c4
  rw [itR1_nat (n := manyB ns) (x := .fz (.int (cellI ns 4 % 6))) (by walk_at "mir"; rw [c4']; walk_at "mir") (by rw [hm]; rfl) (by omega)]
  rw [of_ok]
  rw [show (keysA A).flatMap (fun a => ((keysA A).filter (okP A yard a)).map fun b => (a, b)) = freeS A yard from rfl]
  rw [hl]
  walk_at "mir"
structure Town where
  yard : Str
  streets : List Street
  bans : List (Str × Str)
noncomputable def Town.t (w : Town) : T := .tup [.str w.yard, .tup (w.streets.map Street.t), .tup (w.bans.map pairT)]
noncomputable def manyS (ns : List Int) : Nat := if cellI ns 0 / 35 % 8 = 1 then (7 + cellI ns 0 / 280 % 2).toNat else (cellI ns 0 / 5 % 7).toNat
noncomputable def cornersS (ns : List Int) : List Str := namesS (cellI ns 1) (1 + cellI ns 0 % 5).toNat
noncomputable def namedI (ns : List Int) : Int := if cellI ns 2 % 4 = 3 then cellI ns 1 else cellI ns 2
noncomputable def townS (ns : List Int) : Town :=
  let cs := cornersS ns
  let ss := streetsS ns cs (namesS (namedI ns) (manyS ns)) (manyS ns)
  let y := at0 cs (cellI ns 3 % (cs.length : Int))
  { yard := y, streets := ss, bans := bansS ns (freeS (arcsS ss) y) (manyB ns) }
theorem many_le (ns : List Int) : manyS ns ≤ 8 := by
  unfold manyS
  have := mod_lt' (cellI ns 0 / 280) (show (0 : Int) < 2 by decide)
  have := mod_lt' (cellI ns 0 / 5) (show (0 : Int) < 7 by decide)
  split <;> omega
theorem corners_len (ns : List Int) : 1 ≤ (cornersS ns).length ∧ (cornersS ns).length ≤ 5 := by
  unfold cornersS
  rw [names_len]
  have := mod_lt' (cellI ns 0) (show (0 : Int) < 5 by decide)
  omega
theorem at0_mem {xs : List Str} {i : Int} (h0 : 0 ≤ i) (h1 : i < xs.length) : at0 xs i ∈ xs := by
  unfold at0
  rw [atI_some h0 h1]
  exact List.getElem_mem _
theorem names_mem {c : Int} {n : Nat} {x : Str} (h : x ∈ namesS c n) : 1 ≤ x.length ∧ x.length ≤ 8 := by
  unfold namesS at h
  obtain ⟨k, _, rfl⟩ := List.mem_map.mp h
  exact nm_len c k
theorem street_mem {ns : List Int} {cs nms : List Str} : ∀ {k : Nat} {s : Street}, s ∈ streetsS ns cs nms k → ∃ j, j < k ∧ s = streetS ns cs nms j
  | 0, s, h => by cases h
  | k + 1, s, h => by
    have h : s ∈ (streetsS ns cs nms k).take (cellI ns (6 + 2 * k) / 150 % ((k : Int) + 1)).toNat ++ streetS ns cs nms k :: (streetsS ns cs nms k).drop (cellI ns (6 + 2 * k) / 150 % ((k : Int) + 1)).toNat := h
    rcases List.mem_append.mp h with h | h
    · obtain ⟨j, hj, e⟩ := street_mem (List.mem_of_mem_take h)
      exact ⟨j, by omega, e⟩
    · rcases List.mem_cons.mp h with rfl | h
      · exact ⟨k, by omega, rfl⟩
      · obtain ⟨j, hj, e⟩ := street_mem (List.mem_of_mem_drop h)
        exact ⟨j, by omega, e⟩
theorem street_ok {ns : List Int} {cs nms : List Str} (hc : 0 < cs.length) (h1 : ∀ x ∈ cs, x.length ≤ 8) (h2 : ∀ x ∈ nms, x.length ≤ 8) {k : Nat} (hk : k < nms.length) : SOk (streetS ns cs nms k) := by
  have hcl : (0 : Int) < (cs.length : Int) := by omega
  have a : ∀ i : Int, (at0 cs (i % (cs.length : Int))).length ≤ 8 := fun i => h1 _ (at0_mem (mod_lt' i hcl).1 (mod_lt' i hcl).2)
  refine ⟨?_, ?_, ?_⟩
  · have := h2 _ (at0_mem (xs := nms) (i := (k : Int)) (by omega) (by omega))
    show (at0 nms k).length ≤ 100
    omega
  · show (if cellI ns (6 + 2 * k) % 2 = 1 then at0 cs (cellI ns (6 + 2 * k) / 2 % cs.length) else at0 cs ((k : Int) % cs.length)).length ≤ 100
    split
    · exact Nat.le_trans (a _) (by decide)
    · exact Nat.le_trans (a _) (by decide)
  · show (if cellI ns (6 + 2 * k) % 2 = 1 then at0 cs (cellI ns (6 + 2 * k) / 10 % cs.length) else at0 cs (((k : Int) + 1) % cs.length)).length ≤ 100
    split
    · exact Nat.le_trans (a _) (by decide)
    · exact Nat.le_trans (a _) (by decide)
theorem town_streets_ok (ns : List Int) : ∀ s ∈ (townS ns).streets, SOk s := by
  intro s hs
  obtain ⟨j, hj, rfl⟩ := street_mem (show s ∈ streetsS ns (cornersS ns) (namesS (namedI ns) (manyS ns)) (manyS ns) from hs)
  have hc := corners_len ns
  exact street_ok (show 0 < (cornersS ns).length by omega) (fun x hx => (names_mem hx).2) (fun x hx => (names_mem hx).2) (by rw [names_len]; exact hj)
theorem town_streets_len (ns : List Int) : (townS ns).streets.length = manyS ns := streets_len _ _ _ _
theorem town_ok (ns : List Int) : m__law_town [.lst (ns.map T.int)] = .ok (.fz (townS ns).t) := by
  have hs := hsl
  have hml := many_le ns
  have hcl := corners_len ns
  have c0 : m__law_cell [.lst (ns.map T.int), .int 0] = .ok (.fz (.int (cellI ns 0))) := cell_ok ns 0
  have c1 : m__law_cell [.lst (ns.map T.int), .int 1] = .ok (.fz (.int (cellI ns 1))) := cell_ok ns 1
  have c2 : m__law_cell [.lst (ns.map T.int), .int 2] = .ok (.fz (.int (cellI ns 2))) := cell_ok ns 2
  have c3 : m__law_cell [.lst (ns.map T.int), .int 3] = .ok (.fz (.int (cellI ns 3))) := cell_ok ns 3
  have d0 := mod_lt' (cellI ns 0 / 280) (show (0 : Int) < 2 by decide)
  have d1 := mod_lt' (cellI ns 0 / 5) (show (0 : Int) < 7 by decide)
  have d2 := mod_lt' (cellI ns 0) (show (0 : Int) < 5 by decide)
  have em : (if cellI ns 0 / 35 % 8 = 1 then 7 + cellI ns 0 / 280 % 2 else cellI ns 0 / 5 % 7) = ((manyS ns : Nat) : Int) := by
    unfold manyS
    split <;> omega
  have ec : (1 + cellI ns 0 % 5 : Int) = (((1 + cellI ns 0 % 5).toNat : Nat) : Int) := by omega
  have n1 : m__law_names [.int (cellI ns 1), .int (1 + cellI ns 0 % 5)] = .ok (.ow (.l ((cornersS ns).map T.str))) := by
    rw [ec]
    exact names_ok _ _ (by omega)
  have n2 : m__law_names [.int (namedI ns), .int ((manyS ns : Nat) : Int)] = .ok (.ow (.l ((namesS (namedI ns) (manyS ns)).map T.str))) := names_ok _ _ (by omega)
  have st := streets_ok ns (cornersS ns) (namesS (namedI ns) (manyS ns)) (by omega) (by rw [names_len]; omega)
  rw [names_len] at st
  have hcl' : (0 : Int) < ((cornersS ns).length : Int) := by omega
  unfold m__law_town mb__law_town
  walk_at "mir"
  rw [c0]
  walk_at "mir"
  have e1 : (if cellI ns 0 / 35 % 8 = 1 then So.nx [.fz (.lst (ns.map T.int)), .fz (.int (cellI ns 0)), .fz (.int (7 + cellI ns 0 / 280 % 2)), .un, .un, .un, .un] else So.nx [.fz (.lst (ns.map T.int)), .fz (.int (cellI ns 0)), .fz (.int (cellI ns 0 / 5 % 7)), .un, .un, .un, .un]) = So.nx [.fz (.lst (ns.map T.int)), .fz (.int (cellI ns 0)), .fz (.int ((manyS ns : Nat) : Int)), .un, .un, .un, .un] := by
    rw [← em]
    split <;> rfl
  rw [e1]
  walk_at "mir"
  rw [c1]
  walk_at "mir"
  rw [n1]
  walk_at "mir"
  rw [c2]
  walk_at "mir"
  rw [c1]
  walk_at "mir"
  have e2 : (if cellI ns 2 % 4 = 3 then So.nx [.fz (.lst (ns.map T.int)), .fz (.int (cellI ns 0)), .fz (.int ((manyS ns : Nat) : Int)), .ow (.l ((cornersS ns).map T.str)), .fz (.int (cellI ns 1)), .un, .un] else So.nx [.fz (.lst (ns.map T.int)), .fz (.int (cellI ns 0)), .fz (.int ((manyS ns : Nat) : Int)), .ow (.l ((cornersS ns).map T.str)), .fz (.int (cellI ns 2)), .un, .un]) = So.nx [.fz (.lst (ns.map T.int)), .fz (.int (cellI ns 0)), .fz (.int ((manyS ns : Nat) : Int)), .ow (.l ((cornersS ns).map T.str)), .fz (.int (namedI ns)), .un, .un] := by
    unfold namedI
    split <;> rfl
  rw [e2]
  walk_at "mir"
  rw [n2]
  walk_at "mir"
  rw [st]
  walk_at "mir"
  rw [c3]
  walk_at "mir"
  rw [mod_pos hcl']
  walk_at "mir"
  rw [ix_at0 _ _ (mod_lt' _ hcl').1 (mod_lt' _ hcl').2]
  walk_at "mir"
  have hso := town_streets_ok ns
  have hsl2 := town_streets_len ns
  have ar := arcs_ok (.lst ((townS ns).streets.map Street.t)) (townS ns).streets rfl hso (by omega)
  have hal := arcs_len (townS ns).streets
  have bn := bans_ok ns (arcsS (townS ns).streets) (townS ns).yard (by omega)
  rw [show (streetsS ns (cornersS ns) (namesS (namedI ns) (manyS ns)) (manyS ns)) = (townS ns).streets from rfl, show at0 (cornersS ns) (cellI ns 3 % ((cornersS ns).length : Int)) = (townS ns).yard from rfl]
  rw [ar]
  walk_at "mir"
  rw [enc_ks, enc_ts, bn]
  walk_at "mir"
  rfl
def Nam (x : Str) : Prop := 1 ≤ x.length ∧ x.length ≤ 8 ∧ ∀ ch ∈ x.cps.toList, 97 ≤ ch ∧ ch ≤ 122
theorem capp (a b : Str) : (a ++ b).cps.toList = a.cps.toList ++ b.cps.toList := by
  show (a.cps ++ b.cps).toList = _; simp
theorem let1_ch (i : Int) : ∀ ch ∈ (let1 i).cps.toList, 97 ≤ ch ∧ ch ≤ 122 := by
  obtain ⟨c, h, h1, h2, _⟩ := let_at i
  intro ch hc
  have : ch = (atI letters.cps.toList (i % 26)).getD 0 := by simpa [let1] using hc
  rw [this, h]
  exact ⟨h1, h2⟩
theorem mul_ch (i n : Int) : ∀ ch ∈ (Txt.mul (let1 i) n).cps.toList, 97 ≤ ch ∧ ch ≤ 122 := by
  obtain ⟨c, h, h1, h2, _⟩ := let_at i
  intro ch hc
  have e := PyProof.Rows.mul_one_list ((atI letters.cps.toList (i % 26)).getD 0) n
  have hc : ch ∈ (Txt.mul ⟨#[(atI letters.cps.toList (i % 26)).getD 0]⟩ n).cps.toList := hc
  rw [e] at hc
  rw [List.eq_of_mem_replicate hc, h]
  exact ⟨h1, h2⟩
theorem base_ch (c k : Int) : ∀ ch ∈ (baseS c k).cps.toList, 97 ≤ ch ∧ ch ≤ 122 := by
  intro ch hc
  unfold baseS at hc
  rw [capp, capp] at hc
  rcases List.mem_append.mp hc with hc | hc
  · rcases List.mem_append.mp hc with hc | hc
    · exact mul_ch _ _ ch hc
    · exact let1_ch _ ch hc
  · exact mul_ch _ _ ch hc
theorem names_nam {c : Int} {n : Nat} {x : Str} (h : x ∈ namesS c n) : Nam x := by
  have h1 := names_mem h
  unfold namesS at h
  obtain ⟨k, _, rfl⟩ := List.mem_map.mp h
  refine ⟨h1.1, h1.2, fun ch hc => ?_⟩
  unfold nmS at hc
  split at hc
  · rw [capp] at hc
    rcases List.mem_append.mp hc with hc | hc
    · exact base_ch _ _ ch hc
    · exact let1_ch _ ch hc
  · exact base_ch _ _ ch hc
structure SNam (s : Street) : Prop where
  name : Nam s.name
  first : Nam s.first
  second : Nam s.second
theorem town_nam (ns : List Int) : ∀ s ∈ (townS ns).streets, SNam s := by
  intro s hs
  obtain ⟨k, hk, rfl⟩ := street_mem (show s ∈ streetsS ns (cornersS ns) (namesS (namedI ns) (manyS ns)) (manyS ns) from hs)
  have hc := corners_len ns
  have hcl : (0 : Int) < ((cornersS ns).length : Int) := by omega
  have a : ∀ i : Int, Nam (at0 (cornersS ns) (i % ((cornersS ns).length : Int))) := fun i => names_nam (at0_mem (mod_lt' i hcl).1 (mod_lt' i hcl).2)
  refine ⟨?_, ?_, ?_⟩
  · exact names_nam (at0_mem (xs := namesS (namedI ns) (manyS ns)) (i := (k : Int)) (by omega) (by rw [names_len]; omega))
  · show Nam (if cellI ns (6 + 2 * k) % 2 = 1 then at0 (cornersS ns) (cellI ns (6 + 2 * k) / 2 % (cornersS ns).length) else at0 (cornersS ns) ((k : Int) % (cornersS ns).length))
    split
    · exact a _
    · exact a _
  · show Nam (if cellI ns (6 + 2 * k) % 2 = 1 then at0 (cornersS ns) (cellI ns (6 + 2 * k) / 10 % (cornersS ns).length) else at0 (cornersS ns) (((k : Int) + 1) % (cornersS ns).length))
    split
    · exact a _
    · exact a _
theorem yard_nam (ns : List Int) : Nam (townS ns).yard := by
  have hc := corners_len ns
  have hcl : (0 : Int) < ((cornersS ns).length : Int) := by omega
  exact names_nam (at0_mem (mod_lt' (cellI ns 3) hcl).1 (mod_lt' (cellI ns 3) hcl).2)
section
open SetT
structure WOk (w : Town) : Prop where
  st : ∀ s ∈ w.streets, SOk s
  len : w.streets.length ≤ 17
  ban : w.bans.length ≤ 17
theorem courses_ok (w : Town) (h : WOk w) : m_courses_of [w.t] = .ok (.ow (.d (encA (arcsS w.streets)))) := by
  have hl := h.len
  have hr := arcs_loop coursesBody courses_turn (.fz w.t) w.streets [] h.st (by rw [List.length_nil]; omega)
  rw [show encA [] = [] from rfl] at hr
  unfold coursesBody at hr
  unfold m_courses_of mb_courses_of
  walk_at "mir"
  rw [show oIxT w.t (.int 1) = some (.fz (.tup (w.streets.map Street.t))) from rfl]
  walk_at "mir"
  rw [hr]
  walk_at "mir"
  rfl
theorem txts_map : ∀ xs : List Str, txtsOf (xs.map T.str) = some xs
  | [] => rfl
  | x :: xs => by
    rw [List.map_cons, txtsOf, txts_map xs]
    rfl
noncomputable def pairL (p : Str × Str) : List Str := [p.1, p.2]
theorem tups_map : ∀ ps : List (Str × Str), tupsOf (ps.map pairT) = some (ps.map pairL)
  | [] => rfl
  | p :: ps => by
    show tupsOf (.tup [.str p.1, .str p.2] :: ps.map pairT) = _
    rw [tupsOf, tups_map ps]
    rfl
theorem dist_names (xs : List Str) : distT (xs.map T.str) = some (dist xs) := by
  unfold distT
  rw [txts_map]
theorem dist_pairs (ps : List (Str × Str)) : distT (ps.map pairT) = some (dist (ps.map pairL)) := by
  unfold distT
  cases ps with
  | nil => rfl
  | cons p ps =>
    have : txtsOf ((p :: ps).map pairT) = none := rfl
    rw [this, tups_map]
theorem lenSet_ok {t : T} {ts : List T} {n : Nat} (h1 : seqT t = some ts) (h2 : ts.length ≤ 17) (h3 : distT ts = some n) : oLenSet [t] = some (.fz (.int (n : Int))) := by
  show ((seqT t).bind fun ts => if ts.length ≤ 17 then (distT ts).bind fun n => some (XV.fz (.int n)) else none) = _
  rw [h1, Option.bind_some, if_pos h2, h3]
  rfl
theorem len_seq {t : T} {ts : List T} (h1 : seqT t = some ts) : oLen [t] = some (.fz (.int (ts.length : Int))) := by
  cases t <;> cases h1 <;> rfl
theorem once_ok {t : T} {ts : List T} {n : Nat} (h1 : seqT t = some ts) (h2 : ts.length ≤ 17) (h3 : distT ts = some n) : m_stand_once [t] = .ok (.fz (.bl (decide (n = ts.length)))) := by
  have e1 := lenSet_ok h1 h2 h3
  have e2 := len_seq h1
  unfold m_stand_once mb_stand_once mLenSet
  simp only [mDef, startE, mRet_eq, mOp, mCB, mCons, mNil, mVar_eq, List.map_cons, List.map_nil, List.replicate, List.cons_append, List.nil_append, List.getElem?_cons_zero, List.append_nil, rdV, bind_ok, t_fz, e1, e2, ofO_some]
  walk_at "mir"
  congr 3
  simp
  omega

noncomputable def numB (s : Street) : Bool := decide (1 ≤ s.len) && (decide (s.ways = 1) || decide (s.ways = 2))
theorem whole_ok (i : Int) : m_is_whole [.int i] = .ok (.fz (.bl true)) := by
  unfold m_is_whole mb_is_whole
  walk_at "mir"
theorem in12 (i : Int) : oIn false (.int i) (.tup [.int 1, .int 2]) = some (.fz (.bl (decide (i = 1) || decide (i = 2)))) := by
  show some (XV.fz (.bl ((decide ((1 : Int) = i)) || (decide ((2 : Int) = i) || false)))) = _
  simp [eq_comm]
theorem street_fits_ok (s : Street) : m_street_fits [s.t] = .ok (.fz (.bl (numB s))) := by
  unfold m_street_fits mb_street_fits
  walk_at "mir"
  rw [show oIxT s.t (.int 3) = some (.fz (.int s.len)) from rfl]
  walk_at "mir"
  rw [show oIxT s.t (.int 4) = some (.fz (.int s.ways)) from rfl]
  walk_at "mir"
  simp only [whole_ok]
  walk_at "mir"
  rw [in12]
  walk_at "mir"
  unfold numB
  by_cases h : 1 ≤ s.len
  · simp [h]; rfl
  · simp [h]; rfl
theorem names_comp (ρ : En) (ss : List Street) (hl : ss.length ≤ 17) : cloop (gN 0) mTrue (mOp oIxT (mVar 0) (mC (.int 0))) (EV.un :: ρ) (ss.map Street.t) [] = .ok ((ss.map (·.name)).map T.str) := by
  rw [cloop_map (u := fun t => match t with | .tup (x :: _) => x | _ => .non)]
  · rw [List.nil_append, List.map_map, List.map_map]
    rfl
  · intro t ht
    obtain ⟨s, _, rfl⟩ := List.mem_map.mp ht
    exact ⟨_, _, rfl, rfl, rfl, rfl⟩
  · rw [List.length_nil, List.length_map, hsl]; omega
theorem comp_names (w : Town) (h : WOk w) (ρ : En) : mComp 1 (mItT (mOp oIxT (mVar 0) (mC (.int 1)))) (gN 0) mTrue (mOp oIxT (mVar 0) (mC (.int 0))) (EV.fz w.t :: ρ) = .ok (.ow (.l ((w.streets.map (·.name)).map T.str))) := by
  unfold mComp
  rw [show mItT (mOp oIxT (mVar 0) (mC (.int 1))) (EV.fz w.t :: ρ) = .ok (w.streets.map Street.t) from rfl, bind_ok]
  rw [show List.replicate 1 EV.un ++ EV.fz w.t :: ρ = EV.un :: (EV.fz w.t :: ρ) from rfl, names_comp _ _ h.len]
  rfl
theorem names_fit_ok (w : Town) (h : WOk w) : m_names_fit [w.t] = .ok (.fz (.bl (decide (dist (w.streets.map (·.name)) = w.streets.length)))) := by
  have hl := h.len
  have e := once_ok (t := .lst ((w.streets.map (·.name)).map T.str)) rfl (by simpa using hl) (dist_names _)
  unfold m_names_fit mb_names_fit
  simp (implicitDefEqProofs := false) only [mDef, startE, mRet_eq, mCall, mCons, mNil, List.map_cons, List.map_nil, List.replicate, List.cons_append, List.nil_append, List.length_cons, List.length_nil, Nat.reduceAdd, Nat.reduceSub, comp_names w h, bind_ok, t_ow, t_l, e]
  walk_at "mir"

noncomputable def banB (w : Town) (p : Str × Str) : Bool := match lookA (arcsS w.streets) p.1, lookA (arcsS w.streets) p.2 with
  | some u, some v => decide (u.2.1 = v.1) && !decide (u.2.1 = w.yard)
  | _, _ => false
theorem bools_map (bs : List Bool) : boolsT (bs.map T.bl) = some bs := by
  induction bs with
  | nil => rfl
  | cons b bs ih => rw [List.map_cons, boolsT, ih]; rfl
theorem all_ok (bs : List Bool) : oAll [.lst (bs.map T.bl)] = some (.fz (.bl (bs.all id))) := by
  show ((boolsT (bs.map T.bl)).bind fun bs => some (XV.fz (.bl (bs.all id)))) = _
  rw [bools_map]; rfl
theorem comp_nums (w : Town) (h : WOk w) (ρ : En) : mComp 1 (mItT (mOp oIxT (mVar 0) (mC (.int 1)))) (gN 0) mTrue (mCallN 1 m_street_fits (mCons (mVar 0) mNil)) (EV.fz w.t :: ρ) = .ok (.ow (.l ((w.streets.map numB).map T.bl))) := by
  unfold mComp
  rw [show mItT (mOp oIxT (mVar 0) (mC (.int 1))) (EV.fz w.t :: ρ) = .ok (w.streets.map Street.t) from rfl, bind_ok]
  rw [show List.replicate 1 EV.un ++ EV.fz w.t :: ρ = EV.un :: (EV.fz w.t :: ρ) from rfl]
  have : cloop (gN 0) mTrue (mCallN 1 m_street_fits (mCons (mVar 0) mNil)) (EV.un :: (EV.fz w.t :: ρ)) (w.streets.map Street.t) [] = .ok ([] ++ (w.streets.map Street.t).map fun t => match t with | .tup [.str a, .str b, .str c, .int l, .int v] => T.bl (numB ⟨a, b, c, l, v⟩) | _ => .non) := by
    refine cloop_map (fun t ht => ?_) (by rw [List.length_nil, List.length_map, hsl]; have := h.len; omega)
    obtain ⟨s, _, rfl⟩ := List.mem_map.mp ht
    refine ⟨_, .fz (.bl (numB s)), rfl, rfl, ?_, rfl⟩
    unfold mCallN
    simp (implicitDefEqProofs := false) only [mCall, mCons, mNil, mVar_eq, gN, List.set_cons_zero, List.getElem?_cons_zero, rdV, bind_ok, List.map_cons, List.map_nil, t_fz, street_fits_ok, noEr_ok]
    rfl
  rw [this, List.nil_append, List.map_map, List.map_map]
  rfl
theorem numbers_fit_ok (w : Town) (h : WOk w) : m_numbers_fit [w.t] = .ok (.fz (.bl (w.streets.all numB))) := by
  have e := all_ok (w.streets.map numB)
  unfold m_numbers_fit mb_numbers_fit
  simp (implicitDefEqProofs := false) only [mDef, startE, mRet_eq, mCB, mCons, mNil, List.map_cons, List.map_nil, List.replicate, List.cons_append, List.nil_append, List.length_cons, List.length_nil, Nat.reduceAdd, Nat.reduceSub, comp_nums w h, bind_ok, t_ow, t_l, e, ofO_some]
  walk_at "mir"
  rw [List.all_map]
  rfl

theorem ban_fits_ok (w : Town) (p : Str × Str) : m_ban_fits [.str w.yard, .dct false (ksA (arcsS w.streets)) (tsA (arcsS w.streets)), pairT p] = .ok (.fz (.bl (banB w p))) := by
  have i0 : oIxT (pairT p) (.int 0) = some (.fz (.str p.1)) := rfl
  have i1 : oIxT (pairT p) (.int 1) = some (.fz (.str p.2)) := rfl
  unfold m_ban_fits mb_ban_fits banB
  walk_at "mir"
  rw [i0]
  walk_at "mir"
  cases h1 : lookA (arcsS w.streets) p.1 with
  | none =>
    simp only [look_enc, h1, Option.map_none, Option.isSome_none]
    walk_at "mir"
  | some u =>
    simp only [look_enc, h1, Option.map_some, Option.isSome_some]
    walk_at "mir"
    rw [i1]
    walk_at "mir"
    cases h2 : lookA (arcsS w.streets) p.2 with
    | none =>
      simp only [look_enc, h2, Option.map_none, Option.isSome_none]
      walk_at "mir"
    | some v =>
      simp only [look_enc, h2, Option.map_some, Option.isSome_some]
      walk_at "mir"
      rw [i0]
      walk_at "mir"
      simp only [look_enc, h1, Option.map_some, Option.bind_some]
      walk_at "mir"
      simp only [ixT1]
      walk_at "mir"
      rw [i1]
      walk_at "mir"
      simp only [look_enc, h2, Option.map_some, Option.bind_some]
      walk_at "mir"
      simp only [ixT0]
      walk_at "mir"
      by_cases h : u.2.1 = v.1
      · simp only [h, if_true, decide_true, Bool.true_and]; rfl
      · simp only [h, if_false, decide_false, Bool.false_and]; rfl
theorem comp_bans (w : Town) (h : WOk w) (ρ : En) : mComp 1 (mItT (mOp oIxT (mVar 0) (mC (.int 2)))) (gN 0) mTrue (mCallN 3 m_ban_fits (mCons (mOp oIxT (mVar 1) (mC (.int 0))) (mCons (mVar 2) (mCons (mVar 0) mNil)))) (EV.fz w.t :: EV.ow (.d (encA (arcsS w.streets))) :: ρ) = .ok (.ow (.l ((w.bans.map (banB w)).map T.bl))) := by
  unfold mComp
  rw [show mItT (mOp oIxT (mVar 0) (mC (.int 2))) (EV.fz w.t :: EV.ow (.d (encA (arcsS w.streets))) :: ρ) = .ok (w.bans.map pairT) from rfl, bind_ok]
  rw [show List.replicate 1 EV.un ++ EV.fz w.t :: EV.ow (.d (encA (arcsS w.streets))) :: ρ = EV.un :: EV.fz w.t :: EV.ow (.d (encA (arcsS w.streets))) :: ρ from rfl]
  have : cloop (gN 0) mTrue (mCallN 3 m_ban_fits (mCons (mOp oIxT (mVar 1) (mC (.int 0))) (mCons (mVar 2) (mCons (mVar 0) mNil)))) (EV.un :: EV.fz w.t :: EV.ow (.d (encA (arcsS w.streets))) :: ρ) (w.bans.map pairT) [] = .ok ([] ++ (w.bans.map pairT).map fun t => match t with | .tup [.str a, .str b] => T.bl (banB w (a, b)) | _ => .non) := by
    refine cloop_map (fun t ht => ?_) (by rw [List.length_nil, List.length_map, hsl]; have := h.ban; omega)
    obtain ⟨p, _, rfl⟩ := List.mem_map.mp ht
    refine ⟨_, .fz (.bl (banB w p)), rfl, rfl, ?_, rfl⟩
    unfold mCallN
    simp (implicitDefEqProofs := false) only [mCall, mCons, mNil, mVar_eq, mOp, mC, gN, List.set_cons_zero, List.getElem?_cons_zero, List.getElem?_cons_succ, rdV, bind_ok, List.map_cons, List.map_nil, t_fz, t_bo, t_d, enc_ks, enc_ts, noEr_ok]
    rw [show oIxT w.t (.int 0) = some (.fz (.str w.yard)) from rfl]
    simp (implicitDefEqProofs := false) only [ofO_some, bind_ok, List.map_cons, List.map_nil, t_fz, t_bo, t_d, enc_ks, enc_ts, ban_fits_ok, noEr_ok]
    rfl
  rw [this, List.nil_append, List.map_map, List.map_map]
  rfl
noncomputable def onceB (w : Town) : Bool := decide (dist (w.bans.map pairL) = w.bans.length)
theorem call_once (w : Town) (h : WOk w) (ρ : En) : mCall 1 m_stand_once (mCons (mOp oIxT (mVar 0) (mC (.int 2))) mNil) (EV.fz w.t :: ρ) = .ok (.fz (.bl (onceB w))) := by
  have e0 := once_ok (t := .tup (w.bans.map pairT)) rfl (by simpa using h.ban) (dist_pairs _)
  rw [List.length_map] at e0
  unfold mCall
  rw [show mCons (mOp oIxT (mVar 0) (mC (.int 2))) mNil (EV.fz w.t :: ρ) = .ok [.fz (.tup (w.bans.map pairT))] from rfl, bind_ok]
  simp only [List.length_cons, List.length_nil, Nat.zero_add, if_true, List.map_cons, List.map_nil, t_fz, e0, bind_ok]
  rfl
theorem all_bans (w : Town) (h : WOk w) (ρ : En) : mCB oAll (mCons (mComp 1 (mItT (mOp oIxT (mVar 0) (mC (.int 2)))) (gN 0) mTrue (mCallN 3 m_ban_fits (mCons (mOp oIxT (mVar 1) (mC (.int 0))) (mCons (mVar 2) (mCons (mVar 0) mNil))))) mNil) (EV.fz w.t :: EV.ow (.d (encA (arcsS w.streets))) :: ρ) = .ok (.fz (.bl (w.bans.all (banB w)))) := by
  have e := all_ok (w.bans.map (banB w))
  rw [List.all_map] at e
  unfold mCB
  simp (implicitDefEqProofs := false) only [mCons, mNil, comp_bans w h, bind_ok, List.map_cons, List.map_nil, t_ow, t_l, e, ofO_some]
  rfl
theorem call_courses (w : Town) (h : WOk w) (ρ : En) : mCall 1 m_courses_of (mCons (mVar 0) mNil) (EV.fz w.t :: ρ) = .ok (.ow (.d (encA (arcsS w.streets)))) := by
  unfold mCall
  rw [show mCons (mVar 0) mNil (EV.fz w.t :: ρ) = .ok [.fz w.t] from rfl, bind_ok]
  simp only [List.length_cons, List.length_nil, Nat.zero_add, if_true, List.map_cons, List.map_nil, t_fz, courses_ok w h, bind_ok]
  rfl
theorem bans_fit_ok (w : Town) (h : WOk w) : m_bans_fit [w.t] = .ok (.fz (.bl (onceB w && w.bans.all (banB w)))) := by
  unfold m_bans_fit mb_bans_fit
  simp (implicitDefEqProofs := false) only [mDef, startE, mSeq, mSet, mRet_eq, mAndV, List.map_cons, List.map_nil, List.replicate, List.cons_append, List.nil_append, List.length_cons, List.length_nil, Nat.reduceAdd, Nat.reduceSub, call_courses w h, of_ok, setX_ow, List.set_cons_succ, List.set_cons_zero, seq_nx, call_once w h, bind_ok, b_bl, all_bans w h]
  cases onceB w
  · rfl
  · simp only [if_true, Bool.true_and]; rfl
noncomputable def fitsB (w : Town) : Bool := decide (dist (w.streets.map (·.name)) = w.streets.length) && (w.streets.all numB && (onceB w && w.bans.all (banB w)))
theorem fits_ok (w : Town) (h : WOk w) : m_fits [w.t] = .ok (.fz (.bl (fitsB w))) := by
  have c1 : ∀ ρ, mCall 1 m_names_fit (mCons (mVar 0) mNil) (EV.fz w.t :: ρ) = .ok (.fz (.bl (decide (dist (w.streets.map (·.name)) = w.streets.length)))) := fun ρ => by
    unfold mCall
    rw [show mCons (mVar 0) mNil (EV.fz w.t :: ρ) = .ok [.fz w.t] from rfl, bind_ok]
    simp only [List.length_cons, List.length_nil, Nat.zero_add, if_true, List.map_cons, List.map_nil, t_fz, names_fit_ok w h, bind_ok]
    rfl
  have c2 : ∀ ρ, mCall 1 m_numbers_fit (mCons (mVar 0) mNil) (EV.fz w.t :: ρ) = .ok (.fz (.bl (w.streets.all numB))) := fun ρ => by
    unfold mCall
    rw [show mCons (mVar 0) mNil (EV.fz w.t :: ρ) = .ok [.fz w.t] from rfl, bind_ok]
    simp only [List.length_cons, List.length_nil, Nat.zero_add, if_true, List.map_cons, List.map_nil, t_fz, numbers_fit_ok w h, bind_ok]
    rfl
  have c3 : ∀ ρ, mCall 1 m_bans_fit (mCons (mVar 0) mNil) (EV.fz w.t :: ρ) = .ok (.fz (.bl (onceB w && w.bans.all (banB w)))) := fun ρ => by
    unfold mCall
    rw [show mCons (mVar 0) mNil (EV.fz w.t :: ρ) = .ok [.fz w.t] from rfl, bind_ok]
    simp only [List.length_cons, List.length_nil, Nat.zero_add, if_true, List.map_cons, List.map_nil, t_fz, bans_fit_ok w h, bind_ok]
    rfl
  unfold m_fits mb_fits fitsB
  simp (implicitDefEqProofs := false) only [mDef, startE, mRet_eq, mAndV, List.map_cons, List.map_nil, List.replicate, List.cons_append, List.nil_append, List.length_cons, List.length_nil, Nat.reduceAdd, Nat.reduceSub, c1, c2, c3, bind_ok, b_bl]
  cases decide (dist (w.streets.map (·.name)) = w.streets.length)
  · rfl
  · cases w.streets.all numB
    · rfl
    · rfl
theorem call_fits (w : Town) (h : WOk w) (ρ : En) : mCall 1 m_fits (mCons (mVar 0) mNil) (EV.fz w.t :: ρ) = .ok (.fz (.bl (fitsB w))) := by
  unfold mCall
  rw [show mCons (mVar 0) mNil (EV.fz w.t :: ρ) = .ok [.fz w.t] from rfl, bind_ok]
  simp only [List.length_cons, List.length_nil, Nat.zero_add, if_true, List.map_cons, List.map_nil, t_fz, fits_ok w h, bind_ok]
  rfl
theorem fitted_ok (w : Town) (h : WOk w) (hf : fitsB w = true) : m_fitted [w.t] = .ok (.fz w.t) := by
  unfold m_fitted mb_fitted
  simp (implicitDefEqProofs := false) only [mDef, startE, mSeq, mIf, mNotT, mTest, List.map_cons, List.map_nil, List.replicate, List.cons_append, List.nil_append, List.length_cons, List.length_nil, Nat.reduceAdd, Nat.reduceSub, call_fits w h, hf, bind_ok, b_bl]
  walk_at "mir"
end
section
open SetT
theorem fold_nodup {κ : Type} [DecidableEq κ] : ∀ (xs acc : List κ), (acc ++ xs).Nodup → xs.foldl stepD acc = acc ++ xs
  | [], acc, _ => by simp
  | x :: xs, acc, h => by
    have hx : x ∉ acc := fun z => (List.nodup_append.mp h).2.2 x z x List.mem_cons_self rfl
    have e : stepD acc x = acc ++ [x] := by
      unfold stepD
      rw [if_neg]
      intro q
      obtain ⟨y, h1, h2⟩ := List.any_eq_true.mp q
      rw [of_decide_eq_true h2] at h1
      exact hx h1
    rw [List.foldl_cons, e, fold_nodup xs (acc ++ [x]) (by rw [List.append_assoc]; exact h), List.append_assoc]
    rfl
theorem dist_nodup {κ : Type} [DecidableEq κ] {xs : List κ} (h : xs.Nodup) : dist xs = xs.length := by
  unfold dist
  rw [fold_nodup xs [] (by simpa using h), List.nil_append]
theorem let1_list (i : Int) : (let1 i).cps.toList = [97 + (i % 26).toNat] := by
  obtain ⟨c, h1, _, _, h4⟩ := let_at i
  unfold let1
  rw [h1, h4]
  rfl
theorem base_inj {c i j : Int} (h : baseS c i = baseS c j) : (seedI c / 1664 + 3 * i) % 26 = (seedI c / 1664 + 3 * j) % 26 := by
  have h := congrArg (fun s : Str => s.cps.toList) h
  unfold baseS at h
  simp only [capp, let1_list, List.append_assoc] at h
  have h := List.append_cancel_left h
  simp only [List.cons_append, List.nil_append, List.cons.injEq] at h
  have h := h.1
  have a := mod_lt' (seedI c / 1664 + 3 * i) (n := 26) (by decide)
  have b := mod_lt' (seedI c / 1664 + 3 * j) (n := 26) (by decide)
  omega
theorem nm_inj {c : Int} {i j : Nat} (hi : i ≤ 8) (hj : j ≤ 8) (h : nmS c i = nmS c j) : i = j := by
  have lr : (restS c).length = 1 := let1_len _
  have l1 : ∀ k, (((baseS c k) ++ restS c).length : Int) = sizeI c + 1 := fun k => by rw [strLen_append, lr]; have := base_len c k; omega
  unfold nmS at h
  by_cases a : longI c = 1 ∧ i % 2 = 1 <;> by_cases b : longI c = 1 ∧ j % 2 = 1
  · rw [if_pos a, if_pos b] at h
    have h' := congrArg (fun s : Str => s.cps.toList) h
    simp only [capp] at h'
    have h' := List.append_cancel_right h'
    have e : baseS c ((i : Int) - 1) = baseS c ((j : Int) - 1) := by
      generalize baseS c ((i : Int) - 1) = x at h'
      generalize baseS c ((j : Int) - 1) = y at h'
      cases x; cases y
      simp only at h'
      congr 1
      exact Array.toList_inj.mp h'
    have := base_inj e
    omega
  · rw [if_pos a, if_neg b] at h
    have := congrArg Str.length h
    have e1 := l1 ((i : Int) - 1)
    have e2 := base_len c j
    omega
  · rw [if_neg a, if_pos b] at h
    have := congrArg Str.length h
    have e1 := l1 ((j : Int) - 1)
    have e2 := base_len c i
    omega
  · rw [if_neg a, if_neg b] at h
    have := base_inj h
    omega
theorem names_nodup (c : Int) {n : Nat} (hn : n ≤ 8) : (namesS c n).Nodup := by
  unfold namesS
  rw [List.nodup_iff_pairwise_ne, List.pairwise_map]
  refine List.Pairwise.imp_of_mem ?_ List.nodup_range
  intro a b ha hb hne e
  exact hne (nm_inj (by have := List.mem_range.mp ha; omega) (by have := List.mem_range.mp hb; omega) e)

theorem at0_nat {xs : List Str} {k : Nat} (h : k < xs.length) : at0 xs (k : Int) = xs[k] := by
  unfold at0
  rw [atI_some (by omega) (by omega)]
  simp
theorem ins_nodup {α : Type} {xs : List α} (h : xs.Nodup) {x : α} (hx : x ∉ xs) (p : Nat) : (xs.take p ++ x :: xs.drop p).Nodup := by
  have e : List.Perm (xs.take p ++ x :: xs.drop p) (x :: xs) := by
    have := List.perm_middle (a := x) (l₁ := xs.take p) (l₂ := xs.drop p)
    rwa [List.take_append_drop] at this
  exact e.nodup_iff.mpr (List.nodup_cons.mpr ⟨hx, h⟩)
theorem street_names {ns : List Int} {cs nms : List Str} (hn : nms.Nodup) : ∀ k, k ≤ nms.length → ((streetsS ns cs nms k).map (·.name)).Nodup
  | 0, _ => List.nodup_nil
  | k + 1, hk => by
    have ih := street_names (ns := ns) (cs := cs) hn k (by omega)
    show (((streetsS ns cs nms k).take _ ++ streetS ns cs nms k :: (streetsS ns cs nms k).drop _).map (·.name)).Nodup
    rw [List.map_append, List.map_cons, List.map_take, List.map_drop]
    refine ins_nodup ih (fun hm => ?_) _
    obtain ⟨s, hs, e⟩ := List.mem_map.mp hm
    obtain ⟨j, hj, rfl⟩ := street_mem hs
    have e : at0 nms (j : Int) = at0 nms (k : Int) := e
    rw [at0_nat (by omega), at0_nat (by omega)] at e
    exact List.pairwise_iff_getElem.mp hn j k (by omega) (by omega) hj e
theorem len_pos (c : Int) : 1 ≤ lenI c := by
  unfold lenI
  have := mod_lt' (c / 3) (show (0 : Int) < 9 by decide)
  have := mod_lt' (c / 3 % 10 ^ 30 * 48271 ^ 11) (show (0 : Int) < 10 ^ 60 - 1 by decide)
  split <;> omega
theorem drawn_num {ns : List Int} {cs nms : List Str} {k : Nat} : numB (streetS ns cs nms k) = true := by
  have h1 : 1 ≤ (streetS ns cs nms k).len := len_pos _
  have h2 : (streetS ns cs nms k).ways = 1 ∨ (streetS ns cs nms k).ways = 2 := by
    show wayI _ = 1 ∨ wayI _ = 2
    unfold wayI
    split <;> omega
  unfold numB
  rcases h2 with h2 | h2 <;> simp [h1, h2]
theorem look_some {A : List (Str × Arc)} {a : Str} {v : Arc} (h : lookA A a = some v) : endA A a = v.2.1 ∧ begA A a = v.1 := by
  unfold endA begA
  rw [h]
  exact ⟨rfl, rfl⟩
theorem free_ok (w : Town) {p : Str × Str} (h : p ∈ freeS (arcsS w.streets) w.yard) : banB w p = true := by
  unfold freeS at h
  obtain ⟨a, ha, h⟩ := List.mem_flatMap.mp h
  obtain ⟨b, hb, rfl⟩ := List.mem_map.mp h
  obtain ⟨hb, ho⟩ := List.mem_filter.mp hb
  obtain ⟨u, hu⟩ := look_key ha
  obtain ⟨v, hv⟩ := look_key hb
  unfold okP at ho
  rw [(look_some hu).1, (look_some hv).2] at ho
  unfold banB
  rw [hu, hv]
  exact ho
theorem bans_mem {ns : List Int} {fr : List (Str × Str)} : ∀ {k : Nat} {p : Str × Str}, p ∈ bansS ns fr k → p ∈ fr
  | 0, p, h => by cases h
  | k + 1, p, h => by
    unfold bansS at h
    simp only at h
    split at h
    · rename_i hc
      rcases List.mem_append.mp h with h | h
      · exact bans_mem (List.mem_of_mem_take h)
      · rcases List.mem_cons.mp h with rfl | h
        · unfold pickP
          have hl : (0 : Int) < (fr.length : Int) := by omega
          have := mod_lt' (cellI ns (24 + k)) hl
          rw [atI_some this.1 this.2]
          exact List.getElem_mem _
        · exact bans_mem (List.mem_of_mem_drop h)
    · exact bans_mem h
theorem bans_nodup {ns : List Int} {fr : List (Str × Str)} : ∀ k, (bansS ns fr k).Nodup
  | 0 => List.nodup_nil
  | k + 1 => by
    have ih := bans_nodup (ns := ns) (fr := fr) k
    unfold bansS
    simp only
    split
    · rename_i hc
      exact ins_nodup ih hc.2 _
    · exact ih
theorem pairL_nodup {ps : List (Str × Str)} (h : ps.Nodup) : (ps.map pairL).Nodup := by
  rw [List.nodup_iff_pairwise_ne, List.pairwise_map]
  refine List.Pairwise.imp ?_ h
  intro a b hne e
  unfold pairL at e
  simp only [List.cons.injEq, and_true] at e
  exact hne (Prod.ext e.1 e.2)
theorem drawn_fits (ns : List Int) : fitsB (townS ns) = true := by
  have hm := many_le ns
  have h1 : ((townS ns).streets.map (·.name)).Nodup := street_names (names_nodup _ hm) _ (by rw [names_len]; exact Nat.le_refl _)
  have h2 : (townS ns).streets.all numB = true := List.all_eq_true.mpr fun s hs => by
    obtain ⟨j, _, rfl⟩ := street_mem (show s ∈ streetsS ns (cornersS ns) (namesS (namedI ns) (manyS ns)) (manyS ns) from hs)
    exact drawn_num
  have h3 : onceB (townS ns) = true := by
    unfold onceB
    have hb : (townS ns).bans.Nodup := bans_nodup _
    rw [dist_nodup (pairL_nodup hb), List.length_map]
    exact decide_eq_true rfl
  have h4 : (townS ns).bans.all (banB (townS ns)) = true := List.all_eq_true.mpr fun p hp => free_ok (townS ns) (bans_mem hp)
  unfold fitsB
  rw [dist_nodup h1, List.length_map, h2, h3, h4, decide_eq_true rfl]
  rfl
end
theorem put_keys {A : List (Str × Arc)} {n : Str} {v : Arc} {x : Str} (h : x ∈ keysA (putA A n v)) : x ∈ keysA A ∨ x = n := by
  unfold keysA putA at h
  split at h
  · left
    unfold keysA
    obtain ⟨p, h1, h2⟩ := List.mem_map.mp h
    obtain ⟨q, h3, h4⟩ := List.mem_map.mp h1
    refine List.mem_map.mpr ⟨q, h3, ?_⟩
    rw [← h2, ← h4]
    split <;> rfl
  · rw [List.map_append, List.mem_append] at h
    rcases h with h | h
    · exact .inl h
    · right; simpa using h
theorem keys_fold {x : Str} : ∀ (ss : List Street) (A : List (Str × Arc)), x ∈ keysA (ss.foldl stepA A) → x ∈ keysA A ∨ ∃ s ∈ ss, x = s.name ++ ">" ∨ x = s.name ++ "<"
  | [], A, h => .inl h
  | s :: ss, A, h => by
    rw [List.foldl_cons] at h
    rcases keys_fold ss _ h with h | ⟨s', h1, h2⟩
    · unfold stepA at h
      split at h
      · rcases put_keys h with h | h
        · rcases put_keys h with h | h
          · exact .inl h
          · exact .inr ⟨s, List.mem_cons_self, .inl h⟩
        · exact .inr ⟨s, List.mem_cons_self, .inr h⟩
      · rcases put_keys h with h | h
        · exact .inl h
        · exact .inr ⟨s, List.mem_cons_self, .inl h⟩
    · exact .inr ⟨s', List.mem_cons_of_mem _ h1, h2⟩
theorem keys_mem {x : Str} {ss : List Street} (h : x ∈ keysA (arcsS ss)) : ∃ s ∈ ss, x = s.name ++ ">" ∨ x = s.name ++ "<" := by
  rcases keys_fold ss [] h with h | h
  · simp [keysA] at h
  · exact h
theorem cloop_gen {α : Type} {mg : MG} {mt : MT} {me : ME} {ρ : En} (e : α → T) (p : α → Bool) (u : α → T) : ∀ (xs : List α) (acc : List T), (∀ x ∈ xs, ∃ ρ1, mg (e x) ρ = some ρ1 ∧ mt ρ1 = .ok (p x) ∧ (p x = true → ∃ y, me ρ1 = .ok y ∧ y.dur = some (u x))) → acc.length + xs.length ≤ sizeLine → cloop mg mt me ρ (xs.map e) acc = .ok (acc ++ (xs.filter p).map u)
  | [], acc, h, hl => by rw [List.map_nil, cloop]; simp
  | t :: ts, acc, h, hl => by
    obtain ⟨ρ1, h1, h2, h3⟩ := h t List.mem_cons_self
    rw [List.length_cons] at hl
    rw [List.map_cons, cloop]
    cases hp : p t with
    | true =>
      obtain ⟨x, h4, h5⟩ := h3 hp
      simp only [h1, h2, hp, h4, h5, bind_ok, if_true]
      rw [if_pos (by omega), cloop_gen e p u ts _ (fun y hy => h y (List.mem_cons_of_mem _ hy)) (by rw [List.length_append, List.length_singleton]; omega), List.filter_cons, if_pos hp]
      simp
    | false =>
      simp only [h1, h2, hp, bind_ok, Bool.false_eq_true, if_false]
      rw [cloop_gen e p u ts _ (fun y hy => h y (List.mem_cons_of_mem _ hy)) (by omega), List.filter_cons, if_neg (by rw [hp]; exact Bool.false_ne_true)]
theorem comp_gen {α : Type} {n : Nat} {mi : MI} {mg : MG} {mt : MT} {me : ME} {ρ : En} (e : α → T) (p : α → Bool) (u : α → T) (xs : List α) (hi : mi ρ = .ok (xs.map e)) (hl : xs.length ≤ 1000000) (h : ∀ x ∈ xs, ∃ ρ1, mg (e x) (List.replicate n .un ++ ρ) = some ρ1 ∧ mt ρ1 = .ok (p x) ∧ (p x = true → ∃ y, me ρ1 = .ok y ∧ y.dur = some (u x))) : mComp n mi mg mt me ρ = .ok (.ow (.l ((xs.filter p).map u))) := by
  unfold mComp
  rw [hi, bind_ok, cloop_gen e p u xs [] h (by have := hsl; rw [List.length_nil]; omega)]
  rfl
noncomputable def sp (c : Nat) : List Nat → List (List Nat)
  | [] => [[]]
  | x :: xs => if x = c then [] :: sp c xs else match sp c xs with
    | [] => [[x]]
    | p :: ps => (x :: p) :: ps
noncomputable def interc (c : Nat) : List (List Nat) → List Nat
  | [] => []
  | [p] => p
  | p :: q :: r => p ++ c :: interc c (q :: r)
theorem sp_free {c : Nat} {p : List Nat} (h : c ∉ p) : sp c p = [p] := by
  induction p with
  | nil => rfl
  | cons x p ih =>
    unfold sp
    rw [if_neg (fun z => h (by rw [z]; exact List.mem_cons_self)), ih fun m => h (List.mem_cons_of_mem _ m)]
theorem sp_app {c : Nat} {p : List Nat} (h : c ∉ p) (xs : List Nat) : sp c (p ++ c :: xs) = p :: sp c xs := by
  induction p with
  | nil => show sp c (c :: xs) = _; rw [sp, if_pos rfl]
  | cons x p ih =>
    show sp c (x :: (p ++ c :: xs)) = _
    rw [sp, if_neg (fun z => h (by rw [z]; exact List.mem_cons_self)), ih fun m => h (List.mem_cons_of_mem _ m)]
theorem sp_interc (c : Nat) : ∀ ps : List (List Nat), ps ≠ [] → (∀ p ∈ ps, c ∉ p) → sp c (interc c ps) = ps
  | [], h, _ => absurd rfl h
  | [p], _, hf => sp_free (hf p List.mem_cons_self)
  | p :: q :: r, _, hf => by
    show sp c (p ++ c :: interc c (q :: r)) = _
    rw [sp_app (hf p List.mem_cons_self), sp_interc c (q :: r) (by simp) fun x hx => hf x (List.mem_cons_of_mem _ hx)]
theorem cps_app (a b : Str) : (a ++ b).cps.toList = a.cps.toList ++ b.cps.toList := by
  show (a.cps ++ b.cps).toList = _; simp
theorem join_list (c : Nat) : ∀ ps : List Str, (Str.join ⟨#[c]⟩ ps).cps.toList = interc c (ps.map fun p => p.cps.toList)
  | [] => rfl
  | [p] => rfl
  | p :: q :: r => by
    show (p ++ ⟨#[c]⟩ ++ Str.join ⟨#[c]⟩ (q :: r)).cps.toList = _
    rw [cps_app, cps_app, join_list c (q :: r)]
    simp [interc]
theorem split_ne (x : Str) (c : Nat) : Txt.split x ⟨#[c]⟩ ≠ [] := by
  unfold Txt.split
  split
  · simp
  · split
    · simp
    · unfold Builtin.Str.partsBetween; simp
theorem split_sp (x : Str) (c : Nat) : (Txt.split x ⟨#[c]⟩).map (fun p => p.cps.toList) = sp c x.cps.toList := by
  have h1 := StrLaws.join_split x ⟨#[c]⟩
  have h2 := StrLaws.split_free x c
  have h3 := split_ne x c
  generalize Txt.split x ⟨#[c]⟩ = ps at h1 h2 h3
  rw [← h1, join_list, sp_interc]
  · simpa using h3
  · intro p hp
    obtain ⟨q, hq, rfl⟩ := List.mem_map.mp hp
    exact h2 q hq
theorem str_ext {a b : Str} (h : a.cps.toList = b.cps.toList) : a = b := by
  cases a; cases b; congr 1; exact Array.ext' h
theorem maps_inj : ∀ {ps qs : List Str}, ps.map (fun p => p.cps.toList) = qs.map (fun p => p.cps.toList) → ps = qs
  | [], [], _ => rfl
  | [], q :: qs, h => by simp at h
  | p :: ps, [], h => by simp at h
  | p :: ps, q :: qs, h => by
    simp only [List.map_cons, List.cons.injEq] at h
    rw [str_ext h.1, maps_inj h.2]

theorem nl_eq : ("\n" : Str) = ⟨#[10]⟩ := by decide +kernel
theorem bl_eq : (" " : Str) = ⟨#[32]⟩ := by decide +kernel
theorem len_cps (x : Str) : x.cps.toList.length = x.length := by simp [Str.length]
theorem split_join {c : Nat} {ps : List Str} (h : ps ≠ []) (hf : ∀ p ∈ ps, c ∉ p.cps.toList) : Txt.split (Str.join ⟨#[c]⟩ ps) ⟨#[c]⟩ = ps := by
  apply maps_inj
  rw [split_sp, join_list, sp_interc]
  · simpa using h
  · intro p hp
    obtain ⟨q, hq, rfl⟩ := List.mem_map.mp hp
    exact hf q hq
theorem dig_all (m : Nat) (hm : 0 < m) : ∃ c r, (Nat.toDigits 10 m).map Char.toNat = c :: r ∧ 49 ≤ c ∧ PySem.NumText.AllDigits (c :: r) ∧ 10 ^ r.length ≤ m := by
  induction m using Nat.strongRecOn with
  | _ m ih =>
    have hd : ∀ d : Nat, d < 10 → (Nat.digitChar d).toNat = 48 + d := by decide
    by_cases h : m < 10
    · refine ⟨48 + m, [], ?_, by omega, ?_, by simp; omega⟩
      · rw [Nat.toDigits_of_lt_base h]
        show [(Nat.digitChar m).toNat] = _
        rw [hd m h]
      · intro d hd'
        rw [List.mem_singleton.mp hd']; omega
    · obtain ⟨c, r, e1, e2, e3, e4⟩ := ih (m / 10) (by omega) (by omega)
      have hm10 : m % 10 < 10 := Nat.mod_lt _ (by decide)
      refine ⟨c, r ++ [48 + m % 10], ?_, e2, ?_, ?_⟩
      · have e : m = 10 * (m / 10) + m % 10 := by omega
        have := Nat.toDigits_append_toDigits (b := 10) (n := m / 10) (d := m % 10) (by decide) (by omega) hm10
        rw [← e] at this
        rw [← this, List.map_append, e1, Nat.toDigits_of_lt_base hm10]
        show _ ++ [(Nat.digitChar (m % 10)).toNat] = _
        rw [hd _ hm10]
        rfl
      · intro d hd'
        rw [← List.cons_append] at hd'
        rcases List.mem_append.mp hd' with hd' | hd'
        · exact e3 d hd'
        · rw [List.mem_singleton.mp hd']; omega
      · rw [List.length_append, List.length_singleton, Nat.pow_succ]
        omega
noncomputable def numS (n : Int) : Str := Str.ofString (toString n)
theorem num_facts {n : Int} (h0 : 1 ≤ n) (h1 : n < 10 ^ 60) : ∃ c r, (numS n).cps.toList = c :: r ∧ 49 ≤ c ∧ PySem.NumText.AllDigits (c :: r) ∧ r.length < 60 ∧ PySem.intText? (numS n) = some n := by
  obtain ⟨m, rfl⟩ := Int.eq_ofNat_of_zero_le (show 0 ≤ n by omega)
  obtain ⟨c, r, e1, e2, e3, e4⟩ := dig_all m (by omega)
  have hc : (numS (m : Int)).cps.toList = c :: r := by unfold numS; rw [PySem.W.KIN.signs_num, e1]
  have hl : r.length < 60 := by
    rcases Nat.lt_or_ge r.length 60 with h | h
    · exact h
    · have : 10 ^ 60 ≤ 10 ^ r.length := Nat.pow_le_pow_right (by decide) h
      have h2 : (m : Int) < ((10 ^ 60 : Nat) : Int) := by
        have e : ((10 ^ 60 : Nat) : Int) = 10 ^ 60 := by decide +kernel
        rw [e]; exact h1
      omega
  refine ⟨c, r, hc, e2, e3, hl, ?_⟩
  rw [PySem.intText_digits (by rw [hc]; exact e3) (by rw [hc]; simp) (by rw [← len_cps, hc, List.length_cons]; omega), hc, ← e1, PySem.W.KIN.val_back]
theorem has_one (x : Str) (c : Nat) : hasT x ⟨#[c]⟩ = decide (c ∈ x.cps.toList) := StrLaws.found_one x c
theorem made_ok (x signs : Str) (hl : x.length ≤ 1000000) : m_is_made_of [.str x, .str signs] = .ok (.fz (.bl (x.cps.toList.all fun c => decide (c ∈ signs.cps.toList)))) := by
  have hsz := hsl
  have hc : mComp 1 (mItS (mVar 0)) (gN 0) mTrue (mOp oInS (mVar 0) (mVar 2)) [.fz (.str x), .fz (.str signs)] = .ok (.ow (.l ((x.cps.toList.map fun c => decide (c ∈ signs.cps.toList)).map T.bl))) := by
    unfold mComp
    rw [show mItS (mVar 0) [.fz (.str x), .fz (.str signs)] = .ok (x.cps.toList.map fun c => .str ⟨#[c]⟩) from rfl, bind_ok]
    have : cloop (gN 0) mTrue (mOp oInS (mVar 0) (mVar 2)) (List.replicate 1 EV.un ++ [EV.fz (.str x), EV.fz (.str signs)]) (x.cps.toList.map fun c => T.str ⟨#[c]⟩) [] = .ok ([] ++ (x.cps.toList.map fun c => T.str ⟨#[c]⟩).map fun t => match t with | .str y => .bl (hasT signs y) | _ => .non) := by
      refine cloop_map (fun t ht => ?_) (by rw [List.length_nil, List.length_map, len_cps]; omega)
      obtain ⟨c, _, rfl⟩ := List.mem_map.mp ht
      exact ⟨_, .fz (.bl (hasT signs ⟨#[c]⟩)), rfl, rfl, rfl, rfl⟩
    rw [this, List.nil_append, List.map_map, List.map_map]
    show Rs.ok (XV.ow (Ow.l (x.cps.toList.map fun c => T.bl (hasT signs ⟨#[c]⟩)))) = _
    simp only [has_one]
    rfl
  unfold m_is_made_of mb_is_made_of
  simp (implicitDefEqProofs := false) only [mDef, startE, List.map_cons, List.map_nil, List.length_cons, List.length_nil, Nat.reduceAdd, Nat.zero_add, Nat.reduceSub, List.replicate, List.append_nil, mRet_eq, mCB, mCons, mNil, hc, bind_ok, t_ow, t_l, oAll, boolsT_map, Option.bind_some]
  rw [show (x.cps.toList.map fun c => decide (c ∈ signs.cps.toList)).all id = x.cps.toList.all fun c => decide (c ∈ signs.cps.toList) by rw [List.all_map]; rfl]
  rfl
noncomputable def lettersB (x : Str) : Bool := x.cps.toList.all fun c => decide (c ∈ ("abcdefghijklmnopqrstuvwxyz" : Str).cps.toList)
noncomputable def figuresB (x : Str) : Bool := x.cps.toList.all fun c => decide (c ∈ ("0123456789" : Str).cps.toList)
noncomputable def nameB (x : Str) : Bool := decide (1 ≤ x.length) && decide (x.length ≤ 8) && lettersB x
theorem name_ok (x : Str) (hl : x.length ≤ 1000000) : m_is_name [.str x] = .ok (.fz (.bl (nameB x))) := by
  have hsz := hsl
  have hm := made_ok x "abcdefghijklmnopqrstuvwxyz" hl
  unfold m_is_name mb_is_name nameB
  walk_at "mir"
  simp only [oLenS]
  rw [if_pos (show x.length ≤ sizeLine by omega)]
  walk_at "mir"
  by_cases h1 : 1 ≤ x.length
  · by_cases h8 : x.length ≤ 8
    · rw [if_pos (show (1 : Int) ≤ (x.length : Int) by omega)]
      walk_at "mir"
      rw [if_pos (show (x.length : Int) ≤ 8 by omega), hm]
      walk_at "mir"
      simp only [h1, h8, decide_true, Bool.true_and]
      rfl
    · rw [if_pos (show (1 : Int) ≤ (x.length : Int) by omega)]
      walk_at "mir"
      rw [if_neg (show ¬ (x.length : Int) ≤ 8 by omega)]
      simp only [h1, h8, decide_true, decide_false, Bool.and_false, Bool.false_and]
      rfl
  · rw [if_neg (show ¬ (1 : Int) ≤ (x.length : Int) by omega)]
    walk_at "mir"
    simp only [h1, decide_false, Bool.false_and]
theorem nam_lettersB {x : Str} (h : Nam x) : nameB x = true := by
  unfold nameB lettersB
  have e : ∀ c, 97 ≤ c → c ≤ 122 → c ∈ ("abcdefghijklmnopqrstuvwxyz" : Str).cps.toList := by
    intro c h1 h2
    obtain ⟨d, rfl⟩ : ∃ d, c = 97 + d := ⟨c - 97, by omega⟩
    have hd : d < 26 := by omega
    revert hd
    clear h1 h2
    have : ∀ d, d < 26 → 97 + d ∈ ("abcdefghijklmnopqrstuvwxyz" : Str).cps.toList := by decide +kernel
    exact this d
  rw [decide_eq_true h.1, decide_eq_true h.2.1]
  simp only [Bool.true_and, List.all_eq_true, decide_eq_true_eq]
  exact fun c hc => e c (h.2.2 c hc).1 (h.2.2 c hc).2
noncomputable def numBW (x : Str) : Bool := decide (1 ≤ x.length) && decide (x.length ≤ 60) && !decide (x.cps.toList.head? = some 48) && figuresB x
theorem ix_first {x : Str} {c : Nat} {r : List Nat} (h : x.cps.toList = c :: r) (hl : x.length ≤ 1000000) : oIxS (.str x) (.int 0) = some (.fz (.str ⟨#[c]⟩)) := by
  have hsz := hsl
  show (if x.length ≤ sizeLine then (atI x.cps.toList 0).bind fun c => some (XV.fz (.str ⟨#[c]⟩)) else none) = _
  rw [if_pos (by omega), h, atI_some (by decide) (by rw [List.length_cons]; omega)]
  rfl
theorem one_eq (c : Nat) : decide ((⟨#[c]⟩ : Str) = ("0" : Str)) = decide (c = 48) := by
  have e : ("0" : Str) = ⟨#[48]⟩ := by decide +kernel
  rw [e, Bool.eq_iff_iff, decide_eq_true_eq, decide_eq_true_eq]
  constructor
  · intro h
    have := congrArg (fun z : Str => z.cps.toList) h
    simpa using this
  · intro h; rw [h]
theorem number_ok (x : Str) (hl : x.length ≤ 1000000) : m_is_number [.str x] = .ok (.fz (.bl (numBW x))) := by
  have hsz := hsl
  have hm := made_ok x "0123456789" hl
  unfold m_is_number mb_is_number numBW
  walk_at "mir"
  simp only [oLenS]
  rw [if_pos (show x.length ≤ sizeLine by omega)]
  walk_at "mir"
  by_cases h1 : 1 ≤ x.length
  · by_cases h8 : x.length ≤ 60
    · rw [if_pos (show (1 : Int) ≤ (x.length : Int) by omega)]
      walk_at "mir"
      rw [if_pos (show (x.length : Int) ≤ 60 by omega)]
      cases hx : x.cps.toList with
      | nil => have := len_cps x; rw [hx] at this; simp at this; omega
      | cons c r =>
        rw [ix_first hx hl]
        walk_at "mir"
        simp only [one_eq, h1, h8, decide_true, Bool.true_and, List.head?_cons, Option.some.injEq]
        by_cases h0 : c = 48
        · simp only [h0, decide_true, Bool.not_true, Bool.false_eq_true, if_false, Bool.false_and]
          walk_at "mir"
        · simp only [h0, decide_false, Bool.not_false, if_true, Bool.true_and]
          rw [hm]
          walk_at "mir"
          rfl
    · rw [if_pos (show (1 : Int) ≤ (x.length : Int) by omega)]
      walk_at "mir"
      rw [if_neg (show ¬ (x.length : Int) ≤ 60 by omega)]
      simp only [h1, h8, decide_true, decide_false, Bool.and_false, Bool.false_and]
      rfl
  · rw [if_neg (show ¬ (1 : Int) ≤ (x.length : Int) by omega)]
    walk_at "mir"
    simp only [h1, decide_false, Bool.false_and]
theorem num_number {n : Int} (h0 : 1 ≤ n) (h1 : n < 10 ^ 60) : numBW (numS n) = true ∧ (numS n).length ≤ 60 := by
  obtain ⟨c, r, e1, e2, e3, e4, _⟩ := num_facts h0 h1
  have hl : (numS n).length = r.length + 1 := by rw [← len_cps, e1, List.length_cons]
  refine ⟨?_, by omega⟩
  unfold numBW figuresB
  rw [e1, decide_eq_true (show 1 ≤ (numS n).length by omega), decide_eq_true (show (numS n).length ≤ 60 by omega)]
  have e : ∀ c, 48 ≤ c ∧ c ≤ 57 → c ∈ ("0123456789" : Str).cps.toList := by
    intro c h
    obtain ⟨d, rfl⟩ : ∃ d, c = 48 + d := ⟨c - 48, by omega⟩
    have hd : d < 10 := by omega
    have : ∀ d, d < 10 → 48 + d ∈ ("0123456789" : Str).cps.toList := by decide +kernel
    exact this d hd
  have hne : decide ((c :: r).head? = some 48) = false := by
    rw [decide_eq_false_iff_not, List.head?_cons, Option.some.injEq]; omega
  rw [hne]
  simp only [Bool.true_and, Bool.not_false, List.all_eq_true, decide_eq_true_eq]
  exact fun d hd => e d (e3 d hd)
theorem slice_last {x : Str} {c : Nat} : Txt.slice (x ++ ⟨#[c]⟩) (some (-1)) none = ⟨#[c]⟩ := by
  have hl : (x ++ (⟨#[c]⟩ : Str)).length = x.length + 1 := by rw [strLen_append]; rfl
  have := StrLaws.sliceText_from_neg (x := x ++ ⟨#[c]⟩) (i := -1) (by decide) (by omega)
  refine Eq.trans (show Txt.slice _ _ _ = StrLaws.sliceText _ _ _ from rfl) (this.trans ?_)
  rw [show ((-1 : Int) + ((x ++ (⟨#[c]⟩ : Str)).length : Int)).toNat = x.length by omega, cps_app]
  rw [List.drop_left' (len_cps x)]
  rw [show (((x.cps.toList ++ (⟨#[c]⟩ : Str).cps.toList).length : Nat) : Int) - (-1 + ((x ++ (⟨#[c]⟩ : Str)).length : Int)) = 1 by rw [List.length_append, len_cps, len_cps, hl]; show ((x.length + 1 : Nat) : Int) - _ = _; omega]
  rfl
theorem slice_init {x : Str} {c : Nat} : Txt.slice (x ++ ⟨#[c]⟩) none (some (-1)) = x := by
  have hl : (x ++ (⟨#[c]⟩ : Str)).length = x.length + 1 := by rw [strLen_append]; rfl
  have := StrLaws.sliceText_to_neg (x := x ++ ⟨#[c]⟩) (j := -1) (by decide) (by omega)
  refine Eq.trans (show Txt.slice _ _ _ = StrLaws.sliceText _ _ _ from rfl) (this.trans ?_)
  rw [show ((-1 : Int) + ((x ++ (⟨#[c]⟩ : Str)).length : Int) - 0).toNat = x.length by omega, cps_app, List.drop_zero, List.take_left' (len_cps x)]
theorem gt_eq : (">" : Str) = ⟨#[62]⟩ := by decide +kernel
theorem lt_eq : ("<" : Str) = ⟨#[60]⟩ := by decide +kernel
theorem side_true {x : Str} (h : Nam x) {c : Nat} (hc : c = 62 ∨ c = 60) : m_is_side [.str (x ++ ⟨#[c]⟩)] = .ok (.fz (.bl true)) := by
  have hsz := hsl
  have hl : (x ++ (⟨#[c]⟩ : Str)).length = x.length + 1 := by rw [strLen_append]; rfl
  have hx := h.2.1
  have hn := name_ok x (by omega)
  rw [nam_lettersB h] at hn
  have hin : oIn false (.str ⟨#[c]⟩) (.tup [.str ">", .str "<"]) = some (.fz (.bl true)) := by
    rw [show T.tup [.str ">", .str "<"] = .tup (([">", "<"] : List Str).map T.str) from rfl]
    unfold oIn
    rw [if_pos (show T.flat (.str ⟨#[c]⟩) = true from rfl)]
    simp only [flats_str, any_str, if_true, Bool.false_eq_true, if_false]
    rw [gt_eq, lt_eq]
    rcases hc with rfl | rfl
    · rw [decide_eq_true (by simp)]
    · rw [decide_eq_true (by simp)]
  unfold m_is_side mb_is_side
  walk_at "mir"
  simp only [oSlS]
  have hle : (x ++ (⟨#[c]⟩ : Str)).length ≤ sizeLine := by omega
  simp only [if_pos hle, slice_last, slice_init]
  iterate 5 (walk_at "mir"; (try simp only [hin, hn, if_pos hle]))
def bad (x : Str) : Prop := ("" : Str) ∈ Txt.split x ⟨#[32]⟩
noncomputable instance (x : Str) : Decidable (bad x) := by unfold bad; infer_instance
theorem rows_ok (x : Str) (h : x.length ≤ 1000000) : m_rows_of [.str x] = .ok (.ow (.l ((if x = "" then [] else Txt.split x ⟨#[10]⟩).map T.str))) := by
  have hs := hsl
  unfold m_rows_of mb_rows_of
  rw [nl_eq]
  walk_at "mir"
  by_cases e : x = ""
  · simp only [if_pos e]
    walk_at "mir"
  · simp only [if_neg e]
    walk_at "mir"
    simp only [oSplit]
    rw [if_pos ⟨rfl, by omega⟩]
    walk_at "mir"
theorem words_good (x : Str) (h : x.length ≤ 100000) (hb : ¬ bad x) : m_words_of [.str x] = .ok (.ow (.l ((Txt.split x ⟨#[32]⟩).map T.str))) := by
  have hs := hsl
  unfold m_words_of mb_words_of
  rw [bl_eq]
  walk_at "mir"
  simp only [oSplit]
  rw [if_pos ⟨rfl, by omega⟩]
  walk_at "mir"
  simp only [oIn, T.flat, if_true, flats_str, any_str]
  walk_at "mir"
  unfold bad at hb
  simp only [if_neg hb]
  walk_at "mir"
theorem txt_join (z : Str) (ys : List Str) : Txt.join z ys = Str.join z ys := StrLaws.glued_eq_join _ _
structure SGood (s : Street) : Prop where
  nam : SNam s
  lo : 1 ≤ s.len
  hi : s.len < 10 ^ 60
  way : s.ways = 1 ∨ s.ways = 2
def IsSide (x : Str) : Prop := ∃ n : Str, Nam n ∧ (x = n ++ ">" ∨ x = n ++ "<")
structure TGood (w : Town) : Prop where
  st : ∀ s ∈ w.streets, SGood s
  bn : ∀ p ∈ w.bans, IsSide p.1 ∧ IsSide p.2
  yard : Nam w.yard
  len : w.streets.length ≤ 17
  ban : w.bans.length ≤ 17
noncomputable def wayW (s : Street) : Str := if s.ways = 1 then "lane" else "street"
noncomputable def wordsR (s : Street) : List Str := [wayW s, s.name, s.first, s.second, numS s.len]
noncomputable def wordsB (p : Str × Str) : List Str := ["ban", p.1, p.2]
noncomputable def wordsY (w : Town) : List Str := ["yard", w.yard]
noncomputable def rowsW (w : Town) : List (List Str) := wordsY w :: (w.streets.map wordsR ++ w.bans.map wordsB)
noncomputable def joinB (ws : List Str) : Str := Str.join ⟨#[32]⟩ ws
noncomputable def textS (w : Town) : Str := Str.join ⟨#[10]⟩ ((rowsW w).map joinB)
theorem side_len {x : Str} (h : IsSide x) : x.length ≤ 9 := by
  obtain ⟨n, hn, rfl | rfl⟩ := h
  · rw [strLen_append, gt_len]; have := hn.2.1; omega
  · rw [strLen_append, lt_len]; have := hn.2.1; omega
theorem way_len (s : Street) : (wayW s).length ≤ 6 := by unfold wayW; split <;> decide +kernel
theorem log2_len {n : Int} (h0 : 1 ≤ n) (h1 : n < 10 ^ 60) : n.natAbs.log2 < 1920 := by
  have hne : n.natAbs ≠ 0 := by omega
  rw [Nat.log2_lt hne]
  have h2 : n.natAbs < 10 ^ 60 := by
    have e : ((10 ^ 60 : Nat) : Int) = 10 ^ 60 := by decide +kernel
    omega
  exact Nat.lt_of_lt_of_le h2 (by decide +kernel)
theorem join_ok (c : Nat) (ys : List Str) (h : (ys.map (·.length)).sum + ys.length ≤ 100000) : oJoin (.str ⟨#[c]⟩) [.lst (ys.map T.str)] = some (.fz (.str (Str.join ⟨#[c]⟩ ys))) := by
  show (strsT (ys.map T.str)).bind _ = _
  rw [strsT_map, Option.bind_some, if_pos (by show _ + ys.length * 1 ≤ _; omega), txt_join]
theorem words_sum {s : Street} (h : SGood s) : ((wordsR s).map (·.length)).sum ≤ 100 := by
  have h1 := way_len s
  have h2 := h.nam.name.2.1
  have h3 := h.nam.first.2.1
  have h4 := h.nam.second.2.1
  have h5 := (num_number h.lo h.hi).2
  show (wayW s).length + (s.name.length + (s.first.length + (s.second.length + ((numS s.len).length + 0)))) ≤ 100
  omega
theorem street_row_ok (s : Street) (h : SGood s) : m_street_row [s.t] = .ok (.fz (.str (joinB (wordsR s)))) := by
  have e0 : oIxT s.t (.int 0) = some (.fz (.str s.name)) := rfl
  have e1 : oIxT s.t (.int 1) = some (.fz (.str s.first)) := rfl
  have e2 : oIxT s.t (.int 2) = some (.fz (.str s.second)) := rfl
  have e3 : oIxT s.t (.int 3) = some (.fz (.int s.len)) := rfl
  have e4 : oIxT s.t (.int 4) = some (.fz (.int s.ways)) := rfl
  have hs : oStrI [.int s.len] = some (.fz (.str (numS s.len))) := by
    show (if s.len.natAbs.log2 < 1920 then _ else none) = _
    rw [if_pos (log2_len h.lo h.hi)]; rfl
  have hw := words_sum h
  have hj := join_ok 32 (wordsR s) (by show _ + 5 ≤ _; omega)
  have hset : (mIfE (mTest (mOp oEq (mOp oIxT (mVar 0) (mC (.int 4))) (mC (.int 1)))) (mC (.str "lane")) (mC (.str "street"))) [.fz s.t, .un] = .ok (.fz (.str (wayW s))) := by
    walk_at "mir"
    rw [e4]
    walk_at "mir"
    unfold wayW
    by_cases hh : s.ways = 1
    · simp only [hh, if_true]
    · simp only [hh, if_false]
  unfold m_street_row mb_street_row
  rw [bl_eq]
  simp (implicitDefEqProofs := false) only [mDef, startE, List.map_cons, List.map_nil, List.length_cons, List.length_nil, Nat.reduceAdd, Nat.zero_add, Nat.reduceSub, List.replicate, List.cons_append, List.nil_append, mSeq, mSet, hset, of_ok, setX_fz, seq_nx, List.set_cons_succ, List.set_cons_zero]
  iterate 5 (walk_at "mir"; (try simp only [e0, e1, e2, e3, hs]))
  rw [show [T.str (wayW s), T.str s.name, T.str s.first, T.str s.second, T.str (numS s.len)] = (wordsR s).map T.str from rfl, hj]
  walk_at "mir"
  rfl
theorem ban_row_ok (p : Str × Str) (h : IsSide p.1 ∧ IsSide p.2) : m_ban_row [pairT p] = .ok (.fz (.str (joinB (wordsB p)))) := by
  have e0 : oIxT (pairT p) (.int 0) = some (.fz (.str p.1)) := rfl
  have e1 : oIxT (pairT p) (.int 1) = some (.fz (.str p.2)) := rfl
  have l1 := side_len h.1
  have l2 := side_len h.2
  have l0 : ("ban" : Str).length = 3 := by decide +kernel
  have hj := join_ok 32 (wordsB p) (by show ("ban" : Str).length + (p.1.length + (p.2.length + 0)) + 3 ≤ _; omega)
  unfold m_ban_row mb_ban_row
  rw [bl_eq]
  iterate 3 (walk_at "mir"; (try simp only [e0, e1]))
  rw [show [T.str "ban", T.str p.1, T.str p.2] = (wordsB p).map T.str from rfl, hj]
  walk_at "mir"
  rfl
theorem join_len (c : Nat) (ys : List Str) : (Str.join ⟨#[c]⟩ ys).length ≤ (ys.map (·.length)).sum + ys.length := by
  have h := StrLaws.join_length_le (⟨#[c]⟩ : Str) ys
  have e : (⟨#[c]⟩ : Str).length = 1 := rfl
  rw [e, Nat.mul_one] at h
  exact h
theorem rowR_len {s : Street} (h : SGood s) : (joinB (wordsR s)).length ≤ 105 := by
  have := join_len 32 (wordsR s)
  have h2 := words_sum h
  have e : (wordsR s).length = 5 := rfl
  unfold joinB; omega
theorem rowB_len {p : Str × Str} (h : IsSide p.1 ∧ IsSide p.2) : (joinB (wordsB p)).length ≤ 105 := by
  have := join_len 32 (wordsB p)
  have l1 := side_len h.1
  have l2 := side_len h.2
  have l0 : ("ban" : Str).length = 3 := by decide +kernel
  have e : ((wordsB p).map (·.length)).sum + (wordsB p).length = ("ban" : Str).length + (p.1.length + (p.2.length + 0)) + 3 := rfl
  unfold joinB; omega
theorem rowY_len {w : Town} (h : TGood w) : (joinB (wordsY w)).length ≤ 105 := by
  have := join_len 32 (wordsY w)
  have l1 := h.yard.2.1
  have l0 : ("yard" : Str).length = 4 := by decide +kernel
  have e : ((wordsY w).map (·.length)).sum + (wordsY w).length = ("yard" : Str).length + (w.yard.length + 0) + 2 := rfl
  unfold joinB; omega
theorem rows_le {w : Town} (h : TGood w) : ∀ r ∈ (rowsW w).map joinB, r.length ≤ 105 := by
  intro r hr
  obtain ⟨ws, hw, rfl⟩ := List.mem_map.mp hr
  unfold rowsW at hw
  rcases List.mem_cons.mp hw with rfl | hw
  · exact rowY_len h
  · rcases List.mem_append.mp hw with hw | hw
    · obtain ⟨s, hs, rfl⟩ := List.mem_map.mp hw
      exact rowR_len (h.st s hs)
    · obtain ⟨p, hp, rfl⟩ := List.mem_map.mp hw
      exact rowB_len (h.bn p hp)
theorem sum_le {ys : List Str} {m : Nat} (h : ∀ y ∈ ys, y.length ≤ m) : (ys.map (·.length)).sum ≤ ys.length * m := by
  induction ys with
  | nil => simp
  | cons y ys ih =>
    have := h y List.mem_cons_self
    have := ih fun z hz => h z (List.mem_cons_of_mem _ hz)
    rw [List.map_cons, List.sum_cons, List.length_cons, Nat.succ_mul]
    omega
theorem rowsW_len {w : Town} (h : TGood w) : (rowsW w).length ≤ 35 := by
  have h1 := h.len
  have h2 := h.ban
  unfold rowsW
  rw [List.length_cons, List.length_append, List.length_map, List.length_map]
  omega
theorem rows_sum {w : Town} (h : TGood w) : (((rowsW w).map joinB).map (·.length)).sum + ((rowsW w).map joinB).length ≤ 10000 := by
  have h1 := sum_le (rows_le h)
  have h2 := rowsW_len h
  rw [List.length_map] at h1 ⊢
  have : (rowsW w).length * 105 ≤ 35 * 105 := Nat.mul_le_mul_right _ h2
  omega
theorem text_len {w : Town} (h : TGood w) : (textS w).length ≤ 10000 := Nat.le_trans (join_len 10 _) (rows_sum h)
theorem show_ok (w : Town) (h : TGood w) : m_show [w.t] = .ok (.fz (.str (textS w))) := by
  have hsz := hsl
  have hst := h.len
  have hbn := h.ban
  have e0 : oIxT w.t (.int 0) = some (.fz (.str w.yard)) := rfl
  have hj0 := join_ok 32 (wordsY w) (by
    have l1 := h.yard.2.1
    have l0 : ("yard" : Str).length = 4 := by decide +kernel
    show ("yard" : Str).length + (w.yard.length + 0) + 2 ≤ _; omega)
  have hj := join_ok 10 ((rowsW w).map joinB) (by have := rows_sum h; omega)
  have hl : mLst (mCons (mBM T.isStr oJoin (mC (.str ⟨#[32]⟩)) (mCons (mLst (mCons (mC (.str "yard")) (mCons (mOp oIxT (mVar 0) (mC (.int 0))) mNil))) mNil)) mNil) [.fz w.t, .un] = .ok (.ow (.l [.str (joinB (wordsY w))])) := by
    iterate 2 (walk_at "mir"; (try simp only [e0]))
    rw [show [T.str "yard", T.str w.yard] = (wordsY w).map T.str from rfl, hj0]
    walk_at "mir"
    rfl
  have c1 : ∀ a : EV, mComp 1 (mItT (mOp oIxT (mVar 0) (mC (.int 1)))) (gN 0) mTrue (mCallN 1 m_street_row (mCons (mVar 0) mNil)) [.fz w.t, a] = .ok (.ow (.l ((w.streets.map fun s => joinB (wordsR s)).map T.str))) := by
    intro a
    rw [comp_gen Street.t (fun _ => true) (fun s => .str (joinB (wordsR s))) w.streets rfl (by omega) fun s hs => ⟨_, rfl, rfl, fun _ => ⟨.fz (.str (joinB (wordsR s))), ?_, rfl⟩⟩]
    · rw [show w.streets.filter (fun _ => true) = w.streets from List.filter_eq_self.mpr fun _ _ => rfl, List.map_map]
      rfl
    · walk_at "mir"
      rw [street_row_ok s (h.st s hs)]
      walk_at "mir"
  have c2 : ∀ a : EV, mComp 1 (mItT (mOp oIxT (mVar 0) (mC (.int 2)))) (gN 0) mTrue (mCallN 1 m_ban_row (mCons (mVar 0) mNil)) [.fz w.t, a] = .ok (.ow (.l ((w.bans.map fun p => joinB (wordsB p)).map T.str))) := by
    intro a
    rw [comp_gen pairT (fun _ => true) (fun p => .str (joinB (wordsB p))) w.bans rfl (by omega) fun p hp => ⟨_, rfl, rfl, fun _ => ⟨.fz (.str (joinB (wordsB p))), ?_, rfl⟩⟩]
    · rw [show w.bans.filter (fun _ => true) = w.bans from List.filter_eq_self.mpr fun _ _ => rfl, List.map_map]
      rfl
    · walk_at "mir"
      rw [ban_row_ok p (h.bn p hp)]
      walk_at "mir"
  unfold m_show mb_show
  rw [bl_eq, nl_eq]
  simp (implicitDefEqProofs := false) only [mDef, startE, List.map_cons, List.map_nil, List.length_cons, List.length_nil, Nat.reduceAdd, Nat.zero_add, Nat.reduceSub, List.replicate, List.cons_append, List.nil_append, mSeq, mSet, hl, of_ok, setX_ow, seq_nx, List.set_cons_succ, List.set_cons_zero]
  rw [mMut_at (ts := [.str (joinB (wordsY w))]) rfl]
  simp (implicitDefEqProofs := false) only [mCons, mNil, c1, bind_ok, of_ok, durs, dur_ow, t_l, Option.bind_some, uextend]
  rw [if_pos (by rw [List.length_map, List.length_map, List.length_singleton]; omega)]
  simp (implicitDefEqProofs := false) only [nxL, seq_nx, List.set_cons_succ, List.set_cons_zero, mSeq]
  rw [mMut_at (ts := [.str (joinB (wordsY w))] ++ (w.streets.map fun s => joinB (wordsR s)).map T.str) rfl]
  simp (implicitDefEqProofs := false) only [mCons, mNil, c2, bind_ok, of_ok, durs, dur_ow, t_l, Option.bind_some, uextend]
  rw [if_pos (by rw [List.length_append, List.length_map, List.length_map, List.length_map, List.length_map, List.length_singleton]; omega)]
  simp (implicitDefEqProofs := false) only [nxL, seq_nx, List.set_cons_succ, List.set_cons_zero]
  rw [show [T.str (joinB (wordsY w))] ++ (w.streets.map fun s => joinB (wordsR s)).map T.str ++ (w.bans.map fun p => joinB (wordsB p)).map T.str = ((rowsW w).map joinB).map T.str by
    unfold rowsW
    rw [List.map_cons, List.map_append, List.map_cons, List.map_append, List.map_map, List.map_map, List.map_map, List.map_map, List.map_map, List.map_map]
    rfl]
  walk_at "mir"
  rw [hj]
  walk_at "mir"
  rfl
theorem addS_big (x y : Str) (h : x.length + y.length ≤ 100000) : oAddS (.str x) (.str y) = some (.fz (.str (x ++ y))) := by
  show (if x.length + y.length ≤ sizeLine then _ else none) = _
  rw [if_pos (by rw [hsl]; omega)]
noncomputable def putR (a r : Str) : Str := a ++ (⟨#[10]⟩ ++ r)
theorem interc_cons (c : Nat) : ∀ (p : List Nat) (ps : List (List Nat)), interc c (p :: ps) = p ++ ps.flatMap fun q => c :: q
  | p, [] => by simp [interc]
  | p, q :: ps => by
    show p ++ c :: interc c (q :: ps) = _
    rw [interc_cons c q ps, List.flatMap_cons, List.cons_append]
theorem put_list : ∀ (rs : List Str) (a : Str), (rs.foldl putR a).cps.toList = a.cps.toList ++ rs.flatMap fun r => 10 :: r.cps.toList
  | [], a => by simp
  | r :: rs, a => by
    rw [List.foldl_cons, put_list rs, List.flatMap_cons]
    unfold putR
    rw [cps_app, cps_app]
    simp
theorem join_put (r : Str) (rs : List Str) : Str.join ⟨#[10]⟩ (r :: rs) = rs.foldl putR r := by
  apply str_ext
  rw [join_list, put_list, List.map_cons, interc_cons, List.flatMap_map]
theorem putR_len : ∀ (rs : List Str) (a : Str), (∀ r ∈ rs, r.length ≤ 105) → (rs.foldl putR a).length ≤ a.length + rs.length * 106
  | [], a, _ => by simp
  | r :: rs, a, h => by
    have h1 := h r List.mem_cons_self
    have h2 := putR_len rs (putR a r) fun z hz => h z (List.mem_cons_of_mem _ hz)
    have e : (putR a r).length = a.length + (1 + r.length) := by unfold putR; rw [strLen_append, strLen_append]; rfl
    rw [List.foldl_cons, List.length_cons, Nat.succ_mul]
    omega
theorem way_ix {s : Street} (h : s.ways = 1 ∨ s.ways = 2) : oIxL (.lst [.str "lane", .str "street"]) (.int (s.ways - 1)) = some (.fz (.str (wayW s))) := by
  unfold wayW
  rcases h with h | h <;> rw [h] <;> rfl
noncomputable def stB : MS := (mForget [2, 3, 4, 5, 6] (mSeq (mSet 1 (mOp oAddS (mOp oAddS (mOp oAddS (mOp oAddS (mOp oAddS (mOp oAddS (mVar 1) (mC (.str "\n"))) (mOp oIxL (mLst (mCons (mC (.str "lane")) (mCons (mC (.str "street")) mNil))) (mOp oSub (mVar 6) (mC (.int 1))))) (mC (.str " "))) (mVar 2)) (mC (.str " "))) (mVar 3)))
      (mSet 1 (mOp oAddS (mOp oAddS (mOp oAddS (mOp oAddS (mVar 1) (mC (.str " "))) (mVar 4)) (mC (.str " "))) (mCB oStrI (mCons (mVar 5) mNil))))))
theorem st_turn (w : Town) (a : Str) (ha : a.length ≤ 10000) (s : Street) (h : SGood s) (f g : EV) : stB [.fz w.t, .fz (.str a), .fz (.str s.name), .fz (.str s.first), .fz (.str s.second), .fz (.int s.len), .fz (.int s.ways), f, g] = .nx [.fz w.t, .fz (.str (putR a (joinB (wordsR s)))), .un, .un, .un, .un, .un, f, g] := by
  have l1 := way_len s
  have l2 := h.nam.name.2.1
  have l3 := h.nam.first.2.1
  have l4 := h.nam.second.2.1
  have l5 := (num_number h.lo h.hi).2
  have b1 : ("\n" : Str).length = 1 := by decide +kernel
  have b2 : (" " : Str).length = 1 := by decide +kernel
  have hs : oStrI [.int s.len] = some (.fz (.str (numS s.len))) := by
    show (if s.len.natAbs.log2 < 1920 then _ else none) = _
    rw [if_pos (log2_len h.lo h.hi)]; rfl
  unfold stB
  walk_at "mir"
  rw [way_ix h.way, addS_big _ _ (by omega)]
  walk_at "mir"
  rw [addS_big _ _ (by rw [strLen_append]; omega)]
  walk_at "mir"
  rw [addS_big _ _ (by rw [strLen_append, strLen_append]; omega)]
  walk_at "mir"
  rw [addS_big _ _ (by rw [strLen_append, strLen_append, strLen_append]; omega)]
  walk_at "mir"
  rw [addS_big _ _ (by rw [strLen_append, strLen_append, strLen_append, strLen_append]; omega)]
  walk_at "mir"
  rw [addS_big _ _ (by rw [strLen_append, strLen_append, strLen_append, strLen_append, strLen_append]; omega)]
  walk_at "mir"
  rw [addS_big _ _ (by rw [strLen_append, strLen_append, strLen_append, strLen_append, strLen_append, strLen_append]; omega), hs]
  walk_at "mir"
  rw [addS_big _ _ (by rw [strLen_append, strLen_append, strLen_append, strLen_append, strLen_append, strLen_append, strLen_append]; omega)]
  walk_at "mir"
  rw [addS_big _ _ (by rw [strLen_append, strLen_append, strLen_append, strLen_append, strLen_append, strLen_append, strLen_append, strLen_append]; omega)]
  walk_at "mir"
  rw [addS_big _ _ (by rw [strLen_append, strLen_append, strLen_append, strLen_append, strLen_append, strLen_append, strLen_append, strLen_append, strLen_append]; omega)]
  walk_at "mir"
  have e : a ++ Str.ofString "\n" ++ wayW s ++ Str.ofString " " ++ s.name ++ Str.ofString " " ++ s.first ++ Str.ofString " " ++ s.second ++ Str.ofString " " ++ numS s.len = putR a (joinB (wordsR s)) := by
    apply str_ext
    rw [show Str.ofString "\n" = (⟨#[10]⟩ : Str) from nl_eq, show Str.ofString " " = (⟨#[32]⟩ : Str) from bl_eq]
    unfold putR joinB wordsR
    simp only [cps_app, join_list, List.map_cons, List.map_nil, interc, List.append_assoc, List.cons_append, List.nil_append]
  rw [e]
noncomputable def bnB : MS := (mForget [7, 8] (mSet 1 (mOp oAddS (mOp oAddS (mOp oAddS (mOp oAddS (mOp oAddS (mVar 1) (mC (.str "\n"))) (mC (.str "ban "))) (mVar 7)) (mC (.str " "))) (mVar 8))))
theorem bn_turn (w : Town) (a : Str) (ha : a.length ≤ 10000) (p : Str × Str) (h : IsSide p.1 ∧ IsSide p.2) : bnB [.fz w.t, .fz (.str a), .un, .un, .un, .un, .un, .fz (.str p.1), .fz (.str p.2)] = .nx [.fz w.t, .fz (.str (putR a (joinB (wordsB p)))), .un, .un, .un, .un, .un, .un, .un] := by
  have l1 := side_len h.1
  have l2 := side_len h.2
  have b1 : ("\n" : Str).length = 1 := by decide +kernel
  have b2 : (" " : Str).length = 1 := by decide +kernel
  have b3 : ("ban " : Str).length = 4 := by decide +kernel
  unfold bnB
  walk_at "mir"
  rw [addS_big _ _ (by omega)]
  walk_at "mir"
  rw [addS_big _ _ (by rw [strLen_append]; omega)]
  walk_at "mir"
  rw [addS_big _ _ (by rw [strLen_append, strLen_append]; omega)]
  walk_at "mir"
  rw [addS_big _ _ (by rw [strLen_append, strLen_append, strLen_append]; omega)]
  walk_at "mir"
  rw [addS_big _ _ (by rw [strLen_append, strLen_append, strLen_append, strLen_append]; omega)]
  walk_at "mir"
  have e : a ++ Str.ofString "\n" ++ Str.ofString "ban " ++ p.1 ++ Str.ofString " " ++ p.2 = putR a (joinB (wordsB p)) := by
    apply str_ext
    rw [show Str.ofString "\n" = (⟨#[10]⟩ : Str) from nl_eq, show Str.ofString " " = (⟨#[32]⟩ : Str) from bl_eq]
    have eb : (Str.ofString "ban ").cps.toList = (Str.ofString "ban").cps.toList ++ [32] := by decide +kernel
    unfold putR joinB wordsB
    simp only [cps_app, join_list, List.map_cons, List.map_nil, interc, List.append_assoc, List.cons_append, List.nil_append, eb]
  rw [e]
theorem st_loop (w : Town) (f g : EV) : ∀ (ss : List Street) (a : Str), (∀ s ∈ ss, SGood s) → a.length + ss.length * 106 ≤ 10000 → loop (gT 5 (gsC (gN 2) (gsC (gN 3) (gsC (gN 4) (gsC (gN 5) (gsC (gN 6) gsN)))))) stB (ss.map Street.t) [.fz w.t, .fz (.str a), .un, .un, .un, .un, .un, f, g] = .nx [.fz w.t, .fz (.str ((ss.map fun s => joinB (wordsR s)).foldl putR a)), .un, .un, .un, .un, .un, f, g]
  | [], a, _, _ => loop_nil
  | s :: ss, a, h, hl => by
    have hs := h s List.mem_cons_self
    have hr := rowR_len hs
    have e : (putR a (joinB (wordsR s))).length = a.length + (1 + (joinB (wordsR s)).length) := by unfold putR; rw [strLen_append, strLen_append]; rfl
    rw [List.length_cons, Nat.succ_mul] at hl
    rw [List.map_cons, loop_nx (ρ1 := [.fz w.t, .fz (.str a), .fz (.str s.name), .fz (.str s.first), .fz (.str s.second), .fz (.int s.len), .fz (.int s.ways), f, g]) rfl (st_turn w a (by omega) s hs f g), st_loop w f g ss _ (fun z hz => h z (List.mem_cons_of_mem _ hz)) (by omega), List.map_cons, List.foldl_cons]
theorem bn_loop (w : Town) : ∀ (ps : List (Str × Str)) (a : Str), (∀ p ∈ ps, IsSide p.1 ∧ IsSide p.2) → a.length + ps.length * 106 ≤ 10000 → loop (gT 2 (gsC (gN 7) (gsC (gN 8) gsN))) bnB (ps.map pairT) [.fz w.t, .fz (.str a), .un, .un, .un, .un, .un, .un, .un] = .nx [.fz w.t, .fz (.str ((ps.map fun p => joinB (wordsB p)).foldl putR a)), .un, .un, .un, .un, .un, .un, .un]
  | [], a, _, _ => loop_nil
  | p :: ps, a, h, hl => by
    have hs := h p List.mem_cons_self
    have hr := rowB_len hs
    have e : (putR a (joinB (wordsB p))).length = a.length + (1 + (joinB (wordsB p)).length) := by unfold putR; rw [strLen_append, strLen_append]; rfl
    rw [List.length_cons, Nat.succ_mul] at hl
    rw [List.map_cons, loop_nx (ρ1 := [.fz w.t, .fz (.str a), .un, .un, .un, .un, .un, .fz (.str p.1), .fz (.str p.2)]) rfl (bn_turn w a (by omega) p hs), bn_loop w ps _ (fun z hz => h z (List.mem_cons_of_mem _ hz)) (by omega), List.map_cons, List.foldl_cons]
theorem text_ok (w : Town) (h : TGood w) : m__law_text [w.t] = .ok (.fz (.str (textS w))) := by
  have hst := h.len
  have hbn := h.ban
  have hy := h.yard.2.1
  have e0 : oIxT w.t (.int 0) = some (.fz (.str w.yard)) := rfl
  have b1 : ("yard " : Str).length = 5 := by decide +kernel
  have ey : Str.ofString "yard " ++ w.yard = joinB (wordsY w) := by
    apply str_ext
    have eb : (Str.ofString "yard ").cps.toList = (Str.ofString "yard").cps.toList ++ [32] := by decide +kernel
    unfold joinB wordsY
    simp only [cps_app, join_list, List.map_cons, List.map_nil, interc, List.append_assoc, List.cons_append, List.nil_append, eb]
  have ly := rowY_len h
  have l1 := st_loop w .un .un w.streets (joinB (wordsY w)) h.st (by omega)
  have lm := putR_len (w.streets.map fun s => joinB (wordsR s)) (joinB (wordsY w)) (fun r hr => by obtain ⟨s, hs, rfl⟩ := List.mem_map.mp hr; exact rowR_len (h.st s hs))
  rw [List.length_map] at lm
  have l2 := bn_loop w w.bans ((w.streets.map fun s => joinB (wordsR s)).foldl putR (joinB (wordsY w))) h.bn (by omega)
  have et : (w.bans.map fun p => joinB (wordsB p)).foldl putR ((w.streets.map fun s => joinB (wordsR s)).foldl putR (joinB (wordsY w))) = textS w := by
    unfold textS rowsW
    rw [List.map_cons, join_put, List.map_append, List.foldl_append, List.map_map, List.map_map]
    rfl
  unfold stB at l1
  unfold bnB at l2
  unfold m__law_text mb__law_text
  simp (implicitDefEqProofs := false) only [mDef, startE, List.map_cons, List.map_nil, List.length_cons, List.length_nil, Nat.reduceAdd, Nat.zero_add, Nat.reduceSub, List.replicate, List.cons_append, List.nil_append, mSeq, mSet]
  rw [show mOp oAddS (mC (T.str (Str.ofString "yard "))) (mOp oIxT (mVar 0) (mC (T.int 0))) [EV.fz w.t, EV.un, EV.un, EV.un, EV.un, EV.un, EV.un, EV.un, EV.un] = .ok (.fz (.str (joinB (wordsY w)))) by
    walk_at "mir"
    rw [e0]
    walk_at "mir"
    rw [addS_big _ _ (by show ("yard " : Str).length + _ ≤ _; omega), ey]
    walk_at "mir", of_ok, setX_fz, seq_nx]
  simp (implicitDefEqProofs := false) only [List.set_cons_succ, List.set_cons_zero, mSeq, mFor]
  rw [show mItT (mOp oIxT (mVar 0) (mC (T.int 1))) [EV.fz w.t, EV.fz (T.str (joinB (wordsY w))), EV.un, EV.un, EV.un, EV.un, EV.un, EV.un, EV.un] = .ok (w.streets.map Street.t) from rfl, of_ok]
  rw [l1, seq_nx]
  simp (implicitDefEqProofs := false) only [mSeq, mFor]
  rw [show mItT (mOp oIxT (mVar 0) (mC (T.int 2))) [EV.fz w.t, EV.fz (T.str ((w.streets.map fun s => joinB (wordsR s)).foldl putR (joinB (wordsY w)))), EV.un, EV.un, EV.un, EV.un, EV.un, EV.un, EV.un] = .ok (w.bans.map pairT) from rfl, of_ok, l2, seq_nx, et]
  walk_at "mir"
def GW (x : Str) : Prop := x.cps.toList ≠ [] ∧ ∀ c ∈ x.cps.toList, 33 ≤ c
theorem gw_nam {x : Str} (h : Nam x) : GW x := by
  refine ⟨fun e => ?_, fun c hc => Nat.le_trans (by decide) (h.2.2 c hc).1⟩
  have := len_cps x
  rw [e] at this
  have := h.1
  simp at *
  omega
theorem gw_side {x : Str} (h : IsSide x) : GW x := by
  obtain ⟨n, hn, e⟩ := h
  have hg := gw_nam hn
  rcases e with rfl | rfl
  · refine ⟨by rw [cps_app]; simp [hg.1], fun c hc => ?_⟩
    rw [cps_app] at hc
    rcases List.mem_append.mp hc with hc | hc
    · exact hg.2 c hc
    · rw [gt_eq] at hc; simp at hc; omega
  · refine ⟨by rw [cps_app]; simp [hg.1], fun c hc => ?_⟩
    rw [cps_app] at hc
    rcases List.mem_append.mp hc with hc | hc
    · exact hg.2 c hc
    · rw [lt_eq] at hc; simp at hc; omega
theorem gw_num {n : Int} (h0 : 1 ≤ n) (h1 : n < 10 ^ 60) : GW (numS n) := by
  obtain ⟨c, r, e1, e2, e3, _⟩ := num_facts h0 h1
  refine ⟨by rw [e1]; simp, fun d hd => ?_⟩
  rw [e1] at hd
  have := (e3 d hd).1
  omega
theorem gw_lit (x : Str) (h : x.cps.toList ≠ [] ∧ x.cps.toList.all (fun c => decide (33 ≤ c)) = true) : GW x := ⟨h.1, fun c hc => by have := List.all_eq_true.mp h.2 c hc; simpa using this⟩
theorem gw_way (s : Street) : GW (wayW s) := by
  unfold wayW
  split
  · exact gw_lit _ (by decide +kernel)
  · exact gw_lit _ (by decide +kernel)
theorem gw_rows {w : Town} (h : TGood w) : ∀ ws ∈ rowsW w, ws ≠ [] ∧ ∀ x ∈ ws, GW x := by
  intro ws hw
  unfold rowsW at hw
  rcases List.mem_cons.mp hw with rfl | hw
  · refine ⟨by simp [wordsY], fun x hx => ?_⟩
    unfold wordsY at hx
    simp only [List.mem_cons, List.not_mem_nil, or_false] at hx
    rcases hx with rfl | rfl
    · exact gw_lit _ (by decide +kernel)
    · exact gw_nam h.yard
  · rcases List.mem_append.mp hw with hw | hw
    · obtain ⟨s, hs, rfl⟩ := List.mem_map.mp hw
      have hg := h.st s hs
      refine ⟨by simp [wordsR], fun x hx => ?_⟩
      unfold wordsR at hx
      simp only [List.mem_cons, List.not_mem_nil, or_false] at hx
      rcases hx with rfl | rfl | rfl | rfl | rfl
      · exact gw_way s
      · exact gw_nam hg.nam.name
      · exact gw_nam hg.nam.first
      · exact gw_nam hg.nam.second
      · exact gw_num hg.lo hg.hi
    · obtain ⟨p, hp, rfl⟩ := List.mem_map.mp hw
      have hg := h.bn p hp
      refine ⟨by simp [wordsB], fun x hx => ?_⟩
      unfold wordsB at hx
      simp only [List.mem_cons, List.not_mem_nil, or_false] at hx
      rcases hx with rfl | rfl | rfl
      · exact gw_lit _ (by decide +kernel)
      · exact gw_side hg.1
      · exact gw_side hg.2
theorem words_split {ws : List Str} (h : ws ≠ [] ∧ ∀ x ∈ ws, GW x) : Txt.split (joinB ws) ⟨#[32]⟩ = ws :=
  split_join h.1 fun x hx hc => by have := (h.2 x hx).2 32 hc; omega
theorem interc_mem (c : Nat) : ∀ (ps : List (List Nat)) (d : Nat), d ∈ interc c ps → d = c ∨ ∃ p ∈ ps, d ∈ p
  | [], d, h => by cases h
  | p :: ps, d, h => by
    rw [interc_cons] at h
    rcases List.mem_append.mp h with h | h
    · exact .inr ⟨p, List.mem_cons_self, h⟩
    · obtain ⟨q, hq, h⟩ := List.mem_flatMap.mp h
      rcases List.mem_cons.mp h with h | h
      · exact .inl h
      · exact .inr ⟨q, List.mem_cons_of_mem _ hq, h⟩
theorem row_no_nl {ws : List Str} (h : ws ≠ [] ∧ ∀ x ∈ ws, GW x) : 10 ∉ (joinB ws).cps.toList := by
  unfold joinB
  rw [join_list]
  intro hc
  rcases interc_mem 32 _ 10 hc with e | ⟨p, hp, hd⟩
  · cases e
  · obtain ⟨x, hx, rfl⟩ := List.mem_map.mp hp
    have := (h.2 x hx).2 10 hd
    omega
theorem text_split {w : Town} (h : TGood w) : Txt.split (textS w) ⟨#[10]⟩ = (rowsW w).map joinB := by
  refine split_join (by simp [rowsW]) fun r hr => ?_
  obtain ⟨ws, hw, rfl⟩ := List.mem_map.mp hr
  exact row_no_nl (gw_rows h ws hw)
theorem not_bad {ws : List Str} (h : ws ≠ [] ∧ ∀ x ∈ ws, GW x) : ¬ bad (joinB ws) := by
  unfold bad
  rw [words_split h]
  intro he
  exact (h.2 _ he).1 (by decide +kernel)
theorem text_ne {w : Town} : textS w ≠ "" := by
  intro e
  have := congrArg (fun x : Str => x.cps.toList) e
  unfold textS rowsW at this
  simp only [List.map_cons, join_put, put_list] at this
  have e0 : (joinB (wordsY w)).cps.toList = ("yard" : Str).cps.toList ++ 32 :: w.yard.cps.toList := by
    unfold joinB wordsY
    simp only [join_list, List.map_cons, List.map_nil, interc]
  rw [e0] at this
  have e1 : ("" : Str).cps.toList = [] := by decide +kernel
  rw [e1] at this
  simp at this
noncomputable def wsT (ws : List Str) : T := .lst (ws.map T.str)
theorem row_ok {w : Town} (h : TGood w) : ∀ ws ∈ rowsW w, m_words_of [.str (joinB ws)] = .ok (.ow (.l (ws.map T.str))) := by
  intro ws hw
  have hl := rows_le h (joinB ws) (List.mem_map.mpr ⟨ws, hw, rfl⟩)
  have hg := gw_rows h ws hw
  rw [words_good _ (by omega) (not_bad hg), words_split hg]
noncomputable def Dw : List (Str × Int) := [("lane", 1), ("street", 2)]
theorem ix0 (x : Str) (xs : List Str) : oIxL (.lst ((x :: xs).map T.str)) (.int 0) = some (.fz (.str x)) := by
  rw [ix_at0 (x :: xs) 0 (by decide) (by rw [List.length_cons]; omega)]
  unfold at0
  rw [atI_some (by decide) (by rw [List.length_cons]; omega)]
  rfl
theorem way_in (s : Street) : keysK Dw (wayW s) = true := by
  unfold wayW; split <;> decide +kernel
theorem way_look {s : Street} (h : s.ways = 1 ∨ s.ways = 2) : lookK Dw (wayW s) = some s.ways := by
  unfold wayW
  rcases h with h | h <;> rw [h] <;> decide +kernel
theorem yard_notin : keysK Dw "yard" = false := by decide +kernel
theorem ban_notin : keysK Dw "ban" = false := by decide +kernel
theorem is_street_row_ok (s : Street) (h : SGood s) : m_is_street_row [wsT (wordsR s)] = .ok (.fz (.bl true)) := by
  have hsz := hsl
  have l5 := (num_number h.lo h.hi).2
  have hn : ∀ x : Str, Nam x → m_is_name [.str x] = .ok (.fz (.bl true)) := fun x hx => by rw [name_ok x (by have := hx.2.1; omega), nam_lettersB hx]
  have hnum : m_is_number [.str (numS s.len)] = .ok (.fz (.bl true)) := by rw [number_ok _ (by omega), (num_number h.lo h.hi).1]
  have i0 : oIxL (wsT (wordsR s)) (.int 0) = some (.fz (.str (wayW s))) := rfl
  have i4 : oIxL (wsT (wordsR s)) (.int 4) = some (.fz (.str (numS s.len))) := rfl
  have hcut : oSlL (wsT (wordsR s)) (some 1) (some 4) = some (.ow (.l [.str s.name, .str s.first, .str s.second])) := rfl
  have c1 : mCB oAll (mCons (mComp 1 (mItL (mSl oSlL (mVar 0) (mPart (mC (.int 1))) (mPart (mC (.int 4))))) (gN 0) mTrue (mCallN 1 m_is_name (mCons (mVar 0) mNil))) mNil) [.fz (wsT (wordsR s))] = .ok (.fz (.bl true)) := by
    have hc : mComp 1 (mItL (mSl oSlL (mVar 0) (mPart (mC (.int 1))) (mPart (mC (.int 4))))) (gN 0) mTrue (mCallN 1 m_is_name (mCons (mVar 0) mNil)) [.fz (wsT (wordsR s))] = .ok (.ow (.l ([s.name, s.first, s.second].map fun _ => T.bl true))) := by
      rw [comp_gen T.str (fun _ => true) (fun _ => .bl true) [s.name, s.first, s.second] (by
        simp (implicitDefEqProofs := false) only [mItL, mSl, mPart, mC, mVar_eq, List.getElem?_cons_zero, rdV, bind_ok, t_fz, hcut, ofO_some, dur_ow, t_l, Option.bind_some]
        rfl) (by simp) fun x hx => ⟨_, rfl, rfl, fun _ => ⟨.fz (.bl true), ?_, rfl⟩⟩]
      · rfl
      · have hx' : Nam x := by
          simp only [List.mem_cons, List.not_mem_nil, or_false] at hx
          rcases hx with rfl | rfl | rfl
          · exact h.nam.name
          · exact h.nam.first
          · exact h.nam.second
        walk_at "mir"
        rw [hn x hx']
        walk_at "mir"
    simp (implicitDefEqProofs := false) only [mCB, mCons, mNil, hc, bind_ok, List.map_cons, List.map_nil, t_ow, t_l]
    rfl
  unfold m_is_street_row mb_is_street_row
  simp (implicitDefEqProofs := false) only [mDef, startE, List.map_cons, List.map_nil, List.length_cons, List.length_nil, Nat.reduceAdd, Nat.zero_add, Nat.reduceSub, List.replicate, List.append_nil, mSeq, mIf]
  rw [show mOrT (mTest (mOp oNe (mCB oLen (mCons (mVar 0) mNil)) (mC (T.int 5)))) (mTest (mUn (oInK true [(Str.ofString "lane", 1), (Str.ofString "street", 2)]) (mOp oIxL (mVar 0) (mC (T.int 0))))) [EV.fz (wsT (wordsR s))] = .ok false by
    simp (implicitDefEqProofs := false) only [mOrT, mTest, mOp, mCB, mCons, mNil, mUn, mC, mVar_eq, List.getElem?_cons_zero, rdV, bind_ok, t_fz, List.map_cons, List.map_nil, i0, ofO_some]
    rw [show oLen [wsT (wordsR s)] = some (.fz (.int 5)) from rfl]
    simp (implicitDefEqProofs := false) only [ofO_some, bind_ok, t_fz, oNe, b_bl, oInK]
    rw [show keysK [(Str.ofString "lane", 1), (Str.ofString "street", 2)] (wayW s) = true from way_in s]
    rfl, of_ok, if_neg (by decide)]
  simp (implicitDefEqProofs := false) only [mNext, seq_nx, mRet_eq, mAndV, c1, bind_ok, b_bl, if_true]
  simp (implicitDefEqProofs := false) only [mCall, mCons, mNil, mOp, mC, mVar_eq, List.getElem?_cons_zero, rdV, bind_ok, t_fz, i4, ofO_some, List.map_cons, List.map_nil, hnum]
  rfl
theorem street_of_ok (s : Street) (h : SGood s) : m_street_of [wsT (wordsR s)] = .ok (.fz s.t) := by
  have l5 := (num_number h.lo h.hi).2
  obtain ⟨_, _, _, _, _, _, hint⟩ := num_facts h.lo h.hi
  have hr := is_street_row_ok s h
  have i0 : oIxL (wsT (wordsR s)) (.int 0) = some (.fz (.str (wayW s))) := rfl
  have i1 : oIxL (wsT (wordsR s)) (.int 1) = some (.fz (.str s.name)) := rfl
  have i2 : oIxL (wsT (wordsR s)) (.int 2) = some (.fz (.str s.first)) := rfl
  have i3 : oIxL (wsT (wordsR s)) (.int 3) = some (.fz (.str s.second)) := rfl
  have i4 : oIxL (wsT (wordsR s)) (.int 4) = some (.fz (.str (numS s.len))) := rfl
  have hi : oIntS [.str (numS s.len)] = some (.fz (.int s.len)) := by
    show (if (numS s.len).length ≤ 640 then _ else none) = _
    rw [if_pos (by omega), hint]; rfl
  have hw : oIxK [(Str.ofString "lane", 1), (Str.ofString "street", 2)] (.str (wayW s)) = some (.fz (.int s.ways)) := by
    show (lookK Dw (wayW s)).bind _ = _
    rw [way_look h.way]; rfl
  unfold m_street_of mb_street_of
  iterate 5 (walk_at "mir"; (try simp only [hr, i0, i1, i2, i3, i4, hi, hw]))
  rfl
theorem side_is {x : Str} (h : IsSide x) : m_is_side [.str x] = .ok (.fz (.bl true)) := by
  obtain ⟨n, hn, e⟩ := h
  rcases e with rfl | rfl
  · rw [gt_eq]; exact side_true hn (.inl rfl)
  · rw [lt_eq]; exact side_true hn (.inr rfl)
theorem ban_of_ok (p : Str × Str) (h : IsSide p.1 ∧ IsSide p.2) : m_ban_of [wsT (wordsB p)] = .ok (.fz (pairT p)) := by
  have h1 := side_is h.1
  have h2 := side_is h.2
  have i0 : oIxL (wsT (wordsB p)) (.int 0) = some (.fz (.str "ban")) := rfl
  have i1 : oIxL (wsT (wordsB p)) (.int 1) = some (.fz (.str p.1)) := rfl
  have i2 : oIxL (wsT (wordsB p)) (.int 2) = some (.fz (.str p.2)) := rfl
  have hr : m_is_ban_row [wsT (wordsB p)] = .ok (.fz (.bl true)) := by
    unfold m_is_ban_row mb_is_ban_row
    simp (implicitDefEqProofs := false) only [mDef, startE, List.map_cons, List.map_nil, List.length_cons, List.length_nil, Nat.reduceAdd, Nat.zero_add, Nat.reduceSub, List.replicate, List.append_nil, mRet_eq]
    rw [mAndV, show mOp oEq (mCB oLen (mCons (mVar 0) mNil)) (mC (T.int 3)) [EV.fz (wsT (wordsB p))] = .ok (.fz (.bl true)) from rfl]
    iterate 5 (walk_at "mir"; (try simp only [i0, i1, i2, h1, h2]))
  unfold m_ban_of mb_ban_of
  iterate 4 (walk_at "mir"; (try simp only [hr, i1, i2]))
  rfl
theorem yard_of_ok (w : Town) (h : TGood w) : m_yard_of [.lst [wsT (wordsY w)]] = .ok (.fz (.str w.yard)) := by
  have hn : m_is_name [.str w.yard] = .ok (.fz (.bl true)) := by rw [name_ok _ (by have := h.yard.2.1; omega), nam_lettersB h.yard]
  have i0 : oIxL (wsT (wordsY w)) (.int 0) = some (.fz (.str "yard")) := rfl
  have i1 : oIxL (wsT (wordsY w)) (.int 1) = some (.fz (.str w.yard)) := rfl
  have r0 : oIxL (.lst [wsT (wordsY w)]) (.int 0) = some (.fz (wsT (wordsY w))) := rfl
  have hr : m_is_yard_row [wsT (wordsY w)] = .ok (.fz (.bl true)) := by
    unfold m_is_yard_row mb_is_yard_row
    simp (implicitDefEqProofs := false) only [mDef, startE, List.map_cons, List.map_nil, List.length_cons, List.length_nil, Nat.reduceAdd, Nat.zero_add, Nat.reduceSub, List.replicate, List.append_nil, mRet_eq]
    rw [mAndV, show mOp oEq (mCB oLen (mCons (mVar 0) mNil)) (mC (T.int 2)) [EV.fz (wsT (wordsY w))] = .ok (.fz (.bl true)) from rfl]
    iterate 4 (walk_at "mir"; (try simp only [i0, i1, hn]))
  have he : oEqD (.lst [wsT (wordsY w)]) (.lst []) = some (.fz (.bl false)) := by
    have p1 : plain 8 (.lst [wsT (wordsY w)]) = true := rfl
    have p2 : plain 8 (.lst []) = true := rfl
    simp only [oEqD, p1, p2, show seq2 (.lst [wsT (wordsY w)]) (.lst []) = true from rfl, and_self, if_true]
    rfl
  unfold m_yard_of mb_yard_of
  iterate 5 (walk_at "mir"; (try simp only [he, r0, hr, i1]))
theorem rows_filter (w : Town) : (rowsW w).filter (fun ws => keysK Dw (ws.headD "")) = w.streets.map wordsR := by
  unfold rowsW
  rw [List.filter_cons, if_neg (by show ¬ keysK Dw "yard" = true; rw [yard_notin]; decide), List.filter_append]
  rw [List.filter_eq_self.mpr (by intro ws hw; obtain ⟨s, _, rfl⟩ := List.mem_map.mp hw; exact way_in s)]
  rw [List.filter_eq_nil_iff.mpr (by intro ws hw; obtain ⟨p, _, rfl⟩ := List.mem_map.mp hw; show ¬ keysK Dw "ban" = true; rw [ban_notin]; decide), List.append_nil]
theorem cut_mid (ts : List T) (a b : Nat) (ha : a ≤ ts.length) (hb : b ≤ ts.length) : cutT ts (some (a : Int)) (some (b : Int)) = (ts.drop a).take (b - a) := by
  unfold cutT
  rw [HT.sIx_nat, HT.sIx_nat, Nat.min_eq_left ha, Nat.min_eq_left hb]
theorem cut_to (ts : List T) (k : Nat) : cutT ts none (some (k : Int)) = ts.take k := by
  unfold cutT
  rw [HT.sIx_none, HT.sIx_nat, List.drop_zero, Nat.sub_zero, List.take_eq_take_iff]
  omega
theorem cut_from (ts : List T) (k : Nat) : cutT ts (some (k : Int)) none = ts.drop k := by
  unfold cutT
  rw [HT.sIx_none, HT.sIx_nat]
  by_cases h : k ≤ ts.length
  · rw [Nat.min_eq_left h]
    exact List.take_of_length_le (by rw [List.length_drop]; omega)
  · rw [Nat.min_eq_right (by omega), List.drop_of_length_le (Nat.le_refl _), List.drop_of_length_le (by omega), List.take_nil]
theorem town_of_ok (w : Town) (h : TGood w) : m_town_of [.lst ((rowsW w).map wsT)] = .ok (.fz w.t) := by
  have hsz := hsl
  have hst := h.len
  have hbn := h.ban
  have hrl := rowsW_len h
  have hlen : (rowsW w).length = 1 + (w.streets.length + w.bans.length) := by
    unfold rowsW; rw [List.length_cons, List.length_append, List.length_map, List.length_map]; omega
  have c0 : ∀ a b c : EV, mComp 1 (mItL (mVar 0)) (gN 0) (mTest (mUn (oInK false [(Str.ofString "lane", 1), (Str.ofString "street", 2)]) (mOp oIxL (mVar 0) (mC (.int 0))))) (mVar 0) [.fz (.lst ((rowsW w).map wsT)), a, b, c] = .ok (.ow (.l ((w.streets.map wordsR).map wsT))) := by
    intro a b c
    rw [comp_gen wsT (fun ws => keysK Dw (ws.headD "")) wsT (rowsW w) rfl (by omega) fun ws hw => ⟨EV.fz (wsT ws) :: _, rfl, ?_, fun _ => ⟨.fz (wsT ws), rfl, rfl⟩⟩, rows_filter]
    obtain ⟨hne, _⟩ := gw_rows h ws hw
    cases ws with
    | nil => exact absurd rfl hne
    | cons x xs =>
      simp (implicitDefEqProofs := false) only [mTest, mUn, mOp, mC, mVar_eq, List.getElem?_cons_zero, rdV, bind_ok, t_fz]
      rw [show wsT (x :: xs) = .lst ((x :: xs).map T.str) from rfl, ix0]
      rfl
  have hcat : (rowsW w).map wsT = wsT (wordsY w) :: ((w.streets.map wordsR).map wsT ++ (w.bans.map wordsB).map wsT) := by
    unfold rowsW; rw [List.map_cons, List.map_append]
  have hsl1 : oSlL (.lst ((rowsW w).map wsT)) (some 1) (some (1 + (((w.streets.map wordsR).map wsT).length : Int))) = some (.ow (.l ((w.streets.map wordsR).map wsT))) := by
    show some (XV.ow (.l (cutT _ _ _))) = _
    rw [show (1 : Int) + (((w.streets.map wordsR).map wsT).length : Int) = ((1 + w.streets.length : Nat) : Int) by rw [List.length_map, List.length_map]; omega, show (1 : Int) = ((1 : Nat) : Int) from rfl,
      cut_mid _ _ _ (by rw [List.length_map]; omega) (by rw [List.length_map]; omega), hcat, List.drop_succ_cons, List.drop_zero, List.take_left' (by rw [List.length_map, List.length_map]; omega)]
  have hsl2 : oSlL (.lst ((rowsW w).map wsT)) (some (1 + (((w.streets.map wordsR).map wsT).length : Int))) none = some (.ow (.l ((w.bans.map wordsB).map wsT))) := by
    show some (XV.ow (.l (cutT _ _ _))) = _
    rw [show (1 : Int) + (((w.streets.map wordsR).map wsT).length : Int) = ((w.streets.length + 1 : Nat) : Int) by rw [List.length_map, List.length_map]; omega,
      cut_from, hcat, List.drop_succ_cons, List.drop_left' (by rw [List.length_map, List.length_map])]
  have hsl3 : oSlL (.lst ((rowsW w).map wsT)) none (some 1) = some (.ow (.l [wsT (wordsY w)])) := by
    show some (XV.ow (.l (cutT _ _ _))) = _
    rw [show (1 : Int) = ((1 : Nat) : Int) from rfl, cut_to, hcat]
    rfl
  have c1 : ∀ b c : EV, mComp 1 (mItL (mSl oSlL (mVar 0) (mPart (mC (.int 1))) (mPart (mVar 1)))) (gN 0) mTrue (mCallN 1 m_street_of (mCons (mVar 0) mNil)) [.fz (.lst ((rowsW w).map wsT)), .fz (.int (1 + (((w.streets.map wordsR).map wsT).length : Int))), b, c] = .ok (.ow (.l (w.streets.map Street.t))) := by
    intro b c
    rw [comp_gen (fun s => wsT (wordsR s)) (fun _ => true) Street.t w.streets (by
      simp (implicitDefEqProofs := false) only [mItL, mSl, mPart, mC, mVar_eq, List.getElem?_cons_zero, List.getElem?_cons_succ, rdV, bind_ok, t_fz, hsl1, ofO_some, dur_ow, t_l, Option.bind_some]
      rw [List.map_map]; rfl) (by omega) fun s hs => ⟨_, rfl, rfl, fun _ => ⟨.fz s.t, ?_, rfl⟩⟩]
    · rw [show w.streets.filter (fun _ => true) = w.streets from List.filter_eq_self.mpr fun _ _ => rfl]
    · walk_at "mir"
      rw [street_of_ok s (h.st s hs)]
      walk_at "mir"
  have c2 : ∀ b c : EV, mComp 1 (mItL (mSl oSlL (mVar 0) (mPart (mVar 1)) mNoPart)) (gN 0) mTrue (mCallN 1 m_ban_of (mCons (mVar 0) mNil)) [.fz (.lst ((rowsW w).map wsT)), .fz (.int (1 + (((w.streets.map wordsR).map wsT).length : Int))), b, c] = .ok (.ow (.l (w.bans.map pairT))) := by
    intro b c
    rw [comp_gen (fun p => wsT (wordsB p)) (fun _ => true) pairT w.bans (by
      simp (implicitDefEqProofs := false) only [mItL, mSl, mPart, mNoPart, mC, mVar_eq, List.getElem?_cons_zero, List.getElem?_cons_succ, rdV, bind_ok, t_fz, hsl2, ofO_some, dur_ow, t_l, Option.bind_some]
      rw [List.map_map]; rfl) (by omega) fun p hp => ⟨_, rfl, rfl, fun _ => ⟨.fz (pairT p), ?_, rfl⟩⟩]
    · rw [show w.bans.filter (fun _ => true) = w.bans from List.filter_eq_self.mpr fun _ _ => rfl]
    · walk_at "mir"
      rw [ban_of_ok p (h.bn p hp)]
      walk_at "mir"
  have hy := yard_of_ok w h
  unfold m_town_of mb_town_of
  simp (implicitDefEqProofs := false) only [mDef, startE, List.map_cons, List.map_nil, List.length_cons, List.length_nil, Nat.reduceAdd, Nat.zero_add, Nat.reduceSub, List.replicate, List.cons_append, List.nil_append, mSeq, mSet]
  rw [show mOp oAdd (mC (T.int 1)) (mCB oLen (mCons (mComp 1 (mItL (mVar 0)) (gN 0) (mTest (mUn (oInK false [(Str.ofString "lane", 1), (Str.ofString "street", 2)]) (mOp oIxL (mVar 0) (mC (T.int 0))))) (mVar 0)) mNil)) [EV.fz (T.lst ((rowsW w).map wsT)), EV.un, EV.un, EV.un] = .ok (.fz (.int (1 + (((w.streets.map wordsR).map wsT).length : Int)))) by
    simp (implicitDefEqProofs := false) only [mOp, mCB, mCons, mNil, c0, mC, bind_ok, List.map_cons, List.map_nil, t_ow, t_l, t_fz, oLen, ofO_some, addE], of_ok, setX_fz, seq_nx]
  simp (implicitDefEqProofs := false) only [List.set_cons_succ, List.set_cons_zero, mSeq, mSet, c1, c2, of_ok, setX_ow, seq_nx]
  simp (implicitDefEqProofs := false) only [mRet_eq, mTup, mCons, mNil, mCall, mSl, mNoPart, mPart, mC, mVar_eq, List.getElem?_cons_zero, List.getElem?_cons_succ, rdV, bind_ok, t_fz, hsl3, ofO_some, List.map_cons, List.map_nil, t_ow, t_l, hy, mCB, t_bo, oTuple, List.length_cons, List.length_nil, Nat.reduceAdd, Nat.zero_add, if_true]
  iterate 2 (walk_at "mir")
  rfl
theorem read_ok (w : Town) (h : TGood w) (hw : WOk w) (hf : fitsB w = true) : m_read [.str (textS w)] = .ok (.fz w.t) := by
  have hl := text_len h
  have hrl := rowsW_len h
  have hr := rows_ok (textS w) (by omega)
  rw [if_neg text_ne, text_split h] at hr
  have c1 : mComp 1 (mItL (mCall 1 m_rows_of (mCons (mVar 0) mNil))) (gN 0) mTrue (mCallN 1 m_words_of (mCons (mVar 0) mNil)) [.fz (.str (textS w))] = .ok (.ow (.l ((rowsW w).map wsT))) := by
    rw [comp_gen (fun ws => T.str (joinB ws)) (fun _ => true) wsT (rowsW w) (by
      walk_at "mir"
      rw [hr]
      walk_at "mir"
      rw [List.map_map]; rfl) (by omega) fun ws hw => ⟨_, rfl, rfl, fun _ => ⟨.ow (.l (ws.map T.str)), ?_, rfl⟩⟩]
    · rw [show (rowsW w).filter (fun _ => true) = rowsW w from List.filter_eq_self.mpr fun _ _ => rfl]
    · walk_at "mir"
      rw [row_ok h ws hw]
      walk_at "mir"
  have ht := town_of_ok w h
  have hfit := fitted_ok w hw hf
  unfold m_read mb_read
  simp (implicitDefEqProofs := false) only [mDef, startE, List.map_cons, List.map_nil, List.length_cons, List.length_nil, Nat.reduceAdd, Nat.zero_add, Nat.reduceSub, List.replicate, List.append_nil, mSeq, mIf]
  rw [show mNotT (mTest (mIsI (isT "str") (mVar 0))) [EV.fz (T.str (textS w))] = .ok false by walk_at "mir", of_ok, if_neg (by decide)]
  simp (implicitDefEqProofs := false) only [mNext, seq_nx, mRet_eq, mCall, mCons, mNil, c1, bind_ok, List.map_cons, List.map_nil, t_ow, t_l]
  iterate 3 (walk_at "mir"; (try simp only [ht, hfit]))
theorem plain_town (w : Town) : Mr.plain 8 w.t = true := by
  have h1 : (w.streets.map Street.t).all (Mr.plain 6) = true := by
    rw [List.all_map, List.all_eq_true]; intro s _; rfl
  have h2 : (w.bans.map pairT).all (Mr.plain 6) = true := by
    rw [List.all_map, List.all_eq_true]; intro s _; rfl
  show ([T.str w.yard, .tup (w.streets.map Street.t), .tup (w.bans.map pairT)]).all (Mr.plain 7) = true
  rw [List.all_cons, List.all_cons, List.all_cons, List.all_nil]
  rw [show Mr.plain 7 (.tup (w.streets.map Street.t)) = (w.streets.map Street.t).all (Mr.plain 6) from rfl, show Mr.plain 7 (.tup (w.bans.map pairT)) = (w.bans.map pairT).all (Mr.plain 6) from rfl, h1, h2]
  rfl
theorem ne_town (w : Town) : oNeD w.t w.t = some (.fz (.bl false)) := by
  have hp := plain_town w
  unfold oNeD
  rw [if_pos ⟨hp, hp, rfl⟩, eqT_refl hp]
  rfl
noncomputable def nuB : MS := (mForget [3] (mIf (mOrT (mNotT (mTest (mIsI (isT "int") (mVar 3)))) (mTest (mIsI (isT "bool") (mVar 3)))) (mRet (mC (.bl false))) mNext))
noncomputable def alB : MS := (mForget [2, 3] (mSeq (mIf (mNotT (mTest (mIsI (isT "tuple") (mVar 2)))) (mRet (mC (.bl false))) mNext)
      (mFor (mItT (mSl oSlT (mVar 2) (mPart (mC (.int 3))) mNoPart)) (gN 3) nuB)))
theorem nu_turn (a b c : EV) (n : Int) : nuB [a, b, c, .fz (.int n)] = .nx [a, b, c, .un] := by
  unfold nuB
  walk_at "mir"
theorem al_turn (a b : EV) (s : Street) : alB [a, b, .fz s.t, .un] = .nx [a, b, .un, .un] := by
  have hs : oSlT s.t (some 3) none = some (.fz (.tup [.int s.len, .int s.ways])) := rfl
  have ht : isT "tuple" s.t = some true := rfl
  unfold alB mForget
  simp (implicitDefEqProofs := false) only [mSeq, mIf, mNotT, mTest, mIsI, mVar_eq, List.getElem?_cons_zero, List.getElem?_cons_succ, rdV, bind_ok, t_fz, ht, Option.bind_some, ofO_some, b_bl, Bool.not_true, of_ok, Bool.false_eq_true, if_false, mNext, seq_nx, mFor, mItT, mSl, mPart, mNoPart, mC, hs, dur_fz]
  rw [loop_nx (ρ1 := [a, b, .fz s.t, .fz (.int s.len)]) rfl (nu_turn _ _ _ _), loop_nx (ρ1 := [a, b, .fz s.t, .fz (.int s.ways)]) rfl (nu_turn _ _ _ _), loop_nil]
  rfl
theorem alike_ok (w : Town) : m__law_alike [w.t, w.t] = .ok (.fz (.bl true)) := by
  have hne := ne_town w
  have ht : isT "tuple" w.t = some true := rfl
  have e1 : oIxT w.t (.int 1) = some (.fz (.tup (w.streets.map Street.t))) := rfl
  have e2 : oIxT w.t (.int 2) = some (.fz (.tup (w.bans.map pairT))) := rfl
  have hl : loop (gN 2) alB (w.streets.map Street.t) [.fz w.t, .fz w.t, .un, .un] = .nx [.fz w.t, .fz w.t, .un, .un] := by
    refine loop_same fun t ht => ?_
    obtain ⟨s, hs, rfl⟩ := List.mem_map.mp ht
    exact ⟨[.fz w.t, .fz w.t, .fz s.t, .un], rfl, .inl (al_turn _ _ s)⟩
  unfold alB nuB at hl
  unfold m__law_alike mb__law_alike
  simp (implicitDefEqProofs := false) only [mDef, startE, List.map_cons, List.map_nil, List.length_cons, List.length_nil, Nat.reduceAdd, Nat.zero_add, Nat.reduceSub, List.replicate, List.cons_append, List.nil_append, mSeq, mIf]
  rw [show mOrT (mNotT (mTest (mIsI (isT "tuple") (mVar 0)))) (mTest (mOp oNeD (mVar 0) (mVar 1))) [EV.fz w.t, EV.fz w.t, EV.un, EV.un] = .ok false by
    simp (implicitDefEqProofs := false) only [mOrT, mNotT, mTest, mIsI, mOp, mVar_eq, List.getElem?_cons_zero, List.getElem?_cons_succ, rdV, bind_ok, t_fz, ht, Option.bind_some, ofO_some, b_bl, Bool.not_true, Bool.false_eq_true, if_false, hne], of_ok, if_neg (by decide)]
  simp (implicitDefEqProofs := false) only [mNext, seq_nx, mSeq, mFor]
  rw [show mItT (mOp oIxT (mVar 0) (mC (T.int 1))) [EV.fz w.t, EV.fz w.t, EV.un, EV.un] = .ok (w.streets.map Street.t) from rfl, of_ok, hl, seq_nx]
  iterate 3 (walk_at "mir"; (try simp only [e1, e2]))
theorem len_hi (c : Int) : lenI c < 10 ^ 60 := by
  unfold lenI
  have p30 : (10 : Int) ^ 60 = 1000000000000000000000000000000000000000000000000000000000000 := by decide +kernel
  split
  · have := mod_lt' (c / 3) (show (0 : Int) < 9 by decide)
    rw [p30]; omega
  · have := mod_lt' (c / 3 % 10 ^ 30 * 48271 ^ 11) (show (0 : Int) < 10 ^ 60 - 1 by decide +kernel)
    omega
theorem drawn_good (ns : List Int) : TGood (townS ns) ∧ WOk (townS ns) := by
  have hml := many_le ns
  have hsl2 := town_streets_len ns
  have hbn : (townS ns).bans.length ≤ 6 := by
    refine Nat.le_trans (bans_len _ _ _) ?_
    unfold manyB
    have := mod_lt' (cellI ns 4) (show (0 : Int) < 6 by decide)
    omega
  have hst : ∀ s ∈ (townS ns).streets, SGood s := by
    intro s hs
    have hn := town_nam ns s hs
    obtain ⟨j, _, rfl⟩ := street_mem hs
    have hnum := drawn_num (ns := ns) (cs := cornersS ns) (nms := namesS (namedI ns) (manyS ns)) (k := j)
    unfold numB at hnum
    simp only [Bool.and_eq_true, Bool.or_eq_true, decide_eq_true_eq] at hnum
    exact ⟨hn, hnum.1, len_hi _, hnum.2⟩
  refine ⟨⟨hst, ?_, yard_nam ns, by omega, by omega⟩, ⟨town_streets_ok ns, by omega, by omega⟩⟩
  intro p hp
  have hf := bans_mem hp
  unfold freeS at hf
  obtain ⟨a, ha, hf⟩ := List.mem_flatMap.mp hf
  obtain ⟨b, hb, rfl⟩ := List.mem_map.mp hf
  have hb' := (List.mem_filter.mp hb).1
  have key : ∀ x, x ∈ keysA (arcsS (townS ns).streets) → IsSide x := by
    intro x hx
    obtain ⟨s, hs, e⟩ := keys_mem hx
    exact ⟨s.name, (hst s hs).nam.name, e⟩
  exact ⟨key a ha, key b hb'⟩
theorem law_true (ns : List Int) (hns : ns.length ≤ 63) : m_law [.lst (ns.map T.int)] = .ok (.fz (.bl true)) := by
  have hto := town_ok ns
  obtain ⟨h, hw⟩ := drawn_good ns
  have hf := drawn_fits ns
  generalize townS ns = w at *
  have h1 := text_ok w h
  have h2 := show_ok w h
  have h3 := read_ok w h hw hf
  have h4 := alike_ok w
  unfold m_law mb_law
  iterate 6 (walk_at "mir"; (try simp only [hto, h1, h2, h3, h4]))
end My
set_option Elab.async false
set_option linter.all false
set_option maxRecDepth 100000
set_option maxHeartbeats 4000000
namespace My
open PySem L2 Mr
theorem reps_ints {k : Ks} {R : Hp} : ∀ ns : List Int, Reps k R (ns.map T.int) (ns.map V.int)
  | [] => Reps.nil
  | n :: ns => Reps.cons rep_int (reps_ints ns)
noncomputable def sp_law (K : PySem.W.Frag) : Sp := fun vs H Q _ => ∃ p, ∃ ns : List Int, vs = [.ref p] ∧ SqL K H p (ns.map V.int) ∧ ns.length ≤ 63 ∧ ∀ H', Q (.bl true) H'
theorem law_sp {P : Program} {w : World} {K : PySem.W.Frag} {mg : Str → Option Value} {base : Heap} {a : Adr} (T : Txt K mg a) : FnOk P w K mg base (CXX P w) 8 a.f_law a.d_law ["_law_script"] (sp_law K) := by
  refine (ok_law (P := P) (w := w) (base := base) T).imp fun vs H Q E h => ?_
  obtain ⟨p, ns, rfl, hS, hl, hk⟩ := h
  refine ⟨H, [.lst (ns.map Mr.T.int)], Same.refl H, Reps.cons (rep_lst hS (reps_ints ns)) Reps.nil, rfl, ?_⟩
  rw [law_true ns hl]
  intro R' H' v e r
  rw [r.fzr.bl]
  exact hk H'
theorem txt_mk {K : PySem.W.Frag} {h : Heap} {mg : Str → Option Value} (X : K.In h) (G : h.Ns mainGlobals mg)
    {f_show : Addr} {od_show an_show : Option Addr} {sl_show : Array (Option Value)} {oc_show kV_show dc_show pm_show cd_show ct_show : Value}
    {f_street_row : Addr} {od_street_row an_street_row : Option Addr} {sl_street_row : Array (Option Value)} {oc_street_row kV_street_row dc_street_row pm_street_row cd_street_row ct_street_row : Value}
    {f_ban_row : Addr} {od_ban_row an_ban_row : Option Addr} {sl_ban_row : Array (Option Value)} {oc_ban_row kV_ban_row dc_ban_row pm_ban_row cd_ban_row ct_ban_row : Value}
    {f_fits : Addr} {od_fits an_fits : Option Addr} {sl_fits : Array (Option Value)} {oc_fits kV_fits dc_fits pm_fits cd_fits ct_fits : Value}
    {f_fitted : Addr} {od_fitted an_fitted : Option Addr} {sl_fitted : Array (Option Value)} {oc_fitted kV_fitted dc_fitted pm_fitted cd_fitted ct_fitted : Value}
    {f_courses_of : Addr} {od_courses_of an_courses_of : Option Addr} {sl_courses_of : Array (Option Value)} {oc_courses_of kV_courses_of dc_courses_of pm_courses_of cd_courses_of ct_courses_of : Value}
    {f_names_fit : Addr} {od_names_fit an_names_fit : Option Addr} {sl_names_fit : Array (Option Value)} {oc_names_fit kV_names_fit dc_names_fit pm_names_fit cd_names_fit ct_names_fit : Value}
    {f_numbers_fit : Addr} {od_numbers_fit an_numbers_fit : Option Addr} {sl_numbers_fit : Array (Option Value)} {oc_numbers_fit kV_numbers_fit dc_numbers_fit pm_numbers_fit cd_numbers_fit ct_numbers_fit : Value}
    {f_street_fits : Addr} {od_street_fits an_street_fits : Option Addr} {sl_street_fits : Array (Option Value)} {oc_street_fits kV_street_fits dc_street_fits pm_street_fits cd_street_fits ct_street_fits : Value}
    {f_bans_fit : Addr} {od_bans_fit an_bans_fit : Option Addr} {sl_bans_fit : Array (Option Value)} {oc_bans_fit kV_bans_fit dc_bans_fit pm_bans_fit cd_bans_fit ct_bans_fit : Value}
    {f_ban_fits : Addr} {od_ban_fits an_ban_fits : Option Addr} {sl_ban_fits : Array (Option Value)} {oc_ban_fits kV_ban_fits dc_ban_fits pm_ban_fits cd_ban_fits ct_ban_fits : Value}
    {f_stand_once : Addr} {od_stand_once an_stand_once : Option Addr} {sl_stand_once : Array (Option Value)} {oc_stand_once kV_stand_once dc_stand_once pm_stand_once cd_stand_once ct_stand_once : Value}
    {f_is_whole : Addr} {od_is_whole an_is_whole : Option Addr} {sl_is_whole : Array (Option Value)} {oc_is_whole kV_is_whole dc_is_whole pm_is_whole cd_is_whole ct_is_whole : Value}
    {f_is_name : Addr} {od_is_name an_is_name : Option Addr} {sl_is_name : Array (Option Value)} {oc_is_name kV_is_name dc_is_name pm_is_name cd_is_name ct_is_name : Value}
    {f_is_number : Addr} {od_is_number an_is_number : Option Addr} {sl_is_number : Array (Option Value)} {oc_is_number kV_is_number dc_is_number pm_is_number cd_is_number ct_is_number : Value}
    {f_is_side : Addr} {od_is_side an_is_side : Option Addr} {sl_is_side : Array (Option Value)} {oc_is_side kV_is_side dc_is_side pm_is_side cd_is_side ct_is_side : Value}
    {f_words_of : Addr} {od_words_of an_words_of : Option Addr} {sl_words_of : Array (Option Value)} {oc_words_of kV_words_of dc_words_of pm_words_of cd_words_of ct_words_of : Value}
    {f_rows_of : Addr} {od_rows_of an_rows_of : Option Addr} {sl_rows_of : Array (Option Value)} {oc_rows_of kV_rows_of dc_rows_of pm_rows_of cd_rows_of ct_rows_of : Value}
    {f_is_made_of : Addr} {od_is_made_of an_is_made_of : Option Addr} {sl_is_made_of : Array (Option Value)} {oc_is_made_of kV_is_made_of dc_is_made_of pm_is_made_of cd_is_made_of ct_is_made_of : Value}
    {f_read : Addr} {od_read an_read : Option Addr} {sl_read : Array (Option Value)} {oc_read kV_read dc_read pm_read cd_read ct_read : Value}
    {f_town_of : Addr} {od_town_of an_town_of : Option Addr} {sl_town_of : Array (Option Value)} {oc_town_of kV_town_of dc_town_of pm_town_of cd_town_of ct_town_of : Value}
    {f_yard_of : Addr} {od_yard_of an_yard_of : Option Addr} {sl_yard_of : Array (Option Value)} {oc_yard_of kV_yard_of dc_yard_of pm_yard_of cd_yard_of ct_yard_of : Value}
    {f_street_of : Addr} {od_street_of an_street_of : Option Addr} {sl_street_of : Array (Option Value)} {oc_street_of kV_street_of dc_street_of pm_street_of cd_street_of ct_street_of : Value}
    {f_ban_of : Addr} {od_ban_of an_ban_of : Option Addr} {sl_ban_of : Array (Option Value)} {oc_ban_of kV_ban_of dc_ban_of pm_ban_of cd_ban_of ct_ban_of : Value}
    {f_is_yard_row : Addr} {od_is_yard_row an_is_yard_row : Option Addr} {sl_is_yard_row : Array (Option Value)} {oc_is_yard_row kV_is_yard_row dc_is_yard_row pm_is_yard_row cd_is_yard_row ct_is_yard_row : Value}
    {f_is_street_row : Addr} {od_is_street_row an_is_street_row : Option Addr} {sl_is_street_row : Array (Option Value)} {oc_is_street_row kV_is_street_row dc_is_street_row pm_is_street_row cd_is_street_row ct_is_street_row : Value}
    {f_is_ban_row : Addr} {od_is_ban_row an_is_ban_row : Option Addr} {sl_is_ban_row : Array (Option Value)} {oc_is_ban_row kV_is_ban_row dc_is_ban_row pm_is_ban_row cd_is_ban_row ct_is_ban_row : Value}
    {f__law_cell : Addr} {od__law_cell an__law_cell : Option Addr} {sl__law_cell : Array (Option Value)} {oc__law_cell kV__law_cell dc__law_cell pm__law_cell cd__law_cell ct__law_cell : Value}
    {f__law_names : Addr} {od__law_names an__law_names : Option Addr} {sl__law_names : Array (Option Value)} {oc__law_names kV__law_names dc__law_names pm__law_names cd__law_names ct__law_names : Value}
    {f__law_length : Addr} {od__law_length an__law_length : Option Addr} {sl__law_length : Array (Option Value)} {oc__law_length kV__law_length dc__law_length pm__law_length cd__law_length ct__law_length : Value}
    {f__law_streets : Addr} {od__law_streets an__law_streets : Option Addr} {sl__law_streets : Array (Option Value)} {oc__law_streets kV__law_streets dc__law_streets pm__law_streets cd__law_streets ct__law_streets : Value}
    {f__law_arcs : Addr} {od__law_arcs an__law_arcs : Option Addr} {sl__law_arcs : Array (Option Value)} {oc__law_arcs kV__law_arcs dc__law_arcs pm__law_arcs cd__law_arcs ct__law_arcs : Value}
    {f__law_bans : Addr} {od__law_bans an__law_bans : Option Addr} {sl__law_bans : Array (Option Value)} {oc__law_bans kV__law_bans dc__law_bans pm__law_bans cd__law_bans ct__law_bans : Value}
    {f__law_town : Addr} {od__law_town an__law_town : Option Addr} {sl__law_town : Array (Option Value)} {oc__law_town kV__law_town dc__law_town pm__law_town cd__law_town ct__law_town : Value}
    {f__law_text : Addr} {od__law_text an__law_text : Option Addr} {sl__law_text : Array (Option Value)} {oc__law_text kV__law_text dc__law_text pm__law_text cd__law_text ct__law_text : Value}
    {f__law_alike : Addr} {od__law_alike an__law_alike : Option Addr} {sl__law_alike : Array (Option Value)} {oc__law_alike kV__law_alike dc__law_alike pm__law_alike cd__law_alike ct__law_alike : Value}
    {f_law : Addr} {od_law an_law : Option Addr} {sl_law : Array (Option Value)} {oc_law kV_law dc_law pm_law cd_law ct_law : Value}
    {c_KerbError : Addr}
    {c_NoText : Addr}
    {c_Unfit : Addr}
    {t_LETTERS : Tok}
    {t_FIGURES : Tok}
    {t_MOST_LETTERS : Tok}
    {t_MOST_FIGURES : Tok}
    {d_WAYS : Addr}
    (a_show : PySem.W.nsIn K mainGlobals "show" = some (some (.ref f_show))) (l_show : K.lookup f_show = some ⟨oc_show, od_show, .func (PySem.W.fnOf "show" "show" (defArgs s_show) (defBody s_show) (defScope s_show) .none kV_show dc_show pm_show an_show cd_show ct_show), sl_show⟩) (c_show : PySem.W.codeIn K cd_show "show" = true) (k_show : PySem.W.keepIn K (.ref f_show) = true)
    (a_street_row : PySem.W.nsIn K mainGlobals "street_row" = some (some (.ref f_street_row))) (l_street_row : K.lookup f_street_row = some ⟨oc_street_row, od_street_row, .func (PySem.W.fnOf "street_row" "street_row" (defArgs s_street_row) (defBody s_street_row) (defScope s_street_row) .none kV_street_row dc_street_row pm_street_row an_street_row cd_street_row ct_street_row), sl_street_row⟩) (c_street_row : PySem.W.codeIn K cd_street_row "street_row" = true) (k_street_row : PySem.W.keepIn K (.ref f_street_row) = true)
    (a_ban_row : PySem.W.nsIn K mainGlobals "ban_row" = some (some (.ref f_ban_row))) (l_ban_row : K.lookup f_ban_row = some ⟨oc_ban_row, od_ban_row, .func (PySem.W.fnOf "ban_row" "ban_row" (defArgs s_ban_row) (defBody s_ban_row) (defScope s_ban_row) .none kV_ban_row dc_ban_row pm_ban_row an_ban_row cd_ban_row ct_ban_row), sl_ban_row⟩) (c_ban_row : PySem.W.codeIn K cd_ban_row "ban_row" = true) (k_ban_row : PySem.W.keepIn K (.ref f_ban_row) = true)
    (a_fits : PySem.W.nsIn K mainGlobals "fits" = some (some (.ref f_fits))) (l_fits : K.lookup f_fits = some ⟨oc_fits, od_fits, .func (PySem.W.fnOf "fits" "fits" (defArgs s_fits) (defBody s_fits) (defScope s_fits) .none kV_fits dc_fits pm_fits an_fits cd_fits ct_fits), sl_fits⟩) (c_fits : PySem.W.codeIn K cd_fits "fits" = true) (k_fits : PySem.W.keepIn K (.ref f_fits) = true)
    (a_fitted : PySem.W.nsIn K mainGlobals "fitted" = some (some (.ref f_fitted))) (l_fitted : K.lookup f_fitted = some ⟨oc_fitted, od_fitted, .func (PySem.W.fnOf "fitted" "fitted" (defArgs s_fitted) (defBody s_fitted) (defScope s_fitted) .none kV_fitted dc_fitted pm_fitted an_fitted cd_fitted ct_fitted), sl_fitted⟩) (c_fitted : PySem.W.codeIn K cd_fitted "fitted" = true) (k_fitted : PySem.W.keepIn K (.ref f_fitted) = true)
    (a_courses_of : PySem.W.nsIn K mainGlobals "courses_of" = some (some (.ref f_courses_of))) (l_courses_of : K.lookup f_courses_of = some ⟨oc_courses_of, od_courses_of, .func (PySem.W.fnOf "courses_of" "courses_of" (defArgs s_courses_of) (defBody s_courses_of) (defScope s_courses_of) .none kV_courses_of dc_courses_of pm_courses_of an_courses_of cd_courses_of ct_courses_of), sl_courses_of⟩) (c_courses_of : PySem.W.codeIn K cd_courses_of "courses_of" = true) (k_courses_of : PySem.W.keepIn K (.ref f_courses_of) = true)
    (a_names_fit : PySem.W.nsIn K mainGlobals "names_fit" = some (some (.ref f_names_fit))) (l_names_fit : K.lookup f_names_fit = some ⟨oc_names_fit, od_names_fit, .func (PySem.W.fnOf "names_fit" "names_fit" (defArgs s_names_fit) (defBody s_names_fit) (defScope s_names_fit) .none kV_names_fit dc_names_fit pm_names_fit an_names_fit cd_names_fit ct_names_fit), sl_names_fit⟩) (c_names_fit : PySem.W.codeIn K cd_names_fit "names_fit" = true) (k_names_fit : PySem.W.keepIn K (.ref f_names_fit) = true)
    (a_numbers_fit : PySem.W.nsIn K mainGlobals "numbers_fit" = some (some (.ref f_numbers_fit))) (l_numbers_fit : K.lookup f_numbers_fit = some ⟨oc_numbers_fit, od_numbers_fit, .func (PySem.W.fnOf "numbers_fit" "numbers_fit" (defArgs s_numbers_fit) (defBody s_numbers_fit) (defScope s_numbers_fit) .none kV_numbers_fit dc_numbers_fit pm_numbers_fit an_numbers_fit cd_numbers_fit ct_numbers_fit), sl_numbers_fit⟩) (c_numbers_fit : PySem.W.codeIn K cd_numbers_fit "numbers_fit" = true) (k_numbers_fit : PySem.W.keepIn K (.ref f_numbers_fit) = true)
    (a_street_fits : PySem.W.nsIn K mainGlobals "street_fits" = some (some (.ref f_street_fits))) (l_street_fits : K.lookup f_street_fits = some ⟨oc_street_fits, od_street_fits, .func (PySem.W.fnOf "street_fits" "street_fits" (defArgs s_street_fits) (defBody s_street_fits) (defScope s_street_fits) .none kV_street_fits dc_street_fits pm_street_fits an_street_fits cd_street_fits ct_street_fits), sl_street_fits⟩) (c_street_fits : PySem.W.codeIn K cd_street_fits "street_fits" = true) (k_street_fits : PySem.W.keepIn K (.ref f_street_fits) = true)
    (a_bans_fit : PySem.W.nsIn K mainGlobals "bans_fit" = some (some (.ref f_bans_fit))) (l_bans_fit : K.lookup f_bans_fit = some ⟨oc_bans_fit, od_bans_fit, .func (PySem.W.fnOf "bans_fit" "bans_fit" (defArgs s_bans_fit) (defBody s_bans_fit) (defScope s_bans_fit) .none kV_bans_fit dc_bans_fit pm_bans_fit an_bans_fit cd_bans_fit ct_bans_fit), sl_bans_fit⟩) (c_bans_fit : PySem.W.codeIn K cd_bans_fit "bans_fit" = true) (k_bans_fit : PySem.W.keepIn K (.ref f_bans_fit) = true)
    (a_ban_fits : PySem.W.nsIn K mainGlobals "ban_fits" = some (some (.ref f_ban_fits))) (l_ban_fits : K.lookup f_ban_fits = some ⟨oc_ban_fits, od_ban_fits, .func (PySem.W.fnOf "ban_fits" "ban_fits" (defArgs s_ban_fits) (defBody s_ban_fits) (defScope s_ban_fits) .none kV_ban_fits dc_ban_fits pm_ban_fits an_ban_fits cd_ban_fits ct_ban_fits), sl_ban_fits⟩) (c_ban_fits : PySem.W.codeIn K cd_ban_fits "ban_fits" = true) (k_ban_fits : PySem.W.keepIn K (.ref f_ban_fits) = true)
    (a_stand_once : PySem.W.nsIn K mainGlobals "stand_once" = some (some (.ref f_stand_once))) (l_stand_once : K.lookup f_stand_once = some ⟨oc_stand_once, od_stand_once, .func (PySem.W.fnOf "stand_once" "stand_once" (defArgs s_stand_once) (defBody s_stand_once) (defScope s_stand_once) .none kV_stand_once dc_stand_once pm_stand_once an_stand_once cd_stand_once ct_stand_once), sl_stand_once⟩) (c_stand_once : PySem.W.codeIn K cd_stand_once "stand_once" = true) (k_stand_once : PySem.W.keepIn K (.ref f_stand_once) = true)
    (a_is_whole : PySem.W.nsIn K mainGlobals "is_whole" = some (some (.ref f_is_whole))) (l_is_whole : K.lookup f_is_whole = some ⟨oc_is_whole, od_is_whole, .func (PySem.W.fnOf "is_whole" "is_whole" (defArgs s_is_whole) (defBody s_is_whole) (defScope s_is_whole) .none kV_is_whole dc_is_whole pm_is_whole an_is_whole cd_is_whole ct_is_whole), sl_is_whole⟩) (c_is_whole : PySem.W.codeIn K cd_is_whole "is_whole" = true) (k_is_whole : PySem.W.keepIn K (.ref f_is_whole) = true)
    (a_is_name : PySem.W.nsIn K mainGlobals "is_name" = some (some (.ref f_is_name))) (l_is_name : K.lookup f_is_name = some ⟨oc_is_name, od_is_name, .func (PySem.W.fnOf "is_name" "is_name" (defArgs s_is_name) (defBody s_is_name) (defScope s_is_name) .none kV_is_name dc_is_name pm_is_name an_is_name cd_is_name ct_is_name), sl_is_name⟩) (c_is_name : PySem.W.codeIn K cd_is_name "is_name" = true) (k_is_name : PySem.W.keepIn K (.ref f_is_name) = true)
    (a_is_number : PySem.W.nsIn K mainGlobals "is_number" = some (some (.ref f_is_number))) (l_is_number : K.lookup f_is_number = some ⟨oc_is_number, od_is_number, .func (PySem.W.fnOf "is_number" "is_number" (defArgs s_is_number) (defBody s_is_number) (defScope s_is_number) .none kV_is_number dc_is_number pm_is_number an_is_number cd_is_number ct_is_number), sl_is_number⟩) (c_is_number : PySem.W.codeIn K cd_is_number "is_number" = true) (k_is_number : PySem.W.keepIn K (.ref f_is_number) = true)
    (a_is_side : PySem.W.nsIn K mainGlobals "is_side" = some (some (.ref f_is_side))) (l_is_side : K.lookup f_is_side = some ⟨oc_is_side, od_is_side, .func (PySem.W.fnOf "is_side" "is_side" (defArgs s_is_side) (defBody s_is_side) (defScope s_is_side) .none kV_is_side dc_is_side pm_is_side an_is_side cd_is_side ct_is_side), sl_is_side⟩) (c_is_side : PySem.W.codeIn K cd_is_side "is_side" = true) (k_is_side : PySem.W.keepIn K (.ref f_is_side) = true)
    (a_words_of : PySem.W.nsIn K mainGlobals "words_of" = some (some (.ref f_words_of))) (l_words_of : K.lookup f_words_of = some ⟨oc_words_of, od_words_of, .func (PySem.W.fnOf "words_of" "words_of" (defArgs s_words_of) (defBody s_words_of) (defScope s_words_of) .none kV_words_of dc_words_of pm_words_of an_words_of cd_words_of ct_words_of), sl_words_of⟩) (c_words_of : PySem.W.codeIn K cd_words_of "words_of" = true) (k_words_of : PySem.W.keepIn K (.ref f_words_of) = true)
    (a_rows_of : PySem.W.nsIn K mainGlobals "rows_of" = some (some (.ref f_rows_of))) (l_rows_of : K.lookup f_rows_of = some ⟨oc_rows_of, od_rows_of, .func (PySem.W.fnOf "rows_of" "rows_of" (defArgs s_rows_of) (defBody s_rows_of) (defScope s_rows_of) .none kV_rows_of dc_rows_of pm_rows_of an_rows_of cd_rows_of ct_rows_of), sl_rows_of⟩) (c_rows_of : PySem.W.codeIn K cd_rows_of "rows_of" = true) (k_rows_of : PySem.W.keepIn K (.ref f_rows_of) = true)
    (a_is_made_of : PySem.W.nsIn K mainGlobals "is_made_of" = some (some (.ref f_is_made_of))) (l_is_made_of : K.lookup f_is_made_of = some ⟨oc_is_made_of, od_is_made_of, .func (PySem.W.fnOf "is_made_of" "is_made_of" (defArgs s_is_made_of) (defBody s_is_made_of) (defScope s_is_made_of) .none kV_is_made_of dc_is_made_of pm_is_made_of an_is_made_of cd_is_made_of ct_is_made_of), sl_is_made_of⟩) (c_is_made_of : PySem.W.codeIn K cd_is_made_of "is_made_of" = true) (k_is_made_of : PySem.W.keepIn K (.ref f_is_made_of) = true)
    (a_read : PySem.W.nsIn K mainGlobals "read" = some (some (.ref f_read))) (l_read : K.lookup f_read = some ⟨oc_read, od_read, .func (PySem.W.fnOf "read" "read" (defArgs s_read) (defBody s_read) (defScope s_read) .none kV_read dc_read pm_read an_read cd_read ct_read), sl_read⟩) (c_read : PySem.W.codeIn K cd_read "read" = true) (k_read : PySem.W.keepIn K (.ref f_read) = true)
    (a_town_of : PySem.W.nsIn K mainGlobals "town_of" = some (some (.ref f_town_of))) (l_town_of : K.lookup f_town_of = some ⟨oc_town_of, od_town_of, .func (PySem.W.fnOf "town_of" "town_of" (defArgs s_town_of) (defBody s_town_of) (defScope s_town_of) .none kV_town_of dc_town_of pm_town_of an_town_of cd_town_of ct_town_of), sl_town_of⟩) (c_town_of : PySem.W.codeIn K cd_town_of "town_of" = true) (k_town_of : PySem.W.keepIn K (.ref f_town_of) = true)
    (a_yard_of : PySem.W.nsIn K mainGlobals "yard_of" = some (some (.ref f_yard_of))) (l_yard_of : K.lookup f_yard_of = some ⟨oc_yard_of, od_yard_of, .func (PySem.W.fnOf "yard_of" "yard_of" (defArgs s_yard_of) (defBody s_yard_of) (defScope s_yard_of) .none kV_yard_of dc_yard_of pm_yard_of an_yard_of cd_yard_of ct_yard_of), sl_yard_of⟩) (c_yard_of : PySem.W.codeIn K cd_yard_of "yard_of" = true) (k_yard_of : PySem.W.keepIn K (.ref f_yard_of) = true)
    (a_street_of : PySem.W.nsIn K mainGlobals "street_of" = some (some (.ref f_street_of))) (l_street_of : K.lookup f_street_of = some ⟨oc_street_of, od_street_of, .func (PySem.W.fnOf "street_of" "street_of" (defArgs s_street_of) (defBody s_street_of) (defScope s_street_of) .none kV_street_of dc_street_of pm_street_of an_street_of cd_street_of ct_street_of), sl_street_of⟩) (c_street_of : PySem.W.codeIn K cd_street_of "street_of" = true) (k_street_of : PySem.W.keepIn K (.ref f_street_of) = true)
    (a_ban_of : PySem.W.nsIn K mainGlobals "ban_of" = some (some (.ref f_ban_of))) (l_ban_of : K.lookup f_ban_of = some ⟨oc_ban_of, od_ban_of, .func (PySem.W.fnOf "ban_of" "ban_of" (defArgs s_ban_of) (defBody s_ban_of) (defScope s_ban_of) .none kV_ban_of dc_ban_of pm_ban_of an_ban_of cd_ban_of ct_ban_of), sl_ban_of⟩) (c_ban_of : PySem.W.codeIn K cd_ban_of "ban_of" = true) (k_ban_of : PySem.W.keepIn K (.ref f_ban_of) = true)
    (a_is_yard_row : PySem.W.nsIn K mainGlobals "is_yard_row" = some (some (.ref f_is_yard_row))) (l_is_yard_row : K.lookup f_is_yard_row = some ⟨oc_is_yard_row, od_is_yard_row, .func (PySem.W.fnOf "is_yard_row" "is_yard_row" (defArgs s_is_yard_row) (defBody s_is_yard_row) (defScope s_is_yard_row) .none kV_is_yard_row dc_is_yard_row pm_is_yard_row an_is_yard_row cd_is_yard_row ct_is_yard_row), sl_is_yard_row⟩) (c_is_yard_row : PySem.W.codeIn K cd_is_yard_row "is_yard_row" = true) (k_is_yard_row : PySem.W.keepIn K (.ref f_is_yard_row) = true)
    (a_is_street_row : PySem.W.nsIn K mainGlobals "is_street_row" = some (some (.ref f_is_street_row))) (l_is_street_row : K.lookup f_is_street_row = some ⟨oc_is_street_row, od_is_street_row, .func (PySem.W.fnOf "is_street_row" "is_street_row" (defArgs s_is_street_row) (defBody s_is_street_row) (defScope s_is_street_row) .none kV_is_street_row dc_is_street_row pm_is_street_row an_is_street_row cd_is_street_row ct_is_street_row), sl_is_street_row⟩) (c_is_street_row : PySem.W.codeIn K cd_is_street_row "is_street_row" = true) (k_is_street_row : PySem.W.keepIn K (.ref f_is_street_row) = true)
    (a_is_ban_row : PySem.W.nsIn K mainGlobals "is_ban_row" = some (some (.ref f_is_ban_row))) (l_is_ban_row : K.lookup f_is_ban_row = some ⟨oc_is_ban_row, od_is_ban_row, .func (PySem.W.fnOf "is_ban_row" "is_ban_row" (defArgs s_is_ban_row) (defBody s_is_ban_row) (defScope s_is_ban_row) .none kV_is_ban_row dc_is_ban_row pm_is_ban_row an_is_ban_row cd_is_ban_row ct_is_ban_row), sl_is_ban_row⟩) (c_is_ban_row : PySem.W.codeIn K cd_is_ban_row "is_ban_row" = true) (k_is_ban_row : PySem.W.keepIn K (.ref f_is_ban_row) = true)
    (a__law_cell : PySem.W.nsIn K mainGlobals "_law_cell" = some (some (.ref f__law_cell))) (l__law_cell : K.lookup f__law_cell = some ⟨oc__law_cell, od__law_cell, .func (PySem.W.fnOf "_law_cell" "_law_cell" (defArgs s__law_cell) (defBody s__law_cell) (defScope s__law_cell) .none kV__law_cell dc__law_cell pm__law_cell an__law_cell cd__law_cell ct__law_cell), sl__law_cell⟩) (c__law_cell : PySem.W.codeIn K cd__law_cell "_law_cell" = true) (k__law_cell : PySem.W.keepIn K (.ref f__law_cell) = true)
    (a__law_names : PySem.W.nsIn K mainGlobals "_law_names" = some (some (.ref f__law_names))) (l__law_names : K.lookup f__law_names = some ⟨oc__law_names, od__law_names, .func (PySem.W.fnOf "_law_names" "_law_names" (defArgs s__law_names) (defBody s__law_names) (defScope s__law_names) .none kV__law_names dc__law_names pm__law_names an__law_names cd__law_names ct__law_names), sl__law_names⟩) (c__law_names : PySem.W.codeIn K cd__law_names "_law_names" = true) (k__law_names : PySem.W.keepIn K (.ref f__law_names) = true)
    (a__law_length : PySem.W.nsIn K mainGlobals "_law_length" = some (some (.ref f__law_length))) (l__law_length : K.lookup f__law_length = some ⟨oc__law_length, od__law_length, .func (PySem.W.fnOf "_law_length" "_law_length" (defArgs s__law_length) (defBody s__law_length) (defScope s__law_length) .none kV__law_length dc__law_length pm__law_length an__law_length cd__law_length ct__law_length), sl__law_length⟩) (c__law_length : PySem.W.codeIn K cd__law_length "_law_length" = true) (k__law_length : PySem.W.keepIn K (.ref f__law_length) = true)
    (a__law_streets : PySem.W.nsIn K mainGlobals "_law_streets" = some (some (.ref f__law_streets))) (l__law_streets : K.lookup f__law_streets = some ⟨oc__law_streets, od__law_streets, .func (PySem.W.fnOf "_law_streets" "_law_streets" (defArgs s__law_streets) (defBody s__law_streets) (defScope s__law_streets) .none kV__law_streets dc__law_streets pm__law_streets an__law_streets cd__law_streets ct__law_streets), sl__law_streets⟩) (c__law_streets : PySem.W.codeIn K cd__law_streets "_law_streets" = true) (k__law_streets : PySem.W.keepIn K (.ref f__law_streets) = true)
    (a__law_arcs : PySem.W.nsIn K mainGlobals "_law_arcs" = some (some (.ref f__law_arcs))) (l__law_arcs : K.lookup f__law_arcs = some ⟨oc__law_arcs, od__law_arcs, .func (PySem.W.fnOf "_law_arcs" "_law_arcs" (defArgs s__law_arcs) (defBody s__law_arcs) (defScope s__law_arcs) .none kV__law_arcs dc__law_arcs pm__law_arcs an__law_arcs cd__law_arcs ct__law_arcs), sl__law_arcs⟩) (c__law_arcs : PySem.W.codeIn K cd__law_arcs "_law_arcs" = true) (k__law_arcs : PySem.W.keepIn K (.ref f__law_arcs) = true)
    (a__law_bans : PySem.W.nsIn K mainGlobals "_law_bans" = some (some (.ref f__law_bans))) (l__law_bans : K.lookup f__law_bans = some ⟨oc__law_bans, od__law_bans, .func (PySem.W.fnOf "_law_bans" "_law_bans" (defArgs s__law_bans) (defBody s__law_bans) (defScope s__law_bans) .none kV__law_bans dc__law_bans pm__law_bans an__law_bans cd__law_bans ct__law_bans), sl__law_bans⟩) (c__law_bans : PySem.W.codeIn K cd__law_bans "_law_bans" = true) (k__law_bans : PySem.W.keepIn K (.ref f__law_bans) = true)
    (a__law_town : PySem.W.nsIn K mainGlobals "_law_town" = some (some (.ref f__law_town))) (l__law_town : K.lookup f__law_town = some ⟨oc__law_town, od__law_town, .func (PySem.W.fnOf "_law_town" "_law_town" (defArgs s__law_town) (defBody s__law_town) (defScope s__law_town) .none kV__law_town dc__law_town pm__law_town an__law_town cd__law_town ct__law_town), sl__law_town⟩) (c__law_town : PySem.W.codeIn K cd__law_town "_law_town" = true) (k__law_town : PySem.W.keepIn K (.ref f__law_town) = true)
    (a__law_text : PySem.W.nsIn K mainGlobals "_law_text" = some (some (.ref f__law_text))) (l__law_text : K.lookup f__law_text = some ⟨oc__law_text, od__law_text, .func (PySem.W.fnOf "_law_text" "_law_text" (defArgs s__law_text) (defBody s__law_text) (defScope s__law_text) .none kV__law_text dc__law_text pm__law_text an__law_text cd__law_text ct__law_text), sl__law_text⟩) (c__law_text : PySem.W.codeIn K cd__law_text "_law_text" = true) (k__law_text : PySem.W.keepIn K (.ref f__law_text) = true)
    (a__law_alike : PySem.W.nsIn K mainGlobals "_law_alike" = some (some (.ref f__law_alike))) (l__law_alike : K.lookup f__law_alike = some ⟨oc__law_alike, od__law_alike, .func (PySem.W.fnOf "_law_alike" "_law_alike" (defArgs s__law_alike) (defBody s__law_alike) (defScope s__law_alike) .none kV__law_alike dc__law_alike pm__law_alike an__law_alike cd__law_alike ct__law_alike), sl__law_alike⟩) (c__law_alike : PySem.W.codeIn K cd__law_alike "_law_alike" = true) (k__law_alike : PySem.W.keepIn K (.ref f__law_alike) = true)
    (a_law : PySem.W.nsIn K mainGlobals "law" = some (some (.ref f_law))) (l_law : K.lookup f_law = some ⟨oc_law, od_law, .func (PySem.W.fnOf "law" "law" (defArgs s_law) (defBody s_law) (defScope s_law) .none kV_law dc_law pm_law an_law cd_law ct_law), sl_law⟩) (c_law : PySem.W.codeIn K cd_law "law" = true) (k_law : PySem.W.keepIn K (.ref f_law) = true)
    (a_KerbError : PySem.W.nsIn K mainGlobals "KerbError" = some (some (.ref c_KerbError)))
    (a_NoText : PySem.W.nsIn K mainGlobals "NoText" = some (some (.ref c_NoText)))
    (a_Unfit : PySem.W.nsIn K mainGlobals "Unfit" = some (some (.ref c_Unfit)))
    (x_Unfit : PySem.W.excIn K c_Unfit VE "ValueError.__new__" = true)
    (x_NoText : PySem.W.excIn K c_NoText VE "ValueError.__new__" = true)
    (ega_NoText : PySem.W.findIn K (.ref c_NoText) "__getattribute__" = some (some (.builtin "BaseException.__getattribute__")))
    (egt_NoText : PySem.W.findIn K (.ref c_NoText) "__getattr__" = some none)
    (ecl_NoText : PySem.W.findIn K (.ref c_NoText) "__class__" = some (some (.builtin "object.__class__")))
    (egg_NoText : PySem.W.specialIn K (.builtin "object.__class__") "__get__" = some (some (.builtin "getset_descriptor.__get__")))
    (egs_NoText : PySem.W.takesIn K (.builtin "object.__class__") = some true)
    (eob_NoText : PySem.W.mroIn K c_NoText (.type "object") = some true)
    (ebx_NoText : PySem.W.mroIn K c_NoText (.type "BaseException") = some true)
    (ety_NoText : PySem.W.typeIn K (.ref c_NoText) = some (.type "type"))
    (ega_Unfit : PySem.W.findIn K (.ref c_Unfit) "__getattribute__" = some (some (.builtin "BaseException.__getattribute__")))
    (egt_Unfit : PySem.W.findIn K (.ref c_Unfit) "__getattr__" = some none)
    (ecl_Unfit : PySem.W.findIn K (.ref c_Unfit) "__class__" = some (some (.builtin "object.__class__")))
    (egg_Unfit : PySem.W.specialIn K (.builtin "object.__class__") "__get__" = some (some (.builtin "getset_descriptor.__get__")))
    (egs_Unfit : PySem.W.takesIn K (.builtin "object.__class__") = some true)
    (eob_Unfit : PySem.W.mroIn K c_Unfit (.type "object") = some true)
    (ebx_Unfit : PySem.W.mroIn K c_Unfit (.type "BaseException") = some true)
    (ety_Unfit : PySem.W.typeIn K (.ref c_Unfit) = some (.type "type"))
    (z_ValueError : PySem.W.nsIn K mainGlobals "ValueError" = some none)
    (z_all : PySem.W.nsIn K mainGlobals "all" = some none)
    (z_bool : PySem.W.nsIn K mainGlobals "bool" = some none)
    (z_int : PySem.W.nsIn K mainGlobals "int" = some none)
    (z_isinstance : PySem.W.nsIn K mainGlobals "isinstance" = some none)
    (z_len : PySem.W.nsIn K mainGlobals "len" = some none)
    (z_range : PySem.W.nsIn K mainGlobals "range" = some none)
    (z_set : PySem.W.nsIn K mainGlobals "set" = some none)
    (z_str : PySem.W.nsIn K mainGlobals "str" = some none)
    (z_tuple : PySem.W.nsIn K mainGlobals "tuple" = some none)
    (g_LETTERS : PySem.W.nsIn K mainGlobals "LETTERS" = some (some (.str "abcdefghijklmnopqrstuvwxyz" t_LETTERS)))
    (g_FIGURES : PySem.W.nsIn K mainGlobals "FIGURES" = some (some (.str "0123456789" t_FIGURES)))
    (g_MOST_LETTERS : PySem.W.nsIn K mainGlobals "MOST_LETTERS" = some (some (.int 8 t_MOST_LETTERS)))
    (g_MOST_FIGURES : PySem.W.nsIn K mainGlobals "MOST_FIGURES" = some (some (.int 60 t_MOST_FIGURES)))
    (m_WAYS : PySem.W.nsIn K mainGlobals "WAYS" = some (some (.ref d_WAYS)))
    (w_WAYS : PyProof.Rows.KTD.tabLook (PyProof.Rows.KTD.datLooks fun b => K.lookup b) (fun b => K.lookup b) d_WAYS (dats ([("lane", 1), ("street", 2)] : List (Str × Int))) = true) : ∃ a, Txt K mg a := by
  have F_show := fun_mk (st := s_show) l_show c_show k_show
  have F_street_row := fun_mk (st := s_street_row) l_street_row c_street_row k_street_row
  have F_ban_row := fun_mk (st := s_ban_row) l_ban_row c_ban_row k_ban_row
  have F_fits := fun_mk (st := s_fits) l_fits c_fits k_fits
  have F_fitted := fun_mk (st := s_fitted) l_fitted c_fitted k_fitted
  have F_courses_of := fun_mk (st := s_courses_of) l_courses_of c_courses_of k_courses_of
  have F_names_fit := fun_mk (st := s_names_fit) l_names_fit c_names_fit k_names_fit
  have F_numbers_fit := fun_mk (st := s_numbers_fit) l_numbers_fit c_numbers_fit k_numbers_fit
  have F_street_fits := fun_mk (st := s_street_fits) l_street_fits c_street_fits k_street_fits
  have F_bans_fit := fun_mk (st := s_bans_fit) l_bans_fit c_bans_fit k_bans_fit
  have F_ban_fits := fun_mk (st := s_ban_fits) l_ban_fits c_ban_fits k_ban_fits
  have F_stand_once := fun_mk (st := s_stand_once) l_stand_once c_stand_once k_stand_once
  have F_is_whole := fun_mk (st := s_is_whole) l_is_whole c_is_whole k_is_whole
  have F_is_name := fun_mk (st := s_is_name) l_is_name c_is_name k_is_name
  have F_is_number := fun_mk (st := s_is_number) l_is_number c_is_number k_is_number
  have F_is_side := fun_mk (st := s_is_side) l_is_side c_is_side k_is_side
  have F_words_of := fun_mk (st := s_words_of) l_words_of c_words_of k_words_of
  have F_rows_of := fun_mk (st := s_rows_of) l_rows_of c_rows_of k_rows_of
  have F_is_made_of := fun_mk (st := s_is_made_of) l_is_made_of c_is_made_of k_is_made_of
  have F_read := fun_mk (st := s_read) l_read c_read k_read
  have F_town_of := fun_mk (st := s_town_of) l_town_of c_town_of k_town_of
  have F_yard_of := fun_mk (st := s_yard_of) l_yard_of c_yard_of k_yard_of
  have F_street_of := fun_mk (st := s_street_of) l_street_of c_street_of k_street_of
  have F_ban_of := fun_mk (st := s_ban_of) l_ban_of c_ban_of k_ban_of
  have F_is_yard_row := fun_mk (st := s_is_yard_row) l_is_yard_row c_is_yard_row k_is_yard_row
  have F_is_street_row := fun_mk (st := s_is_street_row) l_is_street_row c_is_street_row k_is_street_row
  have F_is_ban_row := fun_mk (st := s_is_ban_row) l_is_ban_row c_is_ban_row k_is_ban_row
  have F__law_cell := fun_mk (st := s__law_cell) l__law_cell c__law_cell k__law_cell
  have F__law_names := fun_mk (st := s__law_names) l__law_names c__law_names k__law_names
  have F__law_length := fun_mk (st := s__law_length) l__law_length c__law_length k__law_length
  have F__law_streets := fun_mk (st := s__law_streets) l__law_streets c__law_streets k__law_streets
  have F__law_arcs := fun_mk (st := s__law_arcs) l__law_arcs c__law_arcs k__law_arcs
  have F__law_bans := fun_mk (st := s__law_bans) l__law_bans c__law_bans k__law_bans
  have F__law_town := fun_mk (st := s__law_town) l__law_town c__law_town k__law_town
  have F__law_text := fun_mk (st := s__law_text) l__law_text c__law_text k__law_text
  have F__law_alike := fun_mk (st := s__law_alike) l__law_alike c__law_alike k__law_alike
  have F_law := fun_mk (st := s_law) l_law c_law k_law
  exact ⟨⟨f_show, _, f_street_row, _, f_ban_row, _, f_fits, _, f_fitted, _, f_courses_of, _, f_names_fit, _, f_numbers_fit, _, f_street_fits, _, f_bans_fit, _, f_ban_fits, _, f_stand_once, _, f_is_whole, _, f_is_name, _, f_is_number, _, f_is_side, _, f_words_of, _, f_rows_of, _, f_is_made_of, _, f_read, _, f_town_of, _, f_yard_of, _, f_street_of, _, f_ban_of, _, f_is_yard_row, _, f_is_street_row, _, f_is_ban_row, _, f__law_cell, _, f__law_names, _, f__law_length, _, f__law_streets, _, f__law_arcs, _, f__law_bans, _, f__law_town, _, f__law_text, _, f__law_alike, _, f_law, _, c_KerbError, c_NoText, c_Unfit, t_LETTERS, t_FIGURES, t_MOST_LETTERS, t_MOST_FIGURES, d_WAYS⟩, ⟨F_show, PySem.W.mg_of X G a_show, k_show, F_show.binds fun _ _ _ _ _ _ us hl => (match us, hl with | [_], _ => rfl),
    F_street_row, PySem.W.mg_of X G a_street_row, k_street_row, F_street_row.binds fun _ _ _ _ _ _ us hl => (match us, hl with | [_], _ => rfl),
    F_ban_row, PySem.W.mg_of X G a_ban_row, k_ban_row, F_ban_row.binds fun _ _ _ _ _ _ us hl => (match us, hl with | [_], _ => rfl),
    F_fits, PySem.W.mg_of X G a_fits, k_fits, F_fits.binds fun _ _ _ _ _ _ us hl => (match us, hl with | [_], _ => rfl),
    F_fitted, PySem.W.mg_of X G a_fitted, k_fitted, F_fitted.binds fun _ _ _ _ _ _ us hl => (match us, hl with | [_], _ => rfl),
    F_courses_of, PySem.W.mg_of X G a_courses_of, k_courses_of, F_courses_of.binds fun _ _ _ _ _ _ us hl => (match us, hl with | [_], _ => rfl),
    F_names_fit, PySem.W.mg_of X G a_names_fit, k_names_fit, F_names_fit.binds fun _ _ _ _ _ _ us hl => (match us, hl with | [_], _ => rfl),
    F_numbers_fit, PySem.W.mg_of X G a_numbers_fit, k_numbers_fit, F_numbers_fit.binds fun _ _ _ _ _ _ us hl => (match us, hl with | [_], _ => rfl),
    F_street_fits, PySem.W.mg_of X G a_street_fits, k_street_fits, F_street_fits.binds fun _ _ _ _ _ _ us hl => (match us, hl with | [_], _ => rfl),
    F_bans_fit, PySem.W.mg_of X G a_bans_fit, k_bans_fit, F_bans_fit.binds fun _ _ _ _ _ _ us hl => (match us, hl with | [_], _ => rfl),
    F_ban_fits, PySem.W.mg_of X G a_ban_fits, k_ban_fits, F_ban_fits.binds fun _ _ _ _ _ _ us hl => (match us, hl with | [_, _, _], _ => rfl),
    F_stand_once, PySem.W.mg_of X G a_stand_once, k_stand_once, F_stand_once.binds fun _ _ _ _ _ _ us hl => (match us, hl with | [_], _ => rfl),
    F_is_whole, PySem.W.mg_of X G a_is_whole, k_is_whole, F_is_whole.binds fun _ _ _ _ _ _ us hl => (match us, hl with | [_], _ => rfl),
    F_is_name, PySem.W.mg_of X G a_is_name, k_is_name, F_is_name.binds fun _ _ _ _ _ _ us hl => (match us, hl with | [_], _ => rfl),
    F_is_number, PySem.W.mg_of X G a_is_number, k_is_number, F_is_number.binds fun _ _ _ _ _ _ us hl => (match us, hl with | [_], _ => rfl),
    F_is_side, PySem.W.mg_of X G a_is_side, k_is_side, F_is_side.binds fun _ _ _ _ _ _ us hl => (match us, hl with | [_], _ => rfl),
    F_words_of, PySem.W.mg_of X G a_words_of, k_words_of, F_words_of.binds fun _ _ _ _ _ _ us hl => (match us, hl with | [_], _ => rfl),
    F_rows_of, PySem.W.mg_of X G a_rows_of, k_rows_of, F_rows_of.binds fun _ _ _ _ _ _ us hl => (match us, hl with | [_], _ => rfl),
    F_is_made_of, PySem.W.mg_of X G a_is_made_of, k_is_made_of, F_is_made_of.binds fun _ _ _ _ _ _ us hl => (match us, hl with | [_, _], _ => rfl),
    F_read, PySem.W.mg_of X G a_read, k_read, F_read.binds fun _ _ _ _ _ _ us hl => (match us, hl with | [_], _ => rfl),
    F_town_of, PySem.W.mg_of X G a_town_of, k_town_of, F_town_of.binds fun _ _ _ _ _ _ us hl => (match us, hl with | [_], _ => rfl),
    F_yard_of, PySem.W.mg_of X G a_yard_of, k_yard_of, F_yard_of.binds fun _ _ _ _ _ _ us hl => (match us, hl with | [_], _ => rfl),
    F_street_of, PySem.W.mg_of X G a_street_of, k_street_of, F_street_of.binds fun _ _ _ _ _ _ us hl => (match us, hl with | [_], _ => rfl),
    F_ban_of, PySem.W.mg_of X G a_ban_of, k_ban_of, F_ban_of.binds fun _ _ _ _ _ _ us hl => (match us, hl with | [_], _ => rfl),
    F_is_yard_row, PySem.W.mg_of X G a_is_yard_row, k_is_yard_row, F_is_yard_row.binds fun _ _ _ _ _ _ us hl => (match us, hl with | [_], _ => rfl),
    F_is_street_row, PySem.W.mg_of X G a_is_street_row, k_is_street_row, F_is_street_row.binds fun _ _ _ _ _ _ us hl => (match us, hl with | [_], _ => rfl),
    F_is_ban_row, PySem.W.mg_of X G a_is_ban_row, k_is_ban_row, F_is_ban_row.binds fun _ _ _ _ _ _ us hl => (match us, hl with | [_], _ => rfl),
    F__law_cell, PySem.W.mg_of X G a__law_cell, k__law_cell, F__law_cell.binds fun _ _ _ _ _ _ us hl => (match us, hl with | [_, _], _ => rfl),
    F__law_names, PySem.W.mg_of X G a__law_names, k__law_names, F__law_names.binds fun _ _ _ _ _ _ us hl => (match us, hl with | [_, _], _ => rfl),
    F__law_length, PySem.W.mg_of X G a__law_length, k__law_length, F__law_length.binds fun _ _ _ _ _ _ us hl => (match us, hl with | [_], _ => rfl),
    F__law_streets, PySem.W.mg_of X G a__law_streets, k__law_streets, F__law_streets.binds fun _ _ _ _ _ _ us hl => (match us, hl with | [_, _, _], _ => rfl),
    F__law_arcs, PySem.W.mg_of X G a__law_arcs, k__law_arcs, F__law_arcs.binds fun _ _ _ _ _ _ us hl => (match us, hl with | [_], _ => rfl),
    F__law_bans, PySem.W.mg_of X G a__law_bans, k__law_bans, F__law_bans.binds fun _ _ _ _ _ _ us hl => (match us, hl with | [_, _, _], _ => rfl),
    F__law_town, PySem.W.mg_of X G a__law_town, k__law_town, F__law_town.binds fun _ _ _ _ _ _ us hl => (match us, hl with | [_], _ => rfl),
    F__law_text, PySem.W.mg_of X G a__law_text, k__law_text, F__law_text.binds fun _ _ _ _ _ _ us hl => (match us, hl with | [_], _ => rfl),
    F__law_alike, PySem.W.mg_of X G a__law_alike, k__law_alike, F__law_alike.binds fun _ _ _ _ _ _ us hl => (match us, hl with | [_, _], _ => rfl),
    F_law, PySem.W.mg_of X G a_law, k_law, F_law.binds fun _ _ _ _ _ _ us hl => (match us, hl with | [_], _ => rfl),
    PySem.W.mg_of X G a_KerbError,
    PySem.W.mg_of X G a_NoText,
    PySem.W.mg_of X G a_Unfit,
    x_Unfit,
    x_NoText,
    ⟨ega_NoText, egt_NoText, ecl_NoText, egg_NoText, egs_NoText, eob_NoText, ebx_NoText, ety_NoText⟩,
    ⟨ega_Unfit, egt_Unfit, ecl_Unfit, egg_Unfit, egs_Unfit, eob_Unfit, ebx_Unfit, ety_Unfit⟩,
    PySem.W.mg_none_of X G z_ValueError,
    PySem.W.mg_none_of X G z_all,
    PySem.W.mg_none_of X G z_bool,
    PySem.W.mg_none_of X G z_int,
    PySem.W.mg_none_of X G z_isinstance,
    PySem.W.mg_none_of X G z_len,
    PySem.W.mg_none_of X G z_range,
    PySem.W.mg_none_of X G z_set,
    PySem.W.mg_none_of X G z_str,
    PySem.W.mg_none_of X G z_tuple,
    PySem.W.mg_of X G g_LETTERS,
    PySem.W.mg_of X G g_FIGURES,
    PySem.W.mg_of X G g_MOST_LETTERS,
    PySem.W.mg_of X G g_MOST_FIGURES,
    PySem.W.mg_of X G m_WAYS,
    w_WAYS⟩⟩
theorem cx_none {P : Program} {w : World} {H : Hp} {s : Shared} {e : Value} {s' : Shared} (z : CXX P w [] H s (fun _ _ _ => False) e s') : False := by
  obtain ⟨_, _, _, _, _, _, _, _, _, _, _, _, _, h⟩ := z
  exact h
theorem walk {l : PySem.W.OpenLaw} {q : Program} {loose : List Str} {XP : (Str → Option Value) → Heap → Prop} {YP : World → Heap → Prop} {d : DefRec} {K : Params → PySem.W.Frag} (hn : l.most = some 63) (hdf : d.params.defaults = [])
    (hY : ∀ (w : World) (h : Heap), YP w h → (K w.params).In h)
    (F : ∀ (w : World) (mg : Str → Option Value) (fa : Addr) (h : Heap), (K w.params).In h → h.Ns mainGlobals mg → mg d.name = some (.ref fa) →
      ∃ fd : FuncData, (∀ (s : Shared) (u : Value), BindsTo s fd ⟨[u], []⟩ [("_law_script", u)]) ∧ ∀ base : Heap, (K w.params).In base → base.Ns mainGlobals mg → FnOk l.prog w (K w.params) mg base (CXX l.prog w) 8 fa fd ["_law_script"] (sp_law (K w.params))) :
    PySem.W.WalkO q loose XP YP l.row.toRowW d [] (fun f vs => PySem.call f vs) :=
  L2.walk_of (n := 63) (k := 8) (x := "_law_script") (CX := fun w => CXX l.prog w) (sp := fun w => sp_law (K w.params)) hn (by decide) hdf ⟨rfl, by decide, by decide⟩ hY F (fun _ _ a ns hl _ hS => ⟨a, ns, rfl, hS, hl, fun _ => rfl⟩) fun _ H s e s' z => cx_none z
theorem walkZ {l : PySem.W.OpenLaw} {q : Program} {loose : List Str} {XP : (Str → Option Value) → Heap → Prop} {d : DefRec} {K : Params → PySem.W.Frag} (hn : l.most = some 63) (hdf : d.params.defaults = [])
    (F : ∀ (w : World) (mg : Str → Option Value) (fa : Addr) (h : Heap), (K w.params).In h → h.Ns mainGlobals mg → mg d.name = some (.ref fa) →
      ∃ fd : FuncData, (∀ (s : Shared) (u : Value), BindsTo s fd ⟨[u], []⟩ [("_law_script", u)]) ∧ ∀ base : Heap, (K w.params).In base → base.Ns mainGlobals mg → FnOk l.prog w (K w.params) mg base (CXX l.prog w) 8 fa fd ["_law_script"] (sp_law (K w.params))) :
    PySem.W.WalkO q loose XP (fun w h => (K w.params).In h) l.row.toRowW d [] (fun f vs => PySem.call f vs) := walk hn hdf (fun _ _ h => h) F
theorem law_mk {l : PySem.W.OpenLaw} {w : World} {K : PySem.W.Frag} {h : Heap} {mg : Str → Option Value} {fa : Addr} (hfa : mg "law" = some (.ref fa)) (T : ∃ a, Txt K mg a) :
    ∃ fd : FuncData, (∀ (s : Shared) (v : Value), BindsTo s fd ⟨[v], []⟩ [("_law_script", v)]) ∧ ∀ base : Heap, K.In base → base.Ns mainGlobals mg → FnOk l.prog w K mg base (CXX l.prog w) 8 fa fd ["_law_script"] (sp_law K) := by
  obtain ⟨a, T⟩ := T
  have e := hfa.symm.trans T.m_law
  cases e
  obtain ⟨oc, od, kV, doc, pm, an, cdv, ct, osl, e, lk, hcd⟩ := T.F_law.ex
  refine ⟨a.d_law, fun s v => ?_, fun base _ _ => law_sp T⟩
  rw [e]
  exact .of_eq rfl
end My
open PySem PySem.W PyProof.Rows
set_option maxRecDepth 100000 in
set_option maxHeartbeats 0 in
theorem PySem.Challenge.cw_kerb_k06_texts_shown_and_read_holds : PySem.Challenge.rw_kerb_k06_texts_shown_and_read.Holds := by
  w_on; o_law; z_head; (case hw => w_witness2)
  k_fill
  intro w s₀ s₁ mg mb G y fa o pm cd doc dV kV ho hd hcd hD hmg hg args vals as L hpre hlay hrd hwl hlo
  z_open y L KX ZH ZN ZT
  refine My.walkZ (l := PySem.Challenge.rw_kerb_k06_texts_shown_and_read) rfl rfl ?F w s₀ s₁ mg mb G KX fa o pm cd doc dV kV ho hd hcd hD hmg hg args vals as hpre hlay hrd hwl hlo
  clear hD hpre hlay hrd hwl hlo hd KX ZH ZN ZT L y hcd ho hg hmg G
  case F =>
    intro w mg fa h KX G hmg
    refine My.law_mk (h := h) hmg ?T
    refine' My.txt_mk KX G ?a_show ?l_show ?c_show ?k_show ?a_street_row ?l_street_row ?c_street_row ?k_street_row ?a_ban_row ?l_ban_row ?c_ban_row ?k_ban_row ?a_fits ?l_fits ?c_fits ?k_fits ?a_fitted ?l_fitted ?c_fitted ?k_fitted ?a_courses_of ?l_courses_of ?c_courses_of ?k_courses_of ?a_names_fit ?l_names_fit ?c_names_fit ?k_names_fit ?a_numbers_fit ?l_numbers_fit ?c_numbers_fit ?k_numbers_fit ?a_street_fits ?l_street_fits ?c_street_fits ?k_street_fits ?a_bans_fit ?l_bans_fit ?c_bans_fit ?k_bans_fit ?a_ban_fits ?l_ban_fits ?c_ban_fits ?k_ban_fits ?a_stand_once ?l_stand_once ?c_stand_once ?k_stand_once ?a_is_whole ?l_is_whole ?c_is_whole ?k_is_whole ?a_is_name ?l_is_name ?c_is_name ?k_is_name ?a_is_number ?l_is_number ?c_is_number ?k_is_number ?a_is_side ?l_is_side ?c_is_side ?k_is_side ?a_words_of ?l_words_of ?c_words_of ?k_words_of ?a_rows_of ?l_rows_of ?c_rows_of ?k_rows_of ?a_is_made_of ?l_is_made_of ?c_is_made_of ?k_is_made_of ?a_read ?l_read ?c_read ?k_read ?a_town_of ?l_town_of ?c_town_of ?k_town_of ?a_yard_of ?l_yard_of ?c_yard_of ?k_yard_of ?a_street_of ?l_street_of ?c_street_of ?k_street_of ?a_ban_of ?l_ban_of ?c_ban_of ?k_ban_of ?a_is_yard_row ?l_is_yard_row ?c_is_yard_row ?k_is_yard_row ?a_is_street_row ?l_is_street_row ?c_is_street_row ?k_is_street_row ?a_is_ban_row ?l_is_ban_row ?c_is_ban_row ?k_is_ban_row ?a__law_cell ?l__law_cell ?c__law_cell ?k__law_cell ?a__law_names ?l__law_names ?c__law_names ?k__law_names ?a__law_length ?l__law_length ?c__law_length ?k__law_length ?a__law_streets ?l__law_streets ?c__law_streets ?k__law_streets ?a__law_arcs ?l__law_arcs ?c__law_arcs ?k__law_arcs ?a__law_bans ?l__law_bans ?c__law_bans ?k__law_bans ?a__law_town ?l__law_town ?c__law_town ?k__law_town ?a__law_text ?l__law_text ?c__law_text ?k__law_text ?a__law_alike ?l__law_alike ?c__law_alike ?k__law_alike ?a_law ?l_law ?c_law ?k_law ?a_KerbError ?a_NoText ?a_Unfit ?x_Unfit ?x_NoText ?ega_NoText ?egt_NoText ?ecl_NoText ?egg_NoText ?egs_NoText ?eob_NoText ?ebx_NoText ?ety_NoText ?ega_Unfit ?egt_Unfit ?ecl_Unfit ?egg_Unfit ?egs_Unfit ?eob_Unfit ?ebx_Unfit ?ety_Unfit ?z_ValueError ?z_all ?z_bool ?z_int ?z_isinstance ?z_len ?z_range ?z_set ?z_str ?z_tuple ?g_LETTERS ?g_FIGURES ?g_MOST_LETTERS ?g_MOST_FIGURES ?m_WAYS ?w_WAYS
    (case a_show => k_is)
    (case l_show => k_is)
    (case c_show => k_is)
    (case k_show => k_is)
    (case a_street_row => k_is)
    (case l_street_row => k_is)
    (case c_street_row => k_is)
    (case k_street_row => k_is)
    (case a_ban_row => k_is)
    (case l_ban_row => k_is)
    (case c_ban_row => k_is)
    (case k_ban_row => k_is)
    (case a_fits => k_is)
    (case l_fits => k_is)
    (case c_fits => k_is)
    (case k_fits => k_is)
    (case a_fitted => k_is)
    (case l_fitted => k_is)
    (case c_fitted => k_is)
    (case k_fitted => k_is)
    (case a_courses_of => k_is)
    (case l_courses_of => k_is)
    (case c_courses_of => k_is)
    (case k_courses_of => k_is)
    (case a_names_fit => k_is)
    (case l_names_fit => k_is)
    (case c_names_fit => k_is)
    (case k_names_fit => k_is)
    (case a_numbers_fit => k_is)
    (case l_numbers_fit => k_is)
    (case c_numbers_fit => k_is)
    (case k_numbers_fit => k_is)
    (case a_street_fits => k_is)
    (case l_street_fits => k_is)
    (case c_street_fits => k_is)
    (case k_street_fits => k_is)
    (case a_bans_fit => k_is)
    (case l_bans_fit => k_is)
    (case c_bans_fit => k_is)
    (case k_bans_fit => k_is)
    (case a_ban_fits => k_is)
    (case l_ban_fits => k_is)
    (case c_ban_fits => k_is)
    (case k_ban_fits => k_is)
    (case a_stand_once => k_is)
    (case l_stand_once => k_is)
    (case c_stand_once => k_is)
    (case k_stand_once => k_is)
    (case a_is_whole => k_is)
    (case l_is_whole => k_is)
    (case c_is_whole => k_is)
    (case k_is_whole => k_is)
    (case a_is_name => k_is)
    (case l_is_name => k_is)
    (case c_is_name => k_is)
    (case k_is_name => k_is)
    (case a_is_number => k_is)
    (case l_is_number => k_is)
    (case c_is_number => k_is)
    (case k_is_number => k_is)
    (case a_is_side => k_is)
    (case l_is_side => k_is)
    (case c_is_side => k_is)
    (case k_is_side => k_is)
    (case a_words_of => k_is)
    (case l_words_of => k_is)
    (case c_words_of => k_is)
    (case k_words_of => k_is)
    (case a_rows_of => k_is)
    (case l_rows_of => k_is)
    (case c_rows_of => k_is)
    (case k_rows_of => k_is)
    (case a_is_made_of => k_is)
    (case l_is_made_of => k_is)
    (case c_is_made_of => k_is)
    (case k_is_made_of => k_is)
    (case a_read => k_is)
    (case l_read => k_is)
    (case c_read => k_is)
    (case k_read => k_is)
    (case a_town_of => k_is)
    (case l_town_of => k_is)
    (case c_town_of => k_is)
    (case k_town_of => k_is)
    (case a_yard_of => k_is)
    (case l_yard_of => k_is)
    (case c_yard_of => k_is)
    (case k_yard_of => k_is)
    (case a_street_of => k_is)
    (case l_street_of => k_is)
    (case c_street_of => k_is)
    (case k_street_of => k_is)
    (case a_ban_of => k_is)
    (case l_ban_of => k_is)
    (case c_ban_of => k_is)
    (case k_ban_of => k_is)
    (case a_is_yard_row => k_is)
    (case l_is_yard_row => k_is)
    (case c_is_yard_row => k_is)
    (case k_is_yard_row => k_is)
    (case a_is_street_row => k_is)
    (case l_is_street_row => k_is)
    (case c_is_street_row => k_is)
    (case k_is_street_row => k_is)
    (case a_is_ban_row => k_is)
    (case l_is_ban_row => k_is)
    (case c_is_ban_row => k_is)
    (case k_is_ban_row => k_is)
    (case a__law_cell => k_is)
    (case l__law_cell => k_is)
    (case c__law_cell => k_is)
    (case k__law_cell => k_is)
    (case a__law_names => k_is)
    (case l__law_names => k_is)
    (case c__law_names => k_is)
    (case k__law_names => k_is)
    (case a__law_length => k_is)
    (case l__law_length => k_is)
    (case c__law_length => k_is)
    (case k__law_length => k_is)
    (case a__law_streets => k_is)
    (case l__law_streets => k_is)
    (case c__law_streets => k_is)
    (case k__law_streets => k_is)
    (case a__law_arcs => k_is)
    (case l__law_arcs => k_is)
    (case c__law_arcs => k_is)
    (case k__law_arcs => k_is)
    (case a__law_bans => k_is)
    (case l__law_bans => k_is)
    (case c__law_bans => k_is)
    (case k__law_bans => k_is)
    (case a__law_town => k_is)
    (case l__law_town => k_is)
    (case c__law_town => k_is)
    (case k__law_town => k_is)
    (case a__law_text => k_is)
    (case l__law_text => k_is)
    (case c__law_text => k_is)
    (case k__law_text => k_is)
    (case a__law_alike => k_is)
    (case l__law_alike => k_is)
    (case c__law_alike => k_is)
    (case k__law_alike => k_is)
    (case a_law => k_is)
    (case l_law => k_is)
    (case c_law => k_is)
    (case k_law => k_is)
    (case a_KerbError => k_is)
    (case a_NoText => k_is)
    (case a_Unfit => k_is)
    (case x_Unfit => kernel_rfl)
    (case x_NoText => kernel_rfl)
    (case ega_NoText => k_is)
    (case egt_NoText => k_is)
    (case ecl_NoText => k_is)
    (case egg_NoText => k_is)
    (case egs_NoText => k_is)
    (case eob_NoText => k_is)
    (case ebx_NoText => k_is)
    (case ety_NoText => k_is)
    (case ega_Unfit => k_is)
    (case egt_Unfit => k_is)
    (case ecl_Unfit => k_is)
    (case egg_Unfit => k_is)
    (case egs_Unfit => k_is)
    (case eob_Unfit => k_is)
    (case ebx_Unfit => k_is)
    (case ety_Unfit => k_is)
    (case z_ValueError => k_is)
    (case z_all => k_is)
    (case z_bool => k_is)
    (case z_int => k_is)
    (case z_isinstance => k_is)
    (case z_len => k_is)
    (case z_range => k_is)
    (case z_set => k_is)
    (case z_str => k_is)
    (case z_tuple => k_is)
    (case g_LETTERS => k_is)
    (case g_FIGURES => k_is)
    (case g_MOST_LETTERS => k_is)
    (case g_MOST_FIGURES => k_is)
    (case m_WAYS => k_is)
    (case w_WAYS => kernel_rfl)
