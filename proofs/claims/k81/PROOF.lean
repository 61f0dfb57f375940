import PyProof.Rows.All
import Wide.All
import OpenK.AllK
import Wide.FinOn
import Lean
import PyProof.EqAt
import PyProof.EqKinds
import PyProof.TupleCall
import PySem.Challenge.RW_forestread_k81_rules_read
set_option Elab.async false
set_option linter.all false
set_option maxRecDepth 100000

namespace L2
open PySem PySem.Spec PyProof.Rows


abbrev Key := Sum Int Str
def keyIs : Key → Value → Bool
  | .inl k, v => Value.isInt k v
  | .inr x, v => Value.isStrOf x v
def keyH (w : World) : Key → Int
  | .inl k => hashInt k
  | .inr x => hashStr w x
theorem keyIs_shape : ∀ {k : Key} {v : Value}, keyIs k v = true → (∃ i t, k = Sum.inl i ∧ v = Value.int i t) ∨ (∃ x t, k = Sum.inr x ∧ v = Value.str x t)
  | .inl i, v, h => by
    obtain ⟨t, e⟩ := Value.isInt_shape (k := i) (v := v) h
    exact .inl ⟨i, t, rfl, e⟩
  | .inr x, v, h => by
    obtain ⟨t, e⟩ := Value.isStrOf_shape (x := x) (v := v) h
    exact .inr ⟨x, t, rfl, e⟩
theorem key_ll (a b : Int) : decide ((Sum.inl a : Key) = Sum.inl b) = (a == b) := by
  by_cases e : a = b
  · subst e; simp
  · have h : ¬ (Sum.inl a : Key) = Sum.inl b := fun q => e (Sum.inl.inj q)
    rw [decide_eq_false h]
    exact (beq_eq_false_iff_ne.mpr e).symm
theorem key_rr (a b : Str) : decide ((Sum.inr a : Key) = Sum.inr b) = decide (a = b) := by
  by_cases e : a = b
  · subst e; simp
  · have h : ¬ (Sum.inr a : Key) = Sum.inr b := fun q => e (Sum.inr.inj q)
    rw [decide_eq_false h, decide_eq_false e]
theorem key_lr (a : Int) (b : Str) : decide ((Sum.inl a : Key) = Sum.inr b) = false := decide_eq_false (fun q => nomatch q)
theorem key_rl (a : Str) (b : Int) : decide ((Sum.inr a : Key) = Sum.inl b) = false := decide_eq_false (fun q => nomatch q)

def mixKind (prog : Program) (w : World) : PySem.KeyKind prog w Key where
  is := keyIs
  hash := keyH w
  inj := fun v a b ha hb => by
    rcases keyIs_shape ha with ⟨i, t, rfl, rfl⟩ | ⟨x, t, rfl, rfl⟩
    · rcases keyIs_shape hb with ⟨j, u, rfl, e⟩ | ⟨y, u, rfl, e⟩
      · injection e with e1 _; rw [e1]
      · exact nomatch e
    · rcases keyIs_shape hb with ⟨j, u, rfl, e⟩ | ⟨y, u, rfl, e⟩
      · exact nomatch e
      · injection e with e1 _; rw [e1]
  byValue := fun k v h => by
    rcases keyIs_shape h with ⟨i, t, rfl, rfl⟩ | ⟨x, t, rfl, rfl⟩ <;> rfl
  pyHash := fun hv h => by
    rcases keyIs_shape hv with ⟨i, t, rfl, rfl⟩ | ⟨x, t, rfl, rfl⟩
    · exact wpAny_pyHash_int h
    · exact wpAny_pyHash_str h
  eqBool := fun hu hv h => by
    rcases keyIs_shape hu with ⟨i, t, rfl, rfl⟩ | ⟨x, t, rfl, rfl⟩
    · rcases keyIs_shape hv with ⟨j, u, rfl, rfl⟩ | ⟨y, u, rfl, rfl⟩
      · rw [key_ll] at h; exact wpAny_eqBool_int h
      · rw [key_lr] at h; exact SeqAt.EqAt.int_str i t y u _ _ _ _ h
    · rcases keyIs_shape hv with ⟨j, u, rfl, rfl⟩ | ⟨y, u, rfl, rfl⟩
      · rw [key_rl] at h; exact SeqAt.EqAt.str_int x t j u _ _ _ _ h
      · rw [key_rr] at h; exact wpAny_eqBool_str h
  «strs» := fun k x t v h => by
    rcases keyIs_shape h with ⟨i, u, rfl, e⟩ | ⟨y, u, rfl, e⟩
    · exact nomatch e
    · injection e with e1 _
      subst e1
      cases v <;> rfl

end L2

namespace L2
open PySem PySem.Spec PyProof.Rows


inductive V where
  | non | bl (b : Bool) | int (i : Int) | str (x : Str) | byt (b : Array UInt8) | flt (b : UInt64) | ref (a : Addr) | ty (n : String)
  deriving DecidableEq

def RelV : V → Value → Prop
  | .non, u => u = Value.none
  | .bl b, u => u = Value.bool b
  | .int i, u => ∃ t, u = Value.int i t
  | .str x, u => ∃ t, u = Value.str x t
  | .byt b, u => ∃ t, u = Value.bytes b t
  | .flt b, u => ∃ t, u = Value.float b t
  | .ref a, u => u = Value.ref a
  | .ty n, u => u = Value.type n

abbrev Vals : List V → List Value → Prop := Paired RelV
theorem Vals.length {xs : List V} {us : List Value} (r : Vals xs us) : xs.length = us.length := Paired.length r
theorem Vals.get : ∀ {xs : List V} {us : List Value} {i : Nat} {x : V}, Vals xs us → xs[i]? = some x → ∃ u, us[i]? = some u ∧ RelV x u
  | _, _, _, _, .nil, e => by simp at e
  | _, _, 0, _, .cons r _, e => by simp at e; subst e; exact ⟨_, rfl, r⟩
  | _, _, i + 1, x, .cons _ t, e => by
    obtain ⟨u, h1, h2⟩ := Vals.get (i := i) (x := x) t (by simpa using e)
    exact ⟨u, by simpa using h1, h2⟩
theorem Vals.set {x : V} {u : Value} (r : RelV x u) : ∀ {xs : List V} {us : List Value} (i : Nat), Vals xs us → Vals (xs.set i x) (us.set i u)
  | _, _, _, .nil => .nil
  | _, _, 0, .cons _ t => .cons r t
  | _, _, i + 1, .cons q t => .cons q (Vals.set r i t)
theorem Vals.append : ∀ {xs ys : List V} {us ws : List Value}, Vals xs us → Vals ys ws → Vals (xs ++ ys) (us ++ ws)
  | _, _, _, _, .nil, s => s
  | _, _, _, _, .cons r t, s => .cons r (Vals.append t s)
theorem Vals.take : ∀ {xs : List V} {us : List Value} (n : Nat), Vals xs us → Vals (xs.take n) (us.take n)
  | _, _, 0, _ => .nil
  | _, _, _ + 1, .nil => .nil
  | _, _, n + 1, .cons r t => .cons r (Vals.take n t)
theorem Vals.drop : ∀ {xs : List V} {us : List Value} (n : Nat), Vals xs us → Vals (xs.drop n) (us.drop n)
  | _, _, 0, r => r
  | _, _, _ + 1, .nil => .nil
  | _, _, n + 1, .cons _ t => Vals.drop n t
theorem Vals.none_of : ∀ {xs : List V} {us : List Value} {i : Nat}, Vals xs us → xs[i]? = none → us[i]? = none := fun {xs us i} r e => by
  have h1 := r.length
  have h2 : xs.length ≤ i := List.getElem?_eq_none_iff.mp e
  exact List.getElem?_eq_none_iff.mpr (by omega)

def RelO : Option V → Option Value → Prop
  | some v, some u => RelV v u
  | none, none => True
  | _, _ => False
def KV {κ : Type} : List (κ × V) → List (κ × Value) → Prop := Paired fun (p : κ × V) (q : κ × Value) => p.1 = q.1 ∧ RelV p.2 q.2


def kV : Key → V
  | .inl i => .int i
  | .inr x => .str x


inductive HO where
  
  | lst (xs : List V)
  
  | tup (xs : List V)
  
  | dK (kvs : List (Key × V)) | dT (kvs : List (List Key × V))
  
  | set (S : Int → Bool) (n : Nat)
  
  | ins (C dx : Addr) (fs : List (Str × V))
  
  | own (x : Addr)
  
  | xd (fs : List (Str × V))
  
  | met (f x : Addr)
  
  | rng (lo hi : Int)
  
  | frz (o : Obj) (u : HO)
  
  | tbl (ps : Array Value)
  
  | ext (φ : Heap → Prop)

abbrev Hp := Addr → Option HO
def upd (H : Hp) (a : Addr) (o : HO) : Hp := fun b => if b = a then some o else H b
theorem upd_same {H : Hp} {a : Addr} {o : HO} : upd H a o a = some o := by unfold upd; rw [if_pos rfl]
theorem upd_ne {H : Hp} {a b : Addr} {o : HO} (h : b ≠ a) : upd H a o b = H b := by unfold upd; rw [if_neg h]
theorem upd_upd {H : Hp} {a : Addr} {o u : HO} : upd (upd H a o) a u = upd H a u := by
  funext b; unfold upd; split <;> rfl

theorem ne_of_none {H : Hp} {a b : Addr} {o : HO} (h : H a = some o) (h' : H b = none) : a ≠ b := by
  intro e; subst e; rw [h] at h'; cases h'

section
variable (P : Program) (w : World)
def ObjOk (H : Hp) (h : Heap) (a : Addr) : HO → Prop
  | .lst xs => xs.length ≤ sizeLine ∧ ∃ (its : List Value) (n : Nat), Vals xs its ∧ h.get? a = some { cls := .type "list", data := .seq its.toArray n }
  | .tup xs => xs.length ≤ sizeLine ∧ ∃ its : List Value, Vals xs its ∧ IsTup h a its.toArray
  | .dK kvs => kvs.length ≤ sizeLine ∧ (a == sysModules) = false ∧ ∃ vs, KV kvs vs ∧ h.DictOf (mixKind P w) a vs
  | .dT kvs => kvs.length ≤ sizeLine ∧ (a == sysModules) = false ∧ ∃ xs : List (List Key × Addr × Value),
      Paired (fun (p : List Key × V) (q : List Key × Addr × Value) => p.1 = q.1 ∧ H q.2.1 = some (.tup (p.1.map kV)) ∧ RelV p.2 q.2.2) kvs xs ∧
      ∃ o es ep, h.get? a = some o ∧ o.ExactDict ∧ o.data = .dict es ep ∧ es.toList = xs.map (entryOfKey (tupleKind (mixKind P w))) ∧ (xs.map (·.1)).Nodup
  | .set S n => h.SetOf (intKind P w) a S n
  | .ins C dx fs => H dx = some (.own a) ∧ fs.length ≤ 1000 ∧ dx ≠ a ∧ h.get? a = some (PySem.W.instObj C dx) ∧
      ∃ mA, h.Ns1 dx mA ∧ (∀ f, RelO (fs.lookup f) (mA f)) ∧ PySem.Within mA (fs.map (·.1))
  | .own _ => ∃ o, h.get? a = some o
  | .xd fs => ∃ mA, h.Ns1 a mA ∧ ∀ f, RelO (fs.lookup f) (mA f)
  | .rng lo hi => ∃ t u v, h.get? a = some { cls := .type "range", data := .fields #[.int lo t, .int hi u, .int 1 v] }
  | .frz o u => h.get? a = some o ∧ ObjOk H h a u
  | .tbl ps => h.get? a = some { cls := .none, data := .fields ps }
  | .met f x => h.get? a = some (PySem.W.methodObj (.ref f) (.ref x))
  | .ext φ => φ h ∧ (∃ o, h.get? a = some o) ∧ ∀ h1 h2 : Heap, φ h1 → (∀ o, h1.get? a = some o → h2.get? a = some o) → φ h2

def HOk (H : Hp) (h : Heap) : Prop := ∀ a o, H a = some o → ObjOk P w H h a o
end

section
variable {P : Program} {w : World} {H H' : Hp} {h h' : Heap} {a : Addr} {o : HO}
theorem ObjOk.lt (x : ObjOk P w H h a o) : a < h.objs.size := by
  cases o with
  | lst xs => obtain ⟨_, _, _, _, e⟩ := x; exact Heap.lt_size e
  | tup xs => obtain ⟨_, _, _, p⟩ := x; exact p.lt
  | dK kvs => obtain ⟨_, _, _, _, o, _, _, e, _⟩ := x; exact Heap.lt_size e
  | dT kvs => obtain ⟨_, _, _, _, o, _, _, e, _⟩ := x; exact Heap.lt_size e
  | set S n => obtain ⟨o, _, _, _, e, _⟩ := x; exact Heap.lt_size e
  | ins C dx fs => obtain ⟨_, _, _, e, _⟩ := x; exact Heap.lt_size e
  | own y => obtain ⟨_, e⟩ := x; exact Heap.lt_size e
  | xd fs => obtain ⟨_, ⟨_, _, _, e, _⟩, _⟩ := x; exact Heap.lt_size e
  | rng lo hi => obtain ⟨_, _, _, e⟩ := x; exact Heap.lt_size e
  | frz ob u => obtain ⟨e, _⟩ := x; exact Heap.lt_size e
  | tbl ps => exact Heap.lt_size (show h.get? a = some _ from x)
  | met f y => exact Heap.lt_size (show h.get? a = some _ from x)
  | ext φ => obtain ⟨_, ⟨_, e⟩, _⟩ := x; exact Heap.lt_size e
theorem Paired.mapP {α β : Type} {F G : α → β → Prop} : ∀ {l₁ : List α} {l₂ : List β}, Paired F l₁ l₂ → (∀ a b, F a b → G a b) → Paired G l₁ l₂
  | _, _, .nil, _ => .nil
  | _, _, .cons r t, f => .cons (f _ _ r) (Paired.mapP t f)
theorem ObjOk.stay (x : ObjOk P w H h a o) (k : ∀ b u, (b = a ∨ H b = some (.own a)) → h.get? b = some u → h'.get? b = some u)
    (ho : ∀ b, H b = some (.own a) → H' b = some (.own a)) (ht : ∀ b xs, H b = some (.tup xs) → H' b = some (.tup xs)) : ObjOk P w H' h' a o := by
  induction o with
  | lst xs => obtain ⟨z, its, n, r, e⟩ := x; exact ⟨z, its, n, r, k _ _ (.inl rfl) e⟩
  | tup xs => obtain ⟨z, its, r, ob, e, c⟩ := x; exact ⟨z, its, r, ob, k _ _ (.inl rfl) e, c⟩
  | dK kvs => obtain ⟨z, y, vs, r, ob, es, ep, e, c⟩ := x; exact ⟨z, y, vs, r, ob, es, ep, k _ _ (.inl rfl) e, c⟩
  | dT kvs =>
    obtain ⟨z, y, xs, r, ob, es, ep, e, c⟩ := x
    exact ⟨z, y, xs, Paired.mapP r fun p q z => ⟨z.1, ht _ _ z.2.1, z.2.2⟩, ob, es, ep, k _ _ (.inl rfl) e, c⟩
  | set S n => obtain ⟨ob, es, ep, t, e, c⟩ := x; exact ⟨ob, es, ep, t, k _ _ (.inl rfl) e, c⟩
  | ins C dx fs =>
    obtain ⟨d, z, ne, e, mA, ⟨od, es, ep, e2, c⟩, r⟩ := x
    exact ⟨ho _ d, z, ne, k _ _ (.inl rfl) e, mA, ⟨od, es, ep, k _ _ (.inr d) e2, c⟩, r⟩
  | own y => obtain ⟨ob, e⟩ := x; exact ⟨ob, k _ _ (.inl rfl) e⟩
  | xd fs => obtain ⟨mA, ⟨od, es, ep, e, c⟩, r⟩ := x; exact ⟨mA, ⟨od, es, ep, k _ _ (.inl rfl) e, c⟩, r⟩
  | rng lo hi => obtain ⟨t, u, v, e⟩ := x; exact ⟨t, u, v, k _ _ (.inl rfl) e⟩
  | frz ob u ih => obtain ⟨e, q⟩ := x; exact ⟨k _ _ (.inl rfl) e, ih q⟩
  | tbl ps =>
    have e : h.get? a = some { cls := .none, data := .fields ps } := x
    show h'.get? a = some { cls := .none, data := .fields ps }
    exact k a _ (.inl rfl) e
  | met f y =>
    have e : h.get? a = some (PySem.W.methodObj (.ref f) (.ref y)) := x
    show h'.get? a = some (PySem.W.methodObj (.ref f) (.ref y))
    exact k a _ (.inl rfl) e
  | ext φ => obtain ⟨p, ⟨o, e⟩, st⟩ := x; exact ⟨st _ _ p fun o q => k _ _ (.inl rfl) q, ⟨o, k _ _ (.inl rfl) e⟩, st⟩
theorem HOk.lt (x : HOk P w H h) (e : H a = some o) : a < h.objs.size := (x a o e).lt
theorem HOk.fresh (x : HOk P w H h) (e : h.objs.size ≤ a) : H a = none := by
  cases q : H a with
  | none => rfl
  | some u => exact absurd (Nat.lt_of_lt_of_le (x.lt q) e) (Nat.lt_irrefl _)

theorem HOk.kept (x : HOk P w H h) (k : ∀ b u, h.get? b = some u → h'.get? b = some u) : HOk P w H h' := fun a o e =>
  (x a o e).stay (fun b u _ q => k b u q) (fun _ q => q) fun _ _ q => q

theorem HOk.laid (x : HOk P w H h) (k : ∀ b u, h.get? b = some u → h'.get? b = some u) (hp : h.objs.size ≤ a) (new : ObjOk P w (upd H a o) h' a o) : HOk P w (upd H a o) h' := fun b u e => by
  have hn := x.fresh hp
  by_cases hb : b = a
  · subst hb; rw [upd_same] at e; cases e; exact new
  · rw [upd_ne hb] at e
    exact (x b u e).stay (fun c v _ q => k c v q) (fun c q => by rw [upd_ne (ne_of_none q hn)]; exact q) fun c xs q => by rw [upd_ne (ne_of_none q hn)]; exact q
end


def Rd (H : Hp) (a : Addr) (u : HO) : Prop := H a = some u ∨ ∃ o, H a = some (.frz o u)
theorem Rd.of {H : Hp} {a : Addr} {u : HO} (h : H a = some u) : Rd H a u := .inl h
theorem Rd.ok {P : Program} {w : World} {H : Hp} {h : Heap} {a : Addr} {u : HO} (r : Rd H a u) (x : HOk P w H h) : ObjOk P w H h a u := by
  rcases r with r | ⟨o, r⟩
  · exact x a u r
  · obtain ⟨_, q⟩ := x a _ r
    exact q

def Mut : Option HO → Prop
  | some (.lst _) => True
  | some (.dK _) => True
  | some (.dT _) => True
  | some (.set _ _) => True
  | some (.ins _ _ _) => True
  | some (.ext _) => True
  | _ => False
section
variable {P : Program} {w : World} {H : Hp} {h h' : Heap} {x e : Addr} {o' : HO}

theorem HOk.write (ok : HOk P w H h) (mu : Mut (H x)) (he : e = x ∨ H e = some (.own x)) (k : ∀ b u, b ≠ e → h.get? b = some u → h'.get? b = some u) (heo : ∃ u, h'.get? e = some u)
    (new : ObjOk P w (upd H x o') h' x o') : HOk P w (upd H x o') h' := fun b u q => by
  have nown : ∀ c y, H c = some (.own y) → c ≠ x := fun c y r z => by subst z; rw [r] at mu; exact mu
  have ntup : ∀ c xs, H c = some (.tup xs) → c ≠ x := fun c xs r z => by subst z; rw [r] at mu; exact mu
  by_cases hb : b = x
  · subst hb; rw [upd_same] at q; cases q; exact new
  · rw [upd_ne hb] at q
    by_cases hbe : b = e
    · have q' : H b = some (.own x) := by
        rcases he with z | z
        · exact absurd (hbe.trans z) hb
        · rw [hbe]; exact z
      rw [q] at q'; cases q'
      obtain ⟨v, hv⟩ := heo
      exact ⟨v, by rw [hbe]; exact hv⟩
    · refine (ok b u q).stay (fun c v hc r => k c v ?_ r) (fun c r => by rw [upd_ne (nown c b r)]; exact r) fun c xs r => by rw [upd_ne (ntup c xs r)]; exact r
      rcases hc with rfl | hc
      · exact hbe
      · rintro rfl
        rcases he with z | z
        · exact nown c b hc z
        · rw [hc] at z; cases z; exact hb rfl
end


structure Un (fs ex : List Addr) (H H' : Hp) (h h' : Heap) : Prop where
  keep : ∀ b o, h.get? b = some o → H b = none → b ∉ fs → b ∉ ex → h'.get? b = some o
  slot : ∀ b o, h.get? b = some o → H b = none → b ∈ fs → b ∉ ex → ∃ sl, h'.get? b = some { o with slots := sl }
  free : ∀ b o, h.get? b = some o → H b = none → b ∉ ex → H' b = none
  there : ∀ b o, h.get? b = some o → b ∉ ex → ∃ o', h'.get? b = some o'
  tups : ∀ b xs, H b = some (.tup xs) → H' b = some (.tup xs)
  frzs : ∀ b o u, H b = some (.frz o u) → H' b = some (.frz o u)
  tbls : ∀ b ps, H b = some (.tbl ps) → ∃ more, H' b = some (.tbl (ps ++ more))
section
variable {fs fs' ex ex' : List Addr} {H H1 H2 : Hp} {h h1 h2 h' : Heap} {a x e : Addr} {o : HO}
theorem Un.any (u : Un fs ex H H1 h h1) {b : Addr} {ob : Obj} (q : h.get? b = some ob) (n : H b = none) (hx : b ∉ ex) : ∃ sl, h1.get? b = some { ob with slots := sl } := by
  by_cases hb : b ∈ fs
  · exact u.slot b ob q n hb hx
  · exact ⟨ob.slots, u.keep b ob q n hb hx⟩
theorem Un.trans (a : Un fs ex H H1 h h1) (b : Un fs ex H1 H2 h1 h2) : Un fs ex H H2 h h2 where
  keep := fun c ob q n hc hx => b.keep c ob (a.keep c ob q n hc hx) (a.free c ob q n hx) hc hx
  slot := fun c ob q n hc hx => by
    obtain ⟨sl, e1⟩ := a.slot c ob q n hc hx
    obtain ⟨sl', e2⟩ := b.slot c _ e1 (a.free c ob q n hx) hc hx
    exact ⟨sl', e2⟩
  free := fun c ob q n hx => by
    obtain ⟨o', e1⟩ := a.there c ob q hx
    exact b.free c o' e1 (a.free c ob q n hx) hx
  there := fun c ob q hx => by
    obtain ⟨o', e1⟩ := a.there c ob q hx
    exact b.there c o' e1 hx
  tups := fun c xs q => b.tups c xs (a.tups c xs q)
  frzs := fun c ob xs q => b.frzs c ob xs (a.frzs c ob xs q)
  tbls := fun c ps q => by
    obtain ⟨m1, e1⟩ := a.tbls c ps q
    obtain ⟨m2, e2⟩ := b.tbls c _ e1
    exact ⟨m1 ++ m2, by rw [e2, Array.append_assoc]⟩
theorem Un.kept (k : ∀ b u, h.get? b = some u → h'.get? b = some u) : Un fs ex H H h h' :=
  ⟨fun b ob q _ _ _ => k b ob q, fun b ob q _ _ _ => ⟨ob.slots, k b ob q⟩, fun _ _ _ n _ => n, fun b ob q _ => ⟨ob, k b ob q⟩, fun _ _ q => q, fun _ _ _ q => q, fun _ ps q => ⟨#[], by rw [q]; simp⟩⟩
theorem Un.refl : Un fs ex H H h h := Un.kept fun _ _ q => q
theorem Un.laid (k : ∀ b u, h.get? b = some u → h'.get? b = some u) (hp : h.objs.size ≤ a) (hn : H a = none) : Un fs ex H (upd H a o) h h' where
  keep := fun b u q _ _ _ => k b u q
  slot := fun b u q _ _ _ => ⟨u.slots, k b u q⟩
  free := fun b u q n _ => by rw [upd_ne (Nat.ne_of_lt (Nat.lt_of_lt_of_le (Heap.lt_size q) hp))]; exact n
  there := fun b u q _ => ⟨u, k b u q⟩
  tups := fun b xs q => by rw [upd_ne (ne_of_none q hn)]; exact q
  frzs := fun b u xs q => by rw [upd_ne (ne_of_none q hn)]; exact q
  tbls := fun b ps q => ⟨#[], by rw [upd_ne (ne_of_none q hn), q]; simp⟩
theorem Un.write (mu : Mut (H x)) (he : e = x ∨ H e = some (.own x)) (k : ∀ b u, b ≠ e → h.get? b = some u → h'.get? b = some u) (heo : ∃ u, h'.get? e = some u) : Un fs ex H (upd H x o) h h' := by
  have hx : ∀ b, H b = none → b ≠ x := fun b n z => by subst z; rw [n] at mu; exact mu
  have hb : ∀ b, H b = none → b ≠ e := fun b n z => by
    subst z
    rcases he with r | r
    · exact hx b n r
    · rw [n] at r; cases r
  have hm : ∀ b u, H b = some u → ¬ Mut (some u) → b ≠ x := fun b u q nm z => by subst z; rw [q] at mu; exact nm mu
  refine ⟨fun b u q n _ _ => k b u (hb b n) q, fun b u q n _ _ => ⟨u.slots, k b u (hb b n) q⟩, fun b u q n _ => by rw [upd_ne (hx b n)]; exact n, fun b u q _ => ?_,
    fun b xs q => by rw [upd_ne (hm b _ q fun z => z)]; exact q, fun b u xs q => by rw [upd_ne (hm b _ q fun z => z)]; exact q, fun b ps q => ⟨#[], by rw [upd_ne (hm b _ q fun z => z), q]; simp⟩⟩
  by_cases hbe : b = e
  · subst hbe; exact heo
  · exact ⟨u, k b u hbe q⟩
theorem Un.mono (u : Un fs ex H H1 h h1) (hs : ∀ b ∈ fs, b ∈ fs') (hx : ∀ b ∈ ex, b ∈ ex') : Un fs' ex' H H1 h h1 :=
  ⟨fun b ob q n hb he => u.keep b ob q n (fun z => hb (hs b z)) fun z => he (hx b z), fun _ _ q n _ he => u.any q n fun z => he (hx _ z), fun b ob q n he => u.free b ob q n fun z => he (hx b z), fun b ob q he => u.there b ob q fun z => he (hx b z), u.tups, u.frzs, u.tbls⟩
end


def trk (h : Heap) (H : Hp) : List Addr := (List.range h.objs.size).filter fun a => (H a).isSome
def hidT (h : Heap) (H : Hp) : Heap := PySem.W.hideAll h (trk h H)
theorem hidT_size (h : Heap) (H : Hp) : (hidT h H).objs.size = h.objs.size := PySem.W.hideAll_size _ _
theorem hidT_get {h : Heap} {H : Hp} {b : Addr} {o : Obj} (e : h.get? b = some o) (n : H b = none) : (hidT h H).get? b = some o :=
  PySem.W.hideAll_get _ e fun hm => by
    have q : (H b).isSome = true := (List.mem_filter.mp hm).2
    rw [n] at q; simp at q
theorem of_hidT {h : Heap} {H : Hp} {b : Addr} {o : Obj} (e : (hidT h H).get? b = some o) : h.get? b = some o ∧ H b = none := by
  have e' : h.get? b = some o := PySem.W.of_hideAll (trk h H) e
  refine ⟨e', ?_⟩
  cases q : H b with
  | none => rfl
  | some x =>
    have hm : b ∈ trk h H := List.mem_filter.mpr ⟨List.mem_range.mpr (Heap.lt_size e'), by simp [q]⟩
    have z : (hidT h H).get? b = none := PySem.W.hideAll_none (trk h H) hm
    rw [z] at e; cases e


def allNews (g h : Heap) (L : Addr) : List (Addr × Obj) := (List.range h.objs.size).filterMap fun a => if a = L ∨ (g.get? a).isSome = true then none else (h.get? a).map fun o => (a, o)
def rest (g h : Heap) (L d : Addr) : List (Addr × Obj) := (allNews g h L).filter fun p => decide (p.1 ≠ d)
end L2

namespace L2
open PySem PySem.Spec PyProof.Rows


structure Mod (K : PySem.W.Frag) (mg : Str → Option Value) (base : Heap) : Prop where
  kin : K.In base
  glob : base.Ns mainGlobals mg
  blt : ∃ mb, base.Ns builtinsNs mb ∧ ∀ x : Str, x ≠ "__name__" → mb x = bootBuiltins x
  nolimit : base.NoLimit


structure Cx where
  prog : Program
  w : World
  K : PySem.W.Frag
  mg : Str → Option Value
  base : Heap
  A : Around
  N : List Str
  s₀ : Shared
  H₀ : Hp
  env : Env
  outer : List Env
  stack : List Env
  ex : List Addr
  fn : Str → Bool
  calm : Bool
  pn : List (Addr × Obj)
  xe : Value → Shared → Prop

def frs (l : List Env) : List Addr := l.filterMap (·.frame)
abbrev Cx.fs (X : Cx) : List Addr := frs X.outer

def Vis (sc : Scope) (x : Str) : Prop := sc.names.lookup x = some .local ∨ sc.names.lookup x = some .cell ∨ sc.names.lookup x = some .free
def Loc (sc : Scope) (x : Str) : Prop := sc.names.lookup x = some .local ∨ sc.names.lookup x = some .cell
def Look (env : Env) (h : Heap) (m : Str → Option Value) (x : Str) (u : Value) : Prop :=
  (env.kindOf x = some .local ∧ m x = some u) ∨ ((env.kindOf x = some .cell ∨ env.kindOf x = some .free) ∧ ∃ c, env.cells.lookup x = some c ∧ h.IsCell c (some u))

structure Cx.Ok (X : Cx) : Prop where
  mod : Mod X.K X.mg X.base
  kind : X.env.scope.kind = .function
  glob : X.env.globals = mainGlobals
  blt : X.env.builtins = builtinsNs
  above : X.s₀.heap.objs.size ≤ X.env.locals
  inj : ∀ x y c, X.env.cells.lookup x = some c → X.env.cells.lookup y = some c → x = y
  has : ∀ x, (X.env.kindOf x = some .cell ∨ X.env.kindOf x = some .free) → ∃ c, X.env.cells.lookup x = some c
  cab : ∀ x c, X.fn x = true → X.env.cells.lookup x = some c → X.s₀.heap.objs.size ≤ c
  hd : X.calm = true → X.A.handled = none
  frames : X.A.frames = some X.stack
  stk : X.stack = X.outer ∨ (X.stack = X.env :: X.outer ∧ X.env.frame = some X.env.locals)
  exf : ∀ b ∈ X.ex, b ≠ X.env.locals ∧ ∀ x c, X.env.cells.lookup x = some c → c ≠ b
  bs : ∀ b o, X.base.get? b = some o → X.s₀.heap.get? b = some o ∧ X.H₀ b = none
  bsz : X.base.objs.size ≤ X.s₀.heap.objs.size
  noex : ∀ b o, X.base.get? b = some o → b ∉ X.ex
  exfs : ∀ b ∈ X.ex, b ∉ X.fs
  funs : X.s₀.heap.FunFrames X.base X.outer
  frf : ∀ b ∈ X.fs, X.H₀ b = none

structure Inv (X : Cx) (pins : List (Addr × Obj)) (σ : List (Option V)) (H : Hp) (s : Shared) : Prop where
  ok : X.Ok
  os : s.os = X.s₀.os
  bare : AllBare s.gens
  base : Un X.fs X.ex X.H₀ H X.s₀.heap s.heap
  loc : ∃ m, s.heap.Ns X.env.locals m ∧ ∀ (i : Nat) (x : Str) (v : V), X.N[i]? = some x → σ[i]? = some (some v) → Vis X.env.scope x → ∃ u, RelV v u ∧ Look X.env s.heap m x u
  cell : ∀ x c, X.env.cells.lookup x = some c → ∃ v, s.heap.IsCell c v
  free : H X.env.locals = none
  freeC : ∀ x c, X.env.cells.lookup x = some c → H c = none
  pin : ∀ p ∈ X.pn ++ pins, s.heap.get? p.1 = some p.2 ∧ H p.1 = none ∧ p.1 ≠ X.env.locals ∧ p.1 ∉ X.fs ∧ ∀ v, p.2.data ≠ .cell v
  hok : HOk X.prog X.w H s.heap
  len : σ.length = X.N.length

section
variable {X : Cx} {pins : List (Addr × Obj)} {σ : List (Option V)} {H H' : Hp} {s : Shared} {h' : Heap}

theorem Cx.Ok.nofr (ok : X.Ok) {b : Addr} {o : Obj} (e : X.base.get? b = some o) : b ∉ X.fs := fun hb => by
  have := (ok.funs.mem hb).1
  rw [e] at this; cases this
theorem Inv.bs (I : Inv X pins σ H s) : ∀ b o, X.base.get? b = some o → s.heap.get? b = some o ∧ H b = none := fun b o e =>
  ⟨I.base.keep b o (I.ok.bs b o e).1 (I.ok.bs b o e).2 (I.ok.nofr e) (I.ok.noex b o e), I.base.free b o (I.ok.bs b o e).1 (I.ok.bs b o e).2 (I.ok.noex b o e)⟩
theorem Inv.bk (I : Inv X pins σ H s) : ∀ b o, X.base.get? b = some o → s.heap.get? b = some o := fun b o e => (I.bs b o e).1
theorem Inv.mod (I : Inv X pins σ H s) : Mod X.K X.mg X.base := I.ok.mod
theorem Inv.kIn (I : Inv X pins σ H s) : X.K.In s.heap := I.ok.mod.kin.keeps I.bk
theorem Inv.nolimit (I : Inv X pins σ H s) : s.heap.NoLimit := I.ok.mod.nolimit.keeps I.bk

theorem Inv.fr (I : Inv X pins σ H s) : ∃ m, Fr X.base X.env.locals s.heap m :=
  let ⟨m, hn, _⟩ := I.loc
  ⟨m, hn, I.bk, Nat.le_trans I.ok.bsz I.ok.above⟩
theorem Inv.lt (I : Inv X pins σ H s) : X.env.locals < s.heap.objs.size := let ⟨_, hn, _⟩ := I.loc; hn.lt
theorem Inv.sz (I : Inv X pins σ H s) : X.s₀.heap.objs.size ≤ s.heap.objs.size := Nat.le_trans I.ok.above (Nat.le_of_lt I.lt)
theorem Inv.nofs (I : Inv X pins σ H s) {a : Addr} (h : s.heap.objs.size ≤ a) : a ∉ X.fs := fun hb => by
  obtain ⟨_, o, ho, _⟩ := I.ok.funs.mem hb
  exact absurd (Nat.lt_of_lt_of_le (Heap.lt_size ho) (Nat.le_trans I.sz h)) (Nat.lt_irrefl _)
theorem Inv.cne (I : Inv X pins σ H s) : ∀ x c, X.env.cells.lookup x = some c → c ≠ X.env.locals := fun x c e z => by
  obtain ⟨v, o, ho, hd⟩ := I.cell x c e
  obtain ⟨m, ⟨o', es, ep, ho', hd', _⟩, _⟩ := I.loc
  rw [z, ho'] at ho; cases ho; rw [hd'] at hd; cases hd
theorem Inv.funs (I : Inv X pins σ H s) : s.heap.FunFrames X.base X.outer := by
  have all : ∀ (l : List Env), (∀ b ∈ frs l, b ∈ X.fs) → X.s₀.heap.FunFrames X.base l → s.heap.FunFrames X.base l := by
    intro l
    induction l with
    | nil => intro _ _; trivial
    | cons env r ih =>
      intro hs hl
      obtain ⟨hk, ⟨L, o, hf, hn, ho, hd⟩, hr⟩ := hl
      have hL : L ∈ X.fs := hs L (by unfold frs; rw [List.filterMap_cons, hf]; exact List.mem_cons_self)
      obtain ⟨sl, e⟩ := I.base.slot L o ho (I.ok.frf L hL) hL fun z => I.ok.exfs L z hL
      exact ⟨hk, ⟨L, _, hf, hn, e, hd⟩, ih (fun b hb => hs b (by unfold frs; rw [List.filterMap_cons, hf]; exact List.mem_cons_of_mem _ hb)) hr⟩
  exact all X.outer (fun _ hb => hb) I.ok.funs


theorem Inv.stack (I : Inv X pins σ H s) : s.heap.FunFrames X.base X.stack := by
  rcases I.ok.stk with e | ⟨e, hf⟩
  · rw [e]; exact I.funs
  · rw [e]
    obtain ⟨m, hn, _⟩ := I.loc
    refine .cons (by rw [I.ok.kind]; decide) hf hn ?_ I.funs
    exact Heap.get?_none_of_le (Nat.le_trans I.ok.bsz I.ok.above)
theorem Inv.stkSub (I : Inv X pins σ H s) : ∀ b ∈ frs X.stack, b ∈ X.env.locals :: X.fs := fun b hb => by
  rcases I.ok.stk with e | ⟨e, hf⟩
  · rw [e] at hb; exact List.mem_cons_of_mem _ hb
  · rw [e] at hb
    unfold frs at hb
    rw [List.filterMap_cons, hf] at hb
    exact hb
theorem Inv.stkFree (I : Inv X pins σ H s) : ∀ b ∈ frs X.stack, H b = none := fun b hb => by
  rcases List.mem_cons.mp (I.stkSub b hb) with e | hb
  · rw [e]; exact I.free
  · obtain ⟨_, o, ho, _⟩ := I.ok.funs.mem hb
    exact I.base.free b o ho (I.ok.frf b hb) fun z => I.ok.exfs b z hb


theorem Inv.step {g' : Array GenState} {t' : Nat} {d' : Drawn} {ch : List Addr} (I : Inv X pins σ H s)
    (hch : ∀ b ∈ ch, (b ∈ X.ex ∨ X.s₀.heap.objs.size ≤ b) ∧ b ≠ X.env.locals ∧ (∀ x c, X.env.cells.lookup x = some c → c ≠ b) ∧ ∀ p ∈ X.pn ++ pins, p.1 ≠ b)
    (keep : ∀ b o, b ≠ X.env.locals → b ∉ X.fs → b ∉ ch → s.heap.get? b = some o → H b = none → h'.get? b = some o)
    (slot : ∀ b o, b ≠ X.env.locals → b ∈ X.fs → b ∉ ch → s.heap.get? b = some o → H b = none → ∃ sl, h'.get? b = some { o with slots := sl }) (free : ∀ b o, b ∉ ch → s.heap.get? b = some o → H b = none → H' b = none)
    (there : ∀ b o, b ∉ ch → s.heap.get? b = some o → ∃ o', h'.get? b = some o')
    (tups : ∀ b xs, H b = some (.tup xs) → H' b = some (.tup xs)) (frzs : ∀ b o u, H b = some (.frz o u) → H' b = some (.frz o u)) (tbls : ∀ b ps, H b = some (.tbl ps) → ∃ more, H' b = some (.tbl (ps ++ more)))
    (ns : ∀ m, s.heap.Ns X.env.locals m → h'.Ns X.env.locals m) (hok : HOk X.prog X.w H' h') (hg : AllBare g') :
    Inv X pins σ H' { s with heap := h', gens := g', drawn := d', toks := t' } := by
  have neL : ∀ b o, X.s₀.heap.get? b = some o → b ≠ X.env.locals := fun b o e => Nat.ne_of_lt (Nat.lt_of_lt_of_le (Heap.lt_size e) I.ok.above)
  have neC : ∀ b o, X.s₀.heap.get? b = some o → b ∉ X.ex → b ∉ ch := fun b o e hx hb => by
    rcases (hch b hb).1 with z | z
    · exact hx z
    · exact absurd (Nat.lt_of_lt_of_le (Heap.lt_size e) z) (Nat.lt_irrefl _)
  have cellK : ∀ x c, X.env.cells.lookup x = some c → ∀ v, s.heap.IsCell c v → h'.IsCell c v := fun x c e v ⟨o, ho, hd⟩ => by
    have nch : c ∉ ch := fun z => (hch c z).2.2.1 x c e rfl
    by_cases hc : c ∈ X.fs
    · obtain ⟨sl, q⟩ := slot c o (I.cne x c e) hc nch ho (I.freeC x c e)
      exact ⟨_, q, hd⟩
    · exact ⟨o, keep c o (I.cne x c e) hc nch ho (I.freeC x c e), hd⟩
  refine ⟨I.ok, I.os, hg, ⟨fun b o e n hb hx => ?_, fun b o e n hb hx => ?_, fun b o e n hx => ?_, fun b o e hx => ?_, fun b xs e => tups b xs (I.base.tups b xs e), fun b o xs e => frzs b o xs (I.base.frzs b o xs e), fun b ps e => ?_⟩, ?_, fun x c e => ?_, ?_, fun x c e => ?_, fun p hp => ?_, hok, I.len⟩
  · exact keep b o (neL b o e) hb (neC b o e hx) (I.base.keep b o e n hb hx) (I.base.free b o e n hx)
  · obtain ⟨sl, e1⟩ := I.base.slot b o e n hb hx
    obtain ⟨sl', e2⟩ := slot b _ (neL b o e) hb (neC b o e hx) e1 (I.base.free b o e n hx)
    exact ⟨sl', e2⟩
  · obtain ⟨o', e1⟩ := I.base.there b o e hx
    exact free b o' (neC b o e hx) e1 (I.base.free b o e n hx)
  · obtain ⟨o', e1⟩ := I.base.there b o e hx
    exact there b o' (neC b o e hx) e1
  · obtain ⟨m1, e1⟩ := I.base.tbls b ps e
    obtain ⟨m2, e2⟩ := tbls b _ e1
    exact ⟨m1 ++ m2, by rw [e2, Array.append_assoc]⟩
  · obtain ⟨m, hn, hl⟩ := I.loc
    refine ⟨m, ns m hn, fun i x v e1 e2 e3 => ?_⟩
    obtain ⟨u, r, l⟩ := hl i x v e1 e2 e3
    refine ⟨u, r, ?_⟩
    rcases l with l | ⟨k, c, e, z⟩
    · exact .inl l
    · exact .inr ⟨k, c, e, cellK x c e _ z⟩
  · obtain ⟨v, z⟩ := I.cell x c e
    exact ⟨v, cellK x c e v z⟩
  · obtain ⟨m, ⟨o, _, _, ho, _⟩, _⟩ := I.loc
    exact free _ o (fun z => (hch _ z).2.1 rfl) ho I.free
  · obtain ⟨v, o, ho, hd⟩ := I.cell x c e
    exact free c o (fun z => (hch c z).2.2.1 x c e rfl) ho (I.freeC x c e)
  · obtain ⟨e, n, ne, nf, d⟩ := I.pin p hp
    have nch : p.1 ∉ ch := fun z => (hch p.1 z).2.2.2 p hp rfl
    exact ⟨keep p.1 p.2 ne nf nch e n, free p.1 p.2 nch e n, ne, nf, d⟩

theorem Inv.un {t' : Nat} (I : Inv X pins σ H s) (u : Un X.fs [] H H' s.heap h') (hok : HOk X.prog X.w H' h') : Inv X pins σ H' { s with heap := h', toks := t' } := by
  obtain ⟨m, ⟨o, es, ep, ho, r⟩, _⟩ := id I.loc
  obtain ⟨sl, hL⟩ := u.any ho I.free (by simp)
  exact I.step (g' := s.gens) (d' := s.drawn) (ch := []) (fun _ z => nomatch z) (fun b o _ hb _ e n => u.keep b o e n hb (by simp)) (fun b o _ hb _ e n => u.slot b o e n hb (by simp)) (fun b o _ e n => u.free b o e n (by simp)) (fun b o _ e => u.there b o e (by simp)) u.tups u.frzs u.tbls (fun m' hm => by
    obtain ⟨o', es', ep', ho', r'⟩ := hm
    rw [ho] at ho'; cases ho'
    exact ⟨_, es', ep', hL, r'⟩) hok I.bare

theorem Inv.call {g' : Array GenState} {t' : Nat} {d' : Drawn} {ch : List Addr} (I : Inv X pins σ H s) (u : Un (frs X.stack) ch H H' s.heap h') (hok : HOk X.prog X.w H' h') (hg : AllBare g')
    (hch : ∀ b ∈ ch, (b ∈ X.ex ∨ X.s₀.heap.objs.size ≤ b) ∧ b ≠ X.env.locals ∧ (∀ x c, X.env.cells.lookup x = some c → c ≠ b) ∧ ∀ p ∈ X.pn ++ pins, p.1 ≠ b) :
    Inv X pins σ H' { s with heap := h', gens := g', drawn := d', toks := t' } := by
  obtain ⟨m, ⟨o, es, ep, ho, r⟩, _⟩ := id I.loc
  obtain ⟨sl, hL⟩ := u.any ho I.free fun z => (hch _ z).2.1 rfl
  exact I.step (ch := ch) hch (fun b o hL hb hc e n => u.keep b o e n (fun z => (List.mem_cons.mp (I.stkSub b z)).elim hL hb) hc) (fun b o _ _ hc e n => u.any e n hc) (fun b o hc e n => u.free b o e n hc) (fun b o hc e => u.there b o e hc) u.tups u.frzs u.tbls (fun m' hm => by
    obtain ⟨o', es', ep', ho', r'⟩ := hm
    rw [ho] at ho'; cases ho'
    exact ⟨_, es', ep', hL, r'⟩) hok hg

theorem Inv.turned {t' : Nat} {it : Addr} (I : Inv X pins σ H s) (k : ∀ b o, b ≠ it → s.heap.get? b = some o → h'.get? b = some o) (hn : H it = none) (hL : it ≠ X.env.locals)
    (h1 : it ∈ X.ex ∨ X.s₀.heap.objs.size ≤ it) (h2 : ∀ x c, X.env.cells.lookup x = some c → c ≠ it) (h3 : ∀ p ∈ X.pn ++ pins, p.1 ≠ it) : Inv X pins σ H { s with heap := h', toks := t' } := by
  have nit : ∀ b u, H b = some u → b ≠ it := fun b u e z => by rw [z, hn] at e; cases e
  refine I.step (g' := s.gens) (d' := s.drawn) (ch := [it]) (fun b hb => ?_) (fun b o _ _ hc e _ => k b o (fun z => hc (by simp [z])) e) (fun b o _ _ hc e _ => ⟨o.slots, k b o (fun z => hc (by simp [z])) e⟩) (fun _ _ _ _ n => n)
    (fun b o hc e => ⟨o, k b o (fun z => hc (by simp [z])) e⟩) (fun _ _ e => e) (fun _ _ _ e => e) (fun b ps e => ⟨#[], by rw [e]; simp⟩) (fun m hm => ?_) (fun b u e => ?_) I.bare
  · have e : b = it := by simpa using hb
    subst e
    exact ⟨h1, hL, h2, h3⟩
  · obtain ⟨o, es, ep, ho, r⟩ := hm
    exact ⟨o, es, ep, k _ o (Ne.symm hL) ho, r⟩
  · refine (I.hok b u e).stay (fun c v hc q => k c v ?_ q) (fun _ q => q) fun _ _ q => q
    rcases hc with z | z
    · rw [z]; exact nit b u e
    · exact nit c _ z
theorem Inv.tok (I : Inv X pins σ H s) (t : Nat) : Inv X pins σ H { s with toks := t } := I.un (h' := s.heap) (t' := t) Un.refl I.hok

theorem Inv.kept {t' : Nat} (I : Inv X pins σ H s) (k : ∀ b u, s.heap.get? b = some u → h'.get? b = some u) : Inv X pins σ H { s with heap := h', toks := t' } := I.un (Un.kept k) (I.hok.kept k)

theorem Inv.laid {a : Addr} {o : HO} {t' : Nat} (I : Inv X pins σ H s) (k : ∀ b u, s.heap.get? b = some u → h'.get? b = some u) (hp : s.heap.objs.size ≤ a) (new : ObjOk X.prog X.w (upd H a o) h' a o) :
    Inv X pins σ (upd H a o) { s with heap := h', toks := t' } := I.un (Un.laid k hp (I.hok.fresh hp)) (I.hok.laid k hp new)

theorem Inv.write {x e : Addr} {o : HO} {t' : Nat} (I : Inv X pins σ H s) (mu : Mut (H x)) (he : e = x ∨ H e = some (.own x)) (k : ∀ b u, b ≠ e → s.heap.get? b = some u → h'.get? b = some u) (heo : ∃ u, h'.get? e = some u)
    (new : ObjOk X.prog X.w (upd H x o) h' x o) : Inv X pins σ (upd H x o) { s with heap := h', toks := t' } := I.un (Un.write mu he k heo) (I.hok.write mu he k heo new)

theorem Inv.pins_of {pins' : List (Addr × Obj)} (I : Inv X pins σ H s) (h : ∀ p ∈ pins', s.heap.get? p.1 = some p.2 ∧ H p.1 = none ∧ p.1 ≠ X.env.locals ∧ p.1 ∉ X.fs ∧ ∀ v, p.2.data ≠ .cell v) : Inv X pins' σ H s :=
  ⟨I.ok, I.os, I.bare, I.base, I.loc, I.cell, I.free, I.freeC, fun p hp => (List.mem_append.mp hp).elim (fun z => I.pin p (List.mem_append_left _ z)) (h p), I.hok, I.len⟩

theorem nodup_ix {N : List Str} (hN : N.Nodup) {i j : Nat} {x : Str} (a : N[i]? = some x) (b : N[j]? = some x) : i = j := by
  obtain ⟨h1, e1⟩ := List.getElem?_eq_some_iff.mp a
  obtain ⟨h2, e2⟩ := List.getElem?_eq_some_iff.mp b
  exact (List.getElem_inj hN).mp (e1.trans e2.symm)


theorem store_ok2 {M : Model} {A : Around} {E : Value → Shared → Prop} {i : Nat} {x : Str} {v : V} {u : Value} {Q : Unit → Shared → Prop} (I : Inv X pins σ H s) (hN : X.N.Nodup) (hi : X.N[i]? = some x) (hx : Loc X.env.scope x) (r : RelV v u)
    (h : ∀ s', Inv X pins (σ.set i (some v)) H s' → (∃ a, Heap.SameBut a s.heap s'.heap ∧ (a = X.env.locals ∨ X.env.cells.lookup x = some a)) → Q () s') (hf : X.fn x = true ∨ X.env.scope.names.lookup x = some .local := by first | exact .inl rfl | exact .inr rfl | assumption) : wpAny M A (storeName X.env x u) Q E s := by
  obtain ⟨m, hn, hl⟩ := id I.loc
  have hcls : (X.env.scope.kind == .class || (X.env.scope.kind == .module && X.env.locals != X.env.globals)) = false := by rw [I.ok.kind]; rfl
  have hiσ : i < σ.length := by rw [I.len]; exact (List.getElem?_eq_some_iff.mp hi).1
  have cne := I.cne
  have tracked : ∀ {a : Addr} {h' : Heap}, (∃ o, s.heap.get? a = some o ∧ H a = none) → Heap.SameBut a s.heap h' → HOk X.prog X.w H h' := fun {a h'} ha hs b ob e => by
    obtain ⟨_, _, hfree⟩ := ha
    refine (I.hok b ob e).stay (fun c w' hc q => (hs.2 c ?_).trans q) (fun _ q => q) fun _ _ q => q
    rintro rfl
    rcases hc with rfl | hc
    · rw [hfree] at e; cases e
    · rw [hfree] at hc; cases hc
  rcases hx with hk | hk
  · refine wpAny_storeName_local hk hn (fun h' hn' hs => ?_) hcls
    obtain ⟨oL, _, _, hoL, _⟩ := id hn
    refine h _ ⟨I.ok, I.os, I.bare, ⟨fun b o e n hb hx => ?_, fun b o e n hb hx => ?_, I.base.free, fun b o e hx => ?_, I.base.tups, I.base.frzs, I.base.tbls⟩, ⟨_, hn', fun j y v' e1 e2 e3 => ?_⟩, fun y c e => ?_, I.free, I.freeC, fun p hp => ?_, tracked ⟨oL, hoL, I.free⟩ hs, by simpa using I.len⟩ ⟨_, hs, .inl rfl⟩
    · exact (hs.2 b (Nat.ne_of_lt (Nat.lt_of_lt_of_le (Heap.lt_size e) I.ok.above))).trans (I.base.keep b o e n hb hx)
    · obtain ⟨sl, e1⟩ := I.base.slot b o e n hb hx
      exact ⟨sl, (hs.2 b (Nat.ne_of_lt (Nat.lt_of_lt_of_le (Heap.lt_size e) I.ok.above))).trans e1⟩
    · obtain ⟨o', e1⟩ := I.base.there b o e hx
      exact ⟨o', (hs.2 b (Nat.ne_of_lt (Nat.lt_of_lt_of_le (Heap.lt_size e) I.ok.above))).trans e1⟩
    · by_cases hj : j = i
      · subst hj
        rw [hi] at e1; cases e1
        rw [List.getElem?_set_self hiσ] at e2
        cases e2
        exact ⟨u, r, .inl ⟨hk, by simp⟩⟩
      · rw [List.getElem?_set_ne (Ne.symm hj)] at e2
        obtain ⟨u', r', q⟩ := hl j y v' e1 e2 e3
        refine ⟨u', r', ?_⟩
        rcases q with ⟨k, e⟩ | ⟨k, c, e, z⟩
        · refine .inl ⟨k, ?_⟩
          have : y ≠ x := fun e => hj (nodup_ix hN e1 (e ▸ hi))
          simp [this, e]
        · exact .inr ⟨k, c, e, z.sameBut hs (cne y c e)⟩
    · obtain ⟨w', z⟩ := I.cell y c e
      exact ⟨w', z.sameBut hs (cne y c e)⟩
    · obtain ⟨e, n, ne, nf, d⟩ := I.pin p hp
      exact ⟨(hs.2 p.1 ne).trans e, n, ne, nf, d⟩
  · have hfn : X.fn x = true := by
      rcases hf with z | z
      · exact z
      · rw [z] at hk; cases hk
    obtain ⟨c, hc⟩ := I.ok.has x (.inl hk)
    obtain ⟨w', z⟩ := I.cell x c hc
    refine wpAny_storeName_cell I.ok.kind hk hc z (fun h' hc' hs => ?_)
    obtain ⟨oc, hoc, hocd⟩ := id z
    refine h { s with heap := h' } ⟨I.ok, I.os, I.bare, ⟨fun b o e n hb hx => ?_, fun b o e n hb hx => ?_, I.base.free, fun b o e hx => ?_, I.base.tups, I.base.frzs, I.base.tbls⟩, ⟨m, hn.sameBut hs (Ne.symm (cne x c hc)), fun j y v' e1 e2 e3 => ?_⟩, fun y c' e => ?_, I.free, I.freeC, fun p hp => ?_, tracked ⟨oc, hoc, I.freeC x c hc⟩ hs, by simpa using I.len⟩ ⟨c, hs, .inr hc⟩
    · exact (hs.2 b (Nat.ne_of_lt (Nat.lt_of_lt_of_le (Heap.lt_size e) (I.ok.cab x c hfn hc)))).trans (I.base.keep b o e n hb hx)
    · obtain ⟨sl, e1⟩ := I.base.slot b o e n hb hx
      exact ⟨sl, (hs.2 b (Nat.ne_of_lt (Nat.lt_of_lt_of_le (Heap.lt_size e) (I.ok.cab x c hfn hc)))).trans e1⟩
    · obtain ⟨o', e1⟩ := I.base.there b o e hx
      exact ⟨o', (hs.2 b (Nat.ne_of_lt (Nat.lt_of_lt_of_le (Heap.lt_size e) (I.ok.cab x c hfn hc)))).trans e1⟩
    · by_cases hj : j = i
      · subst hj
        rw [hi] at e1; cases e1
        rw [List.getElem?_set_self hiσ] at e2
        cases e2
        exact ⟨u, r, .inr ⟨.inl hk, c, hc, hc'⟩⟩
      · rw [List.getElem?_set_ne (Ne.symm hj)] at e2
        obtain ⟨u', r', q⟩ := hl j y v' e1 e2 e3
        refine ⟨u', r', ?_⟩
        rcases q with q | ⟨k, c', e, z'⟩
        · exact .inl q
        · refine .inr ⟨k, c', e, z'.sameBut hs ?_⟩
          rintro rfl
          exact hj (nodup_ix hN e1 (I.ok.inj _ _ _ e hc ▸ hi))
    · by_cases hcc : c' = c
      · subst hcc; exact ⟨_, hc'⟩
      · obtain ⟨w2, z2⟩ := I.cell y c' e
        exact ⟨w2, z2.sameBut hs hcc⟩
    · obtain ⟨e, n, ne, nf, d⟩ := I.pin p hp
      refine ⟨(hs.2 p.1 ?_).trans e, n, ne, nf, d⟩
      intro q
      rw [q, hoc] at e
      have q' : oc = p.2 := Option.some.inj e
      exact d w' (by rw [← q']; exact hocd)
theorem store_ok {M : Model} {A : Around} {E : Value → Shared → Prop} {i : Nat} {x : Str} {v : V} {u : Value} {Q : Unit → Shared → Prop} (I : Inv X pins σ H s) (hN : X.N.Nodup) (hi : X.N[i]? = some x) (hx : Loc X.env.scope x) (r : RelV v u)
    (h : ∀ s', Inv X pins (σ.set i (some v)) H s' → Q () s') (hf : X.fn x = true ∨ X.env.scope.names.lookup x = some .local := by first | exact .inl rfl | exact .inr rfl | assumption) : wpAny M A (storeName X.env x u) Q E s :=
  store_ok2 I hN hi hx r (fun s' I' _ => h s' I') hf

theorem Inv.call' {s' : Shared} {ch : List Addr} (I : Inv X pins σ H s) (ho : s'.os = s.os) (u : Un (frs X.stack) ch H H' s.heap s'.heap) (hok : HOk X.prog X.w H' s'.heap) (hg : AllBare s'.gens)
    (hch : ∀ b ∈ ch, (b ∈ X.ex ∨ X.s₀.heap.objs.size ≤ b) ∧ b ≠ X.env.locals ∧ (∀ x c, X.env.cells.lookup x = some c → c ≠ b) ∧ ∀ p ∈ X.pn ++ pins, p.1 ≠ b) : Inv X pins σ H' s' := by
  obtain ⟨h', g', d', t', o'⟩ := s'
  have e : o' = s.os := ho
  subst e
  exact I.call (g' := g') (t' := t') (d' := d') u hok hg hch
end



abbrev XK := Value → Option Addr → Hp → Prop
abbrev St := List (Option V)
abbrev VK := V → Hp → Prop

abbrev TE := St → Hp → VK → Prop
abbrev TT := St → Hp → (Bool → Hp → Prop) → Prop
abbrev TA := St → Hp → (List V → Hp → Prop) → Prop

structure Ends where
  nx : St → Hp → Prop
  rt : VK
  bk : St → Hp → Prop := fun _ _ => False
  ct : St → Hp → Prop := fun _ _ => False
abbrev TS := Ends → St → Hp → Prop

def EP (X : Cx) (pins : List (Addr × Obj)) (σ : St) (Q : VK) (u : Value) (s' : Shared) : Prop := ∃ v H', Inv X pins σ H' s' ∧ RelV v u ∧ Q v H'
def TP (X : Cx) (pins : List (Addr × Obj)) (σ : St) (Q : Bool → Hp → Prop) (b : Bool) (s' : Shared) : Prop := ∃ H', Inv X pins σ H' s' ∧ Q b H'
def AP (X : Cx) (pins : List (Addr × Obj)) (σ : St) (Q : List V → Hp → Prop) (us : List Value) (s' : Shared) : Prop := ∃ vs H', Inv X pins σ H' s' ∧ Vals vs us ∧ Q vs H'
def SP (X : Cx) (pins : List (Addr × Obj)) (D : Ends) (f : Flow) (s' : Shared) : Prop :=
  match f with
  | .next => ∃ σ' H', Inv X pins σ' H' s' ∧ D.nx σ' H'
  | .brk => ∃ σ' H', Inv X pins σ' H' s' ∧ D.bk σ' H'
  | .cont => ∃ σ' H', Inv X pins σ' H' s' ∧ D.ct σ' H'
  | .ret u => ∃ v σ' H', Inv X pins σ' H' s' ∧ RelV v u ∧ D.rt v H'

def PE (X : Cx) (e : Expr) (t : TE) : Prop :=
  ∀ (pins : List (Addr × Obj)) (s : Shared) (σ : St) (H : Hp) (Q : VK), Inv X pins σ H s → t σ H Q → wpAny (model X.prog X.w) X.A (eval e X.env) (EP X pins σ Q) X.xe s
def PT (X : Cx) (e : Expr) (t : TT) : Prop :=
  ∀ (pins : List (Addr × Obj)) (s : Shared) (σ : St) (H : Hp) (Q : Bool → Hp → Prop), Inv X pins σ H s → t σ H Q → wpAny (model X.prog X.w) X.A (isTrue e X.env (eval e X.env)) (TP X pins σ Q) X.xe s

def PW (X : Cx) (e : Expr) (t : TT) : Prop :=
  ∀ (whole : Sem Value) (pins : List (Addr × Obj)) (s : Shared) (σ : St) (H : Hp) (Q : Bool → Hp → Prop), Inv X pins σ H s → t σ H Q → wpAny (model X.prog X.w) X.A (isTrue e X.env whole) (TP X pins σ Q) X.xe s
theorem PW.pt {X : Cx} {e : Expr} {t : TT} (h : PW X e t) : PT X e t := h _

def PA (X : Cx) (es : List Expr) (t : TA) : Prop :=
  ∀ (pos : Pos) (pins : List (Addr × Obj)) (s : Shared) (σ : St) (H : Hp) (Q : List V → Hp → Prop), Inv X pins σ H s → t σ H Q → wpAny (model X.prog X.w) X.A (spliced (backTo pos (starEach es X.env))) (AP X pins σ Q) X.xe s
def PS (X : Cx) (st : Stmt) (t : TS) : Prop :=
  ∀ (pins : List (Addr × Obj)) (s : Shared) (σ : St) (H : Hp) (D : Ends), Inv X pins σ H s → t D σ H → wpAny (model X.prog X.w) X.A (exec st X.env) (SP X pins D) X.xe s
def PSs (X : Cx) (st : List Stmt) (t : TS) : Prop :=
  ∀ (pins : List (Addr × Obj)) (s : Shared) (σ : St) (H : Hp) (D : Ends), Inv X pins σ H s → t D σ H → wpAny (model X.prog X.w) X.A (execs st X.env) (SP X pins D) X.xe s

theorem thn {α : Type} {t : Sem α} {Q Q' : α → Shared → Prop} {M : Model} {A : Around} {E : Value → Shared → Prop} {s : Shared} (h : wpAny M A t Q E s) (hQ : ∀ a s, Q a s → Q' a s) : wpAny M A t Q' E s := wpAny_mono h hQ fun _ _ x => x
end L2

namespace L2
open PySem PySem.Spec PyProof.Rows
section
variable {X : Cx}


def tVar (i : Nat) : TE := fun σ H Q => ∃ v, σ[i]? = some (some v) ∧ Q v H
def tC (v : V) : TE := fun _ H Q => Q v H
theorem pe_var {i : Nat} {x : Str} {pos : Pos} (hN : X.N[i]? = some x) (hv : Vis X.env.scope x) (hd : (x == ("__debug__" : Str)) = false := by decide) (hcd : (x == ("__classdict__" : Str)) = false := by decide) : PE X (.Name x pos) (tVar i) := by
  intro pins s σ H Q I h
  obtain ⟨v, e, h⟩ := h
  obtain ⟨m, hn, hl⟩ := I.loc
  obtain ⟨u, r, l⟩ := hl i x v hN e hv
  have fin : EP X pins σ Q u s := ⟨v, H, I, r, h⟩
  rcases l with ⟨hk, hm⟩ | ⟨hk, c, hc, hcell⟩
  · exact wpAny_Name (wpAny_loadName_local I.ok.kind hk hn hm fin) hd
  · rcases hk with hk | hk
    · exact wpAny_Name (wpAny_loadName_cell I.ok.kind hk hc hcell fin) hd
    · exact wpAny_Name (wpAny_loadName_free I.ok.kind hk hc hcell fin hcd) hd
theorem pe_int {i j pos} : PE X (.Constant (.int i) j pos) (tC (.int i)) := fun _ _ _ H _ I h => wpAny_Constant_int ⟨.int i, H, I.tok _, ⟨_, rfl⟩, h⟩
theorem pe_bl {b j pos} : PE X (.Constant (.bool b) j pos) (tC (.bl b)) := fun _ _ _ H _ I h => Constant_bool ⟨.bl b, H, I, rfl, h⟩
theorem pe_non {j pos} : PE X (.Constant .none j pos) (tC .non) := fun _ _ _ H _ I h => Constant_none ⟨.non, H, I, rfl, h⟩
theorem pe_str {x j pos} : PE X (.Constant (.str x) j pos) (tC (.str x)) := fun _ _ _ H _ I h => Calls.Constant_str ⟨.str x, H, I.tok _, ⟨_, rfl⟩, h⟩


def Gl (X : Cx) (x : Str) : Prop := X.env.kindOf x = some .globalImplicit
theorem ld_glob {E : Value → Shared → Prop} {pins : List (Addr × Obj)} {s : Shared} {σ : St} {H : Hp} {x : Str} {u : Value} {pos : Pos} {Q : Value → Shared → Prop} (I : Inv X pins σ H s) (hg : Gl X x) (hm : X.mg x = some u) (h : Q u s)
    (hd : (x == ("__debug__" : Str)) = false := by decide) : wpAny (model X.prog X.w) X.A (eval (.Name x pos) X.env) Q E s :=
  Calls.Name_function_global I.ok.kind hg (Calls.loadGlobal_global (by rw [I.ok.glob]; exact I.mod.glob.keeps I.bk) hm h) hd
theorem ld_blt {E : Value → Shared → Prop} {pins : List (Addr × Obj)} {s : Shared} {σ : St} {H : Hp} {x : Str} {u : Value} {pos : Pos} {Q : Value → Shared → Prop} (I : Inv X pins σ H s) (hg : Gl X x) (hm : X.mg x = none) (hv : bootBuiltins x = some u) (h : Q u s)
    (hn : x ≠ "__name__" := by decide) (hd : (x == ("__debug__" : Str)) = false := by decide) : wpAny (model X.prog X.w) X.A (eval (.Name x pos) X.env) Q E s := by
  obtain ⟨mb, h1, h2⟩ := I.mod.blt
  exact Calls.Name_function_global I.ok.kind hg (Calls.loadGlobal_builtin (by rw [I.ok.glob]; exact I.mod.glob.keeps I.bk) hm (by rw [I.ok.blt]; exact h1.keeps I.bk) ((h2 x hn).trans hv) h) hd

theorem pe_glob {x : Str} {v : V} {u : Value} {pos : Pos} (hg : Gl X x) (hm : X.mg x = some u) (r : RelV v u) (hd : (x == ("__debug__" : Str)) = false := by decide) : PE X (.Name x pos) (tC v) :=
  fun _ _ _ H _ I h => ld_glob I hg hm ⟨v, H, I, r, h⟩ hd
theorem pe_bltn {x : Str} {v : V} {u : Value} {pos : Pos} (hg : Gl X x) (hm : X.mg x = none) (hv : bootBuiltins x = some u) (r : RelV v u) (hn : x ≠ "__name__" := by decide) (hd : (x == ("__debug__" : Str)) = false := by decide) : PE X (.Name x pos) (tC v) :=
  fun _ _ _ H _ I h => ld_blt I hg hm hv ⟨v, H, I, r, h⟩ hn hd



def t2I (ta tb : TE) (k : Int → Int → Hp → Prop) : St → Hp → Prop := fun σ H => ta σ H fun x H1 => tb σ H1 fun y H2 => ∃ i j, x = .int i ∧ y = .int j ∧ k i j H2
def tAdd (ta tb : TE) : TE := fun σ H Q => t2I ta tb (fun i j H2 => Q (.int (i + j)) H2) σ H
def tSub (ta tb : TE) : TE := fun σ H Q => t2I ta tb (fun i j H2 => Q (.int (i - j)) H2) σ H

def tMul (ta tb : TE) : TE := fun σ H Q => t2I ta tb (fun i j H2 => (-(2 ^ 64) < i ∧ i < 2 ^ 64) ∧ Q (.int (i * j)) H2) σ H
variable {a b : Expr} {ta tb : TE} {pos : Pos}
def PC (X : Cx) (op : CmpOp) (a b : Expr) (t : TE) : Prop :=
  ∀ (pins : List (Addr × Obj)) (s : Shared) (σ : St) (H : Hp) (Q : VK), Inv X pins σ H s → t σ H Q →
    wpAny (model X.prog X.w) X.A (eval a X.env) (fun v s₁ => wpAny (model X.prog X.w) X.A (eval b X.env) (fun u s₂ => wpAny (model X.prog X.w) X.A (compareOp op v u) (EP X pins σ Q) X.xe s₂) X.xe s₁) X.xe s
def tCmp (p : Int → Int → Bool) (ta tb : TE) : TE := fun σ H Q => t2I ta tb (fun i j H2 => Q (.bl (p i j)) H2) σ H
abbrev tLt : TE → TE → TE := tCmp fun i j => decide (i < j)
abbrev tLe : TE → TE → TE := tCmp fun i j => decide (i ≤ j)
abbrev tGt : TE → TE → TE := tCmp fun i j => decide (j < i)
abbrev tGe : TE → TE → TE := tCmp fun i j => decide (j ≤ i)
abbrev tEqI : TE → TE → TE := tCmp fun i j => decide (i = j)
abbrev tNeI : TE → TE → TE := tCmp fun i j => !decide (i = j)

def tIsN (ta : TE) : TE := fun σ H Q => ta σ H fun x H1 => Q (.bl (decide (x = .non))) H1
def tNotN (ta : TE) : TE := fun σ H Q => ta σ H fun x H1 => Q (.bl (!decide (x = .non))) H1
def tB (t : TE) : TT := fun σ H Q => t σ H fun x H1 => ∃ c, x = .bl c ∧ Q c H1
theorem pt_val {e : Expr} {t : TE} (h : PE X e t) (he : ∀ whole, isTrue e X.env whole = (do let v ← whole; standAt e.pos; holding [v] (truthy v)) := by intro _; rfl) : PT X e (tB t) := by
  intro pins s σ H Q I hw
  refine isTrue_plain (thn (h pins s σ H _ I hw) fun v s1 ⟨x, H1, I1, r1, q1⟩ => ?_) (he _)
  obtain ⟨d, rfl, q⟩ := q1
  cases r1
  exact wpAny_truthy_bool ⟨H1, I1, q⟩


variable {tA tB' : TT} {rest : List Expr}
def tAnd (t u : TT) : TT := fun σ H Q => t σ H fun c H1 => if c = true then u σ H1 Q else Q false H1
def tOr (t u : TT) : TT := fun σ H Q => t σ H fun c H1 => if c = true then Q true H1 else u σ H1 Q
def tNot (t : TT) : TT := fun σ H Q => t σ H fun c H1 => Q (!c) H1
theorem pw_and1 (ha : PT X a tA) : PW X (.BoolOp .And [a] pos) tA := by
  intro wh pins s σ H Q I h
  refine isTrue_and (thn (ha pins s σ H Q I h) fun c s1 e => ?_)
  cases c with
  | true => exact isTrue_and_nil e
  | false => exact e
theorem pw_or1 (ha : PT X a tA) : PW X (.BoolOp .Or [a] pos) tA := by
  intro wh pins s σ H Q I h
  refine isTrue_or (thn (ha pins s σ H Q I h) fun c s1 e => ?_)
  cases c with
  | false => exact isTrue_or_nil e
  | true => exact e
theorem pw_and (ha : PT X a tA) (hb : PW X (.BoolOp .And (b :: rest) pos) tB') : PW X (.BoolOp .And (a :: b :: rest) pos) (tAnd tA tB') := by
  intro wh pins s σ H Q I h
  refine isTrue_and (thn (ha pins s σ H _ I h) fun c s1 ⟨H1, I1, q1⟩ => ?_)
  cases c with
  | true => exact hb wh pins s1 σ H1 Q I1 q1
  | false => exact ⟨H1, I1, q1⟩
theorem pw_or (ha : PT X a tA) (hb : PW X (.BoolOp .Or (b :: rest) pos) tB') : PW X (.BoolOp .Or (a :: b :: rest) pos) (tOr tA tB') := by
  intro wh pins s σ H Q I h
  refine isTrue_or (thn (ha pins s σ H _ I h) fun c s1 ⟨H1, I1, q1⟩ => ?_)
  cases c with
  | true => exact ⟨H1, I1, q1⟩
  | false => exact hb wh pins s1 σ H1 Q I1 q1
theorem pt_not (ha : PT X a tA) : PT X (.UnaryOp .Not a pos) (tNot tA) := by
  intro pins s σ H Q I h
  exact isTrue_not (ha pins s σ H (fun c H1 => Q (!c) H1) I h)

def tAndV (ta tb : TE) : TE := fun σ H Q => ta σ H fun x H1 => ∃ c, x = .bl c ∧ if c = true then tb σ H1 Q else Q (.bl false) H1
def tOrV (ta tb : TE) : TE := fun σ H Q => ta σ H fun x H1 => ∃ c, x = .bl c ∧ if c = true then Q (.bl true) H1 else tb σ H1 Q
def tNotV (ta : TE) : TE := fun σ H Q => ta σ H fun x H1 => ∃ c, x = .bl c ∧ Q (.bl (!c)) H1
theorem pe_one {op} {t : TE} (h : PE X a t) : PE X (.BoolOp op [a] pos) t := fun pins s σ H Q I hw => BoolOp_one (h pins s σ H Q I hw)
theorem pe_and (ha : PE X a ta) (hb : PE X (.BoolOp .And (b :: rest) pos) tb) : PE X (.BoolOp .And (a :: b :: rest) pos) (tAndV ta tb) := by
  intro pins s σ H Q I h
  refine BoolOp_and (thn (ha pins s σ H _ I h) fun v s1 ⟨x, H1, I1, r1, q1⟩ => ?_)
  obtain ⟨c, rfl, q1⟩ := q1
  cases r1
  refine wpAny_truthy_bool ?_
  cases c with
  | true => exact hb pins s1 σ H1 Q I1 q1
  | false => exact ⟨.bl false, H1, I1, rfl, q1⟩
theorem pe_or (ha : PE X a ta) (hb : PE X (.BoolOp .Or (b :: rest) pos) tb) : PE X (.BoolOp .Or (a :: b :: rest) pos) (tOrV ta tb) := by
  intro pins s σ H Q I h
  refine BoolOp_or (thn (ha pins s σ H _ I h) fun v s1 ⟨x, H1, I1, r1, q1⟩ => ?_)
  obtain ⟨c, rfl, q1⟩ := q1
  cases r1
  refine wpAny_truthy_bool ?_
  cases c with
  | false => exact hb pins s1 σ H1 Q I1 q1
  | true => exact ⟨.bl true, H1, I1, rfl, q1⟩
theorem pe_not (ha : PE X a ta) : PE X (.UnaryOp .Not a pos) (tNotV ta) := by
  intro pins s σ H Q I h
  refine UnaryOp_ (thn (ha pins s σ H _ I h) fun v s1 ⟨x, H1, I1, r1, q1⟩ => ?_)
  obtain ⟨c, rfl, q1⟩ := q1
  cases r1
  exact not_of (wpAny_truthy_bool ⟨.bl (!c), H1, I1, rfl, q1⟩)

def tIf (t : TT) (ta tb : TE) : TE := fun σ H Q => t σ H fun c H1 => if c = true then ta σ H1 Q else tb σ H1 Q
theorem pe_ifExp {c : Expr} (hc : PT X c tA) (ha : PE X a ta) (hb : PE X b tb) : PE X (.IfExp c a b pos) (tIf tA ta tb) := by
  intro pins s σ H Q I h
  refine wpAny_IfExp (thn (hc pins s σ H _ I h) fun d s1 ⟨H1, I1, q1⟩ => ?_)
  cases d with
  | true => exact ha pins s1 σ H1 Q I1 q1
  | false => exact hb pins s1 σ H1 Q I1 q1
end
end L2

namespace L2
open PySem PySem.Spec PyProof.Rows


def SqL (K : PySem.W.Frag) (H : Hp) (a : Addr) (xs : List V) : Prop :=
  Rd H a (.lst xs) ∨
    ∃ (o : Obj) (its : Array Value) (n : Nat), K.lookup a = some o ∧ o.cls = .type "list" ∧ o.dict = none ∧ o.data = .seq its n ∧ its.size ≤ sizeLine ∧ Vals xs its.toList
def SqT (K : PySem.W.Frag) (H : Hp) (a : Addr) (xs : List V) : Prop :=
  Rd H a (.tup xs) ∨
    ∃ (o : Obj) (its : Array Value) (n : Nat), K.lookup a = some o ∧ o.cls = .type "tuple" ∧ o.data = .seq its n ∧ its.size ≤ sizeLine ∧ Vals xs its.toList
def absV : Value → Option V
  | .none => some .non
  | .bool b => some (.bl b)
  | .int i _ => some (.int i)
  | .str x _ => some (.str x)
  | .bytes b _ => some (.byt b)
  | .float b _ => some (.flt b)
  | .ref a => some (.ref a)
  | .type n => some (.ty n)
  | _ => none
theorem RelV.abs {x : V} {u : Value} (r : RelV x u) : absV u = some x := by
  cases x with
  | non => cases r; rfl
  | bl _ => cases r; rfl
  | int _ => obtain ⟨t, rfl⟩ := r; rfl
  | str _ => obtain ⟨t, rfl⟩ := r; rfl
  | byt _ => obtain ⟨t, rfl⟩ := r; rfl
  | flt _ => obtain ⟨t, rfl⟩ := r; rfl
  | ref _ => cases r; rfl
  | ty _ => cases r; rfl
theorem RelV.inj {x y : V} {u : Value} (r : RelV x u) (q : RelV y u) : x = y := Option.some.inj (r.abs.symm.trans q.abs)
theorem Vals.inj : ∀ {xs ys : List V} {us : List Value}, Vals xs us → Vals ys us → xs = ys
  | _, _, _, .nil, .nil => rfl
  | _, _, _, .cons r t, .cons r' t' => by rw [r.inj r', Vals.inj t t']
section
variable {X : Cx} {pins : List (Addr × Obj)} {σ : St} {H : Hp} {s : Shared} {a : Addr} {xs ys : List V}
theorem SqL.of {K : PySem.W.Frag} (h : H a = some (.lst xs)) : SqL K H a xs := .inl (.inl h)
theorem SqT.of {K : PySem.W.Frag} (h : H a = some (.tup xs)) : SqT K H a xs := .inl (.inl h)
theorem Inv.list (I : Inv X pins σ H s) (h : SqL X.K H a xs) : ∃ its : List Value, Vals xs its ∧ PlainL s.heap a its.toArray ∧ xs.length ≤ sizeLine := by
  rcases h with h | ⟨o, its, n, hk, hc, hd, hs, hz, r⟩
  · obtain ⟨z, its, n, r, e⟩ := h.ok I.hok
    exact ⟨its, r, ⟨_, n, e, rfl, rfl, rfl⟩, z⟩
  · refine ⟨its.toList, r, ⟨o, n, I.kIn a o hk, hc, hd, by simpa using hs⟩, ?_⟩
    have e := r.length
    simp only [Array.length_toList] at e
    omega
theorem Inv.tuple (I : Inv X pins σ H s) (h : SqT X.K H a xs) : ∃ its : List Value, Vals xs its ∧ IsTup s.heap a its.toArray ∧ xs.length ≤ sizeLine := by
  rcases h with h | ⟨o, its, n, hk, hc, hs, hz, r⟩
  · obtain ⟨z, its, r, p⟩ := h.ok I.hok
    exact ⟨its, r, p, z⟩
  · refine ⟨its.toList, r, ⟨o, I.kIn a o hk, hc, n, by simpa using hs⟩, ?_⟩
    have e := r.length
    simp only [Array.length_toList] at e
    omega
theorem Inv.list_inj (I : Inv X pins σ H s) (h : SqL X.K H a xs) (h' : SqL X.K H a ys) : xs = ys := by
  obtain ⟨its, r, ⟨o, n, e, _, _, d⟩, _⟩ := I.list h
  obtain ⟨its', r', ⟨o', n', e', _, _, d'⟩, _⟩ := I.list h'
  rw [e] at e'; cases e'
  rw [d] at d'
  injection d' with d1 _
  have : its = its' := by simpa using congrArg Array.toList d1
  subst this
  exact r.inj r'
theorem Inv.tuple_inj (I : Inv X pins σ H s) (h : SqT X.K H a xs) (h' : SqT X.K H a ys) : xs = ys := by
  obtain ⟨its, r, ⟨o, e, _, n, d⟩, _⟩ := I.tuple h
  obtain ⟨its', r', ⟨o', e', _, n', d'⟩, _⟩ := I.tuple h'
  rw [e] at e'; cases e'
  rw [d] at d'
  injection d' with d1 _
  have : its = its' := by simpa using congrArg Array.toList d1
  subst this
  exact r.inj r'
end


abbrev Cx.wish (X : Cx) (E : Value → Shared → Prop) : Cx := { X with xe := E }

abbrev Cx.nox (X : Cx) : Cx := X.wish fun _ _ => False
theorem Cx.Ok.wish {X : Cx} (ok : X.Ok) (E : Value → Shared → Prop) : (X.wish E).Ok :=
  ⟨ok.mod, ok.kind, ok.glob, ok.blt, ok.above, ok.inj, ok.has, ok.cab, ok.hd, ok.frames, ok.stk, ok.exf, ok.bs, ok.bsz, ok.noex, ok.exfs, ok.funs, ok.frf⟩
theorem Cx.Ok.unwish {X : Cx} {E : Value → Shared → Prop} (ok : (X.wish E).Ok) : X.Ok :=
  ⟨ok.mod, ok.kind, ok.glob, ok.blt, ok.above, ok.inj, ok.has, ok.cab, ok.hd, ok.frames, ok.stk, ok.exf, ok.bs, ok.bsz, ok.noex, ok.exfs, ok.funs, ok.frf⟩
section
variable {X : Cx} {pins : List (Addr × Obj)} {σ : St} {H : Hp} {s : Shared} {E : Value → Shared → Prop}
theorem Inv.wish (I : Inv X pins σ H s) (E : Value → Shared → Prop) : Inv (X.wish E) pins σ H s := ⟨I.ok.wish E, I.os, I.bare, I.base, I.loc, I.cell, I.free, I.freeC, I.pin, I.hok, I.len⟩
theorem Inv.unwish (I : Inv (X.wish E) pins σ H s) : Inv X pins σ H s := ⟨I.ok.unwish, I.os, I.bare, I.base, I.loc, I.cell, I.free, I.freeC, I.pin, I.hok, I.len⟩
theorem SP.unwish {D : Ends} {f : Flow} {s' : Shared} (h : SP (X.wish E) pins D f s') : SP X pins D f s' := by
  cases f with
  | next => obtain ⟨σ', H', I, q⟩ := h; exact ⟨σ', H', I.unwish, q⟩
  | brk => obtain ⟨σ', H', I, q⟩ := h; exact ⟨σ', H', I.unwish, q⟩
  | cont => obtain ⟨σ', H', I, q⟩ := h; exact ⟨σ', H', I.unwish, q⟩
  | ret u => obtain ⟨v, σ', H', I, r, q⟩ := h; exact ⟨v, σ', H', I.unwish, r, q⟩
theorem PE.nox {e : Expr} {t : TE} (h : PE X.nox e t) : PE X e t := fun pins s σ H Q I hw =>
  wpAny_mono (h pins s σ H Q (I.wish _) hw) (fun _ _ ⟨v, H', I', r, q⟩ => ⟨v, H', I'.unwish, r, q⟩) fun _ _ z => False.elim z
theorem PT.nox {e : Expr} {t : TT} (h : PT X.nox e t) : PT X e t := fun pins s σ H Q I hw =>
  wpAny_mono (h pins s σ H Q (I.wish _) hw) (fun _ _ ⟨H', I', q⟩ => ⟨H', I'.unwish, q⟩) fun _ _ z => False.elim z
theorem PSs.nox {st : List Stmt} {t : TS} (h : PSs X.nox st t) : PSs X st t := fun pins s σ H D I hw =>
  wpAny_mono (h pins s σ H D (I.wish _) hw) (fun _ _ q => q.unwish) fun _ _ z => False.elim z
end


section
variable {X : Cx} {st : Stmt} {rest : List Stmt} {t u : TS} {e : Expr} {te : TE} {pos : Pos}
def tNext : TS := fun D σ H => D.nx σ H
def tSeq (t u : TS) : TS := fun D σ H => t { D with nx := u D } σ H
theorem pss_nil : PSs X [] tNext := fun _ _ σ H _ I h => wpAny_execs_nil ⟨σ, H, I, h⟩
theorem pss_cons (h1 : PS X st t) (h2 : PSs X rest u) : PSs X (st :: rest) (tSeq t u) := by
  intro pins s σ H D I h
  refine wpAny_execs_cons (thn (h1 pins s σ H { D with nx := u D } I h) fun f s1 q => ?_)
  cases f with
  | next =>
    obtain ⟨σ', H', I', q⟩ := q
    exact h2 pins s1 σ' H' D I' q
  | ret v => exact q
  | brk => exact q
  | cont => exact q
theorem pss_one (h1 : PS X st t) : PSs X [st] t := by
  intro pins s σ H D I h
  refine wpAny_execs_cons (thn (h1 pins s σ H D I h) fun f s1 q => ?_)
  cases f with
  | next => exact wpAny_execs_nil q
  | ret v => exact q
  | brk => exact q
  | cont => exact q
def tBreak : TS := fun D σ H => D.bk σ H
def tCont : TS := fun D σ H => D.ct σ H
theorem Inv.quiet {pins : List (Addr × Obj)} {σ : St} {H : Hp} {s : Shared} (I : Inv X pins σ H s) : interactive X.env = false := by simp [interactive, I.ok.kind]

def tDrop (te : TE) : TS := fun D σ H => te σ H fun _ H1 => D.nx σ H1
theorem ps_expr (he : PE X e te) (hs : swapsWith e none pos.line X.env = pure false := by rfl) : PS X (.Expr e pos) (tDrop te) := by
  intro pins s σ H D I h
  exact wpAny_Expr_any (thn (he pins s σ H _ I h) fun v s1 ⟨x, H1, I1, r1, q1⟩ => ⟨σ, H1, I1, q1⟩) I.quiet hs
def tRet (te : TE) : TS := fun D σ H => te σ H D.rt
theorem ps_ret (he : PE X e te) : PS X (.Return (some e) pos) (tRet te) := by
  intro pins s σ H D I h
  exact wpAny_Return_some (thn (he pins s σ H _ I h) fun v s1 ⟨x, H1, I1, r1, q1⟩ => ⟨x, σ, H1, I1, r1, q1⟩)
def tRetN : TS := fun D _ H => D.rt .non H
def tIfS (c : TT) (t u : TS) : TS := fun D σ H => c σ H fun b H1 => if b = true then t D σ H1 else u D σ H1
theorem ps_if {c : Expr} {a b : List Stmt} {tc : TT} (hc : PT X c tc) (ha : PSs X a t) (hb : PSs X b u) : PS X (.If c a b pos) (tIfS tc t u) := by
  intro pins s σ H D I h
  refine wpAny_If (thn (hc pins s σ H _ I h) fun d s1 ⟨H1, I1, q1⟩ => ?_)
  cases d with
  | true => exact ha pins s1 σ H1 D I1 q1
  | false => exact hb pins s1 σ H1 D I1 q1

def tNever : TS := fun _ _ _ => False
end


abbrev TG := V → St → Hp → (St → Hp → Prop) → Prop
abbrev TGs := List V → St → Hp → (St → Hp → Prop) → Prop
def PG (X : Cx) (target : Expr) (t : TG) : Prop :=
  ∀ (pins : List (Addr × Obj)) (s : Shared) (σ : St) (H : Hp) (v : V) (u : Value) (Q : St → Hp → Prop), Inv X pins σ H s → RelV v u → t v σ H Q →
    wpAny (model X.prog X.w) X.A (assign target X.env u) (fun _ s' => ∃ σ' H', Inv X pins σ' H' s' ∧ Q σ' H') X.xe s

def PGs (X : Cx) (ts : List Expr) (t : TGs) : Prop :=
  ∀ (pins : List (Addr × Obj)) (s : Shared) (σ : St) (H : Hp) (vs : List V) (us : List Value) (Q : St → Hp → Prop), Inv X pins σ H s → Vals vs us → t vs σ H Q →
    wpAny (model X.prog X.w) X.A (assignInOrder ((assignEach ts X.env).map (·.2)) us) (fun _ s' => ∃ σ' H', Inv X pins σ' H' s' ∧ Q σ' H') X.xe s

abbrev TSet := V → V → V → Hp → (Hp → Prop) → Prop
def PSet (X : Cx) (t : TSet) : Prop :=
  ∀ (pins : List (Addr × Obj)) (s : Shared) (σ : St) (H : Hp) (o i v : V) (ov iv u : Value) (Q : Hp → Prop), Inv X pins σ H s → RelV o ov → RelV i iv → RelV v u → t o i v H Q →
    wpAny (model X.prog X.w) X.A (setItem ov iv u) (fun _ s' => ∃ H', Inv X pins σ H' s' ∧ Q H') X.xe s

abbrev TIp := V → V → Hp → VK → Prop
def PIp (X : Cx) (op : Operator) (t : TIp) : Prop :=
  ∀ (pins : List (Addr × Obj)) (s : Shared) (σ : St) (H : Hp) (x y : V) (v u : Value) (Q : VK), Inv X pins σ H s → RelV x v → RelV y u → t x y H Q →
    wpAny (model X.prog X.w) X.A (inplaceOp op v u) (EP X pins σ Q) X.xe s
section
variable {X : Cx} {pos : Pos}
def gName (i : Nat) : TG := fun v σ H Q => Q (σ.set i (some v)) H
theorem pg_name {i : Nat} {x : Str} (hN : X.N.Nodup) (hi : X.N[i]? = some x) (hx : Loc X.env.scope x) (hf : X.fn x = true ∨ X.env.scope.names.lookup x = some .local := by first | exact .inl rfl | exact .inr rfl | assumption) : PG X (.Name x pos) (gName i) := by
  intro pins s σ H v u Q I r h
  exact wpAny_assign_Name (store_ok I hN hi hx r (fun s' I' => ⟨_, H, I', h⟩) hf)
def gNil : TGs := fun vs σ H Q => vs = [] ∧ Q σ H
def gCons (t : TG) (u : TGs) : TGs := fun vs σ H Q => ∃ v r, vs = v :: r ∧ t v σ H fun σ' H' => u r σ' H' Q
def gTup (K : PySem.W.Frag) (n : Nat) (t : TGs) : TG := fun v σ H Q => ∃ a xs, v = .ref a ∧ SqT K H a xs ∧ xs.length = n ∧ t xs σ H Q
def gSub (to ti : TE) (t : TSet) : TG := fun v σ H Q => to σ H fun o H1 => ti σ H1 fun i H2 => t o i v H2 fun H3 => Q σ H3
def tAsg (te : TE) (g : TG) : TS := fun D σ H => te σ H fun x H1 => g x σ H1 D.nx
theorem ps_set {i : Nat} {x : Str} {e : Expr} {te : TE} {pos' : Pos} (hN : X.N.Nodup) (hi : X.N[i]? = some x) (hx : Loc X.env.scope x) (he : PE X e te) (hs : swapsWith e (some (.Name x pos')) pos.line X.env = pure false := by rfl) (hf : X.fn x = true ∨ X.env.scope.names.lookup x = some .local := by first | exact .inl rfl | exact .inr rfl | assumption) :
    PS X (.Assign [.Name x pos'] e pos) (tAsg te (gName i)) := by
  intro pins s σ H D I h
  refine wpAny_Assign_Name (thn (he pins s σ H _ I h) fun v s1 ⟨y, H1, I1, r1, q1⟩ => ?_) hs
  exact store_ok I1 hN hi hx r1 (fun s2 I2 => ⟨_, H1, I2, q1⟩) hf

def tPar (i j : Nat) (ta : TA) : TS := fun D σ H => ta σ H fun vs H1 => ∃ v w, vs = [v, w] ∧ D.nx ((σ.set i (some v)).set j (some w)) H1
def tAug (i : Nat) (te : TE) (ti : TIp) : TS := fun D σ H => ∃ x, σ[i]? = some (some x) ∧ te σ H fun y H1 => ti x y H1 fun z H2 => D.nx (σ.set i (some z)) H2
def tAugS (to ti te : TE) (tget : V → V → Hp → VK → Prop) (tip : TIp) (tset : TSet) : TS := fun D σ H => to σ H fun o H1 => ti σ H1 fun i H2 => tget o i H2 fun x H3 => te σ H3 fun y H4 => tip x y H4 fun z H5 => tset o i z H5 fun H6 => D.nx σ H6

def PGet (X : Cx) (t : V → V → Hp → VK → Prop) : Prop :=
  ∀ (pins : List (Addr × Obj)) (s : Shared) (σ : St) (H : Hp) (o i : V) (ov iv : Value) (Q : VK), Inv X pins σ H s → RelV o ov → RelV i iv → t o i H Q →
    wpAny (model X.prog X.w) X.A (getItem ov iv) (EP X pins σ Q) X.xe s
def ipI (f : Int → Int → Int) : TIp := fun x y H Q => ∃ i j, x = .int i ∧ y = .int j ∧ Q (.int (f i j)) H
end


section
variable {X : Cx} {pos : Pos}

def tWhile (c : TT) (tb : TS) : TS := fun D σ H => ∃ W : Nat → St → Hp → Prop, (∃ m, W m σ H) ∧ ∀ m σ H, W m σ H →
  c σ H fun b H1 => if b = true then ∃ N : St → Hp → Prop, (∀ σ' H', N σ' H' → ∃ m', m' < m ∧ W m' σ' H') ∧ tb { D with nx := N, ct := N, bk := D.nx } σ H1 else D.nx σ H1
end



structure It where
  go : Nat → Hp → Prop
  yld : Nat → Hp → V → Hp → Prop
  stop : Nat → Hp → Prop

def FpOk (X : Cx) (pins : List (Addr × Obj)) (H : Hp) (b : Addr) : Prop :=
  H b = none ∧ b ≠ X.env.locals ∧ b ∉ X.fs ∧ (b ∈ X.ex ∨ X.s₀.heap.objs.size ≤ b) ∧ (∀ x c, X.env.cells.lookup x = some c → c ≠ b) ∧ ∀ p ∈ X.pn ++ pins, p.1 ≠ b
theorem Inv.fpOk {X : Cx} {pins : List (Addr × Obj)} {σ : St} {H H' : Hp} {s : Shared} {b : Addr} (I : Inv X pins σ H s) (hb : s.heap.objs.size ≤ b) (hn : H' b = none) : FpOk X pins H' b := by
  refine ⟨hn, Nat.ne_of_gt (Nat.lt_of_lt_of_le I.lt hb), I.nofs hb, .inr (Nat.le_trans I.sz hb), fun x c e z => ?_, fun p hp z => ?_⟩
  · obtain ⟨v, q⟩ := I.cell x c e
    exact absurd (Nat.lt_of_lt_of_le q.lt (by rw [z]; exact hb)) (Nat.lt_irrefl _)
  · exact absurd (Nat.lt_of_lt_of_le (Heap.lt_size (I.pin p hp).1) (by rw [z]; exact hb)) (Nat.lt_irrefl _)
structure Turn (P : Program) (w : World) (K : PySem.W.Frag) (tg : Expr) (J : It) (fp : List Addr) (it : Addr) (tn : Nat → Heap → Prop) : Prop where
  mem : it ∈ fp
  obj : ∀ i h, tn i h → ∀ b ∈ fp, ∃ o, h.get? b = some o ∧ ∀ v, o.data ≠ .cell v
  keep : ∀ i h h', tn i h → (∀ b ∈ fp, ∀ o, h.get? b = some o → h'.get? b = some o) → tn i h'
  item : ∀ (X : Cx), X.prog = P → X.w = w → X.K = K → X.calm = true → ∀ (i : Nat) (pins : List (Addr × Obj)) (s : Shared) (σ : St) (H : Hp) (E : Value → Shared → Prop), Inv X pins σ H s → (∀ b ∈ fp, FpOk X pins H b) → tn i s.heap → J.go i H →
    wpAny (model P w) X.A (pyNext (.ref it)) (fun r s1 => ∃ u, r = some u ∧
      wpAny (model P w) X.A (letOwnedTupleGo tg (.ref it) u) (fun _ s2 => ∃ x H', Inv X pins σ H' s2 ∧ RelV x u ∧ J.yld i H x H' ∧ tn (i + 1) s2.heap ∧ ∀ b ∈ fp, H' b = none) E s1) E s
  done : ∀ (X : Cx), X.prog = P → X.w = w → X.K = K → X.calm = true → ∀ (i : Nat) (pins : List (Addr × Obj)) (s : Shared) (σ : St) (H : Hp) (E : Value → Shared → Prop), Inv X pins σ H s → (∀ b ∈ fp, FpOk X pins H b) → tn i s.heap → J.stop i H →
    wpAny (model P w) X.A (pyNext (.ref it)) (fun r s1 => r = none ∧ Inv X pins σ H s1) E s
  self : ∀ (A : Around) (i : Nat) (s : Shared) (Q : Value → Shared → Prop) (E : Value → Shared → Prop), tn i s.heap → Q (.ref it) s → wpAny (model P w) A (pyIter (.ref it)) Q E s
abbrev TI := St → Hp → (It → Hp → Prop) → Prop

def PIE (X : Cx) (pins : List (Addr × Obj)) (σ : St) (tg : Expr) (R : It → Hp → Prop) (itv : Value) (s2 : Shared) : Prop :=
  ∃ (it : Addr) (fp : List Addr) (tn : Nat → Heap → Prop) (J : It) (H' : Hp), itv = .ref it ∧ Inv X pins σ H' s2 ∧ Turn X.prog X.w X.K tg J fp it tn ∧ tn 0 s2.heap ∧ (∀ b ∈ fp, FpOk X pins H' b) ∧ R J H'
def PI (X : Cx) (tg iter : Expr) (wi : TI) : Prop :=
  ∀ (pins : List (Addr × Obj)) (s : Shared) (σ : St) (H : Hp) (R : It → Hp → Prop), Inv X pins σ H s → wi σ H R →
    wpAny (model X.prog X.w) X.A (eval iter X.env) (fun v s1 => wpAny (model X.prog X.w) X.A (pyIter v) (PIE X pins σ tg R) X.xe s1) X.xe s


theorem go_of {M : Model} {A : Around} {E : Value → Shared → Prop} {s : Shared} {tg : Expr} {it : Addr} {u : Value} {o : Obj} {n : String} {vs : Array Value} {Q : Unit → Shared → Prop} (ho : s.heap.get? it = some o) (hc : o.cls = .type n) (hd : o.data = .fields vs)
    (hn : ["enumerate", "zip", "dict_itemiterator", "dict_reverseitemiterator", "odict_iterator", "itertools.zip_longest", "itertools.pairwise"].contains n = false) (hQ : Q () s) : wpAny M A (letOwnedTupleGo tg (.ref it) u) Q E s := by
  unfold letOwnedTupleGo
  cases tg <;> first
    | exact wpAny_pure hQ
    | (cases u <;> first
        | exact wpAny_pure hQ
        | (refine wpAny_bind (wpAny_load ho ?_)
           rw [hc, hd]
           show wpAny M A (if (["enumerate", "zip", "dict_itemiterator", "dict_reverseitemiterator", "odict_iterator", "itertools.zip_longest", "itertools.pairwise"].contains n && vs[0]? == some (rawInt _)) = true then _ else _) Q E s
           rw [if_neg (by intro h; rw [hn, Bool.false_and] at h; cases h)]
           exact wpAny_pure hQ))


def Itl (K : PySem.W.Frag) (a : Addr) : It :=
  ⟨fun i H => ∃ xs x, SqL K H a xs ∧ xs[i]? = some x, fun i H x H' => H' = H ∧ ∀ xs, SqL K H a xs → xs[i]? = some x, fun i H => ∃ xs, SqL K H a xs ∧ xs.length ≤ i⟩
def Itt (K : PySem.W.Frag) (a : Addr) : It :=
  ⟨fun i H => ∃ xs x, SqT K H a xs ∧ xs[i]? = some x, fun i H x H' => H' = H ∧ ∀ xs, SqT K H a xs → xs[i]? = some x, fun i H => ∃ xs, SqT K H a xs ∧ xs.length ≤ i⟩

def Itr (lo : Int) (n : Nat) : It := ⟨fun i _ => i < n, fun i H x H' => H' = H ∧ x = .int (lo + i), fun i _ => n ≤ i⟩
theorem turn_list {P : Program} {w : World} {K : PySem.W.Frag} {tg : Expr} (a it : Addr) : Turn P w K tg (Itl K a) [it] it (fun i h => h.IsListIter it a i) where
  mem := by simp
  obj := fun i h st b hb => by
    have e : b = it := by simpa using hb
    subst e
    obtain ⟨o, e, c, d⟩ := st
    exact ⟨o, e, fun v z => by rw [d] at z; cases z⟩
  keep := fun i h h' st k => st.at fun o e => k it (by simp) o e
  item := by
    intro X hP hw hK hc i pins s σ H E I hf st hg
    subst hP hw hK
    obtain ⟨xs, x, hq, hx⟩ := hg
    obtain ⟨its, rv, p, hz⟩ := I.list hq
    obtain ⟨u, hu, ru⟩ := rv.get hx
    obtain ⟨f0, f1, f2, f3, f4, f5⟩ := hf it (by simp)
    refine wpAny_pyNext_list_item st p.isList (x := u) (by simpa using hu) fun h' st' sb => ?_
    have I1 : Inv X pins σ H { s with heap := h' } := I.turned (t' := s.toks) (fun b o hb e => (sb.2 b hb).trans e) f0 f1 f3 f4 f5
    obtain ⟨o, e, c, d⟩ := id st'
    exact ⟨u, rfl, go_of (s := { s with heap := h' }) e c d (by decide) ⟨x, H, I1, ru, ⟨rfl, fun ys hy => by rw [I.list_inj hy hq]; exact hx⟩, st', fun b hb => (hf b hb).1⟩⟩
  done := by
    intro X hP hw hK hc i pins s σ H E I hf st hg
    subst hP hw hK
    obtain ⟨xs, hq, hx⟩ := hg
    obtain ⟨its, rv, p, hz⟩ := I.list hq
    obtain ⟨f0, f1, f2, f3, f4, f5⟩ := hf it (by simp)
    have hl := rv.length
    exact wpAny_pyNext_list_end (I.ok.hd hc) st p.isList (by simp; omega) fun h' eb => ⟨rfl, I.turned (t' := s.toks) (fun b o hb e => eb b o hb e) f0 f1 f3 f4 f5⟩
  self := fun _ _ _ _ _ st h => wpAny_pyIter_listiter st h
theorem turn_tuple {P : Program} {w : World} {K : PySem.W.Frag} {tg : Expr} (a it : Addr) : Turn P w K tg (Itt K a) [it] it (fun i h => h.IsTupleIter it a i) where
  mem := by simp
  obj := fun i h st b hb => by
    have e : b = it := by simpa using hb
    subst e
    obtain ⟨o, e, c, d⟩ := st
    exact ⟨o, e, fun v z => by rw [d] at z; cases z⟩
  keep := fun i h h' st k => st.at fun o e => k it (by simp) o e
  item := by
    intro X hP hw hK hc i pins s σ H E I hf st hg
    subst hP hw hK
    obtain ⟨xs, x, hq, hx⟩ := hg
    obtain ⟨its, rv, p, hz⟩ := I.tuple hq
    obtain ⟨u, hu, ru⟩ := rv.get hx
    obtain ⟨f0, f1, f2, f3, f4, f5⟩ := hf it (by simp)
    refine wpAny_pyNext_tuple_item st (show s.heap.IsTuple a its.toArray from p) (x := u) (by simpa using hu) fun h' st' sb => ?_
    have I1 : Inv X pins σ H { s with heap := h' } := I.turned (t' := s.toks) (fun b o hb e => (sb.2 b hb).trans e) f0 f1 f3 f4 f5
    obtain ⟨o, e, c, d⟩ := id st'
    exact ⟨u, rfl, go_of (s := { s with heap := h' }) e c d (by decide) ⟨x, H, I1, ru, ⟨rfl, fun ys hy => by rw [I.tuple_inj hy hq]; exact hx⟩, st', fun b hb => (hf b hb).1⟩⟩
  done := by
    intro X hP hw hK hc i pins s σ H E I hf st hg
    subst hP hw hK
    obtain ⟨xs, hq, hx⟩ := hg
    obtain ⟨its, rv, p, hz⟩ := I.tuple hq
    obtain ⟨f0, f1, f2, f3, f4, f5⟩ := hf it (by simp)
    have hl := rv.length
    exact wpAny_pyNext_tuple_end (I.ok.hd hc) st (show s.heap.IsTuple a its.toArray from p) (by simp; omega) fun h' eb => ⟨rfl, I.turned (t' := s.toks) (fun b o hb e => eb b o hb e) f0 f1 f3 f4 f5⟩
  self := fun _ _ _ _ _ st h => wpAny_pyIter_tupleiter st h
theorem turn_range {P : Program} {w : World} {K : PySem.W.Frag} {tg : Expr} (it : Addr) (lo : Int) (n : Nat) : Turn P w K tg (Itr lo n) [it] it (fun i h => IsRangeIter h it (lo + (i : Nat) * 1) ((n : Int) - (i : Nat)) 1) where
  mem := by simp
  obj := fun i h st b hb => by
    have e : b = it := by simpa using hb
    subst e
    exact ⟨_, st, fun v z => by
      have z' : Data.fields _ = Data.cell v := z
      cases z'⟩
  keep := fun i h h' st k => k it (by simp) _ st
  item := by
    intro X hP hw hK hc i pins s σ H E I hf st hg
    subst hP hw hK
    obtain ⟨f0, f1, f2, f3, f4, f5⟩ := hf it (by simp)
    have W := Walks.range (prog := X.prog) (w := X.w) (I.ok.hd hc) it lo 1 n
    refine W.item i s _ _ hg st fun v h' tk hv st' kk => ?_
    obtain ⟨t, rfl⟩ := hv
    have I1 : Inv X pins σ H { s with heap := h', toks := tk } := I.turned (fun b o hb e => kk b o (by simpa using hb) e) f0 f1 f3 f4 f5
    refine ⟨_, rfl, go_of (s := { s with heap := h', toks := tk }) (n := "range_iterator") st' rfl rfl (by decide) ⟨.int (lo + i), H, I1, ⟨t, ?_⟩, ⟨rfl, rfl⟩, st', fun b hb => (hf b hb).1⟩⟩
    rw [Int.mul_one]
  done := by
    intro X hP hw hK hc i pins s σ H E I hf st hg
    subst hP hw hK
    obtain ⟨f0, f1, f2, f3, f4, f5⟩ := hf it (by simp)
    exact wpAny_pyNext_range_end (I.ok.hd hc) st (by have : n ≤ i := hg; omega) fun h' eb => ⟨rfl, I.turned (t' := s.toks) (fun b o hb e => eb b o hb e) f0 f1 f3 f4 f5⟩
  self := fun _ _ _ _ _ st h => wpAny_pyIter_rangeiter st h
end L2

namespace L2
open PySem PySem.Spec PyProof.Rows
section
variable {X : Cx} {tg : Expr}
def iList (K : PySem.W.Frag) (tl : TE) : TI := fun σ H R => tl σ H fun x H1 => ∃ a, x = .ref a ∧ (∃ xs, SqL K H1 a xs) ∧ R (Itl K a) H1
def iTup (K : PySem.W.Frag) (tl : TE) : TI := fun σ H R => tl σ H fun x H1 => ∃ a, x = .ref a ∧ (∃ xs, SqT K H1 a xs) ∧ R (Itt K a) H1
theorem pi_list {l : Expr} {tl : TE} (hl : PE X l tl) : PI X tg l (iList X.K tl) := by
  intro pins s σ H R I h
  refine thn (hl pins s σ H _ I h) fun v s1 ⟨x, H1, I1, r1, q1⟩ => ?_
  obtain ⟨a, e, ⟨xs, hq⟩, q⟩ := q1
  subst e
  cases r1
  obtain ⟨its, rv, p, hz⟩ := I1.list hq
  refine wpAny_pyIter_list p.isList ?_
  refine ⟨s1.heap.objs.size, [s1.heap.objs.size], _, _, H1, rfl, I1.kept (t' := s1.toks) fun b o e => Heap.get?_push_of_some _ e, turn_list a _, ⟨_, Heap.get?_push_size _ rfl, rfl, rfl⟩, fun b hb => ?_, q⟩
  have e : b = s1.heap.objs.size := by simpa using hb
  subst e
  exact I1.fpOk (Nat.le_refl _) (I1.hok.fresh (Nat.le_refl _))
theorem pi_tup {l : Expr} {tl : TE} (hl : PE X l tl) : PI X tg l (iTup X.K tl) := by
  intro pins s σ H R I h
  refine thn (hl pins s σ H _ I h) fun v s1 ⟨x, H1, I1, r1, q1⟩ => ?_
  obtain ⟨a, e, ⟨xs, hq⟩, q⟩ := q1
  subst e
  cases r1
  obtain ⟨its, rv, p, hz⟩ := I1.tuple hq
  refine wpAny_pyIter_tuple (show s1.heap.IsTuple a its.toArray from p) ?_
  refine ⟨s1.heap.objs.size, [s1.heap.objs.size], _, _, H1, rfl, I1.kept (t' := s1.toks) fun b o e => Heap.get?_push_of_some _ e, turn_tuple a _, ⟨_, Heap.get?_push_size _ rfl, rfl, rfl⟩, fun b hb => ?_, q⟩
  have e : b = s1.heap.objs.size := by simpa using hb
  subst e
  exact I1.fpOk (Nat.le_refl _) (I1.hok.fresh (Nat.le_refl _))

theorem range_it {pins : List (Addr × Obj)} {σ : St} {H : Hp} {s : Shared} {R : It → Hp → Prop} {E : Value → Shared → Prop} {lo hi : Int} {t u v : Tok} {tk : Nat} (I : Inv X pins σ H s) (h1 : -(2 ^ 62) ≤ lo) (h2 : lo < 2 ^ 62) (h3 : -(2 ^ 62) ≤ hi) (h4 : hi < 2 ^ 62)
    (q : R (Itr lo (hi - lo).toNat) H) : wpAny (model X.prog X.w) X.A (pyIter (.ref s.heap.objs.size)) (PIE X pins σ tg R) E { s with heap := s.heap.push { cls := .type "range", data := .fields #[.int lo t, .int hi u, .int 1 v] }, toks := tk } := by
  refine wpAny_pyIter_range (IsRange.new ..) (small_one h1 h2 h3 h4) ?_
  have I1 : Inv X pins σ H { s with heap := s.heap.push { cls := .type "range", data := .fields #[.int lo t, .int hi u, .int 1 v] }, toks := tk } := I.kept fun b o e => Heap.get?_push_of_some _ e
  refine ⟨(s.heap.push { cls := .type "range", data := .fields #[.int lo t, .int hi u, .int 1 v] }).objs.size, [(s.heap.push { cls := .type "range", data := .fields #[.int lo t, .int hi u, .int 1 v] }).objs.size], _, _, H, rfl,
    I1.kept (t' := tk) fun b o e => Heap.get?_push_of_some _ e, turn_range _ lo (hi - lo).toNat, ?_, fun b hb => ?_, q⟩
  · have e1 : lo + ((0 : Nat) : Int) * 1 = lo := by simp
    have e2 : (((hi - lo).toNat : Nat) : Int) - ((0 : Nat) : Int) = Builtin.Range.rangeSize lo hi 1 := by rw [rangeSize_one]; split <;> omega
    show IsRangeIter _ _ (lo + ((0 : Nat) : Int) * 1) ((((hi - lo).toNat : Nat) : Int) - ((0 : Nat) : Int)) 1
    rw [e1, e2]
    exact Heap.get?_push_size _ rfl
  · have e : b = (s.heap.push { cls := .type "range", data := .fields #[.int lo t, .int hi u, .int 1 v] }).objs.size := by simpa using hb
    subst e
    exact I1.fpOk (Nat.le_refl _) (I1.hok.fresh (Nat.le_refl _))
def iRng1 (ta : TA) : TI := fun σ H R => ta σ H fun vs H1 => ∃ j : Int, vs = [.int j] ∧ -(2 ^ 62) ≤ j ∧ j < 2 ^ 62 ∧ R (Itr 0 j.toNat) H1
def iRng2 (ta : TA) : TI := fun σ H R => ta σ H fun vs H1 => ∃ i j : Int, vs = [.int i, .int j] ∧ (-(2 ^ 62) ≤ i ∧ i < 2 ^ 62 ∧ -(2 ^ 62) ≤ j ∧ j < 2 ^ 62) ∧ R (Itr i (j - i).toNat) H1
theorem pi_range1 {a : Expr} {ta : TA} {p pos : Pos} (hg : Gl X "range") (hm : X.mg "range" = none) (ha : PA X [a] ta) (hs : starEach [a] X.env = [(false, eval a X.env)] := by rfl) : PI X tg (.Call (.Name "range" p) [a] [] pos) (iRng1 ta) := by
  intro pins s σ H R I h
  refine Call_ (ld_blt I hg hm boot_range (PyProof.Rows.callWith_type1 (thn (ha pos pins s σ H _ I h) fun us s1 ⟨vs, H1, I1, r1, q1⟩ => ?_) hs rfl))
  obtain ⟨j, e, q1, q2, q⟩ := q1
  subst e
  cases r1 with
  | cons r rr =>
    cases rr
    obtain ⟨t, rfl⟩ := r
    exact call_range_1 (range_it I1 (by omega) (by omega) q1 q2 (by simpa using q))
def tFor (wi : TI) (g : TG) (tb : TS) : TS := fun D σ H => wi σ H fun J H1 => ∃ W : Nat → Nat → St → Hp → Prop, (∃ m, W 0 m σ H1) ∧ ∀ i m σ H, W i m σ H →
  (J.stop i H ∧ D.nx σ H) ∨ (J.go i H ∧ ∃ N : St → Hp → Prop, (∀ σ' H', N σ' H' → ∃ m', m' < m ∧ W (i + 1) m' σ' H') ∧ ∀ x H', J.yld i H x H' → g x σ H' fun σ2 H2 => tb { D with nx := N, ct := N, bk := D.nx } σ2 H2)

def pinsAt (fp : List Addr) (h : Heap) : List (Addr × Obj) := fp.filterMap fun b => (h.get? b).map fun o => (b, o)
theorem mem_pinsAt {fp : List Addr} {h : Heap} {b : Addr} {o : Obj} (hb : b ∈ fp) (e : h.get? b = some o) : (b, o) ∈ pinsAt fp h := List.mem_filterMap.mpr ⟨b, hb, by rw [e]; rfl⟩
theorem of_pinsAt {fp : List Addr} {h : Heap} {p : Addr × Obj} (hp : p ∈ pinsAt fp h) : p.1 ∈ fp ∧ h.get? p.1 = some p.2 := by
  obtain ⟨b, hb, e⟩ := List.mem_filterMap.mp hp
  cases q : h.get? b with
  | none => rw [q] at e; cases e
  | some o =>
    rw [q] at e
    have e' : (b, o) = p := Option.some.inj e
    subst e'
    exact ⟨hb, q⟩
theorem Inv.pinned {pins : List (Addr × Obj)} {σ : St} {H : Hp} {s : Shared} {fp : List Addr} (I : Inv X pins σ H s) (hf : ∀ b ∈ fp, FpOk X pins H b) (ho : ∀ b ∈ fp, ∃ o, s.heap.get? b = some o ∧ ∀ v, o.data ≠ .cell v) : Inv X (pins ++ pinsAt fp s.heap) σ H s :=
  I.pins_of fun p hp => (List.mem_append.mp hp).elim (fun z => I.pin p (List.mem_append_right _ z)) fun z => by
    obtain ⟨hb, e⟩ := of_pinsAt z
    obtain ⟨f0, f1, f2, _⟩ := hf p.1 hb
    obtain ⟨o, e', d⟩ := ho p.1 hb
    rw [e] at e'; cases e'
    exact ⟨e, f0, f1, f2, d⟩
theorem Inv.unpinned {pins pl : List (Addr × Obj)} {σ : St} {H : Hp} {s : Shared} (I : Inv X (pins ++ pl) σ H s) : Inv X pins σ H s := I.pins_of fun p hp => I.pin p (List.mem_append_right _ (List.mem_append_left _ hp))
theorem ps_for {iter : Expr} {body : List Stmt} {wi : TI} {g : TG} {tb : TS} {pos : Pos} (hp : PassesOwn (model X.prog X.w) X.A X.env X.xe) (hc : X.calm = true) (hi : PI X tg iter wi) (hg : PG X tg g) (hb : PSs X body tb)
    (hs : ∀ x, foldedSetIterable iter X.env x = pure x := by intro _; rfl) : PS X (.For tg iter body [] pos) (tFor wi g tb) := by
  intro pins s σ H D I h
  refine wpAny_For (thn (hi pins s σ H _ I h) fun v s1 h1 => thn h1 fun itv s2 h2 => ?_) hs
  obtain ⟨it, fp, tn, J, H2, e, I2, T, st2, f2, W, ⟨m0, w0⟩, turn⟩ := h2
  subst e
  -- what stays true of the iterator's objects through the loop
  have stat : ∀ {H' : Hp}, (∀ b ∈ fp, H' b = none) → ∀ b ∈ fp, FpOk X pins H' b := fun hn b hb => ⟨hn b hb, (f2 b hb).2⟩
  refine codeAny_forLoop_any (fun n s' => ∃ i σ' H', Inv X pins σ' H' s' ∧ tn i s'.heap ∧ (∀ b ∈ fp, H' b = none) ∧ W i n σ' H') ?_ m0 ⟨0, σ, H2, I2, st2, fun b hb => (f2 b hb).1, w0⟩
  rintro n s3 ⟨i, σ3, H3, I3, st3, fr3, w3⟩
  rcases turn i n σ3 H3 w3 with ⟨stop, qn⟩ | ⟨go, N, hN, step⟩
  · refine wpAny_passesOwn hp (thn (T.done X rfl rfl rfl hc i pins s3 σ3 H3 X.xe I3 (stat fr3) st3 stop) fun r s4 ⟨hr, I4⟩ => ?_)
    subst hr
    exact wpAny_execs_nil ⟨σ3, H3, I4, qn⟩
  · refine wpAny_passesOwn hp (thn (T.item X rfl rfl rfl hc i pins s3 σ3 H3 X.xe I3 (stat fr3) st3 go) fun r s4 ⟨u, hr, h4⟩ => ?_)
    subst hr
    refine wpAny_passesOwn hp (thn h4 fun _ s5 ⟨x, H5, I5, r5, y5, st5, fr5⟩ => ?_)
    have I5' := I5.pinned (stat fr5) (T.obj _ _ st5)
    refine wpAny_passesOwn hp (thn (hg _ s5 σ3 H5 x u _ I5' r5 (step x H5 y5)) fun _ s6 ⟨σ6, H6, I6, q6⟩ => ?_)
    refine wpAny_passesOwn hp (thn (hb _ s6 σ6 H6 _ I6 q6) fun f s7 q7 => ?_)
    have again : ∀ {σ7 : St} {H7 : Hp}, Inv X (pins ++ pinsAt fp s5.heap) σ7 H7 s7 → N σ7 H7 → ∃ m, m < n ∧ ∃ i σ' H', Inv X pins σ' H' s7 ∧ tn i s7.heap ∧ (∀ b ∈ fp, H' b = none) ∧ W i m σ' H' := fun {σ7 H7} I7 n7 => by
      obtain ⟨m', hm, w7⟩ := hN σ7 H7 n7
      refine ⟨m', hm, i + 1, σ7, H7, I7.unpinned, T.keep _ _ _ st5 fun b hb o e => (I7.pin (b, o) (List.mem_append_right _ (List.mem_append_right _ (mem_pinsAt hb e)))).1, fun b hb => ?_, w7⟩
      obtain ⟨o, e, d⟩ := T.obj _ _ st5 b hb
      exact (I7.pin (b, o) (List.mem_append_right _ (List.mem_append_right _ (mem_pinsAt hb e)))).2.1
    cases f with
    | next => obtain ⟨σ7, H7, I7, n7⟩ := q7; exact again I7 n7
    | cont => obtain ⟨σ7, H7, I7, n7⟩ := q7; exact again I7 n7
    | brk => obtain ⟨σ7, H7, I7, q7⟩ := q7; exact ⟨σ7, H7, I7.unpinned, q7⟩
    | ret v => obtain ⟨x7, σ7, H7, I7, r7, q7⟩ := q7; exact ⟨x7, σ7, H7, I7.unpinned, r7, q7⟩
end



theorem for_list {K : PySem.W.Frag} {a : Addr} {xs : List V} {g : TG} {tb : TS} {D : Ends} {σ : St} {H : Hp} (Pv : Nat → St → Hp → Prop) (h0 : Pv 0 σ H) (hl : ∀ i σ H, i ≤ xs.length → Pv i σ H → SqL K H a xs)
    (hs : ∀ i x σ H, xs[i]? = some x → Pv i σ H → g x σ H fun σ2 H2 => tb { D with nx := Pv (i + 1), ct := Pv (i + 1), bk := D.nx } σ2 H2) (hd : ∀ σ H, Pv xs.length σ H → D.nx σ H) :
    ∃ W : Nat → Nat → St → Hp → Prop, (∃ m, W 0 m σ H) ∧ ∀ i m σ H, W i m σ H →
      ((Itl K a).stop i H ∧ D.nx σ H) ∨ ((Itl K a).go i H ∧ ∃ N : St → Hp → Prop, (∀ σ' H', N σ' H' → ∃ m', m' < m ∧ W (i + 1) m' σ' H') ∧ ∀ x H', (Itl K a).yld i H x H' → g x σ H' fun σ2 H2 => tb { D with nx := N, ct := N, bk := D.nx } σ2 H2) := by
  refine ⟨fun i m σ H => m = xs.length - i ∧ i ≤ xs.length ∧ Pv i σ H, ⟨xs.length, by simp, Nat.zero_le _, h0⟩, ?_⟩
  rintro i m σ H ⟨rfl, hi, p⟩
  have q := hl i σ H hi p
  by_cases hlt : i < xs.length
  · refine .inr ⟨⟨xs, xs[i], q, by simp [hlt]⟩, Pv (i + 1), fun σ' H' p' => ⟨xs.length - (i + 1), by omega, rfl, hlt, p'⟩, fun x H' y => ?_⟩
    obtain ⟨e, y⟩ := y
    subst e
    exact hs i x σ _ (y xs q) p
  · have e : i = xs.length := by omega
    subst e
    exact .inl ⟨⟨xs, q, Nat.le_refl _⟩, hd σ H p⟩
theorem for_tup {K : PySem.W.Frag} {a : Addr} {xs : List V} {g : TG} {tb : TS} {D : Ends} {σ : St} {H : Hp} (Pv : Nat → St → Hp → Prop) (h0 : Pv 0 σ H) (hl : ∀ i σ H, i ≤ xs.length → Pv i σ H → SqT K H a xs)
    (hs : ∀ i x σ H, xs[i]? = some x → Pv i σ H → g x σ H fun σ2 H2 => tb { D with nx := Pv (i + 1), ct := Pv (i + 1), bk := D.nx } σ2 H2) (hd : ∀ σ H, Pv xs.length σ H → D.nx σ H) :
    ∃ W : Nat → Nat → St → Hp → Prop, (∃ m, W 0 m σ H) ∧ ∀ i m σ H, W i m σ H →
      ((Itt K a).stop i H ∧ D.nx σ H) ∨ ((Itt K a).go i H ∧ ∃ N : St → Hp → Prop, (∀ σ' H', N σ' H' → ∃ m', m' < m ∧ W (i + 1) m' σ' H') ∧ ∀ x H', (Itt K a).yld i H x H' → g x σ H' fun σ2 H2 => tb { D with nx := N, ct := N, bk := D.nx } σ2 H2) := by
  refine ⟨fun i m σ H => m = xs.length - i ∧ i ≤ xs.length ∧ Pv i σ H, ⟨xs.length, by simp, Nat.zero_le _, h0⟩, ?_⟩
  rintro i m σ H ⟨rfl, hi, p⟩
  have q := hl i σ H hi p
  by_cases hlt : i < xs.length
  · refine .inr ⟨⟨xs, xs[i], q, by simp [hlt]⟩, Pv (i + 1), fun σ' H' p' => ⟨xs.length - (i + 1), by omega, rfl, hlt, p'⟩, fun x H' y => ?_⟩
    obtain ⟨e, y⟩ := y
    subst e
    exact hs i x σ _ (y xs q) p
  · have e : i = xs.length := by omega
    subst e
    exact .inl ⟨⟨xs, q, Nat.le_refl _⟩, hd σ H p⟩
theorem for_range {lo : Int} {n : Nat} {g : TG} {tb : TS} {D : Ends} {σ : St} {H : Hp} (Pv : Nat → St → Hp → Prop) (h0 : Pv 0 σ H)
    (hs : ∀ i σ H, i < n → Pv i σ H → g (.int (lo + i)) σ H fun σ2 H2 => tb { D with nx := Pv (i + 1), ct := Pv (i + 1), bk := D.nx } σ2 H2) (hd : ∀ σ H, Pv n σ H → D.nx σ H) :
    ∃ W : Nat → Nat → St → Hp → Prop, (∃ m, W 0 m σ H) ∧ ∀ i m σ H, W i m σ H →
      ((Itr lo n).stop i H ∧ D.nx σ H) ∨ ((Itr lo n).go i H ∧ ∃ N : St → Hp → Prop, (∀ σ' H', N σ' H' → ∃ m', m' < m ∧ W (i + 1) m' σ' H') ∧ ∀ x H', (Itr lo n).yld i H x H' → g x σ H' fun σ2 H2 => tb { D with nx := N, ct := N, bk := D.nx } σ2 H2) := by
  refine ⟨fun i m σ H => m = n - i ∧ i ≤ n ∧ Pv i σ H, ⟨n, by simp, Nat.zero_le _, h0⟩, ?_⟩
  rintro i m σ H ⟨rfl, hi, p⟩
  by_cases hlt : i < n
  · refine .inr ⟨hlt, Pv (i + 1), fun σ' H' p' => ⟨n - (i + 1), by omega, rfl, hlt, p'⟩, fun x H' y => ?_⟩
    obtain ⟨e, y⟩ := y
    subst e y
    exact hs i σ _ hlt p
  · have e : i = n := by omega
    subst e
    exact .inl ⟨Nat.le_refl _, hd σ H p⟩

end L2

namespace L2
open PySem PySem.Spec PyProof.Rows

abbrev R2 := V → V → Hp → VK → Prop

def OpR (X : Cx) (f : Value → Value → Sem Value) (r : R2) : Prop :=
  ∀ (pins : List (Addr × Obj)) (s : Shared) (σ : St) (H : Hp) (x y : V) (v u : Value) (Q : VK), Inv X pins σ H s → RelV x v → RelV y u → r x y H Q →
    wpAny (model X.prog X.w) X.A (f v u) (EP X pins σ Q) X.xe s

def UnR (X : Cx) (f : Value → Sem Value) (r : V → Hp → VK → Prop) : Prop :=
  ∀ (pins : List (Addr × Obj)) (s : Shared) (σ : St) (H : Hp) (x : V) (v : Value) (Q : VK), Inv X pins σ H s → RelV x v → r x H Q →
    wpAny (model X.prog X.w) X.A (f v) (EP X pins σ Q) X.xe s

def CallR (X : Cx) (f : Value) (r : List V → Hp → VK → Prop) : Prop :=
  ∀ (pins : List (Addr × Obj)) (s : Shared) (σ : St) (H : Hp) (xs : List V) (us : List Value) (Q : VK), Inv X pins σ H s → Vals xs us → r xs H Q →
    wpAny (model X.prog X.w) X.A (call f us) (EP X pins σ Q) X.xe s

def TruR (X : Cx) (r : V → Hp → (Bool → Hp → Prop) → Prop) : Prop :=
  ∀ (pins : List (Addr × Obj)) (s : Shared) (σ : St) (H : Hp) (x : V) (v : Value) (Q : Bool → Hp → Prop), Inv X pins σ H s → RelV x v → r x H Q →
    wpAny (model X.prog X.w) X.A (truthy v) (TP X pins σ Q) X.xe s

def tOp (r : R2) (ta tb : TE) : TE := fun σ H Q => ta σ H fun x H1 => tb σ H1 fun y H2 => r x y H2 Q
def tUn (r : V → Hp → VK → Prop) (ta : TE) : TE := fun σ H Q => ta σ H fun x H1 => r x H1 Q

def rI (C : Int → Int → Prop) (g : Int → Int → V) : R2 := fun x y H Q => ∃ i j, x = .int i ∧ y = .int j ∧ C i j ∧ Q (g i j) H
def rI0 (g : Int → Int → V) : R2 := fun x y H Q => ∃ i j, x = .int i ∧ y = .int j ∧ Q (g i j) H
def rU (g : Int → V) : V → Hp → VK → Prop := fun x H Q => ∃ i, x = .int i ∧ Q (g i) H

section
variable {X : Cx} {a b c : Expr} {ta tb tc : TE} {pos : Pos}

theorem binT (ha : PE X a ta) (hb : PE X b tb) {pins : List (Addr × Obj)} {s : Shared} {σ : St} {H : Hp} {R : V → V → Hp → Prop} (I : Inv X pins σ H s)
    (h : ta σ H fun x H1 => tb σ H1 fun y H2 => R x y H2) {Q : Value → Shared → Prop} {f : Value → Value → Sem Value}
    (hf : ∀ v u s2 x y H2, Inv X pins σ H2 s2 → RelV x v → RelV y u → R x y H2 → wpAny (model X.prog X.w) X.A (f v u) Q X.xe s2) :
    wpAny (model X.prog X.w) X.A (eval a X.env) (fun v s₁ => wpAny (model X.prog X.w) X.A (eval b X.env) (fun u s₂ => wpAny (model X.prog X.w) X.A (f v u) Q X.xe s₂) X.xe s₁) X.xe s := by
  refine thn (ha pins s σ H _ I h) fun v s1 ⟨x, H1, I1, r1, q1⟩ => ?_
  refine thn (hb pins s1 σ H1 _ I1 q1) fun u s2 ⟨y, H2, I2, r2, q2⟩ => ?_
  exact hf v u s2 x y H2 I2 r1 r2 q2

theorem pe_op {op : Operator} {r : R2} (ho : OpR X (binaryOp op) r) (ha : PE X a ta) (hb : PE X b tb) : PE X (.BinOp a op b pos) (tOp r ta tb) := by
  intro pins s σ H Q I h
  exact wpAny_BinOp (binT ha hb I h fun v u s2 x y H2 I2 rx ry q => ho pins s2 σ H2 x y v u Q I2 rx ry q)
theorem pe_un {op : UnaryOp} {r : V → Hp → VK → Prop} (ho : UnR X (unaryOp op) r) (ha : PE X a ta) : PE X (.UnaryOp op a pos) (tUn r ta) := by
  intro pins s σ H Q I h
  exact UnaryOp_ (thn (ha pins s σ H _ I h) fun v s1 ⟨x, H1, I1, r1, q1⟩ => ho pins s1 σ H1 x v Q I1 r1 q1)

theorem opI {f : Value → Value → Sem Value} {C : Int → Int → Prop} {g : Int → Int → Int}
    (rule : ∀ (i j : Int) (t u : Tok) (s : Shared) (Q : Value → Shared → Prop) (E : Value → Shared → Prop), C i j → Q (.int (g i j) s.toks) { s with toks := s.toks + 1 } → wpAny (model X.prog X.w) X.A (f (.int i t) (.int j u)) Q E s) :
    OpR X f (rI C fun i j => .int (g i j)) := by
  intro pins s σ H x y v u Q I rx ry h
  obtain ⟨i, j, rfl, rfl, hc, q⟩ := h
  obtain ⟨t, rfl⟩ := rx
  obtain ⟨t', rfl⟩ := ry
  exact rule i j t t' s _ _ hc ⟨.int (g i j), H, I.tok _, ⟨_, rfl⟩, q⟩
theorem opI0 {f : Value → Value → Sem Value} {g : Int → Int → Int}
    (rule : ∀ (i j : Int) (t u : Tok) (s : Shared) (Q : Value → Shared → Prop) (E : Value → Shared → Prop), Q (.int (g i j) s.toks) { s with toks := s.toks + 1 } → wpAny (model X.prog X.w) X.A (f (.int i t) (.int j u)) Q E s) :
    OpR X f (rI0 fun i j => .int (g i j)) := by
  intro pins s σ H x y v u Q I rx ry h
  obtain ⟨i, j, rfl, rfl, q⟩ := h
  obtain ⟨t, rfl⟩ := rx
  obtain ⟨t', rfl⟩ := ry
  exact rule i j t t' s _ _ ⟨.int (g i j), H, I.tok _, ⟨_, rfl⟩, q⟩
theorem opB0 {f : Value → Value → Sem Value} {g : Int → Int → Bool}
    (rule : ∀ (i j : Int) (t u : Tok) (s : Shared) (Q : Value → Shared → Prop) (E : Value → Shared → Prop), Q (.bool (g i j)) s → wpAny (model X.prog X.w) X.A (f (.int i t) (.int j u)) Q E s) :
    OpR X f (rI0 fun i j => .bl (g i j)) := by
  intro pins s σ H x y v u Q I rx ry h
  obtain ⟨i, j, rfl, rfl, q⟩ := h
  obtain ⟨t, rfl⟩ := rx
  obtain ⟨t', rfl⟩ := ry
  exact rule i j t t' s _ _ ⟨.bl (g i j), H, I, rfl, q⟩

def CDiv (i j : Int) : Prop := 0 < j ∧ j < 1073741824
def CDivN (i j : Int) : Prop := j ≠ 0 ∧ j.natAbs < 1073741824
def CPow (i j : Int) : Prop := 0 ≤ j ∧ j ≤ 1000000 ∧ i.natAbs < 2 ^ 64
def CMul (i j : Int) : Prop := (-(2 ^ 64) < i ∧ i < 2 ^ 64) ∨ (-(2 ^ 64) < j ∧ j < 2 ^ 64)
theorem CMul.ok {i j : Int} (h : CMul i j) : IntMulOk i j := by
  rcases h with ⟨h1, h2⟩ | ⟨h1, h2⟩
  · exact .of_left (intBits_le_64 h1 h2)
  · exact .of_right (intBits_le_64 h1 h2)
theorem op_add : OpR X (binaryOp .Add) (rI0 fun i j => .int (i + j)) := opI0 fun _ _ _ _ _ _ _ q => add_int q
theorem op_sub : OpR X (binaryOp .Sub) (rI0 fun i j => .int (i - j)) := opI0 fun _ _ _ _ _ _ _ q => sub_int q
theorem op_mul : OpR X (binaryOp .Mult) (rI CMul fun i j => .int (i * j)) := opI fun _ _ _ _ _ _ _ hc q => mul_int q hc.ok

theorem op_fdiv : OpR X (binaryOp .FloorDiv) (rI CDiv fun i j => .int (i / j)) := opI fun i j _ _ _ _ _ hc q => by
  have h1 : (0 : Int) < j := hc.1
  have h2 : j < 1073741824 := hc.2
  exact floordiv_int (by omega) (by rw [Int.fdiv_eq_ediv_of_nonneg i (by omega)]; exact q) (.inl (PyProof.noPylong_small (by omega)))
theorem op_mod : OpR X (binaryOp .Mod) (rI (fun _ j => 0 < j) fun i j => .int (i % j)) := opI fun i j _ _ _ _ _ hc q => by
  have h1 : (0 : Int) < j := hc
  exact mod_int' (by omega) (by rw [Int.fmod_eq_emod_of_nonneg i (by omega)]; exact q)
theorem op_pow : OpR X (binaryOp .Pow) (rI CPow fun i j => .int (i ^ j.toNat)) := opI fun _ _ _ _ _ _ _ hc q => pow_int_small hc.1 hc.2.1 hc.2.2 q
theorem unI {f : Value → Sem Value} {g : Int → Int}
    (rule : ∀ (i : Int) (t : Tok) (s : Shared) (Q : Value → Shared → Prop) (E : Value → Shared → Prop), Q (.int (g i) s.toks) { s with toks := s.toks + 1 } → wpAny (model X.prog X.w) X.A (f (.int i t)) Q E s) :
    UnR X f (rU fun i => .int (g i)) := by
  intro pins s σ H x v Q I rx h
  obtain ⟨i, rfl, q⟩ := h
  obtain ⟨t, rfl⟩ := rx
  exact rule i t s _ _ ⟨.int (g i), H, I.tok _, ⟨_, rfl⟩, q⟩
theorem un_neg : UnR X (unaryOp .USub) (rU fun i => .int (-i)) := unI fun _ _ _ _ _ q => neg_int q
end



def scal : V → V → Bool
  | .non, .non => true | .non, .int _ => true | .int _, .non => true | .non, .bl _ => true | .bl _, .non => true | .non, .str _ => true | .str _, .non => true
  | .int _, .int _ => true | .bl _, .bl _ => true | .str _, .str _ => true | .byt _, .byt _ => true
  | .int _, .str _ => true | .str _, .int _ => true | .bl _, .str _ => true | .str _, .bl _ => true
  | _, _ => false
def rEq : R2 := fun x y H Q => scal x y = true ∧ Q (.bl (decide (x = y))) H
def rNe : R2 := fun x y H Q => scal x y = true ∧ Q (.bl (!decide (x = y))) H

theorem dec_int {i j : Int} : decide (V.int i = V.int j) = (i == j) := by
  rw [Bool.eq_iff_iff]
  simp
theorem dec_bl {i j : Bool} : decide (V.bl i = V.bl j) = (i == j) := by
  rw [Bool.eq_iff_iff]
  simp
theorem dec_str {i j : Str} : decide (V.str i = V.str j) = (i == j) := by
  rw [Bool.eq_iff_iff]
  simp
theorem dec_byt {i j : Array UInt8} : decide (V.byt i = V.byt j) = (i.toList == j.toList) := by
  rw [Bool.eq_iff_iff]
  cases i
  cases j
  simp

section
variable {X : Cx} {a b c : Expr} {ta tb tc : TE} {pos : Pos}
theorem fin_bl {pins : List (Addr × Obj)} {σ : St} {H : Hp} {s : Shared} {Q : VK} {k k' : Bool} (I : Inv X pins σ H s) (q : Q (.bl k) H) (e : k = k') : EP X pins σ Q (.bool k') s := by
  subst e
  exact ⟨.bl k, H, I, rfl, q⟩
theorem op_eq : OpR X (compareOp .Eq) rEq := by
  intro pins s σ H x y v u Q I rx ry h
  obtain ⟨hs, q⟩ := h
  cases x with
  | non =>
    cases rx
    cases y with
    | non => cases ry; exact PySem.EqNone.eq_none_none (fin_bl I q (by simp))
    | bl j => cases ry; exact PySem.EqNone.eq_none_bool (fin_bl I q (by simp))
    | int j => obtain ⟨t', rfl⟩ := ry; exact PySem.EqNone.eq_none_int (fin_bl I q (by simp))
    | str j => obtain ⟨t', rfl⟩ := ry; exact PySem.EqNone.eq_none_str (fin_bl I q (by simp))
    | _ => exact absurd (show false = true from hs) Bool.false_ne_true
  | bl i =>
    cases rx
    cases y with
    | non => cases ry; exact PySem.EqNone.eq_bool_none (fin_bl I q (by simp))
    | bl j => cases ry; exact eq_bool (fin_bl I q dec_bl)
    | str j => obtain ⟨t', rfl⟩ := ry; exact PySem.EqMixed.eq_bool_str (fin_bl I q (by simp))
    | _ => exact absurd (show false = true from hs) Bool.false_ne_true
  | int i =>
    obtain ⟨t, rfl⟩ := rx
    cases y with
    | non => cases ry; exact PySem.EqNone.eq_int_none (fin_bl I q (by simp))
    | int j => obtain ⟨t', rfl⟩ := ry; exact eq_int (fin_bl I q dec_int)
    | str j => obtain ⟨t', rfl⟩ := ry; exact PySem.EqMixed.eq_int_str (fin_bl I q (by simp))
    | _ => exact absurd (show false = true from hs) Bool.false_ne_true
  | str i =>
    obtain ⟨t, rfl⟩ := rx
    cases y with
    | non => cases ry; exact PySem.EqNone.eq_str_none (fin_bl I q (by simp))
    | bl j => cases ry; exact PySem.EqMixed.eq_str_bool (fin_bl I q (by simp))
    | int j => obtain ⟨t', rfl⟩ := ry; exact PySem.EqMixed.eq_str_int (fin_bl I q (by simp))
    | str j => obtain ⟨t', rfl⟩ := ry; exact eq_str (fin_bl I q dec_str)
    | _ => exact absurd (show false = true from hs) Bool.false_ne_true
  | byt i =>
    obtain ⟨t, rfl⟩ := rx
    cases y with
    | byt j => obtain ⟨t', rfl⟩ := ry; exact PySem.W.eq_bytes (fin_bl I q dec_byt)
    | _ => exact absurd (show false = true from hs) Bool.false_ne_true
  | _ => cases y <;> exact absurd (show false = true from hs) Bool.false_ne_true
theorem op_ne : OpR X (compareOp .NotEq) rNe := by
  intro pins s σ H x y v u Q I rx ry h
  obtain ⟨hs, q⟩ := h
  cases x with
  | non =>
    cases rx
    cases y with
    | non => cases ry; exact PySem.EqNone.ne_none_none (fin_bl I q (by simp))
    | bl j => cases ry; exact PySem.EqNone.ne_none_bool (fin_bl I q (by simp))
    | int j => obtain ⟨t', rfl⟩ := ry; exact PySem.EqNone.ne_none_int (fin_bl I q (by simp))
    | str j => obtain ⟨t', rfl⟩ := ry; exact PySem.EqNone.ne_none_str (fin_bl I q (by simp))
    | _ => exact absurd (show false = true from hs) Bool.false_ne_true
  | bl i =>
    cases rx
    cases y with
    | non => cases ry; exact PySem.EqNone.ne_bool_none (fin_bl I q (by simp))
    | bl j => cases ry; exact ne_bool (fin_bl I q (congrArg not dec_bl))
    | str j => obtain ⟨t', rfl⟩ := ry; exact PySem.EqMixed.ne_bool_str (fin_bl I q (by simp))
    | _ => exact absurd (show false = true from hs) Bool.false_ne_true
  | int i =>
    obtain ⟨t, rfl⟩ := rx
    cases y with
    | non => cases ry; exact PySem.EqNone.ne_int_none (fin_bl I q (by simp))
    | int j => obtain ⟨t', rfl⟩ := ry; exact ne_int (fin_bl I q (congrArg not dec_int))
    | str j => obtain ⟨t', rfl⟩ := ry; exact PySem.EqMixed.ne_int_str (fin_bl I q (by simp))
    | _ => exact absurd (show false = true from hs) Bool.false_ne_true
  | str i =>
    obtain ⟨t, rfl⟩ := rx
    cases y with
    | non => cases ry; exact PySem.EqNone.ne_str_none (fin_bl I q (by simp))
    | bl j => cases ry; exact PySem.EqMixed.ne_str_bool (fin_bl I q (by simp))
    | int j => obtain ⟨t', rfl⟩ := ry; exact PySem.EqMixed.ne_str_int (fin_bl I q (by simp))
    | str j => obtain ⟨t', rfl⟩ := ry; exact ne_str (fin_bl I q (congrArg not dec_str))
    | _ => exact absurd (show false = true from hs) Bool.false_ne_true
  | byt i =>
    obtain ⟨t, rfl⟩ := rx
    cases y with
    | byt j => obtain ⟨t', rfl⟩ := ry; exact PySem.W.ne_bytes (fin_bl I q (congrArg not dec_byt))
    | _ => exact absurd (show false = true from hs) Bool.false_ne_true
  | _ => cases y <;> exact absurd (show false = true from hs) Bool.false_ne_true

theorem op_lt : OpR X (compareOp .Lt) (rI0 fun i j => .bl (decide (i < j))) := opB0 fun _ _ _ _ _ _ _ q => lt_int q
theorem op_le : OpR X (compareOp .LtE) (rI0 fun i j => .bl (decide (i ≤ j))) := opB0 fun _ _ _ _ _ _ _ q => le_int q
theorem op_gt : OpR X (compareOp .Gt) (rI0 fun i j => .bl (decide (j < i))) := opB0 fun _ _ _ _ _ _ _ q => gt_int q
theorem op_isN : OpR X (compareOp .Is) (fun x y H Q => y = .non ∧ Q (.bl (decide (x = .non))) H) := by
  intro pins s σ H x y v u Q I rx ry h
  obtain ⟨rfl, q⟩ := h
  cases ry
  refine is_none_gen (fin_bl I q ?_)
  cases x <;> first
    | (cases rx; rfl)
    | (obtain ⟨t, rfl⟩ := rx; rfl)
theorem op_notin_str : OpR X (compareOp .NotIn) (fun x y H Q => ∃ i j, x = .str i ∧ y = .str j ∧ Q (.bl (!(!(Builtin.Str.occurrences j i 0 j.length 1).isEmpty))) H) := by
  intro pins s σ H x y v u Q I rx ry h
  obtain ⟨i, j, rfl, rfl, q⟩ := h
  obtain ⟨t, rfl⟩ := rx
  obtain ⟨t', rfl⟩ := ry
  exact notIn_str (fin_bl I q rfl)

def isObj : HO → Bool
  | .lst _ => true
  | .ins _ _ _ => true
  | _ => false
theorem nomark (b : Expr) {op : CmpOp} (h : op ≠ .In := by decide) (h2 : op ≠ .NotIn := by decide) : behindInMarks op b = false := by
  have e1 : (op == CmpOp.In) = false := by cases op <;> first | rfl | exact absurd rfl h
  have e2 : (op == CmpOp.NotIn) = false := by cases op <;> first | rfl | exact absurd rfl h2
  cases b <;> simp [behindInMarks, e1, e2]

theorem pe_cmpR {op : CmpOp} {r : R2} (ho : OpR X (compareOp op) r) (ha : PE X a ta) (hb : PE X b tb) (hm : behindInMarks op b = false) : PE X (.Compare a [op] [b] pos) (tOp r ta tb) := by
  intro pins s σ H Q I h
  exact wpAny_Compare1 (binT ha hb I h fun v u s2 x y H2 I2 rx ry q => ho pins s2 σ H2 x y v u Q I2 rx ry q) hm

def tTest (t : TE) : TT := fun σ H Q => t σ H fun x H' => ∃ k, x = .bl k ∧ Q k H'
theorem pt_cmpR {op : CmpOp} {r : R2} (ho : OpR X (compareOp op) r) (ha : PE X a ta) (hb : PE X b tb) (hm : behindInMarks op b = false) : PT X (.Compare a [op] [b] pos) (tTest (tOp r ta tb)) := by
  intro pins s σ H Q I h
  refine wpAny_isTrue_Compare1 (thn (ha pins s σ H _ I h) fun v s1 ⟨x, H1, I1, r1, q1⟩ => thn (hb pins s1 σ H1 _ I1 q1) fun u s2 ⟨y, H2, I2, r2, q2⟩ =>
    thn (ho pins s2 σ H2 x y v u _ I2 r1 r2 q2) fun c s3 ⟨z, H3, I3, r3, k, e, q3⟩ => ?_) hm
  subst e
  cases r3
  exact wpAny_truthy_bool ⟨H3, I3, q3⟩

def tChain (r r' : R2) (ta tb tc : TE) : TE := fun σ H Q => ta σ H fun x H1 => tb σ H1 fun y H2 => r x y H2 fun z H3 => ∃ k, z = .bl k ∧
  (if k = true then tc σ H3 fun w' H4 => r' y w' H4 Q else Q (.bl false) H3)
theorem pe_chain {op op' : CmpOp} {r r' : R2} (ho : OpR X (compareOp op) r) (ho' : OpR X (compareOp op') r') (ha : PE X a ta) (hb : PE X b tb) (hc : PE X c tc)
    (hm : lastMarks [op, op'] [b, c] = false := by with_unfolding_all rfl) : PE X (.Compare a [op, op'] [b, c] pos) (tChain r r' ta tb tc) := by
  intro pins s σ H Q I h
  refine Compare_chain (thn (ha pins s σ H _ I h) fun v s1 ⟨x, H1, I1, r1, q1⟩ => chain_link (thn (hb pins s1 σ H1 _ I1 q1) fun u s2 ⟨y, H2, I2, r2, q2⟩ =>
    thn (ho pins s2 σ H2 x y v u _ I2 r1 r2 q2) fun d s3 ⟨z, H3, I3, r3, k, e, q3⟩ => ?_)) hm
  subst e
  cases r3
  refine wpAny_truthy_bool ?_
  cases k with
  | false => exact ite_ff ⟨.bl false, H3, I3, rfl, q3⟩
  | true => exact ite_tt (chain_last (thn (hc pins s3 σ H3 _ I3 q3) fun w' s4 ⟨z', H4, I4, r4, q4⟩ => ho' pins s4 σ H4 y z' u w' Q I4 r2 r4 q4))
theorem pt_chain {op op' : CmpOp} {r r' : R2} (ho : OpR X (compareOp op) r) (ho' : OpR X (compareOp op') r') (ha : PE X a ta) (hb : PE X b tb) (hc : PE X c tc)
    (hm : lastMarks [op, op'] [b, c] = false := by with_unfolding_all rfl) : PT X (.Compare a [op, op'] [b, c] pos) (tTest (tChain r r' ta tb tc)) := by
  intro pins s σ H Q I h
  refine isTrue_chain (thn (ha pins s σ H _ I h) fun v s1 ⟨x, H1, I1, r1, q1⟩ => test_link (thn (hb pins s1 σ H1 _ I1 q1) fun u s2 ⟨y, H2, I2, r2, q2⟩ =>
    thn (ho pins s2 σ H2 x y v u _ I2 r1 r2 q2) fun d s3 ⟨z, H3, I3, r3, k, e, q3⟩ => ?_)) hm
  subst e
  cases r3
  refine wpAny_truthy_bool ?_
  cases k with
  | false =>
    obtain ⟨k', e', q'⟩ := q3
    cases e'
    exact ite_ff ⟨H3, I3, q'⟩
  | true =>
    refine ite_tt (test_last (thn (hc pins s3 σ H3 _ I3 q3) fun w' s4 ⟨z', H4, I4, r4, q4⟩ => thn (ho' pins s4 σ H4 y z' u w' _ I4 r2 r4 q4) fun d' s5 ⟨z2, H5, I5, r5, k2, e2, q5⟩ => ?_))
    subst e2
    cases r5
    exact wpAny_truthy_bool ⟨H5, I5, q5⟩



def TruV (K : PySem.W.Frag) (x : V) (H : Hp) (k : Bool) : Prop :=
  match x with
  | .non => k = false
  | .bl b => k = b
  | .int i => k = (i != 0)
  | .str y => y.length ≤ sizeLine ∧ k = ((y.length : Int) != 0)
  | .byt y => y.size ≤ sizeLine ∧ k = ((y.size : Int) != 0)
  | .ref p => (∃ xs, SqL K H p xs ∧ k = !xs.isEmpty) ∨ (∃ xs, SqT K H p xs ∧ k = !xs.isEmpty) ∨ ∃ kvs, H p = some (.dK kvs) ∧ k = !kvs.isEmpty
  | _ => False
theorem line63 : (sizeLine : Nat) < 2 ^ 63 := by rw [sizeLine_eq]; decide
theorem op_add_str : OpR X (binaryOp .Add) (fun x y H Q => ∃ i j, x = .str i ∧ y = .str j ∧ i.length + j.length ≤ sizeLine ∧ Q (.str (i ++ j)) H) := by
  intro pins s σ H x y v u Q I rx ry h
  obtain ⟨i, j, rfl, rfl, hz, q⟩ := h
  obtain ⟨t, rfl⟩ := rx
  obtain ⟨t', rfl⟩ := ry
  exact add_str (fun t' tk => ⟨.str (i ++ j), H, I.tok _, ⟨_, rfl⟩, q⟩) hz
def PlainIxT (b : Expr) : Prop := ∀ o i, subscripted b false o i = operate [o, i] (getItem o i)

theorem vals1 {x : V} {us : List Value} (r : Vals [x] us) : ∃ u, us = [u] ∧ RelV x u := by
  cases r with
  | cons r1 r2 => cases r2; exact ⟨_, rfl, r1⟩
theorem vals2 {x y : V} {us : List Value} (r : Vals [x, y] us) : ∃ u w', us = [u, w'] ∧ RelV x u ∧ RelV y w' := by
  cases r with
  | cons r1 r2 =>
    cases r2 with
    | cons r3 r4 => cases r4; exact ⟨_, _, rfl, r1, r3⟩
theorem call_str_int : CallR X (.type "str") (fun xs H Q => ∃ i, xs = [.int i] ∧ i.natAbs.log2 < 1920 ∧ Q (.str (toString i)) H) := by
  intro pins s σ H xs us Q I r h
  obtain ⟨i, rfl, hz, q⟩ := h
  obtain ⟨u, rfl, t, rfl⟩ := vals1 r
  exact PySem.P.str_of_int hz ⟨.str _, H, I.tok _, ⟨_, rfl⟩, q⟩
theorem call_ord : CallR X (.builtin "ord") (fun xs H Q => ∃ x, xs = [.str x] ∧ x.length = 1 ∧ Q (.int (x.cps.getD 0 0 : Nat)) H) := by
  intro pins s σ H xs us Q I r h
  obtain ⟨x, rfl, hz, q⟩ := h
  obtain ⟨u, rfl, t, rfl⟩ := vals1 r
  exact ord_of_one hz ⟨.int _, H, I.tok _, ⟨_, rfl⟩, q⟩
def LenV (K : PySem.W.Frag) (x : V) (H : Hp) (n : Nat) : Prop :=
  match x with
  | .str y => y.length ≤ sizeLine ∧ n = y.length
  | .byt y => y.size ≤ sizeLine ∧ n = y.size
  | .ref p => (∃ xs, SqL K H p xs ∧ n = xs.length) ∨ ∃ xs, SqT K H p xs ∧ n = xs.length
  | _ => False
end
end L2

namespace L2
open PySem PySem.Spec PyProof.Rows


structure ObjM (h : Heap) (x dx C : Addr) (mA : Str → Option Value) : Prop where
  obj : h.get? x = some (PySem.W.instObj C dx)
  ns : h.Ns1 dx mA
  ne : dx ≠ x

theorem lookIn_ns {h : Heap} {dx : Addr} {mA : Str → Option Value} (n : h.Ns1 dx mA) : ∃ od, h.get? dx = some od ∧ ∀ name, PySem.W.lookIn name od = some (mA name) := by
  obtain ⟨o, es, ep, ho, hd, hk, _, hm⟩ := n
  refine ⟨o, ho, fun name => ?_⟩
  have e := hm name
  unfold nsFind findBy at e
  rw [← Array.find?_toList] at e
  unfold PySem.W.lookIn
  rw [hd]
  dsimp only
  split
  · rename_i y q
    rw [q] at e
    exact congrArg some e
  · rename_i q
    rw [q] at e
    have a : es.toList.any (·.refKey) = false := by
      rw [List.any_eq_false]
      intro y hy
      obtain ⟨z, t, hkey⟩ := hk y (Array.mem_toList_iff.mp hy)
      simp [DictEntry.refKey, hkey]
    have a' : ¬ es.toList.any (·.refKey) = true := by rw [a]; exact Bool.false_ne_true
    rw [if_neg a']
    exact congrArg some e

theorem ObjM.look {h : Heap} {x dx C : Addr} {mA : Str → Option Value} (I : ObjM h x dx C mA) : ∃ od, PySem.W.InstAt h x (PySem.W.instObj C dx) C (some od) ∧ ∀ name, PySem.W.lookIn name od = some (mA name) :=
  let ⟨od, ho, hl⟩ := lookIn_ns I.ns
  ⟨od, ⟨I.obj, rfl, rfl, ho⟩, hl⟩

section
variable {prog : Program} {w : World} {A : Around} {E : Value → Shared → Prop} {s : Shared} {K : PySem.W.Frag} {x dx C f : Addr} {mA : Str → Option Value} {name : Str} {v : Value}

end


def putF (f : Str) (v : V) : List (Str × V) → List (Str × V)
  | [] => [(f, v)]
  | (g, x) :: r => if g = f then (g, v) :: r else (g, x) :: putF f v r
theorem RelO.none_of {o : Option Value} (r : RelO none o) : o = none := by
  cases o with
  | none => rfl
  | some u => exact (show False from r).elim
section
variable {P : Program} {w : World} {H H' : Hp} {h h' : Heap} {a C dx : Addr} {fs fs' : List (Str × V)}
theorem ins_get (hok : HOk P w H h) (e : H a = some (.ins C dx fs)) : ∃ mA, ObjM h a dx C mA ∧ (∀ f, RelO (fs.lookup f) (mA f)) ∧ PySem.Within mA (fs.map (·.1)) ∧ fs.length ≤ 1000 ∧ H dx = some (.own a) := by
  obtain ⟨d, z, ne, ob, mA, n, r, q⟩ := (show ObjOk P w H h a (.ins C dx fs) from hok a _ e)
  exact ⟨mA, ⟨ob, n, ne⟩, r, q, z, d⟩
end


structure Cls (K : PySem.W.Frag) (C : Addr) : Prop where
  pg : PySem.W.plainGet K C Str.empty = true
  hd : PySem.W.hasDictIn K C = true
  po : PySem.W.plainOver K C = true
  sa : PySem.W.findIn K (.ref C) "__setattr__" = some (some (.builtin "object.__setattr__"))
theorem Cls.get {K : PySem.W.Frag} {C : Addr} (c : Cls K C) (f : Str) : PySem.W.plainGet K C f = true := c.pg

def NoAttr (K : PySem.W.Frag) (C : Addr) (f : Str) : Prop := PySem.W.findIn K (.ref C) f = some none
structure Con (K : PySem.W.Frag) (C : Addr) (f : Str) (v : V) (u : Value) : Prop where
  at_ : PySem.W.findIn K (.ref C) f = some (some u)
  rel : RelV v u
  get : PySem.W.specialIn K u "__get__" = some none
  cp : PySem.W.copiedNames.contains f = false

structure Meth (K : PySem.W.Frag) (C : Addr) (m : Str) (f : Addr) : Prop where
  at_ : PySem.W.findIn K (.ref C) m = some (some (.ref f))
  fn : PySem.W.isFn K (.ref f) = true
  kp : PySem.W.keepIn K (.ref f) = true

section
variable {X : Cx} {pins : List (Addr × Obj)} {σ : St} {H : Hp} {s : Shared} {a C dx : Addr} {fs : List (Str × V)} {f : Str} {v : V} {A : Around} {E : Value → Shared → Prop}

theorem Inv.made (I : Inv X pins σ H s) : Inv X pins σ (upd (upd H s.heap.objs.size (.own (s.heap.objs.size + 1))) (s.heap.objs.size + 1) (.ins C s.heap.objs.size []))
    { s with heap := (s.heap.push PySem.W.emptyDict).push (PySem.W.instObj C s.heap.objs.size) } := by
  have e1 : (s.heap.push PySem.W.emptyDict).get? s.heap.objs.size = some PySem.W.emptyDict := Heap.get?_push_size s.heap rfl
  have e2 : ((s.heap.push PySem.W.emptyDict).push (PySem.W.instObj C s.heap.objs.size)).get? (s.heap.objs.size + 1) = some (PySem.W.instObj C s.heap.objs.size) := by
    have := Heap.get?_push_size (s.heap.push PySem.W.emptyDict) (o := PySem.W.instObj C s.heap.objs.size) rfl
    rwa [Heap.size_push] at this
  have e3 : (s.heap.push PySem.W.emptyDict).Ns s.heap.objs.size (fun _ => none) := ⟨PySem.W.emptyDict, #[], _, e1, rfl, (fun e he => absurd he (by simp)), fun _ => rfl⟩
  have I1 := I.laid (a := s.heap.objs.size) (o := .own (s.heap.objs.size + 1)) (h' := s.heap.push PySem.W.emptyDict) (t' := s.toks) (fun b u q => Heap.get?_push_of_some _ q) (Nat.le_refl _) ⟨_, e1⟩
  refine I1.laid (a := s.heap.objs.size + 1) (o := .ins C s.heap.objs.size []) (t' := s.toks) (fun b u q => Heap.get?_push_of_some _ q) (Nat.le_of_eq (Heap.size_push _ _)) ?_
  have ne : s.heap.objs.size ≠ s.heap.objs.size + 1 := Nat.ne_of_lt (Nat.lt_succ_self _)
  refine ⟨by rw [upd_ne ne, upd_same], Nat.zero_le _, ne, e2, fun _ => none, (Heap.Ns1.of_empty e3).at fun o q => Heap.get?_push_of_some _ q, fun _ => True.intro, fun y hy => absurd rfl hy⟩


end



def tFld (K : PySem.W.Frag) (ta : TE) (f : Str) : TE := fun σ H Q => ta σ H fun x H1 => ∃ a C dx fs v, x = .ref a ∧ H1 a = some (.ins C dx fs) ∧ Cls K C ∧ NoAttr K C f ∧ fs.lookup f = some v ∧ Q v H1

def tCon (K : PySem.W.Frag) (ta : TE) (f : Str) : TE := fun σ H Q => ta σ H fun x H1 => ∃ a C dx fs v u, x = .ref a ∧ H1 a = some (.ins C dx fs) ∧ Cls K C ∧ Con K C f v u ∧ fs.lookup f = none ∧ Q v H1

def sFld (K : PySem.W.Frag) (ta tv : TE) (f : Str) : TS := fun D σ H => tv σ H fun y H1 => ta σ H1 fun x H2 => ∃ a C dx fs, x = .ref a ∧ H2 a = some (.ins C dx fs) ∧ Cls K C ∧ NoAttr K C f ∧ fs.length < 1000 ∧
  D.nx σ (upd H2 a (.ins C dx (putF f y fs)))

def InOp (X : Cx) (op : Operator) (rd : V → V → Hp → VK → Prop) : Prop :=
  ∀ (pins : List (Addr × Obj)) (s : Shared) (σ : St) (H : Hp) (x y : V) (u v : Value) (Q : VK), Inv X pins σ H s → RelV x u → RelV y v → rd x y H Q → wpAny (model X.prog X.w) X.A (inplaceOp op u v) (EP X pins σ Q) X.xe s

def sFldAug (K : PySem.W.Frag) (ta tv : TE) (rd : V → V → Hp → VK → Prop) (f : Str) : TS := fun D σ H => ta σ H fun x H1 => ∃ a C dx fs v, x = .ref a ∧ H1 a = some (.ins C dx fs) ∧ Cls K C ∧ NoAttr K C f ∧ fs.lookup f = some v ∧
  tv σ H1 fun y H2 => rd v y H2 fun z H3 => ∃ dx' fs', H3 a = some (.ins C dx' fs') ∧ fs'.length < 1000 ∧ D.nx σ (upd H3 a (.ins C dx' (putF f z fs')))

section
variable {X : Cx} {o e value : Expr} {f : Str} {pos pos' tpos : Pos} {ta tv : TE}
def rAdd : V → V → Hp → VK → Prop := fun x y H Q => ∃ i j, x = .int i ∧ y = .int j ∧ Q (.int (i + j)) H
def rSub : V → V → Hp → VK → Prop := fun x y H Q => ∃ i j, x = .int i ∧ y = .int j ∧ Q (.int (i - j)) H
end


section
variable {X : Cx} {pins : List (Addr × Obj)} {σ : St} {H : Hp} {s : Shared} {A : Around} {E : Value → Shared → Prop} {Q : Value → Shared → Prop} {c : Value} {b : Bool}

inductive TyOf (K : PySem.W.Frag) (H : Hp) : V → Value → Prop where
  | non : TyOf K H .non (.type "NoneType")
  | bl (x : Bool) : TyOf K H (.bl x) (.type "bool")
  | int (i : Int) : TyOf K H (.int i) (.type "int")
  | str (x : Str) : TyOf K H (.str x) (.type "str")
  | flt (x : UInt64) : TyOf K H (.flt x) (.type "float")
  | lst {a : Addr} {xs : List V} (e : H a = some (.lst xs)) : TyOf K H (.ref a) (.type "list")
  | frz {a : Addr} {o : Obj} {xs : List V} (e : H a = some (.frz o (.lst xs))) : TyOf K H (.ref a) (.type "list")
  | tup {a : Addr} {xs : List V} (e : H a = some (.tup xs)) : TyOf K H (.ref a) (.type "tuple")
  | dK {a : Addr} {kvs : List (Key × V)} (e : H a = some (.dK kvs)) : TyOf K H (.ref a) (.type "dict")
  | dT {a : Addr} {kvs : List (List Key × V)} (e : H a = some (.dT kvs)) : TyOf K H (.ref a) (.type "dict")
  | ins {a C dx : Addr} {fs : List (Str × V)} (e : H a = some (.ins C dx fs)) (cl : Cls K C) (ha : PySem.W.findIn K (.ref C) "__class__" = some (some (.builtin "object.__class__")))
      (hn : PySem.W.specialIn K (.builtin "object.__class__") "__get__" = some (some (.builtin "getset_descriptor.__get__"))) (htk : PySem.W.takesIn K (.builtin "object.__class__") = some true)
      (hm : PySem.W.mroIn K C (.type "object") = some true) : TyOf K H (.ref a) (.ref C)

theorem isinst_ok {x : V} {u t : Value} (I : Inv X pins σ H s) (rx : RelV x u) (ty : TyOf X.K H x t) (e : PySem.W.kitOne X.K t c = some b) (h : ∀ tk, Q (.bool b) { s with toks := tk }) :
    wpAny (model X.prog X.w) A (call (.builtin "isinstance") [u, c]) Q E s := by
  cases ty with
  | non => cases (show u = Value.none from rx); exact PySem.W.kia_one PySem.W.kitx_none I.kIn True.intro e (fun z => nomatch z) h
  | bl y => cases (show u = Value.bool y from rx); exact PySem.W.kia_one PySem.W.kitx_bool I.kIn True.intro e (fun z => nomatch z) h
  | int i => obtain ⟨t, q⟩ := (show ∃ t, u = Value.int i t from rx); cases q; exact PySem.W.kia_one PySem.W.kitx_int I.kIn True.intro e (fun z => nomatch z) h
  | str y => obtain ⟨t, q⟩ := (show ∃ t, u = Value.str y t from rx); cases q; exact PySem.W.kia_one PySem.W.kitx_str I.kIn True.intro e (fun z => nomatch z) h
  | flt y => obtain ⟨t, q⟩ := (show ∃ t, u = Value.float y t from rx); cases q; exact PySem.W.kia_one PySem.W.kitx_float I.kIn True.intro e (fun z => nomatch z) h
  | @lst a xs ea =>
    cases (show u = Value.ref a from rx)
    obtain ⟨_, _, n, _, h1⟩ := (show ObjOk X.prog X.w H s.heap a (.lst xs) from I.hok a _ ea)
    exact PySem.W.kia_one PySem.W.kitx_list I.kIn ⟨_, h1, rfl⟩ e (fun z => nomatch z) h
  | @frz a ob xs ea =>
    cases (show u = Value.ref a from rx)
    obtain ⟨_, _, _, n, _, h1⟩ := (show ObjOk X.prog X.w H s.heap a (.frz ob (.lst xs)) from I.hok a _ ea)
    exact PySem.W.kia_one PySem.W.kitx_list I.kIn ⟨_, h1, rfl⟩ e (fun z => nomatch z) h
  | @tup a xs ea =>
    cases (show u = Value.ref a from rx)
    obtain ⟨_, _, _, p⟩ := (show ObjOk X.prog X.w H s.heap a (.tup xs) from I.hok a _ ea)
    obtain ⟨o, h1, h2, _⟩ := p
    exact PySem.W.kia_one PySem.W.kitx_tuple I.kIn ⟨o, h1, h2⟩ e (fun z => nomatch z) h
  | @dK a kvs ea =>
    cases (show u = Value.ref a from rx)
    obtain ⟨_, _, vs, _, p⟩ := (show ObjOk X.prog X.w H s.heap a (.dK kvs) from I.hok a _ ea)
    obtain ⟨o, es, ep, h1, h2, _⟩ := p
    exact PySem.W.kia_one PySem.W.kitx_dict I.kIn ⟨o, h1, h2.1⟩ e (fun z => nomatch z) h
  | @dT a kvs ea =>
    cases (show u = Value.ref a from rx)
    obtain ⟨_, _, xs, _, o, es, ep, h1, h2, _⟩ := (show ObjOk X.prog X.w H s.heap a (.dT kvs) from I.hok a _ ea)
    exact PySem.W.kia_one PySem.W.kitx_dict I.kIn ⟨o, h1, h2.1⟩ e (fun z => nomatch z) h
  | @ins a C dx fs ea cl ha hn htk hm =>
    cases (show u = Value.ref a from rx)
    obtain ⟨mA, O, _⟩ := ins_get I.hok ea
    obtain ⟨od, J, _⟩ := O.look
    exact PySem.W.kia_one (PySem.W.kitx_own (cl.get _) cl.hd ha hn htk hm) I.kIn J e (fun z => nomatch z) h
end
end L2

namespace L2
open PySem PySem.Spec PyProof.Rows


structure Room (k : Nat) (A : Around) : Prop where
  hd : A.handled = none
  dp : A.depth + 3 * k + 5 < recursionLimit
  un : A.units + 16 * k + 200 < cLine
theorem Room.mono {j k : Nat} {A : Around} (r : Room k A) (h : j ≤ k) : Room j A := ⟨r.hd, by have := r.dp; omega, by have := r.un; omega⟩
theorem Room.deeper {k : Nat} {A : Around} (r : Room (k + 1) A) (env : Env) : Room k (A.deeper env) :=
  ⟨r.hd, by have := r.dp; show A.depth + 1 + 3 * k + 5 < _; omega, by have := r.un; show A.units + 3 + 16 * k + 200 < _; omega⟩
theorem Room.in1 {k : Nat} {A : Around} (r : Room (k + 1) A) : Room k A.in1 :=
  ⟨r.hd, by have := r.dp; show A.depth + 3 * k + 5 < _; omega, by have := r.un; show A.units + 1 + 16 * k + 200 < _; omega⟩
theorem Room.depth {k : Nat} {A : Around} (r : Room k A) : A.depth < recursionLimit := by have := r.dp; omega
theorem Room.units {k : Nat} {A : Around} (r : Room k A) : A.units + 64 < cLine := by have := r.un; omega
def tNil : TA := fun _ H Q => Q [] H
def tCons (ta : TE) (tr : TA) : TA := fun σ H Q => ta σ H fun x H1 => tr σ H1 fun xs H2 => Q (x :: xs) H2
section
variable {X : Cx} {e : Expr} {es : List Expr} {te : TE} {t : TA} {pos : Pos}
theorem pa_nil : PA X [] tNil := fun _ _ _ _ H Q I h => Calls.spliced_nil ⟨[], H, I, .nil, h⟩
theorem pa_cons (ha : PE X e te) (hr : PA X es t) (hs : starEach (e :: es) X.env = (false, eval e X.env) :: starEach es X.env := by rfl) : PA X (e :: es) (tCons te t) := by
  intro pos pins s σ H Q I h
  rw [hs]
  show wpAny _ _ (spliced ((false, eval e X.env) :: backTo pos (starEach es X.env))) _ _ s
  refine Calls.spliced_cons (thn (ha pins s σ H _ I h) fun u s1 ⟨x, H1, I1, r1, q1⟩ => ?_)
  exact thn (hr pos pins s1 σ H1 _ I1 q1) fun us s2 ⟨xs, H2, I2, r2, q2⟩ => ⟨x :: xs, H2, I2, .cons r1 r2, q2⟩


def tTup (t : TA) : TE := fun σ H Q => t σ H fun xs H1 => xs.length ≤ sizeLine ∧ ∀ p, H1 p = none → Q (.ref p) (upd H1 p (.tup xs))
def tLst (t : TA) : TE := fun σ H Q => t σ H fun xs H1 => xs.length ≤ sizeLine ∧ ∀ p, H1 p = none → Q (.ref p) (upd H1 p (.lst xs))
theorem pe_tup {x1} (h : PA X es t) : PE X (.Tuple es x1 pos) (tTup t) := by
  intro pins s σ H Q I hq
  refine wpAny_Tuple_spliced (thn (h pos pins s σ H _ I hq) fun us s1 ⟨xs, H1, I1, r, z, q⟩ => ⟨by rw [← r.length]; exact z, ?_⟩)
  have hf : H1 s1.heap.objs.size = none := I1.hok.fresh (Nat.le_refl _)
  refine ⟨.ref s1.heap.objs.size, upd H1 s1.heap.objs.size (.tup xs), I1.laid (t' := s1.toks) (fun b u e => Heap.get?_push_of_some _ e) (Nat.le_refl _) ?_, rfl, q _ hf⟩
  exact ⟨z, us, r, ⟨_, Heap.get?_push_size _ rfl, rfl, _, rfl⟩⟩
theorem pe_lst (h : PA X es t) : PE X (.List es pos) (tLst t) := by
  intro pins s σ H Q I hq
  refine wpAny_List_spliced (thn (h pos pins s σ H _ I hq) fun us s1 ⟨xs, H1, I1, r, z, q⟩ => ⟨by rw [← r.length]; exact z, ?_⟩)
  have hf : H1 s1.heap.objs.size = none := I1.hok.fresh (Nat.le_refl _)
  refine ⟨.ref s1.heap.objs.size, upd H1 s1.heap.objs.size (.lst xs), I1.laid (t' := s1.toks) (fun b u e => Heap.get?_push_of_some _ e) (Nat.le_refl _) ?_, rfl, q _ hf⟩
  exact ⟨z, us, 0, r, Heap.get?_push_size _ rfl⟩
end



abbrev Sp := List V → Hp → VK → XK → Prop

abbrev CXT := List Env → Hp → Shared → XK → Value → Shared → Prop


structure Env0 (P : Program) (w : World) (K : PySem.W.Frag) (mg : Str → Option Value) (base : Heap) (A : Around) (outer : List Env) (s : Shared) (H : Hp) : Prop where
  frames : A.frames = some outer
  mod : Mod K mg base
  bs : ∀ b o, base.get? b = some o → s.heap.get? b = some o ∧ H b = none
  bsz : base.objs.size ≤ s.heap.objs.size
  funs : s.heap.FunFrames base outer
  frf : ∀ b ∈ frs outer, H b = none
  hok : HOk P w H s.heap
  bare : AllBare s.gens

def CE (outer : List Env) (P : Program) (w : World) (H : Hp) (s : Shared) (Q : VK) (u : Value) (s' : Shared) : Prop :=
  ∃ v H', s'.os = s.os ∧ AllBare s'.gens ∧ Un (frs outer) [] H H' s.heap s'.heap ∧ HOk P w H' s'.heap ∧ RelV v u ∧ Q v H'
def CR (CX : CXT) (outer : List Env) (P : Program) (w : World) (H : Hp) (s : Shared) (Q : VK) (E : XK) (r : Result) (s' : Shared) : Prop :=
  match r with
  | .ok (.ret u) => CE outer P w H s Q u s'
  | .ok _ => False
  | .error e => CX outer H s E e s'
structure FnOk (P : Program) (w : World) (K : PySem.W.Frag) (mg : Str → Option Value) (base : Heap) (CX : CXT) (k : Nat) (f : Addr) (fd : FuncData) (ps : List Str) (sp : Sp) : Prop where
  len : ∀ vs H Q E, sp vs H Q E → vs.length = ps.length
  run : ∀ (A : Around) (outer : List Env) (s : Shared) (H : Hp) (args : Args) (us : List Value) (vs : List V) (Q : VK) (E : XK), Room k A → Env0 P w K mg base A outer s H → BindsTo s fd args (ps.zip us) → Vals vs us → sp vs H Q E →
    codeAny (model P w) A (.call (.ref f) args) (CR CX outer P w H s Q E) s
theorem FnOk.mono {P : Program} {w : World} {K : PySem.W.Frag} {mg : Str → Option Value} {base : Heap} {CX : CXT} {j k : Nat} {f : Addr} {fd : FuncData} {ps : List Str} {sp : Sp} (F : FnOk P w K mg base CX j f fd ps sp) (h : j ≤ k) :
    FnOk P w K mg base CX k f fd ps sp := ⟨F.len, fun A outer s H args us vs Q E hr => F.run A outer s H args us vs Q E (hr.mono h)⟩

theorem Env0.in1 {P : Program} {w : World} {K : PySem.W.Frag} {mg : Str → Option Value} {base : Heap} {A : Around} {outer : List Env} {s : Shared} {H : Hp} (e : Env0 P w K mg base A outer s H) :
    Env0 P w K mg base A.in1 outer s H := ⟨e.frames, e.mod, e.bs, e.bsz, e.funs, e.frf, e.hok, e.bare⟩

section
variable {X : Cx} {pins : List (Addr × Obj)} {σ : St} {H : Hp} {s s' : Shared}

theorem Inv.env0 (I : Inv X pins σ H s) : Env0 X.prog X.w X.K X.mg X.base X.A X.stack s H :=
  ⟨I.ok.frames, I.ok.mod, I.bs, Nat.le_trans I.ok.bsz I.sz, I.stack, I.stkFree, I.hok, I.bare⟩

theorem Inv.after {Q : VK} {u : Value} (I : Inv X pins σ H s) (h : CE X.stack X.prog X.w H s Q u s') : EP X pins σ Q u s' := by
  obtain ⟨v, H', os, bare, un, hok, r, q⟩ := h
  obtain ⟨hh, g, d, t, os'⟩ := s'
  obtain rfl : os' = s.os := os
  exact ⟨v, H', I.call (h' := hh) (g' := g) (d' := d) (t' := t) (ch := []) un hok bare (fun b z => absurd z (by simp)), r, q⟩
end



def tCall (sp : Sp) (dvs : List V) (E : XK) (t : TA) : TE := fun σ H Q => t σ H fun vs H1 => sp (vs ++ dvs) H1 Q E

def tMeth (C : Addr) (m : Str) (sp : Sp) (dvs : List V) (E : XK) (ta : TE) (t : TA) : TE := fun σ H Q => ta σ H fun x H1 => ∃ a dx fs, x = .ref a ∧ H1 a = some (.ins C dx fs) ∧ fs.lookup m = none ∧
  t σ H1 fun vs H2 => sp (x :: (vs ++ dvs)) H2 Q E

def tMake (C : Addr) (sp : Sp) (dvs : List V) (E : XK) (t : TA) : TE := fun σ H Q => t σ H fun vs H1 => ∀ x dx, H1 x = none → H1 dx = none → dx ≠ x →
  sp (.ref x :: (vs ++ dvs)) (upd (upd H1 dx (.own x)) x (.ins C dx [])) (fun v H2 => v = .non ∧ Q (.ref x) H2) E


def Binds (K : PySem.W.Frag) (fd : FuncData) (ps : List Str) (ds : List Value) : Prop :=
  ∀ (s : Shared) (us : List Value), K.In s.heap → (us ++ ds).length = ps.length → BindsTo s fd ⟨us, []⟩ (ps.zip (us ++ ds))

theorem Binds.all {K : PySem.W.Frag} {fd : FuncData} {ps : List Str} (h : ∀ us : List Value, us.length = ps.length → bindArgs fd ⟨us, []⟩ = pure (ps.zip us)) : Binds K fd ps [] := fun s us _ hl => by
  rw [List.append_nil] at hl ⊢
  exact .of_eq (h us hl)


def Passes (CX : CXT) (X : Cx) (E : XK) : Prop := ∀ (pins : List (Addr × Obj)) (σ : St) (H : Hp) (s : Shared) (e : Value) (s' : Shared), Inv X pins σ H s → CX X.stack H s E e s' → X.xe e s'

section
variable {X : Cx} {CX : CXT} {k : Nat} {f C : Addr} {fd : FuncData} {ps : List Str} {sp : Sp} {dvs : List V} {ds : List Value} {E : XK} {x m : Str} {p pos apos : Pos} {e o : Expr} {es : List Expr} {ta : TE} {t : TA}


theorem run_fn {pins : List (Addr × Obj)} {σ : St} {H : Hp} {s : Shared} {Q : VK} {us : List Value} {vs : List V} (F : FnOk X.prog X.w X.K X.mg X.base CX k f fd ps sp) (hr : Room k X.A) (hb : Binds X.K fd ps ds) (hd : Vals dvs ds) (hx : Passes CX X E)
    (I : Inv X pins σ H s) (r : Vals vs us) (h : sp (vs ++ dvs) H Q E) : wpAny (model X.prog X.w) X.A (call (.ref f) us) (EP X pins σ Q) X.xe s := by
  have r2 : Vals (vs ++ dvs) (us ++ ds) := r.append hd
  have hl : (us ++ ds).length = ps.length := by rw [← r2.length]; exact F.len _ _ _ _ h
  refine wpAny_call (codeAny_mono (F.run X.A X.stack s H ⟨us, []⟩ (us ++ ds) (vs ++ dvs) Q E hr I.env0 (hb s us I.kIn hl) r2 h) fun r s' hq => ?_)
  cases r with
  | error e => exact hx pins σ H s e s' I hq
  | ok fl =>
    cases fl with
    | ret u => exact I.after hq
    | next => exact False.elim hq
    | brk => exact False.elim hq
    | cont => exact False.elim hq

theorem pe_call (F : FnOk X.prog X.w X.K X.mg X.base CX k f fd ps sp) (hr : Room k X.A) (hg : Gl X x) (hm : X.mg x = some (.ref f)) (hk : PySem.W.keepIn X.K (.ref f) = true) (hb : Binds X.K fd ps ds) (hd : Vals dvs ds) (hx : Passes CX X E)
    (ha : PA X (e :: es) t) (hdb : (x == ("__debug__" : Str)) = false := by decide) (he : starEach (e :: es) X.env = (false, eval e X.env) :: starEach es X.env := by rfl) (hpl : (backTo pos (starEach es X.env)).any (·.1) = false := by rfl) :
    PE X (.Call (.Name x p) (e :: es) [] pos) (tCall sp dvs E t) := by
  intro pins s σ H Q I h
  refine wpAny_Call_Name_kw (ld_glob I hg hm ?_ hdb)
  refine PySem.W.callWith_K (h₀ := X.base) I.ok.mod.kin hk (thn (ha pos pins s σ H _ I h) fun us s1 ⟨vs, H1, I1, r, q⟩ => ⟨I1.kIn, ?_⟩) he hpl
  exact run_fn F hr hb hd hx I1 r q
structure Mk (K : PySem.W.Frag) (C f : Addr) : Prop where
  makes : PySem.W.makesIn K C = true
  init : PySem.W.findIn K (.ref C) "__init__" = some (some (.ref f))
  fn : PySem.W.isFn K (.ref f) = true
  kp : PySem.W.keepIn K (.ref C) = true

end



def PK (X : Cx) (kws : List Keyword) (t : TA) : Prop :=
  ∀ (pos : Pos) (pins : List (Addr × Obj)) (s : Shared) (σ : St) (H : Hp) (Q : List V → Hp → Prop), Inv X pins σ H s → t σ H Q → wpAny (model X.prog X.w) X.A (evalAll ((backToKw pos (keywordEach kws X.env)).map (·.2))) (AP X pins σ Q) X.xe s
section
variable {X : Cx} {CX : CXT} {k : Nat} {f C : Addr} {fd : FuncData} {ps ks : List Str} {sp : Sp} {E : XK} {x m : Str} {p pos apos kpos : Pos} {e o : Expr} {es : List Expr} {kws : List Keyword} {te ta : TE} {t tk : TA} {nm : Option Str}
structure KBinds (K : PySem.W.Frag) (fd : FuncData) (ps ks : List Str) (g : List Value → List Value → List Value) (gV : List V → List V → List V) : Prop where
  to : ∀ (s : Shared) (us ws : List Value), K.In s.heap → (g us ws).length = ps.length → BindsTo s fd ⟨us, ks.zip ws⟩ (ps.zip (g us ws))
  rel : ∀ {vs : List V} {us : List Value} {zs : List V} {ws : List Value}, Vals vs us → Vals zs ws → Vals (gV vs zs) (g us ws)
def tCallK (sp : Sp) (gV : List V → List V → List V) (E : XK) (t tk : TA) : TE := fun σ H Q => t σ H fun vs H1 => tk σ H1 fun zs H2 => sp (gV vs zs) H2 Q E
variable {g : List Value → List Value → List Value} {gV : List V → List V → List V}
end



structure FnScope (N P : List Str) (sc : Scope) : Prop where
  kind : sc.kind = .function
  co : sc.isCoroutine = false
  gen : sc.isGenerator = false
  nd : N.Nodup
  pre : N.take P.length = P
  par : ∀ x ∈ P, sc.names.lookup x = some .local ∨ sc.names.lookup x = some .cell
  nofree : ∀ y ∈ sc.names, y.2 ≠ .free

theorem bindL_out {kindOf : Str → Option NameKind} {x : Str} : ∀ {binds : List (Str × Value)} {m : Str → Option Value}, (∀ v, (x, v) ∉ binds) → bindL kindOf binds m x = m x
  | [], _, _ => rfl
  | (n, v) :: r, m, h => by
    unfold bindL
    rw [bindL_out fun w hw => h w (List.mem_cons_of_mem _ hw)]
    split
    · have : x ≠ n := by rintro rfl; exact h v List.mem_cons_self
      simp [this]
    · rfl
theorem bindC_out {kindOf : Str → Option NameKind} {x : Str} : ∀ {binds : List (Str × Value)} {m : Str → Option Value}, (∀ v, (x, v) ∉ binds) → bindC kindOf binds m x = m x
  | [], _, _ => rfl
  | (n, v) :: r, m, h => by
    unfold bindC
    rw [bindC_out fun w hw => h w (List.mem_cons_of_mem _ hw)]
    split
    · rfl
    · have : x ≠ n := by rintro rfl; exact h v List.mem_cons_self
      simp [this]
theorem bindL_get {kindOf : Str → Option NameKind} {x : Str} {v : Value} : ∀ {P : List Str} {vs : List Value} {i : Nat} {m : Str → Option Value}, P.Nodup → P[i]? = some x → vs[i]? = some v → kindOf x = some .local →
    bindL kindOf (P.zip vs) m x = some v
  | [], _, _, _, _, h, _, _ => by simp at h
  | _ :: _, [], _, _, _, _, h, _ => by simp at h
  | p :: P, w :: vs, 0, m, nd, h1, h2, hk => by
    simp at h1 h2; subst h1; subst h2
    show bindL kindOf ((p, w) :: P.zip vs) m p = _
    unfold bindL
    rw [bindL_out fun v hv => (List.nodup_cons.mp nd).1 (List.of_mem_zip hv).1, if_pos hk]
    simp
  | p :: P, w :: vs, i + 1, m, nd, h1, h2, hk => by
    show bindL kindOf ((p, w) :: P.zip vs) m x = _
    unfold bindL
    exact bindL_get (i := i) (List.nodup_cons.mp nd).2 (by simpa using h1) (by simpa using h2) hk
theorem bindC_get {kindOf : Str → Option NameKind} {x : Str} {v : Value} : ∀ {P : List Str} {vs : List Value} {i : Nat} {m : Str → Option Value}, P.Nodup → P[i]? = some x → vs[i]? = some v → kindOf x ≠ some .local →
    bindC kindOf (P.zip vs) m x = some v
  | [], _, _, _, _, h, _, _ => by simp at h
  | _ :: _, [], _, _, _, _, h, _ => by simp at h
  | p :: P, w :: vs, 0, m, nd, h1, h2, hk => by
    simp at h1 h2; subst h1; subst h2
    show bindC kindOf ((p, w) :: P.zip vs) m p = _
    unfold bindC
    rw [bindC_out fun v hv => (List.nodup_cons.mp nd).1 (List.of_mem_zip hv).1, if_neg hk]
    simp
  | p :: P, w :: vs, i + 1, m, nd, h1, h2, hk => by
    show bindC kindOf ((p, w) :: P.zip vs) m x = _
    unfold bindC
    exact bindC_get (i := i) (List.nodup_cons.mp nd).2 (by simpa using h1) (by simpa using h2) hk


def start (N : List Str) (vs : List V) : St := vs.map some ++ List.replicate (N.length - vs.length) none


def cxOf (CX : CXT) (P : Program) (w : World) (K : PySem.W.Frag) (mg : Str → Option Value) (base : Heap) (N : List Str) (qual : Str) (scope : Scope) (f : Addr) (cd : Value) (A : Around) (outer : List Env) (s : Shared) (H : Hp) (E : XK) : Cx where
  prog := P
  w := w
  K := K
  mg := mg
  base := base
  A := A.deeper (envOfC qual scope s.heap.objs.size f cd)
  N := N
  s₀ := s
  H₀ := H
  env := envOfC qual scope s.heap.objs.size f cd
  outer := outer
  stack := envOfC qual scope s.heap.objs.size f cd :: outer
  ex := []
  calm := true
  fn := fun _ => true
  pn := []
  xe := fun e s' => wpAny (model P w) (A.deeper (envOfC qual scope s.heap.objs.size f cd)) (leaving (envOfC qual scope s.heap.objs.size f cd) e) (fun _ s'' => CX outer H s E e s'') (fun e' s'' => CX outer H s E e' s'') s'

theorem cell_has {sc : Scope} {n : Nat} {x : Str} (h : sc.names.lookup x = some .cell) : ∃ c, (cellsFrom n sc.names []).lookup x = some c := by
  have q := PySem.W.cellsFrom_some sc.names n [] (.inl h)
  exact Option.isSome_iff_exists.mp q

theorem inv_start {CX : CXT} {P : Program} {w : World} {K : PySem.W.Frag} {mg : Str → Option Value} {base : Heap} {N ps : List Str} {qual : Str} {scope : Scope} {f : Addr} {cd : Value} {A : Around} {outer : List Env} {s s1 : Shared} {H : Hp} {E : XK} {us : List Value} {vs : List V}
    (S : FnScope N ps scope) (hd : A.handled = none) (e0 : Env0 P w K mg base A outer s H) (hl : vs.length = ps.length) (r : Vals vs us)
    (x : InCallC s s.heap.objs.size (bindL (envOfC qual scope s.heap.objs.size f cd).kindOf (ps.zip us) fun _ => none) (cellsFrom (s.heap.objs.size + 1) scope.names []) (bindC (envOfC qual scope s.heap.objs.size f cd).kindOf (ps.zip us) fun _ => none) s1) :
    Inv (cxOf CX P w K mg base N qual scope f cd A outer s H E) [] (start N vs) H s1 := by
  have hpl : ps.length ≤ N.length := by have := congrArg List.length S.pre; rw [List.length_take] at this; omega
  obtain ⟨h1, tk, rfl, hk⟩ := x.done
  have noA : ∀ b : Addr, b ∉ (cxOf CX P w K mg base N qual scope f cd A outer s H E).ex := fun b z => absurd (show b ∈ ([] : List Addr) from z) (by simp)
  refine ⟨⟨e0.mod, S.kind, rfl, rfl, Nat.le_refl _, fun y z c h1 h2 => ?_, fun y hy => ?_, fun y c _ h => ?_, fun _ => hd, Around.frames_deeper e0.frames, .inr ⟨rfl, rfl⟩, fun b z => absurd z (noA b), e0.bs, e0.bsz, fun b _ _ => noA b, fun b z => absurd z (noA b), e0.funs, e0.frf⟩,
    rfl, e0.bare, Un.kept hk, ⟨_, x.toInCall.ns, fun i y v h1 h2 h3 => ?_⟩, fun y c h => ⟨_, x.cell y c h⟩, e0.hok.fresh (Nat.le_refl _), fun y c h => ?_, fun p hp => absurd (show p ∈ ([] : List (Addr × Obj)) from hp) (by simp), e0.hok.kept hk, ?_⟩
  · exact name_of_addr x.apart (PySem.mem_of_lookup h1) (PySem.mem_of_lookup h2)
  · have hy : scope.names.lookup y = some .cell ∨ scope.names.lookup y = some .free := hy
    rcases hy with hy | hy
    · exact cell_has hy
    · exact absurd rfl (S.nofree _ (PySem.mem_of_lookup hy))
  · exact Nat.le_of_lt (x.above y c (PySem.mem_of_lookup h))
  · have hi : i < vs.length := by
      unfold start at h2
      by_cases hi : i < vs.length
      · exact hi
      · rw [List.getElem?_append_right (by simpa using hi)] at h2
        rw [List.getElem?_replicate] at h2
        split at h2 <;> cases h2
    have ha : vs[i]? = some v := by
      unfold start at h2
      rw [List.getElem?_append_left (by simpa using hi), List.getElem?_map] at h2
      cases e : vs[i]? with
      | none => rw [e] at h2; cases h2
      | some a => rw [e] at h2; cases h2; rfl
    obtain ⟨u, hu, rv⟩ := r.get ha
    have hp : ps[i]? = some y := by
      rw [← S.pre, List.getElem?_take_of_lt (by omega)]; exact h1
    have ndP : ps.Nodup := by rw [← S.pre]; exact S.nd.sublist (List.take_sublist _ _)
    refine ⟨u, rv, ?_⟩
    rcases S.par y (List.mem_of_getElem? hp) with k | k
    · exact .inl ⟨k, bindL_get ndP hp hu k⟩
    · obtain ⟨c, e⟩ := cell_has (n := s.heap.objs.size + 1) k
      refine .inr ⟨.inl k, c, e, ?_⟩
      have q := x.cell y c e
      rw [bindC_get ndP hp hu (by show scope.names.lookup y ≠ _; rw [k]; decide)] at q
      exact q
  · exact e0.hok.fresh (Nat.le_of_lt (x.above y c (PySem.mem_of_lookup h)))
  · unfold start
    show _ = N.length
    rw [List.length_append, List.length_map, List.length_replicate]
    omega


theorem fn_of {CX : CXT} {P : Program} {w : World} {K : PySem.W.Frag} {mg : Str → Option Value} {base : Heap} {k : Nat} {f : Addr} {name qual : Str} {params : Arguments} {body : List Stmt} {scope : Scope} {dV kV doc pm cdv ct oc : Value} {an od : Option Addr}
    {osl : Array (Option Value)} {N ps : List Str} {sp : Sp} (lk : K.lookup f = some ⟨oc, od, .func (PySem.W.fnOf name qual params body scope dV kV doc pm an cdv ct), osl⟩) (hcd : PySem.W.codeIn K cdv qual = true) (S : FnScope N ps scope)
    (len : ∀ vs H Q E, sp vs H Q E → vs.length = ps.length)
    (hbody : ∀ (A : Around) (outer : List Env) (s : Shared) (H : Hp) (vs : List V) (Q : VK) (E : XK), Room k (A.deeper (envOfC qual scope s.heap.objs.size f cdv)) → sp vs H Q E →
      ∃ t, PSs (cxOf CX P w K mg base N qual scope f cdv A outer s H E) body t ∧ t { nx := fun _ H' => Q .non H', rt := Q } (start N vs) H) :
    FnOk P w K mg base CX (k + 1) f (PySem.W.fnOf name qual params body scope dV kV doc pm an cdv ct) ps sp := by
  refine ⟨len, fun A outer s H args us vs Q E hr e0 hb r hsp => ?_⟩
  have hl := len _ _ _ _ hsp
  have KX : K.In s.heap := e0.mod.kin.keeps fun b o e => (e0.bs b o e).1
  have lim : s.heap.NoLimit := e0.mod.nolimit.keeps fun b o e => (e0.bs b o e).1
  have hkind : ∀ y ∈ ps.zip us, scope.names.lookup y.1 = some .local ∨ (scope.names.lookup y.1 = some .cell ∧ ((cellsFrom (s.heap.objs.size + 1) scope.names []).lookup y.1).isSome = true) := fun ⟨n, v⟩ hy => by
    rcases S.par n (List.of_mem_zip hy).1 with q | q
    · exact .inl q
    · exact .inr ⟨q, PySem.W.cellsFrom_some _ _ _ (.inl q)⟩
  refine codeAny_call_function hr.depth (KX _ _ lk) rfl S.co S.gen rfl (PySem.W.codeRec_of KX hcd) (hb _ _ _ _ ?_)
  refine wpAny_newFunctionEnv_cells S.kind hkind fun env he s1 x => ?_
  subst he
  refine ⟨lim.keeps x.toInCall.keep, codeAny_func ?_⟩
  obtain ⟨t, ht, hq⟩ := hbody A outer s H vs Q E (hr.deeper _) hsp
  have I : Inv (cxOf CX P w K mg base N qual scope f cdv A outer s H E) [] (start N vs) H s1 := inv_start S hr.hd e0 hl r x
  refine wpAny_mono (ht [] s1 (start N vs) H _ I hq) (fun fl s' hs => ?_) fun e s' hs => hs
  have fin : ∀ {σ' : St} {H' : Hp} {v : V} {u : Value}, Inv (cxOf CX P w K mg base N qual scope f cdv A outer s H E) [] σ' H' s' → RelV v u → Q v H' → CE outer P w H s Q u s' :=
    fun {σ' H' v u} J rv q => ⟨v, H', J.os, J.bare, J.base, J.hok, rv, q⟩
  cases fl with
  | ret u =>
    obtain ⟨v, σ', H', J, rv, q⟩ := hs
    exact fin J rv q
  | next =>
    obtain ⟨σ', H', J, q⟩ := hs
    exact fin (v := V.non) (u := Value.none) J rfl q
  | brk =>
    obtain ⟨_, _, _, q⟩ := hs
    exact False.elim q
  | cont =>
    obtain ⟨_, _, _, q⟩ := hs
    exact False.elim q
end L2

namespace L2
open PySem PySem.Spec PyProof.Rows
section
variable {X : Cx} {x : Str} {p pos : Pos} {e : Expr} {es : List Expr} {t : TA} {id T : String} {r : List V → Hp → VK → Prop}

def tCB (r : List V → Hp → VK → Prop) (t : TA) : TE := fun σ H Q => t σ H fun vs H1 => r vs H1 Q

theorem pe_callB (hc : CallR X (.builtin id) r) (hg : Gl X x) (hm : X.mg x = none) (hv : bootBuiltins x = some (.builtin id)) (ha : PA X (e :: es) t) (hn : x ≠ "__name__" := by decide) (hdb : (x == ("__debug__" : Str)) = false := by decide)
    (he : starEach (e :: es) X.env = (false, eval e X.env) :: starEach es X.env := by rfl) (hpl : (backTo pos (starEach es X.env)).any (·.1) = false := by rfl) : PE X (.Call (.Name x p) (e :: es) [] pos) (tCB r t) := by
  intro pins s σ H Q I h
  refine wpAny_Call_Name_kw (ld_blt I hg hm hv ?_ hn hdb)
  exact PyProof.Rows.callWith_builtin1 (thn (ha pos pins s σ H _ I h) fun us s1 ⟨vs, H1, I1, r1, q1⟩ => hc pins s1 σ H1 vs us Q I1 r1 q1) he hpl

theorem pe_callTy (hc : CallR X (.type T) r) (hg : Gl X x) (hm : X.mg x = none) (hv : bootBuiltins x = some (.type T)) (ha : PA X (e :: es) t) (hn : x ≠ "__name__" := by decide) (hdb : (x == ("__debug__" : Str)) = false := by decide)
    (he : starEach (e :: es) X.env = (false, eval e X.env) :: starEach es X.env := by rfl) (hpl : (backTo pos (starEach es X.env)).any (·.1) = false := by rfl) : PE X (.Call (.Name x p) (e :: es) [] pos) (tCB r t) := by
  intro pins s σ H Q I h
  refine wpAny_Call_Name_kw (ld_blt I hg hm hv ?_ hn hdb)
  exact PyProof.Rows.callWith_type1 (thn (ha pos pins s σ H _ I h) fun us s1 ⟨vs, H1, I1, r1, q1⟩ => hc pins s1 σ H1 vs us Q I1 r1 q1) he hpl

end
end L2

namespace HT
open PySem PyProof.Rows


def lexLt : List Int → List Int → Bool
  | [], [] => false
  | [], _ :: _ => true
  | _ :: _, [] => false
  | x :: xs, y :: ys => if x = y then lexLt xs ys else decide (x < y)
section
open PySem.SeqAt
open PySem.AutoSeq1 (wpAny_loadPart')
open PySem.MeetsSeq PySem.MeetsSeq2 PySem.MeetsSeq3

end

section
variable {prog : Program} {w : World} {A : Around} {E : Value → Shared → Prop} {s : Shared}

def sIx (n d : Nat) : Option Int → Nat
  | none => d
  | some v => if v < 0 then (v + (n : Int)).toNat else min v.toNat n
theorem sIx_nat (n d k : Nat) : sIx n d (some (k : Int)) = min k n := by
  show (if (k : Int) < 0 then ((k : Int) + (n : Int)).toNat else min (k : Int).toNat n) = min k n
  rw [if_neg (by omega), Int.toNat_natCast]
end
end HT

namespace L2
open PySem PySem.Spec PyProof.Rows


abbrev TO := St → Hp → (Option Int → Hp → Prop) → Prop

def PO (X : Cx) (e : Option Expr) (t : TO) : Prop :=
  ∀ (pins : List (Addr × Obj)) (s : Shared) (σ : St) (H : Hp) (Q : Option Int → Hp → Prop), Inv X pins σ H s → t σ H Q →
    wpAny (model X.prog X.w) X.A (evalPart e X.env) (fun u s' => ∃ o H', Inv X pins σ H' s' ∧ IsPart u o ∧ Q o H') X.xe s
def tNoPart : TO := fun _ H Q => Q none H
def tPart (t : TE) : TO := fun σ H Q => t σ H fun x H1 => ∃ i, x = .int i ∧ Q (some i) H1

section
variable {X : Cx} {e : Expr} {te : TE} {lo hi : Option Expr} {tl th : TO} {pos p2 : Pos}

theorem po_none : PO X none tNoPart := by
  intro pins s σ H Q I h
  rw [evalPart_none]
  exact wpAny_pure ⟨none, H, I, .none, h⟩
theorem po_some (h : PE X e te) : PO X (some e) (tPart te) := by
  intro pins s σ H Q I hw
  rw [evalPart_some]
  refine thn (h pins s σ H _ I hw) fun u s1 ⟨x, H1, I1, r1, q1⟩ => ?_
  obtain ⟨i, rfl, q⟩ := q1
  obtain ⟨t, rfl⟩ := r1
  exact ⟨some i, H1, I1, .int i t, q⟩


def SlR (X : Cx) (r : V → Option Int → Option Int → Hp → VK → Prop) : Prop :=
  ∀ (pins : List (Addr × Obj)) (s : Shared) (σ : St) (H : Hp) (x : V) (v vl vu : Value) (lo hi : Option Int) (sl : Addr) (Q : VK), Inv X pins σ H s → RelV x v → s.heap.IsSliceOf sl vl vu .none → IsPart vl lo → IsPart vu hi → r x lo hi H Q →
    ∃ T id, typeLookup (.type T) "__getitem__" = pure (some (.builtin id)) ∧ s.TypeIs v T ∧ wpAny (model X.prog X.w) X.A (getItem v (.ref sl)) (EP X pins σ Q) X.xe s
def tSl (r : V → Option Int → Option Int → Hp → VK → Prop) (te : TE) (tl th : TO) : TE := fun σ H Q => te σ H fun x H1 => tl σ H1 fun l H2 => th σ H2 fun u H3 => r x l u H3 Q

theorem pe_slice {r : V → Option Int → Option Int → Hp → VK → Prop} (hr : SlR X r) (he : PE X e te) (hl : PO X lo tl) (hu : PO X hi th) : PE X (.Subscript e (.Slice lo hi none p2) pos) (tSl r te tl th) := by
  intro pins s σ H Q I h
  refine Subscript_ (thn (he pins s σ H _ I h) fun v s1 ⟨x, H1, I1, r1, q1⟩ => ?_)
  refine wpAny_Slice (thn (hl pins s1 σ H1 _ I1 q1) fun vl s2 ⟨l, H2, I2, pl, q2⟩ => thn (hu pins s2 σ H2 _ I2 q2) fun vu s3 ⟨u, H3, I3, pu, q3⟩ => ?_)
  rw [evalPart_none]
  refine wpAny_pure ?_
  have I4 : Inv X pins σ H3 { s3 with heap := s3.heap.push { cls := .type "slice", data := .fields #[vl, vu, .none] } } := I3.kept (t' := s3.toks) fun b ob q => Heap.get?_push_of_some _ q
  obtain ⟨T, id, hT, ht, hg⟩ := hr pins { s3 with heap := s3.heap.push { cls := .type "slice", data := .fields #[vl, vu, .none] } } σ H3 x v vl vu l u s3.heap.objs.size Q I4 r1 (Heap.IsSliceOf.new ..) pl pu q3
  show wpAny (model X.prog X.w) X.A (subscriptTail e (.Slice lo hi none p2) v (.ref s3.heap.objs.size)) (EP X pins σ Q) X.xe { s3 with heap := s3.heap.push { cls := .type "slice", data := .fields #[vl, vu, .none] } }
  exact tail_any (ops := [.ref s3.heap.objs.size, v]) ht hT hg (by with_unfolding_all rfl)


def cutV (xs : List V) (lo hi : Option Int) : List V := (xs.drop (HT.sIx xs.length 0 lo)).take (HT.sIx xs.length xs.length hi - HT.sIx xs.length 0 lo)
theorem cutV_length (xs : List V) (lo hi : Option Int) : (cutV xs lo hi).length ≤ xs.length := by
  unfold cutV
  rw [List.length_take, List.length_drop]
  omega

def rSlT (K : PySem.W.Frag) : V → Option Int → Option Int → Hp → VK → Prop := fun x lo hi H Q => ∃ a xs, x = .ref a ∧ SqT K H a xs ∧
  ¬ (HT.sIx xs.length 0 lo = 0 ∧ HT.sIx xs.length xs.length hi = xs.length) ∧ ∀ p, H p = none → Q (.ref p) (upd H p (.tup (cutV xs lo hi)))
def rLtT (K : PySem.W.Frag) : R2 := fun x y H Q => ∃ a b ns ms, x = .ref a ∧ y = .ref b ∧ SqT K H a (ns.map V.int) ∧ SqT K H b (ms.map V.int) ∧ Q (.bl (HT.lexLt ns ms)) H
def rCatT (K : PySem.W.Frag) : R2 := fun x y H Q => ∃ a b xs ys, x = .ref a ∧ y = .ref b ∧ SqT K H a xs ∧ SqT K H b ys ∧ xs ≠ [] ∧ xs.length + ys.length ≤ sizeLine ∧
  (ys = [] → Q (.ref a) H) ∧ (ys ≠ [] → ∀ p, H p = none → Q (.ref p) (upd H p (.tup (xs ++ ys))))
end
end L2

namespace L2
open PySem PySem.Spec PyProof.Rows



def ixN (n : Nat) (i : Int) : Option Nat := if 0 ≤ i then (if i < n then some i.toNat else none) else if -(n : Int) ≤ i then some (i + n).toNat else none
def atI {α : Type} (xs : List α) (i : Int) : Option α := (ixN xs.length i).bind fun j => xs[j]?
theorem ixN_seq {n : Nat} {i : Int} {j : Nat} (h : ixN n i = some j) : seqIndex? i n = some j ∧ j < n ∧ -(n : Int) ≤ i ∧ i < n := by
  unfold ixN at h
  by_cases h0 : 0 ≤ i
  · rw [if_pos h0] at h
    by_cases h1 : i < n
    · rw [if_pos h1] at h
      have e : i.toNat = j := Option.some.inj h
      exact ⟨by rw [seqIndex_of h0 h1, e], by omega, by omega, h1⟩
    · rw [if_neg h1] at h; cases h
  · rw [if_neg h0] at h
    by_cases h1 : -(n : Int) ≤ i
    · rw [if_pos h1] at h
      have e : (i + n).toNat = j := Option.some.inj h
      exact ⟨by rw [seqIndex_neg (by omega) h1, e], by omega, h1, by omega⟩
    · rw [if_neg h1] at h; cases h
theorem atI_get {α : Type} {xs : List α} {i : Int} {v : α} (h : atI xs i = some v) : ∃ j, seqIndex? i xs.length = some j ∧ xs[j]? = some v ∧ j < xs.length ∧ -(xs.length : Int) ≤ i ∧ i < xs.length := by
  unfold atI at h
  cases e : ixN xs.length i with
  | none => rw [e] at h; cases h
  | some j =>
    rw [e] at h
    obtain ⟨h1, h2, h3, h4⟩ := ixN_seq e
    exact ⟨j, h1, h, h2, h3, h4⟩
theorem atI_nat {α : Type} {xs : List α} {j : Nat} {v : α} (h : xs[j]? = some v) : atI xs (j : Int) = some v := by
  have hj : j < xs.length := (List.getElem?_eq_some_iff.mp h).1
  have e : ixN xs.length (j : Int) = some j := by
    unfold ixN
    rw [if_pos (by omega), if_pos (by omega)]; simp
  unfold atI; rw [e]; exact h
def PlainIx (b : Expr) : Prop := ∀ o i, subscripted b false o i = operate [o, i] (getItem o i)

def IxR (X : Cx) (r : R2) : Prop :=
  ∀ (value slice : Expr) (pins : List (Addr × Obj)) (s : Shared) (σ : St) (H : Hp) (x y : V) (v u : Value) (Q : VK), Inv X pins σ H s → RelV x v → RelV y u → r x y H Q →
    subscripted slice false v u = operate [v, u] (getItem v u) → wpAny (model X.prog X.w) X.A (subscriptTail value slice v u) (EP X pins σ Q) X.xe s

def MtR (X : Cx) (id : String) (r : V → List V → Hp → VK → Prop) : Prop :=
  ∀ (pins : List (Addr × Obj)) (s : Shared) (σ : St) (H : Hp) (x : V) (xs : List V) (v : Value) (us : List Value) (Q : VK), Inv X pins σ H s → RelV x v → Vals xs us → r x xs H Q →
    wpAny (model X.prog X.w) X.A (call (.builtin id) (v :: us)) (EP X pins σ Q) X.xe s
section
variable {X : Cx} {a b : Expr} {ta tb : TE} {pos : Pos}
theorem pe_ix {r : R2} (hr : IxR X r) (ha : PE X a ta) (hb : PE X b tb) (hs : PlainIx b) : PE X (.Subscript a b pos) (tOp r ta tb) := by
  intro pins s σ H Q I h
  exact Subscript_ (binT ha hb I h fun v u s2 x y H2 I2 rx ry q => hr a b pins s2 σ H2 x y v u Q I2 rx ry q (hs _ _))

def rIxL (K : PySem.W.Frag) : R2 := fun x y H Q => ∃ p xs i v, x = .ref p ∧ y = .int i ∧ SqL K H p xs ∧ atI xs i = some v ∧ Q v H
def rIxT (K : PySem.W.Frag) : R2 := fun x y H Q => ∃ p xs i v, x = .ref p ∧ y = .int i ∧ SqT K H p xs ∧ atI xs i = some v ∧ Q v H
def rIxS : R2 := fun x y H Q => ∃ z i c, x = .str z ∧ y = .int i ∧ z.length ≤ sizeLine ∧ atI z.cps.toList i = some c ∧ Q (.str ⟨#[c]⟩) H
theorem ix_list : IxR X (rIxL X.K) := by
  intro value slice pins s σ H x y v u Q I rx ry h hs
  obtain ⟨p, xs, i, z, rfl, rfl, hq, he, q⟩ := h
  cases rx
  obtain ⟨t, rfl⟩ := ry
  obtain ⟨its, r, pl, hz⟩ := I.list hq
  obtain ⟨j, h1, h2, h3, h4, h5⟩ := atI_get he
  obtain ⟨w, ew, rw'⟩ := r.get h2
  have hl := r.length
  have hn := line63
  have fin : EP X pins σ Q w s := ⟨z, H, I, rw', q⟩
  by_cases h0 : 0 ≤ i
  · have hj : i.toNat = j := by
      rw [seqIndex_of h0 h5] at h1
      exact Option.some.inj h1
    exact item_listR pl.isList h0 (by omega) (by rw [hj]; simpa using ew) fin hs
  · have hj : (i + (its.toArray.size : Int)).toNat = j := by
      rw [seqIndex_neg (by omega) h4] at h1
      rw [List.size_toArray, ← hl]
      exact Option.some.inj h1
    exact subscriptTail_builtinR (x := w) pl.isList.typeIs slot_list_getitem.lookup
      (wpAny_getItem_list_neg (Q := fun r s' => r = w ∧ EP X pins σ Q r s') pl.isList (by omega) (by rw [List.size_toArray] <;> omega) (by omega) (by rw [hj]; simpa using ew) ⟨rfl, fin⟩) hs
theorem ix_tup : IxR X (rIxT X.K) := by
  intro value slice pins s σ H x y v u Q I rx ry h hs
  obtain ⟨p, xs, i, z, rfl, rfl, hq, he, q⟩ := h
  cases rx
  obtain ⟨t, rfl⟩ := ry
  obtain ⟨its, r, pl, hz⟩ := I.tuple hq
  obtain ⟨j, h1, h2, h3, h4, h5⟩ := atI_get he
  obtain ⟨w, ew, rw'⟩ := r.get h2
  have hl := r.length
  have hn := line63
  have fin : EP X pins σ Q w s := ⟨z, H, I, rw', q⟩
  exact subscriptTail_builtinR (x := w) pl.typeIs slot_tuple_getitem.lookup
    (getItem_tuple (j := j) (Q := fun r s' => r = w ∧ EP X pins σ Q r s') pl (by omega) (by omega) (by rw [List.size_toArray, ← hl]; exact h1) (by simpa using ew) ⟨rfl, fin⟩) hs
theorem ix_str : IxR X rIxS := by
  intro value slice pins s σ H x y v u Q I rx ry h hs
  obtain ⟨z, i, c, rfl, rfl, hz, he, q⟩ := h
  obtain ⟨t, rfl⟩ := rx
  obtain ⟨t', rfl⟩ := ry
  obtain ⟨j, h1, h2, h3, h4, h5⟩ := atI_get he
  have hl : z.cps.toList.length = z.length := by simp [Str.length]
  rw [hl] at h1 h4 h5
  have hn := line63
  exact tail_any (typeIs_str s z t) slot_str_getitem.lookup (getItem_str (c := c) (by
    have e1 : decide (i < -(2 ^ 63 : Int)) = false := decide_eq_false (by omega)
    have e2 : decide (i ≥ 2 ^ 63) = false := decide_eq_false (by omega)
    rw [e1, e2, Bool.or_false]) (by rw [h1]; simpa using h2) ⟨.str ⟨#[c]⟩, H, I.tok _, ⟨_, rfl⟩, q⟩) hs

def rIx (K : PySem.W.Frag) : R2 := fun x y H Q => rIxL K x y H Q ∨ rIxT K x y H Q ∨ rIxS x y H Q
theorem Inv.lst {pins : List (Addr × Obj)} {σ : St} {H : Hp} {s : Shared} {p : Addr} {xs : List V} (I : Inv X pins σ H s) (h : H p = some (.lst xs)) :
    ∃ (its : List Value) (n : Nat), Vals xs its ∧ s.heap.get? p = some { cls := .type "list", data := .seq its.toArray n } ∧ xs.length ≤ sizeLine := by
  obtain ⟨z, its, n, r, e⟩ := I.hok p _ h
  exact ⟨its, n, r, e, z⟩

def rSetL : V → V → V → Hp → (Hp → Prop) → Prop := fun o i v H Q => ∃ p xs k j, o = .ref p ∧ i = .int k ∧ H p = some (.lst xs) ∧ ixN xs.length k = some j ∧ Q (upd H p (.lst (xs.set j v)))
theorem slice_bounds (lo hi : Option Int) (n : Nat) : (sliceBounds lo hi none n).1 = ((HT.sIx n 0 lo : Nat) : Int) ∧ (sliceBounds lo hi none n).2.1 = ((HT.sIx n n hi : Nat) : Int) ∧ (sliceBounds lo hi none n).2.2 = 1 := by
  refine ⟨?_, ?_, rfl⟩
  · cases lo with
    | none => simp [sliceBounds, HT.sIx]
    | some i =>
      simp only [sliceBounds, HT.sIx, Option.getD_none, show (1 : Int) > 0 by decide, if_true]
      by_cases h : i < 0
      · simp only [h, if_true] <;> omega
      · simp only [h, if_false] <;> omega
  · cases hi with
    | none => simp [sliceBounds, HT.sIx]
    | some i =>
      simp only [sliceBounds, HT.sIx, Option.getD_none, show (1 : Int) > 0 by decide, if_true]
      by_cases h : i < 0
      · simp only [h, if_true] <;> omega
      · simp only [h, if_false] <;> omega
theorem slicePick_cut (its : List Value) (lo hi : Option Int) : slicePick its.toArray lo hi none = ((its.drop (HT.sIx its.length 0 lo)).take (HT.sIx its.length its.length hi - HT.sIx its.length 0 lo)).toArray := by
  obtain ⟨h1, h2, h3⟩ := slice_bounds lo hi its.toArray.size
  unfold slicePick
  rw [h1, h2, h3]
  simp only [sliceRange_one, pick_run, List.size_toArray] <;> rfl

def rSlL (K : PySem.W.Frag) : V → Option Int → Option Int → Hp → VK → Prop := fun x lo hi H Q => ∃ a xs, x = .ref a ∧ SqL K H a xs ∧ ∀ p, H p = none → Q (.ref p) (upd H p (.lst (cutV xs lo hi)))
theorem sl_list : SlR X (rSlL X.K) := by
  intro pins s σ H x v vl vu lo hi sl Q I rx hs pl pu h
  obtain ⟨a, xs, rfl, hx, q⟩ := h
  cases rx
  obtain ⟨its, r, ht, hz⟩ := I.list hx
  have hlen := r.length
  refine ⟨"list", _, slot_list_getitem.lookup, ht.isList.typeIs, ?_⟩
  refine wpAny_getItem_list_slice ht.isList hs pl pu .none (by simp) ?_ (by rw [List.size_toArray] <;> omega)
  rw [slicePick_cut, ← hlen]
  refine ⟨.ref s.heap.objs.size, _, I.laid (t' := s.toks) (o := .lst (cutV xs lo hi)) (fun b ob q => Heap.get?_push_of_some _ q) (Nat.le_refl _) ?_, rfl, q _ (I.hok.fresh (Nat.le_refl _))⟩
  exact ⟨Nat.le_trans (cutV_length xs lo hi) hz, _, 0, (r.drop (HT.sIx xs.length 0 lo)).take (HT.sIx xs.length xs.length hi - HT.sIx xs.length 0 lo), Heap.get?_push_size _ rfl⟩


def flatV : V → Bool
  | .non => true
  | .bl _ => true
  | .int _ => true
  | .str _ => true
  | _ => false

def eqV : V → V → Bool
  | .non, .non => true
  | .bl a, .bl b => a == b
  | .bl a, .int b => (if a then 1 else 0) == b
  | .int a, .bl b => a == (if b then 1 else 0)
  | .int a, .int b => a == b
  | .str a, .str b => a == b
  | _, _ => false
def eqU (x : V) (u : Value) : Bool := match u with
  | .none => eqV .non x
  | .bool b => eqV (.bl b) x
  | .int i _ => eqV (.int i) x
  | .str z _ => eqV (.str z) x
  | _ => false
def inV (x : V) (xs : List V) : Bool := xs.any fun y => eqV y x

def rIn (K : PySem.W.Frag) (neg : Bool) : R2 := fun x y H Q => ∃ p xs, y = .ref p ∧ (SqL K H p xs ∨ SqT K H p xs) ∧ flatV x = true ∧ xs.all flatV = true ∧ Q (.bl (if neg then !inV x xs else inV x xs)) H
theorem call_len_seq : CallR X (.builtin "len") (fun xs H Q => ∃ p ys, xs = [.ref p] ∧ (SqL X.K H p ys ∨ SqT X.K H p ys) ∧ Q (.int ys.length) H) := by
  intro pins s σ H xs us Q I r h
  obtain ⟨p, ys, rfl, hq, q⟩ := h
  obtain ⟨u, rfl, rx⟩ := vals1 r
  cases rx
  have hn := line63
  rcases hq with hq | hq
  · obtain ⟨its, r', pl, hz⟩ := I.list hq
    have hlen := r'.length
    exact Calls.call_len_list pl.isList (by simp only [List.size_toArray] <;> omega) ⟨.int ys.length, H, I.tok _, ⟨s.toks + 1, by rw [List.size_toArray, hlen]⟩, q⟩
  · obtain ⟨its, r', pl, hz⟩ := I.tuple hq
    have hlen := r'.length
    exact len_tuple pl (by simp only [List.size_toArray] <;> omega) ⟨.int ys.length, H, I.tok _, ⟨s.toks + 1, by rw [List.size_toArray, hlen]⟩, q⟩
theorem call_len_str : CallR X (.builtin "len") (fun xs H Q => ∃ z, xs = [.str z] ∧ z.length ≤ sizeLine ∧ Q (.int z.length) H) := by
  intro pins s σ H xs us Q I r h
  obtain ⟨z, rfl, hz, q⟩ := h
  obtain ⟨u, rfl, t, rfl⟩ := vals1 r
  have hn := line63
  exact len_str (by omega) ⟨.int z.length, H, I.tok _, ⟨_, rfl⟩, q⟩
theorem call_tuple_of : CallR X (.type "tuple") (fun xs H Q => ∃ p ys, xs = [.ref p] ∧ ((SqL X.K H p ys ∧ ∀ l, H l = none → Q (.ref l) (upd H l (.tup ys))) ∨ (SqT X.K H p ys ∧ Q (.ref p) H))) := by
  intro pins s σ H xs us Q I r h
  obtain ⟨p, ys, rfl, h⟩ := h
  obtain ⟨u, rfl, rx⟩ := vals1 r
  cases rx
  rcases h with ⟨hq, q⟩ | ⟨hq, q⟩
  · obtain ⟨its, r', pl, hz⟩ := I.list hq
    have hlen := r'.length
    refine call_tuple_list pl.isList (fun h' kp => ?_) (by simp only [List.size_toArray] <;> omega)
    have I1 : Inv X pins σ H { s with heap := h' } := I.kept (t' := s.toks) kp
    have I2 : Inv X pins σ (upd H h'.objs.size (.tup ys)) { s with heap := h'.push { cls := .type "tuple", data := .seq its.toArray } } :=
      I1.laid (t' := s.toks) (fun b o e => Heap.get?_push_of_some _ e) (Nat.le_refl _) (show ObjOk X.prog X.w _ _ _ (.tup ys) from ⟨hz, its, r', IsTup.new _ _⟩)
    exact ⟨.ref h'.objs.size, _, I2, rfl, q _ (I1.hok.fresh (Nat.le_refl _))⟩
  · obtain ⟨its, r', pl, hz⟩ := I.tuple hq
    exact call_tuple_same pl ⟨.ref p, H, I, rfl, q⟩



def tyV (K : PySem.W.Frag) (T : String) (x : V) (H : Hp) : Prop := match x with
  | .str _ => T = "str"
  | .int _ => T = "int"
  | .ref p => (T = "list" ∧ ∃ xs, SqL K H p xs) ∨ (T = "tuple" ∧ ∃ o, K.lookup p = some o ∧ o.cls = .type "tuple" ∧ o.dict = none) ∨
      (T = "dict" ∧ ((∃ kvs, H p = some (.dK kvs)) ∨ ∃ kvs, H p = some (.dT kvs))) ∨ (T = "set" ∧ ∃ S n, H p = some (.set S n))
  | _ => False
theorem tyV_is {pins : List (Addr × Obj)} {σ : St} {H : Hp} {s : Shared} {T : String} {x : V} {v : Value} (I : Inv X pins σ H s) (r : RelV x v) (ty : tyV X.K T x H) :
    s.TypeIs v T ∧ ∀ a, v = .ref a → ∃ ob, s.heap.get? a = some ob ∧ ob.dict = none := by
  cases x with
  | str z =>
    obtain ⟨t, rfl⟩ := r
    cases (show T = "str" from ty)
    exact ⟨typeIs_str s z t, fun _ e => nomatch e⟩
  | int i =>
    obtain ⟨t, rfl⟩ := r
    cases (show T = "int" from ty)
    exact ⟨typeIs_int s i t, fun _ e => nomatch e⟩
  | ref p =>
    cases r
    rcases ty with ⟨rfl, xs, hq⟩ | ⟨rfl, o, hk, hc, hd⟩ | ⟨rfl, hk⟩ | ⟨rfl, S, n, hk⟩
    · obtain ⟨its, _, pl, _⟩ := I.list hq
      refine ⟨pl.isList.typeIs, fun a e => ?_⟩
      cases e
      obtain ⟨o, n, e, c, hd, _⟩ := pl
      exact ⟨o, e, hd⟩
    · refine ⟨⟨o, I.kIn p o hk, hc⟩, fun a e => ?_⟩
      cases e
      exact ⟨o, I.kIn _ o hk, hd⟩
    · have z : ∃ o, s.heap.get? p = some o ∧ o.ExactDict := by
        rcases hk with ⟨kvs, hk⟩ | ⟨kvs, hk⟩
        · obtain ⟨_, _, _, _, o, _, _, e, ex, _⟩ := I.hok p _ hk
          exact ⟨o, e, ex⟩
        · obtain ⟨_, _, _, _, o, _, _, e, ex, _⟩ := I.hok p _ hk
          exact ⟨o, e, ex⟩
      obtain ⟨o, e, ex⟩ := z
      refine ⟨⟨o, e, ex.1⟩, fun a e2 => ?_⟩
      cases e2
      exact ⟨o, e, ex.2.1⟩
    · obtain ⟨o, _, _, _, e, ex, _⟩ := I.hok p _ hk
      refine ⟨⟨o, e, ex.1⟩, fun a e2 => ?_⟩
      cases e2
      exact ⟨o, e, ex.2.1⟩
  | _ => exact False.elim ty
def tBM0 (K : PySem.W.Frag) (T : String) (r : V → List V → Hp → VK → Prop) (to : TE) : TE := fun σ H Q => to σ H fun x H1 => tyV K T x H1 ∧ r x [] H1 Q
def tBM (K : PySem.W.Frag) (T : String) (r : V → List V → Hp → VK → Prop) (to : TE) (t : TA) : TE := fun σ H Q => to σ H fun x H1 => tyV K T x H1 ∧ t σ H1 fun xs H2 => r x xs H2 Q
variable {o e : Expr} {es : List Expr} {to : TE} {t : TA} {name : Str} {apos cpos : Pos} {T id : String} {r : V → List V → Hp → VK → Prop}
theorem pe_bm (pa : PlainAttrs T) (slot : Slot T name id) (hty : typeOf (.builtin id) = pure (.type "method_descriptor")) (hm : MtR X id r) (ho : PE X o to) (ha : PA X (e :: es) t)
    (hbase : attributeBase o name X.env (eval o X.env) = eval o X.env := by rfl)
    (hfew : ((backTo cpos (starEach (e :: es) X.env)).all (fun x => !x.1) && (backToKw cpos (keywordEach [] X.env)).all (fun x => x.1.isSome)
      && decide ((e :: es).length + ([] : List Keyword).length + (if ([] : List Keyword).isEmpty then 0 else 1) < 30)) = true := by rfl)
    (hline : (apos.endLine == cpos.line) = true := by rfl) (hs : starEach (e :: es) X.env = (false, eval e X.env) :: starEach es X.env := by rfl) (hplain : (backTo cpos (starEach es X.env)).any (·.1) = false := by rfl) :
    PE X (.Call (.Attribute o name apos) (e :: es) [] cpos) (tBM X.K T r to t) := by
  intro pins s σ H Q I h
  refine wpAny_Call_method_late hbase hfew hline rfl (thn (ho pins s σ H _ I h) fun v s1 ⟨x, H1, I1, r1, ty, q1⟩ => ?_)
  obtain ⟨h1, h2⟩ := tyV_is I1 r1 ty
  refine ⟨T, id, pa, slot, hty, h1, h2, ?_⟩
  have hA := ha cpos pins s1 σ H1 _ I1 q1
  rw [hs] at hA ⊢
  refine Calls.callWith_builtin (by show (false || (backTo cpos (starEach es X.env)).any (·.1)) = false; rw [hplain] <;> rfl) (Calls.evalArgs_plain ?_)
  exact thn hA fun us s2 ⟨vs, H2, I2, r2, q2⟩ => hm pins s2 σ H2 x vs v us Q I2 r1 r2 q2

end
end L2

namespace L2
open PySem PySem.Spec PyProof.Rows

def MtM (X : Cx) (id : String) (r : V → List V → Hp → VK → Prop) : Prop :=
  ∀ (pins : List (Addr × Obj)) (s : Shared) (σ : St) (H : Hp) (x : V) (xs : List V) (v : Value) (us : List Value) (Q : VK), Inv X pins σ H s → RelV x v → Vals xs us → r x xs H Q →
    wpAny (model X.prog X.w) X.A (call (.builtin id) (v :: us)) (EP X pins σ Q) X.xe s


theorem Vals.one : ∀ {x : V} {us : List Value}, Vals [x] us → ∃ u, us = [u] ∧ RelV x u
  | _, _, .cons r .nil => ⟨_, rfl, r⟩
theorem Vals.zero : ∀ {us : List Value}, Vals [] us → us = []
  | _, .nil => rfl
theorem Vals.dropLast {xs : List V} {us : List Value} (h : Vals xs us) : Vals xs.dropLast us.dropLast := by
  induction h with
  | nil => exact .nil
  | cons r t ih =>
    cases t with
    | nil => exact .nil
    | cons q t' => exact .cons r ih
theorem Vals.eraseIdx : ∀ {xs : List V} {us : List Value} (i : Nat), Vals xs us → Vals (xs.eraseIdx i) (us.eraseIdx i)
  | _, _, _, .nil => .nil
  | _, _, 0, .cons _ t => t
  | _, _, i + 1, .cons r t => .cons r (Vals.eraseIdx i t)
theorem Vals.reverse {xs : List V} {us : List Value} (h : Vals xs us) : Vals xs.reverse us.reverse := by
  induction h with
  | nil => exact .nil
  | cons r t ih => rw [List.reverse_cons, List.reverse_cons]; exact Vals.append ih (.cons r .nil)
section
variable {X : Cx} {pins : List (Addr × Obj)} {σ : St} {H : Hp} {s : Shared} {l b : Addr} {xs ys zs : List V}


theorem Inv.lset {its its' : List Value} {n : Nat} {f : Array Value → Array Value} {t' : Nat} (I : Inv X pins σ H s) (hH : H l = some (.lst xs))
    (e : s.heap.get? l = some { cls := .type "list", data := .seq its.toArray n }) (hf : f its.toArray = its'.toArray) (hv : Vals ys its') (hz : ys.length ≤ sizeLine) :
    Inv X pins σ (upd H l (.lst ys)) { s with heap := s.heap.update l (Obj.mapSeq f), toks := t' } := by
  have q := PySem.IsL.update e f
  rw [hf] at q
  refine I.write (x := l) (e := l) (by rw [hH]; exact trivial) (.inl rfl) (fun b' u hb hu => (Heap.get?_update_other s.heap (Obj.mapSeq f) (Ne.symm hb)).trans hu) ⟨_, q⟩ ?_
  exact ⟨hz, its', _, hv, q⟩
theorem Inv.lnew {its : List Value} {t' : Nat} (I : Inv X pins σ H s) (hv : Vals ys its) (hz : ys.length ≤ sizeLine) :
    Inv X pins σ (upd H s.heap.objs.size (.lst ys)) { s with heap := s.heap.push { cls := .type "list", data := .seq its.toArray }, toks := t' } :=
  I.laid (fun _ _ q => Heap.get?_push_of_some _ q) (Nat.le_refl _) ⟨hz, its, 0, hv, Heap.get?_push_size _ rfl⟩
theorem Inv.fresh (I : Inv X pins σ H s) : H s.heap.objs.size = none := I.hok.fresh (Nat.le_refl _)
theorem Inv.lstM (I : Inv X pins σ H s) (hH : H l = some (.lst xs)) : xs.length ≤ sizeLine ∧ ∃ (its : List Value) (n : Nat), Vals xs its ∧ xs.length = its.length ∧ s.heap.get? l = some { cls := .type "list", data := .seq its.toArray n } := by
  obtain ⟨z, its, n, r, e⟩ := I.hok l _ hH
  exact ⟨z, its, n, r, r.length, e⟩

end

section
variable {X : Cx}


def rAppend : V → List V → Hp → VK → Prop := fun x vs H Q => ∃ l xs y, x = .ref l ∧ vs = [y] ∧ H l = some (.lst xs) ∧ xs.length < sizeLine ∧ Q .non (upd H l (.lst (xs ++ [y])))
theorem mt_append : MtM X "list.append" rAppend := by
  intro pins s σ H x vs v us Q I rx rv h
  obtain ⟨l, xs, y, rfl, rfl, hH, hz, q⟩ := h
  cases rx
  obtain ⟨u, rfl, ru⟩ := rv.one
  obtain ⟨z, its, n, r, hl, e⟩ := I.lstM hH
  refine call_meets F.slot_list_append ⟨_, e, rfl⟩ F.entry_list_append (F.args_list_append_2 _ _) (PySem.list_append l its.toArray n u (by rw [List.size_toArray]; omega)) ⟨e, ?_⟩
  refine ⟨.non, _, I.lset (its' := its ++ [u]) hH e (by simp) (r.append (.cons ru .nil)) ?_, rfl, q⟩
  rw [List.length_append, List.length_singleton]
  omega

def rExtend : V → List V → Hp → VK → Prop := fun x vs H Q => ∃ l b xs zs, x = .ref l ∧ vs = [.ref b] ∧ H l = some (.lst xs) ∧ H b = some (.lst zs) ∧ xs.length + zs.length ≤ sizeLine ∧ Q .non (upd H l (.lst (xs ++ zs)))
def rPop : V → List V → Hp → VK → Prop := fun x vs H Q => ∃ l xs y, x = .ref l ∧ vs = [] ∧ H l = some (.lst xs) ∧ xs[xs.length - 1]? = some y ∧ Q y (upd H l (.lst xs.dropLast))
def rPopAt : V → List V → Hp → VK → Prop := fun x vs H Q => ∃ l xs i k y, x = .ref l ∧ vs = [.int i] ∧ H l = some (.lst xs) ∧ -(2 ^ 63) ≤ i ∧ i < 2 ^ 63 ∧ seqIndex? i xs.length = some k ∧ xs[k]? = some y ∧ Q y (upd H l (.lst (xs.eraseIdx k)))
def rReverse : V → List V → Hp → VK → Prop := fun x vs H Q => ∃ l xs, x = .ref l ∧ vs = [] ∧ H l = some (.lst xs) ∧ Q .non (upd H l (.lst xs.reverse))
def rClear : V → List V → Hp → VK → Prop := fun x vs H Q => ∃ l xs, x = .ref l ∧ vs = [] ∧ H l = some (.lst xs) ∧ Q .non (upd H l (.lst []))
def rCat : R2 := fun x y H Q => ∃ l b xs zs, x = .ref l ∧ y = .ref b ∧ H l = some (.lst xs) ∧ H b = some (.lst zs) ∧ xs.length + zs.length ≤ sizeLine ∧ ∀ p, H p = none → Q (.ref p) (upd H p (.lst (xs ++ zs)))
theorem op_cat : OpR X (binaryOp .Add) rCat := by
  intro pins s σ H x y v u Q I rx ry h
  obtain ⟨l, b, xs, zs, rfl, rfl, hH, hB, hz, q⟩ := h
  cases rx
  cases ry
  obtain ⟨z, its, n, r, hl, e⟩ := I.lstM hH
  obtain ⟨z2, its2, n2, r2, hl2, e2⟩ := I.lstM hB
  refine PySem.P.add_list e e2 ?_ (by rw [List.size_toArray, List.size_toArray]; omega)
  have ea : its.toArray ++ its2.toArray = (its ++ its2).toArray := by simp
  rw [ea]
  exact ⟨.ref _, _, I.lnew (t' := s.toks) (r.append r2) (by rw [List.length_append]; omega), rfl, q _ I.fresh⟩

def rRep : R2 := fun x y H Q => ∃ l k xs, x = .ref l ∧ y = .int k ∧ H l = some (.lst xs) ∧ -(2 ^ 63) ≤ k ∧ k < 2 ^ 63 ∧ xs.length * k.toNat ≤ sizeLine ∧
  ∀ p, H p = none → Q (.ref p) (upd H p (.lst (List.replicate k.toNat xs).flatten))
end


section
variable {prog : Program} {w : World} {A : Around} {E : Value → Shared → Prop} {s : Shared}
set_option maxRecDepth 100000 in

end

section
variable {X : Cx}

end
end L2

namespace L2
open PySem PySem.Spec PyProof.Rows


section
variable {κ : Type} [DecidableEq κ]
def valV (kvs : List (κ × V)) (k : κ) : Option V := (kvs.find? fun kv => decide (kv.1 = k)).map (·.2)

def putK (kvs : List (κ × V)) (k : κ) (v : V) : List (κ × V) :=
  if (kvs.any fun kv => decide (kv.1 = k)) = true then kvs.map (fun kv => if kv.1 = k then (kv.1, v) else kv) else kvs ++ [(k, v)]
def dropK (kvs : List (κ × V)) (k : κ) : List (κ × V) := kvs.filter fun kv => decide (kv.1 ≠ k)

theorem valV_pos {p : κ × V} {r : List (κ × V)} {k : κ} (e : p.1 = k) : valV (p :: r) k = some p.2 := by simp [valV, List.find?_cons, e]
theorem valV_neg {p : κ × V} {r : List (κ × V)} {k : κ} (e : ¬ p.1 = k) : valV (p :: r) k = valV r k := by simp [valV, List.find?_cons, e]
theorem valV_any (k : κ) : ∀ kvs : List (κ × V), (kvs.any fun kv => decide (kv.1 = k)) = (valV kvs k).isSome
  | [] => rfl
  | p :: r => by
    rw [List.any_cons]
    by_cases e : p.1 = k
    · simp only [valV_pos e, decide_eq_true e, Bool.true_or, Option.isSome_some]
    · rw [valV_neg e, decide_eq_false e, Bool.false_or]; exact valV_any k r
theorem RelO.isSome_eq {o : Option V} {u : Option Value} (r : RelO o u) : o.isSome = u.isSome := by
  cases o with
  | none => cases u with
    | none => rfl
    | some _ => exact (show False from r).elim
  | some _ => cases u with
    | none => exact (show False from r).elim
    | some _ => rfl
theorem RelO.getD {o : Option V} {u : Option Value} {d : V} {d' : Value} (r : RelO o u) (rd : RelV d d') : RelV (o.getD d) (u.getD d') := by
  cases o with
  | none => cases u with
    | none => exact rd
    | some _ => exact (show False from r).elim
  | some _ => cases u with
    | none => exact (show False from r).elim
    | some _ => exact r


theorem KV.val {kvs : List (κ × V)} {vs : List (κ × Value)} (r : KV kvs vs) (k : κ) : RelO (valV kvs k) (valueAt vs k) := by
  unfold KV at r
  induction r with
  | nil => exact True.intro
  | @cons p q ps qs h t ih =>
    obtain ⟨h1, h2⟩ := h
    by_cases e : p.1 = k
    · have e' : q.1 = k := h1.symm.trans e
      have b : valueAt (q :: qs) k = some q.2 := by simp [valueAt, List.find?_cons, e']
      rw [valV_pos e, b]; exact h2
    · have e' : ¬ q.1 = k := fun z => e (h1.trans z)
      have b : valueAt (q :: qs) k = valueAt qs k := by simp [valueAt, List.find?_cons, e']
      rw [valV_neg e, b]; exact ih
theorem KV.any {kvs : List (κ × V)} {vs : List (κ × Value)} (r : KV kvs vs) (k : κ) : (kvs.any fun kv => decide (kv.1 = k)) = vs.any fun kv => decide (kv.1 = k) := by
  unfold KV at r
  induction r with
  | nil => rfl
  | cons h t ih => rw [List.any_cons, List.any_cons, ih, h.1]
theorem KV.repl {kvs : List (κ × V)} {vs : List (κ × Value)} (r : KV kvs vs) (k : κ) {y : V} {u : Value} (ry : RelV y u) :
    KV (kvs.map fun kv => if kv.1 = k then (kv.1, y) else kv) (vs.map fun kv => if kv.1 = k then (kv.1, u) else kv) := by
  unfold KV at r ⊢
  induction r with
  | nil => exact .nil
  | @cons p q ps qs h t ih =>
    rw [List.map_cons, List.map_cons]
    refine .cons ?_ ih
    obtain ⟨h1, h2⟩ := h
    by_cases e : p.1 = k
    · rw [if_pos e, if_pos (h1.symm.trans e)]; exact ⟨h1, ry⟩
    · rw [if_neg e, if_neg (fun z => e (h1.trans z))]; exact ⟨h1, h2⟩
theorem KV.put {kvs : List (κ × V)} {vs : List (κ × Value)} (r : KV kvs vs) (k : κ) {y : V} {u : Value} (ry : RelV y u) : KV (putK kvs k y) (stored vs k u) := by
  unfold putK stored
  rw [r.any k]
  by_cases e : (vs.any fun kv => decide (kv.1 = k)) = true
  · rw [if_pos e, if_pos e]; exact r.repl k ry
  · rw [if_neg e, if_neg e]; exact Paired.snoc r ⟨rfl, ry⟩
theorem KV.drop {kvs : List (κ × V)} {vs : List (κ × Value)} (r : KV kvs vs) (k : κ) : KV (dropK kvs k) (without vs k) := by
  unfold KV at r ⊢
  unfold dropK without
  induction r with
  | nil => exact .nil
  | @cons p q ps qs h t ih =>
    obtain ⟨h1, h2⟩ := h
    rw [List.filter_cons, List.filter_cons]
    by_cases e : p.1 = k
    · have a : ¬ decide (p.1 ≠ k) = true := by simp [e]
      have b : ¬ decide (q.1 ≠ k) = true := by simp [h1.symm.trans e]
      rw [if_neg a, if_neg b]; exact ih
    · have e' : ¬ q.1 = k := fun z => e (h1.trans z)
      have a : decide (p.1 ≠ k) = true := by simp [e]
      have b : decide (q.1 ≠ k) = true := by simp [e']
      rw [if_pos a, if_pos b]; exact .cons ⟨h1, h2⟩ ih
theorem KV.keys {kvs : List (κ × V)} {vs : List (κ × Value)} (r : KV kvs vs) : kvs.map (·.1) = vs.map (·.1) := by
  unfold KV at r
  induction r with
  | nil => rfl
  | cons h t ih => rw [List.map_cons, List.map_cons, ih, h.1]
theorem KV.length {kvs : List (κ × V)} {vs : List (κ × Value)} (r : KV kvs vs) : kvs.length = vs.length := Paired.length r
end



abbrev KT (H : Hp) : List (List Key × V) → List (List Key × Addr × Value) → Prop := Paired fun p q => p.1 = q.1 ∧ H q.2.1 = some (.tup (p.1.map kV)) ∧ RelV p.2 q.2.2
theorem KT.val {H : Hp} {kvs : List (List Key × V)} {xs : List (List Key × Addr × Value)} (r : KT H kvs xs) (k : List Key) : RelO (valV kvs k) ((atKey xs k).map (·.2)) := by
  induction r with
  | nil => exact True.intro
  | @cons p q ps qs h t ih =>
    obtain ⟨h1, _, h2⟩ := h
    by_cases e : p.1 = k
    · have e' : q.1 = k := h1.symm.trans e
      have b : atKey (q :: qs) k = some q.2 := by simp [atKey, List.find?_cons, e']
      rw [valV_pos e, b]; exact h2
    · have e' : ¬ q.1 = k := fun z => e (h1.trans z)
      have b : atKey (q :: qs) k = atKey qs k := by simp [atKey, List.find?_cons, e']
      rw [valV_neg e, b]; exact ih
theorem KT.repl {H : Hp} {kvs : List (List Key × V)} {xs : List (List Key × Addr × Value)} (r : KT H kvs xs) (k : List Key) {y : V} {u : Value} (ry : RelV y u) :
    KT H (kvs.map fun kv => if kv.1 = k then (kv.1, y) else kv) (xs.map (putAt k u)) := by
  induction r with
  | nil => exact .nil
  | @cons p q ps qs h t ih =>
    rw [List.map_cons, List.map_cons]
    refine .cons ?_ ih
    obtain ⟨h1, h2, h3⟩ := h
    unfold putAt
    by_cases e : p.1 = k
    · rw [if_pos e, if_pos (h1.symm.trans e)]; exact ⟨h1, h2, ry⟩
    · rw [if_neg e, if_neg (fun z => e (h1.trans z))]; exact ⟨h1, h2, h3⟩
theorem KT.put {H : Hp} {kvs : List (List Key × V)} {xs : List (List Key × Addr × Value)} (r : KT H kvs xs) (k : List Key) {b : Addr} {y : V} {u : Value} (hb : H b = some (.tup (k.map kV))) (ry : RelV y u) :
    KT H (putK kvs k y) (storedH xs k b u) := by
  have e : (kvs.any fun kv => decide (kv.1 = k)) = (atKey xs k).isSome := by
    rw [valV_any, (r.val k).isSome_eq, Option.isSome_map]
  unfold putK storedH
  rw [e]
  by_cases q : (atKey xs k).isSome = true
  · rw [if_pos q, if_pos q]; exact r.repl k ry
  · rw [if_neg q, if_neg q]; exact Paired.snoc r ⟨rfl, hb, ry⟩
theorem KT.keeps {H H' : Hp} {kvs : List (List Key × V)} {xs : List (List Key × Addr × Value)} (r : KT H kvs xs) (ht : ∀ b ys, H b = some (.tup ys) → H' b = some (.tup ys)) : KT H' kvs xs :=
  Paired.mapP r fun _ _ z => ⟨z.1, ht _ _ z.2.1, z.2.2⟩

section
variable {P : Program} {w : World} {H : Hp} {h : Heap} {a : Addr}
end


def DGet (H : Hp) (a : Addr) (y : V) (r : Option V) : Prop :=
  (∃ kvs k, Rd H a (.dK kvs) ∧ y = kV k ∧ r = valV kvs k) ∨ ∃ kvs k b, Rd H a (.dT kvs) ∧ y = .ref b ∧ H b = some (.tup (k.map kV)) ∧ r = valV kvs k

def DPut (H : Hp) (a : Addr) (y v : V) (H' : Hp) : Prop :=
  (∃ kvs k, H a = some (.dK kvs) ∧ y = kV k ∧ kvs.length < sizeLine ∧ H' = upd H a (.dK (putK kvs k v))) ∨
  ∃ kvs k b, H a = some (.dT kvs) ∧ y = .ref b ∧ H b = some (.tup (k.map kV)) ∧ kvs.length < sizeLine ∧ H' = upd H a (.dT (putK kvs k v))
theorem DGet.k {H : Hp} {a : Addr} {kvs : List (Key × V)} {k : Key} (e : H a = some (.dK kvs)) : DGet H a (kV k) (valV kvs k) := .inl ⟨kvs, k, .inl e, rfl, rfl⟩
theorem DGet.t {H : Hp} {a b : Addr} {kvs : List (List Key × V)} {k : List Key} (e : H a = some (.dT kvs)) (eb : H b = some (.tup (k.map kV))) : DGet H a (.ref b) (valV kvs k) := .inr ⟨kvs, k, b, .inl e, rfl, eb, rfl⟩
theorem DPut.k {H : Hp} {a : Addr} {kvs : List (Key × V)} {k : Key} {v : V} (e : H a = some (.dK kvs)) (hl : kvs.length < sizeLine) : DPut H a (kV k) v (upd H a (.dK (putK kvs k v))) := .inl ⟨kvs, k, e, rfl, hl, rfl⟩
theorem DPut.t {H : Hp} {a b : Addr} {kvs : List (List Key × V)} {k : List Key} {v : V} (e : H a = some (.dT kvs)) (eb : H b = some (.tup (k.map kV))) (hl : kvs.length < sizeLine) :
    DPut H a (.ref b) v (upd H a (.dT (putK kvs k v))) := .inr ⟨kvs, k, b, e, rfl, eb, hl, rfl⟩


section
variable {X : Cx} {pins : List (Addr × Obj)} {σ : St} {H : Hp} {s : Shared} {a : Addr} {y v : V} {u r : Value} {o : Option V} {A : Around} {E : Value → Shared → Prop}

theorem Inv.big (I : Inv X pins σ H s) : sysModules < s.heap.objs.size := by
  have h : mainGlobals < s.heap.objs.size := (I.mod.glob.keeps I.bk).lt
  exact Nat.lt_trans (by decide) h


end

section
variable {X : Cx} {pins : List (Addr × Obj)} {σ : St} {H : Hp} {s : Shared} {a : Addr} {kvs : List (Key × V)} {k : Key} {u : Value} {A : Around} {E : Value → Shared → Prop}

end




def NoSl (i : Expr) : Prop := ∀ ov iv, subscripted i false ov iv = operate [ov, iv] (getItem ov iv)
def tDGet (td ty : TE) : TE := fun σ H Q => td σ H fun x H1 => ty σ H1 fun y H2 => ∃ a v, x = .ref a ∧ DGet H2 a y (some v) ∧ Q v H2

def tDIn (ty td : TE) : TE := fun σ H Q => ty σ H fun y H1 => td σ H1 fun x H2 => ∃ a o, x = .ref a ∧ DGet H2 a y o ∧ Q (.bl o.isSome) H2
def tDNotIn (ty td : TE) : TE := fun σ H Q => ty σ H fun y H1 => td σ H1 fun x H2 => ∃ a o, x = .ref a ∧ DGet H2 a y o ∧ Q (.bl (!o.isSome)) H2

def sDPut (td ty tv : TE) : TS := fun D σ H => tv σ H fun v H1 => td σ H1 fun x H2 => ty σ H2 fun y H3 => ∃ a H4, x = .ref a ∧ DPut H3 a y v H4 ∧ D.nx σ H4

def sDAug (td ty tv : TE) (rd : V → V → Hp → VK → Prop) : TS := fun D σ H => td σ H fun x H1 => ty σ H1 fun y H2 => ∃ a v, x = .ref a ∧ DGet H2 a y (some v) ∧
  tv σ H2 fun y2 H3 => rd v y2 H3 fun z H4 => ∃ H5, DPut H4 a y z H5 ∧ D.nx σ H5

def sDDel (td ty : TE) : TS := fun D σ H => td σ H fun x H1 => ty σ H1 fun y H2 => ∃ a kvs k, x = .ref a ∧ H2 a = some (.dK kvs) ∧ y = kV k ∧ (valV kvs k).isSome = true ∧ D.nx σ (upd H2 a (.dK (dropK kvs k)))

section
variable {X : Cx} {o i e value : Expr} {pos pos' tpos : Pos} {td ty tv : TE}
end



theorem dk_empty {P : Program} {w : World} {H : Hp} (h : Heap) (hb : sysModules < h.objs.size) : ObjOk P w H (h.push { cls := .type "dict", data := .dict #[] }) h.objs.size (.dK []) :=
  ⟨Nat.zero_le _, beq_eq_false_iff_ne.mpr (Ne.symm (Nat.ne_of_lt hb)), [], .nil, Heap.DictOf.new h⟩
def tDNewK : TE := fun _ H Q => ∀ p, H p = none → Q (.ref p) (upd H p (.dK []))
def tDNewT : TE := fun _ H Q => ∀ p, H p = none → Q (.ref p) (upd H p (.dT []))
section
variable {X : Cx} {pos : Pos}
theorem pe_dnewK : PE X (.Dict [] [] pos) tDNewK := fun pins s σ H Q I h =>
  wpAny_Dict_empty ⟨.ref s.heap.objs.size, _, I.laid (a := s.heap.objs.size) (o := .dK []) (t' := s.toks) (fun _ _ q => Heap.get?_push_of_some _ q) (Nat.le_refl _) (dk_empty s.heap I.big), rfl, h _ (I.hok.fresh (Nat.le_refl _))⟩
end


def tPairs : List (TE × TE) → St → Hp → (List (V × V) → Hp → Prop) → Prop
  | [], _, H, Q => Q [] H
  | (tk, tv) :: r, σ, H, Q => tk σ H fun x H1 => tv σ H1 fun y H2 => tPairs r σ H2 fun ps H3 => Q ((x, y) :: ps) H3
abbrev VV : List (V × V) → List (Value × Value) → Prop := Paired fun p q => RelV p.1 q.1 ∧ RelV p.2 q.2
def PPs (X : Cx) (pos : Pos) (keys : List (Option Expr)) (values : List Expr) (trs : List (TE × TE)) : Prop :=
  ∀ (pins : List (Addr × Obj)) (s : Shared) (σ : St) (H : Hp) (Q : List (V × V) → Hp → Prop), Inv X pins σ H s → tPairs trs σ H Q →
    wpAny (model X.prog X.w) X.A (evalPairs (pairTrees keys values X.env pos)) (fun vs s' => ∃ ps H', Inv X pins σ H' s' ∧ VV ps vs ∧ Q ps H') X.xe s
def mergeK (kvs more : List (Key × V)) : List (Key × V) := more.foldl (fun acc kv => putK acc kv.1 kv.2) kvs
def tDisp (trs : List (TE × TE)) : TE := fun σ H Q => ∀ p, H p = none → tPairs trs σ (upd H p (.dK [])) fun ps H2 => H2 p = some (.dK []) ∧ ∃ kvs : List (Key × V), ps = kvs.map (fun kv => (kV kv.1, kv.2)) ∧ kvs.length ≤ 15 ∧ Q (.ref p) (upd H2 p (.dK (mergeK [] kvs)))
structure M1 (X : Cx) (o : Expr) (m : Str) (apos : Pos) (e : Expr) (cpos : Pos) : Prop where
  base : attributeBase o m X.env (eval o X.env) = eval o X.env
  few : ((backTo cpos (starEach [e] X.env)).all (fun x => !x.1) && (backToKw cpos (keywordEach [] X.env)).all (fun x => x.1.isSome)
    && decide (([e] : List Expr).length + ([] : List Keyword).length + (if ([] : List Keyword).isEmpty then 0 else 1) < 30)) = true
  line : (apos.endLine == cpos.line) = true
  trees : backTo cpos (starEach [e] X.env) = [(false, eval e X.env)]
structure M2 (X : Cx) (o : Expr) (m : Str) (apos : Pos) (e f : Expr) (cpos : Pos) : Prop where
  base : attributeBase o m X.env (eval o X.env) = eval o X.env
  few : ((backTo cpos (starEach [e, f] X.env)).all (fun x => !x.1) && (backToKw cpos (keywordEach [] X.env)).all (fun x => x.1.isSome)
    && decide (([e, f] : List Expr).length + ([] : List Keyword).length + (if ([] : List Keyword).isEmpty then 0 else 1) < 30)) = true
  line : (apos.endLine == cpos.line) = true
  trees : backTo cpos (starEach [e, f] X.env) = [(false, eval e X.env), (false, eval f X.env)]


def IsD (H : Hp) (a : Addr) : Prop := (∃ kvs, Rd H a (.dK kvs)) ∨ ∃ kvs, Rd H a (.dT kvs)
section
variable {X : Cx} {pins : List (Addr × Obj)} {σ : St} {H : Hp} {s : Shared} {a : Addr} {y d : V} {u r : Value} {o : Option V} {A : Around} {E : Value → Shared → Prop}

end

def tDGet1 (td ty : TE) : TE := fun σ H Q => td σ H fun x H1 => ∃ a, x = .ref a ∧ IsD H1 a ∧ ty σ H1 fun y H2 => ∃ o, DGet H2 a y o ∧ Q (o.getD .non) H2
def tDGet2 (td ty tx : TE) : TE := fun σ H Q => td σ H fun x H1 => ∃ a, x = .ref a ∧ IsD H1 a ∧ ty σ H1 fun y H2 => tx σ H2 fun z H3 => ∃ o, DGet H3 a y o ∧ Q (o.getD z) H3

def tDPop1 (td ty : TE) : TE := fun σ H Q => td σ H fun x H1 => ∃ a, x = .ref a ∧ IsD H1 a ∧ ty σ H1 fun y H2 => ∃ kvs k v, H2 a = some (.dK kvs) ∧ y = kV k ∧ valV kvs k = some v ∧ Q v (upd H2 a (.dK (dropK kvs k)))
def tDPop2 (td ty tx : TE) : TE := fun σ H Q => td σ H fun x H1 => ∃ a, x = .ref a ∧ IsD H1 a ∧ ty σ H1 fun y H2 => tx σ H2 fun z H3 => ∃ kvs k, H3 a = some (.dK kvs) ∧ y = kV k ∧
  (∀ v, valV kvs k = some v → Q v (upd H3 a (.dK (dropK kvs k)))) ∧ (valV kvs k = none → Q z H3)
section
variable {X : Cx} {o e f : Expr} {apos cpos : Pos} {td ty tx : TE}
end


section
variable {X : Cx} {pins : List (Addr × Obj)} {σ : St} {H : Hp} {s : Shared} {a : Addr} {kvs : List (Key × V)} {A : Around} {E : Value → Shared → Prop}
end


section
variable {X : Cx} {pins : List (Addr × Obj)} {σ : St} {H : Hp} {s : Shared} {a : Addr} {y : V} {u : Value} {A : Around} {E : Value → Shared → Prop}

end
end L2

namespace Att
open PySem PySem.W PySem.Calls PyProof.Rows


theorem ints_of_wellAll {P : Params} {h : Heap} : ∀ (ns : List Int) (vs : List Value), WellAll P h vs (ns.map WData.int) → IntsAre vs ns := by
  intro ns
  induction ns with
  | nil =>
    intro vs w
    rw [List.map_nil] at w
    cases w
    exact .nil
  | cons n ns ih =>
    intro vs w
    rw [List.map_cons] at w
    cases w with
    | cons a b =>
      cases a
      exact .cons _ _ (ih _ b)

theorem script_of {l : OpenLaw} {n : Nat} (hn : l.most = some n) {P : Params} {h : Heap} {args : List WData} {vals : List Value}
    (hpre : l.row.toRowW.claim.pre args = true) (hwl : WellAll P h vals args) :
    ∃ a vs ns, vals = [Value.ref a] ∧ args = [WData.list (ns.map WData.int)] ∧ h.get? a = some { cls := .type "list", data := .seq vs.toArray } ∧ IntsAre vs ns ∧ ns.length ≤ n := by
  have hsh : WShape.hasAll [] args [.list .int] = true := (pre_splitW hpre).1
  have hc : l.pre.holds [] { args := args } = true := (pre_splitW hpre).2
  obtain ⟨d, r, rfl, h1, h2⟩ := hasAllW_cons hsh
  obtain rfl := hasAllW_nil h2
  obtain ⟨xs, rfl, h3⟩ := hasW_list h1
  obtain ⟨ns, rfl⟩ := items_int h3
  have hlen : ns.length ≤ n := by
    unfold OpenLaw.pre at hc
    have h4 : (WTm.not (.lt (.lit (.int (n : Int))) (.len (.arg 0)))).holds [] { args := [.list (ns.map .int)] } = true := by
      have h4 := (holds_andW hc).1
      rw [hn] at h4
      exact h4
    have h5 := condW_of h4 (w_not (w_lt w_lit (w_len_list (w_arg rfl))))
    rw [List.length_map] at h5
    refine Nat.le_of_not_lt fun q => ?_
    have q' : (n : Int) < ((ns.length : Nat) : Int) := by omega
    first
      | (rw [decide_eq_true q'] at h5; exact absurd h5 (by decide))
      | (simp at h5; omega)
  cases hwl with
  | cons w1 w2 =>
    cases w2
    cases w1 with
    | list ho hall => exact ⟨_, _, ns, rfl, rfl, ho, ints_of_wellAll ns _ hall, hlen⟩

theorem post_true (l : OpenLaw) (args : List WData) : l.row.toRowW.claim.post args (.bool true) args = true :=
  postW_of (r := l.row.toRowW) (X := (true == true))
    (show WShape.has [] (.bool true) .bool = true by first | rfl | decide | simp [WShape.has, WShape.arms, WShape.armsAll])
    (show (WTm.eq .res (.lit (.bool true))).value [] { args := args, res := some (.bool true), after := args } = some (.bool (true == true)) from w_eq_bool (w_res rfl) w_lit) rfl


theorem attach_call {l : OpenLaw} {n : Nat} {q : Program} {loose : List Str} {XP : (Str → Option Value) → Heap → Prop} {YP : World → Heap → Prop} {d : DefRec}
    (hn : l.most = some n) (hdf : d.params.defaults = [])
    (call : ∀ (w : World) (s₀ s₁ : Shared) (mg mb : Str → Option Value) (fa : Addr) (o : Obj) (pm cd doc : Value) (a : Addr) (vs : List Value) (ns : List Int),
      Ground q loose [] XP w s₀ mg mb s₁.heap → YP w s₁.heap →
      s₁.heap.get? fa = some o → o.data = .func (docDef d.name d.params d.body d.scope pm cd doc) → s₁.heap.CodeRec cd d.name → mg d.name = some (.ref fa) →
      s₁.heap.get? a = some { cls := .type "list", data := .seq vs.toArray } → IntsAre vs ns → ns.length ≤ n → s₁.gens = #[] →
      codeAny (model l.prog w) callerA (.call (.ref fa) ⟨[.ref a], []⟩) (fun r s' => r = .ok (.ret (.bool true)) ∧ OldK s₁.heap s'.heap ∧ s'.os = s₁.os ∧ AllBare s'.gens) s₁) :
    WalkO q loose XP YP l.row.toRowW d [] (fun f vs => PySem.call f vs) := by
  intro w s₀ s₁ mg mb G Y fa o pm cd doc dV kV ho hd hcd hD hmg hg args vals as hpre hlay hrd hwl hlo
  obtain rfl : dV = .none := Dflts.none hD hdf
  obtain rfl : kV = .none := Dflts.noKw hD
  obtain ⟨a, vs, ns, rfl, rfl, hobj, hints, hlen⟩ := script_of hn hpre hwl
  refine enter_call (codeAny_mono (call w s₀ s₁ mg mb fa o pm cd doc a vs ns G Y ho (fd_plain hd) hcd hmg hobj hints hlen hg) fun r s' hq => ?_)
  obtain ⟨rfl, h2, h3, h4⟩ := hq
  exact ⟨.inl ⟨.bool true, .bool true, [], rfl, fun _ => rfl, .bool true, post_true l _, fun _ => ⟨List.Pairwise.nil, fun _ hm => (nomatch hm)⟩⟩, h2, h3, h4⟩


section
variable {prog : Program} {w : World} {A : Around} {E : Value → Shared → Prop} {s : Shared} {K : Frag}


def noObjs (h : Heap) : Heap := { h with objs := #[] }
def ledger (h : Heap) (L d : Addr) : List (Addr × Obj) := (List.range h.objs.size).filterMap fun a => if a = L ∨ a = d then none else (h.get? a).map fun o => (a, o)
end
end Att

namespace L2
open PySem PySem.Spec PyProof.Rows

theorem vals_ints : ∀ {vs : List Value} {ns : List Int}, IntsAre vs ns → Vals (ns.map V.int) vs
  | _, _, .nil => .nil
  | _, _, .cons n t h => .cons ⟨t, rfl⟩ (vals_ints h)


def Only (H : Hp) : Prop := ∀ b, H b = none ∨ ∃ o xs, H b = some (.frz o (.lst xs))


theorem law_call {P : Program} {w : World} {K : PySem.W.Frag} {mg mb : Str → Option Value} {CX : CXT} {k : Nat} {fa a : Addr} {fd : FuncData} {x : Str} {sp : Sp} {s₁ : Shared} {vs : List Value} {ns : List Int}
    (KX : K.In s₁.heap) (hns : s₁.heap.Ns mainGlobals mg) (hb : s₁.heap.Ns builtinsNs mb) (hbb : ∀ x : Str, x ≠ "__name__" → mb x = bootBuiltins x) (hlim : s₁.heap.NoLimit) (hg : s₁.gens = #[])
    (ha : s₁.heap.get? a = some { cls := .type "list", data := .seq vs.toArray }) (hi : IntsAre vs ns) (hl : ns.length ≤ sizeLine) (hr : Room k callerA)
    (F : ∀ base : Heap, K.In base → base.Ns mainGlobals mg → FnOk P w K mg base CX k fa fd [x] sp) (hbind : ∀ (s : Shared) (u : Value), BindsTo s fd ⟨[u], []⟩ [(x, u)])
    (hsp : ∀ H : Hp, Only H → SqL K H a (ns.map V.int) → sp [.ref a] H (fun v _ => v = .bl true) fun _ _ _ => False)
    (hCX : ∀ H e s', CX [] H s₁ (fun _ _ _ => False) e s' → False) :
    codeAny (model P w) callerA (.call (.ref fa) ⟨[.ref a], []⟩) (fun r s' => r = .ok (.ret (.bool true)) ∧ OldK s₁.heap s'.heap ∧ s'.os = s₁.os ∧ AllBare s'.gens) s₁ := by
  have rv := vals_ints hi
  have lenV := hi.length
  -- from an abstract heap in which nothing but the script may be tracked
  have core : ∀ H : Hp, Only H → SqL K H a (ns.map V.int) → HOk P w H s₁.heap → (∀ b, H b ≠ none → b = a) → (H a ≠ none → K.lookup a = none) →
      codeAny (model P w) callerA (.call (.ref fa) ⟨[.ref a], []⟩) (fun r s' => r = .ok (.ret (.bool true)) ∧ OldK s₁.heap s'.heap ∧ s'.os = s₁.os ∧ AllBare s'.gens) s₁ := by
    intro H hO hS hok hA hK
    have base_of : ∀ {b : Addr} {o : Obj}, s₁.heap.get? b = some o → H b = none → (hidT s₁.heap H).get? b = some o := fun e n => hidT_get e n
    have noA : ∀ {b : Addr} {o : Obj} {es : Array DictEntry} {ep : Nat}, s₁.heap.get? b = some o → o.data = .dict es ep → H b = none := fun {b o es ep} e d => by
      cases q : H b with
      | none => rfl
      | some u =>
        have e' : b = a := hA b (by rw [q]; simp)
        subst e'
        rw [ha] at e; cases e
        have d' : Data.seq vs.toArray _ = Data.dict es ep := d
        cases d'
    have nsK : ∀ {b : Addr} {m : Str → Option Value}, s₁.heap.Ns b m → (hidT s₁.heap H).Ns b m := fun {b m} ⟨o, es, ep, e, d, r⟩ => ⟨o, es, ep, base_of e (noA e d), d, r⟩
    have hKb : K.In (hidT s₁.heap H) := fun b o e => base_of (KX b o e) (by
      cases q : H b with
      | none => rfl
      | some u =>
        have e' : b = a := hA b (by rw [q]; simp)
        subst e'
        rw [hK (by rw [q]; simp)] at e; cases e)
    have hM : Mod K mg (hidT s₁.heap H) := ⟨hKb, nsK hns, ⟨mb, nsK hb, hbb⟩, let ⟨mc, h1, h2⟩ := hlim; ⟨mc, nsK h1, h2⟩⟩
    have e0 : Env0 P w K mg (hidT s₁.heap H) callerA [] s₁ H := ⟨rfl, hM, fun b o e => of_hidT e, Nat.le_of_eq (hidT_size _ _), trivial, fun b hb => absurd (show b ∈ ([] : List Addr) from hb) (by simp), hok, .of_eq hg⟩
    refine codeAny_mono ((F _ hKb (nsK hns)).run callerA [] s₁ H ⟨[.ref a], []⟩ [.ref a] [.ref a] _ _ hr e0 (hbind s₁ (.ref a)) (.cons rfl .nil) (hsp H hO hS)) fun r s' h => ?_
    cases r with
    | error e => exact (hCX H e s' h).elim
    | ok fl =>
      cases fl with
      | next => exact False.elim h
      | brk => exact False.elim h
      | cont => exact False.elim h
      | ret u =>
        obtain ⟨v, H', os, bare, un, hok', r', q⟩ := h
        have q' : v = .bl true := q
        subst q'
        obtain rfl : u = Value.bool true := r'
        refine ⟨rfl, OldK.of_keep fun b o e => ?_, os, bare⟩
        cases q : H b with
        | none => exact un.keep b o e q (by intro z; exact absurd (show b ∈ ([] : List Addr) from z) (by simp)) (by simp)
        | some u =>
          rcases hO b with z | ⟨ob, xs, z⟩
          · rw [q] at z; cases z
          · have z2 := un.frzs b ob _ z
            obtain ⟨e1, _⟩ := hok b _ z
            obtain ⟨e2, _⟩ := hok' b _ z2
            rw [e] at e1; cases e1
            exact e2
  cases hk : K.lookup a with
  | some o =>
    -- the script is one of the module's own objects
    have e := KX a o hk
    rw [ha] at e
    cases e
    refine core (fun _ => none) (fun _ => .inl rfl) (.inr ⟨_, vs.toArray, _, hk, rfl, rfl, rfl, by rw [List.size_toArray, lenV]; exact hl, by simpa using rv⟩) (fun b u z => by have z' : (none : Option HO) = some u := z; cases z') (fun b z => absurd rfl z) fun z => absurd rfl z
  | none =>
    refine core (fun b => if b = a then some (.frz { cls := .type "list", data := .seq vs.toArray } (.lst (ns.map V.int))) else none) (fun b => ?_) (.inl (.inr ⟨{ cls := .type "list", data := .seq vs.toArray }, if_pos rfl⟩)) (fun b u z => ?_) (fun b z => ?_) fun _ => hk
    · by_cases hb : b = a
      · exact .inr ⟨_, _, if_pos hb⟩
      · exact .inl (if_neg hb)
    · by_cases hb : b = a
      · have z' := (if_pos hb).symm.trans z
        cases z'
        subst hb
        exact ⟨ha, by rw [List.length_map]; exact hl, vs, _, rv, ha⟩
      · have z' := (if_neg hb).symm.trans z
        cases z'
    · by_cases hb : b = a
      · exact hb
      · exact absurd (if_neg hb) z
end L2

namespace L2
open PySem PySem.Spec PyProof.Rows

abbrev KOf {K : PySem.W.Frag} {h : Heap} (_ : K.In h) : PySem.W.Frag := K


theorem walk_of {l : PySem.W.OpenLaw} {n k : Nat} {q : Program} {loose : List Str} {XP : (Str → Option Value) → Heap → Prop} {YP : World → Heap → Prop} {d : DefRec} {K : Params → PySem.W.Frag} {CX : World → CXT} {sp : World → Sp} {x : Str}
    (hn : l.most = some n) (hn2 : n ≤ sizeLine) (hdf : d.params.defaults = []) (hr : Room k callerA)
    (hY : ∀ (w : World) (h : Heap), YP w h → (K w.params).In h)
    (F : ∀ (w : World) (mg : Str → Option Value) (fa : Addr) (h : Heap), (K w.params).In h → h.Ns mainGlobals mg → mg d.name = some (.ref fa) →
      ∃ fd : FuncData, (∀ (s : Shared) (u : Value), BindsTo s fd ⟨[u], []⟩ [(x, u)]) ∧
        ∀ base : Heap, (K w.params).In base → base.Ns mainGlobals mg → FnOk l.prog w (K w.params) mg base (CX w) k fa fd [x] (sp w))
    (hsp : ∀ (w : World) (H : Hp) (a : Addr) (ns : List Int), ns.length ≤ n → Only H → SqL (K w.params) H a (ns.map V.int) → sp w [.ref a] H (fun v _ => v = .bl true) fun _ _ _ => False)
    (hCX : ∀ (w : World) (H : Hp) (s : Shared) (e : Value) (s' : Shared), CX w [] H s (fun _ _ _ => False) e s' → False) :
    PySem.W.WalkO q loose XP YP l.row.toRowW d [] (fun f vs => PySem.call f vs) := by
  refine Att.attach_call hn hdf fun w s₀ s₁ mg mb fa o pm cd doc a vs ns G Y ho hd hcd hmg hobj hints hlen hg => ?_
  have KX := hY w _ Y
  obtain ⟨fd, hb, hF⟩ := F w mg fa _ KX G.T.g hmg
  exact law_call KX G.T.g G.T.b G.T.builtins G.T.nolimit hg hobj hints (Nat.le_trans hlen hn2) hr hF hb (fun H hO hS => hsp w H a ns hlen hO hS) fun H e s' => hCX w H s₁ e s'

end L2




namespace L2
open PySem PySem.Spec PyProof.Rows



def inClass (s : Stmt) (j : Nat) : Stmt := match s with
  | .ClassDef _ _ _ body _ _ _ _ _ _ _ => body.getD j (.Pass ⟨0, 0, 0, 0⟩)
  | _ => .Pass ⟨0, 0, 0, 0⟩
def defArgs (s : Stmt) : Arguments := match s with
  | .FunctionDef _ a _ _ _ _ _ _ _ _ => a
  | _ => { posonlyargs := [], args := [], vararg := none, kwonlyargs := [], kw_defaults := [], kwarg := none, defaults := [] }
def defBody (s : Stmt) : List Stmt := match s with
  | .FunctionDef _ _ b _ _ _ _ _ _ _ => b
  | _ => []
def defScope (s : Stmt) : Scope := match s with
  | .FunctionDef _ _ _ _ _ _ sc _ _ _ => sc
  | _ => { kind := .function, names := [], isGenerator := false, isCoroutine := false }


abbrev CX0 : CXT := fun _ _ _ _ _ _ => False
abbrev E0 : XK := fun _ _ _ => False
theorem pass0 {X : Cx} : Passes CX0 X E0 := fun _ _ _ _ _ _ _ h => h.elim


structure Fun (K : PySem.W.Frag) (x qual : Str) (st : Stmt) (f : Addr) (fd : FuncData) : Prop where
  ex : ∃ (oc : Value) (od : Option Addr) (kV doc pm : Value) (an : Option Addr) (cdv ct : Value) (osl : Array (Option Value)),
    fd = PySem.W.fnOf x qual (defArgs st) (defBody st) (defScope st) .none kV doc pm an cdv ct ∧ K.lookup f = some ⟨oc, od, .func fd, osl⟩ ∧ PySem.W.codeIn K cdv qual = true
  kp : PySem.W.keepIn K (.ref f) = true
section
variable {P : Program} {w : World} {K : PySem.W.Frag} {mg : Str → Option Value} {base : Heap}

theorem Fun.ok {x qual : Str} {st : Stmt} {f : Addr} {fd : FuncData} {N ps : List Str} {k : Nat} {sp : Sp} (F : Fun K x qual st f fd) (S : FnScope N ps (defScope st)) (len : ∀ vs H Q E, sp vs H Q E → vs.length = ps.length)
    (hbody : ∀ (cdv : Value) (A : Around) (outer : List Env) (s : Shared) (H : Hp) (vs : List V) (Q : VK) (E : XK), Room k (A.deeper (envOfC qual (defScope st) s.heap.objs.size f cdv)) → sp vs H Q E →
      ∃ t, PSs (cxOf CX0 P w K mg base N qual (defScope st) f cdv A outer s H E).nox (defBody st) t ∧ t { nx := fun _ H' => Q .non H', rt := Q } (start N vs) H) : FnOk P w K mg base CX0 (k + 1) f fd ps sp := by
  obtain ⟨oc, od, kV, doc, pm, an, cdv, ct, osl, rfl, lk, hcd⟩ := F.ex
  refine fn_of lk hcd S len fun A outer s H vs Q E hr hsp => ?_
  obtain ⟨t, h, q⟩ := hbody cdv A outer s H vs Q E hr hsp
  exact ⟨t, h.nox, q⟩

theorem Fun.binds {x qual : Str} {st : Stmt} {f : Addr} {fd : FuncData} {ps : List Str} (F : Fun K x qual st f fd)
    (h : ∀ (kV doc pm : Value) (an : Option Addr) (cdv ct : Value) (us : List Value), us.length = ps.length → bindArgs (PySem.W.fnOf x qual (defArgs st) (defBody st) (defScope st) .none kV doc pm an cdv ct) ⟨us, []⟩ = pure (ps.zip us)) : Binds K fd ps [] := by
  obtain ⟨oc, od, kV, doc, pm, an, cdv, ct, osl, rfl, lk, hcd⟩ := F.ex
  exact .all (h kV doc pm an cdv ct)
theorem fun_mk {x qual : Str} {st : Stmt} {f : Addr} {oc : Value} {od an : Option Addr} {osl : Array (Option Value)} {kV doc pm cdv ct : Value} (l : K.lookup f = some ⟨oc, od, .func (PySem.W.fnOf x qual (defArgs st) (defBody st) (defScope st) .none kV doc pm an cdv ct), osl⟩)
    (c : PySem.W.codeIn K cdv qual = true) (k : PySem.W.keepIn K (.ref f) = true) : Fun K x qual st f (PySem.W.fnOf x qual (defArgs st) (defBody st) (defScope st) .none kV doc pm an cdv ct) := ⟨⟨oc, od, kV, doc, pm, an, cdv, ct, osl, rfl, l, c⟩, k⟩
end
theorem hu_of {A : Around} {k : Nat} (hr : Room k A) : A.units + 1 < cLine := Nat.lt_of_le_of_lt (Nat.add_le_add_left (by decide : 1 ≤ 64) _) hr.units
section
variable {X : Cx}
theorem pv (i : Nat) {x : Str} {pos : Pos} (hN : X.N[i]? = some x := by rfl) (hv : Vis X.env.scope x := by first | exact Or.inl rfl | exact Or.inr (Or.inl rfl) | exact Or.inr (Or.inr rfl)) (hd : (x == ("__debug__" : Str)) = false := by decide)
    (hcd : (x == ("__classdict__" : Str)) = false := by decide) : PE X (.Name x pos) (tVar i) := pe_var hN hv hd hcd
end


theorem iteF {A B : Prop} (h : B) : if false = true then A else B := by
  rw [if_neg Bool.false_ne_true]
  exact h
theorem iteT {A B : Prop} (h : A) : if true = true then A else B := by
  rw [if_pos rfl]
  exact h
theorem ite2 {c A B : Prop} [Decidable c] (h1 : c → A) (h2 : ¬ c → B) : if c then A else B := by
  by_cases h : c
  · rw [if_pos h]
    exact h1 h
  · rw [if_neg h]
    exact h2 h
def Same (H H' : Hp) : Prop := ∀ b o, H b = some o → H' b = some o
theorem Same.refl (H : Hp) : Same H H := fun _ _ h => h
theorem Same.trans {H H1 H2 : Hp} (a : Same H H1) (b : Same H1 H2) : Same H H2 := fun c o h => b c o (a c o h)
theorem Same.free {H H' : Hp} (e : Same H H') {l : Addr} (h : H' l = Option.none) : H l = Option.none := by
  cases q : H l with
  | none => rfl
  | some o =>
    rw [e l o q] at h
    cases h
theorem Same.seq {K : PySem.W.Frag} {H H' : Hp} {a : Addr} {xs : List V} (e : Same H H') (h : SqL K H a xs) : SqL K H' a xs := by
  rcases h with (h | ⟨o, h⟩) | h
  · exact .inl (.inl (e _ _ h))
  · exact .inl (.inr ⟨o, e _ _ h⟩)
  · exact .inr h

end L2


set_option linter.all false
set_option maxRecDepth 100000
set_option maxHeartbeats 4000000
namespace L2
open PySem PySem.Spec PyProof.Rows

theorem ObjOk.at_ {P : Program} {w : World} {H : Hp} {h : Heap} {a : Addr} {o : HO} (x : ObjOk P w H h a o) : ∃ u, h.get? a = some u := by
  cases o with
  | lst xs => obtain ⟨_, _, _, _, e⟩ := x; exact ⟨_, e⟩
  | tup xs => obtain ⟨_, _, _, o, e, _⟩ := x; exact ⟨_, e⟩
  | dK kvs => obtain ⟨_, _, _, _, o, _, _, e, _⟩ := x; exact ⟨_, e⟩
  | dT kvs => obtain ⟨_, _, _, _, o, _, _, e, _⟩ := x; exact ⟨_, e⟩
  | set S n => obtain ⟨o, _, _, _, e, _⟩ := x; exact ⟨_, e⟩
  | ins C dx fs => obtain ⟨_, _, _, e, _⟩ := x; exact ⟨_, e⟩
  | own y => obtain ⟨o, e⟩ := x; exact ⟨_, e⟩
  | xd fs => obtain ⟨_, ⟨o, _, _, e, _⟩, _⟩ := x; exact ⟨_, e⟩
  | rng lo hi => obtain ⟨_, _, _, e⟩ := x; exact ⟨_, e⟩
  | frz ob u => obtain ⟨e, _⟩ := x; exact ⟨_, e⟩
  | tbl ps => exact ⟨_, (show h.get? a = some _ from x)⟩
  | met f y => exact ⟨_, (show h.get? a = some _ from x)⟩
  | ext φ => obtain ⟨_, e, _⟩ := x; exact e


structure Fly (P : Program) (w : World) (l : List Env) (H : Hp) (s : Shared) (e : Addr) (cls : Value) (H' : Hp) (s' : Shared) : Prop where
  os : s'.os = s.os
  bare : AllBare s'.gens
  un : Un (frs l) [] H H' s.heap s'.heap
  hok : HOk P w H' s'.heap
  new : H' e = none
  fly : ∃ B a0, Heap.FlyingW B l e cls a0 s'.heap ∧ (∀ b u, H' b = some u → ∃ o, B.get? b = some o) ∧ ∀ b o, s.heap.get? b = some o → b ∉ frs l → ∃ o', B.get? b = some o'
def CXo (P : Program) (w : World) : CXT := fun l H s E ev s' => ∃ e cls H', ev = .ref e ∧ Fly P w l H s e cls H' s' ∧ E cls none H'

theorem fly_un {fs : List Addr} {H H' : Hp} {h h' h'' B : Heap} (un : Un fs [] H H' h h') (sB : B.StaysIn h') (sB' : B.StaysIn h'') (up : h'.UpToSlots h'')
    (fr : ∀ b ∈ fs, ∃ o, h'.get? b = some o ∧ ∀ vs, o.data ≠ .fields vs) (old : ∀ b o, h.get? b = some o → b ∉ fs → ∃ o', B.get? b = some o') : Un fs [] H H' h h'' where
  keep := fun b o q n hb hx => by
    have e1 := un.keep b o q n hb hx
    obtain ⟨o', eB⟩ := old b o q hb
    have e2 := sB b o' eB
    rw [e1] at e2; cases e2
    exact sB' b o eB
  slot := fun b o q n hb hx => by
    obtain ⟨sl, e1⟩ := un.slot b o q n hb hx
    obtain ⟨o', e2, nf⟩ := fr b hb
    rw [e1] at e2; cases e2
    obtain ⟨sl', e3⟩ := up b _ e1 nf
    exact ⟨sl', e3⟩
  free := un.free
  there := fun b o q hx => by
    by_cases hb : b ∈ fs
    · obtain ⟨o', e2, nf⟩ := fr b hb
      obtain ⟨sl', e3⟩ := up b _ e2 nf
      exact ⟨_, e3⟩
    · obtain ⟨o', eB⟩ := old b o q hb
      exact ⟨o', sB' b o' eB⟩
  tups := un.tups
  frzs := un.frzs
  tbls := un.tbls
theorem fly_hok {P : Program} {w : World} {H : Hp} {h h' B : Heap} (ok : HOk P w H h) (sB : B.StaysIn h) (sB' : B.StaysIn h') (tr : ∀ b u, H b = some u → ∃ o, B.get? b = some o) : HOk P w H h' := fun a o ea =>
  (ok a o ea).stay (fun b u hb eb => by
    have tb : ∃ v, H b = some v := hb.elim (fun z => ⟨o, by rw [z]; exact ea⟩) fun z => ⟨_, z⟩
    obtain ⟨v, hv⟩ := tb
    obtain ⟨o', eB⟩ := tr b v hv
    have e2 := sB b o' eB
    rw [eb] at e2; cases e2
    exact sB' b u eB) (fun _ z => z) fun _ _ z => z

theorem un_under {fs fs' : List Addr} {L : Addr} {H H1 H2 : Hp} {h h1 h2 : Heap} (a : Un fs [] H H1 h h1) (b : Un fs' [] H1 H2 h1 h2) (sub : ∀ x ∈ fs', x = L ∨ x ∈ fs) (sup : ∀ x ∈ fs, x ∈ fs') (hL : h.objs.size ≤ L) : Un fs [] H H2 h h2 := by
  have nL : ∀ c o, h.get? c = some o → c ≠ L := fun c o q z => absurd (Heap.lt_size q) (by rw [z]; exact Nat.not_lt.mpr hL)
  have no : ∀ c o, h.get? c = some o → c ∉ fs → c ∉ fs' := fun c o q n z => (sub c z).elim (nL c o q) n
  exact ⟨fun c o q n hc hx => b.keep c o (a.keep c o q n hc hx) (a.free c o q n hx) (no c o q hc) hx,
    fun c o q n hc hx => by
      obtain ⟨sl, e1⟩ := a.slot c o q n hc hx
      obtain ⟨sl', e2⟩ := b.slot c _ e1 (a.free c o q n hx) (sup c hc) hx
      exact ⟨sl', e2⟩,
    fun c o q n hx => by
      obtain ⟨o', e1⟩ := a.there c o q hx
      exact b.free c o' e1 (a.free c o q n hx) hx,
    fun c o q hx => by
      obtain ⟨o', e1⟩ := a.there c o q hx
      exact b.there c o' e1 hx,
    fun c xs q => b.tups c xs (a.tups c xs q), fun c ob xs q => b.frzs c ob xs (a.frzs c ob xs q),
    fun c ps q => by
      obtain ⟨m1, e1⟩ := a.tbls c ps q
      obtain ⟨m2, e2⟩ := b.tbls c _ e1
      exact ⟨m1 ++ m2, by rw [e2, Array.append_assoc]⟩⟩


structure Sink (X : Cx) (E : XK) : Prop where
  made : ∀ (pins : List (Addr × Obj)) (σ : St) (H : Hp) (s : Shared) (e : Addr) (cls : Value) (args : List Value) (h' : Heap), Inv X pins σ H s → Heap.MadeExcOf s.heap h' e cls args → E cls none H → X.xe (.ref e) { s with heap := h' }
  on : Passes (CXo X.prog X.w) X E


theorem made_part {X : Cx} {pins : List (Addr × Obj)} {σ : St} {H : Hp} {s : Shared} (I : Inv X pins σ H s) :
    (PySem.W.hideAll s.heap (frs X.stack)).StaysIn s.heap ∧ s.heap.FunFrames (PySem.W.hideAll s.heap (frs X.stack)) X.stack ∧ (∀ b o, s.heap.get? b = some o → b ∉ frs X.stack → (PySem.W.hideAll s.heap (frs X.stack)).get? b = some o) ∧
      ∀ b u, H b = some u → ∃ o, (PySem.W.hideAll s.heap (frs X.stack)).get? b = some o := by
  refine ⟨fun b o q => PySem.W.of_hideAll _ q, PySem.W.funFrames_hide I.stack fun env he b hb => List.mem_filterMap.mpr ⟨env, he, hb⟩, fun b o q hb => PySem.W.hideAll_get _ q hb, fun b u q => ?_⟩
  obtain ⟨o, ho⟩ := (I.hok b u q).at_
  exact ⟨o, PySem.W.hideAll_get _ ho fun z => by rw [I.stkFree b z] at q; cases q⟩

theorem sink_def {P : Program} {w : World} {K : PySem.W.Frag} {mg : Str → Option Value} {base : Heap} {N : List Str} {qual : Str} {scope : Scope} {f : Addr} {cd : Value} {A : Around} {outer : List Env} {s : Shared} {H : Hp} {E : XK} :
    Sink (cxOf (CXo P w) P w K mg base N qual scope f cd A outer s H E) E where
  made := by
    intro pins σ H1 s1 e cls args h' I hx hE
    obtain ⟨sB, ff, inB, tr⟩ := made_part I
    show wpAny _ _ (leaving _ (.ref e)) _ _ _
    refine wpAny_leaves_madeW (base := PySem.W.hideAll s1.heap (frs (cxOf (CXo P w) P w K mg base N qual scope f cd A outer s H E).stack)) (h := s1.heap) I.ok.frames rfl sB ff hx fun h'' t x1 x2 x3 x4 => ?_
    have sB1 : (PySem.W.hideAll s1.heap (frs (cxOf (CXo P w) P w K mg base N qual scope f cd A outer s H E).stack)).StaysIn h' := fun b o q => hx.keeps b o (sB b o q)
    have un1 : Un (frs outer) [] H H1 s.heap s1.heap := I.base
    have old : ∀ b o, s.heap.get? b = some o → b ∉ frs outer → ∃ o', (PySem.W.hideAll s1.heap (frs (cxOf (CXo P w) P w K mg base N qual scope f cd A outer s H E).stack)).get? b = some o' := fun b o q hb => by
      obtain ⟨o', e1⟩ := un1.there b o q (by simp)
      refine ⟨o', inB b o' e1 fun z => ?_⟩
      rcases List.mem_cons.mp (I.stkSub b z) with z | z
      · exact absurd (Heap.lt_size q) (by rw [z]; exact Nat.lt_irrefl _)
      · exact hb z
    have fr : ∀ b ∈ frs outer, ∃ o, h'.get? b = some o ∧ ∀ vs, o.data ≠ .fields vs := fun b hb => by
      obtain ⟨_, o, ho, nf⟩ := I.funs.mem hb
      exact ⟨o, hx.keeps b o ho, nf⟩
    refine ⟨e, cls, H1, rfl, ⟨I.os, I.bare, fly_un (un1.trans (Un.kept hx.keeps)) sB1 x1.1 x4 fr old, fly_hok (I.hok.kept hx.keeps) sB1 x1.1 tr, ?_, _, _, x1, tr, old⟩, hE⟩
    cases q : H1 e with
    | none => rfl
    | some u =>
      obtain ⟨o, ho⟩ := (I.hok e u q).at_
      rw [hx.new] at ho; cases ho
  on := by
    intro pins σ H1 s1 ev s' I hcx
    obtain ⟨e, cls, H', rfl, F, hE⟩ := hcx
    obtain ⟨B, a0, fl, tr, old⟩ := F.fly
    show wpAny _ _ (leaving _ (.ref e)) _ _ _
    refine wpAny_leaves_onW I.ok.frames rfl fl fun h'' x1 x4 => ?_
    have un1 : Un (frs outer) [] H H1 s.heap s1.heap := I.base
    have sub : ∀ x ∈ frs (cxOf (CXo P w) P w K mg base N qual scope f cd A outer s H E).stack, x = s.heap.objs.size ∨ x ∈ frs outer := fun x hx => List.mem_cons.mp (I.stkSub x hx)
    have sup : ∀ x ∈ frs outer, x ∈ frs (cxOf (CXo P w) P w K mg base N qual scope f cd A outer s H E).stack := fun x hx => List.mem_cons_of_mem _ hx
    have un2 : Un (frs outer) [] H H' s.heap s'.heap := un_under un1 F.un sub sup (Nat.le_refl _)
    have old' : ∀ b o, s.heap.get? b = some o → b ∉ frs outer → ∃ o', B.get? b = some o' := fun b o q hb => by
      obtain ⟨o', e1⟩ := un1.there b o q (by simp)
      refine old b o' e1 fun z => ?_
      rcases sub b z with z | z
      · exact absurd (Heap.lt_size q) (by rw [z]; exact Nat.lt_irrefl _)
      · exact hb z
    have fr : ∀ b ∈ frs outer, ∃ o, s'.heap.get? b = some o ∧ ∀ vs, o.data ≠ .fields vs := fun b hb => by
      obtain ⟨_, o, ho, nf⟩ := fl.2.2.1.mem (sup b hb)
      exact ⟨o, ho, nf⟩
    exact ⟨e, cls, H', rfl, ⟨F.os.trans I.os, F.bare, fly_un un2 fl.1 x1.1 x4 fr old', fly_hok F.hok fl.1 x1.1 tr, F.new, B, a0, x1, tr, old'⟩, hE⟩


abbrev bmV : List Value := [.type "ValueError", .type "Exception", .type "BaseException", .type "object"]
abbrev newV : String := "ValueError.__new__"

def Exc (K : PySem.W.Frag) (C : Addr) : Prop := PySem.W.excIn K C bmV newV = true
theorem exc_obj {K : PySem.W.Frag} {h : Heap} {C : Addr} {bmB : List Value} {newId : String} (X : K.In h) (q : PySem.W.excIn K C bmB newId = true) :
    ∃ bm N nm qn bs hdct sn sub ab col dd k0 k1 k2 k3 k5 mN, h.get? C = some (excClassObj nm qn C N bs bm hdct sn sub ab col dd k0 k1 k2 k3 k5 newId) ∧ h.Ns N mN ∧ mN "__init__" = none ∧ OwnTail h bmB bm := by
  unfold PySem.W.excIn at q
  split at q
  · rename_i dd cd sl ho
    split at q
    · rename_i C' bm k0 k1 k2 k3 n k5 hm hs
      simp only [Bool.and_eq_true, beq_iff_eq, Bool.not_eq_true'] at q
      obtain ⟨⟨⟨⟨⟨rfl, rfl⟩, hdel⟩, ht⟩, hok⟩, hni⟩ := q
      obtain ⟨nm, bs, mro, ns, qn, hd, sn, sub, ab, col, del⟩ := cd
      dsimp only at hm hdel hok hni
      subst hm hdel
      have hsl : sl = #[k0, k1, k2, k3, some (.builtin n), k5] := by
        obtain ⟨l⟩ := sl
        simp only at hs
        rw [hs]
      subst hsl
      exact ⟨bm, ns, nm, qn, bs, hd, sn, sub, ab, col, dd, k0, k1, k2, k3, k5, _, X _ _ ho, .of_isNs (PySem.W.isNs_of_in X hok), PySem.W.nsMap_none_of_in X hok hni, PySem.W.tail_of_in X ht⟩
    · cases q
  · cases q
section
variable {X : Cx} {E : XK} {x : Str} {C : Addr} {e : Expr} {t : TA} {np cpos pos : Pos}
def tRaise (C : Addr) (E : XK) (t : TA) : TS := fun _ σ H => t σ H fun vs H1 => vs.length ≤ sizeLine ∧ E (.ref C) none H1
theorem ps_raise (S : Sink X E) (hq : Exc X.K C) (hc : X.calm = true) (hg : Gl X x) (hm : X.mg x = some (.ref C)) (ha : PA X [e] t) (hd : (x == ("__debug__" : Str)) = false := by decide)
    (he : starEach [e] X.env = (false, eval e X.env) :: starEach [] X.env := by rfl) (hplain : (backTo cpos (starEach [] X.env)).any (·.1) = false := by rfl) :
    PS X (.Raise (some (.Call (.Name x np) [e] [] cpos)) none pos) (tRaise C E t) := by
  intro pins s σ H D I h
  obtain ⟨tl, N, nm, q, bs, hdct, sn, sub, ab, col, dd, k0, k1, k2, k3, k5, mN, hC, hN, hni, T⟩ := exc_obj I.mod.kin hq
  refine wpAny_Raise_call_subT (C := C) (nm := nm) (q := q) (N := N) (bs := bs) (bm := tl) (hdct := hdct) (sn := sn) (sub := sub) (ab := ab) (col := col) (dd := dd) (k0 := k0) (k1 := k1) (k2 := k2) (k3 := k3) (k5 := k5)
    PySem.F.excBase_ValueError (mN := mN) (T.hasType PySem.F.excBase_ValueError.hasBase) (I.ok.hd hc) (by rw [he]; show (false || (backTo cpos (starEach [] X.env)).any (·.1)) = false; rw [hplain]; rfl) hni (ld_glob I hg hm ⟨rfl, ?_⟩ hd)
  have hA := ha cpos pins s σ H _ I h
  rw [he] at hA ⊢
  refine Calls.evalArgs_plain (thn hA fun us s2 ⟨vs, H2, I2, r, hz, hE⟩ => ⟨rfl, by rw [← r.length]; exact hz, I2.bk _ _ hC, hN.keeps I2.bk, T.keeps I2.bk, fun h' e hm' => ?_⟩)
  exact S.made pins σ H2 s2 e _ _ h' I2 hm' hE
end
end L2


set_option linter.all false
set_option maxRecDepth 100000
set_option maxHeartbeats 4000000
namespace L2
open PySem PySem.Spec PyProof.Rows


def XP (X : Cx) (pins : List (Addr × Obj)) (σ : St) (E : XK) (ev : Value) (s' : Shared) : Prop := ∃ (e : Addr) (cls : Value) (H' : Hp) (B : Heap) (a0 : Value), ev = .ref e ∧ Inv X pins σ H' s' ∧ Heap.FlyingW B X.stack e cls a0 s'.heap ∧ H' e = none ∧
  (∀ b u, H' b = some u → ∃ o, B.get? b = some o) ∧ (∀ b o, X.s₀.heap.get? b = some o → b ∉ frs X.stack → b ∉ X.ex → ∃ o', B.get? b = some o') ∧ (∀ p ∈ X.pn ++ pins, ∃ o', B.get? p.1 = some o') ∧ E cls none H'
section
variable {X : Cx} {pins : List (Addr × Obj)} {σ : St} {H : Hp} {s s' : Shared} {E : XK}
theorem Inv.notStk (I : Inv X pins σ H s) {b : Addr} (h1 : b ≠ X.env.locals) (h2 : b ∉ X.fs) : b ∉ frs X.stack := fun hb => (List.mem_cons.mp (I.stkSub b hb)).elim h1 h2
theorem xp_of {ev : Value} (I : Inv X pins σ H s) (hcx : CXo X.prog X.w X.stack H s E ev s') : XP X pins σ E ev s' := by
  obtain ⟨e, cls, H', rfl, F, hE⟩ := hcx
  obtain ⟨B, a0, fl, tr, old⟩ := F.fly
  refine ⟨e, cls, H', B, a0, rfl, I.call' (ch := []) F.os F.un F.hok F.bare (fun b z => absurd z (by simp)), fl, F.new, tr, fun b o q hb hx => ?_, fun p hp => ?_, hE⟩
  · obtain ⟨o', e1⟩ := I.base.there b o q hx
    exact old b o' e1 hb
  · obtain ⟨p1, _, p3, p4, _⟩ := I.pin p hp
    exact old _ _ p1 (I.notStk p3 p4)

theorem Inv.moved {B h' : Heap} (I : Inv X pins σ H s) (hex : X.ex = []) (sB : B.StaysIn s.heap) (sB' : B.StaysIn h') (up : s.heap.UpToSlots h') (tr : ∀ b u, H b = some u → ∃ o, B.get? b = some o)
    (old : ∀ b o, X.s₀.heap.get? b = some o → b ∉ frs X.stack → b ∉ X.ex → ∃ o', B.get? b = some o') (pn : ∀ p ∈ X.pn ++ pins, ∃ o', B.get? p.1 = some o') : Inv X pins σ H { s with heap := h' } := by
  have cells : ∀ c v, s.heap.IsCell c v → h'.IsCell c v := fun c v ⟨o, ho, hd⟩ => by
    obtain ⟨sl, e1⟩ := up c o ho fun vs z => by rw [hd] at z; cases z
    exact ⟨_, e1, hd⟩
  obtain ⟨m, hn, hl⟩ := I.loc
  refine ⟨I.ok, I.os, I.bare, ?_, ⟨m, up.ns hn, fun i x v h1 h2 h3 => ?_⟩, fun x c h1 => ?_, I.free, I.freeC, fun p hp => ?_, fly_hok I.hok sB sB' tr, I.len⟩
  · have hb := I.base
    rw [hex] at hb ⊢
    refine fly_un hb sB sB' up (fun b hb => ?_) fun b o q hb => old b o q (I.notStk (fun z => ?_) hb) (by rw [hex]; simp)
    · obtain ⟨_, o, ho, nf⟩ := I.funs.mem hb
      exact ⟨o, ho, nf⟩
    · exact absurd (Heap.lt_size q) (by rw [z]; exact Nat.not_lt.mpr I.ok.above)
  · obtain ⟨u, ru, lk⟩ := hl i x v h1 h2 h3
    exact ⟨u, ru, lk.elim .inl fun ⟨k, c, hc, hcell⟩ => .inr ⟨k, c, hc, cells c _ hcell⟩⟩
  · obtain ⟨v, hv⟩ := I.cell x c h1
    exact ⟨v, cells c v hv⟩
  · obtain ⟨p1, p2⟩ := I.pin p hp
    obtain ⟨o', eB⟩ := pn p hp
    have e2 := sB _ _ eB
    rw [p1] at e2; cases e2
    exact ⟨sB' _ _ eB, p2⟩

def xO (e : Addr) (cls : Value) : HO := .ext fun h => ∃ oe, h.get? e = some oe ∧ oe.cls = cls
theorem Inv.track {e : Addr} {cls : Value} {oe : Obj} {vs : Array Value} (I : Inv X pins σ H s) (hex : X.ex = []) (new : H e = none) (he : s.heap.get? e = some oe) (hc : oe.cls = cls) (hd : oe.data = .fields vs) (hs : ∀ o, X.s₀.heap.get? e ≠ some o) (hp : ∀ p ∈ X.pn ++ pins, p.1 ≠ e) :
    Inv X pins σ (upd H e (xO e cls)) s := by
  have hL : X.env.locals ≠ e := fun z => by
    obtain ⟨m, ⟨o, es, ep, ho, hd', _⟩, _⟩ := I.loc
    rw [z, he] at ho; cases ho; rw [hd] at hd'; cases hd'
  have hC : ∀ x c, X.env.cells.lookup x = some c → c ≠ e := fun x c h1 z => by
    obtain ⟨v, o, ho, hd'⟩ := I.cell x c h1
    rw [z, he] at ho; cases ho; rw [hd] at hd'; cases hd'
  refine ⟨I.ok, I.os, I.bare, ?_, I.loc, I.cell, by rw [upd_ne hL]; exact I.free, fun x c h1 => by rw [upd_ne (hC x c h1)]; exact I.freeC x c h1, fun p hp' => ?_, fun a o ea => ?_, I.len⟩
  · exact ⟨I.base.keep, I.base.slot, fun b o q n hx => by rw [upd_ne (fun z => hs o (by rw [← z]; exact q))]; exact I.base.free b o q n hx, I.base.there,
      fun b xs q => by have z := I.base.tups b xs q; rw [upd_ne (ne_of_none z new)]; exact z, fun b ob u q => by have z := I.base.frzs b ob u q; rw [upd_ne (ne_of_none z new)]; exact z,
      fun b ps q => by obtain ⟨mo, z⟩ := I.base.tbls b ps q; exact ⟨mo, by rw [upd_ne (ne_of_none z new)]; exact z⟩⟩
  · obtain ⟨p1, p2, p3⟩ := I.pin p hp'
    exact ⟨p1, by rw [upd_ne (hp p hp')]; exact p2, p3⟩
  · by_cases ha : a = e
    · subst ha
      rw [upd_same] at ea
      cases ea
      exact ⟨⟨oe, he, hc⟩, ⟨oe, he⟩, fun h1 h2 ⟨o, q1, q2⟩ k => ⟨o, k o q1, q2⟩⟩
    · rw [upd_ne ha] at ea
      exact (I.hok a o ea).stay (fun _ _ _ q => q) (fun b q => by rw [upd_ne (ne_of_none q new)]; exact q) fun b xs q => by rw [upd_ne (ne_of_none q new)]; exact q

theorem Inv.gone {i : Nat} {n : Str} {h' : Heap} {t' : Nat} {m : Str → Option Value} {v : Option Value} (I : Inv X pins σ H s) (hN : X.N.Nodup) (hi : X.N[i]? = some n) (hn : s.heap.Ns X.env.locals m)
    (hl : ∀ (i : Nat) (x : Str) (v : V), X.N[i]? = some x → σ[i]? = some (some v) → Vis X.env.scope x → ∃ u, RelV v u ∧ Look X.env s.heap m x u)
    (hn' : h'.Ns X.env.locals (fun x => if x = n then v else m x)) (sb : Heap.SameBut X.env.locals s.heap h') : Inv X pins (σ.set i none) H { s with heap := h', toks := t' } := by
  have get' : ∀ b o, b ≠ X.env.locals → s.heap.get? b = some o → h'.get? b = some o := fun b o hb q => (sb.2 b hb).trans q
  have old : ∀ b o, X.s₀.heap.get? b = some o → b ≠ X.env.locals := fun b o q z => absurd (Heap.lt_size q) (by rw [z]; exact Nat.not_lt.mpr I.ok.above)
  refine ⟨I.ok, I.os, I.bare, ?_, ⟨_, hn', fun j x w h1 h2 h3 => ?_⟩, fun x c h1 => ?_, I.free, I.freeC, fun p hp => ?_, fun a o ea => ?_, by rw [List.length_set]; exact I.len⟩
  · refine ⟨fun b o q n1 n2 n3 => get' b o (old b o q) (I.base.keep b o q n1 n2 n3), fun b o q n1 n2 n3 => ?_, I.base.free, fun b o q n1 => ?_, I.base.tups, I.base.frzs, I.base.tbls⟩
    · obtain ⟨sl, z⟩ := I.base.slot b o q n1 n2 n3
      exact ⟨sl, get' b _ (old b o q) z⟩
    · obtain ⟨o', z⟩ := I.base.there b o q n1
      exact ⟨o', get' b _ (old b o q) z⟩
  · have hji : j ≠ i := fun z => by
      subst z
      rw [List.getElem?_set] at h2
      rw [if_pos rfl] at h2
      split at h2 <;> cases h2
    rw [List.getElem?_set_ne (Ne.symm hji)] at h2
    obtain ⟨u, ru, lk⟩ := hl j x w h1 h2 h3
    refine ⟨u, ru, lk.elim (fun ⟨k, hm⟩ => .inl ⟨k, ?_⟩) fun ⟨k, c, hc, o, ho, hd⟩ => .inr ⟨k, c, hc, o, get' c o (I.cne x c hc) ho, hd⟩⟩
    have hx : x ≠ n := fun z => hji (nodup_ix hN h1 (by rw [z]; exact hi))
    show (if x = n then v else m x) = some u
    rw [if_neg hx]
    exact hm
  · obtain ⟨w, o, ho, hd⟩ := I.cell x c h1
    exact ⟨w, o, get' c o (I.cne x c h1) ho, hd⟩
  · obtain ⟨p1, p2, p3, p4⟩ := I.pin p hp
    exact ⟨get' _ _ p3 p1, p2, p3, p4⟩
  · refine (I.hok a o ea).stay (fun b u hb q => get' b u (fun z => ?_) q) (fun _ z => z) fun _ _ z => z
    rcases hb with rfl | hb
    · rw [z, I.free] at ea; cases ea
    · rw [z, I.free] at hb; cases hb
end


def PEX (X : Cx) (e : Expr) (t : St → Hp → VK → XK → Prop) : Prop :=
  ∀ (pins : List (Addr × Obj)) (s : Shared) (σ : St) (H : Hp) (Q : VK) (E : XK), Inv X pins σ H s → t σ H Q E → wpAny (model X.prog X.w) X.A (eval e X.env) (EP X pins σ Q) (XP X pins σ E) s
def PSX (X : Cx) (st : Stmt) (t : Ends → (St → XK) → St → Hp → Prop) : Prop :=
  ∀ (pins : List (Addr × Obj)) (s : Shared) (σ : St) (H : Hp) (D : Ends) (E : St → XK), Inv X pins σ H s → t D E σ H → wpAny (model X.prog X.w) X.A (exec st X.env) (SP X pins D) (fun ev s' => ∃ σ', XP X pins σ' (E σ') ev s') s
def PSXs (X : Cx) (sts : List Stmt) (t : Ends → (St → XK) → St → Hp → Prop) : Prop :=
  ∀ (pins : List (Addr × Obj)) (s : Shared) (σ : St) (H : Hp) (D : Ends) (E : St → XK), Inv X pins σ H s → t D E σ H → wpAny (model X.prog X.w) X.A (execs sts X.env) (SP X pins D) (fun ev s' => ∃ σ', XP X pins σ' (E σ') ev s') s
section
variable {X : Cx} {k : Nat} {f : Addr} {fd : FuncData} {ps : List Str} {sp : Sp} {dvs : List V} {ds : List Value} {x : Str} {p pos : Pos} {e : Expr} {es : List Expr} {t : TA}
def tCallX (sp : Sp) (dvs : List V) (t : TA) : St → Hp → VK → XK → Prop := fun σ H Q E => t σ H fun vs H1 => sp (vs ++ dvs) H1 Q E
theorem pex_call (F : FnOk X.prog X.w X.K X.mg X.base (CXo X.prog X.w) k f fd ps sp) (hr : Room k X.A) (hg : Gl X x) (hm : X.mg x = some (.ref f)) (hk : PySem.W.keepIn X.K (.ref f) = true) (hb : Binds X.K fd ps ds) (hd : Vals dvs ds)
    (ha : PA X.nox (e :: es) t) (hdb : (x == ("__debug__" : Str)) = false := by decide) (he : starEach (e :: es) X.env = (false, eval e X.env) :: starEach es X.env := by rfl) (hpl : (backTo pos (starEach es X.env)).any (·.1) = false := by rfl) :
    PEX X (.Call (.Name x p) (e :: es) [] pos) (tCallX sp dvs t) := by
  intro pins s σ H Q E I h
  refine wpAny_Call_Name_kw (ld_glob I hg hm ?_ hdb)
  refine PySem.W.callWith_K (h₀ := X.base) I.ok.mod.kin hk (wpAny_mono (ha pos pins s σ H _ (I.wish _) h) (fun us s1 ⟨vs, H1, I1, r, q⟩ => ⟨I1.unwish.kIn, ?_⟩) fun _ _ z => z.elim) he hpl
  have I1' : Inv X pins σ H1 s1 := I1.unwish
  have r2 : Vals (vs ++ dvs) (us ++ ds) := r.append hd
  have hl : (us ++ ds).length = ps.length := by rw [← r2.length]; exact F.len _ _ _ _ q
  refine wpAny_call (codeAny_mono (F.run X.A X.stack s1 H1 ⟨us, []⟩ (us ++ ds) (vs ++ dvs) Q E hr I1'.env0 (hb s1 us I1'.kIn hl) r2 q) fun r s' hq => ?_)
  cases r with
  | error ev => exact xp_of I1' hq
  | ok fl =>
    cases fl with
    | ret u => exact I1'.after hq
    | next => exact False.elim hq
    | brk => exact False.elim hq
    | cont => exact False.elim hq
variable {te : St → Hp → VK → XK → Prop}
def tSetX (i : Nat) (te : St → Hp → VK → XK → Prop) : Ends → (St → XK) → St → Hp → Prop := fun D E σ H => te σ H (fun v H1 => D.nx (σ.set i (some v)) H1) (E σ)
def tExprX (te : St → Hp → VK → XK → Prop) : Ends → (St → XK) → St → Hp → Prop := fun D E σ H => te σ H (fun _ H1 => D.nx σ H1) (E σ)
theorem psx_expr (he : PEX X e te) (hs : swapsWith e none pos.line X.env = pure false := by rfl) : PSX X (.Expr e pos) (tExprX te) := by
  intro pins s σ H D E I h
  exact wpAny_Expr_any (wpAny_mono (he pins s σ H _ _ I h) (fun v s1 ⟨x, H1, I1, r1, q1⟩ => ⟨σ, H1, I1, q1⟩) fun ev s1 q => ⟨σ, q⟩) I.quiet hs
theorem psxs_one {st : Stmt} {t : Ends → (St → XK) → St → Hp → Prop} (h : PSX X st t) : PSXs X [st] t := by
  intro pins s σ H D E I hw
  refine wpAny_execs_cons (thn (h pins s σ H D E I hw) fun f s1 q => ?_)
  cases f with
  | next => exact wpAny_execs_nil q
  | ret v => exact q
  | brk => exact q
  | cont => exact q
end


abbrev Cx.caught (X : Cx) (e : Addr) : Cx := { X with A := X.A.mark (some (.ref e)), calm := false, xe := fun _ _ => False }
section
variable {X : Cx} {pins : List (Addr × Obj)} {σ : St} {H : Hp} {s : Shared}
theorem Inv.caught (I : Inv X pins σ H s) (e : Addr) : Inv (X.caught e) pins σ H s :=
  ⟨⟨I.ok.mod, I.ok.kind, I.ok.glob, I.ok.blt, I.ok.above, I.ok.inj, I.ok.has, I.ok.cab, fun z => absurd (show false = true from z) Bool.false_ne_true, I.ok.frames, I.ok.stk, I.ok.exf, I.ok.bs, I.ok.bsz, I.ok.noex, I.ok.exfs, I.ok.funs, I.ok.frf⟩, I.os, I.bare, I.base, I.loc, I.cell, I.free, I.freeC, I.pin, I.hok, I.len⟩
theorem Inv.uncaught {e : Addr} (ok : X.Ok) (I : Inv (X.caught e) pins σ H s) : Inv X pins σ H s := ⟨ok, I.os, I.bare, I.base, I.loc, I.cell, I.free, I.freeC, I.pin, I.hok, I.len⟩
end

def tTry (K : PySem.W.Frag) (C : Addr) (i : Nat) (tb : Ends → (St → XK) → St → Hp → Prop) (ts : TS) : TS := fun D σ H => tb D (fun σ' cls _ H' => PySem.W.exmOne K cls (.ref C) = some true ∧ ∀ e, H' e = none →
  ts { nx := fun σ2 H2 => D.nx (σ2.set i none) H2, rt := D.rt, bk := fun σ2 H2 => D.bk (σ2.set i none) H2, ct := fun σ2 H2 => D.ct (σ2.set i none) H2 } (σ'.set i (some (.ref e))) (upd H' e (xO e cls))) σ H
theorem ps_try {X : Cx} {body suite : List Stmt} {b₀ : Stmt} {y n : Str} {C : Addr} {i : Nat} {np hpos pos : Pos} {tb : Ends → (St → XK) → St → Hp → Prop} {ts : TS} (hex : X.ex = []) (hst : X.stack = X.env :: X.outer) (hfr : X.env.frame = some X.env.locals)
    (hb : PSXs X body tb) (hN : X.N.Nodup) (hi : X.N[i]? = some n) (hn : X.env.scope.names.lookup n = some .local) (hg : Gl X y) (hm : X.mg y = some (.ref C)) (hs : ∀ e, PSs (X.caught e) (b₀ :: suite) ts)
    (hd : (y == ("__debug__" : Str)) = false := by decide) :
    PS X (.Try body [.ExceptHandler (some (.Name y np)) (some n) (b₀ :: suite) hpos] [] [] pos) (tTry X.K C i tb ts) := by
  intro pins s σ H D I h
  refine wpAny_Try_except (wpAny_mono (hb pins s σ H _ _ I h) (fun f s1 q => ?_) fun ev s1 q => ?_)
  · cases f with
    | next => exact wpAny_execs_nil q
    | ret v => exact q
    | brk => exact q
    | cont => exact q
  · obtain ⟨σ', e, cls, H', B, a0, rfl, I1, fl, new, tr, old, pn, hm1, hts⟩ := q
    have fl1 := fl
    rw [hst] at fl1
    refine wpAny_looks_onW (I1.ok.frames.trans (by rw [hst])) hfr fl1 fun h4 held4 up4 => ?_
    refine wpAny_landsW held4 fun h5 fl5 up5 => ?_
    have I5 : Inv X pins σ' H' { s1 with heap := h5 } := I1.moved hex fl.1 fl5.1 (up4.trans up5) tr old pn
    obtain ⟨oe, vs, he, hc, hdt, _⟩ := fl5.first
    refine wpAny_handleBy_cons (codeAny_handlers_test ?_) (by intro q; cases q)
    refine ld_glob (I5.caught e) hg hm ?_ hd
    have LT : PySem.W.Looks (model X.prog X.w) h5 (typeOf (.ref e)) cls := hc ▸ (PySem.W.Looks.ld he).andThen .now
    refine (PySem.W.exm_one (M := model X.prog X.w) I5.kIn LT hm1) _ _ _ _ (fun _ _ q => q) ?_
    rw [if_pos rfl]
    show codeAny _ _ _ _ _
    refine codeAny_handlers_suite_as ?_
    refine lands_againW fl5 fun h6 fl6 up6 => ?_
    have I6 : Inv X pins σ' H' { s1 with heap := h6 } := I5.moved hex fl5.1 fl6.1 up6 tr old pn
    obtain ⟨oe6, vs6, he6, hc6, hd6, _⟩ := fl6.first
    have nB : B.get? e = none := fl.2.1
    have nfr : ∀ b ∈ frs X.stack, b ≠ e := fun b hb z => by
      rw [hst] at hb
      obtain ⟨_, o, ho, nf⟩ := fl6.2.2.1.mem hb
      rw [z, he6] at ho; cases ho
      exact nf _ hd6
    have I7 : Inv X pins σ' (upd H' e (xO e cls)) { s1 with heap := h6 } := I6.track hex new he6 hc6 hd6 (fun o q => by
      obtain ⟨o', z⟩ := old e o q (fun hb => nfr e hb rfl) (by rw [hex]; simp)
      rw [nB] at z; cases z) fun p hp z => by
        obtain ⟨o', q⟩ := pn p hp
        rw [z, nB] at q; cases q
    refine store_ok I7 hN hi (.inl hn) (v := .ref e) rfl (fun s8 I8 => ?_) (.inr hn)
    refine wpAny_mono (hs e pins s8 _ _ _ (I8.caught e) (hts e new)) (fun f s9 q => ?_) fun _ _ z => z.elim
    have kn : X.env.kindOf n = some .local := hn
    have kf : (X.env.scope.kind == .class || (X.env.scope.kind == .module && X.env.locals != X.env.globals)) = false := by rw [I.ok.kind]; rfl
    have go : ∀ {σ2 : St} {H2 : Hp} {R : Unit → Shared → Prop}, Inv (X.caught e) pins σ2 H2 s9 → (∀ s10, Inv X pins (σ2.set i none) H2 s10 → R () s10) → wpAny (model X.prog X.w) X.A (do bindName X.env n .none; unbindBehindTheSuite X.env n hpos) R X.xe s9 := fun {σ2 H2 R} I9 k => by
      have I9' : Inv X pins σ2 H2 s9 := I9.uncaught I.ok
      obtain ⟨m, hnm, hl⟩ := I9'.loc
      exact wpAny_nameGoes_keeps kn hnm kf fun h' v hn' sb => k _ (I9'.gone hN hi hnm hl hn' sb)
    cases f with
    | next => obtain ⟨σ2, H2, I9, q⟩ := q; exact go I9 fun s10 I10 => ⟨_, H2, I10, q⟩
    | brk => obtain ⟨σ2, H2, I9, q⟩ := q; exact go I9 fun s10 I10 => ⟨_, H2, I10, q⟩
    | cont => obtain ⟨σ2, H2, I9, q⟩ := q; exact go I9 fun s10 I10 => ⟨_, H2, I10, q⟩
    | ret u => obtain ⟨v, σ2, H2, I9, r, q⟩ := q; exact go I9 fun s10 I10 => ⟨v, _, H2, I10, r, q⟩
end L2


set_option linter.all false
set_option maxRecDepth 100000
set_option maxHeartbeats 4000000
namespace L2
open PySem PySem.Spec PyProof.Rows


def Its (x : Str) : It := ⟨fun i _ => i < x.cps.size, fun i H v H' => H' = H ∧ ∃ c, x.cps[i]? = some c ∧ v = .str ⟨#[c]⟩, fun i _ => i = x.cps.size⟩
abbrev keepsTuple : List String := ["enumerate", "zip", "dict_itemiterator", "dict_reverseitemiterator", "odict_iterator", "itertools.zip_longest", "itertools.pairwise"]
theorem turn_str {P : Program} {w : World} {K : PySem.W.Frag} {tg : Expr} {ty : String} {x : Str} {t : Tok} (it : Addr)
    (W : ∀ A : Around, A.handled = none → Walks P w A it [it] [it] x.cps.size (SignAt x) (fun i h => h.IsStrIter it ty x t i))
    (hn : keepsTuple.contains ty = false)
    (hself : ∀ (A : Around) (i : Nat) (s : Shared) (Q : Value → Shared → Prop) (E : Value → Shared → Prop), s.heap.IsStrIter it ty x t i → Q (.ref it) s → wpAny (model P w) A (pyIter (.ref it)) Q E s) :
    Turn P w K tg (Its x) [it] it (fun i h => h.IsStrIter it ty x t i) where
  mem := by simp
  obj := fun i h st b hb => by
    have eb : b = it := by simpa using hb
    subst eb
    obtain ⟨o, eo, _, d⟩ := st
    exact ⟨o, eo, fun v z => by rw [d] at z; cases z⟩
  keep := fun i h h' st k => by
    obtain ⟨o, eo, r⟩ := st
    exact ⟨o, k it (by simp) o eo, r⟩
  item := by
    intro X hP hw hK hc i pins s σ H E I hf st hg
    subst hP hw hK
    obtain ⟨f0, f1, f2, f3, f4, f5⟩ := hf it (by simp)
    refine (W X.A (I.ok.hd hc)).item i s _ _ hg st fun v h' tk hv st' kk => ?_
    obtain ⟨c, u, hcx, rfl⟩ := hv
    have I1 : Inv X pins σ H { s with heap := h', toks := tk } := I.turned (fun b o hb eo => kk b o (by simpa using hb) eo) f0 f1 f3 f4 f5
    obtain ⟨o, eo, c', d⟩ := id st'
    exact ⟨_, rfl, go_of (s := { s with heap := h', toks := tk }) eo c' d hn ⟨.str ⟨#[c]⟩, H, I1, ⟨u, rfl⟩, ⟨rfl, c, hcx, rfl⟩, st', fun b hb => (hf b hb).1⟩⟩
  done := by
    intro X hP hw hK hc i pins s σ H E I hf st hg
    subst hP hw hK
    obtain ⟨f0, f1, f2, f3, f4, f5⟩ := hf it (by simp)
    have ei : i = x.cps.size := hg
    subst ei
    exact (W X.A (I.ok.hd hc)).done s _ _ st fun h' tk kk => ⟨rfl, I.turned (fun b o hb eo => kk b o (by simpa using hb) eo) f0 f1 f3 f4 f5⟩
  self := fun A i s Q E st h => hself A i s Q E st h

section
variable {X : Cx} {tg : Expr}
def iStr (tl : TE) : TI := fun σ H R => tl σ H fun v H1 => ∃ x, v = .str x ∧ R (Its x) H1
theorem pi_str {l : Expr} {tl : TE} (hl : PE X l tl) : PI X tg l (iStr tl) := by
  intro pins s σ H R I h
  refine thn (hl pins s σ H _ I h) fun v s1 ⟨y, H1, I1, r1, q1⟩ => ?_
  obtain ⟨x, rfl, q⟩ := q1
  obtain ⟨t, rfl⟩ := r1
  have fp : ∀ b ∈ [s1.heap.objs.size], FpOk X pins H1 b := fun b hb => by
    have eb : b = s1.heap.objs.size := by simpa using hb
    subst eb
    exact I1.fpOk (Nat.le_refl _) (I1.hok.fresh (Nat.le_refl _))
  cases ha : x.cps.all (· < 128)
  · refine wpAny_pyIter_wide ha ?_
    exact ⟨s1.heap.objs.size, [s1.heap.objs.size], _, _, H1, rfl, I1.kept (t' := s1.toks) fun b o eo => Heap.get?_push_of_some _ eo,
      turn_str (ty := "str_iterator") (t := t) _ (fun A hA => Walks.strWide hA _ x t) (by decide) (fun _ _ _ _ _ st hq => wpAny_pyIter_striter_wide st hq), ⟨_, Heap.get?_push_size _ rfl, rfl, rfl⟩, fp, q⟩
  · refine wpAny_pyIter_ascii ha ?_
    exact ⟨s1.heap.objs.size, [s1.heap.objs.size], _, _, H1, rfl, I1.kept (t' := s1.toks) fun b o eo => Heap.get?_push_of_some _ eo,
      turn_str (ty := "str_ascii_iterator") (t := t) _ (fun A hA => Walks.strAscii hA _ x t) (by decide) (fun _ _ _ _ _ st hq => wpAny_pyIter_striter_ascii st hq), ⟨_, Heap.get?_push_size _ rfl, rfl, rfl⟩, fp, q⟩
end
theorem for_str {x : Str} {g : TG} {tb : TS} {D : Ends} {σ : St} {H : Hp} (Pv : Nat → St → Hp → Prop) (h0 : Pv 0 σ H)
    (hs : ∀ i c σ H, x.cps[i]? = some c → Pv i σ H → g (.str ⟨#[c]⟩) σ H fun σ2 H2 => tb { D with nx := Pv (i + 1), ct := Pv (i + 1), bk := D.nx } σ2 H2) (hd : ∀ σ H, Pv x.cps.size σ H → D.nx σ H) :
    ∃ W : Nat → Nat → St → Hp → Prop, (∃ m, W 0 m σ H) ∧ ∀ i m σ H, W i m σ H →
      ((Its x).stop i H ∧ D.nx σ H) ∨ ((Its x).go i H ∧ ∃ N : St → Hp → Prop, (∀ σ' H', N σ' H' → ∃ m', m' < m ∧ W (i + 1) m' σ' H') ∧ ∀ y H', (Its x).yld i H y H' → g y σ H' fun σ2 H2 => tb { D with nx := N, ct := N, bk := D.nx } σ2 H2) := by
  refine ⟨fun i m σ H => m = x.cps.size - i ∧ i ≤ x.cps.size ∧ Pv i σ H, ⟨x.cps.size, by simp, Nat.zero_le _, h0⟩, ?_⟩
  rintro i m σ H ⟨rfl, hi, p⟩
  by_cases hlt : i < x.cps.size
  · refine .inr ⟨hlt, Pv (i + 1), fun σ' H' p' => ⟨x.cps.size - (i + 1), by omega, rfl, hlt, p'⟩, fun y H' yy => ?_⟩
    obtain ⟨eH, c, hcx, rfl⟩ := yy
    subst eH
    exact hs i c σ _ hcx p
  · have ei : i = x.cps.size := by omega
    subst ei
    exact .inl ⟨rfl, hd σ H p⟩



abbrev cxComp (X : Cx) (N : List Str) (scope : Scope) (cl : List (Str × Addr)) (C : Addr) (s₀ : Shared) (H₀ : Hp) (ex : List Addr) (pn : List (Addr × Obj)) : Cx :=
  { X with N := N, s₀ := s₀, H₀ := H₀, env := compEnvC scope cl C X.env, outer := X.stack, stack := X.stack, ex := ex, fn := fun _ => false, pn := pn, xe := fun _ _ => False }

def PTs (X : Cx) (ifs : List Expr) (t : TT) : Prop :=
  ∀ (pins : List (Addr × Obj)) (s : Shared) (σ : St) (H : Hp) (Q : Bool → Hp → Prop), Inv X pins σ H s → t σ H Q →
    wpAny (model X.prog X.w) X.A (forIn ifs true fun c r => if r = true then do let ok ← isTrue c X.env (eval c X.env); pure (ForInStep.yield ok) else pure (ForInStep.yield r)) (TP X pins σ Q) X.xe s
def tYes : TT := fun _ H Q => Q true H
theorem pts_nil {X : Cx} : PTs X [] tYes := fun _ _ _ H _ I h => wpAny_tests_nil ⟨H, I, h⟩
def pick (ρ : List (Option Nat)) (σ : St) : St := ρ.map fun o => o.bind fun j => (σ[j]?).bind id

def CompOk (J : It) (g : TG) (tc : TT) (te : TE) (Q : VK) (l : Addr) (τ : St) (H1 : Hp) : Prop :=
  ∃ W : Nat → Nat → List V → St → Hp → Prop, (∃ m, W 0 m [] τ (upd H1 l (.lst []))) ∧ ∀ i m ys τ H2, W i m ys τ H2 →
    (J.stop i H2 ∧ Q (.ref l) H2) ∨ (J.go i H2 ∧ ∀ x H3, J.yld i H2 x H3 → g x τ H3 fun τ4 H4 => tc τ4 H4 fun b H5 =>
      if b = true then te τ4 H5 fun y H6 => H6 l = some (.lst ys) ∧ ys.length < sizeLine ∧ ∃ m', m' < m ∧ W (i + 1) m' (ys ++ [y]) τ4 (upd H6 l (.lst (ys ++ [y])))
      else ∃ m', m' < m ∧ W (i + 1) m' ys τ4 H5)
def tComp (ρ : List (Option Nat)) (wi : TI) (g : TG) (tc : TT) (te : TE) : TE := fun σ H Q => wi σ H fun J H1 => ∀ l, H1 l = none → CompOk J g tc te Q l (pick ρ σ) H1


theorem comp_loop {prog : Program} {w : World} {A : Around} {R : Result → Shared → Prop} {s : Shared} {elt target iter : Expr} {ifs : List Expr} {scope : Scope} {pos : Pos} {it acc : Value} {env : Env} (Iv : Nat → Shared → Prop)
    (turn : ∀ n s, Iv n s → wpAny (model prog w) A (pyNext it) (fun r s1 => match r with
      | none => R (.ok .next) s1
      | some v => wpAny (model prog w) A (letOwnedTupleGo target it v) (fun _ s1' => wpAny (model prog w) A (assign target env v) (fun _ s2 =>
          wpAny (model prog w) A (forIn ifs true fun c r => if r = true then do let ok ← isTrue c env (eval c env); pure (ForInStep.yield ok) else pure (ForInStep.yield r)) (fun ok s3 =>
            if ok = true then wpAny (model prog w) A (eval elt env) (fun x s4 =>
              wpAny (model prog w) A (call (.builtin "list.append") [acc, x]) (fun _ s5 => ∃ m, m < n ∧ Iv m s5) (fun _ _ => False) s4) (fun _ _ => False) s3
            else ∃ m, m < n ∧ Iv m s3) (fun _ _ => False) s2) (fun _ _ => False) s1') (fun _ _ => False) s1) (fun _ _ => False) s)
    (n : Nat) (h : Iv n s) : codeAny (model prog w) A (.compLoop (.ListComp elt [⟨target, iter, ifs, 0⟩] scope pos) 0 it acc env) R s := by
  refine codeAny_loop rfl Iv (fun n s hI => ?_) n h
  show wpAny _ A ((compTurn (.ListComp elt [⟨target, iter, ifs, 0⟩] scope pos) 0 it acc env).onRaise (fun x => do noteFrame x env; theTreesLotGoes x)) _ _ s
  refine wpAny_noted ?_
  rw [compTurn_list]
  have no : ∀ {P : Value → Shared → Prop} (e : Value) (s' : Shared), False → P e s' := fun _ _ z => z.elim
  refine wpAny_bind (wpAny_standAt (wpAny_bind (wpAny_mono (turn n s hI) (fun r s1 h1 => ?_) no)))
  cases r with
  | none => exact wpAny_pure h1
  | some v =>
    refine wpAny_bind (wpAny_mono h1 (fun _ s1' h1' => ?_) no)
    refine wpAny_bind (wpAny_mono h1' (fun _ s2 h2 => wpAny_bind (wpAny_mono h2 (fun ok s3 h3 => ?_) no)) no)
    cases ok with
    | false => exact wpAny_pure ⟨rfl, h3⟩
    | true => exact wpAny_bind (wpAny_bind (wpAny_mono h3 (fun x s4 h4 => wpAny_bind (wpAny_mono h4 (fun _ s5 h5 => wpAny_pure (wpAny_pure ⟨rfl, h5⟩)) no)) no))

section
variable {X : Cx} {elt tg iter : Expr} {ifs : List Expr} {scope : Scope} {cl : List (Str × Addr)} {N : List Str} {ρ : List (Option Nat)} {pos : Pos} {wi : TI} {g : TG} {tc : TT} {te : TE}


structure CompScope (X : Cx) (N : List Str) (ρ : List (Option Nat)) (scope : Scope) (cl : List (Str × Addr)) : Prop where
  clos : closureFor scope X.env = pure cl
  nocell : ∀ y ∈ scope.names, y.2 ≠ .cell
  kind : scope.kind = .function
  loc : ∀ y ∈ scope.names, y.2 = .local → scope.names.lookup y.1 = some .local
  sub : ∀ x c, cl.lookup x = some c → X.env.cells.lookup x = some c
  has : ∀ x, ((relabel scope X.env).names.lookup x = some .cell ∨ (relabel scope X.env).names.lookup x = some .free) → ∃ c, cl.lookup x = some c
  len : ρ.length = N.length
  from_ : ∀ (i j : Nat) (x : Str), N[i]? = some x → ρ[i]? = some (some j) → X.N[j]? = some x ∧ (X.env.kindOf x = some .cell ∨ X.env.kindOf x = some .free) ∧ ((relabel scope X.env).names.lookup x = some .cell ∨ (relabel scope X.env).names.lookup x = some .free)

theorem pick_get {ρ : List (Option Nat)} {σ : St} {i : Nat} {v : V} (h : (pick ρ σ)[i]? = some (some v)) : ∃ j, ρ[i]? = some (some j) ∧ σ[j]? = some (some v) := by
  unfold pick at h
  rw [List.getElem?_map] at h
  cases e : ρ[i]? with
  | none => rw [e] at h; cases h
  | some o =>
    rw [e] at h
    cases o with
    | none => cases h
    | some j =>
      refine ⟨j, rfl, ?_⟩
      simp only [Option.map_some, Option.bind_some, Option.some.injEq] at h
      cases e2 : σ[j]? with
      | none => rw [e2] at h; cases h
      | some w =>
        rw [e2] at h
        have h' : w = some v := h
        rw [h']

theorem inv_comp {pins : List (Addr × Obj)} {σ : St} {H : Hp} {s s' : Shared} {fp : List Addr} {h₁ : Heap} (S : CompScope X N ρ scope cl) (I : Inv X pins σ H s) (hf : ∀ b ∈ fp, FpOk X pins H b)
    (hlt : ∀ b ∈ fp, b < s.heap.objs.size) (hns : h₁.Ns s.heap.objs.size (fun _ => none)) (hsb : ∀ b o, s.heap.get? b = some o → h₁.get? b = some o) (es : s' = { s with heap := h₁ }) :
    Inv (cxComp X N scope cl s.heap.objs.size s H fp (X.pn ++ pins)) [] (pick ρ σ) H s' := by
  subst es
  have notStk : ∀ b, b ≠ X.env.locals → b ∉ X.fs → b ∉ frs X.stack := fun b h1 h2 hb => by
    rcases List.mem_cons.mp (I.stkSub b hb) with z | z
    · exact h1 z
    · exact h2 z
  have hC : X.env.locals ≠ s.heap.objs.size := Nat.ne_of_lt I.lt
  refine ⟨⟨I.ok.mod, S.kind, I.ok.glob, I.ok.blt, Nat.le_refl _, fun x y c h1 h2 => I.ok.inj x y c (S.sub x c h1) (S.sub y c h2), fun x hx => S.has x hx, fun x c hx _ => absurd (show false = true from hx) Bool.false_ne_true, I.ok.hd, I.ok.frames, .inl rfl,
    fun b hb => ⟨Nat.ne_of_lt (hlt b hb), fun x c h1 => (hf b hb).2.2.2.2.1 x c (S.sub x c h1)⟩, I.bs, Nat.le_trans I.ok.bsz I.sz, fun b o eo hb => ?_, fun b hb => notStk b (hf b hb).2.1 (hf b hb).2.2.1, I.stack, I.stkFree⟩,
    rfl, I.bare, Un.kept hsb, ⟨_, hns, fun i x v h1 h2 h3 => ?_⟩, fun x c h1 => ?_, I.hok.fresh (Nat.le_refl _), fun x c h1 => I.freeC x c (S.sub x c h1), fun p hp => ?_, I.hok.kept hsb, ?_⟩
  · rcases (hf b hb).2.2.2.1 with z | z
    · exact I.ok.noex b o eo z
    · exact absurd (Heap.lt_size (I.ok.bs b o eo).1) (Nat.not_lt.mpr z)
  · obtain ⟨j, hj, hv⟩ := pick_get h2
    obtain ⟨n1, n2, n3⟩ := S.from_ i j x h1 hj
    obtain ⟨m, hn, hl⟩ := I.loc
    have vis : Vis X.env.scope x := n2.elim (fun z => .inr (.inl z)) fun z => .inr (.inr z)
    obtain ⟨u, ru, lk⟩ := hl j x v n1 hv vis
    refine ⟨u, ru, .inr ⟨n3, ?_⟩⟩
    rcases lk with ⟨hk, _⟩ | ⟨_, c, hc, hcell⟩
    · rcases n2 with z | z
      · rw [z] at hk; cases hk
      · rw [z] at hk; cases hk
    · obtain ⟨c', hc'⟩ := S.has x n3
      have ec := S.sub x c' hc'
      rw [hc] at ec
      cases ec
      obtain ⟨o, ho, hd⟩ := hcell
      exact ⟨c, hc', o, hsb c o ho, hd⟩
  · obtain ⟨v, o, ho, hd⟩ := I.cell x c (S.sub x c h1)
    exact ⟨v, o, hsb c o ho, hd⟩
  · have hp' : p ∈ X.pn ++ pins := by simpa using hp
    obtain ⟨p1, p2, p3, p4, p5⟩ := I.pin p hp'
    exact ⟨hsb _ _ p1, p2, Nat.ne_of_lt (Heap.lt_size p1), notStk _ p3 p4, p5⟩
  · show (pick ρ σ).length = N.length
    unfold pick
    rw [List.length_map]
    exact S.len

theorem pe_comp (hc : X.calm = true) (S : CompScope X N ρ scope cl) (hi : PI X tg iter wi)
    (hg : ∀ C s₀ H₀ ex pn, PG (cxComp X N scope cl C s₀ H₀ ex pn) tg g) (ht : ∀ C s₀ H₀ ex pn, PTs (cxComp X N scope cl C s₀ H₀ ex pn) ifs tc) (he : ∀ C s₀ H₀ ex pn, PE (cxComp X N scope cl C s₀ H₀ ex pn) elt te)
    (hs : ∀ x, foldedSetIterable iter X.env x = pure x := by intro _; rfl) : PE X (.ListComp elt [⟨tg, iter, ifs, 0⟩] scope pos) (tComp ρ wi g tc te) := by
  intro pins s σ H Q I h
  rw [eval_ListComp]
  refine wpAny_comprehension_free (use := none) rfl hs S.clos S.kind S.loc (thn (hi pins s σ H _ I h) fun v s1 h1 => thn h1 fun itv s2 h2 => ?_)
  obtain ⟨it, fp, tn, J, H2, e, I2, T, st2, f2, q2⟩ := h2
  subst e
  obtain ⟨W, ⟨m0, w0⟩, turn⟩ := q2 _ (I2.hok.fresh (Nat.le_refl _))
  refine wpAny_newObj_type (wpAny_newFunctionEnv S.nocell (by intro y hy; simp at hy) (fun h₁ hns₁ hsb₁ => ?_) S.kind)
  dsimp only at hns₁ hsb₁ ⊢
  have I3 : Inv X pins σ (upd H2 s2.heap.objs.size (.lst [])) { s2 with heap := s2.heap.push { cls := .type "list", dict := none, data := .seq ([] : List Value).toArray } } :=
    I2.laid (t' := s2.toks) (fun b u eo => Heap.get?_push_of_some _ eo) (Nat.le_refl _) ⟨by simp, [], 0, .nil, Heap.get?_push_size _ rfl⟩
  generalize hs3 : ({ s2 with heap := s2.heap.push { cls := .type "list", dict := none, data := .seq ([] : List Value).toArray } } : Shared) = s3 at I3
  have es3 : s2.heap.push { cls := .type "list", dict := none, data := .seq ([] : List Value).toArray } = s3.heap := by rw [← hs3]
  rw [es3] at hns₁ hsb₁ ⊢
  have f3 : ∀ b ∈ fp, FpOk X pins (upd H2 s2.heap.objs.size (.lst [])) b := fun b hb => by
    obtain ⟨o, eo, _⟩ := T.obj _ _ st2 b hb
    exact ⟨by rw [upd_ne (Nat.ne_of_lt (Heap.lt_size eo))]; exact (f2 b hb).1, (f2 b hb).2⟩
  have lt3 : ∀ b ∈ fp, b < s3.heap.objs.size := fun b hb => by
    obtain ⟨o, eo, _⟩ := T.obj _ _ st2 b hb
    rw [← es3, Heap.size_push]
    exact Nat.lt_succ_of_lt (Heap.lt_size eo)
  have old : ∀ b o, s3.heap.get? b = some o → h₁.get? b = some o := fun b o eo => hsb₁.extBut b o (Nat.ne_of_lt (Heap.lt_size eo)) (Heap.get?_push_of_some _ eo)
  have Ic : Inv (cxComp X N scope cl s3.heap.objs.size s3 (upd H2 s2.heap.objs.size (.lst [])) fp (X.pn ++ pins)) [] (pick ρ σ) (upd H2 s2.heap.objs.size (.lst [])) { s2 with heap := h₁, toks := s2.toks + ([] : List (Str × Value)).length } :=
    inv_comp S I3 f3 lt3 hns₁ old (by rw [← hs3] <;> rfl)
  have stat : ∀ {pl : List (Addr × Obj)} {H' : Hp}, pl = [] → (∀ b ∈ fp, H' b = none) → ∀ b ∈ fp, FpOk (cxComp X N scope cl s3.heap.objs.size s3 (upd H2 s2.heap.objs.size (.lst [])) fp (X.pn ++ pins)) pl H' b := fun {pl H'} epl hn b hb => by
    subst epl
    refine ⟨hn b hb, Nat.ne_of_lt (lt3 b hb), fun z => ?_, .inl hb, fun x c h1 => (f2 b hb).2.2.2.2.1 x c (S.sub x c h1), fun p hp => (f2 b hb).2.2.2.2.2 p (by simpa using hp)⟩
    rcases List.mem_cons.mp (I3.stkSub b z) with z | z
    · exact (f2 b hb).2.1 z
    · exact (f2 b hb).2.2.1 z
  have st4 : tn 0 h₁ := T.keep _ _ _ st2 fun b hb o eo => old b o (by rw [← es3]; exact Heap.get?_push_of_some _ eo)
  have loop : codeAny (model X.prog X.w) X.A (.compLoop (.ListComp elt [⟨tg, iter, ifs, 0⟩] scope pos) 0 (.ref it) (.ref s2.heap.objs.size) (compEnvC scope cl s3.heap.objs.size X.env))
      (compPost (model X.prog X.w) X.A X.xe none (EP X pins σ Q) (.ref s2.heap.objs.size) s3.heap.objs.size) { s2 with heap := h₁, toks := s2.toks + ([] : List (Str × Value)).length } := by
    refine comp_loop (fun n s' => ∃ i ys τ H', Inv (cxComp X N scope cl s3.heap.objs.size s3 (upd H2 s2.heap.objs.size (.lst [])) fp (X.pn ++ pins)) [] τ H' s' ∧ tn i s'.heap ∧ (∀ b ∈ fp, H' b = none) ∧ W i n ys τ H') ?_ m0
      ⟨0, [], _, _, Ic, st4, fun b hb => (f3 b hb).1, w0⟩
    rintro n s4 ⟨i, ys, τ, H4, I4, st, fr4, w4⟩
    rcases turn i n ys τ H4 w4 with ⟨stop, qn⟩ | ⟨go, step⟩
    · refine thn (T.done (cxComp X N scope cl s3.heap.objs.size s3 (upd H2 s2.heap.objs.size (.lst [])) fp (X.pn ++ pins)) rfl rfl rfl hc i [] s4 τ H4 _ I4 (stat rfl fr4) st stop) fun r s5 ⟨hr, I5⟩ => ?_
      subst hr
      obtain ⟨m5, hn5, _⟩ := I5.loc
      refine ⟨m5, hn5, fun h' hs' => ?_⟩
      have ne : ∀ b, b < s3.heap.objs.size → b ≠ s3.heap.objs.size := fun b hb => Nat.ne_of_lt hb
      have get' : ∀ b o, b ≠ s3.heap.objs.size → s5.heap.get? b = some o → h'.get? b = some o := fun b o hb eo => (hs'.2 b hb).trans eo
      have un : Un (frs X.stack) fp (upd H2 s2.heap.objs.size (.lst [])) H4 s3.heap h' :=
        ⟨fun b o eo n1 n2 n3 => get' b o (ne b (Heap.lt_size eo)) (I5.base.keep b o eo n1 n2 n3), fun b o eo n1 n2 n3 => let ⟨sl, z⟩ := I5.base.slot b o eo n1 n2 n3; ⟨sl, get' b _ (ne b (Heap.lt_size eo)) z⟩,
          I5.base.free, fun b o eo n1 => let ⟨o', z⟩ := I5.base.there b o eo n1; ⟨o', get' b _ (ne b (Heap.lt_size eo)) z⟩, I5.base.tups, I5.base.frzs, I5.base.tbls⟩
      have hok : HOk X.prog X.w H4 h' := fun a o ea => (I5.hok a o ea).stay (fun b u hb eo => get' b u (fun z => by
        have fr : H4 s3.heap.objs.size = none := I5.free
        rcases hb with rfl | hb
        · rw [z, fr] at ea; cases ea
        · rw [z, fr] at hb; cases hb) eo) (fun _ z => z) fun _ _ z => z
      have I6 : Inv X pins σ H4 { s5 with heap := h' } := I3.call' (s' := { s5 with heap := h' }) (ch := fp) (show s5.os = s3.os from I5.os) un hok I5.bare fun b hb => (f3 b hb).2.2.2
          |> fun z => ⟨(f3 b hb).2.2.2.1, (f3 b hb).2.1, (f3 b hb).2.2.2.2.1, (f3 b hb).2.2.2.2.2⟩
      exact ⟨.ref s2.heap.objs.size, H4, I6, rfl, qn⟩
    · refine thn (T.item (cxComp X N scope cl s3.heap.objs.size s3 (upd H2 s2.heap.objs.size (.lst [])) fp (X.pn ++ pins)) rfl rfl rfl hc i [] s4 τ H4 _ I4 (stat rfl fr4) st go) fun r s5 ⟨u, hr, h5⟩ => ?_
      subst hr
      refine thn h5 fun _ s6 ⟨x, H6, I6, r6, y6, st6, fr6⟩ => ?_
      have I6' := I6.pinned (stat rfl fr6) (T.obj _ _ st6)
      have again : ∀ {s9 : Shared} {τ9 : St} {H9 : Hp} {zs : List V} {m' : Nat}, Inv (cxComp X N scope cl s3.heap.objs.size s3 (upd H2 s2.heap.objs.size (.lst [])) fp (X.pn ++ pins)) ([] ++ pinsAt fp s6.heap) τ9 H9 s9 → m' < n → W (i + 1) m' zs τ9 H9 →
          ∃ m, m < n ∧ ∃ i ys τ H', Inv (cxComp X N scope cl s3.heap.objs.size s3 (upd H2 s2.heap.objs.size (.lst [])) fp (X.pn ++ pins)) [] τ H' s9 ∧ tn i s9.heap ∧ (∀ b ∈ fp, H' b = none) ∧ W i m ys τ H' := fun {s9 τ9 H9 zs m'} I9 hm w9 => by
        refine ⟨m', hm, i + 1, zs, τ9, H9, I9.unpinned, T.keep _ _ _ st6 fun b hb o eo => (I9.pin (b, o) (List.mem_append_right _ (List.mem_append_right _ (mem_pinsAt hb eo)))).1, fun b hb => ?_, w9⟩
        obtain ⟨o, eo, d⟩ := T.obj _ _ st6 b hb
        exact (I9.pin (b, o) (List.mem_append_right _ (List.mem_append_right _ (mem_pinsAt hb eo)))).2.1
      refine thn (hg _ _ _ _ _ _ s6 τ H6 x u _ I6' r6 (step x H6 y6)) fun _ s7 ⟨τ7, H7, I7, q7⟩ => ?_
      refine thn (ht _ _ _ _ _ _ s7 τ7 H7 _ I7 q7) fun ok s8 ⟨H8, I8, q8⟩ => ?_
      cases ok with
      | false =>
        rw [if_neg Bool.false_ne_true] at q8 ⊢
        obtain ⟨m', hm, w9⟩ := q8
        exact again I8 hm w9
      | true =>
        rw [if_pos rfl] at q8 ⊢
        refine thn (he _ _ _ _ _ _ s8 τ7 H8 _ I8 q8) fun y s9 ⟨z, H9, I9, r9, hl9, hz9, m', hm, w9⟩ => ?_
        refine thn (mt_append _ s9 τ7 H9 (.ref s2.heap.objs.size) [z] (.ref s2.heap.objs.size) [y] (fun _ H' => H' = upd H9 s2.heap.objs.size (.lst (ys ++ [z]))) I9 rfl (.cons r9 .nil) ⟨_, ys, z, rfl, rfl, hl9, hz9, rfl⟩) fun _ s10 ⟨_, H10, I10, _, e10⟩ => ?_
        subst e10
        exact again I10 hm w9
  exact codeAny_compStart_list loop (T.self _ 0 _ _ _ st4 loop)
end
end L2


set_option linter.all false
set_option maxRecDepth 100000
set_option maxHeartbeats 4000000
namespace L2
open PySem PySem.Spec PyProof.Rows

theorem CompScope.plain {X : Cx} {N : List Str} {ρ : List (Option Nat)} {scope : Scope} (hk : scope.kind = .function) (hn : ∀ y ∈ scope.names, y.2 ≠ .cell ∧ y.2 ≠ .free)
    (hl : ∀ y ∈ scope.names, y.2 = .local → scope.names.lookup y.1 = some .local) (hlen : ρ.length = N.length) (hρ : ∀ o ∈ ρ, o = none) : CompScope X N ρ scope [] := by
  have hre : (relabel scope X.env).names = scope.names := by
    unfold relabel
    refine map_eq_self fun y hy => ?_
    obtain ⟨n, k⟩ := y
    have hf : (k == NameKind.free) = false := by
      have := (hn _ hy).2
      cases k <;> first | rfl | exact absurd rfl this
    show (if (k == NameKind.free && X.env.scope.kind == .function && X.env.kindOf n == some .cell) = true then (n, NameKind.cell) else (n, k)) = (n, k)
    rw [hf]
    rfl
  refine ⟨closureFor_none fun y hy => (hn y hy).2, fun y hy => (hn y hy).1, hk, hl, fun x c h => (by cases h), fun x h => ?_, hlen, fun i j x _ h => ?_⟩
  · rw [hre] at h
    rcases h with h | h
    · exact absurd rfl (hn _ (PySem.mem_of_lookup h)).1
    · exact absurd rfl (hn _ (PySem.mem_of_lookup h)).2
  · have := hρ _ (List.mem_of_getElem? h)
    cases this


theorem comp_str {x : Str} {te : TE} {Q : VK} {H : Hp} {l : Addr} {τ : St} (f : Nat → V) (hl : H l = none) (hτ : 0 < τ.length) (hz : x.cps.size ≤ sizeLine)
    (ht : ∀ (τ' : St) (c : Nat) (H' : Hp) (R : VK), τ'[0]? = some (some (.str ⟨#[c]⟩)) → c ∈ x.cps.toList → R (f c) H' → te τ' H' R) (hq : Q (.ref l) (upd H l (.lst (x.cps.toList.map f)))) :
    CompOk (Its x) (gName 0) tYes te Q l τ H := by
  refine ⟨fun i m ys τ' H2 => m = x.cps.size - i ∧ i ≤ x.cps.size ∧ ys = (x.cps.toList.take i).map f ∧ 0 < τ'.length ∧ H2 = upd H l (.lst ys), ⟨x.cps.size, by simp, Nat.zero_le _, by simp, hτ, rfl⟩, ?_⟩
  rintro i m ys τ' H2 ⟨rfl, hi, rfl, hτ', rfl⟩
  by_cases hlt : i < x.cps.size
  · refine .inr ⟨hlt, fun v H3 hy => ?_⟩
    obtain ⟨eH, c, hc, rfl⟩ := hy
    subst eH
    have hc' : x.cps.toList[i]? = some c := by simpa using hc
    show te _ _ _
    refine ht _ c _ _ ?_ (List.mem_of_getElem? hc') ?_
    · rw [List.getElem?_set_self hτ']
    · have ht1 : (x.cps.toList.take (i + 1)).map f = (x.cps.toList.take i).map f ++ [f c] := by
        rw [List.take_add_one, hc', List.map_append]; rfl
      refine ⟨upd_same, ?_, x.cps.size - (i + 1), by omega, rfl, hlt, ht1.symm, by rw [List.length_set]; exact hτ', by rw [upd_upd]⟩
      rw [List.length_map, List.length_take]
      have : x.cps.toList.length = x.cps.size := by simp
      omega
  · have ei : i = x.cps.size := by omega
    subst ei
    refine .inl ⟨rfl, ?_⟩
    have : x.cps.toList.take x.cps.size = x.cps.toList := by
      apply List.take_of_length_le
      simp
    rw [this]
    exact hq

end L2


set_option linter.all false
set_option maxRecDepth 100000
set_option maxHeartbeats 4000000
namespace L2
open PySem PySem.Spec PyProof.Rows

def closL (cs : List (Str × Addr)) : List (Str × NameKind) → List (Str × Addr) → List (Str × Addr)
  | [], acc => acc
  | y :: r, acc => closL cs r (if y.2 == .free then (y.1, (cs.lookup y.1).getD 0) :: acc else acc)
theorem closL_val (cs : List (Str × Addr)) : ∀ (names : List (Str × NameKind)) (acc : List (Str × Addr)), (∀ p ∈ acc, p.2 = (cs.lookup p.1).getD 0) → ∀ p ∈ closL cs names acc, p.2 = (cs.lookup p.1).getD 0
  | [], acc, h => h
  | y :: r, acc, h => by
    unfold closL
    refine closL_val cs r _ ?_
    split
    · intro p hp
      rcases List.mem_cons.mp hp with rfl | hp
      · rfl
      · exact h p hp
    · exact h
theorem closL_mem (cs : List (Str × Addr)) : ∀ (names : List (Str × NameKind)) (acc : List (Str × Addr)), ∀ p ∈ closL cs names acc, p ∈ acc ∨ ∃ y ∈ names, y.1 = p.1 ∧ y.2 = .free
  | [], acc, p, hp => .inl hp
  | y :: r, acc, p, hp => by
    unfold closL at hp
    rcases closL_mem cs r _ p hp with h | ⟨z, hz, h⟩
    · split at h
      · rename_i hy
        rcases List.mem_cons.mp h with rfl | h
        · refine .inr ⟨y, List.mem_cons_self, rfl, ?_⟩
          cases hk : y.2 <;> rw [hk] at hy <;> first | rfl | cases hy
        · exact .inl h
      · exact .inl h
    · exact .inr ⟨z, List.mem_cons_of_mem _ hz, h⟩
theorem closL_acc (cs : List (Str × Addr)) : ∀ (names : List (Str × NameKind)) (acc : List (Str × Addr)), ∀ p ∈ acc, p ∈ closL cs names acc
  | [], acc, p, hp => hp
  | y :: r, acc, p, hp => by
    unfold closL
    refine closL_acc cs r _ p ?_
    split
    · exact List.mem_cons_of_mem _ hp
    · exact hp
theorem closL_has (cs : List (Str × Addr)) : ∀ (names : List (Str × NameKind)) (acc : List (Str × Addr)), ∀ y ∈ names, y.2 = .free → (y.1, (cs.lookup y.1).getD 0) ∈ closL cs names acc
  | [], acc, y, hy, _ => absurd hy (by simp)
  | z :: r, acc, y, hy, hf => by
    unfold closL
    rcases List.mem_cons.mp hy with rfl | hy
    · refine closL_acc cs r _ _ ?_
      rw [if_pos (by rw [hf]; rfl)]
      exact List.mem_cons_self
    · exact closL_has cs r _ y hy hf
theorem lookup_of_mem : ∀ {l : List (Str × Addr)} {x : Str} {c : Addr}, (x, c) ∈ l → ∃ d, l.lookup x = some d
  | [], _, _, h => absurd h (by simp)
  | (n, k) :: r, x, c, h => by
    rw [List.lookup_cons]
    cases hx : x == n with
    | true => exact ⟨k, rfl⟩
    | false =>
      rcases List.mem_cons.mp h with e | h
      · cases e; simp at hx
      · exact lookup_of_mem h
theorem closureFor_of {scope : Scope} {env : Env} (h : ∀ y ∈ scope.names, y.2 = .free → ∃ c, env.cells.lookup y.1 = some c) : closureFor scope env = pure (closL env.cells scope.names []) := by
  have go : ∀ (names : List (Str × NameKind)) (acc : List (Str × Addr)), (∀ y ∈ names, y.2 = .free → ∃ c, env.cells.lookup y.1 = some c) →
      (forIn (m := Sem) names acc (fun x r => if (x.2 == NameKind.free) = true then do let c ← cellOf env x.1; pure (ForInStep.yield ((x.1, c) :: r)) else pure (ForInStep.yield r))) = pure (closL env.cells names acc) := by
    intro names
    induction names with
    | nil => intro acc _; rfl
    | cons y r ih =>
      intro acc hy
      rw [List.forIn_cons]
      unfold closL
      by_cases hf : (y.2 == NameKind.free) = true
      · have hf' : y.2 = .free := by cases hk : y.2 <;> rw [hk] at hf <;> first | rfl | cases hf
        obtain ⟨c, hc⟩ := hy y List.mem_cons_self hf'
        have e : cellOf env y.1 = pure c := by unfold cellOf; rw [hc]
        rw [if_pos hf, if_pos hf, e, pure_bind, pure_bind, hc]
        exact ih _ fun z hz => hy z (List.mem_cons_of_mem _ hz)
      · rw [if_neg hf, if_neg hf, pure_bind]
        exact ih _ fun z hz => hy z (List.mem_cons_of_mem _ hz)
  have h2 := go scope.names [] h
  simp only [closureFor]
  refine Eq.trans (congrArg (· >>= _) ?_) (by rw [pure_bind])
  exact h2
theorem lookup_relab (g : Str → NameKind → NameKind) : ∀ (l : List (Str × NameKind)) (x : Str), (l.map fun y => (y.1, g y.1 y.2)).lookup x = (l.lookup x).map (g x)
  | [], _ => rfl
  | (n, k) :: r, x => by
    rw [List.map_cons, List.lookup_cons, List.lookup_cons]
    cases hx : x == n with
    | true =>
      have e : x = n := by simpa using hx
      subst e
      rfl
    | false => exact lookup_relab g r x
theorem relabel_lookup (scope : Scope) (env : Env) (x : Str) : (relabel scope env).names.lookup x = (scope.names.lookup x).map fun k => if (k == NameKind.free && env.scope.kind == .function && env.kindOf x == some .cell) = true then .cell else k := by
  rw [← lookup_relab (fun n k => if (k == NameKind.free && env.scope.kind == .function && env.kindOf n == some .cell) = true then .cell else k)]
  unfold relabel
  congr 1
  refine List.map_congr_left fun y _ => ?_
  obtain ⟨n, k⟩ := y
  show (if (k == NameKind.free && env.scope.kind == .function && env.kindOf n == some .cell) = true then (n, NameKind.cell) else (n, k)) = _
  dsimp only
  split <;> rfl

def fromOk (N : List Str) (ρ : List (Option Nat)) (XN : List Str) (dn sn : List (Str × NameKind)) : Bool :=
  (N.zip ρ).all fun p => match p.2 with
    | none => true
    | some j => decide (XN[j]? = some p.1) && decide (dn.lookup p.1 = some .cell) && decide (sn.lookup p.1 = some .free)
theorem CompScope.closes {X : Cx} {N : List Str} {ρ : List (Option Nat)} {scope : Scope} (XN : List Str) (dn : List (Str × NameKind)) (hXN : X.N = XN) (hdn : X.env.scope.names = dn) (hk : scope.kind = .function) (hX : X.env.scope.kind = .function) (hn : ∀ y ∈ scope.names, y.2 ≠ .cell)
    (hfree : ∀ y ∈ scope.names, y.2 = .free → dn.lookup y.1 = some .cell) (hcell : ∀ x, X.env.scope.names.lookup x = some .cell → ∃ c, X.env.cells.lookup x = some c) (hl : ∀ y ∈ scope.names, y.2 = .local → scope.names.lookup y.1 = some .local) (hlen : ρ.length = N.length)
    (hfrom : fromOk N ρ XN dn scope.names = true) : CompScope X N ρ scope (closL X.env.cells scope.names []) := by
  subst hXN hdn
  have kd : ∀ x, X.env.kindOf x = X.env.scope.names.lookup x := fun _ => rfl
  refine ⟨closureFor_of fun y hy hf => hcell _ (hfree y hy hf), hn, hk, hl, fun x c h => ?_, fun x h => ?_, hlen, fun i j x h1 h2 => ?_⟩
  · have hm := PySem.mem_of_lookup h
    have hv := closL_val X.env.cells scope.names [] (fun p hp => absurd hp (by simp)) _ hm
    rcases closL_mem X.env.cells scope.names [] _ hm with z | ⟨y, hy, e1, e2⟩
    · exact absurd z (by simp)
    · obtain ⟨d, hd⟩ := hcell _ (hfree y hy e2)
      have e1' : y.1 = x := e1
      rw [e1'] at hd
      have hv' : c = (X.env.cells.lookup x).getD 0 := hv
      rw [hd] at hv'
      rw [hd, hv']; rfl
  · rw [relabel_lookup] at h
    have hfr : scope.names.lookup x = some .free := by
      cases e : scope.names.lookup x with
      | none => rw [e] at h; rcases h with h | h <;> cases h
      | some k =>
        rw [e] at h
        cases k with
        | free => rfl
        | cell => exact absurd rfl (hn _ (PySem.mem_of_lookup e))
        | _ => rcases h with h | h <;> cases h
    exact lookup_of_mem (closL_has X.env.cells scope.names [] _ (PySem.mem_of_lookup hfr) rfl)
  · unfold fromOk at hfrom
    rw [List.all_eq_true] at hfrom
    have hm : (x, some j) ∈ N.zip ρ := by
      refine List.mem_of_getElem? (i := i) ?_
      rw [List.getElem?_zip_eq_some]
      exact ⟨h1, h2⟩
    have h3 := hfrom _ hm
    simp only [Bool.and_eq_true, decide_eq_true_eq] at h3
    obtain ⟨⟨a1, a2⟩, a3⟩ := h3
    refine ⟨a1, .inl (by rw [kd]; exact a2), .inl ?_⟩
    rw [relabel_lookup, a3, kd, a2, hX]
    rfl


end L2


set_option linter.all false
set_option maxRecDepth 100000
set_option maxHeartbeats 4000000
namespace L2
open PySem PySem.Spec PyProof.Rows
section
variable {X : Cx}
theorem vals_bl : ∀ {bs : List Bool} {us : List Value} {i : Nat} {v : Value}, Vals (bs.map V.bl) us → us[i]? = some v → ∃ b, bs[i]? = some b ∧ v = .bool b := by
  intro bs us i v r e
  cases e2 : (bs.map V.bl)[i]? with
  | none =>
    have := r.none_of e2
    rw [this] at e; cases e
  | some x =>
    obtain ⟨u, hu, ru⟩ := r.get e2
    rw [hu] at e; cases e
    rw [List.getElem?_map] at e2
    cases e3 : bs[i]? with
    | none => rw [e3] at e2; cases e2
    | some b =>
      rw [e3] at e2
      have e4 : V.bl b = x := Option.some.inj e2
      subst e4
      exact ⟨b, rfl, ru⟩
theorem range_all_get (bs : List Bool) : ((List.range bs.length).all fun i => (bs[i]?).getD true) = bs.all id := by
  rw [Bool.eq_iff_iff, List.all_eq_true, List.all_eq_true]
  constructor
  · intro h b hb
    obtain ⟨i, hi, rfl⟩ := List.mem_iff_getElem.mp hb
    have := h i (List.mem_range.mpr hi)
    rw [List.getElem?_eq_getElem hi] at this
    exact this
  · intro h i hi
    have hi' := List.mem_range.mp hi
    rw [List.getElem?_eq_getElem hi']
    exact h _ (List.getElem_mem hi')
theorem call_all (hc : X.calm = true) : CallR X (.builtin "all") (fun xs H Q => ∃ (p : Addr) (bs : List Bool), xs = [.ref p] ∧ SqL X.K H p (bs.map V.bl) ∧ Q (.bl (bs.all id)) H) := by
  intro pins s σ H xs us Q I r h
  obtain ⟨p, bs, rfl, hq, q⟩ := h
  obtain ⟨u, rfl, rx⟩ := vals1 r
  cases rx
  obtain ⟨its, rv, pl, hz⟩ := I.list hq
  have hl := pl.isList
  have hlt : p < s.heap.objs.size := by obtain ⟨_, e, _⟩ := hl; exact Heap.lt_size e
  have hlen : bs.length = its.length := by have := rv.length; rwa [List.length_map] at this
  refine call_all_walk (wpAny_pyIter_list hl ?_)
  refine ⟨s.heap.objs.size, [s.heap.objs.size, p], [s.heap.objs.size], its.toArray.size, _, _, fun i => (bs[i]?).getD true, rfl, Walks.list (A := X.A.in1) (I.ok.hd hc) _ p (Nat.ne_of_lt hlt) its.toArray,
    ⟨⟨_, Heap.get?_push_size _ rfl, rfl, rfl⟩, hl.push _⟩, fun i v s' Q' E' hP hQ => ?_, fun h' tk hk => ?_⟩
  · obtain ⟨b, eb, rfl⟩ := vals_bl rv (i := i) (v := v) (by simpa using hP)
    simp only [eb, Option.getD_some] at hQ
    exact wpAny_truthy_bool hQ
  · have e : ((List.range its.toArray.size).all fun i => (bs[i]?).getD true) = bs.all id := by
      rw [List.size_toArray, ← hlen]; exact range_all_get bs
    rw [e]
    exact ⟨.bl _, H, I.kept (t' := tk) fun b o eb => hk b o (fun z => by rw [List.mem_singleton.mp z] at eb; exact Nat.lt_irrefl _ (Heap.lt_size eb)) (Heap.get?_push_of_some _ eb), rfl, q⟩

def rJoin (K : PySem.W.Frag) : V → List V → Hp → VK → Prop := fun x vs H Q => ∃ (z : Str) (p : Addr) (ys : List Str), x = .str z ∧ vs = [.ref p] ∧ SqL K H p (ys.map V.str) ∧ (ys.map (·.length)).sum + ys.length * z.length ≤ 16777216 ∧ Q (.str (Txt.join z ys)) H
theorem sl_str : SlR X (fun x lo hi H Q => ∃ z, x = .str z ∧ z.length ≤ sizeLine ∧ Q (.str (Txt.slice z lo hi)) H) := by
  intro pins s σ H x v vl vu lo hi sl Q I rx hs pl pu h
  obtain ⟨z, rfl, hz, q⟩ := h
  obtain ⟨t, rfl⟩ := rx
  refine ⟨"str", _, F.slot_str_getitem.lookup, typeIs_str _ _ _, ?_⟩
  have fin : ∀ (t' : Tok) (k : Nat), EP X pins σ Q (.str (Txt.slice z lo hi) t') { s with toks := k } := fun t' k => ⟨.str _, H, I.tok _, ⟨_, rfl⟩, q⟩
  obtain ⟨o, ho, hc, hd⟩ := hs
  cases pl with
  | none =>
    cases pu with
    | none => exact wpAny_getItem_str_slice (l := none) (u := none) (st := none) ⟨o, ho, hc, hd⟩ rfl (post_val_or_str ⟨Nat.le_trans (Txt.slice_le z _ _) hz, fin⟩)
    | int j uj => exact wpAny_getItem_str_slice (l := none) (u := some (j, uj)) (st := none) ⟨o, ho, hc, hd⟩ rfl (post_val_or_str ⟨Nat.le_trans (Txt.slice_le z _ _) hz, fin⟩)
  | int i ui =>
    cases pu with
    | none => exact wpAny_getItem_str_slice (l := some (i, ui)) (u := none) (st := none) ⟨o, ho, hc, hd⟩ rfl (post_val_or_str ⟨Nat.le_trans (Txt.slice_le z _ _) hz, fin⟩)
    | int j uj => exact wpAny_getItem_str_slice (l := some (i, ui)) (u := some (j, uj)) (st := none) ⟨o, ho, hc, hd⟩ rfl (post_val_or_str ⟨Nat.le_trans (Txt.slice_le z _ _) hz, fin⟩)

theorem op_le_str : OpR X (compareOp .LtE) (fun x y H Q => ∃ i j, x = .str i ∧ y = .str j ∧ Q (.bl (!decide (j.cps.toList < i.cps.toList))) H) := by
  intro pins s σ H x y v u Q I rx ry h
  obtain ⟨i, j, rfl, rfl, q⟩ := h
  obtain ⟨t, rfl⟩ := rx
  obtain ⟨t', rfl⟩ := ry
  exact PySem.P.le_str (fin_bl I q rfl)


def clsV : V → Option Value
  | .ty n => some (.type n)
  | .ref a => some (.ref a)
  | _ => none
theorem clsV_rel {c : V} {u w : Value} (h : clsV c = some u) (r : RelV c w) : w = u := by
  cases c with
  | ty n => cases h; exact r
  | ref a => cases h; exact r
  | _ => cases h
theorem call_isi : CallR X (.builtin "isinstance") (fun xs H Q => ∃ x c t u b, xs = [x, c] ∧ TyOf X.K H x t ∧ clsV c = some u ∧ PySem.W.kitOne X.K t u = some b ∧ Q (.bl b) H) := by
  intro pins s σ H xs us Q I r h
  obtain ⟨x, c, t, u, b, rfl, ty, rc, e, q⟩ := h
  obtain ⟨v, w, rfl, rv, rw'⟩ := vals2 r
  have eu : w = u := clsV_rel rc rw'
  subst eu
  exact isinst_ok I rv ty e fun tk => ⟨.bl b, H, I.tok tk, rfl, q⟩
end



def NoT (H : Hp) : Prop := ∀ a, (∀ kvs, H a ≠ some (.dT kvs)) ∧ ∀ o kvs, H a ≠ some (.frz o (.dT kvs))
def plainH : HO → Bool
  | .dT _ => false
  | .frz _ u => plainH u
  | _ => true
theorem ObjOk.less {P : Program} {w : World} {H H' : Hp} {h h' : Heap} {a : Addr} {o : HO} (hp : plainH o = true) (x : ObjOk P w H' h' a o) (y : ObjOk P w H h a o) : ObjOk P w H h' a o := by
  induction o with
  | dT kvs => cases hp
  | ins C dx fs => exact ⟨y.1, x.2⟩
  | frz ob u ih => exact ⟨x.1, ih hp x.2 y.2⟩
  | lst xs => exact x
  | tup xs => exact x
  | dK kvs => exact x
  | set S n => exact x
  | own z => exact x
  | xd fs => exact x
  | rng lo hi => exact x
  | tbl ps => exact x
  | met f z => exact x
  | ext φ => exact x
section
variable {X : Cx} {pins : List (Addr × Obj)} {σ : St} {H H' : Hp} {s s' : Shared}
theorem Inv.less (hp : ∀ a o, H a = some o → plainH o = true) (I : Inv X pins σ H s) (I' : Inv X pins σ H' s') (sm : Same H H') : Inv X pins σ H s' :=
  ⟨I.ok, I'.os, I'.bare, ⟨I'.base.keep, I'.base.slot, I.base.free, I'.base.there, I.base.tups, I.base.frzs, I.base.tbls⟩, I'.loc, I'.cell, I.free, I.freeC, fun p hpp => ⟨(I'.pin p hpp).1, (I.pin p hpp).2⟩,
    fun a o ea => (I'.hok a o (sm a o ea)).less (hp a o ea) (I.hok a o ea), I.len⟩
def Plain (H : Hp) : Prop := ∀ a o, H a = some o → plainH o = true
theorem Plain.upd {H : Hp} {a : Addr} {o : HO} (h : Plain H) (ho : plainH o = true) : Plain (upd H a o) := fun b u e => by
  by_cases hb : b = a
  · subst hb; rw [upd_same] at e; cases e; exact ho
  · rw [upd_ne hb] at e; exact h b u e

def tPure (t : TE) : TE := fun σ H Q => Plain H ∧ t σ H fun v H' => Same H H' ∧ Q v H
theorem pe_pure {e : Expr} {t : TE} (h : PE X e t) : PE X e (tPure t) := by
  intro pins s σ H Q I ⟨hp, hw⟩
  exact thn (h pins s σ H _ I hw) fun v s1 ⟨x, H1, I1, r1, sm, q⟩ => ⟨x, H, I.less hp I1 sm, r1, q⟩
end
end L2


set_option linter.all false
set_option maxRecDepth 100000
set_option maxHeartbeats 4000000
namespace L2
open PySem PySem.Spec PyProof.Rows

structure ExcAt (K : PySem.W.Frag) (C : Addr) : Prop where
  ga : PySem.W.findIn K (.ref C) "__getattribute__" = some (some (.builtin "BaseException.__getattribute__"))
  gt : PySem.W.findIn K (.ref C) "__getattr__" = some none
  cl : PySem.W.findIn K (.ref C) "__class__" = some (some (.builtin "object.__class__"))
  mb : PySem.W.mroIn K C (.type "BaseException") = some true
  mo : PySem.W.mroIn K C (.type "object") = some true
  gs : PySem.W.specialIn K (.builtin "object.__class__") "__get__" = some (some (.builtin "getset_descriptor.__get__"))
  tk : PySem.W.takesIn K (.builtin "object.__class__") = some true
section
variable {prog : Program} {w : World} {A : Around} {E : Value → Shared → Prop} {s : Shared} {K : PySem.W.Frag} {e C : Addr}
open PySem.W Builtin Builtin.ObjectAttr Builtin.Getset_descriptor in
theorem exc_find {M : Model} {h : Heap} (X : K.In h) (c : ExcAt K C) : Looks M h (find (.ref e) (.ref C) "__class__") (Found.bind (Value.builtin "getset_descriptor.__get__") (Value.builtin "object.__class__")) := by
  have L2 : Looks M h (getOf (some (.builtin "object.__class__"))) (some (.builtin "getset_descriptor.__get__")) := looks_specialIn X c.gs
  have L3 : Looks M h (dataDescriptor? (some (.builtin "object.__class__")) (some (.builtin "getset_descriptor.__get__"))) (some (.builtin "getset_descriptor.__get__", .builtin "object.__class__")) := (looks_takesIn X c.tk).andThen .now
  exact (looks_findIn X c.cl).andThen (L2.andThen (L3.andThen (Looks.tag .now)))
open PySem.W Builtin Builtin.ObjectAttr Builtin.Getset_descriptor in
theorem exc_get {R : Result → Shared → Prop} {tp : Value} {oe : Obj} (X : K.In s.heap) (c : ExcAt K C) (he : s.heap.get? e = some oe) (hc : oe.cls = .ref C) (h : R (.ok (.ret (.ref C))) s) :
    codeAny (model prog w) A (.call (.builtin "getset_descriptor.__get__") ⟨[.builtin "object.__class__", .ref e, tp], []⟩) R s := by
  obtain ⟨hh, g, dr, t, os⟩ := s
  have L0 : Looks (model prog w) hh (typeOf (.ref e)) (.ref C) := hc ▸ (Looks.ld he).andThen .now
  have L1 := looks_mroIn (M := model prog w) X c.mo
  refine codeAny_call_builtin KF.slot_gs.plain
    KF.entry_gs (KF.slot_gs.check _ _ _ _ _ _ _ _
      KF.type_class (KF.args_gs _ _ _) ?_)
  unfold Builtin.«getset_descriptor.__get__» descrGet
  rw [dga_obj]
  refine wpAny_bind (wpAny_pure ?_)
  unfold descrGetter descrCheckInstance descrNameAndClass
  unfold isInstance
  simp only [KF.owner_class]
  repeat lk
  refine ⟨Code.quiet_builtin _ (by decide +kernel), ?_⟩
  refine codeAny_builtin KF.entry_class ?_
  unfold Builtin.«object.__class__»
  unfold shownTypeOf
  repeat lk
  exact h
open PySem.W Builtin Builtin.ObjectAttr Builtin.Getset_descriptor in
theorem exc_getattribute {R : Result → Shared → Prop} {tk : Tok} {oe : Obj} (X : K.In s.heap) (c : ExcAt K C) (he : s.heap.get? e = some oe) (hc : oe.cls = .ref C) (h : R (.ok (.ret (.ref C))) s) :
    codeAny (model prog w) A (.call (.builtin "BaseException.__getattribute__") ⟨[.ref e, .str "__class__" tk], []⟩) R s := by
  obtain ⟨hh, g, dr, t, os⟩ := s
  have L0 : Looks (model prog w) hh (typeOf (.ref e)) (.ref C) := hc ▸ (Looks.ld he).andThen .now
  have L1 := looks_mroIn (M := model prog w) X c.mb
  have L3 := exc_find (e := e) (M := model prog w) X c
  have hk : builtinKind "BaseException.__getattribute__" = some .slot := by decide +kernel
  have hsplit : splitId "BaseException.__getattribute__" = some ("BaseException", "__getattribute__") := by decide +kernel
  have ha := PySem.F.args_bexc_ga (.ref e) (.str "__class__" tk)
  refine codeAny_call_builtin PySem.F.excAttr_ValueError.ga.plain PySem.F.entry_bexc_ga ?_
  simp only [checkBuiltinCall, hk, hsplit]
  unfold isInstance
  repeat lk
  refine wpAny_run (exc_get X c he hc ?_)
  dsimp only
  repeat lk
  exact h
open PySem.W Builtin Builtin.ObjectAttr Builtin.Getset_descriptor in
theorem exc_class {Q : Option Value → Shared → Prop} {oe : Obj} (X : K.In s.heap) (c : ExcAt K C) (he : s.heap.get? e = some oe) (hc : oe.cls = .ref C) (h : Q (some (.ref C)) { s with toks := s.toks + 1 }) :
    wpAny (model prog w) A (getAttr? (.ref e) "__class__") Q E s := by
  obtain ⟨hh, g, d, t, os⟩ := s
  have L0 : Looks (model prog w) hh (typeOf (.ref e)) (.ref C) := hc ▸ (Looks.ld he).andThen .now
  have L1 := looks_findIn (M := model prog w) X c.ga
  have L2 := looks_findIn (M := model prog w) X c.gt
  have hb := PySem.F.excAttr_ValueError.ga.bind (.ref e)
  unfold getAttr? getAttrBy? getAttrBy
  refine wpAny_bind (wpAny_mkText (wpAny_bind (wpAny_attempt (wpAny_holding (wpAny_bind (L0.at (wpAny_bind (L1.at ?_))))))))
  show wpAny _ _ (getAttrByItsOwn _ _ _ _ _ _) _ _ _
  unfold getAttrByItsOwn hookBefore
  refine wpAny_bind (L2.at ?_)
  refine wpAny_bind (wpAny_attempt (wpAny_holding ?_))
  show wpAny _ _ (boundAndCalled _ _ _) _ _ _
  unfold boundAndCalled
  rw [hb]
  refine wpAny_bind (wpAny_pure ?_)
  refine wpAny_call (exc_getattribute (s := ⟨hh, g, d, t + 1, os⟩) X c he hc ?_)
  dsimp only
  exact handed_on rfl (wpAny_pure h)
open PySem.W in
theorem kitx_exc (hq : Exc K C) (c : ExcAt K C) : KitX K (.ref e) (.ref C) (fun h => ∃ oe, h.get? e = some oe ∧ oe.cls = .ref C) where
  ty := fun M h _ ⟨oe, he, hc⟩ => hc ▸ (Looks.ld he).andThen .now
  it := fun M h X _ => by
    obtain ⟨_, _, _, _, _, _, _, _, _, _, _, _, _, _, _, _, _, hC, _⟩ := exc_obj X hq
    intro A' Q' E' s' k q
    unfold isType loadHead
    exact wpAny_bind (wpAny_loadPart (k _ _ hC) (wpAny_pure q))
  ne := fun h tp dd its n sl X htp => by
    obtain ⟨_, _, _, _, _, _, _, _, _, _, _, _, _, _, _, _, _, hC, _⟩ := exc_obj X hq
    refine Bool.eq_false_iff.mpr fun q => ?_
    have e2 : C = tp := Value.ref.inj (beq_iff_eq.mp q)
    subst e2
    have z : Value.type "type" = Value.type "tuple" := Option.some.inj (congrArg (Option.map Obj.cls) (hC.symm.trans htp))
    exact absurd (Value.type.inj z) (by decide)
  ca := fun X ⟨oe, he, hc⟩ k => exc_class X c he hc k
end
section
variable {X : Cx}

theorem call_isiX : CallR X (.builtin "isinstance") (fun xs H Q => ∃ (e C : Addr) (c : V) (u : Value) (b : Bool), xs = [.ref e, c] ∧ H e = some (xO e (.ref C)) ∧ Exc X.K C ∧ ExcAt X.K C ∧ clsV c = some u ∧ PySem.W.kitOne X.K (.ref C) u = some b ∧ Q (.bl b) H) := by
  intro pins s σ H xs us Q I r h
  obtain ⟨e, C, c, u, b, rfl, he, hq, ha, rc, ek, q⟩ := h
  obtain ⟨v, w, rfl, rv, rw'⟩ := vals2 r
  have eu : w = u := clsV_rel rc rw'
  subst eu
  cases rv
  obtain ⟨p, _, _⟩ := (show ObjOk X.prog X.w H s.heap e (xO e (.ref C)) from I.hok e _ he)
  exact PySem.W.kia_one (kitx_exc hq ha) I.kIn p ek (fun z => nomatch z) fun tk => ⟨.bl b, H, I.tok tk, rfl, q⟩
theorem call_isiXk (K : PySem.W.Frag) (hK : X.K = K) : CallR X (.builtin "isinstance") (fun xs H Q => ∃ (e C : Addr) (c : V) (u : Value) (b : Bool), xs = [.ref e, c] ∧ H e = some (xO e (.ref C)) ∧ Exc K C ∧ ExcAt K C ∧ clsV c = some u ∧ PySem.W.kitOne K (.ref C) u = some b ∧ Q (.bl b) H) := by
  subst hK
  exact call_isiX
end
end L2


set_option linter.all false
set_option maxRecDepth 100000
set_option maxHeartbeats 4000000
namespace L2
open PySem PySem.Spec PyProof.Rows
section
variable {X : Cx} (K : PySem.W.Frag) (hK : X.K = K)
include hK
theorem ix_listK : IxR X (rIxL K) := by subst hK; exact ix_list
theorem ix_tupK : IxR X (rIxT K) := by subst hK; exact ix_tup
theorem sl_listK : SlR X (rSlL K) := by subst hK; exact sl_list
theorem call_len_seqK : CallR X (.builtin "len") (fun xs H Q => ∃ p ys, xs = [.ref p] ∧ (SqL K H p ys ∨ SqT K H p ys) ∧ Q (.int ys.length) H) := by subst hK; exact call_len_seq
theorem call_tuple_ofK : CallR X (.type "tuple") (fun xs H Q => ∃ p ys, xs = [.ref p] ∧ ((SqL K H p ys ∧ ∀ l, H l = none → Q (.ref l) (upd H l (.tup ys))) ∨ (SqT K H p ys ∧ Q (.ref p) H))) := by subst hK; exact call_tuple_of
theorem call_allK (hc : X.calm = true) : CallR X (.builtin "all") (fun xs H Q => ∃ (p : Addr) (bs : List Bool), xs = [.ref p] ∧ SqL K H p (bs.map V.bl) ∧ Q (.bl (bs.all id)) H) := by subst hK; exact call_all hc
theorem call_isiK : CallR X (.builtin "isinstance") (fun xs H Q => ∃ x c t u b, xs = [x, c] ∧ TyOf K H x t ∧ clsV c = some u ∧ PySem.W.kitOne K t u = some b ∧ Q (.bl b) H) := by subst hK; exact call_isi
theorem pi_listK {tg l : Expr} {tl : TE} (hl : PE X l tl) : PI X tg l (iList K tl) := by subst hK; exact pi_list hl
theorem pi_tupK {tg l : Expr} {tl : TE} (hl : PE X l tl) : PI X tg l (iTup K tl) := by subst hK; exact pi_tup hl
variable {o e : Expr} {es : List Expr} {to : TE} {t : TA} {name : Str} {apos cpos : Pos} {T id : String} {r : V → List V → Hp → VK → Prop}
theorem pe_bmK (pa : PlainAttrs T) (slot : Slot T name id) (hty : typeOf (.builtin id) = pure (.type "method_descriptor")) (hm : MtR X id r) (ho : PE X o to) (ha : PA X (e :: es) t)
    (hbase : attributeBase o name X.env (eval o X.env) = eval o X.env := by rfl)
    (hfew : ((backTo cpos (starEach (e :: es) X.env)).all (fun x => !x.1) && (backToKw cpos (keywordEach [] X.env)).all (fun x => x.1.isSome)
      && decide ((e :: es).length + ([] : List Keyword).length + (if ([] : List Keyword).isEmpty then 0 else 1) < 30)) = true := by rfl)
    (hline : (apos.endLine == cpos.line) = true := by rfl) (hs : starEach (e :: es) X.env = (false, eval e X.env) :: starEach es X.env := by rfl) (hplain : (backTo cpos (starEach es X.env)).any (·.1) = false := by rfl) :
    PE X (.Call (.Attribute o name apos) (e :: es) [] cpos) (tBM K T r to t) := by
  subst hK; exact pe_bm pa slot hty hm ho ha hbase hfew hline hs hplain
end
end L2


set_option linter.all false
set_option maxRecDepth 100000
set_option maxHeartbeats 4000000
namespace L2
open PySem PySem.Spec PyProof.Rows
section
variable {P : Program} {w : World} {K : PySem.W.Frag} {mg : Str → Option Value} {base : Heap}

theorem Fun.okX {x qual : Str} {st : Stmt} {f : Addr} {fd : FuncData} {N ps : List Str} {k : Nat} {sp : Sp} (F : Fun K x qual st f fd) (S : FnScope N ps (defScope st)) (len : ∀ vs H Q E, sp vs H Q E → vs.length = ps.length)
    (hbody : ∀ (cdv : Value) (A : Around) (outer : List Env) (s : Shared) (H : Hp) (vs : List V) (Q : VK) (E : XK), Room k (A.deeper (envOfC qual (defScope st) s.heap.objs.size f cdv)) → sp vs H Q E →
      ∃ t, PSs (cxOf (CXo P w) P w K mg base N qual (defScope st) f cdv A outer s H E) (defBody st) t ∧ t { nx := fun _ H' => Q .non H', rt := Q } (start N vs) H) : FnOk P w K mg base (CXo P w) (k + 1) f fd ps sp := by
  obtain ⟨oc, od, kV, doc, pm, an, cdv, ct, osl, rfl, lk, hcd⟩ := F.ex
  exact fn_of lk hcd S len fun A outer s H vs Q E hr hsp => hbody cdv A outer s H vs Q E hr hsp
end

structure Used (P : Program) (w : World) (K : PySem.W.Frag) (mg : Str → Option Value) (CX : CXT) (k : Nat) (x : Str) (ps : List Str) (sp : Sp) : Prop where
  ok : ∃ f fd, (∀ base, FnOk P w K mg base CX k f fd ps sp) ∧ mg x = some (.ref f) ∧ PySem.W.keepIn K (.ref f) = true ∧ Binds K fd ps []

theorem passX {X : Cx} : Passes (CXo X.prog X.w) X E0 := fun _ _ _ _ _ _ _ ⟨_, _, _, _, _, h⟩ => h.elim
theorem Same.upd {H : Hp} {p : Addr} {o : HO} (h : H p = none) : Same H (upd H p o) := fun b u e => by rw [upd_ne (ne_of_none e h)]; exact e

theorem Same.put {H H' : Hp} {p : Addr} {o : HO} (s : Same H H') (h : H p = none) : Same H (L2.upd H' p o) := fun b u e => by rw [upd_ne (ne_of_none e h)]; exact s b u e
def del (H : Hp) (l : Addr) : Hp := fun b => if b = l then none else H b
theorem Same.del {H H' : Hp} (s : Same H H') (l : Addr) : Same (L2.del H l) (L2.del H' l) := fun b o e => by
  unfold L2.del at e ⊢
  split at e
  · cases e
  · rw [if_neg (by assumption)]; exact s b o e
theorem del_upd {H : Hp} {l : Addr} {o : HO} : L2.del (L2.upd H l o) l = L2.del H l := by
  funext b
  unfold L2.del L2.upd
  split <;> rfl

def GivesN (J : It) (n : Nat) (H : Hp) (item : Nat → V → Prop) : Prop := ∀ i H', Same H H' → (i < n → J.go i H' ∧ ∀ x H3, J.yld i H' x H3 → H3 = H' ∧ item i x) ∧ J.stop n H'
theorem gives_list {K : PySem.W.Frag} {a : Addr} {xs : List V} {H : Hp} (h : SqL K H a xs) : GivesN (Itl K a) xs.length H fun i x => xs[i]? = some x := fun i H' s => by
  have h' := s.seq h
  exact ⟨fun hi => ⟨⟨xs, xs[i], h', by simp [hi]⟩, fun x H3 y => ⟨y.1, y.2 xs h'⟩⟩, ⟨xs, h', Nat.le_refl _⟩⟩
theorem Same.seqT {K : PySem.W.Frag} {H H' : Hp} {a : Addr} {xs : List V} (e : Same H H') (h : SqT K H a xs) : SqT K H' a xs := by
  rcases h with (h | ⟨o, h⟩) | h
  · exact .inl (.inl (e _ _ h))
  · exact .inl (.inr ⟨o, e _ _ h⟩)
  · exact .inr h
theorem gives_tup {K : PySem.W.Frag} {a : Addr} {xs : List V} {H : Hp} (h : SqT K H a xs) : GivesN (Itt K a) xs.length H fun i x => xs[i]? = some x := fun i H' s => by
  have h' := s.seqT h
  exact ⟨fun hi => ⟨⟨xs, xs[i], h', by simp [hi]⟩, fun x H3 y => ⟨y.1, y.2 xs h'⟩⟩, ⟨xs, h', Nat.le_refl _⟩⟩
theorem gives_range {lo : Int} {n : Nat} {H : Hp} : GivesN (Itr lo n) n H fun i x => x = .int (lo + i) := fun i H' s =>
  ⟨fun hi => ⟨hi, fun x H3 y => y⟩, Nat.le_refl _⟩
theorem comp_items {J : It} {n : Nat} {item : Nat → V → Prop} {te : TE} {Q : VK} {H : Hp} {l : Addr} {τ : St} (j0 : Nat) (Py : Nat → V → Hp → Prop) (hJ : GivesN J n H item) (mono : ∀ k y H H', Same H H' → Py k y H → Py k y H') (hp : Plain H)
    (hl : H l = none) (hτ : j0 < τ.length) (hz : n ≤ sizeLine) (keep : St → Prop) (hk0 : keep τ) (hks : ∀ τ' v, keep τ' → keep (τ'.set j0 v))
    (ht : ∀ (τ' : St) (k : Nat) (x : V) (H' : Hp) (R : VK), keep τ' → τ'[j0]? = some (some x) → item k x → k < n → Same H H' → Plain H' → H' l ≠ none → (∀ y H6, Same H' H6 → Plain H6 → Py k y (del H6 l) → R y H6) → te τ' H' R)
    (hq : ∀ ys H', ys.length = n → (∀ k y, ys[k]? = some y → Py k y (del H' l)) → Same H H' → Plain H' → H' l = some (.lst ys) → Q (.ref l) H') : CompOk J (gName j0) tYes te Q l τ H := by
  refine ⟨fun i m ys τ' H2 => m = n - i ∧ i ≤ n ∧ ys.length = i ∧ (∀ k y, ys[k]? = some y → Py k y (del H2 l)) ∧ j0 < τ'.length ∧ keep τ' ∧ Same H H2 ∧ Plain H2 ∧ H2 l = some (.lst ys),
    ⟨n, by simp, Nat.zero_le _, rfl, fun k y e => by simp at e, hτ, hk0, Same.upd hl, hp.upd rfl, upd_same⟩, ?_⟩
  rintro i m ys τ' H2 ⟨rfl, hi, hy, hP, hτ', hk', hs, hpl, hll⟩
  obtain ⟨hgo, hst⟩ := hJ i H2 hs
  by_cases hlt : i < n
  · obtain ⟨h1, h2⟩ := hgo hlt
    refine .inr ⟨h1, fun x H3 hyl => ?_⟩
    obtain ⟨eH, hit⟩ := h2 x H3 hyl
    subst eH
    show te _ _ _
    refine ht _ i x _ _ (hks _ _ hk') ?_ hit hlt hs hpl (by rw [hll]; intro z; cases z) fun y H6 s6 p6 py => ?_
    · rw [List.getElem?_set_self hτ']
    · have hl6 : H6 l = some (.lst ys) := s6 _ _ hll
      refine ⟨hl6, by omega, n - (i + 1), by omega, rfl, hlt, by simp [hy], fun k z e => ?_, by rw [List.length_set]; exact hτ', hks _ _ hk', (hs.trans s6).put hl, p6.upd rfl, upd_same⟩
      rw [del_upd]
      by_cases hkl : k < ys.length
      · rw [List.getElem?_append_left hkl] at e
        exact mono k z _ _ (s6.del l) (hP k z e)
      · rw [List.getElem?_append_right (by omega)] at e
        have hk0 : k - ys.length = 0 := by
          cases hh : k - ys.length with
          | zero => rfl
          | succ j => rw [hh] at e; simp at e
        rw [hk0] at e
        have e2 : y = z := by simpa using e
        have e3 : k = i := by omega
        subst e2 e3
        exact py
  · have ei : i = n := by omega
    subst ei
    exact .inl ⟨hst, hq ys H2 hy hP hs hpl hll⟩

end L2


set_option linter.all false
set_option maxRecDepth 100000
set_option maxHeartbeats 4000000
namespace L2
open PySem PySem.Spec PyProof.Rows
inductive D where
  | non | bl (b : Bool) | int (i : Int) | str (x : Str) | lst (xs : List D) | tup (xs : List D) | oth
mutual
def eqD : D → D → Bool
  | .non, .non => true
  | .bl a, .bl b => a == b
  | .bl a, .int b => (if a then (1 : Int) else 0) == b
  | .int a, .bl b => a == (if b then (1 : Int) else 0)
  | .int a, .int b => a == b
  | .str a, .str b => a == b
  | .lst xs, .lst ys => eqDs xs ys
  | .tup xs, .tup ys => eqDs xs ys
  | _, _ => false
def eqDs : List D → List D → Bool
  | [], [] => true
  | x :: xs, y :: ys => eqD x y && eqDs xs ys
  | _, _ => false
end
mutual
def D.dep : D → Nat
  | .lst xs => depS xs + 1
  | .tup xs => depS xs + 1
  | _ => 0
def depS : List D → Nat
  | [] => 0
  | x :: xs => max x.dep (depS xs)
end
mutual
def Den (H : Hp) : V → D → Prop
  | v, .non => v = .non
  | v, .bl b => v = .bl b
  | v, .int i => v = .int i
  | v, .str x => v = .str x
  | v, .lst ds => ∃ a xs, v = .ref a ∧ Rd H a (.lst xs) ∧ Dens H xs ds
  | v, .tup ds => ∃ a xs, v = .ref a ∧ H a = some (.tup xs) ∧ Dens H xs ds
  | v, .oth => ∃ a kvs, v = .ref a ∧ H a = some (.dK kvs)
def Dens (H : Hp) : List V → List D → Prop
  | [], [] => True
  | v :: vs, d :: ds => Den H v d ∧ Dens H vs ds
  | _, _ => False
end
mutual

def D.ok : D → Bool
  | .lst xs => okS xs
  | .tup xs => okS xs
  | .oth => false
  | _ => true
def okS : List D → Bool
  | [] => true
  | x :: xs => x.ok && okS xs
end
theorem okS_mem : ∀ {xs : List D} {d : D}, okS xs = true → d ∈ xs → d.ok = true
  | x :: xs, d, h, hd => by
    unfold okS at h
    rw [Bool.and_eq_true] at h
    rcases List.mem_cons.mp hd with rfl | hd
    · exact h.1
    · exact okS_mem h.2 hd
theorem okS_of : ∀ {xs : List D}, (∀ d ∈ xs, d.ok = true) → okS xs = true
  | [], _ => by unfold okS; rfl
  | x :: xs, h => by unfold okS; rw [h x List.mem_cons_self, okS_of fun d hd => h d (List.mem_cons_of_mem _ hd)]; rfl
theorem depS_le : ∀ {xs : List D} {d : D}, d ∈ xs → d.dep ≤ depS xs
  | x :: xs, d, h => by
    unfold depS
    rcases List.mem_cons.mp h with rfl | h
    · exact Nat.le_max_left _ _
    · exact Nat.le_trans (depS_le h) (Nat.le_max_right _ _)
mutual
theorem eqD_refl : ∀ d : D, d.ok = true → eqD d d = true
  | .non, _ => by unfold eqD; rfl
  | .bl b, _ => by unfold eqD; exact beq_self_eq_true b
  | .int i, _ => by unfold eqD; exact beq_self_eq_true i
  | .str x, _ => by unfold eqD; exact beq_self_eq_true x
  | .lst xs, h => by unfold eqD; unfold D.ok at h; exact eqDs_refl xs h
  | .tup xs, h => by unfold eqD; unfold D.ok at h; exact eqDs_refl xs h
  | .oth, h => by unfold D.ok at h; cases h
theorem eqDs_refl : ∀ ds : List D, okS ds = true → eqDs ds ds = true
  | [], _ => by unfold eqDs; rfl
  | d :: ds, h => by
    unfold okS at h
    rw [Bool.and_eq_true] at h
    unfold eqDs
    rw [eqD_refl d h.1, eqDs_refl ds h.2]
    rfl
end
theorem eqD_lst (xs ys : List D) : eqD (.lst xs) (.lst ys) = eqDs xs ys := by unfold eqD; rfl
theorem eqD_tup (xs ys : List D) : eqD (.tup xs) (.tup ys) = eqDs xs ys := by unfold eqD; rfl
theorem eqDs_len : ∀ {xs ys : List D}, xs.length ≠ ys.length → eqDs xs ys = false
  | [], [], h => absurd rfl h
  | [], _ :: _, _ => by unfold eqDs; rfl
  | _ :: _, [], _ => by unfold eqDs; rfl
  | x :: xs, y :: ys, h => by
    unfold eqDs
    rw [eqDs_len (xs := xs) (ys := ys) fun e => h (by rw [List.length_cons, List.length_cons, e]), Bool.and_false]
theorem eqDs_all : ∀ {xs ys : List D}, xs.length = ys.length → eqDs xs ys = (List.range xs.length).all fun j => eqD (xs.getD j .non) (ys.getD j .non)
  | [], [], _ => by unfold eqDs; rfl
  | [], _ :: _, h => by cases h
  | _ :: _, [], h => by cases h
  | x :: xs, y :: ys, h => by
    unfold eqDs
    rw [eqDs_all (xs := xs) (ys := ys) (Nat.succ.inj h), List.length_cons, List.range_succ_eq_map, List.all_cons, List.all_map]
    rfl
section
variable {H H' : Hp}
theorem Dens.len : ∀ {xs : List V} {ds : List D}, Dens H xs ds → xs.length = ds.length
  | [], [], _ => rfl
  | [], _ :: _, h => by unfold Dens at h; exact h.elim
  | _ :: _, [], h => by unfold Dens at h; exact h.elim
  | v :: vs, d :: ds, h => by
    unfold Dens at h
    rw [List.length_cons, List.length_cons, Dens.len h.2]
theorem Dens.get : ∀ {xs : List V} {ds : List D} {i : Nat} {v : V}, Dens H xs ds → xs[i]? = some v → ∃ d, ds[i]? = some d ∧ Den H v d
  | [], _, i, v, _, e => by simp at e
  | _ :: _, [], _, _, h, _ => by unfold Dens at h; exact h.elim
  | x :: xs, d :: ds, 0, v, h, e => by
    unfold Dens at h
    simp at e
    subst e
    exact ⟨d, rfl, h.1⟩
  | x :: xs, d :: ds, i + 1, v, h, e => by
    unfold Dens at h
    exact Dens.get (i := i) h.2 (by simpa using e)
theorem Dens.getD : ∀ {xs : List V} {ds : List D} {i : Nat} {d : D}, Dens H xs ds → ds[i]? = some d → ∃ v, xs[i]? = some v ∧ Den H v d
  | _, [], i, v, _, e => by simp at e
  | [], _ :: _, _, _, h, _ => by unfold Dens at h; exact h.elim
  | x :: xs, d :: ds, 0, v, h, e => by
    unfold Dens at h
    simp at e
    subst e
    exact ⟨x, rfl, h.1⟩
  | x :: xs, d :: ds, i + 1, v, h, e => by
    unfold Dens at h
    exact Dens.getD (i := i) h.2 (by simpa using e)
theorem Dens.nil : Dens H [] [] := by unfold Dens; trivial
theorem Dens.cons {v : V} {vs : List V} {d : D} {ds : List D} (h : Den H v d) (hs : Dens H vs ds) : Dens H (v :: vs) (d :: ds) := by unfold Dens; exact ⟨h, hs⟩
theorem Dens.append : ∀ {xs ys : List V} {ds es : List D}, Dens H xs ds → Dens H ys es → Dens H (xs ++ ys) (ds ++ es)
  | [], _, [], _, _, h => h
  | [], _, _ :: _, _, h, _ => by unfold Dens at h; exact h.elim
  | _ :: _, _, [], _, h, _ => by unfold Dens at h; exact h.elim
  | x :: xs, ys, d :: ds, es, h, h2 => by
    unfold Dens at h
    exact .cons h.1 (Dens.append h.2 h2)
theorem Dens.of_all : ∀ {xs : List V} {ds : List D}, xs.length = ds.length → (∀ (i : Nat) (v : V) (d : D), xs[i]? = some v → ds[i]? = some d → Den H v d) → Dens H xs ds
  | [], [], _, _ => .nil
  | [], _ :: _, h, _ => by cases h
  | _ :: _, [], h, _ => by cases h
  | x :: xs, d :: ds, h, k => .cons (k 0 x d rfl rfl) (Dens.of_all (Nat.succ.inj h) fun i v e h1 h2 => k (i + 1) v e (by simpa using h1) (by simpa using h2))
theorem Dens.take {xs : List V} {ds : List D} (h : Dens H xs ds) (n : Nat) : Dens H (xs.take n) (ds.take n) := by
  have hl := h.len
  refine .of_all (by rw [List.length_take, List.length_take, hl]) fun i v d h1 h2 => ?_
  rw [List.getElem?_take] at h1 h2
  split at h1
  · rw [if_pos (by assumption)] at h2
    obtain ⟨e, he, hd⟩ := h.get h1
    rw [h2] at he; cases he
    exact hd
  · cases h1
theorem Dens.drop {xs : List V} {ds : List D} (h : Dens H xs ds) (n : Nat) : Dens H (xs.drop n) (ds.drop n) := by
  have hl := h.len
  refine .of_all (by rw [List.length_drop, List.length_drop, hl]) fun i v d h1 h2 => ?_
  rw [List.getElem?_drop] at h1 h2
  obtain ⟨e, he, hd⟩ := h.get h1
  rw [h2] at he; cases he
  exact hd
theorem Den.lst {a : Addr} {xs : List V} {ds : List D} (h : Rd H a (.lst xs)) (hs : Dens H xs ds) : Den H (.ref a) (.lst ds) := by unfold Den; exact ⟨a, xs, rfl, h, hs⟩
theorem Den.tup {a : Addr} {xs : List V} {ds : List D} (h : H a = some (.tup xs)) (hs : Dens H xs ds) : Den H (.ref a) (.tup ds) := by unfold Den; exact ⟨a, xs, rfl, h, hs⟩
theorem Den.int (i : Int) : Den H (.int i) (.int i) := by unfold Den; rfl
theorem Den.str (x : Str) : Den H (.str x) (.str x) := by unfold Den; rfl
theorem Den.bl (b : Bool) : Den H (.bl b) (.bl b) := by unfold Den; rfl
theorem Den.non : Den H .non .non := by unfold Den; rfl
theorem Den.to_lst {v : V} {ds : List D} (h : Den H v (.lst ds)) : ∃ a xs, v = .ref a ∧ Rd H a (.lst xs) ∧ Dens H xs ds := by unfold Den at h; exact h
theorem Den.to_tup {v : V} {ds : List D} (h : Den H v (.tup ds)) : ∃ a xs, v = .ref a ∧ H a = some (.tup xs) ∧ Dens H xs ds := by unfold Den at h; exact h
theorem Den.to_int {v : V} {i : Int} (h : Den H v (.int i)) : v = .int i := by unfold Den at h; exact h
theorem Den.to_str {v : V} {i : Str} (h : Den H v (.str i)) : v = .str i := by unfold Den at h; exact h
theorem Dens.strs : ∀ (ns : List Str), Dens H (ns.map V.str) (ns.map D.str)
  | [] => .nil
  | n :: ns => .cons (.str n) (Dens.strs ns)
theorem Same.rd {a : Addr} {u : HO} (e : Same H H') (h : Rd H a u) : Rd H' a u := by
  rcases h with h | ⟨o, h⟩
  · exact .inl (e _ _ h)
  · exact .inr ⟨o, e _ _ h⟩
theorem Rd.inj {a : Addr} {xs ys : List V} (h : Rd H a (.lst xs)) (h' : Rd H a (.lst ys)) : xs = ys := by
  rcases h with h | ⟨o, h⟩ <;> rcases h' with h' | ⟨o', h'⟩ <;> rw [h] at h' <;> cases h' <;> rfl
mutual
theorem Den.same (e : Same H H') : ∀ {v : V} {d : D}, Den H v d → Den H' v d
  | _, .non, h => by unfold Den at h ⊢; exact h
  | _, .bl _, h => by unfold Den at h ⊢; exact h
  | _, .int _, h => by unfold Den at h ⊢; exact h
  | _, .str _, h => by unfold Den at h ⊢; exact h
  | _, .lst ds, h => by
    unfold Den at h ⊢
    obtain ⟨a, xs, e1, e2, e3⟩ := h
    exact ⟨a, xs, e1, e.rd e2, Dens.same e e3⟩
  | _, .tup ds, h => by
    unfold Den at h ⊢
    obtain ⟨a, xs, e1, e2, e3⟩ := h
    exact ⟨a, xs, e1, e _ _ e2, Dens.same e e3⟩
  | _, .oth, h => by
    unfold Den at h ⊢
    obtain ⟨a, kvs, e1, e2⟩ := h
    exact ⟨a, kvs, e1, e _ _ e2⟩
theorem Dens.same (e : Same H H') : ∀ {vs : List V} {ds : List D}, Dens H vs ds → Dens H' vs ds
  | [], [], h => .nil
  | [], _ :: _, h => by unfold Dens at h; exact h.elim
  | _ :: _, [], h => by unfold Dens at h; exact h.elim
  | v :: vs, d :: ds, h => by
    unfold Dens at h
    exact .cons (Den.same e h.1) (Dens.same e h.2)
end
end
section
variable {X : Cx} {pins : List (Addr × Obj)} {σ : St} {H : Hp} {s : Shared}
mutual
theorem Den.uniq : ∀ {v : V} {d d' : D}, Den H v d → Den H v d' → d = d'
  | v, .non, d', h, h' => by
    unfold Den at h; subst h
    cases d' with
    | non => rfl
    | lst es => unfold Den at h'; obtain ⟨_, _, z, _⟩ := h'; cases z
    | tup es => unfold Den at h'; obtain ⟨_, _, z, _⟩ := h'; cases z
    | oth => unfold Den at h'; obtain ⟨_, _, z, _⟩ := h'; cases z
    | _ => unfold Den at h'; cases h'
  | v, .bl b, d', h, h' => by
    unfold Den at h; subst h
    cases d' with
    | bl c => unfold Den at h'; cases h'; rfl
    | lst es => unfold Den at h'; obtain ⟨_, _, z, _⟩ := h'; cases z
    | tup es => unfold Den at h'; obtain ⟨_, _, z, _⟩ := h'; cases z
    | oth => unfold Den at h'; obtain ⟨_, _, z, _⟩ := h'; cases z
    | _ => unfold Den at h'; cases h'
  | v, .int b, d', h, h' => by
    unfold Den at h; subst h
    cases d' with
    | int c => unfold Den at h'; cases h'; rfl
    | lst es => unfold Den at h'; obtain ⟨_, _, z, _⟩ := h'; cases z
    | tup es => unfold Den at h'; obtain ⟨_, _, z, _⟩ := h'; cases z
    | oth => unfold Den at h'; obtain ⟨_, _, z, _⟩ := h'; cases z
    | _ => unfold Den at h'; cases h'
  | v, .str b, d', h, h' => by
    unfold Den at h; subst h
    cases d' with
    | str c => unfold Den at h'; cases h'; rfl
    | lst es => unfold Den at h'; obtain ⟨_, _, z, _⟩ := h'; cases z
    | tup es => unfold Den at h'; obtain ⟨_, _, z, _⟩ := h'; cases z
    | oth => unfold Den at h'; obtain ⟨_, _, z, _⟩ := h'; cases z
    | _ => unfold Den at h'; cases h'
  | v, .lst ds, d', h, h' => by
    obtain ⟨a, xs, rfl, e2, e3⟩ := h.to_lst
    cases d' with
    | lst es =>
      obtain ⟨b, ys, z, f2, f3⟩ := h'.to_lst
      cases z
      have := e2.inj f2
      subst this
      rw [Dens.uniq e3 f3]
    | tup es =>
      obtain ⟨b, ys, z, f2, f3⟩ := h'.to_tup
      cases z
      rcases e2 with e2 | ⟨o, e2⟩ <;> rw [e2] at f2 <;> cases f2
    | oth =>
      unfold Den at h'
      obtain ⟨b, ys, z, f2⟩ := h'
      cases z
      rcases e2 with e2 | ⟨o, e2⟩ <;> rw [e2] at f2 <;> cases f2
    | _ => unfold Den at h'; cases h'
  | v, .tup ds, d', h, h' => by
    obtain ⟨a, xs, rfl, e2, e3⟩ := h.to_tup
    cases d' with
    | tup es =>
      obtain ⟨b, ys, z, f2, f3⟩ := h'.to_tup
      cases z
      rw [e2] at f2
      cases f2
      rw [Dens.uniq e3 f3]
    | lst es =>
      obtain ⟨b, ys, z, f2, f3⟩ := h'.to_lst
      cases z
      rcases f2 with f2 | ⟨o, f2⟩ <;> rw [e2] at f2 <;> cases f2
    | oth =>
      unfold Den at h'
      obtain ⟨b, ys, z, f2⟩ := h'
      cases z
      rw [e2] at f2; cases f2
    | _ => unfold Den at h'; cases h'
  | v, .oth, d', h, h' => by
    unfold Den at h
    obtain ⟨a, kvs, rfl, e2⟩ := h
    cases d' with
    | oth => rfl
    | lst es =>
      obtain ⟨b, ys, z, f2, f3⟩ := h'.to_lst
      cases z
      rcases f2 with f2 | ⟨o, f2⟩ <;> rw [e2] at f2 <;> cases f2
    | tup es =>
      obtain ⟨b, ys, z, f2, f3⟩ := h'.to_tup
      cases z
      rw [e2] at f2; cases f2
    | _ => unfold Den at h'; cases h'
theorem Dens.uniq : ∀ {vs : List V} {ds es : List D}, Dens H vs ds → Dens H vs es → ds = es
  | [], [], [], _, _ => rfl
  | [], _ :: _, _, h, _ => by unfold Dens at h; exact h.elim
  | [], _, _ :: _, _, h => by unfold Dens at h; exact h.elim
  | _ :: _, [], _, h, _ => by unfold Dens at h; exact h.elim
  | _ :: _, _, [], _, h => by unfold Dens at h; exact h.elim
  | v :: vs, d :: ds, e :: es, h, h' => by
    unfold Dens at h h'
    rw [Den.uniq h.1 h'.1, Dens.uniq h.2 h'.2]
end

def tyD : D → String
  | .non => "NoneType"
  | .bl _ => "bool"
  | .int _ => "int"
  | .str _ => "str"
  | .lst _ => "list"
  | .tup _ => "tuple"
  | .oth => "dict"
theorem Den.ty {K : PySem.W.Frag} : ∀ {v : V} {d : D}, Den H v d → TyOf K H v (.type (tyD d))
  | _, .non, h => by unfold Den at h; subst h; exact .non
  | _, .bl b, h => by unfold Den at h; subst h; exact .bl b
  | _, .int b, h => by unfold Den at h; subst h; exact .int b
  | _, .str b, h => by unfold Den at h; subst h; exact .str b
  | _, .lst ds, h => by
    obtain ⟨a, xs, rfl, e2 | ⟨o, e2⟩, _⟩ := h.to_lst
    · exact .lst e2
    · exact .frz e2
  | _, .tup ds, h => by
    obtain ⟨a, xs, rfl, e2, _⟩ := h.to_tup
    exact .tup e2
  | _, .oth, h => by
    unfold Den at h
    obtain ⟨a, kvs, rfl, e2⟩ := h
    exact .dK e2
theorem getD_of {ds : List D} {i : Nat} {d : D} (h : ds[i]? = some d) : ds.getD i .non = d := by
  rw [List.getD_eq_getElem?_getD, h]; rfl

structure Cmp (A : Around) (s : Shared) (x y : Value) (b : Bool) : Prop where
  eq : SeqAt.EqAt A s x y b
  rc : SeqAt.RcAt A s x y b
  ne : SeqAt.RcNeAt A s x y (!b)
theorem cmp_seq {A : Around} {xs ys : List V} {ds es : List D} {its its2 : List Value} (h1 : Dens H xs ds) (h2 : Dens H ys es) (r1 : Vals xs its) (r2 : Vals ys its2)
    (ih : ∀ (d d' : D) (v u : V) (x y : Value), d ∈ ds → d' ∈ es → Den H v d → Den H u d' → RelV v x → RelV u y → SeqAt.EqAt A s x y (eqD d d')) :
    ∀ j (q1 : j < its.toArray.size) (q2 : j < its2.toArray.size), SeqAt.EqAt A s its.toArray[j] its2.toArray[j] (eqD (ds.getD j .non) (es.getD j .non)) := by
  intro j q1 q2
  have l1 := r1.length
  have l2 := r2.length
  have q1' : j < xs.length := by rw [l1]; simpa using q1
  have q2' : j < ys.length := by rw [l2]; simpa using q2
  obtain ⟨d, hd, den⟩ := h1.get (i := j) (List.getElem?_eq_getElem q1')
  obtain ⟨d', hd', den'⟩ := h2.get (i := j) (List.getElem?_eq_getElem q2')
  obtain ⟨u, hu, ru⟩ := r1.get (List.getElem?_eq_getElem q1')
  obtain ⟨u', hu', ru'⟩ := r2.get (List.getElem?_eq_getElem q2')
  rw [getD_of hd, getD_of hd']
  have e1 : its.toArray[j] = u := by
    have : its.toArray[j]? = some u := by simpa using hu
    rw [Array.getElem?_eq_getElem q1] at this
    exact Option.some.inj this
  have e2 : its2.toArray[j] = u' := by
    have : its2.toArray[j]? = some u' := by simpa using hu'
    rw [Array.getElem?_eq_getElem q2] at this
    exact Option.some.inj this
  rw [e1, e2]
  exact ih d d' _ _ _ _ (List.mem_of_getElem? hd) (List.mem_of_getElem? hd') den den' ru ru'
theorem cmp_of_refs {A : Around} {a b : Addr} {d d' : D} {k : Bool} (hk : k = eqD d d') (hok : d.ok = true) (h1 : Den H (.ref a) d) (h2 : Den H (.ref b) d') (rc : SeqAt.RcAt A s (.ref a) (.ref b) k) (ne : SeqAt.RcNeAt A s (.ref a) (.ref b) (!k)) : Cmp A s (.ref a) (.ref b) (eqD d d') := by
  subst hk
  refine ⟨?_, rc, ne⟩
  by_cases hab : a = b
  · subst hab
    have := h1.uniq h2
    subst this
    rw [eqD_refl _ hok]
    exact .same _
  · exact .of_refs hab rc
theorem cmp_D (I : Inv X pins σ H s) : ∀ (n : Nat) (A : Around) (d d' : D) (v u : V) (x y : Value), d.ok = true → d'.ok = true → d.dep ≤ n → A.units + n < cLine → Den H v d → Den H u d' → RelV v x → RelV u y → Cmp A s x y (eqD d d') := by
  intro n
  induction n with
  | zero =>
    intro A d d' v u x y hok hok' hn hu h h' r r'
    have hu' : A.units < cLine := by omega
    cases d with
    | lst ds => unfold D.dep at hn; omega
    | tup ds => unfold D.dep at hn; omega
    | oth => unfold D.ok at hok; cases hok
    | non =>
      unfold Den at h; subst h; cases r
      cases d' with
      | non => unfold Den at h'; subst h'; cases r'; unfold eqD; exact ⟨.same _, .none_none, .none_none⟩
      | bl b => unfold Den at h'; subst h'; cases r'; unfold eqD; exact ⟨.none_bool _, .none_bool _, .none_bool _⟩
      | int b => unfold Den at h'; subst h'; obtain ⟨t, rfl⟩ := r'; unfold eqD; exact ⟨.none_int _ _, .none_int _ _, .none_int _ _⟩
      | str b => unfold Den at h'; subst h'; obtain ⟨t, rfl⟩ := r'; unfold eqD; exact ⟨.none_str _ _, .none_str _ _, .none_str _ _⟩
      | lst ds => obtain ⟨a, xs, rfl, e2, _⟩ := h'.to_lst; cases r'; obtain ⟨_, _, p, _⟩ := I.list (.inl e2); unfold eqD; exact ⟨.none_list p.isList hu', .none_list p.isList hu', .none_list p.isList hu'⟩
      | tup ds => obtain ⟨a, xs, rfl, e2, _⟩ := h'.to_tup; cases r'; obtain ⟨_, _, p, _⟩ := I.tuple (.inl (.inl e2)); unfold eqD; exact ⟨.none_tuple p hu', .none_tuple p hu', .none_tuple p hu'⟩
      | oth => unfold D.ok at hok'; cases hok'
    | bl c =>
      unfold Den at h; subst h; cases r
      cases d' with
      | non => unfold Den at h'; subst h'; cases r'; unfold eqD; exact ⟨.bool_none _, .bool_none _, .bool_none _⟩
      | bl b => unfold Den at h'; subst h'; cases r'; unfold eqD; exact ⟨.bool_bool _ _, .bool_bool _ _, .bool_bool _ _⟩
      | int b => unfold Den at h'; subst h'; obtain ⟨t, rfl⟩ := r'; unfold eqD; exact ⟨.bool_int _ _ _, .bool_int _ _ _, .bool_int _ _ _⟩
      | str b => unfold Den at h'; subst h'; obtain ⟨t, rfl⟩ := r'; unfold eqD; exact ⟨.bool_str _ _ _, .bool_str _ _ _, .bool_str _ _ _⟩
      | lst ds => obtain ⟨a, xs, rfl, e2, _⟩ := h'.to_lst; cases r'; obtain ⟨_, _, p, _⟩ := I.list (.inl e2); unfold eqD; exact ⟨.bool_list _ p.isList hu', .bool_list _ p.isList hu', .bool_list _ p.isList hu'⟩
      | tup ds => obtain ⟨a, xs, rfl, e2, _⟩ := h'.to_tup; cases r'; obtain ⟨_, _, p, _⟩ := I.tuple (.inl (.inl e2)); unfold eqD; exact ⟨.bool_tuple _ p hu', .bool_tuple _ p hu', .bool_tuple _ p hu'⟩
      | oth => unfold D.ok at hok'; cases hok'
    | int c =>
      unfold Den at h; subst h; obtain ⟨t, rfl⟩ := r
      cases d' with
      | non => unfold Den at h'; subst h'; cases r'; unfold eqD; exact ⟨.int_none _ _, .int_none _ _, .int_none _ _⟩
      | bl b => unfold Den at h'; subst h'; cases r'; unfold eqD; exact ⟨.int_bool _ _ _, .int_bool _ _ _, .int_bool _ _ _⟩
      | int b => unfold Den at h'; subst h'; obtain ⟨t, rfl⟩ := r'; unfold eqD; exact ⟨.int_int _ _ _ _, .int_int _ _ _ _, .int_int _ _ _ _⟩
      | str b => unfold Den at h'; subst h'; obtain ⟨t, rfl⟩ := r'; unfold eqD; exact ⟨.int_str _ _ _ _, .int_str _ _ _ _, .int_str _ _ _ _⟩
      | lst ds => obtain ⟨a, xs, rfl, e2, _⟩ := h'.to_lst; cases r'; obtain ⟨_, _, p, _⟩ := I.list (.inl e2); unfold eqD; exact ⟨.int_list _ _ p.isList hu', .int_list _ _ p.isList hu', .int_list _ _ p.isList hu'⟩
      | tup ds => obtain ⟨a, xs, rfl, e2, _⟩ := h'.to_tup; cases r'; obtain ⟨_, _, p, _⟩ := I.tuple (.inl (.inl e2)); unfold eqD; exact ⟨.int_tuple _ _ p hu', .int_tuple _ _ p hu', .int_tuple _ _ p hu'⟩
      | oth => unfold D.ok at hok'; cases hok'
    | str c =>
      unfold Den at h; subst h; obtain ⟨t, rfl⟩ := r
      cases d' with
      | non => unfold Den at h'; subst h'; cases r'; unfold eqD; exact ⟨.str_none _ _, .str_none _ _, .str_none _ _⟩
      | bl b => unfold Den at h'; subst h'; cases r'; unfold eqD; exact ⟨.str_bool _ _ _, .str_bool _ _ _, .str_bool _ _ _⟩
      | int b => unfold Den at h'; subst h'; obtain ⟨t, rfl⟩ := r'; unfold eqD; exact ⟨.str_int _ _ _ _, .str_int _ _ _ _, .str_int _ _ _ _⟩
      | str b => unfold Den at h'; subst h'; obtain ⟨t, rfl⟩ := r'; unfold eqD; exact ⟨.str_str _ _ _ _, .str_str _ _ _ _, .str_str _ _ _ _⟩
      | lst ds => obtain ⟨a, xs, rfl, e2, _⟩ := h'.to_lst; cases r'; obtain ⟨_, _, p, _⟩ := I.list (.inl e2); unfold eqD; exact ⟨.str_list _ _ p.isList hu', .str_list _ _ p.isList hu', .str_list _ _ p.isList hu'⟩
      | tup ds => obtain ⟨a, xs, rfl, e2, _⟩ := h'.to_tup; cases r'; obtain ⟨_, _, p, _⟩ := I.tuple (.inl (.inl e2)); unfold eqD; exact ⟨.str_tuple _ _ p hu', .str_tuple _ _ p hu', .str_tuple _ _ p hu'⟩
      | oth => unfold D.ok at hok'; cases hok'
  | succ n ih =>
    intro A d d' v u x y hok hok' hn hu h h' r r'
    have hu' : A.units < cLine := by omega
    have hin : A.in1.units + n < cLine := by show A.units + 1 + n < cLine; omega
    cases d with
    | lst ds =>
      have hn' : ∀ d ∈ ds, d.dep ≤ n := fun d hd => by
        have h1 := depS_le hd
        unfold D.dep at hn
        omega
      obtain ⟨a, xs, rfl, e2, e3⟩ := h.to_lst
      cases r
      obtain ⟨its, r1, p, _⟩ := I.list (.inl e2)
      cases d' with
      | oth => unfold D.ok at hok'; cases hok'
      | non => unfold Den at h'; subst h'; cases r'; unfold eqD; exact ⟨.list_none p.isList hu', .list_none p.isList hu', .list_none p.isList hu'⟩
      | bl b => unfold Den at h'; subst h'; cases r'; unfold eqD; exact ⟨.list_bool _ p.isList hu', .list_bool _ p.isList hu', .list_bool _ p.isList hu'⟩
      | int b => unfold Den at h'; subst h'; obtain ⟨t, rfl⟩ := r'; unfold eqD; exact ⟨.list_int _ _ p.isList hu', .list_int _ _ p.isList hu', .list_int _ _ p.isList hu'⟩
      | str b => unfold Den at h'; subst h'; obtain ⟨t, rfl⟩ := r'; unfold eqD; exact ⟨.list_str _ _ p.isList hu', .list_str _ _ p.isList hu', .list_str _ _ p.isList hu'⟩
      | tup es => obtain ⟨b, ys, rfl, f2, f3⟩ := h'.to_tup; cases r'; obtain ⟨_, _, p2, _⟩ := I.tuple (.inl (.inl f2)); unfold eqD; exact ⟨.list_tuple p.isList p2 hu', .list_tuple p.isList p2 hu', .list_tuple p.isList p2 hu'⟩
      | lst es =>
        have hok1 := hok
        have hok2 := hok'
        unfold D.ok at hok1 hok2
        obtain ⟨b, ys, rfl, f2, f3⟩ := h'.to_lst
        cases r'
        obtain ⟨its2, r2, p2, _⟩ := I.list (.inl f2)
        have n1 : its.toArray.size = ds.length := by rw [List.size_toArray, ← r1.length, e3.len]
        have n2 : its2.toArray.size = es.length := by rw [List.size_toArray, ← r2.length, f3.len]
        by_cases hl : ds.length = es.length
        · have items := cmp_seq (A := A.in1) e3 f3 r1 r2 fun d d' v u x y hd hd' q1 q2 q3 q4 => (ih A.in1 d d' v u x y (okS_mem hok1 hd) (okS_mem hok2 hd') (hn' d hd) hin q1 q2 q3 q4).eq
          refine cmp_of_refs (k := (List.range its.toArray.size).all fun j => eqD (ds.getD j .non) (es.getD j .non)) ?_ hok h h' (.lists p.isList p2.isList (by rw [n1, n2, hl]) hu' items) (.lists p.isList p2.isList (by rw [n1, n2, hl]) hu' items)
          rw [n1, ← eqDs_all hl, eqD_lst]
        · refine cmp_of_refs (k := false) ?_ hok h h' (.lists_lengths p.isList p2.isList (by rw [n1, n2]; simpa using hl) hu') (.lists_lengths p.isList p2.isList (by rw [n1, n2]; simpa using hl) hu')
          unfold eqD
          rw [eqDs_len hl]
    | tup ds =>
      have hn' : ∀ d ∈ ds, d.dep ≤ n := fun d hd => by
        have h1 := depS_le hd
        unfold D.dep at hn
        omega
      obtain ⟨a, xs, rfl, e2, e3⟩ := h.to_tup
      cases r
      obtain ⟨its, r1, p, _⟩ := I.tuple (.inl (.inl e2))
      cases d' with
      | oth => unfold D.ok at hok'; cases hok'
      | non => unfold Den at h'; subst h'; cases r'; unfold eqD; exact ⟨.tuple_none p hu', .tuple_none p hu', .tuple_none p hu'⟩
      | bl b => unfold Den at h'; subst h'; cases r'; unfold eqD; exact ⟨.tuple_bool _ p hu', .tuple_bool _ p hu', .tuple_bool _ p hu'⟩
      | int b => unfold Den at h'; subst h'; obtain ⟨t, rfl⟩ := r'; unfold eqD; exact ⟨.tuple_int _ _ p hu', .tuple_int _ _ p hu', .tuple_int _ _ p hu'⟩
      | str b => unfold Den at h'; subst h'; obtain ⟨t, rfl⟩ := r'; unfold eqD; exact ⟨.tuple_str _ _ p hu', .tuple_str _ _ p hu', .tuple_str _ _ p hu'⟩
      | lst es => obtain ⟨b, ys, rfl, f2, f3⟩ := h'.to_lst; cases r'; obtain ⟨_, _, p2, _⟩ := I.list (.inl f2); unfold eqD; exact ⟨.tuple_list p p2.isList hu', .tuple_list p p2.isList hu', .tuple_list p p2.isList hu'⟩
      | tup es =>
        have hok1 := hok
        have hok2 := hok'
        unfold D.ok at hok1 hok2
        obtain ⟨b, ys, rfl, f2, f3⟩ := h'.to_tup
        cases r'
        obtain ⟨its2, r2, p2, _⟩ := I.tuple (.inl (.inl f2))
        have n1 : its.toArray.size = ds.length := by rw [List.size_toArray, ← r1.length, e3.len]
        have n2 : its2.toArray.size = es.length := by rw [List.size_toArray, ← r2.length, f3.len]
        have items := cmp_seq (A := A.in1) e3 f3 r1 r2 fun d d' v u x y hd hd' q1 q2 q3 q4 => (ih A.in1 d d' v u x y (okS_mem hok1 hd) (okS_mem hok2 hd') (hn' d hd) hin q1 q2 q3 q4).eq
        refine cmp_of_refs (k := (List.range (min its.toArray.size its2.toArray.size)).all (fun j => eqD (ds.getD j .non) (es.getD j .non)) && its.toArray.size == its2.toArray.size) ?_ hok h h' (.tuples p p2 hu' items) (.tuples p p2 hu' items)
        rw [n1, n2, eqD_tup]
        by_cases hl : ds.length = es.length
        · rw [eqDs_all hl, ← hl, Nat.min_self, beq_self_eq_true, Bool.and_true]
        · rw [eqDs_len hl, beq_eq_false_iff_ne.mpr hl, Bool.and_false]
    | oth => unfold D.ok at hok; cases hok
    | non => exact ih A .non d' v u x y hok hok' (by unfold D.dep; omega) (by omega) h h' r r'
    | bl b => exact ih A (.bl b) d' v u x y hok hok' (by unfold D.dep; omega) (by omega) h h' r r'
    | int b => exact ih A (.int b) d' v u x y hok hok' (by unfold D.dep; omega) (by omega) h h' r r'
    | str b => exact ih A (.str b) d' v u x y hok hok' (by unfold D.dep; omega) (by omega) h h' r r'
theorem op_eq_deep (K : PySem.W.Frag) (hK : X.K = K) (hu : X.A.units + 64 < cLine) : OpR X (compareOp .Eq) (fun x y H Q => ∃ d d', Den H x d ∧ Den H y d' ∧ d.ok = true ∧ d'.ok = true ∧ d.dep ≤ 64 ∧ Q (.bl (eqD d d')) H) := by
  subst hK
  intro pins s σ H x y v u Q I rx ry h
  obtain ⟨d, d', h1, h2, k1, k2, hd, q⟩ := h
  exact (cmp_D I 64 X.A d d' x y v u k1 k2 hd hu h1 h2 rx ry).rc X.prog X.w _ _ ⟨.bl _, H, I, rfl, q⟩
end
end L2


set_option linter.all false
set_option maxRecDepth 100000
set_option maxHeartbeats 4000000
namespace L2
open PySem PySem.Spec PyProof.Rows
section
variable {X : Cx} {pins : List (Addr × Obj)} {σ : St} {H : Hp} {s : Shared} {h' : Heap}

theorem Inv.turns {t' : Nat} {ch : List Addr} (I : Inv X pins σ H s) (k : ∀ b o, b ∉ ch → s.heap.get? b = some o → h'.get? b = some o) (hf : ∀ b ∈ ch, FpOk X pins H b) : Inv X pins σ H { s with heap := h', toks := t' } := by
  have nit : ∀ b u, H b = some u → b ∉ ch := fun b u e z => by rw [(hf b z).1] at e; cases e
  refine I.step (g' := s.gens) (d' := s.drawn) (ch := ch) (fun b hb => ⟨(hf b hb).2.2.2.1, (hf b hb).2.1, (hf b hb).2.2.2.2.1, (hf b hb).2.2.2.2.2⟩) (fun b o _ _ hc e _ => k b o hc e) (fun b o _ _ hc e _ => ⟨o.slots, k b o hc e⟩) (fun _ _ _ _ n => n)
    (fun b o hc e => ⟨o, k b o hc e⟩) (fun _ _ e => e) (fun _ _ _ e => e) (fun b ps e => ⟨#[], by rw [e]; simp⟩) (fun m hm => ?_) (fun b u e => ?_) I.bare
  · obtain ⟨o, es, ep, ho, r⟩ := hm
    exact ⟨o, es, ep, k _ o (fun z => (hf _ z).2.1 rfl) ho, r⟩
  · refine (I.hok b u e).stay (fun c v hc q => k c v ?_ q) (fun _ q => q) fun _ _ q => q
    rcases hc with z | z
    · rw [z]; exact nit b u e
    · exact nit c _ z

end

def Ite (K : PySem.W.Frag) (a : Addr) : It :=
  ⟨fun i H => ∃ xs x, SqL K H a xs ∧ xs[i]? = some x, fun i H v H' => ∃ T, H T = none ∧ v = .ref T ∧ ∀ xs, SqL K H a xs → ∃ x, xs[i]? = some x ∧ H' = upd H T (.tup [.int i, x]), fun i H => ∃ xs, SqL K H a xs ∧ xs.length ≤ i⟩
section
variable {X : Cx} {elts : List Expr} {k : Nat} {tpos : Pos}
def iEnum (K : PySem.W.Frag) (ta : TA) : TI := fun σ H R => ta σ H fun vs H1 => ∃ a, vs = [.ref a] ∧ (∃ xs, Rd H1 a (.lst xs)) ∧ R (Ite K a) H1
end

def GivesG (J : It) (n : Nat) (H : Hp) (item : Nat → V → Hp → Prop) : Prop := ∀ i H', Same H H' → Plain H' → (i < n → J.go i H' ∧ ∀ x H3, J.yld i H' x H3 → Same H' H3 ∧ Plain H3 ∧ item i x H3) ∧ J.stop n H'
theorem GivesN.g {J : It} {n : Nat} {H : Hp} {item : Nat → V → Prop} (h : GivesN J n H item) : GivesG J n H fun i x _ => item i x := fun i H' s p =>
  ⟨fun hi => ⟨((h i H' s).1 hi).1, fun x H3 hy => by obtain ⟨e, it⟩ := ((h i H' s).1 hi).2 x H3 hy; subst e; exact ⟨Same.refl _, p, it⟩⟩, (h i H' s).2⟩
end L2


set_option linter.all false
set_option maxRecDepth 100000
set_option maxHeartbeats 4000000
namespace L2
open PySem PySem.Spec PyProof.Rows
section
variable {X : Cx} {elt tg iter : Expr} {ifs : List Expr} {scope : Scope} {cl : List (Str × Addr)} {N : List Str} {ρ : List (Option Nat)} {pos : Pos} {wi : TI} {g : TG} {tc : TT} {te : TE}

theorem comp_core (hc : X.calm = true) (S : CompScope X N ρ scope cl)
    (hg : ∀ C s₀ H₀ ex pn, PG (cxComp X N scope cl C s₀ H₀ ex pn) tg g) (ht : ∀ C s₀ H₀ ex pn, PTs (cxComp X N scope cl C s₀ H₀ ex pn) ifs tc) (he : ∀ C s₀ H₀ ex pn, PE (cxComp X N scope cl C s₀ H₀ ex pn) elt te)
    {pins : List (Addr × Obj)} {s2 : Shared} {σ : St} {H2 : Hp} {it : Addr} {fp : List Addr} {tn : Nat → Heap → Prop} {J : It} {Q : VK} {RR : Value → Addr → Result → Shared → Prop} (I2 : Inv X pins σ H2 s2) (T : Turn X.prog X.w X.K tg J fp it tn) (st2 : tn 0 s2.heap) (f2 : ∀ b ∈ fp, FpOk X pins H2 b)
    (q2 : ∀ l, H2 l = none → CompOk J g tc te Q l (pick ρ σ) H2)
    (fin : ∀ (l C : Addr) (s5 : Shared) (H4 : Hp) (m : Str → Option Value), Inv X pins σ H4 s5 → FpOk X pins H4 C → s5.heap.Ns C m → Q (.ref l) H4 → RR (.ref l) C (.ok .next) s5) :
    wpAny (model X.prog X.w) X.A (newList []) (fun acc s3 => wpAny (model X.prog X.w) X.A (newFunctionEnv scope X.env.globals cl [] X.env.qual none .none (some X.env)) (fun cenv s4 =>
      codeAny (model X.prog X.w) X.A (.compStart (.ListComp elt [⟨tg, iter, ifs, 0⟩] scope pos) 0 (.ref it) acc { cenv with scope := relabel scope X.env }) (RR acc cenv.locals) s4) X.xe s3) X.xe s2 := by
  obtain ⟨W, ⟨m0, w0⟩, turn⟩ := q2 _ (I2.hok.fresh (Nat.le_refl _))
  refine wpAny_newObj_type (wpAny_newFunctionEnv S.nocell (by intro y hy; simp at hy) (fun h₁ hns₁ hsb₁ => ?_) S.kind)
  dsimp only at hns₁ hsb₁ ⊢
  have I3 : Inv X pins σ (upd H2 s2.heap.objs.size (.lst [])) { s2 with heap := s2.heap.push { cls := .type "list", dict := none, data := .seq ([] : List Value).toArray } } :=
    I2.laid (t' := s2.toks) (fun b u eo => Heap.get?_push_of_some _ eo) (Nat.le_refl _) ⟨by simp, [], 0, .nil, Heap.get?_push_size _ rfl⟩
  generalize hs3 : ({ s2 with heap := s2.heap.push { cls := .type "list", dict := none, data := .seq ([] : List Value).toArray } } : Shared) = s3 at I3
  have es3 : s2.heap.push { cls := .type "list", dict := none, data := .seq ([] : List Value).toArray } = s3.heap := by rw [← hs3]
  rw [es3] at hns₁ hsb₁ ⊢
  have f3 : ∀ b ∈ fp, FpOk X pins (upd H2 s2.heap.objs.size (.lst [])) b := fun b hb => by
    obtain ⟨o, eo, _⟩ := T.obj _ _ st2 b hb
    exact ⟨by rw [upd_ne (Nat.ne_of_lt (Heap.lt_size eo))]; exact (f2 b hb).1, (f2 b hb).2⟩
  have lt3 : ∀ b ∈ fp, b < s3.heap.objs.size := fun b hb => by
    obtain ⟨o, eo, _⟩ := T.obj _ _ st2 b hb
    rw [← es3, Heap.size_push]
    exact Nat.lt_succ_of_lt (Heap.lt_size eo)
  have old : ∀ b o, s3.heap.get? b = some o → h₁.get? b = some o := fun b o eo => hsb₁.extBut b o (Nat.ne_of_lt (Heap.lt_size eo)) (Heap.get?_push_of_some _ eo)
  have Ic : Inv (cxComp X N scope cl s3.heap.objs.size s3 (upd H2 s2.heap.objs.size (.lst [])) fp (X.pn ++ pins)) [] (pick ρ σ) (upd H2 s2.heap.objs.size (.lst [])) { s2 with heap := h₁, toks := s2.toks + ([] : List (Str × Value)).length } :=
    inv_comp S I3 f3 lt3 hns₁ old (by rw [← hs3] <;> rfl)
  have stat : ∀ {pl : List (Addr × Obj)} {H' : Hp}, pl = [] → (∀ b ∈ fp, H' b = none) → ∀ b ∈ fp, FpOk (cxComp X N scope cl s3.heap.objs.size s3 (upd H2 s2.heap.objs.size (.lst [])) fp (X.pn ++ pins)) pl H' b := fun {pl H'} epl hn b hb => by
    subst epl
    refine ⟨hn b hb, Nat.ne_of_lt (lt3 b hb), fun z => ?_, .inl hb, fun x c h1 => (f2 b hb).2.2.2.2.1 x c (S.sub x c h1), fun p hp => (f2 b hb).2.2.2.2.2 p (by simpa using hp)⟩
    rcases List.mem_cons.mp (I3.stkSub b z) with z | z
    · exact (f2 b hb).2.1 z
    · exact (f2 b hb).2.2.1 z
  have st4 : tn 0 h₁ := T.keep _ _ _ st2 fun b hb o eo => old b o (by rw [← es3]; exact Heap.get?_push_of_some _ eo)
  have loop : codeAny (model X.prog X.w) X.A (.compLoop (.ListComp elt [⟨tg, iter, ifs, 0⟩] scope pos) 0 (.ref it) (.ref s2.heap.objs.size) (compEnvC scope cl s3.heap.objs.size X.env))
      (RR (.ref s2.heap.objs.size) s3.heap.objs.size) { s2 with heap := h₁, toks := s2.toks + ([] : List (Str × Value)).length } := by
    refine comp_loop (fun n s' => ∃ i ys τ H', Inv (cxComp X N scope cl s3.heap.objs.size s3 (upd H2 s2.heap.objs.size (.lst [])) fp (X.pn ++ pins)) [] τ H' s' ∧ tn i s'.heap ∧ (∀ b ∈ fp, H' b = none) ∧ W i n ys τ H') ?_ m0
      ⟨0, [], _, _, Ic, st4, fun b hb => (f3 b hb).1, w0⟩
    rintro n s4 ⟨i, ys, τ, H4, I4, st, fr4, w4⟩
    rcases turn i n ys τ H4 w4 with ⟨stop, qn⟩ | ⟨go, step⟩
    · refine thn (T.done (cxComp X N scope cl s3.heap.objs.size s3 (upd H2 s2.heap.objs.size (.lst [])) fp (X.pn ++ pins)) rfl rfl rfl hc i [] s4 τ H4 _ I4 (stat rfl fr4) st stop) fun r s5 ⟨hr, I5⟩ => ?_
      subst hr
      obtain ⟨m5, hn5, _⟩ := I5.loc
      have get' : ∀ b o, s5.heap.get? b = some o → s5.heap.get? b = some o := fun b o eo => eo
      have un : Un (frs X.stack) fp (upd H2 s2.heap.objs.size (.lst [])) H4 s3.heap s5.heap :=
        ⟨fun b o eo n1 n2 n3 => I5.base.keep b o eo n1 n2 n3, fun b o eo n1 n2 n3 => I5.base.slot b o eo n1 n2 n3, I5.base.free, fun b o eo n1 => I5.base.there b o eo n1, I5.base.tups, I5.base.frzs, I5.base.tbls⟩
      have I6 : Inv X pins σ H4 s5 := I3.call' (s' := s5) (ch := fp) (show s5.os = s3.os from I5.os) un I5.hok I5.bare fun b hb => ⟨(f3 b hb).2.2.2.1, (f3 b hb).2.1, (f3 b hb).2.2.2.2.1, (f3 b hb).2.2.2.2.2⟩
      have fr : H4 s3.heap.objs.size = none := I5.free
      exact fin _ _ s5 H4 m5 I6 (I3.fpOk (Nat.le_refl _) fr) hn5 qn
    · refine thn (T.item (cxComp X N scope cl s3.heap.objs.size s3 (upd H2 s2.heap.objs.size (.lst [])) fp (X.pn ++ pins)) rfl rfl rfl hc i [] s4 τ H4 _ I4 (stat rfl fr4) st go) fun r s5 ⟨u, hr, h5⟩ => ?_
      subst hr
      refine thn h5 fun _ s6 ⟨x, H6, I6, r6, y6, st6, fr6⟩ => ?_
      have I6' := I6.pinned (stat rfl fr6) (T.obj _ _ st6)
      have again : ∀ {s9 : Shared} {τ9 : St} {H9 : Hp} {zs : List V} {m' : Nat}, Inv (cxComp X N scope cl s3.heap.objs.size s3 (upd H2 s2.heap.objs.size (.lst [])) fp (X.pn ++ pins)) ([] ++ pinsAt fp s6.heap) τ9 H9 s9 → m' < n → W (i + 1) m' zs τ9 H9 →
          ∃ m, m < n ∧ ∃ i ys τ H', Inv (cxComp X N scope cl s3.heap.objs.size s3 (upd H2 s2.heap.objs.size (.lst [])) fp (X.pn ++ pins)) [] τ H' s9 ∧ tn i s9.heap ∧ (∀ b ∈ fp, H' b = none) ∧ W i m ys τ H' := fun {s9 τ9 H9 zs m'} I9 hm w9 => by
        refine ⟨m', hm, i + 1, zs, τ9, H9, I9.unpinned, T.keep _ _ _ st6 fun b hb o eo => (I9.pin (b, o) (List.mem_append_right _ (List.mem_append_right _ (mem_pinsAt hb eo)))).1, fun b hb => ?_, w9⟩
        obtain ⟨o, eo, d⟩ := T.obj _ _ st6 b hb
        exact (I9.pin (b, o) (List.mem_append_right _ (List.mem_append_right _ (mem_pinsAt hb eo)))).2.1
      refine thn (hg _ _ _ _ _ _ s6 τ H6 x u _ I6' r6 (step x H6 y6)) fun _ s7 ⟨τ7, H7, I7, q7⟩ => ?_
      refine thn (ht _ _ _ _ _ _ s7 τ7 H7 _ I7 q7) fun ok s8 ⟨H8, I8, q8⟩ => ?_
      cases ok with
      | false =>
        rw [if_neg Bool.false_ne_true] at q8 ⊢
        obtain ⟨m', hm, w9⟩ := q8
        exact again I8 hm w9
      | true =>
        rw [if_pos rfl] at q8 ⊢
        refine thn (he _ _ _ _ _ _ s8 τ7 H8 _ I8 q8) fun y s9 ⟨z, H9, I9, r9, hl9, hz9, m', hm, w9⟩ => ?_
        refine thn (mt_append _ s9 τ7 H9 (.ref s2.heap.objs.size) [z] (.ref s2.heap.objs.size) [y] (fun _ H' => H' = upd H9 s2.heap.objs.size (.lst (ys ++ [z]))) I9 rfl (.cons r9 .nil) ⟨_, ys, z, rfl, rfl, hl9, hz9, rfl⟩) fun _ s10 ⟨_, H10, I10, _, e10⟩ => ?_
        subst e10
        exact again I10 hm w9
  exact codeAny_compStart_list loop (T.self _ 0 _ _ _ st4 loop)

def tSetC (i : Nat) (te : TE) : TS := fun D σ H => te σ H fun v H1 => D.nx (σ.set i (some v)) H1
theorem ps_setC {i : Nat} {y : Str} {py spos : Pos} (hN : X.N.Nodup) (hi : X.N[i]? = some y) (hy : X.env.scope.names.lookup y = some .local) (hc : X.calm = true) (S : CompScope X N ρ scope cl) (hI : PI X tg iter wi)
    (hg : ∀ C s₀ H₀ ex pn, PG (cxComp X N scope cl C s₀ H₀ ex pn) tg g) (ht : ∀ C s₀ H₀ ex pn, PTs (cxComp X N scope cl C s₀ H₀ ex pn) ifs tc) (he : ∀ C s₀ H₀ ex pn, PE (cxComp X N scope cl C s₀ H₀ ex pn) elt te)
    (hsw : swapsWith (.ListComp elt [⟨tg, iter, ifs, 0⟩] scope pos) (some (.Name y py)) spos.line X.env = pure true := by rfl) (hs : ∀ x, foldedSetIterable iter X.env x = pure x := by intro _; rfl) :
    PS X (.Assign [.Name y py] (.ListComp elt [⟨tg, iter, ifs, 0⟩] scope pos) spos) (tSetC i (tComp ρ wi g tc te)) := by
  intro pins s σ H D I h
  rw [exec_Assign_Name_used _ _ _ _ hsw]
  refine wpAny_bind (wpAny_standAt (wpAny_bind ?_))
  show wpAny _ X.A (do let _ ← comprehension (.ListComp elt [⟨tg, iter, ifs, 0⟩] scope pos) scope X.env _ (newList []) false (eval iter X.env) (some (assign (.Name y py) X.env))) _ _ s
  refine wpAny_bind (wpAny_mono (wpAny_comprehension_free (use := some (assign (.Name y py) X.env)) (Q := fun _ s' => SP X pins D .next s') rfl hs S.clos S.kind S.loc
    (thn (hI pins s σ H _ I h) fun v s1 h1 => thn h1 fun itv s2 h2 => ?_)) (fun _ s' hq => wpAny_pure (wpAny_pure hq)) fun _ _ e => e)
  obtain ⟨it, fp, tn, J, H2, e, I2, T, st2, f2, q2⟩ := h2
  subst e
  refine comp_core (RR := fun acc C => compPost (model X.prog X.w) X.A X.xe (some (assign (.Name y py) X.env)) (fun _ s' => SP X pins D .next s') acc C) hc S hg ht he I2 T st2 f2 q2 fun l C s5 H4 m I6 fC hn q => ?_
  obtain ⟨oC, es, ep, hoC, hdC, hrest⟩ := id hn
  have I7 := I6.pinned (fp := [C]) (fun b hb => by rw [List.mem_singleton.mp hb]; exact fC) (fun b hb => ⟨oC, by rw [List.mem_singleton.mp hb]; exact hoC, fun v z => by rw [hdC] at z; cases z⟩)
  show wpAny _ X.A (assign (.Name y py) X.env (.ref l)) _ _ s5
  refine wpAny_assign_Name (store_ok I7 hN hi (.inl hy) (v := .ref l) rfl (fun s6 I8 => ?_) (.inr hy))
  have hpin := (I8.pin (C, oC) (List.mem_append_right _ (List.mem_append_right _ (mem_pinsAt (List.mem_singleton.mpr rfl) hoC))))
  refine ⟨m, ⟨oC, es, ep, hpin.1, hdC, hrest⟩, fun h' hs' => ?_⟩
  have fC' : ∀ b ∈ [C], FpOk X pins H4 b := fun b hb => by rw [List.mem_singleton.mp hb]; exact fC
  exact ⟨_, H4, I8.unpinned.turns (t' := s6.toks) (fun b o hb eo => (hs'.2 b (fun z => hb (List.mem_singleton.mpr z))).trans eo) fC', q⟩
end
end L2


set_option linter.all false
set_option maxRecDepth 100000
set_option maxHeartbeats 4000000
namespace L2
open PySem PySem.Spec PyProof.Rows
theorem mulOk_small {x : Str} {n : Int} (h1 : x.length ≤ 1000) (h2 : -1000 ≤ n) (h3 : n ≤ 1000) : MulOk x n := by
  refine ⟨?_, fun hn _ => ?_, fun hn _ => ?_⟩
  · rw [Bool.or_eq_false_iff]
    exact ⟨decide_eq_false (by omega), decide_eq_false (by omega)⟩
  · intro hgt
    have hn' : 0 < n := by omega
    have h4 := (Int.ediv_lt_iff_lt_mul hn').mp hgt
    have h5 : (x.length : Int) * n ≤ 1000 * 1000 := Int.mul_le_mul (by omega) h3 (by omega) (by omega)
    omega
  · show decide (x.length * n.toNat > sizeLine) = false
    refine decide_eq_false ?_
    have h5 : x.length * n.toNat ≤ 1000 * 1000 := Nat.mul_le_mul h1 (by omega)
    rw [sizeLine_eq]
    omega
theorem op_mul_str {X : Cx} : OpR X (binaryOp .Mult) (fun x y H Q => ∃ i n, x = .str i ∧ y = .int n ∧ i.length ≤ 1000 ∧ -1000 ≤ n ∧ n ≤ 1000 ∧ Q (.str (Txt.mul i n)) H) := by
  intro pins s σ H x y v u Q I rx ry h
  obtain ⟨i, n, rfl, rfl, h1, h2, h3, q⟩ := h
  obtain ⟨t, rfl⟩ := rx
  obtain ⟨t', rfl⟩ := ry
  exact SB.mul (mulOk_small h1 h2 h3) fun t' k => ⟨.str _, H, I.tok _, ⟨_, rfl⟩, q⟩
theorem atI_some {α : Type} {xs : List α} {i : Int} (h0 : 0 ≤ i) (h1 : i < xs.length) : ∃ v, atI xs i = some v ∧ v ∈ xs := by
  have hj : i.toNat < xs.length := by omega
  have e : ((i.toNat : Nat) : Int) = i := by omega
  refine ⟨xs[i.toNat], ?_, List.getElem_mem hj⟩
  have h := atI_nat (xs := xs) (j := i.toNat) (v := xs[i.toNat]) (by simp [hj])
  rw [e] at h
  exact h
theorem slen (a b : Str) : (a ++ b).length = a.length + b.length := by
  show (a ++ b).cps.size = a.cps.size + b.cps.size
  exact Array.size_append ..
theorem cut_ints (ns : List Int) (lo hi : Option Int) : ∃ cs : List Int, cutV (ns.map V.int) lo hi = cs.map V.int ∧ cs.length ≤ ns.length := by
  refine ⟨(ns.drop (HT.sIx (ns.map V.int).length 0 lo)).take (HT.sIx (ns.map V.int).length (ns.map V.int).length hi - HT.sIx (ns.map V.int).length 0 lo), ?_, ?_⟩
  · unfold cutV
    rw [List.map_take, List.map_drop]
  · rw [List.length_take, List.length_drop]
    omega
theorem in62 {x : Int} (h1 : 0 ≤ x) (h2 : x ≤ 1000) : (-(2 ^ 62) : Int) ≤ x ∧ x < 2 ^ 62 := ⟨Int.le_trans (by decide) h1, Int.lt_of_le_of_lt h2 (by decide)⟩
theorem only_plain {H : Hp} (h : Only H) : Plain H := fun a o e => by
  rcases h a with z | ⟨ob, xs, z⟩
  · rw [e] at z; cases z
  · rw [e] at z; cases z; rfl

end L2


set_option linter.all false
set_option maxRecDepth 100000
set_option maxHeartbeats 4000000
namespace L2
open PySem PySem.Spec PyProof.Rows
def notStar : Expr → Bool
  | .Starred _ _ => false
  | _ => true
theorem star_cons {e : Expr} {es : List Expr} {env : Env} (h : notStar e = true) : starEach (e :: es) env = (false, eval e env) :: starEach es env := by
  cases e <;> first | rfl | cases h

theorem pa_cs {X : Cx} {e : Expr} {es : List Expr} {te : TE} {t : TA} (ha : PE X e te) (hr : PA X es t) (h : notStar e = true := by rfl) : PA X (e :: es) (tCons te t) := pa_cons ha hr (star_cons h)

def newIn (H H' : Hp) : Hp := fun b => if (H b).isNone = true then H' b else none
theorem newIn_same (H H' : Hp) : Same (newIn H H') H' := fun b o e => by
  unfold newIn at e
  split at e
  · exact e
  · cases e
theorem newIn_at {H H' : Hp} {b : Addr} {o : HO} (h : H b = none) (e : H' b = some o) : newIn H H' b = some o := by
  unfold newIn
  rw [h]
  exact e
section
variable {X : Cx}

def rSlA : V → Option Int → Option Int → Hp → VK → Prop := fun x lo hi H Q => ∃ a xs, x = .ref a ∧ H a = some (.tup xs) ∧ ∀ p H', Same H H' → (Plain H → Plain H') → (H' = H ∨ H p = none) → H' p = some (.tup (cutV xs lo hi)) → Q (.ref p) H'
def rCatA : R2 := fun x y H Q => ∃ a b xs ys, x = .ref a ∧ y = .ref b ∧ H a = some (.tup xs) ∧ H b = some (.tup ys) ∧ xs.length + ys.length ≤ sizeLine ∧ ∀ p H', Same H H' → (Plain H → Plain H') → (H' = H ∨ H p = none) → H' p = some (.tup (xs ++ ys)) → Q (.ref p) H'
theorem try_split {K : PySem.W.Frag} {C : Addr} {i : Nat} {tb : Ends → (St → XK) → St → Hp → Prop} {ts : TS} {D : Ends} {σ : St} {H : Hp} (M : Value → St → Hp → Prop)
    (hh : ∀ cls σ' H', M cls σ' H' → PySem.W.exmOne K cls (.ref C) = some true ∧ ∀ e, H' e = none →
      ts { nx := fun σ2 H2 => D.nx (σ2.set i none) H2, rt := D.rt, bk := fun σ2 H2 => D.bk (σ2.set i none) H2, ct := fun σ2 H2 => D.ct (σ2.set i none) H2 } (σ'.set i (some (.ref e))) (upd H' e (xO e cls)))
    (hb : ∀ EE : St → XK, (∀ cls σ' o H', M cls σ' H' → EE σ' cls o H') → tb D EE σ H) : tTry K C i tb ts D σ H :=
  hb (fun σ' cls _ H' => PySem.W.exmOne K cls (.ref C) = some true ∧ ∀ e, H' e = none →
      ts { nx := fun σ2 H2 => D.nx (σ2.set i none) H2, rt := D.rt, bk := fun σ2 H2 => D.bk (σ2.set i none) H2, ct := fun σ2 H2 => D.ct (σ2.set i none) H2 } (σ'.set i (some (.ref e))) (upd H' e (xO e cls))) fun cls σ' _ H' m => hh cls σ' H' m
end
end L2


set_option linter.all false
namespace FR
open PySem L2
structure QSs (X : Cx) (st : List Stmt) (t : TS) : Prop where h : PSs X st t
structure QS (X : Cx) (st : Stmt) (t : TS) : Prop where h : PS X st t
theorem qss_cons {X : Cx} {st : Stmt} {rest : List Stmt} {t u : TS} (h1 : QS X st t) (h2 : QSs X rest u) : QSs X (st :: rest) (tSeq t u) := ⟨pss_cons h1.h h2.h⟩
theorem qss_one {X : Cx} {st : Stmt} {t : TS} (h1 : QS X st t) : QSs X [st] t := ⟨pss_one h1.h⟩
structure QE (X : Cx) (e : Expr) (t : TE) : Prop where h : PE X e t
structure QA (X : Cx) (es : List Expr) (t : TA) : Prop where h : PA X es t
theorem qa_nil {X : Cx} : QA X [] tNil := ⟨pa_nil⟩
theorem qe_str {X : Cx} {x j pos} : QE X (.Constant (.str x) j pos) (tC (.str x)) := ⟨pe_str⟩
theorem qe_lst {X : Cx} {es : List Expr} {t : TA} {pos} (h : QA X es t) : QE X (.List es pos) (tLst t) := ⟨pe_lst h.h⟩
theorem qs_set {X : Cx} {i : Nat} {x : Str} {e : Expr} {te : TE} {pos pos' : Pos} (hN : X.N.Nodup) (hi : X.N[i]? = some x) (hx : Loc X.env.scope x) (he : QE X e te) (hs : swapsWith e (some (.Name x pos')) pos.line X.env = pure false := by rfl) (hf : X.fn x = true ∨ X.env.scope.names.lookup x = some .local := by first | exact .inl rfl | exact .inr rfl | assumption) :
    QS X (.Assign [.Name x pos'] e pos) (tAsg te (gName i)) := ⟨ps_set hN hi hx he.h hs hf⟩
theorem qex {X : Cx} {st : List Stmt} {q : TS → Prop} (h : ∃ t, QSs X st t ∧ q t) : ∃ t, PSs X st t ∧ q t := let ⟨t, a, b⟩ := h; ⟨t, a.h, b⟩
end FR


set_option linter.all false
set_option maxRecDepth 100000
set_option maxHeartbeats 4000000
namespace L2
open PySem PySem.Spec PyProof.Rows

def Itrs (lo c : Int) (n : Nat) : It := ⟨fun i _ => i < n, fun i H x H' => H' = H ∧ x = .int (lo + i * c), fun i _ => n ≤ i⟩
section
variable {X : Cx} {tg : Expr}
def iRng3 (ta : TA) : TI := fun σ H R => ta σ H fun vs H1 => ∃ (i j c : Int) (n : Nat), vs = [.int i, .int j, .int c] ∧ (c ≠ 0 ∧ c.natAbs < 1073741824) ∧ Builtin.Range.small i j c = true ∧ Builtin.Range.rangeSize i j c = (n : Int) ∧ R (Itrs i c n) H1
end
end L2


set_option linter.all false
set_option maxRecDepth 100000
set_option maxHeartbeats 4000000
namespace L2
open PySem PySem.Spec PyProof.Rows
section
variable {X : Cx}
theorem mt_str_startswith : MtR X "str.startswith" (fun x vs H Q => ∃ z y, x = .str z ∧ vs = [.str y] ∧ Q (.bl (Txt.startswith z y)) H) := by
  intro pins s σ H x xs v us Q I rx rs h
  obtain ⟨z, y, rfl, rfl, q⟩ := h
  obtain ⟨t, rfl⟩ := rx
  obtain ⟨u, rfl, t', rfl⟩ := rs.one
  exact SC.startswith ⟨.bl _, H, I, rfl, q⟩
theorem vals_strs : ∀ l : List (Str × Tok), Vals ((l.map (·.1)).map V.str) (strValues l)
  | [] => .nil
  | p :: r => .cons ⟨p.2, rfl⟩ (vals_strs r)
open Builtin Builtin.Str in
theorem mt_str_split : MtR X "str.split" (fun x vs H Q => ∃ z y, x = .str z ∧ vs = [.str y] ∧ (y.length == 0) = false ∧ z.length + 2 ≤ sizeLine ∧ ∀ l, H l = none → Q (.ref l) (L2.upd H l (.lst ((Txt.split z y).map V.str)))) := by
  intro pins s σ H x xs v us Q I rx rs h
  obtain ⟨z, y, rfl, rfl, hy, hsz, q⟩ := h
  obtain ⟨t, rfl⟩ := rx
  obtain ⟨u, rfl, t', rfl⟩ := rs.one
  have hn : (partsBetween z (occurrences z y 0 z.length (z.length + 1)) y.length).length ≤ sizeLine := by
    have e1 := StrLaws.occ_length_le z y 0 z.length (z.length + 1)
    rw [length_partsBetween]; omega
  have fin : ∀ (l : List (Str × Tok)) (k : Nat), l.map (·.1) = Txt.split z y → l.length ≤ sizeLine → EP X pins σ Q (.ref s.heap.objs.size) { s with heap := s.heap.push { cls := .type "list", data := .seq (strValues l).toArray }, toks := k } := fun l k e hl => by
    refine ⟨.ref s.heap.objs.size, _, I.laid (t' := k) (h' := s.heap.push { cls := .type "list", data := .seq (strValues l).toArray }) (fun b o e => Heap.get?_push_of_some _ e) (Nat.le_refl _) (show ObjOk X.prog X.w _ _ _ (.lst ((Txt.split z y).map V.str)) from ⟨?_, strValues l, 0, ?_, Heap.get?_push_size _ rfl⟩), rfl, q _ (I.hok.fresh (Nat.le_refl _))⟩
    · rw [← e, List.length_map, List.length_map]; exact hl
    · rw [← e]; exact vals_strs l
  cases h1 : (decide (z.length < y.length) || decide (strKind z < strKind y))
  · cases hf : (occurrences z y 0 z.length (z.length + 1)).isEmpty
    · refine call_meets F.slot_str_split (typeIs_str _ _ _) F.entry_str_split (F.args_str_split_2 _ _) (meets_str_split_sep z y t t' h1 hy hf (by omega) hn) ?_
      show wants _ X.xe _ { s with toks := _, heap := s.heap.push { cls := .type "list", data := .seq (strsFrom s.toks (partsBetween z (occurrences z y 0 z.length (z.length + 1)) y.length)).toArray } }
      rw [strsFrom_eq]
      refine fin (numbered s.toks _) _ ((numbered_texts _ _).trans ((if_neg (ne_true_of_eq_false h1)).trans (if_neg (ne_true_of_eq_false hf))).symm) ?_
      have := congrArg List.length (numbered_texts s.toks (partsBetween z (occurrences z y 0 z.length (z.length + 1)) y.length))
      rw [List.length_map] at this
      omega
    · exact call_meets F.slot_str_split (typeIs_str _ _ _) F.entry_str_split (F.args_str_split_2 _ _) (meets_str_split_not_found z y t t' h1 hy hf)
        (fin [(z, t)] s.toks ((if_neg (ne_true_of_eq_false h1)).trans (if_pos hf)).symm (by show 1 ≤ sizeLine; omega))
  · exact call_meets F.slot_str_split (typeIs_str _ _ _) F.entry_str_split (F.args_str_split_2 _ _) (meets_str_split_cannot_occur z y t t' h1)
      (fin [(z, t)] s.toks (if_pos h1).symm (by show 1 ≤ sizeLine; omega))

theorem call_int_str : CallR X (.type "int") (fun xs H Q => ∃ x n, xs = [.str x] ∧ PySem.intText? x = some n ∧ x.length ≤ 640 ∧ Q (.int n) H) := by
  intro pins s σ H xs us Q I r h
  obtain ⟨x, n, rfl, hn, hl, q⟩ := h
  obtain ⟨u, rfl, t, rfl⟩ := vals1 r
  exact PySem.W.KIN.call_text hn hl ⟨.int n, H, I.tok _, ⟨_, rfl⟩, q⟩
end

def splitC (c : Nat) : List Nat → List (List Nat)
  | [] => [[]]
  | a :: r => if a = c then [] :: splitC c r else match splitC c r with
    | [] => [[a]]
    | w :: ws => (a :: w) :: ws
theorem splitC_ne (c : Nat) : ∀ l, ∃ w ws, splitC c l = w :: ws
  | [] => ⟨_, _, rfl⟩
  | a :: r => by
    obtain ⟨w, ws, e⟩ := splitC_ne c r
    unfold splitC
    split
    · exact ⟨_, _, rfl⟩
    · rw [e]; exact ⟨_, _, rfl⟩
open Builtin Builtin.Str StrLaws in
theorem occ_all (x : Str) (c : Nat) : ∀ (n a : Nat) (st : Array Nat × Nat), st.snd ≤ a → st.fst.size + n ≤ x.length + 1 →
    (forIn (List.range' a n) st (occBody x ⟨#[c]⟩ x.length (x.length + 1))).run.fst.toList = st.fst.toList ++ (List.range' a n).filter fun i => decide (x.cps.toList[i]? = some c)
  | 0, a, st, _, _ => by simp
  | n + 1, a, st, h1, h2 => by
    rw [List.range'_succ, List.forIn_cons]
    unfold occBody
    by_cases hc : x.cps.toList[a]? = some c
    · have h3 := (subAt_one x c a).mpr hc
      rw [if_pos ⟨⟨⟨by omega, h1⟩, h3.1⟩, h3.2⟩]
      have ih := occ_all x c n (a + 1) (st.fst.push a, a + (⟨#[c]⟩ : Str).length) (by show a + 1 ≤ a + 1; omega) (by simp; omega)
      rw [List.filter_cons, if_pos (decide_eq_true hc)]
      refine Eq.trans ih ?_
      show (st.fst.push a).toList ++ _ = _
      rw [Array.toList_push, List.append_assoc]
      rfl
    · have h3 : ¬ (((st.fst.size < x.length + 1 ∧ st.snd ≤ a) ∧ a + (⟨#[c]⟩ : Str).length ≤ x.length) ∧ subAt x ⟨#[c]⟩ a = true) := fun h => hc ((subAt_one x c a).mp ⟨h.1.2, h.2⟩)
      rw [if_neg h3]
      have ih := occ_all x c n (a + 1) (st.fst, st.snd) (by show st.snd ≤ a + 1; omega) (by show st.fst.size + n ≤ _; omega)
      rw [List.filter_cons, if_neg (by simpa using hc)]
      exact ih
open Builtin Builtin.Str StrLaws in
theorem occ_one (x : Str) (c : Nat) : occurrences x ⟨#[c]⟩ 0 x.length (x.length + 1) = (List.range' 0 x.length).filter fun i => decide (x.cps.toList[i]? = some c) := by
  rw [occ_eq, occ_all x c (x.length + 1 - 0) 0 (#[], 0) (Nat.le_refl _) (by simp)]
  have hn : x.cps.toList.length = x.length := by simp [Str.length]
  show [] ++ _ = _
  rw [List.nil_append, show x.length + 1 - 0 = x.length + 1 from rfl, List.range'_concat, List.filter_append]
  have e : x.cps.toList[0 + x.length]? = none := List.getElem?_eq_none (by omega)
  rw [show ([0 + 1 * x.length].filter fun i => decide (x.cps.toList[i]? = some c)) = [] from by
    rw [List.filter_cons, if_neg (by rw [Nat.one_mul, e]; simp)]; rfl]
  rw [List.append_nil]
open Builtin Builtin.Str StrLaws in
theorem parts_one (x : Str) (c : Nat) : ∀ (n a : Nat), a + n = x.length →
    (partsFrom x 1 a ((List.range' a n).filter fun i => decide (x.cps.toList[i]? = some c))).map (·.cps.toList) = splitC c (x.cps.toList.drop a)
  | 0, a, h => by
    have hn : x.cps.toList.length = x.length := by simp [Str.length]
    show [(strSub x a x.length).cps.toList] = _
    rw [strSub_toList, List.drop_of_length_le (by omega), List.take_nil]
    rfl
  | n + 1, a, h => by
    have hn : x.cps.toList.length = x.length := by simp [Str.length]
    have ih := parts_one x c n (a + 1) (by omega)
    have hlt : a < x.cps.toList.length := by omega
    have ed : x.cps.toList.drop a = x.cps.toList[a] :: x.cps.toList.drop (a + 1) := List.drop_eq_getElem_cons hlt
    have eg : x.cps.toList[a]? = some x.cps.toList[a] := List.getElem?_eq_getElem hlt
    rw [List.range'_succ, List.filter_cons, ed]
    unfold splitC
    by_cases hc : x.cps.toList[a] = c
    · rw [if_pos (by rw [eg, hc]; simp), if_pos hc]
      show (strSub x a a).cps.toList :: (partsFrom x 1 (a + 1) _).map (·.cps.toList) = _
      rw [ih, strSub_toList, Nat.sub_self, List.take_zero]
    · rw [if_neg (by rw [eg]; simpa using hc), if_neg hc, ← ih]
      generalize hF : ((List.range' (a + 1) n).filter fun i => decide (x.cps.toList[i]? = some c)) = cuts
      have hcut : ∀ i ∈ cuts, a + 1 ≤ i ∧ i ≤ x.length := fun i hi => by
        rw [← hF] at hi
        have := List.mem_range'.mp (List.mem_filter.mp hi).1
        omega
      have head : ∀ j, a + 1 ≤ j → (strSub x a j).cps.toList = x.cps.toList[a] :: (strSub x (a + 1) j).cps.toList := fun j hj => by
        rw [strSub_toList, strSub_toList, ed, show j - a = (j - (a + 1)) + 1 by omega, List.take_succ_cons]
      cases cuts with
      | nil =>
        show [(strSub x a x.length).cps.toList] = _
        rw [head _ (by omega)]
        rfl
      | cons i r =>
        show (strSub x a i).cps.toList :: (partsFrom x 1 (i + 1) r).map (·.cps.toList) = _
        rw [head _ (hcut i (List.mem_cons_self ..)).1]
        rfl
open Builtin Builtin.Str StrLaws in
theorem splitC_none {c : Nat} : ∀ {l : List Nat}, ¬ c ∈ l → splitC c l = [l]
  | [], _ => rfl
  | a :: r, h => by
    have h1 : ¬ a = c := fun e => h (by rw [e]; exact List.mem_cons_self ..)
    have ih := splitC_none (c := c) (l := r) fun m => h (List.mem_cons_of_mem _ m)
    unfold splitC
    rw [if_neg h1, ih]
open Builtin Builtin.Str StrLaws in
theorem split_one (x : Str) (c : Nat) (hk : c < 128) : (Txt.split x ⟨#[c]⟩).map (·.cps.toList) = splitC c x.cps.toList := by
  have hn : x.cps.toList.length = x.length := by simp [Str.length]
  have occ : occurrences x ⟨#[c]⟩ 0 x.length (x.length + 1) = (List.range' 0 x.length).filter fun i => decide (x.cps.toList[i]? = some c) := occ_one x c
  have no : occurrences x ⟨#[c]⟩ 0 x.length (x.length + 1) = [] → ¬ c ∈ x.cps.toList := fun e m => by
    obtain ⟨i, hi, ei⟩ := List.mem_iff_getElem.mp m
    have : i ∈ occurrences x ⟨#[c]⟩ 0 x.length (x.length + 1) := by
      rw [occ]
      exact List.mem_filter.mpr ⟨List.mem_range'.mpr ⟨i, by omega, by omega⟩, by rw [List.getElem?_eq_getElem hi, ei]; simp⟩
    rw [e] at this
    cases this
  unfold Txt.split
  split
  · rename_i h
    have hlen : ¬ c ∈ x.cps.toList := by
      rw [Bool.or_eq_true] at h
      rcases h with h | h
      · have h : x.length < 1 := of_decide_eq_true h
        intro m
        have := List.length_pos_of_mem m
        omega
      · have h : strKind x < strKind ⟨#[c]⟩ := of_decide_eq_true h
        have e1 : strKind ⟨#[c]⟩ = 1 := by unfold Builtin.Str.strKind; rw [if_pos (by simp; omega)]
        have e2 : 1 ≤ strKind x := by
          unfold Builtin.Str.strKind
          split
          · decide
          · split <;> decide
        omega
    rw [splitC_none hlen]
    rfl
  · split
    · rename_i h2
      rw [splitC_none (no (List.isEmpty_iff.mp h2))]
      rfl
    · rw [partsBetween_eq, occ]
      exact parts_one x c x.length 0 (by omega)
end L2


set_option linter.all false
set_option maxRecDepth 100000
set_option maxHeartbeats 4000000
namespace L2
open PySem PySem.Spec PyProof.Rows
section
open PySem.W
variable {K : PySem.W.Frag} {M : Model}
end

structure Lands (X : Cx) (pins : List (Addr × Obj)) (σ : St) (H : Hp) (e : Addr) (cls : Value) (s : Shared) : Prop where
  I : Inv X pins σ H s
  new : H e = none
  fly : ∃ (B : Heap) (a0 : Value), Heap.FlyingW B X.stack e cls a0 s.heap ∧ (∀ b u, H b = some u → ∃ o, B.get? b = some o) ∧ (∀ b o, X.s₀.heap.get? b = some o → b ∉ frs X.stack → b ∉ X.ex → ∃ o', B.get? b = some o') ∧ (∀ p ∈ X.pn ++ pins, ∃ o', B.get? p.1 = some o')
abbrev TH := Value → Ends → St → Hp → Prop
def PH (X : Cx) (hs : List ExceptHandler) (t : TH) : Prop := ∀ (pins : List (Addr × Obj)) (s : Shared) (σ : St) (H : Hp) (e : Addr) (cls : Value) (D : Ends), Lands X pins σ H e cls s → t cls D σ H →
  wpAny (model X.prog X.w) X.A (handleBy (.ref e) X.env hs) (SP X pins D) X.xe s

def tTryN (tb : Ends → (St → XK) → St → Hp → Prop) (th : TH) : TS := fun D σ H => tb D (fun σ' cls _ H' => th cls D σ' H') σ H
section
variable {X : Cx}

def tSkip (K : PySem.W.Frag) (cs : List Addr) (th : TH) : TH := fun cls D σ H => (∀ c ∈ cs, PySem.W.exmOne K cls (.ref c) = some false) ∧ th cls D σ H

def tHit0 (K : PySem.W.Frag) (C : Addr) (ts : TS) (th : TH) : TH := fun cls D σ H => (PySem.W.exmOne K cls (.ref C) = some true ∧ ts D σ H) ∨ (PySem.W.exmOne K cls (.ref C) = some false ∧ th cls D σ H)
def tHitAs (K : PySem.W.Frag) (C : Addr) (i : Nat) (ts : TS) (th : TH) : TH := fun cls D σ H => (PySem.W.exmOne K cls (.ref C) = some true ∧ ∀ e, H e = none →
  ts { nx := fun σ2 H2 => D.nx (σ2.set i none) H2, rt := D.rt, bk := fun σ2 H2 => D.bk (σ2.set i none) H2, ct := fun σ2 H2 => D.ct (σ2.set i none) H2 } (σ.set i (some (.ref e))) (upd H e (xO e cls))) ∨ (PySem.W.exmOne K cls (.ref C) = some false ∧ th cls D σ H)
theorem Lands.push {pins : List (Addr × Obj)} {s : Shared} {σ : St} {H : Hp} {e : Addr} {cls : Value} (L : Lands X pins σ H e cls s) (ob : Obj) : Lands X pins σ H e cls { s with heap := s.heap.push ob } := by
  obtain ⟨B, a0, fl, tr, old, pn⟩ := L.fly
  have k : ∀ b o, s.heap.get? b = some o → (s.heap.push ob).get? b = some o := fun b o e => Heap.get?_push_of_some _ e
  exact ⟨L.I.kept (t' := s.toks) k, L.new, B, a0, PySem.W.flying_keeps fl k, tr, old, pn⟩

end
end L2


set_option linter.all false
set_option maxRecDepth 100000
set_option maxHeartbeats 4000000
namespace L2
open PySem PySem.Spec PyProof.Rows
section
variable {X : Cx}

def SameD (kvs kvs' : List (Key × V)) : Prop := kvs.length = kvs'.length ∧ ∀ p ∈ kvs, ∃ i, p.2 = .int i ∧ valV kvs' p.1 = some (.int i)
end
end L2


set_option linter.all false
set_option maxRecDepth 100000
set_option maxHeartbeats 4000000
namespace FR
open PySem L2
def good (c : Nat) : Bool := decide (32 ≤ c) && decide (c ≤ 126) && !decide (c = 37)
def letter (c : Nat) : Bool := decide (65 ≤ c) && decide (c ≤ 90)
def isSignS (z : Str) : Bool := z.cps.size == 2 && z.cps[0]? == some 39 && good (z.cps.getD 1 0)
def isNameS (z : Str) : Bool := decide (1 ≤ z.cps.size) && decide (z.cps.size ≤ 8) && z.cps.toList.all letter
def isTextS (z : Str) : Bool := decide (z.cps.size ≤ 60) && z.cps.toList.all good
def isSignD : D → Bool
  | .str z => isSignS z
  | _ => false
def isNameD : D → Bool
  | .str z => isNameS z
  | _ => false
def isPartD (d : D) : Bool := isSignD d || isNameD d
def isTextD : D → Bool
  | .str z => isTextS z
  | _ => false
def isWholeD : D → Bool
  | .int _ => true
  | _ => false
def isWorthD : D → Bool
  | .int i => decide (0 ≤ i) && decide (i ≤ 10 ^ 60)
  | _ => false
def arePartsD : D → Bool
  | .tup ds => decide (ds.length ≤ 6) && ds.all isPartD
  | _ => false
def isRuleD : D → Bool
  | .tup [h, p, w] => isNameD h && (arePartsD p && isWorthD w)
  | _ => false
def isGramD : D → Bool
  | .lst ds => decide (ds.length ≤ 60) && ds.all isRuleD
  | _ => false
mutual
def _root_.L2.D.short : D → Bool
  | .str z => decide (z.length ≤ 1000)
  | .lst ds => shortS ds
  | .tup ds => shortS ds
  | _ => true
def shortS : List D → Bool
  | [] => true
  | d :: ds => d.short && shortS ds
end
theorem shortS_mem : ∀ {xs : List D} {d : D}, shortS xs = true → d ∈ xs → d.short = true
  | x :: xs, d, h, hd => by
    unfold shortS at h
    rw [Bool.and_eq_true] at h
    rcases List.mem_cons.mp hd with rfl | hd
    · exact h.1
    · exact shortS_mem h.2 hd
theorem shortS_of : ∀ {xs : List D}, (∀ d ∈ xs, d.short = true) → shortS xs = true
  | [], _ => by unfold shortS; rfl
  | x :: xs, h => by unfold shortS; rw [h x List.mem_cons_self, shortS_of fun d hd => h d (List.mem_cons_of_mem _ hd)]; rfl
theorem short_str {z : Str} (h : z.length ≤ 1000) : (D.str z).short = true := by unfold D.short; exact decide_eq_true h
theorem short_len {z : Str} (h : (D.str z).short = true) : z.length ≤ 1000 := by unfold D.short at h; exact of_decide_eq_true h
theorem line1000 {n : Nat} (h : n ≤ 1000) : n ≤ sizeLine := Nat.le_trans h (by rw [sizeLine_eq]; decide)
theorem short_line {z : Str} (h : (D.str z).short = true) : z.length ≤ sizeLine := line1000 (short_len h)
def isStrD : D → Bool | .str _ => true | _ => false
def isListD : D → Bool | .lst _ => true | _ => false
def isTupD : D → Bool | .tup _ => true | _ => false
def isBoolD : D → Bool | .bl _ => true | _ => false
def isIntD : D → Bool | .int _ => true | .bl _ => true | _ => false
section
variable {K : PySem.W.Frag}
theorem kit_int (d : D) : PySem.W.kitOne K (.type (tyD d)) (.type "int") = some (isIntD d) := by cases d <;> kernel_rfl
theorem kit_bool (d : D) : PySem.W.kitOne K (.type (tyD d)) (.type "bool") = some (isBoolD d) := by cases d <;> kernel_rfl
theorem kit_str (d : D) : PySem.W.kitOne K (.type (tyD d)) (.type "str") = some (isStrD d) := by cases d <;> kernel_rfl
theorem kit_tuple (d : D) : PySem.W.kitOne K (.type (tyD d)) (.type "tuple") = some (isTupD d) := by cases d <;> kernel_rfl
end
theorem size_len (z : Str) : z.length = z.cps.size := rfl
theorem le_A (c : Nat) : (!decide (([c] : List Nat) < (("A" : Str)).cps.toList)) = decide (65 ≤ c) := by
  have e : (("A" : Str)).cps.toList = [65] := by decide +kernel
  rw [e]
  by_cases h : 65 ≤ c
  · rw [decide_eq_true h, decide_eq_false (by rw [List.cons_lt_cons_iff]; simp; omega)]; rfl
  · rw [decide_eq_false h, decide_eq_true (by rw [List.cons_lt_cons_iff]; left; omega)]; rfl
theorem le_Z (c : Nat) : (!decide ((("Z" : Str)).cps.toList < ([c] : List Nat))) = decide (c ≤ 90) := by
  have e : (("Z" : Str)).cps.toList = [90] := by decide +kernel
  rw [e]
  by_cases h : c ≤ 90
  · rw [decide_eq_true h, decide_eq_false (by rw [List.cons_lt_cons_iff]; simp; omega)]; rfl
  · rw [decide_eq_false h, decide_eq_true (by rw [List.cons_lt_cons_iff]; left; omega)]; rfl
theorem map_bl (g : Nat → Bool) (l : List Nat) : l.map (fun c => V.bl (g c)) = (l.map g).map V.bl := by rw [List.map_map]; rfl
theorem all_map_id {α : Type} (g : α → Bool) (l : List α) : (l.map g).all id = l.all g := by rw [List.all_map]; rfl

theorem bls_of {ys : List V} {ds : List D} {g : D → Bool} (hl : ys.length = ds.length) (h : ∀ (k : Nat) (y : V), ys[k]? = some y → ∃ d, ds[k]? = some d ∧ y = .bl (g d)) : ys = (ds.map g).map V.bl := by
  refine List.ext_getElem? fun k => ?_
  by_cases hk : k < ys.length
  · obtain ⟨d, hd, hy⟩ := h k ys[k] (List.getElem?_eq_getElem hk)
    rw [List.getElem?_eq_getElem hk, List.getElem?_map, List.getElem?_map, hd, hy]
    rfl
  · rw [List.getElem?_eq_none (by omega), List.getElem?_eq_none (by rw [List.length_map, List.length_map]; omega)]
theorem and_read {te : TE} {σ : St} {H : Hp} {R : VK} {b g : Bool} (ht : b = true → ∀ R : VK, R (.bl g) H → te σ H R) (h : R (.bl (b && g)) H) : if b = true then te σ H R else R (.bl false) H := by
  cases b with
  | true => exact ht rfl R h
  | false => exact h
theorem or_read {te : TE} {σ : St} {H : Hp} {R : VK} {b g : Bool} (ht : b = false → ∀ R : VK, R (.bl g) H → te σ H R) (h : R (.bl (b || g)) H) : if b = true then R (.bl true) H else te σ H R := by
  cases b with
  | true => exact h
  | false => exact ht rfl R h
def spIs (g : D → Bool) : Sp := fun vs H Q _ => ∃ x d, vs = [x] ∧ Den H x d ∧ d.short = true ∧ Plain H ∧ Q (.bl (g d)) H
def spStands : Sp := fun vs H Q _ => ∃ c, vs = [.str ⟨#[c]⟩] ∧ Q (.bl (good c)) H
def spChecked (C : Addr) : Sp := fun vs H Q E => ∃ x d, vs = [x] ∧ Den H x d ∧ d.short = true ∧ Plain H ∧
  (isGramD d = true → ∀ (l : Addr) (xs : List V) (ds : List D), d = .lst ds → Dens H xs ds → H l = none → Q (.ref l) (upd H l (.lst xs))) ∧ (isGramD d = false → E (.ref C) none H)
theorem bool_false {b : Bool} (h : (!b) = true) : b = false := by cases b <;> first | rfl | cases h
theorem bool_true {b : Bool} (h : ¬ (!b) = true) : b = true := by cases b <;> first | rfl | exact absurd rfl h
def spCheckedT (C : Addr) : Sp := fun vs H Q E => ∃ x d, vs = [x] ∧ Den H x d ∧ d.short = true ∧ Plain H ∧ (∀ z, d = .str z → isTextS z = true → Q (.str z) H) ∧ (isTextD d = false → E (.ref C) none H)
end FR


set_option linter.all false
set_option maxRecDepth 100000
set_option maxHeartbeats 4000000
namespace FR
open PySem L2
abbrev Rule := Str × List Str × Int
abbrev Gram := List Rule
def ruleD (r : Rule) : D := .tup [.str r.1, .tup (r.2.1.map D.str), .int r.2.2]
def gramD (g : Gram) : D := .lst (g.map ruleD)
def isPartS (z : Str) : Bool := isSignS z || isNameS z
def okRule (r : Rule) : Bool := isNameS r.1 && ((decide (r.2.1.length ≤ 6) && r.2.1.all isPartS) && (decide (0 ≤ r.2.2) && decide (r.2.2 ≤ 10 ^ 60)))
def okGram (g : Gram) : Bool := decide (g.length ≤ 60) && g.all okRule
theorem isRuleD_ruleD (r : Rule) : isRuleD (ruleD r) = okRule r := by
  obtain ⟨h, ps, w⟩ := r
  show (isNameD (.str h) && (arePartsD (.tup (ps.map D.str)) && isWorthD (.int w))) = _
  show (isNameS h && ((decide ((ps.map D.str).length ≤ 6) && (ps.map D.str).all isPartD) && (decide (0 ≤ w) && decide (w ≤ 10 ^ 60)))) = _
  rw [List.length_map, List.all_map]
  rfl
theorem den_rule {H : Hp} {v : V} {r : Rule} (h : Den H v (ruleD r)) : ∃ t p, v = .ref t ∧ H t = some (.tup [.str r.1, .ref p, .int r.2.2]) ∧ H p = some (.tup (r.2.1.map V.str)) := by
  obtain ⟨t, xs, rfl, ht, hds⟩ := h.to_tup
  match xs, hds with
  | [x0, x1, x2], hds =>
    obtain ⟨_, e0, n0⟩ := hds.get (i := 0) (v := x0) rfl
    obtain ⟨_, e1, n1⟩ := hds.get (i := 1) (v := x1) rfl
    obtain ⟨_, e2, n2⟩ := hds.get (i := 2) (v := x2) rfl
    cases e0
    cases e1
    cases e2
    have f0 := n0.to_str
    have f2 := n2.to_int
    obtain ⟨p, ys, f1, hp, hys⟩ := n1.to_tup
    subst f0 f1 f2
    refine ⟨t, p, rfl, ht, ?_⟩
    have : ys = r.2.1.map V.str := by
      refine List.ext_getElem? fun i => ?_
      cases e : ys[i]? with
      | none =>
        have h1 := List.getElem?_eq_none_iff.mp e
        have h2 := hys.len
        rw [List.length_map] at h2
        rw [List.getElem?_eq_none (by rw [List.length_map]; omega)]
      | some y =>
        obtain ⟨d, hd, dn⟩ := hys.get e
        rw [List.getElem?_map] at hd ⊢
        cases e2 : r.2.1[i]? with
        | none => rw [e2] at hd; cases hd
        | some z =>
          rw [e2] at hd
          cases hd
          rw [dn.to_str]
          rfl
    rw [hp, this]
  | [], h => exact absurd h.len (by simp)
  | [_], h => exact absurd h.len (by simp)
  | [_, _], h => exact absurd h.len (by simp)
  | _ :: _ :: _ :: _ :: _, h => exact absurd h.len (by simp)
def startV : Gram → V
  | [] => .non
  | r :: _ => .str r.1
def hstep (hs : List Str) (h : Str) : List Str := if h ∈ hs then hs else hs ++ [h]
def headsOf (g : Gram) : List Str := (g.map (·.1)).foldl hstep []
def rulesOf (g : Gram) (z : Str) : List Nat := (List.range g.length).filter fun k => decide ((g[k]?.map (·.1)) = some z)
def spStart (C : Addr) : Sp := fun vs H Q E => ∃ x d, vs = [x] ∧ Den H x d ∧ d.short = true ∧ Plain H ∧
  (∀ g, d = gramD g → okGram g = true → ∀ H', Same H H' → Plain H' → Q (startV g) H') ∧ (isGramD d = false → ∀ H', Same H H' → Plain H' → E (.ref C) none H')
def spHeads (C : Addr) : Sp := fun vs H Q E => ∃ x d, vs = [x] ∧ Den H x d ∧ d.short = true ∧ Plain H ∧
  (∀ g, d = gramD g → okGram g = true → ∀ l H', Same H H' → Plain H' → H l = none → H' l = some (.lst ((headsOf g).map V.str)) → Q (.ref l) H') ∧ (isGramD d = false → ∀ H', Same H H' → Plain H' → E (.ref C) none H')
def spRulesOf (C : Addr) : Sp := fun vs H Q E => ∃ x d z, vs = [x, .str z] ∧ Den H x d ∧ d.short = true ∧ Plain H ∧
  (∀ g, d = gramD g → okGram g = true → ∀ l H', Same H H' → Plain H' → H l = none → H' l = some (.lst ((rulesOf g z).map fun (k : Nat) => .int (k : Int))) → Q (.ref l) H') ∧ (isGramD d = false → ∀ H', Same H H' → Plain H' → E (.ref C) none H')

def hdict (hs : List Str) : List (Key × V) := hs.map fun h => (Sum.inr h, .bl true)
end FR


set_option linter.all false
set_option maxRecDepth 100000
set_option maxHeartbeats 4000000
namespace FR
open PySem L2
theorem depS_bound : ∀ {xs : List D} {n : Nat}, (∀ d ∈ xs, d.dep ≤ n) → depS xs ≤ n
  | [], n, _ => by unfold depS; exact Nat.zero_le _
  | x :: xs, n, h => by
    unfold depS
    exact Nat.max_le.mpr ⟨h x List.mem_cons_self, depS_bound fun d hd => h d (List.mem_cons_of_mem _ hd)⟩
theorem ok_tup {xs : List D} (h : ∀ d ∈ xs, d.ok = true) : (D.tup xs).ok = true := by unfold D.ok; exact okS_of h
theorem ok_str (z : Str) : (D.str z).ok = true := by unfold D.ok; rfl
theorem ok_int (z : Int) : (D.int z).ok = true := by unfold D.ok; rfl
theorem dep_tup {xs : List D} {n : Nat} (h : ∀ d ∈ xs, d.dep ≤ n) : (D.tup xs).dep ≤ n + 1 := by unfold D.dep; exact Nat.succ_le_succ (depS_bound h)
theorem dep_str (z : Str) : (D.str z).dep = 0 := by unfold D.dep; rfl
theorem dep_int (z : Int) : (D.int z).dep = 0 := by unfold D.dep; rfl
theorem ok_rule (r : Rule) : (ruleD r).ok = true := by
  refine ok_tup fun d hd => ?_
  simp only [List.mem_cons, List.not_mem_nil, or_false] at hd
  rcases hd with rfl | rfl | rfl
  · exact ok_str _
  · refine ok_tup fun d hd => ?_
    obtain ⟨z, _, rfl⟩ := List.mem_map.mp hd
    exact ok_str z
  · exact ok_int _
theorem dep_rule (r : Rule) : (ruleD r).dep ≤ 2 := by
  refine dep_tup (n := 1) fun d hd => ?_
  simp only [List.mem_cons, List.not_mem_nil, or_false] at hd
  rcases hd with rfl | rfl | rfl
  · rw [dep_str]; decide
  · refine dep_tup (n := 0) fun d hd => ?_
    obtain ⟨z, _, rfl⟩ := List.mem_map.mp hd
    rw [dep_str]; exact Nat.le_refl _
  · rw [dep_int]; decide
theorem name_len8 {z : Str} (h : isNameS z = true) : z.length ≤ 8 := by
  unfold isNameS at h
  rw [Bool.and_eq_true, Bool.and_eq_true] at h
  exact of_decide_eq_true h.1.2
theorem part_len {z : Str} (h : isPartS z = true) : z.length ≤ 8 := by
  unfold isPartS at h
  rw [Bool.or_eq_true] at h
  rcases h with h | h
  · unfold isSignS at h
    rw [Bool.and_eq_true, Bool.and_eq_true, beq_iff_eq] at h
    show z.cps.size ≤ 8
    omega
  · exact name_len8 h
theorem short_rule {r : Rule} (h : okRule r = true) : (ruleD r).short = true := by
  unfold okRule at h
  simp only [Bool.and_eq_true] at h
  obtain ⟨h1, ⟨h2, h3⟩, h4⟩ := h
  unfold ruleD D.short
  refine shortS_of fun d hd => ?_
  simp only [List.mem_cons, List.not_mem_nil, or_false] at hd
  rcases hd with rfl | rfl | rfl
  · exact short_str (Nat.le_trans (name_len8 h1) (by decide))
  · unfold D.short
    refine shortS_of fun d hd => ?_
    obtain ⟨z, hz, rfl⟩ := List.mem_map.mp hd
    exact short_str (Nat.le_trans (part_len (List.all_eq_true.mp h3 z hz)) (by decide))
  · unfold D.short; rfl
def oV : Option Int → V
  | none => .non
  | some i => .int i
end FR


set_option linter.all false
set_option maxRecDepth 100000
set_option maxHeartbeats 4000000
namespace FR
open PySem L2
def spCell (K : PySem.W.Frag) : Sp := fun vs H Q _ => ∃ (a : Addr) (ns : List Int) (k : Int), vs = [.ref a, .int k] ∧ SqL K H a (ns.map V.int) ∧ 0 ≤ k ∧ ∀ v : Int, Q (.int v) H
def spLaw (K : PySem.W.Frag) : Sp := fun vs H Q _ => ∃ (a : Addr) (ns : List Int), vs = [.ref a] ∧ SqL K H a (ns.map V.int) ∧ ns.length ≤ 63 ∧ Plain H ∧ ∀ H', Q (.bl true) H'
theorem law_start {K : PySem.W.Frag} {H : Hp} {a : Addr} {ns : List Int} (hl : ns.length ≤ 63) (hO : Only H) (hS : SqL K H a (ns.map V.int)) : spLaw K [.ref a] H (fun v _ => v = .bl true) fun _ _ _ => False :=
  ⟨a, ns, rfl, hS, hl, only_plain hO, fun _ => rfl⟩
def nameL (l : List Nat) : Bool := decide (1 ≤ l.length) && decide (l.length ≤ 8) && l.all letter
theorem isName_list (z : Str) : isNameS z = nameL z.cps.toList := by
  unfold isNameS nameL
  rw [Array.length_toList]
def BIG : Str := "ABCDEFGHIJKLMNOPQRSTUVWXYZ"
theorem big_list : BIG.cps.toList = (List.range 26).map (65 + ·) := by decide +kernel
theorem big_len : BIG.cps.toList.length = 26 := by decide +kernel
theorem big_line : BIG.length ≤ sizeLine := line1000 (by decide +kernel)
theorem big_letter {c : Nat} (h : c ∈ BIG.cps.toList) : letter c = true := by
  rw [big_list] at h
  obtain ⟨k, hk, rfl⟩ := List.mem_map.mp h
  have := List.mem_range.mp hk
  unfold letter
  rw [decide_eq_true (by omega), decide_eq_true (by omega)]
  rfl
theorem app_list (a b : Str) : (a ++ b).cps.toList = a.cps.toList ++ b.cps.toList := by
  show (a.cps ++ b.cps).toList = _
  exact Array.toList_append
def strOf : Expr → Str
  | .Constant (.str x) _ _ => x
  | .BinOp _ _ b _ => strOf b
  | _ => ⟨#[]⟩
def valOf : Stmt → Str
  | .Assign _ v _ => strOf v
  | .Return (some v) _ => strOf v
  | _ => ⟨#[]⟩
def halfOf (s : Stmt) (i : Nat) : Str := valOf ((defBody s).getD i (.Pass ⟨0, 0, 0, 0⟩))
def goodCodes : List Nat := (List.range 95).filterMap fun k => if k = 5 then none else some (32 + k)
theorem codes_good {c : Nat} (h : c ∈ goodCodes) : good c = true := by
  obtain ⟨k, hk, e⟩ := List.mem_filterMap.mp h
  have := List.mem_range.mp hk
  unfold good
  split at e
  · cases e
  · cases e
    rw [decide_eq_true (by omega), decide_eq_true (by omega), decide_eq_false (by omega)]
    rfl
theorem codes_len : goodCodes.length = 94 := by decide +kernel
theorem q_one : (("'" : Str)).length = 1 := by decide +kernel
theorem q_list : (("'" : Str)).cps.toList = [39] := by decide +kernel
theorem sign_cps (c : Nat) : (("'" : Str) ++ ⟨#[c]⟩).cps = #[39, c] := by
  apply Array.ext'
  rw [app_list, q_list]
  rfl
theorem sign_sign {c : Nat} (h : good c = true) : isSignS (("'" : Str) ++ ⟨#[c]⟩) = true := by
  unfold isSignS
  rw [sign_cps]
  show (true && good c) = true
  rw [h]
  rfl
theorem sign_part {c : Nat} (h : good c = true) : isPartS (("'" : Str) ++ ⟨#[c]⟩) = true := by
  unfold isPartS
  rw [sign_sign h]
  rfl
theorem okRule_of {r : Rule} (h1 : isNameS r.1 = true) (h2 : r.2.1.length ≤ 6) (h3 : ∀ z ∈ r.2.1, isPartS z = true) (h4 : 0 ≤ r.2.2) (h5 : r.2.2 ≤ 10 ^ 60) : okRule r = true := by
  unfold okRule
  have a : r.2.1.all isPartS = true := List.all_eq_true.mpr h3
  rw [h1, decide_eq_true h2, a, decide_eq_true h4, decide_eq_true h5]
  rfl
theorem strs_items {ys : List V} {P : Str → Prop} (h : ∀ (k : Nat) (y : V), ys[k]? = some y → ∃ z, y = .str z ∧ P z) : ∃ zs : List Str, ys = zs.map V.str ∧ ∀ z ∈ zs, P z := by
  induction ys with
  | nil => exact ⟨[], rfl, by simp⟩
  | cons y ys ih =>
    obtain ⟨zs, rfl, hz⟩ := ih fun k y e => h (k + 1) y (by simpa using e)
    obtain ⟨z, rfl, pz⟩ := h 0 y rfl
    exact ⟨z :: zs, rfl, fun x hx => (List.mem_cons.mp hx).elim (fun e => by rw [e]; exact pz) (hz x)⟩
theorem slice_from {x : Str} {i : Int} (h0 : 0 ≤ i) (h1 : i ≤ x.length) : (Txt.slice x (some i) none).cps.toList = x.cps.toList.drop i.toNat := by
  have e := PyProof.Rows.slice_from_eq (x := x) (i := i) (b := x.length) h0 h1 rfl
  rw [e]
  show ((x.cps.toList.drop i.toNat).take ((x.length : Int) - i).toNat) = _
  refine List.take_of_length_le ?_
  rw [List.length_drop, Array.length_toList]
  have : x.length = x.cps.size := rfl
  omega
end FR


set_option linter.all false
set_option maxRecDepth 100000
set_option maxHeartbeats 4000000
namespace FR
open PySem L2
def figC (c : Nat) : Bool := decide (48 ≤ c) && decide (c ≤ 57)
def isFigS (z : Str) : Bool := (decide (1 ≤ z.cps.size) && decide (z.cps.size ≤ 61) && z.cps.toList.all figC) && (decide (z = "0") || !Txt.startswith z "0")
def showPartS (p : Str) : Str := if p = "' " then "'" else p
def readPartS (w : Str) : Str := if w = "'" then "' " else w
def valS (z : Str) : Int := ((NumText.digitsVal z.cps.toList : Nat) : Int)
def ruleText (r : Rule) : Str := Txt.join " " ([r.1, (toString r.2.2 : String), "="] ++ r.2.1.map showPartS)
def ruleOfW : List Str → Option Rule
  | h :: n :: e :: ps => if (isFigS n && decide (e = "=")) = true then (if okRule (h, ps.map readPartS, valS n) = true then some (h, ps.map readPartS, valS n) else none) else none
  | _ => none
def ruleOfS (x : Str) : Option Rule := ruleOfW (Txt.split x " ")
def ruleOfD : D → Option Rule
  | .str z => ruleOfS z
  | _ => none
def spFigures : Sp := fun vs H Q _ => ∃ z, vs = [.str z] ∧ z.length ≤ 1000 ∧ Plain H ∧ Q (.bl (isFigS z)) H
def spStr1 (f : Str → Str) : Sp := fun vs H Q _ => ∃ z, vs = [.str z] ∧ Q (.str (f z)) H
def spShowRule : Sp := fun vs H Q _ => ∃ x r, vs = [x] ∧ Den H x (ruleD r) ∧ okRule r = true ∧ Plain H ∧ ∀ H', Same H H' → Plain H' → Q (.str (ruleText r)) H'
def spReadRule (C : Addr) : Sp := fun vs H Q E => ∃ x d, vs = [x] ∧ Den H x d ∧ d.short = true ∧ Plain H ∧
  (∀ r, ruleOfD d = some r → ∀ p H', Same H H' → Plain H' → Den (newIn H H') p (ruleD r) → Q p H') ∧ (ruleOfD d = none → ∀ H', Same H H' → Plain H' → E (.ref C) none H')
theorem le_0 (c : Nat) : (!decide (([c] : List Nat) < (("0" : Str)).cps.toList)) = decide (48 ≤ c) := by
  have e : (("0" : Str)).cps.toList = [48] := by decide +kernel
  rw [e]
  by_cases h : 48 ≤ c
  · rw [decide_eq_true h, decide_eq_false (by rw [List.cons_lt_cons_iff]; simp; omega)]; rfl
  · rw [decide_eq_false h, decide_eq_true (by rw [List.cons_lt_cons_iff]; left; omega)]; rfl
theorem le_9 (c : Nat) : (!decide ((("9" : Str)).cps.toList < ([c] : List Nat))) = decide (c ≤ 57) := by
  have e : (("9" : Str)).cps.toList = [57] := by decide +kernel
  rw [e]
  by_cases h : c ≤ 57
  · rw [decide_eq_true h, decide_eq_false (by rw [List.cons_lt_cons_iff]; simp; omega)]; rfl
  · rw [decide_eq_false h, decide_eq_true (by rw [List.cons_lt_cons_iff]; left; omega)]; rfl
theorem fig_reads {z : Str} (h : isFigS z = true) : PySem.intText? z = some (valS z) ∧ z.length ≤ 640 := by
  unfold isFigS at h
  simp only [Bool.and_eq_true, decide_eq_true_eq] at h
  obtain ⟨⟨⟨h1, h2⟩, h3⟩, _⟩ := h
  have hl : z.length ≤ 640 := Nat.le_trans h2 (by decide)
  refine ⟨PySem.intText_digits (fun c hc => ?_) (fun e => ?_) (Nat.le_trans hl (by decide)), hl⟩
  · have := List.all_eq_true.mp h3 c hc
    unfold figC at this
    simp only [Bool.and_eq_true, decide_eq_true_eq] at this
    exact this
  · have : z.cps.toList.length = 0 := by rw [e]; rfl
    rw [Array.length_toList] at this
    omega
theorem str_eq {x y : Str} (h : x.cps.toList = y.cps.toList) : x = y := by
  cases x; cases y
  congr 1
  exact Array.toList_inj.mp h
theorem dec_str {x y : Str} : decide (V.str x = V.str y) = decide (x = y) := by
  by_cases h : x = y
  · rw [decide_eq_true h, decide_eq_true (by rw [h])]
  · rw [decide_eq_false h, decide_eq_false (fun e => h (V.str.inj e))]
end FR


set_option linter.all false
set_option maxRecDepth 100000
set_option maxHeartbeats 4000000
namespace FR
open PySem L2
open Builtin Builtin.Str in
theorem split_len (x y : Str) : (Txt.split x y).length ≤ x.length + 2 := by
  unfold Txt.split
  split
  · show 1 ≤ _
    omega
  · split
    · show 1 ≤ _
      omega
    · have e1 := StrLaws.occ_length_le x y 0 x.length (x.length + 1)
      rw [length_partsBetween]; omega
def joinC (c : Nat) : List (List Nat) → List Nat
  | [] => []
  | [w] => w
  | w :: v :: r => w ++ c :: joinC c (v :: r)
theorem splitC_app {c : Nat} {l : List Nat} : ∀ {w : List Nat}, ¬ c ∈ w → splitC c (w ++ c :: l) = w :: splitC c l
  | [], _ => by
    show splitC c (c :: l) = _
    rw [splitC, if_pos rfl]
  | a :: w, h => by
    have h1 : ¬ a = c := fun e => h (by rw [e]; exact List.mem_cons_self ..)
    have ih := splitC_app (c := c) (l := l) (w := w) fun m => h (List.mem_cons_of_mem _ m)
    show splitC c (a :: (w ++ c :: l)) = _
    rw [splitC, if_neg h1, ih]
theorem splitC_join {c : Nat} : ∀ {ws : List (List Nat)}, ws ≠ [] → (∀ w ∈ ws, ¬ c ∈ w) → splitC c (joinC c ws) = ws
  | [], h, _ => absurd rfl h
  | [w], _, h => splitC_none (h w (List.mem_cons_self ..))
  | w :: v :: r, _, h => by
    show splitC c (w ++ c :: joinC c (v :: r)) = _
    rw [splitC_app (h w (List.mem_cons_self ..)), splitC_join (by simp) fun x hx => h x (List.mem_cons_of_mem _ hx)]
theorem join_codes (c : Nat) : ∀ ws : List Str, (Str.join ⟨#[c]⟩ ws).cps.toList = joinC c (ws.map (·.cps.toList))
  | [] => rfl
  | [w] => rfl
  | w :: v :: r => by
    show (w ++ ⟨#[c]⟩ ++ Str.join ⟨#[c]⟩ (v :: r)).cps.toList = _
    rw [app_list, app_list, join_codes c (v :: r), List.append_assoc]
    rfl
theorem codes_inj : ∀ {xs ys : List Str}, xs.map (·.cps.toList) = ys.map (·.cps.toList) → xs = ys
  | [], [], _ => rfl
  | [], _ :: _, h => by cases h
  | _ :: _, [], h => by cases h
  | x :: xs, y :: ys, h => by
    rw [List.map_cons, List.map_cons] at h
    injection h with h1 h2
    rw [str_eq h1, codes_inj h2]
theorem blank_eq : (" " : Str) = ⟨#[32]⟩ := by decide +kernel
theorem split_join {ws : List Str} (h0 : ws ≠ []) (h : ∀ w ∈ ws, ¬ 32 ∈ w.cps.toList) : Txt.split (Txt.join " " ws) " " = ws := by
  apply codes_inj
  rw [blank_eq, split_one _ 32 (by decide)]
  show splitC 32 (Builtin.Str.glued ⟨#[32]⟩ ws).cps.toList = _
  rw [StrLaws.glued_eq_join, join_codes, splitC_join (by simpa using h0)]
  intro w hw
  obtain ⟨x, hx, rfl⟩ := List.mem_map.mp hw
  exact h x hx
theorem name_no32 {z : Str} (h : isNameS z = true) : ¬ 32 ∈ z.cps.toList := fun m => by
  unfold isNameS at h
  rw [Bool.and_eq_true] at h
  have := List.all_eq_true.mp h.2 32 m
  exact absurd this (by decide)

theorem sign_codes {z : Str} (h : isSignS z = true) : ∃ c, z.cps.toList = [39, c] ∧ good c = true := by
  unfold isSignS at h
  rw [Bool.and_eq_true, Bool.and_eq_true] at h
  obtain ⟨⟨h1, h2⟩, h3⟩ := h
  have h1 : z.cps.size = 2 := eq_of_beq h1
  have h2 : z.cps[0]? = some 39 := eq_of_beq h2
  refine ⟨z.cps.getD 1 0, ?_, h3⟩
  refine List.ext_getElem? fun i => ?_
  match i with
  | 0 => rw [Array.getElem?_toList, h2]; rfl
  | 1 => rw [Array.getElem?_toList]; simp [h1]
  | i + 2 => rw [List.getElem?_eq_none (by rw [Array.length_toList]; omega), List.getElem?_eq_none (by simp)]
theorem qb_list : (("' " : Str)).cps.toList = [39, 32] := by decide +kernel
theorem show_no32 {p : Str} (h : isPartS p = true) : ¬ 32 ∈ (showPartS p).cps.toList := by
  unfold showPartS
  split
  · rw [q_list]; decide
  · rename_i hn
    unfold isPartS at h
    rw [Bool.or_eq_true] at h
    rcases h with h | h
    · obtain ⟨c, hc, hg⟩ := sign_codes h
      rw [hc]
      intro m
      have : c = 32 := (show 32 = c by simpa using m).symm
      subst this
      exact hn (str_eq (by rw [hc, qb_list]))
    · exact name_no32 h
theorem read_show {p : Str} (h : isPartS p = true) : readPartS (showPartS p) = p := by
  unfold showPartS readPartS
  by_cases e : p = "' "
  · rw [if_pos e, if_pos rfl, e]
  · rw [if_neg e, if_neg]
    intro e2
    rw [e2] at h
    exact absurd h (by decide +kernel)

theorem num_codes {n : Int} (h0 : 0 ≤ n) : ((toString n : String) : Str).cps.toList = (Nat.toDigits 10 n.toNat).map Char.toNat := by
  have e : n = ((n.toNat : Nat) : Int) := by omega
  have := PySem.W.KIN.signs_num n.toNat
  rw [← e] at this
  exact this
theorem dig_ne0 : ∀ d : Nat, d < 10 → 0 < d → (Nat.digitChar d).toNat ≠ 48 := by decide
theorem num_first (m : Nat) : 0 < m → ∃ c r, (Nat.toDigits 10 m).map Char.toNat = c :: r ∧ c ≠ 48 := by
  induction m using Nat.strongRecOn with
  | _ m ih =>
    intro hm
    by_cases h : m < 10
    · rw [Nat.toDigits_of_lt_base h]
      exact ⟨_, _, rfl, dig_ne0 m h hm⟩
    · have hm : m % 10 < 10 := Nat.mod_lt m (by decide)
      have t : Nat.toDigits 10 (m / 10) ++ Nat.toDigits 10 (m % 10) = Nat.toDigits 10 (10 * (m / 10) + m % 10) := Nat.toDigits_append_toDigits (by decide) (by omega) hm
      rw [Nat.div_add_mod] at t
      obtain ⟨c, r, e, hc⟩ := ih (m / 10) (by omega) (by omega)
      rw [← t, List.map_append, e]
      exact ⟨c, _, rfl, hc⟩
theorem zero_list : (("0" : Str)).cps.toList = [48] := by decide +kernel
theorem starts_0 (z : Str) : Txt.startswith z "0" = decide (z.cps.toList[0]? = some 48) := by
  have e0 : (("0" : Str)) = ⟨#[48]⟩ := by decide +kernel
  rw [e0, Bool.eq_iff_iff, decide_eq_true_eq]
  have := StrLaws.subAt_one z 48 0
  unfold Txt.startswith
  rw [Bool.and_eq_true, decide_eq_true_eq]
  exact this
theorem num_fig {n : Int} (h0 : 0 ≤ n) (h1 : n ≤ 10 ^ 60) : isFigS (toString n : String) = true := by
  have hc := num_codes h0
  have hl : ((toString n : String) : Str).length ≤ 61 := PyProof.Rows.toString_length_le h0 (by decide) (Int.lt_of_le_of_lt h1 (by decide))
  have hl1 : 1 ≤ ((toString n : String) : Str).cps.size := by
    rw [← Array.length_toList, hc, List.length_map]
    exact toDigits_len_ge 10 _
  unfold isFigS
  rw [decide_eq_true hl1, decide_eq_true (show ((toString n : String) : Str).cps.size ≤ 61 from hl), Bool.and_eq_true]
  refine ⟨?_, ?_⟩
  · show ((toString n : String) : Str).cps.toList.all figC = true
    rw [hc, List.all_eq_true]
    intro c hm
    obtain ⟨ch, hch, rfl⟩ := List.mem_map.mp hm
    have r := PyProof.Rows.digit_range (Nat.isDigit_of_mem_toDigits (by decide) (by decide) hch)
    unfold figC
    rw [decide_eq_true r.1, decide_eq_true r.2]
    rfl
  · by_cases hz : n = 0
    · subst hz
      decide +kernel
    · obtain ⟨c, r, e, hne⟩ := num_first n.toNat (by omega)
      have e9 : Txt.startswith (toString n : String) "0" = false := by
        rw [starts_0, hc, e]
        exact decide_eq_false (by simpa using hne)
      rw [e9]
      simp
theorem num_val {n : Int} (h0 : 0 ≤ n) : valS (toString n : String) = n := by
  unfold valS
  rw [num_codes h0, PySem.W.KIN.val_back]
  omega
theorem num_no32 {n : Int} (h0 : 0 ≤ n) (h1 : n ≤ 10 ^ 60) : ¬ 32 ∈ ((toString n : String) : Str).cps.toList := fun m => by
  have h := num_fig h0 h1
  unfold isFigS at h
  rw [Bool.and_eq_true, Bool.and_eq_true] at h
  have := List.all_eq_true.mp h.1.2 32 m
  exact absurd this (by decide)
theorem num_len {n : Int} (h0 : 0 ≤ n) (h1 : n ≤ 10 ^ 60) : ((toString n : String) : Str).length ≤ 61 := PyProof.Rows.toString_length_le h0 (by decide) (Int.lt_of_le_of_lt h1 (by decide))
theorem log_small {i : Int} (h0 : 0 ≤ i) (h1 : i ≤ 10 ^ 60) : i.natAbs.log2 < 1920 := by
  by_cases hz : i.natAbs = 0
  · rw [hz]; decide
  · refine Nat.lt_of_lt_of_le ((Nat.log2_lt hz).mpr ?_) (show 200 ≤ 1920 by decide)
    have : (10 : Int) ^ 60 < ((2 ^ 200 : Nat) : Int) := by decide +kernel
    have h2 : ((i.natAbs : Nat) : Int) < ((2 ^ 200 : Nat) : Int) := by
      rw [Int.natAbs_of_nonneg h0]
      exact Int.lt_of_le_of_lt h1 this
    exact Int.ofNat_lt.mp h2
theorem ok_worth {r : Rule} (h : okRule r = true) : 0 ≤ r.2.2 ∧ r.2.2 ≤ 10 ^ 60 := by
  unfold okRule at h
  simp only [Bool.and_eq_true, decide_eq_true_eq] at h
  exact h.2.2
theorem ok_parts {r : Rule} (h : okRule r = true) : r.2.1.length ≤ 6 ∧ ∀ p ∈ r.2.1, isPartS p = true := by
  unfold okRule at h
  simp only [Bool.and_eq_true, decide_eq_true_eq] at h
  exact ⟨h.2.1.1, fun p hp => List.all_eq_true.mp h.2.1.2 p hp⟩
theorem ok_head {r : Rule} (h : okRule r = true) : isNameS r.1 = true := by
  unfold okRule at h
  rw [Bool.and_eq_true] at h
  exact h.1
theorem showPart_len {p : Str} (h : isPartS p = true) : (showPartS p).length ≤ 8 := by
  unfold showPartS
  split
  · decide +kernel
  · exact part_len h
theorem readPart_len {p : Str} (h : p.length ≤ 1000) : (readPartS p).length ≤ 1000 := by
  unfold readPartS
  split
  · decide +kernel
  · exact h
theorem rule_back {r : Rule} (h : okRule r = true) : ruleOfS (ruleText r) = some r := by
  have hw := ok_worth h
  have hps := ok_parts h
  have hh := ok_head h
  unfold ruleOfS ruleText
  rw [split_join (by simp)]
  · show (if (isFigS (toString r.2.2 : String) && decide (("=" : Str) = "=")) = true then (if okRule (r.1, (r.2.1.map showPartS).map readPartS, valS (toString r.2.2 : String)) = true then some (r.1, (r.2.1.map showPartS).map readPartS, valS (toString r.2.2 : String)) else none) else none) = _
    have e1 : (r.2.1.map showPartS).map readPartS = r.2.1 := by
      rw [List.map_map]
      refine (List.map_congr_left fun p hp => ?_).trans (List.map_id _)
      exact read_show (hps.2 p hp)
    rw [num_fig hw.1 hw.2, e1, num_val hw.1, decide_eq_true rfl]
    show (if okRule r = true then some r else none) = _
    rw [if_pos h]
  · intro w hw'
    rcases List.mem_append.mp hw' with m | m
    · simp only [List.mem_cons, List.not_mem_nil, or_false] at m
      rcases m with rfl | rfl | rfl
      · exact name_no32 hh
      · exact num_no32 hw.1 hw.2
      · decide +kernel
    · obtain ⟨p, hp, rfl⟩ := List.mem_map.mp m
      exact show_no32 (hps.2 p hp)
end FR


set_option linter.all false
set_option maxRecDepth 100000
set_option maxHeartbeats 4000000
namespace L2
open PySem PySem.Spec PyProof.Rows
section
variable {X : Cx} {pins : List (Addr × Obj)} {σ : St} {H : Hp} {s : Shared} {d : Addr} {o : Obj} {kvs : List (Key × V)}
end
theorem KV.get {kvs : List (Key × V)} {vs : List (Key × Value)} (r : KV kvs vs) : ∀ {i : Nat} {kv : Key × V}, kvs[i]? = some kv → ∃ u, vs[i]? = some (kv.1, u) ∧ RelV kv.2 u := by
  unfold KV at r
  induction r with
  | nil => intro i kv e; cases e
  | @cons p q ps qs h t ih =>
    intro i kv e
    cases i with
    | zero =>
      cases e
      exact ⟨q.2, by rw [h.1]; rfl, h.2⟩
    | succ j => exact ih (i := j) e

def Itd (d : Addr) (o : Obj) (kvs : List (Key × V)) : It :=
  ⟨fun i H => H d = some (.frz o (.dK kvs)) ∧ i < kvs.length, fun i H v H' => ∃ T kv, H T = none ∧ v = .ref T ∧ kvs[i]? = some kv ∧ H' = upd H T (.tup [kV kv.1, kv.2]), fun i H => H d = some (.frz o (.dK kvs)) ∧ kvs.length ≤ i⟩
def thawN (Z : Addr → Prop) (q : St → Hp → Prop) : St → Hp → Prop := fun σ H => ∃ d o kvs, Z d ∧ H d = some (.frz o (.dK kvs)) ∧ q σ (upd H d (.dK kvs))
def thawR (Z : Addr → Prop) (q : VK) : VK := fun v H => ∃ d o kvs, Z d ∧ H d = some (.frz o (.dK kvs)) ∧ q v (upd H d (.dK kvs))
def tForD (to : TE) (g : TG) (tb : TS) : TS := fun D σ H => to σ H fun x H1 => ∃ d kvs, x = .ref d ∧ H1 d = some (.dK kvs) ∧ ∀ (o : Obj) (Z : Addr → Prop), Z d →
  ∃ W : Nat → Nat → St → Hp → Prop, (∃ m, W 0 m σ (upd H1 d (.frz o (.dK kvs)))) ∧ ∀ i m σ H, W i m σ H → H d = some (.frz o (.dK kvs)) ∧
    ((kvs.length ≤ i ∧ D.nx σ (upd H d (.dK kvs))) ∨ (∃ N : St → Hp → Prop, (∀ σ' H', N σ' H' → ∃ m', m' < m ∧ W (i + 1) m' σ' H') ∧ ∃ kv, kvs[i]? = some kv ∧ ∀ T, H T = none → g (.ref T) σ (upd H T (.tup [kV kv.1, kv.2])) fun σ2 H2 => tb { nx := N, ct := N, bk := thawN Z D.nx, rt := thawR Z D.rt } σ2 H2))
section
variable {X : Cx} {elts : List Expr} {k : Nat} {tpos : Pos}
end

def updL (H : Hp) : List (Addr × HO) → Hp
  | [] => H
  | p :: r => updL (upd H p.1 p.2) r
def FreshL (H : Hp) : List (Addr × HO) → Prop
  | [] => True
  | p :: r => H p.1 = none ∧ FreshL (upd H p.1 p.2) r
theorem updL_same : ∀ {ops : List (Addr × HO)} {H : Hp}, FreshL H ops → Same H (updL H ops)
  | [], H, _ => Same.refl _
  | p :: r, H, f => (Same.upd f.1).trans (updL_same f.2)
theorem updL_plain : ∀ {ops : List (Addr × HO)} {H : Hp}, Plain H → (ops.all fun p => plainH p.2) = true → Plain (updL H ops)
  | [], H, h, _ => h
  | p :: r, H, h, e => by
    rw [List.all_cons, Bool.and_eq_true] at e
    exact updL_plain (H := upd H p.1 p.2) (h.upd e.1) e.2
theorem updL_at : ∀ {ops : List (Addr × HO)} {H : Hp}, FreshL H ops → ∀ (i : Nat) (p : Addr × HO), ops[i]? = some p → updL H ops p.1 = some p.2
  | [], H, _, i, p, e => by cases e
  | q :: r, H, f, i, p, e => by
    cases i with
    | zero =>
      cases e
      exact updL_same f.2 _ _ upd_same
    | succ j => exact updL_at f.2 j p e
end L2


set_option linter.all false
set_option maxRecDepth 100000
set_option maxHeartbeats 4000000
namespace L2
open PySem PySem.Spec PyProof.Rows
section
variable {X : Cx} {x : Str} {p pos : Pos} {e : Expr} {te : St → Hp → VK → XK → Prop} {id : String} {r : List V → Hp → VK → Prop}
def tB1X (r : List V → Hp → VK → Prop) (te : St → Hp → VK → XK → Prop) : St → Hp → VK → XK → Prop := fun σ H Q E => te σ H (fun v H1 => r [v] H1 Q) E
end
end L2


set_option linter.all false
set_option maxRecDepth 100000
set_option maxHeartbeats 4000000
namespace L2
open PySem PySem.Spec PyProof.Rows
open Builtin Builtin.Str in
theorem glued_all {P : Nat → Prop} {z : Str} (hz : ∀ c ∈ z.cps.toList, P c) {ps : List Str} (hp : ∀ p ∈ ps, ∀ c ∈ p.cps.toList, P c) : ∀ c ∈ (glued z ps).cps.toList, P c := by
  have key : ∀ (l : List Str) (acc : Array Nat), (∀ p ∈ l, ∀ c ∈ p.cps.toList, P c) → (∀ c ∈ acc.toList, P c) → ∀ c ∈ (l.foldl (fun acc p => acc ++ z.cps ++ p.cps) acc).toList, P c := by
    intro l
    induction l with
    | nil => exact fun acc _ ha => ha
    | cons p l ih =>
      intro acc hl ha
      refine ih _ (fun q hq => hl q (List.mem_cons_of_mem _ hq)) fun c hc => ?_
      rw [Array.toList_append, Array.toList_append, List.mem_append, List.mem_append] at hc
      rcases hc with (hc | hc) | hc
      · exact ha c hc
      · exact hz c hc
      · exact hl p List.mem_cons_self c hc
  unfold glued
  refine key _ _ (fun p hp' => hp p (List.mem_of_mem_drop hp')) fun c hc => ?_
  cases ps with
  | nil => exact absurd hc (by show ¬ c ∈ ([] : List Nat); simp)
  | cons p ps => exact hp p List.mem_cons_self c hc
open Builtin Builtin.Str in
theorem replace_all {P : Nat → Prop} {x y z : Str} (hx : ∀ c ∈ x.cps.toList, P c) (hz : ∀ c ∈ z.cps.toList, P c) : ∀ c ∈ (Txt.replace x y z).cps.toList, P c := by
  unfold Txt.replace
  split
  · exact hx
  · refine glued_all hz fun p hp c hc => ?_
    unfold partsBetween at hp
    obtain ⟨⟨i, j⟩, _, rfl⟩ := List.mem_map.mp hp
    have hc : c ∈ (x.cps.extract i j).toList := hc
    rw [Array.toList_extract] at hc
    exact hx c (List.mem_of_mem_drop (List.mem_of_mem_take hc))
theorem slice_all {P : Nat → Prop} {x : Str} {a b : Option Int} (hx : ∀ c ∈ x.cps.toList, P c) : ∀ c ∈ (Txt.slice x a b).cps.toList, P c := by
  unfold Txt.slice
  split
  · exact hx
  · intro c hc
    obtain ⟨i, _, hi⟩ := List.mem_filterMap.mp (show c ∈ List.filterMap (fun i => x.cps[i]?) _ from hc)
    rw [← Array.getElem?_toList] at hi
    exact hx c (List.mem_of_getElem? hi)
section
variable {X : Cx}
theorem ld_var {i : Nat} {x : Str} {pos : Pos} (hN : X.N[i]? = some x) (hv : Vis X.env.scope x) (hd : (x == ("__debug__" : Str)) = false) (hcd : (x == ("__classdict__" : Str)) = false)
    {pins : List (Addr × Obj)} {s : Shared} {σ : St} {H : Hp} {v : V} (I : Inv X pins σ H s) (e : σ[i]? = some (some v)) :
    ∃ u, RelV v u ∧ ∀ (Q : Value → Shared → Prop) (E : Value → Shared → Prop), Q u s → wpAny (model X.prog X.w) X.A (eval (.Name x pos) X.env) Q E s := by
  obtain ⟨m, hn, hl⟩ := I.loc
  obtain ⟨u, r, l⟩ := hl i x v hN e hv
  refine ⟨u, r, fun Q E fin => ?_⟩
  rcases l with ⟨hk, hm⟩ | ⟨hk, c, hc, hcell⟩
  · exact wpAny_Name (wpAny_loadName_local I.ok.kind hk hn hm fin) hd
  · rcases hk with hk | hk
    · exact wpAny_Name (wpAny_loadName_cell I.ok.kind hk hc hcell fin) hd
    · exact wpAny_Name (wpAny_loadName_free I.ok.kind hk hc hcell fin hcd) hd
open Builtin Builtin.Str in
theorem replace_len (x y z : Str) (hz : z.length ≤ 1) : (Txt.replace x y z).length ≤ 2 * x.length + 1 := by
  unfold Txt.replace
  split
  · omega
  · have h1 := StrLaws.occ_length_le x y 0 x.length (x.length + 1)
    have hy : (glued y (partsBetween x (occurrences x y 0 x.length (x.length + 1)) y.length)).length = x.length := by rw [StrLaws.glued_between_self]
    rw [size_glued, length_partsBetween, Nat.add_sub_cancel] at hy
    rw [size_glued, length_partsBetween, Nat.add_sub_cancel]
    have h2 : (occurrences x y 0 x.length (x.length + 1)).length * z.length ≤ (x.length + 1) * z.length := Nat.mul_le_mul_right _ h1
    have h3 : (x.length + 1) * z.length ≤ (x.length + 1) * 1 := Nat.mul_le_mul_left _ hz
    omega
def tLowRep (i : Nat) (y z : Str) : TA := fun σ H Q => ∃ x : Str, σ[i]? = some (some (.str x)) ∧ x.length ≤ 1000 ∧ Q [.str (Txt.lower x), .str (Txt.replace x y z)] H
theorem pa_lowRep (i : Nat) {x y z : Str} {p1 p2 a1 a2 c1 c2 q1 q2 : Pos} {k1 k2 : Nat} (hyz : (y == z) = false := by decide +kernel) (hz : z.length ≤ 1 := by decide +kernel) (hN : X.N[i]? = some x := by rfl) (hv : Vis X.env.scope x := by first | exact Or.inl rfl | exact Or.inr (Or.inl rfl) | exact Or.inr (Or.inr rfl))
    (hd : (x == ("__debug__" : Str)) = false := by decide) (hcd : (x == ("__classdict__" : Str)) = false := by decide)
    (hb1 : attributeBase (.Name x p1) "lower" X.env (eval (.Name x p1) X.env) = eval (.Name x p1) X.env := by rfl) (hl1 : (a1.endLine == c1.line) = true := by rfl)
    (hb2 : attributeBase (.Name x p2) "replace" X.env (eval (.Name x p2) X.env) = eval (.Name x p2) X.env := by rfl) (hl2 : (a2.endLine == c2.line) = true := by rfl)
    (ht : backTo c2 (starEach [.Constant (.str y) k1 q1, .Constant (.str z) k2 q2] X.env) = [(false, eval (.Constant (.str y) k1 q1) X.env), (false, eval (.Constant (.str z) k2 q2) X.env)] := by rfl)
    (hs : starEach [.Call (.Attribute (.Name x p1) "lower" a1) [] [] c1, .Call (.Attribute (.Name x p2) "replace" a2) [.Constant (.str y) k1 q1, .Constant (.str z) k2 q2] [] c2] X.env = [(false, eval (.Call (.Attribute (.Name x p1) "lower" a1) [] [] c1) X.env), (false, eval (.Call (.Attribute (.Name x p2) "replace" a2) [.Constant (.str y) k1 q1, .Constant (.str z) k2 q2] [] c2) X.env)] := by rfl) :
    PA X [.Call (.Attribute (.Name x p1) "lower" a1) [] [] c1, .Call (.Attribute (.Name x p2) "replace" a2) [.Constant (.str y) k1 q1, .Constant (.str z) k2 q2] [] c2] (tLowRep i y z) := by
  intro pos pins s σ H Q I h
  obtain ⟨t, et, hlen, q⟩ := h
  obtain ⟨u, ru, ld1⟩ := ld_var (pos := p1) hN hv hd hcd I et
  obtain ⟨tk, rfl⟩ := ru
  rw [hs]
  show wpAny _ _ (spliced ((false, eval (.Call (.Attribute (.Name x p1) "lower" a1) [] [] c1) X.env) :: backTo pos [(false, eval (.Call (.Attribute (.Name x p2) "replace" a2) [.Constant (.str y) k1 q1, .Constant (.str z) k2 q2] [] c2) X.env)])) _ _ s
  refine Calls.spliced_cons (wpAny_Call_method0_late hb1 hl1 (ld1 _ _ ⟨"str", "str.lower", PySem.F.plainAttrs_str, PySem.F.slot_str_lower, PySem.F.type_str_lower, typeIs_str _ _ _, fun _ e => (nomatch e), Calls.callWith_builtin rfl (PySem.evalArgs_none (SCL.lower (by omega) fun h1 => ?_))⟩))
  have I2 : Inv X pins σ H { s with toks := s.toks + 1 } := I.tok _
  obtain ⟨u2, ru2, ld2⟩ := ld_var (pos := p2) hN hv hd hcd I2 et
  obtain ⟨tk2, rfl⟩ := ru2
  refine Calls.spliced_cons (wpAny_Call_method2_late hb2 hl2 ht (ld2 _ _ ⟨"str", "str.replace", PySem.F.plainAttrs_str, PySem.F.slot_str_replace, PySem.F.type_str_replace, typeIs_str _ _ _, fun _ e => (nomatch e), Calls.callWith_builtin rfl (Calls.evalArgs_plain (Calls.spliced_cons (Calls.Constant_str (Calls.spliced_cons (Calls.Constant_str (Calls.spliced_nil ?_))))))⟩))
  refine SC.replaceW (Nat.succ_ne_zero _) (Nat.succ_ne_zero _) (Nat.ne_of_lt (Nat.lt_succ_self _)) hyz (by omega) (by omega) fun t' k => Calls.spliced_nil ?_
  exact ⟨[.str (Txt.lower t), .str (Txt.replace t y z)], H, I.tok _, .cons ⟨_, rfl⟩ (.cons ⟨_, rfl⟩ .nil), q⟩
end
end L2


set_option linter.all false
set_option maxRecDepth 100000
set_option maxHeartbeats 4000000
namespace FR
open PySem L2
def top (i : Nat) : Stmt := PySem.Challenge.pw_forestread_k81_rules_read.main.body.getD i (.Pass ⟨0, 0, 0, 0⟩)
abbrev s_is_whole : Stmt := top 11
abbrev s_stands_in_texts : Stmt := top 12
abbrev s_is_sign : Stmt := top 13
abbrev s_is_name : Stmt := top 14
abbrev s_is_part : Stmt := top 15
abbrev s_is_worth : Stmt := top 18
abbrev s_are_parts : Stmt := top 19
abbrev s_is_rule : Stmt := top 20
structure Adr where
  NoRule : Addr
  ForestError : Addr
  NoGrammar : Addr
  NoRow : Addr
  NoText : Addr
  none_ : Addr
structure Txt (K : PySem.W.Frag) (mg : Str → Option Value) (C : Adr) : Prop where
  z_isinstance : mg "isinstance" = none
  z_int : mg "int" = none
  z_bool : mg "bool" = none
  z_ord : mg "ord" = none
  z_str : mg "str" = none
  z_len : mg "len" = none
  z_all : mg "all" = none
  z_tuple : mg "tuple" = none
  z_range : mg "range" = none
  z_ValueError : mg "ValueError" = none
  g_FIRST_CODE : ∃ t, mg "FIRST_CODE" = some (.int 32 t)
  g_LAST_CODE : ∃ t, mg "LAST_CODE" = some (.int 126 t)
  g_PERCENT_CODE : ∃ t, mg "PERCENT_CODE" = some (.int 37 t)
  g_MOST_LETTERS : ∃ t, mg "MOST_LETTERS" = some (.int 8 t)
  g_MOST_PARTS : ∃ t, mg "MOST_PARTS" = some (.int 6 t)
  g_MOST_FIGURES : ∃ t, mg "MOST_FIGURES" = some (.int 61 t)
  n_NoRule : mg "NoRule" = some (.ref C.NoRule)
  n_ForestError : mg "ForestError" = some (.ref C.ForestError)
  n_NoGrammar : mg "NoGrammar" = some (.ref C.NoGrammar)
  n_NoRow : mg "NoRow" = some (.ref C.NoRow)
  n_NoText : mg "NoText" = some (.ref C.NoText)
  x_NoRule : Exc K C.NoRule
  xga_NoRule : PySem.W.findIn K (.ref C.NoRule) "__getattribute__" = some (some (.builtin "BaseException.__getattribute__"))
  xgt_NoRule : PySem.W.findIn K (.ref C.NoRule) "__getattr__" = some none
  xcl_NoRule : PySem.W.findIn K (.ref C.NoRule) "__class__" = some (some (.builtin "object.__class__"))
  xmb_NoRule : PySem.W.mroIn K C.NoRule (.type "BaseException") = some true
  xmo_NoRule : PySem.W.mroIn K C.NoRule (.type "object") = some true
  xgs_ : PySem.W.specialIn K (.builtin "object.__class__") "__get__" = some (some (.builtin "getset_descriptor.__get__"))
  xtk_ : PySem.W.takesIn K (.builtin "object.__class__") = some true
  xFR : PySem.W.exmOne K (.ref C.NoRule) (.ref C.ForestError) = some true
  val : PySem.W.kitOne K (.ref C.NoRule) (.type "ValueError") = some true
  noG : PySem.W.kitOne K (.ref C.NoRule) (.ref C.NoGrammar) = some false
  noR : PySem.W.kitOne K (.ref C.NoRule) (.ref C.NoRow) = some false
  noT : PySem.W.kitOne K (.ref C.NoRule) (.ref C.NoText) = some false
theorem nd_P1b_letter : (["letter"] : List Str).Nodup := by decide +kernel
theorem nd_P1b_part : (["part"] : List Str).Nodup := by decide +kernel
section
variable {P : Program} {w : World} {K : PySem.W.Frag} {mg : Str → Option Value} {base : Heap} {C : Adr}
theorem sc_is_whole : FnScope ["thing"] ["thing"] (defScope s_is_whole) := ⟨rfl, rfl, rfl, by decide +kernel, rfl, by decide +kernel, by decide +kernel⟩
theorem ok_is_whole {f : Addr} {fd : FuncData} (F : Fun K "is_whole" "is_whole" s_is_whole f fd) (T : Txt K mg C) : FnOk P w K mg base CX0 1 f fd ["thing"] (spIs isWholeD) := by
  refine F.ok sc_is_whole (fun vs H Q E h => ?_) (fun cdv A outer s H vs Q E hr h => ?_)
  · obtain ⟨x, d, rfl, _⟩ := h
    rfl
  · obtain ⟨x, d, rfl, den, sh, hp, q⟩ := h
    refine ⟨_, (pss_one (ps_ret (pe_and (pe_callB (call_isiK K rfl) (by rfl) T.z_isinstance PyProof.Rows.Boot.«isinstance» (pa_cons (pv 0) (pa_cons (pe_bltn (v := .ty "int") (by rfl) T.z_int PyProof.Rows.Boot.«int» rfl) pa_nil))) (pe_one (pe_not (pe_callB (call_isiK K rfl) (by rfl) T.z_isinstance PyProof.Rows.Boot.«isinstance» (pa_cons (pv 0) (pa_cons (pe_bltn (v := .ty "bool") (by rfl) T.z_bool PyProof.Rows.Boot.«bool» rfl) pa_nil)))))))), ?_⟩
    refine ⟨_, rfl, _, _, _, _, _, rfl, den.ty, rfl, kit_int d, _, rfl, ?_⟩
    refine and_read (g := !isBoolD d) (fun _ R hR => ⟨_, rfl, _, _, _, _, _, rfl, den.ty, rfl, kit_bool d, _, rfl, hR⟩) ?_
    cases d <;> exact q
theorem sc_stands_in_texts : FnScope ["sign", "code"] ["sign"] (defScope s_stands_in_texts) := ⟨rfl, rfl, rfl, by decide +kernel, rfl, by decide +kernel, by decide +kernel⟩
theorem ok_stands_in_texts {f : Addr} {fd : FuncData} (F : Fun K "stands_in_texts" "stands_in_texts" s_stands_in_texts f fd) (T : Txt K mg C) : FnOk P w K mg base CX0 1 f fd ["sign"] (spStands) := by
  obtain ⟨t_FIRST_CODE, g_FIRST_CODE⟩ := T.g_FIRST_CODE
  obtain ⟨t_LAST_CODE, g_LAST_CODE⟩ := T.g_LAST_CODE
  obtain ⟨t_PERCENT_CODE, g_PERCENT_CODE⟩ := T.g_PERCENT_CODE
  refine F.ok sc_stands_in_texts (fun vs H Q E h => ?_) (fun cdv A outer s H vs Q E hr h => ?_)
  · obtain ⟨c, rfl, _⟩ := h
    rfl
  · obtain ⟨c, rfl, q⟩ := h
    refine ⟨_, (pss_cons (ps_set (i := 1) sc_stands_in_texts.nd rfl (Or.inl rfl) (pe_callB call_ord (by rfl) T.z_ord PyProof.Rows.Boot.«ord» (pa_cons (pv 0) pa_nil)))
      (pss_one (ps_ret (pe_and (pe_chain op_le op_le (pe_glob (v := .int 32) (by rfl) g_FIRST_CODE ⟨_, rfl⟩) (pv 1) (pe_glob (v := .int 126) (by rfl) g_LAST_CODE ⟨_, rfl⟩)) (pe_one (pe_cmpR op_ne (pv 1) (pe_glob (v := .int 37) (by rfl) g_PERCENT_CODE ⟨_, rfl⟩) (nomark _))))))), ?_⟩
    refine ⟨_, rfl, _, rfl, rfl, ?_⟩
    refine ⟨_, rfl, _, _, rfl, rfl, _, rfl, ?_⟩
    have ec : (((⟨#[c]⟩ : Str).cps.getD 0 0 : Nat) : Int) = (c : Int) := rfl
    rw [ec]
    refine ite2 (fun h1 => ?_) fun h1 => ?_
    · refine ⟨_, _, rfl, rfl, _, rfl, ?_⟩
      refine ite2 (fun h2 => ?_) fun h2 => ?_
      · refine ⟨_, rfl, rfl, ?_⟩
        have e : (!decide (V.int (c : Int) = V.int 37)) = good c := by
          simp only [decide_eq_true_eq] at h1 h2
          unfold good
          have a1 : 32 ≤ c := by omega
          have a2 : c ≤ 126 := by omega
          rw [decide_eq_true a1, decide_eq_true a2]
          by_cases h3 : c = 37
          · subst h3; rfl
          · rw [decide_eq_false h3, decide_eq_false (fun z => h3 (by have := V.int.inj z; omega))]; rfl
        rw [e]
        exact q
      · have e : good c = false := by
          simp only [decide_eq_true_eq] at h2
          unfold good
          rw [decide_eq_false (show ¬ c ≤ 126 by omega)]
          simp
        rw [e] at q
        exact q
    · refine ⟨_, rfl, iteF ?_⟩
      have e : good c = false := by
        simp only [decide_eq_true_eq] at h1
        unfold good
        rw [decide_eq_false (show ¬ 32 ≤ c by omega)]
        simp
      rw [e] at q
      exact q
theorem first39 (z : Str) : decide (V.str ⟨#[z.cps.getD 0 0]⟩ = V.str "'") = decide (z.cps.getD 0 0 = 39) := by
  by_cases h : z.cps.getD 0 0 = 39
  · rw [h]; decide +kernel
  · rw [decide_eq_false h, decide_eq_false]
    intro e
    apply h
    have e6 : (({ cps := #[z.cps.getD 0 0] } : Str)).cps.getD 0 0 = (("'" : Str)).cps.getD 0 0 := congrArg (fun s : Str => s.cps.getD 0 0) (V.str.inj e)
    exact (show z.cps.getD 0 0 = (({ cps := #[z.cps.getD 0 0] } : Str)).cps.getD 0 0 from rfl).trans (e6.trans (by decide +kernel))
theorem sc_is_sign : FnScope ["thing"] ["thing"] (defScope s_is_sign) := ⟨rfl, rfl, rfl, by decide +kernel, rfl, by decide +kernel, by decide +kernel⟩
theorem ok_is_sign {f : Addr} {fd : FuncData} (F : Fun K "is_sign" "is_sign" s_is_sign f fd) (T : Txt K mg C) (U_stands_in_texts : Used P w K mg CX0 1 "stands_in_texts" ["sign"] (spStands)) : FnOk P w K mg base CX0 2 f fd ["thing"] (spIs isSignD) := by
  obtain ⟨f_stands_in_texts, fd_stands_in_texts, G_stands_in_texts, m_stands_in_texts, k_stands_in_texts, b_stands_in_texts⟩ := U_stands_in_texts.ok
  refine F.ok sc_is_sign (fun vs H Q E h => ?_) (fun cdv A outer s H vs Q E hr h => ?_)
  · obtain ⟨x, d, rfl, _⟩ := h
    rfl
  · obtain ⟨x, d, rfl, den, sh, hp, q⟩ := h
    refine ⟨_, (pss_one (ps_ret (pe_and (pe_callB (call_isiK K rfl) (by rfl) T.z_isinstance PyProof.Rows.Boot.«isinstance» (pa_cons (pv 0) (pa_cons (pe_bltn (v := .ty "str") (by rfl) T.z_str PyProof.Rows.Boot.«str» rfl) pa_nil))) (pe_and (pe_cmpR op_eq (pe_callB call_len_str (by rfl) T.z_len PyProof.Rows.Boot.«len» (pa_cons (pv 0) pa_nil)) pe_int (nomark _)) (pe_and (pe_cmpR op_eq (pe_ix ix_str (pv 0) pe_int (fun _ _ => rfl)) pe_str (nomark _)) (pe_one (pe_call (G_stands_in_texts base) (hr.mono (by decide)) (by rfl) m_stands_in_texts k_stands_in_texts b_stands_in_texts .nil pass0 (pa_cons (pe_ix ix_str (pv 0) pe_int (fun _ _ => rfl)) pa_nil)))))))), ?_⟩
    refine ⟨_, rfl, _, _, _, _, _, rfl, den.ty, rfl, kit_str d, _, rfl, ?_⟩
    cases d with
    | str z =>
      have ex := den.to_str
      subst ex
      have hz := short_line sh
      have ev : isSignD (.str z) = (z.cps.size == 2 && z.cps[0]? == some 39 && good (z.cps.getD 1 0)) := rfl
      refine iteT ?_
      refine ⟨_, rfl, z, rfl, hz, rfl, _, rfl, ?_⟩
      refine and_read (g := decide (z.cps.getD 0 0 = 39) && good (z.cps.getD 1 0)) (fun h2 R hR => ?_) ?_
      · have hs : z.cps.size = 2 := by
          have e := V.int.inj (of_decide_eq_true h2)
          rw [size_len] at e
          omega
        have g0 : z.cps.toList[0]? = some (z.cps.getD 0 0) := by
          rw [Array.getElem?_toList]; simp [hs]
        have g1 : z.cps.toList[1]? = some (z.cps.getD 1 0) := by
          rw [Array.getElem?_toList]; simp [hs]
        refine ⟨_, rfl, z, 0, _, rfl, rfl, hz, atI_nat (j := 0) g0, rfl, _, rfl, ?_⟩
        rw [first39]
        exact and_read (g := good (z.cps.getD 1 0)) (fun _ R hR => ⟨_, rfl, z, 1, _, rfl, rfl, hz, atI_nat (j := 1) g1, _, rfl, hR⟩) hR
      · have e2 : (decide (V.int (z.length : Int) = V.int 2) && (decide (z.cps.getD 0 0 = 39) && good (z.cps.getD 1 0))) = isSignD (.str z) := by
          rw [ev, size_len, Bool.and_assoc]
          by_cases h2 : z.cps.size = 2
          · have g0 : z.cps[0]? = some (z.cps.getD 0 0) := by simp [h2]
            have e4 : (some (z.cps.getD 0 0) == some 39) = decide (z.cps.getD 0 0 = 39) := by
              rw [Bool.eq_iff_iff]; simp
            rw [g0, e4]
            congr 1
            rw [h2]; decide
          · rw [decide_eq_false (fun e => h2 (by have := V.int.inj e; omega)), beq_eq_false_iff_ne.mpr h2]
            rfl
        rw [e2]
        exact q
    | _ => exact iteF q
theorem sc_is_name : FnScope ["thing"] ["thing"] (defScope s_is_name) := ⟨rfl, rfl, rfl, by decide +kernel, rfl, by decide +kernel, by decide +kernel⟩
theorem ok_is_name {f : Addr} {fd : FuncData} (F : Fun K "is_name" "is_name" s_is_name f fd) (T : Txt K mg C) : FnOk P w K mg base CX0 1 f fd ["thing"] (spIs isNameD) := by
  obtain ⟨t_MOST_LETTERS, g_MOST_LETTERS⟩ := T.g_MOST_LETTERS
  refine F.ok sc_is_name (fun vs H Q E h => ?_) (fun cdv A outer s H vs Q E hr h => ?_)
  · obtain ⟨x, d, rfl, _⟩ := h
    rfl
  · obtain ⟨x, d, rfl, den, sh, hp, q⟩ := h
    refine ⟨_, (pss_cons (ps_if (pt_not (pt_val (pe_callB (call_isiK K rfl) (by rfl) T.z_isinstance PyProof.Rows.Boot.«isinstance» (pa_cons (pv 0) (pa_cons (pe_bltn (v := .ty "str") (by rfl) T.z_str PyProof.Rows.Boot.«str» rfl) pa_nil))))) (pss_one (ps_ret pe_bl)) pss_nil)
      (pss_one (ps_ret (pe_and (pe_chain op_le op_le pe_int (pe_callB call_len_str (by rfl) T.z_len PyProof.Rows.Boot.«len» (pa_cons (pv 0) pa_nil)) (pe_glob (v := .int 8) (by rfl) g_MOST_LETTERS ⟨_, rfl⟩)) (pe_one (pe_pure (pe_callB (call_allK K rfl rfl) (by rfl) T.z_all PyProof.Rows.Boot.«all» (pa_cons (pe_comp (N := ["letter"]) (ρ := [none]) (cl := []) rfl (CompScope.plain rfl (by decide +kernel) (by decide +kernel) rfl (by simp)) (pi_str (pv 0)) (fun _ _ _ _ _ => (pg_name (i := 0) nd_P1b_letter rfl (Or.inl rfl) (.inr rfl))) (fun _ _ _ _ _ => pts_nil) (fun _ _ _ _ _ => (pe_chain op_le_str op_le_str pe_str (pv 0) pe_str))) pa_nil)))))))), ?_⟩
    refine ⟨_, rfl, _, _, _, _, _, rfl, den.ty, rfl, kit_str d, _, rfl, ?_⟩
    cases d with
    | str z =>
      have ex := den.to_str
      subst ex
      have hz := short_line sh
      have ev : isNameD (.str z) = (decide (1 ≤ z.cps.size) && decide (z.cps.size ≤ 8) && z.cps.toList.all letter) := rfl
      refine iteF ?_
      refine ⟨_, rfl, z, rfl, hz, _, _, rfl, rfl, _, rfl, ?_⟩
      refine ite2 (fun h1 => ?_) fun h1 => ?_
      · refine ⟨_, _, rfl, rfl, _, rfl, ?_⟩
        have h1' : 1 ≤ z.cps.size := by have := of_decide_eq_true h1; rw [size_len] at this; omega
        refine ite2 (fun h2 => ?_) fun h2 => ?_
        · have h2' : z.cps.size ≤ 8 := by have := of_decide_eq_true h2; rw [size_len] at this; omega
          refine ⟨hp, _, rfl, z, rfl, fun l hl => ?_⟩
          refine comp_str (τ := pick [none] _) (fun c => .bl (letter c)) hl Nat.zero_lt_one hz (fun τ' c H' R hτ _ hR => ?_) ?_
          · refine ⟨_, hτ, _, _, rfl, rfl, _, rfl, ?_⟩
            rw [le_A]
            refine ite2 (fun h3 => ?_) fun h3 => ?_
            · refine ⟨_, _, rfl, rfl, ?_⟩
              rw [le_Z]
              have e5 : letter c = decide (c ≤ 90) := by unfold letter; rw [h3]; rfl
              rw [e5] at hR
              exact hR
            · have e5 : letter c = false := by
                unfold letter
                cases hh : decide (65 ≤ c) with
                | false => rfl
                | true => exact absurd hh h3
              rw [e5] at hR
              exact hR
          · refine ⟨l, z.cps.toList.map letter, rfl, .inl (.inl ?_), fun b o eb => ?_, ?_⟩
            · rw [upd_same, map_bl]
            · rw [upd_ne (ne_of_none eb hl)]; exact eb
            · rw [all_map_id]
              rw [ev, decide_eq_true h1', decide_eq_true h2'] at q
              simpa using q
        · have h2' : ¬ z.cps.size ≤ 8 := fun z' => h2 (decide_eq_true (by rw [size_len]; omega))
          rw [ev, decide_eq_false h2'] at q
          simpa using q
      · have h1' : ¬ 1 ≤ z.cps.size := fun z' => h1 (decide_eq_true (by rw [size_len]; omega))
        refine ⟨_, rfl, iteF ?_⟩
        rw [ev, decide_eq_false h1'] at q
        simpa using q
    | _ => exact iteT q
theorem sc_is_part : FnScope ["thing"] ["thing"] (defScope s_is_part) := ⟨rfl, rfl, rfl, by decide +kernel, rfl, by decide +kernel, by decide +kernel⟩
theorem ok_is_part {f : Addr} {fd : FuncData} (F : Fun K "is_part" "is_part" s_is_part f fd) (T : Txt K mg C) (U_is_sign : Used P w K mg CX0 2 "is_sign" ["thing"] (spIs isSignD)) (U_is_name : Used P w K mg CX0 1 "is_name" ["thing"] (spIs isNameD)) : FnOk P w K mg base CX0 3 f fd ["thing"] (spIs isPartD) := by
  obtain ⟨f_is_sign, fd_is_sign, G_is_sign, m_is_sign, k_is_sign, b_is_sign⟩ := U_is_sign.ok
  obtain ⟨f_is_name, fd_is_name, G_is_name, m_is_name, k_is_name, b_is_name⟩ := U_is_name.ok
  refine F.ok sc_is_part (fun vs H Q E h => ?_) (fun cdv A outer s H vs Q E hr h => ?_)
  · obtain ⟨x, d, rfl, _⟩ := h
    rfl
  · obtain ⟨x, d, rfl, den, sh, hp, q⟩ := h
    refine ⟨_, (pss_one (ps_ret (pe_or (pe_call (G_is_sign base) (hr.mono (by decide)) (by rfl) m_is_sign k_is_sign b_is_sign .nil pass0 (pa_cons (pv 0) pa_nil)) (pe_one (pe_call (G_is_name base) (hr.mono (by decide)) (by rfl) m_is_name k_is_name b_is_name .nil pass0 (pa_cons (pv 0) pa_nil)))))), ?_⟩
    refine ⟨_, rfl, x, d, rfl, den, sh, hp, _, rfl, ?_⟩
    exact or_read (g := isNameD d) (fun _ R hR => ⟨_, rfl, x, d, rfl, den, sh, hp, hR⟩) q
theorem sc_is_worth : FnScope ["thing"] ["thing"] (defScope s_is_worth) := ⟨rfl, rfl, rfl, by decide +kernel, rfl, by decide +kernel, by decide +kernel⟩
theorem ok_is_worth {f : Addr} {fd : FuncData} (F : Fun K "is_worth" "is_worth" s_is_worth f fd) (T : Txt K mg C) (U_is_whole : Used P w K mg CX0 1 "is_whole" ["thing"] (spIs isWholeD)) : FnOk P w K mg base CX0 2 f fd ["thing"] (spIs isWorthD) := by
  obtain ⟨f_is_whole, fd_is_whole, G_is_whole, m_is_whole, k_is_whole, b_is_whole⟩ := U_is_whole.ok
  refine F.ok sc_is_worth (fun vs H Q E h => ?_) (fun cdv A outer s H vs Q E hr h => ?_)
  · obtain ⟨x, d, rfl, _⟩ := h
    rfl
  · obtain ⟨x, d, rfl, den, sh, hp, q⟩ := h
    refine ⟨_, (pss_one (ps_ret (pe_and (pe_call (G_is_whole base) (hr.mono (by decide)) (by rfl) m_is_whole k_is_whole b_is_whole .nil pass0 (pa_cons (pv 0) pa_nil)) (pe_one (pe_chain op_le op_le pe_int (pv 0) (pe_op op_pow pe_int pe_int)))))), ?_⟩
    refine ⟨_, rfl, x, d, rfl, den, sh, hp, _, rfl, ?_⟩
    cases d with
    | int i =>
      have ex := den.to_int
      subst ex
      have ev : isWorthD (.int i) = (decide (0 ≤ i) && decide (i ≤ 10 ^ 60)) := rfl
      refine iteT ?_
      refine ⟨_, rfl, _, _, rfl, rfl, _, rfl, ?_⟩
      refine ite2 (fun h1 => ?_) fun h1 => ?_
      · refine ⟨_, _, rfl, rfl, ⟨by decide, by decide, by decide⟩, _, _, rfl, rfl, ?_⟩
        rw [ev, h1] at q
        exact q
      · have h1' : decide (0 ≤ i) = false := by
          cases hh : decide (0 ≤ i) with
          | false => rfl
          | true => exact absurd hh h1
        rw [ev, h1'] at q
        exact q
    | _ => exact iteF q
theorem sc_are_parts : FnScope ["thing"] ["thing"] (defScope s_are_parts) := ⟨rfl, rfl, rfl, by decide +kernel, rfl, by decide +kernel, by decide +kernel⟩
theorem ok_are_parts {f : Addr} {fd : FuncData} (F : Fun K "are_parts" "are_parts" s_are_parts f fd) (T : Txt K mg C) (U_is_part : Used P w K mg CX0 3 "is_part" ["thing"] (spIs isPartD)) : FnOk P w K mg base CX0 4 f fd ["thing"] (spIs arePartsD) := by
  obtain ⟨f_is_part, fd_is_part, G_is_part, m_is_part, k_is_part, b_is_part⟩ := U_is_part.ok
  obtain ⟨t_MOST_PARTS, g_MOST_PARTS⟩ := T.g_MOST_PARTS
  refine F.ok sc_are_parts (fun vs H Q E h => ?_) (fun cdv A outer s H vs Q E hr h => ?_)
  · obtain ⟨x, d, rfl, _⟩ := h
    rfl
  · obtain ⟨x, d, rfl, den, sh, hp, q⟩ := h
    refine ⟨_, (pss_cons (ps_if (pt_not (pt_val (pe_callB (call_isiK K rfl) (by rfl) T.z_isinstance PyProof.Rows.Boot.«isinstance» (pa_cons (pv 0) (pa_cons (pe_bltn (v := .ty "tuple") (by rfl) T.z_tuple PyProof.Rows.Boot.«tuple» rfl) pa_nil))))) (pss_one (ps_ret pe_bl)) pss_nil)
      (pss_one (ps_ret (pe_and (pe_cmpR op_le (pe_callB (call_len_seqK K rfl) (by rfl) T.z_len PyProof.Rows.Boot.«len» (pa_cons (pv 0) pa_nil)) (pe_glob (v := .int 6) (by rfl) g_MOST_PARTS ⟨_, rfl⟩) (nomark _)) (pe_one (pe_pure (pe_callB (call_allK K rfl rfl) (by rfl) T.z_all PyProof.Rows.Boot.«all» (pa_cons (pe_comp (N := ["part"]) (ρ := [none]) (cl := []) rfl (CompScope.plain rfl (by decide +kernel) (by decide +kernel) rfl (by simp)) (pi_tupK K rfl (pv 0)) (fun _ _ _ _ _ => (pg_name (i := 0) nd_P1b_part rfl (Or.inl rfl) (.inr rfl))) (fun _ _ _ _ _ => pts_nil) (fun _ _ _ _ _ => (pe_call (G_is_part base) (hr.mono (by decide)) (by rfl) m_is_part k_is_part b_is_part .nil pass0 (pa_cons (pv 0) pa_nil)))) pa_nil)))))))), ?_⟩
    refine ⟨_, rfl, _, _, _, _, _, rfl, den.ty, rfl, kit_tuple d, _, rfl, ?_⟩
    cases d with
    | tup ds =>
      obtain ⟨a, xs, rfl, ha, hds⟩ := den.to_tup
      have hl : xs.length = ds.length := hds.len
      refine iteF ?_
      refine ⟨_, rfl, a, xs, rfl, .inr (SqT.of ha), _, _, rfl, rfl, _, rfl, ?_⟩
      have shS : shortS ds = true := by unfold D.short at sh; exact sh
      have e1 : decide ((xs.length : Int) ≤ 6) = decide (ds.length ≤ 6) := by rw [hl]; congr 1; exact propext ⟨fun h => by omega, fun h => by omega⟩
      rw [e1]
      refine and_read (g := ds.all isPartD) (fun h1 R hR => ?_) q
      have h1' : ds.length ≤ 6 := of_decide_eq_true h1
      refine ⟨hp, _, rfl, a, rfl, ⟨xs, SqT.of ha⟩, fun l hln => ?_⟩
      refine comp_items (n := xs.length) 0 (fun k y _ => ∃ d, ds[k]? = some d ∧ y = .bl (isPartD d)) (gives_tup (SqT.of ha)) (fun _ _ _ _ _ h => h) hp hln Nat.zero_lt_one (line1000 (by omega)) (fun τ' => 0 < τ'.length) Nat.zero_lt_one (fun τ' v h => by rw [List.length_set]; exact h) ?_ ?_
      · intro τ' k y H' R _ hτ hit hk hs hp' hlne hR
        obtain ⟨d, hd, dn⟩ := hds.get hit
        exact ⟨_, hτ, y, d, rfl, dn.same hs, shortS_mem shS (List.mem_of_getElem? hd), hp', hR _ _ (Same.refl _) hp' ⟨d, hd, rfl⟩⟩
      · intro ys H' hy hP hs hp' hl'
        have e2 : ys = (ds.map isPartD).map V.bl := bls_of (by rw [hy, hl]) hP
        refine ⟨l, ds.map isPartD, rfl, .inl (.inl (by rw [hl', e2])), hs, ?_⟩
        rw [all_map_id]
        exact hR
    | _ => exact iteT q
theorem sc_is_rule : FnScope ["thing"] ["thing"] (defScope s_is_rule) := ⟨rfl, rfl, rfl, by decide +kernel, rfl, by decide +kernel, by decide +kernel⟩
theorem ok_is_rule {f : Addr} {fd : FuncData} (F : Fun K "is_rule" "is_rule" s_is_rule f fd) (T : Txt K mg C) (U_is_name : Used P w K mg CX0 1 "is_name" ["thing"] (spIs isNameD)) (U_are_parts : Used P w K mg CX0 4 "are_parts" ["thing"] (spIs arePartsD)) (U_is_worth : Used P w K mg CX0 2 "is_worth" ["thing"] (spIs isWorthD)) : FnOk P w K mg base CX0 5 f fd ["thing"] (spIs isRuleD) := by
  obtain ⟨f_is_name, fd_is_name, G_is_name, m_is_name, k_is_name, b_is_name⟩ := U_is_name.ok
  obtain ⟨f_are_parts, fd_are_parts, G_are_parts, m_are_parts, k_are_parts, b_are_parts⟩ := U_are_parts.ok
  obtain ⟨f_is_worth, fd_is_worth, G_is_worth, m_is_worth, k_is_worth, b_is_worth⟩ := U_is_worth.ok
  refine F.ok sc_is_rule (fun vs H Q E h => ?_) (fun cdv A outer s H vs Q E hr h => ?_)
  · obtain ⟨x, d, rfl, _⟩ := h
    rfl
  · obtain ⟨x, d, rfl, den, sh, hp, q⟩ := h
    refine ⟨_, (pss_cons (ps_if (PW.pt (pw_or (pt_not (pt_val (pe_callB (call_isiK K rfl) (by rfl) T.z_isinstance PyProof.Rows.Boot.«isinstance» (pa_cons (pv 0) (pa_cons (pe_bltn (v := .ty "tuple") (by rfl) T.z_tuple PyProof.Rows.Boot.«tuple» rfl) pa_nil))))) (pw_or1 (pt_cmpR op_ne (pe_callB (call_len_seqK K rfl) (by rfl) T.z_len PyProof.Rows.Boot.«len» (pa_cons (pv 0) pa_nil)) pe_int (nomark _))))) (pss_one (ps_ret pe_bl)) pss_nil)
      (pss_one (ps_ret (pe_and (pe_call (G_is_name base) (hr.mono (by decide)) (by rfl) m_is_name k_is_name b_is_name .nil pass0 (pa_cons (pe_ix (ix_tupK K rfl) (pv 0) pe_int (fun _ _ => rfl)) pa_nil)) (pe_and (pe_call (G_are_parts base) (hr.mono (by decide)) (by rfl) m_are_parts k_are_parts b_are_parts .nil pass0 (pa_cons (pe_ix (ix_tupK K rfl) (pv 0) pe_int (fun _ _ => rfl)) pa_nil)) (pe_one (pe_call (G_is_worth base) (hr.mono (by decide)) (by rfl) m_is_worth k_is_worth b_is_worth .nil pass0 (pa_cons (pe_ix (ix_tupK K rfl) (pv 0) pe_int (fun _ _ => rfl)) pa_nil)))))))), ?_⟩
    refine ⟨_, rfl, _, _, _, _, _, rfl, den.ty, rfl, kit_tuple d, _, rfl, ?_⟩
    cases d with
    | tup ds =>
      obtain ⟨a, xs, rfl, ha, hds⟩ := den.to_tup
      have hl : xs.length = ds.length := hds.len
      refine iteF ?_
      refine ⟨_, rfl, a, xs, rfl, .inr (SqT.of ha), rfl, _, rfl, ?_⟩
      have shS : shortS ds = true := by unfold D.short at sh; exact sh
      by_cases h3 : ds.length = 3
      · match ds, h3, xs, hl, hds, ha, q, shS with
        | [d0, d1, d2], _, [x0, x1, x2], _, hds, ha, q, shS =>
          have n0 := (hds.get (i := 0) (v := x0) rfl)
          have n1 := (hds.get (i := 1) (v := x1) rfl)
          have n2 := (hds.get (i := 2) (v := x2) rfl)
          obtain ⟨_, e0, n0⟩ := n0
          obtain ⟨_, e1, n1⟩ := n1
          obtain ⟨_, e2, n2⟩ := n2
          cases e0
          cases e1
          cases e2
          have sq : SqT K H a [x0, x1, x2] := SqT.of ha
          refine iteF ?_
          refine ⟨_, rfl, a, _, 0, x0, rfl, rfl, sq, rfl, x0, d0, rfl, n0, shortS_mem shS (by simp), hp, _, rfl, ?_⟩
          refine and_read (g := arePartsD d1 && isWorthD d2) (fun _ R hR => ?_) q
          refine ⟨_, rfl, a, _, 1, x1, rfl, rfl, sq, rfl, x1, d1, rfl, n1, shortS_mem shS (by simp), hp, _, rfl, ?_⟩
          exact and_read (g := isWorthD d2) (fun _ R hR => ⟨_, rfl, a, _, 2, x2, rfl, rfl, sq, rfl, x2, d2, rfl, n2, shortS_mem shS (by simp), hp, hR⟩) hR
      · have e1 : (!decide (V.int (xs.length : Int) = V.int 3)) = true := by
          rw [decide_eq_false]
          · rfl
          · intro e
            have := V.int.inj e
            omega
        rw [e1]
        refine iteT ?_
        have e2 : isRuleD (.tup ds) = false := by
          match ds, h3 with
          | [], _ => rfl
          | [_], _ => rfl
          | [_, _], _ => rfl
          | [_, _, _], h => exact absurd rfl h
          | _ :: _ :: _ :: _ :: _, _ => rfl
        rw [e2] at q
        exact q
    | _ => exact iteT q
end
end FR


set_option linter.all false
set_option maxRecDepth 100000
set_option maxHeartbeats 4000000
namespace FR
open PySem L2
abbrev s_is_figures : Stmt := top 23
abbrev s_read_part : Stmt := top 24
abbrev s_read_rule : Stmt := top 25
theorem nd_P9b_figure : (["figure"] : List Str).Nodup := by decide +kernel
theorem nd_P9b_word : (["word"] : List Str).Nodup := by decide +kernel
theorem cut_drop3 (xs : List V) : cutV xs (some 3) none = xs.drop 3 := by
  unfold cutV
  have e2 : HT.sIx xs.length 0 (some 3) = min 3 xs.length := HT.sIx_nat _ _ 3
  have e3 : HT.sIx xs.length xs.length none = xs.length := rfl
  rw [e2, e3]
  by_cases h : 3 ≤ xs.length
  · rw [Nat.min_eq_left h, List.take_of_length_le (by simp)]
  · rw [List.drop_of_length_le (show xs.length ≤ min 3 xs.length by omega), List.drop_of_length_le (show xs.length ≤ 3 by omega)]
    simp
theorem strs_at {ys : List V} {zs : List Str} (hl : ys.length = zs.length) (h : ∀ (k : Nat) (y : V), ys[k]? = some y → ∃ z, zs[k]? = some z ∧ y = .str z) : ys = zs.map V.str := by
  refine List.ext_getElem? fun k => ?_
  by_cases hk : k < ys.length
  · obtain ⟨d, hd, hy⟩ := h k ys[k] (List.getElem?_eq_getElem hk)
    rw [List.getElem?_eq_getElem hk, List.getElem?_map, hd, hy]
    rfl
  · rw [List.getElem?_eq_none (by omega), List.getElem?_eq_none (by rw [List.length_map]; omega)]
section
variable {P : Program} {w : World} {K : PySem.W.Frag} {mg : Str → Option Value} {base : Heap} {C : Adr}
theorem sc_is_figures : FnScope ["thing"] ["thing"] (defScope s_is_figures) := ⟨rfl, rfl, rfl, by decide +kernel, rfl, by decide +kernel, by decide +kernel⟩
theorem ok_is_figures {f : Addr} {fd : FuncData} (F : Fun K "is_figures" "is_figures" s_is_figures f fd) (T : Txt K mg C) : FnOk P w K mg base CX0 1 f fd ["thing"] (spFigures) := by
  obtain ⟨t_MOST_FIGURES, g_MOST_FIGURES⟩ := T.g_MOST_FIGURES
  refine F.ok sc_is_figures (fun vs H Q E h => ?_) (fun cdv A outer s H vs Q E hr h => ?_)
  · obtain ⟨z, rfl, _⟩ := h
    rfl
  · obtain ⟨z, rfl, hz', hp, q⟩ := h
    have hz := line1000 hz'
    refine ⟨_, (pss_cons (ps_if (PW.pt (pw_or (pt_not (pt_chain op_le op_le pe_int (pe_callB call_len_str (by rfl) T.z_len PyProof.Rows.Boot.«len» (pa_cons (pv 0) pa_nil)) (pe_glob (v := .int 61) (by rfl) g_MOST_FIGURES ⟨_, rfl⟩))) (pw_or1 (pt_not (pt_val (pe_pure (pe_callB (call_allK K rfl rfl) (by rfl) T.z_all PyProof.Rows.Boot.«all» (pa_cons (pe_comp (N := ["figure"]) (ρ := [none]) (cl := []) rfl (CompScope.plain rfl (by decide +kernel) (by decide +kernel) rfl (by simp)) (pi_str (pv 0)) (fun _ _ _ _ _ => (pg_name (i := 0) nd_P9b_figure rfl (Or.inl rfl) (.inr rfl))) (fun _ _ _ _ _ => pts_nil) (fun _ _ _ _ _ => (pe_chain op_le_str op_le_str pe_str (pv 0) pe_str))) pa_nil)))))))) (pss_one (ps_ret pe_bl)) pss_nil)
      (pss_one (ps_ret (pe_or (pe_cmpR op_eq (pv 0) pe_str (nomark _)) (pe_one (pe_not (pe_bmK K rfl PySem.F.plainAttrs_str PySem.F.slot_str_startswith PySem.F.type_str_startswith mt_str_startswith (pv 0) (pa_cons pe_str pa_nil)))))))), ?_⟩
    refine ⟨_, rfl, z, rfl, hz, _, _, rfl, rfl, _, rfl, ?_⟩
    refine ite2 (fun h1 => ?_) fun h1 => ?_
    · refine ⟨_, _, rfl, rfl, _, rfl, ?_⟩
      have h1' : 1 ≤ z.cps.size := by have := of_decide_eq_true h1; rw [size_len] at this; omega
      refine ite2 (fun h2 => ?_) fun h2 => ?_
      · have h2' : ¬ z.cps.size ≤ 61 := fun z' => by
          have e : decide ((z.length : Int) ≤ 61) = true := decide_eq_true (by rw [size_len]; omega)
          rw [e] at h2
          cases h2
        have e : isFigS z = false := by
          unfold isFigS
          rw [decide_eq_false h2']
          simp
        rw [e] at q
        exact iteT q
      · have h2' : z.cps.size ≤ 61 := by
          have := of_decide_eq_true (bool_true h2)
          rw [size_len] at this
          omega
        refine ⟨hp, _, rfl, z, rfl, fun l hl => ?_⟩
        refine comp_str (τ := pick [none] _) (fun c => .bl (figC c)) hl Nat.zero_lt_one hz (fun τ' c H' R hτ _ hR => ?_) ?_
        · refine ⟨_, hτ, _, _, rfl, rfl, _, rfl, ?_⟩
          rw [le_0]
          refine ite2 (fun h3 => ?_) fun h3 => ?_
          · refine ⟨_, _, rfl, rfl, ?_⟩
            rw [le_9]
            have e5 : figC c = decide (c ≤ 57) := by unfold figC; rw [h3]; rfl
            rw [e5] at hR
            exact hR
          · have e5 : figC c = false := by
              unfold figC
              cases hh : decide (48 ≤ c) with
              | false => rfl
              | true => exact absurd hh h3
            rw [e5] at hR
            exact hR
        · refine ⟨l, z.cps.toList.map figC, rfl, .inl (.inl ?_), fun b o eb => ?_, _, rfl, ?_⟩
          · rw [upd_same, map_bl]
          · rw [upd_ne (ne_of_none eb hl)]; exact eb
          · rw [all_map_id]
            have ev : isFigS z = (z.cps.toList.all figC && (decide (z = "0") || !Txt.startswith z "0")) := by
              unfold isFigS
              rw [decide_eq_true h1', decide_eq_true h2']
              rfl
            rw [ev] at q
            cases hA : z.cps.toList.all figC with
            | false =>
              rw [hA] at q
              exact iteT q
            | true =>
              rw [hA] at q
              refine iteF ?_
              refine ⟨_, rfl, rfl, _, rfl, ?_⟩
              rw [dec_str]
              refine or_read (g := !Txt.startswith z "0") (fun _ R hR => ?_) q
              exact ⟨_, rfl, rfl, _, _, rfl, rfl, _, rfl, hR⟩
    · have h1' : ¬ 1 ≤ z.cps.size := fun z' => h1 (decide_eq_true (by rw [size_len]; omega))
      have e : isFigS z = false := by
        unfold isFigS
        rw [decide_eq_false h1']
        simp
      rw [e] at q
      exact ⟨_, rfl, iteT q⟩
theorem sc_read_part : FnScope ["word"] ["word"] (defScope s_read_part) := ⟨rfl, rfl, rfl, by decide +kernel, rfl, by decide +kernel, by decide +kernel⟩
theorem ok_read_part {f : Addr} {fd : FuncData} (F : Fun K "read_part" "read_part" s_read_part f fd) (T : Txt K mg C) : FnOk P w K mg base CX0 1 f fd ["word"] (spStr1 readPartS) := by
  refine F.ok sc_read_part (fun vs H Q E h => ?_) (fun cdv A outer s H vs Q E hr h => ?_)
  · obtain ⟨z, rfl, _⟩ := h
    rfl
  · obtain ⟨z, rfl, q⟩ := h
    refine ⟨_, (pss_one (ps_ret (pe_ifExp (pt_cmpR op_eq (pv 0) pe_str (nomark _)) pe_str (pv 0)))), ?_⟩
    refine ⟨_, rfl, rfl, _, rfl, ?_⟩
    rw [dec_str]
    unfold readPartS at q
    refine ite2 (fun h => ?_) fun h => ?_
    · rw [if_pos (of_decide_eq_true h)] at q
      exact q
    · rw [if_neg (fun e => h (decide_eq_true e))] at q
      exact ⟨_, rfl, q⟩
theorem sc_read_rule : FnScope ["text", "words", "rule"] ["text"] (defScope s_read_rule) := ⟨rfl, rfl, rfl, by decide +kernel, rfl, by decide +kernel, by decide +kernel⟩
theorem ok_read_rule {f : Addr} {fd : FuncData} (F : Fun K "read_rule" "read_rule" s_read_rule f fd) (T : Txt K mg C) (U_is_rule : Used P w K mg CX0 5 "is_rule" ["thing"] (spIs isRuleD)) (U_is_figures : Used P w K mg CX0 1 "is_figures" ["thing"] (spFigures)) (U_read_part : Used P w K mg CX0 1 "read_part" ["word"] (spStr1 readPartS)) : FnOk P w K mg base (CXo P w) 6 f fd ["text"] (spReadRule C.NoRule) := by
  obtain ⟨f_is_rule, fd_is_rule, G_is_rule, m_is_rule, k_is_rule, b_is_rule⟩ := U_is_rule.ok
  obtain ⟨f_is_figures, fd_is_figures, G_is_figures, m_is_figures, k_is_figures, b_is_figures⟩ := U_is_figures.ok
  obtain ⟨f_read_part, fd_read_part, G_read_part, m_read_part, k_read_part, b_read_part⟩ := U_read_part.ok
  refine F.okX sc_read_rule (fun vs H Q E h => ?_) (fun cdv A outer s H vs Q E hr h => ?_)
  · obtain ⟨x, d, rfl, _⟩ := h
    rfl
  · obtain ⟨x, d, rfl, den, sh, hp, q1, q2⟩ := h
    refine ⟨_, (pss_cons (ps_if (pt_not (pt_val (pe_callB (call_isiK K rfl) (by rfl) T.z_isinstance PyProof.Rows.Boot.«isinstance» (pa_cons (pv 0) (pa_cons (pe_bltn (v := .ty "str") (by rfl) T.z_str PyProof.Rows.Boot.«str» rfl) pa_nil))))) (pss_one (ps_raise sink_def T.x_NoRule rfl (by rfl) T.n_NoRule (pa_cons pe_str pa_nil))) pss_nil)
      (pss_cons (ps_set (i := 1) sc_read_rule.nd rfl (Or.inl rfl) (pe_bmK K rfl PySem.F.plainAttrs_str PySem.F.slot_str_split PySem.F.type_str_split mt_str_split (pv 0) (pa_cons pe_str pa_nil)))
      (pss_cons (ps_if (PW.pt (pw_or (pt_cmpR op_lt (pe_callB (call_len_seqK K rfl) (by rfl) T.z_len PyProof.Rows.Boot.«len» (pa_cons (pv 1) pa_nil)) pe_int (nomark _)) (pw_or (pt_not (pt_val (pe_call (G_is_figures base) (hr.mono (by decide)) (by rfl) m_is_figures k_is_figures b_is_figures .nil pass0 (pa_cons (pe_ix (ix_listK K rfl) (pv 1) pe_int (fun _ _ => rfl)) pa_nil)))) (pw_or1 (pt_cmpR op_ne (pe_ix (ix_listK K rfl) (pv 1) pe_int (fun _ _ => rfl)) pe_str (nomark _)))))) (pss_one (ps_raise sink_def T.x_NoRule rfl (by rfl) T.n_NoRule (pa_cons pe_str pa_nil))) pss_nil)
      (pss_cons (ps_set (i := 2) sc_read_rule.nd rfl (Or.inl rfl) (pe_tup (pa_cons (pe_ix (ix_listK K rfl) (pv 1) pe_int (fun _ _ => rfl)) (pa_cons (pe_callTy (call_tuple_ofK K rfl) (by rfl) T.z_tuple PyProof.Rows.Boot.«tuple» (pa_cons (pe_comp (N := ["word"]) (ρ := [none]) (cl := []) rfl (CompScope.plain rfl (by decide +kernel) (by decide +kernel) rfl (by simp)) (pi_listK K rfl (pe_slice (sl_listK K rfl) (pv 1) (po_some pe_int) po_none)) (fun _ _ _ _ _ => (pg_name (i := 0) nd_P9b_word rfl (Or.inl rfl) (.inr rfl))) (fun _ _ _ _ _ => pts_nil) (fun _ _ _ _ _ => (pe_call (G_read_part base) (hr.mono (by decide)) (by rfl) m_read_part k_read_part b_read_part .nil pass0 (pa_cons (pv 0) pa_nil)))) pa_nil)) (pa_cons (pe_callTy call_int_str (by rfl) T.z_int PyProof.Rows.Boot.«int» (pa_cons (pe_ix (ix_listK K rfl) (pv 1) pe_int (fun _ _ => rfl)) pa_nil)) pa_nil)))))
      (pss_cons (ps_if (pt_not (pt_val (pe_call (G_is_rule base) (hr.mono (by decide)) (by rfl) m_is_rule k_is_rule b_is_rule .nil pass0 (pa_cons (pv 2) pa_nil)))) (pss_one (ps_raise sink_def T.x_NoRule rfl (by rfl) T.n_NoRule (pa_cons pe_str pa_nil))) pss_nil)
      (pss_one (ps_ret (pv 2)))))))), ?_⟩
    refine ⟨_, rfl, _, _, _, _, _, rfl, den.ty, rfl, kit_str d, _, rfl, ?_⟩
    cases d with
    | str z =>
      have ex := den.to_str
      subst ex
      have hz := short_len sh
      refine iteF ?_
      refine ⟨_, rfl, rfl, z, " ", rfl, rfl, rfl, (by rw [sizeLine_eq]; omega), fun l hl => ?_⟩
      have q1 : ∀ r, ruleOfW (Txt.split z " ") = some r → ∀ p H', Same H H' → Plain H' → Den (newIn H H') p (ruleD r) → Q p H' := q1
      have q2 : ruleOfW (Txt.split z " ") = none → ∀ H', Same H H' → Plain H' → E (.ref C.NoRule) none H' := q2
      have hws : ∀ a ∈ Txt.split z " ", a.length ≤ z.length := fun a ha => PyProof.Rows.part_short ha
      have hwl : (Txt.split z " ").length ≤ z.length + 2 := split_len z " "
      have s1 := Same.upd (o := .lst ((Txt.split z " ").map V.str)) hl
      have el : upd H l (.lst ((Txt.split z " ").map V.str)) l = some (.lst ((Txt.split z " ").map V.str)) := upd_same
      have p1 : Plain (upd H l (.lst ((Txt.split z " ").map V.str))) := hp.upd rfl
      revert s1 el p1 q1 q2 hws hwl
      generalize upd H l (.lst ((Txt.split z " ").map V.str)) = H1
      generalize Txt.split z " " = ws
      intro q1 q2 hws hwl s1 el p1
      refine ⟨_, rfl, l, _, rfl, .inl (SqL.of el), _, _, rfl, rfl, _, rfl, ?_⟩
      match ws, q1, q2, hws, hwl, el with
      | [], q1, q2, hws, hwl, el => exact iteT (iteT ⟨line1000 (by decide), q2 rfl _ s1 p1⟩)
      | [_], q1, q2, hws, hwl, el => exact iteT (iteT ⟨line1000 (by decide), q2 rfl _ s1 p1⟩)
      | [_, _], q1, q2, hws, hwl, el => exact iteT (iteT ⟨line1000 (by decide), q2 rfl _ s1 p1⟩)
      | h :: n :: e :: ps, q1, q2, hws, hwl, el =>
        have e3 : decide ((((h :: n :: e :: ps).map V.str).length : Int) < 3) = false := decide_eq_false (by rw [List.length_map]; simp; omega)
        rw [e3]
        refine iteF ?_
        have hh := hws h (by simp)
        have hpl : ps.length ≤ z.length := by simp only [List.length_cons] at hwl; omega
        have hn := hws n (by simp)
        refine ⟨_, rfl, l, _, 1, _, rfl, rfl, SqL.of el, atI_nat (j := 1) rfl, n, rfl, by omega, p1, _, rfl, ?_⟩
        refine ite2 (fun hf => ?_) fun hf => ?_
        · have hf' := bool_false hf
          refine iteT ⟨line1000 (by decide), q2 ?_ _ s1 p1⟩
          show (if (isFigS n && decide (e = "=")) = true then _ else none) = none
          rw [hf']
          rfl
        · have hf' := bool_true hf
          refine ⟨_, rfl, l, _, 2, _, rfl, rfl, SqL.of el, atI_nat (j := 2) rfl, rfl, _, rfl, ?_⟩
          rw [dec_str]
          refine ite2 (fun he => ?_) fun he => ?_
          · have he' : decide (e = "=") = false := bool_false he
            refine ⟨line1000 (by decide), q2 ?_ _ s1 p1⟩
            show (if (isFigS n && decide (e = "=")) = true then _ else none) = none
            rw [he', Bool.and_false]
            rfl
          · have he' : decide (e = "=") = true := bool_true he
            have ev : ruleOfW (h :: n :: e :: ps) = if okRule (h, ps.map readPartS, valS n) = true then some (h, ps.map readPartS, valS n) else none := by
              show (if (isFigS n && decide (e = "=")) = true then _ else _) = _
              rw [hf', he']
              rfl
            obtain ⟨ft, fl⟩ := fig_reads hf'
            refine ⟨_, rfl, l, _, 0, _, rfl, rfl, SqL.of el, atI_nat (j := 0) rfl, _, rfl, _, rfl, l, _, rfl, SqL.of el, fun l3 hl3 => ?_⟩
            rw [cut_drop3]
            have s2 := Same.upd (o := .lst (((h :: n :: e :: ps).map V.str).drop 3)) hl3
            have e2 : upd H1 l3 (.lst (((h :: n :: e :: ps).map V.str).drop 3)) l3 = some (.lst (ps.map V.str)) := upd_same
            have p2 : Plain (upd H1 l3 (.lst (((h :: n :: e :: ps).map V.str).drop 3))) := p1.upd rfl
            revert s2 e2 p2
            generalize upd H1 l3 (.lst (((h :: n :: e :: ps).map V.str).drop 3)) = H2
            intro s2 e2 p2
            refine ⟨l3, rfl, ⟨_, SqL.of e2⟩, fun l4 hl4 => ?_⟩
            refine comp_items (n := (ps.map V.str).length) 0 (fun k y _ => ∃ z, (ps.map readPartS)[k]? = some z ∧ y = .str z) (gives_list (SqL.of e2)) (fun _ _ _ _ _ h => h) p2 hl4 Nat.zero_lt_one (line1000 ?_) (fun τ' => 0 < τ'.length) Nat.zero_lt_one (fun τ' v h => by rw [List.length_set]; exact h) ?_ ?_
            · rw [List.length_map]; omega
            · intro τ' k y H' R _ hτ hit hk hs hp' hlne hR
              rw [List.getElem?_map] at hit
              cases e : ps[k]? with
              | none => rw [e] at hit; cases hit
              | some z =>
                rw [e] at hit
                cases hit
                exact ⟨_, hτ, z, rfl, hR _ _ (Same.refl _) hp' ⟨_, by rw [List.getElem?_map, e]; rfl, rfl⟩⟩
            · intro ys H3 hy hP hs hp' hl'
              have e3 : ys = (ps.map readPartS).map V.str := strs_at (by rw [hy, List.length_map, List.length_map]) hP
              rw [e3] at hl'
              refine ⟨l4, _, rfl, .inl ⟨SqL.of hl', fun t5 ht5 => ?_⟩⟩
              have s3 := Same.upd (o := .tup ((ps.map readPartS).map V.str)) ht5
              have s13 := (s2.trans hs).trans s3
              have e5 : upd H3 t5 (.tup ((ps.map readPartS).map V.str)) t5 = some (.tup ((ps.map readPartS).map V.str)) := upd_same
              have p3 : Plain (upd H3 t5 (.tup ((ps.map readPartS).map V.str))) := hp'.upd rfl
              have n5 : H1 t5 = none := (s2.trans hs).free ht5
              revert s13 e5 p3
              generalize upd H3 t5 (.tup ((ps.map readPartS).map V.str)) = H4
              intro s13 e5 p3
              refine ⟨_, rfl, l, _, 1, _, rfl, rfl, SqL.of (s13 _ _ el), atI_nat (j := 1) rfl, n, _, rfl, ft, fl, line1000 (by show 3 ≤ 1000; decide), fun t6 ht6 => ?_⟩
              have s4 := Same.upd (o := .tup [.str h, .ref t5, .int (valS n)]) ht6
              have e6 : upd H4 t6 (.tup [.str h, .ref t5, .int (valS n)]) t6 = some (.tup [.str h, .ref t5, .int (valS n)]) := upd_same
              have p4 : Plain (upd H4 t6 (.tup [.str h, .ref t5, .int (valS n)])) := p3.upd rfl
              have e5' := s4 _ _ e5
              have s14 := (s1.trans s13).trans s4
              have n6 : H t6 = none := (s1.trans s13).free ht6
              have n5' : H t5 = none := s1.free n5
              revert s14 e6 p4 e5'
              generalize upd H4 t6 (.tup [.str h, .ref t5, .int (valS n)]) = H5
              intro e6 p4 e5' s14
              have den5 : ∀ {G : Hp}, G t6 = some (.tup [.str h, .ref t5, .int (valS n)]) → G t5 = some (.tup ((ps.map readPartS).map V.str)) → Den G (.ref t6) (ruleD (h, ps.map readPartS, valS n)) := fun {G} a b =>
                .tup a (.cons (.str _) (.cons (.tup b (Dens.strs _)) (.cons (.int _) .nil)))
              refine ⟨_, rfl, .ref t6, ruleD (h, ps.map readPartS, valS n), rfl, den5 e6 e5', ?_, p4, _, rfl, ?_⟩
              · unfold ruleD D.short
                refine shortS_of fun d hd => ?_
                simp only [List.mem_cons, List.not_mem_nil, or_false] at hd
                rcases hd with rfl | rfl | rfl
                · exact short_str (by show h.length ≤ 1000; omega)
                · unfold D.short
                  refine shortS_of fun d hd => ?_
                  obtain ⟨x, hx, rfl⟩ := List.mem_map.mp hd
                  obtain ⟨y, hy, rfl⟩ := List.mem_map.mp hx
                  exact short_str (readPart_len (Nat.le_trans (hws y (by simp [hy])) hz))
                · rfl
              · rw [isRuleD_ruleD]
                refine ite2 (fun hr => ?_) fun hr => ?_
                · refine ⟨line1000 (by decide), q2 ?_ _ s14 p4⟩
                  rw [ev, bool_false hr]
                  rfl
                · refine ⟨_, rfl, q1 _ ?_ _ _ s14 p4 (den5 (newIn_at n6 e6) (newIn_at n5' e5'))⟩
                  rw [ev, bool_true hr]
                  rfl
    | _ => exact iteT ⟨line1000 (by decide), q2 rfl _ (Same.refl _) hp⟩
end
end FR


set_option linter.all false
set_option maxRecDepth 100000
set_option maxHeartbeats 4000000
namespace FR
open PySem L2
abbrev s__law_cell_at : Stmt := top 27
abbrev s__law_sign : Stmt := top 28
abbrev s__law_name : Stmt := top 29
abbrev s__law_part : Stmt := top 30
abbrev s__law_worth : Stmt := top 31
abbrev s__law_rule : Stmt := top 32
abbrev s__law_written : Stmt := top 33
abbrev s__law_alike : Stmt := top 34
abbrev s__law_figures : Stmt := top 35
abbrev s__law_is_name : Stmt := top 36
abbrev s__law_due : Stmt := top 37
abbrev s__law_spoilt : Stmt := top 38
abbrev s__law_odd : Stmt := top 39
abbrev s__law_refused : Stmt := top 40
abbrev s__law_right : Stmt := top 41
abbrev s_law : Stmt := top 42
theorem nd_LR__law_k__law_at__law_script : (["_law_k", "_law_at", "_law_script"] : List Str).Nodup := by decide +kernel
def spSign : Sp := fun vs H Q _ => ∃ c : Int, vs = [.int c] ∧ ∀ k, good k = true → Q (.str ⟨#[k]⟩) H
def spName : Sp := fun vs H Q _ => ∃ c : Int, vs = [.int c] ∧ ∀ z, isNameS z = true → Q (.str z) H
def spPart : Sp := fun vs H Q _ => ∃ c : Int, vs = [.int c] ∧ ∀ z, isPartS z = true → Q (.str z) H
def spWorthL : Sp := fun vs H Q _ => ∃ c : Int, vs = [.int c] ∧ ∀ z : Int, 0 ≤ z → z ≤ 10 ^ 60 → Q (.int z) H
def spRuleL (K : PySem.W.Frag) : Sp := fun vs H Q _ => ∃ (a : Addr) (ns : List Int) (k : Int), vs = [.ref a, .int k] ∧ SqL K H a (ns.map V.int) ∧ 0 ≤ k ∧ Plain H ∧ ∀ (r : Rule) t H', okRule r = true → Same H H' → Plain H' → Den (newIn H H') (.ref t) (ruleD r) → Q (.ref t) H'
def spWritten : Sp := fun vs H Q _ => ∃ x r, vs = [x] ∧ Den H x (ruleD r) ∧ okRule r = true ∧ Q (.str (ruleText r)) H
def spAlike : Sp := fun vs H Q _ => ∃ x y r, vs = [x, y] ∧ Den H x (ruleD r) ∧ Den H y (ruleD r) ∧ Q (.bl true) H
def SOME : Str := halfOf s__law_sign 0 ++ halfOf s__law_sign 1
theorem some_list : SOME.cps.toList = goodCodes := by decide +kernel
theorem some_line : SOME.length ≤ sizeLine := line1000 (by decide +kernel)
theorem blank_part : isPartS "' " = true := by decide +kernel
section
variable {P : Program} {w : World} {K : PySem.W.Frag} {mg : Str → Option Value} {base : Heap} {C : Adr}
theorem sc__law_cell_at : FnScope ["_law_script", "_law_k"] ["_law_script", "_law_k"] (defScope s__law_cell_at) := ⟨rfl, rfl, rfl, by decide +kernel, rfl, by decide +kernel, by decide +kernel⟩
theorem ok__law_cell_at {f : Addr} {fd : FuncData} (F : Fun K "_law_cell_at" "_law_cell_at" s__law_cell_at f fd) (T : Txt K mg C) : FnOk P w K mg base CX0 1 f fd ["_law_script", "_law_k"] (spCell K) := by
  refine F.ok sc__law_cell_at (fun vs H Q E h => ?_) (fun cdv A outer s H vs Q E hr h => ?_)
  · obtain ⟨a, ns, k, rfl, _⟩ := h
    rfl
  · obtain ⟨a, ns, k, rfl, hS, h0, q⟩ := h
    refine ⟨_, (pss_cons (ps_if (pt_cmpR op_lt (pv 1) (pe_callB (call_len_seqK K rfl) (by rfl) T.z_len PyProof.Rows.Boot.«len» (pa_cons (pv 0) pa_nil)) (nomark _)) (pss_one (ps_ret (pe_ix (ix_listK K rfl) (pv 0) (pv 1) (fun _ _ => rfl)))) pss_nil)
      (pss_one (ps_ret pe_int))), ?_⟩
    refine ⟨_, rfl, _, rfl, a, _, rfl, .inl hS, _, _, rfl, rfl, _, rfl, ?_⟩
    refine ite2 (fun h1 => ?_) fun h1 => ?_
    · have h1' := of_decide_eq_true h1
      obtain ⟨v, hv, hm⟩ := atI_some h0 h1'
      obtain ⟨n, _, rfl⟩ := List.mem_map.mp hm
      exact ⟨_, rfl, _, rfl, a, _, k, _, rfl, rfl, hS, hv, q n⟩
    · exact q 0
theorem sc__law_sign : FnScope ["_law_cell", "_law_some"] ["_law_cell"] (defScope s__law_sign) := ⟨rfl, rfl, rfl, by decide +kernel, rfl, by decide +kernel, by decide +kernel⟩
theorem ok__law_sign {f : Addr} {fd : FuncData} (F : Fun K "_law_sign" "_law_sign" s__law_sign f fd) (T : Txt K mg C) : FnOk P w K mg base CX0 1 f fd ["_law_cell"] (spSign) := by
  refine F.ok sc__law_sign (fun vs H Q E h => ?_) (fun cdv A outer s H vs Q E hr h => ?_)
  · obtain ⟨c, rfl, _⟩ := h
    rfl
  · obtain ⟨c, rfl, q⟩ := h
    refine ⟨_, (pss_cons (ps_set (i := 1) sc__law_sign.nd rfl (Or.inl rfl) pe_str)
      (pss_cons (ps_set (i := 1) sc__law_sign.nd rfl (Or.inl rfl) (pe_op op_add_str (pv 1) pe_str))
      (pss_one (ps_ret (pe_ix ix_str (pv 1) (pe_op op_mod (pv 0) pe_int) (fun _ _ => rfl)))))), ?_⟩
    refine ⟨_, rfl, halfOf s__law_sign 0, halfOf s__law_sign 1, rfl, rfl, by decide +kernel, ?_⟩
    obtain ⟨c2, hc2, hm⟩ := atI_some (xs := SOME.cps.toList) (i := c % 94) (by omega) (by rw [some_list, codes_len]; omega)
    rw [some_list] at hm
    exact ⟨_, rfl, _, rfl, _, _, rfl, rfl, (by show (0 : Int) < 94; decide), SOME, _, c2, rfl, rfl, some_line, hc2, q _ (codes_good hm)⟩
theorem sc__law_name : FnScope ["_law_cell", "_law_big", "_law_name_here", "_law_k"] ["_law_cell"] (defScope s__law_name) := ⟨rfl, rfl, rfl, by decide +kernel, rfl, by decide +kernel, by decide +kernel⟩
theorem ok__law_name {f : Addr} {fd : FuncData} (F : Fun K "_law_name" "_law_name" s__law_name f fd) (T : Txt K mg C) : FnOk P w K mg base CX0 1 f fd ["_law_cell"] (spName) := by
  refine F.ok sc__law_name (fun vs H Q E h => ?_) (fun cdv A outer s H vs Q E hr h => ?_)
  · obtain ⟨c, rfl, _⟩ := h
    rfl
  · obtain ⟨c, rfl, q⟩ := h
    refine ⟨_, (pss_cons (ps_set (i := 1) sc__law_name.nd rfl (Or.inl rfl) pe_str)
      (pss_cons (ps_set (i := 2) sc__law_name.nd rfl (Or.inl rfl) (pe_ix ix_str (pv 1) (pe_op op_mod (pv 0) pe_int) (fun _ _ => rfl)))
      (pss_cons (ps_for PassesOwn.never rfl (pi_range1 rfl T.z_range (pa_cons (pe_op op_mod (pe_op op_fdiv (pv 0) pe_int) pe_int) pa_nil)) (pg_name (i := 3) sc__law_name.nd rfl (Or.inl rfl)) (pss_cons (ps_set (i := 0) sc__law_name.nd rfl (Or.inl rfl) (pe_op op_mod (pe_op op_add (pe_op op_add (pe_op op_mul (pv 0) pe_int) (pe_op op_mul pe_int (pv 3))) pe_int) pe_int))
      (pss_one (ps_set (i := 2) sc__law_name.nd rfl (Or.inl rfl) (pe_op op_add_str (pv 2) (pe_ix ix_str (pv 1) (pe_op op_mod (pe_op op_fdiv (pv 0) pe_int) pe_int) (fun _ _ => rfl)))))))
      (pss_one (ps_ret (pv 2)))))), ?_⟩
    obtain ⟨c1, hc1, hm1⟩ := atI_some (xs := BIG.cps.toList) (i := c % 26) (by omega) (by rw [big_len]; omega)
    refine ⟨_, rfl, _, rfl, _, _, rfl, rfl, (by show (0 : Int) < 26; decide), BIG, _, c1, rfl, rfl, big_line, hc1, ?_⟩
    refine ⟨_, rfl, _, _, rfl, rfl, ⟨by decide, by decide⟩, _, _, rfl, rfl, (by show (0 : Int) < 8; decide), _, rfl, (in62 (by omega) (by omega)).1, (in62 (by omega) (by omega)).2, ?_⟩
    refine for_range (lo := 0) (n := (c / 26 % 8).toNat) (fun i σ H2 => H2 = H ∧ ∃ (x : Int) (z : Str) (v : Option V), σ = [some (.int x), some (.str BIG), some (.str z), v] ∧ z.length = i + 1 ∧ z.cps.toList.all letter = true) ⟨rfl, _, _, none, rfl, rfl, ?_⟩ ?_ ?_
    · show [c1].all letter = true
      rw [List.all_cons, big_letter hm1]
      rfl
    · rintro i σ H2 hi ⟨rfl, x, z, v, rfl, hz, hzl⟩
      have hi8 : i < 8 := by omega
      refine ⟨_, rfl, _, _, rfl, rfl, .inr ⟨by decide, by decide⟩, _, rfl, _, _, rfl, rfl, .inl ⟨by decide, by decide⟩, _, _, rfl, rfl, _, _, rfl, rfl, _, _, rfl, rfl, (by show (0 : Int) < 2147483647; decide), ?_⟩
      obtain ⟨c2, hc2, hm⟩ := atI_some (xs := BIG.cps.toList) (i := (x * 48271 + 11 * (0 + (i : Int)) + 7) % 2147483647 / 5 % 26) (by omega) (by rw [big_len]; omega)
      refine ⟨_, rfl, _, rfl, _, rfl, _, _, rfl, rfl, ⟨by decide, by decide⟩, _, _, rfl, rfl, (by show (0 : Int) < 26; decide), BIG, _, c2, rfl, rfl, big_line, hc2, z, _, rfl, rfl, line1000 (by show z.length + 1 ≤ 1000; omega), ?_⟩
      refine ⟨rfl, _, z ++ ⟨#[c2]⟩, _, rfl, by rw [slen, hz]; rfl, ?_⟩
      rw [app_list, List.all_append, hzl]
      show (true && [c2].all letter) = true
      rw [List.all_cons, big_letter hm]
      rfl
    · rintro σ H2 ⟨rfl, x, z, v, rfl, hz, hzl⟩
      refine ⟨_, rfl, q z ?_⟩
      have hl : z.cps.toList.length = (c / 26 % 8).toNat + 1 := hz
      rw [isName_list]
      unfold nameL
      rw [hzl, hl, decide_eq_true (by omega), decide_eq_true (by omega)]
      rfl
theorem sc__law_part : FnScope ["_law_cell"] ["_law_cell"] (defScope s__law_part) := ⟨rfl, rfl, rfl, by decide +kernel, rfl, by decide +kernel, by decide +kernel⟩
theorem ok__law_part {f : Addr} {fd : FuncData} (F : Fun K "_law_part" "_law_part" s__law_part f fd) (T : Txt K mg C) (U__law_name : Used P w K mg CX0 1 "_law_name" ["_law_cell"] (spName)) (U__law_sign : Used P w K mg CX0 1 "_law_sign" ["_law_cell"] (spSign)) : FnOk P w K mg base CX0 2 f fd ["_law_cell"] (spPart) := by
  obtain ⟨f__law_name, fd__law_name, G__law_name, m__law_name, k__law_name, b__law_name⟩ := U__law_name.ok
  obtain ⟨f__law_sign, fd__law_sign, G__law_sign, m__law_sign, k__law_sign, b__law_sign⟩ := U__law_sign.ok
  refine F.ok sc__law_part (fun vs H Q E h => ?_) (fun cdv A outer s H vs Q E hr h => ?_)
  · obtain ⟨c, rfl, _⟩ := h
    rfl
  · obtain ⟨c, rfl, q⟩ := h
    refine ⟨_, (pss_cons (ps_if (pt_cmpR op_eq (pe_op op_mod (pv 0) pe_int) pe_int (nomark _)) (pss_one (ps_ret (pe_call (G__law_name base) (hr.mono (by decide)) (by rfl) m__law_name k__law_name b__law_name .nil pass0 (pa_cons (pe_op op_fdiv (pv 0) pe_int) pa_nil)))) pss_nil)
      (pss_cons (ps_if (PW.pt (pw_and (pt_cmpR op_eq (pe_op op_mod (pv 0) pe_int) pe_int (nomark _)) (pw_and1 (pt_cmpR op_eq (pe_op op_mod (pe_op op_fdiv (pv 0) pe_int) pe_int) pe_int (nomark _))))) (pss_one (ps_ret pe_str)) pss_nil)
      (pss_one (ps_ret (pe_op op_add_str pe_str (pe_call (G__law_sign base) (hr.mono (by decide)) (by rfl) m__law_sign k__law_sign b__law_sign .nil pass0 (pa_cons (pe_op op_fdiv (pv 0) pe_int) pa_nil))))))), ?_⟩
    refine ⟨_, rfl, _, _, rfl, rfl, (by show (0 : Int) < 3; decide), rfl, _, rfl, ite2 (fun _ => ?_) fun _ => ?_⟩
    · refine ⟨_, rfl, _, _, rfl, rfl, ⟨by decide, by decide⟩, _, rfl, fun z hz => q z ?_⟩
      unfold isPartS
      rw [hz, Bool.or_true]
    · have rest : ∃ x, (∃ y, x = V.str y ∧ isPartS y = true) ∧ True := ⟨_, ⟨_, rfl, blank_part⟩, trivial⟩
      refine ⟨_, rfl, _, _, rfl, rfl, (by show (0 : Int) < 3; decide), rfl, _, rfl, ?_⟩
      have fin : ∀ (k : Nat), good k = true → Q (.str (("'" : Str) ++ ⟨#[k]⟩)) H := fun k hk => q _ (sign_part hk)
      refine ite2 (fun _ => ?_) fun _ => ?_
      · refine ⟨_, rfl, _, _, rfl, rfl, ⟨by decide, by decide⟩, _, _, rfl, rfl, (by show (0 : Int) < 4; decide), rfl, _, rfl, ite2 (fun _ => ?_) fun _ => ?_⟩
        · exact q _ blank_part
        · exact ⟨_, rfl, _, _, rfl, rfl, ⟨by decide, by decide⟩, _, rfl, fun k hk => ⟨("'" : Str), _, rfl, rfl, line1000 (by rw [q_one]; show 1 + 1 ≤ 1000; decide), fin k hk⟩⟩
      · refine iteF ?_
        exact ⟨_, rfl, _, _, rfl, rfl, ⟨by decide, by decide⟩, _, rfl, fun k hk => ⟨("'" : Str), _, rfl, rfl, line1000 (by rw [q_one]; show 1 + 1 ≤ 1000; decide), fin k hk⟩⟩
theorem sc__law_worth : FnScope ["_law_cell"] ["_law_cell"] (defScope s__law_worth) := ⟨rfl, rfl, rfl, by decide +kernel, rfl, by decide +kernel, by decide +kernel⟩
theorem ok__law_worth {f : Addr} {fd : FuncData} (F : Fun K "_law_worth" "_law_worth" s__law_worth f fd) (T : Txt K mg C) : FnOk P w K mg base CX0 1 f fd ["_law_cell"] (spWorthL) := by
  refine F.ok sc__law_worth (fun vs H Q E h => ?_) (fun cdv A outer s H vs Q E hr h => ?_)
  · obtain ⟨c, rfl, _⟩ := h
    rfl
  · obtain ⟨c, rfl, q⟩ := h
    refine ⟨_, (pss_cons (ps_if (pt_cmpR op_eq (pe_op op_mod (pv 0) pe_int) pe_int (nomark _)) (pss_one (ps_ret (pe_op op_sub (pe_op op_pow pe_int pe_int) (pe_op op_mod (pe_op op_fdiv (pv 0) pe_int) pe_int)))) pss_nil)
      (pss_cons (ps_if (pt_cmpR op_eq (pe_op op_mod (pv 0) pe_int) pe_int (nomark _)) (pss_one (ps_ret (pe_op op_mod (pe_op op_fdiv (pv 0) pe_int) pe_int))) pss_nil)
      (pss_one (ps_ret (pe_op op_mod (pe_op op_fdiv (pv 0) pe_int) (pe_op op_add (pe_op op_pow pe_int pe_int) pe_int)))))), ?_⟩
    have big : (1000 : Int) ≤ 10 ^ 60 := by decide
    refine ⟨_, rfl, _, _, rfl, rfl, (by show (0 : Int) < 4; decide), rfl, _, rfl, ite2 (fun _ => ?_) fun _ => ?_⟩
    · refine ⟨_, _, rfl, rfl, ⟨by decide, by decide, by decide⟩, _, rfl, _, _, rfl, rfl, ⟨by decide, by decide⟩, _, _, rfl, rfl, (by show (0 : Int) < 2; decide), _, _, rfl, rfl, q _ ?_ ?_⟩
      · show 0 ≤ (10 : Int) ^ 60 - c / 4 % 2
        omega
      · show (10 : Int) ^ 60 - c / 4 % 2 ≤ 10 ^ 60
        omega
    · refine ⟨_, rfl, _, _, rfl, rfl, (by show (0 : Int) < 4; decide), rfl, _, rfl, ite2 (fun _ => ?_) fun _ => ?_⟩
      · refine ⟨_, rfl, _, _, rfl, rfl, ⟨by decide, by decide⟩, _, _, rfl, rfl, (by show (0 : Int) < 100; decide), q _ ?_ ?_⟩
        · show 0 ≤ c / 4 % 100
          omega
        · show c / 4 % 100 ≤ 10 ^ 60
          omega
      · refine ⟨_, rfl, _, _, rfl, rfl, ⟨by decide, by decide⟩, _, _, rfl, rfl, ⟨by decide, by decide, by decide⟩, _, _, rfl, rfl, _, _, rfl, rfl, (by show (0 : Int) < 10 ^ (60 : Int).toNat + 1; decide), q _ ?_ ?_⟩
        · exact Int.emod_nonneg _ (by decide)
        · exact Int.le_of_lt_add_one (Int.emod_lt_of_pos _ (by decide))
theorem sc__law_rule : FnScope ["_law_script", "_law_at", "_law_size", "_law_parts"] ["_law_script", "_law_at"] (defScope s__law_rule) := ⟨rfl, rfl, rfl, by decide +kernel, rfl, by decide +kernel, by decide +kernel⟩
theorem ok__law_rule {f : Addr} {fd : FuncData} (F : Fun K "_law_rule" "_law_rule" s__law_rule f fd) (T : Txt K mg C) (U__law_cell_at : Used P w K mg CX0 1 "_law_cell_at" ["_law_script", "_law_k"] (spCell K)) (U__law_part : Used P w K mg CX0 2 "_law_part" ["_law_cell"] (spPart)) (U__law_name : Used P w K mg CX0 1 "_law_name" ["_law_cell"] (spName)) (U__law_worth : Used P w K mg CX0 1 "_law_worth" ["_law_cell"] (spWorthL)) : FnOk P w K mg base CX0 3 f fd ["_law_script", "_law_at"] (spRuleL K) := by
  obtain ⟨f__law_cell_at, fd__law_cell_at, G__law_cell_at, m__law_cell_at, k__law_cell_at, b__law_cell_at⟩ := U__law_cell_at.ok
  obtain ⟨f__law_part, fd__law_part, G__law_part, m__law_part, k__law_part, b__law_part⟩ := U__law_part.ok
  obtain ⟨f__law_name, fd__law_name, G__law_name, m__law_name, k__law_name, b__law_name⟩ := U__law_name.ok
  obtain ⟨f__law_worth, fd__law_worth, G__law_worth, m__law_worth, k__law_worth, b__law_worth⟩ := U__law_worth.ok
  refine F.ok sc__law_rule (fun vs H Q E h => ?_) (fun cdv A outer s H vs Q E hr h => ?_)
  · obtain ⟨a, ns, k, rfl, _⟩ := h
    rfl
  · obtain ⟨a, ns, k, rfl, hS, k0, hp, q⟩ := h
    refine ⟨_, (pss_cons (ps_set (i := 2) sc__law_rule.nd rfl (Or.inl rfl) (pe_op op_mod (pe_call (G__law_cell_at base) (hr.mono (by decide)) (by rfl) m__law_cell_at k__law_cell_at b__law_cell_at .nil pass0 (pa_cons (pv 0) (pa_cons (pv 1) pa_nil))) pe_int))
      (pss_cons (ps_setC (N := ["_law_k", "_law_at", "_law_script"]) (ρ := [none, some 1, some 0]) (i := 3) sc__law_rule.nd rfl rfl rfl (CompScope.closes ["_law_script", "_law_at", "_law_size", "_law_parts"] (defScope s__law_rule).names rfl rfl rfl rfl (by decide +kernel) (by decide +kernel) (fun x h => cell_has h) (by decide +kernel) rfl (by decide +kernel)) (pi_range1 rfl T.z_range (pa_cons (pv 2) pa_nil)) (fun _ _ _ _ _ => (pg_name (i := 0) nd_LR__law_k__law_at__law_script rfl (Or.inl rfl) (.inr rfl))) (fun _ _ _ _ _ => pts_nil) (fun _ _ _ _ _ => (pe_call (G__law_part base) (hr.mono (by decide)) (by rfl) m__law_part k__law_part b__law_part .nil pass0 (pa_cons (pe_call (G__law_cell_at base) (hr.mono (by decide)) (by rfl) m__law_cell_at k__law_cell_at b__law_cell_at .nil pass0 (pa_cons (pv 2) (pa_cons (pe_op op_add (pe_op op_add (pv 1) pe_int) (pv 0)) pa_nil))) pa_nil))))
      (pss_one (ps_ret (pe_tup (pa_cons (pe_call (G__law_name base) (hr.mono (by decide)) (by rfl) m__law_name k__law_name b__law_name .nil pass0 (pa_cons (pe_call (G__law_cell_at base) (hr.mono (by decide)) (by rfl) m__law_cell_at k__law_cell_at b__law_cell_at .nil pass0 (pa_cons (pv 0) (pa_cons (pe_op op_add (pv 1) pe_int) pa_nil))) pa_nil)) (pa_cons (pe_callTy (call_tuple_ofK K rfl) (by rfl) T.z_tuple PyProof.Rows.Boot.«tuple» (pa_cons (pv 3) pa_nil)) (pa_cons (pe_call (G__law_worth base) (hr.mono (by decide)) (by rfl) m__law_worth k__law_worth b__law_worth .nil pass0 (pa_cons (pe_call (G__law_cell_at base) (hr.mono (by decide)) (by rfl) m__law_cell_at k__law_cell_at b__law_cell_at .nil pass0 (pa_cons (pv 0) (pa_cons (pe_op op_add (pv 1) pe_int) pa_nil))) pa_nil)) pa_nil)))))))), ?_⟩
    refine ⟨_, rfl, _, rfl, a, ns, k, rfl, hS, k0, fun sz => ⟨_, _, rfl, rfl, (by show (0 : Int) < 7; decide), ?_⟩⟩
    refine ⟨_, rfl, _, rfl, (in62 (by omega) (by omega)).1, (in62 (by omega) (by omega)).2, fun l hl => ?_⟩
    refine comp_items (n := (sz % 7).toNat) 0 (fun _ y _ => ∃ z, y = .str z ∧ isPartS z = true) gives_range (fun _ _ _ _ _ h => h) hp hl (by show 0 < 3; decide) (line1000 (by omega)) (fun τ' => ∃ v, τ' = [v, some (.int k), some (.ref a)]) ⟨_, rfl⟩ ?_ ?_ ?_
    · rintro τ' v ⟨w, rfl⟩
      exact ⟨v, rfl⟩
    · rintro τ' j y H' R ⟨w, rfl⟩ hτ hit hj hs hp' hlne hR
      have ew : w = some y := by simpa using hτ
      subst ew hit
      exact ⟨_, rfl, _, rfl, _, _, rfl, rfl, _, rfl, _, _, rfl, rfl, a, ns, _, rfl, hs.seq hS, (by omega), fun v => ⟨_, rfl, fun z hz => hR _ _ (Same.refl _) hp' ⟨z, rfl, hz⟩⟩⟩
    · intro ys H2 hy hP s2 p2 hl2
      obtain ⟨zs, rfl, hz⟩ := strs_items hP
      rw [List.length_map] at hy
      refine ⟨_, rfl, _, rfl, _, _, rfl, rfl, a, ns, _, rfl, s2.seq hS, (by omega), fun v1 => ⟨_, rfl, fun nm hnm => ?_⟩⟩
      refine ⟨_, rfl, l, _, rfl, .inl ⟨SqL.of hl2, fun p hpn => ?_⟩⟩
      have s3 := Same.upd (o := .tup (zs.map V.str)) hpn
      refine ⟨_, rfl, _, rfl, _, _, rfl, rfl, a, ns, _, rfl, (s2.trans s3).seq hS, (by omega), fun v2 => ⟨_, rfl, fun wv wv0 wv1 => ?_⟩⟩
      refine ⟨line1000 (by show 3 ≤ 1000; decide), fun t ht => ?_⟩
      have s4 := Same.upd (o := .tup [.str nm, .ref p, .int wv]) ht
      have hpH : H p = none := s2.free hpn
      have htH : H t = none := (s2.trans s3).free ht
      refine q (nm, zs, wv) t _ (okRule_of hnm (by show zs.length ≤ 6; omega) hz wv0 wv1) ((s2.trans s3).trans s4) ((p2.upd rfl).upd rfl) ?_
      exact .tup (newIn_at htH upd_same) (.cons (.str _) (.cons (.tup (newIn_at hpH (s4 _ _ upd_same)) (Dens.strs zs)) (.cons (.int _) .nil)))
end
end FR


set_option linter.all false
set_option maxRecDepth 100000
set_option maxHeartbeats 4000000
namespace FR
open PySem L2

def codesW (ps : List Str) : List Nat := (ps.map fun p => 32 :: (showPartS p).cps.toList).flatten
theorem codesW_snoc (ps : List Str) (p : Str) : codesW (ps ++ [p]) = codesW ps ++ (32 :: (showPartS p).cps.toList) := by
  unfold codesW
  rw [List.map_append, List.flatten_append]
  show _ ++ ((32 :: (showPartS p).cps.toList) ++ []) = _
  rw [List.append_nil]
theorem join_tail (e : List Nat) : ∀ ps : List Str, joinC 32 (e :: ps.map fun p => (showPartS p).cps.toList) = e ++ codesW ps
  | [] => by
    show e = e ++ []
    rw [List.append_nil]
  | p :: ps => by
    show e ++ 32 :: joinC 32 ((showPartS p).cps.toList :: ps.map fun p => (showPartS p).cps.toList) = _
    rw [join_tail _ ps]
    rfl
theorem eq_list : (("=" : Str)).cps.toList = [61] := by decide +kernel
theorem beq_list : ((" =" : Str)).cps.toList = [32, 61] := by decide +kernel
theorem bq_list : ((" '" : Str)).cps.toList = [32, 39] := by decide +kernel
theorem b_list : ((" " : Str)).cps.toList = [32] := by decide +kernel
theorem text_codes (r : Rule) : (ruleText r).cps.toList = r.1.cps.toList ++ [32] ++ ((toString r.2.2 : String) : Str).cps.toList ++ [32, 61] ++ codesW r.2.1 := by
  unfold ruleText
  show (Builtin.Str.glued " " _).cps.toList = _
  rw [StrLaws.glued_eq_join, blank_eq, join_codes]
  show joinC 32 (r.1.cps.toList :: ((toString r.2.2 : String) : Str).cps.toList :: (("=" : Str)).cps.toList :: (r.2.1.map showPartS).map (·.cps.toList)) = _
  rw [List.map_map]
  show r.1.cps.toList ++ 32 :: (((toString r.2.2 : String) : Str).cps.toList ++ 32 :: joinC 32 ((("=" : Str)).cps.toList :: r.2.1.map fun p => (showPartS p).cps.toList)) = _
  rw [join_tail, eq_list]
  simp only [List.append_assoc, List.cons_append, List.nil_append]
theorem part_blank {p : Str} (h : isPartS p = true) : decide (Txt.slice p (some 1) none = " ") = decide (p = "' ") := by
  have key : Txt.slice p (some 1) none = " " ↔ p = "' " := by
    constructor
    · intro e
      unfold isPartS at h
      rw [Bool.or_eq_true] at h
      rcases h with h | h
      · obtain ⟨c, hc, hg⟩ := sign_codes h
        have hl : p.length = 2 := by
          show p.cps.size = 2
          rw [← Array.length_toList, hc]
          rfl
        have e2 := congrArg (fun z : Str => z.cps.toList) e
        rw [slice_from (by decide) (by rw [hl]; decide), hc, b_list] at e2
        have : c = 32 := by simpa using e2
        subst this
        exact str_eq (by rw [hc, qb_list])
      · have hn := h
        unfold isNameS at h
        rw [Bool.and_eq_true, Bool.and_eq_true] at h
        have h1 : 1 ≤ p.cps.size := of_decide_eq_true h.1.1
        have e2 := congrArg (fun z : Str => z.cps.toList) e
        rw [slice_from (by decide) (by show (1 : Int) ≤ (p.cps.size : Int); omega), b_list] at e2
        have m : 32 ∈ p.cps.toList := List.mem_of_mem_drop (by rw [e2]; exact List.mem_cons_self ..)
        exact absurd m (name_no32 hn)
    · intro e
      subst e
      apply str_eq
      rw [slice_from (by decide) (by decide +kernel), qb_list, b_list]
      rfl
  by_cases e : p = "' "
  · rw [decide_eq_true e, decide_eq_true (key.mpr e)]
  · rw [decide_eq_false e, decide_eq_false (fun z => e (key.mp z))]
theorem codesW_len {ps : List Str} (h : ∀ p ∈ ps, isPartS p = true) : (codesW ps).length ≤ 9 * ps.length := by
  induction ps with
  | nil => exact Nat.le_refl _
  | cons p ps ih =>
    have h1 := ih fun x hx => h x (List.mem_cons_of_mem _ hx)
    have h2 : (showPartS p).length ≤ 8 := showPart_len (h p (List.mem_cons_self ..))
    show (32 :: (showPartS p).cps.toList ++ codesW ps).length ≤ _
    rw [List.length_append, List.length_cons, Array.length_toList, List.length_cons]
    have : (showPartS p).cps.size ≤ 8 := h2
    omega
theorem text_len2 {r : Rule} (h : okRule r = true) : (ruleText r).length ≤ 130 := by
  have hw := ok_worth h
  have hps := ok_parts h
  have l1 : r.1.cps.size ≤ 8 := name_len8 (ok_head h)
  have l2 : ((toString r.2.2 : String) : Str).cps.size ≤ 61 := num_len hw.1 hw.2
  have h1 : (ruleText r).cps.toList.length = (ruleText r).length := Array.length_toList
  have h2 := codesW_len hps.2
  rw [text_codes] at h1
  simp only [List.length_append, Array.length_toList, List.length_cons, List.length_nil] at h1
  have h3 := hps.1
  omega
section
variable {P : Program} {w : World} {K : PySem.W.Frag} {mg : Str → Option Value} {base : Heap} {C : Adr}
theorem sc__law_written : FnScope ["_law_rule_here", "_law_text", "_law_part_here"] ["_law_rule_here"] (defScope s__law_written) := ⟨rfl, rfl, rfl, by decide +kernel, rfl, by decide +kernel, by decide +kernel⟩
theorem ok__law_written {f : Addr} {fd : FuncData} (F : Fun K "_law_written" "_law_written" s__law_written f fd) (T : Txt K mg C) : FnOk P w K mg base CX0 1 f fd ["_law_rule_here"] (spWritten) := by
  refine F.ok sc__law_written (fun vs H Q E h => ?_) (fun cdv A outer s H vs Q E hr h => ?_)
  · obtain ⟨x, r, rfl, _⟩ := h
    rfl
  · obtain ⟨x, r, rfl, den, hok, q⟩ := h
    obtain ⟨t, p, rfl, ht, hpp⟩ := den_rule den
    have hw := ok_worth hok
    have hps := ok_parts hok
    have hh := ok_head hok
    have l1 := name_len8 hh
    have l2 := num_len hw.1 hw.2
    have b1 : ((" " : Str)).length = 1 := by decide +kernel
    have b2 : ((" =" : Str)).length = 2 := by decide +kernel
    have b3 : ((" '" : Str)).length = 2 := by decide +kernel
    refine ⟨_, (pss_cons (ps_set (i := 1) sc__law_written.nd rfl (Or.inl rfl) (pe_op op_add_str (pe_op op_add_str (pe_op op_add_str (pe_ix (ix_tupK K rfl) (pv 0) pe_int (fun _ _ => rfl)) pe_str) (pe_callTy call_str_int (by rfl) T.z_str PyProof.Rows.Boot.«str» (pa_cons (pe_ix (ix_tupK K rfl) (pv 0) pe_int (fun _ _ => rfl)) pa_nil))) pe_str))
      (pss_cons (ps_for PassesOwn.never rfl (pi_tupK K rfl (pe_ix (ix_tupK K rfl) (pv 0) pe_int (fun _ _ => rfl))) (pg_name (i := 2) sc__law_written.nd rfl (Or.inl rfl)) (pss_one (ps_if (pt_cmpR op_eq (pe_slice sl_str (pv 2) (po_some pe_int) po_none) pe_str (nomark _)) (pss_one (ps_set (i := 1) sc__law_written.nd rfl (Or.inl rfl) (pe_op op_add_str (pv 1) pe_str))) (pss_one (ps_set (i := 1) sc__law_written.nd rfl (Or.inl rfl) (pe_op op_add_str (pe_op op_add_str (pv 1) pe_str) (pv 2)))))))
      (pss_one (ps_ret (pv 1))))), ?_⟩
    refine ⟨_, rfl, t, _, 0, _, rfl, rfl, SqT.of ht, rfl, r.1, " ", rfl, rfl, line1000 (by omega), _, rfl, t, _, 2, _, rfl, rfl, SqT.of ht, rfl, r.2.2, rfl, log_small hw.1 hw.2, _, _, rfl, rfl, line1000 (by rw [slen]; omega), _, " =", rfl, rfl, line1000 (by rw [slen, slen]; omega), ?_⟩
    refine ⟨_, rfl, t, _, 1, _, rfl, rfl, SqT.of ht, rfl, p, rfl, ⟨_, SqT.of hpp⟩, for_tup (K := K) (a := p) (xs := r.2.1.map V.str) (fun i σ H2 => H2 = H ∧ ∃ (z : Str) (v : Option V), σ = [some (.ref t), some (.str z), v] ∧ z.cps.toList = r.1.cps.toList ++ [32] ++ ((toString r.2.2 : String) : Str).cps.toList ++ [32, 61] ++ codesW (r.2.1.take i)) ⟨rfl, _, none, rfl, ?_⟩ ?_ ?_ ?_⟩
    · rw [app_list, app_list, app_list, b_list, beq_list]
      show _ = _ ++ []
      rw [List.append_nil]
    · rintro i σ H2 _ ⟨rfl, _⟩
      exact SqT.of hpp
    · rintro i y σ H2 hi ⟨rfl, z, v, rfl, hz⟩
      rw [List.getElem?_map] at hi
      cases e : r.2.1[i]? with
      | none => rw [e] at hi; cases hi
      | some s =>
        rw [e] at hi
        cases hi
        have hs := hps.2 s (List.mem_of_getElem? e)
        have hil : i < r.2.1.length := (List.getElem?_eq_some_iff.mp e).1
        have et : r.2.1.take (i + 1) = r.2.1.take i ++ [s] := by rw [List.take_add_one, e]; rfl
        have ls := part_len hs
        have lz : z.length ≤ 130 := by
          have h1 : z.cps.toList.length = z.length := Array.length_toList
          have h2 := codesW_len (ps := r.2.1.take i) fun x hx => hps.2 x (List.mem_of_mem_take hx)
          rw [List.length_take] at h2
          rw [hz] at h1
          simp only [List.length_append, Array.length_toList, List.length_cons, List.length_nil] at h1
          have l1' : r.1.cps.size ≤ 8 := l1
          have l2' : ((toString r.2.2 : String) : Str).cps.size ≤ 61 := l2
          omega
        refine ⟨_, rfl, _, rfl, s, rfl, line1000 (by omega), rfl, _, rfl, ?_⟩
        rw [dec_str, part_blank hs]
        refine ite2 (fun hc => ?_) fun hc => ?_
        · have hc' := of_decide_eq_true hc
          refine ⟨_, rfl, z, " '", rfl, rfl, line1000 (by omega), rfl, _, _, rfl, ?_⟩
          rw [app_list, hz, et, codesW_snoc, bq_list, hc']
          unfold showPartS
          rw [if_pos rfl, q_list, List.append_assoc]
        · have hc' : ¬ s = "' " := fun e => hc (decide_eq_true e)
          refine ⟨_, rfl, z, " ", rfl, rfl, line1000 (by omega), _, rfl, _, s, rfl, rfl, line1000 (by rw [slen]; omega), rfl, _, _, rfl, ?_⟩
          rw [app_list, app_list, hz, et, codesW_snoc, b_list]
          unfold showPartS
          rw [if_neg hc', List.append_assoc, List.append_assoc]
          rfl
    · rintro σ H2 ⟨rfl, z, v, rfl, hz⟩
      refine ⟨_, rfl, ?_⟩
      rw [List.length_map, List.take_length, ← text_codes] at hz
      rw [str_eq hz]
      exact q
theorem sc__law_alike : FnScope ["_law_found", "_law_due_here", "_law_part_here"] ["_law_found", "_law_due_here"] (defScope s__law_alike) := ⟨rfl, rfl, rfl, by decide +kernel, rfl, by decide +kernel, by decide +kernel⟩
theorem ok__law_alike {f : Addr} {fd : FuncData} (F : Fun K "_law_alike" "_law_alike" s__law_alike f fd) (T : Txt K mg C) : FnOk P w K mg base CX0 1 f fd ["_law_found", "_law_due_here"] (spAlike) := by
  refine F.ok sc__law_alike (fun vs H Q E h => ?_) (fun cdv A outer s H vs Q E hr h => ?_)
  · obtain ⟨x, y, r, rfl, _⟩ := h
    rfl
  · obtain ⟨x, y, r, rfl, den, den2, q⟩ := h
    have hU := hr.units
    obtain ⟨t, p, rfl, ht, hpp⟩ := den_rule den
    refine ⟨_, (pss_cons (ps_if (PW.pt (pw_or (pt_not (pt_val (pe_callB (call_isiK K rfl) (by rfl) T.z_isinstance PyProof.Rows.Boot.«isinstance» (pa_cons (pv 0) (pa_cons (pe_bltn (v := .ty "tuple") (by rfl) T.z_tuple PyProof.Rows.Boot.«tuple» rfl) pa_nil))))) (pw_or (pt_cmpR op_ne (pe_callB (call_len_seqK K rfl) (by rfl) T.z_len PyProof.Rows.Boot.«len» (pa_cons (pv 0) pa_nil)) pe_int (nomark _)) (pw_or1 (pt_not (pt_val (pe_callB (call_isiK K rfl) (by rfl) T.z_isinstance PyProof.Rows.Boot.«isinstance» (pa_cons (pe_ix (ix_tupK K rfl) (pv 0) pe_int (fun _ _ => rfl)) (pa_cons (pe_bltn (v := .ty "tuple") (by rfl) T.z_tuple PyProof.Rows.Boot.«tuple» rfl) pa_nil))))))))) (pss_one (ps_ret pe_bl)) pss_nil)
      (pss_cons (ps_if (PW.pt (pw_or (pt_not (pt_val (pe_callB (call_isiK K rfl) (by rfl) T.z_isinstance PyProof.Rows.Boot.«isinstance» (pa_cons (pe_ix (ix_tupK K rfl) (pv 0) pe_int (fun _ _ => rfl)) (pa_cons (pe_bltn (v := .ty "str") (by rfl) T.z_str PyProof.Rows.Boot.«str» rfl) pa_nil))))) (pw_or (pt_not (pt_val (pe_callB (call_isiK K rfl) (by rfl) T.z_isinstance PyProof.Rows.Boot.«isinstance» (pa_cons (pe_ix (ix_tupK K rfl) (pv 0) pe_int (fun _ _ => rfl)) (pa_cons (pe_bltn (v := .ty "int") (by rfl) T.z_int PyProof.Rows.Boot.«int» rfl) pa_nil))))) (pw_or1 (pt_val (pe_callB (call_isiK K rfl) (by rfl) T.z_isinstance PyProof.Rows.Boot.«isinstance» (pa_cons (pe_ix (ix_tupK K rfl) (pv 0) pe_int (fun _ _ => rfl)) (pa_cons (pe_bltn (v := .ty "bool") (by rfl) T.z_bool PyProof.Rows.Boot.«bool» rfl) pa_nil)))))))) (pss_one (ps_ret pe_bl)) pss_nil)
      (pss_cons (ps_for PassesOwn.never rfl (pi_tupK K rfl (pe_ix (ix_tupK K rfl) (pv 0) pe_int (fun _ _ => rfl))) (pg_name (i := 2) sc__law_alike.nd rfl (Or.inl rfl)) (pss_one (ps_if (pt_not (pt_val (pe_callB (call_isiK K rfl) (by rfl) T.z_isinstance PyProof.Rows.Boot.«isinstance» (pa_cons (pv 2) (pa_cons (pe_bltn (v := .ty "str") (by rfl) T.z_str PyProof.Rows.Boot.«str» rfl) pa_nil))))) (pss_one (ps_ret pe_bl)) pss_nil)))
      (pss_one (ps_ret (pe_cmpR (op_eq_deep K rfl hU) (pv 0) (pv 1) (nomark _))))))), ?_⟩
    refine ⟨_, rfl, _, _, _, _, _, rfl, den.ty, rfl, kit_tuple _, _, rfl, iteF ?_⟩
    refine ⟨_, rfl, t, _, rfl, .inr (SqT.of ht), rfl, _, rfl, iteF ?_⟩
    refine ⟨_, rfl, t, _, 1, _, rfl, rfl, SqT.of ht, rfl, _, _, _, _, _, rfl, .tup hpp, rfl, kit_tuple (.tup []), _, rfl, iteF ?_⟩
    refine ⟨_, rfl, t, _, 0, _, rfl, rfl, SqT.of ht, rfl, _, _, _, _, _, rfl, .str _, rfl, kit_str (.str r.1), _, rfl, iteF ?_⟩
    refine ⟨_, rfl, t, _, 2, _, rfl, rfl, SqT.of ht, rfl, _, _, _, _, _, rfl, .int _, rfl, kit_int (.int 0), _, rfl, iteF ?_⟩
    refine ⟨_, rfl, t, _, 2, _, rfl, rfl, SqT.of ht, rfl, _, _, _, _, _, rfl, .int _, rfl, kit_bool (.int 0), _, rfl, iteF ?_⟩
    refine ⟨_, rfl, t, _, 1, _, rfl, rfl, SqT.of ht, rfl, p, rfl, ⟨_, SqT.of hpp⟩, for_tup (K := K) (a := p) (xs := r.2.1.map V.str) (fun i σ H2 => H2 = H ∧ ∃ (v : Option V), σ = [some (.ref t), some y, v]) ⟨rfl, none, rfl⟩ ?_ ?_ ?_⟩
    · rintro i σ H2 _ ⟨rfl, _⟩
      exact SqT.of hpp
    · rintro i y σ H2 hi ⟨rfl, v, rfl⟩
      obtain ⟨z, _, rfl⟩ := List.mem_map.mp (List.mem_of_getElem? hi)
      refine ⟨_, rfl, _, _, _, _, _, rfl, .str _, rfl, kit_str (.str z), _, rfl, iteF ?_⟩
      exact ⟨rfl, _, rfl⟩
    · rintro σ H2 ⟨rfl, v, rfl⟩
      refine ⟨_, rfl, _, rfl, _, _, den, den2, ok_rule r, ok_rule r, Nat.le_trans (dep_rule r) (by decide), ?_⟩
      rw [eqD_refl _ (ok_rule r)]
      exact q
end
end FR


set_option linter.all false
set_option maxRecDepth 100000
set_option maxHeartbeats 4000000
namespace FR
open PySem L2

def spFig81 : Sp := fun vs H Q _ => ∃ z, vs = [.str z] ∧ z.length ≤ 1000 ∧ Q (.int (if isFigS z = true then valS z else -1)) H
def spIsName : Sp := fun vs H Q _ => ∃ z, vs = [.str z] ∧ z.length ≤ 1000 ∧ Q (.bl (isNameS z)) H
def okT (z : Str) : Prop := ∀ c ∈ z.cps.toList, c < 128 ∧ c ≠ 37
def spDue : Sp := fun vs H Q _ => ∃ z, vs = [.str z] ∧ z.length ≤ 1000 ∧ okT z ∧ Plain H ∧ (∀ r, ruleOfS z = some r → ∀ p H', Same H H' → Plain H' → Den H' p (ruleD r) → Q p H') ∧ (ruleOfS z = none → ∀ H', Same H H' → Plain H' → Q .non H')
theorem fig_mem (c : Nat) : decide (c ∈ (("0123456789" : Str)).cps.toList) = figC c := by
  have e : (("0123456789" : Str)).cps.toList = List.range' 48 10 := by decide +kernel
  rw [e, Bool.eq_iff_iff, decide_eq_true_eq, List.mem_range'_1]
  unfold figC
  simp only [Bool.and_eq_true, decide_eq_true_eq]
  omega
theorem let_mem (c : Nat) : decide (c ∈ (("ABCDEFGHIJKLMNOPQRSTUVWXYZ" : Str)).cps.toList) = letter c := by
  have e : (("ABCDEFGHIJKLMNOPQRSTUVWXYZ" : Str)).cps.toList = List.range' 65 26 := by decide +kernel
  rw [e, Bool.eq_iff_iff, decide_eq_true_eq, List.mem_range'_1]
  unfold letter
  simp only [Bool.and_eq_true, decide_eq_true_eq]
  omega
theorem figS_list (z : Str) : isFigS z = ((decide (1 ≤ z.cps.toList.length) && decide (z.cps.toList.length ≤ 61) && z.cps.toList.all figC) && (decide (z.cps.toList = [48]) || !decide (z.cps.toList[0]? = some 48))) := by
  unfold isFigS
  rw [starts_0, Array.length_toList]
  congr 2
  by_cases h : z = "0"
  · rw [decide_eq_true h, decide_eq_true (by rw [h, zero_list])]
  · rw [decide_eq_false h, decide_eq_false (fun e => h (str_eq (by rw [e, zero_list])))]
theorem take_snoc {α : Type} {l : List α} {i : Nat} {c : α} (h : l[i]? = some c) : l.take (i + 1) = l.take i ++ [c] := by rw [List.take_add_one, h]; rfl
theorem all_no {α : Type} {l : List α} {f : α → Bool} {c : α} (hm : c ∈ l) (hc : f c = false) : l.all f = false := by
  rw [List.all_eq_false]
  exact ⟨c, hm, by rw [hc]; exact Bool.false_ne_true⟩
theorem seq_rest {t u : TS} {D : Ends} {σ : St} {H : Hp} (M : St → Hp → Prop) (rest : ∀ σ' H', M σ' H' → u D σ' H') (h : (∀ σ' H', M σ' H' → u D σ' H') → t { D with nx := u D } σ H) : tSeq t u D σ H := h rest
theorem splitC_mem {c : Nat} : ∀ {l w : List Nat}, w ∈ splitC c l → (¬ c ∈ w) ∧ ∀ a ∈ w, a ∈ l
  | [], w, h => by
    have : w = [] := by simpa [splitC] using h
    subst this
    exact ⟨by simp, by simp⟩
  | a :: r, w, h => by
    rw [splitC] at h
    split at h
    · rcases List.mem_cons.mp h with rfl | h
      · exact ⟨by simp, by simp⟩
      · have ih := splitC_mem h
        exact ⟨ih.1, fun b hb => List.mem_cons_of_mem _ (ih.2 b hb)⟩
    · rename_i hne
      obtain ⟨w0, ws, e⟩ := splitC_ne c r
      rw [e] at h
      have h0 : w0 ∈ splitC c r := by rw [e]; exact List.mem_cons_self
      rcases List.mem_cons.mp h with rfl | h
      · have ih := splitC_mem h0
        refine ⟨fun m => ?_, fun b hb => ?_⟩
        · rcases List.mem_cons.mp m with m | m
          · exact hne m.symm
          · exact ih.1 m
        · rcases List.mem_cons.mp hb with rfl | hb
          · exact List.mem_cons_self
          · exact List.mem_cons_of_mem _ (ih.2 b hb)
      · have ih := splitC_mem (l := r) (by rw [e]; exact List.mem_cons_of_mem _ h)
        exact ⟨ih.1, fun b hb => List.mem_cons_of_mem _ (ih.2 b hb)⟩
theorem split_word {z w : Str} (h : w ∈ Txt.split z " ") : (¬ 32 ∈ w.cps.toList) ∧ ∀ a ∈ w.cps.toList, a ∈ z.cps.toList := by
  have e := split_one z 32 (by decide)
  rw [← blank_eq] at e
  have hm : w.cps.toList ∈ splitC 32 z.cps.toList := by rw [← e]; exact List.mem_map.mpr ⟨w, h, rfl⟩
  exact splitC_mem hm
theorem le_33 (c : Nat) : (!decide (([c] : List Nat) < (("!" : Str)).cps.toList)) = decide (33 ≤ c) := by
  have e : (("!" : Str)).cps.toList = [33] := by decide +kernel
  rw [e]
  by_cases h : 33 ≤ c
  · rw [decide_eq_true h, decide_eq_false (by rw [List.cons_lt_cons_iff]; simp; omega)]; rfl
  · rw [decide_eq_false h, decide_eq_true (by rw [List.cons_lt_cons_iff]; left; omega)]; rfl
theorem le_126 (c : Nat) : (!decide ((("~" : Str)).cps.toList < ([c] : List Nat))) = decide (c ≤ 126) := by
  have e : (("~" : Str)).cps.toList = [126] := by decide +kernel
  rw [e]
  by_cases h : c ≤ 126
  · rw [decide_eq_true h, decide_eq_false (by rw [List.cons_lt_cons_iff]; simp; omega)]; rfl
  · rw [decide_eq_false h, decide_eq_true (by rw [List.cons_lt_cons_iff]; left; omega)]; rfl
theorem q_eq : (("'" : Str)) = ⟨#[39]⟩ := by decide +kernel
theorem read_ne {w : Str} (h : w ≠ "'") : readPartS w = w := by unfold readPartS; rw [if_neg h]
theorem read_q : readPartS "'" = "' " := by unfold readPartS; rw [if_pos rfl]

theorem word_sign {w : Str} (h32 : ¬ 32 ∈ w.cps.toList) (h37 : ¬ 37 ∈ w.cps.toList) (hn : isNameS w = false) {a b : Nat} (e : w.cps.toList = [a, b]) : isPartS w = (decide (a = 39) && (decide (33 ≤ b) && decide (b ≤ 126))) := by
  unfold isPartS
  rw [hn, Bool.or_false]
  have h2 : w.cps.size = 2 := by rw [← Array.length_toList, e]; rfl
  have h0 : w.cps[0]? = some a := by rw [← Array.getElem?_toList, e]; rfl
  have h1 : w.cps.getD 1 0 = b := by rw [Array.getD_eq_getD_getElem?, ← Array.getElem?_toList, e]; rfl
  unfold isSignS good
  rw [h2, h0, h1]
  have b32 : b ≠ 32 := fun z => h32 (by rw [e, z]; simp)
  have b37 : b ≠ 37 := fun z => h37 (by rw [e, z]; simp)
  rw [decide_eq_false b37, Bool.eq_iff_iff]
  simp only [Bool.and_eq_true, decide_eq_true_eq, beq_iff_eq, Option.some.injEq, Bool.not_false, Bool.true_and, and_true, true_and]
  constructor
  · rintro ⟨h1, h3, h4⟩
    exact ⟨h1, by omega, h4⟩
  · rintro ⟨h1, h3, h4⟩
    exact ⟨h1, by omega, h4⟩
theorem word_len {w : Str} (hn : isNameS w = false) (h : w.length ≠ 2) : isPartS w = false := by
  unfold isPartS isSignS
  rw [hn, show (w.cps.size == 2) = false from beq_false_of_ne h]
  rfl
section
variable {P : Program} {w : World} {K : PySem.W.Frag} {mg : Str → Option Value} {base : Heap} {C : Adr}
theorem sc__law_figures : FnScope ["_law_word", "_law_sign_here"] ["_law_word"] (defScope s__law_figures) := ⟨rfl, rfl, rfl, by decide +kernel, rfl, by decide +kernel, by decide +kernel⟩
theorem ok__law_figures {f : Addr} {fd : FuncData} (F : Fun K "_law_figures" "_law_figures" s__law_figures f fd) (T : Txt K mg C) : FnOk P w K mg base CX0 1 f fd ["_law_word"] (spFig81) := by
  refine F.ok sc__law_figures (fun vs H Q E h => ?_) (fun cdv A outer s H vs Q E hr h => ?_)
  · obtain ⟨z, rfl, _⟩ := h
    rfl
  · obtain ⟨z, rfl, hl, q⟩ := h
    refine ⟨_, (pss_cons (ps_if (PW.pt (pw_or (pt_cmpR op_lt (pe_callB call_len_str (by rfl) T.z_len PyProof.Rows.Boot.«len» (pa_cons (pv 0) pa_nil)) pe_int (nomark _)) (pw_or (pt_cmpR op_gt (pe_callB call_len_str (by rfl) T.z_len PyProof.Rows.Boot.«len» (pa_cons (pv 0) pa_nil)) pe_int (nomark _)) (pw_or1 (PW.pt (pw_and (pt_cmpR op_eq (pe_ix ix_str (pv 0) pe_int (fun _ _ => rfl)) pe_str (nomark _)) (pw_and1 (pt_cmpR op_gt (pe_callB call_len_str (by rfl) T.z_len PyProof.Rows.Boot.«len» (pa_cons (pv 0) pa_nil)) pe_int (nomark _))))))))) (pss_one (ps_ret (pe_un un_neg pe_int))) pss_nil)
      (pss_cons (ps_for PassesOwn.never rfl (pi_str (pv 0)) (pg_name (i := 1) sc__law_figures.nd rfl (Or.inl rfl)) (pss_one (ps_if (pt_cmpR op_notin_str (pv 1) pe_str (by with_unfolding_all rfl)) (pss_one (ps_ret (pe_un un_neg pe_int))) pss_nil)))
      (pss_one (ps_ret (pe_callTy call_int_str (by rfl) T.z_int PyProof.Rows.Boot.«int» (pa_cons (pv 0) pa_nil)))))), ?_⟩
    have hzl := line1000 hl
    have hsz : z.cps.toList.length = z.length := Array.length_toList
    have qno : isFigS z = false → Q (.int (-1)) H := fun e => by rw [e, if_neg Bool.false_ne_true] at q; exact q
    have qyes : isFigS z = true → Q (.int (valS z)) H := fun e => by rw [e, if_pos rfl] at q; exact q
    rw [figS_list] at qno qyes
    have s0 : (("0" : Str)) = ⟨#[48]⟩ := by decide +kernel
    refine seq_rest (t := tIfS _ _ _) (fun σ' H' => σ' = [some (.str z), none] ∧ H' = H ∧ 1 ≤ z.length ∧ z.length ≤ 61 ∧ (decide (z.cps.toList = [48]) || !decide (z.cps.toList[0]? = some 48)) = true) ?_ fun rest => ?_
    · rintro σ' H' ⟨rfl, rfl, h1, h2, hb⟩
      have n1 : decide (1 ≤ z.cps.toList.length) = true := decide_eq_true (by omega)
      have n2 : decide (z.cps.toList.length ≤ 61) = true := decide_eq_true (by omega)
      rw [n1, n2, hb, Bool.true_and, Bool.true_and, Bool.and_true] at qno qyes
      refine ⟨_, rfl, z, rfl, for_str (x := z) (fun i σ H2 => H2 = H' ∧ ∃ v, σ = [some (.str z), v] ∧ (z.cps.toList.take i).all figC = true) ⟨rfl, none, rfl, rfl⟩ ?_ ?_⟩
      · rintro i c σ H2 hi ⟨rfl, v, rfl, hal⟩
        have hi' : z.cps.toList[i]? = some c := by rw [Array.getElem?_toList]; exact hi
        refine ⟨_, rfl, _, _, rfl, rfl, _, rfl, ?_⟩
        rw [StrLaws.found_one, fig_mem]
        cases hc : figC c with
        | false => exact iteT ⟨1, rfl, qno (all_no (List.mem_of_getElem? hi') hc)⟩
        | true => exact iteF ⟨rfl, _, rfl, by rw [take_snoc hi', List.all_append, hal, List.all_cons, hc]; rfl⟩
      · rintro σ H2 ⟨rfl, v, rfl, hal⟩
        rw [← Array.length_toList, List.take_length] at hal
        have hf : isFigS z = true := by rw [figS_list, n1, n2, hal, hb]; rfl
        obtain ⟨f1, f2⟩ := fig_reads hf
        exact ⟨_, rfl, z, _, rfl, f1, f2, qyes hal⟩
    · refine ⟨_, rfl, z, rfl, hzl, _, _, rfl, rfl, _, rfl, ite2 (fun h1 => ?_) fun h1 => ?_⟩
      · have h1' : ((z.length : Nat) : Int) < 1 := of_decide_eq_true h1
        exact iteT ⟨1, rfl, qno (by rw [decide_eq_false (by omega)]; rfl)⟩
      have h1' : ¬ ((z.length : Nat) : Int) < 1 := fun h => h1 (decide_eq_true h)
      refine ⟨_, rfl, z, rfl, hzl, _, _, rfl, rfl, _, rfl, ite2 (fun h2 => ?_) fun h2 => ?_⟩
      · have h2' : (61 : Int) < ((z.length : Nat) : Int) := of_decide_eq_true h2
        exact iteT ⟨1, rfl, qno (by rw [decide_eq_false (p := z.cps.toList.length ≤ 61) (by omega), Bool.and_false]; rfl)⟩
      have h2' : ¬ (61 : Int) < ((z.length : Nat) : Int) := fun h => h2 (decide_eq_true h)
      have e0 : z.cps.toList[0]? = some z.cps.toList[0] := List.getElem?_eq_getElem (by omega)
      have d0 : decide (V.str ⟨#[z.cps.toList[0]]⟩ = V.str "0") = decide (z.cps.toList[0]? = some 48) := by
        rw [dec_str, e0, s0]
        by_cases hc : z.cps.toList[0] = 48
        · rw [decide_eq_true (by rw [hc]), decide_eq_true (by rw [hc])]
        · rw [decide_eq_false (fun e => hc (by injection e with e; simpa using e)), decide_eq_false (fun e => hc (Option.some.inj e))]
      refine ⟨_, rfl, z, 0, _, rfl, rfl, hzl, atI_nat (j := 0) e0, rfl, _, rfl, ?_⟩
      rw [d0]
      refine ite2 (fun h3 => ?_) fun h3 => ?_
      · refine ⟨_, rfl, z, rfl, hzl, _, _, rfl, rfl, _, rfl, ite2 (fun h4 => ?_) fun h4 => ?_⟩
        · have h4' : (1 : Int) < ((z.length : Nat) : Int) := of_decide_eq_true h4
          refine ⟨1, rfl, qno ?_⟩
          rw [h3, decide_eq_false (p := z.cps.toList = [48]) (fun e => by rw [e] at hsz; have : 1 = z.length := hsz; omega)]
          show (_ && false) = false
          exact Bool.and_false _
        · have h4' : ¬ (1 : Int) < ((z.length : Nat) : Int) := fun h => h4 (decide_eq_true h)
          refine rest _ _ ⟨rfl, rfl, by omega, by omega, ?_⟩
          have h3' := of_decide_eq_true h3
          have : z.cps.toList = [48] := by
            match hm : z.cps.toList, h3' with
            | [c], h3' => simpa using h3'
            | c :: c2 :: r, _ =>
              rw [hm] at hsz
              simp at hsz
              omega
          rw [decide_eq_true this]
          rfl
      · refine rest _ _ ⟨rfl, rfl, by omega, by omega, ?_⟩
        rw [Bool.eq_false_iff.mpr h3, Bool.not_false, Bool.or_true]
theorem sc__law_is_name : FnScope ["_law_word", "_law_sign_here"] ["_law_word"] (defScope s__law_is_name) := ⟨rfl, rfl, rfl, by decide +kernel, rfl, by decide +kernel, by decide +kernel⟩
theorem ok__law_is_name {f : Addr} {fd : FuncData} (F : Fun K "_law_is_name" "_law_is_name" s__law_is_name f fd) (T : Txt K mg C) : FnOk P w K mg base CX0 1 f fd ["_law_word"] (spIsName) := by
  refine F.ok sc__law_is_name (fun vs H Q E h => ?_) (fun cdv A outer s H vs Q E hr h => ?_)
  · obtain ⟨z, rfl, _⟩ := h
    rfl
  · obtain ⟨z, rfl, hl, q⟩ := h
    refine ⟨_, (pss_cons (ps_if (PW.pt (pw_or (pt_cmpR op_lt (pe_callB call_len_str (by rfl) T.z_len PyProof.Rows.Boot.«len» (pa_cons (pv 0) pa_nil)) pe_int (nomark _)) (pw_or1 (pt_cmpR op_gt (pe_callB call_len_str (by rfl) T.z_len PyProof.Rows.Boot.«len» (pa_cons (pv 0) pa_nil)) pe_int (nomark _))))) (pss_one (ps_ret pe_bl)) pss_nil)
      (pss_cons (ps_for PassesOwn.never rfl (pi_str (pv 0)) (pg_name (i := 1) sc__law_is_name.nd rfl (Or.inl rfl)) (pss_one (ps_if (pt_cmpR op_notin_str (pv 1) pe_str (by with_unfolding_all rfl)) (pss_one (ps_ret pe_bl)) pss_nil)))
      (pss_one (ps_ret pe_bl)))), ?_⟩
    have hzl := line1000 hl
    have hsz : z.cps.toList.length = z.length := Array.length_toList
    rw [isName_list] at q
    unfold nameL at q
    have qno : (decide (1 ≤ z.cps.toList.length) && decide (z.cps.toList.length ≤ 8) && z.cps.toList.all letter) = false → Q (.bl false) H := fun e => by rw [e] at q; exact q
    refine seq_rest (t := tIfS _ _ _) (fun σ' H' => σ' = [some (.str z), none] ∧ H' = H ∧ 1 ≤ z.length ∧ z.length ≤ 8) ?_ fun rest => ?_
    · rintro σ' H' ⟨rfl, rfl, h1, h2⟩
      have n1 : decide (1 ≤ z.cps.toList.length) = true := decide_eq_true (by omega)
      have n2 : decide (z.cps.toList.length ≤ 8) = true := decide_eq_true (by omega)
      rw [n1, n2, Bool.true_and, Bool.true_and] at qno q
      refine ⟨_, rfl, z, rfl, for_str (x := z) (fun i σ H2 => H2 = H' ∧ ∃ v, σ = [some (.str z), v] ∧ (z.cps.toList.take i).all letter = true) ⟨rfl, none, rfl, rfl⟩ ?_ ?_⟩
      · rintro i c σ H2 hi ⟨rfl, v, rfl, hal⟩
        have hi' : z.cps.toList[i]? = some c := by rw [Array.getElem?_toList]; exact hi
        refine ⟨_, rfl, _, _, rfl, rfl, _, rfl, ?_⟩
        rw [StrLaws.found_one, let_mem]
        cases hc : letter c with
        | false => exact iteT (qno (all_no (List.mem_of_getElem? hi') hc))
        | true => exact iteF ⟨rfl, _, rfl, by rw [take_snoc hi', List.all_append, hal, List.all_cons, hc]; rfl⟩
      · rintro σ H2 ⟨rfl, v, rfl, hal⟩
        rw [← Array.length_toList, List.take_length] at hal
        rw [hal] at q
        exact q
    · refine ⟨_, rfl, z, rfl, hzl, _, _, rfl, rfl, _, rfl, ite2 (fun h1 => ?_) fun h1 => ?_⟩
      · have h1' : ((z.length : Nat) : Int) < 1 := of_decide_eq_true h1
        exact iteT (qno (by rw [decide_eq_false (by omega)]; rfl))
      have h1' : ¬ ((z.length : Nat) : Int) < 1 := fun h => h1 (decide_eq_true h)
      refine ⟨_, rfl, z, rfl, hzl, _, _, rfl, rfl, _, rfl, ite2 (fun h2 => ?_) fun h2 => ?_⟩
      · have h2' : (8 : Int) < ((z.length : Nat) : Int) := of_decide_eq_true h2
        exact qno (by rw [decide_eq_false (p := z.cps.toList.length ≤ 8) (by omega), Bool.and_false]; rfl)
      have h2' : ¬ (8 : Int) < ((z.length : Nat) : Int) := fun h => h2 (decide_eq_true h)
      exact rest _ _ ⟨rfl, rfl, by omega, by omega⟩
theorem sc__law_due : FnScope ["_law_text", "_law_words", "_law_worth_here", "_law_parts", "_law_word"] ["_law_text"] (defScope s__law_due) := ⟨rfl, rfl, rfl, by decide +kernel, rfl, by decide +kernel, by decide +kernel⟩
theorem ok__law_due {f : Addr} {fd : FuncData} (F : Fun K "_law_due" "_law_due" s__law_due f fd) (T : Txt K mg C) (U__law_figures : Used P w K mg CX0 1 "_law_figures" ["_law_word"] (spFig81)) (U__law_is_name : Used P w K mg CX0 1 "_law_is_name" ["_law_word"] (spIsName)) : FnOk P w K mg base CX0 2 f fd ["_law_text"] (spDue) := by
  obtain ⟨f__law_figures, fd__law_figures, G__law_figures, m__law_figures, k__law_figures, b__law_figures⟩ := U__law_figures.ok
  obtain ⟨f__law_is_name, fd__law_is_name, G__law_is_name, m__law_is_name, k__law_is_name, b__law_is_name⟩ := U__law_is_name.ok
  refine F.ok sc__law_due (fun vs H Q E h => ?_) (fun cdv A outer s H vs Q E hr h => ?_)
  · obtain ⟨z, rfl, _⟩ := h
    rfl
  · obtain ⟨z, rfl, hl, hz37, hp, q1, q2⟩ := h
    refine qex ?_
    refine ⟨_, (qss_cons ⟨(ps_set (i := 1) sc__law_due.nd rfl (Or.inl rfl) (pe_bmK K rfl PySem.F.plainAttrs_str PySem.F.slot_str_split PySem.F.type_str_split mt_str_split (pv 0) (pa_cons pe_str pa_nil)))⟩
      (qss_cons ⟨(ps_if (PW.pt (pw_or (pt_cmpR op_lt (pe_callB (call_len_seqK K rfl) (by rfl) T.z_len PyProof.Rows.Boot.«len» (pa_cons (pv 1) pa_nil)) pe_int (nomark _)) (pw_or (pt_cmpR op_gt (pe_callB (call_len_seqK K rfl) (by rfl) T.z_len PyProof.Rows.Boot.«len» (pa_cons (pv 1) pa_nil)) pe_int (nomark _)) (pw_or (pt_not (pt_val (pe_call (G__law_is_name base) (hr.mono (by decide)) (by rfl) m__law_is_name k__law_is_name b__law_is_name .nil pass0 (pa_cons (pe_ix (ix_listK K rfl) (pv 1) pe_int (fun _ _ => rfl)) pa_nil)))) (pw_or1 (pt_cmpR op_ne (pe_ix (ix_listK K rfl) (pv 1) pe_int (fun _ _ => rfl)) pe_str (nomark _))))))) (pss_one (ps_ret pe_non)) pss_nil)⟩
      (qss_cons ⟨(ps_set (i := 2) sc__law_due.nd rfl (Or.inl rfl) (pe_call (G__law_figures base) (hr.mono (by decide)) (by rfl) m__law_figures k__law_figures b__law_figures .nil pass0 (pa_cons (pe_ix (ix_listK K rfl) (pv 1) pe_int (fun _ _ => rfl)) pa_nil)))⟩
      (qss_cons ⟨(ps_if (PW.pt (pw_or (pt_cmpR op_lt (pv 2) pe_int (nomark _)) (pw_or1 (pt_cmpR op_gt (pv 2) (pe_op op_pow pe_int pe_int) (nomark _))))) (pss_one (ps_ret pe_non)) pss_nil)⟩
      (qss_cons (qs_set (i := 3) sc__law_due.nd rfl (Or.inl rfl) (qe_lst qa_nil))
      (qss_cons ⟨(ps_for PassesOwn.never rfl (pi_listK K rfl (pe_slice (sl_listK K rfl) (pv 1) (po_some pe_int) po_none)) (pg_name (i := 4) sc__law_due.nd rfl (Or.inl rfl)) (pss_one (ps_if (pt_cmpR op_eq (pv 4) pe_str (nomark _)) (pss_one (ps_expr (pe_bmK K rfl PySem.F.plainAttrs_list PySem.F.slot_list_append PySem.F.type_list_append mt_append (pv 3) (pa_cons pe_str pa_nil)))) (pss_one (ps_if (PW.pt (pw_or (pt_val (pe_call (G__law_is_name base) (hr.mono (by decide)) (by rfl) m__law_is_name k__law_is_name b__law_is_name .nil pass0 (pa_cons (pv 4) pa_nil))) (pw_or1 (PW.pt (pw_and (pt_cmpR op_eq (pe_callB call_len_str (by rfl) T.z_len PyProof.Rows.Boot.«len» (pa_cons (pv 4) pa_nil)) pe_int (nomark _)) (pw_and (pt_cmpR op_eq (pe_ix ix_str (pv 4) pe_int (fun _ _ => rfl)) pe_str (nomark _)) (pw_and1 (pt_chain op_le_str op_le_str pe_str (pe_ix ix_str (pv 4) pe_int (fun _ _ => rfl)) pe_str)))))))) (pss_one (ps_expr (pe_bmK K rfl PySem.F.plainAttrs_list PySem.F.slot_list_append PySem.F.type_list_append mt_append (pv 3) (pa_cons (pv 4) pa_nil)))) (pss_one (ps_ret pe_non)))))))⟩
      (qss_one ⟨(ps_ret (pe_tup (pa_cons (pe_ix (ix_listK K rfl) (pv 1) pe_int (fun _ _ => rfl)) (pa_cons (pe_callTy (call_tuple_ofK K rfl) (by rfl) T.z_tuple PyProof.Rows.Boot.«tuple» (pa_cons (pv 3) pa_nil)) (pa_cons (pv 2) pa_nil)))))⟩))))))), ?_⟩
    refine ⟨_, rfl, rfl, z, " ", rfl, rfl, rfl, (by rw [sizeLine_eq]; omega), fun l hl0 => ?_⟩
    have q1 : ∀ r, ruleOfW (Txt.split z " ") = some r → ∀ p H', Same H H' → Plain H' → Den H' p (ruleD r) → Q p H' := q1
    have q2 : ruleOfW (Txt.split z " ") = none → ∀ H', Same H H' → Plain H' → Q .non H' := q2
    have hws : ∀ a ∈ Txt.split z " ", a.length ≤ z.length := fun a ha => PyProof.Rows.part_short ha
    have hwd : ∀ a ∈ Txt.split z " ", (¬ 32 ∈ a.cps.toList) ∧ ¬ 37 ∈ a.cps.toList := fun a ha => ⟨(split_word ha).1, fun m => (hz37 37 ((split_word ha).2 37 m)).2 rfl⟩
    have hwl : (Txt.split z " ").length ≤ z.length + 2 := split_len z " "
    have s1 := Same.upd (o := .lst ((Txt.split z " ").map V.str)) hl0
    have el : upd H l (.lst ((Txt.split z " ").map V.str)) l = some (.lst ((Txt.split z " ").map V.str)) := upd_same
    have p1 : Plain (upd H l (.lst ((Txt.split z " ").map V.str))) := hp.upd rfl
    revert s1 el p1 q1 q2 hws hwd hwl
    generalize upd H l (.lst ((Txt.split z " ").map V.str)) = H1
    generalize Txt.split z " " = ws
    intro q1 q2 hws hwd hwl s1 el p1
    refine ⟨_, rfl, l, _, rfl, .inl (SqL.of el), _, _, rfl, rfl, _, rfl, ?_⟩
    match ws, q1, q2, hws, hwd, hwl, el with
    | [], q1, q2, hws, hwd, hwl, el => exact iteT (iteT (q2 rfl _ s1 p1))
    | [_], q1, q2, hws, hwd, hwl, el => exact iteT (iteT (q2 rfl _ s1 p1))
    | [_, _], q1, q2, hws, hwd, hwl, el => exact iteT (iteT (q2 rfl _ s1 p1))
    | h :: n :: e :: ps, q1, q2, hws, hwd, hwl, el =>
      have e3 : decide ((((h :: n :: e :: ps).map V.str).length : Int) < 3) = false := decide_eq_false (by rw [List.length_map]; simp; omega)
      rw [e3]
      refine iteF ?_
      have hh := hws h (by simp)
      have hpl : ps.length ≤ z.length := by simp only [List.length_cons] at hwl; omega
      have hn := hws n (by simp)
      have noOk : okRule (h, ps.map readPartS, valS n) = false → Q .non H1 := fun e2 => q2 (by
        show (if (isFigS n && decide (e = "=")) = true then (if okRule (h, ps.map readPartS, valS n) = true then some _ else none) else none) = none
        rw [e2]
        split <;> rfl) _ s1 p1
      refine ⟨_, rfl, l, _, rfl, .inl (SqL.of el), _, _, rfl, rfl, _, rfl, ite2 (fun h9 => ?_) fun h9 => ?_⟩
      · have h9' : (9 : Int) < (((h :: n :: e :: ps).map V.str).length : Int) := of_decide_eq_true h9
        rw [List.length_map] at h9'
        simp only [List.length_cons] at h9'
        refine iteT (noOk ?_)
        unfold okRule
        rw [show decide ((ps.map readPartS).length ≤ 6) = false from decide_eq_false (by rw [List.length_map]; omega), Bool.false_and, Bool.false_and, Bool.and_false]
      have h9' : ¬ (9 : Int) < (((h :: n :: e :: ps).map V.str).length : Int) := fun z => h9 (decide_eq_true z)
      rw [List.length_map] at h9'
      simp only [List.length_cons] at h9'
      have hp6 : ps.length ≤ 6 := by omega
      refine ⟨_, rfl, l, _, 0, _, rfl, rfl, SqL.of el, atI_nat (j := 0) rfl, h, rfl, by omega, _, rfl, ite2 (fun hf => ?_) fun hf => ?_⟩
      · have hf' := bool_false hf
        refine iteT (noOk ?_)
        unfold okRule
        rw [show isNameS (h, ps.map readPartS, valS n).1 = false from hf', Bool.false_and]
      have hnm := bool_true hf
      refine ⟨_, rfl, l, _, 2, _, rfl, rfl, SqL.of el, atI_nat (j := 2) rfl, rfl, _, rfl, ?_⟩
      rw [dec_str]
      refine ite2 (fun he => ?_) fun he => ?_
      · have he' : decide (e = "=") = false := bool_false he
        refine q2 ?_ _ s1 p1
        show (if (isFigS n && decide (e = "=")) = true then _ else none) = none
        rw [he', Bool.and_false]
        rfl
      have he' : decide (e = "=") = true := bool_true he
      refine ⟨_, rfl, l, _, 1, _, rfl, rfl, SqL.of el, atI_nat (j := 1) rfl, n, rfl, by omega, ?_⟩
      cases hfig : isFigS n with
      | false =>
        refine ⟨_, rfl, _, _, rfl, rfl, _, rfl, iteT (iteT ?_)⟩
        refine q2 ?_ _ s1 p1
        show (if (isFigS n && decide (e = "=")) = true then _ else none) = none
        rw [hfig]
        rfl
      | true =>
        have v0 : 0 ≤ valS n := Int.natCast_nonneg _
        have ev : ruleOfW (h :: n :: e :: ps) = if okRule (h, ps.map readPartS, valS n) = true then some (h, ps.map readPartS, valS n) else none := by
          show (if (isFigS n && decide (e = "=")) = true then _ else _) = _
          rw [hfig, he']
          rfl
        refine ⟨_, rfl, _, _, rfl, rfl, _, rfl, ?_⟩
        rw [if_pos rfl]
        refine ite2 (fun hlt => absurd (of_decide_eq_true hlt) (by omega)) fun _ => ?_
        refine ⟨_, rfl, _, _, rfl, rfl, ⟨by decide, by decide, by decide⟩, _, _, rfl, rfl, _, rfl, ite2 (fun hbig => ?_) fun hbig => ?_⟩
        · have hb' : (10 : Int) ^ 60 < valS n := of_decide_eq_true hbig
          refine noOk ?_
          unfold okRule
          rw [show decide ((h, ps.map readPartS, valS n).2.2 ≤ 10 ^ 60) = false from decide_eq_false (by show ¬ valS n ≤ 10 ^ 60; omega), Bool.and_false, Bool.and_false, Bool.and_false]
        have hb' : ¬ (10 : Int) ^ 60 < valS n := fun z => hbig (decide_eq_true z)
        refine ⟨Nat.zero_le _, fun lp hlp => ?_⟩
        have sp := Same.upd (o := .lst []) hlp
        refine ⟨_, rfl, 3, rfl, l, _, rfl, SqL.of (sp _ _ el), fun l3 hl3 => ?_⟩
        rw [cut_drop3]
        show ∃ a, V.ref l3 = .ref a ∧ _
        have nlp : lp ≠ l3 := fun z => by rw [← z, upd_same] at hl3; cases hl3
        have nl : l ≠ lp := fun z => by rw [← z, el] at hlp; cases hlp
        refine ⟨l3, rfl, ⟨_, SqL.of upd_same⟩, for_list (K := K) (a := l3) (xs := ps.map V.str) (fun i σ H2 => ∃ v4, σ = [some (.str z), some (.ref l), some (.int (valS n)), some (.ref lp), v4] ∧ H2 lp = some (.lst (((ps.take i).map readPartS).map V.str)) ∧ H2 l3 = some (.lst (ps.map V.str)) ∧ Same H1 H2 ∧ Plain H2 ∧ (ps.take i).all (fun w => isPartS (readPartS w)) = true) ⟨none, rfl, by rw [upd_ne nlp]; exact upd_same, upd_same, sp.trans (Same.upd hl3), (p1.upd rfl).upd rfl, rfl⟩ ?_ ?_ ?_⟩
        · rintro i σ H2 _ ⟨v4, rfl, _, h3, _⟩
          exact SqL.of h3
        · rintro i y σ H2 hi ⟨v4, rfl, hlp2, hl32, s2, p2, hall⟩
          rw [List.getElem?_map] at hi
          cases ew : ps[i]? with
          | none => rw [ew] at hi; cases hi
          | some w =>
            rw [ew] at hi
            cases hi
            have hwm := List.mem_of_getElem? ew
            have hwin : w ∈ h :: n :: e :: ps := by simp [hwm]
            have hwlen := hws w hwin
            have hwd' := hwd w hwin
            have hil : i < ps.length := (List.getElem?_eq_some_iff.mp ew).1
            have bad : isPartS (readPartS w) = false → Q .non H2 := fun eb => q2 (by
              rw [ev]
              have : okRule (h, ps.map readPartS, valS n) = false := by
                unfold okRule
                rw [show ((h, ps.map readPartS, valS n) : Rule).2.1.all isPartS = false from all_no (List.mem_map.mpr ⟨w, hwm, rfl⟩) eb, Bool.and_false, Bool.false_and, Bool.and_false]
              rw [this]
              rfl) _ (s1.trans s2) p2
            have lenL : (((ps.take i).map readPartS).map V.str).length < sizeLine := by
              rw [List.length_map, List.length_map, List.length_take, sizeLine_eq]
              omega
            have next : ∀ x : Str, x = readPartS w → isPartS x = true → ∀ H3, H3 = upd H2 lp (.lst (((ps.take i).map readPartS).map V.str ++ [.str x])) → ∃ v4', ([some (.str z), some (.ref l), some (.int (valS n)), some (.ref lp), some (.str w)] : St) = [some (.str z), some (.ref l), some (.int (valS n)), some (.ref lp), v4'] ∧ H3 lp = some (.lst (((ps.take (i + 1)).map readPartS).map V.str)) ∧ H3 l3 = some (.lst (ps.map V.str)) ∧ Same H1 H3 ∧ Plain H3 ∧ (ps.take (i + 1)).all (fun w => isPartS (readPartS w)) = true := fun x ex hx H3 e3 => by
              subst e3 ex
              refine ⟨_, rfl, ?_, by rw [upd_ne nlp.symm]; exact hl32, s2.put hlp, p2.upd rfl, ?_⟩
              · rw [upd_same, take_snoc ew, List.map_append, List.map_append]
                rfl
              · rw [take_snoc ew, List.all_append, hall, List.all_cons, hx]
                rfl
            refine ⟨_, rfl, rfl, _, rfl, ?_⟩
            rw [dec_str]
            refine ite2 (fun hq => ?_) fun hq => ?_
            · have hq' := of_decide_eq_true hq
              refine ⟨_, rfl, .inl ⟨rfl, _, SqL.of hlp2⟩, lp, _, _, rfl, rfl, hlp2, lenL, ?_⟩
              exact next "' " (by rw [hq', read_q]) blank_part _ rfl
            have hq' : w ≠ "'" := fun z => hq (decide_eq_true z)
            have er : readPartS w = w := read_ne hq'
            rw [er] at bad
            refine ⟨_, rfl, w, rfl, by omega, _, rfl, ite2 (fun hnw => ?_) fun hnw => ?_⟩
            · refine iteT ⟨_, rfl, .inl ⟨rfl, _, SqL.of hlp2⟩, _, rfl, lp, _, _, rfl, rfl, hlp2, lenL, ?_⟩
              exact next w er.symm (by unfold isPartS; rw [hnw, Bool.or_true]) _ rfl
            have hnw' : isNameS w = false := Bool.eq_false_iff.mpr hnw
            have hw1 : w.length ≤ sizeLine := line1000 (by omega)
            refine ⟨_, rfl, w, rfl, hw1, rfl, _, rfl, ite2 (fun h2 => ?_) fun h2 => ?_⟩
            · have h2' : w.length = 2 := by
                have := of_decide_eq_true h2
                injection this with this
                omega
              obtain ⟨a, b, eab⟩ : ∃ a b, w.cps.toList = [a, b] := by
                have hsz : w.cps.toList.length = 2 := by rw [Array.length_toList]; exact h2'
                match hm : w.cps.toList, hsz with
                | [a, b], _ => exact ⟨a, b, rfl⟩
              have hsgn := word_sign hwd'.1 hwd'.2 hnw' eab
              refine ⟨_, rfl, w, 0, a, rfl, rfl, hw1, (by rw [eab]; rfl), rfl, _, rfl, ?_⟩
              rw [dec_str, q_eq]
              have d39 : decide ((⟨#[a]⟩ : Str) = ⟨#[39]⟩) = decide (a = 39) := by
                by_cases hc : a = 39
                · rw [decide_eq_true (by rw [hc]), decide_eq_true hc]
                · rw [decide_eq_false (fun e => hc (by injection e with e; simpa using e)), decide_eq_false hc]
              rw [d39]
              refine ite2 (fun h39 => ?_) fun h39 => ?_
              · rw [h39, Bool.true_and] at hsgn
                refine ⟨_, rfl, w, 1, b, rfl, rfl, hw1, (by rw [eab]; rfl), _, _, rfl, rfl, _, rfl, ?_⟩
                rw [le_33]
                refine ite2 (fun h33 => ?_) fun h33 => ?_
                · rw [h33, Bool.true_and] at hsgn
                  refine ⟨_, _, rfl, rfl, _, rfl, ?_⟩
                  rw [le_126]
                  refine ite2 (fun h126 => ?_) fun h126 => ?_
                  · refine ⟨_, rfl, .inl ⟨rfl, _, SqL.of hlp2⟩, _, rfl, lp, _, _, rfl, rfl, hlp2, lenL, ?_⟩
                    exact next w er.symm (by rw [hsgn]; exact h126) _ rfl
                  · exact bad (by rw [hsgn]; exact Bool.eq_false_iff.mpr h126)
                · refine ⟨_, rfl, iteF ?_⟩
                  exact bad (by rw [hsgn, Bool.eq_false_iff.mpr h33]; rfl)
              · refine iteF ?_
                exact bad (by rw [hsgn, Bool.eq_false_iff.mpr h39]; rfl)
            · have h2' : w.length ≠ 2 := fun z => h2 (decide_eq_true (by rw [z]; rfl))
              refine iteF ?_
              exact bad (word_len hnw' h2')
        · rintro σ H2 ⟨v4, rfl, hlp2, hl32, s2, p2, hall⟩
          rw [List.length_map, List.take_length] at hlp2 hall
          have el2 := s2 _ _ el
          refine ⟨_, rfl, l, _, 0, _, rfl, rfl, SqL.of el2, atI_nat (j := 0) rfl, _, rfl, lp, _, rfl, .inl ⟨SqL.of hlp2, fun t1 ht1 => ?_⟩⟩
          refine ⟨_, rfl, line1000 (by show 3 ≤ 1000; decide), fun t2 ht2 => ?_⟩
          have u1 := Same.upd (o := .tup ((ps.map readPartS).map V.str)) ht1
          have u2 := Same.upd (o := .tup [.str h, .ref t1, .int (valS n)]) ht2
          have hok : okRule (h, ps.map readPartS, valS n) = true := by
            unfold okRule
            rw [show isNameS ((h, ps.map readPartS, valS n) : Rule).1 = true from hnm, show ((h, ps.map readPartS, valS n) : Rule).2.1.all isPartS = true from by rw [List.all_map]; exact hall]
            rw [decide_eq_true (show ((h, ps.map readPartS, valS n) : Rule).2.1.length ≤ 6 by show (ps.map readPartS).length ≤ 6; rw [List.length_map]; exact hp6), decide_eq_true (show 0 ≤ ((h, ps.map readPartS, valS n) : Rule).2.2 from v0), decide_eq_true (show ((h, ps.map readPartS, valS n) : Rule).2.2 ≤ 10 ^ 60 by show valS n ≤ 10 ^ 60; omega)]
            rfl
          rw [hok] at ev
          refine q1 _ ev _ _ ((s1.trans s2).trans (u1.trans u2)) ((p2.upd rfl).upd rfl) ?_
          exact .tup upd_same (.cons (.str _) (.cons (.tup (u2 _ _ upd_same) (Dens.strs _)) (.cons (.int _) .nil)))
end
end FR


set_option linter.all false
set_option maxRecDepth 100000
set_option maxHeartbeats 4000000
namespace FR
open PySem L2
theorem nd_K81b__law_word__law_rule_here__law_tail : (["_law_word", "_law_rule_here", "_law_tail"] : List Str).Nodup := by decide +kernel
def spSpoilt : Sp := fun vs H Q _ => ∃ (z : Str) (c : Int), vs = [.str z, .int c] ∧ z.length ≤ 400 ∧ okT z ∧ ∀ y, okT y → y.length ≤ 2 * z.length + 1 → Q (.str y) H
def spOdd : Sp := fun vs H Q _ => ∃ (x : V) (r : Rule), vs = [x] ∧ Den H x (ruleD r) ∧ okRule r = true ∧ Plain H ∧ ∀ (l : Addr) (zs : List Str) (H' : Hp), (∀ z ∈ zs, okT z ∧ z.length ≤ 100) → zs.length ≤ 30 → Same H H' → Plain H' → H l = none → H' l = some (.lst (zs.map V.str)) → Q (.ref l) H'
def spRefused : Sp := fun vs H Q _ => ∃ (x : V) (d : D), vs = [x] ∧ Den H x d ∧ d.short = true ∧ Plain H ∧ ruleOfD d = none ∧ ∀ H', Same H H' → Plain H' → Q (.bl true) H'
def spRight : Sp := fun vs H Q _ => ∃ (z : Str), vs = [.str z] ∧ z.length ≤ 1000 ∧ okT z ∧ Plain H ∧ ∀ H', Same H H' → Plain H' → Q (.bl true) H'
theorem okT_app {x y : Str} (hx : okT x) (hy : okT y) : okT (x ++ y) := fun c hc => by
  rw [app_list, List.mem_append] at hc
  exact hc.elim (hx c) (hy c)
theorem okT_slice {x : Str} {a b : Option Int} (hx : okT x) : okT (Txt.slice x a b) := slice_all hx
theorem okT_of {z : Str} (h : z.cps.toList.all (fun c => decide (c < 128) && !decide (c = 37)) = true) : okT z := fun c hc => by
  have := List.all_eq_true.mp h c hc
  simp only [Bool.and_eq_true, decide_eq_true_eq, Bool.not_eq_true', decide_eq_false_iff_not] at this
  exact this
theorem okT_name {z : Str} (h : isNameS z = true) : okT z := fun c hc => by
  unfold isNameS at h
  rw [Bool.and_eq_true] at h
  have := List.all_eq_true.mp h.2 c hc
  unfold letter at this
  simp only [Bool.and_eq_true, decide_eq_true_eq] at this
  omega
def odd13 : List Str := ["00", "01", "-1", "+1", "", " ", (toString ((10 : Int) ^ 60 + 1) : String), (toString ((10 : Int) ^ 61) : String), Txt.mul "1" 62, "1_0", "0x1", "1.0", "A"]
theorem odd13_ok : ∀ z ∈ odd13, okT z ∧ z.length ≤ 62 := by
  intro z hz
  unfold odd13 at hz
  simp only [List.mem_cons, List.not_mem_nil, or_false] at hz
  rcases hz with rfl | rfl | rfl | rfl | rfl | rfl | rfl | rfl | rfl | rfl | rfl | rfl | rfl
  · exact ⟨okT_of (by decide +kernel), by decide +kernel⟩
  · exact ⟨okT_of (by decide +kernel), by decide +kernel⟩
  · exact ⟨okT_of (by decide +kernel), by decide +kernel⟩
  · exact ⟨okT_of (by decide +kernel), by decide +kernel⟩
  · exact ⟨okT_of (by decide +kernel), by decide +kernel⟩
  · exact ⟨okT_of (by decide +kernel), by decide +kernel⟩
  · exact ⟨okT_of (by rw [num_codes (by decide)]; decide +kernel), PyProof.Rows.toString_length_le (by decide) (by decide) (by decide)⟩
  · exact ⟨okT_of (by rw [num_codes (by decide)]; decide +kernel), PyProof.Rows.toString_length_le (by decide) (by decide) (by decide)⟩
  · exact ⟨okT_of (by decide +kernel), by decide +kernel⟩
  · exact ⟨okT_of (by decide +kernel), by decide +kernel⟩
  · exact ⟨okT_of (by decide +kernel), by decide +kernel⟩
  · exact ⟨okT_of (by decide +kernel), by decide +kernel⟩
  · exact ⟨okT_of (by decide +kernel), by decide +kernel⟩
def odd9 : List Str := ["", " ", "S", "S 0", "S 0 ", "S 0 = ", "S 0  = 'a", " S 0 =", "S = 0"]
theorem odd9_ok : ∀ z ∈ odd9, okT z ∧ z.length ≤ 62 := by
  intro z hz
  unfold odd9 at hz
  simp only [List.mem_cons, List.not_mem_nil, or_false] at hz
  rcases hz with rfl | rfl | rfl | rfl | rfl | rfl | rfl | rfl | rfl
  all_goals exact ⟨okT_of (by decide +kernel), by decide +kernel⟩
theorem seq_setV {u : TS} {D : Ends} {σ : St} {H : Hp} {v : V} {i : Nat} (h : u D (σ.set i (some v)) H) : tSeq (tAsg (tC v) (gName i)) u D σ H := h
section
variable {P : Program} {w : World} {K : PySem.W.Frag} {mg : Str → Option Value} {base : Heap} {C : Adr}
theorem sc__law_spoilt : FnScope ["_law_text", "_law_cell", "_law_signs", "_law_at", "_law_more"] ["_law_text", "_law_cell"] (defScope s__law_spoilt) := ⟨rfl, rfl, rfl, by decide +kernel, rfl, by decide +kernel, by decide +kernel⟩
theorem ok__law_spoilt {f : Addr} {fd : FuncData} (F : Fun K "_law_spoilt" "_law_spoilt" s__law_spoilt f fd) (T : Txt K mg C) : FnOk P w K mg base CX0 1 f fd ["_law_text", "_law_cell"] (spSpoilt) := by
  refine F.ok sc__law_spoilt (fun vs H Q E h => ?_) (fun cdv A outer s H vs Q E hr h => ?_)
  · obtain ⟨z, c, rfl, _⟩ := h
    rfl
  · obtain ⟨z, c, rfl, hl, hz, q⟩ := h
    refine ⟨_, (pss_cons (ps_set (i := 2) sc__law_spoilt.nd rfl (Or.inl rfl) pe_str)
      (pss_cons (ps_set (i := 3) sc__law_spoilt.nd rfl (Or.inl rfl) (pe_op op_mod (pe_op op_fdiv (pv 1) pe_int) (pe_op op_add (pe_callB call_len_str (by rfl) T.z_len PyProof.Rows.Boot.«len» (pa_cons (pv 0) pa_nil)) pe_int)))
      (pss_cons (ps_set (i := 4) sc__law_spoilt.nd rfl (Or.inl rfl) (pe_ix ix_str (pv 2) (pe_op op_mod (pe_op op_fdiv (pv 1) pe_int) pe_int) (fun _ _ => rfl)))
      (pss_cons (ps_if (pt_cmpR op_eq (pe_op op_mod (pv 1) pe_int) pe_int (nomark _)) (pss_one (ps_ret (pe_op op_add_str (pe_slice sl_str (pv 0) po_none (po_some (pv 3))) (pe_slice sl_str (pv 0) (po_some (pe_op op_add (pv 3) pe_int)) po_none)))) pss_nil)
      (pss_cons (ps_if (pt_cmpR op_eq (pe_op op_mod (pv 1) pe_int) pe_int (nomark _)) (pss_one (ps_ret (pe_op op_add_str (pe_op op_add_str (pe_slice sl_str (pv 0) po_none (po_some (pv 3))) (pv 4)) (pe_slice sl_str (pv 0) (po_some (pv 3)) po_none)))) pss_nil)
      (pss_one (ps_ret (pe_op op_add_str (pe_op op_add_str (pe_slice sl_str (pv 0) po_none (po_some (pv 3))) (pv 4)) (pe_slice sl_str (pv 0) (po_some (pe_op op_add (pv 3) pe_int)) po_none))))))))), ?_⟩
    have hzl : z.length ≤ sizeLine := line1000 (by omega)
    have hsg : (("' =0917aAZz[@~-+_\n\t." : Str)).cps.toList.length = 20 := by decide +kernel
    have hsgo : okT "' =0917aAZz[@~-+_\n\t." := okT_of (by decide +kernel)
    have sl : ∀ a b, (Txt.slice z a b).length ≤ z.length := fun a b => Txt.slice_le z a b
    refine ⟨_, rfl, _, _, rfl, rfl, ⟨by decide, by decide⟩, _, rfl, z, rfl, hzl, _, _, rfl, rfl, _, _, rfl, rfl, (by show (0 : Int) < (z.length : Int) + 1; omega), ?_⟩
    obtain ⟨m, hm, hmm⟩ := atI_some (xs := (("' =0917aAZz[@~-+_\n\t." : Str)).cps.toList) (i := c / 331 % 20) (by omega) (by rw [hsg]; omega)
    have hmo : okT ⟨#[m]⟩ := fun c hc => by
      have : c = m := by simpa using hc
      subst this
      exact hsgo _ hmm
    have m1 : (⟨#[m]⟩ : Str).length = 1 := rfl
    refine ⟨_, rfl, _, rfl, _, _, rfl, rfl, ⟨by decide, by decide⟩, _, _, rfl, rfl, (by show (0 : Int) < 20; decide), _, _, m, rfl, rfl, line1000 (by decide +kernel), hm, ?_⟩
    refine ⟨_, rfl, _, _, rfl, rfl, (by show (0 : Int) < 3; decide), rfl, _, rfl, ite2 (fun _ => ?_) fun _ => ?_⟩
    · refine ⟨_, rfl, _, rfl, _, rfl, z, rfl, hzl, _, rfl, _, rfl, _, _, rfl, rfl, _, rfl, z, rfl, hzl, _, _, rfl, rfl, line1000 ?_, q _ (okT_app (okT_slice hz) (okT_slice hz)) ?_⟩
      · exact Nat.le_trans (Nat.add_le_add (sl _ _) (sl _ _)) (by omega)
      · rw [slen]
        exact Nat.le_trans (Nat.add_le_add (sl _ _) (sl _ _)) (by omega)
    refine ⟨_, rfl, _, _, rfl, rfl, (by show (0 : Int) < 3; decide), rfl, _, rfl, ite2 (fun _ => ?_) fun _ => ?_⟩
    · refine ⟨_, rfl, _, rfl, _, rfl, z, rfl, hzl, _, rfl, _, _, rfl, rfl, line1000 ?_, _, rfl, _, rfl, _, rfl, z, rfl, hzl, _, _, rfl, rfl, line1000 ?_, q _ (okT_app (okT_app (okT_slice hz) hmo) (okT_slice hz)) ?_⟩
      · exact Nat.le_trans (Nat.add_le_add (sl _ _) (Nat.le_of_eq m1)) (by omega)
      · rw [slen]
        exact Nat.le_trans (Nat.add_le_add (Nat.add_le_add (sl _ _) (Nat.le_of_eq m1)) (sl _ _)) (by omega)
      · rw [slen, slen]
        exact Nat.le_trans (Nat.add_le_add (Nat.add_le_add (sl _ _) (Nat.le_of_eq m1)) (sl _ _)) (by omega)
    · refine ⟨_, rfl, _, rfl, _, rfl, z, rfl, hzl, _, rfl, _, _, rfl, rfl, line1000 ?_, _, rfl, _, rfl, _, _, rfl, rfl, _, rfl, z, rfl, hzl, _, _, rfl, rfl, line1000 ?_, q _ (okT_app (okT_app (okT_slice hz) hmo) (okT_slice hz)) ?_⟩
      · exact Nat.le_trans (Nat.add_le_add (sl _ _) (Nat.le_of_eq m1)) (by omega)
      · rw [slen]
        exact Nat.le_trans (Nat.add_le_add (Nat.add_le_add (sl _ _) (Nat.le_of_eq m1)) (sl _ _)) (by omega)
      · rw [slen, slen]
        exact Nat.le_trans (Nat.add_le_add (Nat.add_le_add (sl _ _) (Nat.le_of_eq m1)) (sl _ _)) (by omega)
theorem sc__law_odd : FnScope ["_law_rule_here", "_law_tail", "_law_some", "_law_lines"] ["_law_rule_here"] (defScope s__law_odd) := ⟨rfl, rfl, rfl, by decide +kernel, rfl, by decide +kernel, by decide +kernel⟩
theorem ok__law_odd {f : Addr} {fd : FuncData} (F : Fun K "_law_odd" "_law_odd" s__law_odd f fd) (T : Txt K mg C) : FnOk P w K mg base CX0 1 f fd ["_law_rule_here"] (spOdd) := by
  refine F.ok sc__law_odd (fun vs H Q E h => ?_) (fun cdv A outer s H vs Q E hr h => ?_)
  · obtain ⟨x, r, rfl, _⟩ := h
    rfl
  · obtain ⟨x, r, rfl, den, hok, hp, q⟩ := h
    obtain ⟨t, p, rfl, ht, hpp⟩ := den_rule den
    refine qex ?_
    refine ⟨_, (qss_cons (qs_set (i := 1) sc__law_odd.nd rfl (Or.inr rfl) qe_str)
      (qss_cons ⟨(ps_set (i := 2) sc__law_odd.nd rfl (Or.inl rfl) (pe_lst (pa_cs pe_str (pa_cs pe_str (pa_cs pe_str (pa_cs pe_str (pa_cs pe_str (pa_cs pe_str (pa_cs (pe_callTy call_str_int (by rfl) T.z_str PyProof.Rows.Boot.«str» (pa_cons (pe_op op_add (pe_op op_pow pe_int pe_int) pe_int) pa_nil)) (pa_cs (pe_callTy call_str_int (by rfl) T.z_str PyProof.Rows.Boot.«str» (pa_cons (pe_op op_pow pe_int pe_int) pa_nil)) (pa_cs (pe_op op_mul_str pe_str pe_int) (pa_cs pe_str (pa_cs pe_str (pa_cs pe_str (pa_cs pe_str pa_nil)))))))))))))))⟩
      (qss_cons ⟨(ps_setC (N := ["_law_word", "_law_rule_here", "_law_tail"]) (ρ := [none, some 0, some 1]) (i := 3) sc__law_odd.nd rfl rfl rfl (CompScope.closes ["_law_rule_here", "_law_tail", "_law_some", "_law_lines"] (defScope s__law_odd).names rfl rfl rfl rfl (by decide +kernel) (by decide +kernel) (fun x h => cell_has h) (by decide +kernel) rfl (by decide +kernel)) (pi_listK K rfl (pv 2)) (fun _ _ _ _ _ => (pg_name (i := 0) nd_K81b__law_word__law_rule_here__law_tail rfl (Or.inl rfl) (.inr rfl))) (fun _ _ _ _ _ => pts_nil) (fun _ _ _ _ _ => (pe_op op_add_str (pe_op op_add_str (pe_op op_add_str (pe_ix (ix_tupK K rfl) (pv 1) pe_int (fun _ _ => rfl)) pe_str) (pv 0)) (pv 2))))⟩
      (qss_cons ⟨(ps_set (i := 3) sc__law_odd.nd rfl (Or.inl rfl) (pe_op op_cat (pv 3) (pe_lst (pa_cs pe_str (pa_cs pe_str (pa_cs pe_str (pa_cs pe_str (pa_cs pe_str (pa_cs pe_str (pa_cs pe_str (pa_cs pe_str (pa_cs pe_str pa_nil))))))))))))⟩
      (qss_one ⟨(ps_ret (pv 3))⟩))))), ?_⟩
    have l1 := name_len8 (ok_head hok)
    have o1 : okT r.1 := okT_name (ok_head hok)
    refine ⟨10, 60, rfl, rfl, ⟨by decide, by decide, by decide⟩, _, _, rfl, rfl, _, rfl, (by decide +kernel), 10, 61, rfl, rfl, ⟨by decide, by decide, by decide⟩, _, rfl, (by decide +kernel), _, _, rfl, rfl, (by decide +kernel), (by decide), (by decide), line1000 (by show 13 ≤ 1000; decide), fun la hla => ?_⟩
    have hS : upd H la (.lst (odd13.map V.str)) la = some (.lst (odd13.map V.str)) := upd_same
    have sa : Same H (upd H la (.lst (odd13.map V.str))) := Same.upd hla
    have pa : Plain (upd H la (.lst (odd13.map V.str))) := hp.upd rfl
    revert hS sa pa
    show _ → _ → _ → tSeq _ _ _ _ (upd H la (.lst (odd13.map V.str)))
    generalize upd H la (.lst (odd13.map V.str)) = H1
    intro hS sa pa
    refine ⟨_, rfl, la, rfl, ⟨_, SqL.of hS⟩, fun lc hlc => ?_⟩
    have b1 : ((" " : Str)).length = 1 := by decide +kernel
    have b2 : ((" = 'a" : Str)).length = 5 := by decide +kernel
    have ob1 : okT " " := okT_of (by decide +kernel)
    have ob2 : okT " = 'a" := okT_of (by decide +kernel)
    have ht1 := sa _ _ ht
    have hJ := gives_list (K := K) (SqL.of hS)
    refine comp_items (n := (odd13.map V.str).length) 0 (fun _ y _ => ∃ z, y = .str z ∧ (okT z ∧ z.length ≤ 100)) hJ (fun _ _ _ _ _ h => h) pa hlc (by show 0 < 3; decide) (line1000 (by rw [List.length_map]; decide)) (fun τ' => ∃ v, τ' = [v, some (.ref t), some (.str " = 'a")]) ⟨_, rfl⟩ ?_ ?_ ?_
    · rintro τ' v ⟨w, rfl⟩
      exact ⟨v, rfl⟩
    · rintro τ' j y H' R ⟨w, rfl⟩ hτ hit hj hs hp' hlne hR
      have ew : w = some y := by simpa using hτ
      subst ew
      obtain ⟨z, hz, rfl⟩ := List.mem_map.mp (List.mem_of_getElem? hit)
      obtain ⟨oz, lz⟩ := odd13_ok z hz
      refine ⟨_, rfl, t, _, 0, _, rfl, rfl, SqT.of (hs _ _ ht1), rfl, r.1, " ", rfl, rfl, line1000 (by omega), _, rfl, _, z, rfl, rfl, line1000 (by rw [slen]; omega), _, rfl, _, " = 'a", rfl, rfl, line1000 (by rw [slen, slen]; omega), hR _ _ (Same.refl _) hp' ⟨_, rfl, okT_app (okT_app (okT_app o1 ob1) oz) ob2, by rw [slen, slen, slen]; omega⟩⟩
    · intro ys H2 hy hP s2 p2 hl2
      obtain ⟨zs, rfl, hz⟩ := strs_items hP
      rw [List.length_map, List.length_map] at hy
      have h13 : odd13.length = 13 := rfl
      refine ⟨_, rfl, line1000 (by show 9 ≤ 1000; decide), fun lb hlb => ?_⟩
      have s3 : Same H2 (upd H2 lb (.lst (odd9.map V.str))) := Same.upd hlb
      refine ⟨lc, lb, zs.map V.str, odd9.map V.str, rfl, rfl, s3 _ _ hl2, upd_same, line1000 (by rw [List.length_map, List.length_map, hy]; decide), fun ld hld => ?_⟩
      have s4 := Same.upd (o := .lst (zs.map V.str ++ odd9.map V.str)) hld
      have sx := (sa.trans s2).trans s3
      refine ⟨_, rfl, q ld (zs ++ odd9) _ (fun z hm => ?_) (by rw [List.length_append, hy]; decide) (sx.trans s4) ((p2.upd rfl).upd rfl) (sx.free hld) (by rw [List.map_append]; exact upd_same)⟩
      rcases List.mem_append.mp hm with hm | hm
      · exact hz z hm
      · exact ⟨(odd9_ok z hm).1, Nat.le_trans (odd9_ok z hm).2 (by decide)⟩
theorem sc__law_refused : FnScope ["_law_text", "_law_kept", "e"] ["_law_text"] (defScope s__law_refused) := ⟨rfl, rfl, rfl, by decide +kernel, rfl, by decide +kernel, by decide +kernel⟩
theorem ok__law_refused {f : Addr} {fd : FuncData} (F : Fun K "_law_refused" "_law_refused" s__law_refused f fd) (T : Txt K mg C) (U_read_rule : Used P w K mg (CXo P w) 6 "read_rule" ["text"] (spReadRule C.NoRule)) : FnOk P w K mg base CX0 7 f fd ["_law_text"] (spRefused) := by
  obtain ⟨f_read_rule, fd_read_rule, G_read_rule, m_read_rule, k_read_rule, b_read_rule⟩ := U_read_rule.ok
  refine F.ok sc__law_refused (fun vs H Q E h => ?_) (fun cdv A outer s H vs Q E hr h => ?_)
  · obtain ⟨x, d, rfl, _⟩ := h
    rfl
  · obtain ⟨x, d, rfl, den, sh, hp, hno, q⟩ := h
    refine ⟨_, (pss_cons (ps_set (i := 1) sc__law_refused.nd rfl (Or.inl rfl) pe_non)
      (pss_cons (ps_try (i := 2) (C := C.ForestError) rfl rfl rfl (psxs_one (psx_expr (pex_call (G_read_rule base) (hr.mono (by decide)) (by rfl) m_read_rule k_read_rule b_read_rule .nil (pa_cons (pv 0) pa_nil)))) sc__law_refused.nd rfl rfl (by rfl) T.n_ForestError (fun e => (pss_one (ps_set (i := 1) sc__law_refused.nd rfl (Or.inl rfl) (pv 2)))))
      (pss_cons (ps_if (PW.pt (pw_or (pt_cmpR op_isN (pv 1) pe_non (nomark _)) (pw_or (pt_not (pt_val (pe_callB (call_isiXk K rfl) (by rfl) T.z_isinstance PyProof.Rows.Boot.«isinstance» (pa_cons (pv 1) (pa_cons (pe_glob (v := .ref C.NoRule) (by rfl) T.n_NoRule rfl) pa_nil))))) (pw_or1 (pt_not (pt_val (pe_callB (call_isiXk K rfl) (by rfl) T.z_isinstance PyProof.Rows.Boot.«isinstance» (pa_cons (pv 1) (pa_cons (pe_bltn (v := .ty "ValueError") (by rfl) T.z_ValueError PyProof.Rows.Boot.«ValueError» rfl) pa_nil))))))))) (pss_one (ps_ret pe_bl)) pss_nil)
      (pss_one (ps_ret (pe_and (pe_not (pe_callB (call_isiXk K rfl) (by rfl) T.z_isinstance PyProof.Rows.Boot.«isinstance» (pa_cons (pv 1) (pa_cons (pe_glob (v := .ref C.NoGrammar) (by rfl) T.n_NoGrammar rfl) pa_nil)))) (pe_and (pe_not (pe_callB (call_isiXk K rfl) (by rfl) T.z_isinstance PyProof.Rows.Boot.«isinstance» (pa_cons (pv 1) (pa_cons (pe_glob (v := .ref C.NoRow) (by rfl) T.n_NoRow rfl) pa_nil)))) (pe_one (pe_not (pe_callB (call_isiXk K rfl) (by rfl) T.z_isinstance PyProof.Rows.Boot.«isinstance» (pa_cons (pv 1) (pa_cons (pe_glob (v := .ref C.NoText) (by rfl) T.n_NoText rfl) pa_nil)))))))))))), ?_⟩
    have hat : ExcAt K C.NoRule := ⟨T.xga_NoRule, T.xgt_NoRule, T.xcl_NoRule, T.xmb_NoRule, T.xmo_NoRule, T.xgs_, T.xtk_⟩
    refine seq_setV ?_
    dsimp only [gName, tSeq]
    refine try_split (fun cls σ' H1 => cls = .ref C.NoRule ∧ σ' = [some x, some .non, none] ∧ Same H H1 ∧ Plain H1) ?_ fun EE hE => ?_
    · rintro cls σ' H1 ⟨rfl, rfl, s1, p1⟩
      refine ⟨T.xFR, fun e he => ?_⟩
      refine ⟨_, rfl, ?_⟩
      refine ⟨_, rfl, rfl, _, rfl, iteF ?_⟩
      refine ⟨_, rfl, e, C.NoRule, _, _, true, rfl, upd_same, T.x_NoRule, hat, rfl, (by unfold PySem.W.kitOne; rw [if_pos (by simp)]), _, rfl, iteF ?_⟩
      refine ⟨_, rfl, e, C.NoRule, _, _, _, rfl, upd_same, T.x_NoRule, hat, rfl, T.val, _, rfl, iteF ?_⟩
      refine ⟨_, rfl, e, C.NoRule, _, _, _, rfl, upd_same, T.x_NoRule, hat, rfl, T.noG, _, rfl, _, rfl, iteT ?_⟩
      refine ⟨_, rfl, e, C.NoRule, _, _, _, rfl, upd_same, T.x_NoRule, hat, rfl, T.noR, _, rfl, _, rfl, iteT ?_⟩
      refine ⟨_, rfl, e, C.NoRule, _, _, _, rfl, upd_same, T.x_NoRule, hat, rfl, T.noT, _, rfl, ?_⟩
      exact q _ (s1.trans (Same.upd he)) (p1.upd rfl)
    · refine ⟨_, rfl, x, d, rfl, den, sh, hp, ?_, ?_⟩
      · intro r hr
        rw [hno] at hr
        cases hr
      · exact fun _ H1 s1 p1 => hE _ _ _ _ ⟨rfl, rfl, s1, p1⟩
theorem sc__law_right : FnScope ["_law_text", "_law_due_here"] ["_law_text"] (defScope s__law_right) := ⟨rfl, rfl, rfl, by decide +kernel, rfl, by decide +kernel, by decide +kernel⟩
theorem ok__law_right {f : Addr} {fd : FuncData} (F : Fun K "_law_right" "_law_right" s__law_right f fd) (T : Txt K mg C) (U__law_due : Used P w K mg CX0 2 "_law_due" ["_law_text"] (spDue)) (U__law_alike : Used P w K mg CX0 1 "_law_alike" ["_law_found", "_law_due_here"] (spAlike)) (U__law_refused : Used P w K mg CX0 7 "_law_refused" ["_law_text"] (spRefused)) (U_read_rule : Used P w K mg (CXo P w) 6 "read_rule" ["text"] (spReadRule C.NoRule)) : FnOk P w K mg base CX0 8 f fd ["_law_text"] (spRight) := by
  obtain ⟨f__law_due, fd__law_due, G__law_due, m__law_due, k__law_due, b__law_due⟩ := U__law_due.ok
  obtain ⟨f__law_alike, fd__law_alike, G__law_alike, m__law_alike, k__law_alike, b__law_alike⟩ := U__law_alike.ok
  obtain ⟨f__law_refused, fd__law_refused, G__law_refused, m__law_refused, k__law_refused, b__law_refused⟩ := U__law_refused.ok
  obtain ⟨f_read_rule, fd_read_rule, G_read_rule, m_read_rule, k_read_rule, b_read_rule⟩ := U_read_rule.ok
  refine F.ok sc__law_right (fun vs H Q E h => ?_) (fun cdv A outer s H vs Q E hr h => ?_)
  · obtain ⟨z, rfl, _⟩ := h
    rfl
  · obtain ⟨z, rfl, hl, hz, hp, q⟩ := h
    refine ⟨_, (pss_cons (ps_set (i := 1) sc__law_right.nd rfl (Or.inl rfl) (pe_call (G__law_due base) (hr.mono (by decide)) (by rfl) m__law_due k__law_due b__law_due .nil pass0 (pa_cons (pv 0) pa_nil)))
      (pss_cons (ps_if (pt_cmpR op_isN (pv 1) pe_non (nomark _)) (pss_one (ps_ret (pe_call (G__law_refused base) (hr.mono (by decide)) (by rfl) m__law_refused k__law_refused b__law_refused .nil pass0 (pa_cons (pv 0) pa_nil)))) pss_nil)
      (pss_one (ps_ret (pe_call (G__law_alike base) (hr.mono (by decide)) (by rfl) m__law_alike k__law_alike b__law_alike .nil pass0 (pa_cons (pe_call (G_read_rule base) (hr.mono (by decide)) (by rfl) m_read_rule k_read_rule b_read_rule .nil passX (pa_cons (pv 0) pa_nil)) (pa_cons (pv 1) pa_nil))))))), ?_⟩
    refine ⟨_, rfl, z, rfl, hl, hz, hp, fun r hr p H1 s1 p1 d1 => ?_, fun hn H1 s1 p1 => ?_⟩
    · obtain ⟨t, pp, rfl, ht, hpp⟩ := den_rule d1
      refine ⟨_, rfl, rfl, _, rfl, iteF ?_⟩
      refine ⟨_, rfl, .str z, .str z, rfl, .str _, short_str hl, p1, fun r1 e1 y1 H2 s2 p2 d2 => ?_, fun e => by rw [show ruleOfD (.str z) = some r from hr] at e; cases e⟩
      have e1 : some r = some r1 := hr.symm.trans e1
      cases e1
      exact ⟨_, rfl, y1, .ref t, r, rfl, d2.same (newIn_same _ _), d1.same s2, q _ (s1.trans s2) p2⟩
    · exact ⟨_, rfl, rfl, _, rfl, iteT ⟨_, rfl, .str z, .str z, rfl, .str _, short_str hl, p1, hn, fun H2 s2 p2 => q _ (s1.trans s2) p2⟩⟩
end
end FR


set_option linter.all false
set_option maxRecDepth 100000
set_option maxHeartbeats 4000000
namespace FR
open PySem L2

theorem okT_num {n : Int} (h0 : 0 ≤ n) (h1 : n ≤ 10 ^ 60) : okT (toString n : String) := fun c hc => by
  have hf := num_fig h0 h1
  unfold isFigS at hf
  simp only [Bool.and_eq_true] at hf
  have := List.all_eq_true.mp hf.1.2 c hc
  unfold figC at this
  simp only [Bool.and_eq_true, decide_eq_true_eq] at this
  omega
theorem okT_part {p : Str} (h : isPartS p = true) : okT p := by
  unfold isPartS at h
  rw [Bool.or_eq_true] at h
  rcases h with h | h
  · obtain ⟨c, hc, hg⟩ := sign_codes h
    intro k hk
    rw [hc] at hk
    unfold good at hg
    simp only [Bool.and_eq_true, decide_eq_true_eq, Bool.not_eq_true', decide_eq_false_iff_not] at hg
    simp only [List.mem_cons, List.not_mem_nil, or_false] at hk
    rcases hk with rfl | rfl
    · exact ⟨by decide, by decide⟩
    · exact ⟨by omega, hg.2⟩
  · exact okT_name h
theorem okT_show {p : Str} (h : isPartS p = true) : okT (showPartS p) := by
  unfold showPartS
  split
  · exact okT_of (by decide +kernel)
  · exact okT_part h
theorem okT_text {r : Rule} (h : okRule r = true) : okT (ruleText r) := by
  intro c hc
  rw [text_codes] at hc
  have hw := ok_worth h
  simp only [List.mem_append] at hc
  rcases hc with (((hc | hc) | hc) | hc) | hc
  · exact okT_name (ok_head h) c hc
  · cases List.mem_singleton.mp hc
    exact ⟨by decide, by decide⟩
  · exact okT_num hw.1 hw.2 c hc
  · simp only [List.mem_cons, List.not_mem_nil, or_false] at hc
    rcases hc with rfl | rfl <;> exact ⟨by decide, by decide⟩
  · unfold codesW at hc
    obtain ⟨l, hl, hcl⟩ := List.mem_flatten.mp hc
    obtain ⟨p, hp, rfl⟩ := List.mem_map.mp hl
    rcases List.mem_cons.mp hcl with rfl | hcl
    · exact ⟨by decide, by decide⟩
    · exact okT_show ((ok_parts h).2 p hp) c hcl
theorem okT_lower {z : Str} (h : okT z) : okT (Txt.lower z) := by
  rw [PyProof.Rows.lower_ascii fun c hc => (h c hc).1]
  intro c hc
  rw [show (⟨z.cps.map PyProof.Rows.lo1⟩ : Str).cps.toList = z.cps.toList.map PyProof.Rows.lo1 from Array.toList_map ..] at hc
  obtain ⟨k, hk, rfl⟩ := List.mem_map.mp hc
  have := h k hk
  unfold PyProof.Rows.lo1
  split <;> constructor <;> omega
def five (z : Str) : List Str := [z ++ " ", " " ++ z, z ++ "\n", Txt.lower z, Txt.replace z " = " " "]
theorem five_ok {z : Str} (h : okT z) (hl : z.length ≤ 130) : ∀ y ∈ five z, okT y ∧ y.length ≤ 1000 := by
  intro y hy
  have b1 : ((" " : Str)).length = 1 := by decide +kernel
  have b2 : (("\n" : Str)).length = 1 := by decide +kernel
  have ob1 : okT " " := okT_of (by decide +kernel)
  have ob2 : okT "\n" := okT_of (by decide +kernel)
  unfold five at hy
  simp only [List.mem_cons, List.not_mem_nil, or_false] at hy
  rcases hy with rfl | rfl | rfl | rfl | rfl
  · exact ⟨okT_app h ob1, by rw [slen]; omega⟩
  · exact ⟨okT_app ob1 h, by rw [slen]; omega⟩
  · exact ⟨okT_app h ob2, by rw [slen]; omega⟩
  · exact ⟨okT_lower h, by have := PyProof.Rows.len_lower z; omega⟩
  · exact ⟨replace_all h ob1, by have := replace_len z " = " " " (by omega); omega⟩
def things (z : Str) (r : Rule) : List D := [.non, .int 0, .bl true, .lst [], .lst [.str z], .tup [.str z], ruleD r, .oth]
theorem things_ok {z : Str} {r : Rule} (hl : z.length ≤ 130) (hok : okRule r = true) : ∀ d ∈ things z r, d.short = true ∧ ruleOfD d = none := by
  intro d hd
  have hz : (D.str z).short = true := short_str (by omega)
  unfold things at hd
  simp only [List.mem_cons, List.not_mem_nil, or_false] at hd
  rcases hd with rfl | rfl | rfl | rfl | rfl | rfl | rfl | rfl
  · exact ⟨by decide +kernel, rfl⟩
  · exact ⟨by decide +kernel, rfl⟩
  · exact ⟨by decide +kernel, rfl⟩
  · exact ⟨by decide +kernel, rfl⟩
  · exact ⟨by unfold D.short; exact shortS_of fun d hd => by cases List.mem_singleton.mp hd; exact hz, rfl⟩
  · exact ⟨by unfold D.short; exact shortS_of fun d hd => by cases List.mem_singleton.mp hd; exact hz, rfl⟩
  · exact ⟨short_rule hok, rfl⟩
  · exact ⟨by decide +kernel, rfl⟩
section
variable {P : Program} {w : World} {K : PySem.W.Frag} {mg : Str → Option Value} {base : Heap} {C : Adr}
theorem sc_law : FnScope ["_law_script", "_law_rule_here", "_law_text", "_law_cell", "_law_line", "_law_thing"] ["_law_script"] (defScope s_law) := ⟨rfl, rfl, rfl, by decide +kernel, rfl, by decide +kernel, by decide +kernel⟩
theorem ok_law {f : Addr} {fd : FuncData} (F : Fun K "law" "law" s_law f fd) (T : Txt K mg C) (U__law_rule : Used P w K mg CX0 3 "_law_rule" ["_law_script", "_law_at"] (spRuleL K)) (U__law_written : Used P w K mg CX0 1 "_law_written" ["_law_rule_here"] (spWritten)) (U__law_odd : Used P w K mg CX0 1 "_law_odd" ["_law_rule_here"] (spOdd)) (U__law_alike : Used P w K mg CX0 1 "_law_alike" ["_law_found", "_law_due_here"] (spAlike)) (U__law_right : Used P w K mg CX0 8 "_law_right" ["_law_text"] (spRight)) (U__law_refused : Used P w K mg CX0 7 "_law_refused" ["_law_text"] (spRefused)) (U_read_rule : Used P w K mg (CXo P w) 6 "read_rule" ["text"] (spReadRule C.NoRule)) (U__law_spoilt : Used P w K mg CX0 1 "_law_spoilt" ["_law_text", "_law_cell"] (spSpoilt)) : FnOk P w K mg base CX0 9 f fd ["_law_script"] (spLaw K) := by
  obtain ⟨f__law_rule, fd__law_rule, G__law_rule, m__law_rule, k__law_rule, b__law_rule⟩ := U__law_rule.ok
  obtain ⟨f__law_written, fd__law_written, G__law_written, m__law_written, k__law_written, b__law_written⟩ := U__law_written.ok
  obtain ⟨f__law_odd, fd__law_odd, G__law_odd, m__law_odd, k__law_odd, b__law_odd⟩ := U__law_odd.ok
  obtain ⟨f__law_alike, fd__law_alike, G__law_alike, m__law_alike, k__law_alike, b__law_alike⟩ := U__law_alike.ok
  obtain ⟨f__law_right, fd__law_right, G__law_right, m__law_right, k__law_right, b__law_right⟩ := U__law_right.ok
  obtain ⟨f__law_refused, fd__law_refused, G__law_refused, m__law_refused, k__law_refused, b__law_refused⟩ := U__law_refused.ok
  obtain ⟨f_read_rule, fd_read_rule, G_read_rule, m_read_rule, k_read_rule, b_read_rule⟩ := U_read_rule.ok
  obtain ⟨f__law_spoilt, fd__law_spoilt, G__law_spoilt, m__law_spoilt, k__law_spoilt, b__law_spoilt⟩ := U__law_spoilt.ok
  refine F.ok sc_law (fun vs H Q E h => ?_) (fun cdv A outer s H vs Q E hr h => ?_)
  · obtain ⟨a, ns, rfl, _⟩ := h
    rfl
  · obtain ⟨a, ns, rfl, hS, hn, hp, q⟩ := h
    have hu := hu_of hr
    have hU := hr.units
    refine qex ?_
    refine ⟨_, (qss_cons ⟨(ps_set (i := 1) sc_law.nd rfl (Or.inl rfl) (pe_call (G__law_rule base) (hr.mono (by decide)) (by rfl) m__law_rule k__law_rule b__law_rule .nil pass0 (pa_cons (pv 0) (pa_cons pe_int pa_nil))))⟩
      (qss_cons ⟨(ps_set (i := 2) sc_law.nd rfl (Or.inl rfl) (pe_call (G__law_written base) (hr.mono (by decide)) (by rfl) m__law_written k__law_written b__law_written .nil pass0 (pa_cons (pv 1) pa_nil)))⟩
      (qss_cons ⟨(ps_for PassesOwn.never rfl (pi_listK K rfl (pe_slice (sl_listK K rfl) (pv 0) (po_some pe_int) (po_some pe_int))) (pg_name (i := 3) sc_law.nd rfl (Or.inl rfl)) (pss_one (ps_if (PW.pt (pw_or (pt_not (pt_val (pe_call (G__law_right base) (hr.mono (by decide)) (by rfl) m__law_right k__law_right b__law_right .nil pass0 (pa_cons (pe_call (G__law_spoilt base) (hr.mono (by decide)) (by rfl) m__law_spoilt k__law_spoilt b__law_spoilt .nil pass0 (pa_cons (pv 2) (pa_cons (pv 3) pa_nil))) pa_nil)))) (pw_or1 (pt_not (pt_val (pe_call (G__law_right base) (hr.mono (by decide)) (by rfl) m__law_right k__law_right b__law_right .nil pass0 (pa_cons (pe_call (G__law_spoilt base) (hr.mono (by decide)) (by rfl) m__law_spoilt k__law_spoilt b__law_spoilt .nil pass0 (pa_cons (pe_call (G__law_spoilt base) (hr.mono (by decide)) (by rfl) m__law_spoilt k__law_spoilt b__law_spoilt .nil pass0 (pa_cons (pv 2) (pa_cons (pe_op op_fdiv (pv 3) pe_int) pa_nil))) (pa_cons (pv 3) pa_nil))) pa_nil))))))) (pss_one (ps_ret pe_bl)) pss_nil)))⟩
      (qss_cons ⟨(ps_for PassesOwn.never rfl (pi_listK K rfl (pe_op op_cat (pe_call (G__law_odd base) (hr.mono (by decide)) (by rfl) m__law_odd k__law_odd b__law_odd .nil pass0 (pa_cons (pv 1) pa_nil)) (pe_lst (pa_cs (pe_op op_add_str (pv 2) pe_str) (pa_cs (pe_op op_add_str pe_str (pv 2)) (pa_cs (pe_op op_add_str (pv 2) pe_str) (pa_lowRep 2))))))) (pg_name (i := 4) sc_law.nd rfl (Or.inl rfl)) (pss_one (ps_if (pt_not (pt_val (pe_call (G__law_right base) (hr.mono (by decide)) (by rfl) m__law_right k__law_right b__law_right .nil pass0 (pa_cons (pv 4) pa_nil)))) (pss_one (ps_ret pe_bl)) pss_nil)))⟩
      (qss_cons ⟨(ps_for PassesOwn.never rfl (pi_listK K rfl (pe_lst (pa_cs pe_non (pa_cs pe_int (pa_cs pe_bl (pa_cs (pe_lst pa_nil) (pa_cs (pe_lst (pa_cons (pv 2) pa_nil)) (pa_cs (pe_tup (pa_cons (pv 2) pa_nil)) (pa_cs (pv 1) (pa_cs pe_dnewK pa_nil)))))))))) (pg_name (i := 5) sc_law.nd rfl (Or.inl rfl)) (pss_one (ps_if (pt_not (pt_val (pe_call (G__law_refused base) (hr.mono (by decide)) (by rfl) m__law_refused k__law_refused b__law_refused .nil pass0 (pa_cons (pv 5) pa_nil)))) (pss_one (ps_ret pe_bl)) pss_nil)))⟩
      (qss_one ⟨(ps_ret (pe_and (pe_call (G__law_alike base) (hr.mono (by decide)) (by rfl) m__law_alike k__law_alike b__law_alike .nil pass0 (pa_cons (pe_call (G_read_rule base) (hr.mono (by decide)) (by rfl) m_read_rule k_read_rule b_read_rule .nil passX (pa_cons (pv 2) pa_nil)) (pa_cons (pv 1) pa_nil))) (pe_and (pe_call (G__law_right base) (hr.mono (by decide)) (by rfl) m__law_right k__law_right b__law_right .nil pass0 (pa_cons pe_str pa_nil)) (pe_one (pe_call (G__law_right base) (hr.mono (by decide)) (by rfl) m__law_right k__law_right b__law_right .nil pass0 (pa_cons pe_str pa_nil))))))⟩)))))), ?_⟩
    refine ⟨_, rfl, a, ns, 0, rfl, hS, by decide, hp, fun r t H1 hok s1 p1 den => ?_⟩
    have den1 : ∀ {G : Hp}, Same H1 G → Den G (.ref t) (ruleD r) := fun {G} s => (den.same (newIn_same _ _)).same s
    have hl := text_len2 hok
    have hz := okT_text hok
    have hb := rule_back hok
    refine ⟨_, rfl, .ref t, r, rfl, den1 (Same.refl _), hok, ?_⟩
    obtain ⟨z, ez⟩ : ∃ z, ruleText r = z := ⟨_, rfl⟩
    rw [ez] at hl hz hb ⊢
    obtain ⟨cs, ecs, hcs⟩ := cut_ints ns (some 9) (some 17)
    refine ⟨_, rfl, 9, rfl, 17, rfl, a, _, rfl, s1.seq hS, fun c hc => ?_⟩
    rw [ecs]
    have sc := Same.upd (o := .lst (cs.map V.int)) hc
    refine ⟨c, rfl, ⟨_, SqL.of upd_same⟩, for_list (K := K) (a := c) (xs := cs.map V.int) (fun i σ H2 => Same H1 H2 ∧ Plain H2 ∧ H2 c = some (.lst (cs.map V.int)) ∧ ∃ v3, σ = [some (.ref a), some (.ref t), some (.str z), v3, none, none]) ⟨sc, p1.upd rfl, upd_same, none, rfl⟩ ?_ ?_ ?_⟩
    · rintro i σ H2 _ ⟨_, _, h3, _⟩
      exact SqL.of h3
    · rintro i y σ H2 hi ⟨s2, p2, hc2, v3, rfl⟩
      obtain ⟨k, _, rfl⟩ := List.mem_map.mp (List.mem_of_getElem? hi)
      refine ⟨_, rfl, _, rfl, z, k, rfl, by omega, hz, fun y oy ly => ⟨y, rfl, by omega, oy, p2, fun H3 s3 p3 => ⟨_, rfl, iteF ?_⟩⟩⟩
      refine ⟨_, rfl, _, rfl, _, _, rfl, rfl, ⟨by decide, by decide⟩, z, _, rfl, by omega, hz, fun y oy ly => ⟨_, rfl, y, _, rfl, by omega, oy, fun y2 oy2 ly2 => ⟨y2, rfl, by omega, oy2, p3, fun H4 s4 p4 => ⟨_, rfl, iteF ?_⟩⟩⟩⟩
      exact ⟨s2.trans (s3.trans s4), p4, s4 _ _ (s3 _ _ hc2), _, rfl⟩
    · rintro σ H2 ⟨s2, p2, _, v3, rfl⟩
      refine ⟨_, rfl, .ref t, r, rfl, den1 s2, hok, p2, fun lo zs H3 hzs hzl s3 p3 hlo0 hlo => ?_⟩
      have b1 : ((" " : Str)).length = 1 := by decide +kernel
      have b2 : (("\n" : Str)).length = 1 := by decide +kernel
      refine ⟨_, rfl, _, _, rfl, rfl, line1000 (by omega), _, rfl, _, _, rfl, rfl, line1000 (by omega), _, rfl, _, _, rfl, rfl, line1000 (by omega), z, rfl, by omega, line1000 (by show 5 ≤ 1000; decide), fun lb hlb => ?_⟩
      have s4 : Same H3 (upd H3 lb (.lst ((five z).map V.str))) := Same.upd hlb
      refine ⟨lo, lb, zs.map V.str, (five z).map V.str, rfl, rfl, s4 _ _ hlo, upd_same, line1000 (by rw [List.length_map, List.length_map]; show _ + 5 ≤ 1000; omega), fun ld hld => ?_⟩
      have s5 := Same.upd (o := .lst (zs.map V.str ++ (five z).map V.str)) hld
      have s25 := s3.trans (s4.trans s5)
      have hall : ∀ y ∈ zs ++ five z, okT y ∧ y.length ≤ 1000 := fun y hy => (List.mem_append.mp hy).elim (fun h => ⟨(hzs y h).1, Nat.le_trans (hzs y h).2 (by decide)⟩) (five_ok hz hl y)
      refine ⟨ld, rfl, ⟨_, SqL.of upd_same⟩, for_list (K := K) (a := ld) (xs := (zs ++ five z).map V.str) (fun i σ H6 => Same H2 H6 ∧ Plain H6 ∧ H6 ld = some (.lst ((zs ++ five z).map V.str)) ∧ ∃ v4, σ = [some (.ref a), some (.ref t), some (.str z), v3, v4, none]) ⟨s25, (p3.upd rfl).upd rfl, by rw [List.map_append]; exact upd_same, none, rfl⟩ ?_ ?_ ?_⟩
      · rintro i σ H6 _ ⟨_, _, h3, _⟩
        exact SqL.of h3
      · rintro i y σ H6 hi ⟨s6, p6, hd6, v4, rfl⟩
        obtain ⟨k, hk, rfl⟩ := List.mem_map.mp (List.mem_of_getElem? hi)
        have hk' := hall k hk
        refine ⟨_, rfl, k, rfl, hk'.2, hk'.1, p6, fun H7 s7 p7 => ⟨_, rfl, iteF ?_⟩⟩
        exact ⟨s6.trans s7, p7, s7 _ _ hd6, _, rfl⟩
      · rintro σ H6 ⟨s6, p6, _, v4, rfl⟩
        have s16 := s2.trans s6
        refine ⟨Nat.zero_le _, fun e1 h1 => ⟨_, rfl, line1000 (by show 1 ≤ 1000; decide), fun e2 h2 => ⟨_, rfl, line1000 (by show 1 ≤ 1000; decide), fun e3 h3 => ⟨_, rfl, fun e4 h4 => ⟨line1000 (by show 8 ≤ 1000; decide), fun e5 h5 => ?_⟩⟩⟩⟩⟩
        have fr : FreshL H6 [(e1, .lst []), (e2, .lst [.str z]), (e3, .tup [.str z]), (e4, .dK []), (e5, .lst [.non, .int 0, .bl true, .ref e1, .ref e2, .ref e3, .ref t, .ref e4])] := ⟨h1, h2, h3, h4, h5, trivial⟩
        have sA := updL_same fr
        have at_ := updL_at fr
        have pA := updL_plain (ops := [(e1, .lst []), (e2, .lst [.str z]), (e3, .tup [.str z]), (e4, .dK []), (e5, .lst [.non, .int 0, .bl true, .ref e1, .ref e2, .ref e3, .ref t, .ref e4])]) p6 rfl
        have z1 := at_ 0 _ rfl
        have z2 := at_ 1 _ rfl
        have z3 := at_ 2 _ rfl
        have z4 := at_ 3 _ rfl
        have z5 := at_ 4 _ rfl
        have dth : Dens (updL H6 [(e1, .lst []), (e2, .lst [.str z]), (e3, .tup [.str z]), (e4, .dK []), (e5, .lst [.non, .int 0, .bl true, .ref e1, .ref e2, .ref e3, .ref t, .ref e4])]) [.non, .int 0, .bl true, .ref e1, .ref e2, .ref e3, .ref t, .ref e4] (things z r) := .cons .non (.cons (.int _) (.cons (.bl _) (.cons (.lst (.inl z1) .nil) (.cons (.lst (.inl z2) (.cons (.str _) .nil)) (.cons (.tup z3 (.cons (.str _) .nil)) (.cons (den1 (s16.trans sA)) (.cons (by unfold Den; exact ⟨_, _, rfl, z4⟩) .nil)))))))
        refine ⟨e5, rfl, ⟨_, SqL.of z5⟩, for_list (K := K) (a := e5) (xs := [.non, .int 0, .bl true, .ref e1, .ref e2, .ref e3, .ref t, .ref e4]) (fun i σ H8 => Same (updL H6 [(e1, .lst []), (e2, .lst [.str z]), (e3, .tup [.str z]), (e4, .dK []), (e5, .lst [.non, .int 0, .bl true, .ref e1, .ref e2, .ref e3, .ref t, .ref e4])]) H8 ∧ Plain H8 ∧ ∃ v5, σ = [some (.ref a), some (.ref t), some (.str z), v3, v4, v5]) ⟨Same.refl _, pA, none, rfl⟩ ?_ ?_ ?_⟩
        · rintro i σ H8 _ ⟨s8, _⟩
          exact SqL.of (s8 _ _ z5)
        · rintro i y σ H8 hi ⟨s8, p8, v5, rfl⟩
          obtain ⟨d, hd, dy⟩ := dth.get hi
          obtain ⟨d1, d2⟩ := things_ok hl hok d (List.mem_of_getElem? hd)
          refine ⟨_, rfl, y, d, rfl, dy.same s8, d1, p8, d2, fun H9 s9 p9 => ⟨_, rfl, iteF ?_⟩⟩
          exact ⟨s8.trans s9, p9, _, rfl⟩
        · rintro σ H8 ⟨s8, p8, v5, rfl⟩
          have s18 := s16.trans (sA.trans s8)
          refine ⟨_, rfl, .str z, .str z, rfl, .str _, short_str (by omega), p8, fun r1 e1 y1 H9 s9 p9 d9 => ?_, fun e => by rw [show ruleOfD (.str z) = some r from hb] at e; cases e⟩
          have e1 : some r = some r1 := hb.symm.trans e1
          cases e1
          refine ⟨_, rfl, y1, .ref t, r, rfl, d9.same (newIn_same _ _), den1 (s18.trans s9), _, rfl, iteT ?_⟩
          refine ⟨_, rfl, by decide +kernel, okT_of (by decide +kernel), p9, fun H10 s10 p10 => ⟨_, rfl, iteT ?_⟩⟩
          exact ⟨_, rfl, by decide +kernel, okT_of (by decide +kernel), p10, fun H11 _ _ => q H11⟩
end
theorem all_mk {l : PySem.W.OpenLaw} {w : World} {K : PySem.W.Frag} {h : Heap} {mg : Str → Option Value} {fa c_NoRule c_ForestError c_NoGrammar c_NoRow c_NoText f0 f1 f2 f3 f4 f5 f6 f7 f8 f9 f10 f11 f12 f13 f14 f15 f16 f17 f18 f19 f20 f21 f22 f23 f24 f25 f26 : Addr} (X : K.In h) (G : h.Ns mainGlobals mg) (hfa : mg "law" = some (.ref fa))
    {od0 od1 od2 od3 od4 od5 od6 od7 od8 od9 od10 od11 od12 od13 od14 od15 od16 od17 od18 od19 od20 od21 od22 od23 od24 od25 od26 an0 an1 an2 an3 an4 an5 an6 an7 an8 an9 an10 an11 an12 an13 an14 an15 an16 an17 an18 an19 an20 an21 an22 an23 an24 an25 an26 : Option Addr} {sl0 sl1 sl2 sl3 sl4 sl5 sl6 sl7 sl8 sl9 sl10 sl11 sl12 sl13 sl14 sl15 sl16 sl17 sl18 sl19 sl20 sl21 sl22 sl23 sl24 sl25 sl26 : Array (Option Value)} {oc0 oc1 oc2 oc3 oc4 oc5 oc6 oc7 oc8 oc9 oc10 oc11 oc12 oc13 oc14 oc15 oc16 oc17 oc18 oc19 oc20 oc21 oc22 oc23 oc24 oc25 oc26 kV0 kV1 kV2 kV3 kV4 kV5 kV6 kV7 kV8 kV9 kV10 kV11 kV12 kV13 kV14 kV15 kV16 kV17 kV18 kV19 kV20 kV21 kV22 kV23 kV24 kV25 kV26 dc0 dc1 dc2 dc3 dc4 dc5 dc6 dc7 dc8 dc9 dc10 dc11 dc12 dc13 dc14 dc15 dc16 dc17 dc18 dc19 dc20 dc21 dc22 dc23 dc24 dc25 dc26 pm0 pm1 pm2 pm3 pm4 pm5 pm6 pm7 pm8 pm9 pm10 pm11 pm12 pm13 pm14 pm15 pm16 pm17 pm18 pm19 pm20 pm21 pm22 pm23 pm24 pm25 pm26 cd0 cd1 cd2 cd3 cd4 cd5 cd6 cd7 cd8 cd9 cd10 cd11 cd12 cd13 cd14 cd15 cd16 cd17 cd18 cd19 cd20 cd21 cd22 cd23 cd24 cd25 cd26 ct0 ct1 ct2 ct3 ct4 ct5 ct6 ct7 ct8 ct9 ct10 ct11 ct12 ct13 ct14 ct15 ct16 ct17 ct18 ct19 ct20 ct21 ct22 ct23 ct24 ct25 ct26 : Value} {tFIRST_CODE tLAST_CODE tPERCENT_CODE tMOST_LETTERS tMOST_PARTS tMOST_FIGURES : Tok}
    (nNoRule : PySem.W.nsIn K mainGlobals "NoRule" = some (some (.ref c_NoRule)))
    (nForestError : PySem.W.nsIn K mainGlobals "ForestError" = some (some (.ref c_ForestError)))
    (nNoGrammar : PySem.W.nsIn K mainGlobals "NoGrammar" = some (some (.ref c_NoGrammar)))
    (nNoRow : PySem.W.nsIn K mainGlobals "NoRow" = some (some (.ref c_NoRow)))
    (nNoText : PySem.W.nsIn K mainGlobals "NoText" = some (some (.ref c_NoText)))
    (d0 : PySem.W.nsIn K mainGlobals "is_whole" = some (some (.ref f0)))
    (l0 : K.lookup f0 = some ⟨oc0, od0, .func (PySem.W.fnOf "is_whole" "is_whole" (defArgs s_is_whole) (defBody s_is_whole) (defScope s_is_whole) .none kV0 dc0 pm0 an0 cd0 ct0), sl0⟩)
    (c0 : PySem.W.codeIn K cd0 "is_whole" = true)
    (k0 : PySem.W.keepIn K (.ref f0) = true)
    (d1 : PySem.W.nsIn K mainGlobals "stands_in_texts" = some (some (.ref f1)))
    (l1 : K.lookup f1 = some ⟨oc1, od1, .func (PySem.W.fnOf "stands_in_texts" "stands_in_texts" (defArgs s_stands_in_texts) (defBody s_stands_in_texts) (defScope s_stands_in_texts) .none kV1 dc1 pm1 an1 cd1 ct1), sl1⟩)
    (c1 : PySem.W.codeIn K cd1 "stands_in_texts" = true)
    (k1 : PySem.W.keepIn K (.ref f1) = true)
    (d2 : PySem.W.nsIn K mainGlobals "is_sign" = some (some (.ref f2)))
    (l2 : K.lookup f2 = some ⟨oc2, od2, .func (PySem.W.fnOf "is_sign" "is_sign" (defArgs s_is_sign) (defBody s_is_sign) (defScope s_is_sign) .none kV2 dc2 pm2 an2 cd2 ct2), sl2⟩)
    (c2 : PySem.W.codeIn K cd2 "is_sign" = true)
    (k2 : PySem.W.keepIn K (.ref f2) = true)
    (d3 : PySem.W.nsIn K mainGlobals "is_name" = some (some (.ref f3)))
    (l3 : K.lookup f3 = some ⟨oc3, od3, .func (PySem.W.fnOf "is_name" "is_name" (defArgs s_is_name) (defBody s_is_name) (defScope s_is_name) .none kV3 dc3 pm3 an3 cd3 ct3), sl3⟩)
    (c3 : PySem.W.codeIn K cd3 "is_name" = true)
    (k3 : PySem.W.keepIn K (.ref f3) = true)
    (d4 : PySem.W.nsIn K mainGlobals "is_part" = some (some (.ref f4)))
    (l4 : K.lookup f4 = some ⟨oc4, od4, .func (PySem.W.fnOf "is_part" "is_part" (defArgs s_is_part) (defBody s_is_part) (defScope s_is_part) .none kV4 dc4 pm4 an4 cd4 ct4), sl4⟩)
    (c4 : PySem.W.codeIn K cd4 "is_part" = true)
    (k4 : PySem.W.keepIn K (.ref f4) = true)
    (d5 : PySem.W.nsIn K mainGlobals "is_worth" = some (some (.ref f5)))
    (l5 : K.lookup f5 = some ⟨oc5, od5, .func (PySem.W.fnOf "is_worth" "is_worth" (defArgs s_is_worth) (defBody s_is_worth) (defScope s_is_worth) .none kV5 dc5 pm5 an5 cd5 ct5), sl5⟩)
    (c5 : PySem.W.codeIn K cd5 "is_worth" = true)
    (k5 : PySem.W.keepIn K (.ref f5) = true)
    (d6 : PySem.W.nsIn K mainGlobals "are_parts" = some (some (.ref f6)))
    (l6 : K.lookup f6 = some ⟨oc6, od6, .func (PySem.W.fnOf "are_parts" "are_parts" (defArgs s_are_parts) (defBody s_are_parts) (defScope s_are_parts) .none kV6 dc6 pm6 an6 cd6 ct6), sl6⟩)
    (c6 : PySem.W.codeIn K cd6 "are_parts" = true)
    (k6 : PySem.W.keepIn K (.ref f6) = true)
    (d7 : PySem.W.nsIn K mainGlobals "is_rule" = some (some (.ref f7)))
    (l7 : K.lookup f7 = some ⟨oc7, od7, .func (PySem.W.fnOf "is_rule" "is_rule" (defArgs s_is_rule) (defBody s_is_rule) (defScope s_is_rule) .none kV7 dc7 pm7 an7 cd7 ct7), sl7⟩)
    (c7 : PySem.W.codeIn K cd7 "is_rule" = true)
    (k7 : PySem.W.keepIn K (.ref f7) = true)
    (d8 : PySem.W.nsIn K mainGlobals "is_figures" = some (some (.ref f8)))
    (l8 : K.lookup f8 = some ⟨oc8, od8, .func (PySem.W.fnOf "is_figures" "is_figures" (defArgs s_is_figures) (defBody s_is_figures) (defScope s_is_figures) .none kV8 dc8 pm8 an8 cd8 ct8), sl8⟩)
    (c8 : PySem.W.codeIn K cd8 "is_figures" = true)
    (k8 : PySem.W.keepIn K (.ref f8) = true)
    (d9 : PySem.W.nsIn K mainGlobals "read_part" = some (some (.ref f9)))
    (l9 : K.lookup f9 = some ⟨oc9, od9, .func (PySem.W.fnOf "read_part" "read_part" (defArgs s_read_part) (defBody s_read_part) (defScope s_read_part) .none kV9 dc9 pm9 an9 cd9 ct9), sl9⟩)
    (c9 : PySem.W.codeIn K cd9 "read_part" = true)
    (k9 : PySem.W.keepIn K (.ref f9) = true)
    (d10 : PySem.W.nsIn K mainGlobals "read_rule" = some (some (.ref f10)))
    (l10 : K.lookup f10 = some ⟨oc10, od10, .func (PySem.W.fnOf "read_rule" "read_rule" (defArgs s_read_rule) (defBody s_read_rule) (defScope s_read_rule) .none kV10 dc10 pm10 an10 cd10 ct10), sl10⟩)
    (c10 : PySem.W.codeIn K cd10 "read_rule" = true)
    (k10 : PySem.W.keepIn K (.ref f10) = true)
    (d11 : PySem.W.nsIn K mainGlobals "_law_cell_at" = some (some (.ref f11)))
    (l11 : K.lookup f11 = some ⟨oc11, od11, .func (PySem.W.fnOf "_law_cell_at" "_law_cell_at" (defArgs s__law_cell_at) (defBody s__law_cell_at) (defScope s__law_cell_at) .none kV11 dc11 pm11 an11 cd11 ct11), sl11⟩)
    (c11 : PySem.W.codeIn K cd11 "_law_cell_at" = true)
    (k11 : PySem.W.keepIn K (.ref f11) = true)
    (d12 : PySem.W.nsIn K mainGlobals "_law_sign" = some (some (.ref f12)))
    (l12 : K.lookup f12 = some ⟨oc12, od12, .func (PySem.W.fnOf "_law_sign" "_law_sign" (defArgs s__law_sign) (defBody s__law_sign) (defScope s__law_sign) .none kV12 dc12 pm12 an12 cd12 ct12), sl12⟩)
    (c12 : PySem.W.codeIn K cd12 "_law_sign" = true)
    (k12 : PySem.W.keepIn K (.ref f12) = true)
    (d13 : PySem.W.nsIn K mainGlobals "_law_name" = some (some (.ref f13)))
    (l13 : K.lookup f13 = some ⟨oc13, od13, .func (PySem.W.fnOf "_law_name" "_law_name" (defArgs s__law_name) (defBody s__law_name) (defScope s__law_name) .none kV13 dc13 pm13 an13 cd13 ct13), sl13⟩)
    (c13 : PySem.W.codeIn K cd13 "_law_name" = true)
    (k13 : PySem.W.keepIn K (.ref f13) = true)
    (d14 : PySem.W.nsIn K mainGlobals "_law_part" = some (some (.ref f14)))
    (l14 : K.lookup f14 = some ⟨oc14, od14, .func (PySem.W.fnOf "_law_part" "_law_part" (defArgs s__law_part) (defBody s__law_part) (defScope s__law_part) .none kV14 dc14 pm14 an14 cd14 ct14), sl14⟩)
    (c14 : PySem.W.codeIn K cd14 "_law_part" = true)
    (k14 : PySem.W.keepIn K (.ref f14) = true)
    (d15 : PySem.W.nsIn K mainGlobals "_law_worth" = some (some (.ref f15)))
    (l15 : K.lookup f15 = some ⟨oc15, od15, .func (PySem.W.fnOf "_law_worth" "_law_worth" (defArgs s__law_worth) (defBody s__law_worth) (defScope s__law_worth) .none kV15 dc15 pm15 an15 cd15 ct15), sl15⟩)
    (c15 : PySem.W.codeIn K cd15 "_law_worth" = true)
    (k15 : PySem.W.keepIn K (.ref f15) = true)
    (d16 : PySem.W.nsIn K mainGlobals "_law_rule" = some (some (.ref f16)))
    (l16 : K.lookup f16 = some ⟨oc16, od16, .func (PySem.W.fnOf "_law_rule" "_law_rule" (defArgs s__law_rule) (defBody s__law_rule) (defScope s__law_rule) .none kV16 dc16 pm16 an16 cd16 ct16), sl16⟩)
    (c16 : PySem.W.codeIn K cd16 "_law_rule" = true)
    (k16 : PySem.W.keepIn K (.ref f16) = true)
    (d17 : PySem.W.nsIn K mainGlobals "_law_written" = some (some (.ref f17)))
    (l17 : K.lookup f17 = some ⟨oc17, od17, .func (PySem.W.fnOf "_law_written" "_law_written" (defArgs s__law_written) (defBody s__law_written) (defScope s__law_written) .none kV17 dc17 pm17 an17 cd17 ct17), sl17⟩)
    (c17 : PySem.W.codeIn K cd17 "_law_written" = true)
    (k17 : PySem.W.keepIn K (.ref f17) = true)
    (d18 : PySem.W.nsIn K mainGlobals "_law_alike" = some (some (.ref f18)))
    (l18 : K.lookup f18 = some ⟨oc18, od18, .func (PySem.W.fnOf "_law_alike" "_law_alike" (defArgs s__law_alike) (defBody s__law_alike) (defScope s__law_alike) .none kV18 dc18 pm18 an18 cd18 ct18), sl18⟩)
    (c18 : PySem.W.codeIn K cd18 "_law_alike" = true)
    (k18 : PySem.W.keepIn K (.ref f18) = true)
    (d19 : PySem.W.nsIn K mainGlobals "_law_figures" = some (some (.ref f19)))
    (l19 : K.lookup f19 = some ⟨oc19, od19, .func (PySem.W.fnOf "_law_figures" "_law_figures" (defArgs s__law_figures) (defBody s__law_figures) (defScope s__law_figures) .none kV19 dc19 pm19 an19 cd19 ct19), sl19⟩)
    (c19 : PySem.W.codeIn K cd19 "_law_figures" = true)
    (k19 : PySem.W.keepIn K (.ref f19) = true)
    (d20 : PySem.W.nsIn K mainGlobals "_law_is_name" = some (some (.ref f20)))
    (l20 : K.lookup f20 = some ⟨oc20, od20, .func (PySem.W.fnOf "_law_is_name" "_law_is_name" (defArgs s__law_is_name) (defBody s__law_is_name) (defScope s__law_is_name) .none kV20 dc20 pm20 an20 cd20 ct20), sl20⟩)
    (c20 : PySem.W.codeIn K cd20 "_law_is_name" = true)
    (k20 : PySem.W.keepIn K (.ref f20) = true)
    (d21 : PySem.W.nsIn K mainGlobals "_law_due" = some (some (.ref f21)))
    (l21 : K.lookup f21 = some ⟨oc21, od21, .func (PySem.W.fnOf "_law_due" "_law_due" (defArgs s__law_due) (defBody s__law_due) (defScope s__law_due) .none kV21 dc21 pm21 an21 cd21 ct21), sl21⟩)
    (c21 : PySem.W.codeIn K cd21 "_law_due" = true)
    (k21 : PySem.W.keepIn K (.ref f21) = true)
    (d22 : PySem.W.nsIn K mainGlobals "_law_spoilt" = some (some (.ref f22)))
    (l22 : K.lookup f22 = some ⟨oc22, od22, .func (PySem.W.fnOf "_law_spoilt" "_law_spoilt" (defArgs s__law_spoilt) (defBody s__law_spoilt) (defScope s__law_spoilt) .none kV22 dc22 pm22 an22 cd22 ct22), sl22⟩)
    (c22 : PySem.W.codeIn K cd22 "_law_spoilt" = true)
    (k22 : PySem.W.keepIn K (.ref f22) = true)
    (d23 : PySem.W.nsIn K mainGlobals "_law_odd" = some (some (.ref f23)))
    (l23 : K.lookup f23 = some ⟨oc23, od23, .func (PySem.W.fnOf "_law_odd" "_law_odd" (defArgs s__law_odd) (defBody s__law_odd) (defScope s__law_odd) .none kV23 dc23 pm23 an23 cd23 ct23), sl23⟩)
    (c23 : PySem.W.codeIn K cd23 "_law_odd" = true)
    (k23 : PySem.W.keepIn K (.ref f23) = true)
    (d24 : PySem.W.nsIn K mainGlobals "_law_refused" = some (some (.ref f24)))
    (l24 : K.lookup f24 = some ⟨oc24, od24, .func (PySem.W.fnOf "_law_refused" "_law_refused" (defArgs s__law_refused) (defBody s__law_refused) (defScope s__law_refused) .none kV24 dc24 pm24 an24 cd24 ct24), sl24⟩)
    (c24 : PySem.W.codeIn K cd24 "_law_refused" = true)
    (k24 : PySem.W.keepIn K (.ref f24) = true)
    (d25 : PySem.W.nsIn K mainGlobals "_law_right" = some (some (.ref f25)))
    (l25 : K.lookup f25 = some ⟨oc25, od25, .func (PySem.W.fnOf "_law_right" "_law_right" (defArgs s__law_right) (defBody s__law_right) (defScope s__law_right) .none kV25 dc25 pm25 an25 cd25 ct25), sl25⟩)
    (c25 : PySem.W.codeIn K cd25 "_law_right" = true)
    (k25 : PySem.W.keepIn K (.ref f25) = true)
    (d26 : PySem.W.nsIn K mainGlobals "law" = some (some (.ref f26)))
    (l26 : K.lookup f26 = some ⟨oc26, od26, .func (PySem.W.fnOf "law" "law" (defArgs s_law) (defBody s_law) (defScope s_law) .none kV26 dc26 pm26 an26 cd26 ct26), sl26⟩)
    (c26 : PySem.W.codeIn K cd26 "law" = true)
    (k26 : PySem.W.keepIn K (.ref f26) = true)
    (iFIRST_CODE : PySem.W.nsIn K mainGlobals "FIRST_CODE" = some (some (.int 32 tFIRST_CODE)))
    (iLAST_CODE : PySem.W.nsIn K mainGlobals "LAST_CODE" = some (some (.int 126 tLAST_CODE)))
    (iPERCENT_CODE : PySem.W.nsIn K mainGlobals "PERCENT_CODE" = some (some (.int 37 tPERCENT_CODE)))
    (iMOST_LETTERS : PySem.W.nsIn K mainGlobals "MOST_LETTERS" = some (some (.int 8 tMOST_LETTERS)))
    (iMOST_PARTS : PySem.W.nsIn K mainGlobals "MOST_PARTS" = some (some (.int 6 tMOST_PARTS)))
    (iMOST_FIGURES : PySem.W.nsIn K mainGlobals "MOST_FIGURES" = some (some (.int 61 tMOST_FIGURES)))
    (zisinstance : PySem.W.nsIn K mainGlobals "isinstance" = some none)
    (zint : PySem.W.nsIn K mainGlobals "int" = some none)
    (zbool : PySem.W.nsIn K mainGlobals "bool" = some none)
    (zord : PySem.W.nsIn K mainGlobals "ord" = some none)
    (zstr : PySem.W.nsIn K mainGlobals "str" = some none)
    (zlen : PySem.W.nsIn K mainGlobals "len" = some none)
    (zall : PySem.W.nsIn K mainGlobals "all" = some none)
    (ztuple : PySem.W.nsIn K mainGlobals "tuple" = some none)
    (zrange : PySem.W.nsIn K mainGlobals "range" = some none)
    (zValueError : PySem.W.nsIn K mainGlobals "ValueError" = some none)
    (xNoRule : PySem.W.excIn K c_NoRule [.type "ValueError", .type "Exception", .type "BaseException", .type "object"] "ValueError.__new__" = true)
    (exga_NoRule : PySem.W.findIn K (.ref c_NoRule) "__getattribute__" = some (some (.builtin "BaseException.__getattribute__")))
    (exgt_NoRule : PySem.W.findIn K (.ref c_NoRule) "__getattr__" = some none)
    (excl_NoRule : PySem.W.findIn K (.ref c_NoRule) "__class__" = some (some (.builtin "object.__class__")))
    (exmb_NoRule : PySem.W.mroIn K c_NoRule (.type "BaseException") = some true)
    (exmo_NoRule : PySem.W.mroIn K c_NoRule (.type "object") = some true)
    (exgs_ : PySem.W.specialIn K (.builtin "object.__class__") "__get__" = some (some (.builtin "getset_descriptor.__get__")))
    (extk_ : PySem.W.takesIn K (.builtin "object.__class__") = some true)
    (exFR : PySem.W.exmOne K (.ref c_NoRule) (.ref c_ForestError) = some true)
    (eval : PySem.W.kitOne K (.ref c_NoRule) (.type "ValueError") = some true)
    (enoG : PySem.W.kitOne K (.ref c_NoRule) (.ref c_NoGrammar) = some false)
    (enoR : PySem.W.kitOne K (.ref c_NoRule) (.ref c_NoRow) = some false)
    (enoT : PySem.W.kitOne K (.ref c_NoRule) (.ref c_NoText) = some false) :
    ∃ fd : FuncData, (∀ (s : Shared) (v : Value), BindsTo s fd ⟨[v], []⟩ [("_law_script", v)]) ∧ ∀ base : Heap, K.In base → base.Ns mainGlobals mg → FnOk l.prog w K mg base CX0 9 fa fd ["_law_script"] (spLaw K) := by
  have e := hfa.symm.trans (PySem.W.mg_of X G d26)
  cases e
  have m := fun {x : Str} {v : Value} (h : PySem.W.nsIn K mainGlobals x = some (some v)) => PySem.W.mg_of X G h
  have z := fun {x : Str} (h : PySem.W.nsIn K mainGlobals x = some none) => PySem.W.mg_none_of X G h
  have T : Txt K mg ⟨c_NoRule, c_ForestError, c_NoGrammar, c_NoRow, c_NoText, 0⟩ := ⟨z zisinstance, z zint, z zbool, z zord, z zstr, z zlen, z zall, z ztuple, z zrange, z zValueError, ⟨_, m iFIRST_CODE⟩, ⟨_, m iLAST_CODE⟩, ⟨_, m iPERCENT_CODE⟩, ⟨_, m iMOST_LETTERS⟩, ⟨_, m iMOST_PARTS⟩, ⟨_, m iMOST_FIGURES⟩, m nNoRule, m nForestError, m nNoGrammar, m nNoRow, m nNoText, xNoRule, exga_NoRule, exgt_NoRule, excl_NoRule, exmb_NoRule, exmo_NoRule, exgs_, extk_, exFR, eval, enoG, enoR, enoT⟩
  have F0 := fun_mk (st := s_is_whole) l0 c0 k0
  have B0 := F0.binds (ps := ["thing"]) fun _ _ _ _ _ _ us hl => match us, hl with | [_], _ => rfl
  have F1 := fun_mk (st := s_stands_in_texts) l1 c1 k1
  have B1 := F1.binds (ps := ["sign"]) fun _ _ _ _ _ _ us hl => match us, hl with | [_], _ => rfl
  have F2 := fun_mk (st := s_is_sign) l2 c2 k2
  have B2 := F2.binds (ps := ["thing"]) fun _ _ _ _ _ _ us hl => match us, hl with | [_], _ => rfl
  have F3 := fun_mk (st := s_is_name) l3 c3 k3
  have B3 := F3.binds (ps := ["thing"]) fun _ _ _ _ _ _ us hl => match us, hl with | [_], _ => rfl
  have F4 := fun_mk (st := s_is_part) l4 c4 k4
  have B4 := F4.binds (ps := ["thing"]) fun _ _ _ _ _ _ us hl => match us, hl with | [_], _ => rfl
  have F5 := fun_mk (st := s_is_worth) l5 c5 k5
  have B5 := F5.binds (ps := ["thing"]) fun _ _ _ _ _ _ us hl => match us, hl with | [_], _ => rfl
  have F6 := fun_mk (st := s_are_parts) l6 c6 k6
  have B6 := F6.binds (ps := ["thing"]) fun _ _ _ _ _ _ us hl => match us, hl with | [_], _ => rfl
  have F7 := fun_mk (st := s_is_rule) l7 c7 k7
  have B7 := F7.binds (ps := ["thing"]) fun _ _ _ _ _ _ us hl => match us, hl with | [_], _ => rfl
  have F8 := fun_mk (st := s_is_figures) l8 c8 k8
  have B8 := F8.binds (ps := ["thing"]) fun _ _ _ _ _ _ us hl => match us, hl with | [_], _ => rfl
  have F9 := fun_mk (st := s_read_part) l9 c9 k9
  have B9 := F9.binds (ps := ["word"]) fun _ _ _ _ _ _ us hl => match us, hl with | [_], _ => rfl
  have F10 := fun_mk (st := s_read_rule) l10 c10 k10
  have B10 := F10.binds (ps := ["text"]) fun _ _ _ _ _ _ us hl => match us, hl with | [_], _ => rfl
  have F11 := fun_mk (st := s__law_cell_at) l11 c11 k11
  have B11 := F11.binds (ps := ["_law_script", "_law_k"]) fun _ _ _ _ _ _ us hl => match us, hl with | [_, _], _ => rfl
  have F12 := fun_mk (st := s__law_sign) l12 c12 k12
  have B12 := F12.binds (ps := ["_law_cell"]) fun _ _ _ _ _ _ us hl => match us, hl with | [_], _ => rfl
  have F13 := fun_mk (st := s__law_name) l13 c13 k13
  have B13 := F13.binds (ps := ["_law_cell"]) fun _ _ _ _ _ _ us hl => match us, hl with | [_], _ => rfl
  have F14 := fun_mk (st := s__law_part) l14 c14 k14
  have B14 := F14.binds (ps := ["_law_cell"]) fun _ _ _ _ _ _ us hl => match us, hl with | [_], _ => rfl
  have F15 := fun_mk (st := s__law_worth) l15 c15 k15
  have B15 := F15.binds (ps := ["_law_cell"]) fun _ _ _ _ _ _ us hl => match us, hl with | [_], _ => rfl
  have F16 := fun_mk (st := s__law_rule) l16 c16 k16
  have B16 := F16.binds (ps := ["_law_script", "_law_at"]) fun _ _ _ _ _ _ us hl => match us, hl with | [_, _], _ => rfl
  have F17 := fun_mk (st := s__law_written) l17 c17 k17
  have B17 := F17.binds (ps := ["_law_rule_here"]) fun _ _ _ _ _ _ us hl => match us, hl with | [_], _ => rfl
  have F18 := fun_mk (st := s__law_alike) l18 c18 k18
  have B18 := F18.binds (ps := ["_law_found", "_law_due_here"]) fun _ _ _ _ _ _ us hl => match us, hl with | [_, _], _ => rfl
  have F19 := fun_mk (st := s__law_figures) l19 c19 k19
  have B19 := F19.binds (ps := ["_law_word"]) fun _ _ _ _ _ _ us hl => match us, hl with | [_], _ => rfl
  have F20 := fun_mk (st := s__law_is_name) l20 c20 k20
  have B20 := F20.binds (ps := ["_law_word"]) fun _ _ _ _ _ _ us hl => match us, hl with | [_], _ => rfl
  have F21 := fun_mk (st := s__law_due) l21 c21 k21
  have B21 := F21.binds (ps := ["_law_text"]) fun _ _ _ _ _ _ us hl => match us, hl with | [_], _ => rfl
  have F22 := fun_mk (st := s__law_spoilt) l22 c22 k22
  have B22 := F22.binds (ps := ["_law_text", "_law_cell"]) fun _ _ _ _ _ _ us hl => match us, hl with | [_, _], _ => rfl
  have F23 := fun_mk (st := s__law_odd) l23 c23 k23
  have B23 := F23.binds (ps := ["_law_rule_here"]) fun _ _ _ _ _ _ us hl => match us, hl with | [_], _ => rfl
  have F24 := fun_mk (st := s__law_refused) l24 c24 k24
  have B24 := F24.binds (ps := ["_law_text"]) fun _ _ _ _ _ _ us hl => match us, hl with | [_], _ => rfl
  have F25 := fun_mk (st := s__law_right) l25 c25 k25
  have B25 := F25.binds (ps := ["_law_text"]) fun _ _ _ _ _ _ us hl => match us, hl with | [_], _ => rfl
  have F26 := fun_mk (st := s_law) l26 c26 k26
  have U_is_whole : Used l.prog w K mg CX0 1 "is_whole" ["thing"] (spIs isWholeD) := ⟨⟨f0, _, fun base => ok_is_whole F0 T, m d0, k0, B0⟩⟩
  have U_stands_in_texts : Used l.prog w K mg CX0 1 "stands_in_texts" ["sign"] (spStands) := ⟨⟨f1, _, fun base => ok_stands_in_texts F1 T, m d1, k1, B1⟩⟩
  have U_is_sign : Used l.prog w K mg CX0 2 "is_sign" ["thing"] (spIs isSignD) := ⟨⟨f2, _, fun base => ok_is_sign F2 T U_stands_in_texts, m d2, k2, B2⟩⟩
  have U_is_name : Used l.prog w K mg CX0 1 "is_name" ["thing"] (spIs isNameD) := ⟨⟨f3, _, fun base => ok_is_name F3 T, m d3, k3, B3⟩⟩
  have U_is_part : Used l.prog w K mg CX0 3 "is_part" ["thing"] (spIs isPartD) := ⟨⟨f4, _, fun base => ok_is_part F4 T U_is_sign U_is_name, m d4, k4, B4⟩⟩
  have U_is_worth : Used l.prog w K mg CX0 2 "is_worth" ["thing"] (spIs isWorthD) := ⟨⟨f5, _, fun base => ok_is_worth F5 T U_is_whole, m d5, k5, B5⟩⟩
  have U_are_parts : Used l.prog w K mg CX0 4 "are_parts" ["thing"] (spIs arePartsD) := ⟨⟨f6, _, fun base => ok_are_parts F6 T U_is_part, m d6, k6, B6⟩⟩
  have U_is_rule : Used l.prog w K mg CX0 5 "is_rule" ["thing"] (spIs isRuleD) := ⟨⟨f7, _, fun base => ok_is_rule F7 T U_is_name U_are_parts U_is_worth, m d7, k7, B7⟩⟩
  have U_is_figures : Used l.prog w K mg CX0 1 "is_figures" ["thing"] (spFigures) := ⟨⟨f8, _, fun base => ok_is_figures F8 T, m d8, k8, B8⟩⟩
  have U_read_part : Used l.prog w K mg CX0 1 "read_part" ["word"] (spStr1 readPartS) := ⟨⟨f9, _, fun base => ok_read_part F9 T, m d9, k9, B9⟩⟩
  have U_read_rule : Used l.prog w K mg (CXo l.prog w) 6 "read_rule" ["text"] (spReadRule c_NoRule) := ⟨⟨f10, _, fun base => ok_read_rule F10 T U_is_rule U_is_figures U_read_part, m d10, k10, B10⟩⟩
  have U__law_cell_at : Used l.prog w K mg CX0 1 "_law_cell_at" ["_law_script", "_law_k"] (spCell K) := ⟨⟨f11, _, fun base => ok__law_cell_at F11 T, m d11, k11, B11⟩⟩
  have U__law_sign : Used l.prog w K mg CX0 1 "_law_sign" ["_law_cell"] (spSign) := ⟨⟨f12, _, fun base => ok__law_sign F12 T, m d12, k12, B12⟩⟩
  have U__law_name : Used l.prog w K mg CX0 1 "_law_name" ["_law_cell"] (spName) := ⟨⟨f13, _, fun base => ok__law_name F13 T, m d13, k13, B13⟩⟩
  have U__law_part : Used l.prog w K mg CX0 2 "_law_part" ["_law_cell"] (spPart) := ⟨⟨f14, _, fun base => ok__law_part F14 T U__law_name U__law_sign, m d14, k14, B14⟩⟩
  have U__law_worth : Used l.prog w K mg CX0 1 "_law_worth" ["_law_cell"] (spWorthL) := ⟨⟨f15, _, fun base => ok__law_worth F15 T, m d15, k15, B15⟩⟩
  have U__law_rule : Used l.prog w K mg CX0 3 "_law_rule" ["_law_script", "_law_at"] (spRuleL K) := ⟨⟨f16, _, fun base => ok__law_rule F16 T U__law_cell_at U__law_part U__law_name U__law_worth, m d16, k16, B16⟩⟩
  have U__law_written : Used l.prog w K mg CX0 1 "_law_written" ["_law_rule_here"] (spWritten) := ⟨⟨f17, _, fun base => ok__law_written F17 T, m d17, k17, B17⟩⟩
  have U__law_alike : Used l.prog w K mg CX0 1 "_law_alike" ["_law_found", "_law_due_here"] (spAlike) := ⟨⟨f18, _, fun base => ok__law_alike F18 T, m d18, k18, B18⟩⟩
  have U__law_figures : Used l.prog w K mg CX0 1 "_law_figures" ["_law_word"] (spFig81) := ⟨⟨f19, _, fun base => ok__law_figures F19 T, m d19, k19, B19⟩⟩
  have U__law_is_name : Used l.prog w K mg CX0 1 "_law_is_name" ["_law_word"] (spIsName) := ⟨⟨f20, _, fun base => ok__law_is_name F20 T, m d20, k20, B20⟩⟩
  have U__law_due : Used l.prog w K mg CX0 2 "_law_due" ["_law_text"] (spDue) := ⟨⟨f21, _, fun base => ok__law_due F21 T U__law_figures U__law_is_name, m d21, k21, B21⟩⟩
  have U__law_spoilt : Used l.prog w K mg CX0 1 "_law_spoilt" ["_law_text", "_law_cell"] (spSpoilt) := ⟨⟨f22, _, fun base => ok__law_spoilt F22 T, m d22, k22, B22⟩⟩
  have U__law_odd : Used l.prog w K mg CX0 1 "_law_odd" ["_law_rule_here"] (spOdd) := ⟨⟨f23, _, fun base => ok__law_odd F23 T, m d23, k23, B23⟩⟩
  have U__law_refused : Used l.prog w K mg CX0 7 "_law_refused" ["_law_text"] (spRefused) := ⟨⟨f24, _, fun base => ok__law_refused F24 T U_read_rule, m d24, k24, B24⟩⟩
  have U__law_right : Used l.prog w K mg CX0 8 "_law_right" ["_law_text"] (spRight) := ⟨⟨f25, _, fun base => ok__law_right F25 T U__law_due U__law_alike U__law_refused U_read_rule, m d25, k25, B25⟩⟩
  exact ⟨PySem.W.fnOf "law" "law" (defArgs s_law) (defBody s_law) (defScope s_law) .none kV26 dc26 pm26 an26 cd26 ct26, fun s v => .of_eq rfl, fun base _ _ => ok_law F26 T U__law_rule U__law_written U__law_odd U__law_alike U__law_right U__law_refused U_read_rule U__law_spoilt⟩
theorem walk {l : PySem.W.OpenLaw} {q : Program} {loose : List Str} {XP : (Str → Option Value) → Heap → Prop} {YP : World → Heap → Prop} {d : DefRec} {K : Params → PySem.W.Frag} (hn : l.most = some 63) (hdf : d.params.defaults = [])
    (hY : ∀ (w : World) (h : Heap), YP w h → (K w.params).In h)
    (F : ∀ (w : World) (mg : Str → Option Value) (fa : Addr) (h : Heap), (K w.params).In h → h.Ns mainGlobals mg → mg d.name = some (.ref fa) →
      ∃ fd : FuncData, (∀ (s : Shared) (u : Value), BindsTo s fd ⟨[u], []⟩ [("_law_script", u)]) ∧ ∀ base : Heap, (K w.params).In base → base.Ns mainGlobals mg → FnOk l.prog w (K w.params) mg base CX0 9 fa fd ["_law_script"] (spLaw (K w.params))) :
    PySem.W.WalkO q loose XP YP l.row.toRowW d [] (fun f vs => PySem.call f vs) :=
  L2.walk_of (n := 63) (k := 9) (x := "_law_script") (CX := fun _ => CX0) (sp := fun w => spLaw (K w.params)) hn (by decide) hdf ⟨rfl, by decide, by decide⟩ hY F (fun _ _ a ns hl hO hS => law_start hl hO hS) fun _ _ _ _ _ z => z
end FR
open PySem PySem.W PyProof.Rows
def PySem.W.Fast.tw12315009091259975014 : Nat := 0
def PySem.W.Fast.tw5543061592644802971 : Nat := 0
def PySem.W.Fast.tw7825424237470167847 : Nat := 0
def PySem.W.Fast.tw18299796761587725750 : Nat := 0
def PySem.W.Fast.tw12828355130916012934 : Nat := 0
def PySem.W.Fast.tw5175124457132698362 : Nat := 0
def PySem.W.Fast.tw16691686182684552220 : Nat := 0
def PySem.W.Fast.tw6753523518003783680 : Nat := 0
def PySem.W.Fast.tw5898311179718942877 : Nat := 0
def PySem.W.Fast.tw15066097823837885131 : Nat := 0
def PySem.W.Fast.tw10661263296068922072 : Nat := 0
set_option maxRecDepth 100000 in
set_option maxHeartbeats 0 in
theorem PySem.Challenge.cw_forestread_k81_rules_read_holds : PySem.Challenge.rw_forestread_k81_rules_read.Holds := by
  w_on; o_law; k_head; (case hw => w_witness2)
  k_fill
  refine FR.walk (l := PySem.Challenge.rw_forestread_k81_rules_read) rfl rfl (fun w h Y => PySem.W.kIn_of Y) ?F
  case F =>
    intro w mg fa h KX G hmg
    refine' FR.all_mk KX G hmg ?nNoRule ?nForestError ?nNoGrammar ?nNoRow ?nNoText ?d0 ?l0 ?c0 ?k0 ?d1 ?l1 ?c1 ?k1 ?d2 ?l2 ?c2 ?k2 ?d3 ?l3 ?c3 ?k3 ?d4 ?l4 ?c4 ?k4 ?d5 ?l5 ?c5 ?k5 ?d6 ?l6 ?c6 ?k6 ?d7 ?l7 ?c7 ?k7 ?d8 ?l8 ?c8 ?k8 ?d9 ?l9 ?c9 ?k9 ?d10 ?l10 ?c10 ?k10 ?d11 ?l11 ?c11 ?k11 ?d12 ?l12 ?c12 ?k12 ?d13 ?l13 ?c13 ?k13 ?d14 ?l14 ?c14 ?k14 ?d15 ?l15 ?c15 ?k15 ?d16 ?l16 ?c16 ?k16 ?d17 ?l17 ?c17 ?k17 ?d18 ?l18 ?c18 ?k18 ?d19 ?l19 ?c19 ?k19 ?d20 ?l20 ?c20 ?k20 ?d21 ?l21 ?c21 ?k21 ?d22 ?l22 ?c22 ?k22 ?d23 ?l23 ?c23 ?k23 ?d24 ?l24 ?c24 ?k24 ?d25 ?l25 ?c25 ?k25 ?d26 ?l26 ?c26 ?k26 ?iFIRST_CODE ?iLAST_CODE ?iPERCENT_CODE ?iMOST_LETTERS ?iMOST_PARTS ?iMOST_FIGURES ?zisinstance ?zint ?zbool ?zord ?zstr ?zlen ?zall ?ztuple ?zrange ?zValueError ?xNoRule ?exga_NoRule ?exgt_NoRule ?excl_NoRule ?exmb_NoRule ?exmo_NoRule ?exgs_ ?extk_ ?exFR ?eval ?enoG ?enoR ?enoT
    (case nNoRule => k_is)
    (case nForestError => k_is)
    (case nNoGrammar => k_is)
    (case nNoRow => k_is)
    (case nNoText => k_is)
    (case d0 => k_is)
    (case l0 => k_is)
    (case c0 => k_is)
    (case k0 => k_is)
    (case d1 => k_is)
    (case l1 => k_is)
    (case c1 => k_is)
    (case k1 => k_is)
    (case d2 => k_is)
    (case l2 => k_is)
    (case c2 => k_is)
    (case k2 => k_is)
    (case d3 => k_is)
    (case l3 => k_is)
    (case c3 => k_is)
    (case k3 => k_is)
    (case d4 => k_is)
    (case l4 => k_is)
    (case c4 => k_is)
    (case k4 => k_is)
    (case d5 => k_is)
    (case l5 => k_is)
    (case c5 => k_is)
    (case k5 => k_is)
    (case d6 => k_is)
    (case l6 => k_is)
    (case c6 => k_is)
    (case k6 => k_is)
    (case d7 => k_is)
    (case l7 => k_is)
    (case c7 => k_is)
    (case k7 => k_is)
    (case d8 => k_is)
    (case l8 => k_is)
    (case c8 => k_is)
    (case k8 => k_is)
    (case d9 => k_is)
    (case l9 => k_is)
    (case c9 => k_is)
    (case k9 => k_is)
    (case d10 => k_is)
    (case l10 => k_is)
    (case c10 => k_is)
    (case k10 => k_is)
    (case d11 => k_is)
    (case l11 => k_is)
    (case c11 => k_is)
    (case k11 => k_is)
    (case d12 => k_is)
    (case l12 => k_is)
    (case c12 => k_is)
    (case k12 => k_is)
    (case d13 => k_is)
    (case l13 => k_is)
    (case c13 => k_is)
    (case k13 => k_is)
    (case d14 => k_is)
    (case l14 => k_is)
    (case c14 => k_is)
    (case k14 => k_is)
    (case d15 => k_is)
    (case l15 => k_is)
    (case c15 => k_is)
    (case k15 => k_is)
    (case d16 => k_is)
    (case l16 => k_is)
    (case c16 => k_is)
    (case k16 => k_is)
    (case d17 => k_is)
    (case l17 => k_is)
    (case c17 => k_is)
    (case k17 => k_is)
    (case d18 => k_is)
    (case l18 => k_is)
    (case c18 => k_is)
    (case k18 => k_is)
    (case d19 => k_is)
    (case l19 => k_is)
    (case c19 => k_is)
    (case k19 => k_is)
    (case d20 => k_is)
    (case l20 => k_is)
    (case c20 => k_is)
    (case k20 => k_is)
    (case d21 => k_is)
    (case l21 => k_is)
    (case c21 => k_is)
    (case k21 => k_is)
    (case d22 => k_is)
    (case l22 => k_is)
    (case c22 => k_is)
    (case k22 => k_is)
    (case d23 => k_is)
    (case l23 => k_is)
    (case c23 => k_is)
    (case k23 => k_is)
    (case d24 => k_is)
    (case l24 => k_is)
    (case c24 => k_is)
    (case k24 => k_is)
    (case d25 => k_is)
    (case l25 => k_is)
    (case c25 => k_is)
    (case k25 => k_is)
    (case d26 => k_is)
    (case l26 => k_is)
    (case c26 => k_is)
    (case k26 => k_is)
    (case iFIRST_CODE => k_is)
    (case iLAST_CODE => k_is)
    (case iPERCENT_CODE => k_is)
    (case iMOST_LETTERS => k_is)
    (case iMOST_PARTS => k_is)
    (case iMOST_FIGURES => k_is)
    (case zisinstance => k_is)
    (case zint => k_is)
    (case zbool => k_is)
    (case zord => k_is)
    (case zstr => k_is)
    (case zlen => k_is)
    (case zall => k_is)
    (case ztuple => k_is)
    (case zrange => k_is)
    (case zValueError => k_is)
    (case xNoRule => k_exc)
    (case exga_NoRule => k_is)
    (case exgt_NoRule => k_is)
    (case excl_NoRule => k_is)
    (case exmb_NoRule => k_is)
    (case exmo_NoRule => k_is)
    (case exgs_ => k_is)
    (case extk_ => k_is)
    (case exFR => kts_exm)
    (case eval => kit_is)
    (case enoG => kit_is)
    (case enoR => kit_is)
    (case enoT => kit_is)
