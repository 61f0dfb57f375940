import PyProof.Rows.All
import Wide.All
import OpenK.AllK
import Wide.FinOn
import Lean
import PyProof.EqAt
import PyProof.EqKinds
import PyProof.TupleCall
import PySem.Challenge.RW_forestread_k13_a_row_with_it
set_option Elab.async false
set_option linter.all false
set_option maxRecDepth 100000
theorem U{α:Sort u}{a:α}:a=a:=rfl
abbrev YKF:=@List.length_map
abbrev YKG:=@PySem.wpAny_bind
abbrev YKH:=@Nat.le_refl
abbrev YKI:=@PySem.Heap.get?_push_of_some
abbrev YKJ:=@List.length_append
abbrev YKK:=@List.getElem?_eq_getElem
abbrev YKL:=@List.mem_of_getElem?
abbrev YKM:=@Bool.and_eq_true
abbrev YKN:=@decide_eq_true
abbrev YKO:=@decide_eq_false
abbrev YKP:=@PyProof.Rows.Boot.«len»
abbrev YKQ:=@List.size_toArray
abbrev YKR:=@List.getElem?_eq_some_iff
abbrev YKS:=@PySem.Heap.lt_size
abbrev YKT:=@List.mem_cons
abbrev YKU:=@List.mem_map
abbrev YKV:=@PySem.wpAny_pure
abbrev YKW:=@List.map_append
abbrev YKX:=@List.length_cons
abbrev YKY:=@List.mem_cons_of_mem
abbrev YKZ:=@Bool.false_ne_true
abbrev YKa:=@List.map_cons
abbrev YKb:=@PyProof.Rows.Boot.«isinstance»
abbrev YKc:=@PySem.F.plainAttrs_list
abbrev YKd:=@List.mem_cons_self
abbrev YKe:=@PySem.Heap.get?_push_size
abbrev YKf:=@List.mem_singleton
abbrev YKg:=@List.mem_append_right
abbrev YKh:=@of_decide_eq_true
abbrev YKi:=@Nat.lt_of_lt_of_le
abbrev YKj:=@List.all_eq_true
abbrev YKk:=@List.getElem?_map
abbrev YKl:=@List.length_reverse
abbrev YKm:=@Nat.zero_le
abbrev YKn:=@Nat.ne_of_lt
abbrev YKo:=@PySem.F.type_list_append
abbrev YKp:=@PySem.F.slot_list_append
abbrev YKq:=@Nat.le_trans
abbrev YKr:=@Option.some.inj
abbrev YKs:=@List.append_nil
abbrev YKt:=@decide_eq_true_eq
abbrev YKu:=@List.mem_append
abbrev YKv:=@List.filter_cons
abbrev YKw:=@List.getElem?_append_right
abbrev YKx:=@List.mem_append_left
abbrev YKy:=@PyProof.Rows.Boot.«list»
abbrev YKz:=@Int.le_refl
abbrev YK0:=@List.append_assoc
abbrev YK1:=@List.reverse_append
abbrev YK2:=@Array.length_toList
abbrev YK3:=@List.length_take
abbrev YK4:=@List.length_drop
abbrev YK5:=@PySem.Heap.get?_update_self
abbrev YK6:=@Array.getElem?_toList
abbrev YK7:=@Int.mul_le_mul_of_nonneg_right
abbrev YK8:=@PyProof.Rows.Boot.«int»
abbrev YK9:=@List.nodup_cons
abbrev YLA:=@List.getElem?_append_left
abbrev YLB:=@Nat.lt_irrefl
abbrev YLC:=@Option.isSome_map
abbrev YLD:=@Nat.ne_of_gt
abbrev YLE:=@List.sum_cons
abbrev YLF:=@Bool.eq_iff_iff
abbrev YLG:=@List.not_mem_nil
abbrev YLH:=@Bool.eq_false_iff
abbrev YLI:=@List.mem_range
abbrev YLJ:=@List.drop_eq_getElem_cons
abbrev YLK:=@PyProof.Rows.Boot.«reversed»
abbrev YLL:=@Nat.zero_lt_one
abbrev YLM:=@Int.emod_lt_of_pos
abbrev YLN:=@List.take_add_one
abbrev YLO:=@List.take_of_length_le
abbrev YLP:=@PySem.Heap.get?_update_other
abbrev YLQ:=@List.map_reverse
abbrev YLR:=@congrArg
abbrev YLS:=@List.getElem?_reverse
abbrev YLT:=@List.getElem?_eq_none
abbrev YLU:=@List.any_cons
abbrev YLV:=@List.all_cons
abbrev YLW:=@List.reverse_reverse
abbrev YLX:=@PySem.F.type_list_extend
abbrev YLY:=@PySem.F.slot_list_extend
abbrev YLZ:=@List.length_set
abbrev YLa:=@List.length_range
abbrev YLb:=@List.find?_cons
abbrev YLc:=@Int.toNat_natCast
abbrev YLd:=@Int.emod_nonneg
abbrev YLe:=@List.map_map
abbrev YLf:=@List.filterMap_cons
abbrev YLg:=@List.take_length
abbrev YLh:=@List.getElem?_set_self
abbrev YLi:=@PySem.F.type_str_startswith
abbrev YLj:=@PySem.F.slot_str_startswith
abbrev YLk:=@PyProof.Rows.Boot.«tuple»
abbrev YLl:=@Nat.le_succ
abbrev YLm:=@List.cons_lt_cons_iff
abbrev YLn:=@Int.le_trans
abbrev YLo:=@Bool.or_eq_true
abbrev YLp:=@List.reverse_cons
abbrev YLq:=@List.mem_iff_getElem
abbrev YLr:=@PyProof.Rows.Boot.«all»
abbrev YLs:=@List.getElem?_eq_none_iff
abbrev YLt:=@PySem.Heap.size_push
abbrev YLu:=@List.mem_reverse
abbrev YLv:=@List.map_congr_left
abbrev YLw:=@Nat.sub_self
abbrev YLx:=@Nat.le_of_lt
abbrev YLy:=@List.mem_filterMap
abbrev YLz:=@List.mem_filter
abbrev YL0:=@List.drop_zero
namespace L2
open PySem PySem.Spec PyProof.Rows
abbrev Key:=Sum Int Str
def YCR:Key->Value->Bool
 |.inl k,v=>Value.isInt k v
 |.inr x,v=>Value.isStrOf x v
def keyH (w:World):Key->Int
 |.inl k=>hashInt k
 |.inr x=>hashStr w x
theorem Y9:∀{k:Key}{v:Value},YCR k v=true->(∃i t,k=Sum.inl i/\v=Value.int i t)\/(∃x t,k=Sum.inr x/\v=Value.str x t)
 |.inl i,v,h=>by
  obtain⟨t,e⟩:=Value.isInt_shape (k:=i) (v:=v) h;exact .inl ⟨i,t,U,e⟩
 |.inr x,v,h=>by
  obtain⟨t,e⟩:=Value.isStrOf_shape (x:=x) (v:=v) h;exact .inr ⟨x,t,U,e⟩
theorem YHy (i:Int) (t:Tok):YCR (.inl i) (.int i t)=true:=by simp[YCR,Value.isInt]
theorem YHz (x:Str) (t:Tok):YCR (.inr x) (.str x t)=true:=by simp[YCR,Value.isStrOf]
theorem key_ll (a b:Int):decide ((Sum.inl a:Key)=Sum.inl b)=(a == b):=by
 by_cases e:a=b
 ·subst e;simp
 ·have h:¬(Sum.inl a:Key)=Sum.inl b:=λq=>e (Sum.inl.inj q)
  rw[YKO h];exact(beq_eq_false_iff_ne.mpr e).symm
theorem key_rr (a b:Str):decide ((Sum.inr a:Key)=Sum.inr b)=decide (a=b):=by
 by_cases e:a=b
 ·subst e;simp
 ·have h:¬(Sum.inr a:Key)=Sum.inr b:=λq=>e (Sum.inr.inj q)
  rw[YKO h,YKO e]
theorem key_lr (a:Int) (b:Str):decide ((Sum.inl a:Key)=Sum.inr b)=false:=YKO nofun
theorem key_rl (a:Str) (b:Int):decide ((Sum.inr a:Key)=Sum.inl b)=false:=YKO nofun
def Y1 (prog:Program) (w:World):PySem.KeyKind prog w Key where
 is:=YCR
 hash:=keyH w
 inj:=λv a b ha hb=>by
  rcases Y9 ha with ⟨i,t,rfl,rfl⟩ |⟨x,t,rfl,rfl⟩
  ·rcases Y9 hb with ⟨j,u,rfl,e⟩ |⟨y,u,rfl,e⟩
   ·injection e with e1 _;rw[e1]
   ·exact nomatch e
  ·rcases Y9 hb with ⟨j,u,rfl,e⟩ |⟨y,u,rfl,e⟩
   ·exact nomatch e
   ·injection e with e1 _;rw[e1]
 byValue:=λk v h=>by
  rcases Y9 h with ⟨i,t,rfl,rfl⟩ |⟨x,t,rfl,rfl⟩ <;> rfl
 pyHash:=λhv h=>by
  rcases Y9 hv with ⟨i,t,rfl,rfl⟩ |⟨x,t,rfl,rfl⟩
  ·exact wpAny_pyHash_int h
  ·exact wpAny_pyHash_str h
 eqBool:=λhu hv h=>by
  rcases Y9 hu with ⟨i,t,rfl,rfl⟩ |⟨x,t,rfl,rfl⟩
  ·rcases Y9 hv with ⟨j,u,rfl,rfl⟩ |⟨y,u,rfl,rfl⟩
   ·rw[key_ll]at h;exact wpAny_eqBool_int h
   ·rw[key_lr]at h;exact SeqAt.EqAt.int_str i t y u _ _ _ _ h
  ·rcases Y9 hv with ⟨j,u,rfl,rfl⟩ |⟨y,u,rfl,rfl⟩
   ·rw[key_rl]at h;exact SeqAt.EqAt.str_int x t j u _ _ _ _ h
   ·rw[key_rr]at h;exact wpAny_eqBool_str h
 «strs»:=λk x t v h=>by
  rcases Y9 h with ⟨i,u,rfl,e⟩ |⟨y,u,rfl,e⟩
  ·exact nomatch e
  ·injection e with e1 _
   subst e1;cases v <;> rfl
theorem YFH (prog:Program) (w:World) (i:Int) (t:Tok):(Y1 prog w).is (.inl i) (.int i t)=true:=YHy i t
theorem YFI (prog:Program) (w:World) (x:Str) (t:Tok):(Y1 prog w).is (.inr x) (.str x t)=true:=YHz x t
end L2
namespace L2
open PySem PySem.Spec PyProof.Rows
inductive V where
 |non |bl (b:Bool) |int (i:Int) |str (x:Str) |byt (b:Array UInt8) |flt (b:UInt64) |ref (a:Addr) |ty (n:String)
 deriving DecidableEq
def Yk:V->Value->Prop
 |.non,u=>u=Value.none
 |.bl b,u=>u=Value.bool b
 |.int i,u=>∃t,u=Value.int i t
 |.str x,u=>∃t,u=Value.str x t
 |.byt b,u=>∃t,u=Value.bytes b t
 |.flt b,u=>∃t,u=Value.float b t
 |.ref a,u=>u=Value.ref a
 |.ty n,u=>u=Value.type n
abbrev Yi:List V->List Value->Prop:=Paired Yk
theorem Yi.length {xs:List V}{us:List Value} (r:Yi xs us):xs.length=us.length:=Paired.length r
theorem Yi.get:∀{xs:List V}{us:List Value}{i:Nat}{x:V},Yi xs us->xs[i]?=some x->∃u,us[i]?=some u/\Yk x u
 |_,_,_,_,.nil,e=>by simp at e
 |_,_,0,_,.cons r _,e=>by simp at e;subst e;exact⟨_,U,r⟩
 |_,_,i + 1,x,.cons _ t,e=>by
  obtain⟨u,h1,h2⟩:=Yi.get (i:=i) (x:=x) t (by simpa using e);exact⟨u,by simpa using h1,h2⟩
theorem Yi.append:∀{xs ys:List V}{us ws:List Value},Yi xs us->Yi ys ws->Yi (xs ++ ys) (us ++ ws)
 |_,_,_,_,.nil,s=>s
 |_,_,_,_,.cons r t,s=>.cons r (Yi.append t s)
theorem Yi.take:∀{xs:List V}{us:List Value} (n:Nat),Yi xs us->Yi (xs.take n) (us.take n)
 |_,_,0,_=>.nil
 |_,_,_ + 1,.nil=>.nil
 |_,_,n + 1,.cons r t=>.cons r (Yi.take n t)
theorem Yi.drop:∀{xs:List V}{us:List Value} (n:Nat),Yi xs us->Yi (xs.drop n) (us.drop n)
 |_,_,0,r=>r
 |_,_,_ + 1,.nil=>.nil
 |_,_,n + 1,.cons _ t=>Yi.drop n t
theorem Yi.none_of:∀{xs:List V}{us:List Value}{i:Nat},Yi xs us->xs[i]?=none->us[i]?=none:=λ{xs us i} r e=>by
 have h1:=r.length;have h2:xs.length<=i:=YLs.mp e;exact YLs.mpr (by omega)
def YBa:Option V->Option Value->Prop
 |some v,some u=>Yk v u
 |none,none=>True
 |_,_=>False
def KV {κ:Type}:List (κ×V)->List (κ×Value)->Prop:=Paired λ(p:κ×V) (q:κ×Value)=>p.1=q.1/\Yk p.2 q.2
def kV:Key->V
 |.inl i=>.int i
 |.inr x=>.str x
inductive HO where
 |lst (xs:List V)
 |tup (xs:List V)
 |dK (kvs:List (Key×V)) |dT (kvs:List (List Key×V))
 |set (S:Int->Bool) (n:Nat)
 |ins (C dx:Addr) (fs:List (Str×V))
 |own (x:Addr)
 |xd (fs:List (Str×V))
 |met (f x:Addr)
 |rng (lo hi:Int)
 |frz (o:Obj) (u:HO)
 |tbl (ps:Array Value)
 |ext (φ:Heap->Prop)
abbrev Hp:=Addr->Option HO
def upd (H:Hp) (a:Addr) (o:HO):Hp:=λb=>if b=a then some o else H b
theorem YC {H:Hp}{a:Addr}{o:HO}:upd H a o a=some o:=by unfold upd;rw[if_pos rfl]
theorem YN {H:Hp}{a b:Addr}{o:HO} (h:b≠a):upd H a o b=H b:=by unfold upd;rw[if_neg h]
theorem YAH {H:Hp}{a:Addr}{o u:HO}:upd (upd H a o) a u=upd H a u:=by
 funext b;unfold upd;split <;> rfl
theorem ne_of {H:Hp}{a b:Addr}{o u:HO} (h:H a=some o) (h':H b=some u) (d:o≠u):a≠b:=by
 intro e;subst e;rw[h]at h';exact d (YKr h')
theorem Yh {H:Hp}{a b:Addr}{o:HO} (h:H a=some o) (h':H b=none):a≠b:=by
 intro e;subst e;rw[h]at h';cases h'
section
variable (P:Program) (w:World)
def Yq (H:Hp) (h:Heap) (a:Addr):HO->Prop
 |.lst xs=>xs.length<=sizeLine/\∃(its:List Value) (n:Nat),Yi xs its/\h.get? a=some { cls:=.type "list",data:=.seq its.toArray n }
 |.tup xs=>xs.length<=sizeLine/\∃its:List Value,Yi xs its/\IsTup h a its.toArray
 |.dK kvs=>kvs.length<=sizeLine/\(a == sysModules)=false/\∃vs,KV kvs vs/\h.DictOf (Y1 P w) a vs
 |.dT kvs=>kvs.length<=sizeLine/\(a == sysModules)=false/\∃xs:List (List Key×Addr×Value),
   Paired (λ(p:List Key×V) (q:List Key×Addr×Value)=>p.1=q.1/\H q.2.1=some (.tup (p.1.map kV))/\Yk p.2 q.2.2) kvs xs/\
   ∃o es ep,h.get? a=some o/\o.ExactDict/\o.data=.dict es ep/\es.toList=xs.map (entryOfKey (tupleKind (Y1 P w)))/\(xs.map (·.1)).Nodup
 |.set S n=>h.SetOf (intKind P w) a S n
 |.ins C dx fs=>H dx=some (.own a)/\fs.length<=1000/\dx≠a/\h.get? a=some (PySem.W.instObj C dx)/\
   ∃mA,h.Ns1 dx mA/\(∀f,YBa (fs.lookup f) (mA f))/\PySem.Within mA (fs.map (·.1))
 |.own _=>∃o,h.get? a=some o
 |.xd fs=>∃mA,h.Ns1 a mA/\∀f,YBa (fs.lookup f) (mA f)
 |.rng lo hi=>∃t u v,h.get? a=some { cls:=.type "range",data:=.fields #[.int lo t,.int hi u,.int 1 v] }
 |.frz o u=>h.get? a=some o/\Yq H h a u
 |.tbl ps=>h.get? a=some { cls:=.none,data:=.fields ps }
 |.met f x=>h.get? a=some (PySem.W.methodObj (.ref f) (.ref x))
 |.ext φ=>φ h/\(∃o,h.get? a=some o)/\∀h1 h2:Heap,φ h1->(∀o,h1.get? a=some o->h2.get? a=some o)->φ h2
def HOk (H:Hp) (h:Heap):Prop:=∀a o,H a=some o->Yq P w H h a o
end
section
variable {P:Program}{w:World}{H H':Hp}{h h':Heap}{a:Addr}{o:HO}
theorem Yq.lt (x:Yq P w H h a o):a < h.objs.size:=by
 cases o with
 |lst xs=>obtain⟨_,_,_,_,e⟩:=x;exact YKS e
 |tup xs=>obtain⟨_,_,_,p⟩:=x;exact p.lt
 |dK kvs=>obtain⟨_,_,_,_,o,_,_,e,_⟩:=x;exact YKS e
 |dT kvs=>obtain⟨_,_,_,_,o,_,_,e,_⟩:=x;exact YKS e
 |set S n=>obtain⟨o,_,_,_,e,_⟩:=x;exact YKS e
 |ins C dx fs=>obtain⟨_,_,_,e,_⟩:=x;exact YKS e
 |own y=>obtain⟨_,e⟩:=x;exact YKS e
 |xd fs=>obtain⟨_,⟨_,_,_,e,_⟩,_⟩:=x;exact YKS e
 |rng lo hi=>obtain⟨_,_,_,e⟩:=x;exact YKS e
 |frz ob u=>obtain⟨e,_⟩:=x;exact YKS e
 |tbl ps=>exact YKS (show h.get? a=some _ from x)
 |met f y=>exact YKS (show h.get? a=some _ from x)
 |ext φ=>obtain⟨_,⟨_,e⟩,_⟩:=x;exact YKS e
theorem Paired.mapP {α β:Type}{F G:α->β->Prop}:∀{l₁:List α}{l₂:List β},Paired F l₁ l₂->(∀a b,F a b->G a b)->Paired G l₁ l₂
 |_,_,.nil,_=>.nil
 |_,_,.cons r t,f=>.cons (f _ _ r) (Paired.mapP t f)
theorem Yq.stay (x:Yq P w H h a o) (k:∀b u,(b=a\/H b=some (.own a))->h.get? b=some u->h'.get? b=some u)
  (ho:∀b,H b=some (.own a)->H' b=some (.own a)) (ht:∀b xs,H b=some (.tup xs)->H' b=some (.tup xs)):Yq P w H' h' a o:=by
 induction o with
 |lst xs=>obtain⟨z,its,n,r,e⟩:=x;exact⟨z,its,n,r,k _ _ (.inl rfl) e⟩
 |tup xs=>obtain⟨z,its,r,ob,e,c⟩:=x;exact⟨z,its,r,ob,k _ _ (.inl rfl) e,c⟩
 |dK kvs=>obtain⟨z,y,vs,r,ob,es,ep,e,c⟩:=x;exact⟨z,y,vs,r,ob,es,ep,k _ _ (.inl rfl) e,c⟩
 |dT kvs=>
  obtain⟨z,y,xs,r,ob,es,ep,e,c⟩:=x;exact⟨z,y,xs,Paired.mapP r λp q z=>⟨z.1,ht _ _ z.2.1,z.2.2⟩,ob,es,ep,k _ _ (.inl rfl) e,c⟩
 |set S n=>obtain⟨ob,es,ep,t,e,c⟩:=x;exact⟨ob,es,ep,t,k _ _ (.inl rfl) e,c⟩
 |ins C dx fs=>
  obtain⟨d,z,ne,e,mA,⟨od,es,ep,e2,c⟩,r⟩:=x;exact⟨ho _ d,z,ne,k _ _ (.inl rfl) e,mA,⟨od,es,ep,k _ _ (.inr d) e2,c⟩,r⟩
 |own y=>obtain⟨ob,e⟩:=x;exact⟨ob,k _ _ (.inl rfl) e⟩
 |xd fs=>obtain⟨mA,⟨od,es,ep,e,c⟩,r⟩:=x;exact⟨mA,⟨od,es,ep,k _ _ (.inl rfl) e,c⟩,r⟩
 |rng lo hi=>obtain⟨t,u,v,e⟩:=x;exact⟨t,u,v,k _ _ (.inl rfl) e⟩
 |frz ob u ih=>obtain⟨e,q⟩:=x;exact⟨k _ _ (.inl rfl) e,ih q⟩
 |tbl ps=>
  have e:h.get? a=some { cls:=.none,data:=.fields ps }:=x;show h'.get? a=some { cls:=.none,data:=.fields ps };exact k a _ (.inl rfl) e
 |met f y=>
  have e:h.get? a=some (PySem.W.methodObj (.ref f) (.ref y)):=x;show h'.get? a=some (PySem.W.methodObj (.ref f) (.ref y));exact k a _ (.inl rfl) e
 |ext φ=>obtain⟨p,⟨o,e⟩,st⟩:=x;exact⟨st _ _ p λo q=>k _ _ (.inl rfl) q,⟨o,k _ _ (.inl rfl) e⟩,st⟩
theorem HOk.lt (x:HOk P w H h) (e:H a=some o):a < h.objs.size:=(x a o e).lt
theorem HOk.fresh (x:HOk P w H h) (e:h.objs.size<=a):H a=none:=by
 cases q:H a with
 |none=>rfl
 |some u=>exact absurd (YKi (x.lt q) e) (YLB _)
theorem HOk.kept (x:HOk P w H h) (k:∀b u,h.get? b=some u->h'.get? b=some u):HOk P w H h':=λa o e=>
 (x a o e).stay (λb u _ q=>k b u q) (λ_ q=>q) λ_ _ q=>q
theorem HOk.laid (x:HOk P w H h) (k:∀b u,h.get? b=some u->h'.get? b=some u) (hp:h.objs.size<=a) (new:Yq P w (upd H a o) h' a o):HOk P w (upd H a o) h':=λb u e=>by
 have hn:=x.fresh hp
 by_cases hb:b=a
 ·subst hb;rw[YC]at e;cases e;exact new
 ·rw[YN hb]at e;exact(x b u e).stay (λc v _ q=>k c v q) (λc q=>by rw[YN (Yh q hn)];exact q) λc xs q=>by rw[YN (Yh q hn)];exact q
end
def Rd (H:Hp) (a:Addr) (u:HO):Prop:=H a=some u\/∃o,H a=some (.frz o u)
theorem Rd.ok {P:Program}{w:World}{H:Hp}{h:Heap}{a:Addr}{u:HO} (r:Rd H a u) (x:HOk P w H h):Yq P w H h a u:=by
 rcases r with r |⟨o,r⟩
 ·exact x a u r
 ·obtain⟨_,q⟩:=x a _ r;exact q
def Mut:Option HO->Prop
 |some (.lst _)=>True
 |some (.dK _)=>True
 |some (.dT _)=>True
 |some (.set _ _)=>True
 |some (.ins _ _ _)=>True
 |some (.ext _)=>True
 |_=>False
section
variable {P:Program}{w:World}{H:Hp}{h h':Heap}{x e:Addr}{o':HO}
theorem HOk.write (ok:HOk P w H h) (mu:Mut (H x)) (he:e=x\/H e=some (.own x)) (k:∀b u,b≠e->h.get? b=some u->h'.get? b=some u) (wu:∃u,h'.get? e=some u)
  (new:Yq P w (upd H x o') h' x o'):HOk P w (upd H x o') h':=λb u q=>by
 have nown:∀c y,H c=some (.own y)->c≠x:=λc y r z=>by subst z;rw[r]at mu;exact mu
 have ntup:∀c xs,H c=some (.tup xs)->c≠x:=λc xs r z=>by subst z;rw[r]at mu;exact mu
 by_cases hb:b=x
 ·subst hb;rw[YC]at q;cases q;exact new
 ·rw[YN hb]at q
  by_cases hbe:b=e
  ·have q':H b=some (.own x):=by
    rcases he with z |z
    ·exact absurd (hbe.trans z) hb
    ·rw[hbe];exact z
   rw[q]at q';cases q';obtain⟨v,hv⟩:=wu;exact⟨v,by rw[hbe];exact hv⟩
  ·refine(ok b u q).stay (λc v hc r=>k c v ?_ r) (λc r=>by rw[YN (nown c b r)];exact r) λc xs r=>by rw[YN (ntup c xs r)];exact r
   rcases hc with rfl |hc
   ·exact hbe
   ·rintro rfl;rcases he with z |z
    ·exact nown c b hc z
    ·rw[hc]at z;cases z;exact hb rfl
end
structure Un (fs ex:List Addr) (H H':Hp) (h h':Heap):Prop where
 keep:∀b o,h.get? b=some o->H b=none->b∉fs->b∉ex->h'.get? b=some o
 slot:∀b o,h.get? b=some o->H b=none->b∈fs->b∉ex->∃sl,h'.get? b=some { o with slots:=sl }
 free:∀b o,h.get? b=some o->H b=none->b∉ex->H' b=none
 there:∀b o,h.get? b=some o->b∉ex->∃o',h'.get? b=some o'
 tups:∀b xs,H b=some (.tup xs)->H' b=some (.tup xs)
 frzs:∀b o u,H b=some (.frz o u)->H' b=some (.frz o u)
 tbls:∀b ps,H b=some (.tbl ps)->∃more,H' b=some (.tbl (ps ++ more))
section
variable {fs ww ex ex':List Addr}{H H1 H2:Hp}{h h1 h2 h':Heap}{a x e:Addr}{o:HO}
theorem Un.any (u:Un fs ex H H1 h h1) {b:Addr}{ob:Obj} (q:h.get? b=some ob) (n:H b=none) (hx:b∉ex):∃sl,h1.get? b=some { ob with slots:=sl }:=by
 by_cases hb:b∈fs
 ·exact u.slot b ob q n hb hx
 ·exact⟨ob.slots,u.keep b ob q n hb hx⟩
theorem Un.trans (a:Un fs ex H H1 h h1) (b:Un fs ex H1 H2 h1 h2):Un fs ex H H2 h h2 where
 keep:=λc ob q n hc hx=>b.keep c ob (a.keep c ob q n hc hx) (a.free c ob q n hx) hc hx
 slot:=λc ob q n hc hx=>by
  obtain⟨sl,e1⟩:=a.slot c ob q n hc hx;obtain⟨uJ,e2⟩:=b.slot c _ e1 (a.free c ob q n hx) hc hx;exact⟨uJ,e2⟩
 free:=λc ob q n hx=>by
  obtain⟨o',e1⟩:=a.there c ob q hx;exact b.free c o' e1 (a.free c ob q n hx) hx
 there:=λc ob q hx=>by
  obtain⟨o',e1⟩:=a.there c ob q hx;exact b.there c o' e1 hx
 tups:=λc xs q=>b.tups c xs (a.tups c xs q)
 frzs:=λc ob xs q=>b.frzs c ob xs (a.frzs c ob xs q)
 tbls:=λc ps q=>by
  obtain⟨m1,e1⟩:=a.tbls c ps q;obtain⟨m2,e2⟩:=b.tbls c _ e1;exact⟨m1 ++ m2,by rw[e2,Array.append_assoc]⟩
theorem Un.kept (k:∀b u,h.get? b=some u->h'.get? b=some u):Un fs ex H H h h':=
 ⟨λb ob q _ _ _=>k b ob q,λb ob q _ _ _=>⟨ob.slots,k b ob q⟩,λ_ _ _ n _=>n,λb ob q _=>⟨ob,k b ob q⟩,λ_ _ q=>q,λ_ _ _ q=>q,λ_ ps q=>⟨#[],by rw[q];simp⟩⟩
theorem Un.refl:Un fs ex H H h h:=Un.kept λ_ _ q=>q
theorem Un.laid (k:∀b u,h.get? b=some u->h'.get? b=some u) (hp:h.objs.size<=a) (hn:H a=none):Un fs ex H (upd H a o) h h' where
 keep:=λb u q _ _ _=>k b u q
 slot:=λb u q _ _ _=>⟨u.slots,k b u q⟩
 free:=λb u q n _=>by rw[YN (YKn (YKi (YKS q) hp))];exact n
 there:=λb u q _=>⟨u,k b u q⟩
 tups:=λb xs q=>by rw[YN (Yh q hn)];exact q
 frzs:=λb u xs q=>by rw[YN (Yh q hn)];exact q
 tbls:=λb ps q=>⟨#[],by rw[YN (Yh q hn),q];simp⟩
theorem Un.write (mu:Mut (H x)) (he:e=x\/H e=some (.own x)) (k:∀b u,b≠e->h.get? b=some u->h'.get? b=some u) (wu:∃u,h'.get? e=some u):Un fs ex H (upd H x o) h h':=by
 have hx:∀b,H b=none->b≠x:=λb n z=>by subst z;rw[n]at mu;exact mu
 have hb:∀b,H b=none->b≠e:=λb n z=>by
  subst z;rcases he with r |r
  ·exact hx b n r
  ·rw[n]at r;cases r
 have hm:∀b u,H b=some u->¬Mut (some u)->b≠x:=λb u q nm z=>by subst z;rw[q]at mu;exact nm mu
 refine⟨λb u q n _ _=>k b u (hb b n) q,λb u q n _ _=>⟨u.slots,k b u (hb b n) q⟩,λb u q n _=>by rw[YN (hx b n)];exact n,λb u q _=>?_,
  λb xs q=>by rw[YN (hm b _ q λz=>z)];exact q,λb u xs q=>by rw[YN (hm b _ q λz=>z)];exact q,λb ps q=>⟨#[],by rw[YN (hm b _ q λz=>z),q];simp⟩⟩
 by_cases hbe:b=e
 ·subst hbe;exact wu
 ·exact⟨u,k b u hbe q⟩
end
def trk (h:Heap) (H:Hp):List Addr:=(List.range h.objs.size).filter λa=>(H a).isSome
def YEb (h:Heap) (H:Hp):Heap:=PySem.W.hideAll h (trk h H)
theorem YH0 (h:Heap) (H:Hp):(YEb h H).objs.size=h.objs.size:=PySem.W.hideAll_size _ _
theorem YIo {h:Heap}{H:Hp}{b:Addr}{o:Obj} (e:h.get? b=some o) (n:H b=none):(YEb h H).get? b=some o:=
 PySem.W.hideAll_get _ e λhm=>by
  have q:(H b).isSome=true:=(YLz.mp hm).2;rw[n]at q;simp at q
theorem of_hidT {h:Heap}{H:Hp}{b:Addr}{o:Obj} (e:(YEb h H).get? b=some o):h.get? b=some o/\H b=none:=by
 have e':h.get? b=some o:=PySem.W.of_hideAll (trk h H) e;refine⟨e',?_⟩;cases q:H b with
 |none=>rfl
 |some x=>
  have hm:b∈trk h H:=YLz.mpr ⟨YLI.mpr (YKS e'),by simp[q]⟩;have z:(YEb h H).get? b=none:=PySem.W.hideAll_none (trk h H) hm;rw[z]at e;cases e
def allNews (g h:Heap) (L:Addr):List (Addr×Obj):=(List.range h.objs.size).filterMap λa=>if a=L\/(g.get? a).isSome=true then none else (h.get? a).map λo=>(a,o)
def YL (g h:Heap) (L d:Addr):List (Addr×Obj):=(allNews g h L).filter λp=>decide (p.1≠d)
end L2
namespace L2
open PySem PySem.Spec PyProof.Rows
structure Mod (K:W.Frag) (mg:Str->Option Value) (base:Heap):Prop where
 kin:K.In base
 glob:base.Ns mainGlobals mg
 blt:∃mb,base.Ns builtinsNs mb/\∀x:Str,x≠"__name__"->mb x=bootBuiltins x
 nolimit:base.NoLimit
structure Cx where
 prog:Program
 w:World
 K:W.Frag
 mg:Str->Option Value
 base:Heap
 A:Around
 N:List Str
 s₀:Shared
 H₀:Hp
 env:Env
 outer:List Env
 stack:List Env
 ex:List Addr
 fn:Str->Bool
 calm:Bool
 pn:List (Addr×Obj)
 xe:Value->Shared->Prop
def frs (l:List Env):List Addr:=l.filterMap (·.frame)
abbrev Cx.fs (X:Cx):List Addr:=frs X.outer
def Vis (sc:Scope) (x:Str):Prop:=sc.names.lookup x=some .local\/sc.names.lookup x=some .cell\/sc.names.lookup x=some .free
def Loc (sc:Scope) (x:Str):Prop:=sc.names.lookup x=some .local\/sc.names.lookup x=some .cell
def Look (env:Env) (h:Heap) (m:Str->Option Value) (x:Str) (u:Value):Prop:=
 (env.kindOf x=some .local/\m x=some u)\/((env.kindOf x=some .cell\/env.kindOf x=some .free)/\∃c,env.cells.lookup x=some c/\h.IsCell c (some u))
structure Cx.Ok (X:Cx):Prop where
 mod:Mod X.K X.mg X.base
 kind:X.env.scope.kind=.function
 glob:X.env.globals=mainGlobals
 blt:X.env.builtins=builtinsNs
 above:X.s₀.heap.objs.size<=X.env.locals
 inj:∀x y c,X.env.cells.lookup x=some c->X.env.cells.lookup y=some c->x=y
 has:∀x,(X.env.kindOf x=some .cell\/X.env.kindOf x=some .free)->∃c,X.env.cells.lookup x=some c
 cab:∀x c,X.fn x=true->X.env.cells.lookup x=some c->X.s₀.heap.objs.size<=c
 hd:X.calm=true->X.A.handled=none
 frames:X.A.frames=some X.stack
 stk:X.stack=X.outer\/(X.stack=X.env :: X.outer/\X.env.frame=some X.env.locals)
 exf:∀b∈X.ex,b≠X.env.locals/\∀x c,X.env.cells.lookup x=some c->c≠b
 bs:∀b o,X.base.get? b=some o->X.s₀.heap.get? b=some o/\X.H₀ b=none
 bsz:X.base.objs.size<=X.s₀.heap.objs.size
 noex:∀b o,X.base.get? b=some o->b∉X.ex
 exfs:∀b∈X.ex,b∉X.fs
 funs:X.s₀.heap.FunFrames X.base X.outer
 frf:∀b∈X.fs,X.H₀ b=none
structure Inv (X:Cx) (pins:List (Addr×Obj)) (σ:List (Option V)) (H:Hp) (s:Shared):Prop where
 ok:X.Ok
 os:s.os=X.s₀.os
 bare:AllBare s.gens
 base:Un X.fs X.ex X.H₀ H X.s₀.heap s.heap
 loc:∃m,s.heap.Ns X.env.locals m/\∀(i:Nat) (x:Str) (v:V),X.N[i]?=some x->σ[i]?=some (some v)->Vis X.env.scope x->∃u,Yk v u/\Look X.env s.heap m x u
 cell:∀x c,X.env.cells.lookup x=some c->∃v,s.heap.IsCell c v
 free:H X.env.locals=none
 freeC:∀x c,X.env.cells.lookup x=some c->H c=none
 pin:∀p∈X.pn ++ pins,s.heap.get? p.1=some p.2/\H p.1=none/\p.1≠X.env.locals/\p.1∉X.fs/\∀v,p.2.data≠.cell v
 hok:HOk X.prog X.w H s.heap
 len:σ.length=X.N.length
section
variable {X:Cx}{pins:List (Addr×Obj)}{σ:List (Option V)}{H H':Hp}{s:Shared}{h':Heap}
theorem Cx.Ok.nofr (ok:X.Ok) {b:Addr}{o:Obj} (e:X.base.get? b=some o):b∉X.fs:=λhb=>by
 have:=(ok.funs.mem hb).1;rw[e]at this;cases this
theorem Inv.bs (I:Inv X pins σ H s):∀b o,X.base.get? b=some o->s.heap.get? b=some o/\H b=none:=λb o e=>
 ⟨I.base.keep b o (I.ok.bs b o e).1 (I.ok.bs b o e).2 (I.ok.nofr e) (I.ok.noex b o e),I.base.free b o (I.ok.bs b o e).1 (I.ok.bs b o e).2 (I.ok.noex b o e)⟩
theorem Inv.bk (I:Inv X pins σ H s):∀b o,X.base.get? b=some o->s.heap.get? b=some o:=λb o e=>(I.bs b o e).1
theorem Inv.mod (I:Inv X pins σ H s):Mod X.K X.mg X.base:=I.ok.mod
theorem Inv.kIn (I:Inv X pins σ H s):X.K.In s.heap:=I.ok.mod.kin.keeps I.bk
theorem Inv.lt (I:Inv X pins σ H s):X.env.locals < s.heap.objs.size:=let ⟨_,hn,_⟩:=I.loc;hn.lt
theorem Inv.sz (I:Inv X pins σ H s):X.s₀.heap.objs.size<=s.heap.objs.size:=YKq I.ok.above (YLx I.lt)
theorem Inv.nofs (I:Inv X pins σ H s) {a:Addr} (h:s.heap.objs.size<=a):a∉X.fs:=λhb=>by
 obtain⟨_,o,ho,_⟩:=I.ok.funs.mem hb;exact absurd (YKi (YKS ho) (YKq I.sz h)) (YLB _)
theorem Inv.cne (I:Inv X pins σ H s):∀x c,X.env.cells.lookup x=some c->c≠X.env.locals:=λx c e z=>by
 obtain⟨v,o,ho,hd⟩:=I.cell x c e;obtain⟨m,⟨o',es,ep,ho',hd',_⟩,_⟩:=I.loc;rw[z,ho']at ho;cases ho;rw[hd']at hd;cases hd
theorem Inv.funs (I:Inv X pins σ H s):s.heap.FunFrames X.base X.outer:=by
 have all:∀(l:List Env),(∀b∈frs l,b∈X.fs)->X.s₀.heap.FunFrames X.base l->s.heap.FunFrames X.base l:=by
  intro l
  induction l with
  |nil=>intro _ _;trivial
  |cons env r ih=>
   intro hs hl;obtain⟨hk,⟨L,o,hf,hn,ho,hd⟩,hr⟩:=hl;have hL:L∈X.fs:=hs L (by unfold frs;rw[YLf,hf];exact YKd);obtain⟨sl,e⟩:=I.base.slot L o ho (I.ok.frf L hL) hL λz=>I.ok.exfs L z hL
   exact⟨hk,⟨L,_,hf,hn,e,hd⟩,ih (λb hb=>hs b (by unfold frs;rw[YLf,hf];exact YKY _ hb)) hr⟩
 exact all X.outer (λ_ hb=>hb) I.ok.funs
theorem Inv.stack (I:Inv X pins σ H s):s.heap.FunFrames X.base X.stack:=by
 rcases I.ok.stk with e |⟨e,hf⟩
 ·rw[e];exact I.funs
 ·rw[e];obtain⟨m,hn,_⟩:=I.loc;refine .cons (by rw[I.ok.kind];decide) hf hn ?_ I.funs;exact Heap.get?_none_of_le (YKq I.ok.bsz I.ok.above)
theorem Inv.stkSub (I:Inv X pins σ H s):∀b∈frs X.stack,b∈X.env.locals :: X.fs:=λb hb=>by
 rcases I.ok.stk with e |⟨e,hf⟩
 ·rw[e]at hb;exact YKY _ hb
 ·rw[e]at hb;unfold frs at hb;rw[YLf,hf]at hb;exact hb
theorem Inv.stkFree (I:Inv X pins σ H s):∀b∈frs X.stack,H b=none:=λb hb=>by
 rcases YKT.mp (I.stkSub b hb) with e |hb
 ·rw[e];exact I.free
 ·obtain⟨_,o,ho,_⟩:=I.ok.funs.mem hb;exact I.base.free b o ho (I.ok.frf b hb) λz=>I.ok.exfs b z hb
theorem Inv.step {g':Array GenState}{t':Nat}{d':Drawn}{ch:List Addr} (I:Inv X pins σ H s)
  (sI:∀b∈ch,(b∈X.ex\/X.s₀.heap.objs.size<=b)/\b≠X.env.locals/\(∀x c,X.env.cells.lookup x=some c->c≠b)/\∀p∈X.pn ++ pins,p.1≠b)
  (keep:∀b o,b≠X.env.locals->b∉X.fs->b∉ch->s.heap.get? b=some o->H b=none->h'.get? b=some o)
  (slot:∀b o,b≠X.env.locals->b∈X.fs->b∉ch->s.heap.get? b=some o->H b=none->∃sl,h'.get? b=some { o with slots:=sl }) (free:∀b o,b∉ch->s.heap.get? b=some o->H b=none->H' b=none)
  (there:∀b o,b∉ch->s.heap.get? b=some o->∃o',h'.get? b=some o')
  (tups:∀b xs,H b=some (.tup xs)->H' b=some (.tup xs)) (frzs:∀b o u,H b=some (.frz o u)->H' b=some (.frz o u)) (tbls:∀b ps,H b=some (.tbl ps)->∃more,H' b=some (.tbl (ps ++ more)))
  (ns:∀m,s.heap.Ns X.env.locals m->h'.Ns X.env.locals m) (hok:HOk X.prog X.w H' h') (hg:AllBare g'):
  Inv X pins σ H' { s with heap:=h',gens:=g',drawn:=d',toks:=t' }:=by
 have neL:∀b o,X.s₀.heap.get? b=some o->b≠X.env.locals:=λb o e=>YKn (YKi (YKS e) I.ok.above)
 have neC:∀b o,X.s₀.heap.get? b=some o->b∉X.ex->b∉ch:=λb o e hx hb=>by
  rcases(sI b hb).1 with z |z
  ·exact hx z
  ·exact absurd (YKi (YKS e) z) (YLB _)
 have cellK:∀x c,X.env.cells.lookup x=some c->∀v,s.heap.IsCell c v->h'.IsCell c v:=λx c e v ⟨o,ho,hd⟩=>by
  have nch:c∉ch:=λz=>(sI c z).2.2.1 x c e rfl
  by_cases hc:c∈X.fs
  ·obtain⟨sl,q⟩:=slot c o (I.cne x c e) hc nch ho (I.freeC x c e);exact⟨_,q,hd⟩
  ·exact⟨o,keep c o (I.cne x c e) hc nch ho (I.freeC x c e),hd⟩
 refine⟨I.ok,I.os,hg,⟨λb o e n hb hx=>?_,λb o e n hb hx=>?_,λb o e n hx=>?_,λb o e hx=>?_,λb xs e=>tups b xs (I.base.tups b xs e),λb o xs e=>frzs b o xs (I.base.frzs b o xs e),λb ps e=>?_⟩,?_,λx c e=>?_,?_,λx c e=>?_,λp hp=>?_,hok,I.len⟩
 ·exact keep b o (neL b o e) hb (neC b o e hx) (I.base.keep b o e n hb hx) (I.base.free b o e n hx)
 ·obtain⟨sl,e1⟩:=I.base.slot b o e n hb hx;obtain⟨uJ,e2⟩:=slot b _ (neL b o e) hb (neC b o e hx) e1 (I.base.free b o e n hx);exact⟨uJ,e2⟩
 ·obtain⟨o',e1⟩:=I.base.there b o e hx;exact free b o' (neC b o e hx) e1 (I.base.free b o e n hx)
 ·obtain⟨o',e1⟩:=I.base.there b o e hx;exact there b o' (neC b o e hx) e1
 ·obtain⟨m1,e1⟩:=I.base.tbls b ps e;obtain⟨m2,e2⟩:=tbls b _ e1;exact⟨m1 ++ m2,by rw[e2,Array.append_assoc]⟩
 ·obtain⟨m,hn,hl⟩:=I.loc;refine⟨m,ns m hn,λi x v e1 e2 e3=>?_⟩;obtain⟨u,r,l⟩:=hl i x v e1 e2 e3;refine⟨u,r,?_⟩;rcases l with l |⟨k,c,e,z⟩
  ·exact .inl l
  ·exact .inr ⟨k,c,e,cellK x c e _ z⟩
 ·obtain⟨v,z⟩:=I.cell x c e;exact⟨v,cellK x c e v z⟩
 ·obtain⟨m,⟨o,_,_,ho,_⟩,_⟩:=I.loc;exact free _ o (λz=>(sI _ z).2.1 rfl) ho I.free
 ·obtain⟨v,o,ho,hd⟩:=I.cell x c e;exact free c o (λz=>(sI c z).2.2.1 x c e rfl) ho (I.freeC x c e)
 ·obtain⟨e,n,ne,nf,d⟩:=I.pin p hp;have nch:p.1∉ch:=λz=>(sI p.1 z).2.2.2 p hp rfl
  exact⟨keep p.1 p.2 ne nf nch e n,free p.1 p.2 nch e n,ne,nf,d⟩
theorem Inv.un {t':Nat} (I:Inv X pins σ H s) (u:Un X.fs [] H H' s.heap h') (hok:HOk X.prog X.w H' h'):Inv X pins σ H' { s with heap:=h',toks:=t' }:=by
 obtain⟨m,⟨o,es,ep,ho,r⟩,_⟩:=id I.loc;obtain⟨sl,hL⟩:=u.any ho I.free (by simp);exact I.step (g':=s.gens) (d':=s.drawn) (ch:=[]) (λ_ z=>nomatch z) (λb o _ hb _ e n=>u.keep b o e n hb (by simp)) (λb o _ hb _ e n=>u.slot b o e n hb (by simp)) (λb o _ e n=>u.free b o e n (by simp)) (λb o _ e=>u.there b o e (by simp)) u.tups u.frzs u.tbls (λm' hm=>by
  obtain⟨o',es',ep',ho',r'⟩:=hm;rw[ho]at ho';cases ho';exact⟨_,es',ep',hL,r'⟩) hok I.bare
theorem Inv.call {g':Array GenState}{t':Nat}{d':Drawn}{ch:List Addr} (I:Inv X pins σ H s) (u:Un (frs X.stack) ch H H' s.heap h') (hok:HOk X.prog X.w H' h') (hg:AllBare g')
  (sI:∀b∈ch,(b∈X.ex\/X.s₀.heap.objs.size<=b)/\b≠X.env.locals/\(∀x c,X.env.cells.lookup x=some c->c≠b)/\∀p∈X.pn ++ pins,p.1≠b):
  Inv X pins σ H' { s with heap:=h',gens:=g',drawn:=d',toks:=t' }:=by
 obtain⟨m,⟨o,es,ep,ho,r⟩,_⟩:=id I.loc;obtain⟨sl,hL⟩:=u.any ho I.free λz=>(sI _ z).2.1 rfl
 exact I.step (ch:=ch) sI (λb o hL hb hc e n=>u.keep b o e n (λz=>(YKT.mp (I.stkSub b z)).elim hL hb) hc) (λb o _ _ hc e n=>u.any e n hc) (λb o hc e n=>u.free b o e n hc) (λb o hc e=>u.there b o e hc) u.tups u.frzs u.tbls (λm' hm=>by
  obtain⟨o',es',ep',ho',r'⟩:=hm;rw[ho]at ho';cases ho';exact⟨_,es',ep',hL,r'⟩) hok hg
theorem Inv.turned {t':Nat}{it:Addr} (I:Inv X pins σ H s) (k:∀b o,b≠it->s.heap.get? b=some o->h'.get? b=some o) (hn:H it=none) (hL:it≠X.env.locals)
  (h1:it∈X.ex\/X.s₀.heap.objs.size<=it) (h2:∀x c,X.env.cells.lookup x=some c->c≠it) (h3:∀p∈X.pn ++ pins,p.1≠it):Inv X pins σ H { s with heap:=h',toks:=t' }:=by
 have nit:∀b u,H b=some u->b≠it:=λb u e z=>by rw[z,hn]at e;cases e
 refine I.step (g':=s.gens) (d':=s.drawn) (ch:=[it]) (λb hb=>?_) (λb o _ _ hc e _=>k b o (λz=>hc (by simp[z])) e) (λb o _ _ hc e _=>⟨o.slots,k b o (λz=>hc (by simp[z])) e⟩) (λ_ _ _ _ n=>n)
  (λb o hc e=>⟨o,k b o (λz=>hc (by simp[z])) e⟩) (λ_ _ e=>e) (λ_ _ _ e=>e) (λb ps e=>⟨#[],by rw[e];simp⟩) (λm hm=>?_) (λb u e=>?_) I.bare
 ·have e:b=it:=by simpa using hb
  subst e;exact⟨h1,hL,h2,h3⟩
 ·obtain⟨o,es,ep,ho,r⟩:=hm;exact⟨o,es,ep,k _ o (Ne.symm hL) ho,r⟩
 ·refine(I.hok b u e).stay (λc v hc q=>k c v ?_ q) (λ_ q=>q) λ_ _ q=>q
  rcases hc with z |z
  ·rw[z];exact nit b u e
  ·exact nit c _ z
theorem Inv.tok (I:Inv X pins σ H s) (t:Nat):Inv X pins σ H { s with toks:=t }:=I.un (h':=s.heap) (t':=t) Un.refl I.hok
theorem Inv.kept {t':Nat} (I:Inv X pins σ H s) (k:∀b u,s.heap.get? b=some u->h'.get? b=some u):Inv X pins σ H { s with heap:=h',toks:=t' }:=I.un (Un.kept k) (I.hok.kept k)
theorem Inv.laid {a:Addr}{o:HO}{t':Nat} (I:Inv X pins σ H s) (k:∀b u,s.heap.get? b=some u->h'.get? b=some u) (hp:s.heap.objs.size<=a) (new:Yq X.prog X.w (upd H a o) h' a o):
  Inv X pins σ (upd H a o) { s with heap:=h',toks:=t' }:=I.un (Un.laid k hp (I.hok.fresh hp)) (I.hok.laid k hp new)
theorem Inv.write {x e:Addr}{o:HO}{t':Nat} (I:Inv X pins σ H s) (mu:Mut (H x)) (he:e=x\/H e=some (.own x)) (k:∀b u,b≠e->s.heap.get? b=some u->h'.get? b=some u) (wu:∃u,h'.get? e=some u)
  (new:Yq X.prog X.w (upd H x o) h' x o):Inv X pins σ (upd H x o) { s with heap:=h',toks:=t' }:=I.un (Un.write mu he k wu) (I.hok.write mu he k wu new)
theorem Inv.pins_of {uK:List (Addr×Obj)} (I:Inv X pins σ H s) (h:∀p∈uK,s.heap.get? p.1=some p.2/\H p.1=none/\p.1≠X.env.locals/\p.1∉X.fs/\∀v,p.2.data≠.cell v):Inv X uK σ H s:=
 ⟨I.ok,I.os,I.bare,I.base,I.loc,I.cell,I.free,I.freeC,λp hp=>(YKu.mp hp).elim (λz=>I.pin p (YKx _ z)) (h p),I.hok,I.len⟩
theorem YCS {N:List Str} (hN:N.Nodup) {i j:Nat}{x:Str} (a:N[i]?=some x) (b:N[j]?=some x):i=j:=by
 obtain⟨h1,e1⟩:=YKR.mp a;obtain⟨h2,e2⟩:=YKR.mp b;exact(List.getElem_inj hN).mp (e1.trans e2.symm)
theorem YH1 {M:Model}{A:Around}{E:Value->Shared->Prop}{i:Nat}{x:Str}{v:V}{u:Value}{Q:Unit->Shared->Prop} (I:Inv X pins σ H s) (hN:X.N.Nodup) (hi:X.N[i]?=some x) (hx:Loc X.env.scope x) (r:Yk v u)
  (h:∀s',Inv X pins (σ.set i (some v)) H s'->(∃a,Heap.SameBut a s.heap s'.heap/\(a=X.env.locals\/X.env.cells.lookup x=some a))->Q () s') (hf:X.fn x=true\/X.env.scope.names.lookup x=some .local:=by first |exact .inl rfl |exact .inr rfl |assumption):wpAny M A (storeName X.env x u) Q E s:=by
 obtain⟨m,hn,hl⟩:=id I.loc;have uc:(X.env.scope.kind == .class || (X.env.scope.kind == .module && X.env.locals != X.env.globals))=false:=by rw[I.ok.kind];rfl
 have hiσ:i < σ.length:=by rw[I.len];exact(YKR.mp hi).1
 have cne:=I.cne;have tracked:∀{a:Addr}{h':Heap},(∃o,s.heap.get? a=some o/\H a=none)->Heap.SameBut a s.heap h'->HOk X.prog X.w H h':=λ{a h'} ha hs b ob e=>by
  obtain⟨_,_,hfree⟩:=ha;refine(I.hok b ob e).stay (λc w' hc q=>(hs.2 c ?_).trans q) (λ_ q=>q) λ_ _ q=>q
  rintro rfl;rcases hc with rfl |hc
  ·rw[hfree]at e;cases e
  ·rw[hfree]at hc;cases hc
 rcases hx with hk |hk
 ·refine wpAny_storeName_local hk hn (λh' hn' hs=>?_) uc;obtain⟨oL,_,_,hoL,_⟩:=id hn;refine h _ ⟨I.ok,I.os,I.bare,⟨λb o e n hb hx=>?_,λb o e n hb hx=>?_,I.base.free,λb o e hx=>?_,I.base.tups,I.base.frzs,I.base.tbls⟩,⟨_,hn',λj y v' e1 e2 e3=>?_⟩,λy c e=>?_,I.free,I.freeC,λp hp=>?_,tracked ⟨oL,hoL,I.free⟩ hs,by simpa using I.len⟩ ⟨_,hs,.inl rfl⟩
  ·exact(hs.2 b (YKn (YKi (YKS e) I.ok.above))).trans (I.base.keep b o e n hb hx)
  ·obtain⟨sl,e1⟩:=I.base.slot b o e n hb hx;exact⟨sl,(hs.2 b (YKn (YKi (YKS e) I.ok.above))).trans e1⟩
  ·obtain⟨o',e1⟩:=I.base.there b o e hx;exact⟨o',(hs.2 b (YKn (YKi (YKS e) I.ok.above))).trans e1⟩
  ·by_cases hj:j=i
   ·subst hj;rw[hi]at e1;cases e1;rw[YLh hiσ]at e2;cases e2;exact⟨u,r,.inl ⟨hk,by simp⟩⟩
   ·rw[List.getElem?_set_ne (Ne.symm hj)]at e2;obtain⟨u',r',q⟩:=hl j y v' e1 e2 e3;refine⟨u',r',?_⟩;rcases q with ⟨k,e⟩ |⟨k,c,e,z⟩
    ·refine .inl ⟨k,?_⟩;have:y≠x:=λe=>hj (YCS hN e1 (e ▸ hi))
     simp[this,e]
    ·exact .inr ⟨k,c,e,z.sameBut hs (cne y c e)⟩
  ·obtain⟨w',z⟩:=I.cell y c e;exact⟨w',z.sameBut hs (cne y c e)⟩
  ·obtain⟨e,n,ne,nf,d⟩:=I.pin p hp;exact⟨(hs.2 p.1 ne).trans e,n,ne,nf,d⟩
 ·have hfn:X.fn x=true:=by
   rcases hf with z |z
   ·exact z
   ·rw[z]at hk;cases hk
  obtain⟨c,hc⟩:=I.ok.has x (.inl hk);obtain⟨w',z⟩:=I.cell x c hc;refine wpAny_storeName_cell I.ok.kind hk hc z (λh' hc' hs=>?_);obtain⟨oc,Wh,zK⟩:=id z;refine h { s with heap:=h' } ⟨I.ok,I.os,I.bare,⟨λb o e n hb hx=>?_,λb o e n hb hx=>?_,I.base.free,λb o e hx=>?_,I.base.tups,I.base.frzs,I.base.tbls⟩,⟨m,hn.sameBut hs (Ne.symm (cne x c hc)),λj y v' e1 e2 e3=>?_⟩,λy c' e=>?_,I.free,I.freeC,λp hp=>?_,tracked ⟨oc,Wh,I.freeC x c hc⟩ hs,by simpa using I.len⟩ ⟨c,hs,.inr hc⟩
  ·exact(hs.2 b (YKn (YKi (YKS e) (I.ok.cab x c hfn hc)))).trans (I.base.keep b o e n hb hx)
  ·obtain⟨sl,e1⟩:=I.base.slot b o e n hb hx;exact⟨sl,(hs.2 b (YKn (YKi (YKS e) (I.ok.cab x c hfn hc)))).trans e1⟩
  ·obtain⟨o',e1⟩:=I.base.there b o e hx;exact⟨o',(hs.2 b (YKn (YKi (YKS e) (I.ok.cab x c hfn hc)))).trans e1⟩
  ·by_cases hj:j=i
   ·subst hj;rw[hi]at e1;cases e1;rw[YLh hiσ]at e2;cases e2;exact⟨u,r,.inr ⟨.inl hk,c,hc,hc'⟩⟩
   ·rw[List.getElem?_set_ne (Ne.symm hj)]at e2;obtain⟨u',r',q⟩:=hl j y v' e1 e2 e3;refine⟨u',r',?_⟩;rcases q with q |⟨k,c',e,z'⟩
    ·exact .inl q
    ·refine .inr ⟨k,c',e,z'.sameBut hs ?_⟩;rintro rfl;exact hj (YCS hN e1 (I.ok.inj _ _ _ e hc ▸ hi))
  ·by_cases hcc:c'=c
   ·subst hcc;exact⟨_,hc'⟩
   ·obtain⟨w2,z2⟩:=I.cell y c' e;exact⟨w2,z2.sameBut hs hcc⟩
  ·obtain⟨e,n,ne,nf,d⟩:=I.pin p hp;refine⟨(hs.2 p.1 ?_).trans e,n,ne,nf,d⟩;intro q;rw[q,Wh]at e;have q':oc=p.2:=YKr e;exact d w' (by rw[<-q'];exact zK)
theorem XI {M:Model}{A:Around}{E:Value->Shared->Prop}{i:Nat}{x:Str}{v:V}{u:Value}{Q:Unit->Shared->Prop} (I:Inv X pins σ H s) (hN:X.N.Nodup) (hi:X.N[i]?=some x) (hx:Loc X.env.scope x) (r:Yk v u)
  (h:∀s',Inv X pins (σ.set i (some v)) H s'->Q () s') (hf:X.fn x=true\/X.env.scope.names.lookup x=some .local:=by first |exact .inl rfl |exact .inr rfl |assumption):wpAny M A (storeName X.env x u) Q E s:=
 YH1 I hN hi hx r (λs' I' _=>h s' I') hf
theorem Inv.call' {s':Shared}{ch:List Addr} (I:Inv X pins σ H s) (ho:s'.os=s.os) (u:Un (frs X.stack) ch H H' s.heap s'.heap) (hok:HOk X.prog X.w H' s'.heap) (hg:AllBare s'.gens)
  (sI:∀b∈ch,(b∈X.ex\/X.s₀.heap.objs.size<=b)/\b≠X.env.locals/\(∀x c,X.env.cells.lookup x=some c->c≠b)/\∀p∈X.pn ++ pins,p.1≠b):Inv X pins σ H' s':=by
 obtain⟨h',g',d',t',o'⟩:=s';have e:o'=s.os:=ho;subst e;exact I.call (g':=g') (t':=t') (d':=d') u hok hg sI
end
abbrev XK:=Value->Option Addr->Hp->Prop
abbrev St:=List (Option V)
abbrev VK:=V->Hp->Prop
abbrev TE:=St->Hp->VK->Prop
abbrev TT:=St->Hp->(Bool->Hp->Prop)->Prop
abbrev TA:=St->Hp->(List V->Hp->Prop)->Prop
structure Z3 where
 nx:St->Hp->Prop
 rt:VK
 bk:St->Hp->Prop:=λ_ _=>False
 ct:St->Hp->Prop:=λ_ _=>False
abbrev TS:=Z3->St->Hp->Prop
def EP (X:Cx) (pins:List (Addr×Obj)) (σ:St) (Q:VK) (u:Value) (s':Shared):Prop:=∃v H',Inv X pins σ H' s'/\Yk v u/\Q v H'
def TP (X:Cx) (pins:List (Addr×Obj)) (σ:St) (Q:Bool->Hp->Prop) (b:Bool) (s':Shared):Prop:=∃H',Inv X pins σ H' s'/\Q b H'
def AP (X:Cx) (pins:List (Addr×Obj)) (σ:St) (Q:List V->Hp->Prop) (us:List Value) (s':Shared):Prop:=∃vs H',Inv X pins σ H' s'/\Yi vs us/\Q vs H'
def SP (X:Cx) (pins:List (Addr×Obj)) (D:Z3) (f:Flow) (s':Shared):Prop:=
 match f with
 |.next=>∃σ' H',Inv X pins σ' H' s'/\D.nx σ' H'
 |.brk=>∃σ' H',Inv X pins σ' H' s'/\D.bk σ' H'
 |.cont=>∃σ' H',Inv X pins σ' H' s'/\D.ct σ' H'
 |.ret u=>∃v σ' H',Inv X pins σ' H' s'/\Yk v u/\D.rt v H'
def PE (X:Cx) (e:Expr) (t:TE):Prop:=
 ∀(pins:List (Addr×Obj)) (s:Shared) (σ:St) (H:Hp) (Q:VK),Inv X pins σ H s->t σ H Q->wpAny (model X.prog X.w) X.A (eval e X.env) (EP X pins σ Q) X.xe s
def PT (X:Cx) (e:Expr) (t:TT):Prop:=
 ∀(pins:List (Addr×Obj)) (s:Shared) (σ:St) (H:Hp) (Q:Bool->Hp->Prop),Inv X pins σ H s->t σ H Q->wpAny (model X.prog X.w) X.A (isTrue e X.env (eval e X.env)) (TP X pins σ Q) X.xe s
def PW (X:Cx) (e:Expr) (t:TT):Prop:=
 ∀(whole:Sem Value) (pins:List (Addr×Obj)) (s:Shared) (σ:St) (H:Hp) (Q:Bool->Hp->Prop),Inv X pins σ H s->t σ H Q->wpAny (model X.prog X.w) X.A (isTrue e X.env whole) (TP X pins σ Q) X.xe s
theorem PW.pt {X:Cx}{e:Expr}{t:TT} (h:PW X e t):PT X e t:=h _
def PA (X:Cx) (es:List Expr) (t:TA):Prop:=
 ∀(pos:Pos) (pins:List (Addr×Obj)) (s:Shared) (σ:St) (H:Hp) (Q:List V->Hp->Prop),Inv X pins σ H s->t σ H Q->wpAny (model X.prog X.w) X.A (spliced (backTo pos (starEach es X.env))) (AP X pins σ Q) X.xe s
def PS (X:Cx) (st:Stmt) (t:TS):Prop:=
 ∀(pins:List (Addr×Obj)) (s:Shared) (σ:St) (H:Hp) (D:Z3),Inv X pins σ H s->t D σ H->wpAny (model X.prog X.w) X.A (exec st X.env) (SP X pins D) X.xe s
def PSs (X:Cx) (st:List Stmt) (t:TS):Prop:=
 ∀(pins:List (Addr×Obj)) (s:Shared) (σ:St) (H:Hp) (D:Z3),Inv X pins σ H s->t D σ H->wpAny (model X.prog X.w) X.A (execs st X.env) (SP X pins D) X.xe s
theorem thn {α:Type}{t:Sem α}{Q Q':α->Shared->Prop}{M:Model}{A:Around}{E:Value->Shared->Prop}{s:Shared} (h:wpAny M A t Q E s) (hQ:∀a s,Q a s->Q' a s):wpAny M A t Q' E s:=wpAny_mono h hQ λ_ _ x=>x
end L2
namespace L2
open PySem PySem.Spec PyProof.Rows
section
variable {X:Cx}
inductive tVar_ (i:Nat) (σ:St) (H:Hp) (Q:VK):Prop where
 |mk (v:_) (aY:σ[i]?=some (some v)) (aZ:Q v H):tVar_ i σ H Q
def tVar (i:Nat):TE:=λσ H Q=>tVar_ i σ H Q
def tC (v:V):TE:=λ_ H Q=>Q v H
theorem pe_var {i:Nat}{x:Str}{pos:Pos} (hN:X.N[i]?=some x) (hv:Vis X.env.scope x) (hd:(x == ("__debug__":Str))=false:=by decide) (hcd:(x == ("__classdict__":Str))=false:=by decide):PE X (.Name x pos) (tVar i):=by
 intro pins s σ H Q I h;obtain⟨v,e,h⟩:=h;obtain⟨m,hn,hl⟩:=I.loc;obtain⟨u,r,l⟩:=hl i x v hN e hv;have fin:EP X pins σ Q u s:=⟨v,H,I,r,h⟩;rcases l with ⟨hk,hm⟩ |⟨hk,c,hc,eX⟩
 ·exact wpAny_Name (wpAny_loadName_local I.ok.kind hk hn hm fin) hd
 ·rcases hk with hk |hk
  ·exact wpAny_Name (wpAny_loadName_cell I.ok.kind hk hc eX fin) hd
  ·exact wpAny_Name (wpAny_loadName_free I.ok.kind hk hc eX fin hcd) hd
theorem YE {i j pos}:PE X (.Constant (.int i) j pos) (tC (.int i)):=λ_ _ _ H _ I h=>wpAny_Constant_int ⟨.int i,H,I.tok _,⟨_,U⟩,h⟩
theorem Zr {b j pos}:PE X (.Constant (.bool b) j pos) (tC (.bl b)):=λ_ _ _ H _ I h=>Constant_bool ⟨.bl b,H,I,U,h⟩
theorem Z0 {j pos}:PE X (.Constant .none j pos) (tC .non):=λ_ _ _ H _ I h=>Constant_none ⟨.non,H,I,U,h⟩
theorem Yj {x j pos}:PE X (.Constant (.str x) j pos) (tC (.str x)):=λ_ _ _ H _ I h=>Calls.Constant_str ⟨.str x,H,I.tok _,⟨_,U⟩,h⟩
def Gl (X:Cx) (x:Str):Prop:=X.env.kindOf x=some .globalImplicit
theorem YAI {E:Value->Shared->Prop}{pins:List (Addr×Obj)}{s:Shared}{σ:St}{H:Hp}{x:Str}{u:Value}{pos:Pos}{Q:Value->Shared->Prop} (I:Inv X pins σ H s) (hg:Gl X x) (hm:X.mg x=some u) (h:Q u s)
  (hd:(x == ("__debug__":Str))=false:=by decide):wpAny (model X.prog X.w) X.A (eval (.Name x pos) X.env) Q E s:=
 Calls.Name_function_global I.ok.kind hg (Calls.loadGlobal_global (by rw[I.ok.glob];exact I.mod.glob.keeps I.bk) hm h) hd
theorem JJ {E:Value->Shared->Prop}{pins:List (Addr×Obj)}{s:Shared}{σ:St}{H:Hp}{x:Str}{u:Value}{pos:Pos}{Q:Value->Shared->Prop} (I:Inv X pins σ H s) (hg:Gl X x) (hm:X.mg x=none) (hv:bootBuiltins x=some u) (h:Q u s)
  (hn:x≠"__name__":=by decide) (hd:(x == ("__debug__":Str))=false:=by decide):wpAny (model X.prog X.w) X.A (eval (.Name x pos) X.env) Q E s:=by
 obtain⟨mb,h1,h2⟩:=I.mod.blt;exact Calls.Name_function_global I.ok.kind hg (Calls.loadGlobal_builtin (by rw[I.ok.glob];exact I.mod.glob.keeps I.bk) hm (by rw[I.ok.blt];exact h1.keeps I.bk) ((h2 x hn).trans hv) h) hd
theorem ZF {x:Str}{v:V}{u:Value}{pos:Pos} (hg:Gl X x) (hm:X.mg x=some u) (r:Yk v u) (hd:(x == ("__debug__":Str))=false:=by decide):PE X (.Name x pos) (tC v):=
 λ_ _ _ H _ I h=>YAI I hg hm ⟨v,H,I,r,h⟩ hd
theorem JK {x:Str}{v:V}{u:Value}{pos:Pos} (hg:Gl X x) (hm:X.mg x=none) (hv:bootBuiltins x=some u) (r:Yk v u) (hn:x≠"__name__":=by decide) (hd:(x == ("__debug__":Str))=false:=by decide):PE X (.Name x pos) (tC v):=
 λ_ _ _ H _ I h=>JJ I hg hm hv ⟨v,H,I,r,h⟩ hn hd
variable {a b:Expr}{ta tb:TE}{pos:Pos}
def PC (X:Cx) (op:CmpOp) (a b:Expr) (t:TE):Prop:=
 ∀(pins:List (Addr×Obj)) (s:Shared) (σ:St) (H:Hp) (Q:VK),Inv X pins σ H s->t σ H Q->
  wpAny (model X.prog X.w) X.A (eval a X.env) (λv s₁=>wpAny (model X.prog X.w) X.A (eval b X.env) (λu s₂=>wpAny (model X.prog X.w) X.A (compareOp op v u) (EP X pins σ Q) X.xe s₂) X.xe s₁) X.xe s
inductive tB_ (Q:Bool->Hp->Prop) (x:V) (H1:Hp):Prop where
 |mk (c:_) (aY:x=.bl c) (aZ:Q c H1):tB_ Q x H1
def tB (t:TE):TT:=λσ H Q=>t σ H λx H1=>tB_ Q x H1
theorem XW {op:CmpOp}{t:TE} (h:PC X op a b t) (h1:behindInMarks op b=false:=by first |exact nobehind _ (by decide) (by decide) |rfl):PT X (.Compare a [op] [b] pos) (tB t):=by
 intro pins s σ H Q I hw;refine wpAny_isTrue_Compare1 (thn (h pins s σ H _ I hw) λv s1 h1=>thn h1 λu s2 h2=>thn h2 λc s3 ⟨x,H1,I1,r1,q1⟩=>?_) h1;obtain⟨d,rfl,q⟩:=q1;cases r1;exact wpAny_truthy_bool ⟨H1,I1,q⟩
theorem Z1 {e:Expr}{t:TE} (h:PE X e t) (he:∀whole,isTrue e X.env whole=(do let v <-whole;standAt e.pos;holding [v] (truthy v)):=by intro _;rfl):PT X e (tB t):=by
 intro pins s σ H Q I hw;refine isTrue_plain (thn (h pins s σ H _ I hw) λv s1 ⟨x,H1,I1,r1,q1⟩=>?_) (he _);obtain⟨d,rfl,q⟩:=q1;cases r1;exact wpAny_truthy_bool ⟨H1,I1,q⟩
variable {tA tB':TT}{YL:List Expr}
def tAnd (t u:TT):TT:=λσ H Q=>t σ H λc H1=>if c=true then u σ H1 Q else Q false H1
def tOr (t u:TT):TT:=λσ H Q=>t σ H λc H1=>if c=true then Q true H1 else u σ H1 Q
def tNot (t:TT):TT:=λσ H Q=>t σ H λc H1=>Q (!c) H1
theorem Ji (ha:PT X a tA):PW X (.BoolOp .And [a] pos) tA:=by
 intro wh pins s σ H Q I h;refine isTrue_and (thn (ha pins s σ H Q I h) λc s1 e=>?_);cases c with
 |true=>exact isTrue_and_nil e
 |false=>exact e
theorem XC (ha:PT X a tA):PW X (.BoolOp .Or [a] pos) tA:=by
 intro wh pins s σ H Q I h;refine isTrue_or (thn (ha pins s σ H Q I h) λc s1 e=>?_);cases c with
 |false=>exact isTrue_or_nil e
 |true=>exact e
theorem XD (ha:PT X a tA) (hb:PW X (.BoolOp .And (b :: YL) pos) tB'):PW X (.BoolOp .And (a :: b :: YL) pos) (tAnd tA tB'):=by
 intro wh pins s σ H Q I h;refine isTrue_and (thn (ha pins s σ H _ I h) λc s1 ⟨H1,I1,q1⟩=>?_);cases c with
 |true=>exact hb wh pins s1 σ H1 Q I1 q1
 |false=>exact⟨H1,I1,q1⟩
theorem Xq (ha:PT X a tA) (hb:PW X (.BoolOp .Or (b :: YL) pos) tB'):PW X (.BoolOp .Or (a :: b :: YL) pos) (tOr tA tB'):=by
 intro wh pins s σ H Q I h;refine isTrue_or (thn (ha pins s σ H _ I h) λc s1 ⟨H1,I1,q1⟩=>?_);cases c with
 |true=>exact⟨H1,I1,q1⟩
 |false=>exact hb wh pins s1 σ H1 Q I1 q1
theorem JL (ha:PT X a tA):PT X (.UnaryOp .Not a pos) (tNot tA):=by
 intro pins s σ H Q I h;exact isTrue_not (ha pins s σ H (λc H1=>Q (!c) H1) I h)
def tAndV (ta tb:TE):TE:=λσ H Q=>ta σ H λx H1=>∃c,x=.bl c/\if c=true then tb σ H1 Q else Q (.bl false) H1
def tOrV (ta tb:TE):TE:=λσ H Q=>ta σ H λx H1=>∃c,x=.bl c/\if c=true then Q (.bl true) H1 else tb σ H1 Q
def tNotV (ta:TE):TE:=λσ H Q=>ta σ H λx H1=>∃c,x=.bl c/\Q (.bl (!c)) H1
theorem JM {op}{t:TE} (h:PE X a t):PE X (.BoolOp op [a] pos) t:=λpins s σ H Q I hw=>BoolOp_one (h pins s σ H Q I hw)
theorem JE (ha:PE X a ta) (hb:PE X (.BoolOp .And (b :: YL) pos) tb):PE X (.BoolOp .And (a :: b :: YL) pos) (tAndV ta tb):=by
 intro pins s σ H Q I h;refine BoolOp_and (thn (ha pins s σ H _ I h) λv s1 ⟨x,H1,I1,r1,q1⟩=>?_);obtain⟨c,rfl,q1⟩:=q1;cases r1;refine wpAny_truthy_bool ?_;cases c with
 |true=>exact hb pins s1 σ H1 Q I1 q1
 |false=>exact⟨.bl false,H1,I1,U,q1⟩
theorem pe_or (ha:PE X a ta) (hb:PE X (.BoolOp .Or (b :: YL) pos) tb):PE X (.BoolOp .Or (a :: b :: YL) pos) (tOrV ta tb):=by
 intro pins s σ H Q I h;refine BoolOp_or (thn (ha pins s σ H _ I h) λv s1 ⟨x,H1,I1,r1,q1⟩=>?_);obtain⟨c,rfl,q1⟩:=q1;cases r1;refine wpAny_truthy_bool ?_;cases c with
 |false=>exact hb pins s1 σ H1 Q I1 q1
 |true=>exact⟨.bl true,H1,I1,U,q1⟩
theorem YIp (ha:PE X a ta):PE X (.UnaryOp .Not a pos) (tNotV ta):=by
 intro pins s σ H Q I h;refine UnaryOp_ (thn (ha pins s σ H _ I h) λv s1 ⟨x,H1,I1,r1,q1⟩=>?_);obtain⟨c,rfl,q1⟩:=q1;cases r1;exact not_of (wpAny_truthy_bool ⟨.bl (!c),H1,I1,U,q1⟩)
def tIf (t:TT) (ta tb:TE):TE:=λσ H Q=>t σ H λc H1=>if c=true then ta σ H1 Q else tb σ H1 Q
theorem YIq {c:Expr} (hc:PT X c tA) (ha:PE X a ta) (hb:PE X b tb):PE X (.IfExp c a b pos) (tIf tA ta tb):=by
 intro pins s σ H Q I h;refine wpAny_IfExp (thn (hc pins s σ H _ I h) λd s1 ⟨H1,I1,q1⟩=>?_);cases d with
 |true=>exact ha pins s1 σ H1 Q I1 q1
 |false=>exact hb pins s1 σ H1 Q I1 q1
end
end L2
namespace L2
open PySem PySem.Spec PyProof.Rows
def SqL (K:W.Frag) (H:Hp) (a:Addr) (xs:List V):Prop:=
 Rd H a (.lst xs)\/
  ∃(o:Obj) (its:Array Value) (n:Nat),K.lookup a=some o/\o.cls=.type "list"/\o.dict=none/\o.data=.seq its n/\its.size<=sizeLine/\Yi xs its.toList
def SqT (K:W.Frag) (H:Hp) (a:Addr) (xs:List V):Prop:=
 Rd H a (.tup xs)\/
  ∃(o:Obj) (its:Array Value) (n:Nat),K.lookup a=some o/\o.cls=.type "tuple"/\o.data=.seq its n/\its.size<=sizeLine/\Yi xs its.toList
def absV:Value->Option V
 |.none=>some .non
 |.bool b=>some (.bl b)
 |.int i _=>some (.int i)
 |.str x _=>some (.str x)
 |.bytes b _=>some (.byt b)
 |.float b _=>some (.flt b)
 |.ref a=>some (.ref a)
 |.type n=>some (.ty n)
 |_=>none
theorem Yk.abs {x:V}{u:Value} (r:Yk x u):absV u=some x:=by
 cases x with
 |non=>cases r;rfl
 |bl _=>cases r;rfl
 |int _=>obtain⟨t,rfl⟩:=r;rfl
 |str _=>obtain⟨t,rfl⟩:=r;rfl
 |byt _=>obtain⟨t,rfl⟩:=r;rfl
 |flt _=>obtain⟨t,rfl⟩:=r;rfl
 |ref _=>cases r;rfl
 |ty _=>cases r;rfl
theorem Yk.inj {x y:V}{u:Value} (r:Yk x u) (q:Yk y u):x=y:=YKr (r.abs.symm.trans q.abs)
theorem Yi.inj:∀{xs ys:List V}{us:List Value},Yi xs us->Yi ys us->xs=ys
 |_,_,_,.nil,.nil=>rfl
 |_,_,_,.cons r t,.cons r' t'=>by rw[r.inj r',Yi.inj t t']
section
variable {X:Cx}{pins:List (Addr×Obj)}{σ:St}{H:Hp}{s:Shared}{a:Addr}{xs ys:List V}
theorem SqL.of {K:W.Frag} (h:H a=some (.lst xs)):SqL K H a xs:=.inl (.inl h)
theorem SqT.of {K:W.Frag} (h:H a=some (.tup xs)):SqT K H a xs:=.inl (.inl h)
theorem Inv.list (I:Inv X pins σ H s) (h:SqL X.K H a xs):∃its:List Value,Yi xs its/\PlainL s.heap a its.toArray/\xs.length<=sizeLine:=by
 rcases h with h |⟨o,its,n,hk,hc,hd,hs,hz,r⟩
 ·obtain⟨z,its,n,r,e⟩:=h.ok I.hok;exact⟨its,r,⟨_,n,e,U,U,U⟩,z⟩
 ·refine⟨its.toList,r,⟨o,n,I.kIn a o hk,hc,hd,by simpa using hs⟩,?_⟩;have e:=r.length;simp only[YK2]at e;omega
theorem Inv.tuple (I:Inv X pins σ H s) (h:SqT X.K H a xs):∃its:List Value,Yi xs its/\IsTup s.heap a its.toArray/\xs.length<=sizeLine:=by
 rcases h with h |⟨o,its,n,hk,hc,hs,hz,r⟩
 ·obtain⟨z,its,r,p⟩:=h.ok I.hok;exact⟨its,r,p,z⟩
 ·refine⟨its.toList,r,⟨o,I.kIn a o hk,hc,n,by simpa using hs⟩,?_⟩;have e:=r.length;simp only[YK2]at e;omega
theorem Inv.list_inj (I:Inv X pins σ H s) (h:SqL X.K H a xs) (h':SqL X.K H a ys):xs=ys:=by
 obtain⟨its,r,⟨o,n,e,_,_,d⟩,_⟩:=I.list h;obtain⟨its',r',⟨o',n',e',_,_,d'⟩,_⟩:=I.list h';rw[e]at e';cases e';rw[d]at d'
 injection d' with d1 _
 have:its=its':=by simpa using YLR Array.toList d1
 subst this;exact r.inj r'
theorem Inv.tuple_inj (I:Inv X pins σ H s) (h:SqT X.K H a xs) (h':SqT X.K H a ys):xs=ys:=by
 obtain⟨its,r,⟨o,e,_,n,d⟩,_⟩:=I.tuple h;obtain⟨its',r',⟨o',e',_,n',d'⟩,_⟩:=I.tuple h';rw[e]at e';cases e';rw[d]at d'
 injection d' with d1 _
 have:its=its':=by simpa using YLR Array.toList d1
 subst this;exact r.inj r'
end
abbrev Cx.wish (X:Cx) (E:Value->Shared->Prop):Cx:={ X with xe:=E }
abbrev Cx.nox (X:Cx):Cx:=X.wish λ_ _=>False
theorem Cx.Ok.wish {X:Cx} (ok:X.Ok) (E:Value->Shared->Prop):(X.wish E).Ok:=
 ⟨ok.mod,ok.kind,ok.glob,ok.blt,ok.above,ok.inj,ok.has,ok.cab,ok.hd,ok.frames,ok.stk,ok.exf,ok.bs,ok.bsz,ok.noex,ok.exfs,ok.funs,ok.frf⟩
theorem Cx.Ok.unwish {X:Cx}{E:Value->Shared->Prop} (ok:(X.wish E).Ok):X.Ok:=
 ⟨ok.mod,ok.kind,ok.glob,ok.blt,ok.above,ok.inj,ok.has,ok.cab,ok.hd,ok.frames,ok.stk,ok.exf,ok.bs,ok.bsz,ok.noex,ok.exfs,ok.funs,ok.frf⟩
section
variable {X:Cx}{pins:List (Addr×Obj)}{σ:St}{H:Hp}{s:Shared}{E:Value->Shared->Prop}
theorem Inv.wish (I:Inv X pins σ H s) (E:Value->Shared->Prop):Inv (X.wish E) pins σ H s:=⟨I.ok.wish E,I.os,I.bare,I.base,I.loc,I.cell,I.free,I.freeC,I.pin,I.hok,I.len⟩
theorem Inv.unwish (I:Inv (X.wish E) pins σ H s):Inv X pins σ H s:=⟨I.ok.unwish,I.os,I.bare,I.base,I.loc,I.cell,I.free,I.freeC,I.pin,I.hok,I.len⟩
theorem SP.unwish {D:Z3}{f:Flow}{s':Shared} (h:SP (X.wish E) pins D f s'):SP X pins D f s':=by
 cases f with
 |next=>obtain⟨σ',H',I,q⟩:=h;exact⟨σ',H',I.unwish,q⟩
 |brk=>obtain⟨σ',H',I,q⟩:=h;exact⟨σ',H',I.unwish,q⟩
 |cont=>obtain⟨σ',H',I,q⟩:=h;exact⟨σ',H',I.unwish,q⟩
 |ret u=>obtain⟨v,σ',H',I,r,q⟩:=h;exact⟨v,σ',H',I.unwish,r,q⟩
theorem PSs.nox {st:List Stmt}{t:TS} (h:PSs X.nox st t):PSs X st t:=λpins s σ H D I hw=>
 wpAny_mono (h pins s σ H D (I.wish _) hw) (λ_ _ q=>q.unwish) λ_ _ z=>False.elim z
end
section
variable {X:Cx}{st:Stmt}{YL:List Stmt}{t u:TS}{e:Expr}{te:TE}{pos:Pos}
def YDq:TS:=λD σ H=>D.nx σ H
def tSeq (t u:TS):TS:=λD σ H=>t { D with nx:=u D } σ H
theorem YZ:PSs X [] YDq:=λ_ _ σ H _ I h=>wpAny_execs_nil ⟨σ,H,I,h⟩
theorem YD (h1:PS X st t) (h2:PSs X YL u):PSs X (st :: YL) (tSeq t u):=by
 intro pins s σ H D I h;refine wpAny_execs_cons (thn (h1 pins s σ H { D with nx:=u D } I h) λf s1 q=>?_);cases f with
 |next=>
  obtain⟨σ',H',I',q⟩:=q;exact h2 pins s1 σ' H' D I' q
 |ret v=>exact q
 |brk=>exact q
 |cont=>exact q
theorem YF (h1:PS X st t):PSs X [st] t:=by
 intro pins s σ H D I h;refine wpAny_execs_cons (thn (h1 pins s σ H D I h) λf s1 q=>?_);cases f with
 |next=>exact wpAny_execs_nil q
 |ret v=>exact q
 |brk=>exact q
 |cont=>exact q
def tCont:TS:=λD σ H=>D.ct σ H
theorem YB0:PS X (.Continue pos) tCont:=λ_ _ σ H _ I h=>wpAny_Continue ⟨σ,H,I,h⟩
theorem Inv.quiet {pins:List (Addr×Obj)}{σ:St}{H:Hp}{s:Shared} (I:Inv X pins σ H s):interactive X.env=false:=by simp[interactive,I.ok.kind]
def tDrop (te:TE):TS:=λD σ H=>te σ H λ_ H1=>D.nx σ H1
theorem ZG (he:PE X e te) (hs:swapsWith e none pos.line X.env=pure false:=by rfl):PS X (.Expr e pos) (tDrop te):=by
 intro pins s σ H D I h;exact wpAny_Expr_any (thn (he pins s σ H _ I h) λv s1 ⟨x,H1,I1,r1,q1⟩=>⟨σ,H1,I1,q1⟩) I.quiet hs
def tRet (te:TE):TS:=λD σ H=>te σ H D.rt
theorem YT (he:PE X e te):PS X (.Return (some e) pos) (tRet te):=by
 intro pins s σ H D I h;exact wpAny_Return_some (thn (he pins s σ H _ I h) λv s1 ⟨x,H1,I1,r1,q1⟩=>⟨x,σ,H1,I1,r1,q1⟩)
def tIfS (c:TT) (t u:TS):TS:=λD σ H=>c σ H λb H1=>if b=true then t D σ H1 else u D σ H1
theorem Yt {c:Expr}{a b:List Stmt}{tc:TT} (hc:PT X c tc) (ha:PSs X a t) (hb:PSs X b u):PS X (.If c a b pos) (tIfS tc t u):=by
 intro pins s σ H D I h;refine wpAny_If (thn (hc pins s σ H _ I h) λd s1 ⟨H1,I1,q1⟩=>?_);cases d with
 |true=>exact ha pins s1 σ H1 D I1 q1
 |false=>exact hb pins s1 σ H1 D I1 q1
end
abbrev TG:=V->St->Hp->(St->Hp->Prop)->Prop
abbrev TGs:=List V->St->Hp->(St->Hp->Prop)->Prop
def PG (X:Cx) (target:Expr) (t:TG):Prop:=
 ∀(pins:List (Addr×Obj)) (s:Shared) (σ:St) (H:Hp) (v:V) (u:Value) (Q:St->Hp->Prop),Inv X pins σ H s->Yk v u->t v σ H Q->
  wpAny (model X.prog X.w) X.A (assign target X.env u) (λ_ s'=>∃σ' H',Inv X pins σ' H' s'/\Q σ' H') X.xe s
def PGs (X:Cx) (ts:List Expr) (t:TGs):Prop:=
 ∀(pins:List (Addr×Obj)) (s:Shared) (σ:St) (H:Hp) (vs:List V) (us:List Value) (Q:St->Hp->Prop),Inv X pins σ H s->Yi vs us->t vs σ H Q->
  wpAny (model X.prog X.w) X.A (assignInOrder ((assignEach ts X.env).map (·.2)) us) (λ_ s'=>∃σ' H',Inv X pins σ' H' s'/\Q σ' H') X.xe s
abbrev TIp:=V->V->Hp->VK->Prop
def PIp (X:Cx) (op:Operator) (t:TIp):Prop:=
 ∀(pins:List (Addr×Obj)) (s:Shared) (σ:St) (H:Hp) (x y:V) (v u:Value) (Q:VK),Inv X pins σ H s->Yk x v->Yk y u->t x y H Q->
  wpAny (model X.prog X.w) X.A (inplaceOp op v u) (EP X pins σ Q) X.xe s
section
variable {X:Cx}{pos:Pos}
def JH (i:Nat):TG:=λv σ H Q=>Q (σ.set i (some v)) H
theorem Yb {i:Nat}{x:Str} (hN:X.N.Nodup) (hi:X.N[i]?=some x) (hx:Loc X.env.scope x) (hf:X.fn x=true\/X.env.scope.names.lookup x=some .local:=by first |exact .inl rfl |exact .inr rfl |assumption):PG X (.Name x pos) (JH i):=by
 intro pins s σ H v u Q I r h;exact wpAny_assign_Name (XI I hN hi hx r (λs' I'=>⟨_,H,I',h⟩) hf)
inductive gNil_ (vs:List V) (σ:St) (H:Hp) (Q:St->Hp->Prop):Prop where
 |mk (aY:vs=[]) (aZ:Q σ H):gNil_ vs σ H Q
def gNil:TGs:=λvs σ H Q=>gNil_ vs σ H Q
inductive YIr (t:TG) (u:TGs) (vs:List V) (σ:St) (H:Hp) (Q:St->Hp->Prop):Prop where
 |mk (v:_) (r:_) (aY:vs=v :: r) (aZ:t v σ H λσ' H'=>u r σ' H' Q):YIr t u vs σ H Q
def gCons (t:TG) (u:TGs):TGs:=λvs σ H Q=>YIr t u vs σ H Q
theorem YA9:PGs X [] gNil:=by
 intro pins s σ H vs us Q I r h;obtain⟨e,h⟩:=h;subst e;cases r;exact assignInOrder_nil ⟨σ,H,I,h⟩
theorem Z4 {e:Expr}{es:List Expr}{t:TG}{u:TGs} (h1:PG X e t) (h2:PGs X es u)
  (hs:(assignEach (e :: es) X.env).map (·.2)=assign e X.env :: (assignEach es X.env).map (·.2):=by rfl):PGs X (e :: es) (gCons t u):=by
 intro pins s σ H vs us Q I r h;obtain⟨v,vr,e1,h⟩:=h;subst e1;cases r with
 |cons r rr=>
  rw[hs];refine assignInOrder_cons (thn (h1 pins s σ H _ _ _ I r h) λ_ s1 ⟨σ1,H1,I1,q1⟩=>?_);exact h2 pins s1 σ1 H1 _ _ Q I1 rr q1
inductive gTup_ (K:W.Frag) (n:Nat) (t:TGs) (v:V) (σ:St) (H:Hp) (Q:St->Hp->Prop):Prop where
 |mk (a:_) (xs:_) (aY:v=.ref a) (aZ:SqT K H a xs) (bN:xs.length=n) (dC:t xs σ H Q):gTup_ K n t v σ H Q
def gTup (K:W.Frag) (n:Nat) (t:TGs):TG:=λv σ H Q=>gTup_ K n t v σ H Q
theorem pg_tup {es:List Expr}{k:Nat}{t:TGs}{n:Nat} (hc:X.calm=true) (h:PGs X es t)
  (hn:(assignEach es X.env).length=n:=by rfl) (hst:(assignEach es X.env).findIdx? (·.1)=none:=by rfl):PG X (.Tuple es k pos) (gTup X.K n t):=by
 intro pins s σ H v u Q I r hw;obtain⟨a,xs,e1,hq,hl,hw⟩:=hw;subst e1;cases r;obtain⟨its,rv,ht,hz⟩:=I.tuple hq;refine assign_Tuple_tuple (I.ok.hd hc) ht (by simp[hn,<-hl,rv.length]) hst λh' hx=>?_
 have I1:Inv X pins σ H { s with heap:=h' }:=I.kept (t':=s.toks) λb o e=>hx b o (YKn (YKS e)) e
 exact h pins _ σ H xs _ Q I1 (by simpa using rv) hw
def tAsg (te:TE) (g:TG):TS:=λD σ H=>te σ H λx H1=>g x σ H1 D.nx
theorem YK {i:Nat}{x:Str}{e:Expr}{te:TE}{ig:Pos} (hN:X.N.Nodup) (hi:X.N[i]?=some x) (hx:Loc X.env.scope x) (he:PE X e te) (hs:swapsWith e (some (.Name x ig)) pos.line X.env=pure false:=by rfl) (hf:X.fn x=true\/X.env.scope.names.lookup x=some .local:=by first |exact .inl rfl |exact .inr rfl |assumption):
  PS X (.Assign [.Name x ig] e pos) (tAsg te (JH i)):=by
 intro pins s σ H D I h;refine wpAny_Assign_Name (thn (he pins s σ H _ I h) λv s1 ⟨y,H1,I1,r1,q1⟩=>?_) hs;exact XI I1 hN hi hx r1 (λs2 I2=>⟨_,H1,I2,q1⟩) hf
def tAug (i:Nat) (te:TE) (ti:TIp):TS:=λD σ H=>∃x,σ[i]?=some (some x)/\te σ H λy H1=>ti x y H1 λz H2=>D.nx (σ.set i (some z)) H2
theorem ps_aug {i:Nat}{x:Str}{e:Expr}{te:TE}{op:Operator}{ti:TIp}{ig:Pos} (hN:X.N.Nodup) (hi:X.N[i]?=some x) (hx:Loc X.env.scope x) (he:PE X e te) (ho:PIp X op ti) (hf:X.fn x=true\/X.env.scope.names.lookup x=some .local:=by first |exact .inl rfl |exact .inr rfl |assumption):
  PS X (.AugAssign (.Name x ig) op e pos) (tAug i te ti):=by
 intro pins s σ H D I h;obtain⟨v,e1,h⟩:=h;obtain⟨m,hn,hl⟩:=I.loc;have vis:Vis X.env.scope x:=by rcases hx with k |k;exact .inl k;exact .inr (.inl k)
 obtain⟨u,r,l⟩:=hl i x v hi e1 vis;refine wpAny_AugAssign_Name ?_;have go:wpAny (model X.prog X.w) X.A (eval e X.env) (λw s₂=>wpAny (model X.prog X.w) X.A (inplaceOp op u w) (λr s₃=>wpAny (model X.prog X.w) X.A (storeName X.env x r) (λ_=>SP X pins D .next) X.xe s₃) X.xe s₂) X.xe s:=by
  refine thn (he pins s σ H _ I h) λw s1 ⟨y,H1,I1,r1,q1⟩=>?_
  refine thn (ho pins s1 σ H1 v y u w _ I1 r r1 q1) λz s2 ⟨zv,H2,I2,r2,q2⟩=>?_
  exact XI I2 hN hi hx r2 (λs3 I3=>⟨_,H2,I3,q2⟩) hf
 rcases l with ⟨hk,hm⟩ |⟨hk,c,hc,eX⟩
 ·exact wpAny_loadName_local I.ok.kind hk hn hm go
 ·rcases hk with hk |hk
  ·exact wpAny_loadName_cell I.ok.kind hk hc eX go
  ·rcases hx with k |k
   ·have:X.env.scope.names.lookup x=some .free:=hk;rw[k]at this;cases this
   ·have:X.env.scope.names.lookup x=some .free:=hk;rw[k]at this;cases this
def ipI (f:Int->Int->Int):TIp:=λx y H Q=>∃i j,x=.int i/\y=.int j/\Q (.int (f i j)) H
theorem ip_add:PIp X .Add (ipI λi j=>i + j):=by
 intro pins s σ H x y v u Q I r1 r2 h;obtain⟨i,j,e1,e2,q⟩:=h;subst e1;subst e2;obtain⟨t,rfl⟩:=r1;obtain⟨t',rfl⟩:=r2;exact iadd_int ⟨.int _,H,I.tok _,⟨_,U⟩,q⟩
end
section
variable {X:Cx}{pos:Pos}
def YIs (c:TT) (tb:TS):TS:=λD σ H=>∃W:Nat->St->Hp->Prop,(∃m,W m σ H)/\∀m σ H,W m σ H->
 c σ H λb H1=>if b=true then ∃N:St->Hp->Prop,(∀σ' H',N σ' H'->∃m',m' < m/\W m' σ' H')/\tb { D with nx:=N,ct:=N,bk:=D.nx } σ H1 else D.nx σ H1
theorem XJ {c:Expr}{body:List Stmt}{tc:TT}{tb:TS} (hp:PassesOwn (model X.prog X.w) X.A X.env X.xe) (hc:PT X c tc) (hb:PSs X body tb):PS X (.While c body [] pos) (YIs tc tb):=by
 intro pins s σ H D I h;obtain⟨W,⟨m0,w0⟩,turn⟩:=h;refine wpAny_While (codeAny_whileLoop (λn s'=>∃σ' H',Inv X pins σ' H' s'/\W n σ' H') ?_ m0 ⟨σ,H,I,w0⟩);rintro n s1 ⟨σ1,H1,I1,w1⟩;refine wpAny_passesOwn hp (thn (hc pins s1 σ1 H1 _ I1 (turn n σ1 H1 w1)) λb s2 ⟨H2,I2,q2⟩=>?_);cases b with
 |true=>
  obtain⟨N,hN,q2⟩:=q2;rw[if_pos rfl];refine wpAny_passesOwn hp (thn (hb pins s2 σ1 H2 _ I2 q2) λf s3 q3=>?_);cases f with
  |next=>
   obtain⟨σ3,H3,I3,n3⟩:=q3;obtain⟨m',hm,w3⟩:=hN σ3 H3 n3;exact⟨m',hm,σ3,H3,I3,w3⟩
  |cont=>
   obtain⟨σ3,H3,I3,n3⟩:=q3;obtain⟨m',hm,w3⟩:=hN σ3 H3 n3;exact⟨m',hm,σ3,H3,I3,w3⟩
  |brk=>exact q3
  |ret v=>exact q3
 |false=>
  rw[if_neg YKZ];exact wpAny_execs_nil ⟨σ1,H2,I2,q2⟩
end
structure It where
 go:Nat->Hp->Prop
 yld:Nat->Hp->V->Hp->Prop
 stop:Nat->Hp->Prop
def YAa (X:Cx) (pins:List (Addr×Obj)) (H:Hp) (b:Addr):Prop:=
 H b=none/\b≠X.env.locals/\b∉X.fs/\(b∈X.ex\/X.s₀.heap.objs.size<=b)/\(∀x c,X.env.cells.lookup x=some c->c≠b)/\∀p∈X.pn ++ pins,p.1≠b
theorem Inv.fpOk {X:Cx}{pins:List (Addr×Obj)}{σ:St}{H H':Hp}{s:Shared}{b:Addr} (I:Inv X pins σ H s) (hb:s.heap.objs.size<=b) (hn:H' b=none):YAa X pins H' b:=by
 refine⟨hn,YLD (YKi I.lt hb),I.nofs hb,.inr (YKq I.sz hb),λx c e z=>?_,λp hp z=>?_⟩
 ·obtain⟨v,q⟩:=I.cell x c e;exact absurd (YKi q.lt (by rw[z];exact hb)) (YLB _)
 ·exact absurd (YKi (YKS (I.pin p hp).1) (by rw[z];exact hb)) (YLB _)
structure YDO (P:Program) (w:World) (K:W.Frag) (tg:Expr) (J:It) (fp:List Addr) (it:Addr) (tn:Nat->Heap->Prop):Prop where
 mem:it∈fp
 obj:∀i h,tn i h->∀b∈fp,∃o,h.get? b=some o/\∀v,o.data≠.cell v
 keep:∀i h h',tn i h->(∀b∈fp,∀o,h.get? b=some o->h'.get? b=some o)->tn i h'
 item:∀(X:Cx),X.prog=P->X.w=w->X.K=K->X.calm=true->∀(i:Nat) (pins:List (Addr×Obj)) (s:Shared) (σ:St) (H:Hp) (E:Value->Shared->Prop),Inv X pins σ H s->(∀b∈fp,YAa X pins H b)->tn i s.heap->J.go i H->
  wpAny (model P w) X.A (pyNext (.ref it)) (λr s1=>∃u,r=some u/\
   wpAny (model P w) X.A (letOwnedTupleGo tg (.ref it) u) (λ_ s2=>∃x H',Inv X pins σ H' s2/\Yk x u/\J.yld i H x H'/\tn (i + 1) s2.heap/\∀b∈fp,H' b=none) E s1) E s
 done:∀(X:Cx),X.prog=P->X.w=w->X.K=K->X.calm=true->∀(i:Nat) (pins:List (Addr×Obj)) (s:Shared) (σ:St) (H:Hp) (E:Value->Shared->Prop),Inv X pins σ H s->(∀b∈fp,YAa X pins H b)->tn i s.heap->J.stop i H->
  wpAny (model P w) X.A (pyNext (.ref it)) (λr s1=>r=none/\Inv X pins σ H s1) E s
 self:∀(A:Around) (i:Nat) (s:Shared) (Q:Value->Shared->Prop) (E:Value->Shared->Prop),tn i s.heap->Q (.ref it) s->wpAny (model P w) A (pyIter (.ref it)) Q E s
abbrev TI:=St->Hp->(It->Hp->Prop)->Prop
def PIE (X:Cx) (pins:List (Addr×Obj)) (σ:St) (tg:Expr) (R:It->Hp->Prop) (itv:Value) (s2:Shared):Prop:=
 ∃(it:Addr) (fp:List Addr) (tn:Nat->Heap->Prop) (J:It) (H':Hp),itv=.ref it/\Inv X pins σ H' s2/\YDO X.prog X.w X.K tg J fp it tn/\tn 0 s2.heap/\(∀b∈fp,YAa X pins H' b)/\R J H'
def PI (X:Cx) (tg iter:Expr) (wi:TI):Prop:=
 ∀(pins:List (Addr×Obj)) (s:Shared) (σ:St) (H:Hp) (R:It->Hp->Prop),Inv X pins σ H s->wi σ H R->
  wpAny (model X.prog X.w) X.A (eval iter X.env) (λv s1=>wpAny (model X.prog X.w) X.A (pyIter v) (PIE X pins σ tg R) X.xe s1) X.xe s
theorem YDr {M:Model}{A:Around}{E:Value->Shared->Prop}{s:Shared}{tg:Expr}{it:Addr}{u:Value}{o:Obj}{n:String}{vs:Array Value}{Q:Unit->Shared->Prop} (ho:s.heap.get? it=some o) (hc:o.cls=.type n) (hd:o.data=.fields vs)
  (hn:["enumerate","zip","dict_itemiterator","dict_reverseitemiterator","odict_iterator","itertools.zip_longest","itertools.pairwise"].contains n=false) (hQ:Q () s):wpAny M A (letOwnedTupleGo tg (.ref it) u) Q E s:=by
 unfold letOwnedTupleGo;cases tg <;> first
  |exact YKV hQ
  |(cases u <;> first
    |exact YKV hQ
    |(refine YKG (wpAny_load ho ?_)
      rw[hc,hd];show wpAny M A (if (["enumerate","zip","dict_itemiterator","dict_reverseitemiterator","odict_iterator","itertools.zip_longest","itertools.pairwise"].contains n && vs[0]? == some (rawInt _))=true then _ else _) Q E s;rw[if_neg (by intro h;rw[hn,Bool.false_and]at h;cases h)];exact YKV hQ))
def Itl (K:W.Frag) (a:Addr):It:=
 ⟨λi H=>∃xs x,SqL K H a xs/\xs[i]?=some x,λi H x H'=>H'=H/\∀xs,SqL K H a xs->xs[i]?=some x,λi H=>∃xs,SqL K H a xs/\xs.length<=i⟩
def Itt (K:W.Frag) (a:Addr):It:=
 ⟨λi H=>∃xs x,SqT K H a xs/\xs[i]?=some x,λi H x H'=>H'=H/\∀xs,SqT K H a xs->xs[i]?=some x,λi H=>∃xs,SqT K H a xs/\xs.length<=i⟩
def Itr (lo:Int) (n:Nat):It:=⟨λi _=>i < n,λi H x H'=>H'=H/\x=.int (lo + i),λi _=>n<=i⟩
theorem YH2 {P:Program}{w:World}{K:W.Frag}{tg:Expr} (a it:Addr):YDO P w K tg (Itl K a) [it] it (λi h=>h.IsListIter it a i) where
 mem:=by simp
 obj:=λi h st b hb=>by
  have e:b=it:=by simpa using hb
  subst e;obtain⟨o,e,c,d⟩:=st;exact⟨o,e,λv z=>by rw[d]at z;cases z⟩
 keep:=λi h h' st k=>st.at λo e=>k it (by simp) o e
 item:=by
  intro X hP hw hK hc i pins s σ H E I hf st hg;subst hP hw hK;obtain⟨xs,x,hq,hx⟩:=hg;obtain⟨its,rv,p,hz⟩:=I.list hq;obtain⟨u,hu,ru⟩:=rv.get hx;obtain⟨f0,f1,f2,f3,f4,f5⟩:=hf it (by simp);refine wpAny_pyNext_list_item st p.isList (x:=u) (by simpa using hu) λh' st' sb=>?_
  have I1:Inv X pins σ H { s with heap:=h' }:=I.turned (t':=s.toks) (λb o hb e=>(sb.2 b hb).trans e) f0 f1 f3 f4 f5;obtain⟨o,e,c,d⟩:=id st';exact⟨u,U,YDr (s:={ s with heap:=h' }) e c d (by decide) ⟨x,H,I1,ru,⟨U,λys hy=>by rw[I.list_inj hy hq];exact hx⟩,st',λb hb=>(hf b hb).1⟩⟩
 done:=by
  intro X hP hw hK hc i pins s σ H E I hf st hg;subst hP hw hK;obtain⟨xs,hq,hx⟩:=hg;obtain⟨its,rv,p,hz⟩:=I.list hq;obtain⟨f0,f1,f2,f3,f4,f5⟩:=hf it (by simp);have hl:=rv.length;exact wpAny_pyNext_list_end (I.ok.hd hc) st p.isList (by simp;omega) λh' eb=>⟨U,I.turned (t':=s.toks) (λb o hb e=>eb b o hb e) f0 f1 f3 f4 f5⟩
 self:=λ_ _ _ _ _ st h=>wpAny_pyIter_listiter st h
theorem YGL {P:Program}{w:World}{K:W.Frag}{tg:Expr} (a it:Addr):YDO P w K tg (Itt K a) [it] it (λi h=>h.IsTupleIter it a i) where
 mem:=by simp
 obj:=λi h st b hb=>by
  have e:b=it:=by simpa using hb
  subst e;obtain⟨o,e,c,d⟩:=st;exact⟨o,e,λv z=>by rw[d]at z;cases z⟩
 keep:=λi h h' st k=>st.at λo e=>k it (by simp) o e
 item:=by
  intro X hP hw hK hc i pins s σ H E I hf st hg;subst hP hw hK;obtain⟨xs,x,hq,hx⟩:=hg;obtain⟨its,rv,p,hz⟩:=I.tuple hq;obtain⟨u,hu,ru⟩:=rv.get hx;obtain⟨f0,f1,f2,f3,f4,f5⟩:=hf it (by simp);refine wpAny_pyNext_tuple_item st (show s.heap.IsTuple a its.toArray from p) (x:=u) (by simpa using hu) λh' st' sb=>?_
  have I1:Inv X pins σ H { s with heap:=h' }:=I.turned (t':=s.toks) (λb o hb e=>(sb.2 b hb).trans e) f0 f1 f3 f4 f5;obtain⟨o,e,c,d⟩:=id st';exact⟨u,U,YDr (s:={ s with heap:=h' }) e c d (by decide) ⟨x,H,I1,ru,⟨U,λys hy=>by rw[I.tuple_inj hy hq];exact hx⟩,st',λb hb=>(hf b hb).1⟩⟩
 done:=by
  intro X hP hw hK hc i pins s σ H E I hf st hg;subst hP hw hK;obtain⟨xs,hq,hx⟩:=hg;obtain⟨its,rv,p,hz⟩:=I.tuple hq;obtain⟨f0,f1,f2,f3,f4,f5⟩:=hf it (by simp);have hl:=rv.length;exact wpAny_pyNext_tuple_end (I.ok.hd hc) st (show s.heap.IsTuple a its.toArray from p) (by simp;omega) λh' eb=>⟨U,I.turned (t':=s.toks) (λb o hb e=>eb b o hb e) f0 f1 f3 f4 f5⟩
 self:=λ_ _ _ _ _ st h=>wpAny_pyIter_tupleiter st h
theorem YGM {P:Program}{w:World}{K:W.Frag}{tg:Expr} (it:Addr) (lo:Int) (n:Nat):YDO P w K tg (Itr lo n) [it] it (λi h=>IsRangeIter h it (lo + (i:Nat) * 1) ((n:Int) - (i:Nat)) 1) where
 mem:=by simp
 obj:=λi h st b hb=>by
  have e:b=it:=by simpa using hb
  subst e;exact⟨_,st,λv z=>by
   have z':Data.fields _=Data.cell v:=z;cases z'⟩
 keep:=λi h h' st k=>k it (by simp) _ st
 item:=by
  intro X hP hw hK hc i pins s σ H E I hf st hg;subst hP hw hK;obtain⟨f0,f1,f2,f3,f4,f5⟩:=hf it (by simp);have W:=Walks.range (prog:=X.prog) (w:=X.w) (I.ok.hd hc) it lo 1 n;refine W.item i s _ _ hg st λv h' tk hv st' kk=>?_
  obtain⟨t,rfl⟩:=hv;have I1:Inv X pins σ H { s with heap:=h',toks:=tk }:=I.turned (λb o hb e=>kk b o (by simpa using hb) e) f0 f1 f3 f4 f5;refine⟨_,U,YDr (s:={ s with heap:=h',toks:=tk }) (n:="range_iterator") st' rfl rfl (by decide) ⟨.int (lo + i),H,I1,⟨t,?_⟩,⟨U,U⟩,st',λb hb=>(hf b hb).1⟩⟩;rw[Int.mul_one]
 done:=by
  intro X hP hw hK hc i pins s σ H E I hf st hg;subst hP hw hK;obtain⟨f0,f1,f2,f3,f4,f5⟩:=hf it (by simp);exact wpAny_pyNext_range_end (I.ok.hd hc) st (by have:n<=i:=hg;omega) λh' eb=>⟨U,I.turned (t':=s.toks) (λb o hb e=>eb b o hb e) f0 f1 f3 f4 f5⟩
 self:=λ_ _ _ _ _ st h=>wpAny_pyIter_rangeiter st h
end L2
namespace L2
open PySem PySem.Spec PyProof.Rows
section
variable {X:Cx}{tg:Expr}
inductive YIt (K:W.Frag) (R:It->Hp->Prop) (x:V) (H1:Hp):Prop where
 |mk (a:_) (aY:x=.ref a) (aZ:(∃xs,SqL K H1 a xs)) (bN:R (Itl K a) H1):YIt K R x H1
def iList (K:W.Frag) (tl:TE):TI:=λσ H R=>tl σ H λx H1=>YIt K R x H1
inductive iTup_ (K:W.Frag) (R:It->Hp->Prop) (x:V) (H1:Hp):Prop where
 |mk (a:_) (aY:x=.ref a) (aZ:(∃xs,SqT K H1 a xs)) (bN:R (Itt K a) H1):iTup_ K R x H1
def iTup (K:W.Frag) (tl:TE):TI:=λσ H R=>tl σ H λx H1=>iTup_ K R x H1
theorem pi_list {l:Expr}{tl:TE} (hl:PE X l tl):PI X tg l (iList X.K tl):=by
 intro pins s σ H R I h;refine thn (hl pins s σ H _ I h) λv s1 ⟨x,H1,I1,r1,q1⟩=>?_
 obtain⟨a,e,⟨xs,hq⟩,q⟩:=q1;subst e;cases r1;obtain⟨its,rv,p,hz⟩:=I1.list hq;refine wpAny_pyIter_list p.isList ?_;refine⟨s1.heap.objs.size,[s1.heap.objs.size],_,_,H1,U,I1.kept (t':=s1.toks) λb o e=>YKI _ e,YH2 a _,⟨_,YKe _ rfl,U,U⟩,λb hb=>?_,q⟩;have e:b=s1.heap.objs.size:=by simpa using hb
 subst e;exact I1.fpOk (YKH _) (I1.hok.fresh (YKH _))
theorem pi_tup {l:Expr}{tl:TE} (hl:PE X l tl):PI X tg l (iTup X.K tl):=by
 intro pins s σ H R I h;refine thn (hl pins s σ H _ I h) λv s1 ⟨x,H1,I1,r1,q1⟩=>?_
 obtain⟨a,e,⟨xs,hq⟩,q⟩:=q1;subst e;cases r1;obtain⟨its,rv,p,hz⟩:=I1.tuple hq;refine wpAny_pyIter_tuple (show s1.heap.IsTuple a its.toArray from p) ?_;refine⟨s1.heap.objs.size,[s1.heap.objs.size],_,_,H1,U,I1.kept (t':=s1.toks) λb o e=>YKI _ e,YGL a _,⟨_,YKe _ rfl,U,U⟩,λb hb=>?_,q⟩;have e:b=s1.heap.objs.size:=by simpa using hb
 subst e;exact I1.fpOk (YKH _) (I1.hok.fresh (YKH _))
theorem YIu {pins:List (Addr×Obj)}{σ:St}{H:Hp}{s:Shared}{R:It->Hp->Prop}{E:Value->Shared->Prop}{lo hi:Int}{t u v:Tok}{tk:Nat} (I:Inv X pins σ H s) (h1:-(2 ^ 62)<=lo) (h2:lo < 2 ^ 62) (h3:-(2 ^ 62)<=hi) (h4:hi < 2 ^ 62)
  (q:R (Itr lo (hi - lo).toNat) H):wpAny (model X.prog X.w) X.A (pyIter (.ref s.heap.objs.size)) (PIE X pins σ tg R) E { s with heap:=s.heap.push { cls:=.type "range",data:=.fields #[.int lo t,.int hi u,.int 1 v] },toks:=tk }:=by
 refine wpAny_pyIter_range (IsRange.new ..) (small_one h1 h2 h3 h4) ?_;have I1:Inv X pins σ H { s with heap:=s.heap.push { cls:=.type "range",data:=.fields #[.int lo t,.int hi u,.int 1 v] },toks:=tk }:=I.kept λb o e=>YKI _ e
 refine⟨(s.heap.push { cls:=.type "range",data:=.fields #[.int lo t,.int hi u,.int 1 v] }).objs.size,[(s.heap.push { cls:=.type "range",data:=.fields #[.int lo t,.int hi u,.int 1 v] }).objs.size],_,_,H,U,
  I1.kept (t':=tk) λb o e=>YKI _ e,YGM _ lo (hi - lo).toNat,?_,λb hb=>?_,q⟩
 ·have e1:lo + ((0:Nat):Int) * 1=lo:=by simp
  have e2:(((hi - lo).toNat:Nat):Int) - ((0:Nat):Int)=Builtin.Range.rangeSize lo hi 1:=by rw[rangeSize_one];split <;> omega
  show IsRangeIter _ _ (lo + ((0:Nat):Int) * 1) ((((hi - lo).toNat:Nat):Int) - ((0:Nat):Int)) 1;rw[e1,e2];exact YKe _ rfl
 ·have e:b=(s.heap.push { cls:=.type "range",data:=.fields #[.int lo t,.int hi u,.int 1 v] }).objs.size:=by simpa using hb
  subst e;exact I1.fpOk (YKH _) (I1.hok.fresh (YKH _))
inductive YIv (R:It->Hp->Prop) (vs:List V) (H1:Hp):Prop where
 |mk (j:Int) (aY:vs=[.int j]) (aZ:-(2 ^ 62)<=j) (bN:j < 2 ^ 62) (dC:R (Itr 0 j.toNat) H1):YIv R vs H1
def iRng1 (ta:TA):TI:=λσ H R=>ta σ H λvs H1=>YIv R vs H1
theorem ZJ {a:Expr}{ta:TA}{p pos:Pos} (hg:Gl X "range") (hm:X.mg "range"=none) (ha:PA X [a] ta) (hs:starEach [a] X.env=[(false,eval a X.env)]:=by rfl):PI X tg (.Call (.Name "range" p) [a] [] pos) (iRng1 ta):=by
 intro pins s σ H R I h;refine Call_ (JJ I hg hm boot_range (PyProof.Rows.callWith_type1 (thn (ha pos pins s σ H _ I h) λus s1 ⟨vs,H1,I1,r1,q1⟩=>?_) hs rfl));obtain⟨j,e,q1,q2,q⟩:=q1;subst e;cases r1 with
 |cons r rr=>
  cases rr;obtain⟨t,rfl⟩:=r;exact call_range_1 (YIu I1 (by omega) (by omega) q1 q2 (by simpa using q))
def tFor (wi:TI) (g:TG) (tb:TS):TS:=λD σ H=>wi σ H λJ H1=>∃W:Nat->Nat->St->Hp->Prop,(∃m,W 0 m σ H1)/\∀i m σ H,W i m σ H->
 (J.stop i H/\D.nx σ H)\/(J.go i H/\∃N:St->Hp->Prop,(∀σ' H',N σ' H'->∃m',m' < m/\W (i + 1) m' σ' H')/\∀x H',J.yld i H x H'->g x σ H' λσ2 H2=>tb { D with nx:=N,ct:=N,bk:=D.nx } σ2 H2)
def YBb (fp:List Addr) (h:Heap):List (Addr×Obj):=fp.filterMap λb=>(h.get? b).map λo=>(b,o)
theorem JF {fp:List Addr}{h:Heap}{b:Addr}{o:Obj} (hb:b∈fp) (e:h.get? b=some o):(b,o)∈YBb fp h:=YLy.mpr ⟨b,hb,by rw[e];rfl⟩
theorem YH3 {fp:List Addr}{h:Heap}{p:Addr×Obj} (hp:p∈YBb fp h):p.1∈fp/\h.get? p.1=some p.2:=by
 obtain⟨b,hb,e⟩:=YLy.mp hp;cases q:h.get? b with
 |none=>rw[q]at e;cases e
 |some o=>
  rw[q]at e;have e':(b,o)=p:=YKr e;subst e';exact⟨hb,q⟩
theorem Inv.pinned {pins:List (Addr×Obj)}{σ:St}{H:Hp}{s:Shared}{fp:List Addr} (I:Inv X pins σ H s) (hf:∀b∈fp,YAa X pins H b) (ho:∀b∈fp,∃o,s.heap.get? b=some o/\∀v,o.data≠.cell v):Inv X (pins ++ YBb fp s.heap) σ H s:=
 I.pins_of λp hp=>(YKu.mp hp).elim (λz=>I.pin p (YKg _ z)) λz=>by
  obtain⟨hb,e⟩:=YH3 z;obtain⟨f0,f1,f2,_⟩:=hf p.1 hb;obtain⟨o,e',d⟩:=ho p.1 hb;rw[e]at e';cases e';exact⟨e,f0,f1,f2,d⟩
theorem Inv.unpinned {pins pl:List (Addr×Obj)}{σ:St}{H:Hp}{s:Shared} (I:Inv X (pins ++ pl) σ H s):Inv X pins σ H s:=I.pins_of λp hp=>I.pin p (YKg _ (YKx _ hp))
theorem ZH {iter:Expr}{body:List Stmt}{wi:TI}{g:TG}{tb:TS}{pos:Pos} (hp:PassesOwn (model X.prog X.w) X.A X.env X.xe) (hc:X.calm=true) (hi:PI X tg iter wi) (hg:PG X tg g) (hb:PSs X body tb)
  (hs:∀x,foldedSetIterable iter X.env x=pure x:=by intro _;rfl):PS X (.For tg iter body [] pos) (tFor wi g tb):=by
 intro pins s σ H D I h;refine wpAny_For (thn (hi pins s σ H _ I h) λv s1 h1=>thn h1 λitv s2 h2=>?_) hs;obtain⟨it,fp,tn,J,H2,e,I2,T,rF,f2,W,⟨m0,w0⟩,turn⟩:=h2;subst e;have jq:∀{H':Hp},(∀b∈fp,H' b=none)->∀b∈fp,YAa X pins H' b:=λhn b hb=>⟨hn b hb,(f2 b hb).2⟩
 refine codeAny_forLoop_any (λn s'=>∃i σ' H',Inv X pins σ' H' s'/\tn i s'.heap/\(∀b∈fp,H' b=none)/\W i n σ' H') ?_ m0 ⟨0,σ,H2,I2,rF,λb hb=>(f2 b hb).1,w0⟩;rintro n s3 ⟨i,σ3,H3,I3,Wi,Wj,w3⟩;rcases turn i n σ3 H3 w3 with ⟨stop,qn⟩ |⟨go,N,hN,step⟩
 ·refine wpAny_passesOwn hp (thn (T.done X rfl rfl rfl hc i pins s3 σ3 H3 X.xe I3 (jq Wj) Wi stop) λr s4 ⟨hr,I4⟩=>?_);subst hr;exact wpAny_execs_nil ⟨σ3,H3,I4,qn⟩
 ·refine wpAny_passesOwn hp (thn (T.item X rfl rfl rfl hc i pins s3 σ3 H3 X.xe I3 (jq Wj) Wi go) λr s4 ⟨u,hr,h4⟩=>?_);subst hr;refine wpAny_passesOwn hp (thn h4 ?_);rintro _ s5 ⟨x,H5,I5,r5,y5,uL,Rh⟩;have I5':=I5.pinned (jq Rh) (T.obj _ _ uL);refine wpAny_passesOwn hp (thn (hg _ s5 σ3 H5 x u _ I5' r5 (step x H5 y5)) λ_ s6 ⟨σ6,H6,I6,q6⟩=>?_);refine wpAny_passesOwn hp (thn (hb _ s6 σ6 H6 _ I6 q6) λf s7 q7=>?_);have again:∀{σ7:St}{H7:Hp},Inv X (pins ++ YBb fp s5.heap) σ7 H7 s7->N σ7 H7->∃m,m < n/\∃i σ' H',Inv X pins σ' H' s7/\tn i s7.heap/\(∀b∈fp,H' b=none)/\W i m σ' H':=λ{σ7 H7} I7 n7=>by
   obtain⟨m',hm,w7⟩:=hN σ7 H7 n7;refine⟨m',hm,i + 1,σ7,H7,I7.unpinned,T.keep _ _ _ uL λb hb o e=>(I7.pin (b,o) (YKg _ (YKg _ (JF hb e)))).1,λb hb=>?_,w7⟩;obtain⟨o,e,d⟩:=T.obj _ _ uL b hb;exact(I7.pin (b,o) (YKg _ (YKg _ (JF hb e)))).2.1
  cases f with
  |next=>obtain⟨σ7,H7,I7,n7⟩:=q7;exact again I7 n7
  |cont=>obtain⟨σ7,H7,I7,n7⟩:=q7;exact again I7 n7
  |brk=>obtain⟨σ7,H7,I7,q7⟩:=q7;exact⟨σ7,H7,I7.unpinned,q7⟩
  |ret v=>obtain⟨x7,σ7,H7,I7,r7,q7⟩:=q7;exact⟨x7,σ7,H7,I7.unpinned,r7,q7⟩
end
theorem Xv {K:W.Frag}{a:Addr}{xs:List V}{g:TG}{tb:TS}{D:Z3}{σ:St}{H:Hp} (Pv:Nat->St->Hp->Prop) (h0:Pv 0 σ H) (hl:∀i σ H,i<=xs.length->Pv i σ H->SqL K H a xs)
  (hs:∀i x σ H,xs[i]?=some x->Pv i σ H->g x σ H λσ2 H2=>tb { D with nx:=Pv (i + 1),ct:=Pv (i + 1),bk:=D.nx } σ2 H2) (hd:∀σ H,Pv xs.length σ H->D.nx σ H):
  ∃W:Nat->Nat->St->Hp->Prop,(∃m,W 0 m σ H)/\∀i m σ H,W i m σ H->
   ((Itl K a).stop i H/\D.nx σ H)\/((Itl K a).go i H/\∃N:St->Hp->Prop,(∀σ' H',N σ' H'->∃m',m' < m/\W (i + 1) m' σ' H')/\∀x H',(Itl K a).yld i H x H'->g x σ H' λσ2 H2=>tb { D with nx:=N,ct:=N,bk:=D.nx } σ2 H2):=by
 refine⟨λi m σ H=>m=xs.length - i/\i<=xs.length/\Pv i σ H,⟨xs.length,by simp,YKm _,h0⟩,?_⟩;rintro i m σ H ⟨rfl,hi,p⟩;have q:=hl i σ H hi p
 by_cases hlt:i < xs.length
 ·refine .inr ⟨⟨xs,xs[i],q,by simp[hlt]⟩,Pv (i + 1),λσ' H' p'=>⟨xs.length - (i + 1),by omega,U,hlt,p'⟩,λx H' y=>?_⟩;obtain⟨e,y⟩:=y;subst e;exact hs i x σ _ (y xs q) p
 ·have e:i=xs.length:=by omega
  subst e;exact .inl ⟨⟨xs,q,YKH _⟩,hd σ H p⟩
theorem for_tup {K:W.Frag}{a:Addr}{xs:List V}{g:TG}{tb:TS}{D:Z3}{σ:St}{H:Hp} (Pv:Nat->St->Hp->Prop) (h0:Pv 0 σ H) (hl:∀i σ H,i<=xs.length->Pv i σ H->SqT K H a xs)
  (hs:∀i x σ H,xs[i]?=some x->Pv i σ H->g x σ H λσ2 H2=>tb { D with nx:=Pv (i + 1),ct:=Pv (i + 1),bk:=D.nx } σ2 H2) (hd:∀σ H,Pv xs.length σ H->D.nx σ H):
  ∃W:Nat->Nat->St->Hp->Prop,(∃m,W 0 m σ H)/\∀i m σ H,W i m σ H->
   ((Itt K a).stop i H/\D.nx σ H)\/((Itt K a).go i H/\∃N:St->Hp->Prop,(∀σ' H',N σ' H'->∃m',m' < m/\W (i + 1) m' σ' H')/\∀x H',(Itt K a).yld i H x H'->g x σ H' λσ2 H2=>tb { D with nx:=N,ct:=N,bk:=D.nx } σ2 H2):=by
 refine⟨λi m σ H=>m=xs.length - i/\i<=xs.length/\Pv i σ H,⟨xs.length,by simp,YKm _,h0⟩,?_⟩;rintro i m σ H ⟨rfl,hi,p⟩;have q:=hl i σ H hi p
 by_cases hlt:i < xs.length
 ·refine .inr ⟨⟨xs,xs[i],q,by simp[hlt]⟩,Pv (i + 1),λσ' H' p'=>⟨xs.length - (i + 1),by omega,U,hlt,p'⟩,λx H' y=>?_⟩;obtain⟨e,y⟩:=y;subst e;exact hs i x σ _ (y xs q) p
 ·have e:i=xs.length:=by omega
  subst e;exact .inl ⟨⟨xs,q,YKH _⟩,hd σ H p⟩
theorem Zu {lo:Int}{n:Nat}{g:TG}{tb:TS}{D:Z3}{σ:St}{H:Hp} (Pv:Nat->St->Hp->Prop) (h0:Pv 0 σ H)
  (hs:∀i σ H,i < n->Pv i σ H->g (.int (lo + i)) σ H λσ2 H2=>tb { D with nx:=Pv (i + 1),ct:=Pv (i + 1),bk:=D.nx } σ2 H2) (hd:∀σ H,Pv n σ H->D.nx σ H):
  ∃W:Nat->Nat->St->Hp->Prop,(∃m,W 0 m σ H)/\∀i m σ H,W i m σ H->
   ((Itr lo n).stop i H/\D.nx σ H)\/((Itr lo n).go i H/\∃N:St->Hp->Prop,(∀σ' H',N σ' H'->∃m',m' < m/\W (i + 1) m' σ' H')/\∀x H',(Itr lo n).yld i H x H'->g x σ H' λσ2 H2=>tb { D with nx:=N,ct:=N,bk:=D.nx } σ2 H2):=by
 refine⟨λi m σ H=>m=n - i/\i<=n/\Pv i σ H,⟨n,by simp,YKm _,h0⟩,?_⟩;rintro i m σ H ⟨rfl,hi,p⟩
 by_cases hlt:i < n
 ·refine .inr ⟨hlt,Pv (i + 1),λσ' H' p'=>⟨n - (i + 1),by omega,U,hlt,p'⟩,λx H' y=>?_⟩;obtain⟨e,y⟩:=y;subst e y;exact hs i σ _ hlt p
 ·have e:i=n:=by omega
  subst e;exact .inl ⟨YKH _,hd σ H p⟩
theorem YIw {c:TT}{tb:TS}{D:Z3}{σ:St}{H:Hp} (Pv:St->Hp->Prop) (μ:St->Hp->Nat) (h0:Pv σ H)
  (hs:∀σ H,Pv σ H->c σ H λb H1=>if b=true then tb { D with nx:=λσ' H'=>Pv σ' H'/\μ σ' H' < μ σ H,ct:=λσ' H'=>Pv σ' H'/\μ σ' H' < μ σ H,bk:=D.nx } σ H1 else D.nx σ H1)
  (mono:∀σ H Q Q',(∀b H1,Q b H1->Q' b H1)->c σ H Q->c σ H Q'):YIs c tb D σ H:=by
 refine⟨λm σ H=>m=μ σ H/\Pv σ H,⟨_,U,h0⟩,?_⟩;rintro m σ H ⟨rfl,p⟩;refine mono σ H _ _ (λb H1 q=>?_) (hs σ H p);cases b with
 |true=>exact⟨_,λσ' H' ⟨p',l⟩=>⟨_,l,U,p'⟩,q⟩
 |false=>exact q
end L2
namespace L2
open PySem PySem.Spec PyProof.Rows
abbrev R2:=V->V->Hp->VK->Prop
def OpR (X:Cx) (f:Value->Value->Sem Value) (r:R2):Prop:=
 ∀(pins:List (Addr×Obj)) (s:Shared) (σ:St) (H:Hp) (x y:V) (v u:Value) (Q:VK),Inv X pins σ H s->Yk x v->Yk y u->r x y H Q->
  wpAny (model X.prog X.w) X.A (f v u) (EP X pins σ Q) X.xe s
def UnR (X:Cx) (f:Value->Sem Value) (r:V->Hp->VK->Prop):Prop:=
 ∀(pins:List (Addr×Obj)) (s:Shared) (σ:St) (H:Hp) (x:V) (v:Value) (Q:VK),Inv X pins σ H s->Yk x v->r x H Q->
  wpAny (model X.prog X.w) X.A (f v) (EP X pins σ Q) X.xe s
def Zg (X:Cx) (f:Value) (r:List V->Hp->VK->Prop):Prop:=
 ∀(pins:List (Addr×Obj)) (s:Shared) (σ:St) (H:Hp) (xs:List V) (us:List Value) (Q:VK),Inv X pins σ H s->Yi xs us->r xs H Q->
  wpAny (model X.prog X.w) X.A (call f us) (EP X pins σ Q) X.xe s
def TruR (X:Cx) (r:V->Hp->(Bool->Hp->Prop)->Prop):Prop:=
 ∀(pins:List (Addr×Obj)) (s:Shared) (σ:St) (H:Hp) (x:V) (v:Value) (Q:Bool->Hp->Prop),Inv X pins σ H s->Yk x v->r x H Q->
  wpAny (model X.prog X.w) X.A (truthy v) (TP X pins σ Q) X.xe s
def tOp (r:R2) (ta tb:TE):TE:=λσ H Q=>ta σ H λx H1=>tb σ H1 λy H2=>r x y H2 Q
def tUn (r:V->Hp->VK->Prop) (ta:TE):TE:=λσ H Q=>ta σ H λx H1=>r x H1 Q
inductive rI_ (C:Int->Int->Prop) (g:Int->Int->V) (x:V) (y:V) (H:Hp) (Q:VK):Prop where
 |mk (i:_) (j:_) (aY:x=.int i) (aZ:y=.int j) (bN:C i j) (dC:Q (g i j) H):rI_ C g x y H Q
def rI (C:Int->Int->Prop) (g:Int->Int->V):R2:=λx y H Q=>rI_ C g x y H Q
inductive rI0_ (g:Int->Int->V) (x:V) (y:V) (H:Hp) (Q:VK):Prop where
 |mk (i:_) (j:_) (aY:x=.int i) (aZ:y=.int j) (bN:Q (g i j) H):rI0_ g x y H Q
def rI0 (g:Int->Int->V):R2:=λx y H Q=>rI0_ g x y H Q
inductive rU_ (g:Int->V) (x:V) (H:Hp) (Q:VK):Prop where
 |mk (i:_) (aY:x=.int i) (aZ:Q (g i) H):rU_ g x H Q
def rU (g:Int->V):V->Hp->VK->Prop:=λx H Q=>rU_ g x H Q
section
variable {X:Cx}{a b c:Expr}{ta tb tc:TE}{pos:Pos}
theorem binT (ha:PE X a ta) (hb:PE X b tb) {pins:List (Addr×Obj)}{s:Shared}{σ:St}{H:Hp}{R:V->V->Hp->Prop} (I:Inv X pins σ H s)
  (h:ta σ H λx H1=>tb σ H1 λy H2=>R x y H2) {Q:Value->Shared->Prop}{f:Value->Value->Sem Value}
  (hf:∀v u s2 x y H2,Inv X pins σ H2 s2->Yk x v->Yk y u->R x y H2->wpAny (model X.prog X.w) X.A (f v u) Q X.xe s2):
  wpAny (model X.prog X.w) X.A (eval a X.env) (λv s₁=>wpAny (model X.prog X.w) X.A (eval b X.env) (λu s₂=>wpAny (model X.prog X.w) X.A (f v u) Q X.xe s₂) X.xe s₁) X.xe s:=by
 refine thn (ha pins s σ H _ I h) λv s1 ⟨x,H1,I1,r1,q1⟩=>?_
 refine thn (hb pins s1 σ H1 _ I1 q1) λu s2 ⟨y,H2,I2,r2,q2⟩=>?_
 exact hf v u s2 x y H2 I2 r1 r2 q2
theorem YQ {op:Operator}{r:R2} (ho:OpR X (binaryOp op) r) (ha:PE X a ta) (hb:PE X b tb):PE X (.BinOp a op b pos) (tOp r ta tb):=by
 intro pins s σ H Q I h;exact wpAny_BinOp (binT ha hb I h λv u s2 x y H2 I2 rx ry q=>ho pins s2 σ H2 x y v u Q I2 rx ry q)
theorem pe_un {op:UnaryOp}{r:V->Hp->VK->Prop} (ho:UnR X (unaryOp op) r) (ha:PE X a ta):PE X (.UnaryOp op a pos) (tUn r ta):=by
 intro pins s σ H Q I h;exact UnaryOp_ (thn (ha pins s σ H _ I h) λv s1 ⟨x,H1,I1,r1,q1⟩=>ho pins s1 σ H1 x v Q I1 r1 q1)
theorem opI {f:Value->Value->Sem Value}{C:Int->Int->Prop}{g:Int->Int->Int}
  (rule:∀(i j:Int) (t u:Tok) (s:Shared) (Q:Value->Shared->Prop) (E:Value->Shared->Prop),C i j->Q (.int (g i j) s.toks) { s with toks:=s.toks + 1 }->wpAny (model X.prog X.w) X.A (f (.int i t) (.int j u)) Q E s):
  OpR X f (rI C λi j=>.int (g i j)):=by
 intro pins s σ H x y v u Q I rx ry h;obtain⟨i,j,rfl,rfl,hc,q⟩:=h;obtain⟨t,rfl⟩:=rx;obtain⟨t',rfl⟩:=ry;exact rule i j t t' s _ _ hc ⟨.int (g i j),H,I.tok _,⟨_,U⟩,q⟩
theorem opI0 {f:Value->Value->Sem Value}{g:Int->Int->Int}
  (rule:∀(i j:Int) (t u:Tok) (s:Shared) (Q:Value->Shared->Prop) (E:Value->Shared->Prop),Q (.int (g i j) s.toks) { s with toks:=s.toks + 1 }->wpAny (model X.prog X.w) X.A (f (.int i t) (.int j u)) Q E s):
  OpR X f (rI0 λi j=>.int (g i j)):=by
 intro pins s σ H x y v u Q I rx ry h;obtain⟨i,j,rfl,rfl,q⟩:=h;obtain⟨t,rfl⟩:=rx;obtain⟨t',rfl⟩:=ry;exact rule i j t t' s _ _ ⟨.int (g i j),H,I.tok _,⟨_,U⟩,q⟩
theorem opB0 {f:Value->Value->Sem Value}{g:Int->Int->Bool}
  (rule:∀(i j:Int) (t u:Tok) (s:Shared) (Q:Value->Shared->Prop) (E:Value->Shared->Prop),Q (.bool (g i j)) s->wpAny (model X.prog X.w) X.A (f (.int i t) (.int j u)) Q E s):
  OpR X f (rI0 λi j=>.bl (g i j)):=by
 intro pins s σ H x y v u Q I rx ry h;obtain⟨i,j,rfl,rfl,q⟩:=h;obtain⟨t,rfl⟩:=rx;obtain⟨t',rfl⟩:=ry;exact rule i j t t' s _ _ ⟨.bl (g i j),H,I,U,q⟩
def CDiv (i j:Int):Prop:=0 < j/\j < 1073741824
def CPow (i j:Int):Prop:=0<=j/\j<=1000000/\i.natAbs < 2 ^ 64
def CMul (i j:Int):Prop:=(-(2 ^ 64) < i/\i < 2 ^ 64)\/(-(2 ^ 64) < j/\j < 2 ^ 64)
theorem CMul.ok {i j:Int} (h:CMul i j):IntMulOk i j:=by
 rcases h with ⟨h1,h2⟩ |⟨h1,h2⟩
 ·exact .of_left (intBits_le_64 h1 h2)
 ·exact .of_right (intBits_le_64 h1 h2)
theorem Y4:OpR X (binaryOp .Add) (rI0 λi j=>.int (i + j)):=opI0 λ_ _ _ _ _ _ _ q=>add_int q
theorem YEc:OpR X (binaryOp .Sub) (rI0 λi j=>.int (i - j)):=opI0 λ_ _ _ _ _ _ _ q=>sub_int q
theorem XX:OpR X (binaryOp .Mult) (rI CMul λi j=>.int (i * j)):=opI λ_ _ _ _ _ _ _ hc q=>mul_int q hc.ok
theorem ZL:OpR X (binaryOp .FloorDiv) (rI CDiv λi j=>.int (i / j)):=opI λi j _ _ _ _ _ hc q=>by
 have h1:(0:Int) < j:=hc.1;have h2:j < 1073741824:=hc.2;exact floordiv_int (by omega) (by rw[Int.fdiv_eq_ediv_of_nonneg i (by omega)];exact q) (.inl (PyProof.noPylong_small (by omega)))
theorem Yy:OpR X (binaryOp .Mod) (rI (λ_ j=>0 < j) λi j=>.int (i % j)):=opI λi j _ _ _ _ _ hc q=>by
 have h1:(0:Int) < j:=hc;exact mod_int' (by omega) (by rw[Int.fmod_eq_emod_of_nonneg i (by omega)];exact q)
theorem YGN:OpR X (binaryOp .Pow) (rI CPow λi j=>.int (i ^ j.toNat)):=opI λ_ _ _ _ _ _ _ hc q=>pow_int_small hc.1 hc.2.1 hc.2.2 q
theorem unI {f:Value->Sem Value}{g:Int->Int}
  (rule:∀(i:Int) (t:Tok) (s:Shared) (Q:Value->Shared->Prop) (E:Value->Shared->Prop),Q (.int (g i) s.toks) { s with toks:=s.toks + 1 }->wpAny (model X.prog X.w) X.A (f (.int i t)) Q E s):
  UnR X f (rU λi=>.int (g i)):=by
 intro pins s σ H x v Q I rx h;obtain⟨i,rfl,q⟩:=h;obtain⟨t,rfl⟩:=rx;exact rule i t s _ _ ⟨.int (g i),H,I.tok _,⟨_,U⟩,q⟩
theorem YGO:UnR X (unaryOp .USub) (rU λi=>.int (-i)):=unI λ_ _ _ _ _ q=>neg_int q
end
def scal:V->V->Bool
 |.non,.non=>true |.non,.int _=>true |.int _,.non=>true |.non,.bl _=>true |.bl _,.non=>true |.non,.str _=>true |.str _,.non=>true
 |.int _,.int _=>true |.bl _,.bl _=>true |.str _,.str _=>true |.byt _,.byt _=>true
 |.int _,.str _=>true |.str _,.int _=>true |.bl _,.str _=>true |.str _,.bl _=>true
 |_,_=>false
inductive rEq_ (x:V) (y:V) (H:Hp) (Q:VK):Prop where
 |mk (aY:scal x y=true) (aZ:Q (.bl (decide (x=y))) H):rEq_ x y H Q
def rEq:R2:=λx y H Q=>rEq_ x y H Q
inductive rNe_ (x:V) (y:V) (H:Hp) (Q:VK):Prop where
 |mk (aY:scal x y=true) (aZ:Q (.bl (!decide (x=y))) H):rNe_ x y H Q
def rNe:R2:=λx y H Q=>rNe_ x y H Q
theorem YG9 {i j:Int}:decide (V.int i=V.int j)=(i == j):=by
 rw[YLF];simp
theorem YIx {i j:Bool}:decide (V.bl i=V.bl j)=(i == j):=by
 rw[YLF];simp
theorem YHA {i j:Str}:decide (V.str i=V.str j)=(i == j):=by
 rw[YLF];simp
theorem YHB {i j:Array UInt8}:decide (V.byt i=V.byt j)=(i.toList == j.toList):=by
 rw[YLF];cases i;cases j;simp
section
variable {X:Cx}{a b c:Expr}{ta tb tc:TE}{pos:Pos}
theorem Yo {pins:List (Addr×Obj)}{σ:St}{H:Hp}{s:Shared}{Q:VK}{k k':Bool} (I:Inv X pins σ H s) (q:Q (.bl k) H) (e:k=k'):EP X pins σ Q (.bool k') s:=by
 subst e;exact⟨.bl k,H,I,U,q⟩
theorem Xr:OpR X (compareOp .Eq) rEq:=by
 intro pins s σ H x y v u Q I rx ry h;obtain⟨hs,q⟩:=h;cases x with
 |non=>
  cases rx;cases y with
  |non=>cases ry;exact PySem.EqNone.eq_none_none (Yo I q (by simp))
  |bl j=>cases ry;exact PySem.EqNone.eq_none_bool (Yo I q (by simp))
  |int j=>obtain⟨t',rfl⟩:=ry;exact PySem.EqNone.eq_none_int (Yo I q (by simp))
  |str j=>obtain⟨t',rfl⟩:=ry;exact PySem.EqNone.eq_none_str (Yo I q (by simp))
  |_=>exact absurd (show false=true from hs) YKZ
 |bl i=>
  cases rx;cases y with
  |non=>cases ry;exact PySem.EqNone.eq_bool_none (Yo I q (by simp))
  |bl j=>cases ry;exact eq_bool (Yo I q YIx)
  |str j=>obtain⟨t',rfl⟩:=ry;exact PySem.EqMixed.eq_bool_str (Yo I q (by simp))
  |_=>exact absurd (show false=true from hs) YKZ
 |int i=>
  obtain⟨t,rfl⟩:=rx;cases y with
  |non=>cases ry;exact PySem.EqNone.eq_int_none (Yo I q (by simp))
  |int j=>obtain⟨t',rfl⟩:=ry;exact eq_int (Yo I q YG9)
  |str j=>obtain⟨t',rfl⟩:=ry;exact PySem.EqMixed.eq_int_str (Yo I q (by simp))
  |_=>exact absurd (show false=true from hs) YKZ
 |str i=>
  obtain⟨t,rfl⟩:=rx;cases y with
  |non=>cases ry;exact PySem.EqNone.eq_str_none (Yo I q (by simp))
  |bl j=>cases ry;exact PySem.EqMixed.eq_str_bool (Yo I q (by simp))
  |int j=>obtain⟨t',rfl⟩:=ry;exact PySem.EqMixed.eq_str_int (Yo I q (by simp))
  |str j=>obtain⟨t',rfl⟩:=ry;exact eq_str (Yo I q YHA)
  |_=>exact absurd (show false=true from hs) YKZ
 |byt i=>
  obtain⟨t,rfl⟩:=rx;cases y with
  |byt j=>obtain⟨t',rfl⟩:=ry;exact PySem.W.eq_bytes (Yo I q YHB)
  |_=>exact absurd (show false=true from hs) YKZ
 |_=>cases y <;> exact absurd (show false=true from hs) YKZ
theorem YB1:OpR X (compareOp .NotEq) rNe:=by
 intro pins s σ H x y v u Q I rx ry h;obtain⟨hs,q⟩:=h;cases x with
 |non=>
  cases rx;cases y with
  |non=>cases ry;exact PySem.EqNone.ne_none_none (Yo I q (by simp))
  |bl j=>cases ry;exact PySem.EqNone.ne_none_bool (Yo I q (by simp))
  |int j=>obtain⟨t',rfl⟩:=ry;exact PySem.EqNone.ne_none_int (Yo I q (by simp))
  |str j=>obtain⟨t',rfl⟩:=ry;exact PySem.EqNone.ne_none_str (Yo I q (by simp))
  |_=>exact absurd (show false=true from hs) YKZ
 |bl i=>
  cases rx;cases y with
  |non=>cases ry;exact PySem.EqNone.ne_bool_none (Yo I q (by simp))
  |bl j=>cases ry;exact ne_bool (Yo I q (YLR not YIx))
  |str j=>obtain⟨t',rfl⟩:=ry;exact PySem.EqMixed.ne_bool_str (Yo I q (by simp))
  |_=>exact absurd (show false=true from hs) YKZ
 |int i=>
  obtain⟨t,rfl⟩:=rx;cases y with
  |non=>cases ry;exact PySem.EqNone.ne_int_none (Yo I q (by simp))
  |int j=>obtain⟨t',rfl⟩:=ry;exact ne_int (Yo I q (YLR not YG9))
  |str j=>obtain⟨t',rfl⟩:=ry;exact PySem.EqMixed.ne_int_str (Yo I q (by simp))
  |_=>exact absurd (show false=true from hs) YKZ
 |str i=>
  obtain⟨t,rfl⟩:=rx;cases y with
  |non=>cases ry;exact PySem.EqNone.ne_str_none (Yo I q (by simp))
  |bl j=>cases ry;exact PySem.EqMixed.ne_str_bool (Yo I q (by simp))
  |int j=>obtain⟨t',rfl⟩:=ry;exact PySem.EqMixed.ne_str_int (Yo I q (by simp))
  |str j=>obtain⟨t',rfl⟩:=ry;exact ne_str (Yo I q (YLR not YHA))
  |_=>exact absurd (show false=true from hs) YKZ
 |byt i=>
  obtain⟨t,rfl⟩:=rx;cases y with
  |byt j=>obtain⟨t',rfl⟩:=ry;exact PySem.W.ne_bytes (Yo I q (YLR not YHB))
  |_=>exact absurd (show false=true from hs) YKZ
 |_=>cases y <;> exact absurd (show false=true from hs) YKZ
theorem YCT:OpR X (compareOp .Lt) (rI0 λi j=>.bl (decide (i < j))):=opB0 λ_ _ _ _ _ _ _ q=>lt_int q
theorem YBA:OpR X (compareOp .LtE) (rI0 λi j=>.bl (decide (i<=j))):=opB0 λ_ _ _ _ _ _ _ q=>le_int q
theorem op_gt:OpR X (compareOp .Gt) (rI0 λi j=>.bl (decide (j < i))):=opB0 λ_ _ _ _ _ _ _ q=>gt_int q
theorem op_ge:OpR X (compareOp .GtE) (rI0 λi j=>.bl (decide (j<=i))):=opB0 λ_ _ _ _ _ _ _ q=>ge_int q
theorem YGP:OpR X (compareOp .Is) (λx y H Q=>y=.non/\Q (.bl (decide (x=.non))) H):=by
 intro pins s σ H x y v u Q I rx ry h;obtain⟨rfl,q⟩:=h;cases ry;refine is_none_gen (Yo I q ?_);cases x <;> first
  |(cases rx;rfl)
  |(obtain⟨t,rfl⟩:=rx;rfl)
theorem YBB:OpR X (compareOp .IsNot) (λx y H Q=>y=.non/\Q (.bl (!decide (x=.non))) H):=by
 intro pins s σ H x y v u Q I rx ry h;obtain⟨rfl,q⟩:=h;cases ry;refine isnot_none_gen (Yo I q ?_);cases x <;> first
  |(cases rx;rfl)
  |(obtain⟨t,rfl⟩:=rx;rfl)
theorem YY (b:Expr) {op:CmpOp} (h:op≠.In:=by decide) (h2:op≠.NotIn:=by decide):behindInMarks op b=false:=by
 have e1:(op == CmpOp.In)=false:=by cases op <;> first |rfl |exact absurd rfl h
 have e2:(op == CmpOp.NotIn)=false:=by cases op <;> first |rfl |exact absurd rfl h2
 cases b <;> simp[behindInMarks,e1,e2]
theorem JN {op:CmpOp}{r:R2} (ho:OpR X (compareOp op) r) (ha:PE X a ta) (hb:PE X b tb) (hm:behindInMarks op b=false):PE X (.Compare a [op] [b] pos) (tOp r ta tb):=by
 intro pins s σ H Q I h;exact wpAny_Compare1 (binT ha hb I h λv u s2 x y H2 I2 rx ry q=>ho pins s2 σ H2 x y v u Q I2 rx ry q) hm
def tTest (t:TE):TT:=λσ H Q=>t σ H λx H'=>∃k,x=.bl k/\Q k H'
theorem YW {op:CmpOp}{r:R2} (ho:OpR X (compareOp op) r) (ha:PE X a ta) (hb:PE X b tb) (hm:behindInMarks op b=false):PT X (.Compare a [op] [b] pos) (tTest (tOp r ta tb)):=by
 intro pins s σ H Q I h;refine wpAny_isTrue_Compare1 (thn (ha pins s σ H _ I h) λv s1 ⟨x,H1,I1,r1,q1⟩=>thn (hb pins s1 σ H1 _ I1 q1) λu s2 ⟨y,H2,I2,r2,q2⟩=>
  thn (ho pins s2 σ H2 x y v u _ I2 r1 r2 q2) λc s3 ⟨z,H3,I3,r3,k,e,q3⟩=>?_) hm
 subst e;cases r3;exact wpAny_truthy_bool ⟨H3,I3,q3⟩
def YIy (r r':R2) (ta tb tc:TE):TE:=λσ H Q=>ta σ H λx H1=>tb σ H1 λy H2=>r x y H2 λz H3=>∃k,z=.bl k/\
 (if k=true then tc σ H3 λw' H4=>r' y w' H4 Q else Q (.bl false) H3)
theorem YBC {op vG:CmpOp}{r r':R2} (ho:OpR X (compareOp op) r) (ho':OpR X (compareOp vG) r') (ha:PE X a ta) (hb:PE X b tb) (hc:PE X c tc)
  (hm:lastMarks [op,vG] [b,c]=false:=by with_unfolding_all rfl):PE X (.Compare a [op,vG] [b,c] pos) (YIy r r' ta tb tc):=by
 intro pins s σ H Q I h;refine Compare_chain (thn (ha pins s σ H _ I h) λv s1 ⟨x,H1,I1,r1,q1⟩=>chain_link (thn (hb pins s1 σ H1 _ I1 q1) λu s2 ⟨y,H2,I2,r2,q2⟩=>
  thn (ho pins s2 σ H2 x y v u _ I2 r1 r2 q2) λd s3 ⟨z,H3,I3,r3,k,e,q3⟩=>?_)) hm
 subst e;cases r3;refine wpAny_truthy_bool ?_;cases k with
 |false=>exact ite_ff ⟨.bl false,H3,I3,U,q3⟩
 |true=>exact ite_tt (chain_last (thn (hc pins s3 σ H3 _ I3 q3) λw' s4 ⟨z',H4,I4,r4,q4⟩=>ho' pins s4 σ H4 y z' u w' Q I4 r2 r4 q4))
theorem YIz {op vG:CmpOp}{r r':R2} (ho:OpR X (compareOp op) r) (ho':OpR X (compareOp vG) r') (ha:PE X a ta) (hb:PE X b tb) (hc:PE X c tc)
  (hm:lastMarks [op,vG] [b,c]=false:=by with_unfolding_all rfl):PT X (.Compare a [op,vG] [b,c] pos) (tTest (YIy r r' ta tb tc)):=by
 intro pins s σ H Q I h;refine isTrue_chain (thn (ha pins s σ H _ I h) λv s1 ⟨x,H1,I1,r1,q1⟩=>test_link (thn (hb pins s1 σ H1 _ I1 q1) λu s2 ⟨y,H2,I2,r2,q2⟩=>
  thn (ho pins s2 σ H2 x y v u _ I2 r1 r2 q2) λd s3 ⟨z,H3,I3,r3,k,e,q3⟩=>?_)) hm
 subst e;cases r3;refine wpAny_truthy_bool ?_;cases k with
 |false=>
  obtain⟨k',e',q'⟩:=q3;cases e';exact ite_ff ⟨H3,I3,q'⟩
 |true=>
  refine ite_tt (test_last (thn (hc pins s3 σ H3 _ I3 q3) λw' s4 ⟨z',H4,I4,r4,q4⟩=>thn (ho' pins s4 σ H4 y z' u w' _ I4 r2 r4 q4) ?_));rintro d' s5 ⟨z2,H5,I5,r5,k2,e2,q5⟩;subst e2;cases r5;exact wpAny_truthy_bool ⟨H5,I5,q5⟩
def TruV (K:W.Frag) (x:V) (H:Hp) (k:Bool):Prop:=
 match x with
 |.non=>k=false
 |.bl b=>k=b
 |.int i=>k=(i != 0)
 |.str y=>y.length<=sizeLine/\k=((y.length:Int) != 0)
 |.byt y=>y.size<=sizeLine/\k=((y.size:Int) != 0)
 |.ref p=>(∃xs,SqL K H p xs/\k=!xs.isEmpty)\/(∃xs,SqT K H p xs/\k=!xs.isEmpty)\/∃kvs,H p=some (.dK kvs)/\k=!kvs.isEmpty
 |_=>False
theorem YGQ {κ:Type}{kvs:List (κ×V)}{vs:List (κ×Value)} (r:KV kvs vs):(!vs.isEmpty)=!kvs.isEmpty:=by
 cases r <;> rfl
theorem YCU {xs:List V}{its:List Value} (r:Yi xs its):(!its.toArray.isEmpty)=!xs.isEmpty:=by
 cases r <;> simp
theorem XY:(sizeLine:Nat) < 2 ^ 63:=by rw[sizeLine_eq];decide
theorem tru_ok:TruR X (λx H Q=>∃k,TruV X.K x H k/\Q k H):=by
 intro pins s σ H x v Q I rx h;obtain⟨k,e,q⟩:=h;have hl:=XY;have hs:sizeLine=16777216:=sizeLine_eq;cases x with
 |non=>
  cases rx;have e':k=false:=e;subst e';exact truthy_none ⟨H,I,q⟩
 |bl b=>
  cases rx;have e':k=b:=e;subst e';exact wpAny_truthy_bool ⟨H,I,q⟩
 |int i=>
  obtain⟨t,rfl⟩:=rx;have e':k=(i != 0):=e;subst e';exact PySem.P.truthy_int ⟨H,I,q⟩
 |str y=>
  obtain⟨t,rfl⟩:=rx;obtain⟨hy,e'⟩:y.length<=sizeLine/\k=((y.length:Int) != 0):=e;subst e';exact PySem.P.truthy_str (by omega) ⟨H,I.tok _,q⟩
 |byt y=>
  obtain⟨t,rfl⟩:=rx;obtain⟨hy,e'⟩:y.size<=sizeLine/\k=((y.size:Int) != 0):=e;subst e';exact PySem.W.truthy_bytes (by omega) ⟨H,I.tok _,q⟩
 |ref p=>
  cases rx;have e':(∃xs,SqL X.K H p xs/\k=!xs.isEmpty)\/(∃xs,SqT X.K H p xs/\k=!xs.isEmpty)\/∃kvs,H p=some (.dK kvs)/\k=!kvs.isEmpty:=e;rcases e' with ⟨xs,hx,e'⟩ |⟨xs,hx,e'⟩ |⟨kvs,hx,e'⟩
  ·subst e';obtain⟨its,r,pl,hz⟩:=I.list hx;have hlen:=r.length;exact wpAny_truthy_list pl.isList (by simp only[YKQ];omega) ⟨H,I.tok _,by rw[YCU r];exact q⟩
  ·subst e';obtain⟨its,r,pl,hz⟩:=I.tuple hx;have hlen:=r.length;exact truthy_tuple pl (by simp only[YKQ];omega) ⟨H,I.tok _,by rw[YCU r];exact q⟩
  ·subst e';obtain⟨hz,hS,vs,r,m⟩:kvs.length<=sizeLine/\(p == sysModules)=false/\∃vs,KV kvs vs/\s.heap.DictOf (Y1 X.prog X.w) p vs:=I.hok p _ hx;have hlen:kvs.length=vs.length:=Paired.length r;exact wpAny_truthy_dict hS m (by omega) ⟨H,I.tok _,by rw[YGQ r];exact q⟩
 |_=>exact(show False from e).elim
theorem YI0 (ha:PE X a ta) (he:∀whole,isTrue a X.env whole=(do let v <-whole;standAt a.pos;holding [v] (truthy v))):
  PT X a (λσ H Q=>ta σ H λx H'=>∃k,TruV X.K x H' k/\Q k H'):=by
 intro pins s σ H Q I h;exact isTrue_plain (thn (ha pins s σ H _ I h) λv s1 ⟨x,H1,I1,r1,q1⟩=>tru_ok pins s1 σ H1 x v Q I1 r1 q1) (he _)
theorem Za:OpR X (binaryOp .Add) (λx y H Q=>∃i j,x=.str i/\y=.str j/\i.length + j.length<=sizeLine/\Q (.str (i ++ j)) H):=by
 intro pins s σ H x y v u Q I rx ry h;obtain⟨i,j,rfl,rfl,hz,q⟩:=h;obtain⟨t,rfl⟩:=rx;obtain⟨t',rfl⟩:=ry;exact add_str (λt' tk=>⟨.str (i ++ j),H,I.tok _,⟨_,U⟩,q⟩) hz
theorem JO {x:V}{us:List Value} (r:Yi [x] us):∃u,us=[u]/\Yk x u:=by
 cases r with
 |cons r1 r2=>cases r2;exact⟨_,U,r1⟩
theorem YFJ {x y:V}{us:List Value} (r:Yi [x,y] us):∃u w',us=[u,w']/\Yk x u/\Yk y w':=by
 cases r with
 |cons r1 r2=>
  cases r2 with
  |cons r3 r4=>cases r4;exact⟨_,_,U,r1,r3⟩
theorem YH4 (hc:X.calm=true):Zg X (.builtin "max") (λxs H Q=>∃i j,xs=[.int i,.int j]/\Q (.int (if j > i then j else i)) H):=by
 intro pins s σ H xs us Q I r h;obtain⟨i,j,rfl,q⟩:=h;obtain⟨u,w',rfl,⟨t,rfl⟩,⟨t',rfl⟩⟩:=YFJ r;refine max_two_ints (I.ok.hd hc) λh' tk k=>⟨_,H,I.kept k,?_,q⟩
 by_cases hj:j > i
 ·rw[if_pos hj,if_pos hj];exact⟨_,U⟩
 ·rw[if_neg hj,if_neg hj];exact⟨_,U⟩
theorem YH5 (hc:X.calm=true):Zg X (.builtin "min") (λxs H Q=>∃i j,xs=[.int i,.int j]/\Q (.int (if j < i then j else i)) H):=by
 intro pins s σ H xs us Q I r h;obtain⟨i,j,rfl,q⟩:=h;obtain⟨u,w',rfl,⟨t,rfl⟩,⟨t',rfl⟩⟩:=YFJ r;refine min_two_ints (I.ok.hd hc) λh' tk k=>⟨_,H,I.kept k,?_,q⟩
 by_cases hj:j < i
 ·rw[if_pos hj,if_pos hj];exact⟨_,U⟩
 ·rw[if_neg hj,if_neg hj];exact⟨_,U⟩
theorem YAJ:Zg X (.type "int") (λxs H Q=>(∃i,xs=[.int i]/\Q (.int i) H)\/∃k,xs=[.bl k]/\Q (.int (if k then 1 else 0)) H):=by
 intro pins s σ H xs us Q I r h;rcases h with ⟨i,rfl,q⟩ |⟨k,rfl,q⟩
 ·obtain⟨u,rfl,t,rfl⟩:=JO r;exact call_int_int ⟨.int i,H,I,⟨_,U⟩,q⟩
 ·obtain⟨u,rfl,r1⟩:=JO r;cases r1;exact call_int_bool ⟨.int (if k then 1 else 0),H,I.tok _,⟨_,U⟩,q⟩
theorem YI1:Zg X (.builtin "ord") (λxs H Q=>∃x,xs=[.str x]/\x.length=1/\Q (.int (x.cps.getD 0 0:Nat)) H):=by
 intro pins s σ H xs us Q I r h;obtain⟨x,rfl,hz,q⟩:=h;obtain⟨u,rfl,t,rfl⟩:=JO r;exact ord_of_one hz ⟨.int _,H,I.tok _,⟨_,U⟩,q⟩
end
end L2
namespace L2
open PySem PySem.Spec PyProof.Rows
structure ObjM (h:Heap) (x dx C:Addr) (mA:Str->Option Value):Prop where
 obj:h.get? x=some (PySem.W.instObj C dx)
 ns:h.Ns1 dx mA
 ne:dx≠x
theorem YH6 {h:Heap}{dx:Addr}{mA:Str->Option Value} (n:h.Ns1 dx mA):∃od,h.get? dx=some od/\∀name,PySem.W.lookIn name od=some (mA name):=by
 obtain⟨o,es,ep,ho,hd,hk,_,hm⟩:=n;refine⟨o,ho,λname=>?_⟩;have e:=hm name;unfold nsFind findBy at e;rw[<-Array.find?_toList]at e;unfold PySem.W.lookIn;rw[hd];dsimp only;split
 ·rename_i y q
  rw[q]at e;exact YLR some e
 ·rename_i q
  rw[q]at e;have a:es.toList.any (·.refKey)=false:=by
   rw[List.any_eq_false];intro y hy;obtain⟨z,t,hkey⟩:=hk y (Array.mem_toList_iff.mp hy);simp[DictEntry.refKey,hkey]
  have a':¬es.toList.any (·.refKey)=true:=by rw[a];exact YKZ
  rw[if_neg a'];exact YLR some e
theorem ObjM.look {h:Heap}{x dx C:Addr}{mA:Str->Option Value} (I:ObjM h x dx C mA):∃od,PySem.W.InstAt h x (PySem.W.instObj C dx) C (some od)/\∀name,PySem.W.lookIn name od=some (mA name):=
 let ⟨od,ho,hl⟩:=YH6 I.ns
 ⟨od,⟨I.obj,U,U,ho⟩,hl⟩
section
variable {prog:Program}{w:World}{A:Around}{E:Value->Shared->Prop}{s:Shared}{K:W.Frag}{x dx C f:Addr}{mA:Str->Option Value}{name:Str}{v:Value}
end
theorem YBa.some_of {v:V}{o:Option Value} (r:YBa (some v) o):∃u,o=some u/\Yk v u:=by
 cases o with
 |none=>exact(show False from r).elim
 |some u=>exact⟨u,U,r⟩
section
variable {P:Program}{w:World}{H H':Hp}{h h':Heap}{a C dx:Addr}{fs ww:List (Str×V)}
theorem ins_get (hok:HOk P w H h) (e:H a=some (.ins C dx fs)):∃mA,ObjM h a dx C mA/\(∀f,YBa (fs.lookup f) (mA f))/\PySem.Within mA (fs.map (·.1))/\fs.length<=1000/\H dx=some (.own a):=by
 obtain⟨d,z,ne,ob,mA,n,r,q⟩:=(show Yq P w H h a (.ins C dx fs) from hok a _ e);exact⟨mA,⟨ob,n,ne⟩,r,q,z,d⟩
end
structure Cls (K:W.Frag) (C:Addr):Prop where
 pg:PySem.W.plainGet K C Str.empty=true
 hd:PySem.W.hasDictIn K C=true
 po:PySem.W.plainOver K C=true
 sa:PySem.W.findIn K (.ref C) "__setattr__"=some (some (.builtin "object.__setattr__"))
theorem Cls.get {K:W.Frag}{C:Addr} (c:Cls K C) (f:Str):PySem.W.plainGet K C f=true:=c.pg
section
variable {X:Cx}{pins:List (Addr×Obj)}{σ:St}{H:Hp}{s:Shared}{a C dx:Addr}{fs:List (Str×V)}{f:Str}{v:V}{A:Around}{E:Value->Shared->Prop}
end
section
variable {X:Cx}{o e value:Expr}{f:Str}{pos ig lF:Pos}{ta tv:TE}
end
section
variable {X:Cx}{pins:List (Addr×Obj)}{σ:St}{H:Hp}{s:Shared}{A:Around}{E:Value->Shared->Prop}{Q:Value->Shared->Prop}{c:Value}{b:Bool}
inductive YAk (K:W.Frag) (H:Hp):V->Value->Prop where
 |non:YAk K H .non (.type "NoneType")
 |bl (x:Bool):YAk K H (.bl x) (.type "bool")
 |int (i:Int):YAk K H (.int i) (.type "int")
 |str (x:Str):YAk K H (.str x) (.type "str")
 |flt (x:UInt64):YAk K H (.flt x) (.type "float")
 |lst {a:Addr}{xs:List V} (e:H a=some (.lst xs)):YAk K H (.ref a) (.type "list")
 |frz {a:Addr}{o:Obj}{xs:List V} (e:H a=some (.frz o (.lst xs))):YAk K H (.ref a) (.type "list")
 |tup {a:Addr}{xs:List V} (e:H a=some (.tup xs)):YAk K H (.ref a) (.type "tuple")
 |dK {a:Addr}{kvs:List (Key×V)} (e:H a=some (.dK kvs)):YAk K H (.ref a) (.type "dict")
 |dT {a:Addr}{kvs:List (List Key×V)} (e:H a=some (.dT kvs)):YAk K H (.ref a) (.type "dict")
 |ins {a C dx:Addr}{fs:List (Str×V)} (e:H a=some (.ins C dx fs)) (cl:Cls K C) (ha:PySem.W.findIn K (.ref C) "__class__"=some (some (.builtin "object.__class__")))
   (hn:PySem.W.specialIn K (.builtin "object.__class__") "__get__"=some (some (.builtin "getset_descriptor.__get__"))) (yg:PySem.W.takesIn K (.builtin "object.__class__")=some true)
   (hm:PySem.W.mroIn K C (.type "object")=some true):YAk K H (.ref a) (.ref C)
theorem YH7 {x:V}{u t:Value} (I:Inv X pins σ H s) (rx:Yk x u) (ty:YAk X.K H x t) (e:PySem.W.kitOne X.K t c=some b) (h:∀tk,Q (.bool b) { s with toks:=tk }):
  wpAny (model X.prog X.w) A (call (.builtin "isinstance") [u,c]) Q E s:=by
 cases ty with
 |non=>cases (show u=Value.none from rx);exact PySem.W.kia_one PySem.W.kitx_none I.kIn True.intro e nofun h
 |bl y=>cases (show u=Value.bool y from rx);exact PySem.W.kia_one PySem.W.kitx_bool I.kIn True.intro e nofun h
 |int i=>obtain⟨t,q⟩:=(show ∃t,u=Value.int i t from rx);cases q;exact PySem.W.kia_one PySem.W.kitx_int I.kIn True.intro e nofun h
 |str y=>obtain⟨t,q⟩:=(show ∃t,u=Value.str y t from rx);cases q;exact PySem.W.kia_one PySem.W.kitx_str I.kIn True.intro e nofun h
 |flt y=>obtain⟨t,q⟩:=(show ∃t,u=Value.float y t from rx);cases q;exact PySem.W.kia_one PySem.W.kitx_float I.kIn True.intro e nofun h
 |@lst a xs ea=>
  cases (show u=Value.ref a from rx);obtain⟨_,_,n,_,h1⟩:=(show Yq X.prog X.w H s.heap a (.lst xs) from I.hok a _ ea);exact PySem.W.kia_one PySem.W.kitx_list I.kIn ⟨_,h1,U⟩ e nofun h
 |@frz a ob xs ea=>
  cases (show u=Value.ref a from rx);obtain⟨_,_,_,n,_,h1⟩:=(show Yq X.prog X.w H s.heap a (.frz ob (.lst xs)) from I.hok a _ ea);exact PySem.W.kia_one PySem.W.kitx_list I.kIn ⟨_,h1,U⟩ e nofun h
 |@tup a xs ea=>
  cases (show u=Value.ref a from rx);obtain⟨_,_,_,p⟩:=(show Yq X.prog X.w H s.heap a (.tup xs) from I.hok a _ ea);obtain⟨o,h1,h2,_⟩:=p;exact PySem.W.kia_one PySem.W.kitx_tuple I.kIn ⟨o,h1,h2⟩ e nofun h
 |@dK a kvs ea=>
  cases (show u=Value.ref a from rx);obtain⟨_,_,vs,_,p⟩:=(show Yq X.prog X.w H s.heap a (.dK kvs) from I.hok a _ ea);obtain⟨o,es,ep,h1,h2,_⟩:=p;exact PySem.W.kia_one PySem.W.kitx_dict I.kIn ⟨o,h1,h2.1⟩ e nofun h
 |@dT a kvs ea=>
  cases (show u=Value.ref a from rx);obtain⟨_,_,xs,_,o,es,ep,h1,h2,_⟩:=(show Yq X.prog X.w H s.heap a (.dT kvs) from I.hok a _ ea);exact PySem.W.kia_one PySem.W.kitx_dict I.kIn ⟨o,h1,h2.1⟩ e nofun h
 |@ins a C dx fs ea cl ha hn yg hm=>
  cases (show u=Value.ref a from rx);obtain⟨mA,O,_⟩:=ins_get I.hok ea;obtain⟨od,J,_⟩:=O.look;exact PySem.W.kia_one (PySem.W.kitx_own (cl.get _) cl.hd ha hn yg hm) I.kIn J e nofun h
end
end L2
namespace L2
open PySem PySem.Spec PyProof.Rows
structure XL (k:Nat) (A:Around):Prop where
 hd:A.handled=none
 dp:A.depth + 3 * k + 5 < recursionLimit
 un:A.units + 16 * k + 200 < cLine
theorem XL.mono {j k:Nat}{A:Around} (r:XL k A) (h:j<=k):XL j A:=⟨r.hd,by have:=r.dp;omega,by have:=r.un;omega⟩
theorem XL.deeper {k:Nat}{A:Around} (r:XL (k + 1) A) (env:Env):XL k (A.deeper env):=
 ⟨r.hd,by have:=r.dp;show A.depth + 1 + 3 * k + 5 < _;omega,by have:=r.un;show A.units + 3 + 16 * k + 200 < _;omega⟩
theorem XL.depth {k:Nat}{A:Around} (r:XL k A):A.depth < recursionLimit:=by have:=r.dp;omega
theorem XL.units {k:Nat}{A:Around} (r:XL k A):A.units + 64 < cLine:=by have:=r.un;omega
def tNil:TA:=λ_ H Q=>Q [] H
def tCons (ta:TE) (tr:TA):TA:=λσ H Q=>ta σ H λx H1=>tr σ H1 λxs H2=>Q (x :: xs) H2
section
variable {X:Cx}{e:Expr}{es:List Expr}{te:TE}{t:TA}{pos:Pos}
theorem YB:PA X [] tNil:=λ_ _ _ _ H Q I h=>Calls.spliced_nil ⟨[],H,I,.nil,h⟩
theorem YA (ha:PE X e te) (hr:PA X es t) (hs:starEach (e :: es) X.env=(false,eval e X.env) :: starEach es X.env:=by rfl):PA X (e :: es) (tCons te t):=by
 intro pos pins s σ H Q I h;rw[hs];show wpAny _ _ (spliced ((false,eval e X.env) :: backTo pos (starEach es X.env))) _ _ s;refine Calls.spliced_cons (thn (ha pins s σ H _ I h) λu s1 ⟨x,H1,I1,r1,q1⟩=>?_);exact thn (hr pos pins s1 σ H1 _ I1 q1) λus s2 ⟨xs,H2,I2,r2,q2⟩=>⟨x :: xs,H2,I2,.cons r1 r2,q2⟩
inductive tTup_ (Q:VK) (xs:List V) (H1:Hp):Prop where
 |mk (aY:xs.length<=sizeLine) (aZ:∀p,H1 p=none->Q (.ref p) (upd H1 p (.tup xs))):tTup_ Q xs H1
def tTup (t:TA):TE:=λσ H Q=>t σ H λxs H1=>tTup_ Q xs H1
inductive tLst_ (Q:VK) (xs:List V) (H1:Hp):Prop where
 |mk (aY:xs.length<=sizeLine) (aZ:∀p,H1 p=none->Q (.ref p) (upd H1 p (.lst xs))):tLst_ Q xs H1
def tLst (t:TA):TE:=λσ H Q=>t σ H λxs H1=>tLst_ Q xs H1
theorem Zb {x1} (h:PA X es t):PE X (.Tuple es x1 pos) (tTup t):=by
 intro pins s σ H Q I hq;refine wpAny_Tuple_spliced (thn (h pos pins s σ H _ I hq) λus s1 ⟨xs,H1,I1,r,z,q⟩=>⟨by rw[<-r.length];exact z,?_⟩);have hf:H1 s1.heap.objs.size=none:=I1.hok.fresh (YKH _);refine⟨.ref s1.heap.objs.size,upd H1 s1.heap.objs.size (.tup xs),I1.laid (t':=s1.toks) (λb u e=>YKI _ e) (YKH _) ?_,U,q _ hf⟩;exact⟨z,us,r,⟨_,YKe _ rfl,U,_,U⟩⟩
theorem Y7 (h:PA X es t):PE X (.List es pos) (tLst t):=by
 intro pins s σ H Q I hq;refine wpAny_List_spliced (thn (h pos pins s σ H _ I hq) λus s1 ⟨xs,H1,I1,r,z,q⟩=>⟨by rw[<-r.length];exact z,?_⟩);have hf:H1 s1.heap.objs.size=none:=I1.hok.fresh (YKH _);refine⟨.ref s1.heap.objs.size,upd H1 s1.heap.objs.size (.lst xs),I1.laid (t':=s1.toks) (λb u e=>YKI _ e) (YKH _) ?_,U,q _ hf⟩;exact⟨z,us,0,r,YKe _ rfl⟩
end
abbrev Sp:=List V->Hp->VK->XK->Prop
abbrev CXT:=List Env->Hp->Shared->XK->Value->Shared->Prop
structure Env0 (P:Program) (w:World) (K:W.Frag) (mg:Str->Option Value) (base:Heap) (A:Around) (outer:List Env) (s:Shared) (H:Hp):Prop where
 frames:A.frames=some outer
 mod:Mod K mg base
 bs:∀b o,base.get? b=some o->s.heap.get? b=some o/\H b=none
 bsz:base.objs.size<=s.heap.objs.size
 funs:s.heap.FunFrames base outer
 frf:∀b∈frs outer,H b=none
 hok:HOk P w H s.heap
 bare:AllBare s.gens
def CE (outer:List Env) (P:Program) (w:World) (H:Hp) (s:Shared) (Q:VK) (u:Value) (s':Shared):Prop:=
 ∃v H',s'.os=s.os/\AllBare s'.gens/\Un (frs outer) [] H H' s.heap s'.heap/\HOk P w H' s'.heap/\Yk v u/\Q v H'
def CR (CX:CXT) (outer:List Env) (P:Program) (w:World) (H:Hp) (s:Shared) (Q:VK) (E:XK) (r:Result) (s':Shared):Prop:=
 match r with
 |.ok (.ret u)=>CE outer P w H s Q u s'
 |.ok _=>False
 |.error e=>CX outer H s E e s'
structure Yz (P:Program) (w:World) (K:W.Frag) (mg:Str->Option Value) (base:Heap) (CX:CXT) (k:Nat) (f:Addr) (fd:FuncData) (ps:List Str) (sp:Sp):Prop where
 len:∀vs H Q E,sp vs H Q E->vs.length=ps.length
 run:∀(A:Around) (outer:List Env) (s:Shared) (H:Hp) (args:Args) (us:List Value) (vs:List V) (Q:VK) (E:XK),XL k A->Env0 P w K mg base A outer s H->BindsTo s fd args (ps.zip us)->Yi vs us->sp vs H Q E->
  codeAny (model P w) A (.call (.ref f) args) (CR CX outer P w H s Q E) s
section
variable {X:Cx}{pins:List (Addr×Obj)}{σ:St}{H:Hp}{s s':Shared}
theorem Inv.env0 (I:Inv X pins σ H s):Env0 X.prog X.w X.K X.mg X.base X.A X.stack s H:=
 ⟨I.ok.frames,I.ok.mod,I.bs,YKq I.ok.bsz I.sz,I.stack,I.stkFree,I.hok,I.bare⟩
theorem Inv.after {Q:VK}{u:Value} (I:Inv X pins σ H s) (h:CE X.stack X.prog X.w H s Q u s'):EP X pins σ Q u s':=by
 obtain⟨v,H',os,bare,un,hok,r,q⟩:=h;obtain⟨hh,g,d,t,Ri⟩:=s';obtain rfl:Ri=s.os:=os;exact⟨v,H',I.call (h':=hh) (g':=g) (d':=d) (t':=t) (ch:=[]) un hok bare (λb z=>absurd z (by simp)),r,q⟩
end
def tCall (sp:Sp) (nG:List V) (E:XK) (t:TA):TE:=λσ H Q=>t σ H λvs H1=>sp (vs ++ nG) H1 Q E
def YCV (K:W.Frag) (fd:FuncData) (ps:List Str) (ds:List Value):Prop:=
 ∀(s:Shared) (us:List Value),K.In s.heap->(us ++ ds).length=ps.length->BindsTo s fd ⟨us,[]⟩ (ps.zip (us ++ ds))
theorem YCV.all {K:W.Frag}{fd:FuncData}{ps:List Str} (h:∀us:List Value,us.length=ps.length->bindArgs fd ⟨us,[]⟩=pure (ps.zip us)):YCV K fd ps []:=λs us _ hl=>by
 rw[YKs]at hl ⊢;exact .of_eq (h us hl)
def YCW (CX:CXT) (X:Cx) (E:XK):Prop:=∀(pins:List (Addr×Obj)) (σ:St) (H:Hp) (s:Shared) (e:Value) (s':Shared),Inv X pins σ H s->CX X.stack H s E e s'->X.xe e s'
section
variable {X:Cx}{CX:CXT}{k:Nat}{f C:Addr}{fd:FuncData}{ps:List Str}{sp:Sp}{nG:List V}{ds:List Value}{E:XK}{x m:Str}{p pos dH:Pos}{e o:Expr}{es:List Expr}{ta:TE}{t:TA}
theorem run_fn {pins:List (Addr×Obj)}{σ:St}{H:Hp}{s:Shared}{Q:VK}{us:List Value}{vs:List V} (F:Yz X.prog X.w X.K X.mg X.base CX k f fd ps sp) (hr:XL k X.A) (hb:YCV X.K fd ps ds) (hd:Yi nG ds) (hx:YCW CX X E)
  (I:Inv X pins σ H s) (r:Yi vs us) (h:sp (vs ++ nG) H Q E):wpAny (model X.prog X.w) X.A (call (.ref f) us) (EP X pins σ Q) X.xe s:=by
 have r2:Yi (vs ++ nG) (us ++ ds):=r.append hd;have hl:(us ++ ds).length=ps.length:=by rw[<-r2.length];exact F.len _ _ _ _ h
 refine wpAny_call (codeAny_mono (F.run X.A X.stack s H ⟨us,[]⟩ (us ++ ds) (vs ++ nG) Q E hr I.env0 (hb s us I.kIn hl) r2 h) λr s' hq=>?_);cases r with
 |error e=>exact hx pins σ H s e s' I hq
 |ok fl=>
  cases fl with
  |ret u=>exact I.after hq
  |next=>exact False.elim hq
  |brk=>exact False.elim hq
  |cont=>exact False.elim hq
theorem YM (F:Yz X.prog X.w X.K X.mg X.base CX k f fd ps sp) (hr:XL k X.A) (hg:Gl X x) (hm:X.mg x=some (.ref f)) (hk:PySem.W.keepIn X.K (.ref f)=true) (hb:YCV X.K fd ps ds) (hd:Yi nG ds) (hx:YCW CX X E)
  (ha:PA X (e :: es) t) (hdb:(x == ("__debug__":Str))=false:=by decide) (he:starEach (e :: es) X.env=(false,eval e X.env) :: starEach es X.env:=by rfl) (hpl:(backTo pos (starEach es X.env)).any (·.1)=false:=by rfl):
  PE X (.Call (.Name x p) (e :: es) [] pos) (tCall sp nG E t):=by
 intro pins s σ H Q I h;refine wpAny_Call_Name_kw (YAI I hg hm ?_ hdb);refine PySem.W.callWith_K (h₀:=X.base) I.ok.mod.kin hk (thn (ha pos pins s σ H _ I h) λus s1 ⟨vs,H1,I1,r,q⟩=>⟨I1.kIn,?_⟩) he hpl;exact run_fn F hr hb hd hx I1 r q
end
section
variable {X:Cx}{CX:CXT}{k:Nat}{f C:Addr}{fd:FuncData}{ps ks:List Str}{sp:Sp}{E:XK}{x m:Str}{p pos dH kpos:Pos}{e o:Expr}{es:List Expr}{kws:List Keyword}{te ta:TE}{t tk:TA}{nm:Option Str}
variable {g:List Value->List Value->List Value}{gV:List V->List V->List V}
end
structure YV (N P:List Str) (sc:Scope):Prop where
 kind:sc.kind=.function
 co:sc.isCoroutine=false
 gen:sc.isGenerator=false
 nd:N.Nodup
 pre:N.take P.length=P
 par:∀x∈P,sc.names.lookup x=some .local\/sc.names.lookup x=some .cell
 nofree:∀y∈sc.names,y.2≠.free
theorem YDs {kindOf:Str->Option NameKind}{x:Str}:∀{binds:List (Str×Value)}{m:Str->Option Value},(∀v,(x,v)∉binds)->bindL kindOf binds m x=m x
 |[],_,_=>rfl
 |(n,v) :: r,m,h=>by
  unfold bindL;rw[YDs λw hw=>h w (YKY _ hw)];split
  ·have:x≠n:=by rintro rfl;exact h v YKd
   simp[this]
  ·rfl
theorem YDt {kindOf:Str->Option NameKind}{x:Str}:∀{binds:List (Str×Value)}{m:Str->Option Value},(∀v,(x,v)∉binds)->bindC kindOf binds m x=m x
 |[],_,_=>rfl
 |(n,v) :: r,m,h=>by
  unfold bindC;rw[YDt λw hw=>h w (YKY _ hw)];split
  ·rfl
  ·have:x≠n:=by rintro rfl;exact h v YKd
   simp[this]
theorem YDu {kindOf:Str->Option NameKind}{x:Str}{v:Value}:∀{P:List Str}{vs:List Value}{i:Nat}{m:Str->Option Value},P.Nodup->P[i]?=some x->vs[i]?=some v->kindOf x=some .local->
  bindL kindOf (P.zip vs) m x=some v
 |[],_,_,_,_,h,_,_=>by simp at h
 |_ :: _,[],_,_,_,_,h,_=>by simp at h
 |p :: P,w :: vs,0,m,nd,h1,h2,hk=>by
  simp at h1 h2;subst h1;subst h2;show bindL kindOf ((p,w) :: P.zip vs) m p=_;unfold bindL;rw[YDs λv hv=>(YK9.mp nd).1 (List.of_mem_zip hv).1,if_pos hk];simp
 |p :: P,w :: vs,i + 1,m,nd,h1,h2,hk=>by
  show bindL kindOf ((p,w) :: P.zip vs) m x=_;unfold bindL;exact YDu (i:=i) (YK9.mp nd).2 (by simpa using h1) (by simpa using h2) hk
theorem YDv {kindOf:Str->Option NameKind}{x:Str}{v:Value}:∀{P:List Str}{vs:List Value}{i:Nat}{m:Str->Option Value},P.Nodup->P[i]?=some x->vs[i]?=some v->kindOf x≠some .local->
  bindC kindOf (P.zip vs) m x=some v
 |[],_,_,_,_,h,_,_=>by simp at h
 |_ :: _,[],_,_,_,_,h,_=>by simp at h
 |p :: P,w :: vs,0,m,nd,h1,h2,hk=>by
  simp at h1 h2;subst h1;subst h2;show bindC kindOf ((p,w) :: P.zip vs) m p=_;unfold bindC;rw[YDt λv hv=>(YK9.mp nd).1 (List.of_mem_zip hv).1,if_neg hk];simp
 |p :: P,w :: vs,i + 1,m,nd,h1,h2,hk=>by
  show bindC kindOf ((p,w) :: P.zip vs) m x=_;unfold bindC;exact YDv (i:=i) (YK9.mp nd).2 (by simpa using h1) (by simpa using h2) hk
def start (N:List Str) (vs:List V):St:=vs.map some ++ List.replicate (N.length - vs.length) none
def YBc (CX:CXT) (P:Program) (w:World) (K:W.Frag) (mg:Str->Option Value) (base:Heap) (N:List Str) (qual:Str) (scope:Scope) (f:Addr) (cd:Value) (A:Around) (outer:List Env) (s:Shared) (H:Hp) (E:XK):Cx where
 prog:=P
 w:=w
 K:=K
 mg:=mg
 base:=base
 A:=A.deeper (envOfC qual scope s.heap.objs.size f cd)
 N:=N
 s₀:=s
 H₀:=H
 env:=envOfC qual scope s.heap.objs.size f cd
 outer:=outer
 stack:=envOfC qual scope s.heap.objs.size f cd :: outer
 ex:=[]
 calm:=true
 fn:=λ_=>true
 pn:=[]
 xe:=λe s'=>wpAny (model P w) (A.deeper (envOfC qual scope s.heap.objs.size f cd)) (leaving (envOfC qual scope s.heap.objs.size f cd) e) (λ_ qb=>CX outer H s E e qb) (λe' qb=>CX outer H s E e' qb) s'
theorem Jo {sc:Scope}{n:Nat}{x:Str} (h:sc.names.lookup x=some .cell):∃c,(cellsFrom n sc.names []).lookup x=some c:=by
 have q:=PySem.W.cellsFrom_some sc.names n [] (.inl h);exact Option.isSome_iff_exists.mp q
theorem YH8 {CX:CXT}{P:Program}{w:World}{K:W.Frag}{mg:Str->Option Value}{base:Heap}{N ps:List Str}{qual:Str}{scope:Scope}{f:Addr}{cd:Value}{A:Around}{outer:List Env}{s s1:Shared}{H:Hp}{E:XK}{us:List Value}{vs:List V}
  (S:YV N ps scope) (hd:A.handled=none) (e0:Env0 P w K mg base A outer s H) (hl:vs.length=ps.length) (r:Yi vs us)
  (x:InCallC s s.heap.objs.size (bindL (envOfC qual scope s.heap.objs.size f cd).kindOf (ps.zip us) λ_=>none) (cellsFrom (s.heap.objs.size + 1) scope.names []) (bindC (envOfC qual scope s.heap.objs.size f cd).kindOf (ps.zip us) λ_=>none) s1):
  Inv (YBc CX P w K mg base N qual scope f cd A outer s H E) [] (start N vs) H s1:=by
 have hpl:ps.length<=N.length:=by have:=YLR List.length S.pre;rw[YK3]at this;omega
 obtain⟨h1,tk,rfl,hk⟩:=x.done;have noA:∀b:Addr,b∉(YBc CX P w K mg base N qual scope f cd A outer s H E).ex:=λb z=>absurd (show b∈([]:List Addr) from z) (by simp)
 refine⟨⟨e0.mod,S.kind,U,U,YKH _,λy z c h1 h2=>?_,λy hy=>?_,λy c _ h=>?_,λ_=>hd,Around.frames_deeper e0.frames,.inr ⟨U,U⟩,λb z=>absurd z (noA b),e0.bs,e0.bsz,λb _ _=>noA b,λb z=>absurd z (noA b),e0.funs,e0.frf⟩,
  rfl,e0.bare,Un.kept hk,⟨_,x.toInCall.ns,λi y v h1 h2 h3=>?_⟩,λy c h=>⟨_,x.cell y c h⟩,e0.hok.fresh (YKH _),λy c h=>?_,λp hp=>absurd (show p∈([]:List (Addr×Obj)) from hp) (by simp),e0.hok.kept hk,?_⟩
 ·exact name_of_addr x.apart (PySem.mem_of_lookup h1) (PySem.mem_of_lookup h2)
 ·have hy:scope.names.lookup y=some .cell\/scope.names.lookup y=some .free:=hy;rcases hy with hy |hy
  ·exact Jo hy
  ·exact absurd rfl (S.nofree _ (PySem.mem_of_lookup hy))
 ·exact YLx (x.above y c (PySem.mem_of_lookup h))
 ·have hi:i < vs.length:=by
   unfold start at h2
   by_cases hi:i < vs.length
   ·exact hi
   ·rw[YKw (by simpa using hi)]at h2;rw[List.getElem?_replicate]at h2;split at h2 <;> cases h2
  have ha:vs[i]?=some v:=by
   unfold start at h2;rw[YLA (by simpa using hi),YKk]at h2;cases e:vs[i]? with
   |none=>rw[e]at h2;cases h2
   |some a=>rw[e]at h2;cases h2;rfl
  obtain⟨u,hu,rv⟩:=r.get ha;have hp:ps[i]?=some y:=by
   rw[<-S.pre,List.getElem?_take_of_lt (by omega)];exact h1
  have ndP:ps.Nodup:=by rw[<-S.pre];exact S.nd.sublist (List.take_sublist _ _)
  refine⟨u,rv,?_⟩;rcases S.par y (YKL hp) with k |k
  ·exact .inl ⟨k,YDu ndP hp hu k⟩
  ·obtain⟨c,e⟩:=Jo (n:=s.heap.objs.size + 1) k;refine .inr ⟨.inl k,c,e,?_⟩;have q:=x.cell y c e;rw[YDv ndP hp hu (by show scope.names.lookup y≠_;rw[k];decide)]at q;exact q
 ·exact e0.hok.fresh (YLx (x.above y c (PySem.mem_of_lookup h)))
 ·unfold start;show _=N.length;rw[YKJ,YKF,List.length_replicate];omega
theorem fn_of {CX:CXT}{P:Program}{w:World}{K:W.Frag}{mg:Str->Option Value}{base:Heap}{k:Nat}{f:Addr}{name qual:Str}{params:Arguments}{body:List Stmt}{scope:Scope}{dV kV doc pm aK ct oc:Value}{an od:Option Addr}
  {osl:Array (Option Value)}{N ps:List Str}{sp:Sp} (lk:K.lookup f=some ⟨oc,od,.func (PySem.W.fnOf name qual params body scope dV kV doc pm an aK ct),osl⟩) (hcd:PySem.W.codeIn K aK qual=true) (S:YV N ps scope)
  (len:∀vs H Q E,sp vs H Q E->vs.length=ps.length)
  (hbody:∀(A:Around) (outer:List Env) (s:Shared) (H:Hp) (vs:List V) (Q:VK) (E:XK),XL k (A.deeper (envOfC qual scope s.heap.objs.size f aK))->sp vs H Q E->
   ∃t,PSs (YBc CX P w K mg base N qual scope f aK A outer s H E) body t/\t { nx:=λ_ H'=>Q .non H',rt:=Q } (start N vs) H):
  Yz P w K mg base CX (k + 1) f (PySem.W.fnOf name qual params body scope dV kV doc pm an aK ct) ps sp:=by
 refine⟨len,λA outer s H args us vs Q E hr e0 hb r hsp=>?_⟩;have hl:=len _ _ _ _ hsp;have KX:K.In s.heap:=e0.mod.kin.keeps λb o e=>(e0.bs b o e).1
 have lim:s.heap.NoLimit:=e0.mod.nolimit.keeps λb o e=>(e0.bs b o e).1
 have hkind:∀y∈ps.zip us,scope.names.lookup y.1=some .local\/(scope.names.lookup y.1=some .cell/\((cellsFrom (s.heap.objs.size + 1) scope.names []).lookup y.1).isSome=true):=λ⟨n,v⟩ hy=>by
  rcases S.par n (List.of_mem_zip hy).1 with q |q
  ·exact .inl q
  ·exact .inr ⟨q,PySem.W.cellsFrom_some _ _ _ (.inl q)⟩
 refine codeAny_call_function hr.depth (KX _ _ lk) rfl S.co S.gen rfl (PySem.W.codeRec_of KX hcd) (hb _ _ _ _ ?_);refine wpAny_newFunctionEnv_cells S.kind hkind λenv he s1 x=>?_
 subst he;refine⟨lim.keeps x.toInCall.keep,codeAny_func ?_⟩;obtain⟨t,ht,hq⟩:=hbody A outer s H vs Q E (hr.deeper _) hsp;have I:Inv (YBc CX P w K mg base N qual scope f aK A outer s H E) [] (start N vs) H s1:=YH8 S hr.hd e0 hl r x;refine wpAny_mono (ht [] s1 (start N vs) H _ I hq) (λfl s' hs=>?_) λe s' hs=>hs
 have fin:∀{σ':St}{H':Hp}{v:V}{u:Value},Inv (YBc CX P w K mg base N qual scope f aK A outer s H E) [] σ' H' s'->Yk v u->Q v H'->CE outer P w H s Q u s':=
  λ{σ' H' v u} J rv q=>⟨v,H',J.os,J.bare,J.base,J.hok,rv,q⟩
 cases fl with
 |ret u=>
  obtain⟨v,σ',H',J,rv,q⟩:=hs;exact fin J rv q
 |next=>
  obtain⟨σ',H',J,q⟩:=hs;exact fin (v:=V.non) (u:=Value.none) J rfl q
 |brk=>
  obtain⟨_,_,_,q⟩:=hs;exact False.elim q
 |cont=>
  obtain⟨_,_,_,q⟩:=hs;exact False.elim q
end L2
namespace L2
open PySem PySem.Spec PyProof.Rows
section
variable {X:Cx}{x:Str}{p pos:Pos}{e:Expr}{es:List Expr}{t:TA}{id T:String}{r:List V->Hp->VK->Prop}
def tCB (r:List V->Hp->VK->Prop) (t:TA):TE:=λσ H Q=>t σ H λvs H1=>r vs H1 Q
theorem YO (hc:Zg X (.builtin id) r) (hg:Gl X x) (hm:X.mg x=none) (hv:bootBuiltins x=some (.builtin id)) (ha:PA X (e :: es) t) (hn:x≠"__name__":=by decide) (hdb:(x == ("__debug__":Str))=false:=by decide)
  (he:starEach (e :: es) X.env=(false,eval e X.env) :: starEach es X.env:=by rfl) (hpl:(backTo pos (starEach es X.env)).any (·.1)=false:=by rfl):PE X (.Call (.Name x p) (e :: es) [] pos) (tCB r t):=by
 intro pins s σ H Q I h;refine wpAny_Call_Name_kw (JJ I hg hm hv ?_ hn hdb);exact PyProof.Rows.callWith_builtin1 (thn (ha pos pins s σ H _ I h) λus s1 ⟨vs,H1,I1,r1,q1⟩=>hc pins s1 σ H1 vs us Q I1 r1 q1) he hpl
theorem Zv (hc:Zg X (.type T) r) (hg:Gl X x) (hm:X.mg x=none) (hv:bootBuiltins x=some (.type T)) (ha:PA X (e :: es) t) (hn:x≠"__name__":=by decide) (hdb:(x == ("__debug__":Str))=false:=by decide)
  (he:starEach (e :: es) X.env=(false,eval e X.env) :: starEach es X.env:=by rfl) (hpl:(backTo pos (starEach es X.env)).any (·.1)=false:=by rfl):PE X (.Call (.Name x p) (e :: es) [] pos) (tCB r t):=by
 intro pins s σ H Q I h;refine wpAny_Call_Name_kw (JJ I hg hm hv ?_ hn hdb);exact PyProof.Rows.callWith_type1 (thn (ha pos pins s σ H _ I h) λus s1 ⟨vs,H1,I1,r1,q1⟩=>hc pins s1 σ H1 vs us Q I1 r1 q1) he hpl
end
end L2
namespace HT
open PySem PyProof.Rows
section
open PySem.SeqAt
open PySem.AutoSeq1 (wpAny_loadPart')
open PySem.MeetsSeq PySem.MeetsSeq2 PySem.MeetsSeq3
end
section
variable {prog:Program}{w:World}{A:Around}{E:Value->Shared->Prop}{s:Shared}
def sIx (n d:Nat):Option Int->Nat
 |none=>d
 |some v=>if v < 0 then (v + (n:Int)).toNat else min v.toNat n
theorem sIx_nat (n d k:Nat):sIx n d (some (k:Int))=min k n:=by
 show(if (k:Int) < 0 then ((k:Int) + (n:Int)).toNat else min (k:Int).toNat n)=min k n;rw[if_neg (by omega),YLc]
theorem sIx_le (n d:Nat) (hd:d<=n) (o:Option Int):sIx n d o<=n:=by
 cases o with
 |none=>exact hd
 |some v=>
  show(if v < 0 then (v + (n:Int)).toNat else min v.toNat n)<=n
  by_cases hv:v < 0
  ·rw[if_pos hv];omega
  ·rw[if_neg hv];exact Nat.min_le_right _ _
theorem YHC (v:Int) (n d:Nat):(if v < 0 then max (v + (n:Int)) 0 else min v (n:Int))=((sIx n d (some v):Nat):Int):=by
 show(if v < 0 then max (v + (n:Int)) 0 else min v (n:Int))=(((if v < 0 then (v + (n:Int)).toNat else min v.toNat n):Nat):Int)
 by_cases hv:v < 0
 ·simp only[if_pos hv];omega
 ·simp only[if_neg hv];omega
theorem YGR (lo hi:Option Int) (n:Nat):Builtin.Slice.sliceAdjust lo hi 1 (n:Int)=(((sIx n 0 lo:Nat):Int),((sIx n n hi:Nat):Int)):=by
 have h1:¬((1:Int) < 0):=by omega
 unfold Builtin.Slice.sliceAdjust;simp only[h1,if_false];refine Prod.ext ?_ ?_
 ·cases lo with
  |none=>rfl
  |some v=>exact YHC v n 0
 ·cases hi with
  |none=>rfl
  |some v=>exact YHC v n n
theorem YGS (i j:Nat):Builtin.Slice.slicePlaces (i:Int) (j:Int) 1=j - i:=by
 unfold Builtin.Slice.slicePlaces;have h1:(1:Int) > 0:=by omega
 simp only[h1,if_true,Int.ediv_one];split <;> omega
theorem YCX {v:Value}{o:Option Int}{Q:Option Int->Shared->Prop} (p:IsPart v o) (h:Q o s):wpAny (model prog w) A (Builtin.Slice.slicePartIndex v) Q E s:=by
 cases p with
 |none=>exact slicePart_none h
 |int i t=>exact slicePart_int h
theorem sliceApplied_gen {sl:Addr}{vl vu:Value}{lo hi:Option Int}{n:Nat}{Q:Int×Int×Nat->Shared->Prop} (hs:s.heap.IsSliceOf sl vl vu .none) (pl:IsPart vl lo) (pu:IsPart vu hi)
  (h:Q (((sIx n 0 lo:Nat):Int),1,sIx n n hi - sIx n 0 lo) s):wpAny (model prog w) A (Builtin.Slice.sliceApplied (.ref sl) (pure (n:Int))) Q E s:=by
 obtain⟨os,vH,hcs,aF⟩:=id hs;unfold Builtin.Slice.sliceApplied Builtin.Slice.sliceFields;refine YKG (YKG (wpAny_field vH aF (x:=vl) rfl (YKG (wpAny_field vH aF (x:=vu) rfl (YKG (wpAny_field vH aF (x:=.none) rfl (YKV ?_)))))));refine YKG (slicePart_none ?_);show wpAny _ _ (if ((1:Int) == 0)=true then _ else _) _ _ s;rw[if_neg (by decide)];refine YKG (YCX pl (YKG (YCX pu (YKG (YKV ?_)))));show wpAny _ _ (match Builtin.Slice.sliceAdjust lo hi 1 (n:Int) with |(lo,hi)=>pure (lo,(1:Int),Builtin.Slice.slicePlaces lo hi 1)) _ _ s;rw[YGR lo hi n];show wpAny _ _ (pure (((sIx n 0 lo:Nat):Int),(1:Int),Builtin.Slice.slicePlaces ((sIx n 0 lo:Nat):Int) ((sIx n n hi:Nat):Int) 1)) _ _ s;rw[YGS];exact YKV h
theorem YI2 (xs:Array Value) (i k:Nat):((List.range k).filterMap λ(m:Nat)=>xs[((i:Int) + (m:Int) * 1).toNat]?).toArray=((xs.toList.drop i).take k).toArray:=by
 have e:(λ(m:Nat)=>xs[((i:Int) + (m:Int) * 1).toNat]?)=λm=>xs[i + m]?:=by
  funext m;have:((i:Int) + (m:Int) * 1).toNat=i + m:=by omega
  rw[this]
 rw[e];have:=pick_run xs i k;rw[List.filterMap_map]at this;have e2:((λx=>xs[x]?)∘λx=>i + x)=λm=>xs[i + m]?:=rfl
 rw[e2]at this;rw[this]
theorem getItem_tuple_cut {t sl:Addr}{items:Array Value}{vl vu:Value}{lo hi:Option Int}{Q:Value->Shared->Prop} (ht:IsTup s.heap t items) (hs:s.heap.IsSliceOf sl vl vu .none) (pl:IsPart vl lo) (pu:IsPart vu hi)
  (hw:¬(sIx items.size 0 lo=0/\sIx items.size items.size hi=items.size))
  (h:Q (.ref s.heap.objs.size) { s with heap:=s.heap.push { cls:=.type "tuple",data:=.seq ((items.toList.drop (sIx items.size 0 lo)).take (sIx items.size items.size hi - sIx items.size 0 lo)).toArray } })
  (hsz:items.size<=sizeLine):wpAny (model prog w) A (getItem (.ref t) (.ref sl)) Q E s:=by
 have nO:sizeOk (.seq ((items.toList.drop (sIx items.size 0 lo)).take (sIx items.size items.size hi - sIx items.size 0 lo)).toArray):=by
  show((items.toList.drop (sIx items.size 0 lo)).take (sIx items.size items.size hi - sIx items.size 0 lo)).toArray.size<=sizeLine;rw[YKQ,YK3,YK4,YK2];omega
 have hj:sIx items.size items.size hi<=items.size:=sIx_le _ _ (YKH _) hi;obtain⟨os,vH,hcs,aF⟩:=id hs;have hTs:s.TypeIs (.ref sl) "slice":=⟨os,vH,hcs⟩;unfold getItem
 try with_reducible refine wpAny_holding ?_
 first |refine YKG (YKV ?_) |skip
 refine YKG (wpAny_sequenceKey ht.typeIs (by decide) ?_);refine YKG (wpAny_callSpecial?_slot (name:=Str.ofString "__getitem__") ht.typeIs PyProof.Rows.slot_tuple_getitem
  (wpAny_call_entry PyProof.Rows.slot_tuple_getitem ht.typeIs entry_tuple_getitem ?_ (args_tuple_getitem _ _)))
 show wpAny _ _ (Builtin.Tuple.tupleItemsOf (.ref t) >>= _) _ _ s;refine YKG (tupleItemsOf_ ht ?_);refine YKG (wpAny_typeOf hTs ?_);rw[if_pos (by decide)];refine YKG (sliceApplied_gen hs pl pu ?_);have hno:¬((((sIx items.size 0 lo:Nat):Int) == 0 && (1:Int) == 1 && (sIx items.size items.size hi - sIx items.size 0 lo) == items.size)=true):=by
  intro q;rw[YKM,YKM]at q;have q1:((sIx items.size 0 lo:Nat):Int)=0:=eq_of_beq q.1.1;have q2:sIx items.size items.size hi - sIx items.size 0 lo=items.size:=eq_of_beq q.2;exact hw ⟨by omega,by omega⟩
 show wpAny _ _ (if (((sIx items.size 0 lo:Nat):Int) == 0 && (1:Int) == 1 && (sIx items.size items.size hi - sIx items.size 0 lo) == items.size)=true then _ else _) _ _ s;rw[if_neg hno,YI2]
 first
  |exact YKG (m:=Builtin.Tuple.tupleExact _) (wpAny_newObj_type (YKV ⟨_,rfl,YKV h⟩) nO)
  |exact YKG (m:=Builtin.Tuple.tupleExact _) (wpAny_newObj_type (YKG (YKV (YKV ⟨_,rfl,YKV h⟩))) nO)
  |exact YKG (YKG (m:=Builtin.Tuple.tupleExact _) (wpAny_newObj_type (YKV (YKV ⟨_,rfl,YKV h⟩)) nO))
  |exact YKG (YKG (m:=Builtin.Tuple.tupleExact _) (wpAny_newObj_type (YKV ⟨_,rfl,YKV h⟩) nO))
end
end HT
namespace L2
open PySem PySem.Spec PyProof.Rows
abbrev TO:=St->Hp->(Option Int->Hp->Prop)->Prop
def PO (X:Cx) (e:Option Expr) (t:TO):Prop:=
 ∀(pins:List (Addr×Obj)) (s:Shared) (σ:St) (H:Hp) (Q:Option Int->Hp->Prop),Inv X pins σ H s->t σ H Q->
  wpAny (model X.prog X.w) X.A (evalPart e X.env) (λu s'=>∃o H',Inv X pins σ H' s'/\IsPart u o/\Q o H') X.xe s
def tNoPart:TO:=λ_ H Q=>Q none H
inductive YI3 (Q:Option Int->Hp->Prop) (x:V) (H1:Hp):Prop where
 |mk (i:_) (aY:x=.int i) (aZ:Q (some i) H1):YI3 Q x H1
def tPart (t:TE):TO:=λσ H Q=>t σ H λx H1=>YI3 Q x H1
section
variable {X:Cx}{e:Expr}{te:TE}{lo hi:Option Expr}{tl th:TO}{pos p2:Pos}
theorem XZ:PO X none tNoPart:=by
 intro pins s σ H Q I h;rw[evalPart_none];exact YKV ⟨none,H,I,.none,h⟩
theorem Jc (h:PE X e te):PO X (some e) (tPart te):=by
 intro pins s σ H Q I hw;rw[evalPart_some];refine thn (h pins s σ H _ I hw) λu s1 ⟨x,H1,I1,r1,q1⟩=>?_
 obtain⟨i,rfl,q⟩:=q1;obtain⟨t,rfl⟩:=r1;exact⟨some i,H1,I1,.int i t,q⟩
def SlR (X:Cx) (r:V->Option Int->Option Int->Hp->VK->Prop):Prop:=
 ∀(pins:List (Addr×Obj)) (s:Shared) (σ:St) (H:Hp) (x:V) (v vl vu:Value) (lo hi:Option Int) (sl:Addr) (Q:VK),Inv X pins σ H s->Yk x v->s.heap.IsSliceOf sl vl vu .none->IsPart vl lo->IsPart vu hi->r x lo hi H Q->
  ∃T id,typeLookup (.type T) "__getitem__"=pure (some (.builtin id))/\s.TypeIs v T/\wpAny (model X.prog X.w) X.A (getItem v (.ref sl)) (EP X pins σ Q) X.xe s
def tSl (r:V->Option Int->Option Int->Hp->VK->Prop) (te:TE) (tl th:TO):TE:=λσ H Q=>te σ H λx H1=>tl σ H1 λl H2=>th σ H2 λu H3=>r x l u H3 Q
theorem Jp {r:V->Option Int->Option Int->Hp->VK->Prop} (hr:SlR X r) (he:PE X e te) (hl:PO X lo tl) (hu:PO X hi th):PE X (.Subscript e (.Slice lo hi none p2) pos) (tSl r te tl th):=by
 intro pins s σ H Q I h;refine Subscript_ (thn (he pins s σ H _ I h) λv s1 ⟨x,H1,I1,r1,q1⟩=>?_);refine wpAny_Slice (thn (hl pins s1 σ H1 _ I1 q1) λvl s2 ⟨l,H2,I2,pl,q2⟩=>thn (hu pins s2 σ H2 _ I2 q2) λvu s3 ⟨u,H3,I3,pu,q3⟩=>?_);rw[evalPart_none];refine YKV ?_;have I4:Inv X pins σ H3 { s3 with heap:=s3.heap.push { cls:=.type "slice",data:=.fields #[vl,vu,.none] } }:=I3.kept (t':=s3.toks) λb ob q=>YKI _ q
 obtain⟨T,id,hT,ht,hg⟩:=hr pins { s3 with heap:=s3.heap.push { cls:=.type "slice",data:=.fields #[vl,vu,.none] } } σ H3 x v vl vu l u s3.heap.objs.size Q I4 r1 (Heap.IsSliceOf.new ..) pl pu q3;show wpAny (model X.prog X.w) X.A (subscriptTail e (.Slice lo hi none p2) v (.ref s3.heap.objs.size)) (EP X pins σ Q) X.xe { s3 with heap:=s3.heap.push { cls:=.type "slice",data:=.fields #[vl,vu,.none] } };exact tail_any (ops:=[.ref s3.heap.objs.size,v]) ht hT hg (by with_unfolding_all rfl)
def XE (xs:List V) (lo hi:Option Int):List V:=(xs.drop (HT.sIx xs.length 0 lo)).take (HT.sIx xs.length xs.length hi - HT.sIx xs.length 0 lo)
theorem Xw (xs:List V) (lo hi:Option Int):(XE xs lo hi).length<=xs.length:=by
 unfold XE;rw[YK3,YK4];omega
def rSlT (K:W.Frag):V->Option Int->Option Int->Hp->VK->Prop:=λx lo hi H Q=>∃a xs,x=.ref a/\SqT K H a xs/\
 ¬(HT.sIx xs.length 0 lo=0/\HT.sIx xs.length xs.length hi=xs.length)/\∀p,H p=none->Q (.ref p) (upd H p (.tup (XE xs lo hi)))
theorem sl_tup:SlR X (rSlT X.K):=by
 intro pins s σ H x v vl vu lo hi sl Q I rx hs pl pu h;obtain⟨a,xs,rfl,hx,hw,q⟩:=h;cases rx;obtain⟨its,r,ht,hz⟩:=I.tuple hx;have hlen:its.toArray.size=xs.length:=by rw[YKQ];exact r.length.symm
 refine⟨"tuple",_,PyProof.Rows.slot_tuple_getitem.lookup,ht.typeIs,?_⟩;refine HT.getItem_tuple_cut ht hs pl pu (by rw[hlen];exact hw) ?_ (by rw[hlen];exact hz);rw[hlen];refine⟨.ref s.heap.objs.size,_,I.laid (t':=s.toks) (o:=.tup (XE xs lo hi)) (λb ob q=>YKI _ q) (YKH _) ?_,U,q _ (I.hok.fresh (YKH _))⟩;exact⟨YKq (Xw xs lo hi) hz,_,(r.drop (HT.sIx xs.length 0 lo)).take (HT.sIx xs.length xs.length hi - HT.sIx xs.length 0 lo),IsTup.new _ _⟩
end
end L2
namespace L2
open PySem PySem.Spec PyProof.Rows
def ixN (n:Nat) (i:Int):Option Nat:=if 0<=i then (if i < n then some i.toNat else none) else if -(n:Int)<=i then some (i + n).toNat else none
def atI {α:Type} (xs:List α) (i:Int):Option α:=(ixN xs.length i).bind λj=>xs[j]?
theorem ixN_seq {n:Nat}{i:Int}{j:Nat} (h:ixN n i=some j):seqIndex? i n=some j/\j < n/\-(n:Int)<=i/\i < n:=by
 unfold ixN at h
 by_cases h0:0<=i
 ·rw[if_pos h0]at h
  by_cases h1:i < n
  ·rw[if_pos h1]at h;have e:i.toNat=j:=YKr h;exact⟨by rw[seqIndex_of h0 h1,e],by omega,by omega,h1⟩
  ·rw[if_neg h1]at h;cases h
 ·rw[if_neg h0]at h
  by_cases h1:-(n:Int)<=i
  ·rw[if_pos h1]at h;have e:(i + n).toNat=j:=YKr h;exact⟨by rw[seqIndex_neg (by omega) h1,e],by omega,h1,by omega⟩
  ·rw[if_neg h1]at h;cases h
theorem YEd {α:Type}{xs:List α}{i:Int}{v:α} (h:atI xs i=some v):∃j,seqIndex? i xs.length=some j/\xs[j]?=some v/\j < xs.length/\-(xs.length:Int)<=i/\i < xs.length:=by
 unfold atI at h;cases e:ixN xs.length i with
 |none=>rw[e]at h;cases h
 |some j=>
  rw[e]at h;obtain⟨h1,h2,h3,h4⟩:=ixN_seq e;exact⟨j,h1,h,h2,h3,h4⟩
theorem Yv {α:Type}{xs:List α}{j:Nat}{v:α} (h:xs[j]?=some v):atI xs (j:Int)=some v:=by
 have hj:j < xs.length:=(YKR.mp h).1;have e:ixN xs.length (j:Int)=some j:=by
  unfold ixN;rw[if_pos (by omega),if_pos (by omega)];simp
 unfold atI;rw[e];exact h
def YHD (b:Expr):Prop:=∀o i,subscripted b false o i=operate [o,i] (getItem o i)
def IxR (X:Cx) (r:R2):Prop:=
 ∀(value slice:Expr) (pins:List (Addr×Obj)) (s:Shared) (σ:St) (H:Hp) (x y:V) (v u:Value) (Q:VK),Inv X pins σ H s->Yk x v->Yk y u->r x y H Q->
  subscripted slice false v u=operate [v,u] (getItem v u)->wpAny (model X.prog X.w) X.A (subscriptTail value slice v u) (EP X pins σ Q) X.xe s
def MtR (X:Cx) (id:String) (r:V->List V->Hp->VK->Prop):Prop:=
 ∀(pins:List (Addr×Obj)) (s:Shared) (σ:St) (H:Hp) (x:V) (xs:List V) (v:Value) (us:List Value) (Q:VK),Inv X pins σ H s->Yk x v->Yi xs us->r x xs H Q->
  wpAny (model X.prog X.w) X.A (call (.builtin id) (v :: us)) (EP X pins σ Q) X.xe s
section
variable {X:Cx}{a b:Expr}{ta tb:TE}{pos:Pos}
theorem YU {r:R2} (hr:IxR X r) (ha:PE X a ta) (hb:PE X b tb) (hs:YHD b):PE X (.Subscript a b pos) (tOp r ta tb):=by
 intro pins s σ H Q I h;exact Subscript_ (binT ha hb I h λv u s2 x y H2 I2 rx ry q=>hr a b pins s2 σ H2 x y v u Q I2 rx ry q (hs _ _))
inductive rIxL_ (K:W.Frag) (x:V) (y:V) (H:Hp) (Q:VK):Prop where
 |mk (p:_) (xs:_) (i:_) (v:_) (aY:x=.ref p) (aZ:y=.int i) (bN:SqL K H p xs) (dC:atI xs i=some v) (gk:Q v H):rIxL_ K x y H Q
def rIxL (K:W.Frag):R2:=λx y H Q=>rIxL_ K x y H Q
inductive rIxT_ (K:W.Frag) (x:V) (y:V) (H:Hp) (Q:VK):Prop where
 |mk (p:_) (xs:_) (i:_) (v:_) (aY:x=.ref p) (aZ:y=.int i) (bN:SqT K H p xs) (dC:atI xs i=some v) (gk:Q v H):rIxT_ K x y H Q
def rIxT (K:W.Frag):R2:=λx y H Q=>rIxT_ K x y H Q
inductive rIxS_ (x:V) (y:V) (H:Hp) (Q:VK):Prop where
 |mk (z:_) (i:_) (c:_) (aY:x=.str z) (aZ:y=.int i) (bN:z.length<=sizeLine) (dC:atI z.cps.toList i=some c) (gk:Q (.str ⟨#[c]⟩) H):rIxS_ x y H Q
def rIxS:R2:=λx y H Q=>rIxS_ x y H Q
theorem ix_list:IxR X (rIxL X.K):=by
 intro value slice pins s σ H x y v u Q I rx ry h hs;obtain⟨p,xs,i,z,rfl,rfl,hq,he,q⟩:=h;cases rx;obtain⟨t,rfl⟩:=ry;obtain⟨its,r,pl,hz⟩:=I.list hq;obtain⟨j,h1,h2,h3,h4,h5⟩:=YEd he;obtain⟨w,ew,mL⟩:=r.get h2;have hl:=r.length;have hn:=XY;have fin:EP X pins σ Q w s:=⟨z,H,I,mL,q⟩
 by_cases h0:0<=i
 ·have hj:i.toNat=j:=by
   rw[seqIndex_of h0 h5]at h1;exact YKr h1
  exact item_listR pl.isList h0 (by omega) (by rw[hj];simpa using ew) fin hs
 ·have hj:(i + (its.toArray.size:Int)).toNat=j:=by
   rw[seqIndex_neg (by omega) h4]at h1;rw[YKQ,<-hl];exact YKr h1
  exact subscriptTail_builtinR (x:=w) pl.isList.typeIs slot_list_getitem.lookup
   (wpAny_getItem_list_neg (Q:=λr s'=>r=w/\EP X pins σ Q r s') pl.isList (by omega) (by rw[YKQ] <;> omega) (by omega) (by rw[hj];simpa using ew) ⟨U,fin⟩) hs
theorem ix_tup:IxR X (rIxT X.K):=by
 intro value slice pins s σ H x y v u Q I rx ry h hs;obtain⟨p,xs,i,z,rfl,rfl,hq,he,q⟩:=h;cases rx;obtain⟨t,rfl⟩:=ry;obtain⟨its,r,pl,hz⟩:=I.tuple hq;obtain⟨j,h1,h2,h3,h4,h5⟩:=YEd he;obtain⟨w,ew,mL⟩:=r.get h2;have hl:=r.length;have hn:=XY;have fin:EP X pins σ Q w s:=⟨z,H,I,mL,q⟩;exact subscriptTail_builtinR (x:=w) pl.typeIs slot_tuple_getitem.lookup
  (getItem_tuple (j:=j) (Q:=λr s'=>r=w/\EP X pins σ Q r s') pl (by omega) (by omega) (by rw[YKQ,<-hl];exact h1) (by simpa using ew) ⟨U,fin⟩) hs
theorem Z2:IxR X rIxS:=by
 intro value slice pins s σ H x y v u Q I rx ry h hs;obtain⟨z,i,c,rfl,rfl,hz,he,q⟩:=h;obtain⟨t,rfl⟩:=rx;obtain⟨t',rfl⟩:=ry;obtain⟨j,h1,h2,h3,h4,h5⟩:=YEd he;have hl:z.cps.toList.length=z.length:=by simp[Str.length]
 rw[hl]at h1 h4 h5;have hn:=XY;exact tail_any (typeIs_str s z t) slot_str_getitem.lookup (getItem_str (c:=c) (by
  have e1:decide (i < -(2 ^ 63:Int))=false:=YKO (by omega);have e2:decide (i>=2 ^ 63)=false:=YKO (by omega);rw[e1,e2,Bool.or_false]) (by rw[h1];simpa using h2) ⟨.str ⟨#[c]⟩,H,I.tok _,⟨_,U⟩,q⟩) hs
theorem YEe (lo hi:Option Int) (n:Nat):(sliceBounds lo hi none n).1=((HT.sIx n 0 lo:Nat):Int)/\(sliceBounds lo hi none n).2.1=((HT.sIx n n hi:Nat):Int)/\(sliceBounds lo hi none n).2.2=1:=by
 refine⟨?_,?_,U⟩
 ·cases lo with
  |none=>simp[sliceBounds,HT.sIx]
  |some i=>
   simp only[sliceBounds,HT.sIx,Option.getD_none,show(1:Int) > 0 by decide,if_true]
   by_cases h:i < 0
   ·simp only[h,if_true] <;> omega
   ·simp only[h,if_false] <;> omega
 ·cases hi with
  |none=>simp[sliceBounds,HT.sIx]
  |some i=>
   simp only[sliceBounds,HT.sIx,Option.getD_none,show(1:Int) > 0 by decide,if_true]
   by_cases h:i < 0
   ·simp only[h,if_true] <;> omega
   ·simp only[h,if_false] <;> omega
theorem YDP (its:List Value) (lo hi:Option Int):slicePick its.toArray lo hi none=((its.drop (HT.sIx its.length 0 lo)).take (HT.sIx its.length its.length hi - HT.sIx its.length 0 lo)).toArray:=by
 obtain⟨h1,h2,h3⟩:=YEe lo hi its.toArray.size;unfold slicePick;rw[h1,h2,h3];simp only[sliceRange_one,pick_run,YKQ] <;> rfl
inductive rSlL_ (K:W.Frag) (x:V) (lo:Option Int) (hi:Option Int) (H:Hp) (Q:VK):Prop where
 |mk (a:_) (xs:_) (aY:x=.ref a) (aZ:SqL K H a xs) (bN:∀p,H p=none->Q (.ref p) (upd H p (.lst (XE xs lo hi)))):rSlL_ K x lo hi H Q
def rSlL (K:W.Frag):V->Option Int->Option Int->Hp->VK->Prop:=λx lo hi H Q=>rSlL_ K x lo hi H Q
theorem sl_list:SlR X (rSlL X.K):=by
 intro pins s σ H x v vl vu lo hi sl Q I rx hs pl pu h;obtain⟨a,xs,rfl,hx,q⟩:=h;cases rx;obtain⟨its,r,ht,hz⟩:=I.list hx;have hlen:=r.length;refine⟨"list",_,slot_list_getitem.lookup,ht.isList.typeIs,?_⟩;refine wpAny_getItem_list_slice ht.isList hs pl pu .none (by simp) ?_ (by rw[YKQ] <;> omega);rw[YDP,<-hlen];refine⟨.ref s.heap.objs.size,_,I.laid (t':=s.toks) (o:=.lst (XE xs lo hi)) (λb ob q=>YKI _ q) (YKH _) ?_,U,q _ (I.hok.fresh (YKH _))⟩;exact⟨YKq (Xw xs lo hi) hz,_,0,(r.drop (HT.sIx xs.length 0 lo)).take (HT.sIx xs.length xs.length hi - HT.sIx xs.length 0 lo),YKe _ rfl⟩
def YBD:V->Bool
 |.non=>true
 |.bl _=>true
 |.int _=>true
 |.str _=>true
 |_=>false
def eqV:V->V->Bool
 |.non,.non=>true
 |.bl a,.bl b=>a == b
 |.bl a,.int b=>(if a then 1 else 0) == b
 |.int a,.bl b=>a == (if b then 1 else 0)
 |.int a,.int b=>a == b
 |.str a,.str b=>a == b
 |_,_=>false
theorem eqAt_V {A:Around}{s:Shared}{y x:V}{u v:Value} (ry:Yk y u) (rx:Yk x v) (fy:YBD y=true) (fx:YBD x=true):SeqAt.EqAt A s u v (eqV y x):=by
 cases y with
 |non=>
  cases ry;cases x with
  |non=>cases rx;exact SeqAt.EqAt.same _
  |bl b=>cases rx;exact SeqAt.EqAt.none_bool b
  |int b=>obtain⟨t,rfl⟩:=rx;exact SeqAt.EqAt.none_int b t
  |str b=>obtain⟨t,rfl⟩:=rx;exact SeqAt.EqAt.none_str b t
  |_=>exact absurd (show false=true from fx) YKZ
 |bl a=>
  cases ry;cases x with
  |non=>cases rx;exact SeqAt.EqAt.bool_none a
  |bl b=>cases rx;exact SeqAt.EqAt.bool_bool a b
  |int b=>obtain⟨t,rfl⟩:=rx;exact SeqAt.EqAt.bool_int a b t
  |str b=>obtain⟨t,rfl⟩:=rx;exact SeqAt.EqAt.bool_str a b t
  |_=>exact absurd (show false=true from fx) YKZ
 |int a=>
  obtain⟨t',rfl⟩:=ry;cases x with
  |non=>cases rx;exact SeqAt.EqAt.int_none a t'
  |bl b=>cases rx;exact SeqAt.EqAt.int_bool a t' b
  |int b=>obtain⟨t,rfl⟩:=rx;exact SeqAt.EqAt.int_int a t' b t
  |str b=>obtain⟨t,rfl⟩:=rx;exact SeqAt.EqAt.int_str a t' b t
  |_=>exact absurd (show false=true from fx) YKZ
 |str a=>
  obtain⟨t',rfl⟩:=ry;cases x with
  |non=>cases rx;exact SeqAt.EqAt.str_none a t'
  |bl b=>cases rx;exact SeqAt.EqAt.str_bool a t' b
  |int b=>obtain⟨t,rfl⟩:=rx;exact SeqAt.EqAt.str_int a t' b t
  |str b=>obtain⟨t,rfl⟩:=rx;exact SeqAt.EqAt.str_str a t' b t
  |_=>exact absurd (show false=true from fx) YKZ
 |_=>exact absurd (show false=true from fy) YKZ
def eqU (x:V) (u:Value):Bool:=match u with
 |.none=>eqV .non x
 |.bool b=>eqV (.bl b) x
 |.int i _=>eqV (.int i) x
 |.str z _=>eqV (.str z) x
 |_=>false
theorem YI4 {x y:V}{u:Value} (r:Yk y u) (f:YBD y=true):eqU x u=eqV y x:=by
 cases y with
 |non=>cases r;rfl
 |bl b=>cases r;rfl
 |int i=>obtain⟨t,rfl⟩:=r;rfl
 |str z=>obtain⟨t,rfl⟩:=r;rfl
 |_=>exact absurd (show false=true from f) YKZ
theorem YBE {x:V}:∀{xs:List V}{us:List Value},Yi xs us->xs.all YBD=true->us.any (eqU x)=xs.any λy=>eqV y x
 |_,_,.nil,_=>rfl
 |y :: xs,u :: us,.cons r t,f=>by
  rw[YLV,YKM]at f;rw[YLU,YLU,YI4 r f.1,YBE t f.2]
theorem Xx {A:Around}{s:Shared}{x:V}{v:Value} (rx:Yk x v) (fx:YBD x=true):∀{xs:List V}{us:List Value},Yi xs us->xs.all YBD=true->∀u∈us,SeqAt.EqAt A s u v (eqU x u)
 |_,_,.nil,_=>λu hu=>by cases hu
 |y :: xs,u :: us,.cons r t,f=>λu' hu=>by
  rw[YLV,YKM]at f;rcases YKT.mp hu with rfl |hu
  ·rw[YI4 r f.1];exact eqAt_V r rx f.1 fx
  ·exact Xx rx fx t f.2 u' hu
def inV (x:V) (xs:List V):Bool:=xs.any λy=>eqV y x
inductive rIn_ (K:W.Frag) (neg:Bool) (x:V) (y:V) (H:Hp) (Q:VK):Prop where
 |mk (p:_) (xs:_) (aY:y=.ref p) (aZ:(SqL K H p xs\/SqT K H p xs)) (bN:YBD x=true) (dC:xs.all YBD=true) (gk:Q (.bl (if neg then !inV x xs else inV x xs)) H):rIn_ K neg x y H Q
def rIn (K:W.Frag) (neg:Bool):R2:=λx y H Q=>rIn_ K neg x y H Q
theorem YH9:OpR X (compareOp .In) (rIn X.K false):=by
 intro pins s σ H x y v u Q I rx ry h;obtain⟨p,xs,rfl,hq,fx,fs,q⟩:=h;cases ry;rcases hq with hq |hq
 ·obtain⟨its,r,pl,hz⟩:=I.list hq;refine SeqAt.in_listAt (eqU x) pl.isList (λw hw=>Xx rx fx r fs w (by simpa using hw)) ⟨.bl _,H,I,U,?_⟩;rw[show its.toArray.any (eqU x)=its.any (eqU x) by simp,YBE r fs];exact q
 ·obtain⟨its,r,pl,hz⟩:=I.tuple hq;refine SeqAt.in_tupleAt (eqU x) pl (λw hw=>Xx rx fx r fs w (by simpa using hw)) ⟨.bl _,H,I,U,?_⟩;rw[show its.toArray.any (eqU x)=its.any (eqU x) by simp,YBE r fs];exact q
theorem YEf:OpR X (compareOp .NotIn) (rIn X.K true):=by
 intro pins s σ H x y v u Q I rx ry h;obtain⟨p,xs,rfl,hq,fx,fs,q⟩:=h;cases ry;rcases hq with hq |hq
 ·obtain⟨its,r,pl,hz⟩:=I.list hq;refine SeqAt.notIn_listAt (eqU x) pl.isList (λw hw=>Xx rx fx r fs w (by simpa using hw)) ⟨.bl _,H,I,U,?_⟩;rw[show its.toArray.any (eqU x)=its.any (eqU x) by simp,YBE r fs];exact q
 ·obtain⟨its,r,pl,hz⟩:=I.tuple hq;refine SeqAt.notIn_tupleAt (eqU x) pl (λw hw=>Xx rx fx r fs w (by simpa using hw)) ⟨.bl _,H,I,U,?_⟩;rw[show its.toArray.any (eqU x)=its.any (eqU x) by simp,YBE r fs];exact q
theorem YEg:Zg X (.builtin "len") (λxs H Q=>∃p ys,xs=[.ref p]/\(SqL X.K H p ys\/SqT X.K H p ys)/\Q (.int ys.length) H):=by
 intro pins s σ H xs us Q I r h;obtain⟨p,ys,rfl,hq,q⟩:=h;obtain⟨u,rfl,rx⟩:=JO r;cases rx;have hn:=XY;rcases hq with hq |hq
 ·obtain⟨its,r',pl,hz⟩:=I.list hq;have hlen:=r'.length;exact Calls.call_len_list pl.isList (by simp only[YKQ] <;> omega) ⟨.int ys.length,H,I.tok _,⟨s.toks + 1,by rw[YKQ,hlen]⟩,q⟩
 ·obtain⟨its,r',pl,hz⟩:=I.tuple hq;have hlen:=r'.length;exact len_tuple pl (by simp only[YKQ] <;> omega) ⟨.int ys.length,H,I.tok _,⟨s.toks + 1,by rw[YKQ,hlen]⟩,q⟩
theorem Xa:Zg X (.builtin "len") (λxs H Q=>∃z,xs=[.str z]/\z.length<=sizeLine/\Q (.int z.length) H):=by
 intro pins s σ H xs us Q I r h;obtain⟨z,rfl,hz,q⟩:=h;obtain⟨u,rfl,t,rfl⟩:=JO r;have hn:=XY;exact len_str (by omega) ⟨.int z.length,H,I.tok _,⟨_,U⟩,q⟩
theorem YEh:Zg X (.type "list") (λxs H Q=>∃p ys,xs=[.ref p]/\(SqL X.K H p ys\/SqT X.K H p ys)/\∀l,H l=none->Q (.ref l) (upd H l (.lst ys))):=by
 intro pins s σ H xs us Q I r h;obtain⟨p,ys,rfl,hq,q⟩:=h;obtain⟨u,rfl,rx⟩:=JO r;cases rx;have fin:∀(its:List Value),Yi ys its->ys.length<=sizeLine->∀(h':Heap) (c':Nat),(∀b o',s.heap.get? b=some o'->h'.get? b=some o')->
   h'.get? s.heap.objs.size=some { cls:=.type "list",dict:=none,data:=.seq its.toArray c',slots:=#[] }->EP X pins σ Q (.ref s.heap.objs.size) { s with heap:=h' }:=λits r' hz h' c' kp e=>
  ⟨.ref s.heap.objs.size,_,I.laid (t':=s.toks) kp (YKH _) (show Yq X.prog X.w _ h' _ (.lst ys) from⟨hz,its,c',r',e⟩),U,q _ (I.hok.fresh (YKH _))⟩
 rcases hq with hq |hq
 ·obtain⟨its,r',pl,hz⟩:=I.list hq;have hlen:=r'.length;obtain⟨o,ho,hc,n,hd⟩:=pl.isList;exact call_list_seq p (.inl rfl) ho hc hd (λh' c' kp e=>fin its r' hz h' c' kp e) (by simp only[YKQ] <;> omega)
 ·obtain⟨its,r',pl,hz⟩:=I.tuple hq;have hlen:=r'.length;obtain⟨o,ho,hc,n,hd⟩:=pl;exact call_list_seq p (.inr rfl) ho hc hd (λh' c' kp e=>fin its r' hz h' c' kp e) (by simp only[YKQ] <;> omega)
theorem YDQ:Zg X (.type "tuple") (λxs H Q=>∃p ys,xs=[.ref p]/\((SqL X.K H p ys/\∀l,H l=none->Q (.ref l) (upd H l (.tup ys)))\/(SqT X.K H p ys/\Q (.ref p) H))):=by
 intro pins s σ H xs us Q I r h;obtain⟨p,ys,rfl,h⟩:=h;obtain⟨u,rfl,rx⟩:=JO r;cases rx;rcases h with ⟨hq,q⟩ |⟨hq,q⟩
 ·obtain⟨its,r',pl,hz⟩:=I.list hq;have hlen:=r'.length;refine call_tuple_list pl.isList (λh' kp=>?_) (by simp only[YKQ] <;> omega);have I1:Inv X pins σ H { s with heap:=h' }:=I.kept (t':=s.toks) kp;have I2:Inv X pins σ (upd H h'.objs.size (.tup ys)) { s with heap:=h'.push { cls:=.type "tuple",data:=.seq its.toArray } }:=
   I1.laid (t':=s.toks) (λb o e=>YKI _ e) (YKH _) (show Yq X.prog X.w _ _ _ (.tup ys) from⟨hz,its,r',IsTup.new _ _⟩)
  exact⟨.ref h'.objs.size,_,I2,U,q _ (I1.hok.fresh (YKH _))⟩
 ·obtain⟨its,r',pl,hz⟩:=I.tuple hq;exact call_tuple_same pl ⟨.ref p,H,I,U,q⟩
def tyV (K:W.Frag) (T:String) (x:V) (H:Hp):Prop:=match x with
 |.str _=>T="str"
 |.int _=>T="int"
 |.ref p=>(T="list"/\∃xs,SqL K H p xs)\/(T="tuple"/\∃o,K.lookup p=some o/\o.cls=.type "tuple"/\o.dict=none)\/
   (T="dict"/\((∃kvs,H p=some (.dK kvs))\/∃kvs,H p=some (.dT kvs)))\/(T="set"/\∃S n,H p=some (.set S n))
 |_=>False
theorem YI5 {pins:List (Addr×Obj)}{σ:St}{H:Hp}{s:Shared}{T:String}{x:V}{v:Value} (I:Inv X pins σ H s) (r:Yk x v) (ty:tyV X.K T x H):
  s.TypeIs v T/\∀a,v=.ref a->∃ob,s.heap.get? a=some ob/\ob.dict=none:=by
 cases x with
 |str z=>
  obtain⟨t,rfl⟩:=r;cases (show T="str" from ty);exact⟨typeIs_str s z t,λ_ e=>nomatch e⟩
 |int i=>
  obtain⟨t,rfl⟩:=r;cases (show T="int" from ty);exact⟨typeIs_int s i t,λ_ e=>nomatch e⟩
 |ref p=>
  cases r;rcases ty with ⟨rfl,xs,hq⟩ |⟨rfl,o,hk,hc,hd⟩ |⟨rfl,hk⟩ |⟨rfl,S,n,hk⟩
  ·obtain⟨its,_,pl,_⟩:=I.list hq;refine⟨pl.isList.typeIs,λa e=>?_⟩;cases e;obtain⟨o,n,e,c,hd,_⟩:=pl;exact⟨o,e,hd⟩
  ·refine⟨⟨o,I.kIn p o hk,hc⟩,λa e=>?_⟩;cases e;exact⟨o,I.kIn _ o hk,hd⟩
  ·have z:∃o,s.heap.get? p=some o/\o.ExactDict:=by
    rcases hk with ⟨kvs,hk⟩ |⟨kvs,hk⟩
    ·obtain⟨_,_,_,_,o,_,_,e,ex,_⟩:=I.hok p _ hk;exact⟨o,e,ex⟩
    ·obtain⟨_,_,_,_,o,_,_,e,ex,_⟩:=I.hok p _ hk;exact⟨o,e,ex⟩
   obtain⟨o,e,ex⟩:=z;refine⟨⟨o,e,ex.1⟩,λa e2=>?_⟩;cases e2;exact⟨o,e,ex.2.1⟩
  ·obtain⟨o,_,_,_,e,ex,_⟩:=I.hok p _ hk;refine⟨⟨o,e,ex.1⟩,λa e2=>?_⟩;cases e2;exact⟨o,e,ex.2.1⟩
 |_=>exact False.elim ty
inductive tBM0_ (K:W.Frag) (T:String) (r:V->List V->Hp->VK->Prop) (Q:VK) (x:V) (H1:Hp):Prop where
 |mk (aY:tyV K T x H1) (aZ:r x [] H1 Q):tBM0_ K T r Q x H1
def tBM0 (K:W.Frag) (T:String) (r:V->List V->Hp->VK->Prop) (to:TE):TE:=λσ H Q=>to σ H λx H1=>tBM0_ K T r Q x H1
inductive tBM_ (K:W.Frag) (T:String) (r:V->List V->Hp->VK->Prop) (t:TA) (σ:St) (Q:VK) (x:V) (H1:Hp):Prop where
 |mk (aY:tyV K T x H1) (aZ:t σ H1 λxs H2=>r x xs H2 Q):tBM_ K T r t σ Q x H1
def tBM (K:W.Frag) (T:String) (r:V->List V->Hp->VK->Prop) (to:TE) (t:TA):TE:=λσ H Q=>to σ H λx H1=>tBM_ K T r t σ Q x H1
variable {o e:Expr}{es:List Expr}{to:TE}{t:TA}{name:Str}{dH bj:Pos}{T id:String}{r:V->List V->Hp->VK->Prop}
theorem pe_bm0 (pa:PlainAttrs T) (slot:Slot T name id) (vI:typeOf (.builtin id)=pure (.type "method_descriptor")) (hm:MtR X id r) (ho:PE X o to)
  (jr:attributeBase o name X.env (eval o X.env)=eval o X.env:=by rfl) (jt:(dH.endLine == bj.line)=true:=by rfl):PE X (.Call (.Attribute o name dH) [] [] bj) (tBM0 X.K T r to):=by
 intro pins s σ H Q I h;refine wpAny_Call_method0_late jr jt (thn (ho pins s σ H _ I h) λv s1 ⟨x,H1,I1,r1,ty,q1⟩=>?_);obtain⟨h1,h2⟩:=YI5 I1 r1 ty;exact⟨T,id,pa,slot,vI,h1,h2,Calls.callWith_builtin rfl (PySem.evalArgs_none (hm pins s1 σ H1 x [] v [] Q I1 r1 .nil q1))⟩
theorem pe_bm (pa:PlainAttrs T) (slot:Slot T name id) (vI:typeOf (.builtin id)=pure (.type "method_descriptor")) (hm:MtR X id r) (ho:PE X o to) (ha:PA X (e :: es) t)
  (jr:attributeBase o name X.env (eval o X.env)=eval o X.env:=by rfl)
  (vJ:((backTo bj (starEach (e :: es) X.env)).all (λx=>!x.1) && (backToKw bj (keywordEach [] X.env)).all (λx=>x.1.isSome)
   && decide ((e :: es).length + ([]:List Keyword).length + (if ([]:List Keyword).isEmpty then 0 else 1) < 30))=true:=by rfl)
  (jt:(dH.endLine == bj.line)=true:=by rfl) (hs:starEach (e :: es) X.env=(false,eval e X.env) :: starEach es X.env:=by rfl) (ju:(backTo bj (starEach es X.env)).any (·.1)=false:=by rfl):
  PE X (.Call (.Attribute o name dH) (e :: es) [] bj) (tBM X.K T r to t):=by
 intro pins s σ H Q I h;refine wpAny_Call_method_late jr vJ jt rfl (thn (ho pins s σ H _ I h) λv s1 ⟨x,H1,I1,r1,ty,q1⟩=>?_);obtain⟨h1,h2⟩:=YI5 I1 r1 ty;refine⟨T,id,pa,slot,vI,h1,h2,?_⟩;have hA:=ha bj pins s1 σ H1 _ I1 q1;rw[hs]at hA ⊢;refine Calls.callWith_builtin (by show(false || (backTo bj (starEach es X.env)).any (·.1))=false;rw[ju] <;> rfl) (Calls.evalArgs_plain ?_);exact thn hA λus s2 ⟨vs,H2,I2,r2,q2⟩=>hm pins s2 σ H2 x vs v us Q I2 r1 r2 q2
end
end L2
namespace L2
open PySem PySem.Spec PyProof.Rows
def MtM (X:Cx) (id:String) (r:V->List V->Hp->VK->Prop):Prop:=
 ∀(pins:List (Addr×Obj)) (s:Shared) (σ:St) (H:Hp) (x:V) (xs:List V) (v:Value) (us:List Value) (Q:VK),Inv X pins σ H s->Yk x v->Yi xs us->r x xs H Q->
  wpAny (model X.prog X.w) X.A (call (.builtin id) (v :: us)) (EP X pins σ Q) X.xe s
theorem Yi.one:∀{x:V}{us:List Value},Yi [x] us->∃u,us=[u]/\Yk x u
 |_,_,.cons r .nil=>⟨_,U,r⟩
theorem Yi.zero:∀{us:List Value},Yi [] us->us=[]
 |_,.nil=>rfl
theorem Yi.dropLast {xs:List V}{us:List Value} (h:Yi xs us):Yi xs.dropLast us.dropLast:=by
 induction h with
 |nil=>exact .nil
 |cons r t ih=>
  cases t with
  |nil=>exact .nil
  |cons q t'=>exact .cons r ih
theorem Yi.reverse {xs:List V}{us:List Value} (h:Yi xs us):Yi xs.reverse us.reverse:=by
 induction h with
 |nil=>exact .nil
 |cons r t ih=>rw[YLp,YLp];exact Yi.append ih (.cons r .nil)
theorem YGT {α:Type} (l:List α):l.eraseIdx (l.length - 1)=l.dropLast:=by
 induction l with
 |nil=>rfl
 |cons a r ih=>
  cases r with
  |nil=>rfl
  |cons b r=>
   have e:(a :: b :: r).length - 1=((b :: r).length - 1) + 1:=by
    have h1:(a :: b :: r).length=r.length + 2:=rfl;have h2:(b :: r).length=r.length + 1:=rfl;omega
   rw[e,List.eraseIdx_cons_succ,ih]
   all_goals rfl
section
variable {X:Cx}{pins:List (Addr×Obj)}{σ:St}{H:Hp}{s:Shared}{l b:Addr}{xs ys zs:List V}
theorem Inv.lset {its its':List Value}{n:Nat}{f:Array Value->Array Value}{t':Nat} (I:Inv X pins σ H s) (hH:H l=some (.lst xs))
  (e:s.heap.get? l=some { cls:=.type "list",data:=.seq its.toArray n }) (hf:f its.toArray=its'.toArray) (hv:Yi ys its') (hz:ys.length<=sizeLine):
  Inv X pins σ (upd H l (.lst ys)) { s with heap:=s.heap.update l (Obj.mapSeq f),toks:=t' }:=by
 have q:=PySem.IsL.update e f;rw[hf]at q;refine I.write (x:=l) (e:=l) (by rw[hH];exact trivial) (.inl rfl) (λb' u hb hu=>(YLP s.heap (Obj.mapSeq f) (Ne.symm hb)).trans hu) ⟨_,q⟩ ?_;exact⟨hz,its',_,hv,q⟩
theorem Inv.lnew {its:List Value}{t':Nat} (I:Inv X pins σ H s) (hv:Yi ys its) (hz:ys.length<=sizeLine):
  Inv X pins σ (upd H s.heap.objs.size (.lst ys)) { s with heap:=s.heap.push { cls:=.type "list",data:=.seq its.toArray },toks:=t' }:=
 I.laid (λ_ _ q=>YKI _ q) (YKH _) ⟨hz,its,0,hv,YKe _ rfl⟩
theorem Inv.fresh (I:Inv X pins σ H s):H s.heap.objs.size=none:=I.hok.fresh (YKH _)
theorem Inv.lstM (I:Inv X pins σ H s) (hH:H l=some (.lst xs)):xs.length<=sizeLine/\∃(its:List Value) (n:Nat),Yi xs its/\xs.length=its.length/\s.heap.get? l=some { cls:=.type "list",data:=.seq its.toArray n }:=by
 obtain⟨z,its,n,r,e⟩:=I.hok l _ hH;exact⟨z,its,n,r,r.length,e⟩
theorem YI6 {n:Nat} (h:n<=sizeLine):Builtin.List.listTooLong n=false:=by
 unfold Builtin.List.listTooLong;exact YKO (by omega)
end
section
variable {X:Cx}
inductive YFK (x:V) (vs:List V) (H:Hp) (Q:VK):Prop where
 |mk (l:_) (xs:_) (y:_) (aY:x=.ref l) (aZ:vs=[y]) (bN:H l=some (.lst xs)) (dC:xs.length < sizeLine) (gk:Q .non (upd H l (.lst (xs ++ [y])))):YFK x vs H Q
def rAppend:V->List V->Hp->VK->Prop:=λx vs H Q=>YFK x vs H Q
theorem Yx:MtM X "list.append" rAppend:=by
 intro pins s σ H x vs v us Q I rx rv h;obtain⟨l,xs,y,rfl,rfl,hH,hz,q⟩:=h;cases rx;obtain⟨u,rfl,ru⟩:=rv.one;obtain⟨z,its,n,r,hl,e⟩:=I.lstM hH;refine call_meets F.slot_list_append ⟨_,e,U⟩ F.entry_list_append (F.args_list_append_2 _ _) (PySem.list_append l its.toArray n u (by rw[YKQ];omega)) ⟨e,?_⟩;refine⟨.non,_,I.lset (its':=its ++ [u]) hH e (by simp) (r.append (.cons ru .nil)) ?_,U,q⟩;rw[YKJ,List.length_singleton];omega
inductive YFL (x:V) (vs:List V) (H:Hp) (Q:VK):Prop where
 |mk (l:_) (b:_) (xs:_) (zs:_) (aY:x=.ref l) (aZ:vs=[.ref b]) (bN:H l=some (.lst xs)) (dC:H b=some (.lst zs)) (gk:xs.length + zs.length<=sizeLine) (jG:Q .non (upd H l (.lst (xs ++ zs)))):YFL x vs H Q
def rExtend:V->List V->Hp->VK->Prop:=λx vs H Q=>YFL x vs H Q
theorem YAK:MtM X "list.extend" rExtend:=by
 intro pins s σ H x vs v us Q I rx rv h;obtain⟨l,b,xs,zs,rfl,rfl,hH,hB,hz,q⟩:=h;cases rx;obtain⟨u,rfl,ru⟩:=rv.one;cases ru;obtain⟨z,its,n,r,hl,e⟩:=I.lstM hH;obtain⟨z2,dz,n2,r2,hl2,e2⟩:=I.lstM hB;have hsz:its.toArray.size + dz.toArray.size<=sizeLine:=by rw[YKQ,YKQ];omega
 have wI:¬(!its.toArray.isEmpty && Builtin.List.listTooLong (its.toArray.size + dz.toArray.size))=true:=by
  rw[YI6 hsz,Bool.and_false];exact YKZ
 refine call_meets F.slot_list_extend ⟨_,e,U⟩ F.entry_list_extend (F.args_list_extend_2 _ _)
  (AutoSeq1.list_extend_list_list_0 l its.toArray n b dz.toArray n2 wI (by rw[YKQ];omega) (by omega)) ⟨e,e2,?_⟩
 refine⟨.non,_,I.lset (its':=its ++ dz) hH e (by simp) (r.append r2) ?_,U,q⟩;rw[YKJ];omega
inductive rPop_ (x:V) (vs:List V) (H:Hp) (Q:VK):Prop where
 |mk (l:_) (xs:_) (y:_) (aY:x=.ref l) (aZ:vs=[]) (bN:H l=some (.lst xs)) (dC:xs[xs.length - 1]?=some y) (gk:Q y (upd H l (.lst xs.dropLast))):rPop_ x vs H Q
def rPop:V->List V->Hp->VK->Prop:=λx vs H Q=>rPop_ x vs H Q
theorem YGU:MtM X "list.pop" rPop:=by
 intro pins s σ H x vs v us Q I rx rv h;obtain⟨l,xs,y,rfl,rfl,hH,hy,q⟩:=h;cases rx;have hus:=rv.zero;subst hus;obtain⟨z,its,n,r,hl,e⟩:=I.lstM hH;obtain⟨u,hu,ru⟩:=r.get hy;have hy':its.toArray[its.toArray.size - 1]?=some u:=by
  show its.toArray[its.length - 1]?=some u;rw[<-YK6,<-hl];exact hu
 refine call_meets F.slot_list_pop ⟨_,e,U⟩ F.entry_list_pop (F.args_list_pop_1 _) (MeetsSeq.list_pop_last l its.toArray n u hy' (by rw[YKQ];omega)) ⟨e,?_⟩;refine⟨y,_,I.lset (its':=its.dropLast) hH e ?_ r.dropLast ?_,ru,q⟩
 ·show its.toArray.eraseIdxIfInBounds (its.toArray.size - 1)=its.dropLast.toArray;rw[YKQ,List.eraseIdxIfInBounds_toArray,YGT]
 ·rw[List.length_dropLast];omega
inductive rCat_ (x:V) (y:V) (H:Hp) (Q:VK):Prop where
 |mk (l:_) (b:_) (xs:_) (zs:_) (aY:x=.ref l) (aZ:y=.ref b) (bN:H l=some (.lst xs)) (dC:H b=some (.lst zs)) (gk:xs.length + zs.length<=sizeLine) (jG:∀p,H p=none->Q (.ref p) (upd H p (.lst (xs ++ zs)))):rCat_ x y H Q
def rCat:R2:=λx y H Q=>rCat_ x y H Q
theorem YCY:OpR X (binaryOp .Add) rCat:=by
 intro pins s σ H x y v u Q I rx ry h;obtain⟨l,b,xs,zs,rfl,rfl,hH,hB,hz,q⟩:=h;cases rx;cases ry;obtain⟨z,its,n,r,hl,e⟩:=I.lstM hH;obtain⟨z2,dz,n2,r2,hl2,e2⟩:=I.lstM hB;refine PySem.P.add_list e e2 ?_ (by rw[YKQ,YKQ];omega);have ea:its.toArray ++ dz.toArray=(its ++ dz).toArray:=by simp
 rw[ea];exact⟨.ref _,_,I.lnew (t':=s.toks) (r.append r2) (by rw[YKJ];omega),U,q _ I.fresh⟩
end
section
variable {prog:Program}{w:World}{A:Around}{E:Value->Shared->Prop}{s:Shared}
set_option maxRecDepth 100000 in
end
section
variable {X:Cx}
end
end L2
namespace L2
open PySem PySem.Spec PyProof.Rows
section
variable {κ:Type} [DecidableEq κ]
def Jd (kvs:List (κ×V)) (k:κ):Option V:=(kvs.find? λkv=>decide (kv.1=k)).map (·.2)
def Zo (kvs:List (κ×V)) (k:κ) (v:V):List (κ×V):=
 if (kvs.any λkv=>decide (kv.1=k))=true then kvs.map (λkv=>if kv.1=k then (kv.1,v) else kv) else kvs ++ [(k,v)]
theorem ZW {p:κ×V}{r:List (κ×V)}{k:κ} (e:p.1=k):Jd (p :: r) k=some p.2:=by simp[Jd,YLb,e]
theorem ZD {p:κ×V}{r:List (κ×V)}{k:κ} (e:¬p.1=k):Jd (p :: r) k=Jd r k:=by simp[Jd,YLb,e]
theorem YCZ (k:κ):∀kvs:List (κ×V),(kvs.any λkv=>decide (kv.1=k))=(Jd kvs k).isSome
 |[]=>rfl
 |p :: r=>by
  rw[YLU]
  by_cases e:p.1=k
  ·simp only[ZW e,YKN e,Bool.true_or,Option.isSome_some]
  ·rw[ZD e,YKO e,Bool.false_or];exact YCZ k r
theorem Xy (kvs:List (κ×V)) (k:κ) (v:V):(Zo kvs k v).length<=kvs.length + 1:=by
 unfold Zo;split
 ·rw[YKF];omega
 ·rw[YKJ,YKX,List.length_nil];omega
theorem YBa.isSome_eq {o:Option V}{u:Option Value} (r:YBa o u):o.isSome=u.isSome:=by
 cases o with
 |none=>cases u with
  |none=>rfl
  |some _=>exact(show False from r).elim
 |some _=>cases u with
  |none=>exact(show False from r).elim
  |some _=>rfl
theorem YBa.getD {o:Option V}{u:Option Value}{d:V}{d':Value} (r:YBa o u) (rd:Yk d d'):Yk (o.getD d) (u.getD d'):=by
 cases o with
 |none=>cases u with
  |none=>exact rd
  |some _=>exact(show False from r).elim
 |some _=>cases u with
  |none=>exact(show False from r).elim
  |some _=>exact r
theorem KV.val {kvs:List (κ×V)}{vs:List (κ×Value)} (r:KV kvs vs) (k:κ):YBa (Jd kvs k) (valueAt vs k):=by
 unfold KV at r
 induction r with
 |nil=>exact True.intro
 |@cons p q ps qs h t ih=>
  obtain⟨h1,h2⟩:=h
  by_cases e:p.1=k
  ·have e':q.1=k:=h1.symm.trans e;have b:valueAt (q :: qs) k=some q.2:=by simp[valueAt,YLb,e']
   rw[ZW e,b];exact h2
  ·have e':¬q.1=k:=λz=>e (h1.trans z)
   have b:valueAt (q :: qs) k=valueAt qs k:=by simp[valueAt,YLb,e']
   rw[ZD e,b];exact ih
theorem KV.any {kvs:List (κ×V)}{vs:List (κ×Value)} (r:KV kvs vs) (k:κ):(kvs.any λkv=>decide (kv.1=k))=vs.any λkv=>decide (kv.1=k):=by
 unfold KV at r
 induction r with
 |nil=>rfl
 |cons h t ih=>rw[YLU,YLU,ih,h.1]
theorem KV.repl {kvs:List (κ×V)}{vs:List (κ×Value)} (r:KV kvs vs) (k:κ) {y:V}{u:Value} (ry:Yk y u):
  KV (kvs.map λkv=>if kv.1=k then (kv.1,y) else kv) (vs.map λkv=>if kv.1=k then (kv.1,u) else kv):=by
 unfold KV at r ⊢
 induction r with
 |nil=>exact .nil
 |@cons p q ps qs h t ih=>
  rw[YKa,YKa];refine .cons ?_ ih;obtain⟨h1,h2⟩:=h
  by_cases e:p.1=k
  ·rw[if_pos e,if_pos (h1.symm.trans e)];exact⟨h1,ry⟩
  ·rw[if_neg e,if_neg (λz=>e (h1.trans z))];exact⟨h1,h2⟩
theorem KV.put {kvs:List (κ×V)}{vs:List (κ×Value)} (r:KV kvs vs) (k:κ) {y:V}{u:Value} (ry:Yk y u):KV (Zo kvs k y) (stored vs k u):=by
 unfold Zo stored;rw[r.any k]
 by_cases e:(vs.any λkv=>decide (kv.1=k))=true
 ·rw[if_pos e,if_pos e];exact r.repl k ry
 ·rw[if_neg e,if_neg e];exact Paired.snoc r ⟨U,ry⟩
theorem KV.keys {kvs:List (κ×V)}{vs:List (κ×Value)} (r:KV kvs vs):kvs.map (·.1)=vs.map (·.1):=by
 unfold KV at r
 induction r with
 |nil=>rfl
 |cons h t ih=>rw[YKa,YKa,ih,h.1]
theorem KV.length {kvs:List (κ×V)}{vs:List (κ×Value)} (r:KV kvs vs):kvs.length=vs.length:=Paired.length r
end
theorem YCa {P:Program}{w:World}{k:Key}{u:Value} (r:Yk (kV k) u):(Y1 P w).is k u=true:=by
 cases k with
 |inl i=>obtain⟨t,e⟩:=(show ∃t,u=Value.int i t from r);subst e;exact YFH P w i t
 |inr x=>obtain⟨t,e⟩:=(show ∃t,u=Value.str x t from r);subst e;exact YFI P w x t
theorem YDw {P:Program}{w:World}:∀{ks:List Key}{us:List Value},Yi (ks.map kV) us->ItemsAre (Y1 P w) ks us
 |[],_,r=>by rw[List.map_nil]at r;cases r;exact .nil
 |k :: ks,_,r=>by
  rw[YKa]at r;cases r with
  |cons h t=>exact .cons (YCa h) (YDw t)
abbrev KT (H:Hp):List (List Key×V)->List (List Key×Addr×Value)->Prop:=Paired λp q=>p.1=q.1/\H q.2.1=some (.tup (p.1.map kV))/\Yk p.2 q.2.2
theorem KT.val {H:Hp}{kvs:List (List Key×V)}{xs:List (List Key×Addr×Value)} (r:KT H kvs xs) (k:List Key):YBa (Jd kvs k) ((atKey xs k).map (·.2)):=by
 induction r with
 |nil=>exact True.intro
 |@cons p q ps qs h t ih=>
  obtain⟨h1,_,h2⟩:=h
  by_cases e:p.1=k
  ·have e':q.1=k:=h1.symm.trans e;have b:atKey (q :: qs) k=some q.2:=by simp[atKey,YLb,e']
   rw[ZW e,b];exact h2
  ·have e':¬q.1=k:=λz=>e (h1.trans z)
   have b:atKey (q :: qs) k=atKey qs k:=by simp[atKey,YLb,e']
   rw[ZD e,b];exact ih
theorem KT.repl {H:Hp}{kvs:List (List Key×V)}{xs:List (List Key×Addr×Value)} (r:KT H kvs xs) (k:List Key) {y:V}{u:Value} (ry:Yk y u):
  KT H (kvs.map λkv=>if kv.1=k then (kv.1,y) else kv) (xs.map (putAt k u)):=by
 induction r with
 |nil=>exact .nil
 |@cons p q ps qs h t ih=>
  rw[YKa,YKa];refine .cons ?_ ih;obtain⟨h1,h2,h3⟩:=h;unfold putAt
  by_cases e:p.1=k
  ·rw[if_pos e,if_pos (h1.symm.trans e)];exact⟨h1,h2,ry⟩
  ·rw[if_neg e,if_neg (λz=>e (h1.trans z))];exact⟨h1,h2,h3⟩
theorem KT.put {H:Hp}{kvs:List (List Key×V)}{xs:List (List Key×Addr×Value)} (r:KT H kvs xs) (k:List Key) {b:Addr}{y:V}{u:Value} (hb:H b=some (.tup (k.map kV))) (ry:Yk y u):
  KT H (Zo kvs k y) (storedH xs k b u):=by
 have e:(kvs.any λkv=>decide (kv.1=k))=(atKey xs k).isSome:=by
  rw[YCZ,(r.val k).isSome_eq,YLC]
 unfold Zo storedH;rw[e]
 by_cases q:(atKey xs k).isSome=true
 ·rw[if_pos q,if_pos q];exact r.repl k ry
 ·rw[if_neg q,if_neg q];exact Paired.snoc r ⟨U,hb,ry⟩
theorem KT.keeps {H H':Hp}{kvs:List (List Key×V)}{xs:List (List Key×Addr×Value)} (r:KT H kvs xs) (ht:∀b ys,H b=some (.tup ys)->H' b=some (.tup ys)):KT H' kvs xs:=
 Paired.mapP r λ_ _ z=>⟨z.1,ht _ _ z.2.1,z.2.2⟩
section
variable {P:Program}{w:World}{H:Hp}{h:Heap}{a:Addr}
theorem rd_of {u:HO} (ok:HOk P w H h) (e:Rd H a u):Yq P w H h a u:=e.ok ok
theorem YAd {kvs:List (Key×V)} (ok:HOk P w H h) (e:Rd H a (.dK kvs)):kvs.length<=sizeLine/\(a == sysModules)=false/\∃vs,KV kvs vs/\h.DictOf (Y1 P w) a vs:=
 show Yq P w H h a (.dK kvs) from rd_of ok e
theorem dk_of {kvs:List (Key×V)} (ok:HOk P w H h) (e:H a=some (.dK kvs)):kvs.length<=sizeLine/\(a == sysModules)=false/\∃vs,KV kvs vs/\h.DictOf (Y1 P w) a vs:=YAd ok (.inl e)
theorem YBd {ks:List Key} (ok:HOk P w H h) (e:H a=some (.tup (ks.map kV))):(tupleKind (Y1 P w)).is h ks a:=by
 obtain⟨_,its,r,o,h1,h2,n,h3⟩:=(show Yq P w H h a (.tup (ks.map kV)) from ok a _ e);exact⟨o,its.toArray,n,h1,h2,h3,by simpa using YDw r⟩
theorem YCb {kvs:List (List Key×V)} (ok:HOk P w H h) (e:Rd H a (.dT kvs)):kvs.length<=sizeLine/\(a == sysModules)=false/\
  ∃xs,KT H kvs xs/\h.DictOfH (tupleKind (Y1 P w)) a xs:=by
 obtain⟨z,y,xs,r,o,es,ep,h1,h2,h3,h4,h5⟩:=(show Yq P w H h a (.dT kvs) from rd_of ok e);refine⟨z,y,xs,r,o,es,ep,h1,h2,h3,h4,λx hx=>?_,h5⟩;have all:∀{l:List (List Key×V)}{m:List (List Key×Addr×Value)},KT H l m->∀x∈m,(tupleKind (Y1 P w)).is h x.1 x.2.1:=by
  intro l m q
  induction q with
  |nil=>intro x hx;exact nomatch hx
  |@cons p q ps qs hq t ih=>
   intro x hx;rcases YKT.mp hx with e |hx
   ·subst e;exact YBd ok (by rw[<-hq.1];exact hq.2.1)
   ·exact ih x hx
 exact all r x hx
theorem dt_of {kvs:List (List Key×V)} (ok:HOk P w H h) (e:H a=some (.dT kvs)):kvs.length<=sizeLine/\(a == sysModules)=false/\
  ∃xs,KT H kvs xs/\h.DictOfH (tupleKind (Y1 P w)) a xs:=YCb ok (.inl e)
end
def Z5 (H:Hp) (a:Addr) (y:V) (r:Option V):Prop:=
 (∃kvs k,Rd H a (.dK kvs)/\y=kV k/\r=Jd kvs k)\/∃kvs k b,Rd H a (.dT kvs)/\y=.ref b/\H b=some (.tup (k.map kV))/\r=Jd kvs k
def YAb (H:Hp) (a:Addr) (y v:V) (H':Hp):Prop:=
 (∃kvs k,H a=some (.dK kvs)/\y=kV k/\kvs.length < sizeLine/\H'=upd H a (.dK (Zo kvs k v)))\/
 ∃kvs k b,H a=some (.dT kvs)/\y=.ref b/\H b=some (.tup (k.map kV))/\kvs.length < sizeLine/\H'=upd H a (.dT (Zo kvs k v))
theorem Z5.k {H:Hp}{a:Addr}{kvs:List (Key×V)}{k:Key} (e:H a=some (.dK kvs)):Z5 H a (kV k) (Jd kvs k):=.inl ⟨kvs,k,.inl e,U,U⟩
theorem YAb.k {H:Hp}{a:Addr}{kvs:List (Key×V)}{k:Key}{v:V} (e:H a=some (.dK kvs)) (hl:kvs.length < sizeLine):YAb H a (kV k) v (upd H a (.dK (Zo kvs k v))):=.inl ⟨kvs,k,e,U,hl,U⟩
section
variable {X:Cx}{pins:List (Addr×Obj)}{σ:St}{H:Hp}{s:Shared}{a:Addr}{y v:V}{u r:Value}{o:Option V}{A:Around}{E:Value->Shared->Prop}
theorem Inv.big (I:Inv X pins σ H s):sysModules < s.heap.objs.size:=by
 have h:mainGlobals < s.heap.objs.size:=(I.mod.glob.keeps I.bk).lt;exact Nat.lt_trans (by decide) h
theorem YIA {Q:Value->Shared->Prop} (hu:A.units + 1 < cLine) (I:Inv X pins σ H s) (g:Z5 H a y (some v)) (ry:Yk y u) (h:∀w' s',Inv X pins σ H s'->Yk v w'->Q w' s'):
  wpAny (model X.prog X.w) A (getItem (.ref a) u) Q E s:=by
 rcases g with ⟨kvs,k,e,ey,l⟩ |⟨kvs,k,b,e,ey,eb,l⟩
 ·subst ey;obtain⟨z,hd,vs,rel,dd⟩:=YAd I.hok e;obtain⟨w',hw,mL⟩:=YBa.some_of (v:=v) (o:=valueAt vs k) (by rw[l];exact rel.val k);exact wpAny_getItem_of (YCa ry) dd.mapOf hw (h w' _ (I.tok _) mL)
 ·subst ey;cases (show u=Value.ref b from ry);obtain⟨z,hd,xs,rel,dd⟩:=YCb I.hok e;obtain⟨w',hw,mL⟩:=YBa.some_of (v:=v) (o:=(atKey xs k).map (·.2)) (by rw[l];exact rel.val k);obtain⟨p,hp,sJ⟩:=Option.map_eq_some_iff.mp hw;refine wpAny_getItem_heap (tupleKind_room_in1 hu) (YBd I.hok eb) dd hp ?_;rw[sJ];exact h w' _ (I.tok _) mL
theorem d_in {Q:Value->Shared->Prop} (hu:A.units + 1 < cLine) (I:Inv X pins σ H s) (g:Z5 H a y o) (ry:Yk y u) (h:∀s',Inv X pins σ H s'->Q (.bool o.isSome) s'):
  wpAny (model X.prog X.w) A (compareOp .In u (.ref a)) Q E s:=by
 rcases g with ⟨kvs,k,e,ey,l⟩ |⟨kvs,k,b,e,ey,eb,l⟩
 ·subst ey;obtain⟨z,hd,vs,rel,dd⟩:=YAd I.hok e;refine wpAny_in_of (YCa ry) hd dd.mapOf ?_;rw[<-(rel.val k).isSome_eq,<-l];exact h _ (I.tok _)
 ·subst ey;cases (show u=Value.ref b from ry);obtain⟨z,hd,xs,rel,dd⟩:=YCb I.hok e;refine wpAny_in_heap (tupleKind_room_in1 hu) (YBd I.hok eb) hd dd ?_;have q:=(rel.val k).isSome_eq;rw[YLC]at q;rw[<-q,<-l];exact h _ (I.tok _)
theorem d_notIn {Q:Value->Shared->Prop} (hu:A.units + 1 < cLine) (I:Inv X pins σ H s) (g:Z5 H a y o) (ry:Yk y u) (h:∀s',Inv X pins σ H s'->Q (.bool (!o.isSome)) s'):
  wpAny (model X.prog X.w) A (compareOp .NotIn u (.ref a)) Q E s:=by
 rcases g with ⟨kvs,k,e,ey,l⟩ |⟨kvs,k,b,e,ey,eb,l⟩
 ·subst ey;obtain⟨z,hd,vs,rel,dd⟩:=YAd I.hok e;refine wpAny_notIn_of (YCa ry) hd dd.mapOf ?_;rw[<-(rel.val k).isSome_eq,<-l];exact h _ (I.tok _)
 ·subst ey;cases (show u=Value.ref b from ry);obtain⟨z,hd,xs,rel,dd⟩:=YCb I.hok e;refine wpAny_notIn_heap (tupleKind_room_in1 hu) (YBd I.hok eb) hd dd ?_;have q:=(rel.val k).isSome_eq;rw[YLC]at q;rw[<-q,<-l];exact h _ (I.tok _)
theorem YEi {h':Heap}{t':Nat}{ob:HO} (I:Inv X pins σ H s) (mu:Mut (H a)) (hs:Heap.SameBut a s.heap h') (he:∃q,h'.get? a=some q) (new:Yq X.prog X.w (upd H a ob) h' a ob):
  Inv X pins σ (upd H a ob) { s with heap:=h',toks:=t' }:=
 I.write (x:=a) (e:=a) mu (.inl rfl) (λb q hb z=>(hs.2 b hb).trans z) he new
theorem YGV {P:Program}{w:World}{H':Hp}{h':Heap}{kvs:List (Key×V)}{vs:List (Key×Value)} (z:kvs.length<=sizeLine) (hd:(a == sysModules)=false) (rel:KV kvs vs) (dd:h'.DictOf (Y1 P w) a vs):
  Yq P w H' h' a (.dK kvs):=⟨z,hd,vs,rel,dd⟩
theorem YIB {H':Hp}{Q:Unit->Shared->Prop} (hu:A.units + 1 < cLine) (I:Inv X pins σ H s) (g:YAb H a y v H') (ry:Yk y u) (rv:Yk v r) (h:∀s',Inv X pins σ H' s'->Q () s'):
  wpAny (model X.prog X.w) A (setItem (.ref a) u r) Q E s:=by
 rcases g with ⟨kvs,k,e,ey,l,eH⟩ |⟨kvs,k,b,e,ey,eb,l,eH⟩
 ·subst ey eH;obtain⟨z,hd,vs,rel,dd⟩:=dk_of I.hok e;have hz:vs.length<=sizeLine:=by rw[<-rel.length];exact z
  have hl:(Zo kvs k v).length<=sizeLine:=by have:=Xy kvs k v;omega
  refine wpAny_setItem_pairs (hsz:=hz) (YCa ry) dd λh' ud hs=>h _ ?_
  have he:∃q,h'.get? a=some q:=let ⟨q,_,_,hq,_⟩:=ud;⟨q,hq⟩
  exact YEi I (by rw[e];exact True.intro) hs he (YGV hl hd (rel.put k rv) ud)
 ·subst ey eH;cases (show u=Value.ref b from ry);obtain⟨z,hd,xs,rel,dd⟩:=dt_of I.hok e;have hz:xs.length<=sizeLine:=by rw[<-Paired.length rel];exact z
  have hl:(Zo kvs k v).length<=sizeLine:=by have:=Xy kvs k v;omega
  refine wpAny_setItem_heap (hsz:=hz) (tupleKind_room_in1 hu) (YBd I.hok eb) dd λh' ud hs=>h _ ?_
  obtain⟨q,es,ep,hq,h2,h3,h4,_,h5⟩:=ud;refine YEi I (by rw[e];exact True.intro) hs ⟨q,hq⟩ ⟨hl,hd,_,(rel.put k eb rv).keeps λc ys ec=>?_,q,es,ep,hq,h2,h3,h4,h5⟩;rw[YN (ne_of ec e nofun)];exact ec
end
section
variable {X:Cx}{pins:List (Addr×Obj)}{σ:St}{H:Hp}{s:Shared}{a:Addr}{kvs:List (Key×V)}{k:Key}{u:Value}{A:Around}{E:Value->Shared->Prop}
end
def NoSl (i:Expr):Prop:=∀ov iv,subscripted i false ov iv=operate [ov,iv] (getItem ov iv)
theorem subD_of {prog:Program}{w:World}{A:Around}{E:Value->Shared->Prop}{s:Shared}{env:Env}{value slice:Expr}{pos:Pos}{T id:String}{Q:Value->Shared->Prop}
  (hl:typeLookup (.type T) "__getitem__"=pure (some (.builtin id))) (hs:NoSl slice)
  (h:wpAny (model prog w) A (eval value env) (λo s₁=>wpAny (model prog w) A (eval slice env) (λi s₂=>s₂.TypeIs o T/\wpAny (model prog w) A (getItem o i) Q E s₂) E s₁) E s):
  wpAny (model prog w) A (eval (.Subscript value slice pos) env) Q E s:=by
 refine Subscript_ (wpAny_mono h (λo s₁ h₁=>wpAny_mono h₁ (λi s₂ h₂=>?_) λ_ _ x=>x) λ_ _ x=>x);obtain⟨hT,h₂⟩:=h₂;unfold subscriptTail;refine YKG ?_;rw[getitemInPython_of_ne hT.not_modules];refine YKG (wpAny_specialOf hT hl ?_);have fin:wpAny (model prog w) A (subscripted slice false o i) (λr s₃=>wpAny (model prog w) A (letTemporaryGo value o r >>= λ_=>pure r) Q E s₃) E s₂:=by
  rw[hs o i];exact wpAny_operating (wpAny_mono h₂ (λr s₃ h₃=>YKG (wpAny_letTemporaryGo (YKV h₃))) λ_ _ x=>x)
 first
  |exact YKV (YKG fin)
  |exact YKG (YKV (YKG fin))
  |exact YKG fin
theorem YFM {X:Cx}{pins:List (Addr×Obj)}{σ:St}{H:Hp}{s:Shared}{a:Addr}{y:V}{o:Option V} (I:Inv X pins σ H s) (g:Z5 H a y o):s.TypeIs (.ref a) "dict":=by
 rcases g with ⟨kvs,k,e,_,_⟩ |⟨kvs,k,b,e,_,_,_⟩
 ·obtain⟨_,_,vs,_,dd⟩:=YAd I.hok e;exact dd.typeIs
 ·obtain⟨_,_,xs,_,dd⟩:=YCb I.hok e;exact dd.typeIs
inductive YI7 (Q:VK) (x:V) (y:V) (H2:Hp):Prop where
 |mk (a:_) (v:_) (aY:x=.ref a) (aZ:Z5 H2 a y (some v)) (bN:Q v H2):YI7 Q x y H2
def tDGet (td ty:TE):TE:=λσ H Q=>td σ H λx H1=>ty σ H1 λy H2=>YI7 Q x y H2
inductive tDIn_ (Q:VK) (y:V) (x:V) (H2:Hp):Prop where
 |mk (a:_) (o:_) (aY:x=.ref a) (aZ:Z5 H2 a y o) (bN:Q (.bl o.isSome) H2):tDIn_ Q y x H2
def tDIn (ty td:TE):TE:=λσ H Q=>ty σ H λy H1=>td σ H1 λx H2=>tDIn_ Q y x H2
inductive YFN (Q:VK) (y:V) (x:V) (H2:Hp):Prop where
 |mk (a:_) (o:_) (aY:x=.ref a) (aZ:Z5 H2 a y o) (bN:Q (.bl (!o.isSome)) H2):YFN Q y x H2
def YHE (ty td:TE):TE:=λσ H Q=>ty σ H λy H1=>td σ H1 λx H2=>YFN Q y x H2
inductive YI8 (D:Z3) (σ:St) (v:V) (x:V) (y:V) (H3:Hp):Prop where
 |mk (a:_) (H4:_) (aY:x=.ref a) (aZ:YAb H3 a y v H4) (bN:D.nx σ H4):YI8 D σ v x y H3
def sDPut (td ty tv:TE):TS:=λD σ H=>tv σ H λv H1=>td σ H1 λx H2=>ty σ H2 λy H3=>YI8 D σ v x y H3
section
variable {X:Cx}{o i e value:Expr}{pos ig lF:Pos}{td ty tv:TE}
theorem Zw (hu:X.A.units + 1 < cLine) (ho:PE X o td) (hi:PE X i ty) (hs:NoSl i):PE X (.Subscript o i pos) (tDGet td ty):=by
 intro pins s σ H Q I h;refine subD_of PySem.F.slot_dict_getitem.lookup hs (thn (ho pins s σ H _ I h) λu s1 ⟨x,H1,I1,rx,q1⟩=>thn (hi pins s1 σ H1 _ I1 q1) ?_);rintro iv s2 ⟨y,H2,I2,ry,a,v,ex,g,q2⟩;subst ex;obtain rfl:u=Value.ref a:=rx;exact⟨YFM I2 g,YIA hu I2 g ry λw' s3 I3 mL=>⟨v,H2,I3,mL,q2⟩⟩
theorem pc_din (hu:X.A.units + 1 < cLine) (hi:PE X i ty) (ho:PE X o td):PC X .In i o (tDIn ty td):=by
 intro pins s σ H Q I h;refine thn (hi pins s σ H _ I h) λiv s1 ⟨y,H1,I1,ry,q1⟩=>thn (ho pins s1 σ H1 _ I1 q1) ?_
 rintro u s2 ⟨x,H2,I2,rx,a,ov,ex,g,q2⟩;subst ex;obtain rfl:u=Value.ref a:=rx;exact d_in hu I2 g ry λs3 I3=>⟨.bl ov.isSome,H2,I3,U,q2⟩
theorem JI (hu:X.A.units + 1 < cLine) (hi:PE X i ty) (ho:PE X o td):PC X .NotIn i o (YHE ty td):=by
 intro pins s σ H Q I h;refine thn (hi pins s σ H _ I h) λiv s1 ⟨y,H1,I1,ry,q1⟩=>thn (ho pins s1 σ H1 _ I1 q1) ?_
 rintro u s2 ⟨x,H2,I2,rx,a,ov,ex,g,q2⟩;subst ex;obtain rfl:u=Value.ref a:=rx;exact d_notIn hu I2 g ry λs3 I3=>⟨.bl (!ov.isSome),H2,I3,U,q2⟩
theorem YAL (hu:X.A.units + 1 < cLine) (ho:PE X o td) (hi:PE X i ty) (hv:PE X value tv) (hs:swapsWith value (some (.Subscript o i ig)) pos.line X.env=pure false):
  PS X (.Assign [.Subscript o i ig] value pos) (sDPut td ty tv):=by
 intro pins s σ H D I h;refine wpAny_Assign_Subscript (thn (hv pins s σ H _ I h) λr s1 ⟨v,H1,I1,rv,q1⟩=>thn (ho pins s1 σ H1 _ I1 q1) λu s2 ⟨x,H2,I2,rx,q2⟩=>thn (hi pins s2 σ H2 _ I2 q2) λiv s3 ⟨y,H3,I3,ry,a,H4,ex,g,q3⟩=>?_) hs;subst ex;obtain rfl:u=Value.ref a:=rx;exact YIB hu I3 g ry rv λs4 I4=>⟨σ,H4,I4,q3⟩
end
theorem YFO {P:Program}{w:World}{H:Hp} (h:Heap) (hb:sysModules < h.objs.size):Yq P w H (h.push { cls:=.type "dict",data:=.dict #[] }) h.objs.size (.dK []):=
 ⟨YKm _,beq_eq_false_iff_ne.mpr (Ne.symm (YKn hb)),[],.nil,Heap.DictOf.new h⟩
def tDNewK:TE:=λ_ H Q=>∀p,H p=none->Q (.ref p) (upd H p (.dK []))
section
variable {X:Cx}{pos:Pos}
theorem Xz:PE X (.Dict [] [] pos) tDNewK:=λpins s σ H Q I h=>
 wpAny_Dict_empty ⟨.ref s.heap.objs.size,_,I.laid (a:=s.heap.objs.size) (o:=.dK []) (t':=s.toks) (λ_ _ q=>YKI _ q) (YKH _) (YFO s.heap I.big),U,h _ (I.hok.fresh (YKH _))⟩
end
def YGW:List (TE×TE)->St->Hp->(List (V×V)->Hp->Prop)->Prop
 |[],_,H,Q=>Q [] H
 |(tk,tv) :: r,σ,H,Q=>tk σ H λx H1=>tv σ H1 λy H2=>YGW r σ H2 λps H3=>Q ((x,y) :: ps) H3
abbrev VV:List (V×V)->List (Value×Value)->Prop:=Paired λp q=>Yk p.1 q.1/\Yk p.2 q.2
def PPs (X:Cx) (pos:Pos) (keys:List (Option Expr)) (values:List Expr) (trs:List (TE×TE)):Prop:=
 ∀(pins:List (Addr×Obj)) (s:Shared) (σ:St) (H:Hp) (Q:List (V×V)->Hp->Prop),Inv X pins σ H s->YGW trs σ H Q->
  wpAny (model X.prog X.w) X.A (evalPairs (pairTrees keys values X.env pos)) (λvs s'=>∃ps H',Inv X pins σ H' s'/\VV ps vs/\Q ps H') X.xe s
theorem YHF {X:Cx}{pos:Pos}:PPs X pos [] [] []:=λpins s σ H Q I h=>pairTrees_nil_walk ⟨[],H,I,.nil,h⟩
theorem YFP {X:Cx}{pos:Pos}{k v:Expr}{ks:List (Option Expr)}{vs:List Expr}{tk tv:TE}{trs:List (TE×TE)} (hk:PE X k tk) (hv:PE X v tv) (hr:PPs X pos ks vs trs):
  PPs X pos (some k :: ks) (v :: vs) ((tk,tv) :: trs):=λpins s σ H Q I h=>
 pairTrees_cons_walk (thn (hk pins s σ H _ I h) λu s1 ⟨x,H1,I1,rx,q1⟩=>thn (hv pins s1 σ H1 _ I1 q1) λw2 s2 ⟨y,H2,I2,ry,q2⟩=>
  thn (hr pins s2 σ H2 _ I2 q2) λws s3 ⟨ps,H3,I3,rel,q3⟩=>⟨(x,y) :: ps,H3,I3,.cons ⟨rx,ry⟩ rel,q3⟩)
def Zs (kvs more:List (Key×V)):List (Key×V):=more.foldl (λacc kv=>Zo acc kv.1 kv.2) kvs
theorem KV.merge:∀{more:List (Key×V)}{rs:List (Key×Value)}{kvs:List (Key×V)}{vs:List (Key×Value)},KV more rs->KV kvs vs->KV (Zs kvs more) (merged vs rs):=by
 intro more rs kvs vs r;unfold KV at r
 induction r generalizing kvs vs with
 |nil=>intro q;exact q
 |@cons p q ps qs h t ih=>
  intro r0;have e:KV (Zo kvs p.1 p.2) (stored vs q.1 q.2):=by
   have:=r0.put p.1 h.2;rw[<-h.1];exact this
  exact ih e
theorem YAe:∀(more kvs:List (Key×V)),(Zs kvs more).length<=kvs.length + more.length
 |[],kvs=>by show kvs.length<=kvs.length + 0;omega
 |p :: r,kvs=>by
  have h1:=YAe r (Zo kvs p.1 p.2);have h2:=Xy kvs p.1 p.2;show(Zs (Zo kvs p.1 p.2) r).length<=_;rw[YKX];omega
theorem YCc {P:Program}{w:World}:∀{kvs:List (Key×V)}{ws:List (Value×Value)},VV (kvs.map λkv=>(kV kv.1,kv.2)) ws->∃rs,Carries (Y1 P w) ws rs/\KV kvs rs
 |[],_,r=>by rw[List.map_nil]at r;cases r;exact⟨[],True.intro,.nil⟩
 |p :: kvs,_,r=>by
  rw[YKa]at r;cases r with
  |@cons a b as bs h t=>
   obtain⟨rs,c,q⟩:=YCc (P:=P) (w:=w) t;obtain⟨b1,b2⟩:=b;exact⟨(p.1,b2) :: rs,⟨YCa h.1,U,c⟩,.cons ⟨U,h.2⟩ q⟩
def tDisp (trs:List (TE×TE)):TE:=λσ H Q=>∀p,H p=none->YGW trs σ (upd H p (.dK [])) λps H2=>H2 p=some (.dK [])/\∃kvs:List (Key×V),ps=kvs.map (λkv=>(kV kv.1,kv.2))/\kvs.length<=15/\Q (.ref p) (upd H2 p (.dK (Zs [] kvs)))
theorem YHG {X:Cx}{pos:Pos}{keys:List (Option Expr)}{values:List Expr}{trs:List (TE×TE)} (h:PPs X pos keys values trs) (hall:keys.all (·.isSome)=true) (hl:keys.length=values.length) (h0:keys≠[])
  (Rj:keys.length<=15):PE X (.Dict keys values pos) (tDisp trs):=by
 intro pins s σ H Q I q;have hn:=I.hok.fresh (YKH s.heap.objs.size);have I1:=I.laid (a:=s.heap.objs.size) (o:=.dK []) (h':=s.heap.push { cls:=.type "dict",data:=.dict #[] }) (t':=s.toks) (λ_ _ q=>YKI _ q) (YKH _) (YFO s.heap I.big);refine wpAny_Dict_walk (knd:=Y1 X.prog X.w) hall hl h0 Rj (thn (h pins _ σ _ _ I1 (q _ hn)) ?_);rintro ws s2 ⟨ps,H2,I2,rel,e,kvs,ep,lk,q2⟩;subst ep;obtain⟨rs,c,rk⟩:=YCc (P:=X.prog) (w:=X.w) rel;obtain⟨z,hd,vs0,r0,dd⟩:=dk_of I2.hok e;cases r0;refine⟨rs,c,dd,λh' ud hs=>⟨.ref s.heap.objs.size,_,?_,U,q2⟩⟩;have hz:(Zs [] kvs).length<=sizeLine:=by
  have h1:=YAe kvs [];rw[List.length_nil]at h1;rw[sizeLine_eq];omega
 have he:∃q,h'.get? s.heap.objs.size=some q:=let ⟨q,_,_,hq,_⟩:=ud;⟨q,hq⟩
 exact YEi I2 (by rw[e];exact True.intro) hs he (YGV hz hd (rk.merge .nil) ud)
structure M1 (X:Cx) (o:Expr) (m:Str) (dH:Pos) (e:Expr) (bj:Pos):Prop where
 base:attributeBase o m X.env (eval o X.env)=eval o X.env
 few:((backTo bj (starEach [e] X.env)).all (λx=>!x.1) && (backToKw bj (keywordEach [] X.env)).all (λx=>x.1.isSome)
  && decide (([e]:List Expr).length + ([]:List Keyword).length + (if ([]:List Keyword).isEmpty then 0 else 1) < 30))=true
 line:(dH.endLine == bj.line)=true
 trees:backTo bj (starEach [e] X.env)=[(false,eval e X.env)]
def IsD (H:Hp) (a:Addr):Prop:=(∃kvs,Rd H a (.dK kvs))\/∃kvs,Rd H a (.dT kvs)
theorem isD_at {X:Cx}{pins:List (Addr×Obj)}{σ:St}{H:Hp}{s:Shared}{a:Addr} (I:Inv X pins σ H s) (d:IsD H a):
  s.TypeIs (.ref a) "dict"/\(∀b,Value.ref a=.ref b->∃ob,s.heap.get? b=some ob/\ob.dict=none)/\(a == sysModules)=false:=by
 rcases d with ⟨kvs,e⟩ |⟨kvs,e⟩
 ·obtain⟨_,hd,vs,_,dd⟩:=YAd I.hok e;refine⟨dd.typeIs,λb q=>?_,hd⟩;cases q;obtain⟨ob,_,_,h1,h2,_⟩:=dd;exact⟨ob,h1,h2.2.1⟩
 ·obtain⟨_,hd,xs,_,dd⟩:=YCb I.hok e;refine⟨dd.typeIs,λb q=>?_,hd⟩;cases q;obtain⟨ob,_,_,h1,h2,_⟩:=dd;exact⟨ob,h1,h2.2.1⟩
section
variable {X:Cx}{pins:List (Addr×Obj)}{σ:St}{H:Hp}{s:Shared}{a:Addr}{y d:V}{u r:Value}{o:Option V}{A:Around}{E:Value->Shared->Prop}
theorem d_get1 {Q:Value->Shared->Prop} (hu:A.units + 1 < cLine) (I:Inv X pins σ H s) (g:Z5 H a y o) (ry:Yk y u) (h:∀w' s',Inv X pins σ H s'->Yk (o.getD .non) w'->Q w' s'):
  wpAny (model X.prog X.w) A (call (.builtin "dict.get") [.ref a,u]) Q E s:=by
 rcases g with ⟨kvs,k,e,ey,l⟩ |⟨kvs,k,b,e,ey,eb,l⟩
 ·subst ey;obtain⟨z,hd,vs,rel,dd⟩:=YAd I.hok e;refine call_meetsIn PySem.F.slot_dict_get dd.typeIs PySem.F.entry_dict_get (PySem.F.args_dict_get_2 _ _) (meets_dict_get (Y1 X.prog X.w) a (YCa ry) hd) ⟨_,dd.mapOf,h _ _ (I.tok _) ?_⟩;rw[l];exact(rel.val k).getD rfl
 ·subst ey;cases (show u=Value.ref b from ry);obtain⟨z,hd,xs,rel,dd⟩:=YCb I.hok e;refine call_meetsIn PySem.F.slot_dict_get dd.typeIs PySem.F.entry_dict_get (PySem.F.args_dict_get_2 _ _) (meetsH_dict_get (tupleKind (Y1 X.prog X.w)) a b hd) ⟨tupleKind_room_in1 hu,k,xs,YBd I.hok eb,dd,h _ _ (I.tok _) ?_⟩;rw[l];exact(rel.val k).getD rfl
end
def tDGet1 (td ty:TE):TE:=λσ H Q=>td σ H λx H1=>∃a,x=.ref a/\IsD H1 a/\ty σ H1 λy H2=>∃o,Z5 H2 a y o/\Q (o.getD .non) H2
section
variable {X:Cx}{o e f:Expr}{dH bj:Pos}{td ty tx:TE}
theorem YI9 (hu:X.A.units + 1 < cLine) (ho:PE X o td) (he:PE X e ty) (m:M1 X o "get" dH e bj):PE X (.Call (.Attribute o "get" dH) [e] [] bj) (tDGet1 td ty):=by
 intro pins s σ H Q I h;refine wpAny_Call_method m.base m.few m.line PySem.F.plainAttrs_dict PySem.F.slot_dict_get PySem.F.type_dict_get (thn (ho pins s σ H _ I h) ?_);rintro u s1 ⟨x,H1,I1,rx,a,ex,d,q1⟩;subst ex;obtain rfl:u=Value.ref a:=rx;obtain⟨t1,t2,_⟩:=isD_at I1 d;refine⟨t1,t2,?_⟩;rw[m.trees];refine Calls.callWith_builtin rfl (Calls.evalArgs_plain (Calls.spliced_cons (thn (he pins s1 σ H1 _ I1 q1) ?_)));rintro iv s2 ⟨y,H2,I2,ry,ov,g,q2⟩;refine Calls.spliced_nil ?_;exact d_get1 hu I2 g ry λw' s3 I3 mL=>⟨_,H2,I3,mL,q2⟩
end
section
variable {X:Cx}{pins:List (Addr×Obj)}{σ:St}{H:Hp}{s:Shared}{a:Addr}{kvs:List (Key×V)}{A:Around}{E:Value->Shared->Prop}
theorem YJA {Q:Value->Shared->Prop} (I:Inv X pins σ H s) (e:Rd H a (.dK kvs)) (h:∀p s',H p=none->Inv X pins σ (upd H p (.dK kvs)) s'->Q (.ref p) s'):wpAny (model X.prog X.w) A (call (.type "dict") [.ref a]) Q E s:=by
 obtain⟨z,hd,vs,rel,dd⟩:=YAd I.hok e;refine kt_call_dict hd dd (by rw[<-rel.length];exact z) λh' ud hs=>?_
 refine h _ _ (I.hok.fresh (YKH _)) (I.laid (a:=s.heap.objs.size) (o:=.dK kvs) (t':=s.toks) (λb q hq=>?_) (YKH _) (YGV z (beq_eq_false_iff_ne.mpr (Ne.symm (YKn I.big))) rel ud));exact(hs.2 b (YKn (YKS hq))).trans (YKI _ hq)
end
section
variable {X:Cx}{pins:List (Addr×Obj)}{σ:St}{H:Hp}{s:Shared}{a:Addr}{y:V}{u:Value}{A:Around}{E:Value->Shared->Prop}
end
end L2
namespace Att
open PySem PySem.W PySem.Calls PyProof.Rows
theorem YCA {P:Params}{h:Heap}:∀(ns:List Int) (vs:List Value),WellAll P h vs (ns.map WData.int)->IntsAre vs ns:=by
 intro ns
 induction ns with
 |nil=>
  intro vs w;rw[List.map_nil]at w;cases w;exact .nil
 |cons n ns ih=>
  intro vs w;rw[YKa]at w;cases w with
  |cons a b=>
   cases a;exact .cons _ _ (ih _ b)
theorem YIC {l:OpenLaw}{n:Nat} (hn:l.most=some n) {P:Params}{h:Heap}{args:List WData}{vals:List Value}
  (ue:l.row.toRowW.claim.pre args=true) (hwl:WellAll P h vals args):
  ∃a vs ns,vals=[Value.ref a]/\args=[WData.list (ns.map WData.int)]/\h.get? a=some { cls:=.type "list",data:=.seq vs.toArray }/\IntsAre vs ns/\ns.length<=n:=by
 have yh:WShape.hasAll [] args [.list .int]=true:=(pre_splitW ue).1;have hc:l.pre.holds [] { args:=args }=true:=(pre_splitW ue).2;obtain⟨d,r,rfl,h1,h2⟩:=hasAllW_cons yh;obtain rfl:=hasAllW_nil h2;obtain⟨xs,rfl,h3⟩:=hasW_list h1;obtain⟨ns,rfl⟩:=items_int h3;have hlen:ns.length<=n:=by
  unfold OpenLaw.pre at hc;have h4:(WTm.not (.lt (.lit (.int (n:Int))) (.len (.arg 0)))).holds [] { args:=[.list (ns.map .int)] }=true:=by
   have h4:=(holds_andW hc).1;rw[hn]at h4;exact h4
  have h5:=condW_of h4 (w_not (w_lt w_lit (w_len_list (w_arg rfl))));rw[YKF]at h5;refine Nat.le_of_not_lt λq=>?_
  have q':(n:Int) < ((ns.length:Nat):Int):=by omega
  first
   |(rw[YKN q']at h5;exact absurd h5 (by decide))
   |(simp at h5;omega)
 cases hwl with
 |cons w1 w2=>
  cases w2;cases w1 with
  |list ho hall=>exact⟨_,_,ns,U,U,ho,YCA ns _ hall,hlen⟩
theorem YID (l:OpenLaw) (args:List WData):l.row.toRowW.claim.post args (.bool true) args=true:=
 postW_of (r:=l.row.toRowW) (X:=(true == true))
  (show WShape.has [] (.bool true) .bool=true by first |rfl |decide |simp[WShape.has,WShape.arms,WShape.armsAll])
  (show(WTm.eq .res (.lit (.bool true))).value [] { args:=args,res:=some (.bool true),after:=args }=some (.bool (true == true)) from w_eq_bool (w_res rfl) w_lit) rfl
theorem YFQ {l:OpenLaw}{n:Nat}{q:Program}{loose:List Str}{XP:(Str->Option Value)->Heap->Prop}{YP:World->Heap->Prop}{d:DefRec}
  (hn:l.most=some n) (hdf:d.params.defaults=[])
  (call:∀(w:World) (s₀ s₁:Shared) (mg mb:Str->Option Value) (fa:Addr) (o:Obj) (pm cd doc:Value) (a:Addr) (vs:List Value) (ns:List Int),
   Ground q loose [] XP w s₀ mg mb s₁.heap->YP w s₁.heap->
   s₁.heap.get? fa=some o->o.data=.func (docDef d.name d.params d.body d.scope pm cd doc)->s₁.heap.CodeRec cd d.name->mg d.name=some (.ref fa)->
   s₁.heap.get? a=some { cls:=.type "list",data:=.seq vs.toArray }->IntsAre vs ns->ns.length<=n->s₁.gens=#[]->
   codeAny (model l.prog w) callerA (.call (.ref fa) ⟨[.ref a],[]⟩) (λr s'=>r=.ok (.ret (.bool true))/\OldK s₁.heap s'.heap/\s'.os=s₁.os/\AllBare s'.gens) s₁):
  WalkO q loose XP YP l.row.toRowW d [] (λf vs=>PySem.call f vs):=by
 intro w s₀ s₁ mg mb G Y fa o pm cd doc dV kV ho hd hcd hD yj hg args vals as ue hlay hrd hwl hlo;obtain rfl:dV=.none:=Dflts.none hD hdf;obtain rfl:kV=.none:=Dflts.noKw hD;obtain⟨a,vs,ns,rfl,rfl,vK,rG,hlen⟩:=YIC hn ue hwl;refine enter_call (codeAny_mono (call w s₀ s₁ mg mb fa o pm cd doc a vs ns G Y ho (fd_plain hd) hcd yj vK rG hlen hg) λr s' hq=>?_);obtain⟨rfl,h2,h3,h4⟩:=hq;exact⟨.inl ⟨.bool true,.bool true,[],U,λ_=>rfl,.bool true,YID l _,λ_=>⟨List.Pairwise.nil,λ_ hm=>(nomatch hm)⟩⟩,h2,h3,h4⟩
section
variable {prog:Program}{w:World}{A:Around}{E:Value->Shared->Prop}{s:Shared}{K:Frag}
end
end Att
namespace L2
open PySem PySem.Spec PyProof.Rows
theorem YDx:∀{vs:List Value}{ns:List Int},IntsAre vs ns->Yi (ns.map V.int) vs
 |_,_,.nil=>.nil
 |_,_,.cons n t h=>.cons ⟨t,U⟩ (YDx h)
def Only (H:Hp):Prop:=∀b,H b=none\/∃o xs,H b=some (.frz o (.lst xs))
theorem YJB {P:Program}{w:World}{K:W.Frag}{mg mb:Str->Option Value}{CX:CXT}{k:Nat}{fa a:Addr}{fd:FuncData}{x:Str}{sp:Sp}{s₁:Shared}{vs:List Value}{ns:List Int}
  (KX:K.In s₁.heap) (hns:s₁.heap.Ns mainGlobals mg) (hb:s₁.heap.Ns builtinsNs mb) (hbb:∀x:Str,x≠"__name__"->mb x=bootBuiltins x) (Qe:s₁.heap.NoLimit) (hg:s₁.gens=#[])
  (ha:s₁.heap.get? a=some { cls:=.type "list",data:=.seq vs.toArray }) (hi:IntsAre vs ns) (hl:ns.length<=sizeLine) (hr:XL k callerA)
  (F:∀base:Heap,K.In base->base.Ns mainGlobals mg->Yz P w K mg base CX k fa fd [x] sp) (yl:∀(s:Shared) (u:Value),BindsTo s fd ⟨[u],[]⟩ [(x,u)])
  (hsp:∀H:Hp,Only H->SqL K H a (ns.map V.int)->sp [.ref a] H (λv _=>v=.bl true) λ_ _ _=>False)
  (hCX:∀H e s',CX [] H s₁ (λ_ _ _=>False) e s'->False):
  codeAny (model P w) callerA (.call (.ref fa) ⟨[.ref a],[]⟩) (λr s'=>r=.ok (.ret (.bool true))/\OldK s₁.heap s'.heap/\s'.os=s₁.os/\AllBare s'.gens) s₁:=by
 have rv:=YDx hi;have lenV:=hi.length;have core:∀H:Hp,Only H->SqL K H a (ns.map V.int)->HOk P w H s₁.heap->(∀b,H b≠none->b=a)->(H a≠none->K.lookup a=none)->
   codeAny (model P w) callerA (.call (.ref fa) ⟨[.ref a],[]⟩) (λr s'=>r=.ok (.ret (.bool true))/\OldK s₁.heap s'.heap/\s'.os=s₁.os/\AllBare s'.gens) s₁:=by
  intro H hO hS hok hA hK;have base_of:∀{b:Addr}{o:Obj},s₁.heap.get? b=some o->H b=none->(YEb s₁.heap H).get? b=some o:=λe n=>YIo e n
  have noA:∀{b:Addr}{o:Obj}{es:Array DictEntry}{ep:Nat},s₁.heap.get? b=some o->o.data=.dict es ep->H b=none:=λ{b o es ep} e d=>by
   cases q:H b with
   |none=>rfl
   |some u=>
    have e':b=a:=hA b (by rw[q];simp);subst e';rw[ha]at e;cases e;have d':Data.seq vs.toArray _=Data.dict es ep:=d;cases d'
  have nsK:∀{b:Addr}{m:Str->Option Value},s₁.heap.Ns b m->(YEb s₁.heap H).Ns b m:=λ{b m} ⟨o,es,ep,e,d,r⟩=>⟨o,es,ep,base_of e (noA e d),d,r⟩
  have hKb:K.In (YEb s₁.heap H):=λb o e=>base_of (KX b o e) (by
   cases q:H b with
   |none=>rfl
   |some u=>
    have e':b=a:=hA b (by rw[q];simp);subst e';rw[hK (by rw[q];simp)]at e;cases e)
  have hM:Mod K mg (YEb s₁.heap H):=⟨hKb,nsK hns,⟨mb,nsK hb,hbb⟩,let ⟨mc,h1,h2⟩:=Qe;⟨mc,nsK h1,h2⟩⟩;have e0:Env0 P w K mg (YEb s₁.heap H) callerA [] s₁ H:=⟨U,hM,λb o e=>of_hidT e,Nat.le_of_eq (YH0 _ _),trivial,λb hb=>absurd (show b∈([]:List Addr) from hb) (by simp),hok,.of_eq hg⟩;refine codeAny_mono ((F _ hKb (nsK hns)).run callerA [] s₁ H ⟨[.ref a],[]⟩ [.ref a] [.ref a] _ _ hr e0 (yl s₁ (.ref a)) (.cons rfl .nil) (hsp H hO hS)) λr s' h=>?_
  cases r with
  |error e=>exact(hCX H e s' h).elim
  |ok fl=>
   cases fl with
   |next=>exact False.elim h
   |brk=>exact False.elim h
   |cont=>exact False.elim h
   |ret u=>
    obtain⟨v,H',os,bare,un,hok',r',q⟩:=h;have q':v=.bl true:=q;subst q';obtain rfl:u=Value.bool true:=r';refine⟨U,OldK.of_keep λb o e=>?_,os,bare⟩;cases q:H b with
    |none=>exact un.keep b o e q (by intro z;exact absurd (show b∈([]:List Addr) from z) (by simp)) (by simp)
    |some u=>
     rcases hO b with z |⟨ob,xs,z⟩
     ·rw[q]at z;cases z
     ·have z2:=un.frzs b ob _ z;obtain⟨e1,_⟩:=hok b _ z;obtain⟨e2,_⟩:=hok' b _ z2;rw[e]at e1;cases e1;exact e2
 cases hk:K.lookup a with
 |some o=>
  have e:=KX a o hk;rw[ha]at e;cases e;refine core (λ_=>none) (λ_=>.inl rfl) (.inr ⟨_,vs.toArray,_,hk,U,U,U,by rw[YKQ,lenV];exact hl,by simpa using rv⟩) (λb u z=>by have z':(none:Option HO)=some u:=z;cases z') (λb z=>absurd rfl z) λz=>absurd rfl z
 |none=>
  refine core (λb=>if b=a then some (.frz { cls:=.type "list",data:=.seq vs.toArray } (.lst (ns.map V.int))) else none) (λb=>?_) (.inl (.inr ⟨{ cls:=.type "list",data:=.seq vs.toArray },if_pos rfl⟩)) (λb u z=>?_) (λb z=>?_) λ_=>hk
  ·by_cases hb:b=a
   ·exact .inr ⟨_,_,if_pos hb⟩
   ·exact .inl (if_neg hb)
  ·by_cases hb:b=a
   ·have z':=(if_pos hb).symm.trans z;cases z';subst hb;exact⟨ha,by rw[YKF];exact hl,vs,_,rv,ha⟩
   ·have z':=(if_neg hb).symm.trans z;cases z'
  ·by_cases hb:b=a
   ·exact hb
   ·exact absurd (if_neg hb) z
end L2
namespace L2
open PySem PySem.Spec PyProof.Rows
theorem walk_of {l:PySem.W.OpenLaw}{n k:Nat}{q:Program}{loose:List Str}{XP:(Str->Option Value)->Heap->Prop}{YP:World->Heap->Prop}{d:DefRec}{K:Params->W.Frag}{CX:World->CXT}{sp:World->Sp}{x:Str}
  (hn:l.most=some n) (hn2:n<=sizeLine) (hdf:d.params.defaults=[]) (hr:XL k callerA)
  (hY:∀(w:World) (h:Heap),YP w h->(K w.params).In h)
  (F:∀(w:World) (mg:Str->Option Value) (fa:Addr) (h:Heap),(K w.params).In h->h.Ns mainGlobals mg->mg d.name=some (.ref fa)->
   ∃fd:FuncData,(∀(s:Shared) (u:Value),BindsTo s fd ⟨[u],[]⟩ [(x,u)])/\
    ∀base:Heap,(K w.params).In base->base.Ns mainGlobals mg->Yz l.prog w (K w.params) mg base (CX w) k fa fd [x] (sp w))
  (hsp:∀(w:World) (H:Hp) (a:Addr) (ns:List Int),ns.length<=n->Only H->SqL (K w.params) H a (ns.map V.int)->sp w [.ref a] H (λv _=>v=.bl true) λ_ _ _=>False)
  (hCX:∀(w:World) (H:Hp) (s:Shared) (e:Value) (s':Shared),CX w [] H s (λ_ _ _=>False) e s'->False):
  PySem.W.WalkO q loose XP YP l.row.toRowW d [] (λf vs=>PySem.call f vs):=by
 refine Att.YFQ hn hdf λw s₀ s₁ mg mb fa o pm cd doc a vs ns G Y ho hd hcd yj vK rG hlen hg=>?_
 have KX:=hY w _ Y;obtain⟨fd,hb,hF⟩:=F w mg fa _ KX G.T.g yj;exact YJB KX G.T.g G.T.b G.T.builtins G.T.nolimit hg vK rG (YKq hlen hn2) hr hF hb (λH hO hS=>hsp w H a ns hlen hO hS) λH e s'=>hCX w H s₁ e s'
end L2
namespace L2
open PySem PySem.Spec PyProof.Rows
def J4 (s:Stmt):Arguments:=match s with
 |.FunctionDef _ a _ _ _ _ _ _ _ _=>a
 |_=>{ posonlyargs:=[],args:=[],vararg:=none,kwonlyargs:=[],kw_defaults:=[],kwarg:=none,defaults:=[] }
def JP (s:Stmt):List Stmt:=match s with
 |.FunctionDef _ _ b _ _ _ _ _ _ _=>b
 |_=>[]
def YJ (s:Stmt):Scope:=match s with
 |.FunctionDef _ _ _ _ _ _ sc _ _ _=>sc
 |_=>{ kind:=.function,names:=[],isGenerator:=false,isCoroutine:=false }
abbrev CX0:CXT:=λ_ _ _ _ _ _=>False
abbrev E0:XK:=λ_ _ _=>False
theorem Ye {X:Cx}:YCW CX0 X E0:=λ_ _ _ _ _ _ _ h=>h.elim
structure Fun (K:W.Frag) (x qual:Str) (st:Stmt) (f:Addr) (fd:FuncData):Prop where
 ex:∃(oc:Value) (od:Option Addr) (kV doc pm:Value) (an:Option Addr) (aK ct:Value) (osl:Array (Option Value)),
  fd=PySem.W.fnOf x qual (J4 st) (JP st) (YJ st) .none kV doc pm an aK ct/\K.lookup f=some ⟨oc,od,.func fd,osl⟩/\PySem.W.codeIn K aK qual=true
 kp:PySem.W.keepIn K (.ref f)=true
section
variable {P:Program}{w:World}{K:W.Frag}{mg:Str->Option Value}{base:Heap}
theorem Fun.ok {x qual:Str}{st:Stmt}{f:Addr}{fd:FuncData}{N ps:List Str}{k:Nat}{sp:Sp} (F:Fun K x qual st f fd) (S:YV N ps (YJ st)) (len:∀vs H Q E,sp vs H Q E->vs.length=ps.length)
  (hbody:∀(aK:Value) (A:Around) (outer:List Env) (s:Shared) (H:Hp) (vs:List V) (Q:VK) (E:XK),XL k (A.deeper (envOfC qual (YJ st) s.heap.objs.size f aK))->sp vs H Q E->
   ∃t,PSs (YBc CX0 P w K mg base N qual (YJ st) f aK A outer s H E).nox (JP st) t/\t { nx:=λ_ H'=>Q .non H',rt:=Q } (start N vs) H):Yz P w K mg base CX0 (k + 1) f fd ps sp:=by
 obtain⟨oc,od,kV,doc,pm,an,aK,ct,osl,rfl,lk,hcd⟩:=F.ex;refine fn_of lk hcd S len λA outer s H vs Q E hr hsp=>?_
 obtain⟨t,h,q⟩:=hbody aK A outer s H vs Q E hr hsp;exact⟨t,h.nox,q⟩
theorem Fun.binds {x qual:Str}{st:Stmt}{f:Addr}{fd:FuncData}{ps:List Str} (F:Fun K x qual st f fd)
  (h:∀(kV doc pm:Value) (an:Option Addr) (aK ct:Value) (us:List Value),us.length=ps.length->bindArgs (PySem.W.fnOf x qual (J4 st) (JP st) (YJ st) .none kV doc pm an aK ct) ⟨us,[]⟩=pure (ps.zip us)):YCV K fd ps []:=by
 obtain⟨oc,od,kV,doc,pm,an,aK,ct,osl,rfl,lk,hcd⟩:=F.ex;exact .all (h kV doc pm an aK ct)
theorem YJC {x qual:Str}{st:Stmt}{f:Addr}{oc:Value}{od an:Option Addr}{osl:Array (Option Value)}{kV doc pm aK ct:Value} (l:K.lookup f=some ⟨oc,od,.func (PySem.W.fnOf x qual (J4 st) (JP st) (YJ st) .none kV doc pm an aK ct),osl⟩)
  (c:PySem.W.codeIn K aK qual=true) (k:PySem.W.keepIn K (.ref f)=true):Fun K x qual st f (PySem.W.fnOf x qual (J4 st) (JP st) (YJ st) .none kV doc pm an aK ct):=⟨⟨oc,od,kV,doc,pm,an,aK,ct,osl,U,l,c⟩,k⟩
end
theorem Jh {A:Around}{k:Nat} (hr:XL k A):A.units + 1 < cLine:=Nat.lt_of_le_of_lt (Nat.add_le_add_left (by decide:1<=64) _) hr.units
section
variable {X:Cx}
theorem pv (i:Nat) {x:Str}{pos:Pos} (hN:X.N[i]?=some x:=by rfl) (hv:Vis X.env.scope x:=by first |exact Or.inl rfl |exact Or.inr (Or.inl rfl) |exact Or.inr (Or.inr rfl)) (hd:(x == ("__debug__":Str))=false:=by decide)
  (hcd:(x == ("__classdict__":Str))=false:=by decide):PE X (.Name x pos) (tVar i):=pe_var hN hv hd hcd
end
theorem Y5 {A B:Prop} (h:B):if false=true then A else B:=by
 rw[if_neg YKZ];exact h
theorem Z6 {A B:Prop} (h:A):if true=true then A else B:=by
 rw[if_pos rfl];exact h
theorem XM {c A B:Prop} [Decidable c] (h1:c->A) (h2:¬c->B):if c then A else B:=by
 by_cases h:c
 ·rw[if_pos h];exact h1 h
 ·rw[if_neg h];exact h2 h
def YH (H H':Hp):Prop:=∀b o,H b=some o->H' b=some o
theorem YH.refl (H:Hp):YH H H:=λ_ _ h=>h
theorem YH.trans {H H1 H2:Hp} (a:YH H H1) (b:YH H1 H2):YH H H2:=λc o h=>b c o (a c o h)
theorem YH.free {H H':Hp} (e:YH H H') {l:Addr} (h:H' l=Option.none):H l=Option.none:=by
 cases q:H l with
 |none=>rfl
 |some o=>
  rw[e l o q]at h;cases h
theorem YH.seq {K:W.Frag}{H H':Hp}{a:Addr}{xs:List V} (e:YH H H') (h:SqL K H a xs):SqL K H' a xs:=by
 rcases h with (h |⟨o,h⟩) |h
 ·exact .inl (.inl (e _ _ h))
 ·exact .inl (.inr ⟨o,e _ _ h⟩)
 ·exact .inr h
end L2
set_option maxHeartbeats 4000000
namespace L2
open PySem PySem.Spec PyProof.Rows
theorem Yq.at_ {P:Program}{w:World}{H:Hp}{h:Heap}{a:Addr}{o:HO} (x:Yq P w H h a o):∃u,h.get? a=some u:=by
 cases o with
 |lst xs=>obtain⟨_,_,_,_,e⟩:=x;exact⟨_,e⟩
 |tup xs=>obtain⟨_,_,_,o,e,_⟩:=x;exact⟨_,e⟩
 |dK kvs=>obtain⟨_,_,_,_,o,_,_,e,_⟩:=x;exact⟨_,e⟩
 |dT kvs=>obtain⟨_,_,_,_,o,_,_,e,_⟩:=x;exact⟨_,e⟩
 |set S n=>obtain⟨o,_,_,_,e,_⟩:=x;exact⟨_,e⟩
 |ins C dx fs=>obtain⟨_,_,_,e,_⟩:=x;exact⟨_,e⟩
 |own y=>obtain⟨o,e⟩:=x;exact⟨_,e⟩
 |xd fs=>obtain⟨_,⟨o,_,_,e,_⟩,_⟩:=x;exact⟨_,e⟩
 |rng lo hi=>obtain⟨_,_,_,e⟩:=x;exact⟨_,e⟩
 |frz ob u=>obtain⟨e,_⟩:=x;exact⟨_,e⟩
 |tbl ps=>exact⟨_,(show h.get? a=some _ from x)⟩
 |met f y=>exact⟨_,(show h.get? a=some _ from x)⟩
 |ext φ=>obtain⟨_,e,_⟩:=x;exact e
structure Fly (P:Program) (w:World) (l:List Env) (H:Hp) (s:Shared) (e:Addr) (cls:Value) (H':Hp) (s':Shared):Prop where
 os:s'.os=s.os
 bare:AllBare s'.gens
 un:Un (frs l) [] H H' s.heap s'.heap
 hok:HOk P w H' s'.heap
 new:H' e=none
 fly:∃B a0,Heap.FlyingW B l e cls a0 s'.heap/\(∀b u,H' b=some u->∃o,B.get? b=some o)/\∀b o,s.heap.get? b=some o->b∉frs l->∃o',B.get? b=some o'
def CXo (P:Program) (w:World):CXT:=λl H s E ev s'=>∃e cls H',ev=.ref e/\Fly P w l H s e cls H' s'/\E cls none H'
theorem YGX {fs:List Addr}{H H':Hp}{h h' h'' B:Heap} (un:Un fs [] H H' h h') (sB:B.StaysIn h') (sB':B.StaysIn h'') (up:h'.UpToSlots h'')
  (fr:∀b∈fs,∃o,h'.get? b=some o/\∀vs,o.data≠.fields vs) (old:∀b o,h.get? b=some o->b∉fs->∃o',B.get? b=some o'):Un fs [] H H' h h'' where
 keep:=λb o q n hb hx=>by
  have e1:=un.keep b o q n hb hx;obtain⟨o',eB⟩:=old b o q hb;have e2:=sB b o' eB;rw[e1]at e2;cases e2;exact sB' b o eB
 slot:=λb o q n hb hx=>by
  obtain⟨sl,e1⟩:=un.slot b o q n hb hx;obtain⟨o',e2,nf⟩:=fr b hb;rw[e1]at e2;cases e2;obtain⟨uJ,e3⟩:=up b _ e1 nf;exact⟨uJ,e3⟩
 free:=un.free
 there:=λb o q hx=>by
  by_cases hb:b∈fs
  ·obtain⟨o',e2,nf⟩:=fr b hb;obtain⟨uJ,e3⟩:=up b _ e2 nf;exact⟨_,e3⟩
  ·obtain⟨o',eB⟩:=old b o q hb;exact⟨o',sB' b o' eB⟩
 tups:=un.tups
 frzs:=un.frzs
 tbls:=un.tbls
theorem YEj {P:Program}{w:World}{H:Hp}{h h' B:Heap} (ok:HOk P w H h) (sB:B.StaysIn h) (sB':B.StaysIn h') (tr:∀b u,H b=some u->∃o,B.get? b=some o):HOk P w H h':=λa o ea=>
 (ok a o ea).stay (λb u hb eb=>by
  have tb:∃v,H b=some v:=hb.elim (λz=>⟨o,by rw[z];exact ea⟩) λz=>⟨_,z⟩
  obtain⟨v,hv⟩:=tb;obtain⟨o',eB⟩:=tr b v hv;have e2:=sB b o' eB;rw[eb]at e2;cases e2;exact sB' b u eB) (λ_ z=>z) λ_ _ z=>z
theorem YJD {fs ww:List Addr}{L:Addr}{H H1 H2:Hp}{h h1 h2:Heap} (a:Un fs [] H H1 h h1) (b:Un ww [] H1 H2 h1 h2) (sub:∀x∈ww,x=L\/x∈fs) (sup:∀x∈fs,x∈ww) (hL:h.objs.size<=L):Un fs [] H H2 h h2:=by
 have nL:∀c o,h.get? c=some o->c≠L:=λc o q z=>absurd (YKS q) (by rw[z];exact Nat.not_lt.mpr hL)
 have no:∀c o,h.get? c=some o->c∉fs->c∉ww:=λc o q n z=>(sub c z).elim (nL c o q) n
 exact⟨λc o q n hc hx=>b.keep c o (a.keep c o q n hc hx) (a.free c o q n hx) (no c o q hc) hx,
  λc o q n hc hx=>by
   obtain⟨sl,e1⟩:=a.slot c o q n hc hx;obtain⟨uJ,e2⟩:=b.slot c _ e1 (a.free c o q n hx) (sup c hc) hx;exact⟨uJ,e2⟩,
  λc o q n hx=>by
   obtain⟨o',e1⟩:=a.there c o q hx;exact b.free c o' e1 (a.free c o q n hx) hx,
  λc o q hx=>by
   obtain⟨o',e1⟩:=a.there c o q hx;exact b.there c o' e1 hx,
  λc xs q=>b.tups c xs (a.tups c xs q),λc ob xs q=>b.frzs c ob xs (a.frzs c ob xs q),
  λc ps q=>by
   obtain⟨m1,e1⟩:=a.tbls c ps q;obtain⟨m2,e2⟩:=b.tbls c _ e1;exact⟨m1 ++ m2,by rw[e2,Array.append_assoc]⟩⟩
structure Sink (X:Cx) (E:XK):Prop where
 made:∀(pins:List (Addr×Obj)) (σ:St) (H:Hp) (s:Shared) (e:Addr) (cls:Value) (args:List Value) (h':Heap),Inv X pins σ H s->Heap.MadeExcOf s.heap h' e cls args->E cls none H->X.xe (.ref e) { s with heap:=h' }
 on:YCW (CXo X.prog X.w) X E
theorem YIE {X:Cx}{pins:List (Addr×Obj)}{σ:St}{H:Hp}{s:Shared} (I:Inv X pins σ H s):
  (PySem.W.hideAll s.heap (frs X.stack)).StaysIn s.heap/\s.heap.FunFrames (PySem.W.hideAll s.heap (frs X.stack)) X.stack/\(∀b o,s.heap.get? b=some o->b∉frs X.stack->(PySem.W.hideAll s.heap (frs X.stack)).get? b=some o)/\
   ∀b u,H b=some u->∃o,(PySem.W.hideAll s.heap (frs X.stack)).get? b=some o:=by
 refine⟨λb o q=>PySem.W.of_hideAll _ q,PySem.W.funFrames_hide I.stack λenv he b hb=>YLy.mpr ⟨env,he,hb⟩,λb o q hb=>PySem.W.hideAll_get _ q hb,λb u q=>?_⟩;obtain⟨o,ho⟩:=(I.hok b u q).at_;exact⟨o,PySem.W.hideAll_get _ ho λz=>by rw[I.stkFree b z]at q;cases q⟩
theorem XO {P:Program}{w:World}{K:W.Frag}{mg:Str->Option Value}{base:Heap}{N:List Str}{qual:Str}{scope:Scope}{f:Addr}{cd:Value}{A:Around}{outer:List Env}{s:Shared}{H:Hp}{E:XK}:
  Sink (YBc (CXo P w) P w K mg base N qual scope f cd A outer s H E) E where
 made:=by
  intro pins σ H1 s1 e cls args h' I hx hE;obtain⟨sB,ff,inB,tr⟩:=YIE I;show wpAny _ _ (leaving _ (.ref e)) _ _ _;refine wpAny_leaves_madeW (base:=PySem.W.hideAll s1.heap (frs (YBc (CXo P w) P w K mg base N qual scope f cd A outer s H E).stack)) (h:=s1.heap) I.ok.frames rfl sB ff hx λh'' t x1 x2 x3 x4=>?_
  have sB1:(PySem.W.hideAll s1.heap (frs (YBc (CXo P w) P w K mg base N qual scope f cd A outer s H E).stack)).StaysIn h':=λb o q=>hx.keeps b o (sB b o q)
  have ym:Un (frs outer) [] H H1 s.heap s1.heap:=I.base;have old:∀b o,s.heap.get? b=some o->b∉frs outer->∃o',(PySem.W.hideAll s1.heap (frs (YBc (CXo P w) P w K mg base N qual scope f cd A outer s H E).stack)).get? b=some o':=λb o q hb=>by
   obtain⟨o',e1⟩:=ym.there b o q (by simp);refine⟨o',inB b o' e1 λz=>?_⟩;rcases YKT.mp (I.stkSub b z) with z |z
   ·exact absurd (YKS q) (by rw[z];exact YLB _)
   ·exact hb z
  have fr:∀b∈frs outer,∃o,h'.get? b=some o/\∀vs,o.data≠.fields vs:=λb hb=>by
   obtain⟨_,o,ho,nf⟩:=I.funs.mem hb;exact⟨o,hx.keeps b o ho,nf⟩
  refine⟨e,cls,H1,U,⟨I.os,I.bare,YGX (ym.trans (Un.kept hx.keeps)) sB1 x1.1 x4 fr old,YEj (I.hok.kept hx.keeps) sB1 x1.1 tr,?_,_,_,x1,tr,old⟩,hE⟩;cases q:H1 e with
  |none=>rfl
  |some u=>
   obtain⟨o,ho⟩:=(I.hok e u q).at_;rw[hx.new]at ho;cases ho
 on:=by
  intro pins σ H1 s1 ev s' I yo;obtain⟨e,cls,H',rfl,F,hE⟩:=yo;obtain⟨B,a0,fl,tr,old⟩:=F.fly;show wpAny _ _ (leaving _ (.ref e)) _ _ _;refine wpAny_leaves_onW I.ok.frames rfl fl λh'' x1 x4=>?_
  have ym:Un (frs outer) [] H H1 s.heap s1.heap:=I.base;have sub:∀x∈frs (YBc (CXo P w) P w K mg base N qual scope f cd A outer s H E).stack,x=s.heap.objs.size\/x∈frs outer:=λx hx=>YKT.mp (I.stkSub x hx)
  have sup:∀x∈frs outer,x∈frs (YBc (CXo P w) P w K mg base N qual scope f cd A outer s H E).stack:=λx hx=>YKY _ hx
  have Rk:Un (frs outer) [] H H' s.heap s'.heap:=YJD ym F.un sub sup (YKH _);have yp:∀b o,s.heap.get? b=some o->b∉frs outer->∃o',B.get? b=some o':=λb o q hb=>by
   obtain⟨o',e1⟩:=ym.there b o q (by simp);refine old b o' e1 λz=>?_
   rcases sub b z with z |z
   ·exact absurd (YKS q) (by rw[z];exact YLB _)
   ·exact hb z
  have fr:∀b∈frs outer,∃o,s'.heap.get? b=some o/\∀vs,o.data≠.fields vs:=λb hb=>by
   obtain⟨_,o,ho,nf⟩:=fl.2.2.1.mem (sup b hb);exact⟨o,ho,nf⟩
  exact⟨e,cls,H',U,⟨F.os.trans I.os,F.bare,YGX Rk fl.1 x1.1 x4 fr yp,YEj F.hok fl.1 x1.1 tr,F.new,B,a0,x1,tr,yp⟩,hE⟩
abbrev bmV:List Value:=[.type "ValueError",.type "Exception",.type "BaseException",.type "object"]
abbrev newV:String:="ValueError.__new__"
def Exc (K:W.Frag) (C:Addr):Prop:=PySem.W.excIn K C bmV newV=true
theorem YEk {K:W.Frag}{h:Heap}{C:Addr}{bmB:List Value}{newId:String} (X:K.In h) (q:PySem.W.excIn K C bmB newId=true):
  ∃bm N nm qn bs hdct sn sub ab col dd k0 k1 k2 k3 k5 mN,h.get? C=some (excClassObj nm qn C N bs bm hdct sn sub ab col dd k0 k1 k2 k3 k5 newId)/\h.Ns N mN/\mN "__init__"=none/\OwnTail h bmB bm:=by
 unfold PySem.W.excIn at q;split at q
 ·rename_i dd cd sl ho
  split at q
  ·rename_i C' bm k0 k1 k2 k3 n k5 hm hs
   simp only[YKM,beq_iff_eq,Bool.not_eq_true']at q;obtain⟨⟨⟨⟨⟨rfl,rfl⟩,hdel⟩,ht⟩,hok⟩,hni⟩:=q;obtain⟨nm,bs,mro,ns,qn,hd,sn,sub,ab,col,del⟩:=cd;dsimp only at hm hdel hok hni;subst hm hdel;have hsl:sl=#[k0,k1,k2,k3,some (.builtin n),k5]:=by
    obtain⟨l⟩:=sl;simp only at hs;rw[hs]
   subst hsl;exact⟨bm,ns,nm,qn,bs,hd,sn,sub,ab,col,dd,k0,k1,k2,k3,k5,_,X _ _ ho,.of_isNs (PySem.W.isNs_of_in X hok),PySem.W.nsMap_none_of_in X hok hni,PySem.W.tail_of_in X ht⟩
  ·cases q
 ·cases q
section
variable {X:Cx}{E:XK}{x:Str}{C:Addr}{e:Expr}{t:TA}{np bj pos:Pos}
def tRaise (C:Addr) (E:XK) (t:TA):TS:=λ_ σ H=>t σ H λvs H1=>vs.length<=sizeLine/\E (.ref C) none H1
theorem YCd (S:Sink X E) (hq:Exc X.K C) (hc:X.calm=true) (hg:Gl X x) (hm:X.mg x=some (.ref C)) (ha:PA X [e] t) (hd:(x == ("__debug__":Str))=false:=by decide)
  (he:starEach [e] X.env=(false,eval e X.env) :: starEach [] X.env:=by rfl) (ju:(backTo bj (starEach [] X.env)).any (·.1)=false:=by rfl):
  PS X (.Raise (some (.Call (.Name x np) [e] [] bj)) none pos) (tRaise C E t):=by
 intro pins s σ H D I h;obtain⟨tl,N,nm,q,bs,hdct,sn,sub,ab,col,dd,k0,k1,k2,k3,k5,mN,hC,hN,hni,T⟩:=YEk I.mod.kin hq;refine wpAny_Raise_call_subT (C:=C) (nm:=nm) (q:=q) (N:=N) (bs:=bs) (bm:=tl) (hdct:=hdct) (sn:=sn) (sub:=sub) (ab:=ab) (col:=col) (dd:=dd) (k0:=k0) (k1:=k1) (k2:=k2) (k3:=k3) (k5:=k5)
  PySem.F.excBase_ValueError (mN:=mN) (T.hasType PySem.F.excBase_ValueError.hasBase) (I.ok.hd hc) (by rw[he];show(false || (backTo bj (starEach [] X.env)).any (·.1))=false;rw[ju];rfl) hni (YAI I hg hm ⟨U,?_⟩ hd)
 have hA:=ha bj pins s σ H _ I h;rw[he]at hA ⊢;refine Calls.evalArgs_plain (thn hA λus s2 ⟨vs,H2,I2,r,hz,hE⟩=>⟨U,by rw[<-r.length];exact hz,I2.bk _ _ hC,hN.keeps I2.bk,T.keeps I2.bk,λh' e Rm=>?_⟩);exact S.made pins σ H2 s2 e _ _ h' I2 Rm hE
end
end L2
namespace L2
open PySem PySem.Spec PyProof.Rows
def XP (X:Cx) (pins:List (Addr×Obj)) (σ:St) (E:XK) (ev:Value) (s':Shared):Prop:=∃(e:Addr) (cls:Value) (H':Hp) (B:Heap) (a0:Value),ev=.ref e/\Inv X pins σ H' s'/\Heap.FlyingW B X.stack e cls a0 s'.heap/\H' e=none/\
 (∀b u,H' b=some u->∃o,B.get? b=some o)/\(∀b o,X.s₀.heap.get? b=some o->b∉frs X.stack->b∉X.ex->∃o',B.get? b=some o')/\(∀p∈X.pn ++ pins,∃o',B.get? p.1=some o')/\E cls none H'
section
variable {X:Cx}{pins:List (Addr×Obj)}{σ:St}{H:Hp}{s s':Shared}{E:XK}
theorem Inv.notStk (I:Inv X pins σ H s) {b:Addr} (h1:b≠X.env.locals) (h2:b∉X.fs):b∉frs X.stack:=λhb=>(YKT.mp (I.stkSub b hb)).elim h1 h2
theorem xp_of {ev:Value} (I:Inv X pins σ H s) (yo:CXo X.prog X.w X.stack H s E ev s'):XP X pins σ E ev s':=by
 obtain⟨e,cls,H',rfl,F,hE⟩:=yo;obtain⟨B,a0,fl,tr,old⟩:=F.fly;refine⟨e,cls,H',B,a0,U,I.call' (ch:=[]) F.os F.un F.hok F.bare (λb z=>absurd z (by simp)),fl,F.new,tr,λb o q hb hx=>?_,λp hp=>?_,hE⟩
 ·obtain⟨o',e1⟩:=I.base.there b o q hx;exact old b o' e1 hb
 ·obtain⟨p1,_,p3,p4,_⟩:=I.pin p hp;exact old _ _ p1 (I.notStk p3 p4)
theorem Inv.moved {B h':Heap} (I:Inv X pins σ H s) (hex:X.ex=[]) (sB:B.StaysIn s.heap) (sB':B.StaysIn h') (up:s.heap.UpToSlots h') (tr:∀b u,H b=some u->∃o,B.get? b=some o)
  (old:∀b o,X.s₀.heap.get? b=some o->b∉frs X.stack->b∉X.ex->∃o',B.get? b=some o') (pn:∀p∈X.pn ++ pins,∃o',B.get? p.1=some o'):Inv X pins σ H { s with heap:=h' }:=by
 have cells:∀c v,s.heap.IsCell c v->h'.IsCell c v:=λc v ⟨o,ho,hd⟩=>by
  obtain⟨sl,e1⟩:=up c o ho λvs z=>by rw[hd]at z;cases z
  exact⟨_,e1,hd⟩
 obtain⟨m,hn,hl⟩:=I.loc;refine⟨I.ok,I.os,I.bare,?_,⟨m,up.ns hn,λi x v h1 h2 h3=>?_⟩,λx c h1=>?_,I.free,I.freeC,λp hp=>?_,YEj I.hok sB sB' tr,I.len⟩
 ·have hb:=I.base;rw[hex]at hb ⊢;refine YGX hb sB sB' up (λb hb=>?_) λb o q hb=>old b o q (I.notStk (λz=>?_) hb) (by rw[hex];simp)
  ·obtain⟨_,o,ho,nf⟩:=I.funs.mem hb;exact⟨o,ho,nf⟩
  ·exact absurd (YKS q) (by rw[z];exact Nat.not_lt.mpr I.ok.above)
 ·obtain⟨u,ru,lk⟩:=hl i x v h1 h2 h3;exact⟨u,ru,lk.elim .inl λ⟨k,c,hc,eX⟩=>.inr ⟨k,c,hc,cells c _ eX⟩⟩
 ·obtain⟨v,hv⟩:=I.cell x c h1;exact⟨v,cells c v hv⟩
 ·obtain⟨p1,p2⟩:=I.pin p hp;obtain⟨o',eB⟩:=pn p hp;have e2:=sB _ _ eB;rw[p1]at e2;cases e2;exact⟨sB' _ _ eB,p2⟩
def xO (e:Addr) (cls:Value):HO:=.ext λh=>∃oe,h.get? e=some oe/\oe.cls=cls
theorem Inv.track {e:Addr}{cls:Value}{oe:Obj}{vs:Array Value} (I:Inv X pins σ H s) (hex:X.ex=[]) (new:H e=none) (he:s.heap.get? e=some oe) (hc:oe.cls=cls) (hd:oe.data=.fields vs) (hs:∀o,X.s₀.heap.get? e≠some o) (hp:∀p∈X.pn ++ pins,p.1≠e):
  Inv X pins σ (upd H e (xO e cls)) s:=by
 have hL:X.env.locals≠e:=λz=>by
  obtain⟨m,⟨o,es,ep,ho,hd',_⟩,_⟩:=I.loc;rw[z,he]at ho;cases ho;rw[hd]at hd';cases hd'
 have hC:∀x c,X.env.cells.lookup x=some c->c≠e:=λx c h1 z=>by
  obtain⟨v,o,ho,hd'⟩:=I.cell x c h1;rw[z,he]at ho;cases ho;rw[hd]at hd';cases hd'
 refine⟨I.ok,I.os,I.bare,?_,I.loc,I.cell,by rw[YN hL];exact I.free,λx c h1=>by rw[YN (hC x c h1)];exact I.freeC x c h1,λp hp'=>?_,λa o ea=>?_,I.len⟩
 ·exact⟨I.base.keep,I.base.slot,λb o q n hx=>by rw[YN (λz=>hs o (by rw[<-z];exact q))];exact I.base.free b o q n hx,I.base.there,
   λb xs q=>by have z:=I.base.tups b xs q;rw[YN (Yh z new)];exact z,λb ob u q=>by have z:=I.base.frzs b ob u q;rw[YN (Yh z new)];exact z,
   λb ps q=>by obtain⟨mo,z⟩:=I.base.tbls b ps q;exact⟨mo,by rw[YN (Yh z new)];exact z⟩⟩
 ·obtain⟨p1,p2,p3⟩:=I.pin p hp';exact⟨p1,by rw[YN (hp p hp')];exact p2,p3⟩
 ·by_cases ha:a=e
  ·subst ha;rw[YC]at ea;cases ea;exact⟨⟨oe,he,hc⟩,⟨oe,he⟩,λh1 h2 ⟨o,q1,q2⟩ k=>⟨o,k o q1,q2⟩⟩
  ·rw[YN ha]at ea;exact(I.hok a o ea).stay (λ_ _ _ q=>q) (λb q=>by rw[YN (Yh q new)];exact q) λb xs q=>by rw[YN (Yh q new)];exact q
theorem Inv.gone {i:Nat}{n:Str}{h':Heap}{t':Nat}{m:Str->Option Value}{v:Option Value} (I:Inv X pins σ H s) (hN:X.N.Nodup) (hi:X.N[i]?=some n) (hn:s.heap.Ns X.env.locals m)
  (hl:∀(i:Nat) (x:Str) (v:V),X.N[i]?=some x->σ[i]?=some (some v)->Vis X.env.scope x->∃u,Yk v u/\Look X.env s.heap m x u)
  (hn':h'.Ns X.env.locals (λx=>if x=n then v else m x)) (sb:Heap.SameBut X.env.locals s.heap h'):Inv X pins (σ.set i none) H { s with heap:=h',toks:=t' }:=by
 have iH:∀b o,b≠X.env.locals->s.heap.get? b=some o->h'.get? b=some o:=λb o hb q=>(sb.2 b hb).trans q
 have old:∀b o,X.s₀.heap.get? b=some o->b≠X.env.locals:=λb o q z=>absurd (YKS q) (by rw[z];exact Nat.not_lt.mpr I.ok.above)
 refine⟨I.ok,I.os,I.bare,?_,⟨_,hn',λj x w h1 h2 h3=>?_⟩,λx c h1=>?_,I.free,I.freeC,λp hp=>?_,λa o ea=>?_,by rw[YLZ];exact I.len⟩
 ·refine⟨λb o q n1 n2 n3=>iH b o (old b o q) (I.base.keep b o q n1 n2 n3),λb o q n1 n2 n3=>?_,I.base.free,λb o q n1=>?_,I.base.tups,I.base.frzs,I.base.tbls⟩
  ·obtain⟨sl,z⟩:=I.base.slot b o q n1 n2 n3;exact⟨sl,iH b _ (old b o q) z⟩
  ·obtain⟨o',z⟩:=I.base.there b o q n1;exact⟨o',iH b _ (old b o q) z⟩
 ·have wA:j≠i:=λz=>by
   subst z;rw[List.getElem?_set]at h2;rw[if_pos rfl]at h2;split at h2 <;> cases h2
  rw[List.getElem?_set_ne (Ne.symm wA)]at h2;obtain⟨u,ru,lk⟩:=hl j x w h1 h2 h3;refine⟨u,ru,lk.elim (λ⟨k,hm⟩=>.inl ⟨k,?_⟩) λ⟨k,c,hc,o,ho,hd⟩=>.inr ⟨k,c,hc,o,iH c o (I.cne x c hc) ho,hd⟩⟩;have hx:x≠n:=λz=>wA (YCS hN h1 (by rw[z];exact hi))
  show(if x=n then v else m x)=some u;rw[if_neg hx];exact hm
 ·obtain⟨w,o,ho,hd⟩:=I.cell x c h1;exact⟨w,o,iH c o (I.cne x c h1) ho,hd⟩
 ·obtain⟨p1,p2,p3,p4⟩:=I.pin p hp;exact⟨iH _ _ p3 p1,p2,p3,p4⟩
 ·refine(I.hok a o ea).stay (λb u hb q=>iH b u (λz=>?_) q) (λ_ z=>z) λ_ _ z=>z
  rcases hb with rfl |hb
  ·rw[z,I.free]at ea;cases ea
  ·rw[z,I.free]at hb;cases hb
end
def PEX (X:Cx) (e:Expr) (t:St->Hp->VK->XK->Prop):Prop:=
 ∀(pins:List (Addr×Obj)) (s:Shared) (σ:St) (H:Hp) (Q:VK) (E:XK),Inv X pins σ H s->t σ H Q E->wpAny (model X.prog X.w) X.A (eval e X.env) (EP X pins σ Q) (XP X pins σ E) s
def PSX (X:Cx) (st:Stmt) (t:Z3->(St->XK)->St->Hp->Prop):Prop:=
 ∀(pins:List (Addr×Obj)) (s:Shared) (σ:St) (H:Hp) (D:Z3) (E:St->XK),Inv X pins σ H s->t D E σ H->wpAny (model X.prog X.w) X.A (exec st X.env) (SP X pins D) (λev s'=>∃σ',XP X pins σ' (E σ') ev s') s
def PSXs (X:Cx) (sts:List Stmt) (t:Z3->(St->XK)->St->Hp->Prop):Prop:=
 ∀(pins:List (Addr×Obj)) (s:Shared) (σ:St) (H:Hp) (D:Z3) (E:St->XK),Inv X pins σ H s->t D E σ H->wpAny (model X.prog X.w) X.A (execs sts X.env) (SP X pins D) (λev s'=>∃σ',XP X pins σ' (E σ') ev s') s
section
variable {X:Cx}{k:Nat}{f:Addr}{fd:FuncData}{ps:List Str}{sp:Sp}{nG:List V}{ds:List Value}{x:Str}{p pos:Pos}{e:Expr}{es:List Expr}{t:TA}
def tCallX (sp:Sp) (nG:List V) (t:TA):St->Hp->VK->XK->Prop:=λσ H Q E=>t σ H λvs H1=>sp (vs ++ nG) H1 Q E
theorem YFR (F:Yz X.prog X.w X.K X.mg X.base (CXo X.prog X.w) k f fd ps sp) (hr:XL k X.A) (hg:Gl X x) (hm:X.mg x=some (.ref f)) (hk:PySem.W.keepIn X.K (.ref f)=true) (hb:YCV X.K fd ps ds) (hd:Yi nG ds)
  (ha:PA X.nox (e :: es) t) (hdb:(x == ("__debug__":Str))=false:=by decide) (he:starEach (e :: es) X.env=(false,eval e X.env) :: starEach es X.env:=by rfl) (hpl:(backTo pos (starEach es X.env)).any (·.1)=false:=by rfl):
  PEX X (.Call (.Name x p) (e :: es) [] pos) (tCallX sp nG t):=by
 intro pins s σ H Q E I h;refine wpAny_Call_Name_kw (YAI I hg hm ?_ hdb);refine PySem.W.callWith_K (h₀:=X.base) I.ok.mod.kin hk (wpAny_mono (ha pos pins s σ H _ (I.wish _) h) (λus s1 ⟨vs,H1,I1,r,q⟩=>⟨I1.unwish.kIn,?_⟩) λ_ _ z=>z.elim) he hpl;have I1':Inv X pins σ H1 s1:=I1.unwish;have r2:Yi (vs ++ nG) (us ++ ds):=r.append hd;have hl:(us ++ ds).length=ps.length:=by rw[<-r2.length];exact F.len _ _ _ _ q
 refine wpAny_call (codeAny_mono (F.run X.A X.stack s1 H1 ⟨us,[]⟩ (us ++ ds) (vs ++ nG) Q E hr I1'.env0 (hb s1 us I1'.kIn hl) r2 q) λr s' hq=>?_);cases r with
 |error ev=>exact xp_of I1' hq
 |ok fl=>
  cases fl with
  |ret u=>exact I1'.after hq
  |next=>exact False.elim hq
  |brk=>exact False.elim hq
  |cont=>exact False.elim hq
variable {te:St->Hp->VK->XK->Prop}
def tSetX (i:Nat) (te:St->Hp->VK->XK->Prop):Z3->(St->XK)->St->Hp->Prop:=λD E σ H=>te σ H (λv H1=>D.nx (σ.set i (some v)) H1) (E σ)
theorem psx_set {i:Nat}{ig:Pos} (hN:X.N.Nodup) (hi:X.N[i]?=some x) (hx:Loc X.env.scope x) (he:PEX X e te) (hs:swapsWith e (some (.Name x ig)) pos.line X.env=pure false:=by rfl)
  (hf:X.fn x=true\/X.env.scope.names.lookup x=some .local:=by first |exact .inl rfl |exact .inr rfl |assumption):PSX X (.Assign [.Name x ig] e pos) (tSetX i te):=by
 intro pins s σ H D E I h;refine wpAny_Assign_Name (wpAny_mono (he pins s σ H _ _ I h) (λv s1 ⟨y,H1,I1,r1,q1⟩=>?_) λev s1 q=>⟨σ,q⟩) hs;exact XI I1 hN hi hx r1 (λs2 I2=>⟨_,H1,I2,q1⟩) hf
def tExprX (te:St->Hp->VK->XK->Prop):Z3->(St->XK)->St->Hp->Prop:=λD E σ H=>te σ H (λ_ H1=>D.nx σ H1) (E σ)
theorem YJE (he:PEX X e te) (hs:swapsWith e none pos.line X.env=pure false:=by rfl):PSX X (.Expr e pos) (tExprX te):=by
 intro pins s σ H D E I h;exact wpAny_Expr_any (wpAny_mono (he pins s σ H _ _ I h) (λv s1 ⟨x,H1,I1,r1,q1⟩=>⟨σ,H1,I1,q1⟩) λev s1 q=>⟨σ,q⟩) I.quiet hs
theorem YFS {st:Stmt}{t:Z3->(St->XK)->St->Hp->Prop} (h:PSX X st t):PSXs X [st] t:=by
 intro pins s σ H D E I hw;refine wpAny_execs_cons (thn (h pins s σ H D E I hw) λf s1 q=>?_);cases f with
 |next=>exact wpAny_execs_nil q
 |ret v=>exact q
 |brk=>exact q
 |cont=>exact q
end
abbrev Cx.caught (X:Cx) (e:Addr):Cx:={ X with A:=X.A.mark (some (.ref e)),calm:=false,xe:=λ_ _=>False }
section
variable {X:Cx}{pins:List (Addr×Obj)}{σ:St}{H:Hp}{s:Shared}
theorem Inv.caught (I:Inv X pins σ H s) (e:Addr):Inv (X.caught e) pins σ H s:=
 ⟨⟨I.ok.mod,I.ok.kind,I.ok.glob,I.ok.blt,I.ok.above,I.ok.inj,I.ok.has,I.ok.cab,λz=>absurd (show false=true from z) YKZ,I.ok.frames,I.ok.stk,I.ok.exf,I.ok.bs,I.ok.bsz,I.ok.noex,I.ok.exfs,I.ok.funs,I.ok.frf⟩,I.os,I.bare,I.base,I.loc,I.cell,I.free,I.freeC,I.pin,I.hok,I.len⟩
theorem Inv.uncaught {e:Addr} (ok:X.Ok) (I:Inv (X.caught e) pins σ H s):Inv X pins σ H s:=⟨ok,I.os,I.bare,I.base,I.loc,I.cell,I.free,I.freeC,I.pin,I.hok,I.len⟩
end
def tTry (K:W.Frag) (C:Addr) (i:Nat) (tb:Z3->(St->XK)->St->Hp->Prop) (ts:TS):TS:=λD σ H=>tb D (λσ' cls _ H'=>PySem.W.exmOne K cls (.ref C)=some true/\∀e,H' e=none->
 ts { nx:=λσ2 H2=>D.nx (σ2.set i none) H2,rt:=D.rt,bk:=λσ2 H2=>D.bk (σ2.set i none) H2,ct:=λσ2 H2=>D.ct (σ2.set i none) H2 } (σ'.set i (some (.ref e))) (upd H' e (xO e cls))) σ H
theorem ps_try {X:Cx}{body suite:List Stmt}{b₀:Stmt}{y n:Str}{C:Addr}{i:Nat}{np hpos pos:Pos}{tb:Z3->(St->XK)->St->Hp->Prop}{ts:TS} (hex:X.ex=[]) (hst:X.stack=X.env :: X.outer) (hfr:X.env.frame=some X.env.locals)
  (hb:PSXs X body tb) (hN:X.N.Nodup) (hi:X.N[i]?=some n) (hn:X.env.scope.names.lookup n=some .local) (hg:Gl X y) (hm:X.mg y=some (.ref C)) (hs:∀e,PSs (X.caught e) (b₀ :: suite) ts)
  (hd:(y == ("__debug__":Str))=false:=by decide):
  PS X (.Try body [.ExceptHandler (some (.Name y np)) (some n) (b₀ :: suite) hpos] [] [] pos) (tTry X.K C i tb ts):=by
 intro pins s σ H D I h;refine wpAny_Try_except (wpAny_mono (hb pins s σ H _ _ I h) (λf s1 q=>?_) λev s1 q=>?_)
 ·cases f with
  |next=>exact wpAny_execs_nil q
  |ret v=>exact q
  |brk=>exact q
  |cont=>exact q
 ·obtain⟨σ',e,cls,H',B,a0,rfl,I1,fl,new,tr,old,pn,hm1,Qf⟩:=q;have yq:=fl;rw[hst]at yq;refine wpAny_looks_onW (I1.ok.frames.trans (by rw[hst])) hfr yq λh4 qG Qg=>?_
  refine wpAny_landsW qG λh5 uM Qh=>?_
  have I5:Inv X pins σ' H' { s1 with heap:=h5 }:=I1.moved hex fl.1 uM.1 (Qg.trans Qh) tr old pn;obtain⟨oe,vs,he,hc,hdt,_⟩:=uM.first
  refine wpAny_handleBy_cons (codeAny_handlers_test ?_) (by intro q;cases q);refine YAI (I5.caught e) hg hm ?_ hd;have LT:PySem.W.Looks (model X.prog X.w) h5 (typeOf (.ref e)) cls:=hc ▸ (PySem.W.Looks.ld he).andThen .now;refine(PySem.W.exm_one (M:=model X.prog X.w) I5.kIn LT hm1) _ _ _ _ (λ_ _ q=>q) ?_;rw[if_pos rfl];show codeAny _ _ _ _ _;refine codeAny_handlers_suite_as ?_;refine lands_againW uM λh6 yr Qi=>?_
  have I6:Inv X pins σ' H' { s1 with heap:=h6 }:=I5.moved hex uM.1 yr.1 Qi tr old pn;obtain⟨oe6,vs6,Wk,hc6,Wl,_⟩:=yr.first
  have nB:B.get? e=none:=fl.2.1;have nfr:∀b∈frs X.stack,b≠e:=λb hb z=>by
   rw[hst]at hb;obtain⟨_,o,ho,nf⟩:=yr.2.2.1.mem hb;rw[z,Wk]at ho;cases ho;exact nf _ Wl
  have I7:Inv X pins σ' (upd H' e (xO e cls)) { s1 with heap:=h6 }:=I6.track hex new Wk hc6 Wl (λo q=>by
   obtain⟨o',z⟩:=old e o q (λhb=>nfr e hb rfl) (by rw[hex];simp);rw[nB]at z;cases z) λp hp z=>by
    obtain⟨o',q⟩:=pn p hp;rw[z,nB]at q;cases q
  refine XI I7 hN hi (.inl hn) (v:=.ref e) rfl (λs8 I8=>?_) (.inr hn);refine wpAny_mono (hs e pins s8 _ _ _ (I8.caught e) (Qf e new)) (λf s9 q=>?_) λ_ _ z=>z.elim
  have kn:X.env.kindOf n=some .local:=hn;have kf:(X.env.scope.kind == .class || (X.env.scope.kind == .module && X.env.locals != X.env.globals))=false:=by rw[I.ok.kind];rfl
  have go:∀{σ2:St}{H2:Hp}{R:Unit->Shared->Prop},Inv (X.caught e) pins σ2 H2 s9->(∀jw,Inv X pins (σ2.set i none) H2 jw->R () jw)->wpAny (model X.prog X.w) X.A (do bindName X.env n .none;unbindBehindTheSuite X.env n hpos) R X.xe s9:=λ{σ2 H2 R} I9 k=>by
   have I9':Inv X pins σ2 H2 s9:=I9.uncaught I.ok;obtain⟨m,hnm,hl⟩:=I9'.loc;exact wpAny_nameGoes_keeps kn hnm kf λh' v hn' sb=>k _ (I9'.gone hN hi hnm hl hn' sb)
  cases f with
  |next=>obtain⟨σ2,H2,I9,q⟩:=q;exact go I9 λjw I10=>⟨_,H2,I10,q⟩
  |brk=>obtain⟨σ2,H2,I9,q⟩:=q;exact go I9 λjw I10=>⟨_,H2,I10,q⟩
  |cont=>obtain⟨σ2,H2,I9,q⟩:=q;exact go I9 λjw I10=>⟨_,H2,I10,q⟩
  |ret u=>obtain⟨v,σ2,H2,I9,r,q⟩:=q;exact go I9 λjw I10=>⟨v,_,H2,I10,r,q⟩
end L2
namespace L2
open PySem PySem.Spec PyProof.Rows
def Its (x:Str):It:=⟨λi _=>i < x.cps.size,λi H v H'=>H'=H/\∃c,x.cps[i]?=some c/\v=.str ⟨#[c]⟩,λi _=>i=x.cps.size⟩
abbrev YGY:List String:=["enumerate","zip","dict_itemiterator","dict_reverseitemiterator","odict_iterator","itertools.zip_longest","itertools.pairwise"]
theorem YFT {P:Program}{w:World}{K:W.Frag}{tg:Expr}{ty:String}{x:Str}{t:Tok} (it:Addr)
  (W:∀A:Around,A.handled=none->Walks P w A it [it] [it] x.cps.size (SignAt x) (λi h=>h.IsStrIter it ty x t i))
  (hn:YGY.contains ty=false)
  (hself:∀(A:Around) (i:Nat) (s:Shared) (Q:Value->Shared->Prop) (E:Value->Shared->Prop),s.heap.IsStrIter it ty x t i->Q (.ref it) s->wpAny (model P w) A (pyIter (.ref it)) Q E s):
  YDO P w K tg (Its x) [it] it (λi h=>h.IsStrIter it ty x t i) where
 mem:=by simp
 obj:=λi h st b hb=>by
  have eb:b=it:=by simpa using hb
  subst eb;obtain⟨o,eo,_,d⟩:=st;exact⟨o,eo,λv z=>by rw[d]at z;cases z⟩
 keep:=λi h h' st k=>by
  obtain⟨o,eo,r⟩:=st;exact⟨o,k it (by simp) o eo,r⟩
 item:=by
  intro X hP hw hK hc i pins s σ H E I hf st hg;subst hP hw hK;obtain⟨f0,f1,f2,f3,f4,f5⟩:=hf it (by simp);refine(W X.A (I.ok.hd hc)).item i s _ _ hg st λv h' tk hv st' kk=>?_
  obtain⟨c,u,yo,rfl⟩:=hv;have I1:Inv X pins σ H { s with heap:=h',toks:=tk }:=I.turned (λb o hb eo=>kk b o (by simpa using hb) eo) f0 f1 f3 f4 f5;obtain⟨o,eo,c',d⟩:=id st';exact⟨_,U,YDr (s:={ s with heap:=h',toks:=tk }) eo c' d hn ⟨.str ⟨#[c]⟩,H,I1,⟨u,U⟩,⟨U,c,yo,U⟩,st',λb hb=>(hf b hb).1⟩⟩
 done:=by
  intro X hP hw hK hc i pins s σ H E I hf st hg;subst hP hw hK;obtain⟨f0,f1,f2,f3,f4,f5⟩:=hf it (by simp);have ei:i=x.cps.size:=hg;subst ei;exact(W X.A (I.ok.hd hc)).done s _ _ st λh' tk kk=>⟨U,I.turned (λb o hb eo=>kk b o (by simpa using hb) eo) f0 f1 f3 f4 f5⟩
 self:=λA i s Q E st h=>hself A i s Q E st h
section
variable {X:Cx}{tg:Expr}
def iStr (tl:TE):TI:=λσ H R=>tl σ H λv H1=>∃x,v=.str x/\R (Its x) H1
theorem pi_str {l:Expr}{tl:TE} (hl:PE X l tl):PI X tg l (iStr tl):=by
 intro pins s σ H R I h;refine thn (hl pins s σ H _ I h) λv s1 ⟨y,H1,I1,r1,q1⟩=>?_
 obtain⟨x,rfl,q⟩:=q1;obtain⟨t,rfl⟩:=r1;have fp:∀b∈[s1.heap.objs.size],YAa X pins H1 b:=λb hb=>by
  have eb:b=s1.heap.objs.size:=by simpa using hb
  subst eb;exact I1.fpOk (YKH _) (I1.hok.fresh (YKH _))
 cases ha:x.cps.all (· < 128)
 ·refine wpAny_pyIter_wide ha ?_;exact⟨s1.heap.objs.size,[s1.heap.objs.size],_,_,H1,U,I1.kept (t':=s1.toks) λb o eo=>YKI _ eo,
   YFT (ty:="str_iterator") (t:=t) _ (λA hA=>Walks.strWide hA _ x t) (by decide) (λ_ _ _ _ _ st hq=>wpAny_pyIter_striter_wide st hq),⟨_,YKe _ rfl,U,U⟩,fp,q⟩
 ·refine wpAny_pyIter_ascii ha ?_;exact⟨s1.heap.objs.size,[s1.heap.objs.size],_,_,H1,U,I1.kept (t':=s1.toks) λb o eo=>YKI _ eo,
   YFT (ty:="str_ascii_iterator") (t:=t) _ (λA hA=>Walks.strAscii hA _ x t) (by decide) (λ_ _ _ _ _ st hq=>wpAny_pyIter_striter_ascii st hq),⟨_,YKe _ rfl,U,U⟩,fp,q⟩
end
abbrev Y8 (X:Cx) (N:List Str) (scope:Scope) (cl:List (Str×Addr)) (C:Addr) (s₀:Shared) (H₀:Hp) (ex:List Addr) (pn:List (Addr×Obj)):Cx:=
 { X with N:=N,s₀:=s₀,H₀:=H₀,env:=compEnvC scope cl C X.env,outer:=X.stack,stack:=X.stack,ex:=ex,fn:=λ_=>false,pn:=pn,xe:=λ_ _=>False }
def PTs (X:Cx) (ifs:List Expr) (t:TT):Prop:=
 ∀(pins:List (Addr×Obj)) (s:Shared) (σ:St) (H:Hp) (Q:Bool->Hp->Prop),Inv X pins σ H s->t σ H Q->
  wpAny (model X.prog X.w) X.A (forIn ifs true λc r=>if r=true then do let ok <-isTrue c X.env (eval c X.env);pure (ForInStep.yield ok) else pure (ForInStep.yield r)) (TP X pins σ Q) X.xe s
def tYes:TT:=λ_ H Q=>Q true H
theorem J5 {X:Cx}:PTs X [] tYes:=λ_ _ _ H _ I h=>wpAny_tests_nil ⟨H,I,h⟩
theorem YHH {X:Cx}{c:Expr}{t:TT} (h:PT X c t):PTs X [c] t:=λpins s σ H Q I hw=>wpAny_tests_one (h pins s σ H Q I hw)
def YDR (ρ:List (Option Nat)) (σ:St):St:=ρ.map λo=>o.bind λj=>(σ[j]?).bind id
def YAl (J:It) (g:TG) (tc:TT) (te:TE) (Q:VK) (l:Addr) (τ:St) (H1:Hp):Prop:=
 ∃W:Nat->Nat->List V->St->Hp->Prop,(∃m,W 0 m [] τ (upd H1 l (.lst [])))/\∀i m ys τ H2,W i m ys τ H2->
  (J.stop i H2/\Q (.ref l) H2)\/(J.go i H2/\∀x H3,J.yld i H2 x H3->g x τ H3 λτ4 H4=>tc τ4 H4 λb H5=>
   if b=true then te τ4 H5 λy H6=>H6 l=some (.lst ys)/\ys.length < sizeLine/\∃m',m' < m/\W (i + 1) m' (ys ++ [y]) τ4 (upd H6 l (.lst (ys ++ [y])))
   else ∃m',m' < m/\W (i + 1) m' ys τ4 H5)
def tComp (ρ:List (Option Nat)) (wi:TI) (g:TG) (tc:TT) (te:TE):TE:=λσ H Q=>wi σ H λJ H1=>∀l,H1 l=none->YAl J g tc te Q l (YDR ρ σ) H1
theorem YDy {prog:Program}{w:World}{A:Around}{R:Result->Shared->Prop}{s:Shared}{elt target iter:Expr}{ifs:List Expr}{scope:Scope}{pos:Pos}{it acc:Value}{env:Env} (Iv:Nat->Shared->Prop)
  (turn:∀n s,Iv n s->wpAny (model prog w) A (pyNext it) (λr s1=>match r with
   |none=>R (.ok .next) s1
   |some v=>wpAny (model prog w) A (letOwnedTupleGo target it v) (λ_ Wm=>wpAny (model prog w) A (assign target env v) (λ_ s2=>
     wpAny (model prog w) A (forIn ifs true λc r=>if r=true then do let ok <-isTrue c env (eval c env);pure (ForInStep.yield ok) else pure (ForInStep.yield r)) (λok s3=>
      if ok=true then wpAny (model prog w) A (eval elt env) (λx s4=>
       wpAny (model prog w) A (call (.builtin "list.append") [acc,x]) (λ_ s5=>∃m,m < n/\Iv m s5) (λ_ _=>False) s4) (λ_ _=>False) s3
      else ∃m,m < n/\Iv m s3) (λ_ _=>False) s2) (λ_ _=>False) Wm) (λ_ _=>False) s1) (λ_ _=>False) s)
  (n:Nat) (h:Iv n s):codeAny (model prog w) A (.compLoop (.ListComp elt [⟨target,iter,ifs,0⟩] scope pos) 0 it acc env) R s:=by
 refine codeAny_loop rfl Iv (λn s hI=>?_) n h;show wpAny _ A ((compTurn (.ListComp elt [⟨target,iter,ifs,0⟩] scope pos) 0 it acc env).onRaise (λx=>do noteFrame x env;theTreesLotGoes x)) _ _ s;refine wpAny_noted ?_;rw[compTurn_list];have no:∀{P:Value->Shared->Prop} (e:Value) (s':Shared),False->P e s':=λ_ _ z=>z.elim
 refine YKG (wpAny_standAt (YKG (wpAny_mono (turn n s hI) (λr s1 h1=>?_) no)));cases r with
 |none=>exact YKV h1
 |some v=>
  refine YKG (wpAny_mono h1 (λ_ Wm h1'=>?_) no);refine YKG (wpAny_mono h1' (λ_ s2 h2=>YKG (wpAny_mono h2 (λok s3 h3=>?_) no)) no);cases ok with
  |false=>exact YKV ⟨U,h3⟩
  |true=>exact YKG (YKG (wpAny_mono h3 (λx s4 h4=>YKG (wpAny_mono h4 (λ_ s5 h5=>YKV (YKV ⟨U,h5⟩)) no)) no))
section
variable {X:Cx}{elt tg iter:Expr}{ifs:List Expr}{scope:Scope}{cl:List (Str×Addr)}{N:List Str}{ρ:List (Option Nat)}{pos:Pos}{wi:TI}{g:TG}{tc:TT}{te:TE}
structure Yr (X:Cx) (N:List Str) (ρ:List (Option Nat)) (scope:Scope) (cl:List (Str×Addr)):Prop where
 clos:closureFor scope X.env=pure cl
 nocell:∀y∈scope.names,y.2≠.cell
 kind:scope.kind=.function
 loc:∀y∈scope.names,y.2=.local->scope.names.lookup y.1=some .local
 sub:∀x c,cl.lookup x=some c->X.env.cells.lookup x=some c
 has:∀x,((relabel scope X.env).names.lookup x=some .cell\/(relabel scope X.env).names.lookup x=some .free)->∃c,cl.lookup x=some c
 len:ρ.length=N.length
 from_:∀(i j:Nat) (x:Str),N[i]?=some x->ρ[i]?=some (some j)->X.N[j]?=some x/\(X.env.kindOf x=some .cell\/X.env.kindOf x=some .free)/\((relabel scope X.env).names.lookup x=some .cell\/(relabel scope X.env).names.lookup x=some .free)
theorem YJF {ρ:List (Option Nat)}{σ:St}{i:Nat}{v:V} (h:(YDR ρ σ)[i]?=some (some v)):∃j,ρ[i]?=some (some j)/\σ[j]?=some (some v):=by
 unfold YDR at h;rw[YKk]at h;cases e:ρ[i]? with
 |none=>rw[e]at h;cases h
 |some o=>
  rw[e]at h;cases o with
  |none=>cases h
  |some j=>
   refine⟨j,U,?_⟩;simp only[Option.map_some,Option.bind_some,Option.some.injEq]at h;cases e2:σ[j]? with
   |none=>rw[e2]at h;cases h
   |some w=>
    rw[e2]at h;have h':w=some v:=h;rw[h']
theorem YFU {pins:List (Addr×Obj)}{σ:St}{H:Hp}{s s':Shared}{fp:List Addr}{h₁:Heap} (S:Yr X N ρ scope cl) (I:Inv X pins σ H s) (hf:∀b∈fp,YAa X pins H b)
  (hlt:∀b∈fp,b < s.heap.objs.size) (hns:h₁.Ns s.heap.objs.size (λ_=>none)) (yt:∀b o,s.heap.get? b=some o->h₁.get? b=some o) (es:s'={ s with heap:=h₁ }):
  Inv (Y8 X N scope cl s.heap.objs.size s H fp (X.pn ++ pins)) [] (YDR ρ σ) H s':=by
 subst es;have notStk:∀b,b≠X.env.locals->b∉X.fs->b∉frs X.stack:=λb h1 h2 hb=>by
  rcases YKT.mp (I.stkSub b hb) with z |z
  ·exact h1 z
  ·exact h2 z
 have hC:X.env.locals≠s.heap.objs.size:=YKn I.lt;refine⟨⟨I.ok.mod,S.kind,I.ok.glob,I.ok.blt,YKH _,λx y c h1 h2=>I.ok.inj x y c (S.sub x c h1) (S.sub y c h2),λx hx=>S.has x hx,λx c hx _=>absurd (show false=true from hx) YKZ,I.ok.hd,I.ok.frames,.inl rfl,
  λb hb=>⟨YKn (hlt b hb),λx c h1=>(hf b hb).2.2.2.2.1 x c (S.sub x c h1)⟩,I.bs,YKq I.ok.bsz I.sz,λb o eo hb=>?_,λb hb=>notStk b (hf b hb).2.1 (hf b hb).2.2.1,I.stack,I.stkFree⟩,
  rfl,I.bare,Un.kept yt,⟨_,hns,λi x v h1 h2 h3=>?_⟩,λx c h1=>?_,I.hok.fresh (YKH _),λx c h1=>I.freeC x c (S.sub x c h1),λp hp=>?_,I.hok.kept yt,?_⟩
 ·rcases(hf b hb).2.2.2.1 with z |z
  ·exact I.ok.noex b o eo z
  ·exact absurd (YKS (I.ok.bs b o eo).1) (Nat.not_lt.mpr z)
 ·obtain⟨j,hj,hv⟩:=YJF h2;obtain⟨n1,n2,n3⟩:=S.from_ i j x h1 hj;obtain⟨m,hn,hl⟩:=I.loc;have vis:Vis X.env.scope x:=n2.elim (λz=>.inr (.inl z)) λz=>.inr (.inr z)
  obtain⟨u,ru,lk⟩:=hl j x v n1 hv vis;refine⟨u,ru,.inr ⟨n3,?_⟩⟩;rcases lk with ⟨hk,_⟩ |⟨_,c,hc,eX⟩
  ·rcases n2 with z |z
   ·rw[z]at hk;cases hk
   ·rw[z]at hk;cases hk
  ·obtain⟨c',hc'⟩:=S.has x n3;have ec:=S.sub x c' hc';rw[hc]at ec;cases ec;obtain⟨o,ho,hd⟩:=eX;exact⟨c,hc',o,yt c o ho,hd⟩
 ·obtain⟨v,o,ho,hd⟩:=I.cell x c (S.sub x c h1);exact⟨v,o,yt c o ho,hd⟩
 ·have hp':p∈X.pn ++ pins:=by simpa using hp
  obtain⟨p1,p2,p3,p4,p5⟩:=I.pin p hp';exact⟨yt _ _ p1,p2,YKn (YKS p1),notStk _ p3 p4,p5⟩
 ·show(YDR ρ σ).length=N.length;unfold YDR;rw[YKF];exact S.len
theorem YAM (hc:X.calm=true) (S:Yr X N ρ scope cl) (hi:PI X tg iter wi)
  (hg:∀C s₀ H₀ ex pn,PG (Y8 X N scope cl C s₀ H₀ ex pn) tg g) (ht:∀C s₀ H₀ ex pn,PTs (Y8 X N scope cl C s₀ H₀ ex pn) ifs tc) (he:∀C s₀ H₀ ex pn,PE (Y8 X N scope cl C s₀ H₀ ex pn) elt te)
  (hs:∀x,foldedSetIterable iter X.env x=pure x:=by intro _;rfl):PE X (.ListComp elt [⟨tg,iter,ifs,0⟩] scope pos) (tComp ρ wi g tc te):=by
 intro pins s σ H Q I h;rw[eval_ListComp];refine wpAny_comprehension_free (use:=none) rfl hs S.clos S.kind S.loc (thn (hi pins s σ H _ I h) λv s1 h1=>thn h1 λitv s2 h2=>?_);obtain⟨it,fp,tn,J,H2,e,I2,T,rF,f2,q2⟩:=h2;subst e;obtain⟨W,⟨m0,w0⟩,turn⟩:=q2 _ (I2.hok.fresh (YKH _));refine wpAny_newObj_type (wpAny_newFunctionEnv S.nocell (by intro y hy;simp at hy) (λh₁ hns₁ hsb₁=>?_) S.kind);dsimp only at hns₁ hsb₁ ⊢;have I3:Inv X pins σ (upd H2 s2.heap.objs.size (.lst [])) { s2 with heap:=s2.heap.push { cls:=.type "list",dict:=none,data:=.seq ([]:List Value).toArray } }:=
  I2.laid (t':=s2.toks) (λb u eo=>YKI _ eo) (YKH _) ⟨by simp,[],0,.nil,YKe _ rfl⟩
 generalize yu:({ s2 with heap:=s2.heap.push { cls:=.type "list",dict:=none,data:=.seq ([]:List Value).toArray } }:Shared)=s3 at I3;have vL:s2.heap.push { cls:=.type "list",dict:=none,data:=.seq ([]:List Value).toArray }=s3.heap:=by rw[<-yu]
 rw[vL]at hns₁ hsb₁ ⊢;have f3:∀b∈fp,YAa X pins (upd H2 s2.heap.objs.size (.lst [])) b:=λb hb=>by
  obtain⟨o,eo,_⟩:=T.obj _ _ rF b hb;exact⟨by rw[YN (YKn (YKS eo))];exact(f2 b hb).1,(f2 b hb).2⟩
 have yw:∀b∈fp,b < s3.heap.objs.size:=λb hb=>by
  obtain⟨o,eo,_⟩:=T.obj _ _ rF b hb;rw[<-vL,YLt];exact Nat.lt_succ_of_lt (YKS eo)
 have old:∀b o,s3.heap.get? b=some o->h₁.get? b=some o:=λb o eo=>hsb₁.extBut b o (YKn (YKS eo)) (YKI _ eo)
 have Ic:Inv (Y8 X N scope cl s3.heap.objs.size s3 (upd H2 s2.heap.objs.size (.lst [])) fp (X.pn ++ pins)) [] (YDR ρ σ) (upd H2 s2.heap.objs.size (.lst [])) { s2 with heap:=h₁,toks:=s2.toks + ([]:List (Str×Value)).length }:=
  YFU S I3 f3 yw hns₁ old (by rw[<-yu] <;> rfl)
 have jq:∀{pl:List (Addr×Obj)}{H':Hp},pl=[]->(∀b∈fp,H' b=none)->∀b∈fp,YAa (Y8 X N scope cl s3.heap.objs.size s3 (upd H2 s2.heap.objs.size (.lst [])) fp (X.pn ++ pins)) pl H' b:=λ{pl H'} epl hn b hb=>by
  subst epl;refine⟨hn b hb,YKn (yw b hb),λz=>?_,.inl hb,λx c h1=>(f2 b hb).2.2.2.2.1 x c (S.sub x c h1),λp hp=>(f2 b hb).2.2.2.2.2 p (by simpa using hp)⟩;rcases YKT.mp (I3.stkSub b z) with z |z
  ·exact(f2 b hb).2.1 z
  ·exact(f2 b hb).2.2.1 z
 have uO:tn 0 h₁:=T.keep _ _ _ rF λb hb o eo=>old b o (by rw[<-vL];exact YKI _ eo)
 have loop:codeAny (model X.prog X.w) X.A (.compLoop (.ListComp elt [⟨tg,iter,ifs,0⟩] scope pos) 0 (.ref it) (.ref s2.heap.objs.size) (compEnvC scope cl s3.heap.objs.size X.env))
   (compPost (model X.prog X.w) X.A X.xe none (EP X pins σ Q) (.ref s2.heap.objs.size) s3.heap.objs.size) { s2 with heap:=h₁,toks:=s2.toks + ([]:List (Str×Value)).length }:=by
  refine YDy (λn s'=>∃i ys τ H',Inv (Y8 X N scope cl s3.heap.objs.size s3 (upd H2 s2.heap.objs.size (.lst [])) fp (X.pn ++ pins)) [] τ H' s'/\tn i s'.heap/\(∀b∈fp,H' b=none)/\W i n ys τ H') ?_ m0
   ⟨0,[],_,_,Ic,uO,λb hb=>(f3 b hb).1,w0⟩
  rintro n s4 ⟨i,ys,τ,H4,I4,st,yx,w4⟩;rcases turn i n ys τ H4 w4 with ⟨stop,qn⟩ |⟨go,step⟩
  ·refine thn (T.done (Y8 X N scope cl s3.heap.objs.size s3 (upd H2 s2.heap.objs.size (.lst [])) fp (X.pn ++ pins)) rfl rfl rfl hc i [] s4 τ H4 _ I4 (jq rfl yx) st stop) λr s5 ⟨hr,I5⟩=>?_
   subst hr;obtain⟨m5,vM,_⟩:=I5.loc;refine⟨m5,vM,λh' hs'=>?_⟩;have ne:∀b,b < s3.heap.objs.size->b≠s3.heap.objs.size:=λb hb=>YKn hb
   have iH:∀b o,b≠s3.heap.objs.size->s5.heap.get? b=some o->h'.get? b=some o:=λb o hb eo=>(hs'.2 b hb).trans eo
   have un:Un (frs X.stack) fp (upd H2 s2.heap.objs.size (.lst [])) H4 s3.heap h':=
    ⟨λb o eo n1 n2 n3=>iH b o (ne b (YKS eo)) (I5.base.keep b o eo n1 n2 n3),λb o eo n1 n2 n3=>let ⟨sl,z⟩:=I5.base.slot b o eo n1 n2 n3;⟨sl,iH b _ (ne b (YKS eo)) z⟩,
     I5.base.free,λb o eo n1=>let ⟨o',z⟩:=I5.base.there b o eo n1;⟨o',iH b _ (ne b (YKS eo)) z⟩,I5.base.tups,I5.base.frzs,I5.base.tbls⟩
   have hok:HOk X.prog X.w H4 h':=λa o ea=>(I5.hok a o ea).stay (λb u hb eo=>iH b u (λz=>by
    have fr:H4 s3.heap.objs.size=none:=I5.free;rcases hb with rfl |hb
    ·rw[z,fr]at ea;cases ea
    ·rw[z,fr]at hb;cases hb) eo) (λ_ z=>z) λ_ _ z=>z
   have I6:Inv X pins σ H4 { s5 with heap:=h' }:=I3.call' (s':={ s5 with heap:=h' }) (ch:=fp) (show s5.os=s3.os from I5.os) un hok I5.bare λb hb=>(f3 b hb).2.2.2
     |> λz=>⟨(f3 b hb).2.2.2.1,(f3 b hb).2.1,(f3 b hb).2.2.2.2.1,(f3 b hb).2.2.2.2.2⟩
   exact⟨.ref s2.heap.objs.size,H4,I6,U,qn⟩
  ·refine thn (T.item (Y8 X N scope cl s3.heap.objs.size s3 (upd H2 s2.heap.objs.size (.lst [])) fp (X.pn ++ pins)) rfl rfl rfl hc i [] s4 τ H4 _ I4 (jq rfl yx) st go) λr s5 ⟨u,hr,h5⟩=>?_
   subst hr;refine thn h5 ?_;rintro _ s6 ⟨x,H6,I6,r6,y6,vN,Qj⟩;have I6':=I6.pinned (jq rfl Qj) (T.obj _ _ vN);have again:∀{s9:Shared}{τ9:St}{H9:Hp}{zs:List V}{m':Nat},Inv (Y8 X N scope cl s3.heap.objs.size s3 (upd H2 s2.heap.objs.size (.lst [])) fp (X.pn ++ pins)) ([] ++ YBb fp s6.heap) τ9 H9 s9->m' < n->W (i + 1) m' zs τ9 H9->
     ∃m,m < n/\∃i ys τ H',Inv (Y8 X N scope cl s3.heap.objs.size s3 (upd H2 s2.heap.objs.size (.lst [])) fp (X.pn ++ pins)) [] τ H' s9/\tn i s9.heap/\(∀b∈fp,H' b=none)/\W i m ys τ H':=λ{s9 τ9 H9 zs m'} I9 hm w9=>by
    refine⟨m',hm,i + 1,zs,τ9,H9,I9.unpinned,T.keep _ _ _ vN λb hb o eo=>(I9.pin (b,o) (YKg _ (YKg _ (JF hb eo)))).1,λb hb=>?_,w9⟩;obtain⟨o,eo,d⟩:=T.obj _ _ vN b hb;exact(I9.pin (b,o) (YKg _ (YKg _ (JF hb eo)))).2.1
   refine thn (hg _ _ _ _ _ _ s6 τ H6 x u _ I6' r6 (step x H6 y6)) λ_ s7 ⟨τ7,H7,I7,q7⟩=>?_
   refine thn (ht _ _ _ _ _ _ s7 τ7 H7 _ I7 q7) λok s8 ⟨H8,I8,q8⟩=>?_
   cases ok with
   |false=>
    rw[if_neg YKZ]at q8 ⊢;obtain⟨m',hm,w9⟩:=q8;exact again I8 hm w9
   |true=>
    rw[if_pos rfl]at q8 ⊢;refine thn (he _ _ _ _ _ _ s8 τ7 H8 _ I8 q8) ?_;rintro y s9 ⟨z,H9,I9,r9,Qk,Ql,m',hm,w9⟩;refine thn (Yx _ s9 τ7 H9 (.ref s2.heap.objs.size) [z] (.ref s2.heap.objs.size) [y] (λ_ H'=>H'=upd H9 s2.heap.objs.size (.lst (ys ++ [z]))) I9 rfl (.cons r9 .nil) ⟨_,ys,z,U,U,Qk,Ql,U⟩) λ_ jw ⟨_,H10,I10,_,e10⟩=>?_
    subst e10;exact again I10 hm w9
 exact codeAny_compStart_list loop (T.self _ 0 _ _ _ uO loop)
end
end L2
namespace L2
open PySem PySem.Spec PyProof.Rows
theorem Yr.plain {X:Cx}{N:List Str}{ρ:List (Option Nat)}{scope:Scope} (hk:scope.kind=.function) (hn:∀y∈scope.names,y.2≠.cell/\y.2≠.free)
  (hl:∀y∈scope.names,y.2=.local->scope.names.lookup y.1=some .local) (hlen:ρ.length=N.length) (hρ:∀o∈ρ,o=none):Yr X N ρ scope []:=by
 have uP:(relabel scope X.env).names=scope.names:=by
  unfold relabel;refine map_eq_self λy hy=>?_
  obtain⟨n,k⟩:=y;have hf:(k == NameKind.free)=false:=by
   have:=(hn _ hy).2;cases k <;> first |rfl |exact absurd rfl this
  show(if (k == NameKind.free && X.env.scope.kind == .function && X.env.kindOf n == some .cell)=true then (n,NameKind.cell) else (n,k))=(n,k);rw[hf];rfl
 refine⟨closureFor_none λy hy=>(hn y hy).2,λy hy=>(hn y hy).1,hk,hl,λx c h=>(by cases h),λx h=>?_,hlen,λi j x _ h=>?_⟩
 ·rw[uP]at h;rcases h with h |h
  ·exact absurd rfl (hn _ (PySem.mem_of_lookup h)).1
  ·exact absurd rfl (hn _ (PySem.mem_of_lookup h)).2
 ·have:=hρ _ (YKL h);cases this
theorem YJG {x:Str}{te:TE}{Q:VK}{H:Hp}{l:Addr}{τ:St} (f:Nat->V) (hl:H l=none) (hτ:0 < τ.length) (hz:x.cps.size<=sizeLine)
  (ht:∀(τ':St) (c:Nat) (H':Hp) (R:VK),τ'[0]?=some (some (.str ⟨#[c]⟩))->c∈x.cps.toList->R (f c) H'->te τ' H' R) (hq:Q (.ref l) (upd H l (.lst (x.cps.toList.map f)))):
  YAl (Its x) (JH 0) tYes te Q l τ H:=by
 refine⟨λi m ys τ' H2=>m=x.cps.size - i/\i<=x.cps.size/\ys=(x.cps.toList.take i).map f/\0 < τ'.length/\H2=upd H l (.lst ys),⟨x.cps.size,by simp,YKm _,by simp,hτ,U⟩,?_⟩;rintro i m ys τ' H2 ⟨rfl,hi,rfl,hτ',rfl⟩
 by_cases hlt:i < x.cps.size
 ·refine .inr ⟨hlt,λv H3 hy=>?_⟩;obtain⟨eH,c,hc,rfl⟩:=hy;subst eH;have hc':x.cps.toList[i]?=some c:=by simpa using hc
  show te _ _ _;refine ht _ c _ _ ?_ (YKL hc') ?_
  ·rw[YLh hτ']
  ·have mO:(x.cps.toList.take (i + 1)).map f=(x.cps.toList.take i).map f ++ [f c]:=by
    rw[YLN,hc',YKW];rfl
   refine⟨YC,?_,x.cps.size - (i + 1),by lia,U,hlt,mO.symm,by rw[YLZ];exact hτ',by rw[YAH]⟩;rw[YKF,YK3];have:x.cps.toList.length=x.cps.size:=by simp
   lia
 ·have ei:i=x.cps.size:=by lia
  subst ei;refine .inl ⟨U,?_⟩;have:x.cps.toList.take x.cps.size=x.cps.toList:=by
   apply YLO;simp
  rw[this];exact hq
end L2
namespace L2
open PySem PySem.Spec PyProof.Rows
def XQ (cs:List (Str×Addr)):List (Str×NameKind)->List (Str×Addr)->List (Str×Addr)
 |[],acc=>acc
 |y :: r,acc=>XQ cs r (if y.2 == .free then (y.1,(cs.lookup y.1).getD 0) :: acc else acc)
theorem YDz (cs:List (Str×Addr)):∀(names:List (Str×NameKind)) (acc:List (Str×Addr)),(∀p∈acc,p.2=(cs.lookup p.1).getD 0)->∀p∈XQ cs names acc,p.2=(cs.lookup p.1).getD 0
 |[],acc,h=>h
 |y :: r,acc,h=>by
  unfold XQ;refine YDz cs r _ ?_;split
  ·intro p hp;rcases YKT.mp hp with rfl |hp
   ·rfl
   ·exact h p hp
  ·exact h
theorem YD0 (cs:List (Str×Addr)):∀(names:List (Str×NameKind)) (acc:List (Str×Addr)),∀p∈XQ cs names acc,p∈acc\/∃y∈names,y.1=p.1/\y.2=.free
 |[],acc,p,hp=>.inl hp
 |y :: r,acc,p,hp=>by
  unfold XQ at hp;rcases YD0 cs r _ p hp with h |⟨z,hz,h⟩
  ·split at h
   ·rename_i hy
    rcases YKT.mp h with rfl |h
    ·refine .inr ⟨y,YKd,U,?_⟩;cases hk:y.2 <;> rw[hk]at hy <;> first |rfl |cases hy
    ·exact .inl h
   ·exact .inl h
  ·exact .inr ⟨z,YKY _ hz,h⟩
theorem YD1 (cs:List (Str×Addr)):∀(names:List (Str×NameKind)) (acc:List (Str×Addr)),∀p∈acc,p∈XQ cs names acc
 |[],acc,p,hp=>hp
 |y :: r,acc,p,hp=>by
  unfold XQ;refine YD1 cs r _ p ?_;split
  ·exact YKY _ hp
  ·exact hp
theorem YD2 (cs:List (Str×Addr)):∀(names:List (Str×NameKind)) (acc:List (Str×Addr)),∀y∈names,y.2=.free->(y.1,(cs.lookup y.1).getD 0)∈XQ cs names acc
 |[],acc,y,hy,_=>absurd hy (by simp)
 |z :: r,acc,y,hy,hf=>by
  unfold XQ;rcases YKT.mp hy with rfl |hy
  ·refine YD1 cs r _ _ ?_;rw[if_pos (by rw[hf];rfl)];exact YKd
  ·exact YD2 cs r _ y hy hf
theorem YAf:∀{l:List (Str×Addr)}{x:Str}{c:Addr},(x,c)∈l->∃d,l.lookup x=some d
 |[],_,_,h=>absurd h (by simp)
 |(n,k) :: r,x,c,h=>by
  rw[List.lookup_cons];cases hx:x == n with
  |true=>exact⟨k,U⟩
  |false=>
   rcases YKT.mp h with e |h
   ·cases e;simp at hx
   ·exact YAf h
theorem YDS {scope:Scope}{env:Env} (h:∀y∈scope.names,y.2=.free->∃c,env.cells.lookup y.1=some c):closureFor scope env=pure (XQ env.cells scope.names []):=by
 have go:∀(names:List (Str×NameKind)) (acc:List (Str×Addr)),(∀y∈names,y.2=.free->∃c,env.cells.lookup y.1=some c)->
   (forIn (m:=Sem) names acc (λx r=>if (x.2 == NameKind.free)=true then do let c <-cellOf env x.1;pure (ForInStep.yield ((x.1,c) :: r)) else pure (ForInStep.yield r)))=pure (XQ env.cells names acc):=by
  intro names
  induction names with
  |nil=>intro acc _;rfl
  |cons y r ih=>
   intro acc hy;rw[List.forIn_cons];unfold XQ
   by_cases hf:(y.2 == NameKind.free)=true
   ·have hf':y.2=.free:=by cases hk:y.2 <;> rw[hk]at hf <;> first |rfl |cases hf
    obtain⟨c,hc⟩:=hy y YKd hf';have e:cellOf env y.1=pure c:=by unfold cellOf;rw[hc]
    rw[if_pos hf,if_pos hf,e,pure_bind,pure_bind,hc];exact ih _ λz hz=>hy z (YKY _ hz)
   ·rw[if_neg hf,if_neg hf,pure_bind];exact ih _ λz hz=>hy z (YKY _ hz)
 have h2:=go scope.names [] h;simp only[closureFor];refine Eq.trans (YLR (· >>= _) ?_) (by rw[pure_bind]);exact h2
theorem YBF (g:Str->NameKind->NameKind):∀(l:List (Str×NameKind)) (x:Str),(l.map λy=>(y.1,g y.1 y.2)).lookup x=(l.lookup x).map (g x)
 |[],_=>rfl
 |(n,k) :: r,x=>by
  rw[YKa,List.lookup_cons,List.lookup_cons];cases hx:x == n with
  |true=>
   have e:x=n:=by simpa using hx
   subst e;rfl
  |false=>exact YBF g r x
theorem X0 (scope:Scope) (env:Env) (x:Str):(relabel scope env).names.lookup x=(scope.names.lookup x).map λk=>if (k == NameKind.free && env.scope.kind == .function && env.kindOf x == some .cell)=true then .cell else k:=by
 rw[<-YBF (λn k=>if (k == NameKind.free && env.scope.kind == .function && env.kindOf n == some .cell)=true then .cell else k)];unfold relabel;congr 1;refine YLv λy _=>?_
 obtain⟨n,k⟩:=y;show(if (k == NameKind.free && env.scope.kind == .function && env.kindOf n == some .cell)=true then (n,NameKind.cell) else (n,k))=_;dsimp only;split <;> rfl
def YJH (N:List Str) (ρ:List (Option Nat)) (XN:List Str) (dn sn:List (Str×NameKind)):Bool:=
 (N.zip ρ).all λp=>match p.2 with
  |none=>true
  |some j=>decide (XN[j]?=some p.1) && decide (dn.lookup p.1=some .cell) && decide (sn.lookup p.1=some .free)
theorem Yr.closes {X:Cx}{N:List Str}{ρ:List (Option Nat)}{scope:Scope} (XN:List Str) (dn:List (Str×NameKind)) (hXN:X.N=XN) (vO:X.env.scope.names=dn) (hk:scope.kind=.function) (hX:X.env.scope.kind=.function) (hn:∀y∈scope.names,y.2≠.cell)
  (hfree:∀y∈scope.names,y.2=.free->dn.lookup y.1=some .cell) (eX:∀x,X.env.scope.names.lookup x=some .cell->∃c,X.env.cells.lookup x=some c) (hl:∀y∈scope.names,y.2=.local->scope.names.lookup y.1=some .local) (hlen:ρ.length=N.length)
  (qI:YJH N ρ XN dn scope.names=true):Yr X N ρ scope (XQ X.env.cells scope.names []):=by
 subst hXN vO;have kd:∀x,X.env.kindOf x=X.env.scope.names.lookup x:=λ_=>rfl
 refine⟨YDS λy hy hf=>eX _ (hfree y hy hf),hn,hk,hl,λx c h=>?_,λx h=>?_,hlen,λi j x h1 h2=>?_⟩
 ·have hm:=PySem.mem_of_lookup h;have hv:=YDz X.env.cells scope.names [] (λp hp=>absurd hp (by simp)) _ hm;rcases YD0 X.env.cells scope.names [] _ hm with z |⟨y,hy,e1,e2⟩
  ·exact absurd z (by simp)
  ·obtain⟨d,hd⟩:=eX _ (hfree y hy e2);have e1':y.1=x:=e1;rw[e1']at hd;have hv':c=(X.env.cells.lookup x).getD 0:=hv;rw[hd]at hv';rw[hd,hv'];rfl
 ·rw[X0]at h;have hfr:scope.names.lookup x=some .free:=by
   cases e:scope.names.lookup x with
   |none=>rw[e]at h;rcases h with h |h <;> cases h
   |some k=>
    rw[e]at h;cases k with
    |free=>rfl
    |cell=>exact absurd rfl (hn _ (PySem.mem_of_lookup e))
    |_=>rcases h with h |h <;> cases h
  exact YAf (YD2 X.env.cells scope.names [] _ (PySem.mem_of_lookup hfr) rfl)
 ·unfold YJH at qI;rw[YKj]at qI;have hm:(x,some j)∈N.zip ρ:=by
   refine YKL (i:=i) ?_;rw[List.getElem?_zip_eq_some];exact⟨h1,h2⟩
  have h3:=qI _ hm;simp only[YKM,YKt]at h3;obtain⟨⟨a1,a2⟩,a3⟩:=h3;refine⟨a1,.inl (by rw[kd];exact a2),.inl ?_⟩;rw[X0,a3,kd,a2,hX];rfl
end L2
namespace L2
open PySem PySem.Spec PyProof.Rows
section
variable {X:Cx}
theorem vals_bl:∀{bs:List Bool}{us:List Value}{i:Nat}{v:Value},Yi (bs.map V.bl) us->us[i]?=some v->∃b,bs[i]?=some b/\v=.bool b:=by
 intro bs us i v r e;cases e2:(bs.map V.bl)[i]? with
 |none=>
  have:=r.none_of e2;rw[this]at e;cases e
 |some x=>
  obtain⟨u,hu,ru⟩:=r.get e2;rw[hu]at e;cases e;rw[YKk]at e2;cases e3:bs[i]? with
  |none=>rw[e3]at e2;cases e2
  |some b=>
   rw[e3]at e2;have e4:V.bl b=x:=YKr e2;subst e4;exact⟨b,U,ru⟩
theorem YDT (bs:List Bool):((List.range bs.length).all λi=>(bs[i]?).getD true)=bs.all id:=by
 rw[YLF,YKj,YKj];constructor
 ·intro h b hb;obtain⟨i,hi,rfl⟩:=YLq.mp hb;have:=h i (YLI.mpr hi);rw[YKK hi]at this;exact this
 ·intro h i hi;have hi':=YLI.mp hi;rw[YKK hi'];exact h _ (List.getElem_mem hi')
theorem YJI (hc:X.calm=true):Zg X (.builtin "all") (λxs H Q=>∃(p:Addr) (bs:List Bool),xs=[.ref p]/\SqL X.K H p (bs.map V.bl)/\Q (.bl (bs.all id)) H):=by
 intro pins s σ H xs us Q I r h;obtain⟨p,bs,rfl,hq,q⟩:=h;obtain⟨u,rfl,rx⟩:=JO r;cases rx;obtain⟨its,rv,pl,hz⟩:=I.list hq;have hl:=pl.isList;have hlt:p < s.heap.objs.size:=by obtain⟨_,e,_⟩:=hl;exact YKS e
 have hlen:bs.length=its.length:=by have:=rv.length;rwa [YKF]at this
 refine call_all_walk (wpAny_pyIter_list hl ?_);refine⟨s.heap.objs.size,[s.heap.objs.size,p],[s.heap.objs.size],its.toArray.size,_,_,λi=>(bs[i]?).getD true,U,Walks.list (A:=X.A.in1) (I.ok.hd hc) _ p (YKn hlt) its.toArray,
  ⟨⟨_,YKe _ rfl,U,U⟩,hl.push _⟩,λi v s' Q' E' hP hQ=>?_,λh' tk hk=>?_⟩
 ·obtain⟨b,eb,rfl⟩:=vals_bl rv (i:=i) (v:=v) (by simpa using hP);simp only[eb,Option.getD_some]at hQ;exact wpAny_truthy_bool hQ
 ·have e:((List.range its.toArray.size).all λi=>(bs[i]?).getD true)=bs.all id:=by
   rw[YKQ,<-hlen];exact YDT bs
  rw[e];exact⟨.bl _,H,I.kept (t':=tk) λb o eb=>hk b o (λz=>by rw[YKf.mp z]at eb;exact YLB _ (YKS eb)) (YKI _ eb),U,q⟩
theorem YAm:∀{ys:List Str}{us:List Value},Yi (ys.map V.str) us->StrsAre us ys
 |[],_,.nil=>.nil
 |_ :: _,_,.cons ⟨t,e⟩ r=>by subst e;exact .cons _ _ (YAm r)
theorem YJJ:SlR X (λx lo hi H Q=>∃z,x=.str z/\z.length<=sizeLine/\Q (.str (Txt.slice z lo hi)) H):=by
 intro pins s σ H x v vl vu lo hi sl Q I rx hs pl pu h;obtain⟨z,rfl,hz,q⟩:=h;obtain⟨t,rfl⟩:=rx;refine⟨"str",_,F.slot_str_getitem.lookup,typeIs_str _ _ _,?_⟩;have fin:∀(t':Tok) (k:Nat),EP X pins σ Q (.str (Txt.slice z lo hi) t') { s with toks:=k }:=λt' k=>⟨.str _,H,I.tok _,⟨_,U⟩,q⟩
 obtain⟨o,ho,hc,hd⟩:=hs;cases pl with
 |none=>
  cases pu with
  |none=>exact wpAny_getItem_str_slice (l:=none) (u:=none) (st:=none) ⟨o,ho,hc,hd⟩ rfl (post_val_or_str ⟨YKq (Txt.slice_le z _ _) hz,fin⟩)
  |int j uj=>exact wpAny_getItem_str_slice (l:=none) (u:=some (j,uj)) (st:=none) ⟨o,ho,hc,hd⟩ rfl (post_val_or_str ⟨YKq (Txt.slice_le z _ _) hz,fin⟩)
 |int i ui=>
  cases pu with
  |none=>exact wpAny_getItem_str_slice (l:=some (i,ui)) (u:=none) (st:=none) ⟨o,ho,hc,hd⟩ rfl (post_val_or_str ⟨YKq (Txt.slice_le z _ _) hz,fin⟩)
  |int j uj=>exact wpAny_getItem_str_slice (l:=some (i,ui)) (u:=some (j,uj)) (st:=none) ⟨o,ho,hc,hd⟩ rfl (post_val_or_str ⟨YKq (Txt.slice_le z _ _) hz,fin⟩)
theorem YD3:OpR X (compareOp .LtE) (λx y H Q=>∃i j,x=.str i/\y=.str j/\Q (.bl (!decide (j.cps.toList < i.cps.toList))) H):=by
 intro pins s σ H x y v u Q I rx ry h;obtain⟨i,j,rfl,rfl,q⟩:=h;obtain⟨t,rfl⟩:=rx;obtain⟨t',rfl⟩:=ry;exact PySem.P.le_str (Yo I q rfl)
def clsV:V->Option Value
 |.ty n=>some (.type n)
 |.ref a=>some (.ref a)
 |_=>none
theorem YFV {c:V}{u w:Value} (h:clsV c=some u) (r:Yk c w):w=u:=by
 cases c with
 |ty n=>cases h;exact r
 |ref a=>cases h;exact r
 |_=>cases h
theorem YJK:Zg X (.builtin "isinstance") (λxs H Q=>∃x c t u b,xs=[x,c]/\YAk X.K H x t/\clsV c=some u/\PySem.W.kitOne X.K t u=some b/\Q (.bl b) H):=by
 intro pins s σ H xs us Q I r h;obtain⟨x,c,t,u,b,rfl,ty,rc,e,q⟩:=h;obtain⟨v,w,rfl,rv,mL⟩:=YFJ r;have eu:w=u:=YFV rc mL;subst eu;exact YH7 I rv ty e λtk=>⟨.bl b,H,I.tok tk,U,q⟩
end
def YBe:HO->Bool
 |.dT _=>false
 |.frz _ (.dT _)=>true
 |.frz _ u=>YBe u
 |_=>true
theorem Yq.less {P:Program}{w:World}{H H':Hp}{h h':Heap}{a:Addr}{o:HO} (hp:YBe o=true) (x:Yq P w H' h' a o) (y:Yq P w H h a o):Yq P w H h' a o:=by
 induction o with
 |dT kvs=>cases hp
 |ins C dx fs=>exact⟨y.1,x.2⟩
 |frz ob u ih=>
  cases u with
  |dT kvs=>
   obtain⟨z1,z2,xs,z3,o,es,ep,z4,z5⟩:=y.2;have e:o=ob:=by
    have:=y.1;rw[z4]at this;exact YKr this
   subst e;exact⟨x.1,z1,z2,xs,z3,o,es,ep,x.1,z5⟩
  |_=>exact⟨x.1,ih hp x.2 y.2⟩
 |lst xs=>exact x
 |tup xs=>exact x
 |dK kvs=>exact x
 |set S n=>exact x
 |own z=>exact x
 |xd fs=>exact x
 |rng lo hi=>exact x
 |tbl ps=>exact x
 |met f z=>exact x
 |ext φ=>exact x
section
variable {X:Cx}{pins:List (Addr×Obj)}{σ:St}{H H':Hp}{s s':Shared}
theorem Inv.less (hp:∀a o,H a=some o->YBe o=true) (I:Inv X pins σ H s) (I':Inv X pins σ H' s') (sm:YH H H'):Inv X pins σ H s':=
 ⟨I.ok,I'.os,I'.bare,⟨I'.base.keep,I'.base.slot,I.base.free,I'.base.there,I.base.tups,I.base.frzs,I.base.tbls⟩,I'.loc,I'.cell,I.free,I.freeC,λp gJ=>⟨(I'.pin p gJ).1,(I.pin p gJ).2⟩,
  λa o ea=>(I'.hok a o (sm a o ea)).less (hp a o ea) (I.hok a o ea),I.len⟩
def YI (H:Hp):Prop:=∀a o,H a=some o->YBe o=true
theorem YI.upd {H:Hp}{a:Addr}{o:HO} (h:YI H) (ho:YBe o=true):YI (upd H a o):=λb u e=>by
 by_cases hb:b=a
 ·subst hb;rw[YC]at e;cases e;exact ho
 ·rw[YN hb]at e;exact h b u e
inductive YJL (t:TE) (σ:St) (H:Hp) (Q:VK):Prop where
 |mk (aY:YI H) (aZ:t σ H λv H'=>YH H H'/\Q v H):YJL t σ H Q
def tPure (t:TE):TE:=λσ H Q=>YJL t σ H Q
theorem YEl {e:Expr}{t:TE} (h:PE X e t):PE X e (tPure t):=by
 intro pins s σ H Q I ⟨hp,hw⟩;exact thn (h pins s σ H _ I hw) λv s1 ⟨x,H1,I1,r1,sm,q⟩=>⟨x,H,I.less hp I1 sm,r1,q⟩
end
end L2
namespace L2
open PySem PySem.Spec PyProof.Rows
structure Xs (K:W.Frag) (C:Addr):Prop where
 ga:PySem.W.findIn K (.ref C) "__getattribute__"=some (some (.builtin "BaseException.__getattribute__"))
 gt:PySem.W.findIn K (.ref C) "__getattr__"=some none
 cl:PySem.W.findIn K (.ref C) "__class__"=some (some (.builtin "object.__class__"))
 mb:PySem.W.mroIn K C (.type "BaseException")=some true
 mo:PySem.W.mroIn K C (.type "object")=some true
 gs:PySem.W.specialIn K (.builtin "object.__class__") "__get__"=some (some (.builtin "getset_descriptor.__get__"))
 tk:PySem.W.takesIn K (.builtin "object.__class__")=some true
section
variable {prog:Program}{w:World}{A:Around}{E:Value->Shared->Prop}{s:Shared}{K:W.Frag}{e C:Addr}
open PySem.W Builtin Builtin.ObjectAttr Builtin.Getset_descriptor in
theorem YJM {M:Model}{h:Heap} (X:K.In h) (c:Xs K C):Looks M h (find (.ref e) (.ref C) "__class__") (Found.bind (Value.builtin "getset_descriptor.__get__") (Value.builtin "object.__class__")):=by
 have L2:Looks M h (getOf (some (.builtin "object.__class__"))) (some (.builtin "getset_descriptor.__get__")):=looks_specialIn X c.gs;have L3:Looks M h (dataDescriptor? (some (.builtin "object.__class__")) (some (.builtin "getset_descriptor.__get__"))) (some (.builtin "getset_descriptor.__get__",.builtin "object.__class__")):=(looks_takesIn X c.tk).andThen .now;exact(looks_findIn X c.cl).andThen (L2.andThen (L3.andThen (Looks.tag .now)))
open PySem.W Builtin Builtin.ObjectAttr Builtin.Getset_descriptor in
theorem exc_get {R:Result->Shared->Prop}{tp:Value}{oe:Obj} (X:K.In s.heap) (c:Xs K C) (he:s.heap.get? e=some oe) (hc:oe.cls=.ref C) (h:R (.ok (.ret (.ref C))) s):
  codeAny (model prog w) A (.call (.builtin "getset_descriptor.__get__") ⟨[.builtin "object.__class__",.ref e,tp],[]⟩) R s:=by
 obtain⟨hh,g,dr,t,os⟩:=s;have L0:Looks (model prog w) hh (typeOf (.ref e)) (.ref C):=hc ▸ (Looks.ld he).andThen .now;have L1:=looks_mroIn (M:=model prog w) X c.mo;refine codeAny_call_builtin KF.slot_gs.plain
  KF.entry_gs (KF.slot_gs.check _ _ _ _ _ _ _ _
   KF.type_class (KF.args_gs _ _ _) ?_)
 unfold Builtin.«getset_descriptor.__get__» descrGet;rw[dga_obj];refine YKG (YKV ?_);unfold descrGetter descrCheckInstance descrNameAndClass;unfold isInstance;simp only[KF.owner_class]
 repeat lk
 refine⟨Code.quiet_builtin _ (by decide +kernel),?_⟩;refine codeAny_builtin KF.entry_class ?_;unfold Builtin.«object.__class__»;unfold shownTypeOf
 repeat lk
 exact h
open PySem.W Builtin Builtin.ObjectAttr Builtin.Getset_descriptor in
theorem YBf {R:Result->Shared->Prop}{tk:Tok}{oe:Obj} (X:K.In s.heap) (c:Xs K C) (he:s.heap.get? e=some oe) (hc:oe.cls=.ref C) (h:R (.ok (.ret (.ref C))) s):
  codeAny (model prog w) A (.call (.builtin "BaseException.__getattribute__") ⟨[.ref e,.str "__class__" tk],[]⟩) R s:=by
 obtain⟨hh,g,dr,t,os⟩:=s;have L0:Looks (model prog w) hh (typeOf (.ref e)) (.ref C):=hc ▸ (Looks.ld he).andThen .now;have L1:=looks_mroIn (M:=model prog w) X c.mb;have L3:=YJM (e:=e) (M:=model prog w) X c;have hk:builtinKind "BaseException.__getattribute__"=some .slot:=by decide +kernel
 have hsplit:splitId "BaseException.__getattribute__"=some ("BaseException","__getattribute__"):=by decide +kernel
 have ha:=PySem.F.args_bexc_ga (.ref e) (.str "__class__" tk);refine codeAny_call_builtin PySem.F.excAttr_ValueError.ga.plain PySem.F.entry_bexc_ga ?_;simp only[checkBuiltinCall,hk,hsplit];unfold isInstance
 repeat lk
 refine wpAny_run (exc_get X c he hc ?_);dsimp only
 repeat lk
 exact h
open PySem.W Builtin Builtin.ObjectAttr Builtin.Getset_descriptor in
theorem YIF {Q:Option Value->Shared->Prop}{oe:Obj} (X:K.In s.heap) (c:Xs K C) (he:s.heap.get? e=some oe) (hc:oe.cls=.ref C) (h:Q (some (.ref C)) { s with toks:=s.toks + 1 }):
  wpAny (model prog w) A (getAttr? (.ref e) "__class__") Q E s:=by
 obtain⟨hh,g,d,t,os⟩:=s;have L0:Looks (model prog w) hh (typeOf (.ref e)) (.ref C):=hc ▸ (Looks.ld he).andThen .now;have L1:=looks_findIn (M:=model prog w) X c.ga;have L2:=looks_findIn (M:=model prog w) X c.gt;have hb:=PySem.F.excAttr_ValueError.ga.bind (.ref e);unfold getAttr? getAttrBy? getAttrBy;refine YKG (wpAny_mkText (YKG (wpAny_attempt (wpAny_holding (YKG (L0.at (YKG (L1.at ?_))))))));show wpAny _ _ (getAttrByItsOwn _ _ _ _ _ _) _ _ _;unfold getAttrByItsOwn hookBefore;refine YKG (L2.at ?_);refine YKG (wpAny_attempt (wpAny_holding ?_));show wpAny _ _ (boundAndCalled _ _ _) _ _ _;unfold boundAndCalled;rw[hb];refine YKG (YKV ?_);refine wpAny_call (YBf (s:=⟨hh,g,d,t + 1,os⟩) X c he hc ?_);dsimp only;exact handed_on rfl (YKV h)
open PySem.W in
theorem YFW (hq:Exc K C) (c:Xs K C):KitX K (.ref e) (.ref C) (λh=>∃oe,h.get? e=some oe/\oe.cls=.ref C) where
 ty:=λM h _ ⟨oe,he,hc⟩=>hc ▸ (Looks.ld he).andThen .now
 it:=λM h X _=>by
  obtain⟨_,_,_,_,_,_,_,_,_,_,_,_,_,_,_,_,_,hC,_⟩:=YEk X hq;intro A' Q' E' s' k q;unfold isType loadHead;exact YKG (wpAny_loadPart (k _ _ hC) (YKV q))
 ne:=λh tp dd its n sl X Rn=>by
  obtain⟨_,_,_,_,_,_,_,_,_,_,_,_,_,_,_,_,_,hC,_⟩:=YEk X hq;refine YLH.mpr λq=>?_
  have e2:C=tp:=Value.ref.inj (beq_iff_eq.mp q);subst e2;have z:Value.type "type"=Value.type "tuple":=YKr (YLR (Option.map Obj.cls) (hC.symm.trans Rn));exact absurd (Value.type.inj z) (by decide)
 ca:=λX ⟨oe,he,hc⟩ k=>YIF X c he hc k
end
section
variable {X:Cx}
theorem YIG:Zg X (.builtin "isinstance") (λxs H Q=>∃(e C:Addr) (c:V) (u:Value) (b:Bool),xs=[.ref e,c]/\H e=some (xO e (.ref C))/\Exc X.K C/\Xs X.K C/\clsV c=some u/\PySem.W.kitOne X.K (.ref C) u=some b/\Q (.bl b) H):=by
 intro pins s σ H xs us Q I r h;obtain⟨e,C,c,u,b,rfl,he,hq,ha,rc,ek,q⟩:=h;obtain⟨v,w,rfl,rv,mL⟩:=YFJ r;have eu:w=u:=YFV rc mL;subst eu;cases rv;obtain⟨p,_,_⟩:=(show Yq X.prog X.w H s.heap e (xO e (.ref C)) from I.hok e _ he);exact PySem.W.kia_one (YFW hq ha) I.kIn p ek nofun λtk=>⟨.bl b,H,I.tok tk,U,q⟩
theorem YD4:∀{cs:List Addr}{us:List Value},Yi (cs.map V.ref) us->us=cs.map Value.ref
 |[],_,.nil=>rfl
 |a :: l,_,.cons r1 r2=>by
  have e1:=(show _=Value.ref a from r1);rw[YKa,<-YD4 r2,e1]
theorem YGZ:Zg X (.builtin "isinstance") (λxs H Q=>∃(e C tp:Addr) (cs:List Addr) (b:Bool),xs=[.ref e,.ref tp]/\H e=some (xO e (.ref C))/\Exc X.K C/\Xs X.K C/\H tp=some (.tup (cs.map V.ref))/\PySem.W.kitAny X.K (.ref C) (cs.map Value.ref)=some b/\Q (.bl b) H):=by
 intro pins s σ H xs us Q I r h;obtain⟨e,C,tp,cs,b,rfl,he,hq,ha,ht,ek,q⟩:=h;obtain⟨v,w,rfl,rv,mL⟩:=YFJ r;cases rv;cases mL;obtain⟨p,_,_⟩:=(show Yq X.prog X.w H s.heap e (xO e (.ref C)) from I.hok e _ he);obtain⟨_,its,rs,o,ho,hc,n,hd⟩:=(show Yq X.prog X.w H s.heap tp (.tup (cs.map V.ref)) from I.hok tp _ ht);have ei:its=cs.map Value.ref:=YD4 rs;subst ei;obtain⟨oc,odd,odt,osl⟩:=o;cases hc;cases hd;exact PySem.W.kia_tup (YFW hq ha) I.kIn p ho ek nofun λtk=>⟨.bl b,H,I.tok tk,U,q⟩
theorem YAn (K:W.Frag) (hK:X.K=K):Zg X (.builtin "isinstance") (λxs H Q=>∃(e C:Addr) (c:V) (u:Value) (b:Bool),xs=[.ref e,c]/\H e=some (xO e (.ref C))/\Exc K C/\Xs K C/\clsV c=some u/\PySem.W.kitOne K (.ref C) u=some b/\Q (.bl b) H):=by
 subst hK;exact YIG
theorem YB2 (K:W.Frag) (hK:X.K=K):Zg X (.builtin "isinstance") (λxs H Q=>∃(e C tp:Addr) (cs:List Addr) (b:Bool),xs=[.ref e,.ref tp]/\H e=some (xO e (.ref C))/\Exc K C/\Xs K C/\H tp=some (.tup (cs.map V.ref))/\PySem.W.kitAny K (.ref C) (cs.map Value.ref)=some b/\Q (.bl b) H):=by
 subst hK;exact YGZ
end
end L2
namespace L2
open PySem PySem.Spec PyProof.Rows
section
variable {X:Cx} (K:W.Frag) (hK:X.K=K)
include hK
theorem Yc:IxR X (rIxL K):=by subst hK;exact ix_list
theorem Ya:IxR X (rIxT K):=by subst hK;exact ix_tup
theorem YCe:SlR X (rSlL K):=by subst hK;exact sl_list
theorem YCf:OpR X (compareOp .In) (rIn K false):=by subst hK;exact YH9
theorem YDU:OpR X (compareOp .NotIn) (rIn K true):=by subst hK;exact YEf
theorem YR:Zg X (.builtin "len") (λxs H Q=>∃p ys,xs=[.ref p]/\(SqL K H p ys\/SqT K H p ys)/\Q (.int ys.length) H):=by subst hK;exact YEg
theorem YAg:Zg X (.type "list") (λxs H Q=>∃p ys,xs=[.ref p]/\(SqL K H p ys\/SqT K H p ys)/\∀l,H l=none->Q (.ref l) (upd H l (.lst ys))):=by subst hK;exact YEh
theorem YCg:Zg X (.type "tuple") (λxs H Q=>∃p ys,xs=[.ref p]/\((SqL K H p ys/\∀l,H l=none->Q (.ref l) (upd H l (.tup ys)))\/(SqT K H p ys/\Q (.ref p) H))):=by subst hK;exact YDQ
theorem YBg (hc:X.calm=true):Zg X (.builtin "all") (λxs H Q=>∃(p:Addr) (bs:List Bool),xs=[.ref p]/\SqL K H p (bs.map V.bl)/\Q (.bl (bs.all id)) H):=by subst hK;exact YJI hc
theorem Zk:Zg X (.builtin "isinstance") (λxs H Q=>∃x c t u b,xs=[x,c]/\YAk K H x t/\clsV c=some u/\PySem.W.kitOne K t u=some b/\Q (.bl b) H):=by subst hK;exact YJK
theorem Je {tg l:Expr}{tl:TE} (hl:PE X l tl):PI X tg l (iList K tl):=by subst hK;exact pi_list hl
theorem YCK {tg l:Expr}{tl:TE} (hl:PE X l tl):PI X tg l (iTup K tl):=by subst hK;exact pi_tup hl
theorem YD5 {a:Expr}{ta:TE} (ha:PE X a ta) (he:∀whole,isTrue a X.env whole=(do let v <-whole;standAt a.pos;holding [v] (truthy v))):
  PT X a (λσ H Q=>ta σ H λx H'=>∃k,TruV K x H' k/\Q k H'):=by subst hK;exact YI0 ha he
theorem YBG {es:List Expr}{k:Nat}{t:TGs}{n:Nat}{pos:Pos} (hc:X.calm=true) (h:PGs X es t)
  (hn:(assignEach es X.env).length=n:=by rfl) (hst:(assignEach es X.env).findIdx? (·.1)=none:=by rfl):PG X (.Tuple es k pos) (gTup K n t):=by subst hK;exact pg_tup hc h hn hst
variable {o e:Expr}{es:List Expr}{to:TE}{t:TA}{name:Str}{dH bj:Pos}{T id:String}{r:V->List V->Hp->VK->Prop}
theorem YEm (pa:PlainAttrs T) (slot:Slot T name id) (vI:typeOf (.builtin id)=pure (.type "method_descriptor")) (hm:MtR X id r) (ho:PE X o to)
  (jr:attributeBase o name X.env (eval o X.env)=eval o X.env:=by rfl) (jt:(dH.endLine == bj.line)=true:=by rfl):PE X (.Call (.Attribute o name dH) [] [] bj) (tBM0 K T r to):=by
 subst hK;exact pe_bm0 pa slot vI hm ho jr jt
theorem ZS (pa:PlainAttrs T) (slot:Slot T name id) (vI:typeOf (.builtin id)=pure (.type "method_descriptor")) (hm:MtR X id r) (ho:PE X o to) (ha:PA X (e :: es) t)
  (jr:attributeBase o name X.env (eval o X.env)=eval o X.env:=by rfl)
  (vJ:((backTo bj (starEach (e :: es) X.env)).all (λx=>!x.1) && (backToKw bj (keywordEach [] X.env)).all (λx=>x.1.isSome)
   && decide ((e :: es).length + ([]:List Keyword).length + (if ([]:List Keyword).isEmpty then 0 else 1) < 30))=true:=by rfl)
  (jt:(dH.endLine == bj.line)=true:=by rfl) (hs:starEach (e :: es) X.env=(false,eval e X.env) :: starEach es X.env:=by rfl) (ju:(backTo bj (starEach es X.env)).any (·.1)=false:=by rfl):
  PE X (.Call (.Attribute o name dH) (e :: es) [] bj) (tBM K T r to t):=by
 subst hK;exact pe_bm pa slot vI hm ho ha jr vJ jt hs ju
end
end L2
namespace L2
open PySem PySem.Spec PyProof.Rows
section
variable {P:Program}{w:World}{K:W.Frag}{mg:Str->Option Value}{base:Heap}
theorem Fun.okX {x qual:Str}{st:Stmt}{f:Addr}{fd:FuncData}{N ps:List Str}{k:Nat}{sp:Sp} (F:Fun K x qual st f fd) (S:YV N ps (YJ st)) (len:∀vs H Q E,sp vs H Q E->vs.length=ps.length)
  (hbody:∀(aK:Value) (A:Around) (outer:List Env) (s:Shared) (H:Hp) (vs:List V) (Q:VK) (E:XK),XL k (A.deeper (envOfC qual (YJ st) s.heap.objs.size f aK))->sp vs H Q E->
   ∃t,PSs (YBc (CXo P w) P w K mg base N qual (YJ st) f aK A outer s H E) (JP st) t/\t { nx:=λ_ H'=>Q .non H',rt:=Q } (start N vs) H):Yz P w K mg base (CXo P w) (k + 1) f fd ps sp:=by
 obtain⟨oc,od,kV,doc,pm,an,aK,ct,osl,rfl,lk,hcd⟩:=F.ex;exact fn_of lk hcd S len λA outer s H vs Q E hr hsp=>hbody aK A outer s H vs Q E hr hsp
end
structure Yu (P:Program) (w:World) (K:W.Frag) (mg:Str->Option Value) (CX:CXT) (k:Nat) (x:Str) (ps:List Str) (sp:Sp):Prop where
 ok:∃f fd,(∀base,Yz P w K mg base CX k f fd ps sp)/\mg x=some (.ref f)/\PySem.W.keepIn K (.ref f)=true/\YCV K fd ps []
theorem passX {X:Cx}:YCW (CXo X.prog X.w) X E0:=λ_ _ _ _ _ _ _ ⟨_,_,_,_,_,h⟩=>h.elim
theorem YH.upd {H:Hp}{p:Addr}{o:HO} (h:H p=none):YH H (upd H p o):=λb u e=>by rw[YN (Yh e h)];exact e
theorem YH.put {H H':Hp}{p:Addr}{o:HO} (s:YH H H') (h:H p=none):YH H (L2.upd H' p o):=λb u e=>by rw[YN (Yh e h)];exact s b u e
def del (H:Hp) (l:Addr):Hp:=λb=>if b=l then none else H b
theorem YCh {H:Hp}{l b:Addr} (h:b≠l):del H l b=H b:=if_neg h
theorem YJN {H:Hp}{l:Addr}:del H l l=none:=if_pos rfl
theorem YFX (H:Hp) (l:Addr):YH (del H l) H:=λb o e=>by
 unfold del at e;split at e
 ·cases e
 ·exact e
theorem YH.del {H H':Hp} (s:YH H H') (l:Addr):YH (L2.del H l) (L2.del H' l):=λb o e=>by
 unfold L2.del at e ⊢;split at e
 ·cases e
 ·rw[if_neg (by assumption)];exact s b o e
theorem YEn {H:Hp}{l:Addr}{o:HO}:L2.del (L2.upd H l o) l=L2.del H l:=by
 funext b;unfold L2.del L2.upd;split <;> rfl
theorem comp_by {J:It}{g:TG}{tc:TT}{te:TE}{Q:VK}{l:Addr}{τ:St}{H1:Hp} (n:Nat) (W:Nat->List V->St->Hp->Prop) (h0:W 0 [] τ (upd H1 l (.lst [])))
  (hgo:∀i ys τ H (N:List V->St->Hp->Prop),i < n->W i ys τ H->(∀ys τ H,W (i + 1) ys τ H->N ys τ H)->J.go i H/\∀x H3,J.yld i H x H3->g x τ H3 λτ4 H4=>tc τ4 H4 λb H5=>
   if b=true then te τ4 H5 λy H6=>H6 l=some (.lst ys)/\ys.length < sizeLine/\N (ys ++ [y]) τ4 (upd H6 l (.lst (ys ++ [y]))) else N ys τ4 H5)
  (hst:∀ys τ H,W n ys τ H->J.stop n H/\Q (.ref l) H):YAl J g tc te Q l τ H1:=by
 refine⟨λi m ys τ H=>m=n - i/\i<=n/\W i ys τ H,⟨n,by simp,YKm _,h0⟩,?_⟩;rintro i m ys τ H ⟨rfl,hi,w⟩
 by_cases hlt:i < n
 ·exact .inr (hgo i ys τ H (λys τ H=>∃m',m' < n - i/\m'=n - (i + 1)/\i + 1<=n/\W (i + 1) ys τ H) hlt w λys τ H h=>⟨n - (i + 1),by lia,U,hlt,h⟩)
 ·have ei:i=n:=by lia
  subst ei;exact .inl (hst ys τ H w)
def YBh (J:It) (n:Nat) (H:Hp) (item:Nat->V->Prop):Prop:=∀i H',YH H H'->(i < n->J.go i H'/\∀x H3,J.yld i H' x H3->H3=H'/\item i x)/\J.stop n H'
theorem YAo {K:W.Frag}{a:Addr}{xs:List V}{H:Hp} (h:SqL K H a xs):YBh (Itl K a) xs.length H λi x=>xs[i]?=some x:=λi H' s=>by
 have h':=s.seq h;exact⟨λhi=>⟨⟨xs,xs[i],h',by simp[hi]⟩,λx H3 y=>⟨y.1,y.2 xs h'⟩⟩,⟨xs,h',YKH _⟩⟩
theorem YH.seqT {K:W.Frag}{H H':Hp}{a:Addr}{xs:List V} (e:YH H H') (h:SqT K H a xs):SqT K H' a xs:=by
 rcases h with (h |⟨o,h⟩) |h
 ·exact .inl (.inl (e _ _ h))
 ·exact .inl (.inr ⟨o,e _ _ h⟩)
 ·exact .inr h
theorem YD6 {K:W.Frag}{a:Addr}{xs:List V}{H:Hp} (h:SqT K H a xs):YBh (Itt K a) xs.length H λi x=>xs[i]?=some x:=λi H' s=>by
 have h':=s.seqT h;exact⟨λhi=>⟨⟨xs,xs[i],h',by simp[hi]⟩,λx H3 y=>⟨y.1,y.2 xs h'⟩⟩,⟨xs,h',YKH _⟩⟩
theorem X1 {lo:Int}{n:Nat}{H:Hp}:YBh (Itr lo n) n H λi x=>x=.int (lo + i):=λi H' s=>
 ⟨λhi=>⟨hi,λx H3 y=>y⟩,YKH _⟩
theorem JG {J:It}{n:Nat}{item:Nat->V->Prop}{te:TE}{Q:VK}{H:Hp}{l:Addr}{τ:St} (j0:Nat) (Py:Nat->V->Hp->Prop) (hJ:YBh J n H item) (mono:∀k y H H',YH H H'->Py k y H->Py k y H') (hp:YI H)
  (hl:H l=none) (hτ:j0 < τ.length) (hz:n<=sizeLine) (keep:St->Prop) (hk0:keep τ) (hks:∀τ' v,keep τ'->keep (τ'.set j0 v))
  (ht:∀(τ':St) (k:Nat) (x:V) (H':Hp) (R:VK),keep τ'->τ'[j0]?=some (some x)->item k x->k < n->YH H H'->YI H'->H' l≠none->(∀y H6,YH H' H6->YI H6->Py k y (del H6 l)->R y H6)->te τ' H' R)
  (hq:∀ys H',ys.length=n->(∀k y,ys[k]?=some y->Py k y (del H' l))->YH H H'->YI H'->H' l=some (.lst ys)->Q (.ref l) H'):YAl J (JH j0) tYes te Q l τ H:=by
 refine⟨λi m ys τ' H2=>m=n - i/\i<=n/\ys.length=i/\(∀k y,ys[k]?=some y->Py k y (del H2 l))/\j0 < τ'.length/\keep τ'/\YH H H2/\YI H2/\H2 l=some (.lst ys),
  ⟨n,by simp,YKm _,U,λk y e=>by simp at e,hτ,hk0,YH.upd hl,hp.upd rfl,YC⟩,?_⟩
 rintro i m ys τ' H2 ⟨rfl,hi,hy,hP,hτ',hk',hs,hpl,hll⟩;obtain⟨hgo,hst⟩:=hJ i H2 hs
 by_cases hlt:i < n
 ·obtain⟨h1,h2⟩:=hgo hlt;refine .inr ⟨h1,λx H3 Qm=>?_⟩;obtain⟨eH,hit⟩:=h2 x H3 Qm;subst eH;show te _ _ _;refine ht _ i x _ _ (hks _ _ hk') ?_ hit hlt hs hpl (by rw[hll];intro z;cases z) λy H6 s6 p6 py=>?_
  ·rw[YLh hτ']
  ·have wB:H6 l=some (.lst ys):=s6 _ _ hll;refine⟨wB,by lia,n - (i + 1),by lia,U,hlt,by simp[hy],λk z e=>?_,by rw[YLZ];exact hτ',hks _ _ hk',(hs.trans s6).put hl,p6.upd rfl,YC⟩;rw[YEn]
   by_cases hkl:k < ys.length
   ·rw[YLA hkl]at e;exact mono k z _ _ (s6.del l) (hP k z e)
   ·rw[YKw (by lia)]at e;have hk0:k - ys.length=0:=by
     cases hh:k - ys.length with
     |zero=>rfl
     |succ j=>rw[hh]at e;simp at e
    rw[hk0]at e;have e2:y=z:=by simpa using e
    have e3:k=i:=by lia
    subst e2 e3;exact py
 ·have ei:i=n:=by lia
  subst ei;exact .inl ⟨hst,hq ys H2 hy hP hs hpl hll⟩
end L2
namespace L2
open PySem PySem.Spec PyProof.Rows
inductive D where
 |non |bl (b:Bool) |int (i:Int) |str (x:Str) |lst (xs:List D) |tup (xs:List D) |oth
mutual
def eqD:D->D->Bool
 |.non,.non=>true
 |.bl a,.bl b=>a == b
 |.bl a,.int b=>(if a then (1:Int) else 0) == b
 |.int a,.bl b=>a == (if b then (1:Int) else 0)
 |.int a,.int b=>a == b
 |.str a,.str b=>a == b
 |.lst xs,.lst ys=>YAp xs ys
 |.tup xs,.tup ys=>YAp xs ys
 |_,_=>false
def YAp:List D->List D->Bool
 |[],[]=>true
 |x :: xs,y :: ys=>eqD x y && YAp xs ys
 |_,_=>false
end
mutual
def D.dep:D->Nat
 |.lst xs=>YFY xs + 1
 |.tup xs=>YFY xs + 1
 |_=>0
def YFY:List D->Nat
 |[]=>0
 |x :: xs=>max x.dep (YFY xs)
end
mutual
def Den (H:Hp):V->D->Prop
 |v,.non=>v=.non
 |v,.bl b=>v=.bl b
 |v,.int i=>v=.int i
 |v,.str x=>v=.str x
 |v,.lst ds=>∃a xs,v=.ref a/\Rd H a (.lst xs)/\YS H xs ds
 |v,.tup ds=>∃a xs,v=.ref a/\H a=some (.tup xs)/\YS H xs ds
 |v,.oth=>∃a kvs,v=.ref a/\H a=some (.dK kvs)
def YS (H:Hp):List V->List D->Prop
 |[],[]=>True
 |v :: vs,d :: ds=>Den H v d/\YS H vs ds
 |_,_=>False
end
mutual
def D.ok:D->Bool
 |.lst xs=>okS xs
 |.tup xs=>okS xs
 |.oth=>false
 |_=>true
def okS:List D->Bool
 |[]=>true
 |x :: xs=>x.ok && okS xs
end
theorem YBH:∀{xs:List D}{d:D},okS xs=true->d∈xs->d.ok=true
 |x :: xs,d,h,hd=>by
  unfold okS at h;rw[YKM]at h;rcases YKT.mp hd with rfl |hd
  ·exact h.1
  ·exact YBH h.2 hd
theorem YGa:∀{xs:List D},(∀d∈xs,d.ok=true)->okS xs=true
 |[],_=>by unfold okS;rfl
 |x :: xs,h=>by unfold okS;rw[h x YKd,YGa λd hd=>h d (YKY _ hd)];rfl
theorem YEo:∀{xs:List D}{d:D},d∈xs->d.dep<=YFY xs
 |x :: xs,d,h=>by
  unfold YFY;rcases YKT.mp h with rfl |h
  ·exact Nat.le_max_left _ _
  ·exact YKq (YEo h) (Nat.le_max_right _ _)
mutual
theorem Jf:∀d:D,d.ok=true->eqD d d=true
 |.non,_=>by unfold eqD;rfl
 |.bl b,_=>by unfold eqD;exact beq_self_eq_true b
 |.int i,_=>by unfold eqD;exact beq_self_eq_true i
 |.str x,_=>by unfold eqD;exact beq_self_eq_true x
 |.lst xs,h=>by unfold eqD;unfold D.ok at h;exact YBi xs h
 |.tup xs,h=>by unfold eqD;unfold D.ok at h;exact YBi xs h
 |.oth,h=>by unfold D.ok at h;cases h
theorem YBi:∀ds:List D,okS ds=true->YAp ds ds=true
 |[],_=>by unfold YAp;rfl
 |d :: ds,h=>by
  unfold okS at h;rw[YKM]at h;unfold YAp;rw[Jf d h.1,YBi ds h.2];rfl
end
theorem eqD_lst (xs ys:List D):eqD (.lst xs) (.lst ys)=YAp xs ys:=by unfold eqD;rfl
theorem eqD_tup (xs ys:List D):eqD (.tup xs) (.tup ys)=YAp xs ys:=by unfold eqD;rfl
theorem YCi:∀{xs ys:List D},xs.length≠ys.length->YAp xs ys=false
 |[],[],h=>absurd rfl h
 |[],_ :: _,_=>by unfold YAp;rfl
 |_ :: _,[],_=>by unfold YAp;rfl
 |x :: xs,y :: ys,h=>by
  unfold YAp;rw[YCi (xs:=xs) (ys:=ys) λe=>h (by rw[YKX,YKX,e]),Bool.and_false]
theorem YCj:∀{xs ys:List D},xs.length=ys.length->YAp xs ys=(List.range xs.length).all λj=>eqD (xs.getD j .non) (ys.getD j .non)
 |[],[],_=>by unfold YAp;rfl
 |[],_ :: _,h=>by cases h
 |_ :: _,[],h=>by cases h
 |x :: xs,y :: ys,h=>by
  unfold YAp;rw[YCj (xs:=xs) (ys:=ys) (Nat.succ.inj h),YKX,List.range_succ_eq_map,YLV,List.all_map];rfl
section
variable {H H':Hp}
theorem YS.len:∀{xs:List V}{ds:List D},YS H xs ds->xs.length=ds.length
 |[],[],_=>rfl
 |[],_ :: _,h=>by unfold YS at h;exact h.elim
 |_ :: _,[],h=>by unfold YS at h;exact h.elim
 |v :: vs,d :: ds,h=>by
  unfold YS at h;rw[YKX,YKX,YS.len h.2]
theorem YS.get:∀{xs:List V}{ds:List D}{i:Nat}{v:V},YS H xs ds->xs[i]?=some v->∃d,ds[i]?=some d/\Den H v d
 |[],_,i,v,_,e=>by simp at e
 |_ :: _,[],_,_,h,_=>by unfold YS at h;exact h.elim
 |x :: xs,d :: ds,0,v,h,e=>by
  unfold YS at h;simp at e;subst e;exact⟨d,U,h.1⟩
 |x :: xs,d :: ds,i + 1,v,h,e=>by
  unfold YS at h;exact YS.get (i:=i) h.2 (by simpa using e)
theorem YS.getD:∀{xs:List V}{ds:List D}{i:Nat}{d:D},YS H xs ds->ds[i]?=some d->∃v,xs[i]?=some v/\Den H v d
 |_,[],i,v,_,e=>by simp at e
 |[],_ :: _,_,_,h,_=>by unfold YS at h;exact h.elim
 |x :: xs,d :: ds,0,v,h,e=>by
  unfold YS at h;simp at e;subst e;exact⟨x,U,h.1⟩
 |x :: xs,d :: ds,i + 1,v,h,e=>by
  unfold YS at h;exact YS.getD (i:=i) h.2 (by simpa using e)
theorem YS.nil:YS H [] []:=by unfold YS;trivial
theorem YS.cons {v:V}{vs:List V}{d:D}{ds:List D} (h:Den H v d) (hs:YS H vs ds):YS H (v :: vs) (d :: ds):=by unfold YS;exact⟨h,hs⟩
theorem YS.append:∀{xs ys:List V}{ds es:List D},YS H xs ds->YS H ys es->YS H (xs ++ ys) (ds ++ es)
 |[],_,[],_,_,h=>h
 |[],_,_ :: _,_,h,_=>by unfold YS at h;exact h.elim
 |_ :: _,_,[],_,h,_=>by unfold YS at h;exact h.elim
 |x :: xs,ys,d :: ds,es,h,h2=>by
  unfold YS at h;exact .cons h.1 (YS.append h.2 h2)
theorem YS.of_all:∀{xs:List V}{ds:List D},xs.length=ds.length->(∀(i:Nat) (v:V) (d:D),xs[i]?=some v->ds[i]?=some d->Den H v d)->YS H xs ds
 |[],[],_,_=>.nil
 |[],_ :: _,h,_=>by cases h
 |_ :: _,[],h,_=>by cases h
 |x :: xs,d :: ds,h,k=>.cons (k 0 x d rfl rfl) (YS.of_all (Nat.succ.inj h) λi v e h1 h2=>k (i + 1) v e (by simpa using h1) (by simpa using h2))
theorem YS.take {xs:List V}{ds:List D} (h:YS H xs ds) (n:Nat):YS H (xs.take n) (ds.take n):=by
 have hl:=h.len;refine .of_all (by rw[YK3,YK3,hl]) λi v d h1 h2=>?_
 rw[List.getElem?_take]at h1 h2;split at h1
 ·rw[if_pos (by assumption)]at h2;obtain⟨e,he,hd⟩:=h.get h1;rw[h2]at he;cases he;exact hd
 ·cases h1
theorem YS.drop {xs:List V}{ds:List D} (h:YS H xs ds) (n:Nat):YS H (xs.drop n) (ds.drop n):=by
 have hl:=h.len;refine .of_all (by rw[YK4,YK4,hl]) λi v d h1 h2=>?_
 rw[List.getElem?_drop]at h1 h2;obtain⟨e,he,hd⟩:=h.get h1;rw[h2]at he;cases he;exact hd
theorem Den.lst {a:Addr}{xs:List V}{ds:List D} (h:Rd H a (.lst xs)) (hs:YS H xs ds):Den H (.ref a) (.lst ds):=by unfold Den;exact⟨a,xs,U,h,hs⟩
theorem Den.tup {a:Addr}{xs:List V}{ds:List D} (h:H a=some (.tup xs)) (hs:YS H xs ds):Den H (.ref a) (.tup ds):=by unfold Den;exact⟨a,xs,U,h,hs⟩
theorem Den.int (i:Int):Den H (.int i) (.int i):=by unfold Den;rfl
theorem Den.str (x:Str):Den H (.str x) (.str x):=by unfold Den;rfl
theorem Den.bl (b:Bool):Den H (.bl b) (.bl b):=by unfold Den;rfl
theorem Den.non:Den H .non .non:=by unfold Den;rfl
theorem Den.to_lst {v:V}{ds:List D} (h:Den H v (.lst ds)):∃a xs,v=.ref a/\Rd H a (.lst xs)/\YS H xs ds:=by unfold Den at h;exact h
theorem Den.to_tup {v:V}{ds:List D} (h:Den H v (.tup ds)):∃a xs,v=.ref a/\H a=some (.tup xs)/\YS H xs ds:=by unfold Den at h;exact h
theorem Den.to_int {v:V}{i:Int} (h:Den H v (.int i)):v=.int i:=by unfold Den at h;exact h
theorem Den.to_str {v:V}{i:Str} (h:Den H v (.str i)):v=.str i:=by unfold Den at h;exact h
theorem YS.ints:∀(ns:List Int),YS H (ns.map V.int) (ns.map D.int)
 |[]=>.nil
 |n :: ns=>.cons (.int n) (YS.ints ns)
theorem YS.strs:∀(ns:List Str),YS H (ns.map V.str) (ns.map D.str)
 |[]=>.nil
 |n :: ns=>.cons (.str n) (YS.strs ns)
theorem YH.rd {a:Addr}{u:HO} (e:YH H H') (h:Rd H a u):Rd H' a u:=by
 rcases h with h |⟨o,h⟩
 ·exact .inl (e _ _ h)
 ·exact .inr ⟨o,e _ _ h⟩
theorem Rd.inj {a:Addr}{xs ys:List V} (h:Rd H a (.lst xs)) (h':Rd H a (.lst ys)):xs=ys:=by
 rcases h with h |⟨o,h⟩ <;> rcases h' with h' |⟨o',h'⟩ <;> rw[h]at h' <;> cases h' <;> rfl
mutual
theorem Den.same (e:YH H H'):∀{v:V}{d:D},Den H v d->Den H' v d
 |_,.non,h=>by unfold Den at h ⊢;exact h
 |_,.bl _,h=>by unfold Den at h ⊢;exact h
 |_,.int _,h=>by unfold Den at h ⊢;exact h
 |_,.str _,h=>by unfold Den at h ⊢;exact h
 |_,.lst ds,h=>by
  unfold Den at h ⊢;obtain⟨a,xs,e1,e2,e3⟩:=h;exact⟨a,xs,e1,e.rd e2,YS.same e e3⟩
 |_,.tup ds,h=>by
  unfold Den at h ⊢;obtain⟨a,xs,e1,e2,e3⟩:=h;exact⟨a,xs,e1,e _ _ e2,YS.same e e3⟩
 |_,.oth,h=>by
  unfold Den at h ⊢;obtain⟨a,kvs,e1,e2⟩:=h;exact⟨a,kvs,e1,e _ _ e2⟩
theorem YS.same (e:YH H H'):∀{vs:List V}{ds:List D},YS H vs ds->YS H' vs ds
 |[],[],h=>.nil
 |[],_ :: _,h=>by unfold YS at h;exact h.elim
 |_ :: _,[],h=>by unfold YS at h;exact h.elim
 |v :: vs,d :: ds,h=>by
  unfold YS at h;exact .cons (Den.same e h.1) (YS.same e h.2)
end
end
section
variable {X:Cx}{pins:List (Addr×Obj)}{σ:St}{H:Hp}{s:Shared}
mutual
theorem Den.uniq:∀{v:V}{d d':D},Den H v d->Den H v d'->d=d'
 |v,.non,d',h,h'=>by
  unfold Den at h;subst h;cases d' with
  |non=>rfl
  |lst es=>unfold Den at h';obtain⟨_,_,z,_⟩:=h';cases z
  |tup es=>unfold Den at h';obtain⟨_,_,z,_⟩:=h';cases z
  |oth=>unfold Den at h';obtain⟨_,_,z,_⟩:=h';cases z
  |_=>unfold Den at h';cases h'
 |v,.bl b,d',h,h'=>by
  unfold Den at h;subst h;cases d' with
  |bl c=>unfold Den at h';cases h';rfl
  |lst es=>unfold Den at h';obtain⟨_,_,z,_⟩:=h';cases z
  |tup es=>unfold Den at h';obtain⟨_,_,z,_⟩:=h';cases z
  |oth=>unfold Den at h';obtain⟨_,_,z,_⟩:=h';cases z
  |_=>unfold Den at h';cases h'
 |v,.int b,d',h,h'=>by
  unfold Den at h;subst h;cases d' with
  |int c=>unfold Den at h';cases h';rfl
  |lst es=>unfold Den at h';obtain⟨_,_,z,_⟩:=h';cases z
  |tup es=>unfold Den at h';obtain⟨_,_,z,_⟩:=h';cases z
  |oth=>unfold Den at h';obtain⟨_,_,z,_⟩:=h';cases z
  |_=>unfold Den at h';cases h'
 |v,.str b,d',h,h'=>by
  unfold Den at h;subst h;cases d' with
  |str c=>unfold Den at h';cases h';rfl
  |lst es=>unfold Den at h';obtain⟨_,_,z,_⟩:=h';cases z
  |tup es=>unfold Den at h';obtain⟨_,_,z,_⟩:=h';cases z
  |oth=>unfold Den at h';obtain⟨_,_,z,_⟩:=h';cases z
  |_=>unfold Den at h';cases h'
 |v,.lst ds,d',h,h'=>by
  obtain⟨a,xs,rfl,e2,e3⟩:=h.to_lst;cases d' with
  |lst es=>
   obtain⟨b,ys,z,f2,f3⟩:=h'.to_lst;cases z;have:=e2.inj f2;subst this;rw[YS.uniq e3 f3]
  |tup es=>
   obtain⟨b,ys,z,f2,f3⟩:=h'.to_tup;cases z;rcases e2 with e2 |⟨o,e2⟩ <;> rw[e2]at f2 <;> cases f2
  |oth=>
   unfold Den at h';obtain⟨b,ys,z,f2⟩:=h';cases z;rcases e2 with e2 |⟨o,e2⟩ <;> rw[e2]at f2 <;> cases f2
  |_=>unfold Den at h';cases h'
 |v,.tup ds,d',h,h'=>by
  obtain⟨a,xs,rfl,e2,e3⟩:=h.to_tup;cases d' with
  |tup es=>
   obtain⟨b,ys,z,f2,f3⟩:=h'.to_tup;cases z;rw[e2]at f2;cases f2;rw[YS.uniq e3 f3]
  |lst es=>
   obtain⟨b,ys,z,f2,f3⟩:=h'.to_lst;cases z;rcases f2 with f2 |⟨o,f2⟩ <;> rw[e2]at f2 <;> cases f2
  |oth=>
   unfold Den at h';obtain⟨b,ys,z,f2⟩:=h';cases z;rw[e2]at f2;cases f2
  |_=>unfold Den at h';cases h'
 |v,.oth,d',h,h'=>by
  unfold Den at h;obtain⟨a,kvs,rfl,e2⟩:=h;cases d' with
  |oth=>rfl
  |lst es=>
   obtain⟨b,ys,z,f2,f3⟩:=h'.to_lst;cases z;rcases f2 with f2 |⟨o,f2⟩ <;> rw[e2]at f2 <;> cases f2
  |tup es=>
   obtain⟨b,ys,z,f2,f3⟩:=h'.to_tup;cases z;rw[e2]at f2;cases f2
  |_=>unfold Den at h';cases h'
theorem YS.uniq:∀{vs:List V}{ds es:List D},YS H vs ds->YS H vs es->ds=es
 |[],[],[],_,_=>rfl
 |[],_ :: _,_,h,_=>by unfold YS at h;exact h.elim
 |[],_,_ :: _,_,h=>by unfold YS at h;exact h.elim
 |_ :: _,[],_,h,_=>by unfold YS at h;exact h.elim
 |_ :: _,_,[],_,h=>by unfold YS at h;exact h.elim
 |v :: vs,d :: ds,e :: es,h,h'=>by
  unfold YS at h h';rw[Den.uniq h.1 h'.1,YS.uniq h.2 h'.2]
end
def tyD:D->String
 |.non=>"NoneType"
 |.bl _=>"bool"
 |.int _=>"int"
 |.str _=>"str"
 |.lst _=>"list"
 |.tup _=>"tuple"
 |.oth=>"dict"
theorem Den.ty {K:W.Frag}:∀{v:V}{d:D},Den H v d->YAk K H v (.type (tyD d))
 |_,.non,h=>by unfold Den at h;subst h;exact .non
 |_,.bl b,h=>by unfold Den at h;subst h;exact .bl b
 |_,.int b,h=>by unfold Den at h;subst h;exact .int b
 |_,.str b,h=>by unfold Den at h;subst h;exact .str b
 |_,.lst ds,h=>by
  obtain⟨a,xs,rfl,e2 |⟨o,e2⟩,_⟩:=h.to_lst
  ·exact .lst e2
  ·exact .frz e2
 |_,.tup ds,h=>by
  obtain⟨a,xs,rfl,e2,_⟩:=h.to_tup;exact .tup e2
 |_,.oth,h=>by
  unfold Den at h;obtain⟨a,kvs,rfl,e2⟩:=h;exact .dK e2
theorem YHI {ds:List D}{i:Nat}{d:D} (h:ds[i]?=some d):ds.getD i .non=d:=by
 rw[List.getD_eq_getElem?_getD,h];rfl
structure Cmp (A:Around) (s:Shared) (x y:Value) (b:Bool):Prop where
 eq:SeqAt.EqAt A s x y b
 rc:SeqAt.RcAt A s x y b
 ne:SeqAt.RcNeAt A s x y (!b)
theorem YHJ {A:Around}{xs ys:List V}{ds es:List D}{its dz:List Value} (h1:YS H xs ds) (h2:YS H ys es) (r1:Yi xs its) (r2:Yi ys dz)
  (ih:∀(d d':D) (v u:V) (x y:Value),d∈ds->d'∈es->Den H v d->Den H u d'->Yk v x->Yk u y->SeqAt.EqAt A s x y (eqD d d')):
  ∀j (q1:j < its.toArray.size) (q2:j < dz.toArray.size),SeqAt.EqAt A s its.toArray[j] dz.toArray[j] (eqD (ds.getD j .non) (es.getD j .non)):=by
 intro j q1 q2;have l1:=r1.length;have l2:=r2.length;have Wn:j < xs.length:=by rw[l1];simpa using q1
 have Wo:j < ys.length:=by rw[l2];simpa using q2
 obtain⟨d,hd,den⟩:=h1.get (i:=j) (YKK Wn);obtain⟨d',hd',Qn⟩:=h2.get (i:=j) (YKK Wo);obtain⟨u,hu,ru⟩:=r1.get (YKK Wn);obtain⟨u',hu',Ro⟩:=r2.get (YKK Wo);rw[YHI hd,YHI hd'];have e1:its.toArray[j]=u:=by
  have:its.toArray[j]?=some u:=by simpa using hu
  rw[Array.getElem?_eq_getElem q1]at this;exact YKr this
 have e2:dz.toArray[j]=u':=by
  have:dz.toArray[j]?=some u':=by simpa using hu'
  rw[Array.getElem?_eq_getElem q2]at this;exact YKr this
 rw[e1,e2];exact ih d d' _ _ _ _ (YKL hd) (YKL hd') den Qn ru Ro
theorem X2 {A:Around}{a b:Addr}{d d':D}{k:Bool} (hk:k=eqD d d') (hok:d.ok=true) (h1:Den H (.ref a) d) (h2:Den H (.ref b) d') (rc:SeqAt.RcAt A s (.ref a) (.ref b) k) (ne:SeqAt.RcNeAt A s (.ref a) (.ref b) (!k)):Cmp A s (.ref a) (.ref b) (eqD d d'):=by
 subst hk;refine⟨?_,rc,ne⟩
 by_cases hab:a=b
 ·subst hab;have:=h1.uniq h2;subst this;rw[Jf _ hok];exact .same _
 ·exact .of_refs hab rc
theorem cmp_D (I:Inv X pins σ H s):∀(n:Nat) (A:Around) (d d':D) (v u:V) (x y:Value),d.ok=true->d'.ok=true->d.dep<=n->A.units + n < cLine->Den H v d->Den H u d'->Yk v x->Yk u y->Cmp A s x y (eqD d d'):=by
 intro n
 induction n with
 |zero=>
  intro A d d' v u x y hok hok' hn hu h h' r r';have hu':A.units < cLine:=by lia
  cases d with
  |lst ds=>unfold D.dep at hn;lia
  |tup ds=>unfold D.dep at hn;lia
  |oth=>unfold D.ok at hok;cases hok
  |non=>
   unfold Den at h;subst h;cases r;cases d' with
   |non=>unfold Den at h';subst h';cases r';unfold eqD;exact⟨.same _,.none_none,.none_none⟩
   |bl b=>unfold Den at h';subst h';cases r';unfold eqD;exact⟨.none_bool _,.none_bool _,.none_bool _⟩
   |int b=>unfold Den at h';subst h';obtain⟨t,rfl⟩:=r';unfold eqD;exact⟨.none_int _ _,.none_int _ _,.none_int _ _⟩
   |str b=>unfold Den at h';subst h';obtain⟨t,rfl⟩:=r';unfold eqD;exact⟨.none_str _ _,.none_str _ _,.none_str _ _⟩
   |lst ds=>obtain⟨a,xs,rfl,e2,_⟩:=h'.to_lst;cases r';obtain⟨_,_,p,_⟩:=I.list (.inl e2);unfold eqD;exact⟨.none_list p.isList hu',.none_list p.isList hu',.none_list p.isList hu'⟩
   |tup ds=>obtain⟨a,xs,rfl,e2,_⟩:=h'.to_tup;cases r';obtain⟨_,_,p,_⟩:=I.tuple (.inl (.inl e2));unfold eqD;exact⟨.none_tuple p hu',.none_tuple p hu',.none_tuple p hu'⟩
   |oth=>unfold D.ok at hok';cases hok'
  |bl c=>
   unfold Den at h;subst h;cases r;cases d' with
   |non=>unfold Den at h';subst h';cases r';unfold eqD;exact⟨.bool_none _,.bool_none _,.bool_none _⟩
   |bl b=>unfold Den at h';subst h';cases r';unfold eqD;exact⟨.bool_bool _ _,.bool_bool _ _,.bool_bool _ _⟩
   |int b=>unfold Den at h';subst h';obtain⟨t,rfl⟩:=r';unfold eqD;exact⟨.bool_int _ _ _,.bool_int _ _ _,.bool_int _ _ _⟩
   |str b=>unfold Den at h';subst h';obtain⟨t,rfl⟩:=r';unfold eqD;exact⟨.bool_str _ _ _,.bool_str _ _ _,.bool_str _ _ _⟩
   |lst ds=>obtain⟨a,xs,rfl,e2,_⟩:=h'.to_lst;cases r';obtain⟨_,_,p,_⟩:=I.list (.inl e2);unfold eqD;exact⟨.bool_list _ p.isList hu',.bool_list _ p.isList hu',.bool_list _ p.isList hu'⟩
   |tup ds=>obtain⟨a,xs,rfl,e2,_⟩:=h'.to_tup;cases r';obtain⟨_,_,p,_⟩:=I.tuple (.inl (.inl e2));unfold eqD;exact⟨.bool_tuple _ p hu',.bool_tuple _ p hu',.bool_tuple _ p hu'⟩
   |oth=>unfold D.ok at hok';cases hok'
  |int c=>
   unfold Den at h;subst h;obtain⟨t,rfl⟩:=r;cases d' with
   |non=>unfold Den at h';subst h';cases r';unfold eqD;exact⟨.int_none _ _,.int_none _ _,.int_none _ _⟩
   |bl b=>unfold Den at h';subst h';cases r';unfold eqD;exact⟨.int_bool _ _ _,.int_bool _ _ _,.int_bool _ _ _⟩
   |int b=>unfold Den at h';subst h';obtain⟨t,rfl⟩:=r';unfold eqD;exact⟨.int_int _ _ _ _,.int_int _ _ _ _,.int_int _ _ _ _⟩
   |str b=>unfold Den at h';subst h';obtain⟨t,rfl⟩:=r';unfold eqD;exact⟨.int_str _ _ _ _,.int_str _ _ _ _,.int_str _ _ _ _⟩
   |lst ds=>obtain⟨a,xs,rfl,e2,_⟩:=h'.to_lst;cases r';obtain⟨_,_,p,_⟩:=I.list (.inl e2);unfold eqD;exact⟨.int_list _ _ p.isList hu',.int_list _ _ p.isList hu',.int_list _ _ p.isList hu'⟩
   |tup ds=>obtain⟨a,xs,rfl,e2,_⟩:=h'.to_tup;cases r';obtain⟨_,_,p,_⟩:=I.tuple (.inl (.inl e2));unfold eqD;exact⟨.int_tuple _ _ p hu',.int_tuple _ _ p hu',.int_tuple _ _ p hu'⟩
   |oth=>unfold D.ok at hok';cases hok'
  |str c=>
   unfold Den at h;subst h;obtain⟨t,rfl⟩:=r;cases d' with
   |non=>unfold Den at h';subst h';cases r';unfold eqD;exact⟨.str_none _ _,.str_none _ _,.str_none _ _⟩
   |bl b=>unfold Den at h';subst h';cases r';unfold eqD;exact⟨.str_bool _ _ _,.str_bool _ _ _,.str_bool _ _ _⟩
   |int b=>unfold Den at h';subst h';obtain⟨t,rfl⟩:=r';unfold eqD;exact⟨.str_int _ _ _ _,.str_int _ _ _ _,.str_int _ _ _ _⟩
   |str b=>unfold Den at h';subst h';obtain⟨t,rfl⟩:=r';unfold eqD;exact⟨.str_str _ _ _ _,.str_str _ _ _ _,.str_str _ _ _ _⟩
   |lst ds=>obtain⟨a,xs,rfl,e2,_⟩:=h'.to_lst;cases r';obtain⟨_,_,p,_⟩:=I.list (.inl e2);unfold eqD;exact⟨.str_list _ _ p.isList hu',.str_list _ _ p.isList hu',.str_list _ _ p.isList hu'⟩
   |tup ds=>obtain⟨a,xs,rfl,e2,_⟩:=h'.to_tup;cases r';obtain⟨_,_,p,_⟩:=I.tuple (.inl (.inl e2));unfold eqD;exact⟨.str_tuple _ _ p hu',.str_tuple _ _ p hu',.str_tuple _ _ p hu'⟩
   |oth=>unfold D.ok at hok';cases hok'
 |succ n ih=>
  intro A d d' v u x y hok hok' hn hu h h' r r';have hu':A.units < cLine:=by lia
  have hin:A.in1.units + n < cLine:=by show A.units + 1 + n < cLine;lia
  cases d with
  |lst ds=>
   have hn':∀d∈ds,d.dep<=n:=λd hd=>by
    have h1:=YEo hd;unfold D.dep at hn
    lia
   obtain⟨a,xs,rfl,e2,e3⟩:=h.to_lst;cases r;obtain⟨its,r1,p,_⟩:=I.list (.inl e2);cases d' with
   |oth=>unfold D.ok at hok';cases hok'
   |non=>unfold Den at h';subst h';cases r';unfold eqD;exact⟨.list_none p.isList hu',.list_none p.isList hu',.list_none p.isList hu'⟩
   |bl b=>unfold Den at h';subst h';cases r';unfold eqD;exact⟨.list_bool _ p.isList hu',.list_bool _ p.isList hu',.list_bool _ p.isList hu'⟩
   |int b=>unfold Den at h';subst h';obtain⟨t,rfl⟩:=r';unfold eqD;exact⟨.list_int _ _ p.isList hu',.list_int _ _ p.isList hu',.list_int _ _ p.isList hu'⟩
   |str b=>unfold Den at h';subst h';obtain⟨t,rfl⟩:=r';unfold eqD;exact⟨.list_str _ _ p.isList hu',.list_str _ _ p.isList hu',.list_str _ _ p.isList hu'⟩
   |tup es=>obtain⟨b,ys,rfl,f2,f3⟩:=h'.to_tup;cases r';obtain⟨_,_,p2,_⟩:=I.tuple (.inl (.inl f2));unfold eqD;exact⟨.list_tuple p.isList p2 hu',.list_tuple p.isList p2 hu',.list_tuple p.isList p2 hu'⟩
   |lst es=>
    have qJ:=hok;have qM:=hok';unfold D.ok at qJ qM;obtain⟨b,ys,rfl,f2,f3⟩:=h'.to_lst;cases r';obtain⟨dz,r2,p2,_⟩:=I.list (.inl f2);have n1:its.toArray.size=ds.length:=by rw[YKQ,<-r1.length,e3.len]
    have n2:dz.toArray.size=es.length:=by rw[YKQ,<-r2.length,f3.len]
    by_cases hl:ds.length=es.length
    ·have items:=YHJ (A:=A.in1) e3 f3 r1 r2 λd d' v u x y hd hd' q1 q2 q3 q4=>(ih A.in1 d d' v u x y (YBH qJ hd) (YBH qM hd') (hn' d hd) hin q1 q2 q3 q4).eq
     refine X2 (k:=(List.range its.toArray.size).all λj=>eqD (ds.getD j .non) (es.getD j .non)) ?_ hok h h' (.lists p.isList p2.isList (by rw[n1,n2,hl]) hu' items) (.lists p.isList p2.isList (by rw[n1,n2,hl]) hu' items);rw[n1,<-YCj hl,eqD_lst]
    ·refine X2 (k:=false) ?_ hok h h' (.lists_lengths p.isList p2.isList (by rw[n1,n2];simpa using hl) hu') (.lists_lengths p.isList p2.isList (by rw[n1,n2];simpa using hl) hu');unfold eqD;rw[YCi hl]
  |tup ds=>
   have hn':∀d∈ds,d.dep<=n:=λd hd=>by
    have h1:=YEo hd;unfold D.dep at hn
    lia
   obtain⟨a,xs,rfl,e2,e3⟩:=h.to_tup;cases r;obtain⟨its,r1,p,_⟩:=I.tuple (.inl (.inl e2));cases d' with
   |oth=>unfold D.ok at hok';cases hok'
   |non=>unfold Den at h';subst h';cases r';unfold eqD;exact⟨.tuple_none p hu',.tuple_none p hu',.tuple_none p hu'⟩
   |bl b=>unfold Den at h';subst h';cases r';unfold eqD;exact⟨.tuple_bool _ p hu',.tuple_bool _ p hu',.tuple_bool _ p hu'⟩
   |int b=>unfold Den at h';subst h';obtain⟨t,rfl⟩:=r';unfold eqD;exact⟨.tuple_int _ _ p hu',.tuple_int _ _ p hu',.tuple_int _ _ p hu'⟩
   |str b=>unfold Den at h';subst h';obtain⟨t,rfl⟩:=r';unfold eqD;exact⟨.tuple_str _ _ p hu',.tuple_str _ _ p hu',.tuple_str _ _ p hu'⟩
   |lst es=>obtain⟨b,ys,rfl,f2,f3⟩:=h'.to_lst;cases r';obtain⟨_,_,p2,_⟩:=I.list (.inl f2);unfold eqD;exact⟨.tuple_list p p2.isList hu',.tuple_list p p2.isList hu',.tuple_list p p2.isList hu'⟩
   |tup es=>
    have qJ:=hok;have qM:=hok';unfold D.ok at qJ qM;obtain⟨b,ys,rfl,f2,f3⟩:=h'.to_tup;cases r';obtain⟨dz,r2,p2,_⟩:=I.tuple (.inl (.inl f2));have n1:its.toArray.size=ds.length:=by rw[YKQ,<-r1.length,e3.len]
    have n2:dz.toArray.size=es.length:=by rw[YKQ,<-r2.length,f3.len]
    have items:=YHJ (A:=A.in1) e3 f3 r1 r2 λd d' v u x y hd hd' q1 q2 q3 q4=>(ih A.in1 d d' v u x y (YBH qJ hd) (YBH qM hd') (hn' d hd) hin q1 q2 q3 q4).eq
    refine X2 (k:=(List.range (min its.toArray.size dz.toArray.size)).all (λj=>eqD (ds.getD j .non) (es.getD j .non)) && its.toArray.size == dz.toArray.size) ?_ hok h h' (.tuples p p2 hu' items) (.tuples p p2 hu' items);rw[n1,n2,eqD_tup]
    by_cases hl:ds.length=es.length
    ·rw[YCj hl,<-hl,Nat.min_self,beq_self_eq_true,Bool.and_true]
    ·rw[YCi hl,beq_eq_false_iff_ne.mpr hl,Bool.and_false]
  |oth=>unfold D.ok at hok;cases hok
  |non=>exact ih A .non d' v u x y hok hok' (by unfold D.dep;lia) (by lia) h h' r r'
  |bl b=>exact ih A (.bl b) d' v u x y hok hok' (by unfold D.dep;lia) (by lia) h h' r r'
  |int b=>exact ih A (.int b) d' v u x y hok hok' (by unfold D.dep;lia) (by lia) h h' r r'
  |str b=>exact ih A (.str b) d' v u x y hok hok' (by unfold D.dep;lia) (by lia) h h' r r'
theorem JU (K:W.Frag) (hK:X.K=K) (hu:X.A.units + 64 < cLine):OpR X (compareOp .Eq) (λx y H Q=>∃d d',Den H x d/\Den H y d'/\d.ok=true/\d'.ok=true/\d.dep<=64/\Q (.bl (eqD d d')) H):=by
 subst hK;intro pins s σ H x y v u Q I rx ry h;obtain⟨d,d',h1,h2,k1,k2,hd,q⟩:=h;exact(cmp_D I 64 X.A d d' x y v u k1 k2 hd hu h1 h2 rx ry).rc X.prog X.w _ _ ⟨.bl _,H,I,U,q⟩
theorem JV (K:W.Frag) (hK:X.K=K) (hu:X.A.units + 64 < cLine):OpR X (compareOp .NotEq) (λx y H Q=>∃d d',Den H x d/\Den H y d'/\d.ok=true/\d'.ok=true/\d.dep<=64/\Q (.bl (!eqD d d')) H):=by
 subst hK;intro pins s σ H x y v u Q I rx ry h;obtain⟨d,d',h1,h2,k1,k2,hd,q⟩:=h;exact(cmp_D I 64 X.A d d' x y v u k1 k2 hd hu h1 h2 rx ry).ne X.prog X.w _ _ ⟨.bl _,H,I,U,q⟩
end
end L2
namespace L2
open PySem PySem.Spec PyProof.Rows
section
variable {X:Cx}{pins:List (Addr×Obj)}{σ:St}{H:Hp}{s:Shared}{h':Heap}
theorem Inv.turns {t':Nat}{ch:List Addr} (I:Inv X pins σ H s) (k:∀b o,b∉ch->s.heap.get? b=some o->h'.get? b=some o) (hf:∀b∈ch,YAa X pins H b):Inv X pins σ H { s with heap:=h',toks:=t' }:=by
 have nit:∀b u,H b=some u->b∉ch:=λb u e z=>by rw[(hf b z).1]at e;cases e
 refine I.step (g':=s.gens) (d':=s.drawn) (ch:=ch) (λb hb=>⟨(hf b hb).2.2.2.1,(hf b hb).2.1,(hf b hb).2.2.2.2.1,(hf b hb).2.2.2.2.2⟩) (λb o _ _ hc e _=>k b o hc e) (λb o _ _ hc e _=>⟨o.slots,k b o hc e⟩) (λ_ _ _ _ n=>n)
  (λb o hc e=>⟨o,k b o hc e⟩) (λ_ _ e=>e) (λ_ _ _ e=>e) (λb ps e=>⟨#[],by rw[e];simp⟩) (λm hm=>?_) (λb u e=>?_) I.bare
 ·obtain⟨o,es,ep,ho,r⟩:=hm;exact⟨o,es,ep,k _ o (λz=>(hf _ z).2.1 rfl) ho,r⟩
 ·refine(I.hok b u e).stay (λc v hc q=>k c v ?_ q) (λ_ q=>q) λ_ _ q=>q
  rcases hc with z |z
  ·rw[z];exact nit b u e
  ·exact nit c _ z
theorem Inv.trackT {T:Addr}{xs:List V}{its:List Value} (I:Inv X pins σ H s) (new:H T=none) (ht:IsTup s.heap T its.toArray) (rv:Yi xs its) (hz:xs.length<=sizeLine) (hs:∀o,X.s₀.heap.get? T≠some o) (hp:∀p∈X.pn ++ pins,p.1≠T):
  Inv X pins σ (upd H T (.tup xs)) s:=by
 obtain⟨ot,Wq,Rp,nt,hdt⟩:=id ht;have hL:X.env.locals≠T:=λz=>by
  obtain⟨m,⟨o,es,ep,ho,hd',_⟩,_⟩:=I.loc;rw[z,Wq]at ho;cases ho;rw[hdt]at hd';cases hd'
 have hC:∀x c,X.env.cells.lookup x=some c->c≠T:=λx c h1 z=>by
  obtain⟨v,o,ho,hd'⟩:=I.cell x c h1;rw[z,Wq]at ho;cases ho;rw[hdt]at hd';cases hd'
 refine⟨I.ok,I.os,I.bare,?_,I.loc,I.cell,by rw[YN hL];exact I.free,λx c h1=>by rw[YN (hC x c h1)];exact I.freeC x c h1,λp hp'=>?_,λa o ea=>?_,I.len⟩
 ·exact⟨I.base.keep,I.base.slot,λb o q n hx=>by rw[YN (λz=>hs o (by rw[<-z];exact q))];exact I.base.free b o q n hx,I.base.there,
   λb xs q=>by have z:=I.base.tups b xs q;rw[YN (Yh z new)];exact z,λb ob u q=>by have z:=I.base.frzs b ob u q;rw[YN (Yh z new)];exact z,
   λb ps q=>by obtain⟨mo,z⟩:=I.base.tbls b ps q;exact⟨mo,by rw[YN (Yh z new)];exact z⟩⟩
 ·obtain⟨p1,p2,p3⟩:=I.pin p hp';exact⟨p1,by rw[YN (hp p hp')];exact p2,p3⟩
 ·by_cases ha:a=T
  ·subst ha;rw[YC]at ea;cases ea;exact⟨hz,its,rv,ht⟩
  ·rw[YN ha]at ea;exact(I.hok a o ea).stay (λ_ _ _ q=>q) (λb q=>by rw[YN (Yh q new)];exact q) λb xs q=>by rw[YN (Yh q new)];exact q
end
def Ite (K:W.Frag) (a:Addr):It:=
 ⟨λi H=>∃xs x,SqL K H a xs/\xs[i]?=some x,λi H v H'=>∃T,H T=none/\v=.ref T/\∀xs,SqL K H a xs->∃x,xs[i]?=some x/\H'=upd H T (.tup [.int i,x]),λi H=>∃xs,SqL K H a xs/\xs.length<=i⟩
theorem YIH {P:Program}{w:World}{K:W.Frag}{jx:List Expr}{k:Nat}{pos:Pos} (a e it:Addr):
  YDO P w K (.Tuple jx k pos) (Ite K a) [e,it] e (λi h=>(∃old,IsEnum h e it (i:Nat) old)/\h.IsListIter it a i/\e≠it) where
 mem:=by simp
 obj:=λi h st b hb=>by
  obtain⟨⟨old,he⟩,⟨o,eo,c,d⟩,_⟩:=st;rcases YKT.mp hb with rfl |hb
  ·exact⟨_,he,λv z=>by cases z⟩
  ·have eb:b=it:=by simpa using hb
   subst eb;exact⟨o,eo,λv z=>by rw[d]at z;cases z⟩
 keep:=λi h h' st k=>by
  obtain⟨⟨old,he⟩,hit,hne⟩:=st;exact⟨⟨old,k e (by simp) _ he⟩,hit.at λo x=>k it (by simp) o x,hne⟩
 item:=by
  intro X hP hw hK hc i pins s σ H E I hf st hg;subst hP hw hK;obtain⟨⟨old,he⟩,hit,hne⟩:=st;obtain⟨xs,x,hq,hx⟩:=hg;obtain⟨its,rv,p,hz⟩:=I.list hq;obtain⟨u,hu,ru⟩:=rv.get hx;refine wpAny_pyNext_enum_item he hit p.isList (x:=u) (by simpa using hu) hne λh' ho hit' hT hsz hk=>?_
  refine⟨_,U,wpAny_letOwnedTupleGo_enum (s:={ s with heap:=h',toks:=s.toks + 1 }) ho λh'' he' hs'=>?_⟩;have hlt:e < s.heap.objs.size:=YKS he;have hTe:s.heap.objs.size≠e:=YLD hlt;have kk:∀b o,b∉[e,it]->s.heap.get? b=some o->h''.get? b=some o:=λb o hb q=>by
   have h1:b≠e:=λz=>hb (by simp[z])
   have h2:b≠it:=λz=>hb (by simp[z])
   exact(hs'.2 b h1).trans (hk b o h1 h2 q)
  have I1:Inv X pins σ H { s with heap:=h'',toks:=s.toks + 1 }:=I.turns kk hf;have hT':h''.get? s.heap.objs.size=some { cls:=.type "tuple",data:=.seq #[.int i s.toks,u] }:=(hs'.2 _ hTe).trans hT;have hfr:H s.heap.objs.size=none:=I.hok.fresh (YKH _);have I2:=I1.trackT (T:=s.heap.objs.size) (xs:=[.int i,x]) (its:=[.int i s.toks,u]) hfr ⟨_,hT',U,_,U⟩ (.cons ⟨_,U⟩ (.cons ru .nil)) (by show 2<=sizeLine;rw[sizeLine_eq];decide)
   (λo q=>absurd (YKS q) (Nat.not_lt.mpr I.sz)) λp hp z=>absurd (YKS (I.pin p hp).1) (by rw[z];exact YLB _)
  refine⟨.ref s.heap.objs.size,_,I2,U,⟨_,hfr,U,λys hy=>⟨x,by rw[I.list_inj hy hq];exact hx,U⟩⟩,⟨⟨_,by simpa using he'⟩,hit'.at λo q=>(hs'.2 it hne.symm).trans q,hne⟩,λb hb=>?_⟩;obtain⟨o,eo,_⟩:∃o,s.heap.get? b=some o/\True:=by
   rcases YKT.mp hb with rfl |hb
   ·exact⟨_,he,trivial⟩
   ·have eb:b=it:=by simpa using hb
    subst eb;obtain⟨o,eo,_⟩:=hit;exact⟨o,eo,trivial⟩
  rw[YN (YKn (YKS eo))];exact(hf b hb).1
 done:=by
  intro X hP hw hK hc i pins s σ H E I hf st hg;subst hP hw hK;obtain⟨⟨old,he⟩,hit,hne⟩:=st;obtain⟨xs,hq,hx⟩:=hg;obtain⟨its,rv,p,hz⟩:=I.list hq;have hl:=rv.length;exact wpAny_pyNext_enum_end (I.ok.hd hc) he hit p.isList (Array.getElem?_eq_none (by simp;lia)) λh' eb=>⟨U,I.turns (t':=s.toks) (λb o hb q=>eb b o (λz=>hb (by simp[z])) q) hf⟩
 self:=λ_ _ _ _ _ st h=>by
  obtain⟨⟨old,he⟩,_⟩:=st;exact wpAny_pyIter_enum he h
section
variable {X:Cx}{jx:List Expr}{k:Nat}{lF:Pos}
inductive YJO (K:W.Frag) (R:It->Hp->Prop) (vs:List V) (H1:Hp):Prop where
 |mk (a:_) (aY:vs=[.ref a]) (aZ:(∃xs,Rd H1 a (.lst xs))) (bN:R (Ite K a) H1):YJO K R vs H1
def iEnum (K:W.Frag) (ta:TA):TI:=λσ H R=>ta σ H λvs H1=>YJO K R vs H1
theorem YEp (K:W.Frag) (hK:X.K=K) {a:Expr}{ta:TA}{p pos:Pos} (hg:Gl X "enumerate") (hm:X.mg "enumerate"=none) (ha:PA X [a] ta) (hs:starEach [a] X.env=[(false,eval a X.env)]:=by rfl):
  PI X (.Tuple jx k lF) (.Call (.Name "enumerate" p) [a] [] pos) (iEnum K ta):=by
 subst hK;intro pins s σ H R I h;refine Call_ (JJ I hg hm PyProof.Rows.Boot.«enumerate» (PyProof.Rows.callWith_type1 (thn (ha pos pins s σ H _ I h) λus s1 ⟨vs,H1,I1,r1,q1⟩=>?_) hs rfl));obtain⟨l,rfl,⟨xs,hq⟩,q⟩:=q1;obtain⟨u,rfl,ru⟩:=JO r1;cases ru;obtain⟨hz,its,n,rv,hl⟩:=(show Yq X.prog X.w H1 s1.heap l (.lst xs) from hq.ok I1.hok);refine call_enumerate_1 hl λh' he hit hsz hk=>?_
 have I2:Inv X pins σ H1 { s1 with heap:=h' }:=I1.kept (t':=s1.toks) hk;refine wpAny_pyIter_enum he ?_;refine⟨s1.heap.objs.size + 1,[s1.heap.objs.size + 1,s1.heap.objs.size],_,_,H1,U,I2,YIH l _ _,⟨⟨_,by simpa using he⟩,hit,Nat.succ_ne_self _⟩,λb hb=>?_,q⟩;rcases YKT.mp hb with rfl |hb
 ·exact I1.fpOk (YLl _) (I1.hok.fresh (YLl _))
 ·have eb:b=s1.heap.objs.size:=by simpa using hb
  subst eb;exact I1.fpOk (YKH _) (I1.hok.fresh (YKH _))
theorem YAN:∀{xs:List V}{us:List Value},xs.length=us.length->(∀(j:Nat) (x:V) (u:Value),xs[j]?=some x->us[j]?=some u->Yk x u)->Yi xs us
 |[],[],_,_=>.nil
 |[],_ :: _,h,_=>by cases h
 |_ :: _,[],h,_=>by cases h
 |x :: xs,u :: us,h,k=>.cons (k 0 x u rfl rfl) (YAN (Nat.succ.inj h) λj y v h1 h2=>k (j + 1) y v (by simpa using h1) (by simpa using h2))
theorem YFZ {k:Key}{v:Value} (h:YCR k v=true):Yk (kV k) v:=by
 rcases Y9 h with ⟨i,t,rfl,rfl⟩ |⟨x,t,rfl,rfl⟩
 ·exact⟨t,U⟩
 ·exact⟨t,U⟩
theorem YCk (hc:X.calm=true):Zg X (.type "list") (λxs H Q=>∃(p:Addr) (kvs:List (Key×V)),xs=[.ref p]/\Rd H p (.dK kvs)/\∀l,H l=none->Q (.ref l) (upd H l (.lst (kvs.map λkv=>kV kv.1)))):=by
 intro pins s σ H xs us Q I r h;obtain⟨p,kvs,rfl,hq,q⟩:=h;obtain⟨u,rfl,rx⟩:=JO r;cases rx;obtain⟨hz,lo,vs,rel,hD⟩:=YAd I.hok hq;obtain⟨ep,hat⟩:=hD.dictAt;have hlen:kvs.length=vs.length:=rel.length;refine PySem.W.kdl_call (PySem.W.kdl_dict (knd:=Y1 X.prog X.w) (kvs:=vs) (ep:=ep) lo) (I.ok.hd hc) hat (by rw[<-hlen];exact hz) λh' tk cH c' hk hS hit=>?_
 have rv:Yi (kvs.map λkv=>kV kv.1) cH.toList:=by
  refine YAN (by rw[YKF,hlen];exact(Array.length_toList.trans hit.1).symm) λj x u h1 h2=>?_
  obtain⟨k,y,hy,Qo⟩:=hit.2 j u (by rw[<-YK6];exact h2);have rH:=rel.keys;rw[YKk]at h1;have e1:(kvs.map (·.1))[j]?=some k:=by rw[rH,YKk,hy];rfl
  rw[YKk]at e1;cases e2:kvs[j]? with
  |none=>rw[e2]at h1;cases h1
  |some kv=>
   rw[e2]at h1 e1;have e3:kV kv.1=x:=YKr h1;have e4:kv.1=k:=YKr e1;rw[<-e3,e4];exact YFZ Qo
 exact⟨.ref s.heap.objs.size,_,I.laid (t':=tk) hk (YKH _) (show Yq X.prog X.w _ h' _ (.lst _) from⟨by rw[YKF];exact hz,cH.toList,c',rv,by simpa using hS⟩),U,q _ (I.hok.fresh (YKH _))⟩
end
def YJP (J:It) (n:Nat) (H:Hp) (item:Nat->V->Hp->Prop):Prop:=∀i H',YH H H'->YI H'->(i < n->J.go i H'/\∀x H3,J.yld i H' x H3->YH H' H3/\YI H3/\item i x H3)/\J.stop n H'
theorem YBh.g {J:It}{n:Nat}{H:Hp}{item:Nat->V->Prop} (h:YBh J n H item):YJP J n H λi x _=>item i x:=λi H' s p=>
 ⟨λhi=>⟨((h i H' s).1 hi).1,λx H3 hy=>by obtain⟨e,it⟩:=((h i H' s).1 hi).2 x H3 hy;subst e;exact⟨YH.refl _,p,it⟩⟩,(h i H' s).2⟩
end L2
namespace L2
open PySem PySem.Spec PyProof.Rows
section
variable {X:Cx}{elt tg iter:Expr}{ifs:List Expr}{scope:Scope}{cl:List (Str×Addr)}{N:List Str}{ρ:List (Option Nat)}{pos:Pos}{wi:TI}{g:TG}{tc:TT}{te:TE}
theorem YII (hc:X.calm=true) (S:Yr X N ρ scope cl)
  (hg:∀C s₀ H₀ ex pn,PG (Y8 X N scope cl C s₀ H₀ ex pn) tg g) (ht:∀C s₀ H₀ ex pn,PTs (Y8 X N scope cl C s₀ H₀ ex pn) ifs tc) (he:∀C s₀ H₀ ex pn,PE (Y8 X N scope cl C s₀ H₀ ex pn) elt te)
  {pins:List (Addr×Obj)}{s2:Shared}{σ:St}{H2:Hp}{it:Addr}{fp:List Addr}{tn:Nat->Heap->Prop}{J:It}{Q:VK}{RR:Value->Addr->Result->Shared->Prop} (I2:Inv X pins σ H2 s2) (T:YDO X.prog X.w X.K tg J fp it tn) (rF:tn 0 s2.heap) (f2:∀b∈fp,YAa X pins H2 b)
  (q2:∀l,H2 l=none->YAl J g tc te Q l (YDR ρ σ) H2)
  (fin:∀(l C:Addr) (s5:Shared) (H4:Hp) (m:Str->Option Value),Inv X pins σ H4 s5->YAa X pins H4 C->s5.heap.Ns C m->Q (.ref l) H4->RR (.ref l) C (.ok .next) s5):
  wpAny (model X.prog X.w) X.A (newList []) (λacc s3=>wpAny (model X.prog X.w) X.A (newFunctionEnv scope X.env.globals cl [] X.env.qual none .none (some X.env)) (λcenv s4=>
   codeAny (model X.prog X.w) X.A (.compStart (.ListComp elt [⟨tg,iter,ifs,0⟩] scope pos) 0 (.ref it) acc { cenv with scope:=relabel scope X.env }) (RR acc cenv.locals) s4) X.xe s3) X.xe s2:=by
 obtain⟨W,⟨m0,w0⟩,turn⟩:=q2 _ (I2.hok.fresh (YKH _));refine wpAny_newObj_type (wpAny_newFunctionEnv S.nocell (by intro y hy;simp at hy) (λh₁ hns₁ hsb₁=>?_) S.kind);dsimp only at hns₁ hsb₁ ⊢;have I3:Inv X pins σ (upd H2 s2.heap.objs.size (.lst [])) { s2 with heap:=s2.heap.push { cls:=.type "list",dict:=none,data:=.seq ([]:List Value).toArray } }:=
  I2.laid (t':=s2.toks) (λb u eo=>YKI _ eo) (YKH _) ⟨by simp,[],0,.nil,YKe _ rfl⟩
 generalize yu:({ s2 with heap:=s2.heap.push { cls:=.type "list",dict:=none,data:=.seq ([]:List Value).toArray } }:Shared)=s3 at I3;have vL:s2.heap.push { cls:=.type "list",dict:=none,data:=.seq ([]:List Value).toArray }=s3.heap:=by rw[<-yu]
 rw[vL]at hns₁ hsb₁ ⊢;have f3:∀b∈fp,YAa X pins (upd H2 s2.heap.objs.size (.lst [])) b:=λb hb=>by
  obtain⟨o,eo,_⟩:=T.obj _ _ rF b hb;exact⟨by rw[YN (YKn (YKS eo))];exact(f2 b hb).1,(f2 b hb).2⟩
 have yw:∀b∈fp,b < s3.heap.objs.size:=λb hb=>by
  obtain⟨o,eo,_⟩:=T.obj _ _ rF b hb;rw[<-vL,YLt];exact Nat.lt_succ_of_lt (YKS eo)
 have old:∀b o,s3.heap.get? b=some o->h₁.get? b=some o:=λb o eo=>hsb₁.extBut b o (YKn (YKS eo)) (YKI _ eo)
 have Ic:Inv (Y8 X N scope cl s3.heap.objs.size s3 (upd H2 s2.heap.objs.size (.lst [])) fp (X.pn ++ pins)) [] (YDR ρ σ) (upd H2 s2.heap.objs.size (.lst [])) { s2 with heap:=h₁,toks:=s2.toks + ([]:List (Str×Value)).length }:=
  YFU S I3 f3 yw hns₁ old (by rw[<-yu] <;> rfl)
 have jq:∀{pl:List (Addr×Obj)}{H':Hp},pl=[]->(∀b∈fp,H' b=none)->∀b∈fp,YAa (Y8 X N scope cl s3.heap.objs.size s3 (upd H2 s2.heap.objs.size (.lst [])) fp (X.pn ++ pins)) pl H' b:=λ{pl H'} epl hn b hb=>by
  subst epl;refine⟨hn b hb,YKn (yw b hb),λz=>?_,.inl hb,λx c h1=>(f2 b hb).2.2.2.2.1 x c (S.sub x c h1),λp hp=>(f2 b hb).2.2.2.2.2 p (by simpa using hp)⟩;rcases YKT.mp (I3.stkSub b z) with z |z
  ·exact(f2 b hb).2.1 z
  ·exact(f2 b hb).2.2.1 z
 have uO:tn 0 h₁:=T.keep _ _ _ rF λb hb o eo=>old b o (by rw[<-vL];exact YKI _ eo)
 have loop:codeAny (model X.prog X.w) X.A (.compLoop (.ListComp elt [⟨tg,iter,ifs,0⟩] scope pos) 0 (.ref it) (.ref s2.heap.objs.size) (compEnvC scope cl s3.heap.objs.size X.env))
   (RR (.ref s2.heap.objs.size) s3.heap.objs.size) { s2 with heap:=h₁,toks:=s2.toks + ([]:List (Str×Value)).length }:=by
  refine YDy (λn s'=>∃i ys τ H',Inv (Y8 X N scope cl s3.heap.objs.size s3 (upd H2 s2.heap.objs.size (.lst [])) fp (X.pn ++ pins)) [] τ H' s'/\tn i s'.heap/\(∀b∈fp,H' b=none)/\W i n ys τ H') ?_ m0
   ⟨0,[],_,_,Ic,uO,λb hb=>(f3 b hb).1,w0⟩
  rintro n s4 ⟨i,ys,τ,H4,I4,st,yx,w4⟩;rcases turn i n ys τ H4 w4 with ⟨stop,qn⟩ |⟨go,step⟩
  ·refine thn (T.done (Y8 X N scope cl s3.heap.objs.size s3 (upd H2 s2.heap.objs.size (.lst [])) fp (X.pn ++ pins)) rfl rfl rfl hc i [] s4 τ H4 _ I4 (jq rfl yx) st stop) λr s5 ⟨hr,I5⟩=>?_
   subst hr;obtain⟨m5,vM,_⟩:=I5.loc;have iH:∀b o,s5.heap.get? b=some o->s5.heap.get? b=some o:=λb o eo=>eo
   have un:Un (frs X.stack) fp (upd H2 s2.heap.objs.size (.lst [])) H4 s3.heap s5.heap:=
    ⟨λb o eo n1 n2 n3=>I5.base.keep b o eo n1 n2 n3,λb o eo n1 n2 n3=>I5.base.slot b o eo n1 n2 n3,I5.base.free,λb o eo n1=>I5.base.there b o eo n1,I5.base.tups,I5.base.frzs,I5.base.tbls⟩
   have I6:Inv X pins σ H4 s5:=I3.call' (s':=s5) (ch:=fp) (show s5.os=s3.os from I5.os) un I5.hok I5.bare λb hb=>⟨(f3 b hb).2.2.2.1,(f3 b hb).2.1,(f3 b hb).2.2.2.2.1,(f3 b hb).2.2.2.2.2⟩
   have fr:H4 s3.heap.objs.size=none:=I5.free;exact fin _ _ s5 H4 m5 I6 (I3.fpOk (YKH _) fr) vM qn
  ·refine thn (T.item (Y8 X N scope cl s3.heap.objs.size s3 (upd H2 s2.heap.objs.size (.lst [])) fp (X.pn ++ pins)) rfl rfl rfl hc i [] s4 τ H4 _ I4 (jq rfl yx) st go) λr s5 ⟨u,hr,h5⟩=>?_
   subst hr;refine thn h5 ?_;rintro _ s6 ⟨x,H6,I6,r6,y6,vN,Qj⟩;have I6':=I6.pinned (jq rfl Qj) (T.obj _ _ vN);have again:∀{s9:Shared}{τ9:St}{H9:Hp}{zs:List V}{m':Nat},Inv (Y8 X N scope cl s3.heap.objs.size s3 (upd H2 s2.heap.objs.size (.lst [])) fp (X.pn ++ pins)) ([] ++ YBb fp s6.heap) τ9 H9 s9->m' < n->W (i + 1) m' zs τ9 H9->
     ∃m,m < n/\∃i ys τ H',Inv (Y8 X N scope cl s3.heap.objs.size s3 (upd H2 s2.heap.objs.size (.lst [])) fp (X.pn ++ pins)) [] τ H' s9/\tn i s9.heap/\(∀b∈fp,H' b=none)/\W i m ys τ H':=λ{s9 τ9 H9 zs m'} I9 hm w9=>by
    refine⟨m',hm,i + 1,zs,τ9,H9,I9.unpinned,T.keep _ _ _ vN λb hb o eo=>(I9.pin (b,o) (YKg _ (YKg _ (JF hb eo)))).1,λb hb=>?_,w9⟩;obtain⟨o,eo,d⟩:=T.obj _ _ vN b hb;exact(I9.pin (b,o) (YKg _ (YKg _ (JF hb eo)))).2.1
   refine thn (hg _ _ _ _ _ _ s6 τ H6 x u _ I6' r6 (step x H6 y6)) λ_ s7 ⟨τ7,H7,I7,q7⟩=>?_
   refine thn (ht _ _ _ _ _ _ s7 τ7 H7 _ I7 q7) λok s8 ⟨H8,I8,q8⟩=>?_
   cases ok with
   |false=>
    rw[if_neg YKZ]at q8 ⊢;obtain⟨m',hm,w9⟩:=q8;exact again I8 hm w9
   |true=>
    rw[if_pos rfl]at q8 ⊢;refine thn (he _ _ _ _ _ _ s8 τ7 H8 _ I8 q8) ?_;rintro y s9 ⟨z,H9,I9,r9,Qk,Ql,m',hm,w9⟩;refine thn (Yx _ s9 τ7 H9 (.ref s2.heap.objs.size) [z] (.ref s2.heap.objs.size) [y] (λ_ H'=>H'=upd H9 s2.heap.objs.size (.lst (ys ++ [z]))) I9 rfl (.cons r9 .nil) ⟨_,ys,z,U,U,Qk,Ql,U⟩) λ_ jw ⟨_,H10,I10,_,e10⟩=>?_
    subst e10;exact again I10 hm w9
 exact codeAny_compStart_list loop (T.self _ 0 _ _ _ uO loop)
def tSetC (i:Nat) (te:TE):TS:=λD σ H=>te σ H λv H1=>D.nx (σ.set i (some v)) H1
theorem YCL {i:Nat}{y:Str}{py spos:Pos} (hN:X.N.Nodup) (hi:X.N[i]?=some y) (hy:X.env.scope.names.lookup y=some .local) (hc:X.calm=true) (S:Yr X N ρ scope cl) (hI:PI X tg iter wi)
  (hg:∀C s₀ H₀ ex pn,PG (Y8 X N scope cl C s₀ H₀ ex pn) tg g) (ht:∀C s₀ H₀ ex pn,PTs (Y8 X N scope cl C s₀ H₀ ex pn) ifs tc) (he:∀C s₀ H₀ ex pn,PE (Y8 X N scope cl C s₀ H₀ ex pn) elt te)
  (Rq:swapsWith (.ListComp elt [⟨tg,iter,ifs,0⟩] scope pos) (some (.Name y py)) spos.line X.env=pure true:=by rfl) (hs:∀x,foldedSetIterable iter X.env x=pure x:=by intro _;rfl):
  PS X (.Assign [.Name y py] (.ListComp elt [⟨tg,iter,ifs,0⟩] scope pos) spos) (tSetC i (tComp ρ wi g tc te)):=by
 intro pins s σ H D I h;rw[exec_Assign_Name_used _ _ _ _ Rq];refine YKG (wpAny_standAt (YKG ?_));show wpAny _ X.A (do let _ <-comprehension (.ListComp elt [⟨tg,iter,ifs,0⟩] scope pos) scope X.env _ (newList []) false (eval iter X.env) (some (assign (.Name y py) X.env))) _ _ s;refine YKG (wpAny_mono (wpAny_comprehension_free (use:=some (assign (.Name y py) X.env)) (Q:=λ_ s'=>SP X pins D .next s') rfl hs S.clos S.kind S.loc
  (thn (hI pins s σ H _ I h) λv s1 h1=>thn h1 λitv s2 h2=>?_)) (λ_ s' hq=>YKV (YKV hq)) λ_ _ e=>e)
 obtain⟨it,fp,tn,J,H2,e,I2,T,rF,f2,q2⟩:=h2;subst e;refine YII (RR:=λacc C=>compPost (model X.prog X.w) X.A X.xe (some (assign (.Name y py) X.env)) (λ_ s'=>SP X pins D .next s') acc C) hc S hg ht he I2 T rF f2 q2 λl C s5 H4 m I6 fC hn q=>?_
 obtain⟨oC,es,ep,hoC,hdC,hrest⟩:=id hn;have I7:=I6.pinned (fp:=[C]) (λb hb=>by rw[YKf.mp hb];exact fC) (λb hb=>⟨oC,by rw[YKf.mp hb];exact hoC,λv z=>by rw[hdC]at z;cases z⟩);show wpAny _ X.A (assign (.Name y py) X.env (.ref l)) _ _ s5;refine wpAny_assign_Name (XI I7 hN hi (.inl hy) (v:=.ref l) rfl (λs6 I8=>?_) (.inr hy));have Qp:=(I8.pin (C,oC) (YKg _ (YKg _ (JF (YKf.mpr rfl) hoC))));refine⟨m,⟨oC,es,ep,Qp.1,hdC,hrest⟩,λh' hs'=>?_⟩;have fC':∀b∈[C],YAa X pins H4 b:=λb hb=>by rw[YKf.mp hb];exact fC
 exact⟨_,H4,I8.unpinned.turns (t':=s6.toks) (λb o hb eo=>(hs'.2 b (λz=>hb (YKf.mpr z))).trans eo) fC',q⟩
end
end L2
namespace L2
open PySem PySem.Spec PyProof.Rows
theorem YFa {x:Str}{n:Int} (h1:x.length<=1000) (h2:-1000<=n) (h3:n<=1000):MulOk x n:=by
 refine⟨?_,λhn _=>?_,λhn _=>?_⟩
 ·rw[Bool.or_eq_false_iff];exact⟨YKO (by lia),YKO (by lia)⟩
 ·intro hgt;have hn':0 < n:=by lia
  have h4:=(Int.ediv_lt_iff_lt_mul hn').mp hgt;have h5:(x.length:Int) * n<=1000 * 1000:=Int.mul_le_mul (by lia) h3 (by lia) (by lia)
  lia
 ·show decide (x.length * n.toNat > sizeLine)=false;refine YKO ?_;have h5:x.length * n.toNat<=1000 * 1000:=Nat.mul_le_mul h1 (by lia);rw[sizeLine_eq]
  lia
theorem YGb {X:Cx}:OpR X (binaryOp .Mult) (λx y H Q=>∃i n,x=.str i/\y=.int n/\i.length<=1000/\-1000<=n/\n<=1000/\Q (.str (Txt.mul i n)) H):=by
 intro pins s σ H x y v u Q I rx ry h;obtain⟨i,n,rfl,rfl,h1,h2,h3,q⟩:=h;obtain⟨t,rfl⟩:=rx;obtain⟨t',rfl⟩:=ry;exact SB.mul (YFa h1 h2 h3) λt' k=>⟨.str _,H,I.tok _,⟨_,U⟩,q⟩
theorem Zt {α:Type}{xs:List α}{i:Int} (h0:0<=i) (h1:i < xs.length):∃v,atI xs i=some v/\v∈xs:=by
 have hj:i.toNat < xs.length:=by lia
 have e:((i.toNat:Nat):Int)=i:=by lia
 refine⟨xs[i.toNat],?_,List.getElem_mem hj⟩;have h:=Yv (xs:=xs) (j:=i.toNat) (v:=xs[i.toNat]) (by simp[hj]);rw[e]at h;exact h
theorem slen (a b:Str):(a ++ b).length=a.length + b.length:=by
 show(a ++ b).cps.size=a.cps.size + b.cps.size;exact Array.size_append ..
theorem YJQ (ns:List Int) (lo hi:Option Int):∃cs:List Int,XE (ns.map V.int) lo hi=cs.map V.int/\cs.length<=ns.length:=by
 refine⟨(ns.drop (HT.sIx (ns.map V.int).length 0 lo)).take (HT.sIx (ns.map V.int).length (ns.map V.int).length hi - HT.sIx (ns.map V.int).length 0 lo),?_,?_⟩
 ·unfold XE;rw[List.map_take,List.map_drop]
 ·rw[YK3,YK4]
  lia
theorem YDV {x:Int} (h1:0<=x) (h2:x<=1000):(-(2 ^ 62):Int)<=x/\x < 2 ^ 62:=⟨YLn (by decide) h1,Int.lt_of_le_of_lt h2 (by decide)⟩
theorem YGc {H:Hp} (h:Only H):YI H:=λa o e=>by
 rcases h a with z |⟨ob,xs,z⟩
 ·rw[e]at z;cases z
 ·rw[e]at z;cases z;rfl
end L2
namespace L2
open PySem PySem.Spec PyProof.Rows
def YEq:Expr->Bool
 |.Starred _ _=>false
 |_=>true
theorem YIJ {e:Expr}{es:List Expr}{env:Env} (h:YEq e=true):starEach (e :: es) env=(false,eval e env) :: starEach es env:=by
 cases e <;> first |rfl |cases h
theorem Zh {X:Cx}{e:Expr}{es:List Expr}{te:TE}{t:TA} (ha:PE X e te) (hr:PA X es t) (h:YEq e=true:=by rfl):PA X (e :: es) (tCons te t):=YA ha hr (YIJ h)
theorem HT.getItem_tuple_whole {prog:Program}{w:World}{A:Around}{E:Value->Shared->Prop}{s:Shared}{t sl:Addr}{items:Array Value}{vl vu:Value}{lo hi:Option Int}{Q:Value->Shared->Prop} (ht:IsTup s.heap t items) (hs:s.heap.IsSliceOf sl vl vu .none) (pl:IsPart vl lo) (pu:IsPart vu hi)
  (hw:HT.sIx items.size 0 lo=0/\HT.sIx items.size items.size hi=items.size) (h:Q (.ref t) s):wpAny (model prog w) A (getItem (.ref t) (.ref sl)) Q E s:=by
 obtain⟨os,vH,hcs,aF⟩:=id hs;have hTs:s.TypeIs (.ref sl) "slice":=⟨os,vH,hcs⟩;unfold getItem
 try with_reducible refine wpAny_holding ?_
 first |refine YKG (YKV ?_) |skip
 refine YKG (wpAny_sequenceKey ht.typeIs (by decide) ?_);refine YKG (wpAny_callSpecial?_slot (name:=Str.ofString "__getitem__") ht.typeIs PyProof.Rows.slot_tuple_getitem
  (wpAny_call_entry PyProof.Rows.slot_tuple_getitem ht.typeIs entry_tuple_getitem ?_ (args_tuple_getitem _ _)))
 show wpAny _ _ (Builtin.Tuple.tupleItemsOf (.ref t) >>= _) _ _ s;refine YKG (tupleItemsOf_ ht ?_);refine YKG (wpAny_typeOf hTs ?_);rw[if_pos (by decide)];refine YKG (HT.sliceApplied_gen hs pl pu ?_);have zL:(((HT.sIx items.size 0 lo:Nat):Int) == 0 && (1:Int) == 1 && (HT.sIx items.size items.size hi - HT.sIx items.size 0 lo) == items.size)=true:=by
  rw[hw.1,hw.2];simp
 show wpAny _ _ (if (((HT.sIx items.size 0 lo:Nat):Int) == 0 && (1:Int) == 1 && (HT.sIx items.size items.size hi - HT.sIx items.size 0 lo) == items.size)=true then _ else _) _ _ s;rw[if_pos zL];refine YKG ?_;unfold Builtin.Tuple.tupleIsExact;refine YKG (wpAny_typeOf ht.typeIs (YKV ?_));rw[if_pos (by decide)];exact YKG (wpAny_rule (YKV ⟨_,U,YKV h⟩))
section
variable {X:Cx}
def rSlA:V->Option Int->Option Int->Hp->VK->Prop:=λx lo hi H Q=>∃a xs,x=.ref a/\H a=some (.tup xs)/\∀p H',YH H H'->(YI H->YI H')->(H'=H\/H p=none)->H' p=some (.tup (XE xs lo hi))->Q (.ref p) H'
theorem YHK:SlR X rSlA:=by
 intro pins s σ H x v vl vu lo hi sl Q I rx hs pl pu h;obtain⟨a,xs,rfl,hx,q⟩:=h
 by_cases hw:HT.sIx xs.length 0 lo=0/\HT.sIx xs.length xs.length hi=xs.length
 ·cases rx;obtain⟨its,r,ht,hz⟩:=I.tuple (SqT.of hx);have hlen:its.toArray.size=xs.length:=by rw[YKQ];exact r.length.symm
  refine⟨"tuple",_,PyProof.Rows.slot_tuple_getitem.lookup,ht.typeIs,?_⟩;have e:XE xs lo hi=xs:=by
   unfold XE;rw[hw.1,hw.2,YL0,Nat.sub_zero];exact YLO (YKH _)
  exact HT.getItem_tuple_whole ht hs pl pu (by rw[hlen];exact hw) ⟨.ref a,H,I,U,q a H (YH.refl _) id (.inl rfl) (by rw[e];exact hx)⟩
 ·exact sl_tup pins s σ H (.ref a) v vl vu lo hi sl Q I rx hs pl pu ⟨a,xs,U,SqT.of hx,hw,λp hp=>q p _ (YH.upd hp) (λz=>z.upd rfl) (.inr hp) YC⟩
theorem YIK {K:W.Frag}{C:Addr}{i:Nat}{tb:Z3->(St->XK)->St->Hp->Prop}{ts:TS}{D:Z3}{σ:St}{H:Hp} (M:Value->St->Hp->Prop)
  (hh:∀cls σ' H',M cls σ' H'->PySem.W.exmOne K cls (.ref C)=some true/\∀e,H' e=none->
   ts { nx:=λσ2 H2=>D.nx (σ2.set i none) H2,rt:=D.rt,bk:=λσ2 H2=>D.bk (σ2.set i none) H2,ct:=λσ2 H2=>D.ct (σ2.set i none) H2 } (σ'.set i (some (.ref e))) (upd H' e (xO e cls)))
  (hb:∀EE:St->XK,(∀cls σ' o H',M cls σ' H'->EE σ' cls o H')->tb D EE σ H):tTry K C i tb ts D σ H:=
 hb (λσ' cls _ H'=>PySem.W.exmOne K cls (.ref C)=some true/\∀e,H' e=none->
   ts { nx:=λσ2 H2=>D.nx (σ2.set i none) H2,rt:=D.rt,bk:=λσ2 H2=>D.bk (σ2.set i none) H2,ct:=λσ2 H2=>D.ct (σ2.set i none) H2 } (σ'.set i (some (.ref e))) (upd H' e (xO e cls))) λcls σ' _ H' m=>hh cls σ' H' m
end
end L2
namespace FR
open PySem L2
structure QSs (X:Cx) (st:List Stmt) (t:TS):Prop where h:PSs X st t
structure QS (X:Cx) (st:Stmt) (t:TS):Prop where h:PS X st t
theorem Yd {X:Cx}{st:Stmt}{YL:List Stmt}{t u:TS} (h1:QS X st t) (h2:QSs X YL u):QSs X (st :: YL) (tSeq t u):=⟨YD h1.h h2.h⟩
theorem YAO {X:Cx}{st:Stmt}{t:TS} (h1:QS X st t):QSs X [st] t:=⟨YF h1.h⟩
structure QE (X:Cx) (e:Expr) (t:TE):Prop where h:PE X e t
structure QA (X:Cx) (es:List Expr) (t:TA):Prop where h:PA X es t
theorem Zp {X:Cx}:QA X [] tNil:=⟨YB⟩
theorem Y6 {X:Cx}{e:Expr}{es:List Expr}{te:TE}{t:TA} (ha:QE X e te) (hr:QA X es t) (h:YEq e=true:=by rfl):QA X (e :: es) (tCons te t):=⟨Zh ha.h hr.h h⟩
theorem YAq {X:Cx}{i j pos}:QE X (.Constant (.int i) j pos) (tC (.int i)):=⟨YE⟩
theorem YJR {X:Cx}{j pos}:QE X (.Constant .none j pos) (tC .non):=⟨Z0⟩
theorem Xb {X:Cx}{x j pos}:QE X (.Constant (.str x) j pos) (tC (.str x)):=⟨Yj⟩
theorem Jq {X:Cx}{es:List Expr}{t:TA}{x1 pos} (h:QA X es t):QE X (.Tuple es x1 pos) (tTup t):=⟨Zb h.h⟩
theorem YAr {X:Cx}{es:List Expr}{t:TA}{pos} (h:QA X es t):QE X (.List es pos) (tLst t):=⟨Y7 h.h⟩
theorem qe_ix {X:Cx}{a b:Expr}{ta tb:TE}{pos:Pos}{r:R2} (hr:IxR X r) (ha:QE X a ta) (hb:QE X b tb) (hs:YHD b):QE X (.Subscript a b pos) (tOp r ta tb):=⟨YU hr ha.h hb.h hs⟩
theorem YEr {X:Cx}{i:Nat}{x:Str}{e:Expr}{te:TE}{pos ig:Pos} (hN:X.N.Nodup) (hi:X.N[i]?=some x) (hx:Loc X.env.scope x) (he:QE X e te) (hs:swapsWith e (some (.Name x ig)) pos.line X.env=pure false:=by rfl) (hf:X.fn x=true\/X.env.scope.names.lookup x=some .local:=by first |exact .inl rfl |exact .inr rfl |assumption):
  QS X (.Assign [.Name x ig] e pos) (tAsg te (JH i)):=⟨YK hN hi hx he.h hs hf⟩
theorem qex {X:Cx}{st:List Stmt}{q:TS->Prop} (h:∃t,QSs X st t/\q t):∃t,PSs X st t/\q t:=let ⟨t,a,b⟩:=h;⟨t,a.h,b⟩
end FR
namespace L2
open PySem PySem.Spec PyProof.Rows
section
variable {X:Cx}{C:Addr}{x:Str}{p pos:Pos}
end
end L2
namespace L2
open PySem PySem.Spec PyProof.Rows
section
variable {X:Cx}{tg:Expr}
end
end L2
namespace L2
open PySem PySem.Spec PyProof.Rows
section
variable {X:Cx}
theorem JQ:MtR X "str.startswith" (λx vs H Q=>∃z y,x=.str z/\vs=[.str y]/\Q (.bl (Txt.startswith z y)) H):=by
 intro pins s σ H x xs v us Q I rx rs h;obtain⟨z,y,rfl,rfl,q⟩:=h;obtain⟨t,rfl⟩:=rx;obtain⟨u,rfl,t',rfl⟩:=rs.one;exact SC.startswith ⟨.bl _,H,I,U,q⟩
end
end L2
namespace L2
open PySem PySem.Spec PyProof.Rows
section
variable {X:Cx}
end
end L2
namespace L2
open PySem PySem.Spec PyProof.Rows
section
open PySem.W
variable {K:W.Frag}{M:Model}
end
structure Lands (X:Cx) (pins:List (Addr×Obj)) (σ:St) (H:Hp) (e:Addr) (cls:Value) (s:Shared):Prop where
 I:Inv X pins σ H s
 new:H e=none
 fly:∃(B:Heap) (a0:Value),Heap.FlyingW B X.stack e cls a0 s.heap/\(∀b u,H b=some u->∃o,B.get? b=some o)/\(∀b o,X.s₀.heap.get? b=some o->b∉frs X.stack->b∉X.ex->∃o',B.get? b=some o')/\(∀p∈X.pn ++ pins,∃o',B.get? p.1=some o')
abbrev TH:=Value->Z3->St->Hp->Prop
def PH (X:Cx) (hs:List ExceptHandler) (t:TH):Prop:=∀(pins:List (Addr×Obj)) (s:Shared) (σ:St) (H:Hp) (e:Addr) (cls:Value) (D:Z3),Lands X pins σ H e cls s->t cls D σ H->
 wpAny (model X.prog X.w) X.A (handleBy (.ref e) X.env hs) (SP X pins D) X.xe s
def tTryN (tb:Z3->(St->XK)->St->Hp->Prop) (th:TH):TS:=λD σ H=>tb D (λσ' cls _ H'=>th cls D σ' H') σ H
theorem ps_tryN {X:Cx}{body:List Stmt}{h₀:ExceptHandler}{hs:List ExceptHandler}{pos:Pos}{tb:Z3->(St->XK)->St->Hp->Prop}{th:TH} (hex:X.ex=[]) (hst:X.stack=X.env :: X.outer) (hfr:X.env.frame=some X.env.locals)
  (hb:PSXs X body tb) (hh:PH X (h₀ :: hs) th):PS X (.Try body (h₀ :: hs) [] [] pos) (tTryN tb th):=by
 intro pins s σ H D I h;refine wpAny_Try_except (wpAny_mono (hb pins s σ H _ _ I h) (λf s1 q=>?_) λev s1 q=>?_)
 ·cases f with
  |next=>exact wpAny_execs_nil q
  |ret v=>exact q
  |brk=>exact q
  |cont=>exact q
 ·obtain⟨σ',e,cls,H',B,a0,rfl,I1,fl,new,tr,old,pn,Qf⟩:=q;have yq:=fl;rw[hst]at yq;refine wpAny_looks_onW (I1.ok.frames.trans (by rw[hst])) hfr yq λh4 qG Qg=>?_
  refine wpAny_landsW qG λh5 uM Qh=>?_
  have I5:Inv X pins σ' H' { s1 with heap:=h5 }:=I1.moved hex fl.1 uM.1 (Qg.trans Qh) tr old pn;rw[<-hst]at uM;exact hh pins _ σ' H' e cls D ⟨I5,new,B,a0,uM,tr,old,pn⟩ Qf
section
variable {X:Cx}
theorem YHL {y:Str}{C:Addr}{np hpos:Pos}{nm:Option Str}{suite:List Stmt}{YL:List ExceptHandler}{pins:List (Addr×Obj)}{s:Shared}{σ:St}{H:Hp}{e:Addr}{cls:Value}{D:Z3}{b:Bool} (L:Lands X pins σ H e cls s) (hg:Gl X y) (hm:X.mg y=some (.ref C)) (hd:(y == ("__debug__":Str))=false) (hx:PySem.W.exmOne X.K cls (.ref C)=some b)
  (h:if b=true then codeAny (model X.prog X.w) (X.A.mark (some (.ref e))) (.handlers (.ref e) [.ExceptHandler none nm suite hpos] X.env) (λr s₂=>match r with
     |.ok f=>(match nm with
      |none=>SP X pins D f s₂
      |some n=>wpAny (model X.prog X.w) X.A (do bindName X.env n .none;unbindBehindTheSuite X.env n hpos) (λ_ s₃=>SP X pins D f s₃) X.xe s₂)
     |.error x=>cameBackBy (model X.prog X.w) X.A X.env X.xe x s₂) s
   else wpAny (model X.prog X.w) X.A (handleBy (.ref e) X.env YL) (SP X pins D) X.xe s):
  wpAny (model X.prog X.w) X.A (handleBy (.ref e) X.env (.ExceptHandler (some (.Name y np)) nm suite hpos :: YL)) (SP X pins D) X.xe s:=by
 obtain⟨B,a0,fl,tr,old,pn⟩:=L.fly;obtain⟨oe,vs,he,hc,hdt,_⟩:=fl.first
 refine wpAny_handleBy_cons (codeAny_handlers_test ?_) (by intro q;cases q);refine YAI (L.I.caught e) hg hm ?_ hd;have LT:PySem.W.Looks (model X.prog X.w) s.heap (typeOf (.ref e)) cls:=hc ▸ (PySem.W.Looks.ld he).andThen .now;obtain⟨hp,g,d,tk,os⟩:=s;refine(PySem.W.exm_one (M:=model X.prog X.w) L.I.kIn LT hx) _ _ _ _ (λ_ _ q=>q) ?_;cases b with
 |true=>exact h
 |false=>exact h
def tHit0 (K:W.Frag) (C:Addr) (ts:TS) (th:TH):TH:=λcls D σ H=>(PySem.W.exmOne K cls (.ref C)=some true/\ts D σ H)\/(PySem.W.exmOne K cls (.ref C)=some false/\th cls D σ H)
theorem ph_hit0 {y:Str}{C:Addr}{np hpos:Pos}{b₀:Stmt}{suite:List Stmt}{YL:List ExceptHandler}{ts:TS}{th:TH} (hex:X.ex=[]) (hg:Gl X y) (hm:X.mg y=some (.ref C)) (hs:∀e,PSs (X.caught e) (b₀ :: suite) ts) (hr:PH X YL th)
  (hd:(y == ("__debug__":Str))=false:=by decide):PH X (.ExceptHandler (some (.Name y np)) none (b₀ :: suite) hpos :: YL) (tHit0 X.K C ts th):=by
 intro pins s σ H e cls D L h;rcases h with ⟨hx,h⟩ |⟨hx,h⟩
 ·refine YHL L hg hm hd hx ?_;rw[if_pos rfl];obtain⟨B,a0,fl,tr,old,pn⟩:=L.fly;refine codeAny_handlers_suite ?_;refine lands_againW fl λh6 yr Qi=>?_
  have I6:Inv X pins σ H { s with heap:=h6 }:=L.I.moved hex fl.1 yr.1 Qi tr old pn;refine wpAny_mono (hs e pins _ _ _ _ (I6.caught e) h) (λf s9 q=>?_) λ_ _ z=>z.elim
  cases f with
  |next=>obtain⟨σ2,H2,I9,q⟩:=q;exact⟨_,H2,I9.uncaught L.I.ok,q⟩
  |brk=>obtain⟨σ2,H2,I9,q⟩:=q;exact⟨_,H2,I9.uncaught L.I.ok,q⟩
  |cont=>obtain⟨σ2,H2,I9,q⟩:=q;exact⟨_,H2,I9.uncaught L.I.ok,q⟩
  |ret u=>obtain⟨v,σ2,H2,I9,r,q⟩:=q;exact⟨v,_,H2,I9.uncaught L.I.ok,r,q⟩
 ·refine YHL L hg hm hd hx ?_;rw[if_neg YKZ];exact hr pins s σ H e cls D L h
theorem ph_nil:PH X [] (λ_ _ _ _=>False):=λ_ _ _ _ _ _ _ _ h=>h.elim
end
end L2
namespace L2
open PySem PySem.Spec PyProof.Rows
section
variable {X:Cx}
end
theorem comp_fm {α:Type}{J:It}{item:Nat->V->Hp->Prop}{tc:TT}{te:TE}{Q:VK}{H:Hp}{l:Addr}{τ:St}{g:TG} (ds:List α) (f:α->Option V) (hJ:YJP J ds.length H item) (hp:YI H)
  (hl:H l=none) (hz:ds.length<=sizeLine) (keep:St->Prop) (hk0:keep τ)
  (ht:∀(τ':St) (k:Nat) (d:α) (x:V) (H':Hp) (Q1:St->VK) (Q2:St->Hp->Prop),keep τ'->ds[k]?=some d->item k x H'->YH H H'->YI H'->(∀y τ4 H6,keep τ4->YH H' H6->YI H6->f d=some y->Q1 τ4 y H6)->(∀τ4 H6,keep τ4->YH H' H6->YI H6->f d=none->Q2 τ4 H6)->
   g x τ' H' λτ4 H4=>tc τ4 H4 λb H5=>if b=true then te τ4 H5 (Q1 τ4) else Q2 τ4 H5)
  (hq:∀H',YH H H'->YI H'->H' l=some (.lst (ds.filterMap f))->Q (.ref l) H'):YAl J g tc te Q l τ H:=by
 refine comp_by ds.length (λi ys τ' H2=>i<=ds.length/\ys=(ds.take i).filterMap f/\keep τ'/\YH H H2/\YI H2/\H2 l=some (.lst ys)) ⟨YKm _,U,hk0,YH.upd hl,hp.upd rfl,YC⟩ ?_ ?_
 ·rintro i ys τ' H2 N hlt ⟨hi,rfl,hk,hs,sJ,hll⟩ hN;obtain⟨hgo,_⟩:=hJ i _ hs sJ;obtain⟨h1,h2⟩:=hgo hlt;refine⟨h1,λx H3 hy=>?_⟩;obtain⟨s3,p3,it⟩:=h2 x H3 hy;have e:ds[i]?=some ds[i]:=YKK hlt;have et:(ds.take (i + 1)).filterMap f=(ds.take i).filterMap f ++ (f ds[i]).toList:=by
   rw[YLN,e,List.filterMap_append];have:(some ds[i]).toList.filterMap f=(f ds[i]).toList:=by
    cases hf:f ds[i] with
    |none=>simp[hf]
    |some y=>simp[hf]
   rw[this]
  have hlen:((ds.take i).filterMap f).length<=i:=YKq (List.length_filterMap_le ..) (by rw[YK3];lia);refine ht τ' i ds[i] x H3 (λτ4 y H6=>H6 l=some (.lst ((ds.take i).filterMap f))/\((ds.take i).filterMap f).length < sizeLine/\N ((ds.take i).filterMap f ++ [y]) τ4 (upd H6 l (.lst ((ds.take i).filterMap f ++ [y]))))
   (λτ4 H5=>N ((ds.take i).filterMap f) τ4 H5) hk e it (hs.trans s3) p3 (λy τ4 H6 k4 s6 p6 ef=>?_) λτ4 H6 k4 s6 p6 ef=>?_
  ·rw[ef]at et;have wB:H6 l=some (.lst ((ds.take i).filterMap f)):=s6 _ _ (s3 _ _ hll);exact⟨wB,by lia,hN _ _ _ ⟨hlt,et.symm,k4,((hs.trans s3).trans s6).put hl,p6.upd rfl,YC⟩⟩
  ·rw[ef]at et;have et:(ds.take (i + 1)).filterMap f=(ds.take i).filterMap f:=by rw[et];exact YKs _
   exact hN _ _ _ ⟨hlt,et.symm,k4,(hs.trans s3).trans s6,p6,s6 _ _ (s3 _ _ hll)⟩
 ·rintro ys τ' H2 ⟨_,rfl,_,hs,sJ,hll⟩;rw[YLg]at hll;exact⟨(hJ ds.length _ hs sJ).2,hq _ hs sJ hll⟩
end L2
namespace L2
open PySem PySem.Spec PyProof.Rows
section
variable {X:Cx}
theorem YEs:Zg X (.type "dict") (λxs H Q=>∃a kvs,xs=[.ref a]/\Rd H a (.dK kvs)/\∀p,H p=none->Q (.ref p) (upd H p (.dK kvs))):=by
 intro pins s σ H xs us Q I r h;obtain⟨a,kvs,rfl,ha,q⟩:=h;obtain⟨u,rfl,rx⟩:=JO r;cases rx;exact YJA I ha λp s' hp I'=>⟨.ref p,_,I',U,q p hp⟩
end
end L2
namespace FR
open PySem L2
def J3 (c:Nat):Bool:=decide (32<=c) && decide (c<=126) && !decide (c=37)
def ZT (c:Nat):Bool:=decide (65<=c) && decide (c<=90)
def Xc (z:Str):Bool:=z.cps.size == 2 && z.cps[0]? == some 39 && J3 (z.cps.getD 1 0)
def isNameS (z:Str):Bool:=decide (1<=z.cps.size) && decide (z.cps.size<=8) && z.cps.toList.all ZT
def YBI:D->Bool
 |.str z=>Xc z
 |_=>false
def isNameD:D->Bool
 |.str z=>isNameS z
 |_=>false
def Jj (d:D):Bool:=YBI d || isNameD d
def YBJ:D->Bool
 |.int _=>true
 |_=>false
def Jr:D->Bool
 |.int i=>decide (0<=i) && decide (i<=10 ^ 60)
 |_=>false
def Jn:D->Bool
 |.tup ds=>decide (ds.length<=6) && ds.all Jj
 |_=>false
def Zx:D->Bool
 |.tup [h,p,w]=>isNameD h && (Jn p && Jr w)
 |_=>false
def JB:D->Bool
 |.lst ds=>decide (ds.length<=60) && ds.all Zx
 |_=>false
mutual
def _root_.L2.D.short:D->Bool
 |.str z=>decide (z.length<=1000)
 |.lst ds=>Js ds
 |.tup ds=>Js ds
 |_=>true
def Js:List D->Bool
 |[]=>true
 |d :: ds=>d.short && Js ds
end
theorem JW:∀{xs:List D}{d:D},Js xs=true->d∈xs->d.short=true
 |x :: xs,d,h,hd=>by
  unfold Js at h;rw[YKM]at h;rcases YKT.mp hd with rfl |hd
  ·exact h.1
  ·exact JW h.2 hd
theorem YAP:∀{xs:List D},(∀d∈xs,d.short=true)->Js xs=true
 |[],_=>by unfold Js;rfl
 |x :: xs,h=>by unfold Js;rw[h x YKd,YAP λd hd=>h d (YKY _ hd)];rfl
theorem YD7 {z:Str} (h:z.length<=1000):(D.str z).short=true:=by unfold D.short;exact YKN h
theorem YIL {z:Str} (h:(D.str z).short=true):z.length<=1000:=by unfold D.short at h;exact YKh h
theorem YG {n:Nat} (h:n<=1000):n<=sizeLine:=YKq h (by rw[sizeLine_eq];decide)
theorem YCl {z:Str} (h:(D.str z).short=true):z.length<=sizeLine:=YG (YIL h)
def isStrD:D->Bool |.str _=>true |_=>false
def isListD:D->Bool |.lst _=>true |_=>false
def isTupD:D->Bool |.tup _=>true |_=>false
def YHM:D->Bool |.bl _=>true |_=>false
def isIntD:D->Bool |.int _=>true |.bl _=>true |_=>false
section
variable {K:W.Frag}
theorem YHN (d:D):PySem.W.kitOne K (.type (tyD d)) (.type "int")=some (isIntD d):=by cases d <;> kernel_rfl
theorem YFb (d:D):PySem.W.kitOne K (.type (tyD d)) (.type "bool")=some (YHM d):=by cases d <;> kernel_rfl
theorem YHO (d:D):PySem.W.kitOne K (.type (tyD d)) (.type "str")=some (isStrD d):=by cases d <;> kernel_rfl
theorem YFc (d:D):PySem.W.kitOne K (.type (tyD d)) (.type "list")=some (isListD d):=by cases d <;> kernel_rfl
theorem YD8 (d:D):PySem.W.kitOne K (.type (tyD d)) (.type "tuple")=some (isTupD d):=by cases d <;> kernel_rfl
end
theorem XR (z:Str):z.length=z.cps.size:=rfl
theorem le_A (c:Nat):(!decide (([c]:List Nat) < (("A":Str)).cps.toList))=decide (65<=c):=by
 have e:(("A":Str)).cps.toList=[65]:=by decide +kernel
 rw[e]
 by_cases h:65<=c
 ·rw[YKN h,YKO (by rw[YLm];simp;lia)];rfl
 ·rw[YKO h,YKN (by rw[YLm];left;lia)];rfl
theorem le_Z (c:Nat):(!decide ((("Z":Str)).cps.toList < ([c]:List Nat)))=decide (c<=90):=by
 have e:(("Z":Str)).cps.toList=[90]:=by decide +kernel
 rw[e]
 by_cases h:c<=90
 ·rw[YKN h,YKO (by rw[YLm];simp;lia)];rfl
 ·rw[YKO h,YKN (by rw[YLm];left;lia)];rfl
theorem map_bl (g:Nat->Bool) (l:List Nat):l.map (λc=>V.bl (g c))=(l.map g).map V.bl:=by rw[YLe];rfl
theorem YAs {α:Type} (g:α->Bool) (l:List α):(l.map g).all id=l.all g:=by rw[List.all_map];rfl
theorem YJS {ys:List V}{ds:List D}{g:D->Bool} (hl:ys.length=ds.length) (h:∀(k:Nat) (y:V),ys[k]?=some y->∃d,ds[k]?=some d/\y=.bl (g d)):ys=(ds.map g).map V.bl:=by
 refine List.ext_getElem? λk=>?_
 by_cases hk:k < ys.length
 ·obtain⟨d,hd,hy⟩:=h k ys[k] (YKK hk);rw[YKK hk,YKk,YKk,hd,hy];rfl
 ·rw[YLT (by lia),YLT (by rw[YKF,YKF];lia)]
theorem Jt {te:TE}{σ:St}{H:Hp}{R:VK}{b g:Bool} (ht:b=true->∀R:VK,R (.bl g) H->te σ H R) (h:R (.bl (b && g)) H):if b=true then te σ H R else R (.bl false) H:=by
 cases b with
 |true=>exact ht rfl R h
 |false=>exact h
theorem or_read {te:TE}{σ:St}{H:Hp}{R:VK}{b g:Bool} (ht:b=false->∀R:VK,R (.bl g) H->te σ H R) (h:R (.bl (b || g)) H):if b=true then R (.bl true) H else te σ H R:=by
 cases b with
 |true=>exact h
 |false=>exact ht rfl R h
inductive spIs_ (g:D->Bool) (vs:List V) (H:Hp) (Q:VK):Prop where
 |mk (x:_) (d:_) (aY:vs=[x]) (aZ:Den H x d) (bN:d.short=true) (dC:YI H) (gk:Q (.bl (g d)) H):spIs_ g vs H Q
def Xu (g:D->Bool):Sp:=λvs H Q E_=>spIs_ g vs H Q
inductive YD9 (vs:List V) (H:Hp) (Q:VK):Prop where
 |mk (c:_) (aY:vs=[.str ⟨#[c]⟩]) (aZ:Q (.bl (J3 c)) H):YD9 vs H Q
def YFd:Sp:=λvs H Q E_=>YD9 vs H Q
inductive YCm (C:Addr) (vs:List V) (H:Hp) (Q:VK) (E:XK):Prop where
 |mk (x:_) (d:_) (aY:vs=[x]) (aZ:Den H x d) (bN:d.short=true) (dC:YI H) (gk:(JB d=true->∀(l:Addr) (xs:List V) (ds:List D),d=.lst ds->YS H xs ds->H l=none->Q (.ref l) (upd H l (.lst xs)))) (jG:(JB d=false->E (.ref C) none H)):YCm C vs H Q E
def YAQ (C:Addr):Sp:=λvs H Q E=>YCm C vs H Q E
theorem YGd {b:Bool} (h:(!b)=true):b=false:=by cases b <;> first |rfl |cases h
theorem YIM {b:Bool} (h:¬(!b)=true):b=true:=by cases b <;> first |rfl |exact absurd rfl h
abbrev Yl:=Str×List Str×Int
abbrev YX:=List Yl
def Yn (r:Yl):D:=.tup [.str r.1,.tup (r.2.1.map D.str),.int r.2.2]
def ZZ (g:YX):D:=.lst (g.map Yn)
def Y2 (z:Str):Bool:=Xc z || isNameS z
def Zc (r:Yl):Bool:=isNameS r.1 && ((decide (r.2.1.length<=6) && r.2.1.all Y2) && (decide (0<=r.2.2) && decide (r.2.2<=10 ^ 60)))
def Yf (g:YX):Bool:=decide (g.length<=60) && g.all Zc
theorem YDW (r:Yl):Zx (Yn r)=Zc r:=by
 obtain⟨h,ps,w⟩:=r;show(isNameD (.str h) && (Jn (.tup (ps.map D.str)) && Jr (.int w)))=_;show(isNameS h && ((decide ((ps.map D.str).length<=6) && (ps.map D.str).all Jj) && (decide (0<=w) && decide (w<=10 ^ 60))))=_;rw[YKF,List.all_map];rfl
theorem Z7 (g:YX):JB (ZZ g)=Yf g:=by
 show(decide ((g.map Yn).length<=60) && (g.map Yn).all Zx)=_;rw[YKF,List.all_map];unfold Yf;congr 1;congr 1;funext r;exact YDW r
theorem YHP:∀{ds:List D},ds.all Jj=true->∃ps:List Str,ds=ps.map D.str
 |[],_=>⟨[],U⟩
 |d :: ds,h=>by
  rw[YLV,YKM]at h;obtain⟨ps,rfl⟩:=YHP h.2;cases d with
  |str z=>exact⟨z :: ps,U⟩
  |_=>cases h.1
theorem rule_of {d:D} (h:Zx d=true):∃r:Yl,d=Yn r:=by
 unfold Zx at h;split at h
 ·rename_i a b c
  rw[YKM,YKM]at h;obtain⟨h1,h2,h3⟩:=h;cases a with
  |str z=>
   cases b with
   |tup ds=>
    cases c with
    |int w=>
     unfold Jn at h2;rw[YKM]at h2;obtain⟨ps,rfl⟩:=YHP h2.2;exact⟨(z,ps,w),U⟩
    |_=>cases h3
   |_=>cases h2
  |_=>cases h1
 ·cases h
theorem YCM {d:D} (h:JB d=true):∃g:YX,d=ZZ g/\Yf g=true:=by
 cases d with
 |lst ds=>
  have h0:=h;unfold JB at h;rw[YKM]at h;have go:∀(ds:List D),ds.all Zx=true->∃g:YX,ds=g.map Yn:=by
   intro ds
   induction ds with
   |nil=>exactλ_=>⟨[],U⟩
   |cons d ds ih=>
    intro hd;rw[YLV,YKM]at hd;obtain⟨g,rfl⟩:=ih hd.2;obtain⟨r,rfl⟩:=rule_of hd.1;exact⟨r :: g,U⟩
  obtain⟨g,rfl⟩:=go ds h.2;refine⟨g,U,?_⟩;rw[<-Z7];exact h0
 |_=>cases h
theorem YCn {H:Hp}{v:V}{r:Yl} (h:Den H v (Yn r)):∃t p,v=.ref t/\H t=some (.tup [.str r.1,.ref p,.int r.2.2])/\H p=some (.tup (r.2.1.map V.str)):=by
 obtain⟨t,xs,rfl,ht,aF⟩:=h.to_tup
 match xs,aF with
 |[x0,x1,x2],aF=>
  obtain⟨_,e0,n0⟩:=aF.get (i:=0) (v:=x0) rfl;obtain⟨_,e1,n1⟩:=aF.get (i:=1) (v:=x1) rfl;obtain⟨_,e2,n2⟩:=aF.get (i:=2) (v:=x2) rfl;cases e0;cases e1;cases e2;have f0:=n0.to_str;have f2:=n2.to_int;obtain⟨p,ys,f1,hp,hys⟩:=n1.to_tup;subst f0 f1 f2;refine⟨t,p,U,ht,?_⟩;have:ys=r.2.1.map V.str:=by
   refine List.ext_getElem? λi=>?_
   cases e:ys[i]? with
   |none=>
    have h1:=YLs.mp e;have h2:=hys.len;rw[YKF]at h2;rw[YLT (by rw[YKF];lia)]
   |some y=>
    obtain⟨d,hd,dn⟩:=hys.get e;rw[YKk]at hd ⊢;cases e2:r.2.1[i]? with
    |none=>rw[e2]at hd;cases hd
    |some z=>
     rw[e2]at hd;cases hd;rw[dn.to_str];rfl
  rw[hp,this]
 |[],h=>exact absurd h.len (by simp)
 |[_],h=>exact absurd h.len (by simp)
 |[_,_],h=>exact absurd h.len (by simp)
 |_ :: _ :: _ :: _ :: _,h=>exact absurd h.len (by simp)
theorem YJT {H:Hp}{v:V}{g:YX} (h:Den H v (ZZ g)):∃a xs,v=.ref a/\Rd H a (.lst xs)/\YS H xs (g.map Yn):=h.to_lst
theorem ZM {H:Hp}{xs:List V}{g:YX} (h:YS H xs (g.map Yn)) {i:Nat}{v:V} (e:xs[i]?=some v):
  ∃r t p,g[i]?=some r/\v=.ref t/\H t=some (.tup [.str r.1,.ref p,.int r.2.2])/\H p=some (.tup (r.2.1.map V.str)):=by
 obtain⟨d,hd,dn⟩:=h.get e;rw[YKk]at hd;cases e2:g[i]? with
 |none=>rw[e2]at hd;cases hd
 |some r=>
  rw[e2]at hd;cases hd;obtain⟨t,p,e3,e4,e5⟩:=YCn dn;exact⟨r,t,p,U,e3,e4,e5⟩
theorem YAt:∀{xs:List D}{n:Nat},(∀d∈xs,d.dep<=n)->YFY xs<=n
 |[],n,_=>by unfold YFY;exact YKm _
 |x :: xs,n,h=>by
  unfold YFY;exact Nat.max_le.mpr ⟨h x YKd,YAt λd hd=>h d (YKY _ hd)⟩
theorem YGe {xs:List D} (h:∀d∈xs,d.ok=true):(D.lst xs).ok=true:=by unfold D.ok;exact YGa h
theorem YJU {xs:List D} (h:∀d∈xs,d.ok=true):(D.tup xs).ok=true:=by unfold D.ok;exact YGa h
theorem YGf (z:Str):(D.str z).ok=true:=by unfold D.ok;rfl
theorem YJV (z:Int):(D.int z).ok=true:=by unfold D.ok;rfl
theorem YEt {xs:List D}{n:Nat} (h:∀d∈xs,d.dep<=n):(D.lst xs).dep<=n + 1:=by unfold D.dep;exact Nat.succ_le_succ (YAt h)
theorem YHQ {xs:List D}{n:Nat} (h:∀d∈xs,d.dep<=n):(D.tup xs).dep<=n + 1:=by unfold D.dep;exact Nat.succ_le_succ (YAt h)
theorem YEu (z:Str):(D.str z).dep=0:=by unfold D.dep;rfl
theorem YHR (z:Int):(D.int z).dep=0:=by unfold D.dep;rfl
theorem Xd (zs:List Str):(D.lst (zs.map D.str)).ok=true:=YGe λd hd=>by
 obtain⟨z,_,rfl⟩:=YKU.mp hd;exact YGf z
theorem YEv (zs:List Int):(D.lst (zs.map D.int)).ok=true:=YGe λd hd=>by
 obtain⟨z,_,rfl⟩:=YKU.mp hd;exact YJV z
theorem X3 (zs:List Str):(D.lst (zs.map D.str)).dep<=64:=YKq (YEt (n:=0) λd hd=>by
 obtain⟨z,_,rfl⟩:=YKU.mp hd;rw[YEu];exact YKH _) (by decide)
theorem YJW (zs:List Int):(D.lst (zs.map D.int)).dep<=64:=YKq (YEt (n:=0) λd hd=>by
 obtain⟨z,_,rfl⟩:=YKU.mp hd;rw[YHR];exact YKH _) (by decide)
theorem ok_rule (r:Yl):(Yn r).ok=true:=by
 refine YJU λd hd=>?_
 simp only[YKT,YLG,or_false]at hd;rcases hd with rfl |rfl |rfl
 ·exact YGf _
 ·refine YJU λd hd=>?_
  obtain⟨z,_,rfl⟩:=YKU.mp hd;exact YGf z
 ·exact YJV _
theorem YJX (r:Yl):(Yn r).dep<=2:=by
 refine YHQ (n:=1) λd hd=>?_
 simp only[YKT,YLG,or_false]at hd;rcases hd with rfl |rfl |rfl
 ·rw[YEu];decide
 ·refine YHQ (n:=0) λd hd=>?_
  obtain⟨z,_,rfl⟩:=YKU.mp hd;rw[YEu];exact YKH _
 ·rw[YHR];decide
theorem YBK (g:YX):(ZZ g).ok=true:=YGe λd hd=>by
 obtain⟨r,_,rfl⟩:=YKU.mp hd;exact ok_rule r
theorem YCo (g:YX):(ZZ g).dep<=64:=YKq (YEt (n:=2) λd hd=>by
 obtain⟨r,_,rfl⟩:=YKU.mp hd;exact YJX r) (by decide)
theorem YEA {z:Str} (h:isNameS z=true):z.length<=8:=by
 unfold isNameS at h;rw[YKM,YKM]at h;exact YKh h.1.2
theorem YFe {z:Str} (h:Y2 z=true):z.length<=8:=by
 unfold Y2 at h;rw[YLo]at h;rcases h with h |h
 ·unfold Xc at h;rw[YKM,YKM,beq_iff_eq]at h;show z.cps.size<=8
  lia
 ·exact YEA h
theorem YGg {r:Yl} (h:Zc r=true):(Yn r).short=true:=by
 unfold Zc at h;simp only[YKM]at h;obtain⟨h1,⟨h2,h3⟩,h4⟩:=h;unfold Yn D.short;refine YAP λd hd=>?_
 simp only[YKT,YLG,or_false]at hd;rcases hd with rfl |rfl |rfl
 ·exact YD7 (YKq (YEA h1) (by decide))
 ·unfold D.short;refine YAP λd hd=>?_
  obtain⟨z,hz,rfl⟩:=YKU.mp hd;exact YD7 (YKq (YFe (YKj.mp h3 z hz)) (by decide))
 ·unfold D.short;rfl
theorem YAu {g:YX} (h:Yf g=true):(ZZ g).short=true:=by
 unfold Yf at h;rw[YKM]at h;unfold ZZ D.short;refine YAP λd hd=>?_
 obtain⟨r,hr,rfl⟩:=YKU.mp hd;exact YGg (YKj.mp h.2 r hr)
theorem Jk {g:YX} (h:Yf g=true):g.length<=60:=by
 unfold Yf at h;rw[YKM]at h;exact YKh h.1
theorem YHS:∀{a b:List Str},a.map D.str=b.map D.str->a=b
 |[],[],_=>rfl
 |[],_ :: _,h=>by cases h
 |_ :: _,[],h=>by cases h
 |x :: a,y :: b,h=>by
  rw[YKa,YKa]at h
  injection h with h1 h2
  injection h1 with h3
  rw[h3,YHS h2]
theorem YIN {r r':Yl} (h:Yn r=Yn r'):r=r':=by
 obtain⟨a,b,c⟩:=r;obtain⟨a',b',c'⟩:=r';unfold Yn at h
 injection h with h
 injection h with h1 h2
 injection h2 with h2 h3
 injection h3 with h3 _
 injection h1 with h1
 injection h2 with h2
 injection h3 with h3
 have h1':a=a':=h1;have h3':c=c':=h3;have h2':b=b':=YHS h2;rw[h1',h2',h3']
theorem YAR {g g':YX} (h:ZZ g=ZZ g'):g=g':=by
 unfold ZZ at h
 injection h with h
 induction g generalizing g' with
 |nil=>
  cases g' with
  |nil=>rfl
  |cons _ _=>cases h
 |cons r g ih=>
  cases g' with
  |nil=>cases h
  |cons r' g'=>
   rw[YKa,YKa]at h
   injection h with h1 h2
   rw[YIN h1,ih h2]
def oV:Option Int->V
 |none=>.non
 |some i=>.int i
inductive YHT (K:W.Frag) (vs:List V) (H:Hp) (Q:VK):Prop where
 |mk (a:Addr) (ns:List Int) (k:Int) (aY:vs=[.ref a,.int k]) (aZ:SqL K H a (ns.map V.int)) (bN:0<=k) (dC:∀v:Int,Q (.int v) H):YHT K vs H Q
def YGh (K:W.Frag):Sp:=λvs H Q E_=>YHT K vs H Q
inductive YJY (K:W.Frag) (vs:List V) (H:Hp) (Q:VK):Prop where
 |mk (a:Addr) (ns:List Int) (aY:vs=[.ref a]) (aZ:SqL K H a (ns.map V.int)) (bN:ns.length<=63) (dC:YI H) (gk:∀H',Q (.bl true) H'):YJY K vs H Q
def YFf (K:W.Frag):Sp:=λvs H Q E_=>YJY K vs H Q
theorem YIO {K:W.Frag}{H:Hp}{a:Addr}{ns:List Int} (hl:ns.length<=63) (hO:Only H) (hS:SqL K H a (ns.map V.int)):YFf K [.ref a] H (λv _=>v=.bl true) λ_ _ _=>False:=
 ⟨a,ns,U,hS,hl,YGc hO,λ_=>rfl⟩
def YHU (l:List Nat):Bool:=decide (1<=l.length) && decide (l.length<=8) && l.all ZT
theorem YB3 (z:Str):isNameS z=YHU z.cps.toList:=by
 unfold isNameS YHU;rw[YK2]
def BIG:Str:="ABCDEFGHIJKLMNOPQRSTUVWXYZ"
theorem YJZ:BIG.cps.toList=(List.range 26).map (65 + ·):=by decide +kernel
theorem YEw:BIG.cps.toList.length=26:=by decide +kernel
theorem YCp:BIG.length<=sizeLine:=YG (by decide +kernel)
theorem YAv {c:Nat} (h:c∈BIG.cps.toList):ZT c=true:=by
 rw[YJZ]at h;obtain⟨k,hk,rfl⟩:=YKU.mp h;have:=YLI.mp hk;unfold ZT;rw[YKN (by lia),YKN (by lia)];rfl
theorem YBL (a b:Str):(a ++ b).cps.toList=a.cps.toList ++ b.cps.toList:=by
 show(a.cps ++ b.cps).toList=_;exact Array.toList_append
def strOf:Expr->Str
 |.Constant (.str x) _ _=>x
 |.BinOp _ _ b _=>strOf b
 |_=>⟨#[]⟩
def YHV:Stmt->Str
 |.Assign _ v _=>strOf v
 |.Return (some v) _=>strOf v
 |_=>⟨#[]⟩
def YEx (s:Stmt) (i:Nat):Str:=YHV ((JP s).getD i (.Pass ⟨0,0,0,0⟩))
def YBj:List Nat:=(List.range 95).filterMap λk=>if k=5 then none else some (32 + k)
theorem YGi {c:Nat} (h:c∈YBj):J3 c=true:=by
 obtain⟨k,hk,e⟩:=YLy.mp h;have:=YLI.mp hk;unfold J3;split at e
 ·cases e
 ·cases e;rw[YKN (by lia),YKN (by lia),YKO (by lia)];rfl
theorem YIP:YBj.length=94:=by decide +kernel
theorem q_list:(("'":Str)).cps.toList=[39]:=by decide +kernel
theorem YJa (c:Nat):(("'":Str) ++ ⟨#[c]⟩).cps=#[39,c]:=by
 apply Array.ext';rw[YBL,q_list];rfl
theorem YIQ {c:Nat} (h:J3 c=true):Xc (("'":Str) ++ ⟨#[c]⟩)=true:=by
 unfold Xc;rw[YJa];show(true && J3 c)=true;rw[h];rfl
theorem YIR {c:Nat} (h:J3 c=true):Y2 (("'":Str) ++ ⟨#[c]⟩)=true:=by
 unfold Y2;rw[YIQ h];rfl
theorem YIS {r:Yl} (h1:isNameS r.1=true) (h2:r.2.1.length<=6) (h3:∀z∈r.2.1,Y2 z=true) (h4:0<=r.2.2) (h5:r.2.2<=10 ^ 60):Zc r=true:=by
 unfold Zc;have a:r.2.1.all Y2=true:=YKj.mpr h3;rw[h1,YKN h2,a,YKN h4,YKN h5];rfl
theorem YAw {ys:List V}{P:Str->Prop} (h:∀(k:Nat) (y:V),ys[k]?=some y->∃z,y=.str z/\P z):∃zs:List Str,ys=zs.map V.str/\∀z∈zs,P z:=by
 induction ys with
 |nil=>exact⟨[],U,by simp⟩
 |cons y ys ih=>
  obtain⟨zs,rfl,hz⟩:=ih λk y e=>h (k + 1) y (by simpa using e)
  obtain⟨z,rfl,pz⟩:=h 0 y rfl;exact⟨z :: zs,U,λx hx=>(YKT.mp hx).elim (λe=>by rw[e];exact pz) (hz x)⟩
theorem YJb {x:Str}{j:Int} (h0:0<=j) (h1:j<=x.length):(Txt.slice x none (some j)).cps.toList=x.cps.toList.take j.toNat:=by
 have h:=PyProof.Rows.slice_closes_to (x:=x) (j:=j) ⟨h0,by rw[YK2];exact h1⟩;have e:=eq_of_beq h;rw[e];show((x.cps.toList.drop (0:Int).toNat).take (j - 0).toNat)=_;rw[Int.sub_zero];rfl
theorem YGj {x:Str}{i:Int} (h0:0<=i) (h1:i<=x.length):(Txt.slice x (some i) none).cps.toList=x.cps.toList.drop i.toNat:=by
 have e:=PyProof.Rows.slice_from_eq (x:=x) (i:=i) (b:=x.length) h0 h1 rfl;rw[e];show((x.cps.toList.drop i.toNat).take ((x.length:Int) - i).toNat)=_;refine YLO ?_;rw[YK4,YK2];have:x.length=x.cps.size:=rfl
 lia
abbrev Sz:=List (Str×Int)
def szD (s:Sz):List (Key×V):=s.map λp=>(Sum.inr p.1,.int p.2)
def look (s:Sz) (z:Str):Option Int:=(s.find? λp=>decide (p.1=z)).map (·.2)
def ZN:Sz->Str->Int->Sz
 |[],z,n=>[(z,n)]
 |p :: s,z,n=>if p.1=z then (z,n) :: s else p :: ZN s z n
theorem ZX (p:Str×Int) (s:Sz) (z:Str):look (p :: s) z=if p.1=z then some p.2 else look s z:=by
 unfold look;rw[YLb]
 by_cases h:p.1=z
 ·rw[YKN h,if_pos h];rfl
 ·rw[YKO h,if_neg h]
theorem Y0 (s:Sz) (z y:Str) (n:Int):look (ZN s z n) y=if y=z then some n else look s y:=by
 induction s with
 |nil=>
  show look [(z,n)] y=_;rw[ZX]
  by_cases h:y=z
  ·rw[if_pos h,if_pos h.symm]
  ·rw[if_neg h,if_neg (λe=>h e.symm)]
 |cons p s ih=>
  unfold ZN
  by_cases hp:p.1=z
  ·rw[if_pos hp,ZX,ZX]
   by_cases h:y=z
   ·rw[if_pos h,if_pos h.symm]
   ·rw[if_neg h,if_neg (λe=>h e.symm),if_neg (λe=>h (e.symm.trans hp))]
  ·rw[if_neg hp,ZX,ZX,ih]
   by_cases h:y=z
   ·rw[if_pos h,if_neg (λe=>hp (e.trans h))];rw[if_pos h]
   ·rw[if_neg h];simp only[if_neg h]
theorem Z8 {s:Sz}{z:Str}{n:Int} (h:look s z=some n):(z,n)∈s:=by
 unfold look at h;cases e:s.find? λp=>decide (p.1=z) with
 |none=>rw[e]at h;cases h
 |some p=>
  rw[e]at h;have h1:=List.find?_some e;have h2:p.1=z:=YKh h1;have h3:p.2=n:=YKr h;have:=List.mem_of_find?_eq_some e;rw[<-h2,<-h3];exact this
theorem YAS {s:Sz}{z:Str} (h:look s z=none):¬z∈s.map (·.1):=by
 intro m;obtain⟨p,hp,e⟩:=YKU.mp m;unfold look at h;cases e2:s.find? λp=>decide (p.1=z) with
 |some q=>rw[e2]at h;cases h
 |none=>
  have:=List.find?_eq_none.mp e2 p hp;exact this (YKN e)
theorem YAT {s:Sz} (nd:(s.map (·.1)).Nodup) {z:Str}{n:Int} (h:(z,n)∈s):look s z=some n:=by
 induction s with
 |nil=>cases h
 |cons p s ih=>
  rw[YKa,YK9]at nd;rw[ZX];rcases YKT.mp h with e |h
  ·rw[<-e,if_pos rfl]
  ·rw[if_neg,ih nd.2 h];intro e;exact nd.1 (e ▸ YKU.mpr ⟨_,h,U⟩)
theorem XS (s:Sz) (z:Str) (n:Int):(ZN s z n).map (·.1)=if z∈s.map (·.1) then s.map (·.1) else s.map (·.1) ++ [z]:=by
 induction s with
 |nil=>rfl
 |cons p s ih=>
  unfold ZN
  by_cases h:p.1=z
  ·rw[if_pos h,if_pos (by rw[YKa,h];exact YKd ..),YKa,YKa,h]
  ·rw[if_neg h,YKa,ih,YKa]
   by_cases m:z∈s.map (·.1)
   ·rw[if_pos m,if_pos (YKY _ m)]
   ·rw[if_neg m,if_neg (λe=>(YKT.mp e).elim (λe=>h e.symm) m)];rfl
theorem ZY (z:Str):∀s:Sz,Jd (szD s) (Sum.inr z)=(look s z).map V.int
 |[]=>rfl
 |p :: s=>by
  show Jd ((Sum.inr p.1,V.int p.2) :: szD s) (Sum.inr z)=_;rw[ZX]
  by_cases e:p.1=z
  ·rw[ZW (by rw[e]),if_pos e];rfl
  ·rw[ZD (λh=>e (Sum.inr.inj h)),ZY z s,if_neg e]
theorem YCN {s:Sz} (nd:(s.map (·.1)).Nodup) (z:Str) (n:Int):Zo (szD s) (Sum.inr z) (.int n)=szD (ZN s z n):=by
 induction s with
 |nil=>rfl
 |cons p s ih=>
  rw[YKa,YK9]at nd;unfold ZN
  by_cases e:p.1=z
  ·rw[if_pos e];have:Jd (szD (p :: s)) (Sum.inr z)=some (.int p.2):=by
    show Jd ((Sum.inr p.1,V.int p.2) :: szD s) (Sum.inr z)=_;rw[ZW (by rw[e])]
   unfold Zo;rw[YCZ,this,if_pos (show(some (V.int p.snd)).isSome=true from rfl)];show((Sum.inr p.1,V.int p.2) :: szD s).map _=(Sum.inr z,V.int n) :: szD s;rw[YKa];congr 1
   ·show(if (Sum.inr p.1:Key)=Sum.inr z then _ else _)=_;rw[if_pos (by rw[e]),e]
   ·refine(YLv λq hq=>?_).trans (List.map_id _);obtain⟨r,hr,rfl⟩:=YKU.mp hq;show(if (Sum.inr r.1:Key)=Sum.inr z then _ else _)=_;rw[if_neg]
    ·rfl
    ·intro h;exact nd.1 (by rw[e,<-Sum.inr.inj h];exact YKU.mpr ⟨r,hr,U⟩)
  ·rw[if_neg e];have ih:=ih nd.2;show Zo ((Sum.inr p.1,V.int p.2) :: szD s) (Sum.inr z) (.int n)=(Sum.inr p.1,V.int p.2) :: szD (ZN s z n);rw[<-ih];unfold Zo;have e1:(((Sum.inr p.1,V.int p.2) :: szD s).any λkv=>decide (kv.1=(Sum.inr z:Key)))=(szD s).any λkv=>decide (kv.1=(Sum.inr z:Key)):=by
    rw[YLU,YKO (λh=>e (Sum.inr.inj h))];rfl
   rw[e1];split
   ·rw[YKa];congr 1;show(if (Sum.inr p.1:Key)=Sum.inr z then _ else _)=_;rw[if_neg (λh=>e (Sum.inr.inj h))]
   ·rfl
def isQ (p:Str):Bool:=Txt.startswith p "'"
def J6 (s:Sz) (q:Int) (p:Str):Option Int:=if isQ p=true then some q else look s p
def ZA (s:Sz) (q:Int):List Str->Int->Option Int
 |[],acc=>some acc
 |p :: ps,acc=>match J6 s q p with
  |none=>none
  |some m=>ZA s q ps (acc + m)
def Yg (s:Sz) (q:Int) (ps:List Str):Option Int:=ZA s q ps 1
def LeS (s' s:Sz):Prop:=∀z v,look s z=some v->∃v',look s' z=some v'/\v'<=v
theorem Xe {s s':Sz}{q:Int} (h:LeS s' s):∀{ps:List Str}{a a' k:Int},a'<=a->ZA s q ps a=some k->∃k',ZA s' q ps a'=some k'/\k'<=k
 |[],a,a',k,ha,e=>by
  unfold ZA at e ⊢;cases e;exact⟨_,U,ha⟩
 |p :: ps,a,a',k,ha,e=>by
  unfold ZA at e ⊢;unfold J6 at e ⊢
  by_cases hq:isQ p=true
  ·rw[if_pos hq]at e ⊢;exact Xe h (by lia) e
  ·rw[if_neg hq]at e ⊢;cases e1:look s p with
   |none=>rw[e1]at e;cases e
   |some v=>
    rw[e1]at e;obtain⟨v',e2,hv⟩:=h p v e1;rw[e2];exact Xe h (show a' + v'<=a + v by lia) e
theorem YCq {s:Sz}{q B:Int} (hq:q<=B) (hs:∀z v,look s z=some v->v<=B):∀{ps:List Str}{a k:Int},ZA s q ps a=some k->k<=a + ps.length * B
 |[],a,k,e=>by
  unfold ZA at e;cases e;simp
 |p :: ps,a,k,e=>by
  unfold ZA at e;cases e1:J6 s q p with
  |none=>rw[e1]at e;cases e
  |some m=>
   rw[e1]at e;have hm:m<=B:=by
    unfold J6 at e1;split at e1
    ·cases e1;exact hq
    ·exact hs p m e1
   have:=YCq hq hs e;rw[YKX,show(((ps.length + 1:Nat):Int)) * B=ps.length * B + B by rw[Int.natCast_add];show((ps.length:Int) + 1) * B=_;rw[Int.add_mul,Int.one_mul]]
   lia
theorem YFg {s:Sz}{q:Int} (hq:0<=q) (hs:∀z v,look s z=some v->0<=v):∀{ps:List Str}{a k:Int},ZA s q ps a=some k->a<=k
 |[],a,k,e=>by
  unfold ZA at e;cases e;exact YKz _
 |p :: ps,a,k,e=>by
  unfold ZA at e;cases e1:J6 s q p with
  |none=>rw[e1]at e;cases e
  |some m=>
   rw[e1]at e;have hm:0<=m:=by
    unfold J6 at e1;split at e1
    ·cases e1;exact hq
    ·exact hs p m e1
   have:=YFg hq hs e
   lia
def bnd (q:Int) (n:Nat):Int:=(1 + 6 * q) * 7 ^ n
theorem YBM {q:Int} (hq:0<=q) (n:Nat):1 + 6 * q<=bnd q n:=by
 unfold bnd;have h1:(1:Int)<=7 ^ n:=Int.pow_pos (by decide:(0:Int) < 7);have:=Int.mul_le_mul_of_nonneg_left h1 (show 0<=1 + 6 * q by lia);rw[Int.mul_one]at this;exact this
theorem YCr (q:Int) (n:Nat):bnd q (n + 1)=7 * bnd q n:=by
 unfold bnd;rw[Int.pow_succ,<-Int.mul_assoc,Int.mul_comm]
theorem YCs {q:Int} (hq:0<=q) {m n:Nat} (h:m<=n):bnd q m<=bnd q n:=by
 induction h with
 |refl=>exact YKz _
 |step _ ih=>
  rename_i k _
  rw[YCr];have h2:=YBM hq k
  lia
structure Yp (g:YX) (q:Int) (s:Sz):Prop where
 nd:(s.map (·.1)).Nodup
 pos:∀z v,look s z=some v->1<=v
 bd:∀z v,look s z=some v->v<=bnd q s.length
 hd:∀z v,look s z=some v->∃r∈g,r.1=z/\∃m,Yg s q r.2.1=some m/\m<=v
def Fix (g:YX) (q:Int) (s:Sz):Prop:=∀r∈g,∀m,Yg s q r.2.1=some m->∃v,look s r.1=some v/\v<=m
theorem YBN {κ:Type}:∀{l:List κ}{k:κ},l.Nodup->¬k∈l->(l ++ [k]).Nodup
 |[],k,_,_=>by simp
 |a :: r,k,h,hk=>by
  obtain⟨h1,h2⟩:=YK9.mp h;show(a :: (r ++ [k])).Nodup;refine YK9.mpr ⟨λm=>?_,YBN h2 λm=>hk (YKT.mpr (Or.inr m))⟩;rcases YKu.mp m with q |q
  ·exact h1 q
  ·exact hk (YKT.mpr (Or.inl (YKf.mp q).symm))
theorem YAU {xs ys:List Str} (h:xs.Nodup) (hs:∀x∈xs,x∈ys):xs.length<=ys.length:=by
 induction xs generalizing ys with
 |nil=>exact YKm _
 |cons x xs ih=>
  rw[YK9]at h;have hx:=hs x (YKd ..);have:=ih (ys:=ys.erase x) h.2 λy hy=>by
   have hne:y≠x:=λe=>h.1 (e ▸ hy)
   exact(List.mem_erase_of_ne hne).mpr (hs y (YKY _ hy))
  rw[List.length_erase_of_mem hx]at this;have hpos:=List.length_pos_of_mem hx;rw[YKX]
  lia
theorem Yp.len {g:YX}{q:Int}{s:Sz} (h:Yp g q s):s.length<=g.length:=by
 have:=YAU (ys:=g.map (·.1)) h.nd λx hx=>by
  obtain⟨p,hp,rfl⟩:=YKU.mp hx;obtain⟨r,hr,e,_⟩:=h.hd p.1 p.2 (YAT h.nd hp);rw[<-e];exact YKU.mpr ⟨r,hr,U⟩
 rwa [YKF,YKF]at this
def mu (g:YX) (q:Int) (s:Sz):Nat:=(g.map λr=>match look s r.1 with
 |none=>(bnd q 60).toNat + 1
 |some v=>v.toNat).sum
theorem YGk {α:Type}{f f':α->Nat}:∀{l:List α},(∀x∈l,f' x<=f x)->(∃x∈l,f' x < f x)->(l.map f').sum < (l.map f).sum
 |[],_,⟨_,h,_⟩=>by cases h
 |a :: l,h,⟨x,hx,hlt⟩=>by
  rw[YKa,YKa,YLE,YLE];have ha:=h a (YKd ..);have hle:∀(l:List α),(∀x∈l,f' x<=f x)->(l.map f').sum<=(l.map f).sum:=by
   intro l
   induction l with
   |nil=>intro _;exact YKH _
   |cons b l ih=>
    intro h;rw[YKa,YKa,YLE,YLE];have h1:=h b (YKd ..);have h2:=ih λx hx=>h x (YKY _ hx)
    lia
  rcases YKT.mp hx with rfl |hx
  ·have:=hle l λx hx=>h x (YKY _ hx)
   lia
  ·have:=YGk (λx hx=>h x (YKY _ hx)) ⟨x,hx,hlt⟩
   lia
theorem YBO (s:Sz) (z:Str) (n:Int):(ZN s z n).length=if z∈s.map (·.1) then s.length else s.length + 1:=by
 have:=YLR List.length (XS s z n);rw[YKF]at this;rw[this];split
 ·rw[YKF]
 ·rw[YKJ,YKF];rfl
theorem Yp.step {g:YX}{q:Int}{s:Sz} (hg:Yf g=true) (hq:0<=q) (h:Yp g q s) {r:Yl} (hr:r∈g) {m:Int} (hm:Yg s q r.2.1=some m) (hv:∀v,look s r.1=some v->m < v):
  Yp g q (ZN s r.1 m)/\mu g q (ZN s r.1 m) < mu g q s:=by
 have gK:g.length<=60:=by
  unfold Yf at hg;rw[YKM]at hg;exact YKh hg.1
 have uQ:r.2.1.length<=6:=by
  unfold Yf at hg;rw[YKM]at hg;have:=YKj.mp hg.2 r hr;unfold Zc at this;simp only[YKM,YKt]at this;exact this.2.1.1
 have hB:=YBM hq s.length;have hm1:1<=m:=YFg hq (λz v e=>YLn (by decide) (h.pos z v e)) hm;have hmB:m<=7 * bnd q s.length:=by
  have h1:=YCq (show q<=bnd q s.length by lia) h.bd hm;have h2:(r.2.1.length:Int) * bnd q s.length<=6 * bnd q s.length:=YK7 (by lia) (by lia)
  lia
 have le:LeS (ZN s r.1 m) s:=λz v e=>by
  rw[Y0]
  by_cases hz:z=r.1
  ·rw[if_pos hz];have:=hv v (hz ▸ e);exact⟨m,U,by lia⟩
  ·rw[if_neg hz];exact⟨v,e,YKz _⟩
 have Rr:((ZN s r.1 m).map (·.1)).Nodup:=by
  rw[XS];split
  ·exact h.nd
  ·rename_i hn
   exact YBN h.nd hn
 have zj:m<=bnd q (ZN s r.1 m).length:=by
  rw[YBO];split
  ·rename_i hmem
   obtain⟨p,hp,e⟩:=YKU.mp hmem;have:=YAT h.nd (z:=p.1) (n:=p.2) hp;rw[e]at this;have h1:=hv _ this;have h2:=h.bd _ _ this
   lia
  ·rw[YCr];exact hmB
 have lenle:s.length<=(ZN s r.1 m).length:=by
  rw[YBO];split <;> lia
 have yz:Yp g q (ZN s r.1 m):=by
  refine⟨Rr,λz v e=>?_,λz v e=>?_,λz v e=>?_⟩
  ·rw[Y0]at e;split at e
   ·cases e;exact hm1
   ·exact h.pos z v e
  ·rw[Y0]at e;split at e
   ·cases e;exact zj
   ·exact YLn (h.bd z v e) (YCs hq lenle)
  ·rw[Y0]at e;split at e
   ·rename_i hz
    cases e;obtain⟨k',e1,e2⟩:=Xe le (YKz 1) hm;exact⟨r,hr,hz.symm,k',e1,e2⟩
   ·obtain⟨r',hr',e1,k,e2,e3⟩:=h.hd z v e;obtain⟨k',e4,e5⟩:=Xe le (YKz 1) e2;exact⟨r',hr',e1,k',e4,by lia⟩
 refine⟨yz,?_⟩;have zM:bnd q (ZN s r.1 m).length<=bnd q 60:=YCs hq (YKq yz.len gK);have We:m<=bnd q 60:=YLn zj zM;unfold mu;refine YGk (λx hx=>?_) ⟨r,hr,?_⟩
 ·rw[Y0]
  by_cases hz:x.1=r.1
  ·rw[if_pos hz,hz];cases e:look s r.1 with
   |none=>show m.toNat<=(bnd q 60).toNat + 1;lia
   |some v=>
    have:=hv v e;show m.toNat<=v.toNat
    lia
  ·rw[if_neg hz];exact YKH _
 ·rw[Y0,if_pos rfl];cases e:look s r.1 with
  |none=>show m.toNat < (bnd q 60).toNat + 1;lia
  |some v=>
   have:=hv v e;show m.toNat < v.toNat
   lia
theorem Yp.nil (g:YX) (q:Int):Yp g q [] where
 nd:=List.nodup_nil
 pos:=λz v e=>by cases e
 bd:=λz v e=>by cases e
 hd:=λz v e=>by cases e
end FR
namespace L2
open PySem PySem.Spec PyProof.Rows
section
variable {X:Cx}{pins:List (Addr×Obj)}{σ:St}{H:Hp}{s:Shared}{d:Addr}{o:Obj}{kvs:List (Key×V)}
end
section
variable {X:Cx}{jx:List Expr}{k:Nat}{lF:Pos}
end
def updL (H:Hp):List (Addr×HO)->Hp
 |[]=>H
 |p :: r=>updL (upd H p.1 p.2) r
def YEy (H:Hp):List (Addr×HO)->Prop
 |[]=>True
 |p :: r=>H p.1=none/\YEy (upd H p.1 p.2) r
theorem YBk:∀{ops:List (Addr×HO)}{H:Hp},YEy H ops->YH H (updL H ops)
 |[],H,_=>YH.refl _
 |p :: r,H,f=>(YH.upd f.1).trans (YBk f.2)
theorem YCt:∀{ops:List (Addr×HO)}{H:Hp},YI H->(ops.all λp=>YBe p.2)=true->YI (updL H ops)
 |[],H,h,_=>h
 |p :: r,H,h,e=>by
  rw[YLV,YKM]at e;exact YCt (H:=upd H p.1 p.2) (h.upd e.1) e.2
theorem YHW:∀{ops:List (Addr×HO)}{H:Hp},YEy H ops->∀(i:Nat) (p:Addr×HO),ops[i]?=some p->updL H ops p.1=some p.2
 |[],H,_,i,p,e=>by cases e
 |q :: r,H,f,i,p,e=>by
  cases i with
  |zero=>
   cases e;exact YBk f.2 _ _ YC
  |succ j=>exact YHW f.2 j p e
end L2
namespace FR
open PySem L2
def unQ (ps:List Str):List Str:=ps.filter λp=>!isQ p
theorem YAV {s:Sz}{ps:List Str}:∀{a:Int},(∀p∈ps,isQ p=false->(look s p).isSome=true)->ZA s 0 ps a=some (a + ((unQ ps).map λp=>(look s p).getD 0).sum):=by
 induction ps with
 |nil=>
  intro a _;show some a=some (a + 0);rw[Int.add_zero]
 |cons p ps ih=>
  intro a h;have ih:=λa=>ih (a:=a) λq hq=>h q (YKY _ hq)
  unfold ZA J6
  by_cases hq:isQ p=true
  ·rw[if_pos hq];show ZA s 0 ps (a + 0)=_;rw[Int.add_zero,ih a];unfold unQ;rw[YKv,hq];rfl
  ·rw[if_neg hq];have hq':isQ p=false:=YLH.mpr hq;have hs:=h p (YKd ..) hq';cases e:look s p with
   |none=>rw[e]at hs;cases hs
   |some v=>
    show ZA s 0 ps (a + v)=_;rw[ih (a + v)];unfold unQ;rw[YKv,hq'];show _=some (a + ((p :: ps.filter λp=>!isQ p).map λp=>(look s p).getD 0).sum);rw[YKa,YLE,e];show some (a + v + _)=some (a + (v + _));rw[Int.add_assoc]
theorem Ym {s:Sz} (hpos:∀z v,look s z=some v->1<=v) {ps:List Str}:∀{a k:Int},ZA s 0 ps a=some k->a<=k/\∀p∈ps,isQ p=false->∃v,look s p=some v/\a + v<=k:=by
 induction ps with
 |nil=>
  intro a k e;unfold ZA at e;cases e;exact⟨YKz _,λp hp=>by cases hp⟩
 |cons p ps ih=>
  intro a k e;unfold ZA J6 at e
  by_cases hq:isQ p=true
  ·rw[if_pos hq]at e;obtain⟨h1,h2⟩:=ih (a:=a + 0) e;rw[Int.add_zero]at h1;refine⟨h1,λx hx hn=>?_⟩;rcases YKT.mp hx with rfl |hx
   ·rw[hq]at hn;cases hn
   ·obtain⟨v,e1,e2⟩:=h2 x hx hn;exact⟨v,e1,by lia⟩
  ·rw[if_neg hq]at e;cases e1:look s p with
   |none=>rw[e1]at e;cases e
   |some v=>
    rw[e1]at e;obtain⟨h1,h2⟩:=ih (a:=a + v) e;have hv:=hpos p v e1;refine⟨by lia,λx hx hn=>?_⟩;rcases YKT.mp hx with rfl |hx
    ·exact⟨v,e1,h1⟩
    ·obtain⟨v',e2,e3⟩:=h2 x hx hn;exact⟨v',e2,by lia⟩
theorem YIT {s s':Sz}{ps:List Str}:∀{a a' k:Int},a'<=a->(∀p∈ps,isQ p=false->∀v,look s p=some v->∃v',look s' p=some v'/\v'<=v)->ZA s 0 ps a=some k->∃k',ZA s' 0 ps a'=some k'/\k'<=k:=by
 induction ps with
 |nil=>
  intro a a' k ha _ e;unfold ZA at e ⊢;cases e;exact⟨_,U,ha⟩
 |cons p ps ih=>
  intro a a' k ha h e;unfold ZA J6 at e ⊢;have h':=λq hq=>h q (YKY _ hq)
  by_cases hq:isQ p=true
  ·rw[if_pos hq]at e ⊢;exact ih (by lia) h' e
  ·rw[if_neg hq]at e ⊢;cases e1:look s p with
   |none=>rw[e1]at e;cases e
   |some v=>
    rw[e1]at e;obtain⟨v',e2,hv⟩:=h p (YKd ..) (YLH.mpr hq) v e1;rw[e2];exact ih (show a' + v'<=a + v by lia) h' e
theorem sz_le {g:YX}{s s':Sz} (h:Yp g 0 s) (f':Fix g 0 s'):∀(n:Nat) (z:Str) (v:Int),v.toNat<=n->look s z=some v->∃v',look s' z=some v'/\v'<=v:=by
 intro n
 induction n with
 |zero=>
  intro z v hn e;have:=h.pos z v e
  lia
 |succ n ih=>
  intro z v hn e;obtain⟨r,hr,rfl,m,e1,hm⟩:=h.hd z v e;obtain⟨m1,part⟩:=Ym h.pos e1;have:=h.pos _ v e;obtain⟨k',e2,hk⟩:=YIT (s':=s') (YKz 1) (λp hp hq v1 e3=>by
   obtain⟨v2,e4,hle⟩:=part p hp hq;rw[e3]at e4;cases e4;exact ih p v1 (by lia) e3) e1
  obtain⟨v',e5,hv'⟩:=f' r hr k' e2;exact⟨v',e5,by lia⟩
theorem YGl {g:YX}{s s':Sz} (h:Yp g 0 s) (f:Fix g 0 s) (h':Yp g 0 s') (f':Fix g 0 s') (z:Str):look s z=look s' z:=by
 cases e:look s z with
 |none=>
  cases e':look s' z with
  |none=>rfl
  |some v'=>
   obtain⟨v,e1,_⟩:=sz_le h' f _ z v' (YKH _) e';rw[e]at e1;cases e1
 |some v=>
  obtain⟨v',e1,h1⟩:=sz_le h f' _ z v (YKH _) e;obtain⟨v2,e2,h2⟩:=sz_le h' f _ z v' (YKH _) e1;rw[e]at e2;cases e2;rw[e1];congr 1
  lia
end FR
namespace L2
open PySem PySem.Spec PyProof.Rows
theorem YJc:mroOf (.type "reversed")=pure [.type "reversed",.type "object"]:=by rw[mroOf_type];kernel_rfl
theorem rv_newl:typeLookup (.type "reversed") "__new__"=pure (some (.builtin "reversed.__new__")):=by rw[typeLookup_type,builtinLookup_eq_fast];kernel_rfl
theorem rv_init:Slot "reversed" "__init__" "object.__init__":=.of (owner:="object") (n:="__init__") (by rw[typeLookup_type,builtinLookup_eq_fast];kernel_rfl) (by decide +kernel) (by decide +kernel) (by decide +kernel) (by first |exact .inl (by decide +kernel) |exact .inr (by decide +kernel)) (by rw[isSubtype_type];kernel_rfl)
theorem YAW:TypeCalled "reversed" "reversed.__new__" "object.__init__":=⟨by decide +kernel,by decide +kernel,⟨_,_,YJc⟩,madeBy_type YJc rv_newl (by decide +kernel),by decide +kernel,by rw[isSubtype_type];kernel_rfl,rv_init⟩
theorem YB4 (a:Value):checkTypeCall "reversed" ⟨[a],[]⟩=pure ():=by kernel_rfl
theorem YCu (a:Value):checkBuiltinCall "reversed.__new__" ⟨[.type "reversed",a],[]⟩=pure ():=by kernel_rfl
theorem YFh:entryFor table "reversed.__new__"=some Builtin.«reversed.__new__»:=entryFor_of_tree (by kernel_rfl)
theorem YJd:typeLookup (.type "tuple") "__reversed__"=pure none:=by rw[typeLookup_type,builtinLookup_eq_fast];kernel_rfl
theorem YJe:typeLookup (.type "tuple") "__getitem__"=pure (some (.builtin "tuple.__getitem__")):=by rw[typeLookup_type,builtinLookup_eq_fast];kernel_rfl
theorem YJf:isSubtype (.type "tuple") (.type "dict")=pure false:=by rw[isSubtype_type];kernel_rfl
theorem rv_nsub:isSubtype (.type "list_reverseiterator") (.type "reversed")=pure false:=by rw[isSubtype_type];kernel_rfl
theorem YFi:Slot "list_reverseiterator" "__iter__" "list_reverseiterator.__iter__":=.of (owner:="list_reverseiterator") (n:="__iter__") (by rw[typeLookup_type,builtinLookup_eq_fast];kernel_rfl) (by decide +kernel) (by decide +kernel) (by decide +kernel) (by first |exact .inl (by decide +kernel) |exact .inr (by decide +kernel)) (by rw[isSubtype_type];kernel_rfl)
theorem X4:Slot "list_reverseiterator" "__next__" "list_reverseiterator.__next__":=.of (owner:="list_reverseiterator") (n:="__next__") (by rw[typeLookup_type,builtinLookup_eq_fast];kernel_rfl) (by decide +kernel) (by decide +kernel) (by decide +kernel) (by first |exact .inl (by decide +kernel) |exact .inr (by decide +kernel)) (by rw[isSubtype_type];kernel_rfl)
theorem lr_entI:entryFor table "list_reverseiterator.__iter__"=some Builtin.«dict_keyiterator.__iter__»:=entryFor_alias (id':="dict_keyiterator.__iter__") (by kernel_rfl) rfl (by decide +kernel) (by kernel_rfl)
theorem YHX:entryFor table "list_reverseiterator.__next__"=some Builtin.«list_reverseiterator.__next__»:=entryFor_of_tree (by kernel_rfl)
theorem lr_argI (a:Value):argsOk "list_reverseiterator.__iter__" ⟨[a],[]⟩:=by unfold argsOk;kernel_rfl
theorem YHY (a:Value):argsOk "list_reverseiterator.__next__" ⟨[a],[]⟩:=by unfold argsOk;kernel_rfl
theorem YFj:Slot "reversed" "__iter__" "reversed.__iter__":=.of (owner:="reversed") (n:="__iter__") (by rw[typeLookup_type,builtinLookup_eq_fast];kernel_rfl) (by decide +kernel) (by decide +kernel) (by decide +kernel) (by first |exact .inl (by decide +kernel) |exact .inr (by decide +kernel)) (by rw[isSubtype_type];kernel_rfl)
theorem X5:Slot "reversed" "__next__" "reversed.__next__":=.of (owner:="reversed") (n:="__next__") (by rw[typeLookup_type,builtinLookup_eq_fast];kernel_rfl) (by decide +kernel) (by decide +kernel) (by decide +kernel) (by first |exact .inl (by decide +kernel) |exact .inr (by decide +kernel)) (by rw[isSubtype_type];kernel_rfl)
theorem rv_entI:entryFor table "reversed.__iter__"=some Builtin.«dict_keyiterator.__iter__»:=entryFor_alias (id':="dict_keyiterator.__iter__") (by kernel_rfl) rfl (by decide +kernel) (by kernel_rfl)
theorem YHZ:entryFor table "reversed.__next__"=some Builtin.«reversed.__next__»:=entryFor_of_tree (by kernel_rfl)
theorem rv_argI (a:Value):argsOk "reversed.__iter__" ⟨[a],[]⟩:=by unfold argsOk;kernel_rfl
theorem YHa (a:Value):argsOk "reversed.__next__" ⟨[a],[]⟩:=by unfold argsOk;kernel_rfl
end L2
namespace L2
open PySem PySem.Spec PyProof.Rows
theorem YCv (l:Addr) (items:Array Value) (n:Nat):
  Meets (Builtin.«reversed.__new__» ⟨[.type "reversed",.ref l],[]⟩) (λA R s=>s.heap.get? l=some { cls:=.type "list",dict:=none,data:=.seq items n,slots:=#[] }/\
   R (.ok (.ret (.ref s.heap.objs.size))) { s with heap:=s.heap.push { cls:=.type "list_reverseiterator",data:=.fields #[.ref l,rawInt ((items.size:Int) - 1)] } }):=
 .of_wp λprog w A R s h=>by
  obtain⟨hp,g,d,tk,os⟩:=s;obtain⟨hl,h⟩:=h;have hsub:=YAW.sub;have hT:Shared.TypeIs ⟨hp,g,d,tk,os⟩ (.ref l) "list":=⟨_,hl,U⟩;have Es:=F.slot_list_reversed.lookup;have hb:=F.slot_list_reversed.bind (.ref l)
  wp_walk
  have key:=AutoListH.list___reversed___list_0 l items n prog w A.in1 (λ(r:Result) (s':Shared)=>r=Except.ok (Flow.ret (Value.ref hp.objs.size))/\s'=⟨hp.push { cls:=.type "list_reverseiterator",data:=.fields #[.ref l,rawInt ((items.size:Int) - 1)] },g,d,tk,os⟩) ⟨hp,g,d,tk,os⟩ ⟨hl,U,U⟩;refine codeAny_mono (codeAny_call_builtin (R:=(λ(r:Result) (s':Shared)=>r=Except.ok (Flow.ret (Value.ref hp.objs.size))/\s'=⟨hp.push { cls:=.type "list_reverseiterator",data:=.fields #[.ref l,rawInt ((items.size:Int) - 1)] },g,d,tk,os⟩)) F.slot_list_reversed.plain F.entry_list_reversed (F.slot_list_reversed.check _ _ _ _ _ _ _ _ hT (F.args_list_reversed_1 _) key)) λr s1 hr=>?_
  obtain⟨rfl,rfl⟩:=hr;exact YKV ⟨_,U,h⟩
theorem YCB (l:Addr) (items:Array Value) (o:Obj) (n:Nat) (hc:o.cls=.type "tuple") (hd:o.data=.seq items n) (hz:(items.size:Int) < 2 ^ 63):
  Meets (Builtin.«reversed.__new__» ⟨[.type "reversed",.ref l],[]⟩) (λA R s=>s.heap.get? l=some o/\
   R (.ok (.ret (.ref s.heap.objs.size))) { s with heap:=s.heap.push { cls:=.type "reversed",data:=.fields #[.ref l,rawInt ((items.size:Int) - 1)] },toks:=s.toks + 1 + 1 }):=
 .of_wp λprog w A R s h=>by
  obtain⟨hp,g,d,tk,os⟩:=s;obtain⟨hl,h⟩:=h;have hsub:=YAW.sub;have hT:Shared.TypeIs ⟨hp,g,d,tk,os⟩ (.ref l) "tuple":=⟨_,hl,hc⟩;have h1:=YJd;have h2:=YJe;have h3:=YJf;have ht:IsTup (Shared.heap ⟨hp,g,d,tk,os⟩) l items:=⟨o,hl,hc,n,hd⟩
  wp_walk using len_tuple ht hz
  exact⟨_,U,h⟩
section
variable {prog:Program}{w:World}{A:Around}{E:Value->Shared->Prop}{s:Shared}
theorem YDX {T T2 newId initId:String}{Bn:Builtin}{args:List Value}{S:PySem.Spec}{Q:Value->Shared->Prop} (ft:TypeCalled T newId initId) (hn:isSubtype (.type T2) (.type T)=pure false)
  (Rp:checkTypeCall T ⟨args,[]⟩=pure ()) (Rt:checkBuiltinCall newId ⟨.type T :: args,[]⟩=pure ()) (entryN:entryFor table newId=some Bn) (g:Meets (Bn ⟨.type T :: args,[]⟩) S)
  (h:S A.in1 (wants (λobj s1=>s1.TypeIs obj T2/\Q obj s1) E) s):wpAny (model prog w) A (call (.type T) args) Q E s:=by
 obtain⟨_,_,m0⟩:=ft.mro;have m1:=ft.made;have m2:=ft.sub;have m3:=ft.notType;have m4:=ft.canCreate;refine wpAny_call (codeAny_of_tree (show wpAny _ _ (callAny (.type T) _) _ _ _ from YKV ⟨Code.quiet_builtin _ (by decide +kernel),codeAny_builtin F.entry_type_call ?_⟩));rw[Around.under_plain (weight_type_call_type T args []) (units_type_call_type T args [])];repeat any_goals first |assumption |wp_step
 refine codeAny_mono (codeAny_call_builtin ft.plain entryN (wpAny_of_eq Rt (g prog w A.in1 _ s h))) λr s1 hr=>?_
 rcases r with e |fl
 ·exact hr
 ·cases fl with
  |ret obj=>
   obtain⟨hT,hq⟩:=hr
   repeat any_goals first |assumption |wp_step
  |_=>exact hr.elim
theorem YHb {α:Type}{Q:α->Shared->Prop}{E':Value->Shared->Prop} (hh:A.handled=none) (h:∀e h',(∀b o,s.heap.get? b=some o->h'.get? b=some o)->Shared.TypeIs { s with heap:=h' } e "StopIteration"->E' e { s with heap:=h' }):
  wpAny (model prog w) A (Builtin.SmallTypes.stopIteration:Sem α) Q E' s:=by
 unfold Builtin.SmallTypes.stopIteration;refine YKG ?_;simp only[newExc,newTuple];refine YKG (wpAny_newObj_type (YKG (m:=firstArgMember _ _) (wpAny_of_eq (a:=Value.none) (by first |rfl |(simp only[firstArgMember];rfl)) (wpAny_newObj_type ?_ (by size_fits)))) (by size_fits));simp only[raiseNew];refine YKG (wpAny_handled ?_);rw[hh];refine YKG (YKV (wpAny_throw (h _ _ (λb o e=>YKI _ (YKI _ e)) ?_)));exact⟨_,YKe _ rfl,U⟩
def YDY (h:Heap) (it l:Addr) (i:Int):Prop:=∃o,h.get? it=some o/\o.cls=.type "list_reverseiterator"/\o.data=.fields #[.ref l,.int i 0]
def YCw (h:Heap) (it l:Addr) (i:Int):Prop:=∃o,h.get? it=some o/\o.cls=.type "reversed"/\o.data=.fields #[.ref l,.int i 0]
theorem YAh {l:Addr}{items:Array Value}{n:Nat}{Q:Value->Shared->Prop} (hl:s.heap.get? l=some { cls:=.type "list",dict:=none,data:=.seq items n,slots:=#[] })
  (h:∀h',YDY h' s.heap.objs.size l ((items.size:Int) - 1)->(∀b o,s.heap.get? b=some o->h'.get? b=some o)->Q (.ref s.heap.objs.size) { s with heap:=h' }):wpAny (model prog w) A (call (.type "reversed") [.ref l]) Q E s:=by
 refine YDX YAW rv_nsub (YB4 _) (YCu _) YFh (YCv l items n) ⟨hl,?_⟩;exact⟨⟨_,YKe _ rfl,U⟩,h _ ⟨_,YKe _ rfl,U,U⟩ λb o e=>YKI _ e⟩
theorem X6 {l:Addr}{items:Array Value}{Q:Value->Shared->Prop} (hl:IsTup s.heap l items) (hz:(items.size:Int) < 2 ^ 63)
  (h:∀h',YCw h' s.heap.objs.size l ((items.size:Int) - 1)->(∀b o,s.heap.get? b=some o->h'.get? b=some o)->Q (.ref s.heap.objs.size) { s with heap:=h',toks:=s.toks + 1 + 1 }):wpAny (model prog w) A (call (.type "reversed") [.ref l]) Q E s:=by
 obtain⟨o,ho,hc,n,hd⟩:=hl;refine callType_new YAW (by decide) (YB4 _) (YCu _) (λobj=>F.args_object_init_2 obj _) YFh (YCB l items o n hc hd hz) ⟨ho,?_⟩;exact⟨⟨_,YKe _ rfl,U⟩,h _ ⟨_,YKe _ rfl,U,U⟩ λb o e=>YKI _ e⟩
theorem YAX {it l:Addr}{i:Int}{Q:Value->Shared->Prop} (hit:YDY s.heap it l i) (h:Q (.ref it) s):wpAny (model prog w) A (pyIter (.ref it)) Q E s:=by
 obtain⟨o,ho,hc,hd⟩:=hit;have hT:s.TypeIs (.ref it) "list_reverseiterator":=⟨o,ho,hc⟩;refine wpAny_pyIter_slot hT YFi (wpAny_call_entry YFi hT lr_entI ?_ (lr_argI _));show wpAny _ _ (ret (.ref it)) _ _ s;exact YKV ⟨_,U,"list_reverseiterator",_,hT,X4.lookup,h⟩
theorem YAY {it l:Addr}{i:Int}{Q:Value->Shared->Prop} (hit:YCw s.heap it l i) (h:Q (.ref it) s):wpAny (model prog w) A (pyIter (.ref it)) Q E s:=by
 obtain⟨o,ho,hc,hd⟩:=hit;have hT:s.TypeIs (.ref it) "reversed":=⟨o,ho,hc⟩;refine wpAny_pyIter_slot hT YFj (wpAny_call_entry YFj hT rv_entI ?_ (rv_argI _));show wpAny _ _ (ret (.ref it)) _ _ s;exact YKV ⟨_,U,"reversed",_,hT,X5.lookup,h⟩
theorem YEB {it l:Addr}{i:Nat}{items:Array Value}{x:Value}{Q:Option Value->Shared->Prop} (hit:YDY s.heap it l i) (hl:s.heap.IsList l items) (hx:items[i]?=some x)
  (hQ:∀h',YDY h' it l ((i:Int) - 1)->Heap.SameBut it s.heap h'->Q (some x) { s with heap:=h' }):wpAny (model prog w) A (pyNext (.ref it)) Q E s:=by
 obtain⟨o,ho,hc,hd⟩:=id hit;obtain⟨ol,hol,_,nl,hdl⟩:=hl;have hT:s.TypeIs (.ref it) "list_reverseiterator":=⟨o,ho,hc⟩;unfold pyNext;refine YKG (wpAny_attempt (wpAny_callSpecial?_slot (name:=Str.ofString "__next__") hT X4 (wpAny_call_entry X4 hT YHX ?_ (YHY _))));unfold Builtin.«list_reverseiterator.__next__»;refine YKG (YKV (YKG (wpAny_field ho hd (x:=.int i 0) rfl ?_)));show wpAny _ _ (if ((i:Nat):Int) < 0 then _ else _) _ _ s;rw[if_neg (by lia)];refine YKG (wpAny_field ho hd (x:=.ref l) rfl (YKG (wpAny_seqItems hol hdl ?_)));simp only[hx,YLc];exact YKG (wpAny_setField ho hd (by simp) (YKV ⟨_,U,YKV (hQ _ ⟨_,YK5 _ ho (Obj.isFreed_of_fields (Obj.data_mapFields hd _)),(Obj.cls_mapFields ..).trans hc,by rw[Obj.data_mapFields hd];simp[rawInt]⟩ (Heap.SameBut.update ..))⟩))
theorem YEC {it l:Addr}{i:Nat}{items:Array Value}{x:Value}{Q:Option Value->Shared->Prop} (hit:YCw s.heap it l i) (hl:IsTup s.heap l items) (hx:items[i]?=some x) (hz:(items.size:Int) < 2 ^ 63)
  (hQ:∀h',YCw h' it l ((i:Int) - 1)->Heap.SameBut it s.heap h'->Q (some x) { s with heap:=h',toks:=s.toks + 1 }):wpAny (model prog w) A (pyNext (.ref it)) Q E s:=by
 obtain⟨o,ho,hc,hd⟩:=id hit;have hT:s.TypeIs (.ref it) "reversed":=⟨o,ho,hc⟩;unfold pyNext;refine YKG (wpAny_attempt (wpAny_callSpecial?_slot (name:=Str.ofString "__next__") hT X5 (wpAny_call_entry X5 hT YHZ ?_ (YHa _))));unfold Builtin.«reversed.__next__»;refine YKG (YKV (YKG (wpAny_field ho hd (x:=.ref l) rfl (YKG (wpAny_field ho hd (x:=.int i 0) rfl ?_)))));show wpAny _ _ (if ((i:Nat):Int) < 0 then _ else _) _ _ s;rw[if_neg (by lia)];refine YKG (wpAny_specialOf hl.typeIs YJe ?_);show wpAny _ _ (mkInt (i:Int) >>= _) _ _ s;refine YKG (wpAny_mkInt ?_);have hlt:i < items.size:=(Array.getElem?_eq_some_iff.mp hx).1;have hsi:seqIndex? (i:Int) items.size=some i:=by
  unfold seqIndex?;simp
  lia
 refine YKG (wpAny_attempt (getItem_tuple (s:={ s with toks:=s.toks + 1 }) hl (by lia) (by lia) hsi hx ?_));refine YKG (wpAny_field (s:={ s with toks:=s.toks + 1 }) ho hd (x:=.int i 0) rfl ?_);exact YKG (wpAny_setField (s:={ s with toks:=s.toks + 1 }) ho hd (by simp) (YKV ⟨_,U,YKV (hQ _ ⟨_,YK5 _ ho (Obj.isFreed_of_fields (Obj.data_mapFields hd _)),(Obj.cls_mapFields ..).trans hc,by rw[Obj.data_mapFields hd];simp[rawInt]⟩ (Heap.SameBut.update ..))⟩))
theorem YFk {it l:Addr}{Q:Option Value->Shared->Prop} (hh:A.handled=none) (hit:YDY s.heap it l (-1)) (hQ:∀h',Heap.ExtBut it s.heap h'->Q none { s with heap:=h' }):wpAny (model prog w) A (pyNext (.ref it)) Q E s:=by
 obtain⟨o,ho,hc,hd⟩:=id hit;have hT:s.TypeIs (.ref it) "list_reverseiterator":=⟨o,ho,hc⟩;unfold pyNext;refine YKG (wpAny_attempt (wpAny_callSpecial?_slot (name:=Str.ofString "__next__") hT X4 (wpAny_call_entry X4 hT YHX ?_ (YHY _))));unfold Builtin.«list_reverseiterator.__next__»;refine YKG (YKV (YKG (wpAny_field ho hd (x:=.int (-1) 0) rfl ?_)));show wpAny _ _ (if (-1:Int) < 0 then _ else _) _ _ s;rw[if_pos (by decide)];refine YKG (wpAny_rule (YKG (YHb (A:=A.in1) hh λe h' k ty=>?_)));exact YKG (wpAny_isInstance (b:=true) ty isSubtype_stop (YKV (hQ h' λb o _ q=>k b o q)))
theorem YFl {it l:Addr}{Q:Option Value->Shared->Prop} (hh:A.handled=none) (hit:YCw s.heap it l (-1)) (hQ:∀h',Heap.ExtBut it s.heap h'->Q none { s with heap:=h' }):wpAny (model prog w) A (pyNext (.ref it)) Q E s:=by
 obtain⟨o,ho,hc,hd⟩:=id hit;have hT:s.TypeIs (.ref it) "reversed":=⟨o,ho,hc⟩;unfold pyNext;refine YKG (wpAny_attempt (wpAny_callSpecial?_slot (name:=Str.ofString "__next__") hT X5 (wpAny_call_entry X5 hT YHZ ?_ (YHa _))));unfold Builtin.«reversed.__next__»;refine YKG (YKV (YKG (wpAny_field ho hd (x:=.ref l) rfl (YKG (wpAny_field ho hd (x:=.int (-1) 0) rfl ?_)))));show wpAny _ _ (if (-1:Int) < 0 then _ else _) _ _ s;rw[if_pos (by decide)];refine YKG (wpAny_rule (YKG (show wpAny _ _ (setField (.ref it) 1 (rawInt (-1)) >>= λ_=>setField (.ref it) 0 Value.none) _ _ s from YKG (wpAny_setField ho hd (by simp) ?_))));have Qq:=YK5 (h:=s.heap) (a:=it) (o:=o) (λo=>o.mapFields λvs=>vs.set! 1 (rawInt (-1))) ho (Obj.isFreed_of_fields (Obj.data_mapFields hd _));have hd2:(Obj.mapFields (λvs=>vs.set! 1 (rawInt (-1))) o).data=.fields #[.ref l,rawInt (-1)]:=by rw[Obj.data_mapFields hd];simp
 have b1:Heap.SameBut it s.heap (s.heap.update it λo=>Obj.mapFields (λvs=>vs.set! 1 (rawInt (-1))) o):=Heap.SameBut.update ..;refine wpAny_setField (s:={ s with heap:=s.heap.update it λo=>Obj.mapFields (λvs=>vs.set! 1 (rawInt (-1))) o }) Qq hd2 (by simp) (YKG (YHb (A:=A.in1) hh λe h' k ty=>?_));refine YKG (wpAny_isInstance (b:=true) ty isSubtype_stop (YKV (hQ h' λb o hb q=>k b o ?_)));exact((Heap.SameBut.update ..).2 b hb).trans ((b1.2 b hb).trans q)
end
end L2
namespace L2
open PySem PySem.Spec PyProof.Rows
theorem YJg:typeLookup (.type "list_reverseiterator") "__len__"=pure none:=by rw[typeLookup_type,builtinLookup_eq_fast];kernel_rfl
theorem lr_hint:typeLookup (.type "list_reverseiterator") "__length_hint__"=pure (some (.builtin "list_reverseiterator.__length_hint__")):=by rw[typeLookup_type,builtinLookup_eq_fast];kernel_rfl
section
variable {prog:Program}{w:World}{A:Around}{E:Value->Shared->Prop}{s:Shared}
theorem YGm (hh:A.handled=none) (it l:Addr) (hne:l≠it) (items:Array Value):
  Walks prog w A it [it,l] [it] items.size (λi v=>items[items.size - 1 - i]?=some v) (λi h=>YDY h it l ((items.size:Int) - 1 - i)/\h.IsList l items) where
 sub:=λb hb=>by simp at hb;simp[hb]
 frame:=λi h h' st hk=>by
  obtain⟨⟨o,a,b,c⟩,q⟩:=st;exact⟨⟨o,hk it (by simp) o a,b,c⟩,q.at λo e=>hk l (by simp) o e⟩
 item:=λi s Q E hi st hQ=>by
  have e:((items.size:Int) - 1 - (i:Nat))=((items.size - 1 - i:Nat):Int):=by lia
  rw[e]at st;refine YEB st.1 st.2 (x:=items[items.size - 1 - i]) (by simp) λh' hit' hs'=>?_
  refine hQ _ h' s.toks (by simp) ⟨?_,st.2.extBut hs'.extBut hne⟩ λb o hb q=>hs'.extBut b o (λz=>hb (by simp[z])) q
  have e2:((items.size - 1 - i:Nat):Int) - 1=(items.size:Int) - 1 - ((i + 1:Nat):Int):=by lia
  rw[e2]at hit';exact hit'
 done:=λs Q E st hQ=>by
  have e:((items.size:Int) - 1 - (items.size:Nat))=-1:=by lia
  rw[e]at st;exact YFk hh st.1 λh' he'=>hQ h' s.toks λb o hb q=>he' b o (λz=>hb (by simp[z])) q
 self:=λ_ _ _ _ st hQ=>YAX st.1 hQ
theorem YIU {it l:Addr}{i:Int}{Q:Bool->Shared->Prop} (hit:YDY s.heap it l i) (h:Q false s):wpAny (model prog w) A (Builtin.List.listLengthHint (.ref it)) Q E s:=by
 obtain⟨o,ho,hc,hd⟩:=hit;have hT:s.TypeIs (.ref it) "list_reverseiterator":=⟨o,ho,hc⟩;unfold Builtin.List.listLengthHint;refine YKG (wpAny_specialOf hT YJg ?_);show wpAny _ _ (specialOf (Value.ref it) (Str.ofString "__length_hint__") >>= _) _ _ _;refine YKG (wpAny_specialOf hT lr_hint ?_);generalize hid:("list_reverseiterator.__length_hint__":String)=Qs
 wp_delta;rw[show splitId Qs=some ("list_reverseiterator","__length_hint__") from by subst hid;decide +kernel];subst hid
 refine YKG (wpAny_isInstance (T:="list_reverseiterator") (b:=true) hT (by rw[isSubtype_type];kernel_rfl) ?_);exact YKV h
theorem YCx {it l:Addr}{items:Array Value}{Q:Value->Shared->Prop} (hh:A.handled=none) (hit:YDY s.heap it l ((items.size:Int) - 1)) (hl:s.heap.IsList l items) (hne:l≠it) (hn:items.size<=sizeLine)
  (hQ:∀h' tk cH c',(∀b o,b≠it->s.heap.get? b=some o->h'.get? b=some o)->h'.get? s.heap.objs.size=some { cls:=.type "list",dict:=none,data:=.seq cH c',slots:=#[] }->
   ItemsOf (λi v=>items[items.size - 1 - i]?=some v) cH items.size->Q (.ref s.heap.objs.size) { s with heap:=h',toks:=tk }):wpAny (model prog w) A (call (.type "list") [.ref it]) Q E s:=by
 have itlt:it < s.heap.objs.size:=by obtain⟨o,ho,_⟩:=hit;exact YKS ho
 have llt:l < s.heap.objs.size:=by obtain⟨o,ho,_⟩:=hl;exact YKS ho
 refine callType_codes (Q₁:=λobj t=>obj=.ref s.heap.objs.size/\t={ s with heap:=s.heap.push { cls:=.type "list",data:=.seq #[] } }) F.called_list (F.typeCall_list_1 _) F.entry_list_init (code_list_new _ ⟨U,U⟩) λobj t ht=>?_
 obtain⟨rfl,rfl⟩:=ht;have g0:(s.heap.push { cls:=.type "list",data:=.seq #[] }).get? s.heap.objs.size=some { cls:=.type "list",data:=.seq #[] }:=YKe _ rfl;refine⟨⟨_,g0,U⟩,F.args_list_init_2 _ _,?_⟩;show wpAny _ _ (Builtin.List.listItems (.ref s.heap.objs.size) >>= λold=>Builtin.List.listUpdate (.ref s.heap.objs.size) (λ_=>#[]) >>= λ_=>letGo old.toList.reverse >>= λ_=>Builtin.List.listExtendWith (.ref s.heap.objs.size) (.ref it) .none) _ _ _;refine YKG ?_;unfold Builtin.List.listItems;refine YKG (wpAny_seqItems g0 rfl (YKV ?_));refine YKG (show wpAny _ _ (updateSeq s.heap.objs.size (λ_=>#[])) _ _ _ from wpAny_updateSeq g0 rfl ?_);have g1:=YK5 (Obj.mapSeq (λ_=>(#[]:Array Value))) g0 rfl;have k1:∀b o,s.heap.get? b=some o->((s.heap.push { cls:=.type "list",data:=.seq #[] }).update s.heap.objs.size (Obj.mapSeq (λ_=>(#[]:Array Value)))).get? b=some o:=λb o e=>
  (YLP _ _ (YLD (YKS e))).trans (YKI _ e)
 have jD:YDY ((s.heap.push { cls:=.type "list",data:=.seq #[] }).update s.heap.objs.size (Obj.mapSeq (λ_=>(#[]:Array Value)))) it l ((items.size:Int) - 1):=by
  obtain⟨o,ho,r⟩:=hit;exact⟨o,k1 it o ho,r⟩
 have hl1:Heap.IsList ((s.heap.push { cls:=.type "list",data:=.seq #[] }).update s.heap.objs.size (Obj.mapSeq (λ_=>(#[]:Array Value)))) l items:=hl.at λo e=>k1 l o e
 refine YKG (wpAny_letGo ?_);revert g1 k1 jD hl1;generalize (s.heap.push { cls:=.type "list",data:=.seq #[] }).update s.heap.objs.size (Obj.mapSeq (λ_=>(#[]:Array Value)))=h1;intro g1 k1 jD hl1;have hT:Shared.TypeIs { s with heap:=h1 } (.ref it) "list_reverseiterator":=by obtain⟨o,ho,hc,_⟩:=jD;exact⟨o,ho,hc⟩
 unfold Builtin.List.listExtendWith;refine YKG (wpAny_typeOf hT ?_);have ns:Builtin.List.listSameRef (.ref s.heap.objs.size) (.ref it)=false:=by simp[Builtin.List.listSameRef,YLD itlt]
 rw[if_neg (by rw[ns];decide)];refine YKG (YAX jD (YKG (wpAny_holding (YIU jD ?_))));refine(show wpAny _ _ (if _ then _ else _) _ _ _ from ?_);rw[if_neg (by decide)];have W:=(YGm (prog:=prog) (w:=w) (A:=A.in1.in1) hh it l hne items).toS;have nf:s.heap.objs.size∉[it,l]:=by simp only[YKT,YLG,or_false,not_or];exact⟨YLD itlt,YLD llt⟩
 refine YKV ⟨plainId_quiet F.plain_extend_loop _,codeAny_extend_loopS W hn _ nf _ items.size 0 _ _ _ rfl (YKm _) ⟨by simpa using jD,hl1⟩ g1 (ItemsOf.nil _) λs' cH c' hm hS' hacc=>?_⟩;rw[Moved.eq_with hm];refine⟨U,hQ s'.heap s'.toks cH c' (λb o hb e=>hm.heap b o (λhmem=>?_) (k1 b o e)) hS' hacc⟩;rcases YKT.mp hmem with z |hmem
 ·rw[z]at e;exact YLB _ (YKS e)
 ·exact hb (YKf.mp hmem)
end
end L2
namespace L2
open PySem PySem.Spec PyProof.Rows
def Itrl (K:W.Frag) (a:Addr) (n:Nat):It:=
 ⟨λi H=>∃xs,SqL K H a xs/\xs.length=n/\i < n,λi H x H'=>H'=H/\∀xs,SqL K H a xs->xs[n - 1 - i]?=some x,λi _=>i=n⟩
def Itrt (K:W.Frag) (a:Addr) (n:Nat):It:=
 ⟨λi H=>∃xs,SqT K H a xs/\xs.length=n/\i < n,λi H x H'=>H'=H/\∀xs,SqT K H a xs->xs[n - 1 - i]?=some x,λi _=>i=n⟩
theorem YIV {P:Program}{w:World}{K:W.Frag}{tg:Expr} (a it:Addr) (n:Nat):YDO P w K tg (Itrl K a n) [it] it (λi h=>YDY h it a ((n:Int) - 1 - i)) where
 mem:=by simp
 obj:=λi h st b hb=>by
  have e:b=it:=by simpa using hb
  subst e;obtain⟨o,e,c,d⟩:=st;exact⟨o,e,λv z=>by rw[d]at z;cases z⟩
 keep:=λi h h' st k=>by
  obtain⟨o,e,r⟩:=st;exact⟨o,k it (by simp) o e,r⟩
 item:=by
  intro X hP hw hK hc i pins s σ H E I hf st hg;subst hP hw hK;obtain⟨xs,hq,hn,hi⟩:=hg;obtain⟨its,rv,p,hz⟩:=I.list hq;have hx:xs[n - 1 - i]?=some xs[n - 1 - i]:=YKK (by lia);obtain⟨u,hu,ru⟩:=rv.get hx;obtain⟨f0,f1,f2,f3,f4,f5⟩:=hf it (by simp);have e:(n:Int) - 1 - (i:Nat)=((n - 1 - i:Nat):Int):=by lia
  rw[e]at st;refine YEB st p.isList (x:=u) (by simpa using hu) λh' st' sb=>?_
  have e2:((n - 1 - i:Nat):Int) - 1=(n:Int) - 1 - ((i + 1:Nat):Int):=by lia
  rw[e2]at st';have I1:Inv X pins σ H { s with heap:=h' }:=I.turned (t':=s.toks) (λb o hb e=>(sb.2 b hb).trans e) f0 f1 f3 f4 f5;obtain⟨o,eo,c,d⟩:=id st';exact⟨u,U,YDr (s:={ s with heap:=h' }) eo c d (by decide) ⟨_,H,I1,ru,⟨U,λys hy=>by rw[I.list_inj hy hq];exact hx⟩,st',λb hb=>(hf b hb).1⟩⟩
 done:=by
  intro X hP hw hK hc i pins s σ H E I hf st hg;subst hP hw hK hg;obtain⟨f0,f1,f2,f3,f4,f5⟩:=hf it (by simp);have e:((i:Nat):Int) - 1 - (i:Nat)=-1:=by lia
  rw[e]at st;exact YFk (I.ok.hd hc) st λh' eb=>⟨U,I.turned (t':=s.toks) (λb o hb e=>eb b o hb e) f0 f1 f3 f4 f5⟩
 self:=λ_ _ _ _ _ st h=>YAX st h
theorem YIW {P:Program}{w:World}{K:W.Frag}{tg:Expr} (a it:Addr) (n:Nat):YDO P w K tg (Itrt K a n) [it] it (λi h=>YCw h it a ((n:Int) - 1 - i)) where
 mem:=by simp
 obj:=λi h st b hb=>by
  have e:b=it:=by simpa using hb
  subst e;obtain⟨o,e,c,d⟩:=st;exact⟨o,e,λv z=>by rw[d]at z;cases z⟩
 keep:=λi h h' st k=>by
  obtain⟨o,e,r⟩:=st;exact⟨o,k it (by simp) o e,r⟩
 item:=by
  intro X hP hw hK hc i pins s σ H E I hf st hg;subst hP hw hK;obtain⟨xs,hq,hn,hi⟩:=hg;obtain⟨its,rv,p,hz⟩:=I.tuple hq;have hx:xs[n - 1 - i]?=some xs[n - 1 - i]:=YKK (by lia);obtain⟨u,hu,ru⟩:=rv.get hx;obtain⟨f0,f1,f2,f3,f4,f5⟩:=hf it (by simp);have e:(n:Int) - 1 - (i:Nat)=((n - 1 - i:Nat):Int):=by lia
  rw[e]at st;have hlen:=rv.length;have wJ:=XY;refine YEC st p (x:=u) (by simpa using hu) (by rw[YKQ];lia) λh' st' sb=>?_
  have e2:((n - 1 - i:Nat):Int) - 1=(n:Int) - 1 - ((i + 1:Nat):Int):=by lia
  rw[e2]at st';have I1:Inv X pins σ H { s with heap:=h',toks:=s.toks + 1 }:=I.turned (t':=s.toks + 1) (λb o hb e=>(sb.2 b hb).trans e) f0 f1 f3 f4 f5;obtain⟨o,eo,c,d⟩:=id st';exact⟨u,U,YDr (s:={ s with heap:=h',toks:=s.toks + 1 }) eo c d (by decide) ⟨_,H,I1,ru,⟨U,λys hy=>by rw[I.tuple_inj hy hq];exact hx⟩,st',λb hb=>(hf b hb).1⟩⟩
 done:=by
  intro X hP hw hK hc i pins s σ H E I hf st hg;subst hP hw hK hg;obtain⟨f0,f1,f2,f3,f4,f5⟩:=hf it (by simp);have e:((i:Nat):Int) - 1 - (i:Nat)=-1:=by lia
  rw[e]at st;exact YFl (I.ok.hd hc) st λh' eb=>⟨U,I.turned (t':=s.toks) (λb o hb e=>eb b o hb e) f0 f1 f3 f4 f5⟩
 self:=λ_ _ _ _ _ st h=>YAY st h
section
variable {X:Cx}{tg:Expr}
def iRevL (K:W.Frag) (ta:TA):TI:=λσ H R=>ta σ H λvs H1=>∃a xs,vs=[.ref a]/\Rd H1 a (.lst xs)/\R (Itrl K a xs.length) H1
def iRevT (K:W.Frag) (ta:TA):TI:=λσ H R=>ta σ H λvs H1=>∃a xs,vs=[.ref a]/\SqT K H1 a xs/\R (Itrt K a xs.length) H1
theorem pi_revL (K:W.Frag) (hK:X.K=K) {a:Expr}{ta:TA}{p pos:Pos} (hg:Gl X "reversed") (hm:X.mg "reversed"=none) (ha:PA X [a] ta) (hs:starEach [a] X.env=[(false,eval a X.env)]:=by rfl):
  PI X tg (.Call (.Name "reversed" p) [a] [] pos) (iRevL K ta):=by
 subst hK;intro pins s σ H R I h;refine Call_ (JJ I hg hm YLK (PyProof.Rows.callWith_type1 (thn (ha pos pins s σ H _ I h) λus s1 ⟨vs,H1,I1,r1,q1⟩=>?_) hs rfl));obtain⟨l,xs,rfl,hq,q⟩:=q1;obtain⟨u,rfl,ru⟩:=JO r1;cases ru;obtain⟨hz,its,n,rv,hl⟩:=(show Yq X.prog X.w H1 s1.heap l (.lst xs) from hq.ok I1.hok);have hlen:xs.length=its.length:=rv.length;refine YAh hl λh' hit hk=>?_
 have I2:Inv X pins σ H1 { s1 with heap:=h' }:=I1.kept (t':=s1.toks) hk;refine YAX hit ?_;refine⟨s1.heap.objs.size,[s1.heap.objs.size],_,_,H1,U,I2,YIV l _ xs.length,by simpa [hlen] using hit,λb hb=>?_,q⟩;have eb:b=s1.heap.objs.size:=by simpa using hb
 subst eb;exact I1.fpOk (YKH _) (I1.hok.fresh (YKH _))
theorem YHc (K:W.Frag) (hK:X.K=K) {a:Expr}{ta:TA}{p pos:Pos} (hg:Gl X "reversed") (hm:X.mg "reversed"=none) (ha:PA X [a] ta) (hs:starEach [a] X.env=[(false,eval a X.env)]:=by rfl):
  PI X tg (.Call (.Name "reversed" p) [a] [] pos) (iRevT K ta):=by
 subst hK;intro pins s σ H R I h;refine Call_ (JJ I hg hm YLK (PyProof.Rows.callWith_type1 (thn (ha pos pins s σ H _ I h) λus s1 ⟨vs,H1,I1,r1,q1⟩=>?_) hs rfl));obtain⟨l,xs,rfl,hq,q⟩:=q1;obtain⟨u,rfl,ru⟩:=JO r1;cases ru;obtain⟨its,rv,pl,hz⟩:=I1.tuple hq;have hlen:xs.length=its.length:=rv.length;have wJ:=XY;refine X6 pl (by rw[YKQ];lia) λh' hit hk=>?_
 have I2:Inv X pins σ H1 { s1 with heap:=h',toks:=s1.toks + 1 + 1 }:=I1.kept (t':=s1.toks + 1 + 1) hk;refine YAY hit ?_;refine⟨s1.heap.objs.size,[s1.heap.objs.size],_,_,H1,U,I2,YIW l _ xs.length,by simpa [hlen] using hit,λb hb=>?_,q⟩;have eb:b=s1.heap.objs.size:=by simpa using hb
 subst eb;exact I1.fpOk (YKH _) (I1.hok.fresh (YKH _))
end
theorem YJh {xs:List V}{i:Nat}{x:V} (hi:i < xs.length) (h:xs[xs.length - 1 - i]?=some x):xs.reverse[i]?=some x:=by rw[YLS hi];exact h
theorem YJi {K:W.Frag}{a:Addr}{xs:List V}{g:TG}{tb:TS}{D:Z3}{σ:St}{H:Hp} (Pv:Nat->St->Hp->Prop) (h0:Pv 0 σ H) (hl:∀i σ H,i<=xs.length->Pv i σ H->SqL K H a xs)
  (hs:∀i x σ H,xs.reverse[i]?=some x->Pv i σ H->g x σ H λσ2 H2=>tb { D with nx:=Pv (i + 1),ct:=Pv (i + 1),bk:=D.nx } σ2 H2) (hd:∀σ H,Pv xs.length σ H->D.nx σ H):
  ∃W:Nat->Nat->St->Hp->Prop,(∃m,W 0 m σ H)/\∀i m σ H,W i m σ H->
   ((Itrl K a xs.length).stop i H/\D.nx σ H)\/((Itrl K a xs.length).go i H/\∃N:St->Hp->Prop,(∀σ' H',N σ' H'->∃m',m' < m/\W (i + 1) m' σ' H')/\∀x H',(Itrl K a xs.length).yld i H x H'->g x σ H' λσ2 H2=>tb { D with nx:=N,ct:=N,bk:=D.nx } σ2 H2):=by
 refine⟨λi m σ H=>m=xs.length - i/\i<=xs.length/\Pv i σ H,⟨xs.length,by simp,YKm _,h0⟩,?_⟩;rintro i m σ H ⟨rfl,hi,p⟩;have q:=hl i σ H hi p
 by_cases hlt:i < xs.length
 ·refine .inr ⟨⟨xs,q,U,hlt⟩,Pv (i + 1),λσ' H' p'=>⟨xs.length - (i + 1),by lia,U,hlt,p'⟩,λx H' y=>?_⟩;obtain⟨e,y⟩:=y;subst e;exact hs i x σ _ (YJh hlt (y xs q)) p
 ·have e:i=xs.length:=by lia
  subst e;exact .inl ⟨U,hd σ H p⟩
theorem YFm {K:W.Frag}{a:Addr}{xs:List V}{g:TG}{tb:TS}{D:Z3}{σ:St}{H:Hp} (Pv:Nat->St->Hp->Prop) (h0:Pv 0 σ H) (hl:∀i σ H,i<=xs.length->Pv i σ H->SqT K H a xs)
  (hs:∀i x σ H,xs.reverse[i]?=some x->Pv i σ H->g x σ H λσ2 H2=>tb { D with nx:=Pv (i + 1),ct:=Pv (i + 1),bk:=D.nx } σ2 H2) (hd:∀σ H,Pv xs.length σ H->D.nx σ H):
  ∃W:Nat->Nat->St->Hp->Prop,(∃m,W 0 m σ H)/\∀i m σ H,W i m σ H->
   ((Itrt K a xs.length).stop i H/\D.nx σ H)\/((Itrt K a xs.length).go i H/\∃N:St->Hp->Prop,(∀σ' H',N σ' H'->∃m',m' < m/\W (i + 1) m' σ' H')/\∀x H',(Itrt K a xs.length).yld i H x H'->g x σ H' λσ2 H2=>tb { D with nx:=N,ct:=N,bk:=D.nx } σ2 H2):=by
 refine⟨λi m σ H=>m=xs.length - i/\i<=xs.length/\Pv i σ H,⟨xs.length,by simp,YKm _,h0⟩,?_⟩;rintro i m σ H ⟨rfl,hi,p⟩;have q:=hl i σ H hi p
 by_cases hlt:i < xs.length
 ·refine .inr ⟨⟨xs,q,U,hlt⟩,Pv (i + 1),λσ' H' p'=>⟨xs.length - (i + 1),by lia,U,hlt,p'⟩,λx H' y=>?_⟩;obtain⟨e,y⟩:=y;subst e;exact hs i x σ _ (YJh hlt (y xs q)) p
 ·have e:i=xs.length:=by lia
  subst e;exact .inl ⟨U,hd σ H p⟩
def YJj (ta:TA):TE:=λσ H Q=>ta σ H λvs H1=>∃a xs,vs=[.ref a]/\Rd H1 a (.lst xs)/\∀l,H1 l=none->Q (.ref l) (upd H1 l (.lst xs.reverse))
theorem YFn {X:Cx}{a:Expr}{ta:TA}{p p2 pos eY:Pos} (hc:X.calm=true) (hg:Gl X "list") (hm:X.mg "list"=none) (yC:Gl X "reversed") (hm2:X.mg "reversed"=none) (ha:PA X [a] ta)
  (hs:starEach [.Call (.Name "reversed" p2) [a] [] eY] X.env=[(false,eval (.Call (.Name "reversed" p2) [a] [] eY) X.env)]:=by rfl) (hs2:starEach [a] X.env=[(false,eval a X.env)]:=by rfl):
  PE X (.Call (.Name "list" p) [.Call (.Name "reversed" p2) [a] [] eY] [] pos) (YJj ta):=by
 intro pins s σ H Q I h;refine wpAny_Call_Name_kw (JJ I hg hm YKy ?_);refine PyProof.Rows.callWith_type1 ?_ hs rfl;rw[hs];show wpAny _ _ (spliced ((false,eval (.Call (.Name "reversed" p2) [a] [] eY) X.env) :: [])) _ _ s;refine Calls.spliced_cons (wpAny_Call_Name_kw (JJ I yC hm2 YLK (PyProof.Rows.callWith_type1 (thn (ha eY pins s σ H _ I h) λus s1 ⟨vs,H1,I1,r1,q1⟩=>?_) hs2 rfl)));obtain⟨l,xs,rfl,hq,q⟩:=q1;obtain⟨u,rfl,ru⟩:=JO r1;cases ru;obtain⟨hz,its,n,rv,hl⟩:=(show Yq X.prog X.w H1 s1.heap l (.lst xs) from hq.ok I1.hok);have hlen:xs.length=its.length:=rv.length;refine YAh hl λh1 hit hk=>Calls.spliced_nil ?_
 refine YCx (s:={ s1 with heap:=h1 }) (items:=its.toArray) (I1.ok.hd hc) hit ⟨_,hk _ _ hl,U,n,U⟩ (YKn (YKS hl)) (by rw[YKQ];lia) λh' tk cH c' hk' hS hit'=>?_
 have yD:Yi xs.reverse cH.toList:=by
  refine YAN (by
   have e1:cH.toList.length=its.length:=(Array.length_toList.trans hit'.1).trans (YKQ ..);rw[YKl,hlen,e1]) λj x u h1 h2=>?_
  have h3:=hit'.2 j u (by rw[<-YK6];exact h2);have hj:j < xs.length:=by
   have:=(YKR.mp h1).1
   rwa [YKl]at this
  rw[YLS hj]at h1;obtain⟨u',e1,r'⟩:=rv.get h1;rw[List.getElem?_toArray,YKQ,<-hlen]at h3;rw[h3]at e1;cases e1;exact r'
 have le:s1.heap.objs.size<=h1.objs.size:=by
  obtain⟨o,ho,_⟩:=hit;exact YLx (YKS ho)
 have kk:∀b u,s1.heap.get? b=some u->h'.get? b=some u:=λb u e=>hk' b u (YKn (YKS e)) (hk b u e)
 exact⟨.ref h1.objs.size,_,I1.laid (t':=tk) kk le (show Yq X.prog X.w _ h' _ (.lst _) from⟨by rw[YKl];exact hz,cH.toList,c',yD,by simpa using hS⟩),U,q _ (I1.hok.fresh le)⟩
end L2
namespace FR
open PySem L2
inductive Yw (g:YX):List Str->List Nat->Prop
 |nil:Yw g [] []
 |cons {ns:List Str}{k:Nat}{r:Yl}{row:List Nat}:g[k]?=some r->Yw g (unQ r.2.1 ++ ns) row->Yw g (r.1 :: ns) (k :: row)
structure YBl (g:YX) (e:Sz):Prop where
 nd:(e.map (·.1)).Nodup
 ent:∀(i:Nat) (z:Str) (k:Int),e[i]?=some (z,k)->∃r,0<=k/\g[k.toNat]?=some r/\r.1=z/\∀p∈r.2.1,isQ p=false->p∈(e.take i).map (·.1)
def InK (e:Sz) (r:Yl):Prop:=∀p∈r.2.1,isQ p=false->p∈e.map (·.1)
def YEz (g:YX) (e:Sz):Prop:=∀r∈g,InK e r->r.1∈e.map (·.1)
theorem YBm {s:Sz}{z:Str} (h:z∈s.map (·.1)):∃v,look s z=some v:=by
 cases e:look s z with
 |some v=>exact⟨v,U⟩
 |none=>exact absurd h (YAS e)
theorem YBl.nil (g:YX):YBl g []:=⟨List.nodup_nil,λi z k e=>by cases e⟩
theorem YBl.snoc {g:YX}{e:Sz} (h:YBl g e) {r:Yl}{k:Nat} (hr:g[k]?=some r) (hin:InK e r) (hn:¬r.1∈e.map (·.1)):YBl g (e ++ [(r.1,(k:Int))]):=by
 refine⟨?_,λi z k' he=>?_⟩
 ·rw[YKW];exact YBN h.nd hn
 ·by_cases hi:i < e.length
  ·rw[YLA hi]at he;obtain⟨r',h1,h2,h3,h4⟩:=h.ent i z k' he;refine⟨r',h1,h2,h3,λp hp hq=>?_⟩;rw[List.take_append_of_le_length (by lia)];exact h4 p hp hq
  ·have hi2:i=e.length:=by
    have:=(YKR.mp he).1;rw[YKJ]at this;simp at this
    lia
   subst hi2;rw[YKw (YKH _),YLw]at he;cases he;refine⟨r,Int.natCast_nonneg _,by rw[YLc];exact hr,U,λp hp hq=>?_⟩;rw[List.take_append_of_le_length (YKH _),YLg];exact hin p hp hq
theorem sz_in {g:YX}{s e:Sz} (h:Yp g 0 s) (c:YEz g e):∀(n:Nat) (z:Str) (v:Int),v.toNat<=n->look s z=some v->z∈e.map (·.1):=by
 intro n
 induction n with
 |zero=>
  intro z v hn hl;have:=h.pos z v hl
  lia
 |succ n ih=>
  intro z v hn hl;obtain⟨r,hr,rfl,m,e1,hm⟩:=h.hd z v hl;have hv:=h.pos _ v hl;obtain⟨_,part⟩:=Ym h.pos e1;refine c r hr λp hp hq=>?_
  obtain⟨v1,e2,hle⟩:=part p hp hq;exact ih p v1 (by lia) e2
def YBn:Sz->Str->Nat
 |[],_=>0
 |p :: s,z=>if p.1=z then 0 else YBn s z + 1
def wt (e:Sz) (z:Str):Nat:=7 ^ (YBn e z + 1)
def wts (e:Sz) (zs:List Str):Nat:=(zs.map (wt e)).sum
theorem YHd:∀{e:Sz}{i:Nat}{p:Str},p∈(e.take i).map (·.1)->YBn e p < i
 |[],i,p,h=>by rw[List.take_nil]at h;cases h
 |q :: e,0,p,h=>by cases h
 |q :: e,i + 1,p,h=>by
  unfold YBn
  by_cases hq:q.1=p
  ·rw[if_pos hq];exact Nat.succ_pos _
  ·rw[if_neg hq];rw[List.take_succ_cons,YKa]at h;rcases YKT.mp h with z |h
   ·exact absurd z.symm hq
   ·exact Nat.succ_lt_succ (YHd h)
theorem YE0:∀{e:Sz}{p:Str},YBn e p<=e.length
 |[],p=>YKH _
 |q :: e,p=>by
  unfold YBn
  by_cases hq:q.1=p
  ·rw[if_pos hq];exact YKm _
  ·rw[if_neg hq];exact Nat.succ_le_succ YE0
theorem YHe:∀{e:Sz}{z:Str}{k:Int},look e z=some k->e[YBn e z]?=some (z,k)
 |[],z,k,h=>by cases h
 |q :: e,z,k,h=>by
  rw[ZX]at h;unfold YBn
  by_cases hq:q.1=z
  ·rw[if_pos hq]at h ⊢;cases h;rw[<-hq];rfl
  ·rw[if_neg hq]at h ⊢;exact YHe h
theorem YE1 {e:Sz}{i:Nat}:∀{zs:List Str},(∀z∈zs,YBn e z < i)->wts e zs<=zs.length * 7 ^ i
 |[],_=>by simp[wts]
 |z :: zs,h=>by
  have ih:=YE1 (e:=e) (i:=i) (zs:=zs) λx hx=>h x (YKY _ hx)
  have h1:wt e z<=7 ^ i:=by
   unfold wt;exact Nat.pow_le_pow_right (by decide) (h z (YKd ..))
  show((z :: zs).map (wt e)).sum<=_;rw[YKa,YLE,YKX,Nat.succ_mul];have:(zs.map (wt e)).sum<=zs.length * 7 ^ i:=ih
  lia
theorem YCO (ps:List Str):(unQ ps).length<=ps.length:=List.length_filter_le _ _
theorem JC {ps:List Str}{p:Str}:p∈unQ ps<->p∈ps/\isQ p=false:=by
 unfold unQ;rw[YLz];constructor
 ·rintro⟨a,b⟩;exact⟨a,by simpa using b⟩
 ·rintro⟨a,b⟩;exact⟨a,by simp[b]⟩
theorem YBl.lighter {g:YX}{e:Sz} (h:YBl g e) {z:Str}{k:Int} (hz:look e z=some k):∃r,0<=k/\g[k.toNat]?=some r/\r.1=z/\InK e r/\(r.2.1.length<=6->wts e (unQ r.2.1) < wt e z):=by
 have hat:=YHe hz;obtain⟨r,h1,h2,h3,h4⟩:=h.ent _ _ _ hat;refine⟨r,h1,h2,h3,λp hp hq=>?_,λh6=>?_⟩
 ·obtain⟨x,hx,e1⟩:=YKU.mp (h4 p hp hq);exact YKU.mpr ⟨x,List.mem_of_mem_take hx,e1⟩
 ·have:=YE1 (e:=e) (i:=YBn e z) (zs:=unQ r.2.1) λp hp=>YHd (h4 p (JC.mp hp).1 (JC.mp hp).2)
  have h7:=YCO r.2.1;have h8:(unQ r.2.1).length * 7 ^ YBn e z<=6 * 7 ^ YBn e z:=Nat.mul_le_mul_right _ (by lia);have h9:0 < 7 ^ YBn e z:=Nat.pow_pos (by decide);unfold wt;rw[Nat.pow_succ]
  lia
theorem YJk {e:Sz}{r:Yl} (h6:r.2.1.length<=6):wts e (unQ r.2.1)<=6 * 7 ^ (e.length + 1):=by
 have:=YE1 (e:=e) (i:=e.length + 1) (zs:=unQ r.2.1) λp _=>Nat.lt_succ_of_le YE0
 have h7:=YCO r.2.1;have h8:(unQ r.2.1).length * 7 ^ (e.length + 1)<=6 * 7 ^ (e.length + 1):=Nat.mul_le_mul_right _ (by lia)
 lia
theorem wts_len (e:Sz) (zs:List Str):zs.length<=wts e zs:=by
 induction zs with
 |nil=>exact YKm _
 |cons z zs ih=>
  show _<=((z :: zs).map (wt e)).sum;rw[YKa,YLE,YKX];have h1:0 < wt e z:=Nat.pow_pos (by decide);have:zs.length<=(zs.map (wt e)).sum:=ih
  lia
theorem YCy (e:Sz) (a b:List Str):wts e (a ++ b)=wts e a + wts e b:=by
 unfold wts;rw[YKW,List.sum_append]
theorem wts_rev (e:Sz) (a:List Str):wts e a.reverse=wts e a:=by
 unfold wts;rw[YLQ,List.sum_reverse]
def YCz (g:YX) (e:Sz) (z:Str) (k:Nat):Bool:=match g[k]? with
 |none=>false
 |some r=>decide (r.1=z) && r.2.1.all λp=>isQ p || (look e p).isSome
def XT (g:YX) (e:Sz) (z:Str) (n:Nat):List Nat:=(List.range n).filter (YCz g e z)
theorem YIX {g:YX}{e:Sz}{z:Str}{n k:Nat} (h:k∈XT g e z n):∃r,g[k]?=some r/\r.1=z/\InK e r:=by
 obtain⟨_,hb⟩:=YLz.mp h;unfold YCz at hb;cases hr:g[k]? with
 |none=>rw[hr]at hb;cases hb
 |some r=>
  rw[hr]at hb;have hb:(decide (r.1=z) && r.2.1.all λp=>isQ p || (look e p).isSome)=true:=hb;rw[YKM,YKt]at hb;refine⟨r,U,hb.1,λp hp hq=>?_⟩;have:=YKj.mp hb.2 p hp;rw[hq,Bool.false_or]at this;obtain⟨v,hv⟩:=Option.isSome_iff_exists.mp this;exact YKU.mpr ⟨_,Z8 hv,U⟩
theorem YJl {g:YX}{e:Sz}{z:Str}{k:Nat}{r:Yl} (hr:g[k]?=some r) (hz:r.1=z) (hin:InK e r):k∈XT g e z g.length:=by
 have hlt:=(YKR.mp hr).1;refine YLz.mpr ⟨YLI.mpr hlt,?_⟩;unfold YCz;rw[hr];show(decide (r.1=z) && r.2.1.all λp=>isQ p || (look e p).isSome)=true;rw[YKN hz,Bool.true_and,YKj];intro p hp;cases hq:isQ p with
 |true=>rfl
 |false=>
  obtain⟨v,hv⟩:=YBm (hin p hp hq);rw[hv];rfl
end FR
namespace L2
open PySem PySem.Spec PyProof.Rows
section
variable {prog:Program}{w:World}{A:Around}{E:Value->Shared->Prop}{s:Shared}
theorem YJm {α:Type}{Q:α->Shared->Prop}{E':Value->Shared->Prop} (hh:A.handled=none) (h:∀e h',(∀b o,s.heap.get? b=some o->h'.get? b=some o)->(∃o,h'.get? e=some o/\o.cls=.type "StopIteration")->E' (.ref e) { s with heap:=h' }):
  wpAny (model prog w) A (Builtin.SmallTypes.stopIteration:Sem α) Q E' s:=by
 unfold Builtin.SmallTypes.stopIteration;refine YKG ?_;simp only[newExc,newTuple];refine YKG (wpAny_newObj_type (YKG (m:=firstArgMember _ _) (wpAny_of_eq (a:=Value.none) (by first |rfl |(simp only[firstArgMember];rfl)) (wpAny_newObj_type ?_ (by size_fits)))) (by size_fits));simp only[raiseNew];refine YKG (wpAny_handled ?_);rw[hh];refine YKG (YKV (wpAny_throw (h _ _ (λb o e=>YKI _ (YKI _ e)) ?_)));exact⟨_,YKe _ rfl,U⟩
theorem YGn {it t:Addr}{i:Nat}{items:Array Value}{x:Value}{Q:Value->Shared->Prop} (hit:s.heap.IsTupleIter it t i) (ht:IsTup s.heap t items) (hx:items[i]?=some x)
  (hQ:∀h',h'.IsTupleIter it t (i + 1)->Heap.SameBut it s.heap h'->Q x { s with heap:=h' }):wpAny (model prog w) A (Builtin.SmallTypes.nextOf (.ref it)) Q E s:=by
 obtain⟨o,ho,hc,hd⟩:=id hit;obtain⟨ol,hol,_,nl,hdl⟩:=ht;unfold Builtin.SmallTypes.nextOf;refine YKG (wpAny_callSpecial?_slot (name:=Str.ofString "__next__") hit.typeIs F.slot_tuple_iterator_next (wpAny_call_entry F.slot_tuple_iterator_next hit.typeIs F.entry_tuple_iterator_next ?_ (F.args_tuple_iterator_next_1 _)));refine(show wpAny _ _ (field (.ref it) 0 >>= _) _ _ s from YKG (wpAny_field ho hd (x:=.ref t) rfl ?_));refine(show wpAny _ _ (if (Value.ref t == Value.none)=true then _ else _) _ _ s from ?_);rw[if_neg (show ¬(Value.ref t == Value.none)=true from YKZ)];refine(show wpAny _ _ (field (.ref it) 1 >>= _) _ _ s from YKG (wpAny_field ho hd (x:=.int i 0) rfl ?_));refine(show wpAny _ _ (seqItems? (.ref t) >>= _) _ _ s from YKG (wpAny_seqItems hol hdl ?_));simp only[hx,YLc];exact YKG (wpAny_setField ho hd (by simp) (YKV ⟨_,U,YKV (hQ _ ⟨_,YK5 _ ho (Obj.isFreed_of_fields (Obj.data_mapFields hd _)),(Obj.cls_mapFields ..).trans hc,by rw[Obj.data_mapFields hd];simp[rawInt]⟩ (Heap.SameBut.update ..))⟩))
theorem YC0 {it t:Addr}{i:Nat}{items:Array Value}{Q:Value->Shared->Prop} (hh:A.handled=none) (hit:s.heap.IsTupleIter it t i) (ht:IsTup s.heap t items) (hx:items[i]?=none)
  (hE:∀h' e,Heap.ExtBut it s.heap h'->(∃o,h'.get? e=some o/\o.cls=.type "StopIteration")->E (.ref e) { s with heap:=h' }):wpAny (model prog w) A (Builtin.SmallTypes.nextOf (.ref it)) Q E s:=by
 obtain⟨o,ho,hc,hd⟩:=id hit;obtain⟨ol,hol,_,nl,hdl⟩:=ht;unfold Builtin.SmallTypes.nextOf;refine YKG (wpAny_callSpecial?_slot (name:=Str.ofString "__next__") hit.typeIs F.slot_tuple_iterator_next (wpAny_call_entry F.slot_tuple_iterator_next hit.typeIs F.entry_tuple_iterator_next ?_ (F.args_tuple_iterator_next_1 _)));refine(show wpAny _ _ (field (.ref it) 0 >>= _) _ _ s from YKG (wpAny_field ho hd (x:=.ref t) rfl ?_));refine(show wpAny _ _ (if (Value.ref t == Value.none)=true then _ else _) _ _ s from ?_);rw[if_neg (show ¬(Value.ref t == Value.none)=true from YKZ)];refine(show wpAny _ _ (field (.ref it) 1 >>= _) _ _ s from YKG (wpAny_field ho hd (x:=.int i 0) rfl ?_));refine(show wpAny _ _ (seqItems? (.ref t) >>= _) _ _ s from YKG (wpAny_seqItems hol hdl ?_));simp only[hx,YLc];refine YKG (wpAny_rule (YKG (wpAny_setField ho hd (by simp) (YJm (A:=A.in1) hh λe h' k he=>hE h' e (λb o' hb q=>k b o' ?_) he))));exact((Heap.SameBut.update ..).2 b hb).trans q
theorem YC1 (l:Addr) (items:Array Value) (o:Obj) (n:Nat) (hc:o.cls=.type "tuple") (hd:o.data=.seq items n):
  Meets (Builtin.«enumerate.__new__» ⟨[.type "enumerate",.ref l],[]⟩) (λ_ R s=>s.heap.get? l=some o/\
   R (.ok (.ret (.ref (s.heap.push { cls:=.type "tuple_iterator",data:=.fields #[.ref l,.int 0 0] }).objs.size)))
    { s with heap:=(s.heap.push { cls:=.type "tuple_iterator",data:=.fields #[.ref l,.int 0 0] }).push { cls:=.type "enumerate",data:=.fields #[.none,.bool false,.ref s.heap.objs.size,rawInt 0,.none,.none] } }):=
 .of_wp λprog w A R s h=>by
  obtain⟨hp,g,d,tk,os⟩:=s;obtain⟨hl,h⟩:=h;have hsub:=sub_enumerate;have hL:Heap.IsTuple (Shared.heap ⟨hp,g,d,tk,os⟩) l items:=⟨o,hl,hc,n,hd⟩
  wp_walk using wpAny_loadPart' hl
  refine wpAny_stack_any λst=>YKV ?_
  split
  ·rename_i c _ _ _ _ _
   cases (c == Value.type "enumerate") <;> (wp_walk using wpAny_loadPart' hl,wpAny_pyIter_tuple hL;exact⟨_,U,h⟩)
  ·wp_walk using wpAny_loadPart' hl,wpAny_pyIter_tuple hL
   exact⟨_,U,h⟩
theorem YED (hh:A.handled=none) (it l:Addr) (hne:l≠it) (items:Array Value):Draws prog w A it [it,l] items.size (λi v=>items[i]?=some v) (λi h=>h.IsTupleIter it l i/\IsTup h l items) where
 live:=λ_ _ st=>let ⟨o,ho,_⟩:=st.1;⟨o,ho⟩
 frame:=λ_ _ _ st hk=>by
  obtain⟨⟨o,a,b⟩,⟨o2,a2,b2⟩⟩:=st;exact⟨⟨o,hk it (by simp) o a,b⟩,⟨o2,hk l (by simp) o2 a2,b2⟩⟩
 item:=λi s Q E hi st hQ=>by
  refine YGn st.1 st.2 (x:=items[i]) (by simp[hi]) λh' hit' hs'=>?_
  obtain⟨o2,a2,b2⟩:=st.2;exact hQ _ h' s.toks (by simp[hi]) ⟨hit',o2,(hs'.2 l hne).trans a2,b2⟩ hs'
 done:=λs Q E st hE=>YC0 hh st.1 st.2 (by simp) hE
theorem YDZ {l:Addr}{items:Array Value}{Q:Value->Shared->Prop} (hL:IsTup s.heap l items)
  (h:∀h',IsEnum h' (s.heap.objs.size + 1) s.heap.objs.size 0 .none->h'.IsTupleIter s.heap.objs.size l 0->(∀b o,s.heap.get? b=some o->h'.get? b=some o)->Q (.ref (s.heap.objs.size + 1)) { s with heap:=h' }):
  wpAny (model prog w) A (call (.type "enumerate") [.ref l]) Q E s:=by
 obtain⟨o,hl,hc,n,hd⟩:=hL;refine callType_new F.called_enumerate (by decide) (F.typeCall_enumerate_1 _) (F.newCall_enumerate_1 _) (λobj=>F.args_object_init_2 obj _) F.entry_enumerate_new (YC1 l items o n hc hd) ⟨hl,?_⟩;have hz:(s.heap.push { cls:=.type "tuple_iterator",data:=.fields #[.ref l,.int 0 0] }).objs.size=s.heap.objs.size + 1:=YLt ..;show _/\_;rw[hz];have he:IsEnum ((s.heap.push { cls:=.type "tuple_iterator",data:=.fields #[.ref l,.int 0 0] }).push { cls:=.type "enumerate",data:=.fields #[.none,.bool false,.ref s.heap.objs.size,rawInt 0,.none,.none] }) (s.heap.objs.size + 1) s.heap.objs.size 0 .none:=by
  have:=YKe (s.heap.push { cls:=.type "tuple_iterator",data:=.fields #[.ref l,.int 0 0] }) (o:={ cls:=.type "enumerate",data:=.fields #[.none,.bool false,.ref s.heap.objs.size,rawInt 0,.none,.none] }) rfl;rw[hz]at this;exact this
 exact⟨⟨_,he,U⟩,h _ he ⟨_,YKI _ (YKe _ rfl),U,U⟩ λb o x=>YKI _ (YKI _ x)⟩
end
def IteT (K:W.Frag) (a:Addr):It:=
 ⟨λi H=>∃xs x,SqT K H a xs/\xs[i]?=some x,λi H v H'=>∃T,H T=none/\v=.ref T/\∀xs,SqT K H a xs->∃x,xs[i]?=some x/\H'=upd H T (.tup [.int i,x]),λi H=>∃xs,SqT K H a xs/\xs.length=i⟩
theorem YGo {P:Program}{w:World}{K:W.Frag}{jx:List Expr}{k:Nat}{pos:Pos} (a e it:Addr):
  YDO P w K (.Tuple jx k pos) (IteT K a) [e,it] e (λi h=>(∃old,IsEnum h e it (i:Nat) old)/\h.IsTupleIter it a i/\e≠it/\a≠e/\a≠it) where
 mem:=by simp
 obj:=λi h st b hb=>by
  obtain⟨⟨old,he⟩,⟨o,eo,c,d⟩,_⟩:=st;rcases YKT.mp hb with rfl |hb
  ·exact⟨_,he,λv z=>by cases z⟩
  ·have eb:b=it:=by simpa using hb
   subst eb;exact⟨o,eo,λv z=>by rw[d]at z;cases z⟩
 keep:=λi h h' st k=>by
  obtain⟨⟨old,he⟩,⟨o,eo,r⟩,hne⟩:=st;exact⟨⟨old,k e (by simp) _ he⟩,⟨o,k it (by simp) o eo,r⟩,hne⟩
 item:=by
  intro X hP hw hK hc i pins s σ H E I hf st hg;subst hP hw hK;obtain⟨⟨old,he⟩,hit,hne,Qt,zm⟩:=st;obtain⟨xs,x,hq,hx⟩:=hg;obtain⟨its,rv,p,hz⟩:=I.tuple hq;obtain⟨u,hu,ru⟩:=rv.get hx;have hlt:i < its.toArray.size:=by
   rw[YKQ];exact(YKR.mp hu).1
  have nef:e∉[it,a]:=by
   simp only[YKT,YLG,or_false,not_or];exact⟨hne,Qt.symm⟩
  refine wpAny_pyNext_enum_itemD (YED (prog:=X.prog) (w:=X.w) (A:=X.A.in1) (I.ok.hd hc) it a zm its.toArray) he ⟨hit,p⟩ hlt hne nef λu' h' tk hPu ho hst hT hsz hk=>?_
  have eu:u'=u:=by
   have h1:its[i]?=some u':=by simpa using hPu
   rw[hu]at h1;exact(YKr h1).symm
  subst eu;refine⟨_,U,wpAny_letOwnedTupleGo_enum (s:={ s with heap:=h',toks:=tk + 1 }) ho λh'' he' hs'=>?_⟩;have zN:e < s.heap.objs.size:=YKS he;have hTe:s.heap.objs.size≠e:=YLD zN;have kk:∀b o,b∉[e,it]->s.heap.get? b=some o->h''.get? b=some o:=λb o hb q=>by
   have h1:b≠e:=λz=>hb (by simp[z])
   have h2:b≠it:=λz=>hb (by simp[z])
   exact(hs'.2 b h1).trans (hk b o h1 h2 q)
  have I1:Inv X pins σ H { s with heap:=h'',toks:=tk + 1 }:=I.turns kk hf;have hT':h''.get? s.heap.objs.size=some { cls:=.type "tuple",data:=.seq #[.int i tk,u'] }:=(hs'.2 _ hTe).trans hT;have hfr:H s.heap.objs.size=none:=I.hok.fresh (YKH _);have I2:=I1.trackT (T:=s.heap.objs.size) (xs:=[.int i,x]) (its:=[.int i tk,u']) hfr ⟨_,hT',U,_,U⟩ (.cons ⟨_,U⟩ (.cons ru .nil)) (by show 2<=sizeLine;rw[sizeLine_eq];decide)
   (λo q=>absurd (YKS q) (Nat.not_lt.mpr I.sz)) λp hp z=>absurd (YKS (I.pin p hp).1) (by rw[z];exact YLB _)
  obtain⟨o3,e3,r3⟩:=hst.1;refine⟨.ref s.heap.objs.size,_,I2,U,⟨_,hfr,U,λys hy=>⟨x,by rw[I.tuple_inj hy hq];exact hx,U⟩⟩,⟨⟨_,by simpa using he'⟩,⟨o3,(hs'.2 it hne.symm).trans e3,r3⟩,hne,Qt,zm⟩,λb hb=>?_⟩;obtain⟨o,eo,_⟩:∃o,s.heap.get? b=some o/\True:=by
   rcases YKT.mp hb with rfl |hb
   ·exact⟨_,he,trivial⟩
   ·have eb:b=it:=by simpa using hb
    subst eb;obtain⟨o,eo,_⟩:=hit;exact⟨o,eo,trivial⟩
  rw[YN (YKn (YKS eo))];exact(hf b hb).1
 done:=by
  intro X hP hw hK hc i pins s σ H E I hf st hg;subst hP hw hK;obtain⟨⟨old,he⟩,hit,hne,Qt,zm⟩:=st;obtain⟨xs,hq,hx⟩:=hg;obtain⟨its,rv,p,hz⟩:=I.tuple hq;have hl:=rv.length;have ei:i=its.toArray.size:=by rw[YKQ];lia
  subst ei;exact wpAny_pyNext_enum_endD (YED (prog:=X.prog) (w:=X.w) (A:=X.A.in1) (I.ok.hd hc) it a zm its.toArray) he ⟨hit,p⟩ λh' eb=>⟨U,I.turns (t':=s.toks) (λb o hb q=>eb b o (λz=>hb (by simp[z])) q) hf⟩
 self:=λ_ _ _ _ _ st h=>by
  obtain⟨⟨old,he⟩,_⟩:=st;exact wpAny_pyIter_enum he h
section
variable {X:Cx}{jx:List Expr}{k:Nat}{lF:Pos}
def iEnumT (K:W.Frag) (ta:TA):TI:=λσ H R=>ta σ H λvs H1=>∃a,vs=[.ref a]/\(∃xs,SqT K H1 a xs)/\R (IteT K a) H1
theorem YJn (K:W.Frag) (hK:X.K=K) {a:Expr}{ta:TA}{p pos:Pos} (hg:Gl X "enumerate") (hm:X.mg "enumerate"=none) (ha:PA X [a] ta) (hs:starEach [a] X.env=[(false,eval a X.env)]:=by rfl):
  PI X (.Tuple jx k lF) (.Call (.Name "enumerate" p) [a] [] pos) (iEnumT K ta):=by
 subst hK;intro pins s σ H R I h;refine Call_ (JJ I hg hm PyProof.Rows.Boot.«enumerate» (PyProof.Rows.callWith_type1 (thn (ha pos pins s σ H _ I h) λus s1 ⟨vs,H1,I1,r1,q1⟩=>?_) hs rfl));obtain⟨l,rfl,⟨xs,hq⟩,q⟩:=q1;obtain⟨u,rfl,ru⟩:=JO r1;cases ru;obtain⟨its,rv,pl,hz⟩:=I1.tuple hq;have hll:l < s1.heap.objs.size:=pl.lt;refine YDZ pl λh' he hit hk=>?_
 have I2:Inv X pins σ H1 { s1 with heap:=h' }:=I1.kept (t':=s1.toks) hk;refine wpAny_pyIter_enum he ?_;refine⟨s1.heap.objs.size + 1,[s1.heap.objs.size + 1,s1.heap.objs.size],_,_,H1,U,I2,YGo l _ _,⟨⟨_,by simpa using he⟩,hit,Nat.succ_ne_self _,YKn (Nat.lt_succ_of_lt hll),YKn hll⟩,λb hb=>?_,q⟩;rcases YKT.mp hb with rfl |hb
 ·exact I1.fpOk (YLl _) (I1.hok.fresh (YLl _))
 ·have eb:b=s1.heap.objs.size:=by simpa using hb
  subst eb;exact I1.fpOk (YKH _) (I1.hok.fresh (YKH _))
end
theorem YC2 {K:W.Frag}{a:Addr}{xs:List V}{g:TG}{tb:TS}{D:Z3}{σ:St}{H:Hp} (Pv:Nat->St->Hp->Prop) (h0:Pv 0 σ H) (hl:∀i σ H,i<=xs.length->Pv i σ H->SqL K H a xs)
  (hs:∀i x T σ H,xs[i]?=some x->H T=none->Pv i σ H->g (.ref T) σ (upd H T (.tup [.int (i:Nat),x])) λσ2 H2=>tb { D with nx:=Pv (i + 1),ct:=Pv (i + 1),bk:=D.nx } σ2 H2) (hd:∀σ H,Pv xs.length σ H->D.nx σ H):
  ∃W:Nat->Nat->St->Hp->Prop,(∃m,W 0 m σ H)/\∀i m σ H,W i m σ H->
   ((Ite K a).stop i H/\D.nx σ H)\/((Ite K a).go i H/\∃N:St->Hp->Prop,(∀σ' H',N σ' H'->∃m',m' < m/\W (i + 1) m' σ' H')/\∀x H',(Ite K a).yld i H x H'->g x σ H' λσ2 H2=>tb { D with nx:=N,ct:=N,bk:=D.nx } σ2 H2):=by
 refine⟨λi m σ H=>m=xs.length - i/\i<=xs.length/\Pv i σ H,⟨xs.length,by simp,YKm _,h0⟩,?_⟩;rintro i m σ H ⟨rfl,hi,p⟩;have q:=hl i σ H hi p
 by_cases hlt:i < xs.length
 ·refine .inr ⟨⟨xs,xs[i],q,by simp[hlt]⟩,Pv (i + 1),λσ' H' p'=>⟨xs.length - (i + 1),by lia,U,hlt,p'⟩,λx H' y=>?_⟩;obtain⟨T,hT,rfl,k⟩:=y;obtain⟨x,hx,rfl⟩:=k xs q;exact hs i x T σ H hx hT p
 ·have e:i=xs.length:=by lia
  subst e;exact .inl ⟨⟨xs,q,YKH _⟩,hd σ H p⟩
theorem YIY {K:W.Frag}{a:Addr}{xs:List V}{g:TG}{tb:TS}{D:Z3}{σ:St}{H:Hp} (Pv:Nat->St->Hp->Prop) (h0:Pv 0 σ H) (hl:∀i σ H,i<=xs.length->Pv i σ H->SqT K H a xs)
  (hs:∀i x T σ H,xs[i]?=some x->H T=none->Pv i σ H->g (.ref T) σ (upd H T (.tup [.int (i:Nat),x])) λσ2 H2=>tb { D with nx:=Pv (i + 1),ct:=Pv (i + 1),bk:=D.nx } σ2 H2) (hd:∀σ H,Pv xs.length σ H->D.nx σ H):
  ∃W:Nat->Nat->St->Hp->Prop,(∃m,W 0 m σ H)/\∀i m σ H,W i m σ H->
   ((IteT K a).stop i H/\D.nx σ H)\/((IteT K a).go i H/\∃N:St->Hp->Prop,(∀σ' H',N σ' H'->∃m',m' < m/\W (i + 1) m' σ' H')/\∀x H',(IteT K a).yld i H x H'->g x σ H' λσ2 H2=>tb { D with nx:=N,ct:=N,bk:=D.nx } σ2 H2):=by
 refine⟨λi m σ H=>m=xs.length - i/\i<=xs.length/\Pv i σ H,⟨xs.length,by simp,YKm _,h0⟩,?_⟩;rintro i m σ H ⟨rfl,hi,p⟩;have q:=hl i σ H hi p
 by_cases hlt:i < xs.length
 ·refine .inr ⟨⟨xs,xs[i],q,by simp[hlt]⟩,Pv (i + 1),λσ' H' p'=>⟨xs.length - (i + 1),by lia,U,hlt,p'⟩,λx H' y=>?_⟩;obtain⟨T,hT,rfl,k⟩:=y;obtain⟨x,hx,rfl⟩:=k xs q;exact hs i x T σ H hx hT p
 ·have e:i=xs.length:=by lia
  subst e;exact .inl ⟨⟨xs,q,U⟩,hd σ H p⟩
end L2
namespace FR
open PySem L2
def Sized (s:Sz) (r:Yl):Prop:=∃m,Yg s 0 r.2.1=some m
inductive J7 (g:YX) (s:Sz) (z0:Str):Str->Prop
 |start:J7 g s z0 z0
 |step {r:Yl}{p:Str}:r∈g->Sized s r->J7 g s z0 r.1->p∈r.2.1->isQ p=false->J7 g s z0 p
def XU (g:YX) (s:Sz) (k:Nat):Prop:=∃r r0 YL,g=r0 :: YL/\g[k]?=some r/\Sized s r/\J7 g s r0.1 r.1
def Ju (s o:Sz) (r:Yl) (p:Str):Prop:=∀m h sp,Yg s 0 r.2.1=some m->look o r.1=some h->isQ p=false->look s p=some sp->∃v,look o p=some v/\v<=h + m - sp
structure Zy (g:YX) (s:Sz) (z0:Str) (o:Sz):Prop where
 nd:(o.map (·.1)).Nodup
 has:look o z0=some 0
 nn:∀z v,look o z=some v->0<=v
 bd:∀z v,look o z=some v->v<=o.length * bnd 0 61
 rch:∀z v,look o z=some v->J7 g s z0 z
def Jl (g:YX) (s o:Sz):Prop:=∀r∈g,∀p∈r.2.1,Ju s o r p
theorem YJo {g:YX}{s:Sz} (hg:Yf g=true) (h:Yp g 0 s) {r:Yl} (hr:r∈g) {m:Int} (e:Yg s 0 r.2.1=some m):1<=m/\m<=bnd 0 61:=by
 have gK:g.length<=60:=by
  unfold Yf at hg;rw[YKM]at hg;exact YKh hg.1
 have uQ:r.2.1.length<=6:=by
  unfold Yf at hg;rw[YKM]at hg;have:=YKj.mp hg.2 r hr;unfold Zc at this;simp only[YKM,YKt]at this;exact this.2.1.1
 have h1:=(Ym h.pos e).1;have hB:=YBM (q:=0) (by decide) s.length;have h2:=YCq (q:=0) (B:=bnd 0 s.length) (by omega) h.bd e;have h3:(r.2.1.length:Int) * bnd 0 s.length<=6 * bnd 0 s.length:=YK7 (by omega) (by omega);have h4:bnd 0 (s.length + 1)<=bnd 0 61:=YCs (by decide) (by have:=h.len;omega);rw[YCr]at h4;omega
theorem J7.head {g:YX}{s:Sz}{z0:Str} (h:Yp g 0 s) (h0:z0∈g.map (·.1)) {z:Str} (r:J7 g s z0 z):z∈g.map (·.1):=by
 cases r with
 |start=>exact h0
 |@step r p hr hs _ hp hq=>
  obtain⟨m,e⟩:=hs;obtain⟨v,e2,_⟩:=(Ym h.pos e).2 z hp hq;obtain⟨r',hr',e3,_⟩:=h.hd z v e2;rw[<-e3];exact YKU.mpr ⟨r',hr',U⟩
theorem Zy.len {g:YX}{s:Sz}{z0:Str}{o:Sz} (h:Yp g 0 s) (h0:z0∈g.map (·.1)) (w:Zy g s z0 o):o.length<=g.length:=by
 have:=YAU (ys:=g.map (·.1)) w.nd λx hx=>by
  obtain⟨p,hp,rfl⟩:=YKU.mp hx;exact(w.rch p.1 p.2 (YAT w.nd hp)).head h h0
 rwa [YKF,YKF]at this
def mu2 (g:YX) (o:Sz):Nat:=(g.map λr=>match look o r.1 with
 |none=>(61 * bnd 0 61).toNat + 1
 |some v=>v.toNat).sum
theorem Zy.first (g:YX) (s:Sz) (z0:Str):Zy g s z0 [(z0,0)]:=by
 have hl:∀z v,look [(z0,(0:Int))] z=some v->z=z0/\v=0:=λz v e=>by
  rw[ZX]at e
  by_cases hz:z0=z
  ·rw[if_pos hz]at e;cases e;exact⟨hz.symm,U⟩
  ·rw[if_neg hz]at e;cases e
 have hb:=YBM (q:=0) (by decide) 61;refine⟨by simp,by rw[ZX,if_pos rfl],λz v e=>?_,λz v e=>?_,λz v e=>?_⟩
 ·rw[(hl z v e).2];exact YKz _
 ·rw[(hl z v e).2];show(0:Int)<=((1:Nat):Int) * _;omega
 ·rw[(hl z v e).1];exact .start
theorem Zy.step {g:YX}{s:Sz}{z0:Str}{o:Sz} (hg:Yf g=true) (hs:Yp g 0 s) (h0:z0∈g.map (·.1)) (w:Zy g s z0 o) {r:Yl} (hr:r∈g) {p:Str} (hp:p∈r.2.1) (hq:isQ p=false) {m h sp:Int} (em:Yg s 0 r.2.1=some m)
  (eh:look o r.1=some h) (ep:look s p=some sp) (hv:∀v,look o p=some v->h + m - sp < v):Zy g s z0 (ZN o p (h + m - sp))/\mu2 g (ZN o p (h + m - sp)) < mu2 g o:=by
 have gK:g.length<=60:=by
  unfold Yf at hg;rw[YKM]at hg;exact YKh hg.1
 have hm:=YJo hg hs hr em;have hsp:1 + sp<=m:=by
  obtain⟨v,e1,e2⟩:=(Ym hs.pos em).2 p hp hq;rw[ep]at e1;cases e1;omega
 have Et:=hs.pos _ _ ep;have hh:=w.nn _ _ eh;have hhb:=w.bd _ _ eh;have hB:=YBM (q:=0) (by decide) 61;have hpos:1<=h + m - sp:=by omega
 have Qu:p≠z0:=λz=>by
  have:=hv 0 (by rw[z];exact w.has);omega
 have Wr:J7 g s z0 p:=.step hr ⟨m,em⟩ (w.rch _ _ eh) hp hq;have lenle:o.length<=(ZN o p (h + m - sp)).length:=by
  rw[YBO];split <;> omega
 have zj:h + m - sp<=(ZN o p (h + m - sp)).length * bnd 0 61:=by
  rw[YBO];split
  ·rename_i hmem
   obtain⟨v,e1⟩:∃v,look o p=some v:=by
    cases e:look o p with
    |some v=>exact⟨v,U⟩
    |none=>exact absurd hmem (YAS e)
   have h1:=hv v e1;have h2:=w.bd _ _ e1;omega
  ·rw[Int.natCast_add,Int.add_mul];show _<=_ + (1:Int) * _;rw[Int.one_mul];omega
 have yz:Zy g s z0 (ZN o p (h + m - sp)):=by
  refine⟨?_,?_,λz v e=>?_,λz v e=>?_,λz v e=>?_⟩
  ·rw[XS];split
   ·exact w.nd
   ·rename_i hn
    exact YBN w.nd hn
  ·rw[Y0,if_neg Qu.symm];exact w.has
  ·rw[Y0]at e;split at e
   ·cases e;omega
   ·exact w.nn z v e
  ·rw[Y0]at e;split at e
   ·cases e;exact zj
   ·have h1:=w.bd z v e;have h2:(o.length:Int) * bnd 0 61<=((ZN o p (h + m - sp)).length:Int) * bnd 0 61:=YK7 (by omega) (by omega);omega
  ·rw[Y0]at e;split at e
   ·rename_i hz
    rw[hz];exact Wr
   ·exact w.rch z v e
 refine⟨yz,?_⟩;obtain⟨r',hr',e3⟩:=YKU.mp (Wr.head hs h0);have hlen:=yz.len hs h0;have Eu:h + m - sp<=61 * bnd 0 61:=by
  have h2:((ZN o p (h + m - sp)).length:Int) * bnd 0 61<=61 * bnd 0 61:=YK7 (by omega) (by omega);omega
 unfold mu2;refine YGk (λx hx=>?_) ⟨r',hr',?_⟩
 ·rw[Y0]
  by_cases hz:x.1=p
  ·rw[if_pos hz,hz];cases e:look o p with
   |none=>show(h + m - sp).toNat<=(61 * bnd 0 61).toNat + 1;omega
   |some v=>
    have:=hv v e;show(h + m - sp).toNat<=v.toNat;omega
  ·rw[if_neg hz];exact YKH _
 ·have e3:r'.1=p:=e3;rw[Y0,if_pos e3,e3];cases e:look o p with
  |none=>show(h + m - sp).toNat < (61 * bnd 0 61).toNat + 1;omega
  |some v=>
   have:=hv v e;show(h + m - sp).toNat < v.toNat;omega
theorem YC3 {g:YX}{s:Sz}{z0:Str}{o:Sz} (hs:Yp g 0 s) (w:Zy g s z0 o) (f:Jl g s o) {z:Str} (h:J7 g s z0 z):∃v,look o z=some v:=by
 induction h with
 |start=>exact⟨0,w.has⟩
 |@step r p hr hsz _ hp hq ih=>
  obtain⟨h,eh⟩:=ih;obtain⟨m,em⟩:=hsz;obtain⟨sp,e1,_⟩:=(Ym hs.pos em).2 p hp hq;obtain⟨v,e2,_⟩:=f r hr p hp m h sp em eh hq e1;exact⟨v,e2⟩
theorem YFo:∀{a b:List Nat},a.Pairwise (· < ·)->b.Pairwise (· < ·)->(∀k,k∈a<->k∈b)->a=b
 |[],[],_,_,_=>rfl
 |[],y :: ys,_,_,h=>absurd ((h y).mpr (YKd ..)) (by simp)
 |x :: xs,[],_,_,h=>absurd ((h x).mp (YKd ..)) (by simp)
 |x :: xs,y :: ys,ha,hb,h=>by
  rw[List.pairwise_cons]at ha hb;have e:x=y:=by
   rcases YKT.mp ((h x).mp (YKd ..)) with e |h1
   ·exact e
   ·rcases YKT.mp ((h y).mpr (YKd ..)) with e |h2
    ·exact e.symm
    ·have:=ha.1 y h2;have:=hb.1 x h1;omega
  subst e;congr 1;refine YFo ha.2 hb.2 λk=>?_
  constructor
  ·intro hk;rcases YKT.mp ((h k).mp (YKY _ hk)) with e |h1
   ·have:=ha.1 k hk;omega
   ·exact h1
  ·intro hk;rcases YKT.mp ((h k).mpr (YKY _ hk)) with e |h1
   ·have:=hb.1 k hk;omega
   ·exact h1
theorem YC4 {g:YX}{s:Sz} (hs:Yp g 0 s) (f:Fix g 0 s) {ns:List Str}{row:List Nat} (h:Yw g ns row):∀z∈ns,∃v,look s z=some v:=by
 induction h with
 |nil=>intro z hz;cases hz
 |@cons ns k r row e h ih=>
  have hr:∃m,Yg s 0 r.2.1=some m:=⟨_,YAV λp hp hq=>by
   obtain⟨v,hv⟩:=ih p (YKx _ (JC.mpr ⟨hp,hq⟩));rw[hv];rfl⟩
  obtain⟨m,em⟩:=hr;obtain⟨v,hv,_⟩:=f r (YKL e) m em;intro z hz;rcases YKT.mp hz with rfl |hz
  ·exact⟨v,hv⟩
  ·exact ih z (YKg _ hz)
end FR
namespace L2
open PySem PySem.Spec PyProof.Rows
theorem YJp:typeLookup (.type "reversed") "__len__"=pure none:=by rw[typeLookup_type,builtinLookup_eq_fast];kernel_rfl
theorem rv_hint:typeLookup (.type "reversed") "__length_hint__"=pure (some (.builtin "reversed.__length_hint__")):=by rw[typeLookup_type,builtinLookup_eq_fast];kernel_rfl
theorem YFp:Slot "reversed" "__length_hint__" "reversed.__length_hint__":=.of (owner:="reversed") (n:="__length_hint__") (by rw[typeLookup_type,builtinLookup_eq_fast];kernel_rfl) (by decide +kernel) (by decide +kernel) (by decide +kernel) (by first |exact .inl (by decide +kernel) |exact .inr (by decide +kernel)) (by rw[isSubtype_type];kernel_rfl)
theorem rv_entH:entryFor table "reversed.__length_hint__"=some Builtin.«reversed.__length_hint__»:=entryFor_of_tree (by kernel_rfl)
theorem rv_argH (a:Value):argsOk "reversed.__length_hint__" ⟨[a],[]⟩:=by unfold argsOk;kernel_rfl
section
variable {prog:Program}{w:World}{A:Around}{E:Value->Shared->Prop}{s:Shared}
theorem YGp (hh:A.handled=none) (it l:Addr) (hne:l≠it) (items:Array Value) (hz:(items.size:Int) < 2 ^ 63):
  Walks prog w A it [it,l] [it] items.size (λi v=>items[items.size - 1 - i]?=some v) (λi h=>YCw h it l ((items.size:Int) - 1 - i)/\IsTup h l items) where
 sub:=λb hb=>by simp at hb;simp[hb]
 frame:=λi h h' st hk=>by
  obtain⟨⟨o,a,b,c⟩,⟨o2,a2,b2⟩⟩:=st;exact⟨⟨o,hk it (by simp) o a,b,c⟩,⟨o2,hk l (by simp) o2 a2,b2⟩⟩
 item:=λi s Q E hi st hQ=>by
  have e:((items.size:Int) - 1 - (i:Nat))=((items.size - 1 - i:Nat):Int):=by lia
  rw[e]at st;refine YEC st.1 st.2 (x:=items[items.size - 1 - i]) (by simp) hz λh' hit' hs'=>?_
  obtain⟨o2,a2,b2⟩:=st.2;refine hQ _ h' (s.toks + 1) (by simp) ⟨?_,o2,(hs'.2 l hne).trans a2,b2⟩ λb o hb q=>hs'.extBut b o (λz=>hb (by simp[z])) q
  have e2:((items.size - 1 - i:Nat):Int) - 1=(items.size:Int) - 1 - ((i + 1:Nat):Int):=by lia
  rw[e2]at hit';exact hit'
 done:=λs Q E st hQ=>by
  have e:((items.size:Int) - 1 - (items.size:Nat))=-1:=by lia
  rw[e]at st;exact YFl hh st.1 λh' he'=>hQ h' s.toks λb o hb q=>he' b o (λz=>hb (by simp[z])) q
 self:=λ_ _ _ _ st hQ=>YAY st.1 hQ
theorem YGq {it l:Addr}{items:Array Value}{Q:Value->Shared->Prop} (hit:YCw s.heap it l ((items.size:Int) - 1)) (hl:IsTup s.heap l items) (hz:(items.size:Int) < 2 ^ 63)
  (h:∀t tk,Q (.int (items.size:Int) t) { s with toks:=tk }):wpAny (model prog w) A (call (.builtin "reversed.__length_hint__") [.ref it]) Q E s:=by
 obtain⟨o,ho,hc,hd⟩:=id hit;have hT:s.TypeIs (.ref it) "reversed":=⟨o,ho,hc⟩;refine wpAny_call_entry YFp hT rv_entH ?_ (rv_argH _);unfold Builtin.«reversed.__length_hint__»;refine YKG (YKV (YKG (wpAny_field ho hd (x:=.ref l) rfl ?_)));refine(show wpAny _ _ (if (Value.ref l == Value.none)=true then _ else _) _ _ s from ?_);rw[if_neg (show ¬(Value.ref l == Value.none)=true from YKZ)];refine YKG (len_tuple hl hz ?_);refine YKG (YKV (YKG (wpAny_field (s:={ s with toks:=s.toks + 1 + 1 }) ho hd (x:=.int ((items.size:Int) - 1) 0) rfl ?_)));refine(show wpAny _ _ (if (items.size:Int) < (items.size:Int) - 1 + 1 then _ else _) _ _ _ from ?_);rw[if_neg (by lia)];have e:(items.size:Int) - 1 + 1=(items.size:Int):=by lia
 rw[e];exact YKG (wpAny_mkInt (YKV ⟨_,U,h _ _⟩))
theorem YIZ {it l:Addr}{items:Array Value}{Q:Bool->Shared->Prop} (hit:YCw s.heap it l ((items.size:Int) - 1)) (hl:IsTup s.heap l items) (hz:items.size<=sizeLine) (h:∀b tk,Q b { s with toks:=tk }):
  wpAny (model prog w) A (Builtin.List.listLengthHint (.ref it)) Q E s:=by
 obtain⟨o,ho,hc,hd⟩:=id hit;have hT:s.TypeIs (.ref it) "reversed":=⟨o,ho,hc⟩;unfold Builtin.List.listLengthHint;refine YKG (wpAny_specialOf hT YJp ?_);show wpAny _ _ (specialOf (Value.ref it) (Str.ofString "__length_hint__") >>= _) _ _ _;refine YKG (wpAny_specialOf hT rv_hint ?_);generalize hid:("reversed.__length_hint__":String)=Qs
 wp_delta;rw[show splitId Qs=some ("reversed","__length_hint__") from by subst hid;decide +kernel];subst hid
 refine YKG (wpAny_isInstance (T:="reversed") (b:=true) hT (by rw[isSubtype_type];kernel_rfl) ?_);rw[if_neg (by decide)];refine(show wpAny _ _ (if _ then _ else _) _ _ _ from ?_);rw[if_neg (by decide)];refine YKG (wpAny_rule (YKG (wpAny_of_eq (YFp.bind (.ref it)) ?_)));refine YKG (wpAny_attempt (YGq hit hl (by rw[sizeLine_eq]at hz;lia) λt tk=>?_));have f1:Builtin.List.listFitsIndex (items.size:Int)=true:=by
  unfold Builtin.List.listFitsIndex;rw[sizeLine_eq]at hz;rw[YKM,YKt,YKt]
  lia
 have f2:Builtin.List.listTooLong (items.size:Int).toNat=false:=by
  unfold Builtin.List.listTooLong;exact YKO (by rw[YLc];lia)
 have f3:¬(items.size:Int) < 0:=by lia
 revert f1 f2 f3;generalize (items.size:Int)=n;intro f1 f2 f3;refine(show wpAny _ _ (asInt? (.int n t) >>= _) _ _ _ from YKG (YKV ?_));refine wpAny_ite_split (λz=>absurd z (by rw[f1];decide)) λ_=>?_
 refine wpAny_ite_split (λz=>absurd z f3) λ_=>?_
 refine wpAny_ite_split (λz=>absurd z (by rw[f2];decide)) λ_=>?_
 exact YKV (h _ _)
theorem YC5 {it l:Addr}{items:Array Value}{Q:Value->Shared->Prop} (hh:A.handled=none) (hit:YCw s.heap it l ((items.size:Int) - 1)) (hl:IsTup s.heap l items) (hne:l≠it) (hn:items.size<=sizeLine)
  (hQ:∀h' tk cH c',(∀b o,b≠it->s.heap.get? b=some o->h'.get? b=some o)->h'.get? s.heap.objs.size=some { cls:=.type "list",dict:=none,data:=.seq cH c',slots:=#[] }->
   ItemsOf (λi v=>items[items.size - 1 - i]?=some v) cH items.size->Q (.ref s.heap.objs.size) { s with heap:=h',toks:=tk }):wpAny (model prog w) A (call (.type "list") [.ref it]) Q E s:=by
 have itlt:it < s.heap.objs.size:=by obtain⟨o,ho,_⟩:=hit;exact YKS ho
 have llt:l < s.heap.objs.size:=hl.lt;have zO:(items.size:Int) < 2 ^ 63:=by rw[sizeLine_eq]at hn;lia
 refine callType_codes (Q₁:=λobj t=>obj=.ref s.heap.objs.size/\t={ s with heap:=s.heap.push { cls:=.type "list",data:=.seq #[] } }) F.called_list (F.typeCall_list_1 _) F.entry_list_init (code_list_new _ ⟨U,U⟩) λobj t ht=>?_
 obtain⟨rfl,rfl⟩:=ht;have g0:(s.heap.push { cls:=.type "list",data:=.seq #[] }).get? s.heap.objs.size=some { cls:=.type "list",data:=.seq #[] }:=YKe _ rfl;refine⟨⟨_,g0,U⟩,F.args_list_init_2 _ _,?_⟩;show wpAny _ _ (Builtin.List.listItems (.ref s.heap.objs.size) >>= λold=>Builtin.List.listUpdate (.ref s.heap.objs.size) (λ_=>#[]) >>= λ_=>letGo old.toList.reverse >>= λ_=>Builtin.List.listExtendWith (.ref s.heap.objs.size) (.ref it) .none) _ _ _;refine YKG ?_;unfold Builtin.List.listItems;refine YKG (wpAny_seqItems g0 rfl (YKV ?_));refine YKG (show wpAny _ _ (updateSeq s.heap.objs.size (λ_=>#[])) _ _ _ from wpAny_updateSeq g0 rfl ?_);have g1:=YK5 (Obj.mapSeq (λ_=>(#[]:Array Value))) g0 rfl;have k1:∀b o,s.heap.get? b=some o->((s.heap.push { cls:=.type "list",data:=.seq #[] }).update s.heap.objs.size (Obj.mapSeq (λ_=>(#[]:Array Value)))).get? b=some o:=λb o e=>
  (YLP _ _ (YLD (YKS e))).trans (YKI _ e)
 have tup_at:∀{h1:Heap},(∀b o,s.heap.get? b=some o->h1.get? b=some o)->YCw h1 it l ((items.size:Int) - 1)/\IsTup h1 l items:=λ{h1} k=>by
  obtain⟨o,ho,r⟩:=hit;obtain⟨o2,Qq,r2⟩:=hl;exact⟨⟨o,k it o ho,r⟩,⟨o2,k l o2 Qq,r2⟩⟩
 refine YKG (wpAny_letGo ?_);revert g1 k1;generalize (s.heap.push { cls:=.type "list",data:=.seq #[] }).update s.heap.objs.size (Obj.mapSeq (λ_=>(#[]:Array Value)))=h1;intro g1 k1;obtain⟨jD,hl1⟩:=tup_at k1;have hT:Shared.TypeIs { s with heap:=h1 } (.ref it) "reversed":=by obtain⟨o,ho,hc,_⟩:=jD;exact⟨o,ho,hc⟩
 have W:=(YGp (prog:=prog) (w:=w) (A:=A.in1.in1) hh it l hne items zO).toS;have nf:s.heap.objs.size∉[it,l]:=by simp only[YKT,YLG,or_false,not_or];exact⟨YLD itlt,YLD llt⟩
 have key:∀(h2:Heap) (c1 tk:Nat),(∀b o,s.heap.get? b=some o->h2.get? b=some o)->h2.get? s.heap.objs.size=some { cls:=.type "list",data:=.seq #[] c1 }->
   codeAny (model prog w) A.in1 (.builtin "list.extend.loop" ⟨[.ref s.heap.objs.size,.ref it,.none],[]⟩) (wants (λr s₂=>r=Value.none/\Q (Value.ref s.heap.objs.size) s₂) E) { s with heap:=h2,toks:=tk }:=by
  intro h2 c1 tk k2 g2;obtain⟨hit2,hl2⟩:=tup_at k2;refine codeAny_extend_loopS W hn _ nf _ items.size 0 _ _ _ rfl (YKm _) ⟨by simpa using hit2,hl2⟩ g2 (ItemsOf.nil _) λs' cH c' hm hS' hacc=>?_
  rw[Moved.eq_with hm];refine⟨U,hQ s'.heap s'.toks cH c' (λb o hb e=>hm.heap b o (λhmem=>?_) (k2 b o e)) hS' hacc⟩;rcases YKT.mp hmem with z |hmem
  ·rw[z]at e;exact YLB _ (YKS e)
  ·exact hb (YKf.mp hmem)
 unfold Builtin.List.listExtendWith;refine YKG (wpAny_typeOf hT ?_);have ns:Builtin.List.listSameRef (.ref s.heap.objs.size) (.ref it)=false:=by simp[Builtin.List.listSameRef,YLD itlt]
 rw[if_neg (by rw[ns];decide)];refine YKG (YAY jD (YKG (wpAny_holding (YIZ jD hl1 hn λb tk=>?_))));refine wpAny_ite_split (λ_=>?_) (λ_=>YKV ⟨plainId_quiet F.plain_extend_loop _,key h1 _ _ k1 g1⟩);refine YKG (wpAny_rule (YKG ?_));refine(show wpAny _ _ (updateSeq s.heap.objs.size (·.push .none) >>= λ_=>updateSeq s.heap.objs.size (·.pop)) _ _ _ from ?_);refine YKG (wpAny_updateSeq g1 rfl ?_);have g2:=YK5 (Obj.mapSeq (·.push Value.none)) g1 rfl;refine wpAny_updateSeq (hz:=by seq_fits) g2 rfl ?_;have g3:=YK5 (Obj.mapSeq (·.pop)) g2 rfl;refine YKV ⟨plainId_quiet F.plain_extend_loop _,key _ _ _ (λb o e=>?_) g3⟩;have nb:s.heap.objs.size≠b:=YLD (YKS e);exact(YLP _ _ nb).trans ((YLP _ _ nb).trans (k1 b o e))
end
def YIa (K:W.Frag) (ta:TA):TE:=λσ H Q=>ta σ H λvs H1=>∃a xs,vs=[.ref a]/\SqT K H1 a xs/\∀l,H1 l=none->Q (.ref l) (upd H1 l (.lst xs.reverse))
theorem YBP (K:W.Frag) {X:Cx} (hK:X.K=K) {a:Expr}{ta:TA}{p p2 pos eY:Pos} (hc:X.calm=true) (hg:Gl X "list") (hm:X.mg "list"=none) (yC:Gl X "reversed") (hm2:X.mg "reversed"=none) (ha:PA X [a] ta)
  (hs:starEach [.Call (.Name "reversed" p2) [a] [] eY] X.env=[(false,eval (.Call (.Name "reversed" p2) [a] [] eY) X.env)]:=by rfl) (hs2:starEach [a] X.env=[(false,eval a X.env)]:=by rfl):
  PE X (.Call (.Name "list" p) [.Call (.Name "reversed" p2) [a] [] eY] [] pos) (YIa K ta):=by
 subst hK;intro pins s σ H Q I h;refine wpAny_Call_Name_kw (JJ I hg hm YKy ?_);refine PyProof.Rows.callWith_type1 ?_ hs rfl;rw[hs];show wpAny _ _ (spliced ((false,eval (.Call (.Name "reversed" p2) [a] [] eY) X.env) :: [])) _ _ s;refine Calls.spliced_cons (wpAny_Call_Name_kw (JJ I yC hm2 YLK (PyProof.Rows.callWith_type1 (thn (ha eY pins s σ H _ I h) λus s1 ⟨vs,H1,I1,r1,q1⟩=>?_) hs2 rfl)));obtain⟨l,xs,rfl,hq,q⟩:=q1;obtain⟨u,rfl,ru⟩:=JO r1;cases ru;obtain⟨its,rv,pl,hz⟩:=I1.tuple hq;have hlen:xs.length=its.length:=rv.length;have wJ:=XY;refine X6 pl (by rw[YKQ];lia) λh1 hit hk=>Calls.spliced_nil ?_
 have Ru:IsTup h1 l its.toArray:=by obtain⟨o,ho,r⟩:=pl;exact⟨o,hk l o ho,r⟩
 refine YC5 (s:={ s1 with heap:=h1,toks:=s1.toks + 1 + 1 }) (items:=its.toArray) (I1.ok.hd hc) hit Ru (YKn pl.lt) (by rw[YKQ];lia) λh' tk cH c' hk' hS hit'=>?_
 have yD:Yi xs.reverse cH.toList:=by
  refine YAN (by
   have e1:cH.toList.length=its.length:=(Array.length_toList.trans hit'.1).trans (YKQ ..);rw[YKl,hlen,e1]) λj x u h1 h2=>?_
  have h3:=hit'.2 j u (by rw[<-YK6];exact h2);have hj:j < xs.length:=by
   have:=(YKR.mp h1).1
   rwa [YKl]at this
  rw[YLS hj]at h1;obtain⟨u',e1,r'⟩:=rv.get h1;rw[List.getElem?_toArray,YKQ,<-hlen]at h3;rw[h3]at e1;cases e1;exact r'
 have le:s1.heap.objs.size<=h1.objs.size:=by
  obtain⟨o,ho,_⟩:=hit;exact YLx (YKS ho)
 have kk:∀b u,s1.heap.get? b=some u->h'.get? b=some u:=λb u e=>hk' b u (YKn (YKS e)) (hk b u e)
 exact⟨.ref h1.objs.size,_,I1.laid (t':=tk) kk le (show Yq X.prog X.w _ h' _ (.lst _) from⟨by rw[YKl];exact hz,cH.toList,c',yD,by simpa using hS⟩),U,q _ (I1.hok.fresh le)⟩
end L2
namespace FR
open PySem L2
def YAc (H:Hp) (g:YX) (s:Sz) (z0:Str) (o:Sz) (kvs:List (Key×V)):Prop:=∀p v,look o p=some v->(p=z0/\Jd kvs (Sum.inr p)=some .non)\/
 (p≠z0/\∃(T:Addr) (num pl:Nat) (r:Yl) (m h sp:Int),Jd kvs (Sum.inr p)=some (.ref T)/\H T=some (.tup [.int (num:Int),.int (pl:Int)])/\g[num]?=some r/\r.2.1[pl]?=some p/\isQ p=false/\Yg s 0 r.2.1=some m/\look o r.1=some h/\look s p=some sp/\h + m - sp<=v)
theorem YAc.mono {H H':Hp}{g:YX}{s:Sz}{z0:Str}{o:Sz}{kvs:List (Key×V)} (h:YAc H g s z0 o kvs) (sm:YH H H'):YAc H' g s z0 o kvs:=λp v e=>by
 rcases h p v e with h1 |⟨hne,T,num,pl,r,m,hh,sp,a,b,c⟩
 ·exact .inl h1
 ·exact .inr ⟨hne,T,num,pl,r,m,hh,sp,a,sm _ _ b,c⟩
theorem YDa (kvs:List (Key×V)) (k:Key) (v:V):Jd (Zo kvs k v) k=some v:=by
 unfold Zo
 by_cases h:(kvs.any λkv=>decide (kv.1=k))=true
 ·rw[if_pos h]
  induction kvs with
  |nil=>cases h
  |cons q kvs ih=>
   rw[YKa]
   by_cases e:q.1=k
   ·rw[if_pos e,ZW (by exact e)]
   ·rw[if_neg e,ZD e];rw[YLU,YKO e,Bool.false_or]at h;exact ih h
 ·rw[if_neg h]
  induction kvs with
  |nil=>rw[List.nil_append,ZW rfl]
  |cons q kvs ih=>
   rw[YLU,YLo,not_or]at h;show Jd (q :: (kvs ++ [(k,v)])) k=_;rw[ZD (λe=>h.1 (YKN e))];exact ih h.2
theorem YB5 (kvs:List (Key×V)) {k k':Key} (v:V) (hne:k'≠k):Jd (Zo kvs k v) k'=Jd kvs k':=by
 unfold Zo
 by_cases h:(kvs.any λkv=>decide (kv.1=k))=true
 ·rw[if_pos h];clear h
  induction kvs with
  |nil=>rfl
  |cons q kvs ih=>
   rw[YKa]
   by_cases e:q.1=k
   ·rw[if_pos e];refine Eq.trans (ZD ?_) (Eq.trans ih (Eq.symm (ZD ?_)))
    ·exactλz=>hne (z.symm.trans e)
    ·exactλz=>hne (z.symm.trans e)
   ·rw[if_neg e]
    by_cases e2:q.1=k'
    ·rw[ZW e2,ZW e2]
    ·rw[ZD e2,ZD e2,ih]
 ·rw[if_neg h];clear h
  induction kvs with
  |nil=>rw[List.nil_append,ZD (λz=>hne z.symm)]
  |cons q kvs ih=>
   show Jd (q :: (kvs ++ [(k,v)])) k'=_
   by_cases e2:q.1=k'
   ·rw[ZW e2,ZW e2]
   ·rw[ZD e2,ZD e2,ih]
theorem YAc.put {H H':Hp}{g:YX}{s:Sz}{z0:Str}{o:Sz}{kvs:List (Key×V)} (st:YAc H g s z0 o kvs) (sm:∀T xs,H T=some (.tup xs)->H' T=some (.tup xs)) {T:Addr}{num pl:Nat}{r:Yl}{x:Str}{m h sp:Int} (hne:x≠z0) (hT:H' T=some (.tup [.int (num:Int),.int (pl:Int)])) (er:g[num]?=some r) (ex:r.2.1[pl]?=some x)
  (hq:isQ x=false) (em:Yg s 0 r.2.1=some m) (eh:look o r.1=some h) (esp:look s x=some sp) (hsp:sp < m) (hless:∀v,look o x=some v->h + m - sp < v):YAc H' g s z0 (ZN o x (h + m - sp)) (Zo kvs (Sum.inr x) (.ref T)):=by
 have down:∀z v,look o z=some v->∃v',look (ZN o x (h + m - sp)) z=some v'/\v'<=v:=λz v e=>by
  rw[Y0]
  by_cases hz:z=x
  ·rw[if_pos hz];have:=hless v (hz ▸ e);exact⟨_,U,by omega⟩
  ·rw[if_neg hz];exact⟨v,e,YKz _⟩
 intro p v e;rw[Y0]at e
 by_cases hp:p=x
 ·rw[if_pos hp]at e;cases e;rw[hp];obtain⟨h',e1,e2⟩:=down _ _ eh;exact .inr ⟨hne,T,num,pl,r,m,h',sp,YDa _ _ _,hT,er,ex,hq,em,e1,esp,by omega⟩
 ·rw[if_neg hp]at e;have hk:(Sum.inr p:Key)≠Sum.inr x:=λz=>hp (Sum.inr.inj z)
  rcases st p v e with ⟨h1,h2⟩ |⟨hne',T',uf,zp,r',m',hh,yE,a,b,c,d,f,g',i,j,l⟩
  ·exact .inl ⟨h1,by rw[YB5 _ _ hk];exact h2⟩
  ·obtain⟨h',e1,e2⟩:=down _ _ i;exact .inr ⟨hne',T',uf,zp,r',m',h',yE,by rw[YB5 _ _ hk];exact a,sm _ _ b,c,d,f,g',e1,j,by omega⟩
theorem Yw.app {g:YX}{a b:List Str}{x y:List Nat} (h:Yw g a x) (h':Yw g b y):Yw g (a ++ b) (x ++ y):=by
 induction h with
 |nil=>exact h'
 |@cons ns k r row e h ih=>
  refine Yw.cons e ?_;show Yw g (unQ r.2.1 ++ (ns ++ b)) (row ++ y);rw[<-YK0];exact ih
def Y3 (s:Sz) (ps:List Str):Int:=((unQ ps).map λp=>(look s p).getD 0).sum
def SmOk (g:YX) (s e:Sz):Prop:=∀z v,look s z=some v->∃(k:Nat) (r:Yl),look e z=some (k:Int)/\g[k]?=some r/\r.1=z/\Yg s 0 r.2.1=some v
theorem YIb (s:Sz):Y3 s []=0:=rfl
theorem YAZ (a b:List Str):unQ (a ++ b)=unQ a ++ unQ b:=by
 unfold unQ;exact List.filter_append ..
theorem JX (s:Sz) (a b:List Str):Y3 s (a ++ b)=Y3 s a + Y3 s b:=by
 unfold Y3;rw[YAZ,YKW,List.sum_append]
theorem YBo (s:Sz) (a:List Str):Y3 s a.reverse=Y3 s a:=by
 unfold Y3 unQ;rw[List.filter_reverse,YLQ,List.sum_reverse]
theorem JY {s:Sz} (hpos:∀z v,look s z=some v->1<=v) {ps:List Str}{m:Int} (e:Yg s 0 ps=some m):m=1 + Y3 s ps:=by
 have h1:ZA s 0 ps 1=some (1 + Y3 s ps):=YAV λp hp hq=>by
  obtain⟨v,hv,_⟩:=(Ym hpos e).2 p hp hq;rw[hv];rfl
 have e:ZA s 0 ps 1=some m:=e;rw[h1]at e;exact(YKr e).symm
def AttO (g:YX) (s:Sz) (z0:Str) (o:Sz):Prop:=∀p v,look o p=some v->p=z0\/∃(r:Yl) (m h sp:Int),r∈g/\Yg s 0 r.2.1=some m/\look o r.1=some h/\p∈r.2.1/\isQ p=false/\look s p=some sp/\h + m - sp<=v
def DF (g:YX) (s:Sz) (z0:Str) (o:Sz):Prop:=Jl g s o/\AttO g s z0 o
theorem YAc.att {H:Hp}{g:YX}{s:Sz}{z0:Str}{o:Sz}{kvs:List (Key×V)} (h:YAc H g s z0 o kvs):AttO g s z0 o:=λp v e=>by
 rcases h p v e with ⟨h1,_⟩ |⟨_,T,num,pl,r,m,hh,sp,_,_,er,epl,hq,em,eh,esp,hle⟩
 ·exact .inl h1
 ·exact .inr ⟨r,m,hh,sp,YKL er,em,eh,YKL epl,hq,esp,hle⟩
theorem gap {g:YX}{s:Sz} (hs:Yp g 0 s) {r:Yl}{m sp:Int}{p:Str} (em:Yg s 0 r.2.1=some m) (hp:p∈r.2.1) (hq:isQ p=false) (esp:look s p=some sp):1 + sp<=m:=by
 obtain⟨v,ev,hv⟩:=(Ym hs.pos em).2 p hp hq;rw[esp]at ev;cases ev;exact hv
theorem wy_le {g:YX}{s:Sz} (hs:Yp g 0 s) {z0:Str}{o o':Sz} (w:Zy g s z0 o) (a:AttO g s z0 o) (w':Zy g s z0 o') (f':Jl g s o'):∀(n:Nat) (p:Str) (v:Int),v.toNat<=n->look o p=some v->∃v',look o' p=some v'/\v'<=v:=by
 intro n
 induction n with
 |zero=>
  intro p v hn e;rcases a p v e with rfl |⟨r,m,h,sp,hr,em,eh,hp,hq,esp,hle⟩
  ·exact⟨0,w'.has,w.nn _ _ e⟩
  ·have:=gap hs em hp hq esp;have:=w.nn _ _ eh;omega
 |succ n ih=>
  intro p v hn e;rcases a p v e with rfl |⟨r,m,h,sp,hr,em,eh,hp,hq,esp,hle⟩
  ·exact⟨0,w'.has,w.nn _ _ e⟩
  ·have hg:=gap hs em hp hq esp;have hn0:=w.nn _ _ eh;obtain⟨h',wC,hh'⟩:=ih r.1 h (by omega) eh;obtain⟨v',e1,e2⟩:=f' r hr p hp m h' sp em wC hq esp;exact⟨v',e1,by omega⟩
theorem wy_uniq {g:YX}{s:Sz} (hs:Yp g 0 s) {z0:Str}{o o':Sz} (w:Zy g s z0 o) (f:DF g s z0 o) (w':Zy g s z0 o') (f':DF g s z0 o') (p:Str):look o p=look o' p:=by
 cases e:look o p with
 |none=>
  cases e':look o' p with
  |none=>rfl
  |some v'=>
   obtain⟨v,e1,_⟩:=wy_le hs w' f'.2 w f.1 _ p v' (YKH _) e';rw[e]at e1;cases e1
 |some v=>
  obtain⟨v',e1,h1⟩:=wy_le hs w f.2 w' f'.1 _ p v (YKH _) e;obtain⟨v2,e2,h2⟩:=wy_le hs w' f'.2 w f.1 _ p v' (YKH _) e1;rw[e]at e2;cases e2;rw[e1];congr 1;omega
def cnt (s:Sz) (v:Int):Nat:=(s.filter λp=>decide (p.2 < v)).length
theorem YJq:∀{s:Sz}{a b:Int},a<=b->cnt s a<=cnt s b
 |[],a,b,_=>YKH _
 |p :: s,a,b,h=>by
  have ih:=YJq (s:=s) h;unfold cnt at ih ⊢;rw[YKv,YKv]
  by_cases h1:p.2 < a
  ·rw[if_pos (YKN h1),if_pos (YKN (by omega)),YKX,YKX];omega
  ·rw[if_neg (λz=>h1 (YKh z))];split
   ·rw[YKX];omega
   ·exact ih
theorem YE2:∀{s:Sz}{a b:Int}{z:Str},a < b->(z,a)∈s->cnt s a + 1<=cnt s b
 |[],a,b,z,_,h=>by cases h
 |p :: s,a,b,z,hab,h=>by
  have mono:=YJq (s:=s) (Int.le_of_lt hab);unfold cnt at mono ⊢;rw[YKv,YKv];rcases YKT.mp h with e |h
  ·subst e;rw[if_neg (λz=>by have:=YKh z;exact absurd this (Int.lt_irrefl _)),if_pos (YKN hab),YKX];omega
  ·have ih:=YE2 hab h;unfold cnt at ih
   by_cases h1:p.2 < a
   ·rw[if_pos (YKN h1),if_pos (YKN (by omega)),YKX,YKX];omega
   ·rw[if_neg (λz=>h1 (YKh z))];split
    ·rw[YKX];omega
    ·exact ih
theorem YE3:∀{s:Sz}{a:Int}{z:Str},(z,a)∈s->cnt s a + 1<=s.length
 |[],a,z,h=>by cases h
 |p :: s,a,z,h=>by
  unfold cnt;rw[YKv];have hle:=List.length_filter_le (λp:Str×Int=>decide (p.2 < a)) s;rcases YKT.mp h with e |h
  ·subst e;rw[if_neg (λz=>by have:=YKh z;exact absurd this (Int.lt_irrefl _)),YKX];omega
  ·have ih:=YE3 h;unfold cnt at ih;split
   ·rw[YKX,YKX];omega
   ·rw[YKX];omega
def bB:Nat->Int
 |0=>1
 |c + 1=>1 + 3 * bB c
theorem YGr:∀c,1<=bB c
 |0=>YKz _
 |c + 1=>by have:=YGr c;show 1<=1 + 3 * bB c;omega
theorem YHf {a b:Nat} (h:a<=b):bB a<=bB b:=by
 induction h with
 |refl=>exact YKz _
 |step _ ih=>
  rename_i k _
  have:=YGr k;show bB a<=1 + 3 * bB k;omega
theorem YJr {f:Str->Int}{b:Int}:∀{ps:List Str},(∀p∈ps,f p<=b)->(ps.map f).sum<=ps.length * b
 |[],_=>by simp
 |p :: ps,h=>by
  have ih:=YJr (f:=f) (ps:=ps) λx hx=>h x (YKY _ hx)
  have h1:=h p (YKd ..);rw[YKa,YLE,YKX,Int.natCast_add,Int.add_mul];show _<=_ + (1:Int) * b;rw[Int.one_mul];omega
theorem sum3 {s:Sz}{ps:List Str}{b:Int} (hb:0<=b) (h3:ps.length<=3) (h:∀p∈ps,isQ p=false->(look s p).getD 0<=b):Y3 s ps<=3 * b:=by
 have h1:=YJr (f:=λp=>(look s p).getD 0) (b:=b) (ps:=unQ ps) λp hp=>h p (JC.mp hp).1 (JC.mp hp).2
 have h2:=YCO ps;have h4:((unQ ps).length:Int) * b<=3 * b:=YK7 (by omega) hb;unfold Y3;omega
theorem YJs {g:YX}{s:Sz} (hs:Yp g 0 s) (hf:Fix g 0 s) (h3:∀r∈g,r.2.1.length<=3):∀(n:Nat) (z:Str) (v:Int),v.toNat<=n->look s z=some v->v<=bB (cnt s v):=by
 intro n
 induction n with
 |zero=>
  intro z v hn e;have:=hs.pos z v e;omega
 |succ n ih=>
  intro z v hn e;obtain⟨r,hr,hz,m,em,hm⟩:=hs.hd z v e;have hsum:=JY hs.pos em;have hv:m=v:=by
   obtain⟨v',e1,e2⟩:=hf r hr m em;rw[hz,e]at e1;cases e1;omega
  have rJ:∀p∈r.2.1,isQ p=false->∃vp,look s p=some vp/\vp < v:=λp hp hq=>by
   obtain⟨vp,e1,e2⟩:=(Ym hs.pos em).2 p hp hq;exact⟨vp,e1,by omega⟩
  cases hc:cnt s v with
  |zero=>
   have hno:∀p∈r.2.1,isQ p=false->(look s p).getD 0<=0:=λp hp hq=>by
    obtain⟨vp,e1,e2⟩:=rJ p hp hq;have:=YE2 e2 (Z8 e1);omega
   have:=sum3 (YKz 0) (h3 r hr) hno;show v<=1;omega
  |succ c=>
   have hb:=YGr c;have hno:∀p∈r.2.1,isQ p=false->(look s p).getD 0<=bB c:=λp hp hq=>by
    obtain⟨vp,e1,e2⟩:=rJ p hp hq;have h1:=YE2 e2 (Z8 e1);have h2:=ih p vp (by have:=hs.pos _ _ e1;omega) e1;rw[e1];exact YLn h2 (YHf (by omega))
   have:=sum3 (by omega) (h3 r hr) hno;show v<=1 + 3 * bB c;omega
theorem keys4 {s:Sz}{nm:List Str} (nd:(s.map (·.1)).Nodup) (h:∀z∈s.map (·.1),z∈nm) (n4:nm.length=4):s.length<=4:=by
 have:=YAU nd h
 rwa [YKF,n4]at this
theorem short4 {g:YX}{s:Sz}{nm:List Str} (hs:Yp g 0 s) (hf:Fix g 0 s) (h3:∀r∈g,r.2.1.length<=3) (n4:nm.length=4) (hnm:∀r∈g,r.1∈nm) {z0:Str} (h0:z0∈g.map (·.1)) {o:Sz} (w:Zy g s z0 o) (f:DF g s z0 o)
  {r:Yl}{m h:Int} (hr:r∈g) (em:Yg s 0 r.2.1=some m) (eh:look o r.1=some h):h + m<=1000:=by
 have s4:s.length<=4:=keys4 hs.nd (λz hz=>by
  obtain⟨p,hp,rfl⟩:=YKU.mp hz;obtain⟨r',hr',e1,_⟩:=hs.hd p.1 p.2 (YAT hs.nd hp);rw[<-e1];exact hnm r' hr') n4
 have o4:o.length<=4:=keys4 w.nd (λz hz=>by
  obtain⟨p,hp,rfl⟩:=YKU.mp hz;obtain⟨r',hr',e1⟩:=YKU.mp ((w.rch p.1 p.2 (YAT w.nd hp)).head hs h0);have e1:r'.1=p.1:=e1;rw[<-e1];exact hnm r' hr') n4
 have Qv:∀z v,look s z=some v->v<=40:=λz v e=>by
  have h1:=YJs hs hf h3 _ z v (YKH _) e;have h2:=YE3 (Z8 e);exact YLn h1 (YLn (YHf (show cnt s v<=3 by omega)) (by decide))
 have m121:∀{r:Yl}{m:Int},r∈g->Yg s 0 r.2.1=some m->m<=121:=λ{r m} hr em=>by
  have hsum:=JY hs.pos em;have:=sum3 (s:=s) (ps:=r.2.1) (b:=40) (by decide) (h3 r hr) λp hp hq=>by
   obtain⟨vp,e1,_⟩:=(Ym hs.pos em).2 p hp hq;rw[e1];exact Qv p vp e1
  omega
 have ob:∀(n:Nat) (p:Str) (v:Int),v.toNat<=n->look o p=some v->v<=120 * (cnt o v:Int):=λn=>by
  induction n with
  |zero=>
   intro p v hn e;have:=w.nn _ _ e;omega
  |succ n ih=>
   intro p v hn e;have hv0:=w.nn _ _ e;rcases f.2 p v e with rfl |⟨r',m',h',sp,hr',qd,wC,hp,hq,esp,hle⟩
   ·rw[w.has]at e;cases e;omega
   ·have hg:=gap hs qd hp hq esp;have hn0:=w.nn _ _ wC;have hm:=m121 hr' qd;have hsp:=hs.pos _ _ esp;obtain⟨v',e1,e2⟩:=f.1 r' hr' p hp m' h' sp qd wC hq esp;rw[e]at e1;cases e1;have h1:=ih r'.1 h' (by omega) wC;have h2:=YE2 (s:=o) (show h' < v by omega) (Z8 wC);omega
 have h1:=ob _ r.1 h (YKH _) eh;have h2:=YE3 (Z8 eh);have h3':=m121 hr em;omega
end FR
namespace L2
open PySem PySem.Spec PyProof.Rows
section
variable {X:Cx}{pins:List (Addr×Obj)}{σ:St}{H:Hp}{s:Shared}{a b:Addr}{kvs:List (List Key×V)}{k:List Key}{u r:Value}{v:V}{A:Around}{E:Value->Shared->Prop}
end
section
variable {X:Cx}{o e f:Expr}{dH bj:Pos}{td ty tx:TE}
end
end L2
namespace L2
open PySem PySem.Spec PyProof.Rows
section
variable {X:Cx}{jx:List Expr}{k:Nat}{lF:Pos}
end
end L2
namespace L2
open PySem PySem.Spec PyProof.Rows
section
variable {X:Cx}{pins:List (Addr×Obj)}{σ:St}{H:Hp}{s:Shared}{d:Addr}{kvs:List (List Key×V)}
end
section
variable {X:Cx}
end
end L2
namespace L2
open PySem PySem.Spec PyProof.Rows
section
variable {prog:Program}{w:World}{A:Around}{E:Value->Shared->Prop}{s:Shared}
end
section
variable {X:Cx}{jx:List Expr}{k:Nat}{lF:Pos}
end
end L2
namespace L2
open PySem PySem.Spec PyProof.Rows
section
variable {X:Cx}{tg:Expr}
end
end L2
namespace L2
open PySem PySem.Spec PyProof.Rows
section
variable {prog:Program}{w:World}{A:Around}{E:Value->Shared->Prop}{s:Shared}
end
section
variable {X:Cx}{tg:Expr}
end
section
variable {prog:Program}{w:World}{d:Addr}{od:Obj}{es:Array DictEntry}{ep:Nat}
end
section
variable {X:Cx}{o e f:Expr}{dH bj:Pos}{td ty tx:TE}
end
end L2
namespace L2
open PySem PySem.Spec PyProof.Rows
end L2
namespace L2
open PySem PySem.Spec PyProof.Rows PySem.AutoSeq1
section
variable {X:Cx}
end
end L2
namespace L2
open PySem PySem.Spec PyProof.Rows
end L2
namespace L2
open PySem PySem.Spec PyProof.Rows
section
variable {X:Cx}{pins:List (Addr×Obj)}{σ:St}{H:Hp}{s:Shared}{d:Addr}{xs:List V}
end
end L2
namespace L2
open PySem PySem.Spec PyProof.Rows PySem.SeqAt
section
variable {X:Cx}
end
end L2
namespace L2
open PySem PySem.Spec PyProof.Rows PySem.SeqAt
section
variable {X:Cx}
end
end L2
namespace L2
open PySem PySem.Spec PyProof.Rows
def Dn (K:W.Frag) (x:Str) (f:Addr):Prop:=PySem.W.nsIn K mainGlobals x=some (some (.ref f))
def Zn (K:W.Frag) (x:Str):Prop:=PySem.W.nsIn K mainGlobals x=some none
def On (K:W.Frag) (c:Addr) (x:Str):Prop:=PySem.W.findIn K (.ref c) x=some none
inductive An (K:W.Frag) (c:Addr) (x:Str) (f:Addr):Prop
 |mk:PySem.W.findIn K (.ref c) x=some (some (.ref f))->PySem.W.isFn K (.ref f)=true->An K c x f
inductive Ln (K:W.Frag) (x q:Str) (st:Stmt) (f:Addr):Prop
 |mk {oc:Value}{od an:Option Addr}{osl:Array (Option Value)}{kV doc pm aK ct:Value}:K.lookup f=some ⟨oc,od,.func (PySem.W.fnOf x q (J4 st) (JP st) (YJ st) .none kV doc pm an aK ct),osl⟩->PySem.W.codeIn K aK q=true->PySem.W.keepIn K (.ref f)=true->Ln K x q st f
theorem Ln.ex {K:W.Frag}{x q:Str}{st:Stmt}{f:Addr}:Ln K x q st f->∃fd,Fun K x q st f fd
 |.mk l c k=>⟨_,YJC l c k⟩
def Pn:Nat->(List Value->Prop)->Prop
 |0,P=>P []
 |n + 1,P=>∀a,Pn n λus=>P (a :: us)
theorem bn:∀(n:Nat) {P:List Value->Prop},Pn n P->∀us:List Value,us.length=n->P us
 |0,_,h,[],_=>h
 |0,_,_,_ :: _,e=>by cases e
 |_ + 1,_,_,[],e=>by cases e
 |n + 1,_,h,a :: us,e=>bn n (h a) us (Nat.succ.inj e)
section
variable (P:Program) (w:World) {K:W.Frag}{mg:Str->Option Value}{CX:CXT}{k:Nat}{x q:Str}{st:Stmt}{C f:Addr}{fd:FuncData}{ps:List Str}{sp:Sp}
theorem us (m:mg x=some (.ref f)) (F:Fun K x q st f fd) (o:∀base,Yz P w K mg base CX k f fd ps sp) (b:∀(kV doc pm:Value) (an:Option Addr) (aK ct:Value) (us:List Value),us.length=ps.length->bindArgs (PySem.W.fnOf x q (J4 st) (JP st) (YJ st) .none kV doc pm an aK ct) ⟨us,[]⟩=pure (ps.zip us)):Yu P w K mg CX k x ps sp:=⟨⟨f,fd,o,m,F.kp,F.binds b⟩⟩
end
end L2
namespace L2
open PySem PySem.Spec PyProof.Rows
section
variable {prog:Program}{w:World}{A:Around}{R:Result->Shared->Prop}{I S:Addr}{fp wr:List Addr}{n:Nat}{P:Nat->Value->Prop}{St:Nat->Heap->Prop}{bt:Nat->Nat->Bool}{kw:List (Str×Value)}
end
section
variable {prog:Program}{w:World}{A:Around}{E:Value->Shared->Prop}{s:Shared}{l:Addr}{items:Array Value}{bt:Nat->Nat->Bool}{d:Value}
end
section
variable {X:Cx}{x:Str}{e:Expr}{kws:List Keyword}{p pos:Pos}{t tk:TA}
end
end L2
namespace L2
open PySem PySem.Spec PyProof.Rows PySem.SeqAt
section
variable {prog:Program}{w:World}{A:Around}{R:Result->Shared->Prop}{I S:Addr}{fp wr:List Addr}{n:Nat}{P:Nat->Value->Prop}{St:Nat->Heap->Prop}{bt:Nat->Nat->Bool}{kw:List (Str×Value)}{kp:Addr->Obj->Prop}
end
section
variable {prog:Program}{w:World}{A:Around}{E:Value->Shared->Prop}{s:Shared}{l:Addr}{items:Array Value}{bt:Nat->Nat->Bool}{d:Value}{kp:Addr->Obj->Prop}
end
end L2
namespace L2
open PySem PySem.Spec PyProof.Rows PySem.SeqAt
section
variable {X:Cx}{x:Str}{e:Expr}{kws:List Keyword}{p pos:Pos}{t tk:TA}
end
section
variable {X:Cx} (K:W.Frag) (hK:X.K=K)
include hK
end
end L2
namespace L2
open PySem PySem.Spec PyProof.Rows
section
variable {X:Cx}{jx:List Expr}{k:Nat}{lF:Pos}
end
end L2
namespace L2
open PySem PySem.Spec PyProof.Rows
def YJt (ta:TA):TE:=λσ H Q=>ta σ H λvs H1=>∃n:Nat,vs=[.int n]/\n<=2 ^ 20/\∀l,H1 l=none->Q (.ref l) (upd H1 l (.lst ((List.range n).map λi:Nat=>V.int (i:Int))))
theorem YFq {X:Cx}{a:Expr}{ta:TA}{p p2 pos eY:Pos} (hc:X.calm=true) (hg:Gl X "list") (hm:X.mg "list"=none) (yC:Gl X "range") (hm2:X.mg "range"=none) (ha:PA X [a] ta)
  (hs:starEach [.Call (.Name "range" p2) [a] [] eY] X.env=[(false,eval (.Call (.Name "range" p2) [a] [] eY) X.env)]:=by rfl) (hs2:starEach [a] X.env=[(false,eval a X.env)]:=by rfl):
  PE X (.Call (.Name "list" p) [.Call (.Name "range" p2) [a] [] eY] [] pos) (YJt ta):=by
 intro pins s σ H Q I h;refine wpAny_Call_Name_kw (JJ I hg hm YKy ?_);refine PyProof.Rows.callWith_type1 ?_ hs rfl;rw[hs];show wpAny _ _ (spliced ((false,eval (.Call (.Name "range" p2) [a] [] eY) X.env) :: [])) _ _ s;refine Calls.spliced_cons (wpAny_Call_Name_kw (JJ I yC hm2 boot_range (PyProof.Rows.callWith_type1 (thn (ha eY pins s σ H _ I h) λus s1 ⟨vs,H1,I1,r1,q1⟩=>?_) hs2 rfl)));obtain⟨n,rfl,hn,q⟩:=q1;obtain⟨u,rfl,t,rfl⟩:=JO r1;refine call_range_1 (Calls.spliced_nil ?_);have e2:Builtin.Range.rangeSize 0 (n:Int) 1=n:=by rw[rangeSize_one];split <;> lia
 have p20:(2:Nat) ^ 20=1048576:=by decide
 have p62:(2:Int) ^ 62=4611686018427387904:=by decide
 refine call_list_range (n:=n) (I1.ok.hd hc) (IsRange.new ..) (small_one (a:=0) (b:=n) (by decide) (by decide) (by lia) (by lia)) e2 (YKq hn (by decide)) λh' tk cH c' hk hS hacc=>?_
 have yD:Yi ((List.range n).map λi:Nat=>V.int (i:Int)) cH.toList:=by
  refine YAN (by rw[YKF,YLa,YK2,hacc.1]) λj x u h1 h2=>?_
  obtain⟨t',rfl⟩:=hacc.2 j u (by rw[<-YK6];exact h2);rw[YKk]at h1;have hj:j < n:=by
   have:=(YKR.mp h2).1
   rwa [YK2,hacc.1]at this
  rw[List.getElem?_range hj]at h1;cases h1;exact⟨t',by simp⟩
 have kk:∀b u,s1.heap.get? b=some u->h'.get? b=some u:=λb u e=>hk b u (YKI _ e)
 have le:s1.heap.objs.size<=(s1.heap.push { cls:=.type "range",data:=.fields #[.int 0 s1.toks,.int (n:Int) t,.int 1 (s1.toks + 1)] }).objs.size:=by rw[YLt];exact YLl _
 exact⟨.ref _,_,I1.laid (t':=tk) kk (by rw[YLt];exact YLl _) (show Yq X.prog X.w _ h' _ (.lst _) from⟨by rw[YKF,YLa,sizeLine_eq];lia,cH.toList,c',yD,by simpa using hS⟩),U,q _ (I1.hok.fresh (by rw[YLt];exact YLl _))⟩
end L2
namespace L2
open PySem PySem.Spec PyProof.Rows
theorem YAx:∀{vs:List Value}{ss:List Str},StrsAre vs ss->Yi (ss.map V.str) vs
 |_,_,.nil=>.nil
 |_,_,.cons x t h=>.cons ⟨t,U⟩ (YAx h)
section
variable {prog:Program}{w:World}{A:Around}{E:Value->Shared->Prop}{s:Shared}{T:String}{r d:Addr}{n:Nat}{P:Nat->Value->Prop}{OK:Heap->Prop}
theorem YFr {R:List Value->Shared->Prop} (K:PySem.W.KdlSrc prog w T r d n P OK) (hh:A.handled=none) (hok:OK s.heap) (hn:n<=sizeLine)
  (h:∀h' tk acc,(∀b o,s.heap.get? b=some o->h'.get? b=some o)->s.heap.objs.size < h'.objs.size->ItemsOf P acc n->R acc.toList { s with heap:=h',toks:=tk }):wpAny (model prog w) A (collect (.ref r)) R E s:=by
 have lt:=K.there _ hok;unfold collect;refine' YKG (wpAny_runValue (codeAny_builtin entry_proto_collect' ?_));rw[Around.under_plainId PySem.F.plain_proto_collect];show wpAny _ A.in1 (newList [] >>= λl=>again (.builtin _ ⟨[l,.ref r],[]⟩)) _ _ s;refine' YKG (wpAny_newObj_type ?_);refine' YKV ⟨plainId_quiet PySem.F.plain_list_iadd _,codeAny_builtin entry_list_iadd' ?_⟩;rw[Around.under_plainId PySem.F.plain_list_iadd];obtain⟨B,eB⟩:∃B,s.heap.push { cls:=.type "list",data:=.seq ([]:List Value).toArray }=B:=⟨_,U⟩;have hS:B.get? s.heap.objs.size=some { cls:=.type "list",data:=.seq #[] }:=by rw[<-eB];exact YKe _ rfl
 have hB:∀b o,s.heap.get? b=some o->B.get? b=some o:=λb o e=>by rw[<-eB];exact YKI _ e
 rw[eB];show wpAny _ A.in1 (Builtin.List.listExtendWith (.ref s.heap.objs.size) (.ref r) (.ref s.heap.objs.size)) _ _ _;have key:=PySem.W.kdl_extend (A:=A) (s:={ s with heap:=B }) (R:=λq s'=>∃h' tk acc c,q=.ok (.ret (.ref s.heap.objs.size))/\s'={ s with heap:=h',toks:=tk }/\(∀b o,s.heap.get? b=some o->h'.get? b=some o)/\h'.get? s.heap.objs.size=some { cls:=.type "list",dict:=none,data:=.seq acc c,slots:=#[] }/\ItemsOf P acc n) K hh (K.keep _ _ hok λb _ o e=>hB b o e) s.heap.objs.size (YLD lt.1) (YLD lt.2) (.ref s.heap.objs.size) 0 hS (λh' tk acc c hk hS' hit=>⟨h',tk,acc,c,U,U,λb o e=>hk b o (YKn (YKS e)) (hB b o e),hS',hit⟩) hn;have fin:∀h' tk acc c,(∀b o,s.heap.get? b=some o->h'.get? b=some o)->h'.get? s.heap.objs.size=some { cls:=.type "list",dict:=none,data:=.seq acc c,slots:=#[] }->ItemsOf P acc n->wpAny (model prog w) A (load s.heap.objs.size >>= λo=>match o.data with |.seq xs _=>pure xs.toList |_=>unsupported "internal:collect") R E { s with heap:=h',toks:=tk }:=λh' tk acc c hk hS' hit=>YKG (wpAny_load hS' (YKV (h h' tk acc hk (YKS hS') hit)))
 refine wpAny_mono key (λf s' x=>?_) λe s' x=>?_
 ·cases f with
  |done f=>
   obtain⟨h',tk,acc,c,e,rfl,hk,hS',hit⟩:=x;cases e;exact fin h' tk acc c hk hS' hit
  |again c1=>
   refine⟨x.1,codeAny_mono x.2 λq s2 y=>?_⟩;obtain⟨h',tk,acc,c,rfl,rfl,hk,hS',hit⟩:=y;exact fin h' tk acc c hk hS' hit
 ·obtain⟨_,_,_,_,e',_⟩:=x;cases e'
theorem YFs {Q:Value->Shared->Prop} (K:PySem.W.KdlSrc prog w T r d n P OK) (hh:A.handled=none) (hok:OK s.heap) (h64:n < 64) {ss:List Str} (hP:∀acc,ItemsOf P acc n->StrsAre acc.toList ss)
  (h:∀h' tk (out:Array Value) (nH:List Str) (l:Addr) e,s.heap.objs.size<=l->(∀b o,s.heap.get? b=some o->h'.get? b=some o)->h'.get? l=some (seqObj "list" out e)->StrsAre out.toList nH->nH.Perm ss->sortedS nH=true->Q (.ref l) { s with heap:=h',toks:=tk }):
  wpAny (model prog w) A (call (.builtin "sorted") [.ref r]) Q E s:=by
 refine' Calls.call_function_entry kind_sorted plain_sorted entry_sorted (args_sorted1 _) ?_;unfold Builtin.«sorted»;refine' YKG (m:=checkCount "sorted" 1 1 _) (YKV ?_);refine YKG (YFr K hh hok (YKq (YLx h64) (by rw[sizeLine_eq];decide)) λh1 tk acc hk vP hit=>?_);have hS:=hP acc hit;have hlen:acc.toList.length=n:=Array.length_toList.trans hit.1;refine' YKG (wpAny_newList ?_);have hoL:(h1.push (seqObj "list" acc.toList.toArray 0)).get? h1.objs.size=some (seqObj "list" acc.toList.toArray 0):=YKe _ rfl;have hle:s.heap.objs.size<=h1.objs.size:=YLx vP;refine' YKG (wpAny_holding (wpAny_call_entry slot_list_sort ⟨_,hoL,U⟩ entry_list_sort (list_sort_treeK strKind_oneLt hoL hS.keysOf (λv₁ v₂ YL e=>keyKind_strs (by rw[<-e];exact hS)) (by rw[hlen];exact h64) λst' a1 a2=>⟨_,U,?_⟩) (args_list_sort _)));obtain⟨nH,g1,g2,g3⟩:=sorted_out_str hS a1 a2;obtain⟨e,he⟩:=sortedHeap_at (n:=0) (vs:=acc.toList) (out:=(arrOf st').map (·.2)) hoL;refine YKV ⟨_,U,h _ _ _ nH h1.objs.size e hle (λb o hb=>?_) he g1 g2 g3⟩;have hb1:=hk b o hb;have hlt:=YKS hb1;rw[sortedHeap_old (YKn hlt) (by rw[size_push'];exact Nat.lt_succ_of_lt hlt)];exact YKI _ hb1
end
section
variable {X:Cx}
def YHg:List Str->Hp->VK->Prop:=λss H Q=>ss.length < 64/\∀(l:Addr) (nH:List Str),H l=none->nH.Perm ss->sortedS nH=true->Q (.ref l) (upd H l (.lst (nH.map V.str)))
theorem YE4:Zg X (.builtin "sorted") (λxs H Q=>∃(p:Addr) (ss:List Str),xs=[.ref p]/\H p=some (.lst (ss.map V.str))/\YHg ss H Q):=by
 intro pins s σ H xs us Q I r h;obtain⟨p,ss,rfl,hp,h64,q⟩:=h;obtain⟨u,rfl,rx⟩:=JO r;cases rx;obtain⟨hz,its,n,rv,hl⟩:=(show Yq X.prog X.w H s.heap p (.lst (ss.map V.str)) from I.hok p _ hp);have hll:its.length=ss.length:=by have:=rv.length;rw[YKF]at this;exact this.symm
 refine sorted_strs (vs:=its) ⟨_,hl,U,_,U⟩ (YAm rv) (by rw[hll];exact h64) λout nH a1 a2 a3=>?_
 obtain⟨e,he⟩:=sortedAll_at s.heap its out;refine⟨.ref (s.heap.objs.size + 1),_,I.laid (a:=s.heap.objs.size + 1) (o:=.lst (nH.map V.str)) (t':=s.toks) (λb o hb=>sortedAll_old hb) (YLl _) ⟨?_,out.toList,e,YAx a1,by simpa [seqObj] using he⟩,U,q _ nH (I.hok.fresh (YLl _)) a2 a3⟩;rw[YKF,a2.length_eq];rw[YKF]at hz;exact hz
theorem YE5 (hc:X.calm=true):Zg X (.builtin "sorted") (λxs H Q=>∃(p:Addr) (kvs:List (Key×V)) (ss:List Str),xs=[.ref p]/\Rd H p (.dK kvs)/\(kvs.map λkv=>kV kv.1)=ss.map V.str/\YHg ss H Q):=by
 intro pins s σ H xs us Q I r h;obtain⟨p,kvs,ss,rfl,hq,ek,h64,q⟩:=h;obtain⟨u,rfl,rx⟩:=JO r;cases rx;obtain⟨hz,lo,vs,rel,hD⟩:=YAd I.hok hq;obtain⟨ep,hat⟩:=hD.dictAt;have hlen:kvs.length=vs.length:=rel.length;have hls:kvs.length=ss.length:=by
  have:=YLR List.length ek
  rwa [YKF,YKF]at this
 refine YFs (ss:=ss) (PySem.W.kdl_dict (knd:=Y1 X.prog X.w) (kvs:=vs) (ep:=ep) lo) (I.ok.hd hc) hat (by rw[<-hlen,hls];exact h64) (λacc hit=>?_) λh' tk out nH l e hl hk he a1 a2 a3=>?_
 ·refine YAm ?_;rw[<-ek];refine YAN (by rw[YKF,hlen];exact(Array.length_toList.trans hit.1).symm) λj x u h1 h2=>?_
  obtain⟨k,y,hy,Qo⟩:=hit.2 j u (by rw[<-YK6];exact h2);have rH:=rel.keys;rw[YKk]at h1;have e1:(kvs.map (·.1))[j]?=some k:=by rw[rH,YKk,hy];rfl
  rw[YKk]at e1;cases e2:kvs[j]? with
  |none=>rw[e2]at h1;cases h1
  |some kv=>
   rw[e2]at h1 e1;cases h1;cases e1;exact YFZ Qo
 ·refine⟨.ref l,_,I.laid (a:=l) (o:=.lst (nH.map V.str)) (t':=tk) hk hl ⟨?_,out.toList,e,YAx a1,by simpa [seqObj] using he⟩,U,q _ nH (I.hok.fresh hl) a2 a3⟩;rw[YKF,a2.length_eq,<-hls];exact hz
end
end L2
namespace L2
open PySem PySem.Spec PyProof.Rows
theorem YEE {α:Type} (its:List α):∀m,m < its.length + 1->((List.range m).map λk=>its.length - 1 - k).filterMap (its[·]?)=(its.drop (its.length - m)).reverse
 |0,_=>by rw[Nat.sub_zero,List.drop_length];rfl
 |m + 1,h=>by
  have ih:=YEE its m (by lia);rw[List.range_succ,YKW,List.filterMap_append,ih];have hlt:its.length - (m + 1) < its.length:=by lia
  have e:its.drop (its.length - (m + 1))=its[its.length - (m + 1)] :: its.drop (its.length - m):=by
   rw[YLJ hlt];congr 2
   lia
  rw[e,YLp];congr 1;show List.filterMap _ [its.length - 1 - m]=_;have e2:its.length - 1 - m=its.length - (m + 1):=by lia
  rw[YLf,e2,YKK hlt];rfl
theorem YIc (its:List Value):slicePick its.toArray none (some 0) (some (-1))=((its.drop 1).reverse).toArray:=by
 unfold slicePick sliceBounds;rw[YKQ];cases its with
 |nil=>rfl
 |cons x r=>
  congr 1;have h1:(max (-1:Int) (min (if (0:Int) < 0 then 0 + ((x :: r).length:Int) else 0) (((x :: r).length:Int) - 1)))=0:=by
   rw[YKX,if_neg (by decide)]
   lia
  have key:=YEE (x :: r) r.length (by rw[YKX];lia);have e3:(x :: r).length - r.length=1:=by rw[YKX];lia
  rw[e3]at key;rw[<-key];have e4:sliceRange (((x :: r).length:Int) - 1) 0 (-1)=(List.range r.length).map λk=>(x :: r).length - 1 - k:=by
   unfold sliceRange;rw[YKX];have c:(if (-1:Int) > 0 then (if (((r.length + 1:Nat):Int) - 1) < 0 then (0 - (((r.length + 1:Nat):Int) - 1) + -1 - 1) / -1 else 0) else (if (((r.length + 1:Nat):Int) - 1) > 0 then ((((r.length + 1:Nat):Int) - 1) - 0 - -1 - 1) / (- -1) else 0)).toNat=r.length:=by
    rw[if_neg (by decide)];split
    ·have:((((r.length + 1:Nat):Int) - 1) - 0 - -1 - 1) / (- -1)=(r.length:Int):=by
      rw[show(- -1:Int)=1 from rfl,Int.ediv_one]
      lia
     rw[this]
     lia
    ·lia
   dsimp only;rw[c];refine YLv λk hk=>?_
   have:=YLI.mp hk
   lia
  show List.filterMap _ (sliceRange (((x :: r).length:Int) - 1) (max (-1:Int) (min (if (0:Int) < 0 then 0 + ((x :: r).length:Int) else 0) (((x :: r).length:Int) - 1))) (-1))=_;rw[h1,e4];have e5:(λk:Nat=>(x :: r).toArray[k]?)=λk=>(x :: r)[k]?:=funext λk=>List.getElem?_toArray ..
  rw[e5]
section
variable {X:Cx}{e:Expr}{te:TE}{lo hi:Option Expr}{st:Expr}{tl th ts:TO}{pos p2:Pos}
def rSlBack (K:W.Frag):V->Option Int->Option Int->Option Int->Hp->VK->Prop:=λx l u t H Q=>∃a xs,x=.ref a/\l=none/\u=some 0/\t=some (-1)/\SqL K H a xs/\∀p,H p=none->Q (.ref p) (upd H p (.lst (xs.drop 1).reverse))
def tSl3 (r:V->Option Int->Option Int->Option Int->Hp->VK->Prop) (te:TE) (tl th ts:TO):TE:=λσ H Q=>te σ H λx H1=>tl σ H1 λl H2=>th σ H2 λu H3=>ts σ H3 λt H4=>r x l u t H4 Q
theorem YId (K:W.Frag) (hK:X.K=K) (he:PE X e te) (hl:PO X lo tl) (hu:PO X hi th) (ht:PO X (some st) ts):PE X (.Subscript e (.Slice lo hi (some st) p2) pos) (tSl3 (rSlBack K) te tl th ts):=by
 subst hK;intro pins s σ H Q I h;refine Subscript_ (thn (he pins s σ H _ I h) λv s1 ⟨x,H1,I1,r1,q1⟩=>?_);refine wpAny_Slice (thn (hl pins s1 σ H1 _ I1 q1) λvl s2 ⟨l,H2,I2,pl,q2⟩=>thn (hu pins s2 σ H2 _ I2 q2) λvu s3 ⟨u,H3,I3,pu,q3⟩=>thn (ht pins s3 σ H3 _ I3 q3) λvt s4 ⟨t,H4,I4,pt,q4⟩=>?_);obtain⟨a,xs,rfl,rfl,rfl,rfl,hx,q⟩:=q4;cases r1;have I5:Inv X pins σ H4 { s4 with heap:=s4.heap.push { cls:=.type "slice",data:=.fields #[vl,vu,vt] } }:=I4.kept (t':=s4.toks) λb ob q=>YKI _ q
 obtain⟨its,r,hli,hz⟩:=I5.list hx;have hlen:=r.length;show wpAny (model X.prog X.w) X.A (subscriptTail e (.Slice lo hi (some st) p2) (.ref a) (.ref s4.heap.objs.size)) (EP X pins σ Q) X.xe { s4 with heap:=s4.heap.push { cls:=.type "slice",data:=.fields #[vl,vu,vt] } };refine tail_any (ops:=[.ref a,.ref s4.heap.objs.size]) (T:="list") hli.isList.typeIs slot_list_getitem.lookup ?_ (by with_unfolding_all rfl);refine wpAny_getItem_list_slice hli.isList (Heap.IsSliceOf.new ..) pl pu pt (by decide) ?_ (by rw[YKQ] <;> omega);rw[YIc];refine⟨.ref _,_,I5.laid (t':=s4.toks) (o:=.lst (xs.drop 1).reverse) (λb ob q=>YKI _ q) (YKH _) ?_,U,q _ (I5.hok.fresh (YKH _))⟩;exact⟨by rw[YKl,YK4];exact YKq (Nat.sub_le _ _) hz,_,0,(r.drop 1).reverse,YKe _ rfl⟩
end
end L2
namespace FR
open PySem L2
def top (i:Nat):Stmt:=PySem.Challenge.pw_forestread_k13_a_row_with_it.main.body.getD i (.Pass ⟨0,0,0,0⟩)
abbrev YAy:Stmt:=top 18
abbrev JR:Stmt:=top 19
abbrev YBp:Stmt:=top 20
abbrev YBq:Stmt:=top 21
abbrev YBr:Stmt:=top 22
abbrev YAz:Stmt:=top 26
abbrev X7:Stmt:=top 27
abbrev YBs:Stmt:=top 28
abbrev Xf:Stmt:=top 29
abbrev YBt:Stmt:=top 30
structure Adr where
 Barren:Addr
 Endless:Addr
 ForestError:Addr
 NoChange:Addr
 NoCosts:Addr
 NoNumber:Addr
 NoRule:Addr
 NoText:Addr
 NoWords:Addr
 NoGrammar:Addr
 NoRow:Addr
 TooGreat:Addr
 none_:Addr
structure Txt (K:W.Frag) (mg:Str->Option Value) (C:Adr):Prop where
 aa:mg "isinstance"=none
 jE:mg "int"=none
 qO:mg "bool"=none
 wK:mg "ord"=none
 ux:mg "str"=none
 aG:mg "len"=none
 qP:mg "all"=none
 jJ:mg "tuple"=none
 cQ:mg "list"=none
 aO:mg "range"=none
 cI:mg "enumerate"=none
 wL:mg "min"=none
 wM:mg "max"=none
 bH:mg "reversed"=none
 u9:mg "dict"=none
 jK:mg "ValueError"=none
 lG:mg "sorted"=none
 cR:∃t,mg "FIRST_CODE"=some (.int 32 t)
 dI:∃t,mg "LAST_CODE"=some (.int 126 t)
 bQ:∃t,mg "PERCENT_CODE"=some (.int 37 t)
 bR:∃t,mg "MOST_LETTERS"=some (.int 8 t)
 cT:∃t,mg "MOST_PARTS"=some (.int 6 t)
 cU:∃t,mg "MOST_RULES"=some (.int 60 t)
 bT:∃t,mg "MOST_NUMBERS"=some (.int 1000 t)
 qQ:mg "Barren"=some (.ref C.Barren)
 n8:mg "Endless"=some (.ref C.Endless)
 jA:mg "ForestError"=some (.ref C.ForestError)
 mQ:mg "NoChange"=some (.ref C.NoChange)
 n_:mg "NoCosts"=some (.ref C.NoCosts)
 mR:mg "NoNumber"=some (.ref C.NoNumber)
 qR:mg "NoRule"=some (.ref C.NoRule)
 qT:mg "NoText"=some (.ref C.NoText)
 ph:mg "NoWords"=some (.ref C.NoWords)
 dJ:mg "NoGrammar"=some (.ref C.NoGrammar)
 nP:mg "NoRow"=some (.ref C.NoRow)
 iQ:mg "TooGreat"=some (.ref C.TooGreat)
 lH:Exc K C.NoGrammar
 nQ:Exc K C.NoRow
 iR:Exc K C.TooGreat
 pq:PySem.W.findIn K (.ref C.NoRow) "__getattribute__"=some (some (.builtin "BaseException.__getattribute__"))
 pB:PySem.W.findIn K (.ref C.NoRow) "__getattr__"=some none
 pC:PySem.W.findIn K (.ref C.NoRow) "__class__"=some (some (.builtin "object.__class__"))
 pD:PySem.W.mroIn K C.NoRow (.type "BaseException")=some true
 pF:PySem.W.mroIn K C.NoRow (.type "object")=some true
 jL:PySem.W.findIn K (.ref C.TooGreat) "__getattribute__"=some (some (.builtin "BaseException.__getattribute__"))
 jM:PySem.W.findIn K (.ref C.TooGreat) "__getattr__"=some none
 jN:PySem.W.findIn K (.ref C.TooGreat) "__class__"=some (some (.builtin "object.__class__"))
 jO:PySem.W.mroIn K C.TooGreat (.type "BaseException")=some true
 jP:PySem.W.mroIn K C.TooGreat (.type "object")=some true
 xgs_:PySem.W.specialIn K (.builtin "object.__class__") "__get__"=some (some (.builtin "getset_descriptor.__get__"))
 xtk_:PySem.W.takesIn K (.builtin "object.__class__")=some true
 xGG:PySem.W.exmOne K (.ref C.NoGrammar) (.ref C.NoGrammar)=some true
 qU:PySem.W.exmOne K (.ref C.NoRow) (.ref C.ForestError)=some true
 lJ:PySem.W.exmOne K (.ref C.TooGreat) (.ref C.ForestError)=some true
 v_NoRow:PySem.W.kitOne K (.ref C.NoRow) (.type "ValueError")=some true
 v_TooGreat:PySem.W.kitOne K (.ref C.TooGreat) (.type "ValueError")=some true
 kNT:PySem.W.kitOne K (.ref C.NoRow) (.ref C.TooGreat)=some false
 kTN:PySem.W.kitOne K (.ref C.TooGreat) (.ref C.NoRow)=some false
 o1_NoRow:PySem.W.kitAny K (.ref C.NoRow) [.ref C.Barren,.ref C.Endless,.ref C.NoChange,.ref C.NoCosts,.ref C.NoNumber]=some false
 o1_TooGreat:PySem.W.kitAny K (.ref C.TooGreat) [.ref C.Barren,.ref C.Endless,.ref C.NoChange,.ref C.NoCosts,.ref C.NoNumber]=some false
 o2_NoRow:PySem.W.kitAny K (.ref C.NoRow) [.ref C.NoGrammar,.ref C.NoRule,.ref C.NoText,.ref C.NoWords]=some false
 o2_TooGreat:PySem.W.kitAny K (.ref C.TooGreat) [.ref C.NoGrammar,.ref C.NoRule,.ref C.NoText,.ref C.NoWords]=some false
theorem YDb:(["letter"]:List Str).Nodup:=by decide +kernel
theorem YFt:(["part"]:List Str).Nodup:=by decide +kernel
section
variable {P:Program}{w:World}{K:W.Frag}{mg:Str->Option Value}{base:Heap}{C:Adr}
theorem YFu:YV ["thing"] ["thing"] (YJ YAy):=⟨U,U,U,by decide +kernel,U,by decide +kernel,by decide +kernel⟩
theorem YFv {f:Addr}{fd:FuncData} (F:Fun K "is_whole" "is_whole" YAy f fd) (T:Txt K mg C):Yz P w K mg base CX0 1 f fd ["thing"] (Xu YBJ):=by
 refine F.ok YFu (λvs H Q E h=>?_) (λaK A outer s H vs Q E hr h=>?_)
 ·cases h;subst_vars;rfl
 ·obtain⟨x,d,rfl,den,sh,hp,q⟩:=h;refine⟨_,(YF (YT (JE (YO (Zk K rfl) (by rfl) T.aa YKb (YA (pv 0) (YA (JK (v:=.ty "int") (by rfl) T.jE YK8 rfl) YB))) (JM (YIp (YO (Zk K rfl) (by rfl) T.aa YKb (YA (pv 0) (YA (JK (v:=.ty "bool") (by rfl) T.qO PyProof.Rows.Boot.«bool» rfl) YB)))))))),?_⟩;refine⟨_,U,_,_,_,_,_,U,den.ty,U,YHN d,_,U,?_⟩;refine Jt (g:=!YHM d) (λ_ R hR=>⟨_,U,_,_,_,_,_,U,den.ty,U,YFb d,_,U,hR⟩) ?_;cases d <;> exact q
theorem Jv:YV ["sign","code"] ["sign"] (YJ JR):=⟨U,U,U,by decide +kernel,U,by decide +kernel,by decide +kernel⟩
theorem YA0 {f:Addr}{fd:FuncData} (F:Fun K "stands_in_texts" "stands_in_texts" JR f fd) (T:Txt K mg C):Yz P w K mg base CX0 1 f fd ["sign"] (YFd):=by
 obtain⟨sV,cR⟩:=T.cR;obtain⟨uy,dI⟩:=T.dI;obtain⟨qW,bQ⟩:=T.bQ;refine F.ok Jv (λvs H Q E h=>?_) (λaK A outer s H vs Q E hr h=>?_)
 ·cases h;subst_vars;rfl
 ·obtain⟨c,rfl,q⟩:=h;refine⟨_,(YD (YK (i:=1) Jv.nd rfl (Or.inl rfl) (YO YI1 (by rfl) T.wK PyProof.Rows.Boot.«ord» (YA (pv 0) YB)))
   (YF (YT (JE (YBC YBA YBA (ZF (v:=.int 32) (by rfl) cR ⟨_,U⟩) (pv 1) (ZF (v:=.int 126) (by rfl) dI ⟨_,U⟩)) (JM (JN YB1 (pv 1) (ZF (v:=.int 37) (by rfl) bQ ⟨_,U⟩) (YY _))))))),?_⟩
  refine⟨_,U,_,U,U,?_⟩;refine⟨_,U,_,_,U,U,_,U,?_⟩;have ec:(((⟨#[c]⟩:Str).cps.getD 0 0:Nat):Int)=(c:Int):=rfl;rw[ec];refine XM (λh1=>?_) λh1=>?_
  ·refine⟨_,_,U,U,_,U,?_⟩;refine XM (λh2=>?_) λh2=>?_
   ·refine⟨_,U,U,?_⟩;have e:(!decide (V.int (c:Int)=V.int 37))=J3 c:=by
     simp only[YKt]at h1 h2;unfold J3;have a1:32<=c:=by lia
     have a2:c<=126:=by lia
     rw[YKN a1,YKN a2]
     by_cases h3:c=37
     ·subst h3;rfl
     ·rw[YKO h3,YKO (λz=>h3 (by have:=V.int.inj z;lia))];rfl
    rw[e];exact q
   ·have e:J3 c=false:=by
     simp only[YKt]at h2;unfold J3;rw[YKO (show ¬c<=126 by lia)];simp
    rw[e]at q;exact q
  ·refine⟨_,U,Y5 ?_⟩;have e:J3 c=false:=by
    simp only[YKt]at h1;unfold J3;rw[YKO (show ¬32<=c by lia)];simp
   rw[e]at q;exact q
theorem first39 (z:Str):decide (V.str ⟨#[z.cps.getD 0 0]⟩=V.str "'")=decide (z.cps.getD 0 0=39):=by
 by_cases h:z.cps.getD 0 0=39
 ·rw[h];decide +kernel
 ·rw[YKO h,YKO];intro e;apply h;have e6:(({ cps:=#[z.cps.getD 0 0] }:Str)).cps.getD 0 0=(("'":Str)).cps.getD 0 0:=YLR (λs:Str=>s.cps.getD 0 0) (V.str.inj e);exact(show z.cps.getD 0 0=(({ cps:=#[z.cps.getD 0 0] }:Str)).cps.getD 0 0 from rfl).trans (e6.trans (by decide +kernel))
theorem YGs:YV ["thing"] ["thing"] (YJ YBp):=⟨U,U,U,by decide +kernel,U,by decide +kernel,by decide +kernel⟩
theorem YGt {f:Addr}{fd:FuncData} (F:Fun K "is_sign" "is_sign" YBp f fd) (T:Txt K mg C) (bx:Yu P w K mg CX0 1 "stands_in_texts" ["sign"] (YFd)):Yz P w K mg base CX0 2 f fd ["thing"] (Xu YBI):=by
 obtain⟨nR,mU,gM,gO,gP,gQ⟩:=bx.ok;refine F.ok YGs (λvs H Q E h=>?_) (λaK A outer s H vs Q E hr h=>?_)
 ·cases h;subst_vars;rfl
 ·obtain⟨x,d,rfl,den,sh,hp,q⟩:=h;refine⟨_,(YF (YT (JE (YO (Zk K rfl) (by rfl) T.aa YKb (YA (pv 0) (YA (JK (v:=.ty "str") (by rfl) T.ux PyProof.Rows.Boot.«str» rfl) YB))) (JE (JN Xr (YO Xa (by rfl) T.aG YKP (YA (pv 0) YB)) YE (YY _)) (JE (JN Xr (YU Z2 (pv 0) YE (λ_ _=>rfl)) Yj (YY _)) (JM (YM (gM base) (hr.mono (by decide)) (by rfl) gO gP gQ .nil Ye (YA (YU Z2 (pv 0) YE (λ_ _=>rfl)) YB)))))))),?_⟩;refine⟨_,U,_,_,_,_,_,U,den.ty,U,YHO d,_,U,?_⟩;cases d with
  |str z=>
   have ex:=den.to_str;subst ex;have hz:=YCl sh;have ev:YBI (.str z)=(z.cps.size == 2 && z.cps[0]? == some 39 && J3 (z.cps.getD 1 0)):=rfl;refine Z6 ?_;refine⟨_,U,z,U,hz,U,_,U,?_⟩;refine Jt (g:=decide (z.cps.getD 0 0=39) && J3 (z.cps.getD 1 0)) (λh2 R hR=>?_) ?_
   ·have hs:z.cps.size=2:=by
     have e:=V.int.inj (YKh h2);rw[XR]at e
     lia
    have g0:z.cps.toList[0]?=some (z.cps.getD 0 0):=by
     rw[YK6];simp[hs]
    have g1:z.cps.toList[1]?=some (z.cps.getD 1 0):=by
     rw[YK6];simp[hs]
    refine⟨_,U,z,0,_,U,U,hz,Yv (j:=0) g0,U,_,U,?_⟩;rw[first39];exact Jt (g:=J3 (z.cps.getD 1 0)) (λ_ R hR=>⟨_,U,z,1,_,U,U,hz,Yv (j:=1) g1,_,U,hR⟩) hR
   ·have e2:(decide (V.int (z.length:Int)=V.int 2) && (decide (z.cps.getD 0 0=39) && J3 (z.cps.getD 1 0)))=YBI (.str z):=by
     rw[ev,XR,Bool.and_assoc]
     by_cases h2:z.cps.size=2
     ·have g0:z.cps[0]?=some (z.cps.getD 0 0):=by simp[h2]
      have e4:(some (z.cps.getD 0 0) == some 39)=decide (z.cps.getD 0 0=39):=by
       rw[YLF];simp
      rw[g0,e4];congr 1;rw[h2];decide
     ·rw[YKO (λe=>h2 (by have:=V.int.inj e;lia)),beq_eq_false_iff_ne.mpr h2];rfl
    rw[e2];exact q
  |_=>exact Y5 q
theorem YGu:YV ["thing"] ["thing"] (YJ YBq):=⟨U,U,U,by decide +kernel,U,by decide +kernel,by decide +kernel⟩
theorem YGv {f:Addr}{fd:FuncData} (F:Fun K "is_name" "is_name" YBq f fd) (T:Txt K mg C):Yz P w K mg base CX0 1 f fd ["thing"] (Xu isNameD):=by
 obtain⟨qX,bR⟩:=T.bR;refine F.ok YGu (λvs H Q E h=>?_) (λaK A outer s H vs Q E hr h=>?_)
 ·cases h;subst_vars;rfl
 ·obtain⟨x,d,rfl,den,sh,hp,q⟩:=h;refine⟨_,(YD (Yt (JL (Z1 (YO (Zk K rfl) (by rfl) T.aa YKb (YA (pv 0) (YA (JK (v:=.ty "str") (by rfl) T.ux PyProof.Rows.Boot.«str» rfl) YB))))) (YF (YT Zr)) YZ)
   (YF (YT (JE (YBC YBA YBA YE (YO Xa (by rfl) T.aG YKP (YA (pv 0) YB)) (ZF (v:=.int 8) (by rfl) bR ⟨_,U⟩)) (JM (YEl (YO (YBg K rfl rfl) (by rfl) T.qP YLr (YA (YAM (N:=["letter"]) (ρ:=[none]) (cl:=[]) rfl (Yr.plain rfl (by decide +kernel) (by decide +kernel) rfl (by simp)) (pi_str (pv 0)) (λ_ _ _ _ _=>(Yb (i:=0) YDb rfl (Or.inl rfl) (.inr rfl))) (λ_ _ _ _ _=>J5) (λ_ _ _ _ _=>(YBC YD3 YD3 Yj (pv 0) Yj))) YB)))))))),?_⟩
  refine⟨_,U,_,_,_,_,_,U,den.ty,U,YHO d,_,U,?_⟩;cases d with
  |str z=>
   have ex:=den.to_str;subst ex;have hz:=YCl sh;have ev:isNameD (.str z)=(decide (1<=z.cps.size) && decide (z.cps.size<=8) && z.cps.toList.all ZT):=rfl;refine Y5 ?_;refine⟨_,U,z,U,hz,_,_,U,U,_,U,?_⟩;refine XM (λh1=>?_) λh1=>?_
   ·refine⟨_,_,U,U,_,U,?_⟩;have h1':1<=z.cps.size:=by have:=YKh h1;rw[XR]at this;lia
    refine XM (λh2=>?_) λh2=>?_
    ·have h2':z.cps.size<=8:=by have:=YKh h2;rw[XR]at this;lia
     refine⟨hp,_,U,z,U,λl hl=>?_⟩;refine YJG (τ:=YDR [none] _) (λc=>.bl (ZT c)) hl YLL hz (λτ' c H' R hτ _ hR=>?_) ?_
     ·refine⟨_,hτ,_,_,U,U,_,U,?_⟩;rw[le_A];refine XM (λh3=>?_) λh3=>?_
      ·refine⟨_,_,U,U,?_⟩;rw[le_Z];have e5:ZT c=decide (c<=90):=by unfold ZT;rw[h3];rfl
       rw[e5]at hR;exact hR
      ·have e5:ZT c=false:=by
        unfold ZT;cases hh:decide (65<=c) with
        |false=>rfl
        |true=>exact absurd hh h3
       rw[e5]at hR;exact hR
     ·refine⟨l,z.cps.toList.map ZT,U,.inl (.inl ?_),λb o eb=>?_,?_⟩
      ·rw[YC,map_bl]
      ·rw[YN (Yh eb hl)];exact eb
      ·rw[YAs];rw[ev,YKN h1',YKN h2']at q
       simpa using q
    ·have h2':¬z.cps.size<=8:=λz'=>h2 (YKN (by rw[XR];lia))
     rw[ev,YKO h2']at q
     simpa using q
   ·have h1':¬1<=z.cps.size:=λz'=>h1 (YKN (by rw[XR];lia))
    refine⟨_,U,Y5 ?_⟩;rw[ev,YKO h1']at q
    simpa using q
  |_=>exact Z6 q
theorem YGw:YV ["thing"] ["thing"] (YJ YBr):=⟨U,U,U,by decide +kernel,U,by decide +kernel,by decide +kernel⟩
theorem YGx {f:Addr}{fd:FuncData} (F:Fun K "is_part" "is_part" YBr f fd) (T:Txt K mg C) (ik:Yu P w K mg CX0 2 "is_sign" ["thing"] (Xu YBI)) (bO:Yu P w K mg CX0 1 "is_name" ["thing"] (Xu isNameD)):Yz P w K mg base CX0 3 f fd ["thing"] (Xu Jj):=by
 obtain⟨wg,u_,pG,pH,pI,pJ⟩:=ik.ok;obtain⟨pK,mV,il,ir,iu,iw⟩:=bO.ok;refine F.ok YGw (λvs H Q E h=>?_) (λaK A outer s H vs Q E hr h=>?_)
 ·cases h;subst_vars;rfl
 ·obtain⟨x,d,rfl,den,sh,hp,q⟩:=h;refine⟨_,(YF (YT (pe_or (YM (pG base) (hr.mono (by decide)) (by rfl) pH pI pJ .nil Ye (YA (pv 0) YB)) (JM (YM (il base) (hr.mono (by decide)) (by rfl) ir iu iw .nil Ye (YA (pv 0) YB)))))),?_⟩;refine⟨_,U,x,d,U,den,sh,hp,_,U,?_⟩;exact or_read (g:=isNameD d) (λ_ R hR=>⟨_,U,x,d,U,den,sh,hp,hR⟩) q
theorem YFw:YV ["thing"] ["thing"] (YJ YAz):=⟨U,U,U,by decide +kernel,U,by decide +kernel,by decide +kernel⟩
theorem YFx {f:Addr}{fd:FuncData} (F:Fun K "is_worth" "is_worth" YAz f fd) (T:Txt K mg C) (bI:Yu P w K mg CX0 1 "is_whole" ["thing"] (Xu YBJ)):Yz P w K mg base CX0 2 f fd ["thing"] (Xu Jr):=by
 obtain⟨mW,lK,gm,gn,gq,gr⟩:=bI.ok;refine F.ok YFw (λvs H Q E h=>?_) (λaK A outer s H vs Q E hr h=>?_)
 ·cases h;subst_vars;rfl
 ·obtain⟨x,d,rfl,den,sh,hp,q⟩:=h;refine⟨_,(YF (YT (JE (YM (gm base) (hr.mono (by decide)) (by rfl) gn gq gr .nil Ye (YA (pv 0) YB)) (JM (YBC YBA YBA YE (pv 0) (YQ YGN YE YE)))))),?_⟩;refine⟨_,U,x,d,U,den,sh,hp,_,U,?_⟩;cases d with
  |int i=>
   have ex:=den.to_int;subst ex;have ev:Jr (.int i)=(decide (0<=i) && decide (i<=10 ^ 60)):=rfl;refine Z6 ?_;refine⟨_,U,_,_,U,U,_,U,?_⟩;refine XM (λh1=>?_) λh1=>?_
   ·refine⟨_,_,U,U,⟨by decide,by decide,by decide⟩,_,_,U,U,?_⟩;rw[ev,h1]at q;exact q
   ·have h1':decide (0<=i)=false:=by
     cases hh:decide (0<=i) with
     |false=>rfl
     |true=>exact absurd hh h1
    rw[ev,h1']at q;exact q
  |_=>exact Y5 q
theorem YE6:YV ["thing"] ["thing"] (YJ X7):=⟨U,U,U,by decide +kernel,U,by decide +kernel,by decide +kernel⟩
theorem YE7 {f:Addr}{fd:FuncData} (F:Fun K "are_parts" "are_parts" X7 f fd) (T:Txt K mg C) (iy:Yu P w K mg CX0 3 "is_part" ["thing"] (Xu Jj)):Yz P w K mg base CX0 4 f fd ["thing"] (Xu Jn):=by
 obtain⟨wj,vd,pL,pM,pN,pO⟩:=iy.ok;obtain⟨sW,cT⟩:=T.cT;refine F.ok YE6 (λvs H Q E h=>?_) (λaK A outer s H vs Q E hr h=>?_)
 ·cases h;subst_vars;rfl
 ·obtain⟨x,d,rfl,den,sh,hp,q⟩:=h;refine⟨_,(YD (Yt (JL (Z1 (YO (Zk K rfl) (by rfl) T.aa YKb (YA (pv 0) (YA (JK (v:=.ty "tuple") (by rfl) T.jJ YLk rfl) YB))))) (YF (YT Zr)) YZ)
   (YF (YT (JE (JN YBA (YO (YR K rfl) (by rfl) T.aG YKP (YA (pv 0) YB)) (ZF (v:=.int 6) (by rfl) cT ⟨_,U⟩) (YY _)) (JM (YEl (YO (YBg K rfl rfl) (by rfl) T.qP YLr (YA (YAM (N:=["part"]) (ρ:=[none]) (cl:=[]) rfl (Yr.plain rfl (by decide +kernel) (by decide +kernel) rfl (by simp)) (YCK K rfl (pv 0)) (λ_ _ _ _ _=>(Yb (i:=0) YFt rfl (Or.inl rfl) (.inr rfl))) (λ_ _ _ _ _=>J5) (λ_ _ _ _ _=>(YM (pL base) (hr.mono (by decide)) (by rfl) pM pN pO .nil Ye (YA (pv 0) YB)))) YB)))))))),?_⟩
  refine⟨_,U,_,_,_,_,_,U,den.ty,U,YD8 d,_,U,?_⟩;cases d with
  |tup ds=>
   obtain⟨a,xs,rfl,ha,aF⟩:=den.to_tup;have hl:xs.length=ds.length:=aF.len;refine Y5 ?_;refine⟨_,U,a,xs,U,.inr (SqT.of ha),_,_,U,U,_,U,?_⟩;have shS:Js ds=true:=by unfold D.short at sh;exact sh
   have e1:decide ((xs.length:Int)<=6)=decide (ds.length<=6):=by rw[hl];congr 1;exact propext ⟨λh=>by lia,λh=>by lia⟩
   rw[e1];refine Jt (g:=ds.all Jj) (λh1 R hR=>?_) q;have h1':ds.length<=6:=YKh h1;refine⟨hp,_,U,a,U,⟨xs,SqT.of ha⟩,λl zq=>?_⟩;refine JG (n:=xs.length) 0 (λk y _=>∃d,ds[k]?=some d/\y=.bl (Jj d)) (YD6 (SqT.of ha)) (λ_ _ _ _ _ h=>h) hp zq YLL (YG (by lia)) (λτ'=>0 < τ'.length) YLL (λτ' v h=>by rw[YLZ];exact h) ?_ ?_
   ·intro τ' k y H' R _ hτ hit hk hs hp' mX hR;obtain⟨d,hd,dn⟩:=aF.get hit;exact⟨_,hτ,y,d,U,dn.same hs,JW shS (YKL hd),hp',hR _ _ (YH.refl _) hp' ⟨d,hd,U⟩⟩
   ·intro ys H' hy hP hs hp' hl';have e2:ys=(ds.map Jj).map V.bl:=YJS (by rw[hy,hl]) hP;refine⟨l,ds.map Jj,U,.inl (.inl (by rw[hl',e2])),hs,?_⟩;rw[YAs];exact hR
  |_=>exact Z6 q
theorem YGy:YV ["thing"] ["thing"] (YJ YBs):=⟨U,U,U,by decide +kernel,U,by decide +kernel,by decide +kernel⟩
theorem YGz {f:Addr}{fd:FuncData} (F:Fun K "is_rule" "is_rule" YBs f fd) (T:Txt K mg C) (bO:Yu P w K mg CX0 1 "is_name" ["thing"] (Xu isNameD)) (dN:Yu P w K mg CX0 4 "are_parts" ["thing"] (Xu Jn)) (gw:Yu P w K mg CX0 2 "is_worth" ["thing"] (Xu Jr)):Yz P w K mg base CX0 5 f fd ["thing"] (Xu Zx):=by
 obtain⟨pK,mV,il,ir,iu,iw⟩:=bO.ok;obtain⟨uz,sX,lL,lM,lO,lQ⟩:=dN.ok;obtain⟨vf,uA,mY,mZ,m7,m8⟩:=gw.ok;refine F.ok YGy (λvs H Q E h=>?_) (λaK A outer s H vs Q E hr h=>?_)
 ·cases h;subst_vars;rfl
 ·obtain⟨x,d,rfl,den,sh,hp,q⟩:=h;refine⟨_,(YD (Yt (PW.pt (Xq (JL (Z1 (YO (Zk K rfl) (by rfl) T.aa YKb (YA (pv 0) (YA (JK (v:=.ty "tuple") (by rfl) T.jJ YLk rfl) YB))))) (XC (YW YB1 (YO (YR K rfl) (by rfl) T.aG YKP (YA (pv 0) YB)) YE (YY _))))) (YF (YT Zr)) YZ)
   (YF (YT (JE (YM (il base) (hr.mono (by decide)) (by rfl) ir iu iw .nil Ye (YA (YU (Ya K rfl) (pv 0) YE (λ_ _=>rfl)) YB)) (JE (YM (lL base) (hr.mono (by decide)) (by rfl) lM lO lQ .nil Ye (YA (YU (Ya K rfl) (pv 0) YE (λ_ _=>rfl)) YB)) (JM (YM (mY base) (hr.mono (by decide)) (by rfl) mZ m7 m8 .nil Ye (YA (YU (Ya K rfl) (pv 0) YE (λ_ _=>rfl)) YB)))))))),?_⟩
  refine⟨_,U,_,_,_,_,_,U,den.ty,U,YD8 d,_,U,?_⟩;cases d with
  |tup ds=>
   obtain⟨a,xs,rfl,ha,aF⟩:=den.to_tup;have hl:xs.length=ds.length:=aF.len;refine Y5 ?_;refine⟨_,U,a,xs,U,.inr (SqT.of ha),U,_,U,?_⟩;have shS:Js ds=true:=by unfold D.short at sh;exact sh
   by_cases h3:ds.length=3
   ·match ds,h3,xs,hl,aF,ha,q,shS with
    |[d0,d1,d2],_,[x0,x1,x2],_,aF,ha,q,shS=>
     have n0:=(aF.get (i:=0) (v:=x0) rfl);have n1:=(aF.get (i:=1) (v:=x1) rfl);have n2:=(aF.get (i:=2) (v:=x2) rfl);obtain⟨_,e0,n0⟩:=n0;obtain⟨_,e1,n1⟩:=n1;obtain⟨_,e2,n2⟩:=n2;cases e0;cases e1;cases e2;have sq:SqT K H a [x0,x1,x2]:=SqT.of ha;refine Y5 ?_;refine⟨_,U,a,_,0,x0,U,U,sq,U,x0,d0,U,n0,JW shS (by simp),hp,_,U,?_⟩;refine Jt (g:=Jn d1 && Jr d2) (λ_ R hR=>?_) q;refine⟨_,U,a,_,1,x1,U,U,sq,U,x1,d1,U,n1,JW shS (by simp),hp,_,U,?_⟩;exact Jt (g:=Jr d2) (λ_ R hR=>⟨_,U,a,_,2,x2,U,U,sq,U,x2,d2,U,n2,JW shS (by simp),hp,hR⟩) hR
   ·have e1:(!decide (V.int (xs.length:Int)=V.int 3))=true:=by
     rw[YKO]
     ·rfl
     ·intro e;have:=V.int.inj e
      lia
    rw[e1];refine Z6 ?_;have e2:Zx (.tup ds)=false:=by
     match ds,h3 with
     |[],_=>rfl
     |[_],_=>rfl
     |[_,_],_=>rfl
     |[_,_,_],h=>exact absurd rfl h
     |_ :: _ :: _ :: _ :: _,_=>rfl
    rw[e2]at q;exact q
  |_=>exact Z6 q
end
theorem YFy:(["rule"]:List Str).Nodup:=by decide +kernel
section
variable {P:Program}{w:World}{K:W.Frag}{mg:Str->Option Value}{base:Heap}{C:Adr}
theorem YDc:YV ["thing"] ["thing"] (YJ Xf):=⟨U,U,U,by decide +kernel,U,by decide +kernel,by decide +kernel⟩
theorem YDd {f:Addr}{fd:FuncData} (F:Fun K "is_grammar" "is_grammar" Xf f fd) (T:Txt K mg C) (iz:Yu P w K mg CX0 5 "is_rule" ["thing"] (Xu Zx)):Yz P w K mg base CX0 6 f fd ["thing"] (Xu JB):=by
 obtain⟨wk,vg,pP,pQ,pR,pU⟩:=iz.ok;obtain⟨sY,cU⟩:=T.cU;refine F.ok YDc (λvs H Q E h=>?_) (λaK A outer s H vs Q E hr h=>?_)
 ·cases h;subst_vars;rfl
 ·obtain⟨x,d,rfl,den,sh,hp,q⟩:=h;refine⟨_,(YD (Yt (JL (Z1 (YO (Zk K rfl) (by rfl) T.aa YKb (YA (pv 0) (YA (JK (v:=.ty "list") (by rfl) T.cQ YKy rfl) YB))))) (YF (YT Zr)) YZ)
   (YF (YT (JE (JN YBA (YO (YR K rfl) (by rfl) T.aG YKP (YA (pv 0) YB)) (ZF (v:=.int 60) (by rfl) cU ⟨_,U⟩) (YY _)) (JM (YEl (YO (YBg K rfl rfl) (by rfl) T.qP YLr (YA (YAM (N:=["rule"]) (ρ:=[none]) (cl:=[]) rfl (Yr.plain rfl (by decide +kernel) (by decide +kernel) rfl (by simp)) (Je K rfl (pv 0)) (λ_ _ _ _ _=>(Yb (i:=0) YFy rfl (Or.inl rfl) (.inr rfl))) (λ_ _ _ _ _=>J5) (λ_ _ _ _ _=>(YM (pP base) (hr.mono (by decide)) (by rfl) pQ pR pU .nil Ye (YA (pv 0) YB)))) YB)))))))),?_⟩
  refine⟨_,U,_,_,_,_,_,U,den.ty,U,YFc d,_,U,?_⟩;cases d with
  |lst ds=>
   obtain⟨a,xs,rfl,ha,aF⟩:=den.to_lst;have hl:xs.length=ds.length:=aF.len;have sq:SqL K H a xs:=.inl ha;refine Y5 ?_;refine⟨_,U,a,xs,U,.inl sq,_,_,U,U,_,U,?_⟩;have shS:Js ds=true:=by unfold D.short at sh;exact sh
   have e1:decide ((xs.length:Int)<=60)=decide (ds.length<=60):=by rw[hl];congr 1;exact propext ⟨λh=>by omega,λh=>by omega⟩
   rw[e1];refine Jt (g:=ds.all Zx) (λh1 R hR=>?_) q;have h1':ds.length<=60:=YKh h1;refine⟨hp,_,U,a,U,⟨xs,sq⟩,λl zq=>?_⟩;refine JG (n:=xs.length) 0 (λk y _=>∃d,ds[k]?=some d/\y=.bl (Zx d)) (YAo sq) (λ_ _ _ _ _ h=>h) hp zq YLL (YG (by omega)) (λτ'=>0 < τ'.length) YLL (λτ' v h=>by rw[YLZ];exact h) ?_ ?_
   ·intro τ' k y H' R _ hτ hit hk hs hp' mX hR;obtain⟨d,hd,dn⟩:=aF.get hit;exact⟨_,hτ,y,d,U,dn.same hs,JW shS (YKL hd),hp',hR _ _ (YH.refl _) hp' ⟨d,hd,U⟩⟩
   ·intro ys H' hy hP hs hp' hl';have e2:ys=(ds.map Zx).map V.bl:=YJS (by rw[hy,hl]) hP;refine⟨l,ds.map Zx,U,.inl (.inl (by rw[hl',e2])),hs,?_⟩;rw[YAs];exact hR
  |_=>exact Z6 q
theorem YG0:YV ["thing"] ["thing"] (YJ YBt):=⟨U,U,U,by decide +kernel,U,by decide +kernel,by decide +kernel⟩
theorem YG1 {f:Addr}{fd:FuncData} (F:Fun K "checked" "checked" YBt f fd) (T:Txt K mg C) (cV:Yu P w K mg CX0 6 "is_grammar" ["thing"] (Xu JB)):Yz P w K mg base (CXo P w) 7 f fd ["thing"] (YAQ C.NoGrammar):=by
 obtain⟨sZ,rY,jQ,jR,jT,jU⟩:=cV.ok;refine F.okX YG0 (λvs H Q E h=>?_) (λaK A outer s H vs Q E hr h=>?_)
 ·cases h;subst_vars;rfl
 ·obtain⟨x,d,rfl,den,sh,hp,q1,q2⟩:=h;refine⟨_,(YD (Yt (JL (Z1 (YM (jQ base) (hr.mono (by decide)) (by rfl) jR jT jU .nil Ye (YA (pv 0) YB)))) (YF (YCd XO T.lH rfl (by rfl) T.dJ (YA Yj YB))) YZ)
   (YF (YT (Zv (YAg K rfl) (by rfl) T.cQ YKy (YA (pv 0) YB))))),?_⟩
  refine⟨_,U,x,d,U,den,sh,hp,_,U,?_⟩;refine XM (λhi=>?_) λhi=>?_
  ·exact⟨YG (by decide),q2 (YGd hi)⟩
  ·have e:=YIM hi;obtain⟨g,rfl,hg⟩:=YCM e;obtain⟨a,xs,rfl,ha,aF⟩:=YJT den;exact⟨_,U,a,xs,U,.inl (.inl ha),λl hl=>q1 e l xs _ rfl aF hl⟩
end
abbrev Jw:Stmt:=top 33
abbrev Jx:Stmt:=top 34
abbrev XF:Stmt:=top 35
abbrev YE8:Stmt:=top 36
abbrev X8:Stmt:=top 37
abbrev Xg:Stmt:=top 38
abbrev YC6:Stmt:=top 39
abbrev JZ:Stmt:=top 40
abbrev Jy:Stmt:=top 41
abbrev YA1:Stmt:=top 42
abbrev YA2:Stmt:=top 43
abbrev YA3:Stmt:=top 44
def unsz (kvs:List (Key×V)):Sz:=kvs.filterMap λkv=>match kv.1,kv.2 with
 |Sum.inr z,.int n=>some (z,n)
 |_,_=>none
theorem YC7:∀s:Sz,unsz (szD s)=s
 |[]=>rfl
 |p :: s=>by
  show unsz ((Sum.inr p.1,V.int p.2) :: szD s)=_;unfold unsz;rw[YLf];show p :: unsz (szD s)=_;rw[YC7 s]
def YFz (H:Hp) (d:Addr):List (Key×V):=match H d with
 |some (.dK kvs)=>kvs
 |_=>[]
inductive YF0 (vs:List V) (H:Hp) (Q:VK):Prop where
 |mk (d:_) (s:_) (p:_) (q:_) (aY:vs=[.ref d,.str p,.int q]) (aZ:H d=some (.dK (szD s))) (bN:Q (oV (J6 s q p)) H):YF0 vs H Q
def YHh:Sp:=λvs H Q E_=>YF0 vs H Q
inductive YF1 (vs:List V) (H:Hp) (Q:VK):Prop where
 |mk (d:_) (s:_) (t:_) (q:_) (z:_) (p:_) (ps:_) (w:_) (aY:vs=[.ref d,.ref t,.int q]) (aZ:H d=some (.dK (szD s))) (bN:H t=some (.tup [.str z,.ref p,.int w])) (dC:H p=some (.tup (ps.map V.str))) (gk:Q (oV (Yg s q ps)) H):YF1 vs H Q
def YBQ:Sp:=λvs H Q E_=>YF1 vs H Q
inductive YEF (vs:List V) (H:Hp) (Q:VK):Prop where
 |mk (l:_) (xs:_) (g:_) (q:_) (aY:vs=[.ref l,.int q]) (aZ:H l=some (.lst xs)) (bN:YS H xs (g.map Yn)) (dC:Yf g=true) (gk:0<=q) (jG:YI H) (nJ:∀d s H',Yp g q s->Fix g q s->H d=none->H'=upd H d (.dK (szD s))->Q (.ref d) H'):YEF vs H Q
def YBR:Sp:=λvs H Q E_=>YEF vs H Q
inductive YF2 (C:Addr) (vs:List V) (H:Hp) (Q:VK) (E:XK):Prop where
 |mk (x:_) (d:_) (aY:vs=[x]) (aZ:Den H x d) (bN:d.short=true) (dC:YI H) (gk:(∀g,d=ZZ g->Yf g=true->∀l s H',Yp g 0 s->Fix g 0 s->YH H H'->YI H'->H l=none->H' l=some (.dK (szD s))->Q (.ref l) H')) (jG:(JB d=false->∀H',YH H H'->YI H'->E (.ref C) none H')):YF2 C vs H Q E
def YHi (C:Addr):Sp:=λvs H Q E=>YF2 C vs H Q E
theorem oV_get (o:Option Int):(o.map V.int).getD .non=oV o:=by cases o <;> rfl
section
variable {P:Program}{w:World}{K:W.Frag}{mg:Str->Option Value}{base:Heap}{C:Adr}
theorem YCC:YV ["sizes","part","sign_size"] ["sizes","part","sign_size"] (YJ Jw):=⟨U,U,U,by decide +kernel,U,by decide +kernel,by decide +kernel⟩
theorem YCD {f:Addr}{fd:FuncData} (F:Fun K "size_of_part" "size_of_part" Jw f fd) (T:Txt K mg C):Yz P w K mg base CX0 1 f fd ["sizes","part","sign_size"] (YHh):=by
 refine F.ok YCC (λvs H Q E h=>?_) (λaK A outer s H vs Q E hr h=>?_)
 ·cases h;subst_vars;rfl
 ·obtain⟨d,s,p,q,rfl,hd,k⟩:=h;have hu:=Jh hr;refine⟨_,(YF (YT (YIq (Z1 (ZS K rfl PySem.F.plainAttrs_str YLj YLi JQ (pv 1) (YA Yj YB))) (pv 2) (YI9 hu (pv 0) (pv 1) ⟨U,U,U,U⟩)))),?_⟩;refine⟨_,U,U,_,_,U,U,_,U,?_⟩;unfold J6 isQ at k;refine XM (λh1=>?_) λh1=>?_
  ·rw[if_pos h1]at k;exact⟨_,U,k⟩
  ·rw[if_neg h1]at k;refine⟨_,U,d,U,.inl ⟨_,.inl hd⟩,_,U,_,Z5.k (k:=Sum.inr p) hd,?_⟩;rw[ZY,oV_get];exact k
theorem Zi:YV ["sizes","rule","sign_size","size","part","more"] ["sizes","rule","sign_size"] (YJ Jx):=⟨U,U,U,by decide +kernel,U,by decide +kernel,by decide +kernel⟩
theorem YCE {f:Addr}{fd:FuncData} (F:Fun K "size_of_rule" "size_of_rule" Jx f fd) (T:Txt K mg C) (bU:Yu P w K mg CX0 1 "size_of_part" ["sizes","part","sign_size"] (YHh)):Yz P w K mg base CX0 2 f fd ["sizes","rule","sign_size"] (YBQ):=by
 obtain⟨qY,qw,iT,iU,iV,iW⟩:=bU.ok;refine F.ok Zi (λvs H Q E h=>?_) (λaK A outer s H vs Q E hr h=>?_)
 ·cases h;subst_vars;rfl
 ·obtain⟨d,s,t,q,z,p,ps,w,rfl,hd,ht,hp,k⟩:=h;refine⟨_,(YD (YK (i:=3) Zi.nd rfl (Or.inl rfl) YE)
   (YD (ZH PassesOwn.never rfl (YCK K rfl (YU (Ya K rfl) (pv 1) YE (λ_ _=>rfl))) (Yb (i:=4) Zi.nd rfl (Or.inl rfl)) (YD (YK (i:=5) Zi.nd rfl (Or.inl rfl) (YM (iT base) (hr.mono (by decide)) (by rfl) iU iV iW .nil Ye (YA (pv 0) (YA (pv 4) (YA (pv 2) YB)))))
   (YD (Yt (YW YGP (pv 5) Z0 (YY _)) (YF (YT Z0)) YZ)
   (YF (ps_aug (i:=3) Zi.nd rfl (Or.inl rfl) (pv 5) ip_add)))))
   (YF (YT (pv 3))))),?_⟩
  refine⟨_,U,t,_,1,_,U,U,SqT.of ht,U,p,U,⟨_,SqT.of hp⟩,for_tup (K:=K) (a:=p) (xs:=ps.map V.str) (λi σ H2=>H2=H/\∃(acc:Int) (v v':Option V),σ=[some (.ref d),some (.ref t),some (.int q),some (.int acc),v,v']/\ZA s q ps 1=ZA s q (ps.drop i) acc) ⟨U,1,none,none,U,U⟩ ?_ ?_ ?_⟩
  ·rintro i σ H2 _ ⟨rfl,_⟩;exact SqT.of hp
  ·rintro i y σ H2 hi ⟨rfl,acc,v,v',rfl,hz⟩;rw[YKk]at hi;cases e:ps[i]? with
   |none=>rw[e]at hi;cases hi
   |some x=>
    rw[e]at hi;cases hi;have ed:ps.drop i=x :: ps.drop (i + 1):=by
     obtain⟨hlt,hx⟩:=YKR.mp e;rw[YLJ hlt,hx]
    rw[ed]at hz;have zr:ZA s q ps 1=match J6 s q x with |none=>none |some m=>ZA s q (ps.drop (i + 1)) (acc + m):=hz
    refine⟨_,U,_,U,_,U,d,s,x,q,U,hd,?_⟩;refine⟨_,U,U,_,U,?_⟩;cases e2:J6 s q x with
    |none=>
     rw[e2]at zr;have:Yg s q ps=none:=zr;rw[this]at k;exact Z6 k
    |some m=>
     rw[e2]at zr;exact Y5 ⟨_,U,_,U,_,_,U,U,U,_,_,_,U,zr⟩
  ·rintro σ H2 ⟨rfl,acc,v,v',rfl,hz⟩;rw[YKF,List.drop_length]at hz;have:Yg s q ps=some acc:=hz;rw[this]at k;exact⟨_,U,k⟩
theorem ZE:YV ["rules","sign_size","sizes","shrinking","rule","size"] ["rules","sign_size"] (YJ XF):=⟨U,U,U,by decide +kernel,U,by decide +kernel,by decide +kernel⟩
theorem YC8 {f:Addr}{fd:FuncData} (F:Fun K "least_sizes" "least_sizes" XF f fd) (T:Txt K mg C) (aj:Yu P w K mg CX0 2 "size_of_rule" ["sizes","rule","sign_size"] (YBQ)):Yz P w K mg base CX0 3 f fd ["rules","sign_size"] (YBR):=by
 obtain⟨bV,bM,aA,aB,aC,aD⟩:=aj.ok;refine F.ok ZE (λvs H Q E h=>?_) (λaK A outer s H vs Q E hr h=>?_)
 ·cases h;subst_vars;rfl
 ·obtain⟨l,xs,g,q,rfl,hl,aF,hg,hq,hp,k⟩:=h;have hu:=Jh hr;have gK:=Jk hg;have eZ:xs.length=g.length:=by rw[aF.len,YKF]
  refine⟨_,(YD (YK (i:=2) ZE.nd rfl (Or.inl rfl) Xz)
   (YD (YK (i:=3) ZE.nd rfl (Or.inl rfl) Zr)
   (YD (XJ PassesOwn.never (Z1 (pv 3)) (YD (YK (i:=3) ZE.nd rfl (Or.inl rfl) Zr)
   (YF (ZH PassesOwn.never rfl (Je K rfl (pv 0)) (Yb (i:=4) ZE.nd rfl (Or.inl rfl)) (YD (YK (i:=5) ZE.nd rfl (Or.inl rfl) (YM (aA base) (hr.mono (by decide)) (by rfl) aB aC aD .nil Ye (YA (pv 2) (YA (pv 4) (YA (pv 1) YB)))))
   (YF (Yt (PW.pt (XD (YW YBB (pv 5) Z0 (YY _)) (Ji (PW.pt (Xq (XW (JI hu (YU (Ya K rfl) (pv 4) YE (λ_ _=>rfl)) (pv 2))) (XC (YW YCT (pv 5) (Zw hu (pv 2) (YU (Ya K rfl) (pv 4) YE (λ_ _=>rfl)) (λ_ _=>rfl)) (YY _)))))))) (YD (YAL hu (pv 2) (YU (Ya K rfl) (pv 4) YE (λ_ _=>rfl)) (pv 5) rfl)
   (YF (YK (i:=3) ZE.nd rfl (Or.inl rfl) Zr))) YZ)))))))
   (YF (YT (pv 2)))))),?_⟩
  intro d hd;have ndl:d≠l:=λz=>by rw[z,hl]at hd;cases hd
  refine YIw (λσ H2=>∃(s:Sz) (b:Bool) (v4 v5:Option V),H2=upd H d (.dK (szD s))/\Yp g q s/\(b=false->Fix g q s)/\σ=[some (.ref l),some (.int q),some (.ref d),some (.bl b),v4,v5])
   (λσ H2=>2 * mu g q (unsz (YFz H2 d)) + (if σ[3]?=some (some (.bl true)) then 1 else 0)) ⟨[],true,none,none,U,Yp.nil g q,nofun,U⟩ ?_ ?_
  ·rintro σ H2 ⟨s,b,v4,v5,rfl,hok,qZ,rfl⟩;refine⟨_,U,b,U,?_⟩;cases b with
   |false=>
    refine Y5 ?_;exact⟨_,U,k d s _ hok (qZ rfl) hd rfl⟩
   |true=>
    refine Z6 ?_;have hl2:∀{o:HO},upd H d o l=some (.lst xs):=λ{o}=>by rw[YN ndl.symm];exact hl
    have ekv:∀s,YFz (upd H d (.dK (szD s))) d=szD s:=λs=>by unfold YFz;rw[YC]
    refine⟨_,U,l,U,⟨_,SqL.of hl2⟩,Xv (K:=K) (a:=l) (xs:=xs) (λi σ H2=>∃(s':Sz) (b:Bool) (v4 v5:Option V),H2=upd H d (.dK (szD s'))/\Yp g q s'/\(b=false->s'=s/\∀r∈g.take i,∀m,Yg s q r.2.1=some m->∃v,look s r.1=some v/\v<=m)/\(b=true->mu g q s' < mu g q s)/\σ=[some (.ref l),some (.int q),some (.ref d),some (.bl b),v4,v5])
     ⟨s,false,v4,v5,U,hok,(λ_=>⟨U,λr hr=>by cases hr⟩),nofun,U⟩ ?_ ?_ ?_⟩
    ·rintro i σ H2 _ ⟨s',b,v4,v5,rfl,_⟩;exact SqL.of hl2
    ·rintro i y σ H2 hi ⟨s',b,v4,v5,rfl,hok',qz,hb1,rfl⟩;obtain⟨r,t,p,er,rfl,ht,gJ⟩:=ZM aF hi;have nt:t≠d:=λz=>by rw[z,hd]at ht;cases ht
     have np:p≠d:=λz=>by rw[z,hd]at gJ;cases gJ
     have hrm:r∈g:=YKL er;have yF:∀{o:HO},upd H d o t=some (.tup [.str r.1,.ref p,.int r.2.2]):=λ{o}=>by rw[YN nt];exact ht
     have sJ:∀{o:HO},upd H d o p=some (.tup (r.2.1.map V.str)):=λ{o}=>by rw[YN np];exact gJ
     have et:g.take (i + 1)=g.take i ++ [r]:=by rw[YLN,er];rfl
     refine⟨_,U,_,U,_,U,d,s',t,q,r.1,p,r.2.1,r.2.2,U,YC,yF,sJ,?_⟩;refine⟨_,U,U,_,U,?_⟩;have stay:∀(o:Option Int),Yg s' q r.2.1=o->(∀m,o=some m->∃v,look s' r.1=some v/\v<=m)->∃(qb:Sz) (b':Bool) (w4 w5:Option V),upd H d (.dK (szD s'))=upd H d (.dK (szD qb))/\Yp g q qb/\(b'=false->qb=s/\∀r∈g.take (i + 1),∀m,Yg s q r.2.1=some m->∃v,look s r.1=some v/\v<=m)/\(b'=true->mu g q qb < mu g q s)/\[some (.ref l),some (.int q),some (.ref d),some (.bl b),some (.ref t),some (oV o)]=[some (.ref l),some (.int q),some (.ref d),some (.bl b'),w4,w5]:=λo ho hv=>by
      refine⟨s',b,_,_,U,hok',λe=>?_,hb1,U⟩;obtain⟨e1,e2⟩:=qz e;refine⟨e1,λx hx m hm=>?_⟩;rw[et]at hx;rcases YKu.mp hx with hx |hx
      ·exact e2 x hx m hm
      ·have ex:=YKf.mp hx;subst ex;subst e1;exact hv m (ho.symm.trans hm)
     cases e2:Yg s' q r.2.1 with
     |none=>
      refine Y5 (Y5 ?_);exact stay none e2 λm e=>nomatch e
     |some m=>
      refine Z6 ?_;refine⟨_,U,t,_,0,_,U,U,SqT.of yF,U,_,U,d,_,U,Z5.k (k:=Sum.inr r.1) YC,_,U,?_⟩;rw[ZY];have change:(∀v,look s' r.1=some v->m < v)->∃(qb:Sz) (b':Bool) (w4 w5:Option V),upd H d (.dK (szD (ZN s' r.1 m)))=upd H d (.dK (szD qb))/\Yp g q qb/\(b'=false->qb=s/\∀r∈g.take (i + 1),∀m,Yg s q r.2.1=some m->∃v,look s r.1=some v/\v<=m)/\(b'=true->mu g q qb < mu g q s)/\[some (.ref l),some (.int q),some (.ref d),some (.bl true),some (.ref t),some (oV (some m))]=[some (.ref l),some (.int q),some (.ref d),some (.bl b'),w4,w5]:=λhlt=>by
       obtain⟨yG,mu2⟩:=hok'.step hg hq hrm e2 hlt;refine⟨ZN s' r.1 m,true,_,_,U,yG,nofun,λ_=>?_,U⟩;cases b with
       |true=>exact Nat.lt_trans mu2 (hb1 rfl)
       |false=>
        obtain⟨e1,_⟩:=qz rfl;subst e1;exact mu2
      have len:(szD s').length < sizeLine:=by
       unfold szD;rw[YKF];exact YKi (show _ < 1000 by have:=hok'.len;omega) (YG (YKH _))
      have put:YAb (upd H d (.dK (szD s'))) d (.str r.1) (.int m) (upd H d (.dK (szD (ZN s' r.1 m)))):=by
       have:=YAb.k (k:=Sum.inr r.1) (v:=.int m) (YC (H:=H) (a:=d) (o:=.dK (szD s'))) len;rw[YCN hok'.nd,YAH]at this;exact this
      cases e3:look s' r.1 with
      |none=>
       refine Z6 (Z6 ?_);refine⟨_,U,_,U,_,U,t,_,0,_,U,U,SqT.of yF,U,d,_,U,put,?_⟩;exact change λv e=>by rw[e3]at e;cases e
      |some v=>
       refine Y5 ?_;refine⟨_,U,_,U,_,U,t,_,0,_,U,U,SqT.of yF,U,d,.int v,U,?_,_,_,U,U,_,U,?_⟩
       ·have:=Z5.k (k:=Sum.inr r.1) (YC (H:=H) (a:=d) (o:=.dK (szD s')));rw[ZY,e3]at this;exact this
       refine XM (λh1=>?_) λh1=>?_
       ·refine⟨_,U,_,U,_,U,t,_,0,_,U,U,SqT.of yF,U,d,_,U,put,?_⟩;exact change λv' e=>by
         rw[e3]at e;cases e;exact YKh h1
       ·have h1':v<=m:=Int.not_lt.mp λz=>h1 (YKN z)
        exact stay (some m) e2 λm' e=>by
         cases e;exact⟨v,e3,h1'⟩
    ·rintro σ H2 ⟨s',b,v4',v5',rfl,hok',qz,hb1,rfl⟩;refine⟨⟨s',b,_,_,U,hok',λe=>?_,U⟩,?_⟩
     ·obtain⟨e1,e2⟩:=qz e;subst e1;intro r hr m hm;exact e2 r (by rw[YLO (by omega)];exact hr) m hm
     ·show 2 * mu g q (unsz (YFz (upd H d (.dK (szD s'))) d)) + _ < 2 * mu g q (unsz (YFz (upd H d (.dK (szD s))) d)) + _;rw[ekv,ekv,YC7,YC7];cases b with
      |true=>
       have:=hb1 rfl;show 2 * mu g q s' + 1 < 2 * mu g q s + 1;omega
      |false=>
       obtain⟨e1,_⟩:=qz rfl;subst e1;show 2 * mu g q s' + 0 < 2 * mu g q s' + 1;omega
  ·rintro σ H2 Q1 Q2 hQ ⟨x,e1,c,e2,h⟩;exact⟨x,e1,c,e2,hQ _ _ h⟩
theorem YJu:YV ["grammar"] ["grammar"] (YJ YE8):=⟨U,U,U,by decide +kernel,U,by decide +kernel,by decide +kernel⟩
theorem YJv {f:Addr}{fd:FuncData} (F:Fun K "least" "least" YE8 f fd) (T:Txt K mg C) (aq:Yu P w K mg CX0 3 "least_sizes" ["rules","sign_size"] (YBR)) (aP:Yu P w K mg (CXo P w) 7 "checked" ["thing"] (YAQ C.NoGrammar)):Yz P w K mg base (CXo P w) 8 f fd ["grammar"] (YHi C.NoGrammar):=by
 obtain⟨gh,dR,a_,bc,bf,bh⟩:=aq.ok;obtain⟨jF,iY,cL,cM,cN,cO⟩:=aP.ok;refine F.okX YJu (λvs H Q E h=>?_) (λaK A outer s H vs Q E hr h=>?_)
 ·cases h;subst_vars;rfl
 ·obtain⟨x,d,rfl,den,sh,hp,q1,q2⟩:=h;refine⟨_,(YF (YT (YM (a_ base) (hr.mono (by decide)) (by rfl) bc bf bh .nil Ye (YA (YM (cL base) (hr.mono (by decide)) (by rfl) cM cN cO .nil XO.on (YA (pv 0) YB)) (YA YE YB))))),?_⟩;refine⟨_,U,x,d,U,den,sh,hp,λe l xs ds ed aF hl=>?_,λe=>q2 e H (YH.refl H) hp⟩;obtain⟨g,rfl,hg⟩:=YCM e;cases ed;have s1:=YH.upd (o:=.lst xs) hl;refine⟨l,xs,g,0,U,YC,aF.same s1,hg,YKz _,hp.upd rfl,λd s H' hok qZ hd e=>?_⟩;subst e;exact q1 g rfl hg d s _ hok qZ (s1.trans (YH.upd hd)) ((hp.upd rfl).upd rfl) (s1.free hd) YC
end
def fsD (fs:List (Nat×Int)):List (Key×V):=fs.map λp=>(Sum.inl (p.1:Int),V.int p.2)
inductive YHj (vs:List V) (H:Hp) (Q:VK):Prop where
 |mk (l d:Addr) (xs:List V) (r0:Yl) (YL:List Yl) (s:Sz) (aY:vs=[.ref l,.ref d]) (aZ:H l=some (.lst xs)) (bN:YS H xs ((r0 :: YL).map Yn)) (dC:Yf (r0 :: YL)=true) (gk:H d=some (.dK (szD s))) (jG:Yp (r0 :: YL) 0 s) (nJ:YI H) (qg:∀t dO dS o bG H',Zy (r0 :: YL) s r0.1 o->Jl (r0 :: YL) s o->YAc H' (r0 :: YL) s r0.1 o bG->YH H H'->YI H'->H' t=some (.tup [.ref dO,.ref dS])->H' dO=some (.dK (szD o))->H' dS=some (.dK bG)->Q (.ref t) H'):YHj vs H Q
def YG2:Sp:=λvs H Q E_=>YHj vs H Q
inductive YEG (vs:List V) (H:Hp) (Q:VK):Prop where
 |mk (l d:Addr) (xs:List V) (g:YX) (s:Sz) (aY:vs=[.ref l,.ref d]) (aZ:H l=some (.lst xs)) (bN:YS H xs (g.map Yn)) (dC:Yf g=true) (gk:H d=some (.dK (szD s))) (jG:Yp g 0 s) (nJ:YI H) (qg:∀dF (fs:List (Nat×Int)) H',(fs.map (·.1)).Pairwise (· < ·)->(∀k,k∈fs.map (·.1)<->XU g s k)->(∀r0 YL,g=r0 :: YL->∃o,Zy g s r0.1 o/\DF g s r0.1 o/\∀p∈fs,∃r m h,g[p.1]?=some r/\Yg s 0 r.2.1=some m/\look o r.1=some h/\p.2=h + m)->YH H H'->YI H'->H dF=none->H' dF=some (.dK (fsD fs))->Q (.ref dF) H'):YEG vs H Q
def YC9:Sp:=λvs H Q E_=>YEG vs H Q
inductive YEH (C:Addr) (vs:List V) (H:Hp) (Q:VK) (E:XK):Prop where
 |mk (x:_) (d:_) (aY:vs=[x]) (aZ:Den H x d) (bN:d.short=true) (dC:YI H) (gk:(∀g,d=ZZ g->Yf g=true->∀l s (ks:List Nat) H',Yp g 0 s->Fix g 0 s->ks.Pairwise (· < ·)->(∀k,k∈ks<->XU g s k)->YH H H'->YI H'->H l=none->H' l=some (.lst (ks.map λk:Nat=>V.int (k:Int)))->Q (.ref l) H')) (jG:(JB d=false->∀H',YH H H'->YI H'->E (.ref C) none H')):YEH C vs H Q E
def YDA (C:Addr):Sp:=λvs H Q E=>YEH C vs H Q E
theorem YJw {kvs:List (Key×V)}{k:Key} (v:V) (hm:k∈kvs.map (·.1)):(Zo kvs k v).map (·.1)=kvs.map (·.1):=by
 unfold Zo;obtain⟨q,hq,e⟩:=YKU.mp hm;rw[if_pos (List.any_eq_true.mpr ⟨q,hq,YKN e⟩),YLe];refine YLv λq _=>?_
 show(if q.1=k then (q.1,v) else q).1=q.1;split <;> rfl
theorem YJx {kvs:List (Key×V)}{k:Key} (v:V) (hm:¬k∈kvs.map (·.1)):(Zo kvs k v).map (·.1)=kvs.map (·.1) ++ [k]:=by
 unfold Zo;rw[if_neg,YKW]
 ·rfl
 ·intro h;obtain⟨q,hq,e⟩:=List.any_eq_true.mp h;exact hm (YKU.mpr ⟨q,hq,YKh e⟩)
def keysOf (o:Sz):List Key:=o.map λp=>Sum.inr p.1
theorem YJy {o:Sz}{kvs:List (Key×V)} (h:kvs.map (·.1)=keysOf o) (p:Str) (n:Int) (v:V):(Zo kvs (Sum.inr p) v).map (·.1)=keysOf (ZN o p n):=by
 have e:∀o:Sz,keysOf o=(o.map (·.1)).map Sum.inr:=λo=>by unfold keysOf;rw[YLe];rfl
 by_cases hm:p∈o.map (·.1)
 ·rw[YJw v (by rw[h,e];exact YKU.mpr ⟨p,hm,U⟩),h,e,e,XS,if_pos hm]
 ·rw[YJx v,h,e,e,XS,if_neg hm,YKW]
  ·rfl
  ·rw[h,e];intro m;obtain⟨q,hq,e2⟩:=YKU.mp m;exact hm (Sum.inr.inj e2 ▸ hq)
theorem YIe {kvs:List (Key×V)}{k:Key} (v:V) (hm:¬k∈kvs.map (·.1)):Zo kvs k v=kvs ++ [(k,v)]:=by
 unfold Zo;rw[if_neg];intro h;obtain⟨q,hq,e⟩:=List.any_eq_true.mp h;exact hm (YKU.mpr ⟨q,hq,YKh e⟩)
theorem YJz (fs:List (Nat×Int)) {k:Nat} (h:¬k∈fs.map (·.1)):¬(Sum.inl (k:Int):Key)∈(fsD fs).map (·.1):=λm=>by
 unfold fsD at m;rw[YLe]at m;obtain⟨q,hq,e⟩:=YKU.mp m;have e:(Sum.inl (q.1:Int):Key)=Sum.inl (k:Int):=e;have:q.1=k:=by have:=Sum.inl.inj e;omega
 exact h (YKU.mpr ⟨q,hq,this⟩)
theorem Xh {H:Hp}{d:Addr}{s:Sz}{z:Str}{v:Int} (hd:H d=some (.dK (szD s))) (h:look s z=some v):Z5 H d (.str z) (some (.int v)):=by
 have:=Z5.k (k:=Sum.inr z) hd;rw[ZY,h]at this;exact this
theorem YG3 {xs ys:List Nat} (h:xs.Nodup) (hs:∀x∈xs,x∈ys):xs.length<=ys.length:=by
 induction xs generalizing ys with
 |nil=>exact YKm _
 |cons x xs ih=>
  rw[YK9]at h;have hx:=hs x (YKd ..);have:=ih (ys:=ys.erase x) h.2 λy hy=>by
   have hne:y≠x:=λe=>h.1 (e ▸ hy)
   exact(List.mem_erase_of_ne hne).mpr (hs y (YKY _ hy))
  rw[List.length_erase_of_mem hx]at this;have hpos:=List.length_pos_of_mem hx;rw[YKX];omega
section
variable {P:Program}{w:World}{K:W.Frag}{mg:Str->Option Value}{base:Heap}{C:Adr}
theorem Ys:YV ["rules","sizes","outer","steps","shrinking","number","rule","size","place","part","more"] ["rules","sizes"] (YJ X8):=⟨U,U,U,by decide +kernel,U,by decide +kernel,by decide +kernel⟩
theorem YE9 {f:Addr}{fd:FuncData} (F:Fun K "ways_down" "ways_down" X8 f fd) (T:Txt K mg C) (aj:Yu P w K mg CX0 2 "size_of_rule" ["sizes","rule","sign_size"] (YBQ)):Yz P w K mg base CX0 3 f fd ["rules","sizes"] (YG2):=by
 obtain⟨bV,bM,aA,aB,aC,aD⟩:=aj.ok;refine F.ok Ys (λvs H Q E h=>?_) (λaK A outer s H vs Q E hr h=>?_)
 ·cases h;subst_vars;rfl
 ·obtain⟨l,d,xs,r0,YL,s,rfl,hl,aF,hg,hd,hs,hp,q⟩:=h;have hu:=Jh hr;refine⟨_,(YD (YK (i:=2) Ys.nd rfl (Or.inl rfl) (YHG (YFP (YU (Ya K rfl) (YU (Yc K rfl) (pv 0) YE (λ_ _=>rfl)) YE (λ_ _=>rfl)) YE YHF) rfl rfl nofun (by simp)))
   (YD (YK (i:=3) Ys.nd rfl (Or.inl rfl) (YHG (YFP (YU (Ya K rfl) (YU (Yc K rfl) (pv 0) YE (λ_ _=>rfl)) YE (λ_ _=>rfl)) Z0 YHF) rfl rfl nofun (by simp)))
   (YD (YK (i:=4) Ys.nd rfl (Or.inl rfl) Zr)
   (YD (XJ PassesOwn.never (Z1 (pv 4)) (YD (YK (i:=4) Ys.nd rfl (Or.inl rfl) Zr)
   (YF (ZH PassesOwn.never rfl (YEp K rfl rfl T.cI (YA (pv 0) YB)) (YBG K rfl (n:=2) rfl (Z4 (Yb (i:=5) Ys.nd rfl (Or.inl rfl)) (Z4 (Yb (i:=6) Ys.nd rfl (Or.inl rfl)) YA9))) (YD (YK (i:=7) Ys.nd rfl (Or.inl rfl) (YM (aA base) (hr.mono (by decide)) (by rfl) aB aC aD .nil Ye (YA (pv 1) (YA (pv 6) (YA YE YB)))))
   (YD (Yt (PW.pt (Xq (YW YGP (pv 7) Z0 (YY _)) (XC (XW (JI hu (YU (Ya K rfl) (pv 6) YE (λ_ _=>rfl)) (pv 2)))))) (YF YB0) YZ)
   (YF (ZH PassesOwn.never rfl (YJn K rfl rfl T.cI (YA (YU (Ya K rfl) (pv 6) YE (λ_ _=>rfl)) YB)) (YBG K rfl (n:=2) rfl (Z4 (Yb (i:=8) Ys.nd rfl (Or.inl rfl)) (Z4 (Yb (i:=9) Ys.nd rfl (Or.inl rfl)) YA9))) (YD (Yt (Z1 (ZS K rfl PySem.F.plainAttrs_str YLj YLi JQ (pv 9) (YA Yj YB))) (YF YB0) YZ)
   (YD (YK (i:=10) Ys.nd rfl (Or.inl rfl) (YQ YEc (YQ Y4 (Zw hu (pv 2) (YU (Ya K rfl) (pv 6) YE (λ_ _=>rfl)) (λ_ _=>rfl)) (pv 7)) (Zw hu (pv 1) (pv 9) (λ_ _=>rfl))))
   (YF (Yt (PW.pt (Xq (XW (JI hu (pv 9) (pv 2))) (XC (YW YCT (pv 10) (Zw hu (pv 2) (pv 9) (λ_ _=>rfl)) (YY _))))) (YD (YAL hu (pv 2) (pv 9) (pv 10) rfl)
   (YD (YAL hu (pv 3) (pv 9) (Zb (YA (pv 5) (YA (pv 8) YB))) rfl)
   (YF (YK (i:=4) Ys.nd rfl (Or.inl rfl) Zr)))) YZ))))))))))))
   (YF (YT (Zb (YA (pv 2) (YA (pv 3) YB))))))))),?_⟩
  have gK:=Jk hg;have eZ:xs.length=(r0 :: YL).length:=by rw[aF.len,YKF]
  obtain⟨x0,xr,exs⟩:∃x0 xr,xs=x0 :: xr:=by
   cases xs with
   |nil=>cases eZ
   |cons a b=>exact⟨a,b,U⟩
  have rK:xs[0]?=some x0:=by rw[exs];rfl
  obtain⟨Ws,t0,p0,wD,yH,nM,wN⟩:=ZM aF rK;cases wD;have ug:atI xs 0=some (.ref t0):=by rw[<-yH];exact Yv (j:=0) rK
  have yI:r0.1∈(r0 :: YL).map (·.1):=YKd ..;obtain⟨g,eg⟩:∃g,r0 :: YL=g:=⟨_,U⟩;rw[eg]at aF hg hs q gK eZ yI;intro dO hdO;have sa:=YH.upd (o:=.dK []) hdO;refine⟨_,U,l,_,0,_,U,U,SqL.of (sa _ _ hl),ug,t0,_,0,_,U,U,SqT.of (sa _ _ nM),U,YC,[(Sum.inr r0.1,.int 0)],U,(show 1<=15 by decide),?_⟩;rw[YAH];intro dS hdS;have ndS:dS≠dO:=λz=>by rw[z,YC]at hdS;cases hdS
  have sb:=(YH.upd (o:=.dK (Zs [] [(Sum.inr r0.1,V.int 0)])) hdO).trans (YH.upd (o:=.dK []) hdS);refine⟨_,U,l,_,0,_,U,U,SqL.of (sb _ _ hl),ug,t0,_,0,_,U,U,SqT.of (sb _ _ nM),U,YC,[(Sum.inr r0.1,.non)],U,(show 1<=15 by decide),?_⟩;rw[YAH];have zP:H dS=none:=(YH.upd (o:=.dK (Zs [] [(Sum.inr r0.1,V.int 0)])) hdO).free hdS;have s3:=(YH.upd (o:=.dK (Zs [] [(Sum.inr r0.1,V.int 0)])) hdO).trans (YH.upd (o:=.dK (Zs [] [(Sum.inr r0.1,V.non)])) hdS);have o3:upd (upd H dO (.dK (Zs [] [(Sum.inr r0.1,V.int 0)]))) dS (.dK (Zs [] [(Sum.inr r0.1,V.non)])) dO=some (.dK (szD [(r0.1,0)])):=by rw[YN ndS.symm,YC];rfl
  have d3:upd (upd H dO (.dK (Zs [] [(Sum.inr r0.1,V.int 0)]))) dS (.dK (Zs [] [(Sum.inr r0.1,V.non)])) dS=some (.dK [(Sum.inr r0.1,.non)]):=by rw[YC];rfl
  have p3:YI (upd (upd H dO (.dK (Zs [] [(Sum.inr r0.1,V.int 0)]))) dS (.dK (Zs [] [(Sum.inr r0.1,V.non)]))):=(hp.upd rfl).upd rfl;revert s3 o3 d3 p3;generalize upd (upd H dO (.dK (Zs [] [(Sum.inr r0.1,V.int 0)]))) dS (.dK (Zs [] [(Sum.inr r0.1,V.non)]))=H3;intro s3 o3 d3 p3;have Rv:YAc H3 g s r0.1 [(r0.1,0)] [(Sum.inr r0.1,.non)]:=λp v e=>by
   rw[ZX]at e
   by_cases hz:r0.1=p
   ·exact .inl ⟨hz.symm,by rw[<-hz,ZW rfl]⟩
   ·rw[if_neg hz]at e;cases e
  refine⟨λμ σ H4=>∃(o:Sz) (bG:List (Key×V)) (b:Bool) (v5 v6 v7 v8 v9 qC:Option V),σ=[some (.ref l),some (.ref d),some (.ref dO),some (.ref dS),some (.bl b),v5,v6,v7,v8,v9,qC]/\H4 dO=some (.dK (szD o))/\H4 dS=some (.dK bG)/\bG.map (·.1)=keysOf o/\Zy g s r0.1 o/\YAc H4 g s r0.1 o bG/\(b=false->Jl g s o)/\
    μ=2 * mu2 g o + (if b=true then 1 else 0)/\YH H H4/\YI H4,⟨_,[(r0.1,0)],[(Sum.inr r0.1,.non)],true,none,none,none,none,none,none,U,o3,d3,U,Zy.first g s r0.1,Rv,nofun,U,s3,p3⟩,?_⟩
  rintro μ σ H4 ⟨o,bG,b,v5,v6,v7,v8,v9,qC,rfl,o4,d4,k4,w4,uO,fx,hμ,s4,p4⟩;refine⟨_,U,b,U,?_⟩;cases b with
  |false=>
   refine Y5 ⟨_,U,_,U,YG (by show 2<=1000;decide),λt ht=>?_⟩;have s5:=YH.upd (o:=.tup [.ref dO,.ref dS]) ht;exact q t dO dS o bG _ w4 (fx rfl) (uO.mono s5) (s4.trans s5) (p4.upd rfl) YC (s5 _ _ o4) (s5 _ _ d4)
  |true=>
   refine Z6 ⟨_,λ_ _ h=>h,?_⟩;refine⟨_,U,l,U,⟨xs,.inl (s4 _ _ hl)⟩,?_⟩;refine YC2 (K:=K) (a:=l) (xs:=xs) (λi σ H5=>∃(o':Sz) (bG:List (Key×V)) (b:Bool) (v5 v6 v7 v8 v9 qC:Option V),σ=[some (.ref l),some (.ref d),some (.ref dO),some (.ref dS),some (.bl b),v5,v6,v7,v8,v9,qC]/\H5 dO=some (.dK (szD o'))/\H5 dS=some (.dK bG)/\bG.map (·.1)=keysOf o'/\Zy g s r0.1 o'/\YAc H5 g s r0.1 o' bG/\
     (b=false->o'=o/\∀r∈g.take i,∀p∈r.2.1,Ju s o r p)/\(b=true->mu2 g o' < mu2 g o)/\YH H H5/\YI H5)
    ⟨o,bG,false,v5,v6,v7,v8,v9,qC,U,o4,d4,k4,w4,uO,(λ_=>⟨U,λr hr=>nomatch hr⟩),nofun,s4,p4⟩ ?_ ?_ ?_
   ·rintro i σ H5 _ ⟨_,_,_,_,_,_,_,_,_,rfl,_,_,_,_,_,_,_,s5,_⟩;exact SqL.of (s5 _ _ hl)
   ·rintro i y T1 σ H5 hi hT1 ⟨o',uh,b,v5,v6,v7,v8,v9,qC,rfl,o5,d5,k5,w5,uL,qz,hb1,s5,p5⟩;obtain⟨r,t,p,er,rfl,ht,gJ⟩:=ZM aF hi;have hrm:r∈g:=YKL er;have et:g.take (i + 1)=g.take i ++ [r]:=by rw[YLN,er];rfl
    refine⟨T1,_,U,SqT.of YC,U,_,_,U,_,_,U,U,?_⟩;have s6:=YH.upd (o:=.tup [.int (i:Nat),.ref t]) hT1;have p6:YI (upd H5 T1 (.tup [.int (i:Nat),.ref t])):=p5.upd rfl;have o6:=s6 _ _ o5;have d6:=s6 _ _ d5;have iJ:=s5.trans s6;revert s6 p6 o6 d6 iJ;generalize upd H5 T1 (.tup [.int (i:Nat),.ref t])=H6;intro s6 p6 o6 d6 iJ;have t6:=iJ _ _ ht;refine⟨_,U,_,U,d,s,t,0,r.1,p,r.2.1,r.2.2,U,iJ _ _ hd,t6,iJ _ _ gJ,?_⟩;have skip:(∀p∈r.2.1,Ju s o' r p)->∀Wt,∃(wF:Sz) (bG:List (Key×V)) (b':Bool) (w5 w6 w7 w8 w9 Qw:Option V),[some (.ref l),some (.ref d),some (.ref dO),some (.ref dS),some (V.bl b),some (.int (i:Nat)),some (.ref t),Wt,v8,v9,qC]=[some (.ref l),some (.ref d),some (.ref dO),some (.ref dS),some (.bl b'),w5,w6,w7,w8,w9,Qw]/\H6 dO=some (.dK (szD wF))/\H6 dS=some (.dK bG)/\bG.map (·.1)=keysOf wF/\Zy g s r0.1 wF/\YAc H6 g s r0.1 wF bG/\
      (b'=false->wF=o/\∀r∈g.take (i + 1),∀p∈r.2.1,Ju s o r p)/\(b'=true->mu2 g wF < mu2 g o)/\YH H H6/\YI H6:=λvO Wt=>by
     refine⟨o',uh,b,_,_,_,_,_,_,U,o6,d6,k5,w5,uL.mono s6,λe=>?_,hb1,iJ,p6⟩;obtain⟨e1,e2⟩:=qz e;refine⟨e1,λr' hr'=>?_⟩;rw[et]at hr';rcases YKu.mp hr' with hr' |hr'
     ·exact e2 r' hr'
     ·rw[YKf.mp hr'];rw[e1]at vO;exact vO
    cases em:Yg s 0 r.2.1 with
    |none=>
     refine⟨_,U,U,_,U,?_⟩;exact skip (λp _ m h sp e1=>by rw[em]at e1;cases e1) _
    |some m=>
     refine⟨_,U,U,_,U,?_⟩;refine Y5 ⟨_,U,t,_,0,_,U,U,SqT.of t6,U,_,U,dO,_,U,Z5.k (k:=Sum.inr r.1) o6,_,U,?_⟩;rw[ZY,YLC];cases eh:look o' r.1 with
     |none=>exact skip (λp _ m' h sp e1 e2=>by rw[eh]at e2;cases e2) _
     |some h=>
      refine Y5 ?_;refine⟨_,U,t,_,1,_,U,U,SqT.of t6,U,p,U,⟨_,SqT.of (iJ _ _ gJ)⟩,?_⟩;refine YIY (K:=K) (a:=p) (xs:=r.2.1.map V.str) (λj σ H7=>∃(o2:Sz) (bG:List (Key×V)) (b:Bool) (v8 v9 qC:Option V),σ=[some (.ref l),some (.ref d),some (.ref dO),some (.ref dS),some (.bl b),some (.int (i:Nat)),some (.ref t),some (.int m),v8,v9,qC]/\H7 dO=some (.dK (szD o2))/\H7 dS=some (.dK bG)/\bG.map (·.1)=keysOf o2/\Zy g s r0.1 o2/\YAc H7 g s r0.1 o2 bG/\
        (b=false->o2=o/\(∀r∈g.take i,∀p∈r.2.1,Ju s o r p)/\∀p∈r.2.1.take j,Ju s o r p)/\(b=true->mu2 g o2 < mu2 g o)/\(∃h,look o2 r.1=some h)/\YH H H7/\YI H7)
       ⟨o',uh,b,_,_,_,U,o6,d6,k5,w5,uL.mono s6,(λe=>⟨(qz e).1,(qz e).2,λp hp=>nomatch hp⟩),hb1,⟨h,eh⟩,iJ,p6⟩ ?_ ?_ ?_
      ·rintro j σ H7 _ ⟨_,_,_,_,_,_,rfl,_,_,_,_,_,_,_,_,s7,_⟩;exact SqT.of (s7 _ _ gJ)
      ·rintro j y T2 σ H7 hj hT2 ⟨o2,dD,b2,v8,v9,qC,rfl,o7,d7,k7,w7,yJ,hc0,hc1,⟨h2,ul⟩,s7,p7⟩;rw[YKk]at hj;cases ex:r.2.1[j]? with
       |none=>rw[ex]at hj;cases hj
       |some x=>
        rw[ex]at hj;cases hj;have zu:x∈r.2.1:=YKL ex;have ej:r.2.1.take (j + 1)=r.2.1.take j ++ [x]:=by rw[YLN,ex];rfl
        refine⟨T2,_,U,SqT.of YC,U,_,_,U,_,_,U,U,?_⟩;have s8:=YH.upd (o:=.tup [.int (j:Nat),.str x]) hT2;have p8:YI (upd H7 T2 (.tup [.int (j:Nat),.str x])):=p7.upd rfl;have o8:=s8 _ _ o7;have d8:=s8 _ _ d7;have uR:=s7.trans s8;revert s8 p8 o8 d8 uR;generalize upd H7 T2 (.tup [.int (j:Nat),.str x])=H8;intro s8 p8 o8 d8 uR;have t8:=uR _ _ ht;have keep:Ju s o2 r x->b2=false->o2=o/\(∀r∈g.take i,∀p∈r.2.1,Ju s o r p)/\∀p∈r.2.1.take (j + 1),Ju s o r p:=λRw e=>by
         obtain⟨e1,e2,e3⟩:=hc0 e;refine⟨e1,e2,λp hp=>?_⟩;rw[ej]at hp;rcases YKu.mp hp with hp |hp
         ·exact e3 p hp
         ·rw[YKf.mp hp,<-e1];exact Rw
        refine⟨_,U,U,_,_,U,U,_,U,?_⟩;refine XM (λhq=>?_) λhq=>?_
        ·exact⟨o2,dD,b2,_,_,_,U,o8,d8,k7,w7,yJ.mono s8,keep (λm' h' sp _ _ e3=>by rw[show isQ x=true from hq]at e3;cases e3),hc1,⟨h2,ul⟩,uR,p8⟩
        ·have hq':isQ x=false:=YLH.mpr hq;obtain⟨sp,esp,Ew⟩:=(Ym hs.pos em).2 x zu hq';refine⟨_,U,_,U,t,_,0,_,U,U,SqT.of t8,U,dO,.int h2,U,Xh o8 ul,_,U,_,_,U,U,_,U,_,U,d,.int sp,U,Xh (uR _ _ hd) esp,_,_,U,U,?_⟩;have len:(szD o2).length < sizeLine:=by
          unfold szD;rw[YKF];have:=w7.len hs yI;exact YKi (show _ < 1000 by omega) (YG (YKH _))
         have yK:dD.length < sizeLine:=by
          have h1:=YLR List.length k7;unfold keysOf at h1;rw[YKF,YKF]at h1;unfold szD at len;rw[YKF]at len;omega
         have yL:YAb H8 dO (.str x) (.int (h2 + m - sp)) (upd H8 dO (.dK (szD (ZN o2 x (h2 + m - sp))))):=by
          have:=YAb.k (k:=Sum.inr x) (v:=.int (h2 + m - sp)) o8 len;rw[YCN w7.nd]at this;exact this
         have sU:YH H (upd H8 dO (.dK (szD (ZN o2 x (h2 + m - sp))))):=uR.put hdO;have dU:upd H8 dO (.dK (szD (ZN o2 x (h2 + m - sp)))) dS=some (.dK dD):=by rw[YN ndS];exact d8
         have fin:(∀v,look o2 x=some v->h2 + m - sp < v)->∀T3,upd H8 dO (.dK (szD (ZN o2 x (h2 + m - sp)))) T3=none->
           ∃(o3:Sz) (bG:List (Key×V)) (b:Bool) (w8 w9 Qw:Option V),[some (.ref l),some (.ref d),some (.ref dO),some (.ref dS),some (V.bl true),some (.int (i:Nat)),some (.ref t),some (.int m),some (.int (j:Nat)),some (.str x),some (.int (h2 + m - sp))]=[some (.ref l),some (.ref d),some (.ref dO),some (.ref dS),some (.bl b),some (.int (i:Nat)),some (.ref t),some (.int m),w8,w9,Qw]/\
            upd (upd (upd H8 dO (.dK (szD (ZN o2 x (h2 + m - sp))))) T3 (.tup [.int (i:Nat),.int (j:Nat)])) dS (.dK (Zo dD (Sum.inr x) (.ref T3))) dO=some (.dK (szD o3))/\upd (upd (upd H8 dO (.dK (szD (ZN o2 x (h2 + m - sp))))) T3 (.tup [.int (i:Nat),.int (j:Nat)])) dS (.dK (Zo dD (Sum.inr x) (.ref T3))) dS=some (.dK bG)/\bG.map (·.1)=keysOf o3/\Zy g s r0.1 o3/\YAc (upd (upd (upd H8 dO (.dK (szD (ZN o2 x (h2 + m - sp))))) T3 (.tup [.int (i:Nat),.int (j:Nat)])) dS (.dK (Zo dD (Sum.inr x) (.ref T3)))) g s r0.1 o3 bG/\
        (b=false->o3=o/\(∀r∈g.take i,∀p∈r.2.1,Ju s o r p)/\∀p∈r.2.1.take (j + 1),Ju s o r p)/\(b=true->mu2 g o3 < mu2 g o)/\(∃h,look o3 r.1=some h)/\YH H (upd (upd (upd H8 dO (.dK (szD (ZN o2 x (h2 + m - sp))))) T3 (.tup [.int (i:Nat),.int (j:Nat)])) dS (.dK (Zo dD (Sum.inr x) (.ref T3))))/\YI (upd (upd (upd H8 dO (.dK (szD (ZN o2 x (h2 + m - sp))))) T3 (.tup [.int (i:Nat),.int (j:Nat)])) dS (.dK (Zo dD (Sum.inr x) (.ref T3)))):=λhless T3 hT3=>by
          obtain⟨Rx,Qx⟩:=w7.step hg hs yI hrm zu hq' em ul esp hless;have hx0:x≠r0.1:=λz=>by
           have h1:=hless 0 (by rw[z];exact w7.has);have h2':=w7.nn _ _ ul;omega
          have nT:dO≠T3:=λz=>by rw[<-z,YC]at hT3;cases hT3
          refine⟨ZN o2 x (h2 + m - sp),Zo dD (Sum.inr x) (.ref T3),true,_,_,_,U,by rw[YN ndS.symm,YN nT];exact YC,YC,YJy k7 x _ _,Rx,?_,nofun,λ_=>?_,?_,(sU.trans (YH.upd hT3)).put zP,((p8.upd rfl).upd rfl).upd rfl⟩
          ·have nTS:T3≠dS:=λz=>by rw[z,dU]at hT3;cases hT3
           refine yJ.put (H':=_) (λT xs e=>?_) hx0 (by rw[YN nTS];exact YC) er ex hq' em ul esp (by omega) hless;have e8:=s8 _ _ e;have n1:T≠dO:=λz=>by rw[z,o8]at e8;cases e8
           have n2:T≠dS:=λz=>by rw[z,d8]at e8;cases e8
           have n3:T≠T3:=λz=>by rw[<-z,YN n1,e8]at hT3;cases hT3
           rw[YN n2,YN n3,YN n1];exact e8
          ·cases b2 with
           |true=>exact Nat.lt_trans Qx (hc1 rfl)
           |false=>
            rw[(hc0 rfl).1]at Qx ⊢;exact Qx
          ·rw[Y0];split
           ·exact⟨_,U⟩
           ·exact⟨h2,ul⟩
         refine⟨_,U,_,U,dO,_,U,Z5.k (k:=Sum.inr x) o8,_,U,?_⟩;rw[ZY,YLC];cases ev:look o2 x with
         |none=>
          refine⟨_,U,_,U,_,U,dO,_,U,yL,_,U,_,U,YG (by show 2<=1000;decide),λT3 hT3=>⟨_,U,_,U,dS,_,U,YAb.k (k:=Sum.inr x) ((YH.upd hT3) _ _ dU) yK,?_⟩⟩;exact fin (λv e=>by rw[ev]at e;cases e) T3 hT3
         |some v=>
          refine Y5 ⟨_,U,_,U,_,U,dO,.int v,U,Xh o8 ev,_,_,U,U,_,U,XM (λhv=>?_) λhv=>?_⟩
          ·refine⟨_,U,_,U,_,U,dO,_,U,yL,_,U,_,U,YG (by show 2<=1000;decide),λT3 hT3=>⟨_,U,_,U,dS,_,U,YAb.k (k:=Sum.inr x) ((YH.upd hT3) _ _ dU) yK,?_⟩⟩;exact fin (λv' e=>by rw[ev]at e;cases e;exact YKh hv) T3 hT3
          ·refine⟨o2,dD,b2,_,_,_,U,o8,d8,k7,w7,yJ.mono s8,keep (λm' h' yE e1 e2 _ e4=>?_),hc1,⟨h2,ul⟩,uR,p8⟩;rw[em]at e1;rw[ul]at e2;rw[esp]at e4;cases e1;cases e2;cases e4;exact⟨v,ev,by have:¬h2 + m - sp < v:=λz=>hv (YKN z);omega⟩
      ·rintro σ H7 ⟨o2,dD,b2,v8,v9,qC,rfl,o7,d7,k7,w7,yJ,hc0,hc1,⟨h2,ul⟩,s7,p7⟩;refine⟨o2,dD,b2,_,_,_,_,_,_,U,o7,d7,k7,w7,yJ,λe=>?_,hc1,s7,p7⟩;obtain⟨e1,e2,e3⟩:=hc0 e;rw[YKF,YLg]at e3;refine⟨e1,λr' hr'=>?_⟩;rw[et]at hr';rcases YKu.mp hr' with hr' |hr'
       ·exact e2 r' hr'
       ·rw[YKf.mp hr'];exact e3
   ·rintro σ H5 ⟨o',uh,b,v5,v6,v7,v8,v9,qC,rfl,o5,d5,k5,w5,uL,qz,hb1,s5,p5⟩;refine⟨_,?_,o',uh,b,_,_,_,_,_,_,U,o5,d5,k5,w5,uL,λe=>?_,U,s5,p5⟩
    ·rw[hμ];cases b with
     |true=>
      have:=hb1 rfl;show 2 * mu2 g o' + 1 < 2 * mu2 g o + 1;omega
     |false=>
      obtain⟨e1,_⟩:=qz rfl;rw[e1];show 2 * mu2 g o + 0 < 2 * mu2 g o + 1;omega
    ·obtain⟨e1,e2⟩:=qz e;rw[eZ,YLg]at e2;rw[e1];exact e2
theorem Zl:YV ["rules","sizes","outer","found","number","rule","size"] ["rules","sizes"] (YJ Xg):=⟨U,U,U,by decide +kernel,U,by decide +kernel,by decide +kernel⟩
theorem YDe {f:Addr}{fd:FuncData} (F:Fun K "sizes_with" "sizes_with" Xg f fd) (T:Txt K mg C) (bu:Yu P w K mg CX0 3 "ways_down" ["rules","sizes"] (YG2)) (aj:Yu P w K mg CX0 2 "size_of_rule" ["sizes","rule","sign_size"] (YBQ)):Yz P w K mg base CX0 4 f fd ["rules","sizes"] (YC9):=by
 obtain⟨lR,jV,dW,dX,dY,dZ⟩:=bu.ok;obtain⟨bV,bM,aA,aB,aC,aD⟩:=aj.ok;refine F.ok Zl (λvs H Q E h=>?_) (λaK A outer s H vs Q E hr h=>?_)
 ·cases h;subst_vars;rfl
 ·obtain⟨l,d,xs,g,s,rfl,hl,aF,hg,hd,hs,hp,q⟩:=h;have hu:=Jh hr;refine⟨_,(YD (Yt (JL (YD5 K rfl (pv 0) (λ_=>rfl))) (YF (YT Xz)) YZ)
   (YD (YK (i:=2) Zl.nd rfl (Or.inl rfl) (YU (Ya K rfl) (YM (dW base) (hr.mono (by decide)) (by rfl) dX dY dZ .nil Ye (YA (pv 0) (YA (pv 1) YB))) YE (λ_ _=>rfl)))
   (YD (YK (i:=3) Zl.nd rfl (Or.inl rfl) Xz)
   (YD (ZH PassesOwn.never rfl (YEp K rfl rfl T.cI (YA (pv 0) YB)) (YBG K rfl (n:=2) rfl (Z4 (Yb (i:=4) Zl.nd rfl (Or.inl rfl)) (Z4 (Yb (i:=5) Zl.nd rfl (Or.inl rfl)) YA9))) (YD (YK (i:=6) Zl.nd rfl (Or.inl rfl) (YM (aA base) (hr.mono (by decide)) (by rfl) aB aC aD .nil Ye (YA (pv 1) (YA (pv 5) (YA YE YB)))))
   (YF (Yt (PW.pt (XD (YW YBB (pv 6) Z0 (YY _)) (Ji (XW (pc_din hu (YU (Ya K rfl) (pv 5) YE (λ_ _=>rfl)) (pv 2)))))) (YF (YAL hu (pv 3) (pv 4) (YQ Y4 (Zw hu (pv 2) (YU (Ya K rfl) (pv 5) YE (λ_ _=>rfl)) (λ_ _=>rfl)) (pv 6)) rfl)) YZ))))
   (YF (YT (pv 3))))))),?_⟩
  have gK:=Jk hg;have eZ:xs.length=g.length:=by rw[aF.len,YKF]
  refine⟨_,U,_,.inl ⟨xs,SqL.of hl,U⟩,?_⟩;cases g with
  |nil=>
   cases xs with
   |cons a b=>cases eZ
   |nil=>
    refine Z6 λdF hdF=>?_
    refine q dF [] _ List.Pairwise.nil (λk=>⟨(λhk=>nomatch hk),λhk=>?_⟩) (λr0 YL e=>nomatch e) (YH.upd hdF) (hp.upd rfl) hdF YC;obtain⟨_,_,_,e,_⟩:=hk;cases e
  |cons r0 YL=>
   have hne:(!xs.isEmpty)=true:=by
    cases xs with
    |nil=>cases eZ
    |cons a b=>rfl
   rw[hne];refine Y5 ?_;refine⟨_,U,_,U,l,d,xs,r0,YL,s,U,hl,aF,hg,hd,hs,hp,λt dO dS o bG H1 wy fx sto s1 p1 ht hO hS=>⟨t,_,0,_,U,U,SqT.of ht,U,?_⟩⟩;obtain⟨g,eg⟩:∃g,r0 :: YL=g:=⟨_,U⟩;rw[eg]at aF hg hs gK eZ wy fx sto q;intro dF hdF;have s2:=YH.upd (o:=.dK []) hdF;have vh:H dF=none:=s1.free hdF;refine⟨_,U,l,U,⟨xs,.inl ((s1.trans s2) _ _ hl)⟩,?_⟩;refine YC2 (K:=K) (a:=l) (xs:=xs) (λi σ H3=>∃(fs:List (Nat×Int)) (v4 v5 v6:Option V),σ=[some (.ref l),some (.ref d),some (.ref dO),some (.ref dF),v4,v5,v6]/\H3 dF=some (.dK (fsD fs))/\(fs.map (·.1)).Pairwise (· < ·)/\(∀k,k∈fs.map (·.1)<->k < i/\XU g s k)/\
     (∀p∈fs,∃r m h,g[p.1]?=some r/\Yg s 0 r.2.1=some m/\look o r.1=some h/\p.2=h + m)/\YH H1 H3/\YI H3)
    ⟨[],none,none,none,U,YC,List.Pairwise.nil,λk=>⟨(λhk=>nomatch hk),λhk=>absurd hk.1 (Nat.not_lt_zero _)⟩,(λp hp=>nomatch hp),s2,p1.upd rfl⟩ ?_ ?_ ?_
   ·rintro i σ H3 _ ⟨_,_,_,_,rfl,_,_,_,_,s3,_⟩;exact SqL.of ((s1.trans s3) _ _ hl)
   ·rintro i y T1 σ H3 hi hT1 ⟨fs,v4,v5,v6,rfl,Qy,srt,mem,fct,s3,p3⟩;obtain⟨r,tt,p,er,rfl,mO,gJ⟩:=ZM aF hi;refine⟨T1,_,U,SqT.of YC,U,_,_,U,_,_,U,U,?_⟩;have s6:=YH.upd (o:=.tup [.int (i:Nat),.ref tt]) hT1;have p6:YI (upd H3 T1 (.tup [.int (i:Nat),.ref tt])):=p3.upd rfl;have f6:=s6 _ _ Qy;have qi:=s3.trans s6;have O6:=qi _ _ hO;revert s6 p6 f6 qi O6;generalize upd H3 T1 (.tup [.int (i:Nat),.ref tt])=H6;intro s6 p6 f6 qi O6;have iJ:=s1.trans qi;have t6:=iJ _ _ mO;refine⟨_,U,_,U,d,s,tt,0,r.1,p,r.2.1,r.2.2,U,iJ _ _ hd,t6,iJ _ _ gJ,?_⟩;have notin:¬i∈fs.map (·.1):=λhm=>YLB _ ((mem i).mp hm).1
    have skip:¬XU g s i->∀k,k∈fs.map (·.1)<->k < i + 1/\XU g s k:=λhn k=>by
     rw[mem k];constructor
     ·rintro⟨a,b⟩;exact⟨by omega,b⟩
     ·rintro⟨a,b⟩;refine⟨?_,b⟩;have:k≠i:=λe=>hn (e ▸ b)
      omega
    cases em:Yg s 0 r.2.1 with
    |none=>
     refine⟨_,U,U,_,U,fs,_,_,_,U,f6,srt,skip ?_,fct,qi,p6⟩;rintro⟨r',_,_,_,cJ,⟨m,qd⟩,_⟩;rw[er]at cJ;cases cJ;rw[em]at qd;cases qd
    |some m=>
     refine⟨_,U,U,_,U,?_⟩;refine Z6 ⟨_,U,tt,_,0,_,U,U,SqT.of t6,U,_,U,dO,_,U,Z5.k (k:=Sum.inr r.1) O6,_,U,?_⟩;rw[ZY,YLC];cases eh:look o r.1 with
     |none=>
      refine⟨fs,_,_,_,U,f6,srt,skip ?_,fct,qi,p6⟩;rintro⟨r',r1,yM,e1,cJ,_,uP⟩;rw[er]at cJ;cases cJ;rw[<-eg]at e1;cases e1;obtain⟨v,e2⟩:=YC3 hs wy fx uP;rw[eh]at e2;cases e2
     |some h=>
      have hfl:fs.length<=i:=by
       have h1:(fs.map (·.1)).length<=(List.range i).length:=by
        have nd:(fs.map (·.1)).Nodup:=srt.imp λh=>YKn h
        exact YG3 nd λk hk=>YLI.mpr ((mem k).mp hk).1
       rwa [YKF,YLa]at h1
      have hil:i < xs.length:=(YKR.mp hi).1;have len:(fsD fs).length < sizeLine:=by
       unfold fsD;rw[YKF];exact YKi (show _ < 1000 by omega) (YG (YKH _))
      have put:YAb H6 dF (.int (i:Nat)) (.int (h + m)) (upd H6 dF (.dK (fsD (fs ++ [(i,h + m)])))):=by
       have:=YAb.k (k:=Sum.inl (i:Int)) (v:=.int (h + m)) f6 len;rw[YIe _ (YJz fs notin)]at this;unfold fsD at this ⊢;rw[YKW];exact this
      refine⟨_,U,_,U,tt,_,0,_,U,U,SqT.of t6,U,dO,.int h,U,Xh O6 eh,_,U,_,_,U,U,_,U,_,U,dF,_,U,put,?_⟩;refine⟨fs ++ [(i,h + m)],_,_,_,U,YC,?_,λk=>?_,λp hp=>?_,qi.put hdF,p6.upd rfl⟩
      ·rw[YKW,List.pairwise_append];refine⟨srt,by simp,λa ha b hb=>?_⟩;have e1:b=i:=by simpa using hb
       rw[e1];exact((mem a).mp ha).1
      ·rw[YKW,YKu,mem k];have wO:XU g s i:=⟨r,r0,YL,eg.symm,er,⟨m,em⟩,wy.rch _ _ eh⟩;constructor
       ·rintro(⟨a,b⟩ |hk)
        ·exact⟨by omega,b⟩
        ·have e1:k=i:=by simpa using hk
         rw[e1];exact⟨by omega,wO⟩
       ·rintro⟨a,b⟩
        by_cases e1:k=i
        ·exact .inr (by simp[e1])
        ·exact .inl ⟨by omega,b⟩
      ·rcases YKu.mp hp with hp |hp
       ·exact fct p hp
       ·rw[YKf.mp hp];exact⟨r,m,h,er,em,eh,U⟩
   ·rintro σ H3 ⟨fs,v4,v5,v6,rfl,Qy,srt,mem,fct,s3,p3⟩;refine⟨_,U,q dF fs H3 srt (λk=>?_) (λr1 yM e=>?_) (s1.trans s3) p3 vh Qy⟩
    ·rw[mem k];constructor
     ·exactλh=>h.2
     ·intro h;refine⟨?_,h⟩;obtain⟨r,_,_,_,er,_⟩:=h;have:=(YKR.mp er).1;omega
    ·rw[<-eg]at e;cases e;exact⟨o,wy,⟨fx,sto.att⟩,fct⟩
theorem YEI:YV ["grammar","rules"] ["grammar"] (YJ YC6):=⟨U,U,U,by decide +kernel,U,by decide +kernel,by decide +kernel⟩
theorem YIf {f:Addr}{fd:FuncData} (F:Fun K "needed" "needed" YC6 f fd) (T:Txt K mg C) (aP:Yu P w K mg (CXo P w) 7 "checked" ["thing"] (YAQ C.NoGrammar)) (aQ:Yu P w K mg CX0 4 "sizes_with" ["rules","sizes"] (YC9)) (aq:Yu P w K mg CX0 3 "least_sizes" ["rules","sign_size"] (YBR)):Yz P w K mg base (CXo P w) 8 f fd ["grammar"] (YDA C.NoGrammar):=by
 obtain⟨jF,iY,cL,cM,cN,cO⟩:=aP.ok;obtain⟨jW,jB,cW,cX,cY,cZ⟩:=aQ.ok;obtain⟨gh,dR,a_,bc,bf,bh⟩:=aq.ok;refine F.okX YEI (λvs H Q E h=>?_) (λaK A outer s H vs Q E hr h=>?_)
 ·cases h;subst_vars;rfl
 ·obtain⟨x,d,rfl,den,yh,hp,q,qe⟩:=h;refine⟨_,(YD (YK (i:=1) YEI.nd rfl (Or.inl rfl) (YM (cL base) (hr.mono (by decide)) (by rfl) cM cN cO .nil XO.on (YA (pv 0) YB)))
   (YF (YT (Zv (YCk rfl) (by rfl) T.cQ YKy (YA (YM (cW base) (hr.mono (by decide)) (by rfl) cX cY cZ .nil Ye (YA (pv 1) (YA (YM (a_ base) (hr.mono (by decide)) (by rfl) bc bf bh .nil Ye (YA (pv 1) (YA YE YB))) YB))) YB))))),?_⟩
  refine⟨_,U,x,d,U,den,yh,hp,λe l xs ds ed aF hl=>?_,λe=>qe e H (YH.refl H) hp⟩;obtain⟨g,rfl,hg⟩:=YCM e;cases ed;have s1:=YH.upd (o:=.lst xs) hl;refine⟨_,U,_,U,l,xs,g,0,U,YC,aF.same s1,hg,YKz _,hp.upd rfl,λd s H' hok qZ hd e=>?_⟩;subst e;have s2:=YH.upd (o:=.dK (szD s)) hd;have qD:=s1.trans s2;refine⟨l,d,xs,g,s,U,s2 _ _ YC,aF.same qD,hg,YC,hok,(hp.upd rfl).upd rfl,λdF fs H2 srt mem _ s3 p3 vh hdF=>⟨dF,_,U,.inl hdF,λlo hlo=>?_⟩⟩;refine q g rfl hg lo s (fs.map (·.1)) _ hok qZ srt mem ((qD.trans s3).trans (YH.upd hlo)) (p3.upd rfl) (qD.free (s3.free hlo)) ?_;rw[YC];unfold fsD;rw[YLe,YLe];rfl
end
def nV (k:Nat):V:=.int (k:Int)
def stepD (p:Nat×Nat):D:=.tup [.int (p.1:Int),.int (p.2:Int)]
inductive YBS (g:YX) (s:Sz) (z0:Str):Str->List (Nat×Nat)->Int->Prop
 |nil:YBS g s z0 z0 [] 0
 |snoc {z p:Str}{st:List (Nat×Nat)}{c m sp:Int}{num pl:Nat}{r:Yl}:YBS g s z0 z st c->g[num]?=some r->r.1=z->r.2.1[pl]?=some p->isQ p=false->Yg s 0 r.2.1=some m->look s p=some sp->YBS g s z0 p (st ++ [(num,pl)]) (c + m - sp)
theorem YBS.trace {g:YX}{s:Sz}{z0 z:Str}{st:List (Nat×Nat)}{c:Int} (hpos:∀z v,look s z=some v->1<=v) (h:YBS g s z0 z st c):∃f:Nat->Str×Int,f 0=(z0,0)/\f st.length=(z,c)/\(∀i,i<=st.length->0<=(f i).2/\(f i).2<=c)/\
  ∀i num pl,st[i]?=some (num,pl)->∃r m sp,g[num]?=some r/\r.1=(f i).1/\r.2.1[pl]?=some (f (i + 1)).1/\isQ (f (i + 1)).1=false/\Yg s 0 r.2.1=some m/\look s (f (i + 1)).1=some sp/\(f (i + 1)).2=(f i).2 + m - sp:=by
 induction h with
 |nil=>exact⟨λ_=>(z0,0),U,U,λi _=>⟨YKz _,YKz _⟩,λi num pl e=>by cases e⟩
 |@snoc z p st c m sp num pl r hp er hz epl hq em esp ih=>
  obtain⟨f,f0,fn,fb,fs⟩:=ih;obtain⟨v,ev,hv⟩:=(Ym hpos em).2 p (YKL epl) hq;rw[esp]at ev;cases ev;have hc:=(fb st.length (YKH _)).1;rw[fn]at hc;refine⟨λi=>if i<=st.length then f i else (p,c + m - sp),by simp[f0],?_,λi hi=>?_,λi uf zp e=>?_⟩
  ·show(if (st ++ [(num,pl)]).length<=st.length then _ else _)=_;rw[if_neg (by rw[YKJ];show ¬st.length + 1<=_;omega)]
  ·show 0<=(if i<=st.length then f i else (p,c + m - sp)).2/\(if i<=st.length then f i else (p,c + m - sp)).2<=c + m - sp
   by_cases h1:i<=st.length
   ·rw[if_pos h1];have:=fb i h1;exact⟨this.1,by omega⟩
   ·rw[if_neg h1];have hc:0<=c:=hc;exact⟨by show 0<=c + m - sp;omega,YKz _⟩
  ·show ∃r m' yE,g[uf]?=some r/\r.1=(if i<=st.length then f i else (p,c + m - sp)).1/\r.2.1[zp]?=some (if i + 1<=st.length then f (i + 1) else (p,c + m - sp)).1/\isQ (if i + 1<=st.length then f (i + 1) else (p,c + m - sp)).1=false/\Yg s 0 r.2.1=some m'/\look s (if i + 1<=st.length then f (i + 1) else (p,c + m - sp)).1=some yE/\(if i + 1<=st.length then f (i + 1) else (p,c + m - sp)).2=(if i<=st.length then f i else (p,c + m - sp)).2 + m' - yE
   by_cases h1:i < st.length
   ·rw[YLA h1]at e;rw[if_pos (by omega),if_pos (by omega)];exact fs i uf zp e
   ·have hi:i=st.length:=by
     have:=(YKR.mp e).1;rw[YKJ]at this;simp at this;omega
    subst hi;rw[YKw (YKH _),YLw]at e;cases e;rw[if_pos (YKH _),if_neg (by omega),fn];exact⟨r,m,sp,er,hz,epl,hq,em,esp,U⟩
theorem Z9 {s:Sz} (hpos:∀z v,look s z=some v->1<=v) (ps:List Str):0<=Y3 s ps:=by
 unfold Y3
 induction unQ ps with
 |nil=>exact YKz _
 |cons p qs ih=>
  rw[YKa,YLE];have:0<=(look s p).getD 0:=by
   cases e:look s p with
   |none=>exact YKz _
   |some v=>have:=hpos p v e;show 0<=v;omega
  omega
theorem YEJ {s:Sz}{z:Str}{v:Int} (hq:isQ z=false) (e:look s z=some v):Y3 s [z]=v:=by
 unfold Y3 unQ;rw[YKv,hq];show(List.map (λp=>(look s p).getD 0) [z]).sum=v;rw[YKa,e];show v + 0=v;omega
theorem YG4 {s:Sz}{z:Str} (hq:isQ z=true):Y3 s [z]=0:=by
 unfold Y3 unQ;rw[YKv,hq];rfl
def X9 (H:Hp) (ts:List V) (bs:List (List Str)):Prop:=ts.length=bs.length/\∀(j:Nat) (b:List Str),bs[j]?=some b->∃T,ts[j]?=some (.ref T)/\H T=some (.tup (b.map V.str))
def Zj (H H':Hp):Prop:=∀T xs,H T=some (.tup xs)->H' T=some (.tup xs)
theorem Zj.of {H H':Hp} (s:YH H H'):Zj H H':=λT xs e=>s _ _ e
theorem Zj.trans {H H' H'':Hp} (a:Zj H H') (b:Zj H' H''):Zj H H'':=λT xs e=>b T xs (a T xs e)
theorem Zj.lst {H:Hp}{a:Addr}{xs:List V}{o:HO} (h:H a=some (.lst xs)):Zj H (upd H a o):=λT ys e=>by
 rw[YN (λz=>by rw[z,h]at e;cases e)];exact e
theorem X9.mono {H H':Hp}{ts:List V}{bs:List (List Str)} (h:X9 H ts bs) (k:Zj H H'):X9 H' ts bs:=⟨h.1,λj b e=>by obtain⟨T,e1,e2⟩:=h.2 j b e;exact⟨T,e1,k _ _ e2⟩⟩
theorem X9.snoc {H:Hp}{ts:List V}{bs:List (List Str)}{T:Addr}{b:List Str} (h:X9 H ts bs) (e:H T=some (.tup (b.map V.str))):X9 H (ts ++ [.ref T]) (bs ++ [b]):=by
 refine⟨by rw[YKJ,YKJ,h.1];rfl,λj b' e'=>?_⟩
 by_cases hj:j < bs.length
 ·rw[YLA hj]at e';obtain⟨T',e1,e2⟩:=h.2 j b' e';exact⟨T',by rw[YLA (by rw[h.1];exact hj)];exact e1,e2⟩
 ·have hj2:j=bs.length:=by
   have:=(YKR.mp e').1;rw[YKJ]at this;simp at this;omega
  subst hj2;rw[YKw (YKH _),YLw]at e';cases e';exact⟨T,by rw[YKw (by rw[h.1];exact YKH _),h.1,YLw];rfl,e⟩
inductive YF3 (vs:List V) (H:Hp) (Q:VK):Prop where
 |mk (l d:Addr) (xs:List V) (g:YX) (s:Sz) (aY:vs=[.ref l,.ref d]) (aZ:H l=some (.lst xs)) (bN:YS H xs (g.map Yn)) (dC:Yf g=true) (gk:H d=some (.dK (szD s))) (jG:Yp g 0 s) (nJ:Fix g 0 s) (qg:YI H) (uT:∀dM e H',SmOk g s e->YH H H'->YI H'->H dM=none->H' dM=some (.dK (szD e))->Q (.ref dM) H'):YF3 vs H Q
def YHk:Sp:=λvs H Q E_=>YF3 vs H Q
inductive YB6 (vs:List V) (H:Hp) (Q:VK):Prop where
 |mk (l dM p:Addr) (xs:List V) (g:YX) (s e:Sz) (ps:List Str) (aY:vs=[.ref l,.ref dM,.ref p]) (aZ:H l=some (.lst xs)) (bN:YS H xs (g.map Yn)) (dC:Yf g=true) (gk:H dM=some (.dK (szD e))) (jG:Yp g 0 s) (nJ:SmOk g s e) (qg:H p=some (.tup (ps.map V.str))) (uT:ps.length<=6) (yN:(∀x∈ps,isQ x=false->∃v,look s x=some v)) (tu:Y3 s ps<=1000) (vm:YI H) (wQ:∀lr (ks:List Nat) H',Yw g (unQ ps) ks->(ks.length:Int)=Y3 s ps->YH H H'->YI H'->H lr=none->H' lr=some (.lst (ks.map nV))->Q (.ref lr) H'):YB6 vs H Q
def YDB:Sp:=λvs H Q E_=>YB6 vs H Q
inductive YDC (vs:List V) (H:Hp) (Q:VK):Prop where
 |mk (l dS:Addr) (xs:List V) (g:YX) (s o:Sz) (z0 z:Str) (c:Int) (kvs:List (Key×V)) (aY:vs=[.ref l,.ref dS,.str z]) (aZ:H l=some (.lst xs)) (bN:YS H xs (g.map Yn)) (dC:Yf g=true) (gk:H dS=some (.dK kvs)) (jG:Yp g 0 s) (nJ:Zy g s z0 o) (qg:Jl g s o) (uT:YAc H g s z0 o kvs) (yN:look o z=some c) (tu:c<=1000) (vm:YI H) (wQ:∀lp (ts:List V) st H',YBS g s z0 z st c->YS H' ts (st.map stepD)->YH H H'->YI H'->H lp=none->H' lp=some (.lst ts)->Q (.ref lp) H'):YDC vs H Q
def YEK:Sp:=λvs H Q E_=>YDC vs H Q
inductive YDD (vs:List V) (H:Hp) (Q:VK):Prop where
 |mk (l d:Addr) (k:Nat) (xs:List V) (r0:Yl) (YL:List Yl) (s:Sz) (r:Yl) (m:Int) (aY:vs=[.ref l,.ref d,.int (k:Int)]) (aZ:H l=some (.lst xs)) (bN:YS H xs ((r0 :: YL).map Yn)) (dC:Yf (r0 :: YL)=true) (gk:H d=some (.dK (szD s))) (jG:Yp (r0 :: YL) 0 s) (nJ:Fix (r0 :: YL) 0 s) (qg:(r0 :: YL)[k]?=some r) (uT:Yg s 0 r.2.1=some m) (yN:J7 (r0 :: YL) s r0.1 r.1) (tu:(∀o h,Zy (r0 :: YL) s r0.1 o->DF (r0 :: YL) s r0.1 o->look o r.1=some h->h + m<=1000)) (vm:YI H) (wQ:∀lr (ks:List Nat) o h H',Zy (r0 :: YL) s r0.1 o->DF (r0 :: YL) s r0.1 o->look o r.1=some h->Yw (r0 :: YL) [r0.1] ks->k∈ks->(ks.length:Int)=h + m->YH H H'->YI H'->H lr=none->H' lr=some (.lst (ks.map nV))->Q (.ref lr) H'):YDD vs H Q
def YEL:Sp:=λvs H Q E_=>YDD vs H Q
section
variable {P:Program}{w:World}{K:W.Frag}{mg:Str->Option Value}{base:Heap}{C:Adr}
theorem ZO:YV ["rules","sizes","smallest","number","rule","size"] ["rules","sizes"] (YJ JZ):=⟨U,U,U,by decide +kernel,U,by decide +kernel,by decide +kernel⟩
theorem YBT {f:Addr}{fd:FuncData} (F:Fun K "smallest_rules" "smallest_rules" JZ f fd) (T:Txt K mg C) (aj:Yu P w K mg CX0 2 "size_of_rule" ["sizes","rule","sign_size"] (YBQ)):Yz P w K mg base CX0 3 f fd ["rules","sizes"] (YHk):=by
 obtain⟨bV,bM,aA,aB,aC,aD⟩:=aj.ok;refine F.ok ZO (λvs H Q E h=>?_) (λaK A outer s H vs Q E hr h=>?_)
 ·cases h;subst_vars;rfl
 ·obtain⟨l,d,xs,g,s,rfl,hl,aF,hg,hd,hs,uU,hp,q⟩:=h;have hu:=Jh hr;refine⟨_,(YD (YK (i:=2) ZO.nd rfl (Or.inl rfl) Xz)
   (YD (ZH PassesOwn.never rfl (YEp K rfl rfl T.cI (YA (pv 0) YB)) (YBG K rfl (n:=2) rfl (Z4 (Yb (i:=3) ZO.nd rfl (Or.inl rfl)) (Z4 (Yb (i:=4) ZO.nd rfl (Or.inl rfl)) YA9))) (YD (YK (i:=5) ZO.nd rfl (Or.inl rfl) (YM (aA base) (hr.mono (by decide)) (by rfl) aB aC aD .nil Ye (YA (pv 1) (YA (pv 4) (YA YE YB)))))
   (YF (Yt (PW.pt (XD (YW YBB (pv 5) Z0 (YY _)) (Ji (YW Xr (pv 5) (Zw hu (pv 1) (YU (Ya K rfl) (pv 4) YE (λ_ _=>rfl)) (λ_ _=>rfl)) (YY _))))) (YF (YAL hu (pv 2) (YU (Ya K rfl) (pv 4) YE (λ_ _=>rfl)) (pv 3) rfl)) YZ))))
   (YF (YT (pv 2))))),?_⟩
  have gK:=Jk hg;have eZ:xs.length=g.length:=by rw[aF.len,YKF]
  intro dM hdM;have s1:=YH.upd (o:=.dK []) hdM;refine⟨_,U,l,U,⟨xs,.inl (s1 _ _ hl)⟩,?_⟩;refine YC2 (K:=K) (a:=l) (xs:=xs) (λi σ H2=>∃(e:Sz) (v3 v4 v5:Option V),σ=[some (.ref l),some (.ref d),some (.ref dM),v3,v4,v5]/\H2 dM=some (.dK (szD e))/\(e.map (·.1)).Nodup/\e.length<=i/\
    (∀z k,look e z=some k->∃(n:Nat) (r:Yl) (v:Int),k=(n:Int)/\g[n]?=some r/\r.1=z/\Yg s 0 r.2.1=some v/\look s z=some v)/\(∀j,j < i->∀r v,g[j]?=some r->Yg s 0 r.2.1=some v->look s r.1=some v->∃k,look e r.1=some k)/\YH H H2/\YI H2)
   ⟨[],none,none,none,U,YC,List.nodup_nil,YKH _,(λz k h=>nomatch h),(λj hj=>absurd hj (Nat.not_lt_zero _)),s1,hp.upd rfl⟩ ?_ ?_ ?_
  ·rintro i σ H2 _ ⟨_,_,_,_,rfl,_,_,_,_,_,s2,_⟩;exact SqL.of (s2 _ _ hl)
  ·rintro i y T1 σ H2 hi hT1 ⟨e,v3,v4,v5,rfl,m2,nd,el,ent,has,s2,p2⟩;obtain⟨r,t,p,er,rfl,ht,gJ⟩:=ZM aF hi;have hil:i < xs.length:=(YKR.mp hi).1;refine⟨T1,_,U,SqT.of YC,U,_,_,U,_,_,U,U,?_⟩;have s6:=YH.upd (o:=.tup [.int (i:Nat),.ref t]) hT1;have p6:YI (upd H2 T1 (.tup [.int (i:Nat),.ref t])):=p2.upd rfl;have m6:=s6 _ _ m2;have iJ:=s2.trans s6;revert s6 p6 m6 iJ;generalize upd H2 T1 (.tup [.int (i:Nat),.ref t])=H6;intro s6 p6 m6 iJ;have t6:=iJ _ _ ht;have skip:(∀v,Yg s 0 r.2.1=some v->look s r.1=some v->∃k,look e r.1=some k)->∀j,j < i + 1->∀r v,g[j]?=some r->Yg s 0 r.2.1=some v->look s r.1=some v->∃k,look e r.1=some k:=λhn j hj r' v cJ e1 e2=>by
    by_cases wA:j=i
    ·subst wA;rw[er]at cJ;cases cJ;exact hn v e1 e2
    ·exact has j (by omega) r' v cJ e1 e2
   refine⟨_,U,_,U,d,s,t,0,r.1,p,r.2.1,r.2.2,U,iJ _ _ hd,t6,iJ _ _ gJ,?_⟩;cases em:Yg s 0 r.2.1 with
   |none=>exact⟨_,U,U,_,U,e,_,_,_,U,m6,nd,by omega,ent,skip (λv e1=>by rw[em]at e1;cases e1),iJ,p6⟩
   |some m=>
    obtain⟨v,ev,_⟩:=uU r (YKL er) m em;refine⟨_,U,U,_,U,?_⟩;refine Z6 ⟨_,U,_,U,_,U,t,_,0,_,U,U,SqT.of t6,U,d,.int v,U,Xh (iJ _ _ hd) ev,U,_,U,XM (λQz=>?_) λQz=>?_⟩
    ·have zQ:m=v:=V.int.inj (YKh Qz);have len:(szD e).length < sizeLine:=by
      unfold szD;rw[YKF];exact YKi (show _ < 1000 by omega) (YG (YKH _))
     have put:YAb H6 dM (.str r.1) (.int (i:Nat)) (upd H6 dM (.dK (szD (ZN e r.1 (i:Nat))))):=by
      have:=YAb.k (k:=Sum.inr r.1) (v:=.int (i:Nat)) m6 len;rw[YCN nd]at this;exact this
     refine⟨_,U,_,U,_,U,t,_,0,_,U,U,SqT.of t6,U,dM,_,U,put,?_⟩;refine⟨ZN e r.1 (i:Nat),_,_,_,U,YC,?_,?_,λz k hk=>?_,λj hj r' v' cJ e1 e2=>?_,iJ.put hdM,p6.upd rfl⟩
     ·rw[XS];split
      ·exact nd
      ·rename_i hn
       exact YBN nd hn
     ·rw[YBO];split <;> omega
     ·rw[Y0]at hk;split at hk
      ·rename_i hz
       cases hk;exact⟨i,r,v,U,er,hz.symm,by rw[em,zQ],by rw[hz];exact ev⟩
      ·exact ent z k hk
     ·rw[Y0];split
      ·exact⟨_,U⟩
      ·rename_i hz
       by_cases wA:j=i
       ·subst wA;rw[er]at cJ;cases cJ;exact absurd rfl hz
       ·exact has j (by omega) r' v' cJ e1 e2
    ·exact⟨e,_,_,_,U,m6,nd,by omega,ent,skip (λv' e1 e2=>by
      rw[em]at e1;rw[ev]at e2;cases e1;cases e2;exact absurd (YKN rfl) Qz),iJ,p6⟩
  ·rintro σ H2 ⟨e,v3,v4,v5,rfl,m2,nd,el,ent,has,s2,p2⟩;refine⟨_,U,q dM e H2 (λz v ez=>?_) s2 p2 hdM m2⟩;obtain⟨r,hr',hz,m,em,hm⟩:=hs.hd z v ez;obtain⟨v',ev,hv'⟩:=uU r hr' m em;rw[hz,ez]at ev;cases ev;have emv:m=v:=by omega
   obtain⟨j,hj,ej⟩:=YLq.mp hr';have er:g[j]?=some r:=by rw[YKK hj,ej]
   obtain⟨k,ek⟩:=has j (by omega) r v er (by rw[em,emv]) (by rw[hz];exact ez);obtain⟨n,r',v2,e1,e2,e3,e4,e5⟩:=ent r.1 k ek;rw[hz]at ek e3 e5;rw[ez]at e5;cases e5;exact⟨n,r',by rw[ek,e1],e2,e3,e4⟩
theorem JD:YV ["rules","smallest","parts","row","waiting","part"] ["rules","smallest","parts"] (YJ Jy):=⟨U,U,U,by decide +kernel,U,by decide +kernel,by decide +kernel⟩
theorem YCF {f:Addr}{fd:FuncData} (F:Fun K "smallest_row" "smallest_row" Jy f fd) (T:Txt K mg C):Yz P w K mg base CX0 2 f fd ["rules","smallest","parts"] (YDB):=by
 refine F.ok JD (λvs H Q E h=>?_) (λaK A outer s H vs Q E hr h=>?_)
 ·cases h;subst_vars;rfl
 ·obtain⟨l,dM,p,xs,g,s,e,ps,rfl,hl,aF,hg,hM,hs,hsm,Ry,h6,hnm,hsum,hp,q⟩:=h;have hu:=Jh hr;refine⟨_,(YD (YK (i:=3) JD.nd rfl (Or.inl rfl) (Y7 YB))
   (YD (YK (i:=4) JD.nd rfl (Or.inl rfl) (YBP K rfl rfl rfl T.cQ rfl T.bH (YA (pv 2) YB)))
   (YD (XJ PassesOwn.never (YD5 K rfl (pv 4) (λ_=>rfl)) (YD (YK (i:=5) JD.nd rfl (Or.inl rfl) (YEm K rfl YKc PySem.F.slot_list_pop PySem.F.type_list_pop YGU (pv 4)))
   (YF (Yt (JL (Z1 (ZS K rfl PySem.F.plainAttrs_str YLj YLi JQ (pv 5) (YA Yj YB)))) (YD (ZG (ZS K rfl YKc YKp YKo Yx (pv 3) (YA (Zw hu (pv 1) (pv 5) (λ_ _=>rfl)) YB)))
   (YF (ZG (ZS K rfl YKc YLY YLX YAK (pv 4) (YA (YBP K rfl rfl rfl T.cQ rfl T.bH (YA (YU (Ya K rfl) (YU (Yc K rfl) (pv 0) (Zw hu (pv 1) (pv 5) (λ_ _=>rfl)) (λ_ _=>rfl)) YE (λ_ _=>rfl)) YB)) YB))))) YZ))))
   (YF (YT (pv 3)))))),?_⟩
  have eZ:xs.length=g.length:=by rw[aF.len,YKF]
  refine⟨YKm _,λlr hlr=>?_⟩;have s1:=YH.upd (o:=.lst []) hlr;refine⟨_,U,p,_,U,SqT.of (s1 _ _ Ry),λlw qj=>?_⟩;have s2:=YH.upd (o:=.lst (ps.map V.str).reverse) qj;have nwr:lw≠lr:=λz=>by rw[z,YC]at qj;cases qj
  have pW:H lw=none:=s1.free qj;have QB:upd (upd H lr (.lst [])) lw (.lst (ps.map V.str).reverse) lr=some (.lst (([]:List Nat).map nV)):=s2 _ _ YC;have QC:upd (upd H lr (.lst [])) lw (.lst (ps.map V.str).reverse) lw=some (.lst (ps.reverse.map V.str)):=by rw[YC,YLQ]
  have p2:YI (upd (upd H lr (.lst [])) lw (.lst (ps.map V.str).reverse)):=(hp.upd rfl).upd rfl;have jH:=s1.trans s2;revert QB QC p2 jH;generalize upd (upd H lr (.lst [])) lw (.lst (ps.map V.str).reverse)=H2;intro QB QC p2 jH;refine⟨λμ σ H3=>∃(ks:List Nat) (zs:List Str) (v5:Option V),σ=[some (.ref l),some (.ref dM),some (.ref p),some (.ref lr),some (.ref lw),v5]/\H3 lr=some (.lst (ks.map nV))/\H3 lw=some (.lst (zs.map V.str))/\(∀x∈zs,isQ x=false->∃v,look s x=some v)/\(∀YL,Yw g (unQ zs.reverse) YL->Yw g (unQ ps) (ks ++ YL))/\(ks.length:Int) + Y3 s zs=Y3 s ps/\zs.length<=6 + 6 * ks.length/\μ=7 * (Y3 s zs).toNat + zs.length/\YH H H3/\YI H3,
   ⟨_,[],ps.reverse,none,U,QB,QC,λx hx=>hnm x (YLu.mp hx),λYL h=>by rw[YLW]at h;exact h,by rw[YBo];show(0:Int) + _=_;omega,by rw[YKl];exact h6,U,jH,p2⟩,?_⟩
  rintro μ σ H3 ⟨ks,zs,v5,rfl,Wu,QD,yO,dB,tD,sO,hμ,s3,p3⟩;have hnn:=Z9 hs.pos zs;have hkl:ks.length<=1000:=by omega
  refine⟨_,U,_,.inl ⟨_,SqL.of QD,U⟩,?_⟩;rcases List.eq_nil_or_concat zs with hz |⟨aN,z,hz⟩
  ·subst hz;refine⟨_,U,q lr ks H3 ?_ ?_ s3 p3 hlr Wu⟩
   ·have:=dB [] .nil
    rwa [YKs]at this
   ·rw[YIb]at tD;omega
  rw[List.concat_eq_append]at hz;subst hz;have hne:(!((aN ++ [z]).map V.str).isEmpty)=true:=by simp
  rw[hne];refine Z6 ⟨_,λ_ _ h=>h,?_⟩;have elast:((aN ++ [z]).map V.str)[((aN ++ [z]).map V.str).length - 1]?=some (.str z):=by
   rw[YKW,YKJ];show(_ ++ [V.str z])[_ + 1 - 1]?=_;rw[Nat.add_sub_cancel,YKw (YKH _),YLw];rfl
  have edrop:((aN ++ [z]).map V.str).dropLast=aN.map V.str:=by rw[YKW];exact List.dropLast_concat
  refine⟨_,U,.inl ⟨U,_,SqL.of QD⟩,lw,_,_,U,U,QD,elast,?_⟩;rw[edrop];have s4:YH H (upd H3 lw (.lst (aN.map V.str))):=s3.put pW;have uV:upd H3 lw (.lst (aN.map V.str)) lw=some (.lst (aN.map V.str)):=YC;have um:upd H3 lw (.lst (aN.map V.str)) lr=some (.lst (ks.map nV)):=by rw[YN nwr.symm];exact Wu
  have p4:YI (upd H3 lw (.lst (aN.map V.str))):=p3.upd rfl;revert s4 uV um p4;generalize upd H3 lw (.lst (aN.map V.str))=H4;intro s4 uV um p4;have q9:∀x∈aN,isQ x=false->∃v,look s x=some v:=λx hx=>yO x (YKx _ hx)
  rw[JX]at tD hnn hμ;rw[YKJ]at sO hμ;have sO:aN.length + 1<=6 + 6 * ks.length:=sO;have hμ:μ=7 * (Y3 s aN + Y3 s [z]).toNat + (aN.length + 1):=hμ;have Ex:=Z9 hs.pos aN;refine⟨_,U,U,_,_,U,U,_,U,?_⟩
  by_cases hq:isQ z=true
  ·have yP:Txt.startswith z "'"=true:=hq;rw[yP];rw[YG4 hq]at tD hμ;refine⟨_,?_,ks,aN,_,U,um,uV,q9,λYL h=>dB YL ?_,by omega,by omega,U,s4,p4⟩
   ·rw[hμ,Int.add_zero];omega
   ·rw[YK1];show Yw g (unQ (z :: aN.reverse)) YL;have:unQ (z :: aN.reverse)=unQ aN.reverse:=by unfold unQ;rw[YKv,hq];rfl
    rw[this];exact h
  ·have hq':isQ z=false:=YLH.mpr hq;have yP:Txt.startswith z "'"=false:=hq';rw[yP];obtain⟨v,ev⟩:=yO z (YKg _ (YKf.mpr rfl)) hq';obtain⟨k,r,ek,er,uo,em⟩:=hsm z v ev;have hv:=JY hs.pos em;rw[YEJ hq' ev]at tD hμ;have hok:Zc r=true:=by
    unfold Yf at hg;rw[YKM]at hg;exact YKj.mp hg.2 r (YKL er)
   have uQ:r.2.1.length<=6:=by
    unfold Zc at hok;simp only[YKM,YKt]at hok;exact hok.2.1.1
   have hnp:=Z9 hs.pos r.2.1;have ur:k < xs.length:=by rw[eZ];exact(YKR.mp er).1
   have hix:xs[k]?=some xs[k]:=YKK ur;obtain⟨r',tt,pp,cJ,ut,mO,gJ⟩:=ZM aF hix;rw[er]at cJ;cases cJ;have ax:atI xs (k:Int)=some (.ref tt):=by rw[<-ut];exact Yv hix
   refine⟨_,U,.inl ⟨U,_,SqL.of um⟩,_,U,_,U,dM,.int (k:Int),U,Xh (s4 _ _ hM) ek,lr,_,_,U,U,um,by rw[YKF,sizeLine_eq];omega,?_⟩;have yQ:ks.map nV ++ [V.int (k:Int)]=(ks ++ [k]).map nV:=by rw[YKW];rfl
   rw[yQ];have s5:YH H (upd H4 lr (.lst ((ks ++ [k]).map nV))):=s4.put hlr;have vQ:upd H4 lr (.lst ((ks ++ [k]).map nV)) lw=some (.lst (aN.map V.str)):=by rw[YN nwr];exact uV
   have yR:upd H4 lr (.lst ((ks ++ [k]).map nV)) lr=some (.lst ((ks ++ [k]).map nV)):=YC;have p5:YI (upd H4 lr (.lst ((ks ++ [k]).map nV))):=p4.upd rfl;revert s5 vQ yR p5;generalize upd H4 lr (.lst ((ks ++ [k]).map nV))=H5;intro s5 vQ yR p5;refine⟨_,U,.inl ⟨U,_,SqL.of vQ⟩,_,U,_,U,_,U,dM,.int (k:Int),U,Xh (s5 _ _ hM) ek,l,_,_,_,U,U,SqL.of (s5 _ _ hl),ax,tt,_,1,_,U,U,SqT.of (s5 _ _ mO),U,pp,_,U,SqT.of (s5 _ _ gJ),λlv Rz=>?_⟩;have s6:=YH.upd (o:=.lst (r.2.1.map V.str).reverse) Rz;refine⟨lw,lv,_,_,U,U,s6 _ _ vQ,YC,by rw[YKl,YKF,YKF,sizeLine_eq];omega,?_⟩;have ew:aN.map V.str ++ (r.2.1.map V.str).reverse=(aN ++ r.2.1.reverse).map V.str:=by rw[YKW,YLQ]
   rw[ew];refine⟨_,?_,ks ++ [k],aN ++ r.2.1.reverse,_,U,by rw[YN nwr.symm];exact s6 _ _ yR,YC,λx hx Wv=>?_,λYL h=>?_,?_,?_,U,(s5.trans s6).put pW,(p5.upd rfl).upd rfl⟩
   ·rw[hμ,JX,YBo,YKJ,YKl];omega
   ·rcases YKu.mp hx with hx |hx
    ·exact q9 x hx Wv
    ·obtain⟨v',e1,_⟩:=(Ym hs.pos em).2 x (YLu.mp hx) Wv;exact⟨v',e1⟩
   ·rw[YK0];refine dB (k :: YL) ?_;rw[YK1]at h ⊢;rw[YLW,YAZ]at h;have e1:unQ ([z].reverse ++ aN.reverse)=z :: unQ aN.reverse:=by
     show unQ (z :: aN.reverse)=_;unfold unQ;rw[YKv,hq'];rfl
    rw[e1,<-uo];exact Yw.cons er h
   ·rw[JX,YBo,YKJ];show((ks.length + 1:Nat):Int) + _=_;omega
   ·rw[YKJ,YKJ,YKl];show _<=6 + 6 * (ks.length + 1);omega
theorem J8:YV ["rules","steps","head","found","step"] ["rules","steps","head"] (YJ YA1):=⟨U,U,U,by decide +kernel,U,by decide +kernel,by decide +kernel⟩
theorem YF4 {f:Addr}{fd:FuncData} (F:Fun K "steps_to" "steps_to" YA1 f fd) (T:Txt K mg C):Yz P w K mg base CX0 2 f fd ["rules","steps","head"] (YEK):=by
 refine F.ok J8 (λvs H Q E h=>?_) (λaK A outer s H vs Q E hr h=>?_)
 ·cases h;subst_vars;rfl
 ·obtain⟨l,dS,xs,g,s,o,z0,z,c,kvs,rfl,hl,aF,hg,hS,hs,wy,fx,st,ez,hc,hp,q⟩:=h;have hu:=Jh hr;refine⟨_,(YD (YK (i:=3) J8.nd rfl (Or.inl rfl) (Y7 YB))
   (YD (YK (i:=4) J8.nd rfl (Or.inl rfl) (Zw hu (pv 1) (pv 2) (λ_ _=>rfl)))
   (YD (XJ PassesOwn.never (YW YBB (pv 4) Z0 (YY _)) (YD (ZG (ZS K rfl YKc YKp YKo Yx (pv 3) (YA (pv 4) YB)))
   (YF (YK (i:=4) J8.nd rfl (Or.inl rfl) (Zw hu (pv 1) (YU (Ya K rfl) (YU (Yc K rfl) (pv 0) (YU (Ya K rfl) (pv 4) YE (λ_ _=>rfl)) (λ_ _=>rfl)) YE (λ_ _=>rfl)) (λ_ _=>rfl))))))
   (YF (YT (YFn rfl rfl T.cQ rfl T.bH (YA (pv 3) YB))))))),?_⟩
  have eZ:xs.length=g.length:=by rw[aF.len,YKF]
  have YHV:∀{H':Hp},YH H H'->∀z c,look o z=some c->∃v,Z5 H' dS (.str z) (some v)/\((z=z0/\v=.non)\/(z≠z0/\∃(T:Addr) (num pl:Nat) (r:Yl) (m h sp:Int),v=.ref T/\H' T=some (.tup [.int (num:Int),.int (pl:Int)])/\g[num]?=some r/\r.2.1[pl]?=some z/\isQ z=false/\Yg s 0 r.2.1=some m/\look o r.1=some h/\look s z=some sp/\h + m - sp=c/\h < c)):=λ{H'} sm z c e=>by
   have dg:=Z5.k (k:=Sum.inr z) (sm _ _ hS);rcases st z c e with ⟨h1,h2⟩ |⟨hne,T,num,pl,r,m,h,sp,a,b,e1,e2,e3,e4,e5,e6,e7⟩
   ·rw[h2]at dg;exact⟨_,dg,.inl ⟨h1,U⟩⟩
   ·rw[a]at dg;obtain⟨v,ev,hv⟩:=fx r (YKL e1) z (YKL e2) m h sp e4 e5 e3 e6;rw[e]at ev;cases ev;obtain⟨v2,Ww,hm⟩:=(Ym hs.pos e4).2 z (YKL e2) e3;rw[e6]at Ww;cases Ww;exact⟨_,dg,.inr ⟨hne,T,num,pl,r,m,h,sp,U,sm _ _ b,e1,e2,e3,e4,e5,e6,by omega,by omega⟩⟩
  refine⟨YKm _,λlf vR=>?_⟩;have s1:=YH.upd (o:=.lst []) vR;obtain⟨v0,RB,hv0⟩:=YHV s1 z c ez;refine⟨_,U,_,U,dS,v0,U,RB,?_⟩;refine⟨λμ σ H2=>∃(z1:Str) (c1:Int) (v:V) (ts:List V) (suf:List (Nat×Nat)),σ=[some (.ref l),some (.ref dS),some (.str z),some (.ref lf),some v]/\look o z1=some c1/\c1<=c/\((z1=z0/\v=.non)\/(z1≠z0/\∃(T:Addr) (num pl:Nat) (r:Yl) (m h sp:Int),v=.ref T/\H2 T=some (.tup [.int (num:Int),.int (pl:Int)])/\g[num]?=some r/\r.2.1[pl]?=some z1/\isQ z1=false/\Yg s 0 r.2.1=some m/\look o r.1=some h/\look s z1=some sp/\h + m - sp=c1/\h < c1))/\
    H2 lf=some (.lst ts)/\YS (del H2 lf) ts.reverse (suf.map stepD)/\(∀st',YBS g s z0 z1 st' c1->YBS g s z0 z (st' ++ suf) c)/\μ=c1.toNat/\ts.length + μ<=1000/\YH H H2/\YI H2,
   ⟨_,z,c,v0,[],[],U,ez,YKz _,hv0,YC,.nil,λst' h=>by rw[YKs];exact h,U,?_,s1,hp.upd rfl⟩,?_⟩
  ·show 0 + c.toNat<=1000;omega
  rintro μ σ H2 ⟨z1,c1,v,ts,suf,rfl,QF,hc1,hv,zx,vO,nU,hμ,htl,s2,p2⟩;have hnn:=wy.nn _ _ QF;refine⟨_,U,U,_,U,?_⟩;rcases hv with ⟨rfl,rfl⟩ |⟨hne,T,num,pl,r,m,h,sp,rfl,hT,er,epl,hq,em,eh,esp,RC,hlt⟩
  ·refine⟨_,U,lf,ts,U,.inl zx,λlp yS=>?_⟩;have e0:c1=0:=by rw[wy.has]at QF;cases QF;rfl
   have s3:=YH.upd (o:=.lst ts.reverse) yS;refine q lp ts.reverse suf _ ?_ (vO.same ((YFX _ _).trans s3)) (s2.trans s3) (p2.upd rfl) (s2.free yS) YC;have:=nU [] (by rw[e0];exact .nil)
   rwa [List.nil_append]at this
  ·refine⟨_,λ_ _ h=>h,?_⟩;have nTl:T≠lf:=λz=>by rw[z,zx]at hT;cases hT
   refine⟨_,U,.inl ⟨U,_,SqL.of zx⟩,_,U,lf,ts,_,U,U,zx,YKi (show _ < 1001 by omega) (by rw[sizeLine_eq];decide),?_⟩;have s3:YH H (upd H2 lf (.lst (ts ++ [.ref T]))):=s2.put vR;have hT3:upd H2 lf (.lst (ts ++ [.ref T])) T=some (.tup [.int (num:Int),.int (pl:Int)]):=by rw[YN nTl];exact hT
   have ur:num < xs.length:=by rw[eZ];exact(YKR.mp er).1
   have hix:xs[num]?=some xs[num]:=YKK ur;obtain⟨r',tt,p,cJ,ut,mO,gJ⟩:=ZM aF hix;rw[er]at cJ;cases cJ;have ax:atI xs (num:Int)=some (.ref tt):=by rw[<-ut];exact Yv hix
   obtain⟨v1,RD,hv1⟩:=YHV s3 r.1 h eh;refine⟨_,U,_,U,_,U,T,_,0,_,U,U,SqT.of hT3,U,l,_,_,_,U,U,SqL.of (s3 _ _ hl),ax,tt,_,0,_,U,U,SqT.of (s3 _ _ mO),U,dS,v1,U,RD,?_⟩;have hhn:=wy.nn _ _ eh;refine⟨h.toNat,by omega,r.1,h,v1,ts ++ [.ref T],(num,pl) :: suf,U,eh,by omega,hv1,YC,?_,λst' hp'=>?_,U,by rw[YKJ];show ts.length + 1 + _<=1000;omega,s3,p2.upd rfl⟩
   ·rw[YEn,YK1];refine .cons (.tup (show del H2 lf T=some _ by rw[YCh nTl];exact hT) (.cons (.int _) (.cons (.int _) .nil))) vO
   ·have h1:=YBS.snoc hp' er rfl epl hq em esp;rw[RC]at h1;have h2:=nU _ h1;rw[YK0]at h2;exact h2
end
abbrev Jz:Stmt:=top 46
abbrev Xi:Stmt:=top 47
abbrev Zd:Stmt:=top 48
abbrev JS:Stmt:=top 49
abbrev Xj:Stmt:=top 50
abbrev Xk:Stmt:=top 51
abbrev YAA:Stmt:=top 52
abbrev Xl:Stmt:=top 57
abbrev JT:Stmt:=top 60
abbrev YAi:Stmt:=top 64
theorem Ja:(["_law_k","_law_big","_law_odd"]:List Str).Nodup:=by decide +kernel
theorem ZI:(["_law_k","_law_at","_law_base","_law_big","_law_odd"]:List Str).Nodup:=by decide +kernel
inductive YF5 (K:W.Frag) (vs:List V) (H:Hp) (Q:VK):Prop where
 |mk (a:Addr) (ns:List Int) (k:Int) (aY:vs=[.ref a,.int k]) (aZ:SqL K H a (ns.map V.int)) (bN:0<=k) (dC:k<=1000) (gk:∀v:Int,0<=v->v < 2147483647->Q (.int v) H):YF5 K vs H Q
def YFA (K:W.Frag):Sp:=λvs H Q E_=>YF5 K vs H Q
inductive YF6 (vs:List V) (H:Hp) (Q:VK):Prop where
 |mk (c:Int) (aY:vs=[.int c]) (aZ:YI H) (bN:∀l (a b d:Nat) H',J3 a=true->J3 b=true->J3 d=true->YH H H'->YI H'->H l=none->H' l=some (.lst [.str ⟨#[a]⟩,.str ⟨#[b]⟩,.str ⟨#[d]⟩])->Q (.ref l) H'):YF6 vs H Q
def YHl:Sp:=λvs H Q E_=>YF6 vs H Q
inductive YF7 (vs:List V) (H:Hp) (Q:VK):Prop where
 |mk (c:Int) (aY:vs=[.int c]) (aZ:0<=c) (bN:c < 2147483648) (dC:YI H) (gk:∀l (ns:List Str) H',ns.length=4->(∀z∈ns,isNameS z=true)->YH H H'->YI H'->H l=none->H' l=some (.lst (ns.map V.str))->Q (.ref l) H'):YF7 vs H Q
def YHm:Sp:=λvs H Q E_=>YF7 vs H Q
inductive YEM (vs:List V) (H:Hp) (Q:VK):Prop where
 |mk (c:Int) (aY:vs=[.int c]) (aZ:∀z:Int,0<=z->z<=10 ^ 60->Q (.int z) H):YEM vs H Q
def YF8:Sp:=λvs H Q E_=>YEM vs H Q
inductive YF9 (vs:List V) (H:Hp) (Q:VK):Prop where
 |mk (c:Int) (m:Addr) (zs:List Str) (n:Int) (aY:vs=[.int c,.ref m,.int n]) (aZ:H m=some (.lst (zs.map V.str))) (bN:1<=zs.length) (dC:zs.length<=100) (gk:0<=n) (jG:n<=6) (nJ:YI H) (qg:∀t (ps:List Str) H',(ps.length:Int)<=n->(∀p∈ps,p∈zs)->YH H H'->YI H'->H t=none->H' t=some (.tup (ps.map V.str))->Q (.ref t) H'):YF9 vs H Q
def YHn:Sp:=λvs H Q E_=>YF9 vs H Q
def SOME:Str:=YEx Zd 0 ++ YEx Zd 1
theorem YEN:SOME.cps.toList=YBj:=by decide +kernel
theorem YBu:SOME.length<=sizeLine:=YG (by decide +kernel)
theorem YEO {z:Str} (h:isNameS z=true):Y2 z=true:=by
 unfold Y2;rw[h,Bool.or_true]
theorem YJ0 {z:Str}{c:Nat}{j:Int} (hz:z.length<=7) (hl:z.cps.toList.all ZT=true) (hc:ZT c=true) (h0:0<=j) (h1:j<=z.length):
  isNameS (Txt.slice z none (some j) ++ ⟨#[c]⟩ ++ Txt.slice z (some j) none)=true:=by
 rw[YB3,YBL,YBL,YJb h0 h1,YGj h0 h1];have sO:z.cps.toList.length=z.length:=YK2;unfold YHU;have e1:((z.cps.toList.take j.toNat ++ [c] ++ z.cps.toList.drop j.toNat).length)=z.length + 1:=by
  rw[YKJ,YKJ,YK3,YK4,sO];show min j.toNat z.length + 1 + (z.length - j.toNat)=_
  lia
 show(decide (1<=(z.cps.toList.take j.toNat ++ [c] ++ z.cps.toList.drop j.toNat).length) && decide ((z.cps.toList.take j.toNat ++ [c] ++ z.cps.toList.drop j.toNat).length<=8) && (z.cps.toList.take j.toNat ++ [c] ++ z.cps.toList.drop j.toNat).all ZT)=true;rw[e1,YKN (by lia),YKN (by lia)];rw[YKj]at hl;rw[List.all_append,List.all_append];have a1:(z.cps.toList.take j.toNat).all ZT=true:=YKj.mpr λx hx=>hl x (List.mem_of_mem_take hx)
 have a2:(z.cps.toList.drop j.toNat).all ZT=true:=YKj.mpr λx hx=>hl x (List.mem_of_mem_drop hx)
 rw[a1,a2];show(true && (true && [c].all ZT && true))=true;rw[YLV,hc];rfl
theorem YJ1 {c:Nat}{n:Int} (hc:ZT c=true) (h0:1<=n) (h1:n<=8):isNameS (Txt.mul ⟨#[c]⟩ n)=true:=by
 rw[YB3,PyProof.Rows.mul_one_list];unfold YHU;rw[List.length_replicate,YKN (by lia),YKN (by lia)];show(List.replicate n.toNat c).all ZT=true;rw[YKj];intro x hx;rw[(List.mem_replicate.mp hx).2];exact hc
section
variable {P:Program}{w:World}{K:W.Frag}{mg:Str->Option Value}{base:Heap}{C:Adr}
theorem YCG:YV ["_law_script","_law_k"] ["_law_script","_law_k"] (YJ Jz):=⟨U,U,U,by decide +kernel,U,by decide +kernel,by decide +kernel⟩
theorem YCH {f:Addr}{fd:FuncData} (F:Fun K "_law_cell_at" "_law_cell_at" Jz f fd) (T:Txt K mg C):Yz P w K mg base CX0 1 f fd ["_law_script","_law_k"] (YGh K):=by
 refine F.ok YCG (λvs H Q E h=>?_) (λaK A outer s H vs Q E hr h=>?_)
 ·cases h;subst_vars;rfl
 ·obtain⟨a,ns,k,rfl,hS,h0,q⟩:=h;refine⟨_,(YD (Yt (YW YCT (pv 1) (YO (YR K rfl) (by rfl) T.aG YKP (YA (pv 0) YB)) (YY _)) (YF (YT (YU (Yc K rfl) (pv 0) (pv 1) (λ_ _=>rfl)))) YZ)
   (YF (YT YE))),?_⟩
  refine⟨_,U,_,U,a,_,U,.inl hS,_,_,U,U,_,U,?_⟩;refine XM (λh1=>?_) λh1=>?_
  ·have h1':=YKh h1;obtain⟨v,hv,hm⟩:=Zt h0 h1';obtain⟨n,_,rfl⟩:=YKU.mp hm;exact⟨_,U,_,U,a,_,k,_,U,U,hS,hv,q n⟩
  ·exact q 0
theorem YAj:YV ["_law_script","_law_k","_law_cell"] ["_law_script","_law_k"] (YJ Xi):=⟨U,U,U,by decide +kernel,U,by decide +kernel,by decide +kernel⟩
theorem YDf {f:Addr}{fd:FuncData} (F:Fun K "_law_mixed" "_law_mixed" Xi f fd) (T:Txt K mg C) (aH:Yu P w K mg CX0 1 "_law_cell_at" ["_law_script","_law_k"] (YGh K)):Yz P w K mg base CX0 2 f fd ["_law_script","_law_k"] (YFA K):=by
 obtain⟨iZ,iK,bW,bY,bZ,b_⟩:=aH.ok;refine F.ok YAj (λvs H Q E h=>?_) (λaK A outer s H vs Q E hr h=>?_)
 ·cases h;subst_vars;rfl
 ·obtain⟨a,ns,k,rfl,hS,k0,k1,q⟩:=h;refine⟨_,(YD (YK (i:=2) YAj.nd rfl (Or.inl rfl) (YQ Yy (YM (bW base) (hr.mono (by decide)) (by rfl) bY bZ b_ .nil Ye (YA (pv 0) (YA (pv 1) YB))) YE))
   (YF (YT (YQ Yy (YQ XX (YQ Y4 (YQ Y4 (YQ Y4 (YQ XX (pv 2) (pv 2)) (pv 2)) (YQ XX (YQ XX YE (pv 1)) (pv 1))) YE) YE) YE)))),?_⟩
  refine⟨_,U,_,U,a,ns,k,U,hS,k0,λv=>⟨_,_,U,U,(by show(0:Int) < 2147483629;decide),?_⟩⟩;have c0:0<=v % 2147483629:=by lia
  have c1:v % 2147483629 < 2147483629:=by lia
  refine⟨_,U,_,U,_,_,U,U,.inl ⟨by lia,by lia⟩,_,U,_,_,U,U,_,U,_,_,U,U,.inl ⟨by decide,by decide⟩,_,U,_,_,U,U,.inr ⟨by lia,by lia⟩,_,_,U,U,_,_,U,U,_,_,U,U,.inr ⟨by decide,by decide⟩,_,_,U,U,(by show(0:Int) < 2147483647;decide),q _ ?_ ?_⟩
  ·exact YLd _ (by decide)
  ·exact YLM _ (by decide)
theorem XG:YV ["_law_cell","_law_some"] ["_law_cell"] (YJ Zd):=⟨U,U,U,by decide +kernel,U,by decide +kernel,by decide +kernel⟩
theorem YDg {f:Addr}{fd:FuncData} (F:Fun K "_law_signs" "_law_signs" Zd f fd) (T:Txt K mg C):Yz P w K mg base CX0 1 f fd ["_law_cell"] (YHl):=by
 refine F.ok XG (λvs H Q E h=>?_) (λaK A outer s H vs Q E hr h=>?_)
 ·cases h;subst_vars;rfl
 ·obtain⟨c,rfl,hp,q⟩:=h;refine⟨_,(YD (YK (i:=1) XG.nd rfl (Or.inl rfl) Yj)
   (YD (YK (i:=1) XG.nd rfl (Or.inl rfl) (YQ Za (pv 1) Yj))
   (YF (YT (Y7 (YA (YU Z2 (pv 1) (YQ Yy (pv 0) YE) (λ_ _=>rfl)) (YA (YU Z2 (pv 1) (YQ Yy (YQ Y4 (YQ Y4 (pv 0) YE) (YQ Yy (YQ ZL (pv 0) YE) YE)) YE) (λ_ _=>rfl)) (YA (YU Z2 (pv 1) (YQ Yy (YQ Y4 (YQ Y4 (pv 0) YE) (YQ Yy (YQ ZL (pv 0) YE) YE)) YE) (λ_ _=>rfl)) YB)))))))),?_⟩
  refine⟨_,U,YEx Zd 0,YEx Zd 1,U,U,by decide +kernel,?_⟩;have at_:∀i:Int,∃k,atI SOME.cps.toList (i % 94)=some k/\J3 k=true:=λi=>by
   obtain⟨k,hk,hm⟩:=Zt (xs:=SOME.cps.toList) (i:=i % 94) (by lia) (by rw[YEN,YIP];lia);rw[YEN]at hm;exact⟨k,hk,YGi hm⟩
  obtain⟨k1,e1,g1⟩:=at_ c;obtain⟨k2,e2,g2⟩:=at_ (c + 1 + c / 94 % 46);obtain⟨k3,e3,g3⟩:=at_ (c + 47 + c / 4324 % 46);refine⟨_,U,_,U,_,_,U,U,(by show(0:Int) < 94;decide),SOME,_,k1,U,U,YBu,e1,?_⟩;refine⟨_,U,_,U,_,_,U,U,_,U,_,_,U,U,⟨by decide,by decide⟩,_,_,U,U,(by show(0:Int) < 46;decide),_,_,U,U,_,_,U,U,(by show(0:Int) < 94;decide),SOME,_,k2,U,U,YBu,e2,?_⟩;refine⟨_,U,_,U,_,_,U,U,_,U,_,_,U,U,⟨by decide,by decide⟩,_,_,U,U,(by show(0:Int) < 46;decide),_,_,U,U,_,_,U,U,(by show(0:Int) < 94;decide),SOME,_,k3,U,U,YBu,e3,?_⟩;exact⟨YG (by show 3<=1000;decide),λl hl=>q l k1 k2 k3 _ g1 g2 g3 (YH.upd hl) (hp.upd rfl) hl YC⟩
theorem ZB:YV ["_law_cell","_law_big","_law_odd","_law_k","_law_base","_law_at"] ["_law_cell"] (YJ JS):=⟨U,U,U,by decide +kernel,U,by decide +kernel,by decide +kernel⟩
theorem YDh {f:Addr}{fd:FuncData} (F:Fun K "_law_names" "_law_names" JS f fd) (T:Txt K mg C):Yz P w K mg base CX0 1 f fd ["_law_cell"] (YHm):=by
 refine F.ok ZB (λvs H Q E h=>?_) (λaK A outer s H vs Q E hr h=>?_)
 ·cases h;subst_vars;rfl
 ·obtain⟨c,rfl,c0,c1,hp,q⟩:=h;refine⟨_,(YD (YK (i:=1) ZB.nd rfl (Or.inr rfl) Yj)
   (YD (YK (i:=2) ZB.nd rfl (Or.inr rfl) (YQ Yy (pv 0) YE))
   (YD (YK (i:=0) ZB.nd rfl (Or.inl rfl) (YQ ZL (pv 0) YE))
   (YD (Yt (YW Xr (YQ Yy (pv 0) YE) YE (YY _)) (YF (YT (YAM (N:=["_law_k","_law_big","_law_odd"]) (ρ:=[none,some 1,some 2]) rfl (Yr.closes ["_law_cell","_law_big","_law_odd","_law_k","_law_base","_law_at"] (YJ JS).names rfl rfl rfl rfl (by decide +kernel) (by decide +kernel) (λx h=>Jo h) (by decide +kernel) rfl (by decide +kernel)) (ZJ rfl T.aO (YA YE YB)) (λ_ _ _ _ _=>(Yb (i:=0) Ja rfl (Or.inl rfl) (.inr rfl))) (λ_ _ _ _ _=>J5) (λ_ _ _ _ _=>(YQ YGb (YU Z2 (pv 1) (pv 2) (λ_ _=>rfl)) (YQ YEc (YQ Y4 (YQ XX YE (pv 0)) YE) (YQ ZL (pv 0) YE))))))) YZ)
   (YD (YK (i:=4) ZB.nd rfl (Or.inr rfl) Yj)
   (YD (ZH PassesOwn.never rfl (ZJ rfl T.aO (YA (YQ Yy (YQ ZL (pv 0) YE) YE) YB)) (Yb (i:=3) ZB.nd rfl (Or.inl rfl)) (YF (YK (i:=4) ZB.nd rfl (Or.inr rfl) (YQ Za (pv 4) (YU Z2 (pv 1) (YQ Yy (YQ ZL (YQ XX (pv 0) (YQ Y4 (pv 3) YE)) YE) YE) (λ_ _=>rfl))))))
   (YD (YK (i:=5) ZB.nd rfl (Or.inr rfl) (YQ Yy (YQ ZL (pv 0) YE) (YQ Y4 (YO Xa (by rfl) T.aG YKP (YA (pv 4) YB)) YE)))
   (YF (YT (YAM (N:=["_law_k","_law_at","_law_base","_law_big","_law_odd"]) (ρ:=[none,some 5,some 4,some 1,some 2]) rfl (Yr.closes ["_law_cell","_law_big","_law_odd","_law_k","_law_base","_law_at"] (YJ JS).names rfl rfl rfl rfl (by decide +kernel) (by decide +kernel) (λx h=>Jo h) (by decide +kernel) rfl (by decide +kernel)) (ZJ rfl T.aO (YA YE YB)) (λ_ _ _ _ _=>(Yb (i:=0) ZI rfl (Or.inl rfl) (.inr rfl))) (λ_ _ _ _ _=>J5) (λ_ _ _ _ _=>(YQ Za (YQ Za (Jp YJJ (pv 2) XZ (Jc (pv 1))) (YU Z2 (pv 3) (YQ Y4 (pv 4) (pv 0)) (λ_ _=>rfl))) (Jp YJJ (pv 2) (Jc (pv 1)) XZ))))))))))))),?_⟩
  refine⟨_,U,_,_,U,U,(by show(0:Int) < 23;decide),?_⟩;refine⟨_,U,_,_,U,U,⟨by decide,by decide⟩,?_⟩;refine⟨_,U,_,_,U,U,(by show(0:Int) < 4;decide),U,_,U,XM (λh0=>?_) λh0=>?_⟩
  ·refine⟨4,U,by decide,by decide,λl hl=>?_⟩;refine JG (n:=4) 0 (λk y _=>∃z,y=.str z/\isNameS z=true) X1 (λ_ _ _ _ _ h=>h) hp hl (by show 0 < 3;decide) (YG (by decide)) (λτ'=>∃v,τ'=[v,some (.str BIG),some (.int (c % 23))]) ⟨_,U⟩ ?_ ?_ ?_
   ·rintro τ' v ⟨w,rfl⟩;exact⟨v,U⟩
   ·rintro τ' k x H' R ⟨w,rfl⟩ hτ hit hk hs hp' mX hR;have ew:w=some x:=by simpa using hτ
    subst ew hit;obtain⟨c2,hc2,hm⟩:=Zt (xs:=BIG.cps.toList) (i:=c % 23) (by lia) (by rw[YEw];lia);refine⟨_,U,_,U,BIG,_,c2,U,U,YCp,hc2,_,U,_,_,U,U,.inl ⟨by decide,by decide⟩,_,_,U,U,_,U,_,_,U,U,⟨by decide,by decide⟩,_,_,U,U,_,_,U,U,(by show 1<=1000;decide),?_,?_,hR _ _ (YH.refl _) hp' ⟨_,U,YJ1 (YAv hm) ?_ ?_⟩⟩ <;> lia
   ·intro ys H' hy hP hs hp' hl';obtain⟨zs,rfl,hz⟩:=YAw hP;exact q l zs H' (by rw[YKF]at hy;exact hy) hz hs hp' hl hl'
  ·refine⟨_,U,_,_,U,U,⟨by decide,by decide⟩,_,_,U,U,(by show(0:Int) < 8;decide),_,U,(YDV (by lia) (by lia)).1,(YDV (by lia) (by lia)).2,?_⟩;refine Zu (lo:=0) (n:=(c / 23 / 4 % 8).toNat) (λi σ H2=>H2=H/\∃(z:Str) (v:Option V),σ=[some (.int (c / 23)),some (.str BIG),some (.int (c % 23)),v,some (.str z),none]/\z.length=i/\z.cps.toList.all ZT=true) ⟨U,_,none,U,(by decide +kernel),(by decide +kernel)⟩ ?_ ?_
   ·rintro i σ H2 hi ⟨rfl,z,v,rfl,hz,sO⟩;have hi8:i < 8:=by lia
    obtain⟨c2,hc2,hm⟩:=Zt (xs:=BIG.cps.toList) (i:=c / 23 * (0 + (i:Int) + 3) / 7 % 26) (by lia) (by rw[YEw];lia);refine⟨_,U,_,U,_,U,_,U,_,_,U,U,_,_,U,U,.inl ⟨by lia,by lia⟩,_,_,U,U,⟨by decide,by decide⟩,_,_,U,U,(by show(0:Int) < 26;decide),BIG,_,c2,U,U,YCp,hc2,z,_,U,U,YG (by show z.length + 1<=1000;lia),?_⟩;refine⟨U,z ++ ⟨#[c2]⟩,_,U,by rw[slen,hz];rfl,?_⟩;rw[YBL,List.all_append,sO];show(true && [c2].all ZT)=true;rw[YLV,YAv hm];rfl
   ·rintro σ H2 ⟨rfl,z,v,rfl,hz,sO⟩;have RG:z.length<=7:=by lia
    refine⟨_,U,_,_,U,U,⟨by decide,by decide⟩,_,U,z,U,YG (by lia),_,_,U,U,_,_,U,U,(by show(0:Int) < (z.length:Int) + 1;lia),?_⟩;have a0:0<=c / 23 / 32 % ((z.length:Int) + 1):=YLd _ (by lia);have a1:c / 23 / 32 % ((z.length:Int) + 1) < (z.length:Int) + 1:=YLM _ (by lia);obtain⟨at_,hat⟩:∃a,a=c / 23 / 32 % ((z.length:Int) + 1):=⟨_,U⟩;rw[<-hat]at a0 a1;refine⟨4,U,by decide,by decide,λl hl=>?_⟩;refine JG (n:=4) 0 (λk y _=>∃z,y=.str z/\isNameS z=true) X1 (λ_ _ _ _ _ h=>h) hp hl (by show 0 < 5;decide) (YG (by decide)) (λτ'=>∃v,τ'=[v,some (.int at_),some (.str z),some (.str BIG),some (.int (c % 23))]) ⟨none,by rw[hat];rfl⟩ ?_ ?_ ?_
    ·rintro τ' v ⟨w,rfl⟩;exact⟨v,U⟩
    ·rintro τ' k x H' R ⟨w,rfl⟩ hτ hit hk hs hp' mX hR;have ew:w=some x:=by simpa using hτ
     subst ew hit;obtain⟨c2,hc2,hm⟩:=Zt (xs:=BIG.cps.toList) (i:=c % 23 + (0 + (k:Int))) (by lia) (by rw[YEw];lia);have q1:=Txt.slice_le z none (some at_);have q2:=Txt.slice_le z (some at_) none;refine⟨_,U,_,U,_,U,z,U,YG (by lia),_,U,_,U,_,U,_,_,U,U,BIG,_,c2,U,U,YCp,hc2,_,_,U,U,YG (by show _ + 1<=1000;lia),_,U,_,U,_,U,z,U,YG (by lia),_,_,U,U,YG (by rw[slen];show _ + 1 + _<=1000;lia),hR _ _ (YH.refl _) hp' ⟨_,U,YJ0 RG sO (YAv hm) a0 (by lia)⟩⟩
    ·intro ys H' hy hP hs hp' hl';obtain⟨zs,rfl,hz⟩:=YAw hP;exact q l zs H' (by rw[YKF]at hy;exact hy) hz hs hp' hl hl'
theorem YDi:YV ["_law_cell"] ["_law_cell"] (YJ Xj):=⟨U,U,U,by decide +kernel,U,by decide +kernel,by decide +kernel⟩
theorem YDj {f:Addr}{fd:FuncData} (F:Fun K "_law_worth" "_law_worth" Xj f fd) (T:Txt K mg C):Yz P w K mg base CX0 1 f fd ["_law_cell"] (YF8):=by
 refine F.ok YDi (λvs H Q E h=>?_) (λaK A outer s H vs Q E hr h=>?_)
 ·cases h;subst_vars;rfl
 ·obtain⟨c,rfl,q⟩:=h;refine⟨_,(YD (Yt (YW Xr (YQ Yy (pv 0) YE) YE (YY _)) (YF (YT (YQ Yy (YQ ZL (pv 0) YE) (YQ Y4 (YQ YGN YE YE) YE)))) YZ)
   (YF (YT (YQ Yy (YQ ZL (pv 0) YE) YE)))),?_⟩
  have big:(1000:Int)<=10 ^ 60:=by decide
  refine⟨_,U,_,_,U,U,(by show(0:Int) < 3;decide),U,_,U,XM (λ_=>?_) λ_=>?_⟩
  ·refine⟨_,U,_,_,U,U,⟨by decide,by decide⟩,_,_,U,U,⟨by decide,by decide,by decide⟩,_,_,U,U,_,_,U,U,(by show(0:Int) < 10 ^ (60:Int).toNat + 1;decide),q _ ?_ ?_⟩
   ·exact YLd _ (by decide)
   ·exact Int.le_of_lt_add_one (YLM _ (by decide))
  ·refine⟨_,U,_,_,U,U,⟨by decide,by decide⟩,_,_,U,U,(by show(0:Int) < 4;decide),q _ ?_ ?_⟩
   ·show 0<=c / 3 % 4
    lia
   ·show c / 3 % 4<=10 ^ 60
    lia
theorem Zm:YV ["_law_cell","_law_menu","_law_most","_law_size","_law_parts_here","_law_k"] ["_law_cell","_law_menu","_law_most"] (YJ Xk):=⟨U,U,U,by decide +kernel,U,by decide +kernel,by decide +kernel⟩
theorem YDk {f:Addr}{fd:FuncData} (F:Fun K "_law_parts" "_law_parts" Xk f fd) (T:Txt K mg C):Yz P w K mg base CX0 1 f fd ["_law_cell","_law_menu","_law_most"] (YHn):=by
 refine F.ok Zm (λvs H Q E h=>?_) (λaK A outer s H vs Q E hr h=>?_)
 ·cases h;subst_vars;rfl
 ·obtain⟨c,m,zs,n,rfl,hm,z1,z2,n0,n6,hp,q⟩:=h;refine⟨_,(YD (YK (i:=3) Zm.nd rfl (Or.inl rfl) (YQ Yy (pv 0) (YQ Y4 (pv 2) YE)))
   (YD (YK (i:=0) Zm.nd rfl (Or.inl rfl) (YQ ZL (pv 0) (YQ Y4 (pv 2) YE)))
   (YD (YK (i:=4) Zm.nd rfl (Or.inl rfl) (Y7 YB))
   (YD (ZH PassesOwn.never rfl (ZJ rfl T.aO (YA (pv 3) YB)) (Yb (i:=5) Zm.nd rfl (Or.inl rfl)) (YD (ZG (ZS K rfl YKc YKp YKo Yx (pv 4) (YA (YU (Yc K rfl) (pv 1) (YQ Yy (pv 0) (YO (YR K rfl) (by rfl) T.aG YKP (YA (pv 1) YB))) (λ_ _=>rfl)) YB)))
   (YF (YK (i:=0) Zm.nd rfl (Or.inl rfl) (YQ ZL (pv 0) (YO (YR K rfl) (by rfl) T.aG YKP (YA (pv 1) YB)))))))
   (YF (YT (Zv (YCg K rfl) (by rfl) T.jJ YLk (YA (pv 4) YB)))))))),?_⟩
  refine⟨_,U,_,U,_,_,U,U,_,_,U,U,(by show(0:Int) < n + 1;lia),?_⟩;refine⟨_,U,_,U,_,_,U,U,_,_,U,U,⟨by lia,by lia⟩,?_⟩;have s0:0<=c % (n + 1):=YLd _ (by lia);have s1:c % (n + 1) < n + 1:=YLM _ (by lia);obtain⟨sz,hsz⟩:∃sz,sz=c % (n + 1):=⟨_,U⟩;rw[<-hsz]at s0 s1;refine⟨YKm _,λl hl=>?_⟩;refine⟨_,U,sz,by rw[hsz],(YDV (by lia) (by lia)).1,(YDV (by lia) (by lia)).2,?_⟩;have nml:m≠l:=Yh hm hl;refine Zu (lo:=0) (n:=sz.toNat) (λi σ H2=>∃(ps:List Str) (x:Int) (v:Option V),H2=upd H l (.lst (ps.map V.str))/\ps.length=i/\(∀p∈ps,p∈zs)/\σ=[some (.int x),some (.ref m),some (.int n),some (.int sz),some (.ref l),v]) ⟨[],_,none,U,U,by simp,by rw[hsz];rfl⟩ ?_ ?_
  ·rintro i σ H2 hi ⟨ps,x,v,rfl,hpl,hpm,rfl⟩;have hm2:upd H l (.lst (ps.map V.str)) m=some (.lst (zs.map V.str)):=by rw[YN nml];exact hm
   have sO:((zs.map V.str).length:Int)=(zs.length:Int):=by rw[YKF]
   obtain⟨y,hy,hmem⟩:=Zt (xs:=zs.map V.str) (i:=x % ((zs.map V.str).length:Int)) (YLd _ (by lia)) (YLM _ (by lia));obtain⟨z,hz,rfl⟩:=YKU.mp hmem;refine⟨_,U,.inl ⟨U,_,SqL.of YC⟩,_,U,_,U,_,U,m,_,U,.inl (SqL.of hm2),_,_,U,U,(by lia),m,_,_,_,U,U,SqL.of hm2,hy,l,_,.str z,U,U,YC,?_,?_⟩
   ·rw[YKF];exact YKi (show _ < 1000 by lia) (YG (YKH _))
   ·refine⟨_,U,_,U,m,zs.map V.str,U,.inl (SqL.of ?_),_,_,U,U,⟨by show(0:Int) < ((zs.map V.str).length:Int);lia,by show((zs.map V.str).length:Int) < 1073741824;lia⟩,ps ++ [z],_,_,?_,by rw[YKJ,hpl];rfl,?_,U⟩
    ·rw[YAH,YN nml];exact hm
    ·rw[YAH,YKW];rfl
    ·intro p hp;rcases YKu.mp hp with h |h
     ·exact hpm p h
     ·rw[YKf.mp h];exact hz
  ·rintro σ H2 ⟨ps,x,v,rfl,hpl,hpm,rfl⟩;refine⟨_,U,l,_,U,.inl ⟨SqL.of YC,λt ht=>?_⟩⟩;have s2:=YH.upd (o:=.lst (ps.map V.str)) hl;exact q t ps _ (by lia) hpm (s2.trans (YH.upd ht)) ((hp.upd rfl).upd rfl) (s2.free ht) YC
end
theorem YJ2 {H:Hp}{ys:List V}{a b:Int} (h:YS H ys [D.int a,D.int b]):ys=[.int a,.int b]:=by
 cases ys with
 |nil=>unfold YS at h;exact h.elim
 |cons y1 ys=>
  unfold YS at h;obtain⟨h1,h2⟩:=h;cases ys with
  |nil=>unfold YS at h2;exact h2.elim
  |cons y2 ys=>
   unfold YS at h2;obtain⟨h2,h3⟩:=h2;cases ys with
   |cons y3 ys=>unfold YS at h3;exact h3.elim
   |nil=>rw[h1.to_int,h2.to_int]
def YBU (bs:List (List Str)):List Str:=bs.reverse.flatten
theorem YEP (bs:List (List Str)) (b:List Str):YBU (bs ++ [b])=b ++ YBU bs:=by
 unfold YBU;rw[YK1];rfl
theorem YJ3 (xs:List V) (n:Nat) (h:n<=xs.length):XE xs none (some (n:Int))=xs.take n:=by
 unfold XE;have e2:HT.sIx xs.length xs.length (some (n:Int))=min n xs.length:=HT.sIx_nat _ _ n;rw[e2,Nat.min_eq_left h];rfl
theorem YJ4 (xs:List V) (n:Nat) (h:n<=xs.length):XE xs (some (n:Int)) none=xs.drop n:=by
 unfold XE;have e2:HT.sIx xs.length 0 (some (n:Int))=min n xs.length:=HT.sIx_nat _ _ n;rw[e2,Nat.min_eq_left h];show(xs.drop n).take (xs.length - n)=_;rw[YLO (by rw[YK4];exact YKH _)]
theorem YIg {s s':Sz} (h:∀z,look s z=look s' z) (ps:List Str):∀a,ZA s 0 ps a=ZA s' 0 ps a:=by
 induction ps with
 |nil=>intro a;rfl
 |cons p ps ih=>
  intro a;unfold ZA J6;rw[h p];split
  ·rename_i hq
   rfl
  ·rename_i m hq
   exact ih _
theorem Jb {g:YX}{s s':Sz} (h:Yp g 0 s) (f:Fix g 0 s) (h':Yp g 0 s') (f':Fix g 0 s') {ps:List Str}{m:Int} (e:Yg s 0 ps=some m):Yg s' 0 ps=some m:=by
 have:Yg s' 0 ps=Yg s 0 ps:=(YIg (YGl h f h' f') ps 1).symm;rw[this];exact e
theorem YDE {g:YX}{s s':Sz} (h:Yp g 0 s) (f:Fix g 0 s) (h':Yp g 0 s') (f':Fix g 0 s') {z0 z:Str} (hz:J7 g s z0 z):J7 g s' z0 z:=by
 induction hz with
 |start=>exact .start
 |step hr hsd _ hp hq ih=>
  obtain⟨m,em⟩:=hsd;exact .step hr ⟨m,Jb h f h' f' em⟩ ih hp hq
theorem YBv {g:YX}{s s':Sz} (h:Yp g 0 s) (f:Fix g 0 s) (h':Yp g 0 s') (f':Fix g 0 s') {k:Nat} (hz:XU g s k):XU g s' k:=by
 obtain⟨r,r0,YL,e1,e2,⟨m,em⟩,e4⟩:=hz;exact⟨r,r0,YL,e1,e2,⟨m,Jb h f h' f' em⟩,YDE h f h' f' e4⟩
theorem YG5 {g:YX}{s s':Sz} (h:Yp g 0 s) (f:Fix g 0 s) (h':Yp g 0 s') (f':Fix g 0 s') {z0:Str}{o:Sz} (w:Zy g s z0 o):Zy g s' z0 o:=⟨w.nd,w.has,w.nn,w.bd,λz v e=>YDE h f h' f' (w.rch z v e)⟩
theorem fix_one {g:YX}{s s':Sz} (h:Yp g 0 s) (f:Fix g 0 s) (h':Yp g 0 s') (f':Fix g 0 s') {o:Sz} (w:Jl g s o):Jl g s' o:=λr hr p hp m hh sp e1 e2 e3 e4=>by
 refine w r hr p hp m hh sp (Jb h' f' h f e1) e2 e3 ?_;rw[YGl h f h' f'];exact e4
theorem YG6 {g:YX}{s s':Sz} (h:Yp g 0 s) (f:Fix g 0 s) (h':Yp g 0 s') (f':Fix g 0 s') {z0:Str}{o:Sz} (w:DF g s z0 o):DF g s' z0 o:=⟨fix_one h f h' f' w.1,λp v e=>by
 rcases w.2 p v e with h1 |⟨r,m,hh,sp,a,b,c,d,e1,e2,e3⟩
 ·exact .inl h1
 ·exact .inr ⟨r,m,hh,sp,a,Jb h f h' f' b,c,d,e1,by rw[<-YGl h f h' f'];exact e2,e3⟩⟩
theorem YHo:∀{fs:List (Nat×Int)}{k:Nat},k∈fs.map (·.1)->∃v,(k,v)∈fs/\Jd (fsD fs) (Sum.inl (k:Int))=some (.int v)
 |[],k,h=>by cases h
 |p :: fs,k,h=>by
  show ∃v,(k,v)∈p :: fs/\Jd ((Sum.inl (p.1:Int),V.int p.2) :: fsD fs) (Sum.inl (k:Int))=some (.int v)
  by_cases e:p.1=k
  ·exact⟨p.2,by rw[<-e];exact YKd ..,by rw[ZW (by rw[e])]⟩
  ·rcases YKT.mp h with h |h
   ·exact absurd h.symm e
   ·obtain⟨v,h1,h2⟩:=YHo h;refine⟨v,YKY _ h1,?_⟩;rw[ZD (λz=>e (by have:=Sum.inl.inj z;omega))];exact h2
theorem YHp {k:Key}:∀{kvs:List (Key×V)},(∀v,¬(k,v)∈kvs)->Jd kvs k=none
 |[],_=>rfl
 |(a,b) :: r,h=>by
  rw[ZD (p:=(a,b)) (λe=>h b (by rw[<-e];exact YKd ..))];exact YHp λv hv=>h v (YKY _ hv)
def YDl (g:YX) (s:Sz) (k:Nat):Prop:=∀r0 YL r m o h,g=r0 :: YL->g[k]?=some r->Yg s 0 r.2.1=some m->Zy g s r0.1 o->DF g s r0.1 o->look o r.1=some h->h + m<=1000
def YGA (g:YX) (s:Sz) (k:Nat):Prop:=∃r0 YL r m o h,g=r0 :: YL/\g[k]?=some r/\Yg s 0 r.2.1=some m/\Zy g s r0.1 o/\DF g s r0.1 o/\look o r.1=some h/\1000 < h + m
def YBV (g:YX) (s:Sz) (k:Nat) (ks:List Nat):Prop:=∃r0 YL r m o h,g=r0 :: YL/\g[k]?=some r/\Yg s 0 r.2.1=some m/\Zy g s r0.1 o/\DF g s r0.1 o/\look o r.1=some h/\Yw g [r0.1] ks/\k∈ks/\(ks.length:Int)=h + m
inductive YB7 (CG:Addr) (CN:Addr) (CT:Addr) (vs:List V) (H:Hp) (Q:VK) (E:XK):Prop where
 |mk (x y:V) (d dn:D) (aY:vs=[x,y]) (aZ:Den H x d) (bN:d.short=true) (dC:Den H y dn) (gk:dn.short=true) (jG:YI H) (nJ:(JB d=false->E (.ref CG) none H)) (qg:(∀g s,d=ZZ g->Yf g=true->Yp g 0 s->Fix g 0 s->((∀k:Nat,dn=.int (k:Int)->¬XU g s k)->∀H',YH H H'->YI H'->E (.ref CN) none H')/\(∀k:Nat,dn=.int (k:Int)->XU g s k->(YGA g s k->∀H',YH H H'->YI H'->E (.ref CT) none H')/\(YDl g s k->∀lr ks H',YBV g s k ks->YH H H'->YI H'->H lr=none->H' lr=some (.lst (ks.map nV))->Q (.ref lr) H')))):YB7 CG CN CT vs H Q E
def YA4 (CG CN CT:Addr):Sp:=λvs H Q E=>YB7 CG CN CT vs H Q E
section
variable {P:Program}{w:World}{K:W.Frag}{mg:Str->Option Value}{base:Heap}{C:Adr}
theorem ZP:YV ["rules","sizes","number","smallest","steps","row","behind","upper","place","parts"] ["rules","sizes","number"] (YJ YA2):=⟨U,U,U,by decide +kernel,U,by decide +kernel,by decide +kernel⟩
theorem YGB {f:Addr}{fd:FuncData} (F:Fun K "row_down" "row_down" YA2 f fd) (T:Txt K mg C) (bJ:Yu P w K mg CX0 3 "smallest_rules" ["rules","sizes"] (YHk)) (gA:Yu P w K mg CX0 2 "steps_to" ["rules","steps","head"] (YEK)) (bu:Yu P w K mg CX0 3 "ways_down" ["rules","sizes"] (YG2)) (cg:Yu P w K mg CX0 2 "smallest_row" ["rules","smallest","parts"] (YDB)):Yz P w K mg base CX0 4 f fd ["rules","sizes","number"] (YEL):=by
 obtain⟨pX,nW,iB,iC,iD,iG⟩:=bJ.ok;obtain⟨vo,uB,m9,m_,ni,nj⟩:=gA.ok;obtain⟨lR,jV,dW,dX,dY,dZ⟩:=bu.ok;obtain⟨q_,qx,cj,cu,cz,cA⟩:=cg.ok;refine F.ok ZP (λvs H Q E h=>?_) (λaK A outer s H vs Q E hr h=>?_)
 ·cases h;subst_vars;rfl
 ·obtain⟨l,d,k,xs,r0,YL,s,r,m,rfl,hl,aF,hg,hd,hs,uU,er,em,uP,hbd,hp,q⟩:=h;have hu:=Jh hr;refine⟨_,(YD (YK (i:=3) ZP.nd rfl (Or.inl rfl) (YM (iB base) (hr.mono (by decide)) (by rfl) iC iD iG .nil Ye (YA (pv 0) (YA (pv 1) YB))))
   (YD (YK (i:=4) ZP.nd rfl (Or.inl rfl) (YU (Ya K rfl) (YM (dW base) (hr.mono (by decide)) (by rfl) dX dY dZ .nil Ye (YA (pv 0) (YA (pv 1) YB))) YE (λ_ _=>rfl)))
   (YD (YK (i:=5) ZP.nd rfl (Or.inl rfl) (Y7 YB))
   (YD (YK (i:=6) ZP.nd rfl (Or.inl rfl) (Y7 YB))
   (YD (ZH PassesOwn.never rfl (Je K rfl (YM (m9 base) (hr.mono (by decide)) (by rfl) m_ ni nj .nil Ye (YA (pv 0) (YA (pv 4) (YA (YU (Ya K rfl) (YU (Yc K rfl) (pv 0) (pv 2) (λ_ _=>rfl)) YE (λ_ _=>rfl)) YB))))) (YBG K rfl (n:=2) rfl (Z4 (Yb (i:=7) ZP.nd rfl (Or.inl rfl)) (Z4 (Yb (i:=8) ZP.nd rfl (Or.inl rfl)) YA9))) (YD (YK (i:=9) ZP.nd rfl (Or.inl rfl) (YU (Ya K rfl) (YU (Yc K rfl) (pv 0) (pv 7) (λ_ _=>rfl)) YE (λ_ _=>rfl)))
   (YD (ZG (ZS K rfl YKc YKp YKo Yx (pv 5) (YA (pv 7) YB)))
   (YD (ZG (ZS K rfl YKc YLY YLX YAK (pv 5) (YA (YM (cj base) (hr.mono (by decide)) (by rfl) cu cz cA .nil Ye (YA (pv 0) (YA (pv 3) (YA (Jp YHK (pv 9) XZ (Jc (pv 8))) YB)))) YB)))
   (YF (ZG (ZS K rfl YKc YKp YKo Yx (pv 6) (YA (Jp YHK (pv 9) (Jc (YQ Y4 (pv 8) YE)) XZ) YB))))))))
   (YD (ZG (ZS K rfl YKc YKp YKo Yx (pv 5) (YA (pv 2) YB)))
   (YD (ZG (ZS K rfl YKc YLY YLX YAK (pv 5) (YA (YM (cj base) (hr.mono (by decide)) (by rfl) cu cz cA .nil Ye (YA (pv 0) (YA (pv 3) (YA (YU (Ya K rfl) (YU (Yc K rfl) (pv 0) (pv 2) (λ_ _=>rfl)) YE (λ_ _=>rfl)) YB)))) YB)))
   (YD (ZH PassesOwn.never rfl (pi_revL K rfl rfl T.bH (YA (pv 6) YB)) (Yb (i:=9) ZP.nd rfl (Or.inl rfl)) (YF (ZG (ZS K rfl YKc YLY YLX YAK (pv 5) (YA (YM (cj base) (hr.mono (by decide)) (by rfl) cu cz cA .nil Ye (YA (pv 0) (YA (pv 3) (YA (pv 9) YB)))) YB)))))
   (YF (YT (pv 5))))))))))),?_⟩
  have gK:=Jk hg;have eZ:xs.length=(r0 :: YL).length:=by rw[aF.len,YKF]
  have ur:k < xs.length:=by rw[eZ];exact(YKR.mp er).1
  have hix:xs[k]?=some xs[k]:=YKK ur;obtain⟨r',tk,pk,cJ,ut,yg,RJ⟩:=ZM aF hix;rw[er]at cJ;cases cJ;have axk:atI xs (k:Int)=some (.ref tk):=by rw[<-ut];exact Yv hix
  refine⟨_,U,_,U,l,d,xs,r0 :: YL,s,U,hl,aF,hg,hd,hs,uU,hp,λdM e H1 hsm s1 p1 Ey hdM=>?_⟩;refine⟨_,U,_,U,l,d,xs,r0,YL,s,U,s1 _ _ hl,aF.same s1,hg,s1 _ _ hd,hs,p1,λt dO dS o bG H2 wy fx st s2 p2 ht hO hS=>⟨t,_,1,_,U,U,SqT.of ht,U,?_⟩⟩;obtain⟨h,eh⟩:=YC3 hs wy fx uP;have hle:=hbd o h wy ⟨fx,st.att⟩ eh;have hh0:=wy.nn _ _ eh;have hm:=JY hs.pos em;have hmn:=Z9 hs.pos r.2.1;obtain⟨g,eg⟩:∃g,r0 :: YL=g:=⟨_,U⟩;rw[eg]at aF hg hs uU er uP hbd eZ wy fx st q hsm gK;have partsOk:∀{num:Nat}{r:Yl},g[num]?=some r->r.2.1.length<=6:=λ{num r} er=>by
   unfold Yf at hg;rw[YKM]at hg;have hok:=YKj.mp hg.2 r (YKL er);unfold Zc at hok;simp only[YKM,YKt]at hok;exact hok.2.1.1
  refine⟨YKm _,λlr hlr=>⟨YKm _,λlb hlb=>?_⟩⟩;have s3:=YH.upd (o:=.lst []) hlr;have s4:=YH.upd (o:=.lst []) hlb;have nbr:lb≠lr:=λz=>by rw[z,YC]at hlb;cases hlb
  have ql:=s3.trans s4;have qF:=(s1.trans s2).trans ql;have rm:H lr=none:=(s1.trans s2).free hlr;have Ez:H lb=none:=(s1.trans s2).free (s3.free hlb);have r4:upd (upd H2 lr (.lst [])) lb (.lst []) lr=some (.lst (([]:List Nat).map nV)):=s4 _ _ YC;have b4:upd (upd H2 lr (.lst [])) lb (.lst []) lb=some (.lst []):=YC;have p4:YI (upd (upd H2 lr (.lst [])) lb (.lst [])):=(p2.upd rfl).upd rfl;have rn:H1 lr=none:=s2.free hlr;have zR:H1 lb=none:=s2.free (s3.free hlb);have QG:=s2.trans ql;revert ql qF r4 b4 p4 QG;generalize upd (upd H2 lr (.lst [])) lb (.lst [])=H4;intro ql qF r4 b4 p4 QG;refine⟨_,U,_,U,_,U,_,U,l,_,_,_,U,U,SqL.of (qF _ _ hl),axk,tk,_,0,_,U,U,SqT.of (qF _ _ yg),U,l,dS,xs,g,s,o,r0.1,r.1,h,bG,U,qF _ _ hl,aF.same qF,hg,ql _ _ hS,hs,wy,fx,st.mono ql,eh,by omega,p4,λlp ts stp H5 nU wR s5 p5 tE yS=>?_⟩;obtain⟨f,f0,fn,fb,fs⟩:=nU.trace hs.pos;have htl:ts.length=stp.length:=by rw[wR.len,YKF]
  have nlr:lp≠lr:=λz=>by rw[z,r4]at tE;cases tE
  have nlb:lp≠lb:=λz=>by rw[z,b4]at tE;cases tE
  have stepAt:∀{i:Nat}{y:V},ts[i]?=some y->∃num pl T,stp[i]?=some (num,pl)/\y=.ref T/\H5 T=some (.tup [.int ((num:Nat):Int),.int ((pl:Nat):Int)]):=λ{i y} hi=>by
   obtain⟨d',hd',dn⟩:=wR.get hi;rw[YKk]at hd';cases e1:stp[i]? with
   |none=>rw[e1]at hd';cases hd'
   |some np=>
    rw[e1]at hd';cases hd';obtain⟨T,ys,rfl,hT,dys⟩:=dn.to_tup;cases YJ2 dys;exact⟨np.1,np.2,T,U,U,hT⟩
  have Wf:stp.length<=1000:=by
   have key:∀i,i<=stp.length->(i:Int)<=(f i).2:=λi=>by
    induction i with
    |zero=>intro _;rw[f0];exact YKz _
    |succ i ih=>
     intro hi;have h1:=ih (by omega);have e1:stp[i]?=some stp[i]:=YKK (by omega);obtain⟨r1,m1,Wx,_,_,h3,h4,h5,h6,h7⟩:=fs i stp[i].1 stp[i].2 e1;obtain⟨v,ev,hv⟩:=(Ym hs.pos h5).2 _ (YKL h3) h4;rw[h6]at ev;cases ev;omega
   have:=key stp.length (YKH _);rw[fn]at this;have this:(stp.length:Int)<=h:=this;omega
  refine⟨lp,U,⟨_,SqL.of yS⟩,?_⟩;refine Xv (K:=K) (a:=lp) (xs:=ts) (λi σ H6=>∃(ks:List Nat) (bs:List (List Str)) (qm:List V) (v7 v8 v9:Option V),σ=[some (.ref l),some (.ref d),some (.int (k:Int)),some (.ref dM),some (.ref dS),some (.ref lr),some (.ref lb),v7,v8,v9]/\H6 lr=some (.lst (ks.map nV))/\H6 lb=some (.lst qm)/\X9 H6 qm bs/\bs.length=i/\
    (∀b∈bs,b.length<=6/\∀x∈b,isQ x=false->∃v,look s x=some v)/\(∀au,Yw g ((f i).1 :: unQ (YBU bs)) au->Yw g [r0.1] (ks ++ au))/\(ks.length:Int) + Y3 s (YBU bs)=(f i).2/\Zj H5 H6/\YH H1 H6/\H6 lp=some (.lst ts)/\YI H6)
   ⟨[],[],[],none,none,none,U,s5 _ _ r4,s5 _ _ b4,⟨U,λj b hb=>by cases hb⟩,U,(λb hb=>nomatch hb),λau hr'=>by rw[f0]at hr';exact hr',by rw[f0];rfl,λT xs e=>e,QG.trans s5,yS,p5⟩ ?_ ?_ ?_
  ·rintro i σ H6 _ ⟨_,_,_,_,_,_,rfl,_,_,_,_,_,_,_,_,_,tG,_⟩;exact SqL.of tG
  ·rintro i y σ H6 hi ⟨ks,bs,qm,v7,v8,v9,rfl,r6,b6,QH,zy,bok,dB,hsum,QJ,qi,tG,p6⟩;obtain⟨num,pl,T,estp,rfl,hT⟩:=stepAt hi;obtain⟨r1,m1,Wx,zz,RK,epl,hq1,Wy,QK,RL⟩:=fs i num pl estp;have hilt:i < stp.length:=(YKR.mp estp).1;have hpl:pl < r1.2.1.length:=(YKR.mp epl).1;have h61:=partsOk zz;have iJ:=s1.trans qi;have hnx:num < xs.length:=by rw[eZ];exact(YKR.mp zz).1
   have wU:xs[num]?=some xs[num]:=YKK hnx;obtain⟨r1',tt,pp,yU,RM,yV,gJ⟩:=ZM aF wU;rw[zz]at yU;cases yU;have axn:atI xs (num:Int)=some (.ref tt):=by rw[<-RM];exact Yv wU
   have esplit:r1.2.1=r1.2.1.take pl ++ (f (i + 1)).1 :: r1.2.1.drop (pl + 1):=by
    have hx:r1.2.1[pl]=(f (i + 1)).1:=YKr ((YKK hpl).symm.trans epl);rw[<-hx,<-YLJ hpl,List.take_append_drop]
   have hm1:=JY hs.pos Wy;have e3:Y3 s r1.2.1=Y3 s (r1.2.1.take pl) + (Wx + Y3 s (r1.2.1.drop (pl + 1))):=by
    have h1:r1.2.1.take pl ++ (f (i + 1)).1 :: r1.2.1.drop (pl + 1)=r1.2.1.take pl ++ ([(f (i + 1)).1] ++ r1.2.1.drop (pl + 1)):=rfl;rw[<-YEJ hq1 QK,<-JX,<-JX,<-h1,<-esplit]
   have na:=Z9 hs.pos (r1.2.1.take pl);have nb:=Z9 hs.pos (r1.2.1.drop (pl + 1));have npd:=Z9 hs.pos (YBU bs);have fbi:=(fb (i + 1) (by omega)).2;have fbi0:=(fb i (by omega)).1;have rM:∀x∈r1.2.1,isQ x=false->∃v,look s x=some v:=λx hx hq=>by
    obtain⟨v,ev,_⟩:=(Ym hs.pos Wy).2 x hx hq;exact⟨v,ev⟩
   refine⟨T,_,U,SqT.of (QJ _ _ hT),U,_,_,U,_,_,U,U,?_⟩;refine⟨_,U,_,U,l,_,_,_,U,U,SqL.of (iJ _ _ hl),axn,tt,_,1,_,U,U,SqT.of (iJ _ _ yV),U,?_⟩;refine⟨_,U,.inl ⟨U,_,SqL.of r6⟩,_,U,lr,_,_,U,U,r6,by rw[YKF,sizeLine_eq];omega,?_⟩;have QL:ks.map nV ++ [V.int (num:Int)]=(ks ++ [num]).map nV:=by rw[YKW];rfl
   rw[QL];have rN:YH H1 (upd H6 lr (.lst ((ks ++ [num]).map nV))):=qi.put rn;have QM:=QJ.trans (Zj.lst (o:=.lst ((ks ++ [num]).map nV)) r6);have vU:=QH.mono (Zj.lst (o:=.lst ((ks ++ [num]).map nV)) r6);have r7:upd H6 lr (.lst ((ks ++ [num]).map nV)) lr=some (.lst ((ks ++ [num]).map nV)):=YC;have b7:upd H6 lr (.lst ((ks ++ [num]).map nV)) lb=some (.lst qm):=by rw[YN nbr];exact b6
   have QQ:upd H6 lr (.lst ((ks ++ [num]).map nV)) lp=some (.lst ts):=by rw[YN nlr];exact tG
   have p7:YI (upd H6 lr (.lst ((ks ++ [num]).map nV))):=p6.upd rfl;revert rN QM vU r7 b7 QQ p7;generalize upd H6 lr (.lst ((ks ++ [num]).map nV))=H7;intro rN QM vU r7 b7 QQ p7;have qp:=s1.trans rN;refine⟨_,U,.inl ⟨U,_,SqL.of r7⟩,_,U,_,U,_,U,_,U,_,U,pp,_,U,qp _ _ gJ,λpa H8 s8 q8 _ hpa=>?_⟩;rw[YJ3 _ _ (by rw[YKF];omega),<-List.map_take]at hpa;refine⟨l,dM,pa,xs,g,s,e,r1.2.1.take pl,U,(qp.trans s8) _ _ hl,aF.same (qp.trans s8),hg,(rN.trans s8) _ _ hdM,hs,hsm,hpa,by rw[YK3];omega,λx hx=>rM x (List.mem_of_mem_take hx),by omega,q8 p7,λlx kx H9 QR QT s9 p9 zT zU=>?_⟩;have vV:=s8.trans s9;refine⟨lr,lx,_,_,U,U,vV _ _ r7,zU,by rw[YKF,YKF,YKJ,sizeLine_eq];show ks.length + 1 + kx.length<=_;omega,?_⟩;have QV:(ks ++ [num]).map nV ++ kx.map nV=(ks ++ [num] ++ kx).map nV:=by rw[YKW (l₂:=kx)]
   rw[QV];have r9:=vV _ _ r7;have s110:YH H1 (upd H9 lr (.lst ((ks ++ [num] ++ kx).map nV))):=(rN.trans vV).put rn;have vW:=(QM.trans (Zj.of vV)).trans (Zj.lst (o:=.lst ((ks ++ [num] ++ kx).map nV)) r9);have jy:=(vU.mono (Zj.of vV)).mono (Zj.lst (o:=.lst ((ks ++ [num] ++ kx).map nV)) r9);have r10:upd H9 lr (.lst ((ks ++ [num] ++ kx).map nV)) lr=some (.lst ((ks ++ [num] ++ kx).map nV)):=YC;have uv:upd H9 lr (.lst ((ks ++ [num] ++ kx).map nV)) lb=some (.lst qm):=by rw[YN nbr];exact vV _ _ b7
   have vX:upd H9 lr (.lst ((ks ++ [num] ++ kx).map nV)) lp=some (.lst ts):=by rw[YN nlr];exact vV _ _ QQ
   have nZ:YI (upd H9 lr (.lst ((ks ++ [num] ++ kx).map nV))):=p9.upd rfl;revert s110 vW jy r10 uv vX nZ;generalize upd H9 lr (.lst ((ks ++ [num] ++ kx).map nV))=H10;intro s110 vW jy r10 uv vX nZ;have s010:=s1.trans s110;refine⟨_,U,.inl ⟨U,_,SqL.of uv⟩,_,U,_,U,_,_,U,U,_,U,pp,_,U,s010 _ _ gJ,λpb H11 rO RN _ Wz=>?_⟩;have RP:((pl:Int) + 1)=((pl + 1:Nat):Int):=by omega
   rw[RP,YJ4 _ _ (by rw[YKF];omega),<-List.map_drop]at Wz;have QW:=rO _ _ uv;refine⟨lb,_,_,U,U,QW,by rw[jy.1,zy,sizeLine_eq];omega,?_⟩;refine⟨ks ++ [num] ++ kx,bs ++ [r1.2.1.drop (pl + 1)],_,_,_,_,U,by rw[YN nbr.symm];exact rO _ _ r10,YC,((jy.mono (Zj.of rO)).snoc Wz).mono (Zj.lst QW),by rw[YKJ,zy];rfl,λb hb=>?_,λau hr'=>?_,?_,(vW.trans (Zj.of rO)).trans (Zj.lst QW),(s110.trans rO).put zR,by rw[YN nlb];exact rO _ _ vX,(RN nZ).upd rfl⟩
   ·rcases YKu.mp hb with hb |hb
    ·exact bok b hb
    ·rw[YKf.mp hb];exact⟨by rw[YK4];omega,λx hx=>rM x (List.mem_of_mem_drop hx)⟩
   ·rw[YEP,YAZ]at hr';have e1:ks ++ [num] ++ kx ++ au=ks ++ (num :: (kx ++ au)):=by simp
    rw[e1];refine dB _ ?_;rw[<-RK];refine Yw.cons zz ?_;have e2:unQ r1.2.1=unQ (r1.2.1.take pl) ++ (f (i + 1)).1 :: unQ (r1.2.1.drop (pl + 1)):=by
     conv=>lhs;rw[esplit]
     rw[YAZ];congr 1;unfold unQ;rw[YKv,hq1];rfl
    rw[e2,YK0];exact QR.app hr'
   ·rw[YEP,JX,YKJ,YKJ,RL];show((ks.length + 1 + kx.length:Nat):Int) + _=_;omega
  ·rintro σ H6 ⟨ks,bs,qm,v7,v8,v9,rfl,r6,b6,QH,zy,bok,dB,hsum,QJ,qi,tG,p6⟩;rw[htl]at dB hsum zy;rw[fn]at dB hsum;have hsum:(ks.length:Int) + Y3 s (YBU bs)=h:=hsum;have npd:=Z9 hs.pos (YBU bs);have iJ:=s1.trans qi;refine⟨_,U,.inl ⟨U,_,SqL.of r6⟩,_,U,lr,_,_,U,U,r6,by rw[YKF,sizeLine_eq];omega,?_⟩;have QL:ks.map nV ++ [V.int (k:Int)]=(ks ++ [k]).map nV:=by rw[YKW];rfl
   rw[QL];have rN:YH H1 (upd H6 lr (.lst ((ks ++ [k]).map nV))):=qi.put rn;have vU:=QH.mono (Zj.lst (o:=.lst ((ks ++ [k]).map nV)) r6);have r7:upd H6 lr (.lst ((ks ++ [k]).map nV)) lr=some (.lst ((ks ++ [k]).map nV)):=YC;have b7:upd H6 lr (.lst ((ks ++ [k]).map nV)) lb=some (.lst qm):=by rw[YN nbr];exact b6
   have p7:YI (upd H6 lr (.lst ((ks ++ [k]).map nV))):=p6.upd rfl;revert rN vU r7 b7 p7;generalize upd H6 lr (.lst ((ks ++ [k]).map nV))=H7;intro rN vU r7 b7 p7;have qp:=s1.trans rN;have sizedk:∀x∈r.2.1,isQ x=false->∃v,look s x=some v:=λx hx hq=>by
    obtain⟨v,ev,_⟩:=(Ym hs.pos em).2 x hx hq;exact⟨v,ev⟩
   refine⟨_,U,.inl ⟨U,_,SqL.of r7⟩,_,U,_,U,_,U,_,U,l,_,_,_,U,U,SqL.of (qp _ _ hl),axk,tk,_,1,_,U,U,SqT.of (qp _ _ yg),U,l,dM,pk,xs,g,s,e,r.2.1,U,qp _ _ hl,aF.same qp,hg,rN _ _ hdM,hs,hsm,qp _ _ RJ,partsOk er,sizedk,by omega,p7,λlx kx H8 QR QT s8 p8 zT zV=>?_⟩;have r8:=s8 _ _ r7;refine⟨lr,lx,_,_,U,U,r8,zV,by rw[YKF,YKF,YKJ,sizeLine_eq];show ks.length + 1 + kx.length<=_;omega,?_⟩;have yQ:(ks ++ [k]).map nV ++ kx.map nV=(ks ++ [k] ++ kx).map nV:=by rw[YKW (l₂:=kx)]
   rw[yQ];have QX:YH H1 (upd H8 lr (.lst ((ks ++ [k] ++ kx).map nV))):=(rN.trans s8).put rn;have QZ:=(vU.mono (Zj.of s8)).mono (Zj.lst (o:=.lst ((ks ++ [k] ++ kx).map nV)) r8);have r9:upd H8 lr (.lst ((ks ++ [k] ++ kx).map nV)) lr=some (.lst ((ks ++ [k] ++ kx).map nV)):=YC;have b9:upd H8 lr (.lst ((ks ++ [k] ++ kx).map nV)) lb=some (.lst qm):=by rw[YN nbr];exact s8 _ _ b7
   have p9:YI (upd H8 lr (.lst ((ks ++ [k] ++ kx).map nV))):=p8.upd rfl;revert QX QZ r9 b9 p9;generalize upd H8 lr (.lst ((ks ++ [k] ++ kx).map nV))=H9;intro QX QZ r9 b9 p9;refine⟨_,U,lb,_,U,.inl b9,?_⟩;refine YJi (K:=K) (a:=lb) (xs:=qm) (λj σ H10=>∃(kj:List Nat) (v9:Option V),σ=[some (.ref l),some (.ref d),some (.int (k:Int)),some (.ref dM),some (.ref dS),some (.ref lr),some (.ref lb),v7,v8,v9]/\H10 lr=some (.lst (kj.map nV))/\H10 lb=some (.lst qm)/\X9 H10 qm bs/\k∈kj/\
     (∀au,Yw g (unQ (bs.reverse.drop j).flatten) au->Yw g [r0.1] (kj ++ au))/\(kj.length:Int) + Y3 s (bs.reverse.drop j).flatten=h + m/\YH H1 H10/\YI H10)
    ⟨ks ++ [k] ++ kx,v9,U,r9,b9,QZ,by simp,λau hr'=>?_,?_,QX,p9⟩ ?_ ?_ ?_
   ·rw[YL0]at hr';have e1:ks ++ [k] ++ kx ++ au=ks ++ (k :: (kx ++ au)):=by simp
    rw[e1];exact dB _ (Yw.cons er (QR.app hr'))
   ·rw[YL0,YKJ,YKJ];show((ks.length + 1 + kx.length:Nat):Int) + Y3 s (YBU bs)=_;omega
   ·rintro j σ H10 _ ⟨_,_,rfl,_,uv,_⟩;exact SqL.of uv
   ·rintro j y σ H10 hj ⟨kj,v9,rfl,r10,uv,jy,vY,i_,jb,s110,nZ⟩;have hjl:j < qm.length:=by
     have:=(YKR.mp hj).1
     rwa [YKl]at this
    rw[YLS hjl]at hj;have RQ:j < bs.length:=by rw[<-jy.1];exact hjl
    have eb:bs.reverse[j]?=some bs[bs.length - 1 - j]:=by
     rw[YLS RQ];exact YKK (by omega)
    obtain⟨b,hb⟩:∃b,bs[bs.length - 1 - j]=b:=⟨_,U⟩;rw[hb]at eb;obtain⟨T,eT,hT⟩:=jy.2 (bs.length - 1 - j) b (by rw[<-hb];exact YKK (by omega));rw[jy.1,eT]at hj;cases hj;have hdrop:bs.reverse.drop j=b :: bs.reverse.drop (j + 1):=by
     obtain⟨hlt,hx⟩:=YKR.mp eb;rw[YLJ hlt,hx]
    have hbm:b∈bs:=by rw[<-hb];exact List.getElem_mem _
    obtain⟨RT,hbs⟩:=bok b hbm;rw[hdrop,List.flatten_cons]at i_ jb;rw[JX]at jb;have n1:=Z9 hs.pos b;have n2:=Z9 hs.pos (bs.reverse.drop (j + 1)).flatten;have s010:=s1.trans s110;refine⟨_,U,.inl ⟨U,_,SqL.of r10⟩,_,U,_,U,_,U,l,dM,T,xs,g,s,e,b,U,s010 _ _ hl,aF.same s010,hg,s110 _ _ hdM,hs,hsm,hT,RT,hbs,by omega,nZ,λly ky H11 RV hly rO RW EY wV=>?_⟩;have r11:=rO _ _ r10;refine⟨lr,ly,_,_,U,U,r11,wV,by rw[YKF,YKF,sizeLine_eq];omega,?_⟩;have Q0:kj.map nV ++ ky.map nV=(kj ++ ky).map nV:=by rw[YKW]
    rw[Q0];refine⟨kj ++ ky,_,U,YC,by rw[YN nbr];exact rO _ _ uv,(jy.mono (Zj.of rO)).mono (Zj.lst r11),YKx _ vY,λau hr'=>?_,?_,(s110.trans rO).put rn,RW.upd rfl⟩
    ·rw[YK0];refine i_ _ ?_;rw[YAZ];exact RV.app hr'
    ·rw[YKJ];omega
   ·rintro σ H10 ⟨kj,v9,rfl,r10,uv,jy,vY,i_,jb,s110,nZ⟩;have hall:bs.reverse.drop qm.length=[]:=by
     rw[jy.1];exact List.drop_eq_nil_of_le (by rw[YKl];exact YKH _)
    rw[hall]at i_ jb;refine⟨_,U,q lr kj o h H10 wy ⟨fx,st.att⟩ eh ?_ vY ?_ (s1.trans s110) nZ rm r10⟩
    ·have:=i_ [] .nil
     rwa [YKs]at this
    ·have e0:Y3 s ([]:List (List Str)).flatten=0:=rfl;rw[e0]at jb;omega
theorem J9:YV ["grammar","number","rules","sizes","found"] ["grammar","number"] (YJ YA3):=⟨U,U,U,by decide +kernel,U,by decide +kernel,by decide +kernel⟩
theorem YGC {f:Addr}{fd:FuncData} (F:Fun K "row_with" "row_with" YA3 f fd) (T:Txt K mg C) (aP:Yu P w K mg (CXo P w) 7 "checked" ["thing"] (YAQ C.NoGrammar)) (aq:Yu P w K mg CX0 3 "least_sizes" ["rules","sign_size"] (YBR)) (aQ:Yu P w K mg CX0 4 "sizes_with" ["rules","sizes"] (YC9)) (gB:Yu P w K mg CX0 4 "row_down" ["rules","sizes","number"] (YEL)) (bI:Yu P w K mg CX0 1 "is_whole" ["thing"] (Xu YBJ)):Yz P w K mg base (CXo P w) 8 f fd ["grammar","number"] (YA4 C.NoGrammar C.NoRow C.TooGreat):=by
 obtain⟨jF,iY,cL,cM,cN,cO⟩:=aP.ok;obtain⟨gh,dR,a_,bc,bf,bh⟩:=aq.ok;obtain⟨jW,jB,cW,cX,cY,cZ⟩:=aQ.ok;obtain⟨vq,uC,nq,nu,nA,nC⟩:=gB.ok;obtain⟨mW,lK,gm,gn,gq,gr⟩:=bI.ok;obtain⟨rA,bT⟩:=T.bT;refine F.okX J9 (λvs H Q E h=>?_) (λaK A outer s H vs Q E hr h=>?_)
 ·cases h;subst_vars;rfl
 ·obtain⟨x,y,d,dn,rfl,den,sh,dny,shy,hp,eG,q⟩:=h;have hu:=Jh hr;refine⟨_,(YD (YK (i:=2) J9.nd rfl (Or.inl rfl) (YM (cL base) (hr.mono (by decide)) (by rfl) cM cN cO .nil XO.on (YA (pv 0) YB)))
   (YD (YK (i:=3) J9.nd rfl (Or.inl rfl) (YM (a_ base) (hr.mono (by decide)) (by rfl) bc bf bh .nil Ye (YA (pv 2) (YA YE YB))))
   (YD (YK (i:=4) J9.nd rfl (Or.inl rfl) (YM (cW base) (hr.mono (by decide)) (by rfl) cX cY cZ .nil Ye (YA (pv 2) (YA (pv 3) YB))))
   (YD (Yt (PW.pt (Xq (JL (Z1 (YM (gm base) (hr.mono (by decide)) (by rfl) gn gq gr .nil Ye (YA (pv 1) YB)))) (XC (XW (JI hu (pv 1) (pv 4)))))) (YF (YCd XO T.nQ rfl (by rfl) T.nP (YA Yj YB))) YZ)
   (YD (Yt (YW op_gt (Zw hu (pv 4) (pv 1) (λ_ _=>rfl)) (ZF (v:=.int 1000) (by rfl) bT ⟨_,U⟩) (YY _)) (YF (YCd XO T.iR rfl (by rfl) T.iQ (YA Yj YB))) YZ)
   (YF (YT (YM (nq base) (hr.mono (by decide)) (by rfl) nu nA nC .nil Ye (YA (pv 2) (YA (pv 3) (YA (pv 1) YB))))))))))),?_⟩
  refine⟨_,U,x,d,U,den,sh,hp,λe l xs ds ed aF hl=>?_,eG⟩;obtain⟨g,eg,hg⟩:=YCM e;have eds:ds=g.map Yn:=by rw[eg]at ed;exact(D.lst.inj ed).symm
  subst eds;have s1:=YH.upd (o:=.lst xs) hl;refine⟨_,U,l,xs,g,0,U,YC,aF.same s1,hg,YKz _,hp.upd rfl,λdS s H' hs uU hd e'=>?_⟩;subst e';have s2:=YH.upd (o:=.dK (szD s)) hd;have qD:=s1.trans s2;obtain⟨qN,qK⟩:=q g s eg hg hs uU;refine⟨_,U,_,U,l,dS,xs,g,s,U,s2 _ _ YC,aF.same qD,hg,YC,hs,(hp.upd rfl).upd rfl,λdF fs H2 srt mem facts s3 p3 vh hdF=>?_⟩;have vZ:=qD.trans s3;cases hw:YBJ dn with
  |false=>
   refine⟨_,U,y,dn,U,dny.same vZ,shy,p3,?_⟩;rw[hw];refine⟨_,U,Z6 ⟨YG (by show 1<=1000;decide),qN (λk e=>by rw[e]at hw;cases hw) H2 vZ p3⟩⟩
  |true=>
  obtain⟨i,rfl⟩:∃i,dn=.int i:=by
   cases dn with
   |int i=>exact⟨i,U⟩
   |_=>cases hw
  cases dny.to_int;refine⟨_,U,.int i,.int i,U,.int _,by unfold D.short;rfl,p3,_,U,Y5 ?_⟩
  by_cases hi:∃k:Nat,i=(k:Int)/\XU g s k
  ·obtain⟨k,rfl,hnd⟩:=hi;obtain⟨qH,qL⟩:=qK k rfl hnd;obtain⟨r,r0,YL,qt,er,⟨m,em⟩,uP⟩:=id hnd;obtain⟨v,hmem,hval⟩:=YHo ((mem k).mpr hnd);obtain⟨o,wy,fx,fct⟩:=facts r0 YL qt;obtain⟨r',m',h,cJ,WD,eh,hv⟩:=fct _ hmem;rw[er]at cJ;cases cJ;rw[em]at WD;cases WD;have hv:v=h + m:=hv;have uq:∀rP au r' m' o' h',g=rP :: au->g[k]?=some r'->Yg s 0 r'.2.1=some m'->Zy g s rP.1 o'->DF g s rP.1 o'->look o' r'.1=some h'->h' + m'=v:=λrP au r' m' o' h' e1 e2 e3 w' f' e4=>by
    rw[qt]at e1;cases e1;rw[er]at e2;cases e2;rw[em]at e3;cases e3;rw[wy_uniq hs w' f' wy fx,eh]at e4;cases e4;exact hv.symm
   have dg:Z5 H2 dF (.int (k:Int)) (some (.int v)):=by
    have:=Z5.k (k:=Sum.inl (k:Int)) hdF;rw[hval]at this;exact this
   refine⟨_,U,_,U,dF,some (.int v),U,dg,_,U,Y5 ?_⟩;dsimp only[YDq];refine⟨_,U,_,U,dF,.int v,U,dg,_,_,U,U,_,U,?_⟩
   by_cases hle:1000 < v
   ·rw[YKN hle];exact Z6 ⟨YG (by show 1<=1000;decide),qH ⟨r0,YL,r,m,o,h,qt,er,em,wy,fx,eh,by rw[<-hv];exact hle⟩ H2 vZ p3⟩
   ·rw[YKO hle];refine Y5 ?_;have lo:YDl g s k:=λrP au r' m' o' h' e1 e2 e3 w' f' e4=>by rw[uq rP au r' m' o' h' e1 e2 e3 w' f' e4];omega
    have q:=qL lo;subst qt;refine⟨_,U,_,U,_,U,l,dS,k,xs,r0,YL,s,r,m,U,(s2.trans s3) _ _ YC,aF.same vZ,hg,s3 _ _ YC,hs,uU,er,em,uP,λo' h' w' f' e'=>lo r0 YL r m o' h' rfl er em w' f' e',p3,λlr ks o' h' H3 w' f' e' dB vY hlen s4 p4 rm hlr=>?_⟩;exact q lr ks H3 ⟨r0,YL,r,m,o',h',U,er,em,w',f',e',dB,vY,hlen⟩ (vZ.trans s4) p4 (vZ.free rm) hlr
  ·have hno:∀v,¬(Sum.inl i,v)∈fsD fs:=λv hv=>by
    unfold fsD at hv;obtain⟨p,hp,e⟩:=YKU.mp hv;cases e;exact hi ⟨p.1,U,(mem p.1).mp (YKU.mpr ⟨p,hp,U⟩)⟩
   have dg:Z5 H2 dF (.int i) none:=by
    have:=Z5.k (k:=Sum.inl i) hdF;rw[YHp hno]at this;exact this
   refine⟨_,U,_,U,dF,none,U,dg,_,U,Z6 ⟨YG (by show 1<=1000;decide),qN (λk e hn=>hi ⟨k,D.int.inj e,hn⟩) H2 vZ p3⟩⟩
end
theorem YBw:(["_law_sign"]:List Str).Nodup:=by decide +kernel
inductive YHq (K:W.Frag) (vs:List V) (H:Hp) (Q:VK):Prop where
 |mk (a:Addr) (ns:List Int) (m n:Int) (aY:vs=[.ref a,.int m,.int n]) (aZ:SqL K H a (ns.map V.int)) (bN:ns.length<=63) (dC:0<=m) (gk:m<=60) (jG:0<=n) (nJ:n<=6) (qg:YI H) (uT:∀l xs g H' (nm:List Str),Yf g=true->YH H H'->YI H'->H l=none->H' l=some (.lst xs)->YS (del H' l) xs (g.map Yn)->nm.length=4->(∀r∈g,r.1∈nm/\(r.2.1.length:Int)<=n)->Q (.ref l) H'):YHq K vs H Q
def YJ5 (K:W.Frag):Sp:=λvs H Q E_=>YHq K vs H Q
theorem ZU {r:Yl} (h:Zc r=true):r.2.1.length<=6/\∀p∈r.2.1,Y2 p=true:=by
 unfold Zc at h;simp only[YKM,YKt]at h;exact⟨h.2.1.1,YKj.mp h.2.1.2⟩
theorem YEQ {r:Yl} (h:Zc r=true):isNameS r.1=true:=by
 unfold Zc at h;rw[YKM]at h;exact h.1
theorem decS {x y:Str}:decide (V.str x=V.str y)=decide (x=y):=by
 by_cases h:x=y
 ·rw[YKN h,YKN (by rw[h])]
 ·rw[YKO h,YKO (λe=>h (V.str.inj e))]
theorem YDF (z:Str):isQ z=decide (z.cps.toList[0]?=some 39):=by
 have e0:(("'":Str))=⟨#[39]⟩:=by decide +kernel
 unfold isQ;rw[e0,YLF,YKt];have:=StrLaws.subAt_one z 39 0;unfold Txt.startswith;rw[YKM,YKt];exact this
theorem YA5 {p:Str} (h:Y2 p=true):∃c,atI p.cps.toList 0=some c/\p.length<=8/\decide (V.str ⟨#[c]⟩=V.str "'")=isQ p:=by
 have h8:=YFe h;have h1:0 < p.cps.toList.length:=by
  rw[YK2];unfold Y2 at h;rw[YLo]at h;rcases h with h |h
  ·unfold Xc at h;rw[YKM,YKM]at h;have:p.cps.size=2:=eq_of_beq h.1.1;omega
  ·unfold isNameS at h;rw[YKM,YKM]at h;have:1<=p.cps.size:=YKh h.1.1;omega
 have e:p.cps.toList[0]?=some p.cps.toList[0]:=YKK h1;refine⟨p.cps.toList[0],Yv (j:=0) e,h8,?_⟩;rw[YDF,e,decS];have e0:(("'":Str))=⟨#[39]⟩:=by decide +kernel
 rw[e0]
 by_cases hc:p.cps.toList[0]=39
 ·rw[YKN (by rw[hc]),YKN (by rw[hc])]
 ·rw[YKO (λz=>hc (by injection z with z;simpa using z)),YKO (λz=>hc (YKr z))]
def XH (e:Sz) (ps:List Str):List Str:=ps.filter λx=>!isQ x && (look e x).isNone
theorem YDG {e:Sz}{r:Yl}:XH e r.2.1=[]<->InK e r:=by
 unfold XH;rw[List.filter_eq_nil_iff];constructor
 ·intro h p hp hq;have:=h p hp;rw[hq]at this;cases hl:look e p with
  |none=>rw[hl]at this;exact absurd rfl this
  |some v=>exact YKU.mpr ⟨_,Z8 hl,U⟩
 ·intro h p hp;cases hq:isQ p with
  |true=>simp
  |false=>
   obtain⟨v,hv⟩:=YBm (h p hp hq);rw[hv];simp
theorem YCP (bs:List Str):eqD (.lst (bs.map D.str)) (.lst [])=decide (bs=[]):=by
 cases bs with
 |nil=>rfl
 |cons b bs=>rfl
theorem YB8 {K:W.Frag}{H:Hp}{p d lb:Addr}{ps:List Str}{e:Sz}{v:Option V}{Q:VK} (sJ:H p=some (.tup (ps.map V.str))) (hps:∀x∈ps,Y2 x=true) (h6:ps.length<=6) (hd:H d=some (.dK (szD e))) (pl:YI H) (hlb:H lb=none)
  (hq:∀H',YH H H'->YI H'->H' lb=some (.lst ((XH e ps).map V.str))->Q (.ref lb) H'):
  YAl (Itt K p) (JH 0) (tAnd (tTest (tOp rNe (tOp rIxS (tVar 0) (tC (.int 0))) (tC (.str "'")))) (tB (YHE (tVar 0) (tVar 1)))) (tVar 0) Q lb [v,some (.ref d)] H:=by
 have hJ:=(YD6 (SqT.of (K:=K) sJ)).g;rw[YKF]at hJ;refine comp_fm ps (λx=>if isQ x=true then none else if (look e x).isSome=true then none else some (.str x)) hJ pl hlb (YG (YKq h6 (by decide))) (λτ'=>∃v,τ'=[v,some (.ref d)]) ⟨_,U⟩ ?_ ?_
 ·rintro τ' k x y H' Q1 Q2 ⟨v,rfl⟩ hx hit hs hp' hQ1 hQ2;rw[YKk,hx]at hit;cases hit;obtain⟨c,hc,hlen,rQ⟩:=YA5 (hps x (YKL hx));refine⟨_,U,x,0,c,U,U,YG (by omega),hc,U,_,U,?_⟩;rw[rQ]
  by_cases hq:isQ x=true
  ·rw[hq];exact hQ2 _ _ ⟨_,U⟩ (YH.refl _) hp' (by rw[if_pos hq])
  ·have hq':isQ x=false:=YLH.mpr hq;rw[hq'];have ev:(Jd (szD e) (Sum.inr x)).isSome=(look e x).isSome:=by rw[ZY,YLC]
   refine⟨_,U,_,U,d,_,U,Z5.k (k:=Sum.inr x) (hs _ _ hd),_,U,?_⟩;rw[ev];cases hlk:look e x with
   |some v=>exact hQ2 _ _ ⟨_,U⟩ (YH.refl _) hp' (by rw[if_neg hq,hlk];rfl)
   |none=>exact⟨_,U,hQ1 _ _ _ ⟨_,U⟩ (YH.refl _) hp' (by rw[if_neg hq,hlk];rfl)⟩
 ·intro H3 s3 p3 h3;refine hq H3 s3 p3 ?_;rw[h3];unfold XH;rw[<-List.filterMap_eq_map,List.filterMap_filter];refine YLR (λf=>some (HO.lst (List.filterMap f ps))) (funext λx=>?_);cases isQ x <;> cases look e x <;> rfl
section
variable {P:Program}{w:World}{K:W.Frag}{mg:Str->Option Value}{base:Heap}{C:Adr}
theorem Ze:YV ["_law_script","_law_many","_law_most","_law_names_here","_law_signs_here","_law_menu","_law_rules","_law_k","_law_cell"] ["_law_script","_law_many","_law_most"] (YJ YAA):=⟨U,U,U,by decide +kernel,U,by decide +kernel,by decide +kernel⟩
theorem YFB {f:Addr}{fd:FuncData} (F:Fun K "_law_bare" "_law_bare" YAA f fd) (T:Txt K mg C) (c7:Yu P w K mg CX0 1 "_law_names" ["_law_cell"] (YHm)) (aR:Yu P w K mg CX0 2 "_law_mixed" ["_law_script","_law_k"] (YFA K)) (dh:Yu P w K mg CX0 1 "_law_signs" ["_law_cell"] (YHl)) (di:Yu P w K mg CX0 1 "_law_parts" ["_law_cell","_law_menu","_law_most"] (YHn)) (dj:Yu P w K mg CX0 1 "_law_worth" ["_law_cell"] (YF8)) (aH:Yu P w K mg CX0 1 "_law_cell_at" ["_law_script","_law_k"] (YGh K)):Yz P w K mg base CX0 3 f fd ["_law_script","_law_many","_law_most"] (YJ5 K):=by
 obtain⟨tH,rZ,jX,jY,jZ,j4⟩:=c7.ok;obtain⟨j5,jC,bz,bA,bC,bD⟩:=aR.ok;obtain⟨tK,sr,j6,j7,j8,j9⟩:=dh.ok;obtain⟨tL,su,j_,km,kE,kI⟩:=di.ok;obtain⟨tM,sE,kJ,kO,kW,kY⟩:=dj.ok;obtain⟨iZ,iK,bW,bY,bZ,b_⟩:=aH.ok;refine F.ok Ze (λvs H Q E h=>?_) (λaK A outer s H vs Q E hr h=>?_)
 ·cases h;subst_vars;rfl
 ·obtain⟨a,ns,m,n,rfl,hS,hn,m0,m1,n0,n1,hp,q⟩:=h;refine⟨_,(YD (YK (i:=3) Ze.nd rfl (Or.inl rfl) (YM (jX base) (hr.mono (by decide)) (by rfl) jY jZ j4 .nil Ye (YA (YM (bz base) (hr.mono (by decide)) (by rfl) bA bC bD .nil Ye (YA (pv 0) (YA YE YB))) YB)))
   (YD (YCL (N:=["_law_sign"]) (ρ:=[none]) (cl:=[]) (i:=4) Ze.nd rfl rfl rfl (Yr.plain rfl (by decide +kernel) (by decide +kernel) rfl (by simp)) (Je K rfl (YM (j6 base) (hr.mono (by decide)) (by rfl) j7 j8 j9 .nil Ye (YA (YM (bz base) (hr.mono (by decide)) (by rfl) bA bC bD .nil Ye (YA (pv 0) (YA YE YB))) YB))) (λ_ _ _ _ _=>(Yb (i:=0) YBw rfl (Or.inl rfl) (.inr rfl))) (λ_ _ _ _ _=>J5) (λ_ _ _ _ _=>(YQ Za Yj (pv 0))))
   (YD (YK (i:=5) Ze.nd rfl (Or.inl rfl) (YQ YCY (YQ YCY (pv 3) (pv 4)) (Y7 (YA (YU (Yc K rfl) (pv 4) YE (λ_ _=>rfl)) YB))))
   (YD (YK (i:=6) Ze.nd rfl (Or.inl rfl) (Y7 YB))
   (YD (ZH PassesOwn.never rfl (ZJ rfl T.aO (YA (YO (YH5 rfl) (by rfl) T.wL PyProof.Rows.Boot.«min» (YA (pv 1) (YA (YO (YH4 rfl) (by rfl) T.wM PyProof.Rows.Boot.«max» (YA YE (YA (YQ YEc (YO (YR K rfl) (by rfl) T.aG YKP (YA (pv 0) YB)) YE) YB))) YB))) YB)) (Yb (i:=7) Ze.nd rfl (Or.inl rfl)) (YD (YK (i:=8) Ze.nd rfl (Or.inl rfl) (YM (bz base) (hr.mono (by decide)) (by rfl) bA bC bD .nil Ye (YA (pv 0) (YA (YQ Y4 YE (pv 7)) YB))))
   (YF (ZG (ZS K rfl YKc YKp YKo Yx (pv 6) (YA (Zb (YA (YU (Yc K rfl) (pv 3) (YQ Yy (YQ Yy (pv 8) YE) YE) (λ_ _=>rfl)) (YA (YM (j_ base) (hr.mono (by decide)) (by rfl) km kE kI .nil Ye (YA (YQ ZL (pv 8) YE) (YA (pv 5) (YA (pv 2) YB)))) (YA (YM (kJ base) (hr.mono (by decide)) (by rfl) kO kW kY .nil Ye (YA (YM (bW base) (hr.mono (by decide)) (by rfl) bY bZ b_ .nil Ye (YA (pv 0) (YA (YQ Y4 YE (pv 7)) YB))) YB)) YB)))) YB))))))
   (YF (YT (pv 6)))))))),?_⟩
  refine⟨_,U,a,ns,0,U,hS,by decide,by decide,λv0 a0 b0=>⟨_,U,a0,by omega,hp,λln nm H1 n4 nN s1 p1 zq h1=>?_⟩⟩;refine⟨_,U,a,ns,1,U,s1.seq hS,by decide,by decide,λv1 _ _=>⟨_,U,p1,λlg c1 c2 c3 H2 g1 g2 g3 s2 p2 hlg h2=>⟨lg,U,⟨_,SqL.of h2⟩,λls hls=>?_⟩⟩⟩;refine JG (n:=3) 0 (λk y _=>∃z,y=.str z/\Y2 z=true) (YAo (SqL.of (K:=K) h2)) (λ_ _ _ _ _ h=>h) p2 hls YLL (YG (by decide)) (λτ'=>0 < τ'.length) YLL (λτ' v h=>by rw[YLZ];exact h) ?_ ?_
  ·intro τ' k y H' R _ hτ hit hk hs hp' mX hR;obtain⟨c,hc,rfl⟩:∃c:Nat,J3 c=true/\y=.str ⟨#[c]⟩:=by
    have hm:=YKL hit;simp only[YKT,YLG,or_false]at hm;rcases hm with rfl |rfl |rfl
    ·exact⟨c1,g1,U⟩
    ·exact⟨c2,g2,U⟩
    ·exact⟨c3,g3,U⟩
   exact⟨_,hτ,"'",_,U,U,YG (by show 1 + 1<=1000;decide),hR _ _ (YH.refl _) hp' ⟨_,U,YIR hc⟩⟩
  intro ys H3 hy hP s3 p3 h3;obtain⟨sg,rfl,WF⟩:=YAw hP;have sg3:sg.length=3:=by rw[YKF]at hy;exact hy
  have zA:=(s2.trans s3) _ _ h1;refine⟨_,U,_,U,ln,ls,_,_,U,U,zA,h3,YG (by rw[YKF,YKF];omega),λq1 hq1=>?_⟩;have t1:=YH.upd (o:=.lst (nm.map V.str ++ sg.map V.str)) hq1;obtain⟨y0,RX,hm0⟩:=Zt (xs:=sg.map V.str) (i:=0) (by decide) (by rw[YKF];omega);obtain⟨z0,yI,rfl⟩:=YKU.mp hm0;refine⟨_,U,ls,_,0,_,U,U,SqL.of (t1 _ _ h3),RX,YG (by show 1<=1000;decide),λq2 yP=>?_⟩;have t2:=YH.upd (o:=.lst [.str z0]) yP;refine⟨q1,q2,_,_,U,U,t2 _ _ YC,YC,YG (by simp only[YKJ,YKF,YKX,List.length_nil];omega),λlm RZ=>?_⟩;have e3:nm.map V.str ++ sg.map V.str ++ [V.str z0]=(nm ++ sg ++ [z0]).map V.str:=by rw[YKW,YKW];rfl
  rw[e3];have t3:=YH.upd (o:=.lst ((nm ++ sg ++ [z0]).map V.str)) RZ;have uD:∀p∈nm ++ sg ++ [z0],Y2 p=true:=λp hp=>by
   rcases YKu.mp hp with hp |hp
   ·rcases YKu.mp hp with hp |hp
    ·exact YEO (nN p hp)
    ·exact WF p hp
   ·rw[YKf.mp hp];exact WF z0 yI
  have wW:(nm ++ sg ++ [z0]).length=8:=by simp only[YKJ,YKX,List.length_nil];omega
  have tt:=(t1.trans t2).trans t3;have vM:=tt _ _ zA;have zB:upd (upd (upd H3 q1 (.lst (nm.map V.str ++ sg.map V.str))) q2 (.lst [.str z0])) lm (.lst ((nm ++ sg ++ [z0]).map V.str)) lm=some (.lst ((nm ++ sg ++ [z0]).map V.str)):=YC;have p5:YI (upd (upd (upd H3 q1 (.lst (nm.map V.str ++ sg.map V.str))) q2 (.lst [.str z0])) lm (.lst ((nm ++ sg ++ [z0]).map V.str))):=((p3.upd rfl).upd rfl).upd rfl;have s5:=((s1.trans s2).trans s3).trans tt;revert vM zB p5 s5;generalize upd (upd (upd H3 q1 (.lst (nm.map V.str ++ sg.map V.str))) q2 (.lst [.str z0])) lm (.lst ((nm ++ sg ++ [z0]).map V.str))=H5;intro vM zB p5 s5;obtain⟨menu,hmn⟩:∃M,nm ++ sg ++ [z0]=M:=⟨_,U⟩;rw[hmn]at zB uD wW;refine⟨YKm _,λl hl=>?_⟩;obtain⟨N,hN,N0,N1⟩:∃N:Int,(if (if ((ns.map V.int).length:Int) - 2 > 0 then ((ns.map V.int).length:Int) - 2 else 0) < m then (if ((ns.map V.int).length:Int) - 2 > 0 then ((ns.map V.int).length:Int) - 2 else 0) else m)=N/\0<=N/\N<=60:=by
   refine⟨_,U,?_,?_⟩
   ·repeat' split
    all_goals omega
   ·repeat' split
    all_goals omega
  have hSl:SqL K (upd H5 l (.lst [])) a (ns.map V.int):=(s5.trans (YH.upd hl)).seq hS;refine⟨_,U,_,U,a,_,U,.inl hSl,_,_,U,U,_,_,U,_,_,U,N,by rw[<-hN],(YDV (by omega) (by omega)).1,(YDV (by omega) (by omega)).2,?_⟩;refine Zu (lo:=0) (n:=N.toNat) (λi σ H6=>∃(g:YX) (xs:List V) (v7 v8:Option V),σ=[some (.ref a),some (.int m),some (.int n),some (.ref ln),some (.ref ls),some (.ref lm),some (.ref l),v7,v8]/\H6 l=some (.lst xs)/\YS (del H6 l) xs (g.map Yn)/\g.length=i/\g.all Zc=true/\YH H5 H6/\YI H6/\∀r∈g,r.1∈nm/\(r.2.1.length:Int)<=n)
   ⟨[],[],none,none,U,YC,.nil,U,U,YH.upd hl,p5.upd rfl,(λr hr=>nomatch hr)⟩ ?_ ?_
  ·rintro i σ H6 hi ⟨g,xs,v7,v8,rfl,h6,aF,rR,hgo,s6,p6,hnm⟩;have eZ:xs.length=i:=by rw[aF.len,YKF,rR]
   refine⟨_,U,_,U,_,_,U,U,a,ns,_,U,(s5.trans s6).seq hS,by omega,by omega,λv a1 b1=>?_⟩;obtain⟨y,hy1,hm1⟩:=Zt (xs:=nm.map V.str) (i:=v % 5 % 4) (by omega) (by rw[YKF];omega);obtain⟨hd,WK,rfl⟩:=YKU.mp hm1;refine⟨_,U,.inl ⟨U,_,SqL.of h6⟩,_,U,_,U,_,_,U,U,(by show(0:Int) < 5;decide),_,_,U,U,(by show(0:Int) < 4;decide),ln,_,_,_,U,U,SqL.of (s6 _ _ vM),hy1,?_⟩;refine⟨_,U,_,_,U,U,⟨by decide,by decide⟩,_,U,_,U,_,lm,menu,n,U,s6 _ _ zB,by omega,by omega,n0,n1,p6,λt ps H7 hps hpm s7 p7 nM ht=>?_⟩;refine⟨_,U,_,U,_,_,U,U,a,ns,_,U,((s5.trans s6).trans s7).seq hS,by omega,λv2=>⟨_,U,λwz w0 w1=>⟨YG (by show 3<=1000;decide),λtt yV=>?_⟩⟩⟩;have t8:=YH.upd (o:=.tup [.str hd,.ref t,.int wz]) yV;have ntl:tt≠l:=λz=>by
    have:=s7 _ _ h6;rw[z,this]at yV;cases yV
   have ntt:t≠l:=λz=>by
    rw[z,h6]at nM;cases nM
   refine⟨l,xs,_,U,U,(s7.trans t8) _ _ h6,YKi (show xs.length < 1000 by omega) (YG (YKH _)),?_⟩;refine⟨g ++ [(hd,ps,wz)],xs ++ [.ref tt],_,_,U,YC,?_,by rw[YKJ,rR];rfl,?_,((s6.trans s7).trans t8).put hl,(p7.upd rfl).upd rfl,λr hr=>?_⟩
   ·rw[YEn,YKW];refine(aF.same ((s7.trans t8).del l)).append (.cons ?_ .nil);refine .tup (show del _ l tt=some _ from ?_) (.cons (.str _) (.cons (.tup (show del _ l t=some _ from ?_) (YS.strs ps)) (.cons (.int _) .nil)))
    ·rw[YCh ntl];exact YC
    ·rw[YCh ntt];exact t8 _ _ ht
   ·rw[List.all_append,hgo];show(true && [((hd,ps,wz):Yl)].all Zc)=true;rw[YLV,YIS (r:=(hd,ps,wz)) (nN hd WK) (by show ps.length<=6;omega) (λp hp=>uD p (hpm p hp)) w0 w1];rfl
   ·rcases YKu.mp hr with hr |hr
    ·exact hnm r hr
    ·rw[YKf.mp hr];exact⟨WK,hps⟩
  ·rintro σ H6 ⟨g,xs,v7,v8,rfl,h6,aF,rR,hgo,s6,p6,hnm⟩;refine⟨_,U,q l xs g H6 nm ?_ (s5.trans s6) p6 (s5.free hl) h6 aF n4 hnm⟩;unfold Yf;rw[hgo,YKN (by omega)];rfl
end
abbrev XA:Stmt:=top 53
abbrev XB:Stmt:=top 54
abbrev YA6:Stmt:=top 55
theorem J0:(["_law_part","_law_some"]:List Str).Nodup:=by decide +kernel
theorem Jg:(["_law_part","_law_shorts"]:List Str).Nodup:=by decide +kernel
theorem YJ6 {t u:TS}{D:Z3}{σ:St}{H:Hp} (M:St->Hp->Prop) (YL:∀σ' H',M σ' H'->u D σ' H') (h:(∀σ' H',M σ' H'->u D σ' H')->t { D with nx:=u D } σ H):tSeq t u D σ H:=h YL
inductive YHr (vs:List V) (H:Hp) (Q:VK):Prop where
 |mk (l:Addr) (xs:List V) (g:YX) (nm:List Str) (aY:vs=[.ref l]) (aZ:H l=some (.lst xs)) (bN:YS H xs (g.map Yn)) (dC:Yf g=true) (gk:nm.length=4) (jG:(∀r∈g,r.1∈nm)) (nJ:YI H) (qg:∀d e H',YBl g e->YEz g e->YH H H'->YI H'->H d=none->H' d=some (.dK (szD e))->Q (.ref d) H'):YHr vs H Q
def YJ7:Sp:=λvs H Q E_=>YHr vs H Q
inductive YHs (vs:List V) (H:Hp) (Q:VK):Prop where
 |mk (l d:Addr) (xs:List V) (g:YX) (e:Sz) (z:Str) (aY:vs=[.ref l,.ref d,.str z]) (aZ:H l=some (.lst xs)) (bN:YS H xs (g.map Yn)) (dC:Yf g=true) (gk:H d=some (.dK (szD e))) (jG:YI H) (nJ:∀o H',YH H H'->YI H'->H o=none->H' o=some (.lst ((XT g e z g.length).map nV))->Q (.ref o) H'):YHs vs H Q
def YJ8:Sp:=λvs H Q E_=>YHs vs H Q
def NoTree (g:YX):Prop:=∀r YL,g=r :: YL->∀s,Yp g 0 s->look s r.1=none
inductive YJ9 (K:W.Frag) (vs:List V) (H:Hp) (Q:VK):Prop where
 |mk (l c:Addr) (xs:List V) (g:YX) (nm:List Str) (ns:List Int) (m:Int) (aY:vs=[.ref l,.ref c,.int m]) (aZ:H l=some (.lst xs)) (bN:YS H xs (g.map Yn)) (dC:Yf g=true) (gk:nm.length=4) (jG:(∀r∈g,r.1∈nm)) (nJ:SqL K H c (ns.map V.int)) (qg:ns.length<=63) (uT:YI H) (yN:(NoTree g->∀H',YH H H'->YI H'->Q .non H')) (tu:(∀r YL o (ks:List Nat) H',g=r :: YL->Yw g [r.1] ks->ks.length<=8000000->YH H H'->YI H'->H o=none->H' o=some (.lst (ks.map nV))->Q (.ref o) H')):YJ9 K vs H Q
def spRow (K:W.Frag):Sp:=λvs H Q E_=>YJ9 K vs H Q
theorem YIh {g:YX}{e:Sz}{z:Str}{i:Nat}{r:Yl} (hr:g[i]?=some r):YCz g e z i=(decide (r.1=z) && decide (XH e r.2.1=[])):=by
 unfold YCz;rw[hr];show(decide (r.1=z) && _)=_;congr 1;rw[YLF,YKt,YKj];unfold XH;rw[List.filter_eq_nil_iff];constructor
 ·intro h p hp;have:=h p hp;cases hq:isQ p <;> cases hl:look e p <;> simp[hq,hl]at this ⊢
 ·intro h p hp;have:=h p hp;cases hq:isQ p <;> cases hl:look e p <;> simp[hq,hl]at this ⊢
theorem YA7 (g:YX) (e:Sz) (z:Str) (i:Nat):XT g e z (i + 1)=XT g e z i ++ (if YCz g e z i=true then [i] else []):=by
 unfold XT;rw[List.range_succ,List.filter_append];congr 1
 by_cases hb:YCz g e z i=true
 ·rw[if_pos hb,YKv,if_pos hb];rfl
 ·rw[if_neg hb,YKv,if_neg hb];rfl
theorem YKA {s:Sz}{z:Str}{n:Int} (h:¬z∈s.map (·.1)):ZN s z n=s ++ [(z,n)]:=by
 induction s with
 |nil=>rfl
 |cons p s ih=>
  rw[YKa,YKT,not_or]at h;unfold ZN;rw[if_neg (λe=>h.1 e.symm),ih h.2];rfl
theorem YBW {g:YX}{r:Yl}{i:Nat} (hg:Yf g=true) (er:g[i]?=some r):Zc r=true:=by
 unfold Yf at hg;rw[YKM]at hg;exact YKj.mp hg.2 r (YKL er)
theorem YBl.len4 {g:YX}{e:Sz} (h:YBl g e) {nm:List Str} (hnm:∀r∈g,r.1∈nm):e.length<=nm.length:=by
 have:=YAU h.nd (ys:=nm) λx hx=>by
  obtain⟨p,hp,rfl⟩:=YKU.mp hx;obtain⟨i,hi,e1⟩:=YLq.mp hp;obtain⟨r,_,h2,h3,_⟩:=h.ent i p.1 p.2 (by rw[YKK hi,e1]);rw[<-h3];exact hnm r (YKL h2)
 rwa [YKF]at this
section
variable {P:Program}{w:World}{K:W.Frag}{mg:Str->Option Value}{base:Heap}{C:Adr}
theorem Zz:YV ["_law_grammar","_law_ends_here","_law_step","_law_some","_law_k","_law_barren"] ["_law_grammar"] (YJ XA):=⟨U,U,U,by decide +kernel,U,by decide +kernel,by decide +kernel⟩
theorem YFC {f:Addr}{fd:FuncData} (F:Fun K "_law_ends" "_law_ends" XA f fd) (T:Txt K mg C):Yz P w K mg base CX0 1 f fd ["_law_grammar"] (YJ7):=by
 refine F.ok Zz (λvs H Q E h=>?_) (λaK A outer s H vs Q E hr h=>?_)
 ·cases h;subst_vars;rfl
 ·obtain⟨l,xs,g,nm,rfl,hl,aF,hg,n4,hnm,hp,q⟩:=h;have hu:=Jh hr;have hU:=hr.units;refine⟨_,(YD (YK (i:=1) Zz.nd rfl (Or.inl rfl) Xz)
   (YD (ZH PassesOwn.never rfl (ZJ rfl T.aO (YA YE YB)) (Yb (i:=2) Zz.nd rfl (Or.inl rfl)) (YD (YK (i:=3) Zz.nd rfl (Or.inr rfl) (Zv YEs (by rfl) T.u9 PyProof.Rows.Boot.«dict» (YA (pv 1) YB)))
   (YF (ZH PassesOwn.never rfl (ZJ rfl T.aO (YA (YO (YR K rfl) (by rfl) T.aG YKP (YA (pv 0) YB)) YB)) (Yb (i:=4) Zz.nd rfl (Or.inl rfl)) (YD (YCL (N:=["_law_part","_law_some"]) (ρ:=[none,some 3]) (i:=5) Zz.nd rfl rfl rfl (Yr.closes ["_law_grammar","_law_ends_here","_law_step","_law_some","_law_k","_law_barren"] (YJ XA).names rfl rfl rfl rfl (by decide +kernel) (by decide +kernel) (λx h=>Jo h) (by decide +kernel) rfl (by decide +kernel)) (YCK K rfl (YU (Ya K rfl) (YU (Yc K rfl) (pv 0) (pv 4) (λ_ _=>rfl)) YE (λ_ _=>rfl))) (λ_ _ _ _ _=>(Yb (i:=0) J0 rfl (Or.inl rfl) (.inr rfl))) (λ_ _ _ _ _=>(YHH (PW.pt (XD (YW YB1 (YU Z2 (pv 0) YE (λ_ _=>rfl)) Yj (YY _)) (Ji (XW (JI hu (pv 0) (pv 1)))))))) (λ_ _ _ _ _=>(pv 0)))
   (YF (Yt (PW.pt (XD (YW (JU K rfl hU) (pv 5) (Y7 YB) (YY _)) (Ji (XW (JI hu (YU (Ya K rfl) (YU (Yc K rfl) (pv 0) (pv 4) (λ_ _=>rfl)) YE (λ_ _=>rfl)) (pv 1)))))) (YF (YAL hu (pv 1) (YU (Ya K rfl) (YU (Yc K rfl) (pv 0) (pv 4) (λ_ _=>rfl)) YE (λ_ _=>rfl)) (pv 4) rfl)) YZ)))))))
   (YF (YT (pv 1))))),?_⟩
  have gK:=Jk hg;have eZ:xs.length=g.length:=by rw[aF.len,YKF]
  intro d hd;refine⟨5,U,by decide,by decide,?_⟩;refine Zu (lo:=0) (n:=5) (λt σ H2=>∃(e:Sz) (v2 v3 v4 v5:Option V),σ=[some (.ref l),some (.ref d),v2,v3,v4,v5]/\H2 d=some (.dK (szD e))/\YBl g e/\(YEz g e\/t<=e.length)/\YH H H2/\YI H2)
   ⟨[],none,none,none,none,U,YC,YBl.nil g,.inr (YKm _),YH.upd hd,hp.upd rfl⟩ ?_ ?_
  ·rintro t σ H2 ht ⟨e,v2,v3,v4,v5,rfl,hd2,he,hcl,s2,p2⟩;refine⟨_,U,d,_,U,.inl hd2,λds wX=>?_⟩;have s3:=YH.upd (o:=.dK (szD e)) wX;have e3:upd H2 ds (.dK (szD e)) ds=some (.dK (szD e)):=YC;have p3:YI (upd H2 ds (.dK (szD e))):=p2.upd rfl;have ndd:d≠ds:=λz=>by rw[z,wX]at hd2;cases hd2
   have Q3:=s3 _ _ hd2;have zE:=s2.trans s3;revert s3 e3 p3 Q3 zE;generalize upd H2 ds (.dK (szD e))=H3;intro s3 e3 p3 Q3 zE;refine⟨_,U,l,_,U,.inl (SqL.of (zE _ _ hl)),(xs.length:Int),U,(YDV (by omega) (by omega)).1,(YDV (by omega) (by omega)).2,?_⟩;refine Zu (lo:=0) (n:=((xs.length:Nat):Int).toNat) (λk σ H4=>∃(more:Sz) (v4 v5:Option V),σ=[some (.ref l),some (.ref d),some (.int (0 + t)),some (.ref ds),v4,v5]/\H4 d=some (.dK (szD (e ++ more)))/\H4 ds=some (.dK (szD e))/\YBl g (e ++ more)/\
     (∀p∈more,∃r∈g,r.1=p.1/\InK e r/\¬r.1∈e.map (·.1))/\(∀j,j < k->∀r,g[j]?=some r->InK e r->r.1∈(e ++ more).map (·.1))/\YH H H4/\YI H4)
    ⟨[],v4,v5,U,by rw[YKs];exact Q3,e3,by rw[YKs];exact he,(λp hp=>nomatch hp),λj hj=>absurd hj (Nat.not_lt_zero _),zE,p3⟩ ?_ ?_
   ·rintro k σ H4 hk ⟨more,v4,v5,rfl,wG,yW,v_,hm,hrs,s4,p4⟩;have hkl:k < xs.length:=by omega
    have hi:xs[k]?=some xs[k]:=YKK hkl;obtain⟨r,tt,p,er,ey,mO,gJ⟩:=ZM aF hi;have ax:atI xs (0 + (k:Int))=some (.ref tt):=by rw[Int.zero_add,<-ey];exact Yv hi
    have hok:=YBW hg er;have wH:=s4 _ _ mO;have yX:=s4 _ _ gJ;refine⟨_,U,_,U,l,_,_,_,U,U,SqL.of (s4 _ _ hl),ax,tt,_,1,_,U,U,SqT.of wH,U,p,U,⟨_,SqT.of yX⟩,λlb hlb=>?_⟩;refine YB8 yX (ZU hok).2 (ZU hok).1 yW p4 hlb λH5 s5 p5 h5=>?_
    refine⟨_,U,YKm _,λle hle=>?_⟩;have s6:=YH.upd (o:=.lst []) hle;refine⟨_,_,.lst (.inl (s6 _ _ h5)) (YS.strs _),.lst (.inl YC) .nil,Xd _,U,X3 _,_,U,?_⟩;rw[YCP];have jz:=s5.trans s6;have p6:YI (upd H5 le (.lst [])):=p5.upd rfl;revert jz p6;generalize upd H5 le (.lst [])=H6;intro jz p6
    by_cases hb:¬XH e r.2.1=[]
    ·rw[YKO hb];refine⟨more,_,_,U,jz _ _ wG,jz _ _ yW,v_,hm,λj hj r' cJ hin=>?_,s4.trans jz,p6⟩
     by_cases yZ:j=k
     ·subst yZ;rw[er]at cJ;cases cJ;exact absurd (YDG.mpr hin) hb
     ·exact hrs j (by omega) r' cJ hin
    ·have hb:XH e r.2.1=[]:=Decidable.not_not.mp hb;rw[YKN hb];have hin:=YDG.mp hb;refine Z6 ⟨_,U,_,U,l,_,_,_,U,U,SqL.of ((s4.trans jz) _ _ hl),ax,tt,_,0,_,U,U,SqT.of (jz _ _ wH),U,_,U,d,_,U,Z5.k (k:=Sum.inr r.1) (jz _ _ wG),_,U,?_⟩;rw[ZY,YLC];cases hlk:look (e ++ more) r.1 with
     |some v=>
      refine⟨more,_,_,U,jz _ _ wG,jz _ _ yW,v_,hm,λj hj r' cJ vy=>?_,s4.trans jz,p6⟩
      by_cases yZ:j=k
      ·subst yZ;rw[er]at cJ;cases cJ;exact YKU.mpr ⟨_,Z8 hlk,U⟩
      ·exact hrs j (by omega) r' cJ vy
     |none=>
      have hnew:=YAS hlk;have wY:¬r.1∈e.map (·.1):=λz=>hnew (by rw[YKW];exact YKx _ z)
      have zW:InK (e ++ more) r:=λp hp hq=>by rw[YKW];exact YKx _ (hin p hp hq)
      have R0:=v_.snoc er zW hnew;have len:(szD (e ++ more)).length < sizeLine:=by
       unfold szD;rw[YKF];have:=v_.len4 hnm;exact YKi (show _ < 1000 by omega) (YG (YKH _))
      have put:YAb H6 d (.str r.1) (.int (0 + (k:Int))) (upd H6 d (.dK (szD (e ++ (more ++ [(r.1,(k:Int))]))))):=by
       have:=YAb.k (k:=Sum.inr r.1) (v:=.int (0 + (k:Int))) (jz _ _ wG) len;rw[YCN v_.nd,YKA hnew,Int.zero_add,YK0]at this;rw[Int.zero_add];exact this
      refine⟨_,U,_,U,_,U,_,U,l,_,_,_,U,U,SqL.of ((s4.trans jz) _ _ hl),ax,tt,_,0,_,U,U,SqT.of (jz _ _ wH),U,d,_,U,put,?_⟩;refine⟨more ++ [(r.1,(k:Int))],_,_,U,YC,by rw[YN ndd.symm];exact jz _ _ yW,by rw[<-YK0];exact R0,λp hp=>?_,λj hj r' cJ vy=>?_,(s4.trans jz).put hd,p6.upd rfl⟩
      ·rcases YKu.mp hp with hp |hp
       ·exact hm p hp
       ·rw[YKf.mp hp];exact⟨r,YKL er,U,hin,wY⟩
      ·rw[<-YK0,YKW]
       by_cases yZ:j=k
       ·subst yZ;rw[er]at cJ;cases cJ;exact YKg _ (YKf.mpr rfl)
       ·exact YKx _ (hrs j (by omega) r' cJ vy)
   ·rintro σ H4 ⟨more,v4,v5,rfl,wG,yW,v_,hm,hrs,s4,p4⟩;refine⟨e ++ more,_,_,_,_,U,wG,v_,?_,s4,p4⟩;have pass:∀r∈g,InK e r->r.1∈(e ++ more).map (·.1):=λr hr' hin=>by
     obtain⟨j,hj,e1⟩:=YLq.mp hr';exact hrs j (by omega) r (by rw[YKK hj,e1]) hin
    cases more with
    |nil=>
     rw[YKs]at pass ⊢;exact .inl pass
    |cons m0 ms=>
     rcases hcl with hcl |hcl
     ·obtain⟨r,hr',_,hin,hnot⟩:=hm m0 (YKd ..);exact absurd (hcl r hr' hin) hnot
     ·refine .inr ?_;rw[YKJ,YKX];omega
  ·rintro σ H2 ⟨e,v2,v3,v4,v5,rfl,hd2,he,hcl,s2,p2⟩;refine⟨_,U,q d e H2 he ?_ s2 p2 hd hd2⟩;rcases hcl with hcl |hcl
   ·exact hcl
   ·have:=he.len4 hnm;omega
theorem Jm:YV ["_law_grammar","_law_shorts","_law_name","_law_some","_law_k","_law_barren"] ["_law_grammar","_law_shorts","_law_name"] (YJ XB):=⟨U,U,U,by decide +kernel,U,by decide +kernel,by decide +kernel⟩
theorem YFD {f:Addr}{fd:FuncData} (F:Fun K "_law_open" "_law_open" XB f fd) (T:Txt K mg C):Yz P w K mg base CX0 1 f fd ["_law_grammar","_law_shorts","_law_name"] (YJ8):=by
 refine F.ok Jm (λvs H Q E h=>?_) (λaK A outer s H vs Q E hr h=>?_)
 ·cases h;subst_vars;rfl
 ·obtain⟨l,d,xs,g,e,z,rfl,hl,aF,hg,hd,hp,q⟩:=h;have hu:=Jh hr;have hU:=hr.units;refine⟨_,(YD (YK (i:=3) Jm.nd rfl (Or.inl rfl) (Y7 YB))
   (YD (ZH PassesOwn.never rfl (ZJ rfl T.aO (YA (YO (YR K rfl) (by rfl) T.aG YKP (YA (pv 0) YB)) YB)) (Yb (i:=4) Jm.nd rfl (Or.inl rfl)) (YD (YCL (N:=["_law_part","_law_shorts"]) (ρ:=[none,some 1]) (i:=5) Jm.nd rfl rfl rfl (Yr.closes ["_law_grammar","_law_shorts","_law_name","_law_some","_law_k","_law_barren"] (YJ XB).names rfl rfl rfl rfl (by decide +kernel) (by decide +kernel) (λx h=>Jo h) (by decide +kernel) rfl (by decide +kernel)) (YCK K rfl (YU (Ya K rfl) (YU (Yc K rfl) (pv 0) (pv 4) (λ_ _=>rfl)) YE (λ_ _=>rfl))) (λ_ _ _ _ _=>(Yb (i:=0) Jg rfl (Or.inl rfl) (.inr rfl))) (λ_ _ _ _ _=>(YHH (PW.pt (XD (YW YB1 (YU Z2 (pv 0) YE (λ_ _=>rfl)) Yj (YY _)) (Ji (XW (JI hu (pv 0) (pv 1)))))))) (λ_ _ _ _ _=>(pv 0)))
   (YF (Yt (PW.pt (XD (YW Xr (YU (Ya K rfl) (YU (Yc K rfl) (pv 0) (pv 4) (λ_ _=>rfl)) YE (λ_ _=>rfl)) (pv 2) (YY _)) (Ji (YW (JU K rfl hU) (pv 5) (Y7 YB) (YY _))))) (YF (ZG (ZS K rfl YKc YKp YKo Yx (pv 3) (YA (pv 4) YB)))) YZ))))
   (YF (YT (pv 3))))),?_⟩
  have gK:=Jk hg;have eZ:xs.length=g.length:=by rw[aF.len,YKF]
  refine⟨YKm _,λlo hlo=>?_⟩;have s1:=YH.upd (o:=.lst []) hlo;refine⟨_,U,l,_,U,.inl (SqL.of (s1 _ _ hl)),(xs.length:Int),U,(YDV (by omega) (by omega)).1,(YDV (by omega) (by omega)).2,?_⟩;refine Zu (lo:=0) (n:=((xs.length:Nat):Int).toNat) (λk σ H4=>∃(v4 v5:Option V),σ=[some (.ref l),some (.ref d),some (.str z),some (.ref lo),v4,v5]/\H4 lo=some (.lst ((XT g e z k).map nV))/\YH H H4/\YI H4)
   ⟨none,none,U,YC,s1,hp.upd rfl⟩ ?_ ?_
  ·rintro k σ H4 hk ⟨v4,v5,rfl,h4,s4,p4⟩;have hkl:k < xs.length:=by omega
   have hi:xs[k]?=some xs[k]:=YKK hkl;obtain⟨r,tt,p,er,ey,mO,gJ⟩:=ZM aF hi;have ax:atI xs (0 + (k:Int))=some (.ref tt):=by rw[Int.zero_add,<-ey];exact Yv hi
   have hok:=YBW hg er;have wH:=s4 _ _ mO;have yX:=s4 _ _ gJ;have oi:=YIh (e:=e) (z:=z) er;refine⟨_,U,_,U,l,_,_,_,U,U,SqL.of (s4 _ _ hl),ax,tt,_,1,_,U,U,SqT.of wH,U,p,U,⟨_,SqT.of yX⟩,λlb hlb=>?_⟩;refine YB8 yX (ZU hok).2 (ZU hok).1 (s4 _ _ hd) p4 hlb λH5 s5 p5 h5=>?_
   refine⟨_,U,_,U,l,_,_,_,U,U,SqL.of ((s4.trans s5) _ _ hl),ax,tt,_,0,_,U,U,SqT.of (s5 _ _ wH),U,_,U,U,_,U,?_⟩;rw[decS]
   by_cases hz:¬r.1=z
   ·rw[YKO hz];rw[YKO hz,Bool.false_and]at oi;refine⟨_,_,U,?_,s4.trans s5,p5⟩;rw[YA7,oi,if_neg (by decide),YKs];exact s5 _ _ h4
   have hz:r.1=z:=Decidable.not_not.mp hz;rw[YKN hz];rw[YKN hz,Bool.true_and]at oi;refine Z6 ⟨_,U,YKm _,λle hle=>?_⟩;have s6:=YH.upd (o:=.lst []) hle;refine⟨_,_,.lst (.inl (s6 _ _ h5)) (YS.strs _),.lst (.inl YC) .nil,Xd _,U,X3 _,_,U,?_⟩;rw[YCP];have jz:=s5.trans s6
   by_cases hb:¬XH e r.2.1=[]
   ·rw[YKO hb];rw[YKO hb]at oi;refine⟨_,_,U,?_,s4.trans jz,p5.upd rfl⟩;rw[YA7,oi,if_neg (by decide),YKs];exact jz _ _ h4
   ·have hb:XH e r.2.1=[]:=Decidable.not_not.mp hb;rw[YKN hb];rw[YKN hb]at oi;have hlen:(XT g e z k).length<=k:=by
     unfold XT;exact YKq (List.length_filter_le _ _) (by rw[YLa];exact YKH _)
    refine Z6 ⟨_,U,.inl ⟨U,_,SqL.of (jz _ _ h4)⟩,_,U,lo,_,_,U,U,jz _ _ h4,?_,_,_,U,?_,(s4.trans jz).put hlo,(p5.upd rfl).upd rfl⟩
    ·rw[YKF];exact YKi (show _ < 1000 by omega) (YG (YKH _))
    ·rw[YA7,oi,if_pos rfl,YKW];show upd _ lo _ lo=some (.lst (_ ++ [V.int (k:Int)]));rw[YC,Int.zero_add]
  ·rintro σ H4 ⟨v4,v5,rfl,h4,s4,p4⟩;refine⟨_,U,q lo H4 s4 p4 hlo ?_⟩;rw[h4];have:((xs.length:Nat):Int).toNat=g.length:=by omega
   rw[this]
theorem ZQ:YV ["_law_grammar","_law_cells","_law_room","_law_ends_here","_law_waiting","_law_row_here","_law_name","_law_number","_law_some","_law_beneath"] ["_law_grammar","_law_cells","_law_room"] (YJ YA6):=⟨U,U,U,by decide +kernel,U,by decide +kernel,by decide +kernel⟩
theorem YGD {f:Addr}{fd:FuncData} (F:Fun K "_law_row" "_law_row" YA6 f fd) (T:Txt K mg C) (d_:Yu P w K mg CX0 1 "_law_ends" ["_law_grammar"] (YJ7)) (eE:Yu P w K mg CX0 1 "_law_open" ["_law_grammar","_law_shorts","_law_name"] (YJ8)):Yz P w K mg base CX0 2 f fd ["_law_grammar","_law_cells","_law_room"] (spRow K):=by
 obtain⟨uE,tO,lU,lV,lW,lX⟩:=d_.ok;obtain⟨uF,tQ,lY,lZ,l_,mj⟩:=eE.ok;refine F.ok ZQ (λvs H Q E h=>?_) (λaK A outer s H vs Q E hr h=>?_)
 ·cases h;subst_vars;rfl
 ·obtain⟨l,c,xs,g,nm,ns,m,rfl,hl,aF,hg,n4,hnm,hc,hns,hp,q1,q2⟩:=h;have hu:=Jh hr;have hU:=hr.units;refine⟨_,(YD (YK (i:=3) ZQ.nd rfl (Or.inl rfl) (YM (lU base) (hr.mono (by decide)) (by rfl) lV lW lX .nil Ye (YA (pv 0) YB)))
   (YD (Yt (PW.pt (Xq (YW (JU K rfl hU) (pv 0) (Y7 YB) (YY _)) (XC (XW (JI hu (YU (Ya K rfl) (YU (Yc K rfl) (pv 0) YE (λ_ _=>rfl)) YE (λ_ _=>rfl)) (pv 3)))))) (YF (YT Z0)) YZ)
   (YD (YK (i:=4) ZQ.nd rfl (Or.inl rfl) (Y7 (YA (YU (Ya K rfl) (YU (Yc K rfl) (pv 0) YE (λ_ _=>rfl)) YE (λ_ _=>rfl)) YB)))
   (YD (YK (i:=5) ZQ.nd rfl (Or.inl rfl) (Y7 YB))
   (YD (XJ PassesOwn.never (YW (JV K rfl hU) (pv 4) (Y7 YB) (YY _)) (YD (YK (i:=6) ZQ.nd rfl (Or.inl rfl) (YEm K rfl YKc PySem.F.slot_list_pop PySem.F.type_list_pop YGU (pv 4)))
   (YD (YK (i:=7) ZQ.nd rfl (Or.inl rfl) (Zw hu (pv 3) (pv 6) (λ_ _=>rfl)))
   (YD (Yt (PW.pt (XD (YW YCT (YO (YR K rfl) (by rfl) T.aG YKP (YA (pv 5) YB)) (YO (YR K rfl) (by rfl) T.aG YKP (YA (pv 1) YB)) (YY _)) (Ji (YW YCT (YQ Y4 (YO (YR K rfl) (by rfl) T.aG YKP (YA (pv 5) YB)) (YO (YR K rfl) (by rfl) T.aG YKP (YA (pv 4) YB))) (pv 2) (YY _))))) (YD (YK (i:=8) ZQ.nd rfl (Or.inl rfl) (YM (lY base) (hr.mono (by decide)) (by rfl) lZ l_ mj .nil Ye (YA (pv 0) (YA (pv 3) (YA (pv 6) YB)))))
   (YF (YK (i:=7) ZQ.nd rfl (Or.inl rfl) (YU (Yc K rfl) (pv 8) (YQ Yy (YU (Yc K rfl) (pv 1) (YO (YR K rfl) (by rfl) T.aG YKP (YA (pv 5) YB)) (λ_ _=>rfl)) (YO (YR K rfl) (by rfl) T.aG YKP (YA (pv 8) YB))) (λ_ _=>rfl))))) YZ)
   (YD (ZG (ZS K rfl YKc YKp YKo Yx (pv 5) (YA (pv 7) YB)))
   (YF (ZH PassesOwn.never rfl (YHc K rfl rfl T.bH (YA (YU (Ya K rfl) (YU (Yc K rfl) (pv 0) (pv 7) (λ_ _=>rfl)) YE (λ_ _=>rfl)) YB)) (Yb (i:=9) ZQ.nd rfl (Or.inl rfl)) (YF (Yt (YW YB1 (YU Z2 (pv 9) YE (λ_ _=>rfl)) Yj (YY _)) (YF (ZG (ZS K rfl YKc YKp YKo Yx (pv 4) (YA (pv 9) YB)))) YZ)))))))))
   (YF (YT (pv 5)))))))),?_⟩
  have gK:=Jk hg;have eZ:xs.length=g.length:=by rw[aF.len,YKF]
  refine⟨_,U,l,xs,g,nm,U,hl,aF,hg,n4,hnm,hp,λd e H1 he hcl s1 p1 hd0 hd=>?_⟩;refine⟨_,U,YKm _,λle hle=>?_⟩;have s2:=YH.upd (o:=.lst []) hle;refine⟨ZZ g,.lst [],.lst (.inl ((s1.trans s2) _ _ hl)) (aF.same (s1.trans s2)),.lst (.inl YC) .nil,YBK g,U,YCo g,_,U,?_⟩;have p2:YI (upd H1 le (.lst [])):=p1.upd rfl;have jH:=s1.trans s2;have hd2:=s2 _ _ hd;revert p2 jH hd2;generalize upd H1 le (.lst [])=H2;intro p2 jH hd2;cases g with
  |nil=>exact q1 (λr YL z=>nomatch z) H2 jH p2
  |cons r0 YL=>
   refine Y5 ?_;obtain⟨x0,xr,exs⟩:∃x0 xr,xs=x0 :: xr:=by
    cases xs with
    |nil=>cases eZ
    |cons a b=>exact⟨a,b,U⟩
   have rK:xs[0]?=some x0:=by rw[exs];rfl
   obtain⟨r,t0,p0,er,ey,nM,wN⟩:=ZM aF rK;cases er;have ug:atI xs 0=some (.ref t0):=by rw[<-ey];exact Yv (j:=0) rK
   refine⟨_,U,l,_,0,_,U,U,SqL.of (jH _ _ hl),ug,t0,_,0,_,U,U,SqT.of (jH _ _ nM),U,_,U,d,_,U,Z5.k (k:=Sum.inr r0.1) hd2,_,U,?_⟩;rw[ZY,YLC];cases hlk:look e r0.1 with
   |none=>
    refine q1 (λr au z s hs=>?_) H2 jH p2;cases z;cases e1:look s r0.1 with
    |none=>rfl
    |some v=>exact absurd (sz_in hs hcl _ _ v (YKH _) e1) (YAS hlk)
   |some k0=>
    refine Y5 ?_;refine⟨_,U,l,_,0,_,U,U,SqL.of (jH _ _ hl),ug,t0,_,0,_,U,U,SqT.of (jH _ _ nM),U,YG (by show 1<=1000;decide),λlw qj=>?_⟩;refine⟨YKm _,λlr hlr=>?_⟩;have pW:H lw=none:=jH.free qj;have s3:=YH.upd (o:=.lst [V.str r0.1]) qj;have rm:H lr=none:=jH.free (s3.free hlr);have nrw:lr≠lw:=λz=>by rw[z,YC]at hlr;cases hlr
    have s4:=YH.upd (o:=.lst []) hlr;have uV:upd (upd H2 lw (.lst [V.str r0.1])) lr (.lst []) lw=some (.lst ([r0.1].map V.str)):=s4 _ _ YC;have um:upd (upd H2 lw (.lst [V.str r0.1])) lr (.lst []) lr=some (.lst (([]:List Nat).map nV)):=YC;have p4:YI (upd (upd H2 lw (.lst [V.str r0.1])) lr (.lst [])):=(p2.upd rfl).upd rfl;have ql:=s3.trans s4;revert uV um p4 ql;generalize upd (upd H2 lw (.lst [V.str r0.1])) lr (.lst [])=H4;intro uV um p4 ql;have e4:=he.len4 hnm;rw[n4]at e4;obtain⟨B,hB,hB1⟩:∃B,6 * 7 ^ (e.length + 1) + 1=B/\B<=100843:=⟨_,U,by
     have:7 ^ (e.length + 1)<=7 ^ 5:=Nat.pow_le_pow_right (by decide) (by omega);omega⟩
    have hw0:wts e [r0.1]<=16807:=by
     have h1:=YE1 (e:=e) (i:=5) (zs:=[r0.1]) λz _=>Nat.lt_succ_of_le (YKq YE0 e4)
     exact YKq h1 (show 1 * 7 ^ 5<=16807 by decide)
    have hM0:ns.length * B<=63 * 100843:=Nat.mul_le_mul hns hB1;refine⟨λμ σ H5=>∃(ks:List Nat) (zs:List Str) (v6 v7 v8 v9:Option V),σ=[some (.ref l),some (.ref c),some (.int m),some (.ref d),some (.ref lw),some (.ref lr),v6,v7,v8,v9]/\H5 lw=some (.lst (zs.map V.str))/\H5 lr=some (.lst (ks.map nV))/\(∀z∈zs,z∈e.map (·.1))/\
      (∀au,Yw (r0 :: YL) zs.reverse au->Yw (r0 :: YL) [r0.1] (ks ++ au))/\μ=(ns.length - ks.length) * B + wts e zs/\ks.length + μ<=8000000/\YH H2 H5/\YI H5,
     ⟨_,[],[r0.1],none,none,none,none,U,uV,um,λz hz=>?_,λau h=>h,U,?_,ql,p4⟩,?_⟩
    ·rw[YKf.mp hz];exact YKU.mpr ⟨_,Z8 hlk,U⟩
    ·show 0 + ((ns.length - 0) * B + wts e [r0.1])<=8000000;rw[Nat.sub_zero];omega
    rintro μ σ H5 ⟨ks,zs,v6,v7,v8,v9,rfl,vQ,yR,hzs,dB,hμ,hlen,s5,p5⟩;refine⟨_,U,YKm _,λy_ vz=>?_⟩;have s6:=YH.upd (o:=.lst []) vz;refine⟨_,_,.lst (.inl (s6 _ _ vQ)) (YS.strs zs),.lst (.inl YC) .nil,Xd _,U,X3 _,_,U,?_⟩;rw[YCP];have zF:=s6 _ _ vQ;have uQ:=s6 _ _ yR;have uW:=s5.trans s6;have p6:YI (upd H5 y_ (.lst [])):=p5.upd rfl;revert zF uQ uW p6;generalize upd H5 y_ (.lst [])=H6;intro zF uQ uW p6;rcases List.eq_nil_or_concat zs with hz |⟨aN,z,hz⟩
    ·subst hz;rw[YKN rfl];refine Y5 ⟨_,U,q2 r0 YL lr ks H6 rfl ?_ (by omega) (jH.trans uW) p6 rm uQ⟩;have:=dB [] .nil
     rwa [YKs]at this
    rw[List.concat_eq_append]at hz;subst hz;rw[YKO (by simp)];refine Z6 ?_;refine⟨_,λ_ _ h=>h,?_⟩;have elast:((aN ++ [z]).map V.str)[((aN ++ [z]).map V.str).length - 1]?=some (.str z):=by
     rw[YKW,YKJ];show(_ ++ [V.str z])[_ + 1 - 1]?=_;rw[Nat.add_sub_cancel,YKw (YKH _),YLw];rfl
    have edrop:((aN ++ [z]).map V.str).dropLast=aN.map V.str:=by rw[YKW];exact List.dropLast_concat
    refine⟨_,U,.inl ⟨U,_,SqL.of zF⟩,lw,_,_,U,U,zF,elast,?_⟩;rw[edrop];have Ra:=qj;have uX:YH H2 (upd H6 lw (.lst (aN.map V.str))):=uW.put qj;have za:upd H6 lw (.lst (aN.map V.str)) lw=some (.lst (aN.map V.str)):=YC;have uY:upd H6 lw (.lst (aN.map V.str)) lr=some (.lst (ks.map nV)):=by rw[YN nrw];exact uQ
    have p7:YI (upd H6 lw (.lst (aN.map V.str))):=p6.upd rfl;revert uX za uY p7;generalize upd H6 lw (.lst (aN.map V.str))=H7;intro uX za uY p7;have zX:=hzs z (YKg _ (YKf.mpr rfl));obtain⟨k,hk⟩:=YBm zX;obtain⟨rz,k1,grz,uo,wZ,vA⟩:=he.lighter hk;have dget:Z5 H7 d (.str z) (some (.int k)):=by
     have:=Z5.k (k:=Sum.inr z) (uX _ _ hd2);rw[ZY,hk]at this;exact this
    refine⟨_,U,_,U,d,.int k,U,dget,?_⟩;dsimp only[JH];refine YJ6 (t:=tIfS _ _ _) (λσ' H8=>∃(kk:Nat) (r:Yl) (v8:Option V),σ'=[some (.ref l),some (.ref c),some (.int m),some (.ref d),some (.ref lw),some (.ref lr),some (.str z),some (.int (kk:Int)),v8,v9]/\(r0 :: YL)[kk]?=some r/\r.1=z/\InK e r/\
     (ns.length - (ks.length + 1)) * B + wts e (unQ r.2.1) < (ns.length - ks.length) * B + wt e z/\H8 lw=some (.lst (aN.map V.str))/\H8 lr=some (.lst (ks.map nV))/\YH H2 H8/\YI H8) ?_ λau=>?_
    ·rintro σ' H8 ⟨kk,r,v8,rfl,erk,zY,hin,hless,R1,WL,s8,p8⟩;have hok:=YBW hg erk;have uR:=jH.trans s8;have ur:kk < xs.length:=by rw[eZ];exact(YKR.mp erk).1
     have hi:xs[kk]?=some xs[kk]:=YKK ur;obtain⟨r',tt,p,cJ,ut,mO,gJ⟩:=ZM aF hi;rw[erk]at cJ;cases cJ;have ax:atI xs (kk:Int)=some (.ref tt):=by rw[<-ut];exact Yv hi
     have zZ:ks.length < sizeLine:=by rw[sizeLine_eq];omega
     refine⟨_,U,.inl ⟨U,_,SqL.of WL⟩,_,U,lr,_,_,U,U,WL,by rw[YKF];exact zZ,?_⟩;have yQ:ks.map nV ++ [V.int (kk:Int)]=(ks ++ [kk]).map nV:=by rw[YKW];rfl
     rw[yQ];have s9:YH H2 (upd H8 lr (.lst ((ks ++ [kk]).map nV))):=s8.put (s3.free hlr);have Q4:upd H8 lr (.lst ((ks ++ [kk]).map nV)) lw=some (.lst (aN.map V.str)):=by rw[YN nrw.symm];exact R1
     have Q5:upd H8 lr (.lst ((ks ++ [kk]).map nV)) lr=some (.lst ((ks ++ [kk]).map nV)):=YC;have p9:YI (upd H8 lr (.lst ((ks ++ [kk]).map nV))):=p8.upd rfl;revert s9 Q4 Q5 p9;generalize upd H8 lr (.lst ((ks ++ [kk]).map nV))=H9;intro s9 Q4 Q5 p9;have Q6:=jH.trans s9;have R3:=Q6 _ _ gJ;refine⟨_,U,_,U,l,_,_,_,U,U,SqL.of (Q6 _ _ hl),ax,tt,_,1,_,U,U,SqT.of (Q6 _ _ mO),U,p,_,U,SqT.of R3,?_⟩;have hT6:=(ZU hok).1;have Rb:aN.length + 10 < sizeLine:=by
      have h1:=wts_len e (aN ++ [z]);rw[YKJ]at h1;rw[sizeLine_eq];omega
     refine YFm (K:=K) (a:=p) (xs:=r.2.1.map V.str) (λi σ H10=>∃v9,σ=[some (.ref l),some (.ref c),some (.int m),some (.ref d),some (.ref lw),some (.ref lr),some (.str z),some (.int (kk:Int)),v8,v9]/\H10 lw=some (.lst ((aN ++ unQ (r.2.1.reverse.take i)).map V.str))/\H10 lr=some (.lst ((ks ++ [kk]).map nV))/\YH H2 H10/\YI H10)
      ⟨v9,U,by rw[List.take_zero];show _=some (HO.lst ((aN ++ []).map V.str));rw[YKs];exact Q4,Q5,s9,p9⟩ ?_ ?_ ?_
     ·rintro i σ H10 _ ⟨_,rfl,_,_,jw,_⟩;exact SqT.of ((jH.trans jw) _ _ gJ)
     ·rintro i y σ H10 rB ⟨v9,rfl,pY,tR,jw,nZ⟩;rw[<-YLQ,YKk]at rB;cases ex:r.2.1.reverse[i]? with
      |none=>rw[ex]at rB;cases rB
      |some x=>
       rw[ex]at rB;cases rB;have zu:x∈r.2.1:=YLu.mp (YKL ex);obtain⟨c1,hc1,Wg,rQ⟩:=YA5 ((ZU hok).2 x zu);have et:r.2.1.reverse.take (i + 1)=r.2.1.reverse.take i ++ [x]:=by rw[YLN,ex];rfl
       have eu:unQ (r.2.1.reverse.take (i + 1))=unQ (r.2.1.reverse.take i) ++ (if isQ x=true then [] else [x]):=by
        rw[et];unfold unQ;rw[List.filter_append];cases hq:isQ x <;> simp[hq]
       refine⟨_,U,x,0,c1,U,U,YG (by omega),hc1,U,_,U,?_⟩;rw[rQ]
       by_cases hq:isQ x=true
       ·rw[hq];rw[if_pos hq,YKs]at eu;exact⟨_,U,by rw[eu];exact pY,tR,jw,nZ⟩
       ·rw[YLH.mpr hq];rw[if_neg hq]at eu;have hul:(unQ (r.2.1.reverse.take i)).length<=6:=by
         have h1:=YCO (r.2.1.reverse.take i);rw[YK3,YKl]at h1;omega
        refine⟨_,U,.inl ⟨U,_,SqL.of pY⟩,_,U,lw,_,_,U,U,pY,by rw[YKF,YKJ];omega,_,U,?_,by rw[YN nrw];exact tR,jw.put qj,nZ.upd rfl⟩;rw[YC,eu,<-YK0,YKW (l₂:=[x])];rfl
     ·rintro σ H10 ⟨v9,rfl,pY,tR,jw,nZ⟩;have eall:unQ (r.2.1.reverse.take (r.2.1.map V.str).length)=(unQ r.2.1).reverse:=by
       rw[YKF,<-YKl (as:=r.2.1),YLg];unfold unQ;rw[List.filter_reverse]
      rw[eall]at pY;have eμ:(ns.length - (ks ++ [kk]).length) * B + wts e (aN ++ (unQ r.2.1).reverse) < μ:=by
       rw[hμ,YKJ,YCy,YCy,wts_rev];show(ns.length - (ks.length + 1)) * B + (wts e aN + wts e (unQ r.2.1)) < (ns.length - ks.length) * B + (wts e aN + (wt e z + 0));omega
      refine⟨_,eμ,ks ++ [kk],aN ++ (unQ r.2.1).reverse,_,_,_,_,U,pY,tR,λy hy=>?_,λau hrest=>?_,U,?_,jw,nZ⟩
      ·rcases YKu.mp hy with hy |hy
       ·exact hzs y (YKx _ hy)
       ·obtain⟨h1,h2⟩:=JC.mp (YLu.mp hy);exact hin y h1 h2
      ·rw[YK0];refine dB (kk :: au) ?_;rw[YK1,YLW]at hrest;rw[YK1,<-zY];exact Yw.cons erk hrest
      ·have e5:(ks ++ [kk]).length=ks.length + 1:=by rw[YKJ];rfl
       rw[e5]at eμ ⊢;omega
    ·have Rc:=uY;have z_:SqL K H7 c (ns.map V.int):=(jH.trans uX).seq hc;have uZ:∃(kk:Nat) (r:Yl) (R4:Option V),[some (V.ref l),some (.ref c),some (.int m),some (.ref d),some (.ref lw),some (.ref lr),some (.str z),some (.int k),v8,v9]=[some (V.ref l),some (.ref c),some (.int m),some (.ref d),some (.ref lw),some (.ref lr),some (.str z),some (.int (kk:Int)),R4,v9]/\(r0 :: YL)[kk]?=some r/\r.1=z/\InK e r/\
       (ns.length - (ks.length + 1)) * B + wts e (unQ r.2.1) < (ns.length - ks.length) * B + wt e z/\H7 lw=some (.lst (aN.map V.str))/\H7 lr=some (.lst (ks.map nV))/\YH H2 H7/\YI H7:=by
      refine⟨k.toNat,rz,v8,by rw[Int.toNat_of_nonneg k1],grz,uo,wZ,?_,za,uY,uX,p7⟩;have h1:=vA (ZU (YBW hg grz)).1;have h2:(ns.length - (ks.length + 1)) * B<=(ns.length - ks.length) * B:=Nat.mul_le_mul_right _ (by omega);omega
     refine⟨_,U,lr,_,U,.inl (SqL.of uY),_,U,c,_,U,.inl z_,_,_,U,U,_,U,XM (λh1=>?_) λh1=>au _ _ uZ⟩;refine⟨_,U,lr,_,U,.inl (SqL.of uY),_,U,lw,_,U,.inl (SqL.of za),_,_,U,U,_,U,_,_,U,U,_,U,XM (λh2=>?_) λh2=>au _ _ uZ⟩;have h1':ks.length < ns.length:=by
      have:=YKh h1;rw[YKF,YKF]at this;omega
     have qp:=jH.trans uX;refine⟨_,U,_,U,_,U,l,d,xs,r0 :: YL,e,z,U,qp _ _ hl,aF.same qp,hg,uX _ _ hd2,p7,λo H8 s8 p8 ho0 ho=>?_⟩;have hne:k.toNat∈XT (r0 :: YL) e z (r0 :: YL).length:=YJl grz uo wZ;have hpos:0 < ((XT (r0 :: YL) e z (r0 :: YL).length).map nV).length:=by rw[YKF];exact List.length_pos_of_mem hne
     obtain⟨y1,hy1,hm1⟩:=Zt (xs:=ns.map V.int) (i:=(((ks.map nV).length:Nat):Int)) (by omega) (by rw[YKF,YKF];omega);obtain⟨ci,_,rfl⟩:=YKU.mp hm1;obtain⟨y2,R5,hm2⟩:=Zt (xs:=(XT (r0 :: YL) e z (r0 :: YL).length).map nV) (i:=ci % ((((XT (r0 :: YL) e z (r0 :: YL).length).map nV).length:Nat):Int)) (YLd _ (by omega)) (YLM _ (by omega));obtain⟨kk,hkk,rfl⟩:=YKU.mp hm2;obtain⟨r,erk,R6,Qa⟩:=YIX hkk;refine⟨_,U,_,U,_,U,lr,_,U,.inl (SqL.of (s8 _ _ uY)),c,_,_,_,U,U,(qp.trans s8).seq hc,hy1,_,U,o,_,U,.inl (SqL.of ho),_,_,U,U,by omega,o,_,_,_,U,U,SqL.of ho,R5,?_⟩;refine au _ _ ⟨kk,r,_,U,erk,R6,Qa,?_,s8 _ _ za,s8 _ _ uY,uX.trans s8,p8⟩;have hgrow:=YJk (e:=e) (r:=r) (ZU (YBW hg erk)).1;have hm3:(ns.length - ks.length) * B=(ns.length - (ks.length + 1)) * B + B:=by
      have:ns.length - ks.length=(ns.length - (ks.length + 1)) + 1:=by omega
      rw[this,Nat.succ_mul]
     have:0 < wt e z:=Nat.pow_pos (by decide);omega
end
abbrev YAB:Stmt:=top 56
abbrev J1:Stmt:=top 58
abbrev Xm:Stmt:=top 59
abbrev YAC:Stmt:=top 61
abbrev J2:Stmt:=top 62
abbrev Xn:Stmt:=top 63
inductive YGE (vs:List V) (H:Hp) (Q:VK):Prop where
 |mk (i:Int) (aY:vs=[.int i]) (aZ:Q (.bl true) H):YGE vs H Q
def YHt:Sp:=λvs H Q E_=>YGE vs H Q
inductive YDH (vs:List V) (H:Hp) (Q:VK):Prop where
 |mk (l:Addr) (ks:List Nat) (aY:vs=[.ref l]) (aZ:H l=some (.lst (ks.map nV))) (bN:Q (.bl true) H):YDH vs H Q
def YBx:Sp:=λvs H Q E_=>YDH vs H Q
def Phi (g:YX) (φ:Str->List Nat):Prop:=(∀r∈g,φ r.1=r.2.1.flatMap φ)/\∀p c,isQ p=true->atI p.cps.toList 1=some c->φ p=[c]
inductive YHu (vs:List V) (H:Hp) (Q:VK):Prop where
 |mk (l o:Addr) (xs:List V) (r0:Yl) (YL:List Yl) (ks:List Nat) (aY:vs=[.ref l,.ref o]) (aZ:H l=some (.lst xs)) (bN:YS H xs ((r0 :: YL).map Yn)) (dC:Yf (r0 :: YL)=true) (gk:H o=some (.lst (ks.map nV))) (jG:Yw (r0 :: YL) [r0.1] ks) (nJ:ks.length<=1000) (qg:YI H) (uT:∀(z:Str) H',(∀φ,Phi (r0 :: YL) φ->z.cps.toList=φ r0.1)->YH H H'->YI H'->Q (.str z) H'):YHu vs H Q
def YG7:Sp:=λvs H Q E_=>YHu vs H Q
theorem YBX (k:Nat):∀ks:List Nat,inV (.int (k:Int)) (ks.map nV)=decide (k∈ks)
 |[]=>by unfold inV;rw[List.map_nil,List.any_nil];simp
 |h :: hs=>by
  have ih:=YBX k hs;unfold inV at ih ⊢;rw[YKa,YLU,ih];have e:eqV (nV h) (.int (k:Int))=decide (h=k):=by
   show((h:Int) == (k:Int))=_;rw[YLF];simp;omega
  rw[e,YLF];simp only[YLo,YKt,YKT];exact⟨λh=>h.elim (λh=>.inl h.symm) .inr,λh=>h.elim (λh=>.inl h.symm) .inr⟩
theorem YBy (ks:List Nat):(ks.map nV).all YBD=true:=by
 rw[List.all_map,YKj];intro x _;rfl
theorem YDI {g:YX}{r:Yl}{i:Nat} (hg:Yf g=true) (er:g[i]?=some r):Zc r=true:=by
 unfold Yf at hg;rw[YKM]at hg;exact YKj.mp hg.2 r (YKL er)
theorem YGF {p:Str} (h:Y2 p=true) (hq:isQ p=true):∃c,atI p.cps.toList 1=some c:=by
 unfold Y2 at h;rw[YLo]at h;rcases h with h |h
 ·unfold Xc at h;rw[YKM,YKM]at h;have h2:p.cps.size=2:=eq_of_beq h.1.1;have h1:1 < p.cps.toList.length:=by rw[YK2];omega
  have e:p.cps.toList[1]?=some p.cps.toList[1]:=YKK h1;exact⟨_,Yv (j:=1) e⟩
 ·rw[YDF]at hq;have hq:=YKh hq;unfold isNameS at h;rw[YKM]at h;exact absurd (YKj.mp h.2 39 (YKL hq)) (by decide)
theorem YIi {g:YX}{z:Str}{ns:List Str}{w:List Nat} (h:Yw g (z :: ns) w):∃k row r,w=k :: row/\g[k]?=some r/\r.1=z/\Yw g (unQ r.2.1 ++ ns) row:=by
 generalize hz:z :: ns=zs at h;cases h with
 |nil=>cases hz
 |@cons ns' k r row e h'=>
  cases hz;exact⟨k,row,r,U,e,U,h'⟩
theorem YKB {g:YX}{w:List Nat} (h:Yw g [] w):w=[]:=by
 generalize hz:([]:List Str)=zs at h;cases h with
 |nil=>rfl
 |cons e h'=>cases hz
section
variable {P:Program}{w:World}{K:W.Frag}{mg:Str->Option Value}{base:Heap}{C:Adr}
theorem YDm:YV ["_law_found"] ["_law_found"] (YJ Xl):=⟨U,U,U,by decide +kernel,U,by decide +kernel,by decide +kernel⟩
theorem YDn {f:Addr}{fd:FuncData} (F:Fun K "_law_whole" "_law_whole" Xl f fd) (T:Txt K mg C):Yz P w K mg base CX0 1 f fd ["_law_found"] (YHt):=by
 refine F.ok YDm (λvs H Q E h=>?_) (λaK A outer s H vs Q E hr h=>?_)
 ·cases h;subst_vars;rfl
 ·obtain⟨i,rfl,q⟩:=h;refine⟨_,(YF (YT (JE (YO (Zk K rfl) (by rfl) T.aa YKb (YA (pv 0) (YA (JK (v:=.ty "int") (by rfl) T.jE YK8 rfl) YB))) (JM (YIp (YO (Zk K rfl) (by rfl) T.aa YKb (YA (pv 0) (YA (JK (v:=.ty "bool") (by rfl) T.qO PyProof.Rows.Boot.«bool» rfl) YB)))))))),?_⟩;exact⟨_,U,_,_,_,_,_,U,.int _,U,YHN (.int i),_,U,Z6 ⟨_,U,_,_,_,_,_,U,.int _,U,YFb (.int i),_,U,q⟩⟩
theorem Xt:YV ["_law_found","_law_number"] ["_law_found"] (YJ J1):=⟨U,U,U,by decide +kernel,U,by decide +kernel,by decide +kernel⟩
theorem YCI {f:Addr}{fd:FuncData} (F:Fun K "_law_numbers" "_law_numbers" J1 f fd) (T:Txt K mg C) (dm:Yu P w K mg CX0 1 "_law_whole" ["_law_found"] (YHt)):Yz P w K mg base CX0 2 f fd ["_law_found"] (YBx):=by
 obtain⟨tU,sG,kZ,k_,lq,lu⟩:=dm.ok;refine F.ok Xt (λvs H Q E h=>?_) (λaK A outer s H vs Q E hr h=>?_)
 ·cases h;subst_vars;rfl
 ·obtain⟨l,ks,rfl,hl,q⟩:=h;refine⟨_,(YD (Yt (JL (Z1 (YO (Zk K rfl) (by rfl) T.aa YKb (YA (pv 0) (YA (JK (v:=.ty "list") (by rfl) T.cQ YKy rfl) YB))))) (YF (YT Zr)) YZ)
   (YD (ZH PassesOwn.never rfl (Je K rfl (pv 0)) (Yb (i:=1) Xt.nd rfl (Or.inl rfl)) (YF (Yt (JL (Z1 (YM (kZ base) (hr.mono (by decide)) (by rfl) k_ lq lu .nil Ye (YA (pv 1) YB)))) (YF (YT Zr)) YZ)))
   (YF (YT Zr)))),?_⟩
  refine⟨_,U,_,_,_,_,_,U,.lst hl,U,YFc (.lst []),_,U,Y5 ?_⟩;refine⟨_,U,l,U,⟨_,SqL.of hl⟩,Xv (K:=K) (a:=l) (xs:=ks.map nV) (λi σ H2=>H2=H/\∃v,σ=[some (.ref l),v]) ⟨U,none,U⟩ ?_ ?_ ?_⟩
  ·rintro i σ H2 _ ⟨rfl,_⟩;exact SqL.of hl
  ·rintro i y σ H2 hi ⟨rfl,v,rfl⟩;obtain⟨k,_,rfl⟩:=YKU.mp (YKL hi);exact⟨_,U,(k:Int),U,_,U,Y5 ⟨U,_,U⟩⟩
  ·rintro σ H2 ⟨rfl,v,rfl⟩;exact q
theorem ZR:YV ["_law_grammar","_law_row_here","_law_waiting","_law_signs_here","_law_at","_law_part","_law_beneath"] ["_law_grammar","_law_row_here"] (YJ YAB):=⟨U,U,U,by decide +kernel,U,by decide +kernel,by decide +kernel⟩
theorem YFE {f:Addr}{fd:FuncData} (F:Fun K "_law_read" "_law_read" YAB f fd) (T:Txt K mg C):Yz P w K mg base CX0 2 f fd ["_law_grammar","_law_row_here"] (YG7):=by
 refine F.ok ZR (λvs H Q E h=>?_) (λaK A outer s H vs Q E hr h=>?_)
 ·cases h;subst_vars;rfl
 ·obtain⟨l,o,xs,r0,YL,ks,rfl,hl,aF,hg,ho,dB,hkl,hp,q⟩:=h;have hU:=hr.units;refine⟨_,(YD (Yt (YW (JU K rfl hU) (pv 0) (Y7 YB) (YY _)) (YF (YT Z0)) YZ)
   (YD (YK (i:=2) ZR.nd rfl (Or.inl rfl) (Y7 (YA (YU (Ya K rfl) (YU (Yc K rfl) (pv 0) YE (λ_ _=>rfl)) YE (λ_ _=>rfl)) YB)))
   (YD (YK (i:=3) ZR.nd rfl (Or.inl rfl) Yj)
   (YD (YK (i:=4) ZR.nd rfl (Or.inl rfl) YE)
   (YD (XJ PassesOwn.never (YW (JV K rfl hU) (pv 2) (Y7 YB) (YY _)) (YD (YK (i:=5) ZR.nd rfl (Or.inl rfl) (YEm K rfl YKc PySem.F.slot_list_pop PySem.F.type_list_pop YGU (pv 2)))
   (YF (Yt (YW Xr (YU Z2 (pv 5) YE (λ_ _=>rfl)) Yj (YY _)) (YF (YK (i:=3) ZR.nd rfl (Or.inl rfl) (YQ Za (pv 3) (YU Z2 (pv 5) YE (λ_ _=>rfl))))) (YD (Yt (PW.pt (Xq (YW op_ge (pv 4) (YO (YR K rfl) (by rfl) T.aG YKP (YA (pv 1) YB)) (YY _)) (Xq (JL (YIz YBA YCT YE (YU (Yc K rfl) (pv 1) (pv 4) (λ_ _=>rfl)) (YO (YR K rfl) (by rfl) T.aG YKP (YA (pv 0) YB)))) (XC (YW YB1 (YU (Ya K rfl) (YU (Yc K rfl) (pv 0) (YU (Yc K rfl) (pv 1) (pv 4) (λ_ _=>rfl)) (λ_ _=>rfl)) YE (λ_ _=>rfl)) (pv 5) (YY _)))))) (YF (YT Z0)) YZ)
   (YD (ZH PassesOwn.never rfl (YHc K rfl rfl T.bH (YA (YU (Ya K rfl) (YU (Yc K rfl) (pv 0) (YU (Yc K rfl) (pv 1) (pv 4) (λ_ _=>rfl)) (λ_ _=>rfl)) YE (λ_ _=>rfl)) YB)) (Yb (i:=6) ZR.nd rfl (Or.inl rfl)) (YF (ZG (ZS K rfl YKc YKp YKo Yx (pv 2) (YA (pv 6) YB)))))
   (YF (YK (i:=4) ZR.nd rfl (Or.inl rfl) (YQ Y4 (pv 4) YE)))))))))
   (YD (Yt (YW YCT (pv 4) (YO (YR K rfl) (by rfl) T.aG YKP (YA (pv 1) YB)) (YY _)) (YF (YT Z0)) YZ)
   (YF (YT (pv 3))))))))),?_⟩
  have eZ:xs.length=(r0 :: YL).length:=by rw[aF.len,YKF]
  refine⟨_,U,YKm _,λle hle=>?_⟩;have s1:=YH.upd (o:=.lst []) hle;refine⟨ZZ (r0 :: YL),.lst [],.lst (.inl (s1 _ _ hl)) (aF.same s1),.lst (.inl YC) .nil,YBK _,U,YCo _,_,U,Y5 ?_⟩;have p1:YI (upd H le (.lst [])):=hp.upd rfl;revert s1 p1;generalize upd H le (.lst [])=H1;intro s1 p1;obtain⟨x0,xr,exs⟩:∃x0 xr,xs=x0 :: xr:=by
   cases xs with
   |nil=>cases eZ
   |cons a b=>exact⟨a,b,U⟩
  have rK:xs[0]?=some x0:=by rw[exs];rfl
  obtain⟨Ws,t0,p0,wD,yH,nM,wN⟩:=ZM aF rK;cases wD;have ug:atI xs 0=some (.ref t0):=by rw[<-yH];exact Yv (j:=0) rK
  have vB:Y2 r0.1=true:=YEO (YEQ (YDI hg (i:=0) rfl));have R7:isQ r0.1=false:=by
   rw[YDF];refine YKO λe=>?_
   have h:=YEQ (YDI hg (i:=0) (r:=r0) rfl);unfold isNameS at h;rw[YKM]at h;exact absurd (YKj.mp h.2 39 (YKL e)) (by decide)
  obtain⟨g,eg⟩:∃g,r0 :: YL=g:=⟨_,U⟩;rw[eg]at aF hg dB eZ;refine⟨_,U,l,_,0,_,U,U,SqL.of (s1 _ _ hl),ug,t0,_,0,_,U,U,SqT.of (s1 _ _ nM),U,YG (by show 1<=1000;decide),λlw qj=>?_⟩;have pW:H lw=none:=s1.free qj;have s2:=s1.trans (YH.upd (o:=.lst [.str r0.1]) qj);have w2:upd H1 lw (.lst [.str r0.1]) lw=some (.lst ([r0.1].map V.str)):=YC;have p2:YI (upd H1 lw (.lst [.str r0.1])):=p1.upd rfl;revert s2 w2 p2;generalize upd H1 lw (.lst [.str r0.1])=H2;intro s2 w2 p2;refine⟨λμ σ H3=>∃(zs:List Str) (sg:Str) (at_:Nat) (v5 v6:Option V),σ=[some (.ref l),some (.ref o),some (.ref lw),some (.str sg),some (.int (at_:Int)),v5,v6]/\(∀φ,Phi g φ->sg.cps.toList ++ zs.reverse.flatMap φ=φ r0.1)/\H3 lw=some (.lst (zs.map V.str))/\(∀x∈zs,Y2 x=true)/\Yw g (unQ zs.reverse) (ks.drop at_)/\at_<=ks.length/\sg.length + zs.length<=1 + 6 * at_/\μ=7 * (ks.length - at_) + zs.length/\YH H H3/\YI H3,
   ⟨_,[r0.1],"",0,none,none,U,(λφ _=>YKs _),w2,λx hx=>by rw[YKf.mp hx];exact vB,?_,YKm _,by rw[show(("":Str)).length=0 by decide +kernel];exact(show 0 + 1<=1 by decide),U,s2,p2⟩,?_⟩
  ·rw[YL0];have:unQ [r0.1].reverse=[r0.1]:=by
    show unQ [r0.1]=_;unfold unQ;rw[YKv,R7];rfl
   rw[this];exact dB
  rintro μ σ H3 ⟨zs,sg,at_,v5,v6,rfl,hφ,w3,yO,iI,hat,rT,hμ,s3,p3⟩;refine⟨_,U,YKm _,λy_ vz=>?_⟩;have s4:=YH.upd (o:=.lst []) vz;refine⟨_,_,.lst (.inl (s4 _ _ w3)) (YS.strs zs),.lst (.inl YC) .nil,Xd _,U,X3 _,_,U,?_⟩;rw[YCP];have w4:=s4 _ _ w3;have qF:=s3.trans s4;have p4:YI (upd H3 y_ (.lst [])):=p3.upd rfl;revert w4 qF p4;generalize upd H3 y_ (.lst [])=H4;intro w4 qF p4;rcases List.eq_nil_or_concat zs with hz |⟨aN,z,hz⟩
  ·subst hz;rw[YKN rfl];refine Y5 ?_;have hend:ks.length<=at_:=by
    have:=YKB iI;exact List.drop_eq_nil_iff.mp this
   refine⟨_,U,_,U,o,_,U,.inl (SqL.of (qF _ _ ho)),_,_,U,U,_,U,?_⟩;rw[YKO (by rw[YKF];omega)];exact Y5 ⟨_,U,q sg H4 (λφ h=>by rw[eg]at h;have:=hφ φ h;rw[<-this];exact(YKs _).symm) qF p4⟩
  rw[List.concat_eq_append]at hz;subst hz;rw[YKO (by simp)];refine Z6 ⟨_,λ_ _ h=>h,?_⟩;have elast:((aN ++ [z]).map V.str)[((aN ++ [z]).map V.str).length - 1]?=some (.str z):=by
   rw[YKW,YKJ];show(_ ++ [V.str z])[_ + 1 - 1]?=_;rw[Nat.add_sub_cancel,YKw (YKH _),YLw];rfl
  have edrop:((aN ++ [z]).map V.str).dropLast=aN.map V.str:=by rw[YKW];exact List.dropLast_concat
  refine⟨_,U,.inl ⟨U,_,SqL.of w4⟩,lw,_,_,U,U,w4,elast,?_⟩;rw[edrop];have uw:YH H (upd H4 lw (.lst (aN.map V.str))):=qF.put pW;have w5:upd H4 lw (.lst (aN.map V.str)) lw=some (.lst (aN.map V.str)):=YC;have p5:YI (upd H4 lw (.lst (aN.map V.str))):=p4.upd rfl;revert uw w5 p5;generalize upd H4 lw (.lst (aN.map V.str))=H5;intro uw w5 p5;have WM:=yO z (YKg _ (YKf.mpr rfl));have q9:∀x∈aN,Y2 x=true:=λx hx=>yO x (YKx _ hx)
  rw[YKJ]at rT hμ;have rT:sg.length + (aN.length + 1)<=1 + 6 * at_:=rT;have hμ:μ=7 * (ks.length - at_) + (aN.length + 1):=hμ;rw[YK1]at iI;have iI:Yw g (unQ (z :: aN.reverse)) (ks.drop at_):=iI;obtain⟨c,hc,hlz,rQ⟩:=YA5 WM;refine⟨_,U,z,0,c,U,U,YG (by omega),hc,U,_,U,?_⟩;rw[rQ]
  by_cases hq:isQ z=true
  ·rw[hq];obtain⟨c2,hc2⟩:=YGF WM hq;have eu:unQ (z :: aN.reverse)=unQ aN.reverse:=by unfold unQ;rw[YKv,hq];rfl
   rw[eu]at iI;refine⟨_,U,_,U,z,1,c2,U,U,YG (by omega),hc2,sg,_,U,U,by rw[sizeLine_eq];show sg.length + 1<=_;omega,?_⟩;refine⟨_,?_,aN,sg ++ ⟨#[c2]⟩,at_,_,_,U,(λφ h=>by have:=hφ φ h;rw[YK1,List.flatMap_append]at this;rw[<-this];show(sg.cps ++ #[c2]).toList ++ _=sg.cps.toList ++ (([z].flatMap φ) ++ _);rw[Array.toList_append,List.flatMap_cons,List.flatMap_nil,YKs,h.2 z c2 hq hc2,YK0]),w5,q9,iI,hat,by rw[slen];show sg.length + 1 + _<=_;omega,U,uw,p5⟩;rw[hμ];omega
  ·have hq':isQ z=false:=YLH.mpr hq;rw[hq'];have eu:unQ (z :: aN.reverse)=z :: unQ aN.reverse:=by unfold unQ;rw[YKv,hq'];rfl
   rw[eu]at iI;obtain⟨k,Q7,r,e1,er,uo,yc⟩:=YIi iI;have yd:at_ < ks.length:=by
    have:=YLR List.length e1;rw[YK4,YKX]at this;omega
   have ek:ks[at_]?=some k/\Q7=ks.drop (at_ + 1):=by
    rw[YLJ yd]at e1;cases e1;exact⟨YKK yd,U⟩
   have ao:atI (ks.map nV) (at_:Int)=some (.int (k:Int)):=by
    refine Yv (j:=at_) ?_;rw[YKk,ek.1];rfl
   have hok:=YDI hg er;have ur:k < xs.length:=by rw[eZ];exact(YKR.mp er).1
   have hix:xs[k]?=some xs[k]:=YKK ur;obtain⟨r',tt,pp,cJ,ut,mO,gJ⟩:=ZM aF hix;rw[er]at cJ;cases cJ;have ax:atI xs (k:Int)=some (.ref tt):=by rw[<-ut];exact Yv hix
   have sqo:SqL K H5 o (ks.map nV):=SqL.of (uw _ _ ho);have sql:SqL K H5 l xs:=SqL.of (uw _ _ hl);refine⟨_,U,_,U,o,_,U,.inl sqo,_,_,U,U,_,U,?_⟩;rw[YKO (by rw[YKF];omega)];refine Y5 ⟨_,U,_,U,o,_,_,_,U,U,sqo,ao,_,_,U,U,_,U,?_⟩;rw[YKN (by omega)];refine Z6 ⟨_,U,l,_,U,.inl sql,_,_,U,U,_,U,?_⟩;rw[YKN (by omega)];refine Y5 ⟨_,U,_,U,_,U,o,_,_,_,U,U,sqo,ao,l,_,_,_,U,U,sql,ax,tt,_,0,_,U,U,SqT.of (uw _ _ mO),U,_,U,U,_,U,?_⟩;rw[decS,YKN uo];refine Y5 ?_;refine⟨_,U,_,U,_,U,o,_,_,_,U,U,sqo,ao,l,_,_,_,U,U,sql,ax,tt,_,1,_,U,U,SqT.of (uw _ _ mO),U,pp,_,U,SqT.of (uw _ _ gJ),?_⟩;have uQ:=(ZU hok).1;refine YFm (K:=K) (a:=pp) (xs:=r.2.1.map V.str) (λi σ H6=>∃v6,σ=[some (.ref l),some (.ref o),some (.ref lw),some (.str sg),some (.int (at_:Int)),some (.str z),v6]/\H6 lw=some (.lst ((aN ++ r.2.1.reverse.take i).map V.str))/\YH H H6/\YI H6)
    ⟨v6,U,by rw[List.take_zero,YKs];exact w5,uw,p5⟩ ?_ ?_ ?_
   ·rintro i σ H6 _ ⟨_,rfl,_,s6,_⟩;exact SqT.of (s6 _ _ gJ)
   ·rintro i y σ H6 hi ⟨v6,rfl,w6,s6,p6⟩;rw[<-YLQ,YKk]at hi;cases ex:r.2.1.reverse[i]? with
    |none=>rw[ex]at hi;cases hi
    |some x=>
     rw[ex]at hi;cases hi;have et:r.2.1.reverse.take (i + 1)=r.2.1.reverse.take i ++ [x]:=by rw[YLN,ex];rfl
     refine⟨_,U,.inl ⟨U,_,SqL.of w6⟩,_,U,lw,_,_,U,U,w6,by rw[YKF,YKJ,YK3,YKl,sizeLine_eq];omega,_,U,?_,s6.put pW,p6.upd rfl⟩;rw[YC,et,<-YK0,YKW (l₂:=[x])];rfl
   ·rintro σ H6 ⟨v6,rfl,w6,s6,p6⟩;have eall:r.2.1.reverse.take (r.2.1.map V.str).length=r.2.1.reverse:=by rw[YKF,<-YKl (as:=r.2.1),YLg]
    rw[eall]at w6;refine⟨_,U,_,_,U,U,?_⟩;have ei:(at_:Int) + 1=((at_ + 1:Nat):Int):=by omega
    refine⟨_,?_,aN ++ r.2.1.reverse,sg,at_ + 1,_,_,by rw[<-ei];rfl,(λφ h=>by have:=hφ φ h;rw[YK1,List.flatMap_append]at this;rw[<-this,YK1,YLW,List.flatMap_append];show _=_ ++ ([z].flatMap φ ++ _);rw[List.flatMap_cons,List.flatMap_nil,YKs,<-uo,h.1 r (YKL er)]),w6,λx hx=>?_,?_,by omega,?_,U,s6,p6⟩
    ·rw[hμ,YKJ,YKl];omega
    ·rcases YKu.mp hx with hx |hx
     ·exact q9 x hx
     ·exact(ZU hok).2 x (YLu.mp hx)
    ·rw[YK1,YLW,YAZ,<-ek.2];exact yc
    ·rw[YKJ,YKl];omega
end
def YAD (s:Sz) (ns:List Str):Int:=(ns.map λp=>(look s p).getD 0).sum
theorem XV (s:Sz) (x:Str) (ns:List Str):YAD s (x :: ns)=(look s x).getD 0 + YAD s ns:=by
 unfold YAD;rw[YKa,YLE]
theorem YAE (s:Sz) (a b:List Str):YAD s (a ++ b)=YAD s a + YAD s b:=by
 unfold YAD;rw[YKW,List.sum_append]
theorem YGG (s:Sz) (ps:List Str):YAD s (unQ ps)=Y3 s ps:=rfl
section
variable {g:YX}{s:Sz}
theorem YER (hs:Yp g 0 s) (f:Fix g 0 s) {ns:List Str}{k:Nat}{r:Yl}{row:List Nat} (e:g[k]?=some r) (h:Yw g (unQ r.2.1 ++ ns) row):Yg s 0 r.2.1=some (1 + YAD s (unQ r.2.1))/\(look s r.1).getD 0<=1 + YAD s (unQ r.2.1):=by
 obtain⟨m,em⟩:∃m,Yg s 0 r.2.1=some m:=⟨_,YAV λp hp hq=>by
  obtain⟨v,hv⟩:=YC4 hs f h p (YKx _ (JC.mpr ⟨hp,hq⟩));rw[hv];rfl⟩
 have e2:=JY hs.pos em;obtain⟨v,hv,hle⟩:=f r (YKL e) m em;rw[YGG,<-e2];exact⟨em,by rw[hv];exact hle⟩
theorem rows_ge (hs:Yp g 0 s) (f:Fix g 0 s) {ns:List Str}{row:List Nat} (h:Yw g ns row):YAD s ns<=row.length:=by
 induction h with
 |nil=>exact YKz _
 |@cons ns k r row e h ih=>
  have:=(YER hs f e h).2;rw[YAE]at ih;rw[XV,YKX];omega
theorem YKC (hs:Yp g 0 s) (f:Fix g 0 s) {o:Sz} (fx:Jl g s o) {k:Nat}{r:Yl}{m h:Int} (er:g[k]?=some r) (em:Yg s 0 r.2.1=some m) (eh:look o r.1=some h) {ns:List Str}{row:List Nat} (hr:Yw g ns row):
  k∈row->∀C:Int,(∀a x b,ns=a ++ x :: b->∃v,look o x=some v/\v<=C + YAD s a + YAD s b)->h + m<=C + row.length:=by
 induction hr with
 |nil=>intro hk;cases hk
 |@cons ns k' r' row e h' ih=>
  intro hk C hC;obtain⟨qd,vP⟩:=YER hs f e h';obtain⟨v0,Q8,hv0⟩:=hC [] r'.1 ns rfl;have e0:YAD s []=0:=rfl;rw[e0]at hv0;have hge:=rows_ge hs f h';rw[YAE]at hge;rcases YKT.mp hk with rfl |hk
  ·rw[er]at e;cases e;rw[em]at qd;cases qd;rw[eh]at Q8;cases Q8;rw[YKX];omega
  ·have:=ih hk (C + 1) λa x b hsp=>by
    rcases List.append_eq_append_iff.mp hsp with ⟨a2,h1,h2⟩ |⟨b1,h1,h2⟩
    ·
     obtain⟨v,ev,hv⟩:=hC (r'.1 :: a2) x b (by rw[h2];rfl);refine⟨v,ev,?_⟩;rw[XV]at hv;rw[h1,YAE];omega
    ·cases b1 with
     |nil=>
      rw[List.nil_append]at h2;obtain⟨v,ev,hv⟩:=hC [r'.1] x b (by rw[<-h2];rfl);refine⟨v,ev,?_⟩;rw[XV,e0]at hv;rw[YKs]at h1;rw[<-h1];omega
     |cons y b1=>
      cases h2;have hx:x∈unQ r'.2.1:=by rw[h1];simp
      obtain⟨hx1,hx2⟩:=JC.mp hx;obtain⟨sp,esp⟩:=YC4 hs f h' x (YKx _ hx);obtain⟨v,ev,hv⟩:=fx r' (YKL e) x hx1 _ v0 sp qd Q8 hx2 esp;refine⟨v,ev,?_⟩;rw[h1,YAE,XV,esp]at hv;have hv:v<=v0 + (1 + (YAD s a + (sp + YAD s b1))) - sp:=hv;rw[show b1.append ns=b1 ++ ns from rfl,YAE];omega
   rw[YKX];omega
theorem YBV.min (hs:Yp g 0 s) (f:Fix g 0 s) {k:Nat}{ks ks':List Nat} (R:YBV g s k ks') {r0:Yl}{YL:YX} (eg:g=r0 :: YL) (h:Yw g [r0.1] ks) (hk:k∈ks):ks'.length<=ks.length:=by
 obtain⟨rP,au,r,m,o,h0,qt,er,em,wy,fx,eh,_,_,hl⟩:=R;rw[eg]at qt;cases qt;have:=YKC hs f fx.1 er em eh h hk 0 λa x b hsp=>by
  cases a with
  |nil=>
   cases hsp;exact⟨0,wy.has,by show(0:Int)<=0 + 0 + 0;decide⟩
  |cons y a=>
   exact absurd (YLR List.length hsp) (by simp)
 omega
end
section
variable {g:YX}{s s':Sz} (h:Yp g 0 s) (f:Fix g 0 s) (h':Yp g 0 s') (f':Fix g 0 s')
include h f h' f'
theorem YGA.one {k:Nat} (q:YGA g s k):YGA g s' k:=by
 obtain⟨r0,YL,r,m,o,hh,e1,e2,e3,w,x,e4,e5⟩:=q;exact⟨r0,YL,r,m,o,hh,e1,e2,Jb h f h' f' e3,YG5 h f h' f' w,YG6 h f h' f' x,e4,e5⟩
theorem YDl.one {k:Nat} (q:YDl g s k):YDl g s' k:=λr0 YL r m o hh e1 e2 e3 w x e4=>q r0 YL r m o hh e1 e2 (Jb h' f' h f e3) (YG5 h' f' h f w) (YG6 h' f' h f x) e4
theorem YBV.one {k:Nat}{ks:List Nat} (R:YBV g s k ks):YBV g s' k ks:=by
 obtain⟨r0,YL,r,m,o,hh,e1,e2,e3,w,x,e4,e5,e6,e7⟩:=R;exact⟨r0,YL,r,m,o,hh,e1,e2,Jb h f h' f' e3,YG5 h f h' f' w,YG6 h f h' f' x,e4,e5,e6,e7⟩
end
theorem YGA.no {g:YX}{s:Sz}{k:Nat} (q:YGA g s k) (l:YDl g s k):False:=by
 obtain⟨r0,YL,r,m,o,hh,e1,e2,e3,w,x,e4,e5⟩:=q;have:=l r0 YL r m o hh e1 e2 e3 w x e4;omega
theorem YBV.le {g:YX}{s:Sz}{k:Nat}{ks:List Nat} (R:YBV g s k ks) (l:YDl g s k):ks.length<=1000:=by
 obtain⟨r0,YL,r,m,o,hh,e1,e2,e3,w,x,e4,e5,e6,e7⟩:=R;have:=l r0 YL r m o hh e1 e2 e3 w x e4;omega
end FR
namespace FR
open PySem L2 PyProof.Rows PySem.Spec
theorem YIj {a b:List Nat} (h:(!ltCps b a)=true):a<=b:=by
 rw[ltCps_eq,Bool.not_eq_true',decide_eq_false_iff_not]at h;exact h
theorem YES:∀(l:List Str) (p:Str),risingS p l=true->∀x∈l,p.cps.toList<=x.cps.toList
 |[],_,_,_,h=>nomatch h
 |y :: l,p,h,x,hx=>by
  unfold risingS at h;rw[YKM]at h;have h1:=YIj h.1;rcases YKT.mp hx with rfl |hx
  ·exact h1
  ·exact List.le_trans h1 (YES l y h.2 x hx)
theorem YET:∀(l:List Str) (p:Str),risingS p l=true->(p :: l).Pairwise λa b=>a.cps.toList<=b.cps.toList
 |[],p,_=>by simp
 |y :: l,p,h=>by
  refine List.pairwise_cons.mpr ⟨YES (y :: l) p h,?_⟩;unfold risingS at h;rw[YKM]at h;exact YET l y h.2
theorem YEU {l:List Str} (h:sortedS l=true):l.Pairwise λa b=>a.cps.toList<=b.cps.toList:=by
 cases l with
 |nil=>exact .nil
 |cons p l=>exact YET l p h
theorem YG8 {a b:List Str} (ha:sortedS a=true) (hb:sortedS b=true) (h:a.Perm b):a=b:=
 h.eq_of_pairwise (λx y _ _ h1 h2=>by
  have:=List.le_antisymm h1 h2;cases x;cases y;congr 1;exact Array.toList_inj.mp this) (YEU ha) (YEU hb)
structure JA (g:YX) (f:Str->Nat) (z0:Str):Prop where
 nd:(g.map (·.1)).Nodup
 q:∀r∈g,isQ r.1=false
 eq:∀r∈g,f r.1=1 + ((unQ r.2.1).map f).sum
 hd:∀r∈g,∀p∈unQ r.2.1,p∈g.map (·.1)
 top:∀r∈g,f r.1<=f z0
 up:∀r∈g,r.1≠z0->∃r'∈g,r.1∈unQ r'.2.1
section
variable {g:YX}{f:Str->Nat}{z0:Str}{s:Sz}
theorem YHv {f:Str->Nat}:∀{l:List Str}{p:Str},p∈l->f p<=(l.map f).sum
 |x :: l,p,h=>by
  rw[YKa,YLE];rcases YKT.mp h with rfl |h
  ·omega
  ·have:=YHv (f:=f) h;omega
theorem JA.part (G:JA g f z0) {r:Yl} (hr:r∈g) {p:Str} (hp:p∈unQ r.2.1):f p < f r.1:=by
 have:=YHv (f:=f) hp;rw[G.eq r hr];omega
theorem JA.rule (G:JA g f z0) {r r':Yl} (h:r∈g) (h':r'∈g) (e:r.1=r'.1):r=r':=by
 have nd:=G.nd;clear G
 induction g with
 |nil=>cases h
 |cons x g ih=>
  rw[YKa,YK9]at nd;rcases YKT.mp h with rfl |h1 <;> rcases YKT.mp h' with rfl |h2
  ·rfl
  ·exact(nd.1 (YKU.mpr ⟨r',h2,e.symm⟩)).elim
  ·exact(nd.1 (YKU.mpr ⟨r,h1,e⟩)).elim
  ·exact ih h1 h2 nd.2
theorem YHw {f:Str->Nat}:∀{l:List Str},(∀p∈l,look s p=some (f p:Int))->YAD s l=((l.map f).sum:Nat)
 |[],_=>rfl
 |x :: l,h=>by
  rw[XV,h x (YKd ..),YHw λp hp=>h p (YKY _ hp),YKa,YLE];show(f x:Int) + _=_;omega
theorem JA.sz (G:JA g f z0) (hs:Yp g 0 s) (hf:Fix g 0 s):∀(n:Nat) (r:Yl),r∈g->f r.1<=n->look s r.1=some (f r.1:Int)/\Yg s 0 r.2.1=some (f r.1:Int)
 |0,r,hr,hn=>by
  have:=G.eq r hr;omega
 |n + 1,r,hr,hn=>by
  have hp:∀p∈unQ r.2.1,look s p=some (f p:Int):=λp hp=>by
   obtain⟨r',hr',e⟩:=YKU.mp (G.hd r hr p hp);have hlt:=G.part hr hp;have:=(G.sz hs hf n r' hr' (by rw[e];omega)).1;rw[e]at this;exact this
  have em:Yg s 0 r.2.1=some (f r.1:Int):=by
   obtain⟨m,em⟩:∃m,Yg s 0 r.2.1=some m:=⟨_,YAV λp hp' hq=>by
    rw[hp p (JC.mpr ⟨hp',hq⟩)];rfl⟩
   rw[em];have:=JY hs.pos em;rw[this,<-YGG,YHw hp,G.eq r hr];congr 1
  obtain⟨v,hv,hle⟩:=hf r hr _ em;obtain⟨r',hr',e,m,qd,vP⟩:=hs.hd r.1 v hv;cases G.rule hr' hr e;rw[em]at qd;cases qd;rw[hv];exact⟨by congr 1;omega,em⟩
theorem JA.look (G:JA g f z0) (hs:Yp g 0 s) (hf:Fix g 0 s) {r:Yl} (hr:r∈g):FR.look s r.1=some (f r.1:Int)/\Yg s 0 r.2.1=some (f r.1:Int):=G.sz hs hf _ r hr (YKH _)
theorem JA.keys (G:JA g f z0) (hs:Yp g 0 s) (hf:Fix g 0 s):(s.map (·.1)).Perm (g.map (·.1)):=by
 refine(List.perm_ext_iff_of_nodup hs.nd G.nd).mpr λz=>⟨λhz=>?_,λhz=>?_⟩
 ·obtain⟨x,hx,rfl⟩:=YKU.mp hz;obtain⟨r,hr,e,_⟩:=hs.hd x.1 x.2 (YAT hs.nd hx);exact YKU.mpr ⟨r,hr,e⟩
 ·obtain⟨r,hr,rfl⟩:=YKU.mp hz;exact YKU.mpr ⟨_,Z8 (G.look hs hf hr).1,U⟩
theorem JA.reach (G:JA g f z0) (hs:Yp g 0 s) (hf:Fix g 0 s) (h0:z0∈g.map (·.1)) {z:Str} (h:J7 g s z0 z):f z<=f z0/\z∈g.map (·.1):=by
 induction h with
 |start=>exact⟨YKH _,h0⟩
 |@step r p hr _ _ hp hq ih=>
  have hp':=JC.mpr ⟨hp,hq⟩;have:=G.part hr hp';exact⟨by omega,G.hd r hr p hp'⟩
theorem JA.above (G:JA g f z0) (hs:Yp g 0 s) (hf:Fix g 0 s) (h0:z0∈g.map (·.1)) {o:Sz} (w:Zy g s z0 o) (x:DF g s z0 o):∀(n:Nat) (z:Str) (h:Int),f z0<=f z + n->FR.look o z=some h->h=(f z0:Int) - f z
 |n,z,h,hn,e=>by
  by_cases hz:z=z0
  ·rw[hz,w.has]at e;cases e;rw[hz];omega
  rcases x.2 z h e with e1 |⟨r,m,h',sp,hr,em,eh,hp,hq,esp,hle⟩
  ·exact(hz e1).elim
  have hp':=JC.mpr ⟨hp,hq⟩;obtain⟨g1,g2⟩:=G.look hs hf hr;rw[g2]at em;cases em;obtain⟨rz,uo,ez⟩:=YKU.mp (G.hd r hr z hp');have g3:=(G.look hs hf uo).1;rw[ez,esp]at g3;cases g3;have hlt:=G.part hr hp';have hrr:=G.reach hs hf h0 (w.rch r.1 h' eh);cases n with
  |zero=>omega
  |succ n=>
   have ih:=G.above hs hf h0 w x n r.1 h' (by omega) eh;obtain⟨v,ev,hv⟩:=x.1 r hr z hp _ h' _ g2 eh hq esp;rw[e]at ev;cases ev;omega
theorem JA.all (G:JA g f z0) (hs:Yp g 0 s) (hf:Fix g 0 s):∀(n:Nat) (r:Yl),r∈g->f z0<=f r.1 + n->J7 g s z0 r.1
 |n,r,hr,hn=>by
  by_cases hz:r.1=z0
  ·rw[hz];exact .start
  obtain⟨r',hr',hp⟩:=G.up r hr hz;have hlt:=G.part hr' hp;have:=G.top r' hr';cases n with
  |zero=>omega
  |succ n=>
   obtain⟨h1,h2⟩:=JC.mp hp;exact .step hr' ⟨_,(G.look hs hf hr').2⟩ (G.all hs hf n r' hr' (by omega)) h1 h2
theorem JA.need (G:JA g f z0) (hs:Yp g 0 s) (hf:Fix g 0 s) {r0:Yl}{YL:YX} (eg:g=r0 :: YL) (e0:r0.1=z0) (k:Nat):XU g s k<->k < g.length:=by
 constructor
 ·rintro⟨r,_,_,_,er,_⟩;exact(YKR.mp er).1
 ·intro h;have hr:g[k]?=some g[k]:=YKK h;have hm:=YKL hr;refine⟨g[k],r0,YL,eg,hr,⟨_,(G.look hs hf hm).2⟩,?_⟩;rw[e0];exact G.all hs hf _ _ hm (by have:=G.top _ hm;exact Nat.le_add_left _ _)
theorem JA.tot (G:JA g f z0) (hs:Yp g 0 s) (hf:Fix g 0 s) {r0:Yl}{YL:YX} (eg:g=r0 :: YL) (e0:r0.1=z0) {k:Nat}{r:Yl}{m h:Int}{o:Sz} (er:g[k]?=some r) (em:Yg s 0 r.2.1=some m) (w:Zy g s r0.1 o) (x:DF g s r0.1 o) (eh:FR.look o r.1=some h):h + m=f z0:=by
 rw[e0]at w x;have hm:=YKL er;rw[(G.look hs hf hm).2]at em;cases em;have:=G.above hs hf (by rw[<-e0,eg];simp) w x (f z0) r.1 h (Nat.le_add_left _ _) eh;omega
end
def uN (k:Nat):Str:=("U":Str) ++ ⟨#[65 + k]⟩
def uHd:Nat->Str
 |0=>"U"
 |k + 1=>uN k
def ups:Nat->YX
 |0=>[("U",["'u","W"],1)]
 |k + 1=>(uN k,[uHd k],(k:Int)) :: ups k
def lN (k:Nat):Str:=("L":Str) ++ ⟨#[65 + k]⟩
def YDJ (k:Nat):Yl:=(lN (k + 1),[lN k,lN k],0)
def YEV:Yl:=("W",["LI","LH","LG","LF","LE","LC"],0)
def YGH (c:Nat):YX:=ups c ++ [YEV] ++ (List.range 8).map YDJ ++ ([("LA",[],5)]:YX)
def YAF (c:Nat) (rev:Bool):YX:=if rev=true then (YGH c).take 1 ++ ((YGH c).drop 1).reverse else YGH c
def f13 (z:Str):Nat:=match z.cps.toList with
 |[87]=>995
 |[85]=>996
 |[85,k]=>997 + (k - 65)
 |[76,k]=>2 ^ (k - 64) - 1
 |_=>0
def YB9 (p:Str):List Nat:=if isQ p=true then [p.cps.toList.getD 1 0] else if p.cps.toList[0]?=some 85 then [117] else []
def YHx (c:Nat) (rev:Bool):Bool:=Yf (YAF c rev) && (decide (((YAF c rev).map (·.1)).Nodup) && ((YAF c rev).all (λr=>!isQ r.1 && (decide (f13 r.1=1 + ((unQ r.2.1).map f13).sum) && ((unQ r.2.1).all (λp=>decide (p∈(YAF c rev).map (·.1))) && (decide (f13 r.1<=f13 (uHd c)) && ((decide (r.1=uHd c) || (YAF c rev).any λr'=>decide (r.1∈unQ r'.2.1)) && decide (YB9 r.1=r.2.1.flatMap YB9)))))) && (decide (((YAF c rev).map (·.1))[0]?=some (uHd c)) && (decide (f13 (uHd c)=996 + c) && decide ((YAF c rev).length=c + 11)))))
theorem YIk:((List.range 13).all λc=>YHx c true && YHx c false)=true:=by decide +kernel
theorem YKD {c:Nat} (hc:c < 13) (rev:Bool):YHx c rev=true:=by
 have h:=YKj.mp YIk c (YLI.mpr hc);rw[YKM]at h;cases rev
 ·exact h.2
 ·exact h.1
theorem YFF {c:Nat} (hc:c < 13) (rev:Bool):Yf (YAF c rev)=true/\JA (YAF c rev) f13 (uHd c)/\(∃r0 YL,YAF c rev=r0 :: YL/\r0.1=uHd c)/\f13 (uHd c)=996 + c/\(YAF c rev).length=c + 11/\∀r∈YAF c rev,YB9 r.1=r.2.1.flatMap YB9:=by
 have h:=YKD hc rev;unfold YHx at h;simp only[YKM,YKj,YKt,Bool.not_eq_true',YLo,List.any_eq_true]at h;obtain⟨h1,h2,h3,h4,h5,h6⟩:=h;refine⟨h1,⟨h2,λr hr=>(h3 r hr).1,λr hr=>(h3 r hr).2.1,λr hr p hp=>(h3 r hr).2.2.1 p hp,λr hr=>(h3 r hr).2.2.2.1,λr hr hz=>?_⟩,?_,h5,h6,λr hr=>(h3 r hr).2.2.2.2.2⟩
 ·rcases(h3 r hr).2.2.2.2.1 with e |e
  ·exact(hz e).elim
  ·exact e
 ·cases e:YAF c rev with
  |nil=>rw[e]at h4;cases h4
  |cons r0 YL=>
   rw[e]at h4;exact⟨r0,YL,U,YKr h4⟩
theorem YKE {c:Nat} (hc:c < 13) (rev:Bool):Phi (YAF c rev) YB9:=⟨(YFF hc rev).2.2.2.2.2,λp ch hq hc=>by
 unfold YB9;rw[if_pos hq]
 match hl:p.cps.toList,hc with
 |[],hc=>cases hc
 |[a],hc=>cases hc
 |a :: b :: r,hc=>
  have e:atI (a :: b :: r) 1=some b:=Yv (xs:=a :: b :: r) (j:=1) (v:=b) rfl;rw[e]at hc;cases hc;rfl⟩
theorem YIl:∀c < 13,YB9 (uHd c)=[117]:=by decide +kernel
inductive YGI (vs:List V) (H:Hp) (Q:VK):Prop where
 |mk (x y:V) (g:YX) (s:Sz) (dn:D) (aY:vs=[x,y]) (aZ:Den H x (ZZ g)) (bN:Yf g=true) (dC:Den H y dn) (gk:dn.short=true) (jG:Yp g 0 s) (nJ:Fix g 0 s) (qg:YI H) (uT:((∀k:Nat,dn=.int (k:Int)->¬XU g s k)->∀u H',YH H H'->YI H'->H' u=some (.tup [.int 1,.int 1])->Q (.ref u) H')) (yN:(∀k:Nat,dn=.int (k:Int)->XU g s k->(YGA g s k->∀u H',YH H H'->YI H'->H' u=some (.tup [.int 2,.int 1])->Q (.ref u) H')/\(YDl g s k->∀lr ks H',YBV g s k ks->YH H H'->YI H'->H lr=none->H' lr=some (.lst (ks.map nV))->Q (.ref lr) H'))):YGI vs H Q
def YCQ:Sp:=λvs H Q E_=>YGI vs H Q
inductive YEW (vs:List V) (H:Hp) (Q:VK):Prop where
 |mk (c:Int) (y:V) (dn:D) (aY:vs=[.int c,y]) (aZ:Den H y dn) (bN:dn.short=true) (dC:YI H) (gk:∀H',YH H H'->YI H'->Q (.bl true) H'):YEW vs H Q
def YGJ:Sp:=λvs H Q E_=>YEW vs H Q
def RowV (H:Hp) (g:YX) (v:V):Prop:=v=.non\/∃(o:Addr) (ks:List Nat) (r0:Yl) (YL:YX),v=.ref o/\H o=some (.lst (ks.map nV))/\g=r0 :: YL/\Yw g [r0.1] ks
inductive YEX (vs:List V) (H:Hp) (Q:VK):Prop where
 |mk (l lr:Addr) (k:Nat) (xs:List V) (g:YX) (s:Sz) (rs:List V) (aY:vs=[.ref l,.int (k:Int),.ref lr]) (aZ:H l=some (.lst xs)) (bN:YS H xs (g.map Yn)) (dC:Yf g=true) (gk:Yp g 0 s) (jG:Fix g 0 s) (nJ:XU g s k) (qg:YDl g s k) (uT:H lr=some (.lst rs)) (yN:(∀v∈rs,RowV H g v)) (tu:YI H) (vm:∀H',YH H H'->YI H'->Q (.bl true) H'):YEX vs H Q
def YGK:Sp:=λvs H Q E_=>YEX vs H Q
inductive YDK (vs:List V) (H:Hp) (Q:VK):Prop where
 |mk (c:Int) (aY:vs=[.int c]) (aZ:0<=c) (bN:YI H) (dC:∀l (n:Nat) (xs:List V) H',(n:Int)=c % 13->n < 13->YH H H'->YI H'->H l=none->H' l=some (.lst xs)->YS H' xs ((YGH n).map Yn)->Q (.ref l) H'):YDK vs H Q
def YEY:Sp:=λvs H Q E_=>YDK vs H Q
inductive YDL (vs:List V) (H:Hp) (Q:VK):Prop where
 |mk (c:Int) (aY:vs=[.int c]) (aZ:0<=c) (bN:YI H) (dC:∀H',YH H H'->YI H'->Q (.bl true) H'):YDL vs H Q
def YEZ:Sp:=λvs H Q E_=>YDL vs H Q
theorem laid13 {H:Hp}{q:Addr}{o:HO} (_:H q=none):upd H q o q=some o:=YC
section
variable {P:Program}{w:World}{K:W.Frag}{mg:Str->Option Value}{base:Heap}{C:Adr}
theorem ZC:YV ["_law_grammar","_law_number","_law_found","e","_law_own","_law_other"] ["_law_grammar","_law_number"] (YJ Xm):=⟨U,U,U,by decide +kernel,U,by decide +kernel,by decide +kernel⟩
theorem YDo {f:Addr}{fd:FuncData} (F:Fun K "_law_asked" "_law_asked" Xm f fd) (T:Txt K mg C) (bK:Yu P w K mg (CXo P w) 8 "row_with" ["grammar","number"] (YA4 C.NoGrammar C.NoRow C.TooGreat)):Yz P w K mg base CX0 9 f fd ["_law_grammar","_law_number"] (YCQ):=by
 obtain⟨nD,mq,gC,gD,gF,gG⟩:=bK.ok;refine F.ok ZC (λvs H Q E h=>?_) (λaK A outer s H vs Q E hr h=>?_)
 ·cases h;subst_vars;rfl
 ·obtain⟨x,y,g,s,dn,rfl,den,hg,dny,shy,hs,hf,hp,qN,qK⟩:=h;have hu:=Jh hr;have hU:=hr.units;refine qex ?_;refine⟨_,(Yd (YEr (i:=2) ZC.nd rfl (Or.inl rfl) (Jq (Y6 YAq (Y6 YAq Zp))))
   (Yd ⟨(ps_try (i:=3) (C:=C.ForestError) rfl rfl rfl (YFS (psx_set (i:=2) ZC.nd rfl (Or.inl rfl) (YFR (gC base) (hr.mono (by decide)) (by rfl) gD gF gG .nil (YA (pv 0) (YA (pv 1) YB))))) ZC.nd rfl rfl (by rfl) T.jA (λe=>(YD (YK (i:=4) ZC.nd rfl (Or.inl rfl) (YQ Y4 (Zv YAJ (by rfl) T.jE YK8 (YA (YO (YAn K rfl) (by rfl) T.aa YKb (YA (pv 3) (YA (ZF (v:=.ref C.NoRow) (by rfl) T.nP rfl) YB))) YB)) (YQ XX YE (Zv YAJ (by rfl) T.jE YK8 (YA (YO (YAn K rfl) (by rfl) T.aa YKb (YA (pv 3) (YA (ZF (v:=.ref C.TooGreat) (by rfl) T.iQ rfl) YB))) YB)))))
   (YD (YK (i:=5) ZC.nd rfl (Or.inl rfl) (YO (YB2 K rfl) (by rfl) T.aa YKb (YA (pv 3) (YA (Zb (Zh (ZF (v:=.ref C.Barren) (by rfl) T.qQ rfl) (Zh (ZF (v:=.ref C.Endless) (by rfl) T.n8 rfl) (Zh (ZF (v:=.ref C.NoChange) (by rfl) T.mQ rfl) (Zh (ZF (v:=.ref C.NoCosts) (by rfl) T.n_ rfl) (Zh (ZF (v:=.ref C.NoNumber) (by rfl) T.mR rfl) YB)))))) YB))))
   (YD (YK (i:=5) ZC.nd rfl (Or.inl rfl) (pe_or (pv 5) (JM (YO (YB2 K rfl) (by rfl) T.aa YKb (YA (pv 3) (YA (Zb (Zh (ZF (v:=.ref C.NoGrammar) (by rfl) T.dJ rfl) (Zh (ZF (v:=.ref C.NoRule) (by rfl) T.qR rfl) (Zh (ZF (v:=.ref C.NoText) (by rfl) T.qT rfl) (Zh (ZF (v:=.ref C.NoWords) (by rfl) T.ph rfl) YB))))) YB))))))
   (YF (YK (i:=2) ZC.nd rfl (Or.inl rfl) (Zb (YA (YQ YEc (pv 4) (YQ XX YE (Zv YAJ (by rfl) T.jE YK8 (YA (pv 5) YB)))) (YA (Zv YAJ (by rfl) T.jE YK8 (YA (YO (YAn K rfl) (by rfl) T.aa YKb (YA (pv 3) (YA (JK (v:=.ty "ValueError") (by rfl) T.jK PyProof.Rows.Boot.«ValueError» rfl) YB))) YB)) YB))))))))))⟩
   (YAO ⟨(YT (pv 2))⟩))),?_⟩
  have atN:Xs K C.NoRow:=⟨T.pq,T.pB,T.pC,T.pD,T.pF,T.xgs_,T.xtk_⟩;have atT:Xs K C.TooGreat:=⟨T.jL,T.jM,T.jN,T.jO,T.jP,T.xgs_,T.xtk_⟩;refine⟨YG (by show 2<=1000;decide),λu0 k0=>?_⟩;have s0:=YH.upd (o:=.tup [.int 0,.int 0]) k0;have p0:YI (upd H u0 (.tup [.int 0,.int 0])):=hp.upd rfl;revert s0 p0;generalize upd H u0 (.tup [.int 0,.int 0])=H0;intro s0 p0;dsimp only[JH,tSeq];refine YIK (λcls σ' H1=>∃b:Bool,((b=true/\cls=.ref C.NoRow/\∀k:Nat,dn=.int (k:Int)->¬XU g s k)\/(b=false/\cls=.ref C.TooGreat/\∃k:Nat,dn=.int (k:Int)/\XU g s k/\YGA g s k))/\σ'=[some x,some y,some (.ref u0),none,none,none]/\YH H H1/\YI H1) ?_ λEE hE=>?_
  ·rintro cls σ' H1 ⟨b,uc,rfl,s1,p1⟩;obtain⟨X,rfl,f1,f2,f3,f4,f5,f6,f7,f8⟩:∃X,cls=.ref X/\PySem.W.exmOne K (.ref X) (.ref C.ForestError)=some true/\Exc K X/\Xs K X/\PySem.W.kitOne K (.ref X) (.ref C.NoRow)=some b/\PySem.W.kitOne K (.ref X) (.ref C.TooGreat)=some (!b)/\PySem.W.kitAny K (.ref X) [.ref C.Barren,.ref C.Endless,.ref C.NoChange,.ref C.NoCosts,.ref C.NoNumber]=some false/\PySem.W.kitAny K (.ref X) [.ref C.NoGrammar,.ref C.NoRule,.ref C.NoText,.ref C.NoWords]=some false/\PySem.W.kitOne K (.ref X) (.type "ValueError")=some true:=by
    rcases uc with ⟨rfl,rfl,_⟩ |⟨rfl,rfl,_⟩
    ·exact⟨_,U,T.qU,T.nQ,atN,by unfold PySem.W.kitOne;(rw[if_pos (by simp)]) <;> rfl,T.kNT,T.o1_NoRow,T.o2_NoRow,T.v_NoRow⟩
    ·exact⟨_,U,T.lJ,T.iR,atT,T.kTN,by unfold PySem.W.kitOne;(rw[if_pos (by simp)]) <;> rfl,T.o1_TooGreat,T.o2_TooGreat,T.v_TooGreat⟩
   refine⟨f1,λe he=>?_⟩;have s2:YH H1 (upd H1 e (xO e (.ref X))):=YH.upd he;have x2:=laid13 (o:=xO e (.ref X)) he;have p2:YI (upd H1 e (xO e (.ref X))):=p1.upd rfl;revert s2 x2 p2;generalize upd H1 e (xO e (.ref X))=H2;intro s2 x2 p2;refine⟨_,U,e,X,_,_,_,U,x2,f2,f3,U,f4,.inr ⟨_,U,_,U,e,X,_,_,_,U,x2,f2,f3,U,f5,.inr ⟨_,U,_,_,U,U,.inl ⟨by decide,by decide⟩,_,_,U,U,?_⟩⟩⟩;refine⟨_,U,YG (by show 5<=1000;decide),λt1 h1=>?_⟩;have s3:=YH.upd (o:=.tup [.ref C.Barren,.ref C.Endless,.ref C.NoChange,.ref C.NoCosts,.ref C.NoNumber]) h1;refine⟨e,X,t1,[C.Barren,C.Endless,C.NoChange,C.NoCosts,C.NoNumber],_,U,s3 _ _ x2,f2,f3,YC,f6,?_⟩;refine⟨_,U,_,U,Y5 ⟨_,U,YG (by show 4<=1000;decide),λt2 h2=>?_⟩⟩;have s4:=YH.upd (o:=.tup [.ref C.NoGrammar,.ref C.NoRule,.ref C.NoText,.ref C.NoWords]) h2;refine⟨e,X,t2,[C.NoGrammar,C.NoRule,C.NoText,C.NoWords],_,U,s4 _ _ (s3 _ _ x2),f2,f3,YC,f7,?_⟩;refine⟨_,U,_,U,.inr ⟨_,U,_,_,U,U,.inl ⟨by decide,by decide⟩,_,_,U,U,_,U,e,X,_,_,_,U,s4 _ _ (s3 _ _ x2),f2,f3,U,f8,.inr ⟨_,U,YG (by show 2<=1000;decide),λu hu=>?_⟩⟩⟩;have ss:YH H (upd (upd (upd H2 t1 (.tup [.ref C.Barren,.ref C.Endless,.ref C.NoChange,.ref C.NoCosts,.ref C.NoNumber])) t2 (.tup [.ref C.NoGrammar,.ref C.NoRule,.ref C.NoText,.ref C.NoWords])) u (.tup [.int (((if b=true then 1 else 0) + 2 * if (!b)=true then 1 else 0) - 4 * if false=true then 1 else 0),.int (if true=true then 1 else 0)])):=((s1.trans s2).trans (s3.trans s4)).trans (YH.upd hu);have pp:YI (upd (upd (upd H2 t1 (.tup [.ref C.Barren,.ref C.Endless,.ref C.NoChange,.ref C.NoCosts,.ref C.NoNumber])) t2 (.tup [.ref C.NoGrammar,.ref C.NoRule,.ref C.NoText,.ref C.NoWords])) u (.tup [.int (((if b=true then 1 else 0) + 2 * if (!b)=true then 1 else 0) - 4 * if false=true then 1 else 0),.int (if true=true then 1 else 0)])):=((p2.upd rfl).upd rfl).upd rfl;rcases uc with ⟨rfl,_,hn⟩ |⟨rfl,_,k,ek,hk,hh⟩
   ·exact⟨_,U,qN hn u _ ss pp YC⟩
   ·exact⟨_,U,(qK k ek hk).1 hh u _ ss pp YC⟩
  ·refine⟨_,U,_,U,x,y,ZZ g,dn,U,den.same s0,YAu hg,dny.same s0,shy,p0,(λe=>by rw[Z7,hg]at e;cases e),λg' s' qt hg' hs' hf'=>?_⟩;cases YAR qt;refine⟨λhn H' sx px=>hE _ _ _ _ ⟨true,.inl ⟨U,U,λk ek hk=>hn k ek (YBv hs hf hs' hf' hk)⟩,U,s0.trans sx,px⟩,λk ek hk=>⟨λhi H' sx px=>hE _ _ _ _ ⟨false,.inr ⟨U,U,k,ek,YBv hs' hf' hs hf hk,hi.one hs' hf' hs hf⟩,U,s0.trans sx,px⟩,λlo lr ks H' R sx px h0 hl=>⟨_,U,(qK k ek (YBv hs' hf' hs hf hk)).2 (lo.one hs' hf' hs hf) lr ks H' (R.one hs' hf' hs hf) (s0.trans sx) px (s0.free h0) hl⟩⟩⟩
theorem Zf:YV ["_law_cell","_law_number","_law_bad","_law_kept"] ["_law_cell","_law_number"] (YJ JT):=⟨U,U,U,by decide +kernel,U,by decide +kernel,by decide +kernel⟩
theorem YA8 {f:Addr}{fd:FuncData} (F:Fun K "_law_no_grammar" "_law_no_grammar" JT f fd) (T:Txt K mg C) (bK:Yu P w K mg (CXo P w) 8 "row_with" ["grammar","number"] (YA4 C.NoGrammar C.NoRow C.TooGreat)):Yz P w K mg base CX0 9 f fd ["_law_cell","_law_number"] (YGJ):=by
 obtain⟨nD,mq,gC,gD,gF,gG⟩:=bK.ok;refine F.ok Zf (λvs H Q E h=>?_) (λaK A outer s H vs Q E hr h=>?_)
 ·cases h;subst_vars;rfl
 ·obtain⟨c,yn,dn,rfl,dny,shy,hp,q⟩:=h;refine qex ?_;refine⟨_,(Yd (YEr (i:=2) Zf.nd rfl (Or.inl rfl) (qe_ix (Yc K rfl) (YAr (Y6 (YAr (Y6 (Jq (Y6 Xb (Y6 (Jq Zp) (Y6 YAq Zp)))) Zp)) (Y6 (Jq Zp) (Y6 YJR (Y6 (YAr (Y6 (Jq (Y6 Xb (Y6 (Jq Zp) (Y6 ⟨pe_un YGO YE⟩ Zp)))) Zp)) (Y6 (YAr (Y6 (Jq (Y6 Xb (Y6 (YAr (Y6 Xb Zp)) (Y6 YAq Zp)))) Zp)) (Y6 (YAr (Y6 (Jq (Y6 Xb (Y6 (Jq Zp) (Y6 YAq Zp)))) (Y6 YJR Zp))) (Y6 Xb Zp)))))))) ⟨(YQ Yy (pv 0) YE)⟩ (λ_ _=>rfl)))
   (Yd (YEr (i:=3) Zf.nd rfl (Or.inl rfl) YAq)
   (Yd ⟨(ps_tryN rfl rfl rfl (YFS (YJE (YFR (gC base) (hr.mono (by decide)) (by rfl) gD gF gG .nil (YA (pv 2) (YA (pv 1) YB))))) (ph_hit0 (C:=C.NoGrammar) rfl (by rfl) T.dJ (λe=>(YF (YK (i:=3) Zf.nd rfl (Or.inl rfl) YE))) ph_nil))⟩
   (YAO ⟨(YT (JN Xr (pv 3) YE (YY _)))⟩)))),?_⟩
  have L (n:Nat) (h:n<=1000):n<=sizeLine:=YG h;refine⟨YKm _,λa1 h1=>⟨L 3 (by decide),λa2 h2=>⟨L 1 (by decide),λa3 h3=>⟨YKm _,λb1 h4=>⟨YKm _,λc1 h5=>⟨1,U,L 3 (by decide),λc2 h6=>⟨L 1 (by decide),λc3 h7=>⟨L 1 (by decide),λd1 h8=>⟨L 3 (by decide),λd2 h9=>⟨L 1 (by decide),λd3 h10=>⟨YKm _,λe1 R8=>⟨L 3 (by decide),λe2 R9=>⟨L 2 (by decide),λe3 zA=>⟨L 7 (by decide),λw1 R_=>?_⟩⟩⟩⟩⟩⟩⟩⟩⟩⟩⟩⟩⟩⟩;have fr:YEy H [(a1,.tup []),(a2,.tup [.str "a",.ref a1,.int 0]),(a3,.lst [.ref a2]),(b1,.tup []),(c1,.tup []),(c2,.tup [.str "A",.ref c1,.int (-1)]),(c3,.lst [.ref c2]),(d1,.lst [.str "'a"]),(d2,.tup [.str "A",.ref d1,.int 0]),(d3,.lst [.ref d2]),(e1,.tup []),(e2,.tup [.str "A",.ref e1,.int 0]),(e3,.lst [.ref e2,.non]),(w1,.lst [.ref a3,.ref b1,.non,.ref c3,.ref d3,.ref e3,.str "A"])]:=⟨h1,h2,h3,h4,h5,h6,h7,h8,h9,h10,R8,R9,zA,R_,trivial⟩;have sA:=YBk fr;have at_:=YHW fr;have pA:=YCt (ops:=[(a1,.tup []),(a2,.tup [.str "a",.ref a1,.int 0]),(a3,.lst [.ref a2]),(b1,.tup []),(c1,.tup []),(c2,.tup [.str "A",.ref c1,.int (-1)]),(c3,.lst [.ref c2]),(d1,.lst [.str "'a"]),(d2,.tup [.str "A",.ref d1,.int 0]),(d3,.lst [.ref d2]),(e1,.tup []),(e2,.tup [.str "A",.ref e1,.int 0]),(e3,.lst [.ref e2,.non]),(w1,.lst [.ref a3,.ref b1,.non,.ref c3,.ref d3,.ref e3,.str "A"])]) hp rfl;have z1:=at_ 0 _ rfl;have z2:=at_ 1 _ rfl;have z3:=at_ 2 _ rfl;have z4:=at_ 3 _ rfl;have z5:=at_ 4 _ rfl;have z6:=at_ 5 _ rfl;have z7:=at_ 6 _ rfl;have z8:=at_ 7 _ rfl;have z9:=at_ 8 _ rfl;have Aa:=at_ 9 _ rfl;have Ab:=at_ 10 _ rfl;have Ac:=at_ 11 _ rfl;have Ad:=at_ 12 _ rfl;have Ae:=at_ 13 _ rfl;have e0:0<=c % 7:=by omega
  have e7:c % 7 < 7:=by omega
  obtain⟨y,hy,hm⟩:=Zt (xs:=[V.ref a3,.ref b1,.non,.ref c3,.ref d3,.ref e3,.str "A"]) (i:=c % 7) e0 e7;have hd:∃d,Den (updL H [(a1,.tup []),(a2,.tup [.str "a",.ref a1,.int 0]),(a3,.lst [.ref a2]),(b1,.tup []),(c1,.tup []),(c2,.tup [.str "A",.ref c1,.int (-1)]),(c3,.lst [.ref c2]),(d1,.lst [.str "'a"]),(d2,.tup [.str "A",.ref d1,.int 0]),(d3,.lst [.ref d2]),(e1,.tup []),(e2,.tup [.str "A",.ref e1,.int 0]),(e3,.lst [.ref e2,.non]),(w1,.lst [.ref a3,.ref b1,.non,.ref c3,.ref d3,.ref e3,.str "A"])]) y d/\d.short=true/\JB d=false:=by
   simp only[YKT,YLG,or_false]at hm;rcases hm with rfl |rfl |rfl |rfl |rfl |rfl |rfl
   ·exact⟨.lst [.tup [.str "a",.tup [],.int 0]],.lst (.inl z3) (.cons (.tup z2 (.cons (.str _) (.cons (.tup z1 .nil) (.cons (.int _) .nil)))) .nil),by decide +kernel,by decide +kernel⟩
   ·exact⟨.tup [],.tup z4 .nil,by decide +kernel,by decide +kernel⟩
   ·exact⟨.non,.non,by decide +kernel,by decide +kernel⟩
   ·exact⟨.lst [.tup [.str "A",.tup [],.int (-1)]],.lst (.inl z7) (.cons (.tup z6 (.cons (.str _) (.cons (.tup z5 .nil) (.cons (.int _) .nil)))) .nil),by decide +kernel,by decide +kernel⟩
   ·exact⟨.lst [.tup [.str "A",.lst [.str "'a"],.int 0]],.lst (.inl Aa) (.cons (.tup z9 (.cons (.str _) (.cons (.lst (.inl z8) (.cons (.str _) .nil)) (.cons (.int _) .nil)))) .nil),by decide +kernel,by decide +kernel⟩
   ·exact⟨.lst [.tup [.str "A",.tup [],.int 0],.non],.lst (.inl Ad) (.cons (.tup Ac (.cons (.str _) (.cons (.tup Ab .nil) (.cons (.int _) .nil)))) (.cons .non .nil)),by decide +kernel,by decide +kernel⟩
   ·exact⟨.str "A",.str _,by decide +kernel,by decide +kernel⟩
  obtain⟨d,den,yh,hno⟩:=hd;refine⟨_,U,_,_,U,U,(by show(0:Int) < 7;decide),w1,_,_,y,U,U,SqL.of Ae,hy,?_⟩;refine⟨_,U,_,U,y,yn,d,dn,U,den,yh,dny.same sA,shy,pA,λ_=>.inl ⟨T.xGG,⟨_,U,U,q _ sA pA⟩⟩,λg' s' qt hg' _ _=>?_⟩;rw[qt,Z7,hg']at hno;cases hno
theorem Xo:YV ["_law_grammar","_law_number","_law_rows","_law_found","_law_row_here"] ["_law_grammar","_law_number","_law_rows"] (YJ YAC):=⟨U,U,U,by decide +kernel,U,by decide +kernel,by decide +kernel⟩
theorem YFG {f:Addr}{fd:FuncData} (F:Fun K "_law_told" "_law_told" YAC f fd) (T:Txt K mg C) (az:Yu P w K mg CX0 9 "_law_asked" ["_law_grammar","_law_number"] (YCQ)) (aJ:Yu P w K mg CX0 2 "_law_numbers" ["_law_found"] (YBx)) (bw:Yu P w K mg CX0 2 "_law_read" ["_law_grammar","_law_row_here"] (YG7)):Yz P w K mg base CX0 10 f fd ["_law_grammar","_law_number","_law_rows"] (YGK):=by
 obtain⟨gR,gj,aU,aV,aW,aX⟩:=az.ok;obtain⟨jc,iM,cB,cC,cD,cF⟩:=aJ.ok;obtain⟨my,lz,eF,eN,eO,eQ⟩:=bw.ok;refine F.ok Xo (λvs H Q E h=>?_) (λaK A outer s H vs Q E hr h=>?_)
 ·cases h;subst_vars;rfl
 ·obtain⟨l,lr,k,xs,g,s,rs,rfl,hl,aF,hg,hs,hf,hn,lo,hlr,hrs,hp,q⟩:=h;refine qex ?_;refine⟨_,(Yd ⟨(YK (i:=3) Xo.nd rfl (Or.inl rfl) (YM (aU base) (hr.mono (by decide)) (by rfl) aV aW aX .nil Ye (YA (pv 0) (YA (pv 1) YB))))⟩
   (Yd ⟨(Yt (PW.pt (Xq (JL (Z1 (YM (cB base) (hr.mono (by decide)) (by rfl) cC cD cF .nil Ye (YA (pv 3) YB)))) (Xq (YW (YDU K rfl) (pv 1) (pv 3) (by with_unfolding_all rfl)) (XC (YW YGP (YM (eF base) (hr.mono (by decide)) (by rfl) eN eO eQ .nil Ye (YA (pv 0) (YA (pv 3) YB))) Z0 (YY _)))))) (YF (YT Zr)) YZ)⟩
   (Yd ⟨(ZH PassesOwn.never rfl (Je K rfl (pv 2)) (Yb (i:=4) Xo.nd rfl (Or.inl rfl)) (YF (Yt (PW.pt (XD (YW YBB (pv 4) Z0 (YY _)) (XD (YW (YCf K rfl) (pv 1) (pv 4) (by with_unfolding_all rfl)) (Ji (YW op_gt (YO (YR K rfl) (by rfl) T.aG YKP (YA (pv 3) YB)) (YO (YR K rfl) (by rfl) T.aG YKP (YA (pv 4) YB)) (YY _)))))) (YF (YT Zr)) YZ)))⟩
   (YAO ⟨(YT Zr)⟩)))),?_⟩
  refine⟨_,U,_,U,.ref l,.int (k:Int),g,s,.int (k:Int),U,.lst (.inl hl) aF,hg,.int _,by unfold D.short;rfl,hs,hf,hp,(λhno=>absurd hn (hno k rfl)),λk' u5 hk'=>?_⟩;cases Int.ofNat.inj (D.int.inj u5);refine⟨λhi=>?_,λ_ lf ks H1 R s1 p1 Rf vR=>?_⟩
  ·exact(hi.no lo).elim
  have vC:=R.le lo;obtain⟨r0,YL,Af,dB,vY⟩:∃r0 YL,g=r0 :: YL/\Yw g [r0.1] ks/\k∈ks:=by
   obtain⟨r0,YL,r,m,o,hh,e1,e2,e3,w,x,e4,e5,e6,e7⟩:=id R;exact⟨r0,YL,e1,e5,e6⟩
  dsimp only[JH];refine⟨_,U,lf,ks,U,vR,?_⟩;refine⟨_,U,Y5 ?_⟩;refine⟨_,U,_,U,lf,_,U,.inl (SqL.of vR),U,YBy ks,_,U,?_⟩;rw[YBX,YKN vY];refine Y5 ?_;subst Af;refine⟨_,U,_,U,l,lf,xs,r0,YL,ks,U,s1 _ _ hl,aF.same s1,hg,vR,dB,vC,p1,λz H2 _ s2 p2=>⟨U,_,U,?_⟩⟩;rw[YKO nofun];refine Y5 ?_;dsimp only[YDq];have qD:=s1.trans s2;refine⟨_,U,lr,U,⟨_,SqL.of (qD _ _ hlr)⟩,Xv (K:=K) (a:=lr) (xs:=rs) (λi σ H'=>H'=H2/\∃v4,σ=[some (.ref l),some (.int (k:Int)),some (.ref lr),some (.ref lf),v4]) ⟨U,none,U⟩ ?_ ?_ ?_⟩
  ·rintro i σ H' _ ⟨rfl,_⟩;exact SqL.of (qD _ _ hlr)
  ·rintro i y σ H' hi ⟨rfl,v4,rfl⟩;rcases hrs y (YKL hi) with rfl |⟨o,WN,rP,au,rfl,ho,Ag,ye⟩
   ·refine⟨_,U,U,_,U,Y5 ?_⟩;exact Y5 ⟨U,_,U⟩
   ·refine⟨_,U,U,_,U,?_⟩;rw[YKO nofun];refine Z6 ⟨_,U,_,U,o,_,U,.inl (SqL.of (qD _ _ ho)),U,YBy WN,_,U,?_⟩;rw[YBX]
    by_cases hm:k∈WN
    ·rw[YKN hm];refine Z6 ⟨_,U,lf,_,U,.inl (SqL.of (s2 _ _ vR)),_,U,o,_,U,.inl (SqL.of (qD _ _ ho)),_,_,U,U,_,U,?_⟩;cases Ag;have:=R.min hs hf rfl ye hm;rw[YKO (by rw[YKF,YKF];omega)];exact Y5 ⟨U,_,U⟩
    ·rw[YKO hm];refine Y5 ?_;exact Y5 ⟨U,_,U⟩
  ·rintro σ H' ⟨rfl,v4,rfl⟩;exact q _ qD p2
end
theorem YBz {H:Hp}{b:Addr}{ys:List V}{o:HO} (hb:H b=some (.lst ys)):∀{g:YX}{xs:List V},YS H xs (g.map Yn)->YS (upd H b o) xs (g.map Yn)
 |[],[],_=>.nil
 |[],_ :: _,h=>by unfold YS at h;exact h.elim
 |_ :: _,[],h=>by unfold YS at h;exact h.elim
 |r :: g,x :: xs,h=>by
  rw[YKa]at h ⊢;unfold YS at h;obtain⟨t,p,rfl,ht,hp⟩:=YCn h.1;have nt:t≠b:=λz=>by rw[z,hb]at ht;cases ht
  have np:p≠b:=λz=>by rw[z,hb]at hp;cases hp
  exact .cons (.tup (by rw[YN nt];exact ht) (.cons (.str _) (.cons (.tup (by rw[YN np];exact hp) (YS.strs _)) (.cons (.int _) .nil)))) (YBz hb h.2)
theorem ruleDen {H:Hp}{t q:Addr}{r:Yl} (h1:H t=some (.tup [.str r.1,.ref q,.int r.2.2])) (h2:H q=some (.tup (r.2.1.map V.str))):Den H (.ref t) (Yn r):=.tup h1 (.cons (.str _) (.cons (.tup h2 (YS.strs r.2.1)) (.cons (.int _) .nil)))
theorem YAG {H:Hp}{q t:Addr} (r:Yl) (hq:H q=none) (ht:upd H q (.tup (r.2.1.map V.str)) t=none) (hp:YI H):YH H (upd (upd H q (.tup (r.2.1.map V.str))) t (.tup [.str r.1,.ref q,.int r.2.2]))/\YI (upd (upd H q (.tup (r.2.1.map V.str))) t (.tup [.str r.1,.ref q,.int r.2.2]))/\Den (upd (upd H q (.tup (r.2.1.map V.str))) t (.tup [.str r.1,.ref q,.int r.2.2])) (.ref t) (Yn r):=
 ⟨(YH.upd hq).trans (YH.upd ht),(hp.upd rfl).upd rfl,ruleDen YC (YH.upd ht _ _ YC)⟩
theorem ups_hd:∀k,∃r YL,ups k=r :: YL/\r.1=uHd k
 |0=>⟨_,_,U,U⟩
 |k + 1=>⟨_,_,U,U⟩
theorem YBY:∀k,(ups k).length=k + 1
 |0=>rfl
 |k + 1=>by
  show(ups k).length + 1=_;rw[YBY k]
def A13:Str:="ABCDEFGHIJKLM"
def A8:Str:="ABCDEFGH"
def B8:Str:="BCDEFGHI"
theorem a13_at:∀k < 13,A13.cps.toList[k]?=some (65 + k):=by decide +kernel
theorem a8_at:∀k < 8,A8.cps.toList[k]?=some (65 + k)/\B8.cps.toList[k]?=some (65 + (k + 1)):=by decide +kernel
theorem dens_hd {H:Hp}{xs:List V}{r:Yl}{YL:YX} (h:YS H xs ((r :: YL).map Yn)):∃t p,atI xs 0=some (.ref t)/\H t=some (.tup [.str r.1,.ref p,.int r.2.2]):=by
 obtain⟨v,e,d⟩:=h.getD (i:=0) rfl;obtain⟨t,p,rfl,h1,_⟩:=YCn d;exact⟨t,p,Yv (j:=0) e,h1⟩
theorem YIm (k:Nat):(("U":Str).length + (⟨#[65 + k]⟩:Str).length)<=sizeLine:=YG (by show 1 + 1<=1000;decide)
theorem YEa (k:Nat):(("L":Str).length + (⟨#[65 + k]⟩:Str).length)<=sizeLine:=YG (by show 1 + 1<=1000;decide)
section
variable {P:Program}{w:World}{K:W.Frag}{mg:Str->Option Value}{base:Heap}{C:Adr}
theorem ZK:YV ["_law_cell","_law_rules","_law_k","_law_low"] ["_law_cell"] (YJ J2):=⟨U,U,U,by decide +kernel,U,by decide +kernel,by decide +kernel⟩
theorem YCJ {f:Addr}{fd:FuncData} (F:Fun K "_law_doubled" "_law_doubled" J2 f fd) (T:Txt K mg C):Yz P w K mg base CX0 1 f fd ["_law_cell"] (YEY):=by
 refine F.ok ZK (λvs H Q E h=>?_) (λaK A outer s H vs Q E hr h=>?_)
 ·cases h;subst_vars;rfl
 ·obtain⟨c,rfl,c0,hp,q⟩:=h;have hu:=Jh hr;have hU:=hr.units;refine qex ?_;refine⟨_,(Yd (YEr (i:=1) ZK.nd rfl (Or.inl rfl) (YAr (Y6 (Jq (Y6 Xb (Y6 (Jq (Y6 Xb (Y6 Xb Zp))) (Y6 YAq Zp)))) Zp)))
   (Yd ⟨(ZH PassesOwn.never rfl (ZJ rfl T.aO (YA (YQ Yy (pv 0) YE) YB)) (Yb (i:=2) ZK.nd rfl (Or.inl rfl)) (YF (YK (i:=1) ZK.nd rfl (Or.inl rfl) (YQ YCY (Y7 (YA (Zb (YA (YQ Za Yj (YU Z2 Yj (pv 2) (λ_ _=>rfl))) (YA (Zb (YA (YU (Ya K rfl) (YU (Yc K rfl) (pv 1) YE (λ_ _=>rfl)) YE (λ_ _=>rfl)) YB)) (YA (pv 2) YB)))) YB)) (pv 1)))))⟩
   (Yd ⟨(ZG (ZS K rfl YKc YKp YKo Yx (pv 1) (YA (Zb (YA Yj (YA (Zb (Zh Yj (Zh Yj (Zh Yj (Zh Yj (Zh Yj (Zh Yj YB))))))) (YA YE YB)))) YB)))⟩
   (Yd ⟨(ZH PassesOwn.never rfl (ZJ rfl T.aO (YA YE YB)) (Yb (i:=2) ZK.nd rfl (Or.inl rfl)) (YD (YK (i:=3) ZK.nd rfl (Or.inl rfl) (YQ Za Yj (YU Z2 Yj (pv 2) (λ_ _=>rfl))))
   (YF (ZG (ZS K rfl YKc YKp YKo Yx (pv 1) (YA (Zb (YA (YQ Za Yj (YU Z2 Yj (pv 2) (λ_ _=>rfl))) (YA (Zb (YA (pv 3) (YA (pv 3) YB))) (YA YE YB)))) YB))))))⟩
   (YAO ⟨(YT (YQ YCY (pv 1) (Y7 (YA (Zb (YA Yj (YA (Zb YB) (YA YE YB)))) YB))))⟩))))),?_⟩
  obtain⟨n,hn,pZ⟩:∃n:Nat,c % 13=(n:Int)/\n < 13:=⟨(c % 13).toNat,by lia,by lia⟩;refine⟨YG (by show 2<=1000;decide),λq1 a1=>⟨YG (by show 3<=1000;decide),λt1 b1=>⟨YG (by show 1<=1000;decide),λl1 k1=>?_⟩⟩⟩;obtain⟨s1,p1,d1⟩:=YAG (("U",["'u","W"],1):Yl) a1 b1 hp;have s2:=YH.upd (o:=.lst [.ref t1]) k1;dsimp only[JH];refine⟨_,U,_,_,U,U,(by show(0:Int) < 13;decide),(c % 13),U,by lia,by lia,?_⟩;refine Zu (lo:=0) (n:=(c % 13).toNat) (λk σ H'=>∃(lr:Addr) (v2:Option V) (xs:List V),σ=[some (.int c),some (.ref lr),v2,none]/\H' lr=some (.lst xs)/\YS H' xs ((ups k).map Yn)/\H lr=none/\YH H H'/\YI H') ⟨l1,none,_,U,YC,.cons (d1.same s2) .nil,s1.free k1,s1.trans s2,p1.upd rfl⟩ ?_ ?_
  ·rintro k σ H' hk ⟨lr,v2,xs,rfl,hlr,dx,n0,sx,px⟩;have Qc:k < 13:=by lia
   obtain⟨r0,YL,eu,e0⟩:=ups_hd k;have WP:=dx;rw[eu]at WP;obtain⟨t0,p0,ea,nM⟩:=dens_hd WP;rw[e0]at nM;have eZ:xs.length=k + 1:=by rw[dx.len,YKF,YBY]
   have ei:(0:Int) + (k:Int)=(k:Int):=by lia
   refine⟨_,U,A13,_,65 + k,U,U,YG (by decide +kernel),by rw[ei];exact Yv (a13_at k Qc),_,_,U,U,YIm k,_,U,lr,_,0,_,U,U,SqL.of hlr,ea,t0,_,0,_,U,U,SqT.of nM,U,YG (by show 1<=1000;decide),λq2 a2=>⟨_,U,YG (by show 3<=1000;decide),λt2 b2=>⟨YG (by show 1<=1000;decide),λl2 k2=>?_⟩⟩⟩;rw[ei]at k2 ⊢;obtain⟨s3,p3,d3⟩:=YAG ((uN k,[uHd k],(k:Int)):Yl) a2 b2 px;have s4:=YH.upd (o:=.lst [.ref t2]) k2;refine⟨_,U,l2,lr,[.ref t2],xs,U,U,YC,(s3.trans s4) _ _ hlr,YG (by show 1 + _<=1000;lia),λl3 k3=>?_⟩;have s5:=YH.upd (o:=.lst ([.ref t2] ++ xs)) k3;have s345:=(s3.trans s4).trans s5;exact⟨l3,_,[.ref t2] ++ xs,U,YC,.cons ((d3.same s4).same s5) (dx.same s345),(sx.trans (s3.trans s4)).free k3,sx.trans s345,((p3.upd rfl).upd rfl)⟩
  ·rintro σ H' ⟨lr,v2,xs,rfl,hlr,dx,n0,sx,px⟩;have en:(c % 13).toNat=n:=by lia
   rw[en]at dx;have eZ:xs.length=n + 1:=by rw[dx.len,YKF,YBY]
   refine⟨_,U,.inl ⟨U,_,SqL.of hlr⟩,YG (by show 6<=1000;decide),λq3 a3=>⟨YG (by show 3<=1000;decide),λt3 b3=>?_⟩⟩;obtain⟨s6,p6,d6⟩:=YAG YEV a3 b3 px;refine⟨lr,xs,.ref t3,U,U,s6 _ _ hlr,(by have:=YG (show 100<=1000 by decide);lia),?_⟩;have dT:=(dx.same s6).append (show YS _ [V.ref t3] ([YEV].map Yn) from .cons d6 .nil);rw[<-YKW]at dT;have dT:=YBz (o:=.lst (xs ++ [.ref t3])) (s6 _ _ hlr) dT;have sT:=(sx.trans s6).put (o:=.lst (xs ++ [.ref t3])) n0;refine⟨8,U,by decide,by decide,Zu (lo:=0) (n:=8) (λk σ H2=>∃(v2 v3:Option V) (ys:List V),σ=[some (.int c),some (.ref lr),v2,v3]/\H2 lr=some (.lst ys)/\YS H2 ys ((ups n ++ [YEV] ++ (List.range k).map YDJ).map Yn)/\YH H H2/\YI H2) ⟨_,_,_,U,YC,by rw[List.range_zero,List.map_nil,YKs];exact dT,sT,p6.upd rfl⟩ ?_ ?_⟩
   ·rintro k σ H2 hk ⟨v2,v3,ys,rfl,rC,dy,sy,py⟩;have ei:(0:Int) + (k:Int)=(k:Int):=by lia
    obtain⟨e1,e2⟩:=a8_at k hk;have Qm:ys.length=n + 2 + k:=by
     rw[dy.len,YKF,YKJ,YKJ,YBY,YKF,YLa];rfl
    refine⟨_,U,A8,_,65 + k,U,U,YG (by decide +kernel),by rw[ei];exact Yv e1,_,_,U,U,YEa k,?_⟩;refine⟨_,U,.inl ⟨U,_,SqL.of rC⟩,_,U,B8,_,65 + (k + 1),U,U,YG (by decide +kernel),by rw[ei];exact Yv e2,_,_,U,U,YEa (k + 1),_,U,_,U,YG (by show 2<=1000;decide),λq4 a4=>⟨YG (by show 3<=1000;decide),λt4 b4=>?_⟩⟩;obtain⟨s7,p7,d7⟩:=YAG (YDJ k) a4 b4 py;refine⟨lr,ys,.ref t4,U,U,s7 _ _ rC,(by have:=YG (show 100<=1000 by decide);lia),_,_,_,U,YC,?_,(sy.trans s7).put n0,p7.upd rfl⟩;have el:ups n ++ [YEV] ++ (List.range (k + 1)).map YDJ=(ups n ++ [YEV] ++ (List.range k).map YDJ) ++ [YDJ k]:=by
     rw[List.range_succ,YKW,<-YK0];rfl
    rw[el];refine YBz (s7 _ _ rC) ?_;rw[YKW];exact(dy.same s7).append (show YS _ [V.ref t4] ([YDJ k].map Yn) from .cons d7 .nil)
   ·rintro σ H2 ⟨v2,v3,ys,rfl,rC,dy,sy,py⟩;have Qm:ys.length=n + 10:=by
     rw[dy.len,YKF,YKJ,YKJ,YBY,YKF,YLa];rfl
    refine⟨_,U,YG (by show 0<=1000;decide),λq5 a5=>⟨YG (by show 3<=1000;decide),λt5 b5=>⟨YG (by show 1<=1000;decide),λl4 k4=>?_⟩⟩⟩;obtain⟨s8,p8,d8⟩:=YAG (("LA",[],5):Yl) a5 b5 py;have s9:=YH.upd (o:=.lst [.ref t5]) k4;refine⟨lr,l4,ys,[.ref t5],U,U,(s8.trans s9) _ _ rC,YC,YG (by show _ + 1<=1000;lia),λl5 k5=>?_⟩;have jw:=YH.upd (o:=.lst (ys ++ [.ref t5])) k5;have s810:=(s8.trans s9).trans jw;refine q l5 n _ _ hn.symm pZ (sy.trans s810) ((p8.upd rfl).upd rfl) ((sy.trans (s8.trans s9)).free k5) YC ?_;unfold YGH;rw[YKW];exact(dy.same s810).append (show YS _ [V.ref t5] ((([("LA",[],5)]:YX)).map Yn) from .cons ((d8.same s9).same jw) .nil)
end
theorem YBZ:(["_law_rule"]:List Str).Nodup:=by decide +kernel
theorem YDM {t u:TS}{D:Z3}{σ:L2.St}{H:Hp} (M:L2.St->Hp->Prop) (YL:∀σ' H',M σ' H'->u D σ' H') (h:(∀σ' H',M σ' H'->u D σ' H')->t { D with nx:=u D } σ H):tSeq t u D σ H:=h YL
theorem YIn (xs:List V):XE xs none (some 1)=xs.take 1:=by
 unfold XE;have e:HT.sIx xs.length xs.length (some 1)=min 1 xs.length:=HT.sIx_nat xs.length xs.length 1;have e0:HT.sIx xs.length 0 none=0:=rfl;rw[e,e0,YL0,Nat.sub_zero];cases xs with
 |nil=>rfl
 |cons x xs=>rw[YKX,Nat.min_eq_left (by omega)]
theorem YDN {H:Hp}:∀{xs:List V}{ds:List D},YS H xs ds->YS H xs.reverse ds.reverse
 |[],[],_=>.nil
 |[],_ :: _,h=>by unfold YS at h;exact h.elim
 |_ :: _,[],h=>by unfold YS at h;exact h.elim
 |x :: xs,d :: ds,h=>by
  unfold YS at h;rw[YLp,YLp];exact(YDN h.2).append (.cons h.1 .nil)
section
variable {P:Program}{w:World}{K:W.Frag}{mg:Str->Option Value}{base:Heap}{C:Adr}
theorem ZV:YV ["_law_cell","_law_grammar","_law_at","_law_size","_law_sizes","_law_found"] ["_law_cell"] (YJ Xn):=⟨U,U,U,by decide +kernel,U,by decide +kernel,by decide +kernel⟩
theorem YDp {f:Addr}{fd:FuncData} (F:Fun K "_law_great" "_law_great" Xn f fd) (T:Txt K mg C) (cG:Yu P w K mg CX0 1 "_law_doubled" ["_law_cell"] (YEY)) (lA:Yu P w K mg (CXo P w) 8 "least" ["grammar"] (YHi C.NoGrammar)) (az:Yu P w K mg CX0 9 "_law_asked" ["_law_grammar","_law_number"] (YCQ)) (aJ:Yu P w K mg CX0 2 "_law_numbers" ["_law_found"] (YBx)) (cP:Yu P w K mg (CXo P w) 8 "needed" ["grammar"] (YDA C.NoGrammar)) (bw:Yu P w K mg CX0 2 "_law_read" ["_law_grammar","_law_row_here"] (YG7)):Yz P w K mg base CX0 10 f fd ["_law_cell"] (YEZ):=by
 obtain⟨rD,qy,jd,je,jf,jg⟩:=cG.ok;obtain⟨zg,yf,tV,tW,tX,tY⟩:=lA.ok;obtain⟨gR,gj,aU,aV,aW,aX⟩:=az.ok;obtain⟨jc,iM,cB,cC,cD,cF⟩:=aJ.ok;obtain⟨rE,p_,jh,ji,jj,jk⟩:=cP.ok;obtain⟨my,lz,eF,eN,eO,eQ⟩:=bw.ok;refine F.ok ZV (λvs H Q E h=>?_) (λaK A outer s H vs Q E hr h=>?_)
 ·cases h;subst_vars;rfl
 ·obtain⟨c,rfl,c0,hp,q⟩:=h;have hu:=Jh hr;have hU:=hr.units;refine qex ?_;refine⟨_,(Yd ⟨(YK (i:=1) ZV.nd rfl (Or.inl rfl) (YM (jd base) (hr.mono (by decide)) (by rfl) je jf jg .nil Ye (YA (pv 0) YB)))⟩
   (Yd ⟨(Yt (YW Xr (YQ Yy (YQ ZL (pv 0) YE) YE) YE (YY _)) (YF (YK (i:=1) ZV.nd rfl (Or.inl rfl) (YQ YCY (Jp (YCe K rfl) (pv 1) XZ (Jc YE)) (YId K rfl (pv 1) XZ (Jc YE) (Jc (pe_un YGO YE)))))) YZ)⟩
   (Yd ⟨(YK (i:=2) ZV.nd rfl (Or.inl rfl) (YQ Yy (YQ ZL (pv 0) YE) (YO (YR K rfl) (by rfl) T.aG YKP (YA (pv 1) YB))))⟩
   (Yd ⟨(YK (i:=3) ZV.nd rfl (Or.inl rfl) (YQ Y4 YE (YQ Yy (pv 0) YE)))⟩
   (Yd ⟨(YK (i:=4) ZV.nd rfl (Or.inl rfl) (YM (tV base) (hr.mono (by decide)) (by rfl) tW tX tY .nil passX (YA (pv 1) YB)))⟩
   (Yd ⟨(Yt (PW.pt (Xq (YW (JV K rfl hU) (YM (jh base) (hr.mono (by decide)) (by rfl) ji jj jk .nil passX (YA (pv 1) YB)) (YFq rfl rfl T.cQ rfl T.aO (YA (YO (YR K rfl) (by rfl) T.aG YKP (YA (pv 1) YB)) YB)) (YY _)) (XC (YW (JV K rfl hU) (YO (YE5 rfl) (by rfl) T.lG PyProof.Rows.Boot.«sorted» (YA (pv 4) YB)) (YO YE4 (by rfl) T.lG PyProof.Rows.Boot.«sorted» (YA (YAM (N:=["_law_rule"]) (ρ:=[none]) (cl:=[]) rfl (Yr.plain rfl (by decide +kernel) (by decide +kernel) rfl (by simp)) (Je K rfl (pv 1)) (λ_ _ _ _ _=>(Yb (i:=0) YBZ rfl (Or.inl rfl) (.inr rfl))) (λ_ _ _ _ _=>J5) (λ_ _ _ _ _=>(YU (Ya K rfl) (pv 0) YE (λ_ _=>rfl)))) YB)) (YY _))))) (YF (YT Zr)) YZ)⟩
   (Yd ⟨(Yt (YW YB1 (Zw hu (pv 4) (YU (Ya K rfl) (YU (Yc K rfl) (pv 1) YE (λ_ _=>rfl)) YE (λ_ _=>rfl)) (λ_ _=>rfl)) (pv 3) (YY _)) (YF (YT Zr)) YZ)⟩
   (Yd ⟨(YK (i:=5) ZV.nd rfl (Or.inl rfl) (YM (aU base) (hr.mono (by decide)) (by rfl) aV aW aX .nil Ye (YA (pv 1) (YA (pv 2) YB))))⟩
   (Yd ⟨(Yt (YW op_gt (pv 3) YE (YY _)) (YF (YT (JN (JU K rfl hU) (pv 5) (Zb (YA YE (YA YE YB))) (YY _)))) YZ)⟩
   (YAO ⟨(YT (JE (YM (cB base) (hr.mono (by decide)) (by rfl) cC cD cF .nil Ye (YA (pv 5) YB)) (JE (JN Xr (YO (YR K rfl) (by rfl) T.aG YKP (YA (pv 5) YB)) (pv 3) (YY _)) (JM (JN Xr (YM (eF base) (hr.mono (by decide)) (by rfl) eN eO eQ .nil Ye (YA (pv 1) (YA (pv 5) YB))) Yj (YY _))))))⟩)))))))))),?_⟩
  refine⟨_,U,c,U,c0,hp,λl0 n sS H1 hn pZ s1 p1 nl0 hl0 d0=>?_⟩;dsimp only[JH];refine YDM (λσ' H'=>∃(l:Addr) (xs:List V) (rev:Bool),σ'=[some (.int c),some (.ref l),none,none,none,none]/\YH H H'/\YI H'/\H' l=some (.lst xs)/\YS H' xs ((YAF n rev).map Yn)) ?_ λbody=>?_
  rotate_left
  ·refine⟨_,U,_,_,U,U,⟨by decide,by decide⟩,_,_,U,U,(by show(0:Int) < 2;decide),U,_,U,XM (λh=>?_) λh=>?_⟩
   ·refine⟨_,U,_,U,l0,sS,U,SqL.of hl0,λb1 k1=>?_⟩;have s2:=YH.upd (o:=.lst (XE sS none (some 1))) k1;refine⟨_,U,_,U,_,U,_,U,l0,sS,U,U,U,U,SqL.of (s2 _ _ hl0),λb2 k2=>?_⟩;have s3:=YH.upd (o:=.lst (sS.drop 1).reverse) k2;have hx0:sS.length=n + 11:=by rw[d0.len,YKF];exact(YFF pZ false).2.2.2.2.1
    have hcl:=Xw sS none (some 1);refine⟨b1,b2,_,_,U,U,s3 _ _ YC,YC,YG (by rw[YKl,YK4];lia),λb3 k3=>?_⟩;have s4:=YH.upd (o:=.lst (XE sS none (some 1) ++ (sS.drop 1).reverse)) k3;have ql:=(s2.trans s3).trans s4;refine body _ _ ⟨b3,_,true,U,s1.trans ql,((p1.upd rfl).upd rfl).upd rfl,YC,?_⟩;have d1:=d0.same ql;unfold YAF;rw[if_pos rfl,YKW,YLQ,List.map_take,List.map_drop];have d2:=(d1.take 1).append (YDN (d1.drop 1));rw[<-YIn sS]at d2;exact d2
   ·exact body _ _ ⟨l0,sS,false,U,s1,p1,hl0,d0⟩
  rintro σ2 H2 ⟨l,xs,rev,rfl,s2,p2,hl,dx⟩;obtain⟨okg,G,⟨r0,YL,eg,e0⟩,hsz,rR,Rg⟩:=YFF pZ rev;have PH:=YKE pZ rev;obtain⟨g,qt⟩:∃g,YAF n rev=g:=⟨_,U⟩;rw[qt]at okg G eg rR dx PH;have eZ:xs.length=n + 11:=by rw[dx.len,YKF];exact rR
  have dG:Den H2 (.ref l) (ZZ g):=.lst (.inl hl) dx;have shG:=YAu okg;have noG:∀{X:Prop},JB (ZZ g)=false->X:=λe=>by rw[Z7,okg]at e;cases e
  refine⟨_,U,_,_,U,U,⟨by decide,by decide⟩,_,U,l,xs,U,.inl (SqL.of hl),_,_,U,U,(by rw[eZ];lia),?_⟩;obtain⟨k,hk,hkl⟩:∃k:Nat,c / 13 % (xs.length:Int)=(k:Int)/\k < xs.length:=⟨(c / 13 % (xs.length:Int)).toNat,by have:=YLd (c / 13) (show(xs.length:Int)≠0 by lia);lia,by have:=YLM (c / 13) (show(0:Int) < xs.length by lia);lia⟩;rw[hk];dsimp only[JH];refine⟨_,U,_,_,U,U,(by show(0:Int) < 13;decide),_,_,U,U,?_⟩;rw[<-hn];refine⟨_,U,.ref l,ZZ g,U,dG,shG,p2,(λg' e1 _ ld s H3 hs hf s3 p3 n3 h3=>?_),λe=>noG e⟩;cases YAR e1;dsimp only[JH];refine⟨_,U,.ref l,ZZ g,U,dG.same s3,shG,p3,(λg' e1 _ ln s' ks H4 hs' hf' srt mem s4 p4 n4 h4=>?_),λe=>noG e⟩;cases YAR e1;have Ah:=(s3.trans s4) _ _ hl;have ek:ks=List.range xs.length:=YFo srt (List.pairwise_lt_range) λj=>by
   rw[mem j,G.need hs' hf' eg e0,YLI,eZ,rR]
  subst ek;refine⟨_,U,l,xs,U,.inl (SqL.of Ah),xs.length,U,by rw[eZ];lia,λlg kg=>?_⟩;have s5:=YH.upd (o:=.lst ((List.range xs.length).map λi:Nat=>V.int (i:Int))) kg;have mm:((List.range xs.length).map λi:Nat=>V.int (i:Int))=((List.range xs.length).map λi:Nat=>(i:Int)).map V.int:=by rw[YLe];rfl
  have z1:Den (upd H4 lg (.lst ((List.range xs.length).map λi:Nat=>V.int (i:Int)))) (.ref ln) (.lst (((List.range xs.length).map λi:Nat=>(i:Int)).map D.int)):=.lst (.inl (s5 _ _ h4)) (by rw[mm];exact YS.ints _);have z2:Den (upd H4 lg (.lst ((List.range xs.length).map λi:Nat=>V.int (i:Int)))) (.ref lg) (.lst (((List.range xs.length).map λi:Nat=>(i:Int)).map D.int)):=.lst (.inl YC) (by rw[mm];exact YS.ints _);refine⟨_,_,z1,z2,YEv _,YEv _,YJW _,_,U,?_⟩;rw[Jf _ (YEv _)];refine Y5 ?_;have p5:YI (upd H4 lg (.lst ((List.range xs.length).map λi:Nat=>V.int (i:Int)))):=p4.upd rfl;have Q9:=(s3.trans s4).trans s5;have h5:=(s4.trans s5) _ _ h3;clear z1 z2;revert p5 Q9 h5;generalize upd H4 lg (.lst ((List.range xs.length).map λi:Nat=>V.int (i:Int)))=H5;intro p5 Q9 h5;have pk:=G.keys hs hf;have hsl:(s.map (·.1)).length=n + 11:=by rw[pk.length_eq,YKF,rR]
  refine⟨_,U,ld,szD s,s.map (·.1),U,.inl h5,by unfold szD;rw[YLe,YLe];rfl,by rw[hsl];lia,λl6 rW k6 Ai Aj=>?_⟩;have s6:=YH.upd (o:=.lst (rW.map V.str)) k6;have p6:YI (upd H5 l6 (.lst (rW.map V.str))):=p5.upd rfl;have e6:upd H5 l6 (.lst (rW.map V.str)) l6=_:=YC;revert s6 p6 e6;generalize upd H5 l6 (.lst (rW.map V.str))=H6;intro s6 p6 e6;have uW:=Q9.trans s6;have wB:=uW _ _ hl;have Ak:=dx.same uW;refine⟨_,U,l,U,⟨_,SqL.of wB⟩,λlc zG=>?_⟩;refine JG (n:=xs.length) 0 (λj y _=>∃r,g[j]?=some r/\y=.str r.1) (YAo (SqL.of (K:=K) wB)) (λ_ _ _ _ _ h=>h) p6 zG YLL (YG (by rw[eZ];lia)) (λτ'=>0 < τ'.length) YLL (λτ' v h=>by rw[YLZ];exact h) ?_ ?_
  ·intro τ' j y H' R _ hτ hit hj hs' hp' mX hR;obtain⟨r,t,p,er,rfl,ht,_⟩:=ZM Ak hit;exact⟨_,hτ,t,_,0,_,U,U,SqT.of (hs' _ _ ht),U,hR _ _ (YH.refl _) hp' ⟨r,er,U⟩⟩
  intro ys H7 hy hP s7 p7 zH;obtain rfl:ys=(g.map (·.1)).map V.str:=by
   refine List.ext_getElem? λj=>?_
   by_cases hj:j < xs.length
   ·obtain⟨r,er,ey⟩:=hP j _ (YKK (by lia));rw[YKK (by lia),ey,YKk,YKk,er];rfl
   ·rw[YLT (by lia),YLT (by rw[YKF,YKF,rR];lia)]
  refine⟨lc,g.map (·.1),U,zH,by rw[YKF,rR];lia,λl8 ss8 k8 Al Am=>?_⟩;obtain rfl:=YG8 Aj Am (Ai.trans (pk.trans Al.symm));have s8:=YH.upd (o:=.lst (rW.map V.str)) k8;have z1:Den (upd H7 l8 (.lst (rW.map V.str))) (.ref l6) (.lst (rW.map D.str)):=.lst (.inl ((s7.trans s8) _ _ e6)) (YS.strs _);have z2:Den (upd H7 l8 (.lst (rW.map V.str))) (.ref l8) (.lst (rW.map D.str)):=.lst (.inl YC) (YS.strs _);refine⟨_,_,z1,z2,Xd _,Xd _,X3 _,_,U,?_⟩;rw[Jf _ (Xd _)];refine Y5 ?_;dsimp only[YDq];have p8:YI (upd H7 l8 (.lst (rW.map V.str))):=p7.upd rfl;have u6:=uW.trans (s7.trans s8);have h8:=(s6.trans (s7.trans s8)) _ _ h5;clear z1 z2;revert p8 u6 h8;generalize upd H7 l8 (.lst (rW.map V.str))=H8;intro p8 u6 h8;have Ao:=u6 _ _ hl;have Aq:=dx.same u6;have rK:xs[0]?=some xs[0]:=YKK (by lia);obtain⟨Ws,t0,p0,wD,yH,nM,_⟩:=ZM Aq rK;have zb:=wD;rw[eg]at zb;cases zb;have ug:atI xs 0=some (.ref t0):=by rw[<-yH];exact Yv (j:=0) rK
  have hm0:r0∈g:=YKL wD;have dg:Z5 H8 ld (.str r0.1) (some (.int ((996 + n:Nat):Int))):=by
   have lk:look s r0.1=some (((996 + n:Nat)):Int):=by rw[(G.look hs hf hm0).1,e0,hsz]
   have:=Z5.k (k:=Sum.inr r0.1) h8;rw[ZY,lk]at this;exact this
  refine⟨_,U,_,U,l,_,0,_,U,U,SqL.of Ao,ug,t0,_,0,_,U,U,SqT.of nM,U,ld,_,U,dg,_,U,U,_,U,?_⟩;have e996:((996 + n:Nat):Int)=996 + (n:Int):=by lia
  rw[YKN (by rw[e996])];refine Y5 ?_;dsimp only[YDq];have Ar:k < g.length:=by rw[rR];lia
  have sH8:=s2.trans u6;have tot:∀{r:Yl}{m h:Int}{o:Sz},g[k]?=some r->Yg s 0 r.2.1=some m->Zy g s r0.1 o->DF g s r0.1 o->look o r.1=some h->h + m=((996 + n:Nat):Int):=λa1 a2 a3 a4 a5=>by
   rw[G.tot hs hf eg e0 a1 a2 a3 a4 a5,hsz]
  refine⟨_,U,_,U,.ref l,.int (k:Int),g,s,.int (k:Int),U,dG.same u6,okg,.int _,by unfold D.short;rfl,hs,hf,p8,(λhno=>absurd ((G.need hs hf eg e0 k).mpr Ar) (hno k rfl)),λk' u5 hk'=>⟨λhi u H9 s9 p9 Av=>?_,λlo lf ks H9 R s9 p9 n9 h9=>?_⟩⟩
  ·cases Int.ofNat.inj (D.int.inj u5);obtain⟨rP,au,r,m,o,hh,b1,b2,b3,b4,b5,b6,b7⟩:=hi;rw[eg]at b1;cases b1;have:=tot b2 b3 b4 b5 b6;dsimp only[JH];refine⟨_,U,_,_,U,U,_,U,?_⟩;rw[YKN (show(1000:Int) < 996 + (n:Int) by lia)];refine Z6 ⟨_,U,YG (by show 2<=1000;decide),λu2 k2=>?_⟩;have jw:=YH.upd (o:=.tup [.int 2,.int 1]) k2;have yG:(D.tup [.int 2,.int 1]).ok=true:=by decide +kernel
   refine⟨.tup [.int 2,.int 1],.tup [.int 2,.int 1],.tup (jw _ _ Av) (.cons (.int _) (.cons (.int _) .nil)),.tup YC (.cons (.int _) (.cons (.int _) .nil)),yG,yG,by decide +kernel,?_⟩;rw[Jf _ yG];exact q _ ((sH8.trans s9).trans jw) (p9.upd rfl)
  ·cases Int.ofNat.inj (D.int.inj u5);obtain⟨rP,au,r,m,o,hh,b1,b2,b3,b4,b5,b6,b7,b8,b9⟩:=R;have hle:=lo rP au r m o hh b1 b2 b3 b4 b5 b6;rw[eg]at b1;cases b1;have ht:=tot b2 b3 b4 b5 b6;have Qd:ks.length=996 + n:=by lia
   dsimp only[JH];refine⟨_,U,_,_,U,U,_,U,?_⟩;rw[YKO (show ¬(1000:Int) < 996 + (n:Int) by lia)];refine Y5 ?_;dsimp only[YDq];refine⟨_,U,lf,ks,U,h9,_,U,?_⟩;rw[if_pos rfl];refine⟨_,U,lf,_,U,.inl (SqL.of h9),_,U,U,_,U,?_⟩;rw[YKN (by rw[YKF,Qd,e996]),if_pos rfl];subst eg;refine⟨_,U,_,U,l,lf,xs,r0,YL,ks,U,(u6.trans s9) _ _ hl,dx.same (u6.trans s9),okg,h9,b7,by lia,p9,λz H10 hz jw nZ=>⟨U,?_⟩⟩;have ez:z="u":=by
    have h1:=hz YB9 PH;rw[e0,YIl n pZ]at h1;cases z;congr 1;exact Array.toList_inj.mp h1
   rw[ez,YKN rfl];exact q _ ((sH8.trans s9).trans jw) nZ
end
theorem Zq:(["_law_k","_law_grammar","_law_script"]:List Str).Nodup:=by decide +kernel
theorem RowV.same {H H':Hp}{g:YX}{v:V} (h:RowV H g v) (s:YH H H'):RowV H' g v:=by
 rcases h with h |⟨o,ks,r0,YL,e1,e2,e3,e4⟩
 ·exact .inl h
 ·exact .inr ⟨o,ks,r0,YL,e1,s _ _ e2,e3,e4⟩
section
variable {P:Program}{w:World}{K:W.Frag}{mg:Str->Option Value}{base:Heap}{C:Adr}
theorem Xp:YV ["_law_script","_law_grammar","_law_cell","_law_rows","_law_handed","_law_some","_law_number","_law_odd"] ["_law_script"] (YJ YAi):=⟨U,U,U,by decide +kernel,U,by decide +kernel,by decide +kernel⟩
theorem ok_law {f:Addr}{fd:FuncData} (F:Fun K "law" "law" YAi f fd) (T:Txt K mg C) (eU:Yu P w K mg CX0 3 "_law_bare" ["_law_script","_law_many","_law_most"] (YJ5 K)) (aR:Yu P w K mg CX0 2 "_law_mixed" ["_law_script","_law_k"] (YFA K)) (cP:Yu P w K mg (CXo P w) 8 "needed" ["grammar"] (YDA C.NoGrammar)) (gH:Yu P w K mg CX0 2 "_law_row" ["_law_grammar","_law_cells","_law_room"] (spRow K)) (dq:Yu P w K mg CX0 10 "_law_great" ["_law_cell"] (YEZ)) (eV:Yu P w K mg CX0 10 "_law_told" ["_law_grammar","_law_number","_law_rows"] (YGK)) (az:Yu P w K mg CX0 9 "_law_asked" ["_law_grammar","_law_number"] (YCQ)) (bF:Yu P w K mg CX0 9 "_law_no_grammar" ["_law_cell","_law_number"] (YGJ)):Yz P w K mg base CX0 11 f fd ["_law_script"] (YFf K):=by
 obtain⟨uG,tZ,mz,mC,mD,mF⟩:=eU.ok;obtain⟨j5,jC,bz,bA,bC,bD⟩:=aR.ok;obtain⟨rE,p_,jh,ji,jj,jk⟩:=cP.ok;obtain⟨vD,uH,jl,jm,jn,jo⟩:=gH.ok;obtain⟨t7,sH,lB,lC,lD,lE⟩:=dq.ok;obtain⟨uI,t_,mG,mH,mJ,mK⟩:=eV.ok;obtain⟨gR,gj,aU,aV,aW,aX⟩:=az.ok;obtain⟨nY,nF,gU,gW,gY,gZ⟩:=bF.ok;refine F.ok Xp (λvs H Q E h=>?_) (λaK A outer s H vs Q E hr h=>?_)
 ·cases h;subst_vars;rfl
 ·obtain⟨a,ns,rfl,hS,hn,hp,q⟩:=h;have hu:=Jh hr;have hU:=hr.units;refine qex ?_;refine⟨_,(Yd ⟨(YK (i:=1) Xp.nd rfl (Or.inr rfl) (YM (mz base) (hr.mono (by decide)) (by rfl) mC mD mF .nil Ye (YA (pv 0) (YA YE (YA YE YB)))))⟩
   (Yd ⟨(YK (i:=2) Xp.nd rfl (Or.inl rfl) (YM (bz base) (hr.mono (by decide)) (by rfl) bA bC bD .nil Ye (YA (pv 0) (YA YE YB))))⟩
   (Yd ⟨(Yt (YW Xr (YQ Yy (pv 2) YE) YE (YY _)) (YF (YK (i:=1) Xp.nd rfl (Or.inr rfl) (Y7 YB))) YZ)⟩
   (Yd ⟨(YCL (N:=["_law_k","_law_grammar","_law_script"]) (ρ:=[none,some 1,some 0]) (i:=3) Xp.nd rfl rfl rfl (Yr.closes ["_law_script","_law_grammar","_law_cell","_law_rows","_law_handed","_law_some","_law_number","_law_odd"] (YJ YAi).names rfl rfl rfl rfl (by decide +kernel) (by decide +kernel) (λx h=>Jo h) (by decide +kernel) rfl (by decide +kernel)) (ZJ rfl T.aO (YA YE YB)) (λ_ _ _ _ _=>(Yb (i:=0) Zq rfl (Or.inl rfl) (.inr rfl))) (λ_ _ _ _ _=>J5) (λ_ _ _ _ _=>(YM (jl base) (hr.mono (by decide)) (by rfl) jm jn jo .nil Ye (YA (pv 1) (YA (Jp (YCe K rfl) (pv 2) (Jc (YQ Y4 YE (pv 0))) (Jc (YQ Y4 YE (YQ XX YE (pv 0))))) (YA YE YB))))))⟩
   (Yd ⟨(ZG (ZS K rfl YKc YKp YKo Yx (pv 3) (YA (YM (jl base) (hr.mono (by decide)) (by rfl) jm jn jo .nil Ye (YA (pv 1) (YA (Jp (YCe K rfl) (pv 0) (Jc YE) XZ) (YA YE YB)))) YB)))⟩
   (Yd ⟨(YK (i:=4) Xp.nd rfl (Or.inl rfl) (Zv (YAg K rfl) (by rfl) T.cQ YKy (YA (pv 1) YB)))⟩
   (Yd ⟨(YK (i:=5) Xp.nd rfl (Or.inl rfl) (YM (jh base) (hr.mono (by decide)) (by rfl) ji jj jk .nil passX (YA (pv 4) YB)))⟩
   (Yd ⟨(ZH PassesOwn.never rfl (ZJ rfl T.aO (YA (YO (YR K rfl) (by rfl) T.aG YKP (YA (pv 1) YB)) YB)) (Yb (i:=6) Xp.nd rfl (Or.inl rfl)) (YF (Yt (YW (YCf K rfl) (pv 6) (pv 5) (by with_unfolding_all rfl)) (YF (Yt (JL (Z1 (YM (mG base) (hr.mono (by decide)) (by rfl) mH mJ mK .nil Ye (YA (pv 4) (YA (pv 6) (YA (pv 3) YB)))))) (YF (YT Zr)) YZ)) (YF (Yt (YW (JV K rfl hU) (YM (aU base) (hr.mono (by decide)) (by rfl) aV aW aX .nil Ye (YA (pv 4) (YA (pv 6) YB))) (Zb (YA YE (YA YE YB))) (YY _)) (YF (YT Zr)) YZ)))))⟩
   (Yd ⟨(ZH PassesOwn.never rfl (Je K rfl (Y7 (Zh (pe_un YGO YE) (Zh (YO (YR K rfl) (by rfl) T.aG YKP (YA (pv 1) YB)) (Zh (YQ YGN YE YE) (Zh Zr (Zh Zr (Zh Yj (Zh Z0 (Zh (Y7 (YA YE YB)) (Zh (Zb (YA YE YB)) YB))))))))))) (Yb (i:=7) Xp.nd rfl (Or.inl rfl)) (YF (Yt (PW.pt (Xq (YW (JV K rfl hU) (YM (aU base) (hr.mono (by decide)) (by rfl) aV aW aX .nil Ye (YA (pv 4) (YA (pv 7) YB))) (Zb (YA YE (YA YE YB))) (YY _)) (XC (JL (Z1 (YM (gU base) (hr.mono (by decide)) (by rfl) gW gY gZ .nil Ye (YA (YQ ZL (pv 2) YE) (YA (pv 7) YB)))))))) (YF (YT Zr)) YZ)))⟩
   (YAO ⟨(YT (JE (JN (JU K rfl hU) (pv 4) (pv 1) (YY _)) (JM (pe_or (JN YB1 (YQ Yy (YQ ZL (pv 2) YE) YE) YE (YY _)) (JM (YM (lB base) (hr.mono (by decide)) (by rfl) lC lD lE .nil Ye (YA (YQ ZL (pv 2) YE) YB)))))))⟩)))))))))),?_⟩
  refine⟨_,U,a,ns,12,3,U,hS,hn,by decide,by decide,by decide,by decide,hp,λl1 WQ g1 H1 nm Aw s1 p1 nl1 hl1 d1 n4 hnm=>?_⟩;dsimp only[JH];refine⟨_,U,a,ns,13,U,s1.seq hS,by decide,by decide,λcell c0 c1=>?_⟩;dsimp only[JH];have Ax:YS H1 WQ (g1.map Yn):=d1.same (YFX H1 l1);refine YDM (λσ' H'=>∃(l:Addr) (xs:List V) (g:YX),σ'=[some (.ref a),some (.ref l),some (.int cell),none,none,none,none,none]/\YH H H'/\YI H'/\H' l=some (.lst xs)/\YS H' xs (g.map Yn)/\Yf g=true/\∀r∈g,r.1∈nm/\(r.2.1.length:Int)<=3) ?_ λbody=>?_
  rotate_left
  ·refine⟨_,U,_,_,U,U,(by show(0:Int) < 5;decide),U,_,U,XM (λh=>?_) λh=>?_⟩
   ·exact⟨YG (by show 0<=1000;decide),λl2 k2=>body _ _ ⟨l2,[],[],U,s1.trans (YH.upd k2),p1.upd rfl,YC,.nil,U,λr hr=>nomatch hr⟩⟩
   ·exact body _ _ ⟨l1,WQ,g1,U,s1,p1,hl1,Ax,Aw,hnm⟩
  rintro σ2 H2 ⟨l,xs,g,rfl,s2,p2,hl,dx,okg,hnm⟩;have hS2:=s2.seq hS;have g60:=Jk okg;have eZ:xs.length=g.length:=by rw[dx.len,YKF]
  have row:∀{H':Hp}{b:Addr}{lo hi:Option Int}{Q':VK},YH H2 H'->YI H'->H' b=none->(∀v H6,YH H' H6->YI H6->RowV H6 g v->(v=.non\/∃o,v=.ref o/\H' o=none)->Q' v H6)->spRow K [.ref l,.ref b,.int 20] (upd H' b (.lst (XE (ns.map V.int) lo hi))) Q' E0:=λ{H' b lo hi Q'} sx px nb k=>by
   obtain⟨ns',en,hle⟩:=YJQ ns lo hi;have sb:=YH.upd (o:=.lst (XE (ns.map V.int) lo hi)) nb;refine⟨l,b,xs,g,nm,ns',20,U,(sx.trans sb) _ _ hl,dx.same (sx.trans sb),okg,n4,λr hr=>(hnm r hr).1,SqL.of (by rw[YC,en]),by lia,px.upd rfl,λ_ H6 s6 p6=>k _ H6 (sb.trans s6) p6 (.inl rfl) (.inl rfl),λr YL o ks H6 e1 e2 _ s6 p6 n6 h6=>k _ H6 (sb.trans s6) p6 (.inr ⟨o,ks,r,YL,U,h6,e1,e2⟩) (.inr ⟨o,U,sb.free n6⟩)⟩
  refine⟨6,U,by decide,by decide,λlc zG=>?_⟩;refine JG (n:=6) 0 (λ_ y A=>RowV A g y) X1 (λ_ _ _ _ s h=>h.same s) p2 zG (by show 0 < 3;decide) (YG (by decide)) (λτ'=>∃v,τ'=[v,some (.ref l),some (.ref a)]) ⟨_,U⟩ ?_ ?_ ?_
  ·rintro τ' v ⟨w,rfl⟩;exact⟨v,U⟩
  ·rintro τ' k x H' R ⟨w,rfl⟩ hτ hit hk hs hp' mX hR;have ew:w=some x:=by simpa using hτ
   subst ew hit;refine⟨_,U,_,U,_,U,_,_,U,U,_,U,_,U,_,_,U,U,.inl ⟨by decide,by decide⟩,_,_,U,U,_,U,a,_,U,hs.seq hS2,λb kb=>?_⟩;refine row hs hp' kb λv H6 s6 p6 rv hv=>hR v H6 s6 p6 ?_
   rcases hv with rfl |⟨o,rfl,no⟩
   ·exact .inl rfl
   ·rcases rv with e |⟨o',ks,r0,YL,e1,e2,e3,e4⟩
    ·cases e
    ·cases e1;exact .inr ⟨o,ks,r0,YL,U,by rw[YCh (λz=>by rw[z]at no;exact mX no)];exact e2,e3,e4⟩
  intro ys H3 hy hP s3 p3 hl3;dsimp only[JH];refine⟨_,U,.inl ⟨U,_,SqL.of hl3⟩,?_⟩;refine⟨_,U,_,U,_,U,a,_,U,s3.seq hS2,λb kb=>row s3 p3 kb λv H4 s4 p4 rv hv=>?_⟩;refine⟨lc,ys,v,U,U,s4 _ _ hl3,(by have:=YG (show 100<=1000 by decide);lia),?_⟩;have zJ:YH H2 (upd H4 lc (.lst (ys ++ [v]))):=(s3.trans s4).put zG;have p5:YI (upd H4 lc (.lst (ys ++ [v]))):=p4.upd rfl;have l5:upd H4 lc (.lst (ys ++ [v])) lc=some (.lst (ys ++ [v])):=YC;have hrs:∀y∈ys ++ [v],RowV (upd H4 lc (.lst (ys ++ [v]))) g y:=λy hy=>by
   have go:∀{o:Addr}{ks:List Nat},o≠lc->H4 o=some (.lst (ks.map nV))->upd H4 lc (.lst (ys ++ [v])) o=some (.lst (ks.map nV)):=λne e=>by rw[YN ne];exact e
   rcases YKu.mp hy with hy |hy
   ·obtain⟨j,hj⟩:=List.mem_iff_getElem?.mp hy;rcases hP j y hj with e |⟨o,ks,r0,YL,e1,e2,e3,e4⟩
    ·exact .inl e
    ·have ne:o≠lc:=λz=>by rw[z,YJN]at e2;cases e2
     rw[YCh ne]at e2;exact .inr ⟨o,ks,r0,YL,e1,go ne (s4 _ _ e2),e3,e4⟩
   ·rw[YKf.mp hy];rcases rv with e |⟨o,ks,r0,YL,e1,e2,e3,e4⟩
    ·exact .inl e
    ·rcases hv with e |⟨o',e',no⟩
     ·rw[e1]at e;cases e
     ·rw[e1]at e';cases e';exact .inr ⟨o,ks,r0,YL,e1,go (λz=>by rw[z,hl3]at no;cases no) e2,e3,e4⟩
  revert zJ p5 l5 hrs;generalize upd H4 lc (.lst (ys ++ [v]))=H5;generalize ys ++ [v]=rs;intro zJ p5 l5 hrs;have Q_:=zJ _ _ hl;have Wa:=dx.same zJ;refine⟨_,U,l,xs,U,.inl (SqL.of Q_),λlh kh=>?_⟩;have s6:=YH.upd (o:=.lst xs) kh;have p6:YI (upd H5 lh (.lst xs)):=p5.upd rfl;have l6:upd H5 lh (.lst xs) lh=some (.lst xs):=YC;revert s6 p6 l6;generalize upd H5 lh (.lst xs)=H6;intro s6 p6 l6;dsimp only[JH];have dG6:Den H6 (.ref lh) (ZZ g):=.lst (.inl l6) (Wa.same s6);have shG:=YAu okg;refine⟨_,U,.ref lh,ZZ g,U,dG6,shG,p6,(λg' e1 _ ln s ks H7 hs hf srt mem s7 p7 n7 h7=>?_),λe=>by rw[Z7,okg]at e;cases e⟩;cases YAR e1;dsimp only[JH];have zc:=s6.trans s7;have Wb:∀k,YDl g s k:=λk r0 YL r m o h eg er em wy df eh=>short4 hs hf (λr hr=>by have:=(hnm r hr).2;lia) n4 (λr hr=>(hnm r hr).1) (by rw[eg];exact YKd ..) wy df (YKL er) em eh
  have zH:=zc _ _ Q_;have qu:(D.tup [.int 1,.int 1]).ok=true:=by decide +kernel
  have zf:(D.tup [.int 1,.int 1]).dep<=64:=by decide +kernel
  have WR:=s7 _ _ l6;have WT:=Wa.same zc;have dG7:Den H7 (.ref lh) (ZZ g):=.lst (.inl WR) WT;have need_lt:∀k,XU g s k->k < g.length:=λk ⟨r,_,_,_,er,_⟩=>(YKR.mp er).1
  refine⟨_,U,l,xs,U,.inl (SqL.of zH),(xs.length:Int),U,by lia,by lia,?_⟩;refine Zu (lo:=0) (n:=((xs.length:Int)).toNat) (λk σ H'=>∃v6,σ=[some (.ref a),some (.ref l),some (.int cell),some (.ref lc),some (.ref lh),some (.ref ln),v6,none]/\YH H7 H'/\YI H') ⟨none,U,YH.refl _,p7⟩ ?_ ?_
  ·rintro k σ H' hk ⟨v6,rfl,sx,px⟩;have ei:(0:Int) + (k:Int)=(k:Int):=by lia
   rw[ei];refine⟨_,U,_,U,ln,ks.map nV,U,.inl (SqL.of (sx _ _ h7)),U,YBy ks,_,U,?_⟩;rw[YBX]
   by_cases hm:k∈ks
   ·rw[YKN hm];refine Z6 ⟨_,U,_,U,_,U,lh,lc,k,xs,g,s,rs,U,sx _ _ WR,WT.same sx,okg,hs,hf,(mem k).mp hm,Wb k,(zc.trans sx) _ _ l5,λy hy=>(hrs y hy).same (zc.trans sx),px,λH8 s8 p8=>⟨_,U,Y5 ⟨_,U,sx.trans s8,p8⟩⟩⟩
   ·rw[YKO hm];refine Y5 ⟨_,U,_,U,.ref lh,.int (k:Int),g,s,.int (k:Int),U,dG7.same sx,okg,.int _,by unfold D.short;rfl,hs,hf,px,(λ_ u H8 s8 p8 Ay=>⟨YG (by show 2<=1000;decide),λu2 k2=>?_⟩),λk' u5 hk'=>?_⟩
    ·have s9:=YH.upd (o:=.tup [.int 1,.int 1]) k2;refine⟨.tup [.int 1,.int 1],.tup [.int 1,.int 1],.tup (s9 _ _ Ay) (.cons (.int _) (.cons (.int _) .nil)),.tup YC (.cons (.int _) (.cons (.int _) .nil)),qu,qu,zf,_,U,?_⟩;rw[Jf _ qu];exact Y5 ⟨_,U,(sx.trans s8).trans s9,p8.upd rfl⟩
    ·cases Int.ofNat.inj (D.int.inj u5);exact absurd ((mem k).mpr hk') hm
  ·rintro σ H' ⟨v6,rfl,sx,px⟩;have QT:=sx _ _ zH;refine⟨_,U,_,U,l,xs,U,.inl (SqL.of QT),_,_,U,U,⟨by decide,by decide,by decide⟩,YG (by show 1<=1000;decide),λb1 kb1=>⟨YG (by show 1<=1000;decide),λb2 kb2=>⟨YG (by show 9<=1000;decide),λlo klo=>?_⟩⟩⟩;have u1:=YH.upd (o:=.lst [.int 0]) kb1;have u2:=YH.upd (o:=.tup [.int 0]) kb2;have u3:=YH.upd (o:=.lst [.int (-1),.int (xs.length:Int),.int (10 ^ (60:Int).toNat),.bl true,.bl false,.str "0",.non,.ref b1,.ref b2]) klo;have dO:YS (upd (upd (upd H' b1 (.lst [.int 0])) b2 (.tup [.int 0])) lo (.lst [.int (-1),.int (xs.length:Int),.int (10 ^ (60:Int).toNat),.bl true,.bl false,.str "0",.non,.ref b1,.ref b2])) [.int (-1),.int (xs.length:Int),.int (10 ^ (60:Int).toNat),.bl true,.bl false,.str "0",.non,.ref b1,.ref b2] [.int (-1),.int (xs.length:Int),.int (10 ^ 60),.bl true,.bl false,.str "0",.non,.lst [.int 0],.tup [.int 0]]:=.cons (.int _) (.cons (.int _) (.cons (.int _) (.cons (.bl _) (.cons (.bl _) (.cons (.str _) (.cons .non (.cons (.lst (.inl ((u2.trans u3) _ _ YC)) (.cons (.int _) .nil)) (.cons (.tup (u3 _ _ YC) (.cons (.int _) .nil)) .nil))))))));have e8:upd (upd (upd H' b1 (.lst [.int 0])) b2 (.tup [.int 0])) lo (.lst [.int (-1),.int (xs.length:Int),.int (10 ^ (60:Int).toNat),.bl true,.bl false,.str "0",.non,.ref b1,.ref b2]) lo=some (.lst [.int (-1),.int (xs.length:Int),.int (10 ^ (60:Int).toNat),.bl true,.bl false,.str "0",.non,.ref b1,.ref b2]):=YC;have s8:=(u1.trans u2).trans u3;have p8:YI (upd (upd (upd H' b1 (.lst [.int 0])) b2 (.tup [.int 0])) lo (.lst [.int (-1),.int (xs.length:Int),.int (10 ^ (60:Int).toNat),.bl true,.bl false,.str "0",.non,.ref b1,.ref b2])):=((px.upd rfl).upd rfl).upd rfl;have hbad:∀d∈([.int (-1),.int (xs.length:Int),.int (10 ^ 60),.bl true,.bl false,.str "0",.non,.lst [.int 0],.tup [.int 0]]:List D),d.short=true/\∀k:Nat,d=.int (k:Int)->¬XU g s k:=λd hd=>by
    simp only[YKT,YLG,or_false]at hd;have no:∀{i:Int}{k:Nat},(D.int i)=.int (k:Int)->XU g s k->(i < 0\/(g.length:Int)<=i)->False:=λe hk hi=>by
     have h1:=D.int.inj e;have h2:=need_lt _ hk
     lia
    rcases hd with rfl |rfl |rfl |rfl |rfl |rfl |rfl |rfl |rfl
    ·exact⟨by unfold D.short;rfl,λk e hk=>no e hk (.inl (by decide))⟩
    ·exact⟨by unfold D.short;rfl,λk e hk=>no e hk (.inr (by lia))⟩
    ·exact⟨by unfold D.short;rfl,λk e hk=>no e hk (.inr (YLn (show(g.length:Int)<=60 by lia) (by decide +kernel)))⟩
    ·exact⟨by decide +kernel,λk e=>by cases e⟩
    ·exact⟨by decide +kernel,λk e=>by cases e⟩
    ·exact⟨by decide +kernel,λk e=>by cases e⟩
    ·exact⟨by decide +kernel,λk e=>by cases e⟩
    ·exact⟨by decide +kernel,λk e=>by cases e⟩
    ·exact⟨by decide +kernel,λk e=>by cases e⟩
   revert dO e8 s8 p8;generalize upd (upd (upd H' b1 (.lst [.int 0])) b2 (.tup [.int 0])) lo (.lst [.int (-1),.int (xs.length:Int),.int (10 ^ (60:Int).toNat),.bl true,.bl false,.str "0",.non,.ref b1,.ref b2])=H8;generalize ([.int (-1),.int (xs.length:Int),.int (10 ^ (60:Int).toNat),.bl true,.bl false,.str "0",.non,.ref b1,.ref b2]:List V)=os;intro dO e8 s8 p8;have Wc:=sx.trans s8;refine⟨lo,U,⟨_,SqL.of e8⟩,Xv (K:=K) (a:=lo) (xs:=os) (λi σ H9=>∃v7,σ=[some (.ref a),some (.ref l),some (.int cell),some (.ref lc),some (.ref lh),some (.ref ln),v6,v7]/\YH H8 H9/\YI H9) ⟨none,U,YH.refl _,p8⟩ ?_ ?_ ?_⟩
   ·rintro i σ H9 _ ⟨_,rfl,s9,_⟩;exact SqL.of (s9 _ _ e8)
   ·rintro i y σ H9 hi ⟨v7,rfl,s9,p9⟩;obtain⟨d,ed,dd⟩:=dO.get hi;obtain⟨shd,hnn⟩:=hbad d (YKL ed);refine⟨_,U,_,U,.ref lh,y,g,s,d,U,dG7.same (Wc.trans s9),okg,dd.same s9,shd,hs,hf,p9,(λ_ u Ha sa pa Az=>⟨YG (by show 2<=1000;decide),λu2 k2=>?_⟩),λk' u5 hk'=>absurd hk' (hnn k' u5)⟩;have sb:=YH.upd (o:=.tup [.int 1,.int 1]) k2;refine⟨.tup [.int 1,.int 1],.tup [.int 1,.int 1],.tup (sb _ _ Az) (.cons (.int _) (.cons (.int _) .nil)),.tup YC (.cons (.int _) (.cons (.int _) .nil)),qu,qu,zf,_,U,?_⟩;rw[Jf _ qu];have s9b:=(s9.trans sa).trans sb;refine Y5 ⟨_,U,_,_,U,U,⟨by decide,by decide⟩,_,U,_,y,d,U,dd.same s9b,shd,pa.upd rfl,λHc sc pc=>⟨_,U,Y5 ⟨_,U,s9b.trans sc,pc⟩⟩⟩
   ·rintro σ H9 ⟨v7,rfl,s9,p9⟩;have sA:=(zc.trans Wc).trans s9;refine⟨_,U,_,U,ZZ g,ZZ g,dG7.same (Wc.trans s9),.lst (.inl (sA _ _ Q_)) (Wa.same sA),YBK _,YBK _,YCo _,?_⟩;rw[Jf _ (YBK _)];refine⟨_,U,Z6 ?_⟩;refine⟨_,U,_,_,U,U,⟨by decide,by decide⟩,_,_,U,U,(by show(0:Int) < 4;decide),U,_,U,XM (λh=>q _) λh=>?_⟩;exact⟨_,U,_,_,U,U,⟨by decide,by decide⟩,_,U,by lia,p9,λHc sc pc=>q _⟩
end
theorem all_mk {l:PySem.W.OpenLaw}{w:World}{K:W.Frag}{h:Heap}{mg:Str->Option Value}{fa g8 e_ bL du gb dw g_ ie gf aM aL ak f0 f1 f2 f3 f4 f5 f6 f7 f8 f9 WW WX WY f13 W0 W2 W3 W4 W5 W6 W7 W8 W9 W_ Ea Eb Ec Ed Ef Eg Eh Ei Ej Ek El Em En Eo Ep Er Wd:Addr} (X:K.In h) (G:h.Ns mainGlobals mg) (A_:mg "law"=some (.ref fa))
  {od an:Option Addr}{sl:Array (Option Value)}{oc kV dc pm cd ct:Value}{tFIRST_CODE tLAST_CODE tPERCENT_CODE tMOST_LETTERS tMOST_PARTS tMOST_RULES tMOST_NUMBERS:Tok}
  (nBarren:PySem.W.nsIn K mainGlobals "Barren"=some (some (.ref g8)))
  (nEndless:PySem.W.nsIn K mainGlobals "Endless"=some (some (.ref e_)))
  (nForestError:PySem.W.nsIn K mainGlobals "ForestError"=some (some (.ref bL)))
  (nNoChange:PySem.W.nsIn K mainGlobals "NoChange"=some (some (.ref du)))
  (nNoCosts:PySem.W.nsIn K mainGlobals "NoCosts"=some (some (.ref gb)))
  (nNoNumber:PySem.W.nsIn K mainGlobals "NoNumber"=some (some (.ref dw)))
  (nNoRule:PySem.W.nsIn K mainGlobals "NoRule"=some (some (.ref g_)))
  (nNoText:PySem.W.nsIn K mainGlobals "NoText"=some (some (.ref ie)))
  (nNoWords:PySem.W.nsIn K mainGlobals "NoWords"=some (some (.ref gf)))
  (nNoGrammar:PySem.W.nsIn K mainGlobals "NoGrammar"=some (some (.ref aM)))
  (nNoRow:PySem.W.nsIn K mainGlobals "NoRow"=some (some (.ref aL)))
  (nTooGreat:PySem.W.nsIn K mainGlobals "TooGreat"=some (some (.ref ak)))
  (d0:L2.Dn K "is_whole" f0)
  (l0:Ln K "is_whole" "is_whole" YAy f0)
  (d1:L2.Dn K "stands_in_texts" f1)
  (l1:Ln K "stands_in_texts" "stands_in_texts" JR f1)
  (d2:L2.Dn K "is_sign" f2)
  (l2:Ln K "is_sign" "is_sign" YBp f2)
  (d3:L2.Dn K "is_name" f3)
  (l3:Ln K "is_name" "is_name" YBq f3)
  (d4:L2.Dn K "is_part" f4)
  (l4:Ln K "is_part" "is_part" YBr f4)
  (d5:L2.Dn K "is_worth" f5)
  (l5:Ln K "is_worth" "is_worth" YAz f5)
  (d6:L2.Dn K "are_parts" f6)
  (l6:Ln K "are_parts" "are_parts" X7 f6)
  (d7:L2.Dn K "is_rule" f7)
  (l7:Ln K "is_rule" "is_rule" YBs f7)
  (d8:L2.Dn K "is_grammar" f8)
  (l8:Ln K "is_grammar" "is_grammar" Xf f8)
  (d9:L2.Dn K "checked" f9)
  (l9:Ln K "checked" "checked" YBt f9)
  (Va:L2.Dn K "_law_cell_at" WW)
  (Vb:Ln K "_law_cell_at" "_law_cell_at" Jz WW)
  (Vc:L2.Dn K "_law_mixed" WX)
  (Vd:Ln K "_law_mixed" "_law_mixed" Xi WX)
  (Ve:L2.Dn K "_law_signs" WY)
  (Vf:Ln K "_law_signs" "_law_signs" Zd WY)
  (Vg:L2.Dn K "_law_names" f13)
  (Vh:Ln K "_law_names" "_law_names" JS f13)
  (Vi:L2.Dn K "_law_worth" W0)
  (Vj:Ln K "_law_worth" "_law_worth" Xj W0)
  (Vk:L2.Dn K "_law_parts" W2)
  (Vl:Ln K "_law_parts" "_law_parts" Xk W2)
  (Vm:L2.Dn K "size_of_part" W3)
  (Vn:Ln K "size_of_part" "size_of_part" Jw W3)
  (Vo:L2.Dn K "size_of_rule" W4)
  (Vp:Ln K "size_of_rule" "size_of_rule" Jx W4)
  (Vq:L2.Dn K "least_sizes" W5)
  (Vr:Ln K "least_sizes" "least_sizes" XF W5)
  (Vs:L2.Dn K "least" W6)
  (Vt:Ln K "least" "least" YE8 W6)
  (Vu:L2.Dn K "ways_down" W7)
  (Vv:Ln K "ways_down" "ways_down" X8 W7)
  (Vw:L2.Dn K "sizes_with" W8)
  (Vx:Ln K "sizes_with" "sizes_with" Xg W8)
  (Vy:L2.Dn K "needed" W9)
  (Vz:Ln K "needed" "needed" YC6 W9)
  (VB:L2.Dn K "_law_bare" W_)
  (VD:Ln K "_law_bare" "_law_bare" YAA W_)
  (VF:L2.Dn K "smallest_rules" Ea)
  (VG:Ln K "smallest_rules" "smallest_rules" JZ Ea)
  (VH:L2.Dn K "smallest_row" Eb)
  (VJ:Ln K "smallest_row" "smallest_row" Jy Eb)
  (VL:L2.Dn K "steps_to" Ec)
  (VM:Ln K "steps_to" "steps_to" YA1 Ec)
  (VN:L2.Dn K "row_down" Ed)
  (VP:Ln K "row_down" "row_down" YA2 Ed)
  (VR:L2.Dn K "_law_ends" Ef)
  (V0:Ln K "_law_ends" "_law_ends" XA Ef)
  (V1:L2.Dn K "_law_open" Eg)
  (V2:Ln K "_law_open" "_law_open" XB Eg)
  (V3:L2.Dn K "_law_row" Eh)
  (V4:Ln K "_law_row" "_law_row" YA6 Eh)
  (V5:L2.Dn K "row_with" Ei)
  (V6:Ln K "row_with" "row_with" YA3 Ei)
  (V7:L2.Dn K "_law_read" Ej)
  (V8:Ln K "_law_read" "_law_read" YAB Ej)
  (V9:L2.Dn K "_law_whole" Ek)
  (V_:Ln K "_law_whole" "_law_whole" Xl Ek)
  (Ba:L2.Dn K "_law_numbers" El)
  (Bb:Ln K "_law_numbers" "_law_numbers" J1 El)
  (Bc:L2.Dn K "_law_asked" Em)
  (Bd:Ln K "_law_asked" "_law_asked" Xm Em)
  (Be:L2.Dn K "_law_no_grammar" En)
  (Bf:Ln K "_law_no_grammar" "_law_no_grammar" JT En)
  (Bg:L2.Dn K "_law_told" Eo)
  (Bh:Ln K "_law_told" "_law_told" YAC Eo)
  (Bj:L2.Dn K "_law_doubled" Ep)
  (Bk:Ln K "_law_doubled" "_law_doubled" J2 Ep)
  (Bl:L2.Dn K "_law_great" Er)
  (Bm:Ln K "_law_great" "_law_great" Xn Er)
  (Bo:PySem.W.nsIn K mainGlobals "law"=some (some (.ref Wd)))
  (Bp:K.lookup Wd=some ⟨oc,od,.func (PySem.W.fnOf "law" "law" (J4 YAi) (JP YAi) (YJ YAi) .none kV dc pm an cd ct),sl⟩)
  (Bq:PySem.W.codeIn K cd "law"=true)
  (Br:PySem.W.keepIn K (.ref Wd)=true)
  (iFIRST_CODE:PySem.W.nsIn K mainGlobals "FIRST_CODE"=some (some (.int 32 tFIRST_CODE)))
  (iLAST_CODE:PySem.W.nsIn K mainGlobals "LAST_CODE"=some (some (.int 126 tLAST_CODE)))
  (iPERCENT_CODE:PySem.W.nsIn K mainGlobals "PERCENT_CODE"=some (some (.int 37 tPERCENT_CODE)))
  (iMOST_LETTERS:PySem.W.nsIn K mainGlobals "MOST_LETTERS"=some (some (.int 8 tMOST_LETTERS)))
  (iMOST_PARTS:PySem.W.nsIn K mainGlobals "MOST_PARTS"=some (some (.int 6 tMOST_PARTS)))
  (iMOST_RULES:PySem.W.nsIn K mainGlobals "MOST_RULES"=some (some (.int 60 tMOST_RULES)))
  (iMOST_NUMBERS:PySem.W.nsIn K mainGlobals "MOST_NUMBERS"=some (some (.int 1000 tMOST_NUMBERS)))
  (zisinstance:Zn K "isinstance")
  (zint:Zn K "int")
  (zbool:Zn K "bool")
  (zord:Zn K "ord")
  (zstr:Zn K "str")
  (zlen:Zn K "len")
  (zall:Zn K "all")
  (ztuple:Zn K "tuple")
  (zlist:Zn K "list")
  (zrange:Zn K "range")
  (zenumerate:Zn K "enumerate")
  (zmin:Zn K "min")
  (zmax:Zn K "max")
  (zreversed:Zn K "reversed")
  (zdict:Zn K "dict")
  (zValueError:Zn K "ValueError")
  (zsorted:Zn K "sorted")
  (xNoGrammar:PySem.W.excIn K aM [.type "ValueError",.type "Exception",.type "BaseException",.type "object"] "ValueError.__new__"=true)
  (xNoRow:PySem.W.excIn K aL [.type "ValueError",.type "Exception",.type "BaseException",.type "object"] "ValueError.__new__"=true)
  (xTooGreat:PySem.W.excIn K ak [.type "ValueError",.type "Exception",.type "BaseException",.type "object"] "ValueError.__new__"=true)
  (exga_NoRow:PySem.W.findIn K (.ref aL) "__getattribute__"=some (some (.builtin "BaseException.__getattribute__")))
  (exgt_NoRow:PySem.W.findIn K (.ref aL) "__getattr__"=some none)
  (excl_NoRow:PySem.W.findIn K (.ref aL) "__class__"=some (some (.builtin "object.__class__")))
  (exmb_NoRow:PySem.W.mroIn K aL (.type "BaseException")=some true)
  (exmo_NoRow:PySem.W.mroIn K aL (.type "object")=some true)
  (exga_TooGreat:PySem.W.findIn K (.ref ak) "__getattribute__"=some (some (.builtin "BaseException.__getattribute__")))
  (exgt_TooGreat:PySem.W.findIn K (.ref ak) "__getattr__"=some none)
  (excl_TooGreat:PySem.W.findIn K (.ref ak) "__class__"=some (some (.builtin "object.__class__")))
  (exmb_TooGreat:PySem.W.mroIn K ak (.type "BaseException")=some true)
  (exmo_TooGreat:PySem.W.mroIn K ak (.type "object")=some true)
  (exgs_:PySem.W.specialIn K (.builtin "object.__class__") "__get__"=some (some (.builtin "getset_descriptor.__get__")))
  (extk_:PySem.W.takesIn K (.builtin "object.__class__")=some true)
  (exGG:PySem.W.exmOne K (.ref aM) (.ref aM)=some true)
  (ehF_NoRow:PySem.W.exmOne K (.ref aL) (.ref bL)=some true)
  (ehF_TooGreat:PySem.W.exmOne K (.ref ak) (.ref bL)=some true)
  (ev_NoRow:PySem.W.kitOne K (.ref aL) (.type "ValueError")=some true)
  (ev_TooGreat:PySem.W.kitOne K (.ref ak) (.type "ValueError")=some true)
  (ekNT:PySem.W.kitOne K (.ref aL) (.ref ak)=some false)
  (ekTN:PySem.W.kitOne K (.ref ak) (.ref aL)=some false)
  (eo1_NoRow:PySem.W.kitAny K (.ref aL) [.ref g8,.ref e_,.ref du,.ref gb,.ref dw]=some false)
  (eo1_TooGreat:PySem.W.kitAny K (.ref ak) [.ref g8,.ref e_,.ref du,.ref gb,.ref dw]=some false)
  (eo2_NoRow:PySem.W.kitAny K (.ref aL) [.ref aM,.ref g_,.ref ie,.ref gf]=some false)
  (eo2_TooGreat:PySem.W.kitAny K (.ref ak) [.ref aM,.ref g_,.ref ie,.ref gf]=some false):
  ∃fd:FuncData,(∀(s:Shared) (v:Value),BindsTo s fd ⟨[v],[]⟩ [("_law_script",v)])/\∀base:Heap,K.In base->base.Ns mainGlobals mg->Yz l.prog w K mg base CX0 11 fa fd ["_law_script"] (YFf K):=by
 have e:=A_.symm.trans (PySem.W.mg_of X G Bo);cases e;have m:=λ{x:Str}{v:Value} (h:PySem.W.nsIn K mainGlobals x=some (some v))=>PySem.W.mg_of X G h
 have n:=λ{x:Str}{f:Addr} (h:L2.Dn K x f)=>(PySem.W.mg_of X G h:mg x=some (.ref f))
 have z:=λ{x:Str} (h:Zn K x)=>PySem.W.mg_none_of X G h
 have T:Txt K mg ⟨g8,e_,bL,du,gb,dw,g_,ie,gf,aM,aL,ak,0⟩:=⟨z zisinstance,z zint,z zbool,z zord,z zstr,z zlen,z zall,z ztuple,z zlist,z zrange,z zenumerate,z zmin,z zmax,z zreversed,z zdict,z zValueError,z zsorted,⟨_,m iFIRST_CODE⟩,⟨_,m iLAST_CODE⟩,⟨_,m iPERCENT_CODE⟩,⟨_,m iMOST_LETTERS⟩,⟨_,m iMOST_PARTS⟩,⟨_,m iMOST_RULES⟩,⟨_,m iMOST_NUMBERS⟩,m nBarren,m nEndless,m nForestError,m nNoChange,m nNoCosts,m nNoNumber,m nNoRule,m nNoText,m nNoWords,m nNoGrammar,m nNoRow,m nTooGreat,xNoGrammar,xNoRow,xTooGreat,exga_NoRow,exgt_NoRow,excl_NoRow,exmb_NoRow,exmo_NoRow,exga_TooGreat,exgt_TooGreat,excl_TooGreat,exmb_TooGreat,exmo_TooGreat,exgs_,extk_,exGG,ehF_NoRow,ehF_TooGreat,ev_NoRow,ev_TooGreat,ekNT,ekTN,eo1_NoRow,eo1_TooGreat,eo2_NoRow,eo2_TooGreat⟩;have F40:=YJC (st:=YAi) Bp Bq Br;obtain⟨_,F0⟩:=l0.ex;have bI:=us l.prog w (n d0) F0 (λ_=>YFv F0 T) λ_ _ _ _ _ _=>bn 1 λ_=>rfl
 obtain⟨_,F1⟩:=l1.ex;have bx:=us l.prog w (n d1) F1 (λ_=>YA0 F1 T) λ_ _ _ _ _ _=>bn 1 λ_=>rfl
 obtain⟨_,F2⟩:=l2.ex;have ik:=us l.prog w (n d2) F2 (λ_=>YGt F2 T bx) λ_ _ _ _ _ _=>bn 1 λ_=>rfl
 obtain⟨_,F3⟩:=l3.ex;have bO:=us l.prog w (n d3) F3 (λ_=>YGv F3 T) λ_ _ _ _ _ _=>bn 1 λ_=>rfl
 obtain⟨_,F4⟩:=l4.ex;have iy:=us l.prog w (n d4) F4 (λ_=>YGx F4 T ik bO) λ_ _ _ _ _ _=>bn 1 λ_=>rfl
 obtain⟨_,F5⟩:=l5.ex;have gw:=us l.prog w (n d5) F5 (λ_=>YFx F5 T bI) λ_ _ _ _ _ _=>bn 1 λ_=>rfl
 obtain⟨_,F6⟩:=l6.ex;have dN:=us l.prog w (n d6) F6 (λ_=>YE7 F6 T iy) λ_ _ _ _ _ _=>bn 1 λ_=>rfl
 obtain⟨_,F7⟩:=l7.ex;have iz:=us l.prog w (n d7) F7 (λ_=>YGz F7 T bO dN gw) λ_ _ _ _ _ _=>bn 1 λ_=>rfl
 obtain⟨_,F8⟩:=l8.ex;have cV:=us l.prog w (n d8) F8 (λ_=>YDd F8 T iz) λ_ _ _ _ _ _=>bn 1 λ_=>rfl
 obtain⟨_,F9⟩:=l9.ex;have aP:=us l.prog w (n d9) F9 (λ_=>YG1 F9 T cV) λ_ _ _ _ _ _=>bn 1 λ_=>rfl
 obtain⟨_,F10⟩:=Vb.ex;have aH:=us l.prog w (n Va) F10 (λ_=>YCH F10 T) λ_ _ _ _ _ _=>bn 2 λ_ _=>rfl
 obtain⟨_,F11⟩:=Vd.ex;have aR:=us l.prog w (n Vc) F11 (λ_=>YDf F11 T aH) λ_ _ _ _ _ _=>bn 2 λ_ _=>rfl
 obtain⟨_,F12⟩:=Vf.ex;have dh:=us l.prog w (n Ve) F12 (λ_=>YDg F12 T) λ_ _ _ _ _ _=>bn 1 λ_=>rfl
 obtain⟨_,F13⟩:=Vh.ex;have c7:=us l.prog w (n Vg) F13 (λ_=>YDh F13 T) λ_ _ _ _ _ _=>bn 1 λ_=>rfl
 obtain⟨_,F14⟩:=Vj.ex;have dj:=us l.prog w (n Vi) F14 (λ_=>YDj F14 T) λ_ _ _ _ _ _=>bn 1 λ_=>rfl
 obtain⟨_,F15⟩:=Vl.ex;have di:=us l.prog w (n Vk) F15 (λ_=>YDk F15 T) λ_ _ _ _ _ _=>bn 3 λ_ _ _=>rfl
 obtain⟨_,F16⟩:=Vn.ex;have bU:=us l.prog w (n Vm) F16 (λ_=>YCD F16 T) λ_ _ _ _ _ _=>bn 3 λ_ _ _=>rfl
 obtain⟨_,F17⟩:=Vp.ex;have aj:=us l.prog w (n Vo) F17 (λ_=>YCE F17 T bU) λ_ _ _ _ _ _=>bn 3 λ_ _ _=>rfl
 obtain⟨_,F18⟩:=Vr.ex;have aq:=us l.prog w (n Vq) F18 (λ_=>YC8 F18 T aj) λ_ _ _ _ _ _=>bn 2 λ_ _=>rfl
 obtain⟨_,F19⟩:=Vt.ex;have lA:=us l.prog w (n Vs) F19 (λ_=>YJv F19 T aq aP) λ_ _ _ _ _ _=>bn 1 λ_=>rfl
 obtain⟨_,F20⟩:=Vv.ex;have bu:=us l.prog w (n Vu) F20 (λ_=>YE9 F20 T aj) λ_ _ _ _ _ _=>bn 2 λ_ _=>rfl
 obtain⟨_,F21⟩:=Vx.ex;have aQ:=us l.prog w (n Vw) F21 (λ_=>YDe F21 T bu aj) λ_ _ _ _ _ _=>bn 2 λ_ _=>rfl
 obtain⟨_,F22⟩:=Vz.ex;have cP:=us l.prog w (n Vy) F22 (λ_=>YIf F22 T aP aQ aq) λ_ _ _ _ _ _=>bn 1 λ_=>rfl
 obtain⟨_,F23⟩:=VD.ex;have eU:=us l.prog w (n VB) F23 (λ_=>YFB F23 T c7 aR dh di dj aH) λ_ _ _ _ _ _=>bn 3 λ_ _ _=>rfl
 obtain⟨_,F24⟩:=VG.ex;have bJ:=us l.prog w (n VF) F24 (λ_=>YBT F24 T aj) λ_ _ _ _ _ _=>bn 2 λ_ _=>rfl
 obtain⟨_,F25⟩:=VJ.ex;have cg:=us l.prog w (n VH) F25 (λ_=>YCF F25 T) λ_ _ _ _ _ _=>bn 3 λ_ _ _=>rfl
 obtain⟨_,F26⟩:=VM.ex;have gA:=us l.prog w (n VL) F26 (λ_=>YF4 F26 T) λ_ _ _ _ _ _=>bn 3 λ_ _ _=>rfl
 obtain⟨_,F27⟩:=VP.ex;have gB:=us l.prog w (n VN) F27 (λ_=>YGB F27 T bJ gA bu cg) λ_ _ _ _ _ _=>bn 3 λ_ _ _=>rfl
 obtain⟨_,F28⟩:=V0.ex;have d_:=us l.prog w (n VR) F28 (λ_=>YFC F28 T) λ_ _ _ _ _ _=>bn 1 λ_=>rfl
 obtain⟨_,F29⟩:=V2.ex;have eE:=us l.prog w (n V1) F29 (λ_=>YFD F29 T) λ_ _ _ _ _ _=>bn 3 λ_ _ _=>rfl
 obtain⟨_,F30⟩:=V4.ex;have gH:=us l.prog w (n V3) F30 (λ_=>YGD F30 T d_ eE) λ_ _ _ _ _ _=>bn 3 λ_ _ _=>rfl
 obtain⟨_,F31⟩:=V6.ex;have bK:=us l.prog w (n V5) F31 (λ_=>YGC F31 T aP aq aQ gB bI) λ_ _ _ _ _ _=>bn 2 λ_ _=>rfl
 obtain⟨_,F32⟩:=V8.ex;have bw:=us l.prog w (n V7) F32 (λ_=>YFE F32 T) λ_ _ _ _ _ _=>bn 2 λ_ _=>rfl
 obtain⟨_,F33⟩:=V_.ex;have dm:=us l.prog w (n V9) F33 (λ_=>YDn F33 T) λ_ _ _ _ _ _=>bn 1 λ_=>rfl
 obtain⟨_,F34⟩:=Bb.ex;have aJ:=us l.prog w (n Ba) F34 (λ_=>YCI F34 T dm) λ_ _ _ _ _ _=>bn 1 λ_=>rfl
 obtain⟨_,F35⟩:=Bd.ex;have az:=us l.prog w (n Bc) F35 (λ_=>YDo F35 T bK) λ_ _ _ _ _ _=>bn 2 λ_ _=>rfl
 obtain⟨_,F36⟩:=Bf.ex;have bF:=us l.prog w (n Be) F36 (λ_=>YA8 F36 T bK) λ_ _ _ _ _ _=>bn 2 λ_ _=>rfl
 obtain⟨_,F37⟩:=Bh.ex;have eV:=us l.prog w (n Bg) F37 (λ_=>YFG F37 T az aJ bw) λ_ _ _ _ _ _=>bn 3 λ_ _ _=>rfl
 obtain⟨_,F38⟩:=Bk.ex;have cG:=us l.prog w (n Bj) F38 (λ_=>YCJ F38 T) λ_ _ _ _ _ _=>bn 1 λ_=>rfl
 obtain⟨_,F39⟩:=Bm.ex;have dq:=us l.prog w (n Bl) F39 (λ_=>YDp F39 T cG lA az aJ cP bw) λ_ _ _ _ _ _=>bn 1 λ_=>rfl
 exact⟨PySem.W.fnOf "law" "law" (J4 YAi) (JP YAi) (YJ YAi) .none kV dc pm an cd ct,λs v=>.of_eq rfl,λbase _ _=>ok_law F40 T eU aR cP gH dq eV az bF⟩
theorem walk {l:PySem.W.OpenLaw}{q:Program}{loose:List Str}{XP:(Str->Option Value)->Heap->Prop}{YP:World->Heap->Prop}{d:DefRec}{K:Params->W.Frag} (hn:l.most=some 63) (hdf:d.params.defaults=[])
  (hY:∀(w:World) (h:Heap),YP w h->(K w.params).In h)
  (F:∀(w:World) (mg:Str->Option Value) (fa:Addr) (h:Heap),(K w.params).In h->h.Ns mainGlobals mg->mg d.name=some (.ref fa)->
   ∃fd:FuncData,(∀(s:Shared) (u:Value),BindsTo s fd ⟨[u],[]⟩ [("_law_script",u)])/\∀base:Heap,(K w.params).In base->base.Ns mainGlobals mg->Yz l.prog w (K w.params) mg base CX0 11 fa fd ["_law_script"] (YFf (K w.params))):
  PySem.W.WalkO q loose XP YP l.row.toRowW d [] (λf vs=>PySem.call f vs):=
 L2.walk_of (n:=63) (k:=11) (x:="_law_script") (CX:=λ_=>CX0) (sp:=λw=>YFf (K w.params)) hn (by decide) hdf ⟨U,by decide,by decide⟩ hY F (λ_ _ a ns hl hO hS=>YIO hl hO hS) λ_ _ _ _ _ z=>z
end FR
open PySem PySem.W PyProof.Rows
inductive PySem.W.Fast|tw5565669473750903645|tw9888459114154465515|tw7599690689378485295|tw4736755935504313203|tw883951869613708902|tw1851021494518213256|tw12327265391537093137|tw7694932472994281162|tw3257709478315448617|tw3021543750081665581|tw17099419415841177570|tw354898918789190619|tw15377208943497084785|tw15667776397581772304|tw12942266144602719003|tw9484254547751578718|tw5399175277201561409|tw7357054069922526967|tw6570509877036776845|tw17726898264719167323|tw17226477622325641533|tw15515198752984063893|tw1006915743212686207|tw11914766582884746934|tw15349217769469964902|tw10707868707888780364|tw12646379261398882867|tw9584474677711534486|tw5366414057691838633|tw13878426308148402035|tw18207088029473797531|tw17416015036443301154|tw2453432033955369964|tw9843193403795425614|tw2209946323044070185|tw3234966634418998222|tw5459659361423608405|tw47609483024426559|tw7637476227465952907|tw9791792735849499640|tw16225615441934323957|tw10497487350602039051|tw13561116605459805225|tw18070472222749332619|tw513362607179956328|tw6140411319991516473|tw10731250419915948312|tw7398781064649027769|tw2471885068878865374|tw7198981904568225770|tw4287984918975906613|tw14652528791394051166|tw550462985994117042|tw9756988529013879403|tw5802930491592894289|tw7577648096152801711|tw14544395700628230280|tw8093386983929872227|tw4599823255233447298|tw4934534369343826370|tw11841819062471559851|tw13338345264039272116|tw14541905826184041508|tw699413560841022302|tw2914942237395962320|tw8565305455699146457|tw13917600132990718883|tw15453180093502471043|tw124345885985952258|tw15511817226378402705|tw2084601673518014777|tw8425213121631093615|tw5730988186751840010|tw2173764323498329807|tw825200645185888629|tw11953237597438566056|tw6454462277488941733|tw3050638738003498749|tw8634454721580792928|tw16899967329826060431|tw11154170369341733336|tw13355076265685608756|tw13653161281035956679|tw7840571266699374806|tw17880279544358087651|tw3550781986413047342|tw7072193539862305090|tw7454320433488143470|tw9068239634198952264|tw17647971449256873331|tw17720215391735578988|tw18009923584935681736|tw1665852356506341137|tw17275502678341713095|tw17848624834242430191|tw904528845452888737|tw10894358018475341564|tw8346325687093485428|tw13727147090446518689|tw15551532718841207401|tw2404971379689192231|tw13043768731848128477|tw9385034584904518185|tw10148637171343874332|tw9084132736790892664|tw11579025002647577911|tw12761179304845487478|tw15178226069922447116|tw8207462430604442121|tw932298681966235462|tw11960634606177719420|tw5304469079843366982|tw14817396558609140282|tw12223136439462881888|tw17218319398468720382|tw4667467419914569594|tw7591580406989034202|tw8843299023642988007|tw14063910665266759755|tw10417862730153609706|tw9575338580480133448|tw7923296624567488596|tw10715304411036092774|tw8864398873071014578|tw1505230652604797678|tw9256969536551678566|tw10478254863285911350|tw7870288738302284571|tw6156839928553737519|tw15081597393559935815|tw13752765951901578093|tw16385837205450767735|tw4048694320800378562|tw10988073592357120312|tw13833476525912811190|tw11669219076322357414|tw15292434267553499781|tw5164134795123023478|tw14661276453271513675|tw14511535791904226947|tw11256144571712121975|tw2128388244283602107|tw7267134313610770264|tw3542087990681040549|tw14991267579163407092|tw4256007734472789246|tw7658299646148016004|tw968822989313411512|tw987005172414310684|tw10376387573739215115|tw12170650230042350444|tw10774527255096719516|tw5904508777466736558|tw3234434428707171495|tw4143817455506427189|tw16643220631433661613|tw7430706168373098519|tw7035430047402561468|tw10432500309126815985|tw6509015457228773070|tw1586176085773663771|tw18275186368675489118|tw3541838479901605841|tw8978010149846675257|tw4099880472728593304|tw7151292950073103176|tw16837865669021121738|tw9549082049296944830|tw1711938907941062108|tw4000584028037275649|tw15973856398518698241|tw13147258182910249293|tw7046818714700767176|tw12113067363598026246|tw11394802894968613976|tw12406959592156256361|tw15180080295647563848|tw1129181224533585294|tw14051044896110011766|tw18059324636885388911|tw195977823017288200|tw14135363656846245679|tw3894567763078984187|tw16988781756044734818|tw13731376292477711335|tw11006649707682222752|tw16738647883674781297|tw14781095771895527039|tw15111912231596851071
set_option maxRecDepth 100000 in
set_option maxHeartbeats 0 in
theorem PySem.Challenge.cw_forestread_k13_a_row_with_it_holds : PySem.Challenge.rw_forestread_k13_a_row_with_it.Holds := by
 w_on;o_law;k_head;(case hw=>w_witness2)
 k_fill
 refine FR.walk (l:=PySem.Challenge.rw_forestread_k13_a_row_with_it) rfl rfl (λw h Y=>PySem.W.kIn_of Y) ?F
 case F=>
  intro w mg fa h KX G yj;refine' FR.all_mk KX G yj ..
  any_goals first |k_is |(delta L2.Dn;k_is) |(delta L2.Zn;k_is) |(delta L2.On;k_is) |(refine' L2.An.mk ?_ ?_;any_goals k_is) |(refine' L2.Ln.mk ?_ ?_ ?_;any_goals k_is) |k_exc |kts_exm |kit_is
