import PyProof.Rows.All
import Wide.All
import OpenK.AllK
import Wide.FinOn
import Lean
import PyProof.EqAt
import PyProof.EqKinds
import PyProof.TupleCall
import PySem.Challenge.RW_forestread_k50_rows_rise
set_option Elab.async false
set_option bootstrap.genMatcherCode false
set_option compiler.extract_closed false
set_option genSizeOf false
set_option linter.all false
set_option maxRecDepth 100000
theorem Z{α:Sort u}{a:α}:a=a:=rfl
open List renaming length_map->YOS,mem_singleton->YOT,length_append->YOU,mem_cons_of_mem->YOV,getElem?_eq_getElem->YOW,getElem?_eq_some_iff->YOX,mem_cons_self->YOZ,mem_of_getElem?->YOc,getElem?_map->YOd,mem_append_right->YOe,mem_append->YOf,mem_append_left->YOg,mem_cons->YOj,map_append->YOk,getElem?_append_right->YOm,size_toArray->YOp,nodup_cons->YOq,getElem?_append_left->YOr,mem_map->YOt,map_cons->YOv,append_assoc->YOw,length_cons->YOx,mem_filter->YO4,append_nil->YO6,all_eq_true->YO8,mem_range->YO9,take_add_one->YPA,length_reverse->YPB,reverse_cons->YPE,drop_eq_getElem_cons->YPF,nodup_append->YPH,take_length->YPI,nodup_nil->YPJ,length_take->YPK,length_range->YPM,map_congr_left->YPN,filter_cons->YPP,length_filter_le->YPQ,length_eq_zero_iff->YPR,mem_reverse->YPS,length_drop->YPT,getElem?_of_mem->YPY,map_map->YPa,getElem?_eq_none->YPd,dropLast_concat->YPg,filterMap_cons->YPj,not_mem_nil->YPo,mem_of_mem_take->YPp,take_of_length_le->YPw,getElem?_set_self->YPx,mem_filterMap->YPz,reverse_reverse->YP3,mem_of_mem_drop->YP4,getElem?_set_ne->YP5,find?_cons->YP6,all_append->YP7,reverse_append->YP9,all_cons->YQA,mem_flatten->YQB,getElem_mem->YQC,drop_length->YQD,filter_filter->YQE,take_append_drop->YQG,length_set->YQH,filterMap_eq_map->YQI,filterMap_append->YQJ,cons_lt_cons_iff->YQK
open Nat renaming le_refl->YOY,zero_le->YOn,le_trans->YO1,lt_of_lt_of_le->YO5,ne_of_lt->YPC,lt_succ_self->YPO,lt_irrefl->YPW,zero_mul->YPZ,sub_self->YPh,mul_zero->YPk,le_succ->YPn,zero_add->YPs,zero_lt_one->YPv,succ_le_succ->YPy
open PySem renaming wpAny_bind->YOh,wpAny_pure->YO0
open PySem.Heap renaming get?_push_of_some->YOi,lt_size->YOs,get?_push_size->YOy,get?_update_self->YQL
open Bool renaming and_eq_true->YOl,false_ne_true->YOu,eq_iff_iff->YPU,and_eq_true_iff->YPq,eq_false_iff->YPu,or_eq_true->YP8
open Option renaming map_eq_some_iff->YO2,isSome_map->YPi,isSome_iff_exists->YPm
open Option.some renaming inj->YO3
open PyProof.Rows.Boot renaming «isinstance»->YO7,«list»->YPL,«len»->YPV,«int»->YP0,«all»->YP1,«tuple»->YQF
open Array renaming length_toList->YPD,getElem?_toList->YPX,getElem?_eq_getElem->YP2,getElem?_eq_some_iff->YQN
open PySem.F renaming plainAttrs_list->YPG,type_list_pop->YPb,slot_list_pop->YPc,slot_dict_setdefault->YPr
open Int renaming emod_lt_of_pos->YPf,emod_nonneg->YPl,zero_add->YPt,toNat_natCast->YQM
abbrev de:=@decide_eq_true
abbrev dy:=@decide_eq_false
abbrev fF:=@of_decide_eq_true
abbrev fQ:=@decide_eq_true_eq
abbrev fZ:=@congrArg
abbrev J:=List
abbrev ah:=Option
abbrev ai:=PySem.Value
abbrev al:=PySem.Addr
abbrev ar:=PySem.Shared
abbrev av:=PySem.Str
abbrev aw:PySem.Str:="rules"
abbrev ay:PySem.Str:="self"
abbrev aE:PySem.Str:="node"
abbrev aI:PySem.Str:="heights"
abbrev aS:PySem.Str:="tally"
abbrev aT:PySem.Str:="height"
abbrev ba:PySem.Str:="thing"
abbrev bi:PySem.Str:="numbers"
abbrev bp:PySem.Str:="wood"
abbrev bq:PySem.Str:="text"
abbrev br:PySem.Str:="known"
abbrev bv:PySem.Str:="fresh"
abbrev bE:PySem.Str:="found"
abbrev bP:PySem.Str:="_law_k"
abbrev bS:PySem.Str:="higher"
abbrev bX:PySem.Str:="_law_script"
abbrev ca:PySem.Str:="_law_grammar_here"
abbrev cb:PySem.Str:="ends"
abbrev cc:PySem.Str:="root"
abbrev ce:PySem.Str:="_law_cell"
abbrev cf:PySem.Str:="number"
abbrev ck:PySem.Str:="begun"
abbrev cm:PySem.Str:="place"
abbrev cn:PySem.Str:="one"
abbrev cr:PySem.Str:="other"
abbrev cv:PySem.Str:="part"
abbrev cw:PySem.Str:="begins"
abbrev cx:PySem.Str:="_law_shorts_here"
abbrev cK:PySem.Str:="_law_found"
abbrev cS:PySem.Str:="_law_signs_here"
abbrev c6:PySem.Str:="_law_part"
abbrev c8:PySem.Str:="_law_row_here"
abbrev db:PySem.Str:="grammar"
abbrev df:PySem.Str:="_law_number"
abbrev dr:PySem.Str:="unseen"
abbrev dA:PySem.Str:="_law_big"
abbrev dE:PySem.Str:="_law_odd"
abbrev dL:PySem.Str:="_law_parts_here"
abbrev dP:PySem.Str:="_law_numbers_here"
abbrev dQ:PySem.Str:="_law_rows"
abbrev dS:PySem.Str:="on_path"
abbrev eC:PySem.Str:="_law_at"
abbrev eI:PySem.Str:="_law_cell_at"
abbrev eJ:PySem.Str:="_law_menu"
abbrev eK:PySem.Str:="_law_names_here"
abbrev fb:PySem.Str:="_law_base"
abbrev fc:PySem.Str:="_law_some"
abbrev fe:PySem.Str:="_law_most"
abbrev fg:PySem.Str:="_law_calm"
abbrev fh:PySem.Str:="_law_name"
abbrev fi:PySem.Str:="_law_cells"
abbrev fj:PySem.Str:="_law_room"
abbrev fk:PySem.Str:="_law_many"
abbrev fm:PySem.Str:="_law_wood"
abbrev fu:PySem.Str:="stands_in_texts"
abbrev fy:PySem.Str:="checked_text"
abbrev fD:PySem.Str:="numbers_by_head"
abbrev fH:PySem.Str:="values_of_nodes"
abbrev gc:PySem.Str:="ends_of_beginnings"
namespace L2
open PySem PySem.Spec PyProof.Rows
abbrev c_:=Sum Int av
def xT:c_->ai->Bool
 |.inl k,v=>Value.isInt k v
 |.inr x,v=>Value.isStrOf x v
def keyH(w:World):c_->Int
 |.inl k=>hashInt k
 |.inr x=>hashStr w x
theorem Zc:∀{k:c_}{v:ai},xT k v=true->(∃i t,k=Sum.inl i/\v=Value.int i t)\/(∃x t,k=Sum.inr x/\v=Value.str x t)
 |.inl i,v,h=>by
  obtain⟨t,e⟩:=Value.isInt_shape (k:=i) (v:=v) h;exact .inl ⟨i,t,Z,e⟩
 |.inr x,v,h=>by
  obtain⟨t,e⟩:=Value.isStrOf_shape (x:=x) (v:=v) h;exact .inr ⟨x,t,Z,e⟩
theorem YLl(i:Int)(t:Tok):xT (.inl i) (.int i t)=true:=by simp[xT,Value.isInt]
theorem YLm(x:av)(t:Tok):xT (.inr x) (.str x t)=true:=by simp[xT,Value.isStrOf]
theorem zi(a b:Int):decide ((Sum.inl a:c_)=Sum.inl b)=(a==b):=by
 by_cases e:a=b;subst e;simp;have h:¬(Sum.inl a:c_)=Sum.inl b:=λq=>e<|Sum.inl.inj q;rw[dy h];exact(beq_eq_false_iff_ne.mpr e).symm
theorem xB(a b:av):decide ((Sum.inr a:c_)=Sum.inr b)=decide (a=b):=by
 by_cases e:a=b;subst e;simp;have h:¬(Sum.inr a:c_)=Sum.inr b:=λq=>e<|Sum.inr.inj q;rw[dy h,dy e]
theorem xj(a:Int)(b:av):decide ((Sum.inl a:c_)=Sum.inr b)=false:=dy nofun
theorem xI(a:av)(b:Int):decide ((Sum.inr a:c_)=Sum.inl b)=false:=dy nofun
def Yk(prog:Program)(w:World):PySem.KeyKind prog w c_ where
 is:=xT
 hash:=keyH w
 inj:=λv a b ha hb=>by
  rcases Zc ha with ⟨i,t,rfl,rfl⟩|⟨x,t,rfl,rfl⟩
  rcases Zc hb with ⟨j,u,rfl,e⟩|⟨y,u,rfl,e⟩
  injection e with R _;rw[R];exact nomatch e
  rcases Zc hb with ⟨j,u,rfl,e⟩|⟨y,u,rfl,e⟩
  exact nomatch e
  injection e with R _;rw[R]
 byValue:=λk v h=>by
  rcases Zc h with ⟨i,t,rfl,rfl⟩|⟨x,t,rfl,rfl⟩ <;> rfl
 pyHash:=λhv h=>by
  rcases Zc hv with ⟨i,t,rfl,rfl⟩|⟨x,t,rfl,rfl⟩
  exact wpAny_pyHash_int h;exact wpAny_pyHash_str h
 eqBool:=λhu hv h=>by
  rcases Zc hu with ⟨i,t,rfl,rfl⟩|⟨x,t,rfl,rfl⟩
  rcases Zc hv with ⟨j,u,rfl,rfl⟩|⟨y,u,rfl,rfl⟩
  rw[zi]at h;exact wpAny_eqBool_int h;rw[xj]at h;exact SeqAt.EqAt.int_str i t y u _ _ _ _ h;rcases Zc hv with ⟨j,u,rfl,rfl⟩|⟨y,u,rfl,rfl⟩
  rw[xI]at h;exact SeqAt.EqAt.str_int x t j u _ _ _ _ h;rw[xB]at h;exact wpAny_eqBool_str h
 «strs»:=λk x t v h=>by
  rcases Zc h with ⟨i,u,rfl,e⟩|⟨y,u,rfl,e⟩
  exact nomatch e
  injection e with R _;subst R;cases v <;> rfl
theorem YH8(prog:Program)(w:World)(i:Int)(t:Tok):(Yk prog w).is (.inl i) (.int i t)=true:=YLl i t
theorem YH9(prog:Program)(w:World)(x:av)(t:Tok):(Yk prog w).is (.inr x) (.str x t)=true:=YLm x t
inductive V where
 |non|bl (b:Bool)|int (i:Int)|str (x:Str)|byt (b:Array UInt8)|flt (b:UInt64)|ref (a:Addr)|ty (n:String)
 deriving DecidableEq
def Yx:V->ai->Prop
 |.non,u=>u=Value.none
 |.bl b,u=>u=Value.bool b
 |.int i,u=>∃t,u=Value.int i t
 |.str x,u=>∃t,u=Value.str x t
 |.byt b,u=>∃t,u=Value.bytes b t
 |.flt b,u=>∃t,u=Value.float b t
 |.ref a,u=>u=Value.ref a
 |.ty n,u=>u=Value.type n
abbrev Yt:J V->J ai->Prop:=Paired Yx
theorem Yt.length(r:Yt xs us):xs.length=us.length:=Paired.length r
theorem Yt.get:∀{xs:J V}{us:J ai}{i:Nat}{x:V},Yt xs us->xs[i]?=some x->∃u,us[i]?=some u/\Yx x u
 |_,_,_,_,.nil,e=>by simp at e
 |_,_,0,_,.cons r _,e=>by simp at e;subst e;exact⟨_,Z,r⟩
 |_,_,i+1,x,.cons _ t,e=>by
  obtain⟨u,h1,h2⟩:=Yt.get (i:=i) (x:=x) t (by simpa using e);exact⟨u,by simpa using h1,h2⟩
theorem Yt.append:∀{xs ys:J V}{us ws:J ai},Yt xs us->Yt ys ws->Yt (xs++ys) (us++ws)
 |_,_,_,_,.nil,s=>s
 |_,_,_,_,.cons r t,s=>.cons r<|Yt.append t s
theorem Yt.take:∀{xs:J V}{us:J ai} (n:Nat),Yt xs us->Yt (xs.take n) (us.take n)
 |_,_,0,_=>.nil
 |_,_,_+1,.nil=>.nil
 |_,_,n+1,.cons r t=>.cons r<|Yt.take n t
theorem Yt.drop:∀{xs:J V}{us:J ai} (n:Nat),Yt xs us->Yt (xs.drop n) (us.drop n)
 |_,_,0,r=>r
 |_,_,_+1,.nil=>.nil
 |_,_,n+1,.cons _ t=>Yt.drop n t
theorem Yt.none_of:∀{xs:J V}{us:J ai}{i:Nat},Yt xs us->xs[i]?=none->us[i]?=none:=λ{xs us i} r e=>by
 have h1:=r.length;have h2:xs.length<=i:=List.getElem?_eq_none_iff.mp e;exact List.getElem?_eq_none_iff.mpr (by lia)
def ia:ah V->ah ai->Prop
 |some v,some u=>Yx v u
 |none,none=>True
 |_,_=>False
def KV{κ:Type}:J (κ×V)->J (κ×ai)->Prop:=Paired λ(p:κ×V) (q:κ×ai)=>p.1=q.1/\Yx p.2 q.2
def kV:c_->V
 |.inl i=>.int i
 |.inr x=>.str x
inductive HO where
 |lst (xs:List V)
 |tup (xs:List V)
 |dK (kvs:List (c_×V))|dT (kvs:List (List c_×V))
 |set (Dr:Int->Bool) (n:Nat)
 |ins (C B:Addr) (fs:List (Str×V))
 |own (x:Addr)
 |xd (fs:List (Str×V))
 |met (f x:Addr)
 |rng (lo hi:Int)
 |frz (o:Obj) (u:HO)
 |tbl (ps:Array Value)
 |ext (φ:Heap->Prop)
abbrev L:=al->ah HO
def upd(H:L)(a:al)(o:HO):L:=λb=>if b=a then some o else H b
theorem YA:upd H a o a=some o:=by unfold upd;rw[if_pos Z]
theorem YB(h:b≠a):upd H a o b=H b:=by unfold upd;rw[if_neg h]
theorem CQ:upd (upd H a o) a u=upd H a u:=by
 funext b;unfold upd;split <;> rfl
theorem Yg{H:L}{a b:al}{o u:HO}(h:H a=some o)(h':H b=some u)(d:o≠u):a≠b:=by
 intro e;subst e;rw[h]at h';exact d<|YO3 h'
theorem YS{H:L}{a b:al}{o:HO}(h:H a=some o)(h':H b=none):a≠b:=by
 intro e;subst e;rw[h]at h';cases h'
section
variable (P:Program)(w:World)
def Y7(H:L)(h:Heap)(a:al):HO->Prop
 |.lst xs=>xs.length<=sizeLine/\∃(its:J ai) (n:Nat),Yt xs its/\h.get? a=some { cls:=.type "list",data:=.seq its.toArray n }
 |.tup xs=>xs.length<=sizeLine/\∃its:J ai,Yt xs its/\IsTup h a its.toArray
 |.dK kvs=>kvs.length<=sizeLine/\(a==sysModules)=false/\∃vs,KV kvs vs/\h.DictOf (Yk P w) a vs
 |.dT kvs=>kvs.length<=sizeLine/\(a==sysModules)=false/\∃xs:J<|J c_×al×ai,
   Paired (λ(p:J c_×V) (q:J c_×al×ai)=>p.1=q.1/\H q.2.1=some (.tup<|p.1.map kV)/\Yx p.2 q.2.2) kvs xs/\
   ∃o es ep,h.get? a=some o/\o.ExactDict/\o.data=.dict es ep/\es.toList=xs.map (entryOfKey<|tupleKind<|Yk P w)/\(xs.map (·.1)).Nodup
 |.set Dr n=>h.SetOf (intKind P w) a Dr n
 |.ins C B fs=>H B=some (.own a)/\fs.length<=1000/\B≠a/\h.get? a=some (PySem.W.instObj C B)/\
   ∃mA,h.Ns1 B mA/\(∀f,ia (fs.lookup f)<|mA f)/\PySem.Within mA (fs.map (·.1))
 |.own _=>∃o,h.get? a=some o
 |.xd fs=>∃mA,h.Ns1 a mA/\∀f,ia (fs.lookup f)<|mA f
 |.rng lo hi=>∃t u v,h.get? a=some { cls:=.type "range",data:=.fields #[.int lo t,.int hi u,.int 1 v] }
 |.frz o u=>h.get? a=some o/\Y7 H h a u
 |.tbl ps=>h.get? a=some { cls:=.none,data:=.fields ps }
 |.met f x=>h.get? a=some (PySem.W.methodObj (.ref f)<|.ref x)
 |.ext φ=>φ h/\(∃o,h.get? a=some o)/\∀h1 h2:Heap,φ h1->(∀o,h1.get? a=some o->h2.get? a=some o)->φ h2
def fG(H:L)(h:Heap):Prop:=∀a o,H a=some o->Y7 P w H h a o
end
section
variable {P:Program}{w:World}{H H':L}{h h':Heap}{a:al}{o:HO}
theorem Y7.lt(x:Y7 P w H h a o):a<h.objs.size:=by
 cases o with
 |lst xs=>obtain⟨_,_,_,_,e⟩:=x;exact YOs e
 |tup xs=>obtain⟨_,_,_,p⟩:=x;exact p.lt
 |dK kvs=>obtain⟨_,_,_,_,o,_,_,e,_⟩:=x;exact YOs e
 |dT kvs=>obtain⟨_,_,_,_,o,_,_,e,_⟩:=x;exact YOs e
 |set Dr n=>obtain⟨o,_,_,_,e,_⟩:=x;exact YOs e
 |ins C B fs=>obtain⟨_,_,_,e,_⟩:=x;exact YOs e
 |own y=>obtain⟨_,e⟩:=x;exact YOs e
 |xd fs=>obtain⟨_,⟨_,_,_,e,_⟩,_⟩:=x;exact YOs e
 |rng lo hi=>obtain⟨_,_,_,e⟩:=x;exact YOs e
 |frz ob u=>obtain⟨e,_⟩:=x;exact YOs e
 |tbl ps=>exact YOs (show h.get? a=some _ from x)
 |met f y=>exact YOs (show h.get? a=some _ from x)
 |ext φ=>obtain⟨_,⟨_,e⟩,_⟩:=x;exact YOs e
theorem Paired.mapP{α β:Type}{F G:α->β->Prop}:∀{l₁:J α}{l₂:J β},Paired F l₁ l₂->(∀a b,F a b->G a b)->Paired G l₁ l₂
 |_,_,.nil,_=>.nil
 |_,_,.cons r t,f=>.cons (f _ _ r)<|Paired.mapP t f
theorem Y7.stay(x:Y7 P w H h a o)(k:∀b u,(b=a\/H b=some (.own a))->h.get? b=some u->h'.get? b=some u)
  (ho:∀b,H b=some (.own a)->H' b=some (.own a))(ht:∀b xs,H b=some (.tup xs)->H' b=some (.tup xs)):Y7 P w H' h' a o:=by
 induction o with
 |lst xs=>obtain⟨z,its,n,r,e⟩:=x;exact⟨z,its,n,r,k _ _ (.inl Z) e⟩
 |tup xs=>obtain⟨z,its,r,ob,e,c⟩:=x;exact⟨z,its,r,ob,k _ _ (.inl Z) e,c⟩
 |dK kvs=>obtain⟨z,y,vs,r,ob,es,ep,e,c⟩:=x;exact⟨z,y,vs,r,ob,es,ep,k _ _ (.inl Z) e,c⟩
 |dT kvs=>
  obtain⟨z,y,xs,r,ob,es,ep,e,c⟩:=x;exact⟨z,y,xs,Paired.mapP r λp q z=>⟨z.1,ht _ _ z.2.1,z.2.2⟩,ob,es,ep,k _ _ (.inl Z) e,c⟩
 |set Dr n=>obtain⟨ob,es,ep,t,e,c⟩:=x;exact⟨ob,es,ep,t,k _ _ (.inl Z) e,c⟩
 |ins C B fs=>
  obtain⟨d,z,ne,e,mA,⟨od,es,ep,e2,c⟩,r⟩:=x;exact⟨ho _ d,z,ne,k _ _ (.inl Z) e,mA,⟨od,es,ep,k _ _ (.inr d) e2,c⟩,r⟩
 |own y=>obtain⟨ob,e⟩:=x;exact⟨ob,k _ _ (.inl Z) e⟩
 |xd fs=>obtain⟨mA,⟨od,es,ep,e,c⟩,r⟩:=x;exact⟨mA,⟨od,es,ep,k _ _ (.inl Z) e,c⟩,r⟩
 |rng lo hi=>obtain⟨t,u,v,e⟩:=x;exact⟨t,u,v,k _ _ (.inl Z) e⟩
 |frz ob u ih=>obtain⟨e,q⟩:=x;exact⟨k _ _ (.inl Z) e,ih q⟩
 |tbl ps=>
  have e:h.get? a=some { cls:=.none,data:=.fields ps }:=x;show h'.get? a=some { cls:=.none,data:=.fields ps };exact k a _ (.inl Z) e
 |met f y=>
  have e:h.get? a=some (PySem.W.methodObj (.ref f)<|.ref y):=x;show h'.get? a=some (PySem.W.methodObj (.ref f)<|.ref y);exact k a _ (.inl Z) e
 |ext φ=>obtain⟨p,⟨o,e⟩,st⟩:=x;exact⟨st _ _ p λo q=>k _ _ (.inl Z) q,⟨o,k _ _ (.inl Z) e⟩,st⟩
theorem fG.lt(x:fG P w H h)(e:H a=some o):a<h.objs.size:=(x a o e).lt
theorem fG.fresh(x:fG P w H h)(e:h.objs.size<=a):H a=none:=by
 cases q:H a with
 |none=>rfl
 |some u=>exact absurd (YO5 (x.lt q) e)<|YPW _
theorem fG.kept(x:fG P w H h)(k:∀b u,h.get? b=some u->h'.get? b=some u):fG P w H h':=λa o e=>
 (x a o e).stay (λb u _ q=>k b u q) (λ_ q=>q) λ_ _ q=>q
theorem fG.laid(x:fG P w H h)(k:∀b u,h.get? b=some u->h'.get? b=some u)(hp:h.objs.size<=a)(new:Y7 P w (upd H a o) h' a o):fG P w (upd H a o) h':=λb u e=>by
 have hn:=x.fresh hp;by_cases hb:b=a;subst hb;rw[YA]at e;cases e;exact new;rw[YB hb]at e;exact(x b u e).stay (λc v _ q=>k c v q) (λc q=>by rw[YB<|YS q hn];exact q) λc xs q=>by rw[YB<|YS q hn];exact q
end
def Rd(H:L)(a:al)(u:HO):Prop:=H a=some u\/∃o,H a=some (.frz o u)
theorem Rd.ok(r:Rd H a u)(x:fG P w H h):Y7 P w H h a u:=by
 rcases r with r|⟨o,r⟩
 exact x a u r;obtain⟨_,q⟩:=x a _ r;exact q
def C1:ah HO->Prop
 |some (.lst _)=>True
 |some (.dK _)=>True
 |some (.dT _)=>True
 |some (.set _ _)=>True
 |some (.ins _ _ _)=>True
 |some (.ext _)=>True
 |_=>False
section
variable {P:Program}{w:World}{H:L}{h h':Heap}{x e:al}{o':HO}
theorem fG.write(ok:fG P w H h)(mu:C1<|H x)(he:e=x\/H e=some (.own x))(k:∀b u,b≠e->h.get? b=some u->h'.get? b=some u)(tH:∃u,h'.get? e=some u)
  (new:Y7 P w (upd H x o') h' x o'):fG P w (upd H x o') h':=λb u q=>by
 have nown:∀c y,H c=some (.own y)->c≠x:=λc y r z=>by subst z;rw[r]at mu;exact mu
 have ntup:∀c xs,H c=some (.tup xs)->c≠x:=λc xs r z=>by subst z;rw[r]at mu;exact mu
 by_cases hb:b=x;subst hb;rw[YA]at q;cases q;exact new;rw[YB hb]at q;by_cases hbe:b=e;have q':H b=some (.own x):=by
  rcases he with z|z
  exact absurd (hbe.trans z) hb;rw[hbe];exact z
 rw[q]at q';cases q';obtain⟨v,hv⟩:=tH;exact⟨v,by rw[hbe];exact hv⟩;refine(ok b u q).stay (λc v hc r=>k c v ?_ r) (λc r=>by rw[YB<|nown c b r];exact r) λc xs r=>by rw[YB<|ntup c xs r];exact r
 rcases hc with rfl|hc
 exact hbe;rintro rfl;rcases he with z|z
 exact nown c b hc z;rw[hc]at z;cases z;exact hb Z
end
structure Un(fs ex:List Addr)(H H':L)(h h':Heap):Prop where
 keep:∀b o,h.get? b=some o->H b=none->b∉fs->b∉ex->h'.get? b=some o
 slot:∀b o,h.get? b=some o->H b=none->b∈fs->b∉ex->∃sl,h'.get? b=some { o with slots:=sl }
 free:∀b o,h.get? b=some o->H b=none->b∉ex->H' b=none
 there:∀b o,h.get? b=some o->b∉ex->∃o',h'.get? b=some o'
 tups:∀b xs,H b=some (.tup xs)->H' b=some (.tup xs)
 frzs:∀b o u,H b=some (.frz o u)->H' b=some (.frz o u)
 tbls:∀b ps,H b=some (.tbl ps)->∃more,H' b=some (.tbl<|ps++more)
section
variable {fs kY ex ex':J al}{H H1 H2:L}{h h1 h2 h':Heap}{a x e:al}{o:HO}
theorem Un.any(u:Un fs ex H H1 h h1)(q:h.get? b=some ob)(n:H b=none)(U:b∉ex):∃sl,h1.get? b=some { ob with slots:=sl }:=by
 by_cases hb:b∈fs;exact u.slot b ob q n hb U;exact⟨ob.slots,u.keep b ob q n hb U⟩
theorem Un.trans(a:Un fs ex H H1 h h1)(b:Un fs ex H1 H2 h1 h2):Un fs ex H H2 h h2 where
 keep:=λc ob q n hc U=>b.keep c ob (a.keep c ob q n hc U) (a.free c ob q n U) hc U
 slot:=λc ob q n hc U=>by
  obtain⟨sl,R⟩:=a.slot c ob q n hc U;obtain⟨ql,e2⟩:=b.slot c _ R (a.free c ob q n U) hc U;exact⟨ql,e2⟩
 free:=λc ob q n U=>by
  obtain⟨o',R⟩:=a.there c ob q U;exact b.free c o' R (a.free c ob q n U) U
 there:=λc ob q U=>by
  obtain⟨o',R⟩:=a.there c ob q U;exact b.there c o' R U
 tups:=λc xs q=>b.tups c xs (a.tups c xs q)
 frzs:=λc ob xs q=>b.frzs c ob xs (a.frzs c ob xs q)
 tbls:=λc ps q=>by
  obtain⟨m1,R⟩:=a.tbls c ps q;obtain⟨m2,e2⟩:=b.tbls c _ R;exact⟨m1++m2,by rw[e2,Array.append_assoc]⟩
theorem Un.kept(k:∀b u,h.get? b=some u->h'.get? b=some u):Un fs ex H H h h':=
 ⟨λb ob q _ _ _=>k b ob q,λb ob q _ _ _=>⟨ob.slots,k b ob q⟩,λ_ _ _ n _=>n,λb ob q _=>⟨ob,k b ob q⟩,λ_ _ q=>q,λ_ _ _ q=>q,λ_ ps q=>⟨#[],by rw[q];simp⟩⟩
theorem Un.refl:Un fs ex H H h h:=Un.kept λ_ _ q=>q
theorem Un.laid(k:∀b u,h.get? b=some u->h'.get? b=some u)(hp:h.objs.size<=a)(hn:H a=none):Un fs ex H (upd H a o) h h' where
 keep:=λb u q _ _ _=>k b u q
 slot:=λb u q _ _ _=>⟨u.slots,k b u q⟩
 free:=λb u q n _=>by rw[YB<|YPC<|YO5 (YOs q) hp];exact n
 there:=λb u q _=>⟨u,k b u q⟩
 tups:=λb xs q=>by rw[YB<|YS q hn];exact q
 frzs:=λb u xs q=>by rw[YB<|YS q hn];exact q
 tbls:=λb ps q=>⟨#[],by rw[YB<|YS q hn,q];simp⟩
theorem Un.write(mu:C1<|H x)(he:e=x\/H e=some (.own x))(k:∀b u,b≠e->h.get? b=some u->h'.get? b=some u)(tH:∃u,h'.get? e=some u):Un fs ex H (upd H x o) h h':=by
 have U:∀b,H b=none->b≠x:=λb n z=>by subst z;rw[n]at mu;exact mu
 have hb:∀b,H b=none->b≠e:=λb n z=>by
  subst z;rcases he with r|r
  exact U b n r;rw[n]at r;cases r
 have hm:∀b u,H b=some u->¬C1 (some u)->b≠x:=λb u q nm z=>by subst z;rw[q]at mu;exact nm mu
 refine⟨λb u q n _ _=>k b u (hb b n) q,λb u q n _ _=>⟨u.slots,k b u (hb b n) q⟩,λb u q n _=>by rw[YB<|U b n];exact n,λb u q _=>?_,
  λb xs q=>by rw[YB<|hm b _ q λz=>z];exact q,λb u xs q=>by rw[YB<|hm b _ q λz=>z];exact q,λb ps q=>⟨#[],by rw[YB<|hm b _ q λz=>z,q];simp⟩⟩
 by_cases hbe:b=e;subst hbe;exact tH;exact⟨u,k b u hbe q⟩
end
def trk(h:Heap)(H:L):J al:=(List.range h.objs.size).filter λa=>(H a).isSome
def oV(h:Heap)(H:L):Heap:=PySem.W.hideAll h<|trk h H
theorem YLn(h:Heap)(H:L):(oV h H).objs.size=h.objs.size:=PySem.W.hideAll_size _ _
theorem YMY(e:h.get? b=some o)(n:H b=none):(oV h H).get? b=some o:=
 PySem.W.hideAll_get _ e λhm=>by
  have q:(H b).isSome=true:=(YO4.mp hm).2;rw[n]at q;simp at q
theorem qh(e:(oV h H).get? b=some o):h.get? b=some o/\H b=none:=by
 have e':h.get? b=some o:=PySem.W.of_hideAll (trk h H) e;refine⟨e',?_⟩;cases q:H b with
 |none=>rfl
 |some x=>
  have hm:b∈trk h H:=YO4.mpr ⟨YO9.mpr<|YOs e',by simp[q]⟩;have z:(oV h H).get? b=none:=PySem.W.hideAll_none (trk h H) hm;rw[z]at e;cases e
def oy(g h:Heap)(Du:al):J<|al×Obj:=(List.range h.objs.size).filterMap λa=>if a=Du\/(g.get? a).isSome=true then none else (h.get? a).map λo=>(a,o)
def Y1(g h:Heap)(Du d:al):J<|al×Obj:=(oy g h Du).filter λp=>decide (p.1≠d)
structure Mod(K:W.Frag)(mg:Str->Option Value)(base:Heap):Prop where
 kin:K.In base
 glob:base.Ns mainGlobals mg
 blt:∃mb,base.Ns builtinsNs mb/\∀x:Str,x≠"__name__"->mb x=bootBuiltins x
 nolimit:base.NoLimit
structure Cx where
 prog:Program
 w:World
 K:W.Frag
 mg:Str->Option Value
 base:Heap
 A:Around
 N:List Str
 s₀:Shared
 H₀:L
 env:Env
 outer:List Env
 stack:List Env
 ex:List Addr
 fn:Str->Bool
 calm:Bool
 pn:List (Addr×Obj)
 xe:Value->Shared->Prop
def fE(l:J Env):J al:=l.filterMap (·.frame)
abbrev Cx.fs(X:Cx):J al:=fE X.outer
def B0(sc:Scope)(x:av):Prop:=sc.names.lookup x=some .local\/sc.names.lookup x=some .cell\/sc.names.lookup x=some .free
def r_(sc:Scope)(x:av):Prop:=sc.names.lookup x=some .local\/sc.names.lookup x=some .cell
def Look(env:Env)(h:Heap)(m:av->ah ai)(x:av)(u:ai):Prop:=
 (env.kindOf x=some .local/\m x=some u)\/((env.kindOf x=some .cell\/env.kindOf x=some .free)/\∃c,env.cells.lookup x=some c/\h.IsCell c (some u))
structure Cx.Ok(X:Cx):Prop where
 mod:Mod X.K X.mg X.base
 kind:X.env.scope.kind=.function
 glob:X.env.globals=mainGlobals
 blt:X.env.builtins=builtinsNs
 above:X.s₀.heap.objs.size<=X.env.locals
 inj:∀x y c,X.env.cells.lookup x=some c->X.env.cells.lookup y=some c->x=y
 has:∀x,(X.env.kindOf x=some .cell\/X.env.kindOf x=some .free)->∃c,X.env.cells.lookup x=some c
 cab:∀x c,X.fn x=true->X.env.cells.lookup x=some c->X.s₀.heap.objs.size<=c
 hd:X.calm=true->X.A.handled=none
 frames:X.A.frames=some X.stack
 stk:X.stack=X.outer\/(X.stack=X.env::X.outer/\X.env.frame=some X.env.locals)
 exf:∀b∈X.ex,b≠X.env.locals/\∀x c,X.env.cells.lookup x=some c->c≠b
 bs:∀b o,X.base.get? b=some o->X.s₀.heap.get? b=some o/\X.H₀ b=none
 bsz:X.base.objs.size<=X.s₀.heap.objs.size
 noex:∀b o,X.base.get? b=some o->b∉X.ex
 exfs:∀b∈X.ex,b∉X.fs
 funs:X.s₀.heap.FunFrames X.base X.outer
 frf:∀b∈X.fs,X.H₀ b=none
structure aW(X:Cx)(O:List (Addr×Obj))(σ:List (Option V))(H:L)(s:Shared):Prop where
 ok:X.Ok
 os:s.os=X.s₀.os
 bare:AllBare s.gens
 base:Un X.fs X.ex X.H₀ H X.s₀.heap s.heap
 loc:∃m,s.heap.Ns X.env.locals m/\∀(i:Nat) (x:Str) (v:V),X.N[i]?=some x->σ[i]?=some (some v)->B0 X.env.scope x->∃u,Yx v u/\Look X.env s.heap m x u
 cell:∀x c,X.env.cells.lookup x=some c->∃v,s.heap.IsCell c v
 free:H X.env.locals=none
 freeC:∀x c,X.env.cells.lookup x=some c->H c=none
 pin:∀p∈X.pn++O,s.heap.get? p.1=some p.2/\H p.1=none/\p.1≠X.env.locals/\p.1∉X.fs/\∀v,p.2.data≠.cell v
 hok:fG X.prog X.w H s.heap
 len:σ.length=X.N.length
section
variable {X:Cx}{O:J (al×Obj)}{σ:J (ah V)}{H H':L}{s:ar}{h':Heap}
theorem Cx.Ok.nofr(ok:X.Ok)(e:X.base.get? b=some o):b∉X.fs:=λhb=>by
 have:=(ok.funs.mem hb).1;rw[e]at this;cases this
theorem aW.bs(I:aW X O σ H s):∀b o,X.base.get? b=some o->s.heap.get? b=some o/\H b=none:=λb o e=>
 ⟨I.base.keep b o (I.ok.bs b o e).1 (I.ok.bs b o e).2 (I.ok.nofr e) (I.ok.noex b o e),I.base.free b o (I.ok.bs b o e).1 (I.ok.bs b o e).2 (I.ok.noex b o e)⟩
theorem aW.bk(I:aW X O σ H s):∀b o,X.base.get? b=some o->s.heap.get? b=some o:=λb o e=>(I.bs b o e).1
theorem aW.mod(I:aW X O σ H s):Mod X.K X.mg X.base:=I.ok.mod
theorem aW.kIn(I:aW X O σ H s):X.K.In s.heap:=I.ok.mod.kin.keeps I.bk
theorem aW.lt(I:aW X O σ H s):X.env.locals<s.heap.objs.size:=let ⟨_,hn,_⟩:=I.loc;hn.lt
theorem aW.sz(I:aW X O σ H s):X.s₀.heap.objs.size<=s.heap.objs.size:=YO1 I.ok.above<|Nat.le_of_lt I.lt
theorem aW.nofs(I:aW X O σ H s)(h:s.heap.objs.size<=a):a∉X.fs:=λhb=>by
 obtain⟨_,o,ho,_⟩:=I.ok.funs.mem hb;exact absurd (YO5 (YOs ho)<|YO1 I.sz h)<|YPW _
theorem aW.cne(I:aW X O σ H s):∀x c,X.env.cells.lookup x=some c->c≠X.env.locals:=λx c e z=>by
 obtain⟨v,o,ho,hd⟩:=I.cell x c e;obtain⟨m,⟨o',es,ep,ho',hd',_⟩,_⟩:=I.loc;rw[z,ho']at ho;cases ho;rw[hd']at hd;cases hd
theorem aW.funs(I:aW X O σ H s):s.heap.FunFrames X.base X.outer:=by
 have all:∀(l:J Env),(∀b∈fE l,b∈X.fs)->X.s₀.heap.FunFrames X.base l->s.heap.FunFrames X.base l:=by
  intro l
  induction l with
  |nil=>intro _ _;trivial
  |cons env r ih=>
   intro hs hl;obtain⟨hk,⟨Du,o,hf,hn,ho,hd⟩,hr⟩:=hl;have hL:Du∈X.fs:=hs Du (by unfold fE;rw[YPj,hf];exact YOZ);obtain⟨sl,e⟩:=I.base.slot Du o ho (I.ok.frf Du hL) hL λz=>I.ok.exfs Du z hL;exact⟨hk,⟨Du,_,hf,hn,e,hd⟩,ih (λb hb=>hs b (by unfold fE;rw[YPj,hf];exact YOV _ hb)) hr⟩
 exact all X.outer (λ_ hb=>hb) I.ok.funs
theorem aW.stack(I:aW X O σ H s):s.heap.FunFrames X.base X.stack:=by
 rcases I.ok.stk with e|⟨e,hf⟩
 rw[e];exact I.funs;rw[e];obtain⟨m,hn,_⟩:=I.loc;refine .cons (by rw[I.ok.kind];decide) hf hn ?_ I.funs;exact Heap.get?_none_of_le<|YO1 I.ok.bsz I.ok.above
theorem aW.stkSub(I:aW X O σ H s):∀b∈fE X.stack,b∈X.env.locals::X.fs:=λb hb=>by
 rcases I.ok.stk with e|⟨e,hf⟩
 rw[e]at hb;exact YOV _ hb;rw[e]at hb;unfold fE at hb;rw[YPj,hf]at hb;exact hb
theorem aW.stkFree(I:aW X O σ H s):∀b∈fE X.stack,H b=none:=λb hb=>by
 rcases YOj.mp (I.stkSub b hb) with e|hb
 rw[e];exact I.free;obtain⟨_,o,ho,_⟩:=I.ok.funs.mem hb;exact I.base.free b o ho (I.ok.frf b hb) λz=>I.ok.exfs b z hb
theorem aW.step{g':Array GenState}{t':Nat}{d':Drawn}{ch:J al}(I:aW X O σ H s)
  (nF:∀b∈ch,(b∈X.ex\/X.s₀.heap.objs.size<=b)/\b≠X.env.locals/\(∀x c,X.env.cells.lookup x=some c->c≠b)/\∀p∈X.pn++O,p.1≠b)
  (keep:∀b o,b≠X.env.locals->b∉X.fs->b∉ch->s.heap.get? b=some o->H b=none->h'.get? b=some o)
  (slot:∀b o,b≠X.env.locals->b∈X.fs->b∉ch->s.heap.get? b=some o->H b=none->∃sl,h'.get? b=some { o with slots:=sl })(free:∀b o,b∉ch->s.heap.get? b=some o->H b=none->H' b=none)
  (there:∀b o,b∉ch->s.heap.get? b=some o->∃o',h'.get? b=some o')
  (tups:∀b xs,H b=some (.tup xs)->H' b=some (.tup xs))(frzs:∀b o u,H b=some (.frz o u)->H' b=some (.frz o u))(tbls:∀b ps,H b=some (.tbl ps)->∃more,H' b=some (.tbl<|ps++more))
  (ns:∀m,s.heap.Ns X.env.locals m->h'.Ns X.env.locals m)(hok:fG X.prog X.w H' h')(hg:AllBare g'):
  aW X O σ H' { s with heap:=h',gens:=g',drawn:=d',toks:=t' }:=by
 have neL:∀b o,X.s₀.heap.get? b=some o->b≠X.env.locals:=λb o e=>YPC<|YO5 (YOs e) I.ok.above;have neC:∀b o,X.s₀.heap.get? b=some o->b∉X.ex->b∉ch:=λb o e U hb=>by
  rcases(nF b hb).1 with z|z
  exact U z;exact absurd (YO5 (YOs e) z)<|YPW _
 have cellK:∀x c,X.env.cells.lookup x=some c->∀v,s.heap.IsCell c v->h'.IsCell c v:=λx c e v ⟨o,ho,hd⟩=>by
  have nch:c∉ch:=λz=>(nF c z).2.2.1 x c e Z;by_cases hc:c∈X.fs;obtain⟨sl,q⟩:=slot c o (I.cne x c e) hc nch ho<|I.freeC x c e;exact⟨_,q,hd⟩;exact⟨o,keep c o (I.cne x c e) hc nch ho<|I.freeC x c e,hd⟩
 refine⟨I.ok,I.os,hg,⟨λb o e n hb U=>?_,λb o e n hb U=>?_,λb o e n U=>?_,λb o e U=>?_,λb xs e=>tups b xs<|I.base.tups b xs e,λb o xs e=>frzs b o xs<|I.base.frzs b o xs e,λb ps e=>?_⟩,?_,λx c e=>?_,?_,λx c e=>?_,λp hp=>?_,hok,I.len⟩;exact keep b o (neL b o e) hb (neC b o e U) (I.base.keep b o e n hb U)<|I.base.free b o e n U;obtain⟨sl,R⟩:=I.base.slot b o e n hb U;obtain⟨ql,e2⟩:=slot b _ (neL b o e) hb (neC b o e U) R<|I.base.free b o e n U;exact⟨ql,e2⟩;obtain⟨o',R⟩:=I.base.there b o e U;exact free b o' (neC b o e U) R<|I.base.free b o e n U;obtain⟨o',R⟩:=I.base.there b o e U;exact there b o' (neC b o e U) R;obtain⟨m1,R⟩:=I.base.tbls b ps e;obtain⟨m2,e2⟩:=tbls b _ R;exact⟨m1++m2,by rw[e2,Array.append_assoc]⟩;obtain⟨m,hn,hl⟩:=I.loc;refine⟨m,ns m hn,λi x v R e2 e3=>?_⟩;obtain⟨u,r,l⟩:=hl i x v R e2 e3;refine⟨u,r,?_⟩;rcases l with l|⟨k,c,e,z⟩
 exact .inl l;exact .inr ⟨k,c,e,cellK x c e _ z⟩;obtain⟨v,z⟩:=I.cell x c e;exact⟨v,cellK x c e v z⟩;obtain⟨m,⟨o,_,_,ho,_⟩,_⟩:=I.loc;exact free _ o (λz=>(nF _ z).2.1 rfl) ho I.free;obtain⟨v,o,ho,hd⟩:=I.cell x c e;exact free c o (λz=>(nF c z).2.2.1 x c e Z) ho<|I.freeC x c e;obtain⟨e,n,ne,nf,d⟩:=I.pin p hp;have nch:p.1∉ch:=λz=>(nF p.1 z).2.2.2 p hp Z;exact⟨keep p.1 p.2 ne nf nch e n,free p.1 p.2 nch e n,ne,nf,d⟩
theorem aW.un{t':Nat}(I:aW X O σ H s)(u:Un X.fs [] H H' s.heap h')(hok:fG X.prog X.w H' h'):aW X O σ H' { s with heap:=h',toks:=t' }:=by
 obtain⟨m,⟨o,es,ep,ho,r⟩,_⟩:=id I.loc;obtain⟨sl,hL⟩:=u.any ho I.free (by simp);exact I.step (g':=s.gens) (d':=s.drawn) (ch:=[]) (λ_ z=>nomatch z) (λb o _ hb _ e n=>u.keep b o e n hb (by simp)) (λb o _ hb _ e n=>u.slot b o e n hb (by simp)) (λb o _ e n=>u.free b o e n (by simp)) (λb o _ e=>u.there b o e (by simp)) u.tups u.frzs u.tbls (λm' hm=>by
  obtain⟨o',es',ep',ho',r'⟩:=hm;rw[ho]at ho';cases ho';exact⟨_,es',ep',hL,r'⟩) hok I.bare
theorem aW.call{g':Array GenState}{t':Nat}{d':Drawn}{ch:J al}(I:aW X O σ H s)(u:Un (fE X.stack) ch H H' s.heap h')(hok:fG X.prog X.w H' h')(hg:AllBare g')
  (nF:∀b∈ch,(b∈X.ex\/X.s₀.heap.objs.size<=b)/\b≠X.env.locals/\(∀x c,X.env.cells.lookup x=some c->c≠b)/\∀p∈X.pn++O,p.1≠b):
  aW X O σ H' { s with heap:=h',gens:=g',drawn:=d',toks:=t' }:=by
 obtain⟨m,⟨o,es,ep,ho,r⟩,_⟩:=id I.loc;obtain⟨sl,hL⟩:=u.any ho I.free λz=>(nF _ z).2.1 rfl;exact I.step (ch:=ch) nF (λb o hL hb hc e n=>u.keep b o e n (λz=>(YOj.mp<|I.stkSub b z).elim hL hb) hc) (λb o _ _ hc e n=>u.any e n hc) (λb o hc e n=>u.free b o e n hc) (λb o hc e=>u.there b o e hc) u.tups u.frzs u.tbls (λm' hm=>by
  obtain⟨o',es',ep',ho',r'⟩:=hm;rw[ho]at ho';cases ho';exact⟨_,es',ep',hL,r'⟩) hok hg
theorem aW.turned{t':Nat}{it:al}(I:aW X O σ H s)(k:∀b o,b≠it->s.heap.get? b=some o->h'.get? b=some o)(hn:H it=none)(hL:it≠X.env.locals)
  (h1:it∈X.ex\/X.s₀.heap.objs.size<=it)(h2:∀x c,X.env.cells.lookup x=some c->c≠it)(h3:∀p∈X.pn++O,p.1≠it):aW X O σ H { s with heap:=h',toks:=t' }:=by
 have nit:∀b u,H b=some u->b≠it:=λb u e z=>by rw[z,hn]at e;cases e
 refine I.step (g':=s.gens) (d':=s.drawn) (ch:=[it]) (λb hb=>?_) (λb o _ _ hc e _=>k b o (λz=>hc (by simp[z])) e) (λb o _ _ hc e _=>⟨o.slots,k b o (λz=>hc (by simp[z])) e⟩) (λ_ _ _ _ n=>n)
  (λb o hc e=>⟨o,k b o (λz=>hc (by simp[z])) e⟩) (λ_ _ e=>e) (λ_ _ _ e=>e) (λb ps e=>⟨#[],by rw[e];simp⟩) (λm hm=>?_) (λb u e=>?_) I.bare
 have e:b=it:=by simpa using hb
 subst e;exact⟨h1,hL,h2,h3⟩;obtain⟨o,es,ep,ho,r⟩:=hm;exact⟨o,es,ep,k _ o (Ne.symm hL) ho,r⟩;refine(I.hok b u e).stay (λc v hc q=>k c v ?_ q) (λ_ q=>q) λ_ _ q=>q;rcases hc with z|z
 rw[z];exact nit b u e;exact nit c _ z
theorem aW.tok(I:aW X O σ H s)(t:Nat):aW X O σ H { s with toks:=t }:=I.un (h':=s.heap) (t':=t) Un.refl I.hok
theorem aW.kept(I:aW X O σ H s)(k:∀b u,s.heap.get? b=some u->h'.get? b=some u):aW X O σ H { s with heap:=h',toks:=t' }:=I.un (Un.kept k)<|I.hok.kept k
theorem aW.laid(I:aW X O σ H s)(k:∀b u,s.heap.get? b=some u->h'.get? b=some u)(hp:s.heap.objs.size<=a)(new:Y7 X.prog X.w (upd H a o) h' a o):
  aW X O σ (upd H a o) { s with heap:=h',toks:=t' }:=I.un (Un.laid k hp<|I.hok.fresh hp)<|I.hok.laid k hp new
theorem aW.write(I:aW X O σ H s)(mu:C1<|H x)(he:e=x\/H e=some (.own x))(k:∀b u,b≠e->s.heap.get? b=some u->h'.get? b=some u)(tH:∃u,h'.get? e=some u)
  (new:Y7 X.prog X.w (upd H x o) h' x o):aW X O σ (upd H x o) { s with heap:=h',toks:=t' }:=I.un (Un.write mu he k tH)<|I.hok.write mu he k tH new
theorem aW.pins_of(I:aW X O σ H s)(h:∀p∈ux,s.heap.get? p.1=some p.2/\H p.1=none/\p.1≠X.env.locals/\p.1∉X.fs/\∀v,p.2.data≠.cell v):aW X ux σ H s:=
 ⟨I.ok,I.os,I.bare,I.base,I.loc,I.cell,I.free,I.freeC,λp hp=>(YOf.mp hp).elim (λz=>I.pin p<|YOg _ z)<|h p,I.hok,I.len⟩
theorem YIA{N:J av}(hN:N.Nodup){i j:Nat}{x:av}(a:N[i]?=some x)(b:N[j]?=some x):i=j:=by
 obtain⟨h1,R⟩:=YOX.mp a;obtain⟨h2,e2⟩:=YOX.mp b;exact(List.getElem_inj hN).mp<|R.trans e2.symm
theorem YLo{M:Model}{A:Around}{E:ai->ar->Prop}{i:Nat}{x:av}{v:V}{u:ai}{Q:Unit->ar->Prop}(I:aW X O σ H s)(hN:X.N.Nodup)(hi:X.N[i]?=some x)(U:r_ X.env.scope x)(r:Yx v u)
  (h:∀s',aW X O (σ.set i<|some v) H s'->(∃a,Heap.SameBut a s.heap s'.heap/\(a=X.env.locals\/X.env.cells.lookup x=some a))->Q () s')(hf:X.fn x=true\/X.env.scope.names.lookup x=some .local:=by first|exact .inl rfl|exact .inr rfl|assumption):wpAny M A (storeName X.env x u) Q E s:=by
 obtain⟨m,hn,hl⟩:=id I.loc;have ym:(X.env.scope.kind==.class || (X.env.scope.kind==.module&&X.env.locals !=X.env.globals))=false:=by rw[I.ok.kind];rfl
 have hiσ:i<σ.length:=by rw[I.len];exact(YOX.mp hi).1
 have cne:=I.cne;have tracked:∀{a:al}{h':Heap},(∃o,s.heap.get? a=some o/\H a=none)->Heap.SameBut a s.heap h'->fG X.prog X.w H h':=λ{a h'} ha hs b ob e=>by
  obtain⟨_,_,hfree⟩:=ha;refine(I.hok b ob e).stay (λc w' hc q=>(hs.2 c ?_).trans q) (λ_ q=>q) λ_ _ q=>q;rintro rfl;rcases hc with rfl|hc
  rw[hfree]at e;cases e;rw[hfree]at hc;cases hc
 rcases U with hk|hk
 refine wpAny_storeName_local hk hn (λh' hn' hs=>?_) ym;obtain⟨oL,_,_,hoL,_⟩:=id hn;refine h _ ⟨I.ok,I.os,I.bare,⟨λb o e n hb U=>?_,λb o e n hb U=>?_,I.base.free,λb o e U=>?_,I.base.tups,I.base.frzs,I.base.tbls⟩,⟨_,hn',λj y v' R e2 e3=>?_⟩,λy c e=>?_,I.free,I.freeC,λp hp=>?_,tracked ⟨oL,hoL,I.free⟩ hs,by simpa using I.len⟩ ⟨_,hs,.inl Z⟩;exact(hs.2 b<|YPC<|YO5 (YOs e) I.ok.above).trans<|I.base.keep b o e n hb U;obtain⟨sl,R⟩:=I.base.slot b o e n hb U;exact⟨sl,(hs.2 b<|YPC<|YO5 (YOs e) I.ok.above).trans R⟩;obtain⟨o',R⟩:=I.base.there b o e U;exact⟨o',(hs.2 b<|YPC<|YO5 (YOs e) I.ok.above).trans R⟩;by_cases hj:j=i;subst hj;rw[hi]at R;cases R;rw[YPx hiσ]at e2;cases e2;exact⟨u,r,.inl ⟨hk,by simp⟩⟩;rw[YP5<|Ne.symm hj]at e2;obtain⟨u',r',q⟩:=hl j y v' R e2 e3;refine⟨u',r',?_⟩;rcases q with ⟨k,e⟩|⟨k,c,e,z⟩
 refine .inl ⟨k,?_⟩;have:y≠x:=λe=>hj<|YIA hN R<|e ▸ hi;simp[this,e];exact .inr ⟨k,c,e,z.sameBut hs<|cne y c e⟩;obtain⟨w',z⟩:=I.cell y c e;exact⟨w',z.sameBut hs<|cne y c e⟩;obtain⟨e,n,ne,nf,d⟩:=I.pin p hp;exact⟨(hs.2 p.1 ne).trans e,n,ne,nf,d⟩;have hfn:X.fn x=true:=by
  rcases hf with z|z
  exact z;rw[z]at hk;cases hk
 obtain⟨c,hc⟩:=I.ok.has x<|.inl hk;obtain⟨w',z⟩:=I.cell x c hc;refine wpAny_storeName_cell I.ok.kind hk hc z<|λh' hc' hs=>?_;obtain⟨oc,zZ,wH⟩:=id z;refine h { s with heap:=h' } ⟨I.ok,I.os,I.bare,⟨λb o e n hb U=>?_,λb o e n hb U=>?_,I.base.free,λb o e U=>?_,I.base.tups,I.base.frzs,I.base.tbls⟩,⟨m,hn.sameBut hs<|Ne.symm<|cne x c hc,λj y v' R e2 e3=>?_⟩,λy c' e=>?_,I.free,I.freeC,λp hp=>?_,tracked ⟨oc,zZ,I.freeC x c hc⟩ hs,by simpa using I.len⟩ ⟨c,hs,.inr hc⟩;exact(hs.2 b<|YPC<|YO5 (YOs e)<|I.ok.cab x c hfn hc).trans<|I.base.keep b o e n hb U;obtain⟨sl,R⟩:=I.base.slot b o e n hb U;exact⟨sl,(hs.2 b<|YPC<|YO5 (YOs e)<|I.ok.cab x c hfn hc).trans R⟩;obtain⟨o',R⟩:=I.base.there b o e U;exact⟨o',(hs.2 b<|YPC<|YO5 (YOs e)<|I.ok.cab x c hfn hc).trans R⟩;by_cases hj:j=i;subst hj;rw[hi]at R;cases R;rw[YPx hiσ]at e2;cases e2;exact⟨u,r,.inr ⟨.inl hk,c,hc,hc'⟩⟩;rw[YP5<|Ne.symm hj]at e2;obtain⟨u',r',q⟩:=hl j y v' R e2 e3;refine⟨u',r',?_⟩;rcases q with q|⟨k,c',e,z'⟩
 exact .inl q;refine .inr ⟨k,c',e,z'.sameBut hs ?_⟩;rintro rfl;exact hj<|YIA hN R<|I.ok.inj _ _ _ e hc ▸ hi;by_cases hcc:c'=c;subst hcc;exact⟨_,hc'⟩;obtain⟨w2,z2⟩:=I.cell y c' e;exact⟨w2,z2.sameBut hs hcc⟩;obtain⟨e,n,ne,nf,d⟩:=I.pin p hp;refine⟨(hs.2 p.1 ?_).trans e,n,ne,nf,d⟩;intro q;rw[q,zZ]at e;have q':oc=p.2:=YO3 e;exact d w' (by rw[<-q'];exact wH)
theorem YCn{E:ai->ar->Prop}{Q:Unit->ar->Prop}(I:aW X O σ H s)(hN:X.N.Nodup)(hi:X.N[i]?=some x)(U:r_ X.env.scope x)(r:Yx v u)
  (h:∀s',aW X O (σ.set i<|some v) H s'->Q () s')(hf:X.fn x=true\/X.env.scope.names.lookup x=some .local:=by first|exact .inl rfl|exact .inr rfl|assumption):wpAny M A (storeName X.env x u) Q E s:=
 YLo I hN hi U r (λs' I' _=>h s' I') hf
theorem aW.call'(I:aW X O σ H s)(ho:s'.os=s.os)(u:Un (fE X.stack) ch H H' s.heap s'.heap)(hok:fG X.prog X.w H' s'.heap)(hg:AllBare s'.gens)
  (nF:∀b∈ch,(b∈X.ex\/X.s₀.heap.objs.size<=b)/\b≠X.env.locals/\(∀x c,X.env.cells.lookup x=some c->c≠b)/\∀p∈X.pn++O,p.1≠b):aW X O σ H' s':=by
 obtain⟨h',g',d',t',o'⟩:=s';have e:o'=s.os:=ho;subst e;exact I.call (g':=g') (t':=t') (d':=d') u hok hg nF
end
abbrev XK:=ai->ah al->L->Prop
abbrev St:=J<|ah V
abbrev VK:=V->L->Prop
abbrev TE:=St->L->VK->Prop
abbrev TT:=St->L->(Bool->L->Prop)->Prop
abbrev TA:=St->L->(J V->L->Prop)->Prop
structure Ja where
 nx:St->L->Prop
 rt:VK
 bk:St->L->Prop:=λ_ _=>False
 ct:St->L->Prop:=λ_ _=>False
abbrev TS:=Ja->St->L->Prop
def EP(X:Cx)(O:J<|al×Obj)(σ:St)(Q:VK)(u:ai)(s':ar):Prop:=∃v H',aW X O σ H' s'/\Yx v u/\Q v H'
def TP(X:Cx)(O:J<|al×Obj)(σ:St)(Q:Bool->L->Prop)(b:Bool)(s':ar):Prop:=∃H',aW X O σ H' s'/\Q b H'
def AP(X:Cx)(O:J<|al×Obj)(σ:St)(Q:J V->L->Prop)(us:J ai)(s':ar):Prop:=∃vs H',aW X O σ H' s'/\Yt vs us/\Q vs H'
def SP(X:Cx)(O:J<|al×Obj)(D:Ja)(f:Flow)(s':ar):Prop:=
 match f with
 |.next=>∃σ' H',aW X O σ' H' s'/\D.nx σ' H'
 |.brk=>∃σ' H',aW X O σ' H' s'/\D.bk σ' H'
 |.cont=>∃σ' H',aW X O σ' H' s'/\D.ct σ' H'
 |.ret u=>∃v σ' H',aW X O σ' H' s'/\Yx v u/\D.rt v H'
def PE(X:Cx)(e:Expr)(t:TE):Prop:=
 ∀(O:J<|al×Obj) (s:ar) (σ:St) (H:L) (Q:VK),aW X O σ H s->t σ H Q->wpAny (model X.prog X.w) X.A (eval e X.env) (EP X O σ Q) X.xe s
def PT(X:Cx)(e:Expr)(t:TT):Prop:=
 ∀(O:J<|al×Obj) (s:ar) (σ:St) (H:L) (Q:Bool->L->Prop),aW X O σ H s->t σ H Q->wpAny (model X.prog X.w) X.A (isTrue e X.env<|eval e X.env) (TP X O σ Q) X.xe s
def PW(X:Cx)(e:Expr)(t:TT):Prop:=
 ∀(whole:Sem ai) (O:J<|al×Obj) (s:ar) (σ:St) (H:L) (Q:Bool->L->Prop),aW X O σ H s->t σ H Q->wpAny (model X.prog X.w) X.A (isTrue e X.env whole) (TP X O σ Q) X.xe s
theorem PW.pt(h:PW X e t):PT X e t:=h _
def PA(X:Cx)(es:J Expr)(t:TA):Prop:=
 ∀(pos:Pos) (O:J<|al×Obj) (s:ar) (σ:St) (H:L) (Q:J V->L->Prop),aW X O σ H s->t σ H Q->wpAny (model X.prog X.w) X.A (spliced<|backTo pos<|starEach es X.env) (AP X O σ Q) X.xe s
def PS(X:Cx)(st:Stmt)(t:TS):Prop:=
 ∀(O:J<|al×Obj) (s:ar) (σ:St) (H:L) (D:Ja),aW X O σ H s->t D σ H->wpAny (model X.prog X.w) X.A (exec st X.env) (SP X O D) X.xe s
def gS(X:Cx)(st:J Stmt)(t:TS):Prop:=
 ∀(O:J<|al×Obj) (s:ar) (σ:St) (H:L) (D:Ja),aW X O σ H s->t D σ H->wpAny (model X.prog X.w) X.A (execs st X.env) (SP X O D) X.xe s
theorem cJ{α:Type}{t:Sem α}{Q Q':α->ar->Prop}{M:Model}{A:Around}{E:ai->ar->Prop}{s:ar}(h:wpAny M A t Q E s)(hQ:∀a s,Q a s->Q' a s):wpAny M A t Q' E s:=wpAny_mono h hQ λ_ _ x=>x
section
variable {X:Cx}
inductive tq(i:Nat)(σ:St)(H:L)(Q:VK):Prop
 |mk (v:_):σ[i]?=some (some v)->Q v H->tq i σ H Q
def ml(i:Nat):TE:=λσ H Q=>tq i σ H Q
def tC(v:V):TE:=λ_ H Q=>Q v H
theorem xc(hN:X.N[i]?=some x)(hv:B0 X.env.scope x)(hd:(x==("__debug__":av))=false:=by decide)(hcd:(x==("__classdict__":av))=false:=by decide):PE X (.Name x pos)<|ml i:=by
 intro O s σ H Q I h;obtain⟨v,e,h⟩:=h;obtain⟨m,hn,hl⟩:=I.loc;obtain⟨u,r,l⟩:=hl i x v hN e hv;have fin:EP X O σ Q u s:=⟨v,H,I,r,h⟩;rcases l with ⟨hk,hm⟩|⟨hk,c,hc,gn⟩
 exact wpAny_Name (wpAny_loadName_local I.ok.kind hk hn hm fin) hd;rcases hk with hk|hk
 exact wpAny_Name (wpAny_loadName_cell I.ok.kind hk hc gn fin) hd;exact wpAny_Name (wpAny_loadName_free I.ok.kind hk hc gn fin hcd) hd
theorem YC{i j pos}:PE X (.Constant (.int i) j pos)<|tC<|.int i:=λ_ _ _ H _ I h=>wpAny_Constant_int ⟨.int i,H,I.tok _,⟨_,Z⟩,h⟩
theorem Jq{b j pos}:PE X (.Constant (.bool b) j pos)<|tC<|.bl b:=λ_ _ _ H _ I h=>Constant_bool ⟨.bl b,H,I,Z,h⟩
theorem Z0{j pos}:PE X (.Constant .none j pos)<|tC .non:=λ_ _ _ H _ I h=>Constant_none ⟨.non,H,I,Z,h⟩
theorem Zf{x j pos}:PE X (.Constant (.str x) j pos)<|tC<|.str x:=λ_ _ _ H _ I h=>Calls.Constant_str ⟨.str x,H,I.tok _,⟨_,Z⟩,h⟩
def Gl(X:Cx)(x:av):Prop:=X.env.kindOf x=some .globalImplicit
theorem zn{E Q:ai->ar->Prop}(I:aW X O σ H s)(hg:Gl X x)(hm:X.mg x=some u)(h:Q u s)
  (hd:(x==("__debug__":av))=false:=by decide):wpAny (model X.prog X.w) X.A (eval (.Name x pos) X.env) Q E s:=
 Calls.Name_function_global I.ok.kind hg (Calls.loadGlobal_global (by rw[I.ok.glob];exact I.mod.glob.keeps I.bk) hm h) hd
theorem vF{E Q:ai->ar->Prop}(I:aW X O σ H s)(hg:Gl X x)(hm:X.mg x=none)(hv:bootBuiltins x=some u)(h:Q u s)
  (hn:x≠"__name__":=by decide)(hd:(x==("__debug__":av))=false:=by decide):wpAny (model X.prog X.w) X.A (eval (.Name x pos) X.env) Q E s:=by
 obtain⟨mb,h1,h2⟩:=I.mod.blt;exact Calls.Name_function_global I.ok.kind hg (Calls.loadGlobal_builtin (by rw[I.ok.glob];exact I.mod.glob.keeps I.bk) hm (by rw[I.ok.blt];exact h1.keeps I.bk) ((h2 x hn).trans hv) h) hd
theorem vb(hg:Gl X x)(hm:X.mg x=some u)(r:Yx v u)(hd:(x==("__debug__":av))=false:=by decide):PE X (.Name x pos)<|tC v:=
 λ_ _ _ H _ I h=>zn I hg hm ⟨v,H,I,r,h⟩ hd
theorem Jv(hg:Gl X x)(hm:X.mg x=none)(hv:bootBuiltins x=some u)(r:Yx v u)(hn:x≠"__name__":=by decide)(hd:(x==("__debug__":av))=false:=by decide):PE X (.Name x pos)<|tC v:=
 λ_ _ _ H _ I h=>vF I hg hm hv ⟨v,H,I,r,h⟩ hn hd
variable {a b:Expr}{ta tb:TE}{pos:Pos}
def PC(X:Cx)(op:CmpOp)(a b:Expr)(t:TE):Prop:=
 ∀(O:J<|al×Obj) (s:ar) (σ:St) (H:L) (Q:VK),aW X O σ H s->t σ H Q->
  wpAny (model X.prog X.w) X.A (eval a X.env) (λv s₁=>wpAny (model X.prog X.w) X.A (eval b X.env) (λu s₂=>wpAny (model X.prog X.w) X.A (compareOp op v u) (EP X O σ Q) X.xe s₂) X.xe s₁) X.xe s
inductive tB_(Q:Bool->L->Prop)(x:V)(H1:L):Prop
 |mk (c:_):x=.bl c->Q c H1->tB_ Q x H1
def tB(t:TE):TT:=λσ H Q=>t σ H λx H1=>tB_ Q x H1
theorem Jw{op:CmpOp}{t:TE}(h:PC X op a b t)(h1:behindInMarks op b=false:=by first|exact nobehind _ (by decide) (by decide)|rfl):PT X (.Compare a [op] [b] pos)<|tB t:=by
 intro O s σ H Q I hw;refine wpAny_isTrue_Compare1 (cJ (h O s σ H _ I hw) λv s1 h1=>cJ h1 λu s2 h2=>cJ h2 λc s3 ⟨x,H1,I1,r1,q1⟩=>?_) h1;obtain⟨d,rfl,q⟩:=q1;cases r1;exact wpAny_truthy_bool ⟨H1,I1,q⟩
theorem JI{e:Expr}{t:TE}(h:PE X e t)(he:∀whole,isTrue e X.env whole=(do let v <-whole;standAt e.pos;holding [v]<|truthy v):=by intro _;rfl):PT X e<|tB t:=by
 intro O s σ H Q I hw;refine isTrue_plain (cJ (h O s σ H _ I hw) λv s1 ⟨x,H1,I1,r1,q1⟩=>?_)<|he _;obtain⟨d,rfl,q⟩:=q1;cases r1;exact wpAny_truthy_bool ⟨H1,I1,q⟩
variable {tA tB':TT}{Y1:J Expr}
def Ci(t u:TT):TT:=λσ H Q=>t σ H λc H1=>if c=true then u σ H1 Q else Q false H1
def tOr(t u:TT):TT:=λσ H Q=>t σ H λc H1=>if c=true then Q true H1 else u σ H1 Q
def tNot(t:TT):TT:=λσ H Q=>t σ H λc H1=>Q (!c) H1
theorem sw(ha:PT X a tA):PW X (.BoolOp .And [a] pos) tA:=by
 intro wh O s σ H Q I h;refine isTrue_and<|cJ (ha O s σ H Q I h) λc s1 e=>?_;cases c with
 |true=>exact isTrue_and_nil e
 |false=>exact e
theorem AQ(ha:PT X a tA):PW X (.BoolOp .Or [a] pos) tA:=by
 intro wh O s σ H Q I h;refine isTrue_or<|cJ (ha O s σ H Q I h) λc s1 e=>?_;cases c with
 |false=>exact isTrue_or_nil e
 |true=>exact e
theorem ng(ha:PT X a tA)(hb:PW X (.BoolOp .And (b::Y1) pos) tB'):PW X (.BoolOp .And (a::b::Y1) pos)<|Ci tA tB':=by
 intro wh O s σ H Q I h;refine isTrue_and<|cJ (ha O s σ H _ I h) λc s1 ⟨H1,I1,q1⟩=>?_;cases c with
 |true=>exact hb wh O s1 σ H1 Q I1 q1
 |false=>exact⟨H1,I1,q1⟩
theorem xt(ha:PT X a tA)(hb:PW X (.BoolOp .Or (b::Y1) pos) tB'):PW X (.BoolOp .Or (a::b::Y1) pos)<|tOr tA tB':=by
 intro wh O s σ H Q I h;refine isTrue_or<|cJ (ha O s σ H _ I h) λc s1 ⟨H1,I1,q1⟩=>?_;cases c with
 |true=>exact⟨H1,I1,q1⟩
 |false=>exact hb wh O s1 σ H1 Q I1 q1
theorem JW(ha:PT X a tA):PT X (.UnaryOp .Not a pos)<|tNot tA:=by
 intro O s σ H Q I h;exact isTrue_not<|ha O s σ H (λc H1=>Q (!c) H1) I h
def Ct(ta tb:TE):TE:=λσ H Q=>ta σ H λx H1=>∃c,x=.bl c/\if c=true then tb σ H1 Q else Q (.bl false) H1
def tOrV(ta tb:TE):TE:=λσ H Q=>ta σ H λx H1=>∃c,x=.bl c/\if c=true then Q (.bl true) H1 else tb σ H1 Q
def B9(ta:TE):TE:=λσ H Q=>ta σ H λx H1=>∃c,x=.bl c/\Q (.bl<|!c) H1
theorem Xw{op}(h:PE X a t):PE X (.BoolOp op [a] pos) t:=λO s σ H Q I hw=>BoolOp_one<|h O s σ H Q I hw
theorem XF(ha:PE X a ta)(hb:PE X (.BoolOp .And (b::Y1) pos) tb):PE X (.BoolOp .And (a::b::Y1) pos)<|Ct ta tb:=by
 intro O s σ H Q I h;refine BoolOp_and<|cJ (ha O s σ H _ I h) λv s1 ⟨x,H1,I1,r1,q1⟩=>?_;obtain⟨c,rfl,q1⟩:=q1;cases r1;refine wpAny_truthy_bool ?_;cases c with
 |true=>exact hb O s1 σ H1 Q I1 q1
 |false=>exact⟨.bl false,H1,I1,Z,q1⟩
theorem CY(ha:PE X a ta)(hb:PE X (.BoolOp .Or (b::Y1) pos) tb):PE X (.BoolOp .Or (a::b::Y1) pos)<|tOrV ta tb:=by
 intro O s σ H Q I h;refine BoolOp_or<|cJ (ha O s σ H _ I h) λv s1 ⟨x,H1,I1,r1,q1⟩=>?_;obtain⟨c,rfl,q1⟩:=q1;cases r1;refine wpAny_truthy_bool ?_;cases c with
 |false=>exact hb O s1 σ H1 Q I1 q1
 |true=>exact⟨.bl true,H1,I1,Z,q1⟩
theorem YMZ(ha:PE X a ta):PE X (.UnaryOp .Not a pos)<|B9 ta:=by
 intro O s σ H Q I h;refine UnaryOp_<|cJ (ha O s σ H _ I h) λv s1 ⟨x,H1,I1,r1,q1⟩=>?_;obtain⟨c,rfl,q1⟩:=q1;cases r1;exact not_of<|wpAny_truthy_bool ⟨.bl<|!c,H1,I1,Z,q1⟩
def tIf(t:TT)(ta tb:TE):TE:=λσ H Q=>t σ H λc H1=>if c=true then ta σ H1 Q else tb σ H1 Q
theorem YEs{c:Expr}(hc:PT X c tA)(ha:PE X a ta)(hb:PE X b tb):PE X (.IfExp c a b pos)<|tIf tA ta tb:=by
 intro O s σ H Q I h;refine wpAny_IfExp<|cJ (hc O s σ H _ I h) λd s1 ⟨H1,I1,q1⟩=>?_;cases d with
 |true=>exact ha O s1 σ H1 Q I1 q1
 |false=>exact hb O s1 σ H1 Q I1 q1
end
def aX(K:W.Frag)(H:L)(a:al)(xs:J V):Prop:=
 Rd H a (.lst xs)\/
  ∃(o:Obj) (its:Array ai) (n:Nat),K.lookup a=some o/\o.cls=.type "list"/\o.dict=none/\o.data=.seq its n/\its.size<=sizeLine/\Yt xs its.toList
def cy(K:W.Frag)(H:L)(a:al)(xs:J V):Prop:=
 Rd H a (.tup xs)\/
  ∃(o:Obj) (its:Array ai) (n:Nat),K.lookup a=some o/\o.cls=.type "tuple"/\o.data=.seq its n/\its.size<=sizeLine/\Yt xs its.toList
def absV:ai->ah V
 |.none=>some .non
 |.bool b=>some<|.bl b
 |.int i _=>some<|.int i
 |.str x _=>some<|.str x
 |.bytes b _=>some<|.byt b
 |.float b _=>some<|.flt b
 |.ref a=>some<|.ref a
 |.type n=>some<|.ty n
 |_=>none
theorem Yx.abs(r:Yx x u):absV u=some x:=by
 cases x with
 |non=>cases r;rfl
 |bl _=>cases r;rfl
 |int _=>obtain⟨t,rfl⟩:=r;rfl
 |str _=>obtain⟨t,rfl⟩:=r;rfl
 |byt _=>obtain⟨t,rfl⟩:=r;rfl
 |flt _=>obtain⟨t,rfl⟩:=r;rfl
 |ref _=>cases r;rfl
 |ty _=>cases r;rfl
theorem Yx.inj(r:Yx x u)(q:Yx y u):x=y:=YO3<|r.abs.symm.trans q.abs
theorem Yt.inj:∀{xs ys:J V}{us:J ai},Yt xs us->Yt ys us->xs=ys
 |_,_,_,.nil,.nil=>rfl
 |_,_,_,.cons r t,.cons r' t'=>by rw[r.inj r',Yt.inj t t']
section
variable {X:Cx}{O:J (al×Obj)}{σ:St}{H:L}{s:ar}{a:al}{xs ys:J V}
theorem aX.of{K:W.Frag}(h:H a=some (.lst xs)):aX K H a xs:=.inl<|.inl h
theorem cy.of{K:W.Frag}(h:H a=some (.tup xs)):cy K H a xs:=.inl<|.inl h
theorem aW.list(I:aW X O σ H s)(h:aX X.K H a xs):∃its:J ai,Yt xs its/\PlainL s.heap a its.toArray/\xs.length<=sizeLine:=by
 rcases h with h|⟨o,its,n,hk,hc,hd,hs,hz,r⟩
 obtain⟨z,its,n,r,e⟩:=h.ok I.hok;exact⟨its,r,⟨_,n,e,Z,Z,Z⟩,z⟩;refine⟨its.toList,r,⟨o,n,I.kIn a o hk,hc,hd,by simpa using hs⟩,?_⟩;have e:=r.length;simp only[YPD]at e;lia
theorem aW.tuple(I:aW X O σ H s)(h:cy X.K H a xs):∃its:J ai,Yt xs its/\IsTup s.heap a its.toArray/\xs.length<=sizeLine:=by
 rcases h with h|⟨o,its,n,hk,hc,hs,hz,r⟩
 obtain⟨z,its,r,p⟩:=h.ok I.hok;exact⟨its,r,p,z⟩;refine⟨its.toList,r,⟨o,I.kIn a o hk,hc,n,by simpa using hs⟩,?_⟩;have e:=r.length;simp only[YPD]at e;lia
theorem aW.list_inj(I:aW X O σ H s)(h:aX X.K H a xs)(h':aX X.K H a ys):xs=ys:=by
 obtain⟨its,r,⟨o,n,e,_,_,d⟩,_⟩:=I.list h;obtain⟨its',r',⟨o',n',e',_,_,d'⟩,_⟩:=I.list h';rw[e]at e';cases e';rw[d]at d';injection d' with d1 _;have:its=its':=by simpa using fZ Array.toList d1
 subst this;exact r.inj r'
theorem aW.tuple_inj(I:aW X O σ H s)(h:cy X.K H a xs)(h':cy X.K H a ys):xs=ys:=by
 obtain⟨its,r,⟨o,e,_,n,d⟩,_⟩:=I.tuple h;obtain⟨its',r',⟨o',e',_,n',d'⟩,_⟩:=I.tuple h';rw[e]at e';cases e';rw[d]at d';injection d' with d1 _;have:its=its':=by simpa using fZ Array.toList d1
 subst this;exact r.inj r'
end
abbrev Cx.wish(X:Cx)(E:ai->ar->Prop):Cx:={ X with xe:=E }
abbrev Cx.nox(X:Cx):Cx:=X.wish λ_ _=>False
theorem Cx.Ok.wish{X:Cx}(ok:X.Ok)(E:ai->ar->Prop):(X.wish E).Ok:=
 ⟨ok.mod,ok.kind,ok.glob,ok.blt,ok.above,ok.inj,ok.has,ok.cab,ok.hd,ok.frames,ok.stk,ok.exf,ok.bs,ok.bsz,ok.noex,ok.exfs,ok.funs,ok.frf⟩
theorem Cx.Ok.unwish{X:Cx}{E:ai->ar->Prop}(ok:(X.wish E).Ok):X.Ok:=
 ⟨ok.mod,ok.kind,ok.glob,ok.blt,ok.above,ok.inj,ok.has,ok.cab,ok.hd,ok.frames,ok.stk,ok.exf,ok.bs,ok.bsz,ok.noex,ok.exfs,ok.funs,ok.frf⟩
section
variable {X:Cx}{O:J (al×Obj)}{σ:St}{H:L}{s:ar}{E:ai->ar->Prop}
theorem aW.wish(I:aW X O σ H s)(E:ai->ar->Prop):aW (X.wish E) O σ H s:=⟨I.ok.wish E,I.os,I.bare,I.base,I.loc,I.cell,I.free,I.freeC,I.pin,I.hok,I.len⟩
theorem aW.unwish(I:aW (X.wish E) O σ H s):aW X O σ H s:=⟨I.ok.unwish,I.os,I.bare,I.base,I.loc,I.cell,I.free,I.freeC,I.pin,I.hok,I.len⟩
theorem SP.unwish{D:Ja}(h:SP (X.wish E) O D f s'):SP X O D f s':=by
 cases f with
 |next=>obtain⟨σ',H',I,q⟩:=h;exact⟨σ',H',I.unwish,q⟩
 |brk=>obtain⟨σ',H',I,q⟩:=h;exact⟨σ',H',I.unwish,q⟩
 |cont=>obtain⟨σ',H',I,q⟩:=h;exact⟨σ',H',I.unwish,q⟩
 |ret u=>obtain⟨v,σ',H',I,r,q⟩:=h;exact⟨v,σ',H',I.unwish,r,q⟩
theorem gS.nox{st:J Stmt}{t:TS}(h:gS X.nox st t):gS X st t:=λO s σ H D I hw=>
 wpAny_mono (h O s σ H D (I.wish _) hw) (λ_ _ q=>q.unwish) λ_ _ z=>False.elim z
end
section
variable {X:Cx}{st:Stmt}{Y1:J Stmt}{t u:TS}{e:Expr}{te:TE}{pos:Pos}
def YKb:TS:=λD σ H=>D.nx σ H
def sP(t u:TS):TS:=λD σ H=>t { D with nx:=u D } σ H
theorem YR:gS X [] YKb:=λ_ _ σ H _ I h=>wpAny_execs_nil ⟨σ,H,I,h⟩
theorem YE(h1:PS X st t)(h2:gS X Y1 u):gS X (st::Y1)<|sP t u:=by
 intro O s σ H D I h;refine wpAny_execs_cons<|cJ (h1 O s σ H { D with nx:=u D } I h) λf s1 q=>?_;cases f with
 |next=>
  obtain⟨σ',H',I',q⟩:=q;exact h2 O s1 σ' H' D I' q
 |ret v=>exact q
 |brk=>exact q
 |cont=>exact q
theorem YD(h1:PS X st t):gS X [st] t:=by
 intro O s σ H D I h;refine wpAny_execs_cons<|cJ (h1 O s σ H D I h) λf s1 q=>?_;cases f with
 |next=>exact wpAny_execs_nil q
 |ret v=>exact q
 |brk=>exact q
 |cont=>exact q
def AE:TS:=λD σ H=>D.bk σ H
theorem YMa:PS X (.Break pos) AE:=λ_ _ σ H _ I h=>wpAny_Break ⟨σ,H,I,h⟩
theorem aW.quiet(I:aW X O σ H s):interactive X.env=false:=by simp[interactive,I.ok.kind]
def l9(te:TE):TS:=λD σ H=>te σ H λ_ H1=>D.nx σ H1
theorem Ya(he:PE X e te)(hs:swapsWith e none pos.line X.env=pure false:=by rfl):PS X (.Expr e pos)<|l9 te:=by
 intro O s σ H D I h;exact wpAny_Expr_any (cJ (he O s σ H _ I h) λv s1 ⟨x,H1,I1,r1,q1⟩=>⟨σ,H1,I1,q1⟩) I.quiet hs
def tRet(te:TE):TS:=λD σ H=>te σ H D.rt
theorem YM(he:PE X e te):PS X (.Return (some e) pos)<|tRet te:=by
 intro O s σ H D I h;exact wpAny_Return_some<|cJ (he O s σ H _ I h) λv s1 ⟨x,H1,I1,r1,q1⟩=>⟨x,σ,H1,I1,r1,q1⟩
def BH:TS:=λD _ H=>D.rt .non H
theorem YHJ:PS X (.Return none pos) BH:=λ_ _ σ H _ I h=>wpAny_Return_none ⟨.non,σ,H,I,Z,h⟩
def md(c:TT)(t u:TS):TS:=λD σ H=>c σ H λb H1=>if b=true then t D σ H1 else u D σ H1
theorem Yj{c:Expr}{a b:J Stmt}{tc:TT}(hc:PT X c tc)(ha:gS X a t)(hb:gS X b u):PS X (.If c a b pos)<|md tc t u:=by
 intro O s σ H D I h;refine wpAny_If<|cJ (hc O s σ H _ I h) λd s1 ⟨H1,I1,q1⟩=>?_;cases d with
 |true=>exact ha O s1 σ H1 D I1 q1
 |false=>exact hb O s1 σ H1 D I1 q1
end
abbrev TG:=V->St->L->(St->L->Prop)->Prop
abbrev vv:=J V->St->L->(St->L->Prop)->Prop
def PG(X:Cx)(target:Expr)(t:TG):Prop:=
 ∀(O:J<|al×Obj) (s:ar) (σ:St) (H:L) (v:V) (u:ai) (Q:St->L->Prop),aW X O σ H s->Yx v u->t v σ H Q->
  wpAny (model X.prog X.w) X.A (assign target X.env u) (λ_ s'=>∃σ' H',aW X O σ' H' s'/\Q σ' H') X.xe s
def Ca(X:Cx)(ts:J Expr)(t:vv):Prop:=
 ∀(O:J<|al×Obj) (s:ar) (σ:St) (H:L) (vs:J V) (us:J ai) (Q:St->L->Prop),aW X O σ H s->Yt vs us->t vs σ H Q->
  wpAny (model X.prog X.w) X.A (assignInOrder ((assignEach ts X.env).map (·.2)) us) (λ_ s'=>∃σ' H',aW X O σ' H' s'/\Q σ' H') X.xe s
abbrev TIp:=V->V->L->VK->Prop
def PIp(X:Cx)(op:Operator)(t:TIp):Prop:=
 ∀(O:J<|al×Obj) (s:ar) (σ:St) (H:L) (x y:V) (v u:ai) (Q:VK),aW X O σ H s->Yx x v->Yx y u->t x y H Q->
  wpAny (model X.prog X.w) X.A (inplaceOp op v u) (EP X O σ Q) X.xe s
section
variable {X:Cx}{pos:Pos}
def Yh(i:Nat):TG:=λv σ H Q=>Q (σ.set i<|some v) H
theorem Z8(hN:X.N.Nodup)(hi:X.N[i]?=some x)(U:r_ X.env.scope x)(hf:X.fn x=true\/X.env.scope.names.lookup x=some .local:=by first|exact .inl rfl|exact .inr rfl|assumption):PG X (.Name x pos)<|Yh i:=by
 intro O s σ H v u Q I r h;exact wpAny_assign_Name<|YCn I hN hi U r (λs' I'=>⟨_,H,I',h⟩) hf
inductive vj(vs:List V)(σ:St)(H:L)(Q:St->L->Prop):Prop
 |mk:vs=[]->Q σ H->vj vs σ H Q
def gNil:vv:=λvs σ H Q=>vj vs σ H Q
inductive YMb(t:TG)(u:vv)(vs:List V)(σ:St)(H:L)(Q:St->L->Prop):Prop
 |mk (v:_)(r:_):vs=v::r->(t v σ H λσ' H'=>u r σ' H' Q)->YMb t u vs σ H Q
def Dg(t:TG)(u:vv):vv:=λvs σ H Q=>YMb t u vs σ H Q
theorem A7:Ca X [] gNil:=by
 intro O s σ H vs us Q I r h;obtain⟨e,h⟩:=h;subst e;cases r;exact assignInOrder_nil ⟨σ,H,I,h⟩
theorem JN{e:Expr}{es:J Expr}{t:TG}{u:vv}(h1:PG X e t)(h2:Ca X es u)
  (hs:(assignEach (e::es) X.env).map (·.2)=assign e X.env::(assignEach es X.env).map (·.2):=by rfl):Ca X (e::es)<|Dg t u:=by
 intro O s σ H vs us Q I r h;obtain⟨v,vr,R,h⟩:=h;subst R;cases r with
 |cons r rr=>
  rw[hs];refine assignInOrder_cons<|cJ (h1 O s σ H _ _ _ I r h) λ_ s1 ⟨σ1,H1,I1,q1⟩=>?_;exact h2 O s1 σ1 H1 _ _ Q I1 rr q1
inductive vw(K:W.Frag)(n:Nat)(t:vv)(v:V)(σ:St)(H:L)(Q:St->L->Prop):Prop
 |mk (a:_)(xs:_):v=.ref a->cy K H a xs->xs.length=n->t xs σ H Q->vw K n t v σ H Q
def Da(K:W.Frag)(n:Nat)(t:vv):TG:=λv σ H Q=>vw K n t v σ H Q
theorem xA(hc:X.calm=true)(h:Ca X es t)
  (hn:(assignEach es X.env).length=n:=by rfl)(hst:(assignEach es X.env).findIdx? (·.1)=none:=by rfl):PG X (.Tuple es k pos)<|Da X.K n t:=by
 intro O s σ H v u Q I r hw;obtain⟨a,xs,R,hq,hl,hw⟩:=hw;subst R;cases r;obtain⟨its,rv,ht,hz⟩:=I.tuple hq;refine assign_Tuple_tuple (I.ok.hd hc) ht (by simp[hn,<-hl,rv.length]) hst λh' U=>?_;have I1:aW X O σ H { s with heap:=h' }:=I.kept (t':=s.toks) λb o e=>U b o (YPC<|YOs e) e;exact h O _ σ H xs _ Q I1 (by simpa using rv) hw
def pV(te:TE)(g:TG):TS:=λD σ H=>te σ H λx H1=>g x σ H1 D.nx
theorem YMc{i:Nat}{x:av}{e:Expr}{te:TE}{gq:Pos}(hN:X.N.Nodup)(hi:X.N[i]?=some x)(U:r_ X.env.scope x)(he:PE X e te)(hs:swapsWith e (some<|.Name x gq) pos.line X.env=pure false:=by rfl)(hf:X.fn x=true\/X.env.scope.names.lookup x=some .local:=by first|exact .inl rfl|exact .inr rfl|assumption):
  PS X (.Assign [.Name x gq] e pos) (pV te<|Yh i):=by
 intro O s σ H D I h;refine wpAny_Assign_Name (cJ (he O s σ H _ I h) λv s1 ⟨y,H1,I1,r1,q1⟩=>?_) hs;exact YCn I1 hN hi U r1 (λs2 I2=>⟨_,H1,I2,q1⟩) hf
def tAug(i:Nat)(te:TE)(ti:TIp):TS:=λD σ H=>∃x,σ[i]?=some (some x)/\te σ H λy H1=>ti x y H1 λz H2=>D.nx (σ.set i<|some z) H2
theorem YMd(hN:X.N.Nodup)(hi:X.N[i]?=some x)(U:r_ X.env.scope x)(he:PE X e te)(ho:PIp X op ti)(hf:X.fn x=true\/X.env.scope.names.lookup x=some .local:=by first|exact .inl rfl|exact .inr rfl|assumption):
  PS X (.AugAssign (.Name x gq) op e pos) (tAug i te ti):=by
 intro O s σ H D I h;obtain⟨v,R,h⟩:=h;obtain⟨m,hn,hl⟩:=I.loc;have vis:B0 X.env.scope x:=by rcases U with k|k;exact .inl k;exact .inr<|.inl k
 obtain⟨u,r,l⟩:=hl i x v hi R vis;refine wpAny_AugAssign_Name ?_;have go:wpAny (model X.prog X.w) X.A (eval e X.env) (λw s₂=>wpAny (model X.prog X.w) X.A (inplaceOp op u w) (λr s₃=>wpAny (model X.prog X.w) X.A (storeName X.env x r) (λ_=>SP X O D .next) X.xe s₃) X.xe s₂) X.xe s:=by
  refine cJ (he O s σ H _ I h) λw s1 ⟨y,H1,I1,r1,q1⟩=>?_;refine cJ (ho O s1 σ H1 v y u w _ I1 r r1 q1) λz s2 ⟨zv,H2,I2,r2,q2⟩=>?_;exact YCn I2 hN hi U r2 (λs3 I3=>⟨_,H2,I3,q2⟩) hf
 rcases l with ⟨hk,hm⟩|⟨hk,c,hc,gn⟩
 exact wpAny_loadName_local I.ok.kind hk hn hm go;rcases hk with hk|hk
 exact wpAny_loadName_cell I.ok.kind hk hc gn go;rcases U with k|k
 have:X.env.scope.names.lookup x=some .free:=hk;rw[k]at this;cases this;have:X.env.scope.names.lookup x=some .free:=hk;rw[k]at this;cases this
def ipI(f:Int->Int->Int):TIp:=λx y H Q=>∃i j,x=.int i/\y=.int j/\Q (.int<|f i j) H
theorem xW:PIp X .Add<|ipI λi j=>i+j:=by
 intro O s σ H x y v u Q I r1 r2 h;obtain⟨i,j,R,e2,q⟩:=h;subst R;subst e2;obtain⟨t,rfl⟩:=r1;obtain⟨t',rfl⟩:=r2;exact iadd_int ⟨.int _,H,I.tok _,⟨_,Z⟩,q⟩
theorem zo:PIp X .Sub<|ipI λi j=>i-j:=by
 intro O s σ H x y v u Q I r1 r2 h;obtain⟨i,j,R,e2,q⟩:=h;subst R;subst e2;obtain⟨t,rfl⟩:=r1;obtain⟨t',rfl⟩:=r2;exact isub_int ⟨.int _,H,I.tok _,⟨_,Z⟩,q⟩
end
section
variable {X:Cx}{pos:Pos}
def yB(c:TT)(tb:TS):TS:=λD σ H=>∃W:Nat->St->L->Prop,(∃m,W m σ H)/\∀m σ H,W m σ H->
 c σ H λb H1=>if b=true then ∃N:St->L->Prop,(∀σ' H',N σ' H'->∃m',m'<m/\W m' σ' H')/\tb { D with nx:=N,ct:=N,bk:=D.nx } σ H1 else D.nx σ H1
theorem Jx{c:Expr}{body:J Stmt}{tc:TT}{tb:TS}(hp:PassesOwn (model X.prog X.w) X.A X.env X.xe)(hc:PT X c tc)(hb:gS X body tb):PS X (.While c body [] pos)<|yB tc tb:=by
 intro O s σ H D I h;obtain⟨W,⟨m0,w0⟩,turn⟩:=h;refine wpAny_While<|codeAny_whileLoop (λn s'=>∃σ' H',aW X O σ' H' s'/\W n σ' H') ?_ m0 ⟨σ,H,I,w0⟩;rintro n s1 ⟨σ1,H1,I1,w1⟩;refine wpAny_passesOwn hp<|cJ (hc O s1 σ1 H1 _ I1<|turn n σ1 H1 w1) λb s2 ⟨H2,I2,q2⟩=>?_;cases b with
 |true=>
  obtain⟨N,hN,q2⟩:=q2;rw[if_pos Z];refine wpAny_passesOwn hp<|cJ (hb O s2 σ1 H2 _ I2 q2) λf s3 q3=>?_;cases f with
  |next=>
   obtain⟨σ3,H3,I3,n3⟩:=q3;obtain⟨m',hm,w3⟩:=hN σ3 H3 n3;exact⟨m',hm,σ3,H3,I3,w3⟩
  |cont=>
   obtain⟨σ3,H3,I3,n3⟩:=q3;obtain⟨m',hm,w3⟩:=hN σ3 H3 n3;exact⟨m',hm,σ3,H3,I3,w3⟩
  |brk=>exact q3
  |ret v=>exact q3
 |false=>
  rw[if_neg YOu];exact wpAny_execs_nil ⟨σ1,H2,I2,q2⟩
end
structure It where
 go:Nat->L->Prop
 yld:Nat->L->V->L->Prop
 stop:Nat->L->Prop
def iq(X:Cx)(O:J<|al×Obj)(H:L)(b:al):Prop:=
 H b=none/\b≠X.env.locals/\b∉X.fs/\(b∈X.ex\/X.s₀.heap.objs.size<=b)/\(∀x c,X.env.cells.lookup x=some c->c≠b)/\∀p∈X.pn++O,p.1≠b
theorem aW.fpOk(I:aW X O σ H s)(hb:s.heap.objs.size<=b)(hn:H' b=none):iq X O H' b:=by
 refine⟨hn,Nat.ne_of_gt<|YO5 I.lt hb,I.nofs hb,.inr<|YO1 I.sz hb,λx c e z=>?_,λp hp z=>?_⟩;obtain⟨v,q⟩:=I.cell x c e;exact absurd (YO5 q.lt (by rw[z];exact hb))<|YPW _;exact absurd (YO5 (YOs (I.pin p hp).1) (by rw[z];exact hb))<|YPW _
structure kF(P:Program)(w:World)(K:W.Frag)(tg:Expr)(Dq:It)(fp:List Addr)(it:Addr)(tn:Nat->Heap->Prop):Prop where
 mem:it∈fp
 obj:∀i h,tn i h->∀b∈fp,∃o,h.get? b=some o/\∀v,o.data≠.cell v
 keep:∀i h h',tn i h->(∀b∈fp,∀o,h.get? b=some o->h'.get? b=some o)->tn i h'
 item:∀(X:Cx),X.prog=P->X.w=w->X.K=K->X.calm=true->∀(i:Nat) (O:List<|Addr×Obj) (s:Shared) (σ:St) (H:L) (E:Value->Shared->Prop),aW X O σ H s->(∀b∈fp,iq X O H b)->tn i s.heap->Dq.go i H->
  wpAny (model P w) X.A (pyNext<|.ref it) (λr s1=>∃u,r=some u/\
   wpAny (model P w) X.A (letOwnedTupleGo tg (.ref it) u) (λ_ s2=>∃x H',aW X O σ H' s2/\Yx x u/\Dq.yld i H x H'/\tn (i+1) s2.heap/\∀b∈fp,H' b=none) E s1) E s
 done:∀(X:Cx),X.prog=P->X.w=w->X.K=K->X.calm=true->∀(i:Nat) (O:List<|Addr×Obj) (s:Shared) (σ:St) (H:L) (E:Value->Shared->Prop),aW X O σ H s->(∀b∈fp,iq X O H b)->tn i s.heap->Dq.stop i H->
  wpAny (model P w) X.A (pyNext<|.ref it) (λr s1=>r=none/\aW X O σ H s1) E s
 self:∀(A:Around) (i:Nat) (s:Shared) (Q E:Value->Shared->Prop),tn i s.heap->Q (.ref it) s->wpAny (model P w) A (pyIter<|.ref it) Q E s
abbrev TI:=St->L->(It->L->Prop)->Prop
def PIE(X:Cx)(O:J<|al×Obj)(σ:St)(tg:Expr)(Dt:It->L->Prop)(itv:ai)(s2:ar):Prop:=
 ∃(it:al) (fp:J al) (tn:Nat->Heap->Prop) (Dq:It) (H':L),itv=.ref it/\aW X O σ H' s2/\kF X.prog X.w X.K tg Dq fp it tn/\tn 0 s2.heap/\(∀b∈fp,iq X O H' b)/\Dt Dq H'
def PI(X:Cx)(tg iter:Expr)(wi:TI):Prop:=
 ∀(O:J<|al×Obj) (s:ar) (σ:St) (H:L) (Dt:It->L->Prop),aW X O σ H s->wi σ H Dt->
  wpAny (model X.prog X.w) X.A (eval iter X.env) (λv s1=>wpAny (model X.prog X.w) X.A (pyIter v) (PIE X O σ tg Dt) X.xe s1) X.xe s
theorem AS{E:ai->ar->Prop}{Q:Unit->ar->Prop}(ho:s.heap.get? it=some o)(hc:o.cls=.type n)(hd:o.data=.fields vs)
  (hn:["enumerate","zip","dict_itemiterator","dict_reverseitemiterator","odict_iterator","itertools.zip_longest","itertools.pairwise"].contains n=false)(hQ:Q () s):wpAny M A (letOwnedTupleGo tg (.ref it) u) Q E s:=by
 unfold letOwnedTupleGo;cases tg <;> first
  |exact YO0 hQ
  |(cases u <;> first
    |exact YO0 hQ
    |(refine YOh (wpAny_load ho ?_)
      rw[hc,hd];show wpAny M A (if (["enumerate","zip","dict_itemiterator","dict_reverseitemiterator","odict_iterator","itertools.zip_longest","itertools.pairwise"].contains n&&vs[0]?==some (rawInt _))=true then _ else _) Q E s;rw[if_neg (by intro h;rw[hn,Bool.false_and]at h;cases h)];exact YO0 hQ))
def A6(K:W.Frag)(a:al):It:=
 ⟨λi H=>∃xs x,aX K H a xs/\xs[i]?=some x,λi H x H'=>H'=H/\∀xs,aX K H a xs->xs[i]?=some x,λi H=>∃xs,aX K H a xs/\xs.length<=i⟩
def xq(K:W.Frag)(a:al):It:=
 ⟨λi H=>∃xs x,cy K H a xs/\xs[i]?=some x,λi H x H'=>H'=H/\∀xs,cy K H a xs->xs[i]?=some x,λi H=>∃xs,cy K H a xs/\xs.length<=i⟩
def uk(lo:Int)(n:Nat):It:=⟨λi _=>i<n,λi H x H'=>H'=H/\x=.int (lo+i),λi _=>n<=i⟩
theorem YLp{P:Program}{w:World}{K:W.Frag}{tg:Expr}(a it:al):kF P w K tg (A6 K a) [it] it (λi h=>h.IsListIter it a i) where
 mem:=by simp
 obj:=λi h st b hb=>by
  have e:b=it:=by simpa using hb
  subst e;obtain⟨o,e,c,d⟩:=st;exact⟨o,e,λv z=>by rw[d]at z;cases z⟩
 keep:=λi h h' st k=>st.at λo e=>k it (by simp) o e
 item:=by
  intro X hP hw hK hc i O s σ H E I hf st hg;subst hP hw hK;obtain⟨xs,x,hq,U⟩:=hg;obtain⟨its,rv,p,hz⟩:=I.list hq;obtain⟨u,hu,ru⟩:=rv.get U;obtain⟨f0,f1,f2,f3,f4,f5⟩:=hf it (by simp);refine wpAny_pyNext_list_item st p.isList (x:=u) (by simpa using hu) λh' st' sb=>?_;have I1:aW X O σ H { s with heap:=h' }:=I.turned (t':=s.toks) (λb o hb e=>(sb.2 b hb).trans e) f0 f1 f3 f4 f5;obtain⟨o,e,c,d⟩:=id st';exact⟨u,Z,AS (s:={ s with heap:=h' }) e c d (by decide) ⟨x,H,I1,ru,⟨Z,λys hy=>by rw[I.list_inj hy hq];exact U⟩,st',λb hb=>(hf b hb).1⟩⟩
 done:=by
  intro X hP hw hK hc i O s σ H E I hf st hg;subst hP hw hK;obtain⟨xs,hq,U⟩:=hg;obtain⟨its,rv,p,hz⟩:=I.list hq;obtain⟨f0,f1,f2,f3,f4,f5⟩:=hf it (by simp);have hl:=rv.length;exact wpAny_pyNext_list_end (I.ok.hd hc) st p.isList (by simp;lia) λh' eb=>⟨Z,I.turned (t':=s.toks) (λb o hb e=>eb b o hb e) f0 f1 f3 f4 f5⟩
 self:=λ_ _ _ _ _ st h=>wpAny_pyIter_listiter st h
theorem YJf{P:Program}{w:World}{K:W.Frag}{tg:Expr}(a it:al):kF P w K tg (xq K a) [it] it (λi h=>h.IsTupleIter it a i) where
 mem:=by simp
 obj:=λi h st b hb=>by
  have e:b=it:=by simpa using hb
  subst e;obtain⟨o,e,c,d⟩:=st;exact⟨o,e,λv z=>by rw[d]at z;cases z⟩
 keep:=λi h h' st k=>st.at λo e=>k it (by simp) o e
 item:=by
  intro X hP hw hK hc i O s σ H E I hf st hg;subst hP hw hK;obtain⟨xs,x,hq,U⟩:=hg;obtain⟨its,rv,p,hz⟩:=I.tuple hq;obtain⟨u,hu,ru⟩:=rv.get U;obtain⟨f0,f1,f2,f3,f4,f5⟩:=hf it (by simp);refine wpAny_pyNext_tuple_item st (show s.heap.IsTuple a its.toArray from p) (x:=u) (by simpa using hu) λh' st' sb=>?_;have I1:aW X O σ H { s with heap:=h' }:=I.turned (t':=s.toks) (λb o hb e=>(sb.2 b hb).trans e) f0 f1 f3 f4 f5;obtain⟨o,e,c,d⟩:=id st';exact⟨u,Z,AS (s:={ s with heap:=h' }) e c d (by decide) ⟨x,H,I1,ru,⟨Z,λys hy=>by rw[I.tuple_inj hy hq];exact U⟩,st',λb hb=>(hf b hb).1⟩⟩
 done:=by
  intro X hP hw hK hc i O s σ H E I hf st hg;subst hP hw hK;obtain⟨xs,hq,U⟩:=hg;obtain⟨its,rv,p,hz⟩:=I.tuple hq;obtain⟨f0,f1,f2,f3,f4,f5⟩:=hf it (by simp);have hl:=rv.length;exact wpAny_pyNext_tuple_end (I.ok.hd hc) st (show s.heap.IsTuple a its.toArray from p) (by simp;lia) λh' eb=>⟨Z,I.turned (t':=s.toks) (λb o hb e=>eb b o hb e) f0 f1 f3 f4 f5⟩
 self:=λ_ _ _ _ _ st h=>wpAny_pyIter_tupleiter st h
theorem YJg{P:Program}{w:World}{K:W.Frag}{tg:Expr}(it:al)(lo:Int)(n:Nat):kF P w K tg (uk lo n) [it] it (λi h=>IsRangeIter h it (lo+(i:Nat)*1) ((n:Int)-(i:Nat)) 1) where
 mem:=by simp
 obj:=λi h st b hb=>by
  have e:b=it:=by simpa using hb
  subst e;exact⟨_,st,λv z=>by
   have z':Data.fields _=Data.cell v:=z;cases z'⟩
 keep:=λi h h' st k=>k it (by simp) _ st
 item:=by
  intro X hP hw hK hc i O s σ H E I hf st hg;subst hP hw hK;obtain⟨f0,f1,f2,f3,f4,f5⟩:=hf it (by simp);have W:=Walks.range (prog:=X.prog) (w:=X.w) (I.ok.hd hc) it lo 1 n;refine W.item i s _ _ hg st λv h' tk hv st' kk=>?_;obtain⟨t,rfl⟩:=hv;have I1:aW X O σ H { s with heap:=h',toks:=tk }:=I.turned (λb o hb e=>kk b o (by simpa using hb) e) f0 f1 f3 f4 f5;refine⟨_,Z,AS (s:={ s with heap:=h',toks:=tk }) (n:="range_iterator") st' Z rfl (by decide) ⟨.int<|lo+i,H,I1,⟨t,?_⟩,⟨Z,Z⟩,st',λb hb=>(hf b hb).1⟩⟩;rw[Int.mul_one]
 done:=by
  intro X hP hw hK hc i O s σ H E I hf st hg;subst hP hw hK;obtain⟨f0,f1,f2,f3,f4,f5⟩:=hf it (by simp);exact wpAny_pyNext_range_end (I.ok.hd hc) st (by have:n<=i:=hg;lia) λh' eb=>⟨Z,I.turned (t':=s.toks) (λb o hb e=>eb b o hb e) f0 f1 f3 f4 f5⟩
 self:=λ_ _ _ _ _ st h=>wpAny_pyIter_rangeiter st h
section
variable {X:Cx}{tg:Expr}
inductive YMe(K:W.Frag)(Dt:It->L->Prop)(x:V)(H1:L):Prop
 |mk (a:_):x=.ref a->(∃xs,aX K H1 a xs)->Dt (A6 K a) H1->YMe K Dt x H1
def sf(K:W.Frag)(tl:TE):TI:=λσ H Dt=>tl σ H λx H1=>YMe K Dt x H1
inductive rL(K:W.Frag)(Dt:It->L->Prop)(x:V)(H1:L):Prop
 |mk (a:_):x=.ref a->(∃xs,cy K H1 a xs)->Dt (xq K a) H1->rL K Dt x H1
def Cp(K:W.Frag)(tl:TE):TI:=λσ H Dt=>tl σ H λx H1=>rL K Dt x H1
theorem oZ{l:Expr}{tl:TE}(hl:PE X l tl):PI X tg l<|sf X.K tl:=by
 intro O s σ H Dt I h;refine cJ (hl O s σ H _ I h) λv s1 ⟨x,H1,I1,r1,q1⟩=>?_;obtain⟨a,e,⟨xs,hq⟩,q⟩:=q1;subst e;cases r1;obtain⟨its,rv,p,hz⟩:=I1.list hq;refine wpAny_pyIter_list p.isList ?_;refine⟨s1.heap.objs.size,[s1.heap.objs.size],_,_,H1,Z,I1.kept (t':=s1.toks) λb o e=>YOi _ e,YLp a _,⟨_,YOy _ Z,Z,Z⟩,λb hb=>?_,q⟩;have e:b=s1.heap.objs.size:=by simpa using hb
 subst e;exact I1.fpOk (YOY _)<|I1.hok.fresh<|YOY _
theorem xJ{l:Expr}{tl:TE}(hl:PE X l tl):PI X tg l<|Cp X.K tl:=by
 intro O s σ H Dt I h;refine cJ (hl O s σ H _ I h) λv s1 ⟨x,H1,I1,r1,q1⟩=>?_;obtain⟨a,e,⟨xs,hq⟩,q⟩:=q1;subst e;cases r1;obtain⟨its,rv,p,hz⟩:=I1.tuple hq;refine wpAny_pyIter_tuple (show s1.heap.IsTuple a its.toArray from p) ?_;refine⟨s1.heap.objs.size,[s1.heap.objs.size],_,_,H1,Z,I1.kept (t':=s1.toks) λb o e=>YOi _ e,YJf a _,⟨_,YOy _ Z,Z,Z⟩,λb hb=>?_,q⟩;have e:b=s1.heap.objs.size:=by simpa using hb
 subst e;exact I1.fpOk (YOY _)<|I1.hok.fresh<|YOY _
theorem YMf{O:J (al×Obj)}{σ:St}{H:L}{s:ar}{Dt:It->L->Prop}{E:ai->ar->Prop}{lo hi:Int}{t u v:Tok}{tk:Nat}(I:aW X O σ H s)(h1:-(2^62)<=lo)(h2:lo<2^62)(h3:-(2^62)<=hi)(h4:hi<2^62)
  (q:Dt (uk lo (hi-lo).toNat) H):wpAny (model X.prog X.w) X.A (pyIter<|.ref s.heap.objs.size) (PIE X O σ tg Dt) E { s with heap:=s.heap.push { cls:=.type "range",data:=.fields #[.int lo t,.int hi u,.int 1 v] },toks:=tk }:=by
 refine wpAny_pyIter_range (IsRange.new ..) (small_one h1 h2 h3 h4) ?_;have I1:aW X O σ H { s with heap:=s.heap.push { cls:=.type "range",data:=.fields #[.int lo t,.int hi u,.int 1 v] },toks:=tk }:=I.kept λb o e=>YOi _ e;refine⟨(s.heap.push { cls:=.type "range",data:=.fields #[.int lo t,.int hi u,.int 1 v] }).objs.size,[(s.heap.push { cls:=.type "range",data:=.fields #[.int lo t,.int hi u,.int 1 v] }).objs.size],_,_,H,Z,
  I1.kept (t':=tk) λb o e=>YOi _ e,YJg _ lo (hi-lo).toNat,?_,λb hb=>?_,q⟩
 have R:lo+((0:Nat):Int)*1=lo:=by simp
 have e2:(((hi-lo).toNat:Nat):Int)-((0:Nat):Int)=Builtin.Range.rangeSize lo hi 1:=by rw[rangeSize_one];split <;> lia
 show IsRangeIter _ _ (lo+((0:Nat):Int)*1) ((((hi-lo).toNat:Nat):Int)-((0:Nat):Int)) 1;rw[R,e2];exact YOy _ Z;have e:b=(s.heap.push { cls:=.type "range",data:=.fields #[.int lo t,.int hi u,.int 1 v] }).objs.size:=by simpa using hb
 subst e;exact I1.fpOk (YOY _)<|I1.hok.fresh<|YOY _
inductive YMg(Dt:It->L->Prop)(vs:List V)(H1:L):Prop
 |mk (j:Int):vs=[.int j]->-(2^62)<=j->j<2^62->Dt (uk 0 j.toNat) H1->YMg Dt vs H1
def CI(ta:TA):TI:=λσ H Dt=>ta σ H λvs H1=>YMg Dt vs H1
theorem Ze{a:Expr}{ta:TA}{p pos:Pos}(hg:Gl X "range")(hm:X.mg "range"=none)(ha:PA X [a] ta)(hs:starEach [a] X.env=[(false,eval a X.env)]:=by rfl):PI X tg (.Call (.Name "range" p) [a] [] pos)<|CI ta:=by
 intro O s σ H Dt I h;refine Call_<|vF I hg hm boot_range<|PyProof.Rows.callWith_type1 (cJ (ha pos O s σ H _ I h) λus s1 ⟨vs,H1,I1,r1,q1⟩=>?_) hs rfl;obtain⟨j,e,q1,q2,q⟩:=q1;subst e;cases r1 with
 |cons r rr=>
  cases rr;obtain⟨t,rfl⟩:=r;exact call_range_1<|YMf I1 (by lia) (by lia) q1 q2 (by simpa using q)
def B7(wi:TI)(g:TG)(tb:TS):TS:=λD σ H=>wi σ H λDq H1=>∃W:Nat->Nat->St->L->Prop,(∃m,W 0 m σ H1)/\∀i m σ H,W i m σ H->
 (Dq.stop i H/\D.nx σ H)\/(Dq.go i H/\∃N:St->L->Prop,(∀σ' H',N σ' H'->∃m',m'<m/\W (i+1) m' σ' H')/\∀x H',Dq.yld i H x H'->g x σ H' λσ2 H2=>tb { D with nx:=N,ct:=N,bk:=D.nx } σ2 H2)
def AX(fp:J al)(h:Heap):J<|al×Obj:=fp.filterMap λb=>(h.get? b).map λo=>(b,o)
theorem Jj(hb:b∈fp)(e:h.get? b=some o):(b,o)∈AX fp h:=YPz.mpr ⟨b,hb,by rw[e];rfl⟩
theorem YLq(hp:p∈AX fp h):p.1∈fp/\h.get? p.1=some p.2:=by
 obtain⟨b,hb,e⟩:=YPz.mp hp;cases q:h.get? b with
 |none=>rw[q]at e;cases e
 |some o=>
  rw[q]at e;have e':(b,o)=p:=YO3 e;subst e';exact⟨hb,q⟩
theorem aW.pinned(I:aW X O σ H s)(hf:∀b∈fp,iq X O H b)(ho:∀b∈fp,∃o,s.heap.get? b=some o/\∀v,o.data≠.cell v):aW X (O++AX fp s.heap) σ H s:=
 I.pins_of λp hp=>(YOf.mp hp).elim (λz=>I.pin p<|YOe _ z) λz=>by
  obtain⟨hb,e⟩:=YLq z;obtain⟨f0,f1,f2,_⟩:=hf p.1 hb;obtain⟨o,e',d⟩:=ho p.1 hb;rw[e]at e';cases e';exact⟨e,f0,f1,f2,d⟩
theorem aW.unpinned(I:aW X (O++pl) σ H s):aW X O σ H s:=I.pins_of λp hp=>I.pin p<|YOe _<|YOg _ hp
theorem AM{iter:Expr}{body:J Stmt}{wi:TI}{g:TG}{tb:TS}{pos:Pos}(hp:PassesOwn (model X.prog X.w) X.A X.env X.xe)(hc:X.calm=true)(hi:PI X tg iter wi)(hg:PG X tg g)(hb:gS X body tb)
  (hs:∀x,foldedSetIterable iter X.env x=pure x:=by intro _;rfl):PS X (.For tg iter body [] pos)<|B7 wi g tb:=by
 intro O s σ H D I h;refine wpAny_For (cJ (hi O s σ H _ I h) λv s1 h1=>cJ h1 λitv s2 h2=>?_) hs;obtain⟨it,fp,tn,Dq,H2,e,I2,T,lL,f2,W,⟨m0,w0⟩,turn⟩:=h2;subst e;have iU:∀{H':L},(∀b∈fp,H' b=none)->∀b∈fp,iq X O H' b:=λhn b hb=>⟨hn b hb,(f2 b hb).2⟩;refine codeAny_forLoop_any (λn s'=>∃i σ' H',aW X O σ' H' s'/\tn i s'.heap/\(∀b∈fp,H' b=none)/\W i n σ' H') ?_ m0 ⟨0,σ,H2,I2,lL,λb hb=>(f2 b hb).1,w0⟩;rintro n s3 ⟨i,σ3,H3,I3,z7,z8,w3⟩;rcases turn i n σ3 H3 w3 with ⟨stop,qn⟩|⟨go,N,hN,step⟩
 ·refine wpAny_passesOwn hp<|cJ (T.done X rfl rfl rfl hc i O s3 σ3 H3 X.xe I3 (iU z8) z7 stop) λr s4 ⟨hr,I4⟩=>?_;subst hr;exact wpAny_execs_nil ⟨σ3,H3,I4,qn⟩
 ·refine wpAny_passesOwn hp<|cJ (T.item X rfl rfl rfl hc i O s3 σ3 H3 X.xe I3 (iU z8) z7 go) λr s4 ⟨u,hr,h4⟩=>?_;subst hr;refine wpAny_passesOwn hp<|cJ h4 ?_;rintro _ s5 ⟨x,H5,I5,r5,y5,yo,Wj⟩;have I5':=I5.pinned (iU Wj)<|T.obj _ _ yo;refine wpAny_passesOwn hp<|cJ (hg _ s5 σ3 H5 x u _ I5' r5<|step x H5 y5) λ_ s6 ⟨σ6,H6,I6,q6⟩=>?_;refine wpAny_passesOwn hp<|cJ (hb _ s6 σ6 H6 _ I6 q6) λf s7 q7=>?_;have again:∀{σ7:St}{H7:L},aW X (O++AX fp s5.heap) σ7 H7 s7->N σ7 H7->∃m,m<n/\∃i σ' H',aW X O σ' H' s7/\tn i s7.heap/\(∀b∈fp,H' b=none)/\W i m σ' H':=λ{σ7 H7} I7 n7=>by
   obtain⟨m',hm,w7⟩:=hN σ7 H7 n7;refine⟨m',hm,i+1,σ7,H7,I7.unpinned,T.keep _ _ _ yo λb hb o e=>(I7.pin (b,o)<|YOe _<|YOe _<|Jj hb e).1,λb hb=>?_,w7⟩;obtain⟨o,e,d⟩:=T.obj _ _ yo b hb;exact(I7.pin (b,o)<|YOe _<|YOe _<|Jj hb e).2.1
  cases f with
  |next=>obtain⟨σ7,H7,I7,n7⟩:=q7;exact again I7 n7
  |cont=>obtain⟨σ7,H7,I7,n7⟩:=q7;exact again I7 n7
  |brk=>obtain⟨σ7,H7,I7,q7⟩:=q7;exact⟨σ7,H7,I7.unpinned,q7⟩
  |ret v=>obtain⟨x7,σ7,H7,I7,r7,q7⟩:=q7;exact⟨x7,σ7,H7,I7.unpinned,r7,q7⟩
end
theorem Zq{K:W.Frag}{a:al}{xs:J V}{g:TG}{tb:TS}{D:Ja}{σ:St}{H:L}(Pv:Nat->St->L->Prop)(h0:Pv 0 σ H)(hl:∀i σ H,i<=xs.length->Pv i σ H->aX K H a xs)
  (hs:∀i x σ H,xs[i]?=some x->Pv i σ H->g x σ H λσ2 H2=>tb { D with nx:=Pv (i+1),ct:=Pv (i+1),bk:=D.nx } σ2 H2)(hd:∀σ H,Pv xs.length σ H->D.nx σ H):
  ∃W:Nat->Nat->St->L->Prop,(∃m,W 0 m σ H)/\∀i m σ H,W i m σ H->
   ((A6 K a).stop i H/\D.nx σ H)\/((A6 K a).go i H/\∃N:St->L->Prop,(∀σ' H',N σ' H'->∃m',m'<m/\W (i+1) m' σ' H')/\∀x H',(A6 K a).yld i H x H'->g x σ H' λσ2 H2=>tb { D with nx:=N,ct:=N,bk:=D.nx } σ2 H2):=by
 refine⟨λi m σ H=>m=xs.length-i/\i<=xs.length/\Pv i σ H,⟨xs.length,by simp,YOn _,h0⟩,?_⟩;rintro i m σ H ⟨rfl,hi,p⟩;have q:=hl i σ H hi p;by_cases Dm:i<xs.length;refine .inr ⟨⟨xs,xs[i],q,by simp[Dm]⟩,Pv<|i+1,λσ' H' p'=>⟨xs.length-(i+1),by omega,Z,Dm,p'⟩,λx H' y=>?_⟩;obtain⟨e,y⟩:=y;subst e;exact hs i x σ _ (y xs q) p;have e:i=xs.length:=by omega
 subst e;exact .inl ⟨⟨xs,q,YOY _⟩,hd σ H p⟩
theorem nS{K:W.Frag}{a:al}{xs:J V}{g:TG}{tb:TS}{D:Ja}{σ:St}{H:L}(Pv:Nat->St->L->Prop)(h0:Pv 0 σ H)(hl:∀i σ H,i<=xs.length->Pv i σ H->cy K H a xs)
  (hs:∀i x σ H,xs[i]?=some x->Pv i σ H->g x σ H λσ2 H2=>tb { D with nx:=Pv (i+1),ct:=Pv (i+1),bk:=D.nx } σ2 H2)(hd:∀σ H,Pv xs.length σ H->D.nx σ H):
  ∃W:Nat->Nat->St->L->Prop,(∃m,W 0 m σ H)/\∀i m σ H,W i m σ H->
   ((xq K a).stop i H/\D.nx σ H)\/((xq K a).go i H/\∃N:St->L->Prop,(∀σ' H',N σ' H'->∃m',m'<m/\W (i+1) m' σ' H')/\∀x H',(xq K a).yld i H x H'->g x σ H' λσ2 H2=>tb { D with nx:=N,ct:=N,bk:=D.nx } σ2 H2):=by
 refine⟨λi m σ H=>m=xs.length-i/\i<=xs.length/\Pv i σ H,⟨xs.length,by simp,YOn _,h0⟩,?_⟩;rintro i m σ H ⟨rfl,hi,p⟩;have q:=hl i σ H hi p;by_cases Dm:i<xs.length;refine .inr ⟨⟨xs,xs[i],q,by simp[Dm]⟩,Pv<|i+1,λσ' H' p'=>⟨xs.length-(i+1),by lia,Z,Dm,p'⟩,λx H' y=>?_⟩;obtain⟨e,y⟩:=y;subst e;exact hs i x σ _ (y xs q) p;have e:i=xs.length:=by lia
 subst e;exact .inl ⟨⟨xs,q,YOY _⟩,hd σ H p⟩
theorem JG{lo:Int}{n:Nat}{g:TG}{tb:TS}{D:Ja}{σ:St}{H:L}(Pv:Nat->St->L->Prop)(h0:Pv 0 σ H)
  (hs:∀i σ H,i<n->Pv i σ H->g (.int<|lo+i) σ H λσ2 H2=>tb { D with nx:=Pv (i+1),ct:=Pv (i+1),bk:=D.nx } σ2 H2)(hd:∀σ H,Pv n σ H->D.nx σ H):
  ∃W:Nat->Nat->St->L->Prop,(∃m,W 0 m σ H)/\∀i m σ H,W i m σ H->
   ((uk lo n).stop i H/\D.nx σ H)\/((uk lo n).go i H/\∃N:St->L->Prop,(∀σ' H',N σ' H'->∃m',m'<m/\W (i+1) m' σ' H')/\∀x H',(uk lo n).yld i H x H'->g x σ H' λσ2 H2=>tb { D with nx:=N,ct:=N,bk:=D.nx } σ2 H2):=by
 refine⟨λi m σ H=>m=n-i/\i<=n/\Pv i σ H,⟨n,by simp,YOn _,h0⟩,?_⟩;rintro i m σ H ⟨rfl,hi,p⟩;by_cases Dm:i<n;refine .inr ⟨Dm,Pv<|i+1,λσ' H' p'=>⟨n-(i+1),by omega,Z,Dm,p'⟩,λx H' y=>?_⟩;obtain⟨e,y⟩:=y;subst e y;exact hs i σ _ Dm p;have e:i=n:=by omega
 subst e;exact .inl ⟨YOY _,hd σ H p⟩
abbrev R2:=V->V->L->VK->Prop
def fK(X:Cx)(f:ai->ai->Sem ai)(r:R2):Prop:=
 ∀(O:J<|al×Obj) (s:ar) (σ:St) (H:L) (x y:V) (v u:ai) (Q:VK),aW X O σ H s->Yx x v->Yx y u->r x y H Q->
  wpAny (model X.prog X.w) X.A (f v u) (EP X O σ Q) X.xe s
def UnR(X:Cx)(f:ai->Sem ai)(r:V->L->VK->Prop):Prop:=
 ∀(O:J<|al×Obj) (s:ar) (σ:St) (H:L) (x:V) (v:ai) (Q:VK),aW X O σ H s->Yx x v->r x H Q->
  wpAny (model X.prog X.w) X.A (f v) (EP X O σ Q) X.xe s
def Jy(X:Cx)(f:ai)(r:J V->L->VK->Prop):Prop:=
 ∀(O:J<|al×Obj) (s:ar) (σ:St) (H:L) (xs:J V) (us:J ai) (Q:VK),aW X O σ H s->Yt xs us->r xs H Q->
  wpAny (model X.prog X.w) X.A (call f us) (EP X O σ Q) X.xe s
def TruR(X:Cx)(r:V->L->(Bool->L->Prop)->Prop):Prop:=
 ∀(O:J<|al×Obj) (s:ar) (σ:St) (H:L) (x:V) (v:ai) (Q:Bool->L->Prop),aW X O σ H s->Yx x v->r x H Q->
  wpAny (model X.prog X.w) X.A (truthy v) (TP X O σ Q) X.xe s
def kH(r:R2)(ta tb:TE):TE:=λσ H Q=>ta σ H λx H1=>tb σ H1 λy H2=>r x y H2 Q
def tUn(r:V->L->VK->Prop)(ta:TE):TE:=λσ H Q=>ta σ H λx H1=>r x H1 Q
inductive rI_(C:Int->Int->Prop)(g:Int->Int->V)(x y:V)(H:L)(Q:VK):Prop
 |mk (i:_)(j:_):x=.int i->y=.int j->C i j->Q (g i j) H->rI_ C g x y H Q
def rI(C:Int->Int->Prop)(g:Int->Int->V):R2:=λx y H Q=>rI_ C g x y H Q
inductive C5(g:Int->Int->V)(x y:V)(H:L)(Q:VK):Prop
 |mk (i:_)(j:_):x=.int i->y=.int j->Q (g i j) H->C5 g x y H Q
def o7(g:Int->Int->V):R2:=λx y H Q=>C5 g x y H Q
inductive rU_(g:Int->V)(x:V)(H:L)(Q:VK):Prop
 |mk (i:_):x=.int i->Q (g i) H->rU_ g x H Q
def rU(g:Int->V):V->L->VK->Prop:=λx H Q=>rU_ g x H Q
section
variable {X:Cx}{a b c:Expr}{ta tb tc:TE}{pos:Pos}
theorem ya(ha:PE X a ta)(hb:PE X b tb){O:J (al×Obj)}{s:ar}{σ:St}{H:L}{Dt:V->V->L->Prop}(I:aW X O σ H s)
  (h:ta σ H λx H1=>tb σ H1 λy H2=>Dt x y H2){Q:ai->ar->Prop}{f:ai->ai->Sem ai}
  (hf:∀v u s2 x y H2,aW X O σ H2 s2->Yx x v->Yx y u->Dt x y H2->wpAny (model X.prog X.w) X.A (f v u) Q X.xe s2):
  wpAny (model X.prog X.w) X.A (eval a X.env) (λv s₁=>wpAny (model X.prog X.w) X.A (eval b X.env) (λu s₂=>wpAny (model X.prog X.w) X.A (f v u) Q X.xe s₂) X.xe s₁) X.xe s:=by
 refine cJ (ha O s σ H _ I h) λv s1 ⟨x,H1,I1,r1,q1⟩=>?_;refine cJ (hb O s1 σ H1 _ I1 q1) λu s2 ⟨y,H2,I2,r2,q2⟩=>?_;exact hf v u s2 x y H2 I2 r1 r2 q2
theorem YN(ho:fK X (binaryOp op) r)(ha:PE X a ta)(hb:PE X b tb):PE X (.BinOp a op b pos)<|kH r ta tb:=by
 intro O s σ H Q I h;exact wpAny_BinOp<|ya ha hb I h λv u s2 x y H2 I2 rx ry q=>ho O s2 σ H2 x y v u Q I2 rx ry q
theorem A4{op:UnaryOp}{r:V->L->VK->Prop}(ho:UnR X (unaryOp op) r)(ha:PE X a ta):PE X (.UnaryOp op a pos)<|tUn r ta:=by
 intro O s σ H Q I h;exact UnaryOp_<|cJ (ha O s σ H _ I h) λv s1 ⟨x,H1,I1,r1,q1⟩=>ho O s1 σ H1 x v Q I1 r1 q1
theorem C7{f:ai->ai->Sem ai}{C:Int->Int->Prop}{g:Int->Int->Int}
  (rule:∀(i j:Int) (t u:Tok) (s:ar) (Q E:ai->ar->Prop),C i j->Q (.int (g i j) s.toks) { s with toks:=s.toks+1 }->wpAny (model X.prog X.w) X.A (f (.int i t)<|.int j u) Q E s):
  fK X f (rI C λi j=>.int<|g i j):=by
 intro O s σ H x y v u Q I rx ry h;obtain⟨i,j,rfl,rfl,hc,q⟩:=h;obtain⟨t,rfl⟩:=rx;obtain⟨t',rfl⟩:=ry;exact rule i j t t' s _ _ hc ⟨.int<|g i j,H,I.tok _,⟨_,Z⟩,q⟩
theorem B1{f:ai->ai->Sem ai}{g:Int->Int->Int}
  (rule:∀(i j:Int) (t u:Tok) (s:ar) (Q E:ai->ar->Prop),Q (.int (g i j) s.toks) { s with toks:=s.toks+1 }->wpAny (model X.prog X.w) X.A (f (.int i t)<|.int j u) Q E s):
  fK X f (o7 λi j=>.int<|g i j):=by
 intro O s σ H x y v u Q I rx ry h;obtain⟨i,j,rfl,rfl,q⟩:=h;obtain⟨t,rfl⟩:=rx;obtain⟨t',rfl⟩:=ry;exact rule i j t t' s _ _ ⟨.int<|g i j,H,I.tok _,⟨_,Z⟩,q⟩
theorem mS{f:ai->ai->Sem ai}{g:Int->Int->Bool}
  (rule:∀(i j:Int) (t u:Tok) (s:ar) (Q E:ai->ar->Prop),Q (.bool<|g i j) s->wpAny (model X.prog X.w) X.A (f (.int i t)<|.int j u) Q E s):
  fK X f (o7 λi j=>.bl<|g i j):=by
 intro O s σ H x y v u Q I rx ry h;obtain⟨i,j,rfl,rfl,q⟩:=h;obtain⟨t,rfl⟩:=rx;obtain⟨t',rfl⟩:=ry;exact rule i j t t' s _ _ ⟨.bl<|g i j,H,I,Z,q⟩
def CDiv(i j:Int):Prop:=0<j/\j<1073741824
def CPow(i j:Int):Prop:=0<=j/\j<=1000000/\i.natAbs<2^64
def zD(i j:Int):Prop:=(-(2^64)<i/\i<2^64)\/(-(2^64)<j/\j<2^64)
theorem zD.ok(h:zD i j):IntMulOk i j:=by
 rcases h with ⟨h1,h2⟩|⟨h1,h2⟩
 exact .of_left<|intBits_le_64 h1 h2;exact .of_right<|intBits_le_64 h1 h2
theorem ZD:fK X (binaryOp .Add)<|o7 λi j=>.int<|i+j:=B1 λ_ _ _ _ _ _ _ q=>add_int q
theorem AI:fK X (binaryOp .Sub)<|o7 λi j=>.int<|i-j:=B1 λ_ _ _ _ _ _ _ q=>sub_int q
theorem AK:fK X (binaryOp .Mult)<|rI zD λi j=>.int<|i*j:=C7 λ_ _ _ _ _ _ _ hc q=>mul_int q hc.ok
theorem Zy:fK X (binaryOp .FloorDiv)<|rI CDiv λi j=>.int<|i / j:=C7 λi j _ _ _ _ _ hc q=>by
 have h1:(0:Int)<j:=hc.1;have h2:j<1073741824:=hc.2;exact floordiv_int (by omega) (by rw[Int.fdiv_eq_ediv_of_nonneg i (by omega)];exact q)<|.inl<|PyProof.noPylong_small (by omega)
theorem ZS:fK X (binaryOp .Mod)<|rI (λ_ j=>0<j) λi j=>.int<|i%j:=C7 λi j _ _ _ _ _ hc q=>by
 have h1:(0:Int)<j:=hc;exact mod_int' (by lia) (by rw[Int.fmod_eq_emod_of_nonneg i (by lia)];exact q)
theorem YHK:fK X (binaryOp .Pow)<|rI CPow λi j=>.int<|i^j.toNat:=C7 λ_ _ _ _ _ _ _ hc q=>pow_int_small hc.1 hc.2.1 hc.2.2 q
theorem unI{f:ai->Sem ai}{g:Int->Int}
  (rule:∀(i:Int) (t:Tok) (s:ar) (Q E:ai->ar->Prop),Q (.int (g i) s.toks) { s with toks:=s.toks+1 }->wpAny (model X.prog X.w) X.A (f<|.int i t) Q E s):
  UnR X f (rU λi=>.int<|g i):=by
 intro O s σ H x v Q I rx h;obtain⟨i,rfl,q⟩:=h;obtain⟨t,rfl⟩:=rx;exact rule i t s _ _ ⟨.int<|g i,H,I.tok _,⟨_,Z⟩,q⟩
theorem AW:UnR X (unaryOp .USub)<|rU λi=>.int<|-i:=unI λ_ _ _ _ _ q=>neg_int q
end
def CC:V->V->Bool
 |.non,.non=>true|.non,.int _=>true|.int _,.non=>true|.non,.bl _=>true|.bl _,.non=>true|.non,.str _=>true|.str _,.non=>true
 |.int _,.int _=>true|.bl _,.bl _=>true|.str _,.str _=>true|.byt _,.byt _=>true
 |.int _,.str _=>true|.str _,.int _=>true|.bl _,.str _=>true|.str _,.bl _=>true
 |_,_=>false
inductive C8(x y:V)(H:L)(Q:VK):Prop
 |mk:CC x y=true->Q (.bl (decide (x=y))) H->C8 x y H Q
def rEq:R2:=λx y H Q=>C8 x y H Q
inductive CH(x y:V)(H:L)(Q:VK):Prop
 |mk:CC x y=true->Q (.bl (!decide (x=y))) H->CH x y H Q
def rNe:R2:=λx y H Q=>CH x y H Q
theorem YKc:decide (V.int i=V.int j)=(i==j):=by
 rw[YPU];simp
theorem YMh:decide (V.bl i=V.bl j)=(i==j):=by
 rw[YPU];simp
theorem YKd:decide (V.str i=V.str j)=(i==j):=by
 rw[YPU];simp
theorem YKe:decide (V.byt i=V.byt j)=(i.toList==j.toList):=by
 rw[YPU];cases i;cases j;simp
section
variable {X:Cx}{a b c:Expr}{ta tb tc:TE}{pos:Pos}
theorem Y8(I:aW X O σ H s)(q:Q (.bl k) H)(e:k=k'):EP X O σ Q (.bool k') s:=by
 subst e;exact⟨.bl k,H,I,Z,q⟩
theorem Xm:fK X (compareOp .Eq) rEq:=by
 intro O s σ H x y v u Q I rx ry h;obtain⟨hs,q⟩:=h;cases x with
 |non=>
  cases rx;cases y with
  |non=>cases ry;exact PySem.EqNone.eq_none_none<|Y8 I q (by simp)
  |bl j=>cases ry;exact PySem.EqNone.eq_none_bool<|Y8 I q (by simp)
  |int j=>obtain⟨t',rfl⟩:=ry;exact PySem.EqNone.eq_none_int<|Y8 I q (by simp)
  |str j=>obtain⟨t',rfl⟩:=ry;exact PySem.EqNone.eq_none_str<|Y8 I q (by simp)
  |_=>exact absurd (show false=true from hs) YOu
 |bl i=>
  cases rx;cases y with
  |non=>cases ry;exact PySem.EqNone.eq_bool_none<|Y8 I q (by simp)
  |bl j=>cases ry;exact eq_bool<|Y8 I q YMh
  |str j=>obtain⟨t',rfl⟩:=ry;exact PySem.EqMixed.eq_bool_str<|Y8 I q (by simp)
  |_=>exact absurd (show false=true from hs) YOu
 |int i=>
  obtain⟨t,rfl⟩:=rx;cases y with
  |non=>cases ry;exact PySem.EqNone.eq_int_none<|Y8 I q (by simp)
  |int j=>obtain⟨t',rfl⟩:=ry;exact eq_int<|Y8 I q YKc
  |str j=>obtain⟨t',rfl⟩:=ry;exact PySem.EqMixed.eq_int_str<|Y8 I q (by simp)
  |_=>exact absurd (show false=true from hs) YOu
 |str i=>
  obtain⟨t,rfl⟩:=rx;cases y with
  |non=>cases ry;exact PySem.EqNone.eq_str_none<|Y8 I q (by simp)
  |bl j=>cases ry;exact PySem.EqMixed.eq_str_bool<|Y8 I q (by simp)
  |int j=>obtain⟨t',rfl⟩:=ry;exact PySem.EqMixed.eq_str_int<|Y8 I q (by simp)
  |str j=>obtain⟨t',rfl⟩:=ry;exact eq_str<|Y8 I q YKd
  |_=>exact absurd (show false=true from hs) YOu
 |byt i=>
  obtain⟨t,rfl⟩:=rx;cases y with
  |byt j=>obtain⟨t',rfl⟩:=ry;exact PySem.W.eq_bytes<|Y8 I q YKe
  |_=>exact absurd (show false=true from hs) YOu
 |_=>cases y <;> exact absurd (show false=true from hs) YOu
theorem mP:fK X (compareOp .NotEq) rNe:=by
 intro O s σ H x y v u Q I rx ry h;obtain⟨hs,q⟩:=h;cases x with
 |non=>
  cases rx;cases y with
  |non=>cases ry;exact PySem.EqNone.ne_none_none<|Y8 I q (by simp)
  |bl j=>cases ry;exact PySem.EqNone.ne_none_bool<|Y8 I q (by simp)
  |int j=>obtain⟨t',rfl⟩:=ry;exact PySem.EqNone.ne_none_int<|Y8 I q (by simp)
  |str j=>obtain⟨t',rfl⟩:=ry;exact PySem.EqNone.ne_none_str<|Y8 I q (by simp)
  |_=>exact absurd (show false=true from hs) YOu
 |bl i=>
  cases rx;cases y with
  |non=>cases ry;exact PySem.EqNone.ne_bool_none<|Y8 I q (by simp)
  |bl j=>cases ry;exact ne_bool<|Y8 I q<|fZ not YMh
  |str j=>obtain⟨t',rfl⟩:=ry;exact PySem.EqMixed.ne_bool_str<|Y8 I q (by simp)
  |_=>exact absurd (show false=true from hs) YOu
 |int i=>
  obtain⟨t,rfl⟩:=rx;cases y with
  |non=>cases ry;exact PySem.EqNone.ne_int_none<|Y8 I q (by simp)
  |int j=>obtain⟨t',rfl⟩:=ry;exact ne_int<|Y8 I q<|fZ not YKc
  |str j=>obtain⟨t',rfl⟩:=ry;exact PySem.EqMixed.ne_int_str<|Y8 I q (by simp)
  |_=>exact absurd (show false=true from hs) YOu
 |str i=>
  obtain⟨t,rfl⟩:=rx;cases y with
  |non=>cases ry;exact PySem.EqNone.ne_str_none<|Y8 I q (by simp)
  |bl j=>cases ry;exact PySem.EqMixed.ne_str_bool<|Y8 I q (by simp)
  |int j=>obtain⟨t',rfl⟩:=ry;exact PySem.EqMixed.ne_str_int<|Y8 I q (by simp)
  |str j=>obtain⟨t',rfl⟩:=ry;exact ne_str<|Y8 I q<|fZ not YKd
  |_=>exact absurd (show false=true from hs) YOu
 |byt i=>
  obtain⟨t,rfl⟩:=rx;cases y with
  |byt j=>obtain⟨t',rfl⟩:=ry;exact PySem.W.ne_bytes<|Y8 I q<|fZ not YKe
  |_=>exact absurd (show false=true from hs) YOu
 |_=>cases y <;> exact absurd (show false=true from hs) YOu
theorem kK:fK X (compareOp .Lt)<|o7 λi j=>.bl<|decide (i<j):=mS λ_ _ _ _ _ _ _ q=>lt_int q
theorem kG:fK X (compareOp .LtE)<|o7 λi j=>.bl<|decide (i<=j):=mS λ_ _ _ _ _ _ _ q=>le_int q
theorem tm:fK X (compareOp .Gt)<|o7 λi j=>.bl<|decide (j<i):=mS λ_ _ _ _ _ _ _ q=>gt_int q
theorem wc:fK X (compareOp .GtE)<|o7 λi j=>.bl<|decide (j<=i):=mS λ_ _ _ _ _ _ _ q=>ge_int q
theorem Bz:fK X (compareOp .Is)<|λx y H Q=>y=.non/\Q (.bl<|decide (x=.non)) H:=by
 intro O s σ H x y v u Q I rx ry h;obtain⟨rfl,q⟩:=h;cases ry;refine is_none_gen<|Y8 I q ?_;cases x <;> first
  |(cases rx;rfl)
  |(obtain⟨t,rfl⟩:=rx;rfl)
theorem AR:fK X (compareOp .IsNot)<|λx y H Q=>y=.non/\Q (.bl<|!decide (x=.non)) H:=by
 intro O s σ H x y v u Q I rx ry h;obtain⟨rfl,q⟩:=h;cases ry;refine isnot_none_gen<|Y8 I q ?_;cases x <;> first
  |(cases rx;rfl)
  |(obtain⟨t,rfl⟩:=rx;rfl)
theorem YU(b:Expr)(h:op≠.In:=by decide)(h2:op≠.NotIn:=by decide):behindInMarks op b=false:=by
 have R:(op==CmpOp.In)=false:=by cases op <;> first|rfl|exact absurd rfl h
 have e2:(op==CmpOp.NotIn)=false:=by cases op <;> first|rfl|exact absurd rfl h2
 cases b <;> simp[behindInMarks,R,e2]
theorem Jf(ho:fK X (compareOp op) r)(ha:PE X a ta)(hb:PE X b tb)(hm:behindInMarks op b=false):PE X (.Compare a [op] [b] pos)<|kH r ta tb:=by
 intro O s σ H Q I h;exact wpAny_Compare1 (ya ha hb I h λv u s2 x y H2 I2 rx ry q=>ho O s2 σ H2 x y v u Q I2 rx ry q) hm
def l8(t:TE):TT:=λσ H Q=>t σ H λx H'=>∃k,x=.bl k/\Q k H'
theorem YT{op:CmpOp}{r:R2}(ho:fK X (compareOp op) r)(ha:PE X a ta)(hb:PE X b tb)(hm:behindInMarks op b=false):PT X (.Compare a [op] [b] pos)<|l8<|kH r ta tb:=by
 intro O s σ H Q I h;refine wpAny_isTrue_Compare1 (cJ (ha O s σ H _ I h) λv s1 ⟨x,H1,I1,r1,q1⟩=>cJ (hb O s1 σ H1 _ I1 q1) λu s2 ⟨y,H2,I2,r2,q2⟩=>
  cJ (ho O s2 σ H2 x y v u _ I2 r1 r2 q2) λc s3 ⟨z,H3,I3,r3,k,e,q3⟩=>?_) hm
 subst e;cases r3;exact wpAny_truthy_bool ⟨H3,I3,q3⟩
def YMi(r r':R2)(ta tb tc:TE):TE:=λσ H Q=>ta σ H λx H1=>tb σ H1 λy H2=>r x y H2 λz H3=>∃k,z=.bl k/\
 (if k=true then tc σ H3 λw' H4=>r' y w' H4 Q else Q (.bl false) H3)
theorem YCq{op rH:CmpOp}{r r':R2}(ho:fK X (compareOp op) r)(ho':fK X (compareOp rH) r')(ha:PE X a ta)(hb:PE X b tb)(hc:PE X c tc)
  (hm:lastMarks [op,rH] [b,c]=false:=by with_unfolding_all rfl):PE X (.Compare a [op,rH] [b,c] pos)<|YMi r r' ta tb tc:=by
 intro O s σ H Q I h;refine Compare_chain (cJ (ha O s σ H _ I h) λv s1 ⟨x,H1,I1,r1,q1⟩=>chain_link<|cJ (hb O s1 σ H1 _ I1 q1) λu s2 ⟨y,H2,I2,r2,q2⟩=>
  cJ (ho O s2 σ H2 x y v u _ I2 r1 r2 q2) λd s3 ⟨z,H3,I3,r3,k,e,q3⟩=>?_) hm
 subst e;cases r3;refine wpAny_truthy_bool ?_;cases k with
 |false=>exact ite_ff ⟨.bl false,H3,I3,Z,q3⟩
 |true=>exact ite_tt<|chain_last<|cJ (hc O s3 σ H3 _ I3 q3) λw' s4 ⟨z',H4,I4,r4,q4⟩=>ho' O s4 σ H4 y z' u w' Q I4 r2 r4 q4
theorem YIC{op rH:CmpOp}{r r':R2}(ho:fK X (compareOp op) r)(ho':fK X (compareOp rH) r')(ha:PE X a ta)(hb:PE X b tb)(hc:PE X c tc)
  (hm:lastMarks [op,rH] [b,c]=false:=by with_unfolding_all rfl):PT X (.Compare a [op,rH] [b,c] pos)<|l8<|YMi r r' ta tb tc:=by
 intro O s σ H Q I h;refine isTrue_chain (cJ (ha O s σ H _ I h) λv s1 ⟨x,H1,I1,r1,q1⟩=>test_link<|cJ (hb O s1 σ H1 _ I1 q1) λu s2 ⟨y,H2,I2,r2,q2⟩=>
  cJ (ho O s2 σ H2 x y v u _ I2 r1 r2 q2) λd s3 ⟨z,H3,I3,r3,k,e,q3⟩=>?_) hm
 subst e;cases r3;refine wpAny_truthy_bool ?_;cases k with
 |false=>
  obtain⟨k',e',q'⟩:=q3;cases e';exact ite_ff ⟨H3,I3,q'⟩
 |true=>
  refine ite_tt<|test_last<|cJ (hc O s3 σ H3 _ I3 q3) λw' s4 ⟨z',H4,I4,r4,q4⟩=>cJ (ho' O s4 σ H4 y z' u w' _ I4 r2 r4 q4) ?_;rintro d' s5 ⟨z2,H5,I5,r5,k2,e2,q5⟩;subst e2;cases r5;exact wpAny_truthy_bool ⟨H5,I5,q5⟩
def w8(K:W.Frag)(x:V)(H:L)(k:Bool):Prop:=
 match x with
 |.non=>k=false
 |.bl b=>k=b
 |.int i=>k=(i !=0)
 |.str y=>y.length<=sizeLine/\k=((y.length:Int) !=0)
 |.byt y=>y.size<=sizeLine/\k=((y.size:Int) !=0)
 |.ref p=>(∃xs,aX K H p xs/\k=!xs.isEmpty)\/(∃xs,cy K H p xs/\k=!xs.isEmpty)\/∃kvs,H p=some (.dK kvs)/\k=!kvs.isEmpty
 |_=>False
theorem YJh{κ:Type}{kvs:J (κ×V)}{vs:J (κ×ai)}(r:KV kvs vs):(!vs.isEmpty)=!kvs.isEmpty:=by
 cases r <;> rfl
theorem YEu(r:Yt xs its):(!its.toArray.isEmpty)=!xs.isEmpty:=by
 cases r <;> simp
theorem vE:(sizeLine:Nat)<2^63:=by rw[sizeLine_eq];decide
theorem yA:TruR X (λx H Q=>∃k,w8 X.K x H k/\Q k H):=by
 intro O s σ H x v Q I rx h;obtain⟨k,e,q⟩:=h;have hl:=vE;have hs:sizeLine=16777216:=sizeLine_eq;cases x with
 |non=>
  cases rx;have e':k=false:=e;subst e';exact truthy_none ⟨H,I,q⟩
 |bl b=>
  cases rx;have e':k=b:=e;subst e';exact wpAny_truthy_bool ⟨H,I,q⟩
 |int i=>
  obtain⟨t,rfl⟩:=rx;have e':k=(i !=0):=e;subst e';exact PySem.P.truthy_int ⟨H,I,q⟩
 |str y=>
  obtain⟨t,rfl⟩:=rx;obtain⟨hy,e'⟩:y.length<=sizeLine/\k=((y.length:Int) !=0):=e;subst e';exact PySem.P.truthy_str (by lia) ⟨H,I.tok _,q⟩
 |byt y=>
  obtain⟨t,rfl⟩:=rx;obtain⟨hy,e'⟩:y.size<=sizeLine/\k=((y.size:Int) !=0):=e;subst e';exact PySem.W.truthy_bytes (by lia) ⟨H,I.tok _,q⟩
 |ref p=>
  cases rx;have e':(∃xs,aX X.K H p xs/\k=!xs.isEmpty)\/(∃xs,cy X.K H p xs/\k=!xs.isEmpty)\/∃kvs,H p=some (.dK kvs)/\k=!kvs.isEmpty:=e;rcases e' with ⟨xs,U,e'⟩|⟨xs,U,e'⟩|⟨kvs,U,e'⟩
  subst e';obtain⟨its,r,pl,hz⟩:=I.list U;have hlen:=r.length;exact wpAny_truthy_list pl.isList (by simp only[YOp];lia) ⟨H,I.tok _,by rw[YEu r];exact q⟩;subst e';obtain⟨its,r,pl,hz⟩:=I.tuple U;have hlen:=r.length;exact truthy_tuple pl (by simp only[YOp];lia) ⟨H,I.tok _,by rw[YEu r];exact q⟩;subst e';obtain⟨hz,hS,vs,r,m⟩:kvs.length<=sizeLine/\(p==sysModules)=false/\∃vs,KV kvs vs/\s.heap.DictOf (Yk X.prog X.w) p vs:=I.hok p _ U;have hlen:kvs.length=vs.length:=Paired.length r;exact wpAny_truthy_dict hS m (by lia) ⟨H,I.tok _,by rw[YJh r];exact q⟩
 |_=>exact(show False from e).elim
theorem YMj(ha:PE X a ta)(he:∀whole,isTrue a X.env whole=(do let v <-whole;standAt a.pos;holding [v]<|truthy v)):
  PT X a (λσ H Q=>ta σ H λx H'=>∃k,w8 X.K x H' k/\Q k H'):=by
 intro O s σ H Q I h;exact isTrue_plain (cJ (ha O s σ H _ I h) λv s1 ⟨x,H1,I1,r1,q1⟩=>yA O s1 σ H1 x v Q I1 r1 q1)<|he _
theorem Jk:fK X (binaryOp .Add) (λx y H Q=>∃i j,x=.str i/\y=.str j/\i.length+j.length<=sizeLine/\Q (.str<|i++j) H):=by
 intro O s σ H x y v u Q I rx ry h;obtain⟨i,j,rfl,rfl,hz,q⟩:=h;obtain⟨t,rfl⟩:=rx;obtain⟨t',rfl⟩:=ry;exact add_str (λt' tk=>⟨.str<|i++j,H,I.tok _,⟨_,Z⟩,q⟩) hz
theorem j2(r:Yt [x] us):∃u,us=[u]/\Yx x u:=by
 cases r with
 |cons r1 r2=>cases r2;exact⟨_,Z,r1⟩
theorem ly(r:Yt [x,y] us):∃u w',us=[u,w']/\Yx x u/\Yx y w':=by
 cases r with
 |cons r1 r2=>
  cases r2 with
  |cons r3 r4=>cases r4;exact⟨_,_,Z,r1,r3⟩
theorem YGM(hc:X.calm=true):Jy X (.builtin "min") (λxs H Q=>∃i j,xs=[.int i,.int j]/\Q (.int (if j<i then j else i)) H):=by
 intro O s σ H xs us Q I r h;obtain⟨i,j,rfl,q⟩:=h;obtain⟨u,w',rfl,⟨t,rfl⟩,⟨t',rfl⟩⟩:=ly r;refine min_two_ints (I.ok.hd hc) λh' tk k=>⟨_,H,I.kept k,?_,q⟩;by_cases hj:j<i;rw[if_pos hj,if_pos hj];exact⟨_,Z⟩;rw[if_neg hj,if_neg hj];exact⟨_,Z⟩
theorem YGN:Jy X (.type "int") (λxs H Q=>(∃i,xs=[.int i]/\Q (.int i) H)\/∃k,xs=[.bl k]/\Q (.int (if k then 1 else 0)) H):=by
 intro O s σ H xs us Q I r h;rcases h with ⟨i,rfl,q⟩|⟨k,rfl,q⟩
 obtain⟨u,rfl,t,rfl⟩:=j2 r;exact call_int_int ⟨.int i,H,I,⟨_,Z⟩,q⟩;obtain⟨u,rfl,r1⟩:=j2 r;cases r1;exact call_int_bool ⟨.int (if k then 1 else 0),H,I.tok _,⟨_,Z⟩,q⟩
theorem YMk:Jy X (.builtin "ord") (λxs H Q=>∃x,xs=[.str x]/\x.length=1/\Q (.int (x.cps.getD 0 0:Nat)) H):=by
 intro O s σ H xs us Q I r h;obtain⟨x,rfl,hz,q⟩:=h;obtain⟨u,rfl,t,rfl⟩:=j2 r;exact ord_of_one hz ⟨.int _,H,I.tok _,⟨_,Z⟩,q⟩
end
structure iO(h:Heap)(x B C:Addr)(mA:Str->Option Value):Prop where
 obj:h.get? x=some (PySem.W.instObj C B)
 ns:h.Ns1 B mA
 ne:B≠x
theorem YLr{h:Heap}{B:al}{mA:av->ah ai}(n:h.Ns1 B mA):∃od,h.get? B=some od/\∀name,PySem.W.lookIn name od=some (mA name):=by
 obtain⟨o,es,ep,ho,hd,hk,_,hm⟩:=n;refine⟨o,ho,λname=>?_⟩;have e:=hm name;unfold nsFind findBy at e;rw[<-Array.find?_toList]at e;unfold PySem.W.lookIn;rw[hd];dsimp only;split;rename_i y q;rw[q]at e;exact fZ some e;rename_i q;rw[q]at e;have a:es.toList.any (·.refKey)=false:=by
  rw[List.any_eq_false];intro y hy;obtain⟨z,t,hkey⟩:=hk y<|Array.mem_toList_iff.mp hy;simp[DictEntry.refKey,hkey]
 have a':¬es.toList.any (·.refKey)=true:=by rw[a];exact YOu
 rw[if_neg a'];exact fZ some e
theorem iO.look(I:iO h x B C mA):∃od,PySem.W.InstAt h x (PySem.W.instObj C B) C (some od)/\∀name,PySem.W.lookIn name od=some (mA name):=
 let ⟨od,ho,hl⟩:=YLr I.ns
 ⟨od,⟨I.obj,Z,Z,ho⟩,hl⟩
section
variable {prog:Program}{w:World}{A:Around}{E:ai->ar->Prop}{s:ar}{K:W.Frag}{x B C f:al}{mA:av->ah ai}{name:av}{v:ai}
theorem o8{Q:ai->ar->Prop}(X:K.In s.heap)(I:iO s.heap x B C mA)(hg:PySem.W.plainGet K C name=true)(hh:PySem.W.hasDictIn K C=true)
  (ha:PySem.W.findIn K (.ref C) name=some none)(hv:mA name=some v)(hv':PySem.W.handedIn v=true)(h:Q v { s with toks:=s.toks+1 }):
  wpAny (model prog w) A (getAttr (.ref x) name expr) Q E s:=by
 obtain⟨od,Dq,hl⟩:=I.look;exact PySem.W.get_value X Dq (PySem.W.plainGet_of hg).1 (PySem.W.findObj_own hh ha Z (by rw[hl,hv])) hv' h
theorem YMl{Q:ai×J ai->ar->Prop}(X:K.In s.heap)(I:iO s.heap x B C mA)(hg:PySem.W.plainGet K C name=true)
  (hf:PySem.W.findIn K (.ref C) name=some (some<|.ref f))(ht:PySem.W.isFn K (.ref f)=true)(hv:mA name=none)(h:Q (.ref f,[.ref x]) s):
  wpAny (model prog w) A (getMethod (.ref x) name pl) Q E s:=by
 obtain⟨od,Dq,hl⟩:=I.look;exact PySem.W.method_fn X Dq (PySem.W.plainGet_of hg).1 (PySem.W.plainGet_of hg).2 hf (beq_iff_eq.mp ht) (by show(PySem.W.lookIn name od).map (·.isSome)=some false;rw[hl,hv];rfl) h
theorem mI{Q:Unit->ar->Prop}(X:K.In s.heap)(I:iO s.heap x B C mA)
  (hs:PySem.W.findIn K (.ref C) "__setattr__"=some (some<|.builtin "object.__setattr__"))(hp:PySem.W.plainOver K C=true)(ht:PySem.W.takerIn K C name=some none)(hh:PySem.W.hasDictIn K C=true)
  (hw:PySem.Within mA ns)(hsz:ns.length<=sizeLine)
  (h:∀h',iO h' x B C (λy=>if y=name then some v else mA y)->Heap.SameBut B s.heap h'->Q () { s with heap:=h',toks:=s.toks+2 }):
  wpAny (model prog w) A (setAttr (.ref x) name v) Q E s:=by
 obtain⟨od,Dq,hl⟩:=I.look;refine PySem.W.set_plain X Dq hs<|PySem.W.osa_open (s:={ s with toks:=s.toks+1 }) (r:=none) X Dq hp ht λb=>?_;obtain⟨cd,hc,hd'⟩:=PySem.W.any_some hh;have U:s.heap.get? x=some ⟨.ref C,some B,.plain,#[]⟩:=I.obj;refine YOh<|YO0<|YOh<|YOh<|wpAny_loadPart U<|YOh<|PySem.W.Looks.here (s:={ s with toks:=s.toks+1 }) (PySem.W.looks_clsIn X hc) ?_;rw[hd'];refine YO0 (a:=some B)<|YOh<|YO0<|YOh ?_;refine wpAny_nsSet1 (s:={ s with toks:=s.toks+1 }) I.ns λh' hn2 hs2=>?_;obtain⟨oD,esD,epD,hoD,hdD,hcD⟩:=hn2.count<|PySem.Within.cons name v hw;refine YOh<|wpAny_lookBehind hoD (by rw[hdD];exact pastItsLine_dict<|YO1 hcD (by rw[YOx];lia)) ?_;exact YO0<|h _ ⟨(hs2.2 _<|Ne.symm I.ne).trans I.obj,hn2,I.ne⟩ hs2
theorem YMm{Dt:Result->ar->Prop}(X:K.In s.heap)(hm:PySem.W.makesIn K C=true)
  (hi:PySem.W.findIn K (.ref C) "__init__"=some (some<|.ref f))(hf:PySem.W.typeIn K (.ref f)=some (.type "function"))
  (h:codeAny (model prog w) (A.under<|.builtin "type.__call__" ⟨.ref C::vs,kw⟩) (.call (.ref f) ⟨.ref (s.heap.objs.size+1)::vs,kw⟩) (PySem.W.InitBack (s.heap.objs.size+1) Dt)
   { s with heap:=(s.heap.push PySem.W.emptyDict).push (PySem.W.instObj C s.heap.objs.size) }):
  codeAny (model prog w) A (.call (.ref C) ⟨vs,kw⟩) Dt s:=by
 obtain⟨hh,g,d,t,os⟩:=s;exact PySem.W.make_core (PySem.W.makes_of X hm) (PySem.W.looks_findIn X hi) (λself=>PySem.W.bind_fn X self hf) (.inl Z) h
end
def Yf(f:av)(v:V):J (av×V)->J (av×V)
 |[]=>[(f,v)]
 |(g,x)::r=>if g=f then (g,v)::r else (g,x)::Yf f v r
theorem YD6(f g:av)(v:V):∀fs:J<|av×V,(Yf f v fs).lookup g=if g=f then some v else fs.lookup g
 |[]=>by
  show List.lookup g [(f,v)]=_;by_cases h:g=f;have hb:(g==f)=true:=beq_iff_eq.mpr h;simp only[List.lookup,hb,if_pos h];have hb:(g==f)=false:=beq_eq_false_iff_ne.mpr h;simp only[List.lookup,hb,if_neg h]
 |(k,x)::r=>by
  have ih:=YD6 f g v r;rw[show Yf f v ((k,x)::r)=(if k=f then (k,v)::r else (k,x)::Yf f v r) from Z];by_cases hk:k=f;rw[if_pos hk];by_cases h:g=k;have hb:(g==k)=true:=beq_iff_eq.mpr h;simp only[List.lookup,hb,if_pos<|h.trans hk];have hb:(g==k)=false:=beq_eq_false_iff_ne.mpr h;simp only[List.lookup,hb,if_neg<|λe:g=f=>h<|e.trans hk.symm];rw[if_neg hk];by_cases h:g=k;have hb:(g==k)=true:=beq_iff_eq.mpr h;simp only[List.lookup,hb,if_neg<|λe:g=f=>hk<|h.symm.trans e];have hb:(g==k)=false:=beq_eq_false_iff_ne.mpr h;simp only[List.lookup,hb];exact ih
theorem YDV(f:av)(v:V):∀fs:J<|av×V,f∈(Yf f v fs).map (·.1)/\∀g,g∈fs.map (·.1)->g∈(Yf f v fs).map (·.1)
 |[]=>⟨by simp[Yf],λg h=>by simp at h⟩
 |(k,x)::r=>by
  obtain⟨i1,i2⟩:=YDV f v r;rw[show Yf f v ((k,x)::r)=(if k=f then (k,v)::r else (k,x)::Yf f v r) from Z];by_cases hk:k=f;rw[if_pos hk];subst hk;exact⟨by simp,λg h=>by simpa using h⟩;rw[if_neg hk];refine⟨?_,λg h=>?_⟩;rw[YOv];exact YOV _ i1;rw[YOv]at h ⊢;rcases YOj.mp h with e|e
  exact YOj.mpr<|.inl e;exact YOV _<|i2 g e
theorem YD7(f:av)(v:V):∀fs:J<|av×V,(Yf f v fs).length<=fs.length+1
 |[]=>by simp[Yf]
 |(k,x)::r=>by
  have ih:=YD7 f v r;rw[show Yf f v ((k,x)::r)=(if k=f then (k,v)::r else (k,x)::Yf f v r) from Z];by_cases hk:k=f;rw[if_pos hk,YOx,YOx];lia;rw[if_neg hk,YOx,YOx];lia
theorem ia.some_of(r:ia (some v) o):∃u,o=some u/\Yx v u:=by
 cases o with
 |none=>exact(show False from r).elim
 |some u=>exact⟨u,Z,r⟩
theorem ia.none_of(r:ia none o):o=none:=by
 cases o with
 |none=>rfl
 |some u=>exact(show False from r).elim
theorem YLs(r:Yx v u):PySem.W.handedIn u=true:=by
 cases v with
 |non=>cases (show u=Value.none from r);rfl
 |bl b=>cases (show u=Value.bool b from r);rfl
 |int i=>obtain⟨t,e⟩:=(show ∃t,u=Value.int i t from r);cases e;rfl
 |str x=>obtain⟨t,e⟩:=(show ∃t,u=Value.str x t from r);cases e;rfl
 |byt b=>obtain⟨t,e⟩:=(show ∃t,u=Value.bytes b t from r);cases e;rfl
 |flt b=>obtain⟨t,e⟩:=(show ∃t,u=Value.float b t from r);cases e;rfl
 |ref a=>cases (show u=Value.ref a from r);rfl
 |ty n=>cases (show u=Value.type n from r);rfl
section
variable {P:Program}{w:World}{H H':L}{h h':Heap}{a C B:al}{fs kY:J (av×V)}
theorem YEh(hok:fG P w H h)(e:H a=some (.ins C B fs)):∃mA,iO h a B C mA/\(∀f,ia (fs.lookup f)<|mA f)/\PySem.Within mA (fs.map (·.1))/\fs.length<=1000/\H B=some (.own a):=by
 obtain⟨d,z,ne,ob,mA,n,r,q⟩:=(show Y7 P w H h a (.ins C B fs) from hok a _ e);exact⟨mA,⟨ob,n,ne⟩,r,q,z,d⟩
end
structure g9(K:W.Frag)(C:Addr):Prop where
 pg:PySem.W.plainGet K C Str.empty=true
 hd:PySem.W.hasDictIn K C=true
 po:PySem.W.plainOver K C=true
 sa:PySem.W.findIn K (.ref C) "__setattr__"=some (some<|.builtin "object.__setattr__")
theorem g9.get{K:W.Frag}{C:al}(c:g9 K C)(f:av):PySem.W.plainGet K C f=true:=c.pg
def ZA(K:W.Frag)(C:al)(f:av):Prop:=PySem.W.findIn K (.ref C) f=some none
theorem ZA.taker{K:W.Frag}{C:al}{f:av}(n:ZA K C f):PySem.W.takerIn K C f=some none:=by
 unfold PySem.W.takerIn;rw[show PySem.W.findIn K (.ref C) f=some none from n];rfl
structure ou(K:W.Frag)(C:Addr)(m:Str)(f:Addr):Prop where
 at_:PySem.W.findIn K (.ref C) m=some (some<|.ref f)
 fn:PySem.W.isFn K (.ref f)=true
 kp:PySem.W.keepIn K (.ref f)=true
section
variable {X:Cx}{O:J (al×Obj)}{σ:St}{H:L}{s:ar}{a C B:al}{fs:J (av×V)}{f:av}{v:V}{A:Around}{E:ai->ar->Prop}
theorem YEv{Q:ai->ar->Prop}(I:aW X O σ H s)(e:H a=some (.ins C B fs))(c:g9 X.K C)(n:ZA X.K C f)(l:fs.lookup f=some v)
  (h:∀u s',aW X O σ H s'->Yx v u->Q u s'):wpAny (model X.prog X.w) A (getAttr (.ref a) f b) Q E s:=by
 obtain⟨mA,Dk,r,_,_,_⟩:=YEh I.hok e;obtain⟨u,hu,ru⟩:=ia.some_of (v:=v) (o:=mA f) (by rw[<-l];exact r f);exact o8 I.kIn Dk (c.get f) c.hd n hu (YLs ru)<|h u _ (I.tok _) ru
theorem YEw{Q:ai×J ai->ar->Prop}(I:aW X O σ H s)(e:H a=some (.ins C B fs))(c:g9 X.K C)(k:ou X.K C m g)(l:fs.lookup m=none)
  (h:Q (.ref g,[.ref a]) s):wpAny (model X.prog X.w) A (getMethod (.ref a) m pl) Q E s:=by
 obtain⟨mA,Dk,r,_,_,_⟩:=YEh I.hok e;have hn:mA m=none:=ia.none_of (by rw[<-l];exact r m);exact YMl I.kIn Dk (c.get m) k.at_ k.fn hn h
theorem YEx{Q:Unit->ar->Prop}(I:aW X O σ H s)(e:H a=some (.ins C B fs))(c:g9 X.K C)(n:ZA X.K C f)(hl:fs.length<1000)(ry:Yx y u)
  (h:∀s',aW X O σ (upd H a<|.ins C B<|Yf f y fs) s'->Q () s'):wpAny (model X.prog X.w) A (setAttr (.ref a) f u) Q E s:=by
 obtain⟨mA,Dk,r,wi,_,ho⟩:=YEh I.hok e;have hz:(fs.map (·.1)).length<=sizeLine:=by rw[YOS,sizeLine_eq];lia
 refine mI I.kIn Dk c.sa c.po n.taker c.hd wi hz λh' O' sb=>h _ ?_;have hd:∃o,h'.get? B=some o:=let ⟨o,_,_,e',_⟩:=O'.ns;⟨o,e'⟩
 refine I.write (x:=a) (e:=B) (by rw[e];exact True.intro) (.inr ho) (λb q hb z=>(sb.2 b hb).trans z) hd ?_;refine⟨by rw[YB Dk.ne];exact ho,?_,Dk.ne,O'.obj,_,O'.ns,λg=>?_,λg hg=>?_⟩;have:=YD7 f y fs;lia;show ia ((Yf f y fs).lookup g) (if g=f then some u else mA g);rw[YD6];by_cases q:g=f;rw[if_pos q,if_pos q];exact ry;rw[if_neg q,if_neg q];exact r g;by_cases q:g=f;rw[q];exact(YDV f y fs).1;refine(YDV f y fs).2 g (wi g λz=>hg ?_);show(if g=f then some u else mA g)=none;rw[if_neg q];exact z
theorem aW.made(I:aW X O σ H s):aW X O σ (upd (upd H s.heap.objs.size<|.own<|s.heap.objs.size+1) (s.heap.objs.size+1)<|.ins C s.heap.objs.size [])
  { s with heap:=(s.heap.push PySem.W.emptyDict).push (PySem.W.instObj C s.heap.objs.size) }:=by
 have R:(s.heap.push PySem.W.emptyDict).get? s.heap.objs.size=some PySem.W.emptyDict:=YOy s.heap Z;have e2:((s.heap.push PySem.W.emptyDict).push<|PySem.W.instObj C s.heap.objs.size).get? (s.heap.objs.size+1)=some (PySem.W.instObj C s.heap.objs.size):=by
  have:=YOy (s.heap.push PySem.W.emptyDict) (o:=PySem.W.instObj C s.heap.objs.size) Z
  rwa [Heap.size_push]at this
 have e3:(s.heap.push PySem.W.emptyDict).Ns s.heap.objs.size<|λ_=>none:=⟨PySem.W.emptyDict,#[],_,R,Z,(λe he=>absurd he (by simp)),λ_=>rfl⟩;have I1:=I.laid (a:=s.heap.objs.size) (o:=.own<|s.heap.objs.size+1) (h':=s.heap.push PySem.W.emptyDict) (t':=s.toks) (λb u q=>YOi _ q) (YOY _) ⟨_,R⟩;refine I1.laid (a:=s.heap.objs.size+1) (o:=.ins C s.heap.objs.size []) (t':=s.toks) (λb u q=>YOi _ q) (Nat.le_of_eq<|Heap.size_push _ _) ?_;have ne:s.heap.objs.size≠s.heap.objs.size+1:=YPC<|YPO _;refine⟨by rw[YB ne,YA],YOn _,ne,e2,λ_=>none,(Heap.Ns1.of_empty e3).at λo q=>YOi _ q,λ_=>True.intro,λy hy=>absurd rfl hy⟩
theorem nv{Q:ai->ar->Prop}(hb:attributeBase e f env (eval e env)=eval e env)
  (h:wpAny (model prog w) A (eval e env) (λo s₁=>wpAny (model prog w) A (getAttr o f true) Q E s₁) E s):wpAny (model prog w) A (eval (.Attribute e f pos) env) Q E s:=
 Attribute_any_ h (by rw[arm_eval_Attribute,hb])
end
inductive vc(K:W.Frag)(f:Str)(Q:VK)(x:V)(H1:L):Prop
 |mk (a:_)(C:_)(B:_)(fs:_)(v:_):x=.ref a->H1 a=some (.ins C B fs)->g9 K C->ZA K C f->fs.lookup f=some v->Q v H1->vc K f Q x H1
def xR(K:W.Frag)(ta:TE)(f:av):TE:=λσ H Q=>ta σ H λx H1=>vc K f Q x H1
inductive vT(K:W.Frag)(f:Str)(D:Ja)(σ:St)(y x:V)(H2:L):Prop
 |mk (a:_)(C:_)(B:_)(fs:_):x=.ref a->H2 a=some (.ins C B fs)->g9 K C->ZA K C f->fs.length<1000->D.nx σ (upd H2 a (.ins C B (Yf f y fs)))->vT K f D σ y x H2
def x9(K:W.Frag)(ta tv:TE)(f:av):TS:=λD σ H=>tv σ H λy H1=>ta σ H1 λx H2=>vT K f D σ y x H2
def wo(X:Cx)(op:Operator)(rd:V->V->L->VK->Prop):Prop:=
 ∀(O:J<|al×Obj) (s:ar) (σ:St) (H:L) (x y:V) (u v:ai) (Q:VK),aW X O σ H s->Yx x u->Yx y v->rd x y H Q->wpAny (model X.prog X.w) X.A (inplaceOp op u v) (EP X O σ Q) X.xe s
def YKf(K:W.Frag)(ta tv:TE)(rd:V->V->L->VK->Prop)(f:av):TS:=λD σ H=>ta σ H λx H1=>∃a C B fs v,x=.ref a/\H1 a=some (.ins C B fs)/\g9 K C/\ZA K C f/\fs.lookup f=some v/\
 tv σ H1 λy H2=>rd v y H2 λz H3=>∃rJ kY,H3 a=some (.ins C rJ kY)/\kY.length<1000/\D.nx σ (upd H3 a<|.ins C rJ<|Yf f z kY)
section
variable {X:Cx}{o e value:Expr}{f:av}{pos gq iV:Pos}{ta tv:TE}
theorem y7(he:PE X e ta)(hb:attributeBase e f X.env (eval e X.env)=eval e X.env):PE X (.Attribute e f pos)<|xR X.K ta f:=by
 intro O s σ H Q I h;refine nv hb<|cJ (he O s σ H _ I h) ?_;rintro u s1 ⟨x,H1,I1,rx,a,C,B,fs,v,ex,ea,c,n,l,q⟩;subst ex;obtain rfl:u=Value.ref a:=rx;exact YEv I1 ea c n l λu' s2 I2 ru=>⟨v,H1,I2,ru,q⟩
theorem yv(ha:PE X o ta)(hv:PE X value tv)(hs:swapsWith value (some<|.Attribute o f gq) pos.line X.env=pure false):PS X (.Assign [.Attribute o f gq] value pos)<|x9 X.K ta tv f:=by
 intro O s σ H D I h;refine plainObj_wpAny_Assign_Attribute (cJ (hv O s σ H _ I h) λu s1 ⟨y,H1,I1,ry,q⟩=>cJ (ha O s1 σ H1 _ I1 q) λov s2 ⟨x,H2,I2,rx,a,C,B,fs,ex,ea,c,n,l,q2⟩=>?_) hs;subst ex;obtain rfl:ov=Value.ref a:=rx;exact YEx I2 ea c n l ry λs3 I3=>⟨σ,_,I3,q2⟩
theorem YLt{op:Operator}{rd:V->V->L->VK->Prop}(ha:PE X o ta)(hv:PE X value tv)(hop:wo X op rd):PS X (.AugAssign (.Attribute o f iV) op value pos)<|YKf X.K ta tv rd f:=by
 intro O s σ H D I h;refine wpAny_AugAssign_AttributeAny<|cJ (ha O s σ H _ I h) ?_;rintro ov s1 ⟨x,H1,I1,rx,a,C,B,fs,v,ex,ea,c,n,l,q⟩;subst ex;obtain rfl:ov=Value.ref a:=rx;refine YEv I1 ea c n l λu s2 I2 ru=>cJ (hv O s2 σ H1 _ I2 q) λw3 s3 ⟨y,H2,I3,ry,q3⟩=>cJ (hop O s3 σ H2 v y u w3 _ I3 ru ry q3) ?_;rintro w4 s4 ⟨z,H3,I4,rz,rJ,kY,Wl,l',q4⟩;exact YEx I4 Wl c n l' rz λs5 I5=>⟨σ,_,I5,q4⟩
def rAdd:V->V->L->VK->Prop:=λx y H Q=>∃i j,x=.int i/\y=.int j/\Q (.int<|i+j) H
theorem xK:wo X .Add rAdd:=by
 rintro O s σ H x y u v Q I rx ry ⟨i,j,rfl,rfl,q⟩;obtain⟨t,rfl⟩:=(show ∃t,u=Value.int i t from rx);obtain⟨t',rfl⟩:=(show ∃t',v=Value.int j t' from ry);exact PyProof.Rows.iadd_int ⟨.int<|i+j,H,I.tok _,⟨_,Z⟩,q⟩
end
section
variable {X:Cx}{O:J (al×Obj)}{σ:St}{H:L}{s:ar}{A:Around}{E Q:ai->ar->Prop}{c:ai}{b:Bool}
inductive iX(K:W.Frag)(H:L):V->Value->Prop where
 |non:iX K H .non (.type "NoneType")
 |bl (x:Bool):iX K H (.bl x) (.type "bool")
 |int (i:Int):iX K H (.int i) (.type "int")
 |str (x:Str):iX K H (.str x) (.type "str")
 |flt (x:UInt64):iX K H (.flt x) (.type "float")
 |lst {a:Addr}{xs:List V} (e:H a=some (.lst xs)):iX K H (.ref a) (.type "list")
 |frz {a:Addr}{o:Obj}{xs:List V} (e:H a=some (.frz o (.lst xs))):iX K H (.ref a) (.type "list")
 |tup {a:Addr}{xs:List V} (e:H a=some (.tup xs)):iX K H (.ref a) (.type "tuple")
 |dK {a:Addr}{kvs:List (c_×V)} (e:H a=some (.dK kvs)):iX K H (.ref a) (.type "dict")
 |dT {a:Addr}{kvs:List (List c_×V)} (e:H a=some (.dT kvs)):iX K H (.ref a) (.type "dict")
 |ins {a C B:Addr}{fs:List (Str×V)} (e:H a=some (.ins C B fs)) (cl:g9 K C) (ha:PySem.W.findIn K (.ref C) "__class__"=some (some (.builtin "object.__class__")))
   (hn:PySem.W.specialIn K (.builtin "object.__class__") "__get__"=some (some<|.builtin "getset_descriptor.__get__")) (iH:PySem.W.takesIn K (.builtin "object.__class__")=some true)
   (hm:PySem.W.mroIn K C (.type "object")=some true):iX K H (.ref a)<|.ref C
theorem YLu(I:aW X O σ H s)(rx:Yx x u)(ty:iX X.K H x t)(e:PySem.W.kitOne X.K t c=some b)(h:∀tk,Q (.bool b) { s with toks:=tk }):
  wpAny (model X.prog X.w) A (call (.builtin "isinstance") [u,c]) Q E s:=by
 cases ty with
 |non=>cases (show u=Value.none from rx);exact PySem.W.kia_one PySem.W.kitx_none I.kIn True.intro e nofun h
 |bl y=>cases (show u=Value.bool y from rx);exact PySem.W.kia_one PySem.W.kitx_bool I.kIn True.intro e nofun h
 |int i=>obtain⟨t,q⟩:=(show ∃t,u=Value.int i t from rx);cases q;exact PySem.W.kia_one PySem.W.kitx_int I.kIn True.intro e nofun h
 |str y=>obtain⟨t,q⟩:=(show ∃t,u=Value.str y t from rx);cases q;exact PySem.W.kia_one PySem.W.kitx_str I.kIn True.intro e nofun h
 |flt y=>obtain⟨t,q⟩:=(show ∃t,u=Value.float y t from rx);cases q;exact PySem.W.kia_one PySem.W.kitx_float I.kIn True.intro e nofun h
 |@lst a xs ea=>
  cases (show u=Value.ref a from rx);obtain⟨_,_,n,_,h1⟩:=(show Y7 X.prog X.w H s.heap a (.lst xs) from I.hok a _ ea);exact PySem.W.kia_one PySem.W.kitx_list I.kIn ⟨_,h1,Z⟩ e nofun h
 |@frz a ob xs ea=>
  cases (show u=Value.ref a from rx);obtain⟨_,_,_,n,_,h1⟩:=(show Y7 X.prog X.w H s.heap a (.frz ob<|.lst xs) from I.hok a _ ea);exact PySem.W.kia_one PySem.W.kitx_list I.kIn ⟨_,h1,Z⟩ e nofun h
 |@tup a xs ea=>
  cases (show u=Value.ref a from rx);obtain⟨_,_,_,p⟩:=(show Y7 X.prog X.w H s.heap a (.tup xs) from I.hok a _ ea);obtain⟨o,h1,h2,_⟩:=p;exact PySem.W.kia_one PySem.W.kitx_tuple I.kIn ⟨o,h1,h2⟩ e nofun h
 |@dK a kvs ea=>
  cases (show u=Value.ref a from rx);obtain⟨_,_,vs,_,p⟩:=(show Y7 X.prog X.w H s.heap a (.dK kvs) from I.hok a _ ea);obtain⟨o,es,ep,h1,h2,_⟩:=p;exact PySem.W.kia_one PySem.W.kitx_dict I.kIn ⟨o,h1,h2.1⟩ e nofun h
 |@dT a kvs ea=>
  cases (show u=Value.ref a from rx);obtain⟨_,_,xs,_,o,es,ep,h1,h2,_⟩:=(show Y7 X.prog X.w H s.heap a (.dT kvs) from I.hok a _ ea);exact PySem.W.kia_one PySem.W.kitx_dict I.kIn ⟨o,h1,h2.1⟩ e nofun h
 |@ins a C B fs ea cl ha hn iH hm=>
  cases (show u=Value.ref a from rx);obtain⟨mA,Dk,_⟩:=YEh I.hok ea;obtain⟨od,Dq,_⟩:=Dk.look;exact PySem.W.kia_one (PySem.W.kitx_own (cl.get _) cl.hd ha hn iH hm) I.kIn Dq e nofun h
end
structure JQ(k:Nat)(A:Around):Prop where
 hd:A.handled=none
 dp:A.depth+3*k+5<recursionLimit
 un:A.units+16*k+200<cLine
theorem JQ.mono(r:JQ k A)(h:j<=k):JQ j A:=⟨r.hd,by have:=r.dp;lia,by have:=r.un;lia⟩
theorem JQ.deeper(r:JQ (k+1) A)(env:Env):JQ k<|A.deeper env:=
 ⟨r.hd,by have:=r.dp;show A.depth+1+3*k+5<_;lia,by have:=r.un;show A.units+3+16*k+200<_;lia⟩
theorem YJi{A:Around}{C:al}{us:J ai}{kw:J (av×ai)}:(A.under<|.builtin "type.__call__" ⟨.ref C::us,kw⟩).depth=A.depth+1:=by
 first|rfl|simp[Around.under,Code.weight,Code.isCreation,Code.isGuard,Code.isCaller,Code.frames,Code.isFrame,guardIds]
theorem YJj{A:Around}{C:al}{us:J ai}{kw:J (av×ai)}:(A.under<|.builtin "type.__call__" ⟨.ref C::us,kw⟩).units=A.units+1:=by
 first|rfl|simp[Around.under,Code.cUnits,Code.frames,Code.isFrame]
theorem JQ.make(r:JQ (k+1) A)(C:al)(us:J ai)(kw:J<|av×ai):JQ k<|A.under<|.builtin "type.__call__" ⟨.ref C::us,kw⟩:=
 ⟨r.hd,by have:=r.dp;rw[YJi];omega,by have:=r.un;rw[YJj];omega⟩
theorem JQ.depth(r:JQ k A):A.depth<recursionLimit:=by have:=r.dp;omega
theorem JQ.units(r:JQ k A):A.units+64<cLine:=by have:=r.un;lia
def lj:TA:=λ_ H Q=>Q [] H
def mn(ta:TE)(tr:TA):TA:=λσ H Q=>ta σ H λx H1=>tr σ H1 λxs H2=>Q (x::xs) H2
section
variable {X:Cx}{e:Expr}{es:J Expr}{te:TE}{t:TA}{pos:Pos}
theorem Yp:PA X [] lj:=λ_ _ _ _ H Q I h=>Calls.spliced_nil ⟨[],H,I,.nil,h⟩
theorem YI(ha:PE X e te)(hr:PA X es t)(hs:starEach (e::es) X.env=(false,eval e X.env)::starEach es X.env:=by rfl):PA X (e::es)<|mn te t:=by
 intro pos O s σ H Q I h;rw[hs];show wpAny _ _ (spliced<|(false,eval e X.env)::backTo pos (starEach es X.env)) _ _ s;refine Calls.spliced_cons<|cJ (ha O s σ H _ I h) λu s1 ⟨x,H1,I1,r1,q1⟩=>?_;exact cJ (hr pos O s1 σ H1 _ I1 q1) λus s2 ⟨xs,H2,I2,r2,q2⟩=>⟨x::xs,H2,I2,.cons r1 r2,q2⟩
inductive tz(Q:VK)(xs:List V)(H1:L):Prop
 |mk:xs.length<=sizeLine->(∀p,H1 p=none->Q (.ref p) (upd H1 p (.tup xs)))->tz Q xs H1
def Cw(t:TA):TE:=λσ H Q=>t σ H λxs H1=>tz Q xs H1
inductive vt(Q:VK)(xs:List V)(H1:L):Prop
 |mk:xs.length<=sizeLine->(∀p,H1 p=none->Q (.ref p) (upd H1 p (.lst xs)))->vt Q xs H1
def CF(t:TA):TE:=λσ H Q=>t σ H λxs H1=>vt Q xs H1
theorem Y5{x1}(h:PA X es t):PE X (.Tuple es x1 pos)<|Cw t:=by
 intro O s σ H Q I hq;refine wpAny_Tuple_spliced<|cJ (h pos O s σ H _ I hq) λus s1 ⟨xs,H1,I1,r,z,q⟩=>⟨by rw[<-r.length];exact z,?_⟩;have hf:H1 s1.heap.objs.size=none:=I1.hok.fresh<|YOY _;refine⟨.ref s1.heap.objs.size,upd H1 s1.heap.objs.size<|.tup xs,I1.laid (t':=s1.toks) (λb u e=>YOi _ e) (YOY _) ?_,Z,q _ hf⟩;exact⟨z,us,r,⟨_,YOy _ Z,Z,_,Z⟩⟩
theorem Y6(h:PA X es t):PE X (.List es pos)<|CF t:=by
 intro O s σ H Q I hq;refine wpAny_List_spliced<|cJ (h pos O s σ H _ I hq) λus s1 ⟨xs,H1,I1,r,z,q⟩=>⟨by rw[<-r.length];exact z,?_⟩;have hf:H1 s1.heap.objs.size=none:=I1.hok.fresh<|YOY _;refine⟨.ref s1.heap.objs.size,upd H1 s1.heap.objs.size<|.lst xs,I1.laid (t':=s1.toks) (λb u e=>YOi _ e) (YOY _) ?_,Z,q _ hf⟩;exact⟨z,us,0,r,YOy _ Z⟩
end
abbrev Sp:=J V->L->VK->XK->Prop
abbrev gE:=J Env->L->ar->XK->ai->ar->Prop
structure iE(P:Program)(w:World)(K:W.Frag)(mg:Str->Option Value)(base:Heap)(A:Around)(outer:List Env)(s:Shared)(H:L):Prop where
 frames:A.frames=some outer
 mod:Mod K mg base
 bs:∀b o,base.get? b=some o->s.heap.get? b=some o/\H b=none
 bsz:base.objs.size<=s.heap.objs.size
 funs:s.heap.FunFrames base outer
 frf:∀b∈fE outer,H b=none
 hok:fG P w H s.heap
 bare:AllBare s.gens
def CE(outer:J Env)(P:Program)(w:World)(H:L)(s:ar)(Q:VK)(u:ai)(s':ar):Prop:=
 ∃v H',s'.os=s.os/\AllBare s'.gens/\Un (fE outer) [] H H' s.heap s'.heap/\fG P w H' s'.heap/\Yx v u/\Q v H'
def CR(CX:gE)(outer:J Env)(P:Program)(w:World)(H:L)(s:ar)(Q:VK)(E:XK)(r:Result)(s':ar):Prop:=
 match r with
 |.ok (.ret u)=>CE outer P w H s Q u s'
 |.ok _=>False
 |.error e=>CX outer H s E e s'
structure gs(P:Program)(w:World)(K:W.Frag)(mg:Str->Option Value)(base:Heap)(CX:gE)(k:Nat)(f:Addr)(fd:FuncData)(ps:List Str)(sp:Sp):Prop where
 len:∀vs H Q E,sp vs H Q E->vs.length=ps.length
 run:∀(A:Around) (outer:List Env) (s:Shared) (H:L) (args:Args) (us:List Value) (vs:List V) (Q:VK) (E:XK),JQ k A->iE P w K mg base A outer s H->BindsTo s fd args (ps.zip us)->Yt vs us->sp vs H Q E->
  codeAny (model P w) A (.call (.ref f) args) (CR CX outer P w H s Q E) s
theorem iE.make{P:Program}{w:World}{K:W.Frag}{mg:av->ah ai}{base:Heap}{A:Around}{outer:J Env}{s:ar}{H:L}(e:iE P w K mg base A outer s H)(C:al)(us:J ai)(kw:J<|av×ai):
  iE P w K mg base (A.under<|.builtin "type.__call__" ⟨.ref C::us,kw⟩) outer s H:=⟨by first|exact e.frames|(simpa [Around.under,Code.envs,Code.isFrame,pushEnvs] using e.frames),e.mod,e.bs,e.bsz,e.funs,e.frf,e.hok,e.bare⟩
section
variable {X:Cx}{O:J (al×Obj)}{σ:St}{H:L}{s s':ar}
theorem aW.env0(I:aW X O σ H s):iE X.prog X.w X.K X.mg X.base X.A X.stack s H:=
 ⟨I.ok.frames,I.ok.mod,I.bs,YO1 I.ok.bsz I.sz,I.stack,I.stkFree,I.hok,I.bare⟩
theorem aW.after(I:aW X O σ H s)(h:CE X.stack X.prog X.w H s Q u s'):EP X O σ Q u s':=by
 obtain⟨v,H',os,bare,un,hok,r,q⟩:=h;obtain⟨hh,g,d,t,Wm⟩:=s';obtain rfl:Wm=s.os:=os;exact⟨v,H',I.call (h':=hh) (g':=g) (d':=d) (t':=t) (ch:=[]) un hok bare<|λb z=>absurd z (by simp),r,q⟩
end
def vi(sp:Sp)(gC:J V)(E:XK)(t:TA):TE:=λσ H Q=>t σ H λvs H1=>sp (vs++gC) H1 Q E
inductive YMn(C:Addr)(m:Str)(sp:Sp)(gC:List V)(E:XK)(t:TA)(σ:St)(Q:VK)(x:V)(H1:L):Prop
 |mk (a:_)(B:_)(fs:_):x=.ref a->H1 a=some (.ins C B fs)->fs.lookup m=none->(t σ H1 λvs H2=>sp (x::(vs++gC)) H2 Q E)->YMn C m sp gC E t σ Q x H1
def YKg(C:al)(m:av)(sp:Sp)(gC:J V)(E:XK)(ta:TE)(t:TA):TE:=λσ H Q=>ta σ H λx H1=>YMn C m sp gC E t σ Q x H1
def ua(C:al)(sp:Sp)(gC:J V)(E:XK)(t:TA):TE:=λσ H Q=>t σ H λvs H1=>∀x B,H1 x=none->H1 B=none->B≠x->
 sp (.ref x::(vs++gC)) (upd (upd H1 B<|.own x) x<|.ins C B []) (λv H2=>v=.non/\Q (.ref x) H2) E
def kx(K:W.Frag)(fd:FuncData)(ps:J av)(ds:J ai):Prop:=
 ∀(s:ar) (us:J ai),K.In s.heap->(us++ds).length=ps.length->BindsTo s fd ⟨us,[]⟩ (ps.zip<|us++ds)
theorem kx.all{K:W.Frag}{fd:FuncData}{ps:J av}(h:∀us:J ai,us.length=ps.length->bindArgs fd ⟨us,[]⟩=pure (ps.zip us)):kx K fd ps []:=λs us _ hl=>by
 rw[YO6]at hl ⊢;exact .of_eq<|h us hl
def XG(CX:gE)(X:Cx)(E:XK):Prop:=∀(O:J<|al×Obj) (σ:St) (H:L) (s:ar) (e:ai) (s':ar),aW X O σ H s->CX X.stack H s E e s'->X.xe e s'
section
variable {X:Cx}{CX:gE}{k:Nat}{f C:al}{fd:FuncData}{ps:J av}{sp:Sp}{gC:J V}{ds:J ai}{E:XK}{x m:av}{p pos bD:Pos}{e o:Expr}{es:J Expr}{ta:TE}{t:TA}
theorem YJk(F:gs X.prog X.w X.K X.mg X.base CX k f fd ps sp)(hr:JQ k X.A)(hb:kx X.K fd ps ds)(hd:Yt gC ds)(U:XG CX X E)
  (I:aW X O σ H s)(r:Yt vs us)(h:sp (vs++gC) H Q E):wpAny (model X.prog X.w) X.A (call (.ref f) us) (EP X O σ Q) X.xe s:=by
 have r2:Yt (vs++gC)<|us++ds:=r.append hd;have hl:(us++ds).length=ps.length:=by rw[<-r2.length];exact F.len _ _ _ _ h
 refine wpAny_call<|codeAny_mono (F.run X.A X.stack s H ⟨us,[]⟩ (us++ds) (vs++gC) Q E hr I.env0 (hb s us I.kIn hl) r2 h) λr s' hq=>?_;cases r with
 |error e=>exact U O σ H s e s' I hq
 |ok fl=>
  cases fl with
  |ret u=>exact I.after hq
  |next=>exact False.elim hq
  |brk=>exact False.elim hq
  |cont=>exact False.elim hq
theorem oN(F:gs X.prog X.w X.K X.mg X.base CX k f fd ps sp)(hr:JQ k X.A)(hg:Gl X x)(hm:X.mg x=some (.ref f))(hk:PySem.W.keepIn X.K (.ref f)=true)(hb:kx X.K fd ps ds)(hd:Yt gC ds)(U:XG CX X E)
  (ha:PA X (e::es) t)(hdb:(x==("__debug__":av))=false:=by decide)(he:starEach (e::es) X.env=(false,eval e X.env)::starEach es X.env:=by rfl)(hpl:(backTo pos<|starEach es X.env).any (·.1)=false:=by rfl):
  PE X (.Call (.Name x p) (e::es) [] pos) (vi sp gC E t):=by
 intro O s σ H Q I h;refine wpAny_Call_Name_kw<|zn I hg hm ?_ hdb;refine PySem.W.callWith_K (h₀:=X.base) I.ok.mod.kin hk (cJ (ha pos O s σ H _ I h) λus s1 ⟨vs,H1,I1,r,q⟩=>⟨I1.kIn,?_⟩) he hpl;exact YJk F hr hb hd U I1 r q
theorem oQ{pl:Sem Bool}(he:PE X o ta)(c:g9 X.K C)(hm:ou X.K C m f)(F:gs X.prog X.w X.K X.mg X.base CX k f fd ps sp)(hr:JQ k X.A)(hb:kx X.K fd ps ds)(hd:Yt gC ds)(U:XG CX X E)(ha:PA X (e::es) t)
  (hst:starEach (e::es) X.env=(false,eval e X.env)::starEach es X.env:=by rfl)(hpl:(backTo pos<|starEach es X.env).any (·.1)=false:=by rfl)
  (ht:eval (.Call (.Attribute o m bD) (e::es) [] pos) X.env=(do
   let ov <-eval o X.env
   standAt bD.atName
   let (f,first) <-holding [ov] (getMethod ov m pl)
   callWith pos f first (backTo pos<|starEach (e::es) X.env) (backToKw pos<|keywordEach [] X.env)):=by rfl):
  PE X (.Call (.Attribute o m bD) (e::es) [] pos) (YKg C m sp gC E ta t):=by
 intro O s σ H Q I h;refine PySem.W.methodCall_KW (pl:=pl) (cJ (he O s σ H _ I h) λu s1 ⟨x,H1,I1,rx,a,B,fs,ex,ea,l,q⟩=>?_) ht;subst ex;obtain rfl:u=Value.ref a:=rx;refine YEw I1 ea c hm l ?_;refine PySem.W.callWith_K (first:=[.ref a]) (h₀:=X.base) I.ok.mod.kin hm.kp (cJ (ha pos O s1 σ H1 _ I1 q) λus s2 ⟨vs,H2,I2,r,q2⟩=>⟨I2.kIn,?_⟩) hst hpl;exact YJk (us:=.ref a::us) (vs:=.ref a::vs) F hr hb hd U I2 (.cons Z r) q2
theorem YMo{pl:Sem Bool}(he:PE X o ta)(c:g9 X.K C)(hm:ou X.K C m f)(F:gs X.prog X.w X.K X.mg X.base CX k f fd ps sp)(hr:JQ k X.A)(hb:kx X.K fd ps ds)(hd:Yt gC ds)(U:XG CX X E)
  (ht:eval (.Call (.Attribute o m bD) [] [] pos) X.env=(do
   let ov <-eval o X.env
   standAt bD.atName
   let (f,first) <-holding [ov] (getMethod ov m pl)
   callWith pos f first (backTo pos<|starEach [] X.env) (backToKw pos<|keywordEach [] X.env)):=by rfl):
  PE X (.Call (.Attribute o m bD) [] [] pos) (YKg C m sp gC E ta lj):=by
 intro O s σ H Q I h;refine PySem.W.methodCall_KW (pl:=pl) (cJ (he O s σ H _ I h) λu s1 ⟨x,H1,I1,rx,a,B,fs,ex,ea,l,q⟩=>?_) ht;subst ex;obtain rfl:u=Value.ref a:=rx;refine YEw I1 ea c hm l ?_;exact PySem.W.callWith_K0 (first:=[.ref a]) I1.kIn hm.kp<|YJk (us:=[.ref a]) (vs:=[.ref a]) F hr hb hd U I1 (.cons rfl .nil) q
structure Mk(K:W.Frag)(C f:Addr):Prop where
 makes:PySem.W.makesIn K C=true
 init:PySem.W.findIn K (.ref C) "__init__"=some (some<|.ref f)
 fn:PySem.W.isFn K (.ref f)=true
 kp:PySem.W.keepIn K (.ref C)=true
theorem YMp(M:Mk X.K C f)(F:gs X.prog X.w X.K X.mg X.base CX k f fd ps sp)(hr:JQ (k+1) X.A)(hb:kx X.K fd ps ds)(hd:Yt gC ds)
  (U:XG CX X E)(I:aW X O σ H s)(r:Yt vs us)
  (h:∀x B,H x=none->H B=none->B≠x->sp (.ref x::(vs++gC)) (upd (upd H B<|.own x) x<|.ins C B []) (λv H2=>v=.non/\Q (.ref x) H2) E):
  wpAny (model X.prog X.w) X.A (call (.ref C) us) (EP X O σ Q) X.xe s:=by
 have hq:=h (s.heap.objs.size+1) s.heap.objs.size (I.hok.fresh<|YPn _) (I.hok.fresh<|YOY _)<|YPC<|YPO _;have I2:=aW.made (C:=C) I;have r2:Yt (V.ref (s.heap.objs.size+1)::(vs++gC))<|Value.ref (s.heap.objs.size+1)::(us++ds):=.cons rfl<|r.append hd;have hl:(Value.ref (s.heap.objs.size+1)::us++ds).length=ps.length:=by
  have e:=r2.length;rw[F.len _ _ _ _ hq]at e;exact e.symm
 refine wpAny_call (YMm (f:=f) I.kIn M.makes M.init (beq_iff_eq.mp M.fn) (codeAny_mono (F.run _ X.stack _ _ ⟨Value.ref (s.heap.objs.size+1)::us,[]⟩ (Value.ref (s.heap.objs.size+1)::(us++ds)) _ _ E (hr.make C us [])
  (I2.env0.make C us []) (hb _ (Value.ref (s.heap.objs.size+1)::us) I2.kIn hl) r2 hq) λr s' hq'=>?_))
 cases r with
 |error e=>exact U O σ _ _ e s' I2 hq'
 |ok fl=>
  cases fl with
  |ret u=>
   obtain⟨v,H',I3,rv,ev,q3⟩:=I2.after hq';subst ev;exact⟨rv,⟨V.ref<|s.heap.objs.size+1,H',I3,Z,q3⟩⟩
  |next=>exact False.elim hq'
  |brk=>exact False.elim hq'
  |cont=>exact False.elim hq'
theorem oR(M:Mk X.K C f)(F:gs X.prog X.w X.K X.mg X.base CX k f fd ps sp)(hr:JQ (k+1) X.A)(hg:Gl X x)(hm:X.mg x=some (.ref C))(hb:kx X.K fd ps ds)(hd:Yt gC ds)(U:XG CX X E)
  (ha:PA X (e::es) t)(hdb:(x==("__debug__":av))=false:=by decide)(he:starEach (e::es) X.env=(false,eval e X.env)::starEach es X.env:=by rfl)(hpl:(backTo pos<|starEach es X.env).any (·.1)=false:=by rfl):
  PE X (.Call (.Name x p) (e::es) [] pos) (ua C sp gC E t):=by
 intro O s σ H Q I h;refine wpAny_Call_Name_kw<|zn I hg hm ?_ hdb;refine PySem.W.callWith_K (h₀:=X.base) I.ok.mod.kin M.kp (cJ (ha pos O s σ H _ I h) λus s1 ⟨vs,H1,I1,r,q⟩=>⟨I1.kIn,?_⟩) he hpl;exact YMp M F hr hb hd U I1 r q
end
section
variable {X:Cx}{CX:gE}{k:Nat}{f C:al}{fd:FuncData}{ps ks:J av}{sp:Sp}{E:XK}{x m:av}{p pos bD kpos:Pos}{e o:Expr}{es:J Expr}{kws:J Keyword}{te ta:TE}{t tk:TA}{nm:ah av}
variable {g:J ai->J ai->J ai}{gV:J V->J V->J V}
end
structure YJ(N P:List Str)(sc:Scope):Prop where
 kind:sc.kind=.function
 co:sc.isCoroutine=false
 gen:sc.isGenerator=false
 nd:N.Nodup
 pre:N.take P.length=P
 par:∀x∈P,sc.names.lookup x=some .local\/sc.names.lookup x=some .cell
 nofree:∀y∈sc.names,y.2≠.free
theorem YGO{kindOf:av->ah NameKind}{x:av}:∀{binds:J (av×ai)}{m:av->ah ai},(∀v,(x,v)∉binds)->bindL kindOf binds m x=m x
 |[],_,_=>rfl
 |(n,v)::r,m,h=>by
  unfold bindL;rw[YGO λw hw=>h w<|YOV _ hw];split;have:x≠n:=by rintro rfl;exact h v YOZ
  simp[this];rfl
theorem YGP{kindOf:av->ah NameKind}{x:av}:∀{binds:J (av×ai)}{m:av->ah ai},(∀v,(x,v)∉binds)->bindC kindOf binds m x=m x
 |[],_,_=>rfl
 |(n,v)::r,m,h=>by
  unfold bindC;rw[YGP λw hw=>h w<|YOV _ hw];split;rfl;have:x≠n:=by rintro rfl;exact h v YOZ
  simp[this]
theorem YGQ{kindOf:av->ah NameKind}{x:av}{v:ai}:∀{P:J av}{vs:J ai}{i:Nat}{m:av->ah ai},P.Nodup->P[i]?=some x->vs[i]?=some v->kindOf x=some .local->
  bindL kindOf (P.zip vs) m x=some v
 |[],_,_,_,_,h,_,_=>by simp at h
 |_::_,[],_,_,_,_,h,_=>by simp at h
 |p::P,w::vs,0,m,nd,h1,h2,hk=>by
  simp at h1 h2;subst h1;subst h2;show bindL kindOf ((p,w)::P.zip vs) m p=_;unfold bindL;rw[YGO λv hv=>(YOq.mp nd).1 (List.of_mem_zip hv).1,if_pos hk];simp
 |p::P,w::vs,i+1,m,nd,h1,h2,hk=>by
  show bindL kindOf ((p,w)::P.zip vs) m x=_;unfold bindL;exact YGQ (i:=i) (YOq.mp nd).2 (by simpa using h1) (by simpa using h2) hk
theorem YGR{kindOf:av->ah NameKind}{x:av}{v:ai}:∀{P:J av}{vs:J ai}{i:Nat}{m:av->ah ai},P.Nodup->P[i]?=some x->vs[i]?=some v->kindOf x≠some .local->
  bindC kindOf (P.zip vs) m x=some v
 |[],_,_,_,_,h,_,_=>by simp at h
 |_::_,[],_,_,_,_,h,_=>by simp at h
 |p::P,w::vs,0,m,nd,h1,h2,hk=>by
  simp at h1 h2;subst h1;subst h2;show bindC kindOf ((p,w)::P.zip vs) m p=_;unfold bindC;rw[YGP λv hv=>(YOq.mp nd).1 (List.of_mem_zip hv).1,if_neg hk];simp
 |p::P,w::vs,i+1,m,nd,h1,h2,hk=>by
  show bindC kindOf ((p,w)::P.zip vs) m x=_;unfold bindC;exact YGR (i:=i) (YOq.mp nd).2 (by simpa using h1) (by simpa using h2) hk
def start(N:J av)(vs:J V):St:=vs.map some++List.replicate (N.length-vs.length) none
def iP(CX:gE)(P:Program)(w:World)(K:W.Frag)(mg:av->ah ai)(base:Heap)(N:J av)(qual:av)(scope:Scope)(f:al)(cd:ai)(A:Around)(outer:J Env)(s:ar)(H:L)(E:XK):Cx where
 prog:=P
 w:=w
 K:=K
 mg:=mg
 base:=base
 A:=A.deeper (envOfC qual scope s.heap.objs.size f cd)
 N:=N
 s₀:=s
 H₀:=H
 env:=envOfC qual scope s.heap.objs.size f cd
 outer:=outer
 stack:=envOfC qual scope s.heap.objs.size f cd::outer
 ex:=[]
 calm:=true
 fn:=λ_=>true
 pn:=[]
 xe:=λe s'=>wpAny (model P w) (A.deeper<|envOfC qual scope s.heap.objs.size f cd) (leaving (envOfC qual scope s.heap.objs.size f cd) e) (λ_ yp=>CX outer H s E e yp) (λe' yp=>CX outer H s E e' yp) s'
theorem XX{sc:Scope}{n:Nat}{x:av}(h:sc.names.lookup x=some .cell):∃c,(cellsFrom n sc.names []).lookup x=some c:=by
 have q:=PySem.W.cellsFrom_some sc.names n []<|.inl h;exact YPm.mp q
theorem YLv{CX:gE}{P:Program}{w:World}{K:W.Frag}{mg:av->ah ai}{base:Heap}{N ps:J av}{qual:av}{scope:Scope}{f:al}{cd:ai}{A:Around}{outer:J Env}{s s1:ar}{H:L}{E:XK}{us:J ai}{vs:J V}
  (Dr:YJ N ps scope)(hd:A.handled=none)(e0:iE P w K mg base A outer s H)(hl:vs.length=ps.length)(r:Yt vs us)
  (x:InCallC s s.heap.objs.size (bindL (envOfC qual scope s.heap.objs.size f cd).kindOf (ps.zip us) λ_=>none) (cellsFrom (s.heap.objs.size+1) scope.names []) (bindC (envOfC qual scope s.heap.objs.size f cd).kindOf (ps.zip us) λ_=>none) s1):
  aW (iP CX P w K mg base N qual scope f cd A outer s H E) [] (start N vs) H s1:=by
 have hpl:ps.length<=N.length:=by have:=fZ List.length Dr.pre;rw[YPK]at this;lia
 obtain⟨h1,tk,rfl,hk⟩:=x.done;have noA:∀b:al,b∉(iP CX P w K mg base N qual scope f cd A outer s H E).ex:=λb z=>absurd (show b∈([]:J al) from z) (by simp);refine⟨⟨e0.mod,Dr.kind,Z,Z,YOY _,λy z c h1 h2=>?_,λy hy=>?_,λy c _ h=>?_,λ_=>hd,Around.frames_deeper e0.frames,.inr ⟨Z,Z⟩,λb z=>absurd z<|noA b,e0.bs,e0.bsz,λb _ _=>noA b,λb z=>absurd z<|noA b,e0.funs,e0.frf⟩,
  rfl,e0.bare,Un.kept hk,⟨_,x.toInCall.ns,λi y v h1 h2 h3=>?_⟩,λy c h=>⟨_,x.cell y c h⟩,e0.hok.fresh<|YOY _,λy c h=>?_,λp hp=>absurd (show p∈([]:J<|al×Obj) from hp) (by simp),e0.hok.kept hk,?_⟩
 exact name_of_addr x.apart (PySem.mem_of_lookup h1)<|PySem.mem_of_lookup h2;have hy:scope.names.lookup y=some .cell\/scope.names.lookup y=some .free:=hy;rcases hy with hy|hy
 exact XX hy;exact absurd rfl<|Dr.nofree _<|PySem.mem_of_lookup hy;exact Nat.le_of_lt<|x.above y c<|PySem.mem_of_lookup h;have hi:i<vs.length:=by
  unfold start at h2;by_cases hi:i<vs.length;exact hi;rw[YOm (by simpa using hi)]at h2;rw[List.getElem?_replicate]at h2;split at h2 <;> cases h2
 have ha:vs[i]?=some v:=by
  unfold start at h2;rw[YOr (by simpa using hi),YOd]at h2;cases e:vs[i]? with
  |none=>rw[e]at h2;cases h2
  |some a=>rw[e]at h2;cases h2;rfl
 obtain⟨u,hu,rv⟩:=r.get ha;have hp:ps[i]?=some y:=by
  rw[<-Dr.pre,List.getElem?_take_of_lt (by lia)];exact h1
 have ndP:ps.Nodup:=by rw[<-Dr.pre];exact Dr.nd.sublist<|List.take_sublist _ _
 refine⟨u,rv,?_⟩;rcases Dr.par y (YOc hp) with k|k
 exact .inl ⟨k,YGQ ndP hp hu k⟩;obtain⟨c,e⟩:=XX (n:=s.heap.objs.size+1) k;refine .inr ⟨.inl k,c,e,?_⟩;have q:=x.cell y c e;rw[YGR ndP hp hu (by show scope.names.lookup y≠_;rw[k];decide)]at q;exact q;exact e0.hok.fresh<|Nat.le_of_lt<|x.above y c<|PySem.mem_of_lookup h;unfold start;show _=N.length;rw[YOU,YOS,List.length_replicate];lia
theorem t9{CX:gE}{P:Program}{w:World}{K:W.Frag}{mg:av->ah ai}{base:Heap}{k:Nat}{f:al}{name qual:av}{params:Arguments}{body:J Stmt}{scope:Scope}{dV kV doc pm cW ct oc:ai}{an od:ah al}
  {osl:Array (ah ai)}{N ps:J av}{sp:Sp}(lk:K.lookup f=some ⟨oc,od,.func<|PySem.W.fnOf name qual params body scope dV kV doc pm an cW ct,osl⟩)(hcd:PySem.W.codeIn K cW qual=true)(Dr:YJ N ps scope)
  (len:∀vs H Q E,sp vs H Q E->vs.length=ps.length)
  (hbody:∀(A:Around) (outer:J Env) (s:ar) (H:L) (vs:J V) (Q:VK) (E:XK),JQ k (A.deeper<|envOfC qual scope s.heap.objs.size f cW)->sp vs H Q E->
   ∃t,gS (iP CX P w K mg base N qual scope f cW A outer s H E) body t/\t { nx:=λ_ H'=>Q .non H',rt:=Q } (start N vs) H):
  gs P w K mg base CX (k+1) f (PySem.W.fnOf name qual params body scope dV kV doc pm an cW ct) ps sp:=by
 refine⟨len,λA outer s H args us vs Q E hr e0 hb r hsp=>?_⟩;have hl:=len _ _ _ _ hsp;have KX:K.In s.heap:=e0.mod.kin.keeps λb o e=>(e0.bs b o e).1;have lim:s.heap.NoLimit:=e0.mod.nolimit.keeps λb o e=>(e0.bs b o e).1;have hkind:∀y∈ps.zip us,scope.names.lookup y.1=some .local\/(scope.names.lookup y.1=some .cell/\((cellsFrom (s.heap.objs.size+1) scope.names []).lookup y.1).isSome=true):=λ⟨n,v⟩ hy=>by
  rcases Dr.par n (List.of_mem_zip hy).1 with q|q
  exact .inl q;exact .inr ⟨q,PySem.W.cellsFrom_some _ _ _<|.inl q⟩
 refine codeAny_call_function hr.depth (KX _ _ lk) Z Dr.co Dr.gen Z (PySem.W.codeRec_of KX hcd)<|hb _ _ _ _ ?_;refine wpAny_newFunctionEnv_cells Dr.kind hkind λenv he s1 x=>?_;subst he;refine⟨lim.keeps x.toInCall.keep,codeAny_func ?_⟩;obtain⟨t,ht,hq⟩:=hbody A outer s H vs Q E (hr.deeper _) hsp;have I:aW (iP CX P w K mg base N qual scope f cW A outer s H E) [] (start N vs) H s1:=YLv Dr hr.hd e0 hl r x;refine wpAny_mono (ht [] s1 (start N vs) H _ I hq) (λfl s' hs=>?_) λe s' hs=>hs;have fin:∀{σ':St}{H':L}{v:V}{u:ai},aW (iP CX P w K mg base N qual scope f cW A outer s H E) [] σ' H' s'->Yx v u->Q v H'->CE outer P w H s Q u s':=
  λ{σ' H' v u} Dq rv q=>⟨v,H',Dq.os,Dq.bare,Dq.base,Dq.hok,rv,q⟩
 cases fl with
 |ret u=>
  obtain⟨v,σ',H',Dq,rv,q⟩:=hs;exact fin Dq rv q
 |next=>
  obtain⟨σ',H',Dq,q⟩:=hs;exact fin (v:=V.non) (u:=Value.none) Dq Z q
 |brk=>
  obtain⟨_,_,_,q⟩:=hs;exact False.elim q
 |cont=>
  obtain⟨_,_,_,q⟩:=hs;exact False.elim q
section
variable {X:Cx}{x:av}{p pos:Pos}{e:Expr}{es:J Expr}{t:TA}{id T:String}{r:J V->L->VK->Prop}
def tCB(r:J V->L->VK->Prop)(t:TA):TE:=λσ H Q=>t σ H λvs H1=>r vs H1 Q
theorem Yo(hc:Jy X (.builtin id) r)(hg:Gl X x)(hm:X.mg x=none)(hv:bootBuiltins x=some (.builtin id))(ha:PA X (e::es) t)(hn:x≠"__name__":=by decide)(hdb:(x==("__debug__":av))=false:=by decide)
  (he:starEach (e::es) X.env=(false,eval e X.env)::starEach es X.env:=by rfl)(hpl:(backTo pos<|starEach es X.env).any (·.1)=false:=by rfl):PE X (.Call (.Name x p) (e::es) [] pos)<|tCB r t:=by
 intro O s σ H Q I h;refine wpAny_Call_Name_kw<|vF I hg hm hv ?_ hn hdb;exact PyProof.Rows.callWith_builtin1 (cJ (ha pos O s σ H _ I h) λus s1 ⟨vs,H1,I1,r1,q1⟩=>hc O s1 σ H1 vs us Q I1 r1 q1) he hpl
theorem JR(hc:Jy X (.type T) r)(hg:Gl X x)(hm:X.mg x=none)(hv:bootBuiltins x=some (.type T))(ha:PA X (e::es) t)(hn:x≠"__name__":=by decide)(hdb:(x==("__debug__":av))=false:=by decide)
  (he:starEach (e::es) X.env=(false,eval e X.env)::starEach es X.env:=by rfl)(hpl:(backTo pos<|starEach es X.env).any (·.1)=false:=by rfl):PE X (.Call (.Name x p) (e::es) [] pos)<|tCB r t:=by
 intro O s σ H Q I h;refine wpAny_Call_Name_kw<|vF I hg hm hv ?_ hn hdb;exact PyProof.Rows.callWith_type1 (cJ (ha pos O s σ H _ I h) λus s1 ⟨vs,H1,I1,r1,q1⟩=>hc O s1 σ H1 vs us Q I1 r1 q1) he hpl
end
end L2
namespace HT
open PySem PyProof.Rows
def lexLt:J Int->J Int->Bool
 |[],[]=>false
 |[],_::_=>true
 |_::_,[]=>false
 |x::xs,y::ys=>if x=y then lexLt xs ys else decide (x<y)
theorem lexLt_cons(x y:Int)(xs ys:J Int):lexLt (x::xs) (y::ys)=if x=y then lexLt xs ys else decide (x<y):=rfl
theorem YMq(A:Around)(s:ar)(a:Int)(t:Tok)(c:Int)(u:Tok):∃e,SeqAt.EqAt A s (.int a t) (.int c u) e/\(e=true<->a=c):=
 ⟨(a==c),SeqAt.EqAt.int_int a t c u,by simp⟩
theorem YMr(A:Around)(s:ar)(a:Int)(t:Tok)(c:Int)(u:Tok)(prog:Program)(w:World)(E Q:ai->ar->Prop)(h:Q (.bool<|decide (a<c)) s):
  wpAny (model prog w) A (richCompare .Lt (.int a t)<|.int c u) Q E s:=
 (PyProof.Rows.lt_int h:wpAny (model prog w) A (compareOp .Lt (.int a t)<|.int c u) Q E s)
section
open PySem.SeqAt
open PySem.AutoSeq1 (wpAny_loadPart')
open PySem.MeetsSeq PySem.MeetsSeq2 PySem.MeetsSeq3
end
section
variable {prog:Program}{w:World}{A:Around}{E:ai->ar->Prop}{s:ar}
theorem cat_tup{Q:ai->ar->Prop}(ht:IsTup s.heap t vs.toArray)(hb:IsTup s.heap b ws.toArray)(hv:vs≠[])
  (h1:ws=[]->Q (.ref t) s)(h2:ws≠[]->Q (.ref s.heap.objs.size) { s with heap:=s.heap.push { cls:=.type "tuple",data:=.seq (vs++ws).toArray } })
  (hsz:vs.length+ws.length<=sizeLine):wpAny (model prog w) A (binaryOp .Add (.ref t)<|.ref b) Q E s:=by
 obtain⟨⟨cls,dd,data,sl⟩,ho,hc,n,hd⟩:=id ht;obtain⟨⟨uy,mU,data2,mV⟩,jL,hc2,n2,hd2⟩:=id hb;simp only at hc hd hc2 hd2;subst hc hd hc2 hd2;have e:vs.toArray++ws.toArray=(vs++ws).toArray:=by simp
 by_cases hw:ws=[];exact concat_meets ⟨_,ho,Z⟩ ⟨_,jL,Z⟩ noFill_tuple_add seq_tuple_add PySem.F.slot_tuple_add PySem.F.entry_tuple_add (PySem.F.args_tuple_add_2 _ _)
  (tuple_addW1 t b vs.toArray ws.toArray n n2 dd mU sl mV (by simpa using hv) (by simp[hw])) ⟨ho,jL,h1 hw⟩
 refine concat_meets ⟨_,ho,Z⟩ ⟨_,jL,Z⟩ noFill_tuple_add seq_tuple_add PySem.F.slot_tuple_add PySem.F.entry_tuple_add (PySem.F.args_tuple_add_2 _ _)
  (tuple_addW2 t b vs.toArray ws.toArray n n2 dd mU sl mV (by simpa using hv) (by simpa using hw) (by rw[YOp,YOp];exact hsz)) ⟨ho,jL,?_⟩
 rw[e];exact h2 hw
def sIx(n d:Nat):ah Int->Nat
 |none=>d
 |some v=>if v<0 then (v+(n:Int)).toNat else min v.toNat n
theorem sIx_none(n d:Nat):sIx n d none=d:=rfl
theorem sIx_nat(n d k:Nat):sIx n d (some (k:Int))=min k n:=by
 show(if (k:Int)<0 then ((k:Int)+(n:Int)).toNat else min (k:Int).toNat n)=min k n;rw[if_neg (by lia),YQM]
end
end HT
namespace L2
open PySem PySem.Spec PyProof.Rows
abbrev TO:=St->L->(ah Int->L->Prop)->Prop
def PO(X:Cx)(e:ah Expr)(t:TO):Prop:=
 ∀(O:J<|al×Obj) (s:ar) (σ:St) (H:L) (Q:ah Int->L->Prop),aW X O σ H s->t σ H Q->
  wpAny (model X.prog X.w) X.A (evalPart e X.env) (λu s'=>∃o H',aW X O σ H' s'/\IsPart u o/\Q o H') X.xe s
def oa:TO:=λ_ H Q=>Q none H
inductive YMs(Q:Option Int->L->Prop)(x:V)(H1:L):Prop
 |mk (i:_):x=.int i->Q (some i) H1->YMs Q x H1
def CK(t:TE):TO:=λσ H Q=>t σ H λx H1=>YMs Q x H1
theorem YCL:∀{us:J ai},Yt (ns.map V.int) us->IntsAre us ns:=by
 induction ns with
 |nil=>intro us r;rw[List.map_nil]at r;cases r;exact .nil
 |cons n ns ih=>
  intro us r;rw[YOv]at r;cases r with
  |cons r1 r2=>
   obtain⟨t,e⟩:=r1;subst e;exact .cons n t<|ih r2
section
variable {X:Cx}{e:Expr}{te:TE}{lo hi:ah Expr}{tl th:TO}{pos p2:Pos}
theorem xx:PO X none oa:=by
 intro O s σ H Q I h;rw[evalPart_none];exact YO0 ⟨none,H,I,.none,h⟩
theorem xD(h:PE X e te):PO X (some e)<|CK te:=by
 intro O s σ H Q I hw;rw[evalPart_some];refine cJ (h O s σ H _ I hw) λu s1 ⟨x,H1,I1,r1,q1⟩=>?_;obtain⟨i,rfl,q⟩:=q1;obtain⟨t,rfl⟩:=r1;exact⟨some i,H1,I1,.int i t,q⟩
def SlR(X:Cx)(r:V->ah Int->ah Int->L->VK->Prop):Prop:=
 ∀(O:J<|al×Obj) (s:ar) (σ:St) (H:L) (x:V) (v vl vu:ai) (lo hi:ah Int) (sl:al) (Q:VK),aW X O σ H s->Yx x v->s.heap.IsSliceOf sl vl vu .none->IsPart vl lo->IsPart vu hi->r x lo hi H Q->
  ∃T id,typeLookup (.type T) "__getitem__"=pure (some<|.builtin id)/\s.TypeIs v T/\wpAny (model X.prog X.w) X.A (getItem v<|.ref sl) (EP X O σ Q) X.xe s
def tSl(r:V->ah Int->ah Int->L->VK->Prop)(te:TE)(tl th:TO):TE:=λσ H Q=>te σ H λx H1=>tl σ H1 λl H2=>th σ H2 λu H3=>r x l u H3 Q
theorem Xx{r:V->ah Int->ah Int->L->VK->Prop}(hr:SlR X r)(he:PE X e te)(hl:PO X lo tl)(hu:PO X hi th):PE X (.Subscript e (.Slice lo hi none p2) pos)<|tSl r te tl th:=by
 intro O s σ H Q I h;refine Subscript_<|cJ (he O s σ H _ I h) λv s1 ⟨x,H1,I1,r1,q1⟩=>?_;refine wpAny_Slice<|cJ (hl O s1 σ H1 _ I1 q1) λvl s2 ⟨l,H2,I2,pl,q2⟩=>cJ (hu O s2 σ H2 _ I2 q2) λvu s3 ⟨u,H3,I3,pu,q3⟩=>?_;rw[evalPart_none];refine YO0 ?_;have I4:aW X O σ H3 { s3 with heap:=s3.heap.push { cls:=.type "slice",data:=.fields #[vl,vu,.none] } }:=I3.kept (t':=s3.toks) λb ob q=>YOi _ q;obtain⟨T,id,hT,ht,hg⟩:=hr O { s3 with heap:=s3.heap.push { cls:=.type "slice",data:=.fields #[vl,vu,.none] } } σ H3 x v vl vu l u s3.heap.objs.size Q I4 r1 (Heap.IsSliceOf.new ..) pl pu q3;show wpAny (model X.prog X.w) X.A (subscriptTail e (.Slice lo hi none p2) v<|.ref s3.heap.objs.size) (EP X O σ Q) X.xe { s3 with heap:=s3.heap.push { cls:=.type "slice",data:=.fields #[vl,vu,.none] } };exact tail_any (ops:=[.ref s3.heap.objs.size,v]) ht hT hg (by with_unfolding_all rfl)
def ka(xs:J V)(lo hi:ah Int):J V:=(xs.drop<|HT.sIx xs.length 0 lo).take<|HT.sIx xs.length xs.length hi-HT.sIx xs.length 0 lo
theorem YID(xs:J V)(lo hi:ah Int):(ka xs lo hi).length<=xs.length:=by
 unfold ka;rw[YPK,YPT];omega
def B4(K:W.Frag):R2:=λx y H Q=>∃a b xs ys,x=.ref a/\y=.ref b/\cy K H a xs/\cy K H b ys/\xs≠[]/\xs.length+ys.length<=sizeLine/\
 (ys=[]->Q (.ref a) H)/\(ys≠[]->∀p,H p=none->Q (.ref p) (upd H p<|.tup<|xs++ys))
theorem Yt.nil_iff(r:Yt xs us):us=[]<->xs=[]:=by
 cases r with
 |nil=>simp
 |cons _ _=>simp
theorem oT:fK X (binaryOp .Add)<|B4 X.K:=by
 intro O s σ H x y v u Q I rx ry h;obtain⟨a,b,xs,ys,rfl,rfl,ha,hb,U,hz,q1,q2⟩:=h;cases rx;cases ry;obtain⟨its,r1,p1,_⟩:=I.tuple ha;obtain⟨b_,r2,p2,_⟩:=I.tuple hb;refine HT.cat_tup p1 p2 (λz=>U<|r1.nil_iff.mp z) (λz=>⟨.ref a,H,I,Z,q1<|r2.nil_iff.mp z⟩) (λz=>?_) (by rw[<-r1.length,<-r2.length];exact hz);refine⟨.ref s.heap.objs.size,_,I.laid (t':=s.toks) (o:=.tup<|xs++ys) (λb ob q=>YOi _ q) (YOY _) ?_,Z,q2 (λw=>z<|r2.nil_iff.mpr w) _<|I.hok.fresh<|YOY _⟩;exact⟨by rw[YOU];exact hz,_,r1.append r2,IsTup.new _ _⟩
end
def si(n:Nat)(i:Int):ah Nat:=if 0<=i then (if i<n then some i.toNat else none) else if -(n:Int)<=i then some (i+n).toNat else none
def f_{α:Type}(xs:J α)(i:Int):ah α:=(si xs.length i).bind λj=>xs[j]?
theorem nE(h:si n i=some j):seqIndex? i n=some j/\j<n/\-(n:Int)<=i/\i<n:=by
 unfold si at h;by_cases h0:0<=i;rw[if_pos h0]at h;by_cases h1:i<n;rw[if_pos h1]at h;have e:i.toNat=j:=YO3 h;exact⟨by rw[seqIndex_of h0 h1,e],by lia,by lia,h1⟩;rw[if_neg h1]at h;cases h;rw[if_neg h0]at h;by_cases h1:-(n:Int)<=i;rw[if_pos h1]at h;have e:(i+n).toNat=j:=YO3 h;exact⟨by rw[seqIndex_neg (by lia) h1,e],by lia,h1,by lia⟩;rw[if_neg h1]at h;cases h
theorem YHL{α:Type}{xs:J α}{i:Int}{v:α}(h:f_ xs i=some v):∃j,seqIndex? i xs.length=some j/\xs[j]?=some v/\j<xs.length/\-(xs.length:Int)<=i/\i<xs.length:=by
 unfold f_ at h;cases e:si xs.length i with
 |none=>rw[e]at h;cases h
 |some j=>
  rw[e]at h;obtain⟨h1,h2,h3,h4⟩:=nE e;exact⟨j,h1,h,h2,h3,h4⟩
theorem Y2{α:Type}{xs:J α}{j:Nat}{v:α}(h:xs[j]?=some v):f_ xs (j:Int)=some v:=by
 have hj:j<xs.length:=(YOX.mp h).1;have e:si xs.length (j:Int)=some j:=by
  unfold si;rw[if_pos (by lia),if_pos (by lia)];simp
 unfold f_;rw[e];exact h
theorem YCr{α:Type}(xs:J α)(v:α):f_ (xs++[v]) (-1)=some v:=by
 have hl:(xs++[v]).length=xs.length+1:=by simp
 have e:si (xs++[v]).length (-1)=some xs.length:=by
  unfold si;rw[hl,if_neg (by decide),if_pos (by lia)];congr 1;lia
 unfold f_;rw[e];show(xs++[v])[xs.length]?=some v;simp
def YHM(b:Expr):Prop:=∀o i,subscripted b false o i=operate [o,i] (getItem o i)
def A1(X:Cx)(r:R2):Prop:=
 ∀(value slice:Expr) (O:J<|al×Obj) (s:ar) (σ:St) (H:L) (x y:V) (v u:ai) (Q:VK),aW X O σ H s->Yx x v->Yx y u->r x y H Q->
  subscripted slice false v u=operate [v,u] (getItem v u)->wpAny (model X.prog X.w) X.A (subscriptTail value slice v u) (EP X O σ Q) X.xe s
def AN(X:Cx)(id:String)(r:V->J V->L->VK->Prop):Prop:=
 ∀(O:J<|al×Obj) (s:ar) (σ:St) (H:L) (x:V) (xs:J V) (v:ai) (us:J ai) (Q:VK),aW X O σ H s->Yx x v->Yt xs us->r x xs H Q->
  wpAny (model X.prog X.w) X.A (call (.builtin id)<|v::us) (EP X O σ Q) X.xe s
section
variable {X:Cx}{a b:Expr}{ta tb:TE}{pos:Pos}
theorem XY(hr:A1 X r)(ha:PE X a ta)(hb:PE X b tb)(hs:YHM b):PE X (.Subscript a b pos)<|kH r ta tb:=by
 intro O s σ H Q I h;exact Subscript_<|ya ha hb I h λv u s2 x y H2 I2 rx ry q=>hr a b O s2 σ H2 x y v u Q I2 rx ry q<|hs _ _
inductive sA(K:W.Frag)(x y:V)(H:L)(Q:VK):Prop
 |mk (p:_)(xs:_)(i:_)(v:_):x=.ref p->y=.int i->aX K H p xs->f_ xs i=some v->Q v H->sA K x y H Q
def yY(K:W.Frag):R2:=λx y H Q=>sA K x y H Q
inductive rX(K:W.Frag)(x y:V)(H:L)(Q:VK):Prop
 |mk (p:_)(xs:_)(i:_)(v:_):x=.ref p->y=.int i->cy K H p xs->f_ xs i=some v->Q v H->rX K x y H Q
def oS(K:W.Frag):R2:=λx y H Q=>rX K x y H Q
inductive vk(x y:V)(H:L)(Q:VK):Prop
 |mk (z:_)(i:_)(c:_):x=.str z->y=.int i->z.length<=sizeLine->f_ z.cps.toList i=some c->Q (.str ⟨#[c]⟩) H->vk x y H Q
def z0:R2:=λx y H Q=>vk x y H Q
theorem oY:A1 X<|yY X.K:=by
 intro value slice O s σ H x y v u Q I rx ry h hs;obtain⟨p,xs,i,z,rfl,rfl,hq,he,q⟩:=h;cases rx;obtain⟨t,rfl⟩:=ry;obtain⟨its,r,pl,hz⟩:=I.list hq;obtain⟨j,h1,h2,h3,h4,h5⟩:=YHL he;obtain⟨w,ew,j9⟩:=r.get h2;have hl:=r.length;have hn:=vE;have fin:EP X O σ Q w s:=⟨z,H,I,j9,q⟩;by_cases h0:0<=i;have hj:i.toNat=j:=by
  rw[seqIndex_of h0 h5]at h1;exact YO3 h1
 exact item_listR pl.isList h0 (by lia) (by rw[hj];simpa using ew) fin hs;have hj:(i+(its.toArray.size:Int)).toNat=j:=by
  rw[seqIndex_neg (by lia) h4]at h1;rw[YOp,<-hl];exact YO3 h1
 exact subscriptTail_builtinR (x:=w) pl.isList.typeIs slot_list_getitem.lookup
  (wpAny_getItem_list_neg (Q:=λr s'=>r=w/\EP X O σ Q r s') pl.isList (by lia) (by rw[YOp] <;> lia) (by lia) (by rw[hj];simpa using ew) ⟨Z,fin⟩) hs
theorem xX:A1 X<|oS X.K:=by
 intro value slice O s σ H x y v u Q I rx ry h hs;obtain⟨p,xs,i,z,rfl,rfl,hq,he,q⟩:=h;cases rx;obtain⟨t,rfl⟩:=ry;obtain⟨its,r,pl,hz⟩:=I.tuple hq;obtain⟨j,h1,h2,h3,h4,h5⟩:=YHL he;obtain⟨w,ew,j9⟩:=r.get h2;have hl:=r.length;have hn:=vE;have fin:EP X O σ Q w s:=⟨z,H,I,j9,q⟩;exact subscriptTail_builtinR (x:=w) pl.typeIs slot_tuple_getitem.lookup
  (getItem_tuple (j:=j) (Q:=λr s'=>r=w/\EP X O σ Q r s') pl (by lia) (by lia) (by rw[YOp,<-hl];exact h1) (by simpa using ew) ⟨Z,fin⟩) hs
theorem Jl:A1 X z0:=by
 intro value slice O s σ H x y v u Q I rx ry h hs;obtain⟨z,i,c,rfl,rfl,hz,he,q⟩:=h;obtain⟨t,rfl⟩:=rx;obtain⟨t',rfl⟩:=ry;obtain⟨j,h1,h2,h3,h4,h5⟩:=YHL he;have hl:z.cps.toList.length=z.length:=by simp[Str.length]
 rw[hl]at h1 h4 h5;have hn:=vE;exact tail_any (typeIs_str s z t) slot_str_getitem.lookup (getItem_str (c:=c) (by
  have R:decide (i < -(2^63:Int))=false:=dy (by lia);have e2:decide (i>=2^63)=false:=dy (by lia);rw[R,e2,Bool.or_false]) (by rw[h1];simpa using h2) ⟨.str ⟨#[c]⟩,H,I.tok _,⟨_,Z⟩,q⟩) hs
theorem YHN(lo hi:ah Int)(n:Nat):(sliceBounds lo hi none n).1=((HT.sIx n 0 lo:Nat):Int)/\(sliceBounds lo hi none n).2.1=((HT.sIx n n hi:Nat):Int)/\(sliceBounds lo hi none n).2.2=1:=by
 refine⟨?_,?_,Z⟩;cases lo with
 |none=>simp[sliceBounds,HT.sIx]
 |some i=>
  simp only[sliceBounds,HT.sIx,Option.getD_none,show(1:Int)>0 by decide,if_true];by_cases h:i<0;simp only[h,if_true] <;> lia
  simp only[h,if_false] <;> lia
 cases hi with
 |none=>simp[sliceBounds,HT.sIx]
 |some i=>
  simp only[sliceBounds,HT.sIx,Option.getD_none,show(1:Int)>0 by decide,if_true];by_cases h:i<0;simp only[h,if_true] <;> lia
  simp only[h,if_false] <;> lia
theorem YFu(its:J ai)(lo hi:ah Int):slicePick its.toArray lo hi none=((its.drop<|HT.sIx its.length 0 lo).take<|HT.sIx its.length its.length hi-HT.sIx its.length 0 lo).toArray:=by
 obtain⟨h1,h2,h3⟩:=YHN lo hi its.toArray.size;unfold slicePick;rw[h1,h2,h3];simp only[sliceRange_one,pick_run,YOp] <;> rfl
inductive tI(K:W.Frag)(x:V)(lo hi:Option Int)(H:L)(Q:VK):Prop
 |mk (a:_)(xs:_):x=.ref a->aX K H a xs->(∀p,H p=none->Q (.ref p) (upd H p (.lst (ka xs lo hi))))->tI K x lo hi H Q
def C6(K:W.Frag):V->ah Int->ah Int->L->VK->Prop:=λx lo hi H Q=>tI K x lo hi H Q
theorem nI:SlR X<|C6 X.K:=by
 intro O s σ H x v vl vu lo hi sl Q I rx hs pl pu h;obtain⟨a,xs,rfl,U,q⟩:=h;cases rx;obtain⟨its,r,ht,hz⟩:=I.list U;have hlen:=r.length;refine⟨"list",_,slot_list_getitem.lookup,ht.isList.typeIs,?_⟩;refine wpAny_getItem_list_slice ht.isList hs pl pu .none (by simp) ?_ (by rw[YOp] <;> lia);rw[YFu,<-hlen];refine⟨.ref s.heap.objs.size,_,I.laid (t':=s.toks) (o:=.lst<|ka xs lo hi) (λb ob q=>YOi _ q) (YOY _) ?_,Z,q _<|I.hok.fresh<|YOY _⟩;exact⟨YO1 (YID xs lo hi) hz,_,0,(r.drop<|HT.sIx xs.length 0 lo).take<|HT.sIx xs.length xs.length hi-HT.sIx xs.length 0 lo,YOy _ rfl⟩
theorem YHO:Jy X (.builtin "len") (λxs H Q=>∃p ys,xs=[.ref p]/\(aX X.K H p ys\/cy X.K H p ys)/\Q (.int ys.length) H):=by
 intro O s σ H xs us Q I r h;obtain⟨p,ys,rfl,hq,q⟩:=h;obtain⟨u,rfl,rx⟩:=j2 r;cases rx;have hn:=vE;rcases hq with hq|hq
 obtain⟨its,r',pl,hz⟩:=I.list hq;have hlen:=r'.length;exact Calls.call_len_list pl.isList (by simp only[YOp] <;> lia) ⟨.int ys.length,H,I.tok _,⟨s.toks+1,by rw[YOp,hlen]⟩,q⟩;obtain⟨its,r',pl,hz⟩:=I.tuple hq;have hlen:=r'.length;exact len_tuple pl (by simp only[YOp] <;> lia) ⟨.int ys.length,H,I.tok _,⟨s.toks+1,by rw[YOp,hlen]⟩,q⟩
theorem JS:Jy X (.builtin "len") (λxs H Q=>∃z,xs=[.str z]/\z.length<=sizeLine/\Q (.int z.length) H):=by
 intro O s σ H xs us Q I r h;obtain⟨z,rfl,hz,q⟩:=h;obtain⟨u,rfl,t,rfl⟩:=j2 r;have hn:=vE;exact len_str (by lia) ⟨.int z.length,H,I.tok _,⟨_,Z⟩,q⟩
theorem YHP:Jy X (.type "list") (λxs H Q=>∃p ys,xs=[.ref p]/\(aX X.K H p ys\/cy X.K H p ys)/\∀l,H l=none->Q (.ref l) (upd H l<|.lst ys)):=by
 intro O s σ H xs us Q I r h;obtain⟨p,ys,rfl,hq,q⟩:=h;obtain⟨u,rfl,rx⟩:=j2 r;cases rx;have fin:∀(its:J ai),Yt ys its->ys.length<=sizeLine->∀(h':Heap) (c':Nat),(∀b o',s.heap.get? b=some o'->h'.get? b=some o')->
   h'.get? s.heap.objs.size=some { cls:=.type "list",dict:=none,data:=.seq its.toArray c',slots:=#[] }->EP X O σ Q (.ref s.heap.objs.size) { s with heap:=h' }:=λits r' hz h' c' kp e=>
  ⟨.ref s.heap.objs.size,_,I.laid (t':=s.toks) kp (YOY _) (show Y7 X.prog X.w _ h' _ (.lst ys) from⟨hz,its,c',r',e⟩),Z,q _<|I.hok.fresh<|YOY _⟩
 rcases hq with hq|hq
 obtain⟨its,r',pl,hz⟩:=I.list hq;have hlen:=r'.length;obtain⟨o,ho,hc,n,hd⟩:=pl.isList;exact call_list_seq p (.inl Z) ho hc hd (λh' c' kp e=>fin its r' hz h' c' kp e) (by simp only[YOp] <;> lia);obtain⟨its,r',pl,hz⟩:=I.tuple hq;have hlen:=r'.length;obtain⟨o,ho,hc,n,hd⟩:=pl;exact call_list_seq p (.inr Z) ho hc hd (λh' c' kp e=>fin its r' hz h' c' kp e) (by simp only[YOp] <;> lia)
theorem YFv:Jy X (.type "tuple") (λxs H Q=>∃p ys,xs=[.ref p]/\((aX X.K H p ys/\∀l,H l=none->Q (.ref l) (upd H l<|.tup ys))\/(cy X.K H p ys/\Q (.ref p) H))):=by
 intro O s σ H xs us Q I r h;obtain⟨p,ys,rfl,h⟩:=h;obtain⟨u,rfl,rx⟩:=j2 r;cases rx;rcases h with ⟨hq,q⟩|⟨hq,q⟩
 obtain⟨its,r',pl,hz⟩:=I.list hq;have hlen:=r'.length;refine call_tuple_list pl.isList (λh' kp=>?_) (by simp only[YOp] <;> omega);have I1:aW X O σ H { s with heap:=h' }:=I.kept (t':=s.toks) kp;have I2:aW X O σ (upd H h'.objs.size<|.tup ys) { s with heap:=h'.push { cls:=.type "tuple",data:=.seq its.toArray } }:=
  I1.laid (t':=s.toks) (λb o e=>YOi _ e) (YOY _) (show Y7 X.prog X.w _ _ _ (.tup ys) from⟨hz,its,r',IsTup.new _ _⟩)
 exact⟨.ref h'.objs.size,_,I2,Z,q _<|I1.hok.fresh<|YOY _⟩;obtain⟨its,r',pl,hz⟩:=I.tuple hq;exact call_tuple_same pl ⟨.ref p,H,I,Z,q⟩
def tyV(K:W.Frag)(T:String)(x:V)(H:L):Prop:=match x with
 |.str _=>T="str"
 |.int _=>T="int"
 |.ref p=>(T="list"/\∃xs,aX K H p xs)\/(T="tuple"/\∃o,K.lookup p=some o/\o.cls=.type "tuple"/\o.dict=none)\/
   (T="dict"/\((∃kvs,H p=some (.dK kvs))\/∃kvs,H p=some (.dT kvs)))\/(T="set"/\∃Dr n,H p=some (.set Dr n))
 |_=>False
theorem YMt(I:aW X O σ H s)(r:Yx x v)(ty:tyV X.K T x H):
  s.TypeIs v T/\∀a,v=.ref a->∃ob,s.heap.get? a=some ob/\ob.dict=none:=by
 cases x with
 |str z=>
  obtain⟨t,rfl⟩:=r;cases (show T="str" from ty);exact⟨typeIs_str s z t,λ_ e=>nomatch e⟩
 |int i=>
  obtain⟨t,rfl⟩:=r;cases (show T="int" from ty);exact⟨typeIs_int s i t,λ_ e=>nomatch e⟩
 |ref p=>
  cases r;rcases ty with ⟨rfl,xs,hq⟩|⟨rfl,o,hk,hc,hd⟩|⟨rfl,hk⟩|⟨rfl,Dr,n,hk⟩
  obtain⟨its,_,pl,_⟩:=I.list hq;refine⟨pl.isList.typeIs,λa e=>?_⟩;cases e;obtain⟨o,n,e,c,hd,_⟩:=pl;exact⟨o,e,hd⟩;refine⟨⟨o,I.kIn p o hk,hc⟩,λa e=>?_⟩;cases e;exact⟨o,I.kIn _ o hk,hd⟩;have z:∃o,s.heap.get? p=some o/\o.ExactDict:=by
   rcases hk with ⟨kvs,hk⟩|⟨kvs,hk⟩
   obtain⟨_,_,_,_,o,_,_,e,ex,_⟩:=I.hok p _ hk;exact⟨o,e,ex⟩;obtain⟨_,_,_,_,o,_,_,e,ex,_⟩:=I.hok p _ hk;exact⟨o,e,ex⟩
  obtain⟨o,e,ex⟩:=z;refine⟨⟨o,e,ex.1⟩,λa e2=>?_⟩;cases e2;exact⟨o,e,ex.2.1⟩;obtain⟨o,_,_,_,e,ex,_⟩:=I.hok p _ hk;refine⟨⟨o,e,ex.1⟩,λa e2=>?_⟩;cases e2;exact⟨o,e,ex.2.1⟩
 |_=>exact False.elim ty
inductive sQ(K:W.Frag)(T:String)(r:V->List V->L->VK->Prop)(Q:VK)(x:V)(H1:L):Prop
 |mk:tyV K T x H1->r x [] H1 Q->sQ K T r Q x H1
def De(K:W.Frag)(T:String)(r:V->J V->L->VK->Prop)(to:TE):TE:=λσ H Q=>to σ H λx H1=>sQ K T r Q x H1
inductive C4(K:W.Frag)(T:String)(r:V->List V->L->VK->Prop)(t:TA)(σ:St)(Q:VK)(x:V)(H1:L):Prop
 |mk:tyV K T x H1->(t σ H1 λxs H2=>r x xs H2 Q)->C4 K T r t σ Q x H1
def tBM(K:W.Frag)(T:String)(r:V->J V->L->VK->Prop)(to:TE)(t:TA):TE:=λσ H Q=>to σ H λx H1=>C4 K T r t σ Q x H1
variable {o e:Expr}{es:J Expr}{to:TE}{t:TA}{name:av}{bD bj:Pos}{T id:String}{r:V->J V->L->VK->Prop}
theorem xS(pa:PlainAttrs T)(slot:Slot T name id)(mW:typeOf (.builtin id)=pure (.type "method_descriptor"))(hm:AN X id r)(ho:PE X o to)
  (gZ:attributeBase o name X.env (eval o X.env)=eval o X.env:=by rfl)(g8:(bD.endLine==bj.line)=true:=by rfl):PE X (.Call (.Attribute o name bD) [] [] bj)<|De X.K T r to:=by
 intro O s σ H Q I h;refine wpAny_Call_method0_late gZ g8<|cJ (ho O s σ H _ I h) λv s1 ⟨x,H1,I1,r1,ty,q1⟩=>?_;obtain⟨h1,h2⟩:=YMt I1 r1 ty;exact⟨T,id,pa,slot,mW,h1,h2,Calls.callWith_builtin rfl<|PySem.evalArgs_none<|hm O s1 σ H1 x [] v [] Q I1 r1 .nil q1⟩
theorem BS(pa:PlainAttrs T)(slot:Slot T name id)(mW:typeOf (.builtin id)=pure (.type "method_descriptor"))(hm:AN X id r)(ho:PE X o to)(ha:PA X (e::es) t)
  (gZ:attributeBase o name X.env (eval o X.env)=eval o X.env:=by rfl)
  (mX:((backTo bj<|starEach (e::es) X.env).all (λx=>!x.1)&&(backToKw bj<|keywordEach [] X.env).all (λx=>x.1.isSome)
   && decide ((e::es).length+([]:J Keyword).length+(if ([]:J Keyword).isEmpty then 0 else 1)<30))=true:=by rfl)
  (g8:(bD.endLine==bj.line)=true:=by rfl) (hs:starEach (e::es) X.env=(false,eval e X.env)::starEach es X.env:=by rfl) (iW:(backTo bj<|starEach es X.env).any (·.1)=false:=by rfl):
  PE X (.Call (.Attribute o name bD) (e::es) [] bj) (tBM X.K T r to t):=by
 intro O s σ H Q I h;refine wpAny_Call_method_late gZ mX g8 rfl<|cJ (ho O s σ H _ I h) λv s1 ⟨x,H1,I1,r1,ty,q1⟩=>?_;obtain⟨h1,h2⟩:=YMt I1 r1 ty;refine⟨T,id,pa,slot,mW,h1,h2,?_⟩;have hA:=ha bj O s1 σ H1 _ I1 q1;rw[hs]at hA ⊢;refine Calls.callWith_builtin (by show(false || (backTo bj (starEach es X.env)).any (·.1))=false;rw[iW] <;> rfl)<|Calls.evalArgs_plain ?_;exact cJ hA λus s2 ⟨vs,H2,I2,r2,q2⟩=>hm O s2 σ H2 x vs v us Q I2 r1 r2 q2
end
def CD(X:Cx)(id:String)(r:V->J V->L->VK->Prop):Prop:=
 ∀(O:J<|al×Obj) (s:ar) (σ:St) (H:L) (x:V) (xs:J V) (v:ai) (us:J ai) (Q:VK),aW X O σ H s->Yx x v->Yt xs us->r x xs H Q->
  wpAny (model X.prog X.w) X.A (call (.builtin id)<|v::us) (EP X O σ Q) X.xe s
theorem Yt.one:∀{x:V}{us:J ai},Yt [x] us->∃u,us=[u]/\Yx x u
 |_,_,.cons r .nil=>⟨_,Z,r⟩
theorem Yt.zero:∀{us:J ai},Yt [] us->us=[]
 |_,.nil=>rfl
theorem Yt.dropLast(h:Yt xs us):Yt xs.dropLast us.dropLast:=by
 induction h with
 |nil=>exact .nil
 |cons r t ih=>
  cases t with
  |nil=>exact .nil
  |cons q t'=>exact .cons r ih
theorem Yt.reverse(h:Yt xs us):Yt xs.reverse us.reverse:=by
 induction h with
 |nil=>exact .nil
 |cons r t ih=>rw[YPE,YPE];exact Yt.append ih<|.cons r .nil
theorem YJl{α:Type}(l:J α):l.eraseIdx (l.length-1)=l.dropLast:=by
 induction l with
 |nil=>rfl
 |cons a r ih=>
  cases r with
  |nil=>rfl
  |cons b r=>
   have e:(a::b::r).length-1=((b::r).length-1)+1:=rfl;rw[e,List.eraseIdx_cons_succ,ih]
   all_goals rfl
section
variable {X:Cx}{O:J (al×Obj)}{σ:St}{H:L}{s:ar}{l b:al}{xs ys zs:J V}
theorem aW.lset{its its':J ai}{n:Nat}{f:Array ai->Array ai}{t':Nat}(I:aW X O σ H s)(hH:H l=some (.lst xs))
  (e:s.heap.get? l=some { cls:=.type "list",data:=.seq its.toArray n })(hf:f its.toArray=its'.toArray)(hv:Yt ys its')(hz:ys.length<=sizeLine):
  aW X O σ (upd H l<|.lst ys) { s with heap:=s.heap.update l (Obj.mapSeq f),toks:=t' }:=by
 have q:=PySem.IsL.update e f;rw[hf]at q;refine I.write (x:=l) (e:=l) (by rw[hH];exact trivial) (.inl Z) (λb' u hb hu=>(Heap.get?_update_other s.heap (Obj.mapSeq f)<|Ne.symm hb).trans hu) ⟨_,q⟩ ?_;exact⟨hz,its',_,hv,q⟩
theorem aW.lnew(I:aW X O σ H s)(hv:Yt ys its)(hz:ys.length<=sizeLine):
  aW X O σ (upd H s.heap.objs.size<|.lst ys) { s with heap:=s.heap.push { cls:=.type "list",data:=.seq its.toArray },toks:=t' }:=
 I.laid (λ_ _ q=>YOi _ q) (YOY _) ⟨hz,its,0,hv,YOy _ Z⟩
theorem aW.fresh(I:aW X O σ H s):H s.heap.objs.size=none:=I.hok.fresh<|YOY _
theorem aW.lstM(I:aW X O σ H s)(hH:H l=some (.lst xs)):xs.length<=sizeLine/\∃(its:J ai) (n:Nat),Yt xs its/\xs.length=its.length/\s.heap.get? l=some { cls:=.type "list",data:=.seq its.toArray n }:=by
 obtain⟨z,its,n,r,e⟩:=I.hok l _ hH;exact⟨z,its,n,r,r.length,e⟩
theorem YMu(h:n<=sizeLine):Builtin.List.listTooLong n=false:=by
 unfold Builtin.List.listTooLong;exact dy (by lia)
end
section
variable {X:Cx}
inductive YIE(x:V)(vs:List V)(H:L)(Q:VK):Prop
 |mk (l:_)(xs:_)(y:_):x=.ref l->vs=[y]->H l=some (.lst xs)->xs.length<sizeLine->Q .non (upd H l (.lst (xs++[y])))->YIE x vs H Q
def YHQ:V->J V->L->VK->Prop:=λx vs H Q=>YIE x vs H Q
theorem YDX:CD X "list.append" YHQ:=by
 intro O s σ H x vs v us Q I rx rv h;obtain⟨l,xs,y,rfl,rfl,hH,hz,q⟩:=h;cases rx;obtain⟨u,rfl,ru⟩:=rv.one;obtain⟨z,its,n,r,hl,e⟩:=I.lstM hH;refine call_meets F.slot_list_append ⟨_,e,Z⟩ F.entry_list_append (F.args_list_append_2 _ _) (PySem.list_append l its.toArray n u (by rw[YOp];lia)) ⟨e,?_⟩;refine⟨.non,_,I.lset (its':=its++[u]) hH e (by simp) (r.append<|.cons ru .nil) ?_,Z,q⟩;rw[YOU,List.length_singleton];lia
inductive sC(x:V)(vs:List V)(H:L)(Q:VK):Prop
 |mk (l:_)(xs:_)(y:_):x=.ref l->vs=[]->H l=some (.lst xs)->xs[xs.length-1]?=some y->Q y (upd H l (.lst xs.dropLast))->sC x vs H Q
def rPop:V->J V->L->VK->Prop:=λx vs H Q=>sC x vs H Q
theorem xL:CD X "list.pop" rPop:=by
 intro O s σ H x vs v us Q I rx rv h;obtain⟨l,xs,y,rfl,rfl,hH,hy,q⟩:=h;cases rx;have hus:=rv.zero;subst hus;obtain⟨z,its,n,r,hl,e⟩:=I.lstM hH;obtain⟨u,hu,ru⟩:=r.get hy;have hy':its.toArray[its.toArray.size-1]?=some u:=by
  show its.toArray[its.length-1]?=some u;rw[<-YPX,<-hl];exact hu
 refine call_meets F.slot_list_pop ⟨_,e,Z⟩ F.entry_list_pop (F.args_list_pop_1 _) (MeetsSeq.list_pop_last l its.toArray n u hy' (by rw[YOp];omega)) ⟨e,?_⟩;refine⟨y,_,I.lset (its':=its.dropLast) hH e ?_ r.dropLast ?_,ru,q⟩;show its.toArray.eraseIdxIfInBounds (its.toArray.size-1)=its.dropLast.toArray;rw[YOp,List.eraseIdxIfInBounds_toArray,YJl];rw[List.length_dropLast];omega
inductive YGS(x:V)(vs:List V)(H:L)(Q:VK):Prop
 |mk (l:_)(xs:_):x=.ref l->vs=[]->H l=some (.lst xs)->Q .non (upd H l (.lst xs.reverse))->YGS x vs H Q
def YMv:V->J V->L->VK->Prop:=λx vs H Q=>YGS x vs H Q
theorem YJm:CD X "list.reverse" YMv:=by
 intro O s σ H x vs v us Q I rx rv h;obtain⟨l,xs,rfl,rfl,hH,q⟩:=h;cases rx;have hus:=rv.zero;subst hus;obtain⟨z,its,n,r,hl,e⟩:=I.lstM hH;refine call_meets F.slot_list_reverse ⟨_,e,Z⟩ F.entry_list_reverse (F.args_list_reverse_1 _) (AutoSeq1.list_reverse_list_0 l its.toArray n (by rw[YOp];omega)) ⟨e,?_⟩;refine⟨.non,_,I.lset (its':=its.reverse) hH e (by simp) r.reverse ?_,Z,q⟩;rw[YPB];omega
inductive tJ(x y:V)(H:L)(Q:VK):Prop
 |mk (l:_)(b:_)(xs:_)(zs:_):x=.ref l->y=.ref b->H l=some (.lst xs)->H b=some (.lst zs)->xs.length+zs.length<=sizeLine->(∀p,H p=none->Q (.ref p) (upd H p (.lst (xs++zs))))->tJ x y H Q
def rCat:R2:=λx y H Q=>tJ x y H Q
theorem BO:fK X (binaryOp .Add) rCat:=by
 intro O s σ H x y v u Q I rx ry h;obtain⟨l,b,xs,zs,rfl,rfl,hH,hB,hz,q⟩:=h;cases rx;cases ry;obtain⟨z,its,n,r,hl,e⟩:=I.lstM hH;obtain⟨z2,b_,n2,r2,hl2,e2⟩:=I.lstM hB;refine PySem.P.add_list e e2 ?_ (by rw[YOp,YOp];omega);have ea:its.toArray++b_.toArray=(its++b_).toArray:=by simp
 rw[ea];exact⟨.ref _,_,I.lnew (t':=s.toks) (r.append r2) (by rw[YOU];omega),Z,q _ I.fresh⟩
end
section
variable {prog:Program}{w:World}{A:Around}{E:ai->ar->Prop}{s:ar}
set_option maxRecDepth 100000 in
end
section
variable {X:Cx}
end
section
variable {κ:Type}[DecidableEq κ]
def Ye(kvs:J<|κ×V)(k:κ):ah V:=(kvs.find? λkv=>decide (kv.1=k)).map (·.2)
def Yu(kvs:J<|κ×V)(k:κ)(v:V):J<|κ×V:=
 if (kvs.any λkv=>decide (kv.1=k))=true then kvs.map (λkv=>if kv.1=k then (kv.1,v) else kv) else kvs++[(k,v)]
theorem ZT{p:κ×V}{r:J (κ×V)}{k:κ}(e:p.1=k):Ye (p::r) k=some p.2:=by simp[Ye,YP6,e]
theorem ZU{p:κ×V}{r:J (κ×V)}{k:κ}(e:¬p.1=k):Ye (p::r) k=Ye r k:=by simp[Ye,YP6,e]
theorem Xy(k:κ):∀kvs:J<|κ×V,(kvs.any λkv=>decide (kv.1=k))=(Ye kvs k).isSome
 |[]=>rfl
 |p::r=>by
  rw[List.any_cons];by_cases e:p.1=k;simp only[ZT e,de e,Bool.true_or,Option.isSome_some];rw[ZU e,dy e,Bool.false_or];exact Xy k r
theorem YIF(k j:κ)(y:V):∀kvs:J<|κ×V,Ye (kvs.map λkv=>if kv.1=k then (kv.1,y) else kv) j=(Ye kvs j).map λx=>if j=k then y else x
 |[]=>rfl
 |p::r=>by
  have ih:=YIF k j y r;rw[YOv];by_cases h:p.1=k;rw[if_pos h];by_cases e:p.1=j;rw[ZT (p:=(p.1,y)) e,ZT e,Option.map_some,if_pos<|e.symm.trans h];rw[ZU (p:=(p.1,y)) e,ZU e,ih];rw[if_neg h];by_cases e:p.1=j;rw[ZT (p:=p) e,ZT e,Option.map_some,if_neg<|λz=>h<|e.trans z];rw[ZU (p:=p) e,ZU e,ih]
theorem YGT(k j:κ)(y:V):∀kvs:J<|κ×V,Ye kvs k=none->Ye (kvs++[(k,y)]) j=if j=k then some y else Ye kvs j
 |[],_=>by
  by_cases e:k=j;rw[if_pos e.symm];exact ZT (p:=(k,y)) e;rw[if_neg<|λz=>e z.symm];exact ZU (p:=(k,y)) e
 |p::r,hn=>by
  rw[List.cons_append];have hk:¬p.1=k:=λz=>by rw[ZT z]at hn;cases hn
  rw[ZU hk]at hn;have ih:=YGT k j y r hn;by_cases e:p.1=j;rw[ZT e,ZT e,if_neg<|λz=>hk<|e.trans z];rw[ZU e,ZU e,ih]
theorem Z1(kvs:J<|κ×V)(k j:κ)(y:V):Ye (Yu kvs k y) j=if j=k then some y else Ye kvs j:=by
 unfold Yu;by_cases a:(kvs.any λkv=>decide (kv.1=k))=true;rw[if_pos a,YIF];rw[Xy]at a;by_cases e:j=k;obtain⟨x,U⟩:=YPm.mp a;rw[if_pos e,e,U,Option.map_some,if_pos Z];rw[if_neg e];cases Ye kvs j with
 |none=>rfl
 |some x=>rw[Option.map_some,if_neg e]
 rw[if_neg a];refine YGT k j y kvs ?_;rw[Xy]at a;cases q:Ye kvs k with
 |none=>rfl
 |some x=>rw[q]at a;exact(a Z).elim
theorem Zr(kvs:J<|κ×V)(k:κ)(v:V):(Yu kvs k v).length<=kvs.length+1:=by
 unfold Yu;split;rw[YOS];lia;rw[YOU,YOx,List.length_nil];lia
theorem YCs{kvs:J (κ×V)}{k:κ}(v:V)(h:Ye kvs k=none):Yu kvs k v=kvs++[(k,v)]:=by
 unfold Yu;rw[Xy,h];exact if_neg (by decide)
theorem ia.isSome_eq(r:ia o u):o.isSome=u.isSome:=by
 cases o with
 |none=>cases u with
  |none=>rfl
  |some _=>exact(show False from r).elim
 |some _=>cases u with
  |none=>exact(show False from r).elim
  |some _=>rfl
theorem ia.getD(r:ia o u)(rd:Yx d d'):Yx (o.getD d)<|u.getD d':=by
 cases o with
 |none=>cases u with
  |none=>exact rd
  |some _=>exact(show False from r).elim
 |some _=>cases u with
  |none=>exact(show False from r).elim
  |some _=>exact r
theorem KV.val{kvs:J (κ×V)}{vs:J (κ×ai)}(r:KV kvs vs)(k:κ):ia (Ye kvs k)<|valueAt vs k:=by
 unfold KV at r
 induction r with
 |nil=>exact True.intro
 |@cons p q ps qs h t ih=>
  obtain⟨h1,h2⟩:=h;by_cases e:p.1=k;have e':q.1=k:=h1.symm.trans e;have b:valueAt (q::qs) k=some q.2:=by simp[valueAt,YP6,e']
  rw[ZT e,b];exact h2;have e':¬q.1=k:=λz=>e<|h1.trans z;have b:valueAt (q::qs) k=valueAt qs k:=by simp[valueAt,YP6,e']
  rw[ZU e,b];exact ih
theorem KV.any(r:KV kvs vs)(k:κ):(kvs.any λkv=>decide (kv.1=k))=vs.any λkv=>decide (kv.1=k):=by
 unfold KV at r
 induction r with
 |nil=>rfl
 |cons h t ih=>rw[List.any_cons,List.any_cons,ih,h.1]
theorem KV.repl(r:KV kvs vs)(k:κ)(ry:Yx y u):
  KV (kvs.map λkv=>if kv.1=k then (kv.1,y) else kv) (vs.map λkv=>if kv.1=k then (kv.1,u) else kv):=by
 unfold KV at r ⊢
 induction r with
 |nil=>exact .nil
 |@cons p q ps qs h t ih=>
  rw[YOv,YOv];refine .cons ?_ ih;obtain⟨h1,h2⟩:=h;by_cases e:p.1=k;rw[if_pos e,if_pos<|h1.symm.trans e];exact⟨h1,ry⟩;rw[if_neg e,if_neg<|λz=>e<|h1.trans z];exact⟨h1,h2⟩
theorem KV.put(r:KV kvs vs)(k:κ)(ry:Yx y u):KV (Yu kvs k y)<|stored vs k u:=by
 unfold Yu stored;rw[r.any k];by_cases e:(vs.any λkv=>decide (kv.1=k))=true;rw[if_pos e,if_pos e];exact r.repl k ry;rw[if_neg e,if_neg e];exact Paired.snoc r ⟨Z,ry⟩
theorem KV.length(r:KV kvs vs):kvs.length=vs.length:=Paired.length r
end
theorem vn(r:Yx (kV k) u):(Yk P w).is k u=true:=by
 cases k with
 |inl i=>obtain⟨t,e⟩:=(show ∃t,u=Value.int i t from r);subst e;exact YH8 P w i t
 |inr x=>obtain⟨t,e⟩:=(show ∃t,u=Value.str x t from r);subst e;exact YH9 P w x t
theorem YGU:∀{ks:J c_}{us:J ai},Yt (ks.map kV) us->ItemsAre (Yk P w) ks us
 |[],_,r=>by rw[List.map_nil]at r;cases r;exact .nil
 |k::ks,_,r=>by
  rw[YOv]at r;cases r with
  |cons h t=>exact .cons (vn h)<|YGU t
abbrev KT(H:L):J (J c_×V)->J (J c_×al×ai)->Prop:=Paired λp q=>p.1=q.1/\H q.2.1=some (.tup<|p.1.map kV)/\Yx p.2 q.2.2
theorem KT.val{H:L}{kvs:J (J c_×V)}{xs:J (J c_×al×ai)}(r:KT H kvs xs)(k:J c_):ia (Ye kvs k)<|(atKey xs k).map (·.2):=by
 induction r with
 |nil=>exact True.intro
 |@cons p q ps qs h t ih=>
  obtain⟨h1,_,h2⟩:=h;by_cases e:p.1=k;have e':q.1=k:=h1.symm.trans e;have b:atKey (q::qs) k=some q.2:=by simp[atKey,YP6,e']
  rw[ZT e,b];exact h2;have e':¬q.1=k:=λz=>e<|h1.trans z;have b:atKey (q::qs) k=atKey qs k:=by simp[atKey,YP6,e']
  rw[ZU e,b];exact ih
theorem KT.repl(r:KT H kvs xs)(k:J c_)(ry:Yx y u):
  KT H (kvs.map λkv=>if kv.1=k then (kv.1,y) else kv) (xs.map<|putAt k u):=by
 induction r with
 |nil=>exact .nil
 |@cons p q ps qs h t ih=>
  rw[YOv,YOv];refine .cons ?_ ih;obtain⟨h1,h2,h3⟩:=h;unfold putAt;by_cases e:p.1=k;rw[if_pos e,if_pos<|h1.symm.trans e];exact⟨h1,h2,ry⟩;rw[if_neg e,if_neg<|λz=>e<|h1.trans z];exact⟨h1,h2,h3⟩
theorem KT.put(r:KT H kvs xs)(k:J c_)(hb:H b=some (.tup<|k.map kV))(ry:Yx y u):
  KT H (Yu kvs k y) (storedH xs k b u):=by
 have e:(kvs.any λkv=>decide (kv.1=k))=(atKey xs k).isSome:=by
  rw[Xy,(r.val k).isSome_eq,YPi]
 unfold Yu storedH;rw[e];by_cases q:(atKey xs k).isSome=true;rw[if_pos q,if_pos q];exact r.repl k ry;rw[if_neg q,if_neg q];exact Paired.snoc r ⟨Z,hb,ry⟩
theorem KT.keeps(r:KT H kvs xs)(ht:∀b ys,H b=some (.tup ys)->H' b=some (.tup ys)):KT H' kvs xs:=
 Paired.mapP r λ_ _ z=>⟨z.1,ht _ _ z.2.1,z.2.2⟩
section
variable {P:Program}{w:World}{H:L}{h:Heap}{a:al}
theorem kU(ok:fG P w H h)(e:Rd H a u):Y7 P w H h a u:=e.ok ok
theorem Ap(ok:fG P w H h)(e:Rd H a<|.dK kvs):kvs.length<=sizeLine/\(a==sysModules)=false/\∃vs,KV kvs vs/\h.DictOf (Yk P w) a vs:=
 show Y7 P w H h a (.dK kvs) from kU ok e
theorem k8(ok:fG P w H h)(e:H a=some (.dK kvs)):kvs.length<=sizeLine/\(a==sysModules)=false/\∃vs,KV kvs vs/\h.DictOf (Yk P w) a vs:=Ap ok<|.inl e
theorem xu(ok:fG P w H h)(e:H a=some (.tup<|ks.map kV)):(tupleKind<|Yk P w).is h ks a:=by
 obtain⟨_,its,r,o,h1,h2,n,h3⟩:=(show Y7 P w H h a (.tup<|ks.map kV) from ok a _ e);exact⟨o,its.toArray,n,h1,h2,h3,by simpa using YGU r⟩
theorem wY(ok:fG P w H h)(e:Rd H a<|.dT kvs):kvs.length<=sizeLine/\(a==sysModules)=false/\
  ∃xs,KT H kvs xs/\h.DictOfH (tupleKind<|Yk P w) a xs:=by
 obtain⟨z,y,xs,r,o,es,ep,h1,h2,h3,h4,h5⟩:=(show Y7 P w H h a (.dT kvs) from kU ok e);refine⟨z,y,xs,r,o,es,ep,h1,h2,h3,h4,λx U=>?_,h5⟩;have all:∀{l:J (J c_×V)}{m:J (J c_×al×ai)},KT H l m->∀x∈m,(tupleKind<|Yk P w).is h x.1 x.2.1:=by
  intro l m q
  induction q with
  |nil=>intro x U;exact nomatch U
  |@cons p q ps qs hq t ih=>
   intro x U;rcases YOj.mp U with e|U
   subst e;exact xu ok (by rw[<-hq.1];exact hq.2.1);exact ih x U
 exact all r x U
theorem tT(ok:fG P w H h)(e:H a=some (.dT kvs)):kvs.length<=sizeLine/\(a==sysModules)=false/\
  ∃xs,KT H kvs xs/\h.DictOfH (tupleKind<|Yk P w) a xs:=wY ok<|.inl e
end
def Xd(H:L)(a:al)(y:V)(r:ah V):Prop:=
 (∃kvs k,Rd H a (.dK kvs)/\y=kV k/\r=Ye kvs k)\/∃kvs k b,Rd H a (.dT kvs)/\y=.ref b/\H b=some (.tup<|k.map kV)/\r=Ye kvs k
def ib(H:L)(a:al)(y v:V)(H':L):Prop:=
 (∃kvs k,H a=some (.dK kvs)/\y=kV k/\kvs.length<sizeLine/\H'=upd H a (.dK<|Yu kvs k v))\/
 ∃kvs k b,H a=some (.dT kvs)/\y=.ref b/\H b=some (.tup<|k.map kV)/\kvs.length<sizeLine/\H'=upd H a (.dT<|Yu kvs k v)
theorem Xd.k{H:L}{a:al}{kvs:J (c_×V)}{k:c_}(e:H a=some (.dK kvs)):Xd H a (kV k)<|Ye kvs k:=.inl ⟨kvs,k,.inl e,Z,Z⟩
theorem Xd.t{H:L}{a b:al}{kvs:J (J c_×V)}{k:J c_}(e:H a=some (.dT kvs))(eb:H b=some (.tup<|k.map kV)):Xd H a (.ref b)<|Ye kvs k:=.inr ⟨kvs,k,b,.inl e,Z,eb,Z⟩
theorem ib.k{H:L}{a:al}{kvs:J (c_×V)}{k:c_}{v:V}(e:H a=some (.dK kvs))(hl:kvs.length<sizeLine):ib H a (kV k) v<|upd H a<|.dK<|Yu kvs k v:=.inl ⟨kvs,k,e,Z,hl,Z⟩
theorem ib.t{H:L}{a b:al}{kvs:J (J c_×V)}{k:J c_}{v:V}(e:H a=some (.dT kvs))(eb:H b=some (.tup<|k.map kV))(hl:kvs.length<sizeLine):
  ib H a (.ref b) v (upd H a<|.dT<|Yu kvs k v):=.inr ⟨kvs,k,b,e,Z,eb,hl,Z⟩
section
variable {X:Cx}{O:J (al×Obj)}{σ:St}{H:L}{s:ar}{a:al}{y v:V}{u r:ai}{o:ah V}{A:Around}{E:ai->ar->Prop}
theorem aW.big(I:aW X O σ H s):sysModules<s.heap.objs.size:=by
 have h:mainGlobals<s.heap.objs.size:=(I.mod.glob.keeps I.bk).lt;exact Nat.lt_trans (by decide) h
theorem YLw{Q:ai->ar->Prop}(hu:A.units+1<cLine)(I:aW X O σ H s)(g:Xd H a y<|some v)(ry:Yx y u)(h:∀w' s',aW X O σ H s'->Yx v w'->Q w' s'):
  wpAny (model X.prog X.w) A (getItem (.ref a) u) Q E s:=by
 rcases g with ⟨kvs,k,e,ey,l⟩|⟨kvs,k,b,e,ey,eb,l⟩
 subst ey;obtain⟨z,hd,vs,rel,dd⟩:=Ap I.hok e;obtain⟨w',hw,j9⟩:=ia.some_of (v:=v) (o:=valueAt vs k) (by rw[l];exact rel.val k);exact wpAny_getItem_of (vn ry) dd.mapOf hw<|h w' _ (I.tok _) j9;subst ey;cases (show u=Value.ref b from ry);obtain⟨z,hd,xs,rel,dd⟩:=wY I.hok e;obtain⟨w',hw,j9⟩:=ia.some_of (v:=v) (o:=(atKey xs k).map (·.2)) (by rw[l];exact rel.val k);obtain⟨p,hp,qm⟩:=YO2.mp hw;refine wpAny_getItem_heap (tupleKind_room_in1 hu) (xu I.hok eb) dd hp ?_;rw[qm];exact h w' _ (I.tok _) j9
theorem d_in{Q:ai->ar->Prop}(hu:A.units+1<cLine)(I:aW X O σ H s)(g:Xd H a y o)(ry:Yx y u)(h:∀s',aW X O σ H s'->Q (.bool o.isSome) s'):
  wpAny (model X.prog X.w) A (compareOp .In u<|.ref a) Q E s:=by
 rcases g with ⟨kvs,k,e,ey,l⟩|⟨kvs,k,b,e,ey,eb,l⟩
 subst ey;obtain⟨z,hd,vs,rel,dd⟩:=Ap I.hok e;refine wpAny_in_of (vn ry) hd dd.mapOf ?_;rw[<-(rel.val k).isSome_eq,<-l];exact h _<|I.tok _;subst ey;cases (show u=Value.ref b from ry);obtain⟨z,hd,xs,rel,dd⟩:=wY I.hok e;refine wpAny_in_heap (tupleKind_room_in1 hu) (xu I.hok eb) hd dd ?_;have q:=(rel.val k).isSome_eq;rw[YPi]at q;rw[<-q,<-l];exact h _<|I.tok _
theorem qD{Q:ai->ar->Prop}(hu:A.units+1<cLine)(I:aW X O σ H s)(g:Xd H a y o)(ry:Yx y u)(h:∀s',aW X O σ H s'->Q (.bool<|!o.isSome) s'):
  wpAny (model X.prog X.w) A (compareOp .NotIn u<|.ref a) Q E s:=by
 rcases g with ⟨kvs,k,e,ey,l⟩|⟨kvs,k,b,e,ey,eb,l⟩
 subst ey;obtain⟨z,hd,vs,rel,dd⟩:=Ap I.hok e;refine wpAny_notIn_of (vn ry) hd dd.mapOf ?_;rw[<-(rel.val k).isSome_eq,<-l];exact h _<|I.tok _;subst ey;cases (show u=Value.ref b from ry);obtain⟨z,hd,xs,rel,dd⟩:=wY I.hok e;refine wpAny_notIn_heap (tupleKind_room_in1 hu) (xu I.hok eb) hd dd ?_;have q:=(rel.val k).isSome_eq;rw[YPi]at q;rw[<-q,<-l];exact h _<|I.tok _
theorem Ck(I:aW X O σ H s)(mu:C1<|H a)(hs:Heap.SameBut a s.heap h')(he:∃q,h'.get? a=some q)(new:Y7 X.prog X.w (upd H a ob) h' a ob):
  aW X O σ (upd H a ob) { s with heap:=h',toks:=t' }:=
 I.write (x:=a) (e:=a) mu (.inl Z) (λb q hb z=>(hs.2 b hb).trans z) he new
theorem YJn(z:kvs.length<=sizeLine)(hd:(a==sysModules)=false)(rel:KV kvs vs)(dd:h'.DictOf (Yk P w) a vs):
  Y7 P w H' h' a (.dK kvs):=⟨z,hd,vs,rel,dd⟩
theorem YLx{H':L}{Q:Unit->ar->Prop}(hu:A.units+1<cLine)(I:aW X O σ H s)(g:ib H a y v H')(ry:Yx y u)(rv:Yx v r)(h:∀s',aW X O σ H' s'->Q () s'):
  wpAny (model X.prog X.w) A (setItem (.ref a) u r) Q E s:=by
 rcases g with ⟨kvs,k,e,ey,l,eH⟩|⟨kvs,k,b,e,ey,eb,l,eH⟩
 subst ey eH;obtain⟨z,hd,vs,rel,dd⟩:=k8 I.hok e;have hz:vs.length<=sizeLine:=by rw[<-rel.length];exact z
 have hl:(Yu kvs k v).length<=sizeLine:=by have:=Zr kvs k v;lia
 refine wpAny_setItem_pairs (hsz:=hz) (vn ry) dd λh' lM hs=>h _ ?_;have he:∃q,h'.get? a=some q:=let ⟨q,_,_,hq,_⟩:=lM;⟨q,hq⟩
 exact Ck I (by rw[e];exact True.intro) hs he<|YJn hl hd (rel.put k rv) lM;subst ey eH;cases (show u=Value.ref b from ry);obtain⟨z,hd,xs,rel,dd⟩:=tT I.hok e;have hz:xs.length<=sizeLine:=by rw[<-Paired.length rel];exact z
 have hl:(Yu kvs k v).length<=sizeLine:=by have:=Zr kvs k v;lia
 refine wpAny_setItem_heap (hsz:=hz) (tupleKind_room_in1 hu) (xu I.hok eb) dd λh' lM hs=>h _ ?_;obtain⟨q,es,ep,hq,h2,h3,h4,_,h5⟩:=lM;refine Ck I (by rw[e];exact True.intro) hs ⟨q,hq⟩ ⟨hl,hd,_,(rel.put k eb rv).keeps λc ys ec=>?_,q,es,ep,hq,h2,h3,h4,h5⟩;rw[YB<|Yg ec e nofun];exact ec
end
section
variable {X:Cx}{O:J (al×Obj)}{σ:St}{H:L}{s:ar}{a:al}{kvs:J (c_×V)}{k:c_}{u:ai}{A:Around}{E:ai->ar->Prop}
end
def Cq(i:Expr):Prop:=∀ov iv,subscripted i false ov iv=operate [ov,iv] (getItem ov iv)
theorem nc{prog:Program}{w:World}{A:Around}{E:ai->ar->Prop}{s:ar}{env:Env}{value slice:Expr}{pos:Pos}{T id:String}{Q:ai->ar->Prop}
  (hl:typeLookup (.type T) "__getitem__"=pure (some<|.builtin id))(hs:Cq slice)
  (h:wpAny (model prog w) A (eval value env) (λo s₁=>wpAny (model prog w) A (eval slice env) (λi s₂=>s₂.TypeIs o T/\wpAny (model prog w) A (getItem o i) Q E s₂) E s₁) E s):
  wpAny (model prog w) A (eval (.Subscript value slice pos) env) Q E s:=by
 refine Subscript_<|wpAny_mono h (λo s₁ h₁=>wpAny_mono h₁ (λi s₂ h₂=>?_) λ_ _ x=>x) λ_ _ x=>x;obtain⟨hT,h₂⟩:=h₂;unfold subscriptTail;refine YOh ?_;rw[getitemInPython_of_ne hT.not_modules];refine YOh<|wpAny_specialOf hT hl ?_;have fin:wpAny (model prog w) A (subscripted slice false o i) (λr s₃=>wpAny (model prog w) A (letTemporaryGo value o r >>= λ_=>pure r) Q E s₃) E s₂:=by
  rw[hs o i];exact wpAny_operating (wpAny_mono h₂ (λr s₃ h₃=>YOh<|wpAny_letTemporaryGo<|YO0 h₃) λ_ _ x=>x)
 first
  |exact YO0 (YOh fin)
  |exact YOh (YO0 (YOh fin))
  |exact YOh fin
theorem YIG(I:aW X O σ H s)(g:Xd H a y o):s.TypeIs (.ref a) "dict":=by
 rcases g with ⟨kvs,k,e,_,_⟩|⟨kvs,k,b,e,_,_,_⟩
 obtain⟨_,_,vs,_,dd⟩:=Ap I.hok e;exact dd.typeIs;obtain⟨_,_,xs,_,dd⟩:=wY I.hok e;exact dd.typeIs
inductive YMw(Q:VK)(x y:V)(H2:L):Prop
 |mk (a:_)(v:_):x=.ref a->Xd H2 a y (some v)->Q v H2->YMw Q x y H2
def sj(td ty:TE):TE:=λσ H Q=>td σ H λx H1=>ty σ H1 λy H2=>YMw Q x y H2
inductive sR(Q:VK)(y x:V)(H2:L):Prop
 |mk (a:_)(o:_):x=.ref a->Xd H2 a y o->Q (.bl o.isSome) H2->sR Q y x H2
def tDIn(ty td:TE):TE:=λσ H Q=>ty σ H λy H1=>td σ H1 λx H2=>sR Q y x H2
inductive YIH(Q:VK)(y x:V)(H2:L):Prop
 |mk (a:_)(o:_):x=.ref a->Xd H2 a y o->Q (.bl (!o.isSome)) H2->YIH Q y x H2
def YKh(ty td:TE):TE:=λσ H Q=>ty σ H λy H1=>td σ H1 λx H2=>YIH Q y x H2
inductive YMx(D:Ja)(σ:St)(v x y:V)(H3:L):Prop
 |mk (a:_)(H4:_):x=.ref a->ib H3 a y v H4->D.nx σ H4->YMx D σ v x y H3
def BB(td ty tv:TE):TS:=λD σ H=>tv σ H λv H1=>td σ H1 λx H2=>ty σ H2 λy H3=>YMx D σ v x y H3
section
variable {X:Cx}{o i e value:Expr}{pos gq iV:Pos}{td ty tv:TE}
theorem JL(hu:X.A.units+1<cLine)(ho:PE X o td)(hi:PE X i ty)(hs:Cq i):PE X (.Subscript o i pos)<|sj td ty:=by
 intro O s σ H Q I h;refine nc PySem.F.slot_dict_getitem.lookup hs<|cJ (ho O s σ H _ I h) λu s1 ⟨x,H1,I1,rx,q1⟩=>cJ (hi O s1 σ H1 _ I1 q1) ?_;rintro iv s2 ⟨y,H2,I2,ry,a,v,ex,g,q2⟩;subst ex;obtain rfl:u=Value.ref a:=rx;exact⟨YIG I2 g,YLw hu I2 g ry λw' s3 I3 j9=>⟨v,H2,I3,j9,q2⟩⟩
theorem AG(hu:X.A.units+1<cLine)(hi:PE X i ty)(ho:PE X o td):PC X .In i o<|tDIn ty td:=by
 intro O s σ H Q I h;refine cJ (hi O s σ H _ I h) λiv s1 ⟨y,H1,I1,ry,q1⟩=>cJ (ho O s1 σ H1 _ I1 q1) ?_;rintro u s2 ⟨x,H2,I2,rx,a,ov,ex,g,q2⟩;subst ex;obtain rfl:u=Value.ref a:=rx;exact d_in hu I2 g ry λs3 I3=>⟨.bl ov.isSome,H2,I3,Z,q2⟩
theorem Jr(hu:X.A.units+1<cLine)(hi:PE X i ty)(ho:PE X o td):PC X .NotIn i o<|YKh ty td:=by
 intro O s σ H Q I h;refine cJ (hi O s σ H _ I h) λiv s1 ⟨y,H1,I1,ry,q1⟩=>cJ (ho O s1 σ H1 _ I1 q1) ?_;rintro u s2 ⟨x,H2,I2,rx,a,ov,ex,g,q2⟩;subst ex;obtain rfl:u=Value.ref a:=rx;exact qD hu I2 g ry λs3 I3=>⟨.bl<|!ov.isSome,H2,I3,Z,q2⟩
theorem Jg(hu:X.A.units+1<cLine)(ho:PE X o td)(hi:PE X i ty)(hv:PE X value tv)(hs:swapsWith value (some<|.Subscript o i gq) pos.line X.env=pure false):
  PS X (.Assign [.Subscript o i gq] value pos) (BB td ty tv):=by
 intro O s σ H D I h;refine wpAny_Assign_Subscript (cJ (hv O s σ H _ I h) λr s1 ⟨v,H1,I1,rv,q1⟩=>cJ (ho O s1 σ H1 _ I1 q1) λu s2 ⟨x,H2,I2,rx,q2⟩=>cJ (hi O s2 σ H2 _ I2 q2) λiv s3 ⟨y,H3,I3,ry,a,H4,ex,g,q3⟩=>?_) hs;subst ex;obtain rfl:u=Value.ref a:=rx;exact YLx hu I3 g ry rv λs4 I4=>⟨σ,H4,I4,q3⟩
end
theorem YII(h:Heap)(hb:sysModules<h.objs.size):Y7 P w H (h.push { cls:=.type "dict",data:=.dict #[] }) h.objs.size<|.dK []:=
 ⟨YOn _,beq_eq_false_iff_ne.mpr<|Ne.symm<|YPC hb,[],.nil,Heap.DictOf.new h⟩
theorem YMy(h:Heap)(hb:sysModules<h.objs.size):Y7 P w H (h.push { cls:=.type "dict",data:=.dict #[] }) h.objs.size<|.dT []:=
 ⟨YOn _,beq_eq_false_iff_ne.mpr<|Ne.symm<|YPC hb,[],.nil,_,#[],0,YOy _ rfl,⟨Z,Z,Z⟩,Z,Z,YPJ⟩
def xQ:TE:=λ_ H Q=>∀p,H p=none->Q (.ref p) (upd H p<|.dK [])
def xY:TE:=λ_ H Q=>∀p,H p=none->Q (.ref p) (upd H p<|.dT [])
section
variable {X:Cx}{pos:Pos}
theorem YE2:PE X (.Dict [] [] pos) xQ:=λO s σ H Q I h=>
 wpAny_Dict_empty ⟨.ref s.heap.objs.size,_,I.laid (a:=s.heap.objs.size) (o:=.dK []) (t':=s.toks) (λ_ _ q=>YOi _ q) (YOY _)<|YII s.heap I.big,Z,h _<|I.hok.fresh<|YOY _⟩
theorem Jz:PE X (.Dict [] [] pos) xY:=λO s σ H Q I h=>
 wpAny_Dict_empty ⟨.ref s.heap.objs.size,_,I.laid (a:=s.heap.objs.size) (o:=.dT []) (t':=s.toks) (λ_ _ q=>YOi _ q) (YOY _)<|YMy s.heap I.big,Z,h _<|I.hok.fresh<|YOY _⟩
end
def YJo:J (TE×TE)->St->L->(J (V×V)->L->Prop)->Prop
 |[],_,H,Q=>Q [] H
 |(tk,tv)::r,σ,H,Q=>tk σ H λx H1=>tv σ H1 λy H2=>YJo r σ H2 λps H3=>Q ((x,y)::ps) H3
abbrev VV:J (V×V)->J (ai×ai)->Prop:=Paired λp q=>Yx p.1 q.1/\Yx p.2 q.2
def PPs(X:Cx)(pos:Pos)(keys:J<|ah Expr)(values:J Expr)(trs:J<|TE×TE):Prop:=
 ∀(O:J<|al×Obj) (s:ar) (σ:St) (H:L) (Q:J (V×V)->L->Prop),aW X O σ H s->YJo trs σ H Q->
  wpAny (model X.prog X.w) X.A (evalPairs<|pairTrees keys values X.env pos) (λvs s'=>∃ps H',aW X O σ H' s'/\VV ps vs/\Q ps H') X.xe s
theorem o_:PPs X pos [] [] []:=λO s σ H Q I h=>pairTrees_nil_walk ⟨[],H,I,.nil,h⟩
theorem YMz{X:Cx}{pos:Pos}{k v:Expr}{ks:J (ah Expr)}{vs:J Expr}{tk tv:TE}{trs:J (TE×TE)}(hk:PE X k tk)(hv:PE X v tv)(hr:PPs X pos ks vs trs):
  PPs X pos (some k::ks) (v::vs) ((tk,tv)::trs):=λO s σ H Q I h=>
 pairTrees_cons_walk (cJ (hk O s σ H _ I h) λu s1 ⟨x,H1,I1,rx,q1⟩=>cJ (hv O s1 σ H1 _ I1 q1) λw2 s2 ⟨y,H2,I2,ry,q2⟩=>
  cJ (hr O s2 σ H2 _ I2 q2) λws s3 ⟨ps,H3,I3,rel,q3⟩=>⟨(x,y)::ps,H3,I3,.cons ⟨rx,ry⟩ rel,q3⟩)
def AV(kvs more:J<|c_×V):J<|c_×V:=more.foldl (λacc kv=>Yu acc kv.1 kv.2) kvs
theorem KV.merge:∀{more:J (c_×V)}{rs:J (c_×ai)}{kvs:J (c_×V)}{vs:J (c_×ai)},KV more rs->KV kvs vs->KV (AV kvs more) (merged vs rs):=by
 intro more rs kvs vs r;unfold KV at r
 induction r generalizing kvs vs with
 |nil=>intro q;exact q
 |@cons p q ps qs h t ih=>
  intro r0;have e:KV (Yu kvs p.1 p.2)<|stored vs q.1 q.2:=by
   have:=r0.put p.1 h.2;rw[<-h.1];exact this
  exact ih e
theorem YCE:∀(more kvs:J<|c_×V),(AV kvs more).length<=kvs.length+more.length
 |[],kvs=>by show kvs.length<=kvs.length+0;lia
 |p::r,kvs=>by
  have h1:=YCE r<|Yu kvs p.1 p.2;have h2:=Zr kvs p.1 p.2;show(AV (Yu kvs p.1 p.2) r).length<=_;rw[YOx];lia
theorem YE3:∀{kvs:J (c_×V)}{ws:J (ai×ai)},VV (kvs.map λkv=>(kV kv.1,kv.2)) ws->∃rs,Carries (Yk P w) ws rs/\KV kvs rs
 |[],_,r=>by rw[List.map_nil]at r;cases r;exact⟨[],True.intro,.nil⟩
 |p::kvs,_,r=>by
  rw[YOv]at r;cases r with
  |@cons a b as bs h t=>
   obtain⟨rs,c,q⟩:=YE3 (P:=P) (w:=w) t;obtain⟨b1,b2⟩:=b;exact⟨(p.1,b2)::rs,⟨vn h.1,Z,c⟩,.cons ⟨Z,h.2⟩ q⟩
def tj(trs:J<|TE×TE):TE:=λσ H Q=>∀p,H p=none->YJo trs σ (upd H p<|.dK []) λps H2=>H2 p=some (.dK [])/\∃kvs:J<|c_×V,ps=kvs.map (λkv=>(kV kv.1,kv.2))/\kvs.length<=15/\Q (.ref p) (upd H2 p<|.dK<|AV [] kvs)
theorem mE(h:PPs X pos keys values trs)(hall:keys.all (·.isSome)=true)(hl:keys.length=values.length)(h0:keys≠[])
  (Wn:keys.length<=15):PE X (.Dict keys values pos)<|tj trs:=by
 intro O s σ H Q I q;have hn:=I.hok.fresh<|YOY s.heap.objs.size;have I1:=I.laid (a:=s.heap.objs.size) (o:=.dK []) (h':=s.heap.push { cls:=.type "dict",data:=.dict #[] }) (t':=s.toks) (λ_ _ q=>YOi _ q) (YOY _)<|YII s.heap I.big;refine wpAny_Dict_walk (knd:=Yk X.prog X.w) hall hl h0 Wn<|cJ (h O _ σ _ _ I1<|q _ hn) ?_;rintro ws s2 ⟨ps,H2,I2,rel,e,kvs,ep,lk,q2⟩;subst ep;obtain⟨rs,c,rk⟩:=YE3 (P:=X.prog) (w:=X.w) rel;obtain⟨z,hd,vs0,r0,dd⟩:=k8 I2.hok e;cases r0;refine⟨rs,c,dd,λh' lM hs=>⟨.ref s.heap.objs.size,_,?_,Z,q2⟩⟩;have hz:(AV [] kvs).length<=sizeLine:=by
  have h1:=YCE kvs [];rw[List.length_nil]at h1;rw[sizeLine_eq];lia
 have he:∃q,h'.get? s.heap.objs.size=some q:=let ⟨q,_,_,hq,_⟩:=lM;⟨q,hq⟩
 exact Ck I2 (by rw[e];exact True.intro) hs he<|YJn hz hd (rk.merge .nil) lM
structure M2(X:Cx)(o:Expr)(m:Str)(bD:Pos)(e f:Expr)(bj:Pos):Prop where
 base:attributeBase o m X.env (eval o X.env)=eval o X.env
 few:((backTo bj<|starEach [e,f] X.env).all (λx=>!x.1)&&(backToKw bj<|keywordEach [] X.env).all (λx=>x.1.isSome)
  && decide (([e,f]:List Expr).length+([]:List Keyword).length+(if ([]:List Keyword).isEmpty then 0 else 1)<30))=true
 line:(bD.endLine==bj.line)=true
 trees:backTo bj (starEach [e,f] X.env)=[(false,eval e X.env),(false,eval f X.env)]
def IsD(H:L)(a:al):Prop:=(∃kvs,Rd H a<|.dK kvs)\/∃kvs,Rd H a<|.dT kvs
theorem YJp(I:aW X O σ H s)(d:IsD H a):
  s.TypeIs (.ref a) "dict"/\(∀b,Value.ref a=.ref b->∃ob,s.heap.get? b=some ob/\ob.dict=none)/\(a==sysModules)=false:=by
 rcases d with ⟨kvs,e⟩|⟨kvs,e⟩
 obtain⟨_,hd,vs,_,dd⟩:=Ap I.hok e;refine⟨dd.typeIs,λb q=>?_,hd⟩;cases q;obtain⟨ob,_,_,h1,h2,_⟩:=dd;exact⟨ob,h1,h2.2.1⟩;obtain⟨_,hd,xs,_,dd⟩:=wY I.hok e;refine⟨dd.typeIs,λb q=>?_,hd⟩;cases q;obtain⟨ob,_,_,h1,h2,_⟩:=dd;exact⟨ob,h1,h2.2.1⟩
section
variable {X:Cx}{O:J (al×Obj)}{σ:St}{H:L}{s:ar}{a:al}{y d:V}{u r:ai}{o:ah V}{A:Around}{E:ai->ar->Prop}
theorem xv{Q:ai->ar->Prop}(hu:A.units+1<cLine)(I:aW X O σ H s)(g:Xd H a y o)(ry:Yx y u)(rd:Yx d r)(h:∀w' s',aW X O σ H s'->Yx (o.getD d) w'->Q w' s'):
  wpAny (model X.prog X.w) A (call (.builtin "dict.get") [.ref a,u,r]) Q E s:=by
 rcases g with ⟨kvs,k,e,ey,l⟩|⟨kvs,k,b,e,ey,eb,l⟩
 subst ey;obtain⟨z,hd,vs,rel,dd⟩:=Ap I.hok e;refine call_meetsIn PySem.F.slot_dict_get dd.typeIs PySem.F.entry_dict_get (PySem.F.args_dict_get_3 _ _ _) (meets_dict_get_default (Yk X.prog X.w) a (vn ry) hd r) ⟨_,dd.mapOf,h _ _ (I.tok _) ?_⟩;rw[l];exact(rel.val k).getD rd;subst ey;cases (show u=Value.ref b from ry);obtain⟨z,hd,xs,rel,dd⟩:=wY I.hok e;refine call_meetsIn PySem.F.slot_dict_get dd.typeIs PySem.F.entry_dict_get (PySem.F.args_dict_get_3 _ _ _) (meetsH_dict_get_default (tupleKind<|Yk X.prog X.w) a b hd r) ⟨tupleKind_room_in1 hu,k,xs,xu I.hok eb,dd,h _ _ (I.tok _) ?_⟩;rw[l];exact(rel.val k).getD rd
end
def xo(td ty tx:TE):TE:=λσ H Q=>td σ H λx H1=>∃a,x=.ref a/\IsD H1 a/\ty σ H1 λy H2=>tx σ H2 λz H3=>∃o,Xd H3 a y o/\Q (o.getD z) H3
section
variable {X:Cx}{o e f:Expr}{bD bj:Pos}{td ty tx:TE}
theorem CO(hu:X.A.units+1<cLine)(ho:PE X o td)(he:PE X e ty)(hf:PE X f tx)(m:M2 X o "get" bD e f bj):PE X (.Call (.Attribute o "get" bD) [e,f] [] bj)<|xo td ty tx:=by
 intro O s σ H Q I h;refine wpAny_Call_method m.base m.few m.line PySem.F.plainAttrs_dict PySem.F.slot_dict_get PySem.F.type_dict_get<|cJ (ho O s σ H _ I h) ?_;rintro u s1 ⟨x,H1,I1,rx,a,ex,d,q1⟩;subst ex;obtain rfl:u=Value.ref a:=rx;obtain⟨t1,t2,_⟩:=YJp I1 d;refine⟨t1,t2,?_⟩;rw[m.trees];refine Calls.callWith_builtin Z (Calls.evalArgs_plain (Calls.spliced_cons<|cJ (he O s1 σ H1 _ I1 q1) λiv s2 ⟨y,H2,I2,ry,q2⟩=>
  Calls.spliced_cons (cJ (hf O s2 σ H2 _ I2 q2) ?_)))
 rintro fv s3 ⟨z,H3,I3,rz,ov,g,q3⟩;refine Calls.spliced_nil ?_;exact xv hu I3 g ry rz λw' s4 I4 j9=>⟨_,H3,I4,j9,q3⟩
end
section
variable {X:Cx}{O:J (al×Obj)}{σ:St}{H:L}{s:ar}{a:al}{kvs:J (c_×V)}{A:Around}{E:ai->ar->Prop}
end
section
variable {X:Cx}{O:J (al×Obj)}{σ:St}{H:L}{s:ar}{a:al}{y:V}{u:ai}{A:Around}{E:ai->ar->Prop}
end
end L2
namespace Att
open PySem PySem.W PySem.Calls PyProof.Rows
theorem YEN:∀(ns:J Int) (vs:J ai),WellAll P h vs (ns.map WData.int)->IntsAre vs ns:=by
 intro ns
 induction ns with
 |nil=>
  intro vs w;rw[List.map_nil]at w;cases w;exact .nil
 |cons n ns ih=>
  intro vs w;rw[YOv]at w;cases w with
  |cons a b=>
   cases a;exact .cons _ _<|ih _ b
theorem YLy{l:OpenLaw}{n:Nat}(hn:l.most=some n){P:Params}{h:Heap}{args:J WData}{vals:J ai}
  (pM:l.row.toRowW.claim.pre args=true)(hwl:WellAll P h vals args):
  ∃a vs ns,vals=[Value.ref a]/\args=[WData.list<|ns.map WData.int]/\h.get? a=some { cls:=.type "list",data:=.seq vs.toArray }/\IntsAre vs ns/\ns.length<=n:=by
 have Wo:WShape.hasAll [] args [.list .int]=true:=(pre_splitW pM).1;have hc:l.pre.holds [] { args:=args }=true:=(pre_splitW pM).2;obtain⟨d,r,rfl,h1,h2⟩:=hasAllW_cons Wo;obtain rfl:=hasAllW_nil h2;obtain⟨xs,rfl,h3⟩:=hasW_list h1;obtain⟨ns,rfl⟩:=items_int h3;have hlen:ns.length<=n:=by
  unfold OpenLaw.pre at hc;have h4:(WTm.not<|.lt (.lit<|.int (n:Int))<|.len<|.arg 0).holds [] { args:=[.list<|ns.map .int] }=true:=by
   have h4:=(holds_andW hc).1;rw[hn]at h4;exact h4
  have h5:=condW_of h4<|w_not<|w_lt w_lit<|w_len_list<|w_arg rfl;rw[YOS]at h5;refine Nat.le_of_not_lt λq=>?_;have q':(n:Int)<((ns.length:Nat):Int):=by omega
  first
   |(rw[de q']at h5;exact absurd h5 (by decide))
   |(simp at h5;omega)
 cases hwl with
 |cons w1 w2=>
  cases w2;cases w1 with
  |list ho hall=>exact⟨_,_,ns,Z,Z,ho,YEN ns _ hall,hlen⟩
theorem YLz(l:OpenLaw)(args:J WData):l.row.toRowW.claim.post args (.bool true) args=true:=
 postW_of (r:=l.row.toRowW) (X:=(true==true))
  (show WShape.has [] (.bool true) .bool=true by first|rfl|decide|simp[WShape.has,WShape.arms,WShape.armsAll])
  (show(WTm.eq .res<|.lit<|.bool true).value [] { args:=args,res:=some<|.bool true,after:=args }=some (.bool<|true==true) from w_eq_bool (w_res Z) w_lit) Z
theorem YIJ{l:OpenLaw}{n:Nat}{q:Program}{loose:J av}{XP:(av->ah ai)->Heap->Prop}{YP:World->Heap->Prop}{d:DefRec}
  (hn:l.most=some n)(hdf:d.params.defaults=[])
  (call:∀(w:World) (s₀ s₁:ar) (mg mb:av->ah ai) (fa:al) (o:Obj) (pm cd doc:ai) (a:al) (vs:J ai) (ns:J Int),
   Ground q loose [] XP w s₀ mg mb s₁.heap->YP w s₁.heap->
   s₁.heap.get? fa=some o->o.data=.func (docDef d.name d.params d.body d.scope pm cd doc)->s₁.heap.CodeRec cd d.name->mg d.name=some (.ref fa)->
   s₁.heap.get? a=some { cls:=.type "list",data:=.seq vs.toArray }->IntsAre vs ns->ns.length<=n->s₁.gens=#[]->
   codeAny (model l.prog w) callerA (.call (.ref fa) ⟨[.ref a],[]⟩) (λr s'=>r=.ok (.ret<|.bool true)/\OldK s₁.heap s'.heap/\s'.os=s₁.os/\AllBare s'.gens) s₁):
  WalkO q loose XP YP l.row.toRowW d [] (λf vs=>PySem.call f vs):=by
 intro w s₀ s₁ mg mb G Y fa o pm cd doc dV kV ho hd hcd hD uz hg args vals as pM hlay hrd hwl hlo;obtain rfl:dV=.none:=Dflts.none hD hdf;obtain rfl:kV=.none:=Dflts.noKw hD;obtain⟨a,vs,ns,rfl,rfl,rK,mY,hlen⟩:=YLy hn pM hwl;refine enter_call<|codeAny_mono (call w s₀ s₁ mg mb fa o pm cd doc a vs ns G Y ho (fd_plain hd) hcd uz rK mY hlen hg) λr s' hq=>?_;obtain⟨rfl,h2,h3,h4⟩:=hq;exact⟨.inl ⟨.bool true,.bool true,[],Z,λ_=>rfl,.bool true,YLz l _,λ_=>⟨List.Pairwise.nil,λ_ hm=>(nomatch hm)⟩⟩,h2,h3,h4⟩
section
variable {prog:Program}{w:World}{A:Around}{E:ai->ar->Prop}{s:ar}{K:Frag}
end
end Att
namespace L2
open PySem PySem.Spec PyProof.Rows
theorem YDa:∀{vs:J ai}{ns:J Int},IntsAre vs ns->Yt (ns.map V.int) vs
 |_,_,.nil=>.nil
 |_,_,.cons n t h=>.cons ⟨t,Z⟩<|YDa h
def mh(H:L):Prop:=∀b,H b=none\/∃o xs,H b=some (.frz o<|.lst xs)
theorem YM0{P:Program}{w:World}{K:W.Frag}{mg mb:av->ah ai}{CX:gE}{k:Nat}{fa a:al}{fd:FuncData}{x:av}{sp:Sp}{s₁:ar}{vs:J ai}{ns:J Int}
  (KX:K.In s₁.heap)(hns:s₁.heap.Ns mainGlobals mg)(hb:s₁.heap.Ns builtinsNs mb)(hbb:∀x:av,x≠"__name__"->mb x=bootBuiltins x)(yq:s₁.heap.NoLimit)(hg:s₁.gens=#[])
  (ha:s₁.heap.get? a=some { cls:=.type "list",data:=.seq vs.toArray })(hi:IntsAre vs ns)(hl:ns.length<=sizeLine)(hr:JQ k callerA)
  (F:∀base:Heap,K.In base->base.Ns mainGlobals mg->gs P w K mg base CX k fa fd [x] sp)(uA:∀(s:ar) (u:ai),BindsTo s fd ⟨[u],[]⟩ [(x,u)])
  (hsp:∀H:L,mh H->aX K H a (ns.map V.int)->sp [.ref a] H (λv _=>v=.bl true) λ_ _ _=>False)
  (hCX:∀H e s',CX [] H s₁ (λ_ _ _=>False) e s'->False):
  codeAny (model P w) callerA (.call (.ref fa) ⟨[.ref a],[]⟩) (λr s'=>r=.ok (.ret<|.bool true)/\OldK s₁.heap s'.heap/\s'.os=s₁.os/\AllBare s'.gens) s₁:=by
 have rv:=YDa hi;have lenV:=hi.length;have core:∀H:L,mh H->aX K H a (ns.map V.int)->fG P w H s₁.heap->(∀b,H b≠none->b=a)->(H a≠none->K.lookup a=none)->
   codeAny (model P w) callerA (.call (.ref fa) ⟨[.ref a],[]⟩) (λr s'=>r=.ok (.ret<|.bool true)/\OldK s₁.heap s'.heap/\s'.os=s₁.os/\AllBare s'.gens) s₁:=by
  intro H hO hS hok hA hK;have base_of:∀{b:al}{o:Obj},s₁.heap.get? b=some o->H b=none->(oV s₁.heap H).get? b=some o:=λe n=>YMY e n;have noA:∀{b:al}{o:Obj}{es:Array DictEntry}{ep:Nat},s₁.heap.get? b=some o->o.data=.dict es ep->H b=none:=λ{b o es ep} e d=>by
   cases q:H b with
   |none=>rfl
   |some u=>
    have e':b=a:=hA b (by rw[q];simp);subst e';rw[ha]at e;cases e;have d':Data.seq vs.toArray _=Data.dict es ep:=d;cases d'
  have nsK:∀{b:al}{m:av->ah ai},s₁.heap.Ns b m->(oV s₁.heap H).Ns b m:=λ{b m} ⟨o,es,ep,e,d,r⟩=>⟨o,es,ep,base_of e<|noA e d,d,r⟩;have hKb:K.In<|oV s₁.heap H:=λb o e=>base_of (KX b o e) (by
   cases q:H b with
   |none=>rfl
   |some u=>
    have e':b=a:=hA b (by rw[q];simp);subst e';rw[hK (by rw[q];simp)]at e;cases e)
  have hM:Mod K mg<|oV s₁.heap H:=⟨hKb,nsK hns,⟨mb,nsK hb,hbb⟩,let ⟨mc,h1,h2⟩:=yq;⟨mc,nsK h1,h2⟩⟩;have e0:iE P w K mg (oV s₁.heap H) callerA [] s₁ H:=⟨Z,hM,λb o e=>qh e,Nat.le_of_eq<|YLn _ _,trivial,λb hb=>absurd (show b∈([]:J al) from hb) (by simp),hok,.of_eq hg⟩;refine codeAny_mono ((F _ hKb<|nsK hns).run callerA [] s₁ H ⟨[.ref a],[]⟩ [.ref a] [.ref a] _ _ hr e0 (uA s₁<|.ref a) (.cons Z .nil)<|hsp H hO hS) λr s' h=>?_;cases r with
  |error e=>exact(hCX H e s' h).elim
  |ok fl=>
   cases fl with
   |next=>exact False.elim h
   |brk=>exact False.elim h
   |cont=>exact False.elim h
   |ret u=>
    obtain⟨v,H',os,bare,un,hok',r',q⟩:=h;have q':v=.bl true:=q;subst q';obtain rfl:u=Value.bool true:=r';refine⟨Z,OldK.of_keep λb o e=>?_,os,bare⟩;cases q:H b with
    |none=>exact un.keep b o e q (by intro z;exact absurd (show b∈([]:J al) from z) (by simp)) (by simp)
    |some u=>
     rcases hO b with z|⟨ob,xs,z⟩
     rw[q]at z;cases z;have z2:=un.frzs b ob _ z;obtain⟨R,_⟩:=hok b _ z;obtain⟨e2,_⟩:=hok' b _ z2;rw[e]at R;cases R;exact e2
 cases hk:K.lookup a with
 |some o=>
  have e:=KX a o hk;rw[ha]at e;cases e;refine core (λ_=>none) (λ_=>.inl Z) (.inr ⟨_,vs.toArray,_,hk,Z,Z,Z,by rw[YOp,lenV];exact hl,by simpa using rv⟩) (λb u z=>by have z':(none:ah HO)=some u:=z;cases z') (λb z=>absurd Z z) λz=>absurd Z z
 |none=>
  refine core (λb=>if b=a then some (.frz { cls:=.type "list",data:=.seq vs.toArray }<|.lst<|ns.map V.int) else none) (λb=>?_) (.inl<|.inr ⟨{ cls:=.type "list",data:=.seq vs.toArray },if_pos rfl⟩) (λb u z=>?_) (λb z=>?_) λ_=>hk;by_cases hb:b=a;exact .inr ⟨_,_,if_pos hb⟩;exact .inl<|if_neg hb;by_cases hb:b=a;have z':=(if_pos hb).symm.trans z;cases z';subst hb;exact⟨ha,by rw[YOS];exact hl,vs,_,rv,ha⟩;have z':=(if_neg hb).symm.trans z;cases z';by_cases hb:b=a;exact hb;exact absurd (if_neg hb) z
theorem walk_of{l:PySem.W.OpenLaw}{n k:Nat}{q:Program}{loose:J av}{XP:(av->ah ai)->Heap->Prop}{YP:World->Heap->Prop}{d:DefRec}{K:Params->W.Frag}{CX:World->gE}{sp:World->Sp}{x:av}
  (hn:l.most=some n)(hn2:n<=sizeLine)(hdf:d.params.defaults=[])(hr:JQ k callerA)
  (hY:∀(w:World) (h:Heap),YP w h->(K w.params).In h)
  (F:∀(w:World) (mg:av->ah ai) (fa:al) (h:Heap),(K w.params).In h->h.Ns mainGlobals mg->mg d.name=some (.ref fa)->
   ∃fd:FuncData,(∀(s:ar) (u:ai),BindsTo s fd ⟨[u],[]⟩ [(x,u)])/\
    ∀base:Heap,(K w.params).In base->base.Ns mainGlobals mg->gs l.prog w (K w.params) mg base (CX w) k fa fd [x] (sp w))
  (hsp:∀(w:World) (H:L) (a:al) (ns:J Int),ns.length<=n->mh H->aX (K w.params) H a (ns.map V.int)->sp w [.ref a] H (λv _=>v=.bl true) λ_ _ _=>False)
  (hCX:∀(w:World) (H:L) (s:ar) (e:ai) (s':ar),CX w [] H s (λ_ _ _=>False) e s'->False):
  PySem.W.WalkO q loose XP YP l.row.toRowW d [] (λf vs=>PySem.call f vs):=by
 refine Att.YIJ hn hdf λw s₀ s₁ mg mb fa o pm cd doc a vs ns G Y ho hd hcd uz rK mY hlen hg=>?_;have KX:=hY w _ Y;obtain⟨fd,hb,hF⟩:=F w mg fa _ KX G.T.g uz;exact YM0 KX G.T.g G.T.b G.T.builtins G.T.nolimit hg rK mY (YO1 hlen hn2) hr hF hb (λH hO hS=>hsp w H a ns hlen hO hS) λH e s'=>hCX w H s₁ e s'
def Yv(s:Stmt)(j:Nat):Stmt:=match s with
 |.ClassDef _ _ _ body _ _ _ _ _ _ _=>body.getD j<|.Pass ⟨0,0,0,0⟩
 |_=>.Pass ⟨0,0,0,0⟩
def JT(s:Stmt):Arguments:=match s with
 |.FunctionDef _ a _ _ _ _ _ _ _ _=>a
 |_=>{ posonlyargs:=[],args:=[],vararg:=none,kwonlyargs:=[],kw_defaults:=[],kwarg:=none,defaults:=[] }
def Zl(s:Stmt):J Stmt:=match s with
 |.FunctionDef _ _ b _ _ _ _ _ _ _=>b
 |_=>[]
def YG(s:Stmt):Scope:=match s with
 |.FunctionDef _ _ _ _ _ _ sc _ _ _=>sc
 |_=>{ kind:=.function,names:=[],isGenerator:=false,isCoroutine:=false }
abbrev bZ:gE:=λ_ _ _ _ _ _=>False
abbrev E0:XK:=λ_ _ _=>False
theorem YQ:XG bZ X E0:=λ_ _ _ _ _ _ _ h=>h.elim
structure kL(K:W.Frag)(x qual:Str)(st:Stmt)(f:Addr)(fd:FuncData):Prop where
 ex:∃(oc:Value) (od:Option Addr) (kV doc pm:Value) (an:Option Addr) (cW ct:Value) (osl:Array<|Option Value),
  fd=PySem.W.fnOf x qual (JT st) (Zl st) (YG st) .none kV doc pm an cW ct/\K.lookup f=some ⟨oc,od,.func fd,osl⟩/\PySem.W.codeIn K cW qual=true
 kp:PySem.W.keepIn K (.ref f)=true
section
variable {P:Program}{w:World}{K:W.Frag}{mg:av->ah ai}{base:Heap}
theorem kL.ok{x qual:av}{st:Stmt}{f:al}{fd:FuncData}{N ps:J av}{k:Nat}{sp:Sp}(F:kL K x qual st f fd)(Dr:YJ N ps<|YG st)(len:∀vs H Q E,sp vs H Q E->vs.length=ps.length)
  (hbody:∀(cW:ai) (A:Around) (outer:J Env) (s:ar) (H:L) (vs:J V) (Q:VK) (E:XK),JQ k (A.deeper<|envOfC qual (YG st) s.heap.objs.size f cW)->sp vs H Q E->
   ∃t,gS (iP bZ P w K mg base N qual (YG st) f cW A outer s H E).nox (Zl st) t/\t { nx:=λ_ H'=>Q .non H',rt:=Q } (start N vs) H):gs P w K mg base bZ (k+1) f fd ps sp:=by
 obtain⟨oc,od,kV,doc,pm,an,cW,ct,osl,rfl,lk,hcd⟩:=F.ex;refine t9 lk hcd Dr len λA outer s H vs Q E hr hsp=>?_;obtain⟨t,h,q⟩:=hbody cW A outer s H vs Q E hr hsp;exact⟨t,h.nox,q⟩
theorem kL.binds{x qual:av}{st:Stmt}{f:al}{fd:FuncData}{ps:J av}(F:kL K x qual st f fd)
  (h:∀(kV doc pm:ai) (an:ah al) (cW ct:ai) (us:J ai),us.length=ps.length->bindArgs (PySem.W.fnOf x qual (JT st) (Zl st) (YG st) .none kV doc pm an cW ct) ⟨us,[]⟩=pure (ps.zip us)):kx K fd ps []:=by
 obtain⟨oc,od,kV,doc,pm,an,cW,ct,osl,rfl,lk,hcd⟩:=F.ex;exact .all<|h kV doc pm an cW ct
theorem YM1{x qual:av}{st:Stmt}{f:al}{oc:ai}{od an:ah al}{osl:Array (ah ai)}{kV doc pm cW ct:ai}(l:K.lookup f=some ⟨oc,od,.func<|PySem.W.fnOf x qual (JT st) (Zl st) (YG st) .none kV doc pm an cW ct,osl⟩)
  (c:PySem.W.codeIn K cW qual=true)(k:PySem.W.keepIn K (.ref f)=true):kL K x qual st f<|PySem.W.fnOf x qual (JT st) (Zl st) (YG st) .none kV doc pm an cW ct:=⟨⟨oc,od,kV,doc,pm,an,cW,ct,osl,Z,l,c⟩,k⟩
end
theorem ZZ(hr:JQ k A):A.units+1<cLine:=Nat.lt_of_le_of_lt (Nat.add_le_add_left (by decide:1<=64) _) hr.units
section
variable {X:Cx}
theorem S(i:Nat)(hN:X.N[i]?=some x:=by rfl)(hv:B0 X.env.scope x:=by first|exact Or.inl rfl|exact Or.inr (Or.inl rfl)|exact Or.inr (Or.inr rfl))(hd:(x==("__debug__":av))=false:=by decide)
  (hcd:(x==("__classdict__":av))=false:=by decide):PE X (.Name x pos)<|ml i:=xc hN hv hd hcd
end
theorem Yw{A Dv:Prop}(h:Dv):if false=true then A else Dv:=by
 rw[if_neg YOu];exact h
theorem ZC{A Dv:Prop}(h:A):if true=true then A else Dv:=by
 rw[if_pos Z];exact h
theorem gu{c A Dv:Prop}[Decidable c](h1:c->A)(h2:¬c->Dv):if c then A else Dv:=by
 by_cases h:c;rw[if_pos h];exact h1 h;rw[if_neg h];exact h2 h
def YF(H H':L):Prop:=∀b o,H b=some o->H' b=some o
theorem YF.refl(H:L):YF H H:=λ_ _ h=>h
theorem YF.trans(a:YF H H1)(b:YF H1 H2):YF H H2:=λc o h=>b c o<|a c o h
theorem YF.free(e:YF H H')(h:H' l=Option.none):H l=Option.none:=by
 cases q:H l with
 |none=>rfl
 |some o=>
  rw[e l o q]at h;cases h
theorem YF.seq{K:W.Frag}{H H':L}{a:al}{xs:J V}(e:YF H H')(h:aX K H a xs):aX K H' a xs:=by
 rcases h with (h|⟨o,h⟩)|h
 exact .inl<|.inl<|e _ _ h;exact .inl<|.inr ⟨o,e _ _ h⟩;exact .inr h
end L2
set_option maxHeartbeats 4000000
namespace L2
open PySem PySem.Spec PyProof.Rows
theorem Y7.at_(x:Y7 P w H h a o):∃u,h.get? a=some u:=by
 cases o with
 |lst xs=>obtain⟨_,_,_,_,e⟩:=x;exact⟨_,e⟩
 |tup xs=>obtain⟨_,_,_,o,e,_⟩:=x;exact⟨_,e⟩
 |dK kvs=>obtain⟨_,_,_,_,o,_,_,e,_⟩:=x;exact⟨_,e⟩
 |dT kvs=>obtain⟨_,_,_,_,o,_,_,e,_⟩:=x;exact⟨_,e⟩
 |set Dr n=>obtain⟨o,_,_,_,e,_⟩:=x;exact⟨_,e⟩
 |ins C B fs=>obtain⟨_,_,_,e,_⟩:=x;exact⟨_,e⟩
 |own y=>obtain⟨o,e⟩:=x;exact⟨_,e⟩
 |xd fs=>obtain⟨_,⟨o,_,_,e,_⟩,_⟩:=x;exact⟨_,e⟩
 |rng lo hi=>obtain⟨_,_,_,e⟩:=x;exact⟨_,e⟩
 |frz ob u=>obtain⟨e,_⟩:=x;exact⟨_,e⟩
 |tbl ps=>exact⟨_,(show h.get? a=some _ from x)⟩
 |met f y=>exact⟨_,(show h.get? a=some _ from x)⟩
 |ext φ=>obtain⟨_,e,_⟩:=x;exact e
structure Fly(P:Program)(w:World)(l:List Env)(H:L)(s:Shared)(e:Addr)(cls:Value)(H':L)(s':Shared):Prop where
 os:s'.os=s.os
 bare:AllBare s'.gens
 un:Un (fE l) [] H H' s.heap s'.heap
 hok:fG P w H' s'.heap
 new:H' e=none
 fly:∃Dv a0,Heap.FlyingW Dv l e cls a0 s'.heap/\(∀b u,H' b=some u->∃o,Dv.get? b=some o)/\∀b o,s.heap.get? b=some o->b∉fE l->∃o',Dv.get? b=some o'
def fM(P:Program)(w:World):gE:=λl H s E ev s'=>∃e cls H',ev=.ref e/\Fly P w l H s e cls H' s'/\E cls none H'
theorem YJq{fs:J al}{H H':L}{h h' h'' Dv:Heap}(un:Un fs [] H H' h h')(sB:Dv.StaysIn h')(sB':Dv.StaysIn h'')(up:h'.UpToSlots h'')
  (fr:∀b∈fs,∃o,h'.get? b=some o/\∀vs,o.data≠.fields vs)(old:∀b o,h.get? b=some o->b∉fs->∃o',Dv.get? b=some o'):Un fs [] H H' h h'' where
 keep:=λb o q n hb U=>by
  have R:=un.keep b o q n hb U;obtain⟨o',eB⟩:=old b o q hb;have e2:=sB b o' eB;rw[R]at e2;cases e2;exact sB' b o eB
 slot:=λb o q n hb U=>by
  obtain⟨sl,R⟩:=un.slot b o q n hb U;obtain⟨o',e2,nf⟩:=fr b hb;rw[R]at e2;cases e2;obtain⟨ql,e3⟩:=up b _ R nf;exact⟨ql,e3⟩
 free:=un.free
 there:=λb o q U=>by
  by_cases hb:b∈fs;obtain⟨o',e2,nf⟩:=fr b hb;obtain⟨ql,e3⟩:=up b _ e2 nf;exact⟨_,e3⟩;obtain⟨o',eB⟩:=old b o q hb;exact⟨o',sB' b o' eB⟩
 tups:=un.tups
 frzs:=un.frzs
 tbls:=un.tbls
theorem YHR{P:Program}{w:World}{H:L}{h h' Dv:Heap}(ok:fG P w H h)(sB:Dv.StaysIn h)(sB':Dv.StaysIn h')(tr:∀b u,H b=some u->∃o,Dv.get? b=some o):fG P w H h':=λa o ea=>
 (ok a o ea).stay (λb u hb eb=>by
  have tb:∃v,H b=some v:=hb.elim (λz=>⟨o,by rw[z];exact ea⟩) λz=>⟨_,z⟩;obtain⟨v,hv⟩:=tb;obtain⟨o',eB⟩:=tr b v hv;have e2:=sB b o' eB;rw[eb]at e2;cases e2;exact sB' b u eB) (λ_ z=>z) λ_ _ z=>z
theorem YM2{fs kY:J al}(a:Un fs [] H H1 h h1)(b:Un kY [] H1 H2 h1 h2)(sub:∀x∈kY,x=Du\/x∈fs)(sup:∀x∈fs,x∈kY)(hL:h.objs.size<=Du):Un fs [] H H2 h h2:=by
 have nL:∀c o,h.get? c=some o->c≠Du:=λc o q z=>absurd (YOs q) (by rw[z];exact Nat.not_lt.mpr hL);have no:∀c o,h.get? c=some o->c∉fs->c∉kY:=λc o q n z=>(sub c z).elim (nL c o q) n;exact⟨λc o q n hc U=>b.keep c o (a.keep c o q n hc U) (a.free c o q n U) (no c o q hc) U,
  λc o q n hc U=>by
   obtain⟨sl,R⟩:=a.slot c o q n hc U;obtain⟨ql,e2⟩:=b.slot c _ R (a.free c o q n U) (sup c hc) U;exact⟨ql,e2⟩,
  λc o q n U=>by
   obtain⟨o',R⟩:=a.there c o q U;exact b.free c o' R (a.free c o q n U) U,
  λc o q U=>by
   obtain⟨o',R⟩:=a.there c o q U;exact b.there c o' R U,
  λc xs q=>b.tups c xs<|a.tups c xs q,λc ob xs q=>b.frzs c ob xs<|a.frzs c ob xs q,
  λc ps q=>by
   obtain⟨m1,R⟩:=a.tbls c ps q;obtain⟨m2,e2⟩:=b.tbls c _ R;exact⟨m1++m2,by rw[e2,Array.append_assoc]⟩⟩
structure Cf(X:Cx)(E:XK):Prop where
 made:∀(O:List<|Addr×Obj) (σ:St) (H:L) (s:Shared) (e:Addr) (cls:Value) (args:List Value) (h':Heap),aW X O σ H s->Heap.MadeExcOf s.heap h' e cls args->E cls none H->X.xe (.ref e) { s with heap:=h' }
 on:XG (fM X.prog X.w) X E
theorem YL0(I:aW X O σ H s):
  (PySem.W.hideAll s.heap<|fE X.stack).StaysIn s.heap/\s.heap.FunFrames (PySem.W.hideAll s.heap<|fE X.stack) X.stack/\(∀b o,s.heap.get? b=some o->b∉fE X.stack->(PySem.W.hideAll s.heap<|fE X.stack).get? b=some o)/\
   ∀b u,H b=some u->∃o,(PySem.W.hideAll s.heap<|fE X.stack).get? b=some o:=by
 refine⟨λb o q=>PySem.W.of_hideAll _ q,PySem.W.funFrames_hide I.stack λenv he b hb=>YPz.mpr ⟨env,he,hb⟩,λb o q hb=>PySem.W.hideAll_get _ q hb,λb u q=>?_⟩;obtain⟨o,ho⟩:=(I.hok b u q).at_;exact⟨o,PySem.W.hideAll_get _ ho λz=>by rw[I.stkFree b z]at q;cases q⟩
theorem JE{P:Program}{w:World}{K:W.Frag}{mg:av->ah ai}{base:Heap}{N:J av}{qual:av}{scope:Scope}{f:al}{cd:ai}{A:Around}{outer:J Env}{s:ar}{H:L}{E:XK}:
  Cf (iP (fM P w) P w K mg base N qual scope f cd A outer s H E) E where
 made:=by
  intro O σ H1 s1 e cls args h' I U hE;obtain⟨sB,ff,eP,tr⟩:=YL0 I;show wpAny _ _ (leaving _<|.ref e) _ _ _;refine wpAny_leaves_madeW (base:=PySem.W.hideAll s1.heap<|fE (iP (fM P w) P w K mg base N qual scope f cd A outer s H E).stack) (h:=s1.heap) I.ok.frames Z sB ff U λh'' t x1 x2 x3 x4=>?_;have sB1:(PySem.W.hideAll s1.heap<|fE (iP (fM P w) P w K mg base N qual scope f cd A outer s H E).stack).StaysIn h':=λb o q=>U.keeps b o<|sB b o q;have uB:Un (fE outer) [] H H1 s.heap s1.heap:=I.base;have old:∀b o,s.heap.get? b=some o->b∉fE outer->∃o',(PySem.W.hideAll s1.heap<|fE (iP (fM P w) P w K mg base N qual scope f cd A outer s H E).stack).get? b=some o':=λb o q hb=>by
   obtain⟨o',R⟩:=uB.there b o q (by simp);refine⟨o',eP b o' R λz=>?_⟩;rcases YOj.mp (I.stkSub b z) with z|z
   exact absurd (YOs q) (by rw[z];exact YPW _);exact hb z
  have fr:∀b∈fE outer,∃o,h'.get? b=some o/\∀vs,o.data≠.fields vs:=λb hb=>by
   obtain⟨_,o,ho,nf⟩:=I.funs.mem hb;exact⟨o,U.keeps b o ho,nf⟩
  refine⟨e,cls,H1,Z,⟨I.os,I.bare,YJq (uB.trans<|Un.kept U.keeps) sB1 x1.1 x4 fr old,YHR (I.hok.kept U.keeps) sB1 x1.1 tr,?_,_,_,x1,tr,old⟩,hE⟩;cases q:H1 e with
  |none=>rfl
  |some u=>
   obtain⟨o,ho⟩:=(I.hok e u q).at_;rw[U.new]at ho;cases ho
 on:=by
  intro O σ H1 s1 ev s' I uC;obtain⟨e,cls,H',rfl,F,hE⟩:=uC;obtain⟨Dv,a0,fl,tr,old⟩:=F.fly;show wpAny _ _ (leaving _<|.ref e) _ _ _;refine wpAny_leaves_onW I.ok.frames Z fl λh'' x1 x4=>?_;have uB:Un (fE outer) [] H H1 s.heap s1.heap:=I.base;have sub:∀x∈fE (iP (fM P w) P w K mg base N qual scope f cd A outer s H E).stack,x=s.heap.objs.size\/x∈fE outer:=λx U=>YOj.mp<|I.stkSub x U;have sup:∀x∈fE outer,x∈fE (iP (fM P w) P w K mg base N qual scope f cd A outer s H E).stack:=λx U=>YOV _ U;have Wq:Un (fE outer) [] H H' s.heap s'.heap:=YM2 uB F.un sub sup<|YOY _;have uD:∀b o,s.heap.get? b=some o->b∉fE outer->∃o',Dv.get? b=some o':=λb o q hb=>by
   obtain⟨o',R⟩:=uB.there b o q (by simp);refine old b o' R λz=>?_;rcases sub b z with z|z
   exact absurd (YOs q) (by rw[z];exact YPW _);exact hb z
  have fr:∀b∈fE outer,∃o,s'.heap.get? b=some o/\∀vs,o.data≠.fields vs:=λb hb=>by
   obtain⟨_,o,ho,nf⟩:=fl.2.2.1.mem<|sup b hb;exact⟨o,ho,nf⟩
  exact⟨e,cls,H',Z,⟨F.os.trans I.os,F.bare,YJq Wq fl.1 x1.1 x4 fr uD,YHR F.hok fl.1 x1.1 tr,F.new,Dv,a0,x1,tr,uD⟩,hE⟩
abbrev bmV:J ai:=[.type "ValueError",.type "Exception",.type "BaseException",.type "object"]
abbrev newV:String:="ValueError.__new__"
def AO(K:W.Frag)(C:al):Prop:=PySem.W.excIn K C bmV newV=true
theorem qr{K:W.Frag}{h:Heap}{C:al}{bmB:J ai}{newId:String}(X:K.In h)(q:PySem.W.excIn K C bmB newId=true):
  ∃bm N nm qn bs hdct sn sub ab col dd k0 k1 k2 k3 k5 mN,h.get? C=some (excClassObj nm qn C N bs bm hdct sn sub ab col dd k0 k1 k2 k3 k5 newId)/\h.Ns N mN/\mN "__init__"=none/\OwnTail h bmB bm:=by
 unfold PySem.W.excIn at q;split at q;rename_i dd cd sl ho;split at q;rename_i C' bm k0 k1 k2 k3 n k5 hm hs;simp only[YOl,beq_iff_eq,Bool.not_eq_true']at q;obtain⟨⟨⟨⟨⟨rfl,rfl⟩,hdel⟩,ht⟩,hok⟩,hni⟩:=q;obtain⟨nm,bs,mro,ns,qn,hd,sn,sub,ab,col,del⟩:=cd;dsimp only at hm hdel hok hni;subst hm hdel;have hsl:sl=#[k0,k1,k2,k3,some<|.builtin n,k5]:=by
  obtain⟨l⟩:=sl;simp only at hs;rw[hs]
 subst hsl;exact⟨bm,ns,nm,qn,bs,hd,sn,sub,ab,col,dd,k0,k1,k2,k3,k5,_,X _ _ ho,.of_isNs<|PySem.W.isNs_of_in X hok,PySem.W.nsMap_none_of_in X hok hni,PySem.W.tail_of_in X ht⟩;cases q;cases q
section
variable {X:Cx}{E:XK}{x:av}{C:al}{e:Expr}{t:TA}{np bj pos:Pos}
def YM3(C:al)(E:XK)(t:TA):TS:=λ_ σ H=>t σ H λvs H1=>vs.length<=sizeLine/\E (.ref C) none H1
theorem Di(Dr:Cf X E)(hq:AO X.K C)(hc:X.calm=true)(hg:Gl X x)(hm:X.mg x=some (.ref C))(ha:PA X [e] t)(hd:(x==("__debug__":av))=false:=by decide)
  (he:starEach [e] X.env=(false,eval e X.env)::starEach [] X.env:=by rfl)(iW:(backTo bj<|starEach [] X.env).any (·.1)=false:=by rfl):
  PS X (.Raise (some<|.Call (.Name x np) [e] [] bj) none pos) (YM3 C E t):=by
 intro O s σ H D I h;obtain⟨tl,N,nm,q,bs,hdct,sn,sub,ab,col,dd,k0,k1,k2,k3,k5,mN,hC,hN,hni,T⟩:=qr I.mod.kin hq;refine wpAny_Raise_call_subT (C:=C) (nm:=nm) (q:=q) (N:=N) (bs:=bs) (bm:=tl) (hdct:=hdct) (sn:=sn) (sub:=sub) (ab:=ab) (col:=col) (dd:=dd) (k0:=k0) (k1:=k1) (k2:=k2) (k3:=k3) (k5:=k5)
  PySem.F.excBase_ValueError (mN:=mN) (T.hasType PySem.F.excBase_ValueError.hasBase) (I.ok.hd hc) (by rw[he];show(false || (backTo bj (starEach [] X.env)).any (·.1))=false;rw[iW];rfl) hni (zn I hg hm ⟨Z,?_⟩ hd)
 have hA:=ha bj O s σ H _ I h;rw[he]at hA ⊢;refine Calls.evalArgs_plain<|cJ hA λus s2 ⟨vs,H2,I2,r,hz,hE⟩=>⟨Z,by rw[<-r.length];exact hz,I2.bk _ _ hC,hN.keeps I2.bk,T.keeps I2.bk,λh' e pN=>?_⟩;exact Dr.made O σ H2 s2 e _ _ h' I2 pN hE
end
def XP(X:Cx)(O:J<|al×Obj)(σ:St)(E:XK)(ev:ai)(s':ar):Prop:=∃(e:al) (cls:ai) (H':L) (Dv:Heap) (a0:ai),ev=.ref e/\aW X O σ H' s'/\Heap.FlyingW Dv X.stack e cls a0 s'.heap/\H' e=none/\
 (∀b u,H' b=some u->∃o,Dv.get? b=some o)/\(∀b o,X.s₀.heap.get? b=some o->b∉fE X.stack->b∉X.ex->∃o',Dv.get? b=some o')/\(∀p∈X.pn++O,∃o',Dv.get? p.1=some o')/\E cls none H'
section
variable {X:Cx}{O:J (al×Obj)}{σ:St}{H:L}{s s':ar}{E:XK}
theorem aW.notStk(I:aW X O σ H s)(h1:b≠X.env.locals)(h2:b∉X.fs):b∉fE X.stack:=λhb=>(YOj.mp<|I.stkSub b hb).elim h1 h2
theorem Cb(I:aW X O σ H s)(uC:fM X.prog X.w X.stack H s E ev s'):XP X O σ E ev s':=by
 obtain⟨e,cls,H',rfl,F,hE⟩:=uC;obtain⟨Dv,a0,fl,tr,old⟩:=F.fly;refine⟨e,cls,H',Dv,a0,Z,I.call' (ch:=[]) F.os F.un F.hok F.bare<|λb z=>absurd z (by simp),fl,F.new,tr,λb o q hb U=>?_,λp hp=>?_,hE⟩;obtain⟨o',R⟩:=I.base.there b o q U;exact old b o' R hb;obtain⟨p1,_,p3,p4,_⟩:=I.pin p hp;exact old _ _ p1<|I.notStk p3 p4
theorem aW.moved{Dv h':Heap}(I:aW X O σ H s)(hex:X.ex=[])(sB:Dv.StaysIn s.heap)(sB':Dv.StaysIn h')(up:s.heap.UpToSlots h')(tr:∀b u,H b=some u->∃o,Dv.get? b=some o)
  (old:∀b o,X.s₀.heap.get? b=some o->b∉fE X.stack->b∉X.ex->∃o',Dv.get? b=some o')(pn:∀p∈X.pn++O,∃o',Dv.get? p.1=some o'):aW X O σ H { s with heap:=h' }:=by
 have cells:∀c v,s.heap.IsCell c v->h'.IsCell c v:=λc v ⟨o,ho,hd⟩=>by
  obtain⟨sl,R⟩:=up c o ho λvs z=>by rw[hd]at z;cases z
  exact⟨_,R,hd⟩
 obtain⟨m,hn,hl⟩:=I.loc;refine⟨I.ok,I.os,I.bare,?_,⟨m,up.ns hn,λi x v h1 h2 h3=>?_⟩,λx c h1=>?_,I.free,I.freeC,λp hp=>?_,YHR I.hok sB sB' tr,I.len⟩;have hb:=I.base;rw[hex]at hb ⊢;refine YJq hb sB sB' up (λb hb=>?_) λb o q hb=>old b o q (I.notStk (λz=>?_) hb) (by rw[hex];simp);obtain⟨_,o,ho,nf⟩:=I.funs.mem hb;exact⟨o,ho,nf⟩;exact absurd (YOs q) (by rw[z];exact Nat.not_lt.mpr I.ok.above);obtain⟨u,ru,lk⟩:=hl i x v h1 h2 h3;exact⟨u,ru,lk.elim .inl λ⟨k,c,hc,gn⟩=>.inr ⟨k,c,hc,cells c _ gn⟩⟩;obtain⟨v,hv⟩:=I.cell x c h1;exact⟨v,cells c v hv⟩;obtain⟨p1,p2⟩:=I.pin p hp;obtain⟨o',eB⟩:=pn p hp;have e2:=sB _ _ eB;rw[p1]at e2;cases e2;exact⟨sB' _ _ eB,p2⟩
end
def PEX(X:Cx)(e:Expr)(t:St->L->VK->XK->Prop):Prop:=
 ∀(O:J<|al×Obj) (s:ar) (σ:St) (H:L) (Q:VK) (E:XK),aW X O σ H s->t σ H Q E->wpAny (model X.prog X.w) X.A (eval e X.env) (EP X O σ Q) (XP X O σ E) s
def PSX(X:Cx)(st:Stmt)(t:Ja->(St->XK)->St->L->Prop):Prop:=
 ∀(O:J<|al×Obj) (s:ar) (σ:St) (H:L) (D:Ja) (E:St->XK),aW X O σ H s->t D E σ H->wpAny (model X.prog X.w) X.A (exec st X.env) (SP X O D) (λev s'=>∃σ',XP X O σ' (E σ') ev s') s
def Cy(X:Cx)(sts:J Stmt)(t:Ja->(St->XK)->St->L->Prop):Prop:=
 ∀(O:J<|al×Obj) (s:ar) (σ:St) (H:L) (D:Ja) (E:St->XK),aW X O σ H s->t D E σ H->wpAny (model X.prog X.w) X.A (execs sts X.env) (SP X O D) (λev s'=>∃σ',XP X O σ' (E σ') ev s') s
section
variable {X:Cx}{k:Nat}{f:al}{fd:FuncData}{ps:J av}{sp:Sp}{gC:J V}{ds:J ai}{x:av}{p pos:Pos}{e:Expr}{es:J Expr}{t:TA}
def YM4(sp:Sp)(gC:J V)(t:TA):St->L->VK->XK->Prop:=λσ H Q E=>t σ H λvs H1=>sp (vs++gC) H1 Q E
theorem YM5(F:gs X.prog X.w X.K X.mg X.base (fM X.prog X.w) k f fd ps sp)(hr:JQ k X.A)(hg:Gl X x)(hm:X.mg x=some (.ref f))(hk:PySem.W.keepIn X.K (.ref f)=true)(hb:kx X.K fd ps ds)(hd:Yt gC ds)
  (ha:PA X.nox (e::es) t)(hdb:(x==("__debug__":av))=false:=by decide)(he:starEach (e::es) X.env=(false,eval e X.env)::starEach es X.env:=by rfl)(hpl:(backTo pos<|starEach es X.env).any (·.1)=false:=by rfl):
  PEX X (.Call (.Name x p) (e::es) [] pos) (YM4 sp gC t):=by
 intro O s σ H Q E I h;refine wpAny_Call_Name_kw<|zn I hg hm ?_ hdb;refine PySem.W.callWith_K (h₀:=X.base) I.ok.mod.kin hk (wpAny_mono (ha pos O s σ H _ (I.wish _) h) (λus s1 ⟨vs,H1,I1,r,q⟩=>⟨I1.unwish.kIn,?_⟩) λ_ _ z=>z.elim) he hpl;have I1':aW X O σ H1 s1:=I1.unwish;have r2:Yt (vs++gC)<|us++ds:=r.append hd;have hl:(us++ds).length=ps.length:=by rw[<-r2.length];exact F.len _ _ _ _ q
 refine wpAny_call<|codeAny_mono (F.run X.A X.stack s1 H1 ⟨us,[]⟩ (us++ds) (vs++gC) Q E hr I1'.env0 (hb s1 us I1'.kIn hl) r2 q) λr s' hq=>?_;cases r with
 |error ev=>exact Cb I1' hq
 |ok fl=>
  cases fl with
  |ret u=>exact I1'.after hq
  |next=>exact False.elim hq
  |brk=>exact False.elim hq
  |cont=>exact False.elim hq
variable {te:St->L->VK->XK->Prop}
theorem YM6{st:Stmt}{t:Ja->(St->XK)->St->L->Prop}(h:PSX X st t):Cy X [st] t:=by
 intro O s σ H D E I hw;refine wpAny_execs_cons<|cJ (h O s σ H D E I hw) λf s1 q=>?_;cases f with
 |next=>exact wpAny_execs_nil q
 |ret v=>exact q
 |brk=>exact q
 |cont=>exact q
end
abbrev Cx.caught(X:Cx)(e:al):Cx:={ X with A:=X.A.mark (some (.ref e)),calm:=false,xe:=λ_ _=>False }
section
variable {X:Cx}{O:J (al×Obj)}{σ:St}{H:L}{s:ar}
theorem aW.caught(I:aW X O σ H s)(e:al):aW (X.caught e) O σ H s:=
 ⟨⟨I.ok.mod,I.ok.kind,I.ok.glob,I.ok.blt,I.ok.above,I.ok.inj,I.ok.has,I.ok.cab,λz=>absurd (show false=true from z) YOu,I.ok.frames,I.ok.stk,I.ok.exf,I.ok.bs,I.ok.bsz,I.ok.noex,I.ok.exfs,I.ok.funs,I.ok.frf⟩,I.os,I.bare,I.base,I.loc,I.cell,I.free,I.freeC,I.pin,I.hok,I.len⟩
theorem aW.uncaught(ok:X.Ok)(I:aW (X.caught e) O σ H s):aW X O σ H s:=⟨ok,I.os,I.bare,I.base,I.loc,I.cell,I.free,I.freeC,I.pin,I.hok,I.len⟩
end
def Its(x:av):It:=⟨λi _=>i<x.cps.size,λi H v H'=>H'=H/\∃c,x.cps[i]?=some c/\v=.str ⟨#[c]⟩,λi _=>i=x.cps.size⟩
abbrev YJr:J String:=["enumerate","zip","dict_itemiterator","dict_reverseitemiterator","odict_iterator","itertools.zip_longest","itertools.pairwise"]
theorem YIK{P:Program}{w:World}{K:W.Frag}{tg:Expr}{ty:String}{x:av}{t:Tok}(it:al)
  (W:∀A:Around,A.handled=none->Walks P w A it [it] [it] x.cps.size (SignAt x) (λi h=>h.IsStrIter it ty x t i))
  (hn:YJr.contains ty=false)
  (hself:∀(A:Around) (i:Nat) (s:ar) (Q E:ai->ar->Prop),s.heap.IsStrIter it ty x t i->Q (.ref it) s->wpAny (model P w) A (pyIter<|.ref it) Q E s):
  kF P w K tg (Its x) [it] it (λi h=>h.IsStrIter it ty x t i) where
 mem:=by simp
 obj:=λi h st b hb=>by
  have eb:b=it:=by simpa using hb
  subst eb;obtain⟨o,eo,_,d⟩:=st;exact⟨o,eo,λv z=>by rw[d]at z;cases z⟩
 keep:=λi h h' st k=>by
  obtain⟨o,eo,r⟩:=st;exact⟨o,k it (by simp) o eo,r⟩
 item:=by
  intro X hP hw hK hc i O s σ H E I hf st hg;subst hP hw hK;obtain⟨f0,f1,f2,f3,f4,f5⟩:=hf it (by simp);refine(W X.A<|I.ok.hd hc).item i s _ _ hg st λv h' tk hv st' kk=>?_;obtain⟨c,u,uC,rfl⟩:=hv;have I1:aW X O σ H { s with heap:=h',toks:=tk }:=I.turned (λb o hb eo=>kk b o (by simpa using hb) eo) f0 f1 f3 f4 f5;obtain⟨o,eo,c',d⟩:=id st';exact⟨_,Z,AS (s:={ s with heap:=h',toks:=tk }) eo c' d hn ⟨.str ⟨#[c]⟩,H,I1,⟨u,Z⟩,⟨Z,c,uC,Z⟩,st',λb hb=>(hf b hb).1⟩⟩
 done:=by
  intro X hP hw hK hc i O s σ H E I hf st hg;subst hP hw hK;obtain⟨f0,f1,f2,f3,f4,f5⟩:=hf it (by simp);have ei:i=x.cps.size:=hg;subst ei;exact(W X.A<|I.ok.hd hc).done s _ _ st λh' tk kk=>⟨Z,I.turned (λb o hb eo=>kk b o (by simpa using hb) eo) f0 f1 f3 f4 f5⟩
 self:=λA i s Q E st h=>hself A i s Q E st h
section
variable {X:Cx}{tg:Expr}
def iStr(tl:TE):TI:=λσ H Dt=>tl σ H λv H1=>∃x,v=.str x/\Dt (Its x) H1
theorem YM7{l:Expr}{tl:TE}(hl:PE X l tl):PI X tg l<|iStr tl:=by
 intro O s σ H Dt I h;refine cJ (hl O s σ H _ I h) λv s1 ⟨y,H1,I1,r1,q1⟩=>?_;obtain⟨x,rfl,q⟩:=q1;obtain⟨t,rfl⟩:=r1;have fp:∀b∈[s1.heap.objs.size],iq X O H1 b:=λb hb=>by
  have eb:b=s1.heap.objs.size:=by simpa using hb
  subst eb;exact I1.fpOk (YOY _)<|I1.hok.fresh<|YOY _
 cases ha:x.cps.all (·<128);refine wpAny_pyIter_wide ha ?_;exact⟨s1.heap.objs.size,[s1.heap.objs.size],_,_,H1,Z,I1.kept (t':=s1.toks) λb o eo=>YOi _ eo,
  YIK (ty:="str_iterator") (t:=t) _ (λA hA=>Walks.strWide hA _ x t) (by decide) (λ_ _ _ _ _ st hq=>wpAny_pyIter_striter_wide st hq),⟨_,YOy _ Z,Z,Z⟩,fp,q⟩
 refine wpAny_pyIter_ascii ha ?_;exact⟨s1.heap.objs.size,[s1.heap.objs.size],_,_,H1,Z,I1.kept (t':=s1.toks) λb o eo=>YOi _ eo,
  YIK (ty:="str_ascii_iterator") (t:=t) _ (λA hA=>Walks.strAscii hA _ x t) (by decide) (λ_ _ _ _ _ st hq=>wpAny_pyIter_striter_ascii st hq),⟨_,YOy _ Z,Z,Z⟩,fp,q⟩
end
abbrev Zb(X:Cx)(N:J av)(scope:Scope)(cl:J<|av×al)(C:al)(s₀:ar)(H₀:L)(ex:J al)(pn:J<|al×Obj):Cx:=
 { X with N:=N,s₀:=s₀,H₀:=H₀,env:=compEnvC scope cl C X.env,outer:=X.stack,stack:=X.stack,ex:=ex,fn:=λ_=>false,pn:=pn,xe:=λ_ _=>False }
def C9(X:Cx)(ifs:J Expr)(t:TT):Prop:=
 ∀(O:J<|al×Obj) (s:ar) (σ:St) (H:L) (Q:Bool->L->Prop),aW X O σ H s->t σ H Q->
  wpAny (model X.prog X.w) X.A (forIn ifs true λc r=>if r=true then do let ok <-isTrue c X.env (eval c X.env);pure (ForInStep.yield ok) else pure<|ForInStep.yield r) (TP X O σ Q) X.xe s
def lS:TT:=λ_ H Q=>Q true H
theorem J0:C9 X [] lS:=λ_ _ _ H _ I h=>wpAny_tests_nil ⟨H,I,h⟩
theorem YHS(h:PT X c t):C9 X [c] t:=λO s σ H Q I hw=>wpAny_tests_one<|h O s σ H Q I hw
def k6(ρ:J<|ah Nat)(σ:St):St:=ρ.map λo=>o.bind λj=>(σ[j]?).bind id
def pj(Dq:It)(g:TG)(tc:TT)(te:TE)(Q:VK)(l:al)(τ:St)(H1:L):Prop:=
 ∃W:Nat->Nat->J V->St->L->Prop,(∃m,W 0 m [] τ<|upd H1 l<|.lst [])/\∀i m ys τ H2,W i m ys τ H2->
  (Dq.stop i H2/\Q (.ref l) H2)\/(Dq.go i H2/\∀x H3,Dq.yld i H2 x H3->g x τ H3 λτ4 H4=>tc τ4 H4 λb H5=>
   if b=true then te τ4 H5 λy H6=>H6 l=some (.lst ys)/\ys.length<sizeLine/\∃m',m'<m/\W (i+1) m' (ys++[y]) τ4 (upd H6 l<|.lst<|ys++[y])
   else ∃m',m'<m/\W (i+1) m' ys τ4 H5)
def so(ρ:J<|ah Nat)(wi:TI)(g:TG)(tc:TT)(te:TE):TE:=λσ H Q=>wi σ H λDq H1=>∀l,H1 l=none->pj Dq g tc te Q l (k6 ρ σ) H1
theorem YGV{Dt:Result->ar->Prop}(Iv:Nat->ar->Prop)
  (turn:∀n s,Iv n s->wpAny (model prog w) A (pyNext it) (λr s1=>match r with
   |none=>Dt (.ok .next) s1
   |some v=>wpAny (model prog w) A (letOwnedTupleGo target it v) (λ_ z9=>wpAny (model prog w) A (assign target env v) (λ_ s2=>
     wpAny (model prog w) A (forIn ifs true λc r=>if r=true then do let ok <-isTrue c env (eval c env);pure (ForInStep.yield ok) else pure<|ForInStep.yield r) (λok s3=>
      if ok=true then wpAny (model prog w) A (eval elt env) (λx s4=>
       wpAny (model prog w) A (call (.builtin "list.append") [acc,x]) (λ_ s5=>∃m,m<n/\Iv m s5) (λ_ _=>False) s4) (λ_ _=>False) s3
      else ∃m,m<n/\Iv m s3) (λ_ _=>False) s2) (λ_ _=>False) z9) (λ_ _=>False) s1) (λ_ _=>False) s)
  (n:Nat) (h:Iv n s):codeAny (model prog w) A (.compLoop (.ListComp elt [⟨target,iter,ifs,0⟩] scope pos) 0 it acc env) Dt s:=by
 refine codeAny_loop Z Iv (λn s hI=>?_) n h;show wpAny _ A ((compTurn (.ListComp elt [⟨target,iter,ifs,0⟩] scope pos) 0 it acc env).onRaise (λx=>do noteFrame x env;theTreesLotGoes x)) _ _ s;refine wpAny_noted ?_;rw[compTurn_list];have no:∀{P:ai->ar->Prop} (e:ai) (s':ar),False->P e s':=λ_ _ z=>z.elim;refine YOh<|wpAny_standAt<|YOh<|wpAny_mono (turn n s hI) (λr s1 h1=>?_) no;cases r with
 |none=>exact YO0 h1
 |some v=>
  refine YOh<|wpAny_mono h1 (λ_ z9 h1'=>?_) no;refine YOh<|wpAny_mono h1' (λ_ s2 h2=>YOh<|wpAny_mono h2 (λok s3 h3=>?_) no) no;cases ok with
  |false=>exact YO0 ⟨Z,h3⟩
  |true=>exact YOh<|YOh<|wpAny_mono h3 (λx s4 h4=>YOh<|wpAny_mono h4 (λ_ s5 h5=>YO0<|YO0 ⟨Z,h5⟩) no) no
section
variable {X:Cx}{elt tg iter:Expr}{ifs:J Expr}{scope:Scope}{cl:J (av×al)}{N:J av}{ρ:J (ah Nat)}{pos:Pos}{wi:TI}{g:TG}{tc:TT}{te:TE}
structure ZJ(X:Cx)(N:List Str)(ρ:List (Option Nat))(scope:Scope)(cl:List (Str×Addr)):Prop where
 clos:closureFor scope X.env=pure cl
 nocell:∀y∈scope.names,y.2≠.cell
 kind:scope.kind=.function
 loc:∀y∈scope.names,y.2=.local->scope.names.lookup y.1=some .local
 sub:∀x c,cl.lookup x=some c->X.env.cells.lookup x=some c
 has:∀x,((relabel scope X.env).names.lookup x=some .cell\/(relabel scope X.env).names.lookup x=some .free)->∃c,cl.lookup x=some c
 len:ρ.length=N.length
 from_:∀(i j:Nat) (x:Str),N[i]?=some x->ρ[i]?=some (some j)->X.N[j]?=some x/\(X.env.kindOf x=some .cell\/X.env.kindOf x=some .free)/\((relabel scope X.env).names.lookup x=some .cell\/(relabel scope X.env).names.lookup x=some .free)
theorem YM8{ρ:J (ah Nat)}{σ:St}{i:Nat}{v:V}(h:(k6 ρ σ)[i]?=some (some v)):∃j,ρ[i]?=some (some j)/\σ[j]?=some (some v):=by
 unfold k6 at h;rw[YOd]at h;cases e:ρ[i]? with
 |none=>rw[e]at h;cases h
 |some o=>
  rw[e]at h;cases o with
  |none=>cases h
  |some j=>
   refine⟨j,Z,?_⟩;simp only[Option.map_some,Option.bind_some,Option.some.injEq]at h;cases e2:σ[j]? with
   |none=>rw[e2]at h;cases h
   |some w=>
    rw[e2]at h;have h':w=some v:=h;rw[h']
theorem YIL{O:J (al×Obj)}{σ:St}{H:L}{s s':ar}{fp:J al}{h₁:Heap}(Dr:ZJ X N ρ scope cl)(I:aW X O σ H s)(hf:∀b∈fp,iq X O H b)
  (Dm:∀b∈fp,b<s.heap.objs.size)(hns:h₁.Ns s.heap.objs.size<|λ_=>none)(uE:∀b o,s.heap.get? b=some o->h₁.get? b=some o)(es:s'={ s with heap:=h₁ }):
  aW (Zb X N scope cl s.heap.objs.size s H fp<|X.pn++O) [] (k6 ρ σ) H s':=by
 subst es;have notStk:∀b,b≠X.env.locals->b∉X.fs->b∉fE X.stack:=λb h1 h2 hb=>by
  rcases YOj.mp (I.stkSub b hb) with z|z
  exact h1 z;exact h2 z
 have hC:X.env.locals≠s.heap.objs.size:=YPC I.lt;refine⟨⟨I.ok.mod,Dr.kind,I.ok.glob,I.ok.blt,YOY _,λx y c h1 h2=>I.ok.inj x y c (Dr.sub x c h1)<|Dr.sub y c h2,λx U=>Dr.has x U,λx c U _=>absurd (show false=true from U) YOu,I.ok.hd,I.ok.frames,.inl Z,
  λb hb=>⟨YPC<|Dm b hb,λx c h1=>(hf b hb).2.2.2.2.1 x c (Dr.sub x c h1)⟩,I.bs,YO1 I.ok.bsz I.sz,λb o eo hb=>?_,λb hb=>notStk b (hf b hb).2.1 (hf b hb).2.2.1,I.stack,I.stkFree⟩,
  rfl,I.bare,Un.kept uE,⟨_,hns,λi x v h1 h2 h3=>?_⟩,λx c h1=>?_,I.hok.fresh<|YOY _,λx c h1=>I.freeC x c<|Dr.sub x c h1,λp hp=>?_,I.hok.kept uE,?_⟩
 rcases(hf b hb).2.2.2.1 with z|z
 exact I.ok.noex b o eo z;exact absurd (YOs (I.ok.bs b o eo).1)<|Nat.not_lt.mpr z;obtain⟨j,hj,hv⟩:=YM8 h2;obtain⟨n1,n2,n3⟩:=Dr.from_ i j x h1 hj;obtain⟨m,hn,hl⟩:=I.loc;have vis:B0 X.env.scope x:=n2.elim (λz=>.inr<|.inl z) λz=>.inr<|.inr z;obtain⟨u,ru,lk⟩:=hl j x v n1 hv vis;refine⟨u,ru,.inr ⟨n3,?_⟩⟩;rcases lk with ⟨hk,_⟩|⟨_,c,hc,gn⟩
 rcases n2 with z|z
 rw[z]at hk;cases hk;rw[z]at hk;cases hk;obtain⟨c',hc'⟩:=Dr.has x n3;have ec:=Dr.sub x c' hc';rw[hc]at ec;cases ec;obtain⟨o,ho,hd⟩:=gn;exact⟨c,hc',o,uE c o ho,hd⟩;obtain⟨v,o,ho,hd⟩:=I.cell x c<|Dr.sub x c h1;exact⟨v,o,uE c o ho,hd⟩;have hp':p∈X.pn++O:=by simpa using hp
 obtain⟨p1,p2,p3,p4,p5⟩:=I.pin p hp';exact⟨uE _ _ p1,p2,YPC<|YOs p1,notStk _ p3 p4,p5⟩;show(k6 ρ σ).length=N.length;unfold k6;rw[YOS];exact Dr.len
theorem XV(hc:X.calm=true)(Dr:ZJ X N ρ scope cl)(hi:PI X tg iter wi)
  (hg:∀C s₀ H₀ ex pn,PG (Zb X N scope cl C s₀ H₀ ex pn) tg g)(ht:∀C s₀ H₀ ex pn,C9 (Zb X N scope cl C s₀ H₀ ex pn) ifs tc)(he:∀C s₀ H₀ ex pn,PE (Zb X N scope cl C s₀ H₀ ex pn) elt te)
  (hs:∀x,foldedSetIterable iter X.env x=pure x:=by intro _;rfl):PE X (.ListComp elt [⟨tg,iter,ifs,0⟩] scope pos)<|so ρ wi g tc te:=by
 intro O s σ H Q I h;rw[eval_ListComp];refine wpAny_comprehension_free (use:=none) Z hs Dr.clos Dr.kind Dr.loc<|cJ (hi O s σ H _ I h) λv s1 h1=>cJ h1 λitv s2 h2=>?_;obtain⟨it,fp,tn,Dq,H2,e,I2,T,lL,f2,q2⟩:=h2;subst e;obtain⟨W,⟨m0,w0⟩,turn⟩:=q2 _<|I2.hok.fresh<|YOY _;refine wpAny_newObj_type<|wpAny_newFunctionEnv Dr.nocell (by intro y hy;simp at hy) (λh₁ hns₁ hsb₁=>?_) Dr.kind;dsimp only at hns₁ hsb₁ ⊢;have I3:aW X O σ (upd H2 s2.heap.objs.size<|.lst []) { s2 with heap:=s2.heap.push { cls:=.type "list",dict:=none,data:=.seq ([]:J ai).toArray } }:=
  I2.laid (t':=s2.toks) (λb u eo=>YOi _ eo) (YOY _) ⟨by simp,[],0,.nil,YOy _ Z⟩
 generalize jG:({ s2 with heap:=s2.heap.push { cls:=.type "list",dict:=none,data:=.seq ([]:J ai).toArray } }:ar)=s3 at I3;have rM:s2.heap.push { cls:=.type "list",dict:=none,data:=.seq ([]:J ai).toArray }=s3.heap:=by rw[<-jG]
 rw[rM]at hns₁ hsb₁ ⊢;have f3:∀b∈fp,iq X O (upd H2 s2.heap.objs.size<|.lst []) b:=λb hb=>by
  obtain⟨o,eo,_⟩:=T.obj _ _ lL b hb;exact⟨by rw[YB<|YPC<|YOs eo];exact(f2 b hb).1,(f2 b hb).2⟩
 have uF:∀b∈fp,b<s3.heap.objs.size:=λb hb=>by
  obtain⟨o,eo,_⟩:=T.obj _ _ lL b hb;rw[<-rM,Heap.size_push];exact Nat.lt_succ_of_lt<|YOs eo
 have old:∀b o,s3.heap.get? b=some o->h₁.get? b=some o:=λb o eo=>hsb₁.extBut b o (YPC<|YOs eo)<|YOi _ eo;have Ic:aW (Zb X N scope cl s3.heap.objs.size s3 (upd H2 s2.heap.objs.size<|.lst []) fp<|X.pn++O) [] (k6 ρ σ) (upd H2 s2.heap.objs.size<|.lst []) { s2 with heap:=h₁,toks:=s2.toks+([]:J (av×ai)).length }:=
  YIL Dr I3 f3 uF hns₁ old (by rw[<-jG] <;> rfl)
 have iU:∀{pl:J (al×Obj)}{H':L},pl=[]->(∀b∈fp,H' b=none)->∀b∈fp,iq (Zb X N scope cl s3.heap.objs.size s3 (upd H2 s2.heap.objs.size<|.lst []) fp<|X.pn++O) pl H' b:=λ{pl H'} epl hn b hb=>by
  subst epl;refine⟨hn b hb,YPC<|uF b hb,λz=>?_,.inl hb,λx c h1=>(f2 b hb).2.2.2.2.1 x c (Dr.sub x c h1),λp hp=>(f2 b hb).2.2.2.2.2 p (by simpa using hp)⟩;rcases YOj.mp (I3.stkSub b z) with z|z
  exact(f2 b hb).2.1 z;exact(f2 b hb).2.2.1 z
 have uG:tn 0 h₁:=T.keep _ _ _ lL λb hb o eo=>old b o (by rw[<-rM];exact YOi _ eo);have loop:codeAny (model X.prog X.w) X.A (.compLoop (.ListComp elt [⟨tg,iter,ifs,0⟩] scope pos) 0 (.ref it) (.ref s2.heap.objs.size)<|compEnvC scope cl s3.heap.objs.size X.env)
   (compPost (model X.prog X.w) X.A X.xe none (EP X O σ Q) (.ref s2.heap.objs.size) s3.heap.objs.size) { s2 with heap:=h₁,toks:=s2.toks+([]:J (av×ai)).length }:=by
  refine YGV (λn s'=>∃i ys τ H',aW (Zb X N scope cl s3.heap.objs.size s3 (upd H2 s2.heap.objs.size<|.lst []) fp<|X.pn++O) [] τ H' s'/\tn i s'.heap/\(∀b∈fp,H' b=none)/\W i n ys τ H') ?_ m0
   ⟨0,[],_,_,Ic,uG,λb hb=>(f3 b hb).1,w0⟩
  rintro n s4 ⟨i,ys,τ,H4,I4,st,uH,w4⟩;rcases turn i n ys τ H4 w4 with ⟨stop,qn⟩|⟨go,step⟩
  ·refine cJ (T.done (Zb X N scope cl s3.heap.objs.size s3 (upd H2 s2.heap.objs.size<|.lst []) fp<|X.pn++O) Z rfl Z hc i [] s4 τ H4 _ I4 (iU Z uH) st stop) λr s5 ⟨hr,I5⟩=>?_;subst hr;obtain⟨m5,rN,_⟩:=I5.loc;refine⟨m5,rN,λh' hs'=>?_⟩;have ne:∀b,b<s3.heap.objs.size->b≠s3.heap.objs.size:=λb hb=>YPC hb;have mZ:∀b o,b≠s3.heap.objs.size->s5.heap.get? b=some o->h'.get? b=some o:=λb o hb eo=>(hs'.2 b hb).trans eo;have un:Un (fE X.stack) fp (upd H2 s2.heap.objs.size<|.lst []) H4 s3.heap h':=
    ⟨λb o eo n1 n2 n3=>mZ b o (ne b<|YOs eo)<|I5.base.keep b o eo n1 n2 n3,λb o eo n1 n2 n3=>let ⟨sl,z⟩:=I5.base.slot b o eo n1 n2 n3;⟨sl,mZ b _ (ne b<|YOs eo) z⟩,
     I5.base.free,λb o eo n1=>let ⟨o',z⟩:=I5.base.there b o eo n1;⟨o',mZ b _ (ne b<|YOs eo) z⟩,I5.base.tups,I5.base.frzs,I5.base.tbls⟩
   have hok:fG X.prog X.w H4 h':=λa o ea=>(I5.hok a o ea).stay (λb u hb eo=>mZ b u (λz=>by
    have fr:H4 s3.heap.objs.size=none:=I5.free;rcases hb with rfl|hb
    rw[z,fr]at ea;cases ea;rw[z,fr]at hb;cases hb) eo) (λ_ z=>z) λ_ _ z=>z
   have I6:aW X O σ H4 { s5 with heap:=h' }:=I3.call' (s':={ s5 with heap:=h' }) (ch:=fp) (show s5.os=s3.os from I5.os) un hok I5.bare λb hb=>(f3 b hb).2.2.2
     |> λz=>⟨(f3 b hb).2.2.2.1,(f3 b hb).2.1,(f3 b hb).2.2.2.2.1,(f3 b hb).2.2.2.2.2⟩
   exact⟨.ref s2.heap.objs.size,H4,I6,Z,qn⟩
  refine cJ (T.item (Zb X N scope cl s3.heap.objs.size s3 (upd H2 s2.heap.objs.size<|.lst []) fp<|X.pn++O) Z rfl Z hc i [] s4 τ H4 _ I4 (iU Z uH) st go) λr s5 ⟨u,hr,h5⟩=>?_;subst hr;refine cJ h5 ?_;rintro _ s6 ⟨x,H6,I6,r6,y6,j_,yr⟩;have I6':=I6.pinned (iU Z yr)<|T.obj _ _ j_;have again:∀{s9:ar}{τ9:St}{H9:L}{zs:J V}{m':Nat},aW (Zb X N scope cl s3.heap.objs.size s3 (upd H2 s2.heap.objs.size<|.lst []) fp<|X.pn++O) ([]++AX fp s6.heap) τ9 H9 s9->m'<n->W (i+1) m' zs τ9 H9->
    ∃m,m<n/\∃i ys τ H',aW (Zb X N scope cl s3.heap.objs.size s3 (upd H2 s2.heap.objs.size<|.lst []) fp<|X.pn++O) [] τ H' s9/\tn i s9.heap/\(∀b∈fp,H' b=none)/\W i m ys τ H':=λ{s9 τ9 H9 zs m'} I9 hm w9=>by
   refine⟨m',hm,i+1,zs,τ9,H9,I9.unpinned,T.keep _ _ _ j_ λb hb o eo=>(I9.pin (b,o)<|YOe _<|YOe _<|Jj hb eo).1,λb hb=>?_,w9⟩;obtain⟨o,eo,d⟩:=T.obj _ _ j_ b hb;exact(I9.pin (b,o)<|YOe _<|YOe _<|Jj hb eo).2.1
  refine cJ (hg _ _ _ _ _ _ s6 τ H6 x u _ I6' r6<|step x H6 y6) λ_ s7 ⟨τ7,H7,I7,q7⟩=>?_;refine cJ (ht _ _ _ _ _ _ s7 τ7 H7 _ I7 q7) λok s8 ⟨H8,I8,q8⟩=>?_;cases ok with
  |false=>
   rw[if_neg YOu]at q8 ⊢;obtain⟨m',hm,w9⟩:=q8;exact again I8 hm w9
  |true=>
   rw[if_pos Z]at q8 ⊢;refine cJ (he _ _ _ _ _ _ s8 τ7 H8 _ I8 q8) ?_;rintro y s9 ⟨z,H9,I9,r9,uI,yt,m',hm,w9⟩;refine cJ (YDX _ s9 τ7 H9 (.ref s2.heap.objs.size) [z] (.ref s2.heap.objs.size) [y] (λ_ H'=>H'=upd H9 s2.heap.objs.size (.lst<|ys++[z])) I9 Z (.cons r9 .nil) ⟨_,ys,z,Z,Z,uI,yt,Z⟩) λ_ qp ⟨_,H10,I10,_,e10⟩=>?_;subst e10;exact again I10 hm w9
 exact codeAny_compStart_list loop<|T.self _ 0 _ _ _ uG loop
end
theorem ZJ.plain(hk:scope.kind=.function)(hn:∀y∈scope.names,y.2≠.cell/\y.2≠.free)
  (hl:∀y∈scope.names,y.2=.local->scope.names.lookup y.1=some .local)(hlen:ρ.length=N.length)(hρ:∀o∈ρ,o=none):ZJ X N ρ scope []:=by
 have Wr:(relabel scope X.env).names=scope.names:=by
  unfold relabel;refine map_eq_self λy hy=>?_;obtain⟨n,k⟩:=y;have hf:(k==NameKind.free)=false:=by
   have:=(hn _ hy).2;cases k <;> first|rfl|exact absurd rfl this
  show(if (k==NameKind.free&&X.env.scope.kind==.function&&X.env.kindOf n==some .cell)=true then (n,NameKind.cell) else (n,k))=(n,k);rw[hf];rfl
 refine⟨closureFor_none λy hy=>(hn y hy).2,λy hy=>(hn y hy).1,hk,hl,λx c h=>(by cases h),λx h=>?_,hlen,λi j x _ h=>?_⟩;rw[Wr]at h;rcases h with h|h
 exact absurd Z (hn _<|PySem.mem_of_lookup h).1;exact absurd Z (hn _<|PySem.mem_of_lookup h).2;have:=hρ _<|YOc h;cases this
theorem YIM(f:Nat->V)(hl:H l=none)(hτ:0<τ.length)(hz:x.cps.size<=sizeLine)
  (ht:∀(τ':St) (c:Nat) (H':L) (Dt:VK),τ'[0]?=some (some<|.str ⟨#[c]⟩)->c∈x.cps.toList->Dt (f c) H'->te τ' H' Dt)(hq:Q (.ref l)<|upd H l<|.lst<|x.cps.toList.map f):
  pj (Its x) (Yh 0) lS te Q l τ H:=by
 refine⟨λi m ys τ' H2=>m=x.cps.size-i/\i<=x.cps.size/\ys=(x.cps.toList.take i).map f/\0<τ'.length/\H2=upd H l (.lst ys),⟨x.cps.size,by simp,YOn _,by simp,hτ,Z⟩,?_⟩;rintro i m ys τ' H2 ⟨rfl,hi,rfl,hτ',rfl⟩;by_cases Dm:i<x.cps.size;refine .inr ⟨Dm,λv H3 hy=>?_⟩;obtain⟨eH,c,hc,rfl⟩:=hy;subst eH;have hc':x.cps.toList[i]?=some c:=by simpa using hc
 show te _ _ _;refine ht _ c _ _ ?_ (YOc hc') ?_;rw[YPx hτ'];have eU:(x.cps.toList.take<|i+1).map f=(x.cps.toList.take i).map f++[f c]:=by
  rw[YPA,hc',YOk];rfl
 refine⟨YA,?_,x.cps.size-(i+1),by lia,Z,Dm,eU.symm,by rw[YQH];exact hτ',by rw[CQ]⟩;rw[YOS,YPK];have:x.cps.toList.length=x.cps.size:=by simp
 lia;have ei:i=x.cps.size:=by lia
 subst ei;refine .inl ⟨Z,?_⟩;have:x.cps.toList.take x.cps.size=x.cps.toList:=by
  apply YPw;simp
 rw[this];exact hq
def kg(cs:J<|av×al):J (av×NameKind)->J (av×al)->J (av×al)
 |[],acc=>acc
 |y::r,acc=>kg cs r (if y.2==.free then (y.1,(cs.lookup y.1).getD 0)::acc else acc)
theorem YGW(cs:J<|av×al):∀(names:J<|av×NameKind) (acc:J<|av×al),(∀p∈acc,p.2=(cs.lookup p.1).getD 0)->∀p∈kg cs names acc,p.2=(cs.lookup p.1).getD 0
 |[],acc,h=>h
 |y::r,acc,h=>by
  unfold kg;refine YGW cs r _ ?_;split;intro p hp;rcases YOj.mp hp with rfl|hp
  rfl;exact h p hp;exact h
theorem YGX(cs:J<|av×al):∀(names:J<|av×NameKind) (acc:J<|av×al),∀p∈kg cs names acc,p∈acc\/∃y∈names,y.1=p.1/\y.2=.free
 |[],acc,p,hp=>.inl hp
 |y::r,acc,p,hp=>by
  unfold kg at hp;rcases YGX cs r _ p hp with h|⟨z,hz,h⟩
  split at h;rename_i hy;rcases YOj.mp h with rfl|h
  refine .inr ⟨y,YOZ,Z,?_⟩;cases hk:y.2 <;> rw[hk]at hy <;> first|rfl|cases hy
  exact .inl h;exact .inl h;exact .inr ⟨z,YOV _ hz,h⟩
theorem YGY(cs:J<|av×al):∀(names:J<|av×NameKind) (acc:J<|av×al),∀p∈acc,p∈kg cs names acc
 |[],acc,p,hp=>hp
 |y::r,acc,p,hp=>by
  unfold kg;refine YGY cs r _ p ?_;split;exact YOV _ hp;exact hp
theorem YGZ(cs:J<|av×al):∀(names:J<|av×NameKind) (acc:J<|av×al),∀y∈names,y.2=.free->(y.1,(cs.lookup y.1).getD 0)∈kg cs names acc
 |[],acc,y,hy,_=>absurd hy (by simp)
 |z::r,acc,y,hy,hf=>by
  unfold kg;rcases YOj.mp hy with rfl|hy
  refine YGY cs r _ _ ?_;rw[if_pos (by rw[hf];rfl)];exact YOZ;exact YGZ cs r _ y hy hf
theorem YCF:∀{l:J (av×al)}{x:av}{c:al},(x,c)∈l->∃d,l.lookup x=some d
 |[],_,_,h=>absurd h (by simp)
 |(n,k)::r,x,c,h=>by
  rw[List.lookup_cons];cases U:x==n with
  |true=>exact⟨k,Z⟩
  |false=>
   rcases YOj.mp h with e|h
   cases e;simp at U;exact YCF h
theorem YFw(h:∀y∈scope.names,y.2=.free->∃c,env.cells.lookup y.1=some c):closureFor scope env=pure (kg env.cells scope.names []):=by
 have go:∀(names:J<|av×NameKind) (acc:J<|av×al),(∀y∈names,y.2=.free->∃c,env.cells.lookup y.1=some c)->
   (forIn (m:=Sem) names acc (λx r=>if (x.2==NameKind.free)=true then do let c <-cellOf env x.1;pure (ForInStep.yield<|(x.1,c)::r) else pure<|ForInStep.yield r))=pure (kg env.cells names acc):=by
  intro names
  induction names with
  |nil=>intro acc _;rfl
  |cons y r ih=>
   intro acc hy;rw[List.forIn_cons];unfold kg;by_cases hf:(y.2==NameKind.free)=true;have hf':y.2=.free:=by cases hk:y.2 <;> rw[hk]at hf <;> first|rfl|cases hf
   obtain⟨c,hc⟩:=hy y YOZ hf';have e:cellOf env y.1=pure c:=by unfold cellOf;rw[hc]
   rw[if_pos hf,if_pos hf,e,pure_bind,pure_bind,hc];exact ih _ λz hz=>hy z<|YOV _ hz;rw[if_neg hf,if_neg hf,pure_bind];exact ih _ λz hz=>hy z<|YOV _ hz
 have h2:=go scope.names [] h;simp only[closureFor];refine Eq.trans (fZ (· >>= _) ?_) (by rw[pure_bind]);exact h2
theorem YCu(g:av->NameKind->NameKind):∀(l:J<|av×NameKind) (x:av),(l.map λy=>(y.1,g y.1 y.2)).lookup x=(l.lookup x).map (g x)
 |[],_=>rfl
 |(n,k)::r,x=>by
  rw[YOv,List.lookup_cons,List.lookup_cons];cases U:x==n with
  |true=>
   have e:x=n:=by simpa using U
   subst e;rfl
  |false=>exact YCu g r x
theorem YBa(scope:Scope)(env:Env)(x:av):(relabel scope env).names.lookup x=(scope.names.lookup x).map λk=>if (k==NameKind.free&&env.scope.kind==.function&&env.kindOf x==some .cell)=true then .cell else k:=by
 rw[<-YCu (λn k=>if (k==NameKind.free&&env.scope.kind==.function&&env.kindOf n==some .cell)=true then .cell else k)];unfold relabel;congr 1;refine YPN λy _=>?_;obtain⟨n,k⟩:=y;show(if (k==NameKind.free&&env.scope.kind==.function&&env.kindOf n==some .cell)=true then (n,NameKind.cell) else (n,k))=_;dsimp only;split <;> rfl
def YM9(N:J av)(ρ:J<|ah Nat)(XN:J av)(dn sn:J<|av×NameKind):Bool:=
 (N.zip ρ).all λp=>match p.2 with
  |none=>true
  |some j=>decide (XN[j]?=some p.1)&&decide (dn.lookup p.1=some .cell)&&decide (sn.lookup p.1=some .free)
theorem ZJ.closes(XN:J av)(dn:J<|av×NameKind)(hXN:X.N=XN)(Ws:X.env.scope.names=dn)(hk:scope.kind=.function)(hX:X.env.scope.kind=.function)(hn:∀y∈scope.names,y.2≠.cell)
  (hfree:∀y∈scope.names,y.2=.free->dn.lookup y.1=some .cell)(gn:∀x,X.env.scope.names.lookup x=some .cell->∃c,X.env.cells.lookup x=some c)(hl:∀y∈scope.names,y.2=.local->scope.names.lookup y.1=some .local)(hlen:ρ.length=N.length)
  (lW:YM9 N ρ XN dn scope.names=true):ZJ X N ρ scope<|kg X.env.cells scope.names []:=by
 subst hXN Ws;have kd:∀x,X.env.kindOf x=X.env.scope.names.lookup x:=λ_=>rfl;refine⟨YFw λy hy hf=>gn _<|hfree y hy hf,hn,hk,hl,λx c h=>?_,λx h=>?_,hlen,λi j x h1 h2=>?_⟩;have hm:=PySem.mem_of_lookup h;have hv:=YGW X.env.cells scope.names [] (λp hp=>absurd hp (by simp)) _ hm;rcases YGX X.env.cells scope.names [] _ hm with z|⟨y,hy,R,e2⟩
 exact absurd z (by simp);obtain⟨d,hd⟩:=gn _<|hfree y hy e2;have e1':y.1=x:=R;rw[e1']at hd;have hv':c=(X.env.cells.lookup x).getD 0:=hv;rw[hd]at hv';rw[hd,hv'];rfl;rw[YBa]at h;have hfr:scope.names.lookup x=some .free:=by
  cases e:scope.names.lookup x with
  |none=>rw[e]at h;rcases h with h|h <;> cases h
  |some k=>
   rw[e]at h;cases k with
   |free=>rfl
   |cell=>exact absurd rfl<|hn _<|PySem.mem_of_lookup e
   |_=>rcases h with h|h <;> cases h
 exact YCF<|YGZ X.env.cells scope.names [] _ (PySem.mem_of_lookup hfr) rfl;unfold YM9 at lW;rw[YO8]at lW;have hm:(x,some j)∈N.zip ρ:=by
  refine YOc (i:=i) ?_;rw[List.getElem?_zip_eq_some];exact⟨h1,h2⟩
 have h3:=lW _ hm;simp only[YOl,fQ]at h3;obtain⟨⟨a1,a2⟩,a3⟩:=h3;refine⟨a1,.inl (by rw[kd];exact a2),.inl ?_⟩;rw[YBa,a3,kd,a2,hX];rfl
theorem YIN{n:Nat}{lo:Int}{te:TE}{Q:VK}{H:L}{l:al}{τ:St}(j0:Nat)(Py:Nat->V->Prop)(hl:H l=none)(hτ:j0<τ.length)(hz:n<=sizeLine)(keep:St->Prop)(hk0:keep τ)(hks:∀τ' v,keep τ'->keep (τ'.set j0 v))
  (ht:∀(τ':St) (k:Nat) (H':L) (Dt:VK),keep τ'->τ'[j0]?=some (some<|.int<|lo+k)->k<n->YF H H'->(∀y,Py k y->Dt y H')->te τ' H' Dt)
  (hq:∀ys:J V,ys.length=n->(∀k y,ys[k]?=some y->Py k y)->Q (.ref l) (upd H l<|.lst ys)):
  pj (uk lo n) (Yh j0) lS te Q l τ H:=by
 refine⟨λi m ys τ' H2=>m=n-i/\i<=n/\ys.length=i/\(∀k y,ys[k]?=some y->Py k y)/\j0<τ'.length/\keep τ'/\H2=upd H l (.lst ys),⟨n,by simp,YOn _,Z,λk y e=>by simp at e,hτ,hk0,Z⟩,?_⟩;rintro i m ys τ' H2 ⟨rfl,hi,hy,hP,hτ',hk',rfl⟩;by_cases Dm:i<n;refine .inr ⟨Dm,λv H3 lN=>?_⟩;obtain⟨eH,rfl⟩:=lN;subst eH;show te _ _ _;refine ht _ i _ _ (hks _ _ hk') ?_ Dm (λb o eb=>by rw[YB<|YS eb hl];exact eb) λy py=>?_;rw[YPx hτ'];refine⟨YA,by lia,n-(i+1),by lia,Z,Dm,by simp[hy],λk z e=>?_,by rw[YQH];exact hτ',hks _ _ hk',by rw[CQ]⟩;by_cases hkl:k<ys.length;rw[YOr hkl]at e;exact hP k z e;rw[YOm (by lia)]at e;have hk0:k-ys.length=0:=by
  cases hh:k-ys.length with
  |zero=>rfl
  |succ j=>rw[hh]at e;simp at e
 rw[hk0]at e;have e2:y=z:=by simpa using e
 have e3:k=i:=by lia
 subst e2 e3;exact py;have ei:i=n:=by lia
 subst ei;exact .inl ⟨YOY _,hq ys hy hP⟩
section
variable {X:Cx}
theorem pc:∀{bs:J Bool}{us:J ai}{i:Nat}{v:ai},Yt (bs.map V.bl) us->us[i]?=some v->∃b,bs[i]?=some b/\v=.bool b:=by
 intro bs us i v r e;cases e2:(bs.map V.bl)[i]? with
 |none=>
  have:=r.none_of e2;rw[this]at e;cases e
 |some x=>
  obtain⟨u,hu,ru⟩:=r.get e2;rw[hu]at e;cases e;rw[YOd]at e2;cases e3:bs[i]? with
  |none=>rw[e3]at e2;cases e2
  |some b=>
   rw[e3]at e2;have e4:V.bl b=x:=YO3 e2;subst e4;exact⟨b,Z,ru⟩
theorem YFx(bs:J Bool):((List.range bs.length).all λi=>(bs[i]?).getD true)=bs.all id:=by
 rw[YPU,YO8,YO8];constructor;intro h b hb;obtain⟨i,hi,rfl⟩:=List.mem_iff_getElem.mp hb;have:=h i<|YO9.mpr hi;rw[YOW hi]at this;exact this;intro h i hi;have hi':=YO9.mp hi;rw[YOW hi'];exact h _<|YQC hi'
theorem YNA(hc:X.calm=true):Jy X (.builtin "all") (λxs H Q=>∃(p:al) (bs:J Bool),xs=[.ref p]/\aX X.K H p (bs.map V.bl)/\Q (.bl<|bs.all id) H):=by
 intro O s σ H xs us Q I r h;obtain⟨p,bs,rfl,hq,q⟩:=h;obtain⟨u,rfl,rx⟩:=j2 r;cases rx;obtain⟨its,rv,pl,hz⟩:=I.list hq;have hl:=pl.isList;have Dm:p<s.heap.objs.size:=by obtain⟨_,e,_⟩:=hl;exact YOs e
 have hlen:bs.length=its.length:=by have:=rv.length;rwa [YOS]at this
 refine call_all_walk<|wpAny_pyIter_list hl ?_;refine⟨s.heap.objs.size,[s.heap.objs.size,p],[s.heap.objs.size],its.toArray.size,_,_,λi=>(bs[i]?).getD true,Z,Walks.list (A:=X.A.in1) (I.ok.hd hc) _ p (YPC Dm) its.toArray,
  ⟨⟨_,YOy _ Z,Z,Z⟩,hl.push _⟩,λi v s' Q' E' hP hQ=>?_,λh' tk hk=>?_⟩
 obtain⟨b,eb,rfl⟩:=pc rv (i:=i) (v:=v) (by simpa using hP);simp only[eb,Option.getD_some]at hQ;exact wpAny_truthy_bool hQ;have e:((List.range its.toArray.size).all λi=>(bs[i]?).getD true)=bs.all id:=by
  rw[YOp,<-hlen];exact YFx bs
 rw[e];exact⟨.bl _,H,I.kept (t':=tk) λb o eb=>hk b o (λz=>by rw[YOT.mp z]at eb;exact YPW _<|YOs eb)<|YOi _ eb,Z,q⟩
theorem YNB:SlR X (λx lo hi H Q=>∃z,x=.str z/\z.length<=sizeLine/\Q (.str<|Txt.slice z lo hi) H):=by
 intro O s σ H x v vl vu lo hi sl Q I rx hs pl pu h;obtain⟨z,rfl,hz,q⟩:=h;obtain⟨t,rfl⟩:=rx;refine⟨"str",_,F.slot_str_getitem.lookup,typeIs_str _ _ _,?_⟩;have fin:∀(t':Tok) (k:Nat),EP X O σ Q (.str (Txt.slice z lo hi) t') { s with toks:=k }:=λt' k=>⟨.str _,H,I.tok _,⟨_,Z⟩,q⟩;obtain⟨o,ho,hc,hd⟩:=hs;cases pl with
 |none=>
  cases pu with
  |none=>exact wpAny_getItem_str_slice (l:=none) (u:=none) (st:=none) ⟨o,ho,hc,hd⟩ rfl<|post_val_or_str ⟨YO1 (Txt.slice_le z _ _) hz,fin⟩
  |int j uj=>exact wpAny_getItem_str_slice (l:=none) (u:=some (j,uj)) (st:=none) ⟨o,ho,hc,hd⟩ rfl<|post_val_or_str ⟨YO1 (Txt.slice_le z _ _) hz,fin⟩
 |int i ui=>
  cases pu with
  |none=>exact wpAny_getItem_str_slice (l:=some (i,ui)) (u:=none) (st:=none) ⟨o,ho,hc,hd⟩ rfl<|post_val_or_str ⟨YO1 (Txt.slice_le z _ _) hz,fin⟩
  |int j uj=>exact wpAny_getItem_str_slice (l:=some (i,ui)) (u:=some (j,uj)) (st:=none) ⟨o,ho,hc,hd⟩ rfl<|post_val_or_str ⟨YO1 (Txt.slice_le z _ _) hz,fin⟩
theorem YGa:fK X (compareOp .LtE) (λx y H Q=>∃i j,x=.str i/\y=.str j/\Q (.bl<|!decide (j.cps.toList<i.cps.toList)) H):=by
 intro O s σ H x y v u Q I rx ry h;obtain⟨i,j,rfl,rfl,q⟩:=h;obtain⟨t,rfl⟩:=rx;obtain⟨t',rfl⟩:=ry;exact PySem.P.le_str<|Y8 I q rfl
def xp:V->ah ai
 |.ty n=>some<|.type n
 |.ref a=>some<|.ref a
 |_=>none
theorem YNC(h:xp c=some u)(r:Yx c w):w=u:=by
 cases c with
 |ty n=>cases h;exact r
 |ref a=>cases h;exact r
 |_=>cases h
theorem YND:Jy X (.builtin "isinstance") (λxs H Q=>∃x c t u b,xs=[x,c]/\iX X.K H x t/\xp c=some u/\PySem.W.kitOne X.K t u=some b/\Q (.bl b) H):=by
 intro O s σ H xs us Q I r h;obtain⟨x,c,t,u,b,rfl,ty,rc,e,q⟩:=h;obtain⟨v,w,rfl,rv,j9⟩:=ly r;have eu:w=u:=YNC rc j9;subst eu;exact YLu I rv ty e λtk=>⟨.bl b,H,I.tok tk,Z,q⟩
end
def Y0:HO->Bool
 |.dT _=>false
 |.frz _ (.dT _)=>true
 |.frz _ u=>Y0 u
 |_=>true
theorem Y7.less(hp:Y0 o=true)(x:Y7 P w H' h' a o)(y:Y7 P w H h a o):Y7 P w H h' a o:=by
 induction o with
 |dT kvs=>cases hp
 |ins C B fs=>exact⟨y.1,x.2⟩
 |frz ob u ih=>
  cases u with
  |dT kvs=>
   obtain⟨z1,z2,xs,z3,o,es,ep,z4,z5⟩:=y.2;have e:o=ob:=by
    have:=y.1;rw[z4]at this;exact YO3 this
   subst e;exact⟨x.1,z1,z2,xs,z3,o,es,ep,x.1,z5⟩
  |_=>exact⟨x.1,ih hp x.2 y.2⟩
 |lst xs=>exact x
 |tup xs=>exact x
 |dK kvs=>exact x
 |set Dr n=>exact x
 |own z=>exact x
 |xd fs=>exact x
 |rng lo hi=>exact x
 |tbl ps=>exact x
 |met f z=>exact x
 |ext φ=>exact x
section
variable {X:Cx}{O:J (al×Obj)}{σ:St}{H H':L}{s s':ar}
theorem aW.less(hp:∀a o,H a=some o->Y0 o=true)(I:aW X O σ H s)(I':aW X O σ H' s')(sm:YF H H'):aW X O σ H s':=
 ⟨I.ok,I'.os,I'.bare,⟨I'.base.keep,I'.base.slot,I.base.free,I'.base.there,I.base.tups,I.base.frzs,I.base.tbls⟩,I'.loc,I'.cell,I.free,I.freeC,λp hpp=>⟨(I'.pin p hpp).1,(I.pin p hpp).2⟩,
  λa o ea=>(I'.hok a o<|sm a o ea).less (hp a o ea)<|I.hok a o ea,I.len⟩
def YL(H:L):Prop:=∀a o,H a=some o->Y0 o=true
theorem YL.upd(h:YL H)(ho:Y0 o=true):YL<|upd H a o:=λb u e=>by
 by_cases hb:b=a;subst hb;rw[YA]at e;cases e;exact ho;rw[YB hb]at e;exact h b u e
inductive YNE(t:TE)(σ:St)(H:L)(Q:VK):Prop
 |mk:YL H->(t σ H λv H'=>YF H H'/\Q v H)->YNE t σ H Q
def CJ(t:TE):TE:=λσ H Q=>YNE t σ H Q
theorem YEi{e:Expr}{t:TE}(h:PE X e t):PE X e<|CJ t:=by
 intro O s σ H Q I ⟨hp,hw⟩;exact cJ (h O s σ H _ I hw) λv s1 ⟨x,H1,I1,r1,sm,q⟩=>⟨x,H,I.less hp I1 sm,r1,q⟩
end
section
variable {prog:Program}{w:World}{A:Around}{E:ai->ar->Prop}{s:ar}{K:W.Frag}{e C:al}
end
section
variable {X:Cx}
end
section
variable {X:Cx}(K:W.Frag)(hK:X.K=K)
include hK
theorem YNF:A1 X<|yY K:=by subst hK;exact oY
theorem qS:A1 X<|oS K:=by subst hK;exact xX
theorem CS:SlR X<|C6 K:=by subst hK;exact nI
theorem YFy:Jy X (.builtin "len") (λxs H Q=>∃p ys,xs=[.ref p]/\(aX K H p ys\/cy K H p ys)/\Q (.int ys.length) H):=by subst hK;exact YHO
theorem XW:Jy X (.type "list") (λxs H Q=>∃p ys,xs=[.ref p]/\(aX K H p ys\/cy K H p ys)/\∀l,H l=none->Q (.ref l) (upd H l<|.lst ys)):=by subst hK;exact YHP
theorem YE5:Jy X (.type "tuple") (λxs H Q=>∃p ys,xs=[.ref p]/\((aX K H p ys/\∀l,H l=none->Q (.ref l) (upd H l<|.tup ys))\/(cy K H p ys/\Q (.ref p) H))):=by subst hK;exact YFv
theorem YB1(hc:X.calm=true):Jy X (.builtin "all") (λxs H Q=>∃(p:al) (bs:J Bool),xs=[.ref p]/\aX K H p (bs.map V.bl)/\Q (.bl<|bs.all id) H):=by subst hK;exact YNA hc
theorem Z2:Jy X (.builtin "isinstance") (λxs H Q=>∃x c t u b,xs=[x,c]/\iX K H x t/\xp c=some u/\PySem.W.kitOne K t u=some b/\Q (.bl b) H):=by subst hK;exact YND
theorem ZH(hl:PE X l tl):PI X tg l<|sf K tl:=by subst hK;exact oZ hl
theorem CV(hl:PE X l tl):PI X tg l<|Cp K tl:=by subst hK;exact xJ hl
theorem XH(ha:PE X a ta)(he:∀whole,isTrue a X.env whole=(do let v <-whole;standAt a.pos;holding [v]<|truthy v)):
  PT X a (λσ H Q=>ta σ H λx H'=>∃k,w8 K x H' k/\Q k H'):=by subst hK;exact YMj ha he
theorem Dd(hc:X.calm=true)(h:Ca X es t)
  (hn:(assignEach es X.env).length=n:=by rfl)(hst:(assignEach es X.env).findIdx? (·.1)=none:=by rfl):PG X (.Tuple es k pos)<|Da K n t:=by subst hK;exact xA hc h hn hst
variable {o e:Expr}{es:J Expr}{to:TE}{t:TA}{name:av}{bD bj:Pos}{T id:String}{r:V->J V->L->VK->Prop}
theorem vS(pa:PlainAttrs T)(slot:Slot T name id)(mW:typeOf (.builtin id)=pure (.type "method_descriptor"))(hm:AN X id r)(ho:PE X o to)
  (gZ:attributeBase o name X.env (eval o X.env)=eval o X.env:=by rfl)(g8:(bD.endLine==bj.line)=true:=by rfl):PE X (.Call (.Attribute o name bD) [] [] bj)<|De K T r to:=by
 subst hK;exact xS pa slot mW hm ho gZ g8
theorem A3(pa:PlainAttrs T)(slot:Slot T name id)(mW:typeOf (.builtin id)=pure (.type "method_descriptor"))(hm:AN X id r)(ho:PE X o to)(ha:PA X (e::es) t)
  (gZ:attributeBase o name X.env (eval o X.env)=eval o X.env:=by rfl)
  (mX:((backTo bj<|starEach (e::es) X.env).all (λx=>!x.1)&&(backToKw bj<|keywordEach [] X.env).all (λx=>x.1.isSome)
   && decide ((e::es).length+([]:J Keyword).length+(if ([]:J Keyword).isEmpty then 0 else 1)<30))=true:=by rfl)
  (g8:(bD.endLine==bj.line)=true:=by rfl) (hs:starEach (e::es) X.env=(false,eval e X.env)::starEach es X.env:=by rfl) (iW:(backTo bj<|starEach es X.env).any (·.1)=false:=by rfl):
  PE X (.Call (.Attribute o name bD) (e::es) [] bj) (tBM K T r to t):=by
 subst hK;exact BS pa slot mW hm ho ha gZ mX g8 hs iW
end
inductive Ex1{α:Type}(p:α->Prop):Prop
 |mk (a0:α):p a0->Ex1 p
inductive xN{α β:Type}(p:α->β->Prop):Prop
 |mk (a0:α) (a1:β):p a0 a1->xN p
inductive ki{α β γ:Type}(p:α->β->γ->Prop):Prop
 |mk (a0:α) (a1:β) (a2:γ):p a0 a1 a2->ki p
inductive sK{α β γ δ:Type}(p:α->β->γ->δ->Prop):Prop
 |mk (a0:α) (a1:β) (a2:γ) (a3:δ):p a0 a1 a2 a3->sK p
inductive Ex5{α β γ δ ε:Type}(p:α->β->γ->δ->ε->Prop):Prop
 |mk (a0:α) (a1:β) (a2:γ) (a3:δ) (a4:ε):p a0 a1 a2 a3 a4->Ex5 p
inductive Ex6{α β γ δ ε ζ:Type}(p:α->β->γ->δ->ε->ζ->Prop):Prop
 |mk (a0:α) (a1:β) (a2:γ) (a3:δ) (a4:ε) (a5:ζ):p a0 a1 a2 a3 a4 a5->Ex6 p
inductive Ex8{α β γ δ ε ζ η θ:Type}(p:α->β->γ->δ->ε->ζ->η->θ->Prop):Prop
 |mk (a0:α) (a1:β) (a2:γ) (a3:δ) (a4:ε) (a5:ζ) (a6:η) (a7:θ):p a0 a1 a2 a3 a4 a5 a6 a7->Ex8 p
inductive Ex9{α β γ δ ε ζ η θ ι:Type}(p:α->β->γ->δ->ε->ζ->η->θ->ι->Prop):Prop
 |mk (a0:α) (a1:β) (a2:γ) (a3:δ) (a4:ε) (a5:ζ) (a6:η) (a7:θ) (a8:ι):p a0 a1 a2 a3 a4 a5 a6 a7 a8->Ex9 p
inductive C0{α β γ δ ε ζ η θ ι κ:Type}(p:α->β->γ->δ->ε->ζ->η->θ->ι->κ->Prop):Prop
 |mk (a0:α) (a1:β) (a2:γ) (a3:δ) (a4:ε) (a5:ζ) (a6:η) (a7:θ) (a8:ι) (a9:κ):p a0 a1 a2 a3 a4 a5 a6 a7 a8 a9->C0 p
inductive xi(a0 a1 a2:Prop):Prop
 |mk:a0->a1->a2->xi a0 a1 a2
inductive xm(a0 a1 a2 a3:Prop):Prop
 |mk:a0->a1->a2->a3->xm a0 a1 a2 a3
inductive CU(a0 a1 a2 a3 a4:Prop):Prop
 |mk:a0->a1->a2->a3->a4->CU a0 a1 a2 a3 a4
inductive AC(a0 a1 a2 a3 a4 a5:Prop):Prop
 |mk:a0->a1->a2->a3->a4->a5->AC a0 a1 a2 a3 a4 a5
inductive BC(a0 a1 a2 a3 a4 a5 a6:Prop):Prop
 |mk:a0->a1->a2->a3->a4->a5->a6->BC a0 a1 a2 a3 a4 a5 a6
inductive xZ(a0 a1 a2 a3 a4 a5 a6 a7:Prop):Prop
 |mk:a0->a1->a2->a3->a4->a5->a6->a7->xZ a0 a1 a2 a3 a4 a5 a6 a7
inductive An9(a0 a1 a2 a3 a4 a5 a6 a7 a8:Prop):Prop
 |mk:a0->a1->a2->a3->a4->a5->a6->a7->a8->An9 a0 a1 a2 a3 a4 a5 a6 a7 a8
inductive xP(a0 a1 a2 a3 a4 a5 a6 a7 a8 a9:Prop):Prop
 |mk:a0->a1->a2->a3->a4->a5->a6->a7->a8->a9->xP a0 a1 a2 a3 a4 a5 a6 a7 a8 a9
inductive BY(a0 a1 a2 a3 a4 a5 a6 a7 a8 a9 z_:Prop):Prop
 |mk:a0->a1->a2->a3->a4->a5->a6->a7->a8->a9->z_->BY a0 a1 a2 a3 a4 a5 a6 a7 a8 a9 z_
section
variable {P:Program}{w:World}{K:W.Frag}{mg:av->ah ai}{base:Heap}
theorem kL.okX{x qual:av}{st:Stmt}{f:al}{fd:FuncData}{N ps:J av}{k:Nat}{sp:Sp}(F:kL K x qual st f fd)(Dr:YJ N ps<|YG st)(len:∀vs H Q E,sp vs H Q E->vs.length=ps.length)
  (hbody:∀(cW:ai) (A:Around) (outer:J Env) (s:ar) (H:L) (vs:J V) (Q:VK) (E:XK),JQ k (A.deeper<|envOfC qual (YG st) s.heap.objs.size f cW)->sp vs H Q E->
   ∃t,gS (iP (fM P w) P w K mg base N qual (YG st) f cW A outer s H E) (Zl st) t/\t { nx:=λ_ H'=>Q .non H',rt:=Q } (start N vs) H):gs P w K mg base (fM P w) (k+1) f fd ps sp:=by
 obtain⟨oc,od,kV,doc,pm,an,cW,ct,osl,rfl,lk,hcd⟩:=F.ex;exact t9 lk hcd Dr len λA outer s H vs Q E hr hsp=>hbody cW A outer s H vs Q E hr hsp
end
structure ZK(P:Program)(w:World)(K:W.Frag)(mg:Str->Option Value)(CX:gE)(k:Nat)(x:Str)(ps:List Str)(sp:Sp):Prop where
 ok:∃f fd,(∀base,gs P w K mg base CX k f fd ps sp)/\mg x=some (.ref f)/\PySem.W.keepIn K (.ref f)=true/\kx K fd ps []
theorem l6:XG (fM X.prog X.w) X E0:=λ_ _ _ _ _ _ _ ⟨_,_,_,_,_,h⟩=>h.elim
theorem YF.upd{H:L}{p:al}{o:HO}(h:H p=none):YF H<|upd H p o:=λb u e=>by rw[YB<|YS e h];exact e
theorem YF.put{H H':L}{p:al}{o:HO}(s:YF H H')(h:H p=none):YF H<|L2.upd H' p o:=λb u e=>by rw[YB<|YS e h];exact s b u e
def del(H:L)(l:al):L:=λb=>if b=l then none else H b
theorem Zg(h:b≠l):del H l b=H b:=if_neg h
theorem Xz:del H l l=none:=if_pos Z
theorem Cm(H:L)(l:al):YF (del H l) H:=λb o e=>by
 unfold del at e;split at e;cases e;exact e
theorem YF.del(s:YF H H')(l:al):YF (L2.del H l)<|L2.del H' l:=λb o e=>by
 unfold L2.del at e ⊢;split at e;cases e;rw[if_neg (by assumption)];exact s b o e
theorem YF.to_del{H H':L}{l:al}(s:YF H H')(h:H l=none):YF H<|L2.del H' l:=λb o e=>by
 rw[Zg<|YS e h];exact s b o e
theorem YEj:L2.del (L2.upd H l o) l=L2.del H l:=by
 funext b;unfold L2.del L2.upd;split <;> rfl
theorem n9(n:Nat)(W:Nat->J V->St->L->Prop)(h0:W 0 [] τ<|upd H1 l<|.lst [])
  (hgo:∀i ys τ H (N:J V->St->L->Prop),i<n->W i ys τ H->(∀ys τ H,W (i+1) ys τ H->N ys τ H)->Dq.go i H/\∀x H3,Dq.yld i H x H3->g x τ H3 λτ4 H4=>tc τ4 H4 λb H5=>
   if b=true then te τ4 H5 λy H6=>H6 l=some (.lst ys)/\ys.length<sizeLine/\N (ys++[y]) τ4 (upd H6 l<|.lst<|ys++[y]) else N ys τ4 H5)
  (hst:∀ys τ H,W n ys τ H->Dq.stop n H/\Q (.ref l) H):pj Dq g tc te Q l τ H1:=by
 refine⟨λi m ys τ H=>m=n-i/\i<=n/\W i ys τ H,⟨n,by simp,YOn _,h0⟩,?_⟩;rintro i m ys τ H ⟨rfl,hi,w⟩;by_cases Dm:i<n;exact .inr<|hgo i ys τ H (λys τ H=>∃m',m'<n-i/\m'=n-(i+1)/\i+1<=n/\W (i+1) ys τ H) Dm w λys τ H h=>⟨n-(i+1),by omega,Z,Dm,h⟩;have ei:i=n:=by omega
 subst ei;exact .inl<|hst ys τ H w
def AZ(Dq:It)(n:Nat)(H:L)(item:Nat->V->Prop):Prop:=∀i H',YF H H'->(i<n->Dq.go i H'/\∀x H3,Dq.yld i H' x H3->H3=H'/\item i x)/\Dq.stop n H'
theorem X0{K:W.Frag}{a:al}{xs:J V}{H:L}(h:aX K H a xs):AZ (A6 K a) xs.length H λi x=>xs[i]?=some x:=λi H' s=>by
 have h':=s.seq h;exact⟨λhi=>⟨⟨xs,xs[i],h',by simp[hi]⟩,λx H3 y=>⟨y.1,y.2 xs h'⟩⟩,⟨xs,h',YOY _⟩⟩
theorem YF.seqT{K:W.Frag}{H H':L}{a:al}{xs:J V}(e:YF H H')(h:cy K H a xs):cy K H' a xs:=by
 rcases h with (h|⟨o,h⟩)|h
 exact .inl<|.inl<|e _ _ h;exact .inl<|.inr ⟨o,e _ _ h⟩;exact .inr h
theorem YB2{K:W.Frag}{a:al}{xs:J V}{H:L}(h:cy K H a xs):AZ (xq K a) xs.length H λi x=>xs[i]?=some x:=λi H' s=>by
 have h':=s.seqT h;exact⟨λhi=>⟨⟨xs,xs[i],h',by simp[hi]⟩,λx H3 y=>⟨y.1,y.2 xs h'⟩⟩,⟨xs,h',YOY _⟩⟩
theorem YD9{lo:Int}{n:Nat}{H:L}:AZ (uk lo n) n H λi x=>x=.int (lo+i):=λi H' s=>
 ⟨λhi=>⟨hi,λx H3 y=>y⟩,YOY _⟩
theorem XI{item:Nat->V->Prop}(j0:Nat)(Py:Nat->V->L->Prop)(hJ:AZ Dq n H item)(mono:∀k y H H',YF H H'->Py k y H->Py k y H')(hp:YL H)
  (hl:H l=none)(hτ:j0<τ.length)(hz:n<=sizeLine)(keep:St->Prop)(hk0:keep τ)(hks:∀τ' v,keep τ'->keep (τ'.set j0 v))
  (ht:∀(τ':St) (k:Nat) (x:V) (H':L) (Dt:VK),keep τ'->τ'[j0]?=some (some x)->item k x->k<n->YF H H'->YL H'->H' l≠none->(∀y H6,YF H' H6->YL H6->Py k y (del H6 l)->Dt y H6)->te τ' H' Dt)
  (hq:∀ys H',ys.length=n->(∀k y,ys[k]?=some y->Py k y (del H' l))->YF H H'->YL H'->H' l=some (.lst ys)->Q (.ref l) H'):pj Dq (Yh j0) lS te Q l τ H:=by
 refine⟨λi m ys τ' H2=>m=n-i/\i<=n/\ys.length=i/\(∀k y,ys[k]?=some y->Py k y (del H2 l))/\j0<τ'.length/\keep τ'/\YF H H2/\YL H2/\H2 l=some (.lst ys),
  ⟨n,by simp,YOn _,Z,λk y e=>by simp at e,hτ,hk0,YF.upd hl,hp.upd Z,YA⟩,?_⟩
 rintro i m ys τ' H2 ⟨rfl,hi,hy,hP,hτ',hk',hs,hpl,hll⟩;obtain⟨hgo,hst⟩:=hJ i H2 hs;by_cases Dm:i<n;obtain⟨h1,h2⟩:=hgo Dm;refine .inr ⟨h1,λx H3 lN=>?_⟩;obtain⟨eH,Dp⟩:=h2 x H3 lN;subst eH;show te _ _ _;refine ht _ i x _ _ (hks _ _ hk') ?_ Dp Dm hs hpl (by rw[hll];intro z;cases z) λy H6 s6 p6 py=>?_;rw[YPx hτ'];have lA:H6 l=some (.lst ys):=s6 _ _ hll;refine⟨lA,by lia,n-(i+1),by lia,Z,Dm,by simp[hy],λk z e=>?_,by rw[YQH];exact hτ',hks _ _ hk',(hs.trans s6).put hl,p6.upd Z,YA⟩;rw[YEj];by_cases hkl:k<ys.length;rw[YOr hkl]at e;exact mono k z _ _ (s6.del l)<|hP k z e;rw[YOm (by lia)]at e;have hk0:k-ys.length=0:=by
  cases hh:k-ys.length with
  |zero=>rfl
  |succ j=>rw[hh]at e;simp at e
 rw[hk0]at e;have e2:y=z:=by simpa using e
 have e3:k=i:=by lia
 subst e2 e3;exact py;have ei:i=n:=by lia
 subst ei;exact .inl ⟨hst,hq ys H2 hy hP hs hpl hll⟩
section
variable {X:Cx}{CX:gE}{k j:Nat}{ps:J av}{sp:Sp}{E:XK}{x:av}{p pos:Pos}{e:Expr}{es:J Expr}{t:TA}
theorem eW(Ds:ZK X.prog X.w X.K X.mg CX k x ps sp)(hr:JQ j X.A)(U:XG CX X E)(ha:PA X (e::es) t)(hj:k<=j:=by decide)(hg:Gl X x:=by rfl)(hdb:(x==("__debug__":av))=false:=by decide)(he:starEach (e::es) X.env=(false,eval e X.env)::starEach es X.env:=by rfl)(hpl:(backTo pos<|starEach es X.env).any (·.1)=false:=by rfl):
  PE X (.Call (.Name x p) (e::es) [] pos) (vi sp [] E t):=by
 obtain⟨f,fd,G,m,k,b⟩:=Ds.ok;exact oN (G X.base) (hr.mono hj) hg m k b .nil U ha hdb he hpl
theorem pxU(Ds:ZK X.prog X.w X.K X.mg (fM X.prog X.w) k x ps sp)(hr:JQ j X.A)(ha:PA X.nox (e::es) t)(hj:k<=j:=by decide)(hg:Gl X x:=by rfl)(hdb:(x==("__debug__":av))=false:=by decide)(he:starEach (e::es) X.env=(false,eval e X.env)::starEach es X.env:=by rfl)(hpl:(backTo pos<|starEach es X.env).any (·.1)=false:=by rfl):
  PEX X (.Call (.Name x p) (e::es) [] pos) (YM4 sp [] t):=by
 obtain⟨f,fd,G,m,k,b⟩:=Ds.ok;exact YM5 (G X.base) (hr.mono hj) hg m k b .nil ha hdb he hpl
end
section
variable {X:Cx}{N ps:J av}{sc:Scope}
theorem c9(i:Nat)(Dr:YJ X.N ps sc)(he:PE X e te)(hi:X.N[i]?=some x:=by rfl)(U:r_ X.env.scope x:=by first|exact Or.inl rfl|exact Or.inr rfl)(hs:swapsWith e (some<|.Name x gq) pos.line X.env=pure false:=by rfl)(hf:X.fn x=true\/X.env.scope.names.lookup x=some .local:=by first|exact .inl rfl|exact .inr rfl|assumption):
  PS X (.Assign [.Name x gq] e pos) (pV te<|Yh i):=YMc Dr.nd hi U he hs hf
theorem eQ(h1:sc.kind=.function:=by rfl)(h2:sc.isCoroutine=false:=by rfl)(h3:sc.isGenerator=false:=by rfl)(h4:N.Nodup:=by decide+kernel)(h5:N.take P.length=P:=by rfl)(h6:∀x∈P,sc.names.lookup x=some .local\/sc.names.lookup x=some .cell:=by decide+kernel)(h7:∀y∈sc.names,y.2≠.free:=by decide+kernel):YJ N P sc:=⟨h1,h2,h3,h4,h5,h6,h7⟩
end
section
variable {P:Program}{w:World}{K:W.Frag}{mg:av->ah ai}{base:Heap}{x qual:av}{st:Stmt}{f:al}{fd:FuncData}{N ps:J av}{k:Nat}{sp:Sp}
end
def Gd(P:Program)(w:World)(K:W.Frag)(mg:av->ah ai)(CX:gE)(k:Nat)(x q:av)(st:Stmt)(ps:J av)(sp:Sp):Prop:=∀{f:al}{fd:FuncData}{base:Heap},kL K x q st f fd->gs P w K mg base CX k f fd ps sp
section
variable {P:Program}{w:World}{K:W.Frag}{mg:av->ah ai}{x qual:av}{st:Stmt}{N ps:J av}{k:Nat}{sp:Sp}
theorem eT(Dr:YJ N ps<|YG st)(hbody:∀{f:al}{base:Heap}{cW:ai}{A:Around}{outer:J Env}{s:ar}{vs:J V} (H:L) (Q:VK) (E:XK),JQ k (A.deeper<|envOfC qual (YG st) s.heap.objs.size f cW)->sp vs H Q E->
   ∃t,gS (iP bZ P w K mg base N qual (YG st) f cW A outer s H E).nox (Zl st) t/\t { nx:=λ_ H'=>Q .non H',rt:=Q } (start N vs) H) (len:∀vs H Q E,sp vs H Q E->vs.length=ps.length:=by intro _ _ _ _ h;cases h;subst_vars;rfl):Gd P w K mg bZ (k+1) x qual st ps sp:=λF=>F.ok Dr len λ_ _ _ _ H _ Q E=>hbody H Q E
theorem iN(Dr:YJ N ps<|YG st)(hbody:∀{f:al}{base:Heap}{cW:ai}{A:Around}{outer:J Env}{s:ar}{vs:J V} (H:L) (Q:VK) (E:XK),JQ k (A.deeper<|envOfC qual (YG st) s.heap.objs.size f cW)->sp vs H Q E->
   ∃t,gS (iP (fM P w) P w K mg base N qual (YG st) f cW A outer s H E) (Zl st) t/\t { nx:=λ_ H'=>Q .non H',rt:=Q } (start N vs) H) (len:∀vs H Q E,sp vs H Q E->vs.length=ps.length:=by intro _ _ _ _ h;cases h;subst_vars;rfl):Gd P w K mg (fM P w) (k+1) x qual st ps sp:=λF=>F.okX Dr len λ_ _ _ _ H _ Q E=>hbody H Q E
end
theorem fx{D:Ja}(h:∀v:TS,v=u->sP t v D σ H):sP t u D σ H:=h u Z
section
variable (K:W.Frag){X:Cx}{a b e:Expr}{ta tb te:TE}{pos p bD bj:Pos}
theorem eR(ha:PE X a ta)(hb:PE X b tb)(hK:X.K=K:=by rfl)(hs:YHM b:=by exactλ_ _=>rfl):PE X (.Subscript a b pos)<|kH (oS K) ta tb:=XY (qS K hK) ha hb hs
theorem fB(ha:PE X a ta)(hb:PE X b tb)(hK:X.K=K:=by rfl)(hs:YHM b:=by exactλ_ _=>rfl):PE X (.Subscript a b pos)<|kH (yY K) ta tb:=XY (YNF K hK) ha hb hs
theorem fL(hm:X.mg "len"=none)(ha:PE X e te)(hK:X.K=K:=by rfl)(hg:Gl X "len":=by rfl)(he:starEach [e] X.env=[(false,eval e X.env)]:=by rfl):PE X (.Call (.Name "len" p) [e] [] pos)<|tCB (λxs H Q=>∃p ys,xs=[.ref p]/\(aX K H p ys\/cy K H p ys)/\Q (.int ys.length) H)<|mn te lj:=Yo (YFy K hK) hg hm YPV (YI ha Yp he) (by decide) (by decide) he rfl
theorem fX(ho:PE X a ta)(ha:PE X e te)(hK:X.K=K:=by rfl)(gZ:attributeBase a "append" X.env (eval a X.env)=eval a X.env:=by rfl)(g8:(bD.endLine==bj.line)=true:=by rfl)(he:starEach [e] X.env=[(false,eval e X.env)]:=by rfl)
  (mX:((backTo bj<|starEach [e] X.env).all (λx=>!x.1)&&(backToKw bj<|keywordEach [] X.env).all (λx=>x.1.isSome)
   && decide ([e].length+([]:J Keyword).length+(if ([]:J Keyword).isEmpty then 0 else 1)<30))=true:=by rfl):PE X (.Call (.Attribute a "append" bD) [e] [] bj)<|tBM K "list" YHQ ta<|mn te lj:=A3 K hK YPG PySem.F.slot_list_append PySem.F.type_list_append YDX ho (YI ha Yp he) gZ mX g8 he rfl
end
section
variable {X:Cx}{ps:J av}{sc:Scope}{pos:Pos}
theorem fz(i:Nat)(Dr:YJ X.N ps sc)(hi:X.N[i]?=some x:=by rfl)(U:r_ X.env.scope x:=by first|exact Or.inl rfl|exact Or.inr rfl)(hf:X.fn x=true\/X.env.scope.names.lookup x=some .local:=by first|exact .inl rfl|exact .inr rfl|assumption):PG X (.Name x pos)<|Yh i:=Z8 Dr.nd hi U hf
theorem fP(hi:PI X tg iter wi)(hg:PG X tg g)(hb:gS X body tb)(hp:PassesOwn (model X.prog X.w) X.A X.env X.xe:=by exact PassesOwn.never)(hc:X.calm=true:=by rfl)
  (hs:∀x,foldedSetIterable iter X.env x=pure x:=by intro _;rfl):PS X (.For tg iter body [] pos)<|B7 wi g tb:=AM hp hc hi hg hb hs
theorem bB(ha:PE X e te)(hs:starEach [e] X.env=[(false,eval e X.env)]:=by rfl):PA X [e]<|mn te lj:=YI ha Yp hs
theorem vx(hk:sc.kind=.function:=by rfl)(hn:∀y∈sc.names,y.2≠.cell/\y.2≠.free:=by decide+kernel)(hl:∀y∈sc.names,y.2=.local->sc.names.lookup y.1=some .local:=by decide+kernel)(hlen:ρ.length=N.length:=by rfl)(hρ:∀o∈ρ,o=none:=by simp):ZJ X N ρ sc []:=ZJ.plain hk hn hl hlen hρ
end
inductive D where
 |non|bl (b:Bool)|int (i:Int)|str (x:Str)|lst (xs:List D)|tup (xs:List D)|oth
mutual
def eS:D->D->Bool
 |.non,.non=>true
 |.bl a,.bl b=>a==b
 |.bl a,.int b=>(if a then (1:Int) else 0)==b
 |.int a,.bl b=>a==(if b then (1:Int) else 0)
 |.int a,.int b=>a==b
 |.str a,.str b=>a==b
 |.lst xs,.lst ys=>gL xs ys
 |.tup xs,.tup ys=>gL xs ys
 |_,_=>false
def gL:J D->J D->Bool
 |[],[]=>true
 |x::xs,y::ys=>eS x y&&gL xs ys
 |_,_=>false
end
mutual
def D.dep:D->Nat
 |.lst xs=>kr xs+1
 |.tup xs=>kr xs+1
 |_=>0
def kr:J D->Nat
 |[]=>0
 |x::xs=>max x.dep<|kr xs
end
mutual
def ci(H:L):V->D->Prop
 |v,.non=>v=.non
 |v,.bl b=>v=.bl b
 |v,.int i=>v=.int i
 |v,.str x=>v=.str x
 |v,.lst ds=>∃a xs,v=.ref a/\Rd H a (.lst xs)/\YX H xs ds
 |v,.tup ds=>∃a xs,v=.ref a/\H a=some (.tup xs)/\YX H xs ds
 |v,.oth=>∃a kvs,v=.ref a/\H a=some (.dK kvs)
def YX(H:L):J V->J D->Prop
 |[],[]=>True
 |v::vs,d::ds=>ci H v d/\YX H vs ds
 |_,_=>False
end
mutual
def D.ok:D->Bool
 |.lst xs=>iF xs
 |.tup xs=>iF xs
 |.oth=>false
 |_=>true
def iF:J D->Bool
 |[]=>true
 |x::xs=>x.ok&&iF xs
end
theorem B8:∀{xs:J D}{d:D},iF xs=true->d∈xs->d.ok=true
 |x::xs,d,h,hd=>by
  unfold iF at h;rw[YOl]at h;rcases YOj.mp hd with rfl|hd
  exact h.1;exact B8 h.2 hd
theorem YJs:∀{xs:J D},(∀d∈xs,d.ok=true)->iF xs=true
 |[],_=>by unfold iF;rfl
 |x::xs,h=>by unfold iF;rw[h x YOZ,YJs λd hd=>h d<|YOV _ hd];rfl
theorem YHT:∀{xs:J D}{d:D},d∈xs->d.dep<=kr xs
 |x::xs,d,h=>by
  unfold kr;rcases YOj.mp h with rfl|h
  exact Nat.le_max_left _ _;exact YO1 (YHT h) (Nat.le_max_right _ _)
mutual
theorem YE6:∀d:D,d.ok=true->eS d d=true
 |.non,_=>by unfold eS;rfl
 |.bl b,_=>by unfold eS;exact beq_self_eq_true b
 |.int i,_=>by unfold eS;exact beq_self_eq_true i
 |.str x,_=>by unfold eS;exact beq_self_eq_true x
 |.lst xs,h=>by unfold eS;unfold D.ok at h;exact YDe xs h
 |.tup xs,h=>by unfold eS;unfold D.ok at h;exact YDe xs h
 |.oth,h=>by unfold D.ok at h;cases h
theorem YDe:∀ds:J D,iF ds=true->gL ds ds=true
 |[],_=>by unfold gL;rfl
 |d::ds,h=>by
  unfold iF at h;rw[YOl]at h;unfold gL;rw[YE6 d h.1,YDe ds h.2];rfl
end
theorem mF(xs ys:J D):eS (.lst xs) (.lst ys)=gL xs ys:=by unfold eS;rfl
theorem YKi(xs ys:J D):eS (.tup xs) (.tup ys)=gL xs ys:=by unfold eS;rfl
theorem YE7:∀{xs ys:J D},xs.length≠ys.length->gL xs ys=false
 |[],[],h=>absurd Z h
 |[],_::_,_=>by unfold gL;rfl
 |_::_,[],_=>by unfold gL;rfl
 |x::xs,y::ys,h=>by
  unfold gL;rw[YE7 (xs:=xs) (ys:=ys) λe=>h (by rw[YOx,YOx,e]),Bool.and_false]
theorem YE8:∀{xs ys:J D},xs.length=ys.length->gL xs ys=(List.range xs.length).all λj=>eS (xs.getD j .non)<|ys.getD j .non
 |[],[],_=>by unfold gL;rfl
 |[],_::_,h=>by cases h
 |_::_,[],h=>by cases h
 |x::xs,y::ys,h=>by
  unfold gL;rw[YE8 (xs:=xs) (ys:=ys)<|Nat.succ.inj h,YOx,List.range_succ_eq_map,YQA,List.all_map];rfl
section
variable {H H':L}
theorem YX.len:∀{xs:J V}{ds:J D},YX H xs ds->xs.length=ds.length
 |[],[],_=>rfl
 |[],_::_,h=>by unfold YX at h;exact h.elim
 |_::_,[],h=>by unfold YX at h;exact h.elim
 |v::vs,d::ds,h=>by
  unfold YX at h;rw[YOx,YOx,YX.len h.2]
theorem YX.get:∀{xs:J V}{ds:J D}{i:Nat}{v:V},YX H xs ds->xs[i]?=some v->∃d,ds[i]?=some d/\ci H v d
 |[],_,i,v,_,e=>by simp at e
 |_::_,[],_,_,h,_=>by unfold YX at h;exact h.elim
 |x::xs,d::ds,0,v,h,e=>by
  unfold YX at h;simp at e;subst e;exact⟨d,Z,h.1⟩
 |x::xs,d::ds,i+1,v,h,e=>by
  unfold YX at h;exact YX.get (i:=i) h.2 (by simpa using e)
theorem YX.getD:∀{xs:J V}{ds:J D}{i:Nat}{d:D},YX H xs ds->ds[i]?=some d->∃v,xs[i]?=some v/\ci H v d
 |_,[],i,v,_,e=>by simp at e
 |[],_::_,_,_,h,_=>by unfold YX at h;exact h.elim
 |x::xs,d::ds,0,v,h,e=>by
  unfold YX at h;simp at e;subst e;exact⟨x,Z,h.1⟩
 |x::xs,d::ds,i+1,v,h,e=>by
  unfold YX at h;exact YX.getD (i:=i) h.2 (by simpa using e)
theorem YX.nil:YX H [] []:=by unfold YX;trivial
theorem YX.cons(h:ci H v d)(hs:YX H vs ds):YX H (v::vs)<|d::ds:=by unfold YX;exact⟨h,hs⟩
theorem YX.append:∀{xs ys:J V}{ds es:J D},YX H xs ds->YX H ys es->YX H (xs++ys) (ds++es)
 |[],_,[],_,_,h=>h
 |[],_,_::_,_,h,_=>by unfold YX at h;exact h.elim
 |_::_,_,[],_,h,_=>by unfold YX at h;exact h.elim
 |x::xs,ys,d::ds,es,h,h2=>by
  unfold YX at h;exact .cons h.1<|YX.append h.2 h2
theorem YX.of_all:∀{xs:J V}{ds:J D},xs.length=ds.length->(∀(i:Nat) (v:V) (d:D),xs[i]?=some v->ds[i]?=some d->ci H v d)->YX H xs ds
 |[],[],_,_=>.nil
 |[],_::_,h,_=>by cases h
 |_::_,[],h,_=>by cases h
 |x::xs,d::ds,h,k=>.cons (k 0 x d Z rfl)<|YX.of_all (Nat.succ.inj h) λi v e h1 h2=>k (i+1) v e (by simpa using h1) (by simpa using h2)
theorem ci.lst(h:Rd H a<|.lst xs)(hs:YX H xs ds):ci H (.ref a)<|.lst ds:=by unfold ci;exact⟨a,xs,Z,h,hs⟩
theorem ci.tup(h:H a=some (.tup xs))(hs:YX H xs ds):ci H (.ref a)<|.tup ds:=by unfold ci;exact⟨a,xs,Z,h,hs⟩
theorem ci.int(i:Int):ci H (.int i)<|.int i:=by unfold ci;rfl
theorem ci.str(x:av):ci H (.str x)<|.str x:=by unfold ci;rfl
theorem ci.to_lst(h:ci H v<|.lst ds):∃a xs,v=.ref a/\Rd H a (.lst xs)/\YX H xs ds:=by unfold ci at h;exact h
theorem ci.to_tup(h:ci H v<|.tup ds):∃a xs,v=.ref a/\H a=some (.tup xs)/\YX H xs ds:=by unfold ci at h;exact h
theorem ci.to_int(h:ci H v<|.int i):v=.int i:=by unfold ci at h;exact h
theorem ci.to_str(h:ci H v<|.str i):v=.str i:=by unfold ci at h;exact h
theorem YX.ints:∀(ns:J Int),YX H (ns.map V.int)<|ns.map D.int
 |[]=>.nil
 |n::ns=>.cons (.int n)<|YX.ints ns
theorem YX.strs:∀(ns:J av),YX H (ns.map V.str)<|ns.map D.str
 |[]=>.nil
 |n::ns=>.cons (.str n)<|YX.strs ns
theorem YF.rd(e:YF H H')(h:Rd H a u):Rd H' a u:=by
 rcases h with h|⟨o,h⟩
 exact .inl<|e _ _ h;exact .inr ⟨o,e _ _ h⟩
theorem Rd.inj(h:Rd H a<|.lst xs)(h':Rd H a<|.lst ys):xs=ys:=by
 rcases h with h|⟨o,h⟩ <;> rcases h' with h'|⟨o',h'⟩ <;> rw[h]at h' <;> cases h' <;> rfl
mutual
theorem ci.same(e:YF H H'):∀{v:V}{d:D},ci H v d->ci H' v d
 |_,.non,h=>by unfold ci at h ⊢;exact h
 |_,.bl _,h=>by unfold ci at h ⊢;exact h
 |_,.int _,h=>by unfold ci at h ⊢;exact h
 |_,.str _,h=>by unfold ci at h ⊢;exact h
 |_,.lst ds,h=>by
  unfold ci at h ⊢;obtain⟨a,xs,R,e2,e3⟩:=h;exact⟨a,xs,R,e.rd e2,YX.same e e3⟩
 |_,.tup ds,h=>by
  unfold ci at h ⊢;obtain⟨a,xs,R,e2,e3⟩:=h;exact⟨a,xs,R,e _ _ e2,YX.same e e3⟩
 |_,.oth,h=>by
  unfold ci at h ⊢;obtain⟨a,kvs,R,e2⟩:=h;exact⟨a,kvs,R,e _ _ e2⟩
theorem YX.same(e:YF H H'):∀{vs:J V}{ds:J D},YX H vs ds->YX H' vs ds
 |[],[],h=>.nil
 |[],_::_,h=>by unfold YX at h;exact h.elim
 |_::_,[],h=>by unfold YX at h;exact h.elim
 |v::vs,d::ds,h=>by
  unfold YX at h;exact .cons (ci.same e h.1)<|YX.same e h.2
end
end
section
variable {X:Cx}{O:J (al×Obj)}{σ:St}{H:L}{s:ar}
mutual
theorem ci.uniq:∀{v:V}{d d':D},ci H v d->ci H v d'->d=d'
 |v,.non,d',h,h'=>by
  unfold ci at h;subst h;cases d' with
  |non=>rfl
  |lst es=>unfold ci at h';obtain⟨_,_,z,_⟩:=h';cases z
  |tup es=>unfold ci at h';obtain⟨_,_,z,_⟩:=h';cases z
  |oth=>unfold ci at h';obtain⟨_,_,z,_⟩:=h';cases z
  |_=>unfold ci at h';cases h'
 |v,.bl b,d',h,h'=>by
  unfold ci at h;subst h;cases d' with
  |bl c=>unfold ci at h';cases h';rfl
  |lst es=>unfold ci at h';obtain⟨_,_,z,_⟩:=h';cases z
  |tup es=>unfold ci at h';obtain⟨_,_,z,_⟩:=h';cases z
  |oth=>unfold ci at h';obtain⟨_,_,z,_⟩:=h';cases z
  |_=>unfold ci at h';cases h'
 |v,.int b,d',h,h'=>by
  unfold ci at h;subst h;cases d' with
  |int c=>unfold ci at h';cases h';rfl
  |lst es=>unfold ci at h';obtain⟨_,_,z,_⟩:=h';cases z
  |tup es=>unfold ci at h';obtain⟨_,_,z,_⟩:=h';cases z
  |oth=>unfold ci at h';obtain⟨_,_,z,_⟩:=h';cases z
  |_=>unfold ci at h';cases h'
 |v,.str b,d',h,h'=>by
  unfold ci at h;subst h;cases d' with
  |str c=>unfold ci at h';cases h';rfl
  |lst es=>unfold ci at h';obtain⟨_,_,z,_⟩:=h';cases z
  |tup es=>unfold ci at h';obtain⟨_,_,z,_⟩:=h';cases z
  |oth=>unfold ci at h';obtain⟨_,_,z,_⟩:=h';cases z
  |_=>unfold ci at h';cases h'
 |v,.lst ds,d',h,h'=>by
  obtain⟨a,xs,rfl,e2,e3⟩:=h.to_lst;cases d' with
  |lst es=>
   obtain⟨b,ys,z,f2,f3⟩:=h'.to_lst;cases z;have:=e2.inj f2;subst this;rw[YX.uniq e3 f3]
  |tup es=>
   obtain⟨b,ys,z,f2,f3⟩:=h'.to_tup;cases z;rcases e2 with e2|⟨o,e2⟩ <;> rw[e2]at f2 <;> cases f2
  |oth=>
   unfold ci at h';obtain⟨b,ys,z,f2⟩:=h';cases z;rcases e2 with e2|⟨o,e2⟩ <;> rw[e2]at f2 <;> cases f2
  |_=>unfold ci at h';cases h'
 |v,.tup ds,d',h,h'=>by
  obtain⟨a,xs,rfl,e2,e3⟩:=h.to_tup;cases d' with
  |tup es=>
   obtain⟨b,ys,z,f2,f3⟩:=h'.to_tup;cases z;rw[e2]at f2;cases f2;rw[YX.uniq e3 f3]
  |lst es=>
   obtain⟨b,ys,z,f2,f3⟩:=h'.to_lst;cases z;rcases f2 with f2|⟨o,f2⟩ <;> rw[e2]at f2 <;> cases f2
  |oth=>
   unfold ci at h';obtain⟨b,ys,z,f2⟩:=h';cases z;rw[e2]at f2;cases f2
  |_=>unfold ci at h';cases h'
 |v,.oth,d',h,h'=>by
  unfold ci at h;obtain⟨a,kvs,rfl,e2⟩:=h;cases d' with
  |oth=>rfl
  |lst es=>
   obtain⟨b,ys,z,f2,f3⟩:=h'.to_lst;cases z;rcases f2 with f2|⟨o,f2⟩ <;> rw[e2]at f2 <;> cases f2
  |tup es=>
   obtain⟨b,ys,z,f2,f3⟩:=h'.to_tup;cases z;rw[e2]at f2;cases f2
  |_=>unfold ci at h';cases h'
theorem YX.uniq:∀{vs:J V}{ds es:J D},YX H vs ds->YX H vs es->ds=es
 |[],[],[],_,_=>rfl
 |[],_::_,_,h,_=>by unfold YX at h;exact h.elim
 |[],_,_::_,_,h=>by unfold YX at h;exact h.elim
 |_::_,[],_,h,_=>by unfold YX at h;exact h.elim
 |_::_,_,[],_,h=>by unfold YX at h;exact h.elim
 |v::vs,d::ds,e::es,h,h'=>by
  unfold YX at h h';rw[ci.uniq h.1 h'.1,YX.uniq h.2 h'.2]
end
def A0:D->String
 |.non=>"NoneType"
 |.bl _=>"bool"
 |.int _=>"int"
 |.str _=>"str"
 |.lst _=>"list"
 |.tup _=>"tuple"
 |.oth=>"dict"
theorem ci.ty{K:W.Frag}:∀{v:V}{d:D},ci H v d->iX K H v (.type<|A0 d)
 |_,.non,h=>by unfold ci at h;subst h;exact .non
 |_,.bl b,h=>by unfold ci at h;subst h;exact .bl b
 |_,.int b,h=>by unfold ci at h;subst h;exact .int b
 |_,.str b,h=>by unfold ci at h;subst h;exact .str b
 |_,.lst ds,h=>by
  obtain⟨a,xs,rfl,e2|⟨o,e2⟩,_⟩:=h.to_lst;exact .lst e2;exact .frz e2
 |_,.tup ds,h=>by
  obtain⟨a,xs,rfl,e2,_⟩:=h.to_tup;exact .tup e2
 |_,.oth,h=>by
  unfold ci at h;obtain⟨a,kvs,rfl,e2⟩:=h;exact .dK e2
theorem YKj{ds:J D}{i:Nat}{d:D}(h:ds[i]?=some d):ds.getD i .non=d:=by
 rw[List.getD_eq_getElem?_getD,h];rfl
structure Cmp(A:Around)(s:Shared)(x y:Value)(b:Bool):Prop where
 eq:SeqAt.EqAt A s x y b
 rc:SeqAt.RcAt A s x y b
 ne:SeqAt.RcNeAt A s x y<|!b
theorem YKk{A:Around}{xs ys:J V}{ds es:J D}{its b_:J ai}(h1:YX H xs ds)(h2:YX H ys es)(r1:Yt xs its)(r2:Yt ys b_)
  (ih:∀(d d':D) (v u:V) (x y:ai),d∈ds->d'∈es->ci H v d->ci H u d'->Yx v x->Yx u y->SeqAt.EqAt A s x y (eS d d')):
  ∀j (q1:j<its.toArray.size) (q2:j<b_.toArray.size),SeqAt.EqAt A s its.toArray[j] b_.toArray[j]<|eS (ds.getD j .non)<|es.getD j .non:=by
 intro j q1 q2;have l1:=r1.length;have l2:=r2.length;have Qa:j<xs.length:=by rw[l1];simpa using q1
 have Qc:j<ys.length:=by rw[l2];simpa using q2
 obtain⟨d,hd,den⟩:=h1.get (i:=j)<|YOW Qa;obtain⟨d',hd',yu⟩:=h2.get (i:=j)<|YOW Qc;obtain⟨u,hu,ru⟩:=r1.get<|YOW Qa;obtain⟨u',hu',jM⟩:=r2.get<|YOW Qc;rw[YKj hd,YKj hd'];have R:its.toArray[j]=u:=by
  have:its.toArray[j]?=some u:=by simpa using hu
  rw[YP2 q1]at this;exact YO3 this
 have e2:b_.toArray[j]=u':=by
  have:b_.toArray[j]?=some u':=by simpa using hu'
  rw[YP2 q2]at this;exact YO3 this
 rw[R,e2];exact ih d d' _ _ _ _ (YOc hd) (YOc hd') den yu ru jM
theorem YBd(hk:k=eS d d')(hok:d.ok=true)(h1:ci H (.ref a) d)(h2:ci H (.ref b) d')(rc:SeqAt.RcAt A s (.ref a) (.ref b) k)(ne:SeqAt.RcNeAt A s (.ref a) (.ref b)<|!k):Cmp A s (.ref a) (.ref b)<|eS d d':=by
 subst hk;refine⟨?_,rc,ne⟩;by_cases hab:a=b;subst hab;have:=h1.uniq h2;subst this;rw[YE6 _ hok];exact .same _;exact .of_refs hab rc
theorem ll(I:aW X O σ H s):∀(n:Nat) (A:Around) (d d':D) (v u:V) (x y:ai),d.ok=true->d'.ok=true->d.dep<=n->A.units+n<cLine->ci H v d->ci H u d'->Yx v x->Yx u y->Cmp A s x y (eS d d'):=by
 intro n
 induction n with
 |zero=>
  intro A d d' v u x y hok hok' hn hu h h' r r';have hu':A.units<cLine:=by lia
  cases d with
  |lst ds=>unfold D.dep at hn;lia
  |tup ds=>unfold D.dep at hn;lia
  |oth=>unfold D.ok at hok;cases hok
  |non=>
   unfold ci at h;subst h;cases r;cases d' with
   |non=>unfold ci at h';subst h';cases r';unfold eS;exact⟨.same _,.none_none,.none_none⟩
   |bl b=>unfold ci at h';subst h';cases r';unfold eS;exact⟨.none_bool _,.none_bool _,.none_bool _⟩
   |int b=>unfold ci at h';subst h';obtain⟨t,rfl⟩:=r';unfold eS;exact⟨.none_int _ _,.none_int _ _,.none_int _ _⟩
   |str b=>unfold ci at h';subst h';obtain⟨t,rfl⟩:=r';unfold eS;exact⟨.none_str _ _,.none_str _ _,.none_str _ _⟩
   |lst ds=>obtain⟨a,xs,rfl,e2,_⟩:=h'.to_lst;cases r';obtain⟨_,_,p,_⟩:=I.list<|.inl e2;unfold eS;exact⟨.none_list p.isList hu',.none_list p.isList hu',.none_list p.isList hu'⟩
   |tup ds=>obtain⟨a,xs,rfl,e2,_⟩:=h'.to_tup;cases r';obtain⟨_,_,p,_⟩:=I.tuple<|.inl<|.inl e2;unfold eS;exact⟨.none_tuple p hu',.none_tuple p hu',.none_tuple p hu'⟩
   |oth=>unfold D.ok at hok';cases hok'
  |bl c=>
   unfold ci at h;subst h;cases r;cases d' with
   |non=>unfold ci at h';subst h';cases r';unfold eS;exact⟨.bool_none _,.bool_none _,.bool_none _⟩
   |bl b=>unfold ci at h';subst h';cases r';unfold eS;exact⟨.bool_bool _ _,.bool_bool _ _,.bool_bool _ _⟩
   |int b=>unfold ci at h';subst h';obtain⟨t,rfl⟩:=r';unfold eS;exact⟨.bool_int _ _ _,.bool_int _ _ _,.bool_int _ _ _⟩
   |str b=>unfold ci at h';subst h';obtain⟨t,rfl⟩:=r';unfold eS;exact⟨.bool_str _ _ _,.bool_str _ _ _,.bool_str _ _ _⟩
   |lst ds=>obtain⟨a,xs,rfl,e2,_⟩:=h'.to_lst;cases r';obtain⟨_,_,p,_⟩:=I.list<|.inl e2;unfold eS;exact⟨.bool_list _ p.isList hu',.bool_list _ p.isList hu',.bool_list _ p.isList hu'⟩
   |tup ds=>obtain⟨a,xs,rfl,e2,_⟩:=h'.to_tup;cases r';obtain⟨_,_,p,_⟩:=I.tuple<|.inl<|.inl e2;unfold eS;exact⟨.bool_tuple _ p hu',.bool_tuple _ p hu',.bool_tuple _ p hu'⟩
   |oth=>unfold D.ok at hok';cases hok'
  |int c=>
   unfold ci at h;subst h;obtain⟨t,rfl⟩:=r;cases d' with
   |non=>unfold ci at h';subst h';cases r';unfold eS;exact⟨.int_none _ _,.int_none _ _,.int_none _ _⟩
   |bl b=>unfold ci at h';subst h';cases r';unfold eS;exact⟨.int_bool _ _ _,.int_bool _ _ _,.int_bool _ _ _⟩
   |int b=>unfold ci at h';subst h';obtain⟨t,rfl⟩:=r';unfold eS;exact⟨.int_int _ _ _ _,.int_int _ _ _ _,.int_int _ _ _ _⟩
   |str b=>unfold ci at h';subst h';obtain⟨t,rfl⟩:=r';unfold eS;exact⟨.int_str _ _ _ _,.int_str _ _ _ _,.int_str _ _ _ _⟩
   |lst ds=>obtain⟨a,xs,rfl,e2,_⟩:=h'.to_lst;cases r';obtain⟨_,_,p,_⟩:=I.list<|.inl e2;unfold eS;exact⟨.int_list _ _ p.isList hu',.int_list _ _ p.isList hu',.int_list _ _ p.isList hu'⟩
   |tup ds=>obtain⟨a,xs,rfl,e2,_⟩:=h'.to_tup;cases r';obtain⟨_,_,p,_⟩:=I.tuple<|.inl<|.inl e2;unfold eS;exact⟨.int_tuple _ _ p hu',.int_tuple _ _ p hu',.int_tuple _ _ p hu'⟩
   |oth=>unfold D.ok at hok';cases hok'
  |str c=>
   unfold ci at h;subst h;obtain⟨t,rfl⟩:=r;cases d' with
   |non=>unfold ci at h';subst h';cases r';unfold eS;exact⟨.str_none _ _,.str_none _ _,.str_none _ _⟩
   |bl b=>unfold ci at h';subst h';cases r';unfold eS;exact⟨.str_bool _ _ _,.str_bool _ _ _,.str_bool _ _ _⟩
   |int b=>unfold ci at h';subst h';obtain⟨t,rfl⟩:=r';unfold eS;exact⟨.str_int _ _ _ _,.str_int _ _ _ _,.str_int _ _ _ _⟩
   |str b=>unfold ci at h';subst h';obtain⟨t,rfl⟩:=r';unfold eS;exact⟨.str_str _ _ _ _,.str_str _ _ _ _,.str_str _ _ _ _⟩
   |lst ds=>obtain⟨a,xs,rfl,e2,_⟩:=h'.to_lst;cases r';obtain⟨_,_,p,_⟩:=I.list<|.inl e2;unfold eS;exact⟨.str_list _ _ p.isList hu',.str_list _ _ p.isList hu',.str_list _ _ p.isList hu'⟩
   |tup ds=>obtain⟨a,xs,rfl,e2,_⟩:=h'.to_tup;cases r';obtain⟨_,_,p,_⟩:=I.tuple<|.inl<|.inl e2;unfold eS;exact⟨.str_tuple _ _ p hu',.str_tuple _ _ p hu',.str_tuple _ _ p hu'⟩
   |oth=>unfold D.ok at hok';cases hok'
 |succ n ih=>
  intro A d d' v u x y hok hok' hn hu h h' r r';have hu':A.units<cLine:=by lia
  have Do:A.in1.units+n<cLine:=by show A.units+1+n<cLine;lia
  cases d with
  |lst ds=>
   have hn':∀d∈ds,d.dep<=n:=λd hd=>by
    have h1:=YHT hd;unfold D.dep at hn;lia
   obtain⟨a,xs,rfl,e2,e3⟩:=h.to_lst;cases r;obtain⟨its,r1,p,_⟩:=I.list<|.inl e2;cases d' with
   |oth=>unfold D.ok at hok';cases hok'
   |non=>unfold ci at h';subst h';cases r';unfold eS;exact⟨.list_none p.isList hu',.list_none p.isList hu',.list_none p.isList hu'⟩
   |bl b=>unfold ci at h';subst h';cases r';unfold eS;exact⟨.list_bool _ p.isList hu',.list_bool _ p.isList hu',.list_bool _ p.isList hu'⟩
   |int b=>unfold ci at h';subst h';obtain⟨t,rfl⟩:=r';unfold eS;exact⟨.list_int _ _ p.isList hu',.list_int _ _ p.isList hu',.list_int _ _ p.isList hu'⟩
   |str b=>unfold ci at h';subst h';obtain⟨t,rfl⟩:=r';unfold eS;exact⟨.list_str _ _ p.isList hu',.list_str _ _ p.isList hu',.list_str _ _ p.isList hu'⟩
   |tup es=>obtain⟨b,ys,rfl,f2,f3⟩:=h'.to_tup;cases r';obtain⟨_,_,p2,_⟩:=I.tuple<|.inl<|.inl f2;unfold eS;exact⟨.list_tuple p.isList p2 hu',.list_tuple p.isList p2 hu',.list_tuple p.isList p2 hu'⟩
   |lst es=>
    have lX:=hok;have lY:=hok';unfold D.ok at lX lY;obtain⟨b,ys,rfl,f2,f3⟩:=h'.to_lst;cases r';obtain⟨b_,r2,p2,_⟩:=I.list<|.inl f2;have n1:its.toArray.size=ds.length:=by rw[YOp,<-r1.length,e3.len]
    have n2:b_.toArray.size=es.length:=by rw[YOp,<-r2.length,f3.len]
    by_cases hl:ds.length=es.length;have items:=YKk (A:=A.in1) e3 f3 r1 r2 λd d' v u x y hd hd' q1 q2 q3 q4=>(ih A.in1 d d' v u x y (B8 lX hd) (B8 lY hd') (hn' d hd) Do q1 q2 q3 q4).eq;refine YBd (k:=(List.range its.toArray.size).all λj=>eS (ds.getD j .non)<|es.getD j .non) ?_ hok h h' (.lists p.isList p2.isList (by rw[n1,n2,hl]) hu' items) (.lists p.isList p2.isList (by rw[n1,n2,hl]) hu' items);rw[n1,<-YE8 hl,mF];refine YBd (k:=false) ?_ hok h h' (.lists_lengths p.isList p2.isList (by rw[n1,n2];simpa using hl) hu') (.lists_lengths p.isList p2.isList (by rw[n1,n2];simpa using hl) hu');unfold eS;rw[YE7 hl]
  |tup ds=>
   have hn':∀d∈ds,d.dep<=n:=λd hd=>by
    have h1:=YHT hd;unfold D.dep at hn;lia
   obtain⟨a,xs,rfl,e2,e3⟩:=h.to_tup;cases r;obtain⟨its,r1,p,_⟩:=I.tuple<|.inl<|.inl e2;cases d' with
   |oth=>unfold D.ok at hok';cases hok'
   |non=>unfold ci at h';subst h';cases r';unfold eS;exact⟨.tuple_none p hu',.tuple_none p hu',.tuple_none p hu'⟩
   |bl b=>unfold ci at h';subst h';cases r';unfold eS;exact⟨.tuple_bool _ p hu',.tuple_bool _ p hu',.tuple_bool _ p hu'⟩
   |int b=>unfold ci at h';subst h';obtain⟨t,rfl⟩:=r';unfold eS;exact⟨.tuple_int _ _ p hu',.tuple_int _ _ p hu',.tuple_int _ _ p hu'⟩
   |str b=>unfold ci at h';subst h';obtain⟨t,rfl⟩:=r';unfold eS;exact⟨.tuple_str _ _ p hu',.tuple_str _ _ p hu',.tuple_str _ _ p hu'⟩
   |lst es=>obtain⟨b,ys,rfl,f2,f3⟩:=h'.to_lst;cases r';obtain⟨_,_,p2,_⟩:=I.list<|.inl f2;unfold eS;exact⟨.tuple_list p p2.isList hu',.tuple_list p p2.isList hu',.tuple_list p p2.isList hu'⟩
   |tup es=>
    have lX:=hok;have lY:=hok';unfold D.ok at lX lY;obtain⟨b,ys,rfl,f2,f3⟩:=h'.to_tup;cases r';obtain⟨b_,r2,p2,_⟩:=I.tuple<|.inl<|.inl f2;have n1:its.toArray.size=ds.length:=by rw[YOp,<-r1.length,e3.len]
    have n2:b_.toArray.size=es.length:=by rw[YOp,<-r2.length,f3.len]
    have items:=YKk (A:=A.in1) e3 f3 r1 r2 λd d' v u x y hd hd' q1 q2 q3 q4=>(ih A.in1 d d' v u x y (B8 lX hd) (B8 lY hd') (hn' d hd) Do q1 q2 q3 q4).eq;refine YBd (k:=(List.range<|min its.toArray.size b_.toArray.size).all (λj=>eS (ds.getD j .non)<|es.getD j .non)&&its.toArray.size==b_.toArray.size) ?_ hok h h' (.tuples p p2 hu' items) (.tuples p p2 hu' items);rw[n1,n2,YKi];by_cases hl:ds.length=es.length;rw[YE8 hl,<-hl,Nat.min_self,beq_self_eq_true,Bool.and_true];rw[YE7 hl,beq_eq_false_iff_ne.mpr hl,Bool.and_false]
  |oth=>unfold D.ok at hok;cases hok
  |non=>exact ih A .non d' v u x y hok hok' (by unfold D.dep;lia) (by lia) h h' r r'
  |bl b=>exact ih A (.bl b) d' v u x y hok hok' (by unfold D.dep;lia) (by lia) h h' r r'
  |int b=>exact ih A (.int b) d' v u x y hok hok' (by unfold D.dep;lia) (by lia) h h' r r'
  |str b=>exact ih A (.str b) d' v u x y hok hok' (by unfold D.dep;lia) (by lia) h h' r r'
theorem YA0(K:W.Frag)(hK:X.K=K)(hu:X.A.units+64<cLine):fK X (compareOp .Eq) (λx y H Q=>∃d d',ci H x d/\ci H y d'/\d.ok=true/\d'.ok=true/\d.dep<=64/\Q (.bl<|eS d d') H):=by
 subst hK;intro O s σ H x y v u Q I rx ry h;obtain⟨d,d',h1,h2,k1,k2,hd,q⟩:=h;exact(ll I 64 X.A d d' x y v u k1 k2 hd hu h1 h2 rx ry).rc X.prog X.w _ _ ⟨.bl _,H,I,Z,q⟩
theorem YCO(K:W.Frag)(hK:X.K=K)(hu:X.A.units+64<cLine):fK X (compareOp .NotEq) (λx y H Q=>∃d d',ci H x d/\ci H y d'/\d.ok=true/\d'.ok=true/\d.dep<=64/\Q (.bl<|!eS d d') H):=by
 subst hK;intro O s σ H x y v u Q I rx ry h;obtain⟨d,d',h1,h2,k1,k2,hd,q⟩:=h;exact(ll I 64 X.A d d' x y v u k1 k2 hd hu h1 h2 rx ry).ne X.prog X.w _ _ ⟨.bl _,H,I,Z,q⟩
end
section
variable {X:Cx}{O:J (al×Obj)}{σ:St}{H:L}{s:ar}{h':Heap}
theorem aW.turns{t':Nat}{ch:J al}(I:aW X O σ H s)(k:∀b o,b∉ch->s.heap.get? b=some o->h'.get? b=some o)(hf:∀b∈ch,iq X O H b):aW X O σ H { s with heap:=h',toks:=t' }:=by
 have nit:∀b u,H b=some u->b∉ch:=λb u e z=>by rw[(hf b z).1]at e;cases e
 refine I.step (g':=s.gens) (d':=s.drawn) (ch:=ch) (λb hb=>⟨(hf b hb).2.2.2.1,(hf b hb).2.1,(hf b hb).2.2.2.2.1,(hf b hb).2.2.2.2.2⟩) (λb o _ _ hc e _=>k b o hc e) (λb o _ _ hc e _=>⟨o.slots,k b o hc e⟩) (λ_ _ _ _ n=>n)
  (λb o hc e=>⟨o,k b o hc e⟩) (λ_ _ e=>e) (λ_ _ _ e=>e) (λb ps e=>⟨#[],by rw[e];simp⟩) (λm hm=>?_) (λb u e=>?_) I.bare
 obtain⟨o,es,ep,ho,r⟩:=hm;exact⟨o,es,ep,k _ o (λz=>(hf _ z).2.1 rfl) ho,r⟩;refine(I.hok b u e).stay (λc v hc q=>k c v ?_ q) (λ_ q=>q) λ_ _ q=>q;rcases hc with z|z
 rw[z];exact nit b u e;exact nit c _ z
theorem aW.trackT{T:al}{xs:J V}{its:J ai}(I:aW X O σ H s)(new:H T=none)(ht:IsTup s.heap T its.toArray)(rv:Yt xs its)(hz:xs.length<=sizeLine)(hs:∀o,X.s₀.heap.get? T≠some o)(hp:∀p∈X.pn++O,p.1≠T):
  aW X O σ (upd H T<|.tup xs) s:=by
 obtain⟨ot,Qd,hct,nt,hdt⟩:=id ht;have hL:X.env.locals≠T:=λz=>by
  obtain⟨m,⟨o,es,ep,ho,hd',_⟩,_⟩:=I.loc;rw[z,Qd]at ho;cases ho;rw[hdt]at hd';cases hd'
 have hC:∀x c,X.env.cells.lookup x=some c->c≠T:=λx c h1 z=>by
  obtain⟨v,o,ho,hd'⟩:=I.cell x c h1;rw[z,Qd]at ho;cases ho;rw[hdt]at hd';cases hd'
 refine⟨I.ok,I.os,I.bare,?_,I.loc,I.cell,by rw[YB hL];exact I.free,λx c h1=>by rw[YB<|hC x c h1];exact I.freeC x c h1,λp hp'=>?_,λa o ea=>?_,I.len⟩;exact⟨I.base.keep,I.base.slot,λb o q n U=>by rw[YB<|λz=>hs o (by rw[<-z];exact q)];exact I.base.free b o q n U,I.base.there,
  λb xs q=>by have z:=I.base.tups b xs q;rw[YB<|YS z new];exact z,λb ob u q=>by have z:=I.base.frzs b ob u q;rw[YB<|YS z new];exact z,
  λb ps q=>by obtain⟨mo,z⟩:=I.base.tbls b ps q;exact⟨mo,by rw[YB<|YS z new];exact z⟩⟩
 obtain⟨p1,p2,p3⟩:=I.pin p hp';exact⟨p1,by rw[YB<|hp p hp'];exact p2,p3⟩;by_cases ha:a=T;subst ha;rw[YA]at ea;cases ea;exact⟨hz,its,rv,ht⟩;rw[YB ha]at ea;exact(I.hok a o ea).stay (λ_ _ _ q=>q) (λb q=>by rw[YB<|YS q new];exact q) λb xs q=>by rw[YB<|YS q new];exact q
end
def Dj(K:W.Frag)(a:al):It:=
 ⟨λi H=>∃xs x,aX K H a xs/\xs[i]?=some x,λi H v H'=>∃T,H T=none/\v=.ref T/\∀xs,aX K H a xs->∃x,xs[i]?=some x/\H'=upd H T (.tup [.int i,x]),λi H=>∃xs,aX K H a xs/\xs.length<=i⟩
theorem YL1{P:Program}{w:World}{K:W.Frag}{iY:J Expr}{k:Nat}{pos:Pos}(a e it:al):
  kF P w K (.Tuple iY k pos) (Dj K a) [e,it] e (λi h=>(∃old,IsEnum h e it (i:Nat) old)/\h.IsListIter it a i/\e≠it) where
 mem:=by simp
 obj:=λi h st b hb=>by
  obtain⟨⟨old,he⟩,⟨o,eo,c,d⟩,_⟩:=st;rcases YOj.mp hb with rfl|hb
  exact⟨_,he,λv z=>by cases z⟩;have eb:b=it:=by simpa using hb
  subst eb;exact⟨o,eo,λv z=>by rw[d]at z;cases z⟩
 keep:=λi h h' st k=>by
  obtain⟨⟨old,he⟩,Dp,hne⟩:=st;exact⟨⟨old,k e (by simp) _ he⟩,Dp.at λo x=>k it (by simp) o x,hne⟩
 item:=by
  intro X hP hw hK hc i O s σ H E I hf st hg;subst hP hw hK;obtain⟨⟨old,he⟩,Dp,hne⟩:=st;obtain⟨xs,x,hq,U⟩:=hg;obtain⟨its,rv,p,hz⟩:=I.list hq;obtain⟨u,hu,ru⟩:=rv.get U;refine wpAny_pyNext_enum_item he Dp p.isList (x:=u) (by simpa using hu) hne λh' ho hit' hT hsz hk=>?_;refine⟨_,Z,wpAny_letOwnedTupleGo_enum (s:={ s with heap:=h',toks:=s.toks+1 }) ho λh'' he' hs'=>?_⟩;have Dm:e<s.heap.objs.size:=YOs he;have hTe:s.heap.objs.size≠e:=Nat.ne_of_gt Dm;have kk:∀b o,b∉[e,it]->s.heap.get? b=some o->h''.get? b=some o:=λb o hb q=>by
   have h1:b≠e:=λz=>hb (by simp[z]);have h2:b≠it:=λz=>hb (by simp[z]);exact(hs'.2 b h1).trans<|hk b o h1 h2 q
  have I1:aW X O σ H { s with heap:=h'',toks:=s.toks+1 }:=I.turns kk hf;have hT':h''.get? s.heap.objs.size=some { cls:=.type "tuple",data:=.seq #[.int i s.toks,u] }:=(hs'.2 _ hTe).trans hT;have hfr:H s.heap.objs.size=none:=I.hok.fresh<|YOY _;have I2:=I1.trackT (T:=s.heap.objs.size) (xs:=[.int i,x]) (its:=[.int i s.toks,u]) hfr ⟨_,hT',Z,_,Z⟩ (.cons ⟨_,Z⟩<|.cons ru .nil) (by show 2<=sizeLine;rw[sizeLine_eq];decide)
   (λo q=>absurd (YOs q)<|Nat.not_lt.mpr I.sz) λp hp z=>absurd (YOs (I.pin p hp).1) (by rw[z];exact YPW _)
  refine⟨.ref s.heap.objs.size,_,I2,Z,⟨_,hfr,Z,λys hy=>⟨x,by rw[I.list_inj hy hq];exact U,Z⟩⟩,⟨⟨_,by simpa using he'⟩,hit'.at λo q=>(hs'.2 it hne.symm).trans q,hne⟩,λb hb=>?_⟩;obtain⟨o,eo,_⟩:∃o,s.heap.get? b=some o/\True:=by
   rcases YOj.mp hb with rfl|hb
   exact⟨_,he,trivial⟩;have eb:b=it:=by simpa using hb
   subst eb;obtain⟨o,eo,_⟩:=Dp;exact⟨o,eo,trivial⟩
  rw[YB<|YPC<|YOs eo];exact(hf b hb).1
 done:=by
  intro X hP hw hK hc i O s σ H E I hf st hg;subst hP hw hK;obtain⟨⟨old,he⟩,Dp,hne⟩:=st;obtain⟨xs,hq,U⟩:=hg;obtain⟨its,rv,p,hz⟩:=I.list hq;have hl:=rv.length;exact wpAny_pyNext_enum_end (I.ok.hd hc) he Dp p.isList (Array.getElem?_eq_none (by simp;lia)) λh' eb=>⟨Z,I.turns (t':=s.toks) (λb o hb q=>eb b o (λz=>hb (by simp[z])) q) hf⟩
 self:=λ_ _ _ _ _ st h=>by
  obtain⟨⟨old,he⟩,_⟩:=st;exact wpAny_pyIter_enum he h
section
variable {X:Cx}{iY:J Expr}{k:Nat}{iV:Pos}
inductive YNG(K:W.Frag)(Dt:It->L->Prop)(vs:List V)(H1:L):Prop
 |mk (a:_):vs=[.ref a]->(∃xs,Rd H1 a (.lst xs))->Dt (Dj K a) H1->YNG K Dt vs H1
def Cv(K:W.Frag)(ta:TA):TI:=λσ H Dt=>ta σ H λvs H1=>YNG K Dt vs H1
theorem oW(K:W.Frag)(hK:X.K=K){a:Expr}{ta:TA}{p pos:Pos}(hg:Gl X "enumerate")(hm:X.mg "enumerate"=none)(ha:PA X [a] ta)(hs:starEach [a] X.env=[(false,eval a X.env)]:=by rfl):
  PI X (.Tuple iY k iV) (.Call (.Name "enumerate" p) [a] [] pos) (Cv K ta):=by
 subst hK;intro O s σ H Dt I h;refine Call_<|vF I hg hm PyProof.Rows.Boot.«enumerate»<|PyProof.Rows.callWith_type1 (cJ (ha pos O s σ H _ I h) λus s1 ⟨vs,H1,I1,r1,q1⟩=>?_) hs rfl;obtain⟨l,rfl,⟨xs,hq⟩,q⟩:=q1;obtain⟨u,rfl,ru⟩:=j2 r1;cases ru;obtain⟨hz,its,n,rv,hl⟩:=(show Y7 X.prog X.w H1 s1.heap l (.lst xs) from hq.ok I1.hok);refine call_enumerate_1 hl λh' he Dp hsz hk=>?_;have I2:aW X O σ H1 { s1 with heap:=h' }:=I1.kept (t':=s1.toks) hk;refine wpAny_pyIter_enum he ?_;refine⟨s1.heap.objs.size+1,[s1.heap.objs.size+1,s1.heap.objs.size],_,_,H1,Z,I2,YL1 l _ _,⟨⟨_,by simpa using he⟩,Dp,Nat.succ_ne_self _⟩,λb hb=>?_,q⟩;rcases YOj.mp hb with rfl|hb
 exact I1.fpOk (YPn _)<|I1.hok.fresh<|YPn _;have eb:b=s1.heap.objs.size:=by simpa using hb
 subst eb;exact I1.fpOk (YOY _)<|I1.hok.fresh<|YOY _
theorem YKl:∀{xs:J V}{us:J ai},xs.length=us.length->(∀(j:Nat) (x:V) (u:ai),xs[j]?=some x->us[j]?=some u->Yx x u)->Yt xs us
 |[],[],_,_=>.nil
 |[],_::_,h,_=>by cases h
 |_::_,[],h,_=>by cases h
 |x::xs,u::us,h,k=>.cons (k 0 x u Z rfl)<|YKl (Nat.succ.inj h) λj y v h1 h2=>k (j+1) y v (by simpa using h1) (by simpa using h2)
theorem YNH{k:c_}{v:ai}(h:xT k v=true):Yx (kV k) v:=by
 rcases Zc h with ⟨i,t,rfl,rfl⟩|⟨x,t,rfl,rfl⟩
 exact⟨t,Z⟩;exact⟨t,Z⟩
end
def YJt(Dq:It)(n:Nat)(H:L)(item:Nat->V->L->Prop):Prop:=∀i H',YF H H'->YL H'->(i<n->Dq.go i H'/\∀x H3,Dq.yld i H' x H3->YF H' H3/\YL H3/\item i x H3)/\Dq.stop n H'
theorem AZ.g{item:Nat->V->Prop}(h:AZ Dq n H item):YJt Dq n H λi x _=>item i x:=λi H' s p=>
 ⟨λhi=>⟨((h i H' s).1 hi).1,λx H3 hy=>by obtain⟨e,it⟩:=((h i H' s).1 hi).2 x H3 hy;subst e;exact⟨YF.refl _,p,it⟩⟩,(h i H' s).2⟩
section
variable {X:Cx}{elt tg iter:Expr}{ifs:J Expr}{scope:Scope}{cl:J (av×al)}{N:J av}{ρ:J (ah Nat)}{pos:Pos}{wi:TI}{g:TG}{tc:TT}{te:TE}
theorem YL2(hc:X.calm=true)(Dr:ZJ X N ρ scope cl)
  (hg:∀C s₀ H₀ ex pn,PG (Zb X N scope cl C s₀ H₀ ex pn) tg g)(ht:∀C s₀ H₀ ex pn,C9 (Zb X N scope cl C s₀ H₀ ex pn) ifs tc)(he:∀C s₀ H₀ ex pn,PE (Zb X N scope cl C s₀ H₀ ex pn) elt te)
  {O:J (al×Obj)}{s2:ar}{σ:St}{H2:L}{it:al}{fp:J al}{tn:Nat->Heap->Prop}{Dq:It}{Q:VK}{RR:ai->al->Result->ar->Prop}(I2:aW X O σ H2 s2)(T:kF X.prog X.w X.K tg Dq fp it tn)(lL:tn 0 s2.heap)(f2:∀b∈fp,iq X O H2 b)
  (q2:∀l,H2 l=none->pj Dq g tc te Q l (k6 ρ σ) H2)
  (fin:∀(l C:al) (s5:ar) (H4:L) (m:av->ah ai),aW X O σ H4 s5->iq X O H4 C->s5.heap.Ns C m->Q (.ref l) H4->RR (.ref l) C (.ok .next) s5):
  wpAny (model X.prog X.w) X.A (newList []) (λacc s3=>wpAny (model X.prog X.w) X.A (newFunctionEnv scope X.env.globals cl [] X.env.qual none .none<|some X.env) (λcenv s4=>
   codeAny (model X.prog X.w) X.A (.compStart (.ListComp elt [⟨tg,iter,ifs,0⟩] scope pos) 0 (.ref it) acc { cenv with scope:=relabel scope X.env }) (RR acc cenv.locals) s4) X.xe s3) X.xe s2:=by
 obtain⟨W,⟨m0,w0⟩,turn⟩:=q2 _<|I2.hok.fresh<|YOY _;refine wpAny_newObj_type<|wpAny_newFunctionEnv Dr.nocell (by intro y hy;simp at hy) (λh₁ hns₁ hsb₁=>?_) Dr.kind;dsimp only at hns₁ hsb₁ ⊢;have I3:aW X O σ (upd H2 s2.heap.objs.size<|.lst []) { s2 with heap:=s2.heap.push { cls:=.type "list",dict:=none,data:=.seq ([]:J ai).toArray } }:=
  I2.laid (t':=s2.toks) (λb u eo=>YOi _ eo) (YOY _) ⟨by simp,[],0,.nil,YOy _ Z⟩
 generalize jG:({ s2 with heap:=s2.heap.push { cls:=.type "list",dict:=none,data:=.seq ([]:J ai).toArray } }:ar)=s3 at I3;have rM:s2.heap.push { cls:=.type "list",dict:=none,data:=.seq ([]:J ai).toArray }=s3.heap:=by rw[<-jG]
 rw[rM]at hns₁ hsb₁ ⊢;have f3:∀b∈fp,iq X O (upd H2 s2.heap.objs.size<|.lst []) b:=λb hb=>by
  obtain⟨o,eo,_⟩:=T.obj _ _ lL b hb;exact⟨by rw[YB<|YPC<|YOs eo];exact(f2 b hb).1,(f2 b hb).2⟩
 have uF:∀b∈fp,b<s3.heap.objs.size:=λb hb=>by
  obtain⟨o,eo,_⟩:=T.obj _ _ lL b hb;rw[<-rM,Heap.size_push];exact Nat.lt_succ_of_lt<|YOs eo
 have old:∀b o,s3.heap.get? b=some o->h₁.get? b=some o:=λb o eo=>hsb₁.extBut b o (YPC<|YOs eo)<|YOi _ eo;have Ic:aW (Zb X N scope cl s3.heap.objs.size s3 (upd H2 s2.heap.objs.size<|.lst []) fp<|X.pn++O) [] (k6 ρ σ) (upd H2 s2.heap.objs.size<|.lst []) { s2 with heap:=h₁,toks:=s2.toks+([]:J (av×ai)).length }:=
  YIL Dr I3 f3 uF hns₁ old (by rw[<-jG] <;> rfl)
 have iU:∀{pl:J (al×Obj)}{H':L},pl=[]->(∀b∈fp,H' b=none)->∀b∈fp,iq (Zb X N scope cl s3.heap.objs.size s3 (upd H2 s2.heap.objs.size<|.lst []) fp<|X.pn++O) pl H' b:=λ{pl H'} epl hn b hb=>by
  subst epl;refine⟨hn b hb,YPC<|uF b hb,λz=>?_,.inl hb,λx c h1=>(f2 b hb).2.2.2.2.1 x c (Dr.sub x c h1),λp hp=>(f2 b hb).2.2.2.2.2 p (by simpa using hp)⟩;rcases YOj.mp (I3.stkSub b z) with z|z
  exact(f2 b hb).2.1 z;exact(f2 b hb).2.2.1 z
 have uG:tn 0 h₁:=T.keep _ _ _ lL λb hb o eo=>old b o (by rw[<-rM];exact YOi _ eo);have loop:codeAny (model X.prog X.w) X.A (.compLoop (.ListComp elt [⟨tg,iter,ifs,0⟩] scope pos) 0 (.ref it) (.ref s2.heap.objs.size)<|compEnvC scope cl s3.heap.objs.size X.env)
   (RR (.ref s2.heap.objs.size) s3.heap.objs.size) { s2 with heap:=h₁,toks:=s2.toks+([]:J (av×ai)).length }:=by
  refine YGV (λn s'=>∃i ys τ H',aW (Zb X N scope cl s3.heap.objs.size s3 (upd H2 s2.heap.objs.size<|.lst []) fp<|X.pn++O) [] τ H' s'/\tn i s'.heap/\(∀b∈fp,H' b=none)/\W i n ys τ H') ?_ m0
   ⟨0,[],_,_,Ic,uG,λb hb=>(f3 b hb).1,w0⟩
  rintro n s4 ⟨i,ys,τ,H4,I4,st,uH,w4⟩;rcases turn i n ys τ H4 w4 with ⟨stop,qn⟩|⟨go,step⟩
  ·refine cJ (T.done (Zb X N scope cl s3.heap.objs.size s3 (upd H2 s2.heap.objs.size<|.lst []) fp<|X.pn++O) Z rfl Z hc i [] s4 τ H4 _ I4 (iU Z uH) st stop) λr s5 ⟨hr,I5⟩=>?_;subst hr;obtain⟨m5,rN,_⟩:=I5.loc;have mZ:∀b o,s5.heap.get? b=some o->s5.heap.get? b=some o:=λb o eo=>eo;have un:Un (fE X.stack) fp (upd H2 s2.heap.objs.size<|.lst []) H4 s3.heap s5.heap:=
    ⟨λb o eo n1 n2 n3=>I5.base.keep b o eo n1 n2 n3,λb o eo n1 n2 n3=>I5.base.slot b o eo n1 n2 n3,I5.base.free,λb o eo n1=>I5.base.there b o eo n1,I5.base.tups,I5.base.frzs,I5.base.tbls⟩
   have I6:aW X O σ H4 s5:=I3.call' (s':=s5) (ch:=fp) (show s5.os=s3.os from I5.os) un I5.hok I5.bare λb hb=>⟨(f3 b hb).2.2.2.1,(f3 b hb).2.1,(f3 b hb).2.2.2.2.1,(f3 b hb).2.2.2.2.2⟩;have fr:H4 s3.heap.objs.size=none:=I5.free;exact fin _ _ s5 H4 m5 I6 (I3.fpOk (YOY _) fr) rN qn
  refine cJ (T.item (Zb X N scope cl s3.heap.objs.size s3 (upd H2 s2.heap.objs.size<|.lst []) fp<|X.pn++O) Z rfl Z hc i [] s4 τ H4 _ I4 (iU Z uH) st go) λr s5 ⟨u,hr,h5⟩=>?_;subst hr;refine cJ h5 ?_;rintro _ s6 ⟨x,H6,I6,r6,y6,j_,yr⟩;have I6':=I6.pinned (iU Z yr)<|T.obj _ _ j_;have again:∀{s9:ar}{τ9:St}{H9:L}{zs:J V}{m':Nat},aW (Zb X N scope cl s3.heap.objs.size s3 (upd H2 s2.heap.objs.size<|.lst []) fp<|X.pn++O) ([]++AX fp s6.heap) τ9 H9 s9->m'<n->W (i+1) m' zs τ9 H9->
    ∃m,m<n/\∃i ys τ H',aW (Zb X N scope cl s3.heap.objs.size s3 (upd H2 s2.heap.objs.size<|.lst []) fp<|X.pn++O) [] τ H' s9/\tn i s9.heap/\(∀b∈fp,H' b=none)/\W i m ys τ H':=λ{s9 τ9 H9 zs m'} I9 hm w9=>by
   refine⟨m',hm,i+1,zs,τ9,H9,I9.unpinned,T.keep _ _ _ j_ λb hb o eo=>(I9.pin (b,o)<|YOe _<|YOe _<|Jj hb eo).1,λb hb=>?_,w9⟩;obtain⟨o,eo,d⟩:=T.obj _ _ j_ b hb;exact(I9.pin (b,o)<|YOe _<|YOe _<|Jj hb eo).2.1
  refine cJ (hg _ _ _ _ _ _ s6 τ H6 x u _ I6' r6<|step x H6 y6) λ_ s7 ⟨τ7,H7,I7,q7⟩=>?_;refine cJ (ht _ _ _ _ _ _ s7 τ7 H7 _ I7 q7) λok s8 ⟨H8,I8,q8⟩=>?_;cases ok with
  |false=>
   rw[if_neg YOu]at q8 ⊢;obtain⟨m',hm,w9⟩:=q8;exact again I8 hm w9
  |true=>
   rw[if_pos Z]at q8 ⊢;refine cJ (he _ _ _ _ _ _ s8 τ7 H8 _ I8 q8) ?_;rintro y s9 ⟨z,H9,I9,r9,uI,yt,m',hm,w9⟩;refine cJ (YDX _ s9 τ7 H9 (.ref s2.heap.objs.size) [z] (.ref s2.heap.objs.size) [y] (λ_ H'=>H'=upd H9 s2.heap.objs.size (.lst<|ys++[z])) I9 Z (.cons r9 .nil) ⟨_,ys,z,Z,Z,uI,yt,Z⟩) λ_ qp ⟨_,H10,I10,_,e10⟩=>?_;subst e10;exact again I10 hm w9
 exact codeAny_compStart_list loop<|T.self _ 0 _ _ _ uG loop
def Df(i:Nat)(te:TE):TS:=λD σ H=>te σ H λv H1=>D.nx (σ.set i<|some v) H1
theorem YEk{i:Nat}{y:av}{py spos:Pos}(hN:X.N.Nodup)(hi:X.N[i]?=some y)(hy:X.env.scope.names.lookup y=some .local)(hc:X.calm=true)(Dr:ZJ X N ρ scope cl)(hI:PI X tg iter wi)
  (hg:∀C s₀ H₀ ex pn,PG (Zb X N scope cl C s₀ H₀ ex pn) tg g)(ht:∀C s₀ H₀ ex pn,C9 (Zb X N scope cl C s₀ H₀ ex pn) ifs tc)(he:∀C s₀ H₀ ex pn,PE (Zb X N scope cl C s₀ H₀ ex pn) elt te)
  (Wt:swapsWith (.ListComp elt [⟨tg,iter,ifs,0⟩] scope pos) (some<|.Name y py) spos.line X.env=pure true:=by rfl)(hs:∀x,foldedSetIterable iter X.env x=pure x:=by intro _;rfl):
  PS X (.Assign [.Name y py] (.ListComp elt [⟨tg,iter,ifs,0⟩] scope pos) spos) (Df i<|so ρ wi g tc te):=by
 intro O s σ H D I h;rw[exec_Assign_Name_used _ _ _ _ Wt];refine YOh<|wpAny_standAt<|YOh ?_;show wpAny _ X.A (do let _ <-comprehension (.ListComp elt [⟨tg,iter,ifs,0⟩] scope pos) scope X.env _ (newList []) false (eval iter X.env) (some<|assign (.Name y py) X.env)) _ _ s;refine YOh (wpAny_mono (wpAny_comprehension_free (use:=some<|assign (.Name y py) X.env) (Q:=λ_ s'=>SP X O D .next s') Z hs Dr.clos Dr.kind Dr.loc
  (cJ (hI O s σ H _ I h) λv s1 h1=>cJ h1 λitv s2 h2=>?_)) (λ_ s' hq=>YO0<|YO0 hq) λ_ _ e=>e)
 obtain⟨it,fp,tn,Dq,H2,e,I2,T,lL,f2,q2⟩:=h2;subst e;refine YL2 (RR:=λacc C=>compPost (model X.prog X.w) X.A X.xe (some<|assign (.Name y py) X.env) (λ_ s'=>SP X O D .next s') acc C) hc Dr hg ht he I2 T lL f2 q2 λl C s5 H4 m I6 fC hn q=>?_;obtain⟨oC,es,ep,hoC,hdC,hrest⟩:=id hn;have I7:=I6.pinned (fp:=[C]) (λb hb=>by rw[YOT.mp hb];exact fC)<|λb hb=>⟨oC,by rw[YOT.mp hb];exact hoC,λv z=>by rw[hdC]at z;cases z⟩;show wpAny _ X.A (assign (.Name y py) X.env<|.ref l) _ _ s5;refine wpAny_assign_Name<|YCn I7 hN hi (.inl hy) (v:=.ref l) rfl (λs6 I8=>?_)<|.inr hy;have yw:=(I8.pin (C,oC)<|YOe _<|YOe _<|Jj (YOT.mpr rfl) hoC);refine⟨m,⟨oC,es,ep,yw.1,hdC,hrest⟩,λh' hs'=>?_⟩;have fC':∀b∈[C],iq X O H4 b:=λb hb=>by rw[YOT.mp hb];exact fC
 exact⟨_,H4,I8.unpinned.turns (t':=s6.toks) (λb o hb eo=>(hs'.2 b<|λz=>hb<|YOT.mpr z).trans eo) fC',q⟩
end
theorem YIO(h1:x.length<=1000)(h2:-1000<=n)(h3:n<=1000):MulOk x n:=by
 refine⟨?_,λhn _=>?_,λhn _=>?_⟩;rw[Bool.or_eq_false_iff];exact⟨dy (by lia),dy (by lia)⟩;intro hgt;have hn':0<n:=by lia
 have h4:=(Int.ediv_lt_iff_lt_mul hn').mp hgt;have h5:(x.length:Int)*n<=1000*1000:=Int.mul_le_mul (by lia) h3 (by lia) (by lia);lia;show decide (x.length*n.toNat>sizeLine)=false;refine dy ?_;have h5:x.length*n.toNat<=1000*1000:=Nat.mul_le_mul h1 (by lia);rw[sizeLine_eq];lia
theorem YJu:fK X (binaryOp .Mult) (λx y H Q=>∃i n,x=.str i/\y=.int n/\i.length<=1000/\-1000<=n/\n<=1000/\Q (.str<|Txt.mul i n) H):=by
 intro O s σ H x y v u Q I rx ry h;obtain⟨i,n,rfl,rfl,h1,h2,h3,q⟩:=h;obtain⟨t,rfl⟩:=rx;obtain⟨t',rfl⟩:=ry;exact SB.mul (YIO h1 h2 h3) λt' k=>⟨.str _,H,I.tok _,⟨_,Z⟩,q⟩
theorem XZ{α:Type}{xs:J α}{i:Int}(h0:0<=i)(h1:i<xs.length):∃v,f_ xs i=some v/\v∈xs:=by
 have hj:i.toNat<xs.length:=by omega
 have e:((i.toNat:Nat):Int)=i:=by omega
 refine⟨xs[i.toNat],?_,YQC hj⟩;have h:=Y2 (xs:=xs) (j:=i.toNat) (v:=xs[i.toNat]) (by simp[hj]);rw[e]at h;exact h
theorem BG(a b:av):(a++b).length=a.length+b.length:=by
 show(a++b).cps.size=a.cps.size+b.cps.size;exact Array.size_append ..
theorem YNI(ns:J Int)(lo hi:ah Int):∃cs:J Int,ka (ns.map V.int) lo hi=cs.map V.int/\cs.length<=ns.length:=by
 refine⟨(ns.drop<|HT.sIx (ns.map V.int).length 0 lo).take<|HT.sIx (ns.map V.int).length (ns.map V.int).length hi-HT.sIx (ns.map V.int).length 0 lo,?_,?_⟩;unfold ka;rw[List.map_take,List.map_drop];rw[YPK,YPT];omega
theorem js(h1:0<=x)(h2:x<=1000):(-(2^62):Int)<=x/\x<2^62:=⟨Int.le_trans (by decide) h1,Int.lt_of_le_of_lt h2 (by decide)⟩
theorem YJv(h:mh H):YL H:=λa o e=>by
 rcases h a with z|⟨ob,xs,z⟩
 rw[e]at z;cases z;rw[e]at z;cases z;rfl
def YKm:Expr->Bool
 |.Starred _ _=>false
 |_=>true
theorem YL3(h:YKm e=true):starEach (e::es) env=(false,eval e env)::starEach es env:=by
 cases e <;> first|rfl|cases h
theorem Za(ha:PE X e te)(hr:PA X es t)(h:YKm e=true:=by rfl):PA X (e::es)<|mn te t:=YI ha hr<|YL3 h
section
variable {X:Cx}
theorem HT.cat_tup0{prog:Program}{w:World}{A:Around}{E:ai->ar->Prop}{s:ar}{t b:al}{ws:J ai}{Q:ai->ar->Prop}(ht:IsTup s.heap t #[])(hb:IsTup s.heap b ws.toArray)(h1:Q (.ref b) s):wpAny (model prog w) A (binaryOp .Add (.ref t)<|.ref b) Q E s:=by
 obtain⟨⟨cls,dd,data,sl⟩,ho,hc,n,hd⟩:=id ht;obtain⟨⟨uy,mU,data2,mV⟩,jL,hc2,n2,hd2⟩:=id hb;simp only at hc hd hc2 hd2;subst hc hd hc2 hd2;exact concat_meets ⟨_,ho,Z⟩ ⟨_,jL,Z⟩ noFill_tuple_add seq_tuple_add PySem.F.slot_tuple_add PySem.F.entry_tuple_add (PySem.F.args_tuple_add_2 _ _)
   (tuple_addW0 t b #[] ws.toArray n n2 dd mU sl mV Z) ⟨ho,jL,h1⟩
def A8:R2:=λx y H Q=>∃a b xs ys,x=.ref a/\y=.ref b/\H a=some (.tup xs)/\H b=some (.tup ys)/\xs.length+ys.length<=sizeLine/\∀p H',YF H H'->(YL H->YL H')->(H'=H\/H p=none)->H' p=some (.tup<|xs++ys)->Q (.ref p) H'
theorem pS:fK X (binaryOp .Add) A8:=by
 intro O s σ H x y v u Q I rx ry h;obtain⟨a,b,xs,ys,rfl,rfl,ha,hb,hz,q⟩:=h;by_cases U:xs=[];subst U;cases rx;cases ry;obtain⟨its,r1,p1,_⟩:=I.tuple<|cy.of ha;obtain⟨b_,r2,p2,_⟩:=I.tuple<|cy.of hb;cases r1;exact HT.cat_tup0 p1 p2 ⟨.ref b,H,I,Z,q b H (YF.refl _) id (.inl Z) hb⟩;exact oT O s σ H (.ref a) (.ref b) v u Q I rx ry ⟨a,b,xs,ys,Z,Z,cy.of ha,cy.of hb,U,hz,λe=>q a H (YF.refl _) id (.inl Z) (by rw[e,YO6];exact ha),λ_ p hp=>q p _ (YF.upd hp) (λz=>z.upd Z) (.inr hp) YA⟩
end
theorem zt(o:Obj)(u:HO):Y0 (.frz o u)=true:=by
 induction u generalizing o with
 |frz o' w ih=>exact ih o'
 |_=>rfl
def plU:ah HO->ah HO
 |some (.dT _)=>none
 |u=>u
def kQ(H:L):L:=λa=>plU<|H a
theorem wq(h:Y0 u=true):plU (some u)=some u:=by
 cases u with
 |dT k=>cases h
 |_=>rfl
theorem A5(e:H a=some u)(h:Y0 u=true):kQ H a=some u:=by
 unfold kQ;rw[e];exact wq h
theorem YCz(e:H a=none):kQ H a=none:=by
 unfold kQ;rw[e];rfl
theorem YNJ(e:kQ H a=some u):H a=some u/\Y0 u=true:=by
 unfold kQ at e;cases h:H a with
 |none=>rw[h]at e;cases e
 |some v=>
  rw[h]at e;cases v with
  |dT k=>cases e
  |frz o w=>cases e;exact⟨Z,zt _ _⟩
  |_=>cases e;exact⟨Z,Z⟩
theorem YGb(H:L):YL<|kQ H:=λ_ _ e=>(YNJ e).2
theorem YIP(s:YF H0 H)(p:YL H0):YF H0<|kQ H:=λb u e=>A5 (s b u e)<|p b u e
section
variable {X:Cx}{O:J (al×Obj)}{σ:St}{H:L}{s:ar}
theorem aW.dropAll(I:aW X O σ H s):aW X O σ (kQ H) s:=by
 refine⟨I.ok,I.os,I.bare,⟨I.base.keep,I.base.slot,λb o q n U=>YCz<|I.base.free b o q n U,I.base.there,λb xs q=>?_,λb ob u q=>?_,λb ps q=>?_⟩,I.loc,I.cell,YCz I.free,λx c h1=>YCz<|I.freeC x c h1,λp hp'=>?_,λa u ea=>?_,I.len⟩;exact A5 (I.base.tups b xs q) Z;have z:=I.base.frzs b ob u q;unfold kQ;rw[z];rfl;obtain⟨mo,z⟩:=I.base.tbls b ps q;exact⟨mo,A5 z Z⟩;obtain⟨p1,p2,p3⟩:=I.pin p hp';exact⟨p1,YCz p2,p3⟩;exact(I.hok a u (YNJ ea).1).stay (λ_ _ _ e=>e) (λb e=>A5 e Z) λb xs e=>A5 e Z
end
section
variable {X:Cx}{pos:Pos}
def tPl(t:TE):TE:=λσ H Q=>t σ H λv H1=>Q v<|kQ H1
theorem tN{e:Expr}{t:TE}(h:PE X e t):PE X e<|tPl t:=by
 intro O s σ H Q I hw;refine cJ (h O s σ H _ I hw) λv s1 ⟨x,H1,I1,r1,q⟩=>?_;exact⟨x,_,I1.dropAll,r1,q⟩
end
end L2
namespace FR
open PySem L2
structure QSs(X:Cx)(st:List Stmt)(t:TS):Prop where h:gS X st t
structure QS(X:Cx)(st:Stmt)(t:TS):Prop where h:PS X st t
theorem YH{X:Cx}{st:Stmt}{Y1:J Stmt}{t u:TS}(h1:QS X st t)(h2:QSs X Y1 u):QSs X (st::Y1)<|sP t u:=⟨YE h1.h h2.h⟩
theorem ZI(h1:QS X st t):QSs X [st] t:=⟨YD h1.h⟩
structure QE(X:Cx)(e:Expr)(t:TE):Prop where h:PE X e t
structure QA(X:Cx)(es:List Expr)(t:TA):Prop where h:PA X es t
theorem YHU:QA X [] lj:=⟨Yp⟩
theorem xO{i j pos}:QE X (.Constant (.int i) j pos)<|tC<|.int i:=⟨YC⟩
theorem YHV{pos}(h:QA X es t):QE X (.List es pos)<|CF t:=⟨Y6 h.h⟩
theorem Cg(i:Nat)(Dr:YJ X.N ps sc)(he:QE X e te)(hi:X.N[i]?=some x:=by rfl)(U:r_ X.env.scope x:=by first|exact Or.inl rfl|exact Or.inr rfl)(hs:swapsWith e (some<|.Name x gq) pos.line X.env=pure false:=by rfl)(hf:X.fn x=true\/X.env.scope.names.lookup x=some .local:=by first|exact .inl rfl|exact .inr rfl|assumption):
  QS X (.Assign [.Name x gq] e pos) (pV te<|Yh i):=⟨YMc Dr.nd hi U he.h hs hf⟩
theorem gi{q:TS->Prop}(h:∃t,QSs X st t/\q t):∃t,gS X st t/\q t:=let ⟨t,a,b⟩:=h;⟨t,a.h,b⟩
end FR
namespace L2
open PySem PySem.Spec PyProof.Rows
structure Mk0(K:W.Frag)(C:Addr):Prop where
 makes:PySem.W.makesIn K C=true
 init:PySem.W.findIn K (.ref C) "__init__"=some (some<|.builtin "object.__init__")
 kp:PySem.W.keepIn K (.ref C)=true
def tMk0(C:al):TE:=λσ H Q=>∀x B,H x=none->H B=none->B≠x->Q (.ref x) (upd (upd H B<|.own x) x<|.ins C B [])
section
variable {X:Cx}{C:al}{x:av}{p pos:Pos}
open PySem.W in
theorem mM(M:Mk0 X.K C)(I:aW X O σ H s)
  (h:∀x B,H x=none->H B=none->B≠x->Q (.ref x) (L2.upd (L2.upd H B<|.own x) x<|.ins C B [])):
  wpAny (model X.prog X.w) X.A (PySem.call (.ref C) []) (EP X O σ Q) X.xe s:=by
 have hq:=h (s.heap.objs.size+1) s.heap.objs.size (I.hok.fresh<|YPn _) (I.hok.fresh<|YOY _)<|YPC<|YPO _;have I2:=aW.made (C:=C) I;have kin:=I.kIn;obtain⟨hh,g,d,t,os⟩:=s;have Y:=makes_of (M:=model X.prog X.w) kin M.makes;have U:((hh.push emptyDict).push<|instObj C hh.objs.size).get? (hh.objs.size+1)=some (instObj C hh.objs.size):=by heap_get
 have t1:Looks (model X.prog X.w) ((hh.push emptyDict).push<|instObj C hh.objs.size) (typeOf<|.ref<|hh.objs.size+1)<|.ref C:=(Looks.ld U).andThen .now;have t2:Looks (model X.prog X.w) ((hh.push emptyDict).push<|instObj C hh.objs.size) (isInstance (.ref<|hh.objs.size+1)<|.type "object") true:=t1.andThen<|Y.top.keeps λb o e=>YOi _<|YOi _ e;refine wpAny_call<|make_core Y (looks_findIn kin M.init) (λself=>Looks.of_pure<|oi_bind self) (.inr ⟨Z,Z⟩) ?_;refine codeAny_call_builtin oi_plain entry_oi (@check_slot (model X.prog X.w) _ _ _ "object.__init__" "object" "__init__" (.ref<|hh.objs.size+1) [] [] _ oi_kind oi_split t2 (oi_args<|.ref<|hh.objs.size+1) ?_);rw[oi_run];exact YO0<|And.intro rfl ⟨V.ref<|hh.objs.size+1,_,I2,Z,hq⟩
theorem YJw(M:Mk0 X.K C)(hg:Gl X x)(hm:X.mg x=some (.ref C))(hdb:(x==("__debug__":av))=false:=by decide):PE X (.Call (.Name x p) [] [] pos)<|tMk0 C:=by
 intro O s σ H Q I h;refine wpAny_Call_Name_kw<|zn I hg hm ?_ hdb;exact PySem.W.callWith_K0 I.kIn M.kp<|mM M I h
end
structure Y4(P:Program)(w:World)(K:W.Frag)(mg:Str->Option Value)(CX:gE)(k:Nat)(C:Addr)(m:Str)(ps:List Str)(sp:Sp):Prop where
 ok:∃f fd,(∀base,gs P w K mg base CX k f fd ps sp)/\ou K C m f/\kx K fd ps []
structure zd(P:Program)(w:World)(K:W.Frag)(mg:Str->Option Value)(CX:gE)(k:Nat)(C:Addr)(ps:List Str)(sp:Sp):Prop where
 ok:∃f fd,(∀base,gs P w K mg base CX k f fd ps sp)/\Mk K C f/\kx K fd ps []
section
variable {X:Cx}{CX:gE}{k j:Nat}{C:al}{ps:J av}{sp:Sp}{E:XK}{x m:av}{p pos bD:Pos}{e o:Expr}{es:J Expr}{ta:TE}{t:TA}
theorem fS(he:PE X o ta)(c:g9 X.K C)(Ds:Y4 X.prog X.w X.K X.mg CX k C m ps sp)(hr:JQ j X.A)(U:XG CX X E)(ha:PA X (e::es) t)(hj:k<=j:=by decide)
  (hst:starEach (e::es) X.env=(false,eval e X.env)::starEach es X.env:=by rfl)(hpl:(backTo pos<|starEach es X.env).any (·.1)=false:=by rfl)
  (ht:eval (.Call (.Attribute o m bD) (e::es) [] pos) X.env=(do
   let ov <-eval o X.env
   standAt bD.atName
   let (f,first) <-holding [ov] (getMethod ov m pl)
   callWith pos f first (backTo pos<|starEach (e::es) X.env) (backToKw pos<|keywordEach [] X.env)):=by rfl):
  PE X (.Call (.Attribute o m bD) (e::es) [] pos) (YKg C m sp [] E ta t):=by
 obtain⟨f,fd,G,me,b⟩:=Ds.ok;exact oQ he c me (G X.base) (hr.mono hj) b .nil U ha hst hpl ht
theorem ic(he:PE X o ta)(c:g9 X.K C)(Ds:Y4 X.prog X.w X.K X.mg CX k C m ps sp)(hr:JQ j X.A)(U:XG CX X E)(hj:k<=j:=by decide)
  (ht:eval (.Call (.Attribute o m bD) [] [] pos) X.env=(do
   let ov <-eval o X.env
   standAt bD.atName
   let (f,first) <-holding [ov] (getMethod ov m pl)
   callWith pos f first (backTo pos<|starEach [] X.env) (backToKw pos<|keywordEach [] X.env)):=by rfl):
  PE X (.Call (.Attribute o m bD) [] [] pos) (YKg C m sp [] E ta lj):=by
 obtain⟨f,fd,G,me,b⟩:=Ds.ok;exact YMo he c me (G X.base) (hr.mono hj) b .nil U ht
theorem pkU(Ds:zd X.prog X.w X.K X.mg CX k C ps sp)(hr:JQ j X.A)(hm:X.mg x=some (.ref C))(U:XG CX X E)(ha:PA X (e::es) t)(hj:k+1<=j:=by decide)(hg:Gl X x:=by rfl)(hdb:(x==("__debug__":av))=false:=by decide)(he:starEach (e::es) X.env=(false,eval e X.env)::starEach es X.env:=by rfl)(hpl:(backTo pos<|starEach es X.env).any (·.1)=false:=by rfl):
  PE X (.Call (.Name x p) (e::es) [] pos) (ua C sp [] E t):=by
 obtain⟨f,fd,G,M,b⟩:=Ds.ok;exact oR M (G X.base) (hr.mono hj) hg hm b .nil U ha hdb he hpl
end
def A9(i j:Int):Prop:=i.natAbs<2^4000/\j.natAbs<2^4000
theorem YGc(h:i.natAbs<2^4000):Builtin.Int.intBits i<=4000:=by
 unfold Builtin.Int.intBits;by_cases h0:i=0;subst h0;decide;have:=(Nat.log2_lt (by lia)).mpr h;split;lia;lia
theorem rh:fK X (binaryOp .Mult)<|rI A9 λi j=>.int<|i*j:=C7 λ_ _ _ _ _ _ _ hc q=>mul_int q<|PyProof.Rows.mulOk_of_bits (YGc hc.1) (YGc hc.2) (by decide)
theorem oP(K:W.Frag)(hK:X.K=K)(he:PE X e ta)(hb:attributeBase e f X.env (eval e X.env)=eval e X.env):PE X (.Attribute e f pos)<|xR K ta f:=by subst hK;exact y7 he hb
theorem nr(K:W.Frag)(hK:X.K=K)(ha:PE X o ta)(hv:PE X value tv)(hs:swapsWith value (some<|.Attribute o f gq) pos.line X.env=pure false):PS X (.Assign [.Attribute o f gq] value pos)<|x9 K ta tv f:=by subst hK;exact yv ha hv hs
theorem eA(K:W.Frag)(he:PE X e ta)(hK:X.K=K:=by rfl)(hb:attributeBase e f X.env (eval e X.env)=eval e X.env:=by rfl):PE X (.Attribute e f pos)<|xR K ta f:=oP K hK he hb
theorem fO(K:W.Frag)(ha:PE X o ta)(hv:PE X value tv)(hK:X.K=K:=by rfl)(hs:swapsWith value (some<|.Attribute o f gq) pos.line X.env=pure false:=by rfl):PS X (.Assign [.Attribute o f gq] value pos)<|x9 K ta tv f:=nr K hK ha hv hs
def kq(lo c:Int)(n:Nat):It:=⟨λi _=>i<n,λi H x H'=>H'=H/\x=.int (lo+i*c),λi _=>n<=i⟩
theorem YIQ{P:Program}{w:World}{K:W.Frag}{tg:Expr}(it:al)(lo c:Int)(n:Nat):kF P w K tg (kq lo c n) [it] it (λi h=>IsRangeIter h it (lo+(i:Nat)*c) ((n:Int)-(i:Nat)) c) where
 mem:=by simp
 obj:=λi h st b hb=>by
  have e:b=it:=by simpa using hb
  subst e;exact⟨_,st,λv z=>by
   have z':Data.fields _=Data.cell v:=z;cases z'⟩
 keep:=λi h h' st k=>k it (by simp) _ st
 item:=by
  intro X hP hw hK hc i O s σ H E I hf st hg;subst hP hw hK;obtain⟨f0,f1,f2,f3,f4,f5⟩:=hf it (by simp);have W:=Walks.range (prog:=X.prog) (w:=X.w) (I.ok.hd hc) it lo c n;refine W.item i s _ _ hg st λv h' tk hv st' kk=>?_;obtain⟨t,rfl⟩:=hv;have I1:aW X O σ H { s with heap:=h',toks:=tk }:=I.turned (λb o hb e=>kk b o (by simpa using hb) e) f0 f1 f3 f4 f5;exact⟨_,Z,AS (s:={ s with heap:=h',toks:=tk }) (n:="range_iterator") st' Z rfl (by decide) ⟨.int<|lo+i*c,H,I1,⟨t,Z⟩,⟨Z,Z⟩,st',λb hb=>(hf b hb).1⟩⟩
 done:=by
  intro X hP hw hK hc i O s σ H E I hf st hg;subst hP hw hK;obtain⟨f0,f1,f2,f3,f4,f5⟩:=hf it (by simp);exact wpAny_pyNext_range_end (I.ok.hd hc) st (by have:n<=i:=hg;lia) λh' eb=>⟨Z,I.turned (t':=s.toks) (λb o hb e=>eb b o hb e) f0 f1 f3 f4 f5⟩
 self:=λ_ _ _ _ _ st h=>wpAny_pyIter_rangeiter st h
section
variable {X:Cx}{tg:Expr}
theorem YL4{O:J (al×Obj)}{σ:St}{H:L}{s:ar}{Dt:It->L->Prop}{E:ai->ar->Prop}{lo hi c:Int}{n:Nat}{t u v:Tok}{tk:Nat}(I:aW X O σ H s)(hs:Builtin.Range.small lo hi c=true)(hn:Builtin.Range.rangeSize lo hi c=(n:Int))
  (q:Dt (kq lo c n) H):wpAny (model X.prog X.w) X.A (pyIter<|.ref s.heap.objs.size) (PIE X O σ tg Dt) E { s with heap:=s.heap.push { cls:=.type "range",data:=.fields #[.int lo t,.int hi u,.int c v] },toks:=tk }:=by
 refine wpAny_pyIter_range (IsRange.new ..) hs ?_;have I1:aW X O σ H { s with heap:=s.heap.push { cls:=.type "range",data:=.fields #[.int lo t,.int hi u,.int c v] },toks:=tk }:=I.kept λb o e=>YOi _ e;refine⟨(s.heap.push { cls:=.type "range",data:=.fields #[.int lo t,.int hi u,.int c v] }).objs.size,[(s.heap.push { cls:=.type "range",data:=.fields #[.int lo t,.int hi u,.int c v] }).objs.size],_,_,H,Z,
  I1.kept (t':=tk) λb o e=>YOi _ e,YIQ _ lo c n,?_,λb hb=>?_,q⟩
 have R:lo+((0:Nat):Int)*c=lo:=by simp
 have e2:((n:Nat):Int)-((0:Nat):Int)=Builtin.Range.rangeSize lo hi c:=by rw[hn];simp
 show IsRangeIter _ _ (lo+((0:Nat):Int)*c) (((n:Nat):Int)-((0:Nat):Int)) c;rw[R,e2];exact YOy _ Z;have e:b=(s.heap.push { cls:=.type "range",data:=.fields #[.int lo t,.int hi u,.int c v] }).objs.size:=by simpa using hb
 subst e;exact I1.fpOk (YOY _)<|I1.hok.fresh<|YOY _
def Bi(ta:TA):TI:=λσ H Dt=>ta σ H λvs H1=>∃(i j c:Int) (n:Nat),vs=[.int i,.int j,.int c]/\(c≠0/\c.natAbs<1073741824)/\Builtin.Range.small i j c=true/\Builtin.Range.rangeSize i j c=(n:Int)/\Dt (kq i c n) H1
theorem YL5(hg:Gl X "range")(hm:X.mg "range"=none)(ha:PA X [a,b,c] ta)(hs:starEach [a,b,c] X.env=[(false,eval a X.env),(false,eval b X.env),(false,eval c X.env)]:=by rfl)(hs2:starEach [b,c] X.env=[(false,eval b X.env),(false,eval c X.env)]:=by rfl):
  PI X tg (.Call (.Name "range" p) [a,b,c] [] pos) (Bi ta):=by
 intro O s σ H Dt I h;refine Call_<|vF I hg hm boot_range<|PyProof.Rows.callWith_type1 (cJ (ha pos O s σ H _ I h) λus s1 ⟨vs,H1,I1,r1,q1⟩=>?_) (by rw[hs,hs2]) (by rw[hs2];rfl);obtain⟨i,j,k,n,e,⟨k0,k1⟩,q1,q2,q⟩:=q1;subst e;cases r1 with
 |cons r rr=>
  cases rr with
  |cons r' rr=>
   cases rr with
   |cons Qe rr=>
    cases rr;obtain⟨t,rfl⟩:=r;obtain⟨t',rfl⟩:=r';obtain⟨t'',rfl⟩:=Qe;exact call_range_3 k0 (YL4 I1 q1 q2 q)<|.inl<|PyProof.noPylong_small k1
end
theorem YJx{lo c:Int}{n:Nat}{g:TG}{tb:TS}{D:Ja}{σ:St}{H:L}(Pv:Nat->St->L->Prop)(h0:Pv 0 σ H)
  (hs:∀i σ H,i<n->Pv i σ H->g (.int<|lo+i*c) σ H λσ2 H2=>tb { D with nx:=Pv (i+1),ct:=Pv (i+1),bk:=D.nx } σ2 H2)(hd:∀σ H,Pv n σ H->D.nx σ H):
  ∃W:Nat->Nat->St->L->Prop,(∃m,W 0 m σ H)/\∀i m σ H,W i m σ H->
   ((kq lo c n).stop i H/\D.nx σ H)\/((kq lo c n).go i H/\∃N:St->L->Prop,(∀σ' H',N σ' H'->∃m',m'<m/\W (i+1) m' σ' H')/\∀x H',(kq lo c n).yld i H x H'->g x σ H' λσ2 H2=>tb { D with nx:=N,ct:=N,bk:=D.nx } σ2 H2):=by
 refine⟨λi m σ H=>m=n-i/\i<=n/\Pv i σ H,⟨n,by simp,YOn _,h0⟩,?_⟩;rintro i m σ H ⟨rfl,hi,p⟩;by_cases Dm:i<n;refine .inr ⟨Dm,Pv<|i+1,λσ' H' p'=>⟨n-(i+1),by omega,Z,Dm,p'⟩,λx H' y=>?_⟩;obtain⟨rfl,rfl⟩:=y;exact hs i σ H' Dm p;have e:i=n:=by omega
 subst e;exact .inl ⟨YOY _,hd σ H p⟩
section
variable {X:Cx}
theorem YAR:AN X "str.startswith" (λx vs H Q=>∃z y,x=.str z/\vs=[.str y]/\Q (.bl<|Txt.startswith z y) H):=by
 intro O s σ H x xs v us Q I rx rs h;obtain⟨z,y,rfl,rfl,q⟩:=h;obtain⟨t,rfl⟩:=rx;obtain⟨u,rfl,t',rfl⟩:=rs.one;exact SC.startswith ⟨.bl _,H,I,Z,q⟩
end
section
variable {X:Cx}
theorem YNK:∀{bs:J Int}{us:J ai}{i:Nat}{v:ai},Yt (bs.map V.int) us->us[i]?=some v->∃b t,bs[i]?=some b/\v=.int b t:=by
 intro bs us i v r e;cases e2:(bs.map V.int)[i]? with
 |none=>
  have:=r.none_of e2;rw[this]at e;cases e
 |some x=>
  obtain⟨u,hu,ru⟩:=r.get e2;rw[hu]at e;cases e;rw[YOd]at e2;cases e3:bs[i]? with
  |none=>rw[e3]at e2;cases e2
  |some b=>
   rw[e3]at e2;have e4:V.int b=x:=YO3 e2;subst e4;obtain⟨t,ht⟩:=ru;exact⟨b,t,Z,ht⟩
theorem YEA(ns:J Int):∀k,k<=ns.length->preSum (λi=>(ns[i]?).getD 0) k=(ns.take k).sum
 |0,_=>by simp[preSum]
 |k+1,h=>by
  have ih:=YEA ns k (by lia);have e:ns[k]?=some ns[k]:=YOW (by lia);show preSum (λi=>(ns[i]?).getD 0) k+(ns[k]?).getD 0=_;rw[ih,YPA,e,List.sum_append];simp
theorem YIR(hc:X.calm=true):Jy X (.builtin "sum") (λxs H Q=>∃(p:al) (ns:J Int),xs=[.ref p]/\aX X.K H p (ns.map V.int)/\Q (.int ns.sum) H):=by
 intro O s σ H xs us Q I r h;obtain⟨p,ns,rfl,hq,q⟩:=h;obtain⟨u,rfl,rx⟩:=j2 r;cases rx;obtain⟨its,rv,pl,hz⟩:=I.list hq;have hl:=pl.isList;have Dm:p<s.heap.objs.size:=by obtain⟨_,e,_⟩:=hl;exact YOs e
 have hlen:ns.length=its.length:=by have:=rv.length;rwa [YOS]at this
 refine call_sum_walkG<|wpAny_pyIter_list hl ?_;refine⟨s.heap.objs.size,[s.heap.objs.size,p],[s.heap.objs.size],its.toArray.size,_,_,λi=>(ns[i]?).getD 0,Z,Walks.list (A:=X.A.in1) (I.ok.hd hc) _ p (YPC Dm) its.toArray,
  ⟨⟨_,YOy _ Z,Z,Z⟩,hl.push _⟩,?_,λi v hP=>?_,λh' tk t' hk=>?_⟩
 intro b hb;simp only[YOj,YPo,or_false]at hb;show b<(s.heap.push _).objs.size;rw[Heap.size_push];rcases hb with rfl|rfl
 exact YPO _;exact Nat.lt_succ_of_lt Dm;obtain⟨b,t,eb,rfl⟩:=YNK rv (i:=i) (v:=v) (by simpa using hP);exact⟨t,by show Value.int b t=Value.int ((ns[i]?).getD 0) t;rw[eb];rfl⟩;have e:preSum (λi=>(ns[i]?).getD 0) its.toArray.size=ns.sum:=by
  rw[YOp,<-hlen,YEA ns _<|YOY _,YPI]
 rw[e];exact⟨.int ns.sum,H,I.kept (t':=tk) λb o eb=>hk b o (λz=>by rw[YOT.mp z]at eb;exact YPW _<|YOs eb)<|YOi _ eb,⟨t',Z⟩,q⟩
end
section
open PySem.W
variable {K:W.Frag}{M:Model}
end
structure tP(X:Cx)(O:List (Addr×Obj))(σ:St)(H:L)(e:Addr)(cls:Value)(s:Shared):Prop where
 I:aW X O σ H s
 new:H e=none
 fly:∃(Dv:Heap) (a0:Value),Heap.FlyingW Dv X.stack e cls a0 s.heap/\(∀b u,H b=some u->∃o,Dv.get? b=some o)/\(∀b o,X.s₀.heap.get? b=some o->b∉fE X.stack->b∉X.ex->∃o',Dv.get? b=some o')/\(∀p∈X.pn++O,∃o',Dv.get? p.1=some o')
abbrev TH:=ai->Ja->St->L->Prop
def PH(X:Cx)(hs:J ExceptHandler)(t:TH):Prop:=∀(O:J<|al×Obj) (s:ar) (σ:St) (H:L) (e:al) (cls:ai) (D:Ja),tP X O σ H e cls s->t cls D σ H->
 wpAny (model X.prog X.w) X.A (handleBy (.ref e) X.env hs) (SP X O D) X.xe s
def BI(tb:Ja->(St->XK)->St->L->Prop)(th:TH):TS:=λD σ H=>tb D (λσ' cls _ H'=>th cls D σ' H') σ H
theorem oq{X:Cx}{body:J Stmt}{h₀:ExceptHandler}{hs:J ExceptHandler}{pos:Pos}{tb:Ja->(St->XK)->St->L->Prop}{th:TH}(hex:X.ex=[])(hst:X.stack=X.env::X.outer)(hfr:X.env.frame=some X.env.locals)
  (hb:Cy X body tb)(hh:PH X (h₀::hs) th):PS X (.Try body (h₀::hs) [] [] pos)<|BI tb th:=by
 intro O s σ H D I h;refine wpAny_Try_except<|wpAny_mono (hb O s σ H _ _ I h) (λf s1 q=>?_) λev s1 q=>?_
 ·cases f with
  |next=>exact wpAny_execs_nil q
  |ret v=>exact q
  |brk=>exact q
  |cont=>exact q
 obtain⟨σ',e,cls,H',Dv,a0,rfl,I1,fl,new,tr,old,pn,ju⟩:=q;have Qf:=fl;rw[hst]at Qf;refine wpAny_looks_onW (I1.ok.frames.trans (by rw[hst])) hfr Qf λh4 tY Wu=>?_;refine wpAny_landsW tY λh5 yx Wv=>?_;have I5:aW X O σ' H' { s1 with heap:=h5 }:=I1.moved hex fl.1 yx.1 (Wu.trans Wv) tr old pn;rw[<-hst]at yx;exact hh O _ σ' H' e cls D ⟨I5,new,Dv,a0,yx,tr,old,pn⟩ ju
section
variable {X:Cx}
theorem YKn{Y1:J ExceptHandler}{D:Ja}(Du:tP X O σ H e cls s)(hg:Gl X y)(hm:X.mg y=some (.ref C))(hd:(y==("__debug__":av))=false)(U:PySem.W.exmOne X.K cls (.ref C)=some b)
  (h:if b=true then codeAny (model X.prog X.w) (X.A.mark<|some<|.ref e) (.handlers (.ref e) [.ExceptHandler none nm suite hpos] X.env) (λr s₂=>match r with
     |.ok f=>(match nm with
      |none=>SP X O D f s₂
      |some n=>wpAny (model X.prog X.w) X.A (do bindName X.env n .none;unbindBehindTheSuite X.env n hpos) (λ_ s₃=>SP X O D f s₃) X.xe s₂)
     |.error x=>cameBackBy (model X.prog X.w) X.A X.env X.xe x s₂) s
   else wpAny (model X.prog X.w) X.A (handleBy (.ref e) X.env Y1) (SP X O D) X.xe s):
  wpAny (model X.prog X.w) X.A (handleBy (.ref e) X.env<|.ExceptHandler (some<|.Name y np) nm suite hpos::Y1) (SP X O D) X.xe s:=by
 obtain⟨Dv,a0,fl,tr,old,pn⟩:=Du.fly;obtain⟨oe,vs,he,hc,hdt,_⟩:=fl.first
 refine wpAny_handleBy_cons (codeAny_handlers_test ?_) (by intro q;cases q);refine zn (Du.I.caught e) hg hm ?_ hd;have LT:PySem.W.Looks (model X.prog X.w) s.heap (typeOf<|.ref e) cls:=hc ▸ (PySem.W.Looks.ld he).andThen .now;obtain⟨hp,g,d,tk,os⟩:=s;refine(PySem.W.exm_one (M:=model X.prog X.w) Du.I.kIn LT U) _ _ _ _ (λ_ _ q=>q) ?_;cases b with
 |true=>exact h
 |false=>exact h
def Ce(K:W.Frag)(C:al)(ts:TS)(th:TH):TH:=λcls D σ H=>(PySem.W.exmOne K cls (.ref C)=some true/\ts D σ H)\/(PySem.W.exmOne K cls (.ref C)=some false/\th cls D σ H)
theorem oU{y:av}{C:al}{np hpos:Pos}{b₀:Stmt}{suite:J Stmt}{Y1:J ExceptHandler}{ts:TS}{th:TH}(hex:X.ex=[])(hg:Gl X y)(hm:X.mg y=some (.ref C))(hs:∀e,gS (X.caught e) (b₀::suite) ts)(hr:PH X Y1 th)
  (hd:(y==("__debug__":av))=false:=by decide):PH X (.ExceptHandler (some<|.Name y np) none (b₀::suite) hpos::Y1)<|Ce X.K C ts th:=by
 intro O s σ H e cls D Du h;rcases h with ⟨U,h⟩|⟨U,h⟩
 ·refine YKn Du hg hm hd U ?_;rw[if_pos Z];obtain⟨Dv,a0,fl,tr,old,pn⟩:=Du.fly;refine codeAny_handlers_suite ?_;refine lands_againW fl λh6 Ww Wx=>?_;have I6:aW X O σ H { s with heap:=h6 }:=Du.I.moved hex fl.1 Ww.1 Wx tr old pn;refine wpAny_mono (hs e O _ _ _ _ (I6.caught e) h) (λf s9 q=>?_) λ_ _ z=>z.elim;cases f with
  |next=>obtain⟨σ2,H2,I9,q⟩:=q;exact⟨_,H2,I9.uncaught Du.I.ok,q⟩
  |brk=>obtain⟨σ2,H2,I9,q⟩:=q;exact⟨_,H2,I9.uncaught Du.I.ok,q⟩
  |cont=>obtain⟨σ2,H2,I9,q⟩:=q;exact⟨_,H2,I9.uncaught Du.I.ok,q⟩
  |ret u=>obtain⟨v,σ2,H2,I9,r,q⟩:=q;exact⟨v,_,H2,I9.uncaught Du.I.ok,r,q⟩
 refine YKn Du hg hm hd U ?_;rw[if_neg YOu];exact hr O s σ H e cls D Du h
theorem xH:PH X []<|λ_ _ _ _=>False:=λ_ _ _ _ _ _ _ _ h=>h.elim
end
section
variable {X:Cx}
end
theorem YEl{α:Type}{Dq:It}{item:Nat->V->L->Prop}{tc:TT}{te:TE}{Q:VK}{H:L}{l:al}{τ:St}{g:TG}(ds:J α)(f:α->ah V)(hJ:YJt Dq ds.length H item)(hp:YL H)
  (hl:H l=none)(hz:ds.length<=sizeLine)(keep:St->Prop)(hk0:keep τ)
  (ht:∀(τ':St) (k:Nat) (d:α) (x:V) (H':L) (Q1:St->VK) (Q2:St->L->Prop),keep τ'->ds[k]?=some d->item k x H'->YF H H'->YL H'->(∀y τ4 H6,keep τ4->YF H' H6->YL H6->f d=some y->Q1 τ4 y H6)->(∀τ4 H6,keep τ4->YF H' H6->YL H6->f d=none->Q2 τ4 H6)->
   g x τ' H' λτ4 H4=>tc τ4 H4 λb H5=>if b=true then te τ4 H5 (Q1 τ4) else Q2 τ4 H5)
  (hq:∀H',YF H H'->YL H'->H' l=some (.lst<|ds.filterMap f)->Q (.ref l) H'):pj Dq g tc te Q l τ H:=by
 refine n9 ds.length (λi ys τ' H2=>i<=ds.length/\ys=(ds.take i).filterMap f/\keep τ'/\YF H H2/\YL H2/\H2 l=some (.lst ys)) ⟨YOn _,Z,hk0,YF.upd hl,hp.upd Z,YA⟩ ?_ ?_;rintro i ys τ' H2 N Dm ⟨hi,rfl,hk,hs,qm,hll⟩ hN;obtain⟨hgo,_⟩:=hJ i _ hs qm;obtain⟨h1,h2⟩:=hgo Dm;refine⟨h1,λx H3 hy=>?_⟩;obtain⟨s3,p3,it⟩:=h2 x H3 hy;have e:ds[i]?=some ds[i]:=YOW Dm;have et:(ds.take<|i+1).filterMap f=(ds.take i).filterMap f++(f ds[i]).toList:=by
  rw[YPA,e,YQJ];have:(some ds[i]).toList.filterMap f=(f ds[i]).toList:=by
   cases hf:f ds[i] with
   |none=>simp[hf]
   |some y=>simp[hf]
  rw[this]
 have hlen:((ds.take i).filterMap f).length<=i:=YO1 (List.length_filterMap_le ..) (by rw[YPK];lia);refine ht τ' i ds[i] x H3 (λτ4 y H6=>H6 l=some (.lst<|(ds.take i).filterMap f)/\((ds.take i).filterMap f).length<sizeLine/\N ((ds.take i).filterMap f++[y]) τ4 (upd H6 l<|.lst<|(ds.take i).filterMap f++[y]))
  (λτ4 H5=>N ((ds.take i).filterMap f) τ4 H5) hk e it (hs.trans s3) p3 (λy τ4 H6 k4 s6 p6 ef=>?_) λτ4 H6 k4 s6 p6 ef=>?_
 rw[ef]at et;have lA:H6 l=some (.lst<|(ds.take i).filterMap f):=s6 _ _<|s3 _ _ hll;exact⟨lA,by lia,hN _ _ _ ⟨Dm,et.symm,k4,((hs.trans s3).trans s6).put hl,p6.upd Z,YA⟩⟩;rw[ef]at et;have et:(ds.take<|i+1).filterMap f=(ds.take i).filterMap f:=by rw[et];exact YO6 _
 exact hN _ _ _ ⟨Dm,et.symm,k4,(hs.trans s3).trans s6,p6,s6 _ _<|s3 _ _ hll⟩;rintro ys τ' H2 ⟨_,rfl,_,hs,qm,hll⟩;rw[YPI]at hll;exact⟨(hJ ds.length _ hs qm).2,hq _ hs qm hll⟩
section
variable {X:Cx}
end
end L2
namespace FR
open PySem L2
def good(c:Nat):Bool:=decide (32<=c)&&decide (c<=126)&&!decide (c=37)
def Zw(c:Nat):Bool:=decide (65<=c)&&decide (c<=90)
def Xn(z:av):Bool:=z.cps.size==2&&z.cps[0]?==some 39&&good (z.cps.getD 1 0)
def cE(z:av):Bool:=decide (1<=z.cps.size)&&decide (z.cps.size<=8)&&z.cps.toList.all Zw
def Zs(z:av):Bool:=decide (z.cps.size<=60)&&z.cps.toList.all good
def CB:D->Bool
 |.str z=>Xn z
 |_=>false
def fw:D->Bool
 |.str z=>cE z
 |_=>false
def Xo(d:D):Bool:=CB d || fw d
def sv:D->Bool
 |.str z=>Zs z
 |_=>false
def J1:D->Bool
 |.int _=>true
 |_=>false
def X1:D->Bool
 |.int i=>decide (0<=i)&&decide (i<=10^60)
 |_=>false
def Xt:D->Bool
 |.tup ds=>decide (ds.length<=6)&&ds.all Xo
 |_=>false
def JU:D->Bool
 |.tup [h,p,w]=>fw h&&(Xt p&&X1 w)
 |_=>false
def Jh:D->Bool
 |.lst ds=>decide (ds.length<=60)&&ds.all JU
 |_=>false
mutual
def _root_.L2.D.short:D->Bool
 |.str z=>decide (z.length<=1000)
 |.lst ds=>X2 ds
 |.tup ds=>X2 ds
 |_=>true
def X2:J D->Bool
 |[]=>true
 |d::ds=>d.short&&X2 ds
end
theorem XJ:∀{xs:J D}{d:D},X2 xs=true->d∈xs->d.short=true
 |x::xs,d,h,hd=>by
  unfold X2 at h;rw[YOl]at h;rcases YOj.mp hd with rfl|hd
  exact h.1;exact XJ h.2 hd
theorem YB3:∀{xs:J D},(∀d∈xs,d.short=true)->X2 xs=true
 |[],_=>by unfold X2;rfl
 |x::xs,h=>by unfold X2;rw[h x YOZ,YB3 λd hd=>h d<|YOV _ hd];rfl
theorem YGd(h:z.length<=1000):(D.str z).short=true:=by unfold D.short;exact de h
theorem YL6(h:(D.str z).short=true):z.length<=1000:=by unfold D.short at h;exact fF h
theorem YK(h:n<=1000):n<=sizeLine:=YO1 h (by rw[sizeLine_eq];decide)
theorem mx:1<=sizeLine:=YK (by decide)
theorem lp:2<=sizeLine:=YK (by decide)
theorem jS:3<=sizeLine:=YK (by decide)
theorem kC:4<=sizeLine:=YK (by decide)
theorem YCP(h:(D.str z).short=true):z.length<=sizeLine:=YK<|YL6 h
def xU:D->Bool|.str _=>true|_=>false
def pe:D->Bool|.lst _=>true|_=>false
def yk:D->Bool|.tup _=>true|_=>false
def YHW:D->Bool|.bl _=>true|_=>false
def x6:D->Bool|.int _=>true|.bl _=>true|_=>false
section
variable {K:W.Frag}
theorem YKo(d:D):PySem.W.kitOne K (.type<|A0 d) (.type "int")=some (x6 d):=by cases d <;> kernel_rfl
theorem YIS(d:D):PySem.W.kitOne K (.type<|A0 d) (.type "bool")=some (YHW d):=by cases d <;> kernel_rfl
theorem YHX(d:D):PySem.W.kitOne K (.type<|A0 d) (.type "str")=some (xU d):=by cases d <;> kernel_rfl
theorem YIT(d:D):PySem.W.kitOne K (.type<|A0 d) (.type "list")=some (pe d):=by cases d <;> kernel_rfl
theorem YGe(d:D):PySem.W.kitOne K (.type<|A0 d) (.type "tuple")=some (yk d):=by cases d <;> kernel_rfl
end
theorem X3(z:av):z.length=z.cps.size:=rfl
theorem le_A(c:Nat):(!decide (([c]:J Nat)<(("A":av)).cps.toList))=decide (65<=c):=by
 have e:(("A":av)).cps.toList=[65]:=by decide+kernel
 rw[e];by_cases h:65<=c;rw[de h,dy (by rw[YQK];simp;omega)];rfl;rw[dy h,de (by rw[YQK];left;omega)];rfl
theorem le_Z(c:Nat):(!decide ((("Z":av)).cps.toList<([c]:J Nat)))=decide (c<=90):=by
 have e:(("Z":av)).cps.toList=[90]:=by decide+kernel
 rw[e];by_cases h:c<=90;rw[de h,dy (by rw[YQK];simp;lia)];rfl;rw[dy h,de (by rw[YQK];left;lia)];rfl
theorem YNL(g:Nat->Bool)(l:J Nat):l.map (λc=>V.bl<|g c)=(l.map g).map V.bl:=by rw[YPa];rfl
theorem YA1{α:Type}(g:α->Bool)(l:J α):(l.map g).all id=l.all g:=by rw[List.all_map];rfl
theorem YNM{ys:J V}{ds:J D}{g:D->Bool}(hl:ys.length=ds.length)(h:∀(k:Nat) (y:V),ys[k]?=some y->∃d,ds[k]?=some d/\y=.bl (g d)):ys=(ds.map g).map V.bl:=by
 refine List.ext_getElem? λk=>?_;by_cases hk:k<ys.length;obtain⟨d,hd,hy⟩:=h k ys[k]<|YOW hk;rw[YOW hk,YOd,YOd,hd,hy];rfl;rw[YPd (by lia),YPd (by rw[YOS,YOS];lia)]
theorem J2{te:TE}{σ:St}{H:L}{Dt:VK}{b g:Bool}(ht:b=true->∀Dt:VK,Dt (.bl g) H->te σ H Dt)(h:Dt (.bl<|b&&g) H):if b=true then te σ H Dt else Dt (.bl false) H:=by
 cases b with
 |true=>exact ht Z Dt h
 |false=>exact h
theorem mT{te:TE}{σ:St}{H:L}{Dt:VK}{b g:Bool}(ht:b=false->∀Dt:VK,Dt (.bl g) H->te σ H Dt)(h:Dt (.bl (b || g)) H):if b=true then Dt (.bl true) H else te σ H Dt:=by
 cases b with
 |true=>exact h
 |false=>exact ht Z Dt h
inductive wf(g:D->Bool)(vs:List V)(H:L)(Q:VK):Prop
 |mk (x:_)(d:_):vs=[x]->ci H x d->d.short=true->YL H->Q (.bl (g d)) H->wf g vs H Q
def X4(g:D->Bool):Sp:=λvs H Q E_=>wf g vs H Q
inductive YGf(vs:List V)(H:L)(Q:VK):Prop
 |mk (c:_):vs=[.str ⟨#[c]⟩]->Q (.bl (good c)) H->YGf vs H Q
def YFB:Sp:=λvs H Q E_=>YGf vs H Q
inductive YFC(C:Addr)(vs:List V)(H:L)(Q:VK)(E:XK):Prop
 |mk (x:_)(d:_):vs=[x]->ci H x d->d.short=true->YL H->(Jh d=true->∀(l:Addr) (xs:List V) (ds:List D),d=.lst ds->YX H xs ds->H l=none->Q (.ref l) (upd H l (.lst xs)))->(Jh d=false->E (.ref C) none H)->YFC C vs H Q E
def YDf(C:al):Sp:=λvs H Q E=>YFC C vs H Q E
theorem YCQ(h:(!b)=true):b=false:=by cases b <;> first|rfl|cases h
theorem YDg(h:¬(!b)=true):b=true:=by cases b <;> first|rfl|exact absurd rfl h
inductive YEB(C:Addr)(vs:List V)(H:L)(Q:VK)(E:XK):Prop
 |mk (x:_)(d:_):vs=[x]->ci H x d->d.short=true->YL H->(∀z,d=.str z->Zs z=true->Q (.str z) H)->(sv d=false->E (.ref C) none H)->YEB C vs H Q E
def YCR(C:al):Sp:=λvs H Q E=>YEB C vs H Q E
abbrev Ju:=av×J av×Int
abbrev YV:=J Ju
def ZW(r:Ju):D:=.tup [.str r.1,.tup<|r.2.1.map D.str,.int r.2.2]
def kz(g:YV):D:=.lst<|g.map ZW
def Yn(z:av):Bool:=Xn z || cE z
def Z9(r:Ju):Bool:=cE r.1&&((decide (r.2.1.length<=6)&&r.2.1.all Yn)&&(decide (0<=r.2.2)&&decide (r.2.2<=10^60)))
def ZB(g:YV):Bool:=decide (g.length<=60)&&g.all Z9
theorem YF0(r:Ju):JU (ZW r)=Z9 r:=by
 obtain⟨h,ps,w⟩:=r;show(fw (.str h)&&(Xt (.tup<|ps.map D.str)&&X1 (.int w)))=_;show(cE h&&((decide ((ps.map D.str).length<=6)&&(ps.map D.str).all Xo)&&(decide (0<=w)&&decide (w<=10^60))))=_;rw[YOS,List.all_map];rfl
theorem YCG(g:YV):Jh (kz g)=ZB g:=by
 show(decide ((g.map ZW).length<=60)&&(g.map ZW).all JU)=_;rw[YOS,List.all_map];unfold ZB;congr 1;congr 1;funext r;exact YF0 r
theorem YKp:∀{ds:J D},ds.all Xo=true->∃ps:J av,ds=ps.map D.str
 |[],_=>⟨[],Z⟩
 |d::ds,h=>by
  rw[YQA,YOl]at h;obtain⟨ps,rfl⟩:=YKp h.2;cases d with
  |str z=>exact⟨z::ps,Z⟩
  |_=>cases h.1
theorem oX(h:JU d=true):∃r:Ju,d=ZW r:=by
 unfold JU at h;split at h;rename_i a b c;rw[YOl,YOl]at h;obtain⟨h1,h2,h3⟩:=h;cases a with
 |str z=>
  cases b with
  |tup ds=>
   cases c with
   |int w=>
    unfold Xt at h2;rw[YOl]at h2;obtain⟨ps,rfl⟩:=YKp h2.2;exact⟨(z,ps,w),Z⟩
   |_=>cases h3
  |_=>cases h2
 |_=>cases h1
 cases h
theorem YKq(h:Jh d=true):∃g:YV,d=kz g/\ZB g=true:=by
 cases d with
 |lst ds=>
  have h0:=h;unfold Jh at h;rw[YOl]at h;have go:∀(ds:J D),ds.all JU=true->∃g:YV,ds=g.map ZW:=by
   intro ds
   induction ds with
   |nil=>exactλ_=>⟨[],Z⟩
   |cons d ds ih=>
    intro hd;rw[YQA,YOl]at hd;obtain⟨g,rfl⟩:=ih hd.2;obtain⟨r,rfl⟩:=oX hd.1;exact⟨r::g,Z⟩
  obtain⟨g,rfl⟩:=go ds h.2;refine⟨g,Z,?_⟩;rw[<-YCG];exact h0
 |_=>cases h
theorem YFD(h:ci H v<|ZW r):∃t p,v=.ref t/\H t=some (.tup [.str r.1,.ref p,.int r.2.2])/\H p=some (.tup<|r.2.1.map V.str):=by
 obtain⟨t,xs,rfl,ht,hds⟩:=h.to_tup
 match xs,hds with
 |[x0,x1,x2],hds=>
  obtain⟨_,e0,n0⟩:=hds.get (i:=0) (v:=x0) Z;obtain⟨_,R,n1⟩:=hds.get (i:=1) (v:=x1) Z;obtain⟨_,e2,n2⟩:=hds.get (i:=2) (v:=x2) Z;cases e0;cases R;cases e2;have f0:=n0.to_str;have f2:=n2.to_int;obtain⟨p,ys,f1,hp,hys⟩:=n1.to_tup;subst f0 f1 f2;refine⟨t,p,Z,ht,?_⟩;have:ys=r.2.1.map V.str:=by
   refine List.ext_getElem? λi=>?_;cases e:ys[i]? with
   |none=>
    have h1:=List.getElem?_eq_none_iff.mp e;have h2:=hys.len;rw[YOS]at h2;rw[YPd (by rw[YOS];lia)]
   |some y=>
    obtain⟨d,hd,dn⟩:=hys.get e;rw[YOd]at hd ⊢;cases e2:r.2.1[i]? with
    |none=>rw[e2]at hd;cases hd
    |some z=>
     rw[e2]at hd;cases hd;rw[dn.to_str];rfl
  rw[hp,this]
 |[],h=>exact absurd h.len (by simp)
 |[_],h=>exact absurd h.len (by simp)
 |[_,_],h=>exact absurd h.len (by simp)
 |_::_::_::_::_,h=>exact absurd h.len (by simp)
theorem YNN(h:ci H v<|kz g):∃a xs,v=.ref a/\Rd H a (.lst xs)/\YX H xs (g.map ZW):=h.to_lst
theorem YKr{H:L}{xs:J V}{g:YV}(h:YX H xs<|g.map ZW){i:Nat}{v:V}(e:xs[i]?=some v):
  ∃r t p,g[i]?=some r/\v=.ref t/\H t=some (.tup [.str r.1,.ref p,.int r.2.2])/\H p=some (.tup<|r.2.1.map V.str):=by
 obtain⟨d,hd,dn⟩:=h.get e;rw[YOd]at hd;cases e2:g[i]? with
 |none=>rw[e2]at hd;cases hd
 |some r=>
  rw[e2]at hd;cases hd;obtain⟨t,p,e3,e4,e5⟩:=YFD dn;exact⟨r,t,p,Z,e3,e4,e5⟩
def Yi(g:YV)(z:av):J Nat:=(List.range g.length).filter λk=>decide ((g[k]?.map (·.1))=some z)
theorem YCS:∀{xs:J D}{n:Nat},(∀d∈xs,d.dep<=n)->kr xs<=n
 |[],n,_=>by unfold kr;exact YOn _
 |x::xs,n,h=>by
  unfold kr;exact Nat.max_le.mpr ⟨h x YOZ,YCS λd hd=>h d<|YOV _ hd⟩
theorem YJy(h:∀d∈xs,d.ok=true):(D.lst xs).ok=true:=by unfold D.ok;exact YJs h
theorem yb(h:∀d∈xs,d.ok=true):(D.tup xs).ok=true:=by unfold D.ok;exact YJs h
theorem xk(z:av):(D.str z).ok=true:=by unfold D.ok;rfl
theorem YHY(h:∀d∈xs,d.dep<=n):(D.lst xs).dep<=n+1:=by unfold D.dep;exact YPy<|YCS h
theorem oM(h:∀d∈xs,d.dep<=n):(D.tup xs).dep<=n+1:=by unfold D.dep;exact YPy<|YCS h
theorem re(z:av):(D.str z).dep=0:=by unfold D.dep;rfl
theorem YEm(zs:J av):(D.lst<|zs.map D.str).ok=true:=YJy λd hd=>by
 obtain⟨z,_,rfl⟩:=YOt.mp hd;exact xk z
theorem YC2(zs:J av):(D.lst<|zs.map D.str).dep<=64:=YO1 (YHY (n:=0) λd hd=>by
 obtain⟨z,_,rfl⟩:=YOt.mp hd;rw[re];exact YOY _) (by decide)
theorem YGg(h:cE z=true):z.length<=8:=by
 unfold cE at h;rw[YOl,YOl]at h;exact fF h.1.2
theorem YIU(h:Yn z=true):z.length<=8:=by
 unfold Yn at h;rw[YP8]at h;rcases h with h|h
 unfold Xn at h;rw[YOl,YOl,beq_iff_eq]at h;show z.cps.size<=8;omega;exact YGg h
theorem YJz(h:Z9 r=true):(ZW r).short=true:=by
 unfold Z9 at h;simp only[YOl]at h;obtain⟨h1,⟨h2,h3⟩,h4⟩:=h;unfold ZW D.short;refine YB3 λd hd=>?_;simp only[YOj,YPo,or_false]at hd;rcases hd with rfl|rfl|rfl
 exact YGd<|YO1 (YGg h1) (by decide);unfold D.short;refine YB3 λd hd=>?_;obtain⟨z,hz,rfl⟩:=YOt.mp hd;exact YGd<|YO1 (YIU<|YO8.mp h3 z hz) (by decide);unfold D.short;rfl
theorem YJ0(h:ZB g=true):(kz g).short=true:=by
 unfold ZB at h;rw[YOl]at h;unfold kz D.short;refine YB3 λd hd=>?_;obtain⟨r,hr,rfl⟩:=YOt.mp hd;exact YJz<|YO8.mp h.2 r hr
theorem Xp(h:ZB g=true):g.length<=60:=by
 unfold ZB at h;rw[YOl]at h;exact fF h.1
theorem YKs:∀{a b:J av},a.map D.str=b.map D.str->a=b
 |[],[],_=>rfl
 |[],_::_,h=>by cases h
 |_::_,[],h=>by cases h
 |x::a,y::b,h=>by
  rw[YOv,YOv]at h;injection h with h1 h2;injection h1 with h3;rw[h3,YKs h2]
theorem YL7(h:ZW r=ZW r'):r=r':=by
 obtain⟨a,b,c⟩:=r;obtain⟨a',b',c'⟩:=r';unfold ZW at h;injection h with h;injection h with h1 h2;injection h2 with h2 h3;injection h3 with h3 _;injection h1 with h1;injection h2 with h2;injection h3 with h3;have h1':a=a':=h1;have h3':c=c':=h3;have h2':b=b':=YKs h2;rw[h1',h2',h3']
theorem YL8(h:kz g=kz g'):g=g':=by
 unfold kz at h;injection h with h
 induction g generalizing g' with
 |nil=>
  cases g' with
  |nil=>rfl
  |cons _ _=>cases h
 |cons r g ih=>
  cases g' with
  |nil=>cases h
  |cons r' g'=>
   rw[YOv,YOv]at h;injection h with h1 h2;rw[YL7 h1,ih h2]
def fV:Int:=10^60
def Xq(z:Int):Int:=if fV<z then fV else z
inductive YKt(v:V)(vs:List V)(H:L)(Q:VK):Prop
 |mk (s:_):vs=[s]->Q v H->YKt v vs H Q
def tS(v:V):Sp:=λvs H Q E_=>YKt v vs H Q
inductive YKu(v:V)(vs:List V)(H:L)(Q:VK):Prop
 |mk (s:_)(x:_)(y:_):vs=[s,x,y]->Q v H->YKu v vs H Q
def YNO(v:V):Sp:=λvs H Q E_=>YKu v vs H Q
inductive YKv(f:Int->Int->Int)(vs:List V)(H:L)(Q:VK):Prop
 |mk (s:_)(x:_)(y:_):vs=[s,.int x,.int y]->0<=x->x<=fV->0<=y->y<=fV->Q (.int (f x y)) H->YKv f vs H Q
def tf(f:Int->Int->Int):Sp:=λvs H Q E_=>YKv f vs H Q
theorem AT:1<=fV:=by decide
theorem YIV:fV<2^4000:=by decide+kernel
theorem YFE(h0:0<=x)(h1:x<=fV):x.natAbs<2^4000:=by
 have:=YIV;have e:((2^4000:Nat):Int)=2^4000:=by norm_cast
 have:((x.natAbs:Nat):Int)<((2^4000:Nat):Int):=by
  rw[e,Int.natAbs_of_nonneg h0];exact Int.lt_of_le_of_lt h1 YIV
 exact Int.ofNat_lt.mp this
theorem oh(z:Int):Xq z<=fV:=by unfold Xq;split <;> lia
theorem oJ(h:0<=z):0<=Xq z:=by unfold Xq;have:=AT;split <;> lia
theorem se(h:z<=fV):Xq z=z:=by unfold Xq;rw[if_neg (by lia)]
theorem AJ(h:fV<=z):Xq z=fV:=by unfold Xq;split <;> lia
inductive YKw(K:W.Frag)(vs:List V)(H:L)(Q:VK):Prop
 |mk (a:Addr)(ns:List Int)(k:Int):vs=[.ref a,.int k]->aX K H a (ns.map V.int)->0<=k->(∀v:Int,Q (.int v) H)->YKw K vs H Q
def BE(K:W.Frag):Sp:=λvs H Q E_=>YKw K vs H Q
inductive YNP(K:W.Frag)(vs:List V)(H:L)(Q:VK):Prop
 |mk (a:Addr)(ns:List Int):vs=[.ref a]->aX K H a (ns.map V.int)->ns.length<=63->YL H->(∀H',Q (.bl true) H')->YNP K vs H Q
def Bn(K:W.Frag):Sp:=λvs H Q E_=>YNP K vs H Q
theorem YL9{K:W.Frag}{H:L}{a:al}{ns:J Int}(hl:ns.length<=63)(hO:mh H)(hS:aX K H a<|ns.map V.int):Bn K [.ref a] H (λv _=>v=.bl true) λ_ _ _=>False:=
 ⟨a,ns,Z,hS,hl,YJv hO,λ_=>rfl⟩
def YKx(l:J Nat):Bool:=decide (1<=l.length)&&decide (l.length<=8)&&l.all Zw
theorem YEC(z:av):cE z=YKx z.cps.toList:=by
 unfold cE YKx;rw[YPD]
def ku:av:="ABCDEFGHIJKLMNOPQRSTUVWXYZ"
theorem YNQ:ku.cps.toList=(List.range 26).map (65+·):=by decide+kernel
theorem YHZ:ku.cps.toList.length=26:=by decide+kernel
theorem YFG:ku.length<=sizeLine:=YK (by decide+kernel)
theorem YCT(h:c∈ku.cps.toList):Zw c=true:=by
 rw[YNQ]at h;obtain⟨k,hk,rfl⟩:=YOt.mp h;have:=YO9.mp hk;unfold Zw;rw[de (by lia),de (by lia)];rfl
theorem CZ(a b:av):(a++b).cps.toList=a.cps.toList++b.cps.toList:=by
 show(a.cps++b.cps).toList=_;exact Array.toList_append
def kS:Expr->av
 |.Constant (.str x) _ _=>x
 |.BinOp _ _ b _=>kS b
 |_=>⟨#[]⟩
def BM:Stmt->av
 |.Assign _ v _=>kS v
 |.Return (some v) _=>kS v
 |_=>⟨#[]⟩
def YHa(s:Stmt)(i:Nat):av:=BM<|(Zl s).getD i<|.Pass ⟨0,0,0,0⟩
def YDh:J Nat:=(List.range 95).filterMap λk=>if k=5 then none else some<|32+k
theorem YJ1(h:c∈YDh):good c=true:=by
 obtain⟨k,hk,e⟩:=YPz.mp h;have:=YO9.mp hk;unfold good;split at e;cases e;cases e;rw[de (by lia),de (by lia),dy (by lia)];rfl
theorem YMA:YDh.length=94:=by decide+kernel
theorem BQ:(("'":av)).length=1:=by decide+kernel
theorem AD:(("'":av)).cps.toList=[39]:=by decide+kernel
theorem YFH(c:Nat):(("'":av)++⟨#[c]⟩).cps=#[39,c]:=by
 apply Array.ext';rw[CZ,AD];rfl
theorem YMB(h:good c=true):Xn (("'":av)++⟨#[c]⟩)=true:=by
 unfold Xn;rw[YFH];show(true&&good c)=true;rw[h];rfl
theorem YMC(h:good c=true):Yn (("'":av)++⟨#[c]⟩)=true:=by
 unfold Yn;rw[YMB h];rfl
theorem YDi(h1:cE r.1=true)(h2:r.2.1.length<=6)(h3:∀z∈r.2.1,Yn z=true)(h4:0<=r.2.2)(h5:r.2.2<=10^60):Z9 r=true:=by
 unfold Z9;have a:r.2.1.all Yn=true:=YO8.mpr h3;rw[h1,de h2,a,de h4,de h5];rfl
theorem YCU{P:av->Prop}(h:∀(k:Nat) (y:V),ys[k]?=some y->∃z,y=.str z/\P z):∃zs:J av,ys=zs.map V.str/\∀z∈zs,P z:=by
 induction ys with
 |nil=>exact⟨[],Z,by simp⟩
 |cons y ys ih=>
  obtain⟨zs,rfl,hz⟩:=ih λk y e=>h (k+1) y (by simpa using e);obtain⟨z,rfl,pz⟩:=h 0 y Z;exact⟨z::zs,Z,λx U=>(YOj.mp U).elim (λe=>by rw[e];exact pz)<|hz x⟩
theorem YNR(h0:0<=j)(h1:j<=x.length):(Txt.slice x none<|some j).cps.toList=x.cps.toList.take j.toNat:=by
 have h:=PyProof.Rows.slice_closes_to (x:=x) (j:=j) ⟨h0,by rw[YPD];exact h1⟩;have e:=eq_of_beq h;rw[e];show((x.cps.toList.drop (0:Int).toNat).take (j-0).toNat)=_;rw[Int.sub_zero];rfl
theorem YJ2(h0:0<=i)(h1:i<=x.length):(Txt.slice x (some i) none).cps.toList=x.cps.toList.drop i.toNat:=by
 have e:=PyProof.Rows.slice_from_eq (x:=x) (i:=i) (b:=x.length) h0 h1 Z;rw[e];show((x.cps.toList.drop i.toNat).take ((x.length:Int)-i).toNat)=_;refine YPw ?_;rw[YPT,YPD];have:x.length=x.cps.size:=rfl;omega
abbrev Sz:=J<|av×Int
def gg(s:Sz):J<|c_×V:=s.map λp=>(Sum.inr p.1,.int p.2)
def look(s:Sz)(z:av):ah Int:=(s.find? λp=>decide (p.1=z)).map (·.2)
def sM:Sz->av->Int->Sz
 |[],z,n=>[(z,n)]
 |p::s,z,n=>if p.1=z then (z,n)::s else p::sM s z n
theorem Xu(p:av×Int)(s:Sz)(z:av):look (p::s) z=if p.1=z then some p.2 else look s z:=by
 unfold look;rw[YP6];by_cases h:p.1=z;rw[de h,if_pos h];rfl;rw[dy h,if_neg h]
theorem YNS(s:Sz)(z y:av)(n:Int):look (sM s z n) y=if y=z then some n else look s y:=by
 induction s with
 |nil=>
  show look [(z,n)] y=_;rw[Xu];by_cases h:y=z;rw[if_pos h,if_pos h.symm];rw[if_neg h,if_neg<|λe=>h e.symm]
 |cons p s ih=>
  unfold sM;by_cases hp:p.1=z;rw[if_pos hp,Xu,Xu];by_cases h:y=z;rw[if_pos h,if_pos h.symm];rw[if_neg h,if_neg<|λe=>h e.symm,if_neg<|λe=>h<|e.symm.trans hp];rw[if_neg hp,Xu,Xu,ih];by_cases h:y=z;rw[if_pos h,if_neg<|λe=>hp<|e.trans h];rw[if_pos h];rw[if_neg h];simp only[if_neg h]
theorem YIY(h:look s z=some n):(z,n)∈s:=by
 unfold look at h;cases e:s.find? λp=>decide (p.1=z) with
 |none=>rw[e]at h;cases h
 |some p=>
  rw[e]at h;have h1:=List.find?_some e;have h2:p.1=z:=fF h1;have h3:p.2=n:=YO3 h;have:=List.mem_of_find?_eq_some e;rw[<-h2,<-h3];exact this
theorem YGh(h:look s z=none):¬z∈s.map (·.1):=by
 intro m;obtain⟨p,hp,e⟩:=YOt.mp m;unfold look at h;cases e2:s.find? λp=>decide (p.1=z) with
 |some q=>rw[e2]at h;cases h
 |none=>
  have:=List.find?_eq_none.mp e2 p hp;exact this<|de e
theorem YC3(z:av):∀s:Sz,Ye (gg s) (Sum.inr z)=(look s z).map V.int
 |[]=>rfl
 |p::s=>by
  show Ye ((Sum.inr p.1,V.int p.2)::gg s) (Sum.inr z)=_;rw[Xu];by_cases e:p.1=z;rw[ZT (by rw[e]),if_pos e];rfl;rw[ZU<|λh=>e<|Sum.inr.inj h,YC3 z s,if_neg e]
theorem oO{s:Sz}(nd:(s.map (·.1)).Nodup)(z:av)(n:Int):Yu (gg s) (Sum.inr z) (.int n)=gg (sM s z n):=by
 induction s with
 |nil=>rfl
 |cons p s ih=>
  rw[YOv,YOq]at nd;unfold sM;by_cases e:p.1=z;rw[if_pos e];have:Ye (gg<|p::s) (Sum.inr z)=some (.int p.2):=by
   show Ye ((Sum.inr p.1,V.int p.2)::gg s) (Sum.inr z)=_;rw[ZT (by rw[e])]
  unfold Yu;rw[Xy,this,if_pos (show(some<|V.int p.snd).isSome=true from Z)];show((Sum.inr p.1,V.int p.2)::gg s).map _=(Sum.inr z,V.int n)::gg s;rw[YOv];congr 1;show(if (Sum.inr p.1:c_)=Sum.inr z then _ else _)=_;rw[if_pos (by rw[e]),e];refine(YPN λq hq=>?_).trans<|List.map_id _;obtain⟨r,hr,rfl⟩:=YOt.mp hq;show(if (Sum.inr r.1:c_)=Sum.inr z then _ else _)=_;rw[if_neg];rfl;intro h;exact nd.1 (by rw[e,<-Sum.inr.inj h];exact YOt.mpr ⟨r,hr,Z⟩);rw[if_neg e];have ih:=ih nd.2;show Yu ((Sum.inr p.1,V.int p.2)::gg s) (Sum.inr z) (.int n)=(Sum.inr p.1,V.int p.2)::gg (sM s z n);rw[<-ih];unfold Yu;have R:(((Sum.inr p.1,V.int p.2)::gg s).any λkv=>decide (kv.1=(Sum.inr z:c_)))=(gg s).any λkv=>decide (kv.1=(Sum.inr z:c_)):=by
   rw[List.any_cons,dy<|λh=>e<|Sum.inr.inj h];rfl
  rw[R];split;rw[YOv];congr 1;show(if (Sum.inr p.1:c_)=Sum.inr z then _ else _)=_;rw[if_neg<|λh=>e<|Sum.inr.inj h];rfl
def da(p:av):Bool:=Txt.startswith p "'"
def bnd(q:Int)(n:Nat):Int:=(1+6*q)*7^n
theorem YKy{κ:Type}:∀{l:J κ}{k:κ},l.Nodup->¬k∈l->(l++[k]).Nodup
 |[],k,_,_=>by simp
 |a::r,k,h,hk=>by
  obtain⟨h1,h2⟩:=YOq.mp h;show(a::(r++[k])).Nodup;refine YOq.mpr ⟨λm=>?_,YKy h2 λm=>hk<|YOj.mpr<|Or.inr m⟩;rcases YOf.mp m with q|q
  exact h1 q;exact hk<|YOj.mpr<|Or.inl (YOT.mp q).symm
def mu(g:YV)(q:Int)(s:Sz):Nat:=(g.map λr=>match look s r.1 with
 |none=>(bnd q 60).toNat+1
 |some v=>v.toNat).sum
def h_(p:av):Nat:=p.cps.getD 1 0
end FR
namespace L2
open PySem PySem.Spec PyProof.Rows
section
variable {X:Cx}{O:J (al×Obj)}{σ:St}{H:L}{s:ar}{d:al}{o:Obj}{kvs:J (c_×V)}
theorem aW.freeze(I:aW X O σ H s)(hd:H d=some (.dK kvs))(ho:s.heap.get? d=some o):aW X O σ (upd H d<|.frz o<|.dK kvs) s:=by
 have nt:∀c xs,H c=some (.tup xs)->c≠d:=λc xs r z=>by rw[z,hd]at r;cases r
 refine I.write (x:=d) (e:=d) (h':=s.heap) (t':=s.toks) (by rw[hd];trivial) (.inl Z) (λ_ _ _ e=>e) ⟨o,ho⟩ ⟨ho,?_⟩;exact(I.hok d _ hd).stay (λ_ _ _ e=>e) (λb e=>by rw[YB<|Yg e hd nofun];exact e) λb xs e=>by rw[YB<|nt b xs e];exact e
end
theorem KV.get(r:KV kvs vs):∀{i:Nat}{kv:c_×V},kvs[i]?=some kv->∃u,vs[i]?=some (kv.1,u)/\Yx kv.2 u:=by
 unfold KV at r
 induction r with
 |nil=>intro i kv e;cases e
 |@cons p q ps qs h t ih=>
  intro i kv e;cases i with
  |zero=>
   cases e;exact⟨q.2,by rw[h.1];rfl,h.2⟩
  |succ j=>exact ih (i:=j) e
section
variable {X:Cx}{iY:J Expr}{k:Nat}{iV:Pos}
end
end L2
namespace FR
open PySem L2
def fW(ps:J av):J av:=ps.filter λp=>!da p
end FR
namespace L2
open PySem PySem.Spec PyProof.Rows
theorem YNT:mroOf (.type "reversed")=pure [.type "reversed",.type "object"]:=by rw[mroOf_type];kernel_rfl
theorem qv:typeLookup (.type "reversed") "__new__"=pure (some<|.builtin "reversed.__new__"):=by rw[typeLookup_type,builtinLookup_eq_fast];kernel_rfl
theorem nz:Slot "reversed" "__init__" "object.__init__":=.of (owner:="object") (n:="__init__") (by rw[typeLookup_type,builtinLookup_eq_fast];kernel_rfl) (by decide+kernel) (by decide+kernel) (by decide+kernel) (by first|exact .inl (by decide+kernel)|exact .inr (by decide+kernel)) (by rw[isSubtype_type];kernel_rfl)
theorem YGi:TypeCalled "reversed" "reversed.__new__" "object.__init__":=⟨by decide+kernel,by decide+kernel,⟨_,_,YNT⟩,madeBy_type YNT qv (by decide+kernel),by decide+kernel,by rw[isSubtype_type];kernel_rfl,nz⟩
theorem YIZ(a:ai):checkTypeCall "reversed" ⟨[a],[]⟩=pure ():=by kernel_rfl
theorem YJ3(a:ai):checkBuiltinCall "reversed.__new__" ⟨[.type "reversed",a],[]⟩=pure ():=by kernel_rfl
theorem YNU:entryFor table "reversed.__new__"=some Builtin.«reversed.__new__»:=entryFor_of_tree (by kernel_rfl)
theorem YNV:typeLookup (.type "tuple") "__reversed__"=pure none:=by rw[typeLookup_type,builtinLookup_eq_fast];kernel_rfl
theorem YNW:typeLookup (.type "tuple") "__getitem__"=pure (some<|.builtin "tuple.__getitem__"):=by rw[typeLookup_type,builtinLookup_eq_fast];kernel_rfl
theorem YNX:isSubtype (.type "tuple") (.type "dict")=pure false:=by rw[isSubtype_type];kernel_rfl
theorem YIa:Slot "reversed" "__iter__" "reversed.__iter__":=.of (owner:="reversed") (n:="__iter__") (by rw[typeLookup_type,builtinLookup_eq_fast];kernel_rfl) (by decide+kernel) (by decide+kernel) (by decide+kernel) (by first|exact .inl (by decide+kernel)|exact .inr (by decide+kernel)) (by rw[isSubtype_type];kernel_rfl)
theorem Dh:Slot "reversed" "__next__" "reversed.__next__":=.of (owner:="reversed") (n:="__next__") (by rw[typeLookup_type,builtinLookup_eq_fast];kernel_rfl) (by decide+kernel) (by decide+kernel) (by decide+kernel) (by first|exact .inl (by decide+kernel)|exact .inr (by decide+kernel)) (by rw[isSubtype_type];kernel_rfl)
theorem o9:entryFor table "reversed.__iter__"=some Builtin.«dict_keyiterator.__iter__»:=entryFor_alias (id':="dict_keyiterator.__iter__") (by kernel_rfl) Z (by decide+kernel) (by kernel_rfl)
theorem YKz:entryFor table "reversed.__next__"=some Builtin.«reversed.__next__»:=entryFor_of_tree (by kernel_rfl)
theorem qo(a:ai):argsOk "reversed.__iter__" ⟨[a],[]⟩:=by unfold argsOk;kernel_rfl
theorem YK0(a:ai):argsOk "reversed.__next__" ⟨[a],[]⟩:=by unfold argsOk;kernel_rfl
theorem YEO(l:al)(items:Array ai)(o:Obj)(n:Nat)(hc:o.cls=.type "tuple")(hd:o.data=.seq items n)(hz:(items.size:Int)<2^63):
  Meets (Builtin.«reversed.__new__» ⟨[.type "reversed",.ref l],[]⟩) (λA Dt s=>s.heap.get? l=some o/\
   Dt (.ok<|.ret<|.ref s.heap.objs.size) { s with heap:=s.heap.push { cls:=.type "reversed",data:=.fields #[.ref l,rawInt ((items.size:Int)-1)] },toks:=s.toks+1+1 }):=
 .of_wp λprog w A Dt s h=>by
  obtain⟨hp,g,d,tk,os⟩:=s;obtain⟨hl,h⟩:=h;have hsub:=YGi.sub;have hT:Shared.TypeIs ⟨hp,g,d,tk,os⟩ (.ref l) "tuple":=⟨_,hl,hc⟩;have h1:=YNV;have h2:=YNW;have h3:=YNX;have ht:IsTup (Shared.heap ⟨hp,g,d,tk,os⟩) l items:=⟨o,hl,hc,n,hd⟩
  wp_walk using len_tuple ht hz
  exact⟨_,Z,h⟩
section
variable {prog:Program}{w:World}{A:Around}{E:ai->ar->Prop}{s:ar}
theorem nX{α:Type}{Q:α->ar->Prop}{E':ai->ar->Prop}(hh:A.handled=none)(h:∀e h',(∀b o,s.heap.get? b=some o->h'.get? b=some o)->Shared.TypeIs { s with heap:=h' } e "StopIteration"->E' e { s with heap:=h' }):
  wpAny (model prog w) A (Builtin.SmallTypes.stopIteration:Sem α) Q E' s:=by
 unfold Builtin.SmallTypes.stopIteration;refine YOh ?_;simp only[newExc,newTuple];refine YOh<|wpAny_newObj_type (YOh (m:=firstArgMember _ _)<|wpAny_of_eq (a:=Value.none) (by first|rfl|(simp only[firstArgMember];rfl))<|wpAny_newObj_type ?_ (by size_fits)) (by size_fits);simp only[raiseNew];refine YOh<|wpAny_handled ?_;rw[hh];refine YOh<|YO0<|wpAny_throw<|h _ _ (λb o e=>YOi _<|YOi _ e) ?_;exact⟨_,YOy _ Z,Z⟩
def kf(h:Heap)(it l:al)(i:Int):Prop:=∃o,h.get? it=some o/\o.cls=.type "reversed"/\o.data=.fields #[.ref l,.int i 0]
theorem YFI{Q:ai->ar->Prop}(hl:IsTup s.heap l items)(hz:(items.size:Int)<2^63)
  (h:∀h',kf h' s.heap.objs.size l ((items.size:Int)-1)->(∀b o,s.heap.get? b=some o->h'.get? b=some o)->Q (.ref s.heap.objs.size) { s with heap:=h',toks:=s.toks+1+1 }):wpAny (model prog w) A (call (.type "reversed") [.ref l]) Q E s:=by
 obtain⟨o,ho,hc,n,hd⟩:=hl;refine callType_new YGi (by decide) (YIZ _) (YJ3 _) (λobj=>F.args_object_init_2 obj _) YNU (YEO l items o n hc hd hz) ⟨ho,?_⟩;exact⟨⟨_,YOy _ Z,Z⟩,h _ ⟨_,YOy _ Z,Z,Z⟩ λb o e=>YOi _ e⟩
theorem YGj{Q:ai->ar->Prop}(Dp:kf s.heap it l i)(h:Q (.ref it) s):wpAny (model prog w) A (pyIter<|.ref it) Q E s:=by
 obtain⟨o,ho,hc,hd⟩:=Dp;have hT:s.TypeIs (.ref it) "reversed":=⟨o,ho,hc⟩;refine wpAny_pyIter_slot hT YIa<|wpAny_call_entry YIa hT o9 ?_ (qo _);show wpAny _ _ (ret<|.ref it) _ _ s;exact YO0 ⟨_,Z,"reversed",_,hT,Dh.lookup,h⟩
theorem YMD{it l:al}{i:Nat}{items:Array ai}{x:ai}{Q:ah ai->ar->Prop}(Dp:kf s.heap it l i)(hl:IsTup s.heap l items)(U:items[i]?=some x)(hz:(items.size:Int)<2^63)
  (hQ:∀h',kf h' it l ((i:Int)-1)->Heap.SameBut it s.heap h'->Q (some x) { s with heap:=h',toks:=s.toks+1 }):wpAny (model prog w) A (pyNext<|.ref it) Q E s:=by
 obtain⟨o,ho,hc,hd⟩:=id Dp;have hT:s.TypeIs (.ref it) "reversed":=⟨o,ho,hc⟩;unfold pyNext;refine YOh<|wpAny_attempt<|wpAny_callSpecial?_slot (name:=Str.ofString "__next__") hT Dh<|wpAny_call_entry Dh hT YKz ?_ (YK0 _);unfold Builtin.«reversed.__next__»;refine YOh<|YO0<|YOh<|wpAny_field ho hd (x:=.ref l) rfl<|YOh<|wpAny_field ho hd (x:=.int i 0) rfl ?_;show wpAny _ _ (if ((i:Nat):Int)<0 then _ else _) _ _ s;rw[if_neg (by lia)];refine YOh<|wpAny_specialOf hl.typeIs YNW ?_;show wpAny _ _ (mkInt (i:Int) >>= _) _ _ s;refine YOh<|wpAny_mkInt ?_;have Dm:i<items.size:=(YQN.mp U).1;have hsi:seqIndex? (i:Int) items.size=some i:=by
  unfold seqIndex?;simp;lia
 refine YOh<|wpAny_attempt<|getItem_tuple (s:={ s with toks:=s.toks+1 }) hl (by lia) (by lia) hsi U ?_;refine YOh<|wpAny_field (s:={ s with toks:=s.toks+1 }) ho hd (x:=.int i 0) rfl ?_;exact YOh<|wpAny_setField (s:={ s with toks:=s.toks+1 }) ho hd (by simp)<|YO0 ⟨_,Z,YO0<|hQ _ ⟨_,YQL _ ho<|Obj.isFreed_of_fields<|Obj.data_mapFields hd _,(Obj.cls_mapFields ..).trans hc,by rw[Obj.data_mapFields hd];simp[rawInt]⟩<|Heap.SameBut.update ..⟩
theorem YNY{Q:ah ai->ar->Prop}(hh:A.handled=none)(Dp:kf s.heap it l<|-1)(hQ:∀h',Heap.ExtBut it s.heap h'->Q none { s with heap:=h' }):wpAny (model prog w) A (pyNext<|.ref it) Q E s:=by
 obtain⟨o,ho,hc,hd⟩:=id Dp;have hT:s.TypeIs (.ref it) "reversed":=⟨o,ho,hc⟩;unfold pyNext;refine YOh<|wpAny_attempt<|wpAny_callSpecial?_slot (name:=Str.ofString "__next__") hT Dh<|wpAny_call_entry Dh hT YKz ?_ (YK0 _);unfold Builtin.«reversed.__next__»;refine YOh<|YO0<|YOh<|wpAny_field ho hd (x:=.ref l) rfl<|YOh<|wpAny_field ho hd (x:=.int (-1) 0) rfl ?_;show wpAny _ _ (if (-1:Int)<0 then _ else _) _ _ s;rw[if_pos (by decide)];refine YOh<|wpAny_rule<|YOh (show wpAny _ _ (setField (.ref it) 1 (rawInt<|-1) >>= λ_=>setField (.ref it) 0 Value.none) _ _ s from YOh (wpAny_setField ho hd (by simp) ?_));have jL:=YQL (h:=s.heap) (a:=it) (o:=o) (λo=>o.mapFields λvs=>vs.set! 1<|rawInt<|-1) ho<|Obj.isFreed_of_fields<|Obj.data_mapFields hd _;have hd2:(Obj.mapFields (λvs=>vs.set! 1<|rawInt<|-1) o).data=.fields #[.ref l,rawInt<|-1]:=by rw[Obj.data_mapFields hd];simp
 have b1:Heap.SameBut it s.heap<|s.heap.update it λo=>Obj.mapFields (λvs=>vs.set! 1<|rawInt<|-1) o:=Heap.SameBut.update ..;refine wpAny_setField (s:={ s with heap:=s.heap.update it λo=>Obj.mapFields (λvs=>vs.set! 1<|rawInt<|-1) o }) jL hd2 (by simp)<|YOh<|nX (A:=A.in1) hh λe h' k ty=>?_;refine YOh<|wpAny_isInstance (b:=true) ty isSubtype_stop<|YO0<|hQ h' λb o hb q=>k b o ?_;exact((Heap.SameBut.update ..).2 b hb).trans<|(b1.2 b hb).trans q
end
section
variable {prog:Program}{w:World}{A:Around}{E:ai->ar->Prop}{s:ar}
end
def lx(K:W.Frag)(a:al)(n:Nat):It:=
 ⟨λi H=>∃xs,cy K H a xs/\xs.length=n/\i<n,λi H x H'=>H'=H/\∀xs,cy K H a xs->xs[n-1-i]?=some x,λi _=>i=n⟩
theorem YME{P:Program}{w:World}{K:W.Frag}{tg:Expr}(a it:al)(n:Nat):kF P w K tg (lx K a n) [it] it (λi h=>kf h it a<|(n:Int)-1-i) where
 mem:=by simp
 obj:=λi h st b hb=>by
  have e:b=it:=by simpa using hb
  subst e;obtain⟨o,e,c,d⟩:=st;exact⟨o,e,λv z=>by rw[d]at z;cases z⟩
 keep:=λi h h' st k=>by
  obtain⟨o,e,r⟩:=st;exact⟨o,k it (by simp) o e,r⟩
 item:=by
  intro X hP hw hK hc i O s σ H E I hf st hg;subst hP hw hK;obtain⟨xs,hq,hn,hi⟩:=hg;obtain⟨its,rv,p,hz⟩:=I.tuple hq;have U:xs[n-1-i]?=some xs[n-1-i]:=YOW (by lia);obtain⟨u,hu,ru⟩:=rv.get U;obtain⟨f0,f1,f2,f3,f4,f5⟩:=hf it (by simp);have e:(n:Int)-1-(i:Nat)=((n-1-i:Nat):Int):=by lia
  rw[e]at st;have hlen:=rv.length;have wI:=vE;refine YMD st p (x:=u) (by simpa using hu) (by rw[YOp];lia) λh' st' sb=>?_;have e2:((n-1-i:Nat):Int)-1=(n:Int)-1-((i+1:Nat):Int):=by lia
  rw[e2]at st';have I1:aW X O σ H { s with heap:=h',toks:=s.toks+1 }:=I.turned (t':=s.toks+1) (λb o hb e=>(sb.2 b hb).trans e) f0 f1 f3 f4 f5;obtain⟨o,eo,c,d⟩:=id st';exact⟨u,Z,AS (s:={ s with heap:=h',toks:=s.toks+1 }) eo c d (by decide) ⟨_,H,I1,ru,⟨Z,λys hy=>by rw[I.tuple_inj hy hq];exact U⟩,st',λb hb=>(hf b hb).1⟩⟩
 done:=by
  intro X hP hw hK hc i O s σ H E I hf st hg;subst hP hw hK hg;obtain⟨f0,f1,f2,f3,f4,f5⟩:=hf it (by simp);have e:((i:Nat):Int)-1-(i:Nat)=-1:=by lia
  rw[e]at st;exact YNY (I.ok.hd hc) st λh' eb=>⟨Z,I.turned (t':=s.toks) (λb o hb e=>eb b o hb e) f0 f1 f3 f4 f5⟩
 self:=λ_ _ _ _ _ st h=>YGj st h
section
variable {X:Cx}{tg:Expr}
def Cu(K:W.Frag)(ta:TA):TI:=λσ H Dt=>ta σ H λvs H1=>∃a xs,vs=[.ref a]/\cy K H1 a xs/\Dt (lx K a xs.length) H1
theorem YK1(K:W.Frag)(hK:X.K=K){a:Expr}{ta:TA}{p pos:Pos}(hg:Gl X "reversed")(hm:X.mg "reversed"=none)(ha:PA X [a] ta)(hs:starEach [a] X.env=[(false,eval a X.env)]:=by rfl):
  PI X tg (.Call (.Name "reversed" p) [a] [] pos) (Cu K ta):=by
 subst hK;intro O s σ H Dt I h;refine Call_<|vF I hg hm PyProof.Rows.Boot.«reversed»<|PyProof.Rows.callWith_type1 (cJ (ha pos O s σ H _ I h) λus s1 ⟨vs,H1,I1,r1,q1⟩=>?_) hs rfl;obtain⟨l,xs,rfl,hq,q⟩:=q1;obtain⟨u,rfl,ru⟩:=j2 r1;cases ru;obtain⟨its,rv,pl,hz⟩:=I1.tuple hq;have hlen:xs.length=its.length:=rv.length;have wI:=vE;refine YFI pl (by rw[YOp];lia) λh' Dp hk=>?_;have I2:aW X O σ H1 { s1 with heap:=h',toks:=s1.toks+1+1 }:=I1.kept (t':=s1.toks+1+1) hk;refine YGj Dp ?_;refine⟨s1.heap.objs.size,[s1.heap.objs.size],_,_,H1,Z,I2,YME l _ xs.length,by simpa [hlen] using Dp,λb hb=>?_,q⟩;have eb:b=s1.heap.objs.size:=by simpa using hb
 subst eb;exact I1.fpOk (YOY _)<|I1.hok.fresh<|YOY _
end
theorem i9{xs:J V}{i:Nat}{x:V}(hi:i<xs.length)(h:xs[xs.length-1-i]?=some x):xs.reverse[i]?=some x:=by rw[List.getElem?_reverse hi];exact h
theorem YIb{K:W.Frag}{a:al}{xs:J V}{g:TG}{tb:TS}{D:Ja}{σ:St}{H:L}(Pv:Nat->St->L->Prop)(h0:Pv 0 σ H)(hl:∀i σ H,i<=xs.length->Pv i σ H->cy K H a xs)
  (hs:∀i x σ H,xs.reverse[i]?=some x->Pv i σ H->g x σ H λσ2 H2=>tb { D with nx:=Pv (i+1),ct:=Pv (i+1),bk:=D.nx } σ2 H2)(hd:∀σ H,Pv xs.length σ H->D.nx σ H):
  ∃W:Nat->Nat->St->L->Prop,(∃m,W 0 m σ H)/\∀i m σ H,W i m σ H->
   ((lx K a xs.length).stop i H/\D.nx σ H)\/((lx K a xs.length).go i H/\∃N:St->L->Prop,(∀σ' H',N σ' H'->∃m',m'<m/\W (i+1) m' σ' H')/\∀x H',(lx K a xs.length).yld i H x H'->g x σ H' λσ2 H2=>tb { D with nx:=N,ct:=N,bk:=D.nx } σ2 H2):=by
 refine⟨λi m σ H=>m=xs.length-i/\i<=xs.length/\Pv i σ H,⟨xs.length,by simp,YOn _,h0⟩,?_⟩;rintro i m σ H ⟨rfl,hi,p⟩;have q:=hl i σ H hi p;by_cases Dm:i<xs.length;refine .inr ⟨⟨xs,q,Z,Dm⟩,Pv<|i+1,λσ' H' p'=>⟨xs.length-(i+1),by lia,Z,Dm,p'⟩,λx H' y=>?_⟩;obtain⟨e,y⟩:=y;subst e;exact hs i x σ _ (i9 Dm<|y xs q) p;have e:i=xs.length:=by lia
 subst e;exact .inl ⟨Z,hd σ H p⟩
end L2
namespace FR
open PySem L2
def InK(e:Sz)(r:Ju):Prop:=∀p∈r.2.1,da p=false->p∈e.map (·.1)
theorem YGk(h:z∈s.map (·.1)):∃v,look s z=some v:=by
 cases e:look s z with
 |some v=>exact⟨v,Z⟩
 |none=>exact absurd h<|YGh e
def rank:Sz->av->Nat
 |[],_=>0
 |p::s,z=>if p.1=z then 0 else rank s z+1
def wt(e:Sz)(z:av):Nat:=7^(rank e z+1)
def xb(g:YV)(e:Sz)(z:av)(k:Nat):Bool:=match g[k]? with
 |none=>false
 |some r=>decide (r.1=z)&&r.2.1.all λp=>da p || (look e p).isSome
def k9(g:YV)(e:Sz)(z:av)(n:Nat):J Nat:=(List.range n).filter<|xb g e z
theorem YMF(h:k∈k9 g e z n):∃r,g[k]?=some r/\r.1=z/\InK e r:=by
 obtain⟨_,hb⟩:=YO4.mp h;unfold xb at hb;cases hr:g[k]? with
 |none=>rw[hr]at hb;cases hb
 |some r=>
  rw[hr]at hb;have hb:(decide (r.1=z)&&r.2.1.all λp=>da p || (look e p).isSome)=true:=hb;rw[YOl,fQ]at hb;refine⟨r,Z,hb.1,λp hp hq=>?_⟩;have:=YO8.mp hb.2 p hp;rw[hq,Bool.false_or]at this;obtain⟨v,hv⟩:=YPm.mp this;exact YOt.mpr ⟨_,YIY hv,Z⟩
theorem YNZ(hr:g[k]?=some r)(hz:r.1=z)(Do:InK e r):k∈k9 g e z g.length:=by
 have Dm:=(YOX.mp hr).1;refine YO4.mpr ⟨YO9.mpr Dm,?_⟩;unfold xb;rw[hr];show(decide (r.1=z)&&r.2.1.all λp=>da p || (look e p).isSome)=true;rw[de hz,Bool.true_and,YO8];intro p hp;cases hq:da p with
 |true=>rfl
 |false=>
  obtain⟨v,hv⟩:=YGk<|Do p hp hq;rw[hv];rfl
end FR
namespace L2
open PySem PySem.Spec PyProof.Rows
section
variable {prog:Program}{w:World}{A:Around}{E:ai->ar->Prop}{s:ar}
end
section
variable {X:Cx}{iY:J Expr}{k:Nat}{iV:Pos}
end
theorem YNa{K:W.Frag}{a:al}{xs:J V}{g:TG}{tb:TS}{D:Ja}{σ:St}{H:L}(Pv:Nat->St->L->Prop)(h0:Pv 0 σ H)(hl:∀i σ H,i<=xs.length->Pv i σ H->aX K H a xs)
  (hs:∀i x T σ H,xs[i]?=some x->H T=none->Pv i σ H->g (.ref T) σ (upd H T<|.tup [.int (i:Nat),x]) λσ2 H2=>tb { D with nx:=Pv (i+1),ct:=Pv (i+1),bk:=D.nx } σ2 H2)(hd:∀σ H,Pv xs.length σ H->D.nx σ H):
  ∃W:Nat->Nat->St->L->Prop,(∃m,W 0 m σ H)/\∀i m σ H,W i m σ H->
   ((Dj K a).stop i H/\D.nx σ H)\/((Dj K a).go i H/\∃N:St->L->Prop,(∀σ' H',N σ' H'->∃m',m'<m/\W (i+1) m' σ' H')/\∀x H',(Dj K a).yld i H x H'->g x σ H' λσ2 H2=>tb { D with nx:=N,ct:=N,bk:=D.nx } σ2 H2):=by
 refine⟨λi m σ H=>m=xs.length-i/\i<=xs.length/\Pv i σ H,⟨xs.length,by simp,YOn _,h0⟩,?_⟩;rintro i m σ H ⟨rfl,hi,p⟩;have q:=hl i σ H hi p;by_cases Dm:i<xs.length;refine .inr ⟨⟨xs,xs[i],q,by simp[Dm]⟩,Pv<|i+1,λσ' H' p'=>⟨xs.length-(i+1),by lia,Z,Dm,p'⟩,λx H' y=>?_⟩;obtain⟨T,hT,rfl,k⟩:=y;obtain⟨x,U,rfl⟩:=k xs q;exact hs i x T σ H U hT p;have e:i=xs.length:=by lia
 subst e;exact .inl ⟨⟨xs,q,YOY _⟩,hd σ H p⟩
end L2
namespace FR
open PySem L2
def nV(k:Nat):V:=.int (k:Int)
theorem Zh(h:Z9 r=true):r.2.1.length<=6/\∀p∈r.2.1,Yn p=true:=by
 unfold Z9 at h;simp only[YOl,fQ]at h;exact⟨h.2.1.1,YO8.mp h.2.1.2⟩
theorem BN(h:Z9 r=true):cE r.1=true:=by
 unfold Z9 at h;rw[YOl]at h;exact h.1
theorem xy:decide (V.str x=V.str y)=decide (x=y):=by
 by_cases h:x=y;rw[de h,de (by rw[h])];rw[dy h,dy<|λe=>h<|V.str.inj e]
theorem X5(z:av):da z=decide (z.cps.toList[0]?=some 39):=by
 have e0:(("'":av))=⟨#[39]⟩:=by decide+kernel
 unfold da;rw[e0,YPU,fQ];have:=StrLaws.subAt_one z 39 0;unfold Txt.startswith;rw[YOl,fQ];exact this
theorem X6{p:av}(h:Yn p=true):∃c,f_ p.cps.toList 0=some c/\p.length<=8/\decide (V.str ⟨#[c]⟩=V.str "'")=da p:=by
 have h8:=YIU h;have h1:0<p.cps.toList.length:=by
  rw[YPD];unfold Yn at h;rw[YP8]at h;rcases h with h|h
  unfold Xn at h;rw[YOl,YOl]at h;have:p.cps.size=2:=eq_of_beq h.1.1;omega;unfold cE at h;rw[YOl,YOl]at h;have:1<=p.cps.size:=fF h.1.1;omega
 have e:p.cps.toList[0]?=some p.cps.toList[0]:=YOW h1;refine⟨p.cps.toList[0],Y2 (j:=0) e,h8,?_⟩;rw[X5,e,xy];have e0:(("'":av))=⟨#[39]⟩:=by decide+kernel
 rw[e0];by_cases hc:p.cps.toList[0]=39;rw[de (by rw[hc]),de (by rw[hc])];rw[dy<|λz=>hc (by injection z with z;simpa using z),dy<|λz=>hc<|YO3 z]
theorem YED{p:av}(h:Yn p=true)(hq:da p=true):f_ p.cps.toList 1=some (h_ p):=by
 unfold Yn at h;rw[YP8]at h;rcases h with h|h
 unfold Xn at h;rw[YOl,YOl]at h;have h2:p.cps.size=2:=eq_of_beq h.1.1;have h1:1<p.cps.toList.length:=by rw[YPD];omega
 have e:p.cps.toList[1]?=some p.cps.toList[1]:=YOW h1;have e2:h_ p=p.cps.toList[1]:=by
  unfold h_;rw[Array.getD_eq_getD_getElem?,<-YPX,e];rfl
 rw[e2];exact Y2 (j:=1) e;rw[X5]at hq;have hq:=fF hq;unfold cE at h;rw[YOl]at h;exact absurd (YO8.mp h.2 39<|YOc hq) (by decide)
theorem YFK(h:cE z=true):da z=false:=by
 rw[X5];refine dy λe=>?_;unfold cE at h;rw[YOl]at h;exact absurd (YO8.mp h.2 39<|YOc e) (by decide)
theorem YA2(h:cE z=true):Yn z=true:=by
 unfold Yn;rw[h,Bool.or_true]
theorem Z3{g:YV}{r:Ju}{i:Nat}(hg:ZB g=true)(er:g[i]?=some r):Z9 r=true:=by
 unfold ZB at hg;rw[YOl]at hg;exact YO8.mp hg.2 r<|YOc er
theorem JO{H:L}{xs:J V}{g:YV}(hds:YX H xs<|g.map ZW){k:Nat}{r:Ju}(er:g[k]?=some r):∃t p,f_ xs (k:Int)=some (.ref t)/\H t=some (.tup [.str r.1,.ref p,.int r.2.2])/\H p=some (.tup<|r.2.1.map V.str):=by
 have jw:xs.length=g.length:=by rw[hds.len,YOS]
 have Qg:k<xs.length:=by rw[jw];exact(YOX.mp er).1
 have hix:xs[k]?=some xs[k]:=YOW Qg;obtain⟨r',t,p,kZ,Wy,ht,hpp⟩:=YKr hds hix;rw[er]at kZ;cases kZ;exact⟨t,p,by rw[<-Wy];exact Y2 hix,ht,hpp⟩
theorem six(hg:ZB g=true):∀r∈g,r.2.1.length<=6:=λr hr=>by
 unfold ZB at hg;rw[YOl]at hg;exact(Zh<|YO8.mp hg.2 r hr).1
inductive XB(g:YV):List Str->List Nat->List Nat->Prop
 |nil:XB g [] [] []
 |sign {p:Str}{ws:List Str}{ks sg:List Nat}:da p=true->XB g ws ks sg->XB g (p::ws) ks (h_ p::sg)
 |name {r:Ju}{ws:List Str}{k:Nat}{ks sg:List Nat}:da r.1=false->g[k]?=some r->XB g (r.2.1++ws) ks sg->XB g (r.1::ws) (k::ks) sg
end FR
namespace L2
open PySem PySem.Spec PyProof.Rows
section
variable {X:Cx}{O:J (al×Obj)}{σ:St}{H:L}{s:ar}{a b:al}{kvs:J (J c_×V)}{k:J c_}{u r:ai}{v:V}{A:Around}{E:ai->ar->Prop}
theorem YC4{prog:Program}{w:World}{d a:al}{xs:J (J c_×al×ai)}{k:J c_}{v:ai}{Q:ai->ar->Prop}(hu:(tupleKind<|Yk prog w).room A)(hkey:(tupleKind<|Yk prog w).is s.heap k a)(hm:s.heap.DictOfH (tupleKind<|Yk prog w) d xs)
  (hT:∀p,atKey xs k=some p->Q p.2 { s with toks:=s.toks+(tupleKind (Yk prog w)).draws k })
  (hN:atKey xs k=none->∀h',h'.DictOfH (tupleKind<|Yk prog w) d (storedH xs k a v)->Heap.SameBut d s.heap h'->Q v { s with heap:=h',toks:=s.toks+(tupleKind (Yk prog w)).draws k })
  (hsz:xs.length<=sizeLine):wpAny (model prog w) A (dictSetDefault d (.ref a) v) Q E s:=by
 obtain⟨o,es,ep,ho,hc,hd,he,his,hn⟩:=hm;unfold dictSetDefault
 try with_reducible refine wpAny_holding ?_
 refine YOh<|(tupleKind<|Yk prog w).pyHash hu hkey<|YOh<|wpAny_dictFind_heap (s:={ s with toks:=s.toks+(tupleKind (Yk prog w)).draws k }) hu hkey ho hd he his hn ?_ ?_;intro hno;have hnot:k∉xs.map (·.1):=not_mem_keys_of_get hno;refine YOh (wpAny_rule (YOh (wpAny_updateDictKeys (hz:=by have e:=size_of_entries he;lia) (s:={ s with toks:=s.toks+(tupleKind (Yk prog w)).draws k }) ho hd (YO0 (hN (atKey_none_of_get hno) _ ⟨_,_,ep+1,YQL _ ho<|Obj.isFreed_of_dict<|Obj.data_mapDictKeys hd _,
  hc.mapDictKeys _,Obj.data_mapDictKeys hd _,?_,?_,?_⟩<|Heap.SameBut.update ..)))))
 rw[storedH_new<|atKey_none_of_get hno];simp[he,entryOfKey];rw[storedH_new<|atKey_none_of_get hno];intro x U;rcases YOf.mp U with U|U
 exact(tupleKind<|Yk prog w).keeps (his x U) ho hd<|Heap.SameBut.update ..;cases YOT.mp U;exact(tupleKind<|Yk prog w).keeps hkey ho hd<|Heap.SameBut.update ..;rw[storedH_new<|atKey_none_of_get hno,YOk,YPH];refine⟨hn,by simp,λx U y hy e=>?_⟩;cases YOT.mp hy;exact hnot (by rw[show k=x from e.symm];exact U);intro j p hj;refine YOh<|wpAny_dictEntries (s:={ s with toks:=s.toks+(tupleKind (Yk prog w)).draws k }) ho hd ?_;rw[entry_at he j,hj];exact YOh<|wpAny_rule<|YO0<|hT _<|atKey_of_get hn hj
theorem YNb{Q:ai->ar->Prop}(hu:A.units+1<cLine)(I:aW X O σ H s)(e:H a=some (.dT kvs))(eb:H b=some (.tup<|k.map kV))(rv:Yx v r)(hl:kvs.length<sizeLine)
  (hT:∀w v' s',Ye kvs k=some v'->aW X O σ H s'->Yx v' w->Q w s')(hN:Ye kvs k=none->∀s',aW X O σ (upd H a<|.dT<|Yu kvs k v) s'->Q r s'):
  wpAny (model X.prog X.w) A (call (.builtin "dict.setdefault") [.ref a,.ref b,r]) Q E s:=by
 obtain⟨z,hd,xs,rel,dd⟩:=tT I.hok e;have hz:xs.length<=sizeLine:=by rw[<-Paired.length rel];exact z
 have hl2:(Yu kvs k v).length<=sizeLine:=by have:=Zr kvs k v;lia
 refine wpAny_call_entry YPr dd.typeIs PySem.F.entry_dict_setdefault ?_ (PySem.F.args_dict_setdefault_3 _ _ _);unfold Builtin.«dict.setdefault»;refine YOh ?_;unfold Builtin.Dict.keyAndDefault;refine YOh<|wpAny_notOrdered_dict dd.typeIs ?_;show wpAny _ _ (pure (a,Value.ref b,some r)) _ _ s;refine YO0 ?_;show wpAny _ _ (if (a==sysModules)=true then _ else (dictSetDefault a (.ref b) r >>= _)) _ _ s;rw[if_neg (by rw[hd];exact YOu)];refine YOh<|YC4 (tupleKind_room_in1 hu) (xu I.hok eb) dd (λp hp=>YO0 ⟨_,Z,?_⟩) (λhn h' lM hs=>YO0 ⟨_,Z,?_⟩) hz;have rl:=rel.val k;rw[hp]at rl;cases hv:Ye kvs k with
 |none=>rw[hv]at rl;exact rl.elim
 |some v'=>rw[hv]at rl;exact hT _ v' _ hv (I.tok _) rl
 have rl:=rel.val k;rw[hn]at rl;cases hv:Ye kvs k with
 |some v'=>rw[hv]at rl;exact rl.elim
 |none=>
  obtain⟨q,es,ep,hq,h2,h3,h4,_,h5⟩:=lM;refine hN hv _<|Ck I (by rw[e];exact True.intro) hs ⟨q,hq⟩ ⟨hl2,hd,_,(rel.put k eb rv).keeps λc ys ec=>?_,q,es,ep,hq,h2,h3,h4,h5⟩;rw[YB<|Yg ec e nofun];exact ec
end
def yn(td ty tx:TE):TE:=λσ H Q=>td σ H λx H1=>∃a,x=.ref a/\IsD H1 a/\ty σ H1 λy H2=>tx σ H2 λz H3=>∃kvs k b,H3 a=some (.dT kvs)/\y=.ref b/\H3 b=some (.tup<|k.map kV)/\kvs.length<sizeLine/\
 (∀v,Ye kvs k=some v->Q v H3)/\(Ye kvs k=none->Q z (upd H3 a<|.dT<|Yu kvs k z))
section
variable {X:Cx}{o e f:Expr}{bD bj:Pos}{td ty tx:TE}
theorem YC5(hu:X.A.units+1<cLine)(ho:PE X o td)(he:PE X e ty)(hf:PE X f tx)(m:M2 X o "setdefault" bD e f bj):PE X (.Call (.Attribute o "setdefault" bD) [e,f] [] bj)<|yn td ty tx:=by
 intro O s σ H Q I h;refine wpAny_Call_method m.base m.few m.line PySem.F.plainAttrs_dict YPr PySem.F.type_dict_setdefault<|cJ (ho O s σ H _ I h) ?_;rintro u s1 ⟨x,H1,I1,rx,a,ex,d,q1⟩;subst ex;obtain rfl:u=Value.ref a:=rx;obtain⟨t1,t2,_⟩:=YJp I1 d;refine⟨t1,t2,?_⟩;rw[m.trees];refine Calls.callWith_builtin Z (Calls.evalArgs_plain (Calls.spliced_cons<|cJ (he O s1 σ H1 _ I1 q1) λiv s2 ⟨y,H2,I2,ry,q2⟩=>
  Calls.spliced_cons (cJ (hf O s2 σ H2 _ I2 q2) ?_)))
 rintro fv s3 ⟨z,H3,I3,rz,kvs,k,b,R,ey,e2,hl,hT,hN⟩;refine Calls.spliced_nil ?_;subst ey;cases (show iv=Value.ref b from ry);exact YNb hu I3 R e2 rz hl (λw' v' s4 hv I4 j9=>⟨_,H3,I4,j9,hT v' hv⟩) λhn s4 I4=>⟨_,_,I4,rz,hN hn⟩
end
theorem YJ4(K:W.Frag)(hK:X.K=K){rd:V->V->L->VK->Prop}(ha:PE X o ta)(hv:PE X value tv)(hop:wo X op rd):PS X (.AugAssign (.Attribute o f iV) op value pos)<|YKf K ta tv rd f:=by subst hK;exact YLt ha hv hop
end L2
namespace FR
open PySem L2
inductive Nd where
 |part (p:Str) (i j:Nat)
 |beg (r d i j:Nat)
deriving DecidableEq
def Yd:Nd->J c_
 |.part p i j=>[.inr p,.inl (i:Int),.inl (j:Int)]
 |.beg r d i j=>[.inl (r:Int),.inl (d:Int),.inl (i:Int),.inl (j:Int)]
theorem J3(h:Yd x=Yd y):x=y:=by
 cases x <;> cases y <;> simp only[Yd,List.cons.injEq,Sum.inl.injEq,Sum.inr.injEq,Int.ofNat_inj,and_true,reduceCtorEq,and_false,false_and]at h
 obtain⟨h1,h2,h3⟩:=h;rw[h1,h2,h3];obtain⟨h1,h2,h3,h4⟩:=h;rw[h1,h2,h3,h4]
abbrev Hs:=J<|Nd×Nat
def fY(hs:Hs):J<|J c_×V:=hs.map λq=>(Yd q.1,.int (q.2:Int))
def YO(hs:Hs)(x:Nd):ah Nat:=(hs.find? λq=>decide (q.1=x)).map (·.2)
theorem B3(x:Nd):∀hs:Hs,Ye (fY hs) (Yd x)=(YO hs x).map λn:Nat=>V.int (n:Int)
 |[]=>rfl
 |q::hs=>by
  have ih:=B3 x hs;show Ye ((Yd q.1,V.int (q.2:Int))::fY hs) (Yd x)=_;by_cases e:q.1=x;rw[ZT (by rw[e])];unfold YO;rw[List.find?_cons_of_pos (by exact de e)];rfl;rw[ZU<|λz=>e<|J3 z,ih];unfold YO;rw[List.find?_cons_of_neg (by simp[e])]
theorem ZX(hs:Hs)(x y:Nd)(n:Nat)(h:YO hs y=none):YO (hs++[(y,n)]) x=if x=y then some n else YO hs x:=by
 unfold YO at h ⊢;rw[List.find?_append];by_cases e:x=y;subst e;have:hs.find? (λq=>decide (q.1=x))=none:=by simpa using h
 rw[this,if_pos Z];simp;rw[if_neg e];have:[((y,n):Nd×Nat)].find? (λq=>decide (q.1=x))=none:=by
  rw[List.find?_cons_of_neg (by rw[fQ];exactλz=>e z.symm)];rfl
 rw[this,Option.or_none]
theorem YNc{hs:Hs}{x:Nd}(n:Nat)(h:YO hs x=none):Yu (fY hs) (Yd x) (.int (n:Int))=fY (hs++[(x,n)]):=by
 rw[YCs _ (by rw[B3,h];rfl)];unfold fY;rw[YOk];rfl
theorem BD(h:YO hs x=some n):x∈hs.map (·.1):=by
 unfold YO at h;obtain⟨q,hq,rfl⟩:=YO2.mp h;have:=List.find?_some hq;exact YOt.mpr ⟨q,List.mem_of_find?_eq_some hq,fF this⟩
theorem Xa(h:x∈hs.map (·.1)):∃n,YO hs x=some n:=by
 cases e:YO hs x with
 |some n=>exact⟨n,Z⟩
 |none=>
  unfold YO at e;rw[Option.map_eq_none_iff,List.find?_eq_none]at e;obtain⟨q,hq,rfl⟩:=YOt.mp h;exact absurd (de Z)<|e q hq
theorem ZN:∀{l m:J Nd},l.Nodup->(∀x∈l,x∈m)->l.length<=m.length
 |[],_,_,_=>YOn _
 |x::l,m,h,hm=>by
  have U:=hm x YOZ;have hnd:=YOq.mp h;have ih:=ZN (l:=l) (m:=m.erase x) hnd.2 λy hy=>(List.mem_erase_of_ne λe=>hnd.1 (by rw[<-e];exact hy)).mpr<|hm y<|YOV _ hy;rw[List.length_erase_of_mem U]at ih;have:0<m.length:=List.length_pos_of_mem U;rw[YOx];omega
def ZM(g:YV)(r d:Nat):ah av:=(g[r]?).bind λru=>ru.2.1[d]?
def gp(c:Nat):av:=("'":av)++⟨#[c]⟩
def kT(g:YV)(cs:J Nat):J Nd:=(List.range<|cs.length+1).flatMap λi=>(List.range<|cs.length+1).flatMap λj=>
 (g.map (·.1)++cs.map gp).map (λp=>Nd.part p i j)++(List.range g.length).flatMap λr=>(List.range 7).map λd=>Nd.beg r d i j
def j1(g:YV)(cs:J Nat):Nd->Prop
 |.part p i j=>(p∈g.map (·.1)\/∃c,cs[i]?=some c/\p=gp c/\j=i+1)/\i<=j/\j<=cs.length
 |.beg r d i j=>(∃ru,g[r]?=some ru/\d<=ru.2.1.length)/\i<=j/\j<=cs.length
theorem YK2(h6:∀ru∈g,ru.2.1.length<=6)(h:j1 g cs x):x∈kT g cs:=by
 unfold kT;cases x with
 |part p i j=>
  obtain⟨hp,hij,hj⟩:=h;refine List.mem_flatMap.mpr ⟨i,YO9.mpr (by lia),List.mem_flatMap.mpr ⟨j,YO9.mpr (by lia),YOg _<|YOt.mpr ⟨p,?_,Z⟩⟩⟩;rcases hp with hp|⟨c,hc,rfl,_⟩
  exact YOg _ hp;exact YOe _<|YOt.mpr ⟨c,YOc hc,Z⟩
 |beg r d i j=>
  obtain⟨⟨ru,er,hd⟩,hij,hj⟩:=h;have h1:=h6 ru<|YOc er;have hr:=(YOX.mp er).1;exact List.mem_flatMap.mpr ⟨i,YO9.mpr (by lia),List.mem_flatMap.mpr ⟨j,YO9.mpr (by lia),YOe _<|List.mem_flatMap.mpr ⟨r,YO9.mpr hr,YOt.mpr ⟨d,YO9.mpr (by lia),Z⟩⟩⟩⟩
theorem YC7{α β:Type}{f:α->J β}{n:Nat}:∀{l:J α},(∀x∈l,(f x).length<=n)->(l.flatMap f).length<=l.length*n
 |[],_=>by simp
 |x::l,h=>by
  have ih:=YC7 (f:=f) (n:=n) (l:=l) λy hy=>h y<|YOV _ hy;have h1:=h x YOZ;rw[List.flatMap_cons,YOU,YOx,Nat.succ_mul];omega
theorem YIc{g:YV}{cs:J Nat}(hg:g.length<=60)(hc:cs.length<=60):(kT g cs).length<=2100000:=by
 unfold kT;have h1:∀i j:Nat,((g.map (·.1)++cs.map gp).map (λp=>Nd.part p i j)++(List.range g.length).flatMap λr=>(List.range 7).map λd=>Nd.beg r d i j).length<=540:=λi j=>by
  rw[YOU,YOS,YOU,YOS,YOS];have:=YC7 (f:=λr=>(List.range 7).map λd=>Nd.beg r d i j) (n:=7) (l:=List.range g.length) (λx _=>by rw[YOS,YPM];exact YOY _);rw[YPM]at this;lia
 have h2:∀i:Nat,((List.range<|cs.length+1).flatMap λj=>(g.map (·.1)++cs.map gp).map (λp=>Nd.part p i j)++(List.range g.length).flatMap λr=>(List.range 7).map λd=>Nd.beg r d i j).length<=32940:=λi=>by
  have:=YC7 (n:=540) (l:=List.range<|cs.length+1)<|λj _=>h1 i j;rw[YPM]at this;lia
 have:=YC7 (n:=32940) (l:=List.range<|cs.length+1)<|λi _=>h2 i;rw[YPM]at this;lia
def xE(g:YV)(cs:J Nat)(hs:Hs):Nd->Nat->Prop
 |.part p i j,v=>(v=0/\∃c,cs[i]?=some c/\p=gp c/\j=i+1)\/∃r ru m,g[r]?=some ru/\ru.1=p/\YO hs (.beg r ru.2.1.length i j)=some m/\v=m+1
 |.beg r d i j,v=>(d=0/\i=j/\v=0)\/∃d' k p a b,d=d'+1/\ZM g r d'=some p/\YO hs (.beg r d' i k)=some a/\YO hs (.part p k j)=some b/\v=max a b
theorem xE.mono(hm:∀x m,YO hs x=some m->YO hs' x=some m)(h:xE g cs hs x v):xE g cs hs' x v:=by
 cases x with
 |part p i j=>
  rcases h with h|⟨r,ru,m,R,e2,e3,e4⟩
  exact .inl h;exact .inr ⟨r,ru,m,R,e2,hm _ _ e3,e4⟩
 |beg r d i j=>
  rcases h with h|⟨d',k,p,a,b,R,e2,e3,e4,e5⟩
  exact .inl h;exact .inr ⟨d',k,p,a,b,R,e2,hm _ _ e3,hm _ _ e4,e5⟩
structure Cl(g:YV)(hs:Hs)(M:Nd->Prop):Prop where
 join:∀r d i k p j a b,M (.beg r d i k)->M (.part p k j)->ZM g r d=some p->YO hs (.beg r d i k)=some a->YO hs (.part p k j)=some b->∃v,YO hs (.beg r (d+1) i j)=some v/\v<=max a b
 up:∀r ru i j a,g[r]?=some ru->M (.beg r ru.2.1.length i j)->YO hs (.beg r ru.2.1.length i j)=some a->∃v,YO hs (.part ru.1 i j)=some v/\v<=a+1
structure fJ(g:YV)(cs:List Nat)(hs:Hs)(met fresh aa:List Nd)(h:Nat):Prop where
 nd:(hs.map (·.1)).Nodup
 pm:(hs.map (·.1)).Perm (met++(fresh++aa))
 vm:∀x∈met,∃v,YO hs x=some v/\v<=h
 vf:∀x∈fresh,YO hs x=some h
 vh:∀x∈aa,YO hs x=some (h+1)/\∃p i j,x=.part p i j
 leg:∀x v,YO hs x=some v->j1 g cs x
 why:∀x v,YO hs x=some v->xE g cs hs x v
theorem Z4(h:YO hs y=none):∀x m,YO hs x=some m->YO (hs++[(y,n)]) x=some m:=λx m e=>by
 rw[ZX _ _ _ _ h,if_neg (λz=>by rw[z,h]at e;cases e)];exact e
theorem Cl.snoc{M:Nd->Prop}(c:Cl g hs M)(h:YO hs y=none)(hM:∀x,M x->∃v,YO hs x=some v):Cl g (hs++[(y,n)]) M:=by
 have old:=Z4 (n:=n) h;have back:∀x a,M x->YO (hs++[(y,n)]) x=some a->YO hs x=some a:=λx a U e=>by
  obtain⟨v,hv⟩:=hM x U;have:=old _ _ hv;rw[e]at this;cases this;exact hv
 refine⟨λr d i k p j a b m1 m2 hp R e2=>?_,λr ru i j a er m1 R=>?_⟩;obtain⟨v,hv,hle⟩:=c.join r d i k p j a b m1 m2 hp (back _ _ m1 R)<|back _ _ m2 e2;exact⟨v,old _ _ hv,hle⟩;obtain⟨v,hv,hle⟩:=c.up r ru i j a er m1<|back _ _ m1 R;exact⟨v,old _ _ hv,hle⟩
theorem YFL{g:YV}{cs:J Nat}{hs:Hs}{met fresh aa:J Nd}{h:Nat}(m:fJ g cs hs met fresh aa h){x:Nd}{v:Nat}(e:YO hs x=some v):x∈met\/x∈fresh\/x∈aa:=by
 have:=m.pm.mem_iff.mp<|BD e;rw[YOf,YOf]at this;exact this
theorem fJ.stand{g:YV}{cs:J Nat}{hs:Hs}{met fresh aa:J Nd}{h:Nat}(m:fJ g cs hs met fresh aa h){y:Nd}(hy:YO hs y=none)(hl:j1 g cs y)(hw:xE g cs hs y h):fJ g cs (hs++[(y,h)]) met (fresh++[y]) aa h:=by
 have old:=Z4 (n:=h) hy;have ny:y∉hs.map (·.1):=λz=>by obtain⟨v,hv⟩:=Xa z;rw[hy]at hv;cases hv
 refine⟨?_,?_,λx U=>?_,λx U=>?_,λx U=>?_,λx v e=>?_,λx v e=>?_⟩;rw[YOk,YPH];refine⟨m.nd,by simp,λa ha b hb e=>?_⟩;cases YOT.mp hb;subst e;exact ny ha;rw[YOk];refine(m.pm.append_right _).trans ?_;show(met++(fresh++aa)++[y]).Perm (met++(fresh++[y]++aa));rw[YOw,YOw,YOw];exact(List.perm_append_comm.append_left fresh).append_left met;obtain⟨v,hv,hle⟩:=m.vm x U;exact⟨v,old _ _ hv,hle⟩;rcases YOf.mp U with U|U
 exact old _ _<|m.vf x U;cases YOT.mp U;rw[ZX _ _ _ _ hy,if_pos Z];obtain⟨h1,h2⟩:=m.vh x U;exact⟨old _ _ h1,h2⟩;rw[ZX _ _ _ _ hy]at e;split at e;rename_i z;rw[z];exact hl;exact m.leg x v e;rw[ZX _ _ _ _ hy]at e;split at e;rename_i z;cases e;rw[z];exact hw.mono old;exact(m.why x v e).mono old
theorem fJ.standUp{g:YV}{cs:J Nat}{hs:Hs}{met fresh aa:J Nd}{h:Nat}(m:fJ g cs hs met fresh aa h){p:av}{i j:Nat}(hy:YO hs (.part p i j)=none)(hl:j1 g cs<|.part p i j)(hw:xE g cs hs (.part p i j)<|h+1):fJ g cs (hs++[(.part p i j,h+1)]) met fresh (aa++[.part p i j]) h:=by
 have old:=Z4 (n:=h+1) hy;have ny:Nd.part p i j∉hs.map (·.1):=λz=>by obtain⟨v,hv⟩:=Xa z;rw[hy]at hv;cases hv
 refine⟨?_,?_,λx U=>?_,λx U=>old _ _<|m.vf x U,λx U=>?_,λx v e=>?_,λx v e=>?_⟩;rw[YOk,YPH];refine⟨m.nd,by simp,λa ha b hb e=>?_⟩;cases YOT.mp hb;subst e;exact ny ha;rw[YOk];refine(m.pm.append_right _).trans ?_;show(met++(fresh++aa)++[Nd.part p i j]).Perm (met++(fresh++(aa++[Nd.part p i j])));rw[YOw,YOw];obtain⟨v,hv,hle⟩:=m.vm x U;exact⟨v,old _ _ hv,hle⟩;rcases YOf.mp U with U|U
 obtain⟨h1,h2⟩:=m.vh x U;exact⟨old _ _ h1,h2⟩;cases YOT.mp U;exact⟨by rw[ZX _ _ _ _ hy,if_pos Z],_,_,_,Z⟩;rw[ZX _ _ _ _ hy]at e;split at e;rename_i z;rw[z];exact hl;exact m.leg x v e;rw[ZX _ _ _ _ hy]at e;split at e;rename_i z;cases e;rw[z];exact hw.mono old;exact(m.why x v e).mono old
theorem fJ.pop{g:YV}{cs:J Nat}{hs:Hs}{met fresh aa:J Nd}{h:Nat}{x:Nd}(m:fJ g cs hs met (fresh++[x]) aa h):fJ g cs hs (met++[x]) fresh aa h:=by
 refine⟨m.nd,m.pm.trans ?_,λy hy=>?_,λy hy=>m.vf y<|YOg _ hy,m.vh,m.leg,m.why⟩;rw[YOw,YOw];refine List.Perm.append_left met ?_;rw[<-YOw];exact(List.perm_append_comm (l₁:=fresh) (l₂:=[x])).append_right aa|>.trans (by rw[YOw])
 rcases YOf.mp hy with hy|hy
 exact m.vm y hy;cases YOT.mp hy;exact⟨h,m.vf x<|YOe _<|YOT.mpr rfl,YOY _⟩
theorem fJ.next(m:fJ g cs hs met [] aa h):fJ g cs hs met aa []<|h+1:=by
 refine⟨m.nd,?_,λx U=>?_,λx U=>(m.vh x U).1,λx U=>?_,m.leg,m.why⟩;have:=m.pm;rw[List.nil_append]at this;rw[YO6];exact this;obtain⟨v,h1,h2⟩:=m.vm x U;exact⟨v,h1,by lia⟩;cases U
theorem fJ.len{g:YV}{cs:J Nat}{hs:Hs}{met fresh aa:J Nd}{h:Nat}(m:fJ g cs hs met fresh aa h)(hg:ZB g=true)(hc:cs.length<=60):hs.length<=2100000/\met.length+fresh.length+aa.length=hs.length:=by
 have h1:∀x∈hs.map (·.1),x∈kT g cs:=λx U=>by
  obtain⟨v,hv⟩:=Xa U;exact YK2 (λru hr=>by
   obtain⟨k,hk⟩:=List.mem_iff_getElem?.mp hr;exact(Zh<|Z3 hg hk).1)<|m.leg x v hv
 have h2:=ZN m.nd h1;have h3:=YIc (Xp hg) hc;rw[YOS]at h2;have h4:=m.pm.length_eq;rw[YOS,YOU,YOU]at h4;exact⟨by lia,by lia⟩
theorem fJ.begLe{g:YV}{cs:J Nat}{hs:Hs}{met fresh aa:J Nd}{h:Nat}(m:fJ g cs hs met fresh aa h){r d i j v:Nat}(e:YO hs (.beg r d i j)=some v):v<=h:=by
 rcases YFL m e with U|U|U
 obtain⟨v',e',hle⟩:=m.vm _ U;rw[e]at e';cases e';exact hle;have:=m.vf _ U;rw[e]at this;cases this;exact YOY _;obtain⟨_,p,i,j,z⟩:=m.vh _ U;cases z
theorem fJ.anyLe{g:YV}{cs:J Nat}{hs:Hs}{met fresh aa:J Nd}{h:Nat}(m:fJ g cs hs met fresh aa h){x:Nd}{v:Nat}(e:YO hs x=some v):v<=h+1:=by
 rcases YFL m e with U|U|U
 obtain⟨v',e',hle⟩:=m.vm _ U;rw[e]at e';cases e';lia;have:=m.vf _ U;rw[e]at this;cases this;lia;have:=(m.vh _ U).1;rw[e]at this;cases this;exact YOY _
inductive jk where
 |fr|hi|bg (p:Str) (k:Nat)|en (p:Str) (k:Nat)
def kP(l a1:al)(h:Nat)(a2 a3 a4 a5:al):J<|av×V:=[(aw,.ref l),(aI,.ref a1),(aT,nV h),(bv,.ref a2),(bS,.ref a3),(ck,.ref a4),(cb,.ref a5)]
def ZQ(H:L)(ts:J al)(ns:J Nd):Prop:=ts.length=ns.length/\∀(i:Nat) (t:al) (x:Nd),ts[i]?=some t->ns[i]?=some x->H t=some (.tup<|(Yd x).map kV)
def kR(H:L)(ts:J al)(l:J<|Nat×Nat×Nat):Prop:=ts.length=l.length/\∀(i:Nat) (t:al) (q:Nat×Nat×Nat),ts[i]?=some t->l[i]?=some q->H t=some (.tup [nV q.1,nV q.2.1,nV q.2.2])
def fI(p:av)(k:Nat):J c_:=[.inr p,.inl (k:Int)]
theorem YK3(h:fI p k=fI p' k'):p=p'/\k=k':=by
 simp only[fI,List.cons.injEq,Sum.inr.injEq,Sum.inl.injEq,Int.ofNat_inj,and_true]at h;exact h
theorem ZQ.keep(h:ZQ H ts ns)(k:∀t ys,H t=some (.tup ys)->H' t=some (.tup ys)):ZQ H' ts ns:=⟨h.1,λi t x R e2=>k _ _<|h.2 i t x R e2⟩
theorem kR.keep(h:kR H ts l)(k:∀t ys,H t=some (.tup ys)->H' t=some (.tup ys)):kR H' ts l:=⟨h.1,λi t x R e2=>k _ _<|h.2 i t x R e2⟩
theorem ZQ.snoc(h:ZQ H ts ns)(ht:H t=some (.tup<|(Yd x).map kV)):ZQ H (ts++[t])<|ns++[x]:=by
 refine⟨by rw[YOU,YOU,h.1];rfl,λi t' x' R e2=>?_⟩;by_cases hi:i<ts.length;rw[YOr hi]at R;rw[YOr (by rw[<-h.1];exact hi)]at e2;exact h.2 i t' x' R e2;rw[YOm (by lia)]at R;rw[YOm (by rw[<-h.1];lia),<-h.1]at e2;have hz:i-ts.length=0:=by
  cases hh:i-ts.length with
  |zero=>rfl
  |succ j=>rw[hh]at R;simp at R
 rw[hz]at R e2;cases R;cases e2;exact ht
theorem kR.snoc(h:kR H ts ns)(ht:H t=some (.tup [nV x.1,nV x.2.1,nV x.2.2])):kR H (ts++[t])<|ns++[x]:=by
 refine⟨by rw[YOU,YOU,h.1];rfl,λi t' x' R e2=>?_⟩;by_cases hi:i<ts.length;rw[YOr hi]at R;rw[YOr (by rw[<-h.1];exact hi)]at e2;exact h.2 i t' x' R e2;rw[YOm (by lia)]at R;rw[YOm (by rw[<-h.1];lia),<-h.1]at e2;have hz:i-ts.length=0:=by
  cases hh:i-ts.length with
  |zero=>rfl
  |succ j=>rw[hh]at R;simp at R
 rw[hz]at R e2;cases R;cases e2;exact ht
theorem ZQ.pop(h:ZQ H (ts++[t])<|ns++[x]):ZQ H ts ns/\H t=some (.tup<|(Yd x).map kV):=by
 have hl:ts.length=ns.length:=by
  have:=h.1;rw[YOU,YOU]at this;simpa using this
 refine⟨⟨hl,λi t' x' R e2=>h.2 i t' x' (by rw[YOr (YOX.mp R).1];exact R) (by rw[YOr (YOX.mp e2).1];exact e2)⟩,?_⟩;exact h.2 ts.length t x (by rw[YOm<|YOY _,YPh];rfl) (by rw[YOm (by rw[hl];exact YOY _),hl,YPh];rfl)
abbrev gX:=av->Nat->J (Nat×Nat×Nat)
abbrev g7:=av->Nat->J Nat
def oK(H:L)(own:al->ah jk)(kvs:J<|J c_×V)(Dv:gX):Prop:=∀p k,(Ye kvs (fI p k)=none/\Dv p k=[])\/∃a ts,Ye kvs (fI p k)=some (.ref a)/\own a=some (.bg p k)/\H a=some (.lst<|ts.map V.ref)/\kR H ts (Dv p k)
def oA(H:L)(own:al->ah jk)(kvs:J<|J c_×V)(E:g7):Prop:=∀p k,(Ye kvs (fI p k)=none/\E p k=[])\/∃a,Ye kvs (fI p k)=some (.ref a)/\own a=some (.en p k)/\H a=some (.lst<|(E p k).map nV)
structure fq(C:Addr)(H0 H:L)(x l a1 a2 a3 a4 a5:Addr)(own:Addr->Option jk)(hs:Hs)(fresh aa:List Nd)(h:Nat)(Dv:gX)(E:g7)(N:Nat):Prop where
 sm:YF H0 H
 x_:∃B,H x=some (.ins C B<|kP l a1 h a2 a3 a4 a5)
 h1:H a1=some (.dT<|fY hs)
 h2:∃ts,H a2=some (.lst<|ts.map V.ref)/\ZQ H ts fresh
 h3:∃ts,H a3=some (.lst<|ts.map V.ref)/\ZQ H ts aa
 h4:∃kvs,H a4=some (.dT kvs)/\kvs.length<=N/\oK H own kvs Dv
 h5:∃kvs,H a5=some (.dT kvs)/\kvs.length<=N/\oA H own kvs E
 hb:∀p k,(Dv p k).length<=N/\(E p k).length<=N
 o2:own a2=some .fr
 o3:own a3=some .hi
 on:∀a t,own a=some t->H0 a=none/\∃xs,H a=some (.lst xs)
 nx:H0 x=none
 n1:H0 a1=none
 n4:H0 a4=none
 n5:H0 a5=none
 d14:a1≠a4
 d15:a1≠a5
 d45:a4≠a5
 pl:∀b o,H b=some o->b=a1\/b=a4\/b=a5\/Y0 o=true
theorem Yl(h:Y0 o=true):∀b u,upd H c o b=some u->H b=some u\/Y0 u=true:=λb u e=>by
 by_cases hb:b=c;subst hb;rw[YA]at e;cases e;exact .inr h;rw[YB hb]at e;exact .inl e
section
variable {C:al}{H0 H H':L}{x l a1 a2 a3 a4 a5:al}{own:al->ah jk}{hs:Hs}{fresh aa:J Nd}{h:Nat}{Dv:gX}{E:g7}{N:Nat}
theorem oK.keep(b:oK H own kvs Dv)(kl:∀a p k ys,own a=some (.bg p k)->H a=some (.lst ys)->H' a=some (.lst ys))(kt:∀t ys,H t=some (.tup ys)->H' t=some (.tup ys)):oK H' own kvs Dv:=λp k=>by
 rcases b p k with z|⟨a,ts,R,e2,e3,e4⟩
 exact .inl z;exact .inr ⟨a,ts,R,e2,kl _ _ _ _ e2 e3,e4.keep kt⟩
theorem oA.keep(b:oA H own kvs E)(kl:∀a p k ys,own a=some (.en p k)->H a=some (.lst ys)->H' a=some (.lst ys)):oA H' own kvs E:=λp k=>by
 rcases b p k with z|⟨a,R,e2,e3⟩
 exact .inl z;exact .inr ⟨a,R,e2,kl _ _ _ _ e2 e3⟩
theorem fq.same(g:fq C H0 H x l a1 a2 a3 a4 a5 own hs fresh aa h Dv E N)(s:YF H H')(hp:∀b u,H' b=some u->H b=some u\/Y0 u=true):fq C H0 H' x l a1 a2 a3 a4 a5 own hs fresh aa h Dv E N:=by
 obtain⟨B,U⟩:=g.x_;obtain⟨t2,e2,n2⟩:=g.h2;obtain⟨t3,e3,n3⟩:=g.h3;obtain⟨k4,e4,l4,b4⟩:=g.h4;obtain⟨k5,e5,l5,b5⟩:=g.h5;exact⟨g.sm.trans s,⟨B,s _ _ U⟩,s _ _ g.h1,⟨t2,s _ _ e2,n2.keep λ_ _=>s _ _⟩,⟨t3,s _ _ e3,n3.keep λ_ _=>s _ _⟩,⟨k4,s _ _ e4,l4,b4.keep (λ_ _ _ _ _=>s _ _) λ_ _=>s _ _⟩,⟨k5,s _ _ e5,l5,b5.keep λ_ _ _ _ _=>s _ _⟩,g.hb,g.o2,g.o3,λa t e=>let ⟨z1,xs,z2⟩:=g.on a t e;⟨z1,xs,s _ _ z2⟩,g.nx,g.n1,g.n4,g.n5,g.d14,g.d15,g.d45,λb o e=>(hp b o e).elim (g.pl b o) λz=>.inr<|.inr<|.inr z⟩
theorem fq.set1(g:fq C H0 H x l a1 a2 a3 a4 a5 own hs fresh aa h Dv E N)(hs':Hs):fq C H0 (upd H a1<|.dT<|fY hs') x l a1 a2 a3 a4 a5 own hs' fresh aa h Dv E N:=by
 obtain⟨B,U⟩:=g.x_;obtain⟨t2,e2,n2⟩:=g.h2;obtain⟨t3,e3,n3⟩:=g.h3;obtain⟨k4,e4,l4,b4⟩:=g.h4;obtain⟨k5,e5,l5,b5⟩:=g.h5;have kt:∀t ys,H t=some (.tup ys)->upd H a1 (.dT<|fY hs') t=some (.tup ys):=λt ys e=>by rw[YB<|Yg e g.h1 nofun];exact e
 have kl:∀t ys,H t=some (.lst ys)->upd H a1 (.dT<|fY hs') t=some (.lst ys):=λt ys e=>by rw[YB<|Yg e g.h1 nofun];exact e
 exact⟨g.sm.put g.n1,⟨B,by rw[YB<|Yg U g.h1 nofun];exact U⟩,YA,⟨t2,kl _ _ e2,n2.keep kt⟩,⟨t3,kl _ _ e3,n3.keep kt⟩,⟨k4,by rw[YB g.d14.symm];exact e4,l4,b4.keep (λ_ _ _ _ _=>kl _ _) kt⟩,⟨k5,by rw[YB g.d15.symm];exact e5,l5,b5.keep λ_ _ _ _ _=>kl _ _⟩,g.hb,g.o2,g.o3,λa t e=>let ⟨z1,xs,z2⟩:=g.on a t e;⟨z1,xs,kl _ _ z2⟩,g.nx,g.n1,g.n4,g.n5,g.d14,g.d15,g.d45,λb o e=>(by by_cases hb:b=a1;exact .inl hb;rw[YB hb]at e;exact g.pl b o e)⟩
theorem fq.set2(g:fq C H0 H x l a1 a2 a3 a4 a5 own hs fresh aa h Dv E N){ts:J al}{fr:J Nd}(hn:ZQ H ts fr):fq C H0 (upd H a2<|.lst<|ts.map V.ref) x l a1 a2 a3 a4 a5 own hs fr aa h Dv E N:=by
 obtain⟨B,U⟩:=g.x_;obtain⟨t2,e2,n2⟩:=g.h2;obtain⟨t3,e3,n3⟩:=g.h3;obtain⟨k4,e4,l4,b4⟩:=g.h4;obtain⟨k5,e5,l5,b5⟩:=g.h5;have kt:∀t ys,H t=some (.tup ys)->upd H a2 (.lst<|ts.map V.ref) t=some (.tup ys):=λt ys e=>by rw[YB<|Yg e e2 nofun];exact e
 have kd:∀t ys,H t=some (.dT ys)->upd H a2 (.lst<|ts.map V.ref) t=some (.dT ys):=λt ys e=>by rw[YB<|Yg e e2 nofun];exact e
 have ko:∀a t ys,own a=some t->t≠.fr->H a=some (.lst ys)->upd H a2 (.lst<|ts.map V.ref) a=some (.lst ys):=λa t ys R e2 e3=>by rw[YB (λz=>by rw[z,g.o2]at R;cases R;exact e2 Z)];exact e3
 refine⟨g.sm.put (g.on _ _ g.o2).1,⟨B,by rw[YB<|Yg U e2 nofun];exact U⟩,kd _ _ g.h1,⟨ts,YA,hn.keep kt⟩,⟨t3,ko _ _ _ g.o3 nofun e3,n3.keep kt⟩,⟨k4,kd _ _ e4,l4,b4.keep (λ_ _ _ _ z=>ko _ _ _ z nofun) kt⟩,⟨k5,kd _ _ e5,l5,b5.keep λ_ _ _ _ z=>ko _ _ _ z nofun⟩,g.hb,g.o2,g.o3,λa t e=>?_,g.nx,g.n1,g.n4,g.n5,g.d14,g.d15,g.d45,λb o e=>(Yl Z b o e).elim (g.pl b o) λz=>.inr<|.inr<|.inr z⟩;obtain⟨z1,xs,z2⟩:=g.on a t e;by_cases ha:a=a2;subst ha;exact⟨z1,_,YA⟩;exact⟨z1,xs,by rw[YB ha];exact z2⟩
theorem fq.set3(g:fq C H0 H x l a1 a2 a3 a4 a5 own hs fresh aa h Dv E N){ts:J al}{fr:J Nd}(hn:ZQ H ts fr):fq C H0 (upd H a3<|.lst<|ts.map V.ref) x l a1 a2 a3 a4 a5 own hs fresh fr h Dv E N:=by
 obtain⟨B,U⟩:=g.x_;obtain⟨t2,e2,n2⟩:=g.h2;obtain⟨t3,e3,n3⟩:=g.h3;obtain⟨k4,e4,l4,b4⟩:=g.h4;obtain⟨k5,e5,l5,b5⟩:=g.h5;have kt:∀t ys,H t=some (.tup ys)->upd H a3 (.lst<|ts.map V.ref) t=some (.tup ys):=λt ys e=>by rw[YB<|Yg e e3 nofun];exact e
 have kd:∀t ys,H t=some (.dT ys)->upd H a3 (.lst<|ts.map V.ref) t=some (.dT ys):=λt ys e=>by rw[YB<|Yg e e3 nofun];exact e
 have ko:∀a t ys,own a=some t->t≠.hi->H a=some (.lst ys)->upd H a3 (.lst<|ts.map V.ref) a=some (.lst ys):=λa t ys R e2 e3=>by rw[YB (λz=>by rw[z,g.o3]at R;cases R;exact e2 Z)];exact e3
 refine⟨g.sm.put (g.on _ _ g.o3).1,⟨B,by rw[YB<|Yg U e3 nofun];exact U⟩,kd _ _ g.h1,⟨t2,ko _ _ _ g.o2 nofun e2,n2.keep kt⟩,⟨ts,YA,hn.keep kt⟩,⟨k4,kd _ _ e4,l4,b4.keep (λ_ _ _ _ z=>ko _ _ _ z nofun) kt⟩,⟨k5,kd _ _ e5,l5,b5.keep λ_ _ _ _ z=>ko _ _ _ z nofun⟩,g.hb,g.o2,g.o3,λa t e=>?_,g.nx,g.n1,g.n4,g.n5,g.d14,g.d15,g.d45,λb o e=>(Yl Z b o e).elim (g.pl b o) λz=>.inr<|.inr<|.inr z⟩;obtain⟨z1,xs,z2⟩:=g.on a t e;by_cases ha:a=a3;subst ha;exact⟨z1,_,YA⟩;exact⟨z1,xs,by rw[YB ha];exact z2⟩
end
def addB(Dv:gX)(p:av)(k:Nat)(q:Nat×Nat×Nat):gX:=λp' k'=>if p'=p/\k'=k then Dv p' k'++[q] else Dv p' k'
def addE(E:g7)(p:av)(k j:Nat):g7:=λp' k'=>if p'=p/\k'=k then E p' k'++[j] else E p' k'
def rV(a1 a2:al)(H H':L):Prop:=∀b o,b≠a1->b≠a2->H b=some o->H' b=some o
inductive YId(C:Addr)(vs:List V)(H:L)(Q:VK):Prop
 |mk (H0:L)(x l B:Addr):vs=[.ref x,.ref l]->H x=some (.ins C B [])->H0 x=none->YF H0 H->YL H->(∀a1 a2 a3 a4 a5 own H',fq C H0 H' x l a1 a2 a3 a4 a5 own [] [] [] 0 (λ_ _=>[]) (λ_ _=>[]) 0->Q .non H')->YId C vs H Q
def YK4(C:al):Sp:=λvs H Q E_=>YId C vs H Q
inductive YIe(C:Addr)(vs:List V)(H:L)(Q:VK):Prop
 |mk (H0:L)(x l a1 a2 a3 a4 a5 t:Addr)(own:Addr->Option jk)(hs:Hs)(fresh aa:List Nd)(h:Nat)(Dv:gX)(E:g7)(N:Nat)(y:Nd):vs=[.ref x,.ref t]->fq C H0 H x l a1 a2 a3 a4 a5 own hs fresh aa h Dv E N->H t=some (.tup ((Yd y).map kV))->YO hs y=none->hs.length<=3000000->fresh.length<=3000000->(∀H',fq C H0 H' x l a1 a2 a3 a4 a5 own (hs++[(y,h)]) (fresh++[y]) aa h Dv E N->rV a1 a2 H H'->Q .non H')->YIe C vs H Q
def YEn(C:al):Sp:=λvs H Q E_=>YIe C vs H Q
inductive YFM(C:Addr)(vs:List V)(H:L)(Q:VK):Prop
 |mk (H0:L)(x l a1 a2 a3 a4 a5 t:Addr)(own:Addr->Option jk)(hs:Hs)(fresh aa:List Nd)(h:Nat)(Dv:gX)(E:g7)(N:Nat)(y:Nd):vs=[.ref x,.ref t]->fq C H0 H x l a1 a2 a3 a4 a5 own hs fresh aa h Dv E N->H t=some (.tup ((Yd y).map kV))->YO hs y=none->hs.length<=3000000->aa.length<=3000000->(∀H',fq C H0 H' x l a1 a2 a3 a4 a5 own (hs++[(y,h+1)]) fresh (aa++[y]) h Dv E N->rV a1 a3 H H'->Q .non H')->YFM C vs H Q
def YGl(C:al):Sp:=λvs H Q E_=>YFM C vs H Q
section
variable {C:al}{H0 H H':L}{x l a1 a2 a3 a4 a5:al}{own:al->ah jk}{hs:Hs}{fresh aa:J Nd}{h:Nat}{Dv:gX}{E:g7}{N:Nat}
theorem fq.fine(g:fq C H0 H x l a1 a2 a3 a4 a5 own hs fresh aa h Dv E N)(e:H a=none):own a=none:=by
 cases ho:own a with
 |none=>rfl
 |some t=>
  obtain⟨_,xs,z⟩:=g.on a t ho;rw[e]at z;cases z
theorem fq.enSet(g:fq C H0 H x l a1 a2 a3 a4 a5 own hs fresh aa h Dv E N){p:av}{k:Nat}{a:al}(ho:own a=some (.en p k)){E':g7}(R:∀p' k',¬(p'=p/\k'=k)->E' p' k'=E p' k'){kvs:J (J c_×V)}(e5:H a5=some (.dT kvs))(hv:Ye kvs (fI p k)=some (.ref a))(hl:∀p' k',(E' p' k').length<=N):fq C H0 (upd H a<|.lst<|(E' p k).map nV) x l a1 a2 a3 a4 a5 own hs fresh aa h Dv E' N:=by
 obtain⟨B,U⟩:=g.x_;obtain⟨t2,f2,n2⟩:=g.h2;obtain⟨t3,f3,n3⟩:=g.h3;obtain⟨k4,f4,l4,b4⟩:=g.h4;obtain⟨k5,f5,l5,b5⟩:=g.h5;rw[e5]at f5;cases f5;obtain⟨na,yz,ha⟩:=g.on a _ ho;have kt:∀t ys,H t=some (.tup ys)->upd H a (.lst<|(E' p k).map nV) t=some (.tup ys):=λt ys e=>by rw[YB<|Yg e ha nofun];exact e
 have kd:∀t ys,H t=some (.dT ys)->upd H a (.lst<|(E' p k).map nV) t=some (.dT ys):=λt ys e=>by rw[YB<|Yg e ha nofun];exact e
 have ko:∀c t ys,own c=some t->t≠.en p k->H c=some (.lst ys)->upd H a (.lst<|(E' p k).map nV) c=some (.lst ys):=λc t ys q1 q2 q3=>by rw[YB (λz=>by rw[z,ho]at q1;cases q1;exact q2 Z)];exact q3
 refine⟨g.sm.put na,⟨B,by rw[YB<|Yg U ha nofun];exact U⟩,kd _ _ g.h1,⟨t2,ko _ _ _ g.o2 nofun f2,n2.keep kt⟩,⟨t3,ko _ _ _ g.o3 nofun f3,n3.keep kt⟩,⟨k4,kd _ _ f4,l4,b4.keep (λ_ _ _ _ z=>ko _ _ _ z nofun) kt⟩,⟨kvs,kd _ _ e5,l5,λp' k'=>?_⟩,λp' k'=>⟨(g.hb p' k').1,hl p' k'⟩,g.o2,g.o3,λc t e=>?_,g.nx,g.n1,g.n4,g.n5,g.d14,g.d15,g.d45,λb o e=>(Yl Z b o e).elim (g.pl b o) λz=>.inr<|.inr<|.inr z⟩;by_cases ig:p'=p/\k'=k;obtain⟨rfl,rfl⟩:=ig;exact .inr ⟨a,hv,ho,YA⟩;rw[R p' k' ig];rcases b5 p' k' with z|⟨c,z1,z2,z3⟩
 exact .inl z;exact .inr ⟨c,z1,z2,ko _ _ _ z2 (λz=>ig (by injection z with z4 z5;exact⟨z4,z5⟩)) z3⟩;obtain⟨z1,xs,z2⟩:=g.on c t e;by_cases hc:c=a;subst hc;exact⟨z1,_,YA⟩;exact⟨z1,xs,by rw[YB hc];exact z2⟩
theorem fq.enNew(g:fq C H0 H x l a1 a2 a3 a4 a5 own hs fresh aa h Dv E N){p:av}{k:Nat}{e:al}(he:H e=some (.lst []))(h0:H0 e=none)(ho:own e=none){kvs:J (J c_×V)}(e5:H a5=some (.dT kvs))(hv:Ye kvs (fI p k)=none):fq C H0 (upd H a5<|.dT<|Yu kvs (fI p k)<|.ref e) x l a1 a2 a3 a4 a5 (λc=>if c=e then some (.en p k) else own c) hs fresh aa h Dv E<|N+1:=by
 obtain⟨B,U⟩:=g.x_;obtain⟨t2,f2,n2⟩:=g.h2;obtain⟨t3,f3,n3⟩:=g.h3;obtain⟨k4,f4,l4,b4⟩:=g.h4;obtain⟨k5,f5,l5,b5⟩:=g.h5;rw[e5]at f5;cases f5;have kt:∀t ys,H t=some (.tup ys)->upd H a5 (.dT<|Yu kvs (fI p k)<|.ref e) t=some (.tup ys):=λt ys z=>by rw[YB<|Yg z e5 nofun];exact z
 have kl:∀t ys,H t=some (.lst ys)->upd H a5 (.dT<|Yu kvs (fI p k)<|.ref e) t=some (.lst ys):=λt ys z=>by rw[YB<|Yg z e5 nofun];exact z
 have no:∀c t,own c=some t->(if c=e then some (.en p k) else own c)=some t:=λc t z=>by rw[if_neg (λy=>by rw[y,ho]at z;cases z)];exact z
 refine⟨g.sm.put g.n5,⟨B,by rw[YB<|Yg U e5 nofun];exact U⟩,by rw[YB g.d15];exact g.h1,⟨t2,kl _ _ f2,n2.keep kt⟩,⟨t3,kl _ _ f3,n3.keep kt⟩,⟨k4,by rw[YB g.d45];exact f4,by lia,λp' k'=>?_⟩,⟨_,YA,by have:=Zr kvs (fI p k)<|.ref e;lia,λp' k'=>?_⟩,λp' k'=>⟨by have:=(g.hb p' k').1;lia,by have:=(g.hb p' k').2;lia⟩,no _ _ g.o2,no _ _ g.o3,λc t z=>?_,g.nx,g.n1,g.n4,g.n5,g.d14,g.d15,g.d45,λb o z=>(by by_cases hb:b=a5;exact .inr<|.inr<|.inl hb;rw[YB hb]at z;exact g.pl b o z)⟩;rcases b4 p' k' with z|⟨c,ts,z1,z2,z3,z4⟩
 exact .inl z;exact .inr ⟨c,ts,z1,no _ _ z2,kl _ _ z3,z4.keep kt⟩;rw[Z1];by_cases ig:p'=p/\k'=k;obtain⟨rfl,rfl⟩:=ig;rw[if_pos Z];refine .inr ⟨e,Z,if_pos Z,?_⟩;rcases b5 p' k' with z|⟨c,z1,z2,z3⟩
 rw[z.2];exact kl _ _ he;rw[hv]at z1;cases z1;rw[if_neg<|λz=>ig<|YK3 z];rcases b5 p' k' with z|⟨c,z1,z2,z3⟩
 exact .inl z;exact .inr ⟨c,z1,no _ _ z2,kl _ _ z3⟩;by_cases hc:c=e;subst hc;exact⟨h0,_,kl _ _ he⟩;rw[if_neg hc]at z;obtain⟨z1,xs,z2⟩:=g.on c t z;exact⟨z1,xs,kl _ _ z2⟩
theorem fq.bgSet(g:fq C H0 H x l a1 a2 a3 a4 a5 own hs fresh aa h Dv E N){p:av}{k:Nat}{a:al}(ho:own a=some (.bg p k)){B':gX}(R:∀p' k',¬(p'=p/\k'=k)->B' p' k'=Dv p' k'){ts:J al}(nU:kR H ts<|B' p k){kvs:J (J c_×V)}(e4:H a4=some (.dT kvs))(hv:Ye kvs (fI p k)=some (.ref a))(hl:∀p' k',(B' p' k').length<=N):fq C H0 (upd H a<|.lst<|ts.map V.ref) x l a1 a2 a3 a4 a5 own hs fresh aa h B' E N:=by
 obtain⟨B,U⟩:=g.x_;obtain⟨t2,f2,n2⟩:=g.h2;obtain⟨t3,f3,n3⟩:=g.h3;obtain⟨k4,f4,l4,b4⟩:=g.h4;obtain⟨k5,f5,l5,b5⟩:=g.h5;rw[e4]at f4;cases f4;obtain⟨na,yz,ha⟩:=g.on a _ ho;have kt:∀t ys,H t=some (.tup ys)->upd H a (.lst<|ts.map V.ref) t=some (.tup ys):=λt ys e=>by rw[YB<|Yg e ha nofun];exact e
 have kd:∀t ys,H t=some (.dT ys)->upd H a (.lst<|ts.map V.ref) t=some (.dT ys):=λt ys e=>by rw[YB<|Yg e ha nofun];exact e
 have ko:∀c t ys,own c=some t->t≠.bg p k->H c=some (.lst ys)->upd H a (.lst<|ts.map V.ref) c=some (.lst ys):=λc t ys q1 q2 q3=>by rw[YB (λz=>by rw[z,ho]at q1;cases q1;exact q2 Z)];exact q3
 refine⟨g.sm.put na,⟨B,by rw[YB<|Yg U ha nofun];exact U⟩,kd _ _ g.h1,⟨t2,ko _ _ _ g.o2 nofun f2,n2.keep kt⟩,⟨t3,ko _ _ _ g.o3 nofun f3,n3.keep kt⟩,⟨kvs,kd _ _ e4,l4,λp' k'=>?_⟩,⟨k5,kd _ _ f5,l5,b5.keep λ_ _ _ _ z=>ko _ _ _ z nofun⟩,λp' k'=>⟨hl p' k',(g.hb p' k').2⟩,g.o2,g.o3,λc t e=>?_,g.nx,g.n1,g.n4,g.n5,g.d14,g.d15,g.d45,λb o e=>(Yl Z b o e).elim (g.pl b o) λz=>.inr<|.inr<|.inr z⟩;by_cases ig:p'=p/\k'=k;obtain⟨rfl,rfl⟩:=ig;exact .inr ⟨a,ts,hv,ho,YA,nU.keep kt⟩;rw[R p' k' ig];rcases b4 p' k' with z|⟨c,us,z1,z2,z3,z4⟩
 exact .inl z;exact .inr ⟨c,us,z1,z2,ko _ _ _ z2 (λz=>ig (by injection z with z5 z6;exact⟨z5,z6⟩)) z3,z4.keep kt⟩;obtain⟨z1,xs,z2⟩:=g.on c t e;by_cases hc:c=a;subst hc;exact⟨z1,_,YA⟩;exact⟨z1,xs,by rw[YB hc];exact z2⟩
theorem fq.bgNew(g:fq C H0 H x l a1 a2 a3 a4 a5 own hs fresh aa h Dv E N){p:av}{k:Nat}{e:al}(he:H e=some (.lst []))(h0:H0 e=none)(ho:own e=none){kvs:J (J c_×V)}(e4:H a4=some (.dT kvs))(hv:Ye kvs (fI p k)=none):fq C H0 (upd H a4<|.dT<|Yu kvs (fI p k)<|.ref e) x l a1 a2 a3 a4 a5 (λc=>if c=e then some (.bg p k) else own c) hs fresh aa h Dv E<|N+1:=by
 obtain⟨B,U⟩:=g.x_;obtain⟨t2,f2,n2⟩:=g.h2;obtain⟨t3,f3,n3⟩:=g.h3;obtain⟨k4,f4,l4,b4⟩:=g.h4;obtain⟨k5,f5,l5,b5⟩:=g.h5;rw[e4]at f4;cases f4;have kt:∀t ys,H t=some (.tup ys)->upd H a4 (.dT<|Yu kvs (fI p k)<|.ref e) t=some (.tup ys):=λt ys z=>by rw[YB<|Yg z e4 nofun];exact z
 have kl:∀t ys,H t=some (.lst ys)->upd H a4 (.dT<|Yu kvs (fI p k)<|.ref e) t=some (.lst ys):=λt ys z=>by rw[YB<|Yg z e4 nofun];exact z
 have no:∀c t,own c=some t->(if c=e then some (.bg p k) else own c)=some t:=λc t z=>by rw[if_neg (λy=>by rw[y,ho]at z;cases z)];exact z
 refine⟨g.sm.put g.n4,⟨B,by rw[YB<|Yg U e4 nofun];exact U⟩,by rw[YB g.d14];exact g.h1,⟨t2,kl _ _ f2,n2.keep kt⟩,⟨t3,kl _ _ f3,n3.keep kt⟩,⟨_,YA,by have:=Zr kvs (fI p k)<|.ref e;lia,λp' k'=>?_⟩,⟨k5,by rw[YB g.d45.symm];exact f5,by lia,λp' k'=>?_⟩,λp' k'=>⟨by have:=(g.hb p' k').1;lia,by have:=(g.hb p' k').2;lia⟩,no _ _ g.o2,no _ _ g.o3,λc t z=>?_,g.nx,g.n1,g.n4,g.n5,g.d14,g.d15,g.d45,λb o z=>(by by_cases hb:b=a4;exact .inr<|.inl hb;rw[YB hb]at z;exact g.pl b o z)⟩;rw[Z1];by_cases ig:p'=p/\k'=k;obtain⟨rfl,rfl⟩:=ig;rw[if_pos Z];refine .inr ⟨e,[],Z,if_pos Z,kl _ _ he,?_⟩;rcases b4 p' k' with z|⟨c,us,z1,z2,z3,z4⟩
 rw[z.2];exact⟨Z,λi t q R=>nomatch R⟩;rw[hv]at z1;cases z1;rw[if_neg<|λz=>ig<|YK3 z];rcases b4 p' k' with z|⟨c,us,z1,z2,z3,z4⟩
 exact .inl z;exact .inr ⟨c,us,z1,no _ _ z2,kl _ _ z3,z4.keep kt⟩;rcases b5 p' k' with z|⟨c,z1,z2,z3⟩
 exact .inl z;exact .inr ⟨c,z1,no _ _ z2,kl _ _ z3⟩;by_cases hc:c=e;subst hc;exact⟨h0,_,kl _ _ he⟩;rw[if_neg hc]at z;obtain⟨z1,xs,z2⟩:=g.on c t z;exact⟨z1,xs,kl _ _ z2⟩
theorem fq.more(g:fq C H0 H x l a1 a2 a3 a4 a5 own hs fresh aa h Dv E N)(hN:N<=N'):fq C H0 H x l a1 a2 a3 a4 a5 own hs fresh aa h Dv E N':=by
 obtain⟨k4,f4,l4,b4⟩:=g.h4;obtain⟨k5,f5,l5,b5⟩:=g.h5;exact⟨g.sm,g.x_,g.h1,g.h2,g.h3,⟨k4,f4,by lia,b4⟩,⟨k5,f5,by lia,b5⟩,λp k=>⟨by have:=(g.hb p k).1;lia,by have:=(g.hb p k).2;lia⟩,g.o2,g.o3,g.on,g.nx,g.n1,g.n4,g.n5,g.d14,g.d15,g.d45,g.pl⟩
end
structure ip(g:YV)(M:List Nd)(Dv:gX)(E:g7):Prop where
 bg:∀p k r d i,(r,d,i)∈Dv p k<->(Nd.beg r d i k∈M/\ZM g r d=some p)
 en:∀p k j,j∈E p k<->Nd.part p k j∈M
theorem ip.addE(m:ip g M Dv E)(p:av)(k j:Nat):ip g (M++[.part p k j]) Dv<|addE E p k j:=by
 refine⟨λp' k' r d i=>?_,λp' k' j'=>?_⟩;rw[m.bg,YOf];constructor;exactλz=>⟨.inl z.1,z.2⟩;rintro⟨z|z,z2⟩;exact⟨z,z2⟩;cases YOT.mp z;unfold FR.addE;rw[YOf];split;rename_i ig;obtain⟨rfl,rfl⟩:=ig;rw[YOf,m.en];constructor;rintro(z|z);exact .inl z;cases YOT.mp z;exact .inr<|YOT.mpr rfl;rintro(z|z);exact .inl z;cases YOT.mp z;exact .inr<|YOT.mpr rfl;rename_i ig;rw[m.en];constructor;exact .inl;rintro(z|z);exact z;cases YOT.mp z;exact(ig ⟨Z,Z⟩).elim
theorem ip.addB(m:ip g M Dv E)(hp:ZM g r d=some p):ip g (M++[.beg r d i k]) (addB Dv p k (r,d,i)) E:=by
 refine⟨λp' k' r' d' i'=>?_,λp' k' j'=>?_⟩;unfold FR.addB;rw[YOf];split;rename_i ig;obtain⟨rfl,rfl⟩:=ig;rw[YOf,m.bg];constructor;rintro(z|z);exact⟨.inl z.1,z.2⟩;cases YOT.mp z;exact⟨.inr<|YOT.mpr rfl,hp⟩;rintro⟨z|z,z2⟩;exact .inl ⟨z,z2⟩;cases YOT.mp z;exact .inr<|YOT.mpr rfl;rename_i ig;rw[m.bg];constructor;exactλz=>⟨.inl z.1,z.2⟩;rintro⟨z|z,z2⟩;exact⟨z,z2⟩;cases YOT.mp z;rw[hp]at z2;cases z2;exact(ig ⟨Z,Z⟩).elim;rw[m.en,YOf];constructor;exact .inl;rintro(z|z);exact z;cases YOT.mp z
theorem ip.addC(m:ip g M Dv E)(hp:ZM g r d=none):ip g (M++[.beg r d i k]) Dv E:=by
 refine⟨λp' k' r' d' i'=>?_,λp' k' j'=>?_⟩;rw[m.bg,YOf];constructor;exactλz=>⟨.inl z.1,z.2⟩;rintro⟨z|z,z2⟩;exact⟨z,z2⟩;cases YOT.mp z;rw[hp]at z2;cases z2;rw[m.en,YOf];constructor;exact .inl;rintro(z|z);exact z;cases YOT.mp z
structure xg(H0:L)(l:Addr)(xs:List V)(g:YV)(cs:List Nat):Prop where
 hl:H0 l=some (.lst xs)
 hds:YX H0 xs (g.map ZW)
 hg:ZB g=true
 hc:cs.length<=60
structure YJ5(C:Addr)(H0 H:L)(x l a1 a2 a3 a4 a5 t:Addr)(xs:List V)(g:YV)(cs:List Nat)(own:Addr->Option jk)(hs:Hs)(met fresh aa:List Nd)(h:Nat)(Dv:gX)(E:g7)(N:Nat)(y:Nd):Prop where
 env:xg H0 l xs g cs
 st:fq C H0 H x l a1 a2 a3 a4 a5 own hs fresh aa h Dv E N
 ht:H t=some (.tup<|(Yd y).map kV)
 gr:fJ g cs hs (met++[y]) fresh aa h
 lk:YO hs y=some h
 cl:Cl g hs (·∈met)
 mt:ip g met Dv E
 hN:N<=met.length
def mf(C:al)(H0:L)(x l a1 a2 a3 a4 a5:al)(g:YV)(cs:J Nat)(hs:Hs)(met:J Nd)(h:Nat)(y:Nd)(Q:VK):Prop:=
 ∀H' cL hs' aL gA B' E' N',fq C H0 H' x l a1 a2 a3 a4 a5 cL hs' aL gA h B' E' N'->fJ g cs hs' (met++[y]) aL gA h->Cl g hs' (·∈met++[y])->ip g (met++[y]) B' E'->N'<=met.length+1->(∀z m,YO hs z=some m->YO hs' z=some m)->Q .non H'
inductive YIf(C:Addr)(vs:List V)(H:L)(Q:VK):Prop
 |mk (H0:L)(x l a1 a2 a3 a4 a5 t:Addr)(xs:List V)(g:YV)(cs:List Nat)(own:Addr->Option jk)(hs:Hs)(met fresh aa:List Nd)(h:Nat)(Dv:gX)(E:g7)(N:Nat)(p:Str)(k j:Nat):vs=[.ref x,.ref t]->YJ5 C H0 H x l a1 a2 a3 a4 a5 t xs g cs own hs met fresh aa h Dv E N (.part p k j)->mf C H0 x l a1 a2 a3 a4 a5 g cs hs met h (.part p k j) Q->YIf C vs H Q
def YK5(C:al):Sp:=λvs H Q E_=>YIf C vs H Q
inductive YIg(C:Addr)(vs:List V)(H:L)(Q:VK):Prop
 |mk (H0:L)(x l a1 a2 a3 a4 a5 t:Addr)(xs:List V)(g:YV)(cs:List Nat)(own:Addr->Option jk)(hs:Hs)(met fresh aa:List Nd)(h:Nat)(Dv:gX)(E:g7)(N r d i k:Nat)(p:Str):vs=[.ref x,.ref t,.str p]->ZM g r d=some p->YJ5 C H0 H x l a1 a2 a3 a4 a5 t xs g cs own hs met fresh aa h Dv E N (.beg r d i k)->mf C H0 x l a1 a2 a3 a4 a5 g cs hs met h (.beg r d i k) Q->YIg C vs H Q
def YK6(C:al):Sp:=λvs H Q E_=>YIg C vs H Q
inductive YK7(C:Addr)(vs:List V)(H:L)(Q:VK):Prop
 |mk (H0:L)(x l a1 a2 a3 a4 a5 t:Addr)(xs:List V)(g:YV)(cs:List Nat)(own:Addr->Option jk)(hs:Hs)(met fresh aa:List Nd)(h:Nat)(Dv:gX)(E:g7)(N:Nat)(y:Nd):vs=[.ref x,.ref t]->YJ5 C H0 H x l a1 a2 a3 a4 a5 t xs g cs own hs met fresh aa h Dv E N y->mf C H0 x l a1 a2 a3 a4 a5 g cs hs met h y Q->YK7 C vs H Q
def YNd(C:al):Sp:=λvs H Q E_=>YK7 C vs H Q
theorem oH{g:YV}{cs:J Nat}{hs:Hs}{met cH fresh aa:J Nd}{h:Nat}{p:av}{k j:Nat}{Dv:gX}{E:g7}(c:Cl g hs (·∈met))(gr:fJ g cs hs cH fresh aa h)(lk:YO hs (.part p k j)=some h)(mt:ip g met Dv E)(hall:∀q∈Dv p k,∃v,YO hs (.beg q.1 (q.2.1+1) q.2.2 j)=some v):Cl g hs (·∈met++[.part p k j]):=by
 have nb:∀{r d i k'},Nd.beg r d i k'∈met++[.part p k j]->Nd.beg r d i k'∈met:=λz=>by
  rcases YOf.mp z with z|z
  exact z;cases YOT.mp z
 refine⟨λr d i k' p' j' a b m1 m2 hp R e2=>?_,λr ru i j' a er m1 R=>c.up r ru i j' a er (nb m1) R⟩;have Qh:=nb m1;rcases YOf.mp m2 with z|z
 exact c.join r d i k' p' j' a b Qh z hp R e2;cases YOT.mp z;obtain⟨v,hv⟩:=hall (r,d,i)<|(mt.bg p k r d i).mpr ⟨Qh,hp⟩;rw[lk]at e2;cases e2;exact⟨v,hv,YO1 (gr.begLe hv)<|Nat.le_max_right _ _⟩
theorem xl{g:YV}{cs:J Nat}{hs:Hs}{met cH fresh aa:J Nd}{h r d i k:Nat}{p:av}{Dv:gX}{E:g7}(hp:ZM g r d=some p)(c:Cl g hs (·∈met))(gr:fJ g cs hs cH fresh aa h)(lk:YO hs (.beg r d i k)=some h)(mt:ip g met Dv E)(hall:∀j∈E p k,∃v,YO hs (.beg r (d+1) i j)=some v):Cl g hs (·∈met++[.beg r d i k]):=by
 have np:∀{p' k' j'},Nd.part p' k' j'∈met++[.beg r d i k]->Nd.part p' k' j'∈met:=λz=>by
  rcases YOf.mp z with z|z
  exact z;cases YOT.mp z
 refine⟨λr' d' i' k' p' j' a b m1 m2 hp' R e2=>?_,λr' ru i' j' a er m1 R=>?_⟩;have vG:=np m2;rcases YOf.mp m1 with z|z
 exact c.join r' d' i' k' p' j' a b z vG hp' R e2;cases YOT.mp z;rw[hp]at hp';cases hp';obtain⟨v,hv⟩:=hall j'<|(mt.en p k j').mpr vG;rw[lk]at R;cases R;exact⟨v,hv,YO1 (gr.begLe hv)<|Nat.le_max_left _ _⟩;rcases YOf.mp m1 with z|z
 exact c.up r' ru i' j' a er z R;cases YOT.mp z;unfold ZM at hp;rw[er]at hp;have hp:ru.2.1[ru.2.1.length]?=some p:=hp;rw[YPd<|YOY _]at hp;cases hp
theorem YNe{g:YV}{cs:J Nat}{hs:Hs}{met cH fresh aa:J Nd}{h r i k:Nat}{ru:Ju}(er:g[r]?=some ru)(c:Cl g hs (·∈met))(gr:fJ g cs hs cH fresh aa h)(lk:YO hs (.beg r ru.2.1.length i k)=some h)(hv:∃v,YO hs (.part ru.1 i k)=some v):Cl g hs (·∈met++[.beg r ru.2.1.length i k]):=by
 refine⟨λr' d' i' k' p' j' a b m1 m2 hp' R e2=>?_,λr' jM i' j' a kZ m1 R=>?_⟩;have vG:Nd.part p' k' j'∈met:=by
  rcases YOf.mp m2 with z|z
  exact z;cases YOT.mp z
 rcases YOf.mp m1 with z|z
 exact c.join r' d' i' k' p' j' a b z vG hp' R e2;cases YOT.mp z;unfold ZM at hp';rw[er]at hp';have hp':ru.2.1[ru.2.1.length]?=some p':=hp';rw[YPd<|YOY _]at hp';cases hp';rcases YOf.mp m1 with z|z
 exact c.up r' jM i' j' a kZ z R;have z:=YOT.mp z;injection z with z1 z2 z3 z4;subst z1 z3 z4;rw[er]at kZ;cases kZ;obtain⟨v,hv⟩:=hv;rw[lk]at R;cases R;exact⟨v,hv,gr.anyLe hv⟩
section
variable {C:al}{H0 H H':L}{x l a1 a2 a3 a4 a5:al}{own:al->ah jk}{hs:Hs}{fresh aa:J Nd}{h:Nat}{Dv:gX}{E:g7}{N:Nat}
theorem fq.swap(g:fq C H0 H x l a1 a2 a3 a4 a5 own hs fresh aa h Dv E N){e B:al}(he:H e=none)(kp:∀b o,b≠x->H b=some o->H' b=some o)(U:H' x=some (.ins C B<|kP l a1 (h+1) a3 e a4 a5))(he':H' e=some (.lst []))(hpl:∀b u,H' b=some u->H b=some u\/Y0 u=true):fq C H0 H' x l a1 a3 e a4 a5 (λc=>if c=a3 then some .fr else if c=e then some .hi else if c=a2 then none else own c) hs aa [] (h+1) Dv E N:=by
 obtain⟨vH,hx0⟩:=g.x_;obtain⟨t2,f2,n2⟩:=g.h2;obtain⟨t3,f3,n3⟩:=g.h3;obtain⟨k4,f4,l4,b4⟩:=g.h4;obtain⟨k5,f5,l5,b5⟩:=g.h5;have kt:∀t ys,H t=some (.tup ys)->H' t=some (.tup ys):=λt ys z=>kp _ _ (Yg z hx0 nofun) z;have kl:∀t ys,H t=some (.lst ys)->H' t=some (.lst ys):=λt ys z=>kp _ _ (Yg z hx0 nofun) z;have kd:∀t ys,H t=some (.dT ys)->H' t=some (.dT ys):=λt ys z=>kp _ _ (Yg z hx0 nofun) z;have oe:own e=none:=g.fine he;have no:∀c t,own c=some t->t≠.fr->t≠.hi->(if c=a3 then some jk.fr else if c=e then some .hi else if c=a2 then none else own c)=some t:=λc t z z1 z2=>by
  rw[if_neg (λy=>by rw[y,g.o3]at z;cases z;exact z2 Z),if_neg (λy=>by rw[y,oe]at z;cases z),if_neg (λy=>by rw[y,g.o2]at z;cases z;exact z1 Z)];exact z
 have ne3:e≠a3:=λz=>by rw[z,f3]at he;cases he
 refine⟨λb o z=>?_,⟨B,U⟩,kd _ _ g.h1,⟨t3,kl _ _ f3,n3.keep kt⟩,⟨[],he',Z,λi t y z=>nomatch z⟩,⟨k4,kd _ _ f4,l4,λp k=>?_⟩,⟨k5,kd _ _ f5,l5,λp k=>?_⟩,g.hb,if_pos Z,by rw[if_neg ne3,if_pos Z],λc t z=>?_,g.nx,g.n1,g.n4,g.n5,g.d14,g.d15,g.d45,λb o z=>(hpl b o z).elim (g.pl b o) λz=>.inr<|.inr<|.inr z⟩;exact kp _ _ (λy=>by rw[y,g.nx]at z;cases z)<|g.sm _ _ z;rcases b4 p k with z|⟨c,ts,z1,z2,z3,z4⟩
 exact .inl z;exact .inr ⟨c,ts,z1,no _ _ z2 nofun nofun,kl _ _ z3,z4.keep kt⟩;rcases b5 p k with z|⟨c,z1,z2,z3⟩
 exact .inl z;exact .inr ⟨c,z1,no _ _ z2 nofun nofun,kl _ _ z3⟩;by_cases h3:c=a3;subst h3;exact⟨(g.on _ _ g.o3).1,_,kl _ _ f3⟩;rw[if_neg h3]at z;by_cases h4:c=e;subst h4;exact⟨g.sm.free he,_,he'⟩;rw[if_neg h4]at z;by_cases h2:c=a2;rw[if_pos h2]at z;cases z;rw[if_neg h2]at z;obtain⟨z1,xs,z2⟩:=g.on c t z;exact⟨z1,xs,kl _ _ z2⟩
end
structure JA(g:YV)(cs:List Nat)(hs:Hs):Prop where
 nd:(hs.map (·.1)).Nodup
 leg:∀x v,YO hs x=some v->j1 g cs x
 why:∀x v,YO hs x=some v->xE g cs hs x v
 cl:Cl g hs (λx=>∃v,YO hs x=some v)
inductive YK8(C:Addr)(vs:List V)(H:L)(Q:VK):Prop
 |mk (H0:L)(x l a1 a2 a3 a4 a5:Addr)(xs:List V)(g:YV)(cs:List Nat)(own:Addr->Option jk)(hs:Hs)(fresh:List Nd)(Dv:gX)(E:g7):vs=[.ref x]->xg H0 l xs g cs->fq C H0 H x l a1 a2 a3 a4 a5 own hs fresh [] 0 Dv E 0->fJ g cs hs [] fresh [] 0->ip g [] Dv E->(∀H' hs' m6 iZ cL h' B' E' N',fq C H0 H' x l a1 m6 iZ a4 a5 cL hs' [] [] h' B' E' N'->JA g cs hs'->(∀z m,YO hs z=some m->YO hs' z=some m)->Q .non H')->YK8 C vs H Q
def YNf(C:al):Sp:=λvs H Q E_=>YK8 C vs H Q
theorem fJ.fin_(m:fJ g cs hs met [] [] h)(c:Cl g hs (·∈met)):JA g cs hs:=by
 have key:∀x,(∃v,YO hs x=some v)->x∈met:=λx ⟨v,hv⟩=>by
  rcases YFL m hv with z|z|z
  exact z;cases z;cases z
 exact⟨m.nd,m.leg,m.why,λr d i k p j a b m1 m2 hp R e2=>c.join r d i k p j a b (key _ m1) (key _ m2) hp R e2,λr ru i j a er m1 R=>c.up r ru i j a er (key _ m1) R⟩
end FR
namespace L2
open PySem PySem.Spec PyProof.Rows
def k7(z:av):It:=
 ⟨λi _=>i<z.cps.size,λi H v H'=>∃T c,H T=none/\v=.ref T/\z.cps[i]?=some c/\H'=upd H T (.tup [.int i,.str ⟨#[c]⟩]),λi _=>i=z.cps.size⟩
theorem YGm(hh:A.handled=none)(it:al)(x:av)(t:Tok):
  Draws prog w A it [it] x.cps.size (λi v=>∃c u,x.cps[i]?=some c/\v=.str ⟨#[c]⟩ u) (λi h=>h.IsStrIter it (strIterType x) x t i):=by
 unfold strIterType;split;exact Draws.strAscii hh it x t;exact Draws.strWide hh it x t
theorem YJ6{P:Program}{w:World}{K:W.Frag}{iY:J Expr}{k:Nat}{pos:Pos}(z:av)(t:Tok)(e it:al):
  kF P w K (.Tuple iY k pos) (k7 z) [e,it] e (λi h=>(∃old,IsEnum h e it (i:Nat) old)/\h.IsStrIter it (strIterType z) z t i/\e≠it) where
 mem:=by simp
 obj:=λi h st b hb=>by
  obtain⟨⟨old,he⟩,⟨o,eo,c,d⟩,_⟩:=st;rcases YOj.mp hb with rfl|hb
  exact⟨_,he,λv z=>by cases z⟩;have eb:b=it:=by simpa using hb
  subst eb;exact⟨o,eo,λv z=>by rw[d]at z;cases z⟩
 keep:=λi h h' st k=>by
  obtain⟨⟨old,he⟩,⟨o,eo,r⟩,hne⟩:=st;exact⟨⟨old,k e (by simp) _ he⟩,⟨o,k it (by simp) o eo,r⟩,hne⟩
 item:=by
  intro X hP hw hK hc i O s σ H E I hf st hg;subst hP hw hK;obtain⟨⟨old,he⟩,Dp,hne⟩:=st;have Dm:i<z.cps.size:=hg;have nef:e∉[it]:=by
   simp only[YOj,YPo,or_false];exact hne
  refine wpAny_pyNext_enum_itemD (YGm (prog:=X.prog) (w:=X.w) (A:=X.A.in1) (I.ok.hd hc) it z t) he Dp Dm hne nef λu' h' tk hPu ho hst hT hsz hk=>?_;obtain⟨c,uu,Wz,rfl⟩:=hPu;refine⟨_,Z,wpAny_letOwnedTupleGo_enum (s:={ s with heap:=h',toks:=tk+1 }) ho λh'' he' hs'=>?_⟩;have wJ:e<s.heap.objs.size:=YOs he;have hTe:s.heap.objs.size≠e:=Nat.ne_of_gt wJ;have kk:∀b o,b∉[e,it]->s.heap.get? b=some o->h''.get? b=some o:=λb o hb q=>by
   have h1:b≠e:=λz=>hb (by simp[z]);have h2:b≠it:=λz=>hb (by simp[z]);exact(hs'.2 b h1).trans<|hk b o h1 h2 q
  have I1:aW X O σ H { s with heap:=h'',toks:=tk+1 }:=I.turns kk hf;have hT':h''.get? s.heap.objs.size=some { cls:=.type "tuple",data:=.seq #[.int i tk,.str ⟨#[c]⟩ uu] }:=(hs'.2 _ hTe).trans hT;have hfr:H s.heap.objs.size=none:=I.hok.fresh<|YOY _;have I2:=I1.trackT (T:=s.heap.objs.size) (xs:=[.int i,.str ⟨#[c]⟩]) (its:=[.int i tk,.str ⟨#[c]⟩ uu]) hfr ⟨_,hT',Z,_,Z⟩ (.cons ⟨_,Z⟩<|.cons ⟨_,Z⟩ .nil) (by show 2<=sizeLine;rw[sizeLine_eq];decide)
   (λo q=>absurd (YOs q)<|Nat.not_lt.mpr I.sz) λp hp z=>absurd (YOs (I.pin p hp).1) (by rw[z];exact YPW _)
  obtain⟨o3,e3,r3⟩:=hst;refine⟨.ref s.heap.objs.size,_,I2,Z,⟨_,c,hfr,Z,Wz,Z⟩,⟨⟨_,by simpa using he'⟩,⟨o3,(hs'.2 it hne.symm).trans e3,r3⟩,hne⟩,λb hb=>?_⟩;obtain⟨o,eo,_⟩:∃o,s.heap.get? b=some o/\True:=by
   rcases YOj.mp hb with rfl|hb
   exact⟨_,he,trivial⟩;have eb:b=it:=by simpa using hb
   subst eb;obtain⟨o,eo,_⟩:=Dp;exact⟨o,eo,trivial⟩
  rw[YB<|YPC<|YOs eo];exact(hf b hb).1
 done:=by
  intro X hP hw hK hc i O s σ H E I hf st hg;subst hP hw hK;obtain⟨⟨old,he⟩,Dp,hne⟩:=st;have ei:i=z.cps.size:=hg;subst ei;exact wpAny_pyNext_enum_endD (YGm (prog:=X.prog) (w:=X.w) (A:=X.A.in1) (I.ok.hd hc) it z t) he Dp λh' eb=>⟨Z,I.turns (t':=s.toks) (λb o hb q=>eb b o (λz=>hb (by simp[z])) q) hf⟩
 self:=λ_ _ _ _ _ st h=>by
  obtain⟨⟨old,he⟩,_⟩:=st;exact wpAny_pyIter_enum he h
section
variable {X:Cx}{iY:J Expr}{k:Nat}{iV:Pos}
def zw(ta:TA):TI:=λσ H Dt=>ta σ H λvs H1=>∃z,vs=[.str z]/\Dt (k7 z) H1
theorem YNg{a:Expr}{ta:TA}{p pos:Pos}(hg:Gl X "enumerate")(hm:X.mg "enumerate"=none)(ha:PA X [a] ta)(hs:starEach [a] X.env=[(false,eval a X.env)]:=by rfl):
  PI X (.Tuple iY k iV) (.Call (.Name "enumerate" p) [a] [] pos) (zw ta):=by
 intro O s σ H Dt I h;refine Call_<|vF I hg hm PyProof.Rows.Boot.«enumerate»<|PyProof.Rows.callWith_type1 (cJ (ha pos O s σ H _ I h) λus s1 ⟨vs,H1,I1,r1,q1⟩=>?_) hs rfl;obtain⟨z,rfl,q⟩:=q1;obtain⟨u,rfl,t,rfl⟩:=j2 r1;refine call_enumerate_str λh' he Dp hsz hk=>?_;have I2:aW X O σ H1 { s1 with heap:=h' }:=I1.kept (t':=s1.toks) hk;refine wpAny_pyIter_enum he ?_;refine⟨s1.heap.objs.size+1,[s1.heap.objs.size+1,s1.heap.objs.size],_,_,H1,Z,I2,YJ6 z t _ _,⟨⟨_,by simpa using he⟩,Dp,Nat.succ_ne_self _⟩,λb hb=>?_,q⟩;rcases YOj.mp hb with rfl|hb
 exact I1.fpOk (YPn _)<|I1.hok.fresh<|YPn _;have eb:b=s1.heap.objs.size:=by simpa using hb
 subst eb;exact I1.fpOk (YOY _)<|I1.hok.fresh<|YOY _
end
theorem YMG{z:av}{g:TG}{tb:TS}{D:Ja}{σ:St}{H:L}(Pv:Nat->St->L->Prop)(h0:Pv 0 σ H)
  (hs:∀i c T σ H,z.cps[i]?=some c->H T=none->Pv i σ H->g (.ref T) σ (upd H T<|.tup [.int (i:Nat),.str ⟨#[c]⟩]) λσ2 H2=>tb { D with nx:=Pv (i+1),ct:=Pv (i+1),bk:=D.nx } σ2 H2)(hd:∀σ H,Pv z.cps.size σ H->D.nx σ H):
  ∃W:Nat->Nat->St->L->Prop,(∃m,W 0 m σ H)/\∀i m σ H,W i m σ H->
   ((k7 z).stop i H/\D.nx σ H)\/((k7 z).go i H/\∃N:St->L->Prop,(∀σ' H',N σ' H'->∃m',m'<m/\W (i+1) m' σ' H')/\∀x H',(k7 z).yld i H x H'->g x σ H' λσ2 H2=>tb { D with nx:=N,ct:=N,bk:=D.nx } σ2 H2):=by
 refine⟨λi m σ H=>m=z.cps.size-i/\i<=z.cps.size/\Pv i σ H,⟨z.cps.size,by simp,YOn _,h0⟩,?_⟩;rintro i m σ H ⟨rfl,hi,p⟩;by_cases Dm:i<z.cps.size;refine .inr ⟨Dm,Pv<|i+1,λσ' H' p'=>⟨z.cps.size-(i+1),by omega,Z,Dm,p'⟩,λx H' y=>?_⟩;obtain⟨T,c,hT,rfl,hc,rfl⟩:=y;exact hs i c T σ H hc hT p;have ei:i=z.cps.size:=by omega
 subst ei;exact .inl ⟨Z,hd σ H p⟩
section
variable {X:Cx}{O:J (al×Obj)}{σ:St}{H:L}{s:ar}{d:al}{kvs:J (J c_×V)}
theorem aW.freezeT(I:aW X O σ H s)(hd:H d=some (.dT kvs)):∃o,aW X O σ (upd H d<|.frz o<|.dT kvs) s:=by
 have nt:∀c xs,H c=some (.tup xs)->c≠d:=λc xs r z=>by rw[z,hd]at r;cases r
 obtain⟨_,_,_,_,o,_,_,ho,_⟩:=(show Y7 X.prog X.w H s.heap d (.dT kvs) from I.hok d _ hd);refine⟨o,I.write (x:=d) (e:=d) (h':=s.heap) (t':=s.toks) (by rw[hd];trivial) (.inl Z) (λ_ _ _ e=>e) ⟨o,ho⟩ ⟨ho,?_⟩⟩;exact(I.hok d _ hd).stay (λ_ _ _ e=>e) (λb e=>by rw[YB<|Yg e hd nofun];exact e) λb xs e=>by rw[YB<|nt b xs e];exact e
theorem aW.dropT(I:aW X O σ H s)(hd:H d=some (.dT kvs)):aW X O σ (del H d) s:=by
 have nn:∀c,H c=none->del H d c=none:=λc e=>by
  unfold del;split;rfl;exact e
 have nt:∀c xs,H c=some (.tup xs)->c≠d:=λc xs r z=>by rw[z,hd]at r;cases r
 have no:∀c y,H c=some (.own y)->c≠d:=λc xs r z=>by rw[z,hd]at r;cases r
 have nb:∀c y,H c=some (.tbl y)->c≠d:=λc xs r z=>by rw[z,hd]at r;cases r
 have nf:∀c o y,H c=some (.frz o y)->c≠d:=λc o xs r z=>by rw[z,hd]at r;cases r
 refine⟨I.ok,I.os,I.bare,⟨I.base.keep,I.base.slot,λb o q n U=>nn _<|I.base.free b o q n U,I.base.there,λb xs q=>?_,λb ob u q=>?_,λb ps q=>?_⟩,I.loc,I.cell,nn _ I.free,λx c h1=>nn _<|I.freeC x c h1,λp hp'=>?_,λa u ea=>?_,I.len⟩;have z:=I.base.tups b xs q;rw[Zg<|nt _ _ z];exact z;have z:=I.base.frzs b ob u q;rw[Zg<|nf _ _ _ z];exact z;obtain⟨mo,z⟩:=I.base.tbls b ps q;exact⟨mo,by rw[Zg<|nb _ _ z];exact z⟩;obtain⟨p1,p2,p3⟩:=I.pin p hp';exact⟨p1,nn _ p2,p3⟩;have ha:a≠d:=λz=>by rw[z,Xz]at ea;cases ea
 rw[Zg ha]at ea;exact(I.hok a u ea).stay (λ_ _ _ e=>e) (λb e=>by rw[Zg<|no _ _ e];exact e) λb xs e=>by rw[Zg<|nt b xs e];exact e
end
section
variable {X:Cx}
def xC(t:TE):TE:=λσ H Q=>t σ H λv H1=>∃d c1 c2 kvs k1 k2,H1 d=some (.dT kvs)/\H1 c1=some (.dT k1)/\H1 c2=some (.dT k2)/\d≠c1/\d≠c2/\c1≠c2/\∀o,Q v<|upd (del (del H1 c1) c2) d<|.frz o<|.dT kvs
theorem YNh{e:Expr}{t:TE}(h:PE X e t):PE X e<|xC t:=by
 intro O s σ H Q I hw;refine cJ (h O s σ H _ I hw) ?_;rintro v s1 ⟨x,H1,I1,r1,d,c1,c2,kvs,k1,k2,e0,R,e2,n1,n2,n3,q⟩;have I2:=I1.dropT R;have I3:=I2.dropT (d:=c2) (kvs:=k2) (by rw[Zg n3.symm];exact e2);obtain⟨o,I4⟩:=I3.freezeT (d:=d) (kvs:=kvs) (by rw[Zg n2,Zg n1];exact e0);exact⟨x,_,I4,r1,q o⟩
end
section
variable {prog:Program}{w:World}{A:Around}{E:ai->ar->Prop}{s:ar}
end
theorem KT.get(r:KT H kvs xs):∀{i:Nat}{kv:J c_×V},kvs[i]?=some kv->∃b u,xs[i]?=some (kv.1,b,u)/\H b=some (.tup<|kv.1.map kV)/\Yx kv.2 u:=by
 unfold KT at r
 induction r with
 |nil=>intro i kv e;cases e
 |@cons p q ps qs h t ih=>
  intro i kv e;cases i with
  |zero=>
   cases e;exact⟨q.2.1,q.2.2,by rw[h.1];rfl,h.2.1,h.2.2⟩
  |succ j=>exact ih (i:=j) e
section
variable {X:Cx}{iY:J Expr}{k:Nat}{iV:Pos}
end
def Cr(d:al)(o:Obj)(kvs:J<|c_×V):It:=
 ⟨λi H=>H d=some (.frz o<|.dK kvs)/\i<kvs.length,λi H v H'=>∃kv,kvs[i]?=some kv/\v=kV kv.1/\H'=H,λi H=>H d=some (.frz o<|.dK kvs)/\i=kvs.length⟩
theorem YMH{P:Program}{w:World}{K:W.Frag}{tg:Expr}{d it:al}{o:Obj}{kvs:J (c_×V)}{es:Array DictEntry}{ep:Nat}(ho:o.data=.dict es ep):
  kF P w K tg (Cr d o kvs) [it] it (λi h=>h.IsKeyIter it d i kvs.length ep) where
 mem:=by simp
 obj:=λi h st b hb=>by
  have eb:b=it:=by simpa using hb
  subst eb;obtain⟨o,e,c,d⟩:=st;exact⟨o,e,λv z=>by rw[d]at z;cases z⟩
 keep:=λi h h' st k=>st.at λo e=>k it (by simp) o e
 item:=by
  intro X hP hw hK hc i O s σ H E I hf st hg;subst hP hw hK;obtain⟨hd,hi⟩:=hg;obtain⟨iK,hsz,lo,vs,rel,hD⟩:=(show Y7 X.prog X.w H s.heap d (.frz o<|.dK kvs) from I.hok d _ hd);obtain⟨o2,uJ,tK,h1,h2,h3,h4⟩:=hD;rw[iK]at h1;cases h1;rw[ho]at h3;cases h3;have hat:s.heap.DictAt (Yk X.prog X.w) d vs ep:=⟨o,es,iK,h2,ho,h4⟩;have ekv:kvs[i]?=some kvs[i]:=by simp[hi]
  obtain⟨u,hu,ru⟩:=rel.get ekv;have hlen:kvs.length=vs.length:=rel.length;rw[hlen]at st;obtain⟨f0,f1,f2,f3,f4,f5⟩:=hf it (by simp);refine wpAny_pyNext_dict_item st hat hu λkey h' hkey st' sb=>?_;have I1:aW X O σ H { s with heap:=h' }:=I.turned (t':=s.toks) (λb o hb e=>(sb.2 b hb).trans e) f0 f1 f3 f4 f5;refine⟨key,Z,letGo_keyiter (s':={ s with heap:=h' }) st' ⟨kV kvs[i].1,H,I1,YNH hkey,⟨_,ekv,Z,Z⟩,by rw[hlen];exact st',λb hb=>(hf b hb).1⟩⟩
 done:=by
  intro X hP hw hK hc i O s σ H E I hf st hg;subst hP hw hK;obtain⟨hd,hi⟩:=hg;obtain⟨iK,hsz,lo,vs,rel,hD⟩:=(show Y7 X.prog X.w H s.heap d (.frz o<|.dK kvs) from I.hok d _ hd);obtain⟨o2,uJ,tK,h1,h2,h3,h4⟩:=hD;rw[iK]at h1;cases h1;rw[ho]at h3;cases h3;have hat:s.heap.DictAt (Yk X.prog X.w) d vs ep:=⟨o,es,iK,h2,ho,h4⟩;have hlen:kvs.length=vs.length:=rel.length;rw[hlen]at st;exact wpAny_pyNext_dict_end (I.ok.hd hc) st hat (YPd (by lia)) λh' eb=>⟨Z,I.turns (t':=s.toks) (λb o hb q=>eb b o (λz=>hb (by simp[z])) q) hf⟩
 self:=λ_ _ _ _ _ st h=>wpAny_pyIter_keyiter st h
section
variable {X:Cx}{tg:Expr}
end
section
variable {prog:Program}{w:World}{A:Around}{E:ai->ar->Prop}{s:ar}
theorem YGn{Q:ah ai->ar->Prop}(Dp:s.heap.IsKeyIter it d i n ep)
  (iK:s.heap.get? d=some od)(hdd:od.data=.dict es ep)(hsz:es.size=n)(U:es[i]?=some en)
  (hQ:∀h',h'.IsKeyIter it d (i+1) n ep->Heap.SameBut it s.heap h'->Q (some en.key) { s with heap:=h' }):wpAny (model prog w) A (pyNext<|.ref it) Q E s:=by
 subst hsz;obtain⟨o,ho,hc,hd⟩:=id Dp;have hlt':i<es.size:=(YQN.mp U).1;have een:es[i]=en:=(YQN.mp U).2;unfold pyNext;refine YOh<|wpAny_attempt<|wpAny_callSpecial?_slot (name:=Str.ofString "__next__") Dp.typeIs F.slot_dict_keyiterator_next<|wpAny_call_entry F.slot_dict_keyiterator_next Dp.typeIs F.entry_dict_keyiterator_next ?_ (F.args_dict_keyiterator_next_1 _);refine YOh (YO0<|YOh<|YOh ?_)
 first|refine YOh (wpAny_typeNameOfWhole_keyiter Dp.typeIs (YO0 (YOh (wpAny_fieldsOf ho hd ?_))))|refine YOh (wpAny_typeNameOf_keyiter Dp.typeIs (YO0 (YOh (wpAny_fieldsOf ho hd ?_))))
 simp only[show Builtin.Dict_items.ownsTuple "dict_keyiterator"=false by decide,Bool.false_eq_true,if_false];show wpAny _ _ (if (Value.ref d==Value.none)=true then _ else _) _ _ s;rw[if_neg (show ¬((Value.ref d==Value.none)=true) from YOu)];refine YOh<|YO0<|YOh<|wpAny_dictEntries iK hdd ?_;rw[if_neg (by simp)];refine YOh<|YO0<|YOh<|wpAny_dictEpoch iK hdd ?_;rw[if_neg (by simp)];refine YO0 ?_;simp only[show ¬((i:Int)<0) from by lia,if_false,YQM,YP2 hlt',een];refine YOh ?_
 first|refine YOh (wpAny_typeNameOfWhole_keyiter Dp.typeIs (YO0 (YOh (wpAny_isOneOf_keyiter Dp.typeIs ?_))))|refine YOh (wpAny_typeNameOf_keyiter Dp.typeIs (YO0 (YOh (wpAny_isOneOf_keyiter Dp.typeIs ?_))))
 show wpAny _ _ (setField (.ref it) 1 (rawInt<|(i:Int)+1) >>= _) _ _ s;refine YOh<|wpAny_setField ho hd (by simp) ?_;have hit':(s.heap.update it<|Obj.mapFields (·.setIfInBounds 1 (rawInt<|(i:Int)+1))).IsKeyIter it d (i+1) es.size ep:=⟨_,YQL _ ho<|Obj.isFreed_of_fields<|Obj.data_mapFields hd _,(Obj.cls_mapFields ..).trans hc,by rw[Obj.data_mapFields hd];simp[rawInt]⟩;refine YOh<|wpAny_holding<|YOh<|wpAny_isOneOf_keyiter (s:={ s with heap:=s.heap.update it (Obj.mapFields (·.setIfInBounds 1 (rawInt ((i:Int)+1)))) }) hit'.typeIs ?_;show wpAny _ _ (pure en.key) _ _ _;exact YO0<|YO0 ⟨_,Z,YO0<|hQ _ hit'<|Heap.SameBut.update ..⟩
theorem YIh{Q:ah ai->ar->Prop}(hh:A.handled=none)(Dp:s.heap.IsKeyIter it d n n ep)
  (iK:s.heap.get? d=some od)(hdd:od.data=.dict es ep)(hsz:es.size=n)(hQ:∀h',Heap.ExtBut it s.heap h'->Q none { s with heap:=h' }):wpAny (model prog w) A (pyNext<|.ref it) Q E s:=by
 subst hsz;obtain⟨o,ho,hc,hd⟩:=id Dp;unfold pyNext;refine YOh<|wpAny_attempt<|wpAny_callSpecial?_slot (name:=Str.ofString "__next__") Dp.typeIs F.slot_dict_keyiterator_next<|wpAny_call_entry F.slot_dict_keyiterator_next Dp.typeIs F.entry_dict_keyiterator_next ?_ (F.args_dict_keyiterator_next_1 _);refine YOh (YO0<|YOh<|YOh ?_)
 first|refine YOh (wpAny_typeNameOfWhole_keyiter Dp.typeIs (YO0 (YOh (wpAny_fieldsOf ho hd ?_))))|refine YOh (wpAny_typeNameOf_keyiter Dp.typeIs (YO0 (YOh (wpAny_fieldsOf ho hd ?_))))
 simp only[show Builtin.Dict_items.ownsTuple "dict_keyiterator"=false by decide,Bool.false_eq_true,if_false];show wpAny _ _ (if (Value.ref d==Value.none)=true then _ else _) _ _ s;rw[if_neg (show ¬((Value.ref d==Value.none)=true) from YOu)];refine YOh<|YO0<|YOh<|wpAny_dictEntries iK hdd ?_;rw[if_neg (by simp)];refine YOh<|YO0<|YOh<|wpAny_dictEpoch iK hdd ?_;rw[if_neg (by simp)];refine YO0 ?_;simp only[show ¬((es.size:Int)<0) from by lia,if_false,YQM,Array.getElem?_eq_none<|YOY es.size];refine YOh ?_
 first|refine YOh (wpAny_typeNameOfWhole_keyiter Dp.typeIs (YO0 ?_))|refine YOh (wpAny_typeNameOf_keyiter Dp.typeIs (YO0 ?_))
 show wpAny _ _ (setField (.ref it) 0 .none >>= _) _ _ s;refine YOh<|wpAny_setField ho hd (by simp) ?_;show wpAny _ _ (newExc (.type "StopIteration") [] >>= _) _ _ _;refine YOh ?_;simp only[newExc,newTuple];refine YOh<|wpAny_newObj_type ?_ (by size_fits);refine YOh (m:=firstArgMember _ _)<|wpAny_of_eq (a:=Value.none) (by first|rfl|(simp only[firstArgMember];rfl)) ?_;refine wpAny_newObj_type ?_ (by size_fits);simp only[raiseNew];refine YOh<|wpAny_handled ?_;rw[show A.in1.handled=none from hh];refine YOh<|YO0<|wpAny_throw ?_;refine YOh<|wpAny_isInstance (T:="StopIteration") (b:=true) ⟨_,YOy _ rfl,Z⟩ isSubtype_stop ?_;exact YO0<|hQ _<|((Heap.SameBut.update ..).extBut.push _).push _
theorem YGo{Q:ai->ar->Prop}(hd:(d==sysModules)=false)(ho:s.heap.get? d=some od)(hc:od.cls=.type "dict")(hdat:od.data=.dict es ep)
  (hQ:Q (.ref s.heap.objs.size) { s with heap:=s.heap.push { cls:=.type "dict_keyiterator",data:=.fields #[.ref d,.int 0 0,.int es.size 0,.int ep 0] } }):wpAny (model prog w) A (pyIter<|.ref d) Q E s:=by
 have hT:s.TypeIs (.ref d) "dict":=⟨od,ho,hc⟩;refine wpAny_pyIter_slot hT F.slot_dict_iter<|wpAny_call_entry F.slot_dict_iter hT F.entry_dict_iter ?_ (F.args_dict_iter_1 _);unfold Builtin.«dict.__iter__»;refine YOh ?_;unfold Builtin.Dict.dictSlotNone;refine YOh<|wpAny_notOrdered_dict hT ?_;show wpAny _ _ (pure<|Value.ref d) _ _ s;refine YO0 ?_;show wpAny _ _ (Builtin.Dict.showsAll d >>= _) _ _ s;unfold Builtin.Dict.showsAll;rw[if_neg (by rw[hd];exact YOu)];refine YOh<|YO0<|YOh<|wpAny_dictEntries ho hdat<|YOh<|wpAny_dictEpoch ho hdat ?_;refine YOh<|wpAny_newObj_type<|YO0 ⟨_,Z,"dict_keyiterator",_,⟨_,YOy _ rfl,Z⟩,F.slot_dict_keyiterator_next.lookup,?_⟩;simpa [rawInt] using hQ
end
def kX(d:al)(o:Obj)(kvs:J<|J c_×V):It:=
 ⟨λi H=>H d=some (.frz o<|.dT kvs)/\i<kvs.length,λi H v H'=>∃b kv,v=.ref b/\kvs[i]?=some kv/\H b=some (.tup<|kv.1.map kV)/\H'=H,λi H=>H d=some (.frz o<|.dT kvs)/\i=kvs.length⟩
theorem YJ7{P:Program}{w:World}{K:W.Frag}{tg:Expr}{d it:al}{o:Obj}{kvs:J (J c_×V)}{es:Array DictEntry}{ep:Nat}(ho:o.data=.dict es ep):
  kF P w K tg (kX d o kvs) [it] it (λi h=>h.IsKeyIter it d i kvs.length ep) where
 mem:=by simp
 obj:=λi h st b hb=>by
  have eb:b=it:=by simpa using hb
  subst eb;obtain⟨o,e,c,d⟩:=st;exact⟨o,e,λv z=>by rw[d]at z;cases z⟩
 keep:=λi h h' st k=>st.at λo e=>k it (by simp) o e
 item:=by
  intro X hP hw hK hc i O s σ H E I hf st hg;subst hP hw hK;obtain⟨hd,hi⟩:=hg;obtain⟨iK,hsz,lo,xs,rel,o2,uJ,tK,h1,h2,h3,h4,h5⟩:=(show Y7 X.prog X.w H s.heap d (.frz o<|.dT kvs) from I.hok d _ hd);rw[iK]at h1;cases h1;rw[ho]at h3;cases h3;have ekv:kvs[i]?=some kvs[i]:=by simp[hi]
  obtain⟨b,u,U,hb,ru⟩:=KT.get rel ekv;have hlen:es.size=kvs.length:=by
   rw[<-YPD,h4,YOS,Paired.length rel]
  have hen:es[i]?=some (entryOfKey (tupleKind<|Yk X.prog X.w) (kvs[i].1,b,u)):=by
   rw[<-YPX,h4,YOd,U];rfl
  obtain⟨f0,f1,f2,f3,f4,f5⟩:=hf it (by simp);refine YGn st iK ho hlen hen λh' st' sb=>?_;have I1:aW X O σ H { s with heap:=h' }:=I.turned (t':=s.toks) (λb o hb e=>(sb.2 b hb).trans e) f0 f1 f3 f4 f5;exact⟨.ref b,Z,letGo_keyiter (s':={ s with heap:=h' }) st' ⟨.ref b,H,I1,Z,⟨b,_,Z,ekv,hb,Z⟩,st',λb hb=>(hf b hb).1⟩⟩
 done:=by
  intro X hP hw hK hc i O s σ H E I hf st hg;subst hP hw hK;obtain⟨hd,hi⟩:=hg;obtain⟨iK,hsz,lo,xs,rel,o2,uJ,tK,h1,h2,h3,h4,h5⟩:=(show Y7 X.prog X.w H s.heap d (.frz o<|.dT kvs) from I.hok d _ hd);rw[iK]at h1;cases h1;rw[ho]at h3;cases h3;have hlen:es.size=kvs.length:=by
   rw[<-YPD,h4,YOS,Paired.length rel]
  subst hi;exact YIh (I.ok.hd hc) st iK ho hlen λh' eb=>⟨Z,I.turns (t':=s.toks) (λb o hb q=>eb b o (λz=>hb (by simp[z])) q) hf⟩
 self:=λ_ _ _ _ _ st h=>wpAny_pyIter_keyiter st h
section
variable {X:Cx}{tg:Expr}
inductive YK9(Dt:It->L->Prop)(x:V)(H1:L):Prop
 |mk (d:_)(o:_)(kvs:_):x=.ref d->H1 d=some (.frz o (.dT kvs))->Dt (kX d o kvs) H1->YK9 Dt x H1
def y8(to:TE):TI:=λσ H Dt=>to σ H λx H1=>YK9 Dt x H1
theorem YIi{oe:Expr}{to:TE}(ho:PE X oe to):PI X tg oe<|y8 to:=by
 intro O s σ H Dt I h;refine cJ (ho O s σ H _ I h) ?_;rintro v s1 ⟨x,H1,I1,r1,d,o,kvs,ex,hd,q⟩;subst ex;cases r1;obtain⟨iK,hsz,lo,xs,rel,o2,es,ep,h1,hex,hdat,h4,h5⟩:=(show Y7 X.prog X.w H1 s1.heap d (.frz o<|.dT kvs) from I1.hok d _ hd);rw[iK]at h1;cases h1;have hlen:es.size=kvs.length:=by
  rw[<-YPD,h4,YOS,Paired.length rel]
 refine YGo lo iK hex.1 hdat ?_;have I2:=I1.kept (t':=s1.toks) (h':=s1.heap.push { cls:=.type "dict_keyiterator",data:=.fields #[.ref d,.int 0 0,.int es.size 0,.int ep 0] }) λb u e=>YOi _ e;refine⟨_,[_],_,_,H1,Z,I2,YJ7 (o:=o) hdat,⟨_,YOy _ Z,Z,by rw[<-hlen];rfl⟩,λb hb=>?_,q⟩;have eb:=YOT.mp hb;rw[eb];exact I1.fpOk (YOY _)<|I1.hok.fresh<|YOY _
end
theorem YGp{d:al}{o:Obj}{kvs:J (J c_×V)}{g:TG}{tb:TS}{D:Ja}{σ:St}{H:L}(Pv:Nat->St->L->Prop)(h0:Pv 0 σ H)(hl:∀i σ H,i<=kvs.length->Pv i σ H->H d=some (.frz o<|.dT kvs))
  (hs:∀i kv b σ H,kvs[i]?=some kv->H b=some (.tup<|kv.1.map kV)->Pv i σ H->g (.ref b) σ H λσ2 H2=>tb { D with nx:=Pv (i+1),ct:=Pv (i+1),bk:=D.nx } σ2 H2)(hd:∀σ H,Pv kvs.length σ H->D.nx σ H):
  ∃W:Nat->Nat->St->L->Prop,(∃m,W 0 m σ H)/\∀i m σ H,W i m σ H->
   ((kX d o kvs).stop i H/\D.nx σ H)\/((kX d o kvs).go i H/\∃N:St->L->Prop,(∀σ' H',N σ' H'->∃m',m'<m/\W (i+1) m' σ' H')/\∀x H',(kX d o kvs).yld i H x H'->g x σ H' λσ2 H2=>tb { D with nx:=N,ct:=N,bk:=D.nx } σ2 H2):=by
 refine⟨λi m σ H=>m=kvs.length-i/\i<=kvs.length/\Pv i σ H,⟨kvs.length,by simp,YOn _,h0⟩,?_⟩;rintro i m σ H ⟨rfl,hi,p⟩;have q:=hl i σ H hi p;by_cases Dm:i<kvs.length;refine .inr ⟨⟨q,Dm⟩,Pv<|i+1,λσ' H' p'=>⟨kvs.length-(i+1),by omega,Z,Dm,p'⟩,λx H' y=>?_⟩;obtain⟨b,kv,rfl,hkv,hb,rfl⟩:=y;exact hs i kv b σ _ hkv hb p;have ei:i=kvs.length:=by omega
 subst ei;exact .inl ⟨⟨q,Z⟩,hd σ H p⟩
section
variable {prog:Program}{w:World}{d:al}{od:Obj}{es:Array DictEntry}{ep:Nat}
theorem YJ8(hh:A.handled=none)(I:al)(hne:d≠I)(hdat:od.data=.dict es ep):
  Walks prog w A I [I,d] [I] es.size (λi v=>∃en,es[i]?=some en/\v=en.key) (λi h=>h.IsKeyIter I d i es.size ep/\h.get? d=some od) where
 sub:=λb hb=>by simp at hb;simp[hb]
 frame:=λ_ _ _ st hk=>⟨st.1.at λo e=>hk I (by simp) o e,hk d (by simp) _ st.2⟩
 item:=λi s Q E hi st hQ=>by
  have U:es[i]?=some es[i]:=by simp[hi]
  refine YGn st.1 st.2 hdat Z U λh' hit' hs'=>?_;exact hQ _ h' s.toks ⟨_,U,Z⟩ ⟨hit',(hs'.2 d hne).trans st.2⟩ λb o hb e=>hs'.extBut b o (λh=>hb (by simp[h])) e
 done:=λs Q E st hQ=>YIh hh st.1 st.2 hdat Z λh' he'=>hQ h' s.toks λb o hb e=>he' b o (λh=>hb (by simp[h])) e
 self:=λ_ _ _ _ st hQ=>wpAny_pyIter_keyiter st.1 hQ
theorem oI(lo:(d==sysModules)=false)(hc:od.cls=.type "dict")(hdat:od.data=.dict es ep):PySem.W.KdlSrc prog w "dict" d d es.size (λi v=>∃en,es[i]?=some en/\v=en.key) (λh=>h.get? d=some od) where
 type:=λ_ hm=>⟨_,hm,hc⟩
 there:=λ_ hm=>⟨YOs hm,YOs hm⟩
 keep:=λ_ _ hm hk=>hk d (.inl Z) _ hm
 notList:=by decide
 notTuple:=by decide
 hint:=λ_ _ _ _ hm hq=>PySem.W.kdl_hint_dict ⟨_,hm,hc⟩ hq
 iter:=λ_ _ hh hm=>⟨_,_,(λ_ _ hq=>YGo lo hm hc hdat hq),YJ8 hh _ (YPC<|YOs hm) hdat,⟨⟨_,YOy _ Z,Z,Z⟩,YOi _ hm⟩⟩
end
def YJ9(H:L)(ts:J al)(kvs:J<|J c_×V):Prop:=ts.length=kvs.length/\∀(i:Nat) (t:al) (kv:J c_×V),ts[i]?=some t->kvs[i]?=some kv->H t=some (.tup<|kv.1.map kV)
theorem YBP(hc:X.calm=true):Jy X (.type "list") (λxs H Q=>∃(p:al) (kvs:J<|J c_×V),xs=[.ref p]/\Rd H p (.dT kvs)/\∀l ts,H l=none->YJ9 H ts kvs->Q (.ref l) (upd H l<|.lst<|ts.map V.ref)):=by
 intro O s σ H xs us Q I r h;obtain⟨p,kvs,rfl,hq,q⟩:=h;obtain⟨u,rfl,rx⟩:=j2 r;cases rx;obtain⟨hsz,lo,xs,rel,od,es,ep,iK,hex,hdat,h4,h5⟩:=(show Y7 X.prog X.w H s.heap p (.dT kvs) from kU I.hok hq);have hlen:es.size=kvs.length:=by
  rw[<-YPD,h4,YOS,Paired.length rel]
 refine PySem.W.kdl_call (oI lo hex.1 hdat) (I.ok.hd hc) iK (by rw[hlen];exact hsz) λh' tk uK c' hk hS Dp=>?_;have jw:xs.length=kvs.length:=(Paired.length rel).symm;have WD:YJ9 H (xs.map λx=>x.2.1) kvs:=by
  refine⟨by rw[YOS,jw],λi t kv R e2=>?_⟩;obtain⟨b,u,e3,e4,_⟩:=KT.get rel e2;rw[YOd,e3]at R;cases R;exact e4
 have rv:Yt ((xs.map λx=>x.2.1).map V.ref) uK.toList:=by
  refine YKl (by rw[YOS,YOS,jw,<-hlen];exact(Array.length_toList.trans Dp.1).symm) λj x u h1 h2=>?_;obtain⟨en,hen,rfl⟩:=Dp.2 j u (by rw[<-YPX];exact h2);rw[<-YPX,h4,YOd]at hen;rw[YOd,YOd]at h1;cases e2:xs[j]? with
  |none=>rw[e2]at h1;cases h1
  |some y=>
   rw[e2]at h1 hen;cases h1;cases hen;rfl
 exact⟨.ref s.heap.objs.size,_,I.laid (t':=tk) hk (YOY _) (show Y7 X.prog X.w _ h' _ (.lst _) from⟨by rw[YOS,YOS,jw];exact hsz,uK.toList,c',rv,by simpa using hS⟩),Z,q _ _ (I.hok.fresh<|YOY _) WD⟩
def xa(t:TE):TE:=λσ H Q=>t σ H λv H1=>∃d kvs,H1 d=some (.dT kvs)/\∀o,Q v<|upd H1 d<|.frz o<|.dT kvs
theorem YFN{X:Cx}{e:Expr}{t:TE}(h:PE X e t):PE X e<|xa t:=by
 intro O s σ H Q I hw;refine cJ (h O s σ H _ I hw) ?_;rintro v s1 ⟨x,H1,I1,r1,d,kvs,e0,q⟩;obtain⟨o,I4⟩:=I1.freezeT e0;exact⟨x,_,I4,r1,q o⟩
theorem YIj:Jy X (.builtin "sorted") (λxs H Q=>∃(p:al) (ns:J Int),xs=[.ref p]/\H p=some (.lst<|ns.map V.int)/\ns.length<64/\∀(l:al) (ns':J Int),H l=none->ns'.Perm ns->ns'.Pairwise (·<=·)->Q (.ref l) (upd H l<|.lst<|ns'.map V.int)):=by
 intro O s σ H xs us Q I r h;obtain⟨p,ns,rfl,hp,h64,q⟩:=h;obtain⟨u,rfl,rx⟩:=j2 r;cases rx;obtain⟨hz,its,n,rv,hl⟩:=(show Y7 X.prog X.w H s.heap p (.lst<|ns.map V.int) from I.hok p _ hp);have hll:its.length=ns.length:=by have:=rv.length;rw[YOS]at this;exact this.symm
 refine sorted_ints (vs:=its) ⟨_,hl,Z,_,Z⟩ (YCL rv) (by rw[hll];exact h64) λout ns' a1 a2 a3=>?_;obtain⟨e,he⟩:=sortedAll_at s.heap its out;refine⟨.ref<|s.heap.objs.size+1,_,I.laid (a:=s.heap.objs.size+1) (o:=.lst<|ns'.map V.int) (t':=s.toks) (λb o hb=>sortedAll_old hb) (YPn _) ⟨?_,out.toList,e,YDa a1,by simpa [seqObj] using he⟩,Z,q _ ns' (I.hok.fresh<|YPn _) a2 a3⟩;rw[YOS,a2.length_eq];rw[YOS]at hz;exact hz
def xn(td ty tx:TE):TE:=λσ H Q=>td σ H λx H1=>∃a,x=.ref a/\IsD H1 a/\ty σ H1 λy H2=>tx σ H2 λz H3=>∃kvs k,H3 a=some (.dK kvs)/\y=kV k/\kvs.length<sizeLine/\
 (∀v,Ye kvs k=some v->Q v H3)/\(Ye kvs k=none->Q z (upd H3 a<|.dK<|Yu kvs k z))
section
variable {X:Cx}{o e f:Expr}{bD bj:Pos}{td ty tx:TE}
theorem YMI(hu:X.A.units+1<cLine)(ho:PE X o td)(he:PE X e ty)(hf:PE X f tx)(m:M2 X o "setdefault" bD e f bj):PE X (.Call (.Attribute o "setdefault" bD) [e,f] [] bj)<|xn td ty tx:=by
 intro O s σ H Q I h;refine wpAny_Call_method m.base m.few m.line PySem.F.plainAttrs_dict YPr PySem.F.type_dict_setdefault<|cJ (ho O s σ H _ I h) ?_;rintro u s1 ⟨x,H1,I1,rx,a,ex,d,q1⟩;subst ex;obtain rfl:u=Value.ref a:=rx;obtain⟨t1,t2,_⟩:=YJp I1 d;refine⟨t1,t2,?_⟩;rw[m.trees];refine Calls.callWith_builtin Z (Calls.evalArgs_plain (Calls.spliced_cons<|cJ (he O s1 σ H1 _ I1 q1) λiv s2 ⟨y,H2,I2,ry,q2⟩=>
  Calls.spliced_cons (cJ (hf O s2 σ H2 _ I2 q2) ?_)))
 rintro fv s3 ⟨z,H3,I3,rz,kvs,k,R,ey,hl,hT,hN⟩;refine Calls.spliced_nil ?_;subst ey;obtain⟨zz,hd,vs,rel,dd⟩:=k8 I3.hok R;have hz:vs.length<=sizeLine:=by rw[<-rel.length];exact zz
 refine call_meetsIn YPr dd.typeIs PySem.F.entry_dict_setdefault (PySem.F.args_dict_setdefault_3 _ _ _) (kt_meets_setdefault (Yk X.prog X.w) a (vn ry) hd fv) ⟨vs,dd,hz,λw' hw=>?_,λhn h' lM hs=>?_⟩;have rl:=rel.val k;rw[hw]at rl;cases hv:Ye kvs k with
 |none=>rw[hv]at rl;exact rl.elim
 |some v'=>rw[hv]at rl;exact⟨v',H3,I3.tok _,rl,hT v' hv⟩
 have rl:=rel.val k;rw[hn]at rl;cases hv:Ye kvs k with
 |some v'=>rw[hv]at rl;exact rl.elim
 |none=>
  have hl2:(Yu kvs k z).length<=sizeLine:=by have:=Zr kvs k z;omega
  have he:∃q,h'.get? a=some q:=let ⟨q,_,_,hq,_⟩:=lM;⟨q,hq⟩
  exact⟨z,_,Ck I3 (by rw[R];exact True.intro) hs he<|YJn hl2 hd (rel.put k rz) lM,rz,hN hv⟩
end
end L2
namespace FR
open PySem L2
def YW(H H':L):Prop:=∀b u,H' b=some u->H b=some u\/Y0 u=true
theorem YW.refl(H:L):YW H H:=λ_ _ e=>.inl e
theorem YW.trans(a:YW H H1)(b:YW H1 H2):YW H H2:=λc u e=>(b c u e).elim (a c u) .inr
theorem YW.upd(h:Y0 o=true):YW H<|L2.upd H c o:=Yl h
theorem YL.new(h:YL H)(n:YW H H'):YL H':=λb u e=>(n b u e).elim (h b u) id
theorem YNi{t u:TS}{D:Ja}{σ:St}{H:L}(M:St->L->Prop)(Y1:∀σ' H',M σ' H'->u D σ' H')(h:(∀σ' H',M σ' H'->u D σ' H')->t { D with nx:=u D } σ H):sP t u D σ H:=h Y1
def Z6(g:YV)(r d:Nat):av:=(ZM g r d).getD ""
def ZF(g:YV)(r:Nat):Nat:=((g[r]?).map λru=>ru.2.1.length).getD 0
def XC(F:Nd->Bool)(n r d i:Nat):J Nat:=(List.range<|n+1).filter λk=>F<|.beg r d i k
def Yc(g:YV)(n:Nat)(F:Nd->Bool):Nd->J (J Nd)
 |.part p i j=>if da p=true then [[]] else ((Yi g p).filter λr=>F<|.beg r (ZF g r) i j).map λr=>[.beg r (ZF g r) i j]
 |.beg r 0 i j=>[[]]
 |.beg r (d+1) i j=>((XC F n r d i).filter λk=>F<|.part (Z6 g r d) k j).map λk=>[.beg r d i k,.part (Z6 g r d) k j]
inductive rS(g:YV)(n:Nat)(F:Nd->Bool)(t:Nd):Nd->Prop
 |top:rS g n F t t
 |step {x:Nd}{w:List Nd}{y:Nd}:rS g n F t x->w∈Yc g n F x->y∈w->rS g n F t y
theorem YNj(hw:w∈Yc g n F x)(hy:y∈w):F y=true:=by
 cases x with
 |part p i j=>
  rw[Yc]at hw;split at hw;cases YOT.mp hw;cases hy;obtain⟨r,hr,rfl⟩:=YOt.mp hw;cases YOT.mp hy;exact(YO4.mp hr).2
 |beg r d i j=>
  cases d with
  |zero=>
   rw[Yc]at hw;cases YOT.mp hw;cases hy
  |succ d=>
   rw[Yc]at hw;obtain⟨k,hk,rfl⟩:=YOt.mp hw;obtain⟨h1,h2⟩:=YO4.mp hk;unfold XC at h1;have h3:=(YO4.mp h1).2;rcases YOj.mp hy with rfl|hy
   exact h3;cases YOT.mp hy;exact h2
structure ZE(g:YV)(n:Nat)(F:Nd->Bool)(top:Option Nd)(Dl:List Nd):Prop where
 nd:Dl.Nodup
 sub:∀x∈Dl,F x=true
 tp:∀t,top=some t->t∈Dl
 no:top=none->Dl=[]
 cl:∀x∈Dl,∀w∈Yc g n F x,∀y∈w,y∈Dl
 why:∀x∈Dl,∃t,top=some t/\rS g n F t x
def eP(Dl:J Nd):Nd->Bool:=λx=>decide (x∈Dl)
theorem YB6{top:ah Nd}(h:ZE g n F top Dl)(U:x∈Dl):Yc g n (eP Dl) x=Yc g n F x:=by
 have cl:=h.cl x U;cases x with
 |part p i j=>
  simp only[Yc]at cl ⊢;split;rfl;rename_i hq;rw[if_neg hq]at cl;congr 1;refine List.filter_congr λr hr=>?_;by_cases hf:F (.beg r (ZF g r) i j)=true;rw[hf];exact de<|cl _ (YOt.mpr ⟨r,YO4.mpr ⟨hr,hf⟩,Z⟩) _ YOZ;rw[Bool.not_eq_true]at hf;rw[hf];exact dy λz=>by rw[h.sub _ z]at hf;cases hf
 |beg r d i j=>
  cases d with
  |zero=>rfl
  |succ d=>
   simp only[Yc]at cl ⊢;congr 1;unfold XC at cl ⊢;rw[YQE,YQE];rw[YQE]at cl;refine List.filter_congr λk hk=>?_;by_cases hf:(F (.part (Z6 g r d) k j)&&F (.beg r d i k))=true;rw[hf];have c:=cl _<|YOt.mpr ⟨k,YO4.mpr ⟨hk,hf⟩,Z⟩;rw[YOl];exact⟨de<|c _<|YOV _ YOZ,de<|c _ YOZ⟩;rw[Bool.not_eq_true]at hf;rw[hf];rw[Bool.and_eq_false_iff]at hf ⊢;rcases hf with hf|hf
   exact .inl (dy λz=>by rw[h.sub _ z]at hf;cases hf);exact .inr (dy λz=>by rw[h.sub _ z]at hf;cases hf)
def k3(r d i:Nat):J c_:=[.inl (r:Int),.inl (d:Int),.inl (i:Int)]
theorem yT(h:k3 r d i=k3 r' d' i'):r=r'/\d=d'/\i=i':=by
 simp only[k3,List.cons.injEq,Sum.inl.injEq,Int.ofNat_inj,and_true]at h;exact h
def JM(kvs:J<|J c_×V)(Dl:J Nd):Prop:=kvs.map (·.1)=Dl.map Yd
theorem Cs{κ:Type}[DecidableEq κ]{kvs:J (κ×V)}{k:κ}:(Ye kvs k).isSome=true<->k∈kvs.map (·.1):=by
 induction kvs with
 |nil=>exact⟨nofun,nofun⟩
 |cons q r ih=>
  obtain⟨a,b⟩:=q;by_cases e:a=k;rw[ZT e];exact⟨λ_=>by rw[<-e];exact YOZ,λ_=>rfl⟩;rw[ZU e,ih];exact⟨YOV _,λz=>(YOj.mp z).elim (λz=>absurd z.symm e) id⟩
theorem JM.val(h:JM kvs Dl)(x:Nd):(Ye kvs<|Yd x).isSome=eP Dl x:=by
 rw[YPU,Cs,h];unfold eP;rw[fQ];exact⟨λz=>by obtain⟨y,hy,e⟩:=YOt.mp z;rw[<-J3 e];exact hy,λz=>YOt.mpr ⟨x,z,Z⟩⟩
theorem JM.strange(h:JM kvs Dl)(hk:∀x∈Dl,k≠Yd x):(Ye kvs k).isSome=false:=by
 rw[YPu];intro z;have z:=Cs.mp z;rw[h]at z;obtain⟨y,hy,e⟩:=YOt.mp z;exact hk y hy e.symm
theorem JM.hs(hs:Hs):JM (fY hs)<|hs.map (·.1):=by
 unfold JM fY;rw[YPa,YPa];rfl
theorem JM.len(h:JM kvs Dl):kvs.length=Dl.length:=by
 have:=fZ List.length h;rw[YOS,YOS]at this;exact this
theorem JM.put{kvs:J (J c_×V)}{Dl:J Nd}(h:JM kvs Dl){x:Nd}(U:x∉Dl)(v:V):JM (Yu kvs (Yd x) v)<|Dl++[x]:=by
 have hn:Ye kvs (Yd x)=none:=by
  have:=h.val x;unfold eP at this;rw[dy U]at this;cases e:Ye kvs (Yd x) with
  |none=>rfl
  |some v=>rw[e]at this;cases this
 rw[YCs _ hn];unfold JM at h ⊢;rw[YOk,YOk,h];rfl
def qA(H:L)(a:al)(g:YV):Prop:=∃kvs,H a=some (.dK kvs)/\∀p:av,(Yi g p=[]/\Ye kvs (.inr p)=none)\/∃c,Ye kvs (.inr p)=some (.ref c)/\H c=some (.lst<|(Yi g p).map nV)
def YEo(H:L)(a:al)(Dl:J Nd):Prop:=∃o kvs,H a=some (.frz o<|.dT kvs)/\JM kvs Dl
def sL(H:L)(a:al)(n:Nat)(Dl:J Nd):Prop:=∃o kvs,H a=some (.frz o<|.dT kvs)/\∀r d i:Nat,(XC (eP Dl) n r d i=[]/\Ye kvs (k3 r d i)=none)\/∃c,Ye kvs (k3 r d i)=some (.ref c)/\H c=some (.lst<|(XC (eP Dl) n r d i).map nV)
def mB(H:L)(v:V)(top:ah Nd):Prop:=(top=none/\v=.non)\/∃x t,top=some x/\v=.ref t/\H t=some (.tup<|(Yd x).map kV)
theorem qA.same(h:qA H a g)(s:YF H H'):qA H' a g:=by
 obtain⟨kvs,e,f⟩:=h;exact⟨kvs,s _ _ e,λp=>(f p).imp id λ⟨c,R,e2⟩=>⟨c,R,s _ _ e2⟩⟩
theorem YEo.same(h:YEo H a Dl)(s:YF H H'):YEo H' a Dl:=by
 obtain⟨o,kvs,e,f⟩:=h;exact⟨o,kvs,s _ _ e,f⟩
theorem sL.same(h:sL H a n Dl)(s:YF H H'):sL H' a n Dl:=by
 obtain⟨o,kvs,e,f⟩:=h;exact⟨o,kvs,s _ _ e,λr d i=>(f r d i).imp id λ⟨c,R,e2⟩=>⟨c,R,s _ _ e2⟩⟩
theorem mB.same{top:ah Nd}(h:mB H v top)(s:YF H H'):mB H' v top:=
 h.imp id λ⟨x,t,R,e2,e3⟩=>⟨x,t,R,e2,s _ _ e3⟩
structure Xe(C:Addr)(H:L)(x:Addr)(g:YV)(z:Str)(Dl:List Nd)(top:Option Nd):Prop where
 ex:∃(B l an af ae:Addr) (rv:V) (xs:List V),H x=some (.ins C B [(aw,.ref l),(bq,.str z),(bi,.ref an),(cc,rv),(bE,.ref af),(cb,.ref ae)])/\H l=some (.lst xs)/\YX H xs (g.map ZW)/\qA H an g/\mB H rv top/\YEo H af Dl/\sL H ae z.cps.size Dl
 gr:ZB g=true
 tx:Zs z=true
 lg:∀x∈Dl,j1 g z.cps.toList x
 be:∀r d i j,Nd.beg r (d+1) i j∈Dl->∃k,Nd.beg r d i k∈Dl
theorem Xe.same{top:ah Nd}(h:Xe C H x g z Dl top)(s:YF H H'):Xe C H' x g z Dl top:=by
 obtain⟨B,l,an,af,ae,rv,xs,R,e2,e3,e4,e5,e6,e7⟩:=h.ex;exact⟨⟨B,l,an,af,ae,rv,xs,s _ _ R,s _ _ e2,e3.same s,e4.same s,e5.same s,e6.same s,e7.same s⟩,h.gr,h.tx,h.lg,h.be⟩
def Xb(H:L)(bs:J al)(ws:J<|J Nd):Prop:=bs.length=ws.length/\∀(i:Nat) (b:al) (w:J Nd),bs[i]?=some b->ws[i]?=some w->∃ts:J al,H b=some (.tup<|ts.map V.ref)/\ZQ H ts w
def xf(H:L)(a:al)(ws:J<|J Nd):Prop:=∃bs:J al,H a=some (.lst<|bs.map V.ref)/\Xb H bs ws
theorem Xb.nil:Xb H [] []:=⟨Z,λi b w e=>nomatch e⟩
theorem Xb.keep(h:Xb H bs ws)(k:∀t ys,H t=some (.tup ys)->H' t=some (.tup ys)):Xb H' bs ws:=
 ⟨h.1,λi b w R e2=>let ⟨ts,z1,z2⟩:=h.2 i b w R e2;⟨ts,k _ _ z1,z2.keep k⟩⟩
theorem Xb.snoc(h:Xb H bs ws)(hb:H b=some (.tup<|ts.map V.ref))(hw:ZQ H ts w):Xb H (bs++[b])<|ws++[w]:=by
 refine⟨by rw[YOU,YOU,h.1];rfl,λi b' w' R e2=>?_⟩;by_cases hi:i<bs.length;rw[YOr hi]at R;rw[YOr (by rw[<-h.1];exact hi)]at e2;exact h.2 i b' w' R e2;rw[YOm (by lia)]at R;rw[YOm (by rw[<-h.1];lia),<-h.1]at e2;have hz:i-bs.length=0:=by
  cases hh:i-bs.length with
  |zero=>rfl
  |succ j=>rw[hh]at R;simp at R
 rw[hz]at R e2;cases R;cases e2;exact⟨ts,hb,hw⟩
def rj(r d i:Nat):Nd->ah Nat
 |.beg r' d' i' k=>if r'=r/\d'=d/\i'=i then some k else none
 |.part _ _ _=>none
def mw(l:J Nd)(r d i:Nat):J Nat:=l.filterMap<|rj r d i
theorem YC9:rj r d i x=some k<->x=.beg r d i k:=by
 cases x with
 |part p a b=>exact⟨nofun,nofun⟩
 |beg r' d' i' k'=>
  simp only[rj];split;rename_i h;obtain⟨rfl,rfl,rfl⟩:=h;exact⟨λh=>by cases h;rfl,λh=>by cases h;rfl⟩;rename_i h;exact⟨nofun,λe=>by cases e;exact absurd ⟨Z,Z,Z⟩ h⟩
theorem YCW:k∈mw l r d i<->Nd.beg r d i k∈l:=by
 unfold mw;rw[YPz];exact⟨λ⟨x,U,e⟩=>by rw[<-YC9.mp e];exact U,λh=>⟨_,h,YC9.mpr Z⟩⟩
theorem YDA(h:l.Nodup)(r d i:Nat):(mw l r d i).Nodup:=by
 unfold mw
 induction l with
 |nil=>exact YPJ
 |cons x l ih=>
  have hn:=YOq.mp h;rw[YPj];cases e:rj r d i x with
  |none=>exact ih hn.2
  |some k=>
   refine YOq.mpr ⟨λhm=>?_,ih hn.2⟩;have:=(YCW (l:=l)).mp hm;rw[<-YC9.mp e]at this;exact hn.1 this
theorem YLA:∀{l m:J Nat},l.Pairwise (·<·)->m.Pairwise (·<·)->(∀x,x∈l<->x∈m)->l=m
 |[],[],_,_,_=>rfl
 |[],y::m,_,_,h=>absurd ((h y).mpr YOZ) nofun
 |x::l,[],_,_,h=>absurd ((h x).mp YOZ) nofun
 |x::l,y::m,h1,h2,h=>by
  have p1:=List.pairwise_cons.mp h1;have p2:=List.pairwise_cons.mp h2;have e:x=y:=by
   rcases YOj.mp ((h x).mp YOZ) with e|e
   exact e;have:=p2.1 x e;rcases YOj.mp ((h y).mpr YOZ) with e'|e'
   exact e'.symm;have:=p1.1 y e';lia
  subst e;congr 1;refine YLA p1.2 p2.2 λz=>⟨λhz=>?_,λhz=>?_⟩;rcases YOj.mp ((h z).mp<|YOV _ hz) with e|e
  have:=p1.1 z hz;lia;exact e;rcases YOj.mp ((h z).mpr<|YOV _ hz) with e|e
  have:=p2.1 z hz;lia;exact e
theorem qV{l:J Nat}(h:l.Pairwise (·<=·))(hn:l.Nodup):l.Pairwise (·<·):=by
 have:l.Pairwise λa b=>a<=b/\a≠b:=List.pairwise_and_iff.mpr ⟨h,hn⟩;exact this.imp λ⟨h1,h2⟩=>by lia
theorem YKA(n:Nat)(p:Nat->Bool):((List.range n).filter p).Pairwise (·<·):=List.Pairwise.filter _ List.pairwise_lt_range
theorem YEF{Dl:J Nd}{n r d i:Nat}(hb:∀k,Nd.beg r d i k∈Dl->k<=n)(hn:Dl.Nodup){l:J Nat}(hp:l.Perm<|mw Dl r d i)(hs:l.Pairwise (·<=·)):l=XC (eP Dl) n r d i:=by
 refine YLA (qV hs<|hp.nodup_iff.mpr<|YDA hn r d i) (YKA _ _) λk=>?_;rw[hp.mem_iff,YCW,XC,YO4,YO9];unfold eP;rw[fQ];exact⟨λh=>⟨by have:=hb k h;lia,h⟩,λh=>h.2⟩
structure lT{κ τ:Type}[DecidableEq κ](mk:List (κ×V)->HO)(ky:τ->κ)(H0 H:L)(d:Addr)(own:Addr->Option τ)(E:τ->List Nat)(N:Nat):Prop where
 sm:YF H0 H
 h:∃kvs,H d=some (mk kvs)/\kvs.length<=N/\(∀t,(Ye kvs (ky t)=none/\E t=[])\/∃a,Ye kvs (ky t)=some (.ref a)/\own a=some t/\H a=some (.lst<|(E t).map nV))/\∀k v,Ye kvs k=some v->∃t,k=ky t
 on:∀a t,own a=some t->H0 a=none/\∃xs,H a=some (.lst xs)
 nd:H0 d=none
 pl:∀b o,H b=some o->b=d\/Y0 o=true
 le:∀t,(E t).length<=N
section
variable {κ τ:Type}[DecidableEq κ][DecidableEq τ]{mk:J (κ×V)->HO}{ky:τ->κ}{H0 H H':L}{d:al}{own:al->ah τ}{E:τ->J Nat}{N:Nat}
theorem lT.same(g:lT mk ky H0 H d own E N)(s:YF H H')(hp:YW H H'):lT mk ky H0 H' d own E N:=by
 obtain⟨kvs,R,e2,e3,e4⟩:=g.h;exact⟨g.sm.trans s,⟨kvs,s _ _ R,e2,λt=>(e3 t).imp id λ⟨a,z1,z2,z3⟩=>⟨a,z1,z2,s _ _ z3⟩,e4⟩,λa t e=>let ⟨z1,xs,z2⟩:=g.on a t e;⟨z1,xs,s _ _ z2⟩,g.nd,λb o e=>(hp b o e).elim (g.pl b o) .inr,g.le⟩
theorem lT.more(g:lT mk ky H0 H d own E N)(hm:∀kvs xs,mk kvs≠.lst xs){t:τ}{a:al}(ha:own a=some t)(hv:∀kvs,H d=some (mk kvs)->Ye kvs (ky t)=some (.ref a))(k:Nat):lT mk ky H0 (upd H a<|.lst<|(E t).map nV++[nV k]) d own (λt'=>if t'=t then E t++[k] else E t')<|N+1:=by
 obtain⟨kvs,R,e2,e3,e4⟩:=g.h;obtain⟨na,yz,yC⟩:=g.on a t ha;have hda:d≠a:=Yg R yC<|hm _ _;refine⟨g.sm.put na,⟨kvs,by rw[YB hda];exact R,by lia,λt'=>?_,e4⟩,λc t' e=>?_,g.nd,λb o e=>(Yl Z b o e).elim (g.pl b o) .inr,λt'=>?_⟩;by_cases ht:t'=t;subst ht;rw[if_pos Z];refine .inr ⟨a,hv kvs R,ha,?_⟩;rw[YA,YOk];rfl;rw[if_neg ht];refine(e3 t').imp id λ⟨c,z1,z2,z3⟩=>⟨c,z1,z2,?_⟩;rw[YB (λz=>by rw[z,ha]at z2;cases z2;exact ht Z)];exact z3;obtain⟨z1,xs,z2⟩:=g.on c t' e;by_cases hc:c=a;subst hc;exact⟨z1,_,YA⟩;exact⟨z1,xs,by rw[YB hc];exact z2⟩;by_cases ht:t'=t;rw[if_pos ht,YOU];have:=g.le t;exact YPy this;rw[if_neg ht];have:=g.le t';lia
theorem lT.fresh(g:lT mk ky H0 H d own E N)(hm:∀kvs xs,mk kvs≠.lst xs)(hj:∀a b,mk a=mk b->a=b)(hi:∀t t',ky t=ky t'->t=t'){t:τ}{e:al}(he:H e=some (.lst []))(h0:H0 e=none)(ho:own e=none){kvs:J (κ×V)}(hd:H d=some (mk kvs))(hv:Ye kvs (ky t)=none):lT mk ky H0 (upd H d<|mk<|Yu kvs (ky t)<|.ref e) d (λc=>if c=e then some t else own c) E<|N+1:=by
 obtain⟨jH,R,e2,e3,e4⟩:=g.h;have ek:kvs=jH:=hj _ _<|YO3<|hd.symm.trans R;subst ek;have hE:E t=[]:=by
  rcases e3 t with z|⟨a,z1,z2,z3⟩
  exact z.2;rw[hv]at z1;cases z1
 have kl:∀c ys,H c=some (.lst ys)->upd H d (mk<|Yu kvs (ky t)<|.ref e) c=some (.lst ys):=λc ys z=>by rw[YB<|Yg z hd<|λq=>hm _ _ q.symm];exact z
 refine⟨g.sm.put g.nd,⟨_,YA,by have:=Zr kvs (ky t)<|.ref e;omega,λt'=>?_,λk v z=>?_⟩,λc t' z=>?_,g.nd,λb o z=>(by by_cases hb:b=d;exact .inl hb;rw[YB hb]at z;exact g.pl b o z),λt'=>by have:=g.le t';omega⟩;rw[Z1];by_cases ht:t'=t;subst ht;rw[if_pos Z,hE];exact .inr ⟨e,Z,if_pos Z,kl _ _ he⟩;rw[if_neg<|λz=>ht<|hi _ _ z];exact(e3 t').imp id λ⟨c,z1,z2,z3⟩=>⟨c,z1,by rw[if_neg (λy=>by rw[y,ho]at z2;cases z2)];exact z2,kl _ _ z3⟩;rw[Z1]at z;split at z;rename_i hk;exact⟨t,hk⟩;exact e4 k v z;by_cases hc:c=e;subst hc;exact⟨h0,_,kl _ _ he⟩;rw[if_neg hc]at z;obtain⟨z1,xs,z2⟩:=g.on c t' z;exact⟨z1,xs,kl _ _ z2⟩
end
def XL(g:YV)(m:Nat)(p:av):J Nat:=(List.range m).filter λk=>decide ((g[k]?.map (·.1))=some p)
theorem YEG(h:g[m]?=some ru)(p:av):XL g (m+1) p=if p=ru.1 then XL g m ru.1++[m] else XL g m p:=by
 unfold XL;rw[List.range_succ,List.filter_append,YPP,h];by_cases e:p=ru.1;subst e;rw[if_pos Z];congr 1;show(if decide (some ru.1=some ru.1)=true then _ else _)=_;rw[de Z];rfl;rw[if_neg e];have:decide (Option.map (λx:Ju=>x.1) (some ru)=some p)=false:=dy λz=>e (YO3 z).symm;rw[this];simp
theorem YDB{κ:Type}[DecidableEq κ]{kvs:J (κ×V)}{k:κ}{u:V}(h:Ye kvs k=some u)(v:V):(Yu kvs k v).map (·.1)=kvs.map (·.1):=by
 unfold Yu;have hs:(Ye kvs k).isSome=true:=by rw[h];rfl
 rw[if_pos (by rw[Xy];exact hs),YPa];refine YPN λx _=>?_;show(if x.1=k then (x.1,v) else x).1=x.1;split <;> rfl
theorem YNk(hp:ns.Perm<|Du.map λk:Nat=>(k:Int))(hs:ns.Pairwise (·<=·)):∃L':J Nat,ns=L'.map (λk:Nat=>(k:Int))/\L'.Perm Du/\L'.Pairwise (·<=·):=by
 have hn:∀x∈ns,((x.toNat:Nat):Int)=x:=λx U=>by
  obtain⟨k,_,rfl⟩:=YOt.mp<|hp.mem_iff.mp U;rfl
 refine⟨ns.map Int.toNat,?_,?_,?_⟩;rw[YPa];exact(List.map_id ns).symm.trans<|YPN λx U=>(hn x U).symm;have:=hp.map Int.toNat;rw[YPa]at this;have e:Du.map (Int.toNat∘λk:Nat=>(k:Int))=Du:=(YPN λx _=>rfl).trans<|List.map_id Du;rw[e]at this;exact this;exact List.pairwise_map.mpr (hs.imp λh=>by lia)
theorem YNl(hb:∀k,Nd.beg r d i k∈Dl->k<=n)(hn:Dl.Nodup):(mw Dl r d i).length<=n+1:=by
 have h1:((mw Dl r d i).map λk=>Nd.beg 0 0 0 k).Nodup:=List.pairwise_map.mpr<|(YDA hn r d i).imp λh e=>h (by cases e;rfl);have:=ZN (m:=(List.range<|n+1).map λk=>Nd.beg 0 0 0 k) h1 λx U=>by
  obtain⟨k,hk,rfl⟩:=YOt.mp U;exact YOt.mpr ⟨k,YO9.mpr<|Nat.lt_succ_of_le<|hb k<|YCW.mp hk,Z⟩
 rw[YOS,YOS,YPM]at this;exact this
def gT(t:Nat×Nat×Nat):J c_:=k3 t.1 t.2.1 t.2.2
theorem YHb(t t':Nat×Nat×Nat)(h:gT t=gT t'):t=t':=by
 obtain⟨h1,h2,h3⟩:=yT h;obtain⟨a,b,c⟩:=t;obtain⟨a',b',c'⟩:=t';cases h1;cases h2;cases h3;rfl
def jp(l:J Nd)(t:Nat×Nat×Nat):J Nat:=mw l t.1 t.2.1 t.2.2
theorem YKB{l:J Nd}{m:Nat}{p:av}{i j:Nat}(h:l[m]?=some (.part p i j)):jp (l.take<|m+1)=jp (l.take m):=funext λt=>by
 unfold jp mw;rw[YPA,h,YQJ];show _++[]=_;rw[YO6]
theorem YMJ{l:J Nd}{m r d i k:Nat}(h:l[m]?=some (.beg r d i k)):(λt'=>if t'=(r,d,i) then jp (l.take m) (r,d,i)++[k] else jp (l.take m) t')=jp (l.take<|m+1):=funext λt=>by
 unfold jp mw;rw[YPA,h,YQJ];show _=_++((some<|Nd.beg r d i k).toList.filterMap<|rj t.1 t.2.1 t.2.2);show _=_++([Nd.beg r d i k].filterMap<|rj t.1 t.2.1 t.2.2);rw[YPj];obtain⟨a,b,c⟩:=t;by_cases e:(a,b,c)=(r,d,i);cases e;rw[if_pos Z,YC9.mpr Z];rfl;rw[if_neg e];have:rj a b c (.beg r d i k)=none:=by
  simp only[rj];exact if_neg λz=>e (by obtain⟨z1,z2,z3⟩:=z;rw[z1,z2,z3])
 rw[this];exact(YO6 _).symm
theorem ZV:r∈Yi g p<->∃ru,g[r]?=some ru/\ru.1=p:=by
 unfold Yi;rw[YO4,YO9,fQ];constructor;rintro⟨h1,h2⟩;obtain⟨ru,R,e2⟩:=YO2.mp h2;exact⟨ru,R,e2⟩;rintro⟨ru,R,e2⟩;exact⟨(YOX.mp R).1,by rw[R,<-e2];rfl⟩
theorem YKC(h:p∈g.map (·.1)):Yi g p≠[]:=λz=>by
 obtain⟨ru,lO,e⟩:=YOt.mp h;obtain⟨r,hr⟩:=YPY lO;have:=ZV.mpr ⟨ru,hr,e⟩;rw[z]at this;cases this
theorem YDj(c:Nat):da (("'":av)++⟨#[c]⟩)=true:=by
 rw[X5,YFH];rfl
theorem YNm(h:j1 g cs<|.part p i j)(hq:da p=false):p∈g.map (·.1):=by
 rcases h.1 with h|⟨c,_,e,_⟩
 exact h;rw[e]at hq;unfold gp at hq;rw[YDj]at hq;cases hq
theorem s_(h:g[r]?=some ru):ZF g r=ru.2.1.length:=by unfold ZF;rw[h];rfl
theorem YGq{α:Type}{l:J α}{m:Nat}{a:α}(h:l[m]?=some a)(p:α->Bool)(f:α->J Nd):((l.take<|m+1).filter p).map f=((l.take m).filter p).map f++(if p a=true then [f a] else []):=by
 rw[YPA,h,List.filter_append,YOk];congr 1;show([a].filter p).map f=_;rw[YPP];split <;> rfl
def mm(g:YV)(n:Nat)(Dl:J Nd):ah Nd:=match g with
 |[]=>none
 |r::_=>if eP Dl (.part r.1 0 n)=true then some (.part r.1 0 n) else none
structure ja(H0 H:L)(d wl:Addr)(Dl wt:List Nd):Prop where
 sm:YF H0 H
 h:∃kvs,H d=some (.dT kvs)/\JM kvs Dl
 w:∃ts,H wl=some (.lst<|ts.map V.ref)/\ZQ H ts wt
 nd:H0 d=none
 nw:H0 wl=none
 pl:∀b o,H b=some o->b=d\/Y0 o=true
theorem ja.same{H0 H H':L}{d wl:al}{Dl wt:J Nd}(f:ja H0 H d wl Dl wt)(s:YF H H')(n:YW H H'):ja H0 H' d wl Dl wt:=by
 obtain⟨kvs,R,e2⟩:=f.h;obtain⟨ts,e3,e4⟩:=f.w;exact⟨f.sm.trans s,⟨kvs,s _ _ R,e2⟩,⟨ts,s _ _ e3,e4.keep λ_ _=>s _ _⟩,f.nd,f.nw,λb o e=>(n b o e).elim (f.pl b o) .inr⟩
theorem ja.put{H0 H:L}{d wl:al}{Dl wt:J Nd}(f:ja H0 H d wl Dl wt){kvs:J (J c_×V)}(hd:H d=some (.dT kvs)){y:Nd}(hy:y∉Dl)(v:V):ja H0 (upd H d<|.dT<|Yu kvs (Yd y) v) d wl (Dl++[y]) wt:=by
 obtain⟨jH,R,e2⟩:=f.h;obtain⟨ts,e3,e4⟩:=f.w;rw[hd]at R;cases R;exact⟨f.sm.put f.nd,⟨_,YA,e2.put hy v⟩,⟨ts,by rw[YB<|Yg e3 hd nofun];exact e3,e4.keep λt ys e=>by rw[YB<|Yg e hd nofun];exact e⟩,f.nd,f.nw,λb o e=>(by by_cases hb:b=d;exact .inl hb;rw[YB hb]at e;exact f.pl b o e)⟩
theorem ja.wait{H0 H:L}{d wl:al}{Dl wt wt':J Nd}(f:ja H0 H d wl Dl wt){ts':J al}(hn:ZQ H ts' wt'):ja H0 (upd H wl<|.lst<|ts'.map V.ref) d wl Dl wt':=by
 obtain⟨kvs,R,e2⟩:=f.h;obtain⟨ts,e3,e4⟩:=f.w;exact⟨f.sm.put f.nw,⟨kvs,by rw[YB<|Yg R e3 nofun];exact R,e2⟩,⟨ts',YA,hn.keep λt ys e=>by rw[YB<|Yg e e3 nofun];exact e⟩,f.nd,f.nw,λb o e=>(Yl Z b o e).elim (f.pl b o) .inr⟩
structure iI(g:YV)(n:Nat)(F:Nd->Bool)(top:Option Nd)(Dl wt:List Nd):Prop where
 nd:Dl.Nodup
 sub:∀x∈Dl,F x=true
 tp:∀t,top=some t->t∈Dl
 no:top=none->Dl=[]
 wi:∀x∈wt,x∈Dl
 cl:∀x∈Dl,x∈wt\/∀w∈Yc g n F x,∀y∈w,y∈Dl
 why:∀x∈Dl,∃t,top=some t/\rS g n F t x
 wn:wt.Nodup
theorem iI.fin_{top:ah Nd}(h:iI g n F top Dl []):ZE g n F top Dl:=
 ⟨h.nd,h.sub,h.tp,h.no,λx U=>(h.cl x U).elim nofun id,h.why⟩
structure kA(g:YV)(n:Nat)(F:Nd->Bool)(top:Option Nd)(Dl new:List Nd):Prop where
 nd:(Dl++new).Nodup
 why:∀x∈new,F x=true/\∃t,top=some t/\rS g n F t x
theorem kA.snoc{top:ah Nd}(h:kA g n F top Dl new)(hy:y∉Dl++new)(hf:F y=true/\∃t,top=some t/\rS g n F t y):kA g n F top Dl<|new++[y]:=by
 refine⟨?_,λx U=>?_⟩;rw[<-YOw];exact YPH.mpr ⟨h.nd,YOq.mpr ⟨nofun,YPJ⟩,λa ha b hb e=>hy (by rw[<-YOT.mp hb,<-e];exact ha)⟩;rcases YOf.mp U with U|U
 exact h.why x U;cases YOT.mp U;exact hf
theorem iI.next{g:YV}{n:Nat}{F:Nd->Bool}{top:ah Nd}{Dl wt new:J Nd}{u:Nd}(h:iI g n F top Dl<|wt++[u])(hn:kA g n F top Dl new)(hc:∀w∈Yc g n F u,∀y∈w,y∈Dl++new):iI g n F top (Dl++new)<|wt++new:=by
 refine⟨hn.nd,λx U=>?_,λt ht=>YOg _<|h.tp t ht,λht=>?_,λx U=>?_,λx U=>?_,λx U=>?_,?_⟩;exact(YOf.mp U).elim (h.sub x) λz=>(hn.why x z).1;have h0:=h.no ht;cases new with
 |nil=>rw[h0];rfl
 |cons a l=>
  obtain⟨_,t,e,_⟩:=hn.why a YOZ;rw[ht]at e;cases e
 rcases YOf.mp U with U|U
 exact YOg _<|h.wi x<|YOg _ U;exact YOe _ U;rcases YOf.mp U with U|U
 rcases h.cl x U with z|z
 rcases YOf.mp z with z|z
 exact .inl<|YOg _ z;cases YOT.mp z;exact .inr hc;exact .inr λw hw y hy=>YOg _<|z w hw y hy;exact .inl<|YOe _ U;exact(YOf.mp U).elim (h.why x) λz=>(hn.why x z).2;have h1:=(YPH.mp h.wn).1;have h2:=YPH.mp hn.nd;exact YPH.mpr ⟨h1,h2.2.1,λa ha b hb=>h2.2.2 a (h.wi a<|YOg _ ha) b hb⟩
def Yz(H H':L):Prop:=∀b o,(∀C B fs,o≠.ins C B fs)->H b=some o->H' b=some o
theorem Yz.of(s:YF H H'):Yz H H':=λb o _ e=>s b o e
theorem Yz.trans(a:Yz H H1)(b:Yz H1 H2):Yz H H2:=λc o n e=>b c o n<|a c o n e
theorem Yz.set{fs:J (av×V)}(h:H x=some (.ins C B fs)):Yz H<|L2.upd H x o:=λb u n e=>by
 rw[YB (λz=>by rw[z,h]at e;cases e;exact n _ _ _ Z)];exact e
theorem Yz.lst(s:Yz H H')(h:H a=some (.lst xs)):H' a=some (.lst xs):=s _ _ (λ_ _ _ y=>nomatch y) h
theorem Yz.frz(s:Yz H H')(h:H a=some (.frz o u)):H' a=some (.frz o u):=s _ _ (λ_ _ _ y=>nomatch y) h
mutual
theorem denI(e:Yz H H'):∀{v:V}{d:D},ci H v d->ci H' v d
 |_,.non,h=>by unfold ci at h ⊢;exact h
 |_,.bl _,h=>by unfold ci at h ⊢;exact h
 |_,.int _,h=>by unfold ci at h ⊢;exact h
 |_,.str _,h=>by unfold ci at h ⊢;exact h
 |_,.lst ds,h=>by
  unfold ci at h ⊢;obtain⟨a,xs,R,e2,e3⟩:=h;refine⟨a,xs,R,?_,X7 e e3⟩;rcases e2 with z|⟨o,z⟩
  exact .inl<|e _ _ (λ_ _ _ y=>nomatch y) z;exact .inr ⟨o,e _ _ (λ_ _ _ y=>nomatch y) z⟩
 |_,.tup ds,h=>by
  unfold ci at h ⊢;obtain⟨a,xs,R,e2,e3⟩:=h;exact⟨a,xs,R,e _ _ (λ_ _ _ y=>nomatch y) e2,X7 e e3⟩
 |_,.oth,h=>by
  unfold ci at h ⊢;obtain⟨a,kvs,R,e2⟩:=h;exact⟨a,kvs,R,e _ _ (λ_ _ _ y=>nomatch y) e2⟩
theorem X7(e:Yz H H'):∀{vs:J V}{ds:J D},YX H vs ds->YX H' vs ds
 |[],[],h=>h
 |[],_::_,h=>by unfold YX at h;exact h.elim
 |_::_,[],h=>by unfold YX at h;exact h.elim
 |v::vs,d::ds,h=>by
  unfold YX at h ⊢;exact⟨denI e h.1,X7 e h.2⟩
end
theorem qA.sameI(h:qA H a g)(s:Yz H H'):qA H' a g:=by
 obtain⟨kvs,e,f⟩:=h;exact⟨kvs,s _ _ (λ_ _ _ y=>nomatch y) e,λp=>(f p).imp id λ⟨c,R,e2⟩=>⟨c,R,s _ _ (λ_ _ _ y=>nomatch y) e2⟩⟩
theorem sL.sameI(h:sL H a n Dl)(s:Yz H H'):sL H' a n Dl:=by
 obtain⟨o,kvs,e,f⟩:=h;exact⟨o,kvs,s _ _ (λ_ _ _ y=>nomatch y) e,λr d i=>(f r d i).imp id λ⟨c,R,e2⟩=>⟨c,R,s _ _ (λ_ _ _ y=>nomatch y) e2⟩⟩
theorem mB.sameI{top:ah Nd}(h:mB H v top)(s:Yz H H'):mB H' v top:=
 h.imp id λ⟨x,t,R,e2,e3⟩=>⟨x,t,R,e2,s _ _ (λ_ _ _ y=>nomatch y) e3⟩
theorem YIl(st:JA g cs hs):∀r d i j,Nd.beg r (d+1) i j∈hs.map (·.1)->∃k p,Nd.beg r d i k∈hs.map (·.1)/\Nd.part p k j∈hs.map (·.1)/\ZM g r d=some p:=λr d i j h=>by
 obtain⟨v,hv⟩:=Xa h;rcases st.why _ _ hv with ⟨e,_⟩|⟨d',k,p,a,b,R,e2,e3,e4,_⟩
 cases e;cases R;exact⟨k,p,BD e3,BD e4,e2⟩
theorem Cj(st:JA g cs hs):∀x∈hs.map (·.1),j1 g cs x:=λx h=>by
 obtain⟨v,hv⟩:=Xa h;exact st.leg _ _ hv
theorem oj{top:ah Nd}(st:JA g cs hs)(wk:ZE g cs.length (eP<|hs.map (·.1)) top Dl):∀r d i j,Nd.beg r (d+1) i j∈Dl->∃k,Nd.beg r d i k∈Dl:=λr d i j h=>by
 have h1:Nd.beg r (d+1) i j∈hs.map (·.1):=fF<|wk.sub _ h;obtain⟨k,p,h2,h3,hp⟩:=YIl st r d i j h1;have vI:Z6 g r d=p:=by unfold Z6;rw[hp];rfl
 refine⟨k,wk.cl _ h [.beg r d i k,.part p k j] ?_ _ YOZ⟩;rw[Yc];refine YOt.mpr ⟨k,YO4.mpr ⟨YO4.mpr ⟨YO9.mpr ?_,de h2⟩,?_⟩,by rw[vI]⟩;have:=(Cj st _ h2).2.2;lia;rw[vI];exact de h3
theorem YGr(st:JA g cs hs)(hg:ZB g=true)(hc:cs.length<=60):(hs.map (·.1)).length<=2100000:=
 YO1 (ZN st.nd λx U=>YK2 (six hg)<|Cj st x U) (YIc (Xp hg) hc)
end FR
namespace L2
open PySem PySem.Spec PyProof.Rows
def tFrz(t:TS):TS:=λD σ H=>t { D with nx:=λσ1 H1=>∃d kvs,H1 d=some (.dT kvs)/\∀o,D.nx σ1 (upd H1 d<|.frz o<|.dT kvs) } σ H
theorem xh{X:Cx}{st:Stmt}{t:TS}(h:PS X st t):PS X st<|tFrz t:=by
 intro O s σ H D I hw;refine cJ (h O s σ H _ I hw) λf s1 q=>?_;cases f with
 |next=>
  obtain⟨σ1,H1,I1,d,kvs,e,q⟩:=q;obtain⟨o,I2⟩:=I1.freezeT e;exact⟨σ1,_,I2,q o⟩
 |brk=>exact q
 |cont=>exact q
 |ret u=>exact q
end L2
namespace L2
open PySem PySem.Spec PyProof.Rows PySem.AutoSeq1
set_option maxRecDepth 8000 in
theorem YIm(l b:al)(its b_:Array ai)(n n2:Nat)(dd:ah al)(sl:Array<|ah ai)(yD:¬(!its.isEmpty&&Builtin.List.listTooLong (its.size+b_.size))=true)(hs1:its.size<=sizeLine)(hs2:its.size+b_.size<=sizeLine+1):
  Meets (Builtin.«list.extend» ⟨[.ref l,.ref b],[]⟩) (λ_ Dt s=>s.heap.get? l=some { cls:=.type "list",dict:=none,data:=.seq its n,slots:=#[] }/\s.heap.get? b=some { cls:=.type "tuple",dict:=dd,data:=.seq b_ n2,slots:=sl }/\Dt (.ok<|.ret Value.none) { s with heap:=s.heap.update l (Obj.mapSeq λx=>x++b_),toks:=s.toks }):=
 .of_wp λprog w A Dt s h=>by
  obtain⟨hp,g,d,tk,os⟩:=s;obtain⟨hl,hb,h⟩:=h;have f1:=idx_int;have f2:=AutoSeq1.sub_tuple_tuple;have f3:=AutoSeq1.sub_list_list;have f4:=AutoSeq1.sub_tuple_list;have f5:=AutoSeq1.sub_list_tuple;have hz:(its++b_).size<=sizeLine+1:=by rw[Array.size_append];exact hs2
  wp_walk using (wpAny_updateSeq hl Z (hz:=hs1) (_hz':=hz)),wpAny_loadPart' hl,wpAny_loadPart' hb
  exact⟨_,Z,h⟩
section
variable {X:Cx}
def Dc(K:W.Frag):V->J V->L->VK->Prop:=λx vs H Q=>∃l b xs zs,x=.ref l/\vs=[.ref b]/\H l=some (.lst xs)/\cy K H b zs/\xs.length+zs.length<=sizeLine/\Q .non (upd H l<|.lst<|xs++zs)
theorem YKD(K:W.Frag)(hK:X.K=K):CD X "list.extend"<|Dc K:=by
 subst hK;intro O s σ H x vs v us Q I rx rv h;obtain⟨l,b,xs,zs,rfl,rfl,hH,hB,hz,q⟩:=h;cases rx;obtain⟨u,rfl,ru⟩:=rv.one;cases ru;obtain⟨z,its,n,r,hl,e⟩:=I.lstM hH;obtain⟨b_,r2,⟨o2,e2,c2,n2,d2⟩,z2⟩:=I.tuple hB;have hl2:b_.length=zs.length:=r2.length.symm;obtain⟨oc,od,odt,osl⟩:=o2;cases c2;cases d2;have hsz:its.toArray.size+b_.toArray.size<=sizeLine:=by rw[YOp,YOp];lia
 have tZ:¬(!its.toArray.isEmpty&&Builtin.List.listTooLong (its.toArray.size+b_.toArray.size))=true:=by
  rw[YMu hsz,Bool.and_false];exact YOu
 refine call_meets F.slot_list_extend ⟨_,e,Z⟩ F.entry_list_extend (F.args_list_extend_2 _ _) (YIm l b its.toArray b_.toArray n n2 od osl tZ (by rw[YOp];lia) (by lia)) ⟨e,e2,?_⟩;refine⟨.non,_,I.lset (its':=its++b_) hH e (by simp) (r.append r2) ?_,Z,q⟩;rw[YOU];lia
end
section
variable {X:Cx}{O:J (al×Obj)}{σ:St}{H:L}{s:ar}{d:al}{xs:J V}
end
end L2
namespace FR
open PySem L2
section
variable {α:Type}[DecidableEq α]
def kB(ld:α->Bool)(p:J α)(y:α):Prop:=∃A z C,p=A++z::C/\ld z=true/\y∈z::C
def wv(nb:α->J α)(on:J α)(ld:α->Bool)(left:J α):ah α->J (α×J α)->Prop
 |_,[]=>True
 |c,q::r=>(∃s,nb q.1=q.2++s/\∀y∈s,c=some y\/(y∈on/\(ld q.1=true\/(y∈left/\ld y=false))))/\wv nb on ld left (some q.1) r
def ke(nb:α->J α):J α->Prop
 |x::q::r=>x∈nb q/\ke nb (q::r)
 |_=>True
structure uS(nb:α->List α)(N r:List α):Prop where
 ne:r≠[]
 nd:r.Nodup
 sub:∀x∈r,x∈N
 ch:∀i x y,r[i]?=some x->r[i+1]?=some y->y∈nb x
 cl:∀x y,r[0]?=some x->r.getLast?=some y->x∈nb y
structure Wk(nb:α->List α)(N:List α)(st:List (α×List α))(ld:α->Bool)(left:List α)(met:Option (List α)):Prop where
 nd:(st.map (·.1)++left).Nodup
 sub:∀x∈st.map (·.1)++left,x∈N
 seen:wv nb (st.map (·.1)++left) ld left none st
 ldi:∀x,ld x=true->x∈st.map (·.1)++left
 why:∀x,ld x=true->∃y∈nb x,ld y=true\/kB ld (st.map (·.1)) y
 ord:∀A x Dv,left=A++x::Dv->ld x=false->∀y∈nb x,y∈A/\ld y=false
 lcl:∀x∈left,∀y∈nb x,y∈st.map (·.1)++left
 dn:ke nb (st.map (·.1))
 m0:met=none->∀x,ld x=false
 m1:∀r,met=some r->uS nb N r
theorem wv.mono(ho:∀y∈on,y∈on')(hl:∀y,ld y=true->ld' y=true)(hf:∀y∈left,y∈left'/\(ld y=false->ld' y=false)):∀{c:ah α}{st:J (α×J α)},wv nb on ld left c st->wv nb on' ld' left' c st
 |_,[],_=>trivial
 |c,q::r,h=>by
  obtain⟨⟨s,e,f⟩,t⟩:=h;refine⟨⟨s,e,λy hy=>(f y hy).imp id λ⟨z1,z2⟩=>⟨ho y z1,z2.imp (hl _) λ⟨z3,z4⟩=>⟨(hf y z3).1,(hf y z3).2 z4⟩⟩⟩,wv.mono ho hl hf t⟩
theorem kB.mono(hl:∀y,ld y=true->ld' y=true)(h:kB ld p y):kB ld' p y:=
 let ⟨A,z,C,R,e2,e3⟩:=h;⟨A,z,C,R,hl _ e2,e3⟩
theorem Wk.start(ht:t∈N):Wk nb N [(t,nb t)] (λ_=>false) [] none where
 nd:=YOq.mpr ⟨nofun,YPJ⟩
 sub:=λx U=>by rw[YOT.mp U];exact ht
 seen:=⟨⟨[],(YO6 _).symm,λy hy=>nomatch hy⟩,trivial⟩
 ldi:=λx h=>nomatch h
 why:=λx h=>nomatch h
 ord:=λA x Dv h=>by cases A <;> cases h
 lcl:=λx h=>nomatch h
 dn:=trivial
 m0:=λ_ _=>rfl
 m1:=λr h=>nomatch h
theorem Wk.none_:Wk nb N [] (λ_=>false) [] none where
 nd:=YPJ
 sub:=λx U=>nomatch U
 seen:=trivial
 ldi:=λx h=>nomatch h
 why:=λx h=>nomatch h
 ord:=λA x Dv h=>by cases A <;> cases h
 lcl:=λx h=>nomatch h
 dn:=trivial
 m0:=λ_ _=>rfl
 m1:=λr h=>nomatch h
variable {nb:α->J α}{N:J α}{r:J (α×J α)}{x y:α}{u:J α}{ld:α->Bool}{left:J α}{met:ah (J α)}
theorem Wk.nb_mem(w:Wk nb N ((x,u++[y])::r) ld left met):y∈nb x:=by
 obtain⟨s,e,_⟩:=w.seen.1;rw[show nb x=(u++[y])++s from e];exact YOg _<|YOe _ YOZ
theorem Wk.seen1(w:Wk nb N ((x,u++[y])::r) ld left met)(ho:∀z∈x::r.map (·.1)++left,z∈on')(hl:∀z,ld z=true->ld' z=true)(hf:∀z∈left,z∈left'/\(ld z=false->ld' z=false))(hy:c=some y\/(y∈on'/\(ld' x=true\/(y∈left'/\ld' y=false)))):wv nb on' ld' left' c<|(x,u)::r:=by
 obtain⟨⟨s,e,f⟩,t⟩:=w.seen.mono (on':=on') (ld':=ld') (left':=left') ho hl hf;refine⟨⟨y::s,by rw[show nb x=(u++[y])++s from e,YOw];rfl,λz hz=>?_⟩,t⟩;rcases YOj.mp hz with rfl|hz
 exact hy;exact .inr<|(f z hz).elim nofun id
theorem Wk.down(w:Wk nb N ((x,u++[y])::r) ld left met)(hN:∀x∈N,∀y∈nb x,y∈N)(hy:y∉x::r.map (·.1)++left):Wk nb N ((y,nb y)::(x,u)::r) ld left met where
 nd:=YOq.mpr ⟨hy,w.nd⟩
 sub:=λz hz=>(YOj.mp hz).elim (λe=>by rw[e];exact hN x (w.sub x YOZ) _ w.nb_mem) (w.sub z)
 seen:=⟨⟨[],(YO6 _).symm,λy hy=>nomatch hy⟩,w.seen1 (λz=>YOV _) (λ_=>id) (λz hz=>⟨hz,id⟩)<|.inl rfl⟩
 ldi:=λz hz=>YOV _ (w.ldi z hz)
 why:=λz hz=>let ⟨v,h1,h2⟩:=w.why z hz;⟨v,h1,h2.imp id λ⟨A,k,C,R,e2,e3⟩=>⟨y::A,k,C,by rw[List.cons_append,<-R];rfl,e2,e3⟩⟩
 ord:=w.ord
 lcl:=λz hz v hv=>YOV _ (w.lcl z hz v hv)
 dn:=⟨w.nb_mem,w.dn⟩
 m0:=w.m0
 m1:=w.m1
theorem Wk.skip(w:Wk nb N ((x,u++[y])::r) ld left met)(hy:y∈left)(hl:ld y=false):Wk nb N ((x,u)::r) ld left met where
 nd:=w.nd
 sub:=w.sub
 seen:=w.seen1 (λz=>id) (λ_=>id) (λz hz=>⟨hz,id⟩) (.inr ⟨YOe _ hy,.inr ⟨hy,hl⟩⟩)
 ldi:=w.ldi
 why:=w.why
 ord:=w.ord
 lcl:=w.lcl
 dn:=w.dn
 m0:=w.m0
 m1:=w.m1
def kM(ld:α->Bool)(x:α):α->Bool:=λz=>ld z || decide (z=x)
theorem X8(h:ld z=true):kM ld x z=true:=by unfold kM;rw[h];rfl
theorem BF:kM ld x x=true:=by unfold kM;rw[de Z,Bool.or_true]
theorem YFP:kM ld x z=true<->ld z=true\/z=x:=by unfold kM;rw[YP8,fQ]
theorem YHc(h:z≠x)(e:ld z=false):kM ld x z=false:=by unfold kM;rw[e,dy h];rfl
theorem Wk.apart(w:Wk nb N (q::r) ld left met)(hz:z∈left):z≠q.1:=λe=>(YOq.mp w.nd).1 (show q.1∈r.map (·.1)++left by rw[<-e];exact YOe _ hz)
theorem Wk.meet(w:Wk nb N ((x,u++[y])::r) ld left met)(hy:y∈x::r.map (·.1)\/ld y=true)(hm:cH≠none)(hr:∀k,cH=some k->uS nb N k):Wk nb N ((x,u)::r) (kM ld x) left cH where
 nd:=w.nd
 sub:=w.sub
 seen:=w.seen1 (λz=>id) (λ_=>X8) (λz hz=>⟨hz,YHc<|w.apart hz⟩) (.inr ⟨hy.elim (λh=>YOg _ h) λh=>w.ldi y h,.inl BF⟩)
 ldi:=λz hz=>(YFP.mp hz).elim (w.ldi z) λe=>by rw[e];exact YOZ
 why:=λz hz=>by
  rcases YFP.mp hz with h|rfl
  obtain⟨v,h1,h2⟩:=w.why z h;exact⟨v,h1,h2.imp X8 λp=>p.mono λ_=>X8⟩;refine⟨y,w.nb_mem,?_⟩;rcases hy with hy|hy
  exact .inr ⟨[],z,_,Z,BF,hy⟩;exact .inl (X8 hy)
 ord:=λA k Dv e hk v hv=>by
  have hk':ld k=false:=by
   cases hh:ld k with
   |false=>rfl
   |true=>rw[X8 hh]at hk;cases hk
  obtain⟨h1,h2⟩:=w.ord A k Dv e hk' v hv;exact⟨h1,YHc (w.apart (by rw[e];exact YOg _ h1)) h2⟩
 lcl:=w.lcl
 dn:=w.dn
 m0:=λh=>absurd h hm
 m1:=hr
theorem Wk.up(w:Wk nb N ((x,[])::r) ld left met)(h0:ld x=false->ld'=ld)(h1:ld x=true->∀q r',r=q::r'->ld'=kM ld q.1)(h2:ld x=true->r=[]->ld'=ld):Wk nb N r ld' (left++[x]) met:=by
 have hold:∀z,ld z=true->ld' z=true:=λz hz=>by
  cases U:ld x with
  |false=>rw[h0 U];exact hz
  |true=>cases r with
   |nil=>rw[h2 U Z];exact hz
   |cons q r'=>rw[h1 U q r' Z];exact X8 hz
 have hnew:∀z,ld' z=true->ld z=true\/(ld x=true/\∃q r',r=q::r'/\z=q.1):=λz hz=>by
  cases U:ld x with
  |false=>rw[h0 U]at hz;exact .inl hz
  |true=>cases r with
   |nil=>rw[h2 U Z]at hz;exact .inl hz
   |cons q r'=>rw[h1 U q r' Z]at hz;exact(YFP.mp hz).imp id λe=>⟨Z,q,r',Z,e⟩
 have vJ:=YOq.mp w.nd;have tL:∀z,z∈left++[x]->ld z=false->ld' z=false:=λz hz hf=>by
  cases h:ld' z with
  |false=>rfl
  |true=>
   rcases hnew z h with h|⟨_,q,r',R,e2⟩
   rw[h]at hf;cases hf;subst R;rcases YOf.mp hz with hz|hz
   exact absurd (show q.1∈r'.map (·.1)++left by rw[<-e2];exact YOe _ hz) (YOq.mp vJ.2).1;exact absurd (by rw[<-YOT.mp hz,e2];exact YOZ) vJ.1
 have qt:∀z,z∈(x::r.map (·.1))++left<->z∈r.map (·.1)++(left++[x]):=λz=>by
  simp only[YOf,YOj,YPo,or_false];constructor;rintro((h|h)|h);exact .inr<|.inr h;exact .inl h;exact .inr<|.inl h;rintro(h|h|h);exact .inl<|.inr h;exact .inr h;exact .inl<|.inl h
 obtain⟨⟨s,es,fs⟩,sr⟩:=w.seen;have es:nb x=s:=es;have fs:∀y∈nb x,y∈(x::r.map (·.1))++left/\(ld x=true\/(y∈left/\ld y=false)):=λy hy=>(fs y (by rw[<-es];exact hy)).elim nofun id;refine⟨?_,λz hz=>w.sub z<|(qt z).mpr hz,?_,?_,?_,?_,?_,?_,?_,w.m1⟩;rw[<-YOw];refine YPH.mpr ⟨vJ.2,YOq.mpr ⟨nofun,YPJ⟩,λa ha b hb e=>vJ.1 ?_⟩;rw[<-YOT.mp hb,<-e];exact ha;have sr:=sr.mono (on':=r.map (·.1)++(left++[x])) (ld':=ld') (left':=left++[x]) (λy hy=>(qt y).mp hy) hold λy hy=>⟨YOg _ hy,tL y<|YOg _ hy⟩;cases r with
 |nil=>trivial
 |cons q r'=>
  obtain⟨⟨s',e',f'⟩,t'⟩:=sr;refine⟨⟨s',e',λy hy=>?_⟩,t'⟩;rcases f' y hy with e|h
  cases e;refine .inr ⟨(qt _).mp YOZ,?_⟩;cases U:ld x with
  |false=>exact .inr ⟨YOe _ YOZ,tL x (YOe _ YOZ) U⟩
  |true=>exact .inl (by rw[h1 U q r' Z];exact BF)
  exact .inr h
 intro z hz;rcases hnew z hz with h|⟨_,q,r',R,e2⟩
 exact(qt z).mp<|w.ldi z h;rw[R,e2];exact YOZ;have pd:∀v,ld v=true\/kB ld (x::r.map (·.1)) v->ld' v=true\/kB ld' (r.map (·.1)) v:=λv h=>by
  rcases h with h|⟨A,z,C,R,e2,e3⟩
  exact .inl<|hold v h;cases A with
  |cons a A=>
   exact .inr ⟨A,z,C,(List.cons.inj R).2,hold z e2,e3⟩
  |nil=>
   cases R;rcases YOj.mp e3 with rfl|e3
   exact .inl<|hold _ e2;cases r with
   |nil=>cases e3
   |cons q r'=>exact .inr ⟨[],q.1,r'.map (·.1),Z,by rw[h1 e2 q r' Z];exact BF,(show v∈q.1::r'.map (·.1) from e3)⟩
 intro z hz;rcases hnew z hz with h|⟨U,q,r',R,e2⟩
 obtain⟨v,h1,h2⟩:=w.why z h;exact⟨v,h1,pd v h2⟩;subst R;have:=w.dn.1;rw[e2];exact⟨x,this,.inl<|hold x U⟩;intro A k Dv e hk v hv;have hk':ld k=false:=by
  cases hh:ld k with
  |false=>rfl
  |true=>rw[hold k hh]at hk;cases hk
 have key:(∃B',left=A++k::B')\/(k=x/\A=left):=by
  cases hB:Dv.reverse with
  |nil=>
   rw[List.reverse_eq_nil_iff]at hB;subst hB;obtain⟨R,e2⟩:=List.append_inj' e Z;cases e2;exact .inr ⟨Z,R.symm⟩
  |cons b B'=>
   have hB:=fZ List.reverse hB;rw[YP3,YPE]at hB;subst hB;rw[<-List.cons_append,<-YOw]at e;exact .inl ⟨_,(List.append_inj' e Z).1⟩
 rcases key with ⟨B',e⟩|⟨rfl,rfl⟩
 obtain⟨h1,h2⟩:=w.ord A k B' e hk' v hv;exact⟨h1,tL v (YOg _ (by rw[e];exact YOg _ h1)) h2⟩;rcases(fs v hv).2 with h|⟨h1,h2⟩
 rw[h]at hk';cases hk';exact⟨h1,tL v (YOg _ h1) h2⟩;intro z hz v hv;rcases YOf.mp hz with hz|hz
 exact(qt v).mp<|w.lcl z hz v hv;rw[YOT.mp hz]at hv;exact(qt v).mp (fs v hv).1;cases r with
 |nil=>trivial
 |cons q r'=>exact w.dn.2
 intro h z;have:=w.m0 h;rw[h0<|this x];exact this z
structure zI(nb:α->List α)(N cl:List α):Prop where
 nd:cl.Nodup
 sub:∀x∈cl,x∈N
 ord:∀A x Dv,cl=A++x::Dv->∀y∈nb x,y∈A
 oth:∀x∈N,x∉cl->∃y∈nb x,y∉cl
theorem YCX:∀{l A Dv:J α}{x:α},l.filter p=A++x::Dv->∃A' B',l=A'++x::B'/\A=A'.filter p/\p x=true
 |[],A,Dv,x,h=>by cases A <;> cases h
 |a::l,A,Dv,x,h=>by
  rw[YPP]at h;split at h;rename_i ha;cases A with
  |nil=>
   cases h;exact⟨[],l,Z,Z,ha⟩
  |cons b A=>
   obtain⟨h0,h⟩:=List.cons.inj h;obtain⟨A',B',R,e2,e3⟩:=YCX h;exact⟨a::A',B',by rw[R];rfl,by rw[YPP,if_pos ha,e2,h0],e3⟩
  rename_i ha;obtain⟨A',B',R,e2,e3⟩:=YCX h;exact⟨a::A',B',by rw[R];rfl,by rw[YPP,if_neg ha,e2],e3⟩
theorem Wk.calm(w:Wk nb N [] ld left met)(hall:∀x∈N,x∈left):zI nb N (left.filter λz=>!ld z) where
 nd:=List.Nodup.sublist List.filter_sublist w.nd
 sub:=λx U=>w.sub x (YO4.mp U).1
 ord:=λA x Dv e y hy=>by
  obtain⟨A',B',R,e2,e3⟩:=YCX e;obtain⟨h1,h2⟩:=w.ord A' x B' R (by simpa using e3) y hy;rw[e2];exact YO4.mpr ⟨h1,by rw[h2];rfl⟩
 oth:=λx U hn=>by
  have hl:ld x=true:=by
   cases h:ld x with
   |true=>rfl
   |false=>exact absurd (YO4.mpr ⟨hall x U,by rw[h];rfl⟩) hn
  obtain⟨y,h1,h2⟩:=w.why x hl;refine⟨y,h1,λz=>?_⟩;have z:=(YO4.mp z).2;rcases h2 with h2|⟨A,k,C,e,_⟩
  rw[h2]at z;cases z;cases A <;> cases e
theorem ke.at:∀{p:J α},ke nb p->∀i x y,p[i]?=some x->p[i+1]?=some y->x∈nb y
 |[],_,i,x,y,h,_=>nomatch h
 |[a],_,0,x,y,_,h=>nomatch h
 |[a],_,i+1,x,y,h,_=>nomatch h
 |a::b::r,h,0,x,y,h1,h2=>by cases h1;cases h2;exact h.1
 |a::b::r,h,i+1,x,y,h1,h2=>ke.at (p:=b::r) h.2 i x y h1 h2
end
section
variable {α:Type}[DecidableEq α]
theorem i9{p:J α}{k:Nat}(hk:k<p.length):p.reverse[k]?=p[p.length-1-k]?:=List.getElem?_reverse hk
theorem nB{nb:α->J α}{N p:J α}{x y:α}{r:J α}{i:Nat}(hp:p=x::r)(hd:ke nb p)(nd:p.Nodup)(sub:∀z∈p,z∈N)(hi:p.reverse[i]?=some y)(hy:y∈nb x):uS nb N<|p.reverse.drop i:=by
 have hil:i<p.reverse.length:=(YOX.mp hi).1;have h0:(p.reverse.drop i)[0]?=some y:=by rw[List.getElem?_drop];exact hi
 refine⟨λe=>?_,List.Nodup.sublist (List.drop_sublist _ _)<|(List.reverse_perm p).nodup_iff.mpr nd,λz hz=>sub z<|YPS.mp<|YP4 hz,λj a b ha hb=>?_,λa b ha hb=>?_⟩;rw[e]at h0;cases h0;rw[List.getElem?_drop]at ha hb;have rO:=(YOX.mp hb).1;rw[YPB]at rO;rw[i9 (by lia)]at ha hb;have e:p.length-1-(i+j)=p.length-1-(i+(j+1))+1:=by lia
 rw[e]at ha;exact hd.at _ _ _ hb ha;rw[h0]at ha;cases ha;rw[List.getLast?_drop,if_neg (by lia),List.getLast?_reverse,hp]at hb;cases hb;exact hy
end
def DN(kvs:J<|J c_×V)(f:Nd->ah V):Prop:=∃ks,JM kvs ks/\ks.Nodup/\∀y,Ye kvs (Yd y)=f y
theorem DN.nil:DN [] λ_=>none:=⟨[],Z,YPJ,λ_=>rfl⟩
theorem DN.mem(h:DN kvs f):∃ks,JM kvs ks/\ks.Nodup/\∀y,y∈ks<->(f y).isSome=true:=by
 obtain⟨ks,h1,h2,h3⟩:=h;refine⟨ks,h1,h2,λy=>?_⟩;rw[<-h3 y,h1.val y];unfold eP;rw[fQ]
theorem DN.len{kvs:J (J c_×V)}{f:Nd->ah V}(h:DN kvs f){N:J Nd}(hn:∀y,(f y).isSome=true->y∈N):kvs.length<=N.length:=by
 obtain⟨ks,h1,h2,h3⟩:=h.mem;rw[h1.len];exact ZN h2 λy hy=>hn y<|(h3 y).mp hy
theorem DN.put(h:DN kvs f)(x:Nd)(v:V):DN (Yu kvs (Yd x) v) λy=>if y=x then some v else f y:=by
 have hv:∀y,Ye (Yu kvs (Yd x) v) (Yd y)=if y=x then some v else f y:=λy=>by
  rw[Z1];by_cases e:y=x;rw[if_pos e,if_pos (by rw[e])];rw[if_neg e,if_neg λz=>e<|J3 z];obtain⟨_,_,_,h3⟩:=h;exact h3 y
 obtain⟨ks,h1,h2,h3⟩:=h;by_cases U:x∈ks;refine⟨ks,?_,h2,hv⟩;have:(Ye kvs<|Yd x).isSome=true:=by rw[h1.val];exact de U
 obtain⟨u,hu⟩:=YPm.mp this;unfold JM;rw[YDB hu];exact h1;exact⟨ks++[x],h1.put U v,YPH.mpr ⟨h2,YOq.mpr ⟨nofun,YPJ⟩,λa ha b hb e=>U (by rw[<-YOT.mp hb,<-e];exact ha)⟩,hv⟩
def j3(H:L)(a:al)(ns:J Nd):Prop:=∃ts:J al,H a=some (.lst<|ts.map V.ref)/\ZQ H ts ns
theorem j3.keep(h:j3 H a ns)(e:∀xs,H a=some (.lst xs)->H' a=some (.lst xs))(k:∀t ys,H t=some (.tup ys)->H' t=some (.tup ys)):j3 H' a ns:=
 let ⟨ts,R,e2⟩:=h;⟨ts,e _ R,e2.keep k⟩
def lI(H:L)(us:J al)(un:J<|J Nd):Prop:=us.length=un.length/\∀(i:Nat) (u:al) (l:J Nd),us[i]?=some u->un[i]?=some l->j3 H u l
theorem lI.keep(h:lI H us un)(e:∀u∈us,∀xs,H u=some (.lst xs)->H' u=some (.lst xs))(k:∀t ys,H t=some (.tup ys)->H' t=some (.tup ys)):lI H' us un:=
 ⟨h.1,λi u l R e2=>(h.2 i u l R e2).keep (e u<|YOc R) k⟩
theorem lI.snoc(h:lI H us un)(hu:j3 H u l):lI H (us++[u])<|un++[l]:=by
 refine⟨by rw[YOU,YOU,h.1];rfl,λi b w R e2=>?_⟩;by_cases hi:i<us.length;rw[YOr hi]at R;rw[YOr (by rw[<-h.1];exact hi)]at e2;exact h.2 i b w R e2;rw[YOm (by lia)]at R;rw[YOm (by rw[<-h.1];lia),<-h.1]at e2;have hz:i-us.length=0:=by
  cases hh:i-us.length with
  |zero=>rfl
  |succ j=>rw[hh]at R;simp at R
 rw[hz]at R e2;cases R;cases e2;exact hu
theorem lI.pop(h:lI H (us++[u])<|un++[l]):lI H us un/\j3 H u l:=by
 have hl:us.length=un.length:=by
  have:=h.1;rw[YOU,YOU]at this;simpa using this
 refine⟨⟨hl,λi t' x' R e2=>h.2 i t' x' (by rw[YOr (YOX.mp R).1];exact R) (by rw[YOr (YOX.mp e2).1];exact e2)⟩,?_⟩;exact h.2 us.length u l (by rw[YOm<|YOY _,YPh];rfl) (by rw[YOm (by rw[hl];exact YOY _),hl,YPh];rfl)
def YLB(H:L)(mv:V)(ms:J al)(met:ah<|J Nd):Prop:=(met=none/\mv=.non/\ms=[])\/∃r b,met=some r/\mv=.ref b/\ms=[b]/\j3 H b r
theorem YLB.keep(h:YLB H mv ms met)(e:∀u∈ms,∀xs,H u=some (.lst xs)->H' u=some (.lst xs))(k:∀t ys,H t=some (.tup ys)->H' t=some (.tup ys)):YLB H' mv ms met:=
 h.imp id λ⟨r,b,R,e2,e3,e4⟩=>⟨r,b,R,e2,e3,e4.keep (e b (by rw[e3];exact YOZ)) k⟩
def rq(wd a1 a2 a3 a4 a5:al)(mv:V):J<|av×V:=[(bp,.ref wd),("path",.ref a1),(dr,.ref a2),(dS,.ref a3),("leading",.ref a4),("left",.ref a5),("met",mv)]
structure ft(C:Addr)(H0 H:L)(x wd a1 a2 a3 a4 a5:Addr)(us ms:List Addr)(p:List Nd)(un:List (List Nd))(f3 f4:Nd->Option V)(left:List Nd)(met:Option (List Nd)):Prop where
 sm:YF H0 H
 x_:∃B mv,H x=some (.ins C B<|rq wd a1 a2 a3 a4 a5 mv)/\YLB H mv ms met
 h1:j3 H a1 p
 h2:H a2=some (.lst<|us.map V.ref)
 hu:lI H us un
 h3:∃kvs,H a3=some (.dT kvs)/\DN kvs f3
 h4:∃kvs,H a4=some (.dT kvs)/\DN kvs f4
 h5:j3 H a5 left
 dj:(a1::a2::a5::(ms++us)).Nodup
 nf:∀b∈a1::a2::a5::(ms++us),H0 b=none
 nx:H0 x=none
 n3:H0 a3=none
 n4:H0 a4=none
 d34:a3≠a4
section
variable {C:al}{H0 H H':L}{x wd a1 a2 a3 a4 a5:al}{us ms:J al}{p:J Nd}{un:J (J Nd)}{f3 f4:Nd->ah V}{left:J Nd}{met:ah (J Nd)}
theorem ft.same(s:ft C H0 H x wd a1 a2 a3 a4 a5 us ms p un f3 f4 left met)(m:YF H H'):ft C H0 H' x wd a1 a2 a3 a4 a5 us ms p un f3 f4 left met:=by
 obtain⟨B,mv,U,hm⟩:=s.x_;obtain⟨k3,e3,d3⟩:=s.h3;obtain⟨k4,e4,d4⟩:=s.h4;have kt:∀t ys,H t=some (.tup ys)->H' t=some (.tup ys):=λ_ _=>m _ _;exact⟨s.sm.trans m,⟨B,mv,m _ _ U,hm.keep (λ_ _ _=>m _ _) kt⟩,s.h1.keep (λ_=>m _ _) kt,m _ _ s.h2,s.hu.keep (λ_ _ _=>m _ _) kt,⟨k3,m _ _ e3,d3⟩,⟨k4,m _ _ e4,d4⟩,s.h5.keep (λ_=>m _ _) kt,s.dj,s.nf,s.nx,s.n3,s.n4,s.d34⟩
theorem ft.ap(s:ft C H0 H x wd a1 a2 a3 a4 a5 us ms p un f3 f4 left met):a1≠a2/\a1≠a5/\a2≠a5/\(∀b∈ms++us,b≠a1/\b≠a2/\b≠a5):=by
 obtain⟨h1,h2⟩:=YOq.mp s.dj;obtain⟨h3,h4⟩:=YOq.mp h2;obtain⟨h5,_⟩:=YOq.mp h4;exact⟨λe=>h1 (by rw[e];exact YOZ),λe=>h1 (by rw[e];exact YOV _ YOZ),λe=>h3 (by rw[e];exact YOZ),λb hb=>⟨λe=>h1 (by rw[<-e];exact YOV _<|YOV _ hb),λe=>h3 (by rw[<-e];exact YOV _ hb),λe=>h5 (by rw[<-e];exact hb)⟩⟩
theorem ft.there(s:ft C H0 H x wd a1 a2 a3 a4 a5 us ms p un f3 f4 left met)(hb:b∈a1::a2::a5::(ms++us)):H b≠none:=by
 rcases YOj.mp hb with e|hb
 obtain⟨ts,h,_⟩:=s.h1;rw[e,h];exact nofun;rcases YOj.mp hb with e|hb
 rw[e,s.h2];exact nofun;rcases YOj.mp hb with e|hb
 obtain⟨ts,h,_⟩:=s.h5;rw[e,h];exact nofun;rcases YOf.mp hb with hb|hb
 obtain⟨B,mv,_,hm⟩:=s.x_;rcases hm with ⟨_,_,e⟩|⟨r,c,_,_,e,ts,h,_⟩
 rw[e]at hb;cases hb;rw[e]at hb;rw[YOT.mp hb,h];exact nofun;obtain⟨i,hi⟩:=YPY hb;have hl:=(YOX.mp hi).1;obtain⟨ts,h,_⟩:=s.hu.2 i b _ hi<|YOW (by rw[<-s.hu.1];exact hl);rw[h];exact nofun
theorem YY{H:L}{c b:al}{o o' u:HO}(hc:H c=some o)(n:u≠o)(h:H b=some u):upd H c o' b=some u:=by rw[YB<|Yg h hc n];exact h
theorem ZR(n:b≠c)(h:H b=some u):upd H c o' b=some u:=by rw[YB n];exact h
theorem ft.set3(s:ft C H0 H x wd a1 a2 a3 a4 a5 us ms p un f3 f4 left met)(hk:H a3=some (.dT kvs))(y:Nd)(v:V):ft C H0 (upd H a3<|.dT<|Yu kvs (Yd y) v) x wd a1 a2 a3 a4 a5 us ms p un (λz=>if z=y then some v else f3 z) f4 left met:=by
 obtain⟨B,mv,U,hm⟩:=s.x_;obtain⟨k3,e3,d3⟩:=s.h3;obtain⟨k4,e4,d4⟩:=s.h4;rw[hk]at e3;cases e3;have kt:∀t ys,H t=some (.tup ys)->upd H a3 (.dT<|Yu kvs (Yd y) v) t=some (.tup ys):=λt ys=>YY hk nofun;have kl:∀t ys,H t=some (.lst ys)->upd H a3 (.dT<|Yu kvs (Yd y) v) t=some (.lst ys):=λt ys=>YY hk nofun;exact⟨s.sm.put s.n3,⟨B,mv,YY hk nofun U,hm.keep (λ_ _=>kl _) kt⟩,s.h1.keep (kl _) kt,kl _ _ s.h2,s.hu.keep (λ_ _=>kl _) kt,⟨_,YA,d3.put y v⟩,⟨k4,ZR s.d34.symm e4,d4⟩,s.h5.keep (kl _) kt,s.dj,s.nf,s.nx,s.n3,s.n4,s.d34⟩
theorem ft.set4(s:ft C H0 H x wd a1 a2 a3 a4 a5 us ms p un f3 f4 left met)(hk:H a4=some (.dT kvs))(y:Nd)(v:V):ft C H0 (upd H a4<|.dT<|Yu kvs (Yd y) v) x wd a1 a2 a3 a4 a5 us ms p un f3 (λz=>if z=y then some v else f4 z) left met:=by
 obtain⟨B,mv,U,hm⟩:=s.x_;obtain⟨k3,e3,d3⟩:=s.h3;obtain⟨k4,e4,d4⟩:=s.h4;rw[hk]at e4;cases e4;have kt:∀t ys,H t=some (.tup ys)->upd H a4 (.dT<|Yu kvs (Yd y) v) t=some (.tup ys):=λt ys=>YY hk nofun;have kl:∀t ys,H t=some (.lst ys)->upd H a4 (.dT<|Yu kvs (Yd y) v) t=some (.lst ys):=λt ys=>YY hk nofun;exact⟨s.sm.put s.n4,⟨B,mv,YY hk nofun U,hm.keep (λ_ _=>kl _) kt⟩,s.h1.keep (kl _) kt,kl _ _ s.h2,s.hu.keep (λ_ _=>kl _) kt,⟨k3,ZR s.d34 e3,d3⟩,⟨_,YA,d4.put y v⟩,s.h5.keep (kl _) kt,s.dj,s.nf,s.nx,s.n3,s.n4,s.d34⟩
theorem ft.set1(s:ft C H0 H x wd a1 a2 a3 a4 a5 us ms p un f3 f4 left met)(hn:ZQ H ts p'):ft C H0 (upd H a1<|.lst<|ts.map V.ref) x wd a1 a2 a3 a4 a5 us ms p' un f3 f4 left met:=by
 obtain⟨B,mv,U,hm⟩:=s.x_;obtain⟨k3,e3,d3⟩:=s.h3;obtain⟨k4,e4,d4⟩:=s.h4;obtain⟨t1,R,_⟩:=s.h1;obtain⟨q1,q2,q3,q4⟩:=s.ap;have kt:∀t ys,H t=some (.tup ys)->upd H a1 (.lst<|ts.map V.ref) t=some (.tup ys):=λt ys=>YY R nofun;exact⟨s.sm.put<|s.nf _ YOZ,⟨B,mv,YY R nofun U,hm.keep (λb hb _=>ZR (q4 b<|YOg _ hb).1) kt⟩,⟨ts,YA,hn.keep kt⟩,ZR q1.symm s.h2,s.hu.keep (λb hb _=>ZR (q4 b<|YOe _ hb).1) kt,⟨k3,YY R nofun e3,d3⟩,⟨k4,YY R nofun e4,d4⟩,s.h5.keep (λ_=>ZR q2.symm) kt,s.dj,s.nf,s.nx,s.n3,s.n4,s.d34⟩
theorem ft.set5(s:ft C H0 H x wd a1 a2 a3 a4 a5 us ms p un f3 f4 left met)(hn:ZQ H ts l'):ft C H0 (upd H a5<|.lst<|ts.map V.ref) x wd a1 a2 a3 a4 a5 us ms p un f3 f4 l' met:=by
 obtain⟨B,mv,U,hm⟩:=s.x_;obtain⟨k3,e3,d3⟩:=s.h3;obtain⟨k4,e4,d4⟩:=s.h4;obtain⟨t1,R,_⟩:=s.h5;obtain⟨q1,q2,q3,q4⟩:=s.ap;have kt:∀t ys,H t=some (.tup ys)->upd H a5 (.lst<|ts.map V.ref) t=some (.tup ys):=λt ys=>YY R nofun;exact⟨s.sm.put<|s.nf _<|YOV _<|YOV _ YOZ,⟨B,mv,YY R nofun U,hm.keep (λb hb _=>ZR (q4 b<|YOg _ hb).2.2) kt⟩,s.h1.keep (λ_=>ZR q2) kt,ZR q3 s.h2,s.hu.keep (λb hb _=>ZR (q4 b<|YOe _ hb).2.2) kt,⟨k3,YY R nofun e3,d3⟩,⟨k4,YY R nofun e4,d4⟩,⟨ts,YA,hn.keep kt⟩,s.dj,s.nf,s.nx,s.n3,s.n4,s.d34⟩
theorem ft.set2(s:ft C H0 H x wd a1 a2 a3 a4 a5 us ms p un f3 f4 left met)(hn:lI H jN WF)(dj:(a1::a2::a5::(ms++jN)).Nodup)(nf:∀b∈jN,H0 b=none):ft C H0 (upd H a2<|.lst<|jN.map V.ref) x wd a1 a2 a3 a4 a5 jN ms p WF f3 f4 left met:=by
 obtain⟨B,mv,U,hm⟩:=s.x_;obtain⟨k3,e3,d3⟩:=s.h3;obtain⟨k4,e4,d4⟩:=s.h4;have R:=s.h2;obtain⟨q1,q2,q3,q4⟩:=s.ap;have kt:∀t ys,H t=some (.tup ys)->upd H a2 (.lst<|jN.map V.ref) t=some (.tup ys):=λt ys=>YY R nofun;have hu2:∀b∈jN,b≠a2:=λb hb e=>(YOq.mp (YOq.mp dj).2).1 (by rw[<-e];exact YOV _<|YOe _ hb);refine⟨s.sm.put<|s.nf _<|YOV _ YOZ,⟨B,mv,YY R nofun U,hm.keep (λb hb _=>ZR (q4 b<|YOg _ hb).2.1) kt⟩,s.h1.keep (λ_=>ZR q1) kt,YA,hn.keep (λb hb _=>ZR<|hu2 b hb) kt,⟨k3,YY R nofun e3,d3⟩,⟨k4,YY R nofun e4,d4⟩,s.h5.keep (λ_=>ZR q3.symm) kt,dj,λb hb=>?_,s.nx,s.n3,s.n4,s.d34⟩;rcases YOj.mp hb with e|hb
 exact s.nf b (by rw[e];exact YOZ);rcases YOj.mp hb with e|hb
 exact s.nf b (by rw[e];exact YOV _ YOZ);rcases YOj.mp hb with e|hb
 exact s.nf b (by rw[e];exact YOV _<|YOV _ YOZ);exact(YOf.mp hb).elim (λz=>s.nf b<|YOV _<|YOV _<|YOV _<|YOg _ z)<|nf b
theorem ft.push(s:ft C H0 H x wd a1 a2 a3 a4 a5 us ms p un f3 f4 left met)(hl:j3 H u l)(h0:H0 u=none)(hu:u∉a1::a2::a5::(ms++us)):ft C H0 (upd H a2<|.lst<|(us++[u]).map V.ref) x wd a1 a2 a3 a4 a5 (us++[u]) ms p (un++[l]) f3 f4 left met:=by
 refine s.set2 (s.hu.snoc hl) ?_ λb hb=>?_;have e:a1::a2::a5::(ms++(us++[u]))=(a1::a2::a5::(ms++us))++[u]:=by rw[<-YOw];rfl
 rw[e];exact YPH.mpr ⟨s.dj,YOq.mpr ⟨nofun,YPJ⟩,λa ha b hb e=>hu (by rw[<-YOT.mp hb,<-e];exact ha)⟩;rcases YOf.mp hb with hb|hb
 exact s.nf b<|YOV _<|YOV _<|YOV _<|YOe _ hb;rw[YOT.mp hb];exact h0
theorem ft.pop(s:ft C H0 H x wd a1 a2 a3 a4 a5 (us++[u]) ms p (un++[l]) f3 f4 left met):ft C H0 (upd H a2<|.lst<|us.map V.ref) x wd a1 a2 a3 a4 a5 us ms p un f3 f4 left met:=by
 have sl:(a1::a2::a5::(ms++us)).Sublist<|a1::a2::a5::(ms++(us++[u])):=by
  rw[<-YOw];exact List.sublist_append_left (a1::a2::a5::(ms++us)) [u]
 exact s.set2 s.hu.pop.1 (List.Nodup.sublist sl s.dj) λb hb=>s.nf b<|sl.subset<|YOV _<|YOV _<|YOV _<|YOe _ hb
theorem ft.setU(s:ft C H0 H x wd a1 a2 a3 a4 a5 (us++[u]) ms p (un++[l]) f3 f4 left met)(hn:ZQ H ts l'):ft C H0 (upd H u<|.lst<|ts.map V.ref) x wd a1 a2 a3 a4 a5 (us++[u]) ms p (un++[l']) f3 f4 left met:=by
 obtain⟨B,mv,U,hm⟩:=s.x_;obtain⟨k3,e3,d3⟩:=s.h3;obtain⟨k4,e4,d4⟩:=s.h4;obtain⟨hu0,t1,R,_⟩:=s.hu.pop;obtain⟨q1,q2,q3,q4⟩:=s.ap;have vK:u∈ms++(us++[u]):=YOe _<|YOe _ YOZ;obtain⟨qa,qb,qc⟩:=q4 u vK;have Qi:=(YOq.mp (YOq.mp (YOq.mp s.dj).2).2).2;rw[<-YOw]at Qi;have nu:∀b∈ms++us,b≠u:=λb hb=>(YPH.mp Qi).2.2 b hb u YOZ;have kt:∀t ys,H t=some (.tup ys)->upd H u (.lst<|ts.map V.ref) t=some (.tup ys):=λt ys=>YY R nofun;exact⟨s.sm.put<|s.nf _<|YOV _<|YOV _<|YOV _ vK,⟨B,mv,YY R nofun U,hm.keep (λb hb _=>ZR<|nu b<|YOg _ hb) kt⟩,s.h1.keep (λ_=>ZR qa.symm) kt,ZR qb.symm s.h2,(hu0.keep (λb hb _=>ZR<|nu b<|YOe _ hb) kt).snoc ⟨ts,YA,hn.keep kt⟩,⟨k3,YY R nofun e3,d3⟩,⟨k4,YY R nofun e4,d4⟩,s.h5.keep (λ_=>ZR qc.symm) kt,s.dj,s.nf,s.nx,s.n3,s.n4,s.d34⟩
theorem ft.setM(s:ft C H0 H x wd a1 a2 a3 a4 a5 us [] p un f3 f4 left none)(U:H x=some (.ins C B<|rq wd a1 a2 a3 a4 a5 mv))(hl:j3 H b r)(h0:H0 b=none)(hb:b∉a1::a2::a5::us):ft C H0 (upd H x<|.ins C B<|rq wd a1 a2 a3 a4 a5<|.ref b) x wd a1 a2 a3 a4 a5 us [b] p un f3 f4 left<|some r:=by
 obtain⟨k3,e3,d3⟩:=s.h3;obtain⟨k4,e4,d4⟩:=s.h4;have kt:∀t ys,H t=some (.tup ys)->upd H x (.ins C B<|rq wd a1 a2 a3 a4 a5<|.ref b) t=some (.tup ys):=λt ys=>YY U nofun;have kl:∀t ys,H t=some (.lst ys)->upd H x (.ins C B<|rq wd a1 a2 a3 a4 a5<|.ref b) t=some (.lst ys):=λt ys=>YY U nofun;have dj:=s.dj;have pm:(a1::a2::a5::([b]++us)).Perm<|b::(a1::a2::a5::us):=(List.perm_middle (l₁:=[a1,a2,a5]) (a:=b) (l₂:=us));refine⟨s.sm.put s.nx,⟨B,.ref b,YA,.inr ⟨r,b,Z,Z,Z,hl.keep (kl _) kt⟩⟩,s.h1.keep (kl _) kt,kl _ _ s.h2,s.hu.keep (λ_ _=>kl _) kt,⟨k3,YY U nofun e3,d3⟩,⟨k4,YY U nofun e4,d4⟩,s.h5.keep (kl _) kt,pm.nodup_iff.mpr<|YOq.mpr ⟨hb,dj⟩,λc hc=>?_,s.nx,s.n3,s.n4,s.d34⟩;rcases YOj.mp (pm.mem_iff.mp hc) with e|hc
 rw[e];exact h0;exact s.nf c hc
end
def gI(p left:J Nd):Nd->ah V:=λy=>if y∈p then some (.bl true) else if y∈left then some (.bl false) else none
def mr(ld:Nd->Bool):Nd->ah V:=λy=>if ld y=true then some (.bl true) else none
theorem YIo:(λz=>if z=y then some (V.bl true) else gI p left z)=gI (y::p) left:=funext λz=>by
 unfold gI;by_cases e:z=y;rw[if_pos e,if_pos (by rw[e];exact YOZ)];rw[if_neg e];by_cases h:z∈p;rw[if_pos h,if_pos<|YOV _ h];rw[if_neg h,if_neg<|λk=>(YOj.mp k).elim e h]
theorem AB(hy:y∉p):(λz=>if z=y then some (V.bl false) else gI (y::p) left z)=gI p (left++[y]):=funext λz=>by
 unfold gI;by_cases e:z=y;rw[if_pos e,if_neg (by rw[e];exact hy),if_pos (by rw[e];exact YOe _ YOZ)];rw[if_neg e];by_cases h:z∈p;rw[if_pos h,if_pos<|YOV _ h];rw[if_neg h,if_neg<|λk=>(YOj.mp k).elim e h];by_cases hl:z∈left;rw[if_pos hl,if_pos<|YOg _ hl];rw[if_neg hl,if_neg<|λk=>(YOf.mp k).elim hl λk=>e<|YOT.mp k]
theorem YLC:(λz=>if z=y then some (V.bl true) else mr ld z)=mr (kM ld y):=funext λz=>by
 unfold mr;by_cases e:z=y;rw[if_pos e,e,if_pos BF];rw[if_neg e];cases h:ld z with
 |true=>rw[if_pos<|X8 h];rfl
 |false=>rw[YHc e h]
end FR
namespace L2
open PySem PySem.Spec PyProof.Rows PySem.SeqAt
section
variable {X:Cx}
theorem YF2(K:W.Frag)(hK:X.K=K)(hu:X.A.units+64<cLine):AN X "list.index" (λx vs H Q=>∃(p:al) (ts:J al) (ds:J D) (t:al) (d:D) (j:Nat),x=.ref p/\vs=[.ref t]/\aX K H p (ts.map V.ref)/\YX H (ts.map V.ref) ds/\ci H (.ref t) d/\(∀d∈ds,d.ok=true/\d.dep<=8)/\d.ok=true/\(j:Int)<2^63-1/\(∃dj,ds[j]?=some dj/\eS dj d=true)/\(∀m dm,m<j->ds[m]?=some dm->eS dm d=false)/\Q (.int (j:Int)) H):=by
 subst hK;intro O s σ H x xs v us Q I rx rs h;obtain⟨p,ts,ds,t,d,j,rfl,rfl,hq,hds,hd,hok,WK,hj,⟨dj,ej,eqj⟩,hno,q⟩:=h;cases rx;obtain⟨u,rfl,ru⟩:=rs.one;cases ru;obtain⟨its,rv,pl,_⟩:=I.list hq;obtain⟨⟨cls,dd,data,sl⟩,ho,hc,n,hdt⟩:=id pl.isList;simp only at hc hdt;subst hc hdt;have Dp:∀i (hi:i<its.length),∃a di,its[i]=Value.ref a/\ts[i]?=some a/\ds[i]?=some di/\ci H (V.ref a) di:=λi hi=>by
  have hl:=rv.length;rw[YOS]at hl;have hi':i<ts.length:=by lia
  have R:(ts.map V.ref)[i]?=some (V.ref ts[i]):=by rw[YOd,YOW hi'];rfl
  obtain⟨u,eu,ru⟩:=rv.get R;obtain⟨di,ed,yE⟩:=hds.get R;cases ru;rw[YOW hi]at eu;exact⟨ts[i],di,YO3 eu,YOW hi',ed,yE⟩
 have yF:j<its.length:=by
  have h1:=(YOX.mp ej).1;have h2:=hds.len;have h3:=rv.length;lia
 let e:ai->Bool:=λy=>@decide (∃(i:Nat) (a:al) (di:D),y=Value.ref a/\ts[i]?=some a/\ds[i]?=some di/\eS di d=true) (Classical.propDecidable _)
 have ee:∀(i:Nat) (a:al) (di:D),its[i]?=some (Value.ref a)->ts[i]?=some a->ds[i]?=some di->ci H (V.ref a) di->e (Value.ref a)=eS di d:=λi a di h1 h2 h3 h4=>by
  rw[YPU];refine Iff.trans (@decide_eq_true_iff _ (Classical.propDecidable _)) ⟨?_,λh=>⟨i,a,di,Z,h2,h3,h⟩⟩;rintro⟨i',a',di',g1,g2,g3,g4⟩;cases g1;obtain⟨dk,ed,yE⟩:=hds.get (show(ts.map V.ref)[i']?=some (V.ref a) by rw[YOd,g2];rfl);rw[g3]at ed;cases ed;rw[ci.uniq h4 yE];exact g4
 refine call_meets F.slot_list_index ⟨_,ho,Z⟩ F.entry_list_index (F.args_list_index_2 _ _) (list_indexAt p its.toArray n dd sl (Value.ref t) e j (by simpa using yF) hj ?_ ?_) ⟨ho,λy hy=>?_,⟨.int _,H,I.tok _,⟨_,Z⟩,q⟩⟩;obtain⟨a,di,g1,g2,g3,g4⟩:=Dp j yF;show e its[j]=true;rw[ej]at g3;cases g3;rw[g1,ee j a dj (by rw[YOW yF,g1]) g2 ej g4];exact eqj;intro m hm Dm;have pN:m<its.length:=by simpa using hm
 obtain⟨a,di,g1,g2,g3,g4⟩:=Dp m pN;show e its[m]=false;rw[g1,ee m a di (by rw[YOW pN,g1]) g2 g3 g4];exact hno m di Dm g3;have hy:y∈its:=by simpa using hy
 obtain⟨i,hi,rfl⟩:=List.getElem_of_mem hy;obtain⟨a,di,g1,g2,g3,g4⟩:=Dp i hi;rw[g1,ee i a di (by rw[YOW hi,g1]) g2 g3 g4];obtain⟨o1,o2⟩:=hok di<|YOc g3;exact(ll I 8 X.A.in1 di d (V.ref a) (V.ref t) _ _ o1 WK o2 (by show X.A.units+1+8<cLine;lia) g4 hd Z rfl).eq
end
end L2
namespace L2
open PySem PySem.Spec PyProof.Rows PySem.SeqAt
section
variable {X:Cx}
end
def Dn(K:W.Frag)(x:av)(f:al):Prop:=PySem.W.nsIn K mainGlobals x=some (some<|.ref f)
def Zn(K:W.Frag)(x:av):Prop:=PySem.W.nsIn K mainGlobals x=some none
def On(K:W.Frag)(c:al)(x:av):Prop:=PySem.W.findIn K (.ref c) x=some none
inductive An(K:W.Frag)(c:Addr)(x:Str)(f:Addr):Prop
 |mk:PySem.W.findIn K (.ref c) x=some (some (.ref f))->PySem.W.isFn K (.ref f)=true->An K c x f
inductive Ln(K:W.Frag)(x q:Str)(st:Stmt)(f:Addr):Prop
 |mk {oc:Value}{od an:Option Addr}{osl:Array (Option Value)}{kV doc pm cW ct:Value}:K.lookup f=some ⟨oc,od,.func (PySem.W.fnOf x q (JT st) (Zl st) (YG st) .none kV doc pm an cW ct),osl⟩->PySem.W.codeIn K cW q=true->PySem.W.keepIn K (.ref f)=true->Ln K x q st f
theorem Ln.ex{K:W.Frag}{x q:av}{st:Stmt}{f:al}:Ln K x q st f->∃fd,kL K x q st f fd
 |.mk l c k=>⟨_,YM1 l c k⟩
def Pn:Nat->(J ai->Prop)->Prop
 |0,P=>P []
 |n+1,P=>∀a,Pn n λus=>P<|a::us
theorem bn:∀(n:Nat) {P:J ai->Prop},Pn n P->∀us:J ai,us.length=n->P us
 |0,_,h,[],_=>h
 |0,_,_,_::_,e=>by cases e
 |_+1,_,_,[],e=>by cases e
 |n+1,_,h,a::us,e=>bn n (h a) us<|Nat.succ.inj e
section
variable (P:Program)(w:World){K:W.Frag}{mg:av->ah ai}{CX:gE}{k:Nat}{x q:av}{st:Stmt}{C f:al}{fd:FuncData}{ps:J av}{sp:Sp}
theorem us(m:mg x=some (.ref f))(F:kL K x q st f fd)(o:∀base,gs P w K mg base CX k f fd ps sp)(b:∀(kV doc pm:ai) (an:ah al) (cW ct:ai) (us:J ai),us.length=ps.length->bindArgs (PySem.W.fnOf x q (JT st) (Zl st) (YG st) .none kV doc pm an cW ct) ⟨us,[]⟩=pure (ps.zip us)):ZK P w K mg CX k x ps sp:=⟨⟨f,fd,o,m,F.kp,F.binds b⟩⟩
theorem usM(a:An K C x f)(F:kL K x q st f fd)(o:∀base,gs P w K mg base CX k f fd ps sp)(b:∀(kV doc pm:ai) (an:ah al) (cW ct:ai) (us:J ai),us.length=ps.length->bindArgs (PySem.W.fnOf x q (JT st) (Zl st) (YG st) .none kV doc pm an cW ct) ⟨us,[]⟩=pure (ps.zip us)):Y4 P w K mg CX k C x ps sp:=by
 cases a with
 |mk a j=>exact⟨⟨f,fd,o,⟨a,j,F.kp⟩,F.binds b⟩⟩
theorem usI(h1:PySem.W.makesIn K C=true)(h2:PySem.W.keepIn K (.ref C)=true)(a:An K C "__init__" f)(F:kL K x q st f fd)(o:∀base,gs P w K mg base CX k f fd ps sp)(b:∀(kV doc pm:ai) (an:ah al) (cW ct:ai) (us:J ai),us.length=ps.length->bindArgs (PySem.W.fnOf x q (JT st) (Zl st) (YG st) .none kV doc pm an cW ct) ⟨us,[]⟩=pure (ps.zip us)):zd P w K mg CX k C ps sp:=by
 cases a with
 |mk a j=>exact⟨⟨f,fd,o,⟨h1,a,j,h2⟩,F.binds b⟩⟩
end
structure HE(P:Program)(w:World)(K:W.Frag)(h:Heap)(mg:Str->Option Value):Prop where
 X:K.In h
 G:h.Ns mainGlobals mg
inductive DL(K:W.Frag)(x:Str)(st:Stmt)(f:Addr):Prop
 |mk:PySem.W.nsIn K mainGlobals x=some (some (.ref f))->Ln K x x st f->DL K x st f
inductive AL(K:W.Frag)(c:Addr)(x q:Str)(st:Stmt)(f:Addr):Prop
 |mk:An K c x f->Ln K x q st f->AL K c x q st f
inductive CL(K:W.Frag)(c:Addr):Prop
 |mk:PySem.W.plainGet K c Str.empty=true->PySem.W.hasDictIn K c=true->PySem.W.plainOver K c=true->PySem.W.findIn K (.ref c) "__setattr__"=some (some (.builtin "object.__setattr__"))->CL K c
theorem CL.of{K:W.Frag}{c:al}:CL K c->g9 K c
 |.mk a b c d=>⟨a,b,c,d⟩
section
variable {P:Program}{w:World}{K:W.Frag}{h:Heap}{mg:av->ah ai}{CX:gE}{k:Nat}{x q:av}{st:Stmt}{C f:al}{ps:J av}{sp:Sp}
theorem fA(E:HE P w K h mg)(d:DL K x st f)(o:Gd P w K mg CX k x x st ps sp)(b:∀(kV doc pm:ai) (an:ah al) (cW ct:ai) (us:J ai),us.length=ps.length->bindArgs (PySem.W.fnOf x x (JT st) (Zl st) (YG st) .none kV doc pm an cW ct) ⟨us,[]⟩=pure (ps.zip us):=by intro _ _ _ _ _ _;first|exact bn 1 λ_=>rfl|exact bn 2 λ_ _=>rfl|exact bn 3 λ_ _ _=>rfl|exact bn 4 λ_ _ _ _=>rfl|exact bn 5 λ_ _ _ _ _=>rfl|exact bn 0 rfl|exact bn 6 λ_ _ _ _ _ _=>rfl|exact bn 7 λ_ _ _ _ _ _ _=>rfl):ZK P w K mg CX k x ps sp:=by
 cases d with
 |mk a l=>
  obtain⟨fd,F⟩:=l.ex;exact us P w (PySem.W.mg_of E.X E.G a) F (λ_=>o F) b
theorem fU(E:HE P w K h mg)(d:AL K C x q st f)(o:Gd P w K mg CX k x q st ps sp)(b:∀(kV doc pm:ai) (an:ah al) (cW ct:ai) (us:J ai),us.length=ps.length->bindArgs (PySem.W.fnOf x q (JT st) (Zl st) (YG st) .none kV doc pm an cW ct) ⟨us,[]⟩=pure (ps.zip us):=by intro _ _ _ _ _ _;first|exact bn 1 λ_=>rfl|exact bn 2 λ_ _=>rfl|exact bn 3 λ_ _ _=>rfl|exact bn 4 λ_ _ _ _=>rfl|exact bn 5 λ_ _ _ _ _=>rfl|exact bn 0 rfl|exact bn 6 λ_ _ _ _ _ _=>rfl|exact bn 7 λ_ _ _ _ _ _ _=>rfl):Y4 P w K mg CX k C x ps sp:=by
 cases d with
 |mk a l=>
  obtain⟨fd,F⟩:=l.ex;exact usM P w a F (λ_=>o F) b
theorem usC(E:HE P w K h mg)(h1:PySem.W.makesIn K C=true)(h2:PySem.W.keepIn K (.ref C)=true)(d:AL K C "__init__" q st f)(o:Gd P w K mg CX k "__init__" q st ps sp)(b:∀(kV doc pm:ai) (an:ah al) (cW ct:ai) (us:J ai),us.length=ps.length->bindArgs (PySem.W.fnOf "__init__" q (JT st) (Zl st) (YG st) .none kV doc pm an cW ct) ⟨us,[]⟩=pure (ps.zip us):=by intro _ _ _ _ _ _;first|exact bn 1 λ_=>rfl|exact bn 2 λ_ _=>rfl|exact bn 3 λ_ _ _=>rfl|exact bn 4 λ_ _ _ _=>rfl|exact bn 5 λ_ _ _ _ _=>rfl|exact bn 0 rfl|exact bn 6 λ_ _ _ _ _ _=>rfl|exact bn 7 λ_ _ _ _ _ _ _=>rfl):zd P w K mg CX k C ps sp:=by
 cases d with
 |mk a l=>
  obtain⟨fd,F⟩:=l.ex;exact usI P w h1 h2 a F (λ_=>o F) b
end
section
variable {prog:Program}{w:World}{A:Around}{Dt:Result->ar->Prop}{I Dr:al}{fp wr:J al}{n:Nat}{P:Nat->ai->Prop}{St:Nat->Heap->Prop}{bt:Nat->Nat->Bool}{kw:J (av×ai)}
end
section
variable {prog:Program}{w:World}{A:Around}{E:ai->ar->Prop}{s:ar}{l:al}{items:Array ai}{bt:Nat->Nat->Bool}{d:ai}
end
section
variable {X:Cx}{x:av}{e:Expr}{kws:J Keyword}{p pos:Pos}{t tk:TA}
end
end L2
namespace L2
open PySem PySem.Spec PyProof.Rows PySem.SeqAt
section
variable {prog:Program}{w:World}{A:Around}{Dt:Result->ar->Prop}{I Dr:al}{fp wr:J al}{n:Nat}{P:Nat->ai->Prop}{St:Nat->Heap->Prop}{bt:Nat->Nat->Bool}{kw:J (av×ai)}{kp:al->Obj->Prop}
end
section
variable {prog:Program}{w:World}{A:Around}{E:ai->ar->Prop}{s:ar}{l:al}{items:Array ai}{bt:Nat->Nat->Bool}{d:ai}{kp:al->Obj->Prop}
end
end L2
namespace L2
open PySem PySem.Spec PyProof.Rows PySem.SeqAt
section
variable {X:Cx}{x:av}{e:Expr}{kws:J Keyword}{p pos:Pos}{t tk:TA}
end
section
variable {X:Cx}(K:W.Frag)(hK:X.K=K)
include hK
end
section
variable {X:Cx}{iY:J Expr}{k:Nat}{iV:Pos}
end
def zh(to:TE):TI:=λσ H Dt=>to σ H λx H1=>∃d o kvs,x=.ref d/\H1 d=some (.frz o<|.dK kvs)/\Dt (Cr d o kvs) H1
theorem YIp{X:Cx}{tg oe:Expr}{to:TE}(ho:PE X oe to):PI X tg oe<|zh to:=by
 intro O s σ H Dt I h;refine cJ (ho O s σ H _ I h) λv s1 ⟨x,H1,I1,r1,q1⟩=>?_;obtain⟨d,od,kvs,ex,hd,q⟩:=q1;subst ex;cases r1;obtain⟨iK,hsz,lo,vs,rel,hD⟩:=(show Y7 X.prog X.w H1 s1.heap d (.frz od<|.dK kvs) from I1.hok d _ hd);obtain⟨o2,uJ,tK,h1,h2,h3,h4⟩:=hD;rw[iK]at h1;cases h1;have hat:s1.heap.DictAt (Yk X.prog X.w) d vs tK:=⟨od,uJ,iK,h2,h3,h4⟩;refine wpAny_pyIter_dict lo hat ?_;have k1:∀b u,s1.heap.get? b=some u->(s1.heap.push { cls:=.type "dict_keyiterator",data:=.fields #[.ref d,.int 0 0,.int vs.length 0,.int tK 0] }).get? b=some u:=λb u e=>YOi _ e;have I2:=I1.kept (t':=s1.toks) k1;have hlen:kvs.length=vs.length:=rel.length;refine⟨_,[_],_,_,_,Z,I2,YMH (o:=od) h3,⟨_,YOy _ Z,Z,by rw[hlen];rfl⟩,λb hb=>?_,q⟩;have eb:=YOT.mp hb;rw[eb];exact I1.fpOk (YOY _)<|I1.hok.fresh<|YOY _
theorem YGs{d:al}{o:Obj}{kvs:J (c_×V)}{g:TG}{tb:TS}{D:Ja}{σ:St}{H:L}(Pv:Nat->St->L->Prop)(h0:Pv 0 σ H)(hl:∀i σ H,i<=kvs.length->Pv i σ H->H d=some (.frz o<|.dK kvs))
  (hs:∀i kv σ H,kvs[i]?=some kv->Pv i σ H->g (kV kv.1) σ H λσ2 H2=>tb { D with nx:=Pv (i+1),ct:=Pv (i+1),bk:=D.nx } σ2 H2)(hd:∀σ H,Pv kvs.length σ H->D.nx σ H):
  ∃W:Nat->Nat->St->L->Prop,(∃m,W 0 m σ H)/\∀i m σ H,W i m σ H->
   ((Cr d o kvs).stop i H/\D.nx σ H)\/((Cr d o kvs).go i H/\∃N:St->L->Prop,(∀σ' H',N σ' H'->∃m',m'<m/\W (i+1) m' σ' H')/\∀x H',(Cr d o kvs).yld i H x H'->g x σ H' λσ2 H2=>tb { D with nx:=N,ct:=N,bk:=D.nx } σ2 H2):=by
 refine⟨λi m σ H=>m=kvs.length-i/\i<=kvs.length/\Pv i σ H,⟨kvs.length,by simp,YOn _,h0⟩,?_⟩;rintro i m σ H ⟨rfl,hi,p⟩;have q:=hl i σ H hi p;by_cases Dm:i<kvs.length;refine .inr ⟨⟨q,Dm⟩,Pv<|i+1,λσ' H' p'=>⟨kvs.length-(i+1),by omega,Z,Dm,p'⟩,λx H' y=>?_⟩;obtain⟨kv,hkv,rfl,rfl⟩:=y;exact hs i kv σ _ hkv p;have ei:i=kvs.length:=by omega
 subst ei;exact .inl ⟨⟨q,Z⟩,hd σ H p⟩
section
variable {M:Model}{A:Around}{E:ai->ar->Prop}{s:ar}{base:Heap}{env:Env}{outer l:J Env}{Du e:al}{cls a0 c2 fl:ai}{Q:Unit->ar->Prop}
end
section
variable {prog:Program}{w:World}{A:Around}{E:ai->ar->Prop}{s:ar}{e e0:al}
end
section
variable {prog:Program}{w:World}{A:Around}{E:ai->ar->Prop}{s:ar}{env:Env}{e0:al}
variable {nm q:av}{C N:al}{bs bm bmB:J ai}{hdct:Bool}{sn:J av}{sub:J ai}{ab:Bool}{col:ah Bool}{dd:ah al}{k0 k1 k2 k3 k5:ah ai}{Dv newId initId:String}
end
section
variable {X:Cx}{E:XK}{x:av}{C:al}{e:Expr}{t:TA}{np bj pos:Pos}
end
section
variable {X:Cx}{k:Nat}{f:al}{fd:FuncData}{ps:J av}{sp:Sp}{gC:J V}{ds:J ai}{x:av}{p pos:Pos}{e:Expr}{es:J Expr}{t:TA}
end
section
variable {X:Cx}{elt tg iter:Expr}{scope:Scope}{cl:J (av×al)}{N:J av}{ρ:J (ah Nat)}{pos:Pos}{wi:TI}{g:TG}{te:St->L->VK->XK->Prop}
end
def C3(te:St->L->VK->XK->Prop):Ja->(St->XK)->St->L->Prop:=λD E σ H=>te σ H D.rt<|E σ
theorem om{te:St->L->VK->XK->Prop}(he:PEX X e te):PSX X (.Return (some e) pos)<|C3 te:=by
 intro O s σ H D E I h;exact wpAny_Return_some<|wpAny_mono (he O s σ H _ _ I h) (λv s1 ⟨x,H1,I1,r1,q1⟩=>⟨x,σ,H1,I1,r1,q1⟩) λev s1 q=>⟨σ,q⟩
section
variable {X:Cx}{E:XK}{R:Expr}{y z msg:av}{C C2:al}{kn j:Nat}{p1 np np2 bj mp kp rpos hpos pos:Pos}{te:St->L->VK->XK->Prop}
end
section
variable {X:Cx}{a b c d:Expr}{ta tb tc td:TE}{pos:Pos}
end
end L2
namespace FR
open PySem L2
def Y3{α:Type}(l:J α)(f:α->Nat):Nat:=(l.map f).sum
theorem AU{α:Type}(f:α->Nat):Y3 [] f=0:=rfl
theorem Yr{α:Type}(a:α)(l:J α)(f:α->Nat):Y3 (a::l) f=f a+Y3 l f:=rfl
theorem YDC{α:Type}(l m:J α)(f:α->Nat):Y3 (l++m) f=Y3 l f+Y3 m f:=by
 unfold Y3;rw[YOk,List.sum_append]
theorem Zi{α:Type}{l:J α}{f g:α->Nat}(h:∀x∈l,f x=g x):Y3 l f=Y3 l g:=by
 unfold Y3;rw[YPN h]
theorem Js{α:Type}{l:J α}{f:α->Nat}(h:∀x∈l,f x=0):Y3 l f=0:=by
 induction l with
 |nil=>rfl
 |cons a l ih=>rw[Yr,h a<|YOZ ..,ih λx U=>h x<|YOV _ U]
theorem YNn{α:Type}(l:J α)(f g:α->Nat):Y3 l (λx=>f x+g x)=Y3 l f+Y3 l g:=by
 induction l with
 |nil=>rfl
 |cons a l ih=>rw[Yr,Yr,Yr,ih];lia
theorem YDl{α β:Type}(l:J α)(m:J β)(f:α->β->Nat):Y3 l (λx=>Y3 m<|f x)=Y3 m (λy=>Y3 l<|λx=>f x y):=by
 induction l with
 |nil=>exact(Js λ_ _=>rfl).symm
 |cons a l ih=>
  rw[Yr,ih,<-YNn];rfl
theorem YFR{α:Type}(l:J α)(f:α->Nat)(c:Nat):Y3 l f*c=Y3 l (λx=>f x*c):=by
 induction l with
 |nil=>exact YPZ c
 |cons a l ih=>rw[Yr,Yr,Nat.add_mul,ih]
theorem YEH{α:Type}{l:J α}{p:α->Bool}{f:α->Nat}(h:∀x∈l,p x=false->f x=0):Y3 (l.filter p) f=Y3 l f:=by
 induction l with
 |nil=>rfl
 |cons a l ih=>
  have ih:=ih λx U=>h x<|YOV _ U;rw[YPP];cases e:p a with
  |true=>rw[if_pos Z,Yr,Yr,ih]
  |false=>rw[if_neg (by simp),Yr,ih,h a (YOZ ..) e,YPs]
theorem YDD{α:Type}[DecidableEq α]{l:J α}(hn:l.Nodup){a:α}(ha:a∈l){f:α->Nat}(h:∀x∈l,x≠a->f x=0):Y3 l f=f a:=by
 induction l with
 |nil=>cases ha
 |cons b l ih=>
  rw[YOq]at hn;rw[Yr];by_cases e:b=a;subst e;rw[Js λx U=>h x (YOV _ U) λz=>hn.1 (by rw[<-z];exact U),Nat.add_zero];rw[h b (YOZ ..) e,YPs];exact ih hn.2 ((YOj.mp ha).resolve_left<|λz=>e z.symm) λx U=>h x<|YOV _ U
theorem YIq{α:Type}{l:J α}{f:α->Nat}(h:0<Y3 l f):∃x∈l,0<f x:=by
 induction l with
 |nil=>cases h
 |cons a l ih=>
  rw[Yr]at h;by_cases e:0<f a;exact⟨a,YOZ ..,e⟩;obtain⟨x,U,hp⟩:=ih (by lia);exact⟨x,YOV _ U,hp⟩
theorem YHd{α:Type}{l:J α}{f:α->Nat}{a:α}(h:a∈l):f a<=Y3 l f:=by
 induction l with
 |nil=>cases h
 |cons b l ih=>
  rw[Yr];rcases YOj.mp h with rfl|h
  lia;have:=ih h;lia
def Jt(T:Nd->Nat)(w:J Nd):Nat:=(w.map T).foldr (·*·) 1
structure Zj(g:YV)(n:Nat)(Dl:List Nd)(T:Nd->Nat):Prop where
 out:∀x,x∉Dl->T x=0
 eq:∀x∈Dl,T x=Y3 (Yc g n (eP Dl) x) (Jt T)
theorem YEI(h:∀y∈w,T y=Ds y):Jt T w=Jt Ds w:=by
 unfold Jt;rw[YPN h]
theorem YLD:∀(M:J Nd),M.Nodup->(∀Dv x A,M=Dv++x::A->∀y∈(Yc g n (eP Dl) x).flatten,y∈A)->∃T:Nd->Nat,(∀x,x∉M->T x=0)/\∀x∈M,T x=Y3 (Yc g n (eP Dl) x) (Jt T)
 |[],_,_=>⟨λ_=>0,λ_ _=>rfl,λx U=>by cases U⟩
 |a::M,hn,ho=>by
  rw[YOq]at hn;obtain⟨T,h1,h2⟩:=YLD M hn.2 λDv x A e=>ho (a::Dv) x A (by rw[e];rfl);have hb:∀x,(x=a\/x∈M)->∀y∈(Yc g n (eP Dl) x).flatten,y∈M:=λx U y hy=>by
   rcases U with rfl|U
   exact ho [] x M Z y hy;obtain⟨A,Dv,e⟩:=List.append_of_mem U;have:=ho (a::A) x Dv (by rw[e];rfl) y hy;rw[e];exact YOe _<|YOV _ this
  have same:∀x,(x=a\/x∈M)->Y3 (Yc g n (eP Dl) x) (Jt T)=Y3 (Yc g n (eP Dl) x) (Jt λy=>if y=a then Y3 (Yc g n (eP Dl) a) (Jt T) else T y):=λx U=>by
   refine Zi λw hw=>YEI λy hy=>?_;have hy':=hb x U y<|YQB.mpr ⟨w,hw,hy⟩;rw[if_neg λe=>hn.1 (by rw[<-e];exact hy')]
  refine⟨λy=>if y=a then Y3 (Yc g n (eP Dl) a) (Jt T) else T y,λx U=>?_,λx U=>?_⟩;show(if x=a then _ else T x)=0;rw[if_neg<|λe=>U (by rw[e];simp)];exact h1 x λh=>U<|YOV _ h;by_cases e:x=a;subst e;show(if x=x then _ else T x)=_;rw[if_pos Z];exact same x<|.inl rfl;have hx':x∈M:=(YOj.mp U).resolve_left e;show(if x=a then _ else T x)=_;rw[if_neg e,h2 x hx'];exact same x<|.inr hx'
theorem ze(hn:Du.Nodup)(hs:∀x,x∈Du<->x∈Dl)(ho:∀A x Dv,Du=A++x::Dv->∀y∈(Yc g n (eP Dl) x).flatten,y∈A):∃T,Zj g n Dl T:=by
 obtain⟨T,h1,h2⟩:=YLD (g:=g) (n:=n) (Dl:=Dl) Du.reverse (List.pairwise_reverse.mpr<|hn.imp λh=>Ne.symm h) λDv x A e y hy=>by
  have e2:Du=A.reverse++x::Dv.reverse:=by
   have:=fZ List.reverse e;rw[YP3,YP9,YPE,YOw]at this;exact this
  exact YPS.mp<|ho _ _ _ e2 y hy
 exact⟨T,λx U=>h1 x λh=>U<|(hs x).mp<|YPS.mp h,λx U=>h2 x<|YPS.mpr<|(hs x).mpr U⟩
structure ij(g:YV)(cs:List Nat)(F:Nd->Bool):Prop where
 leg:∀x,F x=true->j1 g cs x
 zero:∀r i,r<g.length->i<=cs.length->F (.beg r 0 i i)=true
 zeq:∀r i j,F (.beg r 0 i j)=true->i=j
 sign:∀(i c:Nat),cs[i]?=some c->F (.part (gp c) i<|i+1)=true
 join:∀r d i k p j,ZM g r d=some p->F (.beg r d i k)=true->F (.part p k j)=true->F (.beg r (d+1) i j)=true
 up:∀r ru i j,g[r]?=some ru->F (.beg r ru.2.1.length i j)=true->F (.part ru.1 i j)=true
def Nc(T:Nd->Nat)(n:Nat):J av->Nat->Nat
 |[],i=>if i=n then 1 else 0
 |p::ps,i=>Y3 (List.range<|n+1) λe=>T (.part p i e)*Nc T n ps e
def ol(F:Nd->Bool)(n:Nat):J av->Nat->Prop
 |[],i=>i=n
 |p::ps,i=>∃e,e<=n/\F (.part p i e)=true/\ol F n ps e
def hZ(F:Nd->Bool)(Dl:J Nd)(n:Nat):J av->Nat->Prop
 |[],_=>True
 |p::ps,i=>∀e,e<=n->F (.part p i e)=true->ol F n ps e->.part p i e∈Dl/\hZ F Dl n ps e
section
variable {g:YV}{cs:J Nat}{F:Nd->Bool}{Dl:J Nd}{top:ah Nd}{T:Nd->Nat}
theorem YNo:∀{ps:J av}{i:Nat},¬ol F n ps i->hZ F Dl n ps i
 |[],_,_=>trivial
 |p::ps,i,h=>λe he hf hc=>absurd ⟨e,he,hf,hc⟩ h
theorem m4(hT:Zj g cs.length Dl T)(h:T x≠0):x∈Dl:=Decidable.byContradiction λz=>h<|hT.out x z
theorem zS(hW:ZE g cs.length F top Dl)(hT:Zj g cs.length Dl T):∀{ps:J av}{i:Nat},Nc T cs.length ps i≠0->ol F cs.length ps i
 |[],i,h=>Decidable.byContradiction (p:=i=cs.length) λz=>h<|if_neg z
 |p::ps,i,h=>by
  obtain⟨e,he,hp⟩:=YIq<|Nat.pos_of_ne_zero h;have h1:T (.part p i e)≠0:=λz=>by rw[z,YPZ]at hp;cases hp
  have h2:Nc T cs.length ps e≠0:=λz=>by rw[z,YPk]at hp;cases hp
  exact⟨e,by have:=YO9.mp he;lia,hW.sub _<|m4 hT h1,zS hW hT h2⟩
def fR(T:Nd->Nat)(n r d i:Nat)(ps:J av):Nat:=Y3 (List.range<|n+1) λe=>T (.beg r d i e)*Nc T n ps e
def xG(F:Nd->Bool)(Dl:J Nd)(n r d i:Nat)(ps:J av):Prop:=∀e,e<=n->F (.beg r d i e)=true->ol F n ps e->.beg r d i e∈Dl
theorem YHf(hk:k<=n)(h1:F (.beg r d i k)=true)(h2:F (.part (Z6 g r d) k j)=true):[Nd.beg r d i k,.part (Z6 g r d) k j]∈Yc g n F (.beg r (d+1) i j):=by
 rw[Yc];refine YOt.mpr ⟨k,YO4.mpr ⟨?_,h2⟩,Z⟩;unfold XC;exact YO4.mpr ⟨YO9.mpr (by lia),h1⟩
theorem YKE(hS:ij g cs F)(hW:ZE g cs.length F top Dl)(hp:ZM g r d=some p)(h:xG F Dl cs.length r (d+1) i ps):xG F Dl cs.length r d i (p::ps)/\∀k,k<=cs.length->F (.beg r d i k)=true->(∀e,F (.beg r (d+1) i e)=true->hZ F Dl cs.length ps e)->hZ F Dl cs.length (p::ps) k:=by
 have ep:Z6 g r d=p:=by unfold Z6;rw[hp];rfl
 have both:∀k e,k<=cs.length->e<=cs.length->F (.beg r d i k)=true->F (.part p k e)=true->ol F cs.length ps e->.beg r d i k∈Dl/\.part p k e∈Dl:=λk e hk he h1 h2 hc=>by
  have hb:=h e he (hS.join r d i k p e hp h1 h2) hc;have hw:=YHf (g:=g) (F:=F) hk h1 (by rw[ep];exact h2);rw[ep]at hw;exact⟨hW.cl _ hb _ hw _ (by simp),hW.cl _ hb _ hw _ (by simp)⟩
 refine⟨λk hk h1 ⟨e,he,h2,hc⟩=>(both k e hk he h1 h2 hc).1,λk hk h1 hg e he h2 hc=>⟨(both k e hk he h1 h2 hc).2,hg e<|hS.join r d i k p e hp h1 h2⟩⟩
theorem YNp(hS:ij g cs F)(hW:ZE g cs.length F top Dl)(hT:Zj g cs.length Dl T)(hp:ZM g r d=some p)(h:xG F Dl cs.length r (d+1) i ps):fR T cs.length r (d+1) i ps=fR T cs.length r d i (p::ps):=by
 have ep:Z6 g r d=p:=by unfold Z6;rw[hp];rfl
 have key:∀e∈List.range (cs.length+1),T (.beg r (d+1) i e)*Nc T cs.length ps e=Y3 (List.range<|cs.length+1) λk=>T (.beg r d i k)*(T (.part p k e)*Nc T cs.length ps e):=λe he=>by
  have he':e<=cs.length:=by have:=YO9.mp he;lia
  by_cases h0:Nc T cs.length ps e=0;rw[h0,YPk];exact(Js λk _=>by rw[YPk,YPk]).symm;have hc:=zS hW hT h0;have R:T (.beg r (d+1) i e)=Y3 (List.range<|cs.length+1) λk=>T (.beg r d i k)*T (.part p k e):=by
   by_cases Do:Nd.beg r (d+1) i e∈Dl;rw[hT.eq _ Do];simp only[Yc,XC,YQE];unfold Y3;rw[YPa];show Y3 _ _=_;rw[YEH];refine Zi λk _=>?_;show T (.beg r d i k)*(T (.part (Z6 g r d) k e)*1)=_;rw[Nat.mul_one,ep];intro k _ hk;show T (.beg r d i k)*(T (.part (Z6 g r d) k e)*1)=0;rw[Bool.and_eq_false_iff]at hk;rcases hk with hk|hk
   rw[hT.out _<|of_decide_eq_false hk,YPZ,YPk];rw[hT.out _<|of_decide_eq_false hk,YPZ];rw[hT.out _ Do];refine(Js λk hk=>?_).symm;have hk':k<=cs.length:=by have:=YO9.mp hk;lia
   by_cases z1:T (.beg r d i k)=0;rw[z1,YPZ];by_cases z2:T (.part p k e)=0;rw[z2,YPk];exact absurd (h e he' (hS.join r d i k p e hp (hW.sub _<|m4 hT z1)<|hW.sub _<|m4 hT z2) hc) Do
  rw[R,YFR];exact Zi λk _=>Nat.mul_assoc _ _ _
 unfold fR;rw[Zi key,YDl];refine Zi λk _=>?_;show _=T (.beg r d i k)*Y3 (List.range<|cs.length+1) λe=>T (.part p k e)*Nc T cs.length ps e;rw[Nat.mul_comm,YFR];exact Zi λe _=>Nat.mul_comm _ _
theorem YNq(hS:ij g cs F)(hW:ZE g cs.length F top Dl)(hT:Zj g cs.length Dl T)(hr:r<g.length)(hi:i<=cs.length)(h:xG F Dl cs.length r 0 i ps):fR T cs.length r 0 i ps=Nc T cs.length ps i:=by
 unfold fR;rw[YDD List.nodup_range<|YO9.mpr (show i<cs.length+1 by lia)];by_cases h0:Nc T cs.length ps i=0;rw[h0,YPk];have Do:=h i hi (hS.zero r i hr hi)<|zS hW hT h0;rw[hT.eq _ Do];show 1*_=_;rw[Nat.one_mul];intro e _ hne;by_cases z:T (.beg r 0 i e)=0;rw[z,YPZ];exact absurd (hS.zeq r i e<|hW.sub _<|m4 hT z).symm hne
end
theorem YIr{Dt es:J Nat}{f:Nat->Nat}(hR:Dt.Nodup)(he:es.Nodup)(hs:∀e∈es,e∈Dt)(h0:∀e∈Dt,e∉es->f e=0):Y3 Dt f=Y3 es f:=by
 have h1:∀e∈es,f e=Y3 Dt λr=>if r=e then f r else 0:=λe h=>by
  rw[YDD hR (hs e h) λx _ U=>if_neg U,if_pos Z]
 rw[Zi h1,YDl];refine Zi λr hr=>?_;by_cases h:r∈es;rw[YDD he h λx _ U=>if_neg<|λz=>U z.symm,if_pos Z];rw[h0 r hr h];exact(Js λe he'=>if_neg λ(z:r=e)=>h (by rw[z];exact he')).symm
section
variable {g:YV}{cs:J Nat}{F:Nd->Bool}{Dl:J Nd}{top:ah Nd}{T:Nd->Nat}
theorem YGt(hS:ij g cs F)(hW:ZE g cs.length F top Dl)(hT:Zj g cs.length Dl T)(hr:g[r]?=some ru)(hb:xG F Dl cs.length r ru.2.1.length i ps)(hg:∀k,k<=cs.length->F (.beg r ru.2.1.length i k)=true->hZ F Dl cs.length ps k):
  ∀m,m<=ru.2.1.length->xG F Dl cs.length r (ru.2.1.length-m) i (ru.2.1.drop (ru.2.1.length-m)++ps)/\fR T cs.length r ru.2.1.length i ps=fR T cs.length r (ru.2.1.length-m) i (ru.2.1.drop (ru.2.1.length-m)++ps)/\
   ∀k,k<=cs.length->F (.beg r (ru.2.1.length-m) i k)=true->hZ F Dl cs.length (ru.2.1.drop (ru.2.1.length-m)++ps) k
 |0,_=>by
  rw[Nat.sub_zero,YQD];exact⟨hb,Z,hg⟩
 |m+1,hm=>by
  obtain⟨h1,h2,h3⟩:=YGt hS hW hT hr hb hg m (by lia);obtain⟨d,hd⟩:∃d,ru.2.1.length-(m+1)=d:=⟨_,Z⟩;have tM:ru.2.1.length-m=d+1:=by lia
  have hdl:d<ru.2.1.length:=by lia
  rw[tM]at h1 h2 h3;rw[hd,YPF hdl,List.cons_append];have hp:ZM g r d=some ru.2.1[d]:=by unfold ZM;rw[hr];exact YOW hdl
  obtain⟨g1,g2⟩:=YKE hS hW hp h1;refine⟨g1,h2.trans<|YNp hS hW hT hp h1,λk hk hf=>g2 k hk hf λe he=>h3 e ?_ he⟩;exact(hS.leg _ he).2.2
theorem YDm(hS:ij g cs F)(hW:ZE g cs.length F top Dl)(hT:Zj g cs.length Dl T)(hr:g[r]?=some ru)(hq:da ru.1=false)(hi:i<=cs.length)(h:hZ F Dl cs.length (ru.1::ps) i):
  fR T cs.length r ru.2.1.length i ps=Nc T cs.length (ru.2.1++ps) i/\hZ F Dl cs.length (ru.2.1++ps) i:=by
 have hrl:=(YOX.mp hr).1;have hup:∀e,F (.beg r ru.2.1.length i e)=true->F (.part ru.1 i e)=true:=λe he=>hS.up r ru i e hr he;have hb:xG F Dl cs.length r ru.2.1.length i ps:=λe he hf hc=>by
  obtain⟨h1,_⟩:=h e he (hup e hf) hc;refine hW.cl _ h1 [.beg r ru.2.1.length i e] ?_ _ (by simp);rw[Yc,if_neg (by rw[hq];decide)];refine YOt.mpr ⟨r,YO4.mpr ⟨ZV.mpr ⟨ru,hr,Z⟩,?_⟩,?_⟩;rw[s_ hr];exact hf;rw[s_ hr]
 obtain⟨h1,h2,h3⟩:=YGt hS hW hT hr hb (λk hk hf=>by
  by_cases hc:ol F cs.length ps k;exact(h k hk (hup k hf) hc).2;exact YNo hc) ru.2.1.length<|YOY _
 rw[YPh,List.drop_zero]at h1 h2 h3;exact⟨h2.trans<|YNq hS hW hT hrl hi h1,h3 i hi<|hS.zero r i hrl hi⟩
theorem YMK(hS:ij g cs F)(hW:ZE g cs.length F top Dl)(hT:Zj g cs.length Dl T)(hq:da p=false)(h:hZ F Dl cs.length (p::ps) i):
  Nc T cs.length (p::ps) i=Y3 (Yi g p) λr=>fR T cs.length r (ZF g r) i ps:=by
 have key:∀e∈List.range (cs.length+1),T (.part p i e)*Nc T cs.length ps e=Y3 (Yi g p) λr=>T (.beg r (ZF g r) i e)*Nc T cs.length ps e:=λe he=>by
  have he':e<=cs.length:=by have:=YO9.mp he;lia
  rw[<-YFR];by_cases h0:Nc T cs.length ps e=0;rw[h0,YPk,YPk];congr 1;by_cases Do:Nd.part p i e∈Dl;rw[hT.eq _ Do,Yc,if_neg (by rw[hq];decide)];unfold Y3;rw[YPa];show Y3 _ _=_;rw[YEH];refine Zi λr _=>?_;show T (.beg r (ZF g r) i e)*1=_;rw[Nat.mul_one];intro r _ hr;show T (.beg r (ZF g r) i e)*1=0;rw[hT.out _<|of_decide_eq_false hr,YPZ];rw[hT.out _ Do];refine(Js λr hr=>Decidable.byContradiction λz=>Do ?_).symm;obtain⟨ru,R,e2⟩:=ZV.mp hr;rw[s_ R]at z;have hf:=hS.up r ru i e R<|hW.sub _<|m4 hT z;rw[e2]at hf;exact(h e he' hf<|zS hW hT h0).1
 show Y3 _ _=_;rw[Zi key,YDl];rfl
theorem YLE(c:Nat):da (gp c)=true:=YDj c
theorem YDE(hh:∀ru∈g,da ru.1=false)(hq:da p=true)(h:j1 g cs<|.part p i j):∃c,cs[i]?=some c/\p=gp c/\j=i+1:=by
 rcases h.1 with h1|h1
 obtain⟨ru,hr,rfl⟩:=YOt.mp h1;rw[hh ru hr]at hq;cases hq;exact h1
theorem YDn(hh:∀ru∈g,da ru.1=false)(hS:ij g cs F)(hW:ZE g cs.length F top Dl)(hT:Zj g cs.length Dl T)(hq:da p=true)(h0:Nc T cs.length (p::ps) i≠0):
  Nc T cs.length (p::ps) i=Nc T cs.length ps (i+1)/\i+1<=cs.length/\(∃c,cs[i]?=some c/\p=gp c)/\(hZ F Dl cs.length (p::ps) i->hZ F Dl cs.length ps (i+1)):=by
 obtain⟨e,he,hp⟩:=YIq<|Nat.pos_of_ne_zero h0;have ht:T (.part p i e)≠0:=λz=>by rw[z,YPZ]at hp;cases hp
 obtain⟨c,hc,ec,rfl⟩:=YDE hh hq<|hS.leg _<|hW.sub _<|m4 hT ht;have hi:i+1<=cs.length:=(YOX.mp hc).1;have h1:Nc T cs.length (p::ps) i=T (.part p i<|i+1)*Nc T cs.length ps (i+1):=by
  show Y3 _ _=_;rw[YDD List.nodup_range he];intro k _ hk;by_cases z:T (.part p i k)=0;rw[z,YPZ];obtain⟨_,_,_,ek⟩:=YDE hh hq<|hS.leg _<|hW.sub _<|m4 hT z;exact absurd ek hk
 have h2:T (.part p i<|i+1)=1:=by
  rw[hT.eq _<|m4 hT ht,Yc,if_pos hq];rfl
 rw[h2,Nat.one_mul]at h1;have hN:Nc T cs.length ps (i+1)≠0:=by rw[<-h1];exact h0
 exact⟨h1,hi,⟨c,hc,ec⟩,λhG=>(hG (i+1) hi (hW.sub _<|m4 hT ht)<|zS hW hT hN).2⟩
def JF:J av->Nat->J av×Nat
 |[],i=>([],i)
 |p::ps,i=>if da p=true then JF ps (i+1) else (p::ps,i)
theorem YGu(hh:∀ru∈g,da ru.1=false)(hS:ij g cs F)(hW:ZE g cs.length F top Dl)(hT:Zj g cs.length Dl T):∀{ps:J av}{i:Nat},i<=cs.length->Nc T cs.length ps i≠0->hZ F Dl cs.length ps i->
  Nc T cs.length (JF ps i).1 (JF ps i).2=Nc T cs.length ps i/\(JF ps i).2<=cs.length/\hZ F Dl cs.length (JF ps i).1 (JF ps i).2/\(∀p qs,(JF ps i).1=p::qs->da p=false)
 |[],i,hi,h0,hG=>⟨Z,hi,hG,λp qs e=>by cases e⟩
 |p::ps,i,hi,h0,hG=>by
  unfold JF;cases hq:da p with
  |false=>
   rw[if_neg (by decide)];exact⟨Z,hi,hG,λp' qs e=>by cases e;exact hq⟩
  |true=>
   rw[if_pos Z];obtain⟨h1,h2,_,h3⟩:=YDn hh hS hW hT hq h0;obtain⟨k1,k2,k3,k4⟩:=YGu hh hS hW hT h2 (by rw[<-h1];exact h0)<|h3 hG;exact⟨k1.trans h1.symm,k2,k3,k4⟩
end
def gz(t:av×Nat):J c_:=[.inr t.1,.inl (t.2:Int)]
theorem q_(h:gz t=gz u):t=u:=by
 unfold gz at h;simp only[List.cons.injEq,Sum.inr.injEq,Sum.inl.injEq,Int.ofNat_inj,and_true]at h;exact Prod.ext h.1 h.2
structure kE(H0 H:L)(d:Addr)(own:Addr->Option (Str×Nat))(E:Str×Nat->List V)(N:Nat):Prop where
 sm:YF H0 H
 h:∃kvs,H d=some (.dT kvs)/\kvs.length<=N/\∀t,(Ye kvs (gz t)=none/\E t=[])\/∃a,Ye kvs (gz t)=some (.ref a)/\own a=some t/\H a=some (.lst<|E t)
 on:∀a t,own a=some t->H0 a=none/\∃xs,H a=some (.lst xs)
 nd:H0 d=none
 le:∀t,(E t).length<=N
section
variable {H0 H H':L}{d:al}{own:al->ah (av×Nat)}{E:av×Nat->J V}{N:Nat}
theorem kE.same(g:kE H0 H d own E N)(s:YF H H'):kE H0 H' d own E N:=by
 obtain⟨kvs,R,e2,e3⟩:=g.h;exact⟨g.sm.trans s,⟨kvs,s _ _ R,e2,λt=>(e3 t).imp id λ⟨a,z1,z2,z3⟩=>⟨a,z1,z2,s _ _ z3⟩⟩,λa t e=>let ⟨z1,xs,z2⟩:=g.on a t e;⟨z1,xs,s _ _ z2⟩,g.nd,g.le⟩
theorem kE.more(g:kE H0 H d own E N)(ha:own a=some t)(hv:∀kvs,H d=some (.dT kvs)->Ye kvs (gz t)=some (.ref a))(v:V):kE H0 (upd H a<|.lst<|E t++[v]) d own (λt'=>if t'=t then E t++[v] else E t')<|N+1:=by
 obtain⟨kvs,R,e2,e3⟩:=g.h;obtain⟨na,yz,yC⟩:=g.on a t ha;have hda:d≠a:=Yg R yC nofun;refine⟨g.sm.put na,⟨kvs,by rw[YB hda];exact R,by lia,λt'=>?_⟩,λc t' e=>?_,g.nd,λt'=>?_⟩;by_cases ht:t'=t;subst ht;rw[if_pos Z];exact .inr ⟨a,hv kvs R,ha,YA⟩;rw[if_neg ht];refine(e3 t').imp id λ⟨c,z1,z2,z3⟩=>⟨c,z1,z2,?_⟩;rw[YB (λz=>by rw[z,ha]at z2;cases z2;exact ht Z)];exact z3;obtain⟨z1,xs,z2⟩:=g.on c t' e;by_cases hc:c=a;subst hc;exact⟨z1,_,YA⟩;exact⟨z1,xs,by rw[YB hc];exact z2⟩;by_cases ht:t'=t;rw[if_pos ht,YOU];exact YPy<|g.le t;rw[if_neg ht];have:=g.le t';lia
theorem kE.fresh(g:kE H0 H d own E N)(he:H e=some (.lst []))(h0:H0 e=none)(ho:own e=none)(hd:H d=some (.dT kvs))(hv:Ye kvs (gz t)=none):kE H0 (upd H d<|.dT<|Yu kvs (gz t)<|.ref e) d (λc=>if c=e then some t else own c) E<|N+1:=by
 obtain⟨jH,R,e2,e3⟩:=g.h;have ek:kvs=jH:=by rw[hd]at R;cases R;rfl
 subst ek;have hE:E t=[]:=by
  rcases e3 t with z|⟨a,z1,z2,z3⟩
  exact z.2;rw[hv]at z1;cases z1
 have kl:∀c ys,H c=some (.lst ys)->upd H d (.dT<|Yu kvs (gz t)<|.ref e) c=some (.lst ys):=λc ys z=>by rw[YB<|Yg z hd nofun];exact z
 refine⟨g.sm.put g.nd,⟨_,YA,by have:=Zr kvs (gz t)<|.ref e;lia,λt'=>?_⟩,λc t' z=>?_,g.nd,λt'=>by have:=g.le t';lia⟩;rw[Z1];by_cases ht:t'=t;subst ht;rw[if_pos Z,hE];exact .inr ⟨e,Z,if_pos Z,kl _ _ he⟩;rw[if_neg<|λz=>ht<|q_ z];exact(e3 t').imp id λ⟨c,z1,z2,z3⟩=>⟨c,z1,by rw[if_neg (λy=>by rw[y,ho]at z2;cases z2)];exact z2,kl _ _ z3⟩;by_cases hc:c=e;subst hc;exact⟨h0,_,kl _ _ he⟩;rw[if_neg hc]at z;obtain⟨z1,xs,z2⟩:=g.on c t' z;exact⟨z1,xs,kl _ _ z2⟩
end
def iS(t:av×Nat):Nd->ah Nat
 |.part p i j=>if p=t.1/\j=t.2 then some i else none
 |.beg ..=>none
def Jb(Du:J Nd)(t:av×Nat):J Nat:=Du.filterMap<|iS t
theorem YFT:b∈Jb Du (p,e)<->Nd.part p b e∈Du:=by
 unfold Jb;rw[YPz];constructor;rintro⟨x,U,h⟩;cases x with
 |part q i j=>
  have h:(if q=p/\j=e then some i else none)=some b:=h;by_cases hc:q=p/\j=e;rw[if_pos hc]at h;cases h;rw[<-hc.1,<-hc.2];exact U;rw[if_neg hc]at h;cases h
 |beg r d i j=>cases h
 intro h;exact⟨_,h,show(if p=p/\e=e then some b else none)=some b from if_pos ⟨Z,Z⟩⟩
theorem YKF(h:Du.Nodup)(t:av×Nat):(Jb Du t).Nodup:=by
 unfold Jb
 induction Du with
 |nil=>exact YPJ
 |cons x Du ih=>
  rw[YOq]at h;rw[YPj];cases e:iS t x with
  |none=>exact ih h.2
  |some b=>
   refine YOq.mpr ⟨λhm=>h.1 ?_,ih h.2⟩;have pN:Nd.part t.1 b t.2∈Du:=YFT.mp hm;have ex:x=.part t.1 b t.2:=by
    cases x with
    |part q i j=>
     have e:(if q=t.1/\j=t.2 then some i else none)=some b:=e;by_cases hc:q=t.1/\j=t.2;rw[if_pos hc]at e;cases e;rw[hc.1,hc.2];rw[if_neg hc]at e;cases e
    |beg r d i j=>cases e
   rw[ex];exact pN
theorem YGv{Du:J Nd}{i:Nat}{x:Nd}(h:Du[i]?=some x)(t:av×Nat):Jb (Du.take<|i+1) t=Jb (Du.take i) t++(iS t x).toList:=by
 unfold Jb;rw[YPA,h,YQJ];show _++List.filterMap (iS t) [x]=_;rw[YPj];cases iS t x <;> rfl
theorem YML{Du:J Nd}{i a c:Nat}{p:av}(h:Du[i]?=some (.part p a c))(t:av×Nat):Jb (Du.take<|i+1) t=if t=(p,c) then Jb (Du.take i) t++[a] else Jb (Du.take i) t:=by
 rw[YGv h];by_cases e:t=(p,c);subst e;rw[if_pos Z,show iS (p,c) (.part p a c)=some a from if_pos ⟨Z,Z⟩];rfl;rw[if_neg e,show iS t (.part p a c)=none from if_neg λz=>e<|Prod.ext z.1.symm z.2.symm];exact YO6 _
theorem YNr{Du:J Nd}{i r d a c:Nat}(h:Du[i]?=some (.beg r d a c))(t:av×Nat):Jb (Du.take<|i+1) t=Jb (Du.take i) t:=by
 rw[YGv h];exact YO6 _
def XD(H:L)(vs:J V)(bs:J Nat)(f:Nat->Int):Prop:=vs.length=bs.length/\∀(i:Nat) (v:V) (b:Nat),vs[i]?=some v->bs[i]?=some b->∃t,v=.ref t/\H t=some (.tup [nV b,.int<|f b])
theorem XD.same(h:XD H vs bs f)(s:YF H H'):XD H' vs bs f:=⟨h.1,λi v b R e2=>let ⟨t,z1,z2⟩:=h.2 i v b R e2;⟨t,z1,s _ _ z2⟩⟩
theorem XD.keep(h:XD H vs bs f)(s:∀t ys,H t=some (.tup ys)->H' t=some (.tup ys)):XD H' vs bs f:=⟨h.1,λi v b R e2=>let ⟨t,z1,z2⟩:=h.2 i v b R e2;⟨t,z1,s _ _ z2⟩⟩
theorem XD.snoc(h:XD H vs bs f)(ht:H t=some (.tup [nV b,.int<|f b])):XD H (vs++[.ref t]) (bs++[b]) f:=by
 refine⟨by rw[YOU,YOU,h.1];rfl,λi v b' R e2=>?_⟩;by_cases hi:i<vs.length;rw[YOr hi]at R;rw[YOr (by rw[<-h.1];exact hi)]at e2;exact h.2 i v b' R e2;rw[YOm (by lia)]at R;rw[YOm (by rw[<-h.1];lia),<-h.1]at e2;have h0:i-vs.length=0:=by
  cases hh:i-vs.length with
  |zero=>rfl
  |succ j=>rw[hh]at R;simp at R
 rw[h0]at R e2;cases R;cases e2;exact⟨t,Z,ht⟩
end FR
namespace L2
open PySem PySem.Spec PyProof.Rows
def y4(t:TE):TE:=λσ H Q=>t σ H λv H1=>∃d kvs,H1 d=some (.dK kvs)/\∀o,Q v<|upd H1 d<|.frz o<|.dK kvs
theorem YIs(h:PE X e t):PE X e<|y4 t:=by
 intro O s σ H Q I hw;refine cJ (h O s σ H _ I hw) ?_;rintro v s1 ⟨x,H1,I1,r1,d,kvs,e0,q⟩;obtain⟨o,ho⟩:=(I1.hok d _ e0).at_;exact⟨x,_,I1.freeze e0 ho,r1,q o⟩
end L2
namespace FR
open PySem L2
def jv(N:Nat->Nat)(l:J Nat)(a r a':Nat):Prop:=∃A Dv,l=A++r::Dv/\a=Y3 A N+a'/\a'<N r
theorem jv.skip(h:jv N l a r a'):jv N (x::l) (N x+a) r a':=by
 obtain⟨A,Dv,R,e2,e3⟩:=h;exact⟨x::A,Dv,by rw[R];rfl,by rw[Yr,e2];lia,e3⟩
theorem jv.mem(h:jv N l a r a'):r∈l:=by
 obtain⟨A,Dv,R,_⟩:=h;rw[R];simp
theorem YNs(hs:cl.Sublist l)(hn:l.Nodup)(h0:∀r∈l,r∉cl->N r=0)(h:jv N cl a r a'):jv N l a r a':=by
 induction hs generalizing a with
 |slnil=>
  obtain⟨A,Dv,R,_⟩:=h;cases A <;> cases R
 |@cons cl l x hs ih=>
  rw[YOq]at hn;have U:x∉cl:=λz=>hn.1<|hs.subset z;have:=(ih hn.2 (λr hr hc=>h0 r (YOV _ hr) hc) h).skip (x:=x);rw[h0 x (YOZ ..) U,YPs]at this;exact this
 |@cons_cons cl l x hs ih=>
  rw[YOq]at hn;obtain⟨A,Dv,R,e2,e3⟩:=h;cases A with
  |nil=>
   cases R;exact⟨[],l,Z,e2,e3⟩
  |cons y A=>
   cases R;have:=(ih hn.2 (λr hr hc=>h0 r (YOV _ hr) λz=>(YOj.mp z).elim (λe=>hn.1 (by rw[<-e];exact hr)) hc) ⟨A,Dv,Z,Z,e3⟩).skip (x:=x);rw[e2,Yr,Nat.add_assoc];exact this
theorem rf(hs:cl.Sublist l)(hn:l.Nodup)(h0:∀r∈l,r∉cl->N r=0):Y3 cl N=Y3 l N:=by
 induction hs with
 |slnil=>rfl
 |@cons cl l x hs ih=>
  rw[YOq]at hn;rw[Yr,h0 x (YOZ ..)<|λz=>hn.1<|hs.subset z,YPs];exact ih hn.2 λr hr hc=>h0 r (YOV _ hr) hc
 |@cons_cons cl l x hs ih=>
  rw[YOq]at hn;rw[Yr,Yr,ih hn.2 λr hr hc=>h0 r (YOV _ hr) λz=>(YOj.mp z).elim (λe=>hn.1 (by rw[<-e];exact hr)) hc]
theorem YLF:∀{l:J Nat},l.Pairwise (·<·)->∀{a b r s a' b':Nat},jv N l a r a'->jv N l b s b'->a<b->r<s\/(r=s/\a'<b')
 |[],_,a,b,r,s,a',b',⟨A,Dv,e,_⟩,_,_=>by cases A <;> cases e
 |x::l,hp,a,b,r,s,a',b',⟨A,Dv,R,e2,e3⟩,⟨A2,B2,f1,f2,f3⟩,hl=>by
  rw[List.pairwise_cons]at hp;cases A with
  |nil=>
   cases R;cases A2 with
   |nil=>
    cases f1;have e2:a=Y3 ([]:J Nat) N+a':=e2;have f2:b=Y3 ([]:J Nat) N+b':=f2;exact .inr ⟨Z,by lia⟩
   |cons y A2=>
    cases f1;exact .inl<|hp.1 s (by simp)
  |cons y A=>
   obtain⟨rfl,q1⟩:=List.cons.inj (show x::l=y::(A++r::Dv) from R);rw[Yr]at e2;cases A2 with
   |nil=>
    obtain⟨rfl,q2⟩:=List.cons.inj (show x::l=s::B2 from f1);have f2:b=Y3 ([]:J Nat) N+b':=f2;rw[AU]at f2;lia
   |cons y2 A2=>
    obtain⟨rfl,q2⟩:=List.cons.inj (show x::l=y2::(A2++s::B2) from f1);rw[Yr]at f2;exact YLF hp.2 (a:=a-N x) (b:=b-N x) ⟨A,Dv,q1,by lia,e3⟩ ⟨A2,B2,q2,by lia,f3⟩ (by lia)
theorem YLG:∀{l:J Nat},l.Pairwise (·<·)->∀{a r s a' b':Nat},jv N l a r a'->jv N l a s b'->r=s/\a'=b'
 |[],_,a,r,s,a',b',⟨A,Dv,e,_⟩,_=>by cases A <;> cases e
 |x::l,hp,a,r,s,a',b',⟨A,Dv,R,e2,e3⟩,⟨A2,B2,f1,f2,f3⟩=>by
  rw[List.pairwise_cons]at hp;cases A with
  |nil=>
   cases R;have e2:a=Y3 ([]:J Nat) N+a':=e2;rw[AU]at e2;cases A2 with
   |nil=>
    cases f1;have f2:a=Y3 ([]:J Nat) N+b':=f2;rw[AU]at f2;exact⟨Z,by lia⟩
   |cons y A2=>
    cases f1;rw[Yr]at f2;lia
  |cons y A=>
   obtain⟨rfl,q1⟩:=List.cons.inj (show x::l=y::(A++r::Dv) from R);rw[Yr]at e2;cases A2 with
   |nil=>
    obtain⟨rfl,q2⟩:=List.cons.inj (show x::l=s::B2 from f1);have f2:a=Y3 ([]:J Nat) N+b':=f2;rw[AU]at f2;lia
   |cons y2 A2=>
    obtain⟨rfl,q2⟩:=List.cons.inj (show x::l=y2::(A2++s::B2) from f1);rw[Yr]at f2;exact YLG hp.2 (a:=a-N x) ⟨A,Dv,q1,by lia,e3⟩ ⟨A2,B2,q2,by lia,f3⟩
theorem YCY(g:YV)(p:av):(Yi g p).Pairwise (·<·):=by
 unfold Yi;exact List.pairwise_lt_range.filter _
theorem YFU(g:YV)(p:av):(Yi g p).Nodup:=(YCY g p).imp λh=>YPC h
inductive gl(g:YV)(T:Nd->Nat)(n:Nat):Nat->List Str->Nat->List Nat->Nat->List Str->Nat->Prop
 |nil {i:Nat}{qs:List Str}{a:Nat}:gl g T n i qs a [] i qs a
 |cons {i j:Nat}{p:Str}{ps qs:List Str}{a r a' b:Nat}{ru:Ju}{row:List Nat}:jv (λr=>fR T n r (ZF g r) i ps) (Yi g p) a r a'->g[r]?=some ru->gl g T n (JF (ru.2.1++ps) i).2 (JF (ru.2.1++ps) i).1 a' row j qs b->gl g T n i (p::ps) a (r::row) j qs b
theorem gl.app(h:gl g T n i ps a row j qs b)(h':gl g T n j qs b m7 k rs c):gl g T n i ps a (row++m7) k rs c:=by
 induction h with
 |nil=>exact h'
 |cons p hr _ ih=>exact .cons p hr<|ih h'
inductive CA:List Nat->List Nat->Prop
 |here {r s:Nat}{x y:List Nat}:r<s->CA (r::x) (s::y)
 |on {r:Nat}{x y:List Nat}:CA x y->CA (r::x) (r::y)
theorem YNt(h:gl g T n i ps a x j [] c)(h':gl g T n i ps b y k [] d)(hc:c=0)(hd:d=0)(hl:a<b):CA x y:=by
 generalize he:([]:J av)=e at h h'
 induction h generalizing b y with
 |nil=>
  subst he;cases h';lia
 |@cons i j p ps qs a r a' c ru row pk hr h ih=>
  cases h' with
  |nil=>cases he
  |@cons _ _ _ _ _ _ s b' _ jM m7 yG hr' h'=>
   rcases YLF (YCY g p) pk yG hl with z|⟨rfl,z⟩
   exact .here z;have:ru=jM:=YO3<|hr.symm.trans hr';subst this;exact .on<|ih hc z he h'
theorem YNu(h:gl g T n i ps a x j [] c)(h':gl g T n i ps a y k [] d):x=y:=by
 generalize he:([]:J av)=e at h h'
 induction h generalizing y with
 |nil=>
  subst he;cases h';rfl
 |@cons i j p ps qs a r a' c ru row pk hr h ih=>
  cases h' with
  |nil=>cases he
  |@cons _ _ _ _ _ _ s b' _ jM m7 yG hr' h'=>
   obtain⟨rfl,rfl⟩:=YLG (YCY g p) pk yG;have:ru=jM:=YO3<|hr.symm.trans hr';subst this;rw[ih he h']
section
variable {g:YV}{cs:J Nat}{F:Nd->Bool}{Dl:J Nd}{top:ah Nd}{T:Nd->Nat}
structure kN(g:YV)(F:Nd->Bool)(Dl:List Nd)(T:Nd->Nat)(n i:Nat)(qs:List Str)(a:Nat):Prop where
 le:i<=n
 lt:a<Nc T n qs i
 good:hZ F Dl n qs i
 name:∀p ps,qs=p::ps->da p=false
theorem kN.sum(hS:ij g cs F)(hW:ZE g cs.length F top Dl)(hT:Zj g cs.length Dl T)(h:kN g F Dl T cs.length i (p::ps) a):a<Y3 (Yi g p) λr=>fR T cs.length r (ZF g r) i ps:=by
 rw[<-YMK hS hW hT (h.name p ps Z) h.good];exact h.lt
theorem kN.step(hh:∀ru∈g,da ru.1=false)(hS:ij g cs F)(hW:ZE g cs.length F top Dl)(hT:Zj g cs.length Dl T)(h:kN g F Dl T cs.length i (p::ps) a)(hp:jv (λr=>fR T cs.length r (ZF g r) i ps) (Yi g p) a r a')(hr:g[r]?=some ru):kN g F Dl T cs.length (JF (ru.2.1++ps) i).2 (JF (ru.2.1++ps) i).1 a':=by
 obtain⟨jM,hr',rfl⟩:=ZV.mp hp.mem;have:jM=ru:=YO3<|hr'.symm.trans hr;subst this;obtain⟨A,Dv,_,_,Dm⟩:=hp;have el:ZF g r=jM.2.1.length:=by unfold ZF;rw[hr];rfl
 have Dm:a'<fR T cs.length r (ZF g r) i ps:=Dm;obtain⟨f1,f2⟩:=YDm hS hW hT hr (h.name _ _ Z) h.le h.good;rw[el,f1]at Dm;obtain⟨s1,s2,s3,s4⟩:=YGu hh hS hW hT h.le (by lia) f2;exact⟨s2,by rw[s1];exact Dm,s3,s4⟩
end
section
variable {g:YV}{cs:J Nat}{F:Nd->Bool}{Dl:J Nd}{top:ah Nd}{T:Nd->Nat}
theorem YIt(hh:∀ru∈g,da ru.1=false)(hS:ij g cs F)(hW:ZE g cs.length F top Dl)(hT:Zj g cs.length Dl T):∀{ps:J av}{i:Nat}{row:J Nat},Nc T cs.length ps i≠0->XB g (JF ps i).1 row (cs.drop (JF ps i).2)->XB g ps row (cs.drop i)
 |[],i,row,_,h=>h
 |p::ps,i,row,h0,h=>by
  unfold JF at h;by_cases hq:da p=true;rw[if_pos hq]at h;obtain⟨f1,f2,⟨c,f3,f4⟩,_⟩:=YDn hh hS hW hT hq h0;have:=YIt hh hS hW hT (by rw[<-f1];exact h0) h;have Dm:i<cs.length:=(YOX.mp f3).1;rw[YPF Dm,(YOX.mp f3).2];have e:h_ p=c:=by rw[f4];rfl
  rw[<-e];exact .sign hq this;rw[if_neg hq]at h;exact h
theorem ow(hh:∀ru∈g,da ru.1=false)(hS:ij g cs F)(hW:ZE g cs.length F top Dl)(hT:Zj g cs.length Dl T)(h:gl g T cs.length i ps a row j qs b)(hA:kN g F Dl T cs.length i ps a)(hq:qs=[])(hj:j=cs.length):XB g ps row<|cs.drop i:=by
 induction h with
 |nil=>
  subst hq hj;rw[YQD];exact .nil
 |@cons i j p ps qs a r a' b ru row pk hr h ih=>
  obtain⟨jM,hr',e⟩:=ZV.mp pk.mem;have:jM=ru:=YO3<|hr'.symm.trans hr;subst this e;have hA':=hA.step hh hS hW hT pk hr;have hb:=hh jM<|YOc hr;obtain⟨f1,f2⟩:=YDm hS hW hT hr hb hA.le hA.good;obtain⟨A,Dv,_,_,Dm⟩:=pk;have Dm:a'<fR T cs.length r (ZF g r) i ps:=Dm;have el:ZF g r=jM.2.1.length:=by unfold ZF;rw[hr];rfl
  rw[el,f1]at Dm;exact .name hb hr<|YIt hh hS hW hT (by lia)<|ih hA' hq hj
end
end FR
namespace HT
open PySem PyProof.Rows
open PySem.SeqAt
open PySem.AutoSeq1 (wpAny_loadPart')
open PySem.MeetsSeq PySem.MeetsSeq2 PySem.MeetsSeq3
theorem Xr{items:Array ai}{i:Nat}{ns:J Int}(h:IntsAre (items.toList.drop i) ns)(hi:i<=items.size):(ns=[]/\items.size=i/\items[i]?=none)\/∃a t ns',ns=a::ns'/\i<items.size/\items[i]?=some (.int a t)/\IntsAre (items.toList.drop<|i+1) ns':=by
 by_cases Dm:i<items.size;have hl:i<items.toList.length:=by simpa using Dm
 rw[YPF hl]at h;have e:items[i]?=some items.toList[i]:=by
  rw[YP2 Dm];rfl
 revert e h;generalize items.toList[i]=v;intro h e;cases h with
 |cons a t h'=>exact .inr ⟨a,t,_,Z,Dm,e,h'⟩
 refine .inl ⟨?_,by lia,by simp;lia⟩;rw[List.drop_eq_nil_of_le (by simp;lia)]at h;cases h;rfl
theorem YHg(l b:al)(items bJ:Array ai)(n n2:Nat)(dd mU:ah al)(sl mV:Array<|ah ai)(k:Nat):
  ∀(i:Nat) (ns ms:J Int),items.size-i=k->i<=items.size->i<=bJ.size->IntsAre (items.toList.drop i) ns->IntsAre (bJ.toList.drop i) ms->Meets (Builtin.«list.__eq__.loop» ⟨[.ref l,.ref b,rawInt i,rawInt 0],[]⟩)
   (λ_ Dt s=>s.heap.get? l=some { cls:=.type "list",dict:=dd,data:=.seq items n,slots:=sl }/\s.heap.get? b=some { cls:=.type "list",dict:=mU,data:=.seq bJ n2,slots:=mV }/\
    Dt (.ok<|.ret<|.bool<|lexLt ns ms) s):=by
 induction k with
 |zero=>
  intro i ns ms hk h1 h2 hi hj prog w A Dt s h;obtain⟨hp,g,d,tk,os⟩:=s;obtain⟨hl,hb,h⟩:=h;rcases Xr hi h1 with ⟨rfl,z1,z2⟩|⟨a,t,ns',_,Dm,_⟩
  wp_walk using wpAny_loadPart' hl,wpAny_loadPart' hb
  have R:items[((i:Nat):Int).toNat]?=none:=by simpa using z2
  rw[R];rcases Xr hj h2 with ⟨rfl,y1,y2⟩|⟨c,u,jx,rfl,ylt,y2,y3⟩
  have e2:bJ[((i:Nat):Int).toNat]?=none:=by simpa using y2
  rw[e2]
  wp_walk using wpAny_loadPart' hl,wpAny_loadPart' hb
  show Dt (.ok<|.ret<|.bool<|decide (items.size<bJ.size)) _;rw[dy (by lia)];exact h;have e2:bJ[((i:Nat):Int).toNat]?=some (.int c u):=by simpa using y2
  rw[e2]
  wp_walk using wpAny_loadPart' hl,wpAny_loadPart' hb
  show Dt (.ok<|.ret<|.bool<|decide (items.size<bJ.size)) _;rw[de (by lia)];exact h;lia
 |succ k ih=>
  intro i ns ms hk h1 h2 hi hj prog w A Dt s h;obtain⟨hp,g,d,tk,os⟩:=s;obtain⟨hl,hb,h⟩:=h;rcases Xr hi h1 with ⟨_,z1,_⟩|⟨a,t,ns',rfl,zlt,z2,z3⟩
  lia
  wp_walk using wpAny_loadPart' hl,wpAny_loadPart' hb
  have R:items[((i:Nat):Int).toNat]?=some (.int a t):=by simpa using z2
  rw[R];rcases Xr hj h2 with ⟨rfl,y1,y2⟩|⟨c,u,jx,rfl,ylt,y2,y3⟩
  have e2:bJ[((i:Nat):Int).toNat]?=none:=by simpa using y2
  rw[e2]
  wp_walk using wpAny_loadPart' hl,wpAny_loadPart' hb
  show Dt (.ok<|.ret<|.bool<|decide (items.size<bJ.size)) _;rw[dy (by lia)];exact h;have e2:bJ[((i:Nat):Int).toNat]?=some (.int c u):=by simpa using y2
  have hc:((i:Int)+1)=((i+1:Nat):Int):=by push_cast;rfl
  rw[e2];rw[lexLt_cons]at h;obtain⟨e,he,t_⟩:=YMq A.in1 ⟨hp,g,d,tk,os⟩ a t c u;refine YOh<|he prog w _ _ ?_;cases e with
  |true=>
   rw[if_pos<|t_.mp rfl]at h
   wp_walk
   rw[hc];exact⟨plainId_quiet plain_eq_loop _,codeAny_builtin entry_eq_loop (by
    rw[Around.under_plainId plain_eq_loop _];exact ih (i+1) ns' jx (by lia) (by lia) (by lia) z3 y3 prog w A Dt _ ⟨hl,hb,h⟩)⟩
  |false=>
   rw[if_neg<|λq=>absurd (t_.mpr q) YOu]at h;have WL:=YMr A.in1 ⟨hp,g,d,tk,os⟩ a t c u prog w
   wp_walk using wpAny_loadPart' hl,wpAny_loadPart' hb
   rw[R,e2]
   wp_walk using WL
   exact h
theorem YHh(l b:al)(items bJ:Array ai)(n n2:Nat)(dd mU:ah al)(sl mV:Array<|ah ai)(ns ms:J Int)(hi:IntsAre items.toList ns)(hj:IntsAre bJ.toList ms):
  Meets (Builtin.«list.__lt__» ⟨[.ref l,.ref b],[]⟩)
   (λ_ Dt s=>s.heap.get? l=some { cls:=.type "list",dict:=dd,data:=.seq items n,slots:=sl }/\s.heap.get? b=some { cls:=.type "list",dict:=mU,data:=.seq bJ n2,slots:=mV }/\
    Dt (.ok<|.ret<|.bool<|lexLt ns ms) s):=by
 intro prog w A Dt s h;obtain⟨hp,g,d,tk,os⟩:=s;obtain⟨hl,hb,h⟩:=h;have f3:=AutoSeq1.sub_list_list
 wp_walk using wpAny_loadPart' hl,wpAny_loadPart' hb
 exact⟨plainId_quiet plain_eq_loop _,codeAny_builtin entry_eq_loop (by
  rw[Around.under_plainId plain_eq_loop _];exact YHg l b items bJ n n2 dd mU sl mV _ 0 ns ms Z (YOn _) (YOn _) hi hj prog w A Dt _ ⟨hl,hb,h⟩)⟩
section
variable {prog:Program}{w:World}{A:Around}{E:ai->ar->Prop}{s:ar}
theorem lt_listInts{Q:ai->ar->Prop}(hl:PlainL s.heap l items)(hb:PlainL s.heap b bJ)(hi:IntsAre items.toList ns)(hj:IntsAre bJ.toList ms)
  (hu:A.units<cLine)(h:Q (.bool<|lexLt ns ms) s):wpAny (model prog w) A (compareOp .Lt (.ref l)<|.ref b) Q E s:=by
 obtain⟨⟨cls,dd,data,sl⟩,n,ho,hc,_,hd⟩:=id hl;obtain⟨⟨uy,mU,data2,mV⟩,n2,jL,hc2,_,hd2⟩:=id hb;simp only at hc hd hc2 hd2;subst hc hd hc2 hd2;exact richCompare_meets_room (op:=.Lt) ⟨_,ho,Z⟩ ⟨_,jL,Z⟩ PySem.F.slot_list_lt PySem.F.entry_list_lt (PySem.F.args_list_lt_2 _ _) (YHh l b items bJ n n2 dd mU sl mV ns ms hi hj)
  ⟨ho,jL,show Value.bool (lexLt ns ms)≠Value.notImplemented/\Q (.bool<|lexLt ns ms) s from⟨nofun,h⟩⟩ hu
end
end HT
namespace L2
open PySem PyProof.Rows
section
variable {X:Cx}
def rLtL(K:W.Frag):R2:=λx y H Q=>∃a b ns ms,x=.ref a/\y=.ref b/\aX K H a (ns.map V.int)/\aX K H b (ms.map V.int)/\Q (.bl<|HT.lexLt ns ms) H
theorem AA(K:W.Frag)(hK:X.K=K)(hu:X.A.units+64<cLine):fK X (compareOp .Lt)<|rLtL K:=by
 subst hK;intro O s σ H x y v u Q I rx ry h;obtain⟨a,b,ns,ms,rfl,rfl,ha,hb,q⟩:=h;cases rx;cases ry;obtain⟨its,r1,p1,_⟩:=I.list ha;obtain⟨b_,r2,p2,_⟩:=I.list hb;have i1:IntsAre its.toArray.toList ns:=YCL r1;have i2:IntsAre b_.toArray.toList ms:=YCL r2;exact HT.lt_listInts p1 p2 i1 i2 (by lia) ⟨.bl<|HT.lexLt ns ms,H,I,Z,q⟩
end
section
variable {X:Cx}
def oB:V->J V->L->VK->Prop:=λx vs H Q=>∃(l:al) (xs:J V) (i:Nat) (y:V),x=.ref l/\vs=[.int i,y]/\H l=some (.lst xs)/\i<=xs.length/\i<1000/\xs.length<sizeLine/\Q .non (upd H l<|.lst<|xs.take i++y::xs.drop i)
theorem YMM:CD X "list.insert" oB:=by
 intro O s σ H x vs v us Q I rx rv h;obtain⟨l,xs,i,y,rfl,rfl,hH,hi,hi1,hz,q⟩:=h;cases rx;obtain⟨u1,u2,rfl,⟨t,rfl⟩,ru⟩:=ly rv;obtain⟨z,its,n,r,hl,e⟩:=I.lstM hH;have hlen:its.length=xs.length:=r.length.symm;obtain⟨x,U⟩:∃x:Int,x=(i:Int):=⟨_,Z⟩;rw[<-U];have hc0:¬(!Builtin.List.listFitsIndex x)=true:=by
  have:Builtin.List.listFitsIndex x=true:=by
   unfold Builtin.List.listFitsIndex;simp;lia
  rw[this];decide
 have hsz:its.toArray.size<=sizeLine:=by rw[YOp];lia
 have hm:=@PySem.AutoListH.list_insert_list_int_val_1 l its.toArray n x t u2 hc0 hsz;revert hm;generalize hf:(λxs:Array ai=>have k:=if x<0 then (x+((xs.size:Nat):Int)).toNat else min x.toNat xs.size;(xs.extract 0 k).push u2++xs.extract k)=f;intro hm;have ek:f its.toArray=(its.take i++u2::its.drop i).toArray:=by
  rw[<-hf];have hk:(if x<0 then (x+((its.toArray.size:Nat):Int)).toNat else min x.toNat its.toArray.size)=i:=by
   rw[if_neg (by lia),U,YOp];lia
  show(its.toArray.extract 0 (if x<0 then (x+((its.toArray.size:Nat):Int)).toNat else min x.toNat its.toArray.size)).push u2++its.toArray.extract (if x<0 then (x+((its.toArray.size:Nat):Int)).toNat else min x.toNat its.toArray.size)=_;rw[hk];apply Array.toList_inj.mp;simp[List.extract];exact YPw (by rw[YPT];exact YOY _)
 refine call_meets F.slot_list_insert ⟨_,e,Z⟩ F.entry_list_insert (F.args_list_insert_3 _ _ _) hm ⟨e,?_⟩;refine⟨.non,_,I.lset (its':=its.take i++u2::its.drop i) hH e ek ((r.take i).append<|.cons ru<|r.drop i) ?_,Z,q⟩;rw[YOU,YOx,YPK,YPT];lia
end
end L2
namespace FR
open PySem L2
def XE(x:J Nat):J Int:=x.map λi:Nat=>(i:Int)
theorem YIu:∀x:J Nat,HT.lexLt (XE x) (XE x)=false
 |[]=>rfl
 |a::x=>by
  show HT.lexLt ((a:Int)::XE x) ((a:Int)::XE x)=false;rw[HT.lexLt_cons,if_pos Z];exact YIu x
theorem YNv(h:CA x y):HT.lexLt (XE x) (XE y)=true/\HT.lexLt (XE y) (XE x)=false:=by
 induction h with
 |@here r s x y h=>
  show HT.lexLt ((r:Int)::XE x) ((s:Int)::XE y)=true/\HT.lexLt ((s:Int)::XE y) ((r:Int)::XE x)=false;rw[HT.lexLt_cons,HT.lexLt_cons,if_neg (by omega),if_neg (by omega)];exact⟨de (by omega),dy (by omega)⟩
 |@on r x y _ ih=>
  show HT.lexLt ((r:Int)::XE x) ((r:Int)::XE y)=true/\HT.lexLt ((r:Int)::XE y) ((r:Int)::XE x)=false;rw[HT.lexLt_cons,HT.lexLt_cons,if_pos Z,if_pos Z];exact ih
theorem YMN(h:gl g T n i ps a x j [] 0)(h':gl g T n i ps b y k [] 0):decide (a<b)=HT.lexLt (XE x) (XE y):=by
 rcases Nat.lt_trichotomy a b with z|z|z
 rw[de z,(YNv<|YNt h h' rfl rfl z).1];subst z;rw[YNu h h',YIu,dy<|YPW _];rw[dy (by lia),(YNv<|YNt h' h rfl rfl z).2]
theorem YMO{α:Type}{l:J α}{A Dv:α->Bool}(h:∀x∈l,A x=true->Dv x=true){y:α}(hy:y∈l)(h1:Dv y=true)(h2:A y=false):(l.filter A).length<(l.filter Dv).length:=by
 have e:l.filter A=(l.filter Dv).filter A:=by
  rw[YQE];refine List.filter_congr λx U=>?_;cases ha:A x with
  |true=>rw[h x U ha];rfl
  |false=>rfl
 rw[e];exact List.length_filter_lt_length_iff_exists.mpr ⟨y,YO4.mpr ⟨hy,h1⟩,by rw[h2];decide⟩
theorem nh{α:Type}{p q:α}(hn:p≠q):∀{l:J α},p∈l->q∈l->2<=l.length
 |[],h,_=>nomatch h
 |[a],h,h'=>absurd ((YOT.mp h).trans (YOT.mp h').symm) hn
 |a::b::l,_,_=>by simp
theorem YKG{α:Type}{l:J α}{A:α->Bool}{p q:α}(hn:p≠q)(hp:p∈l)(hq:q∈l)(h1:A p=false)(h2:A q=false):(l.filter A).length+2<=l.length:=by
 have:=nh hn (l:=l.filter λx=>!A x) (YO4.mpr ⟨hp,by rw[h1];rfl⟩)<|YO4.mpr ⟨hq,by rw[h2];rfl⟩;have e:∀l:J α,(l.filter A).length+(l.filter λx=>!A x).length=l.length:=λl=>by
  induction l with
  |nil=>rfl
  |cons x l ih=>
   rw[YPP,YPP];cases A x;show(l.filter A).length+((l.filter λx=>!A x).length+1)=l.length+1;lia;show(l.filter A).length+1+(l.filter λx=>!A x).length=l.length+1;lia
 have:=e l;lia
inductive fN(M:Nd->Prop)(wt:Nd->Nat):List Str->Nat->Nat->Nat->Prop
 |nil {i:Nat}:fN M wt [] i i 0
 |cons {p:Str}{ps:List Str}{i e j W:Nat}:M (.part p i e)->fN M wt ps e j W->fN M wt (p::ps) i j (wt (.part p i e)+W)
theorem fN.split{M:Nd->Prop}{wt:Nd->Nat}:∀{ps qs:J av}{i j W:Nat},fN M wt (ps++qs) i j W->∃e W1 W2,fN M wt ps i e W1/\fN M wt qs e j W2/\W=W1+W2
 |[],qs,i,j,W,h=>⟨i,0,W,.nil,h,(YPs W).symm⟩
 |p::ps,qs,i,j,W,h=>by
  cases h with
  |cons hm h=>
   obtain⟨e,W1,W2,h1,h2,rfl⟩:=fN.split (ps:=ps) h;exact⟨e,_,W2,.cons hm h1,h2,(Nat.add_assoc ..).symm⟩
def e0:Nat->Nat
 |0=>1
 |1=>4
 |_=>13
theorem lf(r:Nat):1<=e0 r/\e0 r<=13:=by
 match r with
 |0=>decide
 |1=>decide
 |_+2=>exact⟨by show 1<=13;decide,YOY 13⟩
theorem wm(h:r<=1):e0 r<=4:=by
 match r,h with
 |0,_=>decide
 |1,_=>decide
theorem Co(h:a<b):b<=2->3*e0 a+1<=e0 b:=by
 intro hb
 match a,b with
 |0,0=>lia
 |0,1=>decide
 |0,2=>decide
 |1,0=>lia
 |1,1=>lia
 |1,2=>decide
 |a+2,_=>lia
 |_,b+3=>lia
section
variable {g:YV}{cs:J Nat}{F:Nd->Bool}{Dl:J Nd}{top:ah Nd}{T rk:Nd->Nat}{Ns:J av}
def fT(Dl:J Nd)(rk:Nd->Nat)(Ns:J av)(p:av)(i j:Nat):Nat:=(Ns.filter λq=>decide (Nd.part q i j∈Dl/\rk (.part q i j)<rk (.part p i j))).length
def hV(Dl:J Nd)(rk:Nd->Nat)(Ns:J av):Nd->Nat
 |.part p i j=>if da p=true then 0 else if i=j then e0 (fT Dl rk Ns p i j) else 77*(j-i)+9*fT Dl rk Ns p i j-50
 |.beg _ _ _ _=>0
structure Bd(g:YV)(cs:List Nat)(F:Nd->Bool)(Dl:List Nd)(top:Option Nd)(rk:Nd->Nat)(Ns:List Str):Prop where
 st:ij g cs F
 wk:ZE g cs.length F top Dl
 hh:∀ru∈g,da ru.1=false
 rk:∀x∈Dl,∀w∈Yc g cs.length F x,∀y∈w,rk y<rk x
 ns:Ns.length<=3
 nm:∀p i j,F (.part p i j)=true->da p=false->p∈Ns
 pl:∀ru∈g,ru.2.1.length<=3
theorem YHi(hn:Ns.length<=3)(hp:p∈Ns)(i j:Nat):fT Dl rk Ns p i j<=2:=by
 have:fT Dl rk Ns p i j<Ns.length:=List.length_filter_lt_length_iff_exists.mpr ⟨p,hp,by rw[dy<|λz=>YPW _ z.2];decide⟩;lia
theorem YKH(hq:q∈Ns)(Do:Nd.part q i j∈Dl)(h:rk (.part q i j)<rk (.part p i j)):fT Dl rk Ns q i j<fT Dl rk Ns p i j:=
 YMO (λx _ U=>by have:=fF U;exact de ⟨this.1,Nat.lt_trans this.2 h⟩) hq (de ⟨Do,h⟩) (dy λz=>YPW _ z.2)
theorem pT(hn:Ns.length<=3)(hp:p∈Ns)(Do:Nd.part p i j∈Dl)(h:2<=fT Dl rk Ns p i j)(hq:q∈Ns):Nd.part q i j∈Dl:=by
 refine Decidable.byContradiction λz=>?_;have:fT Dl rk Ns p i j+2<=Ns.length:=YKG (p:=p) (q:=q) (λe=>z (by rw[<-e];exact Do)) hp hq (dy λz=>YPW _ z.2)<|dy λy=>z y.1;lia
theorem fN.comp(hW:ZE g cs.length F top Dl)(hS:ij g cs F){wt:Nd->Nat}(h:fN (·∈Dl) wt ps i j W)(hj:j=cs.length):ol F cs.length ps i:=by
 induction h with
 |nil=>exact hj
 |@cons p ps i e j W hm _ ih=>exact⟨e,(hS.leg _<|hW.sub _ hm).2.2,hW.sub _ hm,ih hj⟩
theorem YNw{wt:Nd->Nat}:∀{ps:J av}{i:Nat},ol F n ps i->hZ F Dl n ps i->∃W,fN (·∈Dl) wt ps i n W
 |[],i,h,_=>by
  have h:i=n:=h;subst h;exact⟨0,.nil⟩
 |p::ps,i,⟨e,he,hf,hc⟩,hg=>by
  obtain⟨h1,h2⟩:=hg e he hf hc;obtain⟨W,h⟩:=YNw (wt:=wt) hc h2;exact⟨_,.cons h1 h⟩
theorem YHj(hS:ij g cs F){M:Nd->Prop}(hM:∀y,M y->F y=true){wt:Nd->Nat}(hr:g[r]?=some ru):∀{m d k e W:Nat},d+m=ru.2.1.length->fN M wt (ru.2.1.drop d) k e W->F (.beg r d i k)=true->F (.beg r ru.2.1.length i e)=true
 |0,d,k,e,W,hd,h,hf=>by
  have hd:d=ru.2.1.length:=hd;subst hd;rw[YQD]at h;cases h;exact hf
 |m+1,d,k,e,W,hd,h,hf=>by
  have hdl:d<ru.2.1.length:=by lia
  rw[YPF hdl]at h;cases h with
  |@cons _ _ _ b _ _ hm h=>
   have hp:ZM g r d=some ru.2.1[d]:=by unfold ZM;rw[hr];exact YOW hdl
   exact YHj (m:=m) hS hM hr (by lia) h<|hS.join r d i k _ b hp hf<|hM _ hm
theorem YNx(Dv:Bd g cs F Dl top rk Ns){wt:Nd->Nat}(hr:g[r]?=some ru)(Do:Nd.beg r ru.2.1.length i e∈Dl)(hR:rk (.beg r ru.2.1.length i e)<Dt):∀{m d k W:Nat},d+m=ru.2.1.length->fN (·∈Dl) wt (ru.2.1.drop d) k e W->F (.beg r d i k)=true->fN (λy=>y∈Dl/\rk y<Dt) wt (ru.2.1.drop d) k e W/\Nd.beg r d i k∈Dl/\rk (.beg r d i k)<Dt
 |0,d,k,W,hd,h,hf=>by
  have hd:d=ru.2.1.length:=hd;subst hd;rw[YQD]at h ⊢;cases h;exact⟨.nil,Do,hR⟩
 |m+1,d,k,W,hd,h,hf=>by
  have hdl:d<ru.2.1.length:=by lia
  rw[YPF hdl]at h ⊢;cases h with
  |@cons _ _ _ b _ W hm h=>
   have hp:ZM g r d=some ru.2.1[d]:=by unfold ZM;rw[hr];exact YOW hdl
   have ep:Z6 g r d=ru.2.1[d]:=by unfold Z6;rw[hp];rfl
   obtain⟨h1,h2,h3⟩:=YNx (m:=m) Dv hr Do hR (by lia) h<|Dv.st.join r d i k _ b hp hf<|Dv.wk.sub _ hm;have hw:=YHf (g:=g) (F:=F) (Dv.st.leg _ hf).2.2 hf (by rw[ep];exact Dv.wk.sub _ hm);rw[ep]at hw;have k1:=Dv.rk _ h2 _ hw;exact⟨.cons ⟨hm,Nat.lt_trans (k1 _ (by simp)) h3⟩ h1,Dv.wk.cl _ h2 _ hw _ (by simp),Nat.lt_trans (k1 _ (by simp)) h3⟩
theorem YFV(Dv:Bd g cs F Dl top rk Ns){wt:Nd->Nat}{r:Nat}{ru:Ju}(hr:g[r]?=some ru){i e W:Nat}(hi:i<=cs.length)(h:fN (·∈Dl) wt ru.2.1 i e W):F (.part ru.1 i e)=true/\(Nd.part ru.1 i e∈Dl->fN (λy=>y∈Dl/\rk y<rk (.part ru.1 i e)) wt ru.2.1 i e W):=by
 have hz:=Dv.st.zero r i (YOX.mp hr).1 hi;have h':fN (·∈Dl) wt (ru.2.1.drop 0) i e W:=h;have hf:=YHj Dv.st (λy hy=>Dv.wk.sub y hy) hr (YPs _) h' hz;refine⟨Dv.st.up r ru i e hr hf,λDo=>?_⟩;have hw:[Nd.beg r ru.2.1.length i e]∈Yc g cs.length F (.part ru.1 i e):=by
  rw[Yc,if_neg (by rw[Dv.hh ru<|YOc hr];decide)];refine YOt.mpr ⟨r,YO4.mpr ⟨ZV.mpr ⟨ru,hr,Z⟩,?_⟩,?_⟩;rw[s_ hr];exact hf;rw[s_ hr]
 exact(YNx Dv hr (Dv.wk.cl _ Do _ hw _ (by simp)) (Dv.rk _ Do _ hw _ (by simp)) (YPs _) h' hz).1
theorem YNy{wt:Nd->Nat}:∀{ps:J av},(∀q∈ps,Nd.part q a a∈Dl)->∃W,fN (·∈Dl) wt ps a a W
 |[],_=>⟨0,.nil⟩
 |p::ps,h=>by
  obtain⟨W,hW⟩:=YNy (wt:=wt) (ps:=ps) λq hq=>h q<|YOV _ hq;exact⟨_,.cons (h p<|YOZ ..) hW⟩
theorem fN.mem{M:Nd->Prop}(hM:∀p a b,M (.part p a b)->a<=b){wt:Nd->Nat}(h:fN M wt ps i e W):i<=e/\∀q∈ps,∃a b,i<=a/\a<=b/\b<=e/\M (.part q a b):=by
 induction h with
 |nil=>exact⟨YOY _,λq hq=>nomatch hq⟩
 |cons hm _ ih=>
  have h1:=hM _ _ _ hm;refine⟨YO1 h1 ih.1,λq hq=>(YOj.mp hq).elim (λe=>by rw[e];exact⟨_,_,YOY _,h1,ih.1,hm⟩) λhq=>?_⟩;obtain⟨a,b,k1,k2,k3,k4⟩:=ih.2 q hq;exact⟨a,b,YO1 h1 k1,k2,k3,k4⟩
theorem Bd.le(Dv:Bd g cs F Dl top rk Ns)(h:Nd.part p a b∈Dl):a<=b/\b<=cs.length:=(Dv.st.leg _<|Dv.wk.sub _ h).2
theorem nK(Dv:Bd g cs F Dl top rk Ns){wt:Nd->Nat}{r:Nat}{ru:Ju}(hr:g[r]?=some ru){i e W:Nat}(h:fN (·∈Dl) wt ru.2.1 i e W)(Do:Nd.part ru.1 i e∈Dl)(hq:∀q∈ru.2.1,da q=false){q:av}{a:Nat}(hm:q∈ru.2.1)(ha:Nd.part q a a∈Dl):fT Dl rk Ns q a a<=1:=by
 refine Decidable.byContradiction λz=>?_;have hqN:=Dv.nm q a a (Dv.wk.sub _ ha)<|hq q hm;have hpN:=Dv.nm ru.1 i e (Dv.wk.sub _ Do)<|Dv.hh ru<|YOc hr;have all:∀y∈Ns,Nd.part y a a∈Dl:=λy hy=>pT (rk:=rk) Dv.ns hqN ha (by lia) hy;obtain⟨W',hW'⟩:=YNy (wt:=wt) (Dl:=Dl) (a:=a) (ps:=ru.2.1) λy hy=>by
  obtain⟨c,d,_,_,_,hcd⟩:=(h.mem λ_ _ _ z=>(Dv.le z).1).2 y hy;exact all y<|Dv.nm y c d (Dv.wk.sub _ hcd)<|hq y hy
 have hd:=(YFV Dv hr (Dv.le ha).2 hW').2 (all _ hpN);obtain⟨c,d,k1,k2,k3,k4⟩:=(hd.mem λ_ _ _ z=>(Dv.le z.1).1).2 q hm;obtain rfl:c=a:=by lia
 obtain rfl:d=c:=by lia
 have:=YKH (p:=ru.1) hqN ha k4.2;have:=YHi (Dl:=Dl) (rk:=rk) Dv.ns hpN d d;lia
inductive AH(Dr q:Prop)(m Dt w l:Nat):Prop
 |sign:w=0->l=1->q->AH Dr q m Dt w l
 |none:w<=13->l=0->¬q->(Dr->w<=4)->AH Dr q m Dt w l
 |less:w+32<=77*l->0<l->l<m->¬q->AH Dr q m Dt w l
 |all:w+59<=77*m+9*Dt->l=m->¬q->AH Dr q m Dt w l
inductive pE(Dr a:Prop)(m Dt n w l:Nat):Prop
 |zero:w<=13*n->l=0->a->(Dr->w<=4*n)->pE Dr a m Dt n w l
 |one:w+45<=77*l+13*n->0<l->l<m->pE Dr a m Dt n w l
 |good:w+90<=77*l+13*n->0<l->pE Dr a m Dt n w l
 |all:(Dr->w+63<=77*m+9*Dt+4*n)->l=m->a->pE Dr a m Dt n w l
 |over:m<l->pE Dr a m Dt n w l
theorem YMP{Dr q a a':Prop}(hm:0<m)(ha:¬q->a->a')(h:pE Dr a m Dt n w l)(h':AH Dr q m Dt w' l'):pE Dr a' m Dt (n+1) (w+w')<|l+l':=by
 cases h with
 |zero h1 h2 h3 h4=>cases h' with
  |sign k1 k2 _=>exact .good (by lia) (by lia)
  |none k1 k2 k3 k4=>exact .zero (by lia) (by lia) (ha k3 h3) λs=>by have:=h4 s;have:=k4 s;lia
  |less k1 k2 k3 k4=>exact .one (by lia) (by lia) (by lia)
  |all k1 k2 k3=>exact .all (λs=>by have:=h4 s;lia) (by lia)<|ha k3 h3
 |one h1 h2 h3=>cases h' with
  |sign k1 k2 _=>exact .good (by lia) (by lia)
  |none k1 k2 k3 k4=>exact .one (by lia) (by lia) (by lia)
  |less k1 k2 k3 k4=>exact .good (by lia) (by lia)
  |all k1 k2 k3=>exact .over (by lia)
 |good h1 h2=>cases h' with
  |sign k1 k2 _=>exact .good (by lia) (by lia)
  |none k1 k2 k3 k4=>exact .good (by lia) (by lia)
  |less k1 k2 k3 k4=>exact .good (by lia) (by lia)
  |all k1 k2 k3=>exact .over (by lia)
 |all h1 h2 h3=>cases h' with
  |sign k1 k2 _=>exact .over (by lia)
  |none k1 k2 k3 k4=>exact .all (λs=>by have:=h1 s;have:=k4 s;lia) (by lia)<|ha k3 h3
  |less k1 k2 k3 k4=>exact .over (by lia)
  |all k1 k2 k3=>exact .over (by lia)
 |over h1=>exact .over (by lia)
theorem yi(Dv:Bd g cs F Dl top rk Ns){r:Nat}{ru:Ju}(hr:g[r]?=some ru){i e W:Nat}(h:fN (·∈Dl) (hV Dl rk Ns) ru.2.1 i e W)(Do:Nd.part ru.1 i e∈Dl){q:av}{a b:Nat}(hm:q∈ru.2.1)(hia:i<=a)(hbe:b<=e)(hk:Nd.part q a b∈Dl/\rk (.part q a b)<rk (.part ru.1 i e)):AH (∀q∈ru.2.1,da q=false) (da q=true) (e-i) (fT Dl rk Ns ru.1 i e) (hV Dl rk Ns<|.part q a b)<|b-a:=by
 have hl:=Dv.le hk.1;cases hq:da q with
 |true=>
  obtain⟨c,_,_,R⟩:=YDE Dv.hh hq<|Dv.st.leg _<|Dv.wk.sub _ hk.1;exact .sign (if_pos hq) (by lia) Z
 |false=>
  have hqN:=Dv.nm q a b (Dv.wk.sub _ hk.1) hq;have hle:=YHi (Dl:=Dl) (rk:=rk) Dv.ns hqN a b;have R:hV Dl rk Ns (.part q a b)=if a=b then e0 (fT Dl rk Ns q a b) else 77*(b-a)+9*fT Dl rk Ns q a b-50:=if_neg (by rw[hq];decide)
  rw[R];by_cases hab:a=b;rw[if_pos hab];subst hab;exact .none (lf _).2 (by lia) (by decide) λz=>wm<|nK Dv hr h Do z hm hk.1;rw[if_neg hab];by_cases hall:a=i/\b=e;obtain⟨rfl,rfl⟩:=hall;have:=YKH (p:=ru.1) hqN hk.1 hk.2;exact .all (by lia) Z (by decide);exact .less (by lia) (by lia) (by lia) (by decide)
theorem o6(Dv:Bd g cs F Dl top rk Ns){r:Nat}{ru:Ju}(hr:g[r]?=some ru){i e W:Nat}(h:fN (·∈Dl) (hV Dl rk Ns) ru.2.1 i e W)(Do:Nd.part ru.1 i e∈Dl):W+1<=hV Dl rk Ns (.part ru.1 i e):=by
 have hl:=Dv.le Do;have hq:=Dv.hh ru<|YOc hr;have hpN:=Dv.nm ru.1 i e (Dv.wk.sub _ Do) hq;have hR:=YHi (Dl:=Dl) (rk:=rk) Dv.ns hpN i e;have hd:=(YFV Dv hr (YO1 hl.1 hl.2) h).2 Do;have R:hV Dl rk Ns (.part ru.1 i e)=if i=e then e0 (fT Dl rk Ns ru.1 i e) else 77*(e-i)+9*fT Dl rk Ns ru.1 i e-50:=if_neg (by rw[hq];decide)
 rw[R];have pl:=Dv.pl ru<|YOc hr;have hle:∀p a b,(Nd.part p a b∈Dl/\rk (.part p a b)<rk (.part ru.1 i e))->a<=b:=λ_ _ _ z=>(Dv.le z.1).1;by_cases Qj:i=e
 ·subst Qj;rw[if_pos Z];have key:∀{ps:J av}{W:Nat},fN (λy=>y∈Dl/\rk y<rk (.part ru.1 i i)) (hV Dl rk Ns) ps i i W->ps.length<=3->3*W+ps.length<=ps.length*e0 (fT Dl rk Ns ru.1 i i):=by
   intro ps
   induction ps with
   |nil=>
    intro W hd _;cases hd;exact YOn _
   |cons p ps ih=>
    intro W hd hl3;have l3:ps.length+1<=3:=hl3;cases hd with
    |@cons _ _ _ b _ W hk hd=>
     have h1:=hle _ _ _ hk;have h2:=(hd.mem hle).1;obtain rfl:b=i:=by lia
     have h3:=ih hd (by lia);have h4:3*hV Dl rk Ns (.part p b b)+1<=e0 (fT Dl rk Ns ru.1 b b):=by
      cases hq:da p with
      |true=>
       obtain⟨c,_,_,R⟩:=YDE Dv.hh hq<|Dv.st.leg _<|Dv.wk.sub _ hk.1;lia
      |false=>
       have e2:hV Dl rk Ns (.part p b b)=if b=b then e0 (fT Dl rk Ns p b b) else 77*(b-b)+9*fT Dl rk Ns p b b-50:=if_neg (by rw[hq];decide)
       rw[e2,if_pos Z];exact Co (YKH (Dv.nm p b b (Dv.wk.sub _ hk.1) hq) hk.1 hk.2) hR
     rw[YOx,Nat.add_mul];lia
  have h1:=key hd pl;have h2:=(lf<|fT Dl rk Ns ru.1 i i).1;have h3:ru.2.1.length*e0 (fT Dl rk Ns ru.1 i i)<=3*e0 (fT Dl rk Ns ru.1 i i):=Nat.mul_le_mul_right _ pl;rcases Nat.eq_zero_or_pos ru.2.1.length with z|z
  rw[z]at h1;lia;have h4:3*W+ru.2.1.length<=3*e0 (fT Dl rk Ns ru.1 i i):=by lia
  match hn:ru.2.1.length,pl,z with
  |1,_,_=>
   rw[hn]at h1;lia
  |2,_,_=>
   rw[hn]at h1;lia
  |3,_,_=>
   rw[hn]at h1;lia
 ·rw[if_neg Qj];have key:∀{ps:J av}{k W:Nat},fN (λy=>y∈Dl/\rk y<rk (.part ru.1 i e)) (hV Dl rk Ns) ps k e W->∀(pre:J av) (W0:Nat),pre++ps=ru.2.1->i<=k->pE (∀q∈ru.2.1,da q=false) (∀q∈pre,da q=false) (e-i) (fT Dl rk Ns ru.1 i e) pre.length W0 (k-i)->pE (∀q∈ru.2.1,da q=false) (∀q∈ru.2.1,da q=false) (e-i) (fT Dl rk Ns ru.1 i e) ru.2.1.length (W0+W) (e-i):=by
   intro ps
   induction ps with
   |nil=>
    intro k W hd pre W0 epre hk hs;cases hd;rw[YO6]at epre;subst epre;exact hs
   |cons p ps ih=>
    intro k W hd pre W0 epre hk hs;cases hd with
    |@cons _ _ _ b _ W hk1 hd=>
     have h1:=hle _ _ _ hk1;have h2:=(hd.mem hle).1;have pb:=yi Dv hr h Do (q:=p) (a:=k) (b:=b) (by rw[<-epre];simp) hk h2 hk1;have st:=YMP (a':=∀q∈pre++[p],da q=false) (by lia) (λhn ha q hq=>(YOf.mp hq).elim (ha q) λz=>by rw[YOT.mp z];exact YPu.mpr hn) hs pb;rw[show k-i+(b-k)=b-i by lia]at st;have:=ih hd (pre++[p]) _ (by rw[YOw];exact epre) (by lia) (by rw[YOU];exact st);rw[Nat.add_assoc]at this;exact this
  have:=key hd [] 0 rfl (YOY _)<|.zero (YOn _) (YPh _) (λq hq=>nomatch hq) λ_=>YOn _;rw[YPs]at this;cases this with
  |zero _ z=>lia
  |one _ _ z=>lia
  |good z _=>lia
  |all z _ s=>
   have:=z s;lia
  |over z=>lia
theorem YIv(Dv:Bd g cs F Dl top rk Ns)(hT:Zj g cs.length Dl T):∀{ps:J av}{i W:Nat},Nc T cs.length ps i≠0->hZ F Dl cs.length ps i->fN (·∈Dl) (hV Dl rk Ns) (JF ps i).1 (JF ps i).2 cs.length W->fN (·∈Dl) (hV Dl rk Ns) ps i cs.length W
 |[],i,W,_,_,h=>h
 |p::ps,i,W,h0,hG,h=>by
  unfold JF at h;by_cases hq:da p=true;rw[if_pos hq]at h;obtain⟨f1,f2,⟨c,f3,f4⟩,f5⟩:=YDn Dv.hh Dv.st Dv.wk hT hq h0;have h1:Nc T cs.length ps (i+1)≠0:=by rw[<-f1];exact h0
  have:=fN.cons (wt:=hV Dl rk Ns) (M:=(·∈Dl)) (p:=p) (i:=i) (hG (i+1) f2 (by rw[f4];exact Dv.st.sign i c f3)<|zS Dv.wk hT h1).1 (YIv Dv hT h1 (f5 hG) h);rw[show hV Dl rk Ns (.part p i<|i+1)=0 from if_pos hq,YPs]at this;exact this;rw[if_neg hq]at h;exact h
theorem xV(Dv:Bd g cs F Dl top rk Ns)(hT:Zj g cs.length Dl T){i a j b:Nat}{ps qs:J av}{row:J Nat}(h:gl g T cs.length i ps a row j qs b)(hA:kN g F Dl T cs.length i ps a){W:Nat}(hD:fN (·∈Dl) (hV Dl rk Ns) qs j cs.length W):∃W',fN (·∈Dl) (hV Dl rk Ns) ps i cs.length W'/\W+row.length<=W':=by
 induction h with
 |nil=>exact⟨W,hD,YOY _⟩
 |@cons i j p ps qs a r a' b ru row pk hr h ih=>
  obtain⟨jM,hr',e⟩:=ZV.mp pk.mem;have:jM=ru:=YO3<|hr'.symm.trans hr;subst this e;obtain⟨W1,hW1,hle⟩:=ih (hA.step Dv.hh Dv.st Dv.wk hT pk hr) hD;obtain⟨f1,f2⟩:=YDm Dv.st Dv.wk hT hr (hA.name _ _ Z) hA.le hA.good;obtain⟨A,B',_,_,Dm⟩:=pk;have Dm:a'<fR T cs.length r (ZF g r) i ps:=Dm;rw[s_ hr,f1]at Dm;obtain⟨e,W2,W3,d1,d2,rfl⟩:=(YIv Dv hT (by lia) f2 hW1).split;have hf:=(YFV Dv hr hA.le d1).1;have Do:=(hA.good e (Dv.st.leg _ hf).2.2 hf (d2.comp Dv.wk Dv.st Z)).1;have:=o6 Dv hr d1 Do;exact⟨_,.cons Do d2,by rw[YOx];lia⟩
theorem YMQ(Dv:Bd g cs F Dl top rk Ns)(hT:Zj g cs.length Dl T)(hn:cs.length<=13)(h:gl g T cs.length 0 [p] a row j qs b)(hA:kN g F Dl T cs.length 0 [p] a)(hE:kN g F Dl T cs.length j qs b):row.length<1000:=by
 obtain⟨W,hW⟩:=YNw (wt:=hV Dl rk Ns) (zS Dv.wk hT (by have:=hE.lt;lia)) hE.good;obtain⟨W',hW',hle⟩:=xV Dv hT h hA hW;cases hW' with
 |cons hm h=>
  cases h;have hq:=hA.name _ _ Z;have hr:=YHi (Dl:=Dl) (rk:=rk) Dv.ns (Dv.nm _ _ _ (Dv.wk.sub _ hm) hq) 0 cs.length;have R:hV Dl rk Ns (.part p 0 cs.length)=if 0=cs.length then e0 (fT Dl rk Ns p 0 cs.length) else 77*(cs.length-0)+9*fT Dl rk Ns p 0 cs.length-50:=if_neg (by rw[hq];decide)
  have:=(lf<|fT Dl rk Ns p 0 cs.length).2;split at R <;> lia
end
def top(i:Nat):Stmt:=PySem.Challenge.pw_forestread_k50_rows_rise.main.body.getD i<|.Pass ⟨0,0,0,0⟩
abbrev YCZ:Stmt:=top 14
abbrev J4:Stmt:=top 15
abbrev YDo:Stmt:=top 16
abbrev YDp:Stmt:=top 17
abbrev YDq:Stmt:=top 18
abbrev YCa:Stmt:=top 24
abbrev YBo:Stmt:=top 25
abbrev YDr:Stmt:=top 26
abbrev YA6:Stmt:=top 27
abbrev YDs:Stmt:=top 28
structure Adr where
 Wood:Addr
 Walk:Addr
 Rests:Addr
 Many:Addr
 NoGrammar:Addr
 NoText:Addr
 Growth:Addr
 Endless:Addr
 NoRow:Addr
 TooGreat:Addr
 none_:Addr
structure Txt(K:W.Frag)(mg:Str->Option Value)(C:Adr):Prop where
 aD:mg "isinstance"=none
 kO:mg "int"=none
 lZ:mg "bool"=none
 uc:mg "ord"=none
 l_:mg "str"=none
 aF:mg "len"=none
 kW:mg "all"=none
 jl:mg "tuple"=none
 eZ:mg "list"=none
 iG:mg "enumerate"=none
 bH:mg "range"=none
 mj:mg "sorted"=none
 qg:mg "min"=none
 qi:mg "sum"=none
 iM:mg "reversed"=none
 dR:∃t,mg "FIRST_CODE"=some (.int 32 t)
 e_:∃t,mg "LAST_CODE"=some (.int 126 t)
 c7:∃t,mg "PERCENT_CODE"=some (.int 37 t)
 dh:∃t,mg "MOST_LETTERS"=some (.int 8 t)
 dU:∃t,mg "MOST_PARTS"=some (.int 6 t)
 dW:∃t,mg "MOST_RULES"=some (.int 60 t)
 dX:∃t,mg "MOST_SIGNS"=some (.int 60 t)
 dq:∃t,mg "MOST_NUMBERS"=some (.int 1000 t)
 qQ:mg "Wood"=some (.ref C.Wood)
 qU:mg "Walk"=some (.ref C.Walk)
 nW:mg "Rests"=some (.ref C.Rests)
 jW:mg "Many"=some (.ref C.Many)
 jE:mg "NoGrammar"=some (.ref C.NoGrammar)
 mq:mg "NoText"=some (.ref C.NoText)
 my:mg "Growth"=some (.ref C.Growth)
 jh:mg "Endless"=some (.ref C.Endless)
 nY:mg "NoRow"=some (.ref C.NoRow)
 jX:mg "TooGreat"=some (.ref C.TooGreat)
 jF:AO K C.NoGrammar
 mz:AO K C.NoText
 lu:AO K C.Endless
 nZ:AO K C.NoRow
 jY:AO K C.TooGreat
 aj:g9 K C.Growth
 ak:g9 K C.Wood
 aq:g9 K C.Walk
 bK:g9 K C.Many
 au:g9 K C.Rests
 eX:ZA K C.Growth aw
 aG:ZA K C.Growth aI
 bL:ZA K C.Growth aT
 aK:ZA K C.Growth bv
 bM:ZA K C.Growth bS
 cM:ZA K C.Growth ck
 du:ZA K C.Growth cb
 eY:ZA K C.Wood bi
 aV:ZA K C.Wood aw
 bf:ZA K C.Wood bE
 dY:ZA K C.Wood cb
 gP:ZA K C.Wood bq
 bN:ZA K C.Wood cc
 aY:ZA K C.Walk dS
 aM:ZA K C.Walk "path"
 cg:ZA K C.Walk dr
 gQ:ZA K C.Walk bp
 dZ:ZA K C.Walk "left"
 bC:ZA K C.Walk "leading"
 cI:ZA K C.Walk "met"
 cj:ZA K C.Rests aw
 aB:ZA K C.Rests aS
 cu:ZA K C.Rests br
 dN:ZA K C.Rests bi
 cN:ZA K C.Rests cw
 jm:Mk0 K C.Many
 xEE:PySem.W.exmOne K (.ref C.Endless) (.ref C.Endless)=some true
theorem YF3:(["letter"]:J av).Nodup:=by decide+kernel
theorem YIw:([cv]:J av).Nodup:=by decide+kernel
theorem Cz{α:Type}:∀{l:J α},l.length=3->∃a b c,l=[a,b,c]
 |[a,b,c],_=>⟨a,b,c,Z⟩
theorem YIx:YJ [ba] [ba]<|YG YCZ:=eQ
theorem YIy(T:Txt K mg C):Gd P w K mg bZ 1 "is_whole" "is_whole" YCZ [ba]<|X4 J1:=by
 refine eT YIx λH Q E hr h=>?_;obtain⟨x,d,rfl,den,sh,hp,q⟩:=h;refine⟨_,(YD<|YM<|XF (Yo (Z2 K rfl) (by rfl) T.aD YO7<|YI (S 0)<|bB<|Jv (v:=.ty "int") (by rfl) T.kO YP0 rfl)<|Xw<|YMZ<|Yo (Z2 K rfl) (by rfl) T.aD YO7<|YI (S 0)<|bB<|Jv (v:=.ty "bool") (by rfl) T.lZ PyProof.Rows.Boot.«bool» rfl),?_⟩;refine⟨_,Z,_,_,_,_,_,Z,den.ty,Z,YKo d,_,Z,?_⟩;refine J2 (g:=!YHW d) (λ_ Dt hR=>⟨_,Z,_,_,_,_,_,Z,den.ty,Z,YIS d,_,Z,hR⟩) ?_;cases d <;> exact q
theorem X9:YJ ["sign","code"] ["sign"]<|YG J4:=eQ
theorem YCb(T:Txt K mg C):Gd P w K mg bZ 1 fu fu J4 ["sign"]<|YFB:=by
 obtain⟨n_,dR⟩:=T.dR;obtain⟨qj,e_⟩:=T.e_;obtain⟨mC,c7⟩:=T.c7;refine eT X9 λH Q E hr h=>?_;obtain⟨c,rfl,q⟩:=h;refine⟨_,(YE (c9 1 X9<|Yo YMk (by rfl) T.uc PyProof.Rows.Boot.«ord»<|bB<|S 0)
  (YD<|YM<|XF (YCq kG kG (vb (v:=.int 32) (by rfl) dR ⟨_,Z⟩) (S 1)<|vb (v:=.int 126) (by rfl) e_ ⟨_,Z⟩)<|Xw<|Jf mP (S 1) (vb (v:=.int 37) (by rfl) c7 ⟨_,Z⟩)<|YU _)),?_⟩
 refine⟨_,Z,_,Z,Z,?_⟩;refine⟨_,Z,_,_,Z,Z,_,Z,?_⟩;have ec:(((⟨#[c]⟩:av).cps.getD 0 0:Nat):Int)=(c:Int):=rfl;rw[ec];refine gu (λh1=>?_) λh1=>?_;refine⟨_,_,Z,Z,_,Z,?_⟩;refine gu (λh2=>?_) λh2=>?_;refine⟨_,Z,Z,?_⟩;have e:(!decide (V.int (c:Int)=V.int 37))=good c:=by
  simp only[fQ]at h1 h2;unfold good;have a1:32<=c:=by lia
  have a2:c<=126:=by lia
  rw[de a1,de a2];by_cases h3:c=37;subst h3;rfl;rw[dy h3,dy<|λz=>h3 (by have:=V.int.inj z;lia)];rfl
 rw[e];exact q;have e:good c=false:=by
  simp only[fQ]at h2;unfold good;rw[dy (show ¬c<=126 by lia)];simp
 rw[e]at q;exact q;refine⟨_,Z,Yw ?_⟩;have e:good c=false:=by
  simp only[fQ]at h1;unfold good;rw[dy (show ¬32<=c by lia)];simp
 rw[e]at q;exact q
theorem ox(z:av):decide (V.str ⟨#[z.cps.getD 0 0]⟩=V.str "'")=decide (z.cps.getD 0 0=39):=by
 by_cases h:z.cps.getD 0 0=39;rw[h];decide+kernel;rw[dy h,dy];intro e;apply h;have e6:(({ cps:=#[z.cps.getD 0 0] }:av)).cps.getD 0 0=(("'":av)).cps.getD 0 0:=fZ (λs:av=>s.cps.getD 0 0)<|V.str.inj e;exact(show z.cps.getD 0 0=(({ cps:=#[z.cps.getD 0 0] }:av)).cps.getD 0 0 from Z).trans<|e6.trans (by decide+kernel)
theorem YKI:YJ [ba] [ba]<|YG YDo:=eQ
theorem YKJ(T:Txt K mg C)(aO:ZK P w K mg bZ 1 fu ["sign"]<|YFB):Gd P w K mg bZ 2 "is_sign" "is_sign" YDo [ba]<|X4 CB:=by
 refine eT YKI λH Q E hr h=>?_;obtain⟨x,d,rfl,den,sh,hp,q⟩:=h;refine⟨_,(YD<|YM<|XF (Yo (Z2 K rfl) (by rfl) T.aD YO7<|YI (S 0)<|bB<|Jv (v:=.ty "str") (by rfl) T.l_ PyProof.Rows.Boot.«str» rfl)<|XF (Jf Xm (Yo JS (by rfl) T.aF YPV<|bB<|S 0) YC<|YU _)<|XF (Jf Xm (XY Jl (S 0) YC<|λ_ _=>rfl) Zf<|YU _)<|Xw<|eW aO hr YQ<|bB<|XY Jl (S 0) YC<|λ_ _=>rfl),?_⟩;refine⟨_,Z,_,_,_,_,_,Z,den.ty,Z,YHX d,_,Z,?_⟩;cases d with
 |str z=>
  have ex:=den.to_str;subst ex;have hz:=YCP sh;have ev:CB (.str z)=(z.cps.size==2&&z.cps[0]?==some 39&&good (z.cps.getD 1 0)):=rfl;refine ZC ?_;refine⟨_,Z,z,Z,hz,Z,_,Z,?_⟩;refine J2 (g:=decide (z.cps.getD 0 0=39)&&good (z.cps.getD 1 0)) (λh2 Dt hR=>?_) ?_;have hs:z.cps.size=2:=by
   have e:=V.int.inj<|fF h2;rw[X3]at e;lia
  have g0:z.cps.toList[0]?=some (z.cps.getD 0 0):=by
   rw[YPX];simp[hs]
  have g1:z.cps.toList[1]?=some (z.cps.getD 1 0):=by
   rw[YPX];simp[hs]
  refine⟨_,Z,z,0,_,Z,Z,hz,Y2 (j:=0) g0,Z,_,Z,?_⟩;rw[ox];exact J2 (g:=good<|z.cps.getD 1 0) (λ_ Dt hR=>⟨_,Z,z,1,_,Z,Z,hz,Y2 (j:=1) g1,_,Z,hR⟩) hR;have e2:(decide (V.int (z.length:Int)=V.int 2)&&(decide (z.cps.getD 0 0=39)&&good (z.cps.getD 1 0)))=CB (.str z):=by
   rw[ev,X3,Bool.and_assoc];by_cases h2:z.cps.size=2;have g0:z.cps[0]?=some (z.cps.getD 0 0):=by simp[h2]
   have e4:(some (z.cps.getD 0 0)==some 39)=decide (z.cps.getD 0 0=39):=by
    rw[YPU];simp
   rw[g0,e4];congr 1;rw[h2];decide;rw[dy<|λe=>h2 (by have:=V.int.inj e;lia),beq_eq_false_iff_ne.mpr h2];rfl
  rw[e2];exact q
 |_=>exact Yw q
theorem YKK:YJ [ba] [ba]<|YG YDp:=eQ
theorem YKL(T:Txt K mg C):Gd P w K mg bZ 1 "is_name" "is_name" YDp [ba]<|X4 fw:=by
 obtain⟨mD,dh⟩:=T.dh;refine eT YKK λH Q E hr h=>?_;obtain⟨x,d,rfl,den,sh,hp,q⟩:=h;refine⟨_,(YE (Yj (JW<|JI<|Yo (Z2 K rfl) (by rfl) T.aD YO7<|YI (S 0)<|bB<|Jv (v:=.ty "str") (by rfl) T.l_ PyProof.Rows.Boot.«str» rfl) (YD<|YM Jq) YR)
  (YD<|YM<|XF (YCq kG kG YC (Yo JS (by rfl) T.aF YPV<|bB<|S 0)<|vb (v:=.int 8) (by rfl) dh ⟨_,Z⟩)<|Xw<|YEi<|Yo (YB1 K rfl rfl) (by rfl) T.kW YP1<|bB<|XV (N:=["letter"]) (ρ:=[none]) (cl:=[]) rfl vx (YM7<|S 0) (λ_ _ _ _ _=>(Z8 (i:=0) YF3 rfl (Or.inl rfl)<|.inr rfl)) (λ_ _ _ _ _=>J0)<|λ_ _ _ _ _=>(YCq YGa YGa Zf (S 0) Zf))),?_⟩
 refine⟨_,Z,_,_,_,_,_,Z,den.ty,Z,YHX d,_,Z,?_⟩;cases d with
 |str z=>
  have ex:=den.to_str;subst ex;have hz:=YCP sh;have ev:fw (.str z)=(decide (1<=z.cps.size)&&decide (z.cps.size<=8)&&z.cps.toList.all Zw):=rfl;refine Yw ?_;refine⟨_,Z,z,Z,hz,_,_,Z,Z,_,Z,?_⟩;refine gu (λh1=>?_) λh1=>?_;refine⟨_,_,Z,Z,_,Z,?_⟩;have h1':1<=z.cps.size:=by have:=fF h1;rw[X3]at this;lia
  refine gu (λh2=>?_) λh2=>?_;have h2':z.cps.size<=8:=by have:=fF h2;rw[X3]at this;lia
  refine⟨hp,_,Z,z,Z,λl hl=>?_⟩;refine YIM (τ:=k6 [none] _) (λc=>.bl<|Zw c) hl YPv hz (λτ' c H' Dt hτ _ hR=>?_) ?_;refine⟨_,hτ,_,_,Z,Z,_,Z,?_⟩;rw[le_A];refine gu (λh3=>?_) λh3=>?_;refine⟨_,_,Z,Z,?_⟩;rw[le_Z];have e5:Zw c=decide (c<=90):=by unfold Zw;rw[h3];rfl
  rw[e5]at hR;exact hR;have e5:Zw c=false:=by
   unfold Zw;cases hh:decide (65<=c) with
   |false=>rfl
   |true=>exact absurd hh h3
  rw[e5]at hR;exact hR;refine⟨l,z.cps.toList.map Zw,Z,.inl<|.inl ?_,λb o eb=>?_,?_⟩;rw[YA,YNL];rw[YB<|YS eb hl];exact eb;rw[YA1];rw[ev,de h1',de h2']at q;simpa using q;have h2':¬z.cps.size<=8:=λz'=>h2<|de (by rw[X3];lia);rw[ev,dy h2']at q;simpa using q;have h1':¬1<=z.cps.size:=λz'=>h1<|de (by rw[X3];lia);refine⟨_,Z,Yw ?_⟩;rw[ev,dy h1']at q;simpa using q
 |_=>exact ZC q
theorem YKM:YJ [ba] [ba]<|YG YDq:=eQ
theorem YKN(T:Txt K mg C)(ik:ZK P w K mg bZ 2 "is_sign" [ba]<|X4 CB)(cX:ZK P w K mg bZ 1 "is_name" [ba]<|X4 fw):Gd P w K mg bZ 3 "is_part" "is_part" YDq [ba]<|X4 Xo:=by
 refine eT YKM λH Q E hr h=>?_;obtain⟨x,d,rfl,den,sh,hp,q⟩:=h;refine⟨_,(YD<|YM<|CY (eW ik hr YQ<|bB<|S 0)<|Xw<|eW cX hr YQ<|bB<|S 0),?_⟩;refine⟨_,Z,x,d,Z,den,sh,hp,_,Z,?_⟩;exact mT (g:=fw d) (λ_ Dt hR=>⟨_,Z,x,d,Z,den,sh,hp,hR⟩) q
theorem YIz:YJ [ba] [ba]<|YG YCa:=eQ
theorem YI0(T:Txt K mg C)(cB:ZK P w K mg bZ 1 "is_whole" [ba]<|X4 J1):Gd P w K mg bZ 2 "is_worth" "is_worth" YCa [ba]<|X4 X1:=by
 refine eT YIz λH Q E hr h=>?_;obtain⟨x,d,rfl,den,sh,hp,q⟩:=h;refine⟨_,(YD<|YM<|XF (eW cB hr YQ<|bB<|S 0)<|Xw<|YCq kG kG YC (S 0)<|YN YHK YC YC),?_⟩;refine⟨_,Z,x,d,Z,den,sh,hp,_,Z,?_⟩;cases d with
 |int i=>
  have ex:=den.to_int;subst ex;have ev:X1 (.int i)=(decide (0<=i)&&decide (i<=10^60)):=rfl;refine ZC ?_;refine⟨_,Z,_,_,Z,Z,_,Z,?_⟩;refine gu (λh1=>?_) λh1=>?_;refine⟨_,_,Z,Z,⟨by decide,by decide,by decide⟩,_,_,Z,Z,?_⟩;rw[ev,h1]at q;exact q;have h1':decide (0<=i)=false:=by
   cases hh:decide (0<=i) with
   |false=>rfl
   |true=>exact absurd hh h1
  rw[ev,h1']at q;exact q
 |_=>exact Yw q
theorem YHk:YJ [ba] [ba]<|YG YBo:=eQ
theorem YHl(T:Txt K mg C)(il:ZK P w K mg bZ 3 "is_part" [ba]<|X4 Xo):Gd P w K mg bZ 4 "are_parts" "are_parts" YBo [ba]<|X4 Xt:=by
 obtain⟨ph,dU⟩:=T.dU;refine eT YHk λH Q E hr h=>?_;obtain⟨x,d,rfl,den,sh,hp,q⟩:=h;refine⟨_,(YE (Yj (JW<|JI<|Yo (Z2 K rfl) (by rfl) T.aD YO7<|YI (S 0)<|bB<|Jv (v:=.ty "tuple") (by rfl) T.jl YQF rfl) (YD<|YM Jq) YR)
  (YD<|YM<|XF (Jf kG (fL K T.aF<|S 0) (vb (v:=.int 6) (by rfl) dU ⟨_,Z⟩)<|YU _)<|Xw<|YEi<|Yo (YB1 K rfl rfl) (by rfl) T.kW YP1<|bB<|XV (N:=[cv]) (ρ:=[none]) (cl:=[]) rfl vx (CV K rfl<|S 0) (λ_ _ _ _ _=>(Z8 (i:=0) YIw rfl (Or.inl rfl)<|.inr rfl)) (λ_ _ _ _ _=>J0)<|λ_ _ _ _ _=>(eW il hr YQ<|bB<|S 0))),?_⟩
 refine⟨_,Z,_,_,_,_,_,Z,den.ty,Z,YGe d,_,Z,?_⟩;cases d with
 |tup ds=>
  obtain⟨a,xs,rfl,ha,hds⟩:=den.to_tup;have hl:xs.length=ds.length:=hds.len;refine Yw ?_;refine⟨_,Z,a,xs,Z,.inr<|cy.of ha,_,_,Z,Z,_,Z,?_⟩;have shS:X2 ds=true:=by unfold D.short at sh;exact sh
  have R:decide ((xs.length:Int)<=6)=decide (ds.length<=6):=by rw[hl];congr 1;exact propext ⟨λh=>by lia,λh=>by lia⟩
  rw[R];refine J2 (g:=ds.all Xo) (λh1 Dt hR=>?_) q;have h1':ds.length<=6:=fF h1;refine⟨hp,_,Z,a,Z,⟨xs,cy.of ha⟩,λl nH=>?_⟩;refine XI (n:=xs.length) 0 (λk y _=>∃d,ds[k]?=some d/\y=.bl (Xo d)) (YB2<|cy.of ha) (λ_ _ _ _ _ h=>h) hp nH YPv (YK (by lia)) (λτ'=>0<τ'.length) YPv (λτ' v h=>by rw[YQH];exact h) ?_ ?_;intro τ' k y H' Dt _ hτ Dp hk hs hp' pq hR;obtain⟨d,hd,dn⟩:=hds.get Dp;exact⟨_,hτ,y,d,Z,dn.same hs,XJ shS<|YOc hd,hp',hR _ _ (YF.refl _) hp' ⟨d,hd,Z⟩⟩;intro ys H' hy hP hs hp' hl';have e2:ys=(ds.map Xo).map V.bl:=YNM (by rw[hy,hl]) hP;refine⟨l,ds.map Xo,Z,.inl<|.inl (by rw[hl',e2]),hs,?_⟩;rw[YA1];exact hR
 |_=>exact ZC q
theorem YKO:YJ [ba] [ba]<|YG YDr:=eQ
theorem YKP(T:Txt K mg C)(cX:ZK P w K mg bZ 1 "is_name" [ba]<|X4 fw)(gf:ZK P w K mg bZ 4 "are_parts" [ba]<|X4 Xt)(gF:ZK P w K mg bZ 2 "is_worth" [ba]<|X4 X1):Gd P w K mg bZ 5 "is_rule" "is_rule" YDr [ba]<|X4 JU:=by
 refine eT YKO λH Q E hr h=>?_;obtain⟨x,d,rfl,den,sh,hp,q⟩:=h;refine⟨_,(YE (Yj (PW.pt<|xt (JW<|JI<|Yo (Z2 K rfl) (by rfl) T.aD YO7<|YI (S 0)<|bB<|Jv (v:=.ty "tuple") (by rfl) T.jl YQF rfl)<|AQ<|YT mP (fL K T.aF<|S 0) YC<|YU _) (YD<|YM Jq) YR)
  (YD<|YM<|XF (eW cX hr YQ<|bB<|eR K (S 0) YC)<|XF (eW gf hr YQ<|bB<|eR K (S 0) YC)<|Xw<|eW gF hr YQ<|bB<|eR K (S 0) YC)),?_⟩
 refine⟨_,Z,_,_,_,_,_,Z,den.ty,Z,YGe d,_,Z,?_⟩;cases d with
 |tup ds=>
  obtain⟨a,xs,rfl,ha,hds⟩:=den.to_tup;have hl:xs.length=ds.length:=hds.len;refine Yw ?_;refine⟨_,Z,a,xs,Z,.inr<|cy.of ha,Z,_,Z,?_⟩;have shS:X2 ds=true:=by unfold D.short at sh;exact sh
  by_cases h3:ds.length=3;obtain⟨d0,d1,d2,rfl⟩:=Cz h3;obtain⟨x0,x1,x2,rfl⟩:=Cz hl;have n0:=(hds.get (i:=0) (v:=x0) Z);have n1:=(hds.get (i:=1) (v:=x1) Z);have n2:=(hds.get (i:=2) (v:=x2) Z);obtain⟨_,e0,n0⟩:=n0;obtain⟨_,R,n1⟩:=n1;obtain⟨_,e2,n2⟩:=n2;cases e0;cases R;cases e2;have sq:cy K H a [x0,x1,x2]:=cy.of ha;refine Yw ?_;refine⟨_,Z,a,_,0,x0,Z,Z,sq,Z,x0,d0,Z,n0,XJ shS (by simp),hp,_,Z,?_⟩;refine J2 (g:=Xt d1&&X1 d2) (λ_ Dt hR=>?_) q;refine⟨_,Z,a,_,1,x1,Z,Z,sq,Z,x1,d1,Z,n1,XJ shS (by simp),hp,_,Z,?_⟩;exact J2 (g:=X1 d2) (λ_ Dt hR=>⟨_,Z,a,_,2,x2,Z,Z,sq,Z,x2,d2,Z,n2,XJ shS (by simp),hp,hR⟩) hR;have R:(!decide (V.int (xs.length:Int)=V.int 3))=true:=by
   rw[dy];rfl;intro e;have:=V.int.inj e;lia
  rw[R];refine ZC ?_;have e2:JU (.tup ds)=false:=by
   match ds,h3 with
   |[],_=>rfl
   |[_],_=>rfl
   |[_,_],_=>rfl
   |[_,_,_],h=>exact absurd Z h
   |_::_::_::_::_,_=>rfl
  rw[e2]at q;exact q
 |_=>exact ZC q
theorem YI1:(["rule"]:J av).Nodup:=by decide+kernel
theorem YF4:YJ [ba] [ba]<|YG YA6:=eQ
theorem YF5(T:Txt K mg C)(ir:ZK P w K mg bZ 5 "is_rule" [ba]<|X4 JU):Gd P w K mg bZ 6 "is_grammar" "is_grammar" YA6 [ba]<|X4 Jh:=by
 obtain⟨pA,dW⟩:=T.dW;refine eT YF4 λH Q E hr h=>?_;obtain⟨x,d,rfl,den,sh,hp,q⟩:=h;refine⟨_,(YE (Yj (JW<|JI<|Yo (Z2 K rfl) (by rfl) T.aD YO7<|YI (S 0)<|bB<|Jv (v:=.ty "list") (by rfl) T.eZ YPL rfl) (YD<|YM Jq) YR)
  (YD<|YM<|XF (Jf kG (fL K T.aF<|S 0) (vb (v:=.int 60) (by rfl) dW ⟨_,Z⟩)<|YU _)<|Xw<|YEi<|Yo (YB1 K rfl rfl) (by rfl) T.kW YP1<|bB<|XV (N:=["rule"]) (ρ:=[none]) (cl:=[]) rfl vx (ZH K rfl<|S 0) (λ_ _ _ _ _=>(Z8 (i:=0) YI1 rfl (Or.inl rfl)<|.inr rfl)) (λ_ _ _ _ _=>J0)<|λ_ _ _ _ _=>(eW ir hr YQ<|bB<|S 0))),?_⟩
 refine⟨_,Z,_,_,_,_,_,Z,den.ty,Z,YIT d,_,Z,?_⟩;cases d with
 |lst ds=>
  obtain⟨a,xs,rfl,ha,hds⟩:=den.to_lst;have hl:xs.length=ds.length:=hds.len;have sq:aX K H a xs:=.inl ha;refine Yw ?_;refine⟨_,Z,a,xs,Z,.inl sq,_,_,Z,Z,_,Z,?_⟩;have shS:X2 ds=true:=by unfold D.short at sh;exact sh
  have R:decide ((xs.length:Int)<=60)=decide (ds.length<=60):=by rw[hl];congr 1;exact propext ⟨λh=>by lia,λh=>by lia⟩
  rw[R];refine J2 (g:=ds.all JU) (λh1 Dt hR=>?_) q;have h1':ds.length<=60:=fF h1;refine⟨hp,_,Z,a,Z,⟨xs,sq⟩,λl nH=>?_⟩;refine XI (n:=xs.length) 0 (λk y _=>∃d,ds[k]?=some d/\y=.bl (JU d)) (X0 sq) (λ_ _ _ _ _ h=>h) hp nH YPv (YK (by lia)) (λτ'=>0<τ'.length) YPv (λτ' v h=>by rw[YQH];exact h) ?_ ?_;intro τ' k y H' Dt _ hτ Dp hk hs hp' pq hR;obtain⟨d,hd,dn⟩:=hds.get Dp;exact⟨_,hτ,y,d,Z,dn.same hs,XJ shS<|YOc hd,hp',hR _ _ (YF.refl _) hp' ⟨d,hd,Z⟩⟩;intro ys H' hy hP hs hp' hl';have e2:ys=(ds.map JU).map V.bl:=YNM (by rw[hy,hl]) hP;refine⟨l,ds.map JU,Z,.inl<|.inl (by rw[hl',e2]),hs,?_⟩;rw[YA1];exact hR
 |_=>exact ZC q
theorem YKQ:YJ [ba] [ba]<|YG YDs:=eQ
theorem YKR(T:Txt K mg C)(d_:ZK P w K mg bZ 6 "is_grammar" [ba]<|X4 Jh):Gd P w K mg (fM P w) 7 "checked" "checked" YDs [ba]<|YDf C.NoGrammar:=by
 refine iN YKQ λH Q E hr h=>?_;obtain⟨x,d,rfl,den,sh,hp,q1,q2⟩:=h;refine⟨_,(YE (Yj (JW<|JI<|eW d_ hr YQ<|bB<|S 0) (YD<|Di JE T.jF rfl (by rfl) T.jE<|bB Zf) YR)
  (YD<|YM<|JR (XW K rfl) (by rfl) T.eZ YPL<|bB<|S 0)),?_⟩
 refine⟨_,Z,x,d,Z,den,sh,hp,_,Z,?_⟩;refine gu (λhi=>?_) λhi=>?_;exact⟨YK (by decide),q2<|YCQ hi⟩;have e:=YDg hi;obtain⟨g,rfl,hg⟩:=YKq e;obtain⟨a,xs,rfl,ha,hds⟩:=YNN den;exact⟨_,Z,a,xs,Z,.inl<|.inl ha,λl hl=>q1 e l xs _ Z hds hl⟩
abbrev YDt:Stmt:=top 19
abbrev YAA:Stmt:=top 20
theorem YI2:(["sign"]:J av).Nodup:=by decide+kernel
theorem YKS:YJ [ba] [ba]<|YG YDt:=eQ
theorem YKT(T:Txt K mg C)(aO:ZK P w K mg bZ 1 fu ["sign"]<|YFB):Gd P w K mg bZ 2 "is_text" "is_text" YDt [ba]<|X4 sv:=by
 obtain⟨pB,dX⟩:=T.dX;refine eT YKS λH Q E hr h=>?_;obtain⟨x,d,rfl,den,sh,hp,q⟩:=h;refine⟨_,(YE (Yj (JW<|JI<|Yo (Z2 K rfl) (by rfl) T.aD YO7<|YI (S 0)<|bB<|Jv (v:=.ty "str") (by rfl) T.l_ PyProof.Rows.Boot.«str» rfl) (YD<|YM Jq) YR)
  (YD<|YM<|XF (Jf kG (Yo JS (by rfl) T.aF YPV<|bB<|S 0) (vb (v:=.int 60) (by rfl) dX ⟨_,Z⟩)<|YU _)<|Xw<|YEi<|Yo (YB1 K rfl rfl) (by rfl) T.kW YP1<|bB<|XV (N:=["sign"]) (ρ:=[none]) (cl:=[]) rfl vx (YM7<|S 0) (λ_ _ _ _ _=>(Z8 (i:=0) YI2 rfl (Or.inl rfl)<|.inr rfl)) (λ_ _ _ _ _=>J0)<|λ_ _ _ _ _=>(eW aO hr YQ<|bB<|S 0))),?_⟩
 refine⟨_,Z,_,_,_,_,_,Z,den.ty,Z,YHX d,_,Z,?_⟩;cases d with
 |str z=>
  have ex:=den.to_str;subst ex;have hz:=YCP sh;have ev:sv (.str z)=(decide (z.cps.size<=60)&&z.cps.toList.all good):=rfl;refine Yw ?_;refine⟨_,Z,z,Z,hz,_,_,Z,Z,_,Z,?_⟩;have R:decide ((z.length:Int)<=60)=decide (z.cps.size<=60):=by
   rw[X3];congr 1;exact propext ⟨λh=>by lia,λh=>by lia⟩
  rw[R];refine J2 (g:=z.cps.toList.all good) (λh1 Dt hR=>?_) (by rw[ev]at q;exact q);refine⟨hp,_,Z,z,Z,λl hl=>?_⟩;refine YIM (τ:=k6 [none] _) (λc=>.bl<|good c) hl YPv hz (λτ' c H' Dt hτ _ hR=>?_) ?_;exact⟨_,hτ,c,Z,hR⟩;refine⟨l,z.cps.toList.map good,Z,.inl<|.inl ?_,λb o eb=>?_,?_⟩;rw[YA,YNL];rw[YB<|YS eb hl];exact eb;rw[YA1];exact hR
 |_=>exact ZC q
theorem YER:YJ [ba] [ba]<|YG YAA:=eQ
theorem YES(T:Txt K mg C)(iu:ZK P w K mg bZ 2 "is_text" [ba]<|X4 sv):Gd P w K mg (fM P w) 3 fy fy YAA [ba]<|YCR C.NoText:=by
 refine iN YER λH Q E hr h=>?_;obtain⟨x,d,rfl,den,sh,hp,q1,q2⟩:=h;refine⟨_,(YE (Yj (JW<|JI<|eW iu hr YQ<|bB<|S 0) (YD<|Di JE T.mz rfl (by rfl) T.mq<|bB Zf) YR)
  (YD<|YM<|S 0)),?_⟩
 refine⟨_,Z,x,d,Z,den,sh,hp,_,Z,?_⟩;refine gu (λhi=>?_) λhi=>?_;exact⟨YK (by decide),q2<|YCQ hi⟩;have e:=YDg hi;cases d with
 |str z=>
  have ex:=den.to_str;subst ex;exact⟨_,Z,q1 z Z e⟩
 |_=>cases e
abbrev J5:Stmt:=Yv (top 31) 0
abbrev YAB:Stmt:=Yv (top 31) 1
abbrev JJ:Stmt:=Yv (top 31) 2
abbrev Jm:Stmt:=Yv (top 31) 3
abbrev Z5:Stmt:=Yv (top 31) 4
abbrev YAe:Stmt:=Yv (top 31) 5
abbrev YAf:Stmt:=Yv (top 31) 6
abbrev YCc:Stmt:=top 32
theorem YET:YJ [ay,aE] [ay,aE]<|YG YAB:=eQ
theorem YEU(T:Txt K mg C):Gd P w K mg bZ 1 "stand" "Growth.stand" YAB [ay,aE]<|YEn C.Growth:=by
 refine eT YET λH Q E hr h=>?_;obtain⟨H0,x,l,a1,a2,a3,a4,a5,t,own,hs,fresh,aa,hh,Dv,E,N,y,rfl,g,ht,hy,hl1,hl2,q⟩:=h;have hu:=ZZ hr;refine⟨_,(YE (Jg hu (eA K<|S 0) (S 1) (eA K<|S 0) Z)
  (YD<|Ya<|fX K (eA K<|S 0)<|S 1)),?_⟩
 obtain⟨B,U⟩:=g.x_;refine⟨_,Z,x,C.Growth,B,_,_,Z,U,T.aj,T.bL,Z,_,Z,x,C.Growth,B,_,_,Z,U,T.aj,T.aG,Z,_,Z,a1,_,Z,ib.t g.h1 ht (by unfold fY;rw[YOS,sizeLine_eq];lia),?_⟩;have ep:Yu (fY hs) (Yd y) (nV hh)=fY (hs++[(y,hh)]):=YNc hh hy;rw[ep];have g1:=g.set1<|hs++[(y,hh)];have gM:∀b o,b≠a1->H b=some o->upd H a1 (.dT<|fY<|hs++[(y,hh)]) b=some o:=λb o hb e=>by rw[YB hb];exact e
 revert g1 gM;generalize upd H a1 (.dT<|fY<|hs++[(y,hh)])=H1;intro g1 gM;obtain⟨B,U⟩:=g1.x_;obtain⟨ts,e2,n2⟩:=g1.h2;have eU:=gM _ _ (Yg ht g.h1 nofun) ht;refine⟨_,Z,x,C.Growth,B,_,_,Z,U,T.aj,T.aK,Z,.inl ⟨Z,_,aX.of e2⟩,_,Z,a2,_,_,Z,Z,e2,(by rw[YOS,n2.1,sizeLine_eq];lia),?_⟩;have e3:ts.map V.ref++[V.ref t]=(ts++[t]).map V.ref:=by rw[YOk];rfl
 rw[e3];exact q _ (g1.set2<|n2.snoc eU) λb o h1 h2 e=>by rw[YB h2];exact gM b o h1 e
theorem YA7:YJ [ay,aE] [ay,aE]<|YG JJ:=eQ
theorem YA8(T:Txt K mg C):Gd P w K mg bZ 1 "stand_higher" "Growth.stand_higher" JJ [ay,aE]<|YGl C.Growth:=by
 refine eT YA7 λH Q E hr h=>?_;obtain⟨H0,x,l,a1,a2,a3,a4,a5,t,own,hs,fresh,aa,hh,Dv,E,N,y,rfl,g,ht,hy,hl1,hl2,q⟩:=h;have hu:=ZZ hr;refine⟨_,(YE (Jg hu (eA K<|S 0) (S 1) (YN ZD (eA K<|S 0) YC) Z)
  (YD<|Ya<|fX K (eA K<|S 0)<|S 1)),?_⟩
 obtain⟨B,U⟩:=g.x_;refine⟨_,Z,x,C.Growth,B,_,_,Z,U,T.aj,T.bL,Z,_,_,Z,Z,_,Z,x,C.Growth,B,_,_,Z,U,T.aj,T.aG,Z,_,Z,a1,_,Z,ib.t g.h1 ht (by unfold fY;rw[YOS,sizeLine_eq];lia),?_⟩;have ep:Yu (fY hs) (Yd y) ((λi j:Int=>V.int<|i+j) (hh:Int) 1)=fY (hs++[(y,hh+1)]):=YNc (hh+1) hy;rw[ep];have g1:=g.set1<|hs++[(y,hh+1)];have gM:∀b o,b≠a1->H b=some o->upd H a1 (.dT<|fY<|hs++[(y,hh+1)]) b=some o:=λb o hb e=>by rw[YB hb];exact e
 revert g1 gM;generalize upd H a1 (.dT<|fY<|hs++[(y,hh+1)])=H1;intro g1 gM;obtain⟨B,U⟩:=g1.x_;obtain⟨ts,e2,n2⟩:=g1.h3;have eU:=gM _ _ (Yg ht g.h1 nofun) ht;refine⟨_,Z,x,C.Growth,B,_,_,Z,U,T.aj,T.bM,Z,.inl ⟨Z,_,aX.of e2⟩,_,Z,a3,_,_,Z,Z,e2,(by rw[YOS,n2.1,sizeLine_eq];lia),?_⟩;have e3:ts.map V.ref++[V.ref t]=(ts++[t]).map V.ref:=by rw[YOk];rfl
 rw[e3];exact q _ (g1.set3<|n2.snoc eU) λb o h1 h2 e=>by rw[YB h2];exact gM b o h1 e
theorem YCd:YJ [ay,aw] [ay,aw]<|YG J5:=eQ
theorem YCe(T:Txt K mg C):Gd P w K mg bZ 1 "__init__" "Growth.__init__" J5 [ay,aw]<|YK4 C.Growth:=by
 refine eT YCd λH Q E hr h=>?_;obtain⟨H0,x,l,B,rfl,U,hx0,s0,hp,q⟩:=h;refine gi ?_;refine⟨_,(YH ⟨(fO K (S 0)<|S 1)⟩
  (YH ⟨(fO K (S 0) Jz)⟩
  (YH ⟨(fO K (S 0) YC)⟩
  (YH ⟨(fO K (S 0)<|Y6 Yp)⟩
  (YH ⟨(fO K (S 0)<|Y6 Yp)⟩
  (YH ⟨(fO K (S 0) Jz)⟩
  (ZI ⟨(fO K (S 0) Jz)⟩))))))),?_⟩
 have eV:YF H0 H:=s0;have pl:∀b o,H b=some o->Y0 o=true:=hp;refine⟨_,Z,_,Z,x,C.Growth,B,_,Z,U,T.aj,T.eX,(show 0<1000 by decide),?_⟩;have ef:Yf aw (.ref l) ([]:J<|av×V)=([(aw,.ref l)]:J<|av×V):=rfl;rw[ef];have gM:YF H0<|upd H x<|.ins C.Growth B ([(aw,.ref l)]:J<|av×V):=eV.put hx0;have je:∀b o,upd H x (.ins C.Growth B ([(aw,.ref l)]:J<|av×V)) b=some o->Y0 o=true:=λb o e=>(Yl Z b o e).elim (pl b o) λz=>z;have hx1:upd H x (.ins C.Growth B ([(aw,.ref l)]:J<|av×V)) x=some (.ins C.Growth B ([(aw,.ref l)]:J<|av×V)):=YA;clear eV U pl;revert gM je hx1;generalize upd H x (.ins C.Growth B ([(aw,.ref l)]:J<|av×V))=G0b;intro eV pl U;refineλa1 rP=>?_;have kh:a1≠x:=λe=>by rw[e,U]at rP;cases rP
 have WM:H0 a1=none:=eV.free rP;have gM:YF H0<|upd G0b a1<|.dT []:=eV.trans<|YF.upd rP;have je:∀b o,upd G0b a1 (.dT []) b=some o->b=a1\/Y0 o=true:=λb o e=>by
  by_cases hb:b=a1;exact(.inl hb);rw[YB hb]at e;have z:=pl b o e;exact .inr z
 have hx1:upd G0b a1 (.dT []) x=some (.ins C.Growth B ([(aw,.ref l)]:J<|av×V)):=by rw[YB kh.symm];exact U
 have jy:upd G0b a1 (.dT []) a1=some (.dT []):=YA;clear eV U pl rP;revert gM je hx1 jy;generalize upd G0b a1 (.dT [])=G1a;intro eV pl U gw;refine⟨_,Z,x,C.Growth,B,_,Z,U,T.aj,T.aG,(show 1<1000 by decide),?_⟩;have ef:Yf aI (.ref a1) ([(aw,.ref l)]:J<|av×V)=([(aw,.ref l),(aI,.ref a1)]:J<|av×V):=rfl;rw[ef];have gM:YF H0<|upd G1a x<|.ins C.Growth B ([(aw,.ref l),(aI,.ref a1)]:J<|av×V):=eV.put hx0;have je:∀b o,upd G1a x (.ins C.Growth B ([(aw,.ref l),(aI,.ref a1)]:J<|av×V)) b=some o->b=a1\/Y0 o=true:=λb o e=>(Yl Z b o e).elim (pl b o) λz=>.inr<|z;have hx1:upd G1a x (.ins C.Growth B ([(aw,.ref l),(aI,.ref a1)]:J<|av×V)) x=some (.ins C.Growth B ([(aw,.ref l),(aI,.ref a1)]:J<|av×V)):=YA;have jy:upd G1a x (.ins C.Growth B ([(aw,.ref l),(aI,.ref a1)]:J<|av×V)) a1=some (.dT []):=by rw[YB kh];exact gw
 clear eV U pl gw;revert gM je hx1 jy;generalize upd G1a x (.ins C.Growth B ([(aw,.ref l),(aI,.ref a1)]:J<|av×V))=G1b;intro eV pl U gw;refine⟨_,Z,x,C.Growth,B,_,Z,U,T.aj,T.bL,(show 2<1000 by decide),?_⟩;have ef:Yf aT (.int 0) ([(aw,.ref l),(aI,.ref a1)]:J<|av×V)=([(aw,.ref l),(aI,.ref a1),(aT,nV 0)]:J<|av×V):=rfl;rw[ef];have gM:YF H0<|upd G1b x<|.ins C.Growth B ([(aw,.ref l),(aI,.ref a1),(aT,nV 0)]:J<|av×V):=eV.put hx0;have je:∀b o,upd G1b x (.ins C.Growth B ([(aw,.ref l),(aI,.ref a1),(aT,nV 0)]:J<|av×V)) b=some o->b=a1\/Y0 o=true:=λb o e=>(Yl Z b o e).elim (pl b o) λz=>.inr<|z;have hx1:upd G1b x (.ins C.Growth B ([(aw,.ref l),(aI,.ref a1),(aT,nV 0)]:J<|av×V)) x=some (.ins C.Growth B ([(aw,.ref l),(aI,.ref a1),(aT,nV 0)]:J<|av×V)):=YA;have jy:upd G1b x (.ins C.Growth B ([(aw,.ref l),(aI,.ref a1),(aT,nV 0)]:J<|av×V)) a1=some (.dT []):=by rw[YB kh];exact gw
 clear eV U pl gw;revert gM je hx1 jy;generalize upd G1b x (.ins C.Growth B ([(aw,.ref l),(aI,.ref a1),(aT,nV 0)]:J<|av×V))=G2b;intro eV pl U gw;refine⟨YOn _,λa2 pO=>?_⟩;have lB:a2≠x:=λe=>by rw[e,U]at pO;cases pO
 have WN:H0 a2=none:=eV.free pO;have na1a2:a1≠a2:=λe=>by rw[<-e,gw]at pO;cases pO
 have gM:YF H0<|upd G2b a2<|.lst []:=eV.trans<|YF.upd pO;have je:∀b o,upd G2b a2 (.lst []) b=some o->b=a1\/Y0 o=true:=λb o e=>(Yl Z b o e).elim (pl b o) λz=>.inr<|z;have hx1:upd G2b a2 (.lst []) x=some (.ins C.Growth B ([(aw,.ref l),(aI,.ref a1),(aT,nV 0)]:J<|av×V)):=by rw[YB lB.symm];exact U
 have jy:upd G2b a2 (.lst []) a1=some (.dT []):=by rw[YB na1a2];exact gw
 have lC:upd G2b a2 (.lst []) a2=some (.lst []):=YA;clear eV U pl gw pO;revert gM je hx1 jy lC;generalize upd G2b a2 (.lst [])=G3a;intro eV pl U gw i_;refine⟨_,Z,x,C.Growth,B,_,Z,U,T.aj,T.aK,(show 3<1000 by decide),?_⟩;have ef:Yf bv (.ref a2) ([(aw,.ref l),(aI,.ref a1),(aT,nV 0)]:J<|av×V)=([(aw,.ref l),(aI,.ref a1),(aT,nV 0),(bv,.ref a2)]:J<|av×V):=rfl;rw[ef];have gM:YF H0<|upd G3a x<|.ins C.Growth B ([(aw,.ref l),(aI,.ref a1),(aT,nV 0),(bv,.ref a2)]:J<|av×V):=eV.put hx0;have je:∀b o,upd G3a x (.ins C.Growth B ([(aw,.ref l),(aI,.ref a1),(aT,nV 0),(bv,.ref a2)]:J<|av×V)) b=some o->b=a1\/Y0 o=true:=λb o e=>(Yl Z b o e).elim (pl b o) λz=>.inr<|z;have hx1:upd G3a x (.ins C.Growth B ([(aw,.ref l),(aI,.ref a1),(aT,nV 0),(bv,.ref a2)]:J<|av×V)) x=some (.ins C.Growth B ([(aw,.ref l),(aI,.ref a1),(aT,nV 0),(bv,.ref a2)]:J<|av×V)):=YA;have jy:upd G3a x (.ins C.Growth B ([(aw,.ref l),(aI,.ref a1),(aT,nV 0),(bv,.ref a2)]:J<|av×V)) a1=some (.dT []):=by rw[YB kh];exact gw
 have lC:upd G3a x (.ins C.Growth B ([(aw,.ref l),(aI,.ref a1),(aT,nV 0),(bv,.ref a2)]:J<|av×V)) a2=some (.lst []):=by rw[YB lB];exact i_
 clear eV U pl gw i_;revert gM je hx1 jy lC;generalize upd G3a x (.ins C.Growth B ([(aw,.ref l),(aI,.ref a1),(aT,nV 0),(bv,.ref a2)]:J<|av×V))=G3b;intro eV pl U gw i_;refine⟨YOn _,λa3 m8=>?_⟩;have m9:a3≠x:=λe=>by rw[e,U]at m8;cases m8
 have WP:H0 a3=none:=eV.free m8;have na1a3:a1≠a3:=λe=>by rw[<-e,gw]at m8;cases m8
 have na2a3:a2≠a3:=λe=>by rw[<-e,i_]at m8;cases m8
 have gM:YF H0<|upd G3b a3<|.lst []:=eV.trans<|YF.upd m8;have je:∀b o,upd G3b a3 (.lst []) b=some o->b=a1\/Y0 o=true:=λb o e=>(Yl Z b o e).elim (pl b o) λz=>.inr<|z;have hx1:upd G3b a3 (.lst []) x=some (.ins C.Growth B ([(aw,.ref l),(aI,.ref a1),(aT,nV 0),(bv,.ref a2)]:J<|av×V)):=by rw[YB m9.symm];exact U
 have jy:upd G3b a3 (.lst []) a1=some (.dT []):=by rw[YB na1a3];exact gw
 have lC:upd G3b a3 (.lst []) a2=some (.lst []):=by rw[YB na2a3];exact i_
 have pP:upd G3b a3 (.lst []) a3=some (.lst []):=YA;clear eV U pl gw i_ m8;revert gM je hx1 jy lC pP;generalize upd G3b a3 (.lst [])=G4a;intro eV pl U gw i_ jO;refine⟨_,Z,x,C.Growth,B,_,Z,U,T.aj,T.bM,(show 4<1000 by decide),?_⟩;have ef:Yf bS (.ref a3) ([(aw,.ref l),(aI,.ref a1),(aT,nV 0),(bv,.ref a2)]:J<|av×V)=([(aw,.ref l),(aI,.ref a1),(aT,nV 0),(bv,.ref a2),(bS,.ref a3)]:J<|av×V):=rfl;rw[ef];have gM:YF H0<|upd G4a x<|.ins C.Growth B ([(aw,.ref l),(aI,.ref a1),(aT,nV 0),(bv,.ref a2),(bS,.ref a3)]:J<|av×V):=eV.put hx0;have je:∀b o,upd G4a x (.ins C.Growth B ([(aw,.ref l),(aI,.ref a1),(aT,nV 0),(bv,.ref a2),(bS,.ref a3)]:J<|av×V)) b=some o->b=a1\/Y0 o=true:=λb o e=>(Yl Z b o e).elim (pl b o) λz=>.inr<|z;have hx1:upd G4a x (.ins C.Growth B ([(aw,.ref l),(aI,.ref a1),(aT,nV 0),(bv,.ref a2),(bS,.ref a3)]:J<|av×V)) x=some (.ins C.Growth B ([(aw,.ref l),(aI,.ref a1),(aT,nV 0),(bv,.ref a2),(bS,.ref a3)]:J<|av×V)):=YA;have jy:upd G4a x (.ins C.Growth B ([(aw,.ref l),(aI,.ref a1),(aT,nV 0),(bv,.ref a2),(bS,.ref a3)]:J<|av×V)) a1=some (.dT []):=by rw[YB kh];exact gw
 have lC:upd G4a x (.ins C.Growth B ([(aw,.ref l),(aI,.ref a1),(aT,nV 0),(bv,.ref a2),(bS,.ref a3)]:J<|av×V)) a2=some (.lst []):=by rw[YB lB];exact i_
 have pP:upd G4a x (.ins C.Growth B ([(aw,.ref l),(aI,.ref a1),(aT,nV 0),(bv,.ref a2),(bS,.ref a3)]:J<|av×V)) a3=some (.lst []):=by rw[YB m9];exact jO
 clear eV U pl gw i_ jO;revert gM je hx1 jy lC pP;generalize upd G4a x (.ins C.Growth B ([(aw,.ref l),(aI,.ref a1),(aT,nV 0),(bv,.ref a2),(bS,.ref a3)]:J<|av×V))=G4b;intro eV pl U gw i_ jO;refineλa4 lD=>?_;have rQ:a4≠x:=λe=>by rw[e,U]at lD;cases lD
 have WQ:H0 a4=none:=eV.free lD;have na1a4:a1≠a4:=λe=>by rw[<-e,gw]at lD;cases lD
 have na2a4:a2≠a4:=λe=>by rw[<-e,i_]at lD;cases lD
 have na3a4:a3≠a4:=λe=>by rw[<-e,jO]at lD;cases lD
 have gM:YF H0<|upd G4b a4<|.dT []:=eV.trans<|YF.upd lD;have je:∀b o,upd G4b a4 (.dT []) b=some o->b=a1\/b=a4\/Y0 o=true:=λb o e=>by
  by_cases hb:b=a4;exact .inr<|(.inl hb);rw[YB hb]at e;have z:=pl b o e;rcases z with z|z
  exact(.inl z);exact .inr<|(.inr z)
 have hx1:upd G4b a4 (.dT []) x=some (.ins C.Growth B ([(aw,.ref l),(aI,.ref a1),(aT,nV 0),(bv,.ref a2),(bS,.ref a3)]:J<|av×V)):=by rw[YB rQ.symm];exact U
 have jy:upd G4b a4 (.dT []) a1=some (.dT []):=by rw[YB na1a4];exact gw
 have lC:upd G4b a4 (.dT []) a2=some (.lst []):=by rw[YB na2a4];exact i_
 have pP:upd G4b a4 (.dT []) a3=some (.lst []):=by rw[YB na3a4];exact jO
 have uL:upd G4b a4 (.dT []) a4=some (.dT []):=YA;clear eV U pl gw i_ jO lD;revert gM je hx1 jy lC pP uL;generalize upd G4b a4 (.dT [])=G5a;intro eV pl U gw i_ jO qu;refine⟨_,Z,x,C.Growth,B,_,Z,U,T.aj,T.cM,(show 5<1000 by decide),?_⟩;have ef:Yf ck (.ref a4) ([(aw,.ref l),(aI,.ref a1),(aT,nV 0),(bv,.ref a2),(bS,.ref a3)]:J<|av×V)=([(aw,.ref l),(aI,.ref a1),(aT,nV 0),(bv,.ref a2),(bS,.ref a3),(ck,.ref a4)]:J<|av×V):=rfl;rw[ef];have gM:YF H0<|upd G5a x<|.ins C.Growth B ([(aw,.ref l),(aI,.ref a1),(aT,nV 0),(bv,.ref a2),(bS,.ref a3),(ck,.ref a4)]:J<|av×V):=eV.put hx0;have je:∀b o,upd G5a x (.ins C.Growth B ([(aw,.ref l),(aI,.ref a1),(aT,nV 0),(bv,.ref a2),(bS,.ref a3),(ck,.ref a4)]:J<|av×V)) b=some o->b=a1\/b=a4\/Y0 o=true:=λb o e=>(Yl Z b o e).elim (pl b o) λz=>.inr<|.inr<|z;have hx1:upd G5a x (.ins C.Growth B ([(aw,.ref l),(aI,.ref a1),(aT,nV 0),(bv,.ref a2),(bS,.ref a3),(ck,.ref a4)]:J<|av×V)) x=some (.ins C.Growth B ([(aw,.ref l),(aI,.ref a1),(aT,nV 0),(bv,.ref a2),(bS,.ref a3),(ck,.ref a4)]:J<|av×V)):=YA;have jy:upd G5a x (.ins C.Growth B ([(aw,.ref l),(aI,.ref a1),(aT,nV 0),(bv,.ref a2),(bS,.ref a3),(ck,.ref a4)]:J<|av×V)) a1=some (.dT []):=by rw[YB kh];exact gw
 have lC:upd G5a x (.ins C.Growth B ([(aw,.ref l),(aI,.ref a1),(aT,nV 0),(bv,.ref a2),(bS,.ref a3),(ck,.ref a4)]:J<|av×V)) a2=some (.lst []):=by rw[YB lB];exact i_
 have pP:upd G5a x (.ins C.Growth B ([(aw,.ref l),(aI,.ref a1),(aT,nV 0),(bv,.ref a2),(bS,.ref a3),(ck,.ref a4)]:J<|av×V)) a3=some (.lst []):=by rw[YB m9];exact jO
 have uL:upd G5a x (.ins C.Growth B ([(aw,.ref l),(aI,.ref a1),(aT,nV 0),(bv,.ref a2),(bS,.ref a3),(ck,.ref a4)]:J<|av×V)) a4=some (.dT []):=by rw[YB rQ];exact qu
 clear eV U pl gw i_ jO qu;revert gM je hx1 jy lC pP uL;generalize upd G5a x (.ins C.Growth B ([(aw,.ref l),(aI,.ref a1),(aT,nV 0),(bv,.ref a2),(bS,.ref a3),(ck,.ref a4)]:J<|av×V))=G5b;intro eV pl U gw i_ jO qu;refineλa5 kj=>?_;have uM:a5≠x:=λe=>by rw[e,U]at kj;cases kj
 have WR:H0 a5=none:=eV.free kj;have na1a5:a1≠a5:=λe=>by rw[<-e,gw]at kj;cases kj
 have na2a5:a2≠a5:=λe=>by rw[<-e,i_]at kj;cases kj
 have na3a5:a3≠a5:=λe=>by rw[<-e,jO]at kj;cases kj
 have na4a5:a4≠a5:=λe=>by rw[<-e,qu]at kj;cases kj
 have gM:YF H0<|upd G5b a5<|.dT []:=eV.trans<|YF.upd kj;have je:∀b o,upd G5b a5 (.dT []) b=some o->b=a1\/b=a4\/b=a5\/Y0 o=true:=λb o e=>by
  by_cases hb:b=a5;exact .inr<|.inr<|(.inl hb);rw[YB hb]at e;have z:=pl b o e;rcases z with z|z|z
  exact(.inl z);exact .inr<|(.inl z);exact .inr<|.inr<|(.inr z)
 have hx1:upd G5b a5 (.dT []) x=some (.ins C.Growth B ([(aw,.ref l),(aI,.ref a1),(aT,nV 0),(bv,.ref a2),(bS,.ref a3),(ck,.ref a4)]:J<|av×V)):=by rw[YB uM.symm];exact U
 have jy:upd G5b a5 (.dT []) a1=some (.dT []):=by rw[YB na1a5];exact gw
 have lC:upd G5b a5 (.dT []) a2=some (.lst []):=by rw[YB na2a5];exact i_
 have pP:upd G5b a5 (.dT []) a3=some (.lst []):=by rw[YB na3a5];exact jO
 have uL:upd G5b a5 (.dT []) a4=some (.dT []):=by rw[YB na4a5];exact qu
 have WT:upd G5b a5 (.dT []) a5=some (.dT []):=YA;clear eV U pl gw i_ jO qu kj;revert gM je hx1 jy lC pP uL WT;generalize upd G5b a5 (.dT [])=G6a;intro eV pl U gw i_ jO qu WW;refine⟨_,Z,x,C.Growth,B,_,Z,U,T.aj,T.du,(show 6<1000 by decide),?_⟩;have ef:Yf cb (.ref a5) ([(aw,.ref l),(aI,.ref a1),(aT,nV 0),(bv,.ref a2),(bS,.ref a3),(ck,.ref a4)]:J<|av×V)=([(aw,.ref l),(aI,.ref a1),(aT,nV 0),(bv,.ref a2),(bS,.ref a3),(ck,.ref a4),(cb,.ref a5)]:J<|av×V):=rfl;rw[ef];have kp:∀b o,b≠x->G6a b=some o->upd G6a x (.ins C.Growth B ([(aw,.ref l),(aI,.ref a1),(aT,nV 0),(bv,.ref a2),(bS,.ref a3),(ck,.ref a4),(cb,.ref a5)]:J<|av×V)) b=some o:=λb o hb e=>by rw[YB hb];exact e
 refine q a1 a2 a3 a4 a5 (λb=>if b=a2 then some .fr else if b=a3 then some .hi else none) _ ⟨eV.put hx0,⟨B,YA⟩,kp _ _ kh gw,⟨[],kp _ _ lB i_,Z,λi t y e=>nomatch e⟩,⟨[],kp _ _ m9 jO,Z,λi t y e=>nomatch e⟩,⟨[],kp _ _ rQ qu,YOY _,λp k=>.inl ⟨Z,Z⟩⟩,⟨[],kp _ _ uM WW,YOY _,λp k=>.inl ⟨Z,Z⟩⟩,λp k=>⟨YOY _,YOY _⟩,if_pos Z,(by rw[if_neg na2a3.symm,if_pos Z]),λa t e=>?_,hx0,WM,WQ,WR,na1a4,na1a5,na4a5,λb o e=>(Yl Z b o e).elim (pl b o) λz=>.inr<|.inr<|.inr z⟩;by_cases h2:a=a2;subst h2;exact⟨WN,_,kp _ _ lB i_⟩;rw[if_neg h2]at e;by_cases h3:a=a3;subst h3;exact⟨WP,_,kp _ _ m9 jO⟩;rw[if_neg h3]at e;cases e
theorem YFW{t u:TS}{D:Ja}{σ:St}{H:L}(M:St->L->Prop)(Y1:∀σ' H',M σ' H'->u D σ' H')(h:(∀σ' H',M σ' H'->u D σ' H')->t { D with nx:=u D } σ H):sP t u D σ H:=h Y1
theorem YGx(E:g7)(p:av)(k j:Nat):addE E p k j p k=E p k++[j]:=if_pos ⟨Z,Z⟩
theorem YI3(h:∀p k,(E p k).length<=N)(p:av)(k j:Nat):∀p' k',(addE E p k j p' k').length<=N+1:=λp' k'=>by
 unfold addE;have:=h p' k';split;rw[YOU];show _+1<=_;lia;lia
theorem YGy(Dv:gX)(p:av)(k:Nat)(q:Nat×Nat×Nat):addB Dv p k q p k=Dv p k++[q]:=if_pos ⟨Z,Z⟩
theorem YI4(h:∀p k,(Dv p k).length<=N)(p:av)(k:Nat)(q:Nat×Nat×Nat):∀p' k',(addB Dv p k q p' k').length<=N+1:=λp' k'=>by
 unfold addB;have:=h p' k';split;rw[YOU];show _+1<=_;lia;lia
theorem Y9:YJ [ay,aE,"key","end",cf,"done","begin","longer"] [ay,aE]<|YG Jm:=eQ
theorem YCA(T:Txt K mg C)(aC:Y4 P w K mg bZ 1 C.Growth "stand" [ay,aE]<|YEn C.Growth):Gd P w K mg bZ 2 "meet_part" "Growth.meet_part" Jm [ay,aE]<|YK5 C.Growth:=by
 refine eT Y9 λH Q E hr h=>?_;obtain⟨H0,x,l,a1,a2,a3,a4,a5,t,xs,g,cs,own,hs,met,fresh,aa,hh,Dv,En,N,p,k,j,rfl,mi,q⟩:=h;have hu:=ZZ hr;refine gi ?_;refine⟨_,(YH ⟨(c9 2 Y9<|Y5<|YI (eR K (S 1) YC)<|bB<|eR K (S 1) YC)⟩
  (YH ⟨(c9 3 Y9<|eR K (S 1) YC)⟩
  (YH ⟨(Ya<|fX K (YC5 hu (eA K<|S 0) (S 2) (Y6 Yp) ⟨Z,Z,Z,Z⟩)<|S 3)⟩
  (ZI ⟨(fP (ZH K rfl<|CO hu (eA K<|S 0) (S 2) (Y6 Yp) ⟨Z,Z,Z,Z⟩) (Dd K Z (n:=3) rfl<|JN (fz 4 Y9)<|JN (fz 5 Y9)<|JN (fz 6 Y9) A7) (YE (c9 7 Y9<|Y5<|Za (S 4)<|Za (YN ZD (S 5) YC)<|Za (S 6)<|Za (S 3) Yp)
  (YD<|Yj (Jw<|Jr hu (S 7)<|eA K<|S 0) (YD<|Ya<|fS (S 0) T.aj aC hr YQ<|bB<|S 7) YR)))⟩)))),?_⟩
 have ht:H t=some (.tup [.str p,nV k,nV j]):=mi.ht;obtain⟨hlen,jz⟩:=mi.gr.len mi.env.hg mi.env.hc;have yH:met.length<=2100000:=by rw[YOU]at jz;lia
 have hNN:=mi.hN;refine⟨_,Z,t,_,0,_,Z,Z,cy.of ht,Z,_,Z,t,_,1,_,Z,Z,cy.of ht,Z,lp,λb hb=>?_⟩;have s1:=YF.upd (o:=.tup [.str p,nV k]) hb;have g1:=mi.st.same s1<|Yl rfl;have hb1:upd H b (.tup [.str p,nV k]) b=some (.tup<|(fI p k).map kV):=YA;have eU:=s1 _ _ ht;revert s1 g1 hb1 eU;generalize upd H b (.tup [.str p,nV k])=H1;intro s1 g1 hb1 eU;refine⟨_,Z,t,_,2,_,Z,Z,cy.of eU,Z,?_⟩;dsimp only[Yh];refine YFW (t:=l9 _) (λσ' H'=>σ'=[some<|.ref x,some<|.ref t,some<|.ref b,some<|nV j,none,none,none,none]/\∃cL,fq C.Growth H0 H' x l a1 a2 a3 a4 a5 cL hs fresh aa hh Dv (addE En p k j) (N+1)/\H' b=some (.tup<|(fI p k).map kV)) ?_ λY1=>?_;rintro σ' H2 ⟨rfl,cL,g2,hb2⟩;obtain⟨B,U⟩:=g2.x_;obtain⟨k4,e4,l4,b4⟩:=g2.h4;refine⟨_,Z,x,C.Growth,B,_,_,Z,U,T.aj,T.cM,Z,a4,Z,.inr ⟨_,.inl e4⟩,_,Z,YOn _,λe he=>?_⟩;have s3:=YF.upd (o:=.lst []) he;refine⟨_,Xd.t (s3 _ _ e4)<|s3 _ _ hb2,?_⟩;have g3:=g2.same s3<|Yl rfl;obtain⟨la,ts,ela,hla,nU,n1,n2⟩:∃la ts,(Ye k4<|fI p k).getD (.ref e)=.ref la/\upd H2 e (.lst []) la=some (.lst<|ts.map V.ref)/\kR (upd H2 e<|.lst []) ts (Dv p k)/\la≠a1/\la≠a2:=by
  obtain⟨t2,f2,_⟩:=g2.h2;rcases b4 p k with z|⟨a,ts,z1,z2,z3,z4⟩
  refine⟨e,[],by rw[z.1];rfl,YA,by rw[z.2];exact⟨Z,λi t q R=>nomatch R⟩,λz=>?_,λz=>?_⟩;rw[z,g2.h1]at he;cases he;rw[z,f2]at he;cases he;refine⟨a,ts,by rw[z1];rfl,s3 _ _ z3,z4.keep λ_ _=>s3 _ _,Yg z3 g2.h1 nofun,λz=>?_⟩;rw[z,g2.o2]at z2;cases z2
 rw[ela];have c0:=mi.cl;have uN:=mi.gr;have yI:=mi.lk;have ts_len:ts.length=(Dv p k).length:=nU.1;refine⟨la,Z,⟨_,aX.of hla⟩,Zq (K:=K) (a:=la) (xs:=ts.map V.ref) (λi σ H4=>Ex6 λhs' aL v4 v5 v6 v7=>An9 (σ=[some<|.ref x,some<|.ref t,some<|.ref b,some<|nV j,v4,v5,v6,v7]) (fq C.Growth H0 H4 x l a1 a2 a3 a4 a5 cL hs' aL aa hh Dv (addE En p k j)<|N+1) (fJ g cs hs' (met++[.part p k j]) aL aa hh) (Cl g hs' (·∈met)) (YO hs' (.part p k j)=some hh) ((∀q∈(Dv p k).take i,∃v,YO hs' (.beg q.1 (q.2.1+1) q.2.2 j)=some v)) (H4 la=some (.lst<|ts.map V.ref)) (kR H4 ts<|Dv p k) (∀z m,YO hs z=some m->YO hs' z=some m)) ⟨hs,fresh,none,none,none,none,Z,g3,uN,c0,yI,λq hq=>absurd hq (by simp),hla,nU,λ_ _ z=>z⟩ ?_ ?_ ?_⟩;rintro i σ H4 _ ⟨hs',aL,v4,v5,v6,v7,rfl,_,_,_,_,_,jn,_⟩;exact aX.of jn;rintro i y σ H4 hi ⟨hs',aL,v4,v5,v6,v7,rfl,g4,iJ,c4,lE,hall,jn,rR,gR⟩;rw[YOd]at hi;cases eu:ts[i]? with
 |none=>rw[eu]at hi;cases hi
 |some u=>
  rw[eu]at hi;cases hi;have hil:i<(Dv p k).length:=by rw[<-ts_len];exact(YOX.mp eu).1
  obtain⟨⟨r,d,i0⟩,eq⟩:∃q,(Dv p k)[i]?=some q:=⟨_,YOW hil⟩;have WX:H4 u=some (.tup [nV r,nV d,nV i0]):=rR.2 i u _ eu eq;obtain⟨hm,km⟩:=(mi.mt.bg p k r d i0).mp<|YOc eq;have etk:(Dv p k).take (i+1)=(Dv p k).take i++[(r,d,i0)]:=by rw[YPA,eq];rfl
  refine⟨u,_,Z,cy.of WX,Z,_,_,Z,_,_,Z,_,_,Z,Z,?_⟩;refine⟨_,Z,_,Z,_,_,Z,Z,_,Z,_,Z,kC,λtn jP=>?_⟩;have s5:=YF.upd (o:=.tup [nV r,.int<|(d:Int)+1,nV i0,nV j]) jP;have hn:upd H4 tn (.tup [nV r,.int<|(d:Int)+1,nV i0,nV j]) tn=some (.tup<|(Yd<|.beg r (d+1) i0 j).map kV):=YA;have g5:=g4.same s5<|Yl rfl;have jo:=s5 _ _ jn;have pQ:kR (upd H4 tn<|.tup [nV r,.int<|(d:Int)+1,nV i0,nV j]) ts<|Dv p k:=rR.keep λ_ _=>s5 _ _;dsimp only[Yh];revert g5 hn jo pQ;generalize upd H4 tn (.tup [nV r,.int<|(d:Int)+1,nV i0,nV j])=H5;intro hn g5 jo pQ;obtain⟨uO,nJ⟩:=g5.x_;refine⟨_,Z,_,Z,x,C.Growth,uO,_,_,Z,nJ,T.aj,T.aG,Z,a1,_,Z,Xd.t g5.h1 hn,_,Z,?_⟩;rw[B3,YPi];have hall2:∀hs2:Hs,(∀y m,YO hs' y=some m->YO hs2 y=some m)->(∃v,YO hs2 (.beg r (d+1) i0 j)=some v)->∀q∈(Dv p k).take (i+1),∃v,YO hs2 (.beg q.1 (q.2.1+1) q.2.2 j)=some v:=λhs2 hm2 yJ q hq=>by
   rw[etk]at hq;rcases YOf.mp hq with hq|hq
   obtain⟨v,hv⟩:=hall q hq;exact⟨v,hm2 _ _ hv⟩;cases YOT.mp hq;exact yJ
  obtain⟨ud,wK⟩:=iJ.len mi.env.hg mi.env.hc;cases hlk:YO hs' (.beg r (d+1) i0 j) with
  |some v=>
   refine Yw ?_;exact⟨hs',aL,_,_,_,_,Z,g5,iJ,c4,lE,hall2 hs' (λ_ _ z=>z) ⟨v,hlk⟩,jo,pQ,gR⟩
  |none=>
   refine ZC ⟨_,Z,x,uO,_,Z,nJ,Z,_,Z,H0,x,l,a1,a2,a3,a4,a5,tn,cL,hs',aL,aa,hh,Dv,addE En p k j,N+1,.beg r (d+1) i0 j,Z,g5,hn,hlk,by lia,by lia,λH6 g6 j_=>?_⟩;obtain⟨va,nM,qW⟩:=iJ.vm _<|YOg _ hm;have lg:=iJ.leg _ _ nM;have lgy:=iJ.leg _ _ lE;obtain⟨⟨ru,er,hdl⟩,uP,hkn⟩:=lg;have qX:d<ru.2.1.length:=by
    unfold ZM at km;rw[er]at km;have km:ru.2.1[d]?=some p:=km;exact(YOX.mp km).1
   have yK:=iJ.stand hlk (show j1 g cs (.beg r (d+1) i0 j) from⟨⟨ru,er,qX⟩,YO1 uP lgy.2.1,lgy.2.2⟩)<|.inr ⟨d,k,p,va,hh,Z,km,nM,lE,(Nat.max_eq_right qW).symm⟩;obtain⟨t2,f2,_⟩:=g5.h2;refine⟨_,_,_,_,_,_,Z,g6,yK,c4.snoc hlk<|λy hy=>?_,Z4 hlk _ _ lE,hall2 _ (Z4 hlk) ⟨hh,by rw[ZX _ _ _ _ hlk,if_pos Z]⟩,j_ _ _ n1 n2 jo,pQ.keep λc ys hc=>j_ _ _ (Yg hc g5.h1 nofun) (Yg hc f2 nofun) hc,λz m e=>Z4 hlk _ _<|gR z m e⟩;obtain⟨v,hv,_⟩:=iJ.vm y<|YOg _ hy;exact⟨v,hv⟩
 rintro σ H4 ⟨hs',aL,v4,v5,v6,v7,rfl,g4,iJ,c4,lE,hall,jn,rR,gR⟩;rw[YOS,ts_len,YPI]at hall;exact q _ _ _ _ _ _ _ _ g4 iJ (oH c4 iJ lE mi.mt hall) (mi.mt.addE p k j) (by lia) gR;obtain⟨B,U⟩:=g1.x_;obtain⟨k5,e5,l5,b5⟩:=g1.h5;refine⟨_,Z,x,C.Growth,B,_,_,Z,U,T.aj,T.du,Z,a5,Z,.inr ⟨_,.inl e5⟩,_,Z,YOn _,λe he=>?_⟩;have s2:=YF.upd (o:=.lst []) he;have hEl:∀p k,(En p k).length<=N:=λp k=>(g1.hb p k).2;refine⟨k5,fI p k,b,s2 _ _ e5,Z,s2 _ _ hb1,(by rw[sizeLine_eq];lia),λv hv=>?_,λhn=>?_⟩;rcases b5 p k with z|⟨a,z1,z2,z3⟩
 rw[z.1]at hv;cases hv;rw[z1]at hv;cases hv;have nb:b≠a:=Yg hb1 z3 nofun;refine⟨.inl ⟨Z,_,aX.of<|s2 _ _ z3⟩,_,Z,a,_,_,Z,Z,s2 _ _ z3,(by rw[YOS,sizeLine_eq];have:=hEl p k;lia),?_⟩;have e6:(En p k).map nV++[nV j]=(addE En p k j p k).map nV:=by rw[YGx,YOk];rfl
 rw[e6];exact Y1 _ _ ⟨Z,own,((g1.same s2<|Yl rfl).more<|YPn N).enSet z2 (λp' k' h=>if_neg h) (s2 _ _ e5) z1<|YI3 hEl p k j,by rw[YB nb];exact s2 _ _ hb1⟩;have o0:=g1.fine he;have ne:e≠a5:=λz=>by rw[z,e5]at he;cases he
 have nb:b≠e:=λz=>by rw[<-z,hb1]at he;cases he
 have WY:b≠a5:=Yg hb1 e5 nofun;have g2:=(g1.same s2<|Yl rfl).enNew (p:=p) (k:=k) YA (g1.sm.free he) o0 (s2 _ _ e5) hn;have hE0:En p k=[]:=by
  rcases b5 p k with z|⟨a,z1,z2,z3⟩
  exact z.2;rw[hn]at z1;cases z1
 have m_:upd (upd H1 e<|.lst []) a5 (.dT<|Yu k5 (fI p k)<|.ref e) e=some (.lst []):=by rw[YB ne];exact YA
 refine⟨.inl ⟨Z,_,aX.of m_⟩,_,Z,e,_,_,Z,Z,m_,(by rw[sizeLine_eq];decide),?_⟩;have e6:([]:J V)++[nV j]=(addE En p k j p k).map nV:=by rw[YGx,hE0];rfl
 rw[e6];exact Y1 _ _ ⟨Z,_,g2.enSet (if_pos Z) (λp' k' h=>if_neg h) YA (by rw[Z1,if_pos Z])<|YI3 hEl p k j,by rw[YB nb,YB WY];exact s2 _ _ hb1⟩
theorem Ym:YJ [ay,aE,cv,cf,"done","begin","key","end","longer"] [ay,aE,cv]<|YG Z5:=eQ
theorem YAg(T:Txt K mg C)(aC:Y4 P w K mg bZ 1 C.Growth "stand" [ay,aE]<|YEn C.Growth):Gd P w K mg bZ 2 "meet_beginning" "Growth.meet_beginning" Z5 [ay,aE,cv]<|YK6 C.Growth:=by
 refine eT Ym λH Q E hr h=>?_;obtain⟨H0,x,l,a1,a2,a3,a4,a5,t,xs,g,cs,own,hs,met,fresh,aa,hh,Dv,En,N,r,d,i0,k,p,rfl,km,mi,q⟩:=h;have hu:=ZZ hr;refine gi ?_;refine⟨_,(YH ⟨(c9 3 Ym<|eR K (S 1) YC)⟩
  (YH ⟨(c9 4 Ym<|eR K (S 1) YC)⟩
  (YH ⟨(c9 5 Ym<|eR K (S 1) YC)⟩
  (YH ⟨(c9 6 Ym<|Y5<|YI (S 2)<|bB<|eR K (S 1) YC)⟩
  (YH ⟨(Ya<|fX K (YC5 hu (eA K<|S 0) (S 6) (Y6 Yp) ⟨Z,Z,Z,Z⟩)<|Y5<|YI (S 3)<|YI (S 4)<|bB<|S 5)⟩
  (ZI ⟨(fP (ZH K rfl<|CO hu (eA K<|S 0) (S 6) (Y6 Yp) ⟨Z,Z,Z,Z⟩) (fz 7 Ym) (YE (c9 8 Ym<|Y5<|Za (S 3)<|Za (YN ZD (S 4) YC)<|Za (S 5)<|Za (S 7) Yp)
  (YD<|Yj (Jw<|Jr hu (S 8)<|eA K<|S 0) (YD<|Ya<|fS (S 0) T.aj aC hr YQ<|bB<|S 8) YR)))⟩)))))),?_⟩
 have ht:H t=some (.tup [nV r,nV d,nV i0,nV k]):=mi.ht;obtain⟨hlen,jz⟩:=mi.gr.len mi.env.hg mi.env.hc;have yH:met.length<=2100000:=by rw[YOU]at jz;lia
 have hNN:=mi.hN;refine⟨_,Z,t,_,0,_,Z,Z,cy.of ht,Z,?_⟩;refine⟨_,Z,t,_,1,_,Z,Z,cy.of ht,Z,?_⟩;refine⟨_,Z,t,_,2,_,Z,Z,cy.of ht,Z,?_⟩;refine⟨_,Z,_,Z,t,_,3,_,Z,Z,cy.of ht,Z,lp,λb hb=>?_⟩;have s1:=YF.upd (o:=.tup [.str p,nV k]) hb;have g1:=mi.st.same s1<|Yl rfl;have hb1:upd H b (.tup [.str p,nV k]) b=some (.tup<|(fI p k).map kV):=YA;dsimp only[Yh];revert s1 g1 hb1;generalize upd H b (.tup [.str p,nV k])=H1;intro s1 g1 hb1;refine YFW (t:=l9 _) (λσ' H'=>σ'=[some<|.ref x,some<|.ref t,some<|.str p,some<|nV r,some<|nV d,some<|nV i0,some<|.ref b,none,none]/\∃cL,fq C.Growth H0 H' x l a1 a2 a3 a4 a5 cL hs fresh aa hh (addB Dv p k (r,d,i0)) En (N+1)/\H' b=some (.tup<|(fI p k).map kV)) ?_ λY1=>?_;rintro σ' H2 ⟨rfl,cL,g2,hb2⟩;obtain⟨B,U⟩:=g2.x_;obtain⟨k5,e5,l5,b5⟩:=g2.h5;refine⟨_,Z,x,C.Growth,B,_,_,Z,U,T.aj,T.du,Z,a5,Z,.inr ⟨_,.inl e5⟩,_,Z,YOn _,λe he=>?_⟩;have s3:=YF.upd (o:=.lst []) he;refine⟨_,Xd.t (s3 _ _ e5)<|s3 _ _ hb2,?_⟩;have g3:=g2.same s3<|Yl rfl;obtain⟨la,ela,hla,n1,n2⟩:∃la,(Ye k5<|fI p k).getD (.ref e)=.ref la/\upd H2 e (.lst []) la=some (.lst<|(En p k).map nV)/\la≠a1/\la≠a2:=by
  obtain⟨t2,f2,_⟩:=g2.h2;rcases b5 p k with z|⟨a,z1,z2,z3⟩
  refine⟨e,by rw[z.1];rfl,by rw[z.2];exact YA,λz=>?_,λz=>?_⟩;rw[z,g2.h1]at he;cases he;rw[z,f2]at he;cases he;refine⟨a,by rw[z1];rfl,s3 _ _ z3,Yg z3 g2.h1 nofun,λz=>?_⟩;rw[z,g2.o2]at z2;cases z2
 rw[ela];have c0:=mi.cl;have uN:=mi.gr;have yI:=mi.lk;refine⟨la,Z,⟨_,aX.of hla⟩,Zq (K:=K) (a:=la) (xs:=(En p k).map nV) (λi σ H4=>sK λhs' aL v7 v8=>xZ (σ=[some<|.ref x,some<|.ref t,some<|.str p,some<|nV r,some<|nV d,some<|nV i0,some<|.ref b,v7,v8]) (fq C.Growth H0 H4 x l a1 a2 a3 a4 a5 cL hs' aL aa hh (addB Dv p k (r,d,i0)) En<|N+1) (fJ g cs hs' (met++[.beg r d i0 k]) aL aa hh) (Cl g hs' (·∈met)) (YO hs' (.beg r d i0 k)=some hh) ((∀j∈(En p k).take i,∃v,YO hs' (.beg r (d+1) i0 j)=some v)) (H4 la=some (.lst<|(En p k).map nV)) (∀z m,YO hs z=some m->YO hs' z=some m)) ⟨hs,fresh,none,none,Z,g3,uN,c0,yI,λq hq=>absurd hq (by simp),hla,λ_ _ z=>z⟩ ?_ ?_ ?_⟩;rintro i σ H4 _ ⟨hs',aL,v7,v8,rfl,_,_,_,_,_,jn,_⟩;exact aX.of jn;rintro i y σ H4 hi ⟨hs',aL,v7,v8,rfl,g4,iJ,c4,lE,hall,jn,gR⟩;rw[YOd]at hi;cases ej:(En p k)[i]? with
 |none=>rw[ej]at hi;cases hi
 |some j=>
  rw[ej]at hi;cases hi;have hm:=(mi.mt.en p k j).mp<|YOc ej;have etk:(En p k).take (i+1)=(En p k).take i++[j]:=by rw[YPA,ej];rfl
  refine⟨_,Z,_,Z,_,_,Z,Z,_,Z,_,Z,kC,λtn jP=>?_⟩;have s5:=YF.upd (o:=.tup [nV r,.int<|(d:Int)+1,nV i0,nV j]) jP;have hn:upd H4 tn (.tup [nV r,.int<|(d:Int)+1,nV i0,nV j]) tn=some (.tup<|(Yd<|.beg r (d+1) i0 j).map kV):=YA;have g5:=g4.same s5<|Yl rfl;have jo:=s5 _ _ jn;dsimp only[Yh];revert g5 hn jo;generalize upd H4 tn (.tup [nV r,.int<|(d:Int)+1,nV i0,nV j])=H5;intro hn g5 jo;obtain⟨uO,nJ⟩:=g5.x_;refine⟨_,Z,_,Z,x,C.Growth,uO,_,_,Z,nJ,T.aj,T.aG,Z,a1,_,Z,Xd.t g5.h1 hn,_,Z,?_⟩;rw[B3,YPi];have hall2:∀hs2:Hs,(∀y m,YO hs' y=some m->YO hs2 y=some m)->(∃v,YO hs2 (.beg r (d+1) i0 j)=some v)->∀j'∈(En p k).take (i+1),∃v,YO hs2 (.beg r (d+1) i0 j')=some v:=λhs2 hm2 yJ j' hq=>by
   rw[etk]at hq;rcases YOf.mp hq with hq|hq
   obtain⟨v,hv⟩:=hall j' hq;exact⟨v,hm2 _ _ hv⟩;cases YOT.mp hq;exact yJ
  obtain⟨ud,wK⟩:=iJ.len mi.env.hg mi.env.hc;cases hlk:YO hs' (.beg r (d+1) i0 j) with
  |some v=>
   refine Yw ?_;exact⟨hs',aL,_,_,Z,g5,iJ,c4,lE,hall2 hs' (λ_ _ z=>z) ⟨v,hlk⟩,jo,gR⟩
  |none=>
   refine ZC ⟨_,Z,x,uO,_,Z,nJ,Z,_,Z,H0,x,l,a1,a2,a3,a4,a5,tn,cL,hs',aL,aa,hh,addB Dv p k (r,d,i0),En,N+1,.beg r (d+1) i0 j,Z,g5,hn,hlk,by lia,by lia,λH6 g6 j_=>?_⟩;obtain⟨va,nM,qW⟩:=iJ.vm _<|YOg _ hm;have lg:=iJ.leg _ _ lE;have lgy:=iJ.leg _ _ nM;obtain⟨⟨ru,er,hdl⟩,uP,hkn⟩:=lg;have qX:d<ru.2.1.length:=by
    unfold ZM at km;rw[er]at km;have km:ru.2.1[d]?=some p:=km;exact(YOX.mp km).1
   have yK:=iJ.stand hlk (show j1 g cs (.beg r (d+1) i0 j) from⟨⟨ru,er,qX⟩,YO1 uP lgy.2.1,lgy.2.2⟩)<|.inr ⟨d,k,p,hh,va,Z,km,lE,nM,(Nat.max_eq_left qW).symm⟩;refine⟨_,_,_,_,Z,g6,yK,c4.snoc hlk<|λy hy=>?_,Z4 hlk _ _ lE,hall2 _ (Z4 hlk) ⟨hh,by rw[ZX _ _ _ _ hlk,if_pos Z]⟩,j_ _ _ n1 n2 jo,λz m e=>Z4 hlk _ _<|gR z m e⟩;obtain⟨v,hv,_⟩:=iJ.vm y<|YOg _ hy;exact⟨v,hv⟩
 rintro σ H4 ⟨hs',aL,v7,v8,rfl,g4,iJ,c4,lE,hall,jn,gR⟩;rw[YOS,YPI]at hall;exact q _ _ _ _ _ _ _ _ g4 iJ (xl km c4 iJ lE mi.mt hall) (mi.mt.addB km) (by lia) gR;obtain⟨B,U⟩:=g1.x_;obtain⟨k4,e4,l4,b4⟩:=g1.h4;refine⟨_,Z,x,C.Growth,B,_,_,Z,U,T.aj,T.cM,Z,a4,Z,.inr ⟨_,.inl e4⟩,_,Z,YOn _,λe he=>?_⟩;have s2:=YF.upd (o:=.lst []) he;have hBl:∀p k,(Dv p k).length<=N:=λp k=>(g1.hb p k).1;refine⟨k4,fI p k,b,s2 _ _ e4,Z,s2 _ _ hb1,(by rw[sizeLine_eq];lia),λv hv=>?_,λhn=>?_⟩;rcases b4 p k with z|⟨a,ts,z1,z2,z3,z4⟩
 rw[z.1]at hv;cases hv;rw[z1]at hv;cases hv;have nb:b≠a:=Yg hb1 z3 nofun;refine⟨.inl ⟨Z,_,aX.of<|s2 _ _ z3⟩,_,Z,_,Z,_,Z,jS,λtt gD=>?_⟩;have s3:=YF.upd (o:=.tup [nV r,nV d,nV i0]) gD;have vL:=s2.trans s3;refine⟨a,_,_,Z,Z,vL _ _ z3,(by rw[YOS,z4.1,sizeLine_eq];have:=hBl p k;lia),?_⟩;have e6:ts.map V.ref++[V.ref tt]=(ts++[tt]).map V.ref:=by rw[YOk];rfl
 rw[e6];refine Y1 _ _ ⟨Z,own,(((g1.same s2<|Yl rfl).same s3<|Yl rfl).more<|YPn N).bgSet z2 (B':=addB Dv p k (r,d,i0)) (λp' k' h=>if_neg h) ?_ (vL _ _ e4) z1 (YI4 hBl p k (r,d,i0)),by rw[YB nb];exact vL _ _ hb1⟩;rw[YGy];exact(z4.keep λ_ _=>vL _ _).snoc YA;have o0:=g1.fine he;have ne:e≠a4:=λz=>by rw[z,e4]at he;cases he
 have nb:b≠e:=λz=>by rw[<-z,hb1]at he;cases he
 have W4:b≠a4:=Yg hb1 e4 nofun;have g2:=(g1.same s2<|Yl rfl).bgNew (p:=p) (k:=k) YA (g1.sm.free he) o0 (s2 _ _ e4) hn;have hB0:Dv p k=[]:=by
  rcases b4 p k with z|⟨a,ts,z1,z2,z3,z4⟩
  exact z.2;rw[hn]at z1;cases z1
 have m_:upd (upd H1 e<|.lst []) a4 (.dT<|Yu k4 (fI p k)<|.ref e) e=some (.lst []):=by rw[YB ne];exact YA
 have jJ:upd (upd H1 e<|.lst []) a4 (.dT<|Yu k4 (fI p k)<|.ref e) b=some (.tup<|(fI p k).map kV):=by rw[YB W4];exact s2 _ _ hb1
 have yL:upd (upd H1 e<|.lst []) a4 (.dT<|Yu k4 (fI p k)<|.ref e) a4=some (.dT<|Yu k4 (fI p k)<|.ref e):=YA;revert g2 m_ jJ yL;generalize upd (upd H1 e<|.lst []) a4 (.dT<|Yu k4 (fI p k)<|.ref e)=H3;intro g2 m_ jJ yL;refine⟨.inl ⟨Z,_,aX.of m_⟩,_,Z,_,Z,_,Z,jS,λtt gD=>?_⟩;have s3:=YF.upd (o:=.tup [nV r,nV d,nV i0]) gD;refine⟨e,_,_,Z,Z,s3 _ _ m_,(by rw[sizeLine_eq];decide),?_⟩;have e6:([]:J V)++[V.ref tt]=([tt]:J al).map V.ref:=rfl;rw[e6];refine Y1 _ _ ⟨Z,_,(g2.same s3<|Yl rfl).bgSet (if_pos Z) (B':=addB Dv p k (r,d,i0)) (λp' k' h=>if_neg h) ?_ (s3 _ _ yL) (by rw[Z1,if_pos Z]) (YI4 hBl p k (r,d,i0)),by rw[YB nb];exact s3 _ _ jJ⟩;rw[YGy,hB0];exact kR.snoc (ts:=[]) (ns:=[]) ⟨Z,λi t q R=>nomatch R⟩ YA
theorem Ji{α:Type}(l:J α):l=[]\/∃a b,l=a++[b]:=by
 cases h:l.reverse with
 |nil=>exact .inl<|List.reverse_eq_nil_iff.mp h
 |cons b a=>
  refine .inr ⟨a.reverse,b,?_⟩;have:=fZ List.reverse h;rw[YP3,YPE]at this;exact this
theorem YAC:YJ [ay,aE,"rule","name"] [ay,aE]<|YG YAe:=eQ
theorem YFX(T:Txt K mg C)(bW:Y4 P w K mg bZ 2 C.Growth "meet_part" [ay,aE]<|YK5 C.Growth)(bu:Y4 P w K mg bZ 2 C.Growth "meet_beginning" [ay,aE,cv]<|YK6 C.Growth)(bF:Y4 P w K mg bZ 1 C.Growth "stand_higher" [ay,aE]<|YGl C.Growth):Gd P w K mg bZ 3 "meet" "Growth.meet" YAe [ay,aE]<|YNd C.Growth:=by
 refine eT YAC λH Q E hr h=>?_;obtain⟨H0,x,l,a1,a2,a3,a4,a5,t,xs,g,cs,own,hs,met,fresh,aa,hh,Dv,En,N,y,rfl,mi,q⟩:=h;have hu:=ZZ hr;refine gi ?_;refine⟨_,(YH ⟨(Yj (YT Xm (fL K T.aF<|S 1) YC<|YU _) (YE (Ya<|fS (S 0) T.aj bW hr YQ<|bB<|S 1)
  (YD YHJ)) YR)⟩
  (YH ⟨(c9 2 YAC<|fB K (eA K<|S 0)<|eR K (S 1) YC)⟩
  (YH ⟨(Yj (YT kK (eR K (S 1) YC) (fL K T.aF<|eR K (S 2) YC)<|YU _) (YE (Ya<|fS (S 0) T.aj bu hr YQ<|YI (S 1)<|bB<|eR K (eR K (S 2) YC)<|eR K (S 1) YC)
  (YD YHJ)) YR)⟩
  (YH ⟨(c9 3 YAC<|Y5<|YI (eR K (S 2) YC)<|YI (eR K (S 1) YC)<|bB<|eR K (S 1) YC)⟩
  (ZI ⟨(Yj (Jw<|Jr hu (S 3)<|eA K<|S 0) (YD<|Ya<|fS (S 0) T.aj bF hr YQ<|bB<|S 3) YR)⟩))))),?_⟩
 obtain⟨B,U⟩:=mi.st.x_;have hNN:=mi.hN;obtain⟨hlen,jz⟩:=mi.gr.len mi.env.hg mi.env.hc;cases y with
 |part p k j=>
  have ht:H t=some (.tup [.str p,nV k,nV j]):=mi.ht;refine fx λu eu=>?_;refine⟨_,Z,t,_,Z,.inr<|cy.of ht,Z,_,Z,ZC ?_⟩;exact⟨_,Z,x,B,_,Z,U,Z,_,Z,H0,x,l,a1,a2,a3,a4,a5,t,xs,g,cs,own,hs,met,fresh,aa,hh,Dv,En,N,p,k,j,Z,mi,λH' cL hs' aL gA B' E' N' R e2 e3 e4 e5 e6=>q H' cL hs' aL gA B' E' N' R e2 e3 e4 e5 e6⟩
 |beg r d i k=>
  have ht:H t=some (.tup [nV r,nV d,nV i,nV k]):=mi.ht;have lg:=mi.gr.leg _ _ mi.lk;obtain⟨⟨ru,er,hdl⟩,uP,hkn⟩:=lg;have hl:=mi.st.sm _ _ mi.env.hl;obtain⟨tr,pr,hat,yM,tO⟩:=JO (mi.env.hds.same mi.st.sm) er;refine fx λu eu=>?_;refine⟨_,Z,t,_,Z,.inr<|cy.of ht,Z,_,Z,Yw ?_⟩;show u _ _ _;subst eu;refine fx λu eu=>?_;refine⟨_,Z,x,C.Growth,B,_,_,Z,U,T.aj,T.eX,Z,_,Z,t,_,0,_,Z,Z,cy.of ht,Z,l,_,_,_,Z,Z,aX.of hl,hat,?_⟩;show u _ _ _;subst eu;refine fx λu eu=>?_;refine⟨_,Z,t,_,1,_,Z,Z,cy.of ht,Z,_,Z,tr,_,1,_,Z,Z,cy.of yM,Z,pr,_,Z,.inr<|cy.of tO,_,_,Z,Z,_,Z,gu (λDm=>?_) λDm=>?_⟩;have hlt':(d:Int)<((ru.2.1.map V.str).length:Int):=fF Dm;rw[YOS]at hlt';have hd:d<ru.2.1.length:=by lia
  have ep:ru.2.1[d]?=some ru.2.1[d]:=YOW hd;have hpa:ZM g r d=some ru.2.1[d]:=by
   unfold ZM;rw[er];exact ep
  have wL:f_ (ru.2.1.map V.str) (d:Int)=some (.str ru.2.1[d]):=Y2 (by rw[YOd,ep];rfl);exact⟨_,Z,x,B,_,Z,U,Z,_,Z,_,Z,tr,_,1,_,Z,Z,cy.of yM,Z,_,Z,t,_,1,_,Z,Z,cy.of ht,Z,pr,_,_,_,Z,Z,cy.of tO,wL,H0,x,l,a1,a2,a3,a4,a5,t,xs,g,cs,own,hs,met,fresh,aa,hh,Dv,En,N,r,d,i,k,_,Z,hpa,mi,λH' cL hs' aL gA B' E' N' R e2 e3 e4 e5 e6=>q H' cL hs' aL gA B' E' N' R e2 e3 e4 e5 e6⟩;have hlt':¬(d:Int)<((ru.2.1.map V.str).length:Int):=λz=>Dm<|de z;rw[YOS]at hlt';have ed:d=ru.2.1.length:=by lia
  subst ed;have hpa:ZM g r ru.2.1.length=none:=by
   unfold ZM;rw[er];exact YPd<|YOY _
  show u _ _ _;subst eu;refine fx λu eu=>?_;refine⟨_,Z,tr,_,0,_,Z,Z,cy.of yM,Z,_,Z,t,_,2,_,Z,Z,cy.of ht,Z,_,Z,t,_,3,_,Z,Z,cy.of ht,Z,jS,λnm hnm=>?_⟩;have s1:=YF.upd (o:=.tup [.str ru.1,nV i,nV k]) hnm;have hn:upd H nm (.tup [.str ru.1,nV i,nV k]) nm=some (.tup<|(Yd<|.part ru.1 i k).map kV):=YA;have g1:=mi.st.same s1<|Yl rfl;dsimp only[Yh];revert g1 hn;generalize upd H nm (.tup [.str ru.1,nV i,nV k])=H1;intro hn g1;obtain⟨uQ,hx1⟩:=g1.x_;show u _ _ _;subst eu;refine⟨_,Z,_,Z,x,C.Growth,uQ,_,_,Z,hx1,T.aj,T.aG,Z,a1,_,Z,Xd.t g1.h1 hn,_,Z,?_⟩;rw[B3,YPi];cases hlk:YO hs (.part ru.1 i k) with
  |some v=>
   refine Yw ?_;exact q _ _ _ _ _ _ _ _ g1 mi.gr (YNe er mi.cl mi.gr mi.lk ⟨v,hlk⟩) (mi.mt.addC hpa) (by lia)<|λ_ _ z=>z
  |none=>
   refine ZC ⟨_,Z,x,uQ,_,Z,hx1,Z,_,Z,H0,x,l,a1,a2,a3,a4,a5,nm,own,hs,fresh,aa,hh,Dv,En,N,.part ru.1 i k,Z,g1,hn,hlk,by lia,by lia,λH2 g2 lL=>?_⟩;have nO:=mi.gr.standUp hlk ⟨.inl<|YOt.mpr ⟨ru,YOc er,Z⟩,uP,hkn⟩<|.inr ⟨r,ru,hh,er,Z,mi.lk,Z⟩;have c2:=mi.cl.snoc (n:=hh+1) hlk (λy hy=>by
    obtain⟨v,hv,_⟩:=mi.gr.vm y<|YOg _ hy;exact⟨v,hv⟩)
   exact q _ _ _ _ _ _ _ _ g2 nO (YNe er c2 nO (Z4 hlk _ _ mi.lk) ⟨hh+1,by rw[ZX _ _ _ _ hlk,if_pos Z]⟩) (mi.mt.addC hpa) (by lia)<|Z4 hlk
theorem YFY:YJ [ay] [ay]<|YG YAf:=eQ
theorem YFZ(T:Txt K mg C)(dI:Y4 P w K mg bZ 3 C.Growth "meet" [ay,aE]<|YNd C.Growth):Gd P w K mg bZ 4 "grow" "Growth.grow" YAf [ay]<|YNf C.Growth:=by
 refine eT YFY λH Q E hr h=>?_;obtain⟨H0,x,l,a1,a2,a3,a4,a5,xs,g,cs,own,hs,fresh,Dv,En,rfl,env,g0,uN,W5,q⟩:=h;refine⟨_,(YD (Jx PassesOwn.never (XH K Z (eA K<|S 0)<|λ_=>rfl) (YE (Jx PassesOwn.never (XH K Z (eA K<|S 0)<|λ_=>rfl)<|YD<|Ya<|fS (S 0) T.aj dI hr YQ<|bB<|vS K rfl YPG YPc YPb xL<|eA K<|S 0)
  (YE (fO K (S 0)<|eA K<|S 0)
  (YE (fO K (S 0)<|Y6 Yp)
  (YD<|YJ4 K rfl (S 0) YC xK)))))),?_⟩
 refine⟨λμ σ H2=>C0 λm6 iZ cL hs' met aL h' B' E' N'=>xZ (σ=[some<|.ref x]) (fq C.Growth H0 H2 x l a1 m6 iZ a4 a5 cL hs' aL [] h' B' E' N') (fJ g cs hs' met aL [] h') (Cl g hs' (·∈met)) (ip g met B' E') (N'<=met.length) ((∀z m,YO hs z=some m->YO hs' z=some m))<|μ=3000000-met.length,⟨_,a2,a3,own,hs,[],fresh,0,Dv,En,0,Z,g0,uN,⟨λr d i k p j a b m1=>(nomatch m1),λr ru i j a er m1=>(nomatch m1)⟩,W5,YOY _,λ_ _ z=>z,Z⟩,?_⟩;rintro μ σ H2 ⟨m6,iZ,cL,hs',met,aL,h',B',E',N',rfl,g2,nO,c2,W6,hN2,qw,rfl⟩;obtain⟨Qk,hx2⟩:=g2.x_;obtain⟨yN,f2,n2⟩:=g2.h2;rcases Ji aL with rfl|⟨fr1,y1,rfl⟩
 have pR:yN=[]:=List.eq_nil_of_length_eq_zero n2.1;subst pR;refine⟨_,Z,x,C.Growth,Qk,_,_,Z,hx2,T.aj,T.aK,Z,false,.inl ⟨_,aX.of f2,Z⟩,Yw ?_⟩;exact q _ _ _ _ _ _ _ _ _ g2 (nO.fin_ c2) qw
 ·have iQ:(!(yN.map V.ref).isEmpty)=true:=by
   have:=n2.1;rw[YOU]at this;cases yN with
   |nil=>simp at this
   |cons a b=>rfl
  refine⟨_,Z,x,C.Growth,Qk,_,_,Z,hx2,T.aj,T.aK,Z,true,.inl ⟨_,aX.of f2,iQ.symm⟩,ZC ?_⟩;refine⟨λσ' H'=>∃m',m'<_/\_,λ_ _ z=>z,?_⟩;refine fx λu eu=>?_;refine⟨λν σ H3=>Ex8 λrT hs2 gB jb gU B2 E2 N2=>An9 (σ=[some<|.ref x]) (fq C.Growth H0 H3 x l a1 m6 iZ a4 a5 rT hs2 jb gU h' B2 E2 N2) (fJ g cs hs2 gB jb gU h') (Cl g hs2 (·∈gB)) (ip g gB B2 E2) (N2<=gB.length) ((∀z m,YO hs z=some m->YO hs2 z=some m)) ((met.length<gB.length\/(jb≠[]/\met.length<=gB.length)))<|ν=3000000-gB.length,⟨_,cL,hs',met,_,[],B',E',N',Z,g2,nO,c2,W6,hN2,qw,.inr ⟨by simp,YOY _⟩,Z⟩,?_⟩;rintro ν σ H3 ⟨rT,hs2,gB,jb,gU,B2,E2,N2,rfl,g3,qx,c3,Ql,hN3,jj,ue,rfl⟩;obtain⟨jf,jg⟩:=g3.x_;obtain⟨qy,f3,n3⟩:=g3.h2;obtain⟨hl3,jG⟩:=qx.len env.hg env.hc;rcases Ji jb with rfl|⟨Qm,y2,rfl⟩
  ·have pR:qy=[]:=List.eq_nil_of_length_eq_zero n3.1;subst pR;have Dm:met.length<gB.length:=ue.elim (λz=>z) λz=>(z.1 rfl).elim;refine⟨_,Z,x,C.Growth,jf,_,_,Z,jg,T.aj,T.aK,Z,false,.inl ⟨_,aX.of f3,Z⟩,Yw ?_⟩;show u _ _ _;subst eu;refine fx λu eu=>?_;refine⟨_,Z,x,C.Growth,jf,_,_,Z,jg,T.aj,T.bM,Z,_,Z,x,C.Growth,jf,_,Z,jg,T.aj,T.aK,(show 7<1000 by decide),?_⟩;have W7:Yf bv (.ref iZ) (kP l a1 h' m6 iZ a4 a5)=kP l a1 h' iZ iZ a4 a5:=rfl;rw[W7];show u _ _ _;subst eu;refine fx λu eu=>?_;refine⟨YOn _,λe he=>?_⟩;have nxe:x≠e:=λz=>by rw[<-z,YA]at he;cases he
   have uR:H3 e=none:=by rw[YB nxe.symm]at he;exact he
   refine⟨_,Z,x,C.Growth,jf,kP l a1 h' iZ iZ a4 a5,Z,(by rw[YB nxe];exact YA),T.aj,T.bM,(show 7<1000 by decide),?_⟩;have W8:Yf bS (.ref e) (kP l a1 h' iZ iZ a4 a5)=kP l a1 h' iZ e a4 a5:=rfl;rw[W8];show u _ _ _;subst eu;refine⟨_,Z,x,C.Growth,jf,_,_,Z,YA,T.aj,T.bL,Z,_,_,Z,Z,jf,_,YA,(show 7<1000 by decide),?_⟩;have W9:Yf aT (.int<|(h':Int)+1) (kP l a1 h' iZ e a4 a5)=kP l a1 (h'+1) iZ e a4 a5:=rfl;rw[W9];have g4:=g3.swap (H':=upd (upd (upd (upd H3 x<|.ins C.Growth jf<|kP l a1 h' iZ iZ a4 a5) e<|.lst []) x<|.ins C.Growth jf<|kP l a1 h' iZ e a4 a5) x<|.ins C.Growth jf<|kP l a1 (h'+1) iZ e a4 a5) uR (λb o hb z=>?_) YA (by rw[YB nxe.symm,YB nxe.symm];exact YA)<|λb u z=>(Yl Z b u z).elim (λz=>(Yl Z b u z).elim (λz=>(Yl Z b u z).elim (Yl Z b u) .inr) .inr) .inr
   ·exact⟨3000000-gB.length,by lia,iZ,e,_,hs2,gB,gU,h'+1,B2,E2,N2,Z,g4,qx.next,c3,Ql,hN3,jj,Z⟩
   have hbe:b≠e:=λy=>by rw[y,uR]at z;cases z
   rw[YB hb,YB hb,YB hbe,YB hb];exact z
  have jK:qy.length=Qm.length+1:=by have:=n3.1;rw[YOU]at this;exact this
  obtain⟨iy,t4,rfl⟩:∃iy t4,qy=iy++[t4]:=by
   rcases Ji qy with rfl|z
   simp at jK;exact z
  have qY:(!((iy++[t4]).map V.ref).isEmpty)=true:=by
   cases iy <;> rfl
  refine⟨_,Z,x,C.Growth,jf,_,_,Z,jg,T.aj,T.aK,Z,true,.inl ⟨_,aX.of f3,qY.symm⟩,ZC ?_⟩;refine⟨λσ' H'=>∃m',m'<_/\_,λ_ _ z=>z,?_⟩;obtain⟨n4,jc⟩:=n3.pop;have f4:H3 m6=some (.lst<|iy.map V.ref++[.ref t4]):=by rw[f3,YOk];rfl
  have g4:=g3.set2 n4;have W_:upd H3 m6 (.lst<|iy.map V.ref) t4=some (.tup<|(Yd y2).map kV):=by rw[YB<|Yg jc f3 nofun];exact jc
  obtain⟨Qn,pU⟩:=g4.x_;refine⟨_,Z,x,jf,_,Z,jg,Z,_,Z,x,C.Growth,jf,_,_,Z,jg,T.aj,T.aK,Z,.inl ⟨Z,_,aX.of f3⟩,m6,_,.ref t4,Z,Z,f4,(by simp),?_⟩;rw[YPg];refine⟨H0,x,l,a1,m6,iZ,a4,a5,t4,xs,g,cs,rT,hs2,gB,Qm,gU,h',B2,E2,N2,y2,Z,⟨env,g4,W_,qx.pop,qx.vf y2<|YOe _<|YOT.mpr rfl,c3,Ql,hN3⟩,λH5 yO Ea rW pC B5 E5 N5 g5 uT c5 Eb hN5 uU=>?_⟩;have jz:(gB++[y2]).length=gB.length+1:=by rw[YOU];rfl
  refine⟨3000000-(gB++[y2]).length,by lia,yO,Ea,gB++[y2],rW,pC,B5,E5,N5,Z,g5,uT,c5,Eb,by lia,λz m e=>uU z m<|jj z m e,.inl (by rcases ue with z|z <;> lia),Z⟩
structure xM(g:YV)(cs:List Nat)(hs:Hs):Prop where
 sg:∀i c,cs[i]?=some c->YO hs (.part (gp c) i<|i+1)=some 0
 bg:∀r i,r<g.length->i<=cs.length->YO hs (.beg r 0 i i)=some 0
inductive YEJ(CG CT:Addr)(vs:List V)(H:L)(Q:VK)(E:XK):Prop
 |mk (x y:V)(dg d:D):vs=[x,y]->ci H x dg->dg.short=true->ci H y d->d.short=true->YL H->(∀g z,dg=kz g->ZB g=true->d=.str z->Zs z=true->∀a o hs H',JA g z.cps.toList hs->xM g z.cps.toList hs->H a=none->H' a=some (.frz o (.dT (fY hs)))->YF H H'->YL H'->Q (.ref a) H')->(Jh dg=false->∀H',YF H H'->YL H'->E (.ref CG) none H')->(Jh dg=true->sv d=false->∀H',YF H H'->YL H'->E (.ref CT) none H')->YEJ CG CT vs H Q E
def YFa(CG CT:al):Sp:=λvs H Q E=>YEJ CG CT vs H Q E
theorem Z7:YJ [db,bq,aw,"signs","growth",cm,"sign",cf] [db,bq]<|YG YCc:=eQ
theorem YI5(T:Txt K mg C)(cY:ZK P w K mg (fM P w) 7 "checked" [ba]<|YDf C.NoGrammar)(bw:ZK P w K mg (fM P w) 3 fy [ba]<|YCR C.NoText)(cz:zd P w K mg bZ 1 C.Growth [ay,aw]<|YK4 C.Growth)(aC:Y4 P w K mg bZ 1 C.Growth "stand" [ay,aE]<|YEn C.Growth)(dJ:Y4 P w K mg bZ 4 C.Growth "grow" [ay]<|YNf C.Growth):Gd P w K mg (fM P w) 8 "standing" "standing" YCc [db,bq]<|YFa C.NoGrammar C.NoText:=by
 refine iN Z7 λH Q E hr h=>?_;obtain⟨x,y,dg,d,rfl,denG,shG,den,sh,hp,q,qG,qT⟩:=h;refine gi ?_;refine⟨_,(YH ⟨(c9 2 Z7<|eW cY hr JE.on<|bB<|S 0)⟩
  (YH ⟨(c9 3 Z7<|eW bw hr JE.on<|bB<|S 1)⟩
  (YH ⟨(c9 4 Z7<|pkU cz hr T.my YQ<|bB<|S 2)⟩
  (YH ⟨(AM PassesOwn.leaving Z (YNg Z T.iG<|bB<|S 3) (Dd K Z (n:=2) rfl<|JN (fz 5 Z7)<|JN (fz 6 Z7) A7)<|YD<|Ya<|fS (S 4) T.aj aC hr YQ<|bB<|Y5<|YI (YN Jk Zf<|S 6)<|YI (S 5)<|bB<|YN ZD (S 5) YC)⟩
  (YH ⟨(AM PassesOwn.leaving Z (Ze Z T.bH<|bB<|fL K T.aF<|S 2) (fz 7 Z7)<|YD<|AM PassesOwn.leaving rfl (Ze rfl T.bH<|bB<|YN ZD (Yo JS (by rfl) T.aF YPV<|bB<|S 3) YC) (fz 5 Z7)<|YD<|Ya<|fS (S 4) T.aj aC hr YQ<|bB<|Y5<|Za (S 7)<|Za YC<|Za (S 5)<|Za (S 5) Yp)⟩
  (YH ⟨(Ya<|ic (S 4) T.aj dJ hr YQ)⟩
  (ZI ⟨(YM<|YNh<|eA K<|S 4)⟩))))))),?_⟩
 refine fx λu eu=>?_;refine⟨_,Z,x,dg,Z,denG,shG,hp,λeg l xs ds ed hds hl=>?_,λe=>qG e H (YF.refl H) hp⟩;obtain⟨g,rfl,hg⟩:=YKq eg;cases ed;have s1:=YF.upd (o:=.lst xs) hl;have p1:YL<|upd H l<|.lst xs:=hp.upd rfl;have hl1:upd H l (.lst xs) l=some (.lst xs):=YA;have pD:=hds.same s1;have rY:=den.same s1;revert s1 p1 hl1 pD rY;generalize upd H l (.lst xs)=H1;intro s1 p1 hl1 pD rY;show u _ _ _;subst eu;refine fx λu eu=>?_;refine⟨_,Z,y,d,Z,rY,sh,p1,λz ez hz=>?_,λe=>qT eg e H1 s1 p1⟩;subst ez;obtain⟨cs,ecs⟩:∃cs,z.cps.toList=cs:=⟨_,Z⟩;have yP:=hz;unfold Zs at yP;rw[YOl,fQ]at yP;have hcl:cs.length=z.cps.size:=by rw[<-ecs,YPD]
 have qZ:cs.length<=60:=by rw[hcl];exact yP.1
 have env:xg H1 l xs g cs:=⟨hl1,pD,hg,qZ⟩;have jw:xs.length=g.length:=by rw[pD.len,YOS]
 have g60:=Xp hg;show u _ _ _;subst eu;refine fx λu eu=>?_;refine⟨_,Z,λgx B U tQ hnx=>⟨H1,gx,l,B,Z,YA,U,(YF.upd tQ).put U,(p1.upd Z).upd Z,λa1 a2 a3 a4 a5 own G0 yQ=>⟨Z,?_⟩⟩⟩;dsimp only[Yh];show u _ _ _;subst eu;refine fx λu eu=>?_;refine⟨_,Z,z,Z,YMG (z:=z) (λi σ H2=>sK λhs fresh v5 v6=>CU (σ=[some x,some y,some<|.ref l,some<|.str z,some<|.ref gx,v5,v6,none]) (fq C.Growth H1 H2 gx l a1 a2 a3 a4 a5 own hs fresh [] 0 (λ_ _=>[]) (λ_ _=>[]) 0) (fJ g cs hs [] fresh [] 0) ((∀i' c,i'<i->cs[i']?=some c->YO hs (.part (gp c) i'<|i'+1)=some 0)) (∀n v,YO hs n=some v->∃p i' j',n=.part p i' j'/\i'<i)) ⟨[],[],none,none,Z,yQ,⟨YPJ,List.Perm.refl _,λn hn=>(nomatch hn),λn hn=>(nomatch hn),λn hn=>(nomatch hn),λn v e=>(nomatch e),λn v e=>(nomatch e)⟩,λi' c hi=>(nomatch hi),λn v e=>(nomatch e)⟩ ?_ ?_⟩;rintro i c T0 σ H2 hi hT0 ⟨hs,fresh,v5,v6,rfl,g2,nO,hb2,hn2⟩;have tR:cs[i]?=some c:=by rw[<-ecs,YPX];exact hi
 have hil:i<cs.length:=(YOX.mp tR).1;have sT:=YF.upd (o:=.tup [.int (i:Nat),.str ⟨#[c]⟩]) hT0;have g3:=g2.same sT<|Yl rfl;obtain⟨jf,jg⟩:=g3.x_;obtain⟨hlen,jz⟩:=nO.len hg qZ;refine⟨T0,_,Z,cy.of YA,Z,_,_,Z,_,_,Z,Z,?_⟩;refine⟨_,Z,gx,jf,_,Z,jg,Z,_,Z,_,_,Z,Z,YK (by rw[BQ];show 1+1<=1000;decide),_,Z,_,Z,_,_,Z,Z,jS,λtn jP=>?_⟩;have sN:=YF.upd (o:=.tup [.str<|gp c,.int (i:Nat),.int<|(i:Int)+1]) jP;have hlk:YO hs (.part (gp c) i<|i+1)=none:=by
  cases e:YO hs (.part (gp c) i<|i+1) with
  |none=>rfl
  |some v=>
   obtain⟨p,i',j',z1,z2⟩:=hn2 _ _ e;injection z1 with z3 z4 z5;lia
 refine⟨H1,gx,l,a1,a2,a3,a4,a5,tn,own,hs,fresh,[],0,λ_ _=>[],λ_ _=>[],0,.part (gp c) i<|i+1,Z,g3.same sN<|Yl rfl,YA,hlk,by lia,by lia,λH5 g5 _=>?_⟩;have uT:=nO.stand hlk (show j1 g cs (.part (gp c) i<|i+1) from⟨.inr ⟨c,tR,Z,Z⟩,YPn _,hil⟩)<|.inl ⟨Z,c,tR,Z,Z⟩;refine⟨_,_,_,_,Z,g5,uT,λi' c' hi' hc'=>?_,λn v e=>?_⟩;by_cases uV:i'=i;subst uV;rw[tR]at hc';cases hc';rw[ZX _ _ _ _ hlk,if_pos Z];exact Z4 hlk _ _<|hb2 i' c' (by lia) hc';rw[ZX _ _ _ _ hlk]at e;split at e;rename_i zz;exact⟨_,_,_,zz,YPO _⟩;obtain⟨p,i',j',z1,z2⟩:=hn2 _ _ e;exact⟨p,i',j',z1,by lia⟩;rintro σ H2 ⟨hs,fresh,v5,v6,rfl,g2,nO,hb2,hn2⟩;have pW:∀i c,cs[i]?=some c->YO hs (.part (gp c) i<|i+1)=some 0:=λi c e=>hb2 i c (by rw[<-hcl];exact(YOX.mp e).1) e;have hl2:=g2.sm _ _ hl1;show u _ _ _;subst eu;refine fx λu eu=>?_;refine⟨_,Z,l,_,Z,.inl<|aX.of hl2,_,Z,(js (by lia) (by lia)).1,(js (by lia) (by lia)).2,?_⟩;refine JG (lo:=0) (n:=((xs.length:Int)).toNat) (λr σ H3=>sK λjG iz v5 v7=>AC (σ=[some x,some y,some<|.ref l,some<|.str z,some<|.ref gx,v5,v6,v7]) (fq C.Growth H1 H3 gx l a1 a2 a3 a4 a5 own jG iz [] 0 (λ_ _=>[]) (λ_ _=>[]) 0) (fJ g cs jG [] iz [] 0) ((∀n v,YO hs n=some v->YO jG n=some v)) ((∀r' i,r'<r->i<=cs.length->YO jG (.beg r' 0 i i)=some 0)) (∀n v,YO jG n=some v->(∃p i' j',n=.part p i' j')\/∃r' i',n=.beg r' 0 i' i'/\r'<r)) ⟨hs,fresh,v5,none,Z,g2,nO,λ_ _ e=>e,λr' i hr=>(nomatch hr),λn v e=>.inl (let ⟨p,i',j',z1,_⟩:=hn2 n v e;⟨p,i',j',z1⟩)⟩ ?_ ?_;rintro r σ H3 hr ⟨jG,iz,v5,v7,rfl,g3,qx,jj,jJ,rZ⟩;have Ec:r<g.length:=by lia
 have zl:z.length<=sizeLine:=YK (by have:z.length=z.cps.size:=rfl;lia);have zlc:(z.length:Int)=(cs.length:Int):=by rw[hcl];rfl
 refine⟨_,Z,z,Z,zl,_,_,Z,Z,_,Z,(js (by lia) (by lia)).1,(js (by lia) (by lia)).2,?_⟩;refine JG (lo:=0) (n:=((z.length:Int)+1).toNat) (λi σ H4=>ki λni iB v5=>AC (σ=[some x,some y,some<|.ref l,some<|.str z,some<|.ref gx,v5,v6,some<|.int<|0+(r:Int)]) (fq C.Growth H1 H4 gx l a1 a2 a3 a4 a5 own ni iB [] 0 (λ_ _=>[]) (λ_ _=>[]) 0) (fJ g cs ni [] iB [] 0) ((∀n v,YO hs n=some v->YO ni n=some v)) ((∀r' i',r'<r\/(r'=r/\i'<i)->i'<=cs.length->YO ni (.beg r' 0 i' i')=some 0)) (∀n v,YO ni n=some v->(∃p i' j',n=.part p i' j')\/∃r' i',n=.beg r' 0 i' i'/\(r'<r\/(r'=r/\i'<i)))) ⟨jG,iz,v5,Z,g3,qx,jj,λr' i' h1 h2=>jJ r' i' (by lia) h2,λn v e=>(rZ n v e).elim .inl λ⟨r',i',z1,z2⟩=>.inr ⟨r',i',z1,.inl z2⟩⟩ ?_ ?_;rintro i σ H4 hi ⟨ni,iB,v5,rfl,g4,iJ,nj,hb4,nP⟩;have tR:i<=cs.length:=by lia
 obtain⟨Qn,pU⟩:=g4.x_;obtain⟨hlen,jz⟩:=iJ.len hg qZ;refine⟨_,Z,gx,Qn,_,Z,pU,Z,_,Z,_,Z,_,Z,kC,λtn jP=>?_⟩;have en:HO.tup [.int<|0+(r:Int),.int 0,.int<|0+(i:Int),.int<|0+(i:Int)]=.tup ((Yd<|.beg r 0 i i).map kV):=by
  rw[YPt,YPt];rfl
 have sN:=YF.upd (o:=.tup [.int<|0+(r:Int),.int 0,.int<|0+(i:Int),.int<|0+(i:Int)]) jP;have hlk:YO ni (.beg r 0 i i)=none:=by
  cases e:YO ni (.beg r 0 i i) with
  |none=>rfl
  |some v=>
   rcases nP _ _ e with ⟨p,i',j',z1⟩|⟨r',i',z1,z2⟩
   cases z1;injection z1 with z3 z4 z5 z6;lia
 refine⟨H1,gx,l,a1,a2,a3,a4,a5,tn,own,ni,iB,[],0,λ_ _=>[],λ_ _=>[],0,.beg r 0 i i,Z,g4.same sN<|Yl rfl,(by rw[<-en];exact YA),hlk,by lia,by lia,λH5 g5 _=>?_⟩;obtain⟨ru,er⟩:∃ru,g[r]?=some ru:=⟨_,YOW Ec⟩;have uT:=iJ.stand hlk (show j1 g cs (.beg r 0 i i) from⟨⟨ru,er,YOn _⟩,YOY _,tR⟩)<|.inl ⟨Z,Z,Z⟩;refine⟨_,_,_,Z,g5,uT,λn v e=>Z4 hlk _ _<|nj n v e,λr' i' h1 h2=>?_,λn v e=>?_⟩;rw[ZX _ _ _ _ hlk];split;rfl;rename_i zz;refine hb4 r' i' ?_ h2;rcases h1 with h1|⟨h1,h3⟩
 exact .inl h1;refine .inr ⟨h1,?_⟩;by_cases uV:i'=i;exact(zz (by rw[h1,uV])).elim;lia;rw[ZX _ _ _ _ hlk]at e;split at e;rename_i zz;exact .inr ⟨r,i,zz,.inr ⟨Z,YPO _⟩⟩;rcases nP _ _ e with z1|⟨r',i',z1,z2⟩
 exact .inl z1;exact .inr ⟨r',i',z1,by lia⟩;rintro σ H4 ⟨ni,iB,v5,rfl,g4,iJ,nj,hb4,nP⟩;refine⟨ni,iB,_,_,Z,g4,iJ,nj,λr' i' h1 h2=>hb4 r' i' ?_ h2,λn v e=>?_⟩;by_cases hrr:r'=r;exact .inr ⟨hrr,by lia⟩;exact .inl (by lia);rcases nP _ _ e with z1|⟨r',i',z1,z2⟩
 exact .inl z1;exact .inr ⟨r',i',z1,by lia⟩;rintro σ H3 ⟨jG,iz,v5,v7,rfl,g3,qx,jj,jJ,rZ⟩;obtain⟨jf,jg⟩:=g3.x_;show u _ _ _;subst eu;refine fx λu eu=>?_;refine⟨_,Z,gx,jf,_,Z,jg,Z,H1,gx,l,a1,a2,a3,a4,a5,xs,g,cs,own,jG,iz,λ_ _=>[],λ_ _=>[],Z,env,g3,qx,⟨λp k r d i=>⟨λhh=>(nomatch hh),λhh=>(nomatch hh.1)⟩,λp k j=>⟨λhh=>(nomatch hh),λhh=>(nomatch hh)⟩⟩,λH6 Qo m6 iZ own6 h6 B6 E6 N6 g6 j_ qz=>?_⟩;obtain⟨Ed,qC⟩:=g6.x_;obtain⟨k4,f4,_,_⟩:=g6.h4;obtain⟨k5,f5,_,_⟩:=g6.h5;show u _ _ _;subst eu;refine⟨_,Z,gx,C.Growth,Ed,_,_,Z,qC,T.aj,T.aG,Z,a1,a4,a5,_,_,_,g6.h1,f4,f5,g6.d14,g6.d15,g6.d45,λo=>?_⟩;have bs:xM g cs Qo:=⟨λi c e=>qz _ _<|jj _ _<|pW i c e,λr i hr hi=>qz _ _<|jJ r i (by lia) hi⟩;rw[<-ecs]at bs j_;refine q g z Z hg Z hz a1 o Qo _ j_ bs (s1.free g6.n1) YA ?_ ?_;exact s1.trans<|((g6.sm.to_del g6.n4).to_del g6.n5).put g6.n1;intro b ob eb;by_cases hb:b=a1;subst hb;rw[YA]at eb;cases eb;rfl;rw[YB hb]at eb;have h5:b≠a5:=λzz=>by rw[zz,Xz]at eb;cases eb
 rw[Zg h5]at eb;have h4:b≠a4:=λzz=>by rw[zz,Xz]at eb;cases eb
 rw[Zg h4]at eb;rcases g6.pl b ob eb with zz|zz|zz|zz
 exact(hb zz).elim;exact(h4 zz).elim;exact(h5 zz).elim;exact zz
abbrev J6:Stmt:=top 34
abbrev JP:Stmt:=top 35
abbrev Xf:Stmt:=Yv (top 36) 0
abbrev XM:Stmt:=Yv (top 36) 1
abbrev XO:Stmt:=Yv (top 36) 2
abbrev JX:Stmt:=Yv (top 36) 3
abbrev YCg:Stmt:=Yv (top 36) 5
abbrev YA9:Stmt:=Yv (top 36) 6
abbrev YBp:Stmt:=Yv (top 36) 7
abbrev JY:Stmt:=Yv (top 36) 8
abbrev Zx:Stmt:=Yv (top 36) 9
inductive YLH(vs:List V)(H:L)(Q:VK):Prop
 |mk (l:Addr)(xs:List V)(g:YV):vs=[.ref l]->H l=some (.lst xs)->YX H xs (g.map ZW)->ZB g=true->YL H->(∀a H',qA H' a g->YF H H'->YL H'->Q (.ref a) H')->YLH vs H Q
def YKU:Sp:=λvs H Q E_=>YLH vs H Q
inductive YI6(vs:List V)(H:L)(Q:VK):Prop
 |mk (f:Addr)(o:Obj)(kvs:List (List c_×V))(Dl:List Nd)(n:Nat):vs=[.ref f]->H f=some (.frz o (.dT kvs))->JM kvs Dl->Dl.Nodup->Dl.length<=2100000->n<=60->(∀r d i k,Nd.beg r d i k∈Dl->k<=n)->YL H->(∀a H',sL H' a n Dl->YF H H'->YL H'->Q (.ref a) H')->YI6 vs H Q
def YLI:Sp:=λvs H Q E_=>YI6 vs H Q
theorem JB:YJ [aw,bi,cf,"rule"] [aw]<|YG J6:=eQ
theorem YCh(T:Txt K mg C):Gd P w K mg bZ 1 fD fD J6 [aw]<|YKU:=by
 refine eT JB λH Q E hr h=>?_;obtain⟨l,xs,g,rfl,hl,hds,hg,hp,q⟩:=h;have hu:=ZZ hr;refine⟨_,(YE (c9 1 JB YE2)
  (YE (fP (oW K Z rfl T.iG<|bB<|S 0) (Dd K Z (n:=2) rfl<|JN (fz 2 JB)<|JN (fz 3 JB) A7)<|YD<|Ya<|fX K (YMI hu (S 1) (eR K (S 3) YC) (Y6 Yp) ⟨Z,Z,Z,Z⟩)<|S 2)
  (YD<|YM<|S 1))),?_⟩
 have pF:=Xp hg;have jw:xs.length=g.length:=by rw[hds.len,YOS]
 refineλd hd=>?_;have s0:=YF.upd (o:=.dK []) hd;refine⟨_,Z,l,Z,⟨xs,.inl<|s0 _ _ hl⟩,YNa (K:=K) (a:=l) (xs:=xs) (λi σ H2=>sK λ(own:al->ah av) (v2 v3:ah V) (N:Nat)=>xi (σ=[some<|.ref l,some<|.ref d,v2,v3]) (lT HO.dK (Sum.inr:av->c_) H H2 d own (XL g i) N)<|N<=2*i)
  ⟨λ_=>none,none,none,0,Z,⟨s0,⟨[],YA,YOY _,λt=>.inl ⟨Z,Z⟩,λk v e=>nomatch e⟩,(λa t e=>nomatch e),hd,λb o e=>(by by_cases hb:b=d;exact .inl hb;rw[YB hb]at e;exact .inr<|hp b o e),λt=>YOY _⟩,YOY _⟩
  (by rintro i σ H2 _ ⟨own,v2,v3,N,_,g2,_⟩;exact aX.of<|g2.sm _ _ hl) ?_ ?_⟩
 rintro i x T0 σ H2 hi hT0 ⟨own,v2,v3,N,rfl,g2,hN⟩;have hil:i<xs.length:=(YOX.mp hi).1;have er:g[i]?=some g[i]:=YOW (by lia);generalize g[i]=ru at er;obtain⟨tt,pp,ax,gD,hpp⟩:=JO hds er;have ex:x=.ref tt:=by
  have:=Y2 (xs:=xs) (j:=i) hi;rw[this]at ax;exact YO3 ax
 subst ex;have sT:=YF.upd (o:=.tup [.int (i:Nat),.ref tt]) hT0;have g3:=g2.same sT<|YW.upd rfl;refine⟨T0,_,Z,cy.of YA,Z,_,_,Z,_,_,Z,Z,?_⟩;revert g3;generalize upd H2 T0 (.tup [.int (i:Nat),.ref tt])=H3;intro g3;obtain⟨kvs,R,e2,e3,e4⟩:=g3.h;refine⟨_,Z,d,Z,.inl ⟨kvs,.inl R⟩,_,Z,tt,_,0,_,Z,Z,cy.of<|g3.sm _ _ gD,Z,YK<|YOn _,λe he=>?_⟩;have g4:=g3.same (YF.upd (o:=.lst []) he)<|YW.upd rfl;have hde:d≠e:=YS R he;refine⟨kvs,Sum.inr ru.1,by rw[YB hde];exact R,Z,by rw[sizeLine_eq];lia,λv hv=>?_,λhv=>?_⟩;rcases e3 ru.1 with z|⟨a,z1,z2,z3⟩
 rw[z.1]at hv;cases hv;rw[z1]at hv;cases hv;have uW:a≠e:=YS z3 he;refine⟨.inl ⟨Z,_,aX.of (by rw[YB uW];exact z3)⟩,_,Z,a,_,_,Z,Z,by rw[YB uW];exact z3,by rw[YOS,sizeLine_eq];have:=g3.le ru.1;lia,?_⟩;refine⟨own,_,_,N+1,Z,?_,by lia⟩;have:=g4.more (λ_ _ z=>nomatch z) z2 (λjH z=>by rw[YB hde,R]at z;cases z;exact z1) i;have ef:(λt'=>if t'=ru.1 then XL g i ru.1++[i] else XL g i t')=XL g (i+1):=funext λp=>(YEG er p).symm;rw[ef]at this;exact this;have hne:(g3.sm.trans<|YF.upd (o:=.lst []) he)=(g3.sm.trans<|YF.upd (o:=.lst []) he):=rfl;have h0:H e=none:=g3.sm.free he;have ho:own e=none:=by
  cases ho:own e with
  |none=>rfl
  |some t=>
   obtain⟨_,k_,z⟩:=g3.on e t ho;rw[he]at z;cases z
 have g5:=g4.fresh (λ_ _ z=>nomatch z) (λ_ _ z=>by cases z;rfl) (λ_ _ z=>by cases z;rfl) (t:=ru.1) YA h0 ho (by rw[YB hde];exact R) hv;have uX:upd (upd H3 e<|.lst []) d (.dK<|Yu kvs (Sum.inr ru.1)<|.ref e) e=some (.lst []):=by rw[YB hde.symm];exact YA
 have hE:XL g i ru.1=[]:=by
  rcases e3 ru.1 with z|⟨a,z1,z2,z3⟩
  exact z.2;rw[hv]at z1;cases z1
 refine⟨.inl ⟨Z,_,aX.of uX⟩,_,Z,e,_,_,Z,Z,uX,by rw[sizeLine_eq];decide,?_⟩;have g6:=g5.more (λ_ _ z=>nomatch z) (t:=ru.1) (a:=e) (if_pos Z) (λjH z=>by rw[YA]at z;cases z;rw[Z1,if_pos Z]) i;have ef:(λt'=>if t'=ru.1 then XL g i ru.1++[i] else XL g i t')=XL g (i+1):=funext λp=>(YEG er p).symm;rw[ef,hE]at g6;exact⟨_,_,_,N+1+1,Z,g6,by lia⟩;rintro σ H2 ⟨own,v2,v3,N,rfl,g2,hN⟩;obtain⟨kvs,R,e2,e3,e4⟩:=g2.h;have er:XL g xs.length=Yi g:=by rw[jw];rfl
 rw[er]at e3;refine⟨_,Z,q d H2 ⟨kvs,R,λp=>(e3 p).imp (λz=>⟨z.2,z.1⟩) λ⟨a,z1,_,z3⟩=>⟨a,z1,z3⟩⟩ g2.sm λb o e=>?_⟩;rcases g2.pl b o e with rfl|h
 rw[R]at e;cases e;rfl;exact h
theorem Zm:YJ ["nodes",cb,aE,"key"] ["nodes"]<|YG JP:=eQ
theorem YBV(T:Txt K mg C):Gd P w K mg bZ 1 gc gc JP ["nodes"]<|YLI:=by
 refine eT Zm λH Q E hr h=>?_;obtain⟨f,o,kvs,Dl,n,rfl,hf,hk,hnd,hl2,hn,hb,hp,q⟩:=h;have hu:=ZZ hr;refine⟨_,(YE (c9 1 Zm Jz)
  (YE (fP (YIi<|S 0) (fz 2 Zm)<|YD<|Yj (YT Xm (fL K T.aF<|S 2) YC<|YU _) (YD<|Ya<|fX K (YC5 hu (S 1) (Y5<|YI (eR K (S 2) YC)<|YI (eR K (S 2) YC)<|bB<|eR K (S 2) YC) (Y6 Yp) ⟨Z,Z,Z,Z⟩)<|eR K (S 2) YC) YR)
  (YE (fP (ZH K rfl<|JR (YBP rfl) (by rfl) T.eZ YPL<|bB<|S 1) (fz 3 Zm)<|YD<|Jg hu (S 1) (S 3) (Yo YIj (by rfl) T.mj PyProof.Rows.Boot.«sorted»<|bB<|JL hu (S 1) (S 3)<|λ_ _=>rfl) rfl)
  (YD<|YM<|YFN<|S 1)))),?_⟩
 refineλd hd=>?_;have s0:=YF.upd (o:=.dT []) hd;have hkl:=hk.len;refine⟨_,Z,f,o,kvs,Z,s0 _ _ hf,YGp (d:=f) (o:=o) (kvs:=kvs) (λi σ H2=>ki λ(own:al->ah (Nat×Nat×Nat)) (v2:ah V) (N:Nat)=>xi (σ=[some<|.ref f,some<|.ref d,v2,none]) (lT HO.dT gT H H2 d own (jp<|Dl.take i) N)<|N<=2*i)
  ⟨λ_=>none,none,0,Z,⟨s0,⟨[],YA,YOY _,λt=>.inl ⟨Z,Z⟩,λk v e=>nomatch e⟩,(λa t e=>nomatch e),hd,λb o e=>(by by_cases hb:b=d;exact .inl hb;rw[YB hb]at e;exact .inr<|hp b o e),λt=>YOY _⟩,YOY _⟩
  (by rintro i σ H2 _ ⟨own,v2,N,_,g2,_⟩;exact g2.sm _ _ hf) ?_ ?_⟩
 rintro i kv b σ H2 hi hb2 ⟨own,v2,N,rfl,g2,hN⟩;have hil:i<kvs.length:=(YOX.mp hi).1;obtain⟨x,ex⟩:∃x,Dl[i]?=some x:=⟨_,YOW (by lia)⟩;have ekv:kv.1=Yd x:=by
  have:=fZ (λl=>l[i]?) hk;simp only[YOd,hi,ex]at this;exact YO3 this
 rw[ekv]at hb2;dsimp only[Yh];cases x with
 |part p a c=>
  have gW:H2 b=some (.tup [.str p,nV a,nV c]):=hb2;refine⟨_,Z,b,_,Z,.inr<|cy.of gW,Z,_,Z,?_⟩;rw[show decide (V.int (([.str p,nV a,nV c]:J V).length:Nat)=V.int 4)=false from dy (λh=>by injection h with h;have h:(3:Int)=4:=h;lia)];refine Yw ⟨own,_,N,Z,?_,by lia⟩;rw[YKB ex];exact g2
 |beg r dd ii k=>
  have gW:H2 b=some (.tup [nV r,nV dd,nV ii,nV k]):=hb2;refine⟨_,Z,b,_,Z,.inr<|cy.of gW,Z,_,Z,?_⟩;rw[show decide (V.int (([nV r,nV dd,nV ii,nV k]:J V).length:Nat)=V.int 4)=true from de Z];obtain⟨iC,R,e2,e3,e4⟩:=g2.h;refine ZC ⟨_,Z,d,Z,.inr ⟨iC,.inl R⟩,_,Z,b,_,0,_,Z,Z,cy.of gW,Z,_,Z,b,_,1,_,Z,Z,cy.of gW,Z,_,Z,b,_,2,_,Z,Z,cy.of gW,Z,jS,λtk iH=>?_⟩;refine⟨YK<|YOn _,λe he=>?_⟩;have g3:=g2.same (YF.upd (o:=.tup [nV r,nV dd,nV ii]) iH)<|YW.upd rfl;have lQ:upd H2 tk (.tup [nV r,nV dd,nV ii]) tk=some (.tup<|(gT (r,dd,ii)).map kV):=YA;have jJ:upd H2 tk (.tup [nV r,nV dd,nV ii]) b=some (.tup [nV r,nV dd,nV ii,nV k]):=YF.upd iH _ _ gW;have su:upd H2 tk (.tup [nV r,nV dd,nV ii]) d=some (.dT iC):=YF.upd iH _ _ R;have vM:∀t,(Ye iC (gT t)=none/\jp (Dl.take i) t=[])\/∃a,Ye iC (gT t)=some (.ref a)/\own a=some t/\upd H2 tk (.tup [nV r,nV dd,nV ii]) a=some (.lst<|(jp (Dl.take i) t).map nV):=λt=>(e3 t).imp id λ⟨a,z1,z2,z3⟩=>⟨a,z1,z2,YF.upd iH _ _ z3⟩;revert g3 lQ jJ he su vM;generalize upd H2 tk (.tup [nV r,nV dd,nV ii])=H3;intro he g3 lQ jJ su vM;have g4:=g3.same (YF.upd (o:=.lst []) he)<|YW.upd rfl;have hde:d≠e:=YS su he;have ef:=YMJ ex;refine⟨iC,gT (r,dd,ii),tk,by rw[YB hde];exact su,Z,YF.upd he _ _ lQ,by rw[sizeLine_eq];lia,λv hv=>?_,λhv=>?_⟩;rcases vM (r,dd,ii) with z|⟨a,z1,z2,z3⟩
  rw[z.1]at hv;cases hv;rw[z1]at hv;cases hv;have uW:a≠e:=YS z3 he;refine⟨.inl ⟨Z,_,aX.of (by rw[YB uW];exact z3)⟩,_,Z,b,_,3,_,Z,Z,cy.of<|YF.upd he _ _ jJ,Z,a,_,_,Z,Z,by rw[YB uW];exact z3,by rw[YOS,sizeLine_eq];have:=g3.le (r,dd,ii);lia,?_⟩;refine⟨own,_,N+1,Z,?_,by lia⟩;have:=g4.more (λ_ _ z=>nomatch z) z2 (λjH z=>by rw[YB hde,su]at z;cases z;exact z1) k;rw[ef]at this;exact this;have h0:H e=none:=g3.sm.free he;have ho:own e=none:=by
   cases ho:own e with
   |none=>rfl
   |some t=>
    obtain⟨_,k_,z⟩:=g3.on e t ho;rw[he]at z;cases z
  have g5:=g4.fresh (λ_ _ z=>nomatch z) (λ_ _ z=>by cases z;rfl) YHb (t:=(r,dd,ii)) YA h0 ho (by rw[YB hde];exact su) hv;have uX:upd (upd H3 e<|.lst []) d (.dT<|Yu iC (gT (r,dd,ii))<|.ref e) e=some (.lst []):=by rw[YB hde.symm];exact YA
  have nQ:upd (upd H3 e<|.lst []) d (.dT<|Yu iC (gT (r,dd,ii))<|.ref e) b=some (.tup [nV r,nV dd,nV ii,nV k]):=by rw[YB<|Yg jJ su nofun];exact YF.upd he _ _ jJ
  have hE:jp (Dl.take i) (r,dd,ii)=[]:=by
   rcases vM (r,dd,ii) with z|⟨a,z1,z2,z3⟩
   exact z.2;rw[hv]at z1;cases z1
  refine⟨.inl ⟨Z,_,aX.of uX⟩,_,Z,b,_,3,_,Z,Z,cy.of nQ,Z,e,_,_,Z,Z,uX,by rw[sizeLine_eq];decide,?_⟩;have g6:=g5.more (λ_ _ z=>nomatch z) (t:=(r,dd,ii)) (a:=e) (if_pos Z) (λjH z=>by rw[YA]at z;cases z;rw[Z1,if_pos Z]) k;rw[ef,hE]at g6;exact⟨_,_,N+1+1,Z,g6,by lia⟩
 rintro σ H2 ⟨own,v2,N,rfl,g2,hN⟩;rw[hkl,YPI]at g2;obtain⟨kvE,R,e2,e3,e4⟩:=g2.h;refine⟨_,Z,d,kvE,Z,.inl R,λlk ts hlk ju=>?_⟩;have slk:=YF.upd (o:=.lst<|ts.map V.ref) hlk;have hdl:d≠lk:=YS R hlk;refine⟨lk,Z,⟨_,aX.of YA⟩,Zq (K:=K) (a:=lk) (xs:=ts.map V.ref) (λm σ H3=>xN λ(iC:J (J c_×V)) (v3:ah V)=>xZ (σ=[some<|.ref f,some<|.ref d,v2,v3]) (H3 d=some (.dT iC)) (iC.map (·.1)=kvE.map (·.1)) (YF H H3) (H3 lk=some (.lst<|ts.map V.ref)) (YJ9 H3 ts kvE) ((∀b o,H3 b=some o->b=d\/Y0 o=true)) (∀t,∃Du:J Nat,Du.Perm (jp Dl t)/\(gT t∈(kvE.map (·.1)).take m->Du.Pairwise (·<=·))/\((Ye iC (gT t)=none/\Du=[])\/∃a,Ye iC (gT t)=some (.ref a)/\H3 a=some (.lst<|Du.map nV))))
  ⟨kvE,none,Z,slk _ _ R,Z,g2.sm.trans slk,YA,⟨ju.1,λi t kv z1 z2=>slk _ _<|ju.2 i t kv z1 z2⟩,λb o e=>(Yl Z b o e).elim (g2.pl b o) .inr,λt=>⟨jp Dl t,List.Perm.refl _,nofun,(e3 t).imp id λ⟨a,z1,_,z3⟩=>⟨a,z1,slk _ _ z3⟩⟩⟩
  (by rintro m σ H3 _ ⟨iC,v3,_,_,_,_,z,_,_,_⟩;exact aX.of z) ?_ ?_⟩
 rintro m v σ H3 hm ⟨iC,v3,rfl,f1,f2,f3,f4,f5,f6,f7⟩;rw[YOd]at hm;obtain⟨tk,iH,rfl⟩:=YO2.mp hm;have jz:m<kvE.length:=by rw[<-f5.1];exact(YOX.mp iH).1
 obtain⟨kv,ekv⟩:∃kv,kvE[m]?=some kv:=⟨_,YOW jz⟩;have jQ:=f5.2 m tk kv iH ekv;have hmem:kv.1∈kvE.map (·.1):=YOt.mpr ⟨kv,YOc ekv,Z⟩;have hsome:=Cs.mpr hmem;obtain⟨u,hu'⟩:=YPm.mp hsome;obtain⟨t,et⟩:=e4 _ _ hu';rw[et]at jQ hmem;obtain⟨Du,p1,p2,p3⟩:=f7 t;have hs2:(Ye iC<|gT t).isSome=true:=Cs.mpr (by rw[f2];exact hmem);obtain⟨a,z1,z2⟩:∃a,Ye iC (gT t)=some (.ref a)/\H3 a=some (.lst<|Du.map nV):=by
  rcases p3 with z|z
  rw[z.1]at hs2;cases hs2;exact z
 have hLl:Du.length<=61:=by
  have:=YNl (n:=n) (r:=t.1) (d:=t.2.1) (i:=t.2.2) (λk hk'=>hb _ _ _ _ hk') hnd;have h2:=p1.length_eq;unfold jp at h2;lia
 have eLn:Du.map nV=(Du.map λk:Nat=>(k:Int)).map V.int:=by rw[YPa];rfl
 dsimp only[Yh];refine⟨_,Z,_,Z,d,_,Z,.inr ⟨iC,gT t,tk,.inl f1,Z,jQ,z1.symm⟩,a,Du.map λk:Nat=>(k:Int),Z,by rw[<-eLn];exact z2,by rw[YOS];lia,λpl ns' hpl uY uf=>?_⟩;obtain⟨L',rfl,q1,q2⟩:=YNk uY uf;have spl:=YF.upd (o:=.lst<|(L'.map λk:Nat=>(k:Int)).map V.int) hpl;have hdp:d≠pl:=YS f1 hpl;refine⟨_,Z,_,Z,d,_,Z,.inr ⟨iC,gT t,tk,spl _ _ f1,Z,spl _ _ jQ,?_,Z⟩,?_⟩;have:iC.length=kvE.length:=by
  have:=fZ List.length f2;rw[YOS,YOS]at this;exact this
 rw[sizeLine_eq];lia;have vN:H d=none:=g2.nd;have kt:∀c ys,H3 c=some (.tup ys)->upd (upd H3 pl<|.lst<|(L'.map λk:Nat=>(k:Int)).map V.int) d (.dT<|Yu iC (gT t)<|.ref pl) c=some (.tup ys):=λc ys z=>by rw[YB<|Yg z f1 nofun];exact spl _ _ z
 have kl:∀c ys,H3 c=some (.lst ys)->upd (upd H3 pl<|.lst<|(L'.map λk:Nat=>(k:Int)).map V.int) d (.dT<|Yu iC (gT t)<|.ref pl) c=some (.lst ys):=λc ys z=>by rw[YB<|Yg z f1 nofun];exact spl _ _ z
 refine⟨_,_,Z,YA,(YDB z1 _).trans f2,(f3.trans spl).put vN,kl _ _ f4,⟨f5.1,λi' t' Ef y1 y2=>kt _ _<|f5.2 i' t' Ef y1 y2⟩,λb' o' e=>?_,λt'=>?_⟩;by_cases hb':b'=d;exact .inl hb';rw[YB hb']at e;exact(Yl Z b' o' e).elim (f6 b' o') .inr;by_cases gD:t'=t;subst gD;refine⟨L',q1.trans p1,λ_=>q2,.inr ⟨pl,by rw[Z1,if_pos Z],?_⟩⟩;rw[YB hdp.symm,YA,YPa];rfl;obtain⟨M,m1,m2,m3⟩:=f7 t';refine⟨M,m1,λDo=>m2 ?_,?_⟩;rw[YPA,YOd,ekv]at Do;rcases YOf.mp Do with z|z
 exact z;have:gT t'=kv.1:=YOT.mp z;rw[et]at this;exact absurd (YHb _ _ this) gD;rw[Z1,if_neg<|λz=>gD<|YHb _ _ z];exact m3.imp id λ⟨c,y1,y2⟩=>⟨c,y1,kl _ _ y2⟩;rintro σ H3 ⟨iC,v3,rfl,f1,f2,f3,f4,f5,f6,f7⟩;refine⟨_,Z,d,iC,f1,λob=>?_⟩;have vN:H d=none:=g2.nd;have kl:∀c ys,H3 c=some (.lst ys)->upd H3 d (.frz ob<|.dT iC) c=some (.lst ys):=λc ys z=>by rw[YB<|Yg z f1 nofun];exact z
 refine q d _ ⟨ob,iC,YA,λr dd ii=>?_⟩ (f3.put vN) λb' o' e=>?_;obtain⟨Du,p1,p2,p3⟩:=f7 (r,dd,ii);have hbb:∀k,Nd.beg r dd ii k∈Dl->k<=n:=λk=>hb r dd ii k;rcases p3 with ⟨z1,rfl⟩|⟨a,z1,z2⟩
 exact .inl ⟨(YEF hbb hnd p1 List.Pairwise.nil).symm,z1⟩;have Do:gT (r,dd,ii)∈(kvE.map (·.1)).take (ts.map V.ref).length:=by
  rw[YPw (by rw[YOS,YOS,ju.1];exact YOY _),<-f2];exact Cs.mp (by rw[z1];rfl)
 rw[<-YEF hbb hnd p1 (p2 Do)];exact .inr ⟨a,z1,kl _ _ z2⟩;by_cases hb':b'=d;subst hb';rw[YA]at e;cases e;rfl;rw[YB hb']at e;exact(f6 b' o' e).elim (λz=>absurd z hb') id
inductive YI7(C:Addr)(vs:List V)(H:L)(Q:VK):Prop
 |mk (x t:Addr)(g:YV)(z:Str)(Dl:List Nd)(top:Option Nd)(p:Str)(i j:Nat):vs=[.ref x,.ref t]->Xe C H x g z Dl top->H t=some (.tup ((Yd (.part p i j)).map kV))->da p=false->Nd.part p i j∈Dl->(∀a H',xf H' a (Yc g z.cps.size (eP Dl) (.part p i j))->H a=none->YF H H'->YW H H'->Q (.ref a) H')->YI7 C vs H Q
def YLJ(C:al):Sp:=λvs H Q E_=>YI7 C vs H Q
inductive YI8(C:Addr)(vs:List V)(H:L)(Q:VK):Prop
 |mk (x t:Addr)(g:YV)(z:Str)(Dl:List Nd)(top:Option Nd)(r d i j:Nat):vs=[.ref x,.ref t]->Xe C H x g z Dl top->H t=some (.tup ((Yd (.beg r d i j)).map kV))->Nd.beg r d i j∈Dl->(∀a H',xf H' a (Yc g z.cps.size (eP Dl) (.beg r d i j))->H a=none->YF H H'->YW H H'->Q (.ref a) H')->YI8 C vs H Q
def YLK(C:al):Sp:=λvs H Q E_=>YI8 C vs H Q
inductive YLL(C:Addr)(vs:List V)(H:L)(Q:VK):Prop
 |mk (x t:Addr)(g:YV)(z:Str)(Dl:List Nd)(top:Option Nd)(k:List c_):vs=[.ref x,.ref t]->Xe C H x g z Dl top->H t=some (.tup (k.map kV))->(∀nd,k=Yd nd->nd∈Dl->∀a H',xf H' a (Yc g z.cps.size (eP Dl) nd)->H a=none->YF H H'->YW H H'->Q (.ref a) H')->((∀nd∈Dl,k≠Yd nd)->∀a H',xf H' a []->H a=none->YF H H'->YW H H'->Q (.ref a) H')->YLL C vs H Q
def YHm(C:al):Sp:=λvs H Q E_=>YLL C vs H Q
theorem Zt:YJ [ay,aE,bE,cf,"whole"] [ay,aE]<|YG JY:=eQ
theorem YBq(T:Txt K mg C):Gd P w K mg bZ 1 "ways_of_name" "Wood.ways_of_name" JY [ay,aE]<|YLJ C.Wood:=by
 refine eT Zt λH Q E hr h=>?_;obtain⟨x,t,g,z,Dl,top,p,i,j,rfl,wd,ht,hq,Do,q⟩:=h;have hu:=ZZ hr;refine⟨_,(YE (c9 2 Zt<|Y6 Yp)
  (YE (fP (ZH K rfl<|JL hu (eA K<|S 0) (eR K (S 1) YC)<|λ_ _=>rfl) (fz 3 Zt) (YE (c9 4 Zt<|Y5<|Za (S 3)<|Za (fL K T.aF<|eR K (fB K (eA K<|S 0)<|S 3) YC)<|Za (eR K (S 1) YC)<|Za (eR K (S 1) YC) Yp)
  (YD<|Yj (Jw<|AG hu (S 4)<|eA K<|S 0) (YD<|Ya<|fX K (S 2)<|Y5<|bB<|S 4) YR)))
  (YD<|YM<|S 2))),?_⟩
 obtain⟨B,l,an,af,ae,rv,xs,U,hl,hds,⟨kvN,vO,hn2⟩,g_,⟨obF,kvF,sy,lF⟩,hen⟩:=wd.ex;have ht:H t=some (.tup [.str p,nV i,nV j]):=ht;obtain⟨c,R,e2⟩:∃c,Ye kvN (.inr p)=some (.ref c)/\H c=some (.lst<|(Yi g p).map nV):=by
  rcases hn2 p with ⟨e,_⟩|h
  exact absurd e<|YKC<|YNm (wd.lg _ Do) hq;exact h
 have hrl:(Yi g p).length<=60:=by
  have h1:(Yi g p).length<=(List.range g.length).length:=YPQ _ _;rw[YPM]at h1;have:=Xp wd.gr;lia
 refine⟨YK<|YOn _,λfl hfl=>?_⟩;have s0:=YF.upd (o:=.lst []) hfl;refine⟨_,Z,x,C.Wood,B,_,_,Z,s0 _ _ U,T.ak,T.eY,Z,_,Z,t,_,0,_,Z,Z,cy.of<|s0 _ _ ht,Z,an,.ref c,Z,.inl ⟨kvN,.inr p,.inl<|s0 _ _ vO,Z,R.symm⟩,c,Z,⟨_,aX.of<|s0 _ _ e2⟩,?_⟩;refine Zq (K:=K) (a:=c) (xs:=(Yi g p).map nV) (λm σ H2=>ki λ(bs:J al) (v3 v4:ah V)=>AC (σ=[some<|.ref x,some<|.ref t,some<|.ref fl,v3,v4]) (H2 fl=some (.lst<|bs.map V.ref)) (Xb H2 bs<|(((Yi g p).take m).filter λr=>eP Dl<|.beg r (ZF g r) i j).map λr=>[.beg r (ZF g r) i j]) (bs.length<=m) (YF H H2)<|YW H H2)
  ⟨[],none,none,Z,YA,.nil,YOY _,s0,YW.upd Z⟩ (by rintro m σ H2 _ ⟨bs,v3,v4,_,_,_,_,s2,_⟩;exact aX.of<|s2 _ _ e2) ?_ ?_
 rintro m v σ H2 hm ⟨bs,v3,v4,rfl,iw,wl,rO,s2,n2⟩;have jz:m<(Yi g p).length:=by
  have:=(YOX.mp hm).1;rw[YOS]at this;exact this
 rw[YOd]at hm;obtain⟨r,hr',rfl⟩:=YO2.mp hm;obtain⟨ru,er,_⟩:=ZV.mp<|YOc hr';obtain⟨tt,pp,ax,gD,hpp⟩:=JO hds er;have elr:=s_ er;dsimp only[Yh];refine⟨_,Z,_,Z,x,C.Wood,B,_,_,Z,s2 _ _ U,T.ak,T.aV,Z,_,Z,l,_,_,_,Z,Z,aX.of<|s2 _ _ hl,ax,tt,_,1,_,Z,Z,cy.of<|s2 _ _ gD,Z,pp,_,Z,.inr<|cy.of<|s2 _ _ hpp,_,Z,t,_,1,_,Z,Z,cy.of<|s2 _ _ ht,Z,_,Z,t,_,2,_,Z,Z,cy.of<|s2 _ _ ht,Z,kC,λtw yR=>?_⟩;have eo:HO.tup [nV r,V.int (((ru.2.1.map V.str).length:Nat):Int),nV i,nV j]=.tup ((Yd<|.beg r (ZF g r) i j).map kV):=by rw[YOS,<-elr];rfl
 have z1:YF H2<|upd H2 tw<|.tup [nV r,V.int (((ru.2.1.map V.str).length:Nat):Int),nV i,nV j]:=YF.upd yR;have n1:YW H2<|upd H2 tw<|.tup [nV r,V.int (((ru.2.1.map V.str).length:Nat):Int),nV i,nV j]:=YW.upd rfl;have hw:upd H2 tw (.tup [nV r,V.int (((ru.2.1.map V.str).length:Nat):Int),nV i,nV j]) tw=some (.tup<|(Yd<|.beg r (ZF g r) i j).map kV):=by rw[<-eo];exact YA
 revert z1 n1 hw;generalize upd H2 tw (.tup [nV r,V.int (((ru.2.1.map V.str).length:Nat):Int),nV i,nV j])=H3;intro z1 n1 hw;have s3:=s2.trans z1;refine⟨_,Z,_,Z,x,C.Wood,B,_,_,Z,s3 _ _ U,T.ak,T.bf,Z,af,_,Z,.inr ⟨kvF,_,tw,.inr ⟨obF,s3 _ _ sy⟩,Z,hw,Z⟩,_,Z,?_⟩;rw[lF.val];have wt:=YGq hr' (λr=>eP Dl<|.beg r (ZF g r) i j) λr=>[.beg r (ZF g r) i j];cases hb:eP Dl (.beg r (ZF g r) i j) with
 |false=>
  refine Yw ⟨bs,_,_,Z,z1 _ _ iw,?_,by lia,s3,n2.trans n1⟩;rw[wt,hb,if_neg YOu,YO6];exact wl.keep λ_ _=>z1 _ _
 |true=>
  refine ZC ⟨_,Z,.inl ⟨Z,_,aX.of<|z1 _ _ iw⟩,_,Z,mx,λt1 eU=>?_⟩;have z2:=YF.upd (o:=.tup [.ref tw]) eU;refine⟨fl,_,_,Z,Z,z2 _ _<|z1 _ _ iw,by rw[YOS,sizeLine_eq];lia,?_⟩;have kt:∀a ys,upd H3 t1 (.tup [.ref tw]) a=some (.tup ys)->upd (upd H3 t1<|.tup [.ref tw]) fl (.lst<|bs.map V.ref++[.ref t1]) a=some (.tup ys):=λa ys e=>by rw[YB<|Yg e (z2 _ _<|z1 _ _ iw) nofun];exact e
  refine⟨bs++[t1],_,_,Z,by rw[YA,YOk];rfl,?_,by rw[YOU];exact YPy rO,(s3.trans z2).put hfl,(n2.trans n1).trans<|(YW.upd rfl).trans<|YW.upd rfl⟩;rw[wt,hb,if_pos Z];exact((wl.keep λ_ _ e=>z2 _ _<|z1 _ _ e).snoc (ts:=[tw]) YA<|ZQ.snoc (ts:=[]) (ns:=[]) ⟨Z,λi t x e=>nomatch e⟩<|z2 _ _ hw).keep kt
 rintro σ H2 ⟨bs,v3,v4,rfl,iw,wl,rO,s2,n2⟩;refine⟨_,Z,q fl H2 ⟨bs,iw,?_⟩ hfl s2 n2⟩;rw[YOS,YPI]at wl;rw[Yc,hq,if_neg YOu];exact wl
theorem YZ:YJ [ay,aE,cf,"shorter","begin","end",cv,bE,"middle","last"] [ay,aE]<|YG Zx:=eQ
theorem YAM(T:Txt K mg C):Gd P w K mg bZ 1 "ways_of_beginning" "Wood.ways_of_beginning" Zx [ay,aE]<|YLK C.Wood:=by
 refine eT YZ λH Q E hr h=>?_;obtain⟨x,t,g,z,Dl,top,r,d,i,j,rfl,wd,ht,Do,q⟩:=h;have hu:=ZZ hr;refine⟨_,(YE (c9 2 YZ<|eR K (S 1) YC)
  (YE (c9 3 YZ<|YN AI (eR K (S 1) YC) YC)
  (YE (c9 4 YZ<|eR K (S 1) YC)
  (YE (c9 5 YZ<|eR K (S 1) YC)
  (YE (Yj (YT kK (S 3) YC<|YU _) (YD<|YM<|Y6<|bB<|Y5 Yp) YR)
  (YE (c9 6 YZ<|eR K (eR K (fB K (eA K<|S 0)<|S 2) YC)<|S 3)
  (YE (c9 7 YZ<|Y6 Yp)
  (YE (fP (ZH K rfl<|JL hu (eA K<|S 0) (Y5<|YI (S 2)<|YI (S 3)<|bB<|S 4)<|λ_ _=>rfl) (fz 8 YZ) (YE (c9 9 YZ<|Y5<|YI (S 6)<|YI (S 8)<|bB<|S 5)
  (YD<|Yj (Jw<|AG hu (S 9)<|eA K<|S 0) (YD<|Ya<|fX K (S 7)<|Y5<|YI (Y5<|Za (S 2)<|Za (S 3)<|Za (S 4)<|Za (S 8) Yp)<|bB<|S 9) YR)))
  (YD<|YM<|S 7))))))))),?_⟩
 obtain⟨B,l,an,af,ae,rv,xs,U,hl,hds,kI,g_,⟨obF,kvF,sy,lF⟩,⟨obE,kvE,yS,vP⟩⟩:=wd.ex;have ht:H t=some (.tup [nV r,nV d,nV i,nV j]):=ht;have sq:=cy.of (K:=K) ht;refine⟨_,Z,t,_,0,_,Z,Z,sq,Z,_,Z,t,_,1,_,Z,Z,sq,Z,_,_,Z,Z,_,Z,t,_,2,_,Z,Z,sq,Z,_,Z,t,_,3,_,Z,Z,sq,Z,_,Z,_,_,Z,Z,_,Z,?_⟩;cases d with
 |zero=>
  rw[de (show((0:Nat):Int)-1<0 by decide)];refine ZC ⟨YK<|YOn _,λt0 jR=>⟨mx,λfl hfl=>?_⟩⟩;have z1:=YF.upd (o:=.tup []) jR;have z2:=YF.upd (o:=.lst [.ref t0]) hfl;refine q fl _ ⟨[t0],YA,?_⟩ (z1.free hfl) (z1.trans z2)<|(YW.upd rfl).trans<|YW.upd rfl;rw[Yc];exact Xb.nil.snoc (ts:=[]) (z2 _ _ YA) ⟨Z,λi t x e=>nomatch e⟩
 |succ d=>
  have ed:((d+1:Nat):Int)-1=(d:Int):=by lia
  rw[dy (show ¬((d+1:Nat):Int)-1<0 by lia)];obtain⟨⟨ru,er,hdl⟩,hij,hjc⟩:=wd.lg _ Do;obtain⟨tt,pp,ax,gD,hpp⟩:=JO hds er;have hdl:d<ru.2.1.length:=hdl;have ep:ru.2.1[d]?=some ru.2.1[d]:=YOW hdl;generalize ru.2.1[d]=p at ep;have vI:Z6 g r d=p:=by unfold Z6 ZM;rw[er];show(ru.2.1[d]?).getD ""=p;rw[ep];rfl
  have apd:f_ (ru.2.1.map V.str) (((d+1:Nat):Int)-1)=some (.str p):=by rw[ed];exact Y2 (j:=d) (by rw[YOd,ep];rfl)
  refine Yw ⟨_,Z,x,C.Wood,B,_,_,Z,U,T.ak,T.aV,Z,_,Z,l,_,_,_,Z,Z,aX.of hl,ax,tt,_,1,_,Z,Z,cy.of gD,Z,_,Z,pp,_,_,_,Z,Z,cy.of hpp,apd,?_⟩;refine⟨YK<|YOn _,λfl hfl=>?_⟩;have s0:=YF.upd (o:=.lst []) hfl;obtain⟨c,R,e2⟩:∃c,Ye kvE (k3 r d i)=some (.ref c)/\H c=some (.lst<|(XC (eP Dl) z.cps.size r d i).map nV):=by
   rcases vP r d i with ⟨e,_⟩|h
   obtain⟨k,hk⟩:=wd.be r d i j Do;have lk:=wd.lg _ hk;have:k∈XC (eP Dl) z.cps.size r d i:=YO4.mpr ⟨YO9.mpr (by have:=lk.2.2;rw[YPD]at this;lia),de hk⟩;rw[e]at this;cases this;exact h
  have hel:(XC (eP Dl) z.cps.size r d i).length<=61:=by
   have h1:(XC (eP Dl) z.cps.size r d i).length<=(List.range<|z.cps.size+1).length:=YPQ _ _;rw[YPM]at h1;have:=wd.tx;unfold Zs at this;rw[YOl,fQ]at this;lia
  refine⟨_,Z,x,C.Wood,B,_,_,Z,s0 _ _ U,T.ak,T.dY,Z,_,Z,_,Z,_,Z,jS,λtk iH=>?_⟩;have sk:=YF.upd (o:=.tup [nV r,V.int<|((d+1:Nat):Int)-1,nV i]) iH;have nk:YW H<|upd (upd H fl<|.lst []) tk<|.tup [nV r,V.int<|((d+1:Nat):Int)-1,nV i]:=(YW.upd rfl).trans<|YW.upd rfl;have hk1:upd (upd H fl<|.lst []) tk (.tup [nV r,V.int<|((d+1:Nat):Int)-1,nV i]) tk=some (.tup<|(k3 r d i).map kV):=by rw[YA,ed];rfl
  have q9:upd (upd H fl<|.lst []) tk (.tup [nV r,V.int<|((d+1:Nat):Int)-1,nV i]) fl=some (.lst []):=sk _ _ YA;have s1:=s0.trans sk;revert s1 nk hk1 q9;generalize upd (upd H fl<|.lst []) tk (.tup [nV r,V.int<|((d+1:Nat):Int)-1,nV i])=H1;intro nk hk1 q9 s1;refine⟨ae,.ref c,Z,.inr ⟨kvE,_,tk,.inr ⟨obE,s1 _ _ yS⟩,Z,hk1,R.symm⟩,c,Z,⟨_,aX.of<|s1 _ _ e2⟩,?_⟩;refine Zq (K:=K) (a:=c) (xs:=(XC (eP Dl) z.cps.size r d i).map nV) (λm σ H2=>ki λ(bs:J al) (v8 v9:ah V)=>AC (σ=[some<|.ref x,some<|.ref t,some<|nV r,some<|V.int<|((d+1:Nat):Int)-1,some<|nV i,some<|nV j,some<|.str p,some<|.ref fl,v8,v9]) (H2 fl=some (.lst<|bs.map V.ref)) (Xb H2 bs<|(((XC (eP Dl) z.cps.size r d i).take m).filter λk=>eP Dl<|.part (Z6 g r d) k j).map λk=>[.beg r d i k,.part (Z6 g r d) k j]) (bs.length<=m) (YF H H2)<|YW H H2)
   ⟨[],none,none,Z,q9,.nil,YOY _,s1,nk⟩ (by rintro m σ H2 _ ⟨bs,v8,v9,_,_,_,_,s2,_⟩;exact aX.of<|s2 _ _ e2) ?_ ?_
  rintro m v σ H2 hm ⟨bs,v8,v9,rfl,iw,wl,rO,s2,n2⟩;have jz:m<(XC (eP Dl) z.cps.size r d i).length:=by
   have:=(YOX.mp hm).1;rw[YOS]at this;exact this
  rw[YOd]at hm;obtain⟨k,hk',rfl⟩:=YO2.mp hm;dsimp only[Yh];refine⟨_,Z,_,Z,_,Z,jS,λtw yR=>?_⟩;have z1:YF H2<|upd H2 tw<|.tup [.str p,nV k,nV j]:=YF.upd yR;have n1:YW H2<|upd H2 tw<|.tup [.str p,nV k,nV j]:=YW.upd rfl;have hw:upd H2 tw (.tup [.str p,nV k,nV j]) tw=some (.tup<|(Yd<|.part (Z6 g r d) k j).map kV):=by rw[vI];exact YA
  revert z1 n1 hw;generalize upd H2 tw (.tup [.str p,nV k,nV j])=H3;intro z1 n1 hw;have s3:=s2.trans z1;refine⟨_,Z,_,Z,x,C.Wood,B,_,_,Z,s3 _ _ U,T.ak,T.bf,Z,af,_,Z,.inr ⟨kvF,_,tw,.inr ⟨obF,s3 _ _ sy⟩,Z,hw,Z⟩,_,Z,?_⟩;rw[lF.val];have wt:=YGq hk' (λk=>eP Dl<|.part (Z6 g r d) k j) λk=>[.beg r d i k,.part (Z6 g r d) k j];cases hb:eP Dl (.part (Z6 g r d) k j) with
  |false=>
   refine Yw ⟨bs,_,_,Z,z1 _ _ iw,?_,by lia,s3,n2.trans n1⟩;rw[wt,hb,if_neg YOu,YO6];exact wl.keep λ_ _=>z1 _ _
  |true=>
   refine ZC ⟨_,Z,.inl ⟨Z,_,aX.of<|z1 _ _ iw⟩,_,Z,_,Z,_,Z,_,Z,kC,λt1 eU=>⟨_,Z,lp,λt2 jA=>?_⟩⟩;have z2:=YF.upd (o:=.tup [nV r,V.int<|((d+1:Nat):Int)-1,nV i,nV k]) eU;have z3:=YF.upd (o:=.tup [.ref t1,.ref tw]) jA;have h1:upd H3 t1 (.tup [nV r,V.int<|((d+1:Nat):Int)-1,nV i,nV k]) t1=some (.tup<|(Yd<|.beg r d i k).map kV):=by rw[YA,ed];rfl
   have z4:=z1.trans<|z2.trans z3;refine⟨fl,_,_,Z,Z,z4 _ _ iw,by rw[YOS,sizeLine_eq];lia,?_⟩;have nn:YW H3<|upd (upd H3 t1<|.tup [nV r,V.int<|((d+1:Nat):Int)-1,nV i,nV k]) t2<|.tup [.ref t1,.ref tw]:=(YW.upd rfl).trans<|YW.upd rfl;have pX:=z3 _ _<|z2 _ _ hw;have yU:=z3 _ _ h1;have yV:upd (upd H3 t1<|.tup [nV r,V.int<|((d+1:Nat):Int)-1,nV i,nV k]) t2 (.tup [.ref t1,.ref tw]) t2=some (.tup [.ref t1,.ref tw]):=YA;revert z4 nn pX yU yV;generalize upd (upd H3 t1<|.tup [nV r,V.int<|((d+1:Nat):Int)-1,nV i,nV k]) t2 (.tup [.ref t1,.ref tw])=H4;intro z4 nn pX yU yV;have kt:∀a ys,H4 a=some (.tup ys)->upd H4 fl (.lst<|bs.map V.ref++[.ref t2]) a=some (.tup ys):=λa ys e=>by rw[YB<|Yg e (z4 _ _ iw) nofun];exact e
   refine⟨bs++[t2],_,_,Z,by rw[YA,YOk];rfl,?_,by rw[YOU];exact YPy rO,(s2.trans z4).put hfl,(n2.trans n1).trans<|nn.trans<|YW.upd rfl⟩;rw[wt,hb,if_pos Z];have Eg:ZQ H4 [] []:=⟨Z,λi t x e=>nomatch e⟩;exact((wl.keep λ_ _ e=>z4 _ _ e).snoc (ts:=[t1,tw]) yV<|(Eg.snoc yU).snoc pX).keep kt
  rintro σ H2 ⟨bs,v8,v9,rfl,iw,wl,rO,s2,n2⟩;refine⟨_,Z,q fl H2 ⟨bs,iw,?_⟩ hfl s2 n2⟩;rw[YOS,YPI]at wl;rw[Yc];exact wl
theorem YHn:YJ [ay,aE] [ay,aE]<|YG YBp:=eQ
theorem YHo(T:Txt K mg C)(bh:Y4 P w K mg bZ 1 C.Wood "ways_of_beginning" [ay,aE]<|YLK C.Wood)(bV:Y4 P w K mg bZ 1 C.Wood "ways_of_name" [ay,aE]<|YLJ C.Wood):Gd P w K mg bZ 2 "ways" "Wood.ways" YBp [ay,aE]<|YHm C.Wood:=by
 refine eT YHn λH Q E hr h=>?_;obtain⟨x,t,g,z,Dl,top,k,rfl,wd,ht,q,q0⟩:=h;have hu:=ZZ hr;refine⟨_,(YE (Yj (Jw<|Jr hu (S 1)<|eA K<|S 0) (YD<|YM<|Y6 Yp) YR)
  (YE (Yj (YT Xm (fL K T.aF<|S 1) YC<|YU _) (YD<|YM<|fS (S 0) T.ak bh hr YQ<|bB<|S 1) YR)
  (YE (Yj (JI<|A3 K rfl PySem.F.plainAttrs_str PySem.F.slot_str_startswith PySem.F.type_str_startswith YAR (eR K (S 1) YC)<|bB Zf) (YD<|YM<|Y6<|bB<|Y5 Yp) YR)
  (YD<|YM<|fS (S 0) T.ak bV hr YQ<|bB<|S 1)))),?_⟩
 obtain⟨B,l,an,af,ae,rv,xs,U,hl,hds,kI,g_,⟨obF,kvF,sy,lF⟩,hen⟩:=wd.ex;refine⟨_,Z,_,Z,x,C.Wood,B,_,_,Z,U,T.ak,T.bf,Z,af,_,Z,.inr ⟨kvF,_,t,.inr ⟨obF,sy⟩,Z,ht,Z⟩,_,Z,?_⟩;by_cases hk:∃nd∈Dl,k=Yd nd
 case neg=>
  have hk':∀nd∈Dl,k≠Yd nd:=λnd h1 h2=>hk ⟨nd,h1,h2⟩;rw[lF.strange hk'];exact ZC ⟨YK<|YOn _,λfl hfl=>q0 hk' fl _ ⟨[],YA,.nil⟩ hfl (YF.upd hfl)<|YW.upd rfl⟩
 case pos=>
  obtain⟨nd,Do,rfl⟩:=hk;rw[lF.val,show eP Dl nd=true from de Do];refine Yw ?_;cases nd with
  |beg r d i j=>
   have ht':H t=some (.tup [nV r,nV d,nV i,nV j]):=ht;refine⟨_,Z,t,_,Z,.inr<|cy.of ht',Z,_,Z,?_⟩;rw[show decide (V.int (([nV r,nV d,nV i,nV j]:J V).length:Nat)=V.int 4)=true from de Z];exact ZC ⟨_,Z,x,B,_,Z,U,Z,_,Z,x,t,g,z,Dl,top,r,d,i,j,Z,wd,ht,Do,λa H' h1 h2 h3 h4=>q _ Z Do a H' h1 h2 h3 h4⟩
  |part p i j=>
   have ht':H t=some (.tup [.str p,nV i,nV j]):=ht;refine⟨_,Z,t,_,Z,.inr<|cy.of ht',Z,_,Z,?_⟩;rw[show decide (V.int (([.str p,nV i,nV j]:J V).length:Nat)=V.int 4)=false from dy (λh=>by injection h with h;have h:(3:Int)=4:=h;lia)];refine Yw ⟨_,Z,t,_,0,_,Z,Z,cy.of ht',Z,Z,p,"'",Z,Z,_,Z,?_⟩;show if da p=true then _ else _
   cases hq:da p with
   |true=>
    refine ZC ⟨YK<|YOn _,λt0 jR=>⟨mx,λfl hfl=>?_⟩⟩;have z1:=YF.upd (o:=.tup []) jR;have z2:=YF.upd (o:=.lst [.ref t0]) hfl;refine q _ Z Do fl _ ⟨[t0],YA,?_⟩ (z1.free hfl) (z1.trans z2)<|(YW.upd rfl).trans<|YW.upd rfl;rw[Yc,if_pos hq];exact Xb.nil.snoc (ts:=[]) (z2 _ _ YA) ⟨Z,λi t x e=>nomatch e⟩
   |false=>exact Yw ⟨_,Z,x,B,_,Z,U,Z,_,Z,x,t,g,z,Dl,top,p,i,j,Z,wd,ht,hq,Do,λa H' h1 h2 h3 h4=>q _ Z Do a H' h1 h2 h3 h4⟩
inductive YLM(C:Addr)(vs:List V)(H:L)(Q:VK):Prop
 |mk (x f B l an:Addr)(z:Str)(xs:List V)(g:YV)(o:Obj)(kvs:List (List c_×V))(Dl:List Nd):vs=[.ref x,.ref f]->H x=some (.ins C B [(aw,.ref l),(bq,.str z),(bi,.ref an)])->H l=some (.lst xs)->YX H xs (g.map ZW)->Zs z=true->H f=some (.frz o (.dT kvs))->JM kvs Dl->(∀v H',mB H' v (mm g z.cps.size Dl)->YF H H'->YW H H'->Q v H')->YLM C vs H Q
def YNz(C:al):Sp:=λvs H Q E_=>YLM C vs H Q
inductive YLN(C:Addr)(vs:List V)(H:L)(Q:VK):Prop
 |mk (x:Addr)(g:YV)(z:Str)(Dl:List Nd)(top:Option Nd):vs=[.ref x]->Xe C H x g z Dl top->(∀t,top=some t->t∈Dl)->Dl.Nodup->Dl.length<=2100000->YL H->(∀a o kvs bU H',H' a=some (.frz o (.dT kvs))->JM kvs bU->ZE g z.cps.size (eP Dl) top bU->bU.length<=Dl.length->YF H H'->YL H'->Q (.ref a) H')->YLN C vs H Q
def YN0(C:al):Sp:=λvs H Q E_=>YLN C vs H Q
inductive YI9(C:Addr)(vs:List V)(H:L)(Q:VK):Prop
 |mk (x:Addr)(g:YV)(z:Str)(Dl:List Nd)(top:Option Nd):vs=[.ref x]->Xe C H x g z Dl top->(∀a xs H',H a=none->H' a=some (.lst xs)->YX H' xs (g.map ZW)->YF H H'->YW H H'->Q (.ref a) H')->YI9 C vs H Q
def YHp(C:al):Sp:=λvs H Q E_=>YI9 C vs H Q
inductive YN1(C:Addr)(vs:List V)(H:L)(Q:VK):Prop
 |mk (x:Addr)(g:YV)(z:Str)(Dl:List Nd)(top:Option Nd):vs=[.ref x]->Xe C H x g z Dl top->(∀v,mB H v top->Q v H)->YN1 C vs H Q
def YLO(C:al):Sp:=λvs H Q E_=>YN1 C vs H Q
inductive YGz(C:Addr)(vs:List V)(H:L)(Q:VK):Prop
 |mk (x:Addr)(g:YV)(z:Str)(Dl:List Nd)(top:Option Nd):vs=[.ref x]->Xe C H x g z Dl top->(∀a ts H',H a=none->H' a=some (.lst (ts.map V.ref))->ZQ H' ts Dl->YF H H'->YW H H'->Q (.ref a) H')->YGz C vs H Q
def YN2(C:al):Sp:=λvs H Q E_=>YGz C vs H Q
inductive YLP(C CG CT:Addr)(vs:List V)(H:L)(Q:VK)(E:XK):Prop
 |mk (H0:L)(x B:Addr)(gv tv:V)(dg d:D):vs=[.ref x,gv,tv]->H x=some (.ins C B [])->H0 x=none->YF H0 H->YL H->ci H0 gv dg->dg.short=true->ci H0 tv d->d.short=true->(∀g z,dg=kz g->ZB g=true->d=.str z->Zs z=true->∀hs Dl H',JA g z.cps.toList hs->xM g z.cps.toList hs->ZE g z.cps.size (eP (hs.map (·.1))) (mm g z.cps.size (hs.map (·.1))) Dl->Xe C H' x g z Dl (mm g z.cps.size (hs.map (·.1)))->YF H0 H'->YL H'->Q .non H')->(Jh dg=false->∀H',YF H0 H'->YL H'->E (.ref CG) none H')->(Jh dg=true->sv d=false->∀H',YF H0 H'->YL H'->E (.ref CT) none H')->YLP C CG CT vs H Q E
def YN3(C CG CT:al):Sp:=λvs H Q E=>YLP C CG CT vs H Q E
theorem YBr:YJ [ay] [ay]<|YG JX:=eQ
theorem YBs(T:Txt K mg C):Gd P w K mg bZ 1 "told_grammar" "Wood.told_grammar" JX [ay]<|YHp C.Wood:=by
 refine eT YBr λH Q E hr h=>?_;obtain⟨x,g,z,Dl,top,rfl,wd,q⟩:=h;refine⟨_,(YD<|YM<|JR (XW K rfl) (by rfl) T.eZ YPL<|bB<|eA K<|S 0),?_⟩;obtain⟨B,l,an,af,ae,rv,xs,U,hl,hds,kI,g_,Qp,hen⟩:=wd.ex;refine⟨_,Z,x,C.Wood,B,_,_,Z,U,T.ak,T.aV,Z,?_⟩;refine⟨l,xs,Z,.inl<|aX.of hl,λa ha=>?_⟩;have s0:=YF.upd (o:=.lst xs) ha;exact q a xs _ ha YA (hds.same s0) s0<|YW.upd rfl
theorem YJA:YJ [ay] [ay]<|YG YCg:=eQ
theorem YJB(T:Txt K mg C):Gd P w K mg bZ 1 "top" "Wood.top" YCg [ay]<|YLO C.Wood:=by
 refine eT YJA λH Q E hr h=>?_;obtain⟨x,g,z,Dl,top,rfl,wd,q⟩:=h;refine⟨_,(YD<|YM<|eA K<|S 0),?_⟩;obtain⟨B,l,an,af,ae,rv,xs,U,hl,hds,kI,g_,Qp,hen⟩:=wd.ex;exact⟨_,Z,x,C.Wood,B,_,_,Z,U,T.ak,T.bN,Z,q _ g_⟩
theorem YF6:YJ [ay] [ay]<|YG YA9:=eQ
theorem YF7(T:Txt K mg C):Gd P w K mg bZ 1 "nodes" "Wood.nodes" YA9 [ay]<|YN2 C.Wood:=by
 refine eT YF6 λH Q E hr h=>?_;obtain⟨x,g,z,Dl,top,rfl,wd,q⟩:=h;refine⟨_,(YD<|YM<|JR (YBP rfl) (by rfl) T.eZ YPL<|bB<|eA K<|S 0),?_⟩;obtain⟨B,l,an,af,ae,rv,xs,U,hl,hds,kI,g_,⟨obF,kvF,sy,lF⟩,hen⟩:=wd.ex;refine⟨_,Z,x,C.Wood,B,_,_,Z,U,T.ak,T.bf,Z,af,kvF,Z,.inr ⟨obF,sy⟩,λa ts ha ju=>?_⟩;have s0:=YF.upd (o:=.lst<|ts.map V.ref) ha;refine q a ts _ ha YA ⟨by rw[ju.1,lF.len],λi t y R e2=>?_⟩ s0<|YW.upd rfl;obtain⟨kv,ekv⟩:∃kv,kvF[i]?=some kv:=⟨_,YOW (by rw[<-ju.1];exact(YOX.mp R).1)⟩;have:=fZ (λl=>l[i]?) lF;simp only[YOd,ekv,e2]at this;have e3:kv.1=Yd y:=YO3 this;rw[<-e3];exact s0 _ _<|ju.2 i t kv R ekv
theorem YAW:YJ [ay,aI,aE] [ay,aI]<|YG XM:=eQ
theorem YDH(T:Txt K mg C):Gd P w K mg bZ 1 "find_root" "Wood.find_root" XM [ay,aI]<|YNz C.Wood:=by
 refine eT YAW λH Q E hr h=>?_;obtain⟨x,f,B,l,an,z,xs,g,o,kvs,Dl,rfl,U,hl,hds,hz,hf,hk,q⟩:=h;have hu:=ZZ hr;refine⟨_,(YE (Yj (JW<|XH K rfl (eA K<|S 0)<|λ_=>rfl) (YD<|YM Z0) YR)
  (YE (c9 2 YAW<|Y5<|YI (eR K (fB K (eA K<|S 0) YC) YC)<|YI YC<|bB<|Yo JS (by rfl) T.aF YPV<|bB<|eA K<|S 0)
  (YD<|YM<|YEs (Jw<|AG hu (S 2)<|S 1) (S 2) Z0))),?_⟩
 have jw:xs.length=g.length:=by rw[hds.len,YOS]
 have qF:=hz;unfold Zs at qF;rw[YOl,fQ]at qF;cases g with
 |nil=>
  have:xs=[]:=YPR.mp jw;subst this;exact⟨_,Z,x,C.Wood,B,_,_,Z,U,T.ak,T.aV,Z,false,.inl ⟨_,aX.of hl,Z⟩,ZC<|q _ H (.inl ⟨Z,Z⟩) (YF.refl _)<|YW.refl _⟩
 |cons r0 Y1=>
  have hne:(!xs.isEmpty)=true:=by cases xs with|nil=>cases jw|cons a b=>rfl
  obtain⟨tt,pp,ax,gD,hpp⟩:=JO hds (k:=0) (r:=r0) Z;refine⟨_,Z,x,C.Wood,B,_,_,Z,U,T.ak,T.aV,Z,true,.inl ⟨_,aX.of hl,hne.symm⟩,Yw ?_⟩;refine⟨_,Z,x,C.Wood,B,_,_,Z,U,T.ak,T.aV,Z,l,_,_,_,Z,Z,aX.of hl,ax,tt,_,0,_,Z,Z,cy.of gD,Z,_,Z,x,C.Wood,B,_,_,Z,U,T.ak,T.gP,Z,z,Z,YK (by have:z.length=z.cps.size:=rfl;lia),jS,λtn jP=>?_⟩;have s0:=YF.upd (o:=.tup [.str r0.1,.int 0,.int (z.length:Int)]) jP;have hn:upd H tn (.tup [.str r0.1,.int 0,.int (z.length:Int)]) tn=some (.tup<|(Yd<|.part r0.1 0 z.cps.size).map kV):=YA;refine⟨_,Z,_,Z,f,_,Z,.inr ⟨kvs,_,tn,.inr ⟨o,s0 _ _ hf⟩,Z,hn,Z⟩,_,Z,?_⟩;rw[hk.val];cases hb:eP Dl (.part r0.1 0 z.cps.size) with
  |false=>exact Yw<|q _ _ (.inl ⟨if_neg (by rw[hb];exact YOu),Z⟩) s0<|YW.upd rfl
  |true=>exact ZC ⟨_,Z,q _ _ (.inr ⟨_,tn,if_pos hb,Z,hn⟩) s0<|YW.upd rfl⟩
theorem ZY:YJ [ay,bE,"waiting","upper","way",aE] [ay]<|YG XO:=eQ
theorem YDI(T:Txt K mg C)(aZ:Y4 P w K mg bZ 2 C.Wood "ways" [ay,aE]<|YHm C.Wood):Gd P w K mg bZ 3 "walk_down" "Wood.walk_down" XO [ay]<|YN0 C.Wood:=by
 refine eT ZY λH Q E hr h=>?_;obtain⟨x,g,z,Dl,top,rfl,wd,jP,hnd,hnl,hp,q⟩:=h;have hu:=ZZ hr;refine⟨_,(YE (c9 1 ZY Jz)
  (YE (c9 2 ZY<|Y6 Yp)
  (YE (Yj (YT AR (eA K<|S 0) Z0<|YU _) (YE (Jg hu (S 1) (eA K<|S 0) Jq Z)
  (YD<|Ya<|fX K (S 2)<|eA K<|S 0)) YR)
  (YE (Jx PassesOwn.never (XH K Z (S 2)<|λ_=>rfl) (YE (c9 3 ZY<|vS K rfl YPG YPc YPb xL<|S 2)
  (YD (fP (ZH K rfl<|fS (S 0) T.ak aZ hr YQ<|bB<|S 3) (fz 4 ZY) (YD (fP (CV K rfl<|S 4) (fz 5 ZY) (YD (Yj (Jw<|Jr hu (S 5)<|S 1) (YE (Jg hu (S 1) (S 5) Jq Z)
  (YD<|Ya<|fX K (S 2)<|S 5)) YR))))))))
  (YD<|YM<|YFN<|S 1))))),?_⟩
 obtain⟨B,l,an,af,ae,rv,xs,U,hl,hds,kI,g_,Qp,hen⟩:=wd.ex;refineλd hd=>⟨YK<|YOn _,λwl hwl=>?_⟩;have s0:YF H<|upd (upd H d<|.dT []) wl<|.lst []:=(YF.upd hd).trans<|YF.upd hwl;have hdw:d≠wl:=YS YA hwl;have Eh:H wl=none:=by rw[<-hwl,YB hdw.symm]
 have f0:ja H (upd (upd H d<|.dT []) wl<|.lst []) d wl [] []:=⟨s0,⟨[],by rw[YB hdw];exact YA,Z⟩,⟨[],YA,Z,λi t x e=>nomatch e⟩,hd,Eh,λb o e=>(Yl Z b o e).elim (λe=>(by by_cases hb:b=d;exact .inl hb;rw[YB hb]at e;exact .inr<|hp b o e)) .inr⟩;revert f0;generalize upd (upd H d<|.dT []) wl (.lst [])=H1;intro f0;have hx1:=f0.sm _ _ U;dsimp only[Yh];refine YNi (λσ' H'=>ki λbU wt v3=>xi (σ'=[some<|.ref x,some<|.ref d,some<|.ref wl,v3,none,none]) (ja H H' d wl bU wt)<|iI g z.cps.size (eP Dl) top bU wt) ?_ λY1=>?_
 case refine_2=>
  obtain⟨yW,tM,hk1⟩:=f0.h;rcases g_ with ⟨ht,rfl⟩|⟨nt,tt,ht,rfl,gD⟩
  refine⟨_,Z,x,C.Wood,B,_,_,Z,hx1,T.ak,T.bN,Z,Z,_,Z,?_⟩;rw[show(!decide (V.non=V.non))=false from fZ Bool.not (de Z)];refine Yw<|Y1 _ _ ⟨[],[],none,Z,f0,YPJ,(λx U=>nomatch U),(λt e=>?_),λ_=>rfl,(λx U=>nomatch U),(λx U=>nomatch U),(λx U=>nomatch U),YPJ⟩;rw[ht]at e;cases e;refine⟨_,Z,x,C.Wood,B,_,_,Z,hx1,T.ak,T.bN,Z,Z,_,Z,?_⟩;rw[show(!decide (V.ref tt=V.non))=true from fZ Bool.not (dy (λh=>by cases h))];have hn0:yW=[]:=by
   have:=hk1.len;exact YPR.mp this
  subst hn0;refine ZC ⟨_,Z,_,Z,x,C.Wood,B,_,_,Z,hx1,T.ak,T.bN,Z,d,_,Z,ib.t tM (f0.sm _ _ gD) (by rw[sizeLine_eq];decide),?_⟩;have f1:=f0.put tM (y:=nt) nofun (.bl true);revert f1;generalize upd H1 d (.dT<|Yu [] (Yd nt)<|.bl true)=H2;intro f1;obtain⟨Ei,sE,vO⟩:=f1.w;have ju:Ei=[]:=YPR.mp vO.1;subst ju;refine⟨_,Z,.inl ⟨Z,_,aX.of sE⟩,_,Z,x,C.Wood,B,_,_,Z,f1.sm _ _ U,T.ak,T.bN,Z,wl,_,_,Z,Z,sE,by rw[sizeLine_eq];decide,?_⟩;have f2:=f1.wait (ts':=[tt]) (wt':=[nt])<|ZQ.snoc (ts:=[]) (ns:=[]) ⟨Z,λi t x e=>nomatch e⟩<|f1.sm _ _ gD;refine Y1 _ _ ⟨[]++[nt],[nt],none,Z,f2,YOq.mpr ⟨nofun,YPJ⟩,λy hy=>?_,λt e=>?_,λe=>?_,λy hy=>hy,λy hy=>.inl hy,λy hy=>?_,YOq.mpr ⟨nofun,YPJ⟩⟩;cases YOT.mp hy;exact de<|jP _ ht;rw[ht]at e;cases e;exact YOT.mpr Z;rw[ht]at e;cases e;cases YOT.mp hy;exact⟨_,ht,.top⟩
 case refine_1=>
  rintro σ1 H2 ⟨yX,Ej,v3,rfl,f1,w1⟩;refine⟨λm σ H3=>Ex5 λbU wt v3 v4 v5=>xm (σ=[some<|.ref x,some<|.ref d,some<|.ref wl,v3,v4,v5]) (ja H H3 d wl bU wt) (iI g z.cps.size (eP Dl) top bU wt)<|m=2*(Dl.length-bU.length)+wt.length,⟨_,yX,Ej,v3,none,none,Z,f1,w1,Z⟩,?_⟩;rintro m σ H3 ⟨bU,wt,v3,v4,v5,rfl,f3,w3,rfl⟩;obtain⟨qy,uZ,rZ⟩:=f3.w;have hle:bU.length<=Dl.length:=ZN w3.nd λy hy=>fF<|w3.sub y hy;rcases Ji wt with rfl|⟨wt',u,rfl⟩
  have ju:qy=[]:=YPR.mp rZ.1;subst ju;refine⟨_,Z,false,.inl ⟨_,aX.of uZ,Z⟩,Yw ?_⟩;obtain⟨u0,nR,hk3⟩:=f3.h;refine⟨_,Z,d,u0,nR,λo=>q d o u0 bU _ YA hk3 w3.fin_ hle (f3.sm.put f3.nd) λb u e=>?_⟩;by_cases hb:b=d;subst hb;rw[YA]at e;cases e;rfl;rw[YB hb]at e;exact(f3.pl b u e).elim (λz=>absurd z hb) id
  ·obtain⟨iy,tu,rfl⟩:∃iy t4,qy=iy++[t4]:=by
    rcases Ji qy with rfl|h
    have:=rZ.1;rw[YOU]at this;simp at this;exact h
   obtain⟨nP,Qq⟩:=rZ.pop;have iQ:(!((iy++[tu]).map V.ref).isEmpty)=true:=by cases iy <;> rfl
   have pX:H3 wl=some (.lst<|iy.map V.ref++[.ref tu]):=by rw[uZ,YOk];rfl
   refine⟨_,Z,true,.inl ⟨_,aX.of uZ,iQ.symm⟩,ZC ⟨λσ' H'=>∃m',m'<_/\_,λ_ _ z=>z,?_⟩⟩;refine⟨_,Z,.inl ⟨Z,_,aX.of uZ⟩,wl,_,.ref tu,Z,Z,pX,(by simp),?_⟩;rw[YPg];have f4:=f3.wait nP;have rm:upd H3 wl (.lst<|iy.map V.ref) tu=some (.tup<|(Yd u).map kV):=by rw[YB<|Yg Qq uZ nofun];exact Qq
   revert f4 rm;generalize upd H3 wl (.lst<|iy.map V.ref)=H4;intro f4 rm;have Qs:u∈bU:=w3.wi u<|YOe _<|YOT.mpr rfl;have yZ:u∈Dl:=fF<|w3.sub u Qs;refine⟨_,Z,x,B,_,Z,f4.sm _ _ U,Z,_,Z,x,tu,g,z,Dl,top,Yd u,Z,wd.same f4.sm,rm,λnd e Do a H5 h1 h2 h3 h4=>?_,λhno=>absurd rfl<|hno u yZ⟩;cases J3 e;obtain⟨bs,nQ,vQ⟩:=h1;have f5:=f4.same h3 h4;obtain⟨_,Ek,_⟩:=f4.w;have haw:a≠wl:=(YS Ek h2).symm;obtain⟨_,El,_⟩:=f4.h;have had:a≠d:=(YS El h2).symm;refine⟨a,Z,⟨_,aX.of nQ⟩,Zq (K:=K) (a:=a) (xs:=bs.map V.ref) (λi σ H6=>ki λnew v4 v5=>AC (σ=[some<|.ref x,some<|.ref d,some<|.ref wl,some<|.ref tu,v4,v5]) (ja H H6 d wl (bU++new)<|wt'++new) (H6 a=some (.lst<|bs.map V.ref)) (Xb H6 bs<|Yc g z.cps.size (eP Dl) u) (kA g z.cps.size (eP Dl) top bU new) (∀i' w,i'<i->(Yc g z.cps.size (eP Dl) u)[i']?=some w->∀y∈w,y∈bU++new))
    ⟨[],v4,v5,Z,by rw[YO6,YO6];exact f5,nQ,vQ,⟨by rw[YO6];exact w3.nd,(λy hy=>nomatch hy)⟩,(λi' w hi=>nomatch hi)⟩ (by rintro i σ H6 _ ⟨new,v4,v5,_,_,h,_,_,_⟩;exact aX.of h) ?_ ?_⟩
   rintro i v σ H6 hi ⟨new,v4,v5,rfl,f6,u_,vd,vg,hc6⟩;rw[YOd]at hi;obtain⟨b,hbi,rfl⟩:=YO2.mp hi;obtain⟨w,hwi⟩:∃w,(Yc g z.cps.size (eP Dl) u)[i]?=some w:=⟨_,YOW (by rw[<-vd.1];exact(YOX.mp hbi).1)⟩;have Qt:=YOc hwi;obtain⟨ts,Qu,tU⟩:=vd.2 i b w hbi hwi;dsimp only[Yh];refine⟨_,Z,b,Z,⟨_,cy.of Qu⟩,nS (K:=K) (a:=b) (xs:=ts.map V.ref) (λj σ H7=>xN λnew v5=>An9 (σ=[some<|.ref x,some<|.ref d,some<|.ref wl,some<|.ref tu,some<|.ref b,v5]) (ja H H7 d wl (bU++new)<|wt'++new) (H7 a=some (.lst<|bs.map V.ref)) (Xb H7 bs<|Yc g z.cps.size (eP Dl) u) (H7 b=some (.tup<|ts.map V.ref)) (ZQ H7 ts w) (kA g z.cps.size (eP Dl) top bU new) ((∀i' w,i'<i->(Yc g z.cps.size (eP Dl) u)[i']?=some w->∀y∈w,y∈bU++new)) (∀j' y,j'<j->w[j']?=some y->y∈bU++new))
    ⟨new,v5,Z,f6,u_,vd,Qu,tU,vg,hc6,(λj' y hj=>nomatch hj)⟩ (by rintro j σ H7 _ ⟨new,v5,_,_,_,_,h,_,_,_,_⟩;exact cy.of h) ?_ ?_⟩
   rintro j v σ H7 hj ⟨new,v5,rfl,f7,sJ,nT,sO,kJ,tV,vR,y_⟩;rw[YOd]at hj;obtain⟨tn,jP,rfl⟩:=YO2.mp hj;obtain⟨y,hy⟩:∃y,w[j]?=some y:=⟨_,YOW (by rw[<-kJ.1];exact(YOX.mp jP).1)⟩;have mW:=kJ.2 j tn y jP hy;obtain⟨za,qH,vo⟩:=f7.h;have vU:=YOc hy;dsimp only[Yh];refine⟨_,Z,_,Z,d,_,Z,Xd.t qH mW,_,Z,?_⟩;rw[vo.val];have upto:∀{sS:J Nd},(∀c∈bU++new,c∈bU++sS)->y∈bU++sS->∀j' y',j'<j+1->w[j']?=some y'->y'∈bU++sS:=λhm Do j' y' Dm e=>by
    by_cases Em:j'=j;subst Em;rw[hy]at e;cases e;exact Do;exact hm _<|y_ j' y' (by lia) e
   by_cases mG:y∈bU++new;rw[show eP (bU++new) y=true from de mG];exact Yw ⟨new,_,Z,f7,sJ,nT,sO,kJ,tV,vR,upto (λc h=>h) mG⟩;rw[show eP (bU++new) y=false from dy mG];have Eo:eP Dl y=true:=YNj Qt vU;have wM:(bU++new).length<=Dl.length:=ZN tV.nd λc hc=>fF<|(YOf.mp hc).elim (w3.sub c) λz=>(tV.why c z).1;refine ZC ⟨_,Z,_,Z,d,_,Z,ib.t qH mW (by rw[sizeLine_eq,vo.len];lia),?_⟩;have f8:=f7.put qH mG<|.bl true;have kt:∀c ys,H7 c=some (.tup ys)->upd H7 d (.dT<|Yu za (Yd y)<|.bl true) c=some (.tup ys):=λc ys e=>by rw[YB<|Yg e qH nofun];exact e
   have zb:upd H7 d (.dT<|Yu za (Yd y)<|.bl true) a=some (.lst<|bs.map V.ref):=by rw[YB had];exact sJ
   revert f8 kt zb;generalize upd H7 d (.dT<|Yu za (Yd y)<|.bl true)=H8;intro f8 kt zb;obtain⟨zc,zf,Qv⟩:=f8.w;have Wb:wt'.length<=bU.length:=ZN (YPH.mp w3.wn).1 λc hc=>w3.wi c<|YOg _ hc;refine⟨_,Z,.inl ⟨Z,_,aX.of zf⟩,_,Z,wl,_,_,Z,Z,zf,?_,?_⟩;rw[YOS,Qv.1,YOU,sizeLine_eq];rw[YOU]at wM;lia;have f9:=f8.wait<|Qv.snoc<|kt _ _ mW;have e9:(zc++[tn]).map V.ref=zc.map V.ref++[V.ref tn]:=by rw[YOk];rfl
   rw[e9]at f9;have zg:∀c ys,H8 c=some (.tup ys)->upd H8 wl (.lst<|zc.map V.ref++[.ref tn]) c=some (.tup ys):=λc ys e=>by rw[YB<|Yg e zf nofun];exact e
   obtain⟨tp,jQ,Ep⟩:=w3.why u Qs;refine⟨new++[y],_,Z,by rw[<-YOw,<-YOw];exact f9,by rw[YB haw];exact zb,nT.keep λc ys e=>zg _ _<|kt _ _ e,zg _ _<|kt _ _ sO,kJ.keep λc ys e=>zg _ _<|kt _ _ e,tV.snoc mG ⟨Eo,tp,jQ,.step Ep Qt vU⟩,λi' w' Dm e y' hy'=>?_,upto (λc hc=>?_) ?_⟩;have:=vR i' w' Dm e y' hy';rw[<-YOw];exact YOg _ this;rw[<-YOw];exact YOg _ hc;rw[<-YOw];exact YOe _<|YOT.mpr rfl;rintro σ H7 ⟨new,v5,rfl,f7,sJ,nT,sO,kJ,tV,vR,y_⟩;refine⟨new,_,_,Z,f7,sJ,nT,tV,λi' w' Dm e y hy=>?_⟩;by_cases uV:i'=i;subst uV;rw[hwi]at e;cases e;obtain⟨j',hj'⟩:=YPY hy;exact y_ j' y (by rw[YOS,kJ.1];exact(YOX.mp hj').1) hj';exact vR i' w' (by lia) e y hy
   ·rintro σ H6 ⟨new,v4,v5,rfl,f6,u_,vd,vg,hc6⟩;have wN:(bU++new).length<=Dl.length:=ZN vg.nd λc hc=>fF<|(YOf.mp hc).elim (w3.sub c) λz=>(vg.why c z).1;refine⟨2*(Dl.length-(bU++new).length)+(wt'++new).length,?_,bU++new,wt'++new,_,_,_,Z,f6,w3.next vg λw hw y hy=>?_,Z⟩;rw[YOU,YOU,YOU];rw[YOU]at wN;show _<2*(Dl.length-bU.length)+(wt'.length+1);lia;obtain⟨i',hi'⟩:=YPY hw;exact hc6 i' w (by rw[YOS,vd.1];exact(YOX.mp hi').1) hi' y hy
theorem YAs:YJ [ay,db,bq,aI] [ay,db,bq]<|YG Xf:=eQ
theorem YDu(T:Txt K mg C)(gG:ZK P w K mg (fM P w) 8 "standing" [db,bq]<|YFa C.NoGrammar C.NoText)(cY:ZK P w K mg (fM P w) 7 "checked" [ba]<|YDf C.NoGrammar)(bw:ZK P w K mg (fM P w) 3 fy [ba]<|YCR C.NoText)(aP:ZK P w K mg bZ 1 fD [aw]<|YKU)(a_:ZK P w K mg bZ 1 gc ["nodes"]<|YLI)(cC:Y4 P w K mg bZ 1 C.Wood "find_root" [ay,aI]<|YNz C.Wood)(cD:Y4 P w K mg bZ 3 C.Wood "walk_down" [ay]<|YN0 C.Wood):Gd P w K mg (fM P w) 9 "__init__" "Wood.__init__" Xf [ay,db,bq]<|YN3 C.Wood C.NoGrammar C.NoText:=by
 refine iN YAs λH Q E hr h=>?_;obtain⟨H0,x,B,gv,tv,dg,d,rfl,U,hx0,s0,hp,denG,shG,denT,shT,q,qG,qT⟩:=h;refine gi ?_;refine⟨_,(YH ⟨(c9 3 YAs<|eW gG hr JE.on<|YI (S 1)<|bB<|S 2)⟩
  (YH ⟨(fO K (S 0)<|eW cY hr JE.on<|bB<|S 1)⟩
  (YH ⟨(fO K (S 0)<|eW bw hr JE.on<|bB<|S 2)⟩
  (YH ⟨(fO K (S 0)<|eW aP hr YQ<|bB<|eA K<|S 0)⟩
  (YH ⟨(fO K (S 0)<|fS (S 0) T.ak cC hr YQ<|bB<|S 3)⟩
  (YH ⟨(fO K (S 0)<|S 3)⟩
  (YH ⟨(fO K (S 0)<|eW a_ hr YQ<|bB<|S 3)⟩
  (YH ⟨(fO K (S 0)<|ic (S 0) T.ak cD hr YQ)⟩
  (ZI ⟨(fO K (S 0)<|eW a_ hr YQ<|bB<|eA K<|S 0)⟩))))))))),?_⟩
 refine⟨_,Z,_,Z,gv,tv,dg,d,Z,denG.same s0,shG,denT.same s0,shT,hp,λg z eg hg ez hz a o hs H1 st bs ha zj s1 p1=>?_,λe H' s' p'=>qG e H' (s0.trans s') p',λR e2 H' s' p'=>qT R e2 H' (s0.trans s') p'⟩;have qq:=q g z eg hg ez hz hs;subst eg ez;have t1:=s0.trans s1;have hx1:=s1 _ _ U;have qF:=hz;unfold Zs at qF;rw[YOl,fQ]at qF;have hcl:z.cps.toList.length=z.cps.size:=YPD;dsimp only[Yh];refine⟨_,Z,gv,kz g,Z,denG.same t1,shG,p1,λ_ l xs ds ed hds hl=>?_,λe=>qG e H1 t1 p1⟩;cases ed;have nxl:x≠l:=YS hx1 hl;have s2:=YF.upd (o:=.lst xs) hl;refine⟨_,Z,x,C.Wood,B,_,Z,s2 _ _ hx1,T.ak,T.aV,(show 0<1000 by decide),?_⟩;have i2:Yz H1<|upd (upd H1 l<|.lst xs) x<|.ins C.Wood B<|Yf aw (.ref l) []:=(Yz.of s2).trans<|Yz.set<|s2 _ _ hx1;have t2:YF H0<|upd (upd H1 l<|.lst xs) x<|.ins C.Wood B<|Yf aw (.ref l) []:=(t1.trans s2).put hx0;have p2:YL<|upd (upd H1 l<|.lst xs) x<|.ins C.Wood B<|Yf aw (.ref l) []:=(p1.upd rfl).upd rfl;have hx2:upd (upd H1 l<|.lst xs) x (.ins C.Wood B<|Yf aw (.ref l) []) x=some (.ins C.Wood B [(aw,.ref l)]):=YA;have hl2:upd (upd H1 l<|.lst xs) x (.ins C.Wood B<|Yf aw (.ref l) []) l=some (.lst xs):=by rw[YB nxl.symm];exact YA
 have hd2:=X7 i2 hds;have lF:upd (upd H1 l<|.lst xs) x (.ins C.Wood B<|Yf aw (.ref l) []) a=some (.frz o<|.dT<|fY hs):=i2.frz zj;revert t2 p2 hx2 hl2 hd2 lF;generalize upd (upd H1 l<|.lst xs) x (.ins C.Wood B<|Yf aw (.ref l) [])=H2;intro t2 p2 hx2 hl2 hd2 lF;refine⟨_,Z,tv,.str z,Z,denT.same t2,shT,p2,λz' Er _=>?_,λe=>?_⟩
 case refine_2=>
  have:sv (.str z)=Zs z:=rfl;rw[this,hz]at e;cases e
 cases Er;refine⟨_,Z,x,C.Wood,B,_,Z,hx2,T.ak,T.gP,(show 1<1000 by decide),?_⟩;have i3:Yz H2<|upd H2 x<|.ins C.Wood B<|Yf bq (.str z) [(aw,.ref l)]:=Yz.set hx2;have t3:YF H0<|upd H2 x<|.ins C.Wood B<|Yf bq (.str z) [(aw,.ref l)]:=t2.put hx0;have p3:YL<|upd H2 x<|.ins C.Wood B<|Yf bq (.str z) [(aw,.ref l)]:=p2.upd rfl;have jg:upd H2 x (.ins C.Wood B<|Yf bq (.str z) [(aw,.ref l)]) x=some (.ins C.Wood B [(aw,.ref l),(bq,.str z)]):=YA;have hl3:=i3.lst hl2;have nR:=X7 i3 hd2;have sU:=i3.frz lF;revert t3 p3 jg hl3 nR sU;generalize upd H2 x (.ins C.Wood B<|Yf bq (.str z) [(aw,.ref l)])=H3;intro t3 p3 jg hl3 nR sU;refine⟨_,Z,x,C.Wood,B,_,_,Z,jg,T.ak,T.aV,Z,l,xs,g,Z,hl3,nR,hg,p3,λan H4' kI s4 Es=>?_⟩;refine⟨_,Z,x,C.Wood,B,_,Z,s4 _ _ jg,T.ak,T.eY,(show 2<1000 by decide),?_⟩;have i4:Yz H4'<|upd H4' x<|.ins C.Wood B<|Yf bi (.ref an) [(aw,.ref l),(bq,.str z)]:=Yz.set<|s4 _ _ jg;have j4:=(Yz.of s4).trans i4;have t4:YF H0<|upd H4' x<|.ins C.Wood B<|Yf bi (.ref an) [(aw,.ref l),(bq,.str z)]:=(t3.trans s4).put hx0;have p4:YL<|upd H4' x<|.ins C.Wood B<|Yf bi (.ref an) [(aw,.ref l),(bq,.str z)]:=Es.upd rfl;have pU:upd H4' x (.ins C.Wood B<|Yf bi (.ref an) [(aw,.ref l),(bq,.str z)]) x=some (.ins C.Wood B [(aw,.ref l),(bq,.str z),(bi,.ref an)]):=YA;have nq:=j4.lst hl3;have jT:=X7 j4 nR;have nA:=j4.frz sU;have nP:=kI.sameI i4;revert t4 p4 pU nq jT nA nP;generalize upd H4' x (.ins C.Wood B<|Yf bi (.ref an) [(aw,.ref l),(bq,.str z)])=H4;intro t4 p4 pU nq jT nA nP;refine⟨_,Z,x,B,_,Z,pU,Z,_,Z,x,a,B,l,an,z,xs,g,o,fY hs,hs.map (·.1),Z,pU,nq,jT,hz,nA,JM.hs hs,λrv H5' g_ s5 n5=>?_⟩;have Et:=YL.new p4 n5;refine⟨_,Z,x,C.Wood,B,_,Z,s5 _ _ pU,T.ak,T.bN,(show 3<1000 by decide),?_⟩;refine⟨_,Z,_,Z,x,C.Wood,B,[(aw,.ref l),(bq,.str z),(bi,.ref an),(cc,rv)],Z,YA,T.ak,T.bf,(show 4<1000 by decide),?_⟩;rw[CQ];have i5:Yz H5'<|upd H5' x<|.ins C.Wood B<|Yf bE (.ref a) [(aw,.ref l),(bq,.str z),(bi,.ref an),(cc,rv)]:=Yz.set<|s5 _ _ pU;have j5:=(Yz.of s5).trans i5;have t5:YF H0<|upd H5' x<|.ins C.Wood B<|Yf bE (.ref a) [(aw,.ref l),(bq,.str z),(bi,.ref an),(cc,rv)]:=(t4.trans s5).put hx0;have p5:YL<|upd H5' x<|.ins C.Wood B<|Yf bE (.ref a) [(aw,.ref l),(bq,.str z),(bi,.ref an),(cc,rv)]:=Et.upd rfl;have nJ:upd H5' x (.ins C.Wood B<|Yf bE (.ref a) [(aw,.ref l),(bq,.str z),(bi,.ref an),(cc,rv)]) x=some (.ins C.Wood B [(aw,.ref l),(bq,.str z),(bi,.ref an),(cc,rv),(bE,.ref a)]):=YA;have zm:=j5.lst nq;have qI:=X7 j5 jT;have vV:=j5.frz nA;have rN:=nP.sameI j5;have rn:=g_.sameI i5;revert t5 p5 nJ zm qI vV rN rn;generalize upd H5' x (.ins C.Wood B<|Yf bE (.ref a) [(aw,.ref l),(bq,.str z),(bi,.ref an),(cc,rv)])=H5;intro t5 p5 nJ zm qI vV rN rn;have hlen:=YGr st hg (by rw[hcl];exact qF.1);have sV:∀r d i k,Nd.beg r d i k∈hs.map (·.1)->k<=z.cps.size:=λr d i k h=>by
  have:=(Cj st _ h).2.2;rw[hcl]at this;exact this
 refine⟨_,Z,a,o,fY hs,hs.map (·.1),z.cps.size,Z,vV,JM.hs hs,st.nd,hlen,qF.1,sV,p5,λae H6' hen s6 Eu=>?_⟩;refine⟨_,Z,x,C.Wood,B,_,Z,s6 _ _ nJ,T.ak,T.dY,(show 5<1000 by decide),?_⟩;have i6:Yz H6'<|upd H6' x<|.ins C.Wood B<|Yf cb (.ref ae) [(aw,.ref l),(bq,.str z),(bi,.ref an),(cc,rv),(bE,.ref a)]:=Yz.set<|s6 _ _ nJ;have j6:=(Yz.of s6).trans i6;have t6:YF H0<|upd H6' x<|.ins C.Wood B<|Yf cb (.ref ae) [(aw,.ref l),(bq,.str z),(bi,.ref an),(cc,rv),(bE,.ref a)]:=(t5.trans s6).put hx0;have p6:YL<|upd H6' x<|.ins C.Wood B<|Yf cb (.ref ae) [(aw,.ref l),(bq,.str z),(bi,.ref an),(cc,rv),(bE,.ref a)]:=Eu.upd rfl;have qC:upd H6' x (.ins C.Wood B<|Yf cb (.ref ae) [(aw,.ref l),(bq,.str z),(bi,.ref an),(cc,rv),(bE,.ref a)]) x=some (.ins C.Wood B [(aw,.ref l),(bq,.str z),(bi,.ref an),(cc,rv),(bE,.ref a),(cb,.ref ae)]):=YA;have lA:=j6.lst zm;have qJ:=X7 j6 qI;have zp:=j6.frz vV;have tU:=rN.sameI j6;have pH:=rn.sameI j6;have rA:=hen.sameI i6;revert t6 p6 qC lA qJ zp tU pH rA;generalize upd H6' x (.ins C.Wood B<|Yf cb (.ref ae) [(aw,.ref l),(bq,.str z),(bi,.ref an),(cc,rv),(bE,.ref a)])=H6;intro t6 p6 qC lA qJ zp tU pH rA;have Ew:Xe C.Wood H6 x g z (hs.map (·.1))<|mm g z.cps.size<|hs.map (·.1):=⟨⟨B,l,an,a,ae,rv,xs,qC,lA,qJ,tU,pH,⟨o,_,zp,JM.hs hs⟩,rA⟩,hg,hz,Cj st,λr d i j h=>let ⟨k,_,h1,_⟩:=YIl st r d i j h;⟨k,h1⟩⟩;have jP:∀t,mm g z.cps.size (hs.map (·.1))=some t->t∈hs.map (·.1):=λt e=>by
  unfold mm at e;split at e;cases e;split at e;rename_i h;cases e;exact fF h;cases e
 refine⟨_,Z,x,B,_,Z,qC,Z,x,g,z,hs.map (·.1),_,Z,Ew,jP,st.nd,hlen,p6,λaf of_ kvF Dl H7' Ex vo wk wO s7 Ey=>?_⟩;refine⟨_,Z,x,C.Wood,B,_,Z,s7 _ _ qC,T.ak,T.bf,(show 6<1000 by decide),?_⟩;have i7:Yz H7'<|upd H7' x<|.ins C.Wood B<|Yf bE (.ref af) [(aw,.ref l),(bq,.str z),(bi,.ref an),(cc,rv),(bE,.ref a),(cb,.ref ae)]:=Yz.set<|s7 _ _ qC;have j7:=(Yz.of s7).trans i7;have t7:YF H0<|upd H7' x<|.ins C.Wood B<|Yf bE (.ref af) [(aw,.ref l),(bq,.str z),(bi,.ref an),(cc,rv),(bE,.ref a),(cb,.ref ae)]:=(t6.trans s7).put hx0;have p7:YL<|upd H7' x<|.ins C.Wood B<|Yf bE (.ref af) [(aw,.ref l),(bq,.str z),(bi,.ref an),(cc,rv),(bE,.ref a),(cb,.ref ae)]:=Ey.upd rfl;have vp:upd H7' x (.ins C.Wood B<|Yf bE (.ref af) [(aw,.ref l),(bq,.str z),(bi,.ref an),(cc,rv),(bE,.ref a),(cb,.ref ae)]) x=some (.ins C.Wood B [(aw,.ref l),(bq,.str z),(bi,.ref an),(cc,rv),(bE,.ref af),(cb,.ref ae)]):=YA;have qK:=j7.lst lA;have qH:=X7 j7 qJ;have vW:=i7.frz Ex;have kJ:=tU.sameI j7;have rB:=pH.sameI j7;revert t7 p7 vp qK qH vW kJ rB;generalize upd H7' x (.ins C.Wood B<|Yf bE (.ref af) [(aw,.ref l),(bq,.str z),(bi,.ref an),(cc,rv),(bE,.ref a),(cb,.ref ae)])=H7;intro t7 p7 vp qK qH vW kJ rB;have vq:∀y∈Dl,y∈hs.map (·.1):=λy hy=>fF<|wk.sub y hy;refine⟨_,Z,x,C.Wood,B,_,_,Z,vp,T.ak,T.bf,Z,af,of_,kvF,Dl,z.cps.size,Z,vW,vo,wk.nd,YO1 wO hlen,qF.1,λr d i k h=>sV r d i k<|vq _ h,p7,λQw H8' wQ s8 Ez=>?_⟩;refine⟨_,Z,x,C.Wood,B,_,Z,s8 _ _ vp,T.ak,T.dY,(show 6<1000 by decide),?_⟩;have i8:Yz H8'<|upd H8' x<|.ins C.Wood B<|Yf cb (.ref Qw) [(aw,.ref l),(bq,.str z),(bi,.ref an),(cc,rv),(bE,.ref af),(cb,.ref ae)]:=Yz.set<|s8 _ _ vp;have j8:=(Yz.of s8).trans i8;refine qq Dl _ st bs wk ⟨⟨B,l,an,af,Qw,rv,xs,YA,j8.lst qK,X7 j8 qH,kJ.sameI j8,rB.sameI j8,⟨of_,kvF,j8.frz vW,vo⟩,wQ.sameI i8⟩,hg,hz,λy hy=>Cj st y<|vq y hy,λr d i j h=>?_⟩ ((t7.trans s8).put hx0)<|Ez.upd rfl;exact oj st (by rw[hcl];exact wk) r d i j h
def kD:c_->D
 |.inl i=>.int i
 |.inr s=>.str s
def iA(x:Nd):D:=.tup<|(Yd x).map kD
def sD(ws:J<|J Nd):D:=.lst<|ws.map λw=>.tup<|w.map iA
theorem YDv:∀ks:J c_,YX H (ks.map kV)<|ks.map kD
 |[]=>.nil
 |.inl i::ks=>.cons (.int _)<|YDv ks
 |.inr s::ks=>.cons (.str _)<|YDv ks
theorem YN4(h:H t=some (.tup<|(Yd x).map kV)):ci H (.ref t)<|iA x:=.tup h<|YDv _
theorem YFb:∀{ns:J Nd}{ts:J al},ZQ H ts ns->YX H (ts.map V.ref) (ns.map iA)
 |[],[],_=>.nil
 |[],_::_,h=>by cases h.1
 |_::_,[],h=>by cases h.1
 |n::ns,t::ts,h=>.cons (YN4<|h.2 0 t n rfl rfl)<|YFb ⟨Nat.succ.inj h.1,λi t' x R e2=>h.2 (i+1) t' x R e2⟩
theorem YG0:∀{ws:J (J Nd)}{bs:J al},Xb H bs ws->YX H (bs.map V.ref) (ws.map λw=>.tup<|w.map iA)
 |[],[],_=>.nil
 |[],_::_,h=>by cases h.1
 |_::_,[],h=>by cases h.1
 |w::ws,b::bs,h=>by
  obtain⟨ts,R,e2⟩:=h.2 0 b w Z rfl;exact .cons (.tup R<|YFb e2)<|YG0 ⟨Nat.succ.inj h.1,λi b' w' R e2=>h.2 (i+1) b' w' R e2⟩
theorem YN5(h:xf H a ws):ci H (.ref a)<|sD ws:=by
 obtain⟨bs,e,f⟩:=h;exact .lst (.inl e)<|YG0 f
theorem AF:∀ks:J c_,iF (ks.map kD)=true/\kr (ks.map kD)=0
 |[]=>⟨Z,Z⟩
 |.inl i::ks=>⟨by rw[YOv];unfold iF;rw[(AF ks).1];rfl,by rw[YOv];unfold kr;rw[(AF ks).2];rfl⟩
 |.inr s::ks=>⟨by rw[YOv];unfold iF;rw[(AF ks).1];rfl,by rw[YOv];unfold kr;rw[(AF ks).2];rfl⟩
theorem CP(x:Nd):(iA x).ok=true/\(iA x).dep=1:=⟨by unfold iA D.ok;exact(AF _).1,by unfold iA D.dep;rw[(AF _).2]⟩
theorem YKV{α:Type}{f:α->D}{m:Nat}:∀{l:J α},(∀a∈l,(f a).ok=true/\(f a).dep<=m)->iF (l.map f)=true/\kr (l.map f)<=m
 |[],_=>⟨Z,YOn _⟩
 |a::l,h=>by
  obtain⟨h1,h2⟩:=h a YOZ;obtain⟨h3,h4⟩:=YKV (l:=l) λb hb=>h b<|YOV _ hb;refine⟨?_,?_⟩;rw[YOv];unfold iF;rw[h1,h3];rfl;rw[YOv];unfold kr;exact Nat.max_le.mpr ⟨h2,h4⟩
theorem YLQ(ws:J<|J Nd):(sD ws).ok=true/\(sD ws).dep<=64:=by
 have hw:∀w:J Nd,(D.tup<|w.map iA).ok=true/\(D.tup<|w.map iA).dep<=2:=λw=>by
  obtain⟨h1,h2⟩:=YKV (f:=iA) (m:=1) (l:=w) λx _=>⟨(CP x).1,Nat.le_of_eq (CP x).2⟩;exact⟨by unfold D.ok;exact h1,by unfold D.dep;lia⟩
 obtain⟨h1,h2⟩:=YKV (f:=λw:J Nd=>D.tup<|w.map iA) (m:=2) (l:=ws) λw _=>hw w;exact⟨by unfold sD D.ok;exact h1,by unfold sD D.dep;lia⟩
theorem zk{H:L}{ts us:J al}{ns ms:J Nd}(h:ZQ H ts ns)(h2:ZQ H us ms):ZQ H (ts++us)<|ns++ms:=by
 refine⟨by rw[YOU,YOU,h.1,h2.1],λi t x R e2=>?_⟩;by_cases hi:i<ts.length;rw[YOr hi]at R;rw[YOr (by rw[<-h.1];exact hi)]at e2;exact h.2 i t x R e2;rw[YOm (by lia)]at R;rw[YOm (by rw[<-h.1];lia),<-h.1]at e2;exact h2.2 _ t x R e2
theorem oz(hg:ZB g=true)(hn:n<=60)(x:Nd):(Yc g n F x).length<=61:=by
 cases x with
 |part p i j=>
  rw[Yc];split;decide;rw[YOS];have h1:=YPQ (λr=>F<|.beg r (ZF g r) i j)<|Yi g p;have h2:(Yi g p).length<=(List.range g.length).length:=YPQ _ _;rw[YPM]at h2;have:=Xp hg;lia
 |beg r d i j=>
  cases d with
  |zero=>rw[Yc];decide
  |succ d=>
   rw[Yc,YOS];have h1:=YPQ (λk=>F<|.part (Z6 g r d) k j)<|XC F n r d i;have h2:(XC F n r d i).length<=(List.range<|n+1).length:=YPQ _ _;rw[YPM]at h2;lia
theorem YN6{ws:J (J Nd)}(h:∀w∈ws,w.length<=2):ws.flatten.length<=2*ws.length:=by
 induction ws with
 |nil=>exact YOY _
 |cons w ws ih=>
  rw[List.flatten_cons,YOU,YOx];have h1:=h w YOZ;have h2:=ih λv hv=>h v<|YOV _ hv;lia
theorem YN7{g:YV}{n:Nat}{F:Nd->Bool}{top:ah Nd}{Dl:J Nd}(wk:ZE g n F top Dl){t x:Nd}(ht:top=some t)(h:rS g n F t x):x∈Dl:=by
 induction h with
 |top=>exact wk.tp t ht
 |step _ hw hy ih=>exact wk.cl _ ih _ hw _ hy
abbrev Xg:Stmt:=top 43
abbrev Xh:Stmt:=Yv (top 44) 0
abbrev YAD:Stmt:=Yv (top 44) 1
abbrev YBA:Stmt:=Yv (top 44) 2
abbrev YBt:Stmt:=Yv (top 44) 3
abbrev YBu:Stmt:=Yv (top 44) 4
def im(g:YV)(n:Nat)(Dl:J Nd)(x:Nd):J Nd:=(Yc g n (eP Dl) x).flatten
theorem Cd{g:YV}{n:Nat}{F:Nd->Bool}{top:ah Nd}{Dl:J Nd}(wk:ZE g n F top Dl):∀x∈Dl,∀y∈im g n Dl x,y∈Dl:=λx U y hy=>by
 unfold im at hy;rw[YB6 wk U]at hy;obtain⟨w,hw,zq⟩:=YQB.mp hy;exact wk.cl x U w hw y zq
theorem y9{g:YV}{n:Nat}{F:Nd->Bool}{top:ah Nd}{Dl left:J Nd}(wk:ZE g n F top Dl)(ht:∀t,top=some t->t∈left)(hc:∀x∈left,∀y∈im g n Dl x,y∈left):∀x∈Dl,x∈left:=λx U=>by
 obtain⟨t,et,hr⟩:=wk.why x U
 induction hr with
 |top=>exact ht t et
 |@step x w y h1 hw hy ih=>
  have U:=YN7 wk et h1;refine hc x (ih U) y ?_;unfold im;rw[YB6 wk U];exact YQB.mpr ⟨w,hw,hy⟩
theorem YMR(h:w∈Yc g n F x):w.length<=2:=by
 cases x with
 |part p i j=>
  rw[Yc]at h;split at h;rw[YOT.mp h];exact YOn _;obtain⟨r,_,rfl⟩:=YOt.mp h;exact YPn _
 |beg r d i j=>
  cases d with
  |zero=>rw[Yc]at h;rw[YOT.mp h];exact YOn _
  |succ d=>
   rw[Yc]at h;obtain⟨k,_,rfl⟩:=YOt.mp h;exact YOY _
inductive YFc(CW:Addr)(vs:List V)(H:L)(Q:VK):Prop
 |mk (wd t:Addr)(g:YV)(z:Str)(Dl:List Nd)(top:Option Nd)(y:Nd):vs=[.ref wd,.ref t]->Xe CW H wd g z Dl top->H t=some (.tup ((Yd y).map kV))->y∈Dl->(∀a H',j3 H' a (im g z.cps.size Dl y)->H a=none->YF H H'->Q (.ref a) H')->YFc CW vs H Q
def YG1(CW:al):Sp:=λvs H Q E_=>YFc CW vs H Q
inductive YG2(C CW:Addr)(vs:List V)(H:L)(Q:VK):Prop
 |mk (H0:L)(x wd a1 a2 a3 a4 a5 t:Addr)(us ms:List Addr)(p:List Nd)(un:List (List Nd))(f3 f4:Nd->Option V)(left:List Nd)(met:Option (List Nd))(g:YV)(z:Str)(Dl:List Nd)(top:Option Nd)(y:Nd):vs=[.ref x,.ref t]->ft C H0 H x wd a1 a2 a3 a4 a5 us ms p un f3 f4 left met->Xe CW H0 wd g z Dl top->H t=some (.tup ((Yd y).map kV))->y∈Dl->p.length<=3000000->us.length<=3000000->(∀y,(f3 y).isSome=true->y∈Dl)->Dl.length<=3000000->(∀jN H',ft C H0 H' x wd a1 a2 a3 a4 a5 jN ms (p++[y]) (un++[im g z.cps.size Dl y]) (λz=>if z=y then some (.bl true) else f3 z) f4 left met->Q .non H')->YG2 C CW vs H Q
def YFd(C CW:al):Sp:=λvs H Q E_=>YG2 C CW vs H Q
inductive YLR(C:Addr)(vs:List V)(H:L)(Q:VK):Prop
 |mk (H0:L)(x wd a1 a2 a3 a4 a5 u:Addr)(us ms:List Addr)(p:List Nd)(y:Nd)(un:List (List Nd))(l:List Nd)(f3 f4:Nd->Option V)(left:List Nd)(met:Option (List Nd))(N:List Nd):vs=[.ref x]->ft C H0 H x wd a1 a2 a3 a4 a5 (us++[u]) ms (p++[y]) (un++[l]) f3 f4 left met->left.length<=3000000->(y∈N/\∀y,(f3 y).isSome=true->y∈N)->(∀y,(f4 y).isSome=true->y∈N)->(N.length<=3000000/\∀y∈p,y∈N)->((f4 y).isSome=false\/p=[]->∀H',ft C H0 H' x wd a1 a2 a3 a4 a5 us ms p un (λz=>if z=y then some (.bl false) else f3 z) f4 (left++[y]) met->Q .non H')->(∀p' k,(f4 y).isSome=true->p=p'++[k]->∀H',ft C H0 H' x wd a1 a2 a3 a4 a5 us ms p un (λz=>if z=y then some (.bl false) else f3 z) (λz=>if z=k then some (.bl true) else f4 z) (left++[y]) met->Q .non H')->YLR C vs H Q
def YN8(C:al):Sp:=λvs H Q E_=>YLR C vs H Q
theorem XQ:YJ [bp,aE,bE,"way"] [bp,aE]<|YG Xg:=eQ
theorem YDw(T:Txt K mg C)(aZ:Y4 P w K mg bZ 2 C.Wood "ways" [ay,aE]<|YHm C.Wood):Gd P w K mg bZ 3 "nodes_beneath" "nodes_beneath" Xg [bp,aE]<|YG1 C.Wood:=by
 refine eT XQ λH Q E hr h=>?_;obtain⟨wd,t,g,z,Dl,top,y,rfl,wa,ht,Do,q⟩:=h;have hu:=ZZ hr;refine⟨_,(YE (c9 2 XQ<|Y6 Yp)
  (YE (fP (ZH K rfl<|fS (S 0) T.ak aZ hr YQ<|bB<|S 1) (fz 3 XQ)<|YD<|Ya<|A3 K rfl YPG PySem.F.slot_list_extend PySem.F.type_list_extend (YKD K rfl) (S 2)<|bB<|S 3)
  (YD<|YM<|S 2))),?_⟩
 obtain⟨B,l,an,af,ae,rv,xs,U,_⟩:=wa.ex;refine⟨YK<|YOn _,λfl hfl=>?_⟩;have s0:=YF.upd (o:=.lst []) hfl;have wR:z.cps.size<=60:=by
  have:=wa.tx;unfold Zs at this;rw[YOl,fQ]at this;lia
 have wU:=oz (F:=eP Dl) wa.gr wR y;have zr:∀w∈Yc g z.cps.size (eP Dl) y,w.length<=2:=λw=>YMR;dsimp only[Yh];refine⟨_,Z,wd,B,_,Z,s0 _ _ U,Z,_,Z,wd,t,g,z,Dl,top,Yd y,Z,wa.same s0,s0 _ _ ht,λnd e Wc a H5 h1 h2 h3 h4=>?_,λhno=>absurd rfl<|hno y Do⟩;cases J3 e;obtain⟨bs,nQ,vQ⟩:=h1;have wV:H5 fl=some (.lst []):=h3 _ _ YA;have haf:a≠fl:=(YS (show upd H fl (.lst []) fl=some (.lst []) from YA) h2).symm;unfold im at q;generalize Yc g z.cps.size (eP Dl) y=ws at vQ wU zr q;have accl:∀i,((ws.take i).flatten).length<=122:=λi=>by
  have h7:=YN6 (ws:=ws.take i) λw hw=>zr w<|YPp hw;have h8:(ws.take i).length<=ws.length:=by rw[YPK];lia
  lia
 refine⟨a,Z,⟨_,aX.of nQ⟩,Zq (K:=K) (a:=a) (xs:=bs.map V.ref) (λi σ H7=>Ex1 λv3=>CU (σ=[some<|.ref wd,some<|.ref t,some<|.ref fl,v3]) (j3 H7 fl (ws.take i).flatten) (H7 a=some (.lst<|bs.map V.ref)) (Xb H7 bs ws)<|YF H H7)
  ⟨_,Z,⟨[],wV,Z,λi t x e=>nomatch e⟩,nQ,vQ,s0.trans h3⟩ (by rintro i σ H7 _ ⟨v5,_,_,h,_,_⟩;exact aX.of h) ?_ ?_⟩
 rintro i v σ H7 hi ⟨v3,rfl,⟨tsw,zu,Qx⟩,sJ,nT,s7⟩;rw[YOd]at hi;obtain⟨b,hbi,rfl⟩:=YO2.mp hi;obtain⟨w',hwi⟩:∃w',ws[i]?=some w':=⟨_,YOW (by rw[<-nT.1];exact(YOX.mp hbi).1)⟩;obtain⟨ts,sO,kJ⟩:=nT.2 i b w' hbi hwi;dsimp only[Yh];refine⟨_,Z,.inl ⟨Z,_,aX.of zu⟩,_,Z,fl,b,_,_,Z,Z,zu,cy.of sO,?_,?_⟩;rw[YOS,YOS,Qx.1,kJ.1,sizeLine_eq];have:=accl i;have:=zr w'<|YOc hwi;lia;have kt:∀c ys,H7 c=some (.tup ys)->upd H7 fl (.lst<|tsw.map V.ref++ts.map V.ref) c=some (.tup ys):=λc ys=>YY zu nofun;refine⟨_,Z,⟨tsw++ts,by rw[YA,YOk],?_⟩,ZR haf sJ,nT.keep kt,s7.put hfl⟩;rw[YPA,hwi,List.flatten_append];show ZQ _ _ (_++([w']:J<|J Nd).flatten);rw[List.flatten_cons,List.flatten_nil,YO6];exact(zk Qx kJ).keep kt;rintro σ H7 ⟨v3,rfl,qK,sJ,nT,s7⟩;rw[YOS,nT.1,YPI]at qK;exact⟨_,Z,q fl H7 qK hfl s7⟩
theorem YEV:YJ [ay,aE] [ay,aE]<|YG YAD:=eQ
theorem YEW(T:Txt K mg C)(cO:ZK P w K mg bZ 3 "nodes_beneath" [bp,aE]<|YG1 C.Wood):Gd P w K mg bZ 4 "go_down" "Walk.go_down" YAD [ay,aE]<|YFd C.Walk C.Wood:=by
 refine eT YEV λH Q E hr h=>?_;obtain⟨H0,x,wd,a1,a2,a3,a4,a5,t,us,ms,p,un,f3,f4,left,met,g,z,Dl,top,y,rfl,ws,wa,ht,hy,hpl,vK,sU,hnl,q⟩:=h;have hu:=ZZ hr;refine⟨_,(YE (Jg hu (eA K<|S 0) (S 1) Jq Z)
  (YE (Ya<|fX K (eA K<|S 0)<|S 1)
  (YD<|Ya<|fX K (eA K<|S 0)<|eW cO hr YQ<|YI (eA K<|S 0)<|bB<|S 1))),?_⟩
 obtain⟨B,mv,U,_⟩:=ws.x_;obtain⟨k3,e3,d3⟩:=ws.h3;have hl3:=d3.len sU;refine⟨_,Z,x,C.Walk,B,_,_,Z,U,T.aq,T.aY,Z,_,Z,a3,_,Z,ib.t e3 ht (by rw[sizeLine_eq];lia),?_⟩;have w1:=ws.set3 e3 y<|.bl true;have eU:upd H a3 (.dT<|Yu k3 (Yd y)<|.bl true) t=some (.tup<|(Yd y).map kV):=YY e3 nofun ht;revert w1 eU;generalize upd H a3 (.dT<|Yu k3 (Yd y)<|.bl true)=H1;intro w1 eU;obtain⟨B,mv,U,_⟩:=w1.x_;obtain⟨t1,R,n1⟩:=w1.h1;refine⟨_,Z,x,C.Walk,B,_,_,Z,U,T.aq,T.aM,Z,.inl ⟨Z,_,aX.of R⟩,_,Z,a1,_,_,Z,Z,R,(by rw[YOS,n1.1,sizeLine_eq];lia),?_⟩;have w2:=w1.set1<|n1.snoc eU;have jA:upd H1 a1 (.lst<|t1.map V.ref++[.ref t]) t=some (.tup<|(Yd y).map kV):=YY R nofun eU;have ee:(t1++[t]).map V.ref=t1.map V.ref++[.ref t]:=YOk;rw[ee]at w2;revert w2 jA;generalize upd H1 a1 (.lst<|t1.map V.ref++[.ref t])=H2;intro w2 jA;obtain⟨B,mv,U,_⟩:=w2.x_;refine⟨_,Z,x,C.Walk,B,_,_,Z,U,T.aq,T.cg,Z,.inl ⟨Z,_,aX.of w2.h2⟩,_,Z,x,C.Walk,B,_,_,Z,U,T.aq,T.gQ,Z,_,Z,wd,t,g,z,Dl,top,y,Z,wa.same w2.sm,jA,hy,λa H3 h1 h2 h3=>?_⟩;have w3:=w2.same h3;refine⟨a2,_,_,Z,Z,w3.h2,(by rw[YOS,sizeLine_eq];lia),?_⟩;have w4:=w3.push h1 (w2.sm.free h2) λhm=>?_;rw[show(us++[a]).map V.ref=us.map V.ref++[.ref a] from YOk]at w4;exact q _ _ w4;exact w2.there hm h2
theorem YCH:YJ [ay,aE] [ay]<|YG YBA:=eQ
theorem YF8(T:Txt K mg C):Gd P w K mg bZ 1 "go_up" "Walk.go_up" YBA [ay]<|YN8 C.Walk:=by
 refine eT YCH λH Q E hr h=>?_;obtain⟨H0,x,wd,a1,a2,a3,a4,a5,u,us,ms,p,y,un,l,f3,f4,left,met,N,rfl,ws,hll,sU,nA,hN,q0,q1⟩:=h;have hu:=ZZ hr;refine⟨_,(YE (c9 1 YCH<|vS K rfl YPG YPc YPb xL<|eA K<|S 0)
  (YE (Ya<|vS K rfl YPG YPc YPb xL<|eA K<|S 0)
  (YE (Jg hu (eA K<|S 0) (S 1) Jq Z)
  (YE (Ya<|fX K (eA K<|S 0)<|S 1)
  (YD<|Yj (PW.pt<|ng (Jw<|AG hu (S 1)<|eA K<|S 0)<|sw<|XH K rfl (eA K<|S 0)<|λ_=>rfl) (YD<|Jg hu (eA K<|S 0) (fB K (eA K<|S 0)<|A4 AW YC) Jq rfl) YR))))),?_⟩
 obtain⟨B,mv,U,_⟩:=ws.x_;obtain⟨pR,R,n1⟩:=ws.h1;obtain⟨t1,t,rfl⟩:∃t1 t,pR=t1++[t]:=by
  rcases Ji pR with rfl|h
  have:=n1.1;rw[YOU]at this;simp at this;exact h
 obtain⟨n1,ht⟩:=n1.pop;have e1':H a1=some (.lst<|t1.map V.ref++[.ref t]):=by rw[R,YOk];rfl
 refine⟨_,Z,x,C.Walk,B,_,_,Z,U,T.aq,T.aM,Z,.inl ⟨Z,_,aX.of R⟩,a1,_,.ref t,Z,Z,e1',(by simp),?_⟩;rw[YPg];have w1:=ws.set1 n1;have eU:upd H a1 (.lst<|t1.map V.ref) t=some (.tup<|(Yd y).map kV):=YY R nofun ht;revert w1 eU;generalize upd H a1 (.lst<|t1.map V.ref)=H1;intro w1 eU;obtain⟨B,mv,U,_⟩:=w1.x_;have e2:=w1.h2;have EY:H1 a2=some (.lst<|us.map V.ref++[.ref u]):=by rw[e2,YOk];rfl
 dsimp only[Yh];refine⟨_,Z,x,C.Walk,B,_,_,Z,U,T.aq,T.cg,Z,.inl ⟨Z,_,aX.of e2⟩,a2,_,.ref u,Z,Z,EY,(by simp),?_⟩;rw[YPg];have w2:=w1.pop;have jA:upd H1 a2 (.lst<|us.map V.ref) t=some (.tup<|(Yd y).map kV):=YY e2 nofun eU;revert w2 jA;generalize upd H1 a2 (.lst<|us.map V.ref)=H2;intro w2 jA;obtain⟨B,mv,U,_⟩:=w2.x_;obtain⟨k3,e3,d3⟩:=w2.h3;have hl3:=d3.len sU.2;refine⟨_,Z,x,C.Walk,B,_,_,Z,U,T.aq,T.aY,Z,_,Z,a3,_,Z,ib.t e3 jA (by rw[sizeLine_eq];lia),?_⟩;have w3:=w2.set3 e3 y<|.bl false;have lQ:upd H2 a3 (.dT<|Yu k3 (Yd y)<|.bl false) t=some (.tup<|(Yd y).map kV):=YY e3 nofun jA;revert w3 lQ;generalize upd H2 a3 (.dT<|Yu k3 (Yd y)<|.bl false)=H3;intro w3 lQ;obtain⟨B,mv,U,_⟩:=w3.x_;obtain⟨t5,e5,n5⟩:=w3.h5;refine⟨_,Z,x,C.Walk,B,_,_,Z,U,T.aq,T.dZ,Z,.inl ⟨Z,_,aX.of e5⟩,_,Z,a5,_,_,Z,Z,e5,(by rw[YOS,n5.1,sizeLine_eq];lia),?_⟩;have w4:=w3.set5<|n5.snoc lQ;have jc:upd H3 a5 (.lst<|t5.map V.ref++[.ref t]) t=some (.tup<|(Yd y).map kV):=YY e5 nofun lQ;rw[show(t5++[t]).map V.ref=t5.map V.ref++[.ref t] from YOk]at w4;revert w4 jc;generalize upd H3 a5 (.lst<|t5.map V.ref++[.ref t])=H4;intro w4 jc;obtain⟨B,mv,U,_⟩:=w4.x_;obtain⟨k4,e4,d4⟩:=w4.h4;have nq:=d4.len nA;obtain⟨iy,Qy,zx⟩:=w4.h1;refine⟨_,Z,_,Z,x,C.Walk,B,_,_,Z,U,T.aq,T.bC,Z,a4,_,Z,.inr ⟨k4,_,t,.inl e4,Z,jc,Z⟩,?_⟩;refine⟨_,Z,?_⟩;obtain⟨_,_,_,zy⟩:=id d4;rw[zy y];cases hb:(f4 y).isSome with
 |false=>exact Yw<|Yw<|q0 (.inl hb) _ w4
 |true=>
  refine ZC ⟨_,Z,x,C.Walk,B,_,_,Z,U,T.aq,T.aM,Z,!(iy.map V.ref).isEmpty,.inl ⟨_,aX.of Qy,Z⟩,?_⟩;rcases Ji p with rfl|⟨p',k,rfl⟩
  have ju:iy=[]:=YPR.mp zx.1;subst ju;exact Yw<|q0 (.inr rfl) _ w4;obtain⟨t6,tk,rfl⟩:∃t6 tk,iy=t6++[tk]:=by
   rcases Ji iy with rfl|h
   have:=zx.1;rw[YOU]at this;simp at this;exact h
  obtain⟨n6,iH⟩:=zx.pop;rw[show(!((t6++[tk]).map V.ref).isEmpty)=true by cases t6 <;> rfl];refine ZC ⟨_,Z,x,C.Walk,B,_,_,Z,U,T.aq,T.bC,Z,_,Z,x,C.Walk,B,_,_,Z,U,T.aq,T.aM,Z,1,Z,a1,_,_,.ref tk,Z,Z,aX.of Qy,?_,a4,_,Z,ib.t e4 iH (by have:=hN.1;rw[sizeLine_eq];lia),?_⟩;rw[YOk];exact YCr _ _;exact q1 p' k hb Z _<|w4.set4 e4 k<|.bl true
theorem YMS(xs:J V)(n:Nat)(h:n<=xs.length):ka xs (some (n:Int)) none=xs.drop n:=by
 unfold ka;rw[HT.sIx_nat,HT.sIx_none,Nat.min_eq_left h,YPw (by rw[YPT];exact YOY _)]
theorem YLS:∀ks ls:J c_,gL (ks.map kD) (ls.map kD)=decide (ks=ls)
 |[],[]=>by unfold gL;rfl
 |[],_::_=>by rw[YOv];unfold gL;exact(dy nofun).symm
 |_::_,[]=>by rw[YOv];unfold gL;exact(dy nofun).symm
 |k::ks,l::ls=>by
  rw[YOv,YOv];unfold gL;rw[YLS ks ls];have e:eS (kD k) (kD l)=decide (k=l):=by
   rw[YPU,fQ];cases k with
   |inl i=>cases l with
    |inl j=>unfold kD eS;rw[beq_iff_eq];exact⟨λh=>by rw[h],λh=>by cases h;rfl⟩
    |inr j=>unfold kD eS;exact⟨nofun,nofun⟩
   |inr i=>cases l with
    |inl j=>unfold kD eS;exact⟨nofun,nofun⟩
    |inr j=>unfold kD eS;rw[beq_iff_eq];exact⟨λh=>by rw[h],λh=>by cases h;rfl⟩
  rw[e,YPU,YOl,fQ,fQ,fQ,List.cons.injEq]
theorem ri(x y:Nd):eS (iA x) (iA y)=decide (x=y):=by
 unfold iA;rw[YKi,YLS,YPU,fQ,fQ];exact⟨J3,λe=>by rw[e]⟩
theorem ZQ.drop(h:ZQ H ts ns)(j:Nat):ZQ H (ts.drop j)<|ns.drop j:=
 ⟨by rw[YPT,YPT,h.1],λi t x R e2=>h.2 (j+i) t x (by rw[<-List.getElem?_drop];exact R) (by rw[<-List.getElem?_drop];exact e2)⟩
inductive YJD(C:Addr)(vs:List V)(H:L)(Q:VK):Prop
 |mk (H0:L)(x wd a1 a2 a3 a4 a5 t:Addr)(us ms:List Addr)(p:List Nd)(k y:Nd)(un:List (List Nd))(f3 f4:Nd->Option V)(left:List Nd)(met:Option (List Nd))(N:List Nd):vs=[.ref x,.ref t]->ft C H0 H x wd a1 a2 a3 a4 a5 us ms (p++[k]) un f3 f4 left met->H t=some (.tup ((Yd y).map kV))->(∀y,(f4 y).isSome=true->y∈N)->(N.length<=3000000/\p.length<=3000000)->(met≠none->∀H',ft C H0 H' x wd a1 a2 a3 a4 a5 us ms (p++[k]) un f3 (λz=>if z=k then some (.bl true) else f4 z) left met->Q .non H')->(met=none->y∈p++[k]/\∀i b H',(p++[k])[i]?=some y->ft C H0 H' x wd a1 a2 a3 a4 a5 us [b] (p++[k]) un f3 (λz=>if z=k then some (.bl true) else f4 z) left (some ((p++[k]).drop i))->Q .non H')->YJD C vs H Q
def YLT(C:al):Sp:=λvs H Q E_=>YJD C vs H Q
theorem YHq:YJ [ay,aE] [ay,aE]<|YG YBt:=eQ
theorem YHr(T:Txt K mg C):Gd P w K mg bZ 1 "meet" "Walk.meet" YBt [ay,aE]<|YLT C.Walk:=by
 refine eT YHq λH Q E hr h=>?_;obtain⟨H0,x,wd,a1,a2,a3,a4,a5,t,us,ms,p,k,y,un,f3,f4,left,met,N,rfl,ws,ht,nA,hN,q1,q0⟩:=h;have hu:=ZZ hr;have hU:=hr.units;refine⟨_,(YE (Jg hu (eA K<|S 0) (fB K (eA K<|S 0)<|A4 AW YC) Jq Z)
  (YD<|Yj (YT Bz (eA K<|S 0) Z0<|YU _) (YD<|fO K (S 0)<|Xx (CS K rfl) (eA K<|S 0) (xD<|A3 K rfl YPG PySem.F.slot_list_index PySem.F.type_list_index (YF2 K rfl hU) (eA K<|S 0)<|bB<|S 1) xx) YR)),?_⟩
 obtain⟨B,mv,U,_⟩:=ws.x_;obtain⟨pR,R,n1⟩:=ws.h1;obtain⟨t1,tk,rfl⟩:∃t1 t,pR=t1++[t]:=by
  rcases Ji pR with rfl|h
  have:=n1.1;rw[YOU]at this;simp at this;exact h
 obtain⟨_,iH⟩:=n1.pop;obtain⟨k4,e4,d4⟩:=ws.h4;have nq:=d4.len nA;refine⟨_,Z,x,C.Walk,B,_,_,Z,U,T.aq,T.bC,Z,_,Z,x,C.Walk,B,_,_,Z,U,T.aq,T.aM,Z,1,Z,a1,_,_,.ref tk,Z,Z,aX.of R,(by rw[YOk];exact YCr _ _),a4,_,Z,ib.t e4 iH (by rw[sizeLine_eq];lia),?_⟩;have w1:=ws.set4 e4 k<|.bl true;have eU:upd H a4 (.dT<|Yu k4 (Yd k)<|.bl true) t=some (.tup<|(Yd y).map kV):=YY e4 nofun ht;revert w1 eU;generalize upd H a4 (.dT<|Yu k4 (Yd k)<|.bl true)=H1;intro w1 eU;obtain⟨B,mv,U,hm⟩:=w1.x_;obtain⟨ts,R,n1⟩:=w1.h1;refine⟨_,Z,x,C.Walk,B,_,_,Z,U,T.aq,T.cI,Z,Z,_,Z,?_⟩;have hm0:=hm;rcases hm with ⟨em,rfl,ems⟩|⟨r,b,em,rfl,ems,hb⟩
 subst ems;obtain⟨hy,q2⟩:=q0 em;subst em;have hi:=List.idxOf_lt_length_iff.mpr hy;have hat:(p++[k])[(p++[k]).idxOf y]?=some y:=by rw[YOW hi,List.getElem_idxOf hi]
 have hno:∀m z,m<(p++[k]).idxOf y->(p++[k])[m]?=some z->z≠y:=λm z hm hz e=>by
  subst e;obtain⟨jz,hz⟩:=YOX.mp hz;have:=List.not_of_lt_findIdx (p:=λa=>a==z) (xs:=p++[k]) hm;rw[hz]at this;simp at this
 have zY:(p++[k]).length<=3000001:=by rw[YOU];have:=hN.2;show p.length+1<=_;lia
 generalize (p++[k]).idxOf y=j at hi hat hno;rw[de Z];have hil:j<=(ts.map V.ref).length:=by rw[YOS,n1.1];lia
 refine ZC ⟨_,Z,x,C.Walk,B,_,_,Z,U,T.aq,T.aM,Z,_,Z,x,C.Walk,B,_,_,Z,U,T.aq,T.aM,Z,.inl ⟨Z,_,aX.of R⟩,_,Z,a1,ts,_,t,_,j,Z,Z,aX.of R,YFb n1,YN4 eU,λd hd=>?_,(CP y).1,?_,⟨iA y,by rw[YOd,hat];rfl,by rw[ri];exact de Z⟩,λm dm h1 h2=>?_,?_⟩;obtain⟨z,_,rfl⟩:=YOt.mp hd;exact⟨(CP z).1,by rw[(CP z).2];decide⟩;have:(j:Int)<3000001:=by lia
 exact Int.lt_trans this (by decide);rw[YOd]at h2;obtain⟨z,hz,rfl⟩:=YO2.mp h2;rw[ri];exact dy<|hno m z h1 hz;refine⟨_,Z,a1,_,Z,aX.of R,λb hb=>?_⟩;rw[YMS _ _ hil];have z1:=YF.upd (o:=.lst<|(ts.map V.ref).drop j) hb;have w2:=w1.same z1;refine⟨_,Z,x,C.Walk,B,_,Z,z1 _ _ U,T.aq,T.cI,?_,?_⟩;exact(show 7<1000 by decide);exact q2 j b _ hat<|w2.setM (z1 _ _ U) ⟨ts.drop j,by rw[YA,List.map_drop],(n1.drop j).keep λ_ _=>z1 _ _⟩ (w1.sm.free hb) λhm=>w1.there hm hb;subst em;rw[dy (λh=>by cases h)];exact Yw<|q1 nofun _ w1
structure kc(C CW:Addr)(H0 H:L)(x wd a1 a2 a3 a4 a5:Addr)(us ms:List Addr)(g:YV)(z:Str)(Dl:List Nd)(top:Option Nd)(st:List (Nd×List Nd))(ld:Nd->Bool)(left:List Nd)(met:Option (List Nd)):Prop where
 ws:ft C H0 H x wd a1 a2 a3 a4 a5 us ms (st.map (·.1)).reverse (st.map (·.2)).reverse (gI (st.map (·.1)) left) (mr ld) left met
 wk:Wk (im g z.cps.size Dl) Dl st ld left met
 wa:Xe CW H0 wd g z Dl top
 hn:Dl.length<=2900000
 cl:∀x∈Dl,∀y∈im g z.cps.size Dl x,y∈Dl
theorem kc.on{C CW:al}{H0 H:L}{x wd a1 a2 a3 a4 a5:al}{us ms:J al}{g:YV}{z:av}{Dl:J Nd}{top:ah Nd}{st:J (Nd×J Nd)}{ld:Nd->Bool}{left:J Nd}{met:ah (J Nd)}(h:kc C CW H0 H x wd a1 a2 a3 a4 a5 us ms g z Dl top st ld left met):∀y,(gI (st.map (·.1)) left y).isSome=true->y∈Dl:=λy e=>by
 unfold gI at e;by_cases h1:y∈st.map (·.1);exact h.wk.sub y<|YOg _ h1;rw[if_neg h1]at e;by_cases h2:y∈left;exact h.wk.sub y<|YOe _ h2;rw[if_neg h2]at e;cases e
theorem YDJ:(mr ld y).isSome=ld y:=by
 unfold mr;cases h:ld y with
 |true=>rw[if_pos Z];rfl
 |false=>rfl
theorem kc.li{C CW:al}{H0 H:L}{x wd a1 a2 a3 a4 a5:al}{us ms:J al}{g:YV}{z:av}{Dl:J Nd}{top:ah Nd}{st:J (Nd×J Nd)}{ld:Nd->Bool}{left:J Nd}{met:ah (J Nd)}(h:kc C CW H0 H x wd a1 a2 a3 a4 a5 us ms g z Dl top st ld left met):∀y,(mr ld y).isSome=true->y∈Dl:=λy e=>by
 rw[YDJ]at e;exact h.wk.sub y<|h.wk.ldi y e
theorem kc.le{C CW:al}{H0 H:L}{x wd a1 a2 a3 a4 a5:al}{us ms:J al}{g:YV}{z:av}{Dl:J Nd}{top:ah Nd}{st:J (Nd×J Nd)}{ld:Nd->Bool}{left:J Nd}{met:ah (J Nd)}(h:kc C CW H0 H x wd a1 a2 a3 a4 a5 us ms g z Dl top st ld left met):st.length+left.length<=Dl.length:=by
 have:=ZN h.wk.nd h.wk.sub;rw[YOU,YOS]at this;exact this
theorem tF:∀y∈(y0::p)++left,y∈p++(left++[y0]):=λy h=>by
 rw[<-YOw];exact(YOj.mp h).elim (λe=>YOe _<|YOT.mpr e)<|YOg _
inductive YLU(C CW:Addr)(vs:List V)(H:L)(Q:VK):Prop
 |mk (H0:L)(x wd a1 a2 a3 a4 a5:Addr)(us ms:List Addr)(g:YV)(z:Str)(Dl:List Nd)(top:Option Nd)(q0:Nd×List Nd)(r:List (Nd×List Nd))(ld:Nd->Bool)(left:List Nd)(met:Option (List Nd)):vs=[.ref x]->kc C CW H0 H x wd a1 a2 a3 a4 a5 us ms g z Dl top (q0::r) ld left met->(∀jN jx st' ld' left' cH H',kc C CW H0 H' x wd a1 a2 a3 a4 a5 jN jx g z Dl top st' ld' left' cH->st'.length+2*left'.length=r.length+2+2*left.length->(∀y∈(q0::r).map (·.1)++left,y∈st'.map (·.1)++left')->Q .non H')->YLU C CW vs H Q
def YN9(C CW:al):Sp:=λvs H Q E_=>YLU C CW vs H Q
theorem YBB:YJ [ay,"beneath",aE] [ay]<|YG YBu:=eQ
theorem YHs(T:Txt K mg C)(bx:Y4 P w K mg bZ 4 C.Walk "go_down" [ay,aE]<|YFd C.Walk C.Wood)(gh:Y4 P w K mg bZ 1 C.Walk "meet" [ay,aE]<|YLT C.Walk)(eE:Y4 P w K mg bZ 1 C.Walk "go_up" [ay]<|YN8 C.Walk):Gd P w K mg bZ 5 "step" "Walk.step" YBu [ay]<|YN9 C.Walk C.Wood:=by
 refine eT YBB λH Q E hr h=>?_;obtain⟨H0,x,wd,a1,a2,a3,a4,a5,us,ms,g,z,Dl,top,q0,r,ld,left,met,rfl,wl,q⟩:=h;have hu:=ZZ hr;have hU:=hr.units;refine⟨_,(YE (c9 1 YBB<|fB K (eA K<|S 0)<|A4 AW YC)
  (YE (Jx PassesOwn.never (XH K Z (S 1)<|λ_=>rfl) (YE (c9 2 YBB<|vS K rfl YPG YPc YPb xL<|S 1)
  (YE (Yj (Jw<|Jr hu (S 2)<|eA K<|S 0) (YE (Ya<|fS (S 0) T.aq bx hr YQ<|bB<|S 2)
  (YD YHJ)) YR)
  (YD<|Yj (PW.pt<|xt (JI<|JL hu (eA K<|S 0) (S 2)<|λ_ _=>rfl)<|AQ<|Jw<|AG hu (S 2)<|eA K<|S 0) (YD<|Ya<|fS (S 0) T.aq gh hr YQ<|bB<|S 2) YR))))
  (YD<|Ya<|ic (S 0) T.aq eE hr YQ))),?_⟩
 obtain⟨y0,l0⟩:=q0;obtain⟨lR,ub,rfl⟩:∃t1 t,us=t1++[t]:=by
  rcases Ji us with rfl|h
  have:=wl.ws.hu.1;rw[YPB,YOS]at this;cases this;exact h
 obtain⟨B,mv,U,_⟩:=wl.ws.x_;refine fx λu eu=>?_;refine⟨_,Z,x,C.Walk,B,_,_,Z,U,T.aq,T.cg,Z,1,Z,a2,_,_,.ref ub,Z,Z,aX.of wl.ws.h2,(by rw[YOk];exact YCr _ _),?_⟩;dsimp only[Yh];show u _ _ _;subst eu;refine fx λu eu=>?_;refine⟨λm σ H3=>Ex5 λjx l ld' cH v2=>xi (σ=[some<|.ref x,some<|.ref ub,v2]) (kc C.Walk C.Wood H0 H3 x wd a1 a2 a3 a4 a5 (lR++[ub]) jx g z Dl top ((y0,l)::r) ld' left cH)<|m=l.length,⟨_,ms,l0,ld,met,none,Z,wl,Z⟩,?_⟩;rintro m σ H3 ⟨jx,l,ld',cH,v2,rfl,w3,rfl⟩;have wr:=w3.ws;rw[YOv,YOv,YPE,YPE]at wr;obtain⟨hu0,ts,e3,n3⟩:=wr.hu.pop;have hle:=w3.le;rw[YOx]at hle;have hnn:=w3.hn;have vK:lR.length=r.length:=by rw[hu0.1,YPB,YOS]
 rcases Ji l with rfl|⟨l',y,rfl⟩
 have ju:ts=[]:=YPR.mp n3.1;subst ju;refine⟨_,Z,false,.inl ⟨_,aX.of e3,Z⟩,Yw ?_⟩;obtain⟨B,mv,U,_⟩:=w3.ws.x_;have tL:=(YOq.mp w3.wk.nd).1;have Ra:y0∉r.map (·.1):=λhm=>tL<|YOg _ hm;have eon:(λz=>if z=y0 then some (V.bl false) else gI (y0::r.map (·.1)) left z)=gI (r.map (·.1)) (left++[y0]):=AB Ra;have Rb:y0∈Dl:=w3.wk.sub y0 YOZ;show u _ _ _;subst eu;refine⟨_,Z,x,B,_,Z,U,Z,H0,x,wd,a1,a2,a3,a4,a5,ub,lR,jx,_,y0,_,[],_,_,left,cH,Dl,Z,wr,by lia,⟨Rb,w3.on⟩,w3.li,⟨by lia,λy hy=>w3.wk.sub y<|YOV _<|YOg _<|YPS.mp hy⟩,λsW H' w5=>?_,λp' k sX hp H' w5=>?_⟩;rw[YDJ]at sW;have er:ld' y0=false\/r=[]:=sW.imp id λh=>by
  rw[List.reverse_eq_nil_iff,List.map_eq_nil_iff]at h;exact h
 refine q lR jx r ld' (left++[y0]) cH H' ⟨by rw[<-eon];exact w5,w3.wk.up (λ_=>rfl) (λU q0 r' e=>?_)<|λ_ _=>rfl,w3.wa,w3.hn,w3.cl⟩ (by rw[YOU];show r.length+2*(left.length+1)=_;lia) tF;rcases er with h|h
 rw[h]at U;cases U;rw[h]at e;cases e;rw[YDJ]at sX;cases r with
 |nil=>cases p' <;> cases hp
 |cons q1 r'=>
  have hk:k=q1.1:=by
   rw[YOv,YPE]at hp;exact(List.cons.inj (List.append_inj' hp Z).2).1.symm
  subst hk;refine q lR jx (q1::r') (kM ld' q1.1) (left++[y0]) cH H' ⟨by rw[<-eon,<-YLC];exact w5,w3.wk.up (λh=>by rw[h]at sX;cases sX) (λ_ q0 Qe e=>by cases e;rfl) (λ_ e=>nomatch e),w3.wa,w3.hn,w3.cl⟩ (by rw[YOU];show(q1::r').length+2*(left.length+1)=_;lia) tF
 obtain⟨iy,t,rfl⟩:∃iy t4,ts=iy++[t4]:=by
  rcases Ji ts with rfl|h
  have:=n3.1;rw[YOU]at this;simp at this;exact h
 obtain⟨n4,ht⟩:=n3.pop;have iQ:(!((iy++[t]).map V.ref).isEmpty)=true:=by cases iy <;> rfl
 have e4:H3 ub=some (.lst<|iy.map V.ref++[.ref t]):=by rw[e3,YOk];rfl
 refine⟨_,Z,true,.inl ⟨_,aX.of e3,iQ.symm⟩,ZC ⟨λσ' H'=>∃m',m'<_/\_,λ_ _ z=>z,?_⟩⟩;refine fx λu eu=>?_;refine⟨_,Z,.inl ⟨Z,_,aX.of e3⟩,ub,_,.ref t,Z,Z,e4,(by simp),?_⟩;rw[YPg];have w4:=wr.setU n4;have jc:upd H3 ub (.lst<|iy.map V.ref) t=some (.tup<|(Yd y).map kV):=YY e3 nofun ht;revert w4 jc;generalize upd H3 ub (.lst<|iy.map V.ref)=H4;intro w4 jc;obtain⟨B,mv,U,_⟩:=w4.x_;obtain⟨k3,e5,d3⟩:=w4.h3;obtain⟨_,_,_,zA⟩:=id d3;dsimp only[Yh];show u _ _ _;subst eu;refine⟨_,Z,_,Z,x,C.Walk,B,_,_,Z,U,T.aq,T.aY,Z,a3,_,Z,.inr ⟨k3,_,t,.inl e5,Z,jc,Z⟩,_,Z,?_⟩;rw[zA y];have mt:(y∈y0::r.map (·.1)\/ld' y=true)->∀QQ:L->Prop,(∀jB jC ie H',kc C.Walk C.Wood H0 H' x wd a1 a2 a3 a4 a5 (lR++[ub]) jB g z Dl top ((y0,l')::r) jC left ie->QQ H')->
   (cH≠none->∀H',ft C.Walk H0 H' x wd a1 a2 a3 a4 a5 (lR++[ub]) jx ((r.map (·.1)).reverse++[y0]) ((r.map (·.2)).reverse++[l']) (gI (y0::r.map (·.1)) left) (λz=>if z=y0 then some (.bl true) else mr ld' z) left cH->QQ H')/\
   (cH=none->y∈(r.map (·.1)).reverse++[y0]/\∀i b H',((r.map (·.1)).reverse++[y0])[i]?=some y->ft C.Walk H0 H' x wd a1 a2 a3 a4 a5 (lR++[ub]) [b] ((r.map (·.1)).reverse++[y0]) ((r.map (·.2)).reverse++[l']) (gI (y0::r.map (·.1)) left) (λz=>if z=y0 then some (.bl true) else mr ld' z) left (some<|((r.map (·.1)).reverse++[y0]).drop i)->QQ H'):=λhy QQ hQ=>by
  rw[YLC];have er:(r.map (·.1)).reverse++[y0]=(y0::r.map (·.1)).reverse:=(YPE).symm;have eu:(r.map (·.2)).reverse++[l']=(l'::r.map (·.2)).reverse:=(YPE).symm;rw[er,eu];refine⟨λhm H' w5=>hQ jx _ cH H' ⟨w5,w3.wk.meet hy hm w3.wk.m1,w3.wa,w3.hn,w3.cl⟩,λhm=>?_⟩;have qL:y∈y0::r.map (·.1):=hy.elim id λh=>by
   rw[w3.wk.m0 hm y]at h;cases h
  refine⟨YPS.mpr qL,λi b H' hi w5=>hQ [b] _ _ H' ⟨w5,w3.wk.meet hy nofun (λk e=>?_),w3.wa,w3.hn,w3.cl⟩⟩;cases e;exact nB Z w3.wk.dn (YPH.mp w3.wk.nd).1 (λz hz=>w3.wk.sub z<|YOg _ hz) hi w3.wk.nb_mem
 have Dm:l'.length<(l'++[y]).length:=by rw[YOU];exact YPO _
 have hyN:y∈Dl:=w3.cl y0 (w3.wk.sub y0 YOZ) y w3.wk.nb_mem;by_cases qL:y∈y0::r.map (·.1);have ev:gI (y0::r.map (·.1)) left y=some (.bl true):=by unfold gI;rw[if_pos qL]
 have vy:=zA y;rw[ev]at vy ⊢;refine Yw ⟨_,Z,x,C.Walk,B,_,_,Z,U,T.aq,T.aY,Z,_,Z,a3,.bl true,Z,.inr ⟨k3,_,t,.inl e5,Z,jc,vy.symm⟩,true,Z,ZC<|ZC ⟨_,Z,x,B,_,Z,U,Z,_,Z,H0,x,wd,a1,a2,a3,a4,a5,t,lR++[ub],jx,_,y0,y,_,_,_,left,cH,Dl,Z,w4,jc,w3.li,⟨by lia,by rw[YPB,YOS];lia⟩,(mt (.inl qL) _ λjB jC ie H' ww=>⟨_,Dm,jB,l',jC,ie,_,Z,ww,Z⟩).1,(mt (.inl qL) _ λjB jC ie H' ww=>⟨_,Dm,jB,l',jC,ie,_,Z,ww,Z⟩).2⟩⟩;by_cases lN:y∈left;have ev:gI (y0::r.map (·.1)) left y=some (.bl false):=by unfold gI;rw[if_neg qL,if_pos lN]
 have vy:=zA y;rw[ev]at vy ⊢;obtain⟨k4,e6,d4⟩:=w4.h4;obtain⟨_,_,_,zy⟩:=id d4;refine Yw ⟨_,Z,x,C.Walk,B,_,_,Z,U,T.aq,T.aY,Z,_,Z,a3,.bl false,Z,.inr ⟨k3,_,t,.inl e5,Z,jc,vy.symm⟩,false,Z,Yw ⟨_,Z,_,Z,x,C.Walk,B,_,_,Z,U,T.aq,T.bC,Z,a4,_,Z,.inr ⟨k4,_,t,.inl e6,Z,jc,Z⟩,_,Z,?_⟩⟩;rw[zy y,YDJ];cases sX:ld' y with
 |true=>exact ZC ⟨_,Z,x,B,_,Z,U,Z,_,Z,H0,x,wd,a1,a2,a3,a4,a5,t,lR++[ub],jx,_,y0,y,_,_,_,left,cH,Dl,Z,w4,jc,w3.li,⟨by lia,by rw[YPB,YOS];lia⟩,(mt (.inr sX) _ λjB jC ie H' ww=>⟨_,Dm,jB,l',jC,ie,_,Z,ww,Z⟩).1,(mt (.inr sX) _ λjB jC ie H' ww=>⟨_,Dm,jB,l',jC,ie,_,Z,ww,Z⟩).2⟩
 |false=>exact Yw ⟨_,Dm,jx,l',ld',cH,_,Z,⟨by rw[YOv,YOv,YPE,YPE];exact w4,w3.wk.skip lN sX,w3.wa,w3.hn,w3.cl⟩,Z⟩
 have ev:gI (y0::r.map (·.1)) left y=none:=by unfold gI;rw[if_neg qL,if_neg lN]
 rw[ev];refine ZC ⟨_,Z,x,B,_,Z,U,Z,_,Z,H0,x,wd,a1,a2,a3,a4,a5,t,lR++[ub],jx,_,_,_,_,left,cH,g,z,Dl,top,y,Z,w4,w3.wa,jc,hyN,by rw[YOU,YPB,YOS];show r.length+1<=_;lia,by rw[YOU];show lR.length+1<=_;lia,w3.on,by lia,λjN H' w5=>?_⟩;refine q jN jx ((y,im g z.cps.size Dl y)::(y0,l')::r) ld' left cH H' ⟨?_,w3.wk.down w3.cl<|λhm=>(YOf.mp hm).elim qL lN,w3.wa,w3.hn,w3.cl⟩ (by rw[YOx,YOx]) λc hc=>YOV _ hc;rw[YIo]at w5;rw[YOv,YOv,YOv,YOv,YPE,YPE,YPE,YPE];exact w5
def fW1(wd:al):J<|av×V:=[(bp,.ref wd)]
def fW2(wd a1:al):J<|av×V:=[(bp,.ref wd),("path",.ref a1)]
def fW3(wd a1 a2:al):J<|av×V:=[(bp,.ref wd),("path",.ref a1),(dr,.ref a2)]
def fW4(wd a1 a2 a3:al):J<|av×V:=[(bp,.ref wd),("path",.ref a1),(dr,.ref a2),(dS,.ref a3)]
def fW5(wd a1 a2 a3 a4:al):J<|av×V:=[(bp,.ref wd),("path",.ref a1),(dr,.ref a2),(dS,.ref a3),("leading",.ref a4)]
def fW6(wd a1 a2 a3 a4 a5:al):J<|av×V:=[(bp,.ref wd),("path",.ref a1),(dr,.ref a2),(dS,.ref a3),("leading",.ref a4),("left",.ref a5)]
structure Au(C:Addr)(H0 H:L)(x B:Addr)(fs:List (Str×V))(ob:List (Addr×HO)):Prop where
 sm:YF H0 H
 x_:H x=some (.ins C B fs)
 nx:H0 x=none
 hob:∀q∈ob,H q.1=some q.2/\H0 q.1=none/\q.1≠x
 nd:(ob.map (·.1)).Nodup
theorem Au.new{fs:J (av×V)}(h:Au C H0 H x B fs ob)(hb:H b=none)(o:HO):Au C H0 (upd H b o) x B fs<|(b,o)::ob:=by
 have s:=YF.upd (o:=o) hb;refine⟨h.sm.trans s,s _ _ h.x_,h.nx,λq hq=>?_,YOq.mpr ⟨λhm=>?_,h.nd⟩⟩;rcases YOj.mp hq with rfl|hq
 exact⟨YA,h.sm.free hb,λe=>by rw[show b=x from e,h.x_]at hb;cases hb⟩;obtain⟨h1,h2,h3⟩:=h.hob q hq;exact⟨s _ _ h1,h2,h3⟩;obtain⟨q,hq,e⟩:=YOt.mp hm;rw[<-show q.1=b from e,(h.hob q hq).1]at hb;cases hb
theorem Au.fld{fs:J (av×V)}(h:Au C H0 H x B fs ob)(kY:J<|av×V):Au C H0 (upd H x<|.ins C B kY) x B kY ob:=
 ⟨h.sm.put h.nx,YA,h.nx,λq hq=>let ⟨h1,h2,h3⟩:=h.hob q hq;⟨ZR h3 h1,h2,h3⟩,h.nd⟩
inductive YJE(C CW:Addr)(vs:List V)(H:L)(Q:VK):Prop
 |mk (H0:L)(x wd B:Addr)(g:YV)(z:Str)(Dl:List Nd)(top:Option Nd):vs=[.ref x,.ref wd]->H x=some (.ins C B [])->H0 x=none->YF H0 H->Xe CW H0 wd g z Dl top->Dl.length<=2900000->(∀x∈Dl,∀y∈im g z.cps.size Dl x,y∈Dl)->(∀t,top=some t->t∈Dl)->(∀a1 a2 a3 a4 a5 us ms st H',kc C CW H0 H' x wd a1 a2 a3 a4 a5 us ms g z Dl top st (λ_=>false) [] none->(top=none/\st=[]\/∃t l,top=some t/\st=[(t,l)])->Q .non H')->YJE C CW vs H Q
def YLV(C CW:al):Sp:=λvs H Q E_=>YJE C CW vs H Q
theorem YDy:YJ [ay,bp] [ay,bp]<|YG Xh:=eQ
theorem YDz(T:Txt K mg C)(aR:Y4 P w K mg bZ 1 C.Wood "top" [ay]<|YLO C.Wood)(bx:Y4 P w K mg bZ 4 C.Walk "go_down" [ay,aE]<|YFd C.Walk C.Wood):Gd P w K mg bZ 5 "__init__" "Walk.__init__" Xh [ay,bp]<|YLV C.Walk C.Wood:=by
 refine eT YDy λH Q E hr h=>?_;obtain⟨H0,x,wd,B,g,z,Dl,top,rfl,U,hx0,s0,wa,hnl,hcl,jQ,q⟩:=h;have hu:=ZZ hr;refine gi ?_;refine⟨_,(YH ⟨(fO K (S 0)<|S 1)⟩
  (YH ⟨(fO K (S 0)<|Y6 Yp)⟩
  (YH ⟨(fO K (S 0)<|Y6 Yp)⟩
  (YH ⟨(fO K (S 0) Jz)⟩
  (YH ⟨(fO K (S 0) Jz)⟩
  (YH ⟨(fO K (S 0)<|Y6 Yp)⟩
  (YH ⟨(fO K (S 0) Z0)⟩
  (ZI ⟨(Yj (YT AR (ic (S 1) T.ak aR hr YQ) Z0<|YU _) (YD<|Ya<|fS (S 0) T.aq bx hr YQ<|bB<|ic (S 1) T.ak aR hr YQ) YR)⟩)))))))),?_⟩
 have b0:Au C.Walk H0 H x B [] []:=⟨s0,U,hx0,(λq hq=>nomatch hq),YPJ⟩;refine⟨_,Z,_,Z,x,C.Walk,B,_,Z,U,T.aq,T.gQ,(show 0<1000 by decide),?_⟩;rw[show Yf bp (.ref wd) ([]:J<|av×V)=(fW1 wd) from Z];have b1:=b0.fld<|fW1 wd;revert b1;generalize upd H x (.ins C.Walk B<|fW1 wd)=G1;intro b1;refine⟨YK<|YOn _,λa1 rP=>?_⟩;have b2:=b1.new rP<|.lst [];revert b2;generalize upd G1 a1 (.lst [])=G2;intro b2;refine⟨_,Z,x,C.Walk,B,_,Z,b2.x_,T.aq,T.aM,(show 1<1000 by decide),?_⟩;rw[show Yf "path" (.ref a1) (fW1 wd)=(fW2 wd a1) from Z];have b3:=b2.fld<|fW2 wd a1;revert b3;generalize upd G2 x (.ins C.Walk B<|fW2 wd a1)=G3;intro b3;refine⟨YK<|YOn _,λa2 pO=>?_⟩;have b4:=b3.new pO<|.lst [];revert b4;generalize upd G3 a2 (.lst [])=G4;intro b4;refine⟨_,Z,x,C.Walk,B,_,Z,b4.x_,T.aq,T.cg,(show 2<1000 by decide),?_⟩;rw[show Yf dr (.ref a2) (fW2 wd a1)=(fW3 wd a1 a2) from Z];have b5:=b4.fld<|fW3 wd a1 a2;revert b5;generalize upd G4 x (.ins C.Walk B<|fW3 wd a1 a2)=G5;intro b5;refineλa3 m8=>?_;have b6:=b5.new m8<|.dT [];revert b6;generalize upd G5 a3 (.dT [])=G6;intro b6;refine⟨_,Z,x,C.Walk,B,_,Z,b6.x_,T.aq,T.aY,(show 3<1000 by decide),?_⟩;rw[show Yf dS (.ref a3) (fW3 wd a1 a2)=(fW4 wd a1 a2 a3) from Z];have b7:=b6.fld<|fW4 wd a1 a2 a3;revert b7;generalize upd G6 x (.ins C.Walk B<|fW4 wd a1 a2 a3)=G7;intro b7;refineλa4 lD=>?_;have b8:=b7.new lD<|.dT [];revert b8;generalize upd G7 a4 (.dT [])=G8;intro b8;refine⟨_,Z,x,C.Walk,B,_,Z,b8.x_,T.aq,T.bC,(show 4<1000 by decide),?_⟩;rw[show Yf "leading" (.ref a4) (fW4 wd a1 a2 a3)=(fW5 wd a1 a2 a3 a4) from Z];have b9:=b8.fld<|fW5 wd a1 a2 a3 a4;revert b9;generalize upd G8 x (.ins C.Walk B<|fW5 wd a1 a2 a3 a4)=G9;intro b9;refine⟨YK<|YOn _,λa5 kj=>?_⟩;have vX:=b9.new kj<|.lst [];revert vX;generalize upd G9 a5 (.lst [])=G10;intro vX;refine⟨_,Z,x,C.Walk,B,_,Z,vX.x_,T.aq,T.dZ,(show 5<1000 by decide),?_⟩;rw[show Yf "left" (.ref a5) (fW5 wd a1 a2 a3 a4)=(fW6 wd a1 a2 a3 a4 a5) from Z];have vY:=vX.fld<|fW6 wd a1 a2 a3 a4 a5;revert vY;generalize upd G10 x (.ins C.Walk B<|fW6 wd a1 a2 a3 a4 a5)=G11;intro vY;refine⟨_,Z,x,C.Walk,B,_,Z,vY.x_,T.aq,T.cI,(show 6<1000 by decide),?_⟩;rw[show Yf "met" V.non (fW6 wd a1 a2 a3 a4 a5)=rq wd a1 a2 a3 a4 a5 .non from Z];have lq:=vY.fld<|rq wd a1 a2 a3 a4 a5 .non;revert lq;generalize upd G11 x (.ins C.Walk B<|rq wd a1 a2 a3 a4 a5 .non)=G12;intro lq;have o5:=lq.hob _ YOZ;have o4:=lq.hob _<|YOV _ YOZ;have o3:=lq.hob _<|YOV _<|YOV _ YOZ;have o2:=lq.hob _<|YOV _<|YOV _<|YOV _ YOZ;have o1:=lq.hob _<|YOV _<|YOV _<|YOV _<|YOV _ YOZ;have nd:=lq.nd;simp only[YOv,List.map_nil,YOq,YOj,YPo,or_false,not_or,not_false_eq_true,YPJ,and_true]at nd;obtain⟨⟨n54,n53,Rc,Rf⟩,⟨Rg,n42,n41⟩,⟨n32,n31⟩,Rh⟩:=nd;have vz:∀H:L,ZQ H [] []:=λH=>⟨Z,λi t x e=>nomatch e⟩;have w0:ft C.Walk H0 G12 x wd a1 a2 a3 a4 a5 [] [] [] [] (gI [] []) (mr λ_=>false) [] none:=by
  refine⟨lq.sm,⟨B,.non,lq.x_,.inl ⟨Z,Z,Z⟩⟩,⟨[],o1.1,vz _⟩,o2.1,⟨Z,λi u l e=>nomatch e⟩,⟨[],o3.1,DN.nil⟩,⟨[],o4.1,DN.nil⟩,⟨[],o5.1,vz _⟩,?_,λb hb=>?_,hx0,o3.2.1,o4.2.1,λe=>Rg e.symm⟩;simp only[YO6,YOq,YOj,YPo,or_false,not_or,not_false_eq_true,YPJ,and_true];exact⟨⟨λe=>Rh e.symm,λe=>Rf e.symm⟩,λe=>Rc e.symm⟩;simp only[YO6,YOj,YPo,or_false]at hb;rcases hb with rfl|rfl|rfl
  exact o1.2.1;exact o2.2.1;exact o5.2.1
 obtain⟨dxw,l,an,af,ae,rv,xs,lG,_⟩:=wa.ex;have lG:=lq.sm _ _ lG;refine⟨_,Z,wd,dxw,_,Z,lG,Z,wd,g,z,Dl,top,Z,wa.same lq.sm,λv g_=>⟨Z,_,Z,?_⟩⟩;rcases g_ with ⟨ht,rfl⟩|⟨nt,tt,ht,rfl,gD⟩
 rw[show(!decide (V.non=V.non))=false from fZ Bool.not (de Z)];exact Yw<|q a1 a2 a3 a4 a5 [] [] [] _ ⟨w0,.none_,wa,hnl,hcl⟩<|.inl ⟨ht,Z⟩;rw[show(!decide (V.ref tt=V.non))=true from fZ Bool.not (dy (λh=>by cases h))];refine ZC ⟨_,Z,x,B,_,Z,lq.x_,Z,_,Z,wd,dxw,_,Z,lG,Z,wd,g,z,Dl,top,Z,wa.same lq.sm,λv g_=>?_⟩;rcases g_ with ⟨ht',_⟩|⟨vZ,Ri,ht',rfl,wW⟩
 rw[ht]at ht';cases ht';refine⟨H0,x,wd,a1,a2,a3,a4,a5,Ri,[],[],[],[],_,_,[],none,g,z,Dl,top,vZ,Z,w0,wa,wW,jQ _ ht',YOn _,YOn _,(λy e=>nomatch e),by lia,λjN H' w5=>?_⟩;rw[YIo]at w5;exact q a1 a2 a3 a4 a5 jN [] [(vZ,im g z.cps.size Dl vZ)] H' ⟨w5,.start<|jQ _ ht',wa,hnl,hcl⟩<|.inr ⟨vZ,_,ht',Z⟩
abbrev XR:Stmt:=top 45
inductive YG3(C CW:Addr)(vs:List V)(H:L)(Q:VK):Prop
 |mk (wd:Addr)(g:YV)(z:Str)(Dl:List Nd)(top:Option Nd)(F:Nd->Bool):vs=[.ref wd]->Xe CW H wd g z Dl top->ZE g z.cps.size F top Dl->Dl.length<=2900000->(∀x a1 a2 a3 a4 a5 us ms st ld left met H',kc C CW H H' x wd a1 a2 a3 a4 a5 us ms g z Dl top st ld left met->(met=none->st=[]/\∀y∈Dl,y∈left)->Q (.ref x) H')->YG3 C CW vs H Q
def YJF(C CW:al):Sp:=λvs H Q E_=>YG3 C CW vs H Q
theorem YAX:YJ [bp,"walk"] [bp]<|YG XR:=eQ
theorem YDK(T:Txt K mg C)(cP:zd P w K mg bZ 5 C.Walk [ay,bp]<|YLV C.Walk C.Wood)(gj:Y4 P w K mg bZ 5 C.Walk "step" [ay]<|YN9 C.Walk C.Wood):Gd P w K mg bZ 7 "walked_to_ring" "walked_to_ring" XR [bp]<|YJF C.Walk C.Wood:=by
 refine eT YAX λH Q E hr h=>?_;obtain⟨wd,g,z,Dl,top,F,rfl,wa,wk,hnl,q⟩:=h;have hu:=ZZ hr;refine⟨_,(YE (c9 1 YAX<|pkU cP hr T.qU YQ<|bB<|S 0)
  (YE (Jx PassesOwn.never (PW.pt<|ng (XH K rfl (eA K<|S 1)<|λ_=>rfl)<|sw<|YT Bz (eA K<|S 1) Z0<|YU _)<|YD<|Ya<|ic (S 1) T.aq gj hr YQ)
  (YD<|YM<|S 1))),?_⟩
 refine⟨_,Z,λx B U tQ hnx=>⟨H,x,wd,B,g,z,Dl,top,Z,YA,U,(YF.upd tQ).put U,wa,hnl,Cd wk,wk.tp,λa1 a2 a3 a4 a5 us ms st H1 w1 hst=>⟨Z,?_⟩⟩⟩;dsimp only[Yh];refine⟨λm σ H3=>Ex6 λus ms st ld left met=>xm (σ=[some<|.ref wd,some<|.ref x]) (kc C.Walk C.Wood H H3 x wd a1 a2 a3 a4 a5 us ms g z Dl top st ld left met) ((∀t,top=some t->t∈st.map (·.1)++left))<|m=2*Dl.length+1-(st.length+2*left.length),⟨_,us,ms,st,_,[],none,Z,w1,λt et=>?_,Z⟩,?_⟩;rcases hst with ⟨e,_⟩|⟨t',l,e,rfl⟩
 rw[e]at et;cases et;rw[e]at et;cases et;exact YOZ;rintro m σ H3 ⟨us,ms,st,ld,left,met,rfl,w3,jQ,rfl⟩;obtain⟨jf,mv,jg,hmt⟩:=w3.ws.x_;obtain⟨ts,R,n1⟩:=w3.ws.h1;cases st with
 |nil=>
  have ju:ts=[]:=YPR.mp n1.1;subst ju;exact⟨_,Z,x,C.Walk,jf,_,_,Z,jg,T.aq,T.aM,Z,false,.inl ⟨_,aX.of R,Z⟩,Yw<|Yw ⟨_,Z,q x a1 a2 a3 a4 a5 us ms [] ld left met H3 w3 λ_=>⟨Z,y9 wk jQ w3.wk.lcl⟩⟩⟩
 |cons q0 r=>
  have iQ:(!(ts.map V.ref).isEmpty)=true:=by
   cases ts with
   |nil=>
    have:=n1.1;rw[YPB,YOS]at this;cases this
   |cons a b=>rfl
  refine⟨_,Z,x,C.Walk,jf,_,_,Z,jg,T.aq,T.aM,Z,true,.inl ⟨_,aX.of R,iQ.symm⟩,ZC ⟨_,Z,x,C.Walk,jf,_,_,Z,jg,T.aq,T.cI,Z,Z,_,Z,?_⟩⟩;rcases hmt with ⟨em,rfl,ems⟩|⟨rg,b,em,rfl,ems,hb⟩
  rw[de Z];refine ZC ⟨λσ' H'=>∃m',m'<_/\_,λ_ _ z=>z,?_⟩;refine⟨_,Z,x,jf,_,Z,jg,Z,H,x,wd,a1,a2,a3,a4,a5,us,ms,g,z,Dl,top,q0,r,ld,left,met,Z,w3,λjN jx st' ld' left' cH H' w4 hl qt=>⟨_,?_,jN,jx,st',ld',left',cH,Z,w4,λt et=>qt t<|jQ t et,Z⟩⟩;have:=w4.le;rw[YOx];lia;rw[dy (λh=>by cases h)];exact Yw ⟨_,Z,q x a1 a2 a3 a4 a5 us ms _ ld left met H3 w3 λz=>by rw[em]at z;cases z⟩
abbrev YAE:Stmt:=Yv (top 41) 0
abbrev YBC:Stmt:=Yv (top 41) 1
abbrev YAF:Stmt:=Yv (top 41) 2
abbrev YAh:Stmt:=Yv (top 41) 3
abbrev YBv:Stmt:=Yv (top 41) 4
theorem YEX:YJ [ay] [ay]<|YG YAE:=eQ
theorem YEY(T:Txt K mg C):Gd P w K mg bZ 1 "nothing" "Many.nothing" YAE [ay]<|tS<|.int 0:=by
 refine eT YEX λH Q E hr h=>?_;obtain⟨s,rfl,q⟩:=h;exact⟨_,(YD<|YM YC),q⟩
theorem YF9:YJ [ay] [ay]<|YG YBC:=eQ
theorem YGA(T:Txt K mg C):Gd P w K mg bZ 1 "blank" "Many.blank" YBC [ay]<|tS<|.int 1:=by
 refine eT YF9 λH Q E hr h=>?_;obtain⟨s,rfl,q⟩:=h;exact⟨_,(YD<|YM YC),q⟩
theorem YEZ:YJ [ay,cf,"worth"] [ay,cf,"worth"]<|YG YAF:=eQ
theorem YEa(T:Txt K mg C):Gd P w K mg bZ 1 "of_rule" "Many.of_rule" YAF [ay,cf,"worth"]<|YNO<|.int 1:=by
 refine eT YEZ λH Q E hr h=>?_;obtain⟨s,x,y,rfl,q⟩:=h;exact⟨_,(YD<|YM YC),q⟩
theorem YFe:YJ [ay,cn,cr] [ay,cn,cr]<|YG YAh:=eQ
theorem YFf(T:Txt K mg C):Gd P w K mg bZ 1 "either" "Many.either" YAh [ay,cn,cr]<|tf<|λx y=>Xq<|x+y:=by
 refine eT YFe λH Q E hr h=>?_;obtain⟨s,x,y,rfl,h1,h2,h3,h4,q⟩:=h;refine⟨_,(YD<|YM<|Yo (YGM rfl) (by rfl) T.qg PyProof.Rows.Boot.«min»<|YI (YN ZD (S 1)<|S 2)<|bB<|YN YHK YC YC),?_⟩;refine⟨_,Z,_,Z,_,_,Z,Z,_,_,Z,Z,⟨by decide,by decide,by decide⟩,_,_,Z,?_⟩;exact q
theorem YHt:YJ [ay,cn,cr] [ay,cn,cr]<|YG YBv:=eQ
theorem YHu(T:Txt K mg C):Gd P w K mg bZ 1 "both" "Many.both" YBv [ay,cn,cr]<|tf<|λx y=>Xq<|x*y:=by
 refine eT YHt λH Q E hr h=>?_;obtain⟨s,x,y,rfl,h1,h2,h3,h4,q⟩:=h;refine⟨_,(YD<|YM<|Yo (YGM rfl) (by rfl) T.qg PyProof.Rows.Boot.«min»<|YI (YN rh (S 1)<|S 2)<|bB<|YN YHK YC YC),?_⟩;refine⟨_,Z,_,Z,_,_,Z,Z,⟨YFE h1 h2,YFE h3 h4⟩,_,_,Z,Z,⟨by decide,by decide,by decide⟩,_,_,Z,?_⟩;exact q
abbrev YAG:Stmt:=top 47
abbrev Xi:Stmt:=top 48
abbrev Xj:Stmt:=top 49
def Ys(n:Nat):Int:=Xq (n:Int)
theorem Zz(n:Nat):0<=Ys n:=oJ<|Int.natCast_nonneg n
theorem Zu(n:Nat):Ys n<=fV:=oh _
theorem YDL(a b:Nat):Xq (Ys a+Ys b)=Ys (a+b):=by
 have:=AT;unfold Ys Xq;rw[Int.natCast_add];by_cases h1:fV<(a:Int) <;> by_cases h2:fV<(b:Int) <;> simp only[h1,h2,if_true,if_false] <;> split <;> split <;> omega
theorem Jc(a b:Nat):Xq (Ys a*Ys b)=Ys (a*b):=by
 have hM:=AT;by_cases ha:(a:Int)<=fV;by_cases hb:(b:Int)<=fV;unfold Ys;rw[se ha,se hb,Int.natCast_mul];have eb:Ys b=fV:=AJ (by lia);by_cases h0:a=0;subst h0;rw[show Ys 0=0 from se (by lia),Int.zero_mul,YPZ];rfl;have h1:(1:Int)<=a:=by lia
 have ea:Ys a=(a:Int):=se ha;rw[ea,eb];unfold Ys;rw[AJ,AJ];rw[Int.natCast_mul];exact Int.le_trans (show fV<=(b:Int) by lia) (by
  have:=Int.mul_le_mul_of_nonneg_right h1 (show(0:Int)<=b by lia);rw[Int.one_mul]at this;exact this)
 have:=Int.mul_le_mul_of_nonneg_right h1 (show(0:Int)<=fV by lia);rw[Int.one_mul]at this;exact this;have ea:Ys a=fV:=AJ (by lia);by_cases h0:b=0;subst h0;rw[show Ys 0=0 from se (by lia),Int.mul_zero,YPk];rfl;have h1:1<=Ys b:=by
  unfold Ys Xq;split <;> lia
 rw[ea];unfold Ys at *;rw[AJ (z:=fV*_),AJ];rw[Int.natCast_mul];have h2:(1:Int)<=b:=by lia
 have:=Int.mul_le_mul_of_nonneg_left h2 (show(0:Int)<=a by lia);rw[Int.mul_one]at this;lia;have:=Int.mul_le_mul_of_nonneg_left h1 (show(0:Int)<=fV by lia);rw[Int.mul_one]at this;exact this
inductive YLW(CM:Addr)(vs:List V)(H:L)(Q:VK):Prop
 |mk (tl B d b:Addr)(ts:List Addr)(w:List Nd)(kvs:List (List c_×V))(T:Nd->Nat):vs=[.ref tl,.ref d,.ref b]->H tl=some (.ins CM B [])->Rd H d (.dT kvs)->(∀y∈w,Ye kvs (Yd y)=some (.int (Ys (T y))))->H b=some (.tup (ts.map V.ref))->ZQ H ts w->1<=w.length->w.length<=2->Q (.int (Ys (Jt T w))) H->YLW CM vs H Q
def YOA(CM:al):Sp:=λvs H Q E_=>YLW CM vs H Q
inductive YJG(CM:Addr)(vs:List V)(H:L)(Q:VK):Prop
 |mk (tl B d a:Addr)(ws:List (List Nd))(kvs:List (List c_×V))(T:Nd->Nat):vs=[.ref tl,.ref d,.ref a]->H tl=some (.ins CM B [])->Rd H d (.dT kvs)->(∀w∈ws,1<=w.length/\w.length<=2/\∀y∈w,Ye kvs (Yd y)=some (.int (Ys (T y))))->xf H a ws->Q (.int (Ys (Y3 ws (Jt T)))) H->YJG CM vs H Q
def YLX(CM:al):Sp:=λvs H Q E_=>YJG CM vs H Q
inductive YJH(CM CW:Addr)(vs:List V)(H:L)(Q:VK):Prop
 |mk (wd l tl B d t:Addr)(xs:List V)(g:YV)(z:Str)(Dl:List Nd)(top:Option Nd)(kvs:List (List c_×V))(T:Nd->Nat)(y:Nd):vs=[.ref wd,.ref l,.ref tl,.ref d,.ref t]->Xe CW H wd g z Dl top->H l=some (.lst xs)->YX H xs (g.map ZW)->H tl=some (.ins CM B [])->Rd H d (.dT kvs)->H t=some (.tup ((Yd y).map kV))->y∈Dl->(∀x∈(Yc g z.cps.size (eP Dl) y).flatten,Ye kvs (Yd x)=some (.int (Ys (T x))))->(∀H',YF H H'->YW H H'->Q (.int (Ys (Y3 (Yc g z.cps.size (eP Dl) y) (Jt T)))) H')->YJH CM CW vs H Q
def YLY(CM CW:al):Sp:=λvs H Q E_=>YJH CM CW vs H Q
theorem oF(h:Rd H a u)(s:YF H H'):Rd H' a u:=h.elim (λe=>.inl<|s _ _ e) λ⟨o,e⟩=>.inr ⟨o,s _ _ e⟩
theorem og(ws:J<|J Nd):eS (sD ws) (.lst [.tup []])=decide (ws=[[]]):=by
 unfold sD
 match ws with
 |[]=>rfl
 |[[]]=>rfl
 |[_::_]=>
  rw[dy (by simp)];rfl
 |[]::_::_=>
  rw[dy (by simp)];rfl
 |(_::_)::_::_=>
  rw[dy (by simp)];rfl
theorem YFg(h:Yc g n F x≠[[]]):∀w∈Yc g n F x,1<=w.length/\w.length<=2:=by
 cases x with
 |part p i j=>
  rw[Yc]at h ⊢;split;rename_i hq;rw[if_pos hq]at h;exact absurd Z h;intro w hw;obtain⟨r,_,rfl⟩:=YOt.mp hw;exact⟨YOY _,by show 1<=2;decide⟩
 |beg r d i j=>
  cases d with
  |zero=>exact absurd Z h
  |succ d=>
   rw[Yc];intro w hw;obtain⟨k,_,rfl⟩:=YOt.mp hw;exact⟨by show 1<=2;decide,YOY _⟩
theorem YEb:YJ [aS,br,"way"] [aS,br,"way"]<|YG YAG:=eQ
theorem YEc(T:Txt K mg C)(bc:Y4 P w K mg bZ 1 C.Many "both" [ay,cn,cr]<|tf<|λx y=>Xq<|x*y):Gd P w K mg bZ 2 "value_of_way" "value_of_way" YAG [aS,br,"way"]<|YOA C.Many:=by
 refine eT YEb λH Q E hr h=>?_;obtain⟨tl,B,d,b,ts,w,kvs,Ds,rfl,htl,hd,hv,hb,hn,h1,h2,q⟩:=h;have hu:=ZZ hr;refine gi ?_;refine⟨_,(YH ⟨(Yj (YT Xm (fL K T.aF<|S 2) YC<|YU _) (YD<|YM<|JL hu (S 1) (eR K (S 2) YC)<|λ_ _=>rfl) YR)⟩
  (ZI ⟨(YM<|fS (S 0) T.bK bc hr YQ<|YI (JL hu (S 1) (eR K (S 2) YC)<|λ_ _=>rfl)<|bB<|JL hu (S 1) (eR K (S 2) YC)<|λ_ _=>rfl)⟩)),?_⟩
 have get:∀(i:Nat) (x:Nd),w[i]?=some x->∃t,ts[i]?=some t/\H t=some (.tup<|(Yd x).map kV)/\Xd H d (.ref t) (some<|.int<|Ys<|Ds x):=λi x U=>by
  have hi:i<ts.length:=by rw[hn.1];exact(YOX.mp U).1
  have ht:=hn.2 i ts[i] x (YOW hi) U;exact⟨ts[i],YOW hi,ht,.inr ⟨kvs,Yd x,ts[i],hd,Z,ht,(hv x<|YOc U).symm⟩⟩
 have hix:∀(i:Nat) (t:al),ts[i]?=some t->(ts.map V.ref)[i]?=some (.ref t):=λi t e=>by rw[YOd,e];rfl
 have hl:(ts.map V.ref).length=w.length:=by rw[YOS,hn.1]
 refine⟨_,Z,b,_,Z,.inr<|cy.of hb,Z,_,Z,?_⟩;rw[hl]
 match w,h1,h2,get,q with
 |[x],_,_,get,q=>
  obtain⟨t,et,_,gt⟩:=get 0 x Z;have R:Jt Ds [x]=Ds x:=Nat.mul_one _;rw[R]at q;exact ZC ⟨_,Z,_,Z,b,_,0,_,Z,Z,cy.of hb,Y2 (j:=0)<|hix 0 t et,d,_,Z,gt,q⟩
 |[x,y],_,_,get,q=>
  obtain⟨t,et,_,gt⟩:=get 0 x Z;obtain⟨t2,Rj,_,Rk⟩:=get 1 y Z;have R:Jt Ds [x,y]=Ds x*Ds y:=by
   show Ds x*(Ds y*1)=_;rw[Nat.mul_one]
  rw[R,<-Jc]at q;exact Yw ⟨_,Z,tl,B,_,Z,htl,Z,_,Z,_,Z,b,_,0,_,Z,Z,cy.of hb,Y2 (j:=0)<|hix 0 t et,d,_,Z,gt,_,Z,_,Z,b,_,1,_,Z,Z,cy.of hb,Y2 (j:=1)<|hix 1 t2 Rj,d,_,Z,Rk,_,_,_,Z,Zz _,Zu _,Zz _,Zu _,q⟩
theorem JV:YJ [aS,br,"ways","value","way"] [aS,br,"ways"]<|YG Xi:=eQ
theorem YD0(T:Txt K mg C)(dz:ZK P w K mg bZ 2 "value_of_way" [aS,br,"way"]<|YOA C.Many)(az:Y4 P w K mg bZ 1 C.Many "nothing" [ay]<|tS<|.int 0)(aN:Y4 P w K mg bZ 1 C.Many "either" [ay,cn,cr]<|tf<|λx y=>Xq<|x+y):Gd P w K mg bZ 3 "value_of_ways" "value_of_ways" Xi [aS,br,"ways"]<|YLX C.Many:=by
 refine eT JV λH Q E hr h=>?_;obtain⟨tl,B,d,a,ws,kvs,Ds,rfl,htl,hd,hv,⟨bs,ha,wl⟩,q⟩:=h;have hu:=ZZ hr;refine gi ?_;refine⟨_,(YH ⟨(c9 3 JV<|ic (S 0) T.bK az hr YQ)⟩
  (YH ⟨(fP (ZH K rfl<|S 2) (fz 4 JV)<|YD<|c9 3 JV<|fS (S 0) T.bK aN hr YQ<|YI (S 3)<|bB<|eW dz hr YQ<|YI (S 0)<|YI (S 1)<|bB<|S 4)⟩
  (ZI ⟨(YM<|S 3)⟩))),?_⟩
 refine fx λu eu=>?_;refine⟨_,Z,tl,B,_,Z,htl,Z,_,Z,?_⟩;show u _ _ _;subst eu;refine fx λu eu=>?_;refine⟨_,Z,a,Z,⟨_,aX.of ha⟩,Zq (K:=K) (a:=a) (xs:=bs.map V.ref) (λi σ H2=>H2=H/\∃v,σ=[some<|.ref tl,some<|.ref d,some<|.ref a,some<|.int<|Ys<|Y3 (ws.take i)<|Jt Ds,v]) ⟨Z,none,Z⟩ ?_ ?_ ?_⟩;rintro i σ H2 _ ⟨rfl,_⟩;exact aX.of ha;rintro i v σ H2 hi ⟨rfl,v4,rfl⟩;rw[YOd]at hi;obtain⟨b,hbi,rfl⟩:=YO2.mp hi;have zB:i<ws.length:=by rw[<-wl.1];exact(YOX.mp hbi).1
 obtain⟨ts,sO,kJ⟩:=wl.2 i b ws[i] hbi<|YOW zB;obtain⟨k1,k2,k3⟩:=hv ws[i]<|YQC zB;refine⟨_,Z,tl,B,_,Z,htl,Z,_,Z,_,Z,_,Z,_,Z,tl,B,d,b,ts,ws[i],kvs,Ds,Z,htl,hd,k3,sO,kJ,k1,k2,_,_,_,Z,Zz _,Zu _,Zz _,Zu _,?_⟩;have R:Y3 (ws.take<|i+1) (Jt Ds)=Y3 (ws.take i) (Jt Ds)+Jt Ds ws[i]:=by
  rw[YPA,YOW zB,YDC];rfl
 rw[YDL,<-R];exact⟨Z,_,Z⟩;rintro σ H2 ⟨rfl,v4,rfl⟩;rw[YOS,wl.1,YPI];show u _ _ _;subst eu;exact⟨_,Z,q⟩
theorem YAt:YJ [bp,aw,aS,br,aE,"ways"] [bp,aw,aS,br,aE]<|YG Xj:=eQ
theorem YD1(T:Txt K mg C)(cQ:ZK P w K mg bZ 3 "value_of_ways" [aS,br,"ways"]<|YLX C.Many)(aZ:Y4 P w K mg bZ 2 C.Wood "ways" [ay,aE]<|YHm C.Wood)(dB:Y4 P w K mg bZ 1 C.Many "of_rule" [ay,cf,"worth"]<|YNO<|.int 1)(bO:Y4 P w K mg bZ 1 C.Many "blank" [ay]<|tS<|.int 1):Gd P w K mg bZ 4 "value_of_node" "value_of_node" Xj [bp,aw,aS,br,aE]<|YLY C.Many C.Wood:=by
 refine eT YAt λH Q E hr h=>?_;obtain⟨wd,l,tl,B,d,t,xs,g,z,Dl,top,kvs,Ds,y,rfl,wa,hl,hds,htl,hd,ht,hy,hv,q⟩:=h;have hu:=ZZ hr;have hU:=hr.units;refine gi ?_;refine⟨_,(YH ⟨(c9 5 YAt<|fS (S 0) T.ak aZ hr YQ<|bB<|S 4)⟩
  (YH ⟨(Yj (YT (YCO K Z hU) (S 5) (Y6<|bB<|Y5 Yp)<|YU _) (YD<|YM<|eW cQ hr YQ<|YI (S 2)<|YI (S 3)<|bB<|S 5) YR)⟩
  (YH ⟨(Yj (YT Xm (fL K T.aF<|S 4) YC<|YU _) (YD<|YM<|fS (S 2) T.bK dB hr YQ<|YI (eR K (S 4) YC)<|bB<|eR K (fB K (S 1)<|eR K (S 4) YC) YC) YR)⟩
  (ZI ⟨(YM<|ic (S 2) T.bK bO hr YQ)⟩)))),?_⟩
 obtain⟨dw,lw,an,af,ae,rv,xw,U,_⟩:=wa.ex;refine fx λu eu=>?_;refine⟨_,Z,wd,dw,_,Z,U,Z,_,Z,wd,t,g,z,Dl,top,Yd y,Z,wa,ht,λnd e Do a H5 h1 h2 h3 h4=>?_,λhno=>absurd rfl<|hno y hy⟩;cases J3 e;show u _ _ _;subst eu;refine fx λu eu=>?_;refine⟨_,Z,YK (by decide),λR yS=>⟨mx,λe2 vP=>?_⟩⟩;have u1:=(YF.upd (o:=.tup []) yS).trans<|YF.upd (o:=.lst [.ref R]) vP;have p1:YW H<|upd (upd H5 R<|.tup []) e2<|.lst [.ref R]:=(h4.trans<|YW.upd rfl).trans<|YW.upd rfl;have sE:xf (upd (upd H5 R<|.tup []) e2<|.lst [.ref R]) a<|Yc g z.cps.size (eP Dl) y:=by
  obtain⟨bs,hb,wl⟩:=h1;exact⟨bs,u1 _ _ hb,wl.keep λc ys e=>u1 _ _ e⟩
 have d2:ci (upd (upd H5 R<|.tup []) e2<|.lst [.ref R]) (.ref e2)<|.lst [.tup []]:=.lst (.inl YA)<|.cons (.tup (YF.upd (o:=.lst [.ref R]) vP _ _ YA) .nil) .nil;have s1:=h3.trans u1;revert sE d2 s1 p1;generalize upd (upd H5 R<|.tup []) e2 (.lst [.ref R])=H7;intro p1 sE d2 s1;refine⟨sD<|Yc g z.cps.size (eP Dl) y,.lst [.tup []],YN5 sE,d2,(YLQ _).1,Z,(YLQ _).2,_,Z,?_⟩;rw[og];have qf:=q H7 s1 p1;refine gu (λhne=>?_) λhne=>?_;have hne':Yc g z.cps.size (eP Dl) y≠[[]]:=of_decide_eq_false<|YCQ hne;exact⟨_,Z,_,Z,_,Z,tl,B,d,a,_,kvs,Ds,Z,s1 _ _ htl,oF hd s1,λw hw=>⟨(YFg hne' w hw).1,(YFg hne' w hw).2,λx U=>hv x<|YQB.mpr ⟨w,hw,U⟩⟩,sE,qf⟩;have he:Yc g z.cps.size (eP Dl) y=[[]]:=fF<|YDg hne;rw[he]at qf;have qf:Q (.int 1) H7:=qf;show u _ _ _;subst eu;refine⟨_,Z,t,_,Z,.inr<|cy.of<|s1 _ _ ht,Z,_,Z,?_⟩;cases y with
 |part p i j=>exact Yw ⟨_,Z,tl,B,_,Z,s1 _ _ htl,Z,_,Z,qf⟩
 |beg r dd i j=>
  obtain⟨⟨ru,er,_⟩,_⟩:=wa.lg _ hy;obtain⟨v,Rm,dv⟩:=hds.getD (i:=r) (d:=ZW ru) (by rw[YOd,er];rfl);obtain⟨rt,rp,rfl,Rn,_⟩:=YFD dv;exact ZC ⟨_,Z,tl,B,_,Z,s1 _ _ htl,Z,_,Z,t,_,0,_,Z,Z,cy.of<|s1 _ _ ht,Z,_,Z,_,Z,t,_,0,_,Z,Z,cy.of<|s1 _ _ ht,Z,l,_,_,_,Z,Z,aX.of<|s1 _ _ hl,Y2 Rm,rt,_,2,_,Z,Z,cy.of<|s1 _ _ Rn,Z,_,_,_,Z,qf⟩
abbrev J7:Stmt:=top 50
abbrev YHv:Stmt:=top 51
abbrev YCi:Stmt:=top 52
def gN(T:Nd->Nat)(Du:J Nd):J<|J c_×V:=Du.map λy=>(Yd y,.int<|Ys<|T y)
theorem YHw(T:Nd->Nat):∀{Du:J Nd},y∉Du->Ye (gN T Du) (Yd y)=none
 |[],_=>rfl
 |x::Du,h=>by
  show Ye ((Yd x,V.int<|Ys<|T x)::gN T Du) (Yd y)=none;rw[ZU λe=>h (by rw[J3 e];exact YOZ ..)];exact YHw T λz=>h<|YOV _ z
theorem sd(T:Nd->Nat):∀{Du:J Nd},y∈Du->Ye (gN T Du) (Yd y)=some (.int<|Ys<|T y)
 |x::Du,h=>by
  show Ye ((Yd x,V.int<|Ys<|T x)::gN T Du) (Yd y)=_;by_cases e:x=y;subst e;exact ZT Z;rw[ZU λz=>e<|J3 z];exact sd T<|(YOj.mp h).resolve_left λz=>e z.symm
structure jI(g:YV)(n:Nat)(Dl Du:List Nd):Prop where
 nd:Du.Nodup
 mem:∀x,x∈Du<->x∈Dl
 ord:∀A x Dv,Du=A++x::Dv->∀y∈(Yc g n (eP Dl) x).flatten,y∈A
inductive YLZ(CM CW CE:Addr)(vs:List V)(H:L)(Q:VK)(E:XK):Prop
 |mk (wd tl B:Addr)(g:YV)(z:Str)(Dl:List Nd)(top:Option Nd)(F:Nd->Bool):vs=[.ref wd,.ref tl]->H tl=some (.ins CM B [])->Xe CW H wd g z Dl top->ZE g z.cps.size F top Dl->Dl.length<=2900000->YL H->(∀a o T Du H',jI g z.cps.size Dl Du->Zj g z.cps.size Dl T->H a=none->H' a=some (.frz o (.dT (gN T Du)))->YF H H'->YL H'->Q (.ref a) H')->(∀H' r,uS (im g z.cps.size Dl) Dl r->YF H H'->E (.ref CE) none H')->YLZ CM CW CE vs H Q E
def YKW(CM CW CE:al):Sp:=λvs H Q E=>YLZ CM CW CE vs H Q E
def w_(T:Nd->Nat):ah Nd->Nat
 |none=>0
 |some t=>T t
inductive YJI(CM CW CE:Addr)(vs:List V)(H:L)(Q:VK)(E:XK):Prop
 |mk (wd tl B:Addr)(g:YV)(z:Str)(Dl:List Nd)(top:Option Nd)(F:Nd->Bool):vs=[.ref wd,.ref tl]->H tl=some (.ins CM B [])->Xe CW H wd g z Dl top->ZE g z.cps.size F top Dl->Dl.length<=2900000->YL H->(∀T Du H',jI g z.cps.size Dl Du->Zj g z.cps.size Dl T->YF H H'->YL H'->Q (.int (Ys (w_ T top))) H')->(∀H' r,uS (im g z.cps.size Dl) Dl r->YF H H'->E (.ref CE) none H')->YJI CM CW CE vs H Q E
def YLa(CM CW CE:al):Sp:=λvs H Q E=>YJI CM CW CE vs H Q E
inductive YFh(CW:Addr)(vs:List V)(H:L)(Q:VK):Prop
 |mk (wd:Addr)(g:YV)(z:Str)(Dl:List Nd)(top:Option Nd)(F:Nd->Bool):vs=[.ref wd]->Xe CW H wd g z Dl top->ZE g z.cps.size F top Dl->Dl.length<=2900000->YL H->(∀T Du H',jI g z.cps.size Dl Du->Zj g z.cps.size Dl T->YF H H'->YL H'->Q (.int (Ys (w_ T top))) H')->(∀H' r,uS (im g z.cps.size Dl) Dl r->YF H H'->YL H'->Q .non H')->YFh CW vs H Q
def YG4(CW:al):Sp:=λvs H Q E_=>YFh CW vs H Q
theorem Zk:YJ [bp,aS,"walk",aw,br,aE] [bp,aS]<|YG J7:=eQ
theorem YCj(T:Txt K mg C)(cF:ZK P w K mg bZ 7 "walked_to_ring" [bp]<|YJF C.Walk C.Wood)(cR:ZK P w K mg bZ 4 "value_of_node" [bp,aw,aS,br,aE]<|YLY C.Many C.Wood)(aJ:Y4 P w K mg bZ 1 C.Wood "told_grammar" [ay]<|YHp C.Wood):Gd P w K mg (fM P w) 8 fH fH J7 [bp,aS]<|YKW C.Many C.Wood C.Endless:=by
 refine iN Zk λH Q E hr h=>?_;obtain⟨wd,tl,B,g,z,Dl,top,F,rfl,htl,wa,wk,hnl,hp,q1,q2⟩:=h;have hu:=ZZ hr;refine gi ?_;refine⟨_,(YH ⟨(c9 2 Zk<|eW cF hr YQ<|bB<|S 0)⟩
  (YH ⟨(Yj (YT AR (eA K<|S 2) Z0<|YU _) (YD<|Di JE T.lu rfl (by rfl) T.jh<|bB Zf) YR)⟩
  (YH ⟨(c9 3 Zk<|ic (S 0) T.ak aJ hr YQ)⟩
  (YH ⟨(c9 4 Zk Jz)⟩
  (YH ⟨(AM PassesOwn.leaving Z (ZH K rfl<|eA K<|S 2) (fz 5 Zk)<|YD<|Jg hu (S 4) (S 5) (eW cR hr YQ<|Za (S 0)<|Za (S 3)<|Za (S 1)<|Za (S 4)<|Za (S 5) Yp) rfl)⟩
  (ZI ⟨(YM<|tN<|YFN<|S 4)⟩)))))),?_⟩
 refine⟨_,Z,wd,g,z,Dl,top,F,Z,wa,wk,hnl,λx a1 a2 a3 a4 a5 us ms st ld left met H1 w1 hend=>?_⟩;obtain⟨uQ,mv,U,hmt⟩:=w1.ws.x_;refine⟨_,Z,x,C.Walk,uQ,_,_,Z,U,T.aq,T.cI,Z,Z,_,Z,?_⟩;have sm:=w1.ws.sm;dsimp only;rcases hmt with ⟨em,rfl,ems⟩|⟨rg,b,em,rfl,ems,hb⟩
 obtain⟨rfl,hall⟩:=hend em;have w2:=w1.wk.calm hall;have e:(left.filter λz=>!ld z)=left:=List.filter_eq_self.mpr λy _=>by rw[w1.wk.m0 em y];rfl
 rw[e]at w2;have hO:jI g z.cps.size Dl left:=⟨w2.nd,λy=>⟨w2.sub y,hall y⟩,w2.ord⟩;obtain⟨Tc,hT⟩:=ze hO.nd hO.mem hO.ord;rw[de Z];refine Yw ?_;obtain⟨dw,lw,an,af,ae,rv,xw,lG,_⟩:=wa.ex;refine⟨_,Z,wd,dw,_,Z,sm _ _ lG,Z,wd,g,z,Dl,top,Z,wa.same sm,λl xs H2 nl hl hds s2 _ d hd=>?_⟩;have sY:=sm.trans s2;obtain⟨ts,e5,n5⟩:=w1.ws.h5;have u3:=YF.upd (o:=.dT []) hd;have tslen:ts.length=left.length:=n5.1;have hleft:left.length<=2900000:=YO1 (ZN hO.nd λy hy=>(hO.mem y).mp hy) hnl;dsimp only[Yh];refine⟨_,Z,x,C.Walk,uQ,_,_,Z,u3 _ _<|s2 _ _ U,T.aq,T.dZ,Z,a5,Z,⟨_,aX.of<|u3 _ _<|s2 _ _ e5⟩,Zq (K:=K) (a:=a5) (xs:=ts.map V.ref) (λi σ G=>YF H2 G/\G d=some (.dT<|gN Tc<|left.take i)/\∃v,σ=[some<|.ref wd,some<|.ref tl,some<|.ref x,some<|.ref l,some<|.ref d,v])
  ⟨u3,YA,none,Z⟩ ?_ ?_ ?_⟩
 rintro i σ G _ ⟨s,_⟩;exact aX.of<|s _ _<|s2 _ _ e5;rintro i v σ G hi ⟨s,gd,v5,rfl⟩;rw[YOd]at hi;obtain⟨t,Qz,rfl⟩:=YO2.mp hi;have hil:i<left.length:=by rw[<-tslen];exact(YOX.mp Qz).1
 obtain⟨y,hy⟩:∃y,left[i]?=some y:=⟨_,YOW hil⟩;have ht:=s _ _<|s2 _ _<|n5.2 i t y Qz hy;have ug:left=left.take i++y::left.drop (i+1):=by
  have:=YQG i left;rw[YPF hil,(YOX.mp hy).2]at this;exact this.symm
 have QB:y∈Dl:=(hO.mem y).mp<|YOc hy;have Ro:y∉left.take i:=λz=>by
  have:=hO.nd;rw[ug]at this;exact(YPH.mp this).2.2 y z y (YOZ ..) Z
 have sG:=sY.trans s;refine⟨_,Z,_,Z,_,Z,_,Z,_,Z,wd,l,tl,B,d,t,xs,g,z,Dl,top,gN Tc<|left.take i,Tc,y,Z,wa.same sG,s _ _ hl,hds.same s,sG _ _ htl,.inl gd,ht,QB,λx U=>sd Tc<|hO.ord _ _ _ ug x U,λG' s' _=>?_⟩;refine⟨_,Z,_,Z,d,_,Z,ib.t (s' _ _ gd) (s' _ _ ht) ?_,?_⟩;unfold gN;rw[YOS,YPK,sizeLine_eq];lia;refine⟨(s.trans s').put hd,?_,_,Z⟩;rw[YA,YCs _<|YHw Tc Ro,<-hT.eq y QB,YPA,hy];unfold gN;rw[YOk];rfl;rintro σ G ⟨s,gd,v5,rfl⟩;rw[YOS,tslen,YPI]at gd;have hdH:H d=none:=sY.free hd;refine⟨_,Z,d,_,gd,λo=>q1 d o Tc left _ hO hT hdH (A5 YA Z) (YIP ((sY.trans s).put hdH) hp)<|YGb _⟩;rw[dy (λh=>by cases h)];exact ZC ⟨YK (by decide),q2 H1 rg (w1.wk.m1 rg em) sm⟩
theorem YJJ:YJ [bp,aS,br] [bp,aS]<|YG YHv:=eQ
theorem YOB(T:Txt K mg C)(aQ:ZK P w K mg (fM P w) 8 fH [bp,aS]<|YKW C.Many C.Wood C.Endless)(aR:Y4 P w K mg bZ 1 C.Wood "top" [ay]<|YLO C.Wood)(az:Y4 P w K mg bZ 1 C.Many "nothing" [ay]<|tS<|.int 0):Gd P w K mg (fM P w) 9 "total" "total" YHv [bp,aS]<|YLa C.Many C.Wood C.Endless:=by
 refine iN YJJ λH Q E hr h=>?_;obtain⟨wd,tl,B,g,z,Dl,top,F,rfl,htl,wa,wk,hnl,hp,q1,q2⟩:=h;have hu:=ZZ hr;refine gi ?_;refine⟨_,(YH ⟨(c9 2 YJJ<|eW aQ hr JE.on<|YI (S 0)<|bB<|S 1)⟩
  (ZI ⟨(YM<|YEs (YT Bz (ic (S 0) T.ak aR hr YQ) Z0<|YU _) (ic (S 1) T.bK az hr YQ)<|JL hu (S 2) (ic (S 0) T.ak aR hr YQ)<|λ_ _=>rfl)⟩)),?_⟩
 refine⟨_,Z,_,Z,wd,tl,B,g,z,Dl,top,F,Z,htl,wa,wk,hnl,hp,λa o Ds Du H1 hO hT na ga s1 p1=>?_,q2⟩;dsimp only[Yh];obtain⟨dw,lw,an,af,ae,rv,xw,lG,_⟩:=wa.ex;have pI:=s1 _ _ lG;have qf:=q1 Ds Du H1 hO hT s1 p1;refine⟨_,Z,wd,dw,_,Z,pI,Z,wd,g,z,Dl,top,Z,wa.same s1,λv hv=>⟨Z,_,Z,?_⟩⟩;rcases hv with ⟨e,rfl⟩|⟨x,t,e,rfl,ht⟩
 rw[de Z];rw[e]at qf;exact ZC ⟨_,Z,tl,B,_,Z,s1 _ _ htl,Z,_,Z,qf⟩;rw[dy (λh=>by cases h)];refine Yw ⟨_,Z,_,Z,wd,dw,_,Z,pI,Z,wd,g,z,Dl,top,Z,wa.same s1,λv hv=>?_⟩;rcases hv with ⟨e2,_⟩|⟨x2,t2,e2,rfl,jA⟩
 rw[e]at e2;cases e2;rw[e]at e2;cases e2;rw[e]at qf;exact⟨a,_,Z,.inr ⟨_,Yd x,t2,.inr ⟨o,ga⟩,Z,jA,(sd Ds<|(hO.mem x).mpr<|wk.tp x e).symm⟩,qf⟩
theorem YJK:YJ [bp] [bp]<|YG YCi:=eQ
theorem YJL(T:Txt K mg C)(jq:ZK P w K mg (fM P w) 9 "total" [bp,aS]<|YLa C.Many C.Wood C.Endless):Gd P w K mg bZ 10 "how_many" "how_many" YCi [bp]<|YG4 C.Wood:=by
 refine eT YJK λH Q E hr h=>?_;obtain⟨wd,g,z,Dl,top,F,rfl,wa,wk,hnl,hp,q1,q2⟩:=h;refine⟨_,(YD<|oq rfl rfl rfl (YM6<|om<|pxU jq hr<|YI (S 0)<|bB<|YJw T.jm (by rfl) T.jW)<|oU (C:=C.Endless) rfl (by rfl) T.jh (λe=>(YD<|YM<|tN Z0)) xH),?_⟩;refine⟨_,Z,λtl B h1 h2 h3=>?_⟩;have s0:YF H<|upd (upd H B<|.own tl) tl<|.ins C.Many B []:=(YF.upd h2).put h1;exact⟨wd,tl,B,g,z,Dl,top,F,Z,YA,wa.same s0,wk,hnl,(hp.upd Z).upd Z,λDs Du H1 hO hT s1 p1=>q1 Ds Du H1 hO hT (s0.trans s1) p1,λH1 r hr s1=>.inl ⟨T.xEE,q2 (kQ H1) r hr (YIP (s0.trans s1) hp)<|YGb _⟩⟩
abbrev XS:Stmt:=Yv (top 38) 0
abbrev Jn:Stmt:=Yv (top 38) 1
abbrev J8:Stmt:=Yv (top 38) 2
abbrev Xk:Stmt:=Yv (top 38) 3
abbrev JK:Stmt:=Yv (top 38) 4
structure ve(C CM:Addr)(H:L)(x:Addr)(g:YV)(T:Nd->Nat)(Du:List Nd):Prop where
 ex:∃(B l tl dt d an bd:Addr) (o ob:Obj) (xs:List V) (kb:List<|List c_×V),H x=some (.ins C B [(aw,.ref l),(aS,.ref tl),(br,.ref d),(bi,.ref an),(cw,.ref bd)])/\H l=some (.lst xs)/\YX H xs (g.map ZW)/\H tl=some (.ins CM dt [])/\H d=some (.frz o<|.dT<|gN T Du)/\qA H an g/\H bd=some (.frz ob<|.dT kb)/\
  ∀t,(Ye kb (gz t)=none/\Jb Du t=[])\/∃c vs,Ye kb (gz t)=some (.ref c)/\H c=some (.lst vs)/\XD H vs (Jb Du t) λb=>Ys<|T<|.part t.1 b t.2
theorem ve.same(h:ve C CM H x g T Du)(s:YF H H'):ve C CM H' x g T Du:=by
 obtain⟨B,l,tl,dt,d,an,bd,o,ob,xs,kb,R,e2,e3,e4,e5,e6,e7,e8⟩:=h.ex;exact⟨B,l,tl,dt,d,an,bd,o,ob,xs,kb,s _ _ R,s _ _ e2,e3.same s,s _ _ e4,s _ _ e5,e6.same s,s _ _ e7,λt=>(e8 t).imp id λ⟨c,vs,z1,z2,z3⟩=>⟨c,vs,z1,s _ _ z2,z3.same s⟩⟩
inductive YG5(C CM CW:Addr)(vs:List V)(H:L)(Q:VK):Prop
 |mk (H0:L)(x wd tl dt d B:Addr)(o:Obj)(g:YV)(z:Str)(Dl:List Nd)(top:Option Nd)(T:Nd->Nat)(Du:List Nd):vs=[.ref x,.ref wd,.ref tl,.ref d]->H x=some (.ins C B [])->H0 x=none->YF H0 H->YL H->Xe CW H0 wd g z Dl top->H0 tl=some (.ins CM dt [])->H0 d=some (.frz o (.dT (gN T Du)))->Du.Nodup->Du.length<=2900000->(∀H',ve C CM H' x g T Du->YF H0 H'->YL H'->Q .non H')->YG5 C CM CW vs H Q
def YJN(C CM CW:al):Sp:=λvs H Q E_=>YG5 C CM CW vs H Q
theorem YAZ:YJ [ay,bp,aS,br,aE] [ay,bp,aS,br]<|YG XS:=eQ
theorem YDM(T:Txt K mg C)(aP:ZK P w K mg bZ 1 fD [aw]<|YKU)(aJ:Y4 P w K mg bZ 1 C.Wood "told_grammar" [ay]<|YHp C.Wood):Gd P w K mg bZ 2 "__init__" "Rests.__init__" XS [ay,bp,aS,br]<|YJN C.Rests C.Many C.Wood:=by
 refine eT YAZ λH Q E hr h=>?_;obtain⟨H0,x,wd,tl,dt,d,B,o,g,z,Dl,top,Ds,Du,rfl,U,nx,s0,hp,wa,htl,hd,hnd,nH,q⟩:=h;have hu:=ZZ hr;refine gi ?_;refine⟨_,(YH ⟨(fO K (S 0)<|ic (S 1) T.ak aJ hr YQ)⟩
  (YH ⟨(fO K (S 0)<|S 2)⟩
  (YH ⟨(fO K (S 0)<|S 3)⟩
  (YH ⟨(fO K (S 0)<|eW aP hr YQ<|bB<|eA K<|S 0)⟩
  (YH ⟨(fO K (S 0) Jz)⟩
  (ZI ⟨(xh<|fP (YIi<|S 3) (fz 4 YAZ)<|YD<|Yj (YT Xm (fL K T.aF<|S 4) YC<|YU _) (YD<|Ya<|fX K (YC5 hu (eA K<|S 0) (Y5<|YI (eR K (S 4) YC)<|bB<|eR K (S 4) YC) (Y6 Yp) ⟨Z,Z,Z,Z⟩)<|Y5<|YI (eR K (S 4) YC)<|bB<|JL hu (S 3) (S 4)<|λ_ _=>rfl) YR)⟩)))))),?_⟩
 obtain⟨dw,lw,an0,af,ae,rv,xw,lG,_⟩:=wa.ex;refine⟨_,Z,wd,dw,_,Z,s0 _ _ lG,Z,wd,g,z,Dl,top,Z,wa.same s0,λl xs H1 nl hl hds s1 Rp=>⟨_,Z,x,C.Rests,B,_,Z,s1 _ _ U,T.au,T.cj,by decide,?_⟩⟩;have i1:Yz H1<|upd H1 x<|.ins C.Rests B<|Yf aw (.ref l) []:=Yz.set<|s1 _ _ U;have t1:YF H0<|upd H1 x<|.ins C.Rests B<|Yf aw (.ref l) []:=(s0.trans s1).put nx;have p1:YL<|upd H1 x<|.ins C.Rests B<|Yf aw (.ref l) []:=(YL.new hp Rp).upd rfl;have x1:upd H1 x (.ins C.Rests B<|Yf aw (.ref l) []) x=some (.ins C.Rests B [(aw,.ref l)]):=YA;have l1:=i1.lst hl;have d1:=X7 i1 hds;revert t1 p1 x1 l1 d1;generalize upd H1 x (.ins C.Rests B<|Yf aw (.ref l) [])=G1;intro t1 p1 x1 l1 d1;refine⟨_,Z,_,Z,x,C.Rests,B,_,Z,x1,T.au,T.aB,(show 1<1000 by decide),?_⟩;have i2:Yz G1<|upd G1 x<|.ins C.Rests B<|Yf aS (.ref tl) [(aw,.ref l)]:=Yz.set x1;have t2:YF H0<|upd G1 x<|.ins C.Rests B<|Yf aS (.ref tl) [(aw,.ref l)]:=t1.put nx;have p2:YL<|upd G1 x<|.ins C.Rests B<|Yf aS (.ref tl) [(aw,.ref l)]:=p1.upd rfl;have x2:upd G1 x (.ins C.Rests B<|Yf aS (.ref tl) [(aw,.ref l)]) x=some (.ins C.Rests B [(aw,.ref l),(aS,.ref tl)]):=YA;have l2:=i2.lst l1;have d2:=X7 i2 d1;revert t2 p2 x2 l2 d2;generalize upd G1 x (.ins C.Rests B<|Yf aS (.ref tl) [(aw,.ref l)])=G2;intro t2 p2 x2 l2 d2;refine⟨_,Z,_,Z,x,C.Rests,B,_,Z,x2,T.au,T.cu,(show 2<1000 by decide),?_⟩;have i3:Yz G2<|upd G2 x<|.ins C.Rests B<|Yf br (.ref d) [(aw,.ref l),(aS,.ref tl)]:=Yz.set x2;have t3:YF H0<|upd G2 x<|.ins C.Rests B<|Yf br (.ref d) [(aw,.ref l),(aS,.ref tl)]:=t2.put nx;have p3:YL<|upd G2 x<|.ins C.Rests B<|Yf br (.ref d) [(aw,.ref l),(aS,.ref tl)]:=p2.upd rfl;have x3:upd G2 x (.ins C.Rests B<|Yf br (.ref d) [(aw,.ref l),(aS,.ref tl)]) x=some (.ins C.Rests B [(aw,.ref l),(aS,.ref tl),(br,.ref d)]):=YA;have l3:=i3.lst l2;have d3:=X7 i3 d2;revert t3 p3 x3 l3 d3;generalize upd G2 x (.ins C.Rests B<|Yf br (.ref d) [(aw,.ref l),(aS,.ref tl)])=G3;intro t3 p3 x3 l3 d3;refine⟨_,Z,x,C.Rests,B,_,_,Z,x3,T.au,T.cj,Z,l,xs,g,Z,l3,d3,wa.gr,p3,λan H4 hna s4 p4=>⟨_,Z,x,C.Rests,B,_,Z,s4 _ _ x3,T.au,T.dN,(show 3<1000 by decide),?_⟩⟩;have i4:Yz H4<|upd H4 x<|.ins C.Rests B<|Yf bi (.ref an) [(aw,.ref l),(aS,.ref tl),(br,.ref d)]:=Yz.set<|s4 _ _ x3;have t4:YF H0<|upd H4 x<|.ins C.Rests B<|Yf bi (.ref an) [(aw,.ref l),(aS,.ref tl),(br,.ref d)]:=(t3.trans s4).put nx;have q4:YL<|upd H4 x<|.ins C.Rests B<|Yf bi (.ref an) [(aw,.ref l),(aS,.ref tl),(br,.ref d)]:=p4.upd rfl;have x4:upd H4 x (.ins C.Rests B<|Yf bi (.ref an) [(aw,.ref l),(aS,.ref tl),(br,.ref d)]) x=some (.ins C.Rests B [(aw,.ref l),(aS,.ref tl),(br,.ref d),(bi,.ref an)]):=YA;have j4:=(Yz.of s4).trans i4;have l4:=j4.lst l3;have d4:=X7 j4 d3;have n4:=hna.sameI i4;revert t4 q4 x4 l4 d4 n4;generalize upd H4 x (.ins C.Rests B<|Yf bi (.ref an) [(aw,.ref l),(aS,.ref tl),(br,.ref d)])=G4;intro t4 q4 x4 l4 d4 n4;intro bd hbd;have zE:x≠bd:=YS x4 hbd;have u5:=YF.upd (o:=.dT []) hbd;refine⟨_,Z,x,C.Rests,B,_,Z,u5 _ _ x4,T.au,T.cN,(show 4<1000 by decide),?_⟩;dsimp only;have b5:kE (del (upd (upd G4 bd<|.dT []) x<|.ins C.Rests B<|Yf cw (.ref bd) [(aw,.ref l),(aS,.ref tl),(br,.ref d),(bi,.ref an)]) bd) (upd (upd G4 bd<|.dT []) x<|.ins C.Rests B<|Yf cw (.ref bd) [(aw,.ref l),(aS,.ref tl),(br,.ref d),(bi,.ref an)]) bd (λ_=>none) (λ_=>[]) 0:=
  ⟨Cm _ _,⟨[],by rw[YB zE.symm,YA],YOY _,λt=>.inl ⟨Z,Z⟩⟩,(λa t e=>nomatch e),Xz,λt=>YOY _⟩
 have i5:Yz G4<|upd (upd G4 bd<|.dT []) x<|.ins C.Rests B<|Yf cw (.ref bd) [(aw,.ref l),(aS,.ref tl),(br,.ref d),(bi,.ref an)]:=(Yz.of u5).trans<|Yz.set<|u5 _ _ x4;have t5:YF H0<|upd (upd G4 bd<|.dT []) x<|.ins C.Rests B<|Yf cw (.ref bd) [(aw,.ref l),(aS,.ref tl),(br,.ref d),(bi,.ref an)]:=(t4.trans u5).put nx;have x5:upd (upd G4 bd<|.dT []) x (.ins C.Rests B<|Yf cw (.ref bd) [(aw,.ref l),(aS,.ref tl),(br,.ref d),(bi,.ref an)]) x=some (.ins C.Rests B [(aw,.ref l),(aS,.ref tl),(br,.ref d),(bi,.ref an),(cw,.ref bd)]):=YA;have p5:∀b o,upd (upd G4 bd<|.dT []) x (.ins C.Rests B<|Yf cw (.ref bd) [(aw,.ref l),(aS,.ref tl),(br,.ref d),(bi,.ref an)]) b=some o->b=bd\/Y0 o=true:=λb o e=>by
  rcases Yl Z b o e with e|e
  by_cases hb:b=bd;exact .inl hb;rw[YB hb]at e;exact .inr<|q4 b o e;exact .inr e
 have wX:H0 bd=none:=t4.free hbd;revert b5 t5 x5 p5 i5;generalize upd (upd G4 bd<|.dT []) x (.ins C.Rests B<|Yf cw (.ref bd) [(aw,.ref l),(aS,.ref tl),(br,.ref d),(bi,.ref an)])=G5;intro b5 i5 t5 x5 p5;have sB0:YF H0<|del G5 bd:=λb o e=>by rw[Zg (λz=>by rw[z,wX]at e;cases e)];exact t5 _ _ e
 have hdB:∀{G:L},YF (del G5 bd) G->G d=some (.frz o<|.dT<|gN Ds Du):=λ{G} s=>s _ _<|sB0 _ _ hd;have kl:(gN Ds Du).length=Du.length:=by unfold gN;rw[YOS]
 refine⟨_,Z,d,o,gN Ds Du,Z,t5 _ _ hd,YGp (d:=d) (o:=o) (kvs:=gN Ds Du) (λi σ H2=>∃(own:al->ah (av×Nat)) (v4:ah V) (N:Nat) (E:av×Nat->J V),σ=[some<|.ref x,some<|.ref wd,some<|.ref tl,some<|.ref d,v4]/\kE (del G5 bd) H2 bd own E N/\N<=2*i/\(∀t,XD H2 (E t) (Jb (Du.take i) t) λb=>Ys<|Ds<|.part t.1 b t.2)/\∀b o,H2 b=some o->b=bd\/Y0 o=true)
  ⟨λ_=>none,none,0,λ_=>[],Z,b5,YOY _,λt=>⟨Z,λi v b e=>nomatch e⟩,p5⟩ (λi σ H2 _ ⟨own,v4,N,E,_,g2,_⟩=>hdB g2.sm) ?_ ?_⟩
 rintro i kv b σ H2 hi hb2 ⟨own,v4,N,E,rfl,g2,hN,hP,hpl⟩;have hil:i<Du.length:=by rw[<-kl];exact(YOX.mp hi).1
 obtain⟨y,ey⟩:∃y,Du[i]?=some y:=⟨_,YOW hil⟩;have ekv:kv=(Yd y,.int<|Ys<|Ds y):=by
  unfold gN at hi;rw[YOd,ey]at hi;exact(YO3 hi).symm
 subst ekv;have hx2:=λ{G:L} (s:YF (del G5 bd) G)=>s _ _ (show del G5 bd x=_ from by rw[Zg zE];exact x5);dsimp only[Yh];cases y with
 |beg r dd ii k=>
  have gW:H2 b=some (.tup [nV r,nV dd,nV ii,nV k]):=hb2;refine⟨_,Z,b,_,Z,.inr<|cy.of gW,Z,_,Z,?_⟩;rw[show decide (V.int (([nV r,nV dd,nV ii,nV k]:J V).length:Nat)=V.int 3)=false from dy (λh=>by injection h with h;have h:(4:Int)=3:=h;lia)];exact Yw ⟨own,_,N,E,Z,g2,by lia,λt=>by rw[YNr ey];exact hP t,hpl⟩
 |part p a c=>
  have gW:H2 b=some (.tup [.str p,nV a,nV c]):=hb2;refine⟨_,Z,b,_,Z,.inr<|cy.of gW,Z,_,Z,?_⟩;rw[show decide (V.int (([.str p,nV a,nV c]:J V).length:Nat)=V.int 3)=true from de Z];obtain⟨iC,R,e2,e3⟩:=g2.h;refine ZC ⟨_,Z,x,C.Rests,B,_,_,Z,hx2 g2.sm,T.au,T.cN,Z,bd,Z,.inr ⟨iC,.inl R⟩,_,Z,b,_,0,_,Z,Z,cy.of gW,Z,_,Z,b,_,2,_,Z,Z,cy.of gW,Z,lp,λtk iH=>?_⟩;refine⟨YK<|YOn _,λe he=>?_⟩;have g3:=g2.same<|YF.upd (o:=.tup [.str p,nV c]) iH;have hP3:∀t,XD (upd H2 tk<|.tup [.str p,nV c]) (E t) (Jb (Du.take i) t) λb=>Ys<|Ds<|.part t.1 b t.2:=λt=>(hP t).same<|YF.upd iH;have lQ:upd H2 tk (.tup [.str p,nV c]) tk=some (.tup<|(gz (p,c)).map kV):=YA;have jJ:upd H2 tk (.tup [.str p,nV c]) b=some (.tup [.str p,nV a,nV c]):=YF.upd iH _ _ gW;have zF:∀b o,upd H2 tk (.tup [.str p,nV c]) b=some o->b=bd\/Y0 o=true:=λb o e=>(Yl Z b o e).elim (hpl b o) .inr;revert g3 lQ jJ he hP3 zF;generalize upd H2 tk (.tup [.str p,nV c])=H3;intro he g3 hP3 lQ jJ zF;have u4:=YF.upd (o:=.lst []) he;have g4:=g3.same u4;have hP4:∀t,XD (upd H3 e<|.lst []) (E t) (Jb (Du.take i) t) λb=>Ys<|Ds<|.part t.1 b t.2:=λt=>(hP3 t).same u4;have jc:=u4 _ _ lQ;have hb4:=u4 _ _ jJ;have v_:upd H3 e (.lst []) e=some (.lst []):=YA;have sZ:∀b o,upd H3 e (.lst []) b=some o->b=bd\/Y0 o=true:=λb o e=>(Yl Z b o e).elim (zF b o) .inr;have Rq:del G5 bd e=none:=g3.sm.free he;have Rr:own e=none:=by
   cases ho:own e with
   |none=>rfl
   |some t=>
    obtain⟨_,k_,z⟩:=g3.on e t ho;rw[he]at z;cases z
  revert g4 hP4 jc hb4 v_ sZ;generalize upd H3 e (.lst [])=H4;intro g4 hP4 jc hb4 v_ sZ;obtain⟨QC,f1,f2,f3⟩:=g4.h;have fin:∀(cL:al->ah (av×Nat)) (N':Nat) (H5:L) (a':al),kE (del G5 bd) H5 bd cL E N'->N'<=2*i+1->cL a'=some (p,c)->(∀kvs,H5 bd=some (.dT kvs)->Ye kvs (gz (p,c))=some (.ref a'))->H5 a'=some (.lst<|E (p,c))->H5 b=some (.tup [.str p,nV a,nV c])->(∀t,XD H5 (E t) (Jb (Du.take i) t) λb=>Ys<|Ds<|.part t.1 b t.2)->(∀b o,H5 b=some o->b=bd\/Y0 o=true)->
    tBM K "list" YHQ (tC<|.ref a') (mn (Cw<|mn (kH (oS K) (ml 4)<|tC<|V.int 1)<|mn (sj (ml 3)<|ml 4) lj) lj) [some<|.ref x,some<|.ref wd,some<|.ref tl,some<|.ref d,some<|.ref b] H5 λ_ H6=>∃(own:al->ah (av×Nat)) (v4:ah V) (N:Nat) (E:av×Nat->J V),[some<|V.ref x,some<|.ref wd,some<|.ref tl,some<|.ref d,some<|.ref b]=[some<|V.ref x,some<|.ref wd,some<|.ref tl,some<|.ref d,v4]/\kE (del G5 bd) H6 bd own E N/\N<=2*(i+1)/\(∀t,XD H6 (E t) (Jb (Du.take<|i+1) t) λb=>Ys<|Ds<|.part t.1 b t.2)/\∀b o,H6 b=some o->b=bd\/Y0 o=true:=λcL N' H5 a' g5 hN' ho' hv' ha' nQ hP5 Rt=>by
   refine⟨.inl ⟨Z,_,aX.of ha'⟩,_,Z,b,_,1,_,Z,Z,cy.of nQ,Z,_,Z,_,Z,d,_,Z,.inr ⟨_,Yd<|.part p a c,b,.inr ⟨o,hdB g5.sm⟩,Z,nQ,(sd Ds<|YOc ey).symm⟩,lp,λtp jQ=>?_⟩;have u6:=YF.upd (o:=.tup [nV a,.int<|Ys<|Ds<|.part p a c]) jQ;have g6:=(g5.same u6).more ho' (λkvs z=>by
    have hbt:bd≠tp:=by
     obtain⟨kk,z1,_⟩:=g5.h;exact YS z1 jQ
    rw[YB hbt]at z;exact hv' kvs z)<|.ref tp
   have u_:=u6 _ _ ha';refine⟨a',_,_,Z,Z,u_,by rw[sizeLine_eq];have:=g5.le (p,c);lia,cL,_,N'+1,_,Z,g6,by lia,λt=>?_,λb o e=>(Yl Z b o e).elim (λe=>(Yl Z b o e).elim (Rt b o) .inr) .inr⟩;have kt:∀c' ys,upd H5 tp (.tup [nV a,.int<|Ys<|Ds<|.part p a c]) c'=some (.tup ys)->upd (upd H5 tp<|.tup [nV a,.int<|Ys<|Ds<|.part p a c]) a' (.lst<|E (p,c)++[.ref tp]) c'=some (.tup ys):=λc' ys=>YY u_ nofun;rw[YML ey];by_cases e:t=(p,c);subst e;rw[if_pos Z,if_pos Z];exact(((hP5 (p,c)).same u6).snoc YA).keep kt;rw[if_neg e,if_neg e];exact((hP5 t).same u6).keep kt
  refine⟨QC,gz (p,c),tk,f1,Z,jc,by rw[sizeLine_eq];lia,λv hv=>?_,λhv=>?_⟩;rcases f3 (p,c) with z|⟨a',z1,z2,z3⟩
  rw[z.1]at hv;cases hv;rw[z1]at hv;cases hv;exact fin own N H4 a' g4 (by lia) z2 (λkvs z=>by rw[f1]at z;cases z;exact z1) z3 hb4 hP4 sZ;have hE:E (p,c)=[]:=by
   rcases f3 (p,c) with z|⟨a',z1,z2,z3⟩
   exact z.2;rw[hv]at z1;cases z1
  have g5:=g4.fresh (t:=(p,c)) v_ Rq Rr f1 hv;have kb:∀c' o',(∀k,o'≠.dT k)->H4 c'=some o'->upd H4 bd (.dT<|Yu QC (gz (p,c))<|.ref e) c'=some o':=λc' o' n z=>by rw[YB<|Yg z f1<|n _];exact z
  exact fin _ (N+1) _ e g5 (by lia) (if_pos Z) (λkvs z=>by rw[YA]at z;cases z;rw[Z1,if_pos Z]) (by rw[hE];exact kb _ _ (λk z=>nomatch z) v_) (kb _ _ (λk z=>nomatch z) hb4) (λt=>(hP4 t).keep λc' ys=>kb _ _ (λk z=>nomatch z)) λb' o' z=>by
   by_cases hb':b'=bd;exact .inl hb';rw[YB hb']at z;exact sZ b' o' z
 rintro σ H2 ⟨own,v4,N,E,rfl,g2,hN,hP,hpl⟩;rw[kl,YPI]at hP;obtain⟨kvE,R,e2,e3⟩:=g2.h;refine⟨bd,kvE,R,λob=>?_⟩;have sF:YF (del G5 bd)<|upd H2 bd<|.frz ob<|.dT kvE:=g2.sm.put Xz;have gx:∀b o,b≠bd->G5 b=some o->upd H2 bd (.frz ob<|.dT kvE) b=some o:=λb o hb e=>sF _ _ (by rw[Zg hb];exact e);have sI:Yz G4<|upd H2 bd<|.frz ob<|.dT kvE:=λb o n e=>gx b o (λz=>by rw[z,hbd]at e;cases e)<|i5 b o n e;refine q _ ⟨B,l,tl,dt,d,an,bd,o,ob,xs,kvE,sF _ _ (by rw[Zg zE];exact x5),sI.lst l4,X7 sI d4,sF _ _<|sB0 _ _ htl,hdB sF,n4.sameI sI,YA,λt=>?_⟩ (sB0.trans sF) λb u e=>?_;refine(e3 t).imp (λz=>⟨z.1,?_⟩) λ⟨a,z1,z2,z3⟩=>⟨a,E t,z1,by rw[YB<|Yg z3 R nofun];exact z3,(hP t).keep λc ys z=>by rw[YB<|Yg z R nofun];exact z⟩;have:=(hP t).1;rw[z.2]at this;exact YPR.mp this.symm;by_cases hb:b=bd;subst hb;rw[YA]at e;cases e;rfl;rw[YB hb]at e;exact(hpl b u e).resolve_left hb
def io(T:Nd->Nat)(n:Nat)(ps:J av)(es:J Nat):J<|c_×V:=es.map λe:Nat=>(.inl (e:Int),.int<|Ys<|Nc T n ps e)
structure Jo(H:L)(rd:Addr)(n:Nat)(T:Nd->Nat)(ps:List Str)(lo:Nat):Prop where
 ex:∃(o:Obj) (es:List Nat),H rd=some (.frz o<|.dK<|io T n ps es)/\es.Nodup/\(∀e∈es,e<=n)/\∀e,lo<=e->e<=n->Nc T n ps e≠0->e∈es
theorem Jo.same(h:Jo H rd n T ps lo)(s:YF H H'):Jo H' rd n T ps lo:=by
 obtain⟨o,es,R,e2⟩:=h.ex;exact⟨o,es,s _ _ R,e2⟩
theorem Jo.mono(h:Jo H rd n T ps lo)(hl:lo<=zG):Jo H rd n T ps zG:=by
 obtain⟨o,es,R,e2,e3,e4⟩:=h.ex;exact⟨o,es,R,e2,e3,λe he=>e4 e<|YO1 hl he⟩
def Zo(H:L)(n:Nat)(T:Nd->Nat):V->J av->Nat->Prop
 |v,[],_=>v=.non
 |v,p::ps,lo=>∃t rd v',v=.ref t/\H t=some (.tup [.str p,.ref rd,v'])/\Jo H rd n T ps lo/\Zo H n T v' ps lo
theorem Zo.same(s:YF H H'):∀{v:V}{ps:J av}{lo:Nat},Zo H n T v ps lo->Zo H' n T v ps lo
 |v,[],_,h=>h
 |v,p::ps,lo,⟨t,rd,v',R,e2,e3,e4⟩=>⟨t,rd,v',R,s _ _ e2,e3.same s,Zo.same s e4⟩
theorem Zo.mono(hl:lo<=zG):∀{v:V}{ps:J av},Zo H n T v ps lo->Zo H n T v ps zG
 |v,[],h=>h
 |v,p::ps,⟨t,rd,v',R,e2,e3,e4⟩=>⟨t,rd,v',R,e2,e3.mono hl,Zo.mono hl e4⟩
theorem zC{f:Nat->V}{b:Nat}{v:V}{bs:J Nat}(h:b∈bs):Yu (bs.map λe:Nat=>((.inl (e:Int):c_),f e)) (.inl (b:Int)) v=bs.map λe:Nat=>(.inl (e:Int),if e=b then v else f e):=by
 unfold Yu;rw[if_pos,YPa];refine YPN λe _=>?_;show(if (Sum.inl (e:Int):c_)=.inl (b:Int) then ((.inl (e:Int):c_),v) else (.inl (e:Int),f e))=_;by_cases z:e=b;rw[if_pos (by rw[z]),if_pos z];rw[if_neg<|λq=>z<|Int.ofNat_inj.mp<|Sum.inl.inj q,if_neg z];exact List.any_eq_true.mpr ⟨_,YOt.mpr ⟨b,h,Z⟩,de Z⟩
theorem YHx{f:Nat->V}{b:Nat}:∀{bs:J Nat},Ye (bs.map λe:Nat=>((.inl (e:Int):c_),f e)) (.inl (b:Int))=if b∈bs then some (f b) else none
 |[]=>rfl
 |a::bs=>by
  show Ye ((.inl (a:Int),f a)::bs.map λe:Nat=>((.inl (e:Int):c_),f e)) (.inl (b:Int))=_;by_cases e:a=b;subst e;rw[ZT Z,if_pos<|YOZ ..];rw[ZU<|λz=>e<|Int.ofNat_inj.mp<|Sum.inl.inj z,YHx];by_cases h:b∈bs;rw[if_pos h,if_pos<|YOV _ h];rw[if_neg h,if_neg λz=>(YOj.mp z).elim (λq=>e q.symm) h]
theorem YFi:∀{l m:J Nat},l.Nodup->(∀x∈l,x∈m)->l.length<=m.length
 |[],_,_,_=>YOn _
 |x::l,m,h,hm=>by
  have U:=hm x YOZ;have hnd:=YOq.mp h;have ih:=YFi (l:=l) (m:=m.erase x) hnd.2 λy hy=>(List.mem_erase_of_ne λe=>hnd.1 (by rw[<-e];exact hy)).mpr<|hm y<|YOV _ hy;rw[List.length_erase_of_mem U]at ih;have:0<m.length:=List.length_pos_of_mem U;rw[YOx];omega
structure pw(H0 H:L)(lg:Addr)(n i:Nat)(a:Nat->Nat):Prop where
 sm:YF H0 H
 np:YW H0 H
 nl:H0 lg=none
 ex:∃bs:List Nat,H lg=some (.dK<|bs.map λb:Nat=>(.inl (b:Int),.int<|Ys<|a b))/\bs.Nodup/\(∀b∈bs,i<=b/\b<=n)/\∀b,i<=b->b∉bs->a b=0
theorem pw.put{H0 H:L}{lg:al}{n i b:Nat}{a:Nat->Nat}(g:pw H0 H lg n i a)(hb:i<=b)(sV:b<=n):∃kvs,H lg=some (.dK kvs)/\kvs.length<=n+1/\(Ye kvs<|.inl (b:Int)).getD (.int 0)=.int (Ys<|a b)/\
  ∀w,pw H0 (upd H lg<|.dK<|Yu kvs (.inl (b:Int))<|.int<|Ys<|a b+w) lg n i λb'=>if b'=b then a b+w else a b':=by
 obtain⟨bs,f1,f2,f3,f4⟩:=g.ex;have hlen:bs.length<=n+1:=by
  have:=YFi (m:=List.range<|n+1) f2 λb hb=>YO9.mpr (by have:=(f3 b hb).2;lia);rw[YPM]at this;exact this
 have hv:=YHx (f:=λb=>.int<|Ys<|a b) (b:=b) (bs:=bs);refine⟨_,f1,by rw[YOS];exact hlen,?_,λw=>⟨g.sm.put g.nl,g.np.trans<|YW.upd rfl,g.nl,?_⟩⟩;rw[hv];by_cases h:b∈bs;rw[if_pos h];rfl;rw[if_neg h,f4 b hb h];show V.int 0=.int (Ys 0);rw[show Ys 0=0 from se (by have:=AT;lia)];by_cases h:b∈bs;refine⟨bs,?_,f2,f3,λb' h1 h2=>?_⟩;rw[YA,zC h];congr 3;funext e;by_cases z:e=b;subst z;rw[if_pos Z,if_pos Z];rw[if_neg z,if_neg z];rw[if_neg λz=>h2 (by rw[z];exact h)];exact f4 b' h1 h2;refine⟨bs++[b],?_,YPH.mpr ⟨f2,by simp,λx U y hy=>by rw[YOT.mp hy];exactλz=>h (by rw[<-z];exact U)⟩,λb' h1=>?_,λb' h1 h2=>?_⟩;rw[YA,YCs _ (by rw[hv,if_neg h]),YOk];congr 3;refine YPN λe he=>?_;rw[if_neg λz=>h (by rw[<-z];exact he)];show _=[(_,V.int<|Ys (if b=b then a b+w else a b))];rw[if_pos Z];rcases YOf.mp h1 with h1|h1
 exact f3 b' h1;rw[YOT.mp h1];exact⟨hb,sV⟩;rw[if_neg λz=>h2 (by rw[z];simp)];exact f4 b' h1 λz=>h2<|YOg _ z
theorem pw.eq(g:pw H0 H lg n i a)(h:∀b,i<=b->a b=a' b):pw H0 H lg n i a':=by
 obtain⟨bs,f1,f2,f3,f4⟩:=g.ex;refine⟨g.sm,g.np,g.nl,bs,?_,f2,f3,λb hb hn=>by rw[<-h b hb];exact f4 b hb hn⟩;rw[f1,YPN λb hb=>by rw[h b (f3 b hb).1]]
inductive YJO(C CM:Addr)(vs:List V)(H:L)(Q:VK):Prop
 |mk (x t:Addr)(g:YV)(T:Nd->Nat)(Du:List Nd)(n:Nat)(p:Str):vs=[.ref x,.ref t]->ve C CM H x g T Du->H t=some (.tup [.str p,nV 0,nV n])->(∀v H',Zo H' n T v [p] 0->YF H H'->YW H H'->Q v H')->YJO C CM vs H Q
def YLb(C CM:al):Sp:=λvs H Q E_=>YJO C CM vs H Q
inductive YJP(C CM:Addr)(vs:List V)(H:L)(Q:VK):Prop
 |mk (x rd:Addr)(g:YV)(T:Nd->Nat)(Du:List Nd)(n lo i:Nat)(p:Str)(ps:List Str):vs=[.ref x,.str p,.ref rd,nV i]->ve C CM H x g T Du->Du.Nodup->(∀x,x∉Du->T x=0)->(∀b e,Nd.part p b e∈Du->b<=e/\e<=n)->n<=60->Jo H rd n T ps lo->lo<=i->(∀lH H',Jo H' lH n T (p::ps) i->YF H H'->YW H H'->Q (.ref lH) H')->YJP C CM vs H Q
def YLc(C CM:al):Sp:=λvs H Q E_=>YJP C CM vs H Q
theorem YCB:YJ [ay,"top"] [ay,"top"]<|YG Jn:=eQ
theorem YCC(T:Txt K mg C)(bO:Y4 P w K mg bZ 1 C.Many "blank" [ay]<|tS<|.int 1):Gd P w K mg bZ 2 "first_link" "Rests.first_link" Jn [ay,"top"]<|YLb C.Rests C.Many:=by
 refine eT YCB λH Q E hr h=>?_;obtain⟨x,t,g,Ds,Du,n,p,rfl,ra,ht,q⟩:=h;have hu:=ZZ hr;refine gi ?_;refine⟨_,(ZI ⟨(YM<|YIs<|Y5<|YI (eR K (S 1) YC)<|YI (mE (YMz (eR K (S 1) YC) (ic (eA K<|S 0) T.bK bO hr YQ) o_) rfl rfl nofun (by simp))<|bB Z0)⟩),?_⟩;obtain⟨B,l,tl,dt,d,an,bd,o,ob,xs,kb,R,e2,e3,e4,e5,e6,e7,e8⟩:=ra.ex;refine⟨_,Z,t,_,0,_,Z,Z,cy.of ht,Z,?_⟩;unfold tj;intro dd hdd;have u1:=YF.upd (o:=.dK []) hdd;refine⟨_,Z,t,_,2,_,Z,Z,cy.of<|u1 _ _ ht,Z,_,Z,x,C.Rests,B,_,_,Z,u1 _ _ R,T.au,T.aB,Z,tl,dt,_,Z,u1 _ _ e4,Z,_,Z,YA,[(.inl (n:Int),.int 1)],Z,(by show 1<=15;decide),jS,λtt gD=>?_⟩;have edk:AV [] [((.inl (n:Int):c_),V.int 1)]=io Ds n [] [n]:=by
  show[((.inl (n:Int):c_),V.int 1)]=[(.inl (n:Int),.int<|Ys (if n=n then 1 else 0))];rw[if_pos Z,show Ys 1=1 from se AT]
 rw[edk]at gD ⊢;have ndt:tt≠dd:=λz=>by rw[z,YA]at gD;cases gD
 have s2:YF H<|upd (upd H dd<|.dK []) dd<|.dK<|io Ds n [] [n]:=u1.put hdd;have s3:YF H<|upd (upd (upd H dd<|.dK []) dd<|.dK<|io Ds n [] [n]) tt<|.tup [.str p,.ref dd,.non]:=s2.trans<|YF.upd gD;refine⟨dd,_,by rw[YB ndt.symm,YA],λo'=>q _ _ ⟨tt,dd,.non,Z,by rw[YB ndt,YA],⟨o',[n],YA,by simp,λe he=>by rw[YOT.mp he];exact YOY _,λe _ _ h0=>YOT.mpr<|Decidable.byContradiction λz=>h0<|if_neg z⟩,Z⟩ (s3.put hdd) ?_⟩;exact(((YW.upd Z).trans<|YW.upd rfl).trans<|YW.upd rfl).trans<|YW.upd rfl
theorem ZO:YJ [ay,cv,"rest",cm,"longer","end","begin","value","so_far"] [ay,cv,"rest",cm]<|YG J8:=eQ
theorem YCk(T:Txt K mg C)(az:Y4 P w K mg bZ 1 C.Many "nothing" [ay]<|tS<|.int 0)(aN:Y4 P w K mg bZ 1 C.Many "either" [ay,cn,cr]<|tf<|λx y=>Xq<|x+y)(bc:Y4 P w K mg bZ 1 C.Many "both" [ay,cn,cr]<|tf<|λx y=>Xq<|x*y):Gd P w K mg bZ 2 "rest_with" "Rests.rest_with" J8 [ay,cv,"rest",cm]<|YLc C.Rests C.Many:=by
 refine eT ZO λH Q E hr h=>?_;obtain⟨x,rd,g,Ds,Du,n,lo,i,p,ps,rfl,ra,hnd,hout,hbe,hn,hrs,hlo,q⟩:=h;have hu:=ZZ hr;refine gi ?_;refine⟨_,(YH ⟨(c9 4 ZO YE2)⟩
  (YH ⟨(fP (YIp<|S 2) (fz 5 ZO) (YD (fP (ZH K rfl<|CO hu (eA K<|S 0) (Y5<|YI (S 1)<|bB<|S 5) (Y6 Yp) ⟨Z,Z,Z,Z⟩) (Dd K Z (n:=2) rfl<|JN (fz 6 ZO)<|JN (fz 7 ZO) A7) (YD (Yj (YT wc (S 6) (S 3)<|YU _) (YE (c9 8 ZO<|CO hu (S 4) (S 6) (ic (eA K<|S 0) T.bK az hr YQ) ⟨Z,Z,Z,Z⟩)
  (YD<|Jg hu (S 4) (S 6) (fS (eA K<|S 0) T.bK aN hr YQ<|YI (S 8)<|bB<|fS (eA K<|S 0) T.bK bc hr YQ<|YI (S 7)<|bB<|JL hu (S 2) (S 5)<|λ_ _=>rfl) rfl)) YR)))))⟩
  (ZI ⟨(YM<|YIs<|S 4)⟩))),?_⟩
 obtain⟨B,l,tl,dt,d,an,bd,o,ob,xs,kb,R,e2,e3,e4,e5,e6,e7,e8⟩:=ra.ex;obtain⟨oo,es,h1,h2,h3,h4⟩:=hrs.ex;intro lg vA;have s0:=YF.upd (o:=.dK []) vA;dsimp only[Yh];have kl:(io Ds n ps es).length=es.length:=by unfold io;rw[YOS]
 refine⟨_,Z,rd,oo,_,Z,s0 _ _ h1,YGs (d:=rd) (o:=oo) (kvs:=io Ds n ps es) (λj σ G=>∃v5 v6 v7 v8,σ=[some<|.ref x,some<|.str p,some<|.ref rd,some<|nV i,some<|.ref lg,v5,v6,v7,v8]/\pw H G lg n i λb=>Y3 (es.take j) λe=>Ds (.part p b e)*Nc Ds n ps e)
  ⟨none,none,none,none,Z,⟨s0,YW.upd Z,vA,[],YA,YPJ,(λb hb=>nomatch hb),λb _ _=>rfl⟩⟩ (by rintro j σ G _ ⟨v5,v6,v7,v8,_,g2⟩;exact g2.sm _ _ h1) ?_ ?_⟩
 rintro j kv σ G hj ⟨v5,v6,v7,v8,rfl,g2⟩;have hjl:j<es.length:=by rw[<-kl];exact(YOX.mp hj).1
 have ee:es[j]?=some es[j]:=YOW hjl;generalize es[j]=e at ee;have hen:e<=n:=h3 e<|YOc ee;have ekv:kv=(.inl (e:Int),.int<|Ys<|Nc Ds n ps e):=by
  unfold io at hj;rw[YOd,ee]at hj;exact(YO3 hj).symm
 subst ekv;dsimp only[Yh];have sG:=g2.sm;refine⟨_,Z,x,C.Rests,B,_,_,Z,sG _ _ R,T.au,T.cN,Z,bd,Z,.inr ⟨kb,.inr ⟨ob,sG _ _ e7⟩⟩,_,Z,_,Z,lp,λtk iH=>⟨YK<|YOn _,λe0 uR=>?_⟩⟩;have u3:=(YF.upd (o:=.tup [.str p,kV<|.inl (e:Int)]) iH).trans<|YF.upd (o:=.lst []) uR;have jr:upd (upd G tk<|.tup [.str p,kV<|.inl (e:Int)]) e0 (.lst []) tk=some (.tup<|(gz (p,e)).map kV):=YF.upd uR _ _ YA;have m_:upd (upd G tk<|.tup [.str p,kV<|.inl (e:Int)]) e0 (.lst []) e0=some (.lst []):=YA;have g3:pw H (upd (upd G tk<|.tup [.str p,kV<|.inl (e:Int)]) e0<|.lst []) lg n i λb=>Y3 (es.take j) λe=>Ds (.part p b e)*Nc Ds n ps e:=by
  obtain⟨bs,f1,f2⟩:=g2.ex;exact⟨sG.trans u3,g2.np.trans<|(YW.upd rfl).trans<|YW.upd rfl,vA,bs,u3 _ _ f1,f2⟩
 revert jr m_ g3;generalize upd (upd G tk<|.tup [.str p,kV<|.inl (e:Int)]) e0 (.lst [])=G3;intro jr m_ g3;have s3:=g3.sm;refine⟨Ye kb<|gz (p,e),.inr ⟨kb,gz (p,e),tk,.inr ⟨ob,s3 _ _ e7⟩,Z,jr,Z⟩,?_⟩;obtain⟨c,vs,ec,hc,tO⟩:∃c vs,(Ye kb<|gz (p,e)).getD (.ref e0)=.ref c/\del G3 lg c=some (.lst vs)/\XD (del G3 lg) vs (Jb Du (p,e)) λb=>Ys<|Ds<|.part p b e:=by
  have hle:∀{c:al}{o:HO},(∀k,o≠.dK k)->G3 c=some o->del G3 lg c=some o:=λ{c o} n' z=>by
   obtain⟨bs,f1,_⟩:=g3.ex;rw[Zg<|Yg z f1<|n' _];exact z
  rcases e8 (p,e) with ⟨z1,z2⟩|⟨c,vs,z1,z2,z3⟩
  rw[z1,z2];exact⟨e0,[],Z,hle (λk z=>nomatch z) m_,Z,λi v b e=>nomatch e⟩;rw[z1];exact⟨c,vs,Z,hle (λk z=>nomatch z)<|s3 _ _ z2,(z3.same s3).keep λt ys z=>hle (λk z=>nomatch z) z⟩
 rw[ec];refine⟨c,Z,⟨_,aX.of<|Cm _ _ _ _ hc⟩,Zq (K:=K) (a:=c) (xs:=vs) (λk σ G=>ki λv6 v7 v8=>xi (σ=[some<|.ref x,some<|.str p,some<|.ref rd,some<|nV i,some<|.ref lg,some<|nV e,v6,v7,v8]) (YF (del G3 lg) G) (pw H G lg n i λb=>Y3 (es.take j) (λe=>Ds (.part p b e)*Nc Ds n ps e)+if b∈(Jb Du (p,e)).take k then Ds (.part p b e)*Nc Ds n ps e else 0))
  ⟨v6,v7,v8,Z,Cm _ _,g3.eq λb _=>by rw[List.take_zero,if_neg nofun];rfl⟩ (by rintro k σ G _ ⟨v6,v7,v8,_,s,_⟩;exact aX.of<|s _ _ hc) ?_ ?_⟩
 rintro k v σ G hk ⟨v6,v7,v8,rfl,s,g4⟩;have hkl:k<(Jb Du (p,e)).length:=by rw[<-tO.1];exact(YOX.mp hk).1
 have eb:(Jb Du (p,e))[k]?=some (Jb Du (p,e))[k]:=YOW hkl;generalize (Jb Du (p,e))[k]=b at eb;obtain⟨t,rfl,ht⟩:=tO.2 k v b hk eb;have ht':=s _ _ ht;have Do:Nd.part p b e∈Du:=YFT.mp<|YOc eb;have sV:b<=n:=by have:=hbe b e Do;lia
 have hbt:b∉(Jb Du (p,e)).take k:=λz=>by
  have vB:=YKF hnd (p,e);have hsp:=YQG k<|Jb Du (p,e);rw[YPF hkl,(YOX.mp eb).2]at hsp;rw[<-hsp]at vB;exact(YPH.mp vB).2.2 b z b (YOZ ..) Z
 have et:(Jb Du (p,e)).take (k+1)=(Jb Du (p,e)).take k++[b]:=by rw[YPA,eb];rfl
 refine⟨t,_,Z,cy.of ht',Z,_,_,Z,_,_,Z,Z,?_⟩;refine⟨_,Z,_,Z,_,_,Z,Z,_,Z,?_⟩;refine gu (λhge=>?_) λhge=>?_;have hge':i<=b:=by have:=fF hge;lia
 obtain⟨kvs,k1,k2,k3,k4⟩:=g4.put hge' sV;have sH:=g4.sm;have nM:some (V.int<|Ys<|Nc Ds n ps e)=Ye (io Ds n ps es) (.inl (e:Int)):=by
  unfold io;rw[YHx,if_pos<|YOc ee]
 refine⟨_,Z,lg,Z,.inl ⟨_,.inl k1⟩,_,Z,_,Z,x,C.Rests,B,_,_,Z,sH _ _ R,T.au,T.aB,Z,tl,dt,_,Z,sH _ _ e4,Z,_,Z,_,Xd.k (k:=.inl (b:Int)) k1,?_⟩;rw[k3];refine⟨_,Z,x,C.Rests,B,_,_,Z,sH _ _ R,T.au,T.aB,Z,tl,dt,_,Z,sH _ _ e4,Z,_,Z,_,Z,x,C.Rests,B,_,_,Z,sH _ _ R,T.au,T.aB,Z,tl,dt,_,Z,sH _ _ e4,Z,_,Z,_,Z,_,Z,rd,_,Z,.inl ⟨_,.inl (e:Int),.inr ⟨oo,sH _ _ h1⟩,Z,nM⟩,_,_,_,Z,Zz _,Zu _,Zz _,Zu _,_,_,_,Z,Zz _,Zu _,(by rw[Jc];exact Zz _),(by rw[Jc];exact Zu _),_,Z,_,Z,lg,_,Z,ib.k (k:=.inl (b:Int)) k1 (by rw[sizeLine_eq];lia),?_⟩;rw[Jc,YDL];refine⟨_,_,_,Z,s.put Xz,(k4 _).eq λb' _=>?_⟩;rw[et];by_cases z:b'=b;subst z;rw[if_pos Z,if_neg hbt,Nat.add_zero,if_pos (by simp)];rw[if_neg z];by_cases z2:b'∈(Jb Du (p,e)).take k;rw[if_pos z2,if_pos<|YOg _ z2];rw[if_neg z2,if_neg λz3=>(YOf.mp z3).elim z2 λz3=>z<|YOT.mp z3];have hge':¬i<=b:=λz=>hge<|de (by lia);refine⟨_,_,_,Z,s,g4.eq λb' hb'=>?_⟩;rw[et];by_cases z2:b'∈(Jb Du (p,e)).take k;rw[if_pos z2,if_pos<|YOg _ z2];rw[if_neg z2,if_neg λz3=>(YOf.mp z3).elim z2 λz3=>hge' (by rw[<-YOT.mp z3];exact hb')];rintro σ G ⟨v6,v7,v8,rfl,s,g4⟩;rw[tO.1,YPI]at g4;refine⟨_,v6,v7,v8,Z,g4.eq λb _=>?_⟩;rw[YPA,ee,YDC];congr 1;show _=Ds (.part p b e)*Nc Ds n ps e+0;by_cases hm:b∈Jb Du (p,e);rw[if_pos hm];rfl;rw[if_neg hm,hout _<|λz=>hm<|YFT.mpr z,YPZ];rintro σ G ⟨v5,v6,v7,v8,rfl,g2⟩;rw[kl,YPI]at g2;obtain⟨bs,f1,f2,f3,f4⟩:=g2.ex;have eN:∀b,i<=b->Nc Ds n (p::ps) b=Y3 es λe=>Ds (.part p b e)*Nc Ds n ps e:=λb hb=>by
  refine YIr List.nodup_range h2 (λe he=>YO9.mpr (by have:=h3 e he;lia)) λe he hne=>?_;by_cases z1:Ds (.part p b e)=0;rw[z1,YPZ];by_cases z2:Nc Ds n ps e=0;rw[z2,YPk];have Do:Nd.part p b e∈Du:=Decidable.byContradiction λz=>z1<|hout _ z;exact absurd (h4 e (by have:=(hbe b e Do).1;lia) (hbe b e Do).2 z2) hne
 have eD:(bs.map λb:Nat=>((.inl (b:Int):c_),V.int<|Ys<|Y3 es λe=>Ds (.part p b e)*Nc Ds n ps e))=io Ds n (p::ps) bs:=YPN λb hb=>by rw[eN b (f3 b hb).1]
 rw[eD]at f1;exact⟨_,Z,lg,_,f1,λo'=>q lg _ ⟨o',bs,YA,f2,λb hb=>(f3 b hb).2,λb hb sV h0=>Decidable.byContradiction λz=>h0 (by rw[eN b hb];exact f4 b hb z)⟩ ((g2.sm).put vA)<|g2.np.trans<|YW.upd rfl⟩
theorem YJQ{H:L}{xs:J V}{g:YV}{i:Nat}{r:Ju}(d:YX H xs<|g.map ZW)(e:g[i]?=some r):∃t p,xs[i]?=some (.ref t)/\H t=some (.tup [.str r.1,.ref p,.int r.2.2])/\H p=some (.tup<|r.2.1.map V.str):=by
 obtain⟨v,ev,dv⟩:=d.getD (i:=i) (d:=ZW r) (by rw[YOd,e];rfl);obtain⟨t,p,rfl,ht,hp⟩:=YFD dv;exact⟨t,p,ev,ht,hp⟩
inductive YFj(C CM:Addr)(vs:List V)(H:L)(Q:VK):Prop
 |mk (x t rd:Addr)(g:YV)(T:Nd->Nat)(Du:List Nd)(n lo i:Nat)(p:Str)(ps:List Str)(v':V):vs=[.ref x,nV i,.ref t]->ve C CM H x g T Du->(∀x,x∉Du->T x=0)->(∀r d b e,Nd.beg r d b e∈Du->b<=e/\e<=n)->n<=60->g.length<=60->H t=some (.tup [.str p,.ref rd,v'])->Jo H rd n T ps lo->lo<=i->Yi g p≠[]->(∀c us cl H',H' c=some (.lst us)->XD H' us cl (λr=>Ys (fR T n r (ZF g r) i ps))->cl.Sublist (Yi g p)->(∀r∈Yi g p,r∉cl->fR T n r (ZF g r) i ps=0)->YF H H'->YW H H'->Q (.ref c) H')->YFj C CM vs H Q
def YG6(C CM:al):Sp:=λvs H Q E_=>YFj C CM vs H Q
theorem Yy:YJ [ay,cm,"link",bE,"rest",cf,"done","value","end",aE,"so_far"] [ay,cm,"link"]<|YG Xk:=eQ
theorem YD2(T:Txt K mg C)(az:Y4 P w K mg bZ 1 C.Many "nothing" [ay]<|tS<|.int 0)(aN:Y4 P w K mg bZ 1 C.Many "either" [ay,cn,cr]<|tf<|λx y=>Xq<|x+y)(bc:Y4 P w K mg bZ 1 C.Many "both" [ay,cn,cr]<|tf<|λx y=>Xq<|x*y):Gd P w K mg bZ 2 "choices" "Rests.choices" Xk [ay,cm,"link"]<|YG6 C.Rests C.Many:=by
 refine eT Yy λH Q E hr h=>?_;obtain⟨x,t,rd,g,Ds,Du,n,lo,i,p,ps,v',rfl,ra,hout,hbe,hn,lU,ht,hrs,hlo,lO,q⟩:=h;have hu:=ZZ hr;refine gi ?_;refine⟨_,(YH (Cg 3 Yy<|YHV YHU)
  (YH ⟨(c9 4 Yy<|eR K (S 2) YC)⟩
  (YH ⟨(fP (ZH K rfl<|JL hu (eA K<|S 0) (eR K (S 2) YC)<|λ_ _=>rfl) (fz 5 Yy) (YE (c9 6 Yy<|fL K T.aF<|eR K (fB K (eA K<|S 0)<|S 5) YC)
  (YE (c9 7 Yy Z0)
  (YE (fP (YIp<|S 4) (fz 8 Yy) (YE (c9 9 Yy<|Y5<|Za (S 5)<|Za (S 6)<|Za (S 1)<|Za (S 8) Yp)
  (YD (Yj (Jw<|AG hu (S 9)<|eA K<|S 0) (YE (c9 10 Yy<|YEs (YT Bz (S 7) Z0<|YU _) (ic (eA K<|S 0) T.bK az hr YQ)<|S 7)
  (YD<|c9 7 Yy<|fS (eA K<|S 0) T.bK aN hr YQ<|YI (S 10)<|bB<|fS (eA K<|S 0) T.bK bc hr YQ<|YI (JL hu (eA K<|S 0) (S 9)<|λ_ _=>rfl)<|bB<|JL hu (S 4) (S 8)<|λ_ _=>rfl)) YR))))
  (YD<|Yj (YT AR (S 7) Z0<|YU _) (YD<|Ya<|fX K (S 3)<|Y5<|YI (S 5)<|bB<|S 7) YR)))))⟩
  (ZI ⟨(YM<|S 3)⟩)))),?_⟩
 obtain⟨B,l,tl,dt,d,an,bd,o,ob,xs,kb,R,e2,e3,e4,e5,e6,e7,e8⟩:=ra.ex;obtain⟨oo,es,h1,h2,h3,h4⟩:=hrs.ex;have eN:∀r,fR Ds n r (ZF g r) i ps=Y3 es λe=>Ds (.beg r (ZF g r) i e)*Nc Ds n ps e:=λr=>by
  refine YIr List.nodup_range h2 (λe he=>YO9.mpr (by have:=h3 e he;lia)) λe he hne=>?_;by_cases z1:Ds (.beg r (ZF g r) i e)=0;rw[z1,YPZ];by_cases z2:Nc Ds n ps e=0;rw[z2,YPk];have Do:Nd.beg r (ZF g r) i e∈Du:=Decidable.byContradiction λz=>z1<|hout _ z;exact absurd (h4 e (by have:=(hbe _ _ _ _ Do).1;lia) (hbe _ _ _ _ Do).2 z2) hne
 have kl:(io Ds n ps es).length=es.length:=by unfold io;rw[YOS]
 obtain⟨kn,z1,z2⟩:=e6;obtain⟨nl,z3,z4⟩:=(z2 p).resolve_left λz=>lO z.1;refine⟨YK<|YOn _,λfo hfo=>?_⟩;dsimp only[Yh];have s0:=YF.upd (o:=.lst []) hfo;refine⟨_,Z,t,_,1,_,Z,Z,cy.of<|s0 _ _ ht,Z,?_⟩;refine⟨_,Z,x,C.Rests,B,_,_,Z,s0 _ _ R,T.au,T.dN,Z,_,Z,t,_,0,_,Z,Z,cy.of<|s0 _ _ ht,Z,an,_,Z,.inl ⟨kn,.inr p,.inl<|s0 _ _ z1,Z,z3.symm⟩,nl,Z,⟨_,aX.of<|s0 _ _ z4⟩,Zq (K:=K) (a:=nl) (xs:=(Yi g p).map nV) (λj σ G=>∃v5 v6 v7 v8 v9 gO us cl,σ=[some<|.ref x,some<|nV i,some<|.ref t,some<|.ref fo,some<|.ref rd,v5,v6,v7,v8,v9,gO]/\YF H G/\YW H G/\G fo=some (.lst us)/\XD G us cl (λr=>Ys<|fR Ds n r (ZF g r) i ps)/\cl.Sublist ((Yi g p).take j)/\∀r∈(Yi g p).take j,r∉cl->fR Ds n r (ZF g r) i ps=0)
  ⟨_,_,_,_,_,_,[],[],Z,s0,YW.upd Z,YA,⟨Z,λi v b e=>nomatch e⟩,List.Sublist.refl _,λr hr=>nomatch hr⟩ (by rintro j σ G _ ⟨_,_,_,_,_,_,_,_,_,s,_⟩;exact aX.of<|s _ _ z4) ?_ ?_⟩
 rintro j v σ G hj ⟨v5,v6,v7,v8,v9,gO,us,cl,rfl,sG,nG,hfG,hP,hsub,hz⟩;rw[YOd]at hj;obtain⟨r,QD,rfl⟩:=YO2.mp hj;obtain⟨ru,uh,Wd⟩:=ZV.mp<|YOc QD;have elr:ZF g r=ru.2.1.length:=by unfold ZF;rw[uh];rfl
 have etk:(Yi g p).take (j+1)=(Yi g p).take j++[r]:=by rw[YPA,QD];rfl
 obtain⟨rt,rp,y1,y2,y3⟩:=YJQ e3 uh;dsimp only[Yh];refine⟨_,Z,x,C.Rests,B,_,_,Z,sG _ _ R,T.au,T.cj,Z,_,Z,l,_,_,_,Z,Z,aX.of<|sG _ _ e2,Y2 y1,rt,_,1,_,Z,Z,cy.of<|sG _ _ y2,Z,rp,_,Z,.inr<|cy.of<|sG _ _ y3,?_⟩;rw[YOS,<-elr];refine⟨_,Z,rd,oo,_,Z,sG _ _ h1,YGs (d:=rd) (o:=oo) (kvs:=io Ds n ps es) (λk σ G'=>∃v8 v9 gO,∃Dp:Bool,σ=[some<|.ref x,some<|nV i,some<|.ref t,some<|.ref fo,some<|.ref rd,some<|nV r,some<|nV<|ZF g r,some (if Dp=true then .int (Ys<|Y3 (es.take k) λe=>Ds (.beg r (ZF g r) i e)*Nc Ds n ps e) else .non),v8,v9,gO]/\YF G G'/\YW G G'/\(Dp=false->∀e∈es.take k,Ds (.beg r (ZF g r) i e)*Nc Ds n ps e=0))
  ⟨v8,v9,gO,false,Z,λ_ _ e=>e,YW.refl _,λ_ e he=>nomatch he⟩ (λk σ G' _ ⟨_,_,_,_,_,s,_⟩=>s _ _<|sG _ _ h1) ?_ ?_⟩
 rintro k kv σ G' hk ⟨v8,v9,gO,Dp,rfl,sG2,nG2,hno⟩;have hkl:k<es.length:=by rw[<-kl];exact(YOX.mp hk).1
 have ee:es[k]?=some es[k]:=YOW hkl;generalize es[k]=e at ee;have ekv:kv=(.inl (e:Int),.int<|Ys<|Nc Ds n ps e):=by
  unfold io at hk;rw[YOd,ee]at hk;exact(YO3 hk).symm
 subst ekv;have nM:some (V.int<|Ys<|Nc Ds n ps e)=Ye (io Ds n ps es) (.inl (e:Int)):=by
  unfold io;rw[YHx,if_pos<|YOc ee]
 have esum:Y3 (es.take<|k+1) (λe=>Ds (.beg r (ZF g r) i e)*Nc Ds n ps e)=Y3 (es.take k) (λe=>Ds (.beg r (ZF g r) i e)*Nc Ds n ps e)+Ds (.beg r (ZF g r) i e)*Nc Ds n ps e:=by
  rw[YPA,ee,YDC];rfl
 dsimp only[Yh];refine⟨_,Z,_,Z,_,Z,_,Z,kC,λtk iH=>?_⟩;have u3:=YF.upd (o:=.tup [nV r,nV<|ZF g r,nV i,kV<|.inl (e:Int)]) iH;have sG3:=sG2.trans u3;have nG3:YW G<|upd G' tk<|.tup [nV r,nV<|ZF g r,nV i,kV<|.inl (e:Int)]:=nG2.trans<|YW.upd rfl;have jr:upd G' tk (.tup [nV r,nV<|ZF g r,nV i,kV<|.inl (e:Int)]) tk=some (.tup<|(Yd<|.beg r (ZF g r) i e).map kV):=YA;revert sG3 nG3 jr;show _->_->_->_;generalize upd G' tk (.tup [nV r,nV<|ZF g r,nV i,kV<|.inl (e:Int)])=G3;intro sG3 nG3 jr;have sH3:=sG.trans sG3;have e1':=sH3 _ _ R;have e4':=sH3 _ _ e4;have e5':=sH3 _ _ e5;have h1':=sH3 _ _ h1;refine⟨_,Z,_,Z,x,C.Rests,B,_,_,Z,e1',T.au,T.cu,Z,d,_,Z,.inr ⟨gN Ds Du,Yd<|.beg r (ZF g r) i e,tk,.inr ⟨o,e5'⟩,Z,jr,Z⟩,_,Z,?_⟩;by_cases Do:Nd.beg r (ZF g r) i e∈Du;rw[sd Ds Do];refine ZC ?_;cases Dp with
 |false=>
  have e0:V.int 0=.int (Ys<|Y3 (es.take k) λe=>Ds (.beg r (ZF g r) i e)*Nc Ds n ps e):=by
   rw[Js<|hno rfl,show Ys 0=0 from se (by have:=AT;lia)]
  refine⟨_,Z,Z,_,Z,ZC ⟨_,Z,x,C.Rests,B,_,_,Z,e1',T.au,T.aB,Z,tl,dt,_,Z,e4',Z,_,Z,?_⟩⟩;rw[e0];refine⟨_,Z,x,C.Rests,B,_,_,Z,e1',T.au,T.aB,Z,tl,dt,_,Z,e4',Z,_,Z,_,Z,x,C.Rests,B,_,_,Z,e1',T.au,T.aB,Z,tl,dt,_,Z,e4',Z,_,Z,x,C.Rests,B,_,_,Z,e1',T.au,T.cu,Z,_,Z,d,_,Z,.inr ⟨gN Ds Du,Yd<|.beg r (ZF g r) i e,tk,.inr ⟨o,e5'⟩,Z,jr,(sd Ds Do).symm⟩,_,Z,_,Z,rd,_,Z,.inl ⟨_,.inl (e:Int),.inr ⟨oo,h1'⟩,Z,nM⟩,_,_,_,Z,Zz _,Zu _,Zz _,Zu _,_,_,_,Z,Zz _,Zu _,(by rw[Jc];exact Zz _),(by rw[Jc];exact Zu _),?_⟩;rw[Jc,YDL,<-esum];exact⟨_,_,_,true,Z,sG3,nG3,λz=>nomatch z⟩
 |true=>
  refine⟨_,Z,Z,_,Z,Yw ⟨_,Z,?_⟩⟩;rw[if_pos Z];refine⟨_,Z,x,C.Rests,B,_,_,Z,e1',T.au,T.aB,Z,tl,dt,_,Z,e4',Z,_,Z,_,Z,x,C.Rests,B,_,_,Z,e1',T.au,T.aB,Z,tl,dt,_,Z,e4',Z,_,Z,x,C.Rests,B,_,_,Z,e1',T.au,T.cu,Z,_,Z,d,_,Z,.inr ⟨gN Ds Du,Yd<|.beg r (ZF g r) i e,tk,.inr ⟨o,e5'⟩,Z,jr,(sd Ds Do).symm⟩,_,Z,_,Z,rd,_,Z,.inl ⟨_,.inl (e:Int),.inr ⟨oo,h1'⟩,Z,nM⟩,_,_,_,Z,Zz _,Zu _,Zz _,Zu _,_,_,_,Z,Zz _,Zu _,(by rw[Jc];exact Zz _),(by rw[Jc];exact Zu _),?_⟩;rw[Jc,YDL,<-esum];exact⟨_,_,_,true,Z,sG3,nG3,λz=>nomatch z⟩
 rw[YHw Ds Do];rw[hout _ Do,YPZ]at esum;rw[<-esum.trans (Nat.add_zero _)];refine Yw ⟨_,_,_,Dp,Z,sG3,nG3,λz e' he'=>?_⟩;rw[YPA,ee]at he';rcases YOf.mp he' with he'|he'
 exact hno z e' he';rw[YOT.mp he',hout _ Do,YPZ];rintro σ G' ⟨v8,v9,gO,Dp,rfl,sG2,nG2,hno⟩;rw[kl,YPI]at hno ⊢;rw[<-eN];have hP':=hP.same sG2;have rC:=sG2 _ _ hfG;have hlen:cl.length<=60:=by
  have h1:=hsub.length_le;have h2:(Yi g p).length<=g.length:=by
   unfold Yi;exact YO1 (YPQ ..) (by rw[YPM];exact YOY _)
  rw[YPK]at h1;lia
 cases Dp with
 |false=>
  refine⟨_,Z,Z,_,Z,Yw ⟨_,_,_,_,_,_,us,cl,Z,sG.trans sG2,nG.trans nG2,rC,hP',?_,λr' hr' hc=>?_⟩⟩;rw[etk];exact hsub.trans<|List.sublist_append_left ..;rw[etk]at hr';rcases YOf.mp hr' with hr'|hr'
  exact hz r' hr' hc;rw[YOT.mp hr',eN];exact Js<|hno rfl
 |true=>
  refine⟨_,Z,Z,_,Z,ZC ⟨_,Z,.inl ⟨Z,_,aX.of rC⟩,_,Z,_,Z,lp,λtp jQ=>?_⟩⟩;rw[if_pos Z];have u4:=YF.upd (o:=.tup [nV r,.int<|Ys<|fR Ds n r (ZF g r) i ps]) jQ;have nA:=u4 _ _ rC;refine⟨fo,us,_,Z,Z,nA,by rw[sizeLine_eq,hP.1];lia,⟨_,_,_,_,_,_,us++[.ref tp],cl++[r],Z,?_,?_,YA,?_,?_,λr' hr' hc=>?_⟩⟩;exact((sG.trans sG2).trans u4).put hfo;exact((nG.trans nG2).trans<|YW.upd rfl).trans<|YW.upd rfl;exact((hP'.same u4).snoc YA).keep λc' ys=>YY nA nofun;rw[etk];exact hsub.append<|List.Sublist.refl _;rw[etk]at hr';rcases YOf.mp hr' with hr'|hr'
  exact hz r' hr' λz=>hc<|YOg _ z;exact absurd (YOe _ hr') hc
 rintro σ G ⟨v5,v6,v7,v8,v9,gO,us,cl,rfl,sG,nG,hfG,hP,hsub,hz⟩;rw[YOS,YPI]at hsub hz;exact⟨_,Z,q fo us cl G hfG hP hsub hz sG nG⟩
inductive YG7(C CM:Addr)(vs:List V)(H:L)(Q:VK):Prop
 |mk (x t rd:Addr)(g:YV)(T:Nd->Nat)(Du:List Nd)(n lo i r:Nat)(ru:Ju)(p:Str)(ps:List Str)(v':V):vs=[.ref x,nV i,.ref t,nV r]->ve C CM H x g T Du->Du.Nodup->(∀x,x∉Du->T x=0)->(∀q b e,Nd.part q b e∈Du->b<=e/\e<=n)->n<=60->g[r]?=some ru->ru.2.1.length<=60->H t=some (.tup [.str p,.ref rd,v'])->Jo H rd n T ps lo->Zo H n T v' ps lo->lo<=i->(∀b v H',H' b=some (.tup [nV (JF (ru.2.1++ps) i).2,v])->Zo H' n T v (JF (ru.2.1++ps) i).1 i->YF H H'->YW H H'->Q (.ref b) H')->YG7 C CM vs H Q
def YJR(C CM:al):Sp:=λvs H Q E_=>YG7 C CM vs H Q
theorem Yb:YJ [ay,cm,"link",cf,"parts","rest","first","index","here"] [ay,cm,"link",cf]<|YG JK:=eQ
theorem YBD(T:Txt K mg C)(cA:Y4 P w K mg bZ 2 C.Rests "rest_with" [ay,cv,"rest",cm]<|YLc C.Rests C.Many):Gd P w K mg bZ 3 "behind_choice" "Rests.behind_choice" JK [ay,cm,"link",cf]<|YJR C.Rests C.Many:=by
 refine eT Yb λH Q E hr h=>?_;obtain⟨x,t,rd,g,Ds,Du,n,lo,i,r,ru,p,ps,v',rfl,ra,hnd,hout,hbe,hn,lO,hrl,ht,hrs,hlk,hlo,q⟩:=h;have hu:=ZZ hr;refine gi ?_;refine⟨_,(YH ⟨(c9 4 Yb<|eR K (fB K (eA K<|S 0)<|S 3) YC)⟩
  (YH ⟨(c9 5 Yb<|eR K (S 2) YC)⟩
  (YH ⟨(c9 6 Yb<|eR K (S 2) YC)⟩
  (YH ⟨(fP (YL5 Z T.bH<|YI (YN AI (fL K T.aF<|S 4) YC)<|YI (A4 AW YC)<|bB<|A4 AW YC) (fz 7 Yb) (YE (c9 6 Yb<|Y5<|YI (eR K (S 4)<|S 7)<|YI (S 5)<|bB<|S 6)
  (YD<|Yj (YT tm (S 7) YC<|YU _) (YD<|c9 5 Yb<|fS (S 0) T.au cA hr YQ<|YI (eR K (S 4)<|S 7)<|YI (S 5)<|bB<|S 1) YR)))⟩
  (YH ⟨(c9 8 Yb<|S 1)⟩
  (YH ⟨(Jx PassesOwn.never (PW.pt<|ng (YT AR (S 6) Z0<|YU _)<|sw<|JI<|A3 K rfl PySem.F.plainAttrs_str PySem.F.slot_str_startswith PySem.F.type_str_startswith YAR (eR K (S 6) YC)<|bB Zf) (YE (YMd (i:=8) Yb.nd Z (Or.inl Z) YC xW)
  (YD<|c9 6 Yb<|eR K (S 6) YC)))⟩
  (ZI ⟨(YM<|Y5<|YI (S 8)<|bB<|S 6)⟩))))))),?_⟩
 obtain⟨B,l,tl,dt,d,an,bd,o,ob,xs,kb,R,e2,e3,e4,e5,e6,e7,e8⟩:=ra.ex;obtain⟨rt,rp,y1,y2,y3⟩:=YJQ e3 lO;revert hrl q y3;generalize ru.2.1=pts;intro hrl q y3;refine⟨_,Z,x,C.Rests,B,_,_,Z,R,T.au,T.cj,Z,_,Z,l,_,_,_,Z,Z,aX.of e2,Y2 y1,rt,_,1,_,Z,Z,cy.of y2,Z,?_⟩;refine⟨_,Z,t,_,1,_,Z,Z,cy.of ht,Z,_,Z,t,_,2,_,Z,Z,cy.of ht,Z,?_⟩;dsimp only[Yh];have jz:(pts.map V.str).length=pts.length:=YOS ..;refine⟨_,Z,rp,_,Z,.inr<|cy.of y3,_,_,Z,Z,_,Z,_,Z,((pts.map V.str).length:Int)-1,-1,-1,pts.length,Z,⟨by decide,by decide⟩,?_,?_,?_⟩;unfold Builtin.Range.small Builtin.Range.rangeSize;simp only[Builtin.Range.rangeFitsLong,YOl,YP8,fQ,beq_iff_eq];rw[jz];simp;lia;unfold Builtin.Range.rangeSize;rw[jz,if_neg (by decide)];split;rw[show -(-1:Int)=1 from Z,Int.ediv_one];lia;lia;rw[jz];refine YJx (lo:=(pts.length:Int)-1) (c:=-1) (n:=pts.length) (λj σ G=>ki λrv v6 v7=>CU (σ=[some<|.ref x,some<|nV i,some<|.ref t,some<|nV r,some<|.ref rp,some rv,some v6,v7,none]) (YF H G) (YW H G) (Zo G n Ds v6 (pts.drop (pts.length-j)++ps) i)<|(j<pts.length->∃lH,rv=.ref lH/\Jo G lH n Ds (pts.drop (pts.length-j)++ps) i))
  ⟨.ref rd,v',none,Z,YF.refl _,YW.refl _,by rw[Nat.sub_zero,YQD];exact hlk.mono hlo,λ_=>⟨rd,Z,by rw[Nat.sub_zero,YQD];exact hrs.mono hlo⟩⟩ ?_ ?_
 rintro j σ G hj ⟨rv,v6,v7,rfl,sG,nG,lA,tD⟩;obtain⟨lH,rfl,QF⟩:=tD hj;have ei:((pts.length:Int)-1)+(j:Nat)*(-1)=((pts.length-(j+1):Nat):Int):=by lia
 have Dm:pts.length-(j+1)<pts.length:=by lia
 have hd:pts.drop (pts.length-(j+1))++ps=pts[pts.length-(j+1)]::(pts.drop (pts.length-j)++ps):=by
  rw[YPF Dm,show pts.length-(j+1)+1=pts.length-j by lia];rfl
 have hq:(pts.map V.str)[pts.length-(j+1)]?=some (.str pts[pts.length-(j+1)]):=by
  rw[YOd,YOW Dm];rfl
 rw[ei,hd];revert hq;generalize pts[pts.length-(j+1)]=qq;intro hq;dsimp only[Yh];refine⟨_,Z,_,Z,rp,_,_,_,Z,Z,cy.of<|sG _ _ y3,Y2 hq,_,Z,_,Z,jS,λtk iH=>?_⟩;have u3:=YF.upd (o:=.tup [.str qq,.ref lH,v6]) iH;have s3:=sG.trans u3;have hl3:Zo (upd G tk<|.tup [.str qq,.ref lH,v6]) n Ds (.ref tk) (qq::(pts.drop (pts.length-j)++ps)) i:=⟨tk,lH,v6,Z,YA,QF.same u3,lA.same u3⟩;have Ru:=QF.same u3;have n3:YW H<|upd G tk<|.tup [.str qq,.ref lH,v6]:=nG.trans<|YW.upd rfl;refine⟨_,Z,_,_,Z,Z,_,Z,gu (λhpos=>?_) λhpos=>?_⟩;refine⟨_,Z,x,B,_,Z,s3 _ _ R,Z,_,Z,_,Z,rp,_,_,_,Z,Z,cy.of<|s3 _ _ y3,Y2 hq,_,Z,_,Z,x,lH,g,Ds,Du,n,i,i,qq,_,Z,ra.same s3,hnd,hout,λb e=>hbe qq b e,hn,Ru,YOY _,λRv G4 pY s4 n4=>?_⟩;exact⟨_,_,_,Z,s3.trans s4,n3.trans n4,hl3.same s4,λ_=>⟨Rv,Z,pY⟩⟩;have hp0:pts.length-(j+1)=0:=by
  have:¬(0:Int)<((pts.length-(j+1):Nat):Int):=λz=>hpos<|de z;lia
 exact⟨_,_,_,Z,s3,n3,hl3,λz=>absurd z (by lia)⟩;rintro σ G ⟨rv,v6,v7,rfl,sG,nG,lA,_⟩;rw[YPh,List.drop_zero]at lA;refine⟨_,Z,?_⟩;dsimp only[Yh];refine⟨λm σ G2=>ki λv6 qs k=>CU (σ=[some<|.ref x,some<|nV i,some<|.ref t,some<|nV r,some<|.ref rp,some rv,some v6,v7,some<|nV k]) (G2=G) (Zo G n Ds v6 qs i) (JF qs k=JF (pts++ps) i)<|m=qs.length,⟨_,v6,_,i,Z,Z,lA,Z,Z⟩,?_⟩;rintro m σ G2 ⟨v6,qs,k,rfl,rfl,hl,wg,rfl⟩;cases qs with
 |nil=>
  cases hl;refine⟨_,Z,Z,_,Z,Yw<|Yw ⟨_,Z,_,Z,lp,λb hb=>?_⟩⟩;refine q b .non _ ?_ ?_ (sG.trans<|YF.upd hb) (nG.trans<|YW.upd rfl);rw[<-wg];exact YA;rw[<-wg];rfl
 |cons p' qs=>
  obtain⟨t',lH,QG,rfl,ht',hr',hl'⟩:=hl;refine⟨_,Z,Z,_,Z,ZC ⟨_,Z,t',_,0,_,Z,Z,cy.of ht',Z,?_,_,_,Z,Z,_,Z,gu (λhq=>?_) λhq=>?_⟩⟩;exact Z;refine⟨λσ' H'=>∃m',m'<_/\_,λσ' H' h=>h,?_⟩;refine⟨_,Z,_,_,Z,Z,_,Z,t',_,2,_,Z,Z,cy.of ht',Z,?_⟩;refine⟨qs.length,YPO _,QG,qs,k+1,Z,Z,hl',?_,Z⟩;rw[<-wg];exact(if_pos hq).symm;refine⟨_,Z,_,Z,lp,λb hb=>?_⟩;have es:JF (pts++ps) i=(p'::qs,k):=by
   rw[<-wg];exact if_neg hq
  refine q b (.ref t') _ ?_ ?_ (sG.trans<|YF.upd hb) (nG.trans<|YW.upd rfl);rw[es];exact YA;rw[es];exact Zo.same (YF.upd hb) ⟨t',lH,QG,Z,ht',hr',hl'⟩
abbrev YFk:Stmt:=top 54
theorem Jo.keep(h:Jo H rd n T ps lo)(s:∀b u,(∀xs,u≠.lst xs)->H b=some u->H' b=some u):Jo H' rd n T ps lo:=by
 obtain⟨o,es,R,e2⟩:=h.ex;exact⟨o,es,s _ _ (λxs z=>nomatch z) R,e2⟩
theorem Zo.keep(s:∀b u,(∀xs,u≠.lst xs)->H b=some u->H' b=some u):∀{v:V}{ps:J av}{lo:Nat},Zo H n T v ps lo->Zo H' n T v ps lo
 |v,[],_,h=>h
 |v,p::ps,lo,⟨t,rd,v',R,e2,e3,e4⟩=>⟨t,rd,v',R,s _ _ (λxs z=>nomatch z) e2,e3.keep s,Zo.keep s e4⟩
theorem YLd:∀(ps:J av) (i:Nat),i<=(JF ps i).2
 |[],i=>YOY i
 |p::ps,i=>by
  unfold JF;by_cases h:da p=true;rw[if_pos h];exact YO1 (YPn i)<|YLd ps<|i+1;rw[if_neg h];exact YOY i
theorem YB8{D:Ja}(M:L2.St->L->Prop)(Y1:∀σ' H',M σ' H'->u D σ' H')(h:(∀σ' H',M σ' H'->u D σ' H')->t { D with nx:=u D } σ H):sP t u D σ H:=h Y1
theorem x8{D:Ja}(h:u D (σ.set i<|some v) H):sP (pV (tC v)<|Yh i) u D σ H:=h
theorem YHy{a b:Nat}(h:(a:Int)<Ys b):a<b:=by
 unfold Ys Xq at h;split at h <;> lia
theorem oG{a b:Nat}(h:¬(a:Int)<Ys b)(ha:(a:Int)<fV):b<=a/\Ys b=b:=by
 unfold Ys Xq at *;split at h <;> rename_i hh
 omega;exact⟨by omega,by rw[if_neg hh]⟩
inductive YJS(CW CE CN CT:Addr)(vs:List V)(H:L)(Q:VK)(E:XK):Prop
 |mk (wd:Addr)(v:V)(d:D)(g:YV)(z:Str)(Dl:List Nd)(p:Str)(F:Nd->Bool):vs=[.ref wd,v]->ci H v d->d.short=true->Xe CW H wd g z Dl (some (.part p 0 z.cps.size))->ZE g z.cps.size F (some (.part p 0 z.cps.size)) Dl->Dl.length<=2900000->YL H->ij g z.cps.toList F->(∀ru∈g,da ru.1=false)->da p=false->hZ F Dl z.cps.size [p] 0->(∀H' r,uS (im g z.cps.size Dl) Dl r->YF H H'->E (.ref CE) none H')->(∀T H',Zj g z.cps.size Dl T->(∀k:Nat,d=.int k->¬(k:Int)<Ys (T (.part p 0 z.cps.size)))->YF H H'->YL H'->E (.ref CN) none H')->(∀T (k:Nat) row a H',Zj g z.cps.size Dl T->d=.int k->(k:Int)<Ys (T (.part p 0 z.cps.size))->gl g T z.cps.size 0 [p] k row z.cps.size [] 0->row.length<=1000->H a=none->H' a=some (.lst (row.map nV))->YF H H'->YL H'->Q (.ref a) H')->(∀T (k:Nat) row i q qs b H',Zj g z.cps.size Dl T->d=.int k->(k:Int)<Ys (T (.part p 0 z.cps.size))->gl g T z.cps.size 0 [p] k row i (q::qs) b->kN g F Dl T z.cps.size i (q::qs) b->row.length=1000->YF H H'->YL H'->E (.ref CT) none H')->YJS CW CE CN CT vs H Q E
def YHz(CW CE CN CT:al):Sp:=λvs H Q E=>YJS CW CE CN CT vs H Q E
theorem ZP:YJ [bp,cf,br,"rests","row","ahead",cm,"link","chosen","rule","many","behind"] [bp,cf]<|YG YFk:=eQ
theorem YMT(T:Txt K mg C)(aQ:ZK P w K mg (fM P w) 8 fH [bp,aS]<|YKW C.Many C.Wood C.Endless)(cB:ZK P w K mg bZ 1 "is_whole" [ba]<|X4 J1)(aR:Y4 P w K mg bZ 1 C.Wood "top" [ay]<|YLO C.Wood)(cG:zd P w K mg bZ 2 C.Rests [ay,bp,aS,br]<|YJN C.Rests C.Many C.Wood)(bY:Y4 P w K mg bZ 2 C.Rests "first_link" [ay,"top"]<|YLb C.Rests C.Many)(cT:Y4 P w K mg bZ 2 C.Rests "choices" [ay,cm,"link"]<|YG6 C.Rests C.Many)(bG:Y4 P w K mg bZ 3 C.Rests "behind_choice" [ay,cm,"link",cf]<|YJR C.Rests C.Many):Gd P w K mg (fM P w) 10 "row_at" "row_at" YFk [bp,cf]<|YHz C.Wood C.Endless C.NoRow C.TooGreat:=by
 obtain⟨mH,dq⟩:=T.dq;refine iN ZP λH Q E hr h=>?_;obtain⟨wd,v,d,g,z,Dl,p,F,rfl,hd,hds,wa,wk,hnl,hp,hS,hh,Rw,vC,qE,qN,qR,qT⟩:=h;have hu:=ZZ hr;refine gi ?_;refine⟨_,(YH ⟨(c9 2 ZP<|eW aQ hr JE.on<|YI (S 0)<|bB<|YJw T.jm (by rfl) T.jW)⟩
  (YH ⟨(Yj (PW.pt<|xt (JW<|JI<|eW cB hr YQ<|bB<|S 1)<|AQ<|JW<|YIC kG kK YC (S 1)<|CO hu (S 2) (ic (S 0) T.ak aR hr YQ) YC ⟨Z,Z,Z,Z⟩) (YD<|Di JE T.nZ rfl (by rfl) T.nY<|bB Zf) YR)⟩
  (YH ⟨(c9 3 ZP<|pkU cG hr T.nW YQ<|YI (S 0)<|YI (YJw T.jm (by rfl) T.jW)<|bB<|S 2)⟩
  (YH (Cg 4 ZP<|YHV YHU)
  (YH ⟨(c9 5 ZP<|S 1)⟩
  (YH (Cg 6 ZP xO)
  (YH ⟨(c9 7 ZP<|fS (S 3) T.au bY hr YQ<|bB<|ic (S 0) T.ak aR hr YQ)⟩
  (YH ⟨(Jx PassesOwn.leaving (YT AR (S 7) Z0<|YU _) (YE (Yj (YT Xm (fL K T.aF<|S 4) (vb (v:=.int 1000) (by rfl) dq ⟨_,Z⟩)<|YU _) (YD<|Di JE T.jY rfl (by rfl) T.jX<|bB Zf) YR)
  (YE (c9 8 ZP Z0)
  (YE (AM PassesOwn.leaving Z (ZH K rfl<|fS (S 3) T.au cT hr YQ<|YI (S 6)<|bB<|S 7) (Dd K Z (n:=2) rfl<|JN (fz 9 ZP)<|JN (fz 10 ZP) A7) (YE (Yj (YT kK (S 5) (S 10)<|YU _) (YE (c9 8 ZP<|S 9)
  (YD YMa)) YR)
  (YD<|YMd (i:=5) ZP.nd rfl (Or.inl rfl) (S 10) zo)))
  (YE (Ya<|fX K (S 4)<|S 8)
  (YE (c9 11 ZP<|fS (S 3) T.au bG hr YQ<|YI (S 6)<|YI (S 7)<|bB<|S 8)
  (YE (c9 6 ZP<|eR K (S 11) YC)
  (YD<|c9 7 ZP<|eR K (S 11) YC))))))))⟩
  (ZI ⟨(YM<|S 4)⟩))))))))),?_⟩
 refine fx λu eu=>?_;refine⟨_,Z,λzH vH h1 h2 h3=>?_⟩;have s0:YF H<|upd (upd H vH<|.own zH) zH<|.ins C.Many vH []:=(YF.upd h2).put h1;refine⟨wd,zH,vH,g,z,Dl,_,F,Z,YA,wa.same s0,wk,hnl,(hp.upd Z).upd Z,λa o Ds Du H1 hO hT na ga s1 p1=>?_,λH1 r hr s1=>qE H1 r hr<|s0.trans s1⟩;dsimp only[Yh];have sH1:=s0.trans s1;obtain⟨dw,lw,an,af,ae,rv,xw,lG,_⟩:=wa.ex;have gw:=wa.same sH1;have tM:=hd.same sH1;have pI:=sH1 _ _ lG;show u _ _ _;subst eu;refine⟨_,Z,v,d,Z,tM,hds,p1,_,Z,?_⟩;have noN:(∀k:Nat,d=.int k->¬(k:Int)<Ys (Ds<|.part p 0 z.cps.size))->YM3 C.NoRow E (mn (tC<|V.str "no number of a row") lj) { nx:=λx H'=>Q V.non H',rt:=Q } [some<|.ref wd,some v,some<|.ref a,none,none,none,none,none,none,none,none,none] H1:=λhz=>⟨mx,qN Ds H1 hT hz sH1 p1⟩;by_cases hw:J1 d=false;rw[hw];exact ZC<|ZC (noN λk e=>by rw[e]at hw;cases hw);replace hw:J1 d=true:=by
  cases hz:J1 d with
  |true=>rfl
  |false=>exact absurd hz hw
 rw[hw];refine Yw ?_;obtain⟨k,rfl⟩:∃k,d=.int k:=by
  cases d with
  |int k=>exact⟨k,Z⟩
  |_=>cases hw
 obtain rfl:v=.int k:=by unfold ci at hd;exact hd
 refine⟨_,Z,_,_,Z,Z,_,Z,?_⟩;by_cases hk0:¬0<=k;rw[dy hk0];exact Yw ⟨_,Z,ZC (noN λk' e=>by injection e with e;lia)⟩;replace hk0:=Decidable.not_not.mp hk0;rw[de hk0];refine ZC ⟨_,Z,a,Z,.inr ⟨_,.inr ⟨o,ga⟩⟩,_,Z,wd,dw,_,Z,pI,Z,wd,g,z,Dl,_,Z,gw,λtv zJ=>?_⟩;rcases zJ with ⟨e,_⟩|⟨x0,t0,e,rfl,jR⟩
 cases e;cases e;have wZ:Nd.part p 0 z.cps.size∈Du:=(hO.mem _).mpr<|wk.tp _ rfl;refine⟨_,.inr ⟨_,Yd<|.part p 0 z.cps.size,t0,.inr ⟨o,ga⟩,Z,jR,(sd Ds wZ).symm⟩,?_⟩;refine⟨_,_,Z,Z,_,Z,?_⟩;by_cases pZ:¬k<Ys (Ds<|.part p 0 z.cps.size);rw[dy pZ];exact ZC (noN λk' e=>by injection e with e;rw[<-e];exact pZ);replace pZ:=Decidable.not_not.mp pZ;rw[de pZ];obtain⟨k,rfl⟩:=Int.eq_ofNat_of_zero_le hk0;refine Yw ?_;refine⟨_,Z,λtl dt g1 g2 g3=>⟨_,Z,λx B f1 f2 f3=>?_⟩⟩;have s2:YF H1<|upd (upd H1 dt<|.own tl) tl<|.ins C.Many dt []:=(YF.upd g2).put g1;have p2:YL<|upd (upd H1 dt<|.own tl) tl<|.ins C.Many dt []:=(p1.upd rfl).upd rfl;have rD:upd (upd H1 dt<|.own tl) tl (.ins C.Many dt []) tl=some (.ins C.Many dt []):=YA;revert s2 p2 rD f1 f2;generalize upd (upd H1 dt<|.own tl) tl (.ins C.Many dt [])=H2;intro f1 f2 s2 p2 rD;have s3:YF H2<|upd (upd H2 B<|.own x) x<|.ins C.Rests B []:=(YF.upd f2).put f1;have hLl:Du.length<=2900000:=YO1 (ZN hO.nd λy hy=>(hO.mem y).mp hy) hnl;refine⟨H2,x,wd,tl,dt,a,B,o,g,z,Dl,_,Ds,Du,Z,YA,f1,s3,(p2.upd Z).upd Z,gw.same s2,rD,s2 _ _ ga,hO.nd,hLl,λH3 hRs sH3 p3=>⟨Z,?_⟩⟩;have t3:YF H H3:=(sH1.trans s2).trans sH3;dsimp only[Yh];refine⟨YK<|YOn _,λro p_=>⟨_,Z,?_⟩⟩;have s4:=YF.upd (o:=.lst []) p_;have pY:upd H3 ro (.lst []) ro=some (.lst []):=YA;have p4:YL<|upd H3 ro<|.lst []:=p3.upd rfl;revert s4 pY p4;generalize upd H3 ro (.lst [])=H4;intro s4 pY p4;have t4:=t3.trans s4;obtain⟨rJ,l,tl',dt',d',an',bd,o',ob,xs,kb,R,_⟩:=hRs.ex;refine⟨_,Z,x,rJ,_,Z,s4 _ _ R,Z,_,Z,wd,dw,_,Z,t4 _ _ lG,Z,wd,g,z,Dl,_,Z,wa.same t4,λtv zJ=>?_⟩;rcases zJ with ⟨e,_⟩|⟨x1,t1,e,rfl,eU⟩
 cases e;cases e;refine⟨x,t1,g,Ds,Du,z.cps.size,p,Z,hRs.same s4,eU,λlv H5 Rx s5 n5=>?_⟩;dsimp only[Yh];have ul:z.cps.size<=60:=fF (YPq.mp wa.tx).1;have pF:g.length<=60:=fF (YPq.mp wa.gr).1;have Ry:∀ru∈g,ru.2.1.length<=6:=λru lO=>fF (YPq.mp (YPq.mp (YPq.mp<|YO8.mp (YPq.mp wa.gr).2 ru lO).2).1).1;have hout:∀y,y∉Du->Ds y=0:=λy hy=>hT.out y λz=>hy<|(hO.mem y).mpr z;have hbb:∀r d b e,Nd.beg r d b e∈Du->b<=e/\e<=z.cps.size:=λr d b e h=>(wa.lg _<|(hO.mem _).mp h).2;have Rz:∀q b e,Nd.part q b e∈Du->b<=e/\e<=z.cps.size:=λq b e h=>(wa.lg _<|(hO.mem _).mp h).2;have hkU:=YHy pZ;have hkM:(k:Int)<fV:=Int.lt_of_lt_of_le pZ<|Zu _;have hk1:k<Nc Ds z.cps.size [p] 0:=by
  have:=YHd (l:=List.range<|z.cps.size+1) (f:=λe=>Ds (.part p 0 e)*Nc Ds z.cps.size [] e) (a:=z.cps.size)<|YO9.mpr<|YPO _;refine YO5 hkU<|YO1 ?_ this;show _<=Ds (.part p 0 z.cps.size)*(if z.cps.size=z.cps.size then 1 else 0);rw[if_pos Z,Nat.mul_one];exact YOY _
 refine⟨λm σ G=>Ex9 λ(row:J Nat) (i:Nat) (qs:J av) (b:Nat) (lv:V) (v8 v9 gO lJ:ah V)=>xP (σ=[some<|.ref wd,some<|nV k,some<|.ref a,some<|.ref x,some<|.ref ro,some<|nV b,some<|nV i,some lv,v8,v9,gO,lJ]) (YF H3 G) (YL G) (G ro=some (.lst<|row.map nV)) (Zo G z.cps.size Ds lv qs i) (kN g F Dl Ds z.cps.size i qs b) (gl g Ds z.cps.size 0 [p] k row i qs b) ((b:Int)<fV) (row.length<=1000)<|m=1000-row.length,
  ⟨_,[],0,[p],k,lv,none,none,none,none,Z,s4.trans s5,YL.new p4 n5,s5 _ _ pY,Rx,⟨YOn _,hk1,vC,λp' ps' e=>by cases e;exact Rw⟩,.nil,hkM,YOn _,Z⟩,?_⟩
 rintro m σ G ⟨row,i,qs,b,lv,v8,v9,gO,lJ,rfl,sG,pG,hG,hl,hA,hR,hbM,hrl,rfl⟩;have rsG:=hRs.same sG;have hxG:=sG _ _ R;cases qs with
 |nil=>
  cases hl;have Dm:=hA.lt;have Do:i=z.cps.size:=Decidable.byContradiction λzz=>by
   rw[show Nc Ds z.cps.size [] i=0 from if_neg zz]at Dm;cases Dm
  have RB:b=0:=by
   rw[show Nc Ds z.cps.size [] i=1 from if_pos Do]at Dm;lia
  subst Do RB;exact⟨_,Z,Z,_,Z,Yw ⟨_,Z,qR Ds k row ro G hT Z pZ hR hrl (t3.free p_) hG (t3.trans sG) pG⟩⟩
 |cons q qs=>
  obtain⟨t,rd,zK,rfl,ht,hrs,hl'⟩:=hl;refine⟨_,Z,Z,_,Z,ZC ⟨λσ' H'=>∃m',m'<_/\_,λσ' H' h=>h,?_⟩⟩;refine⟨_,Z,ro,_,Z,.inl<|aX.of hG,Z,_,Z,gu (λhlen=>?_) λhlen=>?_⟩;have:row.length=1000:=by
   have:=fF hlen;injection this with this;rw[YOS]at this;lia
  exact⟨mx,qT Ds k row i q qs b G hT Z pZ hR hA this (t3.trans sG) pG⟩;have Dm:row.length<1000:=Decidable.byContradiction λzz=>hlen<|de (by rw[YOS,show row.length=1000 by lia];rfl);dsimp only[Yh];have hsum:b<Y3 (Yi g q) λr=>fR Ds z.cps.size r (ZF g r) i qs:=hA.sum (cs:=z.cps.toList) hS wk hT;have hne:Yi g q≠[]:=λzz=>by
   rw[zz,AU]at hsum;cases hsum
  refine x8 ?_;dsimp only;refine fx λu eu=>?_;refine YB8 (λσ' G2=>sK λr a' v9 gO=>xm (σ'=[some<|.ref wd,some<|nV k,some<|.ref a,some<|.ref x,some<|.ref ro,some<|nV a',some<|nV i,some<|.ref t,some<|nV r,v9,gO,lJ]) (jv (λr=>fR Ds z.cps.size r (ZF g r) i qs) (Yi g q) b r a') (YF G G2)<|YL G2) ?_ λY1=>?_;rintro σ' G2 ⟨r,a',v9,gO,rfl,ig,s6,p6⟩;obtain⟨ru,lO,_⟩:=ZV.mp ig.mem;have hG6:=s6 _ _ hG;show u _ _ _;subst eu;refine fx λu eu=>?_;refine⟨_,Z,.inl ⟨Z,_,aX.of hG6⟩,_,Z,ro,_,_,Z,Z,hG6,by rw[sizeLine_eq,YOS];lia,?_⟩;have kp:∀b u,(∀xs,u≠.lst xs)->G2 b=some u->upd G2 ro (.lst<|row.map nV++[nV r]) b=some u:=λb u n h=>YY hG6 (n _) h;have s7:YF H3<|upd G2 ro<|.lst<|row.map nV++[nV r]:=(sG.trans s6).put p_;have p7:YL<|upd G2 ro<|.lst<|row.map nV++[nV r]:=p6.upd rfl;have h7:upd G2 ro (.lst<|row.map nV++[nV r]) ro=some (.lst<|row.map nV++[nV r]):=YA;have r7:=(hrs.same s6).keep kp;have l7:=Zo.keep kp<|hl'.same s6;have t7:=kp t (.tup [.str q,.ref rd,zK]) (λxs z=>nomatch z)<|s6 _ _ ht;revert s7 p7 h7 r7 l7 t7;generalize upd G2 ro (.lst<|row.map nV++[nV r])=G7;intro s7 p7 h7 r7 l7 t7;show u _ _ _;subst eu;refine fx λu eu=>?_;refine⟨_,Z,x,rJ,_,Z,s7 _ _ R,Z,_,Z,_,Z,_,Z,x,t,rd,g,Ds,Du,z.cps.size,i,i,r,ru,q,qs,zK,Z,hRs.same s7,hO.nd,hout,Rz,ul,lO,by have:=Ry ru<|YOc lO;lia,t7,r7,l7,YOY _,λbb v G8 QH RC s8 n8=>?_⟩;show u _ _ _;subst eu;refine⟨_,Z,bb,_,0,_,Z,Z,cy.of QH,Z,_,Z,bb,_,1,_,Z,Z,cy.of QH,Z,?_⟩;obtain⟨A,Dv,_,hab,_⟩:=id ig;refine⟨1000-(row++[r]).length,by rw[YOU];show 1000-(row.length+1)<_;lia,row++[r],_,_,a',v,_,_,_,_,Z,s7.trans s8,YL.new p7 n8,?_,RC.mono<|YLd _ _,hA.step (cs:=z.cps.toList) hh hS wk hT ig lO,hR.app<|.cons ig lO .nil,by lia,by rw[YOU];show row.length+1<=1000;lia,Z⟩;rw[YOk];exact s8 _ _ h7;refine⟨_,Z,x,rJ,_,Z,hxG,Z,_,Z,_,Z,x,t,rd,g,Ds,Du,z.cps.size,i,i,q,qs,zK,Z,rsG,hout,hbb,ul,pF,ht,hrs,YOY _,hne,λc us cl G' hc hP hsub hz s' n'=>?_⟩;refine⟨c,Z,⟨_,aX.of hc⟩,Zq (K:=K) (a:=c) (xs:=us) (λj σ G2=>ki λ(a':Nat) (v9 gO:ah V)=>xi (σ=[some<|.ref wd,some<|nV k,some<|.ref a,some<|.ref x,some<|.ref ro,some<|nV a',some<|nV i,some<|.ref t,some .non,v9,gO,lJ]) (G2=G')<|b=Y3 (cl.take j) (λr=>fR Ds z.cps.size r (ZF g r) i qs)+a') ⟨b,v9,gO,Z,Z,by rw[List.take_zero,AU,YPs]⟩ (λj σ G2 _ ⟨_,_,_,_,e,_⟩=>by rw[e];exact aX.of hc) ?_ ?_⟩;rintro j u σ _ hj ⟨a',v9,gO,rfl,rfl,eb⟩;have hjl:j<cl.length:=by rw[<-hP.1];exact(YOX.mp hj).1
  have er:cl[j]?=some cl[j]:=YOW hjl;have ecl:cl=cl.take j++cl[j]::cl.drop (j+1):=by rw[<-YPF hjl,YQG]
  have etk:cl.take (j+1)=cl.take j++[cl[j]]:=by rw[YPA,er];rfl
  revert er ecl etk;generalize cl[j]=r;intro er ecl etk;obtain⟨t',rfl,ht'⟩:=hP.2 j u r hj er;refine⟨t',_,Z,cy.of ht',Z,_,_,Z,_,_,Z,Z,?_⟩;refine fx λu eu=>?_;refine⟨_,Z,_,Z,_,_,Z,Z,_,Z,gu (λhlt'=>?_) λhlt'=>?_⟩;have hlt2:=YHy<|fF hlt';exact⟨_,Z,Y1 _ _ ⟨r,a',_,_,Z,YNs hsub (YFU g q) hz ⟨cl.take j,cl.drop<|j+1,ecl,eb,hlt2⟩,s',YL.new pG n'⟩⟩;obtain⟨c1,c2⟩:=oG (λz=>hlt'<|de z) (show(a':Int)<fV by lia);have c3:V.int ((a':Int)-Ys (fR Ds z.cps.size r (ZF g r) i qs))=nV (a'-fR Ds z.cps.size r (ZF g r) i qs):=by
   rw[c2,<-Int.ofNat_sub c1];rfl
  show u _ _ _;subst eu;refine⟨_,Z,_,Z,_,_,Z,Z,?_⟩;dsimp only;rw[c3];refine⟨a'-fR Ds z.cps.size r (ZF g r) i qs,_,_,Z,Z,?_⟩;rw[etk,YDC];show _=_+(fR Ds z.cps.size r (ZF g r) i qs+0)+_;lia;rintro σ G2 ⟨a',v9,gO,rfl,rfl,eb⟩;rw[hP.1,YPI]at eb;have:=rf hsub (YFU g q) hz;exact absurd hsum (by rw[<-this];exact Nat.not_lt.mpr (by lia))
section
variable {g:YV}{cs:J Nat}{hs:Hs}
theorem YOC(hg:ZB g=true)(st:JA g cs hs)(hb:xM g cs hs):ij g cs<|eP<|hs.map (·.1):=by
 have ex:∀{x:Nd},eP (hs.map (·.1)) x=true->∃v,YO hs x=some v:=λh=>Xa<|fF h;have mk:∀{x:Nd}{v:Nat},YO hs x=some v->eP (hs.map (·.1)) x=true:=λh=>de<|BD h;refine⟨λx h=>?_,λr i hr hi=>mk<|hb.bg r i hr hi,λr i j h=>?_,λi c h=>mk<|hb.sg i c h,λr d i k p j hp h1 h2=>?_,λr ru i j hr h=>?_⟩;obtain⟨v,hv⟩:=ex h;exact st.leg x v hv;obtain⟨v,hv⟩:=ex h;rcases st.why _ v hv with ⟨_,e,_⟩|⟨d',_,_,_,_,e,_⟩
 exact e;cases e;obtain⟨a,ha⟩:=ex h1;obtain⟨b,hb'⟩:=ex h2;obtain⟨v,hv,_⟩:=st.cl.join r d i k p j a b ⟨a,ha⟩ ⟨b,hb'⟩ hp ha hb';exact mk hv;obtain⟨a,ha⟩:=ex h;obtain⟨v,hv,_⟩:=st.cl.up r ru i j a hr ⟨a,ha⟩ ha;exact mk hv
end
theorem YOD(h:Nd.part p 0 n∈Dl):hZ F Dl n [p] 0:=λe he _ hc=>by
 have hc:e=n:=hc;subst hc;exact⟨h,trivial⟩
abbrev YAH:Stmt:=top 56
abbrev YBE:Stmt:=top 57
abbrev JC:Stmt:=top 58
abbrev J9:Stmt:=top 59
abbrev YBF:Stmt:=top 60
abbrev YBG:Stmt:=top 61
abbrev YBH:Stmt:=top 69
abbrev lP:Stmt:=top 72
theorem XT:([bP,dA,dE]:J av).Nodup:=by decide+kernel
theorem Zp:([bP,eC,fb,dA,dE]:J av).Nodup:=by decide+kernel
inductive YJT(K:W.Frag)(vs:List V)(H:L)(Q:VK):Prop
 |mk (a:Addr)(ns:List Int)(k:Int):vs=[.ref a,.int k]->aX K H a (ns.map V.int)->0<=k->k<=1000->(∀v:Int,0<=v->v<2147483647->Q (.int v) H)->YJT K vs H Q
def YH0(K:W.Frag):Sp:=λvs H Q E_=>YJT K vs H Q
inductive YJU(vs:List V)(H:L)(Q:VK):Prop
 |mk (c:Int):vs=[.int c]->YL H->(∀l (a b d:Nat) H',good a=true->good b=true->good d=true->YF H H'->YL H'->H l=none->H' l=some (.lst [.str ⟨#[a]⟩,.str ⟨#[b]⟩,.str ⟨#[d]⟩])->Q (.ref l) H')->YJU vs H Q
def YLe:Sp:=λvs H Q E_=>YJU vs H Q
inductive YJV(vs:List V)(H:L)(Q:VK):Prop
 |mk (c:Int):vs=[.int c]->0<=c->c<2147483648->YL H->(∀l (ns:List Str) H',ns.length=4->(∀z∈ns,cE z=true)->YF H H'->YL H'->H l=none->H' l=some (.lst (ns.map V.str))->Q (.ref l) H')->YJV vs H Q
def YLf:Sp:=λvs H Q E_=>YJV vs H Q
inductive YG8(vs:List V)(H:L)(Q:VK):Prop
 |mk (c:Int):vs=[.int c]->(∀z:Int,0<=z->z<=10^60->Q (.int z) H)->YG8 vs H Q
def YFl:Sp:=λvs H Q E_=>YG8 vs H Q
inductive YJW(vs:List V)(H:L)(Q:VK):Prop
 |mk (c:Int)(m:Addr)(zs:List Str)(n:Int):vs=[.int c,.ref m,.int n]->H m=some (.lst (zs.map V.str))->1<=zs.length->zs.length<=100->0<=n->n<=6->YL H->(∀t (ps:List Str) H',(ps.length:Int)<=n->(∀p∈ps,p∈zs)->YF H H'->YL H'->H t=none->H' t=some (.tup (ps.map V.str))->Q (.ref t) H')->YJW vs H Q
def YH1:Sp:=λvs H Q E_=>YJW vs H Q
def iL:av:=YHa JC 0++YHa JC 1
theorem YG9:iL.cps.toList=YDh:=by decide+kernel
theorem YD3:iL.length<=sizeLine:=YK (by decide+kernel)
theorem BA(h:cE z=true):Yn z=true:=by
 unfold Yn;rw[h,Bool.or_true]
theorem YOE(hz:z.length<=7)(hl:z.cps.toList.all Zw=true)(hc:Zw c=true)(h0:0<=j)(h1:j<=z.length):
  cE (Txt.slice z none (some j)++⟨#[c]⟩++Txt.slice z (some j) none)=true:=by
 rw[YEC,CZ,CZ,YNR h0 h1,YJ2 h0 h1];have tW:z.cps.toList.length=z.length:=YPD;unfold YKx;have R:((z.cps.toList.take j.toNat++[c]++z.cps.toList.drop j.toNat).length)=z.length+1:=by
  rw[YOU,YOU,YPK,YPT,tW];show min j.toNat z.length+1+(z.length-j.toNat)=_;lia
 show(decide (1<=(z.cps.toList.take j.toNat++[c]++z.cps.toList.drop j.toNat).length)&&decide ((z.cps.toList.take j.toNat++[c]++z.cps.toList.drop j.toNat).length<=8)&&(z.cps.toList.take j.toNat++[c]++z.cps.toList.drop j.toNat).all Zw)=true;rw[R,de (by lia),de (by lia)];rw[YO8]at hl;rw[YP7,YP7];have a1:(z.cps.toList.take j.toNat).all Zw=true:=YO8.mpr λx U=>hl x<|YPp U;have a2:(z.cps.toList.drop j.toNat).all Zw=true:=YO8.mpr λx U=>hl x<|YP4 U;rw[a1,a2];show(true&&(true&&[c].all Zw&&true))=true;rw[YQA,hc];rfl
theorem YOF(hc:Zw c=true)(h0:1<=n)(h1:n<=8):cE (Txt.mul ⟨#[c]⟩ n)=true:=by
 rw[YEC,PyProof.Rows.mul_one_list];unfold YKx;rw[List.length_replicate,de (by lia),de (by lia)];show(List.replicate n.toNat c).all Zw=true;rw[YO8];intro x U;rw[(List.mem_replicate.mp U).2];exact hc
theorem YEd:YJ [bX,bP] [bX,bP]<|YG YAH:=eQ
theorem YEe(T:Txt K mg C):Gd P w K mg bZ 1 eI eI YAH [bX,bP]<|BE K:=by
 refine eT YEd λH Q E hr h=>?_;obtain⟨a,ns,k,rfl,hS,h0,q⟩:=h;refine⟨_,(YE (Yj (YT kK (S 1) (fL K T.aF<|S 0)<|YU _) (YD<|YM<|fB K (S 0)<|S 1) YR)
  (YD<|YM YC)),?_⟩
 refine⟨_,Z,_,Z,a,_,Z,.inl hS,_,_,Z,Z,_,Z,?_⟩;refine gu (λh1=>?_) λh1=>?_;have h1':=fF h1;obtain⟨v,hv,hm⟩:=XZ h0 h1';obtain⟨n,_,rfl⟩:=YOt.mp hm;exact⟨_,Z,_,Z,a,_,k,_,Z,Z,hS,hv,q n⟩;exact q 0
theorem YCI:YJ [bX,bP,ce] [bX,bP]<|YG YBE:=eQ
theorem YGB(T:Txt K mg C)(aA:ZK P w K mg bZ 1 eI [bX,bP]<|BE K):Gd P w K mg bZ 2 "_law_mixed" "_law_mixed" YBE [bX,bP]<|YH0 K:=by
 refine eT YCI λH Q E hr h=>?_;obtain⟨a,ns,k,rfl,hS,k0,k1,q⟩:=h;refine⟨_,(YE (c9 2 YCI<|YN ZS (eW aA hr YQ<|YI (S 0)<|bB<|S 1) YC)
  (YD<|YM<|YN ZS (YN AK (YN ZD (YN ZD (YN ZD (YN AK (S 2)<|S 2)<|S 2)<|YN AK (YN AK YC<|S 1)<|S 1) YC) YC) YC)),?_⟩
 refine⟨_,Z,_,Z,a,ns,k,Z,hS,k0,λv=>⟨_,_,Z,Z,(by show(0:Int)<2147483629;decide),?_⟩⟩;have c0:0<=v%2147483629:=by lia
 have c1:v%2147483629<2147483629:=by lia
 refine⟨_,Z,_,Z,_,_,Z,Z,.inl ⟨by lia,by lia⟩,_,Z,_,_,Z,Z,_,Z,_,_,Z,Z,.inl ⟨by decide,by decide⟩,_,Z,_,_,Z,Z,.inr ⟨by lia,by lia⟩,_,_,Z,Z,_,_,Z,Z,_,_,Z,Z,.inr ⟨by decide,by decide⟩,_,_,Z,Z,(by show(0:Int)<2147483647;decide),q _ ?_ ?_⟩;exact YPl _ (by decide);exact YPf _ (by decide)
theorem YAi:YJ [ce,fc] [ce]<|YG JC:=eQ
theorem YGC(T:Txt K mg C):Gd P w K mg bZ 1 "_law_signs" "_law_signs" JC [ce]<|YLe:=by
 refine eT YAi λH Q E hr h=>?_;obtain⟨c,rfl,hp,q⟩:=h;refine⟨_,(YE (c9 1 YAi Zf)
  (YE (c9 1 YAi<|YN Jk (S 1) Zf)
  (YD<|YM<|Y6<|YI (XY Jl (S 1) (YN ZS (S 0) YC)<|λ_ _=>rfl)<|YI (XY Jl (S 1) (YN ZS (YN ZD (YN ZD (S 0) YC)<|YN ZS (YN Zy (S 0) YC) YC) YC)<|λ_ _=>rfl)<|bB<|XY Jl (S 1) (YN ZS (YN ZD (YN ZD (S 0) YC)<|YN ZS (YN Zy (S 0) YC) YC) YC)<|λ_ _=>rfl))),?_⟩
 refine⟨_,Z,YHa JC 0,YHa JC 1,Z,Z,by decide+kernel,?_⟩;have at_:∀i:Int,∃k,f_ iL.cps.toList (i%94)=some k/\good k=true:=λi=>by
  obtain⟨k,hk,hm⟩:=XZ (xs:=iL.cps.toList) (i:=i%94) (by lia) (by rw[YG9,YMA];lia);rw[YG9]at hm;exact⟨k,hk,YJ1 hm⟩
 obtain⟨k1,R,g1⟩:=at_ c;obtain⟨k2,e2,g2⟩:=at_<|c+1+c / 94%46;obtain⟨k3,e3,g3⟩:=at_<|c+47+c / 4324%46;refine⟨_,Z,_,Z,_,_,Z,Z,(by show(0:Int)<94;decide),iL,_,k1,Z,Z,YD3,R,?_⟩;refine⟨_,Z,_,Z,_,_,Z,Z,_,Z,_,_,Z,Z,⟨by decide,by decide⟩,_,_,Z,Z,(by show(0:Int)<46;decide),_,_,Z,Z,_,_,Z,Z,(by show(0:Int)<94;decide),iL,_,k2,Z,Z,YD3,e2,?_⟩;refine⟨_,Z,_,Z,_,_,Z,Z,_,Z,_,_,Z,Z,⟨by decide,by decide⟩,_,_,Z,Z,(by show(0:Int)<46;decide),_,_,Z,Z,_,_,Z,Z,(by show(0:Int)<94;decide),iL,_,k3,Z,Z,YD3,e3,?_⟩;exact⟨jS,λl hl=>q l k1 k2 k3 _ g1 g2 g3 (YF.upd hl) (hp.upd Z) hl YA⟩
theorem Zd:YJ [ce,dA,dE,bP,fb,eC] [ce]<|YG J9:=eQ
theorem YGD(T:Txt K mg C):Gd P w K mg bZ 1 "_law_names" "_law_names" J9 [ce]<|YLf:=by
 refine eT Zd λH Q E hr h=>?_;obtain⟨c,rfl,c0,c1,hp,q⟩:=h;refine⟨_,(YE (c9 1 Zd Zf)
  (YE (c9 2 Zd<|YN ZS (S 0) YC)
  (YE (c9 0 Zd<|YN Zy (S 0) YC)
  (YE (Yj (YT Xm (YN ZS (S 0) YC) YC<|YU _) (YD<|YM<|XV (N:=[bP,dA,dE]) (ρ:=[none,some 1,some 2]) rfl (ZJ.closes [ce,dA,dE,bP,fb,eC] (YG J9).names rfl rfl rfl rfl (by decide+kernel) (by decide+kernel) (λx h=>XX h) (by decide+kernel) rfl (by decide+kernel)) (Ze rfl T.bH<|bB YC) (λ_ _ _ _ _=>(Z8 (i:=0) XT rfl (Or.inl rfl)<|.inr rfl)) (λ_ _ _ _ _=>J0)<|λ_ _ _ _ _=>(YN YJu (XY Jl (S 1) (S 2)<|λ_ _=>rfl)<|YN AI (YN ZD (YN AK YC<|S 0) YC)<|YN Zy (S 0) YC)) YR)
  (YE (c9 4 Zd Zf)
  (YE (fP (Ze Z T.bH<|bB<|YN ZS (YN Zy (S 0) YC) YC) (fz 3 Zd)<|YD<|c9 4 Zd<|YN Jk (S 4)<|XY Jl (S 1) (YN ZS (YN Zy (YN AK (S 0)<|YN ZD (S 3) YC) YC) YC)<|λ_ _=>rfl)
  (YE (c9 5 Zd<|YN ZS (YN Zy (S 0) YC)<|YN ZD (Yo JS (by rfl) T.aF YPV<|bB<|S 4) YC)
  (YD<|YM<|XV (N:=[bP,eC,fb,dA,dE]) (ρ:=[none,some 5,some 4,some 1,some 2]) rfl (ZJ.closes [ce,dA,dE,bP,fb,eC] (YG J9).names rfl rfl rfl rfl (by decide+kernel) (by decide+kernel) (λx h=>XX h) (by decide+kernel) rfl (by decide+kernel)) (Ze rfl T.bH<|bB YC) (λ_ _ _ _ _=>(Z8 (i:=0) Zp rfl (Or.inl rfl)<|.inr rfl)) (λ_ _ _ _ _=>J0)<|λ_ _ _ _ _=>(YN Jk (YN Jk (Xx YNB (S 2) xx<|xD<|S 1)<|XY Jl (S 3) (YN ZD (S 4)<|S 0)<|λ_ _=>rfl)<|Xx YNB (S 2) (xD<|S 1) xx))))))))),?_⟩
 refine⟨_,Z,_,_,Z,Z,(by show(0:Int)<23;decide),?_⟩;refine⟨_,Z,_,_,Z,Z,⟨by decide,by decide⟩,?_⟩;refine⟨_,Z,_,_,Z,Z,(by show(0:Int)<4;decide),Z,_,Z,gu (λh0=>?_) λh0=>?_⟩;refine⟨4,Z,by decide,by decide,λl hl=>?_⟩;refine XI (n:=4) 0 (λk y _=>∃z,y=.str z/\cE z=true) YD9 (λ_ _ _ _ _ h=>h) hp hl (by show 0<3;decide) (YK (by decide)) (λτ'=>∃v,τ'=[v,some<|.str ku,some<|.int<|c%23]) ⟨_,Z⟩ ?_ ?_ ?_;rintro τ' v ⟨w,rfl⟩;exact⟨v,Z⟩;rintro τ' k x H' Dt ⟨w,rfl⟩ hτ Dp hk hs hp' pq hR;have ew:w=some x:=by simpa using hτ
 subst ew Dp;obtain⟨c2,hc2,hm⟩:=XZ (xs:=ku.cps.toList) (i:=c%23) (by lia) (by rw[YHZ];lia);refine⟨_,Z,_,Z,ku,_,c2,Z,Z,YFG,hc2,_,Z,_,_,Z,Z,.inl ⟨by decide,by decide⟩,_,_,Z,Z,_,Z,_,_,Z,Z,⟨by decide,by decide⟩,_,_,Z,Z,_,_,Z,Z,(by show 1<=1000;decide),?_,?_,hR _ _ (YF.refl _) hp' ⟨_,Z,YOF (YCT hm) ?_ ?_⟩⟩ <;> lia
 intro ys H' hy hP hs hp' hl';obtain⟨zs,rfl,hz⟩:=YCU hP;exact q l zs H' (by rw[YOS]at hy;exact hy) hz hs hp' hl hl';refine⟨_,Z,_,_,Z,Z,⟨by decide,by decide⟩,_,_,Z,Z,(by show(0:Int)<8;decide),_,Z,(js (by lia) (by lia)).1,(js (by lia) (by lia)).2,?_⟩;refine JG (lo:=0) (n:=(c / 23 / 4%8).toNat) (λi σ H2=>H2=H/\∃(z:av) (v:ah V),σ=[some<|.int<|c / 23,some<|.str ku,some<|.int<|c%23,v,some<|.str z,none]/\z.length=i/\z.cps.toList.all Zw=true) ⟨Z,_,none,Z,(by decide+kernel),(by decide+kernel)⟩ ?_ ?_;rintro i σ H2 hi ⟨rfl,z,v,rfl,hz,tW⟩;have hi8:i<8:=by lia
 obtain⟨c2,hc2,hm⟩:=XZ (xs:=ku.cps.toList) (i:=c / 23*(0+(i:Int)+3) / 7%26) (by lia) (by rw[YHZ];lia);refine⟨_,Z,_,Z,_,Z,_,Z,_,_,Z,Z,_,_,Z,Z,.inl ⟨by lia,by lia⟩,_,_,Z,Z,⟨by decide,by decide⟩,_,_,Z,Z,(by show(0:Int)<26;decide),ku,_,c2,Z,Z,YFG,hc2,z,_,Z,Z,YK (by show z.length+1<=1000;lia),?_⟩;refine⟨Z,z++⟨#[c2]⟩,_,Z,by rw[BG,hz];rfl,?_⟩;rw[CZ,YP7,tW];show(true&&[c2].all Zw)=true;rw[YQA,YCT hm];rfl;rintro σ H2 ⟨rfl,z,v,rfl,hz,tW⟩;have RG:z.length<=7:=by lia
 refine⟨_,Z,_,_,Z,Z,⟨by decide,by decide⟩,_,Z,z,Z,YK (by lia),_,_,Z,Z,_,_,Z,Z,(by show(0:Int)<(z.length:Int)+1;lia),?_⟩;have a0:0<=c / 23 / 32%((z.length:Int)+1):=YPl _ (by lia);have a1:c / 23 / 32%((z.length:Int)+1)<(z.length:Int)+1:=YPf _ (by lia);obtain⟨at_,hat⟩:∃a,a=c / 23 / 32%((z.length:Int)+1):=⟨_,Z⟩;rw[<-hat]at a0 a1;refine⟨4,Z,by decide,by decide,λl hl=>?_⟩;refine XI (n:=4) 0 (λk y _=>∃z,y=.str z/\cE z=true) YD9 (λ_ _ _ _ _ h=>h) hp hl (by show 0<5;decide) (YK (by decide)) (λτ'=>∃v,τ'=[v,some<|.int at_,some<|.str z,some<|.str ku,some<|.int<|c%23]) ⟨none,by rw[hat];rfl⟩ ?_ ?_ ?_;rintro τ' v ⟨w,rfl⟩;exact⟨v,Z⟩;rintro τ' k x H' Dt ⟨w,rfl⟩ hτ Dp hk hs hp' pq hR;have ew:w=some x:=by simpa using hτ
 subst ew Dp;obtain⟨c2,hc2,hm⟩:=XZ (xs:=ku.cps.toList) (i:=c%23+(0+(k:Int))) (by lia) (by rw[YHZ];lia);have q1:=Txt.slice_le z none<|some at_;have q2:=Txt.slice_le z (some at_) none;refine⟨_,Z,_,Z,_,Z,z,Z,YK (by lia),_,Z,_,Z,_,Z,_,_,Z,Z,ku,_,c2,Z,Z,YFG,hc2,_,_,Z,Z,YK (by show _+1<=1000;lia),_,Z,_,Z,_,Z,z,Z,YK (by lia),_,_,Z,Z,YK (by rw[BG];show _+1+_<=1000;lia),hR _ _ (YF.refl _) hp' ⟨_,Z,YOE RG tW (YCT hm) a0 (by lia)⟩⟩;intro ys H' hy hP hs hp' hl';obtain⟨zs,rfl,hz⟩:=YCU hP;exact q l zs H' (by rw[YOS]at hy;exact hy) hz hs hp' hl hl'
theorem YGE:YJ [ce] [ce]<|YG YBF:=eQ
theorem YGF(T:Txt K mg C):Gd P w K mg bZ 1 "_law_worth" "_law_worth" YBF [ce]<|YFl:=by
 refine eT YGE λH Q E hr h=>?_;obtain⟨c,rfl,q⟩:=h;refine⟨_,(YE (Yj (YT Xm (YN ZS (S 0) YC) YC<|YU _) (YD<|YM<|YN ZS (YN Zy (S 0) YC)<|YN ZD (YN YHK YC YC) YC) YR)
  (YD<|YM<|YN ZS (YN Zy (S 0) YC) YC)),?_⟩
 have big:(1000:Int)<=10^60:=by decide
 refine⟨_,Z,_,_,Z,Z,(by show(0:Int)<3;decide),Z,_,Z,gu (λ_=>?_) λ_=>?_⟩;refine⟨_,Z,_,_,Z,Z,⟨by decide,by decide⟩,_,_,Z,Z,⟨by decide,by decide,by decide⟩,_,_,Z,Z,_,_,Z,Z,(by show(0:Int)<10^(60:Int).toNat+1;decide),q _ ?_ ?_⟩;exact YPl _ (by decide);exact Int.le_of_lt_add_one<|YPf _ (by decide);refine⟨_,Z,_,_,Z,Z,⟨by decide,by decide⟩,_,_,Z,Z,(by show(0:Int)<4;decide),q _ ?_ ?_⟩;show 0<=c / 3%4;lia;show c / 3%4<=10^60;lia
theorem JH:YJ [ce,eJ,fe,"_law_size",dL,bP] [ce,eJ,fe]<|YG YBG:=eQ
theorem YGG(T:Txt K mg C):Gd P w K mg bZ 1 "_law_parts" "_law_parts" YBG [ce,eJ,fe]<|YH1:=by
 refine eT JH λH Q E hr h=>?_;obtain⟨c,m,zs,n,rfl,hm,z1,z2,n0,n6,hp,q⟩:=h;refine⟨_,(YE (c9 3 JH<|YN ZS (S 0)<|YN ZD (S 2) YC)
  (YE (c9 0 JH<|YN Zy (S 0)<|YN ZD (S 2) YC)
  (YE (c9 4 JH<|Y6 Yp)
  (YE (fP (Ze Z T.bH<|bB<|S 3) (fz 5 JH) (YE (Ya<|fX K (S 4)<|fB K (S 1)<|YN ZS (S 0)<|fL K T.aF<|S 1)
  (YD<|c9 0 JH<|YN Zy (S 0)<|fL K T.aF<|S 1)))
  (YD<|YM<|JR (YE5 K rfl) (by rfl) T.jl YQF<|bB<|S 4))))),?_⟩
 refine⟨_,Z,_,Z,_,_,Z,Z,_,_,Z,Z,(by show(0:Int)<n+1;lia),?_⟩;refine⟨_,Z,_,Z,_,_,Z,Z,_,_,Z,Z,⟨by lia,by lia⟩,?_⟩;have s0:0<=c%(n+1):=YPl _ (by lia);have s1:c%(n+1)<n+1:=YPf _ (by lia);obtain⟨sz,hsz⟩:∃sz,sz=c%(n+1):=⟨_,Z⟩;rw[<-hsz]at s0 s1;refine⟨YOn _,λl hl=>?_⟩;refine⟨_,Z,sz,by rw[hsz],(js (by lia) (by lia)).1,(js (by lia) (by lia)).2,?_⟩;have nml:m≠l:=YS hm hl;refine JG (lo:=0) (n:=sz.toNat) (λi σ H2=>ki λ(ps:J av) (x:Int) (v:ah V)=>xm (H2=upd H l (.lst<|ps.map V.str)) (ps.length=i) ((∀p∈ps,p∈zs))<|σ=[some<|.int x,some<|.ref m,some<|.int n,some<|.int sz,some<|.ref l,v]) ⟨[],_,none,Z,Z,by simp,by rw[hsz];rfl⟩ ?_ ?_;rintro i σ H2 hi ⟨ps,x,v,rfl,hpl,hpm,rfl⟩;have hm2:upd H l (.lst<|ps.map V.str) m=some (.lst<|zs.map V.str):=by rw[YB nml];exact hm
 have tW:((zs.map V.str).length:Int)=(zs.length:Int):=by rw[YOS]
 obtain⟨y,hy,hmem⟩:=XZ (xs:=zs.map V.str) (i:=x%((zs.map V.str).length:Int)) (YPl _ (by lia))<|YPf _ (by lia);obtain⟨z,hz,rfl⟩:=YOt.mp hmem;refine⟨_,Z,.inl ⟨Z,_,aX.of YA⟩,_,Z,_,Z,_,Z,m,_,Z,.inl<|aX.of hm2,_,_,Z,Z,(by lia),m,_,_,_,Z,Z,aX.of hm2,hy,l,_,.str z,Z,Z,YA,?_,?_⟩;rw[YOS];exact YO5 (show _<1000 by lia)<|YK<|YOY _;refine⟨_,Z,_,Z,m,zs.map V.str,Z,.inl<|aX.of ?_,_,_,Z,Z,⟨by show(0:Int)<((zs.map V.str).length:Int);lia,by show((zs.map V.str).length:Int)<1073741824;lia⟩,ps++[z],_,_,?_,by rw[YOU,hpl];rfl,?_,Z⟩;rw[CQ,YB nml];exact hm;rw[CQ,YOk];rfl;intro p hp;rcases YOf.mp hp with h|h
 exact hpm p h;rw[YOT.mp h];exact hz;rintro σ H2 ⟨ps,x,v,rfl,hpl,hpm,rfl⟩;refine⟨_,Z,l,_,Z,.inl ⟨aX.of YA,λt ht=>?_⟩⟩;have s2:=YF.upd (o:=.lst<|ps.map V.str) hl;exact q t ps _ (by lia) hpm (s2.trans<|YF.upd ht) ((hp.upd Z).upd Z) (s2.free ht) YA
abbrev YAI:Stmt:=top 70
abbrev Xl:Stmt:=top 71
inductive YDN(vs:List V)(H:L)(Q:VK):Prop
 |mk (a:Addr)(ns:List Nat):vs=[.ref a]->H a=some (.lst (ns.map nV))->YL H->Q (.bl true) H->YDN vs H Q
def YEL:Sp:=λvs H Q E_=>YDN vs H Q
inductive YFm(vs:List V)(H:L)(Q:VK):Prop
 |mk (l1 l2:Addr)(ns:List Nat)(as:List Addr)(rows:List (List Nat)):vs=[.ref l1,.ref l2]->H l1=some (.lst (ns.map nV))->H l2=some (.lst (as.map V.ref))->as.length=rows.length->ns.length=rows.length->rows.length<=1000->(∀(j:Nat) (a:Addr) (r:List Nat),as[j]?=some a->rows[j]?=some r->H a=some (.lst (r.map nV)))->(∀(k j x y:Nat) (r s:List Nat),ns[k]?=some x->ns[j]?=some y->rows[k]?=some r->rows[j]?=some s->decide (x<y)=HT.lexLt (r.map λi:Nat=>(i:Int)) (s.map λi:Nat=>(i:Int)))->Q (.bl true) H->YFm vs H Q
def YHA:Sp:=λvs H Q E_=>YFm vs H Q
theorem C_{c A Dv:Prop}[Decidable c](hc:¬c)(h:Dv):if c then A else Dv:=by rw[if_neg hc];exact h
theorem YGH:YJ [cK] [cK]<|YG YBH:=eQ
theorem YGI(T:Txt K mg C):Gd P w K mg bZ 1 "_law_whole" "_law_whole" YBH [cK]<|X4 J1:=by
 refine eT YGH λH Q E hr h=>?_;obtain⟨x,d,rfl,den,sh,hp,q⟩:=h;refine⟨_,(YD<|YM<|XF (Yo (Z2 K rfl) (by rfl) T.aD YO7<|YI (S 0)<|bB<|Jv (v:=.ty "int") (by rfl) T.kO YP0 rfl)<|Xw<|YMZ<|Yo (Z2 K rfl) (by rfl) T.aD YO7<|YI (S 0)<|bB<|Jv (v:=.ty "bool") (by rfl) T.lZ PyProof.Rows.Boot.«bool» rfl),?_⟩;refine⟨_,Z,_,_,_,_,_,Z,den.ty,Z,YKo d,_,Z,?_⟩;refine J2 (g:=!YHW d) (λ_ Dt hR=>⟨_,Z,_,_,_,_,_,Z,den.ty,Z,YIS d,_,Z,hR⟩) ?_;cases d <;> exact q
theorem YBQ:YJ [cK,df] [cK]<|YG YAI:=eQ
theorem YEf(T:Txt K mg C)(bQ:ZK P w K mg bZ 1 "_law_whole" [cK]<|X4 J1):Gd P w K mg bZ 2 "_law_numbers" "_law_numbers" YAI [cK]<|YEL:=by
 refine eT YBQ λH Q E hr h=>?_;obtain⟨a,ns,rfl,ha,hp,q⟩:=h;refine gi ?_;refine⟨_,(YH ⟨(Yj (JW<|JI<|Yo (Z2 K rfl) (by rfl) T.aD YO7<|YI (S 0)<|bB<|Jv (v:=.ty "list") (by rfl) T.eZ YPL rfl) (YD<|YM Jq) YR)⟩
  (YH ⟨(fP (ZH K rfl<|S 0) (fz 1 YBQ)<|YD<|Yj (JW<|JI<|eW bQ hr YQ<|bB<|S 1) (YD<|YM Jq) YR)⟩
  (ZI ⟨(YM Jq)⟩))),?_⟩
 refine⟨_,Z,_,_,_,_,_,Z,.lst ha,Z,YIT<|.lst [],_,Z,Yw ?_⟩;refine⟨_,Z,a,Z,⟨_,aX.of ha⟩,Zq (K:=K) (a:=a) (xs:=ns.map nV) (λj σ G=>G=H/\∃v,σ=[some<|.ref a,v]) ⟨Z,none,Z⟩ (λj σ G _ ⟨e,_⟩=>by rw[e];exact aX.of ha) ?_ ?_⟩;rintro j v σ _ hj ⟨rfl,v1,rfl⟩;rw[YOd]at hj;obtain⟨x,U,rfl⟩:=YO2.mp hj;exact⟨_,Z,nV x,.int x,Z,ci.int _,Z,hp,_,Z,Yw ⟨Z,_,Z⟩⟩;rintro σ _ ⟨rfl,v1,rfl⟩;exact q
theorem XU:YJ [dP,dQ,bP,"_law_j"] [dP,dQ]<|YG Xl:=eQ
theorem YD4(T:Txt K mg C):Gd P w K mg bZ 1 "_law_in_order" "_law_in_order" Xl [dP,dQ]<|YHA:=by
 refine eT XU λH Q E hr h=>?_;obtain⟨l1,l2,ns,as,rows,rfl,h1,h2,h3,h4,h5,h6,h7,q⟩:=h;have hU:=hr.units;refine gi ?_;refine⟨_,(YH ⟨(fP (Ze Z T.bH<|bB<|fL K T.aF<|S 1) (fz 2 XU)<|YD<|fP (Ze rfl T.bH<|bB<|fL K T.aF<|S 1) (fz 3 XU)<|YD<|Yj (YT mP (Jf kK (fB K (S 0)<|S 2) (fB K (S 0)<|S 3)<|YU _) (Jf (AA K rfl hU) (fB K (S 1)<|S 2) (fB K (S 1)<|S 3)<|YU _)<|YU _) (YD<|YM Jq) YR)⟩
  (ZI ⟨(YM Jq)⟩)),?_⟩
 have e2:(as.map V.ref).length=rows.length:=by rw[YOS,h3]
 have ix:∀(k:Nat),k<rows.length->∃x a r,ns[k]?=some x/\as[k]?=some a/\rows[k]?=some r:=λk hk=>⟨_,_,_,YOW (by lia),YOW (by lia),YOW hk⟩;have toN:∀{m:Nat},((m:Nat):Int).toNat=m:=λ{m}=>YQM m;refine⟨_,Z,l2,_,Z,.inl<|aX.of h2,_,Z,by lia,by rw[e2];lia,?_⟩;rw[e2,toN];refine JG (lo:=0) (n:=rows.length) (λk σ G=>H=G/\∃v2 v3,σ=[some<|.ref l1,some<|.ref l2,v2,v3]) ⟨Z,none,none,Z⟩ ?_ ?_;rintro k σ _ hk ⟨rfl,v2,v3,rfl⟩;rw[YPt];refine⟨_,Z,l2,_,Z,.inl<|aX.of h2,_,Z,by lia,by rw[e2];lia,?_⟩;rw[e2,toN];refine JG (lo:=0) (n:=rows.length) (λj σ G=>H=G/\∃v3,σ=[some<|.ref l1,some<|.ref l2,some<|nV k,v3]) ⟨Z,v3,Z⟩ ?_ ?_;rintro j σ _ hj ⟨rfl,v3,rfl⟩;rw[YPt];obtain⟨x,a,r,x1,x2,x3⟩:=ix k hk;obtain⟨y,b,s,y1,y2,y3⟩:=ix j hj;have ma:∀(l:J Nat),l.map nV=(l.map λi:Nat=>(i:Int)).map V.int:=λl=>by rw[YPa];rfl
 have gx:(ns.map nV)[k]?=some (nV x):=by rw[YOd,x1];rfl
 have gy:(ns.map nV)[j]?=some (nV y):=by rw[YOd,y1];rfl
 have ga:(as.map V.ref)[k]?=some (.ref a):=by rw[YOd,x2];rfl
 have gb:(as.map V.ref)[j]?=some (.ref b):=by rw[YOd,y2];rfl
 have ra:=h6 k a r x2 x3;have rb:=h6 j b s y2 y3;rw[ma]at ra rb;refine⟨_,Z,_,Z,l1,_,_,_,Z,Z,aX.of h1,Y2 gx,_,Z,_,Z,l1,_,_,_,Z,Z,aX.of h1,Y2 gy,_,_,Z,Z,_,Z,_,Z,l2,_,_,_,Z,Z,aX.of h2,Y2 ga,_,Z,_,Z,l2,_,_,_,Z,Z,aX.of h2,Y2 gb,a,b,_,_,Z,Z,aX.of ra,aX.of rb,Z,_,Z,?_⟩;rw[<-h7 k j x y r s x1 y1 x3 y3];have e:decide (((x:Nat):Int)<((y:Nat):Int))=decide (x<y):=by
  by_cases z:x<y;rw[de z,de (by lia)];rw[dy z,dy (by lia)]
 rw[e];refine C_ (by simp) ⟨Z,_,Z⟩;rintro σ _ ⟨rfl,v3,rfl⟩;exact⟨Z,_,_,Z⟩;rintro σ _ ⟨rfl,v2,v3,rfl⟩;exact q
abbrev YBI:Stmt:=top 62
structure YH2(hs:List Str)(calm:Bool)(g:YV):Prop where
 ok:g.all Z9=true
 rl:∀(j:Nat) r,g[j]?=some r->hs[j]?=some r.1/\(∀p∈r.2.1,da p=true)/\r.2.1.length<=2/\(calm=true->r.2.1≠[])
inductive YFn(K:W.Frag)(vs:List V)(H:L)(Q:VK):Prop
 |mk (a lh ls:Addr)(ns:List Int)(hs sg:List Str)(calm:Bool):vs=[.ref a,.ref lh,.ref ls,.bl calm]->aX K H a (ns.map V.int)->H lh=some (.lst (hs.map V.str))->(∀z∈hs,cE z=true)->hs.length<=3->H ls=some (.lst (sg.map V.str))->sg.length=3->(∀p∈sg,Yn p=true/\da p=true)->YL H->(∀(l:Addr) (xs:List V) (g:YV) (H':L),YH2 hs calm g->g.length=hs.length->H l=none->H' l=some (.lst xs)->YX (del H' l) xs (g.map ZW)->YF H H'->YL H'->Q (.ref l) H')->YFn K vs H Q
def YHB(K:W.Frag):Sp:=λvs H Q E_=>YFn K vs H Q
theorem Jd:YJ [bX,eK,cS,fg,"_law_rules",bP,dL] [bX,eK,cS,fg]<|YG YBI:=eQ
theorem YGJ(T:Txt K mg C)(bR:ZK P w K mg bZ 1 "_law_parts" [ce,eJ,fe]<|YH1)(aU:ZK P w K mg bZ 2 "_law_mixed" [bX,bP]<|YH0 K)(bT:ZK P w K mg bZ 1 "_law_worth" [ce]<|YFl)(aA:ZK P w K mg bZ 1 eI [bX,bP]<|BE K):Gd P w K mg bZ 3 "_law_heads" "_law_heads" YBI [bX,eK,cS,fg]<|YHB K:=by
 refine eT Jd λH Q E hr h=>?_;obtain⟨a,lh,ls,ns,hs,sg,calm,rfl,hS,wj,lV,jG,hls,QJ,pW,hp,q⟩:=h;have hU:=hr.units;refine gi ?_;refine⟨_,(YH (Cg 4 Jd<|YHV YHU)
  (YH ⟨(fP (Ze Z T.bH<|bB<|fL K T.aF<|S 1) (fz 5 Jd) (YE (c9 6 Jd<|eW bR hr YQ<|YI (eW aU hr YQ<|YI (S 0)<|bB<|YN ZD YC<|S 5)<|YI (S 2)<|bB YC)
  (YE (Yj (PW.pt<|ng (JI<|S 3)<|sw<|YT (YA0 K rfl hU) (S 6) (Y5 Yp)<|YU _) (YD<|c9 6 Jd<|Y5<|bB<|fB K (S 2)<|S 5) YR)
  (YD<|Ya<|fX K (S 4)<|Y5<|YI (fB K (S 1)<|S 5)<|YI (S 6)<|bB<|eW bT hr YQ<|bB<|eW aA hr YQ<|YI (S 0)<|bB<|YN ZD YC<|S 5))))⟩
  (ZI ⟨(YM<|S 4)⟩))),?_⟩
 refine⟨YK<|YOn _,λl hl=>?_⟩;dsimp only[Yh];have sl:=YF.upd (o:=.lst []) hl;refine⟨_,Z,lh,_,Z,.inl<|aX.of<|sl _ _ wj,_,Z,by lia,by rw[YOS];lia,?_⟩;rw[YOS,YQM];refine JG (lo:=0) (n:=hs.length) (λi σ H6=>sK λ(g:YV) (xs:J V) (v5 v6:ah V)=>BC (σ=[some<|.ref a,some<|.ref lh,some<|.ref ls,some<|.bl calm,some<|.ref l,v5,v6]) (H6 l=some (.lst xs)) (YX (del H6 l) xs<|g.map ZW) (g.length=i) (YF H H6) (YL H6)<|YH2 hs calm g) ⟨[],[],none,none,Z,YA,.nil,Z,sl,hp.upd Z,Z,λj r hr=>nomatch hr⟩ ?_ ?_;rintro i σ H6 hi ⟨g,xs,v5,v6,rfl,h6,hds,lU,s6,p6,hG⟩;have jw:xs.length=i:=by rw[hds.len,YOS,lU]
 rw[YPt];dsimp only[Yh];refine⟨_,Z,_,Z,_,_,Z,Z,a,ns,_,Z,s6.seq hS,by lia,by lia,λv a1 b1=>?_⟩;refine⟨_,Z,_,ls,sg,2,Z,s6 _ _ hls,by lia,by lia,by decide,by decide,p6,λt ps H7 hps hpm s7 p7 jR ht=>?_⟩;dsimp only[Yh];refine YB8 (t:=md _ _ _) (λσ' H8=>xN λ(t:al) (ps:J av)=>xZ (σ'=[some<|.ref a,some<|.ref lh,some<|.ref ls,some<|.bl calm,some<|.ref l,some<|nV i,some<|.ref t]) (H8 t=some (.tup<|ps.map V.str)) (H6 t=none) (YF H6 H8) (YL H8) (ps.length<=2) ((∀p∈ps,p∈sg))<|(calm=true->ps≠[])) ?_ λY1=>?_;rintro σ' H8 ⟨t,ps,rfl,ht,jR,s8,p8,hpl,hpm,zL⟩;have QK:=s6.trans s8;have hy1:f_ (hs.map V.str) (i:Int)=some (.str hs[i]):=Y2 (by rw[YOd,YOW hi];rfl);refine⟨_,Z,.inl ⟨Z,_,aX.of<|s8 _ _ h6⟩,_,Z,_,Z,lh,_,_,_,Z,Z,aX.of<|QK _ _ wj,hy1,_,Z,_,Z,_,Z,_,_,Z,Z,a,ns,_,Z,QK.seq hS,by lia,λv2=>⟨_,Z,λwz w0 w1=>⟨jS,λtt gD=>?_⟩⟩⟩;have t8:=YF.upd (o:=.tup [.str hs[i],.ref t,.int wz]) gD;have ntl:tt≠l:=λz=>by
  have:=s8 _ _ h6;rw[z,this]at gD;cases gD
 have ntt:t≠l:=λz=>by
  rw[z,h6]at jR;cases jR
 refine⟨l,xs,_,Z,Z,(s8.trans t8) _ _ h6,YO5 (show xs.length<1000 by lia)<|YK<|YOY _,?_⟩;refine⟨g++[(hs[i],ps,wz)],xs++[.ref tt],_,_,Z,YA,?_,by rw[YOU,lU];rfl,((s6.trans s8).trans t8).put hl,(p8.upd Z).upd Z,?_,λj r hr=>?_⟩;rw[YEj,YOk];refine(hds.same<|(s8.trans t8).del l).append<|.cons ?_ .nil;refine .tup (show del _ l tt=some _ from ?_)<|.cons (.str _)<|.cons (.tup (show del _ l t=some _ from ?_)<|YX.strs ps)<|.cons (.int _) .nil;rw[Zg ntl];exact YA;rw[Zg ntt];exact t8 _ _ ht;rw[YP7,hG.ok];show(true&&[((hs[i],ps,wz):Ju)].all Z9)=true;rw[YQA,YDi (r:=(hs[i],ps,wz)) (lV _<|YQC hi) (by show ps.length<=6;lia) (λp hp=>(pW p<|hpm p hp).1) w0 w1];rfl;by_cases hj:j<g.length;rw[YOr hj]at hr;exact hG.rl j r hr;rw[YOm (by lia)]at hr;have RJ:j=i:=by
  have:=(YOX.mp hr).1;simp only[YOx,List.length_nil]at this;lia
 subst RJ;rw[lU,YPh]at hr;cases hr;exact⟨YOW hi,λp hp=>(pW p<|hpm p hp).2,hpl,zL⟩;refine⟨_,Z,_,Z,?_⟩;cases calm with
 |false=>exact Yw<|Yw<|Y1 _ _ ⟨t,ps,Z,ht,jR,s7,p7,by lia,hpm,λz=>nomatch z⟩
 |true=>
  refine ZC ⟨_,Z,YK<|YOn _,λe he=>?_⟩;have u8:=YF.upd (o:=.tup []) he
  match ps,hps,hpm,ht with
  |[],_,hpm,ht=>
   refine⟨.tup [],.tup [],.tup (u8 _ _ ht) .nil,.tup YA .nil,Z,Z,by decide,_,Z,ZC ?_⟩;have hsi:i<sg.length:=by lia
   refine⟨_,Z,_,Z,ls,_,_,_,Z,Z,aX.of<|((s6.trans s7).trans u8) _ _ hls,Y2 (by rw[YOd,YOW hsi];rfl),mx,λt2 jA=>?_⟩;have u9:=YF.upd (o:=.tup [.str sg[i]]) jA;exact Y1 _ _ ⟨t2,[sg[i]],Z,YA,(s7.trans u8).free jA,(s7.trans u8).trans u9,(p7.upd Z).upd Z,(by show 1<=2;decide),λp hp=>by rw[YOT.mp hp];exact YQC hsi,λ_ z=>nomatch z⟩
  |x::ps',hps,hpm,ht=>
   have hok:(D.tup<|(x::ps').map D.str).ok=true:=yb λd hd=>by
    obtain⟨z,_,rfl⟩:=YOt.mp hd;rfl
   have hdp:(D.tup<|(x::ps').map D.str).dep<=64:=YO1 (oM (n:=0) λd hd=>by
    obtain⟨z,_,rfl⟩:=YOt.mp hd;exact YOY _) (by decide)
   refine⟨.tup<|(x::ps').map D.str,.tup [],.tup (u8 _ _ ht)<|YX.strs _,.tup YA .nil,hok,Z,hdp,_,Z,Yw<|Y1 _ _ ⟨t,x::ps',Z,u8 _ _ ht,jR,s7.trans u8,p7.upd rfl,by lia,hpm,λ_ z=>nomatch z⟩⟩
 rintro σ H6 ⟨g,xs,v5,v6,rfl,h6,hds,lU,s6,p6,hG⟩;exact⟨_,Z,q l xs g H6 hG lU hl h6 hds s6 p6⟩
abbrev YAJ:Stmt:=top 63
theorem YDO:(["_law_sign"]:J av).Nodup:=by decide+kernel
theorem YMU(xs:J V)(n:Nat)(h:n<=xs.length):ka xs none (some (n:Int))=xs.take n:=by
 unfold ka;have e2:HT.sIx xs.length xs.length (some (n:Int))=min n xs.length:=HT.sIx_nat _ _ n;rw[e2,Nat.min_eq_left h];rfl
theorem YJX(ss:J av)(lo hi:ah Int):∃zs:J av,ka (ss.map V.str) lo hi=zs.map V.str/\(∀z∈zs,z∈ss)/\zs.length<=ss.length:=by
 refine⟨(ss.drop<|HT.sIx (ss.map V.str).length 0 lo).take<|HT.sIx (ss.map V.str).length (ss.map V.str).length hi-HT.sIx (ss.map V.str).length 0 lo,?_,λz hz=>YP4<|YPp hz,?_⟩;unfold ka;rw[List.map_take,List.map_drop];rw[YPK,YPT];lia
theorem YHC:∀{xs:J V}{ds:J D},YX H xs ds->YX H xs.reverse ds.reverse
 |[],[],_=>.nil
 |[],_::_,h=>by unfold YX at h;exact h.elim
 |_::_,[],h=>by unfold YX at h;exact h.elim
 |x::xs,d::ds,h=>by
  unfold YX at h;rw[YPE,YPE];exact(YHC h.2).append<|.cons h.1 .nil
structure we(hs nm:List Str)(calm:Bool)(g g0 g1 gd:YV):Prop where
 ok:ZB g=true
 h1:1<=hs.length
 h3:hs.length<=3
 hn:∀z∈hs,z∈nm
 nn:∀z∈nm,cE z=true
 n4:nm.length=4
 hd:YH2 hs calm g0
 hl:g0.length=hs.length
 l1:1<=g1.length
 l3:g1.length<=3
 r1:∀r∈g1,r.1∈hs/\r.2.1.length<=3/\(∀p∈r.2.1,da p=false->p∈nm)/\(calm=true->2<=r.2.1.length)
 dd:gd=[]\/∃d∈nm,gd=[(d,[d],0)]
 el:∃Dv,(Dv=g0++g1\/Dv=(g0++g1).reverse)/\(gd=[]/\g=Dv\/∃r,gd=[r]/\g=Dv.take 1++r::Dv.drop 1)
inductive YHD(K:W.Frag)(vs:List V)(H:L)(Q:VK):Prop
 |mk (a:Addr)(ns:List Int):vs=[.ref a]->aX K H a (ns.map V.int)->ns.length<=63->YL H->(∀(l:Addr) (xs:List V) (hs nm:List Str) (calm:Bool) (g g0 g1 gd:YV) (H':L),we hs nm calm g g0 g1 gd->H l=none->H' l=some (.lst xs)->YX H' xs (g.map ZW)->YF H H'->YL H'->Q (.ref l) H')->YHD K vs H Q
def YJY(K:W.Frag):Sp:=λvs H Q E_=>YHD K vs H Q
theorem Yq:YJ [bX,eK,cS,"_law_way","_law_heads_here",fg,eJ,"_law_rules",bP,ce,dL] [bX]<|YG YAJ:=eQ
theorem YEg(T:Txt K mg C)(eF:ZK P w K mg bZ 1 "_law_names" [ce]<|YLf)(aU:ZK P w K mg bZ 2 "_law_mixed" [bX,bP]<|YH0 K)(eG:ZK P w K mg bZ 3 "_law_heads" [bX,eK,cS,fg]<|YHB K)(bR:ZK P w K mg bZ 1 "_law_parts" [ce,eJ,fe]<|YH1)(eO:ZK P w K mg bZ 1 "_law_signs" [ce]<|YLe)(bT:ZK P w K mg bZ 1 "_law_worth" [ce]<|YFl)(aA:ZK P w K mg bZ 1 eI [bX,bP]<|BE K):Gd P w K mg bZ 4 "_law_grammar" "_law_grammar" YAJ [bX]<|YJY K:=by
 refine eT Yq λH Q E hr h=>?_;obtain⟨a,ns,rfl,hS,hn,hp,q⟩:=h;have hU:=hr.units;refine gi ?_;refine⟨_,(YH ⟨(c9 1 Yq<|eW eF hr YQ<|bB<|eW aU hr YQ<|YI (S 0)<|bB YC)⟩
  (YH ⟨(YEk (N:=["_law_sign"]) (ρ:=[none]) (cl:=[]) (i:=2) Yq.nd Z rfl Z vx (ZH K rfl<|eW eO hr YQ<|bB<|eW aU hr YQ<|YI (S 0)<|bB YC) (λ_ _ _ _ _=>(Z8 (i:=0) YDO Z (Or.inl Z)<|.inr rfl)) (λ_ _ _ _ _=>J0)<|λ_ _ _ _ _=>(YN Jk Zf<|S 0))⟩
  (YH ⟨(c9 3 Yq<|eW aU hr YQ<|YI (S 0)<|bB YC)⟩
  (YH ⟨(c9 4 Yq<|Xx (CS K rfl) (S 1) xx<|xD<|YN ZD YC<|YN ZS (S 3) YC)⟩
  (YH ⟨(c9 5 Yq<|Jf tm (YN ZS (YN Zy (S 3) YC) YC) YC<|YU _)⟩
  (YH ⟨(c9 6 Yq<|YN BO (YN BO (YN BO (YN BO (S 4)<|Xx (CS K rfl) (S 2) xx<|xD YC)<|S 4)<|S 2)<|Xx (CS K rfl) (S 1) (xD YC) xx)⟩
  (YH ⟨(c9 7 Yq<|eW eG hr YQ<|Za (S 0)<|Za (S 4)<|Za (S 2)<|Za (S 5) Yp)⟩
  (YH ⟨(fP (Ze Z T.bH<|bB<|YN ZD YC<|YN ZS (YN Zy (S 3) YC) YC) (fz 8 Yq) (YE (c9 9 Yq<|eW aU hr YQ<|YI (S 0)<|bB<|YN ZD YC<|S 8)
  (YE (c9 10 Yq<|eW bR hr YQ<|YI (YN Zy (S 9) YC)<|YI (S 6)<|bB YC)
  (YE (Yj (PW.pt<|ng (JI<|S 5)<|sw<|YT kK (fL K T.aF<|S 10) YC<|YU _) (YD<|c9 10 Yq<|YN pS (S 10)<|Y5<|YI (fB K (S 4) YC)<|bB<|fB K (S 4)<|A4 AW YC) YR)
  (YD<|Ya<|fX K (S 7)<|Y5<|YI (fB K (S 4)<|YN ZS (YN ZS (S 9) YC)<|fL K T.aF<|S 4)<|YI (S 10)<|bB<|eW bT hr YQ<|bB<|eW aA hr YQ<|YI (S 0)<|bB<|YN ZD YC<|S 8)))))⟩
  (YH ⟨(Yj (YT Xm (YN ZS (YN Zy (S 3) YC) YC) YC<|YU _) (YD<|Ya<|vS K rfl YPG PySem.F.slot_list_reverse PySem.F.type_list_reverse YJm<|S 7) YR)⟩
  (YH ⟨(Yj (YT Xm (YN ZS (YN Zy (S 3) YC) YC) YC<|YU _) (YD<|Ya<|A3 K rfl YPG PySem.F.slot_list_insert PySem.F.type_list_insert YMM (S 7)<|YI YC<|bB<|Y5<|YI (fB K (S 1) YC)<|YI (Y5<|bB<|fB K (S 1) YC)<|bB YC) YR)⟩
  (ZI ⟨(YM<|S 7)⟩))))))))))),?_⟩
 refine fx λu eu=>?_;refine⟨_,Z,a,ns,0,Z,hS,by decide,by decide,λv0 a0 b0=>⟨_,Z,a0,by lia,hp,λln nm H1 n4 nN s1 p1 nH h1=>?_⟩⟩;show u _ _ _;subst eu;refine fx λu eu=>?_;refine⟨_,Z,a,ns,1,Z,s1.seq hS,by decide,by decide,λv1 _ _=>⟨_,Z,p1,λlg c1 c2 c3 H2 g1 g2 g3 s2 p2 vA h2=>⟨lg,Z,⟨_,aX.of h2⟩,λls hls=>?_⟩⟩⟩;refine XI (n:=3) 0 (λk y _=>∃z,y=.str z/\(Yn z=true/\da z=true)) (X0<|aX.of (K:=K) h2) (λ_ _ _ _ _ h=>h) p2 hls YPv (YK (by decide)) (λτ'=>0<τ'.length) YPv (λτ' v h=>by rw[YQH];exact h) ?_ ?_;intro τ' k y H' Dt _ hτ Dp hk hs hp' pq hR;obtain⟨c,hc,rfl⟩:∃c:Nat,good c=true/\y=.str ⟨#[c]⟩:=by
  have hm:=YOc Dp;simp only[YOj,YPo,or_false]at hm;rcases hm with rfl|rfl|rfl
  exact⟨c1,g1,Z⟩;exact⟨c2,g2,Z⟩;exact⟨c3,g3,Z⟩
 exact⟨_,hτ,"'",_,Z,Z,YK (by show 1+1<=1000;decide),hR _ _ (YF.refl _) hp' ⟨_,Z,YMC hc,YDj c⟩⟩;intro ys H3 hy hP s3 p3 h3;obtain⟨sg,rfl,pW⟩:=YCU hP;have QJ:sg.length=3:=by rw[YOS]at hy;exact hy
 have qM:=s2.trans s3;have QL:=qM _ _ h1;have zM:=s1.trans qM;show u _ _ _;subst eu;refine fx λu eu=>?_;refine⟨_,Z,a,ns,2,Z,zM.seq hS,by decide,by decide,λway wa wb=>?_⟩;obtain⟨hn',RK,vO,rZ⟩:∃n:Nat,1+way%3=(n:Int)/\1<=n/\n<=3:=⟨(1+way%3).toNat,by lia,by lia,by lia⟩;show u _ _ _;subst eu;refine fx λu eu=>?_;refine⟨_,Z,_,Z,_,_,Z,Z,(show(0:Int)<3 by decide),_,_,Z,Z,_,Z,ln,_,Z,aX.of QL,λlh wj=>?_⟩;have eh:ka (nm.map V.str) none (some<|1+way%3)=(nm.take hn').map V.str:=by rw[RK,YMU _ _ (by rw[YOS];lia),List.map_take]
 rw[eh];obtain⟨hs,ehs⟩:∃hs,nm.take hn'=hs:=⟨_,Z⟩;have hsl:hs.length=hn':=by rw[<-ehs,YPK];lia
 have lV:∀z∈hs,z∈nm:=λz hz=>by rw[<-ehs]at hz;exact YPp hz
 rw[ehs];have s4:=YF.upd (o:=.lst<|hs.map V.str) wj;have h4:upd H3 lh (.lst<|hs.map V.str) lh=some (.lst<|hs.map V.str):=YA;have p4:YL<|upd H3 lh<|.lst<|hs.map V.str:=p3.upd rfl;revert s4 h4 p4;generalize upd H3 lh (.lst<|hs.map V.str)=H4;intro s4 h4 p4;have hS4:=(zM.trans s4).seq hS;have um:=s4 _ _ QL;have rE:=s4 _ _ h3;show u _ _ _;subst eu;refine fx λu eu=>?_;refine⟨_,Z,_,_,Z,Z,⟨by decide,by decide⟩,_,_,Z,Z,(show(0:Int)<3 by decide),_,_,Z,Z,?_⟩;generalize decide ((0:Int)<way / 36%3)=calm;show u _ _ _;subst eu;refine fx λu eu=>?_;refine⟨_,Z,_,Z,2,Z,ls,_,Z,aX.of rE,λq1 hq1=>?_⟩;obtain⟨z1,RL,RM,lz1⟩:=YJX sg none<|some 2;rw[RL];have t1:=YF.upd (o:=.lst<|z1.map V.str) hq1;refine⟨lh,q1,_,_,Z,Z,t1 _ _ h4,YA,YK (by rw[YOS,YOS];lia),λq2 QM=>?_⟩;rw[<-YOk];have t2:=t1.trans<|YF.upd (o:=.lst<|(hs++z1).map V.str) QM;refine⟨_,Z,q2,lh,_,_,Z,Z,YA,t2 _ _ h4,YK (by simp only[YOS,YOU];lia),λq3 QR=>?_⟩;rw[<-YOk];have t3:=t2.trans<|YF.upd (o:=.lst<|(hs++z1++hs).map V.str) QR;refine⟨_,Z,q3,ls,_,_,Z,Z,YA,t3 _ _ rE,YK (by simp only[YOS,YOU];lia),λq4 QT=>?_⟩;rw[<-YOk];have t4:=t3.trans<|YF.upd (o:=.lst<|(hs++z1++hs++sg).map V.str) QT;have w4:∀{Hx:L},upd Hx q4 (.lst<|(hs++z1++hs++sg).map V.str) q4=some (.lst<|(hs++z1++hs++sg).map V.str):=YA;refine⟨_,Z,3,Z,ln,_,Z,aX.of<|t4 _ _ um,λq5 QV=>?_⟩;obtain⟨z5,RN,QW,lz5⟩:=YJX nm (some 3) none;rw[RN];have u5:=YF.upd (o:=.lst<|z5.map V.str) QV;have t5:=t4.trans u5;refine⟨q4,q5,_,_,Z,Z,u5 _ _ w4,YA,YK (by simp only[YOS,YOU];lia),λlm QX=>?_⟩;rw[<-YOk];obtain⟨menu,hmn⟩:∃M,hs++z1++hs++sg++z5=M:=⟨_,Z⟩;have hm0:∀p∈menu,Yn p=true/\(da p=false->p∈nm):=λp hp=>by
  rw[<-hmn]at hp;rcases YOf.mp hp with hp|hp
  rcases YOf.mp hp with hp|hp
  rcases YOf.mp hp with hp|hp
  rcases YOf.mp hp with hp|hp
  exact⟨BA<|nN p<|lV p hp,λ_=>lV p hp⟩;have:=pW p<|RM p hp;exact⟨this.1,λh=>by rw[this.2]at h;cases h⟩;exact⟨BA<|nN p<|lV p hp,λ_=>lV p hp⟩;have:=pW p hp;exact⟨this.1,λh=>by rw[this.2]at h;cases h⟩;exact⟨BA<|nN p<|QW p hp,λ_=>QW p hp⟩
 have jz:1<=menu.length/\menu.length<=100:=by
  rw[<-hmn];simp only[YOU];lia
 rw[hmn];have s5:=t5.trans<|YF.upd (o:=.lst<|menu.map V.str) QX;have m5:∀{Hx:L},upd Hx lm (.lst<|menu.map V.str) lm=some (.lst<|menu.map V.str):=YA;obtain⟨H5,e5⟩:∃H5,upd (upd (upd (upd (upd (upd H4 q1<|.lst<|z1.map V.str) q2<|.lst<|(hs++z1).map V.str) q3<|.lst<|(hs++z1++hs).map V.str) q4<|.lst<|(hs++z1++hs++sg).map V.str) q5<|.lst<|z5.map V.str) lm (.lst<|menu.map V.str)=H5:=⟨_,Z⟩;have p5:YL H5:=by rw[<-e5];exact(((((p4.upd Z).upd Z).upd Z).upd Z).upd Z).upd Z
 rw[e5]at s5;have RP:H5 lm=some (.lst<|menu.map V.str):=by rw[<-e5];exact m5
 rw[e5];have hS5:=s5.seq hS4;have yc:=s5 _ _ rE;have rF:=s5 _ _ h4;have jU:=(zM.trans s4).trans s5;clear t1 t2 t3 t4 u5 t5 m5 w4 e5 QX QV QT QR QM hq1;dsimp only[Yh];show u _ _ _;subst eu;refine fx λu eu=>?_;refine⟨_,Z,_,Z,_,Z,_,Z,a,lh,ls,ns,hs,sg,calm,Z,hS5,rF,λz hz=>nN z<|lV z hz,by lia,yc,QJ,pW,p5,λl xs g0 H6 hG lU hl h6 hds s6 p6=>?_⟩;have hS6:=s6.seq hS5;have nC:=jU.trans s6;have hne:0<hs.length:=by lia
 have e0:hs[0]?=some hs[0]:=YOW hne;obtain⟨hf,ehf⟩:∃hf,hs[0]=hf:=⟨_,Z⟩;rw[ehf]at e0;have hfm:hf∈hs:=YOc e0;obtain⟨yD,hz,ehz⟩:∃yD hz,hs=yD++[hz]:=⟨hs.dropLast,hs.getLast (λz=>by rw[z]at hne;cases hne),(List.dropLast_concat_getLast _).symm⟩;have RQ:hz∈hs:=by rw[ehz];simp
 have a0:f_ (hs.map V.str) 0=some (.str hf):=Y2 (j:=0) (by rw[YOd,e0];rfl);have am:f_ (hs.map V.str) (-1)=some (.str hz):=by rw[ehz,YOk];exact YCr _ _
 obtain⟨N,hN,N1,N3⟩:∃N:Int,1+way / 3%3=N/\1<=N/\N<=3:=⟨_,Z,by lia,by lia⟩;show u _ _ _;subst eu;refine fx λu eu=>?_;refine⟨_,Z,_,_,Z,Z,⟨by decide,by decide⟩,_,_,Z,Z,(show(0:Int)<3 by decide),_,_,Z,Z,N,by rw[<-hN],(js (by lia) (by lia)).1,(js (by lia) (by lia)).2,?_⟩;refine JG (lo:=0) (n:=N.toNat) (λi σ H7=>Ex5 λ(g1:YV) (k_:J V) (v8 v9 gO:ah V)=>xZ (σ=[some<|.ref a,some<|.ref ln,some<|.ref ls,some<|.int way,some<|.ref lh,some<|.bl calm,some<|.ref lm,some<|.ref l,v8,v9,gO]) (H7 l=some (.lst k_)) (YX (del H7 l) k_<|(g0++g1).map ZW) (g1.length=i) (g1.all Z9=true) (YF H5 H7) (YL H7) (∀r∈g1,r.1∈hs/\r.2.1.length<=3/\(∀p∈r.2.1,da p=false->p∈nm)/\(calm=true->2<=r.2.1.length)))
  ⟨[],xs,_,_,_,Z,h6,by rw[YO6];exact hds,Z,Z,s6,p6,λr hr=>nomatch hr⟩ ?_ ?_
 rintro i σ H7 hi ⟨g1,k_,v8,v9,gO,rfl,h7,mJ,mK,pJ,s7,p7,wu⟩;have jw:k_.length=hs.length+i:=by rw[mJ.len,YOS,YOU,lU,mK]
 have hNi:i<3:=by lia
 rw[YPt];refine fx λu eu=>?_;refine⟨_,Z,_,Z,_,_,Z,Z,a,ns,_,Z,s7.seq hS5,by lia,by lia,λv a1 b1=>?_⟩;show u _ _ _;subst eu;refine fx λu eu=>?_;refine⟨_,Z,_,_,Z,Z,⟨by decide,by decide⟩,_,Z,v / 3,lm,menu,3,Z,s7 _ _ RP,jz.1,jz.2,by decide,by decide,p7,λt ps H8 hps hpm s8 p8 jR ht=>?_⟩;dsimp only[Yh];show u _ _ _;subst eu;refine fx λu eu=>?_;refine YB8 (t:=md _ _ _) (λσ' H8=>xN λ(t:al) (ps:J av)=>BC (σ'=[some<|.ref a,some<|.ref ln,some<|.ref ls,some<|.int way,some<|.ref lh,some<|.bl calm,some<|.ref lm,some<|.ref l,some<|nV i,some<|.int v,some<|.ref t]) (H8 t=some (.tup<|ps.map V.str)) (YF H7 H8) (YL H8) (ps.length<=3) ((∀p∈ps,Yn p=true/\(da p=false->p∈nm)))<|(calm=true->2<=ps.length)) ?_ λY1=>?_;rintro σ' H8 ⟨t,ps,rfl,ht,s8,p8,hpl,hpm,zL⟩;obtain⟨y,hy1,hm1⟩:=XZ (xs:=hs.map V.str) (i:=v%3%((hs.map V.str).length:Nat)) (YPl _ (by rw[YOS];lia))<|YPf _ (by rw[YOS];lia);obtain⟨hd,QZ,rfl⟩:=YOt.mp hm1;have Q0:aX K H8 lh<|hs.map V.str:=aX.of<|(s7.trans s8) _ _ rF;show u _ _ _;subst eu;refine⟨_,Z,.inl ⟨Z,_,aX.of<|s8 _ _ h7⟩,_,Z,_,Z,_,_,Z,Z,(show(0:Int)<3 by decide),_,Z,lh,_,Z,.inl Q0,_,_,Z,Z,(by rw[YOS];show(0:Int)<_;lia),lh,_,_,_,Z,Z,Q0,hy1,?_⟩;refine⟨_,Z,_,Z,_,Z,_,_,Z,Z,a,ns,_,Z,(s7.trans s8).seq hS5,by lia,λv2=>⟨_,Z,λwz w0 w1=>⟨jS,λtt gD=>?_⟩⟩⟩;have t8:=YF.upd (o:=.tup [.str hd,.ref t,.int wz]) gD;have ntl:tt≠l:=λz=>by
  have:=s8 _ _ h7;rw[z,this]at gD;cases gD
 have ntt:t≠l:=Yg ht (s8 _ _ h7) nofun;refine⟨l,k_,_,Z,Z,(s8.trans t8) _ _ h7,YO5 (show k_.length<1000 by lia)<|YK<|YOY _,?_⟩;refine⟨g1++[(hd,ps,wz)],k_++[.ref tt],_,_,_,Z,YA,?_,by rw[YOU,mK];rfl,?_,((s7.trans s8).trans t8).put hl,(p8.upd Z).upd Z,λr hr=>?_⟩;rw[YEj,<-YOw,YOk];refine(mJ.same<|(s8.trans t8).del l).append<|.cons ?_ .nil;refine .tup (show del _ l tt=some _ from ?_)<|.cons (.str _)<|.cons (.tup (show del _ l t=some _ from ?_)<|YX.strs ps)<|.cons (.int _) .nil;rw[Zg ntl];exact YA;rw[Zg ntt];exact t8 _ _ ht;rw[YP7,pJ];show(true&&[((hd,ps,wz):Ju)].all Z9)=true;rw[YQA,YDi (r:=(hd,ps,wz)) (nN _<|lV _ QZ) (by show ps.length<=6;lia) (λp hp=>(hpm p hp).1) w0 w1];rfl;rcases YOf.mp hr with hr|hr
 exact wu r hr;rw[YOT.mp hr];exact⟨QZ,hpl,λp hp h=>(hpm p hp).2 h,zL⟩;have hpl:ps.length<=3:=by lia
 refine⟨_,Z,_,Z,?_⟩;cases calm with
 |false=>exact Yw<|Yw<|Y1 _ _ ⟨t,ps,Z,ht,s8,p8,hpl,λp hp=>hm0 p<|hpm p hp,λz=>nomatch z⟩
 |true=>
  refine ZC ⟨_,Z,t,_,Z,.inr<|cy.of ht,_,_,Z,Z,_,Z,gu (λDm=>?_) λhge=>?_⟩;have hlt':ps.length<2:=by
   have:=fF Dm;rw[YOS]at this;lia
  have sqh:aX K H8 lh<|hs.map V.str:=aX.of<|(s7.trans s8) _ _ rF;refine⟨_,Z,_,Z,lh,_,0,_,Z,Z,sqh,a0,_,Z,1,Z,lh,_,_,_,Z,Z,sqh,am,lp,λt1 eU=>?_⟩;have u1:=YF.upd (o:=.tup [.str hf,.str hz]) eU;refine⟨t,t1,_,_,Z,Z,u1 _ _ ht,YA,YK (by rw[YOS];show ps.length+2<=1000;lia),λp9 H9 s9 RT _ h9=>Y1 _ _ ⟨p9,ps++[hf,hz],Z,by rw[YOk];exact h9,(s8.trans u1).trans s9,RT<|p8.upd rfl,by rw[YOU];show ps.length+2<=3;lia,λp hp=>?_,λ_=>by rw[YOU];show 2<=ps.length+2;lia⟩⟩;rcases YOf.mp hp with hp|hp
  exact hm0 p<|hpm p hp;have:p∈hs:=by
   rcases YOj.mp hp with rfl|hp
   exact hfm;rw[YOT.mp hp];exact RQ
  exact⟨BA<|nN _<|lV _ this,λ_=>lV _ this⟩;have hge':2<=ps.length:=Decidable.byContradiction λz=>hge<|de (by rw[YOS];lia);show u _ _ _;subst eu;exact Y1 _ _ ⟨t,ps,Z,ht,s8,p8,hpl,λp hp=>hm0 p<|hpm p hp,λ_=>hge'⟩
 rintro σ H7 ⟨g1,k_,v8,v9,gO,rfl,h7,mJ,mK,pJ,s7,p7,wu⟩;have hB0:∀Dv:YV,(Dv=g0++g1\/Dv=(g0++g1).reverse)->Dv.length=hs.length+N.toNat/\Dv.all Z9=true:=λDv hB=>by
  rcases hB with rfl|rfl
  exact⟨by rw[YOU,lU,mK],by rw[YP7,hG.ok,pJ];rfl⟩;exact⟨by rw[YPB,YOU,lU,mK],by rw[List.all_reverse,YP7,hG.ok,pJ];rfl⟩
 have eT:∀Dv:YV,Dv.length<=60->Dv.all Z9=true->ZB Dv=true:=λDv h1 h2=>by
  unfold ZB;rw[h2,Bool.and_true];exact de h1
 dsimp only;show u _ _ _;subst eu;refine fx λu eu=>?_;refine YB8 (t:=md _ _ _) (λσ' H9=>xN λ(Dv:YV) (qO:J V)=>AC (σ'=[some<|.ref a,some<|.ref ln,some<|.ref ls,some<|.int way,some<|.ref lh,some<|.bl calm,some<|.ref lm,some<|.ref l,v8,v9,gO]) (H9 l=some (.lst qO)) (YX (del H9 l) qO<|Dv.map ZW) ((Dv=g0++g1\/Dv=(g0++g1).reverse)) (YF H5 H9)<|YL H9) ?_ λY1=>?_;rintro σ' H9 ⟨Dv,qO,rfl,h9,iR,hB,s9,p9⟩;obtain⟨hBl,hBo⟩:=hB0 Dv hB;show u _ _ _;subst eu;refine⟨_,Z,_,_,Z,Z,⟨by decide,by decide⟩,_,_,Z,Z,(show(0:Int)<2 by decide),Z,_,Z,gu (λ_=>?_) λ_=>?_⟩;have nR:nm[3]?=some nm[3]:=YOW (by lia);obtain⟨d,ed⟩:∃d,nm[3]=d:=⟨_,Z⟩;rw[ed]at nR;have zN:d∈nm:=YOc nR;have a3:f_ (nm.map V.str) 3=some (.str d):=Y2 (j:=3) (by rw[YOd,nR];rfl);have jd:H9 ln=some (.lst<|nm.map V.str):=s9 _ _<|s5 _ _ um;refine⟨_,Z,.inl ⟨Z,_,aX.of h9⟩,_,Z,ln,_,3,_,Z,Z,aX.of jd,a3,_,Z,ln,_,3,_,Z,Z,aX.of jd,a3,mx,λt1 eU=>⟨jS,λt2 jA=>?_⟩⟩;have u1:=YF.upd (o:=.tup [.str d]) eU;have u2:=YF.upd (o:=.tup [.str d,.ref t1,.int 0]) jA;have zO:=u1.trans u2;have n1:t1≠l:=λz=>by rw[z,h9]at eU;cases eU
 have n2:t2≠l:=λz=>by rw[z,u1 _ _ h9]at jA;cases jA
 have yd:qO.length=Dv.length:=by rw[iR.len,YOS]
 refine⟨l,qO,1,_,Z,Z,zO _ _ h9,by lia,by decide,YO5 (show qO.length<1000 by lia)<|YK<|YOY _,_,Z,q l _ hs nm calm (Dv.take 1++(d,[d],0)::Dv.drop 1) g0 g1 [(d,[d],0)] _ ?_ (jU.free hl) YA ?_ ((jU.trans<|s9.trans zO).put<|jU.free hl) (((p9.upd rfl).upd rfl).upd rfl)⟩;have hok:Z9 (d,[d],0)=true:=YDi (r:=(d,[d],0)) (nN _ zN) (by show 1<=6;decide) (λp hp=>by cases YOT.mp hp;exact BA<|nN _ zN) (show(0:Int)<=0 by decide) (show(0:Int)<=10^60 by decide);have hall:(Dv.take 1++(d,[d],(0:Int))::Dv.drop 1).all Z9=true:=YO8.mpr λr hr=>by
  rcases YOf.mp hr with hr|hr
  exact YO8.mp hBo r<|YPp hr;rcases YOj.mp hr with rfl|hr
  exact hok;exact YO8.mp hBo r<|YP4 hr
 exact⟨eT _ (by rw[YOU,YOx,YPK,YPT];lia) hall,by lia,by lia,lV,nN,n4,hG,lU,by lia,by lia,wu,.inr ⟨d,zN,Z⟩,Dv,hB,.inr ⟨_,Z,Z⟩⟩
 match qO,Dv,iR,yd,hBl with
 |x::xr,b::Br,iR,_,_=>
  unfold YX at iR;have sm:YF (del H9 l)<|upd (upd (upd H9 t1<|.tup [.str d]) t2<|.tup [.str d,.ref t1,.int 0]) l<|.lst<|([x]:J V)++.ref t2::xr:=(λb o e=>by
   by_cases hb:b=l;rw[hb,Xz]at e;cases e;rw[Zg hb]at e;rw[YB hb];exact zO _ _ e)
  exact .cons (iR.1.same sm)<|.cons (.tup (show upd _ l _ t2=some _ by rw[YB n2];exact YA)<|.cons (.str _)<|.cons (.tup (show upd _ l _ t1=some _ by rw[YB n1];exact u2 _ _ YA)<|.cons (.str _) .nil)<|.cons (.int _) .nil)<|iR.2.same sm
 |[],Dv,iR,h1,h2=>simp only[List.length_nil]at h1;lia
 |x::xr,[],iR,h1,h2=>cases h1
 exact⟨_,Z,q l qO hs nm calm Dv g0 g1 [] H9 ⟨eT _ (by lia) hBo,by lia,by lia,lV,nN,n4,hG,lU,by lia,by lia,wu,.inl Z,Dv,hB,.inl ⟨Z,Z⟩⟩ (jU.free hl) h9 (iR.same<|Cm _ _) (jU.trans s9) p9⟩;refine⟨_,Z,_,_,Z,Z,⟨by decide,by decide⟩,_,_,Z,Z,(show(0:Int)<2 by decide),Z,_,Z,gu (λ_=>?_) λ_=>?_⟩;refine⟨_,Z,.inl ⟨Z,_,aX.of h7⟩,l,k_,Z,Z,h7,Y1 _ _ ⟨(g0++g1).reverse,k_.reverse,Z,YA,?_,.inr Z,s7.put hl,p7.upd Z⟩⟩;rw[YEj,List.map_reverse];exact YHC mJ;show u _ _ _;subst eu;exact Y1 _ _ ⟨g0++g1,k_,Z,h7,mJ,.inl Z,s7,p7⟩
abbrev YAj:Stmt:=top 64
abbrev YAa:Stmt:=top 65
abbrev YBy:Stmt:=top 66
abbrev YBJ:Stmt:=top 67
abbrev YBz:Stmt:=top 68
theorem Jp:([c6]:J av).Nodup:=by decide+kernel
theorem Je:([c6,cx]:J av).Nodup:=by decide+kernel
theorem YEp(bs:J av):eS (.lst<|bs.map D.str) (.lst [])=decide (bs=[]):=by
 cases bs with
 |nil=>rfl
 |cons b bs=>rfl
theorem YJZ(h:¬z∈s.map (·.1)):sM s z n=s++[(z,n)]:=by
 induction s with
 |nil=>rfl
 |cons p s ih=>
  rw[YOv,YOj,not_or]at h;unfold sM;rw[if_neg<|λe=>h.1 e.symm,ih h.2];rfl
structure Cc(g:YV)(e:Sz):Prop where
 nd:(e.map (·.1)).Nodup
 at_:∀z v,look e z=some v->∃(k:Nat) (r:Ju),v=(k:Int)/\g[k]?=some r/\r.1=z/\(∀p∈r.2.1,da p=true)/\r.2.1.length<=2
inductive YHE(vs:List V)(H:L)(Q:VK):Prop
 |mk (l:Addr)(xs:List V)(g:YV):vs=[.ref l]->H l=some (.lst xs)->YX H xs (g.map ZW)->ZB g=true->YL H->(∀d e H',Cc g e->(∀r∈g,(∀p∈r.2.1,da p=true)->r.2.1.length<=2->r.1∈e.map (·.1))->YF H H'->YL H'->H d=none->H' d=some (.dK (gg e))->Q (.ref d) H')->YHE vs H Q
def YJa:Sp:=λvs H Q E_=>YHE vs H Q
inductive YLg(vs:List V)(H:L)(Q:VK):Prop
 |mk (l d:Addr)(xs:List V)(g:YV)(e:Sz)(z:Str):vs=[.ref l,.ref d,.str z]->H l=some (.lst xs)->YX H xs (g.map ZW)->ZB g=true->H d=some (.dK (gg e))->YL H->(∀o H',YF H H'->YL H'->H o=none->H' o=some (.lst ((k9 g e z g.length).map nV))->Q (.ref o) H')->YLg vs H Q
def YOG:Sp:=λvs H Q E_=>YLg vs H Q
def ZG(ps:J av):Nat:=(ps.map λp=>if da p=true then 1 else 2).sum
inductive YLh(vs:List V)(H:L)(Q:VK):Prop
 |mk (p:Addr)(ps:List Str):vs=[.ref p]->(H p=some (.lst (ps.map V.str))\/H p=some (.tup (ps.map V.str)))->(∀x∈ps,Yn x=true)->ps.length<=1000->YL H->(∀H',YF H H'->YL H'->Q (.int (ZG ps:Nat)) H')->YLh vs H Q
def YOH:Sp:=λvs H Q E_=>YLh vs H Q
theorem YFo:∀ps:J av,(ps.map λp=>if da p=true then (1:Int) else 2).sum=(ZG ps:Int)
 |[]=>rfl
 |p::ps=>by
  unfold ZG;rw[YOv,YOv,List.sum_cons,List.sum_cons,YFo ps];unfold ZG;split <;> lia
theorem YHF{Dq:It}{H:L}{lb:al}{ps:J av}{v:ah V}{Q:VK}(hJ:YJt Dq ps.length H λi x _=>(ps.map V.str)[i]?=some x)(hps:∀x∈ps,Yn x=true)(h6:ps.length<=1000)(pl:YL H)(hlb:H lb=none)
  (hq:∀H',YF H H'->YL H'->H' lb=some (.lst<|(ps.map λp=>if da p=true then (1:Int) else 2).map V.int)->Q (.ref lb) H'):
  pj Dq (Yh 0) lS (kH (o7 λi j=>.int<|i+j) (tC<|.int 1)<|tCB (λxs H Q=>(∃i,xs=[V.int i]/\Q (V.int i) H)\/∃k,xs=[V.bl k]/\Q (V.int (if k=true then 1 else 0)) H)<|mn (kH rNe (kH z0 (ml 0)<|tC<|.int 0)<|tC<|.str "'") lj) Q lb [v] H:=by
 refine YEl ps (λx=>some<|.int (if da x=true then 1 else 2)) hJ pl hlb (YK h6) (λτ'=>∃v,τ'=[v]) ⟨_,Z⟩ ?_ ?_;rintro τ' k x y H' Q1 Q2 ⟨v,rfl⟩ U Dp hs hp' hQ1 hQ2;rw[YOd,U]at Dp;cases Dp;obtain⟨c,hc,hlen,jD⟩:=X6<|hps x<|YOc U;refine⟨_,Z,x,0,c,Z,Z,YK (by lia),hc,Z,.inr ⟨_,Z,_,_,Z,Z,?_⟩⟩;rw[jD];refine hQ1 _ _ _ ⟨_,Z⟩ (YF.refl _) hp' ?_;cases da x <;> rfl
 intro H3 s3 p3 h3;refine hq H3 s3 p3 ?_;rw[h3,YPa,<-YQI];rfl
def AY(e:Sz)(ps:J av):J av:=ps.filter λx=>!da x&&(look e x).isNone
theorem YJb{K:W.Frag}{H:L}{p d lb:al}{ps:J av}{e:Sz}{v:ah V}{Q:VK}(qm:H p=some (.tup<|ps.map V.str))(hps:∀x∈ps,Yn x=true)(h6:ps.length<=6)(hd:H d=some (.dK<|gg e))(pl:YL H)(hlb:H lb=none)
  (hq:∀H',YF H H'->YL H'->H' lb=some (.lst<|(AY e ps).map V.str)->Q (.ref lb) H'):
  pj (xq K p) (Yh 0) (Ci (l8<|kH rNe (kH z0 (ml 0)<|tC<|.int 0)<|tC<|.str "'")<|tB<|YKh (ml 0)<|ml 1) (ml 0) Q lb [v,some<|.ref d] H:=by
 have hJ:=(YB2<|cy.of (K:=K) qm).g;rw[YOS]at hJ;refine YEl ps (λx=>if da x=true then none else if (look e x).isSome=true then none else some<|.str x) hJ pl hlb (YK<|YO1 h6 (by decide)) (λτ'=>∃v,τ'=[v,some<|.ref d]) ⟨_,Z⟩ ?_ ?_;rintro τ' k x y H' Q1 Q2 ⟨v,rfl⟩ U Dp hs hp' hQ1 hQ2;rw[YOd,U]at Dp;cases Dp;obtain⟨c,hc,hlen,jD⟩:=X6<|hps x<|YOc U;refine⟨_,Z,x,0,c,Z,Z,YK (by lia),hc,Z,_,Z,?_⟩;rw[jD];by_cases hq:da x=true;rw[hq];exact hQ2 _ _ ⟨_,Z⟩ (YF.refl _) hp' (by rw[if_pos hq]);have hq':da x=false:=YPu.mpr hq;rw[hq'];have ev:(Ye (gg e)<|Sum.inr x).isSome=(look e x).isSome:=by rw[YC3,YPi]
 refine⟨_,Z,_,Z,d,_,Z,Xd.k (k:=Sum.inr x)<|hs _ _ hd,_,Z,?_⟩;rw[ev];cases hlk:look e x with
 |some v=>exact hQ2 _ _ ⟨_,Z⟩ (YF.refl _) hp' (by rw[if_neg hq,hlk];rfl)
 |none=>exact⟨_,Z,hQ1 _ _ _ ⟨_,Z⟩ (YF.refl _) hp' (by rw[if_neg hq,hlk];rfl)⟩
 intro H3 s3 p3 h3;refine hq H3 s3 p3 ?_;rw[h3];unfold AY;rw[<-YQI,List.filterMap_filter];refine fZ (λf=>some<|HO.lst<|List.filterMap f ps)<|funext λx=>?_;cases da x <;> cases look e x <;> rfl
theorem YMV(hr:g[i]?=some r):xb g e z i=(decide (r.1=z)&&decide (AY e r.2.1=[])):=by
 unfold xb;rw[hr];show(decide (r.1=z)&&_)=_;congr 1;rw[YPU,fQ,YO8];unfold AY;rw[List.filter_eq_nil_iff];constructor;intro h p hp;have:=h p hp;cases hq:da p <;> cases hl:look e p <;> simp[hq,hl]at this ⊢
 intro h p hp;have:=h p hp;cases hq:da p <;> cases hl:look e p <;> simp[hq,hl]at this ⊢
theorem YCl(g:YV)(e:Sz)(z:av)(i:Nat):k9 g e z (i+1)=k9 g e z i++(if xb g e z i=true then [i] else []):=by
 unfold k9;rw[List.range_succ,List.filter_append];congr 1;by_cases hb:xb g e z i=true;rw[if_pos hb,YPP,if_pos hb];rfl;rw[if_neg hb,YPP,if_neg hb];rfl
theorem YOI(h:XB g [] ks sg):ks=[]/\sg=[]:=by
 cases h;exact⟨Z,Z⟩
theorem YMW(hq:da p=true)(h:XB g (p::ws) ks sg):∃lK,sg=h_ p::lK/\XB g ws ks lK:=by
 generalize hz:p::ws=zs at h;cases h with
 |nil=>cases hz
 |sign hq' h=>cases hz;exact⟨_,Z,h⟩
 |name hq' er h=>cases hz;rw[hq]at hq';cases hq'
theorem YMX(hq:da p=false)(h:XB g (p::ws) ks sg):∃k ks' r,ks=k::ks'/\g[k]?=some r/\r.1=p/\XB g (r.2.1++ws) ks' sg:=by
 generalize hz:p::ws=zs at h;cases h with
 |nil=>cases hz
 |sign hq' h=>cases hz;rw[hq]at hq';cases hq'
 |@name r ws' k ks' sg hq' er h=>cases hz;exact⟨k,ks',r,Z,er,Z,h⟩
theorem YOJ(s:J Nat)(c:Nat):(⟨s.toArray⟩:av)++⟨#[c]⟩=⟨(s++[c]).toArray⟩:=by
 have h:=CZ ⟨s.toArray⟩ ⟨#[c]⟩;cases hj:(⟨s.toArray⟩:av)++⟨#[c]⟩;congr 1;apply Array.toList_inj.mp;rw[hj]at h;rw[h]
theorem Xv(a b:J av):ZG (a++b)=ZG a+ZG b:=by
 unfold ZG;rw[YOk,List.sum_append]
theorem YHG(a:J av):ZG a.reverse=ZG a:=by
 unfold ZG;rw[List.map_reverse,List.sum_reverse]
theorem YBK(h:da p=true):ZG [p]=1:=by
 unfold ZG;rw[YOv,if_pos h];rfl
theorem YBL(h:da p=false):ZG [p]=2:=by
 unfold ZG;rw[YOv,if_neg (by rw[h];decide)];rfl
theorem YKX:∀a:J av,(fW a).length<=ZG a
 |[]=>YOY _
 |p::a=>by
  have ih:=YKX a;have e:ZG (p::a)=ZG [p]+ZG a:=Xv [p] a;unfold fW at ih ⊢;rw[e,YPP];cases hq:da p with
  |true=>rw[YBK hq];simp only[Bool.not_true,Bool.false_eq_true,if_false];lia
  |false=>rw[YBL hq];simp only[Bool.not_false,if_true,YOx];lia
theorem YFp:∀a:J av,a.length<=ZG a
 |[]=>YOY _
 |p::a=>by
  have ih:=YFp a;have e:ZG (p::a)=ZG [p]+ZG a:=Xv [p] a;rw[e,YOx];cases hq:da p with
  |true=>rw[YBK hq];lia
  |false=>rw[YBL hq];lia
theorem YFq:∀{a:J av},(∀p∈a,da p=true)->ZG a=a.length/\fW a=[]
 |[],_=>⟨Z,Z⟩
 |p::a,h=>by
  obtain⟨i1,i2⟩:=YFq (a:=a) λq hq=>h q<|YOV _ hq;have hp:=h p<|YOZ ..;have e:ZG (p::a)=ZG [p]+ZG a:=Xv [p] a;refine⟨by rw[e,YBK hp,i1,YOx];lia,?_⟩;unfold fW at i2 ⊢;rw[YPP,hp];exact i2
theorem YJc(a b:J av):fW (a++b)=fW a++fW b:=by
 unfold fW;rw[List.filter_append]
theorem YJd(h:da p=false):(fW [p]).length=1:=by
 unfold fW;rw[YPP,h];rfl
theorem pf(a:J av):(fW a.reverse).length=(fW a).length:=by
 unfold fW;rw[List.filter_reverse,YPB]
theorem YOK{H:L}{d:al}{s:Sz}{z:av}{v:Int}(hd:H d=some (.dK<|gg s))(h:look s z=some v):Xd H d (.str z)<|some<|.int v:=by
 have:=Xd.k (k:=Sum.inr z) hd;rw[YC3,h]at this;exact this
inductive YLi(vs:List V)(H:L)(Q:VK):Prop
 |mk (l o:Addr)(xs:List V)(r0:Ju)(Y1:List Ju)(ks sg:List Nat):vs=[.ref l,.ref o]->H l=some (.lst xs)->YX H xs ((r0::Y1).map ZW)->ZB (r0::Y1)=true->H o=some (.lst (ks.map nV))->XB (r0::Y1) [r0.1] ks sg->ks.length<=2000000->YL H->(∀H',YF H H'->YL H'->Q (.str ⟨sg.toArray⟩) H')->YLi vs H Q
def YKY:Sp:=λvs H Q E_=>YLi vs H Q
theorem XA:YJ [ca,cx,bP,eK] [ca]<|YG YAj:=eQ
theorem YFr(T:Txt K mg C):Gd P w K mg bZ 1 "_law_shorts" "_law_shorts" YAj [ca]<|YJa:=by
 refine eT XA λH Q E hr h=>?_;obtain⟨l,xs,g,rfl,hl,hds,hg,hp,q⟩:=h;have hu:=ZZ hr;have hU:=hr.units;refine⟨_,(YE (c9 1 XA YE2)
  (YE (fP (Ze Z T.bH<|bB<|fL K T.aF<|S 0) (fz 2 XA) (YE (YEk (N:=[c6]) (ρ:=[none]) (cl:=[]) (i:=3) XA.nd Z rfl Z vx (CV K rfl<|eR K (fB K (S 0)<|S 2) YC) (λ_ _ _ _ _=>(Z8 (i:=0) Jp Z (Or.inl Z)<|.inr rfl)) (λ_ _ _ _ _=>(YHS<|YT mP (XY Jl (S 0) YC<|λ_ _=>rfl) Zf<|YU _))<|λ_ _ _ _ _=>(S 0))
  (YD<|Yj (PW.pt<|ng (YT (YA0 K rfl hU) (S 3) (Y6 Yp)<|YU _)<|ng (YT kK (fL K T.aF<|eR K (fB K (S 0)<|S 2) YC) YC<|YU _)<|sw<|Jw<|Jr hu (eR K (fB K (S 0)<|S 2) YC)<|S 1) (YD<|Jg hu (S 1) (eR K (fB K (S 0)<|S 2) YC) (S 2) rfl) YR)))
  (YD<|YM<|S 1))),?_⟩
 have pF:=Xp hg;have jw:xs.length=g.length:=by rw[hds.len,YOS]
 intro d hd;have s1:=YF.upd (o:=.dK []) hd;refine⟨_,Z,l,_,Z,.inl<|aX.of<|s1 _ _ hl,(xs.length:Int),Z,(js (by lia) (by lia)).1,(js (by lia) (by lia)).2,?_⟩;refine JG (lo:=0) (n:=((xs.length:Nat):Int).toNat) (λk σ H4=>ki λ(e:Sz) (v2 v3:ah V)=>BC (σ=[some<|.ref l,some<|.ref d,v2,v3]) (H4 d=some (.dK<|gg e)) (Cc g e) (e.length<=k) ((∀j,j<k->∀r,g[j]?=some r->(∀p∈r.2.1,da p=true)->r.2.1.length<=2->r.1∈e.map (·.1))) (YF H H4)<|YL H4)
  ⟨[],none,none,Z,YA,⟨YPJ,λz v e=>by cases e⟩,YOn _,λj hj=>absurd hj<|Nat.not_lt_zero _,s1,hp.upd rfl⟩ ?_ ?_
 ·rintro k σ H4 hk ⟨e,v2,v3,rfl,jT,he,hel,hrs,s4,p4⟩;have hkl:k<g.length:=by lia
  obtain⟨r,er⟩:∃r,g[k]?=some r:=⟨_,YOW hkl⟩;obtain⟨t,pp,ax,ht,hpp⟩:=JO (hds.same s4) er;have ax:f_ xs (0+(k:Int))=some (.ref t):=by rw[YPt];exact ax
  have hok:=Zh<|Z3 hg er;refine⟨_,Z,_,Z,l,_,_,_,Z,Z,aX.of<|s4 _ _ hl,ax,t,_,1,_,Z,Z,cy.of ht,Z,pp,Z,⟨_,cy.of hpp⟩,λlb hlb=>?_⟩;have hJ:=(YB2<|cy.of (K:=K) hpp).g;rw[YOS]at hJ;refine YEl r.2.1 (λx=>if da x=true then none else some<|.str x) hJ p4 hlb (YK (by lia)) (λτ'=>∃v,τ'=[v]) ⟨_,Z⟩ ?_ ?_;rintro τ' k x y H' Q1 Q2 ⟨v,rfl⟩ U Dp hs hp' hQ1 hQ2;rw[YOd,U]at Dp;cases Dp;obtain⟨c,hc,hlen,jD⟩:=X6<|hok.2 x<|YOc U;refine⟨_,Z,x,0,c,Z,Z,YK (by lia),hc,Z,_,Z,?_⟩;rw[jD];by_cases hq:da x=true;rw[hq];exact hQ2 _ _ ⟨_,Z⟩ (YF.refl _) hp' (by rw[if_pos hq]);rw[YPu.mpr hq];exact⟨_,Z,hQ1 _ _ _ ⟨_,Z⟩ (YF.refl _) hp' (by rw[if_neg hq])⟩;intro H5 s5 p5 h5;have eu:r.2.1.filterMap (λx=>if da x=true then none else some<|V.str x)=(fW r.2.1).map V.str:=by
   unfold fW;rw[<-YQI,List.filterMap_filter];refine fZ (λf=>List.filterMap f r.2.1)<|funext λx=>?_;cases da x <;> rfl
  rw[eu]at h5;refine⟨_,Z,YOn _,λle hle=>?_⟩;have s6:=YF.upd (o:=.lst []) hle;refine⟨_,_,.lst (.inl<|s6 _ _ h5)<|YX.strs _,.lst (.inl YA) .nil,YEm _,Z,YC2 _,_,Z,?_⟩;rw[YEp];have jV:=s5.trans s6;have p6:YL<|upd H5 le<|.lst []:=p5.upd rfl;revert jV p6;generalize upd H5 le (.lst [])=H6;intro jV p6;have nC:=s4.trans jV;have sql:aX K H6 l xs:=aX.of<|nC _ _ hl;have sqt:=cy.of (K:=K)<|jV _ _ ht;have skip:((∀p∈r.2.1,da p=true)->r.2.1.length<=2->r.1∈e.map (·.1))->∀j,j<k+1->∀r,g[j]?=some r->(∀p∈r.2.1,da p=true)->r.2.1.length<=2->r.1∈e.map (·.1):=λh j hj r' kZ a b=>by
   by_cases zP:j=k;subst zP;rw[er]at kZ;cases kZ;exact h a b;exact hrs j (by lia) r' kZ a b
  by_cases hb:fW r.2.1=[]
  case neg=>
   rw[dy hb];refine Yw ⟨e,_,_,Z,jV _ _ jT,he,by lia,skip λa _=>absurd ?_ hb,nC,p6⟩;unfold fW;rw[List.filter_eq_nil_iff];intro p hp;rw[a p hp];decide
  rw[de hb];have hall:∀p∈r.2.1,da p=true:=λp hp=>by
   unfold fW at hb;rw[List.filter_eq_nil_iff]at hb;have:=hb p hp;cases hq:da p with
   |true=>rfl
   |false=>rw[hq]at this;exact absurd Z this
  refine ZC ⟨_,Z,_,Z,l,_,_,_,Z,Z,sql,ax,t,_,1,_,Z,Z,sqt,Z,pp,_,Z,.inr<|cy.of<|jV _ _ hpp,_,_,Z,Z,_,Z,?_⟩;rw[YOS];by_cases h3:r.2.1.length<3
  case neg=>
   rw[dy (by lia)];exact Yw ⟨e,_,_,Z,jV _ _ jT,he,by lia,skip λ_ b=>by lia,nC,p6⟩
  rw[de (by lia)];refine ZC ⟨_,Z,_,Z,l,_,_,_,Z,Z,sql,ax,t,_,0,_,Z,Z,sqt,Z,_,Z,d,_,Z,Xd.k (k:=Sum.inr r.1)<|jV _ _ jT,_,Z,?_⟩;rw[YC3,YPi];cases hlk:look e r.1 with
  |some v=>exact⟨e,_,_,Z,jV _ _ jT,he,by lia,skip λ_ _=>YOt.mpr ⟨_,YIY hlk,Z⟩,nC,p6⟩
  |none=>
   have hnew:=YGh hlk;have len:(gg e).length<sizeLine:=by
    unfold gg;rw[YOS];exact YO5 (show _<1000 by lia)<|YK<|YOY _
   have put:ib H6 d (.str r.1) (.int<|0+(k:Int))<|upd H6 d<|.dK<|gg<|e++[(r.1,(k:Int))]:=by
    have:=ib.k (k:=Sum.inr r.1) (v:=.int<|0+(k:Int)) (jV _ _ jT) len;rw[oO he.nd,YJZ hnew,YPt]at this;rw[YPt];exact this
   have elk:∀z v,look (e++[(r.1,(k:Int))]) z=some v->look e z=some v\/(z=r.1/\v=(k:Int)):=λz v h=>by
    have:=YNS e r.1 z (k:Int);rw[YJZ hnew,h]at this;split at this;rename_i hz;cases this;exact .inr ⟨hz,Z⟩;exact .inl this.symm
   refine⟨_,Z,_,Z,_,Z,_,Z,l,_,_,_,Z,Z,sql,ax,t,_,0,_,Z,Z,sqt,Z,d,_,Z,put,e++[(r.1,(k:Int))],_,_,Z,YA,⟨?_,λz v h=>?_⟩,by rw[YOU];exact YPy hel,λj hj r' kZ a b=>?_,nC.put hd,p6.upd Z⟩;rw[YOk];exact YKy he.nd hnew;rcases elk z v h with h|⟨rfl,rfl⟩
   exact he.at_ z v h;exact⟨k,r,Z,er,Z,hall,by lia⟩;rw[YOk];by_cases zP:j=k;subst zP;rw[er]at kZ;cases kZ;exact YOe _<|YOT.mpr rfl;exact YOg _<|hrs j (by lia) r' kZ a b
 rintro σ H4 ⟨e,v2,v3,rfl,jT,he,hel,hrs,s4,p4⟩;refine⟨_,Z,q d e H4 he (λr hr' a b=>?_) s4 p4 hd jT⟩;obtain⟨j,hj,R⟩:=List.mem_iff_getElem.mp hr';exact hrs j (by lia) r (by rw[YOW hj,R]) a b
theorem YH3:YJ [dL] [dL]<|YG YBy:=eQ
theorem YH4(T:Txt K mg C):Gd P w K mg bZ 1 "_law_need" "_law_need" YBy [dL]<|YOH:=by
 refine eT YH3 λH Q E hr h=>?_;obtain⟨p,ps,rfl,hpp,hps,hpl,hp,q⟩:=h;rcases hpp with hpp|hpp
 refine⟨_,(YD<|YM<|Yo (YIR rfl) (by rfl) T.qi PyProof.Rows.Boot.«sum»<|bB<|XV (N:=[c6]) (ρ:=[none]) (cl:=[]) rfl vx (ZH K rfl<|S 0) (λ_ _ _ _ _=>(Z8 (i:=0) Jp rfl (Or.inl rfl)<|.inr rfl)) (λ_ _ _ _ _=>J0)<|λ_ _ _ _ _=>(YN ZD YC<|JR YGN (by rfl) T.kO YP0<|bB<|Jf mP (XY Jl (S 0) YC<|λ_ _=>rfl) Zf<|YU _)),?_⟩;refine⟨_,Z,p,Z,⟨_,aX.of hpp⟩,λlb hlb=>?_⟩;have hJ:=(X0<|aX.of (K:=K) hpp).g;rw[YOS]at hJ;refine YHF hJ hps hpl hp hlb λH5 s5 p5 h5=>⟨lb,_,Z,aX.of h5,?_⟩;rw[YFo];exact q H5 s5 p5;refine⟨_,(YD<|YM<|Yo (YIR rfl) (by rfl) T.qi PyProof.Rows.Boot.«sum»<|bB<|XV (N:=[c6]) (ρ:=[none]) (cl:=[]) rfl vx (CV K rfl<|S 0) (λ_ _ _ _ _=>(Z8 (i:=0) Jp rfl (Or.inl rfl)<|.inr rfl)) (λ_ _ _ _ _=>J0)<|λ_ _ _ _ _=>(YN ZD YC<|JR YGN (by rfl) T.kO YP0<|bB<|Jf mP (XY Jl (S 0) YC<|λ_ _=>rfl) Zf<|YU _)),?_⟩;refine⟨_,Z,p,Z,⟨_,cy.of hpp⟩,λlb hlb=>?_⟩;have hJ:=(YB2<|cy.of (K:=K) hpp).g;rw[YOS]at hJ;refine YHF hJ hps hpl hp hlb λH5 s5 p5 h5=>⟨lb,_,Z,aX.of h5,?_⟩;rw[YFo];exact q H5 s5 p5
theorem Xs:YJ [ca,cx,fh,fc,bP,"_law_barren"] [ca,cx,fh]<|YG YAa:=eQ
theorem YH5(T:Txt K mg C):Gd P w K mg bZ 1 "_law_open" "_law_open" YAa [ca,cx,fh]<|YOG:=by
 refine eT Xs λH Q E hr h=>?_;obtain⟨l,d,xs,g,e,z,rfl,hl,hds,hg,hd,hp,q⟩:=h;have hu:=ZZ hr;have hU:=hr.units;refine⟨_,(YE (c9 3 Xs<|Y6 Yp)
  (YE (fP (Ze Z T.bH<|bB<|fL K T.aF<|S 0) (fz 4 Xs) (YE (YEk (N:=[c6,cx]) (ρ:=[none,some 1]) (i:=5) Xs.nd Z rfl Z (ZJ.closes [ca,cx,fh,fc,bP,"_law_barren"] (YG YAa).names Z rfl Z rfl (by decide+kernel) (by decide+kernel) (λx h=>XX h) (by decide+kernel) Z (by decide+kernel)) (CV K rfl<|eR K (fB K (S 0)<|S 4) YC) (λ_ _ _ _ _=>(Z8 (i:=0) Je Z (Or.inl Z)<|.inr rfl)) (λ_ _ _ _ _=>(YHS<|PW.pt<|ng (YT mP (XY Jl (S 0) YC<|λ_ _=>rfl) Zf<|YU _)<|sw<|Jw<|Jr hu (S 0)<|S 1))<|λ_ _ _ _ _=>(S 0))
  (YD<|Yj (PW.pt<|ng (YT Xm (eR K (fB K (S 0)<|S 4) YC) (S 2)<|YU _)<|sw<|YT (YA0 K rfl hU) (S 5) (Y6 Yp)<|YU _) (YD<|Ya<|fX K (S 3)<|S 4) YR)))
  (YD<|YM<|S 3))),?_⟩
 have pF:=Xp hg;have jw:xs.length=g.length:=by rw[hds.len,YOS]
 refine⟨YOn _,λlo hlo=>?_⟩;have s1:=YF.upd (o:=.lst []) hlo;refine⟨_,Z,l,_,Z,.inl<|aX.of<|s1 _ _ hl,(xs.length:Int),Z,(js (by lia) (by lia)).1,(js (by lia) (by lia)).2,?_⟩;refine JG (lo:=0) (n:=((xs.length:Nat):Int).toNat) (λk σ H4=>xN λ(v4 v5:ah V)=>xm (σ=[some<|.ref l,some<|.ref d,some<|.str z,some<|.ref lo,v4,v5]) (H4 lo=some (.lst<|(k9 g e z k).map nV)) (YF H H4)<|YL H4)
  ⟨none,none,Z,YA,s1,hp.upd Z⟩ ?_ ?_
 rintro k σ H4 hk ⟨v4,v5,rfl,h4,s4,p4⟩;have hkl:k<xs.length:=by lia
 have hi:xs[k]?=some xs[k]:=YOW hkl;obtain⟨r,tt,p,er,ey,eU,hpp⟩:=YKr hds hi;have ax:f_ xs (0+(k:Int))=some (.ref tt):=by rw[YPt,<-ey];exact Y2 hi
 have hok:=Z3 hg er;have jc:=s4 _ _ eU;have sZ:=s4 _ _ hpp;have oi:=YMV (e:=e) (z:=z) er;refine⟨_,Z,_,Z,l,_,_,_,Z,Z,aX.of<|s4 _ _ hl,ax,tt,_,1,_,Z,Z,cy.of jc,Z,p,Z,⟨_,cy.of sZ⟩,λlb hlb=>?_⟩;refine YJb sZ (Zh hok).2 (Zh hok).1 (s4 _ _ hd) p4 hlb λH5 s5 p5 h5=>?_;refine⟨_,Z,_,Z,l,_,_,_,Z,Z,aX.of<|(s4.trans s5) _ _ hl,ax,tt,_,0,_,Z,Z,cy.of<|s5 _ _ jc,Z,_,Z,Z,_,Z,?_⟩;rw[xy];by_cases hz:¬r.1=z;rw[dy hz];rw[dy hz,Bool.false_and]at oi;refine⟨_,_,Z,?_,s4.trans s5,p5⟩;rw[YCl,oi,if_neg (by decide),YO6];exact s5 _ _ h4;have hz:r.1=z:=Decidable.not_not.mp hz;rw[de hz];rw[de hz,Bool.true_and]at oi;refine ZC ⟨_,Z,YOn _,λle hle=>?_⟩;have s6:=YF.upd (o:=.lst []) hle;refine⟨_,_,.lst (.inl<|s6 _ _ h5)<|YX.strs _,.lst (.inl YA) .nil,YEm _,Z,YC2 _,_,Z,?_⟩;rw[YEp];have jV:=s5.trans s6;by_cases hb:¬AY e r.2.1=[];rw[dy hb];rw[dy hb]at oi;refine⟨_,_,Z,?_,s4.trans jV,p5.upd Z⟩;rw[YCl,oi,if_neg (by decide),YO6];exact jV _ _ h4;have hb:AY e r.2.1=[]:=Decidable.not_not.mp hb;rw[de hb];rw[de hb]at oi;have hlen:(k9 g e z k).length<=k:=by
  unfold k9;exact YO1 (YPQ _ _) (by rw[YPM];exact YOY _)
 refine ZC ⟨_,Z,.inl ⟨Z,_,aX.of<|jV _ _ h4⟩,_,Z,lo,_,_,Z,Z,jV _ _ h4,?_,_,_,Z,?_,(s4.trans jV).put hlo,(p5.upd Z).upd Z⟩;rw[YOS];exact YO5 (show _<1000 by lia)<|YK<|YOY _;rw[YCl,oi,if_pos Z,YOk];show upd _ lo _ lo=some (.lst<|_++[V.int (k:Int)]);rw[YA,YPt];rintro σ H4 ⟨v4,v5,rfl,h4,s4,p4⟩;refine⟨_,Z,q lo H4 s4 p4 hlo ?_⟩;rw[h4];have:((xs.length:Nat):Int).toNat=g.length:=by lia
 rw[this]
theorem Zv:YJ [ca,c8,"_law_waiting",cS,eC,c6,"_law_beneath"] [ca,c8]<|YG YBz:=eQ
theorem YH6(T:Txt K mg C):Gd P w K mg bZ 1 "_law_read" "_law_read" YBz [ca,c8]<|YKY:=by
 refine eT Zv λH Q E hr h=>?_;obtain⟨l,o,xs,r0,Y1,ks,sg,rfl,hl,hds,hg,ho,iD,hkl,hp,q⟩:=h;have hU:=hr.units;refine⟨_,(YE (c9 2 Zv<|Y6<|bB<|eR K (fB K (S 0) YC) YC)
  (YE (c9 3 Zv Zf)
  (YE (c9 4 Zv YC)
  (YE (Jx PassesOwn.never (YT (YCO K Z hU) (S 2) (Y6 Yp)<|YU _) (YE (c9 5 Zv<|vS K rfl YPG YPc YPb xL<|S 2)
  (YD (Yj (YT Xm (XY Jl (S 5) YC<|λ_ _=>rfl) Zf<|YU _) (YD<|c9 3 Zv<|YN Jk (S 3)<|XY Jl (S 5) YC<|λ_ _=>rfl) (YE (Yj (PW.pt<|xt (YT wc (S 4) (fL K T.aF<|S 1)<|YU _)<|xt (JW<|YIC kG kK YC (fB K (S 1)<|S 4)<|fL K T.aF<|S 0)<|AQ<|YT mP (eR K (fB K (S 0)<|fB K (S 1)<|S 4) YC) (S 5)<|YU _) (YD<|YM Z0) YR)
  (YE (fP (YK1 K Z rfl T.iM<|bB<|eR K (fB K (S 0)<|fB K (S 1)<|S 4) YC) (fz 6 Zv)<|YD<|Ya<|fX K (S 2)<|S 6)
  (YD<|c9 4 Zv<|YN ZD (S 4) YC)))))))
  (YE (Yj (YT kK (S 4) (fL K T.aF<|S 1)<|YU _) (YD<|YM Z0) YR)
  (YD<|YM<|S 3)))))),?_⟩
 have jw:xs.length=(r0::Y1).length:=by rw[hds.len,YOS]
 have s1:YF H H:=YF.refl _;have p1:YL H:=hp;have rG:Yn r0.1=true:=YA2<|BN<|Z3 hg (i:=0) rfl;have wy:(r0::Y1)[0]?=some r0:=rfl;obtain⟨g,eg⟩:∃g,r0::Y1=g:=⟨_,Z⟩;rw[eg]at hds hg iD jw wy;obtain⟨t0,p0,zQ,jR,_⟩:=JO hds wy;refine⟨_,Z,l,_,0,_,Z,Z,aX.of<|s1 _ _ hl,zQ,t0,_,0,_,Z,Z,cy.of<|s1 _ _ jR,Z,mx,λlw tE=>?_⟩;have mL:H lw=none:=s1.free tE;have s2:=s1.trans<|YF.upd (o:=.lst [.str r0.1]) tE;have w2:upd H lw (.lst [.str r0.1]) lw=some (.lst<|[r0.1].map V.str):=YA;have p2:YL<|upd H lw<|.lst [.str r0.1]:=p1.upd rfl;revert s2 w2 p2;generalize upd H lw (.lst [.str r0.1])=H2;intro s2 w2 p2;have e0:(("":av))=⟨([]:J Nat).toArray⟩:=by decide+kernel
 rw[e0];refine⟨λμ σ H3=>Ex6 λ(zs:J av) (s1 s2:J Nat) (at_:Nat) (v5 v6:ah V)=>xP (σ=[some<|.ref l,some<|.ref o,some<|.ref lw,some<|.str ⟨s1.toArray⟩,some<|.int (at_:Int),v5,v6]) (H3 lw=some (.lst<|zs.map V.str)) ((∀x∈zs,Yn x=true)) (XB g zs.reverse (ks.drop at_) s2) (s1++s2=sg) (at_<=ks.length) (s1.length+zs.length<=1+6*at_) (μ=7*(ks.length-at_)+zs.length) (YF H H3)<|YL H3,
  ⟨_,[r0.1],[],sg,0,none,none,Z,w2,λx U=>by rw[YOT.mp U];exact rG,iD,Z,YOn _,(show 0+1<=1 by decide),Z,s2,p2⟩,?_⟩
 rintro μ σ H3 ⟨zs,c1,c2,at_,v5,v6,rfl,w3,Q3,ji,hcc,hat,jK,hμ,s3,p3⟩;refine⟨_,Z,YOn _,λQ4 ye=>?_⟩;have s4:=YF.upd (o:=.lst []) ye;refine⟨_,_,.lst (.inl<|s4 _ _ w3)<|YX.strs zs,.lst (.inl YA) .nil,YEm _,Z,YC2 _,_,Z,?_⟩;rw[YEp];have w4:=s4 _ _ w3;have qd:=s3.trans s4;have p4:YL<|upd H3 Q4<|.lst []:=p3.upd rfl;revert w4 qd p4;generalize upd H3 Q4 (.lst [])=H4;intro w4 qd p4;rcases List.eq_nil_or_concat zs with hz|⟨cZ,z,hz⟩
 subst hz;rw[de Z];refine Yw ?_;obtain⟨h1,h2⟩:=YOI ji;have hend:ks.length<=at_:=List.drop_eq_nil_iff.mp h1;refine⟨_,Z,_,Z,o,_,Z,.inl<|aX.of<|qd _ _ ho,_,_,Z,Z,_,Z,?_⟩;rw[dy (by rw[YOS];lia)];rw[h2,YO6]at hcc;rw[hcc];exact Yw ⟨_,Z,q H4 qd p4⟩;rw[List.concat_eq_append]at hz;subst hz;rw[dy (by simp)];refine ZC ⟨_,λ_ _ h=>h,?_⟩;have elast:((cZ++[z]).map V.str)[((cZ++[z]).map V.str).length-1]?=some (.str z):=by
  rw[YOk,YOU];show(_++[V.str z])[_+1-1]?=_;rw[Nat.add_sub_cancel,YOm<|YOY _,YPh];rfl
 have edrop:((cZ++[z]).map V.str).dropLast=cZ.map V.str:=by rw[YOk];exact YPg
 refine⟨_,Z,.inl ⟨Z,_,aX.of w4⟩,lw,_,_,Z,Z,w4,elast,?_⟩;rw[edrop];have jU:YF H<|upd H4 lw<|.lst<|cZ.map V.str:=qd.put mL;have w5:upd H4 lw (.lst<|cZ.map V.str) lw=some (.lst<|cZ.map V.str):=YA;have p5:YL<|upd H4 lw<|.lst<|cZ.map V.str:=p4.upd rfl;revert jU w5 p5;generalize upd H4 lw (.lst<|cZ.map V.str)=H5;intro jU w5 p5;have wA:=Q3 z<|YOe _<|YOT.mpr rfl;have lz:∀x∈cZ,Yn x=true:=λx U=>Q3 x<|YOg _ U;rw[YOU]at jK hμ;have jK:c1.length+(cZ.length+1)<=1+6*at_:=jK;have hμ:μ=7*(ks.length-at_)+(cZ.length+1):=hμ;rw[YP9]at ji;have ji:XB g (z::cZ.reverse) (ks.drop at_) c2:=ji;obtain⟨c,hc,RV,jD⟩:=X6 wA;refine⟨_,Z,z,0,c,Z,Z,YK (by lia),hc,Z,_,Z,?_⟩;rw[jD];by_cases hq:da z=true;rw[hq];obtain⟨RW,e2,uo⟩:=YMW hq ji;have RX:(⟨c1.toArray⟩:av).length=c1.length:=rfl;refine⟨_,Z,_,Z,z,1,h_ z,Z,Z,YK (by lia),YED wA hq,⟨c1.toArray⟩,_,Z,Z,by rw[sizeLine_eq,RX];show c1.length+1<=_;lia,?_⟩;rw[YOJ];refine⟨_,?_,cZ,c1++[h_ z],RW,at_,_,_,Z,w5,lz,uo,by rw[<-hcc,e2,YOw];rfl,hat,by rw[YOU];show c1.length+1+_<=_;lia,Z,jU,p5⟩;rw[hμ];lia;have hq':da z=false:=YPu.mpr hq;rw[hq'];obtain⟨k,m7,r,R,er,RZ,uq⟩:=YMX hq' ji;have ur:at_<ks.length:=by
  have:=fZ List.length R;rw[YPT,YOx]at this;lia
 have ek:ks[at_]?=some k/\m7=ks.drop (at_+1):=by
  rw[YPF ur]at R;cases R;exact⟨YOW ur,Z⟩
 have ao:f_ (ks.map nV) (at_:Int)=some (.int (k:Int)):=by
  refine Y2 (j:=at_) ?_;rw[YOd,ek.1];rfl
 have hok:=Z3 hg er;have Qg:k<xs.length:=by rw[jw];exact(YOX.mp er).1
 obtain⟨tt,pp,ax,eU,hpp⟩:=JO hds er;have sqo:aX K H5 o<|ks.map nV:=aX.of<|jU _ _ ho;have sql:aX K H5 l xs:=aX.of<|jU _ _ hl;refine⟨_,Z,_,Z,o,_,Z,.inl sqo,_,_,Z,Z,_,Z,?_⟩;rw[dy (by rw[YOS];lia)];refine Yw ⟨_,Z,_,Z,o,_,_,_,Z,Z,sqo,ao,_,_,Z,Z,_,Z,?_⟩;rw[de (by lia)];refine ZC ⟨_,Z,l,_,Z,.inl sql,_,_,Z,Z,_,Z,?_⟩;rw[de (by lia)];refine Yw ⟨_,Z,_,Z,_,Z,o,_,_,_,Z,Z,sqo,ao,l,_,_,_,Z,Z,sql,ax,tt,_,0,_,Z,Z,cy.of<|jU _ _ eU,Z,_,Z,Z,_,Z,?_⟩;rw[xy,de RZ];refine Yw ?_;refine⟨_,Z,_,Z,_,Z,o,_,_,_,Z,Z,sqo,ao,l,_,_,_,Z,Z,sql,ax,tt,_,1,_,Z,Z,cy.of<|jU _ _ eU,Z,pp,_,Z,cy.of<|jU _ _ hpp,?_⟩;have tD:=(Zh hok).1;refine YIb (K:=K) (a:=pp) (xs:=r.2.1.map V.str) (λi σ H6=>Ex1 λv6=>xm (σ=[some<|.ref l,some<|.ref o,some<|.ref lw,some<|.str ⟨c1.toArray⟩,some<|.int (at_:Int),some<|.str z,v6]) (H6 lw=some (.lst<|(cZ++r.2.1.reverse.take i).map V.str)) (YF H H6)<|YL H6)
  ⟨v6,Z,by rw[List.take_zero,YO6];exact w5,jU,p5⟩ ?_ ?_ ?_
 rintro i σ H6 _ ⟨_,rfl,_,s6,_⟩;exact cy.of<|s6 _ _ hpp;rintro i y σ H6 hi ⟨v6,rfl,w6,s6,p6⟩;rw[<-List.map_reverse,YOd]at hi;cases ex:r.2.1.reverse[i]? with
 |none=>rw[ex]at hi;cases hi
 |some x=>
  rw[ex]at hi;cases hi;have et:r.2.1.reverse.take (i+1)=r.2.1.reverse.take i++[x]:=by rw[YPA,ex];rfl
  refine⟨_,Z,.inl ⟨Z,_,aX.of w6⟩,_,Z,lw,_,_,Z,Z,w6,by rw[YOS,YOU,YPK,YPB,sizeLine_eq];lia,_,Z,?_,s6.put mL,p6.upd Z⟩;rw[YA,et,<-YOw,YOk (l₂:=[x])];rfl
 rintro σ H6 ⟨v6,rfl,w6,s6,p6⟩;have eall:r.2.1.reverse.take (r.2.1.map V.str).length=r.2.1.reverse:=by rw[YOS,<-YPB (as:=r.2.1),YPI]
 rw[eall]at w6;refine⟨_,Z,_,_,Z,Z,?_⟩;have ei:(at_:Int)+1=((at_+1:Nat):Int):=by lia
 refine⟨_,?_,cZ++r.2.1.reverse,c1,c2,at_+1,_,_,by rw[<-ei];rfl,w6,λx U=>?_,?_,hcc,by lia,?_,Z,s6,p6⟩;rw[hμ,YOU,YPB];lia;rcases YOf.mp U with U|U
 exact lz x U;exact(Zh hok).2 x (YPS.mp U);rw[YP9,YP3,<-ek.2];exact uq;rw[YOU,YPB];lia
theorem JD:([bP,ca,"_law_left"]:J av).Nodup:=by decide+kernel
inductive YLj(K:W.Frag)(vs:List V)(H:L)(Q:VK):Prop
 |mk (l c:Addr)(xs:List V)(g:YV)(ns:List Int)(Dt:Nat):vs=[.ref l,.ref c,.int (Dt:Int)]->2<=Dt->Dt<=60->H l=some (.lst xs)->YX H xs (g.map ZW)->ZB g=true->g≠[]->(∀(r0:Ju) (Y1:List Ju),g=r0::Y1->∃r'∈g,r'.1=r0.1/\(∀p∈r'.2.1,da p=true)/\r'.2.1.length<=2)->aX K H c (ns.map V.int)->ns.length<=63->YL H->(∀o r0 Y1 (ks sg:List Nat) H',g=r0::Y1->XB g [r0.1] ks sg->sg.length<=Dt->ks.length<=200->YF H H'->YL H'->H o=none->H' o=some (.lst (ks.map nV))->Q (.ref o) H')->YLj K vs H Q
def YOL(K:W.Frag):Sp:=λvs H Q E_=>YLj K vs H Q
theorem ZL:YJ [ca,fi,fj,cx,"_law_waiting",c8,"_law_held",c6,df,"_law_left",fc,"_law_beneath"] [ca,fi,fj]<|YG YBJ:=eQ
theorem YJe(T:Txt K mg C)(dM:ZK P w K mg bZ 1 "_law_shorts" [ca]<|YJa)(dG:ZK P w K mg bZ 1 "_law_need" [dL]<|YOH)(gk:ZK P w K mg bZ 1 "_law_open" [ca,cx,fh]<|YOG):Gd P w K mg bZ 2 "_law_row" "_law_row" YBJ [ca,fi,fj]<|YOL K:=by
 refine eT ZL λH Q E hr h=>?_;obtain⟨l,c,xs,g,ns,Dt,rfl,hR2,Wg,hl,hds,hg,yf,yg,hS,hns,hp,q⟩:=h;have hu:=ZZ hr;have hU:=hr.units;refine⟨_,(YE (c9 3 ZL<|eW dM hr YQ<|bB<|S 0)
  (YE (c9 4 ZL<|Y6<|bB<|eR K (fB K (S 0) YC) YC)
  (YE (c9 5 ZL<|Y6 Yp)
  (YE (c9 6 ZL YC)
  (YE (Jx PassesOwn.never (YT (YCO K Z hU) (S 4) (Y6 Yp)<|YU _) (YE (c9 7 ZL<|vS K rfl YPG YPc YPb xL<|S 4)
  (YD (Yj (YT Xm (XY Jl (S 7) YC<|λ_ _=>rfl) Zf<|YU _) (YD<|c9 6 ZL<|YN ZD (S 6) YC) (YE (c9 8 ZL<|JL hu (S 3) (S 7)<|λ_ _=>rfl)
  (YE (Yj (YT kK (fL K T.aF<|S 5) (fL K T.aF<|S 1)<|YU _) (YE (c9 9 ZL<|YN AI (YN AI (S 2)<|S 6)<|eW dG hr YQ<|bB<|S 4)
  (YE (YEk (N:=[bP,ca,"_law_left"]) (ρ:=[none,some 0,some 9]) (i:=10) ZL.nd Z rfl Z (ZJ.closes [ca,fi,fj,cx,"_law_waiting",c8,"_law_held",c6,df,"_law_left",fc,"_law_beneath"] (YG YBJ).names Z rfl Z rfl (by decide+kernel) (by decide+kernel) (λx h=>XX h) (by decide+kernel) Z (by decide+kernel)) (ZH K rfl<|eW gk hr YQ<|YI (S 0)<|YI (S 3)<|bB<|S 7) (λ_ _ _ _ _=>(Z8 (i:=0) JD Z (Or.inl Z)<|.inr rfl)) (λ_ _ _ _ _=>(YHS<|YT kG (eW dG hr YQ<|bB<|eR K (fB K (S 1)<|S 0) YC) (S 2)<|YU _))<|λ_ _ _ _ _=>(S 0))
  (YD<|c9 8 ZL<|fB K (S 10)<|YN ZS (fB K (S 1)<|fL K T.aF<|S 5)<|fL K T.aF<|S 10))) YR)
  (YE (Ya<|fX K (S 5)<|S 8)
  (YD<|fP (YK1 K rfl rfl T.iM<|bB<|eR K (fB K (S 0)<|S 8) YC) (fz 11 ZL)<|YD<|Ya<|fX K (S 4)<|S 11))))))))
  (YD<|YM<|S 5)))))),?_⟩
 obtain⟨r0,Y1,eg⟩:∃r0 Y1,g=r0::Y1:=by
  cases g with
  |nil=>exact absurd Z yf
  |cons a b=>exact⟨a,b,Z⟩
 have Q5:g[0]?=some r0:=by rw[eg];rfl
 have jw:xs.length=g.length:=by rw[hds.len,YOS]
 refine⟨_,Z,l,xs,g,Z,hl,hds,hg,hp,λd e H1 he ut s1 p1 vN hd=>?_⟩;have vD:r0.1∈e.map (·.1):=by
  obtain⟨r',R0,R,e2,e3⟩:=yg r0 Y1 eg;rw[<-R];exact ut r' R0 e2 e3
 obtain⟨t0,p0,zQ,jR,_⟩:=JO (hds.same s1) Q5;refine⟨_,Z,l,_,0,_,Z,Z,aX.of<|s1 _ _ hl,zQ,t0,_,0,_,Z,Z,cy.of jR,Z,mx,λlw tE=>?_⟩;refine⟨YOn _,λlr hlr=>?_⟩;have mL:H lw=none:=s1.free tE;have s2:=YF.upd (o:=.lst [V.str r0.1]) tE;have uv:H lr=none:=s1.free<|s2.free hlr;have nrw:lr≠lw:=λz=>by rw[z,YA]at hlr;cases hlr
 have s3:=YF.upd (o:=.lst []) hlr;have pX:upd (upd H1 lw<|.lst [V.str r0.1]) lr (.lst []) lw=some (.lst<|[r0.1].map V.str):=s3 _ _ YA;have pY:upd (upd H1 lw<|.lst [V.str r0.1]) lr (.lst []) lr=some (.lst<|([]:J Nat).map nV):=YA;have p4:YL<|upd (upd H1 lw<|.lst [V.str r0.1]) lr<|.lst []:=(p1.upd rfl).upd rfl;have s4:=s2.trans s3;have jT:=s4 _ _ hd;have qd:=s1.trans s4;revert pX pY p4 s4 jT qd;generalize upd (upd H1 lw<|.lst [V.str r0.1]) lr (.lst [])=H4;intro pX pY p4 s4 jT qd;have dlw:d≠lw:=λz=>by rw[z]at hd;rw[hd]at tE;cases tE
 have dlr:d≠lr:=λz=>by rw[<-z,s2 _ _ hd]at hlr;cases hlr
 have jZ:=BN<|Z3 hg Q5;refine⟨λμ σ H5=>Ex8 λ(ks:J Nat) (zs:J av) (sg:J Nat) (v7 v8 v9 gO lJ:ah V)=>BY (σ=[some<|.ref l,some<|.ref c,some<|.int (Dt:Int),some<|.ref d,some<|.ref lw,some<|.ref lr,some<|.int (sg.length:Int),v7,v8,v9,gO,lJ]) (H5 lw=some (.lst<|zs.map V.str)) (H5 lr=some (.lst<|ks.map nV)) (H5 d=some (.dK<|gg e)) ((∀z∈zs,Yn z=true/\(da z=false->z∈e.map (·.1)))) ((∀ks' lK,XB g zs.reverse ks' lK->XB g [r0.1] (ks++ks') (sg++lK))) (sg.length+ZG zs<=Dt) ((fW zs).length+ks.length<=ns.length+60) (μ=(ns.length-ks.length)*200+(ZG zs+(fW zs).length)) (YF H H5)<|YL H5,
  ⟨_,[],[r0.1],[],none,none,none,none,none,Z,pX,pY,jT,λz hz=>?_,λks' lK h=>h,?_,?_,Z,qd,p4⟩,?_⟩
 rw[YOT.mp hz];exact⟨YA2 jZ,λ_=>vD⟩;rw[YBL<|YFK jZ];show 0+2<=Dt;lia;rw[YJd<|YFK jZ];show 1+0<=_;lia;rintro μ σ H5 ⟨ks,zs,sg,v7,v8,v9,gO,lJ,rfl,Q6,R1,qI,hzs,iD,mO,uw,hμ,s5,p5⟩;refine⟨_,Z,YOn _,λle hle=>?_⟩;have s6:=YF.upd (o:=.lst []) hle;refine⟨_,_,.lst (.inl<|s6 _ _ Q6)<|YX.strs zs,.lst (.inl YA) .nil,YEm _,Z,YC2 _,_,Z,?_⟩;rw[YEp];have wB:=s6 _ _ Q6;have tD:=s6 _ _ R1;have qJ:=s6 _ _ qI;have nC:=s5.trans s6;have p6:YL<|upd H5 le<|.lst []:=p5.upd rfl;revert wB tD qJ nC p6;generalize upd H5 le (.lst [])=H6;intro wB tD qJ nC p6;rcases List.eq_nil_or_concat zs with hz|⟨cZ,z,hz⟩
 subst hz;rw[de Z];refine Yw ⟨_,Z,q lr r0 Y1 ks sg H6 eg ?_ (by lia) (by lia) nC p6 uv tD⟩;have:=iD [] [] .nil;rw[YO6,YO6]at this;exact this;rw[List.concat_eq_append]at hz;subst hz;rw[dy (by simp)];refine ZC ⟨_,λ_ _ h=>h,?_⟩;have elast:((cZ++[z]).map V.str)[((cZ++[z]).map V.str).length-1]?=some (.str z):=by
  rw[YOk,YOU];show(_++[V.str z])[_+1-1]?=_;rw[Nat.add_sub_cancel,YOm<|YOY _,YPh];rfl
 have edrop:((cZ++[z]).map V.str).dropLast=cZ.map V.str:=by rw[YOk];exact YPg
 refine⟨_,Z,.inl ⟨Z,_,aX.of wB⟩,lw,_,_,Z,Z,wB,elast,?_⟩;rw[edrop];have tG:YF H<|upd H6 lw<|.lst<|cZ.map V.str:=nC.put mL;have w7:upd H6 lw (.lst<|cZ.map V.str) lw=some (.lst<|cZ.map V.str):=YA;have r7:upd H6 lw (.lst<|cZ.map V.str) lr=some (.lst<|ks.map nV):=by rw[YB nrw];exact tD
 have d7:upd H6 lw (.lst<|cZ.map V.str) d=some (.dK<|gg e):=by rw[YB dlw];exact qJ
 have p7:YL<|upd H6 lw<|.lst<|cZ.map V.str:=p6.upd rfl;revert tG w7 r7 d7 p7;generalize upd H6 lw (.lst<|cZ.map V.str)=H7;intro tG w7 r7 d7 p7;obtain⟨wA,R3⟩:=hzs z<|YOe _<|YOT.mpr rfl;have lz:∀x∈cZ,Yn x=true/\(da x=false->x∈e.map (·.1)):=λx U=>hzs x<|YOg _ U;rw[Xv]at mO hμ;rw[YJc,YOU]at uw hμ;rw[YP9]at iD;have iD:∀ks' lK,XB g (z::cZ.reverse) ks' lK->XB g [r0.1] (ks++ks') (sg++lK):=iD;obtain⟨ch,hc,RV,jD⟩:=X6 wA;refine⟨_,Z,z,0,ch,Z,Z,YK (by lia),hc,Z,_,Z,?_⟩;rw[jD];by_cases hq:da z=true;rw[hq];rw[YBK hq]at mO hμ;have ei:(sg.length:Int)+1=((sg++[h_ z]).length:Int):=by rw[YOU];rfl
 refine⟨_,Z,_,_,Z,Z,?_⟩;refine⟨_,?_,ks,cZ,sg++[h_ z],_,_,_,_,_,by rw[<-ei];rfl,w7,r7,d7,lz,λks' lK h=>?_,by rw[YOU];show sg.length+1+_<=_;lia,by lia,Z,tG,p7⟩;rw[hμ];lia;have:=iD ks' (h_ z::lK)<|.sign hq h;rw[YOw];exact this
 ·have hq':da z=false:=YPu.mpr hq;rw[hq'];rw[YBL hq']at mO hμ;rw[YJd hq']at uw hμ;obtain⟨k0,hk0⟩:=YGk<|R3 hq';obtain⟨kk,rs,rfl,ers,ezs,hall,h2⟩:=he.at_ z k0 hk0;refine⟨_,Z,_,Z,d,.int (kk:Int),Z,YOK d7 hk0,?_⟩;have qe:=YFq hall;dsimp only[Yh];refine YFW (t:=md _ _ _) (λσ' H'=>sK λ(k:Nat) (r:Ju) (v9 gO:ah V)=>xZ (σ'=[some<|.ref l,some<|.ref c,some<|.int (Dt:Int),some<|.ref d,some<|.ref lw,some<|.ref lr,some<|.int (sg.length:Int),some<|.str z,some<|.int (k:Int),v9,gO,lJ]) (g[k]?=some r) (r.1=z) ((∀p∈r.2.1,da p=false->p∈e.map (·.1))) (sg.length+ZG cZ+ZG r.2.1<=Dt) ((ks.length<ns.length\/(ZG r.2.1<=2/\fW r.2.1=[]))) (YF H7 H')<|YL H') ?_ λqP=>?_;rintro σ H8 ⟨k,r,v9,gO,rfl,er,erz,ig,hrn,sW,s8,p8⟩;have hok:=Zh<|Z3 hg er;obtain⟨t,pp,ax,ht,hpp⟩:=JO ((hds.same tG).same s8) er;refine⟨_,Z,.inl ⟨Z,_,aX.of<|s8 _ _ r7⟩,_,Z,lr,_,_,Z,Z,s8 _ _ r7,by rw[YOS,sizeLine_eq];lia,?_⟩;have R4:ks.map nV++[V.int (k:Int)]=(ks++[k]).map nV:=by rw[YOk];rfl
  rw[R4];have s9:YF H<|upd H8 lr<|.lst<|(ks++[k]).map nV:=(tG.trans s8).put uv;have w9:upd H8 lr (.lst<|(ks++[k]).map nV) lw=some (.lst<|cZ.map V.str):=by rw[YB nrw.symm];exact s8 _ _ w7
  have r9:upd H8 lr (.lst<|(ks++[k]).map nV) lr=some (.lst<|(ks++[k]).map nV):=YA;have d9:upd H8 lr (.lst<|(ks++[k]).map nV) d=some (.dK<|gg e):=by rw[YB dlr];exact s8 _ _ d7
  have p9:YL<|upd H8 lr<|.lst<|(ks++[k]).map nV:=p8.upd rfl;have zR:upd H8 lr (.lst<|(ks++[k]).map nV) t=some (.tup [.str r.1,.ref pp,.int r.2.2]):=by
   rw[YB (λz=>by rw[z,s8 _ _ r7]at ht;cases ht)];exact ht
  have tX:upd H8 lr (.lst<|(ks++[k]).map nV) pp=some (.tup<|r.2.1.map V.str):=by
   rw[YB (λz=>by rw[z,s8 _ _ r7]at hpp;cases hpp)];exact hpp
  revert s9 w9 r9 d9 p9 zR tX;generalize upd H8 lr (.lst<|(ks++[k]).map nV)=H9;intro s9 w9 r9 d9 p9 zR tX;refine⟨_,Z,_,Z,l,_,_,_,Z,Z,aX.of<|s9 _ _ hl,ax,t,_,1,_,Z,Z,cy.of zR,Z,pp,_,Z,cy.of tX,?_⟩;have h6:=hok.1;have Wh:=YFp cZ;have npw:pp≠lw:=λz=>by rw[z,w9]at tX;cases tX
  refine YIb (K:=K) (a:=pp) (xs:=r.2.1.map V.str) (λi σ H6=>Ex1 λlJ=>BC (σ=[some<|.ref l,some<|.ref c,some<|.int (Dt:Int),some<|.ref d,some<|.ref lw,some<|.ref lr,some<|.int (sg.length:Int),some<|.str z,some<|.int (k:Int),v9,gO,lJ]) (H6 lw=some (.lst<|(cZ++r.2.1.reverse.take i).map V.str)) (H6 lr=some (.lst<|(ks++[k]).map nV)) (H6 d=some (.dK<|gg e)) (H6 pp=some (.tup<|r.2.1.map V.str)) (YF H H6)<|YL H6)
   ⟨lJ,Z,by rw[List.take_zero,YO6];exact w9,r9,d9,tX,s9,p9⟩ ?_ ?_ ?_
  rintro i σ Hx _ ⟨_,rfl,_,_,_,wC,_,_⟩;exact cy.of wC;rintro i y σ Hx hi ⟨lJ,rfl,wx,rx,B,wC,sx,px⟩;rw[<-List.map_reverse,YOd]at hi;cases ex:r.2.1.reverse[i]? with
  |none=>rw[ex]at hi;cases hi
  |some x=>
   rw[ex]at hi;cases hi;have et:r.2.1.reverse.take (i+1)=r.2.1.reverse.take i++[x]:=by rw[YPA,ex];rfl
   refine⟨_,Z,.inl ⟨Z,_,aX.of wx⟩,_,Z,lw,_,_,Z,Z,wx,by rw[YOS,YOU,YPK,YPB,sizeLine_eq];lia,_,Z,?_,by rw[YB nrw];exact rx,by rw[YB dlw];exact B,by rw[YB npw];exact wC,sx.put mL,px.upd Z⟩;rw[YA,et,<-YOw,YOk (l₂:=[x])];rfl
  rintro σ Hx ⟨lJ,rfl,wx,rx,B,wC,sx,px⟩;have eall:r.2.1.reverse.take (r.2.1.map V.str).length=r.2.1.reverse:=by rw[YOS,<-YPB (as:=r.2.1),YPI]
  rw[eall]at wx;have yZ:=YKX<|cZ++r.2.1.reverse;have Wi:=YKX r.2.1;rw[Xv,YHG]at yZ;have eu:(fW<|cZ++r.2.1.reverse).length=(fW cZ).length+(fW r.2.1).length:=by rw[YJc,YOU,pf]
  have R5:ZG (cZ++r.2.1.reverse)=ZG cZ+ZG r.2.1:=by rw[Xv,YHG]
  have ekl:(ks++[k]).length=ks.length+1:=by rw[YOU];rfl
  refine⟨_,?_,ks++[k],cZ++r.2.1.reverse,sg,_,_,_,_,_,Z,wx,rx,B,λx U=>?_,λks' lK h=>?_,by lia,?_,Z,sx,px⟩;rw[hμ,R5,eu,ekl];rcases sW with sW|⟨ho1,jL⟩
  have:(ns.length-ks.length)*200=(ns.length-(ks.length+1))*200+200:=by lia
  lia;rw[jL];show _+(_+((fW cZ).length+0))<_;lia;rcases YOf.mp U with U|U
  exact lz x U;exact⟨hok.2 x<|YPS.mp U,ig x<|YPS.mp U⟩;rw[YP9,YP3]at h;have:=iD (k::ks') lK (by rw[<-erz];exact .name (by rw[erz];exact hq') er h);rw[YOw];exact this;rw[eu,ekl];rcases sW with sW|⟨ho1,jL⟩
  lia;rw[jL];show(fW cZ).length+0+_<=_;lia
  ·refine⟨_,Z,lr,_,Z,.inl<|aX.of r7,_,Z,c,_,Z,.inl<|tG.seq hS,_,_,Z,Z,_,Z,?_⟩;rw[YOS,YOS];by_cases hcl:ks.length<ns.length
   case neg=>
    rw[dy (by lia)];refine Yw<|qP _ _ ⟨kk,rs,_,_,Z,ers,ezs,(λp hp h=>by rw[hall p hp]at h;cases h),by rw[qe.1];lia,.inr ⟨by rw[qe.1];exact h2,qe.2⟩,YF.refl _,p7⟩
   rw[de (by lia)];refine ZC ⟨_,Z,_,Z,_,_,Z,Z,_,Z,lw,cZ,Z,.inl w7,λx U=>(lz x U).1,?_,p7,λH8 s8 p8=>⟨_,_,Z,Z,?_⟩⟩;have:=YFp cZ;lia;have zT:=tG.trans s8;refine⟨_,Z,_,Z,_,Z,l,d,xs,g,e,z,Z,zT _ _ hl,hds.same zT,hg,s8 _ _ d7,p8,λo H9 s9 p9 Q7 ho=>⟨o,Z,⟨_,aX.of ho⟩,λlo hlo=>?_⟩⟩;have zU:=zT.trans s9;obtain⟨Du,eL⟩:∃Du,k9 g e z g.length=Du:=⟨_,Z⟩;rw[eL]at ho;have hL:∀k∈Du,∃r,g[k]?=some r/\r.1=z/\InK e r:=λk hk=>YMF (by rw[eL];exact hk);have hJ:=(X0<|aX.of (K:=K) ho).g;rw[YOS]at hJ;have hLl:Du.length<=1000:=by
    rw[<-eL];unfold k9;refine YO1 (YPQ _ _) ?_;rw[YPM];have:=Xp hg;lia
   obtain⟨fit,hfit⟩:∃fit:Nat->Bool,∀k r,g[k]?=some r->fit k=decide (((ZG r.2.1:Nat):Int)<=(Dt:Int)-(sg.length:Int)-(ZG cZ:Nat)):=⟨λk=>match g[k]? with
    |some r=>decide (((ZG r.2.1:Nat):Int)<=(Dt:Int)-(sg.length:Int)-(ZG cZ:Nat))
    |none=>false,λk r h=>by simp only[h]⟩
   refine YEl Du (λk=>if fit k=true then some (nV k) else none) hJ p9 hlo (YK hLl) (λτ'=>∃v,τ'=[v,some<|.ref l,some<|.int<|(Dt:Int)-(sg.length:Int)-(ZG cZ:Nat)]) ⟨_,Z⟩ ?_ ?_;rintro τ' i k y H' Q1 Q2 ⟨v,rfl⟩ U Dp hs hp' hQ1 hQ2;rw[YOd,U]at Dp;cases Dp;obtain⟨r,er,_,_⟩:=hL k<|YOc U;have hok:=Zh<|Z3 hg er;obtain⟨t,pp,ax,ht,hpp⟩:=JO ((hds.same zU).same hs) er;refine⟨_,Z,_,Z,l,_,_,_,Z,Z,aX.of<|(zU.trans hs) _ _ hl,ax,t,_,1,_,Z,Z,cy.of ht,Z,pp,r.2.1,Z,.inr hpp,hok.2,by lia,hp',λH10 qp wD=>⟨_,Z,_,_,Z,Z,_,Z,?_⟩⟩;rw[<-hfit k r er];by_cases hf:fit k=true;rw[hf];exact⟨_,Z,hQ1 _ _ _ ⟨_,Z⟩ qp wD (by rw[if_pos hf])⟩;rw[YPu.mpr hf];exact hQ2 _ _ ⟨_,Z⟩ qp wD (by rw[if_neg hf]);intro H10 qp wD h10;have efm:Du.filterMap (λk=>if fit k=true then some (nV k) else none)=(Du.filter fit).map nV:=by
    rw[<-YQI,List.filterMap_filter];rfl
   rw[efm]at h10;obtain⟨M,eM⟩:∃M,Du.filter fit=M:=⟨_,Z⟩;rw[eM]at h10;have yh:kk∈M:=by
    rw[<-eM,YO4];refine⟨by rw[<-eL];exact YNZ ers ezs (λp hp h=>by rw[hall p hp]at h;cases h),?_⟩;rw[hfit kk rs ers,qe.1];exact de (by lia)
   have hMl:0<M.length:=List.length_pos_of_mem yh;have s010:=zU.trans qp;have sqM:aX K H10 lo<|M.map nV:=aX.of h10;have sqr:aX K H10 lr<|ks.map nV:=aX.of<|(s8.trans<|s9.trans qp) _ _ r7;have ac:f_ (ns.map V.int) ((ks.map nV).length:Nat)=some (.int ns[ks.length]):=by
    rw[YOS];exact Y2 (by rw[YOd,YOW hcl];rfl)
   obtain⟨y,hy,vU⟩:=XZ (xs:=M.map nV) (i:=ns[ks.length]%((M.map nV).length:Nat)) (YPl _ (by rw[YOS];lia))<|YPf _ (by rw[YOS];lia);obtain⟨k,hkM,rfl⟩:=YOt.mp vU;rw[<-eM,YO4]at hkM;obtain⟨r,er,erz,Do⟩:=hL k hkM.1;have hf:=hkM.2;rw[hfit k r er]at hf;have hf:=fF hf;refine⟨_,Z,_,Z,_,Z,lr,_,Z,.inl sqr,c,_,_,_,Z,Z,s010.seq hS,ac,_,Z,lo,_,Z,.inl sqM,_,_,Z,Z,(by rw[YOS];show(0:Int)<_;lia),lo,_,_,_,Z,Z,sqM,hy,?_⟩;exact qP _ _ ⟨k,r,_,_,Z,er,erz,Do,by lia,.inl hcl,s8.trans<|s9.trans qp,wD⟩
theorem YOM(h:Yn p=true)(hq:da p=true):p=gp (h_ p):=by
 have h1:=YED h hq;unfold Yn at h;rw[YP8]at h;rcases h with h|h
 unfold Xn at h;rw[YOl,YOl]at h;have h2:p.cps.size=2:=eq_of_beq h.1.1;rw[X5]at hq;have hq:=fF hq;have e:p.cps.toList=[39,h_ p]:=by
  have l2:p.cps.toList.length=2:=by rw[YPD];exact h2
  have R:p.cps.toList[1]?=some (h_ p):=by
   have g1:p.cps.toList[1]?=some p.cps.toList[1]:=YOW (by omega);have:=Y2 (j:=1) g1;have h1':f_ p.cps.toList ((1:Nat):Int)=some (h_ p):=h1;rw[h1']at this;rw[g1,<-this]
  match hp:p.cps.toList,l2 with
  |[a,b],_=>
   rw[hp]at hq R;cases hq;cases R;rfl
 have e3:(gp<|h_ p).cps.toList=[39,h_ p]:=by
  unfold gp;rw[YFH]
 cases p with
 |mk cps=>
  generalize gp _=q at e3 ⊢;cases q with
  |mk cq=>
   congr 1;apply Array.toList_inj.mp;rw[e3];exact e
 rw[X5]at hq;have hq:=fF hq;unfold cE at h;rw[YOl]at h;exact absurd (YO8.mp h.2 39<|YOc hq) (by decide)
theorem qB(hg:ZB g=true)(hS:ij g cs F)(h:XB g ps ks sg):∀i,i<=cs.length->cs.drop i=sg->(∀p∈ps,Yn p=true)->∃W,fN (λy=>F y=true) (λ_=>0) ps i cs.length W:=by
 induction h with
 |nil=>
  intro i hi e _;have:=List.drop_eq_nil_iff.mp e;obtain rfl:i=cs.length:=by lia
  exact⟨0,.nil⟩
 |@sign p ws ks sg hq _ ih=>
  intro i hi e hp;have Dm:i<cs.length:=Decidable.byContradiction λz=>by
   rw[List.drop_eq_nil_iff.mpr (by lia)]at e;cases e
  rw[YPF Dm]at e;obtain⟨R,e2⟩:=List.cons.inj e;obtain⟨W,hW⟩:=ih (i+1) Dm e2 λp hp'=>hp p<|YOV _ hp';refine⟨_,.cons (e:=i+1) ?_ hW⟩;rw[YOM (hp p<|YOZ ..) hq];exact hS.sign i _ (by rw[YOW Dm,R])
 |@name r ws k ks sg hq hk _ ih=>
  intro i hi e hp;obtain⟨W,hW⟩:=ih i hi e λp hp'=>(YOf.mp hp').elim ((Zh<|Z3 hg hk).2 p) λh=>hp p<|YOV _ h;obtain⟨e,W1,W2,h1,h2,_⟩:=hW.split;exact⟨_,.cons (hS.up k r i e hk<|YHj hS (λ_ h=>h) hk (m:=r.2.1.length) (d:=0) (YPs _) h1<|hS.zero k i (YOX.mp hk).1 hi) h2⟩
theorem YON{Y1:YV}(eg:g=r0::Y1)(hg:ZB g=true)(st:JA g cs hs)(hb:xM g cs hs)(h:XB g [r0.1] ks cs):mm g cs.length (hs.map (·.1))=some (.part r0.1 0 cs.length):=by
 obtain⟨W,hW⟩:=qB hg (YOC hg st hb) h 0 (YOn _) Z λp hp=>by
  cases YOT.mp hp;exact YA2<|BN<|Z3 hg (i:=0) (by rw[eg];rfl)
 cases hW with
 |cons hm h=>
  cases h;unfold mm;subst eg;show(if _ then _ else _)=_;rw[if_pos hm]
section
variable {g:YV}{n:Nat}{F:Nd->Bool}{Dl Du:J Nd}{top:ah Nd}{T Ds:Nd->Nat}
theorem jI.rank(hO:jI g n Dl Du):∃rk:Nd->Nat,∀x∈Dl,∀w∈Yc g n (eP Dl) x,∀y∈w,rk y<rk x:=by
 refine⟨λx=>Du.idxOf x,λx U w hw y hy=>?_⟩;have hxL:=(hO.mem x).mpr U;obtain⟨A,Dv,e,hA⟩:∃A Dv,Du=A++x::Dv/\x∉A:=by
  obtain⟨A,Dv,e⟩:=List.append_of_mem hxL;refine⟨A,Dv,e,λz=>?_⟩;have:=hO.nd;rw[e]at this;exact(YPH.mp this).2.2 x z x (YOZ ..) Z
 have hyA:=hO.ord A x Dv e y<|YQB.mpr ⟨w,hw,hy⟩;show Du.idxOf y<Du.idxOf x;rw[e,List.idxOf_append,List.idxOf_append,if_pos hyA,if_neg hA];have:=List.idxOf_lt_length_of_mem hyA;lia
theorem jI.noring(hO:jI g n Dl Du)(h:uS (im g n Dl) Dl r):False:=by
 obtain⟨rk,hk⟩:=hO.rank;have lt:∀x∈Dl,∀y∈im g n Dl x,rk y<rk x:=λx U y hy=>by
  obtain⟨w,hw,zq⟩:=YQB.mp hy;exact hk x U w hw y zq
 obtain⟨x0,r',rfl⟩:=List.exists_cons_of_ne_nil h.ne;have le:∀(i:Nat) (y:Nd),(x0::r')[i]?=some y->rk y<=rk x0:=by
  intro i
  induction i with
  |zero=>
   intro y hy;cases hy;exact YOY _
  |succ i ih=>
   intro y hy;have hil:=(YOX.mp hy).1;have U:(x0::r')[i]?=some (x0::r')[i]:=YOW (by lia);have:=lt _ (h.sub _<|YOc U) y<|h.ch i _ y U hy;have:=ih _ U;lia
 obtain⟨y,hy⟩:∃y,(x0::r').getLast?=some y:=⟨_,List.getLast?_eq_some_getLast h.ne⟩;have h1:=lt y (h.sub y<|List.mem_of_getLast? hy) x0<|h.cl x0 y rfl hy;rw[List.getLast?_eq_getElem?]at hy;have:=le _ _ hy;lia
theorem jI.uniq(hO:jI g n Dl Du)(hT:Zj g n Dl T)(hU:Zj g n Dl Ds):T=Ds:=by
 obtain⟨rk,hk⟩:=hO.rank;have key:∀m,∀x∈Dl,rk x<m->T x=Ds x:=by
  intro m
  induction m with
  |zero=>exactλx _ h=>nomatch h
  |succ m ih=>
   intro x U hm;rw[hT.eq x U,hU.eq x U];refine Zi λw hw=>YEI λy hy=>?_;by_cases Do:y∈Dl;exact ih y Do (by have:=hk x U w hw y hy;lia);rw[hT.out y Do,hU.out y Do]
 funext x;by_cases Do:x∈Dl;exact key (rk x+1) x Do<|YPO _;rw[hT.out x Do,hU.out x Do]
theorem YHH:∀{w:J Nd},(∀y∈w,1<=T y)->1<=Jt T w
 |[],_=>YOY 1
 |x::w,h=>by
  show 1<=T x*Jt T w;exact Nat.mul_pos (h x<|YOZ ..)<|YHH λy hy=>h y<|YOV _ hy
end
section
variable {g:YV}{cs:J Nat}{hs:Hs}{Dl Du:J Nd}{top:ah Nd}{T:Nd->Nat}
theorem As(st:JA g cs hs)(U:eP (hs.map (·.1)) x=true)(hh:∀ru∈g,da ru.1=false):∃w,w∈Yc g cs.length (eP<|hs.map (·.1)) x:=by
 obtain⟨v,hv⟩:=Xa<|fF U;have mk:∀{x:Nd}{v:Nat},YO hs x=some v->eP (hs.map (·.1)) x=true:=λh=>de<|BD h;cases x with
 |part p i j=>
  rw[Yc];by_cases hq:da p=true;rw[if_pos hq];exact⟨[],YOT.mpr Z⟩;rw[if_neg hq];rcases st.why _ v hv with ⟨_,c,_,e,_⟩|⟨r,ru,m,R,e2,e3,_⟩
  exact absurd (by rw[e];exact YLE c) hq;exact⟨_,YOt.mpr ⟨r,YO4.mpr ⟨ZV.mpr ⟨ru,R,e2⟩,by rw[s_ R];exact mk e3⟩,Z⟩⟩
 |beg r d i j=>
  rcases st.why _ v hv with ⟨rfl,_⟩|⟨d',k,p,a,b,rfl,e2,e3,e4,_⟩
  exact⟨[],YOT.mpr Z⟩;have ep:Z6 g r d'=p:=by unfold Z6;rw[e2];rfl
  exact⟨_,YHf (st.leg _ _ e3).2.2 (mk e3) (by rw[ep];exact mk e4)⟩
theorem oE(st:JA g cs hs)(hh:∀ru∈g,da ru.1=false)(wk:ZE g cs.length (eP<|hs.map (·.1)) top Dl)(hO:jI g cs.length Dl Du)(hT:Zj g cs.length Dl T):∀x∈Dl,1<=T x:=by
 obtain⟨rk,hk⟩:=hO.rank;have key:∀m,∀x∈Dl,rk x<m->1<=T x:=by
  intro m
  induction m with
  |zero=>exactλx _ h=>nomatch h
  |succ m ih=>
   intro x U hm;rw[hT.eq x U];obtain⟨w,hw⟩:=As st (wk.sub x U) hh;have hw':=hw;rw[<-YB6 wk U]at hw';refine YO1 ?_ (YHd hw');exact YHH λy hy=>ih y (wk.cl x U w hw y hy) (by have:=hk x U w hw' y hy;lia)
 exactλx U=>key (rk x+1) x U<|YPO _
theorem never(st:JA g cs hs)(hq:da d=false)(h1:∀(r:Nat) (ru:Ju),g[r]?=some ru->ru.1=d->ru.2.1=[d]):∀(v i j:Nat),YO hs (.part d i j)≠some v:=by
 have key:∀m v i j,v<m->YO hs (.part d i j)≠some v:=by
  intro m
  induction m with
  |zero=>exactλv i j h=>nomatch h
  |succ m ih=>
   intro v i j hm hv;rcases st.why _ v hv with ⟨_,c,_,e,_⟩|⟨r,ru,m',R,e2,e3,e4⟩
   rw[e,YLE]at hq;cases hq;rw[h1 r ru R e2]at e3;rcases st.why _ m' e3 with ⟨z,_⟩|⟨d',k,p,a,b,z,f2,f3,f4,f5⟩
   cases z;obtain rfl:d'=0:=by
    have z:1=d'+1:=z;lia
   have ep:p=d:=by
    unfold ZM at f2;rw[R]at f2;have f2:ru.2.1[0]?=some p:=f2;rw[h1 r ru R e2]at f2;cases f2;rfl
   subst ep;exact ih b k j (by lia) f4
 exactλv i j=>key (v+1) v i j<|YPO v
end
theorem YKZ(hg:ZB g=true):∀ru∈g,da ru.1=false:=λru hr=>by
 obtain⟨i,hi⟩:=YPY hr;exact YFK<|BN<|Z3 hg hi
theorem we.mem(h:we hs nm calm g g0 g1 gd)(hr:ru∈g):ru∈g0\/ru∈g1\/ru∈gd:=by
 obtain⟨Dv,hB,hg⟩:=h.el;have hb:ru∈Dv->ru∈g0\/ru∈g1\/ru∈gd:=λz=>by
  have:ru∈g0++g1:=by
   rcases hB with rfl|rfl
   exact z;exact YPS.mp z
  exact(YOf.mp this).imp id .inl
 rcases hg with ⟨_,rfl⟩|⟨r,rfl,rfl⟩
 exact hb hr;rcases YOf.mp hr with hr|hr
 exact hb<|YPp hr;rcases YOj.mp hr with rfl|hr
 exact .inr<|.inr<|YOT.mpr rfl;exact hb<|YP4 hr
theorem we.head(h:we hs nm calm g g0 g1 gd)(hr:ru∈g):(ru.1∈hs/\ru.2.1.length<=3)\/(∃d,ru=(d,[d],0)):=by
 rcases h.mem hr with z|z|z
 obtain⟨j,hj⟩:=YPY z;obtain⟨R,_,e3,_⟩:=h.hd.rl j ru hj;exact .inl ⟨YOc R,by lia⟩;exact .inl ⟨(h.r1 ru z).1,(h.r1 ru z).2.1⟩;rcases h.dd with e|⟨d,_,e⟩
 rw[e]at z;cases z;rw[e]at z;exact .inr ⟨d,YOT.mp z⟩
theorem bd50{top:ah Nd}(h:we hs nm calm g g0 g1 gd)(st:JA g cs hg)(hb:xM g cs hg)(wk:ZE g cs.length (eP<|hg.map (·.1)) top Dl)(hO:jI g cs.length Dl Du):∃rk,Bd g cs (eP<|hg.map (·.1)) Dl top rk hs:=by
 obtain⟨rk,hk⟩:=hO.rank;refine⟨rk,YOC h.ok st hb,wk,YKZ h.ok,λx U w hw=>?_,h.h3,λp i j hf hq=>?_,λru hr=>?_⟩;rw[<-YB6 wk U]at hw;exact hk x U w hw;refine Decidable.byContradiction λhn=>?_;obtain⟨v,hv⟩:=Xa<|fF hf;refine never st hq (λr ru hr e=>?_) v i j hv;rcases h.head (YOc hr) with ⟨z,_⟩|⟨d,z⟩
 exact absurd (by rw[<-e];exact z) hn;subst z;rw[<-show d=p from e];rcases h.head hr with ⟨_,z⟩|⟨d,z⟩
 exact z;subst z;exact(show 1<=3 by decide)
theorem YOO(h:Yn p=true)(hq:da p=true):good (h_ p)=true:=by
 unfold Yn at h;rw[YP8]at h;rcases h with h|h
 unfold Xn at h;rw[YOl]at h;exact h.2;rw[X5]at hq;have hq:=fF hq;unfold cE at h;rw[YOl]at h;exact absurd (YO8.mp h.2 39<|YOc hq) (by decide)
theorem XB.good{g:YV}(hg:ZB g=true){ws:J av}{ks sg:J Nat}(h:XB g ws ks sg):(∀p∈ws,Yn p=true)->sg.all FR.good=true:=by
 induction h with
 |nil=>intro _;rfl
 |sign hq _ ih=>
  intro hw;rw[YQA,YOO (hw _<|YOZ ..) hq,ih λp hp=>hw p<|YOV _ hp];rfl
 |name _ hk _ ih=>
  intro hw;refine ih λp hp=>?_;rcases YOf.mp hp with hp|hp
  exact(Zh<|Z3 hg hk).2 p hp;exact hw p<|YOV _ hp
theorem YOP{g:YV}(hg:ZB g=true){r0:Ju}{Y1:YV}(eg:g=r0::Y1){ks sg:J Nat}(h:XB g [r0.1] ks sg)(hl:sg.length<=60):Zs ⟨sg.toArray⟩=true:=by
 unfold Zs;rw[YOl];refine⟨de (by show sg.toArray.size<=60;rw[YOp];omega),?_⟩;exact h.good hg λp hp=>by
  cases YOT.mp hp;exact YA2<|BN<|Z3 hg (i:=0) (by rw[eg];rfl)
theorem YKa(h:Zs z=true):(D.str z).short=true:=by
 unfold Zs at h;rw[YOl,fQ]at h;unfold D.short;exact de (by show z.cps.size<=1000;lia)
theorem JZ:([bP,fk,bX]:J av).Nodup:=by decide+kernel
theorem Xc:([df,fm]:J av).Nodup:=by decide+kernel
theorem we.first(h:we hs nm calm g g0 g1 gd):g≠[]/\∀(r0:Ju) (Y1:J Ju),g=r0::Y1->∃r'∈g,r'.1=r0.1/\(∀p∈r'.2.1,da p=true)/\r'.2.1.length<=2:=by
 obtain⟨Dv,hB,hg⟩:=h.el;have hBl:2<=Dv.length:=by
  have h1:=h.h1;have h2:=h.l1;have h3:=h.hl;rcases hB with rfl|rfl
  rw[YOU];lia;rw[YPB,YOU];lia
 have hBm:∀r∈Dv,r∈g0++g1:=λr z=>by
  rcases hB with rfl|rfl
  exact z;exact YPS.mp z
 have hBg:∀r∈Dv,r∈g:=λr z=>by
  rcases hg with ⟨_,rfl⟩|⟨r',_,rfl⟩
  exact z;rw[<-YQG 1 Dv]at z;rcases YOf.mp z with z|z
  exact YOg _ z;exact YOe _<|YOV _ z
 obtain⟨b0,B',rfl⟩:∃b0 B',Dv=b0::B':=by
  cases Dv with
  |nil=>exact absurd hBl (by show ¬2<=0;decide)
  |cons b0 B'=>exact⟨b0,B',Z⟩
 have wy:∃t,g=b0::t:=by
  rcases hg with ⟨_,rfl⟩|⟨r',_,rfl⟩
  exact⟨_,Z⟩;exact⟨_,Z⟩
 obtain⟨t,rfl⟩:=wy;refine⟨List.cons_ne_nil _ _,λr0 Y1 e=>?_⟩;cases e;have Do:b0.1∈hs:=by
  rcases YOf.mp (hBm b0<|YOZ ..) with z|z
  obtain⟨j,hj⟩:=YPY z;exact YOc (h.hd.rl j b0 hj).1;exact(h.r1 b0 z).1
 obtain⟨j,hj⟩:=YPY Do;have hjl:j<g0.length:=by rw[h.hl];exact(YOX.mp hj).1
 obtain⟨R,e2,e3,_⟩:=h.hd.rl j g0[j]<|YOW hjl;have hm:g0[j]∈b0::B':=by
  have:g0[j]∈g0++g1:=YOg _<|YQC hjl;rcases hB with hB|hB
  rw[hB];exact this;rw[hB];exact YPS.mpr this
 exact⟨g0[j],hBg _ hm,YO3<|R.symm.trans hj,e2,e3⟩
theorem xF(h:k<T (.part p 0 n)):k<Nc T n [p] 0:=by
 have:=YHd (l:=List.range<|n+1) (f:=λe=>T (.part p 0 e)*Nc T n [] e) (a:=n)<|YO9.mpr<|YPO _;refine YO5 h<|YO1 ?_ this;show _<=T (.part p 0 n)*(if n=n then 1 else 0);rw[if_pos Z,Nat.mul_one];exact YOY _
theorem YLk{P:Nat->Prop}:∀{ys:J V},(∀(k:Nat) y,ys[k]?=some y->∃m:Nat,y=nV m/\P m)->∃ms:J Nat,ys=ms.map nV/\ms.length=ys.length/\∀m∈ms,P m
 |[],_=>⟨[],Z,Z,λm h=>nomatch h⟩
 |y::ys,h=>by
  obtain⟨m,rfl,hm⟩:=h 0 y Z;obtain⟨ms,rfl,h2,h3⟩:=YLk (ys:=ys) λk y e=>h (k+1) y e;exact⟨m::ms,Z,by rw[YOx,YOx,h2],λz hz=>(YOj.mp hz).elim (λe=>by rw[e];exact hm)<|h3 z⟩
theorem YFs(r:J Nat):YX H (r.map nV)<|r.map λi:Nat=>D.int (i:Int):=by
 have:=YX.ints (H:=H)<|r.map λi:Nat=>(i:Int);rw[YPa,YPa]at this;exact this
theorem YH7(rows:J<|J Nat):(D.lst<|rows.map λr=>D.lst<|r.map λi:Nat=>D.int (i:Int)).ok=true:=YJy λd hd=>by
 obtain⟨r,_,rfl⟩:=YOt.mp hd;exact YJy λd hd=>by
  obtain⟨i,_,rfl⟩:=YOt.mp hd;rfl
theorem YOQ(rows:J<|J Nat):(D.lst<|rows.map λr=>D.lst<|r.map λi:Nat=>D.int (i:Int)).dep<=64:=YO1 (YHY (n:=1) λd hd=>by
 obtain⟨r,_,rfl⟩:=YOt.mp hd;exact YHY (n:=0) λd hd=>by
  obtain⟨i,_,rfl⟩:=YOt.mp hd;exact YOY 0) (by decide)
inductive BU(Hb:L)(RR:Nat->List Nat->Prop)(ns:List Nat)(lr a l wx ln:Addr)(z:Str)(M:Int)(i:Nat)(H:L):L2.St->Prop
 |mk (as:List Addr) (rows:List (List Nat)) (v7 v8:Option V):as.length=i->rows.length=i->(∀(j m:Nat) (r:List Nat),ns[j]?=some m->rows[j]?=some r->RR m r)->(∀(j:Nat) (b:Addr) (r:List Nat),as[j]?=some b->rows[j]?=some r->H b=some (.lst (r.map nV)))->H lr=some (.lst (as.map V.ref))->lr∉as->YF Hb H->YL H->BU Hb RR ns lr a l wx ln z M i H [some (.ref a),some (.ref l),some (.str z),some (.ref wx),some (.int M),some (.ref ln),some (.ref lr),v7,v8]
theorem YOR{CW CE CN CT:al}{H:L}{Q:VK}{E:XK}{wd:al}{g:YV}{sg:J Nat}{Dl Du:J Nd}{p:av}{F:Nd->Bool}{T rk:Nd->Nat}{Ns:J av}(Dv:Bd g sg F Dl (some<|.part p 0 sg.length) rk Ns)(hO:jI g sg.length Dl Du)(hT:Zj g sg.length Dl T)(hn:sg.length<=13)(hq:da p=false)(hnl:Dl.length<=2900000)(wa:Xe CW H wd g ⟨sg.toArray⟩ Dl<|some<|.part p 0 sg.length)(hp:YL H)(k:Nat)(hk:(k:Int)<Ys (T<|.part p 0 sg.length))
  (q:∀row a H',gl g T sg.length 0 [p] k row sg.length [] 0->XB g [p] row sg->row.length<=1000->H a=none->H' a=some (.lst<|row.map nV)->YF H H'->YL H'->Q (.ref a) H'):YHz CW CE CN CT [.ref wd,nV k] H Q E:=by
 have good:=YOD (F:=F)<|Dv.wk.tp _ rfl;have at0:kN g F Dl T sg.length 0 [p] k:=⟨YOn _,xF<|YHy hk,good,λp' ps' e=>by cases e;exact hq⟩;refine⟨wd,nV k,.int k,g,⟨sg.toArray⟩,Dl,p,F,Z,.int _,Z,wa,Dv.wk,hnl,hp,Dv.st,Dv.hh,hq,good,λH' r hr _=>(hO.noring hr).elim,λDs H' hU hno _ _=>?_,λDs k' row a H' hU e _ hR hl ha ha' s' p'=>?_,λDs k' row i q' qs b H' hU e hk' hR hA hl _ _=>?_⟩;have hU:Zj g sg.length Dl Ds:=hU;rw[hO.uniq hU hT]at hno;exact absurd hk<|hno k rfl;have hU:Zj g sg.length Dl Ds:=hU;rw[hO.uniq hU hT]at hR;injection e with e;have e:k=k':=by lia
 subst e;exact q row a H' hR (ow Dv.hh Dv.st Dv.wk hT hR at0 Z rfl) hl ha ha' s' p';have hU:Zj g sg.length Dl Ds:=hU;rw[hO.uniq hU hT]at hR hA;injection e with e;have e:k=k':=by lia
 subst e;have:=YMQ Dv hT hn hR at0 hA;lia
theorem qk:YJ [bX,ca,cS,fm,fk,dP,dQ,df,c8] [bX]<|YG lP:=eQ
theorem yy(T:Txt K mg C)(dC:ZK P w K mg bZ 4 "_law_grammar" [bX]<|YJY K)(dH:ZK P w K mg bZ 1 "_law_read" [ca,c8]<|YKY)(gH:ZK P w K mg bZ 10 "how_many" [bp]<|YG4 C.Wood)(gJ:ZK P w K mg bZ 2 "_law_row" [ca,fi,fj]<|YOL K)(gY:ZK P w K mg (fM P w) 10 "row_at" [bp,cf]<|YHz C.Wood C.Endless C.NoRow C.TooGreat)(cU:ZK P w K mg bZ 1 "_law_in_order" [dP,dQ]<|YHA)(bQ:ZK P w K mg bZ 1 "_law_whole" [cK]<|X4 J1)(aA:ZK P w K mg bZ 1 eI [bX,bP]<|BE K)(dD:ZK P w K mg bZ 2 "_law_numbers" [cK]<|YEL)(cV:zd P w K mg (fM P w) 9 C.Wood [ay,db,bq]<|YN3 C.Wood C.NoGrammar C.NoText):Gd P w K mg bZ 12 "law" "law" lP [bX]<|Bn K:=by
 refine eT qk λH Q E hr h=>?_;obtain⟨a,ns,rfl,hS,hn,hp,q⟩:=h;have hU:=hr.units;refine gi ?_;refine⟨_,(YH ⟨(c9 1 qk<|eW dC hr YQ<|bB<|S 0)⟩
  (YH ⟨(c9 2 qk<|eW dH hr YQ<|YI (S 1)<|bB<|eW gJ hr YQ<|YI (S 1)<|YI (Xx (CS K rfl) (S 0) (xD YC) xx)<|bB YC)⟩
  (YH ⟨(c9 3 qk<|pkU cV hr T.qQ l6<|YI (JR (XW K rfl) (by rfl) T.eZ YPL<|bB<|S 1)<|bB<|S 2)⟩
  (YH ⟨(c9 4 qk<|eW gH hr YQ<|bB<|S 3)⟩
  (YH ⟨(Yj (YT Bz (S 4) Z0<|YU _) (YD<|YM Jq) YR)⟩
  (YH ⟨(Yj (PW.pt<|xt (JW<|JI<|eW bQ hr YQ<|bB<|S 4)<|AQ<|YT kK (S 4) YC<|YU _) (YD<|YM Jq) YR)⟩
  (YH ⟨(c9 5 qk<|YN BO (XV (N:=[bP,fk,bX]) (ρ:=[none,some 4,some 0]) rfl (ZJ.closes [bX,ca,cS,fm,fk,dP,dQ,df,c8] (YG lP).names rfl rfl rfl rfl (by decide+kernel) (by decide+kernel) (λx h=>XX h) (by decide+kernel) rfl (by decide+kernel)) (Ze rfl T.bH<|bB YC) (λ_ _ _ _ _=>(Z8 (i:=0) JZ rfl (Or.inl rfl)<|.inr rfl)) (λ_ _ _ _ _=>J0)<|λ_ _ _ _ _=>(YN ZS (eW aA hr YQ<|YI (S 2)<|bB<|YN ZD YC<|S 0)<|S 1))<|Y6<|YI YC<|bB<|YN AI (S 4) YC)⟩
  (YH (Cg 6 qk<|YHV YHU)
  (YH ⟨(fP (ZH K rfl<|S 5) (fz 7 qk) (YE (c9 8 qk<|eW gY hr l6<|YI (S 3)<|bB<|S 7)
  (YE (Yj (PW.pt<|xt (JW<|JI<|eW dD hr YQ<|bB<|S 8)<|AQ<|YT mP (eW dH hr YQ<|YI (S 1)<|bB<|S 8) (S 2)<|YU _) (YD<|YM Jq) YR)
  (YE (Ya<|fX K (S 6)<|JR (XW K rfl) (by rfl) T.eZ YPL<|bB<|S 8)
  (YD<|Ya<|fX K (S 8)<|S 7)))))⟩
  (YH ⟨(Yj (JW<|JI<|eW cU hr YQ<|YI (S 5)<|bB<|S 6) (YD<|YM Jq) YR)⟩
  (ZI ⟨(YM<|Jf (YA0 K rfl hU) (XV (N:=[df,fm]) (ρ:=[none,some 3]) rfl (ZJ.closes [bX,ca,cS,fm,fk,dP,dQ,df,c8] (YG lP).names rfl rfl rfl rfl (by decide+kernel) (by decide+kernel) (λx h=>XX h) (by decide+kernel) rfl (by decide+kernel)) (ZH K rfl<|S 5) (λ_ _ _ _ _=>(Z8 (i:=0) Xc rfl (Or.inl rfl)<|.inr rfl)) (λ_ _ _ _ _=>J0)<|λ_ _ _ _ _=>(eW gY hr l6<|YI (S 1)<|bB<|S 0)) (S 6)<|YU _)⟩))))))))))),?_⟩
 refine⟨_,Z,a,ns,Z,hS,hn,hp,λl xs hh nm calm g g0 g1 gd H1 hG hl0 hl hds s1 p1=>?_⟩;dsimp only[Yh];refine fx λu eu=>?_;obtain⟨Q8,ecs,hcs⟩:=YNI ns (some 10) none;have hg:=hG.ok;obtain⟨hne,hfirst⟩:=hG.first
 refine⟨_,Z,_,Z,_,Z,10,Z,a,_,Z,s1.seq hS,λc hc=>?_⟩;rw[ecs];have sc:=YF.upd (o:=.lst<|Q8.map V.int) hc;refine⟨l,c,xs,g,Q8,8,Z,by decide,by decide,sc _ _ hl,hds.same sc,hg,hne,hfirst,aX.of YA,by lia,p1.upd Z,λo r0 rst ks sg H2 eg iD pW hks s2 p2 Q7 ho=>?_⟩;have wF:=sc.trans s2;refine⟨l,o,xs,r0,rst,ks,sg,Z,wF _ _ hl,by rw[<-eg];exact hds.same wF,by rw[<-eg];exact hg,ho,by rw[<-eg];exact iD,by lia,p2,λH3 s3 p3=>?_⟩;have qM:=wF.trans s3;have hz:=YOP hg eg iD (by lia);have noG:Jh (kz g)=false->False:=λe=>by rw[YCG,hg]at e;cases e
 have noT:sv (.str ⟨sg.toArray⟩)=false->False:=λe=>by have e:Zs ⟨sg.toArray⟩=false:=e;rw[hz]at e;cases e
 have dsh:=YKa hz;dsimp only[Yh]
 try subst eu
 refine fx λu eu=>?_;refine⟨_,Z,l,_,Z,.inl<|aX.of<|qM _ _ hl,λl2 hl2=>?_⟩;have s4:=YF.upd (o:=.lst xs) hl2;have pK:upd H3 l2 (.lst xs) l2=some (.lst xs):=YA;have nq:=s4 _ _<|qM _ _ hl;have mQ:=(hds.same qM).same s4;have hS4:=s4.seq<|qM.seq<|s1.seq hS;have p4:YL<|upd H3 l2<|.lst xs:=p3.upd rfl;revert pK nq mQ hS4 p4;generalize upd H3 l2 (.lst xs)=H4;intro pK nq mQ hS4 p4;clear hds qM wF sc s2 s3 ho Q7 p3 p2 p1;refine⟨_,Z,λwx B zV tQ hne=>⟨H4,wx,B,.ref l2,.str ⟨sg.toArray⟩,kz g,.str ⟨sg.toArray⟩,Z,YA,zV,(YF.upd tQ).put zV,(p4.upd Z).upd Z,.lst (.inl pK) mQ,YJ0 hg,.str _,dsh,λg' z' R6 hg' ez hz' hs Dl H7 st bo wk wd s7 p7=>?_,λe=>(noG e).elim,λ_ e=>(noT e).elim⟩⟩;cases YL8 R6;cases ez;have st:JA g sg hs:=st;have bo:xM g sg hs:=bo;have wk:ZE g sg.length (eP<|hs.map (·.1)) (mm g sg.length<|hs.map (·.1)) Dl:=wk;have wd:Xe C.Wood H7 wx g ⟨sg.toArray⟩ Dl<|mm g sg.length<|hs.map (·.1):=wd;have hsl:=YGr st hg (by lia);have hnl:Dl.length<=2900000:=YO1 (ZN wk.nd λc hc=>fF<|wk.sub c hc) (by lia);rw[YON eg hg st bo iD]at wk wd;have qK:=s7 _ _ nq;have yj:=mQ.same s7;have hS7:=s7.seq hS4;clear pK nq mQ hS4 zV tQ hne s7 p4;refine⟨Z,?_⟩;dsimp only[Yh]
 try subst eu
 refine⟨_,Z,wx,g,⟨sg.toArray⟩,Dl,_,_,Z,wd,wk,hnl,p7,λT Du H8 hO hT s8 p8=>?_,λH8 r hr s8 p8=>?_⟩
 case refine_2=>
  exact⟨_,Z,Z,_,Z,ZC<|q _⟩
 have hO:jI g sg.length Dl Du:=hO;have hT:Zj g sg.length Dl T:=hT;obtain⟨rk,Dv⟩:=bd50 hG st bo wk hO;have Q9:da r0.1=false:=Dv.hh r0 (by rw[eg];exact YOZ ..);have pos:=oE st Dv.hh wk hO hT _<|wk.tp _ rfl;have hM:Ys (w_ T<|some<|.part r0.1 0 sg.length)=Ys (T<|.part r0.1 0 sg.length):=rfl;have hM1:1<=Ys (T<|.part r0.1 0 sg.length):=by
  unfold Ys Xq;split;unfold fV;lia;lia
 have Dt:=@YOR C.Wood C.Endless C.NoRow C.TooGreat;show Yh 4 (.int<|Ys<|T<|.part r0.1 0 sg.length) _ _ _;obtain⟨M,eM⟩:∃M,Ys (T<|.part r0.1 0 sg.length)=M:=⟨_,Z⟩;rw[eM]at hM1 ⊢;dsimp only[Yh]
 try subst eu
 refine⟨_,Z,Z,_,Z,Yw ?_⟩;refine⟨_,Z,_,.int M,Z,.int _,Z,p8,_,Z,Yw ?_⟩;refine⟨_,Z,_,_,Z,Z,_,Z,?_⟩;rw[dy (by lia)];refine Yw ?_;dsimp only[YKb,Yh]
 try subst eu
 refine fx λu eu=>?_;refine⟨_,Z,by decide,by decide,λc5 hc5=>YIN (lo:=0) (n:=5) 0 (λ_ y=>∃m:Nat,y=nV m/\(m:Int)<M) hc5 (by show 0<3;decide) (YK (by decide)) (λτ=>τ[1]?=some (some<|.int M)/\τ[2]?=some (some<|.ref a)) ⟨Z,Z⟩ (λτ' v h=>?_) (λτ' k H' R' hk hk0 Dm s' hR=>?_) λys lN hP=>?_⟩;rw[YP5 (by decide),YP5 (by decide)];exact h;refine⟨_,hk.2,_,hk0,_,_,Z,Z,a,ns,_,Z,s'.seq<|s8.seq hS7,by lia,λv=>⟨_,hk.1,_,_,Z,Z,by lia,hR _ ⟨(v%M).toNat,?_,?_⟩⟩⟩;show V.int (v%M)=V.int ((v%M).toNat:Int);rw[Int.toNat_of_nonneg<|YPl _ (by lia)];rw[Int.toNat_of_nonneg<|YPl _ (by lia)];exact YPf _ (by lia);obtain⟨ms,rfl,R7,hmM⟩:=YLk hP;have u5:=YF.upd (o:=.lst<|ms.map nV) hc5;refine⟨_,Z,_,_,Z,Z,lp,λd5 qI=>?_⟩;have u6:=YF.upd (o:=.lst [.int 0,.int<|M-1]) qI;refine⟨c5,d5,_,_,Z,Z,u6 _ _ YA,YA,by rw[sizeLine_eq];show(ms.map nV).length+2<=_;rw[lN];lia,λln nH=>?_⟩;have e7:ms.map nV++[.int 0,.int<|M-1]=(ms++[0,(M-1).toNat]).map nV:=by
  rw[YOk];show _=ms.map nV++[.int 0,.int ((M-1).toNat:Int)];rw[Int.toNat_of_nonneg (by lia)]
 rw[e7];have hN:∀m∈ms++[0,(M-1).toNat],(m:Int)<M:=λm hm=>by
  rcases YOf.mp hm with hm|hm
  exact hmM m hm;rcases YOj.mp hm with rfl|hm
  lia;rw[YOT.mp hm,Int.toNat_of_nonneg (by lia)];lia
 have hNl:(ms++[0,(M-1).toNat]).length=7:=by
  rw[YOU,R7,lN];rfl
 revert hN hNl nH;generalize ms++[0,(M-1).toNat]=N;intro nH hN hNl;have u7:=YF.upd (o:=.lst<|N.map nV) nH;have s9:YF H7 _:=((s8.trans u5).trans u6).trans u7;have jd:=YA (H:=upd (upd H8 c5<|.lst<|ms.map nV) d5<|.lst [.int 0,.int<|M-1]) (a:=ln) (o:=.lst<|N.map nV);have p9:YL<|upd (upd (upd H8 c5<|.lst<|ms.map nV) d5<|.lst [.int 0,.int<|M-1]) ln<|.lst<|N.map nV:=((p8.upd rfl).upd rfl).upd rfl;revert s9 jd p9;generalize upd (upd (upd H8 c5<|.lst<|ms.map nV) d5<|.lst [.int 0,.int<|M-1]) ln (.lst<|N.map nV)=H9;intro s9 jd p9;clear u5 u6 u7 e7 nH qI hc5;have Q_:=wd.same s9;have uI:=s9 _ _ qK;have iR:=yj.same s9;dsimp only[Yh]
 try subst eu
 refine⟨YK<|YOn _,λlr hlr=>?_⟩;dsimp only[Yh]
 try subst eu
 have RD:∀{H':L}{Q:VK}{E:XK}{o:al}{row:J Nat},YF H9 H'->YL H'->XB g [r0.1] row sg->row.length<=1000->H' o=some (.lst<|row.map nV)->(∀H2,YF H' H2->YL H2->Q (.str ⟨sg.toArray⟩) H2)->YKY [.ref l,.ref o] H' Q E:=λs' p' hr hl' ho hQ=>⟨l,_,xs,r0,rst,_,sg,Z,s' _ _ uI,by rw[<-eg];exact iR.same s',by rw[<-eg];exact hg,ho,by rw[<-eg];exact hr,by lia,p',hQ⟩;refine fx λu eu=>?_;refine⟨_,Z,ln,Z,⟨_,aX.of<|(YF.upd hlr) _ _ jd⟩,Zq (K:=K) (a:=ln) (xs:=N.map nV) (λi σ G=>BU H9 (λm r=>gl g T sg.length 0 [r0.1] m r sg.length [] 0) N lr a l wx ln ⟨sg.toArray⟩ M i G σ) (.mk [] [] none none Z rfl (λj m r _ e=>nomatch e) (λj b r e=>nomatch e) YA nofun (YF.upd hlr) (p9.upd Z)) ?_ ?_ ?_⟩;rintro i σ G _ ⟨as,rows,v7,v8,_,_,_,_,_,_,sG,_⟩;exact aX.of<|sG _ _ jd;rintro i v σ G hi ⟨as,rows,v7,v8,la,lw,hRR,hAs,hG,hna,sG,pG⟩;rw[YOd]at hi;obtain⟨m,hm,rfl⟩:=YO2.mp hi;have hil:=(YOX.mp hm).1;refine⟨_,Z,_,Z,Dt Dv hO hT (by lia) Q9 hnl (Q_.same sG) pG m (by rw[eM];exact hN m<|YOc hm) λrow ro G1 nD Wa hrl p_ mR sG1 pG1=>?_⟩;dsimp only[Yh]
 try subst eu
 refine⟨_,Z,ro,row,Z,mR,pG1,_,Z,Yw ⟨_,Z,_,Z,RD (E:=E0) (sG.trans sG1) pG1 Wa hrl mR λG2 s2 p2=>⟨_,Z,Z,_,Z,?_⟩⟩⟩;rw[de Z];refine Yw ?_;dsimp only[YKb]
 try subst eu
 have sY:=sG1.trans s2;have hG2:=sY _ _ hG;have wG:=s2 _ _ mR;refine⟨_,Z,.inl ⟨Z,_,aX.of hG2⟩,_,Z,ro,_,Z,.inl<|aX.of wG,λcp zW=>?_⟩;have s3:=YF.upd (o:=.lst<|row.map nV) zW;have hG3:=s3 _ _ hG2;have lrc:lr≠cp:=YS hG2 zW;have lrr:lr≠ro:=YS hG p_;have rcp:ro≠cp:=YS wG zW;refine⟨lr,_,_,Z,Z,hG3,by rw[YOS,sizeLine_eq];lia,?_⟩;refine⟨_,Z,.inl ⟨Z,_,aX.of (by rw[YB lrr.symm];exact s3 _ _ wG)⟩,_,Z,ro,_,_,Z,Z,by rw[YB lrr.symm];exact s3 _ _ wG,by rw[YOS,sizeLine_eq];lia,?_⟩;have er:as.map V.ref++[V.ref cp]=(as++[cp]).map V.ref:=by rw[YOk];rfl
 refine .mk (as++[cp]) (rows++[row]) _ _ (by rw[YOU,la];rfl) (by rw[YOU,lw];rfl) (λj m' r h1 h2=>?_) (λj b r h1 h2=>?_) (by rw[YB lrr,YA,er]) (λz=>(YOf.mp z).elim hna λz=>lrc<|YOT.mp z) (((((sG.trans sY).trans s3).put hlr)).put<|sG.free p_)<|((p2.upd rfl).upd rfl).upd rfl;by_cases hj:j<rows.length;rw[YOr hj]at h2;exact hRR j m' r h1 h2;have hj':j=i:=by
  have:=(YOX.mp h2).1;rw[YOU,lw]at this;have:j<i+1:=this;lia
 subst hj';rw[YOm (by lia),lw,YPh]at h2;cases h2;rw[hm]at h1;cases h1;exact nD;by_cases hj:j<rows.length;rw[YOr hj]at h2;rw[YOr (by lia)]at h1;have hb:=hAs j b r h1 h2;have hb2:=sY _ _ hb;have n1:b≠ro:=YS hb p_;have n2:b≠lr:=λz=>hna (by rw[<-z];exact YOc h1);rw[YB n1,YB n2];exact s3 _ _ hb2;have hj':j=i:=by
  have:=(YOX.mp h2).1;rw[YOU,lw]at this;have:j<i+1:=this;lia
 subst hj';rw[YOm (by lia),lw,YPh]at h2;rw[YOm (by lia),la,YPh]at h1;cases h1;cases h2;rw[YB rcp.symm,YB lrc.symm,YA];rintro σ G ⟨as,rows,v7,v8,la,lw,hRR,hAs,hG,hna,sG,pG⟩;subst eu;rw[YOS]at la lw;have ord:∀(k j x y:Nat) (r s:J Nat),N[k]?=some x->N[j]?=some y->rows[k]?=some r->rows[j]?=some s->decide (x<y)=HT.lexLt (r.map λi:Nat=>(i:Int)) (s.map λi:Nat=>(i:Int)):=λk j x y r s h1 h2 h3 h4=>YMN (hRR k x r h1 h3)<|hRR j y s h2 h4;refine⟨_,Z,_,Z,ln,lr,N,as,rows,Z,sG _ _ jd,hG,by lia,by lia,by lia,hAs,ord,_,Z,Yw ?_⟩;dsimp only[YKb]
 try subst eu
 refine⟨_,Z,ln,Z,⟨_,aX.of<|sG _ _ jd⟩,λlc R8=>?_⟩;refine XI (n:=N.length) 0 (λk y Hx=>∀m,N[k]?=some m->∃(b:al) (r:J Nat),y=.ref b/\Hx b=some (.lst<|r.map nV)/\gl g T sg.length 0 [r0.1] m r sg.length [] 0) (by have:=X0<|aX.of (K:=K)<|sG _ _ jd;rw[YOS]at this;exact this) (λk y Ha Hb s h m hm=>?_) pG R8 (by show 0<2;decide) (YK (by lia)) (λτ=>τ[1]?=some (some<|.ref wx)) Z (λτ' v h=>by rw[YP5 (by decide)];exact h) (λτ' k x G2 R' hk hk0 Dp Dm s2 p2 yl hR=>?_) λys G2 lN hP s2 p2 hG2=>?_;obtain⟨b,r,e,hb,hr⟩:=h m hm;exact⟨b,r,e,s _ _ hb,hr⟩;rw[YOd]at Dp;obtain⟨m,hm,rfl⟩:=YO2.mp Dp;refine⟨_,hk,_,hk0,Dt Dv hO hT (by lia) Q9 hnl (Q_.same<|sG.trans s2) p2 m (by rw[eM];exact hN m<|YOc hm) λrow ro G3 nD Wa hrl p_ mR s3 p3=>hR _ G3 s3 p3 λm' pN=>?_⟩;rw[hm]at pN;cases pN;exact⟨ro,row,Z,by rw[Zg<|λz=>yl (by rw[<-z];exact p_)];exact mR,nD⟩;have hall:∀(k:Nat) (y:V) (d:D),ys[k]?=some y->(rows.map λr=>D.lst<|r.map λi:Nat=>D.int (i:Int))[k]?=some d->ci G2 y d:=λk y d h1 h2=>by
  rw[YOd]at h2;obtain⟨r,hr,rfl⟩:=YO2.mp h2;have hkl:k<N.length:=by have:=(YOX.mp h1).1;lia
  obtain⟨b,r',rfl,hb,nD⟩:=hP k y h1 N[k]<|YOW hkl;have:=YNu nD<|hRR k N[k] r (YOW hkl) hr;subst this;exact .lst (.inl<|Cm _ _ _ _ hb)<|YFs r'
 have hall2:∀(k:Nat) (y:V) (d:D),(as.map V.ref)[k]?=some y->(rows.map λr=>D.lst<|r.map λi:Nat=>D.int (i:Int))[k]?=some d->ci G2 y d:=λk y d h1 h2=>by
  rw[YOd]at h1 h2;obtain⟨r,hr,rfl⟩:=YO2.mp h2;obtain⟨b,hb,rfl⟩:=YO2.mp h1;exact .lst (.inl<|s2 _ _<|hAs k b r hb hr)<|YFs r
 refine⟨_,Z,_,_,.lst (.inl hG2)<|YX.of_all (by rw[YOS];lia) hall,.lst (.inl<|s2 _ _ hG)<|YX.of_all (by rw[YOS,YOS];lia) hall2,YH7 rows,YH7 rows,YOQ rows,?_⟩;rw[YE6 _<|YH7 rows];exact q _
theorem all_mk{l:PySem.W.OpenLaw}{w:World}{K:W.Frag}{h:Heap}{mg:Str->Option Value}{fa bz bI bA dF gm iT aH dO jt gK f0 f1 f2 f3 f4 f5 f6 f7 f8 f9 R9 R_ Aa Ab Ac Ad Ae Af Ag Ah Ai Aj Ak Al Am Ao Aq Ar Av Aw Ax Ay Az A_ Va Vb Vc Vd Ve Vf Vg Vh Vi Vj Vk Vl Vm Vn Vo Vp Vq Vr Vs Vt Vu Vv Vw Vx Vy Vz VB VD VF VG VH VJ VL VM VN VP VR zX:Addr}(X:K.In h)(G:h.Ns mainGlobals mg)(zj:mg "law"=some (.ref fa))
  {od an:Option Addr}{sl:Array (Option Value)}{oc kV dc pm cd ct:Value}{tFIRST_CODE tLAST_CODE tPERCENT_CODE tMOST_LETTERS tMOST_PARTS tMOST_RULES tMOST_SIGNS tMOST_NUMBERS:Tok}
  (nWood:L2.Dn K "Wood" bz)
  (nWalk:L2.Dn K "Walk" bI)
  (nRests:L2.Dn K "Rests" bA)
  (nMany:L2.Dn K "Many" dF)
  (nNoGrammar:L2.Dn K "NoGrammar" gm)
  (nNoText:L2.Dn K "NoText" iT)
  (nGrowth:L2.Dn K "Growth" aH)
  (nEndless:L2.Dn K "Endless" dO)
  (nNoRow:L2.Dn K "NoRow" jt)
  (nTooGreat:L2.Dn K "TooGreat" gK)
  (d0:DL K "is_whole" YCZ f0)
  (d1:DL K "stands_in_texts" J4 f1)
  (d2:DL K "is_sign" YDo f2)
  (d3:DL K "is_name" YDp f3)
  (d4:DL K "is_part" YDq f4)
  (d5:DL K "is_worth" YCa f5)
  (d6:DL K "are_parts" YBo f6)
  (d7:DL K "is_rule" YDr f7)
  (d8:DL K "is_grammar" YA6 f8)
  (d9:DL K "checked" YDs f9)
  (V0:AL K aH "__init__" "Growth.__init__" J5 R9)
  (V1:AL K aH "stand" "Growth.stand" YAB R_)
  (V2:AL K aH "stand_higher" "Growth.stand_higher" JJ Aa)
  (V3:AL K aH "meet_part" "Growth.meet_part" Jm Ab)
  (d14:AL K aH "meet_beginning" "Growth.meet_beginning" Z5 Ac)
  (d15:AL K aH "meet" "Growth.meet" YAe Ad)
  (V4:AL K aH "grow" "Growth.grow" YAf Ae)
  (V5:DL K "is_text" YDt Af)
  (V6:DL K "checked_text" YAA Ag)
  (V7:DL K "standing" YCc Ah)
  (V8:DL K "numbers_by_head" J6 Ai)
  (V9:DL K "ends_of_beginnings" JP Aj)
  (V_:AL K bz "ways_of_name" "Wood.ways_of_name" JY Ak)
  (Ba:AL K bz "ways_of_beginning" "Wood.ways_of_beginning" Zx Al)
  (Bb:AL K bz "ways" "Wood.ways" YBp Am)
  (Bc:AL K bz "find_root" "Wood.find_root" XM Ao)
  (Be:AL K bz "walk_down" "Wood.walk_down" XO Aq)
  (Bf:AL K bz "told_grammar" "Wood.told_grammar" JX Ar)
  (Bg:AL K bz "top" "Wood.top" YCg Av)
  (Bh:AL K bz "nodes" "Wood.nodes" YA9 Aw)
  (Bj:AL K bz "__init__" "Wood.__init__" Xf Ax)
  (Bk:DL K "nodes_beneath" Xg Ay)
  (Bl:AL K bI "go_down" "Walk.go_down" YAD Az)
  (Bm:AL K bI "go_up" "Walk.go_up" YBA A_)
  (d34:AL K bI "meet" "Walk.meet" YBt Va)
  (Bo:AL K bI "step" "Walk.step" YBu Vb)
  (Bp:AL K bI "__init__" "Walk.__init__" Xh Vc)
  (Bq:DL K "walked_to_ring" XR Vd)
  (Bs:AL K dF "nothing" "Many.nothing" YAE Ve)
  (Bt:AL K dF "blank" "Many.blank" YBC Vf)
  (Bu:AL K dF "of_rule" "Many.of_rule" YAF Vg)
  (Bv:AL K dF "either" "Many.either" YAh Vh)
  (Bw:AL K dF "both" "Many.both" YBv Vi)
  (Bx:DL K "value_of_way" YAG Vj)
  (By:DL K "value_of_ways" Xi Vk)
  (d45:DL K "value_of_node" Xj Vl)
  (BJ:DL K "values_of_nodes" J7 Vm)
  (BK:DL K "total" YHv Vn)
  (BL:DL K "how_many" YCi Vo)
  (BP:AL K bA "__init__" "Rests.__init__" XS Vp)
  (BR:AL K bA "first_link" "Rests.first_link" Jn Vq)
  (BV:AL K bA "rest_with" "Rests.rest_with" J8 Vr)
  (BW:AL K bA "choices" "Rests.choices" Xk Vs)
  (BX:AL K bA "behind_choice" "Rests.behind_choice" JK Vt)
  (BZ:DL K "row_at" YFk Vu)
  (B_:DL K "_law_cell_at" YAH Vv)
  (d56:DL K "_law_mixed" YBE Vw)
  (d57:DL K "_law_signs" JC Vx)
  (d58:DL K "_law_names" J9 Vy)
  (d59:DL K "_law_worth" YBF Vz)
  (d60:DL K "_law_parts" YBG VB)
  (d61:DL K "_law_heads" YBI VD)
  (d62:DL K "_law_grammar" YAJ VF)
  (d63:DL K "_law_shorts" YAj VG)
  (d64:DL K "_law_open" YAa VH)
  (d65:DL K "_law_need" YBy VJ)
  (d66:DL K "_law_row" YBJ VL)
  (d67:DL K "_law_read" YBz VM)
  (d68:DL K "_law_whole" YBH VN)
  (d69:DL K "_law_numbers" YAI VP)
  (d70:DL K "_law_in_order" Xl VR)
  (d71:PySem.W.nsIn K mainGlobals "law"=some (some (.ref zX)))
  (l71:K.lookup zX=some ⟨oc,od,.func (PySem.W.fnOf "law" "law" (JT lP) (Zl lP) (YG lP) .none kV dc pm an cd ct),sl⟩)
  (c71:PySem.W.codeIn K cd "law"=true)
  (k71:PySem.W.keepIn K (.ref zX)=true)
  (iFIRST_CODE:PySem.W.nsIn K mainGlobals "FIRST_CODE"=some (some (.int 32 tFIRST_CODE)))
  (iLAST_CODE:PySem.W.nsIn K mainGlobals "LAST_CODE"=some (some (.int 126 tLAST_CODE)))
  (iPERCENT_CODE:PySem.W.nsIn K mainGlobals "PERCENT_CODE"=some (some (.int 37 tPERCENT_CODE)))
  (iMOST_LETTERS:PySem.W.nsIn K mainGlobals "MOST_LETTERS"=some (some (.int 8 tMOST_LETTERS)))
  (iMOST_PARTS:PySem.W.nsIn K mainGlobals "MOST_PARTS"=some (some (.int 6 tMOST_PARTS)))
  (iMOST_RULES:PySem.W.nsIn K mainGlobals "MOST_RULES"=some (some (.int 60 tMOST_RULES)))
  (iMOST_SIGNS:PySem.W.nsIn K mainGlobals "MOST_SIGNS"=some (some (.int 60 tMOST_SIGNS)))
  (iMOST_NUMBERS:PySem.W.nsIn K mainGlobals "MOST_NUMBERS"=some (some (.int 1000 tMOST_NUMBERS)))
  (zisinstance:Zn K "isinstance")
  (zint:Zn K "int")
  (zbool:Zn K "bool")
  (zord:Zn K "ord")
  (zstr:Zn K "str")
  (zlen:Zn K "len")
  (zall:Zn K "all")
  (ztuple:Zn K "tuple")
  (zlist:Zn K "list")
  (zenumerate:Zn K "enumerate")
  (zrange:Zn K "range")
  (zsorted:Zn K "sorted")
  (zmin:Zn K "min")
  (zsum:Zn K "sum")
  (zreversed:Zn K "reversed")
  (xNoGrammar:PySem.W.excIn K gm [.type "ValueError",.type "Exception",.type "BaseException",.type "object"] "ValueError.__new__"=true)
  (xNoText:PySem.W.excIn K iT [.type "ValueError",.type "Exception",.type "BaseException",.type "object"] "ValueError.__new__"=true)
  (xEndless:PySem.W.excIn K dO [.type "ValueError",.type "Exception",.type "BaseException",.type "object"] "ValueError.__new__"=true)
  (xNoRow:PySem.W.excIn K jt [.type "ValueError",.type "Exception",.type "BaseException",.type "object"] "ValueError.__new__"=true)
  (xTooGreat:PySem.W.excIn K gK [.type "ValueError",.type "Exception",.type "BaseException",.type "object"] "ValueError.__new__"=true)
  (pgGrowth:CL K aH)
  (pgWood:CL K bz)
  (pgWalk:CL K bI)
  (pgMany:CL K dF)
  (pgRests:CL K bA)
  (naGrowth_rules:On K aH "rules")
  (naGrowth_heights:On K aH "heights")
  (naGrowth_height:On K aH "height")
  (naGrowth_fresh:On K aH "fresh")
  (naGrowth_higher:On K aH "higher")
  (naGrowth_begun:On K aH "begun")
  (naGrowth_ends:On K aH "ends")
  (naWood_numbers:On K bz "numbers")
  (naWood_rules:On K bz "rules")
  (naWood_found:On K bz "found")
  (naWood_ends:On K bz "ends")
  (naWood_text:On K bz "text")
  (naWood_root:On K bz "root")
  (naWalk_on_path:On K bI "on_path")
  (naWalk_path:On K bI "path")
  (naWalk_unseen:On K bI "unseen")
  (naWalk_wood:On K bI "wood")
  (naWalk_left:On K bI "left")
  (naWalk_leading:On K bI "leading")
  (naWalk_met:On K bI "met")
  (naRests_rules:On K bA "rules")
  (naRests_tally:On K bA "tally")
  (naRests_known:On K bA "known")
  (naRests_numbers:On K bA "numbers")
  (naRests_begins:On K bA "begins")
  (mkGrowth:PySem.W.makesIn K aH=true)
  (kcGrowth:PySem.W.keepIn K (.ref aH)=true)
  (mkWalk:PySem.W.makesIn K bI=true)
  (kcWalk:PySem.W.keepIn K (.ref bI)=true)
  (mkMany:PySem.W.makesIn K dF=true)
  (inMany:PySem.W.findIn K (.ref dF) "__init__"=some (some (.builtin "object.__init__")))
  (kcMany:PySem.W.keepIn K (.ref dF)=true)
  (mkRests:PySem.W.makesIn K bA=true)
  (kcRests:PySem.W.keepIn K (.ref bA)=true)
  (mkWood:PySem.W.makesIn K bz=true)
  (kcWood:PySem.W.keepIn K (.ref bz)=true)
  (exEE:PySem.W.exmOne K (.ref dO) (.ref dO)=some true):
  ∃fd:FuncData,(∀(s:Shared) (v:Value),BindsTo s fd ⟨[v],[]⟩ [("_law_script",v)])/\∀base:Heap,K.In base->base.Ns mainGlobals mg->gs l.prog w K mg base bZ 12 fa fd ["_law_script"] (Bn K):=by
 have e:=zj.symm.trans (PySem.W.mg_of X G d71);cases e;have m:=λ{x:Str}{v:Value} (h:PySem.W.nsIn K mainGlobals x=some (some v))=>PySem.W.mg_of X G h;have Y:HE l.prog w K h mg:=⟨X,G⟩;have n:=λ{x:Str}{f:Addr} (h:L2.Dn K x f)=>(PySem.W.mg_of X G h:mg x=some (.ref f));have z:=λ{x:Str} (h:Zn K x)=>PySem.W.mg_none_of X G h;have T:Txt K mg ⟨bz,bI,bA,dF,gm,iT,aH,dO,jt,gK,0⟩:=⟨z zisinstance,z zint,z zbool,z zord,z zstr,z zlen,z zall,z ztuple,z zlist,z zenumerate,z zrange,z zsorted,z zmin,z zsum,z zreversed,⟨_,m iFIRST_CODE⟩,⟨_,m iLAST_CODE⟩,⟨_,m iPERCENT_CODE⟩,⟨_,m iMOST_LETTERS⟩,⟨_,m iMOST_PARTS⟩,⟨_,m iMOST_RULES⟩,⟨_,m iMOST_SIGNS⟩,⟨_,m iMOST_NUMBERS⟩,n nWood,n nWalk,n nRests,n nMany,n nNoGrammar,n nNoText,n nGrowth,n nEndless,n nNoRow,n nTooGreat,xNoGrammar,xNoText,xEndless,xNoRow,xTooGreat,pgGrowth.of,pgWood.of,pgWalk.of,pgMany.of,pgRests.of,naGrowth_rules,naGrowth_heights,naGrowth_height,naGrowth_fresh,naGrowth_higher,naGrowth_begun,naGrowth_ends,naWood_numbers,naWood_rules,naWood_found,naWood_ends,naWood_text,naWood_root,naWalk_on_path,naWalk_path,naWalk_unseen,naWalk_wood,naWalk_left,naWalk_leading,naWalk_met,naRests_rules,naRests_tally,naRests_known,naRests_numbers,naRests_begins,⟨mkMany,inMany,kcMany⟩,exEE⟩;have F71:=YM1 (st:=lP) l71 c71 k71;have cB:=fA Y d0 (YIy T);have aO:=fA Y d1 (YCb T);have ik:=fA Y d2 (YKJ T aO);have cX:=fA Y d3 (YKL T);have il:=fA Y d4 (YKN T ik cX);have gF:=fA Y d5 (YI0 T cB);have gf:=fA Y d6 (YHl T il);have ir:=fA Y d7 (YKP T cX gf gF);have d_:=fA Y d8 (YF5 T ir);have cY:=fA Y d9 (YKR T d_);have cz:=usC Y mkGrowth kcGrowth V0 (YCe T);have aC:=fU Y V1 (YEU T);have bF:=fU Y V2 (YA8 T);have bW:=fU Y V3 (YCA T aC);have bu:=fU Y d14 (YAg T aC);have dI:=fU Y d15 (YFX T bW bu bF);have dJ:=fU Y V4 (YFZ T dI);have iu:=fA Y V5 (YKT T aO);have bw:=fA Y V6 (YES T iu);have gG:=fA Y V7 (YI5 T cY bw cz aC dJ);have aP:=fA Y V8 (YCh T);have a_:=fA Y V9 (YBV T);have bV:=fU Y V_ (YBq T);have bh:=fU Y Ba (YAM T);have aZ:=fU Y Bb (YHo T bh bV);have cC:=fU Y Bc (YDH T);have cD:=fU Y Be (YDI T aZ);have aJ:=fU Y Bf (YBs T);have aR:=fU Y Bg (YJB T);have pL:=fU Y Bh (YF7 T);have cV:=usC Y mkWood kcWood Bj (YDu T gG cY bw aP a_ cC cD);have cO:=fA Y Bk (YDw T aZ);have bx:=fU Y Bl (YEW T cO);have eE:=fU Y Bm (YF8 T);have gh:=fU Y d34 (YHr T);have gj:=fU Y Bo (YHs T bx gh eE);have cP:=usC Y mkWalk kcWalk Bp (YDz T aR bx);have cF:=fA Y Bq (YDK T cP gj);have az:=fU Y Bs (YEY T);have bO:=fU Y Bt (YGA T);have dB:=fU Y Bu (YEa T);have aN:=fU Y Bv (YFf T);have bc:=fU Y Bw (YHu T);have dz:=fA Y Bx (YEc T bc);have cQ:=fA Y By (YD0 T dz az aN);have cR:=fA Y d45 (YD1 T cQ aZ dB bO);have aQ:=fA Y BJ (YCj T cF cR aJ);have jq:=fA Y BK (YOB T aQ aR az);have gH:=fA Y BL (YJL T jq);have cG:=usC Y mkRests kcRests BP (YDM T aP aJ);have bY:=fU Y BR (YCC T bO);have cA:=fU Y BV (YCk T az aN bc);have cT:=fU Y BW (YD2 T az aN bc);have bG:=fU Y BX (YBD T cA);have gY:=fA Y BZ (YMT T aQ cB aR cG bY cT bG);have aA:=fA Y B_ (YEe T);have aU:=fA Y d56 (YGB T aA);have eO:=fA Y d57 (YGC T);have eF:=fA Y d58 (YGD T);have bT:=fA Y d59 (YGF T);have bR:=fA Y d60 (YGG T);have eG:=fA Y d61 (YGJ T bR aU bT aA);have dC:=fA Y d62 (YEg T eF aU eG bR eO bT aA);have dM:=fA Y d63 (YFr T);have gk:=fA Y d64 (YH5 T);have dG:=fA Y d65 (YH4 T);have gJ:=fA Y d66 (YJe T dM dG gk);have dH:=fA Y d67 (YH6 T);have bQ:=fA Y d68 (YGI T);have dD:=fA Y d69 (YEf T bQ);have cU:=fA Y d70 (YD4 T);exact⟨PySem.W.fnOf "law" "law" (JT lP) (Zl lP) (YG lP) .none kV dc pm an cd ct,λs v=>.of_eq Z,λbase _ _=>yy T dC dH gH gJ gY cU bQ aA dD cV F71⟩
theorem walk{l:PySem.W.OpenLaw}{q:Program}{loose:List Str}{XP:(Str->Option Value)->Heap->Prop}{YP:World->Heap->Prop}{d:DefRec}{K:Params->W.Frag}(hn:l.most=some 63)(hdf:d.params.defaults=[])
  (hY:∀(w:World) (h:Heap),YP w h->(K w.params).In h)
  (F:∀(w:World) (mg:Str->Option Value) (fa:Addr) (h:Heap),(K w.params).In h->h.Ns mainGlobals mg->mg d.name=some (.ref fa)->
   ∃fd:FuncData,(∀(s:Shared) (u:Value),BindsTo s fd ⟨[u],[]⟩ [("_law_script",u)])/\∀base:Heap,(K w.params).In base->base.Ns mainGlobals mg->gs l.prog w (K w.params) mg base bZ 12 fa fd ["_law_script"] (Bn (K w.params))):
  PySem.W.WalkO q loose XP YP l.row.toRowW d [] (λf vs=>PySem.call f vs):=
 L2.walk_of (n:=63) (k:=12) (x:="_law_script") (CX:=λ_=>bZ) (sp:=λw=>Bn (K w.params)) hn (by decide) hdf ⟨Z,by decide,by decide⟩ hY F (λ_ _ a ns hl hO hS=>YL9 hl hO hS) λ_ _ _ _ _ z=>z
end FR
open PySem PySem.W PyProof.Rows
structure PySem.W.Fast:Prop where(tw2116738154015896627 tw13117682252839714438 tw8831272062778845857 tw8334789362153749192 tw12460783290698543960 tw17429968068788414602 tw5350207592193457012 tw15417680021837730198 tw3612274618557295629 tw6719786316525599900 tw2561307158582724699 tw17488672878502747484 tw15947696939211009427 tw16483325403185815029 tw5601332931720301448 tw16403835026477363069 tw370749811282664813 tw12845619100469174167 tw11650116490732957595 tw17184634828365856109 tw15076653638722689523 tw15201966315185113383 tw4056717775414899337 tw3921052318565475205 tw15638777323882422951 tw10747944814654811736 tw11523088664085245110 tw12650123468040672923 tw14343976509894806485 tw8325097887440088863 tw4803385466757552513 tw5004076369241856777 tw6387216104442300867 tw1299239489410239343 tw9943550455449204456 tw4586491953546511484 tw14828185825408599115 tw8085131058123090969 tw16975144008532419543 tw6470376105324283532 tw12410050964703451882 tw4321407006801992034 tw1196895775332383107 tw17346060740837297287 tw16900865046597147452 tw17752359972840060574 tw3852579064238112024 tw6682668854188077194 tw7668709577370756202 tw5417356887258088066 tw16677968428815573095 tw6468871520240722397 tw3772592439542490717 tw13004506543948801210 tw3638784867798244843 tw12594303696637945082 tw632751054751832605 tw18318104865748836829 tw9881826461387726855 tw5607975594625256570 tw5939439803427706575 tw10121093218771614335 tw13125083077125124751 tw2536009762243653469 tw16099027526604826670 tw11378769929701758581 tw17720601599071416539 tw4695467143332115334 tw10543230413371366872 tw4823626896956994407 tw9795378487730658525 tw5988422447701104881 tw15209880004676057578 tw9333073323833460342 tw8784883951910144316 tw4089583413928365510 tw15221599469249060934 tw4499867368411694707 tw4884537455149767790 tw18233985642125999140 tw13090750875150294088 tw13578701469615715119 tw11771329088638600349 tw5478715721045938674 tw14769790640115707135 tw14569553046718326767 tw9169532001856282365 tw18012871670316964452 tw1448149894498621019 tw15489079549357958706 tw12301839207766283764 tw7596457829104998066 tw6830425204075485081 tw11611106498889937821 tw10284048130357581659 tw16244823359051923424 tw746277050047121505 tw12549965362432123342 tw1390603644076377404 tw10754242532496959943 tw9626430997133480447 tw6895568528802799815 tw492178106867031831 tw16910964396422433162 tw621649710235856815 tw16749689486385822557 tw4387277730393404127 tw6555260862886562944 tw17855048731011573071 tw4065113869780475172 tw5998608347298719069 tw12116286382019292540 tw6385576926311643345 tw15290700360105086697 tw17974913796410390139 tw10606445113720487777 tw5133874694324012766 tw3186669456874855375 tw2840869346403631377 tw3500127245572656528 tw4773685759591722000 tw10665581007517627189 tw8021681314540541190 tw7586339213332785628 tw5211975303474672284 tw16045520875378971347 tw18113384217220136432 tw15012362161044467823 tw9015357055125881896 tw900687301911139736 tw18006939996907185987 tw12407629933667166721 tw6855091306147401342 tw17903177709743237612 tw15967223364508960002 tw2248369017314343979 tw8180397858182709963 tw1159327723234141608 tw3752225596923578449 tw2807756682000111340 tw10484647897163539256 tw4997238078039570263 tw9248854922706742751 tw12724003327533903309 tw1896130635924103389 tw7209607075951038636 tw8442768182941651680 tw5551203943832615828 tw18240106354952396356 tw7450129724001450021 tw2283333711235154645 tw6364799165719211247 tw2191015666129532762 tw12425234219837045691 tw5346538606726399140 tw5934352872087447241 tw9005798105938366616 tw15257583500614114382 tw5297594085648742302 tw12703069049795337212 tw13997457932900462802 tw6843431561950662921 tw3683042425434288831 tw11787944170630380578 tw5743242867088141634 tw2199437413727204680 tw15646126815328340522 tw3427728324932361849 tw16697612422628280732 tw327472368383367106 tw16767065747990286349 tw10516721985291528482 tw10288613720922065494 tw13000360458448799080 tw1908381560096973616 tw131490457695200263 tw17619519781913799458 tw1127807658538028047 tw3432130336949618721 tw666963522774883630 tw1654591706521276801 tw10085563098713658471 tw1618036636623064326 tw11504838061917705907 tw11783454481044378024 tw10670858727190827611 tw5331155603263298813 tw2488189092137497601 tw4056399980333586481 tw970825874475946962 tw16618884540740057365 tw1447241679156500216 tw402273081564473996 tw15689217508298004182 tw83283141067443055 tw9769999340743341757 tw15483198701024001927 tw2758194895622112523 tw4411416375236198949 tw4009242899576101312 tw4613090223774297424 tw17105318425413503370 tw2510138602281358074 tw9789924723850600377 tw6396862496743112890 tw14755190642006254196 tw431277518547647157 tw8358731505743657877 tw15349979571307646283 tw3023247409835848311 tw13387011079665169272 tw6655970547281508447 tw4223040043143944707 tw10136604062198624779 tw15993740836784607853 tw16178232302736262060 tw4097154707078576995 tw16743124428503456438 tw12031290776652099946 tw6256570364545039985 tw11193166585393928131 tw11744202494951073415:True)
set_option maxRecDepth 100000 in
set_option maxHeartbeats 0 in
theorem PySem.Challenge.cw_forestread_k50_rows_rise_holds : PySem.Challenge.rw_forestread_k50_rows_rise.Holds := by
 w_on;o_law;k_head;(case hw=>w_witness2)
 k_fill
 refine FR.walk (l:=PySem.Challenge.rw_forestread_k50_rows_rise) Z rfl (λw h Y=>PySem.W.kIn_of Y) ?F
 case F=>
  intro w mg fa h KX G uz;refine' FR.all_mk KX G uz ..
  any_goals first|k_is|(delta L2.Dn;k_is)|(delta L2.Zn;k_is)|(delta L2.On;k_is)|(refine' L2.DL.mk ?_ (L2.Ln.mk ?_ ?_ ?_);any_goals k_is)|(refine' L2.AL.mk (L2.An.mk ?_ ?_) (L2.Ln.mk ?_ ?_ ?_);any_goals k_is)|(refine' L2.CL.mk ?_ ?_ ?_ ?_;any_goals k_is)|k_exc|kts_exm|kit_is
