import PyProof.Rows.All
import Wide.All
import OpenK.AllK
import Wide.FinOn
import Lean
import PyProof.EqAt
import PyProof.EqKinds
import PyProof.TupleCall
import PySem.Challenge.RW_forestread_k52_whole_number_of_rows
set_option Elab.async false
set_option bootstrap.genMatcherCode false
set_option compiler.extract_closed false
set_option genSizeOf false
set_option linter.all false
set_option maxRecDepth 100000
theorem Z{α:Sort u}{a:α}:a=a:=rfl
open Option renaming some->À,none->Á
open Bool renaming true->Â,false->Ã
open List renaming length_map->Ä,getElem?_eq_some_iff->YOx,mem_cons_of_mem->Ç,getElem?_eq_getElem->Ê,mem_singleton->YO0,length_append->È,mem_cons_self->É,mem_of_getElem?->Ð,mem_append_right->Ò,mem_cons->YO9,getElem?_map->Ï,mem_append_left->Õ,mem_append->YPD,map_append->Î,length_cons->Ñ,size_toArray->Ô,getElem?_append_right->à,nodup_cons->YPN,getElem?_append_left->ä,mem_map->YPR,append_assoc->Ý,map_cons->Ö,mem_range->YPY,drop_eq_getElem_cons->í,all_eq_true->YPc,take_add_one->â,reverse_cons->ã,mem_filter->YPg,append_nil->ß,length_reverse->ç,length_range->è,nodup_append->YPo,take_length->æ,length_eq_zero_iff->YPq,nodup_nil->å,length_replicate->ù,replicate_succ->þ,map_congr_left->ý,flatten_cons->õ,eq_nil_of_length_eq_zero->Ė,map_map->é,length_filter_le->Ĉ,length_take->ú,length_drop->ÿ,mem_replicate->YQA,length_nil->ü,getElem?_eq_none_iff->YQC,getElem?_eq_none->ē,dropLast_concat->Č,filterMap_cons->ď,take_append_drop->Ĝ,getElem_mem->Ą,filter_cons->ĉ,mem_of_mem_take->ę,getElem?_of_mem->ě,take_of_length_le->ĝ,not_mem_nil->đ,mem_reverse->YQa,drop_length->č,mem_filterMap->YQc,filter_append->ė,drop_zero->Ċ,drop_eq_nil_iff->YQh,length_set->ċ,nodup_range->Ę,getElem?_set_self->Ĥ,pairwise_cons->YQq,map_replicate->ğ
open Nat renaming le_refl->Å,zero_le->Ë,lt_of_lt_of_le->á,le_trans->Ú,ne_of_lt->Ü,zero_mul->ë,le_of_lt->ê,lt_succ_self->û,mul_zero->î,lt_irrefl->ó,le_succ->ò,sub_self->ö,min_eq_left->ć,zero_add->ā,mul_comm->Ă
open PySem renaming wpAny_bind->Æ,wpAny_pure->Ì
open PySem.Heap renaming get?_push_of_some->Ø,lt_size->Í,get?_push_size->Þ,get?_update_self->ą,get?_update_other->Ğ
open Bool renaming and_eq_true->Ó,false_ne_true->Ù,and_eq_true_iff->YPW,eq_iff_iff->ð,or_eq_true->Ć
open Option.some renaming inj->Û
open PyProof.Rows.Boot renaming «isinstance»->ô,«list»->Ā,«min»->Ĕ,«len»->Ď,«int»->ĥ,«all»->ŏ
open PySem.F renaming plainAttrs_list->ñ,type_list_pop->Đ,slot_list_pop->ĕ,slot_dict_setdefault->ŋ,plainAttrs_str->İ
open Option renaming map_eq_some_iff->YPk,isSome_map->Ě,isSome_iff_exists->YQj
open Array renaming length_toList->ì,getElem?_toList->ă
open Int renaming toNat_natCast->ï,emod_nonneg->ø,emod_lt_of_pos->Ē
abbrev dA:=@decide_eq_true
abbrev eI:=@decide_eq_false
abbrev fq:=@of_decide_eq_true
abbrev fE:=@decide_eq_true_eq
abbrev fT:=@congrArg
abbrev ac:=List
abbrev ag:=Option
abbrev ah:=PySem.Value
abbrev ai:=PySem.Addr
abbrev al:=PySem.Shared
abbrev am:=PySem.Str
abbrev ar:PySem.Str:="rules"
abbrev av:PySem.Str:="self"
abbrev ay:PySem.Str:="node"
abbrev aE:PySem.Str:="heights"
abbrev aI:PySem.Str:="tally"
abbrev aS:PySem.Str:="wood"
abbrev aT:PySem.Str:="thing"
abbrev ba:PySem.Str:="height"
abbrev bi:PySem.Str:="numbers"
abbrev bp:PySem.Str:="text"
abbrev bq:PySem.Str:="known"
abbrev br:PySem.Str:="fresh"
abbrev bv:PySem.Str:="found"
abbrev bE:PySem.Str:="higher"
abbrev bP:PySem.Str:="row"
abbrev bS:PySem.Str:="ends"
abbrev bX:PySem.Str:="root"
abbrev cb:PySem.Str:="number"
abbrev ce:PySem.Str:="_law_k"
abbrev cf:PySem.Str:="_law_cell"
abbrev ci:PySem.Str:="begun"
abbrev ck:PySem.Str:="place"
abbrev cm:PySem.Str:="_law_many"
abbrev cn:PySem.Str:="_law_script"
abbrev cp:PySem.Str:="_law_widths_here"
abbrev cv:PySem.Str:="_law_number"
abbrev cw:PySem.Str:="begins"
abbrev cE:PySem.Str:="grammar"
abbrev cK:PySem.Str:="one"
abbrev cS:PySem.Str:="other"
abbrev c6:PySem.Str:="link"
abbrev c8:PySem.Str:="_law_choices_here"
abbrev c9:PySem.Str:="part"
abbrev da:PySem.Str:="_law_names_here"
abbrev de:PySem.Str:="_law_wood"
abbrev dr:PySem.Str:="_law_grammar_here"
abbrev dL:PySem.Str:="_law_row_here"
abbrev dP:PySem.Str:="unseen"
abbrev dS:PySem.Str:="_law_at"
abbrev eh:PySem.Str:="_law_leaves_here"
abbrev eA:PySem.Str:="_law_found"
abbrev eC:PySem.Str:="_law_due"
abbrev eJ:PySem.Str:="on_path"
abbrev eK:PySem.Str:="is_whole"
abbrev eM:PySem.Str:="waiting"
abbrev eR:PySem.Str:="_law_way"
abbrev eS:PySem.Str:="_law_leaf"
abbrev fg:PySem.Str:="values_of_nodes"
abbrev fi:PySem.Str:="stands_in_texts"
abbrev fk:PySem.Str:="checked_text"
abbrev fu:PySem.Str:="numbers_by_head"
abbrev fw:PySem.Str:="told_grammar"
abbrev fF:PySem.Str:="_law_cell_at"
abbrev fH:PySem.Str:="_law_numbers"
abbrev fY:PySem.Str:="ends_of_beginnings"
section
open Lean in
def zP:Nat->Term->MacroM (TSyntax `rcasesPat)
|0,_=>Macro.throwUnsupported
|n+1,t=>match t with
 |`(⟨$xs,*⟩)=>do
  let p<-xs.getElems.mapM (zP n)
  let q<-p.mapM fun p=>`(Parser.Tactic.rcasesPatLo|$p:rcasesPat)
  `(rcasesPat|⟨$q,*⟩)
 |`($x:ident)=>let y:=if x.getId== `Z then mkIdent `rfl else x;`(rcasesPat|$y:ident)
 |_=>`(rcasesPat|_)
local macro_rules|`(tactic|show $e:term)=>`(tactic|refine $e)
local macro_rules|`(tactic|let $p:term:=$e)=>do `(tactic|obtain $(<-zP 99 p):rcasesPat:=$e)
local macro_rules|`(tactic|let $x:ident$[:$t]?:=$e)=>`(tactic|have $x:ident$[:$t]?:=$e)
open Lean Parser.Command in
local macro_rules|`(command|$m:declModifiers def $i:declId $s:optDeclSig $v:declVal)=>if !m.raw[4].isNone then Macro.throwUnsupported else if m.raw[1].isNone then return mkNode ``declaration #[m,mkNode ``«theorem» #[mkAtom "theorem",i,mkNode ``declSig #[s.raw[0],s.raw[1][0]],v]] else do `(command|noncomputable def $i:declId $s:optDeclSig $v:declVal)
namespace L2
open PySem PySem.Spec PyProof.Rows
noncomputable abbrev db:=Sum Int am
@[ext]def zC:db->ah->Bool
 |.inl k,v=>Value.isInt k v
 |.inr x,v=>Value.isStrOf x v
@[ext]def keyH(w:World):db->Int
 |.inl k=>hashInt k
 |.inr x=>hashStr w x
def Zc:∀{k:db}{v:ah},zC k v=Â->(∃i t,k=Sum.inl i/\v=Value.int i t)\/(∃x t,k=Sum.inr x/\v=Value.str x t)
 |.inl i,v,h=>by
  let⟨t,e⟩:=Value.isInt_shape (k:=i) (v:=v) h;show .inl ⟨i,t,Z,e⟩
 |.inr x,v,h=>by
  let⟨t,e⟩:=Value.isStrOf_shape (x:=x) (v:=v) h;show .inr ⟨x,t,Z,e⟩
def YMG(i:Int)(t:Tok):zC (.inl i) (.int i t)=Â:=by simp[zC,Value.isInt]
def YMH(x:am)(t:Tok):zC (.inr x) (.str x t)=Â:=by simp[zC,Value.isStrOf]
def AG(a b:Int):decide ((Sum.inl a:db)=Sum.inl b)=(a==b):=by
 by_cases e:a=b;subst e;simp;let h:¬(Sum.inl a:db)=Sum.inl b:=λq=>e<|Sum.inl.inj q;rw[eI h];show(beq_eq_false_iff_ne.mpr e).symm
def xL(a b:am):decide ((Sum.inr a:db)=Sum.inr b)=decide (a=b):=by
 by_cases e:a=b;subst e;simp;let h:¬(Sum.inr a:db)=Sum.inr b:=λq=>e<|Sum.inr.inj q;rw[eI h,eI e]
def ya(a:Int)(b:am):decide ((Sum.inl a:db)=Sum.inr b)=Ã:=eI nofun
def xc(a:am)(b:Int):decide ((Sum.inr a:db)=Sum.inl b)=Ã:=eI nofun
@[ext]def Yn(prog:Program)(w:World):PySem.KeyKind prog w db where
 is:=zC
 hash:=keyH w
 inj:=λv a b ha hb=>by
  rcases Zc ha with ⟨i,t,rfl,rfl⟩|⟨x,t,rfl,rfl⟩
  rcases Zc hb with ⟨j,u,rfl,e⟩|⟨y,u,rfl,e⟩
  injection e with e1 _;rw[e1];show nomatch e
  rcases Zc hb with ⟨j,u,rfl,e⟩|⟨y,u,rfl,e⟩
  show nomatch e
  injection e with e1 _;rw[e1]
 byValue:=λk v h=>by
  rcases Zc h with ⟨i,t,rfl,rfl⟩|⟨x,t,rfl,rfl⟩ <;> rfl
 pyHash:=λhv h=>by
  rcases Zc hv with ⟨i,t,rfl,rfl⟩|⟨x,t,rfl,rfl⟩
  show wpAny_pyHash_int h;show wpAny_pyHash_str h
 eqBool:=λhu hv h=>by
  rcases Zc hu with ⟨i,t,rfl,rfl⟩|⟨x,t,rfl,rfl⟩
  rcases Zc hv with ⟨j,u,rfl,rfl⟩|⟨y,u,rfl,rfl⟩
  rw[AG]at h;show wpAny_eqBool_int h;rw[ya]at h;show SeqAt.EqAt.int_str i t y u _ _ _ _ h;rcases Zc hv with ⟨j,u,rfl,rfl⟩|⟨y,u,rfl,rfl⟩
  rw[xc]at h;show SeqAt.EqAt.str_int x t j u _ _ _ _ h;rw[xL]at h;show wpAny_eqBool_str h
 «strs»:=λk x t v h=>by
  rcases Zc h with ⟨i,u,rfl,e⟩|⟨y,u,rfl,e⟩
  show nomatch e
  injection e with e1 _;subst e1;cases v <;> rfl
def YIF(prog:Program)(w:World)(i:Int)(t:Tok):(Yn prog w).is (.inl i) (.int i t)=Â:=YMG i t
def YIG(prog:Program)(w:World)(x:am)(t:Tok):(Yn prog w).is (.inr x) (.str x t)=Â:=YMH x t
inductive V where
 |non|bl (b:Bool)|int (i:Int)|str (x:Str)|byt (b:Array UInt8)|flt (b:UInt64)|ref (a:Addr)|ty (n:String)
 deriving DecidableEq
@[ext]def Yw:V->ah->Prop
 |.non,u=>u=Value.none
 |.bl b,u=>u=Value.bool b
 |.int i,u=>∃t,u=Value.int i t
 |.str x,u=>∃t,u=Value.str x t
 |.byt b,u=>∃t,u=Value.bytes b t
 |.flt b,u=>∃t,u=Value.float b t
 |.ref a,u=>u=Value.ref a
 |.ty n,u=>u=Value.type n
noncomputable abbrev Yo:ac V->ac ah->Prop:=Paired Yw
def Yo.length(r:Yo xs us):xs.length=us.length:=Paired.length r
def Yo.get:∀{xs:ac V}{us:ac ah}{i:Nat}{x:V},Yo xs us->xs[i]?=À x->∃u,us[i]?=À u/\Yw x u
 |_,_,_,_,.nil,e=>by simp at e
 |_,_,0,_,.cons r _,e=>by simp at e;subst e;show⟨_,Z,r⟩
 |_,_,i+1,x,.cons _ t,e=>by
  let⟨u,h1,h2⟩:=Yo.get (i:=i) (x:=x) t (by simpa using e);show⟨u,by simpa using h1,h2⟩
def Yo.set(r:Yw x u):∀{xs:ac V}{us:ac ah} (i:Nat),Yo xs us->Yo (xs.set i x) (us.set i u)
 |_,_,_,.nil=>.nil
 |_,_,0,.cons _ t=>.cons r t
 |_,_,i+1,.cons q t=>.cons q<|Yo.set r i t
def Yo.append:∀{xs ys:ac V}{us ws:ac ah},Yo xs us->Yo ys ws->Yo (xs++ys) (us++ws)
 |_,_,_,_,.nil,s=>s
 |_,_,_,_,.cons r t,s=>.cons r<|Yo.append t s
def Yo.take:∀{xs:ac V}{us:ac ah} (n:Nat),Yo xs us->Yo (xs.take n) (us.take n)
 |_,_,0,_=>.nil
 |_,_,_+1,.nil=>.nil
 |_,_,n+1,.cons r t=>.cons r<|Yo.take n t
def Yo.drop:∀{xs:ac V}{us:ac ah} (n:Nat),Yo xs us->Yo (xs.drop n) (us.drop n)
 |_,_,0,r=>r
 |_,_,_+1,.nil=>.nil
 |_,_,n+1,.cons _ t=>Yo.drop n t
def Yo.none_of:∀{xs:ac V}{us:ac ah}{i:Nat},Yo xs us->xs[i]?=Á->us[i]?=Á:=λ{xs us i} r e=>by
 let h1:=r.length;let h2:xs.length<=i:=YQC.mp e;show YQC.mpr (by lia)
@[ext]def gT:ag V->ag ah->Prop
 |some v,À u=>Yw v u
 |none,Á=>True
 |_,_=>False
@[ext]def KV{κ:Type}:ac (κ×V)->ac (κ×ah)->Prop:=Paired λ(p:κ×V) (q:κ×ah)=>p.1=q.1/\Yw p.2 q.2
@[ext]def kV:db->V
 |.inl i=>.int i
 |.inr x=>.str x
inductive HO where
 |lst (xs:List V)
 |tup (xs:List V)
 |dK (kvs:List (db×V))|dT (kvs:List (List db×V))
 |set (DX:Int->Bool) (n:Nat)
 |ins (C B:Addr) (fs:List (Str×V))
 |own (x:Addr)
 |xd (fs:List (Str×V))
 |met (f x:Addr)
 |rng (lo hi:Int)
 |frz (o:Obj) (u:HO)
 |tbl (ps:Array Value)
 |ext (φ:Heap->Prop)
noncomputable abbrev Hp:=ai->ag HO
@[ext]def upd(H:Hp)(a:ai)(o:HO):Hp:=λb=>if b=a then À o else H b
def YA:upd H a o a=À o:=by unfold upd;rw[if_pos Z]
def YB(h:b≠a):upd H a o b=H b:=by unfold upd;rw[if_neg h]
def YKz:upd (upd H a o) a u=upd H a u:=by
 funext b;unfold upd;split <;> rfl
def Yi{H:Hp}{a b:ai}{o u:HO}(h:H a=À o)(h':H b=À u)(d:o≠u):a≠b:=by
 intro e;subst e;rw[h]at h';show d<|Û h'
def YV{H:Hp}{a b:ai}{o:HO}(h:H a=À o)(h':H b=Á):a≠b:=by
 intro e;subst e;rw[h]at h';cases h'
section
variable (P:Program)(w:World)
@[ext]def ZA(H:Hp)(h:Heap)(a:ai):HO->Prop
 |.lst xs=>xs.length<=sizeLine/\∃(its:ac ah) (n:Nat),Yo xs its/\h.get? a=À { cls:=.type "list",data:=.seq its.toArray n }
 |.tup xs=>xs.length<=sizeLine/\∃its:ac ah,Yo xs its/\IsTup h a its.toArray
 |.dK kvs=>kvs.length<=sizeLine/\(a==sysModules)=Ã/\∃vs,KV kvs vs/\h.DictOf (Yn P w) a vs
 |.dT kvs=>kvs.length<=sizeLine/\(a==sysModules)=Ã/\∃xs:ac<|ac db×ai×ah,
   Paired (λ(p:ac db×V) (q:ac db×ai×ah)=>p.1=q.1/\H q.2.1=À (.tup<|p.1.map kV)/\Yw p.2 q.2.2) kvs xs/\
   ∃o es ep,h.get? a=À o/\o.ExactDict/\o.data=.dict es ep/\es.toList=xs.map (entryOfKey<|tupleKind<|Yn P w)/\(xs.map (·.1)).Nodup
 |.set DX n=>h.SetOf (intKind P w) a DX n
 |.ins C B fs=>H B=À (.own a)/\fs.length<=1000/\B≠a/\h.get? a=À (W.instObj C B)/\
   ∃mA,h.Ns1 B mA/\(∀f,gT (fs.lookup f)<|mA f)/\PySem.Within mA (fs.map (·.1))
 |.own _=>∃o,h.get? a=À o
 |.xd fs=>∃mA,h.Ns1 a mA/\∀f,gT (fs.lookup f)<|mA f
 |.rng lo hi=>∃t u v,h.get? a=À { cls:=.type "range",data:=.fields #[.int lo t,.int hi u,.int 1 v] }
 |.frz o u=>h.get? a=À o/\ZA H h a u
 |.tbl ps=>h.get? a=À { cls:=.none,data:=.fields ps }
 |.met f x=>h.get? a=À (W.methodObj (.ref f)<|.ref x)
 |.ext φ=>φ h/\(∃o,h.get? a=À o)/\∀h1 h2:Heap,φ h1->(∀o,h1.get? a=À o->h2.get? a=À o)->φ h2
@[ext]def fB(H:Hp)(h:Heap):Prop:=∀a o,H a=À o->ZA P w H h a o
end
section
variable {P:Program}{w:World}{H H':Hp}{h h':Heap}{a:ai}{o:HO}
def ZA.lt(x:ZA P w H h a o):a<h.objs.size:=by
 cases o with
 |lst xs=>let⟨_,_,_,_,e⟩:=x;show Í e
 |tup xs=>let⟨_,_,_,p⟩:=x;show p.lt
 |dK kvs=>let⟨_,_,_,_,o,_,_,e,_⟩:=x;show Í e
 |dT kvs=>let⟨_,_,_,_,o,_,_,e,_⟩:=x;show Í e
 |set DX n=>let⟨o,_,_,_,e,_⟩:=x;show Í e
 |ins C B fs=>let⟨_,_,_,e,_⟩:=x;show Í e
 |own y=>let⟨_,e⟩:=x;show Í e
 |xd fs=>let⟨_,⟨_,_,_,e,_⟩,_⟩:=x;show Í e
 |rng lo hi=>let⟨_,_,_,e⟩:=x;show Í e
 |frz ob u=>let⟨e,_⟩:=x;show Í e
 |tbl ps=>show Í (show h.get? a=À _ from x)
 |met f y=>show Í (show h.get? a=À _ from x)
 |ext φ=>let⟨_,⟨_,e⟩,_⟩:=x;show Í e
def Paired.mapP{α β:Type}{F G:α->β->Prop}:∀{l₁:ac α}{l₂:ac β},Paired F l₁ l₂->(∀a b,F a b->G a b)->Paired G l₁ l₂
 |_,_,.nil,_=>.nil
 |_,_,.cons r t,f=>.cons (f _ _ r)<|Paired.mapP t f
def ZA.stay(x:ZA P w H h a o)(k:∀b u,(b=a\/H b=À (.own a))->h.get? b=À u->h'.get? b=À u)
  (ho:∀b,H b=À (.own a)->H' b=À (.own a))(ht:∀b xs,H b=À (.tup xs)->H' b=À (.tup xs)):ZA P w H' h' a o:=by
 induction o with
 |lst xs=>let⟨z,its,n,r,e⟩:=x;show⟨z,its,n,r,k _ _ (.inl Z) e⟩
 |tup xs=>let⟨z,its,r,ob,e,c⟩:=x;show⟨z,its,r,ob,k _ _ (.inl Z) e,c⟩
 |dK kvs=>let⟨z,y,vs,r,ob,es,ep,e,c⟩:=x;show⟨z,y,vs,r,ob,es,ep,k _ _ (.inl Z) e,c⟩
 |dT kvs=>
  let⟨z,y,xs,r,ob,es,ep,e,c⟩:=x;show⟨z,y,xs,Paired.mapP r λp q z=>⟨z.1,ht _ _ z.2.1,z.2.2⟩,ob,es,ep,k _ _ (.inl Z) e,c⟩
 |set DX n=>let⟨ob,es,ep,t,e,c⟩:=x;show⟨ob,es,ep,t,k _ _ (.inl Z) e,c⟩
 |ins C B fs=>
  let⟨d,z,ne,e,mA,⟨od,es,ep,e2,c⟩,r⟩:=x;show⟨ho _ d,z,ne,k _ _ (.inl Z) e,mA,⟨od,es,ep,k _ _ (.inr d) e2,c⟩,r⟩
 |own y=>let⟨ob,e⟩:=x;show⟨ob,k _ _ (.inl Z) e⟩
 |xd fs=>let⟨mA,⟨od,es,ep,e,c⟩,r⟩:=x;show⟨mA,⟨od,es,ep,k _ _ (.inl Z) e,c⟩,r⟩
 |rng lo hi=>let⟨t,u,v,e⟩:=x;show⟨t,u,v,k _ _ (.inl Z) e⟩
 |frz ob u ih=>let⟨e,q⟩:=x;show⟨k _ _ (.inl Z) e,ih q⟩
 |tbl ps=>
  let e:h.get? a=À { cls:=.none,data:=.fields ps }:=x;change h'.get? a=À { cls:=.none,data:=.fields ps };show k a _ (.inl Z) e
 |met f y=>
  let e:h.get? a=À (W.methodObj (.ref f)<|.ref y):=x;change h'.get? a=À (W.methodObj (.ref f)<|.ref y);show k a _ (.inl Z) e
 |ext φ=>let⟨p,⟨o,e⟩,st⟩:=x;show⟨st _ _ p λo q=>k _ _ (.inl Z) q,⟨o,k _ _ (.inl Z) e⟩,st⟩
def fB.lt(x:fB P w H h)(e:H a=À o):a<h.objs.size:=(x a o e).lt
def fB.fresh(x:fB P w H h)(e:h.objs.size<=a):H a=Á:=by
 cases q:H a with
 |none=>rfl
 |some u=>show absurd (á (x.lt q) e)<|ó _
def fB.kept(x:fB P w H h)(k:∀b u,h.get? b=À u->h'.get? b=À u):fB P w H h':=λa o e=>
 (x a o e).stay (λb u _ q=>k b u q) (λ_ q=>q) λ_ _ q=>q
def fB.laid(x:fB P w H h)(k:∀b u,h.get? b=À u->h'.get? b=À u)(hp:h.objs.size<=a)(new:ZA P w (upd H a o) h' a o):fB P w (upd H a o) h':=λb u e=>by
 let hn:=x.fresh hp;by_cases hb:b=a;subst hb;rw[YA]at e;cases e;show new;rw[YB hb]at e;show(x b u e).stay (λc v _ q=>k c v q) (λc q=>by rw[YB<|YV q hn];show q) λc xs q=>by rw[YB<|YV q hn];show q
end
@[ext]def Rd(H:Hp)(a:ai)(u:HO):Prop:=H a=À u\/∃o,H a=À (.frz o u)
def Rd.ok(r:Rd H a u)(x:fB P w H h):ZA P w H h a u:=by
 rcases r with r|⟨o,r⟩
 show x a u r;let⟨_,q⟩:=x a _ r;show q
@[ext]def DF:ag HO->Prop
 |some (.lst _)=>True
 |some (.dK _)=>True
 |some (.dT _)=>True
 |some (.set _ _)=>True
 |some (.ins _ _ _)=>True
 |some (.ext _)=>True
 |_=>False
section
variable {P:Program}{w:World}{H:Hp}{h h':Heap}{x e:ai}{o':HO}
def fB.write(ok:fB P w H h)(mu:DF<|H x)(he:e=x\/H e=À (.own x))(k:∀b u,b≠e->h.get? b=À u->h'.get? b=À u)(t8:∃u,h'.get? e=À u)
  (new:ZA P w (upd H x o') h' x o'):fB P w (upd H x o') h':=λb u q=>by
 let nown:∀c y,H c=À (.own y)->c≠x:=λc y r z=>by subst z;rw[r]at mu;show mu
 let ntup:∀c xs,H c=À (.tup xs)->c≠x:=λc xs r z=>by subst z;rw[r]at mu;show mu
 by_cases hb:b=x;subst hb;rw[YA]at q;cases q;show new;rw[YB hb]at q;by_cases hbe:b=e;let q':H b=À (.own x):=by
  rcases he with z|z
  show absurd (hbe.trans z) hb;rw[hbe];show z
 rw[q]at q';cases q';let⟨v,hv⟩:=t8;show⟨v,by rw[hbe];show hv⟩;show(ok b u q).stay (λc v hc r=>k c v ?_ r) (λc r=>by rw[YB<|nown c b r];show r) λc xs r=>by rw[YB<|ntup c xs r];show r
 rcases hc with rfl|hc
 show hbe;rintro rfl;rcases he with z|z
 show nown c b hc z;rw[hc]at z;cases z;show hb Z
end
structure Un(fs ex:List Addr)(H H':Hp)(h h':Heap):Prop where
 keep:∀b o,h.get? b=À o->H b=Á->b∉fs->b∉ex->h'.get? b=À o
 slot:∀b o,h.get? b=À o->H b=Á->b∈fs->b∉ex->∃sl,h'.get? b=À { o with slots:=sl }
 free:∀b o,h.get? b=À o->H b=Á->b∉ex->H' b=Á
 there:∀b o,h.get? b=À o->b∉ex->∃o',h'.get? b=À o'
 tups:∀b xs,H b=À (.tup xs)->H' b=À (.tup xs)
 frzs:∀b o u,H b=À (.frz o u)->H' b=À (.frz o u)
 tbls:∀b ps,H b=À (.tbl ps)->∃more,H' b=À (.tbl<|ps++more)
section
variable {fs lN ex ex':ac ai}{H H1 H2:Hp}{h h1 h2 h':Heap}{a x e:ai}{o:HO}
def Un.any(u:Un fs ex H H1 h h1)(q:h.get? b=À ob)(n:H b=Á)(S:b∉ex):∃sl,h1.get? b=À { ob with slots:=sl }:=by
 by_cases hb:b∈fs;show u.slot b ob q n hb S;show⟨ob.slots,u.keep b ob q n hb S⟩
def Un.trans(a:Un fs ex H H1 h h1)(b:Un fs ex H1 H2 h1 h2):Un fs ex H H2 h h2 where
 keep:=λc ob q n hc S=>b.keep c ob (a.keep c ob q n hc S) (a.free c ob q n S) hc S
 slot:=λc ob q n hc S=>by
  let⟨sl,e1⟩:=a.slot c ob q n hc S;let⟨qO,e2⟩:=b.slot c _ e1 (a.free c ob q n S) hc S;show⟨qO,e2⟩
 free:=λc ob q n S=>by
  let⟨o',e1⟩:=a.there c ob q S;show b.free c o' e1 (a.free c ob q n S) S
 there:=λc ob q S=>by
  let⟨o',e1⟩:=a.there c ob q S;show b.there c o' e1 S
 tups:=λc xs q=>b.tups c xs (a.tups c xs q)
 frzs:=λc ob xs q=>b.frzs c ob xs (a.frzs c ob xs q)
 tbls:=λc ps q=>by
  let⟨m1,e1⟩:=a.tbls c ps q;let⟨m2,e2⟩:=b.tbls c _ e1;show⟨m1++m2,by rw[e2,Array.append_assoc]⟩
def Un.kept(k:∀b u,h.get? b=À u->h'.get? b=À u):Un fs ex H H h h':=
 ⟨λb ob q _ _ _=>k b ob q,λb ob q _ _ _=>⟨ob.slots,k b ob q⟩,λ_ _ _ n _=>n,λb ob q _=>⟨ob,k b ob q⟩,λ_ _ q=>q,λ_ _ _ q=>q,λ_ ps q=>⟨#[],by rw[q];simp⟩⟩
def Un.refl:Un fs ex H H h h:=Un.kept λ_ _ q=>q
def Un.laid(k:∀b u,h.get? b=À u->h'.get? b=À u)(hp:h.objs.size<=a)(hn:H a=Á):Un fs ex H (upd H a o) h h' where
 keep:=λb u q _ _ _=>k b u q
 slot:=λb u q _ _ _=>⟨u.slots,k b u q⟩
 free:=λb u q n _=>by rw[YB<|Ü<|á (Í q) hp];show n
 there:=λb u q _=>⟨u,k b u q⟩
 tups:=λb xs q=>by rw[YB<|YV q hn];show q
 frzs:=λb u xs q=>by rw[YB<|YV q hn];show q
 tbls:=λb ps q=>⟨#[],by rw[YB<|YV q hn,q];simp⟩
def Un.write(mu:DF<|H x)(he:e=x\/H e=À (.own x))(k:∀b u,b≠e->h.get? b=À u->h'.get? b=À u)(t8:∃u,h'.get? e=À u):Un fs ex H (upd H x o) h h':=by
 let S:∀b,H b=Á->b≠x:=λb n z=>by subst z;rw[n]at mu;show mu
 let hb:∀b,H b=Á->b≠e:=λb n z=>by
  subst z;rcases he with r|r
  show S b n r;rw[n]at r;cases r
 let hm:∀b u,H b=À u->¬DF (À u)->b≠x:=λb u q nm z=>by subst z;rw[q]at mu;show nm mu
 show⟨λb u q n _ _=>k b u (hb b n) q,λb u q n _ _=>⟨u.slots,k b u (hb b n) q⟩,λb u q n _=>by rw[YB<|S b n];show n,λb u q _=>?_,
  λb xs q=>by rw[YB<|hm b _ q λz=>z];show q,λb u xs q=>by rw[YB<|hm b _ q λz=>z];show q,λb ps q=>⟨#[],by rw[YB<|hm b _ q λz=>z,q];simp⟩⟩
 by_cases hbe:b=e;subst hbe;show t8;show⟨u,k b u hbe q⟩
end
@[ext]def ļ(h:Heap)(H:Hp):ac ai:=(List.range h.objs.size).filter λa=>(H a).isSome
@[ext]def oz(h:Heap)(H:Hp):Heap:=W.hideAll h<|ļ h H
def YMI(h:Heap)(H:Hp):(oz h H).objs.size=h.objs.size:=W.hideAll_size _ _
def YM3(e:h.get? b=À o)(n:H b=Á):(oz h H).get? b=À o:=
 W.hideAll_get _ e λhm=>by
  let q:(H b).isSome=Â:=(YPg.mp hm).2;rw[n]at q;simp at q
def mP(e:(oz h H).get? b=À o):h.get? b=À o/\H b=Á:=by
 let e':h.get? b=À o:=W.of_hideAll (ļ h H) e;show⟨e',?_⟩;cases q:H b with
 |none=>rfl
 |some x=>
  let hm:b∈ļ h H:=YPg.mpr ⟨YPY.mpr<|Í e',by simp[q]⟩;let z:(oz h H).get? b=Á:=W.hideAll_none (ļ h H) hm;rw[z]at e;cases e
@[ext]def oB(g h:Heap)(DZ:ai):ac<|ai×Obj:=(List.range h.objs.size).filterMap λa=>if a=DZ\/(g.get? a).isSome=Â then Á else (h.get? a).map λo=>(a,o)
@[ext]def Yu(g h:Heap)(DZ d:ai):ac<|ai×Obj:=(oB g h DZ).filter λp=>decide (p.1≠d)
structure Mod(K:W.Frag)(mg:Str->Option Value)(base:Heap):Prop where
 kin:K.In base
 glob:base.Ns mainGlobals mg
 blt:∃mb,base.Ns builtinsNs mb/\∀x:Str,x≠"__name__"->mb x=bootBuiltins x
 nolimit:base.NoLimit
structure Cx where
 prog:Program
 w:World
 K:W.Frag
 mg:Str->Option Value
 base:Heap
 A:Around
 N:List Str
 s₀:Shared
 H₀:Hp
 env:Env
 outer:List Env
 stack:List Env
 ex:List Addr
 fn:Str->Bool
 calm:Bool
 pn:List (Addr×Obj)
 xe:Value->Shared->Prop
@[ext]def fx(l:ac Env):ac ai:=l.filterMap (·.frame)
noncomputable abbrev Cx.fs(X:Cx):ac ai:=fx X.outer
@[ext]def CC(sc:Scope)(x:am):Prop:=sc.names.lookup x=À .local\/sc.names.lookup x=À .cell\/sc.names.lookup x=À .free
@[ext]def oZ(sc:Scope)(x:am):Prop:=sc.names.lookup x=À .local\/sc.names.lookup x=À .cell
@[ext]def ş(env:Env)(h:Heap)(m:am->ag ah)(x:am)(u:ah):Prop:=
 (env.kindOf x=À .local/\m x=À u)\/((env.kindOf x=À .cell\/env.kindOf x=À .free)/\∃c,env.cells.lookup x=À c/\h.IsCell c (À u))
structure Cx.Ok(X:Cx):Prop where
 mod:Mod X.K X.mg X.base
 kind:X.env.scope.kind=.function
 glob:X.env.globals=mainGlobals
 blt:X.env.builtins=builtinsNs
 above:X.s₀.heap.objs.size<=X.env.locals
 inj:∀x y c,X.env.cells.lookup x=À c->X.env.cells.lookup y=À c->x=y
 has:∀x,(X.env.kindOf x=À .cell\/X.env.kindOf x=À .free)->∃c,X.env.cells.lookup x=À c
 cab:∀x c,X.fn x=Â->X.env.cells.lookup x=À c->X.s₀.heap.objs.size<=c
 hd:X.calm=Â->X.A.handled=Á
 frames:X.A.frames=À X.stack
 stk:X.stack=X.outer\/(X.stack=X.env::X.outer/\X.env.frame=À X.env.locals)
 exf:∀b∈X.ex,b≠X.env.locals/\∀x c,X.env.cells.lookup x=À c->c≠b
 bs:∀b o,X.base.get? b=À o->X.s₀.heap.get? b=À o/\X.H₀ b=Á
 bsz:X.base.objs.size<=X.s₀.heap.objs.size
 noex:∀b o,X.base.get? b=À o->b∉X.ex
 exfs:∀b∈X.ex,b∉X.fs
 funs:X.s₀.heap.FunFrames X.base X.outer
 frf:∀b∈X.fs,X.H₀ b=Á
structure aX(X:Cx)(O:List (Addr×Obj))(σ:List (Option V))(H:Hp)(s:Shared):Prop where
 ok:X.Ok
 os:s.os=X.s₀.os
 bare:AllBare s.gens
 base:Un X.fs X.ex X.H₀ H X.s₀.heap s.heap
 loc:∃m,s.heap.Ns X.env.locals m/\∀(i:Nat) (x:Str) (v:V),X.N[i]?=À x->σ[i]?=À (À v)->CC X.env.scope x->∃u,Yw v u/\ş X.env s.heap m x u
 cell:∀x c,X.env.cells.lookup x=À c->∃v,s.heap.IsCell c v
 free:H X.env.locals=Á
 freeC:∀x c,X.env.cells.lookup x=À c->H c=Á
 pin:∀p∈X.pn++O,s.heap.get? p.1=À p.2/\H p.1=Á/\p.1≠X.env.locals/\p.1∉X.fs/\∀v,p.2.data≠.cell v
 hok:fB X.prog X.w H s.heap
 len:σ.length=X.N.length
section
variable {X:Cx}{O:ac (ai×Obj)}{σ:ac (ag V)}{H H':Hp}{s:al}{h':Heap}
def Cx.Ok.nofr(ok:X.Ok)(e:X.base.get? b=À o):b∉X.fs:=λhb=>by
 have:=(ok.funs.mem hb).1;rw[e]at this;cases this
def aX.bs(I:aX X O σ H s):∀b o,X.base.get? b=À o->s.heap.get? b=À o/\H b=Á:=λb o e=>
 ⟨I.base.keep b o (I.ok.bs b o e).1 (I.ok.bs b o e).2 (I.ok.nofr e) (I.ok.noex b o e),I.base.free b o (I.ok.bs b o e).1 (I.ok.bs b o e).2 (I.ok.noex b o e)⟩
def aX.bk(I:aX X O σ H s):∀b o,X.base.get? b=À o->s.heap.get? b=À o:=λb o e=>(I.bs b o e).1
def aX.mod(I:aX X O σ H s):Mod X.K X.mg X.base:=I.ok.mod
def aX.kIn(I:aX X O σ H s):X.K.In s.heap:=I.ok.mod.kin.keeps I.bk
def aX.lt(I:aX X O σ H s):X.env.locals<s.heap.objs.size:=let ⟨_,hn,_⟩:=I.loc;hn.lt
def aX.sz(I:aX X O σ H s):X.s₀.heap.objs.size<=s.heap.objs.size:=Ú I.ok.above<|ê I.lt
def aX.nofs(I:aX X O σ H s)(h:s.heap.objs.size<=a):a∉X.fs:=λhb=>by
 let⟨_,o,ho,_⟩:=I.ok.funs.mem hb;show absurd (á (Í ho)<|Ú I.sz h)<|ó _
def aX.cne(I:aX X O σ H s):∀x c,X.env.cells.lookup x=À c->c≠X.env.locals:=λx c e z=>by
 let⟨v,o,ho,hd⟩:=I.cell x c e;let⟨m,⟨o',es,ep,ho',hd',_⟩,_⟩:=I.loc;rw[z,ho']at ho;cases ho;rw[hd']at hd;cases hd
def aX.funs(I:aX X O σ H s):s.heap.FunFrames X.base X.outer:=by
 let all:∀(l:ac Env),(∀b∈fx l,b∈X.fs)->X.s₀.heap.FunFrames X.base l->s.heap.FunFrames X.base l:=by
  intro l
  induction l with
  |nil=>intro _ _;trivial
  |cons env r ih=>
   intro hs hl;let⟨hk,⟨DZ,o,hf,hn,ho,hd⟩,hr⟩:=hl;let hL:DZ∈X.fs:=hs DZ (by unfold fx;rw[ď,hf];show É);let⟨sl,e⟩:=I.base.slot DZ o ho (I.ok.frf DZ hL) hL λz=>I.ok.exfs DZ z hL;show⟨hk,⟨DZ,_,hf,hn,e,hd⟩,ih (λb hb=>hs b (by unfold fx;rw[ď,hf];show Ç _ hb)) hr⟩
 show all X.outer (λ_ hb=>hb) I.ok.funs
def aX.stack(I:aX X O σ H s):s.heap.FunFrames X.base X.stack:=by
 rcases I.ok.stk with e|⟨e,hf⟩
 rw[e];show I.funs;rw[e];let⟨m,hn,_⟩:=I.loc;show .cons (by rw[I.ok.kind];decide) hf hn ?_ I.funs;show Heap.get?_none_of_le<|Ú I.ok.bsz I.ok.above
def aX.stkSub(I:aX X O σ H s):∀b∈fx X.stack,b∈X.env.locals::X.fs:=λb hb=>by
 rcases I.ok.stk with e|⟨e,hf⟩
 rw[e]at hb;show Ç _ hb;rw[e]at hb;unfold fx at hb;rw[ď,hf]at hb;show hb
def aX.stkFree(I:aX X O σ H s):∀b∈fx X.stack,H b=Á:=λb hb=>by
 rcases YO9.mp (I.stkSub b hb) with e|hb
 rw[e];show I.free;let⟨_,o,ho,_⟩:=I.ok.funs.mem hb;show I.base.free b o ho (I.ok.frf b hb) λz=>I.ok.exfs b z hb
def aX.step{g':Array GenState}{t':Nat}{d':Drawn}{ch:ac ai}(I:aX X O σ H s)
  (mC:∀b∈ch,(b∈X.ex\/X.s₀.heap.objs.size<=b)/\b≠X.env.locals/\(∀x c,X.env.cells.lookup x=À c->c≠b)/\∀p∈X.pn++O,p.1≠b)
  (keep:∀b o,b≠X.env.locals->b∉X.fs->b∉ch->s.heap.get? b=À o->H b=Á->h'.get? b=À o)
  (slot:∀b o,b≠X.env.locals->b∈X.fs->b∉ch->s.heap.get? b=À o->H b=Á->∃sl,h'.get? b=À { o with slots:=sl })(free:∀b o,b∉ch->s.heap.get? b=À o->H b=Á->H' b=Á)
  (there:∀b o,b∉ch->s.heap.get? b=À o->∃o',h'.get? b=À o')
  (tups:∀b xs,H b=À (.tup xs)->H' b=À (.tup xs))(frzs:∀b o u,H b=À (.frz o u)->H' b=À (.frz o u))(tbls:∀b ps,H b=À (.tbl ps)->∃more,H' b=À (.tbl<|ps++more))
  (ns:∀m,s.heap.Ns X.env.locals m->h'.Ns X.env.locals m)(hok:fB X.prog X.w H' h')(hg:AllBare g'):
  aX X O σ H' { s with heap:=h',gens:=g',drawn:=d',toks:=t' }:=by
 let neL:∀b o,X.s₀.heap.get? b=À o->b≠X.env.locals:=λb o e=>Ü<|á (Í e) I.ok.above;let neC:∀b o,X.s₀.heap.get? b=À o->b∉X.ex->b∉ch:=λb o e S hb=>by
  rcases(mC b hb).1 with z|z
  show S z;show absurd (á (Í e) z)<|ó _
 let cellK:∀x c,X.env.cells.lookup x=À c->∀v,s.heap.IsCell c v->h'.IsCell c v:=λx c e v ⟨o,ho,hd⟩=>by
  let nch:c∉ch:=λz=>(mC c z).2.2.1 x c e Z;by_cases hc:c∈X.fs;let⟨sl,q⟩:=slot c o (I.cne x c e) hc nch ho<|I.freeC x c e;show⟨_,q,hd⟩;show⟨o,keep c o (I.cne x c e) hc nch ho<|I.freeC x c e,hd⟩
 show⟨I.ok,I.os,hg,⟨λb o e n hb S=>?_,λb o e n hb S=>?_,λb o e n S=>?_,λb o e S=>?_,λb xs e=>tups b xs<|I.base.tups b xs e,λb o xs e=>frzs b o xs<|I.base.frzs b o xs e,λb ps e=>?_⟩,?_,λx c e=>?_,?_,λx c e=>?_,λp hp=>?_,hok,I.len⟩;show keep b o (neL b o e) hb (neC b o e S) (I.base.keep b o e n hb S)<|I.base.free b o e n S;let⟨sl,e1⟩:=I.base.slot b o e n hb S;let⟨qO,e2⟩:=slot b _ (neL b o e) hb (neC b o e S) e1<|I.base.free b o e n S;show⟨qO,e2⟩;let⟨o',e1⟩:=I.base.there b o e S;show free b o' (neC b o e S) e1<|I.base.free b o e n S;let⟨o',e1⟩:=I.base.there b o e S;show there b o' (neC b o e S) e1;let⟨m1,e1⟩:=I.base.tbls b ps e;let⟨m2,e2⟩:=tbls b _ e1;show⟨m1++m2,by rw[e2,Array.append_assoc]⟩;let⟨m,hn,hl⟩:=I.loc;show⟨m,ns m hn,λi x v e1 e2 e3=>?_⟩;let⟨u,r,l⟩:=hl i x v e1 e2 e3;show⟨u,r,?_⟩;rcases l with l|⟨k,c,e,z⟩
 show .inl l;show .inr ⟨k,c,e,cellK x c e _ z⟩;let⟨v,z⟩:=I.cell x c e;show⟨v,cellK x c e v z⟩;let⟨m,⟨o,_,_,ho,_⟩,_⟩:=I.loc;show free _ o (λz=>(mC _ z).2.1 rfl) ho I.free;let⟨v,o,ho,hd⟩:=I.cell x c e;show free c o (λz=>(mC c z).2.2.1 x c e Z) ho<|I.freeC x c e;let⟨e,n,ne,nf,d⟩:=I.pin p hp;let nch:p.1∉ch:=λz=>(mC p.1 z).2.2.2 p hp Z;show⟨keep p.1 p.2 ne nf nch e n,free p.1 p.2 nch e n,ne,nf,d⟩
def aX.un{t':Nat}(I:aX X O σ H s)(u:Un X.fs [] H H' s.heap h')(hok:fB X.prog X.w H' h'):aX X O σ H' { s with heap:=h',toks:=t' }:=by
 let⟨m,⟨o,es,ep,ho,r⟩,_⟩:=id I.loc;let⟨sl,hL⟩:=u.any ho I.free (by simp);show I.step (g':=s.gens) (d':=s.drawn) (ch:=[]) (λ_ z=>nomatch z) (λb o _ hb _ e n=>u.keep b o e n hb (by simp)) (λb o _ hb _ e n=>u.slot b o e n hb (by simp)) (λb o _ e n=>u.free b o e n (by simp)) (λb o _ e=>u.there b o e (by simp)) u.tups u.frzs u.tbls (λm' hm=>by
  let⟨o',es',ep',ho',r'⟩:=hm;rw[ho]at ho';cases ho';show⟨_,es',ep',hL,r'⟩) hok I.bare
def aX.call{g':Array GenState}{t':Nat}{d':Drawn}{ch:ac ai}(I:aX X O σ H s)(u:Un (fx X.stack) ch H H' s.heap h')(hok:fB X.prog X.w H' h')(hg:AllBare g')
  (mC:∀b∈ch,(b∈X.ex\/X.s₀.heap.objs.size<=b)/\b≠X.env.locals/\(∀x c,X.env.cells.lookup x=À c->c≠b)/\∀p∈X.pn++O,p.1≠b):
  aX X O σ H' { s with heap:=h',gens:=g',drawn:=d',toks:=t' }:=by
 let⟨m,⟨o,es,ep,ho,r⟩,_⟩:=id I.loc;let⟨sl,hL⟩:=u.any ho I.free λz=>(mC _ z).2.1 rfl;show I.step (ch:=ch) mC (λb o hL hb hc e n=>u.keep b o e n (λz=>(YO9.mp<|I.stkSub b z).elim hL hb) hc) (λb o _ _ hc e n=>u.any e n hc) (λb o hc e n=>u.free b o e n hc) (λb o hc e=>u.there b o e hc) u.tups u.frzs u.tbls (λm' hm=>by
  let⟨o',es',ep',ho',r'⟩:=hm;rw[ho]at ho';cases ho';show⟨_,es',ep',hL,r'⟩) hok hg
def aX.turned{t':Nat}{it:ai}(I:aX X O σ H s)(k:∀b o,b≠it->s.heap.get? b=À o->h'.get? b=À o)(hn:H it=Á)(hL:it≠X.env.locals)
  (h1:it∈X.ex\/X.s₀.heap.objs.size<=it)(h2:∀x c,X.env.cells.lookup x=À c->c≠it)(h3:∀p∈X.pn++O,p.1≠it):aX X O σ H { s with heap:=h',toks:=t' }:=by
 let nit:∀b u,H b=À u->b≠it:=λb u e z=>by rw[z,hn]at e;cases e
 show I.step (g':=s.gens) (d':=s.drawn) (ch:=[it]) (λb hb=>?_) (λb o _ _ hc e _=>k b o (λz=>hc (by simp[z])) e) (λb o _ _ hc e _=>⟨o.slots,k b o (λz=>hc (by simp[z])) e⟩) (λ_ _ _ _ n=>n)
  (λb o hc e=>⟨o,k b o (λz=>hc (by simp[z])) e⟩) (λ_ _ e=>e) (λ_ _ _ e=>e) (λb ps e=>⟨#[],by rw[e];simp⟩) (λm hm=>?_) (λb u e=>?_) I.bare
 let e:b=it:=by simpa using hb
 subst e;show⟨h1,hL,h2,h3⟩;let⟨o,es,ep,ho,r⟩:=hm;show⟨o,es,ep,k _ o (Ne.symm hL) ho,r⟩;show(I.hok b u e).stay (λc v hc q=>k c v ?_ q) (λ_ q=>q) λ_ _ q=>q;rcases hc with z|z
 rw[z];show nit b u e;show nit c _ z
def aX.tok(I:aX X O σ H s)(t:Nat):aX X O σ H { s with toks:=t }:=I.un (h':=s.heap) (t':=t) Un.refl I.hok
def aX.kept(I:aX X O σ H s)(k:∀b u,s.heap.get? b=À u->h'.get? b=À u):aX X O σ H { s with heap:=h',toks:=t' }:=I.un (Un.kept k)<|I.hok.kept k
def aX.laid(I:aX X O σ H s)(k:∀b u,s.heap.get? b=À u->h'.get? b=À u)(hp:s.heap.objs.size<=a)(new:ZA X.prog X.w (upd H a o) h' a o):
  aX X O σ (upd H a o) { s with heap:=h',toks:=t' }:=I.un (Un.laid k hp<|I.hok.fresh hp)<|I.hok.laid k hp new
def aX.write(I:aX X O σ H s)(mu:DF<|H x)(he:e=x\/H e=À (.own x))(k:∀b u,b≠e->s.heap.get? b=À u->h'.get? b=À u)(t8:∃u,h'.get? e=À u)
  (new:ZA X.prog X.w (upd H x o) h' x o):aX X O σ (upd H x o) { s with heap:=h',toks:=t' }:=I.un (Un.write mu he k t8)<|I.hok.write mu he k t8 new
def aX.pins_of(I:aX X O σ H s)(h:∀p∈uU,s.heap.get? p.1=À p.2/\H p.1=Á/\p.1≠X.env.locals/\p.1∉X.fs/\∀v,p.2.data≠.cell v):aX X uU σ H s:=
 ⟨I.ok,I.os,I.bare,I.base,I.loc,I.cell,I.free,I.freeC,λp hp=>(YPD.mp hp).elim (λz=>I.pin p<|Õ _ z)<|h p,I.hok,I.len⟩
def YIH{N:ac am}(hN:N.Nodup){i j:Nat}{x:am}(a:N[i]?=À x)(b:N[j]?=À x):i=j:=by
 let⟨h1,e1⟩:=YOx.mp a;let⟨h2,e2⟩:=YOx.mp b;show(List.getElem_inj hN).mp<|e1.trans e2.symm
def YMJ{M:Model}{A:Around}{E:ah->al->Prop}{i:Nat}{x:am}{v:V}{u:ah}{Q:Unit->al->Prop}(I:aX X O σ H s)(hN:X.N.Nodup)(hi:X.N[i]?=À x)(S:oZ X.env.scope x)(r:Yw v u)
  (h:∀s',aX X O (σ.set i<|some v) H s'->(∃a,Heap.SameBut a s.heap s'.heap/\(a=X.env.locals\/X.env.cells.lookup x=À a))->Q () s')(hf:X.fn x=Â\/X.env.scope.names.lookup x=À .local:=by first|show .inl rfl|show .inr rfl|assumption):wpAny M A (storeName X.env x u) Q E s:=by
 let⟨m,hn,hl⟩:=id I.loc;let yR:(X.env.scope.kind==.class || (X.env.scope.kind==.module&&X.env.locals !=X.env.globals))=Ã:=by rw[I.ok.kind];rfl
 let hiσ:i<σ.length:=by rw[I.len];show(YOx.mp hi).1
 let cne:=I.cne;let tracked:∀{a:ai}{h':Heap},(∃o,s.heap.get? a=À o/\H a=Á)->Heap.SameBut a s.heap h'->fB X.prog X.w H h':=λ{a h'} ha hs b ob e=>by
  let⟨_,_,hfree⟩:=ha;show(I.hok b ob e).stay (λc w' hc q=>(hs.2 c ?_).trans q) (λ_ q=>q) λ_ _ q=>q;rintro rfl;rcases hc with rfl|hc
  rw[hfree]at e;cases e;rw[hfree]at hc;cases hc
 rcases S with hk|hk
 show wpAny_storeName_local hk hn (λh' hn' hs=>?_) yR;let⟨oL,_,_,hoL,_⟩:=id hn;show h _ ⟨I.ok,I.os,I.bare,⟨λb o e n hb S=>?_,λb o e n hb S=>?_,I.base.free,λb o e S=>?_,I.base.tups,I.base.frzs,I.base.tbls⟩,⟨_,hn',λj y v' e1 e2 e3=>?_⟩,λy c e=>?_,I.free,I.freeC,λp hp=>?_,tracked ⟨oL,hoL,I.free⟩ hs,by simpa using I.len⟩ ⟨_,hs,.inl Z⟩;show(hs.2 b<|Ü<|á (Í e) I.ok.above).trans<|I.base.keep b o e n hb S;let⟨sl,e1⟩:=I.base.slot b o e n hb S;show⟨sl,(hs.2 b<|Ü<|á (Í e) I.ok.above).trans e1⟩;let⟨o',e1⟩:=I.base.there b o e S;show⟨o',(hs.2 b<|Ü<|á (Í e) I.ok.above).trans e1⟩;by_cases hj:j=i;subst hj;rw[hi]at e1;cases e1;rw[Ĥ hiσ]at e2;cases e2;show⟨u,r,.inl ⟨hk,by simp⟩⟩;rw[List.getElem?_set_ne<|Ne.symm hj]at e2;let⟨u',r',q⟩:=hl j y v' e1 e2 e3;show⟨u',r',?_⟩;rcases q with ⟨k,e⟩|⟨k,c,e,z⟩
 show .inl ⟨k,?_⟩;have:y≠x:=λe=>hj<|YIH hN e1<|e ▸ hi;simp[this,e];show .inr ⟨k,c,e,z.sameBut hs<|cne y c e⟩;let⟨w',z⟩:=I.cell y c e;show⟨w',z.sameBut hs<|cne y c e⟩;let⟨e,n,ne,nf,d⟩:=I.pin p hp;show⟨(hs.2 p.1 ne).trans e,n,ne,nf,d⟩;let hfn:X.fn x=Â:=by
  rcases hf with z|z
  show z;rw[z]at hk;cases hk
 let⟨c,hc⟩:=I.ok.has x<|.inl hk;let⟨w',z⟩:=I.cell x c hc;show wpAny_storeName_cell I.ok.kind hk hc z<|λh' hc' hs=>?_;let⟨oc,Qz,ym⟩:=id z;show h { s with heap:=h' } ⟨I.ok,I.os,I.bare,⟨λb o e n hb S=>?_,λb o e n hb S=>?_,I.base.free,λb o e S=>?_,I.base.tups,I.base.frzs,I.base.tbls⟩,⟨m,hn.sameBut hs<|Ne.symm<|cne x c hc,λj y v' e1 e2 e3=>?_⟩,λy c' e=>?_,I.free,I.freeC,λp hp=>?_,tracked ⟨oc,Qz,I.freeC x c hc⟩ hs,by simpa using I.len⟩ ⟨c,hs,.inr hc⟩;show(hs.2 b<|Ü<|á (Í e)<|I.ok.cab x c hfn hc).trans<|I.base.keep b o e n hb S;let⟨sl,e1⟩:=I.base.slot b o e n hb S;show⟨sl,(hs.2 b<|Ü<|á (Í e)<|I.ok.cab x c hfn hc).trans e1⟩;let⟨o',e1⟩:=I.base.there b o e S;show⟨o',(hs.2 b<|Ü<|á (Í e)<|I.ok.cab x c hfn hc).trans e1⟩;by_cases hj:j=i;subst hj;rw[hi]at e1;cases e1;rw[Ĥ hiσ]at e2;cases e2;show⟨u,r,.inr ⟨.inl hk,c,hc,hc'⟩⟩;rw[List.getElem?_set_ne<|Ne.symm hj]at e2;let⟨u',r',q⟩:=hl j y v' e1 e2 e3;show⟨u',r',?_⟩;rcases q with q|⟨k,c',e,z'⟩
 show .inl q;show .inr ⟨k,c',e,z'.sameBut hs ?_⟩;rintro rfl;show hj<|YIH hN e1<|I.ok.inj _ _ _ e hc ▸ hi;by_cases hcc:c'=c;subst hcc;show⟨_,hc'⟩;let⟨w2,z2⟩:=I.cell y c' e;show⟨w2,z2.sameBut hs hcc⟩;let⟨e,n,ne,nf,d⟩:=I.pin p hp;show⟨(hs.2 p.1 ?_).trans e,n,ne,nf,d⟩;intro q;rw[q,Qz]at e;let q':oc=p.2:=Û e;show d w' (by rw[<-q'];show ym)
def DQ{E:ah->al->Prop}{Q:Unit->al->Prop}(I:aX X O σ H s)(hN:X.N.Nodup)(hi:X.N[i]?=À x)(S:oZ X.env.scope x)(r:Yw v u)
  (h:∀s',aX X O (σ.set i<|some v) H s'->Q () s')(hf:X.fn x=Â\/X.env.scope.names.lookup x=À .local:=by first|show .inl rfl|show .inr rfl|assumption):wpAny M A (storeName X.env x u) Q E s:=
 YMJ I hN hi S r (λs' I' _=>h s' I') hf
def aX.call'(I:aX X O σ H s)(ho:s'.os=s.os)(u:Un (fx X.stack) ch H H' s.heap s'.heap)(hok:fB X.prog X.w H' s'.heap)(hg:AllBare s'.gens)
  (mC:∀b∈ch,(b∈X.ex\/X.s₀.heap.objs.size<=b)/\b≠X.env.locals/\(∀x c,X.env.cells.lookup x=À c->c≠b)/\∀p∈X.pn++O,p.1≠b):aX X O σ H' s':=by
 let⟨h',g',d',t',o'⟩:=s';let e:o'=s.os:=ho;subst e;show I.call (g':=g') (t':=t') (d':=d') u hok hg mC
end
noncomputable abbrev XK:=ah->ag ai->Hp->Prop
noncomputable abbrev St:=ac<|ag V
noncomputable abbrev VK:=V->Hp->Prop
noncomputable abbrev TE:=St->Hp->VK->Prop
noncomputable abbrev TT:=St->Hp->(Bool->Hp->Prop)->Prop
noncomputable abbrev TA:=St->Hp->(ac V->Hp->Prop)->Prop
structure Jg where
 nx:St->Hp->Prop
 rt:VK
 bk:St->Hp->Prop:=λ_ _=>False
 ct:St->Hp->Prop:=λ_ _=>False
noncomputable abbrev TS:=Jg->St->Hp->Prop
@[ext]def EP(X:Cx)(O:ac<|ai×Obj)(σ:St)(Q:VK)(u:ah)(s':al):Prop:=∃v H',aX X O σ H' s'/\Yw v u/\Q v H'
@[ext]def TP(X:Cx)(O:ac<|ai×Obj)(σ:St)(Q:Bool->Hp->Prop)(b:Bool)(s':al):Prop:=∃H',aX X O σ H' s'/\Q b H'
@[ext]def AP(X:Cx)(O:ac<|ai×Obj)(σ:St)(Q:ac V->Hp->Prop)(us:ac ah)(s':al):Prop:=∃vs H',aX X O σ H' s'/\Yo vs us/\Q vs H'
@[ext]def SP(X:Cx)(O:ac<|ai×Obj)(D:Jg)(f:Flow)(s':al):Prop:=
 match f with
 |.next=>∃σ' H',aX X O σ' H' s'/\D.nx σ' H'
 |.brk=>∃σ' H',aX X O σ' H' s'/\D.bk σ' H'
 |.cont=>∃σ' H',aX X O σ' H' s'/\D.ct σ' H'
 |.ret u=>∃v σ' H',aX X O σ' H' s'/\Yw v u/\D.rt v H'
@[ext]def PE(X:Cx)(e:Expr)(t:TE):Prop:=
 ∀(O:ac<|ai×Obj) (s:al) (σ:St) (H:Hp) (Q:VK),aX X O σ H s->t σ H Q->wpAny (model X.prog X.w) X.A (eval e X.env) (EP X O σ Q) X.xe s
@[ext]def PT(X:Cx)(e:Expr)(t:TT):Prop:=
 ∀(O:ac<|ai×Obj) (s:al) (σ:St) (H:Hp) (Q:Bool->Hp->Prop),aX X O σ H s->t σ H Q->wpAny (model X.prog X.w) X.A (isTrue e X.env<|eval e X.env) (TP X O σ Q) X.xe s
@[ext]def PW(X:Cx)(e:Expr)(t:TT):Prop:=
 ∀(whole:Sem ah) (O:ac<|ai×Obj) (s:al) (σ:St) (H:Hp) (Q:Bool->Hp->Prop),aX X O σ H s->t σ H Q->wpAny (model X.prog X.w) X.A (isTrue e X.env whole) (TP X O σ Q) X.xe s
def PW.pt(h:PW X e t):PT X e t:=h _
@[ext]def PA(X:Cx)(es:ac Expr)(t:TA):Prop:=
 ∀(pos:Pos) (O:ac<|ai×Obj) (s:al) (σ:St) (H:Hp) (Q:ac V->Hp->Prop),aX X O σ H s->t σ H Q->wpAny (model X.prog X.w) X.A (spliced<|backTo pos<|starEach es X.env) (AP X O σ Q) X.xe s
@[ext]def PS(X:Cx)(st:Stmt)(t:TS):Prop:=
 ∀(O:ac<|ai×Obj) (s:al) (σ:St) (H:Hp) (D:Jg),aX X O σ H s->t D σ H->wpAny (model X.prog X.w) X.A (exec st X.env) (SP X O D) X.xe s
@[ext]def gp(X:Cx)(st:ac Stmt)(t:TS):Prop:=
 ∀(O:ac<|ai×Obj) (s:al) (σ:St) (H:Hp) (D:Jg),aX X O σ H s->t D σ H->wpAny (model X.prog X.w) X.A (execs st X.env) (SP X O D) X.xe s
def cy{α:Type}{t:Sem α}{Q Q':α->al->Prop}{M:Model}{A:Around}{E:ah->al->Prop}{s:al}(h:wpAny M A t Q E s)(hQ:∀a s,Q a s->Q' a s):wpAny M A t Q' E s:=wpAny_mono h hQ λ_ _ x=>x
section
variable {X:Cx}
inductive tN(i:Nat)(σ:St)(H:Hp)(Q:VK):Prop
 |mk (v:_):σ[i]?=À (À v)->Q v H->tN i σ H Q
@[ext]def lh(i:Nat):TE:=λσ H Q=>tN i σ H Q
@[ext]def tC(v:V):TE:=λ_ H Q=>Q v H
def xj(hN:X.N[i]?=À x)(hv:CC X.env.scope x)(hd:(x==("__debug__":am))=Ã:=by decide)(hcd:(x==("__classdict__":am))=Ã:=by decide):PE X (.Name x pos)<|lh i:=by
 intro O s σ H Q I h;let⟨v,e,h⟩:=h;let⟨m,hn,hl⟩:=I.loc;let⟨u,r,l⟩:=hl i x v hN e hv;let fin:EP X O σ Q u s:=⟨v,H,I,r,h⟩;rcases l with ⟨hk,hm⟩|⟨hk,c,hc,gU⟩
 show wpAny_Name (wpAny_loadName_local I.ok.kind hk hn hm fin) hd;rcases hk with hk|hk
 show wpAny_Name (wpAny_loadName_cell I.ok.kind hk hc gU fin) hd;show wpAny_Name (wpAny_loadName_free I.ok.kind hk hc gU fin hcd) hd
def YC{i j pos}:PE X (.Constant (.int i) j pos)<|tC<|.int i:=λ_ _ _ H _ I h=>wpAny_Constant_int ⟨.int i,H,I.tok _,⟨_,Z⟩,h⟩
def X3{b j pos}:PE X (.Constant (.bool b) j pos)<|tC<|.bl b:=λ_ _ _ H _ I h=>Constant_bool ⟨.bl b,H,I,Z,h⟩
def Z6{j pos}:PE X (.Constant .none j pos)<|tC .non:=λ_ _ _ H _ I h=>Constant_none ⟨.non,H,I,Z,h⟩
def ZX{x j pos}:PE X (.Constant (.str x) j pos)<|tC<|.str x:=λ_ _ _ H _ I h=>Calls.Constant_str ⟨.str x,H,I.tok _,⟨_,Z⟩,h⟩
@[ext]def Gl(X:Cx)(x:am):Prop:=X.env.kindOf x=À .globalImplicit
def xH{E Q:ah->al->Prop}(I:aX X O σ H s)(hg:Gl X x)(hm:X.mg x=À u)(h:Q u s)
  (hd:(x==("__debug__":am))=Ã:=by decide):wpAny (model X.prog X.w) X.A (eval (.Name x pos) X.env) Q E s:=
 Calls.Name_function_global I.ok.kind hg (Calls.loadGlobal_global (by rw[I.ok.glob];show I.mod.glob.keeps I.bk) hm h) hd
def nv{E Q:ah->al->Prop}(I:aX X O σ H s)(hg:Gl X x)(hm:X.mg x=Á)(hv:bootBuiltins x=À u)(h:Q u s)
  (hn:x≠"__name__":=by decide)(hd:(x==("__debug__":am))=Ã:=by decide):wpAny (model X.prog X.w) X.A (eval (.Name x pos) X.env) Q E s:=by
 let⟨mb,h1,h2⟩:=I.mod.blt;show Calls.Name_function_global I.ok.kind hg (Calls.loadGlobal_builtin (by rw[I.ok.glob];show I.mod.glob.keeps I.bk) hm (by rw[I.ok.blt];show h1.keeps I.bk) ((h2 x hn).trans hv) h) hd
def wb(hg:Gl X x)(hm:X.mg x=À u)(r:Yw v u)(hd:(x==("__debug__":am))=Ã:=by decide):PE X (.Name x pos)<|tC v:=
 λ_ _ _ H _ I h=>xH I hg hm ⟨v,H,I,r,h⟩ hd
def Jn(hg:Gl X x)(hm:X.mg x=Á)(hv:bootBuiltins x=À u)(r:Yw v u)(hn:x≠"__name__":=by decide)(hd:(x==("__debug__":am))=Ã:=by decide):PE X (.Name x pos)<|tC v:=
 λ_ _ _ H _ I h=>nv I hg hm hv ⟨v,H,I,r,h⟩ hn hd
variable {a b:Expr}{ta tb:TE}{pos:Pos}
@[ext]def PC(X:Cx)(op:CmpOp)(a b:Expr)(t:TE):Prop:=
 ∀(O:ac<|ai×Obj) (s:al) (σ:St) (H:Hp) (Q:VK),aX X O σ H s->t σ H Q->
  wpAny (model X.prog X.w) X.A (eval a X.env) (λv s₁=>wpAny (model X.prog X.w) X.A (eval b X.env) (λu s₂=>wpAny (model X.prog X.w) X.A (compareOp op v u) (EP X O σ Q) X.xe s₂) X.xe s₁) X.xe s
inductive tB_(Q:Bool->Hp->Prop)(x:V)(H1:Hp):Prop
 |mk (c:_):x=.bl c->Q c H1->tB_ Q x H1
@[ext]def tB(t:TE):TT:=λσ H Q=>t σ H λx H1=>tB_ Q x H1
def Xm{op:CmpOp}{t:TE}(h:PC X op a b t)(h1:behindInMarks op b=Ã:=by first|show nobehind _ (by decide) (by decide)|rfl):PT X (.Compare a [op] [b] pos)<|tB t:=by
 intro O s σ H Q I hw;show wpAny_isTrue_Compare1 (cy (h O s σ H _ I hw) λv s1 h1=>cy h1 λu s2 h2=>cy h2 λc s3 ⟨x,H1,I1,r1,q1⟩=>?_) h1;let⟨d,Z,q⟩:=q1;cases r1;show wpAny_truthy_bool ⟨H1,I1,q⟩
def JE{e:Expr}{t:TE}(h:PE X e t)(he:∀whole,isTrue e X.env whole=(do let v <-whole;standAt e.pos;holding [v]<|truthy v):=by intro _;rfl):PT X e<|tB t:=by
 intro O s σ H Q I hw;show isTrue_plain (cy (h O s σ H _ I hw) λv s1 ⟨x,H1,I1,r1,q1⟩=>?_)<|he _;let⟨d,Z,q⟩:=q1;cases r1;show wpAny_truthy_bool ⟨H1,I1,q⟩
variable {tA tB':TT}{Yu:ac Expr}
@[ext]def tAnd(t u:TT):TT:=λσ H Q=>t σ H λc H1=>if c=Â then u σ H1 Q else Q Ã H1
@[ext]def tOr(t u:TT):TT:=λσ H Q=>t σ H λc H1=>if c=Â then Q Â H1 else u σ H1 Q
@[ext]def Ţ(t:TT):TT:=λσ H Q=>t σ H λc H1=>Q (!c) H1
def Ļ(ha:PT X a tA):PW X (.BoolOp .And [a] pos) tA:=by
 intro wh O s σ H Q I h;show isTrue_and<|cy (ha O s σ H Q I h) λc s1 e=>?_;cases c with
 |true=>show isTrue_and_nil e
 |false=>show e
def BU(ha:PT X a tA):PW X (.BoolOp .Or [a] pos) tA:=by
 intro wh O s σ H Q I h;show isTrue_or<|cy (ha O s σ H Q I h) λc s1 e=>?_;cases c with
 |false=>show isTrue_or_nil e
 |true=>show e
def Ĭ(ha:PT X a tA)(hb:PW X (.BoolOp .And (b::Yu) pos) tB'):PW X (.BoolOp .And (a::b::Yu) pos)<|tAnd tA tB':=by
 intro wh O s σ H Q I h;show isTrue_and<|cy (ha O s σ H _ I h) λc s1 ⟨H1,I1,q1⟩=>?_;cases c with
 |true=>show hb wh O s1 σ H1 Q I1 q1
 |false=>show⟨H1,I1,q1⟩
def B7(ha:PT X a tA)(hb:PW X (.BoolOp .Or (b::Yu) pos) tB'):PW X (.BoolOp .Or (a::b::Yu) pos)<|tOr tA tB':=by
 intro wh O s σ H Q I h;show isTrue_or<|cy (ha O s σ H _ I h) λc s1 ⟨H1,I1,q1⟩=>?_;cases c with
 |true=>show⟨H1,I1,q1⟩
 |false=>show hb wh O s1 σ H1 Q I1 q1
def JL(ha:PT X a tA):PT X (.UnaryOp .Not a pos)<|Ţ tA:=by
 intro O s σ H Q I h;show isTrue_not<|ha O s σ H (λc H1=>Q (!c) H1) I h
@[ext]def Cp(ta tb:TE):TE:=λσ H Q=>ta σ H λx H1=>∃c,x=.bl c/\if c=Â then tb σ H1 Q else Q (.bl Ã) H1
@[ext]def tOrV(ta tb:TE):TE:=λσ H Q=>ta σ H λx H1=>∃c,x=.bl c/\if c=Â then Q (.bl Â) H1 else tb σ H1 Q
@[ext]def Dj(ta:TE):TE:=λσ H Q=>ta σ H λx H1=>∃c,x=.bl c/\Q (.bl<|!c) H1
def Xn{op}(h:PE X a t):PE X (.BoolOp op [a] pos) t:=λO s σ H Q I hw=>BoolOp_one<|h O s σ H Q I hw
def Ja(ha:PE X a ta)(hb:PE X (.BoolOp .And (b::Yu) pos) tb):PE X (.BoolOp .And (a::b::Yu) pos)<|Cp ta tb:=by
 intro O s σ H Q I h;show BoolOp_and<|cy (ha O s σ H _ I h) λv s1 ⟨x,H1,I1,r1,q1⟩=>?_;let⟨c,Z,q1⟩:=q1;cases r1;show wpAny_truthy_bool ?_;cases c with
 |true=>show hb O s1 σ H1 Q I1 q1
 |false=>show⟨.bl Ã,H1,I1,Z,q1⟩
def Dm(ha:PE X a ta)(hb:PE X (.BoolOp .Or (b::Yu) pos) tb):PE X (.BoolOp .Or (a::b::Yu) pos)<|tOrV ta tb:=by
 intro O s σ H Q I h;show BoolOp_or<|cy (ha O s σ H _ I h) λv s1 ⟨x,H1,I1,r1,q1⟩=>?_;let⟨c,Z,q1⟩:=q1;cases r1;show wpAny_truthy_bool ?_;cases c with
 |false=>show hb O s1 σ H1 Q I1 q1
 |true=>show⟨.bl Â,H1,I1,Z,q1⟩
def YM4(ha:PE X a ta):PE X (.UnaryOp .Not a pos)<|Dj ta:=by
 intro O s σ H Q I h;show UnaryOp_<|cy (ha O s σ H _ I h) λv s1 ⟨x,H1,I1,r1,q1⟩=>?_;let⟨c,Z,q1⟩:=q1;cases r1;show not_of<|wpAny_truthy_bool ⟨.bl<|!c,H1,I1,Z,q1⟩
@[ext]def tIf(t:TT)(ta tb:TE):TE:=λσ H Q=>t σ H λc H1=>if c=Â then ta σ H1 Q else tb σ H1 Q
def YEy{c:Expr}(hc:PT X c tA)(ha:PE X a ta)(hb:PE X b tb):PE X (.IfExp c a b pos)<|tIf tA ta tb:=by
 intro O s σ H Q I h;show wpAny_IfExp<|cy (hc O s σ H _ I h) λd s1 ⟨H1,I1,q1⟩=>?_;cases d with
 |true=>show ha O s1 σ H1 Q I1 q1
 |false=>show hb O s1 σ H1 Q I1 q1
end
@[ext]def bG(K:W.Frag)(H:Hp)(a:ai)(xs:ac V):Prop:=
 Rd H a (.lst xs)\/
  ∃(o:Obj) (its:Array ah) (n:Nat),K.lookup a=À o/\o.cls=.type "list"/\o.dict=Á/\o.data=.seq its n/\its.size<=sizeLine/\Yo xs its.toList
@[ext]def cN(K:W.Frag)(H:Hp)(a:ai)(xs:ac V):Prop:=
 Rd H a (.tup xs)\/
  ∃(o:Obj) (its:Array ah) (n:Nat),K.lookup a=À o/\o.cls=.type "tuple"/\o.data=.seq its n/\its.size<=sizeLine/\Yo xs its.toList
@[ext]def Ι:ah->ag V
 |.none=>À .non
 |.bool b=>À<|.bl b
 |.int i _=>À<|.int i
 |.str x _=>À<|.str x
 |.bytes b _=>À<|.byt b
 |.float b _=>À<|.flt b
 |.ref a=>À<|.ref a
 |.type n=>À<|.ty n
 |_=>Á
def Yw.abs(r:Yw x u):Ι u=À x:=by
 cases x with
 |non=>cases r;rfl
 |bl _=>cases r;rfl
 |int _=>let⟨t,Z⟩:=r;rfl
 |str _=>let⟨t,Z⟩:=r;rfl
 |byt _=>let⟨t,Z⟩:=r;rfl
 |flt _=>let⟨t,Z⟩:=r;rfl
 |ref _=>cases r;rfl
 |ty _=>cases r;rfl
def Yw.inj(r:Yw x u)(q:Yw y u):x=y:=Û<|r.abs.symm.trans q.abs
def Yo.inj:∀{xs ys:ac V}{us:ac ah},Yo xs us->Yo ys us->xs=ys
 |_,_,_,.nil,.nil=>rfl
 |_,_,_,.cons r t,.cons r' t'=>by rw[r.inj r',Yo.inj t t']
section
variable {X:Cx}{O:ac (ai×Obj)}{σ:St}{H:Hp}{s:al}{a:ai}{xs ys:ac V}
def bG.of{K:W.Frag}(h:H a=À (.lst xs)):bG K H a xs:=.inl<|.inl h
def cN.of{K:W.Frag}(h:H a=À (.tup xs)):cN K H a xs:=.inl<|.inl h
def aX.list(I:aX X O σ H s)(h:bG X.K H a xs):∃its:ac ah,Yo xs its/\PlainL s.heap a its.toArray/\xs.length<=sizeLine:=by
 rcases h with h|⟨o,its,n,hk,hc,hd,hs,hz,r⟩
 let⟨z,its,n,r,e⟩:=h.ok I.hok;show⟨its,r,⟨_,n,e,Z,Z,Z⟩,z⟩;show⟨its.toList,r,⟨o,n,I.kIn a o hk,hc,hd,by simpa using hs⟩,?_⟩;let e:=r.length;simp only[ì]at e;lia
def aX.tuple(I:aX X O σ H s)(h:cN X.K H a xs):∃its:ac ah,Yo xs its/\IsTup s.heap a its.toArray/\xs.length<=sizeLine:=by
 rcases h with h|⟨o,its,n,hk,hc,hs,hz,r⟩
 let⟨z,its,r,p⟩:=h.ok I.hok;show⟨its,r,p,z⟩;show⟨its.toList,r,⟨o,I.kIn a o hk,hc,n,by simpa using hs⟩,?_⟩;let e:=r.length;simp only[ì]at e;lia
def aX.list_inj(I:aX X O σ H s)(h:bG X.K H a xs)(h':bG X.K H a ys):xs=ys:=by
 let⟨its,r,⟨o,n,e,_,_,d⟩,_⟩:=I.list h;let⟨its',r',⟨o',n',e',_,_,d'⟩,_⟩:=I.list h';rw[e]at e';cases e';rw[d]at d';injection d' with d1 _;have:its=its':=by simpa using fT Array.toList d1
 subst this;show r.inj r'
def aX.tuple_inj(I:aX X O σ H s)(h:cN X.K H a xs)(h':cN X.K H a ys):xs=ys:=by
 let⟨its,r,⟨o,e,_,n,d⟩,_⟩:=I.tuple h;let⟨its',r',⟨o',e',_,n',d'⟩,_⟩:=I.tuple h';rw[e]at e';cases e';rw[d]at d';injection d' with d1 _;have:its=its':=by simpa using fT Array.toList d1
 subst this;show r.inj r'
end
noncomputable abbrev Cx.wish(X:Cx)(E:ah->al->Prop):Cx:={ X with xe:=E }
noncomputable abbrev Cx.nox(X:Cx):Cx:=X.wish λ_ _=>False
def Cx.Ok.wish{X:Cx}(ok:X.Ok)(E:ah->al->Prop):(X.wish E).Ok:=
 ⟨ok.mod,ok.kind,ok.glob,ok.blt,ok.above,ok.inj,ok.has,ok.cab,ok.hd,ok.frames,ok.stk,ok.exf,ok.bs,ok.bsz,ok.noex,ok.exfs,ok.funs,ok.frf⟩
def Cx.Ok.unwish{X:Cx}{E:ah->al->Prop}(ok:(X.wish E).Ok):X.Ok:=
 ⟨ok.mod,ok.kind,ok.glob,ok.blt,ok.above,ok.inj,ok.has,ok.cab,ok.hd,ok.frames,ok.stk,ok.exf,ok.bs,ok.bsz,ok.noex,ok.exfs,ok.funs,ok.frf⟩
section
variable {X:Cx}{O:ac (ai×Obj)}{σ:St}{H:Hp}{s:al}{E:ah->al->Prop}
def aX.wish(I:aX X O σ H s)(E:ah->al->Prop):aX (X.wish E) O σ H s:=⟨I.ok.wish E,I.os,I.bare,I.base,I.loc,I.cell,I.free,I.freeC,I.pin,I.hok,I.len⟩
def aX.unwish(I:aX (X.wish E) O σ H s):aX X O σ H s:=⟨I.ok.unwish,I.os,I.bare,I.base,I.loc,I.cell,I.free,I.freeC,I.pin,I.hok,I.len⟩
def SP.unwish{D:Jg}(h:SP (X.wish E) O D f s'):SP X O D f s':=by
 cases f with
 |next=>let⟨σ',H',I,q⟩:=h;show⟨σ',H',I.unwish,q⟩
 |brk=>let⟨σ',H',I,q⟩:=h;show⟨σ',H',I.unwish,q⟩
 |cont=>let⟨σ',H',I,q⟩:=h;show⟨σ',H',I.unwish,q⟩
 |ret u=>let⟨v,σ',H',I,r,q⟩:=h;show⟨v,σ',H',I.unwish,r,q⟩
def gp.nox{st:ac Stmt}{t:TS}(h:gp X.nox st t):gp X st t:=λO s σ H D I hw=>
 wpAny_mono (h O s σ H D (I.wish _) hw) (λ_ _ q=>q.unwish) λ_ _ z=>False.elim z
end
section
variable {X:Cx}{st:Stmt}{Yu:ac Stmt}{t u:TS}{e:Expr}{te:TE}{pos:Pos}
@[ext]def DC:TS:=λD σ H=>D.nx σ H
@[ext]def sC(t u:TS):TS:=λD σ H=>t { D with nx:=u D } σ H
def YT:gp X [] DC:=λ_ _ σ H _ I h=>wpAny_execs_nil ⟨σ,H,I,h⟩
def YF(h1:PS X st t)(h2:gp X Yu u):gp X (st::Yu)<|sC t u:=by
 intro O s σ H D I h;show wpAny_execs_cons<|cy (h1 O s σ H { D with nx:=u D } I h) λf s1 q=>?_;cases f with
 |next=>
  let⟨σ',H',I',q⟩:=q;show h2 O s1 σ' H' D I' q
 |ret v=>show q
 |brk=>show q
 |cont=>show q
def YD(h1:PS X st t):gp X [st] t:=by
 intro O s σ H D I h;show wpAny_execs_cons<|cy (h1 O s σ H D I h) λf s1 q=>?_;cases f with
 |next=>show wpAny_execs_nil q
 |ret v=>show q
 |brk=>show q
 |cont=>show q
@[ext]def AK:TS:=λD σ H=>D.bk σ H
def YM5:PS X (.Break pos) AK:=λ_ _ σ H _ I h=>wpAny_Break ⟨σ,H,I,h⟩
def aX.quiet(I:aX X O σ H s):interactive X.env=Ã:=by simp[interactive,I.ok.kind]
@[ext]def k6(te:TE):TS:=λD σ H=>te σ H λ_ H1=>D.nx σ H1
def YW(he:PE X e te)(hs:swapsWith e Á pos.line X.env=pure Ã:=by rfl):PS X (.Expr e pos)<|k6 te:=by
 intro O s σ H D I h;show wpAny_Expr_any (cy (he O s σ H _ I h) λv s1 ⟨x,H1,I1,r1,q1⟩=>⟨σ,H1,I1,q1⟩) I.quiet hs
@[ext]def DO(te:TE):TS:=λD σ H=>te σ H D.rt
def YN(he:PE X e te):PS X (.Return (À e) pos)<|DO te:=by
 intro O s σ H D I h;show wpAny_Return_some<|cy (he O s σ H _ I h) λv s1 ⟨x,H1,I1,r1,q1⟩=>⟨x,σ,H1,I1,r1,q1⟩
@[ext]def CY:TS:=λD _ H=>D.rt .non H
def YHY:PS X (.Return Á pos) CY:=λ_ _ σ H _ I h=>wpAny_Return_none ⟨.non,σ,H,I,Z,h⟩
@[ext]def BS(c:TT)(t u:TS):TS:=λD σ H=>c σ H λb H1=>if b=Â then t D σ H1 else u D σ H1
def Yq{c:Expr}{a b:ac Stmt}{tc:TT}(hc:PT X c tc)(ha:gp X a t)(hb:gp X b u):PS X (.If c a b pos)<|BS tc t u:=by
 intro O s σ H D I h;show wpAny_If<|cy (hc O s σ H _ I h) λd s1 ⟨H1,I1,q1⟩=>?_;cases d with
 |true=>show ha O s1 σ H1 D I1 q1
 |false=>show hb O s1 σ H1 D I1 q1
end
noncomputable abbrev TG:=V->St->Hp->(St->Hp->Prop)->Prop
noncomputable abbrev u7:=ac V->St->Hp->(St->Hp->Prop)->Prop
@[ext]def PG(X:Cx)(target:Expr)(t:TG):Prop:=
 ∀(O:ac<|ai×Obj) (s:al) (σ:St) (H:Hp) (v:V) (u:ah) (Q:St->Hp->Prop),aX X O σ H s->Yw v u->t v σ H Q->
  wpAny (model X.prog X.w) X.A (assign target X.env u) (λ_ s'=>∃σ' H',aX X O σ' H' s'/\Q σ' H') X.xe s
@[ext]def CV(X:Cx)(ts:ac Expr)(t:u7):Prop:=
 ∀(O:ac<|ai×Obj) (s:al) (σ:St) (H:Hp) (vs:ac V) (us:ac ah) (Q:St->Hp->Prop),aX X O σ H s->Yo vs us->t vs σ H Q->
  wpAny (model X.prog X.w) X.A (assignInOrder ((assignEach ts X.env).map (·.2)) us) (λ_ s'=>∃σ' H',aX X O σ' H' s'/\Q σ' H') X.xe s
noncomputable abbrev DK:=V->V->V->Hp->(Hp->Prop)->Prop
@[ext]def B8(X:Cx)(t:DK):Prop:=
 ∀(O:ac<|ai×Obj) (s:al) (σ:St) (H:Hp) (o i v:V) (ov iv u:ah) (Q:Hp->Prop),aX X O σ H s->Yw o ov->Yw i iv->Yw v u->t o i v H Q->
  wpAny (model X.prog X.w) X.A (setItem ov iv u) (λ_ s'=>∃H',aX X O σ H' s'/\Q H') X.xe s
noncomputable abbrev ύ:=V->V->Hp->VK->Prop
@[ext]def Ϯ(X:Cx)(op:Operator)(t:ύ):Prop:=
 ∀(O:ac<|ai×Obj) (s:al) (σ:St) (H:Hp) (x y:V) (v u:ah) (Q:VK),aX X O σ H s->Yw x v->Yw y u->t x y H Q->
  wpAny (model X.prog X.w) X.A (inplaceOp op v u) (EP X O σ Q) X.xe s
section
variable {X:Cx}{pos:Pos}
@[ext]def Y7(i:Nat):TG:=λv σ H Q=>Q (σ.set i<|some v) H
def si(hN:X.N.Nodup)(hi:X.N[i]?=À x)(S:oZ X.env.scope x)(hf:X.fn x=Â\/X.env.scope.names.lookup x=À .local:=by first|show .inl rfl|show .inr rfl|assumption):PG X (.Name x pos)<|Y7 i:=by
 intro O s σ H v u Q I r h;show wpAny_assign_Name<|DQ I hN hi S r (λs' I'=>⟨_,H,I',h⟩) hf
inductive s_(vs:List V)(σ:St)(H:Hp)(Q:St->Hp->Prop):Prop
 |mk:vs=[]->Q σ H->s_ vs σ H Q
@[ext]def Ŝ:u7:=λvs σ H Q=>s_ vs σ H Q
inductive YM6(t:TG)(u:u7)(vs:List V)(σ:St)(H:Hp)(Q:St->Hp->Prop):Prop
 |mk (v:_)(r:_):vs=v::r->(t v σ H λσ' H'=>u r σ' H' Q)->YM6 t u vs σ H Q
@[ext]def CA(t:TG)(u:u7):u7:=λvs σ H Q=>YM6 t u vs σ H Q
def y9:CV X [] Ŝ:=by
 intro O s σ H vs us Q I r h;let⟨e,h⟩:=h;subst e;cases r;show assignInOrder_nil ⟨σ,H,I,h⟩
def Zg{e:Expr}{es:ac Expr}{t:TG}{u:u7}(h1:PG X e t)(h2:CV X es u)
  (hs:(assignEach (e::es) X.env).map (·.2)=assign e X.env::(assignEach es X.env).map (·.2):=by rfl):CV X (e::es)<|CA t u:=by
 intro O s σ H vs us Q I r h;let⟨v,vr,e1,h⟩:=h;subst e1;cases r with
 |cons r rr=>
  rw[hs];show assignInOrder_cons<|cy (h1 O s σ H _ _ _ I r h) λ_ s1 ⟨σ1,H1,I1,q1⟩=>?_;show h2 O s1 σ1 H1 _ _ Q I1 rr q1
inductive sM(K:W.Frag)(n:Nat)(t:u7)(v:V)(σ:St)(H:Hp)(Q:St->Hp->Prop):Prop
 |mk (a:_)(xs:_):v=.ref a->cN K H a xs->xs.length=n->t xs σ H Q->sM K n t v σ H Q
@[ext]def CB(K:W.Frag)(n:Nat)(t:u7):TG:=λv σ H Q=>sM K n t v σ H Q
def xP(hc:X.calm=Â)(h:CV X es t)
  (hn:(assignEach es X.env).length=n:=by rfl)(hst:(assignEach es X.env).findIdx? (·.1)=Á:=by rfl):PG X (.Tuple es k pos)<|CB X.K n t:=by
 intro O s σ H v u Q I r hw;let⟨a,xs,e1,hq,hl,hw⟩:=hw;subst e1;cases r;let⟨its,rv,ht,hz⟩:=I.tuple hq;show assign_Tuple_tuple (I.ok.hd hc) ht (by simp[hn,<-hl,rv.length]) hst λh' S=>?_;let I1:aX X O σ H { s with heap:=h' }:=I.kept (t':=s.toks) λb o e=>S b o (Ü<|Í e) e;show h O _ σ H xs _ Q I1 (by simpa using rv) hw
@[ext]def Ϡ(to ti:TE)(t:DK):TG:=λv σ H Q=>to σ H λo H1=>ti σ H1 λi H2=>t o i v H2 λH3=>Q σ H3
def AI(ho:PE X o to)(hi:PE X i ti)(hs:B8 X t)
  (ha:∀v,assign (.Subscript o i pos) X.env v=(do
   let ov <-holding [v] (eval o X.env)
   let iv <-holding [v,ov] (eval i X.env)
   standAt pos
   holding [v,ov,iv] (setItem ov iv v)
   release [v,ov,iv] []):=by intro _;rfl):PG X (.Subscript o i pos)<|Ϡ to ti t:=by
 intro O s σ H v u Q I r h;rw[ha];show Æ<|wpAny_holding<|cy (ho O s σ H _ I h) λov s1 ⟨x,H1,I1,r1,q1⟩=>?_;show Æ<|wpAny_holding<|cy (hi O s1 σ H1 _ I1 q1) λiv s2 ⟨y,H2,I2,r2,q2⟩=>?_;show Æ<|wpAny_standAt<|Æ<|wpAny_holding<|cy (hs O s2 σ H2 x y v ov iv u _ I2 r1 r2 r q2) λ_ s3 ⟨H3,I3,q3⟩=>?_;show wpAny_release ⟨σ,H3,I3,q3⟩
@[ext]def k8(te:TE)(g:TG):TS:=λD σ H=>te σ H λx H1=>g x σ H1 D.nx
def YM7(he:PE X e te)(hg:PG X tg g)(hs:swapsWithSole [tg] e pos.line X.env=pure Ã:=by rfl)(hw:swappedStores [tg] e X.env=pure Á:=by rfl)
  (h1:(assignEach [tg] X.env).map (·.2)=[assign tg X.env]:=by rfl):PS X (.Assign [tg] e pos)<|k8 te g:=by
 intro O s σ H D I h;show wpAny_Assign_stores (cy (he O s σ H _ I h) λv s1 ⟨x,H1,I1,r1,q1⟩=>?_) hs hw;rw[h1];show cy (hg O s1 σ H1 x v _ I1 r1 q1) λ_ s2 q=>q
def YM8{i:Nat}{x:am}{e:Expr}{te:TE}{gA:Pos}(hN:X.N.Nodup)(hi:X.N[i]?=À x)(S:oZ X.env.scope x)(he:PE X e te)(hs:swapsWith e (À<|.Name x gA) pos.line X.env=pure Ã:=by rfl)(hf:X.fn x=Â\/X.env.scope.names.lookup x=À .local:=by first|show .inl rfl|show .inr rfl|assumption):
  PS X (.Assign [.Name x gA] e pos) (k8 te<|Y7 i):=by
 intro O s σ H D I h;show wpAny_Assign_Name (cy (he O s σ H _ I h) λv s1 ⟨y,H1,I1,r1,q1⟩=>?_) hs;show DQ I1 hN hi S r1 (λs2 I2=>⟨_,H1,I2,q1⟩) hf
@[ext]def ϟ(i:Nat)(te:TE)(ti:ύ):TS:=λD σ H=>∃x,σ[i]?=À (À x)/\te σ H λy H1=>ti x y H1 λz H2=>D.nx (σ.set i<|some z) H2
def Ϥ(hN:X.N.Nodup)(hi:X.N[i]?=À x)(S:oZ X.env.scope x)(he:PE X e te)(ho:Ϯ X op ti)(hf:X.fn x=Â\/X.env.scope.names.lookup x=À .local:=by first|show .inl rfl|show .inr rfl|assumption):
  PS X (.AugAssign (.Name x gA) op e pos) (ϟ i te ti):=by
 intro O s σ H D I h;let⟨v,e1,h⟩:=h;let⟨m,hn,hl⟩:=I.loc;let vis:CC X.env.scope x:=by rcases S with k|k;show .inl k;show .inr<|.inl k
 let⟨u,r,l⟩:=hl i x v hi e1 vis;show wpAny_AugAssign_Name ?_;let go:wpAny (model X.prog X.w) X.A (eval e X.env) (λw s₂=>wpAny (model X.prog X.w) X.A (inplaceOp op u w) (λr s₃=>wpAny (model X.prog X.w) X.A (storeName X.env x r) (λ_=>SP X O D .next) X.xe s₃) X.xe s₂) X.xe s:=by
  show cy (he O s σ H _ I h) λw s1 ⟨y,H1,I1,r1,q1⟩=>?_;show cy (ho O s1 σ H1 v y u w _ I1 r r1 q1) λz s2 ⟨zv,H2,I2,r2,q2⟩=>?_;show DQ I2 hN hi S r2 (λs3 I3=>⟨_,H2,I3,q2⟩) hf
 rcases l with ⟨hk,hm⟩|⟨hk,c,hc,gU⟩
 show wpAny_loadName_local I.ok.kind hk hn hm go;rcases hk with hk|hk
 show wpAny_loadName_cell I.ok.kind hk hc gU go;rcases S with k|k
 have:X.env.scope.names.lookup x=À .free:=hk;rw[k]at this;cases this;have:X.env.scope.names.lookup x=À .free:=hk;rw[k]at this;cases this
@[ext]def ipI(f:Int->Int->Int):ύ:=λx y H Q=>∃i j,x=.int i/\y=.int j/\Q (.int<|f i j) H
def YM9:Ϯ X .Add<|ipI λi j=>i+j:=by
 intro O s σ H x y v u Q I r1 r2 h;let⟨i,j,e1,e2,q⟩:=h;subst e1;subst e2;let⟨t,Z⟩:=r1;let⟨t',Z⟩:=r2;show iadd_int ⟨.int _,H,I.tok _,⟨_,Z⟩,q⟩
def xN:Ϯ X .Sub<|ipI λi j=>i-j:=by
 intro O s σ H x y v u Q I r1 r2 h;let⟨i,j,e1,e2,q⟩:=h;subst e1;subst e2;let⟨t,Z⟩:=r1;let⟨t',Z⟩:=r2;show isub_int ⟨.int _,H,I.tok _,⟨_,Z⟩,q⟩
end
section
variable {X:Cx}{pos:Pos}
@[ext]def zk(c:TT)(tb:TS):TS:=λD σ H=>∃W:Nat->St->Hp->Prop,(∃m,W m σ H)/\∀m σ H,W m σ H->
 c σ H λb H1=>if b=Â then ∃N:St->Hp->Prop,(∀σ' H',N σ' H'->∃m',m'<m/\W m' σ' H')/\tb { D with nx:=N,ct:=N,bk:=D.nx } σ H1 else D.nx σ H1
def J1{c:Expr}{body:ac Stmt}{tc:TT}{tb:TS}(hp:PassesOwn (model X.prog X.w) X.A X.env X.xe)(hc:PT X c tc)(hb:gp X body tb):PS X (.While c body [] pos)<|zk tc tb:=by
 intro O s σ H D I h;let⟨W,⟨m0,w0⟩,turn⟩:=h;show wpAny_While<|codeAny_whileLoop (λn s'=>∃σ' H',aX X O σ' H' s'/\W n σ' H') ?_ m0 ⟨σ,H,I,w0⟩;rintro n s1 ⟨σ1,H1,I1,w1⟩;show wpAny_passesOwn hp<|cy (hc O s1 σ1 H1 _ I1<|turn n σ1 H1 w1) λb s2 ⟨H2,I2,q2⟩=>?_;cases b with
 |true=>
  let⟨N,hN,q2⟩:=q2;rw[if_pos Z];show wpAny_passesOwn hp<|cy (hb O s2 σ1 H2 _ I2 q2) λf s3 q3=>?_;cases f with
  |next=>
   let⟨σ3,H3,I3,n3⟩:=q3;let⟨m',hm,w3⟩:=hN σ3 H3 n3;show⟨m',hm,σ3,H3,I3,w3⟩
  |cont=>
   let⟨σ3,H3,I3,n3⟩:=q3;let⟨m',hm,w3⟩:=hN σ3 H3 n3;show⟨m',hm,σ3,H3,I3,w3⟩
  |brk=>show q3
  |ret v=>show q3
 |false=>
  rw[if_neg Ù];show wpAny_execs_nil ⟨σ1,H2,I2,q2⟩
end
structure It where
 go:Nat->Hp->Prop
 yld:Nat->Hp->V->Hp->Prop
 stop:Nat->Hp->Prop
@[ext]def ic(X:Cx)(O:ac<|ai×Obj)(H:Hp)(b:ai):Prop:=
 H b=Á/\b≠X.env.locals/\b∉X.fs/\(b∈X.ex\/X.s₀.heap.objs.size<=b)/\(∀x c,X.env.cells.lookup x=À c->c≠b)/\∀p∈X.pn++O,p.1≠b
def aX.fpOk(I:aX X O σ H s)(hb:s.heap.objs.size<=b)(hn:H' b=Á):ic X O H' b:=by
 show⟨hn,Nat.ne_of_gt<|á I.lt hb,I.nofs hb,.inr<|Ú I.sz hb,λx c e z=>?_,λp hp z=>?_⟩;let⟨v,q⟩:=I.cell x c e;show absurd (á q.lt (by rw[z];show hb))<|ó _;show absurd (á (Í (I.pin p hp).1) (by rw[z];show hb))<|ó _
structure kR(P:Program)(w:World)(K:W.Frag)(tg:Expr)(DW:It)(fp:List Addr)(it:Addr)(tn:Nat->Heap->Prop):Prop where
 mem:it∈fp
 obj:∀i h,tn i h->∀b∈fp,∃o,h.get? b=À o/\∀v,o.data≠.cell v
 keep:∀i h h',tn i h->(∀b∈fp,∀o,h.get? b=À o->h'.get? b=À o)->tn i h'
 item:∀(X:Cx),X.prog=P->X.w=w->X.K=K->X.calm=Â->∀(i:Nat) (O:List<|Addr×Obj) (s:Shared) (σ:St) (H:Hp) (E:Value->Shared->Prop),aX X O σ H s->(∀b∈fp,ic X O H b)->tn i s.heap->DW.go i H->
  wpAny (model P w) X.A (pyNext<|.ref it) (λr s1=>∃u,r=À u/\
   wpAny (model P w) X.A (letOwnedTupleGo tg (.ref it) u) (λ_ s2=>∃x H',aX X O σ H' s2/\Yw x u/\DW.yld i H x H'/\tn (i+1) s2.heap/\∀b∈fp,H' b=Á) E s1) E s
 done:∀(X:Cx),X.prog=P->X.w=w->X.K=K->X.calm=Â->∀(i:Nat) (O:List<|Addr×Obj) (s:Shared) (σ:St) (H:Hp) (E:Value->Shared->Prop),aX X O σ H s->(∀b∈fp,ic X O H b)->tn i s.heap->DW.stop i H->
  wpAny (model P w) X.A (pyNext<|.ref it) (λr s1=>r=Á/\aX X O σ H s1) E s
 self:∀(A:Around) (i:Nat) (s:Shared) (Q E:Value->Shared->Prop),tn i s.heap->Q (.ref it) s->wpAny (model P w) A (pyIter<|.ref it) Q E s
noncomputable abbrev TI:=St->Hp->(It->Hp->Prop)->Prop
@[ext]def ϰ(X:Cx)(O:ac<|ai×Obj)(σ:St)(tg:Expr)(R:It->Hp->Prop)(itv:ah)(s2:al):Prop:=
 ∃(it:ai) (fp:ac ai) (tn:Nat->Heap->Prop) (DW:It) (H':Hp),itv=.ref it/\aX X O σ H' s2/\kR X.prog X.w X.K tg DW fp it tn/\tn 0 s2.heap/\(∀b∈fp,ic X O H' b)/\R DW H'
@[ext]def PI(X:Cx)(tg iter:Expr)(wi:TI):Prop:=
 ∀(O:ac<|ai×Obj) (s:al) (σ:St) (H:Hp) (R:It->Hp->Prop),aX X O σ H s->wi σ H R->
  wpAny (model X.prog X.w) X.A (eval iter X.env) (λv s1=>wpAny (model X.prog X.w) X.A (pyIter v) (ϰ X O σ tg R) X.xe s1) X.xe s
def Df{E:ah->al->Prop}{Q:Unit->al->Prop}(ho:s.heap.get? it=À o)(hc:o.cls=.type n)(hd:o.data=.fields vs)
  (hn:["enumerate","zip","dict_itemiterator","dict_reverseitemiterator","odict_iterator","itertools.zip_longest","itertools.pairwise"].contains n=Ã)(hQ:Q () s):wpAny M A (letOwnedTupleGo tg (.ref it) u) Q E s:=by
 unfold letOwnedTupleGo;cases tg <;> first
  |show Ì hQ
  |(cases u <;> first
    |show Ì hQ
    |(show Æ (wpAny_load ho ?_)
      rw[hc,hd];change wpAny M A (if (["enumerate","zip","dict_itemiterator","dict_reverseitemiterator","odict_iterator","itertools.zip_longest","itertools.pairwise"].contains n&&vs[0]?==À (rawInt _))=Â then _ else _) Q E s;rw[if_neg (by intro h;rw[hn,Bool.false_and]at h;cases h)];show Ì hQ))
@[ext]def AX(K:W.Frag)(a:ai):It:=
 ⟨λi H=>∃xs x,bG K H a xs/\xs[i]?=À x,λi H x H'=>H'=H/\∀xs,bG K H a xs->xs[i]?=À x,λi H=>∃xs,bG K H a xs/\xs.length<=i⟩
@[ext]def BI(K:W.Frag)(a:ai):It:=
 ⟨λi H=>∃xs x,cN K H a xs/\xs[i]?=À x,λi H x H'=>H'=H/\∀xs,cN K H a xs->xs[i]?=À x,λi H=>∃xs,cN K H a xs/\xs.length<=i⟩
@[ext]def yy(lo:Int)(n:Nat):It:=⟨λi _=>i<n,λi H x H'=>H'=H/\x=.int (lo+i),λi _=>n<=i⟩
def YMK{P:Program}{w:World}{K:W.Frag}{tg:Expr}(a it:ai):kR P w K tg (AX K a) [it] it (λi h=>h.IsListIter it a i) where
 mem:=by simp
 obj:=λi h st b hb=>by
  let e:b=it:=by simpa using hb
  subst e;let⟨o,e,c,d⟩:=st;show⟨o,e,λv z=>by rw[d]at z;cases z⟩
 keep:=λi h h' st k=>st.at λo e=>k it (by simp) o e
 item:=by
  intro X hP hw hK hc i O s σ H E I hf st hg;subst hP hw hK;let⟨xs,x,hq,S⟩:=hg;let⟨its,rv,p,hz⟩:=I.list hq;let⟨u,hu,ru⟩:=rv.get S;let⟨f0,f1,f2,f3,f4,f5⟩:=hf it (by simp);show wpAny_pyNext_list_item st p.isList (x:=u) (by simpa using hu) λh' st' sb=>?_;let I1:aX X O σ H { s with heap:=h' }:=I.turned (t':=s.toks) (λb o hb e=>(sb.2 b hb).trans e) f0 f1 f3 f4 f5;let⟨o,e,c,d⟩:=id st';show⟨u,Z,Df (s:={ s with heap:=h' }) e c d (by decide) ⟨x,H,I1,ru,⟨Z,λys hy=>by rw[I.list_inj hy hq];show S⟩,st',λb hb=>(hf b hb).1⟩⟩
 done:=by
  intro X hP hw hK hc i O s σ H E I hf st hg;subst hP hw hK;let⟨xs,hq,S⟩:=hg;let⟨its,rv,p,hz⟩:=I.list hq;let⟨f0,f1,f2,f3,f4,f5⟩:=hf it (by simp);let hl:=rv.length;show wpAny_pyNext_list_end (I.ok.hd hc) st p.isList (by simp;lia) λh' eb=>⟨Z,I.turned (t':=s.toks) (λb o hb e=>eb b o hb e) f0 f1 f3 f4 f5⟩
 self:=λ_ _ _ _ _ st h=>wpAny_pyIter_listiter st h
def YJ1{P:Program}{w:World}{K:W.Frag}{tg:Expr}(a it:ai):kR P w K tg (BI K a) [it] it (λi h=>h.IsTupleIter it a i) where
 mem:=by simp
 obj:=λi h st b hb=>by
  let e:b=it:=by simpa using hb
  subst e;let⟨o,e,c,d⟩:=st;show⟨o,e,λv z=>by rw[d]at z;cases z⟩
 keep:=λi h h' st k=>st.at λo e=>k it (by simp) o e
 item:=by
  intro X hP hw hK hc i O s σ H E I hf st hg;subst hP hw hK;let⟨xs,x,hq,S⟩:=hg;let⟨its,rv,p,hz⟩:=I.tuple hq;let⟨u,hu,ru⟩:=rv.get S;let⟨f0,f1,f2,f3,f4,f5⟩:=hf it (by simp);show wpAny_pyNext_tuple_item st (show s.heap.IsTuple a its.toArray from p) (x:=u) (by simpa using hu) λh' st' sb=>?_;let I1:aX X O σ H { s with heap:=h' }:=I.turned (t':=s.toks) (λb o hb e=>(sb.2 b hb).trans e) f0 f1 f3 f4 f5;let⟨o,e,c,d⟩:=id st';show⟨u,Z,Df (s:={ s with heap:=h' }) e c d (by decide) ⟨x,H,I1,ru,⟨Z,λys hy=>by rw[I.tuple_inj hy hq];show S⟩,st',λb hb=>(hf b hb).1⟩⟩
 done:=by
  intro X hP hw hK hc i O s σ H E I hf st hg;subst hP hw hK;let⟨xs,hq,S⟩:=hg;let⟨its,rv,p,hz⟩:=I.tuple hq;let⟨f0,f1,f2,f3,f4,f5⟩:=hf it (by simp);let hl:=rv.length;show wpAny_pyNext_tuple_end (I.ok.hd hc) st (show s.heap.IsTuple a its.toArray from p) (by simp;lia) λh' eb=>⟨Z,I.turned (t':=s.toks) (λb o hb e=>eb b o hb e) f0 f1 f3 f4 f5⟩
 self:=λ_ _ _ _ _ st h=>wpAny_pyIter_tupleiter st h
def YJ2{P:Program}{w:World}{K:W.Frag}{tg:Expr}(it:ai)(lo:Int)(n:Nat):kR P w K tg (yy lo n) [it] it (λi h=>IsRangeIter h it (lo+(i:Nat)*1) ((n:Int)-(i:Nat)) 1) where
 mem:=by simp
 obj:=λi h st b hb=>by
  let e:b=it:=by simpa using hb
  subst e;show⟨_,st,λv z=>by
   let z':Data.fields _=Data.cell v:=z;cases z'⟩
 keep:=λi h h' st k=>k it (by simp) _ st
 item:=by
  intro X hP hw hK hc i O s σ H E I hf st hg;subst hP hw hK;let⟨f0,f1,f2,f3,f4,f5⟩:=hf it (by simp);let W:=Walks.range (prog:=X.prog) (w:=X.w) (I.ok.hd hc) it lo 1 n;show W.item i s _ _ hg st λv h' tk hv st' kk=>?_;let⟨t,Z⟩:=hv;let I1:aX X O σ H { s with heap:=h',toks:=tk }:=I.turned (λb o hb e=>kk b o (by simpa using hb) e) f0 f1 f3 f4 f5;show⟨_,Z,Df (s:={ s with heap:=h',toks:=tk }) (n:="range_iterator") st' Z rfl (by decide) ⟨.int<|lo+i,H,I1,⟨t,?_⟩,⟨Z,Z⟩,st',λb hb=>(hf b hb).1⟩⟩;rw[Int.mul_one]
 done:=by
  intro X hP hw hK hc i O s σ H E I hf st hg;subst hP hw hK;let⟨f0,f1,f2,f3,f4,f5⟩:=hf it (by simp);show wpAny_pyNext_range_end (I.ok.hd hc) st (by have:n<=i:=hg;lia) λh' eb=>⟨Z,I.turned (t':=s.toks) (λb o hb e=>eb b o hb e) f0 f1 f3 f4 f5⟩
 self:=λ_ _ _ _ _ st h=>wpAny_pyIter_rangeiter st h
section
variable {X:Cx}{tg:Expr}
inductive YNA(K:W.Frag)(R:It->Hp->Prop)(x:V)(H1:Hp):Prop
 |mk (a:_):x=.ref a->(∃xs,bG K H1 a xs)->R (AX K a) H1->YNA K R x H1
@[ext]def sK(K:W.Frag)(tl:TE):TI:=λσ H R=>tl σ H λx H1=>YNA K R x H1
inductive vi(K:W.Frag)(R:It->Hp->Prop)(x:V)(H1:Hp):Prop
 |mk (a:_):x=.ref a->(∃xs,cN K H1 a xs)->R (BI K a) H1->vi K R x H1
@[ext]def C0(K:W.Frag)(tl:TE):TI:=λσ H R=>tl σ H λx H1=>vi K R x H1
def pj{l:Expr}{tl:TE}(hl:PE X l tl):PI X tg l<|sK X.K tl:=by
 intro O s σ H R I h;show cy (hl O s σ H _ I h) λv s1 ⟨x,H1,I1,r1,q1⟩=>?_;let⟨a,e,⟨xs,hq⟩,q⟩:=q1;subst e;cases r1;let⟨its,rv,p,hz⟩:=I1.list hq;show wpAny_pyIter_list p.isList ?_;show⟨s1.heap.objs.size,[s1.heap.objs.size],_,_,H1,Z,I1.kept (t':=s1.toks) λb o e=>Ø _ e,YMK a _,⟨_,Þ _ Z,Z,Z⟩,λb hb=>?_,q⟩;let e:b=s1.heap.objs.size:=by simpa using hb
 subst e;show I1.fpOk (Å _)<|I1.hok.fresh<|Å _
def AQ{l:Expr}{tl:TE}(hl:PE X l tl):PI X tg l<|C0 X.K tl:=by
 intro O s σ H R I h;show cy (hl O s σ H _ I h) λv s1 ⟨x,H1,I1,r1,q1⟩=>?_;let⟨a,e,⟨xs,hq⟩,q⟩:=q1;subst e;cases r1;let⟨its,rv,p,hz⟩:=I1.tuple hq;show wpAny_pyIter_tuple (show s1.heap.IsTuple a its.toArray from p) ?_;show⟨s1.heap.objs.size,[s1.heap.objs.size],_,_,H1,Z,I1.kept (t':=s1.toks) λb o e=>Ø _ e,YJ1 a _,⟨_,Þ _ Z,Z,Z⟩,λb hb=>?_,q⟩;let e:b=s1.heap.objs.size:=by simpa using hb
 subst e;show I1.fpOk (Å _)<|I1.hok.fresh<|Å _
def YNB{O:ac (ai×Obj)}{σ:St}{H:Hp}{s:al}{R:It->Hp->Prop}{E:ah->al->Prop}{lo hi:Int}{t u v:Tok}{tk:Nat}(I:aX X O σ H s)(h1:-(2^62)<=lo)(h2:lo<2^62)(h3:-(2^62)<=hi)(h4:hi<2^62)
  (q:R (yy lo (hi-lo).toNat) H):wpAny (model X.prog X.w) X.A (pyIter<|.ref s.heap.objs.size) (ϰ X O σ tg R) E { s with heap:=s.heap.push { cls:=.type "range",data:=.fields #[.int lo t,.int hi u,.int 1 v] },toks:=tk }:=by
 show wpAny_pyIter_range (IsRange.new ..) (small_one h1 h2 h3 h4) ?_;let I1:aX X O σ H { s with heap:=s.heap.push { cls:=.type "range",data:=.fields #[.int lo t,.int hi u,.int 1 v] },toks:=tk }:=I.kept λb o e=>Ø _ e;show⟨(s.heap.push { cls:=.type "range",data:=.fields #[.int lo t,.int hi u,.int 1 v] }).objs.size,[(s.heap.push { cls:=.type "range",data:=.fields #[.int lo t,.int hi u,.int 1 v] }).objs.size],_,_,H,Z,
  I1.kept (t':=tk) λb o e=>Ø _ e,YJ2 _ lo (hi-lo).toNat,?_,λb hb=>?_,q⟩
 let e1:lo+((0:Nat):Int)*1=lo:=by simp
 let e2:(((hi-lo).toNat:Nat):Int)-((0:Nat):Int)=Builtin.Range.rangeSize lo hi 1:=by rw[rangeSize_one];split <;> lia
 change IsRangeIter _ _ (lo+((0:Nat):Int)*1) ((((hi-lo).toNat:Nat):Int)-((0:Nat):Int)) 1;rw[e1,e2];show Þ _ Z;let e:b=(s.heap.push { cls:=.type "range",data:=.fields #[.int lo t,.int hi u,.int 1 v] }).objs.size:=by simpa using hb
 subst e;show I1.fpOk (Å _)<|I1.hok.fresh<|Å _
inductive YNC(R:It->Hp->Prop)(vs:List V)(H1:Hp):Prop
 |mk (j:Int):vs=[.int j]->-(2^62)<=j->j<2^62->R (yy 0 j.toNat) H1->YNC R vs H1
@[ext]def Du(ta:TA):TI:=λσ H R=>ta σ H λvs H1=>YNC R vs H1
def JD{a:Expr}{ta:TA}{p pos:Pos}(hg:Gl X "range")(hm:X.mg "range"=Á)(ha:PA X [a] ta)(hs:starEach [a] X.env=[(Ã,eval a X.env)]:=by rfl):PI X tg (.Call (.Name "range" p) [a] [] pos)<|Du ta:=by
 intro O s σ H R I h;show Call_<|nv I hg hm boot_range<|PyProof.Rows.callWith_type1 (cy (ha pos O s σ H _ I h) λus s1 ⟨vs,H1,I1,r1,q1⟩=>?_) hs rfl;let⟨j,e,q1,q2,q⟩:=q1;subst e;cases r1 with
 |cons r rr=>
  cases rr;let⟨t,Z⟩:=r;show call_range_1<|YNB I1 (by lia) (by lia) q1 q2 (by simpa using q)
@[ext]def De(wi:TI)(g:TG)(tb:TS):TS:=λD σ H=>wi σ H λDW H1=>∃W:Nat->Nat->St->Hp->Prop,(∃m,W 0 m σ H1)/\∀i m σ H,W i m σ H->
 (DW.stop i H/\D.nx σ H)\/(DW.go i H/\∃N:St->Hp->Prop,(∀σ' H',N σ' H'->∃m',m'<m/\W (i+1) m' σ' H')/\∀x H',DW.yld i H x H'->g x σ H' λσ2 H2=>tb { D with nx:=N,ct:=N,bk:=D.nx } σ2 H2)
@[ext]def A7(fp:ac ai)(h:Heap):ac<|ai×Obj:=fp.filterMap λb=>(h.get? b).map λo=>(b,o)
def Jq(hb:b∈fp)(e:h.get? b=À o):(b,o)∈A7 fp h:=YQc.mpr ⟨b,hb,by rw[e];rfl⟩
def YML(hp:p∈A7 fp h):p.1∈fp/\h.get? p.1=À p.2:=by
 let⟨b,hb,e⟩:=YQc.mp hp;cases q:h.get? b with
 |none=>rw[q]at e;cases e
 |some o=>
  rw[q]at e;let e':(b,o)=p:=Û e;subst e';show⟨hb,q⟩
def aX.pinned(I:aX X O σ H s)(hf:∀b∈fp,ic X O H b)(ho:∀b∈fp,∃o,s.heap.get? b=À o/\∀v,o.data≠.cell v):aX X (O++A7 fp s.heap) σ H s:=
 I.pins_of λp hp=>(YPD.mp hp).elim (λz=>I.pin p<|Ò _ z) λz=>by
  let⟨hb,e⟩:=YML z;let⟨f0,f1,f2,_⟩:=hf p.1 hb;let⟨o,e',d⟩:=ho p.1 hb;rw[e]at e';cases e';show⟨e,f0,f1,f2,d⟩
def aX.unpinned(I:aX X (O++pl) σ H s):aX X O σ H s:=I.pins_of λp hp=>I.pin p<|Ò _<|Õ _ hp
def sQ{iter:Expr}{body:ac Stmt}{wi:TI}{g:TG}{tb:TS}{pos:Pos}(hp:PassesOwn (model X.prog X.w) X.A X.env X.xe)(hc:X.calm=Â)(hi:PI X tg iter wi)(hg:PG X tg g)(hb:gp X body tb)
  (hs:∀x,foldedSetIterable iter X.env x=pure x:=by intro _;rfl):PS X (.For tg iter body [] pos)<|De wi g tb:=by
 intro O s σ H D I h;show wpAny_For (cy (hi O s σ H _ I h) λv s1 h1=>cy h1 λitv s2 h2=>?_) hs;let⟨it,fp,tn,DW,H2,e,I2,T,iV,f2,W,⟨m0,w0⟩,turn⟩:=h2;subst e;let jl:∀{H':Hp},(∀b∈fp,H' b=Á)->∀b∈fp,ic X O H' b:=λhn b hb=>⟨hn b hb,(f2 b hb).2⟩;show codeAny_forLoop_any (λn s'=>∃i σ' H',aX X O σ' H' s'/\tn i s'.heap/\(∀b∈fp,H' b=Á)/\W i n σ' H') ?_ m0 ⟨0,σ,H2,I2,iV,λb hb=>(f2 b hb).1,w0⟩;rintro n s3 ⟨i,σ3,H3,I3,iD,QB,w3⟩;rcases turn i n σ3 H3 w3 with ⟨stop,qn⟩|⟨go,N,hN,step⟩
 ·show wpAny_passesOwn hp<|cy (T.done X rfl rfl rfl hc i O s3 σ3 H3 X.xe I3 (jl QB) iD stop) λr s4 ⟨hr,I4⟩=>?_;subst hr;show wpAny_execs_nil ⟨σ3,H3,I4,qn⟩
 ·show wpAny_passesOwn hp<|cy (T.item X rfl rfl rfl hc i O s3 σ3 H3 X.xe I3 (jl QB) iD go) λr s4 ⟨u,hr,h4⟩=>?_;subst hr;show wpAny_passesOwn hp<|cy h4 ?_;rintro _ s5 ⟨x,H5,I5,r5,y5,yS,WL⟩;let I5':=I5.pinned (jl WL)<|T.obj _ _ yS;show wpAny_passesOwn hp<|cy (hg _ s5 σ3 H5 x u _ I5' r5<|step x H5 y5) λ_ s6 ⟨σ6,H6,I6,q6⟩=>?_;show wpAny_passesOwn hp<|cy (hb _ s6 σ6 H6 _ I6 q6) λf s7 q7=>?_;let again:∀{σ7:St}{H7:Hp},aX X (O++A7 fp s5.heap) σ7 H7 s7->N σ7 H7->∃m,m<n/\∃i σ' H',aX X O σ' H' s7/\tn i s7.heap/\(∀b∈fp,H' b=Á)/\W i m σ' H':=λ{σ7 H7} I7 n7=>by
   let⟨m',hm,w7⟩:=hN σ7 H7 n7;show⟨m',hm,i+1,σ7,H7,I7.unpinned,T.keep _ _ _ yS λb hb o e=>(I7.pin (b,o)<|Ò _<|Ò _<|Jq hb e).1,λb hb=>?_,w7⟩;let⟨o,e,d⟩:=T.obj _ _ yS b hb;show(I7.pin (b,o)<|Ò _<|Ò _<|Jq hb e).2.1
  cases f with
  |next=>let⟨σ7,H7,I7,n7⟩:=q7;show again I7 n7
  |cont=>let⟨σ7,H7,I7,n7⟩:=q7;show again I7 n7
  |brk=>let⟨σ7,H7,I7,q7⟩:=q7;show⟨σ7,H7,I7.unpinned,q7⟩
  |ret v=>let⟨x7,σ7,H7,I7,r7,q7⟩:=q7;show⟨x7,σ7,H7,I7.unpinned,r7,q7⟩
end
def ZL{K:W.Frag}{a:ai}{xs:ac V}{g:TG}{tb:TS}{D:Jg}{σ:St}{H:Hp}(Pv:Nat->St->Hp->Prop)(h0:Pv 0 σ H)(hl:∀i σ H,i<=xs.length->Pv i σ H->bG K H a xs)
  (hs:∀i x σ H,xs[i]?=À x->Pv i σ H->g x σ H λσ2 H2=>tb { D with nx:=Pv (i+1),ct:=Pv (i+1),bk:=D.nx } σ2 H2)(hd:∀σ H,Pv xs.length σ H->D.nx σ H):
  ∃W:Nat->Nat->St->Hp->Prop,(∃m,W 0 m σ H)/\∀i m σ H,W i m σ H->
   ((AX K a).stop i H/\D.nx σ H)\/((AX K a).go i H/\∃N:St->Hp->Prop,(∀σ' H',N σ' H'->∃m',m'<m/\W (i+1) m' σ' H')/\∀x H',(AX K a).yld i H x H'->g x σ H' λσ2 H2=>tb { D with nx:=N,ct:=N,bk:=D.nx } σ2 H2):=by
 show⟨λi m σ H=>m=xs.length-i/\i<=xs.length/\Pv i σ H,⟨xs.length,by simp,Ë _,h0⟩,?_⟩;rintro i m σ H ⟨rfl,hi,p⟩;let q:=hl i σ H hi p;by_cases DT:i<xs.length;show .inr ⟨⟨xs,xs[i],q,by simp[DT]⟩,Pv<|i+1,λσ' H' p'=>⟨xs.length-(i+1),by omega,Z,DT,p'⟩,λx H' y=>?_⟩;let⟨e,y⟩:=y;subst e;show hs i x σ _ (y xs q) p;let e:i=xs.length:=by omega
 subst e;show .inl ⟨⟨xs,q,Å _⟩,hd σ H p⟩
def qr{K:W.Frag}{a:ai}{xs:ac V}{g:TG}{tb:TS}{D:Jg}{σ:St}{H:Hp}(Pv:Nat->St->Hp->Prop)(h0:Pv 0 σ H)(hl:∀i σ H,i<=xs.length->Pv i σ H->cN K H a xs)
  (hs:∀i x σ H,xs[i]?=À x->Pv i σ H->g x σ H λσ2 H2=>tb { D with nx:=Pv (i+1),ct:=Pv (i+1),bk:=D.nx } σ2 H2)(hd:∀σ H,Pv xs.length σ H->D.nx σ H):
  ∃W:Nat->Nat->St->Hp->Prop,(∃m,W 0 m σ H)/\∀i m σ H,W i m σ H->
   ((BI K a).stop i H/\D.nx σ H)\/((BI K a).go i H/\∃N:St->Hp->Prop,(∀σ' H',N σ' H'->∃m',m'<m/\W (i+1) m' σ' H')/\∀x H',(BI K a).yld i H x H'->g x σ H' λσ2 H2=>tb { D with nx:=N,ct:=N,bk:=D.nx } σ2 H2):=by
 show⟨λi m σ H=>m=xs.length-i/\i<=xs.length/\Pv i σ H,⟨xs.length,by simp,Ë _,h0⟩,?_⟩;rintro i m σ H ⟨rfl,hi,p⟩;let q:=hl i σ H hi p;by_cases DT:i<xs.length;show .inr ⟨⟨xs,xs[i],q,by simp[DT]⟩,Pv<|i+1,λσ' H' p'=>⟨xs.length-(i+1),by lia,Z,DT,p'⟩,λx H' y=>?_⟩;let⟨e,y⟩:=y;subst e;show hs i x σ _ (y xs q) p;let e:i=xs.length:=by lia
 subst e;show .inl ⟨⟨xs,q,Å _⟩,hd σ H p⟩
def XM{lo:Int}{n:Nat}{g:TG}{tb:TS}{D:Jg}{σ:St}{H:Hp}(Pv:Nat->St->Hp->Prop)(h0:Pv 0 σ H)
  (hs:∀i σ H,i<n->Pv i σ H->g (.int<|lo+i) σ H λσ2 H2=>tb { D with nx:=Pv (i+1),ct:=Pv (i+1),bk:=D.nx } σ2 H2)(hd:∀σ H,Pv n σ H->D.nx σ H):
  ∃W:Nat->Nat->St->Hp->Prop,(∃m,W 0 m σ H)/\∀i m σ H,W i m σ H->
   ((yy lo n).stop i H/\D.nx σ H)\/((yy lo n).go i H/\∃N:St->Hp->Prop,(∀σ' H',N σ' H'->∃m',m'<m/\W (i+1) m' σ' H')/\∀x H',(yy lo n).yld i H x H'->g x σ H' λσ2 H2=>tb { D with nx:=N,ct:=N,bk:=D.nx } σ2 H2):=by
 show⟨λi m σ H=>m=n-i/\i<=n/\Pv i σ H,⟨n,by simp,Ë _,h0⟩,?_⟩;rintro i m σ H ⟨rfl,hi,p⟩;by_cases DT:i<n;show .inr ⟨DT,Pv<|i+1,λσ' H' p'=>⟨n-(i+1),by omega,Z,DT,p'⟩,λx H' y=>?_⟩;let⟨e,y⟩:=y;subst e y;show hs i σ _ DT p;let e:i=n:=by omega
 subst e;show .inl ⟨Å _,hd σ H p⟩
noncomputable abbrev R2:=V->V->Hp->VK->Prop
@[ext]def fI(X:Cx)(f:ah->ah->Sem ah)(r:R2):Prop:=
 ∀(O:ac<|ai×Obj) (s:al) (σ:St) (H:Hp) (x y:V) (v u:ah) (Q:VK),aX X O σ H s->Yw x v->Yw y u->r x y H Q->
  wpAny (model X.prog X.w) X.A (f v u) (EP X O σ Q) X.xe s
@[ext]def UnR(X:Cx)(f:ah->Sem ah)(r:V->Hp->VK->Prop):Prop:=
 ∀(O:ac<|ai×Obj) (s:al) (σ:St) (H:Hp) (x:V) (v:ah) (Q:VK),aX X O σ H s->Yw x v->r x H Q->
  wpAny (model X.prog X.w) X.A (f v) (EP X O σ Q) X.xe s
@[ext]def XH(X:Cx)(f:ah)(r:ac V->Hp->VK->Prop):Prop:=
 ∀(O:ac<|ai×Obj) (s:al) (σ:St) (H:Hp) (xs:ac V) (us:ac ah) (Q:VK),aX X O σ H s->Yo xs us->r xs H Q->
  wpAny (model X.prog X.w) X.A (call f us) (EP X O σ Q) X.xe s
@[ext]def TruR(X:Cx)(r:V->Hp->(Bool->Hp->Prop)->Prop):Prop:=
 ∀(O:ac<|ai×Obj) (s:al) (σ:St) (H:Hp) (x:V) (v:ah) (Q:Bool->Hp->Prop),aX X O σ H s->Yw x v->r x H Q->
  wpAny (model X.prog X.w) X.A (truthy v) (TP X O σ Q) X.xe s
@[ext]def ve(r:R2)(ta tb:TE):TE:=λσ H Q=>ta σ H λx H1=>tb σ H1 λy H2=>r x y H2 Q
@[ext]def tUn(r:V->Hp->VK->Prop)(ta:TE):TE:=λσ H Q=>ta σ H λx H1=>r x H1 Q
inductive rI_(C:Int->Int->Prop)(g:Int->Int->V)(x y:V)(H:Hp)(Q:VK):Prop
 |mk (i:_)(j:_):x=.int i->y=.int j->C i j->Q (g i j) H->rI_ C g x y H Q
@[ext]def rI(C:Int->Int->Prop)(g:Int->Int->V):R2:=λx y H Q=>rI_ C g x y H Q
inductive B0(g:Int->Int->V)(x y:V)(H:Hp)(Q:VK):Prop
 |mk (i:_)(j:_):x=.int i->y=.int j->Q (g i j) H->B0 g x y H Q
@[ext]def wc(g:Int->Int->V):R2:=λx y H Q=>B0 g x y H Q
inductive rU_(g:Int->V)(x:V)(H:Hp)(Q:VK):Prop
 |mk (i:_):x=.int i->Q (g i) H->rU_ g x H Q
@[ext]def rU(g:Int->V):V->Hp->VK->Prop:=λx H Q=>rU_ g x H Q
section
variable {X:Cx}{a b c:Expr}{ta tb tc:TE}{pos:Pos}
def xt(ha:PE X a ta)(hb:PE X b tb){O:ac (ai×Obj)}{s:al}{σ:St}{H:Hp}{R:V->V->Hp->Prop}(I:aX X O σ H s)
  (h:ta σ H λx H1=>tb σ H1 λy H2=>R x y H2){Q:ah->al->Prop}{f:ah->ah->Sem ah}
  (hf:∀v u s2 x y H2,aX X O σ H2 s2->Yw x v->Yw y u->R x y H2->wpAny (model X.prog X.w) X.A (f v u) Q X.xe s2):
  wpAny (model X.prog X.w) X.A (eval a X.env) (λv s₁=>wpAny (model X.prog X.w) X.A (eval b X.env) (λu s₂=>wpAny (model X.prog X.w) X.A (f v u) Q X.xe s₂) X.xe s₁) X.xe s:=by
 show cy (ha O s σ H _ I h) λv s1 ⟨x,H1,I1,r1,q1⟩=>?_;show cy (hb O s1 σ H1 _ I1 q1) λu s2 ⟨y,H2,I2,r2,q2⟩=>?_;show hf v u s2 x y H2 I2 r1 r2 q2
def YR(ho:fI X (binaryOp op) r)(ha:PE X a ta)(hb:PE X b tb):PE X (.BinOp a op b pos)<|ve r ta tb:=by
 intro O s σ H Q I h;show wpAny_BinOp<|xt ha hb I h λv u s2 x y H2 I2 rx ry q=>ho O s2 σ H2 x y v u Q I2 rx ry q
def Ds{op:UnaryOp}{r:V->Hp->VK->Prop}(ho:UnR X (unaryOp op) r)(ha:PE X a ta):PE X (.UnaryOp op a pos)<|tUn r ta:=by
 intro O s σ H Q I h;show UnaryOp_<|cy (ha O s σ H _ I h) λv s1 ⟨x,H1,I1,r1,q1⟩=>ho O s1 σ H1 x v Q I1 r1 q1
def Di{f:ah->ah->Sem ah}{C:Int->Int->Prop}{g:Int->Int->Int}
  (rule:∀(i j:Int) (t u:Tok) (s:al) (Q E:ah->al->Prop),C i j->Q (.int (g i j) s.toks) { s with toks:=s.toks+1 }->wpAny (model X.prog X.w) X.A (f (.int i t)<|.int j u) Q E s):
  fI X f (rI C λi j=>.int<|g i j):=by
 intro O s σ H x y v u Q I rx ry h;let⟨i,j,Z,Z,hc,q⟩:=h;let⟨t,Z⟩:=rx;let⟨t',Z⟩:=ry;show rule i j t t' s _ _ hc ⟨.int<|g i j,H,I.tok _,⟨_,Z⟩,q⟩
def C8{f:ah->ah->Sem ah}{g:Int->Int->Int}
  (rule:∀(i j:Int) (t u:Tok) (s:al) (Q E:ah->al->Prop),Q (.int (g i j) s.toks) { s with toks:=s.toks+1 }->wpAny (model X.prog X.w) X.A (f (.int i t)<|.int j u) Q E s):
  fI X f (wc λi j=>.int<|g i j):=by
 intro O s σ H x y v u Q I rx ry h;let⟨i,j,Z,Z,q⟩:=h;let⟨t,Z⟩:=rx;let⟨t',Z⟩:=ry;show rule i j t t' s _ _ ⟨.int<|g i j,H,I.tok _,⟨_,Z⟩,q⟩
def pe{f:ah->ah->Sem ah}{g:Int->Int->Bool}
  (rule:∀(i j:Int) (t u:Tok) (s:al) (Q E:ah->al->Prop),Q (.bool<|g i j) s->wpAny (model X.prog X.w) X.A (f (.int i t)<|.int j u) Q E s):
  fI X f (wc λi j=>.bl<|g i j):=by
 intro O s σ H x y v u Q I rx ry h;let⟨i,j,Z,Z,q⟩:=h;let⟨t,Z⟩:=rx;let⟨t',Z⟩:=ry;show rule i j t t' s _ _ ⟨.bl<|g i j,H,I,Z,q⟩
@[ext]def CDiv(i j:Int):Prop:=0<j/\j<1073741824
@[ext]def CPow(i j:Int):Prop:=0<=j/\j<=1000000/\i.natAbs<2^64
@[ext]def xA(i j:Int):Prop:=(-(2^64)<i/\i<2^64)\/(-(2^64)<j/\j<2^64)
def xA.ok(h:xA i j):IntMulOk i j:=by
 rcases h with ⟨h1,h2⟩|⟨h1,h2⟩
 show .of_left<|intBits_le_64 h1 h2;show .of_right<|intBits_le_64 h1 h2
def ZI:fI X (binaryOp .Add)<|wc λi j=>.int<|i+j:=C8 λ_ _ _ _ _ _ _ q=>add_int q
def CI:fI X (binaryOp .Sub)<|wc λi j=>.int<|i-j:=C8 λ_ _ _ _ _ _ _ q=>sub_int q
def qo:fI X (binaryOp .Mult)<|rI xA λi j=>.int<|i*j:=Di λ_ _ _ _ _ _ _ hc q=>mul_int q hc.ok
def Xw:fI X (binaryOp .FloorDiv)<|rI CDiv λi j=>.int<|i / j:=Di λi j _ _ _ _ _ hc q=>by
 let h1:(0:Int)<j:=hc.1;let h2:j<1073741824:=hc.2;show floordiv_int (by omega) (by rw[Int.fdiv_eq_ediv_of_nonneg i (by omega)];show q)<|.inl<|PyProof.noPylong_small (by omega)
def Zq:fI X (binaryOp .Mod)<|rI (λ_ j=>0<j) λi j=>.int<|i%j:=Di λi j _ _ _ _ _ hc q=>by
 let h1:(0:Int)<j:=hc;show mod_int' (by lia) (by rw[Int.fmod_eq_emod_of_nonneg i (by lia)];show q)
def oV:fI X (binaryOp .Pow)<|rI CPow λi j=>.int<|i^j.toNat:=Di λ_ _ _ _ _ _ _ hc q=>pow_int_small hc.1 hc.2.1 hc.2.2 q
def unI{f:ah->Sem ah}{g:Int->Int}
  (rule:∀(i:Int) (t:Tok) (s:al) (Q E:ah->al->Prop),Q (.int (g i) s.toks) { s with toks:=s.toks+1 }->wpAny (model X.prog X.w) X.A (f<|.int i t) Q E s):
  UnR X f (rU λi=>.int<|g i):=by
 intro O s σ H x v Q I rx h;let⟨i,Z,q⟩:=h;let⟨t,Z⟩:=rx;show rule i t s _ _ ⟨.int<|g i,H,I.tok _,⟨_,Z⟩,q⟩
def DG:UnR X (unaryOp .USub)<|rU λi=>.int<|-i:=unI λ_ _ _ _ _ q=>neg_int q
end
@[ext]def Dp:V->V->Bool
 |.non,.non=>Â|.non,.int _=>Â|.int _,.non=>Â|.non,.bl _=>Â|.bl _,.non=>Â|.non,.str _=>Â|.str _,.non=>Â
 |.int _,.int _=>Â|.bl _,.bl _=>Â|.str _,.str _=>Â|.byt _,.byt _=>Â
 |.int _,.str _=>Â|.str _,.int _=>Â|.bl _,.str _=>Â|.str _,.bl _=>Â
 |_,_=>Ã
inductive Cd(x y:V)(H:Hp)(Q:VK):Prop
 |mk:Dp x y=Â->Q (.bl (decide (x=y))) H->Cd x y H Q
@[ext]def rEq:R2:=λx y H Q=>Cd x y H Q
inductive DH(x y:V)(H:Hp)(Q:VK):Prop
 |mk:Dp x y=Â->Q (.bl (!decide (x=y))) H->DH x y H Q
@[ext]def rNe:R2:=λx y H Q=>DH x y H Q
def YK0:decide (V.int i=V.int j)=(i==j):=by
 rw[ð];simp
def YND:decide (V.bl i=V.bl j)=(i==j):=by
 rw[ð];simp
def YK1:decide (V.str i=V.str j)=(i==j):=by
 rw[ð];simp
def YK2:decide (V.byt i=V.byt j)=(i.toList==j.toList):=by
 rw[ð];cases i;cases j;simp
section
variable {X:Cx}{a b c:Expr}{ta tb tc:TE}{pos:Pos}
def ZC(I:aX X O σ H s)(q:Q (.bl k) H)(e:k=k'):EP X O σ Q (.bool k') s:=by
 subst e;show⟨.bl k,H,I,Z,q⟩
def iX:fI X (compareOp .Eq) rEq:=by
 intro O s σ H x y v u Q I rx ry h;let⟨hs,q⟩:=h;cases x with
 |non=>
  cases rx;cases y with
  |non=>cases ry;show PySem.EqNone.eq_none_none<|ZC I q (by simp)
  |bl j=>cases ry;show PySem.EqNone.eq_none_bool<|ZC I q (by simp)
  |int j=>let⟨t',Z⟩:=ry;show PySem.EqNone.eq_none_int<|ZC I q (by simp)
  |str j=>let⟨t',Z⟩:=ry;show PySem.EqNone.eq_none_str<|ZC I q (by simp)
  |_=>show absurd (show Ã=Â from hs) Ù
 |bl i=>
  cases rx;cases y with
  |non=>cases ry;show PySem.EqNone.eq_bool_none<|ZC I q (by simp)
  |bl j=>cases ry;show eq_bool<|ZC I q YND
  |str j=>let⟨t',Z⟩:=ry;show PySem.EqMixed.eq_bool_str<|ZC I q (by simp)
  |_=>show absurd (show Ã=Â from hs) Ù
 |int i=>
  let⟨t,Z⟩:=rx;cases y with
  |non=>cases ry;show PySem.EqNone.eq_int_none<|ZC I q (by simp)
  |int j=>let⟨t',Z⟩:=ry;show eq_int<|ZC I q YK0
  |str j=>let⟨t',Z⟩:=ry;show PySem.EqMixed.eq_int_str<|ZC I q (by simp)
  |_=>show absurd (show Ã=Â from hs) Ù
 |str i=>
  let⟨t,Z⟩:=rx;cases y with
  |non=>cases ry;show PySem.EqNone.eq_str_none<|ZC I q (by simp)
  |bl j=>cases ry;show PySem.EqMixed.eq_str_bool<|ZC I q (by simp)
  |int j=>let⟨t',Z⟩:=ry;show PySem.EqMixed.eq_str_int<|ZC I q (by simp)
  |str j=>let⟨t',Z⟩:=ry;show eq_str<|ZC I q YK1
  |_=>show absurd (show Ã=Â from hs) Ù
 |byt i=>
  let⟨t,Z⟩:=rx;cases y with
  |byt j=>let⟨t',Z⟩:=ry;show W.eq_bytes<|ZC I q YK2
  |_=>show absurd (show Ã=Â from hs) Ù
 |_=>cases y <;> show absurd (show Ã=Â from hs) Ù
def Ķ:fI X (compareOp .NotEq) rNe:=by
 intro O s σ H x y v u Q I rx ry h;let⟨hs,q⟩:=h;cases x with
 |non=>
  cases rx;cases y with
  |non=>cases ry;show PySem.EqNone.ne_none_none<|ZC I q (by simp)
  |bl j=>cases ry;show PySem.EqNone.ne_none_bool<|ZC I q (by simp)
  |int j=>let⟨t',Z⟩:=ry;show PySem.EqNone.ne_none_int<|ZC I q (by simp)
  |str j=>let⟨t',Z⟩:=ry;show PySem.EqNone.ne_none_str<|ZC I q (by simp)
  |_=>show absurd (show Ã=Â from hs) Ù
 |bl i=>
  cases rx;cases y with
  |non=>cases ry;show PySem.EqNone.ne_bool_none<|ZC I q (by simp)
  |bl j=>cases ry;show ne_bool<|ZC I q<|fT not YND
  |str j=>let⟨t',Z⟩:=ry;show PySem.EqMixed.ne_bool_str<|ZC I q (by simp)
  |_=>show absurd (show Ã=Â from hs) Ù
 |int i=>
  let⟨t,Z⟩:=rx;cases y with
  |non=>cases ry;show PySem.EqNone.ne_int_none<|ZC I q (by simp)
  |int j=>let⟨t',Z⟩:=ry;show ne_int<|ZC I q<|fT not YK0
  |str j=>let⟨t',Z⟩:=ry;show PySem.EqMixed.ne_int_str<|ZC I q (by simp)
  |_=>show absurd (show Ã=Â from hs) Ù
 |str i=>
  let⟨t,Z⟩:=rx;cases y with
  |non=>cases ry;show PySem.EqNone.ne_str_none<|ZC I q (by simp)
  |bl j=>cases ry;show PySem.EqMixed.ne_str_bool<|ZC I q (by simp)
  |int j=>let⟨t',Z⟩:=ry;show PySem.EqMixed.ne_str_int<|ZC I q (by simp)
  |str j=>let⟨t',Z⟩:=ry;show ne_str<|ZC I q<|fT not YK1
  |_=>show absurd (show Ã=Â from hs) Ù
 |byt i=>
  let⟨t,Z⟩:=rx;cases y with
  |byt j=>let⟨t',Z⟩:=ry;show W.ne_bytes<|ZC I q<|fT not YK2
  |_=>show absurd (show Ã=Â from hs) Ù
 |_=>cases y <;> show absurd (show Ã=Â from hs) Ù
def nB:fI X (compareOp .Lt)<|wc λi j=>.bl<|decide (i<j):=pe λ_ _ _ _ _ _ _ q=>lt_int q
def kA:fI X (compareOp .LtE)<|wc λi j=>.bl<|decide (i<=j):=pe λ_ _ _ _ _ _ _ q=>le_int q
def C_:fI X (compareOp .Gt)<|wc λi j=>.bl<|decide (j<i):=pe λ_ _ _ _ _ _ _ q=>gt_int q
def C7:fI X (compareOp .GtE)<|wc λi j=>.bl<|decide (j<=i):=pe λ_ _ _ _ _ _ _ q=>ge_int q
def Dx:fI X (compareOp .Is)<|λx y H Q=>y=.non/\Q (.bl<|decide (x=.non)) H:=by
 intro O s σ H x y v u Q I rx ry h;let⟨Z,q⟩:=h;cases ry;show is_none_gen<|ZC I q ?_;cases x <;> first
  |(cases rx;rfl)
  |(let⟨t,Z⟩:=rx;rfl)
def BB:fI X (compareOp .IsNot)<|λx y H Q=>y=.non/\Q (.bl<|!decide (x=.non)) H:=by
 intro O s σ H x y v u Q I rx ry h;let⟨Z,q⟩:=h;cases ry;show isnot_none_gen<|ZC I q ?_;cases x <;> first
  |(cases rx;rfl)
  |(let⟨t,Z⟩:=rx;rfl)
def Yd(b:Expr)(h:op≠.In:=by decide)(h2:op≠.NotIn:=by decide):behindInMarks op b=Ã:=by
 let e1:(op==CmpOp.In)=Ã:=by cases op <;> first|rfl|show absurd rfl h
 let e2:(op==CmpOp.NotIn)=Ã:=by cases op <;> first|rfl|show absurd rfl h2
 cases b <;> simp[behindInMarks,e1,e2]
def J2(ho:fI X (compareOp op) r)(ha:PE X a ta)(hb:PE X b tb)(hm:behindInMarks op b=Ã):PE X (.Compare a [op] [b] pos)<|ve r ta tb:=by
 intro O s σ H Q I h;show wpAny_Compare1 (xt ha hb I h λv u s2 x y H2 I2 rx ry q=>ho O s2 σ H2 x y v u Q I2 rx ry q) hm
@[ext]def tI(t:TE):TT:=λσ H Q=>t σ H λx H'=>∃k,x=.bl k/\Q k H'
def Yg{op:CmpOp}{r:R2}(ho:fI X (compareOp op) r)(ha:PE X a ta)(hb:PE X b tb)(hm:behindInMarks op b=Ã):PT X (.Compare a [op] [b] pos)<|tI<|ve r ta tb:=by
 intro O s σ H Q I h;show wpAny_isTrue_Compare1 (cy (ha O s σ H _ I h) λv s1 ⟨x,H1,I1,r1,q1⟩=>cy (hb O s1 σ H1 _ I1 q1) λu s2 ⟨y,H2,I2,r2,q2⟩=>
  cy (ho O s2 σ H2 x y v u _ I2 r1 r2 q2) λc s3 ⟨z,H3,I3,r3,k,e,q3⟩=>?_) hm
 subst e;cases r3;show wpAny_truthy_bool ⟨H3,I3,q3⟩
@[ext]def YNE(r r':R2)(ta tb tc:TE):TE:=λσ H Q=>ta σ H λx H1=>tb σ H1 λy H2=>r x y H2 λz H3=>∃k,z=.bl k/\
 (if k=Â then tc σ H3 λw' H4=>r' y w' H4 Q else Q (.bl Ã) H3)
def Ĳ{op sE:CmpOp}{r r':R2}(ho:fI X (compareOp op) r)(ho':fI X (compareOp sE) r')(ha:PE X a ta)(hb:PE X b tb)(hc:PE X c tc)
  (hm:lastMarks [op,sE] [b,c]=Ã:=by with_unfolding_all rfl):PE X (.Compare a [op,sE] [b,c] pos)<|YNE r r' ta tb tc:=by
 intro O s σ H Q I h;show Compare_chain (cy (ha O s σ H _ I h) λv s1 ⟨x,H1,I1,r1,q1⟩=>chain_link<|cy (hb O s1 σ H1 _ I1 q1) λu s2 ⟨y,H2,I2,r2,q2⟩=>
  cy (ho O s2 σ H2 x y v u _ I2 r1 r2 q2) λd s3 ⟨z,H3,I3,r3,k,e,q3⟩=>?_) hm
 subst e;cases r3;show wpAny_truthy_bool ?_;cases k with
 |false=>show ite_ff ⟨.bl Ã,H3,I3,Z,q3⟩
 |true=>show ite_tt<|chain_last<|cy (hc O s3 σ H3 _ I3 q3) λw' s4 ⟨z',H4,I4,r4,q4⟩=>ho' O s4 σ H4 y z' u w' Q I4 r2 r4 q4
def YIN{op sE:CmpOp}{r r':R2}(ho:fI X (compareOp op) r)(ho':fI X (compareOp sE) r')(ha:PE X a ta)(hb:PE X b tb)(hc:PE X c tc)
  (hm:lastMarks [op,sE] [b,c]=Ã:=by with_unfolding_all rfl):PT X (.Compare a [op,sE] [b,c] pos)<|tI<|YNE r r' ta tb tc:=by
 intro O s σ H Q I h;show isTrue_chain (cy (ha O s σ H _ I h) λv s1 ⟨x,H1,I1,r1,q1⟩=>test_link<|cy (hb O s1 σ H1 _ I1 q1) λu s2 ⟨y,H2,I2,r2,q2⟩=>
  cy (ho O s2 σ H2 x y v u _ I2 r1 r2 q2) λd s3 ⟨z,H3,I3,r3,k,e,q3⟩=>?_) hm
 subst e;cases r3;show wpAny_truthy_bool ?_;cases k with
 |false=>
  let⟨k',e',q'⟩:=q3;cases e';show ite_ff ⟨H3,I3,q'⟩
 |true=>
  show ite_tt<|test_last<|cy (hc O s3 σ H3 _ I3 q3) λw' s4 ⟨z',H4,I4,r4,q4⟩=>cy (ho' O s4 σ H4 y z' u w' _ I4 r2 r4 q4) ?_;rintro d' s5 ⟨z2,H5,I5,r5,k2,e2,q5⟩;subst e2;cases r5;show wpAny_truthy_bool ⟨H5,I5,q5⟩
@[ext]def xY(K:W.Frag)(x:V)(H:Hp)(k:Bool):Prop:=
 match x with
 |.non=>k=Ã
 |.bl b=>k=b
 |.int i=>k=(i !=0)
 |.str y=>y.length<=sizeLine/\k=((y.length:Int) !=0)
 |.byt y=>y.size<=sizeLine/\k=((y.size:Int) !=0)
 |.ref p=>(∃xs,bG K H p xs/\k=!xs.isEmpty)\/(∃xs,cN K H p xs/\k=!xs.isEmpty)\/∃kvs,H p=À (.dK kvs)/\k=!kvs.isEmpty
 |_=>False
def YJ3{κ:Type}{kvs:ac (κ×V)}{vs:ac (κ×ah)}(r:KV kvs vs):(!vs.isEmpty)=!kvs.isEmpty:=by
 cases r <;> rfl
def YE3(r:Yo xs its):(!its.toArray.isEmpty)=!xs.isEmpty:=by
 cases r <;> simp
def tj:(sizeLine:Nat)<2^63:=by rw[sizeLine_eq];decide
def xO:TruR X (λx H Q=>∃k,xY X.K x H k/\Q k H):=by
 intro O s σ H x v Q I rx h;let⟨k,e,q⟩:=h;let hl:=tj;let hs:sizeLine=16777216:=sizeLine_eq;cases x with
 |non=>
  cases rx;let e':k=Ã:=e;subst e';show truthy_none ⟨H,I,q⟩
 |bl b=>
  cases rx;let e':k=b:=e;subst e';show wpAny_truthy_bool ⟨H,I,q⟩
 |int i=>
  let⟨t,Z⟩:=rx;let e':k=(i !=0):=e;subst e';show PySem.P.truthy_int ⟨H,I,q⟩
 |str y=>
  let⟨t,Z⟩:=rx;obtain⟨hy,e'⟩:y.length<=sizeLine/\k=((y.length:Int) !=0):=e;subst e';show PySem.P.truthy_str (by lia) ⟨H,I.tok _,q⟩
 |byt y=>
  let⟨t,Z⟩:=rx;obtain⟨hy,e'⟩:y.size<=sizeLine/\k=((y.size:Int) !=0):=e;subst e';show W.truthy_bytes (by lia) ⟨H,I.tok _,q⟩
 |ref p=>
  cases rx;let e':(∃xs,bG X.K H p xs/\k=!xs.isEmpty)\/(∃xs,cN X.K H p xs/\k=!xs.isEmpty)\/∃kvs,H p=À (.dK kvs)/\k=!kvs.isEmpty:=e;rcases e' with ⟨xs,S,e'⟩|⟨xs,S,e'⟩|⟨kvs,S,e'⟩
  subst e';let⟨its,r,pl,hz⟩:=I.list S;let hlen:=r.length;show wpAny_truthy_list pl.isList (by simp only[Ô];lia) ⟨H,I.tok _,by rw[YE3 r];show q⟩;subst e';let⟨its,r,pl,hz⟩:=I.tuple S;let hlen:=r.length;show truthy_tuple pl (by simp only[Ô];lia) ⟨H,I.tok _,by rw[YE3 r];show q⟩;subst e';obtain⟨hz,hS,vs,r,m⟩:kvs.length<=sizeLine/\(p==sysModules)=Ã/\∃vs,KV kvs vs/\s.heap.DictOf (Yn X.prog X.w) p vs:=I.hok p _ S;let hlen:kvs.length=vs.length:=Paired.length r;show wpAny_truthy_dict hS m (by lia) ⟨H,I.tok _,by rw[YJ3 r];show q⟩
 |_=>show(show False from e).elim
def YNF(ha:PE X a ta)(he:∀whole,isTrue a X.env whole=(do let v <-whole;standAt a.pos;holding [v]<|truthy v)):
  PT X a (λσ H Q=>ta σ H λx H'=>∃k,xY X.K x H' k/\Q k H'):=by
 intro O s σ H Q I h;show isTrue_plain (cy (ha O s σ H _ I h) λv s1 ⟨x,H1,I1,r1,q1⟩=>xO O s1 σ H1 x v Q I1 r1 q1)<|he _
def XO:fI X (binaryOp .Add) (λx y H Q=>∃i j,x=.str i/\y=.str j/\i.length+j.length<=sizeLine/\Q (.str<|i++j) H):=by
 intro O s σ H x y v u Q I rx ry h;let⟨i,j,Z,Z,hz,q⟩:=h;let⟨t,Z⟩:=rx;let⟨t',Z⟩:=ry;show add_str (λt' tk=>⟨.str<|i++j,H,I.tok _,⟨_,Z⟩,q⟩) hz
def kf(r:Yo [x] us):∃u,us=[u]/\Yw x u:=by
 cases r with
 |cons r1 r2=>cases r2;show⟨_,Z,r1⟩
def ı(r:Yo [x,y] us):∃u w',us=[u,w']/\Yw x u/\Yw y w':=by
 cases r with
 |cons r1 r2=>
  cases r2 with
  |cons r3 r4=>cases r4;show⟨_,_,Z,r1,r3⟩
def YMM(hc:X.calm=Â):XH X (.builtin "max") (λxs H Q=>∃i j,xs=[.int i,.int j]/\Q (.int (if j>i then j else i)) H):=by
 intro O s σ H xs us Q I r h;let⟨i,j,Z,q⟩:=h;let⟨u,w',Z,⟨t,Z⟩,⟨t',Z⟩⟩:=ı r;show max_two_ints (I.ok.hd hc) λh' tk k=>⟨_,H,I.kept k,?_,q⟩;by_cases hj:j>i;rw[if_pos hj,if_pos hj];show⟨_,Z⟩;rw[if_neg hj,if_neg hj];show⟨_,Z⟩
def XQ(hc:X.calm=Â):XH X (.builtin "min") (λxs H Q=>∃i j,xs=[.int i,.int j]/\Q (.int (if j<i then j else i)) H):=by
 intro O s σ H xs us Q I r h;let⟨i,j,Z,q⟩:=h;let⟨u,w',Z,⟨t,Z⟩,⟨t',Z⟩⟩:=ı r;show min_two_ints (I.ok.hd hc) λh' tk k=>⟨_,H,I.kept k,?_,q⟩;by_cases hj:j<i;rw[if_pos hj,if_pos hj];show⟨_,Z⟩;rw[if_neg hj,if_neg hj];show⟨_,Z⟩
def YGV:XH X (.type "int") (λxs H Q=>(∃i,xs=[.int i]/\Q (.int i) H)\/∃k,xs=[.bl k]/\Q (.int (if k then 1 else 0)) H):=by
 intro O s σ H xs us Q I r h;rcases h with ⟨i,rfl,q⟩|⟨k,rfl,q⟩
 let⟨u,Z,t,Z⟩:=kf r;show call_int_int ⟨.int i,H,I,⟨_,Z⟩,q⟩;let⟨u,Z,r1⟩:=kf r;cases r1;show call_int_bool ⟨.int (if k then 1 else 0),H,I.tok _,⟨_,Z⟩,q⟩
def YNG:XH X (.builtin "ord") (λxs H Q=>∃x,xs=[.str x]/\x.length=1/\Q (.int (x.cps.getD 0 0:Nat)) H):=by
 intro O s σ H xs us Q I r h;let⟨x,Z,hz,q⟩:=h;let⟨u,Z,t,Z⟩:=kf r;show ord_of_one hz ⟨.int _,H,I.tok _,⟨_,Z⟩,q⟩
end
structure iJ(h:Heap)(x B C:Addr)(mA:Str->Option Value):Prop where
 obj:h.get? x=À (W.instObj C B)
 ns:h.Ns1 B mA
 ne:B≠x
def YMN{h:Heap}{B:ai}{mA:am->ag ah}(n:h.Ns1 B mA):∃od,h.get? B=À od/\∀name,W.lookIn name od=À (mA name):=by
 let⟨o,es,ep,ho,hd,hk,_,hm⟩:=n;show⟨o,ho,λname=>?_⟩;let e:=hm name;unfold nsFind findBy at e;rw[<-Array.find?_toList]at e;unfold W.lookIn;rw[hd];dsimp only;split;rename_i y q;rw[q]at e;show fT À e;rename_i q;rw[q]at e;let a:es.toList.any (·.refKey)=Ã:=by
  rw[List.any_eq_false];intro y hy;let⟨z,t,hkey⟩:=hk y<|Array.mem_toList_iff.mp hy;simp[DictEntry.refKey,hkey]
 let a':¬es.toList.any (·.refKey)=Â:=by rw[a];show Ù
 rw[if_neg a'];show fT À e
def iJ.look(I:iJ h x B C mA):∃od,W.InstAt h x (W.instObj C B) C (À od)/\∀name,W.lookIn name od=À (mA name):=
 let ⟨od,ho,hl⟩:=YMN I.ns
 ⟨od,⟨I.obj,Z,Z,ho⟩,hl⟩
section
variable {prog:Program}{w:World}{A:Around}{E:ah->al->Prop}{s:al}{K:W.Frag}{x B C f:ai}{mA:am->ag ah}{name:am}{v:ah}
def oN{Q:ah->al->Prop}(X:K.In s.heap)(I:iJ s.heap x B C mA)(hg:W.plainGet K C name=Â)(hh:W.hasDictIn K C=Â)
  (ha:W.findIn K (.ref C) name=À Á)(hv:mA name=À v)(hv':W.handedIn v=Â)(h:Q v { s with toks:=s.toks+1 }):
  wpAny (model prog w) A (getAttr (.ref x) name expr) Q E s:=by
 let⟨od,DW,hl⟩:=I.look;show W.get_value X DW (W.plainGet_of hg).1 (W.findObj_own hh ha Z (by rw[hl,hv])) hv' h
def YNH{Q:ah×ac ah->al->Prop}(X:K.In s.heap)(I:iJ s.heap x B C mA)(hg:W.plainGet K C name=Â)
  (hf:W.findIn K (.ref C) name=À (À<|.ref f))(ht:W.isFn K (.ref f)=Â)(hv:mA name=Á)(h:Q (.ref f,[.ref x]) s):
  wpAny (model prog w) A (getMethod (.ref x) name pl) Q E s:=by
 let⟨od,DW,hl⟩:=I.look;show W.method_fn X DW (W.plainGet_of hg).1 (W.plainGet_of hg).2 hf (beq_iff_eq.mp ht) (by change(W.lookIn name od).map (·.isSome)=À Ã;rw[hl,hv];rfl) h
def nR{Q:Unit->al->Prop}(X:K.In s.heap)(I:iJ s.heap x B C mA)
  (hs:W.findIn K (.ref C) "__setattr__"=À (À<|.builtin "object.__setattr__"))(hp:W.plainOver K C=Â)(ht:W.takerIn K C name=À Á)(hh:W.hasDictIn K C=Â)
  (hw:PySem.Within mA ns)(hsz:ns.length<=sizeLine)
  (h:∀h',iJ h' x B C (λy=>if y=name then À v else mA y)->Heap.SameBut B s.heap h'->Q () { s with heap:=h',toks:=s.toks+2 }):
  wpAny (model prog w) A (setAttr (.ref x) name v) Q E s:=by
 let⟨od,DW,hl⟩:=I.look;show W.set_plain X DW hs<|W.osa_open (s:={ s with toks:=s.toks+1 }) (r:=Á) X DW hp ht λb=>?_;let⟨cd,hc,hd'⟩:=W.any_some hh;let S:s.heap.get? x=À ⟨.ref C,À B,.plain,#[]⟩:=I.obj;show Æ<|Ì<|Æ<|Æ<|wpAny_loadPart S<|Æ<|W.Looks.here (s:={ s with toks:=s.toks+1 }) (W.looks_clsIn X hc) ?_;rw[hd'];show Ì (a:=À B)<|Æ<|Ì<|Æ ?_;show wpAny_nsSet1 (s:={ s with toks:=s.toks+1 }) I.ns λh' hn2 hs2=>?_;let⟨oD,esD,epD,hoD,hdD,hcD⟩:=hn2.count<|PySem.Within.cons name v hw;show Æ<|wpAny_lookBehind hoD (by rw[hdD];show pastItsLine_dict<|Ú hcD (by rw[Ñ];lia)) ?_;show Ì<|h _ ⟨(hs2.2 _<|Ne.symm I.ne).trans I.obj,hn2,I.ne⟩ hs2
def YNI{R:Result->al->Prop}(X:K.In s.heap)(hm:W.makesIn K C=Â)
  (hi:W.findIn K (.ref C) "__init__"=À (À<|.ref f))(hf:W.typeIn K (.ref f)=À (.type "function"))
  (h:codeAny (model prog w) (A.under<|.builtin "type.__call__" ⟨.ref C::vs,kw⟩) (.call (.ref f) ⟨.ref (s.heap.objs.size+1)::vs,kw⟩) (W.InitBack (s.heap.objs.size+1) R)
   { s with heap:=(s.heap.push W.emptyDict).push (W.instObj C s.heap.objs.size) }):
  codeAny (model prog w) A (.call (.ref C) ⟨vs,kw⟩) R s:=by
 let⟨hh,g,d,t,os⟩:=s;show W.make_core (W.makes_of X hm) (W.looks_findIn X hi) (λself=>W.bind_fn X self hf) (.inl Z) h
end
@[ext]def Yh(f:am)(v:V):ac (am×V)->ac (am×V)
 |[]=>[(f,v)]
 |(g,x)::r=>if g=f then (g,v)::r else (g,x)::Yh f v r
def YEC(f g:am)(v:V):∀fs:ac<|am×V,(Yh f v fs).lookup g=if g=f then À v else fs.lookup g
 |[]=>by
  change List.lookup g [(f,v)]=_;by_cases h:g=f;let hb:(g==f)=Â:=beq_iff_eq.mpr h;simp only[List.lookup,hb,if_pos h];let hb:(g==f)=Ã:=beq_eq_false_iff_ne.mpr h;simp only[List.lookup,hb,if_neg h]
 |(k,x)::r=>by
  let ih:=YEC f g v r;rw[show Yh f v ((k,x)::r)=(if k=f then (k,v)::r else (k,x)::Yh f v r) from Z];by_cases hk:k=f;rw[if_pos hk];by_cases h:g=k;let hb:(g==k)=Â:=beq_iff_eq.mpr h;simp only[List.lookup,hb,if_pos<|h.trans hk];let hb:(g==k)=Ã:=beq_eq_false_iff_ne.mpr h;simp only[List.lookup,hb,if_neg<|λe:g=f=>h<|e.trans hk.symm];rw[if_neg hk];by_cases h:g=k;let hb:(g==k)=Â:=beq_iff_eq.mpr h;simp only[List.lookup,hb,if_neg<|λe:g=f=>hk<|h.symm.trans e];let hb:(g==k)=Ã:=beq_eq_false_iff_ne.mpr h;simp only[List.lookup,hb];show ih
def Ϛ(f:am)(v:V):∀fs:ac<|am×V,f∈(Yh f v fs).map (·.1)/\∀g,g∈fs.map (·.1)->g∈(Yh f v fs).map (·.1)
 |[]=>⟨by simp[Yh],λg h=>by simp at h⟩
 |(k,x)::r=>by
  let⟨i1,i2⟩:=Ϛ f v r;rw[show Yh f v ((k,x)::r)=(if k=f then (k,v)::r else (k,x)::Yh f v r) from Z];by_cases hk:k=f;rw[if_pos hk];subst hk;show⟨by simp,λg h=>by simpa using h⟩;rw[if_neg hk];show⟨?_,λg h=>?_⟩;rw[Ö];show Ç _ i1;rw[Ö]at h ⊢;rcases YO9.mp h with e|e
  show YO9.mpr<|.inl e;show Ç _<|i2 g e
def YED(f:am)(v:V):∀fs:ac<|am×V,(Yh f v fs).length<=fs.length+1
 |[]=>by simp[Yh]
 |(k,x)::r=>by
  let ih:=YED f v r;rw[show Yh f v ((k,x)::r)=(if k=f then (k,v)::r else (k,x)::Yh f v r) from Z];by_cases hk:k=f;rw[if_pos hk,Ñ,Ñ];lia;rw[if_neg hk,Ñ,Ñ];lia
def gT.some_of(r:gT (À v) o):∃u,o=À u/\Yw v u:=by
 cases o with
 |none=>show(show False from r).elim
 |some u=>show⟨u,Z,r⟩
def gT.none_of(r:gT Á o):o=Á:=by
 cases o with
 |none=>rfl
 |some u=>show(show False from r).elim
def YMO(r:Yw v u):W.handedIn u=Â:=by
 cases v with
 |non=>cases (show u=Value.none from r);rfl
 |bl b=>cases (show u=Value.bool b from r);rfl
 |int i=>let⟨t,e⟩:=(show ∃t,u=Value.int i t from r);cases e;rfl
 |str x=>let⟨t,e⟩:=(show ∃t,u=Value.str x t from r);cases e;rfl
 |byt b=>let⟨t,e⟩:=(show ∃t,u=Value.bytes b t from r);cases e;rfl
 |flt b=>let⟨t,e⟩:=(show ∃t,u=Value.float b t from r);cases e;rfl
 |ref a=>cases (show u=Value.ref a from r);rfl
 |ty n=>cases (show u=Value.type n from r);rfl
section
variable {P:Program}{w:World}{H H':Hp}{h h':Heap}{a C B:ai}{fs lN:ac (am×V)}
def Ĵ(hok:fB P w H h)(e:H a=À (.ins C B fs)):∃mA,iJ h a B C mA/\(∀f,gT (fs.lookup f)<|mA f)/\PySem.Within mA (fs.map (·.1))/\fs.length<=1000/\H B=À (.own a):=by
 let⟨d,z,ne,ob,mA,n,r,q⟩:=(show ZA P w H h a (.ins C B fs) from hok a _ e);show⟨mA,⟨ob,n,ne⟩,r,q,z,d⟩
end
structure gu(K:W.Frag)(C:Addr):Prop where
 pg:W.plainGet K C Str.empty=Â
 hd:W.hasDictIn K C=Â
 po:W.plainOver K C=Â
 sa:W.findIn K (.ref C) "__setattr__"=À (À<|.builtin "object.__setattr__")
def gu.get{K:W.Frag}{C:ai}(c:gu K C)(f:am):W.plainGet K C f=Â:=c.pg
@[ext]def Y2(K:W.Frag)(C:ai)(f:am):Prop:=W.findIn K (.ref C) f=À Á
def Y2.taker{K:W.Frag}{C:ai}{f:am}(n:Y2 K C f):W.takerIn K C f=À Á:=by
 unfold W.takerIn;rw[show W.findIn K (.ref C) f=À Á from n];rfl
structure pT(K:W.Frag)(C:Addr)(m:Str)(f:Addr):Prop where
 at_:W.findIn K (.ref C) m=À (À<|.ref f)
 fn:W.isFn K (.ref f)=Â
 kp:W.keepIn K (.ref f)=Â
section
variable {X:Cx}{O:ac (ai×Obj)}{σ:St}{H:Hp}{s:al}{a C B:ai}{fs:ac (am×V)}{f:am}{v:V}{A:Around}{E:ah->al->Prop}
def YE4{Q:ah->al->Prop}(I:aX X O σ H s)(e:H a=À (.ins C B fs))(c:gu X.K C)(n:Y2 X.K C f)(l:fs.lookup f=À v)
  (h:∀u s',aX X O σ H s'->Yw v u->Q u s'):wpAny (model X.prog X.w) A (getAttr (.ref a) f b) Q E s:=by
 let⟨mA,DR,r,_,_,_⟩:=Ĵ I.hok e;let⟨u,hu,ru⟩:=gT.some_of (v:=v) (o:=mA f) (by rw[<-l];show r f);show oN I.kIn DR (c.get f) c.hd n hu (YMO ru)<|h u _ (I.tok _) ru
def YE5{Q:ah×ac ah->al->Prop}(I:aX X O σ H s)(e:H a=À (.ins C B fs))(c:gu X.K C)(k:pT X.K C m g)(l:fs.lookup m=Á)
  (h:Q (.ref g,[.ref a]) s):wpAny (model X.prog X.w) A (getMethod (.ref a) m pl) Q E s:=by
 let⟨mA,DR,r,_,_,_⟩:=Ĵ I.hok e;let hn:mA m=Á:=gT.none_of (by rw[<-l];show r m);show YNH I.kIn DR (c.get m) k.at_ k.fn hn h
def YE6{Q:Unit->al->Prop}(I:aX X O σ H s)(e:H a=À (.ins C B fs))(c:gu X.K C)(n:Y2 X.K C f)(hl:fs.length<1000)(ry:Yw y u)
  (h:∀s',aX X O σ (upd H a<|.ins C B<|Yh f y fs) s'->Q () s'):wpAny (model X.prog X.w) A (setAttr (.ref a) f u) Q E s:=by
 let⟨mA,DR,r,wi,_,ho⟩:=Ĵ I.hok e;let hz:(fs.map (·.1)).length<=sizeLine:=by rw[Ä,sizeLine_eq];lia
 show nR I.kIn DR c.sa c.po n.taker c.hd wi hz λh' O' sb=>h _ ?_;let hd:∃o,h'.get? B=À o:=let ⟨o,_,_,e',_⟩:=O'.ns;⟨o,e'⟩
 show I.write (x:=a) (e:=B) (by rw[e];show True.intro) (.inr ho) (λb q hb z=>(sb.2 b hb).trans z) hd ?_;show⟨by rw[YB DR.ne];show ho,?_,DR.ne,O'.obj,_,O'.ns,λg=>?_,λg hg=>?_⟩;have:=YED f y fs;lia;change gT ((Yh f y fs).lookup g) (if g=f then À u else mA g);rw[YEC];by_cases q:g=f;rw[if_pos q,if_pos q];show ry;rw[if_neg q,if_neg q];show r g;by_cases q:g=f;rw[q];show(Ϛ f y fs).1;show(Ϛ f y fs).2 g (wi g λz=>hg ?_);change(if g=f then À u else mA g)=Á;rw[if_neg q];show z
def aX.made(I:aX X O σ H s):aX X O σ (upd (upd H s.heap.objs.size<|.own<|s.heap.objs.size+1) (s.heap.objs.size+1)<|.ins C s.heap.objs.size [])
  { s with heap:=(s.heap.push W.emptyDict).push (W.instObj C s.heap.objs.size) }:=by
 let e1:(s.heap.push W.emptyDict).get? s.heap.objs.size=À W.emptyDict:=Þ s.heap Z;let e2:((s.heap.push W.emptyDict).push<|W.instObj C s.heap.objs.size).get? (s.heap.objs.size+1)=À (W.instObj C s.heap.objs.size):=by
  have:=Þ (s.heap.push W.emptyDict) (o:=W.instObj C s.heap.objs.size) Z
  rwa [Heap.size_push]at this
 let e3:(s.heap.push W.emptyDict).Ns s.heap.objs.size<|λ_=>Á:=⟨W.emptyDict,#[],_,e1,Z,(λe he=>absurd he (by simp)),λ_=>rfl⟩;let I1:=I.laid (a:=s.heap.objs.size) (o:=.own<|s.heap.objs.size+1) (h':=s.heap.push W.emptyDict) (t':=s.toks) (λb u q=>Ø _ q) (Å _) ⟨_,e1⟩;show I1.laid (a:=s.heap.objs.size+1) (o:=.ins C s.heap.objs.size []) (t':=s.toks) (λb u q=>Ø _ q) (Nat.le_of_eq<|Heap.size_push _ _) ?_;let ne:s.heap.objs.size≠s.heap.objs.size+1:=Ü<|û _;show⟨by rw[YB ne,YA],Ë _,ne,e2,λ_=>Á,(Heap.Ns1.of_empty e3).at λo q=>Ø _ q,λ_=>True.intro,λy hy=>absurd rfl hy⟩
def mT{Q:ah->al->Prop}(hb:attributeBase e f env (eval e env)=eval e env)
  (h:wpAny (model prog w) A (eval e env) (λo s₁=>wpAny (model prog w) A (getAttr o f Â) Q E s₁) E s):wpAny (model prog w) A (eval (.Attribute e f pos) env) Q E s:=
 Attribute_any_ h (by rw[arm_eval_Attribute,hb])
end
inductive tm(K:W.Frag)(f:Str)(Q:VK)(x:V)(H1:Hp):Prop
 |mk (a:_)(C:_)(B:_)(fs:_)(v:_):x=.ref a->H1 a=À (.ins C B fs)->gu K C->Y2 K C f->fs.lookup f=À v->Q v H1->tm K f Q x H1
@[ext]def yv(K:W.Frag)(ta:TE)(f:am):TE:=λσ H Q=>ta σ H λx H1=>tm K f Q x H1
inductive tP(K:W.Frag)(f:Str)(D:Jg)(σ:St)(y x:V)(H2:Hp):Prop
 |mk (a:_)(C:_)(B:_)(fs:_):x=.ref a->H2 a=À (.ins C B fs)->gu K C->Y2 K C f->fs.length<1000->D.nx σ (upd H2 a (.ins C B (Yh f y fs)))->tP K f D σ y x H2
@[ext]def xi(K:W.Frag)(ta tv:TE)(f:am):TS:=λD σ H=>tv σ H λy H1=>ta σ H1 λx H2=>tP K f D σ y x H2
@[ext]def xQ(X:Cx)(op:Operator)(rd:V->V->Hp->VK->Prop):Prop:=
 ∀(O:ac<|ai×Obj) (s:al) (σ:St) (H:Hp) (x y:V) (u v:ah) (Q:VK),aX X O σ H s->Yw x u->Yw y v->rd x y H Q->wpAny (model X.prog X.w) X.A (inplaceOp op u v) (EP X O σ Q) X.xe s
@[ext]def YK5(K:W.Frag)(ta tv:TE)(rd:V->V->Hp->VK->Prop)(f:am):TS:=λD σ H=>ta σ H λx H1=>∃a C B fs v,x=.ref a/\H1 a=À (.ins C B fs)/\gu K C/\Y2 K C f/\fs.lookup f=À v/\
 tv σ H1 λy H2=>rd v y H2 λz H3=>∃nD lN,H3 a=À (.ins C nD lN)/\lN.length<1000/\D.nx σ (upd H3 a<|.ins C nD<|Yh f z lN)
section
variable {X:Cx}{o e value:Expr}{f:am}{pos gA jm:Pos}{ta tv:TE}
def xR(he:PE X e ta)(hb:attributeBase e f X.env (eval e X.env)=eval e X.env):PE X (.Attribute e f pos)<|yv X.K ta f:=by
 intro O s σ H Q I h;show mT hb<|cy (he O s σ H _ I h) ?_;rintro u s1 ⟨x,H1,I1,rx,a,C,B,fs,v,ex,ea,c,n,l,q⟩;subst ex;obtain rfl:u=Value.ref a:=rx;show YE4 I1 ea c n l λu' s2 I2 ru=>⟨v,H1,I2,ru,q⟩
def AS(ha:PE X o ta)(hv:PE X value tv)(hs:swapsWith value (À<|.Attribute o f gA) pos.line X.env=pure Ã):PS X (.Assign [.Attribute o f gA] value pos)<|xi X.K ta tv f:=by
 intro O s σ H D I h;show plainObj_wpAny_Assign_Attribute (cy (hv O s σ H _ I h) λu s1 ⟨y,H1,I1,ry,q⟩=>cy (ha O s1 σ H1 _ I1 q) λov s2 ⟨x,H2,I2,rx,a,C,B,fs,ex,ea,c,n,l,q2⟩=>?_) hs;subst ex;obtain rfl:ov=Value.ref a:=rx;show YE6 I2 ea c n l ry λs3 I3=>⟨σ,_,I3,q2⟩
def YMP{op:Operator}{rd:V->V->Hp->VK->Prop}(ha:PE X o ta)(hv:PE X value tv)(hop:xQ X op rd):PS X (.AugAssign (.Attribute o f jm) op value pos)<|YK5 X.K ta tv rd f:=by
 intro O s σ H D I h;show wpAny_AugAssign_AttributeAny<|cy (ha O s σ H _ I h) ?_;rintro ov s1 ⟨x,H1,I1,rx,a,C,B,fs,v,ex,ea,c,n,l,q⟩;subst ex;obtain rfl:ov=Value.ref a:=rx;show YE4 I1 ea c n l λu s2 I2 ru=>cy (hv O s2 σ H1 _ I2 q) λw3 s3 ⟨y,H2,I3,ry,q3⟩=>cy (hop O s3 σ H2 v y u w3 _ I3 ru ry q3) ?_;rintro w4 s4 ⟨z,H3,I4,rz,nD,lN,WM,l',q4⟩;show YE6 I4 WM c n l' rz λs5 I5=>⟨σ,_,I5,q4⟩
@[ext]def Ϗ:V->V->Hp->VK->Prop:=λx y H Q=>∃i j,x=.int i/\y=.int j/\Q (.int<|i+j) H
def AR:xQ X .Add Ϗ:=by
 rintro O s σ H x y u v Q I rx ry ⟨i,j,rfl,rfl,q⟩;let⟨t,Z⟩:=(show ∃t,u=Value.int i t from rx);let⟨t',Z⟩:=(show ∃t',v=Value.int j t' from ry);show PyProof.Rows.iadd_int ⟨.int<|i+j,H,I.tok _,⟨_,Z⟩,q⟩
end
section
variable {X:Cx}{O:ac (ai×Obj)}{σ:St}{H:Hp}{s:al}{A:Around}{E Q:ah->al->Prop}{c:ah}{b:Bool}
inductive io(K:W.Frag)(H:Hp):V->Value->Prop where
 |non:io K H .non (.type "NoneType")
 |bl (x:Bool):io K H (.bl x) (.type "bool")
 |int (i:Int):io K H (.int i) (.type "int")
 |str (x:Str):io K H (.str x) (.type "str")
 |flt (x:UInt64):io K H (.flt x) (.type "float")
 |lst {a:Addr}{xs:List V} (e:H a=À (.lst xs)):io K H (.ref a) (.type "list")
 |frz {a:Addr}{o:Obj}{xs:List V} (e:H a=À (.frz o (.lst xs))):io K H (.ref a) (.type "list")
 |tup {a:Addr}{xs:List V} (e:H a=À (.tup xs)):io K H (.ref a) (.type "tuple")
 |dK {a:Addr}{kvs:List (db×V)} (e:H a=À (.dK kvs)):io K H (.ref a) (.type "dict")
 |dT {a:Addr}{kvs:List (List db×V)} (e:H a=À (.dT kvs)):io K H (.ref a) (.type "dict")
 |ins {a C B:Addr}{fs:List (Str×V)} (e:H a=À (.ins C B fs)) (cl:gu K C) (ha:W.findIn K (.ref C) "__class__"=À (À (.builtin "object.__class__")))
   (hn:W.specialIn K (.builtin "object.__class__") "__get__"=À (À<|.builtin "getset_descriptor.__get__")) (jc:W.takesIn K (.builtin "object.__class__")=À Â)
   (hm:W.mroIn K C (.type "object")=À Â):io K H (.ref a)<|.ref C
def YMQ(I:aX X O σ H s)(rx:Yw x u)(ty:io X.K H x t)(e:W.kitOne X.K t c=À b)(h:∀tk,Q (.bool b) { s with toks:=tk }):
  wpAny (model X.prog X.w) A (call (.builtin "isinstance") [u,c]) Q E s:=by
 cases ty with
 |non=>cases (show u=Value.none from rx);show W.kia_one W.kitx_none I.kIn True.intro e nofun h
 |bl y=>cases (show u=Value.bool y from rx);show W.kia_one W.kitx_bool I.kIn True.intro e nofun h
 |int i=>let⟨t,q⟩:=(show ∃t,u=Value.int i t from rx);cases q;show W.kia_one W.kitx_int I.kIn True.intro e nofun h
 |str y=>let⟨t,q⟩:=(show ∃t,u=Value.str y t from rx);cases q;show W.kia_one W.kitx_str I.kIn True.intro e nofun h
 |flt y=>let⟨t,q⟩:=(show ∃t,u=Value.float y t from rx);cases q;show W.kia_one W.kitx_float I.kIn True.intro e nofun h
 |@lst a xs ea=>
  cases (show u=Value.ref a from rx);let⟨_,_,n,_,h1⟩:=(show ZA X.prog X.w H s.heap a (.lst xs) from I.hok a _ ea);show W.kia_one W.kitx_list I.kIn ⟨_,h1,Z⟩ e nofun h
 |@frz a ob xs ea=>
  cases (show u=Value.ref a from rx);let⟨_,_,_,n,_,h1⟩:=(show ZA X.prog X.w H s.heap a (.frz ob<|.lst xs) from I.hok a _ ea);show W.kia_one W.kitx_list I.kIn ⟨_,h1,Z⟩ e nofun h
 |@tup a xs ea=>
  cases (show u=Value.ref a from rx);let⟨_,_,_,p⟩:=(show ZA X.prog X.w H s.heap a (.tup xs) from I.hok a _ ea);let⟨o,h1,h2,_⟩:=p;show W.kia_one W.kitx_tuple I.kIn ⟨o,h1,h2⟩ e nofun h
 |@dK a kvs ea=>
  cases (show u=Value.ref a from rx);let⟨_,_,vs,_,p⟩:=(show ZA X.prog X.w H s.heap a (.dK kvs) from I.hok a _ ea);let⟨o,es,ep,h1,h2,_⟩:=p;show W.kia_one W.kitx_dict I.kIn ⟨o,h1,h2.1⟩ e nofun h
 |@dT a kvs ea=>
  cases (show u=Value.ref a from rx);let⟨_,_,xs,_,o,es,ep,h1,h2,_⟩:=(show ZA X.prog X.w H s.heap a (.dT kvs) from I.hok a _ ea);show W.kia_one W.kitx_dict I.kIn ⟨o,h1,h2.1⟩ e nofun h
 |@ins a C B fs ea cl ha hn jc hm=>
  cases (show u=Value.ref a from rx);let⟨mA,DR,_⟩:=Ĵ I.hok ea;let⟨od,DW,_⟩:=DR.look;show W.kia_one (W.kitx_own (cl.get _) cl.hd ha hn jc hm) I.kIn DW e nofun h
end
structure JR(k:Nat)(A:Around):Prop where
 hd:A.handled=Á
 dp:A.depth+3*k+5<recursionLimit
 un:A.units+16*k+200<cLine
def JR.mono(r:JR k A)(h:j<=k):JR j A:=⟨r.hd,by have:=r.dp;lia,by have:=r.un;lia⟩
def JR.deeper(r:JR (k+1) A)(env:Env):JR k<|A.deeper env:=
 ⟨r.hd,by have:=r.dp;change A.depth+1+3*k+5<_;lia,by have:=r.un;change A.units+3+16*k+200<_;lia⟩
def YJ4{A:Around}{C:ai}{us:ac ah}{kw:ac (am×ah)}:(A.under<|.builtin "type.__call__" ⟨.ref C::us,kw⟩).depth=A.depth+1:=by
 first|rfl|simp[Around.under,Code.weight,Code.isCreation,Code.isGuard,Code.isCaller,Code.frames,Code.isFrame,guardIds]
def YJ5{A:Around}{C:ai}{us:ac ah}{kw:ac (am×ah)}:(A.under<|.builtin "type.__call__" ⟨.ref C::us,kw⟩).units=A.units+1:=by
 first|rfl|simp[Around.under,Code.cUnits,Code.frames,Code.isFrame]
def JR.make(r:JR (k+1) A)(C:ai)(us:ac ah)(kw:ac<|am×ah):JR k<|A.under<|.builtin "type.__call__" ⟨.ref C::us,kw⟩:=
 ⟨r.hd,by have:=r.dp;rw[YJ4];omega,by have:=r.un;rw[YJ5];omega⟩
def JR.depth(r:JR k A):A.depth<recursionLimit:=by have:=r.dp;omega
def JR.units(r:JR k A):A.units+64<cLine:=by have:=r.un;lia
@[ext]def lP:TA:=λ_ H Q=>Q [] H
@[ext]def lx(ta:TE)(tr:TA):TA:=λσ H Q=>ta σ H λx H1=>tr σ H1 λxs H2=>Q (x::xs) H2
section
variable {X:Cx}{e:Expr}{es:ac Expr}{te:TE}{t:TA}{pos:Pos}
def Ys:PA X [] lP:=λ_ _ _ _ H Q I h=>Calls.spliced_nil ⟨[],H,I,.nil,h⟩
def YI(ha:PE X e te)(hr:PA X es t)(hs:starEach (e::es) X.env=(Ã,eval e X.env)::starEach es X.env:=by rfl):PA X (e::es)<|lx te t:=by
 intro pos O s σ H Q I h;rw[hs];change wpAny _ _ (spliced<|(Ã,eval e X.env)::backTo pos (starEach es X.env)) _ _ s;show Calls.spliced_cons<|cy (ha O s σ H _ I h) λu s1 ⟨x,H1,I1,r1,q1⟩=>?_;show cy (hr pos O s1 σ H1 _ I1 q1) λus s2 ⟨xs,H2,I2,r2,q2⟩=>⟨x::xs,H2,I2,.cons r1 r2,q2⟩
inductive ua(Q:VK)(xs:List V)(H1:Hp):Prop
 |mk:xs.length<=sizeLine->(∀p,H1 p=Á->Q (.ref p) (upd H1 p (.tup xs)))->ua Q xs H1
@[ext]def AE(t:TA):TE:=λσ H Q=>t σ H λxs H1=>ua Q xs H1
inductive sv(Q:VK)(xs:List V)(H1:Hp):Prop
 |mk:xs.length<=sizeLine->(∀p,H1 p=Á->Q (.ref p) (upd H1 p (.lst xs)))->sv Q xs H1
@[ext]def Cz(t:TA):TE:=λσ H Q=>t σ H λxs H1=>sv Q xs H1
def ZE{x1}(h:PA X es t):PE X (.Tuple es x1 pos)<|AE t:=by
 intro O s σ H Q I hq;show wpAny_Tuple_spliced<|cy (h pos O s σ H _ I hq) λus s1 ⟨xs,H1,I1,r,z,q⟩=>⟨by rw[<-r.length];show z,?_⟩;let hf:H1 s1.heap.objs.size=Á:=I1.hok.fresh<|Å _;show⟨.ref s1.heap.objs.size,upd H1 s1.heap.objs.size<|.tup xs,I1.laid (t':=s1.toks) (λb u e=>Ø _ e) (Å _) ?_,Z,q _ hf⟩;show⟨z,us,r,⟨_,Þ _ Z,Z,_,Z⟩⟩
def Y6(h:PA X es t):PE X (.List es pos)<|Cz t:=by
 intro O s σ H Q I hq;show wpAny_List_spliced<|cy (h pos O s σ H _ I hq) λus s1 ⟨xs,H1,I1,r,z,q⟩=>⟨by rw[<-r.length];show z,?_⟩;let hf:H1 s1.heap.objs.size=Á:=I1.hok.fresh<|Å _;show⟨.ref s1.heap.objs.size,upd H1 s1.heap.objs.size<|.lst xs,I1.laid (t':=s1.toks) (λb u e=>Ø _ e) (Å _) ?_,Z,q _ hf⟩;show⟨z,us,0,r,Þ _ Z⟩
end
noncomputable abbrev Sp:=ac V->Hp->VK->XK->Prop
noncomputable abbrev gz:=ac Env->Hp->al->XK->ah->al->Prop
structure iL(P:Program)(w:World)(K:W.Frag)(mg:Str->Option Value)(base:Heap)(A:Around)(outer:List Env)(s:Shared)(H:Hp):Prop where
 frames:A.frames=À outer
 mod:Mod K mg base
 bs:∀b o,base.get? b=À o->s.heap.get? b=À o/\H b=Á
 bsz:base.objs.size<=s.heap.objs.size
 funs:s.heap.FunFrames base outer
 frf:∀b∈fx outer,H b=Á
 hok:fB P w H s.heap
 bare:AllBare s.gens
@[ext]def CE(outer:ac Env)(P:Program)(w:World)(H:Hp)(s:al)(Q:VK)(u:ah)(s':al):Prop:=
 ∃v H',s'.os=s.os/\AllBare s'.gens/\Un (fx outer) [] H H' s.heap s'.heap/\fB P w H' s'.heap/\Yw v u/\Q v H'
@[ext]def CR(CX:gz)(outer:ac Env)(P:Program)(w:World)(H:Hp)(s:al)(Q:VK)(E:XK)(r:Result)(s':al):Prop:=
 match r with
 |.ok (.ret u)=>CE outer P w H s Q u s'
 |.ok _=>False
 |.error e=>CX outer H s E e s'
structure f_(P:Program)(w:World)(K:W.Frag)(mg:Str->Option Value)(base:Heap)(CX:gz)(k:Nat)(f:Addr)(fd:FuncData)(ps:List Str)(sp:Sp):Prop where
 len:∀vs H Q E,sp vs H Q E->vs.length=ps.length
 run:∀(A:Around) (outer:List Env) (s:Shared) (H:Hp) (args:Args) (us:List Value) (vs:List V) (Q:VK) (E:XK),JR k A->iL P w K mg base A outer s H->BindsTo s fd args (ps.zip us)->Yo vs us->sp vs H Q E->
  codeAny (model P w) A (.call (.ref f) args) (CR CX outer P w H s Q E) s
def iL.make{P:Program}{w:World}{K:W.Frag}{mg:am->ag ah}{base:Heap}{A:Around}{outer:ac Env}{s:al}{H:Hp}(e:iL P w K mg base A outer s H)(C:ai)(us:ac ah)(kw:ac<|am×ah):
  iL P w K mg base (A.under<|.builtin "type.__call__" ⟨.ref C::us,kw⟩) outer s H:=⟨by first|show e.frames|(simpa [Around.under,Code.envs,Code.isFrame,pushEnvs] using e.frames),e.mod,e.bs,e.bsz,e.funs,e.frf,e.hok,e.bare⟩
section
variable {X:Cx}{O:ac (ai×Obj)}{σ:St}{H:Hp}{s s':al}
def aX.env0(I:aX X O σ H s):iL X.prog X.w X.K X.mg X.base X.A X.stack s H:=
 ⟨I.ok.frames,I.ok.mod,I.bs,Ú I.ok.bsz I.sz,I.stack,I.stkFree,I.hok,I.bare⟩
def aX.after(I:aX X O σ H s)(h:CE X.stack X.prog X.w H s Q u s'):EP X O σ Q u s':=by
 let⟨v,H',os,bare,un,hok,r,q⟩:=h;let⟨hh,g,d,t,WN⟩:=s';obtain rfl:WN=s.os:=os;show⟨v,H',I.call (h':=hh) (g':=g) (d':=d) (t':=t) (ch:=[]) un hok bare<|λb z=>absurd z (by simp),r,q⟩
end
@[ext]def sA(sp:Sp)(g8:ac V)(E:XK)(t:TA):TE:=λσ H Q=>t σ H λvs H1=>sp (vs++g8) H1 Q E
inductive YNJ(C:Addr)(m:Str)(sp:Sp)(g8:List V)(E:XK)(t:TA)(σ:St)(Q:VK)(x:V)(H1:Hp):Prop
 |mk (a:_)(B:_)(fs:_):x=.ref a->H1 a=À (.ins C B fs)->fs.lookup m=Á->(t σ H1 λvs H2=>sp (x::(vs++g8)) H2 Q E)->YNJ C m sp g8 E t σ Q x H1
@[ext]def Ġ(C:ai)(m:am)(sp:Sp)(g8:ac V)(E:XK)(ta:TE)(t:TA):TE:=λσ H Q=>ta σ H λx H1=>YNJ C m sp g8 E t σ Q x H1
@[ext]def we(C:ai)(sp:Sp)(g8:ac V)(E:XK)(t:TA):TE:=λσ H Q=>t σ H λvs H1=>∀x B,H1 x=Á->H1 B=Á->B≠x->
 sp (.ref x::(vs++g8)) (upd (upd H1 B<|.own x) x<|.ins C B []) (λv H2=>v=.non/\Q (.ref x) H2) E
@[ext]def jv(K:W.Frag)(fd:FuncData)(ps:ac am)(ds:ac ah):Prop:=
 ∀(s:al) (us:ac ah),K.In s.heap->(us++ds).length=ps.length->BindsTo s fd ⟨us,[]⟩ (ps.zip<|us++ds)
def jv.all{K:W.Frag}{fd:FuncData}{ps:ac am}(h:∀us:ac ah,us.length=ps.length->bindArgs fd ⟨us,[]⟩=pure (ps.zip us)):jv K fd ps []:=λs us _ hl=>by
 rw[ß]at hl ⊢;show .of_eq<|h us hl
@[ext]def XR(CX:gz)(X:Cx)(E:XK):Prop:=∀(O:ac<|ai×Obj) (σ:St) (H:Hp) (s:al) (e:ah) (s':al),aX X O σ H s->CX X.stack H s E e s'->X.xe e s'
section
variable {X:Cx}{CX:gz}{k:Nat}{f C:ai}{fd:FuncData}{ps:ac am}{sp:Sp}{g8:ac V}{ds:ac ah}{E:XK}{x m:am}{p pos bL:Pos}{e o:Expr}{es:ac Expr}{ta:TE}{t:TA}
def š(F:f_ X.prog X.w X.K X.mg X.base CX k f fd ps sp)(hr:JR k X.A)(hb:jv X.K fd ps ds)(hd:Yo g8 ds)(S:XR CX X E)
  (I:aX X O σ H s)(r:Yo vs us)(h:sp (vs++g8) H Q E):wpAny (model X.prog X.w) X.A (call (.ref f) us) (EP X O σ Q) X.xe s:=by
 let r2:Yo (vs++g8)<|us++ds:=r.append hd;let hl:(us++ds).length=ps.length:=by rw[<-r2.length];show F.len _ _ _ _ h
 show wpAny_call<|codeAny_mono (F.run X.A X.stack s H ⟨us,[]⟩ (us++ds) (vs++g8) Q E hr I.env0 (hb s us I.kIn hl) r2 h) λr s' hq=>?_;cases r with
 |error e=>show S O σ H s e s' I hq
 |ok fl=>
  cases fl with
  |ret u=>show I.after hq
  |next=>show False.elim hq
  |brk=>show False.elim hq
  |cont=>show False.elim hq
def ml(F:f_ X.prog X.w X.K X.mg X.base CX k f fd ps sp)(hr:JR k X.A)(hg:Gl X x)(hm:X.mg x=À (.ref f))(hk:W.keepIn X.K (.ref f)=Â)(hb:jv X.K fd ps ds)(hd:Yo g8 ds)(S:XR CX X E)
  (ha:PA X (e::es) t)(hdb:(x==("__debug__":am))=Ã:=by decide)(he:starEach (e::es) X.env=(Ã,eval e X.env)::starEach es X.env:=by rfl)(hpl:(backTo pos<|starEach es X.env).any (·.1)=Ã:=by rfl):
  PE X (.Call (.Name x p) (e::es) [] pos) (sA sp g8 E t):=by
 intro O s σ H Q I h;show wpAny_Call_Name_kw<|xH I hg hm ?_ hdb;show W.callWith_K (h₀:=X.base) I.ok.mod.kin hk (cy (ha pos O s σ H _ I h) λus s1 ⟨vs,H1,I1,r,q⟩=>⟨I1.kIn,?_⟩) he hpl;show š F hr hb hd S I1 r q
def mS{pl:Sem Bool}(he:PE X o ta)(c:gu X.K C)(hm:pT X.K C m f)(F:f_ X.prog X.w X.K X.mg X.base CX k f fd ps sp)(hr:JR k X.A)(hb:jv X.K fd ps ds)(hd:Yo g8 ds)(S:XR CX X E)(ha:PA X (e::es) t)
  (hst:starEach (e::es) X.env=(Ã,eval e X.env)::starEach es X.env:=by rfl)(hpl:(backTo pos<|starEach es X.env).any (·.1)=Ã:=by rfl)
  (ht:eval (.Call (.Attribute o m bL) (e::es) [] pos) X.env=(do
   let ov <-eval o X.env
   standAt bL.atName
   let (f,first) <-holding [ov] (getMethod ov m pl)
   callWith pos f first (backTo pos<|starEach (e::es) X.env) (backToKw pos<|keywordEach [] X.env)):=by rfl):
  PE X (.Call (.Attribute o m bL) (e::es) [] pos) (Ġ C m sp g8 E ta t):=by
 intro O s σ H Q I h;show W.methodCall_KW (pl:=pl) (cy (he O s σ H _ I h) λu s1 ⟨x,H1,I1,rx,a,B,fs,ex,ea,l,q⟩=>?_) ht;subst ex;obtain rfl:u=Value.ref a:=rx;show YE5 I1 ea c hm l ?_;show W.callWith_K (first:=[.ref a]) (h₀:=X.base) I.ok.mod.kin hm.kp (cy (ha pos O s1 σ H1 _ I1 q) λus s2 ⟨vs,H2,I2,r,q2⟩=>⟨I2.kIn,?_⟩) hst hpl;show š (us:=.ref a::us) (vs:=.ref a::vs) F hr hb hd S I2 (.cons Z r) q2
def YNK{pl:Sem Bool}(he:PE X o ta)(c:gu X.K C)(hm:pT X.K C m f)(F:f_ X.prog X.w X.K X.mg X.base CX k f fd ps sp)(hr:JR k X.A)(hb:jv X.K fd ps ds)(hd:Yo g8 ds)(S:XR CX X E)
  (ht:eval (.Call (.Attribute o m bL) [] [] pos) X.env=(do
   let ov <-eval o X.env
   standAt bL.atName
   let (f,first) <-holding [ov] (getMethod ov m pl)
   callWith pos f first (backTo pos<|starEach [] X.env) (backToKw pos<|keywordEach [] X.env)):=by rfl):
  PE X (.Call (.Attribute o m bL) [] [] pos) (Ġ C m sp g8 E ta lP):=by
 intro O s σ H Q I h;show W.methodCall_KW (pl:=pl) (cy (he O s σ H _ I h) λu s1 ⟨x,H1,I1,rx,a,B,fs,ex,ea,l,q⟩=>?_) ht;subst ex;obtain rfl:u=Value.ref a:=rx;show YE5 I1 ea c hm l ?_;show W.callWith_K0 (first:=[.ref a]) I1.kIn hm.kp<|š (us:=[.ref a]) (vs:=[.ref a]) F hr hb hd S I1 (.cons rfl .nil) q
structure Mk(K:W.Frag)(C f:Addr):Prop where
 makes:W.makesIn K C=Â
 init:W.findIn K (.ref C) "__init__"=À (À<|.ref f)
 fn:W.isFn K (.ref f)=Â
 kp:W.keepIn K (.ref C)=Â
def YNL(M:Mk X.K C f)(F:f_ X.prog X.w X.K X.mg X.base CX k f fd ps sp)(hr:JR (k+1) X.A)(hb:jv X.K fd ps ds)(hd:Yo g8 ds)
  (S:XR CX X E)(I:aX X O σ H s)(r:Yo vs us)
  (h:∀x B,H x=Á->H B=Á->B≠x->sp (.ref x::(vs++g8)) (upd (upd H B<|.own x) x<|.ins C B []) (λv H2=>v=.non/\Q (.ref x) H2) E):
  wpAny (model X.prog X.w) X.A (call (.ref C) us) (EP X O σ Q) X.xe s:=by
 let hq:=h (s.heap.objs.size+1) s.heap.objs.size (I.hok.fresh<|ò _) (I.hok.fresh<|Å _)<|Ü<|û _;let I2:=aX.made (C:=C) I;let r2:Yo (V.ref (s.heap.objs.size+1)::(vs++g8))<|Value.ref (s.heap.objs.size+1)::(us++ds):=.cons rfl<|r.append hd;let hl:(Value.ref (s.heap.objs.size+1)::us++ds).length=ps.length:=by
  let e:=r2.length;rw[F.len _ _ _ _ hq]at e;show e.symm
 show wpAny_call (YNI (f:=f) I.kIn M.makes M.init (beq_iff_eq.mp M.fn) (codeAny_mono (F.run _ X.stack _ _ ⟨Value.ref (s.heap.objs.size+1)::us,[]⟩ (Value.ref (s.heap.objs.size+1)::(us++ds)) _ _ E (hr.make C us [])
  (I2.env0.make C us []) (hb _ (Value.ref (s.heap.objs.size+1)::us) I2.kIn hl) r2 hq) λr s' hq'=>?_))
 cases r with
 |error e=>show S O σ _ _ e s' I2 hq'
 |ok fl=>
  cases fl with
  |ret u=>
   let⟨v,H',I3,rv,ev,q3⟩:=I2.after hq';subst ev;show⟨rv,⟨V.ref<|s.heap.objs.size+1,H',I3,Z,q3⟩⟩
  |next=>show False.elim hq'
  |brk=>show False.elim hq'
  |cont=>show False.elim hq'
def nN(M:Mk X.K C f)(F:f_ X.prog X.w X.K X.mg X.base CX k f fd ps sp)(hr:JR (k+1) X.A)(hg:Gl X x)(hm:X.mg x=À (.ref C))(hb:jv X.K fd ps ds)(hd:Yo g8 ds)(S:XR CX X E)
  (ha:PA X (e::es) t)(hdb:(x==("__debug__":am))=Ã:=by decide)(he:starEach (e::es) X.env=(Ã,eval e X.env)::starEach es X.env:=by rfl)(hpl:(backTo pos<|starEach es X.env).any (·.1)=Ã:=by rfl):
  PE X (.Call (.Name x p) (e::es) [] pos) (we C sp g8 E t):=by
 intro O s σ H Q I h;show wpAny_Call_Name_kw<|xH I hg hm ?_ hdb;show W.callWith_K (h₀:=X.base) I.ok.mod.kin M.kp (cy (ha pos O s σ H _ I h) λus s1 ⟨vs,H1,I1,r,q⟩=>⟨I1.kIn,?_⟩) he hpl;show YNL M F hr hb hd S I1 r q
end
section
variable {X:Cx}{CX:gz}{k:Nat}{f C:ai}{fd:FuncData}{ps ks:ac am}{sp:Sp}{E:XK}{x m:am}{p pos bL kpos:Pos}{e o:Expr}{es:ac Expr}{kws:ac Keyword}{te ta:TE}{t tk:TA}{nm:ag am}
variable {g:ac ah->ac ah->ac ah}{gV:ac V->ac V->ac V}
end
structure YJ(N P:List Str)(sc:Scope):Prop where
 kind:sc.kind=.function
 co:sc.isCoroutine=Ã
 gen:sc.isGenerator=Ã
 nd:N.Nodup
 pre:N.take P.length=P
 par:∀x∈P,sc.names.lookup x=À .local\/sc.names.lookup x=À .cell
 nofree:∀y∈sc.names,y.2≠.free
def YGW{kindOf:am->ag NameKind}{x:am}:∀{binds:ac (am×ah)}{m:am->ag ah},(∀v,(x,v)∉binds)->bindL kindOf binds m x=m x
 |[],_,_=>rfl
 |(n,v)::r,m,h=>by
  unfold bindL;rw[YGW λw hw=>h w<|Ç _ hw];split;have:x≠n:=by rintro rfl;show h v É
  simp[this];rfl
def YGX{kindOf:am->ag NameKind}{x:am}:∀{binds:ac (am×ah)}{m:am->ag ah},(∀v,(x,v)∉binds)->bindC kindOf binds m x=m x
 |[],_,_=>rfl
 |(n,v)::r,m,h=>by
  unfold bindC;rw[YGX λw hw=>h w<|Ç _ hw];split;rfl;have:x≠n:=by rintro rfl;show h v É
  simp[this]
def YGY{kindOf:am->ag NameKind}{x:am}{v:ah}:∀{P:ac am}{vs:ac ah}{i:Nat}{m:am->ag ah},P.Nodup->P[i]?=À x->vs[i]?=À v->kindOf x=À .local->
  bindL kindOf (P.zip vs) m x=À v
 |[],_,_,_,_,h,_,_=>by simp at h
 |_::_,[],_,_,_,_,h,_=>by simp at h
 |p::P,w::vs,0,m,nd,h1,h2,hk=>by
  simp at h1 h2;subst h1;subst h2;change bindL kindOf ((p,w)::P.zip vs) m p=_;unfold bindL;rw[YGW λv hv=>(YPN.mp nd).1 (List.of_mem_zip hv).1,if_pos hk];simp
 |p::P,w::vs,i+1,m,nd,h1,h2,hk=>by
  change bindL kindOf ((p,w)::P.zip vs) m x=_;unfold bindL;show YGY (i:=i) (YPN.mp nd).2 (by simpa using h1) (by simpa using h2) hk
def YGZ{kindOf:am->ag NameKind}{x:am}{v:ah}:∀{P:ac am}{vs:ac ah}{i:Nat}{m:am->ag ah},P.Nodup->P[i]?=À x->vs[i]?=À v->kindOf x≠À .local->
  bindC kindOf (P.zip vs) m x=À v
 |[],_,_,_,_,h,_,_=>by simp at h
 |_::_,[],_,_,_,_,h,_=>by simp at h
 |p::P,w::vs,0,m,nd,h1,h2,hk=>by
  simp at h1 h2;subst h1;subst h2;change bindC kindOf ((p,w)::P.zip vs) m p=_;unfold bindC;rw[YGX λv hv=>(YPN.mp nd).1 (List.of_mem_zip hv).1,if_neg hk];simp
 |p::P,w::vs,i+1,m,nd,h1,h2,hk=>by
  change bindC kindOf ((p,w)::P.zip vs) m x=_;unfold bindC;show YGZ (i:=i) (YPN.mp nd).2 (by simpa using h1) (by simpa using h2) hk
@[ext]def start(N:ac am)(vs:ac V):St:=vs.map À++List.replicate (N.length-vs.length) Á
@[ext]def iE(CX:gz)(P:Program)(w:World)(K:W.Frag)(mg:am->ag ah)(base:Heap)(N:ac am)(qual:am)(scope:Scope)(f:ai)(cd:ah)(A:Around)(outer:ac Env)(s:al)(H:Hp)(E:XK):Cx where
 prog:=P
 w:=w
 K:=K
 mg:=mg
 base:=base
 A:=A.deeper (envOfC qual scope s.heap.objs.size f cd)
 N:=N
 s₀:=s
 H₀:=H
 env:=envOfC qual scope s.heap.objs.size f cd
 outer:=outer
 stack:=envOfC qual scope s.heap.objs.size f cd::outer
 ex:=[]
 calm:=true
 fn:=λ_=>Â
 pn:=[]
 xe:=λe s'=>wpAny (model P w) (A.deeper<|envOfC qual scope s.heap.objs.size f cd) (leaving (envOfC qual scope s.heap.objs.size f cd) e) (λ_ yU=>CX outer H s E e yU) (λe' yU=>CX outer H s E e' yU) s'
def BY{sc:Scope}{n:Nat}{x:am}(h:sc.names.lookup x=À .cell):∃c,(cellsFrom n sc.names []).lookup x=À c:=by
 let q:=W.cellsFrom_some sc.names n []<|.inl h;show YQj.mp q
def YMR{CX:gz}{P:Program}{w:World}{K:W.Frag}{mg:am->ag ah}{base:Heap}{N ps:ac am}{qual:am}{scope:Scope}{f:ai}{cd:ah}{A:Around}{outer:ac Env}{s s1:al}{H:Hp}{E:XK}{us:ac ah}{vs:ac V}
  (DX:YJ N ps scope)(hd:A.handled=Á)(e0:iL P w K mg base A outer s H)(hl:vs.length=ps.length)(r:Yo vs us)
  (x:InCallC s s.heap.objs.size (bindL (envOfC qual scope s.heap.objs.size f cd).kindOf (ps.zip us) λ_=>Á) (cellsFrom (s.heap.objs.size+1) scope.names []) (bindC (envOfC qual scope s.heap.objs.size f cd).kindOf (ps.zip us) λ_=>Á) s1):
  aX (iE CX P w K mg base N qual scope f cd A outer s H E) [] (start N vs) H s1:=by
 let hpl:ps.length<=N.length:=by have:=fT List.length DX.pre;rw[ú]at this;lia
 let⟨h1,tk,Z,hk⟩:=x.done;let noA:∀b:ai,b∉(iE CX P w K mg base N qual scope f cd A outer s H E).ex:=λb z=>absurd (show b∈([]:ac ai) from z) (by simp);show⟨⟨e0.mod,DX.kind,Z,Z,Å _,λy z c h1 h2=>?_,λy hy=>?_,λy c _ h=>?_,λ_=>hd,Around.frames_deeper e0.frames,.inr ⟨Z,Z⟩,λb z=>absurd z<|noA b,e0.bs,e0.bsz,λb _ _=>noA b,λb z=>absurd z<|noA b,e0.funs,e0.frf⟩,
  rfl,e0.bare,Un.kept hk,⟨_,x.toInCall.ns,λi y v h1 h2 h3=>?_⟩,λy c h=>⟨_,x.cell y c h⟩,e0.hok.fresh<|Å _,λy c h=>?_,λp hp=>absurd (show p∈([]:ac<|ai×Obj) from hp) (by simp),e0.hok.kept hk,?_⟩
 show name_of_addr x.apart (PySem.mem_of_lookup h1)<|PySem.mem_of_lookup h2;let hy:scope.names.lookup y=À .cell\/scope.names.lookup y=À .free:=hy;rcases hy with hy|hy
 show BY hy;show absurd rfl<|DX.nofree _<|PySem.mem_of_lookup hy;show ê<|x.above y c<|PySem.mem_of_lookup h;let hi:i<vs.length:=by
  unfold start at h2;by_cases hi:i<vs.length;show hi;rw[à (by simpa using hi)]at h2;rw[List.getElem?_replicate]at h2;split at h2 <;> cases h2
 let ha:vs[i]?=À v:=by
  unfold start at h2;rw[ä (by simpa using hi),Ï]at h2;cases e:vs[i]? with
  |none=>rw[e]at h2;cases h2
  |some a=>rw[e]at h2;cases h2;rfl
 let⟨u,hu,rv⟩:=r.get ha;let hp:ps[i]?=À y:=by
  rw[<-DX.pre,List.getElem?_take_of_lt (by lia)];show h1
 let ndP:ps.Nodup:=by rw[<-DX.pre];show DX.nd.sublist<|List.take_sublist _ _
 show⟨u,rv,?_⟩;rcases DX.par y (Ð hp) with k|k
 show .inl ⟨k,YGY ndP hp hu k⟩;let⟨c,e⟩:=BY (n:=s.heap.objs.size+1) k;show .inr ⟨.inl k,c,e,?_⟩;let q:=x.cell y c e;rw[YGZ ndP hp hu (by change scope.names.lookup y≠_;rw[k];decide)]at q;show q;show e0.hok.fresh<|ê<|x.above y c<|PySem.mem_of_lookup h;unfold start;change _=N.length;rw[È,Ä,ù];lia
def sx{CX:gz}{P:Program}{w:World}{K:W.Frag}{mg:am->ag ah}{base:Heap}{k:Nat}{f:ai}{name qual:am}{params:Arguments}{body:ac Stmt}{scope:Scope}{dV kV doc pm dB ct oc:ah}{an od:ag ai}
  {osl:Array (ag ah)}{N ps:ac am}{sp:Sp}(lk:K.lookup f=À ⟨oc,od,.func<|W.fnOf name qual params body scope dV kV doc pm an dB ct,osl⟩)(hcd:W.codeIn K dB qual=Â)(DX:YJ N ps scope)
  (len:∀vs H Q E,sp vs H Q E->vs.length=ps.length)
  (hbody:∀(A:Around) (outer:ac Env) (s:al) (H:Hp) (vs:ac V) (Q:VK) (E:XK),JR k (A.deeper<|envOfC qual scope s.heap.objs.size f dB)->sp vs H Q E->
   ∃t,gp (iE CX P w K mg base N qual scope f dB A outer s H E) body t/\t { nx:=λ_ H'=>Q .non H',rt:=Q } (start N vs) H):
  f_ P w K mg base CX (k+1) f (W.fnOf name qual params body scope dV kV doc pm an dB ct) ps sp:=by
 show⟨len,λA outer s H args us vs Q E hr e0 hb r hsp=>?_⟩;let hl:=len _ _ _ _ hsp;let KX:K.In s.heap:=e0.mod.kin.keeps λb o e=>(e0.bs b o e).1;let lim:s.heap.NoLimit:=e0.mod.nolimit.keeps λb o e=>(e0.bs b o e).1;let hkind:∀y∈ps.zip us,scope.names.lookup y.1=À .local\/(scope.names.lookup y.1=À .cell/\((cellsFrom (s.heap.objs.size+1) scope.names []).lookup y.1).isSome=Â):=λ⟨n,v⟩ hy=>by
  rcases DX.par n (List.of_mem_zip hy).1 with q|q
  show .inl q;show .inr ⟨q,W.cellsFrom_some _ _ _<|.inl q⟩
 show codeAny_call_function hr.depth (KX _ _ lk) Z DX.co DX.gen Z (W.codeRec_of KX hcd)<|hb _ _ _ _ ?_;show wpAny_newFunctionEnv_cells DX.kind hkind λenv he s1 x=>?_;subst he;show⟨lim.keeps x.toInCall.keep,codeAny_func ?_⟩;let⟨t,ht,hq⟩:=hbody A outer s H vs Q E (hr.deeper _) hsp;let I:aX (iE CX P w K mg base N qual scope f dB A outer s H E) [] (start N vs) H s1:=YMR DX hr.hd e0 hl r x;show wpAny_mono (ht [] s1 (start N vs) H _ I hq) (λfl s' hs=>?_) λe s' hs=>hs;let fin:∀{σ':St}{H':Hp}{v:V}{u:ah},aX (iE CX P w K mg base N qual scope f dB A outer s H E) [] σ' H' s'->Yw v u->Q v H'->CE outer P w H s Q u s':=
  λ{σ' H' v u} DW rv q=>⟨v,H',DW.os,DW.bare,DW.base,DW.hok,rv,q⟩
 cases fl with
 |ret u=>
  let⟨v,σ',H',DW,rv,q⟩:=hs;show fin DW rv q
 |next=>
  let⟨σ',H',DW,q⟩:=hs;show fin (v:=V.non) (u:=Value.none) DW Z q
 |brk=>
  let⟨_,_,_,q⟩:=hs;show False.elim q
 |cont=>
  let⟨_,_,_,q⟩:=hs;show False.elim q
section
variable {X:Cx}{x:am}{p pos:Pos}{e:Expr}{es:ac Expr}{t:TA}{id T:String}{r:ac V->Hp->VK->Prop}
@[ext]def ϱ(r:ac V->Hp->VK->Prop)(t:TA):TE:=λσ H Q=>t σ H λvs H1=>r vs H1 Q
def Yc(hc:XH X (.builtin id) r)(hg:Gl X x)(hm:X.mg x=Á)(hv:bootBuiltins x=À (.builtin id))(ha:PA X (e::es) t)(hn:x≠"__name__":=by decide)(hdb:(x==("__debug__":am))=Ã:=by decide)
  (he:starEach (e::es) X.env=(Ã,eval e X.env)::starEach es X.env:=by rfl)(hpl:(backTo pos<|starEach es X.env).any (·.1)=Ã:=by rfl):PE X (.Call (.Name x p) (e::es) [] pos)<|ϱ r t:=by
 intro O s σ H Q I h;show wpAny_Call_Name_kw<|nv I hg hm hv ?_ hn hdb;show PyProof.Rows.callWith_builtin1 (cy (ha pos O s σ H _ I h) λus s1 ⟨vs,H1,I1,r1,q1⟩=>hc O s1 σ H1 vs us Q I1 r1 q1) he hpl
def Jy(hc:XH X (.type T) r)(hg:Gl X x)(hm:X.mg x=Á)(hv:bootBuiltins x=À (.type T))(ha:PA X (e::es) t)(hn:x≠"__name__":=by decide)(hdb:(x==("__debug__":am))=Ã:=by decide)
  (he:starEach (e::es) X.env=(Ã,eval e X.env)::starEach es X.env:=by rfl)(hpl:(backTo pos<|starEach es X.env).any (·.1)=Ã:=by rfl):PE X (.Call (.Name x p) (e::es) [] pos)<|ϱ r t:=by
 intro O s σ H Q I h;show wpAny_Call_Name_kw<|nv I hg hm hv ?_ hn hdb;show PyProof.Rows.callWith_type1 (cy (ha pos O s σ H _ I h) λus s1 ⟨vs,H1,I1,r1,q1⟩=>hc O s1 σ H1 vs us Q I1 r1 q1) he hpl
end
end L2
namespace HT
open PySem PyProof.Rows
section
open PySem.SeqAt
open PySem.AutoSeq1 (wpAny_loadPart')
open PySem.MeetsSeq PySem.MeetsSeq2 PySem.MeetsSeq3
end
section
variable {prog:Program}{w:World}{A:Around}{E:ah->al->Prop}{s:al}
@[ext]def sIx(n d:Nat):ag Int->Nat
 |none=>d
 |some v=>if v<0 then (v+(n:Int)).toNat else min v.toNat n
def sIx_none(n d:Nat):sIx n d Á=d:=rfl
def sIx_nat(n d k:Nat):sIx n d (À (k:Int))=min k n:=by
 change(if (k:Int)<0 then ((k:Int)+(n:Int)).toNat else min (k:Int).toNat n)=min k n;rw[if_neg (by lia),ï]
end
end HT
namespace L2
open PySem PySem.Spec PyProof.Rows
noncomputable abbrev TO:=St->Hp->(ag Int->Hp->Prop)->Prop
@[ext]def PO(X:Cx)(e:ag Expr)(t:TO):Prop:=
 ∀(O:ac<|ai×Obj) (s:al) (σ:St) (H:Hp) (Q:ag Int->Hp->Prop),aX X O σ H s->t σ H Q->
  wpAny (model X.prog X.w) X.A (evalPart e X.env) (λu s'=>∃o H',aX X O σ H' s'/\IsPart u o/\Q o H') X.xe s
@[ext]def mx:TO:=λ_ H Q=>Q Á H
inductive YNM(Q:Option Int->Hp->Prop)(x:V)(H1:Hp):Prop
 |mk (i:_):x=.int i->Q (À i) H1->YNM Q x H1
@[ext]def Dt(t:TE):TO:=λσ H Q=>t σ H λx H1=>YNM Q x H1
def YJ7:∀{us:ac ah},Yo (ns.map V.int) us->IntsAre us ns:=by
 induction ns with
 |nil=>intro us r;rw[List.map_nil]at r;cases r;show .nil
 |cons n ns ih=>
  intro us r;rw[Ö]at r;cases r with
  |cons r1 r2=>
   let⟨t,e⟩:=r1;subst e;show .cons n t<|ih r2
section
variable {X:Cx}{e:Expr}{te:TE}{lo hi:ag Expr}{tl th:TO}{pos p2:Pos}
def Xx:PO X Á mx:=by
 intro O s σ H Q I h;rw[evalPart_none];show Ì ⟨Á,H,I,.none,h⟩
def J3(h:PE X e te):PO X (À e)<|Dt te:=by
 intro O s σ H Q I hw;rw[evalPart_some];show cy (h O s σ H _ I hw) λu s1 ⟨x,H1,I1,r1,q1⟩=>?_;let⟨i,Z,q⟩:=q1;let⟨t,Z⟩:=r1;show⟨À i,H1,I1,.int i t,q⟩
@[ext]def ō(X:Cx)(r:V->ag Int->ag Int->Hp->VK->Prop):Prop:=
 ∀(O:ac<|ai×Obj) (s:al) (σ:St) (H:Hp) (x:V) (v vl vu:ah) (lo hi:ag Int) (sl:ai) (Q:VK),aX X O σ H s->Yw x v->s.heap.IsSliceOf sl vl vu .none->IsPart vl lo->IsPart vu hi->r x lo hi H Q->
  ∃T id,typeLookup (.type T) "__getitem__"=pure (À<|.builtin id)/\s.TypeIs v T/\wpAny (model X.prog X.w) X.A (getItem v<|.ref sl) (EP X O σ Q) X.xe s
@[ext]def tSl(r:V->ag Int->ag Int->Hp->VK->Prop)(te:TE)(tl th:TO):TE:=λσ H Q=>te σ H λx H1=>tl σ H1 λl H2=>th σ H2 λu H3=>r x l u H3 Q
def Jh{r:V->ag Int->ag Int->Hp->VK->Prop}(hr:ō X r)(he:PE X e te)(hl:PO X lo tl)(hu:PO X hi th):PE X (.Subscript e (.Slice lo hi Á p2) pos)<|tSl r te tl th:=by
 intro O s σ H Q I h;show Subscript_<|cy (he O s σ H _ I h) λv s1 ⟨x,H1,I1,r1,q1⟩=>?_;show wpAny_Slice<|cy (hl O s1 σ H1 _ I1 q1) λvl s2 ⟨l,H2,I2,pl,q2⟩=>cy (hu O s2 σ H2 _ I2 q2) λvu s3 ⟨u,H3,I3,pu,q3⟩=>?_;rw[evalPart_none];show Ì ?_;let I4:aX X O σ H3 { s3 with heap:=s3.heap.push { cls:=.type "slice",data:=.fields #[vl,vu,.none] } }:=I3.kept (t':=s3.toks) λb ob q=>Ø _ q;let⟨T,id,hT,ht,hg⟩:=hr O { s3 with heap:=s3.heap.push { cls:=.type "slice",data:=.fields #[vl,vu,.none] } } σ H3 x v vl vu l u s3.heap.objs.size Q I4 r1 (Heap.IsSliceOf.new ..) pl pu q3;change wpAny (model X.prog X.w) X.A (subscriptTail e (.Slice lo hi Á p2) v<|.ref s3.heap.objs.size) (EP X O σ Q) X.xe { s3 with heap:=s3.heap.push { cls:=.type "slice",data:=.fields #[vl,vu,.none] } };show tail_any (ops:=[.ref s3.heap.objs.size,v]) ht hT hg (by with_unfolding_all rfl)
@[ext]def XS(xs:ac V)(lo hi:ag Int):ac V:=(xs.drop<|HT.sIx xs.length 0 lo).take<|HT.sIx xs.length xs.length hi-HT.sIx xs.length 0 lo
def Jz(xs:ac V)(lo hi:ag Int):(XS xs lo hi).length<=xs.length:=by
 unfold XS;rw[ú,ÿ];omega
end
@[ext]def kT(n:Nat)(i:Int):ag Nat:=if 0<=i then (if i<n then À i.toNat else Á) else if -(n:Int)<=i then À (i+n).toNat else Á
@[ext]def fS{α:Type}(xs:ac α)(i:Int):ag α:=(kT xs.length i).bind λj=>xs[j]?
def YK7(h:kT n i=À j):seqIndex? i n=À j/\j<n/\-(n:Int)<=i/\i<n:=by
 unfold kT at h;by_cases h0:0<=i;rw[if_pos h0]at h;by_cases h1:i<n;rw[if_pos h1]at h;let e:i.toNat=j:=Û h;show⟨by rw[seqIndex_of h0 h1,e],by lia,by lia,h1⟩;rw[if_neg h1]at h;cases h;rw[if_neg h0]at h;by_cases h1:-(n:Int)<=i;rw[if_pos h1]at h;let e:(i+n).toNat=j:=Û h;show⟨by rw[seqIndex_neg (by lia) h1,e],by lia,h1,by lia⟩;rw[if_neg h1]at h;cases h
def Λ{α:Type}{xs:ac α}{i:Int}{v:α}(h:fS xs i=À v):∃j,seqIndex? i xs.length=À j/\xs[j]?=À v/\j<xs.length/\-(xs.length:Int)<=i/\i<xs.length:=by
 unfold fS at h;cases e:kT xs.length i with
 |none=>rw[e]at h;cases h
 |some j=>
  rw[e]at h;let⟨h1,h2,h3,h4⟩:=YK7 e;show⟨j,h1,h,h2,h3,h4⟩
def ZB{α:Type}{xs:ac α}{j:Nat}{v:α}(h:xs[j]?=À v):fS xs (j:Int)=À v:=by
 let hj:j<xs.length:=(YOx.mp h).1;let e:kT xs.length (j:Int)=À j:=by
  unfold kT;rw[if_pos (by lia),if_pos (by lia)];simp
 unfold fS;rw[e];show h
def ŭ{α:Type}(xs:ac α)(v:α):fS (xs++[v]) (-1)=À v:=by
 let hl:(xs++[v]).length=xs.length+1:=by simp
 let e:kT (xs++[v]).length (-1)=À xs.length:=by
  unfold kT;rw[hl,if_neg (by decide),if_pos (by lia)];congr 1;lia
 unfold fS;rw[e];change(xs++[v])[xs.length]?=À v;simp
@[ext]def Ř(b:Expr):Prop:=∀o i,subscripted b Ã o i=operate [o,i] (getItem o i)
@[ext]def BE(X:Cx)(r:R2):Prop:=
 ∀(value slice:Expr) (O:ac<|ai×Obj) (s:al) (σ:St) (H:Hp) (x y:V) (v u:ah) (Q:VK),aX X O σ H s->Yw x v->Yw y u->r x y H Q->
  subscripted slice Ã v u=operate [v,u] (getItem v u)->wpAny (model X.prog X.w) X.A (subscriptTail value slice v u) (EP X O σ Q) X.xe s
@[ext]def tS(X:Cx)(id:String)(r:V->ac V->Hp->VK->Prop):Prop:=
 ∀(O:ac<|ai×Obj) (s:al) (σ:St) (H:Hp) (x:V) (xs:ac V) (v:ah) (us:ac ah) (Q:VK),aX X O σ H s->Yw x v->Yo xs us->r x xs H Q->
  wpAny (model X.prog X.w) X.A (call (.builtin id)<|v::us) (EP X O σ Q) X.xe s
section
variable {X:Cx}{a b:Expr}{ta tb:TE}{pos:Pos}
def oG(hr:BE X r)(ha:PE X a ta)(hb:PE X b tb)(hs:Ř b):PE X (.Subscript a b pos)<|ve r ta tb:=by
 intro O s σ H Q I h;show Subscript_<|xt ha hb I h λv u s2 x y H2 I2 rx ry q=>hr a b O s2 σ H2 x y v u Q I2 rx ry q<|hs _ _
inductive tf(K:W.Frag)(x y:V)(H:Hp)(Q:VK):Prop
 |mk (p:_)(xs:_)(i:_)(v:_):x=.ref p->y=.int i->bG K H p xs->fS xs i=À v->Q v H->tf K x y H Q
@[ext]def qS(K:W.Frag):R2:=λx y H Q=>tf K x y H Q
inductive r_(K:W.Frag)(x y:V)(H:Hp)(Q:VK):Prop
 |mk (p:_)(xs:_)(i:_)(v:_):x=.ref p->y=.int i->cN K H p xs->fS xs i=À v->Q v H->r_ K x y H Q
@[ext]def o8(K:W.Frag):R2:=λx y H Q=>r_ K x y H Q
inductive rX(x y:V)(H:Hp)(Q:VK):Prop
 |mk (z:_)(i:_)(c:_):x=.str z->y=.int i->z.length<=sizeLine->fS z.cps.toList i=À c->Q (.str ⟨#[c]⟩) H->rX x y H Q
@[ext]def ϖ:R2:=λx y H Q=>rX x y H Q
def og:BE X<|qS X.K:=by
 intro value slice O s σ H x y v u Q I rx ry h hs;let⟨p,xs,i,z,Z,Z,hq,he,q⟩:=h;cases rx;let⟨t,Z⟩:=ry;let⟨its,r,pl,hz⟩:=I.list hq;let⟨j,h1,h2,h3,h4,h5⟩:=Λ he;let⟨w,ew,lq⟩:=r.get h2;let hl:=r.length;let hn:=tj;let fin:EP X O σ Q w s:=⟨z,H,I,lq,q⟩;by_cases h0:0<=i;let hj:i.toNat=j:=by
  rw[seqIndex_of h0 h5]at h1;show Û h1
 show item_listR pl.isList h0 (by lia) (by rw[hj];simpa using ew) fin hs;let hj:(i+(its.toArray.size:Int)).toNat=j:=by
  rw[seqIndex_neg (by lia) h4]at h1;rw[Ô,<-hl];show Û h1
 show subscriptTail_builtinR (x:=w) pl.isList.typeIs slot_list_getitem.lookup
  (wpAny_getItem_list_neg (Q:=λr s'=>r=w/\EP X O σ Q r s') pl.isList (by lia) (by rw[Ô] <;> lia) (by lia) (by rw[hj];simpa using ew) ⟨Z,fin⟩) hs
def xk:BE X<|o8 X.K:=by
 intro value slice O s σ H x y v u Q I rx ry h hs;let⟨p,xs,i,z,Z,Z,hq,he,q⟩:=h;cases rx;let⟨t,Z⟩:=ry;let⟨its,r,pl,hz⟩:=I.tuple hq;let⟨j,h1,h2,h3,h4,h5⟩:=Λ he;let⟨w,ew,lq⟩:=r.get h2;let hl:=r.length;let hn:=tj;let fin:EP X O σ Q w s:=⟨z,H,I,lq,q⟩;show subscriptTail_builtinR (x:=w) pl.typeIs slot_tuple_getitem.lookup
  (getItem_tuple (j:=j) (Q:=λr s'=>r=w/\EP X O σ Q r s') pl (by lia) (by lia) (by rw[Ô,<-hl];show h1) (by simpa using ew) ⟨Z,fin⟩) hs
def A9:BE X ϖ:=by
 intro value slice O s σ H x y v u Q I rx ry h hs;let⟨z,i,c,Z,Z,hz,he,q⟩:=h;let⟨t,Z⟩:=rx;let⟨t',Z⟩:=ry;let⟨j,h1,h2,h3,h4,h5⟩:=Λ he;let hl:z.cps.toList.length=z.length:=by simp[Str.length]
 rw[hl]at h1 h4 h5;let hn:=tj;show tail_any (typeIs_str s z t) slot_str_getitem.lookup (getItem_str (c:=c) (by
  let e1:decide (i < -(2^63:Int))=Ã:=eI (by lia);let e2:decide (i>=2^63)=Ã:=eI (by lia);rw[e1,e2,Bool.or_false]) (by rw[h1];simpa using h2) ⟨.str ⟨#[c]⟩,H,I.tok _,⟨_,Z⟩,q⟩) hs
def YJ8(its:ac ah)(n j:Nat)(u:ah):Obj.mapSeq (·.setIfInBounds j u) { cls:=.type "list",data:=.seq its.toArray n }={ cls:=.type "list",data:=.seq (its.set j u).toArray n }:=by
 simp[Obj.mapSeq]
def aX.lst(I:aX X O σ H s)(h:H p=À (.lst xs)):
  ∃(its:ac ah) (n:Nat),Yo xs its/\s.heap.get? p=À { cls:=.type "list",data:=.seq its.toArray n }/\xs.length<=sizeLine:=by
 let⟨z,its,n,r,e⟩:=I.hok p _ h;show⟨its,n,r,e,z⟩
def aX.lstUpd{O:ac (ai×Obj)}{σ:St}{H:Hp}{s:al}{p:ai}{xs ys:ac V}{its its':ac ah}{n n':Nat}{f:Obj->Obj}(I:aX X O σ H s)(h:H p=À (.lst xs))
  (ho:s.heap.get? p=À { cls:=.type "list",data:=.seq its.toArray n })(hf:f { cls:=.type "list",data:=.seq its.toArray n }={ cls:=.type "list",data:=.seq its'.toArray n' })(r:Yo ys its')(hz:ys.length<=sizeLine)(t:Nat):
  aX X O σ (upd H p<|.lst ys) { s with heap:=s.heap.update p f,toks:=t }:=by
 let e:(s.heap.update p f).get? p=À { cls:=.type "list",data:=.seq its'.toArray n' }:=by
  rw[ą f ho (by rw[hf] <;> rfl),hf]
 show I.write (x:=p) (e:=p) (by rw[h];trivial) (.inl Z) (λb u hb q=>(Ğ _ _<|Ne.symm hb).trans q) ⟨_,e⟩ ?_;show⟨hz,its',n',r,e⟩
@[ext]def C1:V->V->V->Hp->(Hp->Prop)->Prop:=λo i v H Q=>∃p xs k j,o=.ref p/\i=.int k/\H p=À (.lst xs)/\kT xs.length k=À j/\Q (upd H p<|.lst<|xs.set j v)
def YNN:B8 X C1:=by
 intro O s σ H o i v ov iv u Q I ro ri rv h;let⟨p,xs,k,j,Z,Z,hp,hj,q⟩:=h;cases ro;let⟨t,Z⟩:=ri;let⟨its,n,r,ho,hz⟩:=I.lst hp;let⟨h1,h2,h3,h4⟩:=YK7 hj;let hl:=r.length;let hn:=tj;let I':aX X O σ (upd H p<|.lst<|xs.set j v) { s with heap:=s.heap.update p (Obj.mapSeq (·.setIfInBounds j u)) }:=
  I.lstUpd hp ho (YJ8 its n j u) (r.set rv j) (by rw[ċ];show hz) s.toks
 by_cases h0:0<=k;let hk:k.toNat=j:=by
  rw[seqIndex_of h0 h4]at h1;show Û h1
 show W.ki_setAt ho h0 (by lia) (by rw[Ô,<-hl];show h4) (by rw[hk];show⟨_,I',q⟩);let hk:(k+(its.toArray.size:Int)).toNat=j:=by
  rw[seqIndex_neg (by lia) h3]at h1;rw[Ô,<-hl];show Û h1
 show W.ki_setBack ho (by lia) (by rw[Ô,<-hl];show h3) (by lia) (by rw[hk];show⟨_,I',q⟩)
def YHa(lo hi:ag Int)(n:Nat):(sliceBounds lo hi Á n).1=((HT.sIx n 0 lo:Nat):Int)/\(sliceBounds lo hi Á n).2.1=((HT.sIx n n hi:Nat):Int)/\(sliceBounds lo hi Á n).2.2=1:=by
 show⟨?_,?_,Z⟩;cases lo with
 |none=>simp[sliceBounds,HT.sIx]
 |some i=>
  simp only[sliceBounds,HT.sIx,Option.getD_none,show(1:Int)>0 by decide,if_true];by_cases h:i<0;simp only[h,if_true] <;> lia
  simp only[h,if_false] <;> lia
 cases hi with
 |none=>simp[sliceBounds,HT.sIx]
 |some i=>
  simp only[sliceBounds,HT.sIx,Option.getD_none,show(1:Int)>0 by decide,if_true];by_cases h:i<0;simp only[h,if_true] <;> lia
  simp only[h,if_false] <;> lia
def YGA(its:ac ah)(lo hi:ag Int):slicePick its.toArray lo hi Á=((its.drop<|HT.sIx its.length 0 lo).take<|HT.sIx its.length its.length hi-HT.sIx its.length 0 lo).toArray:=by
 let⟨h1,h2,h3⟩:=YHa lo hi its.toArray.size;unfold slicePick;rw[h1,h2,h3];simp only[sliceRange_one,pick_run,Ô] <;> rfl
inductive sD(K:W.Frag)(x:V)(lo hi:Option Int)(H:Hp)(Q:VK):Prop
 |mk (a:_)(xs:_):x=.ref a->bG K H a xs->(∀p,H p=Á->Q (.ref p) (upd H p (.lst (XS xs lo hi))))->sD K x lo hi H Q
@[ext]def Da(K:W.Frag):V->ag Int->ag Int->Hp->VK->Prop:=λx lo hi H Q=>sD K x lo hi H Q
def oS:ō X<|Da X.K:=by
 intro O s σ H x v vl vu lo hi sl Q I rx hs pl pu h;let⟨a,xs,Z,S,q⟩:=h;cases rx;let⟨its,r,ht,hz⟩:=I.list S;let hlen:=r.length;show⟨"list",_,slot_list_getitem.lookup,ht.isList.typeIs,?_⟩;show wpAny_getItem_list_slice ht.isList hs pl pu .none (by simp) ?_ (by rw[Ô] <;> lia);rw[YGA,<-hlen];show⟨.ref s.heap.objs.size,_,I.laid (t':=s.toks) (o:=.lst<|XS xs lo hi) (λb ob q=>Ø _ q) (Å _) ?_,Z,q _<|I.hok.fresh<|Å _⟩;show⟨Ú (Jz xs lo hi) hz,_,0,(r.drop<|HT.sIx xs.length 0 lo).take<|HT.sIx xs.length xs.length hi-HT.sIx xs.length 0 lo,Þ _ rfl⟩
def YHb:XH X (.builtin "len") (λxs H Q=>∃p ys,xs=[.ref p]/\(bG X.K H p ys\/cN X.K H p ys)/\Q (.int ys.length) H):=by
 intro O s σ H xs us Q I r h;let⟨p,ys,Z,hq,q⟩:=h;let⟨u,Z,rx⟩:=kf r;cases rx;let hn:=tj;rcases hq with hq|hq
 let⟨its,r',pl,hz⟩:=I.list hq;let hlen:=r'.length;show Calls.call_len_list pl.isList (by simp only[Ô] <;> lia) ⟨.int ys.length,H,I.tok _,⟨s.toks+1,by rw[Ô,hlen]⟩,q⟩;let⟨its,r',pl,hz⟩:=I.tuple hq;let hlen:=r'.length;show len_tuple pl (by simp only[Ô] <;> lia) ⟨.int ys.length,H,I.tok _,⟨s.toks+1,by rw[Ô,hlen]⟩,q⟩
def JS:XH X (.builtin "len") (λxs H Q=>∃z,xs=[.str z]/\z.length<=sizeLine/\Q (.int z.length) H):=by
 intro O s σ H xs us Q I r h;let⟨z,Z,hz,q⟩:=h;let⟨u,Z,t,Z⟩:=kf r;let hn:=tj;show len_str (by lia) ⟨.int z.length,H,I.tok _,⟨_,Z⟩,q⟩
def YHc:XH X (.type "list") (λxs H Q=>∃p ys,xs=[.ref p]/\(bG X.K H p ys\/cN X.K H p ys)/\∀l,H l=Á->Q (.ref l) (upd H l<|.lst ys)):=by
 intro O s σ H xs us Q I r h;let⟨p,ys,Z,hq,q⟩:=h;let⟨u,Z,rx⟩:=kf r;cases rx;let fin:∀(its:ac ah),Yo ys its->ys.length<=sizeLine->∀(h':Heap) (c':Nat),(∀b o',s.heap.get? b=À o'->h'.get? b=À o')->
   h'.get? s.heap.objs.size=À { cls:=.type "list",dict:=Á,data:=.seq its.toArray c',slots:=#[] }->EP X O σ Q (.ref s.heap.objs.size) { s with heap:=h' }:=λits r' hz h' c' kp e=>
  ⟨.ref s.heap.objs.size,_,I.laid (t':=s.toks) kp (Å _) (show ZA X.prog X.w _ h' _ (.lst ys) from⟨hz,its,c',r',e⟩),Z,q _<|I.hok.fresh<|Å _⟩
 rcases hq with hq|hq
 let⟨its,r',pl,hz⟩:=I.list hq;let hlen:=r'.length;let⟨o,ho,hc,n,hd⟩:=pl.isList;show call_list_seq p (.inl Z) ho hc hd (λh' c' kp e=>fin its r' hz h' c' kp e) (by simp only[Ô] <;> lia);let⟨its,r',pl,hz⟩:=I.tuple hq;let hlen:=r'.length;let⟨o,ho,hc,n,hd⟩:=pl;show call_list_seq p (.inr Z) ho hc hd (λh' c' kp e=>fin its r' hz h' c' kp e) (by simp only[Ô] <;> lia)
@[ext]def Ϻ(K:W.Frag)(T:String)(x:V)(H:Hp):Prop:=match x with
 |.str _=>T="str"
 |.int _=>T="int"
 |.ref p=>(T="list"/\∃xs,bG K H p xs)\/(T="tuple"/\∃o,K.lookup p=À o/\o.cls=.type "tuple"/\o.dict=Á)\/
   (T="dict"/\((∃kvs,H p=À (.dK kvs))\/∃kvs,H p=À (.dT kvs)))\/(T="set"/\∃DX n,H p=À (.set DX n))
 |_=>False
def YNO(I:aX X O σ H s)(r:Yw x v)(ty:Ϻ X.K T x H):
  s.TypeIs v T/\∀a,v=.ref a->∃ob,s.heap.get? a=À ob/\ob.dict=Á:=by
 cases x with
 |str z=>
  let⟨t,Z⟩:=r;cases (show T="str" from ty);show⟨typeIs_str s z t,λ_ e=>nomatch e⟩
 |int i=>
  let⟨t,Z⟩:=r;cases (show T="int" from ty);show⟨typeIs_int s i t,λ_ e=>nomatch e⟩
 |ref p=>
  cases r;rcases ty with ⟨rfl,xs,hq⟩|⟨rfl,o,hk,hc,hd⟩|⟨rfl,hk⟩|⟨rfl,DX,n,hk⟩
  let⟨its,_,pl,_⟩:=I.list hq;show⟨pl.isList.typeIs,λa e=>?_⟩;cases e;let⟨o,n,e,c,hd,_⟩:=pl;show⟨o,e,hd⟩;show⟨⟨o,I.kIn p o hk,hc⟩,λa e=>?_⟩;cases e;show⟨o,I.kIn _ o hk,hd⟩;let z:∃o,s.heap.get? p=À o/\o.ExactDict:=by
   rcases hk with ⟨kvs,hk⟩|⟨kvs,hk⟩
   let⟨_,_,_,_,o,_,_,e,ex,_⟩:=I.hok p _ hk;show⟨o,e,ex⟩;let⟨_,_,_,_,o,_,_,e,ex,_⟩:=I.hok p _ hk;show⟨o,e,ex⟩
  let⟨o,e,ex⟩:=z;show⟨⟨o,e,ex.1⟩,λa e2=>?_⟩;cases e2;show⟨o,e,ex.2.1⟩;let⟨o,_,_,_,e,ex,_⟩:=I.hok p _ hk;show⟨⟨o,e,ex.1⟩,λa e2=>?_⟩;cases e2;show⟨o,e,ex.2.1⟩
 |_=>show False.elim ty
inductive tT(K:W.Frag)(T:String)(r:V->List V->Hp->VK->Prop)(Q:VK)(x:V)(H1:Hp):Prop
 |mk:Ϻ K T x H1->r x [] H1 Q->tT K T r Q x H1
@[ext]def DA(K:W.Frag)(T:String)(r:V->ac V->Hp->VK->Prop)(to:TE):TE:=λσ H Q=>to σ H λx H1=>tT K T r Q x H1
inductive C6(K:W.Frag)(T:String)(r:V->List V->Hp->VK->Prop)(t:TA)(σ:St)(Q:VK)(x:V)(H1:Hp):Prop
 |mk:Ϻ K T x H1->(t σ H1 λxs H2=>r x xs H2 Q)->C6 K T r t σ Q x H1
@[ext]def ĸ(K:W.Frag)(T:String)(r:V->ac V->Hp->VK->Prop)(to:TE)(t:TA):TE:=λσ H Q=>to σ H λx H1=>C6 K T r t σ Q x H1
variable {o e:Expr}{es:ac Expr}{to:TE}{t:TA}{name:am}{bL bh:Pos}{T id:String}{r:V->ac V->Hp->VK->Prop}
def xG(pa:PlainAttrs T)(slot:Slot T name id)(nF:typeOf (.builtin id)=pure (.type "method_descriptor"))(hm:tS X id r)(ho:PE X o to)
  (iG:attributeBase o name X.env (eval o X.env)=eval o X.env:=by rfl)(iH:(bL.endLine==bh.line)=Â:=by rfl):PE X (.Call (.Attribute o name bL) [] [] bh)<|DA X.K T r to:=by
 intro O s σ H Q I h;show wpAny_Call_method0_late iG iH<|cy (ho O s σ H _ I h) λv s1 ⟨x,H1,I1,r1,ty,q1⟩=>?_;let⟨h1,h2⟩:=YNO I1 r1 ty;show⟨T,id,pa,slot,nF,h1,h2,Calls.callWith_builtin rfl<|PySem.evalArgs_none<|hm O s1 σ H1 x [] v [] Q I1 r1 .nil q1⟩
def Dw(pa:PlainAttrs T)(slot:Slot T name id)(nF:typeOf (.builtin id)=pure (.type "method_descriptor"))(hm:tS X id r)(ho:PE X o to)(ha:PA X (e::es) t)
  (iG:attributeBase o name X.env (eval o X.env)=eval o X.env:=by rfl)
  (nH:((backTo bh<|starEach (e::es) X.env).all (λx=>!x.1)&&(backToKw bh<|keywordEach [] X.env).all (λx=>x.1.isSome)
   && decide ((e::es).length+([]:ac Keyword).length+(if ([]:ac Keyword).isEmpty then 0 else 1)<30))=Â:=by rfl)
  (iH:(bL.endLine==bh.line)=Â:=by rfl) (hs:starEach (e::es) X.env=(Ã,eval e X.env)::starEach es X.env:=by rfl) (jn:(backTo bh<|starEach es X.env).any (·.1)=Ã:=by rfl):
  PE X (.Call (.Attribute o name bL) (e::es) [] bh) (ĸ X.K T r to t):=by
 intro O s σ H Q I h;show wpAny_Call_method_late iG nH iH rfl<|cy (ho O s σ H _ I h) λv s1 ⟨x,H1,I1,r1,ty,q1⟩=>?_;let⟨h1,h2⟩:=YNO I1 r1 ty;show⟨T,id,pa,slot,nF,h1,h2,?_⟩;let hA:=ha bh O s1 σ H1 _ I1 q1;rw[hs]at hA ⊢;show Calls.callWith_builtin (by change(Ã || (backTo bh (starEach es X.env)).any (·.1))=Ã;rw[jn] <;> rfl)<|Calls.evalArgs_plain ?_;show cy hA λus s2 ⟨vs,H2,I2,r2,q2⟩=>hm O s2 σ H2 x vs v us Q I2 r1 r2 q2
end
@[ext]def B1(X:Cx)(id:String)(r:V->ac V->Hp->VK->Prop):Prop:=
 ∀(O:ac<|ai×Obj) (s:al) (σ:St) (H:Hp) (x:V) (xs:ac V) (v:ah) (us:ac ah) (Q:VK),aX X O σ H s->Yw x v->Yo xs us->r x xs H Q->
  wpAny (model X.prog X.w) X.A (call (.builtin id)<|v::us) (EP X O σ Q) X.xe s
def Yo.one:∀{x:V}{us:ac ah},Yo [x] us->∃u,us=[u]/\Yw x u
 |_,_,.cons r .nil=>⟨_,Z,r⟩
def Yo.zero:∀{us:ac ah},Yo [] us->us=[]
 |_,.nil=>rfl
def Yo.dropLast(h:Yo xs us):Yo xs.dropLast us.dropLast:=by
 induction h with
 |nil=>show .nil
 |cons r t ih=>
  cases t with
  |nil=>show .nil
  |cons q t'=>show .cons r ih
def Yo.reverse(h:Yo xs us):Yo xs.reverse us.reverse:=by
 induction h with
 |nil=>show .nil
 |cons r t ih=>rw[ã,ã];show Yo.append ih<|.cons r .nil
def Yo.rep(h:Yo xs us):∀k:Nat,Yo (List.replicate k xs).flatten (List.replicate k us).flatten
 |0=>.nil
 |k+1=>by
  rw[þ,þ,õ,õ];show Yo.append h<|Yo.rep h k
def YJ9{α:Type}(l:ac α):l.eraseIdx (l.length-1)=l.dropLast:=by
 induction l with
 |nil=>rfl
 |cons a r ih=>
  cases r with
  |nil=>rfl
  |cons b r=>
   let e:(a::b::r).length-1=((b::r).length-1)+1:=rfl;rw[e,List.eraseIdx_cons_succ,ih]
   all_goals rfl
def YDa(its:ac ah):∀(k:Nat) (acc:ac ah),
  List.foldl (λx1 x2=>x1++x2) acc.toArray (List.replicate k its.toArray)=(acc++(List.replicate k its).flatten).toArray
 |0,acc=>by simp
 |k+1,acc=>by
  let e:acc.toArray++its.toArray=(acc++its).toArray:=by simp
  let e2:(acc++its)++(List.replicate k its).flatten=acc++(List.replicate (k+1) its).flatten:=by
   rw[þ,õ,Ý]
  rw[<-e2,<-YDa its k (acc++its),<-e,þ,List.foldl_cons]
section
variable {X:Cx}{O:ac (ai×Obj)}{σ:St}{H:Hp}{s:al}{l b:ai}{xs ys zs:ac V}
def aX.lset{its its':ac ah}{n:Nat}{f:Array ah->Array ah}{t':Nat}(I:aX X O σ H s)(hH:H l=À (.lst xs))
  (e:s.heap.get? l=À { cls:=.type "list",data:=.seq its.toArray n })(hf:f its.toArray=its'.toArray)(hv:Yo ys its')(hz:ys.length<=sizeLine):
  aX X O σ (upd H l<|.lst ys) { s with heap:=s.heap.update l (Obj.mapSeq f),toks:=t' }:=by
 let q:=PySem.IsL.update e f;rw[hf]at q;show I.write (x:=l) (e:=l) (by rw[hH];show trivial) (.inl Z) (λb' u hb hu=>(Ğ s.heap (Obj.mapSeq f)<|Ne.symm hb).trans hu) ⟨_,q⟩ ?_;show⟨hz,its',_,hv,q⟩
def aX.lnew(I:aX X O σ H s)(hv:Yo ys its)(hz:ys.length<=sizeLine):
  aX X O σ (upd H s.heap.objs.size<|.lst ys) { s with heap:=s.heap.push { cls:=.type "list",data:=.seq its.toArray },toks:=t' }:=
 I.laid (λ_ _ q=>Ø _ q) (Å _) ⟨hz,its,0,hv,Þ _ Z⟩
def aX.fresh(I:aX X O σ H s):H s.heap.objs.size=Á:=I.hok.fresh<|Å _
def aX.lstM(I:aX X O σ H s)(hH:H l=À (.lst xs)):xs.length<=sizeLine/\∃(its:ac ah) (n:Nat),Yo xs its/\xs.length=its.length/\s.heap.get? l=À { cls:=.type "list",data:=.seq its.toArray n }:=by
 let⟨z,its,n,r,e⟩:=I.hok l _ hH;show⟨z,its,n,r,r.length,e⟩
def Χ(h:n<=sizeLine):Builtin.List.listTooLong n=Ã:=by
 unfold Builtin.List.listTooLong;show eI (by lia)
end
section
variable {X:Cx}
inductive YIO(x:V)(vs:List V)(H:Hp)(Q:VK):Prop
 |mk (l:_)(xs:_)(y:_):x=.ref l->vs=[y]->H l=À (.lst xs)->xs.length<sizeLine->Q .non (upd H l (.lst (xs++[y])))->YIO x vs H Q
@[ext]def ϡ:V->ac V->Hp->VK->Prop:=λx vs H Q=>YIO x vs H Q
def Ϝ:B1 X "list.append" ϡ:=by
 intro O s σ H x vs v us Q I rx rv h;let⟨l,xs,y,Z,Z,hH,hz,q⟩:=h;cases rx;let⟨u,Z,ru⟩:=rv.one;let⟨z,its,n,r,hl,e⟩:=I.lstM hH;show call_meets F.slot_list_append ⟨_,e,Z⟩ F.entry_list_append (F.args_list_append_2 _ _) (PySem.list_append l its.toArray n u (by rw[Ô];lia)) ⟨e,?_⟩;show⟨.non,_,I.lset (its':=its++[u]) hH e (by simp) (r.append<|.cons ru .nil) ?_,Z,q⟩;rw[È,List.length_singleton];lia
inductive YIP(x:V)(vs:List V)(H:Hp)(Q:VK):Prop
 |mk (l:_)(b:_)(xs:_)(zs:_):x=.ref l->vs=[.ref b]->H l=À (.lst xs)->H b=À (.lst zs)->xs.length+zs.length<=sizeLine->Q .non (upd H l (.lst (xs++zs)))->YIP x vs H Q
@[ext]def mw:V->ac V->Hp->VK->Prop:=λx vs H Q=>YIP x vs H Q
def YGa:B1 X "list.extend" mw:=by
 intro O s σ H x vs v us Q I rx rv h;let⟨l,b,xs,zs,Z,Z,hH,hB,hz,q⟩:=h;cases rx;let⟨u,Z,ru⟩:=rv.one;cases ru;let⟨z,its,n,r,hl,e⟩:=I.lstM hH;let⟨z2,cD,n2,r2,hl2,e2⟩:=I.lstM hB;let hsz:its.toArray.size+cD.toArray.size<=sizeLine:=by rw[Ô,Ô];lia
 let jT:¬(!its.toArray.isEmpty&&Builtin.List.listTooLong (its.toArray.size+cD.toArray.size))=Â:=by
  rw[Χ hsz,Bool.and_false];show Ù
 show call_meets F.slot_list_extend ⟨_,e,Z⟩ F.entry_list_extend (F.args_list_extend_2 _ _)
  (AutoSeq1.list_extend_list_list_0 l its.toArray n b cD.toArray n2 jT (by rw[Ô];lia) (by lia)) ⟨e,e2,?_⟩
 show⟨.non,_,I.lset (its':=its++cD) hH e (by simp) (r.append r2) ?_,Z,q⟩;rw[È];lia
inductive sd(x:V)(vs:List V)(H:Hp)(Q:VK):Prop
 |mk (l:_)(xs:_)(y:_):x=.ref l->vs=[]->H l=À (.lst xs)->xs[xs.length-1]?=À y->Q y (upd H l (.lst xs.dropLast))->sd x vs H Q
@[ext]def rPop:V->ac V->Hp->VK->Prop:=λx vs H Q=>sd x vs H Q
def xF:B1 X "list.pop" rPop:=by
 intro O s σ H x vs v us Q I rx rv h;let⟨l,xs,y,Z,Z,hH,hy,q⟩:=h;cases rx;let hus:=rv.zero;subst hus;let⟨z,its,n,r,hl,e⟩:=I.lstM hH;let⟨u,hu,ru⟩:=r.get hy;let hy':its.toArray[its.toArray.size-1]?=À u:=by
  change its.toArray[its.length-1]?=À u;rw[<-ă,<-hl];show hu
 show call_meets F.slot_list_pop ⟨_,e,Z⟩ F.entry_list_pop (F.args_list_pop_1 _) (MeetsSeq.list_pop_last l its.toArray n u hy' (by rw[Ô];omega)) ⟨e,?_⟩;show⟨y,_,I.lset (its':=its.dropLast) hH e ?_ r.dropLast ?_,ru,q⟩;change its.toArray.eraseIdxIfInBounds (its.toArray.size-1)=its.dropLast.toArray;rw[Ô,List.eraseIdxIfInBounds_toArray,YJ9];rw[List.length_dropLast];omega
inductive YGb(x:V)(vs:List V)(H:Hp)(Q:VK):Prop
 |mk (l:_)(xs:_):x=.ref l->vs=[]->H l=À (.lst xs)->Q .non (upd H l (.lst xs.reverse))->YGb x vs H Q
@[ext]def YNP:V->ac V->Hp->VK->Prop:=λx vs H Q=>YGb x vs H Q
def YKA:B1 X "list.reverse" YNP:=by
 intro O s σ H x vs v us Q I rx rv h;let⟨l,xs,Z,Z,hH,q⟩:=h;cases rx;let hus:=rv.zero;subst hus;let⟨z,its,n,r,hl,e⟩:=I.lstM hH;show call_meets F.slot_list_reverse ⟨_,e,Z⟩ F.entry_list_reverse (F.args_list_reverse_1 _) (AutoSeq1.list_reverse_list_0 l its.toArray n (by rw[Ô];omega)) ⟨e,?_⟩;show⟨.non,_,I.lset (its':=its.reverse) hH e (by simp) r.reverse ?_,Z,q⟩;rw[ç];omega
inductive uS(x y:V)(H:Hp)(Q:VK):Prop
 |mk (l:_)(b:_)(xs:_)(zs:_):x=.ref l->y=.ref b->H l=À (.lst xs)->H b=À (.lst zs)->xs.length+zs.length<=sizeLine->(∀p,H p=Á->Q (.ref p) (upd H p (.lst (xs++zs))))->uS x y H Q
@[ext]def Ş:R2:=λx y H Q=>uS x y H Q
def YNQ:fI X (binaryOp .Add) Ş:=by
 intro O s σ H x y v u Q I rx ry h;let⟨l,b,xs,zs,Z,Z,hH,hB,hz,q⟩:=h;cases rx;cases ry;let⟨z,its,n,r,hl,e⟩:=I.lstM hH;let⟨z2,cD,n2,r2,hl2,e2⟩:=I.lstM hB;show PySem.P.add_list e e2 ?_ (by rw[Ô,Ô];omega);let ea:its.toArray++cD.toArray=(its++cD).toArray:=by simp
 rw[ea];show⟨.ref _,_,I.lnew (t':=s.toks) (r.append r2) (by rw[È];omega),Z,q _ I.fresh⟩
@[ext]def Ϲ:R2:=λx y H Q=>∃l k xs,x=.ref l/\y=.int k/\H l=À (.lst xs)/\-(2^63)<=k/\k<2^63/\xs.length*k.toNat<=sizeLine/\
 ∀p,H p=Á->Q (.ref p) (upd H p<|.lst (List.replicate k.toNat xs).flatten)
def Δ{α:Type}(xs:ac α)(k:Nat):(List.replicate k xs).flatten.length=k*xs.length:=by
 induction k with
 |zero=>simp
 |succ k ih=>rw[þ,õ,È,ih,Nat.succ_mul,Nat.add_comm]
def YNR:fI X (binaryOp .Mult) Ϲ:=by
 intro O s σ H x y v u Q I rx ry h;let⟨l,k,xs,Z,Z,hH,h1,h2,hz,q⟩:=h;cases rx;let⟨t,Z⟩:=ry;let⟨z,its,n,r,hl,e⟩:=I.lstM hH;let hlen:its.toArray.size*k.toNat<=sizeLine:=by rw[Ô,<-hl];show hz
 let yo:¬its.toArray.size*k.toNat>(2^63-1) / 8:=by
  have:(sizeLine:Nat)<=(2^63-1) / 8:=by decide
  omega
 let hfit:¬(!Builtin.List.listFitsIndex k)=Â:=by
  rw[fitsIndex_both h1 h2];show Ù
 let jT:¬Builtin.List.listTooLong (its.toArray.size*k.toNat)=Â:=by
  rw[Χ hlen];show Ù
 let hnew:List.foldl (λx1 x2=>x1++x2) #[] (List.replicate (if its.toArray.isEmpty=Â then 0 else k.toNat) its.toArray)=(List.replicate k.toNat its).flatten.toArray:=by
  let f0:∀m:Nat,List.foldl (λx1 x2=>x1++x2) #[] (List.replicate m its.toArray)=(List.replicate m its).flatten.toArray:=λm=>by
   have:=YDa its m [];rw[List.nil_append]at this;show this
  rw[f0];cases its with
  |nil=>simp
  |cons a r'=>rw[if_neg (by simp)]
 show wpAny_binaryOp_repeat_ref (T:="list") (U:="int") (by decide) ⟨_,e,Z⟩ (λs'=>typeIs_int s' k t) noFill_list_mul F.fills_int_mul F.slot_int_rmul repeat_list F.slot_int_index.lookup
  (call_meets F.slot_int_rmul (typeIs_int s k t) F.entry_int_rmul (F.args_int_rmul_2 _ _) (int___rmul___int_list k t l its.toArray n)
   ⟨e,Z,⟨_,e,Z⟩,call_meets F.slot_list_mul ⟨_,e,Z⟩ F.entry_list_mul (F.args_list_mul_2 _ _) (AutoListH.list___mul___list_int_3 l its.toArray n k t hfit yo jT) ⟨e,?_⟩⟩)
 rw[hnew];show⟨.ref _,_,I.lnew (t':=s.toks) (r.rep k.toNat) (by rw[Δ,Ă];show hz),Z,q _ I.fresh⟩
end
section
variable {prog:Program}{w:World}{A:Around}{E:ah->al->Prop}{s:al}
set_option maxRecDepth 100000 in
end
section
variable {X:Cx}
end
section
variable {κ:Type}[DecidableEq κ]
@[ext]def Yj(kvs:ac<|κ×V)(k:κ):ag V:=(kvs.find? λkv=>decide (kv.1=k)).map (·.2)
@[ext]def Y3(kvs:ac<|κ×V)(k:κ)(v:V):ac<|κ×V:=
 if (kvs.any λkv=>decide (kv.1=k))=Â then kvs.map (λkv=>if kv.1=k then (kv.1,v) else kv) else kvs++[(k,v)]
def Zh{p:κ×V}{r:ac (κ×V)}{k:κ}(e:p.1=k):Yj (p::r) k=À p.2:=by simp[Yj,List.find?_cons,e]
def ZZ{p:κ×V}{r:ac (κ×V)}{k:κ}(e:¬p.1=k):Yj (p::r) k=Yj r k:=by simp[Yj,List.find?_cons,e]
def BA(k:κ):∀kvs:ac<|κ×V,(kvs.any λkv=>decide (kv.1=k))=(Yj kvs k).isSome
 |[]=>rfl
 |p::r=>by
  rw[List.any_cons];by_cases e:p.1=k;simp only[Zh e,dA e,Bool.true_or,Option.isSome_some];rw[ZZ e,eI e,Bool.false_or];show BA k r
def YIQ(k j:κ)(y:V):∀kvs:ac<|κ×V,Yj (kvs.map λkv=>if kv.1=k then (kv.1,y) else kv) j=(Yj kvs j).map λx=>if j=k then y else x
 |[]=>rfl
 |p::r=>by
  let ih:=YIQ k j y r;rw[Ö];by_cases h:p.1=k;rw[if_pos h];by_cases e:p.1=j;rw[Zh (p:=(p.1,y)) e,Zh e,Option.map_some,if_pos<|e.symm.trans h];rw[ZZ (p:=(p.1,y)) e,ZZ e,ih];rw[if_neg h];by_cases e:p.1=j;rw[Zh (p:=p) e,Zh e,Option.map_some,if_neg<|λz=>h<|e.trans z];rw[ZZ (p:=p) e,ZZ e,ih]
def YGc(k j:κ)(y:V):∀kvs:ac<|κ×V,Yj kvs k=Á->Yj (kvs++[(k,y)]) j=if j=k then À y else Yj kvs j
 |[],_=>by
  by_cases e:k=j;rw[if_pos e.symm];show Zh (p:=(k,y)) e;rw[if_neg<|λz=>e z.symm];show ZZ (p:=(k,y)) e
 |p::r,hn=>by
  rw[List.cons_append];let hk:¬p.1=k:=λz=>by rw[Zh z]at hn;cases hn
  rw[ZZ hk]at hn;let ih:=YGc k j y r hn;by_cases e:p.1=j;rw[Zh e,Zh e,if_neg<|λz=>hk<|e.trans z];rw[ZZ e,ZZ e,ih]
def Z0(kvs:ac<|κ×V)(k j:κ)(y:V):Yj (Y3 kvs k y) j=if j=k then À y else Yj kvs j:=by
 unfold Y3;by_cases a:(kvs.any λkv=>decide (kv.1=k))=Â;rw[if_pos a,YIQ];rw[BA]at a;by_cases e:j=k;let⟨x,S⟩:=YQj.mp a;rw[if_pos e,e,S,Option.map_some,if_pos Z];rw[if_neg e];cases Yj kvs j with
 |none=>rfl
 |some x=>rw[Option.map_some,if_neg e]
 rw[if_neg a];show YGc k j y kvs ?_;rw[BA]at a;cases q:Yj kvs k with
 |none=>rfl
 |some x=>rw[q]at a;show(a Z).elim
def Zt(kvs:ac<|κ×V)(k:κ)(v:V):(Y3 kvs k v).length<=kvs.length+1:=by
 unfold Y3;split;rw[Ä];lia;rw[È,Ñ,ü];lia
def Ī{kvs:ac (κ×V)}{k:κ}(v:V)(h:Yj kvs k=Á):Y3 kvs k v=kvs++[(k,v)]:=by
 unfold Y3;rw[BA,h];show if_neg (by decide)
def gT.isSome_eq(r:gT o u):o.isSome=u.isSome:=by
 cases o with
 |none=>cases u with
  |none=>rfl
  |some _=>show(show False from r).elim
 |some _=>cases u with
  |none=>show(show False from r).elim
  |some _=>rfl
def gT.getD(r:gT o u)(rd:Yw d d'):Yw (o.getD d)<|u.getD d':=by
 cases o with
 |none=>cases u with
  |none=>show rd
  |some _=>show(show False from r).elim
 |some _=>cases u with
  |none=>show(show False from r).elim
  |some _=>show r
def KV.val{kvs:ac (κ×V)}{vs:ac (κ×ah)}(r:KV kvs vs)(k:κ):gT (Yj kvs k)<|valueAt vs k:=by
 unfold KV at r
 induction r with
 |nil=>show True.intro
 |@cons p q ps qs h t ih=>
  let⟨h1,h2⟩:=h;by_cases e:p.1=k;let e':q.1=k:=h1.symm.trans e;let b:valueAt (q::qs) k=À q.2:=by simp[valueAt,List.find?_cons,e']
  rw[Zh e,b];show h2;let e':¬q.1=k:=λz=>e<|h1.trans z;let b:valueAt (q::qs) k=valueAt qs k:=by simp[valueAt,List.find?_cons,e']
  rw[ZZ e,b];show ih
def KV.any(r:KV kvs vs)(k:κ):(kvs.any λkv=>decide (kv.1=k))=vs.any λkv=>decide (kv.1=k):=by
 unfold KV at r
 induction r with
 |nil=>rfl
 |cons h t ih=>rw[List.any_cons,List.any_cons,ih,h.1]
def KV.repl(r:KV kvs vs)(k:κ)(ry:Yw y u):
  KV (kvs.map λkv=>if kv.1=k then (kv.1,y) else kv) (vs.map λkv=>if kv.1=k then (kv.1,u) else kv):=by
 unfold KV at r ⊢
 induction r with
 |nil=>show .nil
 |@cons p q ps qs h t ih=>
  rw[Ö,Ö];show .cons ?_ ih;let⟨h1,h2⟩:=h;by_cases e:p.1=k;rw[if_pos e,if_pos<|h1.symm.trans e];show⟨h1,ry⟩;rw[if_neg e,if_neg<|λz=>e<|h1.trans z];show⟨h1,h2⟩
def KV.put(r:KV kvs vs)(k:κ)(ry:Yw y u):KV (Y3 kvs k y)<|stored vs k u:=by
 unfold Y3 stored;rw[r.any k];by_cases e:(vs.any λkv=>decide (kv.1=k))=Â;rw[if_pos e,if_pos e];show r.repl k ry;rw[if_neg e,if_neg e];show Paired.snoc r ⟨Z,ry⟩
def KV.length(r:KV kvs vs):kvs.length=vs.length:=Paired.length r
end
def rh(r:Yw (kV k) u):(Yn P w).is k u=Â:=by
 cases k with
 |inl i=>let⟨t,e⟩:=(show ∃t,u=Value.int i t from r);subst e;show YIF P w i t
 |inr x=>let⟨t,e⟩:=(show ∃t,u=Value.str x t from r);subst e;show YIG P w x t
def YGd:∀{ks:ac db}{us:ac ah},Yo (ks.map kV) us->ItemsAre (Yn P w) ks us
 |[],_,r=>by rw[List.map_nil]at r;cases r;show .nil
 |k::ks,_,r=>by
  rw[Ö]at r;cases r with
  |cons h t=>show .cons (rh h)<|YGd t
noncomputable abbrev KT(H:Hp):ac (ac db×V)->ac (ac db×ai×ah)->Prop:=Paired λp q=>p.1=q.1/\H q.2.1=À (.tup<|p.1.map kV)/\Yw p.2 q.2.2
def KT.val{H:Hp}{kvs:ac (ac db×V)}{xs:ac (ac db×ai×ah)}(r:KT H kvs xs)(k:ac db):gT (Yj kvs k)<|(atKey xs k).map (·.2):=by
 induction r with
 |nil=>show True.intro
 |@cons p q ps qs h t ih=>
  let⟨h1,_,h2⟩:=h;by_cases e:p.1=k;let e':q.1=k:=h1.symm.trans e;let b:atKey (q::qs) k=À q.2:=by simp[atKey,List.find?_cons,e']
  rw[Zh e,b];show h2;let e':¬q.1=k:=λz=>e<|h1.trans z;let b:atKey (q::qs) k=atKey qs k:=by simp[atKey,List.find?_cons,e']
  rw[ZZ e,b];show ih
def KT.repl(r:KT H kvs xs)(k:ac db)(ry:Yw y u):
  KT H (kvs.map λkv=>if kv.1=k then (kv.1,y) else kv) (xs.map<|putAt k u):=by
 induction r with
 |nil=>show .nil
 |@cons p q ps qs h t ih=>
  rw[Ö,Ö];show .cons ?_ ih;let⟨h1,h2,h3⟩:=h;unfold putAt;by_cases e:p.1=k;rw[if_pos e,if_pos<|h1.symm.trans e];show⟨h1,h2,ry⟩;rw[if_neg e,if_neg<|λz=>e<|h1.trans z];show⟨h1,h2,h3⟩
def KT.put(r:KT H kvs xs)(k:ac db)(hb:H b=À (.tup<|k.map kV))(ry:Yw y u):
  KT H (Y3 kvs k y) (storedH xs k b u):=by
 let e:(kvs.any λkv=>decide (kv.1=k))=(atKey xs k).isSome:=by
  rw[BA,(r.val k).isSome_eq,Ě]
 unfold Y3 storedH;rw[e];by_cases q:(atKey xs k).isSome=Â;rw[if_pos q,if_pos q];show r.repl k ry;rw[if_neg q,if_neg q];show Paired.snoc r ⟨Z,hb,ry⟩
def KT.keeps(r:KT H kvs xs)(ht:∀b ys,H b=À (.tup ys)->H' b=À (.tup ys)):KT H' kvs xs:=
 Paired.mapP r λ_ _ z=>⟨z.1,ht _ _ z.2.1,z.2.2⟩
section
variable {P:Program}{w:World}{H:Hp}{h:Heap}{a:ai}
def kK(ok:fB P w H h)(e:Rd H a u):ZA P w H h a u:=e.ok ok
def xB(ok:fB P w H h)(e:Rd H a<|.dK kvs):kvs.length<=sizeLine/\(a==sysModules)=Ã/\∃vs,KV kvs vs/\h.DictOf (Yn P w) a vs:=
 show ZA P w H h a (.dK kvs) from kK ok e
def kU(ok:fB P w H h)(e:H a=À (.dK kvs)):kvs.length<=sizeLine/\(a==sysModules)=Ã/\∃vs,KV kvs vs/\h.DictOf (Yn P w) a vs:=xB ok<|.inl e
def y4(ok:fB P w H h)(e:H a=À (.tup<|ks.map kV)):(tupleKind<|Yn P w).is h ks a:=by
 let⟨_,its,r,o,h1,h2,n,h3⟩:=(show ZA P w H h a (.tup<|ks.map kV) from ok a _ e);show⟨o,its.toArray,n,h1,h2,h3,by simpa using YGd r⟩
def AA(ok:fB P w H h)(e:Rd H a<|.dT kvs):kvs.length<=sizeLine/\(a==sysModules)=Ã/\
  ∃xs,KT H kvs xs/\h.DictOfH (tupleKind<|Yn P w) a xs:=by
 let⟨z,y,xs,r,o,es,ep,h1,h2,h3,h4,h5⟩:=(show ZA P w H h a (.dT kvs) from kK ok e);show⟨z,y,xs,r,o,es,ep,h1,h2,h3,h4,λx S=>?_,h5⟩;let all:∀{l:ac (ac db×V)}{m:ac (ac db×ai×ah)},KT H l m->∀x∈m,(tupleKind<|Yn P w).is h x.1 x.2.1:=by
  intro l m q
  induction q with
  |nil=>intro x S;show nomatch S
  |@cons p q ps qs hq t ih=>
   intro x S;rcases YO9.mp S with e|S
   subst e;show y4 ok (by rw[<-hq.1];show hq.2.1);show ih x S
 show all r x S
def tJ(ok:fB P w H h)(e:H a=À (.dT kvs)):kvs.length<=sizeLine/\(a==sysModules)=Ã/\
  ∃xs,KT H kvs xs/\h.DictOfH (tupleKind<|Yn P w) a xs:=AA ok<|.inl e
end
@[ext]def gc(H:Hp)(a:ai)(y:V)(r:ag V):Prop:=
 (∃kvs k,Rd H a (.dK kvs)/\y=kV k/\r=Yj kvs k)\/∃kvs k b,Rd H a (.dT kvs)/\y=.ref b/\H b=À (.tup<|k.map kV)/\r=Yj kvs k
@[ext]def h_(H:Hp)(a:ai)(y v:V)(H':Hp):Prop:=
 (∃kvs k,H a=À (.dK kvs)/\y=kV k/\kvs.length<sizeLine/\H'=upd H a (.dK<|Y3 kvs k v))\/
 ∃kvs k b,H a=À (.dT kvs)/\y=.ref b/\H b=À (.tup<|k.map kV)/\kvs.length<sizeLine/\H'=upd H a (.dT<|Y3 kvs k v)
def gc.k{H:Hp}{a:ai}{kvs:ac (db×V)}{k:db}(e:H a=À (.dK kvs)):gc H a (kV k)<|Yj kvs k:=.inl ⟨kvs,k,.inl e,Z,Z⟩
def gc.t{H:Hp}{a b:ai}{kvs:ac (ac db×V)}{k:ac db}(e:H a=À (.dT kvs))(eb:H b=À (.tup<|k.map kV)):gc H a (.ref b)<|Yj kvs k:=.inr ⟨kvs,k,b,.inl e,Z,eb,Z⟩
def h_.k{H:Hp}{a:ai}{kvs:ac (db×V)}{k:db}{v:V}(e:H a=À (.dK kvs))(hl:kvs.length<sizeLine):h_ H a (kV k) v<|upd H a<|.dK<|Y3 kvs k v:=.inl ⟨kvs,k,e,Z,hl,Z⟩
def h_.t{H:Hp}{a b:ai}{kvs:ac (ac db×V)}{k:ac db}{v:V}(e:H a=À (.dT kvs))(eb:H b=À (.tup<|k.map kV))(hl:kvs.length<sizeLine):
  h_ H a (.ref b) v (upd H a<|.dT<|Y3 kvs k v):=.inr ⟨kvs,k,b,e,Z,eb,hl,Z⟩
section
variable {X:Cx}{O:ac (ai×Obj)}{σ:St}{H:Hp}{s:al}{a:ai}{y v:V}{u r:ah}{o:ag V}{A:Around}{E:ah->al->Prop}
def aX.big(I:aX X O σ H s):sysModules<s.heap.objs.size:=by
 let h:mainGlobals<s.heap.objs.size:=(I.mod.glob.keeps I.bk).lt;show Nat.lt_trans (by decide) h
def YMS{Q:ah->al->Prop}(hu:A.units+1<cLine)(I:aX X O σ H s)(g:gc H a y<|some v)(ry:Yw y u)(h:∀w' s',aX X O σ H s'->Yw v w'->Q w' s'):
  wpAny (model X.prog X.w) A (getItem (.ref a) u) Q E s:=by
 rcases g with ⟨kvs,k,e,ey,l⟩|⟨kvs,k,b,e,ey,eb,l⟩
 subst ey;let⟨z,hd,vs,rel,dd⟩:=xB I.hok e;let⟨w',hw,lq⟩:=gT.some_of (v:=v) (o:=valueAt vs k) (by rw[l];show rel.val k);show wpAny_getItem_of (rh ry) dd.mapOf hw<|h w' _ (I.tok _) lq;subst ey;cases (show u=Value.ref b from ry);let⟨z,hd,xs,rel,dd⟩:=AA I.hok e;let⟨w',hw,lq⟩:=gT.some_of (v:=v) (o:=(atKey xs k).map (·.2)) (by rw[l];show rel.val k);let⟨p,hp,nJ⟩:=YPk.mp hw;show wpAny_getItem_heap (tupleKind_room_in1 hu) (y4 I.hok eb) dd hp ?_;rw[nJ];show h w' _ (I.tok _) lq
def ω{Q:ah->al->Prop}(hu:A.units+1<cLine)(I:aX X O σ H s)(g:gc H a y o)(ry:Yw y u)(h:∀s',aX X O σ H s'->Q (.bool o.isSome) s'):
  wpAny (model X.prog X.w) A (compareOp .In u<|.ref a) Q E s:=by
 rcases g with ⟨kvs,k,e,ey,l⟩|⟨kvs,k,b,e,ey,eb,l⟩
 subst ey;let⟨z,hd,vs,rel,dd⟩:=xB I.hok e;show wpAny_in_of (rh ry) hd dd.mapOf ?_;rw[<-(rel.val k).isSome_eq,<-l];show h _<|I.tok _;subst ey;cases (show u=Value.ref b from ry);let⟨z,hd,xs,rel,dd⟩:=AA I.hok e;show wpAny_in_heap (tupleKind_room_in1 hu) (y4 I.hok eb) hd dd ?_;let q:=(rel.val k).isSome_eq;rw[Ě]at q;rw[<-q,<-l];show h _<|I.tok _
def mr{Q:ah->al->Prop}(hu:A.units+1<cLine)(I:aX X O σ H s)(g:gc H a y o)(ry:Yw y u)(h:∀s',aX X O σ H s'->Q (.bool<|!o.isSome) s'):
  wpAny (model X.prog X.w) A (compareOp .NotIn u<|.ref a) Q E s:=by
 rcases g with ⟨kvs,k,e,ey,l⟩|⟨kvs,k,b,e,ey,eb,l⟩
 subst ey;let⟨z,hd,vs,rel,dd⟩:=xB I.hok e;show wpAny_notIn_of (rh ry) hd dd.mapOf ?_;rw[<-(rel.val k).isSome_eq,<-l];show h _<|I.tok _;subst ey;cases (show u=Value.ref b from ry);let⟨z,hd,xs,rel,dd⟩:=AA I.hok e;show wpAny_notIn_heap (tupleKind_room_in1 hu) (y4 I.hok eb) hd dd ?_;let q:=(rel.val k).isSome_eq;rw[Ě]at q;rw[<-q,<-l];show h _<|I.tok _
def DM(I:aX X O σ H s)(mu:DF<|H a)(hs:Heap.SameBut a s.heap h')(he:∃q,h'.get? a=À q)(new:ZA X.prog X.w (upd H a ob) h' a ob):
  aX X O σ (upd H a ob) { s with heap:=h',toks:=t' }:=
 I.write (x:=a) (e:=a) mu (.inl Z) (λb q hb z=>(hs.2 b hb).trans z) he new
def ϔ(z:kvs.length<=sizeLine)(hd:(a==sysModules)=Ã)(rel:KV kvs vs)(dd:h'.DictOf (Yn P w) a vs):
  ZA P w H' h' a (.dK kvs):=⟨z,hd,vs,rel,dd⟩
def YMT{H':Hp}{Q:Unit->al->Prop}(hu:A.units+1<cLine)(I:aX X O σ H s)(g:h_ H a y v H')(ry:Yw y u)(rv:Yw v r)(h:∀s',aX X O σ H' s'->Q () s'):
  wpAny (model X.prog X.w) A (setItem (.ref a) u r) Q E s:=by
 rcases g with ⟨kvs,k,e,ey,l,eH⟩|⟨kvs,k,b,e,ey,eb,l,eH⟩
 subst ey eH;let⟨z,hd,vs,rel,dd⟩:=kU I.hok e;let hz:vs.length<=sizeLine:=by rw[<-rel.length];show z
 let hl:(Y3 kvs k v).length<=sizeLine:=by have:=Zt kvs k v;lia
 show wpAny_setItem_pairs (hsz:=hz) (rh ry) dd λh' mD hs=>h _ ?_;let he:∃q,h'.get? a=À q:=let ⟨q,_,_,hq,_⟩:=mD;⟨q,hq⟩
 show DM I (by rw[e];show True.intro) hs he<|ϔ hl hd (rel.put k rv) mD;subst ey eH;cases (show u=Value.ref b from ry);let⟨z,hd,xs,rel,dd⟩:=tJ I.hok e;let hz:xs.length<=sizeLine:=by rw[<-Paired.length rel];show z
 let hl:(Y3 kvs k v).length<=sizeLine:=by have:=Zt kvs k v;lia
 show wpAny_setItem_heap (hsz:=hz) (tupleKind_room_in1 hu) (y4 I.hok eb) dd λh' mD hs=>h _ ?_;let⟨q,es,ep,hq,h2,h3,h4,_,h5⟩:=mD;show DM I (by rw[e];show True.intro) hs ⟨q,hq⟩ ⟨hl,hd,_,(rel.put k eb rv).keeps λc ys ec=>?_,q,es,ep,hq,h2,h3,h4,h5⟩;rw[YB<|Yi ec e nofun];show ec
end
section
variable {X:Cx}{O:ac (ai×Obj)}{σ:St}{H:Hp}{s:al}{a:ai}{kvs:ac (db×V)}{k:db}{u:ah}{A:Around}{E:ah->al->Prop}
end
@[ext]def B4(i:Expr):Prop:=∀ov iv,subscripted i Ã ov iv=operate [ov,iv] (getItem ov iv)
def nX{prog:Program}{w:World}{A:Around}{E:ah->al->Prop}{s:al}{env:Env}{value slice:Expr}{pos:Pos}{T id:String}{Q:ah->al->Prop}
  (hl:typeLookup (.type T) "__getitem__"=pure (À<|.builtin id))(hs:B4 slice)
  (h:wpAny (model prog w) A (eval value env) (λo s₁=>wpAny (model prog w) A (eval slice env) (λi s₂=>s₂.TypeIs o T/\wpAny (model prog w) A (getItem o i) Q E s₂) E s₁) E s):
  wpAny (model prog w) A (eval (.Subscript value slice pos) env) Q E s:=by
 show Subscript_<|wpAny_mono h (λo s₁ h₁=>wpAny_mono h₁ (λi s₂ h₂=>?_) λ_ _ x=>x) λ_ _ x=>x;let⟨hT,h₂⟩:=h₂;unfold subscriptTail;show Æ ?_;rw[getitemInPython_of_ne hT.not_modules];show Æ<|wpAny_specialOf hT hl ?_;let fin:wpAny (model prog w) A (subscripted slice Ã o i) (λr s₃=>wpAny (model prog w) A (letTemporaryGo value o r >>= λ_=>pure r) Q E s₃) E s₂:=by
  rw[hs o i];show wpAny_operating (wpAny_mono h₂ (λr s₃ h₃=>Æ<|wpAny_letTemporaryGo<|Ì h₃) λ_ _ x=>x)
 first
  |show Ì (Æ fin)
  |show Æ (Ì (Æ fin))
  |show Æ fin
def YIR(I:aX X O σ H s)(g:gc H a y o):s.TypeIs (.ref a) "dict":=by
 rcases g with ⟨kvs,k,e,_,_⟩|⟨kvs,k,b,e,_,_,_⟩
 let⟨_,_,vs,_,dd⟩:=xB I.hok e;show dd.typeIs;let⟨_,_,xs,_,dd⟩:=AA I.hok e;show dd.typeIs
inductive YNS(Q:VK)(x y:V)(H2:Hp):Prop
 |mk (a:_)(v:_):x=.ref a->gc H2 a y (À v)->Q v H2->YNS Q x y H2
@[ext]def sw(td ty:TE):TE:=λσ H Q=>td σ H λx H1=>ty σ H1 λy H2=>YNS Q x y H2
inductive t9(Q:VK)(y x:V)(H2:Hp):Prop
 |mk (a:_)(o:_):x=.ref a->gc H2 a y o->Q (.bl o.isSome) H2->t9 Q y x H2
@[ext]def tDIn(ty td:TE):TE:=λσ H Q=>ty σ H λy H1=>td σ H1 λx H2=>t9 Q y x H2
inductive YIS(Q:VK)(y x:V)(H2:Hp):Prop
 |mk (a:_)(o:_):x=.ref a->gc H2 a y o->Q (.bl (!o.isSome)) H2->YIS Q y x H2
@[ext]def mh(ty td:TE):TE:=λσ H Q=>ty σ H λy H1=>td σ H1 λx H2=>YIS Q y x H2
inductive YNT(D:Jg)(σ:St)(v x y:V)(H3:Hp):Prop
 |mk (a:_)(H4:_):x=.ref a->h_ H3 a y v H4->D.nx σ H4->YNT D σ v x y H3
@[ext]def C4(td ty tv:TE):TS:=λD σ H=>tv σ H λv H1=>td σ H1 λx H2=>ty σ H2 λy H3=>YNT D σ v x y H3
section
variable {X:Cx}{o i e value:Expr}{pos gA jm:Pos}{td ty tv:TE}
def JT(hu:X.A.units+1<cLine)(ho:PE X o td)(hi:PE X i ty)(hs:B4 i):PE X (.Subscript o i pos)<|sw td ty:=by
 intro O s σ H Q I h;show nX PySem.F.slot_dict_getitem.lookup hs<|cy (ho O s σ H _ I h) λu s1 ⟨x,H1,I1,rx,q1⟩=>cy (hi O s1 σ H1 _ I1 q1) ?_;rintro iv s2 ⟨y,H2,I2,ry,a,v,ex,g,q2⟩;subst ex;obtain rfl:u=Value.ref a:=rx;show⟨YIR I2 g,YMS hu I2 g ry λw' s3 I3 lq=>⟨v,H2,I3,lq,q2⟩⟩
def Bn(hu:X.A.units+1<cLine)(hi:PE X i ty)(ho:PE X o td):PC X .In i o<|tDIn ty td:=by
 intro O s σ H Q I h;show cy (hi O s σ H _ I h) λiv s1 ⟨y,H1,I1,ry,q1⟩=>cy (ho O s1 σ H1 _ I1 q1) ?_;rintro u s2 ⟨x,H2,I2,rx,a,ov,ex,g,q2⟩;subst ex;obtain rfl:u=Value.ref a:=rx;show ω hu I2 g ry λs3 I3=>⟨.bl ov.isSome,H2,I3,Z,q2⟩
def X1(hu:X.A.units+1<cLine)(hi:PE X i ty)(ho:PE X o td):PC X .NotIn i o<|mh ty td:=by
 intro O s σ H Q I h;show cy (hi O s σ H _ I h) λiv s1 ⟨y,H1,I1,ry,q1⟩=>cy (ho O s1 σ H1 _ I1 q1) ?_;rintro u s2 ⟨x,H2,I2,rx,a,ov,ex,g,q2⟩;subst ex;obtain rfl:u=Value.ref a:=rx;show mr hu I2 g ry λs3 I3=>⟨.bl<|!ov.isSome,H2,I3,Z,q2⟩
def J4(hu:X.A.units+1<cLine)(ho:PE X o td)(hi:PE X i ty)(hv:PE X value tv)(hs:swapsWith value (À<|.Subscript o i gA) pos.line X.env=pure Ã):
  PS X (.Assign [.Subscript o i gA] value pos) (C4 td ty tv):=by
 intro O s σ H D I h;show wpAny_Assign_Subscript (cy (hv O s σ H _ I h) λr s1 ⟨v,H1,I1,rv,q1⟩=>cy (ho O s1 σ H1 _ I1 q1) λu s2 ⟨x,H2,I2,rx,q2⟩=>cy (hi O s2 σ H2 _ I2 q2) λiv s3 ⟨y,H3,I3,ry,a,H4,ex,g,q3⟩=>?_) hs;subst ex;obtain rfl:u=Value.ref a:=rx;show YMT hu I3 g ry rv λs4 I4=>⟨σ,H4,I4,q3⟩
end
def YIT(h:Heap)(hb:sysModules<h.objs.size):ZA P w H (h.push { cls:=.type "dict",data:=.dict #[] }) h.objs.size<|.dK []:=
 ⟨Ë _,beq_eq_false_iff_ne.mpr<|Ne.symm<|Ü hb,[],.nil,Heap.DictOf.new h⟩
def YNU(h:Heap)(hb:sysModules<h.objs.size):ZA P w H (h.push { cls:=.type "dict",data:=.dict #[] }) h.objs.size<|.dT []:=
 ⟨Ë _,beq_eq_false_iff_ne.mpr<|Ne.symm<|Ü hb,[],.nil,_,#[],0,Þ _ rfl,⟨Z,Z,Z⟩,Z,Z,å⟩
@[ext]def y7:TE:=λ_ H Q=>∀p,H p=Á->Q (.ref p) (upd H p<|.dK [])
@[ext]def xq:TE:=λ_ H Q=>∀p,H p=Á->Q (.ref p) (upd H p<|.dT [])
section
variable {X:Cx}{pos:Pos}
def YIU:PE X (.Dict [] [] pos) y7:=λO s σ H Q I h=>
 wpAny_Dict_empty ⟨.ref s.heap.objs.size,_,I.laid (a:=s.heap.objs.size) (o:=.dK []) (t':=s.toks) (λ_ _ q=>Ø _ q) (Å _)<|YIT s.heap I.big,Z,h _<|I.hok.fresh<|Å _⟩
def J5:PE X (.Dict [] [] pos) xq:=λO s σ H Q I h=>
 wpAny_Dict_empty ⟨.ref s.heap.objs.size,_,I.laid (a:=s.heap.objs.size) (o:=.dT []) (t':=s.toks) (λ_ _ q=>Ø _ q) (Å _)<|YNU s.heap I.big,Z,h _<|I.hok.fresh<|Å _⟩
end
@[ext]def YKC:ac (TE×TE)->St->Hp->(ac (V×V)->Hp->Prop)->Prop
 |[],_,H,Q=>Q [] H
 |(tk,tv)::r,σ,H,Q=>tk σ H λx H1=>tv σ H1 λy H2=>YKC r σ H2 λps H3=>Q ((x,y)::ps) H3
noncomputable abbrev VV:ac (V×V)->ac (ah×ah)->Prop:=Paired λp q=>Yw p.1 q.1/\Yw p.2 q.2
@[ext]def ĵ(X:Cx)(pos:Pos)(keys:ac<|ag Expr)(values:ac Expr)(trs:ac<|TE×TE):Prop:=
 ∀(O:ac<|ai×Obj) (s:al) (σ:St) (H:Hp) (Q:ac (V×V)->Hp->Prop),aX X O σ H s->YKC trs σ H Q->
  wpAny (model X.prog X.w) X.A (evalPairs<|pairTrees keys values X.env pos) (λvs s'=>∃ps H',aX X O σ H' s'/\VV ps vs/\Q ps H') X.xe s
def oW:ĵ X pos [] [] []:=λO s σ H Q I h=>pairTrees_nil_walk ⟨[],H,I,.nil,h⟩
def YNV{X:Cx}{pos:Pos}{k v:Expr}{ks:ac (ag Expr)}{vs:ac Expr}{tk tv:TE}{trs:ac (TE×TE)}(hk:PE X k tk)(hv:PE X v tv)(hr:ĵ X pos ks vs trs):
  ĵ X pos (À k::ks) (v::vs) ((tk,tv)::trs):=λO s σ H Q I h=>
 pairTrees_cons_walk (cy (hk O s σ H _ I h) λu s1 ⟨x,H1,I1,rx,q1⟩=>cy (hv O s1 σ H1 _ I1 q1) λw2 s2 ⟨y,H2,I2,ry,q2⟩=>
  cy (hr O s2 σ H2 _ I2 q2) λws s3 ⟨ps,H3,I3,rel,q3⟩=>⟨(x,y)::ps,H3,I3,.cons ⟨rx,ry⟩ rel,q3⟩)
@[ext]def A5(kvs more:ac<|db×V):ac<|db×V:=more.foldl (λacc kv=>Y3 acc kv.1 kv.2) kvs
def KV.merge:∀{more:ac (db×V)}{rs:ac (db×ah)}{kvs:ac (db×V)}{vs:ac (db×ah)},KV more rs->KV kvs vs->KV (A5 kvs more) (merged vs rs):=by
 intro more rs kvs vs r;unfold KV at r
 induction r generalizing kvs vs with
 |nil=>intro q;show q
 |@cons p q ps qs h t ih=>
  intro r0;let e:KV (Y3 kvs p.1 p.2)<|stored vs q.1 q.2:=by
   have:=r0.put p.1 h.2;rw[<-h.1];show this
  show ih e
def YCZ:∀(more kvs:ac<|db×V),(A5 kvs more).length<=kvs.length+more.length
 |[],kvs=>by change kvs.length<=kvs.length+0;lia
 |p::r,kvs=>by
  let h1:=YCZ r<|Y3 kvs p.1 p.2;let h2:=Zt kvs p.1 p.2;change(A5 (Y3 kvs p.1 p.2) r).length<=_;rw[Ñ];lia
def YFB:∀{kvs:ac (db×V)}{ws:ac (ah×ah)},VV (kvs.map λkv=>(kV kv.1,kv.2)) ws->∃rs,Carries (Yn P w) ws rs/\KV kvs rs
 |[],_,r=>by rw[List.map_nil]at r;cases r;show⟨[],True.intro,.nil⟩
 |p::kvs,_,r=>by
  rw[Ö]at r;cases r with
  |@cons a b as bs h t=>
   let⟨rs,c,q⟩:=YFB (P:=P) (w:=w) t;let⟨b1,b2⟩:=b;show⟨(p.1,b2)::rs,⟨rh h.1,Z,c⟩,.cons ⟨Z,h.2⟩ q⟩
@[ext]def tq(trs:ac<|TE×TE):TE:=λσ H Q=>∀p,H p=Á->YKC trs σ (upd H p<|.dK []) λps H2=>H2 p=À (.dK [])/\∃kvs:ac<|db×V,ps=kvs.map (λkv=>(kV kv.1,kv.2))/\kvs.length<=15/\Q (.ref p) (upd H2 p<|.dK<|A5 [] kvs)
def m4(h:ĵ X pos keys values trs)(hall:keys.all (·.isSome)=Â)(hl:keys.length=values.length)(h0:keys≠[])
  (WP:keys.length<=15):PE X (.Dict keys values pos)<|tq trs:=by
 intro O s σ H Q I q;let hn:=I.hok.fresh<|Å s.heap.objs.size;let I1:=I.laid (a:=s.heap.objs.size) (o:=.dK []) (h':=s.heap.push { cls:=.type "dict",data:=.dict #[] }) (t':=s.toks) (λ_ _ q=>Ø _ q) (Å _)<|YIT s.heap I.big;show wpAny_Dict_walk (knd:=Yn X.prog X.w) hall hl h0 WP<|cy (h O _ σ _ _ I1<|q _ hn) ?_;rintro ws s2 ⟨ps,H2,I2,rel,e,kvs,ep,lk,q2⟩;subst ep;let⟨rs,c,rk⟩:=YFB (P:=X.prog) (w:=X.w) rel;let⟨z,hd,vs0,r0,dd⟩:=kU I2.hok e;cases r0;show⟨rs,c,dd,λh' mD hs=>⟨.ref s.heap.objs.size,_,?_,Z,q2⟩⟩;let hz:(A5 [] kvs).length<=sizeLine:=by
  let h1:=YCZ kvs [];rw[ü]at h1;rw[sizeLine_eq];lia
 let he:∃q,h'.get? s.heap.objs.size=À q:=let ⟨q,_,_,hq,_⟩:=mD;⟨q,hq⟩
 show DM I2 (by rw[e];show True.intro) hs he<|ϔ hz hd (rk.merge .nil) mD
structure M1(X:Cx)(o:Expr)(m:Str)(bL:Pos)(e:Expr)(bh:Pos):Prop where
 base:attributeBase o m X.env (eval o X.env)=eval o X.env
 few:((backTo bh<|starEach [e] X.env).all (λx=>!x.1)&&(backToKw bh<|keywordEach [] X.env).all (λx=>x.1.isSome)
  && decide (([e]:List Expr).length+([]:List Keyword).length+(if ([]:List Keyword).isEmpty then 0 else 1)<30))=Â
 line:(bL.endLine==bh.line)=Â
 trees:backTo bh (starEach [e] X.env)=[(Ã,eval e X.env)]
structure M2(X:Cx)(o:Expr)(m:Str)(bL:Pos)(e f:Expr)(bh:Pos):Prop where
 base:attributeBase o m X.env (eval o X.env)=eval o X.env
 few:((backTo bh<|starEach [e,f] X.env).all (λx=>!x.1)&&(backToKw bh<|keywordEach [] X.env).all (λx=>x.1.isSome)
  && decide (([e,f]:List Expr).length+([]:List Keyword).length+(if ([]:List Keyword).isEmpty then 0 else 1)<30))=Â
 line:(bL.endLine==bh.line)=Â
 trees:backTo bh (starEach [e,f] X.env)=[(Ã,eval e X.env),(Ã,eval f X.env)]
@[ext]def ŉ(H:Hp)(a:ai):Prop:=(∃kvs,Rd H a<|.dK kvs)\/∃kvs,Rd H a<|.dT kvs
def YKD(I:aX X O σ H s)(d:ŉ H a):
  s.TypeIs (.ref a) "dict"/\(∀b,Value.ref a=.ref b->∃ob,s.heap.get? b=À ob/\ob.dict=Á)/\(a==sysModules)=Ã:=by
 rcases d with ⟨kvs,e⟩|⟨kvs,e⟩
 let⟨_,hd,vs,_,dd⟩:=xB I.hok e;show⟨dd.typeIs,λb q=>?_,hd⟩;cases q;let⟨ob,_,_,h1,h2,_⟩:=dd;show⟨ob,h1,h2.2.1⟩;let⟨_,hd,xs,_,dd⟩:=AA I.hok e;show⟨dd.typeIs,λb q=>?_,hd⟩;cases q;let⟨ob,_,_,h1,h2,_⟩:=dd;show⟨ob,h1,h2.2.1⟩
section
variable {X:Cx}{O:ac (ai×Obj)}{σ:St}{H:Hp}{s:al}{a:ai}{y d:V}{u r:ah}{o:ag V}{A:Around}{E:ah->al->Prop}
def xU{Q:ah->al->Prop}(hu:A.units+1<cLine)(I:aX X O σ H s)(g:gc H a y o)(ry:Yw y u)(rd:Yw d r)(h:∀w' s',aX X O σ H s'->Yw (o.getD d) w'->Q w' s'):
  wpAny (model X.prog X.w) A (call (.builtin "dict.get") [.ref a,u,r]) Q E s:=by
 rcases g with ⟨kvs,k,e,ey,l⟩|⟨kvs,k,b,e,ey,eb,l⟩
 subst ey;let⟨z,hd,vs,rel,dd⟩:=xB I.hok e;show call_meetsIn PySem.F.slot_dict_get dd.typeIs PySem.F.entry_dict_get (PySem.F.args_dict_get_3 _ _ _) (meets_dict_get_default (Yn X.prog X.w) a (rh ry) hd r) ⟨_,dd.mapOf,h _ _ (I.tok _) ?_⟩;rw[l];show(rel.val k).getD rd;subst ey;cases (show u=Value.ref b from ry);let⟨z,hd,xs,rel,dd⟩:=AA I.hok e;show call_meetsIn PySem.F.slot_dict_get dd.typeIs PySem.F.entry_dict_get (PySem.F.args_dict_get_3 _ _ _) (meetsH_dict_get_default (tupleKind<|Yn X.prog X.w) a b hd r) ⟨tupleKind_room_in1 hu,k,xs,y4 I.hok eb,dd,h _ _ (I.tok _) ?_⟩;rw[l];show(rel.val k).getD rd
end
@[ext]def zn(td ty tx:TE):TE:=λσ H Q=>td σ H λx H1=>∃a,x=.ref a/\ŉ H1 a/\ty σ H1 λy H2=>tx σ H2 λz H3=>∃o,gc H3 a y o/\Q (o.getD z) H3
section
variable {X:Cx}{o e f:Expr}{bL bh:Pos}{td ty tx:TE}
def Dz(hu:X.A.units+1<cLine)(ho:PE X o td)(he:PE X e ty)(hf:PE X f tx)(m:M2 X o "get" bL e f bh):PE X (.Call (.Attribute o "get" bL) [e,f] [] bh)<|zn td ty tx:=by
 intro O s σ H Q I h;show wpAny_Call_method m.base m.few m.line PySem.F.plainAttrs_dict PySem.F.slot_dict_get PySem.F.type_dict_get<|cy (ho O s σ H _ I h) ?_;rintro u s1 ⟨x,H1,I1,rx,a,ex,d,q1⟩;subst ex;obtain rfl:u=Value.ref a:=rx;let⟨t1,t2,_⟩:=YKD I1 d;show⟨t1,t2,?_⟩;rw[m.trees];show Calls.callWith_builtin Z (Calls.evalArgs_plain (Calls.spliced_cons<|cy (he O s1 σ H1 _ I1 q1) λiv s2 ⟨y,H2,I2,ry,q2⟩=>
  Calls.spliced_cons (cy (hf O s2 σ H2 _ I2 q2) ?_)))
 rintro fv s3 ⟨z,H3,I3,rz,ov,g,q3⟩;show Calls.spliced_nil ?_;show xU hu I3 g ry rz λw' s4 I4 lq=>⟨_,H3,I4,lq,q3⟩
end
section
variable {X:Cx}{O:ac (ai×Obj)}{σ:St}{H:Hp}{s:al}{a:ai}{kvs:ac (db×V)}{A:Around}{E:ah->al->Prop}
end
section
variable {X:Cx}{O:ac (ai×Obj)}{σ:St}{H:Hp}{s:al}{a:ai}{y:V}{u:ah}{A:Around}{E:ah->al->Prop}
end
end L2
namespace Att
open PySem PySem.W PySem.Calls PyProof.Rows
def YER:∀(ns:ac Int) (vs:ac ah),WellAll P h vs (ns.map WData.int)->IntsAre vs ns:=by
 intro ns
 induction ns with
 |nil=>
  intro vs w;rw[List.map_nil]at w;cases w;show .nil
 |cons n ns ih=>
  intro vs w;rw[Ö]at w;cases w with
  |cons a b=>
   cases a;show .cons _ _<|ih _ b
def YMU{l:OpenLaw}{n:Nat}(hn:l.most=À n){P:Params}{h:Heap}{args:ac WData}{vals:ac ah}
  (qt:l.row.toRowW.claim.pre args=Â)(hwl:WellAll P h vals args):
  ∃a vs ns,vals=[Value.ref a]/\args=[WData.list<|ns.map WData.int]/\h.get? a=À { cls:=.type "list",data:=.seq vs.toArray }/\IntsAre vs ns/\ns.length<=n:=by
 let hsh:WShape.hasAll [] args [.list .int]=Â:=(pre_splitW qt).1;let hc:l.pre.holds [] { args:=args }=Â:=(pre_splitW qt).2;let⟨d,r,Z,h1,h2⟩:=hasAllW_cons hsh;obtain rfl:=hasAllW_nil h2;let⟨xs,Z,h3⟩:=hasW_list h1;let⟨ns,Z⟩:=items_int h3;let hlen:ns.length<=n:=by
  unfold OpenLaw.pre at hc;let h4:(WTm.not<|.lt (.lit<|.int (n:Int))<|.len<|.arg 0).holds [] { args:=[.list<|ns.map .int] }=Â:=by
   let h4:=(holds_andW hc).1;rw[hn]at h4;show h4
  let h5:=condW_of h4<|w_not<|w_lt w_lit<|w_len_list<|w_arg rfl;rw[Ä]at h5;show Nat.le_of_not_lt λq=>?_;let q':(n:Int)<((ns.length:Nat):Int):=by omega
  first
   |(rw[dA q']at h5;show absurd h5 (by decide))
   |(simp at h5;omega)
 cases hwl with
 |cons w1 w2=>
  cases w2;cases w1 with
  |list ho hall=>show⟨_,_,ns,Z,Z,ho,YER ns _ hall,hlen⟩
def YMV(l:OpenLaw)(args:ac WData):l.row.toRowW.claim.post args (.bool Â) args=Â:=
 postW_of (r:=l.row.toRowW) (X:=(Â==Â))
  (show WShape.has [] (.bool Â) .bool=Â by first|rfl|decide|simp[WShape.has,WShape.arms,WShape.armsAll])
  (show(WTm.eq .res<|.lit<|.bool Â).value [] { args:=args,res:=À<|.bool Â,after:=args }=À (.bool<|true==Â) from w_eq_bool (w_res Z) w_lit) Z
def YIV{l:OpenLaw}{n:Nat}{q:Program}{loose:ac am}{XP:(am->ag ah)->Heap->Prop}{YP:World->Heap->Prop}{d:DefRec}
  (hn:l.most=À n)(hdf:d.params.defaults=[])
  (call:∀(w:World) (s₀ s₁:al) (mg mb:am->ag ah) (fa:ai) (o:Obj) (pm cd doc:ah) (a:ai) (vs:ac ah) (ns:ac Int),
   Ground q loose [] XP w s₀ mg mb s₁.heap->YP w s₁.heap->
   s₁.heap.get? fa=À o->o.data=.func (docDef d.name d.params d.body d.scope pm cd doc)->s₁.heap.CodeRec cd d.name->mg d.name=À (.ref fa)->
   s₁.heap.get? a=À { cls:=.type "list",data:=.seq vs.toArray }->IntsAre vs ns->ns.length<=n->s₁.gens=#[]->
   codeAny (model l.prog w) callerA (.call (.ref fa) ⟨[.ref a],[]⟩) (λr s'=>r=.ok (.ret<|.bool Â)/\OldK s₁.heap s'.heap/\s'.os=s₁.os/\AllBare s'.gens) s₁):
  WalkO q loose XP YP l.row.toRowW d [] (λf vs=>PySem.call f vs):=by
 intro w s₀ s₁ mg mb G Y fa o pm cd doc dV kV ho hd hcd hD uV hg args vals as qt hlay hrd hwl hlo;obtain rfl:dV=.none:=Dflts.none hD hdf;obtain rfl:kV=.none:=Dflts.noKw hD;let⟨a,vs,ns,Z,Z,sJ,nM,hlen⟩:=YMU hn qt hwl;show enter_call<|codeAny_mono (call w s₀ s₁ mg mb fa o pm cd doc a vs ns G Y ho (fd_plain hd) hcd uV sJ nM hlen hg) λr s' hq=>?_;let⟨Z,h2,h3,h4⟩:=hq;show⟨.inl ⟨.bool Â,.bool Â,[],Z,λ_=>rfl,.bool Â,YMV l _,λ_=>⟨List.Pairwise.nil,λ_ hm=>(nomatch hm)⟩⟩,h2,h3,h4⟩
section
variable {prog:Program}{w:World}{A:Around}{E:ah->al->Prop}{s:al}{K:Frag}
end
end Att
namespace L2
open PySem PySem.Spec PyProof.Rows
def Ϟ:∀{vs:ac ah}{ns:ac Int},IntsAre vs ns->Yo (ns.map V.int) vs
 |_,_,.nil=>.nil
 |_,_,.cons n t h=>.cons ⟨t,Z⟩<|Ϟ h
@[ext]def kH(H:Hp):Prop:=∀b,H b=Á\/∃o xs,H b=À (.frz o<|.lst xs)
def YNW{P:Program}{w:World}{K:W.Frag}{mg mb:am->ag ah}{CX:gz}{k:Nat}{fa a:ai}{fd:FuncData}{x:am}{sp:Sp}{s₁:al}{vs:ac ah}{ns:ac Int}
  (KX:K.In s₁.heap)(hns:s₁.heap.Ns mainGlobals mg)(hb:s₁.heap.Ns builtinsNs mb)(hbb:∀x:am,x≠"__name__"->mb x=bootBuiltins x)(yV:s₁.heap.NoLimit)(hg:s₁.gens=#[])
  (ha:s₁.heap.get? a=À { cls:=.type "list",data:=.seq vs.toArray })(hi:IntsAre vs ns)(hl:ns.length<=sizeLine)(hr:JR k callerA)
  (F:∀base:Heap,K.In base->base.Ns mainGlobals mg->f_ P w K mg base CX k fa fd [x] sp)(uW:∀(s:al) (u:ah),BindsTo s fd ⟨[u],[]⟩ [(x,u)])
  (hsp:∀H:Hp,kH H->bG K H a (ns.map V.int)->sp [.ref a] H (λv _=>v=.bl Â) λ_ _ _=>False)
  (hCX:∀H e s',CX [] H s₁ (λ_ _ _=>False) e s'->False):
  codeAny (model P w) callerA (.call (.ref fa) ⟨[.ref a],[]⟩) (λr s'=>r=.ok (.ret<|.bool Â)/\OldK s₁.heap s'.heap/\s'.os=s₁.os/\AllBare s'.gens) s₁:=by
 let rv:=Ϟ hi;let lenV:=hi.length;let core:∀H:Hp,kH H->bG K H a (ns.map V.int)->fB P w H s₁.heap->(∀b,H b≠Á->b=a)->(H a≠Á->K.lookup a=Á)->
   codeAny (model P w) callerA (.call (.ref fa) ⟨[.ref a],[]⟩) (λr s'=>r=.ok (.ret<|.bool Â)/\OldK s₁.heap s'.heap/\s'.os=s₁.os/\AllBare s'.gens) s₁:=by
  intro H hO hS hok hA hK;let base_of:∀{b:ai}{o:Obj},s₁.heap.get? b=À o->H b=Á->(oz s₁.heap H).get? b=À o:=λe n=>YM3 e n;let noA:∀{b:ai}{o:Obj}{es:Array DictEntry}{ep:Nat},s₁.heap.get? b=À o->o.data=.dict es ep->H b=Á:=λ{b o es ep} e d=>by
   cases q:H b with
   |none=>rfl
   |some u=>
    let e':b=a:=hA b (by rw[q];simp);subst e';rw[ha]at e;cases e;let d':Data.seq vs.toArray _=Data.dict es ep:=d;cases d'
  let nsK:∀{b:ai}{m:am->ag ah},s₁.heap.Ns b m->(oz s₁.heap H).Ns b m:=λ{b m} ⟨o,es,ep,e,d,r⟩=>⟨o,es,ep,base_of e<|noA e d,d,r⟩;let hKb:K.In<|oz s₁.heap H:=λb o e=>base_of (KX b o e) (by
   cases q:H b with
   |none=>rfl
   |some u=>
    let e':b=a:=hA b (by rw[q];simp);subst e';rw[hK (by rw[q];simp)]at e;cases e)
  let hM:Mod K mg<|oz s₁.heap H:=⟨hKb,nsK hns,⟨mb,nsK hb,hbb⟩,let ⟨mc,h1,h2⟩:=yV;⟨mc,nsK h1,h2⟩⟩;let e0:iL P w K mg (oz s₁.heap H) callerA [] s₁ H:=⟨Z,hM,λb o e=>mP e,Nat.le_of_eq<|YMI _ _,trivial,λb hb=>absurd (show b∈([]:ac ai) from hb) (by simp),hok,.of_eq hg⟩;show codeAny_mono ((F _ hKb<|nsK hns).run callerA [] s₁ H ⟨[.ref a],[]⟩ [.ref a] [.ref a] _ _ hr e0 (uW s₁<|.ref a) (.cons Z .nil)<|hsp H hO hS) λr s' h=>?_;cases r with
  |error e=>show(hCX H e s' h).elim
  |ok fl=>
   cases fl with
   |next=>show False.elim h
   |brk=>show False.elim h
   |cont=>show False.elim h
   |ret u=>
    let⟨v,H',os,bare,un,hok',r',q⟩:=h;let q':v=.bl Â:=q;subst q';obtain rfl:u=Value.bool Â:=r';show⟨Z,OldK.of_keep λb o e=>?_,os,bare⟩;cases q:H b with
    |none=>show un.keep b o e q (by intro z;show absurd (show b∈([]:ac ai) from z) (by simp)) (by simp)
    |some u=>
     rcases hO b with z|⟨ob,xs,z⟩
     rw[q]at z;cases z;let z2:=un.frzs b ob _ z;let⟨e1,_⟩:=hok b _ z;let⟨e2,_⟩:=hok' b _ z2;rw[e]at e1;cases e1;show e2
 cases hk:K.lookup a with
 |some o=>
  let e:=KX a o hk;rw[ha]at e;cases e;show core (λ_=>Á) (λ_=>.inl Z) (.inr ⟨_,vs.toArray,_,hk,Z,Z,Z,by rw[Ô,lenV];show hl,by simpa using rv⟩) (λb u z=>by have z':(Á:ag HO)=À u:=z;cases z') (λb z=>absurd Z z) λz=>absurd Z z
 |none=>
  show core (λb=>if b=a then À (.frz { cls:=.type "list",data:=.seq vs.toArray }<|.lst<|ns.map V.int) else Á) (λb=>?_) (.inl<|.inr ⟨{ cls:=.type "list",data:=.seq vs.toArray },if_pos rfl⟩) (λb u z=>?_) (λb z=>?_) λ_=>hk;by_cases hb:b=a;show .inr ⟨_,_,if_pos hb⟩;show .inl<|if_neg hb;by_cases hb:b=a;let z':=(if_pos hb).symm.trans z;cases z';subst hb;show⟨ha,by rw[Ä];show hl,vs,_,rv,ha⟩;let z':=(if_neg hb).symm.trans z;cases z';by_cases hb:b=a;show hb;show absurd (if_neg hb) z
def walk_of{l:W.OpenLaw}{n k:Nat}{q:Program}{loose:ac am}{XP:(am->ag ah)->Heap->Prop}{YP:World->Heap->Prop}{d:DefRec}{K:Params->W.Frag}{CX:World->gz}{sp:World->Sp}{x:am}
  (hn:l.most=À n)(hn2:n<=sizeLine)(hdf:d.params.defaults=[])(hr:JR k callerA)
  (hY:∀(w:World) (h:Heap),YP w h->(K w.params).In h)
  (F:∀(w:World) (mg:am->ag ah) (fa:ai) (h:Heap),(K w.params).In h->h.Ns mainGlobals mg->mg d.name=À (.ref fa)->
   ∃fd:FuncData,(∀(s:al) (u:ah),BindsTo s fd ⟨[u],[]⟩ [(x,u)])/\
    ∀base:Heap,(K w.params).In base->base.Ns mainGlobals mg->f_ l.prog w (K w.params) mg base (CX w) k fa fd [x] (sp w))
  (hsp:∀(w:World) (H:Hp) (a:ai) (ns:ac Int),ns.length<=n->kH H->bG (K w.params) H a (ns.map V.int)->sp w [.ref a] H (λv _=>v=.bl Â) λ_ _ _=>False)
  (hCX:∀(w:World) (H:Hp) (s:al) (e:ah) (s':al),CX w [] H s (λ_ _ _=>False) e s'->False):
  W.WalkO q loose XP YP l.row.toRowW d [] (λf vs=>PySem.call f vs):=by
 show Att.YIV hn hdf λw s₀ s₁ mg mb fa o pm cd doc a vs ns G Y ho hd hcd uV sJ nM hlen hg=>?_;let KX:=hY w _ Y;let⟨fd,hb,hF⟩:=F w mg fa _ KX G.T.g uV;show YNW KX G.T.g G.T.b G.T.builtins G.T.nolimit hg sJ nM (Ú hlen hn2) hr hF hb (λH hO hS=>hsp w H a ns hlen hO hS) λH e s'=>hCX w H s₁ e s'
@[ext]def Ym(s:Stmt)(j:Nat):Stmt:=match s with
 |.ClassDef _ _ _ body _ _ _ _ _ _ _=>body.getD j<|.Pass ⟨0,0,0,0⟩
 |_=>.Pass ⟨0,0,0,0⟩
@[ext]def JU(s:Stmt):Arguments:=match s with
 |.FunctionDef _ a _ _ _ _ _ _ _ _=>a
 |_=>{ posonlyargs:=[],args:=[],vararg:=Á,kwonlyargs:=[],kw_defaults:=[],kwarg:=Á,defaults:=[] }
@[ext]def Zm(s:Stmt):ac Stmt:=match s with
 |.FunctionDef _ _ b _ _ _ _ _ _ _=>b
 |_=>[]
@[ext]def YH(s:Stmt):Scope:=match s with
 |.FunctionDef _ _ _ _ _ _ sc _ _ _=>sc
 |_=>{ kind:=.function,names:=[],isGenerator:=false,isCoroutine:=false }
noncomputable abbrev cj:gz:=λ_ _ _ _ _ _=>False
noncomputable abbrev E0:XK:=λ_ _ _=>False
def YO:XR cj X E0:=λ_ _ _ _ _ _ _ h=>h.elim
structure kx(K:W.Frag)(x qual:Str)(st:Stmt)(f:Addr)(fd:FuncData):Prop where
 ex:∃(oc:Value) (od:Option Addr) (kV doc pm:Value) (an:Option Addr) (dB ct:Value) (osl:Array<|Option Value),
  fd=W.fnOf x qual (JU st) (Zm st) (YH st) .none kV doc pm an dB ct/\K.lookup f=À ⟨oc,od,.func fd,osl⟩/\W.codeIn K dB qual=Â
 kp:W.keepIn K (.ref f)=Â
section
variable {P:Program}{w:World}{K:W.Frag}{mg:am->ag ah}{base:Heap}
def kx.ok{x qual:am}{st:Stmt}{f:ai}{fd:FuncData}{N ps:ac am}{k:Nat}{sp:Sp}(F:kx K x qual st f fd)(DX:YJ N ps<|YH st)(len:∀vs H Q E,sp vs H Q E->vs.length=ps.length)
  (hbody:∀(dB:ah) (A:Around) (outer:ac Env) (s:al) (H:Hp) (vs:ac V) (Q:VK) (E:XK),JR k (A.deeper<|envOfC qual (YH st) s.heap.objs.size f dB)->sp vs H Q E->
   ∃t,gp (iE cj P w K mg base N qual (YH st) f dB A outer s H E).nox (Zm st) t/\t { nx:=λ_ H'=>Q .non H',rt:=Q } (start N vs) H):f_ P w K mg base cj (k+1) f fd ps sp:=by
 let⟨oc,od,kV,doc,pm,an,dB,ct,osl,Z,lk,hcd⟩:=F.ex;show sx lk hcd DX len λA outer s H vs Q E hr hsp=>?_;let⟨t,h,q⟩:=hbody dB A outer s H vs Q E hr hsp;show⟨t,h.nox,q⟩
def kx.binds{x qual:am}{st:Stmt}{f:ai}{fd:FuncData}{ps:ac am}(F:kx K x qual st f fd)
  (h:∀(kV doc pm:ah) (an:ag ai) (dB ct:ah) (us:ac ah),us.length=ps.length->bindArgs (W.fnOf x qual (JU st) (Zm st) (YH st) .none kV doc pm an dB ct) ⟨us,[]⟩=pure (ps.zip us)):jv K fd ps []:=by
 let⟨oc,od,kV,doc,pm,an,dB,ct,osl,Z,lk,hcd⟩:=F.ex;show .all<|h kV doc pm an dB ct
def YNX{x qual:am}{st:Stmt}{f:ai}{oc:ah}{od an:ag ai}{osl:Array (ag ah)}{kV doc pm dB ct:ah}(l:K.lookup f=À ⟨oc,od,.func<|W.fnOf x qual (JU st) (Zm st) (YH st) .none kV doc pm an dB ct,osl⟩)
  (c:W.codeIn K dB qual=Â)(k:W.keepIn K (.ref f)=Â):kx K x qual st f<|W.fnOf x qual (JU st) (Zm st) (YH st) .none kV doc pm an dB ct:=⟨⟨oc,od,kV,doc,pm,an,dB,ct,osl,Z,l,c⟩,k⟩
end
def Zd(hr:JR k A):A.units+1<cLine:=Nat.lt_of_le_of_lt (Nat.add_le_add_left (by decide:1<=64) _) hr.units
section
variable {X:Cx}
def J(i:Nat)(hN:X.N[i]?=À x:=by rfl)(hv:CC X.env.scope x:=by first|show Or.inl rfl|show Or.inr (Or.inl rfl)|show Or.inr (Or.inr rfl))(hd:(x==("__debug__":am))=Ã:=by decide)
  (hcd:(x==("__classdict__":am))=Ã:=by decide):PE X (.Name x pos)<|lh i:=xj hN hv hd hcd
end
def Y5{A DY:Prop}(h:DY):if Ã=Â then A else DY:=by
 rw[if_neg Ù];show h
def Y9{A DY:Prop}(h:A):if Â=Â then A else DY:=by
 rw[if_pos Z];show h
def X4{c A DY:Prop}[Decidable c](h1:c->A)(h2:¬c->DY):if c then A else DY:=by
 by_cases h:c;rw[if_pos h];show h1 h;rw[if_neg h];show h2 h
@[ext]def YG(H H':Hp):Prop:=∀b o,H b=À o->H' b=À o
def YG.refl(H:Hp):YG H H:=λ_ _ h=>h
def YG.trans(a:YG H H1)(b:YG H1 H2):YG H H2:=λc o h=>b c o<|a c o h
def YG.free(e:YG H H')(h:H' l=Option.none):H l=Option.none:=by
 cases q:H l with
 |none=>rfl
 |some o=>
  rw[e l o q]at h;cases h
def YG.seq{K:W.Frag}{H H':Hp}{a:ai}{xs:ac V}(e:YG H H')(h:bG K H a xs):bG K H' a xs:=by
 rcases h with (h|⟨o,h⟩)|h
 show .inl<|.inl<|e _ _ h;show .inl<|.inr ⟨o,e _ _ h⟩;show .inr h
end L2
set_option maxHeartbeats 4000000
namespace L2
open PySem PySem.Spec PyProof.Rows
def ZA.at_(x:ZA P w H h a o):∃u,h.get? a=À u:=by
 cases o with
 |lst xs=>let⟨_,_,_,_,e⟩:=x;show⟨_,e⟩
 |tup xs=>let⟨_,_,_,o,e,_⟩:=x;show⟨_,e⟩
 |dK kvs=>let⟨_,_,_,_,o,_,_,e,_⟩:=x;show⟨_,e⟩
 |dT kvs=>let⟨_,_,_,_,o,_,_,e,_⟩:=x;show⟨_,e⟩
 |set DX n=>let⟨o,_,_,_,e,_⟩:=x;show⟨_,e⟩
 |ins C B fs=>let⟨_,_,_,e,_⟩:=x;show⟨_,e⟩
 |own y=>let⟨o,e⟩:=x;show⟨_,e⟩
 |xd fs=>let⟨_,⟨o,_,_,e,_⟩,_⟩:=x;show⟨_,e⟩
 |rng lo hi=>let⟨_,_,_,e⟩:=x;show⟨_,e⟩
 |frz ob u=>let⟨e,_⟩:=x;show⟨_,e⟩
 |tbl ps=>show⟨_,(show h.get? a=À _ from x)⟩
 |met f y=>show⟨_,(show h.get? a=À _ from x)⟩
 |ext φ=>let⟨_,e,_⟩:=x;show e
structure Fly(P:Program)(w:World)(l:List Env)(H:Hp)(s:Shared)(e:Addr)(cls:Value)(H':Hp)(s':Shared):Prop where
 os:s'.os=s.os
 bare:AllBare s'.gens
 un:Un (fx l) [] H H' s.heap s'.heap
 hok:fB P w H' s'.heap
 new:H' e=Á
 fly:∃DY a0,Heap.FlyingW DY l e cls a0 s'.heap/\(∀b u,H' b=À u->∃o,DY.get? b=À o)/\∀b o,s.heap.get? b=À o->b∉fx l->∃o',DY.get? b=À o'
@[ext]def fe(P:Program)(w:World):gz:=λl H s E ev s'=>∃e cls H',ev=.ref e/\Fly P w l H s e cls H' s'/\E cls Á H'
def ό{fs:ac ai}{H H':Hp}{h h' h'' DY:Heap}(un:Un fs [] H H' h h')(sB:DY.StaysIn h')(sB':DY.StaysIn h'')(up:h'.UpToSlots h'')
  (fr:∀b∈fs,∃o,h'.get? b=À o/\∀vs,o.data≠.fields vs)(old:∀b o,h.get? b=À o->b∉fs->∃o',DY.get? b=À o'):Un fs [] H H' h h'' where
 keep:=λb o q n hb S=>by
  let e1:=un.keep b o q n hb S;let⟨o',eB⟩:=old b o q hb;let e2:=sB b o' eB;rw[e1]at e2;cases e2;show sB' b o eB
 slot:=λb o q n hb S=>by
  let⟨sl,e1⟩:=un.slot b o q n hb S;let⟨o',e2,nf⟩:=fr b hb;rw[e1]at e2;cases e2;let⟨qO,e3⟩:=up b _ e1 nf;show⟨qO,e3⟩
 free:=un.free
 there:=λb o q S=>by
  by_cases hb:b∈fs;let⟨o',e2,nf⟩:=fr b hb;let⟨qO,e3⟩:=up b _ e2 nf;show⟨_,e3⟩;let⟨o',eB⟩:=old b o q hb;show⟨o',sB' b o' eB⟩
 tups:=un.tups
 frzs:=un.frzs
 tbls:=un.tbls
def ο{P:Program}{w:World}{H:Hp}{h h' DY:Heap}(ok:fB P w H h)(sB:DY.StaysIn h)(sB':DY.StaysIn h')(tr:∀b u,H b=À u->∃o,DY.get? b=À o):fB P w H h':=λa o ea=>
 (ok a o ea).stay (λb u hb eb=>by
  let tb:∃v,H b=À v:=hb.elim (λz=>⟨o,by rw[z];show ea⟩) λz=>⟨_,z⟩;let⟨v,hv⟩:=tb;let⟨o',eB⟩:=tr b v hv;let e2:=sB b o' eB;rw[eb]at e2;cases e2;show sB' b u eB) (λ_ z=>z) λ_ _ z=>z
def YNY{fs lN:ac ai}(a:Un fs [] H H1 h h1)(b:Un lN [] H1 H2 h1 h2)(sub:∀x∈lN,x=DZ\/x∈fs)(sup:∀x∈fs,x∈lN)(hL:h.objs.size<=DZ):Un fs [] H H2 h h2:=by
 let nL:∀c o,h.get? c=À o->c≠DZ:=λc o q z=>absurd (Í q) (by rw[z];show Nat.not_lt.mpr hL);let no:∀c o,h.get? c=À o->c∉fs->c∉lN:=λc o q n z=>(sub c z).elim (nL c o q) n;show⟨λc o q n hc S=>b.keep c o (a.keep c o q n hc S) (a.free c o q n S) (no c o q hc) S,
  λc o q n hc S=>by
   let⟨sl,e1⟩:=a.slot c o q n hc S;let⟨qO,e2⟩:=b.slot c _ e1 (a.free c o q n S) (sup c hc) S;show⟨qO,e2⟩,
  λc o q n S=>by
   let⟨o',e1⟩:=a.there c o q S;show b.free c o' e1 (a.free c o q n S) S,
  λc o q S=>by
   let⟨o',e1⟩:=a.there c o q S;show b.there c o' e1 S,
  λc xs q=>b.tups c xs<|a.tups c xs q,λc ob xs q=>b.frzs c ob xs<|a.frzs c ob xs q,
  λc ps q=>by
   let⟨m1,e1⟩:=a.tbls c ps q;let⟨m2,e2⟩:=b.tbls c _ e1;show⟨m1++m2,by rw[e2,Array.append_assoc]⟩⟩
structure Cq(X:Cx)(E:XK):Prop where
 made:∀(O:List<|Addr×Obj) (σ:St) (H:Hp) (s:Shared) (e:Addr) (cls:Value) (args:List Value) (h':Heap),aX X O σ H s->Heap.MadeExcOf s.heap h' e cls args->E cls Á H->X.xe (.ref e) { s with heap:=h' }
 on:XR (fe X.prog X.w) X E
def YMW(I:aX X O σ H s):
  (W.hideAll s.heap<|fx X.stack).StaysIn s.heap/\s.heap.FunFrames (W.hideAll s.heap<|fx X.stack) X.stack/\(∀b o,s.heap.get? b=À o->b∉fx X.stack->(W.hideAll s.heap<|fx X.stack).get? b=À o)/\
   ∀b u,H b=À u->∃o,(W.hideAll s.heap<|fx X.stack).get? b=À o:=by
 show⟨λb o q=>W.of_hideAll _ q,W.funFrames_hide I.stack λenv he b hb=>YQc.mpr ⟨env,he,hb⟩,λb o q hb=>W.hideAll_get _ q hb,λb u q=>?_⟩;let⟨o,ho⟩:=(I.hok b u q).at_;show⟨o,W.hideAll_get _ ho λz=>by rw[I.stkFree b z]at q;cases q⟩
def Yy{P:Program}{w:World}{K:W.Frag}{mg:am->ag ah}{base:Heap}{N:ac am}{qual:am}{scope:Scope}{f:ai}{cd:ah}{A:Around}{outer:ac Env}{s:al}{H:Hp}{E:XK}:
  Cq (iE (fe P w) P w K mg base N qual scope f cd A outer s H E) E where
 made:=by
  intro O σ H1 s1 e cls args h' I S hE;let⟨sB,ff,dX,tr⟩:=YMW I;change wpAny _ _ (leaving _<|.ref e) _ _ _;show wpAny_leaves_madeW (base:=W.hideAll s1.heap<|fx (iE (fe P w) P w K mg base N qual scope f cd A outer s H E).stack) (h:=s1.heap) I.ok.frames Z sB ff S λh'' t x1 x2 x3 x4=>?_;let sB1:(W.hideAll s1.heap<|fx (iE (fe P w) P w K mg base N qual scope f cd A outer s H E).stack).StaysIn h':=λb o q=>S.keeps b o<|sB b o q;let uX:Un (fx outer) [] H H1 s.heap s1.heap:=I.base;let old:∀b o,s.heap.get? b=À o->b∉fx outer->∃o',(W.hideAll s1.heap<|fx (iE (fe P w) P w K mg base N qual scope f cd A outer s H E).stack).get? b=À o':=λb o q hb=>by
   let⟨o',e1⟩:=uX.there b o q (by simp);show⟨o',dX b o' e1 λz=>?_⟩;rcases YO9.mp (I.stkSub b z) with z|z
   show absurd (Í q) (by rw[z];show ó _);show hb z
  let fr:∀b∈fx outer,∃o,h'.get? b=À o/\∀vs,o.data≠.fields vs:=λb hb=>by
   let⟨_,o,ho,nf⟩:=I.funs.mem hb;show⟨o,S.keeps b o ho,nf⟩
  show⟨e,cls,H1,Z,⟨I.os,I.bare,ό (uX.trans<|Un.kept S.keeps) sB1 x1.1 x4 fr old,ο (I.hok.kept S.keeps) sB1 x1.1 tr,?_,_,_,x1,tr,old⟩,hE⟩;cases q:H1 e with
  |none=>rfl
  |some u=>
   let⟨o,ho⟩:=(I.hok e u q).at_;rw[S.new]at ho;cases ho
 on:=by
  intro O σ H1 s1 ev s' I uY;let⟨e,cls,H',Z,F,hE⟩:=uY;let⟨DY,a0,fl,tr,old⟩:=F.fly;change wpAny _ _ (leaving _<|.ref e) _ _ _;show wpAny_leaves_onW I.ok.frames Z fl λh'' x1 x4=>?_;let uX:Un (fx outer) [] H H1 s.heap s1.heap:=I.base;let sub:∀x∈fx (iE (fe P w) P w K mg base N qual scope f cd A outer s H E).stack,x=s.heap.objs.size\/x∈fx outer:=λx S=>YO9.mp<|I.stkSub x S;let sup:∀x∈fx outer,x∈fx (iE (fe P w) P w K mg base N qual scope f cd A outer s H E).stack:=λx S=>Ç _ S;let WQ:Un (fx outer) [] H H' s.heap s'.heap:=YNY uX F.un sub sup<|Å _;let uZ:∀b o,s.heap.get? b=À o->b∉fx outer->∃o',DY.get? b=À o':=λb o q hb=>by
   let⟨o',e1⟩:=uX.there b o q (by simp);show old b o' e1 λz=>?_;rcases sub b z with z|z
   show absurd (Í q) (by rw[z];show ó _);show hb z
  let fr:∀b∈fx outer,∃o,s'.heap.get? b=À o/\∀vs,o.data≠.fields vs:=λb hb=>by
   let⟨_,o,ho,nf⟩:=fl.2.2.1.mem<|sup b hb;show⟨o,ho,nf⟩
  show⟨e,cls,H',Z,⟨F.os.trans I.os,F.bare,ό WQ fl.1 x1.1 x4 fr uZ,ο F.hok fl.1 x1.1 tr,F.new,DY,a0,x1,tr,uZ⟩,hE⟩
noncomputable abbrev bmV:ac ah:=[.type "ValueError",.type "Exception",.type "BaseException",.type "object"]
noncomputable abbrev newV:String:="ValueError.__new__"
@[ext]def BD(K:W.Frag)(C:ai):Prop:=W.excIn K C bmV newV=Â
def pw{K:W.Frag}{h:Heap}{C:ai}{bmB:ac ah}{newId:String}(X:K.In h)(q:W.excIn K C bmB newId=Â):
  ∃bm N nm qn bs hdct sn sub ab col dd k0 k1 k2 k3 k5 mN,h.get? C=À (excClassObj nm qn C N bs bm hdct sn sub ab col dd k0 k1 k2 k3 k5 newId)/\h.Ns N mN/\mN "__init__"=Á/\OwnTail h bmB bm:=by
 unfold W.excIn at q;split at q;rename_i dd cd sl ho;split at q;rename_i C' bm k0 k1 k2 k3 n k5 hm hs;simp only[Ó,beq_iff_eq,Bool.not_eq_true']at q;let⟨⟨⟨⟨⟨Z,Z⟩,hdel⟩,ht⟩,hok⟩,hni⟩:=q;let⟨nm,bs,mro,ns,qn,hd,sn,sub,ab,col,del⟩:=cd;dsimp only at hm hdel hok hni;subst hm hdel;let hsl:sl=#[k0,k1,k2,k3,À<|.builtin n,k5]:=by
  let⟨l⟩:=sl;simp only at hs;rw[hs]
 subst hsl;show⟨bm,ns,nm,qn,bs,hd,sn,sub,ab,col,dd,k0,k1,k2,k3,k5,_,X _ _ ho,.of_isNs<|W.isNs_of_in X hok,W.nsMap_none_of_in X hok hni,W.tail_of_in X ht⟩;cases q;cases q
section
variable {X:Cx}{E:XK}{x:am}{C:ai}{e:Expr}{t:TA}{np bh pos:Pos}
@[ext]def YNZ(C:ai)(E:XK)(t:TA):TS:=λ_ σ H=>t σ H λvs H1=>vs.length<=sizeLine/\E (.ref C) Á H1
def JM(DX:Cq X E)(hq:BD X.K C)(hc:X.calm=Â)(hg:Gl X x)(hm:X.mg x=À (.ref C))(ha:PA X [e] t)(hd:(x==("__debug__":am))=Ã:=by decide)
  (he:starEach [e] X.env=(Ã,eval e X.env)::starEach [] X.env:=by rfl)(jn:(backTo bh<|starEach [] X.env).any (·.1)=Ã:=by rfl):
  PS X (.Raise (À<|.Call (.Name x np) [e] [] bh) Á pos) (YNZ C E t):=by
 intro O s σ H D I h;let⟨tl,N,nm,q,bs,hdct,sn,sub,ab,col,dd,k0,k1,k2,k3,k5,mN,hC,hN,hni,T⟩:=pw I.mod.kin hq;show wpAny_Raise_call_subT (C:=C) (nm:=nm) (q:=q) (N:=N) (bs:=bs) (bm:=tl) (hdct:=hdct) (sn:=sn) (sub:=sub) (ab:=ab) (col:=col) (dd:=dd) (k0:=k0) (k1:=k1) (k2:=k2) (k3:=k3) (k5:=k5)
  PySem.F.excBase_ValueError (mN:=mN) (T.hasType PySem.F.excBase_ValueError.hasBase) (I.ok.hd hc) (by rw[he];change(Ã || (backTo bh (starEach [] X.env)).any (·.1))=Ã;rw[jn];rfl) hni (xH I hg hm ⟨Z,?_⟩ hd)
 let hA:=ha bh O s σ H _ I h;rw[he]at hA ⊢;show Calls.evalArgs_plain<|cy hA λus s2 ⟨vs,H2,I2,r,hz,hE⟩=>⟨Z,by rw[<-r.length];show hz,I2.bk _ _ hC,hN.keeps I2.bk,T.keeps I2.bk,λh' e t_=>?_⟩;show DX.made O σ H2 s2 e _ _ h' I2 t_ hE
end
@[ext]def XP(X:Cx)(O:ac<|ai×Obj)(σ:St)(E:XK)(ev:ah)(s':al):Prop:=∃(e:ai) (cls:ah) (H':Hp) (DY:Heap) (a0:ah),ev=.ref e/\aX X O σ H' s'/\Heap.FlyingW DY X.stack e cls a0 s'.heap/\H' e=Á/\
 (∀b u,H' b=À u->∃o,DY.get? b=À o)/\(∀b o,X.s₀.heap.get? b=À o->b∉fx X.stack->b∉X.ex->∃o',DY.get? b=À o')/\(∀p∈X.pn++O,∃o',DY.get? p.1=À o')/\E cls Á H'
section
variable {X:Cx}{O:ac (ai×Obj)}{σ:St}{H:Hp}{s s':al}{E:XK}
def aX.notStk(I:aX X O σ H s)(h1:b≠X.env.locals)(h2:b∉X.fs):b∉fx X.stack:=λhb=>(YO9.mp<|I.stkSub b hb).elim h1 h2
def Dy(I:aX X O σ H s)(uY:fe X.prog X.w X.stack H s E ev s'):XP X O σ E ev s':=by
 let⟨e,cls,H',Z,F,hE⟩:=uY;let⟨DY,a0,fl,tr,old⟩:=F.fly;show⟨e,cls,H',DY,a0,Z,I.call' (ch:=[]) F.os F.un F.hok F.bare<|λb z=>absurd z (by simp),fl,F.new,tr,λb o q hb S=>?_,λp hp=>?_,hE⟩;let⟨o',e1⟩:=I.base.there b o q S;show old b o' e1 hb;let⟨p1,_,p3,p4,_⟩:=I.pin p hp;show old _ _ p1<|I.notStk p3 p4
def aX.moved{DY h':Heap}(I:aX X O σ H s)(hex:X.ex=[])(sB:DY.StaysIn s.heap)(sB':DY.StaysIn h')(up:s.heap.UpToSlots h')(tr:∀b u,H b=À u->∃o,DY.get? b=À o)
  (old:∀b o,X.s₀.heap.get? b=À o->b∉fx X.stack->b∉X.ex->∃o',DY.get? b=À o')(pn:∀p∈X.pn++O,∃o',DY.get? p.1=À o'):aX X O σ H { s with heap:=h' }:=by
 let cells:∀c v,s.heap.IsCell c v->h'.IsCell c v:=λc v ⟨o,ho,hd⟩=>by
  let⟨sl,e1⟩:=up c o ho λvs z=>by rw[hd]at z;cases z
  show⟨_,e1,hd⟩
 let⟨m,hn,hl⟩:=I.loc;show⟨I.ok,I.os,I.bare,?_,⟨m,up.ns hn,λi x v h1 h2 h3=>?_⟩,λx c h1=>?_,I.free,I.freeC,λp hp=>?_,ο I.hok sB sB' tr,I.len⟩;let hb:=I.base;rw[hex]at hb ⊢;show ό hb sB sB' up (λb hb=>?_) λb o q hb=>old b o q (I.notStk (λz=>?_) hb) (by rw[hex];simp);let⟨_,o,ho,nf⟩:=I.funs.mem hb;show⟨o,ho,nf⟩;show absurd (Í q) (by rw[z];show Nat.not_lt.mpr I.ok.above);let⟨u,ru,lk⟩:=hl i x v h1 h2 h3;show⟨u,ru,lk.elim .inl λ⟨k,c,hc,gU⟩=>.inr ⟨k,c,hc,cells c _ gU⟩⟩;let⟨v,hv⟩:=I.cell x c h1;show⟨v,cells c v hv⟩;let⟨p1,p2⟩:=I.pin p hp;let⟨o',eB⟩:=pn p hp;let e2:=sB _ _ eB;rw[p1]at e2;cases e2;show⟨sB' _ _ eB,p2⟩
end
@[ext]def ő(X:Cx)(e:Expr)(t:St->Hp->VK->XK->Prop):Prop:=
 ∀(O:ac<|ai×Obj) (s:al) (σ:St) (H:Hp) (Q:VK) (E:XK),aX X O σ H s->t σ H Q E->wpAny (model X.prog X.w) X.A (eval e X.env) (EP X O σ Q) (XP X O σ E) s
@[ext]def ϓ(X:Cx)(st:Stmt)(t:Jg->(St->XK)->St->Hp->Prop):Prop:=
 ∀(O:ac<|ai×Obj) (s:al) (σ:St) (H:Hp) (D:Jg) (E:St->XK),aX X O σ H s->t D E σ H->wpAny (model X.prog X.w) X.A (exec st X.env) (SP X O D) (λev s'=>∃σ',XP X O σ' (E σ') ev s') s
@[ext]def Cu(X:Cx)(sts:ac Stmt)(t:Jg->(St->XK)->St->Hp->Prop):Prop:=
 ∀(O:ac<|ai×Obj) (s:al) (σ:St) (H:Hp) (D:Jg) (E:St->XK),aX X O σ H s->t D E σ H->wpAny (model X.prog X.w) X.A (execs sts X.env) (SP X O D) (λev s'=>∃σ',XP X O σ' (E σ') ev s') s
section
variable {X:Cx}{k:Nat}{f:ai}{fd:FuncData}{ps:ac am}{sp:Sp}{g8:ac V}{ds:ac ah}{x:am}{p pos:Pos}{e:Expr}{es:ac Expr}{t:TA}
@[ext]def YNa(sp:Sp)(g8:ac V)(t:TA):St->Hp->VK->XK->Prop:=λσ H Q E=>t σ H λvs H1=>sp (vs++g8) H1 Q E
def YNb(F:f_ X.prog X.w X.K X.mg X.base (fe X.prog X.w) k f fd ps sp)(hr:JR k X.A)(hg:Gl X x)(hm:X.mg x=À (.ref f))(hk:W.keepIn X.K (.ref f)=Â)(hb:jv X.K fd ps ds)(hd:Yo g8 ds)
  (ha:PA X.nox (e::es) t)(hdb:(x==("__debug__":am))=Ã:=by decide)(he:starEach (e::es) X.env=(Ã,eval e X.env)::starEach es X.env:=by rfl)(hpl:(backTo pos<|starEach es X.env).any (·.1)=Ã:=by rfl):
  ő X (.Call (.Name x p) (e::es) [] pos) (YNa sp g8 t):=by
 intro O s σ H Q E I h;show wpAny_Call_Name_kw<|xH I hg hm ?_ hdb;show W.callWith_K (h₀:=X.base) I.ok.mod.kin hk (wpAny_mono (ha pos O s σ H _ (I.wish _) h) (λus s1 ⟨vs,H1,I1,r,q⟩=>⟨I1.unwish.kIn,?_⟩) λ_ _ z=>z.elim) he hpl;let I1':aX X O σ H1 s1:=I1.unwish;let r2:Yo (vs++g8)<|us++ds:=r.append hd;let hl:(us++ds).length=ps.length:=by rw[<-r2.length];show F.len _ _ _ _ q
 show wpAny_call<|codeAny_mono (F.run X.A X.stack s1 H1 ⟨us,[]⟩ (us++ds) (vs++g8) Q E hr I1'.env0 (hb s1 us I1'.kIn hl) r2 q) λr s' hq=>?_;cases r with
 |error ev=>show Dy I1' hq
 |ok fl=>
  cases fl with
  |ret u=>show I1'.after hq
  |next=>show False.elim hq
  |brk=>show False.elim hq
  |cont=>show False.elim hq
variable {te:St->Hp->VK->XK->Prop}
@[ext]def Dq(i:Nat)(te:St->Hp->VK->XK->Prop):Jg->(St->XK)->St->Hp->Prop:=λD E σ H=>te σ H (λv H1=>D.nx (σ.set i<|some v) H1)<|E σ
def mm(hN:X.N.Nodup)(hi:X.N[i]?=À x)(S:oZ X.env.scope x)(he:ő X e te)(hs:swapsWith e (À<|.Name x gA) pos.line X.env=pure Ã:=by rfl)
  (hf:X.fn x=Â\/X.env.scope.names.lookup x=À .local:=by first|show .inl rfl|show .inr rfl|assumption):ϓ X (.Assign [.Name x gA] e pos)<|Dq i te:=by
 intro O s σ H D E I h;show wpAny_Assign_Name (wpAny_mono (he O s σ H _ _ I h) (λv s1 ⟨y,H1,I1,r1,q1⟩=>?_) λev s1 q=>⟨σ,q⟩) hs;show DQ I1 hN hi S r1 (λs2 I2=>⟨_,H1,I2,q1⟩) hf
def YIW{st:Stmt}{t:Jg->(St->XK)->St->Hp->Prop}(h:ϓ X st t):Cu X [st] t:=by
 intro O s σ H D E I hw;show wpAny_execs_cons<|cy (h O s σ H D E I hw) λf s1 q=>?_;cases f with
 |next=>show wpAny_execs_nil q
 |ret v=>show q
 |brk=>show q
 |cont=>show q
end
noncomputable abbrev Cx.caught(X:Cx)(e:ai):Cx:={ X with A:=X.A.mark (À (.ref e)),calm:=false,xe:=λ_ _=>False }
section
variable {X:Cx}{O:ac (ai×Obj)}{σ:St}{H:Hp}{s:al}
def aX.caught(I:aX X O σ H s)(e:ai):aX (X.caught e) O σ H s:=
 ⟨⟨I.ok.mod,I.ok.kind,I.ok.glob,I.ok.blt,I.ok.above,I.ok.inj,I.ok.has,I.ok.cab,λz=>absurd (show Ã=Â from z) Ù,I.ok.frames,I.ok.stk,I.ok.exf,I.ok.bs,I.ok.bsz,I.ok.noex,I.ok.exfs,I.ok.funs,I.ok.frf⟩,I.os,I.bare,I.base,I.loc,I.cell,I.free,I.freeC,I.pin,I.hok,I.len⟩
def aX.uncaught(ok:X.Ok)(I:aX (X.caught e) O σ H s):aX X O σ H s:=⟨ok,I.os,I.bare,I.base,I.loc,I.cell,I.free,I.freeC,I.pin,I.hok,I.len⟩
end
@[ext]def ϙ(x:am):It:=⟨λi _=>i<x.cps.size,λi H v H'=>H'=H/\∃c,x.cps[i]?=À c/\v=.str ⟨#[c]⟩,λi _=>i=x.cps.size⟩
noncomputable abbrev YKF:ac String:=["enumerate","zip","dict_itemiterator","dict_reverseitemiterator","odict_iterator","itertools.zip_longest","itertools.pairwise"]
def YIX{P:Program}{w:World}{K:W.Frag}{tg:Expr}{ty:String}{x:am}{t:Tok}(it:ai)
  (W:∀A:Around,A.handled=Á->Walks P w A it [it] [it] x.cps.size (SignAt x) (λi h=>h.IsStrIter it ty x t i))
  (hn:YKF.contains ty=Ã)
  (hself:∀(A:Around) (i:Nat) (s:al) (Q E:ah->al->Prop),s.heap.IsStrIter it ty x t i->Q (.ref it) s->wpAny (model P w) A (pyIter<|.ref it) Q E s):
  kR P w K tg (ϙ x) [it] it (λi h=>h.IsStrIter it ty x t i) where
 mem:=by simp
 obj:=λi h st b hb=>by
  let eb:b=it:=by simpa using hb
  subst eb;let⟨o,eo,_,d⟩:=st;show⟨o,eo,λv z=>by rw[d]at z;cases z⟩
 keep:=λi h h' st k=>by
  let⟨o,eo,r⟩:=st;show⟨o,k it (by simp) o eo,r⟩
 item:=by
  intro X hP hw hK hc i O s σ H E I hf st hg;subst hP hw hK;let⟨f0,f1,f2,f3,f4,f5⟩:=hf it (by simp);show(W X.A<|I.ok.hd hc).item i s _ _ hg st λv h' tk hv st' kk=>?_;let⟨c,u,uY,Z⟩:=hv;let I1:aX X O σ H { s with heap:=h',toks:=tk }:=I.turned (λb o hb eo=>kk b o (by simpa using hb) eo) f0 f1 f3 f4 f5;let⟨o,eo,c',d⟩:=id st';show⟨_,Z,Df (s:={ s with heap:=h',toks:=tk }) eo c' d hn ⟨.str ⟨#[c]⟩,H,I1,⟨u,Z⟩,⟨Z,c,uY,Z⟩,st',λb hb=>(hf b hb).1⟩⟩
 done:=by
  intro X hP hw hK hc i O s σ H E I hf st hg;subst hP hw hK;let⟨f0,f1,f2,f3,f4,f5⟩:=hf it (by simp);let ei:i=x.cps.size:=hg;subst ei;show(W X.A<|I.ok.hd hc).done s _ _ st λh' tk kk=>⟨Z,I.turned (λb o hb eo=>kk b o (by simpa using hb) eo) f0 f1 f3 f4 f5⟩
 self:=λA i s Q E st h=>hself A i s Q E st h
section
variable {X:Cx}{tg:Expr}
@[ext]def ϲ(tl:TE):TI:=λσ H R=>tl σ H λv H1=>∃x,v=.str x/\R (ϙ x) H1
def YNc{l:Expr}{tl:TE}(hl:PE X l tl):PI X tg l<|ϲ tl:=by
 intro O s σ H R I h;show cy (hl O s σ H _ I h) λv s1 ⟨y,H1,I1,r1,q1⟩=>?_;let⟨x,Z,q⟩:=q1;let⟨t,Z⟩:=r1;let fp:∀b∈[s1.heap.objs.size],ic X O H1 b:=λb hb=>by
  let eb:b=s1.heap.objs.size:=by simpa using hb
  subst eb;show I1.fpOk (Å _)<|I1.hok.fresh<|Å _
 cases ha:x.cps.all (·<128);show wpAny_pyIter_wide ha ?_;show⟨s1.heap.objs.size,[s1.heap.objs.size],_,_,H1,Z,I1.kept (t':=s1.toks) λb o eo=>Ø _ eo,
  YIX (ty:="str_iterator") (t:=t) _ (λA hA=>Walks.strWide hA _ x t) (by decide) (λ_ _ _ _ _ st hq=>wpAny_pyIter_striter_wide st hq),⟨_,Þ _ Z,Z,Z⟩,fp,q⟩
 show wpAny_pyIter_ascii ha ?_;show⟨s1.heap.objs.size,[s1.heap.objs.size],_,_,H1,Z,I1.kept (t':=s1.toks) λb o eo=>Ø _ eo,
  YIX (ty:="str_ascii_iterator") (t:=t) _ (λA hA=>Walks.strAscii hA _ x t) (by decide) (λ_ _ _ _ _ st hq=>wpAny_pyIter_striter_ascii st hq),⟨_,Þ _ Z,Z,Z⟩,fp,q⟩
end
noncomputable abbrev Zb(X:Cx)(N:ac am)(scope:Scope)(cl:ac<|am×ai)(C:ai)(s₀:al)(H₀:Hp)(ex:ac ai)(pn:ac<|ai×Obj):Cx:=
 { X with N:=N,s₀:=s₀,H₀:=H₀,env:=compEnvC scope cl C X.env,outer:=X.stack,stack:=X.stack,ex:=ex,fn:=λ_=>Ã,pn:=pn,xe:=λ_ _=>False }
@[ext]def BO(X:Cx)(ifs:ac Expr)(t:TT):Prop:=
 ∀(O:ac<|ai×Obj) (s:al) (σ:St) (H:Hp) (Q:Bool->Hp->Prop),aX X O σ H s->t σ H Q->
  wpAny (model X.prog X.w) X.A (forIn ifs Â λc r=>if r=Â then do let ok <-isTrue c X.env (eval c X.env);pure (ForInStep.yield ok) else pure<|ForInStep.yield r) (TP X O σ Q) X.xe s
@[ext]def xX:TT:=λ_ H Q=>Q Â H
def A0:BO X [] xX:=λ_ _ _ H _ I h=>wpAny_tests_nil ⟨H,I,h⟩
def nc(h:PT X c t):BO X [c] t:=λO s σ H Q I hw=>wpAny_tests_one<|h O s σ H Q I hw
@[ext]def kM(ρ:ac<|ag Nat)(σ:St):St:=ρ.map λo=>o.bind λj=>(σ[j]?).bind id
@[ext]def AT(DW:It)(g:TG)(tc:TT)(te:TE)(Q:VK)(l:ai)(τ:St)(H1:Hp):Prop:=
 ∃W:Nat->Nat->ac V->St->Hp->Prop,(∃m,W 0 m [] τ<|upd H1 l<|.lst [])/\∀i m ys τ H2,W i m ys τ H2->
  (DW.stop i H2/\Q (.ref l) H2)\/(DW.go i H2/\∀x H3,DW.yld i H2 x H3->g x τ H3 λτ4 H4=>tc τ4 H4 λb H5=>
   if b=Â then te τ4 H5 λy H6=>H6 l=À (.lst ys)/\ys.length<sizeLine/\∃m',m'<m/\W (i+1) m' (ys++[y]) τ4 (upd H6 l<|.lst<|ys++[y])
   else ∃m',m'<m/\W (i+1) m' ys τ4 H5)
@[ext]def vk(ρ:ac<|ag Nat)(wi:TI)(g:TG)(tc:TT)(te:TE):TE:=λσ H Q=>wi σ H λDW H1=>∀l,H1 l=Á->AT DW g tc te Q l (kM ρ σ) H1
def YGe{R:Result->al->Prop}(Iv:Nat->al->Prop)
  (turn:∀n s,Iv n s->wpAny (model prog w) A (pyNext it) (λr s1=>match r with
   |none=>R (.ok .next) s1
   |some v=>wpAny (model prog w) A (letOwnedTupleGo target it v) (λ_ QC=>wpAny (model prog w) A (assign target env v) (λ_ s2=>
     wpAny (model prog w) A (forIn ifs Â λc r=>if r=Â then do let ok <-isTrue c env (eval c env);pure (ForInStep.yield ok) else pure<|ForInStep.yield r) (λok s3=>
      if ok=Â then wpAny (model prog w) A (eval elt env) (λx s4=>
       wpAny (model prog w) A (call (.builtin "list.append") [acc,x]) (λ_ s5=>∃m,m<n/\Iv m s5) (λ_ _=>False) s4) (λ_ _=>False) s3
      else ∃m,m<n/\Iv m s3) (λ_ _=>False) s2) (λ_ _=>False) QC) (λ_ _=>False) s1) (λ_ _=>False) s)
  (n:Nat) (h:Iv n s):codeAny (model prog w) A (.compLoop (.ListComp elt [⟨target,iter,ifs,0⟩] scope pos) 0 it acc env) R s:=by
 show codeAny_loop Z Iv (λn s hI=>?_) n h;change wpAny _ A ((compTurn (.ListComp elt [⟨target,iter,ifs,0⟩] scope pos) 0 it acc env).onRaise (λx=>do noteFrame x env;theTreesLotGoes x)) _ _ s;show wpAny_noted ?_;rw[compTurn_list];let no:∀{P:ah->al->Prop} (e:ah) (s':al),False->P e s':=λ_ _ z=>z.elim;show Æ<|wpAny_standAt<|Æ<|wpAny_mono (turn n s hI) (λr s1 h1=>?_) no;cases r with
 |none=>show Ì h1
 |some v=>
  show Æ<|wpAny_mono h1 (λ_ QC h1'=>?_) no;show Æ<|wpAny_mono h1' (λ_ s2 h2=>Æ<|wpAny_mono h2 (λok s3 h3=>?_) no) no;cases ok with
  |false=>show Ì ⟨Z,h3⟩
  |true=>show Æ<|Æ<|wpAny_mono h3 (λx s4 h4=>Æ<|wpAny_mono h4 (λ_ s5 h5=>Ì<|Ì ⟨Z,h5⟩) no) no
section
variable {X:Cx}{elt tg iter:Expr}{ifs:ac Expr}{scope:Scope}{cl:ac (am×ai)}{N:ac am}{ρ:ac (ag Nat)}{pos:Pos}{wi:TI}{g:TG}{tc:TT}{te:TE}
structure Zf(X:Cx)(N:List Str)(ρ:List (Option Nat))(scope:Scope)(cl:List (Str×Addr)):Prop where
 clos:closureFor scope X.env=pure cl
 nocell:∀y∈scope.names,y.2≠.cell
 kind:scope.kind=.function
 loc:∀y∈scope.names,y.2=.local->scope.names.lookup y.1=À .local
 sub:∀x c,cl.lookup x=À c->X.env.cells.lookup x=À c
 has:∀x,((relabel scope X.env).names.lookup x=À .cell\/(relabel scope X.env).names.lookup x=À .free)->∃c,cl.lookup x=À c
 len:ρ.length=N.length
 from_:∀(i j:Nat) (x:Str),N[i]?=À x->ρ[i]?=À (À j)->X.N[j]?=À x/\(X.env.kindOf x=À .cell\/X.env.kindOf x=À .free)/\((relabel scope X.env).names.lookup x=À .cell\/(relabel scope X.env).names.lookup x=À .free)
def YNd{ρ:ac (ag Nat)}{σ:St}{i:Nat}{v:V}(h:(kM ρ σ)[i]?=À (À v)):∃j,ρ[i]?=À (À j)/\σ[j]?=À (À v):=by
 unfold kM at h;rw[Ï]at h;cases e:ρ[i]? with
 |none=>rw[e]at h;cases h
 |some o=>
  rw[e]at h;cases o with
  |none=>cases h
  |some j=>
   show⟨j,Z,?_⟩;simp only[Option.map_some,Option.bind_some,Option.some.injEq]at h;cases e2:σ[j]? with
   |none=>rw[e2]at h;cases h
   |some w=>
    rw[e2]at h;let h':w=À v:=h;rw[h']
def YIY{O:ac (ai×Obj)}{σ:St}{H:Hp}{s s':al}{fp:ac ai}{h₁:Heap}(DX:Zf X N ρ scope cl)(I:aX X O σ H s)(hf:∀b∈fp,ic X O H b)
  (DT:∀b∈fp,b<s.heap.objs.size)(hns:h₁.Ns s.heap.objs.size<|λ_=>Á)(pD:∀b o,s.heap.get? b=À o->h₁.get? b=À o)(es:s'={ s with heap:=h₁ }):
  aX (Zb X N scope cl s.heap.objs.size s H fp<|X.pn++O) [] (kM ρ σ) H s':=by
 subst es;let notStk:∀b,b≠X.env.locals->b∉X.fs->b∉fx X.stack:=λb h1 h2 hb=>by
  rcases YO9.mp (I.stkSub b hb) with z|z
  show h1 z;show h2 z
 let hC:X.env.locals≠s.heap.objs.size:=Ü I.lt;show⟨⟨I.ok.mod,DX.kind,I.ok.glob,I.ok.blt,Å _,λx y c h1 h2=>I.ok.inj x y c (DX.sub x c h1)<|DX.sub y c h2,λx S=>DX.has x S,λx c S _=>absurd (show Ã=Â from S) Ù,I.ok.hd,I.ok.frames,.inl Z,
  λb hb=>⟨Ü<|DT b hb,λx c h1=>(hf b hb).2.2.2.2.1 x c (DX.sub x c h1)⟩,I.bs,Ú I.ok.bsz I.sz,λb o eo hb=>?_,λb hb=>notStk b (hf b hb).2.1 (hf b hb).2.2.1,I.stack,I.stkFree⟩,
  rfl,I.bare,Un.kept pD,⟨_,hns,λi x v h1 h2 h3=>?_⟩,λx c h1=>?_,I.hok.fresh<|Å _,λx c h1=>I.freeC x c<|DX.sub x c h1,λp hp=>?_,I.hok.kept pD,?_⟩
 rcases(hf b hb).2.2.2.1 with z|z
 show I.ok.noex b o eo z;show absurd (Í (I.ok.bs b o eo).1)<|Nat.not_lt.mpr z;let⟨j,hj,hv⟩:=YNd h2;let⟨n1,n2,n3⟩:=DX.from_ i j x h1 hj;let⟨m,hn,hl⟩:=I.loc;let vis:CC X.env.scope x:=n2.elim (λz=>.inr<|.inl z) λz=>.inr<|.inr z;let⟨u,ru,lk⟩:=hl j x v n1 hv vis;show⟨u,ru,.inr ⟨n3,?_⟩⟩;rcases lk with ⟨hk,_⟩|⟨_,c,hc,gU⟩
 rcases n2 with z|z
 rw[z]at hk;cases hk;rw[z]at hk;cases hk;let⟨c',hc'⟩:=DX.has x n3;let ec:=DX.sub x c' hc';rw[hc]at ec;cases ec;let⟨o,ho,hd⟩:=gU;show⟨c,hc',o,pD c o ho,hd⟩;let⟨v,o,ho,hd⟩:=I.cell x c<|DX.sub x c h1;show⟨v,o,pD c o ho,hd⟩;let hp':p∈X.pn++O:=by simpa using hp
 let⟨p1,p2,p3,p4,p5⟩:=I.pin p hp';show⟨pD _ _ p1,p2,Ü<|Í p1,notStk _ p3 p4,p5⟩;change(kM ρ σ).length=N.length;unfold kM;rw[Ä];show DX.len
def BH(hc:X.calm=Â)(DX:Zf X N ρ scope cl)(hi:PI X tg iter wi)
  (hg:∀C s₀ H₀ ex pn,PG (Zb X N scope cl C s₀ H₀ ex pn) tg g)(ht:∀C s₀ H₀ ex pn,BO (Zb X N scope cl C s₀ H₀ ex pn) ifs tc)(he:∀C s₀ H₀ ex pn,PE (Zb X N scope cl C s₀ H₀ ex pn) elt te)
  (hs:∀x,foldedSetIterable iter X.env x=pure x:=by intro _;rfl):PE X (.ListComp elt [⟨tg,iter,ifs,0⟩] scope pos)<|vk ρ wi g tc te:=by
 intro O s σ H Q I h;rw[eval_ListComp];show wpAny_comprehension_free (use:=Á) Z hs DX.clos DX.kind DX.loc<|cy (hi O s σ H _ I h) λv s1 h1=>cy h1 λitv s2 h2=>?_;let⟨it,fp,tn,DW,H2,e,I2,T,iV,f2,q2⟩:=h2;subst e;let⟨W,⟨m0,w0⟩,turn⟩:=q2 _<|I2.hok.fresh<|Å _;show wpAny_newObj_type<|wpAny_newFunctionEnv DX.nocell (by intro y hy;simp at hy) (λh₁ hns₁ hsb₁=>?_) DX.kind;dsimp only at hns₁ hsb₁ ⊢;let I3:aX X O σ (upd H2 s2.heap.objs.size<|.lst []) { s2 with heap:=s2.heap.push { cls:=.type "list",dict:=Á,data:=.seq ([]:ac ah).toArray } }:=
  I2.laid (t':=s2.toks) (λb u eo=>Ø _ eo) (Å _) ⟨by simp,[],0,.nil,Þ _ Z⟩
 generalize kj:({ s2 with heap:=s2.heap.push { cls:=.type "list",dict:=Á,data:=.seq ([]:ac ah).toArray } }:al)=s3 at I3;let sO:s2.heap.push { cls:=.type "list",dict:=Á,data:=.seq ([]:ac ah).toArray }=s3.heap:=by rw[<-kj]
 rw[sO]at hns₁ hsb₁ ⊢;let f3:∀b∈fp,ic X O (upd H2 s2.heap.objs.size<|.lst []) b:=λb hb=>by
  let⟨o,eo,_⟩:=T.obj _ _ iV b hb;show⟨by rw[YB<|Ü<|Í eo];show(f2 b hb).1,(f2 b hb).2⟩
 let u0:∀b∈fp,b<s3.heap.objs.size:=λb hb=>by
  let⟨o,eo,_⟩:=T.obj _ _ iV b hb;rw[<-sO,Heap.size_push];show Nat.lt_succ_of_lt<|Í eo
 let old:∀b o,s3.heap.get? b=À o->h₁.get? b=À o:=λb o eo=>hsb₁.extBut b o (Ü<|Í eo)<|Ø _ eo;let Ic:aX (Zb X N scope cl s3.heap.objs.size s3 (upd H2 s2.heap.objs.size<|.lst []) fp<|X.pn++O) [] (kM ρ σ) (upd H2 s2.heap.objs.size<|.lst []) { s2 with heap:=h₁,toks:=s2.toks+([]:ac (am×ah)).length }:=
  YIY DX I3 f3 u0 hns₁ old (by rw[<-kj] <;> rfl)
 let jl:∀{pl:ac (ai×Obj)}{H':Hp},pl=[]->(∀b∈fp,H' b=Á)->∀b∈fp,ic (Zb X N scope cl s3.heap.objs.size s3 (upd H2 s2.heap.objs.size<|.lst []) fp<|X.pn++O) pl H' b:=λ{pl H'} epl hn b hb=>by
  subst epl;show⟨hn b hb,Ü<|u0 b hb,λz=>?_,.inl hb,λx c h1=>(f2 b hb).2.2.2.2.1 x c (DX.sub x c h1),λp hp=>(f2 b hb).2.2.2.2.2 p (by simpa using hp)⟩;rcases YO9.mp (I3.stkSub b z) with z|z
  show(f2 b hb).2.1 z;show(f2 b hb).2.2.1 z
 let km:tn 0 h₁:=T.keep _ _ _ iV λb hb o eo=>old b o (by rw[<-sO];show Ø _ eo);let loop:codeAny (model X.prog X.w) X.A (.compLoop (.ListComp elt [⟨tg,iter,ifs,0⟩] scope pos) 0 (.ref it) (.ref s2.heap.objs.size)<|compEnvC scope cl s3.heap.objs.size X.env)
   (compPost (model X.prog X.w) X.A X.xe Á (EP X O σ Q) (.ref s2.heap.objs.size) s3.heap.objs.size) { s2 with heap:=h₁,toks:=s2.toks+([]:ac (am×ah)).length }:=by
  show YGe (λn s'=>∃i ys τ H',aX (Zb X N scope cl s3.heap.objs.size s3 (upd H2 s2.heap.objs.size<|.lst []) fp<|X.pn++O) [] τ H' s'/\tn i s'.heap/\(∀b∈fp,H' b=Á)/\W i n ys τ H') ?_ m0
   ⟨0,[],_,_,Ic,km,λb hb=>(f3 b hb).1,w0⟩
  rintro n s4 ⟨i,ys,τ,H4,I4,st,u9,w4⟩;rcases turn i n ys τ H4 w4 with ⟨stop,qn⟩|⟨go,step⟩
  ·show cy (T.done (Zb X N scope cl s3.heap.objs.size s3 (upd H2 s2.heap.objs.size<|.lst []) fp<|X.pn++O) Z rfl Z hc i [] s4 τ H4 _ I4 (jl Z u9) st stop) λr s5 ⟨hr,I5⟩=>?_;subst hr;let⟨m5,sS,_⟩:=I5.loc;show⟨m5,sS,λh' hs'=>?_⟩;let ne:∀b,b<s3.heap.objs.size->b≠s3.heap.objs.size:=λb hb=>Ü hb;let nO:∀b o,b≠s3.heap.objs.size->s5.heap.get? b=À o->h'.get? b=À o:=λb o hb eo=>(hs'.2 b hb).trans eo;let un:Un (fx X.stack) fp (upd H2 s2.heap.objs.size<|.lst []) H4 s3.heap h':=
    ⟨λb o eo n1 n2 n3=>nO b o (ne b<|Í eo)<|I5.base.keep b o eo n1 n2 n3,λb o eo n1 n2 n3=>let ⟨sl,z⟩:=I5.base.slot b o eo n1 n2 n3;⟨sl,nO b _ (ne b<|Í eo) z⟩,
     I5.base.free,λb o eo n1=>let ⟨o',z⟩:=I5.base.there b o eo n1;⟨o',nO b _ (ne b<|Í eo) z⟩,I5.base.tups,I5.base.frzs,I5.base.tbls⟩
   let hok:fB X.prog X.w H4 h':=λa o ea=>(I5.hok a o ea).stay (λb u hb eo=>nO b u (λz=>by
    let fr:H4 s3.heap.objs.size=Á:=I5.free;rcases hb with rfl|hb
    rw[z,fr]at ea;cases ea;rw[z,fr]at hb;cases hb) eo) (λ_ z=>z) λ_ _ z=>z
   let I6:aX X O σ H4 { s5 with heap:=h' }:=I3.call' (s':={ s5 with heap:=h' }) (ch:=fp) (show s5.os=s3.os from I5.os) un hok I5.bare λb hb=>(f3 b hb).2.2.2
     |> λz=>⟨(f3 b hb).2.2.2.1,(f3 b hb).2.1,(f3 b hb).2.2.2.2.1,(f3 b hb).2.2.2.2.2⟩
   show⟨.ref s2.heap.objs.size,H4,I6,Z,qn⟩
  show cy (T.item (Zb X N scope cl s3.heap.objs.size s3 (upd H2 s2.heap.objs.size<|.lst []) fp<|X.pn++O) Z rfl Z hc i [] s4 τ H4 _ I4 (jl Z u9) st go) λr s5 ⟨u,hr,h5⟩=>?_;subst hr;show cy h5 ?_;rintro _ s6 ⟨x,H6,I6,r6,y6,lu,yW⟩;let I6':=I6.pinned (jl Z yW)<|T.obj _ _ lu;let again:∀{s9:al}{τ9:St}{H9:Hp}{zs:ac V}{m':Nat},aX (Zb X N scope cl s3.heap.objs.size s3 (upd H2 s2.heap.objs.size<|.lst []) fp<|X.pn++O) ([]++A7 fp s6.heap) τ9 H9 s9->m'<n->W (i+1) m' zs τ9 H9->
    ∃m,m<n/\∃i ys τ H',aX (Zb X N scope cl s3.heap.objs.size s3 (upd H2 s2.heap.objs.size<|.lst []) fp<|X.pn++O) [] τ H' s9/\tn i s9.heap/\(∀b∈fp,H' b=Á)/\W i m ys τ H':=λ{s9 τ9 H9 zs m'} I9 hm w9=>by
   show⟨m',hm,i+1,zs,τ9,H9,I9.unpinned,T.keep _ _ _ lu λb hb o eo=>(I9.pin (b,o)<|Ò _<|Ò _<|Jq hb eo).1,λb hb=>?_,w9⟩;let⟨o,eo,d⟩:=T.obj _ _ lu b hb;show(I9.pin (b,o)<|Ò _<|Ò _<|Jq hb eo).2.1
  show cy (hg _ _ _ _ _ _ s6 τ H6 x u _ I6' r6<|step x H6 y6) λ_ s7 ⟨τ7,H7,I7,q7⟩=>?_;show cy (ht _ _ _ _ _ _ s7 τ7 H7 _ I7 q7) λok s8 ⟨H8,I8,q8⟩=>?_;cases ok with
  |false=>
   rw[if_neg Ù]at q8 ⊢;let⟨m',hm,w9⟩:=q8;show again I8 hm w9
  |true=>
   rw[if_pos Z]at q8 ⊢;show cy (he _ _ _ _ _ _ s8 τ7 H8 _ I8 q8) ?_;rintro y s9 ⟨z,H9,I9,r9,yX,yZ,m',hm,w9⟩;show cy (Ϝ _ s9 τ7 H9 (.ref s2.heap.objs.size) [z] (.ref s2.heap.objs.size) [y] (λ_ H'=>H'=upd H9 s2.heap.objs.size (.lst<|ys++[z])) I9 Z (.cons r9 .nil) ⟨_,ys,z,Z,Z,yX,yZ,Z⟩) λ_ uc ⟨_,H10,I10,_,e10⟩=>?_;subst e10;show again I10 hm w9
 show codeAny_compStart_list loop<|T.self _ 0 _ _ _ km loop
end
def Zf.plain(hk:scope.kind=.function)(hn:∀y∈scope.names,y.2≠.cell/\y.2≠.free)
  (hl:∀y∈scope.names,y.2=.local->scope.names.lookup y.1=À .local)(hlen:ρ.length=N.length)(hρ:∀o∈ρ,o=Á):Zf X N ρ scope []:=by
 let WR:(relabel scope X.env).names=scope.names:=by
  unfold relabel;show map_eq_self λy hy=>?_;let⟨n,k⟩:=y;let hf:(k==NameKind.free)=Ã:=by
   have:=(hn _ hy).2;cases k <;> first|rfl|show absurd rfl this
  change(if (k==NameKind.free&&X.env.scope.kind==.function&&X.env.kindOf n==À .cell)=Â then (n,NameKind.cell) else (n,k))=(n,k);rw[hf];rfl
 show⟨closureFor_none λy hy=>(hn y hy).2,λy hy=>(hn y hy).1,hk,hl,λx c h=>(by cases h),λx h=>?_,hlen,λi j x _ h=>?_⟩;rw[WR]at h;rcases h with h|h
 show absurd Z (hn _<|PySem.mem_of_lookup h).1;show absurd Z (hn _<|PySem.mem_of_lookup h).2;have:=hρ _<|Ð h;cases this
def YIZ(f:Nat->V)(hl:H l=Á)(hτ:0<τ.length)(hz:x.cps.size<=sizeLine)
  (ht:∀(τ':St) (c:Nat) (H':Hp) (R:VK),τ'[0]?=À (À<|.str ⟨#[c]⟩)->c∈x.cps.toList->R (f c) H'->te τ' H' R)(hq:Q (.ref l)<|upd H l<|.lst<|x.cps.toList.map f):
  AT (ϙ x) (Y7 0) xX te Q l τ H:=by
 show⟨λi m ys τ' H2=>m=x.cps.size-i/\i<=x.cps.size/\ys=(x.cps.toList.take i).map f/\0<τ'.length/\H2=upd H l (.lst ys),⟨x.cps.size,by simp,Ë _,by simp,hτ,Z⟩,?_⟩;rintro i m ys τ' H2 ⟨rfl,hi,rfl,hτ',rfl⟩;by_cases DT:i<x.cps.size;show .inr ⟨DT,λv H3 hy=>?_⟩;let⟨eH,c,hc,Z⟩:=hy;subst eH;let hc':x.cps.toList[i]?=À c:=by simpa using hc
 change te _ _ _;show ht _ c _ _ ?_ (Ð hc') ?_;rw[Ĥ hτ'];let gH:(x.cps.toList.take<|i+1).map f=(x.cps.toList.take i).map f++[f c]:=by
  rw[â,hc',Î];rfl
 show⟨YA,?_,x.cps.size-(i+1),by lia,Z,DT,gH.symm,by rw[ċ];show hτ',by rw[YKz]⟩;rw[Ä,ú];have:x.cps.toList.length=x.cps.size:=by simp
 lia;let ei:i=x.cps.size:=by lia
 subst ei;show .inl ⟨Z,?_⟩;have:x.cps.toList.take x.cps.size=x.cps.toList:=by
  apply ĝ;simp
 rw[this];show hq
@[ext]def js(cs:ac<|am×ai):ac (am×NameKind)->ac (am×ai)->ac (am×ai)
 |[],acc=>acc
 |y::r,acc=>js cs r (if y.2==.free then (y.1,(cs.lookup y.1).getD 0)::acc else acc)
def YGf(cs:ac<|am×ai):∀(names:ac<|am×NameKind) (acc:ac<|am×ai),(∀p∈acc,p.2=(cs.lookup p.1).getD 0)->∀p∈js cs names acc,p.2=(cs.lookup p.1).getD 0
 |[],acc,h=>h
 |y::r,acc,h=>by
  unfold js;show YGf cs r _ ?_;split;intro p hp;rcases YO9.mp hp with rfl|hp
  rfl;show h p hp;show h
def YGg(cs:ac<|am×ai):∀(names:ac<|am×NameKind) (acc:ac<|am×ai),∀p∈js cs names acc,p∈acc\/∃y∈names,y.1=p.1/\y.2=.free
 |[],acc,p,hp=>.inl hp
 |y::r,acc,p,hp=>by
  unfold js at hp;rcases YGg cs r _ p hp with h|⟨z,hz,h⟩
  split at h;rename_i hy;rcases YO9.mp h with rfl|h
  show .inr ⟨y,É,Z,?_⟩;cases hk:y.2 <;> rw[hk]at hy <;> first|rfl|cases hy
  show .inl h;show .inl h;show .inr ⟨z,Ç _ hz,h⟩
def YGh(cs:ac<|am×ai):∀(names:ac<|am×NameKind) (acc:ac<|am×ai),∀p∈acc,p∈js cs names acc
 |[],acc,p,hp=>hp
 |y::r,acc,p,hp=>by
  unfold js;show YGh cs r _ p ?_;split;show Ç _ hp;show hp
def YGi(cs:ac<|am×ai):∀(names:ac<|am×NameKind) (acc:ac<|am×ai),∀y∈names,y.2=.free->(y.1,(cs.lookup y.1).getD 0)∈js cs names acc
 |[],acc,y,hy,_=>absurd hy (by simp)
 |z::r,acc,y,hy,hf=>by
  unfold js;rcases YO9.mp hy with rfl|hy
  show YGh cs r _ _ ?_;rw[if_pos (by rw[hf];rfl)];show É;show YGi cs r _ y hy hf
def YCa:∀{l:ac (am×ai)}{x:am}{c:ai},(x,c)∈l->∃d,l.lookup x=À d
 |[],_,_,h=>absurd h (by simp)
 |(n,k)::r,x,c,h=>by
  rw[List.lookup_cons];cases S:x==n with
  |true=>show⟨k,Z⟩
  |false=>
   rcases YO9.mp h with e|h
   cases e;simp at S;show YCa h
def YGB(h:∀y∈scope.names,y.2=.free->∃c,env.cells.lookup y.1=À c):closureFor scope env=pure (js env.cells scope.names []):=by
 let go:∀(names:ac<|am×NameKind) (acc:ac<|am×ai),(∀y∈names,y.2=.free->∃c,env.cells.lookup y.1=À c)->
   (forIn (m:=Sem) names acc (λx r=>if (x.2==NameKind.free)=Â then do let c <-cellOf env x.1;pure (ForInStep.yield<|(x.1,c)::r) else pure<|ForInStep.yield r))=pure (js env.cells names acc):=by
  intro names
  induction names with
  |nil=>intro acc _;rfl
  |cons y r ih=>
   intro acc hy;rw[List.forIn_cons];unfold js;by_cases hf:(y.2==NameKind.free)=Â;let hf':y.2=.free:=by cases hk:y.2 <;> rw[hk]at hf <;> first|rfl|cases hf
   let⟨c,hc⟩:=hy y É hf';let e:cellOf env y.1=pure c:=by unfold cellOf;rw[hc]
   rw[if_pos hf,if_pos hf,e,pure_bind,pure_bind,hc];show ih _ λz hz=>hy z<|Ç _ hz;rw[if_neg hf,if_neg hf,pure_bind];show ih _ λz hz=>hy z<|Ç _ hz
 let h2:=go scope.names [] h;simp only[closureFor];show Eq.trans (fT (· >>= _) ?_) (by rw[pure_bind]);show h2
def YC9(g:am->NameKind->NameKind):∀(l:ac<|am×NameKind) (x:am),(l.map λy=>(y.1,g y.1 y.2)).lookup x=(l.lookup x).map (g x)
 |[],_=>rfl
 |(n,k)::r,x=>by
  rw[Ö,List.lookup_cons,List.lookup_cons];cases S:x==n with
  |true=>
   let e:x=n:=by simpa using S
   subst e;rfl
  |false=>show YC9 g r x
def YBm(scope:Scope)(env:Env)(x:am):(relabel scope env).names.lookup x=(scope.names.lookup x).map λk=>if (k==NameKind.free&&env.scope.kind==.function&&env.kindOf x==À .cell)=Â then .cell else k:=by
 rw[<-YC9 (λn k=>if (k==NameKind.free&&env.scope.kind==.function&&env.kindOf n==À .cell)=Â then .cell else k)];unfold relabel;congr 1;show ý λy _=>?_;let⟨n,k⟩:=y;change(if (k==NameKind.free&&env.scope.kind==.function&&env.kindOf n==À .cell)=Â then (n,NameKind.cell) else (n,k))=_;dsimp only;split <;> rfl
@[ext]def YNe(N:ac am)(ρ:ac<|ag Nat)(XN:ac am)(dn sn:ac<|am×NameKind):Bool:=
 (N.zip ρ).all λp=>match p.2 with
  |none=>Â
  |some j=>decide (XN[j]?=À p.1)&&decide (dn.lookup p.1=À .cell)&&decide (sn.lookup p.1=À .free)
def Zf.closes(XN:ac am)(dn:ac<|am×NameKind)(hXN:X.N=XN)(WT:X.env.scope.names=dn)(hk:scope.kind=.function)(hX:X.env.scope.kind=.function)(hn:∀y∈scope.names,y.2≠.cell)
  (hfree:∀y∈scope.names,y.2=.free->dn.lookup y.1=À .cell)(gU:∀x,X.env.scope.names.lookup x=À .cell->∃c,X.env.cells.lookup x=À c)(hl:∀y∈scope.names,y.2=.local->scope.names.lookup y.1=À .local)(hlen:ρ.length=N.length)
  (mK:YNe N ρ XN dn scope.names=Â):Zf X N ρ scope<|js X.env.cells scope.names []:=by
 subst hXN WT;let kd:∀x,X.env.kindOf x=X.env.scope.names.lookup x:=λ_=>rfl;show⟨YGB λy hy hf=>gU _<|hfree y hy hf,hn,hk,hl,λx c h=>?_,λx h=>?_,hlen,λi j x h1 h2=>?_⟩;let hm:=PySem.mem_of_lookup h;let hv:=YGf X.env.cells scope.names [] (λp hp=>absurd hp (by simp)) _ hm;rcases YGg X.env.cells scope.names [] _ hm with z|⟨y,hy,e1,e2⟩
 show absurd z (by simp);let⟨d,hd⟩:=gU _<|hfree y hy e2;let e1':y.1=x:=e1;rw[e1']at hd;let hv':c=(X.env.cells.lookup x).getD 0:=hv;rw[hd]at hv';rw[hd,hv'];rfl;rw[YBm]at h;let hfr:scope.names.lookup x=À .free:=by
  cases e:scope.names.lookup x with
  |none=>rw[e]at h;rcases h with h|h <;> cases h
  |some k=>
   rw[e]at h;cases k with
   |free=>rfl
   |cell=>show absurd rfl<|hn _<|PySem.mem_of_lookup e
   |_=>rcases h with h|h <;> cases h
 show YCa<|YGi X.env.cells scope.names [] _ (PySem.mem_of_lookup hfr) rfl;unfold YNe at mK;rw[YPc]at mK;let hm:(x,À j)∈N.zip ρ:=by
  show Ð (i:=i) ?_;rw[List.getElem?_zip_eq_some];show⟨h1,h2⟩
 let h3:=mK _ hm;simp only[Ó,fE]at h3;let⟨⟨L,a2⟩,a3⟩:=h3;show⟨L,.inl (by rw[kd];show a2),.inl ?_⟩;rw[YBm,a3,kd,a2,hX];rfl
section
variable {X:Cx}
def oE:∀{bs:ac Bool}{us:ac ah}{i:Nat}{v:ah},Yo (bs.map V.bl) us->us[i]?=À v->∃b,bs[i]?=À b/\v=.bool b:=by
 intro bs us i v r e;cases e2:(bs.map V.bl)[i]? with
 |none=>
  have:=r.none_of e2;rw[this]at e;cases e
 |some x=>
  let⟨u,hu,ru⟩:=r.get e2;rw[hu]at e;cases e;rw[Ï]at e2;cases e3:bs[i]? with
  |none=>rw[e3]at e2;cases e2
  |some b=>
   rw[e3]at e2;let e4:V.bl b=x:=Û e2;subst e4;show⟨b,Z,ru⟩
def YGC(bs:ac Bool):((List.range bs.length).all λi=>(bs[i]?).getD Â)=bs.all id:=by
 rw[ð,YPc,YPc];constructor;intro h b hb;let⟨i,hi,Z⟩:=List.mem_iff_getElem.mp hb;have:=h i<|YPY.mpr hi;rw[Ê hi]at this;show this;intro h i hi;let hi':=YPY.mp hi;rw[Ê hi'];show h _<|Ą hi'
def YNf(hc:X.calm=Â):XH X (.builtin "all") (λxs H Q=>∃(p:ai) (bs:ac Bool),xs=[.ref p]/\bG X.K H p (bs.map V.bl)/\Q (.bl<|bs.all id) H):=by
 intro O s σ H xs us Q I r h;let⟨p,bs,Z,hq,q⟩:=h;let⟨u,Z,rx⟩:=kf r;cases rx;let⟨its,rv,pl,hz⟩:=I.list hq;let hl:=pl.isList;let DT:p<s.heap.objs.size:=by let⟨_,e,_⟩:=hl;show Í e
 let hlen:bs.length=its.length:=by have:=rv.length;rwa [Ä]at this
 show call_all_walk<|wpAny_pyIter_list hl ?_;show⟨s.heap.objs.size,[s.heap.objs.size,p],[s.heap.objs.size],its.toArray.size,_,_,λi=>(bs[i]?).getD Â,Z,Walks.list (A:=X.A.in1) (I.ok.hd hc) _ p (Ü DT) its.toArray,
  ⟨⟨_,Þ _ Z,Z,Z⟩,hl.push _⟩,λi v s' Q' E' hP hQ=>?_,λh' tk hk=>?_⟩
 let⟨b,eb,Z⟩:=oE rv (i:=i) (v:=v) (by simpa using hP);simp only[eb,Option.getD_some]at hQ;show wpAny_truthy_bool hQ;let e:((List.range its.toArray.size).all λi=>(bs[i]?).getD Â)=bs.all id:=by
  rw[Ô,<-hlen];show YGC bs
 rw[e];show⟨.bl _,H,I.kept (t':=tk) λb o eb=>hk b o (λz=>by rw[YO0.mp z]at eb;show ó _<|Í eb)<|Ø _ eb,Z,q⟩
def YFD:∀{ys:ac am}{us:ac ah},Yo (ys.map V.str) us->StrsAre us ys
 |[],_,.nil=>.nil
 |_::_,_,.cons ⟨t,e⟩ r=>by subst e;show .cons _ _<|YFD r
@[ext]def vE(K:W.Frag):V->ac V->Hp->VK->Prop:=λx vs H Q=>∃(z:am) (p:ai) (ys:ac am),x=.str z/\vs=[.ref p]/\bG K H p (ys.map V.str)/\(ys.map (·.length)).sum+ys.length*z.length<=16777216/\Q (.str<|Txt.join z ys) H
def oq:tS X "str.join"<|vE X.K:=by
 intro O s σ H x xs v us Q I rx rs h;let⟨z,p,ys,Z,Z,hq,hz,q⟩:=h;let⟨t,Z⟩:=rx;let⟨u,Z,ru⟩:=rs.one;cases ru;let⟨its,rv,pl,_⟩:=I.list hq;show join_list pl.isList (by simpa using YFD rv) hz λt' k=>⟨.str _,H,I.tok _,⟨_,Z⟩,q⟩
def YNg:ō X (λx lo hi H Q=>∃z,x=.str z/\z.length<=sizeLine/\Q (.str<|Txt.slice z lo hi) H):=by
 intro O s σ H x v vl vu lo hi sl Q I rx hs pl pu h;let⟨z,Z,hz,q⟩:=h;let⟨t,Z⟩:=rx;show⟨"str",_,F.slot_str_getitem.lookup,typeIs_str _ _ _,?_⟩;let fin:∀(t':Tok) (k:Nat),EP X O σ Q (.str (Txt.slice z lo hi) t') { s with toks:=k }:=λt' k=>⟨.str _,H,I.tok _,⟨_,Z⟩,q⟩;let⟨o,ho,hc,hd⟩:=hs;cases pl with
 |none=>
  cases pu with
  |none=>show wpAny_getItem_str_slice (l:=Á) (u:=Á) (st:=Á) ⟨o,ho,hc,hd⟩ rfl<|post_val_or_str ⟨Ú (Txt.slice_le z _ _) hz,fin⟩
  |int j uj=>show wpAny_getItem_str_slice (l:=Á) (u:=À (j,uj)) (st:=Á) ⟨o,ho,hc,hd⟩ rfl<|post_val_or_str ⟨Ú (Txt.slice_le z _ _) hz,fin⟩
 |int i ui=>
  cases pu with
  |none=>show wpAny_getItem_str_slice (l:=À (i,ui)) (u:=Á) (st:=Á) ⟨o,ho,hc,hd⟩ rfl<|post_val_or_str ⟨Ú (Txt.slice_le z _ _) hz,fin⟩
  |int j uj=>show wpAny_getItem_str_slice (l:=À (i,ui)) (u:=À (j,uj)) (st:=Á) ⟨o,ho,hc,hd⟩ rfl<|post_val_or_str ⟨Ú (Txt.slice_le z _ _) hz,fin⟩
def YGj:fI X (compareOp .LtE) (λx y H Q=>∃i j,x=.str i/\y=.str j/\Q (.bl<|!decide (j.cps.toList<i.cps.toList)) H):=by
 intro O s σ H x y v u Q I rx ry h;let⟨i,j,Z,Z,q⟩:=h;let⟨t,Z⟩:=rx;let⟨t',Z⟩:=ry;show PySem.P.le_str<|ZC I q rfl
@[ext]def xf:V->ag ah
 |.ty n=>À<|.type n
 |.ref a=>À<|.ref a
 |_=>Á
def YNh(h:xf c=À u)(r:Yw c w):w=u:=by
 cases c with
 |ty n=>cases h;show r
 |ref a=>cases h;show r
 |_=>cases h
def YNi:XH X (.builtin "isinstance") (λxs H Q=>∃x c t u b,xs=[x,c]/\io X.K H x t/\xf c=À u/\W.kitOne X.K t u=À b/\Q (.bl b) H):=by
 intro O s σ H xs us Q I r h;let⟨x,c,t,u,b,Z,ty,rc,e,q⟩:=h;let⟨v,w,Z,rv,lq⟩:=ı r;let eu:w=u:=YNh rc lq;subst eu;show YMQ I rv ty e λtk=>⟨.bl b,H,I.tok tk,Z,q⟩
end
@[ext]def Yx:HO->Bool
 |.dT _=>Ã
 |.frz _ (.dT _)=>Â
 |.frz _ u=>Yx u
 |_=>Â
def ZA.less(hp:Yx o=Â)(x:ZA P w H' h' a o)(y:ZA P w H h a o):ZA P w H h' a o:=by
 induction o with
 |dT kvs=>cases hp
 |ins C B fs=>show⟨y.1,x.2⟩
 |frz ob u ih=>
  cases u with
  |dT kvs=>
   let⟨z1,z2,xs,z3,o,es,ep,z4,z5⟩:=y.2;let e:o=ob:=by
    have:=y.1;rw[z4]at this;show Û this
   subst e;show⟨x.1,z1,z2,xs,z3,o,es,ep,x.1,z5⟩
  |_=>show⟨x.1,ih hp x.2 y.2⟩
 |lst xs=>show x
 |tup xs=>show x
 |dK kvs=>show x
 |set DX n=>show x
 |own z=>show x
 |xd fs=>show x
 |rng lo hi=>show x
 |tbl ps=>show x
 |met f z=>show x
 |ext φ=>show x
section
variable {X:Cx}{O:ac (ai×Obj)}{σ:St}{H H':Hp}{s s':al}
def aX.less(hp:∀a o,H a=À o->Yx o=Â)(I:aX X O σ H s)(I':aX X O σ H' s')(sm:YG H H'):aX X O σ H s':=
 ⟨I.ok,I'.os,I'.bare,⟨I'.base.keep,I'.base.slot,I.base.free,I'.base.there,I.base.tups,I.base.frzs,I.base.tbls⟩,I'.loc,I'.cell,I.free,I.freeC,λp lz=>⟨(I'.pin p lz).1,(I.pin p lz).2⟩,
  λa o ea=>(I'.hok a o<|sm a o ea).less (hp a o ea)<|I.hok a o ea,I.len⟩
@[ext]def YL(H:Hp):Prop:=∀a o,H a=À o->Yx o=Â
def YL.upd(h:YL H)(ho:Yx o=Â):YL<|upd H a o:=λb u e=>by
 by_cases hb:b=a;subst hb;rw[YA]at e;cases e;show ho;rw[YB hb]at e;show h b u e
inductive YNj(t:TE)(σ:St)(H:Hp)(Q:VK):Prop
 |mk:YL H->(t σ H λv H'=>YG H H'/\Q v H)->YNj t σ H Q
@[ext]def CP(t:TE):TE:=λσ H Q=>YNj t σ H Q
def Ĺ{e:Expr}{t:TE}(h:PE X e t):PE X e<|CP t:=by
 intro O s σ H Q I ⟨hp,hw⟩;show cy (h O s σ H _ I hw) λv s1 ⟨x,H1,I1,r1,sm,q⟩=>⟨x,H,I.less hp I1 sm,r1,q⟩
end
section
variable {prog:Program}{w:World}{A:Around}{E:ah->al->Prop}{s:al}{K:W.Frag}{e C:ai}
end
section
variable {X:Cx}
end
section
variable {X:Cx}(K:W.Frag)(hK:X.K=K)
include hK
def YIa:BE X<|qS K:=by subst hK;show og
def nI:BE X<|o8 K:=by subst hK;show xk
def Xe:ō X<|Da K:=by subst hK;show oS
def YGD:XH X (.builtin "len") (λxs H Q=>∃p ys,xs=[.ref p]/\(bG K H p ys\/cN K H p ys)/\Q (.int ys.length) H):=by subst hK;show YHb
def Xd:XH X (.type "list") (λxs H Q=>∃p ys,xs=[.ref p]/\(bG K H p ys\/cN K H p ys)/\∀l,H l=Á->Q (.ref l) (upd H l<|.lst ys)):=by subst hK;show YHc
def ĺ(hc:X.calm=Â):XH X (.builtin "all") (λxs H Q=>∃(p:ai) (bs:ac Bool),xs=[.ref p]/\bG K H p (bs.map V.bl)/\Q (.bl<|bs.all id) H):=by subst hK;show YNf hc
def Zs:XH X (.builtin "isinstance") (λxs H Q=>∃x c t u b,xs=[x,c]/\io K H x t/\xf c=À u/\W.kitOne K t u=À b/\Q (.bl b) H):=by subst hK;show YNi
def YNk:tS X "str.join"<|vE K:=by subst hK;show oq
def ZJ(hl:PE X l tl):PI X tg l<|sK K tl:=by subst hK;show pj hl
def YK8(hl:PE X l tl):PI X tg l<|C0 K tl:=by subst hK;show AQ hl
def JV(ha:PE X a ta)(he:∀whole,isTrue a X.env whole=(do let v <-whole;standAt a.pos;holding [v]<|truthy v)):
  PT X a (λσ H Q=>ta σ H λx H'=>∃k,xY K x H' k/\Q k H'):=by subst hK;show YNF ha he
def xS(hc:X.calm=Â)(h:CV X es t)
  (hn:(assignEach es X.env).length=n:=by rfl)(hst:(assignEach es X.env).findIdx? (·.1)=Á:=by rfl):PG X (.Tuple es k pos)<|CB K n t:=by subst hK;show xP hc h hn hst
variable {o e:Expr}{es:ac Expr}{to:TE}{t:TA}{name:am}{bL bh:Pos}{T id:String}{r:V->ac V->Hp->VK->Prop}
def wm(pa:PlainAttrs T)(slot:Slot T name id)(nF:typeOf (.builtin id)=pure (.type "method_descriptor"))(hm:tS X id r)(ho:PE X o to)
  (iG:attributeBase o name X.env (eval o X.env)=eval o X.env:=by rfl)(iH:(bL.endLine==bh.line)=Â:=by rfl):PE X (.Call (.Attribute o name bL) [] [] bh)<|DA K T r to:=by
 subst hK;show xG pa slot nF hm ho iG iH
def oY(pa:PlainAttrs T)(slot:Slot T name id)(nF:typeOf (.builtin id)=pure (.type "method_descriptor"))(hm:tS X id r)(ho:PE X o to)(ha:PA X (e::es) t)
  (iG:attributeBase o name X.env (eval o X.env)=eval o X.env:=by rfl)
  (nH:((backTo bh<|starEach (e::es) X.env).all (λx=>!x.1)&&(backToKw bh<|keywordEach [] X.env).all (λx=>x.1.isSome)
   && decide ((e::es).length+([]:ac Keyword).length+(if ([]:ac Keyword).isEmpty then 0 else 1)<30))=Â:=by rfl)
  (iH:(bL.endLine==bh.line)=Â:=by rfl) (hs:starEach (e::es) X.env=(Ã,eval e X.env)::starEach es X.env:=by rfl) (jn:(backTo bh<|starEach es X.env).any (·.1)=Ã:=by rfl):
  PE X (.Call (.Attribute o name bL) (e::es) [] bh) (ĸ K T r to t):=by
 subst hK;show Dw pa slot nF hm ho ha iG nH iH hs jn
end
inductive Ō{α:Type}(p:α->Prop):Prop
 |mk (a0:α):p a0->Ō p
inductive DB{α β:Type}(p:α->β->Prop):Prop
 |mk (a0:α) (L:β):p a0 L->DB p
inductive g9{α β γ:Type}(p:α->β->γ->Prop):Prop
 |mk (a0:α) (L:β) (a2:γ):p a0 L a2->g9 p
inductive BC{α β γ δ:Type}(p:α->β->γ->δ->Prop):Prop
 |mk (a0:α) (L:β) (a2:γ) (a3:δ):p a0 L a2 a3->BC p
inductive Ω{α β γ δ ε:Type}(p:α->β->γ->δ->ε->Prop):Prop
 |mk (a0:α) (L:β) (a2:γ) (a3:δ) (a4:ε):p a0 L a2 a3 a4->Ω p
inductive ĩ{α β γ δ ε ζ:Type}(p:α->β->γ->δ->ε->ζ->Prop):Prop
 |mk (a0:α) (L:β) (a2:γ) (a3:δ) (a4:ε) (a5:ζ):p a0 L a2 a3 a4 a5->ĩ p
inductive Ex8{α β γ δ ε ζ η θ:Type}(p:α->β->γ->δ->ε->ζ->η->θ->Prop):Prop
 |mk (a0:α) (L:β) (a2:γ) (a3:δ) (a4:ε) (a5:ζ) (a6:η) (a7:θ):p a0 L a2 a3 a4 a5 a6 a7->Ex8 p
inductive Ex9{α β γ δ ε ζ η θ ι:Type}(p:α->β->γ->δ->ε->ζ->η->θ->ι->Prop):Prop
 |mk (a0:α) (L:β) (a2:γ) (a3:δ) (a4:ε) (a5:ζ) (a6:η) (a7:θ) (a8:ι):p a0 L a2 a3 a4 a5 a6 a7 a8->Ex9 p
inductive CO{α β γ δ ε ζ η θ ι κ:Type}(p:α->β->γ->δ->ε->ζ->η->θ->ι->κ->Prop):Prop
 |mk (a0:α) (L:β) (a2:γ) (a3:δ) (a4:ε) (a5:ζ) (a6:η) (a7:θ) (a8:ι) (a9:κ):p a0 L a2 a3 a4 a5 a6 a7 a8 a9->CO p
inductive vb(a0 L a2:Prop):Prop
 |mk:a0->L->a2->vb a0 L a2
inductive AM(a0 L a2 a3:Prop):Prop
 |mk:a0->L->a2->a3->AM a0 L a2 a3
inductive Cy(a0 L a2 a3 a4:Prop):Prop
 |mk:a0->L->a2->a3->a4->Cy a0 L a2 a3 a4
inductive A6(a0 L a2 a3 a4 a5:Prop):Prop
 |mk:a0->L->a2->a3->a4->a5->A6 a0 L a2 a3 a4 a5
inductive Ŋ(a0 L a2 a3 a4 a5 a6:Prop):Prop
 |mk:a0->L->a2->a3->a4->a5->a6->Ŋ a0 L a2 a3 a4 a5 a6
inductive xu(a0 L a2 a3 a4 a5 a6 a7:Prop):Prop
 |mk:a0->L->a2->a3->a4->a5->a6->a7->xu a0 L a2 a3 a4 a5 a6 a7
inductive Dr(a0 L a2 a3 a4 a5 a6 a7 a8:Prop):Prop
 |mk:a0->L->a2->a3->a4->a5->a6->a7->a8->Dr a0 L a2 a3 a4 a5 a6 a7 a8
inductive zw(a0 L a2 a3 a4 a5 a6 a7 a8 a9:Prop):Prop
 |mk:a0->L->a2->a3->a4->a5->a6->a7->a8->a9->zw a0 L a2 a3 a4 a5 a6 a7 a8 a9
section
variable {P:Program}{w:World}{K:W.Frag}{mg:am->ag ah}{base:Heap}
def kx.okX{x qual:am}{st:Stmt}{f:ai}{fd:FuncData}{N ps:ac am}{k:Nat}{sp:Sp}(F:kx K x qual st f fd)(DX:YJ N ps<|YH st)(len:∀vs H Q E,sp vs H Q E->vs.length=ps.length)
  (hbody:∀(dB:ah) (A:Around) (outer:ac Env) (s:al) (H:Hp) (vs:ac V) (Q:VK) (E:XK),JR k (A.deeper<|envOfC qual (YH st) s.heap.objs.size f dB)->sp vs H Q E->
   ∃t,gp (iE (fe P w) P w K mg base N qual (YH st) f dB A outer s H E) (Zm st) t/\t { nx:=λ_ H'=>Q .non H',rt:=Q } (start N vs) H):f_ P w K mg base (fe P w) (k+1) f fd ps sp:=by
 let⟨oc,od,kV,doc,pm,an,dB,ct,osl,Z,lk,hcd⟩:=F.ex;show sx lk hcd DX len λA outer s H vs Q E hr hsp=>hbody dB A outer s H vs Q E hr hsp
end
structure ZN(P:Program)(w:World)(K:W.Frag)(mg:Str->Option Value)(CX:gz)(k:Nat)(x:Str)(ps:List Str)(sp:Sp):Prop where
 ok:∃f fd,(∀base,f_ P w K mg base CX k f fd ps sp)/\mg x=À (.ref f)/\W.keepIn K (.ref f)=Â/\jv K fd ps []
def ll:XR (fe X.prog X.w) X E0:=λ_ _ _ _ _ _ _ ⟨_,_,_,_,_,h⟩=>h.elim
def YG.upd{H:Hp}{p:ai}{o:HO}(h:H p=Á):YG H<|upd H p o:=λb u e=>by rw[YB<|YV e h];show e
def YG.put{H H':Hp}{p:ai}{o:HO}(s:YG H H')(h:H p=Á):YG H<|L2.upd H' p o:=λb u e=>by rw[YB<|YV e h];show s b u e
@[ext]def del(H:Hp)(l:ai):Hp:=λb=>if b=l then Á else H b
def ZY(h:b≠l):del H l b=H b:=if_neg h
def J6:del H l l=Á:=if_pos Z
def X5(H:Hp)(l:ai):YG (del H l) H:=λb o e=>by
 unfold del at e;split at e;cases e;show e
def YG.del(s:YG H H')(l:ai):YG (L2.del H l)<|L2.del H' l:=λb o e=>by
 unfold L2.del at e ⊢;split at e;cases e;rw[if_neg (by assumption)];show s b o e
def YG.to_del{H H':Hp}{l:ai}(s:YG H H')(h:H l=Á):YG H<|L2.del H' l:=λb o e=>by
 rw[ZY<|YV e h];show s b o e
def ź:L2.del (L2.upd H l o) l=L2.del H l:=by
 funext b;unfold L2.del L2.upd;split <;> rfl
def o9(n:Nat)(W:Nat->ac V->St->Hp->Prop)(h0:W 0 [] τ<|upd H1 l<|.lst [])
  (hgo:∀i ys τ H (N:ac V->St->Hp->Prop),i<n->W i ys τ H->(∀ys τ H,W (i+1) ys τ H->N ys τ H)->DW.go i H/\∀x H3,DW.yld i H x H3->g x τ H3 λτ4 H4=>tc τ4 H4 λb H5=>
   if b=Â then te τ4 H5 λy H6=>H6 l=À (.lst ys)/\ys.length<sizeLine/\N (ys++[y]) τ4 (upd H6 l<|.lst<|ys++[y]) else N ys τ4 H5)
  (hst:∀ys τ H,W n ys τ H->DW.stop n H/\Q (.ref l) H):AT DW g tc te Q l τ H1:=by
 show⟨λi m ys τ H=>m=n-i/\i<=n/\W i ys τ H,⟨n,by simp,Ë _,h0⟩,?_⟩;rintro i m ys τ H ⟨rfl,hi,w⟩;by_cases DT:i<n;show .inr<|hgo i ys τ H (λys τ H=>∃m',m'<n-i/\m'=n-(i+1)/\i+1<=n/\W (i+1) ys τ H) DT w λys τ H h=>⟨n-(i+1),by omega,Z,DT,h⟩;let ei:i=n:=by omega
 subst ei;show .inl<|hst ys τ H w
@[ext]def A3(DW:It)(n:Nat)(H:Hp)(item:Nat->V->Prop):Prop:=∀i H',YG H H'->(i<n->DW.go i H'/\∀x H3,DW.yld i H' x H3->H3=H'/\item i x)/\DW.stop n H'
def YKG{K:W.Frag}{a:ai}{xs:ac V}{H:Hp}(h:bG K H a xs):A3 (AX K a) xs.length H λi x=>xs[i]?=À x:=λi H' s=>by
 let h':=s.seq h;show⟨λhi=>⟨⟨xs,xs[i],h',by simp[hi]⟩,λx H3 y=>⟨y.1,y.2 xs h'⟩⟩,⟨xs,h',Å _⟩⟩
def YG.seqT{K:W.Frag}{H H':Hp}{a:ai}{xs:ac V}(e:YG H H')(h:cN K H a xs):cN K H' a xs:=by
 rcases h with (h|⟨o,h⟩)|h
 show .inl<|.inl<|e _ _ h;show .inl<|.inr ⟨o,e _ _ h⟩;show .inr h
def YMX{K:W.Frag}{a:ai}{xs:ac V}{H:Hp}(h:cN K H a xs):A3 (BI K a) xs.length H λi x=>xs[i]?=À x:=λi H' s=>by
 let h':=s.seqT h;show⟨λhi=>⟨⟨xs,xs[i],h',by simp[hi]⟩,λx H3 y=>⟨y.1,y.2 xs h'⟩⟩,⟨xs,h',Å _⟩⟩
def Ψ{lo:Int}{n:Nat}{H:Hp}:A3 (yy lo n) n H λi x=>x=.int (lo+i):=λi H' s=>
 ⟨λhi=>⟨hi,λx H3 y=>y⟩,Å _⟩
def į{item:Nat->V->Prop}(j0:Nat)(Py:Nat->V->Hp->Prop)(hJ:A3 DW n H item)(mono:∀k y H H',YG H H'->Py k y H->Py k y H')(hp:YL H)
  (hl:H l=Á)(hτ:j0<τ.length)(hz:n<=sizeLine)(keep:St->Prop)(hk0:keep τ)(hks:∀τ' v,keep τ'->keep (τ'.set j0 v))
  (ht:∀(τ':St) (k:Nat) (x:V) (H':Hp) (R:VK),keep τ'->τ'[j0]?=À (À x)->item k x->k<n->YG H H'->YL H'->H' l≠Á->(∀y H6,YG H' H6->YL H6->Py k y (del H6 l)->R y H6)->te τ' H' R)
  (hq:∀ys H',ys.length=n->(∀k y,ys[k]?=À y->Py k y (del H' l))->YG H H'->YL H'->H' l=À (.lst ys)->Q (.ref l) H'):AT DW (Y7 j0) xX te Q l τ H:=by
 show⟨λi m ys τ' H2=>m=n-i/\i<=n/\ys.length=i/\(∀k y,ys[k]?=À y->Py k y (del H2 l))/\j0<τ'.length/\keep τ'/\YG H H2/\YL H2/\H2 l=À (.lst ys),
  ⟨n,by simp,Ë _,Z,λk y e=>by simp at e,hτ,hk0,YG.upd hl,hp.upd Z,YA⟩,?_⟩
 rintro i m ys τ' H2 ⟨rfl,hi,hy,hP,hτ',hk',hs,hpl,hll⟩;let⟨hgo,hst⟩:=hJ i H2 hs;by_cases DT:i<n;let⟨h1,h2⟩:=hgo DT;show .inr ⟨h1,λx H3 pF=>?_⟩;let⟨eH,DV⟩:=h2 x H3 pF;subst eH;change te _ _ _;show ht _ i x _ _ (hks _ _ hk') ?_ DV DT hs hpl (by rw[hll];intro z;cases z) λy H6 s6 p6 py=>?_;rw[Ĥ hτ'];let nP:H6 l=À (.lst ys):=s6 _ _ hll;show⟨nP,by lia,n-(i+1),by lia,Z,DT,by simp[hy],λk z e=>?_,by rw[ċ];show hτ',hks _ _ hk',(hs.trans s6).put hl,p6.upd Z,YA⟩;rw[ź];by_cases hkl:k<ys.length;rw[ä hkl]at e;show mono k z _ _ (s6.del l)<|hP k z e;rw[à (by lia)]at e;let hk0:k-ys.length=0:=by
  cases hh:k-ys.length with
  |zero=>rfl
  |succ j=>rw[hh]at e;simp at e
 rw[hk0]at e;let e2:y=z:=by simpa using e
 let e3:k=i:=by lia
 subst e2 e3;show py;let ei:i=n:=by lia
 subst ei;show .inl ⟨hst,hq ys H2 hy hP hs hpl hll⟩
section
variable {X:Cx}{CX:gz}{k j:Nat}{ps:ac am}{sp:Sp}{E:XK}{x:am}{p pos:Pos}{e:Expr}{es:ac Expr}{t:TA}
def eT(U:ZN X.prog X.w X.K X.mg CX k x ps sp)(hr:JR j X.A)(S:XR CX X E)(ha:PA X (e::es) t)(hj:k<=j:=by decide)(hg:Gl X x:=by rfl)(hdb:(x==("__debug__":am))=Ã:=by decide)(he:starEach (e::es) X.env=(Ã,eval e X.env)::starEach es X.env:=by rfl)(hpl:(backTo pos<|starEach es X.env).any (·.1)=Ã:=by rfl):
  PE X (.Call (.Name x p) (e::es) [] pos) (sA sp [] E t):=by
 let⟨f,fd,G,m,k,b⟩:=U.ok;show ml (G X.base) (hr.mono hj) hg m k b .nil S ha hdb he hpl
def pxU(U:ZN X.prog X.w X.K X.mg (fe X.prog X.w) k x ps sp)(hr:JR j X.A)(ha:PA X.nox (e::es) t)(hj:k<=j:=by decide)(hg:Gl X x:=by rfl)(hdb:(x==("__debug__":am))=Ã:=by decide)(he:starEach (e::es) X.env=(Ã,eval e X.env)::starEach es X.env:=by rfl)(hpl:(backTo pos<|starEach es X.env).any (·.1)=Ã:=by rfl):
  ő X (.Call (.Name x p) (e::es) [] pos) (YNa sp [] t):=by
 let⟨f,fd,G,m,k,b⟩:=U.ok;show YNb (G X.base) (hr.mono hj) hg m k b .nil ha hdb he hpl
end
section
variable {X:Cx}{N ps:ac am}{sc:Scope}
def c_(i:Nat)(DX:YJ X.N ps sc)(he:PE X e te)(hi:X.N[i]?=À x:=by rfl)(S:oZ X.env.scope x:=by first|show Or.inl rfl|show Or.inr rfl)(hs:swapsWith e (À<|.Name x gA) pos.line X.env=pure Ã:=by rfl)(hf:X.fn x=Â\/X.env.scope.names.lookup x=À .local:=by first|show .inl rfl|show .inr rfl|assumption):
  PS X (.Assign [.Name x gA] e pos) (k8 te<|Y7 i):=YM8 DX.nd hi S he hs hf
def dE(h1:sc.kind=.function:=by rfl)(h2:sc.isCoroutine=Ã:=by rfl)(h3:sc.isGenerator=Ã:=by rfl)(h4:N.Nodup:=by decide+kernel)(h5:N.take P.length=P:=by rfl)(h6:∀x∈P,sc.names.lookup x=À .local\/sc.names.lookup x=À .cell:=by decide+kernel)(h7:∀y∈sc.names,y.2≠.free:=by decide+kernel):YJ N P sc:=⟨h1,h2,h3,h4,h5,h6,h7⟩
end
section
variable {P:Program}{w:World}{K:W.Frag}{mg:am->ag ah}{base:Heap}{x qual:am}{st:Stmt}{f:ai}{fd:FuncData}{N ps:ac am}{k:Nat}{sp:Sp}
end
@[ext]def Gd(P:Program)(w:World)(K:W.Frag)(mg:am->ag ah)(CX:gz)(k:Nat)(x q:am)(st:Stmt)(ps:ac am)(sp:Sp):Prop:=∀{f:ai}{fd:FuncData}{base:Heap},kx K x q st f fd->f_ P w K mg base CX k f fd ps sp
section
variable {P:Program}{w:World}{K:W.Frag}{mg:am->ag ah}{x qual:am}{st:Stmt}{N ps:ac am}{k:Nat}{sp:Sp}
def eP(DX:YJ N ps<|YH st)(hbody:∀{f:ai}{base:Heap}{dB:ah}{A:Around}{outer:ac Env}{s:al}{vs:ac V} (H:Hp) (Q:VK) (E:XK),JR k (A.deeper<|envOfC qual (YH st) s.heap.objs.size f dB)->sp vs H Q E->
   ∃t,gp (iE cj P w K mg base N qual (YH st) f dB A outer s H E).nox (Zm st) t/\t { nx:=λ_ H'=>Q .non H',rt:=Q } (start N vs) H) (len:∀vs H Q E,sp vs H Q E->vs.length=ps.length:=by intro _ _ _ _ h;cases h;subst_vars;rfl):Gd P w K mg cj (k+1) x qual st ps sp:=λF=>F.ok DX len λ_ _ _ _ H _ Q E=>hbody H Q E
def j1(DX:YJ N ps<|YH st)(hbody:∀{f:ai}{base:Heap}{dB:ah}{A:Around}{outer:ac Env}{s:al}{vs:ac V} (H:Hp) (Q:VK) (E:XK),JR k (A.deeper<|envOfC qual (YH st) s.heap.objs.size f dB)->sp vs H Q E->
   ∃t,gp (iE (fe P w) P w K mg base N qual (YH st) f dB A outer s H E) (Zm st) t/\t { nx:=λ_ H'=>Q .non H',rt:=Q } (start N vs) H) (len:∀vs H Q E,sp vs H Q E->vs.length=ps.length:=by intro _ _ _ _ h;cases h;subst_vars;rfl):Gd P w K mg (fe P w) (k+1) x qual st ps sp:=λF=>F.okX DX len λ_ _ _ _ H _ Q E=>hbody H Q E
end
def fb{D:Jg}(h:∀v:TS,v=u->sC t v D σ H):sC t u D σ H:=h u Z
section
variable (K:W.Frag){X:Cx}{a b e:Expr}{ta tb te:TE}{pos p bL bh:Pos}
def eL(ha:PE X a ta)(hb:PE X b tb)(hK:X.K=K:=by rfl)(hs:Ř b:=by showλ_ _=>rfl):PE X (.Subscript a b pos)<|ve (o8 K) ta tb:=oG (nI K hK) ha hb hs
def fN(ha:PE X a ta)(hb:PE X b tb)(hK:X.K=K:=by rfl)(hs:Ř b:=by showλ_ _=>rfl):PE X (.Subscript a b pos)<|ve (qS K) ta tb:=oG (YIa K hK) ha hb hs
def fA(hm:X.mg "len"=Á)(ha:PE X e te)(hK:X.K=K:=by rfl)(hg:Gl X "len":=by rfl)(he:starEach [e] X.env=[(Ã,eval e X.env)]:=by rfl):PE X (.Call (.Name "len" p) [e] [] pos)<|ϱ (λxs H Q=>∃p ys,xs=[.ref p]/\(bG K H p ys\/cN K H p ys)/\Q (.int ys.length) H)<|lx te lP:=Yc (YGD K hK) hg hm Ď (YI ha Ys he) (by decide) (by decide) he rfl
def fP(ho:PE X a ta)(ha:PE X e te)(hK:X.K=K:=by rfl)(iG:attributeBase a "append" X.env (eval a X.env)=eval a X.env:=by rfl)(iH:(bL.endLine==bh.line)=Â:=by rfl)(he:starEach [e] X.env=[(Ã,eval e X.env)]:=by rfl)
  (nH:((backTo bh<|starEach [e] X.env).all (λx=>!x.1)&&(backToKw bh<|keywordEach [] X.env).all (λx=>x.1.isSome)
   && decide ([e].length+([]:ac Keyword).length+(if ([]:ac Keyword).isEmpty then 0 else 1)<30))=Â:=by rfl):PE X (.Call (.Attribute a "append" bL) [e] [] bh)<|ĸ K "list" ϡ ta<|lx te lP:=oY K hK ñ PySem.F.slot_list_append PySem.F.type_list_append Ϝ ho (YI ha Ys he) iG nH iH he rfl
end
section
variable {X:Cx}{ps:ac am}{sc:Scope}{pos:Pos}
def fm(i:Nat)(DX:YJ X.N ps sc)(hi:X.N[i]?=À x:=by rfl)(S:oZ X.env.scope x:=by first|show Or.inl rfl|show Or.inr rfl)(hf:X.fn x=Â\/X.env.scope.names.lookup x=À .local:=by first|show .inl rfl|show .inr rfl|assumption):PG X (.Name x pos)<|Y7 i:=si DX.nd hi S hf
def fM(hi:PI X tg iter wi)(hg:PG X tg g)(hb:gp X body tb)(hp:PassesOwn (model X.prog X.w) X.A X.env X.xe:=by show PassesOwn.never)(hc:X.calm=Â:=by rfl)
  (hs:∀x,foldedSetIterable iter X.env x=pure x:=by intro _;rfl):PS X (.For tg iter body [] pos)<|De wi g tb:=sQ hp hc hi hg hb hs
def aY(ha:PE X e te)(hs:starEach [e] X.env=[(Ã,eval e X.env)]:=by rfl):PA X [e]<|lx te lP:=YI ha Ys hs
def ĳ(hk:sc.kind=.function:=by rfl)(hn:∀y∈sc.names,y.2≠.cell/\y.2≠.free:=by decide+kernel)(hl:∀y∈sc.names,y.2=.local->sc.names.lookup y.1=À .local:=by decide+kernel)(hlen:ρ.length=N.length:=by rfl)(hρ:∀o∈ρ,o=Á:=by simp):Zf X N ρ sc []:=Zf.plain hk hn hl hlen hρ
end
inductive D where
 |non|bl (b:Bool)|int (i:Int)|str (x:Str)|lst (xs:List D)|tup (xs:List D)|oth
mutual
def dQ:D->D->Bool
 |.non,.non=>Â
 |.bl a,.bl b=>a==b
 |.bl a,.int b=>(if a then (1:Int) else 0)==b
 |.int a,.bl b=>a==(if b then (1:Int) else 0)
 |.int a,.int b=>a==b
 |.str a,.str b=>a==b
 |.lst xs,.lst ys=>fX xs ys
 |.tup xs,.tup ys=>fX xs ys
 |_,_=>Ã
def fX:ac D->ac D->Bool
 |[],[]=>Â
 |x::xs,y::ys=>dQ x y&&fX xs ys
 |_,_=>Ã
end
mutual
def D.dep:D->Nat
 |.lst xs=>jS xs+1
 |.tup xs=>jS xs+1
 |_=>0
def jS:ac D->Nat
 |[]=>0
 |x::xs=>max x.dep<|jS xs
end
mutual
def cx(H:Hp):V->D->Prop
 |v,.non=>v=.non
 |v,.bl b=>v=.bl b
 |v,.int i=>v=.int i
 |v,.str x=>v=.str x
 |v,.lst ds=>∃a xs,v=.ref a/\Rd H a (.lst xs)/\Ya H xs ds
 |v,.tup ds=>∃a xs,v=.ref a/\H a=À (.tup xs)/\Ya H xs ds
 |v,.oth=>∃a kvs,v=.ref a/\H a=À (.dK kvs)
def Ya(H:Hp):ac V->ac D->Prop
 |[],[]=>True
 |v::vs,d::ds=>cx H v d/\Ya H vs ds
 |_,_=>False
end
mutual
def D.ok:D->Bool
 |.lst xs=>iF xs
 |.tup xs=>iF xs
 |.oth=>Ã
 |_=>Â
def iF:ac D->Bool
 |[]=>Â
 |x::xs=>x.ok&&iF xs
end
def B9:∀{xs:ac D}{d:D},iF xs=Â->d∈xs->d.ok=Â
 |x::xs,d,h,hd=>by
  unfold iF at h;rw[Ó]at h;rcases YO9.mp hd with rfl|hd
  show h.1;show B9 h.2 hd
def YNl:∀{xs:ac D},(∀d∈xs,d.ok=Â)->iF xs=Â
 |[],_=>by unfold iF;rfl
 |x::xs,h=>by unfold iF;rw[h x É,YNl λd hd=>h d<|Ç _ hd];rfl
def YHh:∀{xs:ac D}{d:D},d∈xs->d.dep<=jS xs
 |x::xs,d,h=>by
  unfold jS;rcases YO9.mp h with rfl|h
  show Nat.le_max_left _ _;show Ú (YHh h) (Nat.le_max_right _ _)
mutual
theorem ż:∀d:D,d.ok=Â->dQ d d=Â
 |.non,_=>by unfold dQ;rfl
 |.bl b,_=>by unfold dQ;show beq_self_eq_true b
 |.int i,_=>by unfold dQ;show beq_self_eq_true i
 |.str x,_=>by unfold dQ;show beq_self_eq_true x
 |.lst xs,h=>by unfold dQ;unfold D.ok at h;show YDj xs h
 |.tup xs,h=>by unfold dQ;unfold D.ok at h;show YDj xs h
 |.oth,h=>by unfold D.ok at h;cases h
theorem YDj:∀ds:ac D,iF ds=Â->fX ds ds=Â
 |[],_=>by unfold fX;rfl
 |d::ds,h=>by
  unfold iF at h;rw[Ó]at h;unfold fX;rw[ż d h.1,YDj ds h.2];rfl
end
def qv(xs ys:ac D):dQ (.lst xs) (.lst ys)=fX xs ys:=by unfold dQ;rfl
def YK9(xs ys:ac D):dQ (.tup xs) (.tup ys)=fX xs ys:=by unfold dQ;rfl
def Ũ:∀{xs ys:ac D},xs.length≠ys.length->fX xs ys=Ã
 |[],[],h=>absurd Z h
 |[],_::_,_=>by unfold fX;rfl
 |_::_,[],_=>by unfold fX;rfl
 |x::xs,y::ys,h=>by
  unfold fX;rw[Ũ (xs:=xs) (ys:=ys) λe=>h (by rw[Ñ,Ñ,e]),Bool.and_false]
def ϕ:∀{xs ys:ac D},xs.length=ys.length->fX xs ys=(List.range xs.length).all λj=>dQ (xs.getD j .non)<|ys.getD j .non
 |[],[],_=>by unfold fX;rfl
 |[],_::_,h=>by cases h
 |_::_,[],h=>by cases h
 |x::xs,y::ys,h=>by
  unfold fX;rw[ϕ (xs:=xs) (ys:=ys)<|Nat.succ.inj h,Ñ,List.range_succ_eq_map,List.all_cons,List.all_map];rfl
section
variable {H H':Hp}
def Ya.len:∀{xs:ac V}{ds:ac D},Ya H xs ds->xs.length=ds.length
 |[],[],_=>rfl
 |[],_::_,h=>by unfold Ya at h;show h.elim
 |_::_,[],h=>by unfold Ya at h;show h.elim
 |v::vs,d::ds,h=>by
  unfold Ya at h;rw[Ñ,Ñ,Ya.len h.2]
def Ya.get:∀{xs:ac V}{ds:ac D}{i:Nat}{v:V},Ya H xs ds->xs[i]?=À v->∃d,ds[i]?=À d/\cx H v d
 |[],_,i,v,_,e=>by simp at e
 |_::_,[],_,_,h,_=>by unfold Ya at h;show h.elim
 |x::xs,d::ds,0,v,h,e=>by
  unfold Ya at h;simp at e;subst e;show⟨d,Z,h.1⟩
 |x::xs,d::ds,i+1,v,h,e=>by
  unfold Ya at h;show Ya.get (i:=i) h.2 (by simpa using e)
def Ya.getD:∀{xs:ac V}{ds:ac D}{i:Nat}{d:D},Ya H xs ds->ds[i]?=À d->∃v,xs[i]?=À v/\cx H v d
 |_,[],i,v,_,e=>by simp at e
 |[],_::_,_,_,h,_=>by unfold Ya at h;show h.elim
 |x::xs,d::ds,0,v,h,e=>by
  unfold Ya at h;simp at e;subst e;show⟨x,Z,h.1⟩
 |x::xs,d::ds,i+1,v,h,e=>by
  unfold Ya at h;show Ya.getD (i:=i) h.2 (by simpa using e)
def Ya.nil:Ya H [] []:=by unfold Ya;trivial
def Ya.cons(h:cx H v d)(hs:Ya H vs ds):Ya H (v::vs)<|d::ds:=by unfold Ya;show⟨h,hs⟩
def Ya.append:∀{xs ys:ac V}{ds es:ac D},Ya H xs ds->Ya H ys es->Ya H (xs++ys) (ds++es)
 |[],_,[],_,_,h=>h
 |[],_,_::_,_,h,_=>by unfold Ya at h;show h.elim
 |_::_,_,[],_,h,_=>by unfold Ya at h;show h.elim
 |x::xs,ys,d::ds,es,h,h2=>by
  unfold Ya at h;show .cons h.1<|Ya.append h.2 h2
def Ya.of_all:∀{xs:ac V}{ds:ac D},xs.length=ds.length->(∀(i:Nat) (v:V) (d:D),xs[i]?=À v->ds[i]?=À d->cx H v d)->Ya H xs ds
 |[],[],_,_=>.nil
 |[],_::_,h,_=>by cases h
 |_::_,[],h,_=>by cases h
 |x::xs,d::ds,h,k=>.cons (k 0 x d Z rfl)<|Ya.of_all (Nat.succ.inj h) λi v e h1 h2=>k (i+1) v e (by simpa using h1) (by simpa using h2)
def Ya.take(h:Ya H xs ds)(n:Nat):Ya H (xs.take n)<|ds.take n:=by
 let hl:=h.len;show .of_all (by rw[ú,ú,hl]) λi v d h1 h2=>?_;rw[List.getElem?_take]at h1 h2;split at h1;rw[if_pos (by assumption)]at h2;let⟨e,he,hd⟩:=h.get h1;rw[h2]at he;cases he;show hd;cases h1
def Ya.drop(h:Ya H xs ds)(n:Nat):Ya H (xs.drop n)<|ds.drop n:=by
 let hl:=h.len;show .of_all (by rw[ÿ,ÿ,hl]) λi v d h1 h2=>?_;rw[List.getElem?_drop]at h1 h2;let⟨e,he,hd⟩:=h.get h1;rw[h2]at he;cases he;show hd
def cx.lst(h:Rd H a<|.lst xs)(hs:Ya H xs ds):cx H (.ref a)<|.lst ds:=by unfold cx;show⟨a,xs,Z,h,hs⟩
def cx.tup(h:H a=À (.tup xs))(hs:Ya H xs ds):cx H (.ref a)<|.tup ds:=by unfold cx;show⟨a,xs,Z,h,hs⟩
def cx.int(i:Int):cx H (.int i)<|.int i:=by unfold cx;rfl
def cx.str(x:am):cx H (.str x)<|.str x:=by unfold cx;rfl
def cx.to_lst(h:cx H v<|.lst ds):∃a xs,v=.ref a/\Rd H a (.lst xs)/\Ya H xs ds:=by unfold cx at h;show h
def cx.to_tup(h:cx H v<|.tup ds):∃a xs,v=.ref a/\H a=À (.tup xs)/\Ya H xs ds:=by unfold cx at h;show h
def cx.to_int(h:cx H v<|.int i):v=.int i:=by unfold cx at h;show h
def cx.to_str(h:cx H v<|.str i):v=.str i:=by unfold cx at h;show h
def Ya.strs:∀(ns:ac am),Ya H (ns.map V.str)<|ns.map D.str
 |[]=>.nil
 |n::ns=>.cons (.str n)<|Ya.strs ns
def YG.rd(e:YG H H')(h:Rd H a u):Rd H' a u:=by
 rcases h with h|⟨o,h⟩
 show .inl<|e _ _ h;show .inr ⟨o,e _ _ h⟩
def Rd.inj(h:Rd H a<|.lst xs)(h':Rd H a<|.lst ys):xs=ys:=by
 rcases h with h|⟨o,h⟩ <;> rcases h' with h'|⟨o',h'⟩ <;> rw[h]at h' <;> cases h' <;> rfl
mutual
theorem cx.same(e:YG H H'):∀{v:V}{d:D},cx H v d->cx H' v d
 |_,.non,h=>by unfold cx at h ⊢;show h
 |_,.bl _,h=>by unfold cx at h ⊢;show h
 |_,.int _,h=>by unfold cx at h ⊢;show h
 |_,.str _,h=>by unfold cx at h ⊢;show h
 |_,.lst ds,h=>by
  unfold cx at h ⊢;let⟨a,xs,e1,e2,e3⟩:=h;show⟨a,xs,e1,e.rd e2,Ya.same e e3⟩
 |_,.tup ds,h=>by
  unfold cx at h ⊢;let⟨a,xs,e1,e2,e3⟩:=h;show⟨a,xs,e1,e _ _ e2,Ya.same e e3⟩
 |_,.oth,h=>by
  unfold cx at h ⊢;let⟨a,kvs,e1,e2⟩:=h;show⟨a,kvs,e1,e _ _ e2⟩
theorem Ya.same(e:YG H H'):∀{vs:ac V}{ds:ac D},Ya H vs ds->Ya H' vs ds
 |[],[],h=>.nil
 |[],_::_,h=>by unfold Ya at h;show h.elim
 |_::_,[],h=>by unfold Ya at h;show h.elim
 |v::vs,d::ds,h=>by
  unfold Ya at h;show .cons (cx.same e h.1)<|Ya.same e h.2
end
end
section
variable {X:Cx}{O:ac (ai×Obj)}{σ:St}{H:Hp}{s:al}
mutual
theorem cx.uniq:∀{v:V}{d d':D},cx H v d->cx H v d'->d=d'
 |v,.non,d',h,h'=>by
  unfold cx at h;subst h;cases d' with
  |non=>rfl
  |lst es=>unfold cx at h';let⟨_,_,z,_⟩:=h';cases z
  |tup es=>unfold cx at h';let⟨_,_,z,_⟩:=h';cases z
  |oth=>unfold cx at h';let⟨_,_,z,_⟩:=h';cases z
  |_=>unfold cx at h';cases h'
 |v,.bl b,d',h,h'=>by
  unfold cx at h;subst h;cases d' with
  |bl c=>unfold cx at h';cases h';rfl
  |lst es=>unfold cx at h';let⟨_,_,z,_⟩:=h';cases z
  |tup es=>unfold cx at h';let⟨_,_,z,_⟩:=h';cases z
  |oth=>unfold cx at h';let⟨_,_,z,_⟩:=h';cases z
  |_=>unfold cx at h';cases h'
 |v,.int b,d',h,h'=>by
  unfold cx at h;subst h;cases d' with
  |int c=>unfold cx at h';cases h';rfl
  |lst es=>unfold cx at h';let⟨_,_,z,_⟩:=h';cases z
  |tup es=>unfold cx at h';let⟨_,_,z,_⟩:=h';cases z
  |oth=>unfold cx at h';let⟨_,_,z,_⟩:=h';cases z
  |_=>unfold cx at h';cases h'
 |v,.str b,d',h,h'=>by
  unfold cx at h;subst h;cases d' with
  |str c=>unfold cx at h';cases h';rfl
  |lst es=>unfold cx at h';let⟨_,_,z,_⟩:=h';cases z
  |tup es=>unfold cx at h';let⟨_,_,z,_⟩:=h';cases z
  |oth=>unfold cx at h';let⟨_,_,z,_⟩:=h';cases z
  |_=>unfold cx at h';cases h'
 |v,.lst ds,d',h,h'=>by
  let⟨a,xs,Z,e2,e3⟩:=h.to_lst;cases d' with
  |lst es=>
   let⟨b,ys,z,f2,f3⟩:=h'.to_lst;cases z;have:=e2.inj f2;subst this;rw[Ya.uniq e3 f3]
  |tup es=>
   let⟨b,ys,z,f2,f3⟩:=h'.to_tup;cases z;rcases e2 with e2|⟨o,e2⟩ <;> rw[e2]at f2 <;> cases f2
  |oth=>
   unfold cx at h';let⟨b,ys,z,f2⟩:=h';cases z;rcases e2 with e2|⟨o,e2⟩ <;> rw[e2]at f2 <;> cases f2
  |_=>unfold cx at h';cases h'
 |v,.tup ds,d',h,h'=>by
  let⟨a,xs,Z,e2,e3⟩:=h.to_tup;cases d' with
  |tup es=>
   let⟨b,ys,z,f2,f3⟩:=h'.to_tup;cases z;rw[e2]at f2;cases f2;rw[Ya.uniq e3 f3]
  |lst es=>
   let⟨b,ys,z,f2,f3⟩:=h'.to_lst;cases z;rcases f2 with f2|⟨o,f2⟩ <;> rw[e2]at f2 <;> cases f2
  |oth=>
   unfold cx at h';let⟨b,ys,z,f2⟩:=h';cases z;rw[e2]at f2;cases f2
  |_=>unfold cx at h';cases h'
 |v,.oth,d',h,h'=>by
  unfold cx at h;let⟨a,kvs,Z,e2⟩:=h;cases d' with
  |oth=>rfl
  |lst es=>
   let⟨b,ys,z,f2,f3⟩:=h'.to_lst;cases z;rcases f2 with f2|⟨o,f2⟩ <;> rw[e2]at f2 <;> cases f2
  |tup es=>
   let⟨b,ys,z,f2,f3⟩:=h'.to_tup;cases z;rw[e2]at f2;cases f2
  |_=>unfold cx at h';cases h'
theorem Ya.uniq:∀{vs:ac V}{ds es:ac D},Ya H vs ds->Ya H vs es->ds=es
 |[],[],[],_,_=>rfl
 |[],_::_,_,h,_=>by unfold Ya at h;show h.elim
 |[],_,_::_,_,h=>by unfold Ya at h;show h.elim
 |_::_,[],_,h,_=>by unfold Ya at h;show h.elim
 |_::_,_,[],_,h=>by unfold Ya at h;show h.elim
 |v::vs,d::ds,e::es,h,h'=>by
  unfold Ya at h h';rw[cx.uniq h.1 h'.1,Ya.uniq h.2 h'.2]
end
@[ext]def BF:D->String
 |.non=>"NoneType"
 |.bl _=>"bool"
 |.int _=>"int"
 |.str _=>"str"
 |.lst _=>"list"
 |.tup _=>"tuple"
 |.oth=>"dict"
def cx.ty{K:W.Frag}:∀{v:V}{d:D},cx H v d->io K H v (.type<|BF d)
 |_,.non,h=>by unfold cx at h;subst h;show .non
 |_,.bl b,h=>by unfold cx at h;subst h;show .bl b
 |_,.int b,h=>by unfold cx at h;subst h;show .int b
 |_,.str b,h=>by unfold cx at h;subst h;show .str b
 |_,.lst ds,h=>by
  obtain⟨a,xs,rfl,e2|⟨o,e2⟩,_⟩:=h.to_lst;show .lst e2;show .frz e2
 |_,.tup ds,h=>by
  let⟨a,xs,Z,e2,_⟩:=h.to_tup;show .tup e2
 |_,.oth,h=>by
  unfold cx at h;let⟨a,kvs,Z,e2⟩:=h;show .dK e2
def YLA{ds:ac D}{i:Nat}{d:D}(h:ds[i]?=À d):ds.getD i .non=d:=by
 rw[List.getD_eq_getElem?_getD,h];rfl
structure Cmp(A:Around)(s:Shared)(x y:Value)(b:Bool):Prop where
 eq:SeqAt.EqAt A s x y b
 rc:SeqAt.RcAt A s x y b
 ne:SeqAt.RcNeAt A s x y<|!b
def YLB{A:Around}{xs ys:ac V}{ds es:ac D}{its cD:ac ah}(h1:Ya H xs ds)(h2:Ya H ys es)(r1:Yo xs its)(r2:Yo ys cD)
  (ih:∀(d d':D) (v u:V) (x y:ah),d∈ds->d'∈es->cx H v d->cx H u d'->Yw v x->Yw u y->SeqAt.EqAt A s x y (dQ d d')):
  ∀j (q1:j<its.toArray.size) (q2:j<cD.toArray.size),SeqAt.EqAt A s its.toArray[j] cD.toArray[j]<|dQ (ds.getD j .non)<|es.getD j .non:=by
 intro j q1 q2;let l1:=r1.length;let l2:=r2.length;let QD:j<xs.length:=by rw[l1];simpa using q1
 let QF:j<ys.length:=by rw[l2];simpa using q2
 let⟨d,hd,den⟩:=h1.get (i:=j)<|Ê QD;let⟨d',hd',y_⟩:=h2.get (i:=j)<|Ê QF;let⟨u,hu,ru⟩:=r1.get<|Ê QD;let⟨u',hu',pH⟩:=r2.get<|Ê QF;rw[YLA hd,YLA hd'];let e1:its.toArray[j]=u:=by
  have:its.toArray[j]?=À u:=by simpa using hu
  rw[Array.getElem?_eq_getElem q1]at this;show Û this
 let e2:cD.toArray[j]=u':=by
  have:cD.toArray[j]?=À u':=by simpa using hu'
  rw[Array.getElem?_eq_getElem q2]at this;show Û this
 rw[e1,e2];show ih d d' _ _ _ _ (Ð hd) (Ð hd') den y_ ru pH
def ϭ(hk:k=dQ d d')(hok:d.ok=Â)(h1:cx H (.ref a) d)(h2:cx H (.ref b) d')(rc:SeqAt.RcAt A s (.ref a) (.ref b) k)(ne:SeqAt.RcNeAt A s (.ref a) (.ref b)<|!k):Cmp A s (.ref a) (.ref b)<|dQ d d':=by
 subst hk;show⟨?_,rc,ne⟩;by_cases hab:a=b;subst hab;have:=h1.uniq h2;subst this;rw[ż _ hok];show .same _;show .of_refs hab rc
def kP(I:aX X O σ H s):∀(n:Nat) (A:Around) (d d':D) (v u:V) (x y:ah),d.ok=Â->d'.ok=Â->d.dep<=n->A.units+n<cLine->cx H v d->cx H u d'->Yw v x->Yw u y->Cmp A s x y (dQ d d'):=by
 intro n
 induction n with
 |zero=>
  intro A d d' v u x y hok hok' hn hu h h' r r';let hu':A.units<cLine:=by lia
  cases d with
  |lst ds=>unfold D.dep at hn;lia
  |tup ds=>unfold D.dep at hn;lia
  |oth=>unfold D.ok at hok;cases hok
  |non=>
   unfold cx at h;subst h;cases r;cases d' with
   |non=>unfold cx at h';subst h';cases r';unfold dQ;show⟨.same _,.none_none,.none_none⟩
   |bl b=>unfold cx at h';subst h';cases r';unfold dQ;show⟨.none_bool _,.none_bool _,.none_bool _⟩
   |int b=>unfold cx at h';subst h';let⟨t,Z⟩:=r';unfold dQ;show⟨.none_int _ _,.none_int _ _,.none_int _ _⟩
   |str b=>unfold cx at h';subst h';let⟨t,Z⟩:=r';unfold dQ;show⟨.none_str _ _,.none_str _ _,.none_str _ _⟩
   |lst ds=>let⟨a,xs,Z,e2,_⟩:=h'.to_lst;cases r';let⟨_,_,p,_⟩:=I.list<|.inl e2;unfold dQ;show⟨.none_list p.isList hu',.none_list p.isList hu',.none_list p.isList hu'⟩
   |tup ds=>let⟨a,xs,Z,e2,_⟩:=h'.to_tup;cases r';let⟨_,_,p,_⟩:=I.tuple<|.inl<|.inl e2;unfold dQ;show⟨.none_tuple p hu',.none_tuple p hu',.none_tuple p hu'⟩
   |oth=>unfold D.ok at hok';cases hok'
  |bl c=>
   unfold cx at h;subst h;cases r;cases d' with
   |non=>unfold cx at h';subst h';cases r';unfold dQ;show⟨.bool_none _,.bool_none _,.bool_none _⟩
   |bl b=>unfold cx at h';subst h';cases r';unfold dQ;show⟨.bool_bool _ _,.bool_bool _ _,.bool_bool _ _⟩
   |int b=>unfold cx at h';subst h';let⟨t,Z⟩:=r';unfold dQ;show⟨.bool_int _ _ _,.bool_int _ _ _,.bool_int _ _ _⟩
   |str b=>unfold cx at h';subst h';let⟨t,Z⟩:=r';unfold dQ;show⟨.bool_str _ _ _,.bool_str _ _ _,.bool_str _ _ _⟩
   |lst ds=>let⟨a,xs,Z,e2,_⟩:=h'.to_lst;cases r';let⟨_,_,p,_⟩:=I.list<|.inl e2;unfold dQ;show⟨.bool_list _ p.isList hu',.bool_list _ p.isList hu',.bool_list _ p.isList hu'⟩
   |tup ds=>let⟨a,xs,Z,e2,_⟩:=h'.to_tup;cases r';let⟨_,_,p,_⟩:=I.tuple<|.inl<|.inl e2;unfold dQ;show⟨.bool_tuple _ p hu',.bool_tuple _ p hu',.bool_tuple _ p hu'⟩
   |oth=>unfold D.ok at hok';cases hok'
  |int c=>
   unfold cx at h;subst h;let⟨t,Z⟩:=r;cases d' with
   |non=>unfold cx at h';subst h';cases r';unfold dQ;show⟨.int_none _ _,.int_none _ _,.int_none _ _⟩
   |bl b=>unfold cx at h';subst h';cases r';unfold dQ;show⟨.int_bool _ _ _,.int_bool _ _ _,.int_bool _ _ _⟩
   |int b=>unfold cx at h';subst h';let⟨t,Z⟩:=r';unfold dQ;show⟨.int_int _ _ _ _,.int_int _ _ _ _,.int_int _ _ _ _⟩
   |str b=>unfold cx at h';subst h';let⟨t,Z⟩:=r';unfold dQ;show⟨.int_str _ _ _ _,.int_str _ _ _ _,.int_str _ _ _ _⟩
   |lst ds=>let⟨a,xs,Z,e2,_⟩:=h'.to_lst;cases r';let⟨_,_,p,_⟩:=I.list<|.inl e2;unfold dQ;show⟨.int_list _ _ p.isList hu',.int_list _ _ p.isList hu',.int_list _ _ p.isList hu'⟩
   |tup ds=>let⟨a,xs,Z,e2,_⟩:=h'.to_tup;cases r';let⟨_,_,p,_⟩:=I.tuple<|.inl<|.inl e2;unfold dQ;show⟨.int_tuple _ _ p hu',.int_tuple _ _ p hu',.int_tuple _ _ p hu'⟩
   |oth=>unfold D.ok at hok';cases hok'
  |str c=>
   unfold cx at h;subst h;let⟨t,Z⟩:=r;cases d' with
   |non=>unfold cx at h';subst h';cases r';unfold dQ;show⟨.str_none _ _,.str_none _ _,.str_none _ _⟩
   |bl b=>unfold cx at h';subst h';cases r';unfold dQ;show⟨.str_bool _ _ _,.str_bool _ _ _,.str_bool _ _ _⟩
   |int b=>unfold cx at h';subst h';let⟨t,Z⟩:=r';unfold dQ;show⟨.str_int _ _ _ _,.str_int _ _ _ _,.str_int _ _ _ _⟩
   |str b=>unfold cx at h';subst h';let⟨t,Z⟩:=r';unfold dQ;show⟨.str_str _ _ _ _,.str_str _ _ _ _,.str_str _ _ _ _⟩
   |lst ds=>let⟨a,xs,Z,e2,_⟩:=h'.to_lst;cases r';let⟨_,_,p,_⟩:=I.list<|.inl e2;unfold dQ;show⟨.str_list _ _ p.isList hu',.str_list _ _ p.isList hu',.str_list _ _ p.isList hu'⟩
   |tup ds=>let⟨a,xs,Z,e2,_⟩:=h'.to_tup;cases r';let⟨_,_,p,_⟩:=I.tuple<|.inl<|.inl e2;unfold dQ;show⟨.str_tuple _ _ p hu',.str_tuple _ _ p hu',.str_tuple _ _ p hu'⟩
   |oth=>unfold D.ok at hok';cases hok'
 |succ n ih=>
  intro A d d' v u x y hok hok' hn hu h h' r r';let hu':A.units<cLine:=by lia
  let DU:A.in1.units+n<cLine:=by change A.units+1+n<cLine;lia
  cases d with
  |lst ds=>
   let hn':∀d∈ds,d.dep<=n:=λd hd=>by
    let h1:=YHh hd;unfold D.dep at hn;lia
   let⟨a,xs,Z,e2,e3⟩:=h.to_lst;cases r;let⟨its,r1,p,_⟩:=I.list<|.inl e2;cases d' with
   |oth=>unfold D.ok at hok';cases hok'
   |non=>unfold cx at h';subst h';cases r';unfold dQ;show⟨.list_none p.isList hu',.list_none p.isList hu',.list_none p.isList hu'⟩
   |bl b=>unfold cx at h';subst h';cases r';unfold dQ;show⟨.list_bool _ p.isList hu',.list_bool _ p.isList hu',.list_bool _ p.isList hu'⟩
   |int b=>unfold cx at h';subst h';let⟨t,Z⟩:=r';unfold dQ;show⟨.list_int _ _ p.isList hu',.list_int _ _ p.isList hu',.list_int _ _ p.isList hu'⟩
   |str b=>unfold cx at h';subst h';let⟨t,Z⟩:=r';unfold dQ;show⟨.list_str _ _ p.isList hu',.list_str _ _ p.isList hu',.list_str _ _ p.isList hu'⟩
   |tup es=>let⟨b,ys,Z,f2,f3⟩:=h'.to_tup;cases r';let⟨_,_,p2,_⟩:=I.tuple<|.inl<|.inl f2;unfold dQ;show⟨.list_tuple p.isList p2 hu',.list_tuple p.isList p2 hu',.list_tuple p.isList p2 hu'⟩
   |lst es=>
    let mL:=hok;let mO:=hok';unfold D.ok at mL mO;let⟨b,ys,Z,f2,f3⟩:=h'.to_lst;cases r';let⟨cD,r2,p2,_⟩:=I.list<|.inl f2;let n1:its.toArray.size=ds.length:=by rw[Ô,<-r1.length,e3.len]
    let n2:cD.toArray.size=es.length:=by rw[Ô,<-r2.length,f3.len]
    by_cases hl:ds.length=es.length;let items:=YLB (A:=A.in1) e3 f3 r1 r2 λd d' v u x y hd hd' q1 q2 q3 q4=>(ih A.in1 d d' v u x y (B9 mL hd) (B9 mO hd') (hn' d hd) DU q1 q2 q3 q4).eq;show ϭ (k:=(List.range its.toArray.size).all λj=>dQ (ds.getD j .non)<|es.getD j .non) ?_ hok h h' (.lists p.isList p2.isList (by rw[n1,n2,hl]) hu' items) (.lists p.isList p2.isList (by rw[n1,n2,hl]) hu' items);rw[n1,<-ϕ hl,qv];show ϭ (k:=false) ?_ hok h h' (.lists_lengths p.isList p2.isList (by rw[n1,n2];simpa using hl) hu') (.lists_lengths p.isList p2.isList (by rw[n1,n2];simpa using hl) hu');unfold dQ;rw[Ũ hl]
  |tup ds=>
   let hn':∀d∈ds,d.dep<=n:=λd hd=>by
    let h1:=YHh hd;unfold D.dep at hn;lia
   let⟨a,xs,Z,e2,e3⟩:=h.to_tup;cases r;let⟨its,r1,p,_⟩:=I.tuple<|.inl<|.inl e2;cases d' with
   |oth=>unfold D.ok at hok';cases hok'
   |non=>unfold cx at h';subst h';cases r';unfold dQ;show⟨.tuple_none p hu',.tuple_none p hu',.tuple_none p hu'⟩
   |bl b=>unfold cx at h';subst h';cases r';unfold dQ;show⟨.tuple_bool _ p hu',.tuple_bool _ p hu',.tuple_bool _ p hu'⟩
   |int b=>unfold cx at h';subst h';let⟨t,Z⟩:=r';unfold dQ;show⟨.tuple_int _ _ p hu',.tuple_int _ _ p hu',.tuple_int _ _ p hu'⟩
   |str b=>unfold cx at h';subst h';let⟨t,Z⟩:=r';unfold dQ;show⟨.tuple_str _ _ p hu',.tuple_str _ _ p hu',.tuple_str _ _ p hu'⟩
   |lst es=>let⟨b,ys,Z,f2,f3⟩:=h'.to_lst;cases r';let⟨_,_,p2,_⟩:=I.list<|.inl f2;unfold dQ;show⟨.tuple_list p p2.isList hu',.tuple_list p p2.isList hu',.tuple_list p p2.isList hu'⟩
   |tup es=>
    let mL:=hok;let mO:=hok';unfold D.ok at mL mO;let⟨b,ys,Z,f2,f3⟩:=h'.to_tup;cases r';let⟨cD,r2,p2,_⟩:=I.tuple<|.inl<|.inl f2;let n1:its.toArray.size=ds.length:=by rw[Ô,<-r1.length,e3.len]
    let n2:cD.toArray.size=es.length:=by rw[Ô,<-r2.length,f3.len]
    let items:=YLB (A:=A.in1) e3 f3 r1 r2 λd d' v u x y hd hd' q1 q2 q3 q4=>(ih A.in1 d d' v u x y (B9 mL hd) (B9 mO hd') (hn' d hd) DU q1 q2 q3 q4).eq;show ϭ (k:=(List.range<|min its.toArray.size cD.toArray.size).all (λj=>dQ (ds.getD j .non)<|es.getD j .non)&&its.toArray.size==cD.toArray.size) ?_ hok h h' (.tuples p p2 hu' items) (.tuples p p2 hu' items);rw[n1,n2,YK9];by_cases hl:ds.length=es.length;rw[ϕ hl,<-hl,Nat.min_self,beq_self_eq_true,Bool.and_true];rw[Ũ hl,beq_eq_false_iff_ne.mpr hl,Bool.and_false]
  |oth=>unfold D.ok at hok;cases hok
  |non=>show ih A .non d' v u x y hok hok' (by unfold D.dep;lia) (by lia) h h' r r'
  |bl b=>show ih A (.bl b) d' v u x y hok hok' (by unfold D.dep;lia) (by lia) h h' r r'
  |int b=>show ih A (.int b) d' v u x y hok hok' (by unfold D.dep;lia) (by lia) h h' r r'
  |str b=>show ih A (.str b) d' v u x y hok hok' (by unfold D.dep;lia) (by lia) h h' r r'
def YFH(K:W.Frag)(hK:X.K=K)(hu:X.A.units+64<cLine):fI X (compareOp .Eq) (λx y H Q=>∃d d',cx H x d/\cx H y d'/\d.ok=Â/\d'.ok=Â/\d.dep<=64/\Q (.bl<|dQ d d') H):=by
 subst hK;intro O s σ H x y v u Q I rx ry h;let⟨d,d',h1,h2,k1,k2,hd,q⟩:=h;show(kP I 64 X.A d d' x y v u k1 k2 hd hu h1 h2 rx ry).rc X.prog X.w _ _ ⟨.bl _,H,I,Z,q⟩
def YFI(K:W.Frag)(hK:X.K=K)(hu:X.A.units+64<cLine):fI X (compareOp .NotEq) (λx y H Q=>∃d d',cx H x d/\cx H y d'/\d.ok=Â/\d'.ok=Â/\d.dep<=64/\Q (.bl<|!dQ d d') H):=by
 subst hK;intro O s σ H x y v u Q I rx ry h;let⟨d,d',h1,h2,k1,k2,hd,q⟩:=h;show(kP I 64 X.A d d' x y v u k1 k2 hd hu h1 h2 rx ry).ne X.prog X.w _ _ ⟨.bl _,H,I,Z,q⟩
end
section
variable {X:Cx}{O:ac (ai×Obj)}{σ:St}{H:Hp}{s:al}{h':Heap}
def aX.turns{t':Nat}{ch:ac ai}(I:aX X O σ H s)(k:∀b o,b∉ch->s.heap.get? b=À o->h'.get? b=À o)(hf:∀b∈ch,ic X O H b):aX X O σ H { s with heap:=h',toks:=t' }:=by
 let nit:∀b u,H b=À u->b∉ch:=λb u e z=>by rw[(hf b z).1]at e;cases e
 show I.step (g':=s.gens) (d':=s.drawn) (ch:=ch) (λb hb=>⟨(hf b hb).2.2.2.1,(hf b hb).2.1,(hf b hb).2.2.2.2.1,(hf b hb).2.2.2.2.2⟩) (λb o _ _ hc e _=>k b o hc e) (λb o _ _ hc e _=>⟨o.slots,k b o hc e⟩) (λ_ _ _ _ n=>n)
  (λb o hc e=>⟨o,k b o hc e⟩) (λ_ _ e=>e) (λ_ _ _ e=>e) (λb ps e=>⟨#[],by rw[e];simp⟩) (λm hm=>?_) (λb u e=>?_) I.bare
 let⟨o,es,ep,ho,r⟩:=hm;show⟨o,es,ep,k _ o (λz=>(hf _ z).2.1 rfl) ho,r⟩;show(I.hok b u e).stay (λc v hc q=>k c v ?_ q) (λ_ q=>q) λ_ _ q=>q;rcases hc with z|z
 rw[z];show nit b u e;show nit c _ z
def aX.trackT{T:ai}{xs:ac V}{its:ac ah}(I:aX X O σ H s)(new:H T=Á)(ht:IsTup s.heap T its.toArray)(rv:Yo xs its)(hz:xs.length<=sizeLine)(hs:∀o,X.s₀.heap.get? T≠À o)(hp:∀p∈X.pn++O,p.1≠T):
  aX X O σ (upd H T<|.tup xs) s:=by
 let⟨ot,QG,hct,nt,hdt⟩:=id ht;let hL:X.env.locals≠T:=λz=>by
  let⟨m,⟨o,es,ep,ho,hd',_⟩,_⟩:=I.loc;rw[z,QG]at ho;cases ho;rw[hdt]at hd';cases hd'
 let hC:∀x c,X.env.cells.lookup x=À c->c≠T:=λx c h1 z=>by
  let⟨v,o,ho,hd'⟩:=I.cell x c h1;rw[z,QG]at ho;cases ho;rw[hdt]at hd';cases hd'
 show⟨I.ok,I.os,I.bare,?_,I.loc,I.cell,by rw[YB hL];show I.free,λx c h1=>by rw[YB<|hC x c h1];show I.freeC x c h1,λp hp'=>?_,λa o ea=>?_,I.len⟩;show⟨I.base.keep,I.base.slot,λb o q n S=>by rw[YB<|λz=>hs o (by rw[<-z];show q)];show I.base.free b o q n S,I.base.there,
  λb xs q=>by have z:=I.base.tups b xs q;rw[YB<|YV z new];show z,λb ob u q=>by have z:=I.base.frzs b ob u q;rw[YB<|YV z new];show z,
  λb ps q=>by let⟨mo,z⟩:=I.base.tbls b ps q;show⟨mo,by rw[YB<|YV z new];show z⟩⟩
 let⟨p1,p2,p3⟩:=I.pin p hp';show⟨p1,by rw[YB<|hp p hp'];show p2,p3⟩;by_cases ha:a=T;subst ha;rw[YA]at ea;cases ea;show⟨hz,its,rv,ht⟩;rw[YB ha]at ea;show(I.hok a o ea).stay (λ_ _ _ q=>q) (λb q=>by rw[YB<|YV q new];show q) λb xs q=>by rw[YB<|YV q new];show q
end
@[ext]def C9(K:W.Frag)(a:ai):It:=
 ⟨λi H=>∃xs x,bG K H a xs/\xs[i]?=À x,λi H v H'=>∃T,H T=Á/\v=.ref T/\∀xs,bG K H a xs->∃x,xs[i]?=À x/\H'=upd H T (.tup [.int i,x]),λi H=>∃xs,bG K H a xs/\xs.length<=i⟩
def YMY{P:Program}{w:World}{K:W.Frag}{jo:ac Expr}{k:Nat}{pos:Pos}(a e it:ai):
  kR P w K (.Tuple jo k pos) (C9 K a) [e,it] e (λi h=>(∃old,IsEnum h e it (i:Nat) old)/\h.IsListIter it a i/\e≠it) where
 mem:=by simp
 obj:=λi h st b hb=>by
  let⟨⟨old,he⟩,⟨o,eo,c,d⟩,_⟩:=st;rcases YO9.mp hb with rfl|hb
  show⟨_,he,λv z=>by cases z⟩;let eb:b=it:=by simpa using hb
  subst eb;show⟨o,eo,λv z=>by rw[d]at z;cases z⟩
 keep:=λi h h' st k=>by
  let⟨⟨old,he⟩,DV,hne⟩:=st;show⟨⟨old,k e (by simp) _ he⟩,DV.at λo x=>k it (by simp) o x,hne⟩
 item:=by
  intro X hP hw hK hc i O s σ H E I hf st hg;subst hP hw hK;let⟨⟨old,he⟩,DV,hne⟩:=st;let⟨xs,x,hq,S⟩:=hg;let⟨its,rv,p,hz⟩:=I.list hq;let⟨u,hu,ru⟩:=rv.get S;show wpAny_pyNext_enum_item he DV p.isList (x:=u) (by simpa using hu) hne λh' ho hit' hT hsz hk=>?_;show⟨_,Z,wpAny_letOwnedTupleGo_enum (s:={ s with heap:=h',toks:=s.toks+1 }) ho λh'' he' hs'=>?_⟩;let DT:e<s.heap.objs.size:=Í he;let hTe:s.heap.objs.size≠e:=Nat.ne_of_gt DT;let kk:∀b o,b∉[e,it]->s.heap.get? b=À o->h''.get? b=À o:=λb o hb q=>by
   let h1:b≠e:=λz=>hb (by simp[z]);let h2:b≠it:=λz=>hb (by simp[z]);show(hs'.2 b h1).trans<|hk b o h1 h2 q
  let I1:aX X O σ H { s with heap:=h'',toks:=s.toks+1 }:=I.turns kk hf;let hT':h''.get? s.heap.objs.size=À { cls:=.type "tuple",data:=.seq #[.int i s.toks,u] }:=(hs'.2 _ hTe).trans hT;let hfr:H s.heap.objs.size=Á:=I.hok.fresh<|Å _;let I2:=I1.trackT (T:=s.heap.objs.size) (xs:=[.int i,x]) (its:=[.int i s.toks,u]) hfr ⟨_,hT',Z,_,Z⟩ (.cons ⟨_,Z⟩<|.cons ru .nil) (by change 2<=sizeLine;rw[sizeLine_eq];decide)
   (λo q=>absurd (Í q)<|Nat.not_lt.mpr I.sz) λp hp z=>absurd (Í (I.pin p hp).1) (by rw[z];show ó _)
  show⟨.ref s.heap.objs.size,_,I2,Z,⟨_,hfr,Z,λys hy=>⟨x,by rw[I.list_inj hy hq];show S,Z⟩⟩,⟨⟨_,by simpa using he'⟩,hit'.at λo q=>(hs'.2 it hne.symm).trans q,hne⟩,λb hb=>?_⟩;obtain⟨o,eo,_⟩:∃o,s.heap.get? b=À o/\True:=by
   rcases YO9.mp hb with rfl|hb
   show⟨_,he,trivial⟩;let eb:b=it:=by simpa using hb
   subst eb;let⟨o,eo,_⟩:=DV;show⟨o,eo,trivial⟩
  rw[YB<|Ü<|Í eo];show(hf b hb).1
 done:=by
  intro X hP hw hK hc i O s σ H E I hf st hg;subst hP hw hK;let⟨⟨old,he⟩,DV,hne⟩:=st;let⟨xs,hq,S⟩:=hg;let⟨its,rv,p,hz⟩:=I.list hq;let hl:=rv.length;show wpAny_pyNext_enum_end (I.ok.hd hc) he DV p.isList (Array.getElem?_eq_none (by simp;lia)) λh' eb=>⟨Z,I.turns (t':=s.toks) (λb o hb q=>eb b o (λz=>hb (by simp[z])) q) hf⟩
 self:=λ_ _ _ _ _ st h=>by
  let⟨⟨old,he⟩,_⟩:=st;show wpAny_pyIter_enum he h
section
variable {X:Cx}{jo:ac Expr}{k:Nat}{jm:Pos}
inductive YNm(K:W.Frag)(R:It->Hp->Prop)(vs:List V)(H1:Hp):Prop
 |mk (a:_):vs=[.ref a]->(∃xs,Rd H1 a (.lst xs))->R (C9 K a) H1->YNm K R vs H1
@[ext]def Cb(K:W.Frag)(ta:TA):TI:=λσ H R=>ta σ H λvs H1=>YNm K R vs H1
def o_(K:W.Frag)(hK:X.K=K){a:Expr}{ta:TA}{p pos:Pos}(hg:Gl X "enumerate")(hm:X.mg "enumerate"=Á)(ha:PA X [a] ta)(hs:starEach [a] X.env=[(Ã,eval a X.env)]:=by rfl):
  PI X (.Tuple jo k jm) (.Call (.Name "enumerate" p) [a] [] pos) (Cb K ta):=by
 subst hK;intro O s σ H R I h;show Call_<|nv I hg hm PyProof.Rows.Boot.«enumerate»<|PyProof.Rows.callWith_type1 (cy (ha pos O s σ H _ I h) λus s1 ⟨vs,H1,I1,r1,q1⟩=>?_) hs rfl;let⟨l,Z,⟨xs,hq⟩,q⟩:=q1;let⟨u,Z,ru⟩:=kf r1;cases ru;let⟨hz,its,n,rv,hl⟩:=(show ZA X.prog X.w H1 s1.heap l (.lst xs) from hq.ok I1.hok);show call_enumerate_1 hl λh' he DV hsz hk=>?_;let I2:aX X O σ H1 { s1 with heap:=h' }:=I1.kept (t':=s1.toks) hk;show wpAny_pyIter_enum he ?_;show⟨s1.heap.objs.size+1,[s1.heap.objs.size+1,s1.heap.objs.size],_,_,H1,Z,I2,YMY l _ _,⟨⟨_,by simpa using he⟩,DV,Nat.succ_ne_self _⟩,λb hb=>?_,q⟩;rcases YO9.mp hb with rfl|hb
 show I1.fpOk (ò _)<|I1.hok.fresh<|ò _;let eb:b=s1.heap.objs.size:=by simpa using hb
 subst eb;show I1.fpOk (Å _)<|I1.hok.fresh<|Å _
def ϵ:∀{xs:ac V}{us:ac ah},xs.length=us.length->(∀(j:Nat) (x:V) (u:ah),xs[j]?=À x->us[j]?=À u->Yw x u)->Yo xs us
 |[],[],_,_=>.nil
 |[],_::_,h,_=>by cases h
 |_::_,[],h,_=>by cases h
 |x::xs,u::us,h,k=>.cons (k 0 x u Z rfl)<|ϵ (Nat.succ.inj h) λj y v h1 h2=>k (j+1) y v (by simpa using h1) (by simpa using h2)
def YNn{k:db}{v:ah}(h:zC k v=Â):Yw (kV k) v:=by
 rcases Zc h with ⟨i,t,rfl,rfl⟩|⟨x,t,rfl,rfl⟩
 show⟨t,Z⟩;show⟨t,Z⟩
end
@[ext]def YNo(DW:It)(n:Nat)(H:Hp)(item:Nat->V->Hp->Prop):Prop:=∀i H',YG H H'->YL H'->(i<n->DW.go i H'/\∀x H3,DW.yld i H' x H3->YG H' H3/\YL H3/\item i x H3)/\DW.stop n H'
def A3.g{item:Nat->V->Prop}(h:A3 DW n H item):YNo DW n H λi x _=>item i x:=λi H' s p=>
 ⟨λhi=>⟨((h i H' s).1 hi).1,λx H3 hy=>by let⟨e,it⟩:=((h i H' s).1 hi).2 x H3 hy;subst e;show⟨YG.refl _,p,it⟩⟩,(h i H' s).2⟩
def YHj{item:Nat->V->Hp->Prop}(p:Nat->Bool)(f:Nat->V)(hJ:YNo DW n H item)(hp:YL H)
  (hl:H l=Á)(hz:n<=sizeLine)(keep:St->Prop)(hk0:keep τ)
  (ht:∀(τ':St) (k:Nat) (x:V) (H':Hp) (Q1:St->VK) (Q2:St->Hp->Prop),keep τ'->item k x H'->k<n->YG H H'->YL H'->(∀τ4 H6,keep τ4->YG H' H6->YL H6->p k=Â->Q1 τ4 (f k) H6)->(∀τ4 H6,keep τ4->YG H' H6->YL H6->p k=Ã->Q2 τ4 H6)->
   g x τ' H' λτ4 H4=>tc τ4 H4 λb H5=>if b=Â then te τ4 H5 (Q1 τ4) else Q2 τ4 H5)
  (hq:∀H',YG H H'->YL H'->H' l=À (.lst<|((List.range n).filter p).map f)->Q (.ref l) H'):AT DW g tc te Q l τ H:=by
 show o9 n (λi ys τ' H2=>i<=n/\ys=((List.range i).filter p).map f/\keep τ'/\YG H H2/\YL H2/\H2 l=À (.lst ys)) ⟨Ë _,Z,hk0,YG.upd hl,hp.upd Z,YA⟩ ?_ ?_;rintro i ys τ' H2 N DT ⟨hi,rfl,hk,hs,nJ,hll⟩ hN;let⟨hgo,_⟩:=hJ i _ hs nJ;let⟨h1,h2⟩:=hgo DT;show⟨h1,λx H3 hy=>?_⟩;let⟨s3,p3,it⟩:=h2 x H3 hy;let rs:(List.range<|i+1).filter p=(List.range i).filter p++(if p i=Â then [i] else []):=by
  rw[List.range_succ,ė];congr 1;cases hpi:p i <;> simp[hpi]
 let hl3:H3 l=À (.lst<|((List.range i).filter p).map f):=s3 _ _ hll;show ht τ' i x _ (λτ4 y H6=>H6 l=À (.lst<|((List.range i).filter p).map f)/\(((List.range i).filter p).map f).length<sizeLine/\N (((List.range i).filter p).map f++[y]) τ4 (upd H6 l<|.lst<|((List.range i).filter p).map f++[y]))
  (λτ4 H5=>N (((List.range i).filter p).map f) τ4 H5) hk it DT (hs.trans s3) p3 (λτ4 H6 k4 s6 p6 e=>?_) λτ4 H6 k4 s6 p6 e=>?_
 rw[e,if_pos Z]at rs;let h3:((List.range i).filter p).length<=i:=by
  have:=Ĉ p (List.range i)
  rwa [è]at this
 show⟨s6 _ _ hl3,by rw[Ä];lia,hN _ _ _ ⟨DT,by rw[rs,Î];rfl,k4,((hs.trans s3).trans s6).put hl,p6.upd Z,YA⟩⟩;rw[e,if_neg Ù,ß]at rs;show hN _ _ _ ⟨DT,by rw[rs],k4,(hs.trans s3).trans s6,p6,by rw[s6 _ _ hl3]⟩;rintro ys τ' H2 ⟨_,rfl,_,hs,nJ,hll⟩;show⟨(hJ n _ hs nJ).2,hq _ hs nJ hll⟩
section
variable {X:Cx}{elt tg iter:Expr}{ifs:ac Expr}{scope:Scope}{cl:ac (am×ai)}{N:ac am}{ρ:ac (ag Nat)}{pos:Pos}{wi:TI}{g:TG}{tc:TT}{te:TE}
def YMZ(hc:X.calm=Â)(DX:Zf X N ρ scope cl)
  (hg:∀C s₀ H₀ ex pn,PG (Zb X N scope cl C s₀ H₀ ex pn) tg g)(ht:∀C s₀ H₀ ex pn,BO (Zb X N scope cl C s₀ H₀ ex pn) ifs tc)(he:∀C s₀ H₀ ex pn,PE (Zb X N scope cl C s₀ H₀ ex pn) elt te)
  {O:ac (ai×Obj)}{s2:al}{σ:St}{H2:Hp}{it:ai}{fp:ac ai}{tn:Nat->Heap->Prop}{DW:It}{Q:VK}{RR:ah->ai->Result->al->Prop}(I2:aX X O σ H2 s2)(T:kR X.prog X.w X.K tg DW fp it tn)(iV:tn 0 s2.heap)(f2:∀b∈fp,ic X O H2 b)
  (q2:∀l,H2 l=Á->AT DW g tc te Q l (kM ρ σ) H2)
  (fin:∀(l C:ai) (s5:al) (H4:Hp) (m:am->ag ah),aX X O σ H4 s5->ic X O H4 C->s5.heap.Ns C m->Q (.ref l) H4->RR (.ref l) C (.ok .next) s5):
  wpAny (model X.prog X.w) X.A (newList []) (λacc s3=>wpAny (model X.prog X.w) X.A (newFunctionEnv scope X.env.globals cl [] X.env.qual Á .none<|some X.env) (λcenv s4=>
   codeAny (model X.prog X.w) X.A (.compStart (.ListComp elt [⟨tg,iter,ifs,0⟩] scope pos) 0 (.ref it) acc { cenv with scope:=relabel scope X.env }) (RR acc cenv.locals) s4) X.xe s3) X.xe s2:=by
 let⟨W,⟨m0,w0⟩,turn⟩:=q2 _<|I2.hok.fresh<|Å _;show wpAny_newObj_type<|wpAny_newFunctionEnv DX.nocell (by intro y hy;simp at hy) (λh₁ hns₁ hsb₁=>?_) DX.kind;dsimp only at hns₁ hsb₁ ⊢;let I3:aX X O σ (upd H2 s2.heap.objs.size<|.lst []) { s2 with heap:=s2.heap.push { cls:=.type "list",dict:=Á,data:=.seq ([]:ac ah).toArray } }:=
  I2.laid (t':=s2.toks) (λb u eo=>Ø _ eo) (Å _) ⟨by simp,[],0,.nil,Þ _ Z⟩
 generalize kj:({ s2 with heap:=s2.heap.push { cls:=.type "list",dict:=Á,data:=.seq ([]:ac ah).toArray } }:al)=s3 at I3;let sO:s2.heap.push { cls:=.type "list",dict:=Á,data:=.seq ([]:ac ah).toArray }=s3.heap:=by rw[<-kj]
 rw[sO]at hns₁ hsb₁ ⊢;let f3:∀b∈fp,ic X O (upd H2 s2.heap.objs.size<|.lst []) b:=λb hb=>by
  let⟨o,eo,_⟩:=T.obj _ _ iV b hb;show⟨by rw[YB<|Ü<|Í eo];show(f2 b hb).1,(f2 b hb).2⟩
 let u0:∀b∈fp,b<s3.heap.objs.size:=λb hb=>by
  let⟨o,eo,_⟩:=T.obj _ _ iV b hb;rw[<-sO,Heap.size_push];show Nat.lt_succ_of_lt<|Í eo
 let old:∀b o,s3.heap.get? b=À o->h₁.get? b=À o:=λb o eo=>hsb₁.extBut b o (Ü<|Í eo)<|Ø _ eo;let Ic:aX (Zb X N scope cl s3.heap.objs.size s3 (upd H2 s2.heap.objs.size<|.lst []) fp<|X.pn++O) [] (kM ρ σ) (upd H2 s2.heap.objs.size<|.lst []) { s2 with heap:=h₁,toks:=s2.toks+([]:ac (am×ah)).length }:=
  YIY DX I3 f3 u0 hns₁ old (by rw[<-kj] <;> rfl)
 let jl:∀{pl:ac (ai×Obj)}{H':Hp},pl=[]->(∀b∈fp,H' b=Á)->∀b∈fp,ic (Zb X N scope cl s3.heap.objs.size s3 (upd H2 s2.heap.objs.size<|.lst []) fp<|X.pn++O) pl H' b:=λ{pl H'} epl hn b hb=>by
  subst epl;show⟨hn b hb,Ü<|u0 b hb,λz=>?_,.inl hb,λx c h1=>(f2 b hb).2.2.2.2.1 x c (DX.sub x c h1),λp hp=>(f2 b hb).2.2.2.2.2 p (by simpa using hp)⟩;rcases YO9.mp (I3.stkSub b z) with z|z
  show(f2 b hb).2.1 z;show(f2 b hb).2.2.1 z
 let km:tn 0 h₁:=T.keep _ _ _ iV λb hb o eo=>old b o (by rw[<-sO];show Ø _ eo);let loop:codeAny (model X.prog X.w) X.A (.compLoop (.ListComp elt [⟨tg,iter,ifs,0⟩] scope pos) 0 (.ref it) (.ref s2.heap.objs.size)<|compEnvC scope cl s3.heap.objs.size X.env)
   (RR (.ref s2.heap.objs.size) s3.heap.objs.size) { s2 with heap:=h₁,toks:=s2.toks+([]:ac (am×ah)).length }:=by
  show YGe (λn s'=>∃i ys τ H',aX (Zb X N scope cl s3.heap.objs.size s3 (upd H2 s2.heap.objs.size<|.lst []) fp<|X.pn++O) [] τ H' s'/\tn i s'.heap/\(∀b∈fp,H' b=Á)/\W i n ys τ H') ?_ m0
   ⟨0,[],_,_,Ic,km,λb hb=>(f3 b hb).1,w0⟩
  rintro n s4 ⟨i,ys,τ,H4,I4,st,u9,w4⟩;rcases turn i n ys τ H4 w4 with ⟨stop,qn⟩|⟨go,step⟩
  ·show cy (T.done (Zb X N scope cl s3.heap.objs.size s3 (upd H2 s2.heap.objs.size<|.lst []) fp<|X.pn++O) Z rfl Z hc i [] s4 τ H4 _ I4 (jl Z u9) st stop) λr s5 ⟨hr,I5⟩=>?_;subst hr;let⟨m5,sS,_⟩:=I5.loc;let nO:∀b o,s5.heap.get? b=À o->s5.heap.get? b=À o:=λb o eo=>eo;let un:Un (fx X.stack) fp (upd H2 s2.heap.objs.size<|.lst []) H4 s3.heap s5.heap:=
    ⟨λb o eo n1 n2 n3=>I5.base.keep b o eo n1 n2 n3,λb o eo n1 n2 n3=>I5.base.slot b o eo n1 n2 n3,I5.base.free,λb o eo n1=>I5.base.there b o eo n1,I5.base.tups,I5.base.frzs,I5.base.tbls⟩
   let I6:aX X O σ H4 s5:=I3.call' (s':=s5) (ch:=fp) (show s5.os=s3.os from I5.os) un I5.hok I5.bare λb hb=>⟨(f3 b hb).2.2.2.1,(f3 b hb).2.1,(f3 b hb).2.2.2.2.1,(f3 b hb).2.2.2.2.2⟩;let fr:H4 s3.heap.objs.size=Á:=I5.free;show fin _ _ s5 H4 m5 I6 (I3.fpOk (Å _) fr) sS qn
  show cy (T.item (Zb X N scope cl s3.heap.objs.size s3 (upd H2 s2.heap.objs.size<|.lst []) fp<|X.pn++O) Z rfl Z hc i [] s4 τ H4 _ I4 (jl Z u9) st go) λr s5 ⟨u,hr,h5⟩=>?_;subst hr;show cy h5 ?_;rintro _ s6 ⟨x,H6,I6,r6,y6,lu,yW⟩;let I6':=I6.pinned (jl Z yW)<|T.obj _ _ lu;let again:∀{s9:al}{τ9:St}{H9:Hp}{zs:ac V}{m':Nat},aX (Zb X N scope cl s3.heap.objs.size s3 (upd H2 s2.heap.objs.size<|.lst []) fp<|X.pn++O) ([]++A7 fp s6.heap) τ9 H9 s9->m'<n->W (i+1) m' zs τ9 H9->
    ∃m,m<n/\∃i ys τ H',aX (Zb X N scope cl s3.heap.objs.size s3 (upd H2 s2.heap.objs.size<|.lst []) fp<|X.pn++O) [] τ H' s9/\tn i s9.heap/\(∀b∈fp,H' b=Á)/\W i m ys τ H':=λ{s9 τ9 H9 zs m'} I9 hm w9=>by
   show⟨m',hm,i+1,zs,τ9,H9,I9.unpinned,T.keep _ _ _ lu λb hb o eo=>(I9.pin (b,o)<|Ò _<|Ò _<|Jq hb eo).1,λb hb=>?_,w9⟩;let⟨o,eo,d⟩:=T.obj _ _ lu b hb;show(I9.pin (b,o)<|Ò _<|Ò _<|Jq hb eo).2.1
  show cy (hg _ _ _ _ _ _ s6 τ H6 x u _ I6' r6<|step x H6 y6) λ_ s7 ⟨τ7,H7,I7,q7⟩=>?_;show cy (ht _ _ _ _ _ _ s7 τ7 H7 _ I7 q7) λok s8 ⟨H8,I8,q8⟩=>?_;cases ok with
  |false=>
   rw[if_neg Ù]at q8 ⊢;let⟨m',hm,w9⟩:=q8;show again I8 hm w9
  |true=>
   rw[if_pos Z]at q8 ⊢;show cy (he _ _ _ _ _ _ s8 τ7 H8 _ I8 q8) ?_;rintro y s9 ⟨z,H9,I9,r9,yX,yZ,m',hm,w9⟩;show cy (Ϝ _ s9 τ7 H9 (.ref s2.heap.objs.size) [z] (.ref s2.heap.objs.size) [y] (λ_ H'=>H'=upd H9 s2.heap.objs.size (.lst<|ys++[z])) I9 Z (.cons r9 .nil) ⟨_,ys,z,Z,Z,yX,yZ,Z⟩) λ_ uc ⟨_,H10,I10,_,e10⟩=>?_;subst e10;show again I10 hm w9
 show codeAny_compStart_list loop<|T.self _ 0 _ _ _ km loop
@[ext]def Dk(i:Nat)(te:TE):TS:=λD σ H=>te σ H λv H1=>D.nx (σ.set i<|some v) H1
def qA{i:Nat}{y:am}{py spos:Pos}(hN:X.N.Nodup)(hi:X.N[i]?=À y)(hy:X.env.scope.names.lookup y=À .local)(hc:X.calm=Â)(DX:Zf X N ρ scope cl)(hI:PI X tg iter wi)
  (hg:∀C s₀ H₀ ex pn,PG (Zb X N scope cl C s₀ H₀ ex pn) tg g)(ht:∀C s₀ H₀ ex pn,BO (Zb X N scope cl C s₀ H₀ ex pn) ifs tc)(he:∀C s₀ H₀ ex pn,PE (Zb X N scope cl C s₀ H₀ ex pn) elt te)
  (WW:swapsWith (.ListComp elt [⟨tg,iter,ifs,0⟩] scope pos) (À<|.Name y py) spos.line X.env=pure Â:=by rfl)(hs:∀x,foldedSetIterable iter X.env x=pure x:=by intro _;rfl):
  PS X (.Assign [.Name y py] (.ListComp elt [⟨tg,iter,ifs,0⟩] scope pos) spos) (Dk i<|vk ρ wi g tc te):=by
 intro O s σ H D I h;rw[exec_Assign_Name_used _ _ _ _ WW];show Æ<|wpAny_standAt<|Æ ?_;change wpAny _ X.A (do let _ <-comprehension (.ListComp elt [⟨tg,iter,ifs,0⟩] scope pos) scope X.env _ (newList []) Ã (eval iter X.env) (À<|assign (.Name y py) X.env)) _ _ s;show Æ (wpAny_mono (wpAny_comprehension_free (use:=À<|assign (.Name y py) X.env) (Q:=λ_ s'=>SP X O D .next s') Z hs DX.clos DX.kind DX.loc
  (cy (hI O s σ H _ I h) λv s1 h1=>cy h1 λitv s2 h2=>?_)) (λ_ s' hq=>Ì<|Ì hq) λ_ _ e=>e)
 let⟨it,fp,tn,DW,H2,e,I2,T,iV,f2,q2⟩:=h2;subst e;show YMZ (RR:=λacc C=>compPost (model X.prog X.w) X.A X.xe (À<|assign (.Name y py) X.env) (λ_ s'=>SP X O D .next s') acc C) hc DX hg ht he I2 T iV f2 q2 λl C s5 H4 m I6 fC hn q=>?_;let⟨oC,es,ep,hoC,hdC,hrest⟩:=id hn;let I7:=I6.pinned (fp:=[C]) (λb hb=>by rw[YO0.mp hb];show fC)<|λb hb=>⟨oC,by rw[YO0.mp hb];show hoC,λv z=>by rw[hdC]at z;cases z⟩;change wpAny _ X.A (assign (.Name y py) X.env<|.ref l) _ _ s5;show wpAny_assign_Name<|DQ I7 hN hi (.inl hy) (v:=.ref l) rfl (λs6 I8=>?_)<|.inr hy;let za:=(I8.pin (C,oC)<|Ò _<|Ò _<|Jq (YO0.mpr rfl) hoC);show⟨m,⟨oC,es,ep,za.1,hdC,hrest⟩,λh' hs'=>?_⟩;let fC':∀b∈[C],ic X O H4 b:=λb hb=>by rw[YO0.mp hb];show fC
 show⟨_,H4,I8.unpinned.turns (t':=s6.toks) (λb o hb eo=>(hs'.2 b<|λz=>hb<|YO0.mpr z).trans eo) fC',q⟩
end
def YIb(h1:x.length<=1000)(h2:-1000<=n)(h3:n<=1000):MulOk x n:=by
 show⟨?_,λhn _=>?_,λhn _=>?_⟩;rw[Bool.or_eq_false_iff];show⟨eI (by lia),eI (by lia)⟩;intro hgt;let hn':0<n:=by lia
 let h4:=(Int.ediv_lt_iff_lt_mul hn').mp hgt;let h5:(x.length:Int)*n<=1000*1000:=Int.mul_le_mul (by lia) h3 (by lia) (by lia);lia;change decide (x.length*n.toNat>sizeLine)=Ã;show eI ?_;let h5:x.length*n.toNat<=1000*1000:=Nat.mul_le_mul h1 (by lia);rw[sizeLine_eq];lia
def YKH:fI X (binaryOp .Mult) (λx y H Q=>∃i n,x=.str i/\y=.int n/\i.length<=1000/\-1000<=n/\n<=1000/\Q (.str<|Txt.mul i n) H):=by
 intro O s σ H x y v u Q I rx ry h;let⟨i,n,Z,Z,h1,h2,h3,q⟩:=h;let⟨t,Z⟩:=rx;let⟨t',Z⟩:=ry;show SB.mul (YIb h1 h2 h3) λt' k=>⟨.str _,H,I.tok _,⟨_,Z⟩,q⟩
def Cf{α:Type}{xs:ac α}{i:Int}(h0:0<=i)(h1:i<xs.length):∃v,fS xs i=À v/\v∈xs:=by
 let hj:i.toNat<xs.length:=by omega
 let e:((i.toNat:Nat):Int)=i:=by omega
 show⟨xs[i.toNat],?_,Ą hj⟩;let h:=ZB (xs:=xs) (j:=i.toNat) (v:=xs[i.toNat]) (by simp[hj]);rw[e]at h;show h
def CZ(a b:am):(a++b).length=a.length+b.length:=by
 change(a++b).cps.size=a.cps.size+b.cps.size;show Array.size_append ..
def jp(h1:0<=x)(h2:x<=1000):(-(2^62):Int)<=x/\x<2^62:=⟨Int.le_trans (by decide) h1,Int.lt_of_le_of_lt h2 (by decide)⟩
def YKI(h:kH H):YL H:=λa o e=>by
 rcases h a with z|⟨ob,xs,z⟩
 rw[e]at z;cases z;rw[e]at z;cases z;rfl
@[ext]def YHk:Expr->Bool
 |.Starred _ _=>Ã
 |_=>Â
def YMa(h:YHk e=Â):starEach (e::es) env=(Ã,eval e env)::starEach es env:=by
 cases e <;> first|rfl|cases h
def Yz(ha:PE X e te)(hr:PA X es t)(h:YHk e=Â:=by rfl):PA X (e::es)<|lx te t:=YI ha hr<|YMa h
section
variable {X:Cx}
end
def Ϩ:fillsNumberSlot (.type "tuple") "mul"=pure Ã:=
 PySem.fillsNumberSlot_seq (id:="tuple.__mul__") (r:=À<|.builtin "tuple.__rmul__") F.slot_tuple_mul.lookup (by decide+kernel) F.slot_tuple_rmul.lookup (by decide+kernel)
def υ:seqRepeat? (.type "tuple")=pure (À<|.builtin "tuple.__mul__"):=by
 unfold seqRepeat?;rw[PySem.seqSlot_of (T:="tuple") (name:="__mul__") (id:="tuple.__mul__") F.slot_tuple_mul.lookup (by decide+kernel),PySem.seqSlot_of (T:="tuple") (name:="__rmul__") (id:="tuple.__rmul__") F.slot_tuple_rmul.lookup (by decide+kernel)];rfl
def YNp(l:ai)(items:Array ah)(n:Nat)(dd:ag ai)(sl:Array<|ag ah)(x:Int)(u:Tok)(hc0:¬(x < -(2^63) || x>=2^63)=Â)(hc1:¬(items.isEmpty || x==1)=Â)(hc2:¬(decide (x<=0) || items.isEmpty)=Â)(hc3:¬(items.size*x>(2^63-1) / 8))(hc4:¬Builtin.Tuple.tupleTooMany (items.size*x)=Â)(hsz:(List.foldl (λx1 x2=>x1++x2) #[] (List.replicate x.toNat items)).size<=sizeLine):
  Meets (Builtin.«tuple.__mul__» ⟨[.ref l,.int x u],[]⟩) (λ_ R s=>s.heap.get? l=À { cls:=.type "tuple",dict:=dd,data:=.seq items n,slots:=sl }/\R (.ok<|.ret<|Value.ref s.heap.objs.size) { s with heap:=s.heap.push { cls:=Value.type "tuple",data:=Data.seq (List.foldl (λx1 x2=>x1++x2) #[] (List.replicate x.toNat items)) },toks:=s.toks }):=
 .of_wp λprog w A R s h=>by
  let⟨hp,g,d,tk,os⟩:=s;let⟨hl,h⟩:=h
  wp_walk using wpAny_loadPart' hl
  rw[if_neg hc0]
  wp_walk using wpAny_loadPart' hl
  rw[if_neg hc3]
  wp_walk using wpAny_loadPart' hl
  show⟨_,Z,h⟩
section
variable {X:Cx}
end
def AO(o:Obj)(u:HO):Yx (.frz o u)=Â:=by
 induction u generalizing o with
 |frz o' w ih=>show ih o'
 |_=>rfl
@[ext]def plU:ag HO->ag HO
 |some (.dT _)=>Á
 |u=>u
@[ext]def kg(H:Hp):Hp:=λa=>plU<|H a
def yb(h:Yx u=Â):plU (À u)=À u:=by
 cases u with
 |dT k=>cases h
 |_=>rfl
def BM(e:H a=À u)(h:Yx u=Â):kg H a=À u:=by
 unfold kg;rw[e];show yb h
def ř(e:H a=Á):kg H a=Á:=by
 unfold kg;rw[e];rfl
def YNq(e:kg H a=À u):H a=À u/\Yx u=Â:=by
 unfold kg at e;cases h:H a with
 |none=>rw[h]at e;cases e
 |some v=>
  rw[h]at e;cases v with
  |dT k=>cases e
  |frz o w=>cases e;show⟨Z,AO _ _⟩
  |_=>cases e;show⟨Z,Z⟩
def YGk(H:Hp):YL<|kg H:=λ_ _ e=>(YNq e).2
def YIc(s:YG H0 H)(p:YL H0):YG H0<|kg H:=λb u e=>BM (s b u e)<|p b u e
section
variable {X:Cx}{O:ac (ai×Obj)}{σ:St}{H:Hp}{s:al}
def aX.dropAll(I:aX X O σ H s):aX X O σ (kg H) s:=by
 show⟨I.ok,I.os,I.bare,⟨I.base.keep,I.base.slot,λb o q n S=>ř<|I.base.free b o q n S,I.base.there,λb xs q=>?_,λb ob u q=>?_,λb ps q=>?_⟩,I.loc,I.cell,ř I.free,λx c h1=>ř<|I.freeC x c h1,λp hp'=>?_,λa u ea=>?_,I.len⟩;show BM (I.base.tups b xs q) Z;let z:=I.base.frzs b ob u q;unfold kg;rw[z];rfl;let⟨mo,z⟩:=I.base.tbls b ps q;show⟨mo,BM z Z⟩;let⟨p1,p2,p3⟩:=I.pin p hp';show⟨p1,ř p2,p3⟩;show(I.hok a u (YNq ea).1).stay (λ_ _ _ e=>e) (λb e=>BM e Z) λb xs e=>BM e Z
end
section
variable {X:Cx}{pos:Pos}
@[ext]def tPl(t:TE):TE:=λσ H Q=>t σ H λv H1=>Q v<|kg H1
def vw{e:Expr}{t:TE}(h:PE X e t):PE X e<|tPl t:=by
 intro O s σ H Q I hw;show cy (h O s σ H _ I hw) λv s1 ⟨x,H1,I1,r1,q⟩=>?_;show⟨x,_,I1.dropAll,r1,q⟩
end
end L2
namespace FR
open PySem L2
structure BN(X:Cx)(st:List Stmt)(t:TS):Prop where h:gp X st t
structure QS(X:Cx)(st:Stmt)(t:TS):Prop where h:PS X st t
def YE{X:Cx}{st:Stmt}{Yu:ac Stmt}{t u:TS}(h1:QS X st t)(h2:BN X Yu u):BN X (st::Yu)<|sC t u:=⟨YF h1.h h2.h⟩
def Y8(h1:QS X st t):BN X [st] t:=⟨YD h1.h⟩
structure QE(X:Cx)(e:Expr)(t:TE):Prop where h:PE X e t
structure QA(X:Cx)(es:List Expr)(t:TA):Prop where h:PA X es t
def X6:QA X [] lP:=⟨Ys⟩
def X7(ha:QE X e te)(hr:QA X es t)(h:YHk e=Â:=by rfl):QA X (e::es)<|lx te t:=⟨Yz ha.h hr.h h⟩
def Z1{i j pos}:QE X (.Constant (.int i) j pos)<|tC<|.int i:=⟨YC⟩
def AH{x j pos}:QE X (.Constant (.str x) j pos)<|tC<|.str x:=⟨ZX⟩
def yn{x1 pos}(h:QA X es t):QE X (.Tuple es x1 pos)<|AE t:=⟨ZE h.h⟩
def lp{pos}(h:QA X es t):QE X (.List es pos)<|Cz t:=⟨Y6 h.h⟩
def ia(i:Nat)(DX:YJ X.N ps sc)(he:QE X e te)(hi:X.N[i]?=À x:=by rfl)(S:oZ X.env.scope x:=by first|show Or.inl rfl|show Or.inr rfl)(hs:swapsWith e (À<|.Name x gA) pos.line X.env=pure Ã:=by rfl)(hf:X.fn x=Â\/X.env.scope.names.lookup x=À .local:=by first|show .inl rfl|show .inr rfl|assumption):
  QS X (.Assign [.Name x gA] e pos) (k8 te<|Y7 i):=⟨YM8 DX.nd hi S he.h hs hf⟩
def fO{q:TS->Prop}(h:∃t,BN X st t/\q t):∃t,gp X st t/\q t:=let ⟨t,a,b⟩:=h;⟨t,a.h,b⟩
end FR
namespace L2
open PySem PySem.Spec PyProof.Rows
structure ű(K:W.Frag)(C:Addr):Prop where
 makes:W.makesIn K C=Â
 init:W.findIn K (.ref C) "__init__"=À (À<|.builtin "object.__init__")
 kp:W.keepIn K (.ref C)=Â
@[ext]def Μ(C:ai):TE:=λσ H Q=>∀x B,H x=Á->H B=Á->B≠x->Q (.ref x) (upd (upd H B<|.own x) x<|.ins C B [])
section
variable {X:Cx}{C:ai}{x:am}{p pos:Pos}
open PySem.W in
def n9(M:ű X.K C)(I:aX X O σ H s)
  (h:∀x B,H x=Á->H B=Á->B≠x->Q (.ref x) (L2.upd (L2.upd H B<|.own x) x<|.ins C B [])):
  wpAny (model X.prog X.w) X.A (PySem.call (.ref C) []) (EP X O σ Q) X.xe s:=by
 let hq:=h (s.heap.objs.size+1) s.heap.objs.size (I.hok.fresh<|ò _) (I.hok.fresh<|Å _)<|Ü<|û _;let I2:=aX.made (C:=C) I;let kin:=I.kIn;let⟨hh,g,d,t,os⟩:=s;let Y:=makes_of (M:=model X.prog X.w) kin M.makes;let S:((hh.push emptyDict).push<|instObj C hh.objs.size).get? (hh.objs.size+1)=À (instObj C hh.objs.size):=by heap_get
 let t1:Looks (model X.prog X.w) ((hh.push emptyDict).push<|instObj C hh.objs.size) (typeOf<|.ref<|hh.objs.size+1)<|.ref C:=(Looks.ld S).andThen .now;let t2:Looks (model X.prog X.w) ((hh.push emptyDict).push<|instObj C hh.objs.size) (isInstance (.ref<|hh.objs.size+1)<|.type "object") Â:=t1.andThen<|Y.top.keeps λb o e=>Ø _<|Ø _ e;show wpAny_call<|make_core Y (looks_findIn kin M.init) (λself=>Looks.of_pure<|oi_bind self) (.inr ⟨Z,Z⟩) ?_;show codeAny_call_builtin oi_plain entry_oi (@check_slot (model X.prog X.w) _ _ _ "object.__init__" "object" "__init__" (.ref<|hh.objs.size+1) [] [] _ oi_kind oi_split t2 (oi_args<|.ref<|hh.objs.size+1) ?_);rw[oi_run];show Ì<|And.intro rfl ⟨V.ref<|hh.objs.size+1,_,I2,Z,hq⟩
def Cm(M:ű X.K C)(hg:Gl X x)(hm:X.mg x=À (.ref C))(hdb:(x==("__debug__":am))=Ã:=by decide):PE X (.Call (.Name x p) [] [] pos)<|Μ C:=by
 intro O s σ H Q I h;show wpAny_Call_Name_kw<|xH I hg hm ?_ hdb;show W.callWith_K0 I.kIn M.kp<|n9 M I h
end
structure Yv(P:Program)(w:World)(K:W.Frag)(mg:Str->Option Value)(CX:gz)(k:Nat)(C:Addr)(m:Str)(ps:List Str)(sp:Sp):Prop where
 ok:∃f fd,(∀base,f_ P w K mg base CX k f fd ps sp)/\pT K C m f/\jv K fd ps []
structure nz(P:Program)(w:World)(K:W.Frag)(mg:Str->Option Value)(CX:gz)(k:Nat)(C:Addr)(ps:List Str)(sp:Sp):Prop where
 ok:∃f fd,(∀base,f_ P w K mg base CX k f fd ps sp)/\Mk K C f/\jv K fd ps []
section
variable {X:Cx}{CX:gz}{k j:Nat}{C:ai}{ps:ac am}{sp:Sp}{E:XK}{x m:am}{p pos bL:Pos}{e o:Expr}{es:ac Expr}{ta:TE}{t:TA}
def fJ(he:PE X o ta)(c:gu X.K C)(U:Yv X.prog X.w X.K X.mg CX k C m ps sp)(hr:JR j X.A)(S:XR CX X E)(ha:PA X (e::es) t)(hj:k<=j:=by decide)
  (hst:starEach (e::es) X.env=(Ã,eval e X.env)::starEach es X.env:=by rfl)(hpl:(backTo pos<|starEach es X.env).any (·.1)=Ã:=by rfl)
  (ht:eval (.Call (.Attribute o m bL) (e::es) [] pos) X.env=(do
   let ov <-eval o X.env
   standAt bL.atName
   let (f,first) <-holding [ov] (getMethod ov m pl)
   callWith pos f first (backTo pos<|starEach (e::es) X.env) (backToKw pos<|keywordEach [] X.env)):=by rfl):
  PE X (.Call (.Attribute o m bL) (e::es) [] pos) (Ġ C m sp [] E ta t):=by
 let⟨f,fd,G,me,b⟩:=U.ok;show mS he c me (G X.base) (hr.mono hj) b .nil S ha hst hpl ht
def fW(he:PE X o ta)(c:gu X.K C)(U:Yv X.prog X.w X.K X.mg CX k C m ps sp)(hr:JR j X.A)(S:XR CX X E)(hj:k<=j:=by decide)
  (ht:eval (.Call (.Attribute o m bL) [] [] pos) X.env=(do
   let ov <-eval o X.env
   standAt bL.atName
   let (f,first) <-holding [ov] (getMethod ov m pl)
   callWith pos f first (backTo pos<|starEach [] X.env) (backToKw pos<|keywordEach [] X.env)):=by rfl):
  PE X (.Call (.Attribute o m bL) [] [] pos) (Ġ C m sp [] E ta lP):=by
 let⟨f,fd,G,me,b⟩:=U.ok;show YNK he c me (G X.base) (hr.mono hj) b .nil S ht
def AU(U:nz X.prog X.w X.K X.mg CX k C ps sp)(hr:JR j X.A)(hm:X.mg x=À (.ref C))(S:XR CX X E)(ha:PA X (e::es) t)(hj:k+1<=j:=by decide)(hg:Gl X x:=by rfl)(hdb:(x==("__debug__":am))=Ã:=by decide)(he:starEach (e::es) X.env=(Ã,eval e X.env)::starEach es X.env:=by rfl)(hpl:(backTo pos<|starEach es X.env).any (·.1)=Ã:=by rfl):
  PE X (.Call (.Name x p) (e::es) [] pos) (we C sp [] E t):=by
 let⟨f,fd,G,M,b⟩:=U.ok;show nN M (G X.base) (hr.mono hj) hg hm b .nil S ha hdb he hpl
end
@[ext]def CF(i j:Int):Prop:=i.natAbs<2^4000/\j.natAbs<2^4000
def YGl(h:i.natAbs<2^4000):Builtin.Int.intBits i<=4000:=by
 unfold Builtin.Int.intBits;by_cases h0:i=0;subst h0;decide;have:=(Nat.log2_lt (by lia)).mpr h;split;lia;lia
def oX:fI X (binaryOp .Mult)<|rI CF λi j=>.int<|i*j:=Di λ_ _ _ _ _ _ _ hc q=>mul_int q<|PyProof.Rows.mulOk_of_bits (YGl hc.1) (YGl hc.2) (by decide)
def om(K:W.Frag)(hK:X.K=K)(he:PE X e ta)(hb:attributeBase e f X.env (eval e X.env)=eval e X.env):PE X (.Attribute e f pos)<|yv K ta f:=by subst hK;show xR he hb
def ow(K:W.Frag)(hK:X.K=K)(ha:PE X o ta)(hv:PE X value tv)(hs:swapsWith value (À<|.Attribute o f gA) pos.line X.env=pure Ã):PS X (.Assign [.Attribute o f gA] value pos)<|xi K ta tv f:=by subst hK;show AS ha hv hs
def df(K:W.Frag)(he:PE X e ta)(hK:X.K=K:=by rfl)(hb:attributeBase e f X.env (eval e X.env)=eval e X.env:=by rfl):PE X (.Attribute e f pos)<|yv K ta f:=om K hK he hb
def fy(K:W.Frag)(ha:PE X o ta)(hv:PE X value tv)(hK:X.K=K:=by rfl)(hs:swapsWith value (À<|.Attribute o f gA) pos.line X.env=pure Ã:=by rfl):PS X (.Assign [.Attribute o f gA] value pos)<|xi K ta tv f:=ow K hK ha hv hs
@[ext]def ja(lo c:Int)(n:Nat):It:=⟨λi _=>i<n,λi H x H'=>H'=H/\x=.int (lo+i*c),λi _=>n<=i⟩
def YId{P:Program}{w:World}{K:W.Frag}{tg:Expr}(it:ai)(lo c:Int)(n:Nat):kR P w K tg (ja lo c n) [it] it (λi h=>IsRangeIter h it (lo+(i:Nat)*c) ((n:Int)-(i:Nat)) c) where
 mem:=by simp
 obj:=λi h st b hb=>by
  let e:b=it:=by simpa using hb
  subst e;show⟨_,st,λv z=>by
   let z':Data.fields _=Data.cell v:=z;cases z'⟩
 keep:=λi h h' st k=>k it (by simp) _ st
 item:=by
  intro X hP hw hK hc i O s σ H E I hf st hg;subst hP hw hK;let⟨f0,f1,f2,f3,f4,f5⟩:=hf it (by simp);let W:=Walks.range (prog:=X.prog) (w:=X.w) (I.ok.hd hc) it lo c n;show W.item i s _ _ hg st λv h' tk hv st' kk=>?_;let⟨t,Z⟩:=hv;let I1:aX X O σ H { s with heap:=h',toks:=tk }:=I.turned (λb o hb e=>kk b o (by simpa using hb) e) f0 f1 f3 f4 f5;show⟨_,Z,Df (s:={ s with heap:=h',toks:=tk }) (n:="range_iterator") st' Z rfl (by decide) ⟨.int<|lo+i*c,H,I1,⟨t,Z⟩,⟨Z,Z⟩,st',λb hb=>(hf b hb).1⟩⟩
 done:=by
  intro X hP hw hK hc i O s σ H E I hf st hg;subst hP hw hK;let⟨f0,f1,f2,f3,f4,f5⟩:=hf it (by simp);show wpAny_pyNext_range_end (I.ok.hd hc) st (by have:n<=i:=hg;lia) λh' eb=>⟨Z,I.turned (t':=s.toks) (λb o hb e=>eb b o hb e) f0 f1 f3 f4 f5⟩
 self:=λ_ _ _ _ _ st h=>wpAny_pyIter_rangeiter st h
section
variable {X:Cx}{tg:Expr}
def YMb{O:ac (ai×Obj)}{σ:St}{H:Hp}{s:al}{R:It->Hp->Prop}{E:ah->al->Prop}{lo hi c:Int}{n:Nat}{t u v:Tok}{tk:Nat}(I:aX X O σ H s)(hs:Builtin.Range.small lo hi c=Â)(hn:Builtin.Range.rangeSize lo hi c=(n:Int))
  (q:R (ja lo c n) H):wpAny (model X.prog X.w) X.A (pyIter<|.ref s.heap.objs.size) (ϰ X O σ tg R) E { s with heap:=s.heap.push { cls:=.type "range",data:=.fields #[.int lo t,.int hi u,.int c v] },toks:=tk }:=by
 show wpAny_pyIter_range (IsRange.new ..) hs ?_;let I1:aX X O σ H { s with heap:=s.heap.push { cls:=.type "range",data:=.fields #[.int lo t,.int hi u,.int c v] },toks:=tk }:=I.kept λb o e=>Ø _ e;show⟨(s.heap.push { cls:=.type "range",data:=.fields #[.int lo t,.int hi u,.int c v] }).objs.size,[(s.heap.push { cls:=.type "range",data:=.fields #[.int lo t,.int hi u,.int c v] }).objs.size],_,_,H,Z,
  I1.kept (t':=tk) λb o e=>Ø _ e,YId _ lo c n,?_,λb hb=>?_,q⟩
 let e1:lo+((0:Nat):Int)*c=lo:=by simp
 let e2:((n:Nat):Int)-((0:Nat):Int)=Builtin.Range.rangeSize lo hi c:=by rw[hn];simp
 change IsRangeIter _ _ (lo+((0:Nat):Int)*c) (((n:Nat):Int)-((0:Nat):Int)) c;rw[e1,e2];show Þ _ Z;let e:b=(s.heap.push { cls:=.type "range",data:=.fields #[.int lo t,.int hi u,.int c v] }).objs.size:=by simpa using hb
 subst e;show I1.fpOk (Å _)<|I1.hok.fresh<|Å _
@[ext]def Ci(ta:TA):TI:=λσ H R=>ta σ H λvs H1=>∃(i j c:Int) (n:Nat),vs=[.int i,.int j,.int c]/\(c≠0/\c.natAbs<1073741824)/\Builtin.Range.small i j c=Â/\Builtin.Range.rangeSize i j c=(n:Int)/\R (ja i c n) H1
def YMc(hg:Gl X "range")(hm:X.mg "range"=Á)(ha:PA X [a,b,c] ta)(hs:starEach [a,b,c] X.env=[(Ã,eval a X.env),(Ã,eval b X.env),(Ã,eval c X.env)]:=by rfl)(hs2:starEach [b,c] X.env=[(Ã,eval b X.env),(Ã,eval c X.env)]:=by rfl):
  PI X tg (.Call (.Name "range" p) [a,b,c] [] pos) (Ci ta):=by
 intro O s σ H R I h;show Call_<|nv I hg hm boot_range<|PyProof.Rows.callWith_type1 (cy (ha pos O s σ H _ I h) λus s1 ⟨vs,H1,I1,r1,q1⟩=>?_) (by rw[hs,hs2]) (by rw[hs2];rfl);let⟨i,j,k,n,e,⟨k0,k1⟩,q1,q2,q⟩:=q1;subst e;cases r1 with
 |cons r rr=>
  cases rr with
  |cons r' rr=>
   cases rr with
   |cons QH rr=>
    cases rr;let⟨t,Z⟩:=r;let⟨t',Z⟩:=r';let⟨t'',Z⟩:=QH;show call_range_3 k0 (YMb I1 q1 q2 q)<|.inl<|PyProof.noPylong_small k1
end
def YKJ{lo c:Int}{n:Nat}{g:TG}{tb:TS}{D:Jg}{σ:St}{H:Hp}(Pv:Nat->St->Hp->Prop)(h0:Pv 0 σ H)
  (hs:∀i σ H,i<n->Pv i σ H->g (.int<|lo+i*c) σ H λσ2 H2=>tb { D with nx:=Pv (i+1),ct:=Pv (i+1),bk:=D.nx } σ2 H2)(hd:∀σ H,Pv n σ H->D.nx σ H):
  ∃W:Nat->Nat->St->Hp->Prop,(∃m,W 0 m σ H)/\∀i m σ H,W i m σ H->
   ((ja lo c n).stop i H/\D.nx σ H)\/((ja lo c n).go i H/\∃N:St->Hp->Prop,(∀σ' H',N σ' H'->∃m',m'<m/\W (i+1) m' σ' H')/\∀x H',(ja lo c n).yld i H x H'->g x σ H' λσ2 H2=>tb { D with nx:=N,ct:=N,bk:=D.nx } σ2 H2):=by
 show⟨λi m σ H=>m=n-i/\i<=n/\Pv i σ H,⟨n,by simp,Ë _,h0⟩,?_⟩;rintro i m σ H ⟨rfl,hi,p⟩;by_cases DT:i<n;show .inr ⟨DT,Pv<|i+1,λσ' H' p'=>⟨n-(i+1),by omega,Z,DT,p'⟩,λx H' y=>?_⟩;let⟨Z,Z⟩:=y;show hs i σ H' DT p;let e:i=n:=by omega
 subst e;show .inl ⟨Å _,hd σ H p⟩
section
variable {X:Cx}
def J7:tS X "str.startswith" (λx vs H Q=>∃z y,x=.str z/\vs=[.str y]/\Q (.bl<|Txt.startswith z y) H):=by
 intro O s σ H x xs v us Q I rx rs h;let⟨z,y,Z,Z,q⟩:=h;let⟨t,Z⟩:=rx;let⟨u,Z,t',Z⟩:=rs.one;show SC.startswith ⟨.bl _,H,I,Z,q⟩
end
section
variable {X:Cx}
end
section
open PySem.W
variable {K:W.Frag}{M:Model}
end
structure vS(X:Cx)(O:List (Addr×Obj))(σ:St)(H:Hp)(e:Addr)(cls:Value)(s:Shared):Prop where
 I:aX X O σ H s
 new:H e=Á
 fly:∃(DY:Heap) (a0:Value),Heap.FlyingW DY X.stack e cls a0 s.heap/\(∀b u,H b=À u->∃o,DY.get? b=À o)/\(∀b o,X.s₀.heap.get? b=À o->b∉fx X.stack->b∉X.ex->∃o',DY.get? b=À o')/\(∀p∈X.pn++O,∃o',DY.get? p.1=À o')
noncomputable abbrev TH:=ah->Jg->St->Hp->Prop
@[ext]def PH(X:Cx)(hs:ac ExceptHandler)(t:TH):Prop:=∀(O:ac<|ai×Obj) (s:al) (σ:St) (H:Hp) (e:ai) (cls:ah) (D:Jg),vS X O σ H e cls s->t cls D σ H->
 wpAny (model X.prog X.w) X.A (handleBy (.ref e) X.env hs) (SP X O D) X.xe s
@[ext]def CK(tb:Jg->(St->XK)->St->Hp->Prop)(th:TH):TS:=λD σ H=>tb D (λσ' cls _ H'=>th cls D σ' H') σ H
def YLC{X:Cx}{body:ac Stmt}{h₀:ExceptHandler}{hs:ac ExceptHandler}{pos:Pos}{tb:Jg->(St->XK)->St->Hp->Prop}{th:TH}(hex:X.ex=[])(hst:X.stack=X.env::X.outer)(hfr:X.env.frame=À X.env.locals)
  (hb:Cu X body tb)(hh:PH X (h₀::hs) th):PS X (.Try body (h₀::hs) [] [] pos)<|CK tb th:=by
 intro O s σ H D I h;show wpAny_Try_except<|wpAny_mono (hb O s σ H _ _ I h) (λf s1 q=>?_) λev s1 q=>?_
 ·cases f with
  |next=>show wpAny_execs_nil q
  |ret v=>show q
  |brk=>show q
  |cont=>show q
 let⟨σ',e,cls,H',DY,a0,Z,I1,fl,new,tr,old,pn,jM⟩:=q;let QJ:=fl;rw[hst]at QJ;show wpAny_looks_onW (I1.ok.frames.trans (by rw[hst])) hfr QJ λh4 uA WX=>?_;show wpAny_landsW uA λh5 zb WY=>?_;let I5:aX X O σ' H' { s1 with heap:=h5 }:=I1.moved hex fl.1 zb.1 (WX.trans WY) tr old pn;rw[<-hst]at zb;show hh O _ σ' H' e cls D ⟨I5,new,DY,a0,zb,tr,old,pn⟩ jM
section
variable {X:Cx}
def YLD{Yu:ac ExceptHandler}{D:Jg}(DZ:vS X O σ H e cls s)(hg:Gl X y)(hm:X.mg y=À (.ref C))(hd:(y==("__debug__":am))=Ã)(S:W.exmOne X.K cls (.ref C)=À b)
  (h:if b=Â then codeAny (model X.prog X.w) (X.A.mark<|some<|.ref e) (.handlers (.ref e) [.ExceptHandler Á nm suite hpos] X.env) (λr s₂=>match r with
     |.ok f=>(match nm with
      |none=>SP X O D f s₂
      |some n=>wpAny (model X.prog X.w) X.A (do bindName X.env n .none;unbindBehindTheSuite X.env n hpos) (λ_ s₃=>SP X O D f s₃) X.xe s₂)
     |.error x=>cameBackBy (model X.prog X.w) X.A X.env X.xe x s₂) s
   else wpAny (model X.prog X.w) X.A (handleBy (.ref e) X.env Yu) (SP X O D) X.xe s):
  wpAny (model X.prog X.w) X.A (handleBy (.ref e) X.env<|.ExceptHandler (À<|.Name y np) nm suite hpos::Yu) (SP X O D) X.xe s:=by
 let⟨DY,a0,fl,tr,old,pn⟩:=DZ.fly;let⟨oe,vs,he,hc,hdt,_⟩:=fl.first
 show wpAny_handleBy_cons (codeAny_handlers_test ?_) (by intro q;cases q);show xH (DZ.I.caught e) hg hm ?_ hd;let LT:W.Looks (model X.prog X.w) s.heap (typeOf<|.ref e) cls:=hc ▸ (W.Looks.ld he).andThen .now;let⟨hp,g,d,tk,os⟩:=s;show(W.exm_one (M:=model X.prog X.w) DZ.I.kIn LT S) _ _ _ _ (λ_ _ q=>q) ?_;cases b with
 |true=>show h
 |false=>show h
@[ext]def DD(K:W.Frag)(C:ai)(ts:TS)(th:TH):TH:=λcls D σ H=>(W.exmOne K cls (.ref C)=À Â/\ts D σ H)\/(W.exmOne K cls (.ref C)=À Ã/\th cls D σ H)
def YLE{y:am}{C:ai}{np hpos:Pos}{b₀:Stmt}{suite:ac Stmt}{Yu:ac ExceptHandler}{ts:TS}{th:TH}(hex:X.ex=[])(hg:Gl X y)(hm:X.mg y=À (.ref C))(hs:∀e,gp (X.caught e) (b₀::suite) ts)(hr:PH X Yu th)
  (hd:(y==("__debug__":am))=Ã:=by decide):PH X (.ExceptHandler (À<|.Name y np) Á (b₀::suite) hpos::Yu)<|DD X.K C ts th:=by
 intro O s σ H e cls D DZ h;rcases h with ⟨S,h⟩|⟨S,h⟩
 ·show YLD DZ hg hm hd S ?_;rw[if_pos Z];let⟨DY,a0,fl,tr,old,pn⟩:=DZ.fly;show codeAny_handlers_suite ?_;show lands_againW fl λh6 W0 W3=>?_;let I6:aX X O σ H { s with heap:=h6 }:=DZ.I.moved hex fl.1 W0.1 W3 tr old pn;show wpAny_mono (hs e O _ _ _ _ (I6.caught e) h) (λf s9 q=>?_) λ_ _ z=>z.elim;cases f with
  |next=>let⟨σ2,H2,I9,q⟩:=q;show⟨_,H2,I9.uncaught DZ.I.ok,q⟩
  |brk=>let⟨σ2,H2,I9,q⟩:=q;show⟨_,H2,I9.uncaught DZ.I.ok,q⟩
  |cont=>let⟨σ2,H2,I9,q⟩:=q;show⟨_,H2,I9.uncaught DZ.I.ok,q⟩
  |ret u=>let⟨v,σ2,H2,I9,r,q⟩:=q;show⟨v,_,H2,I9.uncaught DZ.I.ok,r,q⟩
 show YLD DZ hg hm hd S ?_;rw[if_neg Ù];show hr O s σ H e cls D DZ h
def YNr:PH X []<|λ_ _ _ _=>False:=λ_ _ _ _ _ _ _ _ h=>h.elim
end
section
variable {X:Cx}
end
section
variable {X:Cx}
end
end L2
namespace FR
open PySem L2
@[ext]def good(c:Nat):Bool:=decide (32<=c)&&decide (c<=126)&&!decide (c=37)
@[ext]def Z7(c:Nat):Bool:=decide (65<=c)&&decide (c<=90)
@[ext]def rq(z:am):Bool:=z.cps.size==2&&z.cps[0]?==À 39&&good (z.cps.getD 1 0)
@[ext]def dy(z:am):Bool:=decide (1<=z.cps.size)&&decide (z.cps.size<=8)&&z.cps.toList.all Z7
@[ext]def Zu(z:am):Bool:=decide (z.cps.size<=60)&&z.cps.toList.all good
@[ext]def Dc:D->Bool
 |.str z=>rq z
 |_=>Ã
@[ext]def fj:D->Bool
 |.str z=>dy z
 |_=>Ã
@[ext]def Xy(d:D):Bool:=Dc d || fj d
@[ext]def uk:D->Bool
 |.str z=>Zu z
 |_=>Ã
@[ext]def Xf:D->Bool
 |.int _=>Â
 |_=>Ã
@[ext]def X8:D->Bool
 |.int i=>decide (0<=i)&&decide (i<=10^60)
 |_=>Ã
@[ext]def X2:D->Bool
 |.tup ds=>decide (ds.length<=6)&&ds.all Xy
 |_=>Ã
@[ext]def JW:D->Bool
 |.tup [h,p,w]=>fj h&&(X2 p&&X8 w)
 |_=>Ã
@[ext]def JX:D->Bool
 |.lst ds=>decide (ds.length<=60)&&ds.all JW
 |_=>Ã
mutual
def _root_.L2.D.short:D->Bool
 |.str z=>decide (z.length<=1000)
 |.lst ds=>X9 ds
 |.tup ds=>X9 ds
 |_=>Â
def X9:ac D->Bool
 |[]=>Â
 |d::ds=>d.short&&X9 ds
end
def Jr:∀{xs:ac D}{d:D},X9 xs=Â->d∈xs->d.short=Â
 |x::xs,d,h,hd=>by
  unfold X9 at h;rw[Ó]at h;rcases YO9.mp hd with rfl|hd
  show h.1;show Jr h.2 hd
def Dg:∀{xs:ac D},(∀d∈xs,d.short=Â)->X9 xs=Â
 |[],_=>by unfold X9;rfl
 |x::xs,h=>by unfold X9;rw[h x É,Dg λd hd=>h d<|Ç _ hd];rfl
def Ϸ(h:z.length<=1000):(D.str z).short=Â:=by unfold D.short;show dA h
def YMd(h:(D.str z).short=Â):z.length<=1000:=by unfold D.short at h;show fq h
def YK(h:n<=1000):n<=sizeLine:=Ú h (by rw[sizeLine_eq];decide)
def kN:1<=sizeLine:=YK (by decide)
def kC:2<=sizeLine:=YK (by decide)
def iO:3<=sizeLine:=YK (by decide)
def kc:4<=sizeLine:=YK (by decide)
def CU:6<=sizeLine:=YK (by decide)
def ϯ:8<=sizeLine:=YK (by decide)
def ϥ(h:(D.str z).short=Â):z.length<=sizeLine:=YK<|YMd h
@[ext]def zo:D->Bool|.str _=>Â|_=>Ã
@[ext]def re:D->Bool|.lst _=>Â|_=>Ã
@[ext]def xp:D->Bool|.tup _=>Â|_=>Ã
@[ext]def YLF:D->Bool|.bl _=>Â|_=>Ã
@[ext]def xT:D->Bool|.int _=>Â|.bl _=>Â|_=>Ã
section
variable {K:W.Frag}
def YLG(d:D):W.kitOne K (.type<|BF d) (.type "int")=À (xT d):=by cases d <;> kernel_rfl
def YIe(d:D):W.kitOne K (.type<|BF d) (.type "bool")=À (YLF d):=by cases d <;> kernel_rfl
def ŧ(d:D):W.kitOne K (.type<|BF d) (.type "str")=À (zo d):=by cases d <;> kernel_rfl
def YFL(d:D):W.kitOne K (.type<|BF d) (.type "list")=À (re d):=by cases d <;> kernel_rfl
def YGm(d:D):W.kitOne K (.type<|BF d) (.type "tuple")=À (xp d):=by cases d <;> kernel_rfl
end
def xm(z:am):z.length=z.cps.size:=rfl
def ϊ(c:Nat):(!decide (([c]:ac Nat)<(("A":am)).cps.toList))=decide (65<=c):=by
 let e:(("A":am)).cps.toList=[65]:=by decide+kernel
 rw[e];by_cases h:65<=c;rw[dA h,eI (by rw[List.cons_lt_cons_iff];simp;omega)];rfl;rw[eI h,dA (by rw[List.cons_lt_cons_iff];left;omega)];rfl
def Ŷ(c:Nat):(!decide ((("Z":am)).cps.toList<([c]:ac Nat)))=decide (c<=90):=by
 let e:(("Z":am)).cps.toList=[90]:=by decide+kernel
 rw[e];by_cases h:c<=90;rw[dA h,eI (by rw[List.cons_lt_cons_iff];simp;lia)];rfl;rw[eI h,dA (by rw[List.cons_lt_cons_iff];left;lia)];rfl
def YNs(g:Nat->Bool)(l:ac Nat):l.map (λc=>V.bl<|g c)=(l.map g).map V.bl:=by rw[é];rfl
def ŗ{α:Type}(g:α->Bool)(l:ac α):(l.map g).all id=l.all g:=by rw[List.all_map];rfl
def YNt{ys:ac V}{ds:ac D}{g:D->Bool}(hl:ys.length=ds.length)(h:∀(k:Nat) (y:V),ys[k]?=À y->∃d,ds[k]?=À d/\y=.bl (g d)):ys=(ds.map g).map V.bl:=by
 show List.ext_getElem? λk=>?_;by_cases hk:k<ys.length;let⟨d,hd,hy⟩:=h k ys[k]<|Ê hk;rw[Ê hk,Ï,Ï,hd,hy];rfl;rw[ē (by lia),ē (by rw[Ä,Ä];lia)]
def Xg{te:TE}{σ:St}{H:Hp}{R:VK}{b g:Bool}(ht:b=Â->∀R:VK,R (.bl g) H->te σ H R)(h:R (.bl<|b&&g) H):if b=Â then te σ H R else R (.bl Ã) H:=by
 cases b with
 |true=>show ht Z R h
 |false=>show h
def px{te:TE}{σ:St}{H:Hp}{R:VK}{b g:Bool}(ht:b=Ã->∀R:VK,R (.bl g) H->te σ H R)(h:R (.bl (b || g)) H):if b=Â then R (.bl Â) H else te σ H R:=by
 cases b with
 |true=>show h
 |false=>show ht Z R h
inductive rj(g:D->Bool)(vs:List V)(H:Hp)(Q:VK):Prop
 |mk (x:_)(d:_):vs=[x]->cx H x d->d.short=Â->YL H->Q (.bl (g d)) H->rj g vs H Q
@[ext]def fV(g:D->Bool):Sp:=λvs H Q E_=>rj g vs H Q
inductive YGn(vs:List V)(H:Hp)(Q:VK):Prop
 |mk (c:_):vs=[.str ⟨#[c]⟩]->Q (.bl (good c)) H->YGn vs H Q
@[ext]def ŵ:Sp:=λvs H Q E_=>YGn vs H Q
inductive YFN(C:Addr)(vs:List V)(H:Hp)(Q:VK)(E:XK):Prop
 |mk (x:_)(d:_):vs=[x]->cx H x d->d.short=Â->YL H->(JX d=Â->∀(l:Addr) (xs:List V) (ds:List D),d=.lst ds->Ya H xs ds->H l=Á->Q (.ref l) (upd H l (.lst xs)))->(JX d=Ã->E (.ref C) Á H)->YFN C vs H Q E
@[ext]def Ħ(C:ai):Sp:=λvs H Q E=>YFN C vs H Q E
def YCl(h:(!b)=Â):b=Ã:=by cases b <;> first|rfl|cases h
def ϣ(h:¬(!b)=Â):b=Â:=by cases b <;> first|rfl|show absurd rfl h
inductive YEF(C:Addr)(vs:List V)(H:Hp)(Q:VK)(E:XK):Prop
 |mk (x:_)(d:_):vs=[x]->cx H x d->d.short=Â->YL H->(∀z,d=.str z->Zu z=Â->Q (.str z) H)->(uk d=Ã->E (.ref C) Á H)->YEF C vs H Q E
@[ext]def ς(C:ai):Sp:=λvs H Q E=>YEF C vs H Q E
noncomputable abbrev fU:=am×ac am×Int
noncomputable abbrev YS:=ac fU
@[ext]def Za(r:fU):D:=.tup [.str r.1,.tup<|r.2.1.map D.str,.int r.2.2]
@[ext]def ip(g:YS):D:=.lst<|g.map Za
@[ext]def ZG(z:am):Bool:=rq z || dy z
@[ext]def JF(r:fU):Bool:=dy r.1&&((decide (r.2.1.length<=6)&&r.2.1.all ZG)&&(decide (0<=r.2.2)&&decide (r.2.2<=10^60)))
@[ext]def Y4(g:YS):Bool:=decide (g.length<=60)&&g.all JF
def YGE(r:fU):JW (Za r)=JF r:=by
 let⟨h,ps,w⟩:=r;change(fj (.str h)&&(X2 (.tup<|ps.map D.str)&&X8 (.int w)))=_;change(dy h&&((decide ((ps.map D.str).length<=6)&&(ps.map D.str).all Xy)&&(decide (0<=w)&&decide (w<=10^60))))=_;rw[Ä,List.all_map];rfl
def Υ(g:YS):JX (ip g)=Y4 g:=by
 change(decide ((g.map Za).length<=60)&&(g.map Za).all JW)=_;rw[Ä,List.all_map];unfold Y4;congr 1;congr 1;funext r;show YGE r
def YLH:∀{ds:ac D},ds.all Xy=Â->∃ps:ac am,ds=ps.map D.str
 |[],_=>⟨[],Z⟩
 |d::ds,h=>by
  rw[List.all_cons,Ó]at h;let⟨ps,Z⟩:=YLH h.2;cases d with
  |str z=>show⟨z::ps,Z⟩
  |_=>cases h.1
def oA(h:JW d=Â):∃r:fU,d=Za r:=by
 unfold JW at h;split at h;rename_i a b c;rw[Ó,Ó]at h;let⟨h1,h2,h3⟩:=h;cases a with
 |str z=>
  cases b with
  |tup ds=>
   cases c with
   |int w=>
    unfold X2 at h2;rw[Ó]at h2;let⟨ps,Z⟩:=YLH h2.2;show⟨(z,ps,w),Z⟩
   |_=>cases h3
  |_=>cases h2
 |_=>cases h1
 cases h
def ψ(h:JX d=Â):∃g:YS,d=ip g/\Y4 g=Â:=by
 cases d with
 |lst ds=>
  let h0:=h;unfold JX at h;rw[Ó]at h;let go:∀(ds:ac D),ds.all JW=Â->∃g:YS,ds=g.map Za:=by
   intro ds
   induction ds with
   |nil=>showλ_=>⟨[],Z⟩
   |cons d ds ih=>
    intro hd;rw[List.all_cons,Ó]at hd;let⟨g,Z⟩:=ih hd.2;let⟨r,Z⟩:=oA hd.1;show⟨r::g,Z⟩
  let⟨g,Z⟩:=go ds h.2;show⟨g,Z,?_⟩;rw[<-Υ];show h0
 |_=>cases h
def ώ(h:cx H v<|Za r):∃t p,v=.ref t/\H t=À (.tup [.str r.1,.ref p,.int r.2.2])/\H p=À (.tup<|r.2.1.map V.str):=by
 let⟨t,xs,Z,ht,hds⟩:=h.to_tup
 match xs,hds with
 |[x0,x1,x2],hds=>
  let⟨_,e0,n0⟩:=hds.get (i:=0) (v:=x0) Z;let⟨_,e1,n1⟩:=hds.get (i:=1) (v:=x1) Z;let⟨_,e2,n2⟩:=hds.get (i:=2) (v:=x2) Z;cases e0;cases e1;cases e2;let f0:=n0.to_str;let f2:=n2.to_int;let⟨p,ys,f1,hp,hys⟩:=n1.to_tup;subst f0 f1 f2;show⟨t,p,Z,ht,?_⟩;have:ys=r.2.1.map V.str:=by
   show List.ext_getElem? λi=>?_;cases e:ys[i]? with
   |none=>
    let h1:=YQC.mp e;let h2:=hys.len;rw[Ä]at h2;rw[ē (by rw[Ä];lia)]
   |some y=>
    let⟨d,hd,dn⟩:=hys.get e;rw[Ï]at hd ⊢;cases e2:r.2.1[i]? with
    |none=>rw[e2]at hd;cases hd
    |some z=>
     rw[e2]at hd;cases hd;rw[dn.to_str];rfl
  rw[hp,this]
 |[],h=>show absurd h.len (by simp)
 |[_],h=>show absurd h.len (by simp)
 |[_,_],h=>show absurd h.len (by simp)
 |_::_::_::_::_,h=>show absurd h.len (by simp)
def YNu(h:cx H v<|ip g):∃a xs,v=.ref a/\Rd H a (.lst xs)/\Ya H xs (g.map Za):=h.to_lst
def YLI{H:Hp}{xs:ac V}{g:YS}(h:Ya H xs<|g.map Za){i:Nat}{v:V}(e:xs[i]?=À v):
  ∃r t p,g[i]?=À r/\v=.ref t/\H t=À (.tup [.str r.1,.ref p,.int r.2.2])/\H p=À (.tup<|r.2.1.map V.str):=by
 let⟨d,hd,dn⟩:=h.get e;rw[Ï]at hd;cases e2:g[i]? with
 |none=>rw[e2]at hd;cases hd
 |some r=>
  rw[e2]at hd;cases hd;let⟨t,p,e3,e4,e5⟩:=ώ dn;show⟨r,t,p,Z,e3,e4,e5⟩
@[ext]def YM(g:YS)(z:am):ac Nat:=(List.range g.length).filter λk=>decide ((g[k]?.map (·.1))=À z)
def YFP:∀{xs:ac D}{n:Nat},(∀d∈xs,d.dep<=n)->jS xs<=n
 |[],n,_=>by unfold jS;show Ë _
 |x::xs,n,h=>by
  unfold jS;show Nat.max_le.mpr ⟨h x É,YFP λd hd=>h d<|Ç _ hd⟩
def yB(h:∀d∈xs,d.ok=Â):(D.lst xs).ok=Â:=by unfold D.ok;show YNl h
def AD(z:Int):(D.int z).ok=Â:=by unfold D.ok;rfl
def oI(h:∀d∈xs,d.dep<=n):(D.lst xs).dep<=n+1:=by unfold D.dep;show Nat.succ_le_succ<|YFP h
def o6(z:Int):(D.int z).dep=0:=by unfold D.dep;rfl
def mM(zs:ac Int):(D.lst<|zs.map D.int).ok=Â:=yB λd hd=>by
 let⟨z,_,Z⟩:=YPR.mp hd;show AD z
def YNv(zs:ac Int):(D.lst<|zs.map D.int).dep<=64:=Ú (oI (n:=0) λd hd=>by
 let⟨z,_,Z⟩:=YPR.mp hd;rw[o6];show Å _) (by decide)
def YGo(h:dy z=Â):z.length<=8:=by
 unfold dy at h;rw[Ó,Ó]at h;show fq h.1.2
def YIf(h:ZG z=Â):z.length<=8:=by
 unfold ZG at h;rw[Ć]at h;rcases h with h|h
 unfold rq at h;rw[Ó,Ó,beq_iff_eq]at h;change z.cps.size<=8;omega;show YGo h
def YKK(h:JF r=Â):(Za r).short=Â:=by
 unfold JF at h;simp only[Ó]at h;let⟨h1,⟨h2,h3⟩,h4⟩:=h;unfold Za D.short;show Dg λd hd=>?_;simp only[YO9,đ,or_false]at hd;rcases hd with rfl|rfl|rfl
 show Ϸ<|Ú (YGo h1) (by decide);unfold D.short;show Dg λd hd=>?_;let⟨z,hz,Z⟩:=YPR.mp hd;show Ϸ<|Ú (YIf<|YPc.mp h3 z hz) (by decide);unfold D.short;rfl
def YFQ(h:Y4 g=Â):(ip g).short=Â:=by
 unfold Y4 at h;rw[Ó]at h;unfold ip D.short;show Dg λd hd=>?_;let⟨r,hr,Z⟩:=YPR.mp hd;show YKK<|YPc.mp h.2 r hr
def Bz(h:Y4 g=Â):g.length<=60:=by
 unfold Y4 at h;rw[Ó]at h;show fq h.1
def YLJ:∀{a b:ac am},a.map D.str=b.map D.str->a=b
 |[],[],_=>rfl
 |[],_::_,h=>by cases h
 |_::_,[],h=>by cases h
 |x::a,y::b,h=>by
  rw[Ö,Ö]at h;injection h with h1 h2;injection h1 with h3;rw[h3,YLJ h2]
def YMe(h:Za r=Za r'):r=r':=by
 let⟨a,b,c⟩:=r;let⟨a',b',c'⟩:=r';unfold Za at h;injection h with h;injection h with h1 h2;injection h2 with h2 h3;injection h3 with h3 _;injection h1 with h1;injection h2 with h2;injection h3 with h3;let h1':a=a':=h1;let h3':c=c':=h3;let h2':b=b':=YLJ h2;rw[h1',h2',h3']
def YGp(h:ip g=ip g'):g=g':=by
 unfold ip at h;injection h with h
 induction g generalizing g' with
 |nil=>
  cases g' with
  |nil=>rfl
  |cons _ _=>cases h
 |cons r g ih=>
  cases g' with
  |nil=>cases h
  |cons r' g'=>
   rw[Ö,Ö]at h;injection h with h1 h2;rw[YMe h1,ih h2]
@[ext]def fK:Int:=10^60
@[ext]def XG(z:Int):Int:=if fK<z then fK else z
inductive YLK(v:V)(vs:List V)(H:Hp)(Q:VK):Prop
 |mk (s:_):vs=[s]->Q v H->YLK v vs H Q
@[ext]def rS(v:V):Sp:=λvs H Q E_=>YLK v vs H Q
inductive YLL(v:V)(vs:List V)(H:Hp)(Q:VK):Prop
 |mk (s:_)(x:_)(y:_):vs=[s,x,y]->Q v H->YLL v vs H Q
@[ext]def YNw(v:V):Sp:=λvs H Q E_=>YLL v vs H Q
inductive YLM(f:Int->Int->Int)(vs:List V)(H:Hp)(Q:VK):Prop
 |mk (s:_)(x:_)(y:_):vs=[s,.int x,.int y]->0<=x->x<=fK->0<=y->y<=fK->Q (.int (f x y)) H->YLM f vs H Q
@[ext]def rL(f:Int->Int->Int):Sp:=λvs H Q E_=>YLM f vs H Q
def AV:1<=fK:=by decide
def YIg:fK<2^4000:=by decide+kernel
def YFR(h0:0<=x)(h1:x<=fK):x.natAbs<2^4000:=by
 have:=YIg;let e:((2^4000:Nat):Int)=2^4000:=by norm_cast
 have:((x.natAbs:Nat):Int)<((2^4000:Nat):Int):=by
  rw[e,Int.natAbs_of_nonneg h0];show Int.lt_of_le_of_lt h1 YIg
 show Int.ofNat_lt.mp this
def oj(z:Int):XG z<=fK:=by unfold XG;split <;> lia
def oO(h:0<=z):0<=XG z:=by unfold XG;have:=AV;split <;> lia
def vF(h:z<=fK):XG z=z:=by unfold XG;rw[if_neg (by lia)]
def Bi(h:fK<=z):XG z=fK:=by unfold XG;split <;> lia
inductive YNx(K:W.Frag)(vs:List V)(H:Hp)(Q:VK):Prop
 |mk (a:Addr)(ns:List Int):vs=[.ref a]->bG K H a (ns.map V.int)->ns.length<=63->YL H->(∀H',Q (.bl Â) H')->YNx K vs H Q
@[ext]def Dl(K:W.Frag):Sp:=λvs H Q E_=>YNx K vs H Q
def YMf{K:W.Frag}{H:Hp}{a:ai}{ns:ac Int}(hl:ns.length<=63)(hO:kH H)(hS:bG K H a<|ns.map V.int):Dl K [.ref a] H (λv _=>v=.bl Â) λ_ _ _=>False:=
 ⟨a,ns,Z,hS,hl,YKI hO,λ_=>rfl⟩
@[ext]def k7(l:ac Nat):Bool:=decide (1<=l.length)&&decide (l.length<=8)&&l.all Z7
def YIi(z:am):dy z=k7 z.cps.toList:=by
 unfold dy k7;rw[ì]
@[ext]def kF:am:="ABCDEFGHIJKLMNOPQRSTUVWXYZ"
def YFS:kF.cps.toList=(List.range 26).map (65+·):=by decide+kernel
def YLN:kF.cps.toList.length=26:=by decide+kernel
def YIj:kF.length<=sizeLine:=YK (by decide+kernel)
def YFT(h:c∈kF.cps.toList):Z7 c=Â:=by
 rw[YFS]at h;let⟨k,hk,Z⟩:=YPR.mp h;have:=YPY.mp hk;unfold Z7;rw[dA (by lia),dA (by lia)];rfl
def Ji(a b:am):(a++b).cps.toList=a.cps.toList++b.cps.toList:=by
 change(a.cps++b.cps).toList=_;show Array.toList_append
@[ext]def kQ:Expr->am
 |.Constant (.str x) _ _=>x
 |.BinOp _ _ b _=>kQ b
 |_=>⟨#[]⟩
@[ext]def Do:Stmt->am
 |.Assign _ v _=>kQ v
 |.Return (À v) _=>kQ v
 |_=>⟨#[]⟩
@[ext]def Ģ(s:Stmt)(i:Nat):am:=Do<|(Zm s).getD i<|.Pass ⟨0,0,0,0⟩
@[ext]def YDm:ac Nat:=(List.range 95).filterMap λk=>if k=5 then Á else À<|32+k
def YKL(h:c∈YDm):good c=Â:=by
 let⟨k,hk,e⟩:=YQc.mp h;have:=YPY.mp hk;unfold good;split at e;cases e;cases e;rw[dA (by lia),dA (by lia),eI (by lia)];rfl
def YMg:YDm.length=94:=by decide+kernel
def Ce:(("'":am)).length=1:=by decide+kernel
def xg:(("'":am)).cps.toList=[39]:=by decide+kernel
def ţ(c:Nat):(("'":am)++⟨#[c]⟩).cps=#[39,c]:=by
 apply Array.ext';rw[Ji,xg];rfl
def YMh(h:good c=Â):rq (("'":am)++⟨#[c]⟩)=Â:=by
 unfold rq;rw[ţ];change(Â&&good c)=Â;rw[h];rfl
def YGq(h1:dy r.1=Â)(h2:r.2.1.length<=6)(h3:∀z∈r.2.1,ZG z=Â)(h4:0<=r.2.2)(h5:r.2.2<=10^60):JF r=Â:=by
 unfold JF;let a:r.2.1.all ZG=Â:=YPc.mpr h3;rw[h1,dA h2,a,dA h4,dA h5];rfl
def YNy(h0:0<=j)(h1:j<=x.length):(Txt.slice x Á<|some j).cps.toList=x.cps.toList.take j.toNat:=by
 let h:=PyProof.Rows.slice_closes_to (x:=x) (j:=j) ⟨h0,by rw[ì];show h1⟩;let e:=eq_of_beq h;rw[e];change((x.cps.toList.drop (0:Int).toNat).take (j-0).toNat)=_;rw[Int.sub_zero];rfl
def YKM(h0:0<=i)(h1:i<=x.length):(Txt.slice x (À i) Á).cps.toList=x.cps.toList.drop i.toNat:=by
 let e:=PyProof.Rows.slice_from_eq (x:=x) (i:=i) (b:=x.length) h0 h1 Z;rw[e];change((x.cps.toList.drop i.toNat).take ((x.length:Int)-i).toNat)=_;show ĝ ?_;rw[ÿ,ì];have:x.length=x.cps.size:=rfl;omega
noncomputable abbrev Sz:=ac<|am×Int
@[ext]def look(s:Sz)(z:am):ag Int:=(s.find? λp=>decide (p.1=z)).map (·.2)
@[ext]def eW(p:am):Bool:=Txt.startswith p "'"
@[ext]def bnd(q:Int)(n:Nat):Int:=(1+6*q)*7^n
@[ext]def mu(g:YS)(q:Int)(s:Sz):Nat:=(g.map λr=>match look s r.1 with
 |none=>(bnd q 60).toNat+1
 |some v=>v.toNat).sum
noncomputable abbrev ij:=am ⊕ Nat
@[ext]def yT(g:YS):D->ag fU
 |.int i=>if 0<=i then g[i.toNat]? else Á
 |_=>Á
structure fR where
 sg:List Nat
 bg:List Nat
 st:List Nat
@[ext]def gN(p:am):Nat:=p.cps.getD 1 0
@[ext]def Ň(e:fR->ag fR)(f:am->ac ij->fR->ag fR):ac ij->fR->ag fR
 |[],s=>e s
 |.inr k::ws,s=>Ň e f ws ⟨s.sg,s.bg,s.st.set k s.sg.length⟩
 |.inl p::ws,s=>if eW p=Â then Ň e f ws ⟨s.sg++[gN p],s.bg,s.st⟩ else f p ws s
@[ext]def DJ(g:YS):ac D->ac ij->fR->ag fR
 |[]=>Ň À λ_ _ _=>Á
 |d::ds=>Ň (λ_=>Á) λp ws s=>match yT g d with
  |none=>Á
  |some r=>if r.1=p then DJ g ds (r.2.1.map Sum.inl++(Sum.inr s.bg.length::ws)) ⟨s.sg,s.bg++[s.sg.length],s.st++[s.sg.length]⟩ else Á
@[ext]def fin(g:YS)(ws:ac ij)(s:fR)(ds:ac D):ag fR:=DJ g ds ws s
def Η(g:YS)(p:am)(ws:ac ij)(s:fR)(ds:ac D):fin g (.inl p::ws) s ds=if eW p=Â then fin g ws ⟨s.sg++[gN p],s.bg,s.st⟩ ds else match ds with
   |[]=>Á
   |d::W4=>match yT g d with
    |none=>Á
    |some r=>if r.1=p then fin g (r.2.1.map Sum.inl++(Sum.inr s.bg.length::ws)) ⟨s.sg,s.bg++[s.sg.length],s.st++[s.sg.length]⟩ W4 else Á:=by cases ds <;> rfl
@[ext]def oJ(g:YS):ac ij:=match g with
 |[]=>[]
 |r::_=>[.inl r.1]
@[ext]def se(g:YS)(ds:ac D):ag fR:=if g=[] then Á else fin g (oJ g) ⟨[],[],[]⟩ ds
@[ext]def ų:D->ag (ac D)
 |.lst ds=>À ds
 |_=>Á
@[ext]def Ľ(g:YS)(d:D):ag fR:=(ų d).bind<|se g
@[ext]def Xv:ij->V
 |.inl p=>.str p
 |.inr k=>.int (k:Int)
end FR
namespace L2
open PySem PySem.Spec PyProof.Rows
section
variable {X:Cx}{O:ac (ai×Obj)}{σ:St}{H:Hp}{s:al}{d:ai}{o:Obj}{kvs:ac (db×V)}
def aX.freeze(I:aX X O σ H s)(hd:H d=À (.dK kvs))(ho:s.heap.get? d=À o):aX X O σ (upd H d<|.frz o<|.dK kvs) s:=by
 let nt:∀c xs,H c=À (.tup xs)->c≠d:=λc xs r z=>by rw[z,hd]at r;cases r
 show I.write (x:=d) (e:=d) (h':=s.heap) (t':=s.toks) (by rw[hd];trivial) (.inl Z) (λ_ _ _ e=>e) ⟨o,ho⟩ ⟨ho,?_⟩;show(I.hok d _ hd).stay (λ_ _ _ e=>e) (λb e=>by rw[YB<|Yi e hd nofun];show e) λb xs e=>by rw[YB<|nt b xs e];show e
end
def KV.get(r:KV kvs vs):∀{i:Nat}{kv:db×V},kvs[i]?=À kv->∃u,vs[i]?=À (kv.1,u)/\Yw kv.2 u:=by
 unfold KV at r
 induction r with
 |nil=>intro i kv e;cases e
 |@cons p q ps qs h t ih=>
  intro i kv e;cases i with
  |zero=>
   cases e;show⟨q.2,by rw[h.1];rfl,h.2⟩
  |succ j=>show ih (i:=j) e
section
variable {X:Cx}{jo:ac Expr}{k:Nat}{jm:Pos}
end
def YNz:mroOf (.type "reversed")=pure [.type "reversed",.type "object"]:=by rw[mroOf_type];kernel_rfl
def oy:typeLookup (.type "reversed") "__new__"=pure (À<|.builtin "reversed.__new__"):=by rw[typeLookup_type,builtinLookup_eq_fast];kernel_rfl
def rb:Slot "reversed" "__init__" "object.__init__":=.of (owner:="object") (n:="__init__") (by rw[typeLookup_type,builtinLookup_eq_fast];kernel_rfl) (by decide+kernel) (by decide+kernel) (by decide+kernel) (by first|show .inl (by decide+kernel)|show .inr (by decide+kernel)) (by rw[isSubtype_type];kernel_rfl)
def YGr:TypeCalled "reversed" "reversed.__new__" "object.__init__":=⟨by decide+kernel,by decide+kernel,⟨_,_,YNz⟩,madeBy_type YNz oy (by decide+kernel),by decide+kernel,by rw[isSubtype_type];kernel_rfl,rb⟩
def YIk(a:ah):checkTypeCall "reversed" ⟨[a],[]⟩=pure ():=by kernel_rfl
def YKN(a:ah):checkBuiltinCall "reversed.__new__" ⟨[.type "reversed",a],[]⟩=pure ():=by kernel_rfl
def YN0:entryFor table "reversed.__new__"=À Builtin.«reversed.__new__»:=entryFor_of_tree (by kernel_rfl)
def YN1:typeLookup (.type "tuple") "__reversed__"=pure Á:=by rw[typeLookup_type,builtinLookup_eq_fast];kernel_rfl
def YN2:typeLookup (.type "tuple") "__getitem__"=pure (À<|.builtin "tuple.__getitem__"):=by rw[typeLookup_type,builtinLookup_eq_fast];kernel_rfl
def YN3:isSubtype (.type "tuple") (.type "dict")=pure Ã:=by rw[isSubtype_type];kernel_rfl
def YIl:Slot "reversed" "__iter__" "reversed.__iter__":=.of (owner:="reversed") (n:="__iter__") (by rw[typeLookup_type,builtinLookup_eq_fast];kernel_rfl) (by decide+kernel) (by decide+kernel) (by decide+kernel) (by first|show .inl (by decide+kernel)|show .inr (by decide+kernel)) (by rw[isSubtype_type];kernel_rfl)
def Cr:Slot "reversed" "__next__" "reversed.__next__":=.of (owner:="reversed") (n:="__next__") (by rw[typeLookup_type,builtinLookup_eq_fast];kernel_rfl) (by decide+kernel) (by decide+kernel) (by decide+kernel) (by first|show .inl (by decide+kernel)|show .inr (by decide+kernel)) (by rw[isSubtype_type];kernel_rfl)
def mn:entryFor table "reversed.__iter__"=À Builtin.«dict_keyiterator.__iter__»:=entryFor_alias (id':="dict_keyiterator.__iter__") (by kernel_rfl) Z (by decide+kernel) (by kernel_rfl)
def YLP:entryFor table "reversed.__next__"=À Builtin.«reversed.__next__»:=entryFor_of_tree (by kernel_rfl)
def mf(a:ah):argsOk "reversed.__iter__" ⟨[a],[]⟩:=by unfold argsOk;kernel_rfl
def YLQ(a:ah):argsOk "reversed.__next__" ⟨[a],[]⟩:=by unfold argsOk;kernel_rfl
def YET(l:ai)(items:Array ah)(o:Obj)(n:Nat)(hc:o.cls=.type "tuple")(hd:o.data=.seq items n)(hz:(items.size:Int)<2^63):
  Meets (Builtin.«reversed.__new__» ⟨[.type "reversed",.ref l],[]⟩) (λA R s=>s.heap.get? l=À o/\
   R (.ok<|.ret<|.ref s.heap.objs.size) { s with heap:=s.heap.push { cls:=.type "reversed",data:=.fields #[.ref l,rawInt ((items.size:Int)-1)] },toks:=s.toks+1+1 }):=
 .of_wp λprog w A R s h=>by
  let⟨hp,g,d,tk,os⟩:=s;let⟨hl,h⟩:=h;let hsub:=YGr.sub;let hT:Shared.TypeIs ⟨hp,g,d,tk,os⟩ (.ref l) "tuple":=⟨_,hl,hc⟩;let h1:=YN1;let h2:=YN2;let h3:=YN3;let ht:IsTup (Shared.heap ⟨hp,g,d,tk,os⟩) l items:=⟨o,hl,hc,n,hd⟩
  wp_walk using len_tuple ht hz
  show⟨_,Z,h⟩
section
variable {prog:Program}{w:World}{A:Around}{E:ah->al->Prop}{s:al}
def pS{α:Type}{Q:α->al->Prop}{E':ah->al->Prop}(hh:A.handled=Á)(h:∀e h',(∀b o,s.heap.get? b=À o->h'.get? b=À o)->Shared.TypeIs { s with heap:=h' } e "StopIteration"->E' e { s with heap:=h' }):
  wpAny (model prog w) A (Builtin.SmallTypes.stopIteration:Sem α) Q E' s:=by
 unfold Builtin.SmallTypes.stopIteration;show Æ ?_;simp only[newExc,newTuple];show Æ<|wpAny_newObj_type (Æ (m:=firstArgMember _ _)<|wpAny_of_eq (a:=Value.none) (by first|rfl|(simp only[firstArgMember];rfl))<|wpAny_newObj_type ?_ (by size_fits)) (by size_fits);simp only[raiseNew];show Æ<|wpAny_handled ?_;rw[hh];show Æ<|Ì<|wpAny_throw<|h _ _ (λb o e=>Ø _<|Ø _ e) ?_;show⟨_,Þ _ Z,Z⟩
@[ext]def l9(h:Heap)(it l:ai)(i:Int):Prop:=∃o,h.get? it=À o/\o.cls=.type "reversed"/\o.data=.fields #[.ref l,.int i 0]
def YFV{Q:ah->al->Prop}(hl:IsTup s.heap l items)(hz:(items.size:Int)<2^63)
  (h:∀h',l9 h' s.heap.objs.size l ((items.size:Int)-1)->(∀b o,s.heap.get? b=À o->h'.get? b=À o)->Q (.ref s.heap.objs.size) { s with heap:=h',toks:=s.toks+1+1 }):wpAny (model prog w) A (call (.type "reversed") [.ref l]) Q E s:=by
 let⟨o,ho,hc,n,hd⟩:=hl;show callType_new YGr (by decide) (YIk _) (YKN _) (λobj=>F.args_object_init_2 obj _) YN0 (YET l items o n hc hd hz) ⟨ho,?_⟩;show⟨⟨_,Þ _ Z,Z⟩,h _ ⟨_,Þ _ Z,Z,Z⟩ λb o e=>Ø _ e⟩
def YGs{Q:ah->al->Prop}(DV:l9 s.heap it l i)(h:Q (.ref it) s):wpAny (model prog w) A (pyIter<|.ref it) Q E s:=by
 let⟨o,ho,hc,hd⟩:=DV;let hT:s.TypeIs (.ref it) "reversed":=⟨o,ho,hc⟩;show wpAny_pyIter_slot hT YIl<|wpAny_call_entry YIl hT mn ?_ (mf _);change wpAny _ _ (ret<|.ref it) _ _ s;show Ì ⟨_,Z,"reversed",_,hT,Cr.lookup,h⟩
def YMi{it l:ai}{i:Nat}{items:Array ah}{x:ah}{Q:ag ah->al->Prop}(DV:l9 s.heap it l i)(hl:IsTup s.heap l items)(S:items[i]?=À x)(hz:(items.size:Int)<2^63)
  (hQ:∀h',l9 h' it l ((i:Int)-1)->Heap.SameBut it s.heap h'->Q (À x) { s with heap:=h',toks:=s.toks+1 }):wpAny (model prog w) A (pyNext<|.ref it) Q E s:=by
 let⟨o,ho,hc,hd⟩:=id DV;let hT:s.TypeIs (.ref it) "reversed":=⟨o,ho,hc⟩;unfold pyNext;show Æ<|wpAny_attempt<|wpAny_callSpecial?_slot (name:=Str.ofString "__next__") hT Cr<|wpAny_call_entry Cr hT YLP ?_ (YLQ _);unfold Builtin.«reversed.__next__»;show Æ<|Ì<|Æ<|wpAny_field ho hd (x:=.ref l) rfl<|Æ<|wpAny_field ho hd (x:=.int i 0) rfl ?_;change wpAny _ _ (if ((i:Nat):Int)<0 then _ else _) _ _ s;rw[if_neg (by lia)];show Æ<|wpAny_specialOf hl.typeIs YN2 ?_;change wpAny _ _ (mkInt (i:Int) >>= _) _ _ s;show Æ<|wpAny_mkInt ?_;let DT:i<items.size:=(Array.getElem?_eq_some_iff.mp S).1;let hsi:seqIndex? (i:Int) items.size=À i:=by
  unfold seqIndex?;simp;lia
 show Æ<|wpAny_attempt<|getItem_tuple (s:={ s with toks:=s.toks+1 }) hl (by lia) (by lia) hsi S ?_;show Æ<|wpAny_field (s:={ s with toks:=s.toks+1 }) ho hd (x:=.int i 0) rfl ?_;show Æ<|wpAny_setField (s:={ s with toks:=s.toks+1 }) ho hd (by simp)<|Ì ⟨_,Z,Ì<|hQ _ ⟨_,ą _ ho<|Obj.isFreed_of_fields<|Obj.data_mapFields hd _,(Obj.cls_mapFields ..).trans hc,by rw[Obj.data_mapFields hd];simp[rawInt]⟩<|Heap.SameBut.update ..⟩
def YN4{Q:ag ah->al->Prop}(hh:A.handled=Á)(DV:l9 s.heap it l<|-1)(hQ:∀h',Heap.ExtBut it s.heap h'->Q Á { s with heap:=h' }):wpAny (model prog w) A (pyNext<|.ref it) Q E s:=by
 let⟨o,ho,hc,hd⟩:=id DV;let hT:s.TypeIs (.ref it) "reversed":=⟨o,ho,hc⟩;unfold pyNext;show Æ<|wpAny_attempt<|wpAny_callSpecial?_slot (name:=Str.ofString "__next__") hT Cr<|wpAny_call_entry Cr hT YLP ?_ (YLQ _);unfold Builtin.«reversed.__next__»;show Æ<|Ì<|Æ<|wpAny_field ho hd (x:=.ref l) rfl<|Æ<|wpAny_field ho hd (x:=.int (-1) 0) rfl ?_;change wpAny _ _ (if (-1:Int)<0 then _ else _) _ _ s;rw[if_pos (by decide)];show Æ<|wpAny_rule<|Æ (show wpAny _ _ (setField (.ref it) 1 (rawInt<|-1) >>= λ_=>setField (.ref it) 0 Value.none) _ _ s from Æ (wpAny_setField ho hd (by simp) ?_));let zc:=ą (h:=s.heap) (a:=it) (o:=o) (λo=>o.mapFields λvs=>vs.set! 1<|rawInt<|-1) ho<|Obj.isFreed_of_fields<|Obj.data_mapFields hd _;let hd2:(Obj.mapFields (λvs=>vs.set! 1<|rawInt<|-1) o).data=.fields #[.ref l,rawInt<|-1]:=by rw[Obj.data_mapFields hd];simp
 let b1:Heap.SameBut it s.heap<|s.heap.update it λo=>Obj.mapFields (λvs=>vs.set! 1<|rawInt<|-1) o:=Heap.SameBut.update ..;show wpAny_setField (s:={ s with heap:=s.heap.update it λo=>Obj.mapFields (λvs=>vs.set! 1<|rawInt<|-1) o }) zc hd2 (by simp)<|Æ<|pS (A:=A.in1) hh λe h' k ty=>?_;show Æ<|wpAny_isInstance (b:=true) ty isSubtype_stop<|Ì<|hQ h' λb o hb q=>k b o ?_;show((Heap.SameBut.update ..).2 b hb).trans<|(b1.2 b hb).trans q
end
section
variable {prog:Program}{w:World}{A:Around}{E:ah->al->Prop}{s:al}
end
section
variable {X:Cx}{tg:Expr}
end
section
variable {prog:Program}{w:World}{A:Around}{E:ah->al->Prop}{s:al}
end
section
variable {X:Cx}{jo:ac Expr}{k:Nat}{jm:Pos}
end
def YN5{K:W.Frag}{a:ai}{xs:ac V}{g:TG}{tb:TS}{D:Jg}{σ:St}{H:Hp}(Pv:Nat->St->Hp->Prop)(h0:Pv 0 σ H)(hl:∀i σ H,i<=xs.length->Pv i σ H->bG K H a xs)
  (hs:∀i x T σ H,xs[i]?=À x->H T=Á->Pv i σ H->g (.ref T) σ (upd H T<|.tup [.int (i:Nat),x]) λσ2 H2=>tb { D with nx:=Pv (i+1),ct:=Pv (i+1),bk:=D.nx } σ2 H2)(hd:∀σ H,Pv xs.length σ H->D.nx σ H):
  ∃W:Nat->Nat->St->Hp->Prop,(∃m,W 0 m σ H)/\∀i m σ H,W i m σ H->
   ((C9 K a).stop i H/\D.nx σ H)\/((C9 K a).go i H/\∃N:St->Hp->Prop,(∀σ' H',N σ' H'->∃m',m'<m/\W (i+1) m' σ' H')/\∀x H',(C9 K a).yld i H x H'->g x σ H' λσ2 H2=>tb { D with nx:=N,ct:=N,bk:=D.nx } σ2 H2):=by
 show⟨λi m σ H=>m=xs.length-i/\i<=xs.length/\Pv i σ H,⟨xs.length,by simp,Ë _,h0⟩,?_⟩;rintro i m σ H ⟨rfl,hi,p⟩;let q:=hl i σ H hi p;by_cases DT:i<xs.length;show .inr ⟨⟨xs,xs[i],q,by simp[DT]⟩,Pv<|i+1,λσ' H' p'=>⟨xs.length-(i+1),by lia,Z,DT,p'⟩,λx H' y=>?_⟩;let⟨T,hT,Z,k⟩:=y;let⟨x,S,Z⟩:=k xs q;show hs i x T σ H S hT p;let e:i=xs.length:=by lia
 subst e;show .inl ⟨⟨xs,q,Å _⟩,hd σ H p⟩
def YN6:typeLookup (.type "reversed") "__len__"=pure Á:=by rw[typeLookup_type,builtinLookup_eq_fast];kernel_rfl
def pb:typeLookup (.type "reversed") "__length_hint__"=pure (À<|.builtin "reversed.__length_hint__"):=by rw[typeLookup_type,builtinLookup_eq_fast];kernel_rfl
def YIm:Slot "reversed" "__length_hint__" "reversed.__length_hint__":=.of (owner:="reversed") (n:="__length_hint__") (by rw[typeLookup_type,builtinLookup_eq_fast];kernel_rfl) (by decide+kernel) (by decide+kernel) (by decide+kernel) (by first|show .inl (by decide+kernel)|show .inr (by decide+kernel)) (by rw[isSubtype_type];kernel_rfl)
def oU:entryFor table "reversed.__length_hint__"=À Builtin.«reversed.__length_hint__»:=entryFor_of_tree (by kernel_rfl)
def qk(a:ah):argsOk "reversed.__length_hint__" ⟨[a],[]⟩:=by unfold argsOk;kernel_rfl
section
variable {prog:Program}{w:World}{A:Around}{E:ah->al->Prop}{s:al}
def YKO(hh:A.handled=Á)(it l:ai)(hne:l≠it)(items:Array ah)(hz:(items.size:Int)<2^63):
  Walks prog w A it [it,l] [it] items.size (λi v=>items[items.size-1-i]?=À v) (λi h=>l9 h it l ((items.size:Int)-1-i)/\IsTup h l items) where
 sub:=λb hb=>by simp at hb;simp[hb]
 frame:=λi h h' st hk=>by
  let⟨⟨o,a,b,c⟩,⟨o2,a2,b2⟩⟩:=st;show⟨⟨o,hk it (by simp) o a,b,c⟩,⟨o2,hk l (by simp) o2 a2,b2⟩⟩
 item:=λi s Q E hi st hQ=>by
  let e:((items.size:Int)-1-(i:Nat))=((items.size-1-i:Nat):Int):=by lia
  rw[e]at st;show YMi st.1 st.2 (x:=items[items.size-1-i]) (by simp) hz λh' hit' hs'=>?_;let⟨o2,a2,b2⟩:=st.2;show hQ _ h' (s.toks+1) (by simp) ⟨?_,o2,(hs'.2 l hne).trans a2,b2⟩ λb o hb q=>hs'.extBut b o (λz=>hb (by simp[z])) q;let e2:((items.size-1-i:Nat):Int)-1=(items.size:Int)-1-((i+1:Nat):Int):=by lia
  rw[e2]at hit';show hit'
 done:=λs Q E st hQ=>by
  let e:((items.size:Int)-1-(items.size:Nat))=-1:=by lia
  rw[e]at st;show YN4 hh st.1 λh' he'=>hQ h' s.toks λb o hb q=>he' b o (λz=>hb (by simp[z])) q
 self:=λ_ _ _ _ st hQ=>YGs st.1 hQ
def YKP{Q:ah->al->Prop}(DV:l9 s.heap it l<|(items.size:Int)-1)(hl:IsTup s.heap l items)(hz:(items.size:Int)<2^63)
  (h:∀t tk,Q (.int (items.size:Int) t) { s with toks:=tk }):wpAny (model prog w) A (call (.builtin "reversed.__length_hint__") [.ref it]) Q E s:=by
 let⟨o,ho,hc,hd⟩:=id DV;let hT:s.TypeIs (.ref it) "reversed":=⟨o,ho,hc⟩;show wpAny_call_entry YIm hT oU ?_ (qk _);unfold Builtin.«reversed.__length_hint__»;show Æ<|Ì<|Æ<|wpAny_field ho hd (x:=.ref l) rfl ?_;show(show wpAny _ _ (if (Value.ref l==Value.none)=Â then _ else _) _ _ s from ?_);rw[if_neg (show ¬(Value.ref l==Value.none)=Â from Ù)];show Æ<|len_tuple hl hz ?_;show Æ<|Ì<|Æ<|wpAny_field (s:={ s with toks:=s.toks+1+1 }) ho hd (x:=.int ((items.size:Int)-1) 0) rfl ?_;show(show wpAny _ _ (if (items.size:Int)<(items.size:Int)-1+1 then _ else _) _ _ _ from ?_);rw[if_neg (by lia)];let e:(items.size:Int)-1+1=(items.size:Int):=by lia
 rw[e];show Æ<|wpAny_mkInt<|Ì ⟨_,Z,h _ _⟩
def YMj{Q:Bool->al->Prop}(DV:l9 s.heap it l<|(items.size:Int)-1)(hl:IsTup s.heap l items)(hz:items.size<=sizeLine)(h:∀b tk,Q b { s with toks:=tk }):
  wpAny (model prog w) A (Builtin.List.listLengthHint<|.ref it) Q E s:=by
 let⟨o,ho,hc,hd⟩:=id DV;let hT:s.TypeIs (.ref it) "reversed":=⟨o,ho,hc⟩;unfold Builtin.List.listLengthHint;show Æ<|wpAny_specialOf hT YN6 ?_;change wpAny _ _ (specialOf (Value.ref it) (Str.ofString "__length_hint__") >>= _) _ _ _;show Æ<|wpAny_specialOf hT pb ?_;generalize hid:("reversed.__length_hint__":String)=W5
 wp_delta;rw[show splitId W5=À ("reversed","__length_hint__") from by subst hid;decide+kernel];subst hid
 show Æ<|wpAny_isInstance (T:="reversed") (b:=true) hT (by rw[isSubtype_type];kernel_rfl) ?_;rw[if_neg (by decide)];show(show wpAny _ _ (if _ then _ else _) _ _ _ from ?_);rw[if_neg (by decide)];show Æ<|wpAny_rule<|Æ<|wpAny_of_eq (YIm.bind<|.ref it) ?_;show Æ<|wpAny_attempt<|YKP DV hl (by rw[sizeLine_eq]at hz;lia) λt tk=>?_;let f1:Builtin.List.listFitsIndex (items.size:Int)=Â:=by
  unfold Builtin.List.listFitsIndex;rw[sizeLine_eq]at hz;rw[Ó,fE,fE];lia
 let f2:Builtin.List.listTooLong (items.size:Int).toNat=Ã:=by
  unfold Builtin.List.listTooLong;show eI (by rw[ï];lia)
 let f3:¬(items.size:Int)<0:=by lia
 revert f1 f2 f3;generalize (items.size:Int)=n;intro f1 f2 f3;show(show wpAny _ _ (asInt? (.int n t) >>= _) _ _ _ from Æ (Ì ?_));show wpAny_ite_split (λz=>absurd z (by rw[f1];decide)) λ_=>?_;show wpAny_ite_split (λz=>absurd z f3) λ_=>?_;show wpAny_ite_split (λz=>absurd z (by rw[f2];decide)) λ_=>?_;show Ì<|h _ _
def YFW{Q:ah->al->Prop}(hh:A.handled=Á)(DV:l9 s.heap it l<|(items.size:Int)-1)(hl:IsTup s.heap l items)(hne:l≠it)(hn:items.size<=sizeLine)
  (hQ:∀h' tk jq c',(∀b o,b≠it->s.heap.get? b=À o->h'.get? b=À o)->h'.get? s.heap.objs.size=À { cls:=.type "list",dict:=Á,data:=.seq jq c',slots:=#[] }->
   ItemsOf (λi v=>items[items.size-1-i]?=À v) jq items.size->Q (.ref s.heap.objs.size) { s with heap:=h',toks:=tk }):wpAny (model prog w) A (call (.type "list") [.ref it]) Q E s:=by
 let itlt:it<s.heap.objs.size:=by let⟨o,ho,_⟩:=DV;show Í ho
 let llt:l<s.heap.objs.size:=hl.lt;let yp:(items.size:Int)<2^63:=by rw[sizeLine_eq]at hn;lia
 show callType_codes (Q₁:=λobj t=>obj=.ref s.heap.objs.size/\t={ s with heap:=s.heap.push { cls:=.type "list",data:=.seq #[] } }) F.called_list (F.typeCall_list_1 _) F.entry_list_init (code_list_new _ ⟨Z,Z⟩) λobj t ht=>?_;let⟨Z,Z⟩:=ht;let g0:(s.heap.push { cls:=.type "list",data:=.seq #[] }).get? s.heap.objs.size=À { cls:=.type "list",data:=.seq #[] }:=Þ _ Z;show⟨⟨_,g0,Z⟩,F.args_list_init_2 _ _,?_⟩;change wpAny _ _ (Builtin.List.listItems (.ref s.heap.objs.size) >>= λold=>Builtin.List.listUpdate (.ref s.heap.objs.size) (λ_=>#[]) >>= λ_=>letGo old.toList.reverse >>= λ_=>Builtin.List.listExtendWith (.ref s.heap.objs.size) (.ref it) .none) _ _ _;show Æ ?_;unfold Builtin.List.listItems;show Æ<|wpAny_seqItems g0 rfl<|Ì ?_;show Æ (show wpAny _ _ (updateSeq s.heap.objs.size<|λ_=>#[]) _ _ _ from wpAny_updateSeq g0 Z ?_);let g1:=ą (Obj.mapSeq<|λ_=>(#[]:Array ah)) g0 Z;let k1:∀b o,s.heap.get? b=À o->((s.heap.push { cls:=.type "list",data:=.seq #[] }).update s.heap.objs.size<|Obj.mapSeq<|λ_=>(#[]:Array ah)).get? b=À o:=λb o e=>
  (Ğ _ _<|Nat.ne_of_gt<|Í e).trans (Ø _ e)
 let tup_at:∀{h1:Heap},(∀b o,s.heap.get? b=À o->h1.get? b=À o)->l9 h1 it l ((items.size:Int)-1)/\IsTup h1 l items:=λ{h1} k=>by
  let⟨o,ho,r⟩:=DV;let⟨o2,zc,r2⟩:=hl;show⟨⟨o,k it o ho,r⟩,⟨o2,k l o2 zc,r2⟩⟩
 show Æ<|wpAny_letGo ?_;revert g1 k1;generalize (s.heap.push { cls:=.type "list",data:=.seq #[] }).update s.heap.objs.size (Obj.mapSeq<|λ_=>(#[]:Array ah))=h1;intro g1 k1;let⟨sU,hl1⟩:=tup_at k1;let hT:Shared.TypeIs { s with heap:=h1 } (.ref it) "reversed":=by let⟨o,ho,hc,_⟩:=sU;show⟨o,ho,hc⟩
 let W:=(YKO (prog:=prog) (w:=w) (A:=A.in1.in1) hh it l hne items yp).toS;let nf:s.heap.objs.size∉[it,l]:=by simp only[YO9,đ,or_false,not_or];show⟨Nat.ne_of_gt itlt,Nat.ne_of_gt llt⟩
 let key:∀(h2:Heap) (c1 tk:Nat),(∀b o,s.heap.get? b=À o->h2.get? b=À o)->h2.get? s.heap.objs.size=À { cls:=.type "list",data:=.seq #[] c1 }->
   codeAny (model prog w) A.in1 (.builtin "list.extend.loop" ⟨[.ref s.heap.objs.size,.ref it,.none],[]⟩) (wants (λr s₂=>r=Value.none/\Q (Value.ref s.heap.objs.size) s₂) E) { s with heap:=h2,toks:=tk }:=by
  intro h2 c1 tk k2 g2;let⟨hit2,hl2⟩:=tup_at k2;show codeAny_extend_loopS W hn _ nf _ items.size 0 _ _ _ Z (Ë _) ⟨by simpa using hit2,hl2⟩ g2 (ItemsOf.nil _) λs' jq c' hm hS' hacc=>?_;rw[Moved.eq_with hm];show⟨Z,hQ s'.heap s'.toks jq c' (λb o hb e=>hm.heap b o (λhmem=>?_)<|k2 b o e) hS' hacc⟩;rcases YO9.mp hmem with z|hmem
  rw[z]at e;show ó _<|Í e;show hb<|YO0.mp hmem
 unfold Builtin.List.listExtendWith;show Æ<|wpAny_typeOf hT ?_;let ns:Builtin.List.listSameRef (.ref s.heap.objs.size) (.ref it)=Ã:=by simp[Builtin.List.listSameRef,Nat.ne_of_gt itlt]
 rw[if_neg (by rw[ns];decide)];show Æ<|YGs sU<|Æ<|wpAny_holding<|YMj sU hl1 hn λb tk=>?_;show wpAny_ite_split (λ_=>?_)<|λ_=>Ì ⟨plainId_quiet F.plain_extend_loop _,key h1 _ _ k1 g1⟩;show Æ<|wpAny_rule<|Æ ?_;show(show wpAny _ _ (updateSeq s.heap.objs.size (·.push .none) >>= λ_=>updateSeq s.heap.objs.size (·.pop)) _ _ _ from ?_);show Æ<|wpAny_updateSeq g1 rfl ?_;let g2:=ą (Obj.mapSeq (·.push Value.none)) g1 Z;show wpAny_updateSeq (hz:=by seq_fits) g2 Z ?_;let g3:=ą (Obj.mapSeq (·.pop)) g2 Z;show Ì ⟨plainId_quiet F.plain_extend_loop _,key _ _ _ (λb o e=>?_) g3⟩;let nb:s.heap.objs.size≠b:=Nat.ne_of_gt<|Í e;show(Ğ _ _ nb).trans<|(Ğ _ _ nb).trans<|k1 b o e
end
@[ext]def YMk(K:W.Frag)(ta:TA):TE:=λσ H Q=>ta σ H λvs H1=>∃a xs,vs=[.ref a]/\cN K H1 a xs/\∀l,H1 l=Á->Q (.ref l) (upd H1 l<|.lst xs.reverse)
def YHp(K:W.Frag){X:Cx}(hK:X.K=K){a:Expr}{ta:TA}{p p2 pos nQ:Pos}(hc:X.calm=Â)(hg:Gl X "list")(hm:X.mg "list"=Á)(W6:Gl X "reversed")(hm2:X.mg "reversed"=Á)(ha:PA X [a] ta)
  (hs:starEach [.Call (.Name "reversed" p2) [a] [] nQ] X.env=[(Ã,eval (.Call (.Name "reversed" p2) [a] [] nQ) X.env)]:=by rfl)(hs2:starEach [a] X.env=[(Ã,eval a X.env)]:=by rfl):
  PE X (.Call (.Name "list" p) [.Call (.Name "reversed" p2) [a] [] nQ] [] pos) (YMk K ta):=by
 subst hK;intro O s σ H Q I h;show wpAny_Call_Name_kw<|nv I hg hm Ā ?_;show PyProof.Rows.callWith_type1 ?_ hs Z;rw[hs];change wpAny _ _ (spliced<|(Ã,eval (.Call (.Name "reversed" p2) [a] [] nQ) X.env)::[]) _ _ s;show Calls.spliced_cons<|wpAny_Call_Name_kw<|nv I W6 hm2 PyProof.Rows.Boot.«reversed»<|PyProof.Rows.callWith_type1 (cy (ha nQ O s σ H _ I h) λus s1 ⟨vs,H1,I1,r1,q1⟩=>?_) hs2 rfl;let⟨l,xs,Z,hq,q⟩:=q1;let⟨u,Z,ru⟩:=kf r1;cases ru;let⟨its,rv,pl,hz⟩:=I1.tuple hq;let hlen:xs.length=its.length:=rv.length;let Wv:=tj;show YFV pl (by rw[Ô];lia) λh1 DV hk=>Calls.spliced_nil ?_;let jr:IsTup h1 l its.toArray:=by let⟨o,ho,r⟩:=pl;show⟨o,hk l o ho,r⟩
 show YFW (s:={ s1 with heap:=h1,toks:=s1.toks+1+1 }) (items:=its.toArray) (I1.ok.hd hc) DV jr (Ü pl.lt) (by rw[Ô];lia) λh' tk jq c' hk' hS hit'=>?_;let W7:Yo xs.reverse jq.toList:=by
  show ϵ (by
   let e1:jq.toList.length=its.length:=(Array.length_toList.trans hit'.1).trans<|Ô ..;rw[ç,hlen,e1]) λj x u h1 h2=>?_
  let h3:=hit'.2 j u (by rw[<-ă];show h2);let hj:j<xs.length:=by
   have:=(YOx.mp h1).1
   rwa [ç]at this
  rw[List.getElem?_reverse hj]at h1;let⟨u',e1,r'⟩:=rv.get h1;rw[List.getElem?_toArray,Ô,<-hlen]at h3;rw[h3]at e1;cases e1;show r'
 let le:s1.heap.objs.size<=h1.objs.size:=by
  let⟨o,ho,_⟩:=DV;show ê<|Í ho
 let kk:∀b u,s1.heap.get? b=À u->h'.get? b=À u:=λb u e=>hk' b u (Ü<|Í e)<|hk b u e;show⟨.ref h1.objs.size,_,I1.laid (t':=tk) kk le (show ZA X.prog X.w _ h' _ (.lst _) from⟨by rw[ç];show hz,jq.toList,c',W7,by simpa using hS⟩),Z,q _<|I1.hok.fresh le⟩
end L2
namespace FR
open PySem L2
@[ext]def nV(k:Nat):V:=.int (k:Int)
@[ext]def Cj(c:Nat):V:=.str ⟨#[c]⟩
def JN(h:JF r=Â):r.2.1.length<=6/\∀p∈r.2.1,ZG p=Â:=by
 unfold JF at h;simp only[Ó,fE]at h;show⟨h.2.1.1,YPc.mp h.2.1.2⟩
def Ε(h:JF r=Â):dy r.1=Â:=by
 unfold JF at h;rw[Ó]at h;show h.1
def Ŭ:decide (V.str x=V.str y)=decide (x=y):=by
 by_cases h:x=y;rw[dA h,dA (by rw[h])];rw[eI h,eI<|λe=>h<|V.str.inj e]
def AY(z:am):eW z=decide (z.cps.toList[0]?=À 39):=by
 let e0:(("'":am))=⟨#[39]⟩:=by decide+kernel
 unfold eW;rw[e0,ð,fE];have:=StrLaws.subAt_one z 39 0;unfold Txt.startswith;rw[Ó,fE];show this
def YEH{p:am}(h:ZG p=Â)(hq:eW p=Â):fS p.cps.toList 1=À (gN p):=by
 unfold ZG at h;rw[Ć]at h;rcases h with h|h
 unfold rq at h;rw[Ó,Ó]at h;let h2:p.cps.size=2:=eq_of_beq h.1.1;let h1:1<p.cps.toList.length:=by rw[ì];omega
 let e:p.cps.toList[1]?=À p.cps.toList[1]:=Ê h1;let e2:gN p=p.cps.toList[1]:=by
  unfold gN;rw[Array.getD_eq_getD_getElem?,<-ă,e];rfl
 rw[e2];show ZB (j:=1) e;rw[AY]at hq;let hq:=fq hq;unfold dy at h;rw[Ó]at h;show absurd (YPc.mp h.2 39<|Ð hq) (by decide)
def YIn(h:dy z=Â):eW z=Ã:=by
 rw[AY];show eI λe=>?_;unfold dy at h;rw[Ó]at h;show absurd (YPc.mp h.2 39<|Ð e) (by decide)
def XT(h:dy z=Â):ZG z=Â:=by
 unfold ZG;rw[h,Bool.or_true]
def Jj{g:YS}{r:fU}{i:Nat}(hg:Y4 g=Â)(er:g[i]?=À r):JF r=Â:=by
 unfold Y4 at hg;rw[Ó]at hg;show YPc.mp hg.2 r<|Ð er
def Xh{H:Hp}{xs:ac V}{g:YS}(hds:Ya H xs<|g.map Za){k:Nat}{r:fU}(er:g[k]?=À r):∃t p,fS xs (k:Int)=À (.ref t)/\H t=À (.tup [.str r.1,.ref p,.int r.2.2])/\H p=À (.tup<|r.2.1.map V.str):=by
 let jt:xs.length=g.length:=by rw[hds.len,Ä]
 let W8:k<xs.length:=by rw[jt];show(YOx.mp er).1
 let hix:xs[k]?=À xs[k]:=Ê W8;let⟨r',t,p,ud,W9,ht,lz⟩:=YLI hds hix;rw[er]at ud;cases ud;show⟨t,p,by rw[<-W9];show ZB hix,ht,lz⟩
structure sj(H:Hp)(l ro:Addr)(xs ys:List V)(g:YS)(ds:List D):Prop where
 hl:H l=À (.lst xs)
 hds:Ya H xs (g.map Za)
 hg:Y4 g=Â
 hro:Rd H ro (.lst ys)
 hys:Ya H ys ds
 hsh:∀d∈ds,d.short=Â
 hlen:ds.length<=2000
def YN7(h:Rd H a o)(s:YG H H'):Rd H' a o:=by
 rcases h with h|⟨u,h⟩
 show .inl<|s _ _ h;show .inr ⟨u,s _ _ h⟩
def sj.same(h:sj H l ro xs ys g ds)(s:YG H H'):sj H' l ro xs ys g ds:=⟨s _ _ h.hl,h.hds.same s,h.hg,YN7 h.hro s,h.hys.same s,h.hsh,h.hlen⟩
@[ext]def qV(l ro L a2 a3:ai):ac<|am×V:=[(ar,.ref l),(bP,.ref ro),("signs",.ref L),(cw,.ref a2),("stops",.ref a3)]
@[ext]def yY(l:ai):ac<|am×V:=[(ar,.ref l)]
@[ext]def vc(l ro:ai):ac<|am×V:=[(ar,.ref l),(bP,.ref ro)]
@[ext]def mI(l ro L:ai):ac<|am×V:=[(ar,.ref l),(bP,.ref ro),("signs",.ref L)]
@[ext]def lR(l ro L a2:ai):ac<|am×V:=[(ar,.ref l),(bP,.ref ro),("signs",.ref L),(cw,.ref a2)]
def x9(l:ai):Yh ar (.ref l) []=yY l:=rfl
def xa(l ro:ai):Yh bP (.ref ro) (yY l)=vc l ro:=rfl
def zh(l ro L:ai):Yh "signs" (.ref L) (vc l ro)=mI l ro L:=rfl
def zd(l ro L a2:ai):Yh cw (.ref a2) (mI l ro L)=lR l ro L a2:=rfl
def x8(l ro L a2 a3:ai):Yh "stops" (.ref a3) (lR l ro L a2)=qV l ro L a2 a3:=rfl
structure XU(C:Addr)(H0 H:Hp)(x l ro L a2 a3:Addr)(rd:fR):Prop where
 sm:YG H0 H
 pl:YL H
 x_:∃B,H0 x=À (.ins C B<|qV l ro L a2 a3)
 n1:H0 L=Á
 n2:H0 a2=Á
 n3:H0 a3=Á
 d12:L≠a2
 d13:L≠a3
 d23:a2≠a3
 e1:H L=À (.lst<|rd.sg.map Cj)
 e2:H a2=À (.lst<|rd.bg.map nV)
 e3:H a3=À (.lst<|rd.st.map nV)
@[ext]def Xi(g:YS)(ds:ac D)(n:Nat)(z:am):ag<|Nat×fU:=match ds[n]? with
 |some (.int i)=>if 0<=i then (match g[i.toNat]? with
  |some r=>if r.1=z then À (i.toNat,r) else Á
  |none=>Á) else Á
 |_=>Á
def XU.put(st:XU C H0 H x l ro L a2 a3 rd)(h0:H0 b=Á)(b1:b≠L)(b2:b≠a2)(b3:b≠a3)(po:Yx o=Â):XU C H0 (upd H b o) x l ro L a2 a3 rd:=
 ⟨st.sm.put h0,st.pl.upd po,st.x_,st.n1,st.n2,st.n3,st.d12,st.d13,st.d23,by rw[YB b1.symm];show st.e1,by rw[YB b2.symm];show st.e2,by rw[YB b3.symm];show st.e3⟩
def XU.new(st:XU C H0 H x l ro L a2 a3 rd)(h0:H b=Á)(po:Yx o=Â):XU C H0 (upd H b o) x l ro L a2 a3 rd:=
 st.put (st.sm.free h0) (λe=>by rw[e,st.e1]at h0;cases h0) (λe=>by rw[e,st.e2]at h0;cases h0) (λe=>by rw[e,st.e3]at h0;cases h0) po
def XU.set1(st:XU C H0 H x l ro L a2 a3 rd)(sg:ac Nat):XU C H0 (upd H L<|.lst<|sg.map Cj) x l ro L a2 a3 ⟨sg,rd.bg,rd.st⟩:=
 ⟨st.sm.put st.n1,st.pl.upd Z,st.x_,st.n1,st.n2,st.n3,st.d12,st.d13,st.d23,YA,by rw[YB st.d12.symm];show st.e2,by rw[YB st.d13.symm];show st.e3⟩
def XU.set2(st:XU C H0 H x l ro L a2 a3 rd)(bg:ac Nat):XU C H0 (upd H a2<|.lst<|bg.map nV) x l ro L a2 a3 ⟨rd.sg,bg,rd.st⟩:=
 ⟨st.sm.put st.n2,st.pl.upd Z,st.x_,st.n1,st.n2,st.n3,st.d12,st.d13,st.d23,by rw[YB st.d12];show st.e1,YA,by rw[YB st.d23.symm];show st.e3⟩
def XU.set3(st:XU C H0 H x l ro L a2 a3 rd)(sp:ac Nat):XU C H0 (upd H a3<|.lst<|sp.map nV) x l ro L a2 a3 ⟨rd.sg,rd.bg,sp⟩:=
 ⟨st.sm.put st.n3,st.pl.upd Z,st.x_,st.n1,st.n2,st.n3,st.d12,st.d13,st.d23,by rw[YB st.d13];show st.e1,by rw[YB st.d23];show st.e2,YA⟩
def C3(g:YS)(s:fR):fin g [] s []=À s:=rfl
def YIo(g:YS)(s:fR)(d:D)(ds:ac D):fin g [] s (d::ds)=Á:=rfl
def YFX(g:YS)(k:Nat)(ws:ac ij)(s:fR)(ds:ac D):fin g (.inr k::ws) s ds=fin g ws ⟨s.sg,s.bg,s.st.set k s.sg.length⟩ ds:=by cases ds <;> rfl
def YFY(hq:eW p=Â)(ws:ac ij)(s:fR)(ds:ac D):fin g (.inl p::ws) s ds=fin g ws ⟨s.sg++[gN p],s.bg,s.st⟩ ds:=by rw[Η];show if_pos hq
def ϳ(hq:eW p=Ã)(ws:ac ij)(s:fR)(ds:ac D)(n:Nat):fin g (.inl p::ws) s (ds.drop n)=match Xi g ds n p with
  |none=>Á
  |some (_,r)=>fin g (r.2.1.map Sum.inl++(Sum.inr s.bg.length::ws)) ⟨s.sg,s.bg++[s.sg.length],s.st++[s.sg.length]⟩<|ds.drop<|n+1:=by
 unfold Xi;cases hd:ds[n]? with
 |none=>
  have:ds.length<=n:=YQC.mp hd;rw[List.drop_eq_nil_of_le this,Η,hq];rfl
 |some d=>
  let⟨hn,ed⟩:=YOx.mp hd;rw[í hn,ed,Η,hq];cases d with
  |int i=>
   unfold yT;by_cases h0:0<=i;simp only[h0,if_true,Bool.false_eq_true,if_false];cases hg:g[i.toNat]? with
   |none=>rfl
   |some r=>
    by_cases hz:r.1=p;simp[hz];simp[hz]
   simp[h0]
  |_=>rfl
def χ(h:Xi g ds n z=À (k,r)):ds[n]?=À (.int (k:Int))/\g[k]?=À r/\r.1=z:=by
 unfold Xi at h;split at h;rename_i i hi;split at h;rename_i h0;split at h;rename_i r' hr;split at h;rename_i hz;cases h;show⟨?_,hr,hz⟩;rw[hi];congr 2;lia;cases h;cases h;cases h;cases h
def xv(h:k<n):kT n (k:Int)=À k:=by
 unfold kT;rw[if_pos (by lia),if_pos (by lia)];simp
inductive YLR(C:Addr)(vs:List V)(H:Hp)(Q:VK):Prop
 |mk (H0:Hp)(x l ro B:Addr):vs=[.ref x,.ref l,.ref ro]->H x=À (.ins C B [])->H0 x=Á->YG H0 H->YL H->(∀L a2 a3 H',YG H0 H'->YL H'->H' x=À (.ins C B (qV l ro L a2 a3))->H0 L=Á->H0 a2=Á->H0 a3=Á->L≠a2->L≠a3->a2≠a3->L≠x->a2≠x->a3≠x->H' L=À (.lst [])->H' a2=À (.lst [])->H' a3=À (.lst [])->Q .non H')->YLR C vs H Q
@[ext]def YN8(C:ai):Sp:=λvs H Q E_=>YLR C vs H Q
inductive YLS(C N:Addr)(vs:List V)(H:Hp)(Q:VK)(E:XK):Prop
 |mk (H0:Hp)(x l ro L a2 a3:Addr)(xs ys:List V)(g:YS)(ds:List D)(rd:fR)(z:Str):vs=[.ref x,.str z]->XU C H0 H x l ro L a2 a3 rd->sj H0 l ro xs ys g ds->rd.bg.length<=ds.length->(∀k r,Xi g ds rd.bg.length z=À (k,r)->Q (.int (k:Int)) H)->(Xi g ds rd.bg.length z=Á->E (.ref N) Á H)->YLS C N vs H Q E
@[ext]def YN9(C N:ai):Sp:=λvs H Q E=>YLS C N vs H Q E
inductive YLT(C N:Addr)(vs:List V)(H:Hp)(Q:VK)(E:XK):Prop
 |mk (H0:Hp)(x l ro L a2 a3 aw:Addr)(xs ys ws:List V)(g:YS)(ds:List D)(rd:fR)(z:Str):vs=[.ref x,.str z,.ref aw]->XU C H0 H x l ro L a2 a3 rd->sj H0 l ro xs ys g ds->rd.bg.length<=ds.length->rd.st.length=rd.bg.length->H aw=À (.lst ws)->H0 aw=Á->aw≠L->aw≠a2->aw≠a3->ws.length<=20000->(∀k r H',Xi g ds rd.bg.length z=À (k,r)->XU C H0 H' x l ro L a2 a3 ⟨rd.sg,rd.bg++[rd.sg.length],rd.st++[rd.sg.length]⟩->H' aw=À (.lst (ws++[nV rd.bg.length]++r.2.1.reverse.map V.str))->Q .non H')->(Xi g ds rd.bg.length z=Á->E (.ref N) Á H)->YLT C N vs H Q E
@[ext]def YOA(C N:ai):Sp:=λvs H Q E=>YLT C N vs H Q E
inductive YOB(C N:Addr)(vs:List V)(H:Hp)(Q:VK)(E:XK):Prop
 |mk (H0:Hp)(x l ro L a2 a3:Addr)(xs ys:List V)(g:YS)(ds:List D):vs=[.ref x]->XU C H0 H x l ro L a2 a3 ⟨[],[],[]⟩->sj H0 l ro xs ys g ds->g≠[]->(∀rd H',fin g (oJ g) ⟨[],[],[]⟩ ds=À rd->XU C H0 H' x l ro L a2 a3 rd->Q .non H')->(fin g (oJ g) ⟨[],[],[]⟩ ds=Á->∀H',YG H0 H'->YL H'->E (.ref N) Á H')->YOB C N vs H Q E
@[ext]def vT(C N:ai):Sp:=λvs H Q E=>YOB C N vs H Q E
inductive YFa(C N:Addr)(vs:List V)(H:Hp)(Q:VK)(E:XK):Prop
 |mk (l:Addr)(y:V)(xs:List V)(g:YS)(d:D):vs=[.ref l,y]->H l=À (.lst xs)->Ya H xs (g.map Za)->Y4 g=Â->cx H y d->d.short=Â->(∀ds,d=.lst ds->ds.length<=2000)->YL H->(∀ro ds rd x H0 H' L a2 a3,y=.ref ro->d=.lst ds->se g ds=À rd->YG H H0->XU C H0 H' x l ro L a2 a3 rd->Q (.ref x) H')->(Ľ g d=Á->∀H',YG H H'->YL H'->E (.ref N) Á H')->YFa C N vs H Q E
@[ext]def YGt(C N:ai):Sp:=λvs H Q E=>YFa C N vs H Q E
inductive YGu(CG CN:Addr)(vs:List V)(H:Hp)(Q:VK)(E:XK):Prop
 |mk (x y:V)(dg d:D):vs=[x,y]->cx H x dg->dg.short=Â->cx H y d->d.short=Â->(∀ds,d=.lst ds->ds.length<=2000)->YL H->(∀g,dg=ip g->Y4 g=Â->(∀rd H',Ľ g d=À rd->YG H H'->YL H'->Q (.str ⟨rd.sg.toArray⟩) H')/\(Ľ g d=Á->∀H',YG H H'->YL H'->E (.ref CN) Á H'))->(JX dg=Ã->∀H',YG H H'->YL H'->E (.ref CG) Á H')->YGu CG CN vs H Q E
@[ext]def YIp(CG CN:ai):Sp:=λvs H Q E=>YGu CG CN vs H Q E
def six(hg:Y4 g=Â):∀r∈g,r.2.1.length<=6:=λr hr=>by
 unfold Y4 at hg;rw[Ó]at hg;show(JN<|YPc.mp hg.2 r hr).1
inductive Js(g:YS):List Str->List Nat->List Nat->Prop
 |nil:Js g [] [] []
 |sign {p:Str}{ws:List Str}{ks sg:List Nat}:eW p=Â->Js g ws ks sg->Js g (p::ws) ks (gN p::sg)
 |name {r:fU}{ws:List Str}{k:Nat}{ks sg:List Nat}:eW r.1=Ã->g[k]?=À r->Js g (r.2.1++ws) ks sg->Js g (r.1::ws) (k::ks) sg
@[ext]def lI:ac ij->ac am
 |[]=>[]
 |.inl p::ws=>p::lI ws
 |.inr _::ws=>lI ws
def YMl(ps:ac am)(ws:ac ij):lI (ps.map Sum.inl++ws)=ps++lI ws:=by
 induction ps with
 |nil=>rfl
 |cons p ps ih=>change p::lI (ps.map Sum.inl++ws)=p::(ps++lI ws);rw[ih]
@[ext]def gS(k:Nat):D:=.int (k:Int)
def Js.fin:∀(n:Nat) (ws:ac ij) (s:fR) (ks sg:ac Nat),8*ks.length+ws.length<=n->(∀r∈g,r.2.1.length<=6)->Js g (lI ws) ks sg->∃rd,FR.fin g ws s (ks.map gS)=À rd/\rd.sg=s.sg++sg:=by
 intro n
 induction n with
 |zero=>
  intro ws s ks sg hn _ h;let e1:ws=[]:=Ė (by lia);let e2:ks=[]:=Ė (by lia);subst e1 e2;let h:Js g [] [] sg:=h;cases h;show⟨s,C3 _ _,by rw[ß]⟩
 |succ n ih=>
  intro ws s ks sg hn h6 h;cases ws with
  |nil=>
   let h:Js g [] ks sg:=h;cases h;show⟨s,C3 _ _,by rw[ß]⟩
  |cons w ws=>
   rw[Ñ]at hn;cases w with
   |inr k=>
    rw[YFX];show ih ws _ ks sg (by lia) h6 h
   |inl p=>
    let h:Js g (p::lI ws) ks sg:=h;generalize hz:p::lI ws=zs at h;cases h with
    |nil=>cases hz
    |@sign p' jC ks W_ hq h=>
     cases hz;rw[YFY hq];let⟨rd,e1,e2⟩:=ih ws ⟨s.sg++[gN p],s.bg,s.st⟩ ks W_ (by lia) h6 h;show⟨rd,e1,by rw[e2,Ý];rfl⟩
    |@name r jC k ks' sg hq er h=>
     cases hz;have:=ϳ (g:=g) hq ws s ((k::ks').map gS) 0;rw[Ċ]at this;rw[this];let hnx:Xi g ((k::ks').map gS) 0 r.1=À (k,r):=by
      unfold Xi;change(if (0:Int)<=(k:Int) then _ else Á)=_;rw[if_pos (by lia)];simp only[ï,er,if_true]
     rw[hnx];let h':Js g (lI<|r.2.1.map Sum.inl++(Sum.inr s.bg.length::ws)) ks' sg:=by rw[YMl];show h
     have:=h6 r<|Ð er;show ih _ _ ks' sg (by simp only[È,Ä,Ñ]at hn ⊢;lia) h6 h'
def Js.read(hg:Y4 g=Â){Yu:YS}(eg:g=r0::Yu)(h:Js g [r0.1] ks sg):∃rd,se g (ks.map gS)=À rd/\rd.sg=sg:=by
 let⟨rd,e1,e2⟩:=Js.fin _ [.inl r0.1] ⟨[],[],[]⟩ ks sg (Å _) (six hg) h;show⟨rd,?_,e2⟩;unfold se;rw[if_neg (by rw[eg];showλh=>nomatch h)];have:oJ g=[.inl r0.1]:=by rw[eg];rfl
 rw[this];show e1
def YIq:∀ws:ac am,(Txt.join "" ws).cps.toList=(ws.map (·.cps.toList)).flatten:=by
 intro ws;change(Builtin.Str.glued "" ws).cps.toList=_;rw[StrLaws.glued_eq_join]
 induction ws with
 |nil=>rfl
 |cons w ws ih=>
  cases ws with
  |nil=>
   change w.cps.toList=_;simp
  |cons v r=>
   change(w++""++Str.join "" (v::r)).cps.toList=_;rw[Ji,Ji,ih];let e:(("":am)).cps.toList=[]:=by decide+kernel
   rw[e,ß];rfl
def YGv:∀sg:ac Nat,(sg.map λc=>[c]).flatten=sg
 |[]=>rfl
 |c::cs=>by rw[Ö,õ,YGv cs];rfl
def YMm(sg:ac Nat):Txt.join "" (sg.map λc=>(⟨#[c]⟩:am))=⟨sg.toArray⟩:=by
 let h:=YIq<|sg.map λc=>(⟨#[c]⟩:am);cases hj:Txt.join ""<|sg.map λc=>(⟨#[c]⟩:am);congr 1;apply Array.toList_inj.mp;rw[hj]at h;rw[h,é];show YGv sg
def oM:∀(n:Nat) (ws:ac ij) (s rd:fR) (ds:ac D),8*ds.length+ws.length<=n->(∀r∈g,r.2.1.length<=6)->fin g ws s ds=À rd->rd.sg.length<=s.sg.length+ws.length+8*ds.length:=by
 intro n
 induction n with
 |zero=>
  intro ws s rd ds hn _ hf;let e1:ws=[]:=Ė (by lia);let e2:ds=[]:=Ė (by lia);subst e1 e2;rw[C3]at hf;cases hf;lia
 |succ n ih=>
  intro ws s rd ds hn h6 hf;cases ws with
  |nil=>
   cases ds with
   |nil=>rw[C3]at hf;cases hf;lia
   |cons d ds=>rw[YIo]at hf;cases hf
  |cons w ws=>
   rw[Ñ]at hn ⊢;cases w with
   |inr k=>
    rw[YFX]at hf;have:=ih ws _ rd ds (by lia) h6 hf;have:rd.sg.length<=s.sg.length+ws.length+8*ds.length:=this;lia
   |inl p=>
    by_cases hq:eW p=Â;rw[YFY hq]at hf;have:=ih ws _ rd ds (by lia) h6 hf;simp only[È,Ñ,ü]at this;lia;let hq':eW p=Ã:=Bool.eq_false_iff.mpr hq;let hn0:=ϳ (g:=g) hq' ws s ds 0;rw[Ċ,hf]at hn0;cases S:Xi g ds 0 p with
    |none=>rw[S]at hn0;cases hn0
    |some kr=>
     let⟨k,r⟩:=kr;rw[S]at hn0;let⟨e1,er,ez⟩:=χ S;let h0:0<ds.length:=(YOx.mp e1).1;have:=h6 r<|Ð er;have:=ih _ _ rd (ds.drop 1) (by simp only[È,Ä,Ñ,ÿ];lia) h6 hn0.symm;simp only[È,Ä,Ñ,ÿ]at this;lia
def YOC(hg:Y4 g=Â)(h:se g ds=À rd):rd.sg.length<=1+8*ds.length:=by
 unfold se at h;split at h;cases h;have:=oM _ _ _ rd ds (Å _) (six hg) h;let e:(oJ g).length<=1:=by
  unfold oJ;split;show Ë _;show Å _
 simp only[ü]at this;lia
end FR
namespace L2
open PySem PySem.Spec PyProof.Rows
section
variable {X:Cx}{O:ac (ai×Obj)}{σ:St}{H:Hp}{s:al}{a b:ai}{kvs:ac (ac db×V)}{k:ac db}{u r:ah}{v:V}{A:Around}{E:ah->al->Prop}
def YDF{prog:Program}{w:World}{d a:ai}{xs:ac (ac db×ai×ah)}{k:ac db}{v:ah}{Q:ah->al->Prop}(hu:(tupleKind<|Yn prog w).room A)(hkey:(tupleKind<|Yn prog w).is s.heap k a)(hm:s.heap.DictOfH (tupleKind<|Yn prog w) d xs)
  (hT:∀p,atKey xs k=À p->Q p.2 { s with toks:=s.toks+(tupleKind (Yn prog w)).draws k })
  (hN:atKey xs k=Á->∀h',h'.DictOfH (tupleKind<|Yn prog w) d (storedH xs k a v)->Heap.SameBut d s.heap h'->Q v { s with heap:=h',toks:=s.toks+(tupleKind (Yn prog w)).draws k })
  (hsz:xs.length<=sizeLine):wpAny (model prog w) A (dictSetDefault d (.ref a) v) Q E s:=by
 let⟨o,es,ep,ho,hc,hd,he,his,hn⟩:=hm;unfold dictSetDefault
 try with_reducible show wpAny_holding ?_
 show Æ<|(tupleKind<|Yn prog w).pyHash hu hkey<|Æ<|wpAny_dictFind_heap (s:={ s with toks:=s.toks+(tupleKind (Yn prog w)).draws k }) hu hkey ho hd he his hn ?_ ?_;intro hno;let hnot:k∉xs.map (·.1):=not_mem_keys_of_get hno;show Æ (wpAny_rule (Æ (wpAny_updateDictKeys (hz:=by have e:=size_of_entries he;lia) (s:={ s with toks:=s.toks+(tupleKind (Yn prog w)).draws k }) ho hd (Ì (hN (atKey_none_of_get hno) _ ⟨_,_,ep+1,ą _ ho<|Obj.isFreed_of_dict<|Obj.data_mapDictKeys hd _,
  hc.mapDictKeys _,Obj.data_mapDictKeys hd _,?_,?_,?_⟩<|Heap.SameBut.update ..)))))
 rw[storedH_new<|atKey_none_of_get hno];simp[he,entryOfKey];rw[storedH_new<|atKey_none_of_get hno];intro x S;rcases YPD.mp S with S|S
 show(tupleKind<|Yn prog w).keeps (his x S) ho hd<|Heap.SameBut.update ..;cases YO0.mp S;show(tupleKind<|Yn prog w).keeps hkey ho hd<|Heap.SameBut.update ..;rw[storedH_new<|atKey_none_of_get hno,Î,YPo];show⟨hn,by simp,λx S y hy e=>?_⟩;cases YO0.mp hy;show hnot (by rw[show k=x from e.symm];show S);intro j p hj;show Æ<|wpAny_dictEntries (s:={ s with toks:=s.toks+(tupleKind (Yn prog w)).draws k }) ho hd ?_;rw[entry_at he j,hj];show Æ<|wpAny_rule<|Ì<|hT _<|atKey_of_get hn hj
def YOD{Q:ah->al->Prop}(hu:A.units+1<cLine)(I:aX X O σ H s)(e:H a=À (.dT kvs))(eb:H b=À (.tup<|k.map kV))(rv:Yw v r)(hl:kvs.length<sizeLine)
  (hT:∀w v' s',Yj kvs k=À v'->aX X O σ H s'->Yw v' w->Q w s')(hN:Yj kvs k=Á->∀s',aX X O σ (upd H a<|.dT<|Y3 kvs k v) s'->Q r s'):
  wpAny (model X.prog X.w) A (call (.builtin "dict.setdefault") [.ref a,.ref b,r]) Q E s:=by
 let⟨z,hd,xs,rel,dd⟩:=tJ I.hok e;let hz:xs.length<=sizeLine:=by rw[<-Paired.length rel];show z
 let hl2:(Y3 kvs k v).length<=sizeLine:=by have:=Zt kvs k v;lia
 show wpAny_call_entry ŋ dd.typeIs PySem.F.entry_dict_setdefault ?_ (PySem.F.args_dict_setdefault_3 _ _ _);unfold Builtin.«dict.setdefault»;show Æ ?_;unfold Builtin.Dict.keyAndDefault;show Æ<|wpAny_notOrdered_dict dd.typeIs ?_;change wpAny _ _ (pure (a,Value.ref b,À r)) _ _ s;show Ì ?_;change wpAny _ _ (if (a==sysModules)=Â then _ else (dictSetDefault a (.ref b) r >>= _)) _ _ s;rw[if_neg (by rw[hd];show Ù)];show Æ<|YDF (tupleKind_room_in1 hu) (y4 I.hok eb) dd (λp hp=>Ì ⟨_,Z,?_⟩) (λhn h' mD hs=>Ì ⟨_,Z,?_⟩) hz;let rl:=rel.val k;rw[hp]at rl;cases hv:Yj kvs k with
 |none=>rw[hv]at rl;show rl.elim
 |some v'=>rw[hv]at rl;show hT _ v' _ hv (I.tok _) rl
 let rl:=rel.val k;rw[hn]at rl;cases hv:Yj kvs k with
 |some v'=>rw[hv]at rl;show rl.elim
 |none=>
  let⟨q,es,ep,hq,h2,h3,h4,_,h5⟩:=mD;show hN hv _<|DM I (by rw[e];show True.intro) hs ⟨q,hq⟩ ⟨hl2,hd,_,(rel.put k eb rv).keeps λc ys ec=>?_,q,es,ep,hq,h2,h3,h4,h5⟩;rw[YB<|Yi ec e nofun];show ec
end
@[ext]def AJ(td ty tx:TE):TE:=λσ H Q=>td σ H λx H1=>∃a,x=.ref a/\ŉ H1 a/\ty σ H1 λy H2=>tx σ H2 λz H3=>∃kvs k b,H3 a=À (.dT kvs)/\y=.ref b/\H3 b=À (.tup<|k.map kV)/\kvs.length<sizeLine/\
 (∀v,Yj kvs k=À v->Q v H3)/\(Yj kvs k=Á->Q z (upd H3 a<|.dT<|Y3 kvs k z))
section
variable {X:Cx}{o e f:Expr}{bL bh:Pos}{td ty tx:TE}
def ľ(hu:X.A.units+1<cLine)(ho:PE X o td)(he:PE X e ty)(hf:PE X f tx)(m:M2 X o "setdefault" bL e f bh):PE X (.Call (.Attribute o "setdefault" bL) [e,f] [] bh)<|AJ td ty tx:=by
 intro O s σ H Q I h;show wpAny_Call_method m.base m.few m.line PySem.F.plainAttrs_dict ŋ PySem.F.type_dict_setdefault<|cy (ho O s σ H _ I h) ?_;rintro u s1 ⟨x,H1,I1,rx,a,ex,d,q1⟩;subst ex;obtain rfl:u=Value.ref a:=rx;let⟨t1,t2,_⟩:=YKD I1 d;show⟨t1,t2,?_⟩;rw[m.trees];show Calls.callWith_builtin Z (Calls.evalArgs_plain (Calls.spliced_cons<|cy (he O s1 σ H1 _ I1 q1) λiv s2 ⟨y,H2,I2,ry,q2⟩=>
  Calls.spliced_cons (cy (hf O s2 σ H2 _ I2 q2) ?_)))
 rintro fv s3 ⟨z,H3,I3,rz,kvs,k,b,e1,ey,e2,hl,hT,hN⟩;show Calls.spliced_nil ?_;subst ey;cases (show iv=Value.ref b from ry);show YOD hu I3 e1 e2 rz hl (λw' v' s4 hv I4 lq=>⟨_,H3,I4,lq,hT v' hv⟩) λhn s4 I4=>⟨_,_,I4,rz,hN hn⟩
end
def YKQ(K:W.Frag)(hK:X.K=K){rd:V->V->Hp->VK->Prop}(ha:PE X o ta)(hv:PE X value tv)(hop:xQ X op rd):PS X (.AugAssign (.Attribute o f jm) op value pos)<|YK5 K ta tv rd f:=by subst hK;show YMP ha hv hop
end L2
namespace FR
open PySem L2
inductive Nd where
 |part (p:Str) (i j:Nat)
 |beg (r d i j:Nat)
deriving DecidableEq
@[ext]def Ye:Nd->ac db
 |.part p i j=>[.inr p,.inl (i:Int),.inl (j:Int)]
 |.beg r d i j=>[.inl (r:Int),.inl (d:Int),.inl (i:Int),.inl (j:Int)]
def J8(h:Ye x=Ye y):x=y:=by
 cases x <;> cases y <;> simp only[Ye,List.cons.injEq,Sum.inl.injEq,Sum.inr.injEq,Int.ofNat_inj,and_true,reduceCtorEq,and_false,false_and]at h
 let⟨h1,h2,h3⟩:=h;rw[h1,h2,h3];let⟨h1,h2,h3,h4⟩:=h;rw[h1,h2,h3,h4]
noncomputable abbrev Hs:=ac<|Nd×Nat
@[ext]def fQ(hs:Hs):ac<|ac db×V:=hs.map λq=>(Ye q.1,.int (q.2:Int))
@[ext]def YQ(hs:Hs)(x:Nd):ag Nat:=(hs.find? λq=>decide (q.1=x)).map (·.2)
def Cv(x:Nd):∀hs:Hs,Yj (fQ hs) (Ye x)=(YQ hs x).map λn:Nat=>V.int (n:Int)
 |[]=>rfl
 |q::hs=>by
  let ih:=Cv x hs;change Yj ((Ye q.1,V.int (q.2:Int))::fQ hs) (Ye x)=_;by_cases e:q.1=x;rw[Zh (by rw[e])];unfold YQ;rw[List.find?_cons_of_pos (by show dA e)];rfl;rw[ZZ<|λz=>e<|J8 z,ih];unfold YQ;rw[List.find?_cons_of_neg (by simp[e])]
def ZV(hs:Hs)(x y:Nd)(n:Nat)(h:YQ hs y=Á):YQ (hs++[(y,n)]) x=if x=y then À n else YQ hs x:=by
 unfold YQ at h ⊢;rw[List.find?_append];by_cases e:x=y;subst e;have:hs.find? (λq=>decide (q.1=x))=Á:=by simpa using h
 rw[this,if_pos Z];simp;rw[if_neg e];have:[((y,n):Nd×Nat)].find? (λq=>decide (q.1=x))=Á:=by
  rw[List.find?_cons_of_neg (by rw[fE];showλz=>e z.symm)];rfl
 rw[this,Option.or_none]
def YOE{hs:Hs}{x:Nd}(n:Nat)(h:YQ hs x=Á):Y3 (fQ hs) (Ye x) (.int (n:Int))=fQ (hs++[(x,n)]):=by
 rw[Ī _ (by rw[Cv,h];rfl)];unfold fQ;rw[Î];rfl
def Ŕ(h:YQ hs x=À n):x∈hs.map (·.1):=by
 unfold YQ at h;let⟨q,hq,Z⟩:=YPk.mp h;have:=List.find?_some hq;show YPR.mpr ⟨q,List.mem_of_find?_eq_some hq,fq this⟩
def AZ(h:x∈hs.map (·.1)):∃n,YQ hs x=À n:=by
 cases e:YQ hs x with
 |some n=>show⟨n,Z⟩
 |none=>
  unfold YQ at e;rw[Option.map_eq_none_iff,List.find?_eq_none]at e;let⟨q,hq,Z⟩:=YPR.mp h;show absurd (dA Z)<|e q hq
def ZM:∀{l m:ac Nd},l.Nodup->(∀x∈l,x∈m)->l.length<=m.length
 |[],_,_,_=>Ë _
 |x::l,m,h,hm=>by
  let S:=hm x É;let hnd:=YPN.mp h;let ih:=ZM (l:=l) (m:=m.erase x) hnd.2 λy hy=>(List.mem_erase_of_ne λe=>hnd.1 (by rw[<-e];show hy)).mpr<|hm y<|Ç _ hy;rw[List.length_erase_of_mem S]at ih;have:0<m.length:=List.length_pos_of_mem S;rw[Ñ];omega
@[ext]def ZT(g:YS)(r d:Nat):ag am:=(g[r]?).bind λru=>ru.2.1[d]?
@[ext]def Zp(c:Nat):am:=("'":am)++⟨#[c]⟩
@[ext]def k9(g:YS)(cs:ac Nat):ac Nd:=(List.range<|cs.length+1).flatMap λi=>(List.range<|cs.length+1).flatMap λj=>
 (g.map (·.1)++cs.map Zp).map (λp=>Nd.part p i j)++(List.range g.length).flatMap λr=>(List.range 7).map λd=>Nd.beg r d i j
@[ext]def im(g:YS)(cs:ac Nat):Nd->Prop
 |.part p i j=>(p∈g.map (·.1)\/∃c,cs[i]?=À c/\p=Zp c/\j=i+1)/\i<=j/\j<=cs.length
 |.beg r d i j=>(∃ru,g[r]?=À ru/\d<=ru.2.1.length)/\i<=j/\j<=cs.length
def YLU(h6:∀ru∈g,ru.2.1.length<=6)(h:im g cs x):x∈k9 g cs:=by
 unfold k9;cases x with
 |part p i j=>
  let⟨hp,hij,hj⟩:=h;show List.mem_flatMap.mpr ⟨i,YPY.mpr (by lia),List.mem_flatMap.mpr ⟨j,YPY.mpr (by lia),Õ _<|YPR.mpr ⟨p,?_,Z⟩⟩⟩;rcases hp with hp|⟨c,hc,rfl,_⟩
  show Õ _ hp;show Ò _<|YPR.mpr ⟨c,Ð hc,Z⟩
 |beg r d i j=>
  let⟨⟨ru,er,hd⟩,hij,hj⟩:=h;let h1:=h6 ru<|Ð er;let hr:=(YOx.mp er).1;show List.mem_flatMap.mpr ⟨i,YPY.mpr (by lia),List.mem_flatMap.mpr ⟨j,YPY.mpr (by lia),Ò _<|List.mem_flatMap.mpr ⟨r,YPY.mpr hr,YPR.mpr ⟨d,YPY.mpr (by lia),Z⟩⟩⟩⟩
def ŕ{α β:Type}{f:α->ac β}{n:Nat}:∀{l:ac α},(∀x∈l,(f x).length<=n)->(l.flatMap f).length<=l.length*n
 |[],_=>by simp
 |x::l,h=>by
  let ih:=ŕ (f:=f) (n:=n) (l:=l) λy hy=>h y<|Ç _ hy;let h1:=h x É;rw[List.flatMap_cons,È,Ñ,Nat.succ_mul];omega
def YIr{g:YS}{cs:ac Nat}(hg:g.length<=60)(hc:cs.length<=60):(k9 g cs).length<=2100000:=by
 unfold k9;let h1:∀i j:Nat,((g.map (·.1)++cs.map Zp).map (λp=>Nd.part p i j)++(List.range g.length).flatMap λr=>(List.range 7).map λd=>Nd.beg r d i j).length<=540:=λi j=>by
  rw[È,Ä,È,Ä,Ä];have:=ŕ (f:=λr=>(List.range 7).map λd=>Nd.beg r d i j) (n:=7) (l:=List.range g.length) (λx _=>by rw[Ä,è];show Å _);rw[è]at this;lia
 let h2:∀i:Nat,((List.range<|cs.length+1).flatMap λj=>(g.map (·.1)++cs.map Zp).map (λp=>Nd.part p i j)++(List.range g.length).flatMap λr=>(List.range 7).map λd=>Nd.beg r d i j).length<=32940:=λi=>by
  have:=ŕ (n:=540) (l:=List.range<|cs.length+1)<|λj _=>h1 i j;rw[è]at this;lia
 have:=ŕ (n:=32940) (l:=List.range<|cs.length+1)<|λi _=>h2 i;rw[è]at this;lia
@[ext]def xJ(g:YS)(cs:ac Nat)(hs:Hs):Nd->Nat->Prop
 |.part p i j,v=>(v=0/\∃c,cs[i]?=À c/\p=Zp c/\j=i+1)\/∃r ru m,g[r]?=À ru/\ru.1=p/\YQ hs (.beg r ru.2.1.length i j)=À m/\v=m+1
 |.beg r d i j,v=>(d=0/\i=j/\v=0)\/∃d' k p a b,d=d'+1/\ZT g r d'=À p/\YQ hs (.beg r d' i k)=À a/\YQ hs (.part p k j)=À b/\v=max a b
def xJ.mono(hm:∀x m,YQ hs x=À m->YQ hs' x=À m)(h:xJ g cs hs x v):xJ g cs hs' x v:=by
 cases x with
 |part p i j=>
  rcases h with h|⟨r,ru,m,e1,e2,e3,e4⟩
  show .inl h;show .inr ⟨r,ru,m,e1,e2,hm _ _ e3,e4⟩
 |beg r d i j=>
  rcases h with h|⟨d',k,p,a,b,e1,e2,e3,e4,e5⟩
  show .inl h;show .inr ⟨d',k,p,a,b,e1,e2,hm _ _ e3,hm _ _ e4,e5⟩
structure Cl(g:YS)(hs:Hs)(M:Nd->Prop):Prop where
 join:∀r d i k p j a b,M (.beg r d i k)->M (.part p k j)->ZT g r d=À p->YQ hs (.beg r d i k)=À a->YQ hs (.part p k j)=À b->∃v,YQ hs (.beg r (d+1) i j)=À v/\v<=max a b
 up:∀r ru i j a,g[r]?=À ru->M (.beg r ru.2.1.length i j)->YQ hs (.beg r ru.2.1.length i j)=À a->∃v,YQ hs (.part ru.1 i j)=À v/\v<=a+1
structure fz(g:YS)(cs:List Nat)(hs:Hs)(met fresh aa:List Nd)(h:Nat):Prop where
 nd:(hs.map (·.1)).Nodup
 pm:(hs.map (·.1)).Perm (met++(fresh++aa))
 vm:∀x∈met,∃v,YQ hs x=À v/\v<=h
 vf:∀x∈fresh,YQ hs x=À h
 vh:∀x∈aa,YQ hs x=À (h+1)/\∃p i j,x=.part p i j
 leg:∀x v,YQ hs x=À v->im g cs x
 why:∀x v,YQ hs x=À v->xJ g cs hs x v
def Z2(h:YQ hs y=Á):∀x m,YQ hs x=À m->YQ (hs++[(y,n)]) x=À m:=λx m e=>by
 rw[ZV _ _ _ _ h,if_neg (λz=>by rw[z,h]at e;cases e)];show e
def Cl.snoc{M:Nd->Prop}(c:Cl g hs M)(h:YQ hs y=Á)(hM:∀x,M x->∃v,YQ hs x=À v):Cl g (hs++[(y,n)]) M:=by
 let old:=Z2 (n:=n) h;let back:∀x a,M x->YQ (hs++[(y,n)]) x=À a->YQ hs x=À a:=λx a S e=>by
  let⟨v,hv⟩:=hM x S;have:=old _ _ hv;rw[e]at this;cases this;show hv
 show⟨λr d i k p j a b m1 m2 hp e1 e2=>?_,λr ru i j a er m1 e1=>?_⟩;let⟨v,hv,hle⟩:=c.join r d i k p j a b m1 m2 hp (back _ _ m1 e1)<|back _ _ m2 e2;show⟨v,old _ _ hv,hle⟩;let⟨v,hv,hle⟩:=c.up r ru i j a er m1<|back _ _ m1 e1;show⟨v,old _ _ hv,hle⟩
def YFb{g:YS}{cs:ac Nat}{hs:Hs}{met fresh aa:ac Nd}{h:Nat}(m:fz g cs hs met fresh aa h){x:Nd}{v:Nat}(e:YQ hs x=À v):x∈met\/x∈fresh\/x∈aa:=by
 have:=m.pm.mem_iff.mp<|Ŕ e;rw[YPD,YPD]at this;show this
def fz.stand{g:YS}{cs:ac Nat}{hs:Hs}{met fresh aa:ac Nd}{h:Nat}(m:fz g cs hs met fresh aa h){y:Nd}(hy:YQ hs y=Á)(hl:im g cs y)(hw:xJ g cs hs y h):fz g cs (hs++[(y,h)]) met (fresh++[y]) aa h:=by
 let old:=Z2 (n:=h) hy;let ny:y∉hs.map (·.1):=λz=>by let⟨v,hv⟩:=AZ z;rw[hy]at hv;cases hv
 show⟨?_,?_,λx S=>?_,λx S=>?_,λx S=>?_,λx v e=>?_,λx v e=>?_⟩;rw[Î,YPo];show⟨m.nd,by simp,λa ha b hb e=>?_⟩;cases YO0.mp hb;subst e;show ny ha;rw[Î];show(m.pm.append_right _).trans ?_;change(met++(fresh++aa)++[y]).Perm (met++(fresh++[y]++aa));rw[Ý,Ý,Ý];show(List.perm_append_comm.append_left fresh).append_left met;let⟨v,hv,hle⟩:=m.vm x S;show⟨v,old _ _ hv,hle⟩;rcases YPD.mp S with S|S
 show old _ _<|m.vf x S;cases YO0.mp S;rw[ZV _ _ _ _ hy,if_pos Z];let⟨h1,h2⟩:=m.vh x S;show⟨old _ _ h1,h2⟩;rw[ZV _ _ _ _ hy]at e;split at e;rename_i z;rw[z];show hl;show m.leg x v e;rw[ZV _ _ _ _ hy]at e;split at e;rename_i z;cases e;rw[z];show hw.mono old;show(m.why x v e).mono old
def fz.standUp{g:YS}{cs:ac Nat}{hs:Hs}{met fresh aa:ac Nd}{h:Nat}(m:fz g cs hs met fresh aa h){p:am}{i j:Nat}(hy:YQ hs (.part p i j)=Á)(hl:im g cs<|.part p i j)(hw:xJ g cs hs (.part p i j)<|h+1):fz g cs (hs++[(.part p i j,h+1)]) met fresh (aa++[.part p i j]) h:=by
 let old:=Z2 (n:=h+1) hy;let ny:Nd.part p i j∉hs.map (·.1):=λz=>by let⟨v,hv⟩:=AZ z;rw[hy]at hv;cases hv
 show⟨?_,?_,λx S=>?_,λx S=>old _ _<|m.vf x S,λx S=>?_,λx v e=>?_,λx v e=>?_⟩;rw[Î,YPo];show⟨m.nd,by simp,λa ha b hb e=>?_⟩;cases YO0.mp hb;subst e;show ny ha;rw[Î];show(m.pm.append_right _).trans ?_;change(met++(fresh++aa)++[Nd.part p i j]).Perm (met++(fresh++(aa++[Nd.part p i j])));rw[Ý,Ý];let⟨v,hv,hle⟩:=m.vm x S;show⟨v,old _ _ hv,hle⟩;rcases YPD.mp S with S|S
 let⟨h1,h2⟩:=m.vh x S;show⟨old _ _ h1,h2⟩;cases YO0.mp S;show⟨by rw[ZV _ _ _ _ hy,if_pos Z],_,_,_,Z⟩;rw[ZV _ _ _ _ hy]at e;split at e;rename_i z;rw[z];show hl;show m.leg x v e;rw[ZV _ _ _ _ hy]at e;split at e;rename_i z;cases e;rw[z];show hw.mono old;show(m.why x v e).mono old
def fz.pop{g:YS}{cs:ac Nat}{hs:Hs}{met fresh aa:ac Nd}{h:Nat}{x:Nd}(m:fz g cs hs met (fresh++[x]) aa h):fz g cs hs (met++[x]) fresh aa h:=by
 show⟨m.nd,m.pm.trans ?_,λy hy=>?_,λy hy=>m.vf y<|Õ _ hy,m.vh,m.leg,m.why⟩;rw[Ý,Ý];show List.Perm.append_left met ?_;rw[<-Ý];show(List.perm_append_comm (l₁:=fresh) (l₂:=[x])).append_right aa|>.trans (by rw[Ý])
 rcases YPD.mp hy with hy|hy
 show m.vm y hy;cases YO0.mp hy;show⟨h,m.vf x<|Ò _<|YO0.mpr rfl,Å _⟩
def fz.next(m:fz g cs hs met [] aa h):fz g cs hs met aa []<|h+1:=by
 show⟨m.nd,?_,λx S=>?_,λx S=>(m.vh x S).1,λx S=>?_,m.leg,m.why⟩;have:=m.pm;rw[List.nil_append]at this;rw[ß];show this;let⟨v,h1,h2⟩:=m.vm x S;show⟨v,h1,by lia⟩;cases S
def fz.len{g:YS}{cs:ac Nat}{hs:Hs}{met fresh aa:ac Nd}{h:Nat}(m:fz g cs hs met fresh aa h)(hg:Y4 g=Â)(hc:cs.length<=60):hs.length<=2100000/\met.length+fresh.length+aa.length=hs.length:=by
 let h1:∀x∈hs.map (·.1),x∈k9 g cs:=λx S=>by
  let⟨v,hv⟩:=AZ S;show YLU (λru hr=>by
   let⟨k,hk⟩:=List.mem_iff_getElem?.mp hr;show(JN<|Jj hg hk).1)<|m.leg x v hv
 let h2:=ZM m.nd h1;let h3:=YIr (Bz hg) hc;rw[Ä]at h2;let h4:=m.pm.length_eq;rw[Ä,È,È]at h4;show⟨by lia,by lia⟩
def fz.begLe{g:YS}{cs:ac Nat}{hs:Hs}{met fresh aa:ac Nd}{h:Nat}(m:fz g cs hs met fresh aa h){r d i j v:Nat}(e:YQ hs (.beg r d i j)=À v):v<=h:=by
 rcases YFb m e with S|S|S
 let⟨v',e',hle⟩:=m.vm _ S;rw[e]at e';cases e';show hle;have:=m.vf _ S;rw[e]at this;cases this;show Å _;let⟨_,p,i,j,z⟩:=m.vh _ S;cases z
def fz.anyLe{g:YS}{cs:ac Nat}{hs:Hs}{met fresh aa:ac Nd}{h:Nat}(m:fz g cs hs met fresh aa h){x:Nd}{v:Nat}(e:YQ hs x=À v):v<=h+1:=by
 rcases YFb m e with S|S|S
 let⟨v',e',hle⟩:=m.vm _ S;rw[e]at e';cases e';lia;have:=m.vf _ S;rw[e]at this;cases this;lia;have:=(m.vh _ S).1;rw[e]at this;cases this;show Å _
inductive i9 where
 |fr|hi|bg (p:Str) (k:Nat)|en (p:Str) (k:Nat)
@[ext]def kq(l L:ai)(h:Nat)(a2 a3 a4 a5:ai):ac<|am×V:=[(ar,.ref l),(aE,.ref L),(ba,nV h),(br,.ref a2),(bE,.ref a3),(ci,.ref a4),(bS,.ref a5)]
@[ext]def ZR(H:Hp)(ts:ac ai)(ns:ac Nd):Prop:=ts.length=ns.length/\∀(i:Nat) (t:ai) (x:Nd),ts[i]?=À t->ns[i]?=À x->H t=À (.tup<|(Ye x).map kV)
@[ext]def ku(H:Hp)(ts:ac ai)(l:ac<|Nat×Nat×Nat):Prop:=ts.length=l.length/\∀(i:Nat) (t:ai) (q:Nat×Nat×Nat),ts[i]?=À t->l[i]?=À q->H t=À (.tup [nV q.1,nV q.2.1,nV q.2.2])
@[ext]def fD(p:am)(k:Nat):ac db:=[.inr p,.inl (k:Int)]
def YLV(h:fD p k=fD p' k'):p=p'/\k=k':=by
 simp only[fD,List.cons.injEq,Sum.inr.injEq,Sum.inl.injEq,Int.ofNat_inj,and_true]at h;show h
def ZR.keep(h:ZR H ts ns)(k:∀t ys,H t=À (.tup ys)->H' t=À (.tup ys)):ZR H' ts ns:=⟨h.1,λi t x e1 e2=>k _ _<|h.2 i t x e1 e2⟩
def ku.keep(h:ku H ts l)(k:∀t ys,H t=À (.tup ys)->H' t=À (.tup ys)):ku H' ts l:=⟨h.1,λi t x e1 e2=>k _ _<|h.2 i t x e1 e2⟩
def ZR.snoc(h:ZR H ts ns)(ht:H t=À (.tup<|(Ye x).map kV)):ZR H (ts++[t])<|ns++[x]:=by
 show⟨by rw[È,È,h.1];rfl,λi t' x' e1 e2=>?_⟩;by_cases hi:i<ts.length;rw[ä hi]at e1;rw[ä (by rw[<-h.1];show hi)]at e2;show h.2 i t' x' e1 e2;rw[à (by lia)]at e1;rw[à (by rw[<-h.1];lia),<-h.1]at e2;let hz:i-ts.length=0:=by
  cases hh:i-ts.length with
  |zero=>rfl
  |succ j=>rw[hh]at e1;simp at e1
 rw[hz]at e1 e2;cases e1;cases e2;show ht
def ku.snoc(h:ku H ts ns)(ht:H t=À (.tup [nV x.1,nV x.2.1,nV x.2.2])):ku H (ts++[t])<|ns++[x]:=by
 show⟨by rw[È,È,h.1];rfl,λi t' x' e1 e2=>?_⟩;by_cases hi:i<ts.length;rw[ä hi]at e1;rw[ä (by rw[<-h.1];show hi)]at e2;show h.2 i t' x' e1 e2;rw[à (by lia)]at e1;rw[à (by rw[<-h.1];lia),<-h.1]at e2;let hz:i-ts.length=0:=by
  cases hh:i-ts.length with
  |zero=>rfl
  |succ j=>rw[hh]at e1;simp at e1
 rw[hz]at e1 e2;cases e1;cases e2;show ht
def ZR.pop(h:ZR H (ts++[t])<|ns++[x]):ZR H ts ns/\H t=À (.tup<|(Ye x).map kV):=by
 let hl:ts.length=ns.length:=by
  have:=h.1;rw[È,È]at this;simpa using this
 show⟨⟨hl,λi t' x' e1 e2=>h.2 i t' x' (by rw[ä (YOx.mp e1).1];show e1) (by rw[ä (YOx.mp e2).1];show e2)⟩,?_⟩;show h.2 ts.length t x (by rw[à<|Å _,ö];rfl) (by rw[à (by rw[hl];show Å _),hl,ö];rfl)
noncomputable abbrev gI:=am->Nat->ac (Nat×Nat×Nat)
noncomputable abbrev gL:=am->Nat->ac Nat
@[ext]def oH(H:Hp)(own:ai->ag i9)(kvs:ac<|ac db×V)(DY:gI):Prop:=∀p k,(Yj kvs (fD p k)=Á/\DY p k=[])\/∃a ts,Yj kvs (fD p k)=À (.ref a)/\own a=À (.bg p k)/\H a=À (.lst<|ts.map V.ref)/\ku H ts (DY p k)
@[ext]def oK(H:Hp)(own:ai->ag i9)(kvs:ac<|ac db×V)(E:gL):Prop:=∀p k,(Yj kvs (fD p k)=Á/\E p k=[])\/∃a,Yj kvs (fD p k)=À (.ref a)/\own a=À (.en p k)/\H a=À (.lst<|(E p k).map nV)
structure fc(C:Addr)(H0 H:Hp)(x l L a2 a3 a4 a5:Addr)(own:Addr->Option i9)(hs:Hs)(fresh aa:List Nd)(h:Nat)(DY:gI)(E:gL)(N:Nat):Prop where
 sm:YG H0 H
 x_:∃B,H x=À (.ins C B<|kq l L h a2 a3 a4 a5)
 h1:H L=À (.dT<|fQ hs)
 h2:∃ts,H a2=À (.lst<|ts.map V.ref)/\ZR H ts fresh
 h3:∃ts,H a3=À (.lst<|ts.map V.ref)/\ZR H ts aa
 h4:∃kvs,H a4=À (.dT kvs)/\kvs.length<=N/\oH H own kvs DY
 h5:∃kvs,H a5=À (.dT kvs)/\kvs.length<=N/\oK H own kvs E
 hb:∀p k,(DY p k).length<=N/\(E p k).length<=N
 o2:own a2=À .fr
 o3:own a3=À .hi
 on:∀a t,own a=À t->H0 a=Á/\∃xs,H a=À (.lst xs)
 nx:H0 x=Á
 n1:H0 L=Á
 n4:H0 a4=Á
 n5:H0 a5=Á
 d14:L≠a4
 d15:L≠a5
 d45:a4≠a5
 pl:∀b o,H b=À o->b=L\/b=a4\/b=a5\/Yx o=Â
def Yp(h:Yx o=Â):∀b u,upd H c o b=À u->H b=À u\/Yx u=Â:=λb u e=>by
 by_cases hb:b=c;subst hb;rw[YA]at e;cases e;show .inr h;rw[YB hb]at e;show .inl e
section
variable {C:ai}{H0 H H':Hp}{x l L a2 a3 a4 a5:ai}{own:ai->ag i9}{hs:Hs}{fresh aa:ac Nd}{h:Nat}{DY:gI}{E:gL}{N:Nat}
def oH.keep(b:oH H own kvs DY)(kl:∀a p k ys,own a=À (.bg p k)->H a=À (.lst ys)->H' a=À (.lst ys))(kt:∀t ys,H t=À (.tup ys)->H' t=À (.tup ys)):oH H' own kvs DY:=λp k=>by
 rcases b p k with z|⟨a,ts,e1,e2,e3,e4⟩
 show .inl z;show .inr ⟨a,ts,e1,e2,kl _ _ _ _ e2 e3,e4.keep kt⟩
def oK.keep(b:oK H own kvs E)(kl:∀a p k ys,own a=À (.en p k)->H a=À (.lst ys)->H' a=À (.lst ys)):oK H' own kvs E:=λp k=>by
 rcases b p k with z|⟨a,e1,e2,e3⟩
 show .inl z;show .inr ⟨a,e1,e2,kl _ _ _ _ e2 e3⟩
def fc.same(g:fc C H0 H x l L a2 a3 a4 a5 own hs fresh aa h DY E N)(s:YG H H')(hp:∀b u,H' b=À u->H b=À u\/Yx u=Â):fc C H0 H' x l L a2 a3 a4 a5 own hs fresh aa h DY E N:=by
 let⟨B,S⟩:=g.x_;let⟨t2,e2,n2⟩:=g.h2;let⟨t3,e3,n3⟩:=g.h3;let⟨k4,e4,l4,b4⟩:=g.h4;let⟨k5,e5,l5,b5⟩:=g.h5;show⟨g.sm.trans s,⟨B,s _ _ S⟩,s _ _ g.h1,⟨t2,s _ _ e2,n2.keep λ_ _=>s _ _⟩,⟨t3,s _ _ e3,n3.keep λ_ _=>s _ _⟩,⟨k4,s _ _ e4,l4,b4.keep (λ_ _ _ _ _=>s _ _) λ_ _=>s _ _⟩,⟨k5,s _ _ e5,l5,b5.keep λ_ _ _ _ _=>s _ _⟩,g.hb,g.o2,g.o3,λa t e=>let ⟨z1,xs,z2⟩:=g.on a t e;⟨z1,xs,s _ _ z2⟩,g.nx,g.n1,g.n4,g.n5,g.d14,g.d15,g.d45,λb o e=>(hp b o e).elim (g.pl b o) λz=>.inr<|.inr<|.inr z⟩
def fc.set1(g:fc C H0 H x l L a2 a3 a4 a5 own hs fresh aa h DY E N)(hs':Hs):fc C H0 (upd H L<|.dT<|fQ hs') x l L a2 a3 a4 a5 own hs' fresh aa h DY E N:=by
 let⟨B,S⟩:=g.x_;let⟨t2,e2,n2⟩:=g.h2;let⟨t3,e3,n3⟩:=g.h3;let⟨k4,e4,l4,b4⟩:=g.h4;let⟨k5,e5,l5,b5⟩:=g.h5;let kt:∀t ys,H t=À (.tup ys)->upd H L (.dT<|fQ hs') t=À (.tup ys):=λt ys e=>by rw[YB<|Yi e g.h1 nofun];show e
 let kl:∀t ys,H t=À (.lst ys)->upd H L (.dT<|fQ hs') t=À (.lst ys):=λt ys e=>by rw[YB<|Yi e g.h1 nofun];show e
 show⟨g.sm.put g.n1,⟨B,by rw[YB<|Yi S g.h1 nofun];show S⟩,YA,⟨t2,kl _ _ e2,n2.keep kt⟩,⟨t3,kl _ _ e3,n3.keep kt⟩,⟨k4,by rw[YB g.d14.symm];show e4,l4,b4.keep (λ_ _ _ _ _=>kl _ _) kt⟩,⟨k5,by rw[YB g.d15.symm];show e5,l5,b5.keep λ_ _ _ _ _=>kl _ _⟩,g.hb,g.o2,g.o3,λa t e=>let ⟨z1,xs,z2⟩:=g.on a t e;⟨z1,xs,kl _ _ z2⟩,g.nx,g.n1,g.n4,g.n5,g.d14,g.d15,g.d45,λb o e=>(by by_cases hb:b=L;show .inl hb;rw[YB hb]at e;show g.pl b o e)⟩
def fc.set2(g:fc C H0 H x l L a2 a3 a4 a5 own hs fresh aa h DY E N){ts:ac ai}{fr:ac Nd}(hn:ZR H ts fr):fc C H0 (upd H a2<|.lst<|ts.map V.ref) x l L a2 a3 a4 a5 own hs fr aa h DY E N:=by
 let⟨B,S⟩:=g.x_;let⟨t2,e2,n2⟩:=g.h2;let⟨t3,e3,n3⟩:=g.h3;let⟨k4,e4,l4,b4⟩:=g.h4;let⟨k5,e5,l5,b5⟩:=g.h5;let kt:∀t ys,H t=À (.tup ys)->upd H a2 (.lst<|ts.map V.ref) t=À (.tup ys):=λt ys e=>by rw[YB<|Yi e e2 nofun];show e
 let kd:∀t ys,H t=À (.dT ys)->upd H a2 (.lst<|ts.map V.ref) t=À (.dT ys):=λt ys e=>by rw[YB<|Yi e e2 nofun];show e
 let ko:∀a t ys,own a=À t->t≠.fr->H a=À (.lst ys)->upd H a2 (.lst<|ts.map V.ref) a=À (.lst ys):=λa t ys e1 e2 e3=>by rw[YB (λz=>by rw[z,g.o2]at e1;cases e1;show e2 Z)];show e3
 show⟨g.sm.put (g.on _ _ g.o2).1,⟨B,by rw[YB<|Yi S e2 nofun];show S⟩,kd _ _ g.h1,⟨ts,YA,hn.keep kt⟩,⟨t3,ko _ _ _ g.o3 nofun e3,n3.keep kt⟩,⟨k4,kd _ _ e4,l4,b4.keep (λ_ _ _ _ z=>ko _ _ _ z nofun) kt⟩,⟨k5,kd _ _ e5,l5,b5.keep λ_ _ _ _ z=>ko _ _ _ z nofun⟩,g.hb,g.o2,g.o3,λa t e=>?_,g.nx,g.n1,g.n4,g.n5,g.d14,g.d15,g.d45,λb o e=>(Yp Z b o e).elim (g.pl b o) λz=>.inr<|.inr<|.inr z⟩;let⟨z1,xs,z2⟩:=g.on a t e;by_cases ha:a=a2;subst ha;show⟨z1,_,YA⟩;show⟨z1,xs,by rw[YB ha];show z2⟩
def fc.set3(g:fc C H0 H x l L a2 a3 a4 a5 own hs fresh aa h DY E N){ts:ac ai}{fr:ac Nd}(hn:ZR H ts fr):fc C H0 (upd H a3<|.lst<|ts.map V.ref) x l L a2 a3 a4 a5 own hs fresh fr h DY E N:=by
 let⟨B,S⟩:=g.x_;let⟨t2,e2,n2⟩:=g.h2;let⟨t3,e3,n3⟩:=g.h3;let⟨k4,e4,l4,b4⟩:=g.h4;let⟨k5,e5,l5,b5⟩:=g.h5;let kt:∀t ys,H t=À (.tup ys)->upd H a3 (.lst<|ts.map V.ref) t=À (.tup ys):=λt ys e=>by rw[YB<|Yi e e3 nofun];show e
 let kd:∀t ys,H t=À (.dT ys)->upd H a3 (.lst<|ts.map V.ref) t=À (.dT ys):=λt ys e=>by rw[YB<|Yi e e3 nofun];show e
 let ko:∀a t ys,own a=À t->t≠.hi->H a=À (.lst ys)->upd H a3 (.lst<|ts.map V.ref) a=À (.lst ys):=λa t ys e1 e2 e3=>by rw[YB (λz=>by rw[z,g.o3]at e1;cases e1;show e2 Z)];show e3
 show⟨g.sm.put (g.on _ _ g.o3).1,⟨B,by rw[YB<|Yi S e3 nofun];show S⟩,kd _ _ g.h1,⟨t2,ko _ _ _ g.o2 nofun e2,n2.keep kt⟩,⟨ts,YA,hn.keep kt⟩,⟨k4,kd _ _ e4,l4,b4.keep (λ_ _ _ _ z=>ko _ _ _ z nofun) kt⟩,⟨k5,kd _ _ e5,l5,b5.keep λ_ _ _ _ z=>ko _ _ _ z nofun⟩,g.hb,g.o2,g.o3,λa t e=>?_,g.nx,g.n1,g.n4,g.n5,g.d14,g.d15,g.d45,λb o e=>(Yp Z b o e).elim (g.pl b o) λz=>.inr<|.inr<|.inr z⟩;let⟨z1,xs,z2⟩:=g.on a t e;by_cases ha:a=a3;subst ha;show⟨z1,_,YA⟩;show⟨z1,xs,by rw[YB ha];show z2⟩
end
@[ext]def addB(DY:gI)(p:am)(k:Nat)(q:Nat×Nat×Nat):gI:=λp' k'=>if p'=p/\k'=k then DY p' k'++[q] else DY p' k'
@[ext]def addE(E:gL)(p:am)(k j:Nat):gL:=λp' k'=>if p'=p/\k'=k then E p' k'++[j] else E p' k'
@[ext]def vv(L a2:ai)(H H':Hp):Prop:=∀b o,b≠L->b≠a2->H b=À o->H' b=À o
inductive YIs(C:Addr)(vs:List V)(H:Hp)(Q:VK):Prop
 |mk (H0:Hp)(x l B:Addr):vs=[.ref x,.ref l]->H x=À (.ins C B [])->H0 x=Á->YG H0 H->YL H->(∀L a2 a3 a4 a5 own H',fc C H0 H' x l L a2 a3 a4 a5 own [] [] [] 0 (λ_ _=>[]) (λ_ _=>[]) 0->Q .non H')->YIs C vs H Q
@[ext]def YLW(C:ai):Sp:=λvs H Q E_=>YIs C vs H Q
inductive YIt(C:Addr)(vs:List V)(H:Hp)(Q:VK):Prop
 |mk (H0:Hp)(x l L a2 a3 a4 a5 t:Addr)(own:Addr->Option i9)(hs:Hs)(fresh aa:List Nd)(h:Nat)(DY:gI)(E:gL)(N:Nat)(y:Nd):vs=[.ref x,.ref t]->fc C H0 H x l L a2 a3 a4 a5 own hs fresh aa h DY E N->H t=À (.tup ((Ye y).map kV))->YQ hs y=Á->hs.length<=3000000->fresh.length<=3000000->(∀H',fc C H0 H' x l L a2 a3 a4 a5 own (hs++[(y,h)]) (fresh++[y]) aa h DY E N->vv L a2 H H'->Q .non H')->YIt C vs H Q
@[ext]def Œ(C:ai):Sp:=λvs H Q E_=>YIt C vs H Q
inductive YFc(C:Addr)(vs:List V)(H:Hp)(Q:VK):Prop
 |mk (H0:Hp)(x l L a2 a3 a4 a5 t:Addr)(own:Addr->Option i9)(hs:Hs)(fresh aa:List Nd)(h:Nat)(DY:gI)(E:gL)(N:Nat)(y:Nd):vs=[.ref x,.ref t]->fc C H0 H x l L a2 a3 a4 a5 own hs fresh aa h DY E N->H t=À (.tup ((Ye y).map kV))->YQ hs y=Á->hs.length<=3000000->aa.length<=3000000->(∀H',fc C H0 H' x l L a2 a3 a4 a5 own (hs++[(y,h+1)]) fresh (aa++[y]) h DY E N->vv L a3 H H'->Q .non H')->YFc C vs H Q
@[ext]def YGw(C:ai):Sp:=λvs H Q E_=>YFc C vs H Q
section
variable {C:ai}{H0 H H':Hp}{x l L a2 a3 a4 a5:ai}{own:ai->ag i9}{hs:Hs}{fresh aa:ac Nd}{h:Nat}{DY:gI}{E:gL}{N:Nat}
def fc.fine(g:fc C H0 H x l L a2 a3 a4 a5 own hs fresh aa h DY E N)(e:H a=Á):own a=Á:=by
 cases ho:own a with
 |none=>rfl
 |some t=>
  let⟨_,xs,z⟩:=g.on a t ho;rw[e]at z;cases z
def fc.enSet(g:fc C H0 H x l L a2 a3 a4 a5 own hs fresh aa h DY E N){p:am}{k:Nat}{a:ai}(ho:own a=À (.en p k)){E':gL}(e1:∀p' k',¬(p'=p/\k'=k)->E' p' k'=E p' k'){kvs:ac (ac db×V)}(e5:H a5=À (.dT kvs))(hv:Yj kvs (fD p k)=À (.ref a))(hl:∀p' k',(E' p' k').length<=N):fc C H0 (upd H a<|.lst<|(E' p k).map nV) x l L a2 a3 a4 a5 own hs fresh aa h DY E' N:=by
 let⟨B,S⟩:=g.x_;let⟨t2,f2,n2⟩:=g.h2;let⟨t3,f3,n3⟩:=g.h3;let⟨k4,f4,l4,b4⟩:=g.h4;let⟨k5,f5,l5,b5⟩:=g.h5;rw[e5]at f5;cases f5;let⟨na,zf,ha⟩:=g.on a _ ho;let kt:∀t ys,H t=À (.tup ys)->upd H a (.lst<|(E' p k).map nV) t=À (.tup ys):=λt ys e=>by rw[YB<|Yi e ha nofun];show e
 let kd:∀t ys,H t=À (.dT ys)->upd H a (.lst<|(E' p k).map nV) t=À (.dT ys):=λt ys e=>by rw[YB<|Yi e ha nofun];show e
 let ko:∀c t ys,own c=À t->t≠.en p k->H c=À (.lst ys)->upd H a (.lst<|(E' p k).map nV) c=À (.lst ys):=λc t ys q1 q2 q3=>by rw[YB (λz=>by rw[z,ho]at q1;cases q1;show q2 Z)];show q3
 show⟨g.sm.put na,⟨B,by rw[YB<|Yi S ha nofun];show S⟩,kd _ _ g.h1,⟨t2,ko _ _ _ g.o2 nofun f2,n2.keep kt⟩,⟨t3,ko _ _ _ g.o3 nofun f3,n3.keep kt⟩,⟨k4,kd _ _ f4,l4,b4.keep (λ_ _ _ _ z=>ko _ _ _ z nofun) kt⟩,⟨kvs,kd _ _ e5,l5,λp' k'=>?_⟩,λp' k'=>⟨(g.hb p' k').1,hl p' k'⟩,g.o2,g.o3,λc t e=>?_,g.nx,g.n1,g.n4,g.n5,g.d14,g.d15,g.d45,λb o e=>(Yp Z b o e).elim (g.pl b o) λz=>.inr<|.inr<|.inr z⟩;by_cases g_:p'=p/\k'=k;let⟨Z,Z⟩:=g_;show .inr ⟨a,hv,ho,YA⟩;rw[e1 p' k' g_];rcases b5 p' k' with z|⟨c,z1,z2,z3⟩
 show .inl z;show .inr ⟨c,z1,z2,ko _ _ _ z2 (λz=>g_ (by injection z with z4 z5;show⟨z4,z5⟩)) z3⟩;let⟨z1,xs,z2⟩:=g.on c t e;by_cases hc:c=a;subst hc;show⟨z1,_,YA⟩;show⟨z1,xs,by rw[YB hc];show z2⟩
def fc.enNew(g:fc C H0 H x l L a2 a3 a4 a5 own hs fresh aa h DY E N){p:am}{k:Nat}{e:ai}(he:H e=À (.lst []))(h0:H0 e=Á)(ho:own e=Á){kvs:ac (ac db×V)}(e5:H a5=À (.dT kvs))(hv:Yj kvs (fD p k)=Á):fc C H0 (upd H a5<|.dT<|Y3 kvs (fD p k)<|.ref e) x l L a2 a3 a4 a5 (λc=>if c=e then À (.en p k) else own c) hs fresh aa h DY E<|N+1:=by
 let⟨B,S⟩:=g.x_;let⟨t2,f2,n2⟩:=g.h2;let⟨t3,f3,n3⟩:=g.h3;let⟨k4,f4,l4,b4⟩:=g.h4;let⟨k5,f5,l5,b5⟩:=g.h5;rw[e5]at f5;cases f5;let kt:∀t ys,H t=À (.tup ys)->upd H a5 (.dT<|Y3 kvs (fD p k)<|.ref e) t=À (.tup ys):=λt ys z=>by rw[YB<|Yi z e5 nofun];show z
 let kl:∀t ys,H t=À (.lst ys)->upd H a5 (.dT<|Y3 kvs (fD p k)<|.ref e) t=À (.lst ys):=λt ys z=>by rw[YB<|Yi z e5 nofun];show z
 let no:∀c t,own c=À t->(if c=e then À (.en p k) else own c)=À t:=λc t z=>by rw[if_neg (λy=>by rw[y,ho]at z;cases z)];show z
 show⟨g.sm.put g.n5,⟨B,by rw[YB<|Yi S e5 nofun];show S⟩,by rw[YB g.d15];show g.h1,⟨t2,kl _ _ f2,n2.keep kt⟩,⟨t3,kl _ _ f3,n3.keep kt⟩,⟨k4,by rw[YB g.d45];show f4,by lia,λp' k'=>?_⟩,⟨_,YA,by have:=Zt kvs (fD p k)<|.ref e;lia,λp' k'=>?_⟩,λp' k'=>⟨by have:=(g.hb p' k').1;lia,by have:=(g.hb p' k').2;lia⟩,no _ _ g.o2,no _ _ g.o3,λc t z=>?_,g.nx,g.n1,g.n4,g.n5,g.d14,g.d15,g.d45,λb o z=>(by by_cases hb:b=a5;show .inr<|.inr<|.inl hb;rw[YB hb]at z;show g.pl b o z)⟩;rcases b4 p' k' with z|⟨c,ts,z1,z2,z3,z4⟩
 show .inl z;show .inr ⟨c,ts,z1,no _ _ z2,kl _ _ z3,z4.keep kt⟩;rw[Z0];by_cases g_:p'=p/\k'=k;let⟨Z,Z⟩:=g_;rw[if_pos Z];show .inr ⟨e,Z,if_pos Z,?_⟩;rcases b5 p' k' with z|⟨c,z1,z2,z3⟩
 rw[z.2];show kl _ _ he;rw[hv]at z1;cases z1;rw[if_neg<|λz=>g_<|YLV z];rcases b5 p' k' with z|⟨c,z1,z2,z3⟩
 show .inl z;show .inr ⟨c,z1,no _ _ z2,kl _ _ z3⟩;by_cases hc:c=e;subst hc;show⟨h0,_,kl _ _ he⟩;rw[if_neg hc]at z;let⟨z1,xs,z2⟩:=g.on c t z;show⟨z1,xs,kl _ _ z2⟩
def fc.bgSet(g:fc C H0 H x l L a2 a3 a4 a5 own hs fresh aa h DY E N){p:am}{k:Nat}{a:ai}(ho:own a=À (.bg p k)){B':gI}(e1:∀p' k',¬(p'=p/\k'=k)->B' p' k'=DY p' k'){ts:ac ai}(pR:ku H ts<|B' p k){kvs:ac (ac db×V)}(e4:H a4=À (.dT kvs))(hv:Yj kvs (fD p k)=À (.ref a))(hl:∀p' k',(B' p' k').length<=N):fc C H0 (upd H a<|.lst<|ts.map V.ref) x l L a2 a3 a4 a5 own hs fresh aa h B' E N:=by
 let⟨B,S⟩:=g.x_;let⟨t2,f2,n2⟩:=g.h2;let⟨t3,f3,n3⟩:=g.h3;let⟨k4,f4,l4,b4⟩:=g.h4;let⟨k5,f5,l5,b5⟩:=g.h5;rw[e4]at f4;cases f4;let⟨na,zf,ha⟩:=g.on a _ ho;let kt:∀t ys,H t=À (.tup ys)->upd H a (.lst<|ts.map V.ref) t=À (.tup ys):=λt ys e=>by rw[YB<|Yi e ha nofun];show e
 let kd:∀t ys,H t=À (.dT ys)->upd H a (.lst<|ts.map V.ref) t=À (.dT ys):=λt ys e=>by rw[YB<|Yi e ha nofun];show e
 let ko:∀c t ys,own c=À t->t≠.bg p k->H c=À (.lst ys)->upd H a (.lst<|ts.map V.ref) c=À (.lst ys):=λc t ys q1 q2 q3=>by rw[YB (λz=>by rw[z,ho]at q1;cases q1;show q2 Z)];show q3
 show⟨g.sm.put na,⟨B,by rw[YB<|Yi S ha nofun];show S⟩,kd _ _ g.h1,⟨t2,ko _ _ _ g.o2 nofun f2,n2.keep kt⟩,⟨t3,ko _ _ _ g.o3 nofun f3,n3.keep kt⟩,⟨kvs,kd _ _ e4,l4,λp' k'=>?_⟩,⟨k5,kd _ _ f5,l5,b5.keep λ_ _ _ _ z=>ko _ _ _ z nofun⟩,λp' k'=>⟨hl p' k',(g.hb p' k').2⟩,g.o2,g.o3,λc t e=>?_,g.nx,g.n1,g.n4,g.n5,g.d14,g.d15,g.d45,λb o e=>(Yp Z b o e).elim (g.pl b o) λz=>.inr<|.inr<|.inr z⟩;by_cases g_:p'=p/\k'=k;let⟨Z,Z⟩:=g_;show .inr ⟨a,ts,hv,ho,YA,pR.keep kt⟩;rw[e1 p' k' g_];rcases b4 p' k' with z|⟨c,us,z1,z2,z3,z4⟩
 show .inl z;show .inr ⟨c,us,z1,z2,ko _ _ _ z2 (λz=>g_ (by injection z with z5 z6;show⟨z5,z6⟩)) z3,z4.keep kt⟩;let⟨z1,xs,z2⟩:=g.on c t e;by_cases hc:c=a;subst hc;show⟨z1,_,YA⟩;show⟨z1,xs,by rw[YB hc];show z2⟩
def fc.bgNew(g:fc C H0 H x l L a2 a3 a4 a5 own hs fresh aa h DY E N){p:am}{k:Nat}{e:ai}(he:H e=À (.lst []))(h0:H0 e=Á)(ho:own e=Á){kvs:ac (ac db×V)}(e4:H a4=À (.dT kvs))(hv:Yj kvs (fD p k)=Á):fc C H0 (upd H a4<|.dT<|Y3 kvs (fD p k)<|.ref e) x l L a2 a3 a4 a5 (λc=>if c=e then À (.bg p k) else own c) hs fresh aa h DY E<|N+1:=by
 let⟨B,S⟩:=g.x_;let⟨t2,f2,n2⟩:=g.h2;let⟨t3,f3,n3⟩:=g.h3;let⟨k4,f4,l4,b4⟩:=g.h4;let⟨k5,f5,l5,b5⟩:=g.h5;rw[e4]at f4;cases f4;let kt:∀t ys,H t=À (.tup ys)->upd H a4 (.dT<|Y3 kvs (fD p k)<|.ref e) t=À (.tup ys):=λt ys z=>by rw[YB<|Yi z e4 nofun];show z
 let kl:∀t ys,H t=À (.lst ys)->upd H a4 (.dT<|Y3 kvs (fD p k)<|.ref e) t=À (.lst ys):=λt ys z=>by rw[YB<|Yi z e4 nofun];show z
 let no:∀c t,own c=À t->(if c=e then À (.bg p k) else own c)=À t:=λc t z=>by rw[if_neg (λy=>by rw[y,ho]at z;cases z)];show z
 show⟨g.sm.put g.n4,⟨B,by rw[YB<|Yi S e4 nofun];show S⟩,by rw[YB g.d14];show g.h1,⟨t2,kl _ _ f2,n2.keep kt⟩,⟨t3,kl _ _ f3,n3.keep kt⟩,⟨_,YA,by have:=Zt kvs (fD p k)<|.ref e;lia,λp' k'=>?_⟩,⟨k5,by rw[YB g.d45.symm];show f5,by lia,λp' k'=>?_⟩,λp' k'=>⟨by have:=(g.hb p' k').1;lia,by have:=(g.hb p' k').2;lia⟩,no _ _ g.o2,no _ _ g.o3,λc t z=>?_,g.nx,g.n1,g.n4,g.n5,g.d14,g.d15,g.d45,λb o z=>(by by_cases hb:b=a4;show .inr<|.inl hb;rw[YB hb]at z;show g.pl b o z)⟩;rw[Z0];by_cases g_:p'=p/\k'=k;let⟨Z,Z⟩:=g_;rw[if_pos Z];show .inr ⟨e,[],Z,if_pos Z,kl _ _ he,?_⟩;rcases b4 p' k' with z|⟨c,us,z1,z2,z3,z4⟩
 rw[z.2];show⟨Z,λi t q e1=>nomatch e1⟩;rw[hv]at z1;cases z1;rw[if_neg<|λz=>g_<|YLV z];rcases b4 p' k' with z|⟨c,us,z1,z2,z3,z4⟩
 show .inl z;show .inr ⟨c,us,z1,no _ _ z2,kl _ _ z3,z4.keep kt⟩;rcases b5 p' k' with z|⟨c,z1,z2,z3⟩
 show .inl z;show .inr ⟨c,z1,no _ _ z2,kl _ _ z3⟩;by_cases hc:c=e;subst hc;show⟨h0,_,kl _ _ he⟩;rw[if_neg hc]at z;let⟨z1,xs,z2⟩:=g.on c t z;show⟨z1,xs,kl _ _ z2⟩
def fc.more(g:fc C H0 H x l L a2 a3 a4 a5 own hs fresh aa h DY E N)(hN:N<=N'):fc C H0 H x l L a2 a3 a4 a5 own hs fresh aa h DY E N':=by
 let⟨k4,f4,l4,b4⟩:=g.h4;let⟨k5,f5,l5,b5⟩:=g.h5;show⟨g.sm,g.x_,g.h1,g.h2,g.h3,⟨k4,f4,by lia,b4⟩,⟨k5,f5,by lia,b5⟩,λp k=>⟨by have:=(g.hb p k).1;lia,by have:=(g.hb p k).2;lia⟩,g.o2,g.o3,g.on,g.nx,g.n1,g.n4,g.n5,g.d14,g.d15,g.d45,g.pl⟩
end
structure h9(g:YS)(M:List Nd)(DY:gI)(E:gL):Prop where
 bg:∀p k r d i,(r,d,i)∈DY p k<->(Nd.beg r d i k∈M/\ZT g r d=À p)
 en:∀p k j,j∈E p k<->Nd.part p k j∈M
def h9.addE(m:h9 g M DY E)(p:am)(k j:Nat):h9 g (M++[.part p k j]) DY<|addE E p k j:=by
 show⟨λp' k' r d i=>?_,λp' k' j'=>?_⟩;rw[m.bg,YPD];constructor;showλz=>⟨.inl z.1,z.2⟩;rintro⟨z|z,z2⟩;show⟨z,z2⟩;cases YO0.mp z;unfold FR.addE;rw[YPD];split;rename_i g_;let⟨Z,Z⟩:=g_;rw[YPD,m.en];constructor;rintro(z|z);show .inl z;cases YO0.mp z;show .inr<|YO0.mpr rfl;rintro(z|z);show .inl z;cases YO0.mp z;show .inr<|YO0.mpr rfl;rename_i g_;rw[m.en];constructor;show .inl;rintro(z|z);show z;cases YO0.mp z;show(g_ ⟨Z,Z⟩).elim
def h9.addB(m:h9 g M DY E)(hp:ZT g r d=À p):h9 g (M++[.beg r d i k]) (addB DY p k (r,d,i)) E:=by
 show⟨λp' k' r' d' i'=>?_,λp' k' j'=>?_⟩;unfold FR.addB;rw[YPD];split;rename_i g_;let⟨Z,Z⟩:=g_;rw[YPD,m.bg];constructor;rintro(z|z);show⟨.inl z.1,z.2⟩;cases YO0.mp z;show⟨.inr<|YO0.mpr rfl,hp⟩;rintro⟨z|z,z2⟩;show .inl ⟨z,z2⟩;cases YO0.mp z;show .inr<|YO0.mpr rfl;rename_i g_;rw[m.bg];constructor;showλz=>⟨.inl z.1,z.2⟩;rintro⟨z|z,z2⟩;show⟨z,z2⟩;cases YO0.mp z;rw[hp]at z2;cases z2;show(g_ ⟨Z,Z⟩).elim;rw[m.en,YPD];constructor;show .inl;rintro(z|z);show z;cases YO0.mp z
def h9.addC(m:h9 g M DY E)(hp:ZT g r d=Á):h9 g (M++[.beg r d i k]) DY E:=by
 show⟨λp' k' r' d' i'=>?_,λp' k' j'=>?_⟩;rw[m.bg,YPD];constructor;showλz=>⟨.inl z.1,z.2⟩;rintro⟨z|z,z2⟩;show⟨z,z2⟩;cases YO0.mp z;rw[hp]at z2;cases z2;rw[m.en,YPD];constructor;show .inl;rintro(z|z);show z;cases YO0.mp z
structure xM(H0:Hp)(l:Addr)(xs:List V)(g:YS)(cs:List Nat):Prop where
 hl:H0 l=À (.lst xs)
 hds:Ya H0 xs (g.map Za)
 hg:Y4 g=Â
 hc:cs.length<=60
structure YKR(C:Addr)(H0 H:Hp)(x l L a2 a3 a4 a5 t:Addr)(xs:List V)(g:YS)(cs:List Nat)(own:Addr->Option i9)(hs:Hs)(met fresh aa:List Nd)(h:Nat)(DY:gI)(E:gL)(N:Nat)(y:Nd):Prop where
 env:xM H0 l xs g cs
 st:fc C H0 H x l L a2 a3 a4 a5 own hs fresh aa h DY E N
 ht:H t=À (.tup<|(Ye y).map kV)
 gr:fz g cs hs (met++[y]) fresh aa h
 lk:YQ hs y=À h
 cl:Cl g hs (·∈met)
 mt:h9 g met DY E
 hN:N<=met.length
@[ext]def lj(C:ai)(H0:Hp)(x l L a2 a3 a4 a5:ai)(g:YS)(cs:ac Nat)(hs:Hs)(met:ac Nd)(h:Nat)(y:Nd)(Q:VK):Prop:=
 ∀H' cX hs' aO gW B' E' N',fc C H0 H' x l L a2 a3 a4 a5 cX hs' aO gW h B' E' N'->fz g cs hs' (met++[y]) aO gW h->Cl g hs' (·∈met++[y])->h9 g (met++[y]) B' E'->N'<=met.length+1->(∀z m,YQ hs z=À m->YQ hs' z=À m)->Q .non H'
inductive YIu(C:Addr)(vs:List V)(H:Hp)(Q:VK):Prop
 |mk (H0:Hp)(x l L a2 a3 a4 a5 t:Addr)(xs:List V)(g:YS)(cs:List Nat)(own:Addr->Option i9)(hs:Hs)(met fresh aa:List Nd)(h:Nat)(DY:gI)(E:gL)(N:Nat)(p:Str)(k j:Nat):vs=[.ref x,.ref t]->YKR C H0 H x l L a2 a3 a4 a5 t xs g cs own hs met fresh aa h DY E N (.part p k j)->lj C H0 x l L a2 a3 a4 a5 g cs hs met h (.part p k j) Q->YIu C vs H Q
@[ext]def YLX(C:ai):Sp:=λvs H Q E_=>YIu C vs H Q
inductive YIv(C:Addr)(vs:List V)(H:Hp)(Q:VK):Prop
 |mk (H0:Hp)(x l L a2 a3 a4 a5 t:Addr)(xs:List V)(g:YS)(cs:List Nat)(own:Addr->Option i9)(hs:Hs)(met fresh aa:List Nd)(h:Nat)(DY:gI)(E:gL)(N r d i k:Nat)(p:Str):vs=[.ref x,.ref t,.str p]->ZT g r d=À p->YKR C H0 H x l L a2 a3 a4 a5 t xs g cs own hs met fresh aa h DY E N (.beg r d i k)->lj C H0 x l L a2 a3 a4 a5 g cs hs met h (.beg r d i k) Q->YIv C vs H Q
@[ext]def YLY(C:ai):Sp:=λvs H Q E_=>YIv C vs H Q
inductive YLZ(C:Addr)(vs:List V)(H:Hp)(Q:VK):Prop
 |mk (H0:Hp)(x l L a2 a3 a4 a5 t:Addr)(xs:List V)(g:YS)(cs:List Nat)(own:Addr->Option i9)(hs:Hs)(met fresh aa:List Nd)(h:Nat)(DY:gI)(E:gL)(N:Nat)(y:Nd):vs=[.ref x,.ref t]->YKR C H0 H x l L a2 a3 a4 a5 t xs g cs own hs met fresh aa h DY E N y->lj C H0 x l L a2 a3 a4 a5 g cs hs met h y Q->YLZ C vs H Q
@[ext]def YOF(C:ai):Sp:=λvs H Q E_=>YLZ C vs H Q
def pc{g:YS}{cs:ac Nat}{hs:Hs}{met cV fresh aa:ac Nd}{h:Nat}{p:am}{k j:Nat}{DY:gI}{E:gL}(c:Cl g hs (·∈met))(gr:fz g cs hs cV fresh aa h)(lk:YQ hs (.part p k j)=À h)(mt:h9 g met DY E)(hall:∀q∈DY p k,∃v,YQ hs (.beg q.1 (q.2.1+1) q.2.2 j)=À v):Cl g hs (·∈met++[.part p k j]):=by
 let nb:∀{r d i k'},Nd.beg r d i k'∈met++[.part p k j]->Nd.beg r d i k'∈met:=λz=>by
  rcases YPD.mp z with z|z
  show z;cases YO0.mp z
 show⟨λr d i k' p' j' a b m1 m2 hp e1 e2=>?_,λr ru i j' a er m1 e1=>c.up r ru i j' a er (nb m1) e1⟩;let QK:=nb m1;rcases YPD.mp m2 with z|z
 show c.join r d i k' p' j' a b QK z hp e1 e2;cases YO0.mp z;let⟨v,hv⟩:=hall (r,d,i)<|(mt.bg p k r d i).mpr ⟨QK,hp⟩;rw[lk]at e2;cases e2;show⟨v,hv,Ú (gr.begLe hv)<|Nat.le_max_right _ _⟩
def xl{g:YS}{cs:ac Nat}{hs:Hs}{met cV fresh aa:ac Nd}{h r d i k:Nat}{p:am}{DY:gI}{E:gL}(hp:ZT g r d=À p)(c:Cl g hs (·∈met))(gr:fz g cs hs cV fresh aa h)(lk:YQ hs (.beg r d i k)=À h)(mt:h9 g met DY E)(hall:∀j∈E p k,∃v,YQ hs (.beg r (d+1) i j)=À v):Cl g hs (·∈met++[.beg r d i k]):=by
 let np:∀{p' k' j'},Nd.part p' k' j'∈met++[.beg r d i k]->Nd.part p' k' j'∈met:=λz=>by
  rcases YPD.mp z with z|z
  show z;cases YO0.mp z
 show⟨λr' d' i' k' p' j' a b m1 m2 hp' e1 e2=>?_,λr' ru i' j' a er m1 e1=>?_⟩;let wu:=np m2;rcases YPD.mp m1 with z|z
 show c.join r' d' i' k' p' j' a b z wu hp' e1 e2;cases YO0.mp z;rw[hp]at hp';cases hp';let⟨v,hv⟩:=hall j'<|(mt.en p k j').mpr wu;rw[lk]at e1;cases e1;show⟨v,hv,Ú (gr.begLe hv)<|Nat.le_max_left _ _⟩;rcases YPD.mp m1 with z|z
 show c.up r' ru i' j' a er z e1;cases YO0.mp z;unfold ZT at hp;rw[er]at hp;let hp:ru.2.1[ru.2.1.length]?=À p:=hp;rw[ē<|Å _]at hp;cases hp
def YOG{g:YS}{cs:ac Nat}{hs:Hs}{met cV fresh aa:ac Nd}{h r i k:Nat}{ru:fU}(er:g[r]?=À ru)(c:Cl g hs (·∈met))(gr:fz g cs hs cV fresh aa h)(lk:YQ hs (.beg r ru.2.1.length i k)=À h)(hv:∃v,YQ hs (.part ru.1 i k)=À v):Cl g hs (·∈met++[.beg r ru.2.1.length i k]):=by
 show⟨λr' d' i' k' p' j' a b m1 m2 hp' e1 e2=>?_,λr' pH i' j' a ud m1 e1=>?_⟩;let wu:Nd.part p' k' j'∈met:=by
  rcases YPD.mp m2 with z|z
  show z;cases YO0.mp z
 rcases YPD.mp m1 with z|z
 show c.join r' d' i' k' p' j' a b z wu hp' e1 e2;cases YO0.mp z;unfold ZT at hp';rw[er]at hp';let hp':ru.2.1[ru.2.1.length]?=À p':=hp';rw[ē<|Å _]at hp';cases hp';rcases YPD.mp m1 with z|z
 show c.up r' pH i' j' a ud z e1;let z:=YO0.mp z;injection z with z1 z2 z3 z4;subst z1 z3 z4;rw[er]at ud;cases ud;let⟨v,hv⟩:=hv;rw[lk]at e1;cases e1;show⟨v,hv,gr.anyLe hv⟩
section
variable {C:ai}{H0 H H':Hp}{x l L a2 a3 a4 a5:ai}{own:ai->ag i9}{hs:Hs}{fresh aa:ac Nd}{h:Nat}{DY:gI}{E:gL}{N:Nat}
def fc.swap(g:fc C H0 H x l L a2 a3 a4 a5 own hs fresh aa h DY E N){e B:ai}(he:H e=Á)(kp:∀b o,b≠x->H b=À o->H' b=À o)(S:H' x=À (.ins C B<|kq l L (h+1) a3 e a4 a5))(he':H' e=À (.lst []))(hpl:∀b u,H' b=À u->H b=À u\/Yx u=Â):fc C H0 H' x l L a3 e a4 a5 (λc=>if c=a3 then À .fr else if c=e then À .hi else if c=a2 then Á else own c) hs aa [] (h+1) DY E N:=by
 let⟨qP,hx0⟩:=g.x_;let⟨t2,f2,n2⟩:=g.h2;let⟨t3,f3,n3⟩:=g.h3;let⟨k4,f4,l4,b4⟩:=g.h4;let⟨k5,f5,l5,b5⟩:=g.h5;let kt:∀t ys,H t=À (.tup ys)->H' t=À (.tup ys):=λt ys z=>kp _ _ (Yi z hx0 nofun) z;let kl:∀t ys,H t=À (.lst ys)->H' t=À (.lst ys):=λt ys z=>kp _ _ (Yi z hx0 nofun) z;let kd:∀t ys,H t=À (.dT ys)->H' t=À (.dT ys):=λt ys z=>kp _ _ (Yi z hx0 nofun) z;let oe:own e=Á:=g.fine he;let no:∀c t,own c=À t->t≠.fr->t≠.hi->(if c=a3 then À i9.fr else if c=e then À .hi else if c=a2 then Á else own c)=À t:=λc t z z1 z2=>by
  rw[if_neg (λy=>by rw[y,g.o3]at z;cases z;show z2 Z),if_neg (λy=>by rw[y,oe]at z;cases z),if_neg (λy=>by rw[y,g.o2]at z;cases z;show z1 Z)];show z
 let ne3:e≠a3:=λz=>by rw[z,f3]at he;cases he
 show⟨λb o z=>?_,⟨B,S⟩,kd _ _ g.h1,⟨t3,kl _ _ f3,n3.keep kt⟩,⟨[],he',Z,λi t y z=>nomatch z⟩,⟨k4,kd _ _ f4,l4,λp k=>?_⟩,⟨k5,kd _ _ f5,l5,λp k=>?_⟩,g.hb,if_pos Z,by rw[if_neg ne3,if_pos Z],λc t z=>?_,g.nx,g.n1,g.n4,g.n5,g.d14,g.d15,g.d45,λb o z=>(hpl b o z).elim (g.pl b o) λz=>.inr<|.inr<|.inr z⟩;show kp _ _ (λy=>by rw[y,g.nx]at z;cases z)<|g.sm _ _ z;rcases b4 p k with z|⟨c,ts,z1,z2,z3,z4⟩
 show .inl z;show .inr ⟨c,ts,z1,no _ _ z2 nofun nofun,kl _ _ z3,z4.keep kt⟩;rcases b5 p k with z|⟨c,z1,z2,z3⟩
 show .inl z;show .inr ⟨c,z1,no _ _ z2 nofun nofun,kl _ _ z3⟩;by_cases h3:c=a3;subst h3;show⟨(g.on _ _ g.o3).1,_,kl _ _ f3⟩;rw[if_neg h3]at z;by_cases h4:c=e;subst h4;show⟨g.sm.free he,_,he'⟩;rw[if_neg h4]at z;by_cases h2:c=a2;rw[if_pos h2]at z;cases z;rw[if_neg h2]at z;let⟨z1,xs,z2⟩:=g.on c t z;show⟨z1,xs,kl _ _ z2⟩
end
structure J9(g:YS)(cs:List Nat)(hs:Hs):Prop where
 nd:(hs.map (·.1)).Nodup
 leg:∀x v,YQ hs x=À v->im g cs x
 why:∀x v,YQ hs x=À v->xJ g cs hs x v
 cl:Cl g hs (λx=>∃v,YQ hs x=À v)
inductive YLa(C:Addr)(vs:List V)(H:Hp)(Q:VK):Prop
 |mk (H0:Hp)(x l L a2 a3 a4 a5:Addr)(xs:List V)(g:YS)(cs:List Nat)(own:Addr->Option i9)(hs:Hs)(fresh:List Nd)(DY:gI)(E:gL):vs=[.ref x]->xM H0 l xs g cs->fc C H0 H x l L a2 a3 a4 a5 own hs fresh [] 0 DY E 0->fz g cs hs [] fresh [] 0->h9 g [] DY E->(∀H' hs' nT ju cX h' B' E' N',fc C H0 H' x l L nT ju a4 a5 cX hs' [] [] h' B' E' N'->J9 g cs hs'->(∀z m,YQ hs z=À m->YQ hs' z=À m)->Q .non H')->YLa C vs H Q
@[ext]def YOH(C:ai):Sp:=λvs H Q E_=>YLa C vs H Q
def fz.fin_(m:fz g cs hs met [] [] h)(c:Cl g hs (·∈met)):J9 g cs hs:=by
 let key:∀x,(∃v,YQ hs x=À v)->x∈met:=λx ⟨v,hv⟩=>by
  rcases YFb m hv with z|z|z
  show z;cases z;cases z
 show⟨m.nd,m.leg,m.why,λr d i k p j a b m1 m2 hp e1 e2=>c.join r d i k p j a b (key _ m1) (key _ m2) hp e1 e2,λr ru i j a er m1 e1=>c.up r ru i j a er (key _ m1) e1⟩
end FR
namespace L2
open PySem PySem.Spec PyProof.Rows
@[ext]def kL(z:am):It:=
 ⟨λi _=>i<z.cps.size,λi H v H'=>∃T c,H T=Á/\v=.ref T/\z.cps[i]?=À c/\H'=upd H T (.tup [.int i,.str ⟨#[c]⟩]),λi _=>i=z.cps.size⟩
def YGx(hh:A.handled=Á)(it:ai)(x:am)(t:Tok):
  Draws prog w A it [it] x.cps.size (λi v=>∃c u,x.cps[i]?=À c/\v=.str ⟨#[c]⟩ u) (λi h=>h.IsStrIter it (strIterType x) x t i):=by
 unfold strIterType;split;show Draws.strAscii hh it x t;show Draws.strWide hh it x t
def YKS{P:Program}{w:World}{K:W.Frag}{jo:ac Expr}{k:Nat}{pos:Pos}(z:am)(t:Tok)(e it:ai):
  kR P w K (.Tuple jo k pos) (kL z) [e,it] e (λi h=>(∃old,IsEnum h e it (i:Nat) old)/\h.IsStrIter it (strIterType z) z t i/\e≠it) where
 mem:=by simp
 obj:=λi h st b hb=>by
  let⟨⟨old,he⟩,⟨o,eo,c,d⟩,_⟩:=st;rcases YO9.mp hb with rfl|hb
  show⟨_,he,λv z=>by cases z⟩;let eb:b=it:=by simpa using hb
  subst eb;show⟨o,eo,λv z=>by rw[d]at z;cases z⟩
 keep:=λi h h' st k=>by
  let⟨⟨old,he⟩,⟨o,eo,r⟩,hne⟩:=st;show⟨⟨old,k e (by simp) _ he⟩,⟨o,k it (by simp) o eo,r⟩,hne⟩
 item:=by
  intro X hP hw hK hc i O s σ H E I hf st hg;subst hP hw hK;let⟨⟨old,he⟩,DV,hne⟩:=st;let DT:i<z.cps.size:=hg;let nef:e∉[it]:=by
   simp only[YO9,đ,or_false];show hne
  show wpAny_pyNext_enum_itemD (YGx (prog:=X.prog) (w:=X.w) (A:=X.A.in1) (I.ok.hd hc) it z t) he DV DT hne nef λu' h' tk hPu ho hst hT hsz hk=>?_;let⟨c,uu,Ea,Z⟩:=hPu;show⟨_,Z,wpAny_letOwnedTupleGo_enum (s:={ s with heap:=h',toks:=tk+1 }) ho λh'' he' hs'=>?_⟩;let yq:e<s.heap.objs.size:=Í he;let hTe:s.heap.objs.size≠e:=Nat.ne_of_gt yq;let kk:∀b o,b∉[e,it]->s.heap.get? b=À o->h''.get? b=À o:=λb o hb q=>by
   let h1:b≠e:=λz=>hb (by simp[z]);let h2:b≠it:=λz=>hb (by simp[z]);show(hs'.2 b h1).trans<|hk b o h1 h2 q
  let I1:aX X O σ H { s with heap:=h'',toks:=tk+1 }:=I.turns kk hf;let hT':h''.get? s.heap.objs.size=À { cls:=.type "tuple",data:=.seq #[.int i tk,.str ⟨#[c]⟩ uu] }:=(hs'.2 _ hTe).trans hT;let hfr:H s.heap.objs.size=Á:=I.hok.fresh<|Å _;let I2:=I1.trackT (T:=s.heap.objs.size) (xs:=[.int i,.str ⟨#[c]⟩]) (its:=[.int i tk,.str ⟨#[c]⟩ uu]) hfr ⟨_,hT',Z,_,Z⟩ (.cons ⟨_,Z⟩<|.cons ⟨_,Z⟩ .nil) (by change 2<=sizeLine;rw[sizeLine_eq];decide)
   (λo q=>absurd (Í q)<|Nat.not_lt.mpr I.sz) λp hp z=>absurd (Í (I.pin p hp).1) (by rw[z];show ó _)
  let⟨o3,e3,r3⟩:=hst;show⟨.ref s.heap.objs.size,_,I2,Z,⟨_,c,hfr,Z,Ea,Z⟩,⟨⟨_,by simpa using he'⟩,⟨o3,(hs'.2 it hne.symm).trans e3,r3⟩,hne⟩,λb hb=>?_⟩;obtain⟨o,eo,_⟩:∃o,s.heap.get? b=À o/\True:=by
   rcases YO9.mp hb with rfl|hb
   show⟨_,he,trivial⟩;let eb:b=it:=by simpa using hb
   subst eb;let⟨o,eo,_⟩:=DV;show⟨o,eo,trivial⟩
  rw[YB<|Ü<|Í eo];show(hf b hb).1
 done:=by
  intro X hP hw hK hc i O s σ H E I hf st hg;subst hP hw hK;let⟨⟨old,he⟩,DV,hne⟩:=st;let ei:i=z.cps.size:=hg;subst ei;show wpAny_pyNext_enum_endD (YGx (prog:=X.prog) (w:=X.w) (A:=X.A.in1) (I.ok.hd hc) it z t) he DV λh' eb=>⟨Z,I.turns (t':=s.toks) (λb o hb q=>eb b o (λz=>hb (by simp[z])) q) hf⟩
 self:=λ_ _ _ _ _ st h=>by
  let⟨⟨old,he⟩,_⟩:=st;show wpAny_pyIter_enum he h
section
variable {X:Cx}{jo:ac Expr}{k:Nat}{jm:Pos}
@[ext]def xK(ta:TA):TI:=λσ H R=>ta σ H λvs H1=>∃z,vs=[.str z]/\R (kL z) H1
def YOI{a:Expr}{ta:TA}{p pos:Pos}(hg:Gl X "enumerate")(hm:X.mg "enumerate"=Á)(ha:PA X [a] ta)(hs:starEach [a] X.env=[(Ã,eval a X.env)]:=by rfl):
  PI X (.Tuple jo k jm) (.Call (.Name "enumerate" p) [a] [] pos) (xK ta):=by
 intro O s σ H R I h;show Call_<|nv I hg hm PyProof.Rows.Boot.«enumerate»<|PyProof.Rows.callWith_type1 (cy (ha pos O s σ H _ I h) λus s1 ⟨vs,H1,I1,r1,q1⟩=>?_) hs rfl;let⟨z,Z,q⟩:=q1;let⟨u,Z,t,Z⟩:=kf r1;show call_enumerate_str λh' he DV hsz hk=>?_;let I2:aX X O σ H1 { s1 with heap:=h' }:=I1.kept (t':=s1.toks) hk;show wpAny_pyIter_enum he ?_;show⟨s1.heap.objs.size+1,[s1.heap.objs.size+1,s1.heap.objs.size],_,_,H1,Z,I2,YKS z t _ _,⟨⟨_,by simpa using he⟩,DV,Nat.succ_ne_self _⟩,λb hb=>?_,q⟩;rcases YO9.mp hb with rfl|hb
 show I1.fpOk (ò _)<|I1.hok.fresh<|ò _;let eb:b=s1.heap.objs.size:=by simpa using hb
 subst eb;show I1.fpOk (Å _)<|I1.hok.fresh<|Å _
end
def YMn{z:am}{g:TG}{tb:TS}{D:Jg}{σ:St}{H:Hp}(Pv:Nat->St->Hp->Prop)(h0:Pv 0 σ H)
  (hs:∀i c T σ H,z.cps[i]?=À c->H T=Á->Pv i σ H->g (.ref T) σ (upd H T<|.tup [.int (i:Nat),.str ⟨#[c]⟩]) λσ2 H2=>tb { D with nx:=Pv (i+1),ct:=Pv (i+1),bk:=D.nx } σ2 H2)(hd:∀σ H,Pv z.cps.size σ H->D.nx σ H):
  ∃W:Nat->Nat->St->Hp->Prop,(∃m,W 0 m σ H)/\∀i m σ H,W i m σ H->
   ((kL z).stop i H/\D.nx σ H)\/((kL z).go i H/\∃N:St->Hp->Prop,(∀σ' H',N σ' H'->∃m',m'<m/\W (i+1) m' σ' H')/\∀x H',(kL z).yld i H x H'->g x σ H' λσ2 H2=>tb { D with nx:=N,ct:=N,bk:=D.nx } σ2 H2):=by
 show⟨λi m σ H=>m=z.cps.size-i/\i<=z.cps.size/\Pv i σ H,⟨z.cps.size,by simp,Ë _,h0⟩,?_⟩;rintro i m σ H ⟨rfl,hi,p⟩;by_cases DT:i<z.cps.size;show .inr ⟨DT,Pv<|i+1,λσ' H' p'=>⟨z.cps.size-(i+1),by omega,Z,DT,p'⟩,λx H' y=>?_⟩;let⟨T,c,hT,Z,hc,Z⟩:=y;show hs i c T σ H hc hT p;let ei:i=z.cps.size:=by omega
 subst ei;show .inl ⟨Z,hd σ H p⟩
section
variable {X:Cx}{O:ac (ai×Obj)}{σ:St}{H:Hp}{s:al}{d:ai}{kvs:ac (ac db×V)}
def aX.freezeT(I:aX X O σ H s)(hd:H d=À (.dT kvs)):∃o,aX X O σ (upd H d<|.frz o<|.dT kvs) s:=by
 let nt:∀c xs,H c=À (.tup xs)->c≠d:=λc xs r z=>by rw[z,hd]at r;cases r
 let⟨_,_,_,_,o,_,_,ho,_⟩:=(show ZA X.prog X.w H s.heap d (.dT kvs) from I.hok d _ hd);show⟨o,I.write (x:=d) (e:=d) (h':=s.heap) (t':=s.toks) (by rw[hd];trivial) (.inl Z) (λ_ _ _ e=>e) ⟨o,ho⟩ ⟨ho,?_⟩⟩;show(I.hok d _ hd).stay (λ_ _ _ e=>e) (λb e=>by rw[YB<|Yi e hd nofun];show e) λb xs e=>by rw[YB<|nt b xs e];show e
def aX.dropT(I:aX X O σ H s)(hd:H d=À (.dT kvs)):aX X O σ (del H d) s:=by
 let nn:∀c,H c=Á->del H d c=Á:=λc e=>by
  unfold del;split;rfl;show e
 let nt:∀c xs,H c=À (.tup xs)->c≠d:=λc xs r z=>by rw[z,hd]at r;cases r
 let no:∀c y,H c=À (.own y)->c≠d:=λc xs r z=>by rw[z,hd]at r;cases r
 let nb:∀c y,H c=À (.tbl y)->c≠d:=λc xs r z=>by rw[z,hd]at r;cases r
 let nf:∀c o y,H c=À (.frz o y)->c≠d:=λc o xs r z=>by rw[z,hd]at r;cases r
 show⟨I.ok,I.os,I.bare,⟨I.base.keep,I.base.slot,λb o q n S=>nn _<|I.base.free b o q n S,I.base.there,λb xs q=>?_,λb ob u q=>?_,λb ps q=>?_⟩,I.loc,I.cell,nn _ I.free,λx c h1=>nn _<|I.freeC x c h1,λp hp'=>?_,λa u ea=>?_,I.len⟩;let z:=I.base.tups b xs q;rw[ZY<|nt _ _ z];show z;let z:=I.base.frzs b ob u q;rw[ZY<|nf _ _ _ z];show z;let⟨mo,z⟩:=I.base.tbls b ps q;show⟨mo,by rw[ZY<|nb _ _ z];show z⟩;let⟨p1,p2,p3⟩:=I.pin p hp';show⟨p1,nn _ p2,p3⟩;let ha:a≠d:=λz=>by rw[z,J6]at ea;cases ea
 rw[ZY ha]at ea;show(I.hok a u ea).stay (λ_ _ _ e=>e) (λb e=>by rw[ZY<|no _ _ e];show e) λb xs e=>by rw[ZY<|nt b xs e];show e
end
section
variable {X:Cx}
@[ext]def zD(t:TE):TE:=λσ H Q=>t σ H λv H1=>∃d c1 c2 kvs k1 k2,H1 d=À (.dT kvs)/\H1 c1=À (.dT k1)/\H1 c2=À (.dT k2)/\d≠c1/\d≠c2/\c1≠c2/\∀o,Q v<|upd (del (del H1 c1) c2) d<|.frz o<|.dT kvs
def YOJ{e:Expr}{t:TE}(h:PE X e t):PE X e<|zD t:=by
 intro O s σ H Q I hw;show cy (h O s σ H _ I hw) ?_;rintro v s1 ⟨x,H1,I1,r1,d,c1,c2,kvs,k1,k2,e0,e1,e2,n1,n2,n3,q⟩;let I2:=I1.dropT e1;let I3:=I2.dropT (d:=c2) (kvs:=k2) (by rw[ZY n3.symm];show e2);let⟨o,I4⟩:=I3.freezeT (d:=d) (kvs:=kvs) (by rw[ZY n2,ZY n1];show e0);show⟨x,_,I4,r1,q o⟩
end
section
variable {prog:Program}{w:World}{A:Around}{E:ah->al->Prop}{s:al}
end
def KT.get(r:KT H kvs xs):∀{i:Nat}{kv:ac db×V},kvs[i]?=À kv->∃b u,xs[i]?=À (kv.1,b,u)/\H b=À (.tup<|kv.1.map kV)/\Yw kv.2 u:=by
 unfold KT at r
 induction r with
 |nil=>intro i kv e;cases e
 |@cons p q ps qs h t ih=>
  intro i kv e;cases i with
  |zero=>
   cases e;show⟨q.2.1,q.2.2,by rw[h.1];rfl,h.2.1,h.2.2⟩
  |succ j=>show ih (i:=j) e
section
variable {X:Cx}{jo:ac Expr}{k:Nat}{jm:Pos}
end
@[ext]def BQ(d:ai)(o:Obj)(kvs:ac<|db×V):It:=
 ⟨λi H=>H d=À (.frz o<|.dK kvs)/\i<kvs.length,λi H v H'=>∃kv,kvs[i]?=À kv/\v=kV kv.1/\H'=H,λi H=>H d=À (.frz o<|.dK kvs)/\i=kvs.length⟩
def YMo{P:Program}{w:World}{K:W.Frag}{tg:Expr}{d it:ai}{o:Obj}{kvs:ac (db×V)}{es:Array DictEntry}{ep:Nat}(ho:o.data=.dict es ep):
  kR P w K tg (BQ d o kvs) [it] it (λi h=>h.IsKeyIter it d i kvs.length ep) where
 mem:=by simp
 obj:=λi h st b hb=>by
  let eb:b=it:=by simpa using hb
  subst eb;let⟨o,e,c,d⟩:=st;show⟨o,e,λv z=>by rw[d]at z;cases z⟩
 keep:=λi h h' st k=>st.at λo e=>k it (by simp) o e
 item:=by
  intro X hP hw hK hc i O s σ H E I hf st hg;subst hP hw hK;let⟨hd,hi⟩:=hg;let⟨jd,hsz,lo,vs,rel,hD⟩:=(show ZA X.prog X.w H s.heap d (.frz o<|.dK kvs) from I.hok d _ hd);let⟨o2,u_,ue,h1,h2,h3,h4⟩:=hD;rw[jd]at h1;cases h1;rw[ho]at h3;cases h3;let hat:s.heap.DictAt (Yn X.prog X.w) d vs ep:=⟨o,es,jd,h2,ho,h4⟩;let ekv:kvs[i]?=À kvs[i]:=by simp[hi]
  let⟨u,hu,ru⟩:=rel.get ekv;let hlen:kvs.length=vs.length:=rel.length;rw[hlen]at st;let⟨f0,f1,f2,f3,f4,f5⟩:=hf it (by simp);show wpAny_pyNext_dict_item st hat hu λkey h' hkey st' sb=>?_;let I1:aX X O σ H { s with heap:=h' }:=I.turned (t':=s.toks) (λb o hb e=>(sb.2 b hb).trans e) f0 f1 f3 f4 f5;show⟨key,Z,letGo_keyiter (s':={ s with heap:=h' }) st' ⟨kV kvs[i].1,H,I1,YNn hkey,⟨_,ekv,Z,Z⟩,by rw[hlen];show st',λb hb=>(hf b hb).1⟩⟩
 done:=by
  intro X hP hw hK hc i O s σ H E I hf st hg;subst hP hw hK;let⟨hd,hi⟩:=hg;let⟨jd,hsz,lo,vs,rel,hD⟩:=(show ZA X.prog X.w H s.heap d (.frz o<|.dK kvs) from I.hok d _ hd);let⟨o2,u_,ue,h1,h2,h3,h4⟩:=hD;rw[jd]at h1;cases h1;rw[ho]at h3;cases h3;let hat:s.heap.DictAt (Yn X.prog X.w) d vs ep:=⟨o,es,jd,h2,ho,h4⟩;let hlen:kvs.length=vs.length:=rel.length;rw[hlen]at st;show wpAny_pyNext_dict_end (I.ok.hd hc) st hat (ē (by lia)) λh' eb=>⟨Z,I.turns (t':=s.toks) (λb o hb q=>eb b o (λz=>hb (by simp[z])) q) hf⟩
 self:=λ_ _ _ _ _ st h=>wpAny_pyIter_keyiter st h
section
variable {X:Cx}{tg:Expr}
end
section
variable {prog:Program}{w:World}{A:Around}{E:ah->al->Prop}{s:al}
def YGy{Q:ag ah->al->Prop}(DV:s.heap.IsKeyIter it d i n ep)
  (jd:s.heap.get? d=À od)(hdd:od.data=.dict es ep)(hsz:es.size=n)(S:es[i]?=À en)
  (hQ:∀h',h'.IsKeyIter it d (i+1) n ep->Heap.SameBut it s.heap h'->Q (À en.key) { s with heap:=h' }):wpAny (model prog w) A (pyNext<|.ref it) Q E s:=by
 subst hsz;let⟨o,ho,hc,hd⟩:=id DV;let hlt':i<es.size:=(Array.getElem?_eq_some_iff.mp S).1;let een:es[i]=en:=(Array.getElem?_eq_some_iff.mp S).2;unfold pyNext;show Æ<|wpAny_attempt<|wpAny_callSpecial?_slot (name:=Str.ofString "__next__") DV.typeIs F.slot_dict_keyiterator_next<|wpAny_call_entry F.slot_dict_keyiterator_next DV.typeIs F.entry_dict_keyiterator_next ?_ (F.args_dict_keyiterator_next_1 _);show Æ (Ì<|Æ<|Æ ?_)
 first|show Æ (wpAny_typeNameOfWhole_keyiter DV.typeIs (Ì (Æ (wpAny_fieldsOf ho hd ?_))))|show Æ (wpAny_typeNameOf_keyiter DV.typeIs (Ì (Æ (wpAny_fieldsOf ho hd ?_))))
 simp only[show Builtin.Dict_items.ownsTuple "dict_keyiterator"=Ã by decide,Bool.false_eq_true,if_false];change wpAny _ _ (if (Value.ref d==Value.none)=Â then _ else _) _ _ s;rw[if_neg (show ¬((Value.ref d==Value.none)=Â) from Ù)];show Æ<|Ì<|Æ<|wpAny_dictEntries jd hdd ?_;rw[if_neg (by simp)];show Æ<|Ì<|Æ<|wpAny_dictEpoch jd hdd ?_;rw[if_neg (by simp)];show Ì ?_;simp only[show ¬((i:Int)<0) from by lia,if_false,ï,Array.getElem?_eq_getElem hlt',een];show Æ ?_
 first|show Æ (wpAny_typeNameOfWhole_keyiter DV.typeIs (Ì (Æ (wpAny_isOneOf_keyiter DV.typeIs ?_))))|show Æ (wpAny_typeNameOf_keyiter DV.typeIs (Ì (Æ (wpAny_isOneOf_keyiter DV.typeIs ?_))))
 change wpAny _ _ (setField (.ref it) 1 (rawInt<|(i:Int)+1) >>= _) _ _ s;show Æ<|wpAny_setField ho hd (by simp) ?_;let hit':(s.heap.update it<|Obj.mapFields (·.setIfInBounds 1 (rawInt<|(i:Int)+1))).IsKeyIter it d (i+1) es.size ep:=⟨_,ą _ ho<|Obj.isFreed_of_fields<|Obj.data_mapFields hd _,(Obj.cls_mapFields ..).trans hc,by rw[Obj.data_mapFields hd];simp[rawInt]⟩;show Æ<|wpAny_holding<|Æ<|wpAny_isOneOf_keyiter (s:={ s with heap:=s.heap.update it (Obj.mapFields (·.setIfInBounds 1 (rawInt ((i:Int)+1)))) }) hit'.typeIs ?_;change wpAny _ _ (pure en.key) _ _ _;show Ì<|Ì ⟨_,Z,Ì<|hQ _ hit'<|Heap.SameBut.update ..⟩
def YIw{Q:ag ah->al->Prop}(hh:A.handled=Á)(DV:s.heap.IsKeyIter it d n n ep)
  (jd:s.heap.get? d=À od)(hdd:od.data=.dict es ep)(hsz:es.size=n)(hQ:∀h',Heap.ExtBut it s.heap h'->Q Á { s with heap:=h' }):wpAny (model prog w) A (pyNext<|.ref it) Q E s:=by
 subst hsz;let⟨o,ho,hc,hd⟩:=id DV;unfold pyNext;show Æ<|wpAny_attempt<|wpAny_callSpecial?_slot (name:=Str.ofString "__next__") DV.typeIs F.slot_dict_keyiterator_next<|wpAny_call_entry F.slot_dict_keyiterator_next DV.typeIs F.entry_dict_keyiterator_next ?_ (F.args_dict_keyiterator_next_1 _);show Æ (Ì<|Æ<|Æ ?_)
 first|show Æ (wpAny_typeNameOfWhole_keyiter DV.typeIs (Ì (Æ (wpAny_fieldsOf ho hd ?_))))|show Æ (wpAny_typeNameOf_keyiter DV.typeIs (Ì (Æ (wpAny_fieldsOf ho hd ?_))))
 simp only[show Builtin.Dict_items.ownsTuple "dict_keyiterator"=Ã by decide,Bool.false_eq_true,if_false];change wpAny _ _ (if (Value.ref d==Value.none)=Â then _ else _) _ _ s;rw[if_neg (show ¬((Value.ref d==Value.none)=Â) from Ù)];show Æ<|Ì<|Æ<|wpAny_dictEntries jd hdd ?_;rw[if_neg (by simp)];show Æ<|Ì<|Æ<|wpAny_dictEpoch jd hdd ?_;rw[if_neg (by simp)];show Ì ?_;simp only[show ¬((es.size:Int)<0) from by lia,if_false,ï,Array.getElem?_eq_none<|Å es.size];show Æ ?_
 first|show Æ (wpAny_typeNameOfWhole_keyiter DV.typeIs (Ì ?_))|show Æ (wpAny_typeNameOf_keyiter DV.typeIs (Ì ?_))
 change wpAny _ _ (setField (.ref it) 0 .none >>= _) _ _ s;show Æ<|wpAny_setField ho hd (by simp) ?_;change wpAny _ _ (newExc (.type "StopIteration") [] >>= _) _ _ _;show Æ ?_;simp only[newExc,newTuple];show Æ<|wpAny_newObj_type ?_ (by size_fits);show Æ (m:=firstArgMember _ _)<|wpAny_of_eq (a:=Value.none) (by first|rfl|(simp only[firstArgMember];rfl)) ?_;show wpAny_newObj_type ?_ (by size_fits);simp only[raiseNew];show Æ<|wpAny_handled ?_;rw[show A.in1.handled=Á from hh];show Æ<|Ì<|wpAny_throw ?_;show Æ<|wpAny_isInstance (T:="StopIteration") (b:=true) ⟨_,Þ _ rfl,Z⟩ isSubtype_stop ?_;show Ì<|hQ _<|((Heap.SameBut.update ..).extBut.push _).push _
def YGz{Q:ah->al->Prop}(hd:(d==sysModules)=Ã)(ho:s.heap.get? d=À od)(hc:od.cls=.type "dict")(hdat:od.data=.dict es ep)
  (hQ:Q (.ref s.heap.objs.size) { s with heap:=s.heap.push { cls:=.type "dict_keyiterator",data:=.fields #[.ref d,.int 0 0,.int es.size 0,.int ep 0] } }):wpAny (model prog w) A (pyIter<|.ref d) Q E s:=by
 let hT:s.TypeIs (.ref d) "dict":=⟨od,ho,hc⟩;show wpAny_pyIter_slot hT F.slot_dict_iter<|wpAny_call_entry F.slot_dict_iter hT F.entry_dict_iter ?_ (F.args_dict_iter_1 _);unfold Builtin.«dict.__iter__»;show Æ ?_;unfold Builtin.Dict.dictSlotNone;show Æ<|wpAny_notOrdered_dict hT ?_;change wpAny _ _ (pure<|Value.ref d) _ _ s;show Ì ?_;change wpAny _ _ (Builtin.Dict.showsAll d >>= _) _ _ s;unfold Builtin.Dict.showsAll;rw[if_neg (by rw[hd];show Ù)];show Æ<|Ì<|Æ<|wpAny_dictEntries ho hdat<|Æ<|wpAny_dictEpoch ho hdat ?_;show Æ<|wpAny_newObj_type<|Ì ⟨_,Z,"dict_keyiterator",_,⟨_,Þ _ rfl,Z⟩,F.slot_dict_keyiterator_next.lookup,?_⟩;simpa [rawInt] using hQ
end
@[ext]def lb(d:ai)(o:Obj)(kvs:ac<|ac db×V):It:=
 ⟨λi H=>H d=À (.frz o<|.dT kvs)/\i<kvs.length,λi H v H'=>∃b kv,v=.ref b/\kvs[i]?=À kv/\H b=À (.tup<|kv.1.map kV)/\H'=H,λi H=>H d=À (.frz o<|.dT kvs)/\i=kvs.length⟩
def YKT{P:Program}{w:World}{K:W.Frag}{tg:Expr}{d it:ai}{o:Obj}{kvs:ac (ac db×V)}{es:Array DictEntry}{ep:Nat}(ho:o.data=.dict es ep):
  kR P w K tg (lb d o kvs) [it] it (λi h=>h.IsKeyIter it d i kvs.length ep) where
 mem:=by simp
 obj:=λi h st b hb=>by
  let eb:b=it:=by simpa using hb
  subst eb;let⟨o,e,c,d⟩:=st;show⟨o,e,λv z=>by rw[d]at z;cases z⟩
 keep:=λi h h' st k=>st.at λo e=>k it (by simp) o e
 item:=by
  intro X hP hw hK hc i O s σ H E I hf st hg;subst hP hw hK;let⟨hd,hi⟩:=hg;let⟨jd,hsz,lo,xs,rel,o2,u_,ue,h1,h2,h3,h4,h5⟩:=(show ZA X.prog X.w H s.heap d (.frz o<|.dT kvs) from I.hok d _ hd);rw[jd]at h1;cases h1;rw[ho]at h3;cases h3;let ekv:kvs[i]?=À kvs[i]:=by simp[hi]
  let⟨b,u,S,hb,ru⟩:=KT.get rel ekv;let hlen:es.size=kvs.length:=by
   rw[<-ì,h4,Ä,Paired.length rel]
  let hen:es[i]?=À (entryOfKey (tupleKind<|Yn X.prog X.w) (kvs[i].1,b,u)):=by
   rw[<-ă,h4,Ï,S];rfl
  let⟨f0,f1,f2,f3,f4,f5⟩:=hf it (by simp);show YGy st jd ho hlen hen λh' st' sb=>?_;let I1:aX X O σ H { s with heap:=h' }:=I.turned (t':=s.toks) (λb o hb e=>(sb.2 b hb).trans e) f0 f1 f3 f4 f5;show⟨.ref b,Z,letGo_keyiter (s':={ s with heap:=h' }) st' ⟨.ref b,H,I1,Z,⟨b,_,Z,ekv,hb,Z⟩,st',λb hb=>(hf b hb).1⟩⟩
 done:=by
  intro X hP hw hK hc i O s σ H E I hf st hg;subst hP hw hK;let⟨hd,hi⟩:=hg;let⟨jd,hsz,lo,xs,rel,o2,u_,ue,h1,h2,h3,h4,h5⟩:=(show ZA X.prog X.w H s.heap d (.frz o<|.dT kvs) from I.hok d _ hd);rw[jd]at h1;cases h1;rw[ho]at h3;cases h3;let hlen:es.size=kvs.length:=by
   rw[<-ì,h4,Ä,Paired.length rel]
  subst hi;show YIw (I.ok.hd hc) st jd ho hlen λh' eb=>⟨Z,I.turns (t':=s.toks) (λb o hb q=>eb b o (λz=>hb (by simp[z])) q) hf⟩
 self:=λ_ _ _ _ _ st h=>wpAny_pyIter_keyiter st h
section
variable {X:Cx}{tg:Expr}
inductive YLb(R:It->Hp->Prop)(x:V)(H1:Hp):Prop
 |mk (d:_)(o:_)(kvs:_):x=.ref d->H1 d=À (.frz o (.dT kvs))->R (lb d o kvs) H1->YLb R x H1
@[ext]def xI(to:TE):TI:=λσ H R=>to σ H λx H1=>YLb R x H1
def YIx{oe:Expr}{to:TE}(ho:PE X oe to):PI X tg oe<|xI to:=by
 intro O s σ H R I h;show cy (ho O s σ H _ I h) ?_;rintro v s1 ⟨x,H1,I1,r1,d,o,kvs,ex,hd,q⟩;subst ex;cases r1;let⟨jd,hsz,lo,xs,rel,o2,es,ep,h1,hex,hdat,h4,h5⟩:=(show ZA X.prog X.w H1 s1.heap d (.frz o<|.dT kvs) from I1.hok d _ hd);rw[jd]at h1;cases h1;let hlen:es.size=kvs.length:=by
  rw[<-ì,h4,Ä,Paired.length rel]
 show YGz lo jd hex.1 hdat ?_;let I2:=I1.kept (t':=s1.toks) (h':=s1.heap.push { cls:=.type "dict_keyiterator",data:=.fields #[.ref d,.int 0 0,.int es.size 0,.int ep 0] }) λb u e=>Ø _ e;show⟨_,[_],_,_,H1,Z,I2,YKT (o:=o) hdat,⟨_,Þ _ Z,Z,by rw[<-hlen];rfl⟩,λb hb=>?_,q⟩;let eb:=YO0.mp hb;rw[eb];show I1.fpOk (Å _)<|I1.hok.fresh<|Å _
end
def YG0{d:ai}{o:Obj}{kvs:ac (ac db×V)}{g:TG}{tb:TS}{D:Jg}{σ:St}{H:Hp}(Pv:Nat->St->Hp->Prop)(h0:Pv 0 σ H)(hl:∀i σ H,i<=kvs.length->Pv i σ H->H d=À (.frz o<|.dT kvs))
  (hs:∀i kv b σ H,kvs[i]?=À kv->H b=À (.tup<|kv.1.map kV)->Pv i σ H->g (.ref b) σ H λσ2 H2=>tb { D with nx:=Pv (i+1),ct:=Pv (i+1),bk:=D.nx } σ2 H2)(hd:∀σ H,Pv kvs.length σ H->D.nx σ H):
  ∃W:Nat->Nat->St->Hp->Prop,(∃m,W 0 m σ H)/\∀i m σ H,W i m σ H->
   ((lb d o kvs).stop i H/\D.nx σ H)\/((lb d o kvs).go i H/\∃N:St->Hp->Prop,(∀σ' H',N σ' H'->∃m',m'<m/\W (i+1) m' σ' H')/\∀x H',(lb d o kvs).yld i H x H'->g x σ H' λσ2 H2=>tb { D with nx:=N,ct:=N,bk:=D.nx } σ2 H2):=by
 show⟨λi m σ H=>m=kvs.length-i/\i<=kvs.length/\Pv i σ H,⟨kvs.length,by simp,Ë _,h0⟩,?_⟩;rintro i m σ H ⟨rfl,hi,p⟩;let q:=hl i σ H hi p;by_cases DT:i<kvs.length;show .inr ⟨⟨q,DT⟩,Pv<|i+1,λσ' H' p'=>⟨kvs.length-(i+1),by omega,Z,DT,p'⟩,λx H' y=>?_⟩;let⟨b,kv,Z,hkv,hb,Z⟩:=y;show hs i kv b σ _ hkv hb p;let ei:i=kvs.length:=by omega
 subst ei;show .inl ⟨⟨q,Z⟩,hd σ H p⟩
section
variable {prog:Program}{w:World}{d:ai}{od:Obj}{es:Array DictEntry}{ep:Nat}
def YKU(hh:A.handled=Á)(I:ai)(hne:d≠I)(hdat:od.data=.dict es ep):
  Walks prog w A I [I,d] [I] es.size (λi v=>∃en,es[i]?=À en/\v=en.key) (λi h=>h.IsKeyIter I d i es.size ep/\h.get? d=À od) where
 sub:=λb hb=>by simp at hb;simp[hb]
 frame:=λ_ _ _ st hk=>⟨st.1.at λo e=>hk I (by simp) o e,hk d (by simp) _ st.2⟩
 item:=λi s Q E hi st hQ=>by
  let S:es[i]?=À es[i]:=by simp[hi]
  show YGy st.1 st.2 hdat Z S λh' hit' hs'=>?_;show hQ _ h' s.toks ⟨_,S,Z⟩ ⟨hit',(hs'.2 d hne).trans st.2⟩ λb o hb e=>hs'.extBut b o (λh=>hb (by simp[h])) e
 done:=λs Q E st hQ=>YIw hh st.1 st.2 hdat Z λh' he'=>hQ h' s.toks λb o hb e=>he' b o (λh=>hb (by simp[h])) e
 self:=λ_ _ _ _ st hQ=>wpAny_pyIter_keyiter st.1 hQ
def rf(lo:(d==sysModules)=Ã)(hc:od.cls=.type "dict")(hdat:od.data=.dict es ep):W.KdlSrc prog w "dict" d d es.size (λi v=>∃en,es[i]?=À en/\v=en.key) (λh=>h.get? d=À od) where
 type:=λ_ hm=>⟨_,hm,hc⟩
 there:=λ_ hm=>⟨Í hm,Í hm⟩
 keep:=λ_ _ hm hk=>hk d (.inl Z) _ hm
 notList:=by decide
 notTuple:=by decide
 hint:=λ_ _ _ _ hm hq=>W.kdl_hint_dict ⟨_,hm,hc⟩ hq
 iter:=λ_ _ hh hm=>⟨_,_,(λ_ _ hq=>YGz lo hm hc hdat hq),YKU hh _ (Ü<|Í hm) hdat,⟨⟨_,Þ _ Z,Z,Z⟩,Ø _ hm⟩⟩
end
@[ext]def YKV(H:Hp)(ts:ac ai)(kvs:ac<|ac db×V):Prop:=ts.length=kvs.length/\∀(i:Nat) (t:ai) (kv:ac db×V),ts[i]?=À t->kvs[i]?=À kv->H t=À (.tup<|kv.1.map kV)
def YBd(hc:X.calm=Â):XH X (.type "list") (λxs H Q=>∃(p:ai) (kvs:ac<|ac db×V),xs=[.ref p]/\Rd H p (.dT kvs)/\∀l ts,H l=Á->YKV H ts kvs->Q (.ref l) (upd H l<|.lst<|ts.map V.ref)):=by
 intro O s σ H xs us Q I r h;let⟨p,kvs,Z,hq,q⟩:=h;let⟨u,Z,rx⟩:=kf r;cases rx;let⟨hsz,lo,xs,rel,od,es,ep,jd,hex,hdat,h4,h5⟩:=(show ZA X.prog X.w H s.heap p (.dT kvs) from kK I.hok hq);let hlen:es.size=kvs.length:=by
  rw[<-ì,h4,Ä,Paired.length rel]
 show W.kdl_call (rf lo hex.1 hdat) (I.ok.hd hc) jd (by rw[hlen];show hsz) λh' tk jq c' hk hS DV=>?_;let jt:xs.length=kvs.length:=(Paired.length rel).symm;let Eb:YKV H (xs.map λx=>x.2.1) kvs:=by
  show⟨by rw[Ä,jt],λi t kv e1 e2=>?_⟩;let⟨b,u,e3,e4,_⟩:=KT.get rel e2;rw[Ï,e3]at e1;cases e1;show e4
 let rv:Yo ((xs.map λx=>x.2.1).map V.ref) jq.toList:=by
  show ϵ (by rw[Ä,Ä,jt,<-hlen];show(Array.length_toList.trans DV.1).symm) λj x u h1 h2=>?_;let⟨en,hen,Z⟩:=DV.2 j u (by rw[<-ă];show h2);rw[<-ă,h4,Ï]at hen;rw[Ï,Ï]at h1;cases e2:xs[j]? with
  |none=>rw[e2]at h1;cases h1
  |some y=>
   rw[e2]at h1 hen;cases h1;cases hen;rfl
 show⟨.ref s.heap.objs.size,_,I.laid (t':=tk) hk (Å _) (show ZA X.prog X.w _ h' _ (.lst _) from⟨by rw[Ä,Ä,jt];show hsz,jq.toList,c',rv,by simpa using hS⟩),Z,q _ _ (I.hok.fresh<|Å _) Eb⟩
@[ext]def AB(t:TE):TE:=λσ H Q=>t σ H λv H1=>∃d kvs,H1 d=À (.dT kvs)/\∀o,Q v<|upd H1 d<|.frz o<|.dT kvs
def ϧ{X:Cx}{e:Expr}{t:TE}(h:PE X e t):PE X e<|AB t:=by
 intro O s σ H Q I hw;show cy (h O s σ H _ I hw) ?_;rintro v s1 ⟨x,H1,I1,r1,d,kvs,e0,q⟩;let⟨o,I4⟩:=I1.freezeT e0;show⟨x,_,I4,r1,q o⟩
def YIy:XH X (.builtin "sorted") (λxs H Q=>∃(p:ai) (ns:ac Int),xs=[.ref p]/\H p=À (.lst<|ns.map V.int)/\ns.length<64/\∀(l:ai) (ns':ac Int),H l=Á->ns'.Perm ns->ns'.Pairwise (·<=·)->Q (.ref l) (upd H l<|.lst<|ns'.map V.int)):=by
 intro O s σ H xs us Q I r h;let⟨p,ns,Z,hp,h64,q⟩:=h;let⟨u,Z,rx⟩:=kf r;cases rx;let⟨hz,its,n,rv,hl⟩:=(show ZA X.prog X.w H s.heap p (.lst<|ns.map V.int) from I.hok p _ hp);let hll:its.length=ns.length:=by have:=rv.length;rw[Ä]at this;show this.symm
 show sorted_ints (vs:=its) ⟨_,hl,Z,_,Z⟩ (YJ7 rv) (by rw[hll];show h64) λout ns' L a2 a3=>?_;let⟨e,he⟩:=sortedAll_at s.heap its out;show⟨.ref<|s.heap.objs.size+1,_,I.laid (a:=s.heap.objs.size+1) (o:=.lst<|ns'.map V.int) (t':=s.toks) (λb o hb=>sortedAll_old hb) (ò _) ⟨?_,out.toList,e,Ϟ L,by simpa [seqObj] using he⟩,Z,q _ ns' (I.hok.fresh<|ò _) a2 a3⟩;rw[Ä,a2.length_eq];rw[Ä]at hz;show hz
@[ext]def xn(td ty tx:TE):TE:=λσ H Q=>td σ H λx H1=>∃a,x=.ref a/\ŉ H1 a/\ty σ H1 λy H2=>tx σ H2 λz H3=>∃kvs k,H3 a=À (.dK kvs)/\y=kV k/\kvs.length<sizeLine/\
 (∀v,Yj kvs k=À v->Q v H3)/\(Yj kvs k=Á->Q z (upd H3 a<|.dK<|Y3 kvs k z))
section
variable {X:Cx}{o e f:Expr}{bL bh:Pos}{td ty tx:TE}
def YMp(hu:X.A.units+1<cLine)(ho:PE X o td)(he:PE X e ty)(hf:PE X f tx)(m:M2 X o "setdefault" bL e f bh):PE X (.Call (.Attribute o "setdefault" bL) [e,f] [] bh)<|xn td ty tx:=by
 intro O s σ H Q I h;show wpAny_Call_method m.base m.few m.line PySem.F.plainAttrs_dict ŋ PySem.F.type_dict_setdefault<|cy (ho O s σ H _ I h) ?_;rintro u s1 ⟨x,H1,I1,rx,a,ex,d,q1⟩;subst ex;obtain rfl:u=Value.ref a:=rx;let⟨t1,t2,_⟩:=YKD I1 d;show⟨t1,t2,?_⟩;rw[m.trees];show Calls.callWith_builtin Z (Calls.evalArgs_plain (Calls.spliced_cons<|cy (he O s1 σ H1 _ I1 q1) λiv s2 ⟨y,H2,I2,ry,q2⟩=>
  Calls.spliced_cons (cy (hf O s2 σ H2 _ I2 q2) ?_)))
 rintro fv s3 ⟨z,H3,I3,rz,kvs,k,e1,ey,hl,hT,hN⟩;show Calls.spliced_nil ?_;subst ey;let⟨zz,hd,vs,rel,dd⟩:=kU I3.hok e1;let hz:vs.length<=sizeLine:=by rw[<-rel.length];show zz
 show call_meetsIn ŋ dd.typeIs PySem.F.entry_dict_setdefault (PySem.F.args_dict_setdefault_3 _ _ _) (kt_meets_setdefault (Yn X.prog X.w) a (rh ry) hd fv) ⟨vs,dd,hz,λw' hw=>?_,λhn h' mD hs=>?_⟩;let rl:=rel.val k;rw[hw]at rl;cases hv:Yj kvs k with
 |none=>rw[hv]at rl;show rl.elim
 |some v'=>rw[hv]at rl;show⟨v',H3,I3.tok _,rl,hT v' hv⟩
 let rl:=rel.val k;rw[hn]at rl;cases hv:Yj kvs k with
 |some v'=>rw[hv]at rl;show rl.elim
 |none=>
  let hl2:(Y3 kvs k z).length<=sizeLine:=by have:=Zt kvs k z;omega
  let he:∃q,h'.get? a=À q:=let ⟨q,_,_,hq,_⟩:=mD;⟨q,hq⟩
  show⟨z,_,DM I3 (by rw[e1];show True.intro) hs he<|ϔ hl2 hd (rel.put k rz) mD,rz,hN hv⟩
end
end L2
namespace FR
open PySem L2
@[ext]def YU(H H':Hp):Prop:=∀b u,H' b=À u->H b=À u\/Yx u=Â
def YU.refl(H:Hp):YU H H:=λ_ _ e=>.inl e
def YU.trans(a:YU H H1)(b:YU H1 H2):YU H H2:=λc u e=>(b c u e).elim (a c u) .inr
def YU.upd(h:Yx o=Â):YU H<|L2.upd H c o:=Yp h
def YL.new(h:YL H)(n:YU H H'):YL H':=λb u e=>(n b u e).elim (h b u) id
def YOK{t u:TS}{D:Jg}{σ:St}{H:Hp}(M:St->Hp->Prop)(Yu:∀σ' H',M σ' H'->u D σ' H')(h:(∀σ' H',M σ' H'->u D σ' H')->t { D with nx:=u D } σ H):sC t u D σ H:=h Yu
@[ext]def JJ(g:YS)(r d:Nat):am:=(ZT g r d).getD ""
@[ext]def ZH(g:YS)(r:Nat):Nat:=((g[r]?).map λru=>ru.2.1.length).getD 0
@[ext]def XI(F:Nd->Bool)(n r d i:Nat):ac Nat:=(List.range<|n+1).filter λk=>F<|.beg r d i k
@[ext]def Yf(g:YS)(n:Nat)(F:Nd->Bool):Nd->ac (ac Nd)
 |.part p i j=>if eW p=Â then [[]] else ((YM g p).filter λr=>F<|.beg r (ZH g r) i j).map λr=>[.beg r (ZH g r) i j]
 |.beg r 0 i j=>[[]]
 |.beg r (d+1) i j=>((XI F n r d i).filter λk=>F<|.part (JJ g r d) k j).map λk=>[.beg r d i k,.part (JJ g r d) k j]
inductive vn(g:YS)(n:Nat)(F:Nd->Bool)(t:Nd):Nd->Prop
 |top:vn g n F t t
 |step {x:Nd}{w:List Nd}{y:Nd}:vn g n F t x->w∈Yf g n F x->y∈w->vn g n F t y
def YOL(hw:w∈Yf g n F x)(hy:y∈w):F y=Â:=by
 cases x with
 |part p i j=>
  rw[Yf]at hw;split at hw;cases YO0.mp hw;cases hy;let⟨r,hr,Z⟩:=YPR.mp hw;cases YO0.mp hy;show(YPg.mp hr).2
 |beg r d i j=>
  cases d with
  |zero=>
   rw[Yf]at hw;cases YO0.mp hw;cases hy
  |succ d=>
   rw[Yf]at hw;let⟨k,hk,Z⟩:=YPR.mp hw;let⟨h1,h2⟩:=YPg.mp hk;unfold XI at h1;let h3:=(YPg.mp h1).2;rcases YO9.mp hy with rfl|hy
   show h3;cases YO0.mp hy;show h2
structure ZF(g:YS)(n:Nat)(F:Nd->Bool)(top:Option Nd)(DS:List Nd):Prop where
 nd:DS.Nodup
 sub:∀x∈DS,F x=Â
 tp:∀t,top=À t->t∈DS
 no:top=Á->DS=[]
 cl:∀x∈DS,∀w∈Yf g n F x,∀y∈w,y∈DS
 why:∀x∈DS,∃t,top=À t/\vn g n F t x
@[ext]def dX(DS:ac Nd):Nd->Bool:=λx=>decide (x∈DS)
def YG1{top:ag Nd}(h:ZF g n F top DS)(S:x∈DS):Yf g n (dX DS) x=Yf g n F x:=by
 let cl:=h.cl x S;cases x with
 |part p i j=>
  simp only[Yf]at cl ⊢;split;rfl;rename_i hq;rw[if_neg hq]at cl;congr 1;show List.filter_congr λr hr=>?_;by_cases hf:F (.beg r (ZH g r) i j)=Â;rw[hf];show dA<|cl _ (YPR.mpr ⟨r,YPg.mpr ⟨hr,hf⟩,Z⟩) _ É;rw[Bool.not_eq_true]at hf;rw[hf];show eI λz=>by rw[h.sub _ z]at hf;cases hf
 |beg r d i j=>
  cases d with
  |zero=>rfl
  |succ d=>
   simp only[Yf]at cl ⊢;congr 1;unfold XI at cl ⊢;rw[List.filter_filter,List.filter_filter];rw[List.filter_filter]at cl;show List.filter_congr λk hk=>?_;by_cases hf:(F (.part (JJ g r d) k j)&&F (.beg r d i k))=Â;rw[hf];let c:=cl _<|YPR.mpr ⟨k,YPg.mpr ⟨hk,hf⟩,Z⟩;rw[Ó];show⟨dA<|c _<|Ç _ É,dA<|c _ É⟩;rw[Bool.not_eq_true]at hf;rw[hf];rw[Bool.and_eq_false_iff]at hf ⊢;rcases hf with hf|hf
   show .inl (eI λz=>by rw[h.sub _ z]at hf;cases hf);show .inr (eI λz=>by rw[h.sub _ z]at hf;cases hf)
@[ext]def k3(r d i:Nat):ac db:=[.inl (r:Int),.inl (d:Int),.inl (i:Int)]
def yi(h:k3 r d i=k3 r' d' i'):r=r'/\d=d'/\i=i':=by
 simp only[k3,List.cons.injEq,Sum.inl.injEq,Int.ofNat_inj,and_true]at h;show h
@[ext]def JK(kvs:ac<|ac db×V)(DS:ac Nd):Prop:=kvs.map (·.1)=DS.map Ye
def Cs{κ:Type}[DecidableEq κ]{kvs:ac (κ×V)}{k:κ}:(Yj kvs k).isSome=Â<->k∈kvs.map (·.1):=by
 induction kvs with
 |nil=>show⟨nofun,nofun⟩
 |cons q r ih=>
  let⟨a,b⟩:=q;by_cases e:a=k;rw[Zh e];show⟨λ_=>by rw[<-e];show É,λ_=>rfl⟩;rw[ZZ e,ih];show⟨Ç _,λz=>(YO9.mp z).elim (λz=>absurd z.symm e) id⟩
def JK.val(h:JK kvs DS)(x:Nd):(Yj kvs<|Ye x).isSome=dX DS x:=by
 rw[ð,Cs,h];unfold dX;rw[fE];show⟨λz=>by let⟨y,hy,e⟩:=YPR.mp z;rw[<-J8 e];show hy,λz=>YPR.mpr ⟨x,z,Z⟩⟩
def JK.strange(h:JK kvs DS)(hk:∀x∈DS,k≠Ye x):(Yj kvs k).isSome=Ã:=by
 rw[Bool.eq_false_iff];intro z;let z:=Cs.mp z;rw[h]at z;let⟨y,hy,e⟩:=YPR.mp z;show hk y hy e.symm
def JK.hs(hs:Hs):JK (fQ hs)<|hs.map (·.1):=by
 unfold JK fQ;rw[é,é];rfl
def JK.len(h:JK kvs DS):kvs.length=DS.length:=by
 have:=fT List.length h;rw[Ä,Ä]at this;show this
def JK.put{kvs:ac (ac db×V)}{DS:ac Nd}(h:JK kvs DS){x:Nd}(S:x∉DS)(v:V):JK (Y3 kvs (Ye x) v)<|DS++[x]:=by
 let hn:Yj kvs (Ye x)=Á:=by
  have:=h.val x;unfold dX at this;rw[eI S]at this;cases e:Yj kvs (Ye x) with
  |none=>rfl
  |some v=>rw[e]at this;cases this
 rw[Ī _ hn];unfold JK at h ⊢;rw[Î,Î,h];rfl
@[ext]def qB(H:Hp)(a:ai)(g:YS):Prop:=∃kvs,H a=À (.dK kvs)/\∀p:am,(YM g p=[]/\Yj kvs (.inr p)=Á)\/∃c,Yj kvs (.inr p)=À (.ref c)/\H c=À (.lst<|(YM g p).map nV)
@[ext]def YEs(H:Hp)(a:ai)(DS:ac Nd):Prop:=∃o kvs,H a=À (.frz o<|.dT kvs)/\JK kvs DS
@[ext]def tF(H:Hp)(a:ai)(n:Nat)(DS:ac Nd):Prop:=∃o kvs,H a=À (.frz o<|.dT kvs)/\∀r d i:Nat,(XI (dX DS) n r d i=[]/\Yj kvs (k3 r d i)=Á)\/∃c,Yj kvs (k3 r d i)=À (.ref c)/\H c=À (.lst<|(XI (dX DS) n r d i).map nV)
@[ext]def pf(H:Hp)(v:V)(top:ag Nd):Prop:=(top=Á/\v=.non)\/∃x t,top=À x/\v=.ref t/\H t=À (.tup<|(Ye x).map kV)
def qB.same(h:qB H a g)(s:YG H H'):qB H' a g:=by
 let⟨kvs,e,f⟩:=h;show⟨kvs,s _ _ e,λp=>(f p).imp id λ⟨c,e1,e2⟩=>⟨c,e1,s _ _ e2⟩⟩
def YEs.same(h:YEs H a DS)(s:YG H H'):YEs H' a DS:=by
 let⟨o,kvs,e,f⟩:=h;show⟨o,kvs,s _ _ e,f⟩
def tF.same(h:tF H a n DS)(s:YG H H'):tF H' a n DS:=by
 let⟨o,kvs,e,f⟩:=h;show⟨o,kvs,s _ _ e,λr d i=>(f r d i).imp id λ⟨c,e1,e2⟩=>⟨c,e1,s _ _ e2⟩⟩
def pf.same{top:ag Nd}(h:pf H v top)(s:YG H H'):pf H' v top:=
 h.imp id λ⟨x,t,e1,e2,e3⟩=>⟨x,t,e1,e2,s _ _ e3⟩
structure XV(C:Addr)(H:Hp)(x:Addr)(g:YS)(z:Str)(DS:List Nd)(top:Option Nd):Prop where
 ex:∃(B l an af ae:Addr) (rv:V) (xs:List V),H x=À (.ins C B [(ar,.ref l),(bp,.str z),(bi,.ref an),(bX,rv),(bv,.ref af),(bS,.ref ae)])/\H l=À (.lst xs)/\Ya H xs (g.map Za)/\qB H an g/\pf H rv top/\YEs H af DS/\tF H ae z.cps.size DS
 gr:Y4 g=Â
 tx:Zu z=Â
 lg:∀x∈DS,im g z.cps.toList x
 be:∀r d i j,Nd.beg r (d+1) i j∈DS->∃k,Nd.beg r d i k∈DS
def XV.same{top:ag Nd}(h:XV C H x g z DS top)(s:YG H H'):XV C H' x g z DS top:=by
 let⟨B,l,an,af,ae,rv,xs,e1,e2,e3,e4,e5,e6,e7⟩:=h.ex;show⟨⟨B,l,an,af,ae,rv,xs,s _ _ e1,s _ _ e2,e3.same s,e4.same s,e5.same s,e6.same s,e7.same s⟩,h.gr,h.tx,h.lg,h.be⟩
@[ext]def Xj(H:Hp)(bs:ac ai)(ws:ac<|ac Nd):Prop:=bs.length=ws.length/\∀(i:Nat) (b:ai) (w:ac Nd),bs[i]?=À b->ws[i]?=À w->∃ts:ac ai,H b=À (.tup<|ts.map V.ref)/\ZR H ts w
@[ext]def zI(H:Hp)(a:ai)(ws:ac<|ac Nd):Prop:=∃bs:ac ai,H a=À (.lst<|bs.map V.ref)/\Xj H bs ws
def Xj.nil:Xj H [] []:=⟨Z,λi b w e=>nomatch e⟩
def Xj.keep(h:Xj H bs ws)(k:∀t ys,H t=À (.tup ys)->H' t=À (.tup ys)):Xj H' bs ws:=
 ⟨h.1,λi b w e1 e2=>let ⟨ts,z1,z2⟩:=h.2 i b w e1 e2;⟨ts,k _ _ z1,z2.keep k⟩⟩
def Xj.snoc(h:Xj H bs ws)(hb:H b=À (.tup<|ts.map V.ref))(hw:ZR H ts w):Xj H (bs++[b])<|ws++[w]:=by
 show⟨by rw[È,È,h.1];rfl,λi b' w' e1 e2=>?_⟩;by_cases hi:i<bs.length;rw[ä hi]at e1;rw[ä (by rw[<-h.1];show hi)]at e2;show h.2 i b' w' e1 e2;rw[à (by lia)]at e1;rw[à (by rw[<-h.1];lia),<-h.1]at e2;let hz:i-bs.length=0:=by
  cases hh:i-bs.length with
  |zero=>rfl
  |succ j=>rw[hh]at e1;simp at e1
 rw[hz]at e1 e2;cases e1;cases e2;show⟨ts,hb,hw⟩
@[ext]def rV(r d i:Nat):Nd->ag Nat
 |.beg r' d' i' k=>if r'=r/\d'=d/\i'=i then À k else Á
 |.part _ _ _=>Á
@[ext]def lT(l:ac Nd)(r d i:Nat):ac Nat:=l.filterMap<|rV r d i
def YDK:rV r d i x=À k<->x=.beg r d i k:=by
 cases x with
 |part p a b=>show⟨nofun,nofun⟩
 |beg r' d' i' k'=>
  simp only[rV];split;rename_i h;let⟨Z,Z,Z⟩:=h;show⟨λh=>by cases h;rfl,λh=>by cases h;rfl⟩;rename_i h;show⟨nofun,λe=>by cases e;show absurd ⟨Z,Z,Z⟩ h⟩
def YCp:k∈lT l r d i<->Nd.beg r d i k∈l:=by
 unfold lT;rw[YQc];show⟨λ⟨x,S,e⟩=>by rw[<-YDK.mp e];show S,λh=>⟨_,h,YDK.mpr Z⟩⟩
def YDL(h:l.Nodup)(r d i:Nat):(lT l r d i).Nodup:=by
 unfold lT
 induction l with
 |nil=>show å
 |cons x l ih=>
  let hn:=YPN.mp h;rw[ď];cases e:rV r d i x with
  |none=>show ih hn.2
  |some k=>
   show YPN.mpr ⟨λhm=>?_,ih hn.2⟩;have:=(YCp (l:=l)).mp hm;rw[<-YDK.mp e]at this;show hn.1 this
def YLc:∀{l m:ac Nat},l.Pairwise (·<·)->m.Pairwise (·<·)->(∀x,x∈l<->x∈m)->l=m
 |[],[],_,_,_=>rfl
 |[],y::m,_,_,h=>absurd ((h y).mpr É) nofun
 |x::l,[],_,_,h=>absurd ((h x).mp É) nofun
 |x::l,y::m,h1,h2,h=>by
  let p1:=YQq.mp h1;let p2:=YQq.mp h2;let e:x=y:=by
   rcases YO9.mp ((h x).mp É) with e|e
   show e;have:=p2.1 x e;rcases YO9.mp ((h y).mpr É) with e'|e'
   show e'.symm;have:=p1.1 y e';lia
  subst e;congr 1;show YLc p1.2 p2.2 λz=>⟨λhz=>?_,λhz=>?_⟩;rcases YO9.mp ((h z).mp<|Ç _ hz) with e|e
  have:=p1.1 z hz;lia;show e;rcases YO9.mp ((h z).mpr<|Ç _ hz) with e|e
  have:=p2.1 z hz;lia;show e
def ma{l:ac Nat}(h:l.Pairwise (·<=·))(hn:l.Nodup):l.Pairwise (·<·):=by
 have:l.Pairwise λa b=>a<=b/\a≠b:=List.pairwise_and_iff.mpr ⟨h,hn⟩;show this.imp λ⟨h1,h2⟩=>by lia
def YKW(n:Nat)(p:Nat->Bool):((List.range n).filter p).Pairwise (·<·):=List.Pairwise.filter _ List.pairwise_lt_range
def YEK{DS:ac Nd}{n r d i:Nat}(hb:∀k,Nd.beg r d i k∈DS->k<=n)(hn:DS.Nodup){l:ac Nat}(hp:l.Perm<|lT DS r d i)(hs:l.Pairwise (·<=·)):l=XI (dX DS) n r d i:=by
 show YLc (ma hs<|hp.nodup_iff.mpr<|YDL hn r d i) (YKW _ _) λk=>?_;rw[hp.mem_iff,YCp,XI,YPg,YPY];unfold dX;rw[fE];show⟨λh=>⟨by have:=hb k h;lia,h⟩,λh=>h.2⟩
structure kS{κ τ:Type}[DecidableEq κ](mk:List (κ×V)->HO)(ky:τ->κ)(H0 H:Hp)(d:Addr)(own:Addr->Option τ)(E:τ->List Nat)(N:Nat):Prop where
 sm:YG H0 H
 h:∃kvs,H d=À (mk kvs)/\kvs.length<=N/\(∀t,(Yj kvs (ky t)=Á/\E t=[])\/∃a,Yj kvs (ky t)=À (.ref a)/\own a=À t/\H a=À (.lst<|(E t).map nV))/\∀k v,Yj kvs k=À v->∃t,k=ky t
 on:∀a t,own a=À t->H0 a=Á/\∃xs,H a=À (.lst xs)
 nd:H0 d=Á
 pl:∀b o,H b=À o->b=d\/Yx o=Â
 le:∀t,(E t).length<=N
section
variable {κ τ:Type}[DecidableEq κ][DecidableEq τ]{mk:ac (κ×V)->HO}{ky:τ->κ}{H0 H H':Hp}{d:ai}{own:ai->ag τ}{E:τ->ac Nat}{N:Nat}
def kS.same(g:kS mk ky H0 H d own E N)(s:YG H H')(hp:YU H H'):kS mk ky H0 H' d own E N:=by
 let⟨kvs,e1,e2,e3,e4⟩:=g.h;show⟨g.sm.trans s,⟨kvs,s _ _ e1,e2,λt=>(e3 t).imp id λ⟨a,z1,z2,z3⟩=>⟨a,z1,z2,s _ _ z3⟩,e4⟩,λa t e=>let ⟨z1,xs,z2⟩:=g.on a t e;⟨z1,xs,s _ _ z2⟩,g.nd,λb o e=>(hp b o e).elim (g.pl b o) .inr,g.le⟩
def kS.more(g:kS mk ky H0 H d own E N)(hm:∀kvs xs,mk kvs≠.lst xs){t:τ}{a:ai}(ha:own a=À t)(hv:∀kvs,H d=À (mk kvs)->Yj kvs (ky t)=À (.ref a))(k:Nat):kS mk ky H0 (upd H a<|.lst<|(E t).map nV++[nV k]) d own (λt'=>if t'=t then E t++[k] else E t')<|N+1:=by
 let⟨kvs,e1,e2,e3,e4⟩:=g.h;let⟨na,zf,qu⟩:=g.on a t ha;let hda:d≠a:=Yi e1 qu<|hm _ _;show⟨g.sm.put na,⟨kvs,by rw[YB hda];show e1,by lia,λt'=>?_,e4⟩,λc t' e=>?_,g.nd,λb o e=>(Yp Z b o e).elim (g.pl b o) .inr,λt'=>?_⟩;by_cases ht:t'=t;subst ht;rw[if_pos Z];show .inr ⟨a,hv kvs e1,ha,?_⟩;rw[YA,Î];rfl;rw[if_neg ht];show(e3 t').imp id λ⟨c,z1,z2,z3⟩=>⟨c,z1,z2,?_⟩;rw[YB (λz=>by rw[z,ha]at z2;cases z2;show ht Z)];show z3;let⟨z1,xs,z2⟩:=g.on c t' e;by_cases hc:c=a;subst hc;show⟨z1,_,YA⟩;show⟨z1,xs,by rw[YB hc];show z2⟩;by_cases ht:t'=t;rw[if_pos ht,È];have:=g.le t;show Nat.succ_le_succ this;rw[if_neg ht];have:=g.le t';lia
def kS.fresh(g:kS mk ky H0 H d own E N)(hm:∀kvs xs,mk kvs≠.lst xs)(hj:∀a b,mk a=mk b->a=b)(hi:∀t t',ky t=ky t'->t=t'){t:τ}{e:ai}(he:H e=À (.lst []))(h0:H0 e=Á)(ho:own e=Á){kvs:ac (κ×V)}(hd:H d=À (mk kvs))(hv:Yj kvs (ky t)=Á):kS mk ky H0 (upd H d<|mk<|Y3 kvs (ky t)<|.ref e) d (λc=>if c=e then À t else own c) E<|N+1:=by
 let⟨jX,e1,e2,e3,e4⟩:=g.h;let ek:kvs=jX:=hj _ _<|Û<|hd.symm.trans e1;subst ek;let hE:E t=[]:=by
  rcases e3 t with z|⟨a,z1,z2,z3⟩
  show z.2;rw[hv]at z1;cases z1
 let kl:∀c ys,H c=À (.lst ys)->upd H d (mk<|Y3 kvs (ky t)<|.ref e) c=À (.lst ys):=λc ys z=>by rw[YB<|Yi z hd<|λq=>hm _ _ q.symm];show z
 show⟨g.sm.put g.nd,⟨_,YA,by have:=Zt kvs (ky t)<|.ref e;omega,λt'=>?_,λk v z=>?_⟩,λc t' z=>?_,g.nd,λb o z=>(by by_cases hb:b=d;show .inl hb;rw[YB hb]at z;show g.pl b o z),λt'=>by have:=g.le t';omega⟩;rw[Z0];by_cases ht:t'=t;subst ht;rw[if_pos Z,hE];show .inr ⟨e,Z,if_pos Z,kl _ _ he⟩;rw[if_neg<|λz=>ht<|hi _ _ z];show(e3 t').imp id λ⟨c,z1,z2,z3⟩=>⟨c,z1,by rw[if_neg (λy=>by rw[y,ho]at z2;cases z2)];show z2,kl _ _ z3⟩;rw[Z0]at z;split at z;rename_i hk;show⟨t,hk⟩;show e4 k v z;by_cases hc:c=e;subst hc;show⟨h0,_,kl _ _ he⟩;rw[if_neg hc]at z;let⟨z1,xs,z2⟩:=g.on c t' z;show⟨z1,xs,kl _ _ z2⟩
end
@[ext]def XW(g:YS)(m:Nat)(p:am):ac Nat:=(List.range m).filter λk=>decide ((g[k]?.map (·.1))=À p)
def YEL(h:g[m]?=À ru)(p:am):XW g (m+1) p=if p=ru.1 then XW g m ru.1++[m] else XW g m p:=by
 unfold XW;rw[List.range_succ,ė,ĉ,h];by_cases e:p=ru.1;subst e;rw[if_pos Z];congr 1;change(if decide (À ru.1=À ru.1)=Â then _ else _)=_;rw[dA Z];rfl;rw[if_neg e];have:decide (Option.map (λx:fU=>x.1) (À ru)=À p)=Ã:=eI λz=>e (Û z).symm;rw[this];simp
def YDM{κ:Type}[DecidableEq κ]{kvs:ac (κ×V)}{k:κ}{u:V}(h:Yj kvs k=À u)(v:V):(Y3 kvs k v).map (·.1)=kvs.map (·.1):=by
 unfold Y3;let hs:(Yj kvs k).isSome=Â:=by rw[h];rfl
 rw[if_pos (by rw[BA];show hs),é];show ý λx _=>?_;change(if x.1=k then (x.1,v) else x).1=x.1;split <;> rfl
def YOM(hp:ns.Perm<|DZ.map λk:Nat=>(k:Int))(hs:ns.Pairwise (·<=·)):∃L':ac Nat,ns=L'.map (λk:Nat=>(k:Int))/\L'.Perm DZ/\L'.Pairwise (·<=·):=by
 let hn:∀x∈ns,((x.toNat:Nat):Int)=x:=λx S=>by
  let⟨k,_,Z⟩:=YPR.mp<|hp.mem_iff.mp S;rfl
 show⟨ns.map Int.toNat,?_,?_,?_⟩;rw[é];show(List.map_id ns).symm.trans<|ý λx S=>(hn x S).symm;have:=hp.map Int.toNat;rw[é]at this;let e:DZ.map (Int.toNat∘λk:Nat=>(k:Int))=DZ:=(ý λx _=>rfl).trans<|List.map_id DZ;rw[e]at this;show this;show List.pairwise_map.mpr (hs.imp λh=>by lia)
def YON(hb:∀k,Nd.beg r d i k∈DS->k<=n)(hn:DS.Nodup):(lT DS r d i).length<=n+1:=by
 let h1:((lT DS r d i).map λk=>Nd.beg 0 0 0 k).Nodup:=List.pairwise_map.mpr<|(YDL hn r d i).imp λh e=>h (by cases e;rfl);have:=ZM (m:=(List.range<|n+1).map λk=>Nd.beg 0 0 0 k) h1 λx S=>by
  let⟨k,hk,Z⟩:=YPR.mp S;show YPR.mpr ⟨k,YPY.mpr<|Nat.lt_succ_of_le<|hb k<|YCp.mp hk,Z⟩
 rw[Ä,Ä,è]at this;show this
@[ext]def gy(t:Nat×Nat×Nat):ac db:=k3 t.1 t.2.1 t.2.2
def Α(t t':Nat×Nat×Nat)(h:gy t=gy t'):t=t':=by
 let⟨h1,h2,h3⟩:=yi h;let⟨a,b,c⟩:=t;let⟨a',b',c'⟩:=t';cases h1;cases h2;cases h3;rfl
@[ext]def iP(l:ac Nd)(t:Nat×Nat×Nat):ac Nat:=lT l t.1 t.2.1 t.2.2
def YKX{l:ac Nd}{m:Nat}{p:am}{i j:Nat}(h:l[m]?=À (.part p i j)):iP (l.take<|m+1)=iP (l.take m):=funext λt=>by
 unfold iP lT;rw[â,h,List.filterMap_append];change _++[]=_;rw[ß]
def YMq{l:ac Nd}{m r d i k:Nat}(h:l[m]?=À (.beg r d i k)):(λt'=>if t'=(r,d,i) then iP (l.take m) (r,d,i)++[k] else iP (l.take m) t')=iP (l.take<|m+1):=funext λt=>by
 unfold iP lT;rw[â,h,List.filterMap_append];change _=_++((À<|Nd.beg r d i k).toList.filterMap<|rV t.1 t.2.1 t.2.2);change _=_++([Nd.beg r d i k].filterMap<|rV t.1 t.2.1 t.2.2);rw[ď];let⟨a,b,c⟩:=t;by_cases e:(a,b,c)=(r,d,i);cases e;rw[if_pos Z,YDK.mpr Z];rfl;rw[if_neg e];have:rV a b c (.beg r d i k)=Á:=by
  simp only[rV];show if_neg λz=>e (by let⟨z1,z2,z3⟩:=z;rw[z1,z2,z3])
 rw[this];show(ß _).symm
def ZO:r∈YM g p<->∃ru,g[r]?=À ru/\ru.1=p:=by
 unfold YM;rw[YPg,YPY,fE];constructor;rintro⟨h1,h2⟩;let⟨ru,e1,e2⟩:=YPk.mp h2;show⟨ru,e1,e2⟩;rintro⟨ru,e1,e2⟩;show⟨(YOx.mp e1).1,by rw[e1,<-e2];rfl⟩
def YKY(h:p∈g.map (·.1)):YM g p≠[]:=λz=>by
 let⟨ru,gF,e⟩:=YPR.mp h;let⟨r,hr⟩:=ě gF;have:=ZO.mpr ⟨ru,hr,e⟩;rw[z]at this;cases this
def YG2(c:Nat):eW (("'":am)++⟨#[c]⟩)=Â:=by
 rw[AY,ţ];rfl
def YOO(h:im g cs<|.part p i j)(hq:eW p=Ã):p∈g.map (·.1):=by
 rcases h.1 with h|⟨c,_,e,_⟩
 show h;rw[e]at hq;unfold Zp at hq;rw[YG2]at hq;cases hq
def vx(h:g[r]?=À ru):ZH g r=ru.2.1.length:=by unfold ZH;rw[h];rfl
def YG3{α:Type}{l:ac α}{m:Nat}{a:α}(h:l[m]?=À a)(p:α->Bool)(f:α->ac Nd):((l.take<|m+1).filter p).map f=((l.take m).filter p).map f++(if p a=Â then [f a] else []):=by
 rw[â,h,ė,Î];congr 1;change([a].filter p).map f=_;rw[ĉ];split <;> rfl
@[ext]def lS(g:YS)(n:Nat)(DS:ac Nd):ag Nd:=match g with
 |[]=>Á
 |r::_=>if dX DS (.part r.1 0 n)=Â then À (.part r.1 0 n) else Á
structure iS(H0 H:Hp)(d wl:Addr)(DS wt:List Nd):Prop where
 sm:YG H0 H
 h:∃kvs,H d=À (.dT kvs)/\JK kvs DS
 w:∃ts,H wl=À (.lst<|ts.map V.ref)/\ZR H ts wt
 nd:H0 d=Á
 nw:H0 wl=Á
 pl:∀b o,H b=À o->b=d\/Yx o=Â
def iS.same{H0 H H':Hp}{d wl:ai}{DS wt:ac Nd}(f:iS H0 H d wl DS wt)(s:YG H H')(n:YU H H'):iS H0 H' d wl DS wt:=by
 let⟨kvs,e1,e2⟩:=f.h;let⟨ts,e3,e4⟩:=f.w;show⟨f.sm.trans s,⟨kvs,s _ _ e1,e2⟩,⟨ts,s _ _ e3,e4.keep λ_ _=>s _ _⟩,f.nd,f.nw,λb o e=>(n b o e).elim (f.pl b o) .inr⟩
def iS.put{H0 H:Hp}{d wl:ai}{DS wt:ac Nd}(f:iS H0 H d wl DS wt){kvs:ac (ac db×V)}(hd:H d=À (.dT kvs)){y:Nd}(hy:y∉DS)(v:V):iS H0 (upd H d<|.dT<|Y3 kvs (Ye y) v) d wl (DS++[y]) wt:=by
 let⟨jX,e1,e2⟩:=f.h;let⟨ts,e3,e4⟩:=f.w;rw[hd]at e1;cases e1;show⟨f.sm.put f.nd,⟨_,YA,e2.put hy v⟩,⟨ts,by rw[YB<|Yi e3 hd nofun];show e3,e4.keep λt ys e=>by rw[YB<|Yi e hd nofun];show e⟩,f.nd,f.nw,λb o e=>(by by_cases hb:b=d;show .inl hb;rw[YB hb]at e;show f.pl b o e)⟩
def iS.wait{H0 H:Hp}{d wl:ai}{DS wt wt':ac Nd}(f:iS H0 H d wl DS wt){ts':ac ai}(hn:ZR H ts' wt'):iS H0 (upd H wl<|.lst<|ts'.map V.ref) d wl DS wt':=by
 let⟨kvs,e1,e2⟩:=f.h;let⟨ts,e3,e4⟩:=f.w;show⟨f.sm.put f.nw,⟨kvs,by rw[YB<|Yi e1 e3 nofun];show e1,e2⟩,⟨ts',YA,hn.keep λt ys e=>by rw[YB<|Yi e e3 nofun];show e⟩,f.nd,f.nw,λb o e=>(Yp Z b o e).elim (f.pl b o) .inr⟩
structure iA(g:YS)(n:Nat)(F:Nd->Bool)(top:Option Nd)(DS wt:List Nd):Prop where
 nd:DS.Nodup
 sub:∀x∈DS,F x=Â
 tp:∀t,top=À t->t∈DS
 no:top=Á->DS=[]
 wi:∀x∈wt,x∈DS
 cl:∀x∈DS,x∈wt\/∀w∈Yf g n F x,∀y∈w,y∈DS
 why:∀x∈DS,∃t,top=À t/\vn g n F t x
 wn:wt.Nodup
def iA.fin_{top:ag Nd}(h:iA g n F top DS []):ZF g n F top DS:=
 ⟨h.nd,h.sub,h.tp,h.no,λx S=>(h.cl x S).elim nofun id,h.why⟩
structure jI(g:YS)(n:Nat)(F:Nd->Bool)(top:Option Nd)(DS new:List Nd):Prop where
 nd:(DS++new).Nodup
 why:∀x∈new,F x=Â/\∃t,top=À t/\vn g n F t x
def jI.snoc{top:ag Nd}(h:jI g n F top DS new)(hy:y∉DS++new)(hf:F y=Â/\∃t,top=À t/\vn g n F t y):jI g n F top DS<|new++[y]:=by
 show⟨?_,λx S=>?_⟩;rw[<-Ý];show YPo.mpr ⟨h.nd,YPN.mpr ⟨nofun,å⟩,λa ha b hb e=>hy (by rw[<-YO0.mp hb,<-e];show ha)⟩;rcases YPD.mp S with S|S
 show h.why x S;cases YO0.mp S;show hf
def iA.next{g:YS}{n:Nat}{F:Nd->Bool}{top:ag Nd}{DS wt new:ac Nd}{u:Nd}(h:iA g n F top DS<|wt++[u])(hn:jI g n F top DS new)(hc:∀w∈Yf g n F u,∀y∈w,y∈DS++new):iA g n F top (DS++new)<|wt++new:=by
 show⟨hn.nd,λx S=>?_,λt ht=>Õ _<|h.tp t ht,λht=>?_,λx S=>?_,λx S=>?_,λx S=>?_,?_⟩;show(YPD.mp S).elim (h.sub x) λz=>(hn.why x z).1;let h0:=h.no ht;cases new with
 |nil=>rw[h0];rfl
 |cons a l=>
  let⟨_,t,e,_⟩:=hn.why a É;rw[ht]at e;cases e
 rcases YPD.mp S with S|S
 show Õ _<|h.wi x<|Õ _ S;show Ò _ S;rcases YPD.mp S with S|S
 rcases h.cl x S with z|z
 rcases YPD.mp z with z|z
 show .inl<|Õ _ z;cases YO0.mp z;show .inr hc;show .inr λw hw y hy=>Õ _<|z w hw y hy;show .inl<|Ò _ S;show(YPD.mp S).elim (h.why x) λz=>(hn.why x z).2;let h1:=(YPo.mp h.wn).1;let h2:=YPo.mp hn.nd;show YPo.mpr ⟨h1,h2.2.1,λa ha b hb=>h2.2.2 a (h.wi a<|Õ _ ha) b hb⟩
@[ext]def Y1(H H':Hp):Prop:=∀b o,(∀C B fs,o≠.ins C B fs)->H b=À o->H' b=À o
def Y1.of(s:YG H H'):Y1 H H':=λb o _ e=>s b o e
def Y1.trans(a:Y1 H H1)(b:Y1 H1 H2):Y1 H H2:=λc o n e=>b c o n<|a c o n e
def Y1.set{fs:ac (am×V)}(h:H x=À (.ins C B fs)):Y1 H<|L2.upd H x o:=λb u n e=>by
 rw[YB (λz=>by rw[z,h]at e;cases e;show n _ _ _ Z)];show e
def Y1.lst(s:Y1 H H')(h:H a=À (.lst xs)):H' a=À (.lst xs):=s _ _ (λ_ _ _ y=>nomatch y) h
def Y1.frz(s:Y1 H H')(h:H a=À (.frz o u)):H' a=À (.frz o u):=s _ _ (λ_ _ _ y=>nomatch y) h
mutual
theorem Ξ(e:Y1 H H'):∀{v:V}{d:D},cx H v d->cx H' v d
 |_,.non,h=>by unfold cx at h ⊢;show h
 |_,.bl _,h=>by unfold cx at h ⊢;show h
 |_,.int _,h=>by unfold cx at h ⊢;show h
 |_,.str _,h=>by unfold cx at h ⊢;show h
 |_,.lst ds,h=>by
  unfold cx at h ⊢;let⟨a,xs,e1,e2,e3⟩:=h;show⟨a,xs,e1,?_,iN e e3⟩;rcases e2 with z|⟨o,z⟩
  show .inl<|e _ _ (λ_ _ _ y=>nomatch y) z;show .inr ⟨o,e _ _ (λ_ _ _ y=>nomatch y) z⟩
 |_,.tup ds,h=>by
  unfold cx at h ⊢;let⟨a,xs,e1,e2,e3⟩:=h;show⟨a,xs,e1,e _ _ (λ_ _ _ y=>nomatch y) e2,iN e e3⟩
 |_,.oth,h=>by
  unfold cx at h ⊢;let⟨a,kvs,e1,e2⟩:=h;show⟨a,kvs,e1,e _ _ (λ_ _ _ y=>nomatch y) e2⟩
theorem iN(e:Y1 H H'):∀{vs:ac V}{ds:ac D},Ya H vs ds->Ya H' vs ds
 |[],[],h=>h
 |[],_::_,h=>by unfold Ya at h;show h.elim
 |_::_,[],h=>by unfold Ya at h;show h.elim
 |v::vs,d::ds,h=>by
  unfold Ya at h ⊢;show⟨Ξ e h.1,iN e h.2⟩
end
def qB.sameI(h:qB H a g)(s:Y1 H H'):qB H' a g:=by
 let⟨kvs,e,f⟩:=h;show⟨kvs,s _ _ (λ_ _ _ y=>nomatch y) e,λp=>(f p).imp id λ⟨c,e1,e2⟩=>⟨c,e1,s _ _ (λ_ _ _ y=>nomatch y) e2⟩⟩
def tF.sameI(h:tF H a n DS)(s:Y1 H H'):tF H' a n DS:=by
 let⟨o,kvs,e,f⟩:=h;show⟨o,kvs,s _ _ (λ_ _ _ y=>nomatch y) e,λr d i=>(f r d i).imp id λ⟨c,e1,e2⟩=>⟨c,e1,s _ _ (λ_ _ _ y=>nomatch y) e2⟩⟩
def pf.sameI{top:ag Nd}(h:pf H v top)(s:Y1 H H'):pf H' v top:=
 h.imp id λ⟨x,t,e1,e2,e3⟩=>⟨x,t,e1,e2,s _ _ (λ_ _ _ y=>nomatch y) e3⟩
def YI0(st:J9 g cs hs):∀r d i j,Nd.beg r (d+1) i j∈hs.map (·.1)->∃k p,Nd.beg r d i k∈hs.map (·.1)/\Nd.part p k j∈hs.map (·.1)/\ZT g r d=À p:=λr d i j h=>by
 let⟨v,hv⟩:=AZ h;rcases st.why _ _ hv with ⟨e,_⟩|⟨d',k,p,a,b,e1,e2,e3,e4,_⟩
 cases e;cases e1;show⟨k,p,Ŕ e3,Ŕ e4,e2⟩
def CH(st:J9 g cs hs):∀x∈hs.map (·.1),im g cs x:=λx h=>by
 let⟨v,hv⟩:=AZ h;show st.leg _ _ hv
def oh{top:ag Nd}(st:J9 g cs hs)(wk:ZF g cs.length (dX<|hs.map (·.1)) top DS):∀r d i j,Nd.beg r (d+1) i j∈DS->∃k,Nd.beg r d i k∈DS:=λr d i j h=>by
 let h1:Nd.beg r (d+1) i j∈hs.map (·.1):=fq<|wk.sub _ h;let⟨k,p,h2,h3,hp⟩:=YI0 st r d i j h1;let wA:JJ g r d=p:=by unfold JJ;rw[hp];rfl
 show⟨k,wk.cl _ h [.beg r d i k,.part p k j] ?_ _ É⟩;rw[Yf];show YPR.mpr ⟨k,YPg.mpr ⟨YPg.mpr ⟨YPY.mpr ?_,dA h2⟩,?_⟩,by rw[wA]⟩;have:=(CH st _ h2).2.2;lia;rw[wA];show dA h3
def YG4(st:J9 g cs hs)(hg:Y4 g=Â)(hc:cs.length<=60):(hs.map (·.1)).length<=2100000:=
 Ú (ZM st.nd λx S=>YLU (six hg)<|CH st x S) (YIr (Bz hg) hc)
end FR
namespace L2
open PySem PySem.Spec PyProof.Rows
@[ext]def tFrz(t:TS):TS:=λD σ H=>t { D with nx:=λσ1 H1=>∃d kvs,H1 d=À (.dT kvs)/\∀o,D.nx σ1 (upd H1 d<|.frz o<|.dT kvs) } σ H
def xE{X:Cx}{st:Stmt}{t:TS}(h:PS X st t):PS X st<|tFrz t:=by
 intro O s σ H D I hw;show cy (h O s σ H _ I hw) λf s1 q=>?_;cases f with
 |next=>
  let⟨σ1,H1,I1,d,kvs,e,q⟩:=q;let⟨o,I2⟩:=I1.freezeT e;show⟨σ1,_,I2,q o⟩
 |brk=>show q
 |cont=>show q
 |ret u=>show q
end L2
namespace L2
open PySem PySem.Spec PyProof.Rows PySem.AutoSeq1
set_option maxRecDepth 8000 in
def YI1(l b:ai)(its cD:Array ah)(n n2:Nat)(dd:ag ai)(sl:Array<|ag ah)(hs0:¬(!its.isEmpty&&Builtin.List.listTooLong (its.size+cD.size))=Â)(hs1:its.size<=sizeLine)(hs2:its.size+cD.size<=sizeLine+1):
  Meets (Builtin.«list.extend» ⟨[.ref l,.ref b],[]⟩) (λ_ R s=>s.heap.get? l=À { cls:=.type "list",dict:=Á,data:=.seq its n,slots:=#[] }/\s.heap.get? b=À { cls:=.type "tuple",dict:=dd,data:=.seq cD n2,slots:=sl }/\R (.ok<|.ret Value.none) { s with heap:=s.heap.update l (Obj.mapSeq λx=>x++cD),toks:=s.toks }):=
 .of_wp λprog w A R s h=>by
  let⟨hp,g,d,tk,os⟩:=s;let⟨hl,hb,h⟩:=h;let f1:=idx_int;let f2:=AutoSeq1.sub_tuple_tuple;let f3:=AutoSeq1.sub_list_list;let f4:=AutoSeq1.sub_tuple_list;let f5:=AutoSeq1.sub_list_tuple;let hz:(its++cD).size<=sizeLine+1:=by rw[Array.size_append];show hs2
  wp_walk using (wpAny_updateSeq hl Z (hz:=hs1) (_hz':=hz)),wpAny_loadPart' hl,wpAny_loadPart' hb
  show⟨_,Z,h⟩
section
variable {X:Cx}
@[ext]def DE(K:W.Frag):V->ac V->Hp->VK->Prop:=λx vs H Q=>∃l b xs zs,x=.ref l/\vs=[.ref b]/\H l=À (.lst xs)/\cN K H b zs/\xs.length+zs.length<=sizeLine/\Q .non (upd H l<|.lst<|xs++zs)
def YKZ(K:W.Frag)(hK:X.K=K):B1 X "list.extend"<|DE K:=by
 subst hK;intro O s σ H x vs v us Q I rx rv h;let⟨l,b,xs,zs,Z,Z,hH,hB,hz,q⟩:=h;cases rx;let⟨u,Z,ru⟩:=rv.one;cases ru;let⟨z,its,n,r,hl,e⟩:=I.lstM hH;let⟨cD,r2,⟨o2,e2,c2,n2,d2⟩,z2⟩:=I.tuple hB;let hl2:cD.length=zs.length:=r2.length.symm;let⟨oc,od,odt,osl⟩:=o2;cases c2;cases d2;let hsz:its.toArray.size+cD.toArray.size<=sizeLine:=by rw[Ô,Ô];lia
 let jT:¬(!its.toArray.isEmpty&&Builtin.List.listTooLong (its.toArray.size+cD.toArray.size))=Â:=by
  rw[Χ hsz,Bool.and_false];show Ù
 show call_meets F.slot_list_extend ⟨_,e,Z⟩ F.entry_list_extend (F.args_list_extend_2 _ _) (YI1 l b its.toArray cD.toArray n n2 od osl jT (by rw[Ô];lia) (by lia)) ⟨e,e2,?_⟩;show⟨.non,_,I.lset (its':=its++cD) hH e (by simp) (r.append r2) ?_,Z,q⟩;rw[È];lia
end
section
variable {X:Cx}{O:ac (ai×Obj)}{σ:St}{H:Hp}{s:al}{d:ai}{xs:ac V}
end
end L2
namespace FR
open PySem L2
section
variable {α:Type}[DecidableEq α]
@[ext]def jU(ld:α->Bool)(p:ac α)(y:α):Prop:=∃A z C,p=A++z::C/\ld z=Â/\y∈z::C
@[ext]def ze(nb:α->ac α)(on:ac α)(ld:α->Bool)(left:ac α):ag α->ac (α×ac α)->Prop
 |_,[]=>True
 |c,q::r=>(∃s,nb q.1=q.2++s/\∀y∈s,c=À y\/(y∈on/\(ld q.1=Â\/(y∈left/\ld y=Ã))))/\ze nb on ld left (À q.1) r
@[ext]def jy(nb:α->ac α):ac α->Prop
 |x::q::r=>x∈nb q/\jy nb (q::r)
 |_=>True
structure Xo(nb:α->List α)(N r:List α):Prop where
 ne:r≠[]
 nd:r.Nodup
 sub:∀x∈r,x∈N
 ch:∀i x y,r[i]?=À x->r[i+1]?=À y->y∈nb x
 cl:∀x y,r[0]?=À x->r.getLast?=À y->x∈nb y
structure Wk(nb:α->List α)(N:List α)(st:List (α×List α))(ld:α->Bool)(left:List α)(met:Option (List α)):Prop where
 nd:(st.map (·.1)++left).Nodup
 sub:∀x∈st.map (·.1)++left,x∈N
 seen:ze nb (st.map (·.1)++left) ld left Á st
 ldi:∀x,ld x=Â->x∈st.map (·.1)++left
 why:∀x,ld x=Â->∃y∈nb x,ld y=Â\/jU ld (st.map (·.1)) y
 ord:∀A x DY,left=A++x::DY->ld x=Ã->∀y∈nb x,y∈A/\ld y=Ã
 lcl:∀x∈left,∀y∈nb x,y∈st.map (·.1)++left
 dn:jy nb (st.map (·.1))
 m0:met=Á->∀x,ld x=Ã
 m1:∀r,met=À r->Xo nb N r
def ze.mono(ho:∀y∈on,y∈on')(hl:∀y,ld y=Â->ld' y=Â)(hf:∀y∈left,y∈left'/\(ld y=Ã->ld' y=Ã)):∀{c:ag α}{st:ac (α×ac α)},ze nb on ld left c st->ze nb on' ld' left' c st
 |_,[],_=>trivial
 |c,q::r,h=>by
  let⟨⟨s,e,f⟩,t⟩:=h;show⟨⟨s,e,λy hy=>(f y hy).imp id λ⟨z1,z2⟩=>⟨ho y z1,z2.imp (hl _) λ⟨z3,z4⟩=>⟨(hf y z3).1,(hf y z3).2 z4⟩⟩⟩,ze.mono ho hl hf t⟩
def jU.mono(hl:∀y,ld y=Â->ld' y=Â)(h:jU ld p y):jU ld' p y:=
 let ⟨A,z,C,e1,e2,e3⟩:=h;⟨A,z,C,e1,hl _ e2,e3⟩
def Wk.start(ht:t∈N):Wk nb N [(t,nb t)] (λ_=>Ã) [] Á where
 nd:=YPN.mpr ⟨nofun,å⟩
 sub:=λx S=>by rw[YO0.mp S];show ht
 seen:=⟨⟨[],(ß _).symm,λy hy=>nomatch hy⟩,trivial⟩
 ldi:=λx h=>nomatch h
 why:=λx h=>nomatch h
 ord:=λA x DY h=>by cases A <;> cases h
 lcl:=λx h=>nomatch h
 dn:=trivial
 m0:=λ_ _=>rfl
 m1:=λr h=>nomatch h
def Wk.none_:Wk nb N [] (λ_=>Ã) [] Á where
 nd:=å
 sub:=λx S=>nomatch S
 seen:=trivial
 ldi:=λx h=>nomatch h
 why:=λx h=>nomatch h
 ord:=λA x DY h=>by cases A <;> cases h
 lcl:=λx h=>nomatch h
 dn:=trivial
 m0:=λ_ _=>rfl
 m1:=λr h=>nomatch h
variable {nb:α->ac α}{N:ac α}{r:ac (α×ac α)}{x y:α}{u:ac α}{ld:α->Bool}{left:ac α}{met:ag (ac α)}
def Wk.nb_mem(w:Wk nb N ((x,u++[y])::r) ld left met):y∈nb x:=by
 let⟨s,e,_⟩:=w.seen.1;rw[show nb x=(u++[y])++s from e];show Õ _<|Ò _ É
def Wk.seen1(w:Wk nb N ((x,u++[y])::r) ld left met)(ho:∀z∈x::r.map (·.1)++left,z∈on')(hl:∀z,ld z=Â->ld' z=Â)(hf:∀z∈left,z∈left'/\(ld z=Ã->ld' z=Ã))(hy:c=À y\/(y∈on'/\(ld' x=Â\/(y∈left'/\ld' y=Ã)))):ze nb on' ld' left' c<|(x,u)::r:=by
 let⟨⟨s,e,f⟩,t⟩:=w.seen.mono (on':=on') (ld':=ld') (left':=left') ho hl hf;show⟨⟨y::s,by rw[show nb x=(u++[y])++s from e,Ý];rfl,λz hz=>?_⟩,t⟩;rcases YO9.mp hz with rfl|hz
 show hy;show .inr<|(f z hz).elim nofun id
def Wk.down(w:Wk nb N ((x,u++[y])::r) ld left met)(hN:∀x∈N,∀y∈nb x,y∈N)(hy:y∉x::r.map (·.1)++left):Wk nb N ((y,nb y)::(x,u)::r) ld left met where
 nd:=YPN.mpr ⟨hy,w.nd⟩
 sub:=λz hz=>(YO9.mp hz).elim (λe=>by rw[e];show hN x (w.sub x É) _ w.nb_mem) (w.sub z)
 seen:=⟨⟨[],(ß _).symm,λy hy=>nomatch hy⟩,w.seen1 (λz=>Ç _) (λ_=>id) (λz hz=>⟨hz,id⟩)<|.inl rfl⟩
 ldi:=λz hz=>Ç _ (w.ldi z hz)
 why:=λz hz=>let ⟨v,h1,h2⟩:=w.why z hz;⟨v,h1,h2.imp id λ⟨A,k,C,e1,e2,e3⟩=>⟨y::A,k,C,by rw[List.cons_append,<-e1];rfl,e2,e3⟩⟩
 ord:=w.ord
 lcl:=λz hz v hv=>Ç _ (w.lcl z hz v hv)
 dn:=⟨w.nb_mem,w.dn⟩
 m0:=w.m0
 m1:=w.m1
def Wk.skip(w:Wk nb N ((x,u++[y])::r) ld left met)(hy:y∈left)(hl:ld y=Ã):Wk nb N ((x,u)::r) ld left met where
 nd:=w.nd
 sub:=w.sub
 seen:=w.seen1 (λz=>id) (λ_=>id) (λz hz=>⟨hz,id⟩) (.inr ⟨Ò _ hy,.inr ⟨hy,hl⟩⟩)
 ldi:=w.ldi
 why:=w.why
 ord:=w.ord
 lcl:=w.lcl
 dn:=w.dn
 m0:=w.m0
 m1:=w.m1
@[ext]def kB(ld:α->Bool)(x:α):α->Bool:=λz=>ld z || decide (z=x)
def xh(h:ld z=Â):kB ld x z=Â:=by unfold kB;rw[h];rfl
def CJ:kB ld x x=Â:=by unfold kB;rw[dA Z,Bool.or_true]
def YFf:kB ld x z=Â<->ld z=Â\/z=x:=by unfold kB;rw[Ć,fE]
def YHr(h:z≠x)(e:ld z=Ã):kB ld x z=Ã:=by unfold kB;rw[e,eI h];rfl
def Wk.apart(w:Wk nb N (q::r) ld left met)(hz:z∈left):z≠q.1:=λe=>(YPN.mp w.nd).1 (show q.1∈r.map (·.1)++left by rw[<-e];show Ò _ hz)
def Wk.meet(w:Wk nb N ((x,u++[y])::r) ld left met)(hy:y∈x::r.map (·.1)\/ld y=Â)(hm:cV≠Á)(hr:∀k,cV=À k->Xo nb N k):Wk nb N ((x,u)::r) (kB ld x) left cV where
 nd:=w.nd
 sub:=w.sub
 seen:=w.seen1 (λz=>id) (λ_=>xh) (λz hz=>⟨hz,YHr<|w.apart hz⟩) (.inr ⟨hy.elim (λh=>Õ _ h) λh=>w.ldi y h,.inl CJ⟩)
 ldi:=λz hz=>(YFf.mp hz).elim (w.ldi z) λe=>by rw[e];show É
 why:=λz hz=>by
  rcases YFf.mp hz with h|rfl
  let⟨v,h1,h2⟩:=w.why z h;show⟨v,h1,h2.imp xh λp=>p.mono λ_=>xh⟩;show⟨y,w.nb_mem,?_⟩;rcases hy with hy|hy
  show .inr ⟨[],z,_,Z,CJ,hy⟩;show .inl (xh hy)
 ord:=λA k DY e hk v hv=>by
  let hk':ld k=Ã:=by
   cases hh:ld k with
   |false=>rfl
   |true=>rw[xh hh]at hk;cases hk
  let⟨h1,h2⟩:=w.ord A k DY e hk' v hv;show⟨h1,YHr (w.apart (by rw[e];show Õ _ h1)) h2⟩
 lcl:=w.lcl
 dn:=w.dn
 m0:=λh=>absurd h hm
 m1:=hr
def Wk.up(w:Wk nb N ((x,[])::r) ld left met)(h0:ld x=Ã->ld'=ld)(h1:ld x=Â->∀q r',r=q::r'->ld'=kB ld q.1)(h2:ld x=Â->r=[]->ld'=ld):Wk nb N r ld' (left++[x]) met:=by
 let hold:∀z,ld z=Â->ld' z=Â:=λz hz=>by
  cases S:ld x with
  |false=>rw[h0 S];show hz
  |true=>cases r with
   |nil=>rw[h2 S Z];show hz
   |cons q r'=>rw[h1 S q r' Z];show xh hz
 let hnew:∀z,ld' z=Â->ld z=Â\/(ld x=Â/\∃q r',r=q::r'/\z=q.1):=λz hz=>by
  cases S:ld x with
  |false=>rw[h0 S]at hz;show .inl hz
  |true=>cases r with
   |nil=>rw[h2 S Z]at hz;show .inl hz
   |cons q r'=>rw[h1 S q r' Z]at hz;show(YFf.mp hz).imp id λe=>⟨Z,q,r',Z,e⟩
 let wB:=YPN.mp w.nd;let uf:∀z,z∈left++[x]->ld z=Ã->ld' z=Ã:=λz hz hf=>by
  cases h:ld' z with
  |false=>rfl
  |true=>
   rcases hnew z h with h|⟨_,q,r',e1,e2⟩
   rw[h]at hf;cases hf;subst e1;rcases YPD.mp hz with hz|hz
   show absurd (show q.1∈r'.map (·.1)++left by rw[<-e2];show Ò _ hz) (YPN.mp wB.2).1;show absurd (by rw[<-YO0.mp hz,e2];show É) wB.1
 let qQ:∀z,z∈(x::r.map (·.1))++left<->z∈r.map (·.1)++(left++[x]):=λz=>by
  simp only[YPD,YO9,đ,or_false];constructor;rintro((h|h)|h);show .inr<|.inr h;show .inl h;show .inr<|.inl h;rintro(h|h|h);show .inl<|.inr h;show .inr h;show .inl<|.inl h
 let⟨⟨s,es,fs⟩,sr⟩:=w.seen;let es:nb x=s:=es;let fs:∀y∈nb x,y∈(x::r.map (·.1))++left/\(ld x=Â\/(y∈left/\ld y=Ã)):=λy hy=>(fs y (by rw[<-es];show hy)).elim nofun id;show⟨?_,λz hz=>w.sub z<|(qQ z).mpr hz,?_,?_,?_,?_,?_,?_,?_,w.m1⟩;rw[<-Ý];show YPo.mpr ⟨wB.2,YPN.mpr ⟨nofun,å⟩,λa ha b hb e=>wB.1 ?_⟩;rw[<-YO0.mp hb,<-e];show ha;let sr:=sr.mono (on':=r.map (·.1)++(left++[x])) (ld':=ld') (left':=left++[x]) (λy hy=>(qQ y).mp hy) hold λy hy=>⟨Õ _ hy,uf y<|Õ _ hy⟩;cases r with
 |nil=>trivial
 |cons q r'=>
  let⟨⟨s',e',f'⟩,t'⟩:=sr;show⟨⟨s',e',λy hy=>?_⟩,t'⟩;rcases f' y hy with e|h
  cases e;show .inr ⟨(qQ _).mp É,?_⟩;cases S:ld x with
  |false=>show .inr ⟨Ò _ É,uf x (Ò _ É) S⟩
  |true=>show .inl (by rw[h1 S q r' Z];show CJ)
  show .inr h
 intro z hz;rcases hnew z hz with h|⟨_,q,r',e1,e2⟩
 show(qQ z).mp<|w.ldi z h;rw[e1,e2];show É;let pd:∀v,ld v=Â\/jU ld (x::r.map (·.1)) v->ld' v=Â\/jU ld' (r.map (·.1)) v:=λv h=>by
  rcases h with h|⟨A,z,C,e1,e2,e3⟩
  show .inl<|hold v h;cases A with
  |cons a A=>
   show .inr ⟨A,z,C,(List.cons.inj e1).2,hold z e2,e3⟩
  |nil=>
   cases e1;rcases YO9.mp e3 with rfl|e3
   show .inl<|hold _ e2;cases r with
   |nil=>cases e3
   |cons q r'=>show .inr ⟨[],q.1,r'.map (·.1),Z,by rw[h1 e2 q r' Z];show CJ,(show v∈q.1::r'.map (·.1) from e3)⟩
 intro z hz;rcases hnew z hz with h|⟨S,q,r',e1,e2⟩
 let⟨v,h1,h2⟩:=w.why z h;show⟨v,h1,pd v h2⟩;subst e1;have:=w.dn.1;rw[e2];show⟨x,this,.inl<|hold x S⟩;intro A k DY e hk v hv;let hk':ld k=Ã:=by
  cases hh:ld k with
  |false=>rfl
  |true=>rw[hold k hh]at hk;cases hk
 let key:(∃B',left=A++k::B')\/(k=x/\A=left):=by
  cases hB:DY.reverse with
  |nil=>
   rw[List.reverse_eq_nil_iff]at hB;subst hB;let⟨e1,e2⟩:=List.append_inj' e Z;cases e2;show .inr ⟨Z,e1.symm⟩
  |cons b B'=>
   let hB:=fT List.reverse hB;rw[List.reverse_reverse,ã]at hB;subst hB;rw[<-List.cons_append,<-Ý]at e;show .inl ⟨_,(List.append_inj' e Z).1⟩
 rcases key with ⟨B',e⟩|⟨rfl,rfl⟩
 let⟨h1,h2⟩:=w.ord A k B' e hk' v hv;show⟨h1,uf v (Õ _ (by rw[e];show Õ _ h1)) h2⟩;rcases(fs v hv).2 with h|⟨h1,h2⟩
 rw[h]at hk';cases hk';show⟨h1,uf v (Õ _ h1) h2⟩;intro z hz v hv;rcases YPD.mp hz with hz|hz
 show(qQ v).mp<|w.lcl z hz v hv;rw[YO0.mp hz]at hv;show(qQ v).mp (fs v hv).1;cases r with
 |nil=>trivial
 |cons q r'=>show w.dn.2
 intro h z;have:=w.m0 h;rw[h0<|this x];show this z
structure xC(nb:α->List α)(N cl:List α):Prop where
 nd:cl.Nodup
 sub:∀x∈cl,x∈N
 ord:∀A x DY,cl=A++x::DY->∀y∈nb x,y∈A
 oth:∀x∈N,x∉cl->∃y∈nb x,y∉cl
def Ο:∀{l A DY:ac α}{x:α},l.filter p=A++x::DY->∃A' B',l=A'++x::B'/\A=A'.filter p/\p x=Â
 |[],A,DY,x,h=>by cases A <;> cases h
 |a::l,A,DY,x,h=>by
  rw[ĉ]at h;split at h;rename_i ha;cases A with
  |nil=>
   cases h;show⟨[],l,Z,Z,ha⟩
  |cons b A=>
   let⟨h0,h⟩:=List.cons.inj h;let⟨A',B',e1,e2,e3⟩:=Ο h;show⟨a::A',B',by rw[e1];rfl,by rw[ĉ,if_pos ha,e2,h0],e3⟩
  rename_i ha;let⟨A',B',e1,e2,e3⟩:=Ο h;show⟨a::A',B',by rw[e1];rfl,by rw[ĉ,if_neg ha,e2],e3⟩
def Wk.calm(w:Wk nb N [] ld left met)(hall:∀x∈N,x∈left):xC nb N (left.filter λz=>!ld z) where
 nd:=List.Nodup.sublist List.filter_sublist w.nd
 sub:=λx S=>w.sub x (YPg.mp S).1
 ord:=λA x DY e y hy=>by
  let⟨A',B',e1,e2,e3⟩:=Ο e;let⟨h1,h2⟩:=w.ord A' x B' e1 (by simpa using e3) y hy;rw[e2];show YPg.mpr ⟨h1,by rw[h2];rfl⟩
 oth:=λx S hn=>by
  let hl:ld x=Â:=by
   cases h:ld x with
   |true=>rfl
   |false=>show absurd (YPg.mpr ⟨hall x S,by rw[h];rfl⟩) hn
  let⟨y,h1,h2⟩:=w.why x hl;show⟨y,h1,λz=>?_⟩;let z:=(YPg.mp z).2;rcases h2 with h2|⟨A,k,C,e,_⟩
  rw[h2]at z;cases z;cases A <;> cases e
def jy.at:∀{p:ac α},jy nb p->∀i x y,p[i]?=À x->p[i+1]?=À y->x∈nb y
 |[],_,i,x,y,h,_=>nomatch h
 |[a],_,0,x,y,_,h=>nomatch h
 |[a],_,i+1,x,y,h,_=>nomatch h
 |a::b::r,h,0,x,y,h1,h2=>by cases h1;cases h2;show h.1
 |a::b::r,h,i+1,x,y,h1,h2=>jy.at (p:=b::r) h.2 i x y h1 h2
end
section
variable {α:Type}[DecidableEq α]
def yk{p:ac α}{k:Nat}(hk:k<p.length):p.reverse[k]?=p[p.length-1-k]?:=List.getElem?_reverse hk
def oP{nb:α->ac α}{N p:ac α}{x y:α}{r:ac α}{i:Nat}(hp:p=x::r)(hd:jy nb p)(nd:p.Nodup)(sub:∀z∈p,z∈N)(hi:p.reverse[i]?=À y)(hy:y∈nb x):Xo nb N<|p.reverse.drop i:=by
 let hil:i<p.reverse.length:=(YOx.mp hi).1;let h0:(p.reverse.drop i)[0]?=À y:=by rw[List.getElem?_drop];show hi
 show⟨λe=>?_,List.Nodup.sublist (List.drop_sublist _ _)<|(List.reverse_perm p).nodup_iff.mpr nd,λz hz=>sub z<|YQa.mp<|List.mem_of_mem_drop hz,λj a b ha hb=>?_,λa b ha hb=>?_⟩;rw[e]at h0;cases h0;rw[List.getElem?_drop]at ha hb;let pI:=(YOx.mp hb).1;rw[ç]at pI;rw[yk (by lia)]at ha hb;let e:p.length-1-(i+j)=p.length-1-(i+(j+1))+1:=by lia
 rw[e]at ha;show hd.at _ _ _ hb ha;rw[h0]at ha;cases ha;rw[List.getLast?_drop,if_neg (by lia),List.getLast?_reverse,hp]at hb;cases hb;show hy
end
@[ext]def DN(kvs:ac<|ac db×V)(f:Nd->ag V):Prop:=∃ks,JK kvs ks/\ks.Nodup/\∀y,Yj kvs (Ye y)=f y
def DN.nil:DN [] λ_=>Á:=⟨[],Z,å,λ_=>rfl⟩
def DN.mem(h:DN kvs f):∃ks,JK kvs ks/\ks.Nodup/\∀y,y∈ks<->(f y).isSome=Â:=by
 let⟨ks,h1,h2,h3⟩:=h;show⟨ks,h1,h2,λy=>?_⟩;rw[<-h3 y,h1.val y];unfold dX;rw[fE]
def DN.len{kvs:ac (ac db×V)}{f:Nd->ag V}(h:DN kvs f){N:ac Nd}(hn:∀y,(f y).isSome=Â->y∈N):kvs.length<=N.length:=by
 let⟨ks,h1,h2,h3⟩:=h.mem;rw[h1.len];show ZM h2 λy hy=>hn y<|(h3 y).mp hy
def DN.put(h:DN kvs f)(x:Nd)(v:V):DN (Y3 kvs (Ye x) v) λy=>if y=x then À v else f y:=by
 let hv:∀y,Yj (Y3 kvs (Ye x) v) (Ye y)=if y=x then À v else f y:=λy=>by
  rw[Z0];by_cases e:y=x;rw[if_pos e,if_pos (by rw[e])];rw[if_neg e,if_neg λz=>e<|J8 z];let⟨_,_,_,h3⟩:=h;show h3 y
 let⟨ks,h1,h2,h3⟩:=h;by_cases S:x∈ks;show⟨ks,?_,h2,hv⟩;have:(Yj kvs<|Ye x).isSome=Â:=by rw[h1.val];show dA S
 let⟨u,hu⟩:=YQj.mp this;unfold JK;rw[YDM hu];show h1;show⟨ks++[x],h1.put S v,YPo.mpr ⟨h2,YPN.mpr ⟨nofun,å⟩,λa ha b hb e=>S (by rw[<-YO0.mp hb,<-e];show ha)⟩,hv⟩
@[ext]def ke(H:Hp)(a:ai)(ns:ac Nd):Prop:=∃ts:ac ai,H a=À (.lst<|ts.map V.ref)/\ZR H ts ns
def ke.keep(h:ke H a ns)(e:∀xs,H a=À (.lst xs)->H' a=À (.lst xs))(k:∀t ys,H t=À (.tup ys)->H' t=À (.tup ys)):ke H' a ns:=
 let ⟨ts,e1,e2⟩:=h;⟨ts,e _ e1,e2.keep k⟩
@[ext]def kX(H:Hp)(us:ac ai)(un:ac<|ac Nd):Prop:=us.length=un.length/\∀(i:Nat) (u:ai) (l:ac Nd),us[i]?=À u->un[i]?=À l->ke H u l
def kX.keep(h:kX H us un)(e:∀u∈us,∀xs,H u=À (.lst xs)->H' u=À (.lst xs))(k:∀t ys,H t=À (.tup ys)->H' t=À (.tup ys)):kX H' us un:=
 ⟨h.1,λi u l e1 e2=>(h.2 i u l e1 e2).keep (e u<|Ð e1) k⟩
def kX.snoc(h:kX H us un)(hu:ke H u l):kX H (us++[u])<|un++[l]:=by
 show⟨by rw[È,È,h.1];rfl,λi b w e1 e2=>?_⟩;by_cases hi:i<us.length;rw[ä hi]at e1;rw[ä (by rw[<-h.1];show hi)]at e2;show h.2 i b w e1 e2;rw[à (by lia)]at e1;rw[à (by rw[<-h.1];lia),<-h.1]at e2;let hz:i-us.length=0:=by
  cases hh:i-us.length with
  |zero=>rfl
  |succ j=>rw[hh]at e1;simp at e1
 rw[hz]at e1 e2;cases e1;cases e2;show hu
def kX.pop(h:kX H (us++[u])<|un++[l]):kX H us un/\ke H u l:=by
 let hl:us.length=un.length:=by
  have:=h.1;rw[È,È]at this;simpa using this
 show⟨⟨hl,λi t' x' e1 e2=>h.2 i t' x' (by rw[ä (YOx.mp e1).1];show e1) (by rw[ä (YOx.mp e2).1];show e2)⟩,?_⟩;show h.2 us.length u l (by rw[à<|Å _,ö];rfl) (by rw[à (by rw[hl];show Å _),hl,ö];rfl)
@[ext]def YLd(H:Hp)(mv:V)(ms:ac ai)(met:ag<|ac Nd):Prop:=(met=Á/\mv=.non/\ms=[])\/∃r b,met=À r/\mv=.ref b/\ms=[b]/\ke H b r
def YLd.keep(h:YLd H mv ms met)(e:∀u∈ms,∀xs,H u=À (.lst xs)->H' u=À (.lst xs))(k:∀t ys,H t=À (.tup ys)->H' t=À (.tup ys)):YLd H' mv ms met:=
 h.imp id λ⟨r,b,e1,e2,e3,e4⟩=>⟨r,b,e1,e2,e3,e4.keep (e b (by rw[e3];show É)) k⟩
@[ext]def sf(wd L a2 a3 a4 a5:ai)(mv:V):ac<|am×V:=[(aS,.ref wd),("path",.ref L),(dP,.ref a2),(eJ,.ref a3),("leading",.ref a4),("left",.ref a5),("met",mv)]
structure fh(C:Addr)(H0 H:Hp)(x wd L a2 a3 a4 a5:Addr)(us ms:List Addr)(p:List Nd)(un:List (List Nd))(f3 f4:Nd->Option V)(left:List Nd)(met:Option (List Nd)):Prop where
 sm:YG H0 H
 x_:∃B mv,H x=À (.ins C B<|sf wd L a2 a3 a4 a5 mv)/\YLd H mv ms met
 h1:ke H L p
 h2:H a2=À (.lst<|us.map V.ref)
 hu:kX H us un
 h3:∃kvs,H a3=À (.dT kvs)/\DN kvs f3
 h4:∃kvs,H a4=À (.dT kvs)/\DN kvs f4
 h5:ke H a5 left
 dj:(L::a2::a5::(ms++us)).Nodup
 nf:∀b∈L::a2::a5::(ms++us),H0 b=Á
 nx:H0 x=Á
 n3:H0 a3=Á
 n4:H0 a4=Á
 d34:a3≠a4
section
variable {C:ai}{H0 H H':Hp}{x wd L a2 a3 a4 a5:ai}{us ms:ac ai}{p:ac Nd}{un:ac (ac Nd)}{f3 f4:Nd->ag V}{left:ac Nd}{met:ag (ac Nd)}
def fh.same(s:fh C H0 H x wd L a2 a3 a4 a5 us ms p un f3 f4 left met)(m:YG H H'):fh C H0 H' x wd L a2 a3 a4 a5 us ms p un f3 f4 left met:=by
 let⟨B,mv,S,hm⟩:=s.x_;let⟨k3,e3,d3⟩:=s.h3;let⟨k4,e4,d4⟩:=s.h4;let kt:∀t ys,H t=À (.tup ys)->H' t=À (.tup ys):=λ_ _=>m _ _;show⟨s.sm.trans m,⟨B,mv,m _ _ S,hm.keep (λ_ _ _=>m _ _) kt⟩,s.h1.keep (λ_=>m _ _) kt,m _ _ s.h2,s.hu.keep (λ_ _ _=>m _ _) kt,⟨k3,m _ _ e3,d3⟩,⟨k4,m _ _ e4,d4⟩,s.h5.keep (λ_=>m _ _) kt,s.dj,s.nf,s.nx,s.n3,s.n4,s.d34⟩
def fh.ap(s:fh C H0 H x wd L a2 a3 a4 a5 us ms p un f3 f4 left met):L≠a2/\L≠a5/\a2≠a5/\(∀b∈ms++us,b≠L/\b≠a2/\b≠a5):=by
 let⟨h1,h2⟩:=YPN.mp s.dj;let⟨h3,h4⟩:=YPN.mp h2;let⟨h5,_⟩:=YPN.mp h4;show⟨λe=>h1 (by rw[e];show É),λe=>h1 (by rw[e];show Ç _ É),λe=>h3 (by rw[e];show É),λb hb=>⟨λe=>h1 (by rw[<-e];show Ç _<|Ç _ hb),λe=>h3 (by rw[<-e];show Ç _ hb),λe=>h5 (by rw[<-e];show hb)⟩⟩
def fh.there(s:fh C H0 H x wd L a2 a3 a4 a5 us ms p un f3 f4 left met)(hb:b∈L::a2::a5::(ms++us)):H b≠Á:=by
 rcases YO9.mp hb with e|hb
 let⟨ts,h,_⟩:=s.h1;rw[e,h];show nofun;rcases YO9.mp hb with e|hb
 rw[e,s.h2];show nofun;rcases YO9.mp hb with e|hb
 let⟨ts,h,_⟩:=s.h5;rw[e,h];show nofun;rcases YPD.mp hb with hb|hb
 let⟨B,mv,_,hm⟩:=s.x_;rcases hm with ⟨_,_,e⟩|⟨r,c,_,_,e,ts,h,_⟩
 rw[e]at hb;cases hb;rw[e]at hb;rw[YO0.mp hb,h];show nofun;let⟨i,hi⟩:=ě hb;let hl:=(YOx.mp hi).1;let⟨ts,h,_⟩:=s.hu.2 i b _ hi<|Ê (by rw[<-s.hu.1];show hl);rw[h];show nofun
def YY{H:Hp}{c b:ai}{o o' u:HO}(hc:H c=À o)(n:u≠o)(h:H b=À u):upd H c o' b=À u:=by rw[YB<|Yi h hc n];show h
def ZS(n:b≠c)(h:H b=À u):upd H c o' b=À u:=by rw[YB n];show h
def fh.set3(s:fh C H0 H x wd L a2 a3 a4 a5 us ms p un f3 f4 left met)(hk:H a3=À (.dT kvs))(y:Nd)(v:V):fh C H0 (upd H a3<|.dT<|Y3 kvs (Ye y) v) x wd L a2 a3 a4 a5 us ms p un (λz=>if z=y then À v else f3 z) f4 left met:=by
 let⟨B,mv,S,hm⟩:=s.x_;let⟨k3,e3,d3⟩:=s.h3;let⟨k4,e4,d4⟩:=s.h4;rw[hk]at e3;cases e3;let kt:∀t ys,H t=À (.tup ys)->upd H a3 (.dT<|Y3 kvs (Ye y) v) t=À (.tup ys):=λt ys=>YY hk nofun;let kl:∀t ys,H t=À (.lst ys)->upd H a3 (.dT<|Y3 kvs (Ye y) v) t=À (.lst ys):=λt ys=>YY hk nofun;show⟨s.sm.put s.n3,⟨B,mv,YY hk nofun S,hm.keep (λ_ _=>kl _) kt⟩,s.h1.keep (kl _) kt,kl _ _ s.h2,s.hu.keep (λ_ _=>kl _) kt,⟨_,YA,d3.put y v⟩,⟨k4,ZS s.d34.symm e4,d4⟩,s.h5.keep (kl _) kt,s.dj,s.nf,s.nx,s.n3,s.n4,s.d34⟩
def fh.set4(s:fh C H0 H x wd L a2 a3 a4 a5 us ms p un f3 f4 left met)(hk:H a4=À (.dT kvs))(y:Nd)(v:V):fh C H0 (upd H a4<|.dT<|Y3 kvs (Ye y) v) x wd L a2 a3 a4 a5 us ms p un f3 (λz=>if z=y then À v else f4 z) left met:=by
 let⟨B,mv,S,hm⟩:=s.x_;let⟨k3,e3,d3⟩:=s.h3;let⟨k4,e4,d4⟩:=s.h4;rw[hk]at e4;cases e4;let kt:∀t ys,H t=À (.tup ys)->upd H a4 (.dT<|Y3 kvs (Ye y) v) t=À (.tup ys):=λt ys=>YY hk nofun;let kl:∀t ys,H t=À (.lst ys)->upd H a4 (.dT<|Y3 kvs (Ye y) v) t=À (.lst ys):=λt ys=>YY hk nofun;show⟨s.sm.put s.n4,⟨B,mv,YY hk nofun S,hm.keep (λ_ _=>kl _) kt⟩,s.h1.keep (kl _) kt,kl _ _ s.h2,s.hu.keep (λ_ _=>kl _) kt,⟨k3,ZS s.d34 e3,d3⟩,⟨_,YA,d4.put y v⟩,s.h5.keep (kl _) kt,s.dj,s.nf,s.nx,s.n3,s.n4,s.d34⟩
def fh.set1(s:fh C H0 H x wd L a2 a3 a4 a5 us ms p un f3 f4 left met)(hn:ZR H ts p'):fh C H0 (upd H L<|.lst<|ts.map V.ref) x wd L a2 a3 a4 a5 us ms p' un f3 f4 left met:=by
 let⟨B,mv,S,hm⟩:=s.x_;let⟨k3,e3,d3⟩:=s.h3;let⟨k4,e4,d4⟩:=s.h4;let⟨t1,e1,_⟩:=s.h1;let⟨q1,q2,q3,q4⟩:=s.ap;let kt:∀t ys,H t=À (.tup ys)->upd H L (.lst<|ts.map V.ref) t=À (.tup ys):=λt ys=>YY e1 nofun;show⟨s.sm.put<|s.nf _ É,⟨B,mv,YY e1 nofun S,hm.keep (λb hb _=>ZS (q4 b<|Õ _ hb).1) kt⟩,⟨ts,YA,hn.keep kt⟩,ZS q1.symm s.h2,s.hu.keep (λb hb _=>ZS (q4 b<|Ò _ hb).1) kt,⟨k3,YY e1 nofun e3,d3⟩,⟨k4,YY e1 nofun e4,d4⟩,s.h5.keep (λ_=>ZS q2.symm) kt,s.dj,s.nf,s.nx,s.n3,s.n4,s.d34⟩
def fh.set5(s:fh C H0 H x wd L a2 a3 a4 a5 us ms p un f3 f4 left met)(hn:ZR H ts l'):fh C H0 (upd H a5<|.lst<|ts.map V.ref) x wd L a2 a3 a4 a5 us ms p un f3 f4 l' met:=by
 let⟨B,mv,S,hm⟩:=s.x_;let⟨k3,e3,d3⟩:=s.h3;let⟨k4,e4,d4⟩:=s.h4;let⟨t1,e1,_⟩:=s.h5;let⟨q1,q2,q3,q4⟩:=s.ap;let kt:∀t ys,H t=À (.tup ys)->upd H a5 (.lst<|ts.map V.ref) t=À (.tup ys):=λt ys=>YY e1 nofun;show⟨s.sm.put<|s.nf _<|Ç _<|Ç _ É,⟨B,mv,YY e1 nofun S,hm.keep (λb hb _=>ZS (q4 b<|Õ _ hb).2.2) kt⟩,s.h1.keep (λ_=>ZS q2) kt,ZS q3 s.h2,s.hu.keep (λb hb _=>ZS (q4 b<|Ò _ hb).2.2) kt,⟨k3,YY e1 nofun e3,d3⟩,⟨k4,YY e1 nofun e4,d4⟩,⟨ts,YA,hn.keep kt⟩,s.dj,s.nf,s.nx,s.n3,s.n4,s.d34⟩
def fh.set2(s:fh C H0 H x wd L a2 a3 a4 a5 us ms p un f3 f4 left met)(hn:kX H kE Ec)(dj:(L::a2::a5::(ms++kE)).Nodup)(nf:∀b∈kE,H0 b=Á):fh C H0 (upd H a2<|.lst<|kE.map V.ref) x wd L a2 a3 a4 a5 kE ms p Ec f3 f4 left met:=by
 let⟨B,mv,S,hm⟩:=s.x_;let⟨k3,e3,d3⟩:=s.h3;let⟨k4,e4,d4⟩:=s.h4;let e1:=s.h2;let⟨q1,q2,q3,q4⟩:=s.ap;let kt:∀t ys,H t=À (.tup ys)->upd H a2 (.lst<|kE.map V.ref) t=À (.tup ys):=λt ys=>YY e1 nofun;let hu2:∀b∈kE,b≠a2:=λb hb e=>(YPN.mp (YPN.mp dj).2).1 (by rw[<-e];show Ç _<|Ò _ hb);show⟨s.sm.put<|s.nf _<|Ç _ É,⟨B,mv,YY e1 nofun S,hm.keep (λb hb _=>ZS (q4 b<|Õ _ hb).2.1) kt⟩,s.h1.keep (λ_=>ZS q1) kt,YA,hn.keep (λb hb _=>ZS<|hu2 b hb) kt,⟨k3,YY e1 nofun e3,d3⟩,⟨k4,YY e1 nofun e4,d4⟩,s.h5.keep (λ_=>ZS q3.symm) kt,dj,λb hb=>?_,s.nx,s.n3,s.n4,s.d34⟩;rcases YO9.mp hb with e|hb
 show s.nf b (by rw[e];show É);rcases YO9.mp hb with e|hb
 show s.nf b (by rw[e];show Ç _ É);rcases YO9.mp hb with e|hb
 show s.nf b (by rw[e];show Ç _<|Ç _ É);show(YPD.mp hb).elim (λz=>s.nf b<|Ç _<|Ç _<|Ç _<|Õ _ z)<|nf b
def fh.push(s:fh C H0 H x wd L a2 a3 a4 a5 us ms p un f3 f4 left met)(hl:ke H u l)(h0:H0 u=Á)(hu:u∉L::a2::a5::(ms++us)):fh C H0 (upd H a2<|.lst<|(us++[u]).map V.ref) x wd L a2 a3 a4 a5 (us++[u]) ms p (un++[l]) f3 f4 left met:=by
 show s.set2 (s.hu.snoc hl) ?_ λb hb=>?_;let e:L::a2::a5::(ms++(us++[u]))=(L::a2::a5::(ms++us))++[u]:=by rw[<-Ý];rfl
 rw[e];show YPo.mpr ⟨s.dj,YPN.mpr ⟨nofun,å⟩,λa ha b hb e=>hu (by rw[<-YO0.mp hb,<-e];show ha)⟩;rcases YPD.mp hb with hb|hb
 show s.nf b<|Ç _<|Ç _<|Ç _<|Ò _ hb;rw[YO0.mp hb];show h0
def fh.pop(s:fh C H0 H x wd L a2 a3 a4 a5 (us++[u]) ms p (un++[l]) f3 f4 left met):fh C H0 (upd H a2<|.lst<|us.map V.ref) x wd L a2 a3 a4 a5 us ms p un f3 f4 left met:=by
 let sl:(L::a2::a5::(ms++us)).Sublist<|L::a2::a5::(ms++(us++[u])):=by
  rw[<-Ý];show List.sublist_append_left (L::a2::a5::(ms++us)) [u]
 show s.set2 s.hu.pop.1 (List.Nodup.sublist sl s.dj) λb hb=>s.nf b<|sl.subset<|Ç _<|Ç _<|Ç _<|Ò _ hb
def fh.setU(s:fh C H0 H x wd L a2 a3 a4 a5 (us++[u]) ms p (un++[l]) f3 f4 left met)(hn:ZR H ts l'):fh C H0 (upd H u<|.lst<|ts.map V.ref) x wd L a2 a3 a4 a5 (us++[u]) ms p (un++[l']) f3 f4 left met:=by
 let⟨B,mv,S,hm⟩:=s.x_;let⟨k3,e3,d3⟩:=s.h3;let⟨k4,e4,d4⟩:=s.h4;let⟨hu0,t1,e1,_⟩:=s.hu.pop;let⟨q1,q2,q3,q4⟩:=s.ap;let wC:u∈ms++(us++[u]):=Ò _<|Ò _ É;let⟨qa,qb,qc⟩:=q4 u wC;let QL:=(YPN.mp (YPN.mp (YPN.mp s.dj).2).2).2;rw[<-Ý]at QL;let nu:∀b∈ms++us,b≠u:=λb hb=>(YPo.mp QL).2.2 b hb u É;let kt:∀t ys,H t=À (.tup ys)->upd H u (.lst<|ts.map V.ref) t=À (.tup ys):=λt ys=>YY e1 nofun;show⟨s.sm.put<|s.nf _<|Ç _<|Ç _<|Ç _ wC,⟨B,mv,YY e1 nofun S,hm.keep (λb hb _=>ZS<|nu b<|Õ _ hb) kt⟩,s.h1.keep (λ_=>ZS qa.symm) kt,ZS qb.symm s.h2,(hu0.keep (λb hb _=>ZS<|nu b<|Ò _ hb) kt).snoc ⟨ts,YA,hn.keep kt⟩,⟨k3,YY e1 nofun e3,d3⟩,⟨k4,YY e1 nofun e4,d4⟩,s.h5.keep (λ_=>ZS qc.symm) kt,s.dj,s.nf,s.nx,s.n3,s.n4,s.d34⟩
def fh.setM(s:fh C H0 H x wd L a2 a3 a4 a5 us [] p un f3 f4 left Á)(S:H x=À (.ins C B<|sf wd L a2 a3 a4 a5 mv))(hl:ke H b r)(h0:H0 b=Á)(hb:b∉L::a2::a5::us):fh C H0 (upd H x<|.ins C B<|sf wd L a2 a3 a4 a5<|.ref b) x wd L a2 a3 a4 a5 us [b] p un f3 f4 left<|some r:=by
 let⟨k3,e3,d3⟩:=s.h3;let⟨k4,e4,d4⟩:=s.h4;let kt:∀t ys,H t=À (.tup ys)->upd H x (.ins C B<|sf wd L a2 a3 a4 a5<|.ref b) t=À (.tup ys):=λt ys=>YY S nofun;let kl:∀t ys,H t=À (.lst ys)->upd H x (.ins C B<|sf wd L a2 a3 a4 a5<|.ref b) t=À (.lst ys):=λt ys=>YY S nofun;let dj:=s.dj;let pm:(L::a2::a5::([b]++us)).Perm<|b::(L::a2::a5::us):=(List.perm_middle (l₁:=[L,a2,a5]) (a:=b) (l₂:=us));show⟨s.sm.put s.nx,⟨B,.ref b,YA,.inr ⟨r,b,Z,Z,Z,hl.keep (kl _) kt⟩⟩,s.h1.keep (kl _) kt,kl _ _ s.h2,s.hu.keep (λ_ _=>kl _) kt,⟨k3,YY S nofun e3,d3⟩,⟨k4,YY S nofun e4,d4⟩,s.h5.keep (kl _) kt,pm.nodup_iff.mpr<|YPN.mpr ⟨hb,dj⟩,λc hc=>?_,s.nx,s.n3,s.n4,s.d34⟩;rcases YO9.mp (pm.mem_iff.mp hc) with e|hc
 rw[e];show h0;show s.nf c hc
end
@[ext]def gs(p left:ac Nd):Nd->ag V:=λy=>if y∈p then À (.bl Â) else if y∈left then À (.bl Ã) else Á
@[ext]def l8(ld:Nd->Bool):Nd->ag V:=λy=>if ld y=Â then À (.bl Â) else Á
def YI3:(λz=>if z=y then À (V.bl Â) else gs p left z)=gs (y::p) left:=funext λz=>by
 unfold gs;by_cases e:z=y;rw[if_pos e,if_pos (by rw[e];show É)];rw[if_neg e];by_cases h:z∈p;rw[if_pos h,if_pos<|Ç _ h];rw[if_neg h,if_neg<|λk=>(YO9.mp k).elim e h]
def w_(hy:y∉p):(λz=>if z=y then À (V.bl Ã) else gs (y::p) left z)=gs p (left++[y]):=funext λz=>by
 unfold gs;by_cases e:z=y;rw[if_pos e,if_neg (by rw[e];show hy),if_pos (by rw[e];show Ò _ É)];rw[if_neg e];by_cases h:z∈p;rw[if_pos h,if_pos<|Ç _ h];rw[if_neg h,if_neg<|λk=>(YO9.mp k).elim e h];by_cases hl:z∈left;rw[if_pos hl,if_pos<|Õ _ hl];rw[if_neg hl,if_neg<|λk=>(YPD.mp k).elim hl λk=>e<|YO0.mp k]
def YLe:(λz=>if z=y then À (V.bl Â) else l8 ld z)=l8 (kB ld y):=funext λz=>by
 unfold l8;by_cases e:z=y;rw[if_pos e,e,if_pos CJ];rw[if_neg e];cases h:ld z with
 |true=>rw[if_pos<|xh h];rfl
 |false=>rw[YHr e h]
end FR
namespace L2
open PySem PySem.Spec PyProof.Rows PySem.SeqAt
section
variable {X:Cx}
def YGH(K:W.Frag)(hK:X.K=K)(hu:X.A.units+64<cLine):tS X "list.index" (λx vs H Q=>∃(p:ai) (ts:ac ai) (ds:ac D) (t:ai) (d:D) (j:Nat),x=.ref p/\vs=[.ref t]/\bG K H p (ts.map V.ref)/\Ya H (ts.map V.ref) ds/\cx H (.ref t) d/\(∀d∈ds,d.ok=Â/\d.dep<=8)/\d.ok=Â/\(j:Int)<2^63-1/\(∃dj,ds[j]?=À dj/\dQ dj d=Â)/\(∀m dm,m<j->ds[m]?=À dm->dQ dm d=Ã)/\Q (.int (j:Int)) H):=by
 subst hK;intro O s σ H x xs v us Q I rx rs h;let⟨p,ts,ds,t,d,j,Z,Z,hq,hds,hd,hok,Ed,hj,⟨dj,ej,eqj⟩,hno,q⟩:=h;cases rx;let⟨u,Z,ru⟩:=rs.one;cases ru;let⟨its,rv,pl,_⟩:=I.list hq;let⟨⟨cls,dd,data,sl⟩,ho,hc,n,hdt⟩:=id pl.isList;simp only at hc hdt;subst hc hdt;let DV:∀i (hi:i<its.length),∃a di,its[i]=Value.ref a/\ts[i]?=À a/\ds[i]?=À di/\cx H (V.ref a) di:=λi hi=>by
  let hl:=rv.length;rw[Ä]at hl;let hi':i<ts.length:=by lia
  let e1:(ts.map V.ref)[i]?=À (V.ref ts[i]):=by rw[Ï,Ê hi'];rfl
  let⟨u,eu,ru⟩:=rv.get e1;let⟨di,ed,zg⟩:=hds.get e1;cases ru;rw[Ê hi]at eu;show⟨ts[i],di,Û eu,Ê hi',ed,zg⟩
 let zj:j<its.length:=by
  let h1:=(YOx.mp ej).1;let h2:=hds.len;let h3:=rv.length;lia
 let' e:ah->Bool:=λy=>@decide (∃(i:Nat) (a:ai) (di:D),y=Value.ref a/\ts[i]?=À a/\ds[i]?=À di/\dQ di d=Â) (Classical.propDecidable _)
 let ee:∀(i:Nat) (a:ai) (di:D),its[i]?=À (Value.ref a)->ts[i]?=À a->ds[i]?=À di->cx H (V.ref a) di->e (Value.ref a)=dQ di d:=λi a di h1 h2 h3 h4=>by
  rw[ð];show Iff.trans (@decide_eq_true_iff _ (Classical.propDecidable _)) ⟨?_,λh=>⟨i,a,di,Z,h2,h3,h⟩⟩;rintro⟨i',a',di',g1,g2,g3,g4⟩;cases g1;let⟨dk,ed,zg⟩:=hds.get (show(ts.map V.ref)[i']?=À (V.ref a) by rw[Ï,g2];rfl);rw[g3]at ed;cases ed;rw[cx.uniq h4 zg];show g4
 show call_meets F.slot_list_index ⟨_,ho,Z⟩ F.entry_list_index (F.args_list_index_2 _ _) (list_indexAt p its.toArray n dd sl (Value.ref t) e j (by simpa using zj) hj ?_ ?_) ⟨ho,λy hy=>?_,⟨.int _,H,I.tok _,⟨_,Z⟩,q⟩⟩;let⟨a,di,g1,g2,g3,g4⟩:=DV j zj;change e its[j]=Â;rw[ej]at g3;cases g3;rw[g1,ee j a dj (by rw[Ê zj,g1]) g2 ej g4];show eqj;intro m hm DT;let t_:m<its.length:=by simpa using hm
 let⟨a,di,g1,g2,g3,g4⟩:=DV m t_;change e its[m]=Ã;rw[g1,ee m a di (by rw[Ê t_,g1]) g2 g3 g4];show hno m di DT g3;let hy:y∈its:=by simpa using hy
 let⟨i,hi,Z⟩:=List.getElem_of_mem hy;let⟨a,di,g1,g2,g3,g4⟩:=DV i hi;rw[g1,ee i a di (by rw[Ê hi,g1]) g2 g3 g4];let⟨o1,o2⟩:=hok di<|Ð g3;show(kP I 8 X.A.in1 di d (V.ref a) (V.ref t) _ _ o1 Ed o2 (by change X.A.units+1+8<cLine;lia) g4 hd Z rfl).eq
end
end L2
namespace L2
open PySem PySem.Spec PyProof.Rows PySem.SeqAt
section
variable {X:Cx}
end
@[ext]def Dn(K:W.Frag)(x:am)(f:ai):Prop:=W.nsIn K mainGlobals x=À (À<|.ref f)
@[ext]def Zn(K:W.Frag)(x:am):Prop:=W.nsIn K mainGlobals x=À Á
@[ext]def On(K:W.Frag)(c:ai)(x:am):Prop:=W.findIn K (.ref c) x=À Á
inductive An(K:W.Frag)(c:Addr)(x:Str)(f:Addr):Prop
 |mk:W.findIn K (.ref c) x=À (À (.ref f))->W.isFn K (.ref f)=Â->An K c x f
inductive Ln(K:W.Frag)(x q:Str)(st:Stmt)(f:Addr):Prop
 |mk {oc:Value}{od an:Option Addr}{osl:Array (Option Value)}{kV doc pm dB ct:Value}:K.lookup f=À ⟨oc,od,.func (W.fnOf x q (JU st) (Zm st) (YH st) .none kV doc pm an dB ct),osl⟩->W.codeIn K dB q=Â->W.keepIn K (.ref f)=Â->Ln K x q st f
def Ln.ex{K:W.Frag}{x q:am}{st:Stmt}{f:ai}:Ln K x q st f->∃fd,kx K x q st f fd
 |.mk l c k=>⟨_,YNX l c k⟩
@[ext]def Pn:Nat->(ac ah->Prop)->Prop
 |0,P=>P []
 |n+1,P=>∀a,Pn n λus=>P<|a::us
def bn:∀(n:Nat) {P:ac ah->Prop},Pn n P->∀us:ac ah,us.length=n->P us
 |0,_,h,[],_=>h
 |0,_,_,_::_,e=>by cases e
 |_+1,_,_,[],e=>by cases e
 |n+1,_,h,a::us,e=>bn n (h a) us<|Nat.succ.inj e
section
variable (P:Program)(w:World){K:W.Frag}{mg:am->ag ah}{CX:gz}{k:Nat}{x q:am}{st:Stmt}{C f:ai}{fd:FuncData}{ps:ac am}{sp:Sp}
def us(m:mg x=À (.ref f))(F:kx K x q st f fd)(o:∀base,f_ P w K mg base CX k f fd ps sp)(b:∀(kV doc pm:ah) (an:ag ai) (dB ct:ah) (us:ac ah),us.length=ps.length->bindArgs (W.fnOf x q (JU st) (Zm st) (YH st) .none kV doc pm an dB ct) ⟨us,[]⟩=pure (ps.zip us)):ZN P w K mg CX k x ps sp:=⟨⟨f,fd,o,m,F.kp,F.binds b⟩⟩
def usM(a:An K C x f)(F:kx K x q st f fd)(o:∀base,f_ P w K mg base CX k f fd ps sp)(b:∀(kV doc pm:ah) (an:ag ai) (dB ct:ah) (us:ac ah),us.length=ps.length->bindArgs (W.fnOf x q (JU st) (Zm st) (YH st) .none kV doc pm an dB ct) ⟨us,[]⟩=pure (ps.zip us)):Yv P w K mg CX k C x ps sp:=by
 cases a with
 |mk a j=>show⟨⟨f,fd,o,⟨a,j,F.kp⟩,F.binds b⟩⟩
def usI(h1:W.makesIn K C=Â)(h2:W.keepIn K (.ref C)=Â)(a:An K C "__init__" f)(F:kx K x q st f fd)(o:∀base,f_ P w K mg base CX k f fd ps sp)(b:∀(kV doc pm:ah) (an:ag ai) (dB ct:ah) (us:ac ah),us.length=ps.length->bindArgs (W.fnOf x q (JU st) (Zm st) (YH st) .none kV doc pm an dB ct) ⟨us,[]⟩=pure (ps.zip us)):nz P w K mg CX k C ps sp:=by
 cases a with
 |mk a j=>show⟨⟨f,fd,o,⟨h1,a,j,h2⟩,F.binds b⟩⟩
end
structure HE(P:Program)(w:World)(K:W.Frag)(h:Heap)(mg:Str->Option Value):Prop where
 X:K.In h
 G:h.Ns mainGlobals mg
inductive DL(K:W.Frag)(x:Str)(st:Stmt)(f:Addr):Prop
 |mk:W.nsIn K mainGlobals x=À (À (.ref f))->Ln K x x st f->DL K x st f
inductive AL(K:W.Frag)(c:Addr)(x q:Str)(st:Stmt)(f:Addr):Prop
 |mk:An K c x f->Ln K x q st f->AL K c x q st f
inductive CL(K:W.Frag)(c:Addr):Prop
 |mk:W.plainGet K c Str.empty=Â->W.hasDictIn K c=Â->W.plainOver K c=Â->W.findIn K (.ref c) "__setattr__"=À (À (.builtin "object.__setattr__"))->CL K c
def CL.of{K:W.Frag}{c:ai}:CL K c->gu K c
 |.mk a b c d=>⟨a,b,c,d⟩
section
variable {P:Program}{w:World}{K:W.Frag}{h:Heap}{mg:am->ag ah}{CX:gz}{k:Nat}{x q:am}{st:Stmt}{C f:ai}{ps:ac am}{sp:Sp}
def ft(E:HE P w K h mg)(d:DL K x st f)(o:Gd P w K mg CX k x x st ps sp)(b:∀(kV doc pm:ah) (an:ag ai) (dB ct:ah) (us:ac ah),us.length=ps.length->bindArgs (W.fnOf x x (JU st) (Zm st) (YH st) .none kV doc pm an dB ct) ⟨us,[]⟩=pure (ps.zip us):=by intro _ _ _ _ _ _;first|show bn 1 λ_=>rfl|show bn 2 λ_ _=>rfl|show bn 3 λ_ _ _=>rfl|show bn 4 λ_ _ _ _=>rfl|show bn 5 λ_ _ _ _ _=>rfl|show bn 0 rfl|show bn 6 λ_ _ _ _ _ _=>rfl|show bn 7 λ_ _ _ _ _ _ _=>rfl):ZN P w K mg CX k x ps sp:=by
 cases d with
 |mk a l=>
  let⟨fd,F⟩:=l.ex;show us P w (W.mg_of E.X E.G a) F (λ_=>o F) b
def fL(E:HE P w K h mg)(d:AL K C x q st f)(o:Gd P w K mg CX k x q st ps sp)(b:∀(kV doc pm:ah) (an:ag ai) (dB ct:ah) (us:ac ah),us.length=ps.length->bindArgs (W.fnOf x q (JU st) (Zm st) (YH st) .none kV doc pm an dB ct) ⟨us,[]⟩=pure (ps.zip us):=by intro _ _ _ _ _ _;first|show bn 1 λ_=>rfl|show bn 2 λ_ _=>rfl|show bn 3 λ_ _ _=>rfl|show bn 4 λ_ _ _ _=>rfl|show bn 5 λ_ _ _ _ _=>rfl|show bn 0 rfl|show bn 6 λ_ _ _ _ _ _=>rfl|show bn 7 λ_ _ _ _ _ _ _=>rfl):Yv P w K mg CX k C x ps sp:=by
 cases d with
 |mk a l=>
  let⟨fd,F⟩:=l.ex;show usM P w a F (λ_=>o F) b
def DI(E:HE P w K h mg)(h1:W.makesIn K C=Â)(h2:W.keepIn K (.ref C)=Â)(d:AL K C "__init__" q st f)(o:Gd P w K mg CX k "__init__" q st ps sp)(b:∀(kV doc pm:ah) (an:ag ai) (dB ct:ah) (us:ac ah),us.length=ps.length->bindArgs (W.fnOf "__init__" q (JU st) (Zm st) (YH st) .none kV doc pm an dB ct) ⟨us,[]⟩=pure (ps.zip us):=by intro _ _ _ _ _ _;first|show bn 1 λ_=>rfl|show bn 2 λ_ _=>rfl|show bn 3 λ_ _ _=>rfl|show bn 4 λ_ _ _ _=>rfl|show bn 5 λ_ _ _ _ _=>rfl|show bn 0 rfl|show bn 6 λ_ _ _ _ _ _=>rfl|show bn 7 λ_ _ _ _ _ _ _=>rfl):nz P w K mg CX k C ps sp:=by
 cases d with
 |mk a l=>
  let⟨fd,F⟩:=l.ex;show usI P w h1 h2 a F (λ_=>o F) b
end
section
variable {prog:Program}{w:World}{A:Around}{R:Result->al->Prop}{I DX:ai}{fp wr:ac ai}{n:Nat}{P:Nat->ah->Prop}{St:Nat->Heap->Prop}{bt:Nat->Nat->Bool}{kw:ac (am×ah)}
end
section
variable {prog:Program}{w:World}{A:Around}{E:ah->al->Prop}{s:al}{l:ai}{items:Array ah}{bt:Nat->Nat->Bool}{d:ah}
end
section
variable {X:Cx}{x:am}{e:Expr}{kws:ac Keyword}{p pos:Pos}{t tk:TA}
end
end L2
namespace L2
open PySem PySem.Spec PyProof.Rows PySem.SeqAt
section
variable {prog:Program}{w:World}{A:Around}{R:Result->al->Prop}{I DX:ai}{fp wr:ac ai}{n:Nat}{P:Nat->ah->Prop}{St:Nat->Heap->Prop}{bt:Nat->Nat->Bool}{kw:ac (am×ah)}{kp:ai->Obj->Prop}
end
section
variable {prog:Program}{w:World}{A:Around}{E:ah->al->Prop}{s:al}{l:ai}{items:Array ah}{bt:Nat->Nat->Bool}{d:ah}{kp:ai->Obj->Prop}
end
end L2
namespace L2
open PySem PySem.Spec PyProof.Rows PySem.SeqAt
section
variable {X:Cx}{x:am}{e:Expr}{kws:ac Keyword}{p pos:Pos}{t tk:TA}
end
section
variable {X:Cx}(K:W.Frag)(hK:X.K=K)
include hK
end
section
variable {X:Cx}{jo:ac Expr}{k:Nat}{jm:Pos}
def YHs:XH X (.builtin "divmod") (λxs H Q=>∃i j:Int,xs=[.int i,.int j]/\0<j/\j.natAbs.log2<9000/\∀t,H t=Á->Q (.ref t) (upd H t<|.tup [.int<|i / j,.int<|i%j])):=by
 intro O s σ H xs us Q I r h;let⟨i,j,Z,hj,hl,q⟩:=h;let⟨u,v,Z,⟨t,Z⟩,⟨t',Z⟩⟩:=ı r;show divmod_int (by omega) ?_ (.inl<|PyProof.noPylong_of_log2 hl);rw[Int.fdiv_eq_ediv_of_nonneg _<|Int.le_of_lt hj,Int.fmod_eq_emod_of_nonneg _<|Int.le_of_lt hj];let I2:aX X O σ (upd H s.heap.objs.size<|.tup [.int<|i / j,.int<|i%j]) { s with toks:=s.toks+1+1,heap:=s.heap.push { cls:=.type "tuple",data:=.seq #[.int (i / j) s.toks,.int (i%j) (s.toks+1)] } }:=
  I.laid (t':=s.toks+1+1) (λb o e=>Ø _ e) (Å _) (show ZA X.prog X.w _ _ _ (.tup _) from⟨by change 2<=sizeLine;rw[sizeLine_eq];decide,[.int (i / j) s.toks,.int (i%j)<|s.toks+1],.cons ⟨_,Z⟩<|.cons ⟨_,Z⟩ .nil,IsTup.new _ _⟩)
 show⟨.ref s.heap.objs.size,_,I2,Z,q _<|I.hok.fresh<|Å _⟩
end
@[ext]def AF(to:TE):TI:=λσ H R=>to σ H λx H1=>∃d o kvs,x=.ref d/\H1 d=À (.frz o<|.dK kvs)/\R (BQ d o kvs) H1
def YI4{X:Cx}{tg oe:Expr}{to:TE}(ho:PE X oe to):PI X tg oe<|AF to:=by
 intro O s σ H R I h;show cy (ho O s σ H _ I h) λv s1 ⟨x,H1,I1,r1,q1⟩=>?_;let⟨d,od,kvs,ex,hd,q⟩:=q1;subst ex;cases r1;let⟨jd,hsz,lo,vs,rel,hD⟩:=(show ZA X.prog X.w H1 s1.heap d (.frz od<|.dK kvs) from I1.hok d _ hd);let⟨o2,u_,ue,h1,h2,h3,h4⟩:=hD;rw[jd]at h1;cases h1;let hat:s1.heap.DictAt (Yn X.prog X.w) d vs ue:=⟨od,u_,jd,h2,h3,h4⟩;show wpAny_pyIter_dict lo hat ?_;let k1:∀b u,s1.heap.get? b=À u->(s1.heap.push { cls:=.type "dict_keyiterator",data:=.fields #[.ref d,.int 0 0,.int vs.length 0,.int ue 0] }).get? b=À u:=λb u e=>Ø _ e;let I2:=I1.kept (t':=s1.toks) k1;let hlen:kvs.length=vs.length:=rel.length;show⟨_,[_],_,_,_,Z,I2,YMo (o:=od) h3,⟨_,Þ _ Z,Z,by rw[hlen];rfl⟩,λb hb=>?_,q⟩;let eb:=YO0.mp hb;rw[eb];show I1.fpOk (Å _)<|I1.hok.fresh<|Å _
def YG5{d:ai}{o:Obj}{kvs:ac (db×V)}{g:TG}{tb:TS}{D:Jg}{σ:St}{H:Hp}(Pv:Nat->St->Hp->Prop)(h0:Pv 0 σ H)(hl:∀i σ H,i<=kvs.length->Pv i σ H->H d=À (.frz o<|.dK kvs))
  (hs:∀i kv σ H,kvs[i]?=À kv->Pv i σ H->g (kV kv.1) σ H λσ2 H2=>tb { D with nx:=Pv (i+1),ct:=Pv (i+1),bk:=D.nx } σ2 H2)(hd:∀σ H,Pv kvs.length σ H->D.nx σ H):
  ∃W:Nat->Nat->St->Hp->Prop,(∃m,W 0 m σ H)/\∀i m σ H,W i m σ H->
   ((BQ d o kvs).stop i H/\D.nx σ H)\/((BQ d o kvs).go i H/\∃N:St->Hp->Prop,(∀σ' H',N σ' H'->∃m',m'<m/\W (i+1) m' σ' H')/\∀x H',(BQ d o kvs).yld i H x H'->g x σ H' λσ2 H2=>tb { D with nx:=N,ct:=N,bk:=D.nx } σ2 H2):=by
 show⟨λi m σ H=>m=kvs.length-i/\i<=kvs.length/\Pv i σ H,⟨kvs.length,by simp,Ë _,h0⟩,?_⟩;rintro i m σ H ⟨rfl,hi,p⟩;let q:=hl i σ H hi p;by_cases DT:i<kvs.length;show .inr ⟨⟨q,DT⟩,Pv<|i+1,λσ' H' p'=>⟨kvs.length-(i+1),by omega,Z,DT,p'⟩,λx H' y=>?_⟩;let⟨kv,hkv,Z,Z⟩:=y;show hs i kv σ _ hkv p;let ei:i=kvs.length:=by omega
 subst ei;show .inl ⟨⟨q,Z⟩,hd σ H p⟩
def Ŵ(a:Int)(t:Tok)(l:ai)(items:Array ah)(n:Nat)(dd:ag ai)(sl:Array<|ag ah):
  Meets (Builtin.«int.__rmul__» ⟨[.int a t,.ref l],[]⟩) (λ_ R s=>s.heap.get? l=À { cls:=.type "tuple",dict:=dd,data:=.seq items n,slots:=sl }/\R (.ok<|.ret Value.notImplemented) s):=
 .of_wp λprog w A R s h=>by let⟨hp,g,d,tk,os⟩:=s;let⟨hl,h⟩:=h;wp_walk;show⟨_,Z,h⟩
def YOP(l:ai)(items:Array ah)(n:Nat)(dd:ag ai)(sl:Array<|ag ah)(u:Tok):
  Meets (Builtin.«tuple.__mul__» ⟨[.ref l,.int 1 u],[]⟩) (λ_ R s=>s.heap.get? l=À { cls:=.type "tuple",dict:=dd,data:=.seq items n,slots:=sl }/\R (.ok<|.ret<|Value.ref l) s):=
 .of_wp λprog w A R s h=>by
  let⟨hp,g,d,tk,os⟩:=s;let⟨hl,h⟩:=h;let hc:(items.isEmpty || (1:Int)==1)=Â:=by rw[Ć];show .inr Z
  wp_walk using wpAny_loadPart' hl
  show⟨_,Z,h⟩
def YOQ(l:ai)(items:Array ah)(n:Nat)(dd:ag ai)(sl:Array<|ag ah)(u:Tok)(hne:items.isEmpty=Ã):
  Meets (Builtin.«tuple.__mul__» ⟨[.ref l,.int 0 u],[]⟩) (λ_ R s=>s.heap.get? l=À { cls:=.type "tuple",dict:=dd,data:=.seq items n,slots:=sl }/\R (.ok<|.ret<|Value.ref s.heap.objs.size) { s with heap:=s.heap.push { cls:=Value.type "tuple",data:=Data.seq #[] },toks:=s.toks }):=
 .of_wp λprog w A R s h=>by
  let⟨hp,g,d,tk,os⟩:=s;let⟨hl,h⟩:=h;let hc:(items.isEmpty || (0:Int)==1)=Ã:=by rw[hne];rfl
  wp_walk using wpAny_loadPart' hl
  show⟨_,Z,h⟩
section
variable {X:Cx}
@[ext]def YLf:R2:=λx y H Q=>∃l k xs,x=.ref l/\y=.int k/\H l=À (.tup xs)/\0<=k/\k<=1000/\xs≠[]/\xs.length*k.toNat<=1000/\
 (k=1->Q (.ref l) H)/\(k≠1->∀p,H p=Á->Q (.ref p) (upd H p<|.tup (List.replicate k.toNat xs).flatten))
def YMr:fI X (binaryOp .Mult) YLf:=by
 intro O s σ H x y v u Q I rx ry h;let⟨l,k,xs,Z,Z,hH,h1,h2,hne,hz,q1,q2⟩:=h;let⟨t,Z⟩:=ry;cases rx;let⟨its,r,pl,_⟩:=I.tuple<|cN.of hH;let⟨⟨cls,dd,data,sl⟩,ho,hc,n,hdt⟩:=id pl;simp only at hc hdt;subst hc hdt;let hl:its.length=xs.length:=r.length.symm;let Ef:its≠[]:=λz=>hne (by rw[z]at hl;show YPq.mp hl.symm);let hemp:its.toArray.isEmpty=Ã:=by
  cases its with
  |nil=>show absurd Z Ef
  |cons a b=>rfl
 let ht:s.TypeIs (Value.ref l) "tuple":=⟨_,ho,Z⟩;by_cases hk1:k=1;subst hk1;show wpAny_binaryOp_repeat_ref (T:="tuple") (U:="int") (by decide) ht (λs'=>typeIs_int s' 1 t) Ϩ F.fills_int_mul F.slot_int_rmul υ F.slot_int_index.lookup
  (call_meets F.slot_int_rmul (typeIs_int s 1 t) F.entry_int_rmul (F.args_int_rmul_2 _ _) (Ŵ 1 t l its.toArray n dd sl)
   ⟨ho,Z,ht,call_meets F.slot_tuple_mul ht F.entry_tuple_mul (F.args_tuple_mul_2 _ _) (YOP l its.toArray n dd sl t) ⟨ho,?_⟩⟩)
 show⟨.ref l,H,I,Z,q1 Z⟩;by_cases hk0:k=0;subst hk0;show wpAny_binaryOp_repeat_ref (T:="tuple") (U:="int") (by decide) ht (λs'=>typeIs_int s' 0 t) Ϩ F.fills_int_mul F.slot_int_rmul υ F.slot_int_index.lookup
  (call_meets F.slot_int_rmul (typeIs_int s 0 t) F.entry_int_rmul (F.args_int_rmul_2 _ _) (Ŵ 0 t l its.toArray n dd sl)
   ⟨ho,Z,ht,call_meets F.slot_tuple_mul ht F.entry_tuple_mul (F.args_tuple_mul_2 _ _) (YOQ l its.toArray n dd sl t hemp) ⟨ho,?_⟩⟩)
 show⟨.ref s.heap.objs.size,_,I.laid (t':=s.toks) (o:=.tup (List.replicate (0:Int).toNat xs).flatten) (λb ob q=>Ø _ q) (Å _) ?_,Z,q2 hk1 _<|I.hok.fresh<|Å _⟩;show⟨by rw[sizeLine_eq];change 0<=_;omega,_,r.rep 0,IsTup.new _ _⟩;let hmul:its.length*k.toNat<=1000:=by rw[hl];show hz
 let qK:((its.toArray.size:Nat):Int)*k=((its.length*k.toNat:Nat):Int):=by
  rw[Ô,Int.natCast_mul,Int.toNat_of_nonneg (by omega)]
 let hnew:List.foldl (λx1 x2=>x1++x2) #[] (List.replicate k.toNat its.toArray)=(List.replicate k.toNat its).flatten.toArray:=by
  have:=YDa its k.toNat [];rw[List.nil_append]at this;show this
 let hlen:(List.replicate k.toNat its).flatten.length<=sizeLine:=by
  rw[Δ,Ă,sizeLine_eq];omega
 show wpAny_binaryOp_repeat_ref (T:="tuple") (U:="int") (by decide) ht (λs'=>typeIs_int s' k t) Ϩ F.fills_int_mul F.slot_int_rmul υ F.slot_int_index.lookup
  (call_meets F.slot_int_rmul (typeIs_int s k t) F.entry_int_rmul (F.args_int_rmul_2 _ _) (Ŵ k t l its.toArray n dd sl)
   ⟨ho,Z,ht,call_meets F.slot_tuple_mul ht F.entry_tuple_mul (F.args_tuple_mul_2 _ _) (YNp l its.toArray n dd sl k t ?_ ?_ ?_ ?_ ?_ ?_) ⟨ho,?_⟩⟩)
 rw[Ć,fE,fE];intro z;omega;rw[hemp,Bool.false_or,beq_iff_eq];omega;rw[hemp,Bool.or_false,fE];omega;rw[qK];intro z;omega;unfold Builtin.Tuple.tupleTooMany;rw[qK,fE,sizeLine_eq];intro z;omega;rw[hnew,Ô];show hlen;rw[hnew];show⟨.ref s.heap.objs.size,_,I.laid (t':=s.toks) (o:=.tup (List.replicate k.toNat xs).flatten) (λb ob q=>Ø _ q) (Å _) ?_,Z,q2 hk1 _<|I.hok.fresh<|Å _⟩;show⟨by rw[Δ,Ă,sizeLine_eq];omega,_,r.rep k.toNat,IsTup.new _ _⟩
end
section
variable {M:Model}{A:Around}{E:ah->al->Prop}{s:al}{base:Heap}{env:Env}{outer l:ac Env}{DZ e:ai}{cls a0 c2 fl:ah}{Q:Unit->al->Prop}
end
section
variable {prog:Program}{w:World}{A:Around}{E:ah->al->Prop}{s:al}{e e0:ai}
end
section
variable {prog:Program}{w:World}{A:Around}{E:ah->al->Prop}{s:al}{env:Env}{e0:ai}
variable {nm q:am}{C N:ai}{bs bm bmB:ac ah}{hdct:Bool}{sn:ac am}{sub:ac ah}{ab:Bool}{col:ag Bool}{dd:ag ai}{k0 k1 k2 k3 k5:ag ah}{DY newId initId:String}
end
section
variable {X:Cx}{E:XK}{x:am}{C:ai}{e:Expr}{t:TA}{np bh pos:Pos}
end
section
variable {X:Cx}{k:Nat}{f:ai}{fd:FuncData}{ps:ac am}{sp:Sp}{g8:ac V}{ds:ac ah}{x:am}{p pos:Pos}{e:Expr}{es:ac Expr}{t:TA}
end
section
variable {X:Cx}{elt tg iter:Expr}{scope:Scope}{cl:ac (am×ai)}{N:ac am}{ρ:ac (ag Nat)}{pos:Pos}{wi:TI}{g:TG}{te:St->Hp->VK->XK->Prop}
end
@[ext]def DP(te:St->Hp->VK->XK->Prop):Jg->(St->XK)->St->Hp->Prop:=λD E σ H=>te σ H D.rt<|E σ
def pz{te:St->Hp->VK->XK->Prop}(he:ő X e te):ϓ X (.Return (À e) pos)<|DP te:=by
 intro O s σ H D E I h;show wpAny_Return_some<|wpAny_mono (he O s σ H _ _ I h) (λv s1 ⟨x,H1,I1,r1,q1⟩=>⟨x,σ,H1,I1,r1,q1⟩) λev s1 q=>⟨σ,q⟩
section
variable {X:Cx}{E:XK}{e1:Expr}{y z msg:am}{C C2:ai}{kn j:Nat}{p1 np np2 bh mp kp rpos hpos pos:Pos}{te:St->Hp->VK->XK->Prop}
end
section
variable {X:Cx}{a b c d:Expr}{ta tb tc td:TE}{pos:Pos}
end
end L2
namespace FR
open PySem L2
@[ext]def Yt{α:Type}(l:ac α)(f:α->Nat):Nat:=(l.map f).sum
def JO{α:Type}(f:α->Nat):Yt [] f=0:=rfl
def YX{α:Type}(a:α)(l:ac α)(f:α->Nat):Yt (a::l) f=f a+Yt l f:=rfl
def Jk{α:Type}(l m:ac α)(f:α->Nat):Yt (l++m) f=Yt l f+Yt m f:=by
 unfold Yt;rw[Î,List.sum_append]
def Zx{α:Type}{l:ac α}{f g:α->Nat}(h:∀x∈l,f x=g x):Yt l f=Yt l g:=by
 unfold Yt;rw[ý h]
def J0{α:Type}{l:ac α}{f:α->Nat}(h:∀x∈l,f x=0):Yt l f=0:=by
 induction l with
 |nil=>rfl
 |cons a l ih=>rw[YX,h a<|É ..,ih λx S=>h x<|Ç _ S]
def YOR{α:Type}(l:ac α)(f g:α->Nat):Yt l (λx=>f x+g x)=Yt l f+Yt l g:=by
 induction l with
 |nil=>rfl
 |cons a l ih=>rw[YX,YX,YX,ih];lia
def YDp{α β:Type}(l:ac α)(m:ac β)(f:α->β->Nat):Yt l (λx=>Yt m<|f x)=Yt m (λy=>Yt l<|λx=>f x y):=by
 induction l with
 |nil=>show(J0 λ_ _=>rfl).symm
 |cons a l ih=>
  rw[YX,ih,<-YOR];rfl
def Ϫ{α:Type}(l:ac α)(f:α->Nat)(c:Nat):Yt l f*c=Yt l (λx=>f x*c):=by
 induction l with
 |nil=>show ë c
 |cons a l ih=>rw[YX,YX,Nat.add_mul,ih]
def YEM{α:Type}{l:ac α}{p:α->Bool}{f:α->Nat}(h:∀x∈l,p x=Ã->f x=0):Yt (l.filter p) f=Yt l f:=by
 induction l with
 |nil=>rfl
 |cons a l ih=>
  let ih:=ih λx S=>h x<|Ç _ S;rw[ĉ];cases e:p a with
  |true=>rw[if_pos Z,YX,YX,ih]
  |false=>rw[if_neg (by simp),YX,ih,h a (É ..) e,ā]
def Dd{α:Type}[DecidableEq α]{l:ac α}(hn:l.Nodup){a:α}(ha:a∈l){f:α->Nat}(h:∀x∈l,x≠a->f x=0):Yt l f=f a:=by
 induction l with
 |nil=>cases ha
 |cons b l ih=>
  rw[YPN]at hn;rw[YX];by_cases e:b=a;subst e;rw[J0 λx S=>h x (Ç _ S) λz=>hn.1 (by rw[<-z];show S),Nat.add_zero];rw[h b (É ..) e,ā];show ih hn.2 ((YO9.mp ha).resolve_left<|λz=>e z.symm) λx S=>h x<|Ç _ S
def YI5{α:Type}{l:ac α}{f:α->Nat}(h:0<Yt l f):∃x∈l,0<f x:=by
 induction l with
 |nil=>cases h
 |cons a l ih=>
  rw[YX]at h;by_cases e:0<f a;show⟨a,É ..,e⟩;let⟨x,S,hp⟩:=ih (by lia);show⟨x,Ç _ S,hp⟩
def YLg{α:Type}{l:ac α}{f:α->Nat}{a:α}(h:a∈l):f a<=Yt l f:=by
 induction l with
 |nil=>cases h
 |cons b l ih=>
  rw[YX];rcases YO9.mp h with rfl|h
  lia;have:=ih h;lia
@[ext]def XJ(T:Nd->Nat)(w:ac Nd):Nat:=(w.map T).foldr (·*·) 1
structure Zi(g:YS)(n:Nat)(DS:List Nd)(T:Nd->Nat):Prop where
 out:∀x,x∉DS->T x=0
 eq:∀x∈DS,T x=Yt (Yf g n (dX DS) x) (XJ T)
def YI6(h:∀y∈w,T y=U y):XJ T w=XJ U w:=by
 unfold XJ;rw[ý h]
def YLh:∀(M:ac Nd),M.Nodup->(∀DY x A,M=DY++x::A->∀y∈(Yf g n (dX DS) x).flatten,y∈A)->∃T:Nd->Nat,(∀x,x∉M->T x=0)/\∀x∈M,T x=Yt (Yf g n (dX DS) x) (XJ T)
 |[],_,_=>⟨λ_=>0,λ_ _=>rfl,λx S=>by cases S⟩
 |a::M,hn,ho=>by
  rw[YPN]at hn;let⟨T,h1,h2⟩:=YLh M hn.2 λDY x A e=>ho (a::DY) x A (by rw[e];rfl);let hb:∀x,(x=a\/x∈M)->∀y∈(Yf g n (dX DS) x).flatten,y∈M:=λx S y hy=>by
   rcases S with rfl|S
   show ho [] x M Z y hy;let⟨A,DY,e⟩:=List.append_of_mem S;have:=ho (a::A) x DY (by rw[e];rfl) y hy;rw[e];show Ò _<|Ç _ this
  let same:∀x,(x=a\/x∈M)->Yt (Yf g n (dX DS) x) (XJ T)=Yt (Yf g n (dX DS) x) (XJ λy=>if y=a then Yt (Yf g n (dX DS) a) (XJ T) else T y):=λx S=>by
   show Zx λw hw=>YI6 λy hy=>?_;let hy':=hb x S y<|List.mem_flatten.mpr ⟨w,hw,hy⟩;rw[if_neg λe=>hn.1 (by rw[<-e];show hy')]
  show⟨λy=>if y=a then Yt (Yf g n (dX DS) a) (XJ T) else T y,λx S=>?_,λx S=>?_⟩;change(if x=a then _ else T x)=0;rw[if_neg<|λe=>S (by rw[e];simp)];show h1 x λh=>S<|Ç _ h;by_cases e:x=a;subst e;change(if x=x then _ else T x)=_;rw[if_pos Z];show same x<|.inl rfl;let hx':x∈M:=(YO9.mp S).resolve_left e;change(if x=a then _ else T x)=_;rw[if_neg e,h2 x hx'];show same x<|.inr hx'
def xW(hn:DZ.Nodup)(hs:∀x,x∈DZ<->x∈DS)(ho:∀A x DY,DZ=A++x::DY->∀y∈(Yf g n (dX DS) x).flatten,y∈A):∃T,Zi g n DS T:=by
 let⟨T,h1,h2⟩:=YLh (g:=g) (n:=n) (DS:=DS) DZ.reverse (List.pairwise_reverse.mpr<|hn.imp λh=>Ne.symm h) λDY x A e y hy=>by
  let e2:DZ=A.reverse++x::DY.reverse:=by
   have:=fT List.reverse e;rw[List.reverse_reverse,List.reverse_append,ã,Ý]at this;show this
  show YQa.mp<|ho _ _ _ e2 y hy
 show⟨T,λx S=>h1 x λh=>S<|(hs x).mp<|YQa.mp h,λx S=>h2 x<|YQa.mpr<|(hs x).mpr S⟩
structure gg(g:YS)(cs:List Nat)(F:Nd->Bool):Prop where
 leg:∀x,F x=Â->im g cs x
 zero:∀r i,r<g.length->i<=cs.length->F (.beg r 0 i i)=Â
 zeq:∀r i j,F (.beg r 0 i j)=Â->i=j
 sign:∀(i c:Nat),cs[i]?=À c->F (.part (Zp c) i<|i+1)=Â
 join:∀r d i k p j,ZT g r d=À p->F (.beg r d i k)=Â->F (.part p k j)=Â->F (.beg r (d+1) i j)=Â
 up:∀r ru i j,g[r]?=À ru->F (.beg r ru.2.1.length i j)=Â->F (.part ru.1 i j)=Â
@[ext]def Nc(T:Nd->Nat)(n:Nat):ac am->Nat->Nat
 |[],i=>if i=n then 1 else 0
 |p::ps,i=>Yt (List.range<|n+1) λe=>T (.part p i e)*Nc T n ps e
@[ext]def sP(F:Nd->Bool)(n:Nat):ac am->Nat->Prop
 |[],i=>i=n
 |p::ps,i=>∃e,e<=n/\F (.part p i e)=Â/\sP F n ps e
@[ext]def Xz(F:Nd->Bool)(DS:ac Nd)(n:Nat):ac am->Nat->Prop
 |[],_=>True
 |p::ps,i=>∀e,e<=n->F (.part p i e)=Â->sP F n ps e->.part p i e∈DS/\Xz F DS n ps e
section
variable {g:YS}{cs:ac Nat}{F:Nd->Bool}{DS:ac Nd}{top:ag Nd}{T:Nd->Nat}
def YOS:∀{ps:ac am}{i:Nat},¬sP F n ps i->Xz F DS n ps i
 |[],_,_=>trivial
 |p::ps,i,h=>λe he hf hc=>absurd ⟨e,he,hf,hc⟩ h
def oR(hT:Zi g cs.length DS T)(h:T x≠0):x∈DS:=Decidable.byContradiction λz=>h<|hT.out x z
def Cc(hW:ZF g cs.length F top DS)(hT:Zi g cs.length DS T):∀{ps:ac am}{i:Nat},Nc T cs.length ps i≠0->sP F cs.length ps i
 |[],i,h=>Decidable.byContradiction (p:=i=cs.length) λz=>h<|if_neg z
 |p::ps,i,h=>by
  let⟨e,he,hp⟩:=YI5<|Nat.pos_of_ne_zero h;let h1:T (.part p i e)≠0:=λz=>by rw[z,ë]at hp;cases hp
  let h2:Nc T cs.length ps e≠0:=λz=>by rw[z,î]at hp;cases hp
  show⟨e,by have:=YPY.mp he;lia,hW.sub _<|oR hT h1,Cc hW hT h2⟩
@[ext]def fG(T:Nd->Nat)(n r d i:Nat)(ps:ac am):Nat:=Yt (List.range<|n+1) λe=>T (.beg r d i e)*Nc T n ps e
@[ext]def As(F:Nd->Bool)(DS:ac Nd)(n r d i:Nat)(ps:ac am):Prop:=∀e,e<=n->F (.beg r d i e)=Â->sP F n ps e->.beg r d i e∈DS
def ng(hk:k<=n)(h1:F (.beg r d i k)=Â)(h2:F (.part (JJ g r d) k j)=Â):[Nd.beg r d i k,.part (JJ g r d) k j]∈Yf g n F (.beg r (d+1) i j):=by
 rw[Yf];show YPR.mpr ⟨k,YPg.mpr ⟨?_,h2⟩,Z⟩;unfold XI;show YPg.mpr ⟨YPY.mpr (by lia),h1⟩
def YKa(hS:gg g cs F)(hW:ZF g cs.length F top DS)(hp:ZT g r d=À p)(h:As F DS cs.length r (d+1) i ps):As F DS cs.length r d i (p::ps)/\∀k,k<=cs.length->F (.beg r d i k)=Â->(∀e,F (.beg r (d+1) i e)=Â->Xz F DS cs.length ps e)->Xz F DS cs.length (p::ps) k:=by
 let ep:JJ g r d=p:=by unfold JJ;rw[hp];rfl
 let both:∀k e,k<=cs.length->e<=cs.length->F (.beg r d i k)=Â->F (.part p k e)=Â->sP F cs.length ps e->.beg r d i k∈DS/\.part p k e∈DS:=λk e hk he h1 h2 hc=>by
  let hb:=h e he (hS.join r d i k p e hp h1 h2) hc;let hw:=ng (g:=g) (F:=F) hk h1 (by rw[ep];show h2);rw[ep]at hw;show⟨hW.cl _ hb _ hw _ (by simp),hW.cl _ hb _ hw _ (by simp)⟩
 show⟨λk hk h1 ⟨e,he,h2,hc⟩=>(both k e hk he h1 h2 hc).1,λk hk h1 hg e he h2 hc=>⟨(both k e hk he h1 h2 hc).2,hg e<|hS.join r d i k p e hp h1 h2⟩⟩
def YOT(hS:gg g cs F)(hW:ZF g cs.length F top DS)(hT:Zi g cs.length DS T)(hp:ZT g r d=À p)(h:As F DS cs.length r (d+1) i ps):fG T cs.length r (d+1) i ps=fG T cs.length r d i (p::ps):=by
 let ep:JJ g r d=p:=by unfold JJ;rw[hp];rfl
 let key:∀e∈List.range (cs.length+1),T (.beg r (d+1) i e)*Nc T cs.length ps e=Yt (List.range<|cs.length+1) λk=>T (.beg r d i k)*(T (.part p k e)*Nc T cs.length ps e):=λe he=>by
  let he':e<=cs.length:=by have:=YPY.mp he;lia
  by_cases h0:Nc T cs.length ps e=0;rw[h0,î];show(J0 λk _=>by rw[î,î]).symm;let hc:=Cc hW hT h0;let e1:T (.beg r (d+1) i e)=Yt (List.range<|cs.length+1) λk=>T (.beg r d i k)*T (.part p k e):=by
   by_cases DU:Nd.beg r (d+1) i e∈DS;rw[hT.eq _ DU];simp only[Yf,XI,List.filter_filter];unfold Yt;rw[é];change Yt _ _=_;rw[YEM];show Zx λk _=>?_;change T (.beg r d i k)*(T (.part (JJ g r d) k e)*1)=_;rw[Nat.mul_one,ep];intro k _ hk;change T (.beg r d i k)*(T (.part (JJ g r d) k e)*1)=0;rw[Bool.and_eq_false_iff]at hk;rcases hk with hk|hk
   rw[hT.out _<|of_decide_eq_false hk,ë,î];rw[hT.out _<|of_decide_eq_false hk,ë];rw[hT.out _ DU];show(J0 λk hk=>?_).symm;let hk':k<=cs.length:=by have:=YPY.mp hk;lia
   by_cases z1:T (.beg r d i k)=0;rw[z1,ë];by_cases z2:T (.part p k e)=0;rw[z2,î];show absurd (h e he' (hS.join r d i k p e hp (hW.sub _<|oR hT z1)<|hW.sub _<|oR hT z2) hc) DU
  rw[e1,Ϫ];show Zx λk _=>Nat.mul_assoc _ _ _
 unfold fG;rw[Zx key,YDp];show Zx λk _=>?_;change _=T (.beg r d i k)*Yt (List.range<|cs.length+1) λe=>T (.part p k e)*Nc T cs.length ps e;rw[Ă,Ϫ];show Zx λe _=>Ă _ _
def YOU(hS:gg g cs F)(hW:ZF g cs.length F top DS)(hT:Zi g cs.length DS T)(hr:r<g.length)(hi:i<=cs.length)(h:As F DS cs.length r 0 i ps):fG T cs.length r 0 i ps=Nc T cs.length ps i:=by
 unfold fG;rw[Dd Ę<|YPY.mpr (show i<cs.length+1 by lia)];by_cases h0:Nc T cs.length ps i=0;rw[h0,î];let DU:=h i hi (hS.zero r i hr hi)<|Cc hW hT h0;rw[hT.eq _ DU];change 1*_=_;rw[Nat.one_mul];intro e _ hne;by_cases z:T (.beg r 0 i e)=0;rw[z,ë];show absurd (hS.zeq r i e<|hW.sub _<|oR hT z).symm hne
end
def YI8{R es:ac Nat}{f:Nat->Nat}(hR:R.Nodup)(he:es.Nodup)(hs:∀e∈es,e∈R)(h0:∀e∈R,e∉es->f e=0):Yt R f=Yt es f:=by
 let h1:∀e∈es,f e=Yt R λr=>if r=e then f r else 0:=λe h=>by
  rw[Dd hR (hs e h) λx _ S=>if_neg S,if_pos Z]
 rw[Zx h1,YDp];show Zx λr hr=>?_;by_cases h:r∈es;rw[Dd he h λx _ S=>if_neg<|λz=>S z.symm,if_pos Z];rw[h0 r hr h];show(J0 λe he'=>if_neg λ(z:r=e)=>h (by rw[z];show he')).symm
section
variable {g:YS}{cs:ac Nat}{F:Nd->Bool}{DS:ac Nd}{top:ag Nd}{T:Nd->Nat}
def YG6(hS:gg g cs F)(hW:ZF g cs.length F top DS)(hT:Zi g cs.length DS T)(hr:g[r]?=À ru)(hb:As F DS cs.length r ru.2.1.length i ps)(hg:∀k,k<=cs.length->F (.beg r ru.2.1.length i k)=Â->Xz F DS cs.length ps k):
  ∀m,m<=ru.2.1.length->As F DS cs.length r (ru.2.1.length-m) i (ru.2.1.drop (ru.2.1.length-m)++ps)/\fG T cs.length r ru.2.1.length i ps=fG T cs.length r (ru.2.1.length-m) i (ru.2.1.drop (ru.2.1.length-m)++ps)/\
   ∀k,k<=cs.length->F (.beg r (ru.2.1.length-m) i k)=Â->Xz F DS cs.length (ru.2.1.drop (ru.2.1.length-m)++ps) k
 |0,_=>by
  rw[Nat.sub_zero,č];show⟨hb,Z,hg⟩
 |m+1,hm=>by
  let⟨h1,h2,h3⟩:=YG6 hS hW hT hr hb hg m (by lia);obtain⟨d,hd⟩:∃d,ru.2.1.length-(m+1)=d:=⟨_,Z⟩;let ug:ru.2.1.length-m=d+1:=by lia
  let hdl:d<ru.2.1.length:=by lia
  rw[ug]at h1 h2 h3;rw[hd,í hdl,List.cons_append];let hp:ZT g r d=À ru.2.1[d]:=by unfold ZT;rw[hr];show Ê hdl
  let⟨g1,g2⟩:=YKa hS hW hp h1;show⟨g1,h2.trans<|YOT hS hW hT hp h1,λk hk hf=>g2 k hk hf λe he=>h3 e ?_ he⟩;show(hS.leg _ he).2.2
def Ck(hS:gg g cs F)(hW:ZF g cs.length F top DS)(hT:Zi g cs.length DS T)(hr:g[r]?=À ru)(hq:eW ru.1=Ã)(hi:i<=cs.length)(h:Xz F DS cs.length (ru.1::ps) i):
  fG T cs.length r ru.2.1.length i ps=Nc T cs.length (ru.2.1++ps) i/\Xz F DS cs.length (ru.2.1++ps) i:=by
 let hrl:=(YOx.mp hr).1;let hup:∀e,F (.beg r ru.2.1.length i e)=Â->F (.part ru.1 i e)=Â:=λe he=>hS.up r ru i e hr he;let hb:As F DS cs.length r ru.2.1.length i ps:=λe he hf hc=>by
  let⟨h1,_⟩:=h e he (hup e hf) hc;show hW.cl _ h1 [.beg r ru.2.1.length i e] ?_ _ (by simp);rw[Yf,if_neg (by rw[hq];decide)];show YPR.mpr ⟨r,YPg.mpr ⟨ZO.mpr ⟨ru,hr,Z⟩,?_⟩,?_⟩;rw[vx hr];show hf;rw[vx hr]
 let⟨h1,h2,h3⟩:=YG6 hS hW hT hr hb (λk hk hf=>by
  by_cases hc:sP F cs.length ps k;show(h k hk (hup k hf) hc).2;show YOS hc) ru.2.1.length<|Å _
 rw[ö,Ċ]at h1 h2 h3;show⟨h2.trans<|YOU hS hW hT hrl hi h1,h3 i hi<|hS.zero r i hrl hi⟩
def Ŏ(hS:gg g cs F)(hW:ZF g cs.length F top DS)(hT:Zi g cs.length DS T)(hq:eW p=Ã)(h:Xz F DS cs.length (p::ps) i):
  Nc T cs.length (p::ps) i=Yt (YM g p) λr=>fG T cs.length r (ZH g r) i ps:=by
 let key:∀e∈List.range (cs.length+1),T (.part p i e)*Nc T cs.length ps e=Yt (YM g p) λr=>T (.beg r (ZH g r) i e)*Nc T cs.length ps e:=λe he=>by
  let he':e<=cs.length:=by have:=YPY.mp he;lia
  rw[<-Ϫ];by_cases h0:Nc T cs.length ps e=0;rw[h0,î,î];congr 1;by_cases DU:Nd.part p i e∈DS;rw[hT.eq _ DU,Yf,if_neg (by rw[hq];decide)];unfold Yt;rw[é];change Yt _ _=_;rw[YEM];show Zx λr _=>?_;change T (.beg r (ZH g r) i e)*1=_;rw[Nat.mul_one];intro r _ hr;change T (.beg r (ZH g r) i e)*1=0;rw[hT.out _<|of_decide_eq_false hr,ë];rw[hT.out _ DU];show(J0 λr hr=>Decidable.byContradiction λz=>DU ?_).symm;let⟨ru,e1,e2⟩:=ZO.mp hr;rw[vx e1]at z;let hf:=hS.up r ru i e e1<|hW.sub _<|oR hT z;rw[e2]at hf;show(h e he' hf<|Cc hW hT h0).1
 change Yt _ _=_;rw[Zx key,YDp];rfl
def ń(c:Nat):eW (Zp c)=Â:=YG2 c
def YI9(hh:∀ru∈g,eW ru.1=Ã)(hq:eW p=Â)(h:im g cs<|.part p i j):∃c,cs[i]?=À c/\p=Zp c/\j=i+1:=by
 rcases h.1 with h1|h1
 let⟨ru,hr,Z⟩:=YPR.mp h1;rw[hh ru hr]at hq;cases hq;show h1
def YG7(hh:∀ru∈g,eW ru.1=Ã)(hS:gg g cs F)(hW:ZF g cs.length F top DS)(hT:Zi g cs.length DS T)(hq:eW p=Â)(h0:Nc T cs.length (p::ps) i≠0):
  Nc T cs.length (p::ps) i=Nc T cs.length ps (i+1)/\i+1<=cs.length/\(∃c,cs[i]?=À c/\p=Zp c)/\(Xz F DS cs.length (p::ps) i->Xz F DS cs.length ps (i+1)):=by
 let⟨e,he,hp⟩:=YI5<|Nat.pos_of_ne_zero h0;let ht:T (.part p i e)≠0:=λz=>by rw[z,ë]at hp;cases hp
 let⟨c,hc,ec,Z⟩:=YI9 hh hq<|hS.leg _<|hW.sub _<|oR hT ht;let hi:i+1<=cs.length:=(YOx.mp hc).1;let h1:Nc T cs.length (p::ps) i=T (.part p i<|i+1)*Nc T cs.length ps (i+1):=by
  change Yt _ _=_;rw[Dd Ę he];intro k _ hk;by_cases z:T (.part p i k)=0;rw[z,ë];let⟨_,_,_,ek⟩:=YI9 hh hq<|hS.leg _<|hW.sub _<|oR hT z;show absurd ek hk
 let h2:T (.part p i<|i+1)=1:=by
  rw[hT.eq _<|oR hT ht,Yf,if_pos hq];rfl
 rw[h2,Nat.one_mul]at h1;let hN:Nc T cs.length ps (i+1)≠0:=by rw[<-h1];show h0
 show⟨h1,hi,⟨c,hc,ec⟩,λhG=>(hG (i+1) hi (hW.sub _<|oR hT ht)<|Cc hW hT hN).2⟩
@[ext]def ZU:ac am->Nat->ac am×Nat
 |[],i=>([],i)
 |p::ps,i=>if eW p=Â then ZU ps (i+1) else (p::ps,i)
def YG8(hh:∀ru∈g,eW ru.1=Ã)(hS:gg g cs F)(hW:ZF g cs.length F top DS)(hT:Zi g cs.length DS T):∀{ps:ac am}{i:Nat},i<=cs.length->Nc T cs.length ps i≠0->Xz F DS cs.length ps i->
  Nc T cs.length (ZU ps i).1 (ZU ps i).2=Nc T cs.length ps i/\(ZU ps i).2<=cs.length/\Xz F DS cs.length (ZU ps i).1 (ZU ps i).2/\(∀p qs,(ZU ps i).1=p::qs->eW p=Ã)
 |[],i,hi,h0,hG=>⟨Z,hi,hG,λp qs e=>by cases e⟩
 |p::ps,i,hi,h0,hG=>by
  unfold ZU;cases hq:eW p with
  |false=>
   rw[if_neg (by decide)];show⟨Z,hi,hG,λp' qs e=>by cases e;show hq⟩
  |true=>
   rw[if_pos Z];let⟨h1,h2,_,h3⟩:=YG7 hh hS hW hT hq h0;let⟨k1,k2,k3,k4⟩:=YG8 hh hS hW hT h2 (by rw[<-h1];show h0)<|h3 hG;show⟨k1.trans h1.symm,k2,k3,k4⟩
end
@[ext]def gi(t:am×Nat):ac db:=[.inr t.1,.inl (t.2:Int)]
def md(h:gi t=gi u):t=u:=by
 unfold gi at h;simp only[List.cons.injEq,Sum.inr.injEq,Sum.inl.injEq,Int.ofNat_inj,and_true]at h;show Prod.ext h.1 h.2
structure j3(H0 H:Hp)(d:Addr)(own:Addr->Option (Str×Nat))(E:Str×Nat->List V)(N:Nat):Prop where
 sm:YG H0 H
 h:∃kvs,H d=À (.dT kvs)/\kvs.length<=N/\∀t,(Yj kvs (gi t)=Á/\E t=[])\/∃a,Yj kvs (gi t)=À (.ref a)/\own a=À t/\H a=À (.lst<|E t)
 on:∀a t,own a=À t->H0 a=Á/\∃xs,H a=À (.lst xs)
 nd:H0 d=Á
 le:∀t,(E t).length<=N
section
variable {H0 H H':Hp}{d:ai}{own:ai->ag (am×Nat)}{E:am×Nat->ac V}{N:Nat}
def j3.same(g:j3 H0 H d own E N)(s:YG H H'):j3 H0 H' d own E N:=by
 let⟨kvs,e1,e2,e3⟩:=g.h;show⟨g.sm.trans s,⟨kvs,s _ _ e1,e2,λt=>(e3 t).imp id λ⟨a,z1,z2,z3⟩=>⟨a,z1,z2,s _ _ z3⟩⟩,λa t e=>let ⟨z1,xs,z2⟩:=g.on a t e;⟨z1,xs,s _ _ z2⟩,g.nd,g.le⟩
def j3.more(g:j3 H0 H d own E N)(ha:own a=À t)(hv:∀kvs,H d=À (.dT kvs)->Yj kvs (gi t)=À (.ref a))(v:V):j3 H0 (upd H a<|.lst<|E t++[v]) d own (λt'=>if t'=t then E t++[v] else E t')<|N+1:=by
 let⟨kvs,e1,e2,e3⟩:=g.h;let⟨na,zf,qu⟩:=g.on a t ha;let hda:d≠a:=Yi e1 qu nofun;show⟨g.sm.put na,⟨kvs,by rw[YB hda];show e1,by lia,λt'=>?_⟩,λc t' e=>?_,g.nd,λt'=>?_⟩;by_cases ht:t'=t;subst ht;rw[if_pos Z];show .inr ⟨a,hv kvs e1,ha,YA⟩;rw[if_neg ht];show(e3 t').imp id λ⟨c,z1,z2,z3⟩=>⟨c,z1,z2,?_⟩;rw[YB (λz=>by rw[z,ha]at z2;cases z2;show ht Z)];show z3;let⟨z1,xs,z2⟩:=g.on c t' e;by_cases hc:c=a;subst hc;show⟨z1,_,YA⟩;show⟨z1,xs,by rw[YB hc];show z2⟩;by_cases ht:t'=t;rw[if_pos ht,È];show Nat.succ_le_succ<|g.le t;rw[if_neg ht];have:=g.le t';lia
def j3.fresh(g:j3 H0 H d own E N)(he:H e=À (.lst []))(h0:H0 e=Á)(ho:own e=Á)(hd:H d=À (.dT kvs))(hv:Yj kvs (gi t)=Á):j3 H0 (upd H d<|.dT<|Y3 kvs (gi t)<|.ref e) d (λc=>if c=e then À t else own c) E<|N+1:=by
 let⟨jX,e1,e2,e3⟩:=g.h;let ek:kvs=jX:=by rw[hd]at e1;cases e1;rfl
 subst ek;let hE:E t=[]:=by
  rcases e3 t with z|⟨a,z1,z2,z3⟩
  show z.2;rw[hv]at z1;cases z1
 let kl:∀c ys,H c=À (.lst ys)->upd H d (.dT<|Y3 kvs (gi t)<|.ref e) c=À (.lst ys):=λc ys z=>by rw[YB<|Yi z hd nofun];show z
 show⟨g.sm.put g.nd,⟨_,YA,by have:=Zt kvs (gi t)<|.ref e;lia,λt'=>?_⟩,λc t' z=>?_,g.nd,λt'=>by have:=g.le t';lia⟩;rw[Z0];by_cases ht:t'=t;subst ht;rw[if_pos Z,hE];show .inr ⟨e,Z,if_pos Z,kl _ _ he⟩;rw[if_neg<|λz=>ht<|md z];show(e3 t').imp id λ⟨c,z1,z2,z3⟩=>⟨c,z1,by rw[if_neg (λy=>by rw[y,ho]at z2;cases z2)];show z2,kl _ _ z3⟩;by_cases hc:c=e;subst hc;show⟨h0,_,kl _ _ he⟩;rw[if_neg hc]at z;let⟨z1,xs,z2⟩:=g.on c t' z;show⟨z1,xs,kl _ _ z2⟩
end
@[ext]def ix(t:am×Nat):Nd->ag Nat
 |.part p i j=>if p=t.1/\j=t.2 then À i else Á
 |.beg ..=>Á
@[ext]def Jl(DZ:ac Nd)(t:am×Nat):ac Nat:=DZ.filterMap<|ix t
def YFj:b∈Jl DZ (p,e)<->Nd.part p b e∈DZ:=by
 unfold Jl;rw[YQc];constructor;rintro⟨x,S,h⟩;cases x with
 |part q i j=>
  let h:(if q=p/\j=e then À i else Á)=À b:=h;by_cases hc:q=p/\j=e;rw[if_pos hc]at h;cases h;rw[<-hc.1,<-hc.2];show S;rw[if_neg hc]at h;cases h
 |beg r d i j=>cases h
 intro h;show⟨_,h,show(if p=p/\e=e then À b else Á)=À b from if_pos ⟨Z,Z⟩⟩
def YKb(h:DZ.Nodup)(t:am×Nat):(Jl DZ t).Nodup:=by
 unfold Jl
 induction DZ with
 |nil=>show å
 |cons x DZ ih=>
  rw[YPN]at h;rw[ď];cases e:ix t x with
  |none=>show ih h.2
  |some b=>
   show YPN.mpr ⟨λhm=>h.1 ?_,ih h.2⟩;let t_:Nd.part t.1 b t.2∈DZ:=YFj.mp hm;let ex:x=.part t.1 b t.2:=by
    cases x with
    |part q i j=>
     let e:(if q=t.1/\j=t.2 then À i else Á)=À b:=e;by_cases hc:q=t.1/\j=t.2;rw[if_pos hc]at e;cases e;rw[hc.1,hc.2];rw[if_neg hc]at e;cases e
    |beg r d i j=>cases e
   rw[ex];show t_
def YG9{DZ:ac Nd}{i:Nat}{x:Nd}(h:DZ[i]?=À x)(t:am×Nat):Jl (DZ.take<|i+1) t=Jl (DZ.take i) t++(ix t x).toList:=by
 unfold Jl;rw[â,h,List.filterMap_append];change _++List.filterMap (ix t) [x]=_;rw[ď];cases ix t x <;> rfl
def YMs{DZ:ac Nd}{i a c:Nat}{p:am}(h:DZ[i]?=À (.part p a c))(t:am×Nat):Jl (DZ.take<|i+1) t=if t=(p,c) then Jl (DZ.take i) t++[a] else Jl (DZ.take i) t:=by
 rw[YG9 h];by_cases e:t=(p,c);subst e;rw[if_pos Z,show ix (p,c) (.part p a c)=À a from if_pos ⟨Z,Z⟩];rfl;rw[if_neg e,show ix t (.part p a c)=Á from if_neg λz=>e<|Prod.ext z.1.symm z.2.symm];show ß _
def YOV{DZ:ac Nd}{i r d a c:Nat}(h:DZ[i]?=À (.beg r d a c))(t:am×Nat):Jl (DZ.take<|i+1) t=Jl (DZ.take i) t:=by
 rw[YG9 h];show ß _
@[ext]def XL(H:Hp)(vs:ac V)(bs:ac Nat)(f:Nat->Int):Prop:=vs.length=bs.length/\∀(i:Nat) (v:V) (b:Nat),vs[i]?=À v->bs[i]?=À b->∃t,v=.ref t/\H t=À (.tup [nV b,.int<|f b])
def XL.same(h:XL H vs bs f)(s:YG H H'):XL H' vs bs f:=⟨h.1,λi v b e1 e2=>let ⟨t,z1,z2⟩:=h.2 i v b e1 e2;⟨t,z1,s _ _ z2⟩⟩
def XL.keep(h:XL H vs bs f)(s:∀t ys,H t=À (.tup ys)->H' t=À (.tup ys)):XL H' vs bs f:=⟨h.1,λi v b e1 e2=>let ⟨t,z1,z2⟩:=h.2 i v b e1 e2;⟨t,z1,s _ _ z2⟩⟩
def XL.snoc(h:XL H vs bs f)(ht:H t=À (.tup [nV b,.int<|f b])):XL H (vs++[.ref t]) (bs++[b]) f:=by
 show⟨by rw[È,È,h.1];rfl,λi v b' e1 e2=>?_⟩;by_cases hi:i<vs.length;rw[ä hi]at e1;rw[ä (by rw[<-h.1];show hi)]at e2;show h.2 i v b' e1 e2;rw[à (by lia)]at e1;rw[à (by rw[<-h.1];lia),<-h.1]at e2;let h0:i-vs.length=0:=by
  cases hh:i-vs.length with
  |zero=>rfl
  |succ j=>rw[hh]at e1;simp at e1
 rw[h0]at e1 e2;cases e1;cases e2;show⟨t,Z,ht⟩
end FR
namespace L2
open PySem PySem.Spec PyProof.Rows
@[ext]def wv(t:TE):TE:=λσ H Q=>t σ H λv H1=>∃d kvs,H1 d=À (.dK kvs)/\∀o,Q v<|upd H1 d<|.frz o<|.dK kvs
def YJA(h:PE X e t):PE X e<|wv t:=by
 intro O s σ H Q I hw;show cy (h O s σ H _ I hw) ?_;rintro v s1 ⟨x,H1,I1,r1,d,kvs,e0,q⟩;let⟨o,ho⟩:=(I1.hok d _ e0).at_;show⟨x,_,I1.freeze e0 ho,r1,q o⟩
end L2
namespace FR
open PySem L2
@[ext]def hV(N:Nat->Nat)(l:ac Nat)(a r a':Nat):Prop:=∃A DY,l=A++r::DY/\a=Yt A N+a'/\a'<N r
def hV.skip(h:hV N l a r a'):hV N (x::l) (N x+a) r a':=by
 let⟨A,DY,e1,e2,e3⟩:=h;show⟨x::A,DY,by rw[e1];rfl,by rw[YX,e2];lia,e3⟩
def hV.mem(h:hV N l a r a'):r∈l:=by
 let⟨A,DY,e1,_⟩:=h;rw[e1];simp
def YOW(hs:cl.Sublist l)(hn:l.Nodup)(h0:∀r∈l,r∉cl->N r=0)(h:hV N cl a r a'):hV N l a r a':=by
 induction hs generalizing a with
 |slnil=>
  let⟨A,DY,e1,_⟩:=h;cases A <;> cases e1
 |@cons cl l x hs ih=>
  rw[YPN]at hn;let S:x∉cl:=λz=>hn.1<|hs.subset z;have:=(ih hn.2 (λr hr hc=>h0 r (Ç _ hr) hc) h).skip (x:=x);rw[h0 x (É ..) S,ā]at this;show this
 |@cons_cons cl l x hs ih=>
  rw[YPN]at hn;let⟨A,DY,e1,e2,e3⟩:=h;cases A with
  |nil=>
   cases e1;show⟨[],l,Z,e2,e3⟩
  |cons y A=>
   cases e1;have:=(ih hn.2 (λr hr hc=>h0 r (Ç _ hr) λz=>(YO9.mp z).elim (λe=>hn.1 (by rw[<-e];show hr)) hc) ⟨A,DY,Z,Z,e3⟩).skip (x:=x);rw[e2,YX,Nat.add_assoc];show this
def YLi(hs:cl.Sublist l)(hn:l.Nodup)(h0:∀r∈l,r∉cl->N r=0):Yt cl N=Yt l N:=by
 induction hs with
 |slnil=>rfl
 |@cons cl l x hs ih=>
  rw[YPN]at hn;rw[YX,h0 x (É ..)<|λz=>hn.1<|hs.subset z,ā];show ih hn.2 λr hr hc=>h0 r (Ç _ hr) hc
 |@cons_cons cl l x hs ih=>
  rw[YPN]at hn;rw[YX,YX,ih hn.2 λr hr hc=>h0 r (Ç _ hr) λz=>(YO9.mp z).elim (λe=>hn.1 (by rw[<-e];show hr)) hc]
def YLj:∀{l:ac Nat},l.Pairwise (·<·)->∀{a b r s a' b':Nat},hV N l a r a'->hV N l b s b'->a<b->r<s\/(r=s/\a'<b')
 |[],_,a,b,r,s,a',b',⟨A,DY,e,_⟩,_,_=>by cases A <;> cases e
 |x::l,hp,a,b,r,s,a',b',⟨A,DY,e1,e2,e3⟩,⟨A2,B2,f1,f2,f3⟩,hl=>by
  rw[YQq]at hp;cases A with
  |nil=>
   cases e1;cases A2 with
   |nil=>
    cases f1;let e2:a=Yt ([]:ac Nat) N+a':=e2;let f2:b=Yt ([]:ac Nat) N+b':=f2;show .inr ⟨Z,by lia⟩
   |cons y A2=>
    cases f1;show .inl<|hp.1 s (by simp)
  |cons y A=>
   let⟨Z,q1⟩:=List.cons.inj (show x::l=y::(A++r::DY) from e1);rw[YX]at e2;cases A2 with
   |nil=>
    let⟨Z,q2⟩:=List.cons.inj (show x::l=s::B2 from f1);let f2:b=Yt ([]:ac Nat) N+b':=f2;rw[JO]at f2;lia
   |cons y2 A2=>
    let⟨Z,q2⟩:=List.cons.inj (show x::l=y2::(A2++s::B2) from f1);rw[YX]at f2;show YLj hp.2 (a:=a-N x) (b:=b-N x) ⟨A,DY,q1,by lia,e3⟩ ⟨A2,B2,q2,by lia,f3⟩ (by lia)
def YHt:∀{l:ac Nat},l.Pairwise (·<·)->∀{a r s a' b':Nat},hV N l a r a'->hV N l a s b'->r=s/\a'=b'
 |[],_,a,r,s,a',b',⟨A,DY,e,_⟩,_=>by cases A <;> cases e
 |x::l,hp,a,r,s,a',b',⟨A,DY,e1,e2,e3⟩,⟨A2,B2,f1,f2,f3⟩=>by
  rw[YQq]at hp;cases A with
  |nil=>
   cases e1;let e2:a=Yt ([]:ac Nat) N+a':=e2;rw[JO]at e2;cases A2 with
   |nil=>
    cases f1;let f2:a=Yt ([]:ac Nat) N+b':=f2;rw[JO]at f2;show⟨Z,by lia⟩
   |cons y A2=>
    cases f1;rw[YX]at f2;lia
  |cons y A=>
   let⟨Z,q1⟩:=List.cons.inj (show x::l=y::(A++r::DY) from e1);rw[YX]at e2;cases A2 with
   |nil=>
    let⟨Z,q2⟩:=List.cons.inj (show x::l=s::B2 from f1);let f2:a=Yt ([]:ac Nat) N+b':=f2;rw[JO]at f2;lia
   |cons y2 A2=>
    let⟨Z,q2⟩:=List.cons.inj (show x::l=y2::(A2++s::B2) from f1);rw[YX]at f2;show YHt hp.2 (a:=a-N x) ⟨A,DY,q1,by lia,e3⟩ ⟨A2,B2,q2,by lia,f3⟩
def CQ(g:YS)(p:am):(YM g p).Pairwise (·<·):=by
 unfold YM;show List.pairwise_lt_range.filter _
def Ct(g:YS)(p:am):(YM g p).Nodup:=(CQ g p).imp λh=>Ü h
inductive JY(g:YS)(T:Nd->Nat)(n:Nat):Nat->List Str->Nat->List Nat->Nat->List Str->Nat->Prop
 |nil {i:Nat}{qs:List Str}{a:Nat}:JY g T n i qs a [] i qs a
 |cons {i j:Nat}{p:Str}{ps qs:List Str}{a r a' b:Nat}{ru:fU}{row:List Nat}:hV (λr=>fG T n r (ZH g r) i ps) (YM g p) a r a'->g[r]?=À ru->JY g T n (ZU (ru.2.1++ps) i).2 (ZU (ru.2.1++ps) i).1 a' row j qs b->JY g T n i (p::ps) a (r::row) j qs b
def JY.app(h:JY g T n i ps a row j qs b)(h':JY g T n j qs b nU k rs c):JY g T n i ps a (row++nU) k rs c:=by
 induction h with
 |nil=>show h'
 |cons p hr _ ih=>show .cons p hr<|ih h'
inductive kz:List Nat->List Nat->Prop
 |here {r s:Nat}{x y:List Nat}:r<s->kz (r::x) (s::y)
 |on {r:Nat}{x y:List Nat}:kz x y->kz (r::x) (r::y)
def œ(h:JY g T n i ps a x j [] c)(h':JY g T n i ps b y k [] d)(hc:c=0)(hd:d=0)(hl:a<b):kz x y:=by
 generalize he:([]:ac am)=e at h h'
 induction h generalizing b y with
 |nil=>
  subst he;cases h';lia
 |@cons i j p ps qs a r a' c ru row pk hr h ih=>
  cases h' with
  |nil=>cases he
  |@cons _ _ _ _ _ _ s b' _ pH nU zm hr' h'=>
   rcases YLj (CQ g p) pk zm hl with z|⟨rfl,z⟩
   show .here z;have:ru=pH:=Û<|hr.symm.trans hr';subst this;show .on<|ih hc z he h'
def xZ(h:JY g T n i ps a x j [] c)(h':JY g T n i ps a y k [] d):x=y:=by
 generalize he:([]:ac am)=e at h h'
 induction h generalizing y with
 |nil=>
  subst he;cases h';rfl
 |@cons i j p ps qs a r a' c ru row pk hr h ih=>
  cases h' with
  |nil=>cases he
  |@cons _ _ _ _ _ _ s b' _ pH nU zm hr' h'=>
   let⟨Z,Z⟩:=YHt (CQ g p) pk zm;have:ru=pH:=Û<|hr.symm.trans hr';subst this;rw[ih he h']
section
variable {g:YS}{cs:ac Nat}{F:Nd->Bool}{DS:ac Nd}{top:ag Nd}{T:Nd->Nat}
structure so(g:YS)(F:Nd->Bool)(DS:List Nd)(T:Nd->Nat)(n i:Nat)(qs:List Str)(a:Nat):Prop where
 le:i<=n
 lt:a<Nc T n qs i
 good:Xz F DS n qs i
 name:∀p ps,qs=p::ps->eW p=Ã
def so.sum(hS:gg g cs F)(hW:ZF g cs.length F top DS)(hT:Zi g cs.length DS T)(h:so g F DS T cs.length i (p::ps) a):a<Yt (YM g p) λr=>fG T cs.length r (ZH g r) i ps:=by
 rw[<-Ŏ hS hW hT (h.name p ps Z) h.good];show h.lt
def so.step(hh:∀ru∈g,eW ru.1=Ã)(hS:gg g cs F)(hW:ZF g cs.length F top DS)(hT:Zi g cs.length DS T)(h:so g F DS T cs.length i (p::ps) a)(hp:hV (λr=>fG T cs.length r (ZH g r) i ps) (YM g p) a r a')(hr:g[r]?=À ru):so g F DS T cs.length (ZU (ru.2.1++ps) i).2 (ZU (ru.2.1++ps) i).1 a':=by
 let⟨pH,hr',Z⟩:=ZO.mp hp.mem;have:pH=ru:=Û<|hr'.symm.trans hr;subst this;let⟨A,DY,_,_,DT⟩:=hp;let el:ZH g r=pH.2.1.length:=by unfold ZH;rw[hr];rfl
 let DT:a'<fG T cs.length r (ZH g r) i ps:=DT;let⟨f1,f2⟩:=Ck hS hW hT hr (h.name _ _ Z) h.le h.good;rw[el,f1]at DT;let⟨s1,s2,s3,s4⟩:=YG8 hh hS hW hT h.le (by lia) f2;show⟨s2,by rw[s1];show DT,s3,s4⟩
end
section
variable {g:YS}{cs:ac Nat}{F:Nd->Bool}{DS:ac Nd}{top:ag Nd}{T:Nd->Nat}
end
inductive kG(M:Nd->Prop)(wt:Nd->Nat):List Str->Nat->Nat->Nat->Prop
 |nil {i:Nat}:kG M wt [] i i 0
 |cons {p:Str}{ps:List Str}{i e j W:Nat}:M (.part p i e)->kG M wt ps e j W->kG M wt (p::ps) i j (wt (.part p i e)+W)
def kG.split{M:Nd->Prop}:∀{ps qs:ac am}{i j W:Nat},kG M wt (ps++qs) i j W->∃e W1 W2,kG M wt ps i e W1/\kG M wt qs e j W2/\W=W1+W2
 |[],qs,i,j,W,h=>⟨i,0,W,.nil,h,(ā W).symm⟩
 |p::ps,qs,i,j,W,h=>by
  cases h with
  |cons hm h=>
   let⟨e,W1,W2,h1,h2,Z⟩:=kG.split (ps:=ps) h;show⟨e,_,W2,.cons hm h1,h2,(Nat.add_assoc ..).symm⟩
@[ext]def e0:Nat->Nat
 |0=>1
 |1=>4
 |_=>13
section
variable {g:YS}{cs:ac Nat}{F:Nd->Bool}{DS:ac Nd}{top:ag Nd}{T rk:Nd->Nat}{Ns:ac am}
def YLk(hS:gg g cs F){M:Nd->Prop}(hM:∀y,M y->F y=Â)(hr:g[r]?=À ru):∀{m d k e W:Nat},d+m=ru.2.1.length->kG M wt (ru.2.1.drop d) k e W->F (.beg r d i k)=Â->F (.beg r ru.2.1.length i e)=Â
 |0,d,k,e,W,hd,h,hf=>by
  let hd:d=ru.2.1.length:=hd;subst hd;rw[č]at h;cases h;show hf
 |m+1,d,k,e,W,hd,h,hf=>by
  let hdl:d<ru.2.1.length:=by lia
  rw[í hdl]at h;cases h with
  |@cons _ _ _ b _ _ hm h=>
   let hp:ZT g r d=À ru.2.1[d]:=by unfold ZT;rw[hr];show Ê hdl
   show YLk (m:=m) hS hM hr (by lia) h<|hS.join r d i k _ b hp hf<|hM _ hm
end
@[ext]def top(i:Nat):Stmt:=PySem.Challenge.pw_forestread_k52_whole_number_of_rows.main.body.getD i<|.Pass ⟨0,0,0,0⟩
noncomputable abbrev ť:Stmt:=top 13
noncomputable abbrev XA:Stmt:=top 14
noncomputable abbrev Ś:Stmt:=top 15
noncomputable abbrev Ρ:Stmt:=top 16
noncomputable abbrev YDs:Stmt:=top 17
noncomputable abbrev Φ:Stmt:=top 23
noncomputable abbrev ϑ:Stmt:=top 24
noncomputable abbrev YDt:Stmt:=top 25
noncomputable abbrev ś:Stmt:=top 26
noncomputable abbrev Γ:Stmt:=top 27
structure Adr where
 Wood:Addr
 Walk:Addr
 Rests:Addr
 Many:Addr
 NoGrammar:Addr
 NoRow:Addr
 Reading:Addr
 NoText:Addr
 Growth:Addr
 Endless:Addr
 TooGreat:Addr
 none_:Addr
structure Txt(K:W.Frag)(mg:Str->Option Value)(C:Adr):Prop where
 aG:mg "isinstance"=Á
 lG:mg "int"=Á
 mR:mg "bool"=Á
 uB:mg "ord"=Á
 mU:mg "str"=Á
 aJ:mg "len"=Á
 lH:mg "all"=Á
 lJ:mg "tuple"=Á
 dY:mg "list"=Á
 kZ:mg "reversed"=Á
 jb:mg "enumerate"=Á
 cF:mg "range"=Á
 mV:mg "sorted"=Á
 jf:mg "min"=Á
 mW:mg "divmod"=Á
 uC:mg "max"=Á
 eU:∃t,mg "FIRST_CODE"=À (.int 32 t)
 gK:∃t,mg "LAST_CODE"=À (.int 126 t)
 dD:∃t,mg "PERCENT_CODE"=À (.int 37 t)
 dF:∃t,mg "MOST_LETTERS"=À (.int 8 t)
 eV:∃t,mg "MOST_PARTS"=À (.int 6 t)
 eX:∃t,mg "MOST_RULES"=À (.int 60 t)
 eY:∃t,mg "MOST_SIGNS"=À (.int 60 t)
 dG:∃t,mg "MOST_NUMBERS"=À (.int 1000 t)
 rE:mg "Wood"=À (.ref C.Wood)
 rF:mg "Walk"=À (.ref C.Walk)
 lK:mg "Rests"=À (.ref C.Rests)
 jg:mg "Many"=À (.ref C.Many)
 jV:mg "NoGrammar"=À (.ref C.NoGrammar)
 eZ:mg "NoRow"=À (.ref C.NoRow)
 lU:mg "Reading"=À (.ref C.Reading)
 mX:mg "NoText"=À (.ref C.NoText)
 mY:mg "Growth"=À (.ref C.Growth)
 jB:mg "Endless"=À (.ref C.Endless)
 jh:mg "TooGreat"=À (.ref C.TooGreat)
 jW:BD K C.NoGrammar
 e_:BD K C.NoRow
 mZ:BD K C.NoText
 lV:BD K C.Endless
 k_:BD K C.TooGreat
 ao:gu K C.Reading
 aj:gu K C.Growth
 ak:gu K C.Wood
 aq:gu K C.Walk
 bU:gu K C.Many
 au:gu K C.Rests
 bH:Y2 K C.Reading ar
 cG:Y2 K C.Reading bP
 bc:Y2 K C.Reading "signs"
 bx:Y2 K C.Reading cw
 cO:Y2 K C.Reading "stops"
 gC:Y2 K C.Growth ar
 aK:Y2 K C.Growth aE
 bV:Y2 K C.Growth ba
 aM:Y2 K C.Growth br
 bW:Y2 K C.Growth bE
 cY:Y2 K C.Growth ci
 dH:Y2 K C.Growth bS
 gD:Y2 K C.Wood bi
 a_:Y2 K C.Wood ar
 bC:Y2 K C.Wood bv
 gb:Y2 K C.Wood bS
 gf:Y2 K C.Wood bp
 bY:Y2 K C.Wood bX
 bu:Y2 K C.Walk eJ
 aP:Y2 K C.Walk "path"
 cH:Y2 K C.Walk dP
 iw:Y2 K C.Walk aS
 gh:Y2 K C.Walk "left"
 bO:Y2 K C.Walk "leading"
 cW:Y2 K C.Walk "met"
 cI:Y2 K C.Rests ar
 aD:Y2 K C.Rests aI
 cJ:Y2 K C.Rests bq
 eG:Y2 K C.Rests bi
 cZ:Y2 K C.Rests cw
 iy:ű K C.Many
 xEE:W.exmOne K (.ref C.Endless) (.ref C.Endless)=À Â
 xTT:W.exmOne K (.ref C.TooGreat) (.ref C.TooGreat)=À Â
def YGI:(["letter"]:ac am).Nodup:=by decide+kernel
def YJB:([c9]:ac am).Nodup:=by decide+kernel
def Cw{α:Type}:∀{l:ac α},l.length=3->∃a b c,l=[a,b,c]
 |[a,b,c],_=>⟨a,b,c,Z⟩
def YJC:YJ [aT] [aT]<|YH ť:=dE
def YJD(T:Txt K mg C):Gd P w K mg cj 1 eK eK ť [aT]<|fV Xf:=by
 show eP YJC λH Q E hr h=>?_;let⟨x,d,Z,den,sh,hp,q⟩:=h;show⟨_,(YD<|YN<|Ja (Yc (Zs K rfl) (by rfl) T.aG ô<|YI (J 0)<|aY<|Jn (v:=.ty "int") (by rfl) T.lG ĥ rfl)<|Xn<|YM4<|Yc (Zs K rfl) (by rfl) T.aG ô<|YI (J 0)<|aY<|Jn (v:=.ty "bool") (by rfl) T.mR PyProof.Rows.Boot.«bool» rfl),?_⟩;show⟨_,Z,_,_,_,_,_,Z,den.ty,Z,YLG d,_,Z,?_⟩;show Xg (g:=!YLF d) (λ_ R hR=>⟨_,Z,_,_,_,_,_,Z,den.ty,Z,YIe d,_,Z,hR⟩) ?_;cases d <;> show q
def YAH:YJ ["sign","code"] ["sign"]<|YH XA:=dE
def YCt(T:Txt K mg C):Gd P w K mg cj 1 fi fi XA ["sign"]<|ŵ:=by
 let⟨pU,eU⟩:=T.eU;let⟨qL,gK⟩:=T.gK;let⟨m6,dD⟩:=T.dD;show eP YAH λH Q E hr h=>?_;let⟨c,Z,q⟩:=h;show⟨_,(YF (c_ 1 YAH<|Yc YNG (by rfl) T.uB PyProof.Rows.Boot.«ord»<|aY<|J 0)
  (YD<|YN<|Ja (Ĳ kA kA (wb (v:=.int 32) (by rfl) eU ⟨_,Z⟩) (J 1)<|wb (v:=.int 126) (by rfl) gK ⟨_,Z⟩)<|Xn<|J2 Ķ (J 1) (wb (v:=.int 37) (by rfl) dD ⟨_,Z⟩)<|Yd _)),?_⟩
 show⟨_,Z,_,Z,Z,?_⟩;show⟨_,Z,_,_,Z,Z,_,Z,?_⟩;let ec:(((⟨#[c]⟩:am).cps.getD 0 0:Nat):Int)=(c:Int):=rfl;rw[ec];show X4 (λh1=>?_) λh1=>?_;show⟨_,_,Z,Z,_,Z,?_⟩;show X4 (λh2=>?_) λh2=>?_;show⟨_,Z,Z,?_⟩;let e:(!decide (V.int (c:Int)=V.int 37))=good c:=by
  simp only[fE]at h1 h2;unfold good;let L:32<=c:=by lia
  let a2:c<=126:=by lia
  rw[dA L,dA a2];by_cases h3:c=37;subst h3;rfl;rw[eI h3,eI<|λz=>h3 (by have:=V.int.inj z;lia)];rfl
 rw[e];show q;let e:good c=Ã:=by
  simp only[fE]at h2;unfold good;rw[eI (show ¬c<=126 by lia)];simp
 rw[e]at q;show q;show⟨_,Z,Y5 ?_⟩;let e:good c=Ã:=by
  simp only[fE]at h1;unfold good;rw[eI (show ¬32<=c by lia)];simp
 rw[e]at q;show q
def ol(z:am):decide (V.str ⟨#[z.cps.getD 0 0]⟩=V.str "'")=decide (z.cps.getD 0 0=39):=by
 by_cases h:z.cps.getD 0 0=39;rw[h];decide+kernel;rw[eI h,eI];intro e;apply h;let e6:(({ cps:=#[z.cps.getD 0 0] }:am)).cps.getD 0 0=(("'":am)).cps.getD 0 0:=fT (λs:am=>s.cps.getD 0 0)<|V.str.inj e;show(show z.cps.getD 0 0=(({ cps:=#[z.cps.getD 0 0] }:am)).cps.getD 0 0 from Z).trans<|e6.trans (by decide+kernel)
def YKc:YJ [aT] [aT]<|YH Ś:=dE
def YKd(T:Txt K mg C)(aR:ZN P w K mg cj 1 fi ["sign"]<|ŵ):Gd P w K mg cj 2 "is_sign" "is_sign" Ś [aT]<|fV Dc:=by
 show eP YKc λH Q E hr h=>?_;let⟨x,d,Z,den,sh,hp,q⟩:=h;show⟨_,(YD<|YN<|Ja (Yc (Zs K rfl) (by rfl) T.aG ô<|YI (J 0)<|aY<|Jn (v:=.ty "str") (by rfl) T.mU PyProof.Rows.Boot.«str» rfl)<|Ja (J2 iX (Yc JS (by rfl) T.aJ Ď<|aY<|J 0) YC<|Yd _)<|Ja (J2 iX (oG A9 (J 0) YC<|λ_ _=>rfl) ZX<|Yd _)<|Xn<|eT aR hr YO<|aY<|oG A9 (J 0) YC<|λ_ _=>rfl),?_⟩;show⟨_,Z,_,_,_,_,_,Z,den.ty,Z,ŧ d,_,Z,?_⟩;cases d with
 |str z=>
  let ex:=den.to_str;subst ex;let hz:=ϥ sh;let ev:Dc (.str z)=(z.cps.size==2&&z.cps[0]?==À 39&&good (z.cps.getD 1 0)):=rfl;show Y9 ?_;show⟨_,Z,z,Z,hz,Z,_,Z,?_⟩;show Xg (g:=decide (z.cps.getD 0 0=39)&&good (z.cps.getD 1 0)) (λh2 R hR=>?_) ?_;let hs:z.cps.size=2:=by
   let e:=V.int.inj<|fq h2;rw[xm]at e;lia
  let g0:z.cps.toList[0]?=À (z.cps.getD 0 0):=by
   rw[ă];simp[hs]
  let g1:z.cps.toList[1]?=À (z.cps.getD 1 0):=by
   rw[ă];simp[hs]
  show⟨_,Z,z,0,_,Z,Z,hz,ZB (j:=0) g0,Z,_,Z,?_⟩;rw[ol];show Xg (g:=good<|z.cps.getD 1 0) (λ_ R hR=>⟨_,Z,z,1,_,Z,Z,hz,ZB (j:=1) g1,_,Z,hR⟩) hR;let e2:(decide (V.int (z.length:Int)=V.int 2)&&(decide (z.cps.getD 0 0=39)&&good (z.cps.getD 1 0)))=Dc (.str z):=by
   rw[ev,xm,Bool.and_assoc];by_cases h2:z.cps.size=2;let g0:z.cps[0]?=À (z.cps.getD 0 0):=by simp[h2]
   let e4:(À (z.cps.getD 0 0)==À 39)=decide (z.cps.getD 0 0=39):=by
    rw[ð];simp
   rw[g0,e4];congr 1;rw[h2];decide;rw[eI<|λe=>h2 (by have:=V.int.inj e;lia),beq_eq_false_iff_ne.mpr h2];rfl
  rw[e2];show q
 |_=>show Y5 q
def YKe:YJ [aT] [aT]<|YH Ρ:=dE
def YKf(T:Txt K mg C):Gd P w K mg cj 1 "is_name" "is_name" Ρ [aT]<|fV fj:=by
 let⟨m7,dF⟩:=T.dF;show eP YKe λH Q E hr h=>?_;let⟨x,d,Z,den,sh,hp,q⟩:=h;show⟨_,(YF (Yq (JL<|JE<|Yc (Zs K rfl) (by rfl) T.aG ô<|YI (J 0)<|aY<|Jn (v:=.ty "str") (by rfl) T.mU PyProof.Rows.Boot.«str» rfl) (YD<|YN X3) YT)
  (YD<|YN<|Ja (Ĳ kA kA YC (Yc JS (by rfl) T.aJ Ď<|aY<|J 0)<|wb (v:=.int 8) (by rfl) dF ⟨_,Z⟩)<|Xn<|Ĺ<|Yc (ĺ K rfl rfl) (by rfl) T.lH ŏ<|aY<|BH (N:=["letter"]) (ρ:=[Á]) (cl:=[]) rfl ĳ (YNc<|J 0) (λ_ _ _ _ _=>(si (i:=0) YGI rfl (Or.inl rfl)<|.inr rfl)) (λ_ _ _ _ _=>A0)<|λ_ _ _ _ _=>(Ĳ YGj YGj ZX (J 0) ZX))),?_⟩
 show⟨_,Z,_,_,_,_,_,Z,den.ty,Z,ŧ d,_,Z,?_⟩;cases d with
 |str z=>
  let ex:=den.to_str;subst ex;let hz:=ϥ sh;let ev:fj (.str z)=(decide (1<=z.cps.size)&&decide (z.cps.size<=8)&&z.cps.toList.all Z7):=rfl;show Y5 ?_;show⟨_,Z,z,Z,hz,_,_,Z,Z,_,Z,?_⟩;show X4 (λh1=>?_) λh1=>?_;show⟨_,_,Z,Z,_,Z,?_⟩;let h1':1<=z.cps.size:=by have:=fq h1;rw[xm]at this;lia
  show X4 (λh2=>?_) λh2=>?_;let h2':z.cps.size<=8:=by have:=fq h2;rw[xm]at this;lia
  show⟨hp,_,Z,z,Z,λl hl=>?_⟩;show YIZ (τ:=kM [Á] _) (λc=>.bl<|Z7 c) hl Nat.zero_lt_one hz (λτ' c H' R hτ _ hR=>?_) ?_;show⟨_,hτ,_,_,Z,Z,_,Z,?_⟩;rw[ϊ];show X4 (λh3=>?_) λh3=>?_;show⟨_,_,Z,Z,?_⟩;rw[Ŷ];let e5:Z7 c=decide (c<=90):=by unfold Z7;rw[h3];rfl
  rw[e5]at hR;show hR;let e5:Z7 c=Ã:=by
   unfold Z7;cases hh:decide (65<=c) with
   |false=>rfl
   |true=>show absurd hh h3
  rw[e5]at hR;show hR;show⟨l,z.cps.toList.map Z7,Z,.inl<|.inl ?_,λb o eb=>?_,?_⟩;rw[YA,YNs];rw[YB<|YV eb hl];show eb;rw[ŗ];rw[ev,dA h1',dA h2']at q;simpa using q;let h2':¬z.cps.size<=8:=λz'=>h2<|dA (by rw[xm];lia);rw[ev,eI h2']at q;simpa using q;let h1':¬1<=z.cps.size:=λz'=>h1<|dA (by rw[xm];lia);show⟨_,Z,Y5 ?_⟩;rw[ev,eI h1']at q;simpa using q
 |_=>show Y9 q
def YKg:YJ [aT] [aT]<|YH YDs:=dE
def YKh(T:Txt K mg C)(iK:ZN P w K mg cj 2 "is_sign" [aT]<|fV Dc)(dC:ZN P w K mg cj 1 "is_name" [aT]<|fV fj):Gd P w K mg cj 3 "is_part" "is_part" YDs [aT]<|fV Xy:=by
 show eP YKg λH Q E hr h=>?_;let⟨x,d,Z,den,sh,hp,q⟩:=h;show⟨_,(YD<|YN<|Dm (eT iK hr YO<|aY<|J 0)<|Xn<|eT dC hr YO<|aY<|J 0),?_⟩;show⟨_,Z,x,d,Z,den,sh,hp,_,Z,?_⟩;show px (g:=fj d) (λ_ R hR=>⟨_,Z,x,d,Z,den,sh,hp,hR⟩) q
def YJE:YJ [aT] [aT]<|YH Φ:=dE
def YJF(T:Txt K mg C)(aW:ZN P w K mg cj 1 eK [aT]<|fV Xf):Gd P w K mg cj 2 "is_worth" "is_worth" Φ [aT]<|fV X8:=by
 show eP YJE λH Q E hr h=>?_;let⟨x,d,Z,den,sh,hp,q⟩:=h;show⟨_,(YD<|YN<|Ja (eT aW hr YO<|aY<|J 0)<|Xn<|Ĳ kA kA YC (J 0)<|YR oV YC YC),?_⟩;show⟨_,Z,x,d,Z,den,sh,hp,_,Z,?_⟩;cases d with
 |int i=>
  let ex:=den.to_int;subst ex;let ev:X8 (.int i)=(decide (0<=i)&&decide (i<=10^60)):=rfl;show Y9 ?_;show⟨_,Z,_,_,Z,Z,_,Z,?_⟩;show X4 (λh1=>?_) λh1=>?_;show⟨_,_,Z,Z,⟨by decide,by decide,by decide⟩,_,_,Z,Z,?_⟩;rw[ev,h1]at q;show q;let h1':decide (0<=i)=Ã:=by
   cases hh:decide (0<=i) with
   |false=>rfl
   |true=>show absurd hh h1
  rw[ev,h1']at q;show q
 |_=>show Y5 q
def YHv:YJ [aT] [aT]<|YH ϑ:=dE
def YHw(T:Txt K mg C)(iM:ZN P w K mg cj 3 "is_part" [aT]<|fV Xy):Gd P w K mg cj 4 "are_parts" "are_parts" ϑ [aT]<|fV X2:=by
 let⟨pW,eV⟩:=T.eV;show eP YHv λH Q E hr h=>?_;let⟨x,d,Z,den,sh,hp,q⟩:=h;show⟨_,(YF (Yq (JL<|JE<|Yc (Zs K rfl) (by rfl) T.aG ô<|YI (J 0)<|aY<|Jn (v:=.ty "tuple") (by rfl) T.lJ PyProof.Rows.Boot.«tuple» rfl) (YD<|YN X3) YT)
  (YD<|YN<|Ja (J2 kA (fA K T.aJ<|J 0) (wb (v:=.int 6) (by rfl) eV ⟨_,Z⟩)<|Yd _)<|Xn<|Ĺ<|Yc (ĺ K rfl rfl) (by rfl) T.lH ŏ<|aY<|BH (N:=[c9]) (ρ:=[Á]) (cl:=[]) rfl ĳ (YK8 K rfl<|J 0) (λ_ _ _ _ _=>(si (i:=0) YJB rfl (Or.inl rfl)<|.inr rfl)) (λ_ _ _ _ _=>A0)<|λ_ _ _ _ _=>(eT iM hr YO<|aY<|J 0))),?_⟩
 show⟨_,Z,_,_,_,_,_,Z,den.ty,Z,YGm d,_,Z,?_⟩;cases d with
 |tup ds=>
  let⟨a,xs,Z,ha,hds⟩:=den.to_tup;let hl:xs.length=ds.length:=hds.len;show Y5 ?_;show⟨_,Z,a,xs,Z,.inr<|cN.of ha,_,_,Z,Z,_,Z,?_⟩;let shS:X9 ds=Â:=by unfold D.short at sh;show sh
  let e1:decide ((xs.length:Int)<=6)=decide (ds.length<=6):=by rw[hl];congr 1;show propext ⟨λh=>by lia,λh=>by lia⟩
  rw[e1];show Xg (g:=ds.all Xy) (λh1 R hR=>?_) q;let h1':ds.length<=6:=fq h1;show⟨hp,_,Z,a,Z,⟨xs,cN.of ha⟩,λl kI=>?_⟩;show į (n:=xs.length) 0 (λk y _=>∃d,ds[k]?=À d/\y=.bl (Xy d)) (YMX<|cN.of ha) (λ_ _ _ _ _ h=>h) hp kI Nat.zero_lt_one (YK (by lia)) (λτ'=>0<τ'.length) Nat.zero_lt_one (λτ' v h=>by rw[ċ];show h) ?_ ?_;intro τ' k y H' R _ hτ DV hk hs hp' rG hR;let⟨d,hd,dn⟩:=hds.get DV;show⟨_,hτ,y,d,Z,dn.same hs,Jr shS<|Ð hd,hp',hR _ _ (YG.refl _) hp' ⟨d,hd,Z⟩⟩;intro ys H' hy hP hs hp' hl';let e2:ys=(ds.map Xy).map V.bl:=YNt (by rw[hy,hl]) hP;show⟨l,ds.map Xy,Z,.inl<|.inl (by rw[hl',e2]),hs,?_⟩;rw[ŗ];show hR
 |_=>show Y9 q
def YKi:YJ [aT] [aT]<|YH YDt:=dE
def YKj(T:Txt K mg C)(dC:ZN P w K mg cj 1 "is_name" [aT]<|fV fj)(gM:ZN P w K mg cj 4 "are_parts" [aT]<|fV X2)(ie:ZN P w K mg cj 2 "is_worth" [aT]<|fV X8):Gd P w K mg cj 5 "is_rule" "is_rule" YDt [aT]<|fV JW:=by
 show eP YKi λH Q E hr h=>?_;let⟨x,d,Z,den,sh,hp,q⟩:=h;show⟨_,(YF (Yq (PW.pt<|B7 (JL<|JE<|Yc (Zs K rfl) (by rfl) T.aG ô<|YI (J 0)<|aY<|Jn (v:=.ty "tuple") (by rfl) T.lJ PyProof.Rows.Boot.«tuple» rfl)<|BU<|Yg Ķ (fA K T.aJ<|J 0) YC<|Yd _) (YD<|YN X3) YT)
  (YD<|YN<|Ja (eT dC hr YO<|aY<|eL K (J 0) YC)<|Ja (eT gM hr YO<|aY<|eL K (J 0) YC)<|Xn<|eT ie hr YO<|aY<|eL K (J 0) YC)),?_⟩
 show⟨_,Z,_,_,_,_,_,Z,den.ty,Z,YGm d,_,Z,?_⟩;cases d with
 |tup ds=>
  let⟨a,xs,Z,ha,hds⟩:=den.to_tup;let hl:xs.length=ds.length:=hds.len;show Y5 ?_;show⟨_,Z,a,xs,Z,.inr<|cN.of ha,Z,_,Z,?_⟩;let shS:X9 ds=Â:=by unfold D.short at sh;show sh
  by_cases h3:ds.length=3;let⟨d0,d1,d2,Z⟩:=Cw h3;let⟨x0,x1,x2,Z⟩:=Cw hl;let n0:=(hds.get (i:=0) (v:=x0) Z);let n1:=(hds.get (i:=1) (v:=x1) Z);let n2:=(hds.get (i:=2) (v:=x2) Z);let⟨_,e0,n0⟩:=n0;let⟨_,e1,n1⟩:=n1;let⟨_,e2,n2⟩:=n2;cases e0;cases e1;cases e2;let sq:cN K H a [x0,x1,x2]:=cN.of ha;show Y5 ?_;show⟨_,Z,a,_,0,x0,Z,Z,sq,Z,x0,d0,Z,n0,Jr shS (by simp),hp,_,Z,?_⟩;show Xg (g:=X2 d1&&X8 d2) (λ_ R hR=>?_) q;show⟨_,Z,a,_,1,x1,Z,Z,sq,Z,x1,d1,Z,n1,Jr shS (by simp),hp,_,Z,?_⟩;show Xg (g:=X8 d2) (λ_ R hR=>⟨_,Z,a,_,2,x2,Z,Z,sq,Z,x2,d2,Z,n2,Jr shS (by simp),hp,hR⟩) hR;let e1:(!decide (V.int (xs.length:Int)=V.int 3))=Â:=by
   rw[eI];rfl;intro e;have:=V.int.inj e;lia
  rw[e1];show Y9 ?_;let e2:JW (.tup ds)=Ã:=by
   match ds,h3 with
   |[],_=>rfl
   |[_],_=>rfl
   |[_,_],_=>rfl
   |[_,_,_],h=>show absurd Z h
   |_::_::_::_::_,_=>rfl
  rw[e2]at q;show q
 |_=>show Y9 q
def YJG:(["rule"]:ac am).Nodup:=by decide+kernel
def YGJ:YJ [aT] [aT]<|YH ś:=dE
def YGK(T:Txt K mg C)(iQ:ZN P w K mg cj 5 "is_rule" [aT]<|fV JW):Gd P w K mg cj 6 "is_grammar" "is_grammar" ś [aT]<|fV JX:=by
 let⟨pX,eX⟩:=T.eX;show eP YGJ λH Q E hr h=>?_;let⟨x,d,Z,den,sh,hp,q⟩:=h;show⟨_,(YF (Yq (JL<|JE<|Yc (Zs K rfl) (by rfl) T.aG ô<|YI (J 0)<|aY<|Jn (v:=.ty "list") (by rfl) T.dY Ā rfl) (YD<|YN X3) YT)
  (YD<|YN<|Ja (J2 kA (fA K T.aJ<|J 0) (wb (v:=.int 60) (by rfl) eX ⟨_,Z⟩)<|Yd _)<|Xn<|Ĺ<|Yc (ĺ K rfl rfl) (by rfl) T.lH ŏ<|aY<|BH (N:=["rule"]) (ρ:=[Á]) (cl:=[]) rfl ĳ (ZJ K rfl<|J 0) (λ_ _ _ _ _=>(si (i:=0) YJG rfl (Or.inl rfl)<|.inr rfl)) (λ_ _ _ _ _=>A0)<|λ_ _ _ _ _=>(eT iQ hr YO<|aY<|J 0))),?_⟩
 show⟨_,Z,_,_,_,_,_,Z,den.ty,Z,YFL d,_,Z,?_⟩;cases d with
 |lst ds=>
  let⟨a,xs,Z,ha,hds⟩:=den.to_lst;let hl:xs.length=ds.length:=hds.len;let sq:bG K H a xs:=.inl ha;show Y5 ?_;show⟨_,Z,a,xs,Z,.inl sq,_,_,Z,Z,_,Z,?_⟩;let shS:X9 ds=Â:=by unfold D.short at sh;show sh
  let e1:decide ((xs.length:Int)<=60)=decide (ds.length<=60):=by rw[hl];congr 1;show propext ⟨λh=>by lia,λh=>by lia⟩
  rw[e1];show Xg (g:=ds.all JW) (λh1 R hR=>?_) q;let h1':ds.length<=60:=fq h1;show⟨hp,_,Z,a,Z,⟨xs,sq⟩,λl kI=>?_⟩;show į (n:=xs.length) 0 (λk y _=>∃d,ds[k]?=À d/\y=.bl (JW d)) (YKG sq) (λ_ _ _ _ _ h=>h) hp kI Nat.zero_lt_one (YK (by lia)) (λτ'=>0<τ'.length) Nat.zero_lt_one (λτ' v h=>by rw[ċ];show h) ?_ ?_;intro τ' k y H' R _ hτ DV hk hs hp' rG hR;let⟨d,hd,dn⟩:=hds.get DV;show⟨_,hτ,y,d,Z,dn.same hs,Jr shS<|Ð hd,hp',hR _ _ (YG.refl _) hp' ⟨d,hd,Z⟩⟩;intro ys H' hy hP hs hp' hl';let e2:ys=(ds.map JW).map V.bl:=YNt (by rw[hy,hl]) hP;show⟨l,ds.map JW,Z,.inl<|.inl (by rw[hl',e2]),hs,?_⟩;rw[ŗ];show hR
 |_=>show Y9 q
def YKk:YJ [aT] [aT]<|YH Γ:=dE
def YKl(T:Txt K mg C)(gj:ZN P w K mg cj 6 "is_grammar" [aT]<|fV JX):Gd P w K mg (fe P w) 7 "checked" "checked" Γ [aT]<|Ħ C.NoGrammar:=by
 show j1 YKk λH Q E hr h=>?_;let⟨x,d,Z,den,sh,hp,q1,q2⟩:=h;show⟨_,(YF (Yq (JL<|JE<|eT gj hr YO<|aY<|J 0) (YD<|JM Yy T.jW rfl (by rfl) T.jV<|aY ZX) YT)
  (YD<|YN<|Jy (Xd K rfl) (by rfl) T.dY Ā<|aY<|J 0)),?_⟩
 show⟨_,Z,x,d,Z,den,sh,hp,_,Z,?_⟩;show X4 (λhi=>?_) λhi=>?_;show⟨YK (by decide),q2<|YCl hi⟩;let e:=ϣ hi;let⟨g,Z,hg⟩:=ψ e;let⟨a,xs,Z,ha,hds⟩:=YNu den;show⟨_,Z,a,xs,Z,.inl<|.inl ha,λl hl=>q1 e l xs _ Z hds hl⟩
noncomputable abbrev Š:Stmt:=top 18
noncomputable abbrev YAI:Stmt:=top 19
def YJH:(["sign"]:ac am).Nodup:=by decide+kernel
def YKm:YJ [aT] [aT]<|YH Š:=dE
def YKn(T:Txt K mg C)(aR:ZN P w K mg cj 1 fi ["sign"]<|ŵ):Gd P w K mg cj 2 "is_text" "is_text" Š [aT]<|fV uk:=by
 let⟨pY,eY⟩:=T.eY;show eP YKm λH Q E hr h=>?_;let⟨x,d,Z,den,sh,hp,q⟩:=h;show⟨_,(YF (Yq (JL<|JE<|Yc (Zs K rfl) (by rfl) T.aG ô<|YI (J 0)<|aY<|Jn (v:=.ty "str") (by rfl) T.mU PyProof.Rows.Boot.«str» rfl) (YD<|YN X3) YT)
  (YD<|YN<|Ja (J2 kA (Yc JS (by rfl) T.aJ Ď<|aY<|J 0) (wb (v:=.int 60) (by rfl) eY ⟨_,Z⟩)<|Yd _)<|Xn<|Ĺ<|Yc (ĺ K rfl rfl) (by rfl) T.lH ŏ<|aY<|BH (N:=["sign"]) (ρ:=[Á]) (cl:=[]) rfl ĳ (YNc<|J 0) (λ_ _ _ _ _=>(si (i:=0) YJH rfl (Or.inl rfl)<|.inr rfl)) (λ_ _ _ _ _=>A0)<|λ_ _ _ _ _=>(eT aR hr YO<|aY<|J 0))),?_⟩
 show⟨_,Z,_,_,_,_,_,Z,den.ty,Z,ŧ d,_,Z,?_⟩;cases d with
 |str z=>
  let ex:=den.to_str;subst ex;let hz:=ϥ sh;let ev:uk (.str z)=(decide (z.cps.size<=60)&&z.cps.toList.all good):=rfl;show Y5 ?_;show⟨_,Z,z,Z,hz,_,_,Z,Z,_,Z,?_⟩;let e1:decide ((z.length:Int)<=60)=decide (z.cps.size<=60):=by
   rw[xm];congr 1;show propext ⟨λh=>by lia,λh=>by lia⟩
  rw[e1];show Xg (g:=z.cps.toList.all good) (λh1 R hR=>?_) (by rw[ev]at q;show q);show⟨hp,_,Z,z,Z,λl hl=>?_⟩;show YIZ (τ:=kM [Á] _) (λc=>.bl<|good c) hl Nat.zero_lt_one hz (λτ' c H' R hτ _ hR=>?_) ?_;show⟨_,hτ,c,Z,hR⟩;show⟨l,z.cps.toList.map good,Z,.inl<|.inl ?_,λb o eb=>?_,?_⟩;rw[YA,YNs];rw[YB<|YV eb hl];show eb;rw[ŗ];show hR
 |_=>show Y9 q
def YEW:YJ [aT] [aT]<|YH YAI:=dE
def YEX(T:Txt K mg C)(iR:ZN P w K mg cj 2 "is_text" [aT]<|fV uk):Gd P w K mg (fe P w) 3 fk fk YAI [aT]<|ς C.NoText:=by
 show j1 YEW λH Q E hr h=>?_;let⟨x,d,Z,den,sh,hp,q1,q2⟩:=h;show⟨_,(YF (Yq (JL<|JE<|eT iR hr YO<|aY<|J 0) (YD<|JM Yy T.mZ rfl (by rfl) T.mX<|aY ZX) YT)
  (YD<|YN<|J 0)),?_⟩
 show⟨_,Z,x,d,Z,den,sh,hp,_,Z,?_⟩;show X4 (λhi=>?_) λhi=>?_;show⟨YK (by decide),q2<|YCl hi⟩;let e:=ϣ hi;cases d with
 |str z=>
  let ex:=den.to_str;subst ex;show⟨_,Z,q1 z Z e⟩
 |_=>cases e
noncomputable abbrev Jt:Stmt:=Ym (top 29) 0
noncomputable abbrev JG:Stmt:=Ym (top 29) 1
noncomputable abbrev Jb:Stmt:=Ym (top 29) 2
noncomputable abbrev Ju:Stmt:=Ym (top 29) 3
noncomputable abbrev YCu:Stmt:=top 30
noncomputable abbrev YDw:Stmt:=top 31
def YCS:YJ [av,ar,bP] [av,ar,bP]<|YH Jt:=dE
def YCT(T:Txt K mg C):Gd P w K mg cj 1 "__init__" "Reading.__init__" Jt [av,ar,bP]<|YN8 C.Reading:=by
 show eP YCS λH Q E hr h=>?_;let⟨H0,x,l,ro,B,Z,S,hx0,s0,hp,q⟩:=h;show⟨_,(YF (fy K (J 0)<|J 1)
  (YF (fy K (J 0)<|J 2)
  (YF (fy K (J 0)<|Y6 Ys)
  (YF (fy K (J 0)<|Y6 Ys)
  (YD<|fy K (J 0)<|Y6 Ys))))),?_⟩
 show⟨_,Z,_,Z,x,C.Reading,B,_,Z,S,T.ao,T.bH,(show 0<1000 by decide),?_⟩;rw[x9];let s1:YG H0<|upd H x<|.ins C.Reading B<|yY l:=s0.put hx0;let p1:YL<|upd H x<|.ins C.Reading B<|yY l:=hp.upd rfl;let x1:upd H x (.ins C.Reading B<|yY l) x=À (.ins C.Reading B<|yY l):=YA;revert s1 p1 x1;generalize upd H x (.ins C.Reading B<|yY l)=H1;intro s1 p1 x1;show⟨_,Z,_,Z,x,C.Reading,B,_,Z,x1,T.ao,T.cG,(show 1<1000 by decide),?_⟩;rw[xa];let s2:YG H0<|upd H1 x<|.ins C.Reading B<|vc l ro:=s1.put hx0;let p2:YL<|upd H1 x<|.ins C.Reading B<|vc l ro:=p1.upd rfl;let x2:upd H1 x (.ins C.Reading B<|vc l ro) x=À (.ins C.Reading B<|vc l ro):=YA;revert s2 p2 x2;generalize upd H1 x (.ins C.Reading B<|vc l ro)=H2;intro s2 p2 x2;show⟨Ë _,λL h1=>?_⟩;let n1:L≠x:=λe=>by rw[e,x2]at h1;cases h1
 let z1:=s2.free h1;let s3:=s2.trans<|YG.upd (o:=.lst []) h1;let p3:YL<|upd H2 L<|.lst []:=p2.upd rfl;let x3:upd H2 L (.lst []) x=À (.ins C.Reading B<|vc l ro):=by rw[YB n1.symm];show x2
 let w3:upd H2 L (.lst []) L=À (.lst []):=YA;revert s3 p3 x3 w3;generalize upd H2 L (.lst [])=H3;intro s3 p3 x3 w3;show⟨_,Z,x,C.Reading,B,_,Z,x3,T.ao,T.bc,(show 2<1000 by decide),?_⟩;rw[zh];let s4:YG H0<|upd H3 x<|.ins C.Reading B<|mI l ro L:=s3.put hx0;let p4:YL<|upd H3 x<|.ins C.Reading B<|mI l ro L:=p3.upd rfl;let x4:upd H3 x (.ins C.Reading B<|mI l ro L) x=À (.ins C.Reading B<|mI l ro L):=YA;let w4:upd H3 x (.ins C.Reading B<|mI l ro L) L=À (.lst []):=by rw[YB n1];show w3
 revert s4 p4 x4 w4;generalize upd H3 x (.ins C.Reading B<|mI l ro L)=H4;intro s4 p4 x4 w4;show⟨Ë _,λa2 h2=>?_⟩;let n2:a2≠x:=λe=>by rw[e,x4]at h2;cases h2
 let qw:L≠a2:=λe=>by rw[<-e,w4]at h2;cases h2
 let z2:=s4.free h2;let s5:=s4.trans<|YG.upd (o:=.lst []) h2;let p5:YL<|upd H4 a2<|.lst []:=p4.upd rfl;let x5:upd H4 a2 (.lst []) x=À (.ins C.Reading B<|mI l ro L):=by rw[YB n2.symm];show x4
 let w5:upd H4 a2 (.lst []) L=À (.lst []):=by rw[YB qw];show w4
 let v5:upd H4 a2 (.lst []) a2=À (.lst []):=YA;revert s5 p5 x5 w5 v5;generalize upd H4 a2 (.lst [])=H5;intro s5 p5 x5 w5 v5;show⟨_,Z,x,C.Reading,B,_,Z,x5,T.ao,T.bx,(show 3<1000 by decide),?_⟩;rw[zd];let s6:YG H0<|upd H5 x<|.ins C.Reading B<|lR l ro L a2:=s5.put hx0;let p6:YL<|upd H5 x<|.ins C.Reading B<|lR l ro L a2:=p5.upd rfl;let x6:upd H5 x (.ins C.Reading B<|lR l ro L a2) x=À (.ins C.Reading B<|lR l ro L a2):=YA;let w6:upd H5 x (.ins C.Reading B<|lR l ro L a2) L=À (.lst []):=by rw[YB n1];show w5
 let v6:upd H5 x (.ins C.Reading B<|lR l ro L a2) a2=À (.lst []):=by rw[YB n2];show v5
 revert s6 p6 x6 w6 v6;generalize upd H5 x (.ins C.Reading B<|lR l ro L a2)=H6;intro s6 p6 x6 w6 v6;show⟨Ë _,λa3 h3=>?_⟩;let n3:a3≠x:=λe=>by rw[e,x6]at h3;cases h3
 let sV:L≠a3:=λe=>by rw[<-e,w6]at h3;cases h3
 let sW:a2≠a3:=λe=>by rw[<-e,v6]at h3;cases h3
 let x7:upd H6 a3 (.lst []) x=À (.ins C.Reading B<|lR l ro L a2):=by rw[YB n3.symm];show x6
 show⟨_,Z,x,C.Reading,B,_,Z,x7,T.ao,T.cO,(show 4<1000 by decide),?_⟩;rw[x8];show q L a2 a3 _ ((s6.trans<|YG.upd (o:=.lst []) h3).put hx0) ((p6.upd Z).upd Z) YA z1 z2 (s6.free h3) qw sV sW n1 n2 n3 ?_ ?_ ?_;rw[YB n1,YB sV];show w6;rw[YB n2,YB sW];show v6;rw[YB n3];show YA
def Z8:YJ [av,"head","used",cb] [av,"head"]<|YH JG:=dE
def YBM(T:Txt K mg C)(aW:ZN P w K mg cj 1 eK [aT]<|fV Xf):Gd P w K mg (fe P w) 2 "next_number" "Reading.next_number" JG [av,"head"]<|YN9 C.Reading C.NoRow:=by
 show j1 Z8 λH Q E hr h=>?_;let⟨H0,x,l,ro,L,a2,a3,xs,ys,g,ds,rd,z,Z,st,en,hn,q,ex⟩:=h;show⟨_,(YF (c_ 2 Z8<|fA K T.aJ<|df K<|J 0)
  (YF (Yq (Yg iX (J 2) (fA K T.aJ<|df K<|J 0)<|Yd _) (YD<|JM Yy T.e_ rfl (by rfl) T.eZ<|aY ZX) YT)
  (YF (c_ 3 Z8<|fN K (df K<|J 0)<|J 2)
  (YF (Yq (PW.pt<|B7 (JL<|JE<|eT aW hr YO<|aY<|J 3)<|BU<|JL<|YIN kA nB YC (J 3)<|fA K T.aJ<|df K<|J 0) (YD<|JM Yy T.e_ rfl (by rfl) T.eZ<|aY ZX) YT)
  (YF (Yq (Yg Ķ (eL K (fN K (df K<|J 0)<|J 3) YC) (J 1)<|Yd _) (YD<|JM Yy T.e_ rfl (by rfl) T.eZ<|aY ZX) YT)
  (YD<|YN<|J 3)))))),?_⟩
 let⟨B,S⟩:=st.x_;let S:=st.sm _ _ S;let uh:=en.same st.sm;let pF:ys.length=ds.length:=en.hys.len;let jt:xs.length=g.length:=by rw[en.hds.len,Ä]
 show⟨_,Z,x,C.Reading,B,_,_,Z,S,T.ao,T.bx,Z,a2,_,Z,.inl<|bG.of st.e2,?_⟩;show⟨_,Z,_,Z,x,C.Reading,B,_,_,Z,S,T.ao,T.cG,Z,ro,ys,Z,.inl<|.inl uh.hro,Z,_,Z,?_⟩;rw[Ä,pF];by_cases e:rd.bg.length=ds.length;rw[dA (by rw[e])];show Y9 ⟨YK (by decide),ex ?_⟩;unfold Xi;rw[YQC.mpr (by lia)];rw[eI<|λh=>e (by injection h with h;lia)];let DT:rd.bg.length<ds.length:=by lia
 obtain⟨d,hd⟩:∃d,ds[rd.bg.length]?=À d:=⟨_,Ê DT⟩;let⟨y,hy,den⟩:=uh.hys.getD hd;show Y5 ⟨_,Z,x,C.Reading,B,_,_,Z,S,T.ao,T.cG,Z,_,Z,ro,_,_,_,Z,Z,.inl uh.hro,ZB hy,?_⟩;show⟨_,Z,y,d,Z,den,en.hsh d<|Ð hd,st.pl,_,Z,?_⟩;cases d with
 |int i=>
  let ey:=den.to_int;subst ey;show Y5 ⟨_,Z,_,_,Z,Z,_,Z,?_⟩;by_cases h0:0<=i
  case neg=>
   rw[eI h0];show Y5 ⟨_,Z,Y9 ⟨YK (by decide),ex ?_⟩⟩;unfold Xi;rw[hd];show if_neg h0
  rw[dA h0];show Y9 ⟨_,Z,x,C.Reading,B,_,_,Z,S,T.ao,T.bH,Z,l,xs,Z,.inl<|bG.of uh.hl,_,_,Z,Z,_,Z,?_⟩;rw[jt];obtain⟨k,rfl⟩:∃k:Nat,i=(k:Int):=⟨i.toNat,by lia⟩;by_cases h1:k<g.length
  case neg=>
   rw[eI (by lia)];show Y9 ⟨YK (by decide),ex ?_⟩;unfold Xi;rw[hd];have:g[(k:Int).toNat]?=Á:=YQC.mpr (by lia);simp only[this];show ite_self _
  rw[dA (by lia)];obtain⟨r,er⟩:∃r,g[k]?=À r:=⟨_,Ê h1⟩;let⟨t,pp,ax,ht,lz⟩:=Xh uh.hds er;show Y5 ⟨_,Z,x,C.Reading,B,_,_,Z,S,T.ao,T.bH,Z,_,Z,l,_,_,_,Z,Z,bG.of uh.hl,ax,t,_,0,_,Z,Z,cN.of ht,Z,_,Z,Z,_,Z,?_⟩;rw[Ŭ];let QM:Xi g ds rd.bg.length z=if r.1=z then À (k,r) else Á:=by
   unfold Xi;rw[hd];simp only[h0,if_true,ï,er]
  by_cases hz:r.1=z;rw[dA hz];show Y5 ⟨_,Z,q k r (by rw[QM,if_pos hz])⟩;rw[eI hz];show Y9 ⟨YK (by decide),ex (by rw[QM,if_neg hz])⟩
 |_=>show Y9 ⟨YK (by decide),ex (by unfold Xi;rw[hd])⟩
def Xk:YJ [av,"head",eM,cb] [av,"head",eM]<|YH Jb:=dE
def YB3(T:Txt K mg C)(bQ:Yv P w K mg (fe P w) 2 C.Reading "next_number" [av,"head"]<|YN9 C.Reading C.NoRow):Gd P w K mg (fe P w) 3 "take_rule" "Reading.take_rule" Jb [av,"head",eM]<|YOA C.Reading C.NoRow:=by
 show j1 Xk λH Q E hr h=>?_;let⟨H0,x,l,ro,L,a2,a3,aw,xs,ys,ws,g,ds,rd,z,Z,st,en,hn,hst,hw,sX,w1,w2,w3,wl,q,ex⟩:=h;show⟨_,(YF (c_ 3 Xk<|fJ (J 0) T.ao bQ hr Yy.on<|aY<|J 1)
  (YF (YW<|fP K (J 2)<|fA K T.aJ<|df K<|J 0)
  (YF (YW<|oY K rfl ñ PySem.F.slot_list_extend PySem.F.type_list_extend YGa (J 2)<|aY<|YHp K rfl rfl rfl T.dY rfl T.kZ<|aY<|eL K (fN K (df K<|J 0)<|J 3) YC)
  (YF (YW<|fP K (df K<|J 0)<|fA K T.aJ<|df K<|J 0)
  (YD<|YW<|fP K (df K<|J 0)<|fA K T.aJ<|df K<|J 0))))),?_⟩
 let⟨B,S⟩:=st.x_;let hlen:=en.hlen;show⟨_,Z,x,B,_,Z,st.sm _ _ S,Z,_,Z,H0,x,l,ro,L,a2,a3,xs,ys,g,ds,rd,z,Z,st,en,hn,λk r e=>?_,λe=>ex e⟩;let⟨e1,er,ez⟩:=χ e;let pI:rd.bg.length<ds.length:=(YOx.mp e1).1;let QR:=(JN<|Jj en.hg er).1;show⟨_,Z,.inl ⟨Z,_,bG.of hw⟩,_,Z,x,C.Reading,B,_,_,Z,st.sm _ _ S,T.ao,T.bx,Z,a2,_,Z,.inl<|bG.of st.e2,aw,ws,_,Z,Z,hw,by rw[sizeLine_eq];lia,?_⟩;rw[Ä];let eQ:XU C.Reading H0 (upd H aw<|.lst<|ws++[V.int (rd.bg.length:Nat)]) x l ro L a2 a3 rd:=st.put sX w1 w2 w3 Z;let jY:upd H aw (.lst<|ws++[V.int (rd.bg.length:Nat)]) aw=À (.lst<|ws++[V.int (rd.bg.length:Nat)]):=YA;revert eQ jY;generalize upd H aw (.lst<|ws++[V.int (rd.bg.length:Nat)])=H1;intro eQ jY;let sY:=en.same eQ.sm;let⟨t,pp,ax,ht,lz⟩:=Xh sY.hds er;show⟨_,Z,.inl ⟨Z,_,bG.of jY⟩,_,Z,x,C.Reading,B,_,_,Z,eQ.sm _ _ S,T.ao,T.bH,Z,_,Z,l,_,_,_,Z,Z,bG.of sY.hl,ax,t,_,1,_,Z,Z,cN.of ht,Z,pp,_,Z,cN.of lz,λlr hlr=>?_⟩;rw[<-List.map_reverse];let nlr:aw≠lr:=λe=>by rw[<-e,jY]at hlr;cases hlr
 let iV:XU C.Reading H0 (upd H1 lr<|.lst<|r.2.1.reverse.map V.str) x l ro L a2 a3 rd:=eQ.new hlr Z;let lX:upd H1 lr (.lst<|r.2.1.reverse.map V.str) aw=À (.lst<|ws++[V.int (rd.bg.length:Nat)]):=by rw[YB nlr];show jY
 let zp:upd H1 lr (.lst<|r.2.1.reverse.map V.str) lr=À (.lst<|r.2.1.reverse.map V.str):=YA;revert iV lX zp;generalize upd H1 lr (.lst<|r.2.1.reverse.map V.str)=H2;intro iV lX zp;show⟨aw,lr,_,_,Z,Z,lX,zp,by rw[È,Ä,ç,sizeLine_eq];change ws.length+1+_<=_;lia,?_⟩;let iD:XU C.Reading H0 (upd H2 aw<|.lst<|ws++[V.int (rd.bg.length:Nat)]++r.2.1.reverse.map V.str) x l ro L a2 a3 rd:=iV.put sX w1 w2 w3 Z;let lA:upd H2 aw (.lst<|ws++[V.int (rd.bg.length:Nat)]++r.2.1.reverse.map V.str) aw=À (.lst<|ws++[V.int (rd.bg.length:Nat)]++r.2.1.reverse.map V.str):=YA;revert iD lA;generalize upd H2 aw (.lst<|ws++[V.int (rd.bg.length:Nat)]++r.2.1.reverse.map V.str)=H3;intro iD lA;show⟨_,Z,x,C.Reading,B,_,_,Z,iD.sm _ _ S,T.ao,T.bx,Z,.inl ⟨Z,_,bG.of iD.e2⟩,_,Z,x,C.Reading,B,_,_,Z,iD.sm _ _ S,T.ao,T.bc,Z,L,_,Z,.inl<|bG.of iD.e1,a2,_,_,Z,Z,iD.e2,by rw[Ä,sizeLine_eq];lia,?_⟩;rw[Ä];let eb:rd.bg.map nV++[V.int (rd.sg.length:Nat)]=(rd.bg++[rd.sg.length]).map nV:=by rw[Î];rfl
 rw[eb];let km:=iD.set2<|rd.bg++[rd.sg.length];let lB:upd H3 a2 (.lst<|(rd.bg++[rd.sg.length]).map nV) aw=À (.lst<|ws++[V.int (rd.bg.length:Nat)]++r.2.1.reverse.map V.str):=by rw[YB w2];show lA
 revert km lB;generalize upd H3 a2 (.lst<|(rd.bg++[rd.sg.length]).map nV)=H4;intro km lB;show⟨_,Z,x,C.Reading,B,_,_,Z,km.sm _ _ S,T.ao,T.cO,Z,.inl ⟨Z,_,bG.of km.e3⟩,_,Z,x,C.Reading,B,_,_,Z,km.sm _ _ S,T.ao,T.bc,Z,L,_,Z,.inl<|bG.of km.e1,a3,_,_,Z,Z,km.e3,by rw[Ä,sizeLine_eq];change rd.st.length<_;lia,?_⟩;rw[Ä];let eb:rd.st.map nV++[V.int (rd.sg.length:Nat)]=(rd.st++[rd.sg.length]).map nV:=by rw[Î];rfl
 change Q .non (upd H4 a3<|.lst<|rd.st.map nV++[V.int (rd.sg.length:Nat)]);rw[eb];show q k r _ e (km.set3<|rd.st++[rd.sg.length]) (by rw[YB w3];show lB)
def Jc:YJ [av,eM,"first"] [av]<|YH Ju:=dE
def YCU(T:Txt K mg C)(aW:ZN P w K mg cj 1 eK [aT]<|fV Xf)(cu:Yv P w K mg (fe P w) 3 C.Reading "take_rule" [av,"head",eM]<|YOA C.Reading C.NoRow):Gd P w K mg (fe P w) 4 "take_all" "Reading.take_all" Ju [av]<|vT C.Reading C.NoRow:=by
 show j1 Jc λH Q E hr h=>?_;let⟨H0,x,l,ro,L,a2,a3,xs,ys,g,ds,Z,st,en,hne,q,ex⟩:=h;show⟨_,(YF (c_ 1 Jc<|Y6<|aY<|eL K (fN K (df K<|J 0) YC) YC)
  (YF (J1 PassesOwn.leaving (JV K Z (J 1)<|λ_=>rfl) (YF (c_ 2 Jc<|wm K rfl ñ ĕ Đ xF<|J 1)
  (YD<|Yq (JE<|eT aW hr YO<|aY<|J 2) (YD<|YM7 (fA K T.aJ<|df K<|J 0)<|AI (df K<|J 0) (J 2) YNN)<|YD<|Yq (JE<|oY K rfl İ PySem.F.slot_str_startswith PySem.F.type_str_startswith J7 (J 2)<|aY ZX) (YD<|YW<|fP K (df K<|J 0)<|oG A9 (J 2) YC<|λ_ _=>rfl)<|YD<|YW<|fJ (J 0) T.ao cu hr Yy.on<|YI (J 2)<|aY<|J 1)))
  (YD<|Yq (Yg nB (fA K T.aJ<|df K<|J 0) (fA K T.aJ<|df K<|J 0)<|Yd _) (YD<|JM Yy T.e_ rfl (by rfl) T.eZ<|aY ZX) YT))),?_⟩
 let⟨B,S⟩:=st.x_;obtain⟨r0,Yu,eg⟩:∃r0 Yu,g=r0::Yu:=by
  cases g with
  |nil=>show absurd Z hne
  |cons a b=>show⟨a,b,Z⟩
 let wD:g[0]?=À r0:=by rw[eg];rfl
 let sY:=en.same st.sm;let⟨t0,p0,Eg,qx,hp0⟩:=Xh sY.hds wD;let hlen:=en.hlen;show⟨_,Z,x,C.Reading,B,_,_,Z,st.sm _ _ S,T.ao,T.bH,Z,l,_,0,_,Z,Z,bG.of sY.hl,Eg,t0,_,0,_,Z,Z,cN.of qx,Z,YK (show 1<=1000 by decide),λaw haw=>?_⟩;let w1:aw≠L:=λe=>by rw[e,st.e1]at haw;cases haw
 let w2:aw≠a2:=λe=>by rw[e,st.e2]at haw;cases haw
 let w3:aw≠a3:=λe=>by rw[e,st.e3]at haw;cases haw
 let sX:=st.sm.free haw;let eQ:=st.new (o:=.lst [.str r0.1]) haw Z;let jY:upd H aw (.lst [.str r0.1]) aw=À (.lst [.str r0.1]):=YA;revert eQ jY;generalize upd H aw (.lst [.str r0.1])=H1;intro eQ jY;let Eh:fin g [.inl r0.1] ⟨[],[],[]⟩ (ds.drop 0)=fin g (oJ g) ⟨[],[],[]⟩ ds:=by rw[eg];rfl
 show⟨λμ σ H2=>g9 λ(ws:ac ij) (rd:fR) (v2:ag V)=>zw (σ=[À<|.ref x,À<|.ref aw,v2]) (XU C.Reading H0 H2 x l ro L a2 a3 rd) (H2 aw=À (.lst<|ws.reverse.map Xv)) (fin g ws rd (ds.drop rd.bg.length)=fin g (oJ g) ⟨[],[],[]⟩ ds) ((∀p,Sum.inl p∈ws->ZG p=Â)) ((∀k,Sum.inr k∈ws->k<rd.st.length)) (rd.st.length=rd.bg.length) (rd.bg.length<=ds.length) (rd.sg.length+ws.length<=1+7*rd.bg.length)<|μ=8*(ds.length-rd.bg.length)+ws.length,
  ⟨_,[.inl r0.1],⟨[],[],[]⟩,Á,Z,eQ,jY,Eh,(λp hp=>?_),(λk hk=>?_),Z,Ë _,(show 0+1<=1 by decide),Z⟩,?_⟩
 cases YO0.mp hp;show XT<|Ε<|Jj en.hg wD;cases YO0.mp hk;rintro μ σ H2 ⟨ws,rd,v2,rfl,iV,lX,hfin,pZ,wG,pD,hbd,hsz,hμ⟩;cases ws with
 |nil=>
  show⟨_,Z,Ã,.inl ⟨_,bG.of lX,Z⟩,Y5 ?_⟩;let pF:ys.length=ds.length:=en.hys.len;show⟨_,Z,x,C.Reading,B,_,_,Z,iV.sm _ _ S,T.ao,T.bx,Z,a2,_,Z,.inl<|bG.of iV.e2,_,Z,x,C.Reading,B,_,_,Z,iV.sm _ _ S,T.ao,T.cG,Z,ro,ys,Z,.inl<|.inl (en.same iV.sm).hro,_,_,Z,Z,_,Z,?_⟩;rw[Ä,pF];by_cases DT:rd.bg.length<ds.length;rw[dA (by lia)];rw[í DT,YIo]at hfin;show Y9 ⟨YK (by decide),ex hfin.symm H2 iV.sm iV.pl⟩;rw[eI (by lia)];rw[List.drop_eq_nil_of_le (by lia),C3]at hfin;show Y5<|q rd H2 hfin.symm iV
 |cons w jC=>
  let ew:(w::jC).reverse.map Xv=jC.reverse.map Xv++[Xv w]:=by rw[ã,Î];rfl
  rw[ew]at lX;show⟨_,Z,Â,.inl ⟨_,bG.of lX,by simp⟩,Y9 ⟨_,λ_ _ h=>h,?_⟩⟩;let elast:(jC.reverse.map Xv++[Xv w])[(jC.reverse.map Xv++[Xv w]).length-1]?=À (Xv w):=by simp
  show⟨_,Z,.inl ⟨Z,_,bG.of lX⟩,aw,_,_,Z,Z,lX,elast,?_⟩;rw[Č];let iD:XU C.Reading H0 (upd H2 aw<|.lst<|jC.reverse.map Xv) x l ro L a2 a3 rd:=iV.put sX w1 w2 w3 Z;let lA:upd H2 aw (.lst<|jC.reverse.map Xv) aw=À (.lst<|jC.reverse.map Xv):=YA;revert iD lA;generalize upd H2 aw (.lst<|jC.reverse.map Xv)=H3;intro iD lA;rw[Ñ]at hsz hμ;cases w with
  |inr k=>
   rw[YFX]at hfin;let hkl:=wG k<|É ..;show⟨_,Z,.int (k:Int),.int (k:Int),Z,.int _,Z,iD.pl,_,Z,Y9 ?_⟩;show⟨_,Z,x,C.Reading,B,_,_,Z,iD.sm _ _ S,T.ao,T.bc,Z,L,_,Z,.inl<|bG.of iD.e1,_,Z,x,C.Reading,B,_,_,Z,iD.sm _ _ S,T.ao,T.cO,Z,_,Z,a3,_,_,k,Z,Z,iD.e3,xv (by rw[Ä];show hkl),?_⟩;let eb:(rd.st.map nV).set k (.int ((rd.sg.map Cj).length:Nat))=(rd.st.set k rd.sg.length).map nV:=by rw[Ä,List.map_set];rfl
   rw[eb];show⟨_,?_,jC,⟨rd.sg,rd.bg,rd.st.set k rd.sg.length⟩,_,Z,iD.set3 _,by rw[YB w3];show lA,hfin,λp h=>pZ p<|Ç _ h,λj h=>by rw[ċ];show wG j<|Ç _ h,by rw[ċ];show pD,hbd,(show rd.sg.length+jC.length<=1+7*rd.bg.length by lia),Z⟩;rw[hμ];change 8*(ds.length-rd.bg.length)+jC.length<_;lia
  |inl p=>
   let hp:=pZ p<|É ..;let hp8:=YIf hp;show⟨_,Z,.str p,.str p,Z,.str _,Ϸ (by lia),iD.pl,_,Z,Y5 ?_⟩;show⟨_,Z,Z,_,_,Z,Z,_,Z,?_⟩;by_cases hq:eW p=Â;rw[show Txt.startswith p "'"=Â from hq];rw[YFY hq]at hfin;show Y9 ⟨_,Z,x,C.Reading,B,_,_,Z,iD.sm _ _ S,T.ao,T.bc,Z,.inl ⟨Z,_,bG.of iD.e1⟩,_,Z,p,1,gN p,Z,Z,YK (by lia),YEH hp hq,L,_,_,Z,Z,iD.e1,by rw[Ä,sizeLine_eq];lia,?_⟩;let eb:rd.sg.map Cj++[V.str ⟨#[gN p]⟩]=(rd.sg++[gN p]).map Cj:=by rw[Î];rfl
   rw[eb];show⟨_,?_,jC,⟨rd.sg++[gN p],rd.bg,rd.st⟩,_,Z,iD.set1 _,by rw[YB w1];show lA,hfin,λp h=>pZ p<|Ç _ h,λj h=>wG j<|Ç _ h,pD,hbd,by rw[È];change rd.sg.length+1+jC.length<=1+7*rd.bg.length;lia,Z⟩;rw[hμ];change 8*(ds.length-rd.bg.length)+jC.length<_;lia;let hq':eW p=Ã:=Bool.eq_false_iff.mpr hq;rw[show Txt.startswith p "'"=Ã from hq'];rw[ϳ hq']at hfin;show Y5 ⟨_,Z,x,B,_,Z,iD.sm _ _ S,Z,_,Z,_,Z,H0,x,l,ro,L,a2,a3,aw,xs,ys,jC.reverse.map Xv,g,ds,rd,p,Z,iD,en,hbd,pD,lA,sX,w1,w2,w3,by rw[Ä,ç];lia,λk r H4 e km lB=>?_,λe=>ex (by rw[<-hfin,e]) H3 iD.sm iD.pl⟩;rw[e]at hfin;let⟨e1,er,ez⟩:=χ e;let pI:rd.bg.length<ds.length:=(YOx.mp e1).1;let hok:=JN<|Jj en.hg er;let e6:=hok.1;let ews:(r.2.1.map Sum.inl++(Sum.inr rd.bg.length::jC):ac ij).reverse.map Xv=jC.reverse.map Xv++[nV rd.bg.length]++r.2.1.reverse.map V.str:=by
    rw[List.reverse_append,ã,Î,Î,<-List.map_reverse,é];rfl
   show⟨_,?_,r.2.1.map Sum.inl++(Sum.inr rd.bg.length::jC),_,_,Z,km,by rw[ews];show lB,?_,λp' h=>?_,λj h=>?_,?_,?_,?_,Z⟩;rw[hμ];simp only[È,Ä,Ñ,ü];lia;change fin g _ _ (ds.drop (rd.bg++[rd.sg.length]).length)=_;rw[È];show hfin;rcases YPD.mp h with h|h
   let⟨y,hy,ey⟩:=YPR.mp h;cases ey;show hok.2 _ hy;rcases YO9.mp h with h|h
   cases h;show pZ p'<|Ç _ h;change j<(rd.st++[rd.sg.length]).length;rw[È];change j<rd.st.length+1;rcases YPD.mp h with h|h
   let⟨y,hy,ey⟩:=YPR.mp h;cases ey;rcases YO9.mp h with h|h
   cases h;lia;have:=wG j<|Ç _ h;lia;change(rd.st++[rd.sg.length]).length=(rd.bg++[rd.sg.length]).length;rw[È,È,pD];change(rd.bg++[rd.sg.length]).length<=_;rw[È];show pI;simp only[È,Ä,Ñ,ü];lia
def YEN:YJ [ar,bP,"reading"] [ar,bP]<|YH YCu:=dE
def YJI(T:Txt K mg C)(cA:nz P w K mg cj 1 C.Reading [av,ar,bP]<|YN8 C.Reading)(cB:Yv P w K mg (fe P w) 4 C.Reading "take_all" [av]<|vT C.Reading C.NoRow):Gd P w K mg (fe P w) 5 "read_row" "read_row" YCu [ar,bP]<|YGt C.Reading C.NoRow:=by
 show j1 YEN λH Q E hr h=>?_;let⟨l,y,xs,g,d,Z,hl,hds,hg,den,sh,hlen,hp,q,ex⟩:=h;show⟨_,(YF (Yq (PW.pt<|B7 (JL<|JE<|Yc (Zs K rfl) (by rfl) T.aG ô<|YI (J 1)<|aY<|Jn (v:=.ty "list") (by rfl) T.dY Ā rfl)<|BU<|JL<|JV K rfl (J 0)<|λ_=>rfl) (YD<|JM Yy T.e_ rfl (by rfl) T.eZ<|aY ZX) YT)
  (YF (c_ 2 YEN<|AU cA hr T.lU YO<|YI (J 0)<|aY<|J 1)
  (YF (YW<|fW (J 2) T.ao cB hr Yy.on)
  (YD<|YN<|J 2)))),?_⟩
 let jt:xs.length=g.length:=by rw[hds.len,Ä]
 show⟨_,Z,_,_,_,_,_,Z,den.ty,Z,YFL d,_,Z,?_⟩;cases d with
 |lst ds=>
  let⟨ro,ys,Z,hro,hys⟩:=den.to_lst;show Y5 ⟨_,Z,_,.inl ⟨xs,bG.of hl,Z⟩,?_⟩;cases g with
  |nil=>
   cases xs with
   |cons a b=>cases jt
   |nil=>show Y9 ⟨YK (by decide),ex Z H (YG.refl _) hp⟩
  |cons r0 Yu=>
   cases xs with
   |nil=>cases jt
   |cons v0 wH=>
    show Y5 ?_;obtain⟨g,eg⟩:∃g,r0::Yu=g:=⟨_,Z⟩;obtain⟨xs,exs⟩:∃xs,v0::wH=xs:=⟨_,Z⟩;rw[eg]at hds hg q ex;rw[exs]at hl hds;let hne:g≠[]:=by rw[<-eg];showλh=>nomatch h
    let hrd:se g ds=fin g (oJ g) ⟨[],[],[]⟩ ds:=by unfold se;rw[if_neg hne]
    show⟨_,Z,_,Z,λx B S qU hnx=>⟨H,x,l,ro,B,Z,YA,S,(YG.upd qU).put S,(hp.upd Z).upd Z,λL a2 a3 H1 s1 p1 x1 z1 z2 z3 qw sV sW n1 n2 n3 w1 w2 w3=>⟨Z,?_⟩⟩⟩;let sb:YG H<|del (del (del H1 L) a2) a3:=((s1.to_del z1).to_del z2).to_del z3;let xb:del (del (del H1 L) a2) a3 x=À (.ins C.Reading B<|qV l ro L a2 a3):=by rw[ZY n3.symm,ZY n2.symm,ZY n1.symm];show x1
    let zq:YG (del (del (del H1 L) a2) a3) H1:=((X5 _ _).trans<|X5 _ _).trans<|X5 _ _;let b1:del (del (del H1 L) a2) a3 L=Á:=by rw[ZY sV,ZY qw];show J6
    let b2:del (del (del H1 L) a2) a3 a2=Á:=by rw[ZY sW];show J6
    let b3:del (del (del H1 L) a2) a3 a3=Á:=J6;revert sb xb zq b1 b2 b3;generalize del (del (del H1 L) a2) a3=Hb;intro sb xb zq b1 b2 b3;let stb:XU C.Reading Hb H1 x l ro L a2 a3 ⟨[],[],[]⟩:=⟨zq,p1,⟨B,xb⟩,b1,b2,b3,qw,sV,sW,w1,w2,w3⟩;let enb:sj Hb l ro xs ys g ds:=sj.same ⟨hl,hds,hg,hro,hys,λd hd=>Jr sh hd,hlen ds Z⟩ sb;show⟨_,Z,x,B,_,Z,x1,Z,Hb,x,l,ro,L,a2,a3,xs,ys,g,ds,Z,stb,enb,hne,λrd H2 e iV=>⟨_,Z,q ro ds rd x Hb H2 L a2 a3 Z rfl (hrd.trans e) sb iV⟩,λe H2 sm pl=>ex (hrd.trans e) H2 (sb.trans sm) pl⟩
 |_=>show Y9 ⟨YK (by decide),ex Z H (YG.refl _) hp⟩
def YHA:∀l:ac Nat,(l.map λ_=>1).sum=l.length
 |[]=>rfl
 |a::l=>by rw[Ö,List.sum_cons,YHA l,Ñ];lia
def YKo:YJ [cE,bP] [cE,bP]<|YH YDw:=dE
def YKp(T:Txt K mg C)(ig:ZN P w K mg (fe P w) 5 "read_row" [ar,bP]<|YGt C.Reading C.NoRow)(bZ:ZN P w K mg (fe P w) 7 "checked" [aT]<|Ħ C.NoGrammar):Gd P w K mg (fe P w) 8 "text_of" "text_of" YDw [cE,bP]<|YIp C.NoGrammar C.NoRow:=by
 show j1 YKo λH Q E hr h=>?_;let⟨x,y,dg,d,Z,den,sh,denr,shr,hlen,hp,q1,q2⟩:=h;show⟨_,(YD<|YN<|oY K rfl İ PySem.F.slot_str_join PySem.F.type_str_join (YNk K rfl) ZX<|aY<|df K<|eT ig hr Yy.on<|YI (eT bZ hr Yy.on<|aY<|J 0)<|aY<|J 1),?_⟩;show⟨Z,_,Z,x,dg,Z,den,sh,hp,λe l xs ds ed hds hl=>?_,λe=>q2 e H (YG.refl H) hp⟩;let⟨g,Z,hg⟩:=ψ e;cases ed;let s1:=YG.upd (o:=.lst xs) hl;show⟨_,Z,l,y,xs,g,d,Z,YA,hds.same s1,hg,denr.same s1,shr,hlen,hp.upd Z,λro ds rd x' H0 H' L a2 a3 ey ed er sm st=>?_,λe H' sm pl=>(q1 g Z hg).2 e H' (s1.trans sm) pl⟩;subst ed;let⟨B,S⟩:=st.x_;let hsz:=YOC hg er;let hl2:=hlen ds Z;let e1:bG K H' L<|(rd.sg.map λc=>(⟨#[c]⟩:am)).map V.str:=by
  rw[é];show bG.of st.e1
 show⟨x',C.Reading,B,_,_,Z,st.sm _ _ S,T.ao,T.bc,Z,"",L,_,Z,Z,e1,?_,?_⟩;let e0:(("":am)).length=0:=by decide+kernel
 rw[e0,î,é];have:((rd.sg.map<|(·.length)∘λc=>(⟨#[c]⟩:am))).sum=rd.sg.length:=by
  show YHA rd.sg
 rw[this];lia;rw[YMm];show(q1 g Z hg).1 rd H' er ((s1.trans sm).trans st.sm) st.pl
noncomputable abbrev XB:Stmt:=Ym (top 34) 0
noncomputable abbrev Θ:Stmt:=Ym (top 34) 1
noncomputable abbrev JH:Stmt:=Ym (top 34) 2
noncomputable abbrev Jv:Stmt:=Ym (top 34) 3
noncomputable abbrev Z3:Stmt:=Ym (top 34) 4
noncomputable abbrev Ζ:Stmt:=Ym (top 34) 5
noncomputable abbrev Ϣ:Stmt:=Ym (top 34) 6
noncomputable abbrev Ϭ:Stmt:=top 35
def YEY:YJ [av,ay] [av,ay]<|YH Θ:=dE
def YEZ(T:Txt K mg C):Gd P w K mg cj 1 "stand" "Growth.stand" Θ [av,ay]<|Œ C.Growth:=by
 show eP YEY λH Q E hr h=>?_;let⟨H0,x,l,L,a2,a3,a4,a5,t,own,hs,fresh,aa,hh,DY,E,N,y,Z,g,ht,hy,hl1,hl2,q⟩:=h;let hu:=Zd hr;show⟨_,(YF (J4 hu (df K<|J 0) (J 1) (df K<|J 0) Z)
  (YD<|YW<|fP K (df K<|J 0)<|J 1)),?_⟩
 let⟨B,S⟩:=g.x_;show⟨_,Z,x,C.Growth,B,_,_,Z,S,T.aj,T.bV,Z,_,Z,x,C.Growth,B,_,_,Z,S,T.aj,T.aK,Z,_,Z,L,_,Z,h_.t g.h1 ht (by unfold fQ;rw[Ä,sizeLine_eq];lia),?_⟩;let ep:Y3 (fQ hs) (Ye y) (nV hh)=fQ (hs++[(y,hh)]):=YOE hh hy;rw[ep];let g1:=g.set1<|hs++[(y,hh)];let eQ:∀b o,b≠L->H b=À o->upd H L (.dT<|fQ<|hs++[(y,hh)]) b=À o:=λb o hb e=>by rw[YB hb];show e
 revert g1 eQ;generalize upd H L (.dT<|fQ<|hs++[(y,hh)])=H1;intro g1 eQ;let⟨B,S⟩:=g1.x_;let⟨ts,e2,n2⟩:=g1.h2;let gH:=eQ _ _ (Yi ht g.h1 nofun) ht;show⟨_,Z,x,C.Growth,B,_,_,Z,S,T.aj,T.aM,Z,.inl ⟨Z,_,bG.of e2⟩,_,Z,a2,_,_,Z,Z,e2,(by rw[Ä,n2.1,sizeLine_eq];lia),?_⟩;let e3:ts.map V.ref++[V.ref t]=(ts++[t]).map V.ref:=by rw[Î];rfl
 rw[e3];show q _ (g1.set2<|n2.snoc gH) λb o h1 h2 e=>by rw[YB h2];show eQ b o h1 e
def YBN:YJ [av,ay] [av,ay]<|YH JH:=dE
def YBO(T:Txt K mg C):Gd P w K mg cj 1 "stand_higher" "Growth.stand_higher" JH [av,ay]<|YGw C.Growth:=by
 show eP YBN λH Q E hr h=>?_;let⟨H0,x,l,L,a2,a3,a4,a5,t,own,hs,fresh,aa,hh,DY,E,N,y,Z,g,ht,hy,hl1,hl2,q⟩:=h;let hu:=Zd hr;show⟨_,(YF (J4 hu (df K<|J 0) (J 1) (YR ZI (df K<|J 0) YC) Z)
  (YD<|YW<|fP K (df K<|J 0)<|J 1)),?_⟩
 let⟨B,S⟩:=g.x_;show⟨_,Z,x,C.Growth,B,_,_,Z,S,T.aj,T.bV,Z,_,_,Z,Z,_,Z,x,C.Growth,B,_,_,Z,S,T.aj,T.aK,Z,_,Z,L,_,Z,h_.t g.h1 ht (by unfold fQ;rw[Ä,sizeLine_eq];lia),?_⟩;let ep:Y3 (fQ hs) (Ye y) ((λi j:Int=>V.int<|i+j) (hh:Int) 1)=fQ (hs++[(y,hh+1)]):=YOE (hh+1) hy;rw[ep];let g1:=g.set1<|hs++[(y,hh+1)];let eQ:∀b o,b≠L->H b=À o->upd H L (.dT<|fQ<|hs++[(y,hh+1)]) b=À o:=λb o hb e=>by rw[YB hb];show e
 revert g1 eQ;generalize upd H L (.dT<|fQ<|hs++[(y,hh+1)])=H1;intro g1 eQ;let⟨B,S⟩:=g1.x_;let⟨ts,e2,n2⟩:=g1.h3;let gH:=eQ _ _ (Yi ht g.h1 nofun) ht;show⟨_,Z,x,C.Growth,B,_,_,Z,S,T.aj,T.bW,Z,.inl ⟨Z,_,bG.of e2⟩,_,Z,a3,_,_,Z,Z,e2,(by rw[Ä,n2.1,sizeLine_eq];lia),?_⟩;let e3:ts.map V.ref++[V.ref t]=(ts++[t]).map V.ref:=by rw[Î];rfl
 rw[e3];show q _ (g1.set3<|n2.snoc gH) λb o h1 h2 e=>by rw[YB h2];show eQ b o h1 e
def YCw:YJ [av,ar] [av,ar]<|YH XB:=dE
def YCx(T:Txt K mg C):Gd P w K mg cj 1 "__init__" "Growth.__init__" XB [av,ar]<|YLW C.Growth:=by
 show eP YCw λH Q E hr h=>?_;let⟨H0,x,l,B,Z,S,hx0,s0,hp,q⟩:=h;show fO ?_;show⟨_,(YE ⟨(fy K (J 0)<|J 1)⟩
  (YE ⟨(fy K (J 0) J5)⟩
  (YE ⟨(fy K (J 0) YC)⟩
  (YE ⟨(fy K (J 0)<|Y6 Ys)⟩
  (YE ⟨(fy K (J 0)<|Y6 Ys)⟩
  (YE ⟨(fy K (J 0) J5)⟩
  (Y8 ⟨(fy K (J 0) J5)⟩))))))),?_⟩
 let gB:YG H0 H:=s0;let pl:∀b o,H b=À o->Yx o=Â:=hp;show⟨_,Z,_,Z,x,C.Growth,B,_,Z,S,T.aj,T.gC,(show 0<1000 by decide),?_⟩;let ef:Yh ar (.ref l) ([]:ac<|am×V)=([(ar,.ref l)]:ac<|am×V):=rfl;rw[ef];let eQ:YG H0<|upd H x<|.ins C.Growth B ([(ar,.ref l)]:ac<|am×V):=gB.put hx0;let jr:∀b o,upd H x (.ins C.Growth B ([(ar,.ref l)]:ac<|am×V)) b=À o->Yx o=Â:=λb o e=>(Yp Z b o e).elim (pl b o) λz=>z;let hx1:upd H x (.ins C.Growth B ([(ar,.ref l)]:ac<|am×V)) x=À (.ins C.Growth B ([(ar,.ref l)]:ac<|am×V)):=YA;clear gB S pl;revert eQ jr hx1;generalize upd H x (.ins C.Growth B ([(ar,.ref l)]:ac<|am×V))=G0b;intro gB pl S;showλL sZ=>?_;let lC:L≠x:=λe=>by rw[e,S]at sZ;cases sZ
 let Ei:H0 L=Á:=gB.free sZ;let eQ:YG H0<|upd G0b L<|.dT []:=gB.trans<|YG.upd sZ;let jr:∀b o,upd G0b L (.dT []) b=À o->b=L\/Yx o=Â:=λb o e=>by
  by_cases hb:b=L;show(.inl hb);rw[YB hb]at e;let z:=pl b o e;show .inr z
 let hx1:upd G0b L (.dT []) x=À (.ins C.Growth B ([(ar,.ref l)]:ac<|am×V)):=by rw[YB lC.symm];show S
 let jN:upd G0b L (.dT []) L=À (.dT []):=YA;clear gB S pl sZ;revert eQ jr hx1 jN;generalize upd G0b L (.dT [])=G1a;intro gB pl S gG;show⟨_,Z,x,C.Growth,B,_,Z,S,T.aj,T.aK,(show 1<1000 by decide),?_⟩;let ef:Yh aE (.ref L) ([(ar,.ref l)]:ac<|am×V)=([(ar,.ref l),(aE,.ref L)]:ac<|am×V):=rfl;rw[ef];let eQ:YG H0<|upd G1a x<|.ins C.Growth B ([(ar,.ref l),(aE,.ref L)]:ac<|am×V):=gB.put hx0;let jr:∀b o,upd G1a x (.ins C.Growth B ([(ar,.ref l),(aE,.ref L)]:ac<|am×V)) b=À o->b=L\/Yx o=Â:=λb o e=>(Yp Z b o e).elim (pl b o) λz=>.inr<|z;let hx1:upd G1a x (.ins C.Growth B ([(ar,.ref l),(aE,.ref L)]:ac<|am×V)) x=À (.ins C.Growth B ([(ar,.ref l),(aE,.ref L)]:ac<|am×V)):=YA;let jN:upd G1a x (.ins C.Growth B ([(ar,.ref l),(aE,.ref L)]:ac<|am×V)) L=À (.dT []):=by rw[YB lC];show gG
 clear gB S pl gG;revert eQ jr hx1 jN;generalize upd G1a x (.ins C.Growth B ([(ar,.ref l),(aE,.ref L)]:ac<|am×V))=G1b;intro gB pl S gG;show⟨_,Z,x,C.Growth,B,_,Z,S,T.aj,T.bV,(show 2<1000 by decide),?_⟩;let ef:Yh ba (.int 0) ([(ar,.ref l),(aE,.ref L)]:ac<|am×V)=([(ar,.ref l),(aE,.ref L),(ba,nV 0)]:ac<|am×V):=rfl;rw[ef];let eQ:YG H0<|upd G1b x<|.ins C.Growth B ([(ar,.ref l),(aE,.ref L),(ba,nV 0)]:ac<|am×V):=gB.put hx0;let jr:∀b o,upd G1b x (.ins C.Growth B ([(ar,.ref l),(aE,.ref L),(ba,nV 0)]:ac<|am×V)) b=À o->b=L\/Yx o=Â:=λb o e=>(Yp Z b o e).elim (pl b o) λz=>.inr<|z;let hx1:upd G1b x (.ins C.Growth B ([(ar,.ref l),(aE,.ref L),(ba,nV 0)]:ac<|am×V)) x=À (.ins C.Growth B ([(ar,.ref l),(aE,.ref L),(ba,nV 0)]:ac<|am×V)):=YA;let jN:upd G1b x (.ins C.Growth B ([(ar,.ref l),(aE,.ref L),(ba,nV 0)]:ac<|am×V)) L=À (.dT []):=by rw[YB lC];show gG
 clear gB S pl gG;revert eQ jr hx1 jN;generalize upd G1b x (.ins C.Growth B ([(ar,.ref l),(aE,.ref L),(ba,nV 0)]:ac<|am×V))=G2b;intro gB pl S gG;show⟨Ë _,λa2 qy=>?_⟩;let lY:a2≠x:=λe=>by rw[e,S]at qy;cases qy
 let Ej:H0 a2=Á:=gB.free qy;let na1a2:L≠a2:=λe=>by rw[<-e,gG]at qy;cases qy
 let eQ:YG H0<|upd G2b a2<|.lst []:=gB.trans<|YG.upd qy;let jr:∀b o,upd G2b a2 (.lst []) b=À o->b=L\/Yx o=Â:=λb o e=>(Yp Z b o e).elim (pl b o) λz=>.inr<|z;let hx1:upd G2b a2 (.lst []) x=À (.ins C.Growth B ([(ar,.ref l),(aE,.ref L),(ba,nV 0)]:ac<|am×V)):=by rw[YB lY.symm];show S
 let jN:upd G2b a2 (.lst []) L=À (.dT []):=by rw[YB na1a2];show gG
 let lZ:upd G2b a2 (.lst []) a2=À (.lst []):=YA;clear gB S pl gG qy;revert eQ jr hx1 jN lZ;generalize upd G2b a2 (.lst [])=G3a;intro gB pl S gG jw;show⟨_,Z,x,C.Growth,B,_,Z,S,T.aj,T.aM,(show 3<1000 by decide),?_⟩;let ef:Yh br (.ref a2) ([(ar,.ref l),(aE,.ref L),(ba,nV 0)]:ac<|am×V)=([(ar,.ref l),(aE,.ref L),(ba,nV 0),(br,.ref a2)]:ac<|am×V):=rfl;rw[ef];let eQ:YG H0<|upd G3a x<|.ins C.Growth B ([(ar,.ref l),(aE,.ref L),(ba,nV 0),(br,.ref a2)]:ac<|am×V):=gB.put hx0;let jr:∀b o,upd G3a x (.ins C.Growth B ([(ar,.ref l),(aE,.ref L),(ba,nV 0),(br,.ref a2)]:ac<|am×V)) b=À o->b=L\/Yx o=Â:=λb o e=>(Yp Z b o e).elim (pl b o) λz=>.inr<|z;let hx1:upd G3a x (.ins C.Growth B ([(ar,.ref l),(aE,.ref L),(ba,nV 0),(br,.ref a2)]:ac<|am×V)) x=À (.ins C.Growth B ([(ar,.ref l),(aE,.ref L),(ba,nV 0),(br,.ref a2)]:ac<|am×V)):=YA;let jN:upd G3a x (.ins C.Growth B ([(ar,.ref l),(aE,.ref L),(ba,nV 0),(br,.ref a2)]:ac<|am×V)) L=À (.dT []):=by rw[YB lC];show gG
 let lZ:upd G3a x (.ins C.Growth B ([(ar,.ref l),(aE,.ref L),(ba,nV 0),(br,.ref a2)]:ac<|am×V)) a2=À (.lst []):=by rw[YB lY];show jw
 clear gB S pl gG jw;revert eQ jr hx1 jN lZ;generalize upd G3a x (.ins C.Growth B ([(ar,.ref l),(aE,.ref L),(ba,nV 0),(br,.ref a2)]:ac<|am×V))=G3b;intro gB pl S gG jw;show⟨Ë _,λa3 nW=>?_⟩;let nY:a3≠x:=λe=>by rw[e,S]at nW;cases nW
 let Ek:H0 a3=Á:=gB.free nW;let na1a3:L≠a3:=λe=>by rw[<-e,gG]at nW;cases nW
 let na2a3:a2≠a3:=λe=>by rw[<-e,jw]at nW;cases nW
 let eQ:YG H0<|upd G3b a3<|.lst []:=gB.trans<|YG.upd nW;let jr:∀b o,upd G3b a3 (.lst []) b=À o->b=L\/Yx o=Â:=λb o e=>(Yp Z b o e).elim (pl b o) λz=>.inr<|z;let hx1:upd G3b a3 (.lst []) x=À (.ins C.Growth B ([(ar,.ref l),(aE,.ref L),(ba,nV 0),(br,.ref a2)]:ac<|am×V)):=by rw[YB nY.symm];show S
 let jN:upd G3b a3 (.lst []) L=À (.dT []):=by rw[YB na1a3];show gG
 let lZ:upd G3b a3 (.lst []) a2=À (.lst []):=by rw[YB na2a3];show jw
 let qz:upd G3b a3 (.lst []) a3=À (.lst []):=YA;clear gB S pl gG jw nW;revert eQ jr hx1 jN lZ qz;generalize upd G3b a3 (.lst [])=G4a;intro gB pl S gG jw kJ;show⟨_,Z,x,C.Growth,B,_,Z,S,T.aj,T.bW,(show 4<1000 by decide),?_⟩;let ef:Yh bE (.ref a3) ([(ar,.ref l),(aE,.ref L),(ba,nV 0),(br,.ref a2)]:ac<|am×V)=([(ar,.ref l),(aE,.ref L),(ba,nV 0),(br,.ref a2),(bE,.ref a3)]:ac<|am×V):=rfl;rw[ef];let eQ:YG H0<|upd G4a x<|.ins C.Growth B ([(ar,.ref l),(aE,.ref L),(ba,nV 0),(br,.ref a2),(bE,.ref a3)]:ac<|am×V):=gB.put hx0;let jr:∀b o,upd G4a x (.ins C.Growth B ([(ar,.ref l),(aE,.ref L),(ba,nV 0),(br,.ref a2),(bE,.ref a3)]:ac<|am×V)) b=À o->b=L\/Yx o=Â:=λb o e=>(Yp Z b o e).elim (pl b o) λz=>.inr<|z;let hx1:upd G4a x (.ins C.Growth B ([(ar,.ref l),(aE,.ref L),(ba,nV 0),(br,.ref a2),(bE,.ref a3)]:ac<|am×V)) x=À (.ins C.Growth B ([(ar,.ref l),(aE,.ref L),(ba,nV 0),(br,.ref a2),(bE,.ref a3)]:ac<|am×V)):=YA;let jN:upd G4a x (.ins C.Growth B ([(ar,.ref l),(aE,.ref L),(ba,nV 0),(br,.ref a2),(bE,.ref a3)]:ac<|am×V)) L=À (.dT []):=by rw[YB lC];show gG
 let lZ:upd G4a x (.ins C.Growth B ([(ar,.ref l),(aE,.ref L),(ba,nV 0),(br,.ref a2),(bE,.ref a3)]:ac<|am×V)) a2=À (.lst []):=by rw[YB lY];show jw
 let qz:upd G4a x (.ins C.Growth B ([(ar,.ref l),(aE,.ref L),(ba,nV 0),(br,.ref a2),(bE,.ref a3)]:ac<|am×V)) a3=À (.lst []):=by rw[YB nY];show kJ
 clear gB S pl gG jw kJ;revert eQ jr hx1 jN lZ qz;generalize upd G4a x (.ins C.Growth B ([(ar,.ref l),(aE,.ref L),(ba,nV 0),(br,.ref a2),(bE,.ref a3)]:ac<|am×V))=G4b;intro gB pl S gG jw kJ;showλa4 l_=>?_;let tD:a4≠x:=λe=>by rw[e,S]at l_;cases l_
 let El:H0 a4=Á:=gB.free l_;let na1a4:L≠a4:=λe=>by rw[<-e,gG]at l_;cases l_
 let na2a4:a2≠a4:=λe=>by rw[<-e,jw]at l_;cases l_
 let na3a4:a3≠a4:=λe=>by rw[<-e,kJ]at l_;cases l_
 let eQ:YG H0<|upd G4b a4<|.dT []:=gB.trans<|YG.upd l_;let jr:∀b o,upd G4b a4 (.dT []) b=À o->b=L\/b=a4\/Yx o=Â:=λb o e=>by
  by_cases hb:b=a4;show .inr<|(.inl hb);rw[YB hb]at e;let z:=pl b o e;rcases z with z|z
  show(.inl z);show .inr<|(.inr z)
 let hx1:upd G4b a4 (.dT []) x=À (.ins C.Growth B ([(ar,.ref l),(aE,.ref L),(ba,nV 0),(br,.ref a2),(bE,.ref a3)]:ac<|am×V)):=by rw[YB tD.symm];show S
 let jN:upd G4b a4 (.dT []) L=À (.dT []):=by rw[YB na1a4];show gG
 let lZ:upd G4b a4 (.dT []) a2=À (.lst []):=by rw[YB na2a4];show jw
 let qz:upd G4b a4 (.dT []) a3=À (.lst []):=by rw[YB na3a4];show kJ
 let vd:upd G4b a4 (.dT []) a4=À (.dT []):=YA;clear gB S pl gG jw kJ l_;revert eQ jr hx1 jN lZ qz vd;generalize upd G4b a4 (.dT [])=G5a;intro gB pl S gG jw kJ qW;show⟨_,Z,x,C.Growth,B,_,Z,S,T.aj,T.cY,(show 5<1000 by decide),?_⟩;let ef:Yh ci (.ref a4) ([(ar,.ref l),(aE,.ref L),(ba,nV 0),(br,.ref a2),(bE,.ref a3)]:ac<|am×V)=([(ar,.ref l),(aE,.ref L),(ba,nV 0),(br,.ref a2),(bE,.ref a3),(ci,.ref a4)]:ac<|am×V):=rfl;rw[ef];let eQ:YG H0<|upd G5a x<|.ins C.Growth B ([(ar,.ref l),(aE,.ref L),(ba,nV 0),(br,.ref a2),(bE,.ref a3),(ci,.ref a4)]:ac<|am×V):=gB.put hx0;let jr:∀b o,upd G5a x (.ins C.Growth B ([(ar,.ref l),(aE,.ref L),(ba,nV 0),(br,.ref a2),(bE,.ref a3),(ci,.ref a4)]:ac<|am×V)) b=À o->b=L\/b=a4\/Yx o=Â:=λb o e=>(Yp Z b o e).elim (pl b o) λz=>.inr<|.inr<|z;let hx1:upd G5a x (.ins C.Growth B ([(ar,.ref l),(aE,.ref L),(ba,nV 0),(br,.ref a2),(bE,.ref a3),(ci,.ref a4)]:ac<|am×V)) x=À (.ins C.Growth B ([(ar,.ref l),(aE,.ref L),(ba,nV 0),(br,.ref a2),(bE,.ref a3),(ci,.ref a4)]:ac<|am×V)):=YA;let jN:upd G5a x (.ins C.Growth B ([(ar,.ref l),(aE,.ref L),(ba,nV 0),(br,.ref a2),(bE,.ref a3),(ci,.ref a4)]:ac<|am×V)) L=À (.dT []):=by rw[YB lC];show gG
 let lZ:upd G5a x (.ins C.Growth B ([(ar,.ref l),(aE,.ref L),(ba,nV 0),(br,.ref a2),(bE,.ref a3),(ci,.ref a4)]:ac<|am×V)) a2=À (.lst []):=by rw[YB lY];show jw
 let qz:upd G5a x (.ins C.Growth B ([(ar,.ref l),(aE,.ref L),(ba,nV 0),(br,.ref a2),(bE,.ref a3),(ci,.ref a4)]:ac<|am×V)) a3=À (.lst []):=by rw[YB nY];show kJ
 let vd:upd G5a x (.ins C.Growth B ([(ar,.ref l),(aE,.ref L),(ba,nV 0),(br,.ref a2),(bE,.ref a3),(ci,.ref a4)]:ac<|am×V)) a4=À (.dT []):=by rw[YB tD];show qW
 clear gB S pl gG jw kJ qW;revert eQ jr hx1 jN lZ qz vd;generalize upd G5a x (.ins C.Growth B ([(ar,.ref l),(aE,.ref L),(ba,nV 0),(br,.ref a2),(bE,.ref a3),(ci,.ref a4)]:ac<|am×V))=G5b;intro gB pl S gG jw kJ qW;showλa5 lD=>?_;let vg:a5≠x:=λe=>by rw[e,S]at lD;cases lD
 let Em:H0 a5=Á:=gB.free lD;let na1a5:L≠a5:=λe=>by rw[<-e,gG]at lD;cases lD
 let na2a5:a2≠a5:=λe=>by rw[<-e,jw]at lD;cases lD
 let na3a5:a3≠a5:=λe=>by rw[<-e,kJ]at lD;cases lD
 let na4a5:a4≠a5:=λe=>by rw[<-e,qW]at lD;cases lD
 let eQ:YG H0<|upd G5b a5<|.dT []:=gB.trans<|YG.upd lD;let jr:∀b o,upd G5b a5 (.dT []) b=À o->b=L\/b=a4\/b=a5\/Yx o=Â:=λb o e=>by
  by_cases hb:b=a5;show .inr<|.inr<|(.inl hb);rw[YB hb]at e;let z:=pl b o e;rcases z with z|z|z
  show(.inl z);show .inr<|(.inl z);show .inr<|.inr<|(.inr z)
 let hx1:upd G5b a5 (.dT []) x=À (.ins C.Growth B ([(ar,.ref l),(aE,.ref L),(ba,nV 0),(br,.ref a2),(bE,.ref a3),(ci,.ref a4)]:ac<|am×V)):=by rw[YB vg.symm];show S
 let jN:upd G5b a5 (.dT []) L=À (.dT []):=by rw[YB na1a5];show gG
 let lZ:upd G5b a5 (.dT []) a2=À (.lst []):=by rw[YB na2a5];show jw
 let qz:upd G5b a5 (.dT []) a3=À (.lst []):=by rw[YB na3a5];show kJ
 let vd:upd G5b a5 (.dT []) a4=À (.dT []):=by rw[YB na4a5];show qW
 let Eo:upd G5b a5 (.dT []) a5=À (.dT []):=YA;clear gB S pl gG jw kJ qW lD;revert eQ jr hx1 jN lZ qz vd Eo;generalize upd G5b a5 (.dT [])=G6a;intro gB pl S gG jw kJ qW Ep;show⟨_,Z,x,C.Growth,B,_,Z,S,T.aj,T.dH,(show 6<1000 by decide),?_⟩;let ef:Yh bS (.ref a5) ([(ar,.ref l),(aE,.ref L),(ba,nV 0),(br,.ref a2),(bE,.ref a3),(ci,.ref a4)]:ac<|am×V)=([(ar,.ref l),(aE,.ref L),(ba,nV 0),(br,.ref a2),(bE,.ref a3),(ci,.ref a4),(bS,.ref a5)]:ac<|am×V):=rfl;rw[ef];let kp:∀b o,b≠x->G6a b=À o->upd G6a x (.ins C.Growth B ([(ar,.ref l),(aE,.ref L),(ba,nV 0),(br,.ref a2),(bE,.ref a3),(ci,.ref a4),(bS,.ref a5)]:ac<|am×V)) b=À o:=λb o hb e=>by rw[YB hb];show e
 show q L a2 a3 a4 a5 (λb=>if b=a2 then À .fr else if b=a3 then À .hi else Á) _ ⟨gB.put hx0,⟨B,YA⟩,kp _ _ lC gG,⟨[],kp _ _ lY jw,Z,λi t y e=>nomatch e⟩,⟨[],kp _ _ nY kJ,Z,λi t y e=>nomatch e⟩,⟨[],kp _ _ tD qW,Å _,λp k=>.inl ⟨Z,Z⟩⟩,⟨[],kp _ _ vg Ep,Å _,λp k=>.inl ⟨Z,Z⟩⟩,λp k=>⟨Å _,Å _⟩,if_pos Z,(by rw[if_neg na2a3.symm,if_pos Z]),λa t e=>?_,hx0,Ei,El,Em,na1a4,na1a5,na4a5,λb o e=>(Yp Z b o e).elim (pl b o) λz=>.inr<|.inr<|.inr z⟩;by_cases h2:a=a2;subst h2;show⟨Ej,_,kp _ _ lY jw⟩;rw[if_neg h2]at e;by_cases h3:a=a3;subst h3;show⟨Ek,_,kp _ _ nY kJ⟩;rw[if_neg h3]at e;cases e
def YJJ{t u:TS}{D:Jg}{σ:St}{H:Hp}(M:St->Hp->Prop)(Yu:∀σ' H',M σ' H'->u D σ' H')(h:(∀σ' H',M σ' H'->u D σ' H')->t { D with nx:=u D } σ H):sC t u D σ H:=h Yu
def YHB(E:gL)(p:am)(k j:Nat):addE E p k j p k=E p k++[j]:=if_pos ⟨Z,Z⟩
def YJK(h:∀p k,(E p k).length<=N)(p:am)(k j:Nat):∀p' k',(addE E p k j p' k').length<=N+1:=λp' k'=>by
 unfold addE;have:=h p' k';split;rw[È];change _+1<=_;lia;lia
def YHC(DY:gI)(p:am)(k:Nat)(q:Nat×Nat×Nat):addB DY p k q p k=DY p k++[q]:=if_pos ⟨Z,Z⟩
def YJL(h:∀p k,(DY p k).length<=N)(p:am)(k:Nat)(q:Nat×Nat×Nat):∀p' k',(addB DY p k q p' k').length<=N+1:=λp' k'=>by
 unfold addB;have:=h p' k';split;rw[È];change _+1<=_;lia;lia
def ZD:YJ [av,ay,"key","end",cb,"done","begin","longer"] [av,ay]<|YH Jv:=dE
def YCV(T:Txt K mg C)(aF:Yv P w K mg cj 1 C.Growth "stand" [av,ay]<|Œ C.Growth):Gd P w K mg cj 2 "meet_part" "Growth.meet_part" Jv [av,ay]<|YLX C.Growth:=by
 show eP ZD λH Q E hr h=>?_;let⟨H0,x,l,L,a2,a3,a4,a5,t,xs,g,cs,own,hs,met,fresh,aa,hh,DY,En,N,p,k,j,Z,mi,q⟩:=h;let hu:=Zd hr;show fO ?_;show⟨_,(YE ⟨(c_ 2 ZD<|ZE<|YI (eL K (J 1) YC)<|aY<|eL K (J 1) YC)⟩
  (YE ⟨(c_ 3 ZD<|eL K (J 1) YC)⟩
  (YE ⟨(YW<|fP K (ľ hu (df K<|J 0) (J 2) (Y6 Ys) ⟨Z,Z,Z,Z⟩)<|J 3)⟩
  (Y8 ⟨(fM (ZJ K rfl<|Dz hu (df K<|J 0) (J 2) (Y6 Ys) ⟨Z,Z,Z,Z⟩) (xS K Z (n:=3) rfl<|Zg (fm 4 ZD)<|Zg (fm 5 ZD)<|Zg (fm 6 ZD) y9) (YF (c_ 7 ZD<|ZE<|Yz (J 4)<|Yz (YR ZI (J 5) YC)<|Yz (J 6)<|Yz (J 3) Ys)
  (YD<|Yq (Xm<|X1 hu (J 7)<|df K<|J 0) (YD<|YW<|fJ (J 0) T.aj aF hr YO<|aY<|J 7) YT)))⟩)))),?_⟩
 let ht:H t=À (.tup [.str p,nV k,nV j]):=mi.ht;let⟨hlen,jR⟩:=mi.gr.len mi.env.hg mi.env.hc;let zr:met.length<=2100000:=by rw[È]at jR;lia
 let hNN:=mi.hN;show⟨_,Z,t,_,0,_,Z,Z,cN.of ht,Z,_,Z,t,_,1,_,Z,Z,cN.of ht,Z,kC,λb hb=>?_⟩;let s1:=YG.upd (o:=.tup [.str p,nV k]) hb;let g1:=mi.st.same s1<|Yp rfl;let hb1:upd H b (.tup [.str p,nV k]) b=À (.tup<|(fD p k).map kV):=YA;let gH:=s1 _ _ ht;revert s1 g1 hb1 gH;generalize upd H b (.tup [.str p,nV k])=H1;intro s1 g1 hb1 gH;show⟨_,Z,t,_,2,_,Z,Z,cN.of gH,Z,?_⟩;dsimp only[Y7];show YJJ (t:=k6 _) (λσ' H'=>σ'=[À<|.ref x,À<|.ref t,À<|.ref b,À<|nV j,Á,Á,Á,Á]/\∃cX,fc C.Growth H0 H' x l L a2 a3 a4 a5 cX hs fresh aa hh DY (addE En p k j) (N+1)/\H' b=À (.tup<|(fD p k).map kV)) ?_ λYu=>?_;rintro σ' H2 ⟨rfl,cX,g2,hb2⟩;let⟨B,S⟩:=g2.x_;let⟨k4,e4,l4,b4⟩:=g2.h4;show⟨_,Z,x,C.Growth,B,_,_,Z,S,T.aj,T.cY,Z,a4,Z,.inr ⟨_,.inl e4⟩,_,Z,Ë _,λe he=>?_⟩;let s3:=YG.upd (o:=.lst []) he;show⟨_,gc.t (s3 _ _ e4)<|s3 _ _ hb2,?_⟩;let g3:=g2.same s3<|Yp rfl;obtain⟨la,ts,ela,hla,pR,n1,n2⟩:∃la ts,(Yj k4<|fD p k).getD (.ref e)=.ref la/\upd H2 e (.lst []) la=À (.lst<|ts.map V.ref)/\ku (upd H2 e<|.lst []) ts (DY p k)/\la≠L/\la≠a2:=by
  let⟨t2,f2,_⟩:=g2.h2;rcases b4 p k with z|⟨a,ts,z1,z2,z3,z4⟩
  show⟨e,[],by rw[z.1];rfl,YA,by rw[z.2];show⟨Z,λi t q e1=>nomatch e1⟩,λz=>?_,λz=>?_⟩;rw[z,g2.h1]at he;cases he;rw[z,f2]at he;cases he;show⟨a,ts,by rw[z1];rfl,s3 _ _ z3,z4.keep λ_ _=>s3 _ _,Yi z3 g2.h1 nofun,λz=>?_⟩;rw[z,g2.o2]at z2;cases z2
 rw[ela];let c0:=mi.cl;let vo:=mi.gr;let zu:=mi.lk;let ts_len:ts.length=(DY p k).length:=pR.1;show⟨la,Z,⟨_,bG.of hla⟩,ZL (K:=K) (a:=la) (xs:=ts.map V.ref) (λi σ H4=>ĩ λhs' aO v4 v5 v6 v7=>Dr (σ=[À<|.ref x,À<|.ref t,À<|.ref b,À<|nV j,v4,v5,v6,v7]) (fc C.Growth H0 H4 x l L a2 a3 a4 a5 cX hs' aO aa hh DY (addE En p k j)<|N+1) (fz g cs hs' (met++[.part p k j]) aO aa hh) (Cl g hs' (·∈met)) (YQ hs' (.part p k j)=À hh) ((∀q∈(DY p k).take i,∃v,YQ hs' (.beg q.1 (q.2.1+1) q.2.2 j)=À v)) (H4 la=À (.lst<|ts.map V.ref)) (ku H4 ts<|DY p k) (∀z m,YQ hs z=À m->YQ hs' z=À m)) ⟨hs,fresh,Á,Á,Á,Á,Z,g3,vo,c0,zu,λq hq=>absurd hq (by simp),hla,pR,λ_ _ z=>z⟩ ?_ ?_ ?_⟩;rintro i σ H4 _ ⟨hs',aO,v4,v5,v6,v7,rfl,_,_,_,_,_,jG,_⟩;show bG.of jG;rintro i y σ H4 hi ⟨hs',aO,v4,v5,v6,v7,rfl,g4,gY,c4,mj,hall,jG,tE,iz⟩;rw[Ï]at hi;cases eu:ts[i]? with
 |none=>rw[eu]at hi;cases hi
 |some u=>
  rw[eu]at hi;cases hi;let hil:i<(DY p k).length:=by rw[<-ts_len];show(YOx.mp eu).1
  obtain⟨⟨r,d,i0⟩,eq⟩:∃q,(DY p k)[i]?=À q:=⟨_,Ê hil⟩;let Er:H4 u=À (.tup [nV r,nV d,nV i0]):=tE.2 i u _ eu eq;let⟨hm,lE⟩:=(mi.mt.bg p k r d i0).mp<|Ð eq;let etk:(DY p k).take (i+1)=(DY p k).take i++[(r,d,i0)]:=by rw[â,eq];rfl
  show⟨u,_,Z,cN.of Er,Z,_,_,Z,_,_,Z,_,_,Z,Z,?_⟩;show⟨_,Z,_,Z,_,_,Z,Z,_,Z,_,Z,kc,λtn kO=>?_⟩;let s5:=YG.upd (o:=.tup [nV r,.int<|(d:Int)+1,nV i0,nV j]) kO;let hn:upd H4 tn (.tup [nV r,.int<|(d:Int)+1,nV i0,nV j]) tn=À (.tup<|(Ye<|.beg r (d+1) i0 j).map kV):=YA;let g5:=g4.same s5<|Yp rfl;let jH:=s5 _ _ jG;let qC:ku (upd H4 tn<|.tup [nV r,.int<|(d:Int)+1,nV i0,nV j]) ts<|DY p k:=tE.keep λ_ _=>s5 _ _;dsimp only[Y7];revert g5 hn jH qC;generalize upd H4 tn (.tup [nV r,.int<|(d:Int)+1,nV i0,nV j])=H5;intro hn g5 jH qC;let⟨vp,pJ⟩:=g5.x_;show⟨_,Z,_,Z,x,C.Growth,vp,_,_,Z,pJ,T.aj,T.aK,Z,L,_,Z,gc.t g5.h1 hn,_,Z,?_⟩;rw[Cv,Ě];let hall2:∀hs2:Hs,(∀y m,YQ hs' y=À m->YQ hs2 y=À m)->(∃v,YQ hs2 (.beg r (d+1) i0 j)=À v)->∀q∈(DY p k).take (i+1),∃v,YQ hs2 (.beg q.1 (q.2.1+1) q.2.2 j)=À v:=λhs2 hm2 zx q hq=>by
   rw[etk]at hq;rcases YPD.mp hq with hq|hq
   let⟨v,hv⟩:=hall q hq;show⟨v,hm2 _ _ hv⟩;cases YO0.mp hq;show zx
  let⟨uD,yr⟩:=gY.len mi.env.hg mi.env.hc;cases hlk:YQ hs' (.beg r (d+1) i0 j) with
  |some v=>
   show Y5 ?_;show⟨hs',aO,_,_,_,_,Z,g5,gY,c4,mj,hall2 hs' (λ_ _ z=>z) ⟨v,hlk⟩,jH,qC,iz⟩
  |none=>
   show Y9 ⟨_,Z,x,vp,_,Z,pJ,Z,_,Z,H0,x,l,L,a2,a3,a4,a5,tn,cX,hs',aO,aa,hh,DY,addE En p k j,N+1,.beg r (d+1) i0 j,Z,g5,hn,hlk,by lia,by lia,λH6 g6 lu=>?_⟩;let⟨va,pK,rH⟩:=gY.vm _<|Õ _ hm;let lg:=gY.leg _ _ pK;let lgy:=gY.leg _ _ mj;let⟨⟨ru,er,hdl⟩,vq,hkn⟩:=lg;let rJ:d<ru.2.1.length:=by
    unfold ZT at lE;rw[er]at lE;let lE:ru.2.1[d]?=À p:=lE;show(YOx.mp lE).1
   let zy:=gY.stand hlk (show im g cs (.beg r (d+1) i0 j) from⟨⟨ru,er,rJ⟩,Ú vq lgy.2.1,lgy.2.2⟩)<|.inr ⟨d,k,p,va,hh,Z,lE,pK,mj,(Nat.max_eq_right rH).symm⟩;let⟨t2,f2,_⟩:=g5.h2;show⟨_,_,_,_,_,_,Z,g6,zy,c4.snoc hlk<|λy hy=>?_,Z2 hlk _ _ mj,hall2 _ (Z2 hlk) ⟨hh,by rw[ZV _ _ _ _ hlk,if_pos Z]⟩,lu _ _ n1 n2 jH,qC.keep λc ys hc=>lu _ _ (Yi hc g5.h1 nofun) (Yi hc f2 nofun) hc,λz m e=>Z2 hlk _ _<|iz z m e⟩;let⟨v,hv,_⟩:=gY.vm y<|Õ _ hy;show⟨v,hv⟩
 rintro σ H4 ⟨hs',aO,v4,v5,v6,v7,rfl,g4,gY,c4,mj,hall,jG,tE,iz⟩;rw[Ä,ts_len,æ]at hall;show q _ _ _ _ _ _ _ _ g4 gY (pc c4 gY mj mi.mt hall) (mi.mt.addE p k j) (by lia) iz;let⟨B,S⟩:=g1.x_;let⟨k5,e5,l5,b5⟩:=g1.h5;show⟨_,Z,x,C.Growth,B,_,_,Z,S,T.aj,T.dH,Z,a5,Z,.inr ⟨_,.inl e5⟩,_,Z,Ë _,λe he=>?_⟩;let s2:=YG.upd (o:=.lst []) he;let hEl:∀p k,(En p k).length<=N:=λp k=>(g1.hb p k).2;show⟨k5,fD p k,b,s2 _ _ e5,Z,s2 _ _ hb1,(by rw[sizeLine_eq];lia),λv hv=>?_,λhn=>?_⟩;rcases b5 p k with z|⟨a,z1,z2,z3⟩
 rw[z.1]at hv;cases hv;rw[z1]at hv;cases hv;let nb:b≠a:=Yi hb1 z3 nofun;show⟨.inl ⟨Z,_,bG.of<|s2 _ _ z3⟩,_,Z,a,_,_,Z,Z,s2 _ _ z3,(by rw[Ä,sizeLine_eq];have:=hEl p k;lia),?_⟩;let e6:(En p k).map nV++[nV j]=(addE En p k j p k).map nV:=by rw[YHB,Î];rfl
 rw[e6];show Yu _ _ ⟨Z,own,((g1.same s2<|Yp rfl).more<|ò N).enSet z2 (λp' k' h=>if_neg h) (s2 _ _ e5) z1<|YJK hEl p k j,by rw[YB nb];show s2 _ _ hb1⟩;let o0:=g1.fine he;let ne:e≠a5:=λz=>by rw[z,e5]at he;cases he
 let nb:b≠e:=λz=>by rw[<-z,hb1]at he;cases he
 let Es:b≠a5:=Yi hb1 e5 nofun;let g2:=(g1.same s2<|Yp rfl).enNew (p:=p) (k:=k) YA (g1.sm.free he) o0 (s2 _ _ e5) hn;let hE0:En p k=[]:=by
  rcases b5 p k with z|⟨a,z1,z2,z3⟩
  show z.2;rw[hn]at z1;cases z1
 let nZ:upd (upd H1 e<|.lst []) a5 (.dT<|Y3 k5 (fD p k)<|.ref e) e=À (.lst []):=by rw[YB ne];show YA
 show⟨.inl ⟨Z,_,bG.of nZ⟩,_,Z,e,_,_,Z,Z,nZ,(by rw[sizeLine_eq];decide),?_⟩;let e6:([]:ac V)++[nV j]=(addE En p k j p k).map nV:=by rw[YHB,hE0];rfl
 rw[e6];show Yu _ _ ⟨Z,_,g2.enSet (if_pos Z) (λp' k' h=>if_neg h) YA (by rw[Z0,if_pos Z])<|YJK hEl p k j,by rw[YB nb,YB Es];show s2 _ _ hb1⟩
def Yr:YJ [av,ay,c9,cb,"done","begin","key","end","longer"] [av,ay,c9]<|YH Z3:=dE
def YAs(T:Txt K mg C)(aF:Yv P w K mg cj 1 C.Growth "stand" [av,ay]<|Œ C.Growth):Gd P w K mg cj 2 "meet_beginning" "Growth.meet_beginning" Z3 [av,ay,c9]<|YLY C.Growth:=by
 show eP Yr λH Q E hr h=>?_;let⟨H0,x,l,L,a2,a3,a4,a5,t,xs,g,cs,own,hs,met,fresh,aa,hh,DY,En,N,r,d,i0,k,p,Z,lE,mi,q⟩:=h;let hu:=Zd hr;show fO ?_;show⟨_,(YE ⟨(c_ 3 Yr<|eL K (J 1) YC)⟩
  (YE ⟨(c_ 4 Yr<|eL K (J 1) YC)⟩
  (YE ⟨(c_ 5 Yr<|eL K (J 1) YC)⟩
  (YE ⟨(c_ 6 Yr<|ZE<|YI (J 2)<|aY<|eL K (J 1) YC)⟩
  (YE ⟨(YW<|fP K (ľ hu (df K<|J 0) (J 6) (Y6 Ys) ⟨Z,Z,Z,Z⟩)<|ZE<|YI (J 3)<|YI (J 4)<|aY<|J 5)⟩
  (Y8 ⟨(fM (ZJ K rfl<|Dz hu (df K<|J 0) (J 6) (Y6 Ys) ⟨Z,Z,Z,Z⟩) (fm 7 Yr) (YF (c_ 8 Yr<|ZE<|Yz (J 3)<|Yz (YR ZI (J 4) YC)<|Yz (J 5)<|Yz (J 7) Ys)
  (YD<|Yq (Xm<|X1 hu (J 8)<|df K<|J 0) (YD<|YW<|fJ (J 0) T.aj aF hr YO<|aY<|J 8) YT)))⟩)))))),?_⟩
 let ht:H t=À (.tup [nV r,nV d,nV i0,nV k]):=mi.ht;let⟨hlen,jR⟩:=mi.gr.len mi.env.hg mi.env.hc;let zr:met.length<=2100000:=by rw[È]at jR;lia
 let hNN:=mi.hN;show⟨_,Z,t,_,0,_,Z,Z,cN.of ht,Z,?_⟩;show⟨_,Z,t,_,1,_,Z,Z,cN.of ht,Z,?_⟩;show⟨_,Z,t,_,2,_,Z,Z,cN.of ht,Z,?_⟩;show⟨_,Z,_,Z,t,_,3,_,Z,Z,cN.of ht,Z,kC,λb hb=>?_⟩;let s1:=YG.upd (o:=.tup [.str p,nV k]) hb;let g1:=mi.st.same s1<|Yp rfl;let hb1:upd H b (.tup [.str p,nV k]) b=À (.tup<|(fD p k).map kV):=YA;dsimp only[Y7];revert s1 g1 hb1;generalize upd H b (.tup [.str p,nV k])=H1;intro s1 g1 hb1;show YJJ (t:=k6 _) (λσ' H'=>σ'=[À<|.ref x,À<|.ref t,À<|.str p,À<|nV r,À<|nV d,À<|nV i0,À<|.ref b,Á,Á]/\∃cX,fc C.Growth H0 H' x l L a2 a3 a4 a5 cX hs fresh aa hh (addB DY p k (r,d,i0)) En (N+1)/\H' b=À (.tup<|(fD p k).map kV)) ?_ λYu=>?_;rintro σ' H2 ⟨rfl,cX,g2,hb2⟩;let⟨B,S⟩:=g2.x_;let⟨k5,e5,l5,b5⟩:=g2.h5;show⟨_,Z,x,C.Growth,B,_,_,Z,S,T.aj,T.dH,Z,a5,Z,.inr ⟨_,.inl e5⟩,_,Z,Ë _,λe he=>?_⟩;let s3:=YG.upd (o:=.lst []) he;show⟨_,gc.t (s3 _ _ e5)<|s3 _ _ hb2,?_⟩;let g3:=g2.same s3<|Yp rfl;obtain⟨la,ela,hla,n1,n2⟩:∃la,(Yj k5<|fD p k).getD (.ref e)=.ref la/\upd H2 e (.lst []) la=À (.lst<|(En p k).map nV)/\la≠L/\la≠a2:=by
  let⟨t2,f2,_⟩:=g2.h2;rcases b5 p k with z|⟨a,z1,z2,z3⟩
  show⟨e,by rw[z.1];rfl,by rw[z.2];show YA,λz=>?_,λz=>?_⟩;rw[z,g2.h1]at he;cases he;rw[z,f2]at he;cases he;show⟨a,by rw[z1];rfl,s3 _ _ z3,Yi z3 g2.h1 nofun,λz=>?_⟩;rw[z,g2.o2]at z2;cases z2
 rw[ela];let c0:=mi.cl;let vo:=mi.gr;let zu:=mi.lk;show⟨la,Z,⟨_,bG.of hla⟩,ZL (K:=K) (a:=la) (xs:=(En p k).map nV) (λi σ H4=>BC λhs' aO v7 v8=>xu (σ=[À<|.ref x,À<|.ref t,À<|.str p,À<|nV r,À<|nV d,À<|nV i0,À<|.ref b,v7,v8]) (fc C.Growth H0 H4 x l L a2 a3 a4 a5 cX hs' aO aa hh (addB DY p k (r,d,i0)) En<|N+1) (fz g cs hs' (met++[.beg r d i0 k]) aO aa hh) (Cl g hs' (·∈met)) (YQ hs' (.beg r d i0 k)=À hh) ((∀j∈(En p k).take i,∃v,YQ hs' (.beg r (d+1) i0 j)=À v)) (H4 la=À (.lst<|(En p k).map nV)) (∀z m,YQ hs z=À m->YQ hs' z=À m)) ⟨hs,fresh,Á,Á,Z,g3,vo,c0,zu,λq hq=>absurd hq (by simp),hla,λ_ _ z=>z⟩ ?_ ?_ ?_⟩;rintro i σ H4 _ ⟨hs',aO,v7,v8,rfl,_,_,_,_,_,jG,_⟩;show bG.of jG;rintro i y σ H4 hi ⟨hs',aO,v7,v8,rfl,g4,gY,c4,mj,hall,jG,iz⟩;rw[Ï]at hi;cases ej:(En p k)[i]? with
 |none=>rw[ej]at hi;cases hi
 |some j=>
  rw[ej]at hi;cases hi;let hm:=(mi.mt.en p k j).mp<|Ð ej;let etk:(En p k).take (i+1)=(En p k).take i++[j]:=by rw[â,ej];rfl
  show⟨_,Z,_,Z,_,_,Z,Z,_,Z,_,Z,kc,λtn kO=>?_⟩;let s5:=YG.upd (o:=.tup [nV r,.int<|(d:Int)+1,nV i0,nV j]) kO;let hn:upd H4 tn (.tup [nV r,.int<|(d:Int)+1,nV i0,nV j]) tn=À (.tup<|(Ye<|.beg r (d+1) i0 j).map kV):=YA;let g5:=g4.same s5<|Yp rfl;let jH:=s5 _ _ jG;dsimp only[Y7];revert g5 hn jH;generalize upd H4 tn (.tup [nV r,.int<|(d:Int)+1,nV i0,nV j])=H5;intro hn g5 jH;let⟨vp,pJ⟩:=g5.x_;show⟨_,Z,_,Z,x,C.Growth,vp,_,_,Z,pJ,T.aj,T.aK,Z,L,_,Z,gc.t g5.h1 hn,_,Z,?_⟩;rw[Cv,Ě];let hall2:∀hs2:Hs,(∀y m,YQ hs' y=À m->YQ hs2 y=À m)->(∃v,YQ hs2 (.beg r (d+1) i0 j)=À v)->∀j'∈(En p k).take (i+1),∃v,YQ hs2 (.beg r (d+1) i0 j')=À v:=λhs2 hm2 zx j' hq=>by
   rw[etk]at hq;rcases YPD.mp hq with hq|hq
   let⟨v,hv⟩:=hall j' hq;show⟨v,hm2 _ _ hv⟩;cases YO0.mp hq;show zx
  let⟨uD,yr⟩:=gY.len mi.env.hg mi.env.hc;cases hlk:YQ hs' (.beg r (d+1) i0 j) with
  |some v=>
   show Y5 ?_;show⟨hs',aO,_,_,Z,g5,gY,c4,mj,hall2 hs' (λ_ _ z=>z) ⟨v,hlk⟩,jH,iz⟩
  |none=>
   show Y9 ⟨_,Z,x,vp,_,Z,pJ,Z,_,Z,H0,x,l,L,a2,a3,a4,a5,tn,cX,hs',aO,aa,hh,addB DY p k (r,d,i0),En,N+1,.beg r (d+1) i0 j,Z,g5,hn,hlk,by lia,by lia,λH6 g6 lu=>?_⟩;let⟨va,pK,rH⟩:=gY.vm _<|Õ _ hm;let lg:=gY.leg _ _ mj;let lgy:=gY.leg _ _ pK;let⟨⟨ru,er,hdl⟩,vq,hkn⟩:=lg;let rJ:d<ru.2.1.length:=by
    unfold ZT at lE;rw[er]at lE;let lE:ru.2.1[d]?=À p:=lE;show(YOx.mp lE).1
   let zy:=gY.stand hlk (show im g cs (.beg r (d+1) i0 j) from⟨⟨ru,er,rJ⟩,Ú vq lgy.2.1,lgy.2.2⟩)<|.inr ⟨d,k,p,hh,va,Z,lE,mj,pK,(Nat.max_eq_left rH).symm⟩;show⟨_,_,_,_,Z,g6,zy,c4.snoc hlk<|λy hy=>?_,Z2 hlk _ _ mj,hall2 _ (Z2 hlk) ⟨hh,by rw[ZV _ _ _ _ hlk,if_pos Z]⟩,lu _ _ n1 n2 jH,λz m e=>Z2 hlk _ _<|iz z m e⟩;let⟨v,hv,_⟩:=gY.vm y<|Õ _ hy;show⟨v,hv⟩
 rintro σ H4 ⟨hs',aO,v7,v8,rfl,g4,gY,c4,mj,hall,jG,iz⟩;rw[Ä,æ]at hall;show q _ _ _ _ _ _ _ _ g4 gY (xl lE c4 gY mj mi.mt hall) (mi.mt.addB lE) (by lia) iz;let⟨B,S⟩:=g1.x_;let⟨k4,e4,l4,b4⟩:=g1.h4;show⟨_,Z,x,C.Growth,B,_,_,Z,S,T.aj,T.cY,Z,a4,Z,.inr ⟨_,.inl e4⟩,_,Z,Ë _,λe he=>?_⟩;let s2:=YG.upd (o:=.lst []) he;let hBl:∀p k,(DY p k).length<=N:=λp k=>(g1.hb p k).1;show⟨k4,fD p k,b,s2 _ _ e4,Z,s2 _ _ hb1,(by rw[sizeLine_eq];lia),λv hv=>?_,λhn=>?_⟩;rcases b4 p k with z|⟨a,ts,z1,z2,z3,z4⟩
 rw[z.1]at hv;cases hv;rw[z1]at hv;cases hv;let nb:b≠a:=Yi hb1 z3 nofun;show⟨.inl ⟨Z,_,bG.of<|s2 _ _ z3⟩,_,Z,_,Z,_,Z,iO,λtt gJ=>?_⟩;let s3:=YG.upd (o:=.tup [nV r,nV d,nV i0]) gJ;let wI:=s2.trans s3;show⟨a,_,_,Z,Z,wI _ _ z3,(by rw[Ä,z4.1,sizeLine_eq];have:=hBl p k;lia),?_⟩;let e6:ts.map V.ref++[V.ref tt]=(ts++[tt]).map V.ref:=by rw[Î];rfl
 rw[e6];show Yu _ _ ⟨Z,own,(((g1.same s2<|Yp rfl).same s3<|Yp rfl).more<|ò N).bgSet z2 (B':=addB DY p k (r,d,i0)) (λp' k' h=>if_neg h) ?_ (wI _ _ e4) z1 (YJL hBl p k (r,d,i0)),by rw[YB nb];show wI _ _ hb1⟩;rw[YHC];show(z4.keep λ_ _=>wI _ _).snoc YA;let o0:=g1.fine he;let ne:e≠a4:=λz=>by rw[z,e4]at he;cases he
 let nb:b≠e:=λz=>by rw[<-z,hb1]at he;cases he
 let Et:b≠a4:=Yi hb1 e4 nofun;let g2:=(g1.same s2<|Yp rfl).bgNew (p:=p) (k:=k) YA (g1.sm.free he) o0 (s2 _ _ e4) hn;let hB0:DY p k=[]:=by
  rcases b4 p k with z|⟨a,ts,z1,z2,z3,z4⟩
  show z.2;rw[hn]at z1;cases z1
 let nZ:upd (upd H1 e<|.lst []) a4 (.dT<|Y3 k4 (fD p k)<|.ref e) e=À (.lst []):=by rw[YB ne];show YA
 let jZ:upd (upd H1 e<|.lst []) a4 (.dT<|Y3 k4 (fD p k)<|.ref e) b=À (.tup<|(fD p k).map kV):=by rw[YB Et];show s2 _ _ hb1
 let zA:upd (upd H1 e<|.lst []) a4 (.dT<|Y3 k4 (fD p k)<|.ref e) a4=À (.dT<|Y3 k4 (fD p k)<|.ref e):=YA;revert g2 nZ jZ zA;generalize upd (upd H1 e<|.lst []) a4 (.dT<|Y3 k4 (fD p k)<|.ref e)=H3;intro g2 nZ jZ zA;show⟨.inl ⟨Z,_,bG.of nZ⟩,_,Z,_,Z,_,Z,iO,λtt gJ=>?_⟩;let s3:=YG.upd (o:=.tup [nV r,nV d,nV i0]) gJ;show⟨e,_,_,Z,Z,s3 _ _ nZ,(by rw[sizeLine_eq];decide),?_⟩;let e6:([]:ac V)++[V.ref tt]=([tt]:ac ai).map V.ref:=rfl;rw[e6];show Yu _ _ ⟨Z,_,(g2.same s3<|Yp rfl).bgSet (if_pos Z) (B':=addB DY p k (r,d,i0)) (λp' k' h=>if_neg h) ?_ (s3 _ _ zA) (by rw[Z0,if_pos Z]) (YJL hBl p k (r,d,i0)),by rw[YB nb];show s3 _ _ jZ⟩;rw[YHC,hB0];show ku.snoc (ts:=[]) (ns:=[]) ⟨Z,λi t q e1=>nomatch e1⟩ YA
def Jo{α:Type}(l:ac α):l=[]\/∃a b,l=a++[b]:=by
 cases h:l.reverse with
 |nil=>show .inl<|List.reverse_eq_nil_iff.mp h
 |cons b a=>
  show .inr ⟨a.reverse,b,?_⟩;have:=fT List.reverse h;rw[List.reverse_reverse,ã]at this;show this
def ū:YJ [av,ay,"rule","name"] [av,ay]<|YH Ζ:=dE
def YFk(T:Txt K mg C)(cC:Yv P w K mg cj 2 C.Growth "meet_part" [av,ay]<|YLX C.Growth)(bI:Yv P w K mg cj 2 C.Growth "meet_beginning" [av,ay,c9]<|YLY C.Growth)(bR:Yv P w K mg cj 1 C.Growth "stand_higher" [av,ay]<|YGw C.Growth):Gd P w K mg cj 3 "meet" "Growth.meet" Ζ [av,ay]<|YOF C.Growth:=by
 show eP ū λH Q E hr h=>?_;let⟨H0,x,l,L,a2,a3,a4,a5,t,xs,g,cs,own,hs,met,fresh,aa,hh,DY,En,N,y,Z,mi,q⟩:=h;let hu:=Zd hr;show fO ?_;show⟨_,(YE ⟨(Yq (Yg iX (fA K T.aJ<|J 1) YC<|Yd _) (YF (YW<|fJ (J 0) T.aj cC hr YO<|aY<|J 1)
  (YD YHY)) YT)⟩
  (YE ⟨(c_ 2 ū<|fN K (df K<|J 0)<|eL K (J 1) YC)⟩
  (YE ⟨(Yq (Yg nB (eL K (J 1) YC) (fA K T.aJ<|eL K (J 2) YC)<|Yd _) (YF (YW<|fJ (J 0) T.aj bI hr YO<|YI (J 1)<|aY<|eL K (eL K (J 2) YC)<|eL K (J 1) YC)
  (YD YHY)) YT)⟩
  (YE ⟨(c_ 3 ū<|ZE<|YI (eL K (J 2) YC)<|YI (eL K (J 1) YC)<|aY<|eL K (J 1) YC)⟩
  (Y8 ⟨(Yq (Xm<|X1 hu (J 3)<|df K<|J 0) (YD<|YW<|fJ (J 0) T.aj bR hr YO<|aY<|J 3) YT)⟩))))),?_⟩
 let⟨B,S⟩:=mi.st.x_;let hNN:=mi.hN;let⟨hlen,jR⟩:=mi.gr.len mi.env.hg mi.env.hc;cases y with
 |part p k j=>
  let ht:H t=À (.tup [.str p,nV k,nV j]):=mi.ht;show fb λu eu=>?_;show⟨_,Z,t,_,Z,.inr<|cN.of ht,Z,_,Z,Y9 ?_⟩;show⟨_,Z,x,B,_,Z,S,Z,_,Z,H0,x,l,L,a2,a3,a4,a5,t,xs,g,cs,own,hs,met,fresh,aa,hh,DY,En,N,p,k,j,Z,mi,λH' cX hs' aO gW B' E' N' e1 e2 e3 e4 e5 e6=>q H' cX hs' aO gW B' E' N' e1 e2 e3 e4 e5 e6⟩
 |beg r d i k=>
  let ht:H t=À (.tup [nV r,nV d,nV i,nV k]):=mi.ht;let lg:=mi.gr.leg _ _ mi.lk;let⟨⟨ru,er,hdl⟩,vq,hkn⟩:=lg;let hl:=mi.st.sm _ _ mi.env.hl;let⟨tr,pr,hat,zB,ul⟩:=Xh (mi.env.hds.same mi.st.sm) er;show fb λu eu=>?_;show⟨_,Z,t,_,Z,.inr<|cN.of ht,Z,_,Z,Y5 ?_⟩;change u _ _ _;subst eu;show fb λu eu=>?_;show⟨_,Z,x,C.Growth,B,_,_,Z,S,T.aj,T.gC,Z,_,Z,t,_,0,_,Z,Z,cN.of ht,Z,l,_,_,_,Z,Z,bG.of hl,hat,?_⟩;change u _ _ _;subst eu;show fb λu eu=>?_;show⟨_,Z,t,_,1,_,Z,Z,cN.of ht,Z,_,Z,tr,_,1,_,Z,Z,cN.of zB,Z,pr,_,Z,.inr<|cN.of ul,_,_,Z,Z,_,Z,X4 (λDT=>?_) λDT=>?_⟩;let hlt':(d:Int)<((ru.2.1.map V.str).length:Int):=fq DT;rw[Ä]at hlt';let hd:d<ru.2.1.length:=by lia
  let ep:ru.2.1[d]?=À ru.2.1[d]:=Ê hd;let hpa:ZT g r d=À ru.2.1[d]:=by
   unfold ZT;rw[er];show ep
  let yt:fS (ru.2.1.map V.str) (d:Int)=À (.str ru.2.1[d]):=ZB (by rw[Ï,ep];rfl);show⟨_,Z,x,B,_,Z,S,Z,_,Z,_,Z,tr,_,1,_,Z,Z,cN.of zB,Z,_,Z,t,_,1,_,Z,Z,cN.of ht,Z,pr,_,_,_,Z,Z,cN.of ul,yt,H0,x,l,L,a2,a3,a4,a5,t,xs,g,cs,own,hs,met,fresh,aa,hh,DY,En,N,r,d,i,k,_,Z,hpa,mi,λH' cX hs' aO gW B' E' N' e1 e2 e3 e4 e5 e6=>q H' cX hs' aO gW B' E' N' e1 e2 e3 e4 e5 e6⟩;let hlt':¬(d:Int)<((ru.2.1.map V.str).length:Int):=λz=>DT<|dA z;rw[Ä]at hlt';let ed:d=ru.2.1.length:=by lia
  subst ed;let hpa:ZT g r ru.2.1.length=Á:=by
   unfold ZT;rw[er];show ē<|Å _
  change u _ _ _;subst eu;show fb λu eu=>?_;show⟨_,Z,tr,_,0,_,Z,Z,cN.of zB,Z,_,Z,t,_,2,_,Z,Z,cN.of ht,Z,_,Z,t,_,3,_,Z,Z,cN.of ht,Z,iO,λnm hnm=>?_⟩;let s1:=YG.upd (o:=.tup [.str ru.1,nV i,nV k]) hnm;let hn:upd H nm (.tup [.str ru.1,nV i,nV k]) nm=À (.tup<|(Ye<|.part ru.1 i k).map kV):=YA;let g1:=mi.st.same s1<|Yp rfl;dsimp only[Y7];revert g1 hn;generalize upd H nm (.tup [.str ru.1,nV i,nV k])=H1;intro hn g1;let⟨vy,hx1⟩:=g1.x_;change u _ _ _;subst eu;show⟨_,Z,_,Z,x,C.Growth,vy,_,_,Z,hx1,T.aj,T.aK,Z,L,_,Z,gc.t g1.h1 hn,_,Z,?_⟩;rw[Cv,Ě];cases hlk:YQ hs (.part ru.1 i k) with
  |some v=>
   show Y5 ?_;show q _ _ _ _ _ _ _ _ g1 mi.gr (YOG er mi.cl mi.gr mi.lk ⟨v,hlk⟩) (mi.mt.addC hpa) (by lia)<|λ_ _ z=>z
  |none=>
   show Y9 ⟨_,Z,x,vy,_,Z,hx1,Z,_,Z,H0,x,l,L,a2,a3,a4,a5,nm,own,hs,fresh,aa,hh,DY,En,N,.part ru.1 i k,Z,g1,hn,hlk,by lia,by lia,λH2 g2 iV=>?_⟩;let pL:=mi.gr.standUp hlk ⟨.inl<|YPR.mpr ⟨ru,Ð er,Z⟩,vq,hkn⟩<|.inr ⟨r,ru,hh,er,Z,mi.lk,Z⟩;let c2:=mi.cl.snoc (n:=hh+1) hlk (λy hy=>by
    let⟨v,hv,_⟩:=mi.gr.vm y<|Õ _ hy;show⟨v,hv⟩)
   show q _ _ _ _ _ _ _ _ g2 pL (YOG er c2 pL (Z2 hlk _ _ mi.lk) ⟨hh+1,by rw[ZV _ _ _ _ hlk,if_pos Z]⟩) (mi.mt.addC hpa) (by lia)<|Z2 hlk
def YFl:YJ [av] [av]<|YH Ϣ:=dE
def YFm(T:Txt K mg C)(dZ:Yv P w K mg cj 3 C.Growth "meet" [av,ay]<|YOF C.Growth):Gd P w K mg cj 4 "grow" "Growth.grow" Ϣ [av]<|YOH C.Growth:=by
 show eP YFl λH Q E hr h=>?_;let⟨H0,x,l,L,a2,a3,a4,a5,xs,g,cs,own,hs,fresh,DY,En,Z,env,g0,vo,Eu,q⟩:=h;show⟨_,(YD (J1 PassesOwn.never (JV K Z (df K<|J 0)<|λ_=>rfl) (YF (J1 PassesOwn.never (JV K Z (df K<|J 0)<|λ_=>rfl)<|YD<|YW<|fJ (J 0) T.aj dZ hr YO<|aY<|wm K rfl ñ ĕ Đ xF<|df K<|J 0)
  (YF (fy K (J 0)<|df K<|J 0)
  (YF (fy K (J 0)<|Y6 Ys)
  (YD<|YKQ K rfl (J 0) YC AR)))))),?_⟩
 show⟨λμ σ H2=>CO λnT ju cX hs' met aO h' B' E' N'=>xu (σ=[À<|.ref x]) (fc C.Growth H0 H2 x l L nT ju a4 a5 cX hs' aO [] h' B' E' N') (fz g cs hs' met aO [] h') (Cl g hs' (·∈met)) (h9 g met B' E') (N'<=met.length) ((∀z m,YQ hs z=À m->YQ hs' z=À m))<|μ=3000000-met.length,⟨_,a2,a3,own,hs,[],fresh,0,DY,En,0,Z,g0,vo,⟨λr d i k p j a b m1=>(nomatch m1),λr ru i j a er m1=>(nomatch m1)⟩,Eu,Å _,λ_ _ z=>z,Z⟩,?_⟩;rintro μ σ H2 ⟨nT,ju,cX,hs',met,aO,h',B',E',N',rfl,g2,pL,c2,Ew,hN2,qX,rfl⟩;let⟨QT,hx2⟩:=g2.x_;let⟨zE,f2,n2⟩:=g2.h2;rcases Jo aO with rfl|⟨fr1,y1,rfl⟩
 let qD:zE=[]:=Ė n2.1;subst qD;show⟨_,Z,x,C.Growth,QT,_,_,Z,hx2,T.aj,T.aM,Z,Ã,.inl ⟨_,bG.of f2,Z⟩,Y5 ?_⟩;show q _ _ _ _ _ _ _ _ _ g2 (pL.fin_ c2) qX
 ·have ji:(!(zE.map V.ref).isEmpty)=Â:=by
   have:=n2.1;rw[È]at this;cases zE with
   |nil=>simp at this
   |cons a b=>rfl
  show⟨_,Z,x,C.Growth,QT,_,_,Z,hx2,T.aj,T.aM,Z,Â,.inl ⟨_,bG.of f2,ji.symm⟩,Y9 ?_⟩;show⟨λσ' H'=>∃m',m'<_/\_,λ_ _ z=>z,?_⟩;show fb λu eu=>?_;show⟨λν σ H3=>Ex8 λtG hs2 gZ jx iB B2 E2 N2=>Dr (σ=[À<|.ref x]) (fc C.Growth H0 H3 x l L nT ju a4 a5 tG hs2 jx iB h' B2 E2 N2) (fz g cs hs2 gZ jx iB h') (Cl g hs2 (·∈gZ)) (h9 g gZ B2 E2) (N2<=gZ.length) ((∀z m,YQ hs z=À m->YQ hs2 z=À m)) ((met.length<gZ.length\/(jx≠[]/\met.length<=gZ.length)))<|ν=3000000-gZ.length,⟨_,cX,hs',met,_,[],B',E',N',Z,g2,pL,c2,Ew,hN2,qX,.inr ⟨by simp,Å _⟩,Z⟩,?_⟩;rintro ν σ H3 ⟨tG,hs2,gZ,jx,iB,B2,E2,N2,rfl,g3,mq,c3,QV,hN3,jD,uE,rfl⟩;let⟨jz,jA⟩:=g3.x_;let⟨qY,f3,n3⟩:=g3.h2;let⟨hl3,kj⟩:=mq.len env.hg env.hc;rcases Jo jx with rfl|⟨QW,y2,rfl⟩
  ·have qD:qY=[]:=Ė n3.1;subst qD;let DT:met.length<gZ.length:=uE.elim (λz=>z) λz=>(z.1 rfl).elim;show⟨_,Z,x,C.Growth,jz,_,_,Z,jA,T.aj,T.aM,Z,Ã,.inl ⟨_,bG.of f3,Z⟩,Y5 ?_⟩;change u _ _ _;subst eu;show fb λu eu=>?_;show⟨_,Z,x,C.Growth,jz,_,_,Z,jA,T.aj,T.bW,Z,_,Z,x,C.Growth,jz,_,Z,jA,T.aj,T.aM,(show 7<1000 by decide),?_⟩;let Ex:Yh br (.ref ju) (kq l L h' nT ju a4 a5)=kq l L h' ju ju a4 a5:=rfl;rw[Ex];change u _ _ _;subst eu;show fb λu eu=>?_;show⟨Ë _,λe he=>?_⟩;let nxe:x≠e:=λz=>by rw[<-z,YA]at he;cases he
   let vz:H3 e=Á:=by rw[YB nxe.symm]at he;show he
   show⟨_,Z,x,C.Growth,jz,kq l L h' ju ju a4 a5,Z,(by rw[YB nxe];show YA),T.aj,T.bW,(show 7<1000 by decide),?_⟩;let Ey:Yh bE (.ref e) (kq l L h' ju ju a4 a5)=kq l L h' ju e a4 a5:=rfl;rw[Ey];change u _ _ _;subst eu;show⟨_,Z,x,C.Growth,jz,_,_,Z,YA,T.aj,T.bV,Z,_,_,Z,Z,jz,_,YA,(show 7<1000 by decide),?_⟩;let Ez:Yh ba (.int<|(h':Int)+1) (kq l L h' ju e a4 a5)=kq l L (h'+1) ju e a4 a5:=rfl;rw[Ez];let g4:=g3.swap (H':=upd (upd (upd (upd H3 x<|.ins C.Growth jz<|kq l L h' ju ju a4 a5) e<|.lst []) x<|.ins C.Growth jz<|kq l L h' ju e a4 a5) x<|.ins C.Growth jz<|kq l L (h'+1) ju e a4 a5) vz (λb o hb z=>?_) YA (by rw[YB nxe.symm,YB nxe.symm];show YA)<|λb u z=>(Yp Z b u z).elim (λz=>(Yp Z b u z).elim (λz=>(Yp Z b u z).elim (Yp Z b u) .inr) .inr) .inr
   ·show⟨3000000-gZ.length,by lia,ju,e,_,hs2,gZ,iB,h'+1,B2,E2,N2,Z,g4,mq.next,c3,QV,hN3,jD,Z⟩
   let hbe:b≠e:=λy=>by rw[y,vz]at z;cases z
   rw[YB hb,YB hb,YB hbe,YB hb];show z
  let vA:qY.length=QW.length+1:=by have:=n3.1;rw[È]at this;show this
  obtain⟨iW,t4,rfl⟩:∃iW t4,qY=iW++[t4]:=by
   rcases Jo qY with rfl|z
   simp at vA;show z
  let rK:(!((iW++[t4]).map V.ref).isEmpty)=Â:=by
   cases iW <;> rfl
  show⟨_,Z,x,C.Growth,jz,_,_,Z,jA,T.aj,T.aM,Z,Â,.inl ⟨_,bG.of f3,rK.symm⟩,Y9 ?_⟩;show⟨λσ' H'=>∃m',m'<_/\_,λ_ _ z=>z,?_⟩;let⟨n4,jE⟩:=n3.pop;let f4:H3 nT=À (.lst<|iW.map V.ref++[.ref t4]):=by rw[f3,Î];rfl
  let g4:=g3.set2 n4;let EY:upd H3 nT (.lst<|iW.map V.ref) t4=À (.tup<|(Ye y2).map kV):=by rw[YB<|Yi jE f3 nofun];show jE
  let⟨QX,qF⟩:=g4.x_;show⟨_,Z,x,jz,_,Z,jA,Z,_,Z,x,C.Growth,jz,_,_,Z,jA,T.aj,T.aM,Z,.inl ⟨Z,_,bG.of f3⟩,nT,_,.ref t4,Z,Z,f4,(by simp),?_⟩;rw[Č];show⟨H0,x,l,L,nT,ju,a4,a5,t4,xs,g,cs,tG,hs2,gZ,QW,iB,h',B2,E2,N2,y2,Z,⟨env,g4,EY,mq.pop,mq.vf y2<|Ò _<|YO0.mpr rfl,c3,QV,hN3⟩,λH5 zF Ra tH p_ B5 E5 N5 g5 qH c5 Rb hN5 vB=>?_⟩;let jR:(gZ++[y2]).length=gZ.length+1:=by rw[È];rfl
  show⟨3000000-(gZ++[y2]).length,by lia,zF,Ra,gZ++[y2],tH,p_,B5,E5,N5,Z,g5,qH,c5,Rb,by lia,λz m e=>vB z m<|jD z m e,.inl (by rcases uE with z|z <;> lia),Z⟩
structure A8(g:YS)(cs:List Nat)(hs:Hs):Prop where
 sg:∀i c,cs[i]?=À c->YQ hs (.part (Zp c) i<|i+1)=À 0
 bg:∀r i,r<g.length->i<=cs.length->YQ hs (.beg r 0 i i)=À 0
inductive YEO(CG CT:Addr)(vs:List V)(H:Hp)(Q:VK)(E:XK):Prop
 |mk (x y:V)(dg d:D):vs=[x,y]->cx H x dg->dg.short=Â->cx H y d->d.short=Â->YL H->(∀g z,dg=ip g->Y4 g=Â->d=.str z->Zu z=Â->∀a o hs H',J9 g z.cps.toList hs->A8 g z.cps.toList hs->H a=Á->H' a=À (.frz o (.dT (fQ hs)))->YG H H'->YL H'->Q (.ref a) H')->(JX dg=Ã->∀H',YG H H'->YL H'->E (.ref CG) Á H')->(JX dg=Â->uk d=Ã->∀H',YG H H'->YL H'->E (.ref CT) Á H')->YEO CG CT vs H Q E
@[ext]def YFn(CG CT:ai):Sp:=λvs H Q E=>YEO CG CT vs H Q E
def Z4:YJ [cE,bp,ar,"signs","growth",ck,"sign",cb] [cE,bp]<|YH Ϭ:=dE
def YJM(T:Txt K mg C)(bZ:ZN P w K mg (fe P w) 7 "checked" [aT]<|Ħ C.NoGrammar)(bJ:ZN P w K mg (fe P w) 3 fk [aT]<|ς C.NoText)(cL:nz P w K mg cj 1 C.Growth [av,ar]<|YLW C.Growth)(aF:Yv P w K mg cj 1 C.Growth "stand" [av,ay]<|Œ C.Growth)(d_:Yv P w K mg cj 4 C.Growth "grow" [av]<|YOH C.Growth):Gd P w K mg (fe P w) 8 "standing" "standing" Ϭ [cE,bp]<|YFn C.NoGrammar C.NoText:=by
 show j1 Z4 λH Q E hr h=>?_;let⟨x,y,dg,d,Z,denG,shG,den,sh,hp,q,qG,qT⟩:=h;show fO ?_;show⟨_,(YE ⟨(c_ 2 Z4<|eT bZ hr Yy.on<|aY<|J 0)⟩
  (YE ⟨(c_ 3 Z4<|eT bJ hr Yy.on<|aY<|J 1)⟩
  (YE ⟨(c_ 4 Z4<|AU cL hr T.mY YO<|aY<|J 2)⟩
  (YE ⟨(sQ PassesOwn.leaving Z (YOI Z T.jb<|aY<|J 3) (xS K Z (n:=2) rfl<|Zg (fm 5 Z4)<|Zg (fm 6 Z4) y9)<|YD<|YW<|fJ (J 4) T.aj aF hr YO<|aY<|ZE<|YI (YR XO ZX<|J 6)<|YI (J 5)<|aY<|YR ZI (J 5) YC)⟩
  (YE ⟨(sQ PassesOwn.leaving Z (JD Z T.cF<|aY<|fA K T.aJ<|J 2) (fm 7 Z4)<|YD<|sQ PassesOwn.leaving rfl (JD rfl T.cF<|aY<|YR ZI (Yc JS (by rfl) T.aJ Ď<|aY<|J 3) YC) (fm 5 Z4)<|YD<|YW<|fJ (J 4) T.aj aF hr YO<|aY<|ZE<|Yz (J 7)<|Yz YC<|Yz (J 5)<|Yz (J 5) Ys)⟩
  (YE ⟨(YW<|fW (J 4) T.aj d_ hr YO)⟩
  (Y8 ⟨(YN<|YOJ<|df K<|J 4)⟩))))))),?_⟩
 show fb λu eu=>?_;show⟨_,Z,x,dg,Z,denG,shG,hp,λeg l xs ds ed hds hl=>?_,λe=>qG e H (YG.refl H) hp⟩;let⟨g,Z,hg⟩:=ψ eg;cases ed;let s1:=YG.upd (o:=.lst xs) hl;let p1:YL<|upd H l<|.lst xs:=hp.upd rfl;let hl1:upd H l (.lst xs) l=À (.lst xs):=YA;let qd:=hds.same s1;let tK:=den.same s1;revert s1 p1 hl1 qd tK;generalize upd H l (.lst xs)=H1;intro s1 p1 hl1 qd tK;change u _ _ _;subst eu;show fb λu eu=>?_;show⟨_,Z,y,d,Z,tK,sh,p1,λz ez hz=>?_,λe=>qT eg e H1 s1 p1⟩;subst ez;obtain⟨cs,ecs⟩:∃cs,z.cps.toList=cs:=⟨_,Z⟩;let zG:=hz;unfold Zu at zG;rw[Ó,fE]at zG;let hcl:cs.length=z.cps.size:=by rw[<-ecs,ì]
 let rM:cs.length<=60:=by rw[hcl];show zG.1
 let env:xM H1 l xs g cs:=⟨hl1,qd,hg,rM⟩;let jt:xs.length=g.length:=by rw[qd.len,Ä]
 let g60:=Bz hg;change u _ _ _;subst eu;show fb λu eu=>?_;show⟨_,Z,λgx B S qU hnx=>⟨H1,gx,l,B,Z,YA,S,(YG.upd qU).put S,(p1.upd Z).upd Z,λL a2 a3 a4 a5 own G0 zH=>⟨Z,?_⟩⟩⟩;dsimp only[Y7];change u _ _ _;subst eu;show fb λu eu=>?_;show⟨_,Z,z,Z,YMn (z:=z) (λi σ H2=>BC λhs fresh v5 v6=>Cy (σ=[À x,À y,À<|.ref l,À<|.str z,À<|.ref gx,v5,v6,Á]) (fc C.Growth H1 H2 gx l L a2 a3 a4 a5 own hs fresh [] 0 (λ_ _=>[]) (λ_ _=>[]) 0) (fz g cs hs [] fresh [] 0) ((∀i' c,i'<i->cs[i']?=À c->YQ hs (.part (Zp c) i'<|i'+1)=À 0)) (∀n v,YQ hs n=À v->∃p i' j',n=.part p i' j'/\i'<i)) ⟨[],[],Á,Á,Z,zH,⟨å,List.Perm.refl _,λn hn=>(nomatch hn),λn hn=>(nomatch hn),λn hn=>(nomatch hn),λn v e=>(nomatch e),λn v e=>(nomatch e)⟩,λi' c hi=>(nomatch hi),λn v e=>(nomatch e)⟩ ?_ ?_⟩;rintro i c T0 σ H2 hi hT0 ⟨hs,fresh,v5,v6,rfl,g2,pL,hb2,hn2⟩;let uo:cs[i]?=À c:=by rw[<-ecs,ă];show hi
 let hil:i<cs.length:=(YOx.mp uo).1;let sT:=YG.upd (o:=.tup [.int (i:Nat),.str ⟨#[c]⟩]) hT0;let g3:=g2.same sT<|Yp rfl;let⟨jz,jA⟩:=g3.x_;let⟨hlen,jR⟩:=pL.len hg rM;show⟨T0,_,Z,cN.of YA,Z,_,_,Z,_,_,Z,Z,?_⟩;show⟨_,Z,gx,jz,_,Z,jA,Z,_,Z,_,_,Z,Z,YK (by rw[Ce];change 1+1<=1000;decide),_,Z,_,Z,_,_,Z,Z,iO,λtn kO=>?_⟩;let sN:=YG.upd (o:=.tup [.str<|Zp c,.int (i:Nat),.int<|(i:Int)+1]) kO;let hlk:YQ hs (.part (Zp c) i<|i+1)=Á:=by
  cases e:YQ hs (.part (Zp c) i<|i+1) with
  |none=>rfl
  |some v=>
   let⟨p,i',j',z1,z2⟩:=hn2 _ _ e;injection z1 with z3 z4 z5;lia
 show⟨H1,gx,l,L,a2,a3,a4,a5,tn,own,hs,fresh,[],0,λ_ _=>[],λ_ _=>[],0,.part (Zp c) i<|i+1,Z,g3.same sN<|Yp rfl,YA,hlk,by lia,by lia,λH5 g5 _=>?_⟩;let qH:=pL.stand hlk (show im g cs (.part (Zp c) i<|i+1) from⟨.inr ⟨c,uo,Z,Z⟩,ò _,hil⟩)<|.inl ⟨Z,c,uo,Z,Z⟩;show⟨_,_,_,_,Z,g5,qH,λi' c' hi' hc'=>?_,λn v e=>?_⟩;by_cases vC:i'=i;subst vC;rw[uo]at hc';cases hc';rw[ZV _ _ _ _ hlk,if_pos Z];show Z2 hlk _ _<|hb2 i' c' (by lia) hc';rw[ZV _ _ _ _ hlk]at e;split at e;rename_i zz;show⟨_,_,_,zz,û _⟩;let⟨p,i',j',z1,z2⟩:=hn2 _ _ e;show⟨p,i',j',z1,by lia⟩;rintro σ H2 ⟨hs,fresh,v5,v6,rfl,g2,pL,hb2,hn2⟩;let zJ:∀i c,cs[i]?=À c->YQ hs (.part (Zp c) i<|i+1)=À 0:=λi c e=>hb2 i c (by rw[<-hcl];show(YOx.mp e).1) e;let hl2:=g2.sm _ _ hl1;change u _ _ _;subst eu;show fb λu eu=>?_;show⟨_,Z,l,_,Z,.inl<|bG.of hl2,_,Z,(jp (by lia) (by lia)).1,(jp (by lia) (by lia)).2,?_⟩;show XM (lo:=0) (n:=((xs.length:Int)).toNat) (λr σ H3=>BC λkj iY v5 v7=>A6 (σ=[À x,À y,À<|.ref l,À<|.str z,À<|.ref gx,v5,v6,v7]) (fc C.Growth H1 H3 gx l L a2 a3 a4 a5 own kj iY [] 0 (λ_ _=>[]) (λ_ _=>[]) 0) (fz g cs kj [] iY [] 0) ((∀n v,YQ hs n=À v->YQ kj n=À v)) ((∀r' i,r'<r->i<=cs.length->YQ kj (.beg r' 0 i i)=À 0)) (∀n v,YQ kj n=À v->(∃p i' j',n=.part p i' j')\/∃r' i',n=.beg r' 0 i' i'/\r'<r)) ⟨hs,fresh,v5,Á,Z,g2,pL,λ_ _ e=>e,λr' i hr=>(nomatch hr),λn v e=>.inl (let ⟨p,i',j',z1,_⟩:=hn2 n v e;⟨p,i',j',z1⟩)⟩ ?_ ?_;rintro r σ H3 hr ⟨kj,iY,v5,v7,rfl,g3,mq,jD,jZ,uq⟩;let Rc:r<g.length:=by lia
 let zl:z.length<=sizeLine:=YK (by have:z.length=z.cps.size:=rfl;lia);let zlc:(z.length:Int)=(cs.length:Int):=by rw[hcl];rfl
 show⟨_,Z,z,Z,zl,_,_,Z,Z,_,Z,(jp (by lia) (by lia)).1,(jp (by lia) (by lia)).2,?_⟩;show XM (lo:=0) (n:=((z.length:Int)+1).toNat) (λi σ H4=>g9 λn_ iZ v5=>A6 (σ=[À x,À y,À<|.ref l,À<|.str z,À<|.ref gx,v5,v6,À<|.int<|0+(r:Int)]) (fc C.Growth H1 H4 gx l L a2 a3 a4 a5 own n_ iZ [] 0 (λ_ _=>[]) (λ_ _=>[]) 0) (fz g cs n_ [] iZ [] 0) ((∀n v,YQ hs n=À v->YQ n_ n=À v)) ((∀r' i',r'<r\/(r'=r/\i'<i)->i'<=cs.length->YQ n_ (.beg r' 0 i' i')=À 0)) (∀n v,YQ n_ n=À v->(∃p i' j',n=.part p i' j')\/∃r' i',n=.beg r' 0 i' i'/\(r'<r\/(r'=r/\i'<i)))) ⟨kj,iY,v5,Z,g3,mq,jD,λr' i' h1 h2=>jZ r' i' (by lia) h2,λn v e=>(uq n v e).elim .inl λ⟨r',i',z1,z2⟩=>.inr ⟨r',i',z1,.inl z2⟩⟩ ?_ ?_;rintro i σ H4 hi ⟨n_,iZ,v5,rfl,g4,gY,ph,hb4,pM⟩;let uo:i<=cs.length:=by lia
 let⟨QX,qF⟩:=g4.x_;let⟨hlen,jR⟩:=gY.len hg rM;show⟨_,Z,gx,QX,_,Z,qF,Z,_,Z,_,Z,_,Z,kc,λtn kO=>?_⟩;let en:HO.tup [.int<|0+(r:Int),.int 0,.int<|0+(i:Int),.int<|0+(i:Int)]=.tup ((Ye<|.beg r 0 i i).map kV):=by
  rw[Int.zero_add,Int.zero_add];rfl
 let sN:=YG.upd (o:=.tup [.int<|0+(r:Int),.int 0,.int<|0+(i:Int),.int<|0+(i:Int)]) kO;let hlk:YQ n_ (.beg r 0 i i)=Á:=by
  cases e:YQ n_ (.beg r 0 i i) with
  |none=>rfl
  |some v=>
   rcases pM _ _ e with ⟨p,i',j',z1⟩|⟨r',i',z1,z2⟩
   cases z1;injection z1 with z3 z4 z5 z6;lia
 show⟨H1,gx,l,L,a2,a3,a4,a5,tn,own,n_,iZ,[],0,λ_ _=>[],λ_ _=>[],0,.beg r 0 i i,Z,g4.same sN<|Yp rfl,(by rw[<-en];show YA),hlk,by lia,by lia,λH5 g5 _=>?_⟩;obtain⟨ru,er⟩:∃ru,g[r]?=À ru:=⟨_,Ê Rc⟩;let qH:=gY.stand hlk (show im g cs (.beg r 0 i i) from⟨⟨ru,er,Ë _⟩,Å _,uo⟩)<|.inl ⟨Z,Z,Z⟩;show⟨_,_,_,Z,g5,qH,λn v e=>Z2 hlk _ _<|ph n v e,λr' i' h1 h2=>?_,λn v e=>?_⟩;rw[ZV _ _ _ _ hlk];split;rfl;rename_i zz;show hb4 r' i' ?_ h2;rcases h1 with h1|⟨h1,h3⟩
 show .inl h1;show .inr ⟨h1,?_⟩;by_cases vC:i'=i;show(zz (by rw[h1,vC])).elim;lia;rw[ZV _ _ _ _ hlk]at e;split at e;rename_i zz;show .inr ⟨r,i,zz,.inr ⟨Z,û _⟩⟩;rcases pM _ _ e with z1|⟨r',i',z1,z2⟩
 show .inl z1;show .inr ⟨r',i',z1,by lia⟩;rintro σ H4 ⟨n_,iZ,v5,rfl,g4,gY,ph,hb4,pM⟩;show⟨n_,iZ,_,_,Z,g4,gY,ph,λr' i' h1 h2=>hb4 r' i' ?_ h2,λn v e=>?_⟩;by_cases hrr:r'=r;show .inr ⟨hrr,by lia⟩;show .inl (by lia);rcases pM _ _ e with z1|⟨r',i',z1,z2⟩
 show .inl z1;show .inr ⟨r',i',z1,by lia⟩;rintro σ H3 ⟨kj,iY,v5,v7,rfl,g3,mq,jD,jZ,uq⟩;let⟨jz,jA⟩:=g3.x_;change u _ _ _;subst eu;show fb λu eu=>?_;show⟨_,Z,gx,jz,_,Z,jA,Z,H1,gx,l,L,a2,a3,a4,a5,xs,g,cs,own,kj,iY,λ_ _=>[],λ_ _=>[],Z,env,g3,mq,⟨λp k r d i=>⟨λhh=>(nomatch hh),λhh=>(nomatch hh.1)⟩,λp k j=>⟨λhh=>(nomatch hh),λhh=>(nomatch hh)⟩⟩,λH6 QZ nT ju own6 h6 B6 E6 N6 g6 lu qZ=>?_⟩;let⟨Rf,q9⟩:=g6.x_;let⟨k4,f4,_,_⟩:=g6.h4;let⟨k5,f5,_,_⟩:=g6.h5;change u _ _ _;subst eu;show⟨_,Z,gx,C.Growth,Rf,_,_,Z,q9,T.aj,T.aK,Z,L,a4,a5,_,_,_,g6.h1,f4,f5,g6.d14,g6.d15,g6.d45,λo=>?_⟩;let bs:A8 g cs QZ:=⟨λi c e=>qZ _ _<|jD _ _<|zJ i c e,λr i hr hi=>qZ _ _<|jZ r i (by lia) hi⟩;rw[<-ecs]at bs lu;show q g z Z hg Z hz L o QZ _ lu bs (s1.free g6.n1) YA ?_ ?_;show s1.trans<|((g6.sm.to_del g6.n4).to_del g6.n5).put g6.n1;intro b ob eb;by_cases hb:b=L;subst hb;rw[YA]at eb;cases eb;rfl;rw[YB hb]at eb;let h5:b≠a5:=λzz=>by rw[zz,J6]at eb;cases eb
 rw[ZY h5]at eb;let h4:b≠a4:=λzz=>by rw[zz,J6]at eb;cases eb
 rw[ZY h4]at eb;rcases g6.pl b ob eb with zz|zz|zz|zz
 show(hb zz).elim;show(h4 zz).elim;show(h5 zz).elim;show zz
noncomputable abbrev XC:Stmt:=top 37
noncomputable abbrev JP:Stmt:=top 38
noncomputable abbrev Xp:Stmt:=Ym (top 39) 0
noncomputable abbrev XX:Stmt:=Ym (top 39) 1
noncomputable abbrev XY:Stmt:=Ym (top 39) 2
noncomputable abbrev Jd:Stmt:=Ym (top 39) 3
noncomputable abbrev XZ:Stmt:=Ym (top 39) 4
noncomputable abbrev ž:Stmt:=Ym (top 39) 5
noncomputable abbrev ϋ:Stmt:=Ym (top 39) 6
noncomputable abbrev YB4:Stmt:=Ym (top 39) 7
noncomputable abbrev Je:Stmt:=Ym (top 39) 8
noncomputable abbrev Zy:Stmt:=Ym (top 39) 9
inductive YLl(vs:List V)(H:Hp)(Q:VK):Prop
 |mk (l:Addr)(xs:List V)(g:YS):vs=[.ref l]->H l=À (.lst xs)->Ya H xs (g.map Za)->Y4 g=Â->YL H->(∀a H',qB H' a g->YG H H'->YL H'->Q (.ref a) H')->YLl vs H Q
@[ext]def Ż:Sp:=λvs H Q E_=>YLl vs H Q
inductive YJN(vs:List V)(H:Hp)(Q:VK):Prop
 |mk (f:Addr)(o:Obj)(kvs:List (List db×V))(DS:List Nd)(n:Nat):vs=[.ref f]->H f=À (.frz o (.dT kvs))->JK kvs DS->DS.Nodup->DS.length<=2100000->n<=60->(∀r d i k,Nd.beg r d i k∈DS->k<=n)->YL H->(∀a H',tF H' a n DS->YG H H'->YL H'->Q (.ref a) H')->YJN vs H Q
@[ext]def YLm:Sp:=λvs H Q E_=>YJN vs H Q
def Z9:YJ [ar,bi,cb,"rule"] [ar]<|YH XC:=dE
def YCz(T:Txt K mg C):Gd P w K mg cj 1 fu fu XC [ar]<|Ż:=by
 show eP Z9 λH Q E hr h=>?_;let⟨l,xs,g,Z,hl,hds,hg,hp,q⟩:=h;let hu:=Zd hr;show⟨_,(YF (c_ 1 Z9 YIU)
  (YF (fM (o_ K Z rfl T.jb<|aY<|J 0) (xS K Z (n:=2) rfl<|Zg (fm 2 Z9)<|Zg (fm 3 Z9) y9)<|YD<|YW<|fP K (YMp hu (J 1) (eL K (J 3) YC) (Y6 Ys) ⟨Z,Z,Z,Z⟩)<|J 2)
  (YD<|YN<|J 1))),?_⟩
 let m8:=Bz hg;let jt:xs.length=g.length:=by rw[hds.len,Ä]
 showλd hd=>?_;let s0:=YG.upd (o:=.dK []) hd;show⟨_,Z,l,Z,⟨xs,.inl<|s0 _ _ hl⟩,YN5 (K:=K) (a:=l) (xs:=xs) (λi σ H2=>BC λ(own:ai->ag am) (v2 v3:ag V) (N:Nat)=>vb (σ=[À<|.ref l,À<|.ref d,v2,v3]) (kS HO.dK (Sum.inr:am->db) H H2 d own (XW g i) N)<|N<=2*i)
  ⟨λ_=>Á,Á,Á,0,Z,⟨s0,⟨[],YA,Å _,λt=>.inl ⟨Z,Z⟩,λk v e=>nomatch e⟩,(λa t e=>nomatch e),hd,λb o e=>(by by_cases hb:b=d;show .inl hb;rw[YB hb]at e;show .inr<|hp b o e),λt=>Å _⟩,Å _⟩
  (by rintro i σ H2 _ ⟨own,v2,v3,N,_,g2,_⟩;show bG.of<|g2.sm _ _ hl) ?_ ?_⟩
 rintro i x T0 σ H2 hi hT0 ⟨own,v2,v3,N,rfl,g2,hN⟩;let hil:i<xs.length:=(YOx.mp hi).1;let er:g[i]?=À g[i]:=Ê (by lia);generalize g[i]=ru at er;let⟨tt,pp,ax,gJ,lz⟩:=Xh hds er;let ex:x=.ref tt:=by
  have:=ZB (xs:=xs) (j:=i) hi;rw[this]at ax;show Û ax
 subst ex;let sT:=YG.upd (o:=.tup [.int (i:Nat),.ref tt]) hT0;let g3:=g2.same sT<|YU.upd rfl;show⟨T0,_,Z,cN.of YA,Z,_,_,Z,_,_,Z,Z,?_⟩;revert g3;generalize upd H2 T0 (.tup [.int (i:Nat),.ref tt])=H3;intro g3;let⟨kvs,e1,e2,e3,e4⟩:=g3.h;show⟨_,Z,d,Z,.inl ⟨kvs,.inl e1⟩,_,Z,tt,_,0,_,Z,Z,cN.of<|g3.sm _ _ gJ,Z,YK<|Ë _,λe he=>?_⟩;let g4:=g3.same (YG.upd (o:=.lst []) he)<|YU.upd rfl;let hde:d≠e:=YV e1 he;show⟨kvs,Sum.inr ru.1,by rw[YB hde];show e1,Z,by rw[sizeLine_eq];lia,λv hv=>?_,λhv=>?_⟩;rcases e3 ru.1 with z|⟨a,z1,z2,z3⟩
 rw[z.1]at hv;cases hv;rw[z1]at hv;cases hv;let vD:a≠e:=YV z3 he;show⟨.inl ⟨Z,_,bG.of (by rw[YB vD];show z3)⟩,_,Z,a,_,_,Z,Z,by rw[YB vD];show z3,by rw[Ä,sizeLine_eq];have:=g3.le ru.1;lia,?_⟩;show⟨own,_,_,N+1,Z,?_,by lia⟩;have:=g4.more (λ_ _ z=>nomatch z) z2 (λjX z=>by rw[YB hde,e1]at z;cases z;show z1) i;let ef:(λt'=>if t'=ru.1 then XW g i ru.1++[i] else XW g i t')=XW g (i+1):=funext λp=>(YEL er p).symm;rw[ef]at this;show this;let hne:(g3.sm.trans<|YG.upd (o:=.lst []) he)=(g3.sm.trans<|YG.upd (o:=.lst []) he):=rfl;let h0:H e=Á:=g3.sm.free he;let ho:own e=Á:=by
  cases ho:own e with
  |none=>rfl
  |some t=>
   let⟨_,wH,z⟩:=g3.on e t ho;rw[he]at z;cases z
 let g5:=g4.fresh (λ_ _ z=>nomatch z) (λ_ _ z=>by cases z;rfl) (λ_ _ z=>by cases z;rfl) (t:=ru.1) YA h0 ho (by rw[YB hde];show e1) hv;let vG:upd (upd H3 e<|.lst []) d (.dK<|Y3 kvs (Sum.inr ru.1)<|.ref e) e=À (.lst []):=by rw[YB hde.symm];show YA
 let hE:XW g i ru.1=[]:=by
  rcases e3 ru.1 with z|⟨a,z1,z2,z3⟩
  show z.2;rw[hv]at z1;cases z1
 show⟨.inl ⟨Z,_,bG.of vG⟩,_,Z,e,_,_,Z,Z,vG,by rw[sizeLine_eq];decide,?_⟩;let g6:=g5.more (λ_ _ z=>nomatch z) (t:=ru.1) (a:=e) (if_pos Z) (λjX z=>by rw[YA]at z;cases z;rw[Z0,if_pos Z]) i;let ef:(λt'=>if t'=ru.1 then XW g i ru.1++[i] else XW g i t')=XW g (i+1):=funext λp=>(YEL er p).symm;rw[ef,hE]at g6;show⟨_,_,_,N+1+1,Z,g6,by lia⟩;rintro σ H2 ⟨own,v2,v3,N,rfl,g2,hN⟩;let⟨kvs,e1,e2,e3,e4⟩:=g2.h;let er:XW g xs.length=YM g:=by rw[jt];rfl
 rw[er]at e3;show⟨_,Z,q d H2 ⟨kvs,e1,λp=>(e3 p).imp (λz=>⟨z.2,z.1⟩) λ⟨a,z1,_,z3⟩=>⟨a,z1,z3⟩⟩ g2.sm λb o e=>?_⟩;rcases g2.pl b o e with rfl|h
 rw[e1]at e;cases e;rfl;show h
def Zo:YJ ["nodes",bS,ay,"key"] ["nodes"]<|YH JP:=dE
def YBg(T:Txt K mg C):Gd P w K mg cj 1 fY fY JP ["nodes"]<|YLm:=by
 show eP Zo λH Q E hr h=>?_;let⟨f,o,kvs,DS,n,Z,hf,hk,hnd,hl2,hn,hb,hp,q⟩:=h;let hu:=Zd hr;show⟨_,(YF (c_ 1 Zo J5)
  (YF (fM (YIx<|J 0) (fm 2 Zo)<|YD<|Yq (Yg iX (fA K T.aJ<|J 2) YC<|Yd _) (YD<|YW<|fP K (ľ hu (J 1) (ZE<|YI (eL K (J 2) YC)<|YI (eL K (J 2) YC)<|aY<|eL K (J 2) YC) (Y6 Ys) ⟨Z,Z,Z,Z⟩)<|eL K (J 2) YC) YT)
  (YF (fM (ZJ K rfl<|Jy (YBd rfl) (by rfl) T.dY Ā<|aY<|J 1) (fm 3 Zo)<|YD<|J4 hu (J 1) (J 3) (Yc YIy (by rfl) T.mV PyProof.Rows.Boot.«sorted»<|aY<|JT hu (J 1) (J 3)<|λ_ _=>rfl) rfl)
  (YD<|YN<|ϧ<|J 1)))),?_⟩
 showλd hd=>?_;let s0:=YG.upd (o:=.dT []) hd;let hkl:=hk.len;show⟨_,Z,f,o,kvs,Z,s0 _ _ hf,YG0 (d:=f) (o:=o) (kvs:=kvs) (λi σ H2=>g9 λ(own:ai->ag (Nat×Nat×Nat)) (v2:ag V) (N:Nat)=>vb (σ=[À<|.ref f,À<|.ref d,v2,Á]) (kS HO.dT gy H H2 d own (iP<|DS.take i) N)<|N<=2*i)
  ⟨λ_=>Á,Á,0,Z,⟨s0,⟨[],YA,Å _,λt=>.inl ⟨Z,Z⟩,λk v e=>nomatch e⟩,(λa t e=>nomatch e),hd,λb o e=>(by by_cases hb:b=d;show .inl hb;rw[YB hb]at e;show .inr<|hp b o e),λt=>Å _⟩,Å _⟩
  (by rintro i σ H2 _ ⟨own,v2,N,_,g2,_⟩;show g2.sm _ _ hf) ?_ ?_⟩
 rintro i kv b σ H2 hi hb2 ⟨own,v2,N,rfl,g2,hN⟩;let hil:i<kvs.length:=(YOx.mp hi).1;obtain⟨x,ex⟩:∃x,DS[i]?=À x:=⟨_,Ê (by lia)⟩;let ekv:kv.1=Ye x:=by
  have:=fT (λl=>l[i]?) hk;simp only[Ï,hi,ex]at this;show Û this
 rw[ekv]at hb2;dsimp only[Y7];cases x with
 |part p a c=>
  let iC:H2 b=À (.tup [.str p,nV a,nV c]):=hb2;show⟨_,Z,b,_,Z,.inr<|cN.of iC,Z,_,Z,?_⟩;rw[show decide (V.int (([.str p,nV a,nV c]:ac V).length:Nat)=V.int 4)=Ã from eI (λh=>by injection h with h;let h:(3:Int)=4:=h;lia)];show Y5 ⟨own,_,N,Z,?_,by lia⟩;rw[YKX ex];show g2
 |beg r dd ii k=>
  let iC:H2 b=À (.tup [nV r,nV dd,nV ii,nV k]):=hb2;show⟨_,Z,b,_,Z,.inr<|cN.of iC,Z,_,Z,?_⟩;rw[show decide (V.int (([nV r,nV dd,nV ii,nV k]:ac V).length:Nat)=V.int 4)=Â from dA Z];let⟨i_,e1,e2,e3,e4⟩:=g2.h;show Y9 ⟨_,Z,d,Z,.inr ⟨i_,.inl e1⟩,_,Z,b,_,0,_,Z,Z,cN.of iC,Z,_,Z,b,_,1,_,Z,Z,cN.of iC,Z,_,Z,b,_,2,_,Z,Z,cN.of iC,Z,iO,λtk jc=>?_⟩;show⟨YK<|Ë _,λe he=>?_⟩;let g3:=g2.same (YG.upd (o:=.tup [nV r,nV dd,nV ii]) jc)<|YU.upd rfl;let mF:upd H2 tk (.tup [nV r,nV dd,nV ii]) tk=À (.tup<|(gy (r,dd,ii)).map kV):=YA;let jZ:upd H2 tk (.tup [nV r,nV dd,nV ii]) b=À (.tup [nV r,nV dd,nV ii,nV k]):=YG.upd jc _ _ iC;let tL:upd H2 tk (.tup [nV r,nV dd,nV ii]) d=À (.dT i_):=YG.upd jc _ _ e1;let wJ:∀t,(Yj i_ (gy t)=Á/\iP (DS.take i) t=[])\/∃a,Yj i_ (gy t)=À (.ref a)/\own a=À t/\upd H2 tk (.tup [nV r,nV dd,nV ii]) a=À (.lst<|(iP (DS.take i) t).map nV):=λt=>(e3 t).imp id λ⟨a,z1,z2,z3⟩=>⟨a,z1,z2,YG.upd jc _ _ z3⟩;revert g3 mF jZ he tL wJ;generalize upd H2 tk (.tup [nV r,nV dd,nV ii])=H3;intro he g3 mF jZ tL wJ;let g4:=g3.same (YG.upd (o:=.lst []) he)<|YU.upd rfl;let hde:d≠e:=YV tL he;let ef:=YMq ex;show⟨i_,gy (r,dd,ii),tk,by rw[YB hde];show tL,Z,YG.upd he _ _ mF,by rw[sizeLine_eq];lia,λv hv=>?_,λhv=>?_⟩;rcases wJ (r,dd,ii) with z|⟨a,z1,z2,z3⟩
  rw[z.1]at hv;cases hv;rw[z1]at hv;cases hv;let vD:a≠e:=YV z3 he;show⟨.inl ⟨Z,_,bG.of (by rw[YB vD];show z3)⟩,_,Z,b,_,3,_,Z,Z,cN.of<|YG.upd he _ _ jZ,Z,a,_,_,Z,Z,by rw[YB vD];show z3,by rw[Ä,sizeLine_eq];have:=g3.le (r,dd,ii);lia,?_⟩;show⟨own,_,N+1,Z,?_,by lia⟩;have:=g4.more (λ_ _ z=>nomatch z) z2 (λjX z=>by rw[YB hde,tL]at z;cases z;show z1) k;rw[ef]at this;show this;let h0:H e=Á:=g3.sm.free he;let ho:own e=Á:=by
   cases ho:own e with
   |none=>rfl
   |some t=>
    let⟨_,wH,z⟩:=g3.on e t ho;rw[he]at z;cases z
  let g5:=g4.fresh (λ_ _ z=>nomatch z) (λ_ _ z=>by cases z;rfl) Α (t:=(r,dd,ii)) YA h0 ho (by rw[YB hde];show tL) hv;let vG:upd (upd H3 e<|.lst []) d (.dT<|Y3 i_ (gy (r,dd,ii))<|.ref e) e=À (.lst []):=by rw[YB hde.symm];show YA
  let pN:upd (upd H3 e<|.lst []) d (.dT<|Y3 i_ (gy (r,dd,ii))<|.ref e) b=À (.tup [nV r,nV dd,nV ii,nV k]):=by rw[YB<|Yi jZ tL nofun];show YG.upd he _ _ jZ
  let hE:iP (DS.take i) (r,dd,ii)=[]:=by
   rcases wJ (r,dd,ii) with z|⟨a,z1,z2,z3⟩
   show z.2;rw[hv]at z1;cases z1
  show⟨.inl ⟨Z,_,bG.of vG⟩,_,Z,b,_,3,_,Z,Z,cN.of pN,Z,e,_,_,Z,Z,vG,by rw[sizeLine_eq];decide,?_⟩;let g6:=g5.more (λ_ _ z=>nomatch z) (t:=(r,dd,ii)) (a:=e) (if_pos Z) (λjX z=>by rw[YA]at z;cases z;rw[Z0,if_pos Z]) k;rw[ef,hE]at g6;show⟨_,_,N+1+1,Z,g6,by lia⟩
 rintro σ H2 ⟨own,v2,N,rfl,g2,hN⟩;rw[hkl,æ]at g2;let⟨kvE,e1,e2,e3,e4⟩:=g2.h;show⟨_,Z,d,kvE,Z,.inl e1,λlk ts hlk jM=>?_⟩;let slk:=YG.upd (o:=.lst<|ts.map V.ref) hlk;let hdl:d≠lk:=YV e1 hlk;show⟨lk,Z,⟨_,bG.of YA⟩,ZL (K:=K) (a:=lk) (xs:=ts.map V.ref) (λm σ H3=>DB λ(i_:ac (ac db×V)) (v3:ag V)=>xu (σ=[À<|.ref f,À<|.ref d,v2,v3]) (H3 d=À (.dT i_)) (i_.map (·.1)=kvE.map (·.1)) (YG H H3) (H3 lk=À (.lst<|ts.map V.ref)) (YKV H3 ts kvE) ((∀b o,H3 b=À o->b=d\/Yx o=Â)) (∀t,∃DZ:ac Nat,DZ.Perm (iP DS t)/\(gy t∈(kvE.map (·.1)).take m->DZ.Pairwise (·<=·))/\((Yj i_ (gy t)=Á/\DZ=[])\/∃a,Yj i_ (gy t)=À (.ref a)/\H3 a=À (.lst<|DZ.map nV))))
  ⟨kvE,Á,Z,slk _ _ e1,Z,g2.sm.trans slk,YA,⟨jM.1,λi t kv z1 z2=>slk _ _<|jM.2 i t kv z1 z2⟩,λb o e=>(Yp Z b o e).elim (g2.pl b o) .inr,λt=>⟨iP DS t,List.Perm.refl _,nofun,(e3 t).imp id λ⟨a,z1,_,z3⟩=>⟨a,z1,slk _ _ z3⟩⟩⟩
  (by rintro m σ H3 _ ⟨i_,v3,_,_,_,_,z,_,_,_⟩;show bG.of z) ?_ ?_⟩
 rintro m v σ H3 hm ⟨i_,v3,rfl,f1,f2,f3,f4,f5,f6,f7⟩;rw[Ï]at hm;let⟨tk,jc,Z⟩:=YPk.mp hm;let jR:m<kvE.length:=by rw[<-f5.1];show(YOx.mp jc).1
 obtain⟨kv,ekv⟩:∃kv,kvE[m]?=À kv:=⟨_,Ê jR⟩;let kW:=f5.2 m tk kv jc ekv;let hmem:kv.1∈kvE.map (·.1):=YPR.mpr ⟨kv,Ð ekv,Z⟩;let hsome:=Cs.mpr hmem;let⟨u,hu'⟩:=YQj.mp hsome;let⟨t,et⟩:=e4 _ _ hu';rw[et]at kW hmem;let⟨DZ,p1,p2,p3⟩:=f7 t;let hs2:(Yj i_<|gy t).isSome=Â:=Cs.mpr (by rw[f2];show hmem);obtain⟨a,z1,z2⟩:∃a,Yj i_ (gy t)=À (.ref a)/\H3 a=À (.lst<|DZ.map nV):=by
  rcases p3 with z|z
  rw[z.1]at hs2;cases hs2;show z
 let hLl:DZ.length<=61:=by
  have:=YON (n:=n) (r:=t.1) (d:=t.2.1) (i:=t.2.2) (λk hk'=>hb _ _ _ _ hk') hnd;let h2:=p1.length_eq;unfold iP at h2;lia
 let eLn:DZ.map nV=(DZ.map λk:Nat=>(k:Int)).map V.int:=by rw[é];rfl
 dsimp only[Y7];show⟨_,Z,_,Z,d,_,Z,.inr ⟨i_,gy t,tk,.inl f1,Z,kW,z1.symm⟩,a,DZ.map λk:Nat=>(k:Int),Z,by rw[<-eLn];show z2,by rw[Ä];lia,λpl ns' hpl vH uF=>?_⟩;let⟨L',Z,q1,q2⟩:=YOM vH uF;let spl:=YG.upd (o:=.lst<|(L'.map λk:Nat=>(k:Int)).map V.int) hpl;let hdp:d≠pl:=YV f1 hpl;show⟨_,Z,_,Z,d,_,Z,.inr ⟨i_,gy t,tk,spl _ _ f1,Z,spl _ _ kW,?_,Z⟩,?_⟩;have:i_.length=kvE.length:=by
  have:=fT List.length f2;rw[Ä,Ä]at this;show this
 rw[sizeLine_eq];lia;let zK:H d=Á:=g2.nd;let kt:∀c ys,H3 c=À (.tup ys)->upd (upd H3 pl<|.lst<|(L'.map λk:Nat=>(k:Int)).map V.int) d (.dT<|Y3 i_ (gy t)<|.ref pl) c=À (.tup ys):=λc ys z=>by rw[YB<|Yi z f1 nofun];show spl _ _ z
 let kl:∀c ys,H3 c=À (.lst ys)->upd (upd H3 pl<|.lst<|(L'.map λk:Nat=>(k:Int)).map V.int) d (.dT<|Y3 i_ (gy t)<|.ref pl) c=À (.lst ys):=λc ys z=>by rw[YB<|Yi z f1 nofun];show spl _ _ z
 show⟨_,_,Z,YA,(YDM z1 _).trans f2,(f3.trans spl).put zK,kl _ _ f4,⟨f5.1,λi' t' Rg y1 y2=>kt _ _<|f5.2 i' t' Rg y1 y2⟩,λb' o' e=>?_,λt'=>?_⟩;by_cases hb':b'=d;show .inl hb';rw[YB hb']at e;show(Yp Z b' o' e).elim (f6 b' o') .inr;by_cases gJ:t'=t;subst gJ;show⟨L',q1.trans p1,λ_=>q2,.inr ⟨pl,by rw[Z0,if_pos Z],?_⟩⟩;rw[YB hdp.symm,YA,é];rfl;let⟨M,m1,m2,m3⟩:=f7 t';show⟨M,m1,λDU=>m2 ?_,?_⟩;rw[â,Ï,ekv]at DU;rcases YPD.mp DU with z|z
 show z;have:gy t'=kv.1:=YO0.mp z;rw[et]at this;show absurd (Α _ _ this) gJ;rw[Z0,if_neg<|λz=>gJ<|Α _ _ z];show m3.imp id λ⟨c,y1,y2⟩=>⟨c,y1,kl _ _ y2⟩;rintro σ H3 ⟨i_,v3,rfl,f1,f2,f3,f4,f5,f6,f7⟩;show⟨_,Z,d,i_,f1,λob=>?_⟩;let zK:H d=Á:=g2.nd;let kl:∀c ys,H3 c=À (.lst ys)->upd H3 d (.frz ob<|.dT i_) c=À (.lst ys):=λc ys z=>by rw[YB<|Yi z f1 nofun];show z
 show q d _ ⟨ob,i_,YA,λr dd ii=>?_⟩ (f3.put zK) λb' o' e=>?_;let⟨DZ,p1,p2,p3⟩:=f7 (r,dd,ii);let hbb:∀k,Nd.beg r dd ii k∈DS->k<=n:=λk=>hb r dd ii k;rcases p3 with ⟨z1,rfl⟩|⟨a,z1,z2⟩
 show .inl ⟨(YEK hbb hnd p1 List.Pairwise.nil).symm,z1⟩;let DU:gy (r,dd,ii)∈(kvE.map (·.1)).take (ts.map V.ref).length:=by
  rw[ĝ (by rw[Ä,Ä,jM.1];show Å _),<-f2];show Cs.mp (by rw[z1];rfl)
 rw[<-YEK hbb hnd p1 (p2 DU)];show .inr ⟨a,z1,kl _ _ z2⟩;by_cases hb':b'=d;subst hb';rw[YA]at e;cases e;rfl;rw[YB hb']at e;show(f6 b' o' e).elim (λz=>absurd z hb') id
inductive YJO(C:Addr)(vs:List V)(H:Hp)(Q:VK):Prop
 |mk (x t:Addr)(g:YS)(z:Str)(DS:List Nd)(top:Option Nd)(p:Str)(i j:Nat):vs=[.ref x,.ref t]->XV C H x g z DS top->H t=À (.tup ((Ye (.part p i j)).map kV))->eW p=Ã->Nd.part p i j∈DS->(∀a H',zI H' a (Yf g z.cps.size (dX DS) (.part p i j))->H a=Á->YG H H'->YU H H'->Q (.ref a) H')->YJO C vs H Q
@[ext]def YLn(C:ai):Sp:=λvs H Q E_=>YJO C vs H Q
inductive YJP(C:Addr)(vs:List V)(H:Hp)(Q:VK):Prop
 |mk (x t:Addr)(g:YS)(z:Str)(DS:List Nd)(top:Option Nd)(r d i j:Nat):vs=[.ref x,.ref t]->XV C H x g z DS top->H t=À (.tup ((Ye (.beg r d i j)).map kV))->Nd.beg r d i j∈DS->(∀a H',zI H' a (Yf g z.cps.size (dX DS) (.beg r d i j))->H a=Á->YG H H'->YU H H'->Q (.ref a) H')->YJP C vs H Q
@[ext]def YLo(C:ai):Sp:=λvs H Q E_=>YJP C vs H Q
inductive YLp(C:Addr)(vs:List V)(H:Hp)(Q:VK):Prop
 |mk (x t:Addr)(g:YS)(z:Str)(DS:List Nd)(top:Option Nd)(k:List db):vs=[.ref x,.ref t]->XV C H x g z DS top->H t=À (.tup (k.map kV))->(∀nd,k=Ye nd->nd∈DS->∀a H',zI H' a (Yf g z.cps.size (dX DS) nd)->H a=Á->YG H H'->YU H H'->Q (.ref a) H')->((∀nd∈DS,k≠Ye nd)->∀a H',zI H' a []->H a=Á->YG H H'->YU H H'->Q (.ref a) H')->YLp C vs H Q
@[ext]def ņ(C:ai):Sp:=λvs H Q E_=>YLp C vs H Q
def Zv:YJ [av,ay,bv,cb,"whole"] [av,ay]<|YH Je:=dE
def YB5(T:Txt K mg C):Gd P w K mg cj 1 "ways_of_name" "Wood.ways_of_name" Je [av,ay]<|YLn C.Wood:=by
 show eP Zv λH Q E hr h=>?_;let⟨x,t,g,z,DS,top,p,i,j,Z,wd,ht,hq,DU,q⟩:=h;let hu:=Zd hr;show⟨_,(YF (c_ 2 Zv<|Y6 Ys)
  (YF (fM (ZJ K rfl<|JT hu (df K<|J 0) (eL K (J 1) YC)<|λ_ _=>rfl) (fm 3 Zv) (YF (c_ 4 Zv<|ZE<|Yz (J 3)<|Yz (fA K T.aJ<|eL K (fN K (df K<|J 0)<|J 3) YC)<|Yz (eL K (J 1) YC)<|Yz (eL K (J 1) YC) Ys)
  (YD<|Yq (Xm<|Bn hu (J 4)<|df K<|J 0) (YD<|YW<|fP K (J 2)<|ZE<|aY<|J 4) YT)))
  (YD<|YN<|J 2))),?_⟩
 let⟨B,l,an,af,ae,rv,xs,S,hl,hds,⟨kvN,vI,hn2⟩,ir,⟨obF,kvF,tM,my⟩,hen⟩:=wd.ex;let ht:H t=À (.tup [.str p,nV i,nV j]):=ht;obtain⟨c,e1,e2⟩:∃c,Yj kvN (.inr p)=À (.ref c)/\H c=À (.lst<|(YM g p).map nV):=by
  rcases hn2 p with ⟨e,_⟩|h
  show absurd e<|YKY<|YOO (wd.lg _ DU) hq;show h
 let hrl:(YM g p).length<=60:=by
  let h1:(YM g p).length<=(List.range g.length).length:=Ĉ _ _;rw[è]at h1;have:=Bz wd.gr;lia
 show⟨YK<|Ë _,λfl hfl=>?_⟩;let s0:=YG.upd (o:=.lst []) hfl;show⟨_,Z,x,C.Wood,B,_,_,Z,s0 _ _ S,T.ak,T.gD,Z,_,Z,t,_,0,_,Z,Z,cN.of<|s0 _ _ ht,Z,an,.ref c,Z,.inl ⟨kvN,.inr p,.inl<|s0 _ _ vI,Z,e1.symm⟩,c,Z,⟨_,bG.of<|s0 _ _ e2⟩,?_⟩;show ZL (K:=K) (a:=c) (xs:=(YM g p).map nV) (λm σ H2=>g9 λ(bs:ac ai) (v3 v4:ag V)=>A6 (σ=[À<|.ref x,À<|.ref t,À<|.ref fl,v3,v4]) (H2 fl=À (.lst<|bs.map V.ref)) (Xj H2 bs<|(((YM g p).take m).filter λr=>dX DS<|.beg r (ZH g r) i j).map λr=>[.beg r (ZH g r) i j]) (bs.length<=m) (YG H H2)<|YU H H2)
  ⟨[],Á,Á,Z,YA,.nil,Å _,s0,YU.upd Z⟩ (by rintro m σ H2 _ ⟨bs,v3,v4,_,_,_,_,s2,_⟩;show bG.of<|s2 _ _ e2) ?_ ?_
 rintro m v σ H2 hm ⟨bs,v3,v4,rfl,iT,wl,pI,s2,n2⟩;let jR:m<(YM g p).length:=by
  have:=(YOx.mp hm).1;rw[Ä]at this;show this
 rw[Ï]at hm;let⟨r,hr',Z⟩:=YPk.mp hm;let⟨ru,er,_⟩:=ZO.mp<|Ð hr';let⟨tt,pp,ax,gJ,lz⟩:=Xh hds er;let elr:=vx er;dsimp only[Y7];show⟨_,Z,_,Z,x,C.Wood,B,_,_,Z,s2 _ _ S,T.ak,T.a_,Z,_,Z,l,_,_,_,Z,Z,bG.of<|s2 _ _ hl,ax,tt,_,1,_,Z,Z,cN.of<|s2 _ _ gJ,Z,pp,_,Z,.inr<|cN.of<|s2 _ _ lz,_,Z,t,_,1,_,Z,Z,cN.of<|s2 _ _ ht,Z,_,Z,t,_,2,_,Z,Z,cN.of<|s2 _ _ ht,Z,kc,λtw zL=>?_⟩;let eo:HO.tup [nV r,V.int (((ru.2.1.map V.str).length:Nat):Int),nV i,nV j]=.tup ((Ye<|.beg r (ZH g r) i j).map kV):=by rw[Ä,<-elr];rfl
 let z1:YG H2<|upd H2 tw<|.tup [nV r,V.int (((ru.2.1.map V.str).length:Nat):Int),nV i,nV j]:=YG.upd zL;let n1:YU H2<|upd H2 tw<|.tup [nV r,V.int (((ru.2.1.map V.str).length:Nat):Int),nV i,nV j]:=YU.upd rfl;let hw:upd H2 tw (.tup [nV r,V.int (((ru.2.1.map V.str).length:Nat):Int),nV i,nV j]) tw=À (.tup<|(Ye<|.beg r (ZH g r) i j).map kV):=by rw[<-eo];show YA
 revert z1 n1 hw;generalize upd H2 tw (.tup [nV r,V.int (((ru.2.1.map V.str).length:Nat):Int),nV i,nV j])=H3;intro z1 n1 hw;let s3:=s2.trans z1;show⟨_,Z,_,Z,x,C.Wood,B,_,_,Z,s3 _ _ S,T.ak,T.bC,Z,af,_,Z,.inr ⟨kvF,_,tw,.inr ⟨obF,s3 _ _ tM⟩,Z,hw,Z⟩,_,Z,?_⟩;rw[my.val];let wt:=YG3 hr' (λr=>dX DS<|.beg r (ZH g r) i j) λr=>[.beg r (ZH g r) i j];cases hb:dX DS (.beg r (ZH g r) i j) with
 |false=>
  show Y5 ⟨bs,_,_,Z,z1 _ _ iT,?_,by lia,s3,n2.trans n1⟩;rw[wt,hb,if_neg Ù,ß];show wl.keep λ_ _=>z1 _ _
 |true=>
  show Y9 ⟨_,Z,.inl ⟨Z,_,bG.of<|z1 _ _ iT⟩,_,Z,kN,λt1 gH=>?_⟩;let z2:=YG.upd (o:=.tup [.ref tw]) gH;show⟨fl,_,_,Z,Z,z2 _ _<|z1 _ _ iT,by rw[Ä,sizeLine_eq];lia,?_⟩;let kt:∀a ys,upd H3 t1 (.tup [.ref tw]) a=À (.tup ys)->upd (upd H3 t1<|.tup [.ref tw]) fl (.lst<|bs.map V.ref++[.ref t1]) a=À (.tup ys):=λa ys e=>by rw[YB<|Yi e (z2 _ _<|z1 _ _ iT) nofun];show e
  show⟨bs++[t1],_,_,Z,by rw[YA,Î];rfl,?_,by rw[È];show Nat.succ_le_succ pI,(s3.trans z2).put hfl,(n2.trans n1).trans<|(YU.upd rfl).trans<|YU.upd rfl⟩;rw[wt,hb,if_pos Z];show((wl.keep λ_ _ e=>z2 _ _<|z1 _ _ e).snoc (ts:=[tw]) YA<|ZR.snoc (ts:=[]) (ns:=[]) ⟨Z,λi t x e=>nomatch e⟩<|z2 _ _ hw).keep kt
 rintro σ H2 ⟨bs,v3,v4,rfl,iT,wl,pI,s2,n2⟩;show⟨_,Z,q fl H2 ⟨bs,iT,?_⟩ hfl s2 n2⟩;rw[Ä,æ]at wl;rw[Yf,hq,if_neg Ù];show wl
def YZ:YJ [av,ay,cb,"shorter","begin","end",c9,bv,"middle","last"] [av,ay]<|YH Zy:=dE
def YAX(T:Txt K mg C):Gd P w K mg cj 1 "ways_of_beginning" "Wood.ways_of_beginning" Zy [av,ay]<|YLo C.Wood:=by
 show eP YZ λH Q E hr h=>?_;let⟨x,t,g,z,DS,top,r,d,i,j,Z,wd,ht,DU,q⟩:=h;let hu:=Zd hr;show⟨_,(YF (c_ 2 YZ<|eL K (J 1) YC)
  (YF (c_ 3 YZ<|YR CI (eL K (J 1) YC) YC)
  (YF (c_ 4 YZ<|eL K (J 1) YC)
  (YF (c_ 5 YZ<|eL K (J 1) YC)
  (YF (Yq (Yg nB (J 3) YC<|Yd _) (YD<|YN<|Y6<|aY<|ZE Ys) YT)
  (YF (c_ 6 YZ<|eL K (eL K (fN K (df K<|J 0)<|J 2) YC)<|J 3)
  (YF (c_ 7 YZ<|Y6 Ys)
  (YF (fM (ZJ K rfl<|JT hu (df K<|J 0) (ZE<|YI (J 2)<|YI (J 3)<|aY<|J 4)<|λ_ _=>rfl) (fm 8 YZ) (YF (c_ 9 YZ<|ZE<|YI (J 6)<|YI (J 8)<|aY<|J 5)
  (YD<|Yq (Xm<|Bn hu (J 9)<|df K<|J 0) (YD<|YW<|fP K (J 7)<|ZE<|YI (ZE<|Yz (J 2)<|Yz (J 3)<|Yz (J 4)<|Yz (J 8) Ys)<|aY<|J 9) YT)))
  (YD<|YN<|J 7))))))))),?_⟩
 let⟨B,l,an,af,ae,rv,xs,S,hl,hds,j9,ir,⟨obF,kvF,tM,my⟩,⟨obE,kvE,zM,wK⟩⟩:=wd.ex;let ht:H t=À (.tup [nV r,nV d,nV i,nV j]):=ht;let sq:=cN.of (K:=K) ht;show⟨_,Z,t,_,0,_,Z,Z,sq,Z,_,Z,t,_,1,_,Z,Z,sq,Z,_,_,Z,Z,_,Z,t,_,2,_,Z,Z,sq,Z,_,Z,t,_,3,_,Z,Z,sq,Z,_,Z,_,_,Z,Z,_,Z,?_⟩;cases d with
 |zero=>
  rw[dA (show((0:Nat):Int)-1<0 by decide)];show Y9 ⟨YK<|Ë _,λt0 qx=>⟨kN,λfl hfl=>?_⟩⟩;let z1:=YG.upd (o:=.tup []) qx;let z2:=YG.upd (o:=.lst [.ref t0]) hfl;show q fl _ ⟨[t0],YA,?_⟩ (z1.free hfl) (z1.trans z2)<|(YU.upd rfl).trans<|YU.upd rfl;rw[Yf];show Xj.nil.snoc (ts:=[]) (z2 _ _ YA) ⟨Z,λi t x e=>nomatch e⟩
 |succ d=>
  let ed:((d+1:Nat):Int)-1=(d:Int):=by lia
  rw[eI (show ¬((d+1:Nat):Int)-1<0 by lia)];let⟨⟨ru,er,hdl⟩,hij,Q0⟩:=wd.lg _ DU;let⟨tt,pp,ax,gJ,lz⟩:=Xh hds er;let hdl:d<ru.2.1.length:=hdl;let ep:ru.2.1[d]?=À ru.2.1[d]:=Ê hdl;generalize ru.2.1[d]=p at ep;let wA:JJ g r d=p:=by unfold JJ ZT;rw[er];change(ru.2.1[d]?).getD ""=p;rw[ep];rfl
  let apd:fS (ru.2.1.map V.str) (((d+1:Nat):Int)-1)=À (.str p):=by rw[ed];show ZB (j:=d) (by rw[Ï,ep];rfl)
  show Y5 ⟨_,Z,x,C.Wood,B,_,_,Z,S,T.ak,T.a_,Z,_,Z,l,_,_,_,Z,Z,bG.of hl,ax,tt,_,1,_,Z,Z,cN.of gJ,Z,_,Z,pp,_,_,_,Z,Z,cN.of lz,apd,?_⟩;show⟨YK<|Ë _,λfl hfl=>?_⟩;let s0:=YG.upd (o:=.lst []) hfl;obtain⟨c,e1,e2⟩:∃c,Yj kvE (k3 r d i)=À (.ref c)/\H c=À (.lst<|(XI (dX DS) z.cps.size r d i).map nV):=by
   rcases wK r d i with ⟨e,_⟩|h
   let⟨k,hk⟩:=wd.be r d i j DU;let lk:=wd.lg _ hk;have:k∈XI (dX DS) z.cps.size r d i:=YPg.mpr ⟨YPY.mpr (by have:=lk.2.2;rw[ì]at this;lia),dA hk⟩;rw[e]at this;cases this;show h
  let hel:(XI (dX DS) z.cps.size r d i).length<=61:=by
   let h1:(XI (dX DS) z.cps.size r d i).length<=(List.range<|z.cps.size+1).length:=Ĉ _ _;rw[è]at h1;have:=wd.tx;unfold Zu at this;rw[Ó,fE]at this;lia
  show⟨_,Z,x,C.Wood,B,_,_,Z,s0 _ _ S,T.ak,T.gb,Z,_,Z,_,Z,_,Z,iO,λtk jc=>?_⟩;let sk:=YG.upd (o:=.tup [nV r,V.int<|((d+1:Nat):Int)-1,nV i]) jc;let nk:YU H<|upd (upd H fl<|.lst []) tk<|.tup [nV r,V.int<|((d+1:Nat):Int)-1,nV i]:=(YU.upd rfl).trans<|YU.upd rfl;let hk1:upd (upd H fl<|.lst []) tk (.tup [nV r,V.int<|((d+1:Nat):Int)-1,nV i]) tk=À (.tup<|(k3 r d i).map kV):=by rw[YA,ed];rfl
  let rN:upd (upd H fl<|.lst []) tk (.tup [nV r,V.int<|((d+1:Nat):Int)-1,nV i]) fl=À (.lst []):=sk _ _ YA;let s1:=s0.trans sk;revert s1 nk hk1 rN;generalize upd (upd H fl<|.lst []) tk (.tup [nV r,V.int<|((d+1:Nat):Int)-1,nV i])=H1;intro nk hk1 rN s1;show⟨ae,.ref c,Z,.inr ⟨kvE,_,tk,.inr ⟨obE,s1 _ _ zM⟩,Z,hk1,e1.symm⟩,c,Z,⟨_,bG.of<|s1 _ _ e2⟩,?_⟩;show ZL (K:=K) (a:=c) (xs:=(XI (dX DS) z.cps.size r d i).map nV) (λm σ H2=>g9 λ(bs:ac ai) (v8 v9:ag V)=>A6 (σ=[À<|.ref x,À<|.ref t,À<|nV r,À<|V.int<|((d+1:Nat):Int)-1,À<|nV i,À<|nV j,À<|.str p,À<|.ref fl,v8,v9]) (H2 fl=À (.lst<|bs.map V.ref)) (Xj H2 bs<|(((XI (dX DS) z.cps.size r d i).take m).filter λk=>dX DS<|.part (JJ g r d) k j).map λk=>[.beg r d i k,.part (JJ g r d) k j]) (bs.length<=m) (YG H H2)<|YU H H2)
   ⟨[],Á,Á,Z,rN,.nil,Å _,s1,nk⟩ (by rintro m σ H2 _ ⟨bs,v8,v9,_,_,_,_,s2,_⟩;show bG.of<|s2 _ _ e2) ?_ ?_
  rintro m v σ H2 hm ⟨bs,v8,v9,rfl,iT,wl,pI,s2,n2⟩;let jR:m<(XI (dX DS) z.cps.size r d i).length:=by
   have:=(YOx.mp hm).1;rw[Ä]at this;show this
  rw[Ï]at hm;let⟨k,hk',Z⟩:=YPk.mp hm;dsimp only[Y7];show⟨_,Z,_,Z,_,Z,iO,λtw zL=>?_⟩;let z1:YG H2<|upd H2 tw<|.tup [.str p,nV k,nV j]:=YG.upd zL;let n1:YU H2<|upd H2 tw<|.tup [.str p,nV k,nV j]:=YU.upd rfl;let hw:upd H2 tw (.tup [.str p,nV k,nV j]) tw=À (.tup<|(Ye<|.part (JJ g r d) k j).map kV):=by rw[wA];show YA
  revert z1 n1 hw;generalize upd H2 tw (.tup [.str p,nV k,nV j])=H3;intro z1 n1 hw;let s3:=s2.trans z1;show⟨_,Z,_,Z,x,C.Wood,B,_,_,Z,s3 _ _ S,T.ak,T.bC,Z,af,_,Z,.inr ⟨kvF,_,tw,.inr ⟨obF,s3 _ _ tM⟩,Z,hw,Z⟩,_,Z,?_⟩;rw[my.val];let wt:=YG3 hk' (λk=>dX DS<|.part (JJ g r d) k j) λk=>[.beg r d i k,.part (JJ g r d) k j];cases hb:dX DS (.part (JJ g r d) k j) with
  |false=>
   show Y5 ⟨bs,_,_,Z,z1 _ _ iT,?_,by lia,s3,n2.trans n1⟩;rw[wt,hb,if_neg Ù,ß];show wl.keep λ_ _=>z1 _ _
  |true=>
   show Y9 ⟨_,Z,.inl ⟨Z,_,bG.of<|z1 _ _ iT⟩,_,Z,_,Z,_,Z,_,Z,kc,λt1 gH=>⟨_,Z,kC,λt2 mG=>?_⟩⟩;let z2:=YG.upd (o:=.tup [nV r,V.int<|((d+1:Nat):Int)-1,nV i,nV k]) gH;let z3:=YG.upd (o:=.tup [.ref t1,.ref tw]) mG;let h1:upd H3 t1 (.tup [nV r,V.int<|((d+1:Nat):Int)-1,nV i,nV k]) t1=À (.tup<|(Ye<|.beg r d i k).map kV):=by rw[YA,ed];rfl
   let z4:=z1.trans<|z2.trans z3;show⟨fl,_,_,Z,Z,z4 _ _ iT,by rw[Ä,sizeLine_eq];lia,?_⟩;let nn:YU H3<|upd (upd H3 t1<|.tup [nV r,V.int<|((d+1:Nat):Int)-1,nV i,nV k]) t2<|.tup [.ref t1,.ref tw]:=(YU.upd rfl).trans<|YU.upd rfl;let lB:=z3 _ _<|z2 _ _ hw;let zN:=z3 _ _ h1;let zO:upd (upd H3 t1<|.tup [nV r,V.int<|((d+1:Nat):Int)-1,nV i,nV k]) t2 (.tup [.ref t1,.ref tw]) t2=À (.tup [.ref t1,.ref tw]):=YA;revert z4 nn lB zN zO;generalize upd (upd H3 t1<|.tup [nV r,V.int<|((d+1:Nat):Int)-1,nV i,nV k]) t2 (.tup [.ref t1,.ref tw])=H4;intro z4 nn lB zN zO;let kt:∀a ys,H4 a=À (.tup ys)->upd H4 fl (.lst<|bs.map V.ref++[.ref t2]) a=À (.tup ys):=λa ys e=>by rw[YB<|Yi e (z4 _ _ iT) nofun];show e
   show⟨bs++[t2],_,_,Z,by rw[YA,Î];rfl,?_,by rw[È];show Nat.succ_le_succ pI,(s2.trans z4).put hfl,(n2.trans n1).trans<|nn.trans<|YU.upd rfl⟩;rw[wt,hb,if_pos Z];let Rh:ZR H4 [] []:=⟨Z,λi t x e=>nomatch e⟩;show((wl.keep λ_ _ e=>z4 _ _ e).snoc (ts:=[t1,tw]) zO<|(Rh.snoc zN).snoc lB).keep kt
  rintro σ H2 ⟨bs,v8,v9,rfl,iT,wl,pI,s2,n2⟩;show⟨_,Z,q fl H2 ⟨bs,iT,?_⟩ hfl s2 n2⟩;rw[Ä,æ]at wl;rw[Yf];show wl
def YHy:YJ [av,ay] [av,ay]<|YH YB4:=dE
def YHz(T:Txt K mg C)(bD:Yv P w K mg cj 1 C.Wood "ways_of_beginning" [av,ay]<|YLo C.Wood)(cz:Yv P w K mg cj 1 C.Wood "ways_of_name" [av,ay]<|YLn C.Wood):Gd P w K mg cj 2 "ways" "Wood.ways" YB4 [av,ay]<|ņ C.Wood:=by
 show eP YHy λH Q E hr h=>?_;let⟨x,t,g,z,DS,top,k,Z,wd,ht,q,q0⟩:=h;let hu:=Zd hr;show⟨_,(YF (Yq (Xm<|X1 hu (J 1)<|df K<|J 0) (YD<|YN<|Y6 Ys) YT)
  (YF (Yq (Yg iX (fA K T.aJ<|J 1) YC<|Yd _) (YD<|YN<|fJ (J 0) T.ak bD hr YO<|aY<|J 1) YT)
  (YF (Yq (JE<|oY K rfl İ PySem.F.slot_str_startswith PySem.F.type_str_startswith J7 (eL K (J 1) YC)<|aY ZX) (YD<|YN<|Y6<|aY<|ZE Ys) YT)
  (YD<|YN<|fJ (J 0) T.ak cz hr YO<|aY<|J 1)))),?_⟩
 let⟨B,l,an,af,ae,rv,xs,S,hl,hds,j9,ir,⟨obF,kvF,tM,my⟩,hen⟩:=wd.ex;show⟨_,Z,_,Z,x,C.Wood,B,_,_,Z,S,T.ak,T.bC,Z,af,_,Z,.inr ⟨kvF,_,t,.inr ⟨obF,tM⟩,Z,ht,Z⟩,_,Z,?_⟩;by_cases hk:∃nd∈DS,k=Ye nd
 case neg=>
  let hk':∀nd∈DS,k≠Ye nd:=λnd h1 h2=>hk ⟨nd,h1,h2⟩;rw[my.strange hk'];show Y9 ⟨YK<|Ë _,λfl hfl=>q0 hk' fl _ ⟨[],YA,.nil⟩ hfl (YG.upd hfl)<|YU.upd rfl⟩
 case pos=>
  let⟨nd,DU,Z⟩:=hk;rw[my.val,show dX DS nd=Â from dA DU];show Y5 ?_;cases nd with
  |beg r d i j=>
   let ht':H t=À (.tup [nV r,nV d,nV i,nV j]):=ht;show⟨_,Z,t,_,Z,.inr<|cN.of ht',Z,_,Z,?_⟩;rw[show decide (V.int (([nV r,nV d,nV i,nV j]:ac V).length:Nat)=V.int 4)=Â from dA Z];show Y9 ⟨_,Z,x,B,_,Z,S,Z,_,Z,x,t,g,z,DS,top,r,d,i,j,Z,wd,ht,DU,λa H' h1 h2 h3 h4=>q _ Z DU a H' h1 h2 h3 h4⟩
  |part p i j=>
   let ht':H t=À (.tup [.str p,nV i,nV j]):=ht;show⟨_,Z,t,_,Z,.inr<|cN.of ht',Z,_,Z,?_⟩;rw[show decide (V.int (([.str p,nV i,nV j]:ac V).length:Nat)=V.int 4)=Ã from eI (λh=>by injection h with h;let h:(3:Int)=4:=h;lia)];show Y5 ⟨_,Z,t,_,0,_,Z,Z,cN.of ht',Z,Z,p,"'",Z,Z,_,Z,?_⟩;change if eW p=Â then _ else _
   cases hq:eW p with
   |true=>
    show Y9 ⟨YK<|Ë _,λt0 qx=>⟨kN,λfl hfl=>?_⟩⟩;let z1:=YG.upd (o:=.tup []) qx;let z2:=YG.upd (o:=.lst [.ref t0]) hfl;show q _ Z DU fl _ ⟨[t0],YA,?_⟩ (z1.free hfl) (z1.trans z2)<|(YU.upd rfl).trans<|YU.upd rfl;rw[Yf,if_pos hq];show Xj.nil.snoc (ts:=[]) (z2 _ _ YA) ⟨Z,λi t x e=>nomatch e⟩
   |false=>show Y5 ⟨_,Z,x,B,_,Z,S,Z,_,Z,x,t,g,z,DS,top,p,i,j,Z,wd,ht,hq,DU,λa H' h1 h2 h3 h4=>q _ Z DU a H' h1 h2 h3 h4⟩
inductive YLq(C:Addr)(vs:List V)(H:Hp)(Q:VK):Prop
 |mk (x f B l an:Addr)(z:Str)(xs:List V)(g:YS)(o:Obj)(kvs:List (List db×V))(DS:List Nd):vs=[.ref x,.ref f]->H x=À (.ins C B [(ar,.ref l),(bp,.str z),(bi,.ref an)])->H l=À (.lst xs)->Ya H xs (g.map Za)->Zu z=Â->H f=À (.frz o (.dT kvs))->JK kvs DS->(∀v H',pf H' v (lS g z.cps.size DS)->YG H H'->YU H H'->Q v H')->YLq C vs H Q
@[ext]def YOX(C:ai):Sp:=λvs H Q E_=>YLq C vs H Q
inductive YLr(C:Addr)(vs:List V)(H:Hp)(Q:VK):Prop
 |mk (x:Addr)(g:YS)(z:Str)(DS:List Nd)(top:Option Nd):vs=[.ref x]->XV C H x g z DS top->(∀t,top=À t->t∈DS)->DS.Nodup->DS.length<=2100000->YL H->(∀a o kvs cg H',H' a=À (.frz o (.dT kvs))->JK kvs cg->ZF g z.cps.size (dX DS) top cg->cg.length<=DS.length->YG H H'->YL H'->Q (.ref a) H')->YLr C vs H Q
@[ext]def YOY(C:ai):Sp:=λvs H Q E_=>YLr C vs H Q
inductive YJQ(C:Addr)(vs:List V)(H:Hp)(Q:VK):Prop
 |mk (x:Addr)(g:YS)(z:Str)(DS:List Nd)(top:Option Nd):vs=[.ref x]->XV C H x g z DS top->(∀a xs H',H a=Á->H' a=À (.lst xs)->Ya H' xs (g.map Za)->YG H H'->YU H H'->Q (.ref a) H')->YJQ C vs H Q
@[ext]def Ŗ(C:ai):Sp:=λvs H Q E_=>YJQ C vs H Q
inductive YJR(C:Addr)(vs:List V)(H:Hp)(Q:VK):Prop
 |mk (x:Addr)(g:YS)(z:Str)(DS:List Nd)(top:Option Nd):vs=[.ref x]->XV C H x g z DS top->Q (.str z) H->YJR C vs H Q
@[ext]def YLs(C:ai):Sp:=λvs H Q E_=>YJR C vs H Q
inductive YOZ(C:Addr)(vs:List V)(H:Hp)(Q:VK):Prop
 |mk (x:Addr)(g:YS)(z:Str)(DS:List Nd)(top:Option Nd):vs=[.ref x]->XV C H x g z DS top->(∀v,pf H v top->Q v H)->YOZ C vs H Q
@[ext]def Dh(C:ai):Sp:=λvs H Q E_=>YOZ C vs H Q
inductive YHD(C:Addr)(vs:List V)(H:Hp)(Q:VK):Prop
 |mk (x:Addr)(g:YS)(z:Str)(DS:List Nd)(top:Option Nd):vs=[.ref x]->XV C H x g z DS top->(∀a ts H',H a=Á->H' a=À (.lst (ts.map V.ref))->ZR H' ts DS->YG H H'->YU H H'->Q (.ref a) H')->YHD C vs H Q
@[ext]def YOa(C:ai):Sp:=λvs H Q E_=>YHD C vs H Q
inductive YLt(C CG CT:Addr)(vs:List V)(H:Hp)(Q:VK)(E:XK):Prop
 |mk (H0:Hp)(x B:Addr)(gv tv:V)(dg d:D):vs=[.ref x,gv,tv]->H x=À (.ins C B [])->H0 x=Á->YG H0 H->YL H->cx H0 gv dg->dg.short=Â->cx H0 tv d->d.short=Â->(∀g z,dg=ip g->Y4 g=Â->d=.str z->Zu z=Â->∀hs DS H',J9 g z.cps.toList hs->A8 g z.cps.toList hs->ZF g z.cps.size (dX (hs.map (·.1))) (lS g z.cps.size (hs.map (·.1))) DS->XV C H' x g z DS (lS g z.cps.size (hs.map (·.1)))->YG H0 H'->YL H'->Q .non H')->(JX dg=Ã->∀H',YG H0 H'->YL H'->E (.ref CG) Á H')->(JX dg=Â->uk d=Ã->∀H',YG H0 H'->YL H'->E (.ref CT) Á H')->YLt C CG CT vs H Q E
@[ext]def YOb(C CG CT:ai):Sp:=λvs H Q E=>YLt C CG CT vs H Q E
def YB6:YJ [av] [av]<|YH Jd:=dE
def YB7(T:Txt K mg C):Gd P w K mg cj 1 fw "Wood.told_grammar" Jd [av]<|Ŗ C.Wood:=by
 show eP YB6 λH Q E hr h=>?_;let⟨x,g,z,DS,top,Z,wd,q⟩:=h;show⟨_,(YD<|YN<|Jy (Xd K rfl) (by rfl) T.dY Ā<|aY<|df K<|J 0),?_⟩;let⟨B,l,an,af,ae,rv,xs,S,hl,hds,j9,ir,zP,hen⟩:=wd.ex;show⟨_,Z,x,C.Wood,B,_,_,Z,S,T.ak,T.a_,Z,?_⟩;show⟨l,xs,Z,.inl<|bG.of hl,λa ha=>?_⟩;let s0:=YG.upd (o:=.lst xs) ha;show q a xs _ ha YA (hds.same s0) s0<|YU.upd rfl
def YDO:YJ [av] [av]<|YH XZ:=dE
def YDP(T:Txt K mg C):Gd P w K mg cj 1 "told_text" "Wood.told_text" XZ [av]<|YLs C.Wood:=by
 show eP YDO λH Q E hr h=>?_;let⟨x,g,z,DS,top,Z,wd,q⟩:=h;show⟨_,(YD<|YN<|df K<|J 0),?_⟩;let⟨B,l,an,af,ae,rv,xs,S,hl,hds,j9,ir,zP,hen⟩:=wd.ex;show⟨_,Z,x,C.Wood,B,_,_,Z,S,T.ak,T.gf,Z,q⟩
def YJT:YJ [av] [av]<|YH ž:=dE
def YJU(T:Txt K mg C):Gd P w K mg cj 1 "top" "Wood.top" ž [av]<|Dh C.Wood:=by
 show eP YJT λH Q E hr h=>?_;let⟨x,g,z,DS,top,Z,wd,q⟩:=h;show⟨_,(YD<|YN<|df K<|J 0),?_⟩;let⟨B,l,an,af,ae,rv,xs,S,hl,hds,j9,ir,zP,hen⟩:=wd.ex;show⟨_,Z,x,C.Wood,B,_,_,Z,S,T.ak,T.bY,Z,q _ ir⟩
def YGL:YJ [av] [av]<|YH ϋ:=dE
def YGM(T:Txt K mg C):Gd P w K mg cj 1 "nodes" "Wood.nodes" ϋ [av]<|YOa C.Wood:=by
 show eP YGL λH Q E hr h=>?_;let⟨x,g,z,DS,top,Z,wd,q⟩:=h;show⟨_,(YD<|YN<|Jy (YBd rfl) (by rfl) T.dY Ā<|aY<|df K<|J 0),?_⟩;let⟨B,l,an,af,ae,rv,xs,S,hl,hds,j9,ir,⟨obF,kvF,tM,my⟩,hen⟩:=wd.ex;show⟨_,Z,x,C.Wood,B,_,_,Z,S,T.ak,T.bC,Z,af,kvF,Z,.inr ⟨obF,tM⟩,λa ts ha jM=>?_⟩;let s0:=YG.upd (o:=.lst<|ts.map V.ref) ha;show q a ts _ ha YA ⟨by rw[jM.1,my.len],λi t y e1 e2=>?_⟩ s0<|YU.upd rfl;obtain⟨kv,ekv⟩:∃kv,kvF[i]?=À kv:=⟨_,Ê (by rw[<-jM.1];show(YOx.mp e1).1)⟩;have:=fT (λl=>l[i]?) my;simp only[Ï,ekv,e2]at this;let e3:kv.1=Ye y:=Û this;rw[<-e3];show s0 _ _<|jM.2 i t kv e1 ekv
def YAh:YJ [av,aE,ay] [av,aE]<|YH XX:=dE
def YDQ(T:Txt K mg C):Gd P w K mg cj 1 "find_root" "Wood.find_root" XX [av,aE]<|YOX C.Wood:=by
 show eP YAh λH Q E hr h=>?_;let⟨x,f,B,l,an,z,xs,g,o,kvs,DS,Z,S,hl,hds,hz,hf,hk,q⟩:=h;let hu:=Zd hr;show⟨_,(YF (Yq (JL<|JV K rfl (df K<|J 0)<|λ_=>rfl) (YD<|YN Z6) YT)
  (YF (c_ 2 YAh<|ZE<|YI (eL K (fN K (df K<|J 0) YC) YC)<|YI YC<|aY<|Yc JS (by rfl) T.aJ Ď<|aY<|df K<|J 0)
  (YD<|YN<|YEy (Xm<|Bn hu (J 2)<|J 1) (J 2) Z6))),?_⟩
 let jt:xs.length=g.length:=by rw[hds.len,Ä]
 let q_:=hz;unfold Zu at q_;rw[Ó,fE]at q_;cases g with
 |nil=>
  have:xs=[]:=YPq.mp jt;subst this;show⟨_,Z,x,C.Wood,B,_,_,Z,S,T.ak,T.a_,Z,Ã,.inl ⟨_,bG.of hl,Z⟩,Y9<|q _ H (.inl ⟨Z,Z⟩) (YG.refl _)<|YU.refl _⟩
 |cons r0 Yu=>
  let hne:(!xs.isEmpty)=Â:=by cases xs with|nil=>cases jt|cons a b=>rfl
  let⟨tt,pp,ax,gJ,lz⟩:=Xh hds (k:=0) (r:=r0) Z;show⟨_,Z,x,C.Wood,B,_,_,Z,S,T.ak,T.a_,Z,Â,.inl ⟨_,bG.of hl,hne.symm⟩,Y5 ?_⟩;show⟨_,Z,x,C.Wood,B,_,_,Z,S,T.ak,T.a_,Z,l,_,_,_,Z,Z,bG.of hl,ax,tt,_,0,_,Z,Z,cN.of gJ,Z,_,Z,x,C.Wood,B,_,_,Z,S,T.ak,T.gf,Z,z,Z,YK (by have:z.length=z.cps.size:=rfl;lia),iO,λtn kO=>?_⟩;let s0:=YG.upd (o:=.tup [.str r0.1,.int 0,.int (z.length:Int)]) kO;let hn:upd H tn (.tup [.str r0.1,.int 0,.int (z.length:Int)]) tn=À (.tup<|(Ye<|.part r0.1 0 z.cps.size).map kV):=YA;show⟨_,Z,_,Z,f,_,Z,.inr ⟨kvs,_,tn,.inr ⟨o,s0 _ _ hf⟩,Z,hn,Z⟩,_,Z,?_⟩;rw[hk.val];cases hb:dX DS (.part r0.1 0 z.cps.size) with
  |false=>show Y5<|q _ _ (.inl ⟨if_neg (by rw[hb];show Ù),Z⟩) s0<|YU.upd rfl
  |true=>show Y9 ⟨_,Z,q _ _ (.inr ⟨_,tn,if_pos hb,Z,hn⟩) s0<|YU.upd rfl⟩
def ZW:YJ [av,bv,eM,"upper","way",ay] [av]<|YH XY:=dE
def YDR(T:Txt K mg C)(bz:Yv P w K mg cj 2 C.Wood "ways" [av,ay]<|ņ C.Wood):Gd P w K mg cj 3 "walk_down" "Wood.walk_down" XY [av]<|YOY C.Wood:=by
 show eP ZW λH Q E hr h=>?_;let⟨x,g,z,DS,top,Z,wd,kO,hnd,hnl,hp,q⟩:=h;let hu:=Zd hr;show⟨_,(YF (c_ 1 ZW J5)
  (YF (c_ 2 ZW<|Y6 Ys)
  (YF (Yq (Yg BB (df K<|J 0) Z6<|Yd _) (YF (J4 hu (J 1) (df K<|J 0) X3 Z)
  (YD<|YW<|fP K (J 2)<|df K<|J 0)) YT)
  (YF (J1 PassesOwn.never (JV K Z (J 2)<|λ_=>rfl) (YF (c_ 3 ZW<|wm K rfl ñ ĕ Đ xF<|J 2)
  (YD (fM (ZJ K rfl<|fJ (J 0) T.ak bz hr YO<|aY<|J 3) (fm 4 ZW) (YD (fM (YK8 K rfl<|J 4) (fm 5 ZW) (YD (Yq (Xm<|X1 hu (J 5)<|J 1) (YF (J4 hu (J 1) (J 5) X3 Z)
  (YD<|YW<|fP K (J 2)<|J 5)) YT))))))))
  (YD<|YN<|ϧ<|J 1))))),?_⟩
 let⟨B,l,an,af,ae,rv,xs,S,hl,hds,j9,ir,zP,hen⟩:=wd.ex;showλd hd=>⟨YK<|Ë _,λwl hwl=>?_⟩;let s0:YG H<|upd (upd H d<|.dT []) wl<|.lst []:=(YG.upd hd).trans<|YG.upd hwl;let hdw:d≠wl:=YV YA hwl;let sX:H wl=Á:=by rw[<-hwl,YB hdw.symm]
 let f0:iS H (upd (upd H d<|.dT []) wl<|.lst []) d wl [] []:=⟨s0,⟨[],by rw[YB hdw];show YA,Z⟩,⟨[],YA,Z,λi t x e=>nomatch e⟩,hd,sX,λb o e=>(Yp Z b o e).elim (λe=>(by by_cases hb:b=d;show .inl hb;rw[YB hb]at e;show .inr<|hp b o e)) .inr⟩;revert f0;generalize upd (upd H d<|.dT []) wl (.lst [])=H1;intro f0;let hx1:=f0.sm _ _ S;dsimp only[Y7];show YOK (λσ' H'=>g9 λcg wt v3=>vb (σ'=[À<|.ref x,À<|.ref d,À<|.ref wl,v3,Á,Á]) (iS H H' d wl cg wt)<|iA g z.cps.size (dX DS) top cg wt) ?_ λYu=>?_
 case refine_2=>
  let⟨zQ,ug,hk1⟩:=f0.h;rcases ir with ⟨ht,rfl⟩|⟨nt,tt,ht,rfl,gJ⟩
  show⟨_,Z,x,C.Wood,B,_,_,Z,hx1,T.ak,T.bY,Z,Z,_,Z,?_⟩;rw[show(!decide (V.non=V.non))=Ã from fT Bool.not (dA Z)];show Y5<|Yu _ _ ⟨[],[],Á,Z,f0,å,(λx S=>nomatch S),(λt e=>?_),λ_=>rfl,(λx S=>nomatch S),(λx S=>nomatch S),(λx S=>nomatch S),å⟩;rw[ht]at e;cases e;show⟨_,Z,x,C.Wood,B,_,_,Z,hx1,T.ak,T.bY,Z,Z,_,Z,?_⟩;rw[show(!decide (V.ref tt=V.non))=Â from fT Bool.not (eI (λh=>by cases h))];let hn0:zQ=[]:=by
   have:=hk1.len;show YPq.mp this
  subst hn0;show Y9 ⟨_,Z,_,Z,x,C.Wood,B,_,_,Z,hx1,T.ak,T.bY,Z,d,_,Z,h_.t ug (f0.sm _ _ gJ) (by rw[sizeLine_eq];decide),?_⟩;let f1:=f0.put ug (y:=nt) nofun (.bl Â);revert f1;generalize upd H1 d (.dT<|Y3 [] (Ye nt)<|.bl Â)=H2;intro f1;let⟨Ri,jY,vI⟩:=f1.w;let jM:Ri=[]:=YPq.mp vI.1;subst jM;show⟨_,Z,.inl ⟨Z,_,bG.of jY⟩,_,Z,x,C.Wood,B,_,_,Z,f1.sm _ _ S,T.ak,T.bY,Z,wl,_,_,Z,Z,jY,by rw[sizeLine_eq];decide,?_⟩;let f2:=f1.wait (ts':=[tt]) (wt':=[nt])<|ZR.snoc (ts:=[]) (ns:=[]) ⟨Z,λi t x e=>nomatch e⟩<|f1.sm _ _ gJ;show Yu _ _ ⟨[]++[nt],[nt],Á,Z,f2,YPN.mpr ⟨nofun,å⟩,λy hy=>?_,λt e=>?_,λe=>?_,λy hy=>hy,λy hy=>.inl hy,λy hy=>?_,YPN.mpr ⟨nofun,å⟩⟩;cases YO0.mp hy;show dA<|kO _ ht;rw[ht]at e;cases e;show YO0.mpr Z;rw[ht]at e;cases e;cases YO0.mp hy;show⟨_,ht,.top⟩
 case refine_1=>
  rintro σ1 H2 ⟨zR,Rj,v3,rfl,f1,w1⟩;show⟨λm σ H3=>Ω λcg wt v3 v4 v5=>AM (σ=[À<|.ref x,À<|.ref d,À<|.ref wl,v3,v4,v5]) (iS H H3 d wl cg wt) (iA g z.cps.size (dX DS) top cg wt)<|m=2*(DS.length-cg.length)+wt.length,⟨_,zR,Rj,v3,Á,Á,Z,f1,w1,Z⟩,?_⟩;rintro m σ H3 ⟨cg,wt,v3,v4,v5,rfl,f3,w3,rfl⟩;let⟨qY,lA,uq⟩:=f3.w;let hle:cg.length<=DS.length:=ZM w3.nd λy hy=>fq<|w3.sub y hy;rcases Jo wt with rfl|⟨wt',u,rfl⟩
  let jM:qY=[]:=YPq.mp uq.1;subst jM;show⟨_,Z,Ã,.inl ⟨_,bG.of lA,Z⟩,Y5 ?_⟩;let⟨vJ,ur,hk3⟩:=f3.h;show⟨_,Z,d,vJ,ur,λo=>q d o vJ cg _ YA hk3 w3.fin_ hle (f3.sm.put f3.nd) λb u e=>?_⟩;by_cases hb:b=d;subst hb;rw[YA]at e;cases e;rfl;rw[YB hb]at e;show(f3.pl b u e).elim (λz=>absurd z hb) id
  ·obtain⟨iW,tu,rfl⟩:∃iW t4,qY=iW++[t4]:=by
    rcases Jo qY with rfl|h
    have:=uq.1;rw[È]at this;simp at this;show h
   let⟨pM,Q3⟩:=uq.pop;let ji:(!((iW++[tu]).map V.ref).isEmpty)=Â:=by cases iW <;> rfl
   let lB:H3 wl=À (.lst<|iW.map V.ref++[.ref tu]):=by rw[lA,Î];rfl
   show⟨_,Z,Â,.inl ⟨_,bG.of lA,ji.symm⟩,Y9 ⟨λσ' H'=>∃m',m'<_/\_,λ_ _ z=>z,?_⟩⟩;show⟨_,Z,.inl ⟨Z,_,bG.of lA⟩,wl,_,.ref tu,Z,Z,lB,(by simp),?_⟩;rw[Č];let f4:=f3.wait pM;let rO:upd H3 wl (.lst<|iW.map V.ref) tu=À (.tup<|(Ye u).map kV):=by rw[YB<|Yi Q3 lA nofun];show Q3
   revert f4 rO;generalize upd H3 wl (.lst<|iW.map V.ref)=H4;intro f4 rO;let Q4:u∈cg:=w3.wi u<|Ò _<|YO0.mpr rfl;let Rk:u∈DS:=fq<|w3.sub u Q4;show⟨_,Z,x,B,_,Z,f4.sm _ _ S,Z,_,Z,x,tu,g,z,DS,top,Ye u,Z,wd.same f4.sm,rO,λnd e DU a H5 h1 h2 h3 h4=>?_,λhno=>absurd rfl<|hno u Rk⟩;cases J8 e;let⟨bs,pN,wL⟩:=h1;let f5:=f4.same h3 h4;let⟨_,Rm,_⟩:=f4.w;let haw:a≠wl:=(YV Rm h2).symm;let⟨_,Rn,_⟩:=f4.h;let had:a≠d:=(YV Rn h2).symm;show⟨a,Z,⟨_,bG.of pN⟩,ZL (K:=K) (a:=a) (xs:=bs.map V.ref) (λi σ H6=>g9 λnew v4 v5=>A6 (σ=[À<|.ref x,À<|.ref d,À<|.ref wl,À<|.ref tu,v4,v5]) (iS H H6 d wl (cg++new)<|wt'++new) (H6 a=À (.lst<|bs.map V.ref)) (Xj H6 bs<|Yf g z.cps.size (dX DS) u) (jI g z.cps.size (dX DS) top cg new) (∀i' w,i'<i->(Yf g z.cps.size (dX DS) u)[i']?=À w->∀y∈w,y∈cg++new))
    ⟨[],v4,v5,Z,by rw[ß,ß];show f5,pN,wL,⟨by rw[ß];show w3.nd,(λy hy=>nomatch hy)⟩,(λi' w hi=>nomatch hi)⟩ (by rintro i σ H6 _ ⟨new,v4,v5,_,_,h,_,_,_⟩;show bG.of h) ?_ ?_⟩
   rintro i v σ H6 hi ⟨new,v4,v5,rfl,f6,vK,vL,vM,hc6⟩;rw[Ï]at hi;let⟨b,hbi,Z⟩:=YPk.mp hi;obtain⟨w,hwi⟩:∃w,(Yf g z.cps.size (dX DS) u)[i]?=À w:=⟨_,Ê (by rw[<-vL.1];show(YOx.mp hbi).1)⟩;let Q5:=Ð hwi;let⟨ts,Q6,ut⟩:=vL.2 i b w hbi hwi;dsimp only[Y7];show⟨_,Z,b,Z,⟨_,cN.of Q6⟩,qr (K:=K) (a:=b) (xs:=ts.map V.ref) (λj σ H7=>DB λnew v5=>Dr (σ=[À<|.ref x,À<|.ref d,À<|.ref wl,À<|.ref tu,À<|.ref b,v5]) (iS H H7 d wl (cg++new)<|wt'++new) (H7 a=À (.lst<|bs.map V.ref)) (Xj H7 bs<|Yf g z.cps.size (dX DS) u) (H7 b=À (.tup<|ts.map V.ref)) (ZR H7 ts w) (jI g z.cps.size (dX DS) top cg new) ((∀i' w,i'<i->(Yf g z.cps.size (dX DS) u)[i']?=À w->∀y∈w,y∈cg++new)) (∀j' y,j'<j->w[j']?=À y->y∈cg++new))
    ⟨new,v5,Z,f6,vK,vL,Q6,ut,vM,hc6,(λj' y hj=>nomatch hj)⟩ (by rintro j σ H7 _ ⟨new,v5,_,_,_,_,h,_,_,_,_⟩;show cN.of h) ?_ ?_⟩
   rintro j v σ H7 hj ⟨new,v5,rfl,f7,tO,pO,tQ,lF,uv,wM,zT⟩;rw[Ï]at hj;let⟨tn,kO,Z⟩:=YPk.mp hj;obtain⟨y,hy⟩:∃y,w[j]?=À y:=⟨_,Ê (by rw[<-lF.1];show(YOx.mp kO).1)⟩;let nF:=lF.2 j tn y kO hy;let⟨zU,rm,vN⟩:=f7.h;let Q7:=Ð hy;dsimp only[Y7];show⟨_,Z,_,Z,d,_,Z,gc.t rm nF,_,Z,?_⟩;rw[vN.val];let upto:∀{tR:ac Nd},(∀c∈cg++new,c∈cg++tR)->y∈cg++tR->∀j' y',j'<j+1->w[j']?=À y'->y'∈cg++tR:=λhm DU j' y' DT e=>by
    by_cases Ro:j'=j;subst Ro;rw[hy]at e;cases e;show DU;show hm _<|zT j' y' (by lia) e
   by_cases m9:y∈cg++new;rw[show dX (cg++new) y=Â from dA m9];show Y5 ⟨new,_,Z,f7,tO,pO,tQ,lF,uv,wM,upto (λc h=>h) m9⟩;rw[show dX (cg++new) y=Ã from eI m9];let Rp:dX DS y=Â:=YOL Q5 Q7;let yu:(cg++new).length<=DS.length:=ZM uv.nd λc hc=>fq<|(YPD.mp hc).elim (w3.sub c) λz=>(uv.why c z).1;show Y9 ⟨_,Z,_,Z,d,_,Z,h_.t rm nF (by rw[sizeLine_eq,vN.len];lia),?_⟩;let f8:=f7.put rm m9<|.bl Â;let kt:∀c ys,H7 c=À (.tup ys)->upd H7 d (.dT<|Y3 zU (Ye y)<|.bl Â) c=À (.tup ys):=λc ys e=>by rw[YB<|Yi e rm nofun];show e
   let zV:upd H7 d (.dT<|Y3 zU (Ye y)<|.bl Â) a=À (.lst<|bs.map V.ref):=by rw[YB had];show tO
   revert f8 kt zV;generalize upd H7 d (.dT<|Y3 zU (Ye y)<|.bl Â)=H8;intro f8 kt zV;let⟨zW,zX,Q8⟩:=f8.w;let Ww:wt'.length<=cg.length:=ZM (YPo.mp w3.wn).1 λc hc=>w3.wi c<|Õ _ hc;show⟨_,Z,.inl ⟨Z,_,bG.of zX⟩,_,Z,wl,_,_,Z,Z,zX,?_,?_⟩;rw[Ä,Q8.1,È,sizeLine_eq];rw[È]at yu;lia;let f9:=f8.wait<|Q8.snoc<|kt _ _ nF;let e9:(zW++[tn]).map V.ref=zW.map V.ref++[V.ref tn]:=by rw[Î];rfl
   rw[e9]at f9;let zY:∀c ys,H8 c=À (.tup ys)->upd H8 wl (.lst<|zW.map V.ref++[.ref tn]) c=À (.tup ys):=λc ys e=>by rw[YB<|Yi e zX nofun];show e
   let⟨tp,kW,Rq⟩:=w3.why u Q4;show⟨new++[y],_,Z,by rw[<-Ý,<-Ý];show f9,by rw[YB haw];show zV,pO.keep λc ys e=>zY _ _<|kt _ _ e,zY _ _<|kt _ _ tQ,lF.keep λc ys e=>zY _ _<|kt _ _ e,uv.snoc m9 ⟨Rp,tp,kW,.step Rq Q5 Q7⟩,λi' w' DT e y' hy'=>?_,upto (λc hc=>?_) ?_⟩;have:=wM i' w' DT e y' hy';rw[<-Ý];show Õ _ this;rw[<-Ý];show Õ _ hc;rw[<-Ý];show Ò _<|YO0.mpr rfl;rintro σ H7 ⟨new,v5,rfl,f7,tO,pO,tQ,lF,uv,wM,zT⟩;show⟨new,_,_,Z,f7,tO,pO,uv,λi' w' DT e y hy=>?_⟩;by_cases vC:i'=i;subst vC;rw[hwi]at e;cases e;let⟨j',hj'⟩:=ě hy;show zT j' y (by rw[Ä,lF.1];show(YOx.mp hj').1) hj';show wM i' w' (by lia) e y hy
   ·rintro σ H6 ⟨new,v4,v5,rfl,f6,vK,vL,vM,hc6⟩;let yw:(cg++new).length<=DS.length:=ZM vM.nd λc hc=>fq<|(YPD.mp hc).elim (w3.sub c) λz=>(vM.why c z).1;show⟨2*(DS.length-(cg++new).length)+(wt'++new).length,?_,cg++new,wt'++new,_,_,_,Z,f6,w3.next vM λw hw y hy=>?_,Z⟩;rw[È,È,È];rw[È]at yw;change _<2*(DS.length-cg.length)+(wt'.length+1);lia;let⟨i',hi'⟩:=ě hw;show hc6 i' w (by rw[Ä,vL.1];show(YOx.mp hi').1) hi' y hy
def YA4:YJ [av,cE,bp,aE] [av,cE,bp]<|YH Xp:=dE
def YDy(T:Txt K mg C)(ik:ZN P w K mg (fe P w) 8 "standing" [cE,bp]<|YFn C.NoGrammar C.NoText)(bZ:ZN P w K mg (fe P w) 7 "checked" [aT]<|Ħ C.NoGrammar)(bJ:ZN P w K mg (fe P w) 3 fk [aT]<|ς C.NoText)(aU:ZN P w K mg cj 1 fu [ar]<|Ż)(bA:ZN P w K mg cj 1 fY ["nodes"]<|YLm)(cP:Yv P w K mg cj 1 C.Wood "find_root" [av,aE]<|YOX C.Wood)(cQ:Yv P w K mg cj 3 C.Wood "walk_down" [av]<|YOY C.Wood):Gd P w K mg (fe P w) 9 "__init__" "Wood.__init__" Xp [av,cE,bp]<|YOb C.Wood C.NoGrammar C.NoText:=by
 show j1 YA4 λH Q E hr h=>?_;let⟨H0,x,B,gv,tv,dg,d,Z,S,hx0,s0,hp,denG,shG,denT,shT,q,qG,qT⟩:=h;show fO ?_;show⟨_,(YE ⟨(c_ 3 YA4<|eT ik hr Yy.on<|YI (J 1)<|aY<|J 2)⟩
  (YE ⟨(fy K (J 0)<|eT bZ hr Yy.on<|aY<|J 1)⟩
  (YE ⟨(fy K (J 0)<|eT bJ hr Yy.on<|aY<|J 2)⟩
  (YE ⟨(fy K (J 0)<|eT aU hr YO<|aY<|df K<|J 0)⟩
  (YE ⟨(fy K (J 0)<|fJ (J 0) T.ak cP hr YO<|aY<|J 3)⟩
  (YE ⟨(fy K (J 0)<|J 3)⟩
  (YE ⟨(fy K (J 0)<|eT bA hr YO<|aY<|J 3)⟩
  (YE ⟨(fy K (J 0)<|fW (J 0) T.ak cQ hr YO)⟩
  (Y8 ⟨(fy K (J 0)<|eT bA hr YO<|aY<|df K<|J 0)⟩))))))))),?_⟩
 show⟨_,Z,_,Z,gv,tv,dg,d,Z,denG.same s0,shG,denT.same s0,shT,hp,λg z eg hg ez hz a o hs H1 st bs ha zZ s1 p1=>?_,λe H' s' p'=>qG e H' (s0.trans s') p',λe1 e2 H' s' p'=>qT e1 e2 H' (s0.trans s') p'⟩;let qq:=q g z eg hg ez hz hs;subst eg ez;let t1:=s0.trans s1;let hx1:=s1 _ _ S;let q_:=hz;unfold Zu at q_;rw[Ó,fE]at q_;let hcl:z.cps.toList.length=z.cps.size:=ì;dsimp only[Y7];show⟨_,Z,gv,ip g,Z,denG.same t1,shG,p1,λ_ l xs ds ed hds hl=>?_,λe=>qG e H1 t1 p1⟩;cases ed;let nxl:x≠l:=YV hx1 hl;let s2:=YG.upd (o:=.lst xs) hl;show⟨_,Z,x,C.Wood,B,_,Z,s2 _ _ hx1,T.ak,T.a_,(show 0<1000 by decide),?_⟩;let i2:Y1 H1<|upd (upd H1 l<|.lst xs) x<|.ins C.Wood B<|Yh ar (.ref l) []:=(Y1.of s2).trans<|Y1.set<|s2 _ _ hx1;let t2:YG H0<|upd (upd H1 l<|.lst xs) x<|.ins C.Wood B<|Yh ar (.ref l) []:=(t1.trans s2).put hx0;let p2:YL<|upd (upd H1 l<|.lst xs) x<|.ins C.Wood B<|Yh ar (.ref l) []:=(p1.upd rfl).upd rfl;let hx2:upd (upd H1 l<|.lst xs) x (.ins C.Wood B<|Yh ar (.ref l) []) x=À (.ins C.Wood B [(ar,.ref l)]):=YA;let hl2:upd (upd H1 l<|.lst xs) x (.ins C.Wood B<|Yh ar (.ref l) []) l=À (.lst xs):=by rw[YB nxl.symm];show YA
 let hd2:=iN i2 hds;let my:upd (upd H1 l<|.lst xs) x (.ins C.Wood B<|Yh ar (.ref l) []) a=À (.frz o<|.dT<|fQ hs):=i2.frz zZ;revert t2 p2 hx2 hl2 hd2 my;generalize upd (upd H1 l<|.lst xs) x (.ins C.Wood B<|Yh ar (.ref l) [])=H2;intro t2 p2 hx2 hl2 hd2 my;show⟨_,Z,tv,.str z,Z,denT.same t2,shT,p2,λz' Rr _=>?_,λe=>?_⟩
 case refine_2=>
  have:uk (.str z)=Zu z:=rfl;rw[this,hz]at e;cases e
 cases Rr;show⟨_,Z,x,C.Wood,B,_,Z,hx2,T.ak,T.gf,(show 1<1000 by decide),?_⟩;let i3:Y1 H2<|upd H2 x<|.ins C.Wood B<|Yh bp (.str z) [(ar,.ref l)]:=Y1.set hx2;let t3:YG H0<|upd H2 x<|.ins C.Wood B<|Yh bp (.str z) [(ar,.ref l)]:=t2.put hx0;let p3:YL<|upd H2 x<|.ins C.Wood B<|Yh bp (.str z) [(ar,.ref l)]:=p2.upd rfl;let jA:upd H2 x (.ins C.Wood B<|Yh bp (.str z) [(ar,.ref l)]) x=À (.ins C.Wood B [(ar,.ref l),(bp,.str z)]):=YA;let hl3:=i3.lst hl2;let ur:=iN i3 hd2;let tU:=i3.frz my;revert t3 p3 jA hl3 ur tU;generalize upd H2 x (.ins C.Wood B<|Yh bp (.str z) [(ar,.ref l)])=H3;intro t3 p3 jA hl3 ur tU;show⟨_,Z,x,C.Wood,B,_,_,Z,jA,T.ak,T.a_,Z,l,xs,g,Z,hl3,ur,hg,p3,λan H4' j9 s4 Rt=>?_⟩;show⟨_,Z,x,C.Wood,B,_,Z,s4 _ _ jA,T.ak,T.gD,(show 2<1000 by decide),?_⟩;let i4:Y1 H4'<|upd H4' x<|.ins C.Wood B<|Yh bi (.ref an) [(ar,.ref l),(bp,.str z)]:=Y1.set<|s4 _ _ jA;let j4:=(Y1.of s4).trans i4;let t4:YG H0<|upd H4' x<|.ins C.Wood B<|Yh bi (.ref an) [(ar,.ref l),(bp,.str z)]:=(t3.trans s4).put hx0;let p4:YL<|upd H4' x<|.ins C.Wood B<|Yh bi (.ref an) [(ar,.ref l),(bp,.str z)]:=Rt.upd rfl;let qF:upd H4' x (.ins C.Wood B<|Yh bi (.ref an) [(ar,.ref l),(bp,.str z)]) x=À (.ins C.Wood B [(ar,.ref l),(bp,.str z),(bi,.ref an)]):=YA;let rn:=j4.lst hl3;let wN:=iN j4 ur;let pq:=j4.frz tU;let pM:=j9.sameI i4;revert t4 p4 qF rn wN pq pM;generalize upd H4' x (.ins C.Wood B<|Yh bi (.ref an) [(ar,.ref l),(bp,.str z)])=H4;intro t4 p4 qF rn wN pq pM;show⟨_,Z,x,B,_,Z,qF,Z,_,Z,x,a,B,l,an,z,xs,g,o,fQ hs,hs.map (·.1),Z,qF,rn,wN,hz,pq,JK.hs hs,λrv H5' ir s5 n5=>?_⟩;let Ru:=YL.new p4 n5;show⟨_,Z,x,C.Wood,B,_,Z,s5 _ _ qF,T.ak,T.bY,(show 3<1000 by decide),?_⟩;show⟨_,Z,_,Z,x,C.Wood,B,[(ar,.ref l),(bp,.str z),(bi,.ref an),(bX,rv)],Z,YA,T.ak,T.bC,(show 4<1000 by decide),?_⟩;rw[YKz];let i5:Y1 H5'<|upd H5' x<|.ins C.Wood B<|Yh bv (.ref a) [(ar,.ref l),(bp,.str z),(bi,.ref an),(bX,rv)]:=Y1.set<|s5 _ _ qF;let j5:=(Y1.of s5).trans i5;let t5:YG H0<|upd H5' x<|.ins C.Wood B<|Yh bv (.ref a) [(ar,.ref l),(bp,.str z),(bi,.ref an),(bX,rv)]:=(t4.trans s5).put hx0;let p5:YL<|upd H5' x<|.ins C.Wood B<|Yh bv (.ref a) [(ar,.ref l),(bp,.str z),(bi,.ref an),(bX,rv)]:=Ru.upd rfl;let pJ:upd H5' x (.ins C.Wood B<|Yh bv (.ref a) [(ar,.ref l),(bp,.str z),(bi,.ref an),(bX,rv)]) x=À (.ins C.Wood B [(ar,.ref l),(bp,.str z),(bi,.ref an),(bX,rv),(bv,.ref a)]):=YA;let z7:=j5.lst rn;let z8:=iN j5 wN;let wO:=j5.frz pq;let sS:=pM.sameI j5;let rP:=ir.sameI i5;revert t5 p5 pJ z7 z8 wO sS rP;generalize upd H5' x (.ins C.Wood B<|Yh bv (.ref a) [(ar,.ref l),(bp,.str z),(bi,.ref an),(bX,rv)])=H5;intro t5 p5 pJ z7 z8 wO sS rP;let hlen:=YG4 st hg (by rw[hcl];show q_.1);let tV:∀r d i k,Nd.beg r d i k∈hs.map (·.1)->k<=z.cps.size:=λr d i k h=>by
  have:=(CH st _ h).2.2;rw[hcl]at this;show this
 show⟨_,Z,a,o,fQ hs,hs.map (·.1),z.cps.size,Z,wO,JK.hs hs,st.nd,hlen,q_.1,tV,p5,λae H6' hen s6 Rv=>?_⟩;show⟨_,Z,x,C.Wood,B,_,Z,s6 _ _ pJ,T.ak,T.gb,(show 5<1000 by decide),?_⟩;let i6:Y1 H6'<|upd H6' x<|.ins C.Wood B<|Yh bS (.ref ae) [(ar,.ref l),(bp,.str z),(bi,.ref an),(bX,rv),(bv,.ref a)]:=Y1.set<|s6 _ _ pJ;let j6:=(Y1.of s6).trans i6;let t6:YG H0<|upd H6' x<|.ins C.Wood B<|Yh bS (.ref ae) [(ar,.ref l),(bp,.str z),(bi,.ref an),(bX,rv),(bv,.ref a)]:=(t5.trans s6).put hx0;let p6:YL<|upd H6' x<|.ins C.Wood B<|Yh bS (.ref ae) [(ar,.ref l),(bp,.str z),(bi,.ref an),(bX,rv),(bv,.ref a)]:=Rv.upd rfl;let q9:upd H6' x (.ins C.Wood B<|Yh bS (.ref ae) [(ar,.ref l),(bp,.str z),(bi,.ref an),(bX,rv),(bv,.ref a)]) x=À (.ins C.Wood B [(ar,.ref l),(bp,.str z),(bi,.ref an),(bX,rv),(bv,.ref a),(bS,.ref ae)]):=YA;let nP:=j6.lst z7;let wQ:=iN j6 z8;let z9:=j6.frz wO;let ut:=sS.sameI j6;let qe:=rP.sameI j6;let rQ:=hen.sameI i6;revert t6 p6 q9 nP wQ z9 ut qe rQ;generalize upd H6' x (.ins C.Wood B<|Yh bS (.ref ae) [(ar,.ref l),(bp,.str z),(bi,.ref an),(bX,rv),(bv,.ref a)])=H6;intro t6 p6 q9 nP wQ z9 ut qe rQ;let Rw:XV C.Wood H6 x g z (hs.map (·.1))<|lS g z.cps.size<|hs.map (·.1):=⟨⟨B,l,an,a,ae,rv,xs,q9,nP,wQ,ut,qe,⟨o,_,z9,JK.hs hs⟩,rQ⟩,hg,hz,CH st,λr d i j h=>let ⟨k,_,h1,_⟩:=YI0 st r d i j h;⟨k,h1⟩⟩;let kO:∀t,lS g z.cps.size (hs.map (·.1))=À t->t∈hs.map (·.1):=λt e=>by
  unfold lS at e;split at e;cases e;split at e;rename_i h;cases e;show fq h;cases e
 show⟨_,Z,x,B,_,Z,q9,Z,x,g,z,hs.map (·.1),_,Z,Rw,kO,st.nd,hlen,p6,λaf of_ kvF DS H7' Rx vN wk yx s7 Ry=>?_⟩;show⟨_,Z,x,C.Wood,B,_,Z,s7 _ _ q9,T.ak,T.bC,(show 6<1000 by decide),?_⟩;let i7:Y1 H7'<|upd H7' x<|.ins C.Wood B<|Yh bv (.ref af) [(ar,.ref l),(bp,.str z),(bi,.ref an),(bX,rv),(bv,.ref a),(bS,.ref ae)]:=Y1.set<|s7 _ _ q9;let j7:=(Y1.of s7).trans i7;let t7:YG H0<|upd H7' x<|.ins C.Wood B<|Yh bv (.ref af) [(ar,.ref l),(bp,.str z),(bi,.ref an),(bX,rv),(bv,.ref a),(bS,.ref ae)]:=(t6.trans s7).put hx0;let p7:YL<|upd H7' x<|.ins C.Wood B<|Yh bv (.ref af) [(ar,.ref l),(bp,.str z),(bi,.ref an),(bX,rv),(bv,.ref a),(bS,.ref ae)]:=Ry.upd rfl;let vO:upd H7' x (.ins C.Wood B<|Yh bv (.ref af) [(ar,.ref l),(bp,.str z),(bi,.ref an),(bX,rv),(bv,.ref a),(bS,.ref ae)]) x=À (.ins C.Wood B [(ar,.ref l),(bp,.str z),(bi,.ref an),(bX,rv),(bv,.ref af),(bS,.ref ae)]):=YA;let pA:=j7.lst nP;let rm:=iN j7 wQ;let wR:=i7.frz Rx;let lF:=ut.sameI j7;let rR:=qe.sameI j7;revert t7 p7 vO pA rm wR lF rR;generalize upd H7' x (.ins C.Wood B<|Yh bv (.ref af) [(ar,.ref l),(bp,.str z),(bi,.ref an),(bX,rv),(bv,.ref a),(bS,.ref ae)])=H7;intro t7 p7 vO pA rm wR lF rR;let vP:∀y∈DS,y∈hs.map (·.1):=λy hy=>fq<|wk.sub y hy;show⟨_,Z,x,C.Wood,B,_,_,Z,vO,T.ak,T.bC,Z,af,of_,kvF,DS,z.cps.size,Z,wR,vN,wk.nd,Ú yx hlen,q_.1,λr d i k h=>tV r d i k<|vP _ h,p7,λQ9 H8' yz s8 Rz=>?_⟩;show⟨_,Z,x,C.Wood,B,_,Z,s8 _ _ vO,T.ak,T.gb,(show 6<1000 by decide),?_⟩;let i8:Y1 H8'<|upd H8' x<|.ins C.Wood B<|Yh bS (.ref Q9) [(ar,.ref l),(bp,.str z),(bi,.ref an),(bX,rv),(bv,.ref af),(bS,.ref ae)]:=Y1.set<|s8 _ _ vO;let j8:=(Y1.of s8).trans i8;show qq DS _ st bs wk ⟨⟨B,l,an,af,Q9,rv,xs,YA,j8.lst pA,iN j8 rm,lF.sameI j8,rR.sameI j8,⟨of_,kvF,j8.frz wR,vN⟩,yz.sameI i8⟩,hg,hz,λy hy=>CH st y<|vP y hy,λr d i j h=>?_⟩ ((t7.trans s8).put hx0)<|Rz.upd rfl;show oh st (by rw[hcl];show wk) r d i j h
@[ext]def kD:db->D
 |.inl i=>.int i
 |.inr s=>.str s
@[ext]def ib(x:Nd):D:=.tup<|(Ye x).map kD
@[ext]def sL(ws:ac<|ac Nd):D:=.lst<|ws.map λw=>.tup<|w.map ib
def ϫ:∀ks:ac db,Ya H (ks.map kV)<|ks.map kD
 |[]=>.nil
 |.inl i::ks=>.cons (.int _)<|ϫ ks
 |.inr s::ks=>.cons (.str _)<|ϫ ks
def YOc(h:H t=À (.tup<|(Ye x).map kV)):cx H (.ref t)<|ib x:=.tup h<|ϫ _
def Ϧ:∀{ns:ac Nd}{ts:ac ai},ZR H ts ns->Ya H (ts.map V.ref) (ns.map ib)
 |[],[],_=>.nil
 |[],_::_,h=>by cases h.1
 |_::_,[],h=>by cases h.1
 |n::ns,t::ts,h=>.cons (YOc<|h.2 0 t n rfl rfl)<|Ϧ ⟨Nat.succ.inj h.1,λi t' x e1 e2=>h.2 (i+1) t' x e1 e2⟩
def YHE:∀{ws:ac (ac Nd)}{bs:ac ai},Xj H bs ws->Ya H (bs.map V.ref) (ws.map λw=>.tup<|w.map ib)
 |[],[],_=>.nil
 |[],_::_,h=>by cases h.1
 |_::_,[],h=>by cases h.1
 |w::ws,b::bs,h=>by
  let⟨ts,e1,e2⟩:=h.2 0 b w Z rfl;show .cons (.tup e1<|Ϧ e2)<|YHE ⟨Nat.succ.inj h.1,λi b' w' e1 e2=>h.2 (i+1) b' w' e1 e2⟩
def YOd(h:zI H a ws):cx H (.ref a)<|sL ws:=by
 let⟨bs,e,f⟩:=h;show .lst (.inl e)<|YHE f
def A1:∀ks:ac db,iF (ks.map kD)=Â/\jS (ks.map kD)=0
 |[]=>⟨Z,Z⟩
 |.inl i::ks=>⟨by rw[Ö];unfold iF;rw[(A1 ks).1];rfl,by rw[Ö];unfold jS;rw[(A1 ks).2];rfl⟩
 |.inr s::ks=>⟨by rw[Ö];unfold iF;rw[(A1 ks).1];rfl,by rw[Ö];unfold jS;rw[(A1 ks).2];rfl⟩
def CD(x:Nd):(ib x).ok=Â/\(ib x).dep=1:=⟨by unfold ib D.ok;show(A1 _).1,by unfold ib D.dep;rw[(A1 _).2]⟩
def Ϙ{α:Type}{f:α->D}{m:Nat}:∀{l:ac α},(∀a∈l,(f a).ok=Â/\(f a).dep<=m)->iF (l.map f)=Â/\jS (l.map f)<=m
 |[],_=>⟨Z,Ë _⟩
 |a::l,h=>by
  let⟨h1,h2⟩:=h a É;let⟨h3,h4⟩:=Ϙ (l:=l) λb hb=>h b<|Ç _ hb;show⟨?_,?_⟩;rw[Ö];unfold iF;rw[h1,h3];rfl;rw[Ö];unfold jS;show Nat.max_le.mpr ⟨h2,h4⟩
def YLu(ws:ac<|ac Nd):(sL ws).ok=Â/\(sL ws).dep<=64:=by
 let hw:∀w:ac Nd,(D.tup<|w.map ib).ok=Â/\(D.tup<|w.map ib).dep<=2:=λw=>by
  let⟨h1,h2⟩:=Ϙ (f:=ib) (m:=1) (l:=w) λx _=>⟨(CD x).1,Nat.le_of_eq (CD x).2⟩;show⟨by unfold D.ok;show h1,by unfold D.dep;lia⟩
 let⟨h1,h2⟩:=Ϙ (f:=λw:ac Nd=>D.tup<|w.map ib) (m:=2) (l:=ws) λw _=>hw w;show⟨by unfold sL D.ok;show h1,by unfold sL D.dep;lia⟩
def wq{H:Hp}{ts us:ac ai}{ns ms:ac Nd}(h:ZR H ts ns)(h2:ZR H us ms):ZR H (ts++us)<|ns++ms:=by
 show⟨by rw[È,È,h.1,h2.1],λi t x e1 e2=>?_⟩;by_cases hi:i<ts.length;rw[ä hi]at e1;rw[ä (by rw[<-h.1];show hi)]at e2;show h.2 i t x e1 e2;rw[à (by lia)]at e1;rw[à (by rw[<-h.1];lia),<-h.1]at e2;show h2.2 _ t x e1 e2
def o7(hg:Y4 g=Â)(hn:n<=60)(x:Nd):(Yf g n F x).length<=61:=by
 cases x with
 |part p i j=>
  rw[Yf];split;decide;rw[Ä];let h1:=Ĉ (λr=>F<|.beg r (ZH g r) i j)<|YM g p;let h2:(YM g p).length<=(List.range g.length).length:=Ĉ _ _;rw[è]at h2;have:=Bz hg;lia
 |beg r d i j=>
  cases d with
  |zero=>rw[Yf];decide
  |succ d=>
   rw[Yf,Ä];let h1:=Ĉ (λk=>F<|.part (JJ g r d) k j)<|XI F n r d i;let h2:(XI F n r d i).length<=(List.range<|n+1).length:=Ĉ _ _;rw[è]at h2;lia
def YOe{ws:ac (ac Nd)}(h:∀w∈ws,w.length<=2):ws.flatten.length<=2*ws.length:=by
 induction ws with
 |nil=>show Å _
 |cons w ws ih=>
  rw[õ,È,Ñ];let h1:=h w É;let h2:=ih λv hv=>h v<|Ç _ hv;lia
def YOf{g:YS}{n:Nat}{F:Nd->Bool}{top:ag Nd}{DS:ac Nd}(wk:ZF g n F top DS){t x:Nd}(ht:top=À t)(h:vn g n F t x):x∈DS:=by
 induction h with
 |top=>show wk.tp t ht
 |step _ hw hy ih=>show wk.cl _ ih _ hw _ hy
noncomputable abbrev Xq:Stmt:=top 46
noncomputable abbrev Xr:Stmt:=Ym (top 47) 0
noncomputable abbrev Ÿ:Stmt:=Ym (top 47) 1
noncomputable abbrev YBQ:Stmt:=Ym (top 47) 2
noncomputable abbrev ϻ:Stmt:=Ym (top 47) 3
noncomputable abbrev ϒ:Stmt:=Ym (top 47) 4
@[ext]def gE(g:YS)(n:Nat)(DS:ac Nd)(x:Nd):ac Nd:=(Yf g n (dX DS) x).flatten
def CS{g:YS}{n:Nat}{F:Nd->Bool}{top:ag Nd}{DS:ac Nd}(wk:ZF g n F top DS):∀x∈DS,∀y∈gE g n DS x,y∈DS:=λx S y hy=>by
 unfold gE at hy;rw[YG1 wk S]at hy;let⟨w,hw,rA⟩:=List.mem_flatten.mp hy;show wk.cl x S w hw y rA
def xo{g:YS}{n:Nat}{F:Nd->Bool}{top:ag Nd}{DS left:ac Nd}(wk:ZF g n F top DS)(ht:∀t,top=À t->t∈left)(hc:∀x∈left,∀y∈gE g n DS x,y∈left):∀x∈DS,x∈left:=λx S=>by
 let⟨t,et,hr⟩:=wk.why x S
 induction hr with
 |top=>show ht t et
 |@step x w y h1 hw hy ih=>
  let S:=YOf wk et h1;show hc x (ih S) y ?_;unfold gE;rw[YG1 wk S];show List.mem_flatten.mpr ⟨w,hw,hy⟩
def YMt(h:w∈Yf g n F x):w.length<=2:=by
 cases x with
 |part p i j=>
  rw[Yf]at h;split at h;rw[YO0.mp h];show Ë _;let⟨r,_,Z⟩:=YPR.mp h;show ò _
 |beg r d i j=>
  cases d with
  |zero=>rw[Yf]at h;rw[YO0.mp h];show Ë _
  |succ d=>
   rw[Yf]at h;let⟨k,_,Z⟩:=YPR.mp h;show Å _
inductive YFp(CW:Addr)(vs:List V)(H:Hp)(Q:VK):Prop
 |mk (wd t:Addr)(g:YS)(z:Str)(DS:List Nd)(top:Option Nd)(y:Nd):vs=[.ref wd,.ref t]->XV CW H wd g z DS top->H t=À (.tup ((Ye y).map kV))->y∈DS->(∀a H',ke H' a (gE g z.cps.size DS y)->H a=Á->YG H H'->Q (.ref a) H')->YFp CW vs H Q
@[ext]def YHF(CW:ai):Sp:=λvs H Q E_=>YFp CW vs H Q
inductive YHG(C CW:Addr)(vs:List V)(H:Hp)(Q:VK):Prop
 |mk (H0:Hp)(x wd L a2 a3 a4 a5 t:Addr)(us ms:List Addr)(p:List Nd)(un:List (List Nd))(f3 f4:Nd->Option V)(left:List Nd)(met:Option (List Nd))(g:YS)(z:Str)(DS:List Nd)(top:Option Nd)(y:Nd):vs=[.ref x,.ref t]->fh C H0 H x wd L a2 a3 a4 a5 us ms p un f3 f4 left met->XV CW H0 wd g z DS top->H t=À (.tup ((Ye y).map kV))->y∈DS->p.length<=3000000->us.length<=3000000->(∀y,(f3 y).isSome=Â->y∈DS)->DS.length<=3000000->(∀kE H',fh C H0 H' x wd L a2 a3 a4 a5 kE ms (p++[y]) (un++[gE g z.cps.size DS y]) (λz=>if z=y then À (.bl Â) else f3 z) f4 left met->Q .non H')->YHG C CW vs H Q
@[ext]def Ů(C CW:ai):Sp:=λvs H Q E_=>YHG C CW vs H Q
inductive YLv(C:Addr)(vs:List V)(H:Hp)(Q:VK):Prop
 |mk (H0:Hp)(x wd L a2 a3 a4 a5 u:Addr)(us ms:List Addr)(p:List Nd)(y:Nd)(un:List (List Nd))(l:List Nd)(f3 f4:Nd->Option V)(left:List Nd)(met:Option (List Nd))(N:List Nd):vs=[.ref x]->fh C H0 H x wd L a2 a3 a4 a5 (us++[u]) ms (p++[y]) (un++[l]) f3 f4 left met->left.length<=3000000->(y∈N/\∀y,(f3 y).isSome=Â->y∈N)->(∀y,(f4 y).isSome=Â->y∈N)->(N.length<=3000000/\∀y∈p,y∈N)->((f4 y).isSome=Ã\/p=[]->∀H',fh C H0 H' x wd L a2 a3 a4 a5 us ms p un (λz=>if z=y then À (.bl Ã) else f3 z) f4 (left++[y]) met->Q .non H')->(∀p' k,(f4 y).isSome=Â->p=p'++[k]->∀H',fh C H0 H' x wd L a2 a3 a4 a5 us ms p un (λz=>if z=y then À (.bl Ã) else f3 z) (λz=>if z=k then À (.bl Â) else f4 z) (left++[y]) met->Q .non H')->YLv C vs H Q
@[ext]def YOg(C:ai):Sp:=λvs H Q E_=>YLv C vs H Q
def Xa:YJ [aS,ay,bv,"way"] [aS,ay]<|YH Xq:=dE
def YD0(T:Txt K mg C)(bz:Yv P w K mg cj 2 C.Wood "ways" [av,ay]<|ņ C.Wood):Gd P w K mg cj 3 "nodes_beneath" "nodes_beneath" Xq [aS,ay]<|YHF C.Wood:=by
 show eP Xa λH Q E hr h=>?_;let⟨wd,t,g,z,DS,top,y,Z,wa,ht,DU,q⟩:=h;let hu:=Zd hr;show⟨_,(YF (c_ 2 Xa<|Y6 Ys)
  (YF (fM (ZJ K rfl<|fJ (J 0) T.ak bz hr YO<|aY<|J 1) (fm 3 Xa)<|YD<|YW<|oY K rfl ñ PySem.F.slot_list_extend PySem.F.type_list_extend (YKZ K rfl) (J 2)<|aY<|J 3)
  (YD<|YN<|J 2))),?_⟩
 let⟨B,l,an,af,ae,rv,xs,S,_⟩:=wa.ex;show⟨YK<|Ë _,λfl hfl=>?_⟩;let s0:=YG.upd (o:=.lst []) hfl;let yC:z.cps.size<=60:=by
  have:=wa.tx;unfold Zu at this;rw[Ó,fE]at this;lia
 let yD:=o7 (F:=dX DS) wa.gr yC y;let lX:∀w∈Yf g z.cps.size (dX DS) y,w.length<=2:=λw=>YMt;dsimp only[Y7];show⟨_,Z,wd,B,_,Z,s0 _ _ S,Z,_,Z,wd,t,g,z,DS,top,Ye y,Z,wa.same s0,s0 _ _ ht,λnd e Wx a H5 h1 h2 h3 h4=>?_,λhno=>absurd rfl<|hno y DU⟩;cases J8 e;let⟨bs,pN,wL⟩:=h1;let yE:H5 fl=À (.lst []):=h3 _ _ YA;let haf:a≠fl:=(YV (show upd H fl (.lst []) fl=À (.lst []) from YA) h2).symm;unfold gE at q;generalize Yf g z.cps.size (dX DS) y=ws at wL yD lX q;let accl:∀i,((ws.take i).flatten).length<=122:=λi=>by
  let h7:=YOe (ws:=ws.take i) λw hw=>lX w<|ę hw;let h8:(ws.take i).length<=ws.length:=by rw[ú];lia
  lia
 show⟨a,Z,⟨_,bG.of pN⟩,ZL (K:=K) (a:=a) (xs:=bs.map V.ref) (λi σ H7=>Ō λv3=>Cy (σ=[À<|.ref wd,À<|.ref t,À<|.ref fl,v3]) (ke H7 fl (ws.take i).flatten) (H7 a=À (.lst<|bs.map V.ref)) (Xj H7 bs ws)<|YG H H7)
  ⟨_,Z,⟨[],yE,Z,λi t x e=>nomatch e⟩,pN,wL,s0.trans h3⟩ (by rintro i σ H7 _ ⟨v5,_,_,h,_,_⟩;show bG.of h) ?_ ?_⟩
 rintro i v σ H7 hi ⟨v3,rfl,⟨tsw,z_,Q_⟩,tO,pO,s7⟩;rw[Ï]at hi;let⟨b,hbi,Z⟩:=YPk.mp hi;obtain⟨w',hwi⟩:∃w',ws[i]?=À w':=⟨_,Ê (by rw[<-pO.1];show(YOx.mp hbi).1)⟩;let⟨ts,tQ,lF⟩:=pO.2 i b w' hbi hwi;dsimp only[Y7];show⟨_,Z,.inl ⟨Z,_,bG.of z_⟩,_,Z,fl,b,_,_,Z,Z,z_,cN.of tQ,?_,?_⟩;rw[Ä,Ä,Q_.1,lF.1,sizeLine_eq];have:=accl i;have:=lX w'<|Ð hwi;lia;let kt:∀c ys,H7 c=À (.tup ys)->upd H7 fl (.lst<|tsw.map V.ref++ts.map V.ref) c=À (.tup ys):=λc ys=>YY z_ nofun;show⟨_,Z,⟨tsw++ts,by rw[YA,Î],?_⟩,ZS haf tO,pO.keep kt,s7.put hfl⟩;rw[â,hwi,List.flatten_append];change ZR _ _ (_++([w']:ac<|ac Nd).flatten);rw[õ,List.flatten_nil,ß];show(wq Q_ lF).keep kt;rintro σ H7 ⟨v3,rfl,pA,tO,pO,s7⟩;rw[Ä,pO.1,æ]at pA;show⟨_,Z,q fl H7 pA hfl s7⟩
def YEa:YJ [av,ay] [av,ay]<|YH Ÿ:=dE
def YEb(T:Txt K mg C)(c7:ZN P w K mg cj 3 "nodes_beneath" [aS,ay]<|YHF C.Wood):Gd P w K mg cj 4 "go_down" "Walk.go_down" Ÿ [av,ay]<|Ů C.Walk C.Wood:=by
 show eP YEa λH Q E hr h=>?_;let⟨H0,x,wd,L,a2,a3,a4,a5,t,us,ms,p,un,f3,f4,left,met,g,z,DS,top,y,Z,ws,wa,ht,hy,hpl,wC,tU,hnl,q⟩:=h;let hu:=Zd hr;show⟨_,(YF (J4 hu (df K<|J 0) (J 1) X3 Z)
  (YF (YW<|fP K (df K<|J 0)<|J 1)
  (YD<|YW<|fP K (df K<|J 0)<|eT c7 hr YO<|YI (df K<|J 0)<|aY<|J 1))),?_⟩
 let⟨B,mv,S,_⟩:=ws.x_;let⟨k3,e3,d3⟩:=ws.h3;let hl3:=d3.len tU;show⟨_,Z,x,C.Walk,B,_,_,Z,S,T.aq,T.bu,Z,_,Z,a3,_,Z,h_.t e3 ht (by rw[sizeLine_eq];lia),?_⟩;let w1:=ws.set3 e3 y<|.bl Â;let gH:upd H a3 (.dT<|Y3 k3 (Ye y)<|.bl Â) t=À (.tup<|(Ye y).map kV):=YY e3 nofun ht;revert w1 gH;generalize upd H a3 (.dT<|Y3 k3 (Ye y)<|.bl Â)=H1;intro w1 gH;let⟨B,mv,S,_⟩:=w1.x_;let⟨t1,e1,n1⟩:=w1.h1;show⟨_,Z,x,C.Walk,B,_,_,Z,S,T.aq,T.aP,Z,.inl ⟨Z,_,bG.of e1⟩,_,Z,L,_,_,Z,Z,e1,(by rw[Ä,n1.1,sizeLine_eq];lia),?_⟩;let w2:=w1.set1<|n1.snoc gH;let mG:upd H1 L (.lst<|t1.map V.ref++[.ref t]) t=À (.tup<|(Ye y).map kV):=YY e1 nofun gH;let ee:(t1++[t]).map V.ref=t1.map V.ref++[.ref t]:=Î;rw[ee]at w2;revert w2 mG;generalize upd H1 L (.lst<|t1.map V.ref++[.ref t])=H2;intro w2 mG;let⟨B,mv,S,_⟩:=w2.x_;show⟨_,Z,x,C.Walk,B,_,_,Z,S,T.aq,T.cH,Z,.inl ⟨Z,_,bG.of w2.h2⟩,_,Z,x,C.Walk,B,_,_,Z,S,T.aq,T.iw,Z,_,Z,wd,t,g,z,DS,top,y,Z,wa.same w2.sm,mG,hy,λa H3 h1 h2 h3=>?_⟩;let w3:=w2.same h3;show⟨a2,_,_,Z,Z,w3.h2,(by rw[Ä,sizeLine_eq];lia),?_⟩;let w4:=w3.push h1 (w2.sm.free h2) λhm=>?_;rw[show(us++[a]).map V.ref=us.map V.ref++[.ref a] from Î]at w4;show q _ _ w4;show w2.there hm h2
def YCc:YJ [av,ay] [av]<|YH YBQ:=dE
def YGN(T:Txt K mg C):Gd P w K mg cj 1 "go_up" "Walk.go_up" YBQ [av]<|YOg C.Walk:=by
 show eP YCc λH Q E hr h=>?_;let⟨H0,x,wd,L,a2,a3,a4,a5,u,us,ms,p,y,un,l,f3,f4,left,met,N,Z,ws,hll,tU,pq,hN,q0,q1⟩:=h;let hu:=Zd hr;show⟨_,(YF (c_ 1 YCc<|wm K rfl ñ ĕ Đ xF<|df K<|J 0)
  (YF (YW<|wm K rfl ñ ĕ Đ xF<|df K<|J 0)
  (YF (J4 hu (df K<|J 0) (J 1) X3 Z)
  (YF (YW<|fP K (df K<|J 0)<|J 1)
  (YD<|Yq (PW.pt<|Ĭ (Xm<|Bn hu (J 1)<|df K<|J 0)<|Ļ<|JV K rfl (df K<|J 0)<|λ_=>rfl) (YD<|J4 hu (df K<|J 0) (fN K (df K<|J 0)<|Ds DG YC) X3 rfl) YT))))),?_⟩
 let⟨B,mv,S,_⟩:=ws.x_;let⟨qD,e1,n1⟩:=ws.h1;obtain⟨t1,t,rfl⟩:∃t1 t,qD=t1++[t]:=by
  rcases Jo qD with rfl|h
  have:=n1.1;rw[È]at this;simp at this;show h
 let⟨n1,ht⟩:=n1.pop;let e1':H L=À (.lst<|t1.map V.ref++[.ref t]):=by rw[e1,Î];rfl
 show⟨_,Z,x,C.Walk,B,_,_,Z,S,T.aq,T.aP,Z,.inl ⟨Z,_,bG.of e1⟩,L,_,.ref t,Z,Z,e1',(by simp),?_⟩;rw[Č];let w1:=ws.set1 n1;let gH:upd H L (.lst<|t1.map V.ref) t=À (.tup<|(Ye y).map kV):=YY e1 nofun ht;revert w1 gH;generalize upd H L (.lst<|t1.map V.ref)=H1;intro w1 gH;let⟨B,mv,S,_⟩:=w1.x_;let e2:=w1.h2;let RB:H1 a2=À (.lst<|us.map V.ref++[.ref u]):=by rw[e2,Î];rfl
 dsimp only[Y7];show⟨_,Z,x,C.Walk,B,_,_,Z,S,T.aq,T.cH,Z,.inl ⟨Z,_,bG.of e2⟩,a2,_,.ref u,Z,Z,RB,(by simp),?_⟩;rw[Č];let w2:=w1.pop;let mG:upd H1 a2 (.lst<|us.map V.ref) t=À (.tup<|(Ye y).map kV):=YY e2 nofun gH;revert w2 mG;generalize upd H1 a2 (.lst<|us.map V.ref)=H2;intro w2 mG;let⟨B,mv,S,_⟩:=w2.x_;let⟨k3,e3,d3⟩:=w2.h3;let hl3:=d3.len tU.2;show⟨_,Z,x,C.Walk,B,_,_,Z,S,T.aq,T.bu,Z,_,Z,a3,_,Z,h_.t e3 mG (by rw[sizeLine_eq];lia),?_⟩;let w3:=w2.set3 e3 y<|.bl Ã;let mF:upd H2 a3 (.dT<|Y3 k3 (Ye y)<|.bl Ã) t=À (.tup<|(Ye y).map kV):=YY e3 nofun mG;revert w3 mF;generalize upd H2 a3 (.dT<|Y3 k3 (Ye y)<|.bl Ã)=H3;intro w3 mF;let⟨B,mv,S,_⟩:=w3.x_;let⟨t5,e5,n5⟩:=w3.h5;show⟨_,Z,x,C.Walk,B,_,_,Z,S,T.aq,T.gh,Z,.inl ⟨Z,_,bG.of e5⟩,_,Z,a5,_,_,Z,Z,e5,(by rw[Ä,n5.1,sizeLine_eq];lia),?_⟩;let w4:=w3.set5<|n5.snoc mF;let jE:upd H3 a5 (.lst<|t5.map V.ref++[.ref t]) t=À (.tup<|(Ye y).map kV):=YY e5 nofun mF;rw[show(t5++[t]).map V.ref=t5.map V.ref++[.ref t] from Î]at w4;revert w4 jE;generalize upd H3 a5 (.lst<|t5.map V.ref++[.ref t])=H4;intro w4 jE;let⟨B,mv,S,_⟩:=w4.x_;let⟨k4,e4,d4⟩:=w4.h4;let rn:=d4.len pq;let⟨iW,Wa,Qa⟩:=w4.h1;show⟨_,Z,_,Z,x,C.Walk,B,_,_,Z,S,T.aq,T.bO,Z,a4,_,Z,.inr ⟨k4,_,t,.inl e4,Z,jE,Z⟩,?_⟩;show⟨_,Z,?_⟩;let⟨_,_,_,Qc⟩:=id d4;rw[Qc y];cases hb:(f4 y).isSome with
 |false=>show Y5<|Y5<|q0 (.inl hb) _ w4
 |true=>
  show Y9 ⟨_,Z,x,C.Walk,B,_,_,Z,S,T.aq,T.aP,Z,!(iW.map V.ref).isEmpty,.inl ⟨_,bG.of Wa,Z⟩,?_⟩;rcases Jo p with rfl|⟨p',k,rfl⟩
  let jM:iW=[]:=YPq.mp Qa.1;subst jM;show Y5<|q0 (.inr rfl) _ w4;obtain⟨t6,tk,rfl⟩:∃t6 tk,iW=t6++[tk]:=by
   rcases Jo iW with rfl|h
   have:=Qa.1;rw[È]at this;simp at this;show h
  let⟨n6,jc⟩:=Qa.pop;rw[show(!((t6++[tk]).map V.ref).isEmpty)=Â by cases t6 <;> rfl];show Y9 ⟨_,Z,x,C.Walk,B,_,_,Z,S,T.aq,T.bO,Z,_,Z,x,C.Walk,B,_,_,Z,S,T.aq,T.aP,Z,1,Z,L,_,_,.ref tk,Z,Z,bG.of Wa,?_,a4,_,Z,h_.t e4 jc (by have:=hN.1;rw[sizeLine_eq];lia),?_⟩;rw[Î];show ŭ _ _;show q1 p' k hb Z _<|w4.set4 e4 k<|.bl Â
def YMu(xs:ac V)(n:Nat)(h:n<=xs.length):XS xs (À (n:Int)) Á=xs.drop n:=by
 unfold XS;rw[HT.sIx_nat,HT.sIx_none,ć h,ĝ (by rw[ÿ];show Å _)]
def YLw:∀ks ls:ac db,fX (ks.map kD) (ls.map kD)=decide (ks=ls)
 |[],[]=>by unfold fX;rfl
 |[],_::_=>by rw[Ö];unfold fX;show(eI nofun).symm
 |_::_,[]=>by rw[Ö];unfold fX;show(eI nofun).symm
 |k::ks,l::ls=>by
  rw[Ö,Ö];unfold fX;rw[YLw ks ls];let e:dQ (kD k) (kD l)=decide (k=l):=by
   rw[ð,fE];cases k with
   |inl i=>cases l with
    |inl j=>unfold kD dQ;rw[beq_iff_eq];show⟨λh=>by rw[h],λh=>by cases h;rfl⟩
    |inr j=>unfold kD dQ;show⟨nofun,nofun⟩
   |inr i=>cases l with
    |inl j=>unfold kD dQ;show⟨nofun,nofun⟩
    |inr j=>unfold kD dQ;rw[beq_iff_eq];show⟨λh=>by rw[h],λh=>by cases h;rfl⟩
  rw[e,ð,Ó,fE,fE,fE,List.cons.injEq]
def tz(x y:Nd):dQ (ib x) (ib y)=decide (x=y):=by
 unfold ib;rw[YK9,YLw,ð,fE,fE];show⟨J8,λe=>by rw[e]⟩
def ZR.drop(h:ZR H ts ns)(j:Nat):ZR H (ts.drop j)<|ns.drop j:=
 ⟨by rw[ÿ,ÿ,h.1],λi t x e1 e2=>h.2 (j+i) t x (by rw[<-List.getElem?_drop];show e1) (by rw[<-List.getElem?_drop];show e2)⟩
inductive YJW(C:Addr)(vs:List V)(H:Hp)(Q:VK):Prop
 |mk (H0:Hp)(x wd L a2 a3 a4 a5 t:Addr)(us ms:List Addr)(p:List Nd)(k y:Nd)(un:List (List Nd))(f3 f4:Nd->Option V)(left:List Nd)(met:Option (List Nd))(N:List Nd):vs=[.ref x,.ref t]->fh C H0 H x wd L a2 a3 a4 a5 us ms (p++[k]) un f3 f4 left met->H t=À (.tup ((Ye y).map kV))->(∀y,(f4 y).isSome=Â->y∈N)->(N.length<=3000000/\p.length<=3000000)->(met≠Á->∀H',fh C H0 H' x wd L a2 a3 a4 a5 us ms (p++[k]) un f3 (λz=>if z=k then À (.bl Â) else f4 z) left met->Q .non H')->(met=Á->y∈p++[k]/\∀i b H',(p++[k])[i]?=À y->fh C H0 H' x wd L a2 a3 a4 a5 us [b] (p++[k]) un f3 (λz=>if z=k then À (.bl Â) else f4 z) left (À ((p++[k]).drop i))->Q .non H')->YJW C vs H Q
@[ext]def YLx(C:ai):Sp:=λvs H Q E_=>YJW C vs H Q
def YH0:YJ [av,ay] [av,ay]<|YH ϻ:=dE
def YH1(T:Txt K mg C):Gd P w K mg cj 1 "meet" "Walk.meet" ϻ [av,ay]<|YLx C.Walk:=by
 show eP YH0 λH Q E hr h=>?_;let⟨H0,x,wd,L,a2,a3,a4,a5,t,us,ms,p,k,y,un,f3,f4,left,met,N,Z,ws,ht,pq,hN,q1,q0⟩:=h;let hu:=Zd hr;let hU:=hr.units;show⟨_,(YF (J4 hu (df K<|J 0) (fN K (df K<|J 0)<|Ds DG YC) X3 Z)
  (YD<|Yq (Yg Dx (df K<|J 0) Z6<|Yd _) (YD<|fy K (J 0)<|Jh (Xe K rfl) (df K<|J 0) (J3<|oY K rfl ñ PySem.F.slot_list_index PySem.F.type_list_index (YGH K rfl hU) (df K<|J 0)<|aY<|J 1) Xx) YT)),?_⟩
 let⟨B,mv,S,_⟩:=ws.x_;let⟨qD,e1,n1⟩:=ws.h1;obtain⟨t1,tk,rfl⟩:∃t1 t,qD=t1++[t]:=by
  rcases Jo qD with rfl|h
  have:=n1.1;rw[È]at this;simp at this;show h
 let⟨_,jc⟩:=n1.pop;let⟨k4,e4,d4⟩:=ws.h4;let rn:=d4.len pq;show⟨_,Z,x,C.Walk,B,_,_,Z,S,T.aq,T.bO,Z,_,Z,x,C.Walk,B,_,_,Z,S,T.aq,T.aP,Z,1,Z,L,_,_,.ref tk,Z,Z,bG.of e1,(by rw[Î];show ŭ _ _),a4,_,Z,h_.t e4 jc (by rw[sizeLine_eq];lia),?_⟩;let w1:=ws.set4 e4 k<|.bl Â;let gH:upd H a4 (.dT<|Y3 k4 (Ye k)<|.bl Â) t=À (.tup<|(Ye y).map kV):=YY e4 nofun ht;revert w1 gH;generalize upd H a4 (.dT<|Y3 k4 (Ye k)<|.bl Â)=H1;intro w1 gH;let⟨B,mv,S,hm⟩:=w1.x_;let⟨ts,e1,n1⟩:=w1.h1;show⟨_,Z,x,C.Walk,B,_,_,Z,S,T.aq,T.cW,Z,Z,_,Z,?_⟩;let hm0:=hm;rcases hm with ⟨em,rfl,ems⟩|⟨r,b,em,rfl,ems,hb⟩
 subst ems;let⟨hy,q2⟩:=q0 em;subst em;let hi:=List.idxOf_lt_length_iff.mpr hy;let hat:(p++[k])[(p++[k]).idxOf y]?=À y:=by rw[Ê hi,List.getElem_idxOf hi]
 let hno:∀m z,m<(p++[k]).idxOf y->(p++[k])[m]?=À z->z≠y:=λm z hm hz e=>by
  subst e;let⟨jR,hz⟩:=YOx.mp hz;have:=List.not_of_lt_findIdx (p:=λa=>a==z) (xs:=p++[k]) hm;rw[hz]at this;simp at this
 let Qy:(p++[k]).length<=3000001:=by rw[È];have:=hN.2;change p.length+1<=_;lia
 generalize (p++[k]).idxOf y=j at hi hat hno;rw[dA Z];let hil:j<=(ts.map V.ref).length:=by rw[Ä,n1.1];lia
 show Y9 ⟨_,Z,x,C.Walk,B,_,_,Z,S,T.aq,T.aP,Z,_,Z,x,C.Walk,B,_,_,Z,S,T.aq,T.aP,Z,.inl ⟨Z,_,bG.of e1⟩,_,Z,L,ts,_,t,_,j,Z,Z,bG.of e1,Ϧ n1,YOc gH,λd hd=>?_,(CD y).1,?_,⟨ib y,by rw[Ï,hat];rfl,by rw[tz];show dA Z⟩,λm dm h1 h2=>?_,?_⟩;let⟨z,_,Z⟩:=YPR.mp hd;show⟨(CD z).1,by rw[(CD z).2];decide⟩;have:(j:Int)<3000001:=by lia
 show Int.lt_trans this (by decide);rw[Ï]at h2;let⟨z,hz,Z⟩:=YPk.mp h2;rw[tz];show eI<|hno m z h1 hz;show⟨_,Z,L,_,Z,bG.of e1,λb hb=>?_⟩;rw[YMu _ _ hil];let z1:=YG.upd (o:=.lst<|(ts.map V.ref).drop j) hb;let w2:=w1.same z1;show⟨_,Z,x,C.Walk,B,_,Z,z1 _ _ S,T.aq,T.cW,?_,?_⟩;show(show 7<1000 by decide);show q2 j b _ hat<|w2.setM (z1 _ _ S) ⟨ts.drop j,by rw[YA,List.map_drop],(n1.drop j).keep λ_ _=>z1 _ _⟩ (w1.sm.free hb) λhm=>w1.there hm hb;subst em;rw[eI (λh=>by cases h)];show Y5<|q1 nofun _ w1
structure jQ(C CW:Addr)(H0 H:Hp)(x wd L a2 a3 a4 a5:Addr)(us ms:List Addr)(g:YS)(z:Str)(DS:List Nd)(top:Option Nd)(st:List (Nd×List Nd))(ld:Nd->Bool)(left:List Nd)(met:Option (List Nd)):Prop where
 ws:fh C H0 H x wd L a2 a3 a4 a5 us ms (st.map (·.1)).reverse (st.map (·.2)).reverse (gs (st.map (·.1)) left) (l8 ld) left met
 wk:Wk (gE g z.cps.size DS) DS st ld left met
 wa:XV CW H0 wd g z DS top
 hn:DS.length<=2900000
 cl:∀x∈DS,∀y∈gE g z.cps.size DS x,y∈DS
def jQ.on{C CW:ai}{H0 H:Hp}{x wd L a2 a3 a4 a5:ai}{us ms:ac ai}{g:YS}{z:am}{DS:ac Nd}{top:ag Nd}{st:ac (Nd×ac Nd)}{ld:Nd->Bool}{left:ac Nd}{met:ag (ac Nd)}(h:jQ C CW H0 H x wd L a2 a3 a4 a5 us ms g z DS top st ld left met):∀y,(gs (st.map (·.1)) left y).isSome=Â->y∈DS:=λy e=>by
 unfold gs at e;by_cases h1:y∈st.map (·.1);show h.wk.sub y<|Õ _ h1;rw[if_neg h1]at e;by_cases h2:y∈left;show h.wk.sub y<|Ò _ h2;rw[if_neg h2]at e;cases e
def Ő:(l8 ld y).isSome=ld y:=by
 unfold l8;cases h:ld y with
 |true=>rw[if_pos Z];rfl
 |false=>rfl
def jQ.li{C CW:ai}{H0 H:Hp}{x wd L a2 a3 a4 a5:ai}{us ms:ac ai}{g:YS}{z:am}{DS:ac Nd}{top:ag Nd}{st:ac (Nd×ac Nd)}{ld:Nd->Bool}{left:ac Nd}{met:ag (ac Nd)}(h:jQ C CW H0 H x wd L a2 a3 a4 a5 us ms g z DS top st ld left met):∀y,(l8 ld y).isSome=Â->y∈DS:=λy e=>by
 rw[Ő]at e;show h.wk.sub y<|h.wk.ldi y e
def jQ.le{C CW:ai}{H0 H:Hp}{x wd L a2 a3 a4 a5:ai}{us ms:ac ai}{g:YS}{z:am}{DS:ac Nd}{top:ag Nd}{st:ac (Nd×ac Nd)}{ld:Nd->Bool}{left:ac Nd}{met:ag (ac Nd)}(h:jQ C CW H0 H x wd L a2 a3 a4 a5 us ms g z DS top st ld left met):st.length+left.length<=DS.length:=by
 have:=ZM h.wk.nd h.wk.sub;rw[È,Ä]at this;show this
def sR:∀y∈(y0::p)++left,y∈p++(left++[y0]):=λy h=>by
 rw[<-Ý];show(YO9.mp h).elim (λe=>Ò _<|YO0.mpr e)<|Õ _
inductive YLy(C CW:Addr)(vs:List V)(H:Hp)(Q:VK):Prop
 |mk (H0:Hp)(x wd L a2 a3 a4 a5:Addr)(us ms:List Addr)(g:YS)(z:Str)(DS:List Nd)(top:Option Nd)(q0:Nd×List Nd)(r:List (Nd×List Nd))(ld:Nd->Bool)(left:List Nd)(met:Option (List Nd)):vs=[.ref x]->jQ C CW H0 H x wd L a2 a3 a4 a5 us ms g z DS top (q0::r) ld left met->(∀kE kY st' ld' left' cV H',jQ C CW H0 H' x wd L a2 a3 a4 a5 kE kY g z DS top st' ld' left' cV->st'.length+2*left'.length=r.length+2+2*left.length->(∀y∈(q0::r).map (·.1)++left,y∈st'.map (·.1)++left')->Q .non H')->YLy C CW vs H Q
@[ext]def YOh(C CW:ai):Sp:=λvs H Q E_=>YLy C CW vs H Q
def ϗ:YJ [av,"beneath",ay] [av]<|YH ϒ:=dE
def YH2(T:Txt K mg C)(bK:Yv P w K mg cj 4 C.Walk "go_down" [av,ay]<|Ů C.Walk C.Wood)(gO:Yv P w K mg cj 1 C.Walk "meet" [av,ay]<|YLx C.Walk)(gk:Yv P w K mg cj 1 C.Walk "go_up" [av]<|YOg C.Walk):Gd P w K mg cj 5 "step" "Walk.step" ϒ [av]<|YOh C.Walk C.Wood:=by
 show eP ϗ λH Q E hr h=>?_;let⟨H0,x,wd,L,a2,a3,a4,a5,us,ms,g,z,DS,top,q0,r,ld,left,met,Z,wl,q⟩:=h;let hu:=Zd hr;let hU:=hr.units;show⟨_,(YF (c_ 1 ϗ<|fN K (df K<|J 0)<|Ds DG YC)
  (YF (J1 PassesOwn.never (JV K Z (J 1)<|λ_=>rfl) (YF (c_ 2 ϗ<|wm K rfl ñ ĕ Đ xF<|J 1)
  (YF (Yq (Xm<|X1 hu (J 2)<|df K<|J 0) (YF (YW<|fJ (J 0) T.aq bK hr YO<|aY<|J 2)
  (YD YHY)) YT)
  (YD<|Yq (PW.pt<|B7 (JE<|JT hu (df K<|J 0) (J 2)<|λ_ _=>rfl)<|BU<|Xm<|Bn hu (J 2)<|df K<|J 0) (YD<|YW<|fJ (J 0) T.aq gO hr YO<|aY<|J 2) YT))))
  (YD<|YW<|fW (J 0) T.aq gk hr YO))),?_⟩
 let⟨y0,l0⟩:=q0;obtain⟨mH,ub,rfl⟩:∃t1 t,us=t1++[t]:=by
  rcases Jo us with rfl|h
  have:=wl.ws.hu.1;rw[ç,Ä]at this;cases this;show h
 let⟨B,mv,S,_⟩:=wl.ws.x_;show fb λu eu=>?_;show⟨_,Z,x,C.Walk,B,_,_,Z,S,T.aq,T.cH,Z,1,Z,a2,_,_,.ref ub,Z,Z,bG.of wl.ws.h2,(by rw[Î];show ŭ _ _),?_⟩;dsimp only[Y7];change u _ _ _;subst eu;show fb λu eu=>?_;show⟨λm σ H3=>Ω λkY l ld' cV v2=>vb (σ=[À<|.ref x,À<|.ref ub,v2]) (jQ C.Walk C.Wood H0 H3 x wd L a2 a3 a4 a5 (mH++[ub]) kY g z DS top ((y0,l)::r) ld' left cV)<|m=l.length,⟨_,ms,l0,ld,met,Á,Z,wl,Z⟩,?_⟩;rintro m σ H3 ⟨kY,l,ld',cV,v2,rfl,w3,rfl⟩;let wr:=w3.ws;rw[Ö,Ö,ã,ã]at wr;let⟨hu0,ts,e3,n3⟩:=wr.hu.pop;let hle:=w3.le;rw[Ñ]at hle;let hnn:=w3.hn;let wC:mH.length=r.length:=by rw[hu0.1,ç,Ä]
 rcases Jo l with rfl|⟨l',y,rfl⟩
 let jM:ts=[]:=YPq.mp n3.1;subst jM;show⟨_,Z,Ã,.inl ⟨_,bG.of e3,Z⟩,Y5 ?_⟩;let⟨B,mv,S,_⟩:=w3.ws.x_;let uf:=(YPN.mp w3.wk.nd).1;let RC:y0∉r.map (·.1):=λhm=>uf<|Õ _ hm;let eon:(λz=>if z=y0 then À (V.bl Ã) else gs (y0::r.map (·.1)) left z)=gs (r.map (·.1)) (left++[y0]):=w_ RC;let RD:y0∈DS:=w3.wk.sub y0 É;change u _ _ _;subst eu;show⟨_,Z,x,B,_,Z,S,Z,H0,x,wd,L,a2,a3,a4,a5,ub,mH,kY,_,y0,_,[],_,_,left,cV,DS,Z,wr,by lia,⟨RD,w3.on⟩,w3.li,⟨by lia,λy hy=>w3.wk.sub y<|Ç _<|Õ _<|YQa.mp hy⟩,λWb H' w5=>?_,λp' k pP hp H' w5=>?_⟩;rw[Ő]at Wb;let er:ld' y0=Ã\/r=[]:=Wb.imp id λh=>by
  rw[List.reverse_eq_nil_iff,List.map_eq_nil_iff]at h;show h
 show q mH kY r ld' (left++[y0]) cV H' ⟨by rw[<-eon];show w5,w3.wk.up (λ_=>rfl) (λS q0 r' e=>?_)<|λ_ _=>rfl,w3.wa,w3.hn,w3.cl⟩ (by rw[È];change r.length+2*(left.length+1)=_;lia) sR;rcases er with h|h
 rw[h]at S;cases S;rw[h]at e;cases e;rw[Ő]at pP;cases r with
 |nil=>cases p' <;> cases hp
 |cons q1 r'=>
  let hk:k=q1.1:=by
   rw[Ö,ã]at hp;show(List.cons.inj (List.append_inj' hp Z).2).1.symm
  subst hk;show q mH kY (q1::r') (kB ld' q1.1) (left++[y0]) cV H' ⟨by rw[<-eon,<-YLe];show w5,w3.wk.up (λh=>by rw[h]at pP;cases pP) (λ_ q0 QH e=>by cases e;rfl) (λ_ e=>nomatch e),w3.wa,w3.hn,w3.cl⟩ (by rw[È];change(q1::r').length+2*(left.length+1)=_;lia) sR
 obtain⟨iW,t,rfl⟩:∃iW t4,ts=iW++[t4]:=by
  rcases Jo ts with rfl|h
  have:=n3.1;rw[È]at this;simp at this;show h
 let⟨n4,ht⟩:=n3.pop;let ji:(!((iW++[t]).map V.ref).isEmpty)=Â:=by cases iW <;> rfl
 let e4:H3 ub=À (.lst<|iW.map V.ref++[.ref t]):=by rw[e3,Î];rfl
 show⟨_,Z,Â,.inl ⟨_,bG.of e3,ji.symm⟩,Y9 ⟨λσ' H'=>∃m',m'<_/\_,λ_ _ z=>z,?_⟩⟩;show fb λu eu=>?_;show⟨_,Z,.inl ⟨Z,_,bG.of e3⟩,ub,_,.ref t,Z,Z,e4,(by simp),?_⟩;rw[Č];let w4:=wr.setU n4;let jE:upd H3 ub (.lst<|iW.map V.ref) t=À (.tup<|(Ye y).map kV):=YY e3 nofun ht;revert w4 jE;generalize upd H3 ub (.lst<|iW.map V.ref)=H4;intro w4 jE;let⟨B,mv,S,_⟩:=w4.x_;let⟨k3,e5,d3⟩:=w4.h3;let⟨_,_,_,Qd⟩:=id d3;dsimp only[Y7];change u _ _ _;subst eu;show⟨_,Z,_,Z,x,C.Walk,B,_,_,Z,S,T.aq,T.bu,Z,a3,_,Z,.inr ⟨k3,_,t,.inl e5,Z,jE,Z⟩,_,Z,?_⟩;rw[Qd y];let mt:(y∈y0::r.map (·.1)\/ld' y=Â)->∀QQ:Hp->Prop,(∀jO jP iI H',jQ C.Walk C.Wood H0 H' x wd L a2 a3 a4 a5 (mH++[ub]) jO g z DS top ((y0,l')::r) jP left iI->QQ H')->
   (cV≠Á->∀H',fh C.Walk H0 H' x wd L a2 a3 a4 a5 (mH++[ub]) kY ((r.map (·.1)).reverse++[y0]) ((r.map (·.2)).reverse++[l']) (gs (y0::r.map (·.1)) left) (λz=>if z=y0 then À (.bl Â) else l8 ld' z) left cV->QQ H')/\
   (cV=Á->y∈(r.map (·.1)).reverse++[y0]/\∀i b H',((r.map (·.1)).reverse++[y0])[i]?=À y->fh C.Walk H0 H' x wd L a2 a3 a4 a5 (mH++[ub]) [b] ((r.map (·.1)).reverse++[y0]) ((r.map (·.2)).reverse++[l']) (gs (y0::r.map (·.1)) left) (λz=>if z=y0 then À (.bl Â) else l8 ld' z) left (À<|((r.map (·.1)).reverse++[y0]).drop i)->QQ H'):=λhy QQ hQ=>by
  rw[YLe];let er:(r.map (·.1)).reverse++[y0]=(y0::r.map (·.1)).reverse:=(ã).symm;let eu:(r.map (·.2)).reverse++[l']=(l'::r.map (·.2)).reverse:=(ã).symm;rw[er,eu];show⟨λhm H' w5=>hQ kY _ cV H' ⟨w5,w3.wk.meet hy hm w3.wk.m1,w3.wa,w3.hn,w3.cl⟩,λhm=>?_⟩;let rB:y∈y0::r.map (·.1):=hy.elim id λh=>by
   rw[w3.wk.m0 hm y]at h;cases h
  show⟨YQa.mpr rB,λi b H' hi w5=>hQ [b] _ _ H' ⟨w5,w3.wk.meet hy nofun (λk e=>?_),w3.wa,w3.hn,w3.cl⟩⟩;cases e;show oP Z w3.wk.dn (YPo.mp w3.wk.nd).1 (λz hz=>w3.wk.sub z<|Õ _ hz) hi w3.wk.nb_mem
 let DT:l'.length<(l'++[y]).length:=by rw[È];show û _
 let hyN:y∈DS:=w3.cl y0 (w3.wk.sub y0 É) y w3.wk.nb_mem;by_cases rB:y∈y0::r.map (·.1);let ev:gs (y0::r.map (·.1)) left y=À (.bl Â):=by unfold gs;rw[if_pos rB]
 let vQ:=Qd y;rw[ev]at vQ ⊢;show Y5 ⟨_,Z,x,C.Walk,B,_,_,Z,S,T.aq,T.bu,Z,_,Z,a3,.bl Â,Z,.inr ⟨k3,_,t,.inl e5,Z,jE,vQ.symm⟩,Â,Z,Y9<|Y9 ⟨_,Z,x,B,_,Z,S,Z,_,Z,H0,x,wd,L,a2,a3,a4,a5,t,mH++[ub],kY,_,y0,y,_,_,_,left,cV,DS,Z,w4,jE,w3.li,⟨by lia,by rw[ç,Ä];lia⟩,(mt (.inl rB) _ λjO jP iI H' ww=>⟨_,DT,jO,l',jP,iI,_,Z,ww,Z⟩).1,(mt (.inl rB) _ λjO jP iI H' ww=>⟨_,DT,jO,l',jP,iI,_,Z,ww,Z⟩).2⟩⟩;by_cases pF:y∈left;let ev:gs (y0::r.map (·.1)) left y=À (.bl Ã):=by unfold gs;rw[if_neg rB,if_pos pF]
 let vQ:=Qd y;rw[ev]at vQ ⊢;let⟨k4,e6,d4⟩:=w4.h4;let⟨_,_,_,Qc⟩:=id d4;show Y5 ⟨_,Z,x,C.Walk,B,_,_,Z,S,T.aq,T.bu,Z,_,Z,a3,.bl Ã,Z,.inr ⟨k3,_,t,.inl e5,Z,jE,vQ.symm⟩,Ã,Z,Y5 ⟨_,Z,_,Z,x,C.Walk,B,_,_,Z,S,T.aq,T.bO,Z,a4,_,Z,.inr ⟨k4,_,t,.inl e6,Z,jE,Z⟩,_,Z,?_⟩⟩;rw[Qc y,Ő];cases pP:ld' y with
 |true=>show Y9 ⟨_,Z,x,B,_,Z,S,Z,_,Z,H0,x,wd,L,a2,a3,a4,a5,t,mH++[ub],kY,_,y0,y,_,_,_,left,cV,DS,Z,w4,jE,w3.li,⟨by lia,by rw[ç,Ä];lia⟩,(mt (.inr pP) _ λjO jP iI H' ww=>⟨_,DT,jO,l',jP,iI,_,Z,ww,Z⟩).1,(mt (.inr pP) _ λjO jP iI H' ww=>⟨_,DT,jO,l',jP,iI,_,Z,ww,Z⟩).2⟩
 |false=>show Y5 ⟨_,DT,kY,l',ld',cV,_,Z,⟨by rw[Ö,Ö,ã,ã];show w4,w3.wk.skip pF pP,w3.wa,w3.hn,w3.cl⟩,Z⟩
 let ev:gs (y0::r.map (·.1)) left y=Á:=by unfold gs;rw[if_neg rB,if_neg pF]
 rw[ev];show Y9 ⟨_,Z,x,B,_,Z,S,Z,_,Z,H0,x,wd,L,a2,a3,a4,a5,t,mH++[ub],kY,_,_,_,_,left,cV,g,z,DS,top,y,Z,w4,w3.wa,jE,hyN,by rw[È,ç,Ä];change r.length+1<=_;lia,by rw[È];change mH.length+1<=_;lia,w3.on,by lia,λkE H' w5=>?_⟩;show q kE kY ((y,gE g z.cps.size DS y)::(y0,l')::r) ld' left cV H' ⟨?_,w3.wk.down w3.cl<|λhm=>(YPD.mp hm).elim rB pF,w3.wa,w3.hn,w3.cl⟩ (by rw[Ñ,Ñ]) λc hc=>Ç _ hc;rw[YI3]at w5;rw[Ö,Ö,Ö,Ö,ã,ã,ã,ã];show w5
@[ext]def ň(wd:ai):ac<|am×V:=[(aS,.ref wd)]
@[ext]def Ĩ(wd L:ai):ac<|am×V:=[(aS,.ref wd),("path",.ref L)]
@[ext]def Į(wd L a2:ai):ac<|am×V:=[(aS,.ref wd),("path",.ref L),(dP,.ref a2)]
@[ext]def Ŀ(wd L a2 a3:ai):ac<|am×V:=[(aS,.ref wd),("path",.ref L),(dP,.ref a2),(eJ,.ref a3)]
@[ext]def Ņ(wd L a2 a3 a4:ai):ac<|am×V:=[(aS,.ref wd),("path",.ref L),(dP,.ref a2),(eJ,.ref a3),("leading",.ref a4)]
@[ext]def ħ(wd L a2 a3 a4 a5:ai):ac<|am×V:=[(aS,.ref wd),("path",.ref L),(dP,.ref a2),(eJ,.ref a3),("leading",.ref a4),("left",.ref a5)]
structure xy(C:Addr)(H0 H:Hp)(x B:Addr)(fs:List (Str×V))(ob:List (Addr×HO)):Prop where
 sm:YG H0 H
 x_:H x=À (.ins C B fs)
 nx:H0 x=Á
 hob:∀q∈ob,H q.1=À q.2/\H0 q.1=Á/\q.1≠x
 nd:(ob.map (·.1)).Nodup
def xy.new{fs:ac (am×V)}(h:xy C H0 H x B fs ob)(hb:H b=Á)(o:HO):xy C H0 (upd H b o) x B fs<|(b,o)::ob:=by
 let s:=YG.upd (o:=o) hb;show⟨h.sm.trans s,s _ _ h.x_,h.nx,λq hq=>?_,YPN.mpr ⟨λhm=>?_,h.nd⟩⟩;rcases YO9.mp hq with rfl|hq
 show⟨YA,h.sm.free hb,λe=>by rw[show b=x from e,h.x_]at hb;cases hb⟩;let⟨h1,h2,h3⟩:=h.hob q hq;show⟨s _ _ h1,h2,h3⟩;let⟨q,hq,e⟩:=YPR.mp hm;rw[<-show q.1=b from e,(h.hob q hq).1]at hb;cases hb
def xy.fld{fs:ac (am×V)}(h:xy C H0 H x B fs ob)(lN:ac<|am×V):xy C H0 (upd H x<|.ins C B lN) x B lN ob:=
 ⟨h.sm.put h.nx,YA,h.nx,λq hq=>let ⟨h1,h2,h3⟩:=h.hob q hq;⟨ZS h3 h1,h2,h3⟩,h.nd⟩
inductive YJX(C CW:Addr)(vs:List V)(H:Hp)(Q:VK):Prop
 |mk (H0:Hp)(x wd B:Addr)(g:YS)(z:Str)(DS:List Nd)(top:Option Nd):vs=[.ref x,.ref wd]->H x=À (.ins C B [])->H0 x=Á->YG H0 H->XV CW H0 wd g z DS top->DS.length<=2900000->(∀x∈DS,∀y∈gE g z.cps.size DS x,y∈DS)->(∀t,top=À t->t∈DS)->(∀L a2 a3 a4 a5 us ms st H',jQ C CW H0 H' x wd L a2 a3 a4 a5 us ms g z DS top st (λ_=>Ã) [] Á->(top=Á/\st=[]\/∃t l,top=À t/\st=[(t,l)])->Q .non H')->YJX C CW vs H Q
@[ext]def YLz(C CW:ai):Sp:=λvs H Q E_=>YJX C CW vs H Q
def YD2:YJ [av,aS] [av,aS]<|YH Xr:=dE
def YD3(T:Txt K mg C)(aH:Yv P w K mg cj 1 C.Wood "top" [av]<|Dh C.Wood)(bK:Yv P w K mg cj 4 C.Walk "go_down" [av,ay]<|Ů C.Walk C.Wood):Gd P w K mg cj 5 "__init__" "Walk.__init__" Xr [av,aS]<|YLz C.Walk C.Wood:=by
 show eP YD2 λH Q E hr h=>?_;let⟨H0,x,wd,B,g,z,DS,top,Z,S,hx0,s0,wa,hnl,hcl,kW,q⟩:=h;let hu:=Zd hr;show fO ?_;show⟨_,(YE ⟨(fy K (J 0)<|J 1)⟩
  (YE ⟨(fy K (J 0)<|Y6 Ys)⟩
  (YE ⟨(fy K (J 0)<|Y6 Ys)⟩
  (YE ⟨(fy K (J 0) J5)⟩
  (YE ⟨(fy K (J 0) J5)⟩
  (YE ⟨(fy K (J 0)<|Y6 Ys)⟩
  (YE ⟨(fy K (J 0) Z6)⟩
  (Y8 ⟨(Yq (Yg BB (fW (J 1) T.ak aH hr YO) Z6<|Yd _) (YD<|YW<|fJ (J 0) T.aq bK hr YO<|aY<|fW (J 1) T.ak aH hr YO) YT)⟩)))))))),?_⟩
 let b0:xy C.Walk H0 H x B [] []:=⟨s0,S,hx0,(λq hq=>nomatch hq),å⟩;show⟨_,Z,_,Z,x,C.Walk,B,_,Z,S,T.aq,T.iw,(show 0<1000 by decide),?_⟩;rw[show Yh aS (.ref wd) ([]:ac<|am×V)=(ň wd) from Z];let b1:=b0.fld<|ň wd;revert b1;generalize upd H x (.ins C.Walk B<|ň wd)=G1;intro b1;show⟨YK<|Ë _,λL sZ=>?_⟩;let b2:=b1.new sZ<|.lst [];revert b2;generalize upd G1 L (.lst [])=G2;intro b2;show⟨_,Z,x,C.Walk,B,_,Z,b2.x_,T.aq,T.aP,(show 1<1000 by decide),?_⟩;rw[show Yh "path" (.ref L) (ň wd)=(Ĩ wd L) from Z];let b3:=b2.fld<|Ĩ wd L;revert b3;generalize upd G2 x (.ins C.Walk B<|Ĩ wd L)=G3;intro b3;show⟨YK<|Ë _,λa2 qy=>?_⟩;let b4:=b3.new qy<|.lst [];revert b4;generalize upd G3 a2 (.lst [])=G4;intro b4;show⟨_,Z,x,C.Walk,B,_,Z,b4.x_,T.aq,T.cH,(show 2<1000 by decide),?_⟩;rw[show Yh dP (.ref a2) (Ĩ wd L)=(Į wd L a2) from Z];let b5:=b4.fld<|Į wd L a2;revert b5;generalize upd G4 x (.ins C.Walk B<|Į wd L a2)=G5;intro b5;showλa3 nW=>?_;let b6:=b5.new nW<|.dT [];revert b6;generalize upd G5 a3 (.dT [])=G6;intro b6;show⟨_,Z,x,C.Walk,B,_,Z,b6.x_,T.aq,T.bu,(show 3<1000 by decide),?_⟩;rw[show Yh eJ (.ref a3) (Į wd L a2)=(Ŀ wd L a2 a3) from Z];let b7:=b6.fld<|Ŀ wd L a2 a3;revert b7;generalize upd G6 x (.ins C.Walk B<|Ŀ wd L a2 a3)=G7;intro b7;showλa4 l_=>?_;let b8:=b7.new l_<|.dT [];revert b8;generalize upd G7 a4 (.dT [])=G8;intro b8;show⟨_,Z,x,C.Walk,B,_,Z,b8.x_,T.aq,T.bO,(show 4<1000 by decide),?_⟩;rw[show Yh "leading" (.ref a4) (Ŀ wd L a2 a3)=(Ņ wd L a2 a3 a4) from Z];let b9:=b8.fld<|Ņ wd L a2 a3 a4;revert b9;generalize upd G8 x (.ins C.Walk B<|Ņ wd L a2 a3 a4)=G9;intro b9;show⟨YK<|Ë _,λa5 lD=>?_⟩;let wU:=b9.new lD<|.lst [];revert wU;generalize upd G9 a5 (.lst [])=G10;intro wU;show⟨_,Z,x,C.Walk,B,_,Z,wU.x_,T.aq,T.gh,(show 5<1000 by decide),?_⟩;rw[show Yh "left" (.ref a5) (Ņ wd L a2 a3 a4)=(ħ wd L a2 a3 a4 a5) from Z];let wV:=wU.fld<|ħ wd L a2 a3 a4 a5;revert wV;generalize upd G10 x (.ins C.Walk B<|ħ wd L a2 a3 a4 a5)=G11;intro wV;show⟨_,Z,x,C.Walk,B,_,Z,wV.x_,T.aq,T.cW,(show 6<1000 by decide),?_⟩;rw[show Yh "met" V.non (ħ wd L a2 a3 a4 a5)=sf wd L a2 a3 a4 a5 .non from Z];let lO:=wV.fld<|sf wd L a2 a3 a4 a5 .non;revert lO;generalize upd G11 x (.ins C.Walk B<|sf wd L a2 a3 a4 a5 .non)=G12;intro lO;let o5:=lO.hob _ É;let o4:=lO.hob _<|Ç _ É;let o3:=lO.hob _<|Ç _<|Ç _ É;let o2:=lO.hob _<|Ç _<|Ç _<|Ç _ É;let o1:=lO.hob _<|Ç _<|Ç _<|Ç _<|Ç _ É;let nd:=lO.nd;simp only[Ö,List.map_nil,YPN,YO9,đ,or_false,not_or,not_false_eq_true,å,and_true]at nd;let⟨⟨n54,n53,RG,RJ⟩,⟨RK,n42,n41⟩,⟨n32,n31⟩,RL⟩:=nd;let vR:∀H:Hp,ZR H [] []:=λH=>⟨Z,λi t x e=>nomatch e⟩;let w0:fh C.Walk H0 G12 x wd L a2 a3 a4 a5 [] [] [] [] (gs [] []) (l8 λ_=>Ã) [] Á:=by
  show⟨lO.sm,⟨B,.non,lO.x_,.inl ⟨Z,Z,Z⟩⟩,⟨[],o1.1,vR _⟩,o2.1,⟨Z,λi u l e=>nomatch e⟩,⟨[],o3.1,DN.nil⟩,⟨[],o4.1,DN.nil⟩,⟨[],o5.1,vR _⟩,?_,λb hb=>?_,hx0,o3.2.1,o4.2.1,λe=>RK e.symm⟩;simp only[ß,YPN,YO9,đ,or_false,not_or,not_false_eq_true,å,and_true];show⟨⟨λe=>RL e.symm,λe=>RJ e.symm⟩,λe=>RG e.symm⟩;simp only[ß,YO9,đ,or_false]at hb;rcases hb with rfl|rfl|rfl
  show o1.2.1;show o2.2.1;show o5.2.1
 let⟨dxw,l,an,af,ae,rv,xs,j_,_⟩:=wa.ex;let j_:=lO.sm _ _ j_;show⟨_,Z,wd,dxw,_,Z,j_,Z,wd,g,z,DS,top,Z,wa.same lO.sm,λv ir=>⟨Z,_,Z,?_⟩⟩;rcases ir with ⟨ht,rfl⟩|⟨nt,tt,ht,rfl,gJ⟩
 rw[show(!decide (V.non=V.non))=Ã from fT Bool.not (dA Z)];show Y5<|q L a2 a3 a4 a5 [] [] [] _ ⟨w0,.none_,wa,hnl,hcl⟩<|.inl ⟨ht,Z⟩;rw[show(!decide (V.ref tt=V.non))=Â from fT Bool.not (eI (λh=>by cases h))];show Y9 ⟨_,Z,x,B,_,Z,lO.x_,Z,_,Z,wd,dxw,_,Z,j_,Z,wd,g,z,DS,top,Z,wa.same lO.sm,λv ir=>?_⟩;rcases ir with ⟨ht',_⟩|⟨wW,RM,ht',rfl,yF⟩
 rw[ht]at ht';cases ht';show⟨H0,x,wd,L,a2,a3,a4,a5,RM,[],[],[],[],_,_,[],Á,g,z,DS,top,wW,Z,w0,wa,yF,kW _ ht',Ë _,Ë _,(λy e=>nomatch e),by lia,λkE H' w5=>?_⟩;rw[YI3]at w5;show q L a2 a3 a4 a5 kE [] [(wW,gE g z.cps.size DS wW)] H' ⟨w5,.start<|kW _ ht',wa,hnl,hcl⟩<|.inr ⟨wW,_,ht',Z⟩
noncomputable abbrev Xb:Stmt:=top 48
inductive YHH(C CW:Addr)(vs:List V)(H:Hp)(Q:VK):Prop
 |mk (wd:Addr)(g:YS)(z:Str)(DS:List Nd)(top:Option Nd)(F:Nd->Bool):vs=[.ref wd]->XV CW H wd g z DS top->ZF g z.cps.size F top DS->DS.length<=2900000->(∀x L a2 a3 a4 a5 us ms st ld left met H',jQ C CW H H' x wd L a2 a3 a4 a5 us ms g z DS top st ld left met->(met=Á->st=[]/\∀y∈DS,y∈left)->Q (.ref x) H')->YHH C CW vs H Q
@[ext]def YJY(C CW:ai):Sp:=λvs H Q E_=>YHH C CW vs H Q
def YAi:YJ [aS,"walk"] [aS]<|YH Xb:=dE
def YDT(T:Txt K mg C)(dh:nz P w K mg cj 5 C.Walk [av,aS]<|YLz C.Walk C.Wood)(gP:Yv P w K mg cj 5 C.Walk "step" [av]<|YOh C.Walk C.Wood):Gd P w K mg cj 7 "walked_to_ring" "walked_to_ring" Xb [aS]<|YJY C.Walk C.Wood:=by
 show eP YAi λH Q E hr h=>?_;let⟨wd,g,z,DS,top,F,Z,wa,wk,hnl,q⟩:=h;let hu:=Zd hr;show⟨_,(YF (c_ 1 YAi<|AU dh hr T.rF YO<|aY<|J 0)
  (YF (J1 PassesOwn.never (PW.pt<|Ĭ (JV K rfl (df K<|J 1)<|λ_=>rfl)<|Ļ<|Yg Dx (df K<|J 1) Z6<|Yd _)<|YD<|YW<|fW (J 1) T.aq gP hr YO)
  (YD<|YN<|J 1))),?_⟩
 show⟨_,Z,λx B S qU hnx=>⟨H,x,wd,B,g,z,DS,top,Z,YA,S,(YG.upd qU).put S,wa,hnl,CS wk,wk.tp,λL a2 a3 a4 a5 us ms st H1 w1 hst=>⟨Z,?_⟩⟩⟩;dsimp only[Y7];show⟨λm σ H3=>ĩ λus ms st ld left met=>AM (σ=[À<|.ref wd,À<|.ref x]) (jQ C.Walk C.Wood H H3 x wd L a2 a3 a4 a5 us ms g z DS top st ld left met) ((∀t,top=À t->t∈st.map (·.1)++left))<|m=2*DS.length+1-(st.length+2*left.length),⟨_,us,ms,st,_,[],Á,Z,w1,λt et=>?_,Z⟩,?_⟩;rcases hst with ⟨e,_⟩|⟨t',l,e,rfl⟩
 rw[e]at et;cases et;rw[e]at et;cases et;show É;rintro m σ H3 ⟨us,ms,st,ld,left,met,rfl,w3,kW,rfl⟩;let⟨jz,mv,jA,hmt⟩:=w3.ws.x_;let⟨ts,e1,n1⟩:=w3.ws.h1;cases st with
 |nil=>
  let jM:ts=[]:=YPq.mp n1.1;subst jM;show⟨_,Z,x,C.Walk,jz,_,_,Z,jA,T.aq,T.aP,Z,Ã,.inl ⟨_,bG.of e1,Z⟩,Y5<|Y5 ⟨_,Z,q x L a2 a3 a4 a5 us ms [] ld left met H3 w3 λ_=>⟨Z,xo wk kW w3.wk.lcl⟩⟩⟩
 |cons q0 r=>
  let ji:(!(ts.map V.ref).isEmpty)=Â:=by
   cases ts with
   |nil=>
    have:=n1.1;rw[ç,Ä]at this;cases this
   |cons a b=>rfl
  show⟨_,Z,x,C.Walk,jz,_,_,Z,jA,T.aq,T.aP,Z,Â,.inl ⟨_,bG.of e1,ji.symm⟩,Y9 ⟨_,Z,x,C.Walk,jz,_,_,Z,jA,T.aq,T.cW,Z,Z,_,Z,?_⟩⟩;rcases hmt with ⟨em,rfl,ems⟩|⟨rg,b,em,rfl,ems,hb⟩
  rw[dA Z];show Y9 ⟨λσ' H'=>∃m',m'<_/\_,λ_ _ z=>z,?_⟩;show⟨_,Z,x,jz,_,Z,jA,Z,H,x,wd,L,a2,a3,a4,a5,us,ms,g,z,DS,top,q0,r,ld,left,met,Z,w3,λkE kY st' ld' left' cV H' w4 hl qQ=>⟨_,?_,kE,kY,st',ld',left',cV,Z,w4,λt et=>qQ t<|kW t et,Z⟩⟩;have:=w4.le;rw[Ñ];lia;rw[eI (λh=>by cases h)];show Y5 ⟨_,Z,q x L a2 a3 a4 a5 us ms _ ld left met H3 w3 λz=>by rw[em]at z;cases z⟩
noncomputable abbrev Ź:Stmt:=Ym (top 44) 0
noncomputable abbrev YBS:Stmt:=Ym (top 44) 1
noncomputable abbrev Ž:Stmt:=Ym (top 44) 2
noncomputable abbrev Ű:Stmt:=Ym (top 44) 3
noncomputable abbrev YCA:Stmt:=Ym (top 44) 4
def YEc:YJ [av] [av]<|YH Ź:=dE
def YEd(T:Txt K mg C):Gd P w K mg cj 1 "nothing" "Many.nothing" Ź [av]<|rS<|.int 0:=by
 show eP YEc λH Q E hr h=>?_;let⟨s,Z,q⟩:=h;show⟨_,(YD<|YN YC),q⟩
def YGO:YJ [av] [av]<|YH YBS:=dE
def YGP(T:Txt K mg C):Gd P w K mg cj 1 "blank" "Many.blank" YBS [av]<|rS<|.int 1:=by
 show eP YGO λH Q E hr h=>?_;let⟨s,Z,q⟩:=h;show⟨_,(YD<|YN YC),q⟩
def YEe:YJ [av,cb,"worth"] [av,cb,"worth"]<|YH Ž:=dE
def YEf(T:Txt K mg C):Gd P w K mg cj 1 "of_rule" "Many.of_rule" Ž [av,cb,"worth"]<|YNw<|.int 1:=by
 show eP YEe λH Q E hr h=>?_;let⟨s,x,y,Z,q⟩:=h;show⟨_,(YD<|YN YC),q⟩
def YFr:YJ [av,cK,cS] [av,cK,cS]<|YH Ű:=dE
def YFs(T:Txt K mg C):Gd P w K mg cj 1 "either" "Many.either" Ű [av,cK,cS]<|rL<|λx y=>XG<|x+y:=by
 show eP YFr λH Q E hr h=>?_;let⟨s,x,y,Z,h1,h2,h3,h4,q⟩:=h;show⟨_,(YD<|YN<|Yc (XQ rfl) (by rfl) T.jf Ĕ<|YI (YR ZI (J 1)<|J 2)<|aY<|YR oV YC YC),?_⟩;show⟨_,Z,_,Z,_,_,Z,Z,_,_,Z,Z,⟨by decide,by decide,by decide⟩,_,_,Z,?_⟩;show q
def YH3:YJ [av,cK,cS] [av,cK,cS]<|YH YCA:=dE
def YH4(T:Txt K mg C):Gd P w K mg cj 1 "both" "Many.both" YCA [av,cK,cS]<|rL<|λx y=>XG<|x*y:=by
 show eP YH3 λH Q E hr h=>?_;let⟨s,x,y,Z,h1,h2,h3,h4,q⟩:=h;show⟨_,(YD<|YN<|Yc (XQ rfl) (by rfl) T.jf Ĕ<|YI (YR oX (J 1)<|J 2)<|aY<|YR oV YC YC),?_⟩;show⟨_,Z,_,Z,_,_,Z,Z,⟨YFR h1 h2,YFR h3 h4⟩,_,_,Z,Z,⟨by decide,by decide,by decide⟩,_,_,Z,?_⟩;show q
noncomputable abbrev Ų:Stmt:=top 50
noncomputable abbrev Xs:Stmt:=top 51
noncomputable abbrev Xt:Stmt:=top 52
@[ext]def Yk(n:Nat):Int:=XG (n:Int)
def Zz(n:Nat):0<=Yk n:=oO<|Int.natCast_nonneg n
def Zw(n:Nat):Yk n<=fK:=oj _
def ĭ(a b:Nat):XG (Yk a+Yk b)=Yk (a+b):=by
 have:=AV;unfold Yk XG;rw[Int.natCast_add];by_cases h1:fK<(a:Int) <;> by_cases h2:fK<(b:Int) <;> simp only[h1,h2,if_true,if_false] <;> split <;> split <;> omega
def Jm(a b:Nat):XG (Yk a*Yk b)=Yk (a*b):=by
 let hM:=AV;by_cases ha:(a:Int)<=fK;by_cases hb:(b:Int)<=fK;unfold Yk;rw[vF ha,vF hb,Int.natCast_mul];let eb:Yk b=fK:=Bi (by lia);by_cases h0:a=0;subst h0;rw[show Yk 0=0 from vF (by lia),Int.zero_mul,ë];rfl;let h1:(1:Int)<=a:=by lia
 let ea:Yk a=(a:Int):=vF ha;rw[ea,eb];unfold Yk;rw[Bi,Bi];rw[Int.natCast_mul];show Int.le_trans (show fK<=(b:Int) by lia) (by
  have:=Int.mul_le_mul_of_nonneg_right h1 (show(0:Int)<=b by lia);rw[Int.one_mul]at this;show this)
 have:=Int.mul_le_mul_of_nonneg_right h1 (show(0:Int)<=fK by lia);rw[Int.one_mul]at this;show this;let ea:Yk a=fK:=Bi (by lia);by_cases h0:b=0;subst h0;rw[show Yk 0=0 from vF (by lia),Int.mul_zero,î];rfl;let h1:1<=Yk b:=by
  unfold Yk XG;split <;> lia
 rw[ea];unfold Yk at *;rw[Bi (z:=fK*_),Bi];rw[Int.natCast_mul];let h2:(1:Int)<=b:=by lia
 have:=Int.mul_le_mul_of_nonneg_left h2 (show(0:Int)<=a by lia);rw[Int.mul_one]at this;lia;have:=Int.mul_le_mul_of_nonneg_left h1 (show(0:Int)<=fK by lia);rw[Int.mul_one]at this;show this
inductive YL0(CM:Addr)(vs:List V)(H:Hp)(Q:VK):Prop
 |mk (tl B d b:Addr)(ts:List Addr)(w:List Nd)(kvs:List (List db×V))(T:Nd->Nat):vs=[.ref tl,.ref d,.ref b]->H tl=À (.ins CM B [])->Rd H d (.dT kvs)->(∀y∈w,Yj kvs (Ye y)=À (.int (Yk (T y))))->H b=À (.tup (ts.map V.ref))->ZR H ts w->1<=w.length->w.length<=2->Q (.int (Yk (XJ T w))) H->YL0 CM vs H Q
@[ext]def YOi(CM:ai):Sp:=λvs H Q E_=>YL0 CM vs H Q
inductive YJZ(CM:Addr)(vs:List V)(H:Hp)(Q:VK):Prop
 |mk (tl B d a:Addr)(ws:List (List Nd))(kvs:List (List db×V))(T:Nd->Nat):vs=[.ref tl,.ref d,.ref a]->H tl=À (.ins CM B [])->Rd H d (.dT kvs)->(∀w∈ws,1<=w.length/\w.length<=2/\∀y∈w,Yj kvs (Ye y)=À (.int (Yk (T y))))->zI H a ws->Q (.int (Yk (Yt ws (XJ T)))) H->YJZ CM vs H Q
@[ext]def YL1(CM:ai):Sp:=λvs H Q E_=>YJZ CM vs H Q
inductive YJa(CM CW:Addr)(vs:List V)(H:Hp)(Q:VK):Prop
 |mk (wd l tl B d t:Addr)(xs:List V)(g:YS)(z:Str)(DS:List Nd)(top:Option Nd)(kvs:List (List db×V))(T:Nd->Nat)(y:Nd):vs=[.ref wd,.ref l,.ref tl,.ref d,.ref t]->XV CW H wd g z DS top->H l=À (.lst xs)->Ya H xs (g.map Za)->H tl=À (.ins CM B [])->Rd H d (.dT kvs)->H t=À (.tup ((Ye y).map kV))->y∈DS->(∀x∈(Yf g z.cps.size (dX DS) y).flatten,Yj kvs (Ye x)=À (.int (Yk (T x))))->(∀H',YG H H'->YU H H'->Q (.int (Yk (Yt (Yf g z.cps.size (dX DS) y) (XJ T)))) H')->YJa CM CW vs H Q
@[ext]def YL2(CM CW:ai):Sp:=λvs H Q E_=>YJa CM CW vs H Q
def oF(h:Rd H a u)(s:YG H H'):Rd H' a u:=h.elim (λe=>.inl<|s _ _ e) λ⟨o,e⟩=>.inr ⟨o,s _ _ e⟩
def pE(ws:ac<|ac Nd):dQ (sL ws) (.lst [.tup []])=decide (ws=[[]]):=by
 unfold sL
 match ws with
 |[]=>rfl
 |[[]]=>rfl
 |[_::_]=>
  rw[eI (by simp)];rfl
 |[]::_::_=>
  rw[eI (by simp)];rfl
 |(_::_)::_::_=>
  rw[eI (by simp)];rfl
def YFt(h:Yf g n F x≠[[]]):∀w∈Yf g n F x,1<=w.length/\w.length<=2:=by
 cases x with
 |part p i j=>
  rw[Yf]at h ⊢;split;rename_i hq;rw[if_pos hq]at h;show absurd Z h;intro w hw;let⟨r,_,Z⟩:=YPR.mp hw;show⟨Å _,by change 1<=2;decide⟩
 |beg r d i j=>
  cases d with
  |zero=>show absurd Z h
  |succ d=>
   rw[Yf];intro w hw;let⟨k,_,Z⟩:=YPR.mp hw;show⟨by change 1<=2;decide,Å _⟩
def YEg:YJ [aI,bq,"way"] [aI,bq,"way"]<|YH Ų:=dE
def YEh(T:Txt K mg C)(bB:Yv P w K mg cj 1 C.Many "both" [av,cK,cS]<|rL<|λx y=>XG<|x*y):Gd P w K mg cj 2 "value_of_way" "value_of_way" Ų [aI,bq,"way"]<|YOi C.Many:=by
 show eP YEg λH Q E hr h=>?_;let⟨tl,B,d,b,ts,w,kvs,U,Z,htl,hd,hv,hb,hn,h1,h2,q⟩:=h;let hu:=Zd hr;show fO ?_;show⟨_,(YE ⟨(Yq (Yg iX (fA K T.aJ<|J 2) YC<|Yd _) (YD<|YN<|JT hu (J 1) (eL K (J 2) YC)<|λ_ _=>rfl) YT)⟩
  (Y8 ⟨(YN<|fJ (J 0) T.bU bB hr YO<|YI (JT hu (J 1) (eL K (J 2) YC)<|λ_ _=>rfl)<|aY<|JT hu (J 1) (eL K (J 2) YC)<|λ_ _=>rfl)⟩)),?_⟩
 let get:∀(i:Nat) (x:Nd),w[i]?=À x->∃t,ts[i]?=À t/\H t=À (.tup<|(Ye x).map kV)/\gc H d (.ref t) (À<|.int<|Yk<|U x):=λi x S=>by
  let hi:i<ts.length:=by rw[hn.1];show(YOx.mp S).1
  let ht:=hn.2 i ts[i] x (Ê hi) S;show⟨ts[i],Ê hi,ht,.inr ⟨kvs,Ye x,ts[i],hd,Z,ht,(hv x<|Ð S).symm⟩⟩
 let hix:∀(i:Nat) (t:ai),ts[i]?=À t->(ts.map V.ref)[i]?=À (.ref t):=λi t e=>by rw[Ï,e];rfl
 let hl:(ts.map V.ref).length=w.length:=by rw[Ä,hn.1]
 show⟨_,Z,b,_,Z,.inr<|cN.of hb,Z,_,Z,?_⟩;rw[hl]
 match w,h1,h2,get,q with
 |[x],_,_,get,q=>
  let⟨t,et,_,gt⟩:=get 0 x Z;let e1:XJ U [x]=U x:=Nat.mul_one _;rw[e1]at q;show Y9 ⟨_,Z,_,Z,b,_,0,_,Z,Z,cN.of hb,ZB (j:=0)<|hix 0 t et,d,_,Z,gt,q⟩
 |[x,y],_,_,get,q=>
  let⟨t,et,_,gt⟩:=get 0 x Z;let⟨t2,RN,_,RP⟩:=get 1 y Z;let e1:XJ U [x,y]=U x*U y:=by
   change U x*(U y*1)=_;rw[Nat.mul_one]
  rw[e1,<-Jm]at q;show Y5 ⟨_,Z,tl,B,_,Z,htl,Z,_,Z,_,Z,b,_,0,_,Z,Z,cN.of hb,ZB (j:=0)<|hix 0 t et,d,_,Z,gt,_,Z,_,Z,b,_,1,_,Z,Z,cN.of hb,ZB (j:=1)<|hix 1 t2 RN,d,_,Z,RP,_,_,_,Z,Zz _,Zw _,Zz _,Zw _,q⟩
def JZ:YJ [aI,bq,"ways","value","way"] [aI,bq,"ways"]<|YH Xs:=dE
def YD4(T:Txt K mg C)(dI:ZN P w K mg cj 2 "value_of_way" [aI,bq,"way"]<|YOi C.Many)(aA:Yv P w K mg cj 1 C.Many "nothing" [av]<|rS<|.int 0)(aQ:Yv P w K mg cj 1 C.Many "either" [av,cK,cS]<|rL<|λx y=>XG<|x+y):Gd P w K mg cj 3 "value_of_ways" "value_of_ways" Xs [aI,bq,"ways"]<|YL1 C.Many:=by
 show eP JZ λH Q E hr h=>?_;let⟨tl,B,d,a,ws,kvs,U,Z,htl,hd,hv,⟨bs,ha,wl⟩,q⟩:=h;let hu:=Zd hr;show fO ?_;show⟨_,(YE ⟨(c_ 3 JZ<|fW (J 0) T.bU aA hr YO)⟩
  (YE ⟨(fM (ZJ K rfl<|J 2) (fm 4 JZ)<|YD<|c_ 3 JZ<|fJ (J 0) T.bU aQ hr YO<|YI (J 3)<|aY<|eT dI hr YO<|YI (J 0)<|YI (J 1)<|aY<|J 4)⟩
  (Y8 ⟨(YN<|J 3)⟩))),?_⟩
 show fb λu eu=>?_;show⟨_,Z,tl,B,_,Z,htl,Z,_,Z,?_⟩;change u _ _ _;subst eu;show fb λu eu=>?_;show⟨_,Z,a,Z,⟨_,bG.of ha⟩,ZL (K:=K) (a:=a) (xs:=bs.map V.ref) (λi σ H2=>H2=H/\∃v,σ=[À<|.ref tl,À<|.ref d,À<|.ref a,À<|.int<|Yk<|Yt (ws.take i)<|XJ U,v]) ⟨Z,Á,Z⟩ ?_ ?_ ?_⟩;rintro i σ H2 _ ⟨rfl,_⟩;show bG.of ha;rintro i v σ H2 hi ⟨rfl,v4,rfl⟩;rw[Ï]at hi;let⟨b,hbi,Z⟩:=YPk.mp hi;let Qe:i<ws.length:=by rw[<-wl.1];show(YOx.mp hbi).1
 let⟨ts,tQ,lF⟩:=wl.2 i b ws[i] hbi<|Ê Qe;let⟨k1,k2,k3⟩:=hv ws[i]<|Ą Qe;show⟨_,Z,tl,B,_,Z,htl,Z,_,Z,_,Z,_,Z,_,Z,tl,B,d,b,ts,ws[i],kvs,U,Z,htl,hd,k3,tQ,lF,k1,k2,_,_,_,Z,Zz _,Zw _,Zz _,Zw _,?_⟩;let e1:Yt (ws.take<|i+1) (XJ U)=Yt (ws.take i) (XJ U)+XJ U ws[i]:=by
  rw[â,Ê Qe,Jk];rfl
 rw[ĭ,<-e1];show⟨Z,_,Z⟩;rintro σ H2 ⟨rfl,v4,rfl⟩;rw[Ä,wl.1,æ];change u _ _ _;subst eu;show⟨_,Z,q⟩
def YA5:YJ [aS,ar,aI,bq,ay,"ways"] [aS,ar,aI,bq,ay]<|YH Xt:=dE
def YD5(T:Txt K mg C)(dq:ZN P w K mg cj 3 "value_of_ways" [aI,bq,"ways"]<|YL1 C.Many)(bz:Yv P w K mg cj 2 C.Wood "ways" [av,ay]<|ņ C.Wood)(dJ:Yv P w K mg cj 1 C.Many "of_rule" [av,cb,"worth"]<|YNw<|.int 1)(b_:Yv P w K mg cj 1 C.Many "blank" [av]<|rS<|.int 1):Gd P w K mg cj 4 "value_of_node" "value_of_node" Xt [aS,ar,aI,bq,ay]<|YL2 C.Many C.Wood:=by
 show eP YA5 λH Q E hr h=>?_;let⟨wd,l,tl,B,d,t,xs,g,z,DS,top,kvs,U,y,Z,wa,hl,hds,htl,hd,ht,hy,hv,q⟩:=h;let hu:=Zd hr;let hU:=hr.units;show fO ?_;show⟨_,(YE ⟨(c_ 5 YA5<|fJ (J 0) T.ak bz hr YO<|aY<|J 4)⟩
  (YE ⟨(Yq (Yg (YFI K Z hU) (J 5) (Y6<|aY<|ZE Ys)<|Yd _) (YD<|YN<|eT dq hr YO<|YI (J 2)<|YI (J 3)<|aY<|J 5) YT)⟩
  (YE ⟨(Yq (Yg iX (fA K T.aJ<|J 4) YC<|Yd _) (YD<|YN<|fJ (J 2) T.bU dJ hr YO<|YI (eL K (J 4) YC)<|aY<|eL K (fN K (J 1)<|eL K (J 4) YC) YC) YT)⟩
  (Y8 ⟨(YN<|fW (J 2) T.bU b_ hr YO)⟩)))),?_⟩
 let⟨dw,lw,an,af,ae,rv,xw,S,_⟩:=wa.ex;show fb λu eu=>?_;show⟨_,Z,wd,dw,_,Z,S,Z,_,Z,wd,t,g,z,DS,top,Ye y,Z,wa,ht,λnd e DU a H5 h1 h2 h3 h4=>?_,λhno=>absurd rfl<|hno y hy⟩;cases J8 e;change u _ _ _;subst eu;show fb λu eu=>?_;show⟨_,Z,YK (by decide),λe1 zM=>⟨kN,λe2 wK=>?_⟩⟩;let u1:=(YG.upd (o:=.tup []) zM).trans<|YG.upd (o:=.lst [.ref e1]) wK;let p1:YU H<|upd (upd H5 e1<|.tup []) e2<|.lst [.ref e1]:=(h4.trans<|YU.upd rfl).trans<|YU.upd rfl;let jY:zI (upd (upd H5 e1<|.tup []) e2<|.lst [.ref e1]) a<|Yf g z.cps.size (dX DS) y:=by
  let⟨bs,hb,wl⟩:=h1;show⟨bs,u1 _ _ hb,wl.keep λc ys e=>u1 _ _ e⟩
 let d2:cx (upd (upd H5 e1<|.tup []) e2<|.lst [.ref e1]) (.ref e2)<|.lst [.tup []]:=.lst (.inl YA)<|.cons (.tup (YG.upd (o:=.lst [.ref e1]) wK _ _ YA) .nil) .nil;let s1:=h3.trans u1;revert jY d2 s1 p1;generalize upd (upd H5 e1<|.tup []) e2 (.lst [.ref e1])=H7;intro p1 jY d2 s1;show⟨sL<|Yf g z.cps.size (dX DS) y,.lst [.tup []],YOd jY,d2,(YLu _).1,Z,(YLu _).2,_,Z,?_⟩;rw[pE];let qf:=q H7 s1 p1;show X4 (λhne=>?_) λhne=>?_;let hne':Yf g z.cps.size (dX DS) y≠[[]]:=of_decide_eq_false<|YCl hne;show⟨_,Z,_,Z,_,Z,tl,B,d,a,_,kvs,U,Z,s1 _ _ htl,oF hd s1,λw hw=>⟨(YFt hne' w hw).1,(YFt hne' w hw).2,λx S=>hv x<|List.mem_flatten.mpr ⟨w,hw,S⟩⟩,jY,qf⟩;let he:Yf g z.cps.size (dX DS) y=[[]]:=fq<|ϣ hne;rw[he]at qf;let qf:Q (.int 1) H7:=qf;change u _ _ _;subst eu;show⟨_,Z,t,_,Z,.inr<|cN.of<|s1 _ _ ht,Z,_,Z,?_⟩;cases y with
 |part p i j=>show Y5 ⟨_,Z,tl,B,_,Z,s1 _ _ htl,Z,_,Z,qf⟩
 |beg r dd i j=>
  let⟨⟨ru,er,_⟩,_⟩:=wa.lg _ hy;let⟨v,RQ,dv⟩:=hds.getD (i:=r) (d:=Za ru) (by rw[Ï,er];rfl);let⟨rt,rp,Z,RT,_⟩:=ώ dv;show Y9 ⟨_,Z,tl,B,_,Z,s1 _ _ htl,Z,_,Z,t,_,0,_,Z,Z,cN.of<|s1 _ _ ht,Z,_,Z,_,Z,t,_,0,_,Z,Z,cN.of<|s1 _ _ ht,Z,l,_,_,_,Z,Z,bG.of<|s1 _ _ hl,ZB RQ,rt,_,2,_,Z,Z,cN.of<|s1 _ _ RT,Z,_,_,_,Z,qf⟩
noncomputable abbrev XD:Stmt:=top 53
noncomputable abbrev π:Stmt:=top 54
noncomputable abbrev Τ:Stmt:=top 55
@[ext]def gl(T:Nd->Nat)(DZ:ac Nd):ac<|ac db×V:=DZ.map λy=>(Ye y,.int<|Yk<|T y)
def Κ(T:Nd->Nat):∀{DZ:ac Nd},y∉DZ->Yj (gl T DZ) (Ye y)=Á
 |[],_=>rfl
 |x::DZ,h=>by
  change Yj ((Ye x,V.int<|Yk<|T x)::gl T DZ) (Ye y)=Á;rw[ZZ λe=>h (by rw[J8 e];show É ..)];show Κ T λz=>h<|Ç _ z
def ss(T:Nd->Nat):∀{DZ:ac Nd},y∈DZ->Yj (gl T DZ) (Ye y)=À (.int<|Yk<|T y)
 |x::DZ,h=>by
  change Yj ((Ye x,V.int<|Yk<|T x)::gl T DZ) (Ye y)=_;by_cases e:x=y;subst e;show Zh Z;rw[ZZ λz=>e<|J8 z];show ss T<|(YO9.mp h).resolve_left λz=>e z.symm
structure ġ(g:YS)(n:Nat)(DS DZ:List Nd):Prop where
 nd:DZ.Nodup
 mem:∀x,x∈DZ<->x∈DS
 ord:∀A x DY,DZ=A++x::DY->∀y∈(Yf g n (dX DS) x).flatten,y∈A
inductive YL4(CM CW CE:Addr)(vs:List V)(H:Hp)(Q:VK)(E:XK):Prop
 |mk (wd tl B:Addr)(g:YS)(z:Str)(DS:List Nd)(top:Option Nd)(F:Nd->Bool):vs=[.ref wd,.ref tl]->H tl=À (.ins CM B [])->XV CW H wd g z DS top->ZF g z.cps.size F top DS->DS.length<=2900000->YL H->(∀a o T DZ H',ġ g z.cps.size DS DZ->Zi g z.cps.size DS T->H a=Á->H' a=À (.frz o (.dT (gl T DZ)))->YG H H'->YL H'->Q (.ref a) H')->(∀H' r,Xo (gE g z.cps.size DS) DS r->YG H H'->E (.ref CE) Á H')->YL4 CM CW CE vs H Q E
@[ext]def ŀ(CM CW CE:ai):Sp:=λvs H Q E=>YL4 CM CW CE vs H Q E
@[ext]def oT(T:Nd->Nat):ag Nd->Nat
 |none=>0
 |some t=>T t
inductive YJb(CM CW CE:Addr)(vs:List V)(H:Hp)(Q:VK)(E:XK):Prop
 |mk (wd tl B:Addr)(g:YS)(z:Str)(DS:List Nd)(top:Option Nd)(F:Nd->Bool):vs=[.ref wd,.ref tl]->H tl=À (.ins CM B [])->XV CW H wd g z DS top->ZF g z.cps.size F top DS->DS.length<=2900000->YL H->(∀T DZ H',ġ g z.cps.size DS DZ->Zi g z.cps.size DS T->YG H H'->YL H'->Q (.int (Yk (oT T top))) H')->(∀H' r,Xo (gE g z.cps.size DS) DS r->YG H H'->E (.ref CE) Á H')->YJb CM CW CE vs H Q E
@[ext]def YL5(CM CW CE:ai):Sp:=λvs H Q E=>YJb CM CW CE vs H Q E
inductive YFu(CW:Addr)(vs:List V)(H:Hp)(Q:VK):Prop
 |mk (wd:Addr)(g:YS)(z:Str)(DS:List Nd)(top:Option Nd)(F:Nd->Bool):vs=[.ref wd]->XV CW H wd g z DS top->ZF g z.cps.size F top DS->DS.length<=2900000->YL H->(∀T DZ H',ġ g z.cps.size DS DZ->Zi g z.cps.size DS T->YG H H'->YL H'->Q (.int (Yk (oT T top))) H')->(∀H' r,Xo (gE g z.cps.size DS) DS r->YG H H'->YL H'->Q .non H')->YFu CW vs H Q
@[ext]def YHI(CW:ai):Sp:=λvs H Q E_=>YFu CW vs H Q
def Zj:YJ [aS,aI,"walk",ar,bq,ay] [aS,aI]<|YH XD:=dE
def YC1(T:Txt K mg C)(cR:ZN P w K mg cj 7 "walked_to_ring" [aS]<|YJY C.Walk C.Wood)(du:ZN P w K mg cj 4 "value_of_node" [aS,ar,aI,bq,ay]<|YL2 C.Many C.Wood)(az:Yv P w K mg cj 1 C.Wood fw [av]<|Ŗ C.Wood):Gd P w K mg (fe P w) 8 fg fg XD [aS,aI]<|ŀ C.Many C.Wood C.Endless:=by
 show j1 Zj λH Q E hr h=>?_;let⟨wd,tl,B,g,z,DS,top,F,Z,htl,wa,wk,hnl,hp,q1,q2⟩:=h;let hu:=Zd hr;show fO ?_;show⟨_,(YE ⟨(c_ 2 Zj<|eT cR hr YO<|aY<|J 0)⟩
  (YE ⟨(Yq (Yg BB (df K<|J 2) Z6<|Yd _) (YD<|JM Yy T.lV rfl (by rfl) T.jB<|aY ZX) YT)⟩
  (YE ⟨(c_ 3 Zj<|fW (J 0) T.ak az hr YO)⟩
  (YE ⟨(c_ 4 Zj J5)⟩
  (YE ⟨(sQ PassesOwn.leaving Z (ZJ K rfl<|df K<|J 2) (fm 5 Zj)<|YD<|J4 hu (J 4) (J 5) (eT du hr YO<|Yz (J 0)<|Yz (J 3)<|Yz (J 1)<|Yz (J 4)<|Yz (J 5) Ys) rfl)⟩
  (Y8 ⟨(YN<|vw<|ϧ<|J 4)⟩)))))),?_⟩
 show⟨_,Z,wd,g,z,DS,top,F,Z,wa,wk,hnl,λx L a2 a3 a4 a5 us ms st ld left met H1 w1 hend=>?_⟩;let⟨vy,mv,S,hmt⟩:=w1.ws.x_;show⟨_,Z,x,C.Walk,vy,_,_,Z,S,T.aq,T.cW,Z,Z,_,Z,?_⟩;let sm:=w1.ws.sm;dsimp only;rcases hmt with ⟨em,rfl,ems⟩|⟨rg,b,em,rfl,ems,hb⟩
 let⟨Z,hall⟩:=hend em;let w2:=w1.wk.calm hall;let e:(left.filter λz=>!ld z)=left:=List.filter_eq_self.mpr λy _=>by rw[w1.wk.m0 em y];rfl
 rw[e]at w2;let hO:ġ g z.cps.size DS left:=⟨w2.nd,λy=>⟨w2.sub y,hall y⟩,w2.ord⟩;let⟨Tc,hT⟩:=xW hO.nd hO.mem hO.ord;rw[dA Z];show Y5 ?_;let⟨dw,lw,an,af,ae,rv,xw,j_,_⟩:=wa.ex;show⟨_,Z,wd,dw,_,Z,sm _ _ j_,Z,wd,g,z,DS,top,Z,wa.same sm,λl xs H2 nl hl hds s2 _ d hd=>?_⟩;let Qf:=sm.trans s2;let⟨ts,e5,n5⟩:=w1.ws.h5;let u3:=YG.upd (o:=.dT []) hd;let tslen:ts.length=left.length:=n5.1;let hleft:left.length<=2900000:=Ú (ZM hO.nd λy hy=>(hO.mem y).mp hy) hnl;dsimp only[Y7];show⟨_,Z,x,C.Walk,vy,_,_,Z,u3 _ _<|s2 _ _ S,T.aq,T.gh,Z,a5,Z,⟨_,bG.of<|u3 _ _<|s2 _ _ e5⟩,ZL (K:=K) (a:=a5) (xs:=ts.map V.ref) (λi σ G=>YG H2 G/\G d=À (.dT<|gl Tc<|left.take i)/\∃v,σ=[À<|.ref wd,À<|.ref tl,À<|.ref x,À<|.ref l,À<|.ref d,v])
  ⟨u3,YA,Á,Z⟩ ?_ ?_ ?_⟩
 rintro i σ G _ ⟨s,_⟩;show bG.of<|s _ _<|s2 _ _ e5;rintro i v σ G hi ⟨s,gd,v5,rfl⟩;rw[Ï]at hi;let⟨t,Wc,Z⟩:=YPk.mp hi;let hil:i<left.length:=by rw[<-tslen];show(YOx.mp Wc).1
 obtain⟨y,hy⟩:∃y,left[i]?=À y:=⟨_,Ê hil⟩;let ht:=s _ _<|s2 _ _<|n5.2 i t y Wc hy;let uG:left=left.take i++y::left.drop (i+1):=by
  have:=Ĝ i left;rw[í hil,(YOx.mp hy).2]at this;show this.symm
 let Wd:y∈DS:=(hO.mem y).mp<|Ð hy;let RV:y∉left.take i:=λz=>by
  have:=hO.nd;rw[uG]at this;show(YPo.mp this).2.2 y z y (É ..) Z
 let sG:=Qf.trans s;show⟨_,Z,_,Z,_,Z,_,Z,_,Z,wd,l,tl,B,d,t,xs,g,z,DS,top,gl Tc<|left.take i,Tc,y,Z,wa.same sG,s _ _ hl,hds.same s,sG _ _ htl,.inl gd,ht,Wd,λx S=>ss Tc<|hO.ord _ _ _ uG x S,λG' s' _=>?_⟩;show⟨_,Z,_,Z,d,_,Z,h_.t (s' _ _ gd) (s' _ _ ht) ?_,?_⟩;unfold gl;rw[Ä,ú,sizeLine_eq];lia;show⟨(s.trans s').put hd,?_,_,Z⟩;rw[YA,Ī _<|Κ Tc RV,<-hT.eq y Wd,â,hy];unfold gl;rw[Î];rfl;rintro σ G ⟨s,gd,v5,rfl⟩;rw[Ä,tslen,æ]at gd;let hdH:H d=Á:=Qf.free hd;show⟨_,Z,d,_,gd,λo=>q1 d o Tc left _ hO hT hdH (BM YA Z) (YIc ((Qf.trans s).put hdH) hp)<|YGk _⟩;rw[eI (λh=>by cases h)];show Y9 ⟨YK (by decide),q2 H1 rg (w1.wk.m1 rg em) sm⟩
def YJc:YJ [aS,aI,bq] [aS,aI]<|YH π:=dE
def YOj(T:Txt K mg C)(aB:ZN P w K mg (fe P w) 8 fg [aS,aI]<|ŀ C.Many C.Wood C.Endless)(aH:Yv P w K mg cj 1 C.Wood "top" [av]<|Dh C.Wood)(aA:Yv P w K mg cj 1 C.Many "nothing" [av]<|rS<|.int 0):Gd P w K mg (fe P w) 9 "total" "total" π [aS,aI]<|YL5 C.Many C.Wood C.Endless:=by
 show j1 YJc λH Q E hr h=>?_;let⟨wd,tl,B,g,z,DS,top,F,Z,htl,wa,wk,hnl,hp,q1,q2⟩:=h;let hu:=Zd hr;show fO ?_;show⟨_,(YE ⟨(c_ 2 YJc<|eT aB hr Yy.on<|YI (J 0)<|aY<|J 1)⟩
  (Y8 ⟨(YN<|YEy (Yg Dx (fW (J 0) T.ak aH hr YO) Z6<|Yd _) (fW (J 1) T.bU aA hr YO)<|JT hu (J 2) (fW (J 0) T.ak aH hr YO)<|λ_ _=>rfl)⟩)),?_⟩
 show⟨_,Z,_,Z,wd,tl,B,g,z,DS,top,F,Z,htl,wa,wk,hnl,hp,λa o U DZ H1 hO hT na ga s1 p1=>?_,q2⟩;dsimp only[Y7];let⟨dw,lw,an,af,ae,rv,xw,j_,_⟩:=wa.ex;let lW:=s1 _ _ j_;let qf:=q1 U DZ H1 hO hT s1 p1;show⟨_,Z,wd,dw,_,Z,lW,Z,wd,g,z,DS,top,Z,wa.same s1,λv hv=>⟨Z,_,Z,?_⟩⟩;rcases hv with ⟨e,rfl⟩|⟨x,t,e,rfl,ht⟩
 rw[dA Z];rw[e]at qf;show Y9 ⟨_,Z,tl,B,_,Z,s1 _ _ htl,Z,_,Z,qf⟩;rw[eI (λh=>by cases h)];show Y5 ⟨_,Z,_,Z,wd,dw,_,Z,lW,Z,wd,g,z,DS,top,Z,wa.same s1,λv hv=>?_⟩;rcases hv with ⟨e2,_⟩|⟨x2,t2,e2,rfl,mG⟩
 rw[e]at e2;cases e2;rw[e]at e2;cases e2;rw[e]at qf;show⟨a,_,Z,.inr ⟨_,Ye x,t2,.inr ⟨o,ga⟩,Z,mG,(ss U<|(hO.mem x).mpr<|wk.tp x e).symm⟩,qf⟩
def YJd:YJ [aS] [aS]<|YH Τ:=dE
def YJe(T:Txt K mg C)(jJ:ZN P w K mg (fe P w) 9 "total" [aS,aI]<|YL5 C.Many C.Wood C.Endless):Gd P w K mg cj 10 "how_many" "how_many" Τ [aS]<|YHI C.Wood:=by
 show eP YJd λH Q E hr h=>?_;let⟨wd,g,z,DS,top,F,Z,wa,wk,hnl,hp,q1,q2⟩:=h;show⟨_,(YD<|YLC rfl rfl rfl (YIW<|pz<|pxU jJ hr<|YI (J 0)<|aY<|Cm T.iy (by rfl) T.jg)<|YLE (C:=C.Endless) rfl (by rfl) T.jB (λe=>(YD<|YN<|vw Z6)) YNr),?_⟩;show⟨_,Z,λtl B h1 h2 h3=>?_⟩;let s0:YG H<|upd (upd H B<|.own tl) tl<|.ins C.Many B []:=(YG.upd h2).put h1;show⟨wd,tl,B,g,z,DS,top,F,Z,YA,wa.same s0,wk,hnl,(hp.upd Z).upd Z,λU DZ H1 hO hT s1 p1=>q1 U DZ H1 hO hT (s0.trans s1) p1,λH1 r hr s1=>.inl ⟨T.xEE,q2 (kg H1) r hr (YIc (s0.trans s1) hp)<|YGk _⟩⟩
noncomputable abbrev Xc:Stmt:=Ym (top 41) 0
noncomputable abbrev Jw:Stmt:=Ym (top 41) 1
noncomputable abbrev XE:Stmt:=Ym (top 41) 2
noncomputable abbrev Xu:Stmt:=Ym (top 41) 3
noncomputable abbrev JI:Stmt:=Ym (top 41) 4
structure rW(C CM:Addr)(H:Hp)(x:Addr)(g:YS)(T:Nd->Nat)(DZ:List Nd):Prop where
 ex:∃(B l tl dt d an bd:Addr) (o ob:Obj) (xs:List V) (kb:List<|List db×V),H x=À (.ins C B [(ar,.ref l),(aI,.ref tl),(bq,.ref d),(bi,.ref an),(cw,.ref bd)])/\H l=À (.lst xs)/\Ya H xs (g.map Za)/\H tl=À (.ins CM dt [])/\H d=À (.frz o<|.dT<|gl T DZ)/\qB H an g/\H bd=À (.frz ob<|.dT kb)/\
  ∀t,(Yj kb (gi t)=Á/\Jl DZ t=[])\/∃c vs,Yj kb (gi t)=À (.ref c)/\H c=À (.lst vs)/\XL H vs (Jl DZ t) λb=>Yk<|T<|.part t.1 b t.2
def rW.same(h:rW C CM H x g T DZ)(s:YG H H'):rW C CM H' x g T DZ:=by
 let⟨B,l,tl,dt,d,an,bd,o,ob,xs,kb,e1,e2,e3,e4,e5,e6,e7,e8⟩:=h.ex;show⟨B,l,tl,dt,d,an,bd,o,ob,xs,kb,s _ _ e1,s _ _ e2,e3.same s,s _ _ e4,s _ _ e5,e6.same s,s _ _ e7,λt=>(e8 t).imp id λ⟨c,vs,z1,z2,z3⟩=>⟨c,vs,z1,s _ _ z2,z3.same s⟩⟩
inductive YHJ(C CM CW:Addr)(vs:List V)(H:Hp)(Q:VK):Prop
 |mk (H0:Hp)(x wd tl dt d B:Addr)(o:Obj)(g:YS)(z:Str)(DS:List Nd)(top:Option Nd)(T:Nd->Nat)(DZ:List Nd):vs=[.ref x,.ref wd,.ref tl,.ref d]->H x=À (.ins C B [])->H0 x=Á->YG H0 H->YL H->XV CW H0 wd g z DS top->H0 tl=À (.ins CM dt [])->H0 d=À (.frz o (.dT (gl T DZ)))->DZ.Nodup->DZ.length<=2900000->(∀H',rW C CM H' x g T DZ->YG H0 H'->YL H'->Q .non H')->YHJ C CM CW vs H Q
@[ext]def ϐ(C CM CW:ai):Sp:=λvs H Q E_=>YHJ C CM CW vs H Q
def YAj:YJ [av,aS,aI,bq,ay] [av,aS,aI,bq]<|YH Xc:=dE
def YDV(T:Txt K mg C)(aU:ZN P w K mg cj 1 fu [ar]<|Ż)(az:Yv P w K mg cj 1 C.Wood fw [av]<|Ŗ C.Wood):Gd P w K mg cj 2 "__init__" "Rests.__init__" Xc [av,aS,aI,bq]<|ϐ C.Rests C.Many C.Wood:=by
 show eP YAj λH Q E hr h=>?_;let⟨H0,x,wd,tl,dt,d,B,o,g,z,DS,top,U,DZ,Z,S,nx,s0,hp,wa,htl,hd,hnd,kI,q⟩:=h;let hu:=Zd hr;show fO ?_;show⟨_,(YE ⟨(fy K (J 0)<|fW (J 1) T.ak az hr YO)⟩
  (YE ⟨(fy K (J 0)<|J 2)⟩
  (YE ⟨(fy K (J 0)<|J 3)⟩
  (YE ⟨(fy K (J 0)<|eT aU hr YO<|aY<|df K<|J 0)⟩
  (YE ⟨(fy K (J 0) J5)⟩
  (Y8 ⟨(xE<|fM (YIx<|J 3) (fm 4 YAj)<|YD<|Yq (Yg iX (fA K T.aJ<|J 4) YC<|Yd _) (YD<|YW<|fP K (ľ hu (df K<|J 0) (ZE<|YI (eL K (J 4) YC)<|aY<|eL K (J 4) YC) (Y6 Ys) ⟨Z,Z,Z,Z⟩)<|ZE<|YI (eL K (J 4) YC)<|aY<|JT hu (J 3) (J 4)<|λ_ _=>rfl) YT)⟩)))))),?_⟩
 let⟨dw,lw,an0,af,ae,rv,xw,j_,_⟩:=wa.ex;show⟨_,Z,wd,dw,_,Z,s0 _ _ j_,Z,wd,g,z,DS,top,Z,wa.same s0,λl xs H1 nl hl hds s1 RW=>⟨_,Z,x,C.Rests,B,_,Z,s1 _ _ S,T.au,T.cI,by decide,?_⟩⟩;let i1:Y1 H1<|upd H1 x<|.ins C.Rests B<|Yh ar (.ref l) []:=Y1.set<|s1 _ _ S;let t1:YG H0<|upd H1 x<|.ins C.Rests B<|Yh ar (.ref l) []:=(s0.trans s1).put nx;let p1:YL<|upd H1 x<|.ins C.Rests B<|Yh ar (.ref l) []:=(YL.new hp RW).upd rfl;let x1:upd H1 x (.ins C.Rests B<|Yh ar (.ref l) []) x=À (.ins C.Rests B [(ar,.ref l)]):=YA;let l1:=i1.lst hl;let d1:=iN i1 hds;revert t1 p1 x1 l1 d1;generalize upd H1 x (.ins C.Rests B<|Yh ar (.ref l) [])=G1;intro t1 p1 x1 l1 d1;show⟨_,Z,_,Z,x,C.Rests,B,_,Z,x1,T.au,T.aD,(show 1<1000 by decide),?_⟩;let i2:Y1 G1<|upd G1 x<|.ins C.Rests B<|Yh aI (.ref tl) [(ar,.ref l)]:=Y1.set x1;let t2:YG H0<|upd G1 x<|.ins C.Rests B<|Yh aI (.ref tl) [(ar,.ref l)]:=t1.put nx;let p2:YL<|upd G1 x<|.ins C.Rests B<|Yh aI (.ref tl) [(ar,.ref l)]:=p1.upd rfl;let x2:upd G1 x (.ins C.Rests B<|Yh aI (.ref tl) [(ar,.ref l)]) x=À (.ins C.Rests B [(ar,.ref l),(aI,.ref tl)]):=YA;let l2:=i2.lst l1;let d2:=iN i2 d1;revert t2 p2 x2 l2 d2;generalize upd G1 x (.ins C.Rests B<|Yh aI (.ref tl) [(ar,.ref l)])=G2;intro t2 p2 x2 l2 d2;show⟨_,Z,_,Z,x,C.Rests,B,_,Z,x2,T.au,T.cJ,(show 2<1000 by decide),?_⟩;let i3:Y1 G2<|upd G2 x<|.ins C.Rests B<|Yh bq (.ref d) [(ar,.ref l),(aI,.ref tl)]:=Y1.set x2;let t3:YG H0<|upd G2 x<|.ins C.Rests B<|Yh bq (.ref d) [(ar,.ref l),(aI,.ref tl)]:=t2.put nx;let p3:YL<|upd G2 x<|.ins C.Rests B<|Yh bq (.ref d) [(ar,.ref l),(aI,.ref tl)]:=p2.upd rfl;let x3:upd G2 x (.ins C.Rests B<|Yh bq (.ref d) [(ar,.ref l),(aI,.ref tl)]) x=À (.ins C.Rests B [(ar,.ref l),(aI,.ref tl),(bq,.ref d)]):=YA;let l3:=i3.lst l2;let d3:=iN i3 d2;revert t3 p3 x3 l3 d3;generalize upd G2 x (.ins C.Rests B<|Yh bq (.ref d) [(ar,.ref l),(aI,.ref tl)])=G3;intro t3 p3 x3 l3 d3;show⟨_,Z,x,C.Rests,B,_,_,Z,x3,T.au,T.cI,Z,l,xs,g,Z,l3,d3,wa.gr,p3,λan H4 hna s4 p4=>⟨_,Z,x,C.Rests,B,_,Z,s4 _ _ x3,T.au,T.eG,(show 3<1000 by decide),?_⟩⟩;let i4:Y1 H4<|upd H4 x<|.ins C.Rests B<|Yh bi (.ref an) [(ar,.ref l),(aI,.ref tl),(bq,.ref d)]:=Y1.set<|s4 _ _ x3;let t4:YG H0<|upd H4 x<|.ins C.Rests B<|Yh bi (.ref an) [(ar,.ref l),(aI,.ref tl),(bq,.ref d)]:=(t3.trans s4).put nx;let q4:YL<|upd H4 x<|.ins C.Rests B<|Yh bi (.ref an) [(ar,.ref l),(aI,.ref tl),(bq,.ref d)]:=p4.upd rfl;let x4:upd H4 x (.ins C.Rests B<|Yh bi (.ref an) [(ar,.ref l),(aI,.ref tl),(bq,.ref d)]) x=À (.ins C.Rests B [(ar,.ref l),(aI,.ref tl),(bq,.ref d),(bi,.ref an)]):=YA;let j4:=(Y1.of s4).trans i4;let l4:=j4.lst l3;let d4:=iN j4 d3;let n4:=hna.sameI i4;revert t4 q4 x4 l4 d4 n4;generalize upd H4 x (.ins C.Rests B<|Yh bi (.ref an) [(ar,.ref l),(aI,.ref tl),(bq,.ref d)])=G4;intro t4 q4 x4 l4 d4 n4;intro bd hbd;let Qg:x≠bd:=YV x4 hbd;let u5:=YG.upd (o:=.dT []) hbd;show⟨_,Z,x,C.Rests,B,_,Z,u5 _ _ x4,T.au,T.cZ,(show 4<1000 by decide),?_⟩;dsimp only;let b5:j3 (del (upd (upd G4 bd<|.dT []) x<|.ins C.Rests B<|Yh cw (.ref bd) [(ar,.ref l),(aI,.ref tl),(bq,.ref d),(bi,.ref an)]) bd) (upd (upd G4 bd<|.dT []) x<|.ins C.Rests B<|Yh cw (.ref bd) [(ar,.ref l),(aI,.ref tl),(bq,.ref d),(bi,.ref an)]) bd (λ_=>Á) (λ_=>[]) 0:=
  ⟨X5 _ _,⟨[],by rw[YB Qg.symm,YA],Å _,λt=>.inl ⟨Z,Z⟩⟩,(λa t e=>nomatch e),J6,λt=>Å _⟩
 let i5:Y1 G4<|upd (upd G4 bd<|.dT []) x<|.ins C.Rests B<|Yh cw (.ref bd) [(ar,.ref l),(aI,.ref tl),(bq,.ref d),(bi,.ref an)]:=(Y1.of u5).trans<|Y1.set<|u5 _ _ x4;let t5:YG H0<|upd (upd G4 bd<|.dT []) x<|.ins C.Rests B<|Yh cw (.ref bd) [(ar,.ref l),(aI,.ref tl),(bq,.ref d),(bi,.ref an)]:=(t4.trans u5).put nx;let x5:upd (upd G4 bd<|.dT []) x (.ins C.Rests B<|Yh cw (.ref bd) [(ar,.ref l),(aI,.ref tl),(bq,.ref d),(bi,.ref an)]) x=À (.ins C.Rests B [(ar,.ref l),(aI,.ref tl),(bq,.ref d),(bi,.ref an),(cw,.ref bd)]):=YA;let p5:∀b o,upd (upd G4 bd<|.dT []) x (.ins C.Rests B<|Yh cw (.ref bd) [(ar,.ref l),(aI,.ref tl),(bq,.ref d),(bi,.ref an)]) b=À o->b=bd\/Yx o=Â:=λb o e=>by
  rcases Yp Z b o e with e|e
  by_cases hb:b=bd;show .inl hb;rw[YB hb]at e;show .inr<|q4 b o e;show .inr e
 let yG:H0 bd=Á:=t4.free hbd;revert b5 t5 x5 p5 i5;generalize upd (upd G4 bd<|.dT []) x (.ins C.Rests B<|Yh cw (.ref bd) [(ar,.ref l),(aI,.ref tl),(bq,.ref d),(bi,.ref an)])=G5;intro b5 i5 t5 x5 p5;let sB0:YG H0<|del G5 bd:=λb o e=>by rw[ZY (λz=>by rw[z,yG]at e;cases e)];show t5 _ _ e
 let hdB:∀{G:Hp},YG (del G5 bd) G->G d=À (.frz o<|.dT<|gl U DZ):=λ{G} s=>s _ _<|sB0 _ _ hd;let kl:(gl U DZ).length=DZ.length:=by unfold gl;rw[Ä]
 show⟨_,Z,d,o,gl U DZ,Z,t5 _ _ hd,YG0 (d:=d) (o:=o) (kvs:=gl U DZ) (λi σ H2=>∃(own:ai->ag (am×Nat)) (v4:ag V) (N:Nat) (E:am×Nat->ac V),σ=[À<|.ref x,À<|.ref wd,À<|.ref tl,À<|.ref d,v4]/\j3 (del G5 bd) H2 bd own E N/\N<=2*i/\(∀t,XL H2 (E t) (Jl (DZ.take i) t) λb=>Yk<|U<|.part t.1 b t.2)/\∀b o,H2 b=À o->b=bd\/Yx o=Â)
  ⟨λ_=>Á,Á,0,λ_=>[],Z,b5,Å _,λt=>⟨Z,λi v b e=>nomatch e⟩,p5⟩ (λi σ H2 _ ⟨own,v4,N,E,_,g2,_⟩=>hdB g2.sm) ?_ ?_⟩
 rintro i kv b σ H2 hi hb2 ⟨own,v4,N,E,rfl,g2,hN,hP,hpl⟩;let hil:i<DZ.length:=by rw[<-kl];show(YOx.mp hi).1
 obtain⟨y,ey⟩:∃y,DZ[i]?=À y:=⟨_,Ê hil⟩;let ekv:kv=(Ye y,.int<|Yk<|U y):=by
  unfold gl at hi;rw[Ï,ey]at hi;show(Û hi).symm
 subst ekv;let hx2:=λ{G:Hp} (s:YG (del G5 bd) G)=>s _ _ (show del G5 bd x=_ from by rw[ZY Qg];show x5);dsimp only[Y7];cases y with
 |beg r dd ii k=>
  let iC:H2 b=À (.tup [nV r,nV dd,nV ii,nV k]):=hb2;show⟨_,Z,b,_,Z,.inr<|cN.of iC,Z,_,Z,?_⟩;rw[show decide (V.int (([nV r,nV dd,nV ii,nV k]:ac V).length:Nat)=V.int 3)=Ã from eI (λh=>by injection h with h;let h:(4:Int)=3:=h;lia)];show Y5 ⟨own,_,N,E,Z,g2,by lia,λt=>by rw[YOV ey];show hP t,hpl⟩
 |part p a c=>
  let iC:H2 b=À (.tup [.str p,nV a,nV c]):=hb2;show⟨_,Z,b,_,Z,.inr<|cN.of iC,Z,_,Z,?_⟩;rw[show decide (V.int (([.str p,nV a,nV c]:ac V).length:Nat)=V.int 3)=Â from dA Z];let⟨i_,e1,e2,e3⟩:=g2.h;show Y9 ⟨_,Z,x,C.Rests,B,_,_,Z,hx2 g2.sm,T.au,T.cZ,Z,bd,Z,.inr ⟨i_,.inl e1⟩,_,Z,b,_,0,_,Z,Z,cN.of iC,Z,_,Z,b,_,2,_,Z,Z,cN.of iC,Z,kC,λtk jc=>?_⟩;show⟨YK<|Ë _,λe he=>?_⟩;let g3:=g2.same<|YG.upd (o:=.tup [.str p,nV c]) jc;let hP3:∀t,XL (upd H2 tk<|.tup [.str p,nV c]) (E t) (Jl (DZ.take i) t) λb=>Yk<|U<|.part t.1 b t.2:=λt=>(hP t).same<|YG.upd jc;let mF:upd H2 tk (.tup [.str p,nV c]) tk=À (.tup<|(gi (p,c)).map kV):=YA;let jZ:upd H2 tk (.tup [.str p,nV c]) b=À (.tup [.str p,nV a,nV c]):=YG.upd jc _ _ iC;let vU:∀b o,upd H2 tk (.tup [.str p,nV c]) b=À o->b=bd\/Yx o=Â:=λb o e=>(Yp Z b o e).elim (hpl b o) .inr;revert g3 mF jZ he hP3 vU;generalize upd H2 tk (.tup [.str p,nV c])=H3;intro he g3 hP3 mF jZ vU;let u4:=YG.upd (o:=.lst []) he;let g4:=g3.same u4;let hP4:∀t,XL (upd H3 e<|.lst []) (E t) (Jl (DZ.take i) t) λb=>Yk<|U<|.part t.1 b t.2:=λt=>(hP3 t).same u4;let jE:=u4 _ _ mF;let hb4:=u4 _ _ jZ;let wX:upd H3 e (.lst []) e=À (.lst []):=YA;let rC:∀b o,upd H3 e (.lst []) b=À o->b=bd\/Yx o=Â:=λb o e=>(Yp Z b o e).elim (vU b o) .inr;let RX:del G5 bd e=Á:=g3.sm.free he;let RZ:own e=Á:=by
   cases ho:own e with
   |none=>rfl
   |some t=>
    let⟨_,wH,z⟩:=g3.on e t ho;rw[he]at z;cases z
  revert g4 hP4 jE hb4 wX rC;generalize upd H3 e (.lst [])=H4;intro g4 hP4 jE hb4 wX rC;let⟨We,f1,f2,f3⟩:=g4.h;let fin:∀(cX:ai->ag (am×Nat)) (N':Nat) (H5:Hp) (a':ai),j3 (del G5 bd) H5 bd cX E N'->N'<=2*i+1->cX a'=À (p,c)->(∀kvs,H5 bd=À (.dT kvs)->Yj kvs (gi (p,c))=À (.ref a'))->H5 a'=À (.lst<|E (p,c))->H5 b=À (.tup [.str p,nV a,nV c])->(∀t,XL H5 (E t) (Jl (DZ.take i) t) λb=>Yk<|U<|.part t.1 b t.2)->(∀b o,H5 b=À o->b=bd\/Yx o=Â)->
    ĸ K "list" ϡ (tC<|.ref a') (lx (AE<|lx (ve (o8 K) (lh 4)<|tC<|V.int 1)<|lx (sw (lh 3)<|lh 4) lP) lP) [À<|.ref x,À<|.ref wd,À<|.ref tl,À<|.ref d,À<|.ref b] H5 λ_ H6=>∃(own:ai->ag (am×Nat)) (v4:ag V) (N:Nat) (E:am×Nat->ac V),[À<|V.ref x,À<|.ref wd,À<|.ref tl,À<|.ref d,À<|.ref b]=[À<|V.ref x,À<|.ref wd,À<|.ref tl,À<|.ref d,v4]/\j3 (del G5 bd) H6 bd own E N/\N<=2*(i+1)/\(∀t,XL H6 (E t) (Jl (DZ.take<|i+1) t) λb=>Yk<|U<|.part t.1 b t.2)/\∀b o,H6 b=À o->b=bd\/Yx o=Â:=λcX N' H5 a' g5 hN' ho' hv' ha' pN hP5 wY=>by
   show⟨.inl ⟨Z,_,bG.of ha'⟩,_,Z,b,_,1,_,Z,Z,cN.of pN,Z,_,Z,_,Z,d,_,Z,.inr ⟨_,Ye<|.part p a c,b,.inr ⟨o,hdB g5.sm⟩,Z,pN,(ss U<|Ð ey).symm⟩,kC,λtp kW=>?_⟩;let u6:=YG.upd (o:=.tup [nV a,.int<|Yk<|U<|.part p a c]) kW;let g6:=(g5.same u6).more ho' (λkvs z=>by
    let hbt:bd≠tp:=by
     let⟨kk,z1,_⟩:=g5.h;show YV z1 kW
    rw[YB hbt]at z;show hv' kvs z)<|.ref tp
   let vK:=u6 _ _ ha';show⟨a',_,_,Z,Z,vK,by rw[sizeLine_eq];have:=g5.le (p,c);lia,cX,_,N'+1,_,Z,g6,by lia,λt=>?_,λb o e=>(Yp Z b o e).elim (λe=>(Yp Z b o e).elim (wY b o) .inr) .inr⟩;let kt:∀c' ys,upd H5 tp (.tup [nV a,.int<|Yk<|U<|.part p a c]) c'=À (.tup ys)->upd (upd H5 tp<|.tup [nV a,.int<|Yk<|U<|.part p a c]) a' (.lst<|E (p,c)++[.ref tp]) c'=À (.tup ys):=λc' ys=>YY vK nofun;rw[YMs ey];by_cases e:t=(p,c);subst e;rw[if_pos Z,if_pos Z];show(((hP5 (p,c)).same u6).snoc YA).keep kt;rw[if_neg e,if_neg e];show((hP5 t).same u6).keep kt
  show⟨We,gi (p,c),tk,f1,Z,jE,by rw[sizeLine_eq];lia,λv hv=>?_,λhv=>?_⟩;rcases f3 (p,c) with z|⟨a',z1,z2,z3⟩
  rw[z.1]at hv;cases hv;rw[z1]at hv;cases hv;show fin own N H4 a' g4 (by lia) z2 (λkvs z=>by rw[f1]at z;cases z;show z1) z3 hb4 hP4 rC;let hE:E (p,c)=[]:=by
   rcases f3 (p,c) with z|⟨a',z1,z2,z3⟩
   show z.2;rw[hv]at z1;cases z1
  let g5:=g4.fresh (t:=(p,c)) wX RX RZ f1 hv;let kb:∀c' o',(∀k,o'≠.dT k)->H4 c'=À o'->upd H4 bd (.dT<|Y3 We (gi (p,c))<|.ref e) c'=À o':=λc' o' n z=>by rw[YB<|Yi z f1<|n _];show z
  show fin _ (N+1) _ e g5 (by lia) (if_pos Z) (λkvs z=>by rw[YA]at z;cases z;rw[Z0,if_pos Z]) (by rw[hE];show kb _ _ (λk z=>nomatch z) wX) (kb _ _ (λk z=>nomatch z) hb4) (λt=>(hP4 t).keep λc' ys=>kb _ _ (λk z=>nomatch z)) λb' o' z=>by
   by_cases hb':b'=bd;show .inl hb';rw[YB hb']at z;show rC b' o' z
 rintro σ H2 ⟨own,v4,N,E,rfl,g2,hN,hP,hpl⟩;rw[kl,æ]at hP;let⟨kvE,e1,e2,e3⟩:=g2.h;show⟨bd,kvE,e1,λob=>?_⟩;let sF:YG (del G5 bd)<|upd H2 bd<|.frz ob<|.dT kvE:=g2.sm.put J6;let gx:∀b o,b≠bd->G5 b=À o->upd H2 bd (.frz ob<|.dT kvE) b=À o:=λb o hb e=>sF _ _ (by rw[ZY hb];show e);let sI:Y1 G4<|upd H2 bd<|.frz ob<|.dT kvE:=λb o n e=>gx b o (λz=>by rw[z,hbd]at e;cases e)<|i5 b o n e;show q _ ⟨B,l,tl,dt,d,an,bd,o,ob,xs,kvE,sF _ _ (by rw[ZY Qg];show x5),sI.lst l4,iN sI d4,sF _ _<|sB0 _ _ htl,hdB sF,n4.sameI sI,YA,λt=>?_⟩ (sB0.trans sF) λb u e=>?_;show(e3 t).imp (λz=>⟨z.1,?_⟩) λ⟨a,z1,z2,z3⟩=>⟨a,E t,z1,by rw[YB<|Yi z3 e1 nofun];show z3,(hP t).keep λc ys z=>by rw[YB<|Yi z e1 nofun];show z⟩;have:=(hP t).1;rw[z.2]at this;show YPq.mp this.symm;by_cases hb:b=bd;subst hb;rw[YA]at e;cases e;rfl;rw[YB hb]at e;show(hpl b u e).resolve_left hb
@[ext]def gX(T:Nd->Nat)(n:Nat)(ps:ac am)(es:ac Nat):ac<|db×V:=es.map λe:Nat=>(.inl (e:Int),.int<|Yk<|Nc T n ps e)
structure Jx(H:Hp)(rd:Addr)(n:Nat)(T:Nd->Nat)(ps:List Str)(lo:Nat):Prop where
 ex:∃(o:Obj) (es:List Nat),H rd=À (.frz o<|.dK<|gX T n ps es)/\es.Nodup/\(∀e∈es,e<=n)/\∀e,lo<=e->e<=n->Nc T n ps e≠0->e∈es
def Jx.same(h:Jx H rd n T ps lo)(s:YG H H'):Jx H' rd n T ps lo:=by
 let⟨o,es,e1,e2⟩:=h.ex;show⟨o,es,s _ _ e1,e2⟩
def Jx.mono(h:Jx H rd n T ps lo)(hl:lo<=Qh):Jx H rd n T ps Qh:=by
 let⟨o,es,e1,e2,e3,e4⟩:=h.ex;show⟨o,es,e1,e2,e3,λe he=>e4 e<|Ú hl he⟩
@[ext]def Zk(H:Hp)(n:Nat)(T:Nd->Nat):V->ac am->Nat->Prop
 |v,[],_=>v=.non
 |v,p::ps,lo=>∃t rd v',v=.ref t/\H t=À (.tup [.str p,.ref rd,v'])/\Jx H rd n T ps lo/\Zk H n T v' ps lo
def Zk.same(s:YG H H'):∀{v:V}{ps:ac am}{lo:Nat},Zk H n T v ps lo->Zk H' n T v ps lo
 |v,[],_,h=>h
 |v,p::ps,lo,⟨t,rd,v',e1,e2,e3,e4⟩=>⟨t,rd,v',e1,s _ _ e2,e3.same s,Zk.same s e4⟩
def Zk.mono(hl:lo<=Qh):∀{v:V}{ps:ac am},Zk H n T v ps lo->Zk H n T v ps Qh
 |v,[],h=>h
 |v,p::ps,⟨t,rd,v',e1,e2,e3,e4⟩=>⟨t,rd,v',e1,e2,e3.mono hl,Zk.mono hl e4⟩
def zS{f:Nat->V}{b:Nat}{v:V}{bs:ac Nat}(h:b∈bs):Y3 (bs.map λe:Nat=>((.inl (e:Int):db),f e)) (.inl (b:Int)) v=bs.map λe:Nat=>(.inl (e:Int),if e=b then v else f e):=by
 unfold Y3;rw[if_pos,é];show ý λe _=>?_;change(if (Sum.inl (e:Int):db)=.inl (b:Int) then ((.inl (e:Int):db),v) else (.inl (e:Int),f e))=_;by_cases z:e=b;rw[if_pos (by rw[z]),if_pos z];rw[if_neg<|λq=>z<|Int.ofNat_inj.mp<|Sum.inl.inj q,if_neg z];show List.any_eq_true.mpr ⟨_,YPR.mpr ⟨b,h,Z⟩,dA Z⟩
def Ł{f:Nat->V}{b:Nat}:∀{bs:ac Nat},Yj (bs.map λe:Nat=>((.inl (e:Int):db),f e)) (.inl (b:Int))=if b∈bs then À (f b) else Á
 |[]=>rfl
 |a::bs=>by
  change Yj ((.inl (a:Int),f a)::bs.map λe:Nat=>((.inl (e:Int):db),f e)) (.inl (b:Int))=_;by_cases e:a=b;subst e;rw[Zh Z,if_pos<|É ..];rw[ZZ<|λz=>e<|Int.ofNat_inj.mp<|Sum.inl.inj z,Ł];by_cases h:b∈bs;rw[if_pos h,if_pos<|Ç _ h];rw[if_neg h,if_neg λz=>(YO9.mp z).elim (λq=>e q.symm) h]
def ģ:∀{l m:ac Nat},l.Nodup->(∀x∈l,x∈m)->l.length<=m.length
 |[],_,_,_=>Ë _
 |x::l,m,h,hm=>by
  let S:=hm x É;let hnd:=YPN.mp h;let ih:=ģ (l:=l) (m:=m.erase x) hnd.2 λy hy=>(List.mem_erase_of_ne λe=>hnd.1 (by rw[<-e];show hy)).mpr<|hm y<|Ç _ hy;rw[List.length_erase_of_mem S]at ih;have:0<m.length:=List.length_pos_of_mem S;rw[Ñ];omega
structure nS(H0 H:Hp)(lg:Addr)(n i:Nat)(a:Nat->Nat):Prop where
 sm:YG H0 H
 np:YU H0 H
 nl:H0 lg=Á
 ex:∃bs:List Nat,H lg=À (.dK<|bs.map λb:Nat=>(.inl (b:Int),.int<|Yk<|a b))/\bs.Nodup/\(∀b∈bs,i<=b/\b<=n)/\∀b,i<=b->b∉bs->a b=0
def nS.put{H0 H:Hp}{lg:ai}{n i b:Nat}{a:Nat->Nat}(g:nS H0 H lg n i a)(hb:i<=b)(tV:b<=n):∃kvs,H lg=À (.dK kvs)/\kvs.length<=n+1/\(Yj kvs<|.inl (b:Int)).getD (.int 0)=.int (Yk<|a b)/\
  ∀w,nS H0 (upd H lg<|.dK<|Y3 kvs (.inl (b:Int))<|.int<|Yk<|a b+w) lg n i λb'=>if b'=b then a b+w else a b':=by
 let⟨bs,f1,f2,f3,f4⟩:=g.ex;let hlen:bs.length<=n+1:=by
  have:=ģ (m:=List.range<|n+1) f2 λb hb=>YPY.mpr (by have:=(f3 b hb).2;lia);rw[è]at this;show this
 let hv:=Ł (f:=λb=>.int<|Yk<|a b) (b:=b) (bs:=bs);show⟨_,f1,by rw[Ä];show hlen,?_,λw=>⟨g.sm.put g.nl,g.np.trans<|YU.upd rfl,g.nl,?_⟩⟩;rw[hv];by_cases h:b∈bs;rw[if_pos h];rfl;rw[if_neg h,f4 b hb h];change V.int 0=.int (Yk 0);rw[show Yk 0=0 from vF (by have:=AV;lia)];by_cases h:b∈bs;show⟨bs,?_,f2,f3,λb' h1 h2=>?_⟩;rw[YA,zS h];congr 3;funext e;by_cases z:e=b;subst z;rw[if_pos Z,if_pos Z];rw[if_neg z,if_neg z];rw[if_neg λz=>h2 (by rw[z];show h)];show f4 b' h1 h2;show⟨bs++[b],?_,YPo.mpr ⟨f2,by simp,λx S y hy=>by rw[YO0.mp hy];showλz=>h (by rw[<-z];show S)⟩,λb' h1=>?_,λb' h1 h2=>?_⟩;rw[YA,Ī _ (by rw[hv,if_neg h]),Î];congr 3;show ý λe he=>?_;rw[if_neg λz=>h (by rw[<-z];show he)];change _=[(_,V.int<|Yk (if b=b then a b+w else a b))];rw[if_pos Z];rcases YPD.mp h1 with h1|h1
 show f3 b' h1;rw[YO0.mp h1];show⟨hb,tV⟩;rw[if_neg λz=>h2 (by rw[z];simp)];show f4 b' h1 λz=>h2<|Õ _ z
def nS.eq(g:nS H0 H lg n i a)(h:∀b,i<=b->a b=a' b):nS H0 H lg n i a':=by
 let⟨bs,f1,f2,f3,f4⟩:=g.ex;show⟨g.sm,g.np,g.nl,bs,?_,f2,f3,λb hb hn=>by rw[<-h b hb];show f4 b hb hn⟩;rw[f1,ý λb hb=>by rw[h b (f3 b hb).1]]
inductive YJg(C CM:Addr)(vs:List V)(H:Hp)(Q:VK):Prop
 |mk (x t:Addr)(g:YS)(T:Nd->Nat)(DZ:List Nd)(n:Nat)(p:Str):vs=[.ref x,.ref t]->rW C CM H x g T DZ->H t=À (.tup [.str p,nV 0,nV n])->(∀v H',Zk H' n T v [p] 0->YG H H'->YU H H'->Q v H')->YJg C CM vs H Q
@[ext]def Β(C CM:ai):Sp:=λvs H Q E_=>YJg C CM vs H Q
inductive YJh(C CM:Addr)(vs:List V)(H:Hp)(Q:VK):Prop
 |mk (x rd:Addr)(g:YS)(T:Nd->Nat)(DZ:List Nd)(n lo i:Nat)(p:Str)(ps:List Str):vs=[.ref x,.str p,.ref rd,nV i]->rW C CM H x g T DZ->DZ.Nodup->(∀x,x∉DZ->T x=0)->(∀b e,Nd.part p b e∈DZ->b<=e/\e<=n)->n<=60->Jx H rd n T ps lo->lo<=i->(∀mz H',Jx H' mz n T (p::ps) i->YG H H'->YU H H'->Q (.ref mz) H')->YJh C CM vs H Q
@[ext]def YL6(C CM:ai):Sp:=λvs H Q E_=>YJh C CM vs H Q
def YCW:YJ [av,"top"] [av,"top"]<|YH Jw:=dE
def YCX(T:Txt K mg C)(b_:Yv P w K mg cj 1 C.Many "blank" [av]<|rS<|.int 1):Gd P w K mg cj 2 "first_link" "Rests.first_link" Jw [av,"top"]<|Β C.Rests C.Many:=by
 show eP YCW λH Q E hr h=>?_;let⟨x,t,g,U,DZ,n,p,Z,ra,ht,q⟩:=h;let hu:=Zd hr;show fO ?_;show⟨_,(Y8 ⟨(YN<|YJA<|ZE<|YI (eL K (J 1) YC)<|YI (m4 (YNV (eL K (J 1) YC) (fW (df K<|J 0) T.bU b_ hr YO) oW) rfl rfl nofun (by simp))<|aY Z6)⟩),?_⟩;let⟨B,l,tl,dt,d,an,bd,o,ob,xs,kb,e1,e2,e3,e4,e5,e6,e7,e8⟩:=ra.ex;show⟨_,Z,t,_,0,_,Z,Z,cN.of ht,Z,?_⟩;unfold tq;intro dd hdd;let u1:=YG.upd (o:=.dK []) hdd;show⟨_,Z,t,_,2,_,Z,Z,cN.of<|u1 _ _ ht,Z,_,Z,x,C.Rests,B,_,_,Z,u1 _ _ e1,T.au,T.aD,Z,tl,dt,_,Z,u1 _ _ e4,Z,_,Z,YA,[(.inl (n:Int),.int 1)],Z,(by change 1<=15;decide),iO,λtt gJ=>?_⟩;let edk:A5 [] [((.inl (n:Int):db),V.int 1)]=gX U n [] [n]:=by
  change[((.inl (n:Int):db),V.int 1)]=[(.inl (n:Int),.int<|Yk (if n=n then 1 else 0))];rw[if_pos Z,show Yk 1=1 from vF AV]
 rw[edk]at gJ ⊢;let ndt:tt≠dd:=λz=>by rw[z,YA]at gJ;cases gJ
 let s2:YG H<|upd (upd H dd<|.dK []) dd<|.dK<|gX U n [] [n]:=u1.put hdd;let s3:YG H<|upd (upd (upd H dd<|.dK []) dd<|.dK<|gX U n [] [n]) tt<|.tup [.str p,.ref dd,.non]:=s2.trans<|YG.upd gJ;show⟨dd,_,by rw[YB ndt.symm,YA],λo'=>q _ _ ⟨tt,dd,.non,Z,by rw[YB ndt,YA],⟨o',[n],YA,by simp,λe he=>by rw[YO0.mp he];show Å _,λe _ _ h0=>YO0.mpr<|Decidable.byContradiction λz=>h0<|if_neg z⟩,Z⟩ (s3.put hdd) ?_⟩;show(((YU.upd Z).trans<|YU.upd rfl).trans<|YU.upd rfl).trans<|YU.upd rfl
def ZP:YJ [av,c9,"rest",ck,"longer","end","begin","value","so_far"] [av,c9,"rest",ck]<|YH XE:=dE
def YC2(T:Txt K mg C)(aA:Yv P w K mg cj 1 C.Many "nothing" [av]<|rS<|.int 0)(aQ:Yv P w K mg cj 1 C.Many "either" [av,cK,cS]<|rL<|λx y=>XG<|x+y)(bB:Yv P w K mg cj 1 C.Many "both" [av,cK,cS]<|rL<|λx y=>XG<|x*y):Gd P w K mg cj 2 "rest_with" "Rests.rest_with" XE [av,c9,"rest",ck]<|YL6 C.Rests C.Many:=by
 show eP ZP λH Q E hr h=>?_;let⟨x,rd,g,U,DZ,n,lo,i,p,ps,Z,ra,hnd,hout,hbe,hn,hrs,hlo,q⟩:=h;let hu:=Zd hr;show fO ?_;show⟨_,(YE ⟨(c_ 4 ZP YIU)⟩
  (YE ⟨(fM (YI4<|J 2) (fm 5 ZP) (YD (fM (ZJ K rfl<|Dz hu (df K<|J 0) (ZE<|YI (J 1)<|aY<|J 5) (Y6 Ys) ⟨Z,Z,Z,Z⟩) (xS K Z (n:=2) rfl<|Zg (fm 6 ZP)<|Zg (fm 7 ZP) y9) (YD (Yq (Yg C7 (J 6) (J 3)<|Yd _) (YF (c_ 8 ZP<|Dz hu (J 4) (J 6) (fW (df K<|J 0) T.bU aA hr YO) ⟨Z,Z,Z,Z⟩)
  (YD<|J4 hu (J 4) (J 6) (fJ (df K<|J 0) T.bU aQ hr YO<|YI (J 8)<|aY<|fJ (df K<|J 0) T.bU bB hr YO<|YI (J 7)<|aY<|JT hu (J 2) (J 5)<|λ_ _=>rfl) rfl)) YT)))))⟩
  (Y8 ⟨(YN<|YJA<|J 4)⟩))),?_⟩
 let⟨B,l,tl,dt,d,an,bd,o,ob,xs,kb,e1,e2,e3,e4,e5,e6,e7,e8⟩:=ra.ex;let⟨oo,es,h1,h2,h3,h4⟩:=hrs.ex;intro lg tW;let s0:=YG.upd (o:=.dK []) tW;dsimp only[Y7];let kl:(gX U n ps es).length=es.length:=by unfold gX;rw[Ä]
 show⟨_,Z,rd,oo,_,Z,s0 _ _ h1,YG5 (d:=rd) (o:=oo) (kvs:=gX U n ps es) (λj σ G=>∃v5 v6 v7 v8,σ=[À<|.ref x,À<|.str p,À<|.ref rd,À<|nV i,À<|.ref lg,v5,v6,v7,v8]/\nS H G lg n i λb=>Yt (es.take j) λe=>U (.part p b e)*Nc U n ps e)
  ⟨Á,Á,Á,Á,Z,⟨s0,YU.upd Z,tW,[],YA,å,(λb hb=>nomatch hb),λb _ _=>rfl⟩⟩ (by rintro j σ G _ ⟨v5,v6,v7,v8,_,g2⟩;show g2.sm _ _ h1) ?_ ?_⟩
 rintro j kv σ G hj ⟨v5,v6,v7,v8,rfl,g2⟩;let hjl:j<es.length:=by rw[<-kl];show(YOx.mp hj).1
 let ee:es[j]?=À es[j]:=Ê hjl;generalize es[j]=e at ee;let hen:e<=n:=h3 e<|Ð ee;let ekv:kv=(.inl (e:Int),.int<|Yk<|Nc U n ps e):=by
  unfold gX at hj;rw[Ï,ee]at hj;show(Û hj).symm
 subst ekv;dsimp only[Y7];let sG:=g2.sm;show⟨_,Z,x,C.Rests,B,_,_,Z,sG _ _ e1,T.au,T.cZ,Z,bd,Z,.inr ⟨kb,.inr ⟨ob,sG _ _ e7⟩⟩,_,Z,_,Z,kC,λtk jc=>⟨YK<|Ë _,λe0 vz=>?_⟩⟩;let u3:=(YG.upd (o:=.tup [.str p,kV<|.inl (e:Int)]) jc).trans<|YG.upd (o:=.lst []) vz;let jK:upd (upd G tk<|.tup [.str p,kV<|.inl (e:Int)]) e0 (.lst []) tk=À (.tup<|(gi (p,e)).map kV):=YG.upd vz _ _ YA;let nZ:upd (upd G tk<|.tup [.str p,kV<|.inl (e:Int)]) e0 (.lst []) e0=À (.lst []):=YA;let g3:nS H (upd (upd G tk<|.tup [.str p,kV<|.inl (e:Int)]) e0<|.lst []) lg n i λb=>Yt (es.take j) λe=>U (.part p b e)*Nc U n ps e:=by
  let⟨bs,f1,f2⟩:=g2.ex;show⟨sG.trans u3,g2.np.trans<|(YU.upd rfl).trans<|YU.upd rfl,tW,bs,u3 _ _ f1,f2⟩
 revert jK nZ g3;generalize upd (upd G tk<|.tup [.str p,kV<|.inl (e:Int)]) e0 (.lst [])=G3;intro jK nZ g3;let s3:=g3.sm;show⟨Yj kb<|gi (p,e),.inr ⟨kb,gi (p,e),tk,.inr ⟨ob,s3 _ _ e7⟩,Z,jK,Z⟩,?_⟩;obtain⟨c,vs,ec,hc,ul⟩:∃c vs,(Yj kb<|gi (p,e)).getD (.ref e0)=.ref c/\del G3 lg c=À (.lst vs)/\XL (del G3 lg) vs (Jl DZ (p,e)) λb=>Yk<|U<|.part p b e:=by
  let hle:∀{c:ai}{o:HO},(∀k,o≠.dK k)->G3 c=À o->del G3 lg c=À o:=λ{c o} n' z=>by
   let⟨bs,f1,_⟩:=g3.ex;rw[ZY<|Yi z f1<|n' _];show z
  rcases e8 (p,e) with ⟨z1,z2⟩|⟨c,vs,z1,z2,z3⟩
  rw[z1,z2];show⟨e0,[],Z,hle (λk z=>nomatch z) nZ,Z,λi v b e=>nomatch e⟩;rw[z1];show⟨c,vs,Z,hle (λk z=>nomatch z)<|s3 _ _ z2,(z3.same s3).keep λt ys z=>hle (λk z=>nomatch z) z⟩
 rw[ec];show⟨c,Z,⟨_,bG.of<|X5 _ _ _ _ hc⟩,ZL (K:=K) (a:=c) (xs:=vs) (λk σ G=>g9 λv6 v7 v8=>vb (σ=[À<|.ref x,À<|.str p,À<|.ref rd,À<|nV i,À<|.ref lg,À<|nV e,v6,v7,v8]) (YG (del G3 lg) G) (nS H G lg n i λb=>Yt (es.take j) (λe=>U (.part p b e)*Nc U n ps e)+if b∈(Jl DZ (p,e)).take k then U (.part p b e)*Nc U n ps e else 0))
  ⟨v6,v7,v8,Z,X5 _ _,g3.eq λb _=>by rw[List.take_zero,if_neg nofun];rfl⟩ (by rintro k σ G _ ⟨v6,v7,v8,_,s,_⟩;show bG.of<|s _ _ hc) ?_ ?_⟩
 rintro k v σ G hk ⟨v6,v7,v8,rfl,s,g4⟩;let hkl:k<(Jl DZ (p,e)).length:=by rw[<-ul.1];show(YOx.mp hk).1
 let eb:(Jl DZ (p,e))[k]?=À (Jl DZ (p,e))[k]:=Ê hkl;generalize (Jl DZ (p,e))[k]=b at eb;let⟨t,Z,ht⟩:=ul.2 k v b hk eb;let ht':=s _ _ ht;let DU:Nd.part p b e∈DZ:=YFj.mp<|Ð eb;let tV:b<=n:=by have:=hbe b e DU;lia
 let hbt:b∉(Jl DZ (p,e)).take k:=λz=>by
  let vV:=YKb hnd (p,e);let hsp:=Ĝ k<|Jl DZ (p,e);rw[í hkl,(YOx.mp eb).2]at hsp;rw[<-hsp]at vV;show(YPo.mp vV).2.2 b z b (É ..) Z
 let et:(Jl DZ (p,e)).take (k+1)=(Jl DZ (p,e)).take k++[b]:=by rw[â,eb];rfl
 show⟨t,_,Z,cN.of ht',Z,_,_,Z,_,_,Z,Z,?_⟩;show⟨_,Z,_,Z,_,_,Z,Z,_,Z,?_⟩;show X4 (λhge=>?_) λhge=>?_;let hge':i<=b:=by have:=fq hge;lia
 let⟨kvs,k1,k2,k3,k4⟩:=g4.put hge' tV;let sH:=g4.sm;let pK:À (V.int<|Yk<|Nc U n ps e)=Yj (gX U n ps es) (.inl (e:Int)):=by
  unfold gX;rw[Ł,if_pos<|Ð ee]
 show⟨_,Z,lg,Z,.inl ⟨_,.inl k1⟩,_,Z,_,Z,x,C.Rests,B,_,_,Z,sH _ _ e1,T.au,T.aD,Z,tl,dt,_,Z,sH _ _ e4,Z,_,Z,_,gc.k (k:=.inl (b:Int)) k1,?_⟩;rw[k3];show⟨_,Z,x,C.Rests,B,_,_,Z,sH _ _ e1,T.au,T.aD,Z,tl,dt,_,Z,sH _ _ e4,Z,_,Z,_,Z,x,C.Rests,B,_,_,Z,sH _ _ e1,T.au,T.aD,Z,tl,dt,_,Z,sH _ _ e4,Z,_,Z,_,Z,_,Z,rd,_,Z,.inl ⟨_,.inl (e:Int),.inr ⟨oo,sH _ _ h1⟩,Z,pK⟩,_,_,_,Z,Zz _,Zw _,Zz _,Zw _,_,_,_,Z,Zz _,Zw _,(by rw[Jm];show Zz _),(by rw[Jm];show Zw _),_,Z,_,Z,lg,_,Z,h_.k (k:=.inl (b:Int)) k1 (by rw[sizeLine_eq];lia),?_⟩;rw[Jm,ĭ];show⟨_,_,_,Z,s.put J6,(k4 _).eq λb' _=>?_⟩;rw[et];by_cases z:b'=b;subst z;rw[if_pos Z,if_neg hbt,Nat.add_zero,if_pos (by simp)];rw[if_neg z];by_cases z2:b'∈(Jl DZ (p,e)).take k;rw[if_pos z2,if_pos<|Õ _ z2];rw[if_neg z2,if_neg λz3=>(YPD.mp z3).elim z2 λz3=>z<|YO0.mp z3];let hge':¬i<=b:=λz=>hge<|dA (by lia);show⟨_,_,_,Z,s,g4.eq λb' hb'=>?_⟩;rw[et];by_cases z2:b'∈(Jl DZ (p,e)).take k;rw[if_pos z2,if_pos<|Õ _ z2];rw[if_neg z2,if_neg λz3=>(YPD.mp z3).elim z2 λz3=>hge' (by rw[<-YO0.mp z3];show hb')];rintro σ G ⟨v6,v7,v8,rfl,s,g4⟩;rw[ul.1,æ]at g4;show⟨_,v6,v7,v8,Z,g4.eq λb _=>?_⟩;rw[â,ee,Jk];congr 1;change _=U (.part p b e)*Nc U n ps e+0;by_cases hm:b∈Jl DZ (p,e);rw[if_pos hm];rfl;rw[if_neg hm,hout _<|λz=>hm<|YFj.mpr z,ë];rintro σ G ⟨v5,v6,v7,v8,rfl,g2⟩;rw[kl,æ]at g2;let⟨bs,f1,f2,f3,f4⟩:=g2.ex;let eN:∀b,i<=b->Nc U n (p::ps) b=Yt es λe=>U (.part p b e)*Nc U n ps e:=λb hb=>by
  show YI8 Ę h2 (λe he=>YPY.mpr (by have:=h3 e he;lia)) λe he hne=>?_;by_cases z1:U (.part p b e)=0;rw[z1,ë];by_cases z2:Nc U n ps e=0;rw[z2,î];let DU:Nd.part p b e∈DZ:=Decidable.byContradiction λz=>z1<|hout _ z;show absurd (h4 e (by have:=(hbe b e DU).1;lia) (hbe b e DU).2 z2) hne
 let eD:(bs.map λb:Nat=>((.inl (b:Int):db),V.int<|Yk<|Yt es λe=>U (.part p b e)*Nc U n ps e))=gX U n (p::ps) bs:=ý λb hb=>by rw[eN b (f3 b hb).1]
 rw[eD]at f1;show⟨_,Z,lg,_,f1,λo'=>q lg _ ⟨o',bs,YA,f2,λb hb=>(f3 b hb).2,λb hb tV h0=>Decidable.byContradiction λz=>h0 (by rw[eN b hb];show f4 b hb z)⟩ ((g2.sm).put tW)<|g2.np.trans<|YU.upd rfl⟩
def YJi{H:Hp}{xs:ac V}{g:YS}{i:Nat}{r:fU}(d:Ya H xs<|g.map Za)(e:g[i]?=À r):∃t p,xs[i]?=À (.ref t)/\H t=À (.tup [.str r.1,.ref p,.int r.2.2])/\H p=À (.tup<|r.2.1.map V.str):=by
 let⟨v,ev,dv⟩:=d.getD (i:=i) (d:=Za r) (by rw[Ï,e];rfl);let⟨t,p,Z,ht,hp⟩:=ώ dv;show⟨t,p,ev,ht,hp⟩
inductive YFw(C CM:Addr)(vs:List V)(H:Hp)(Q:VK):Prop
 |mk (x t rd:Addr)(g:YS)(T:Nd->Nat)(DZ:List Nd)(n lo i:Nat)(p:Str)(ps:List Str)(v':V):vs=[.ref x,nV i,.ref t]->rW C CM H x g T DZ->(∀x,x∉DZ->T x=0)->(∀r d b e,Nd.beg r d b e∈DZ->b<=e/\e<=n)->n<=60->g.length<=60->H t=À (.tup [.str p,.ref rd,v'])->Jx H rd n T ps lo->lo<=i->YM g p≠[]->(∀c us cl H',H' c=À (.lst us)->XL H' us cl (λr=>Yk (fG T n r (ZH g r) i ps))->cl.Sublist (YM g p)->(∀r∈YM g p,r∉cl->fG T n r (ZH g r) i ps=0)->YG H H'->YU H H'->Q (.ref c) H')->YFw C CM vs H Q
@[ext]def ϸ(C CM:ai):Sp:=λvs H Q E_=>YFw C CM vs H Q
def Y0:YJ [av,ck,c6,bv,"rest",cb,"done","value","end",ay,"so_far"] [av,ck,c6]<|YH Xu:=dE
def YD7(T:Txt K mg C)(aA:Yv P w K mg cj 1 C.Many "nothing" [av]<|rS<|.int 0)(aQ:Yv P w K mg cj 1 C.Many "either" [av,cK,cS]<|rL<|λx y=>XG<|x+y)(bB:Yv P w K mg cj 1 C.Many "both" [av,cK,cS]<|rL<|λx y=>XG<|x*y):Gd P w K mg cj 2 "choices" "Rests.choices" Xu [av,ck,c6]<|ϸ C.Rests C.Many:=by
 show eP Y0 λH Q E hr h=>?_;let⟨x,t,rd,g,U,DZ,n,lo,i,p,ps,v',Z,ra,hout,hbe,hn,kh,ht,hrs,hlo,gF,q⟩:=h;let hu:=Zd hr;show fO ?_;show⟨_,(YE (ia 3 Y0<|lp X6)
  (YE ⟨(c_ 4 Y0<|eL K (J 2) YC)⟩
  (YE ⟨(fM (ZJ K rfl<|JT hu (df K<|J 0) (eL K (J 2) YC)<|λ_ _=>rfl) (fm 5 Y0) (YF (c_ 6 Y0<|fA K T.aJ<|eL K (fN K (df K<|J 0)<|J 5) YC)
  (YF (c_ 7 Y0 Z6)
  (YF (fM (YI4<|J 4) (fm 8 Y0) (YF (c_ 9 Y0<|ZE<|Yz (J 5)<|Yz (J 6)<|Yz (J 1)<|Yz (J 8) Ys)
  (YD (Yq (Xm<|Bn hu (J 9)<|df K<|J 0) (YF (c_ 10 Y0<|YEy (Yg Dx (J 7) Z6<|Yd _) (fW (df K<|J 0) T.bU aA hr YO)<|J 7)
  (YD<|c_ 7 Y0<|fJ (df K<|J 0) T.bU aQ hr YO<|YI (J 10)<|aY<|fJ (df K<|J 0) T.bU bB hr YO<|YI (JT hu (df K<|J 0) (J 9)<|λ_ _=>rfl)<|aY<|JT hu (J 4) (J 8)<|λ_ _=>rfl)) YT))))
  (YD<|Yq (Yg BB (J 7) Z6<|Yd _) (YD<|YW<|fP K (J 3)<|ZE<|YI (J 5)<|aY<|J 7) YT)))))⟩
  (Y8 ⟨(YN<|J 3)⟩)))),?_⟩
 let⟨B,l,tl,dt,d,an,bd,o,ob,xs,kb,e1,e2,e3,e4,e5,e6,e7,e8⟩:=ra.ex;let⟨oo,es,h1,h2,h3,h4⟩:=hrs.ex;let eN:∀r,fG U n r (ZH g r) i ps=Yt es λe=>U (.beg r (ZH g r) i e)*Nc U n ps e:=λr=>by
  show YI8 Ę h2 (λe he=>YPY.mpr (by have:=h3 e he;lia)) λe he hne=>?_;by_cases z1:U (.beg r (ZH g r) i e)=0;rw[z1,ë];by_cases z2:Nc U n ps e=0;rw[z2,î];let DU:Nd.beg r (ZH g r) i e∈DZ:=Decidable.byContradiction λz=>z1<|hout _ z;show absurd (h4 e (by have:=(hbe _ _ _ _ DU).1;lia) (hbe _ _ _ _ DU).2 z2) hne
 let kl:(gX U n ps es).length=es.length:=by unfold gX;rw[Ä]
 let⟨kn,z1,z2⟩:=e6;let⟨nl,z3,z4⟩:=(z2 p).resolve_left λz=>gF z.1;show⟨YK<|Ë _,λfo hfo=>?_⟩;dsimp only[Y7];let s0:=YG.upd (o:=.lst []) hfo;show⟨_,Z,t,_,1,_,Z,Z,cN.of<|s0 _ _ ht,Z,?_⟩;show⟨_,Z,x,C.Rests,B,_,_,Z,s0 _ _ e1,T.au,T.eG,Z,_,Z,t,_,0,_,Z,Z,cN.of<|s0 _ _ ht,Z,an,_,Z,.inl ⟨kn,.inr p,.inl<|s0 _ _ z1,Z,z3.symm⟩,nl,Z,⟨_,bG.of<|s0 _ _ z4⟩,ZL (K:=K) (a:=nl) (xs:=(YM g p).map nV) (λj σ G=>∃v5 v6 v7 v8 v9 je us cl,σ=[À<|.ref x,À<|nV i,À<|.ref t,À<|.ref fo,À<|.ref rd,v5,v6,v7,v8,v9,je]/\YG H G/\YU H G/\G fo=À (.lst us)/\XL G us cl (λr=>Yk<|fG U n r (ZH g r) i ps)/\cl.Sublist ((YM g p).take j)/\∀r∈(YM g p).take j,r∉cl->fG U n r (ZH g r) i ps=0)
  ⟨_,_,_,_,_,_,[],[],Z,s0,YU.upd Z,YA,⟨Z,λi v b e=>nomatch e⟩,List.Sublist.refl _,λr hr=>nomatch hr⟩ (by rintro j σ G _ ⟨_,_,_,_,_,_,_,_,_,s,_⟩;show bG.of<|s _ _ z4) ?_ ?_⟩
 rintro j v σ G hj ⟨v5,v6,v7,v8,v9,je,us,cl,rfl,sG,nG,hfG,hP,hsub,hz⟩;rw[Ï]at hj;let⟨r,Wf,Z⟩:=YPk.mp hj;let⟨ru,uH,Wy⟩:=ZO.mp<|Ð Wf;let elr:ZH g r=ru.2.1.length:=by unfold ZH;rw[uH];rfl
 let etk:(YM g p).take (j+1)=(YM g p).take j++[r]:=by rw[â,Wf];rfl
 let⟨rt,rp,y1,y2,y3⟩:=YJi e3 uH;dsimp only[Y7];show⟨_,Z,x,C.Rests,B,_,_,Z,sG _ _ e1,T.au,T.cI,Z,_,Z,l,_,_,_,Z,Z,bG.of<|sG _ _ e2,ZB y1,rt,_,1,_,Z,Z,cN.of<|sG _ _ y2,Z,rp,_,Z,.inr<|cN.of<|sG _ _ y3,?_⟩;rw[Ä,<-elr];show⟨_,Z,rd,oo,_,Z,sG _ _ h1,YG5 (d:=rd) (o:=oo) (kvs:=gX U n ps es) (λk σ G'=>∃v8 v9 je,∃DV:Bool,σ=[À<|.ref x,À<|nV i,À<|.ref t,À<|.ref fo,À<|.ref rd,À<|nV r,À<|nV<|ZH g r,À (if DV=Â then .int (Yk<|Yt (es.take k) λe=>U (.beg r (ZH g r) i e)*Nc U n ps e) else .non),v8,v9,je]/\YG G G'/\YU G G'/\(DV=Ã->∀e∈es.take k,U (.beg r (ZH g r) i e)*Nc U n ps e=0))
  ⟨v8,v9,je,Ã,Z,λ_ _ e=>e,YU.refl _,λ_ e he=>nomatch he⟩ (λk σ G' _ ⟨_,_,_,_,_,s,_⟩=>s _ _<|sG _ _ h1) ?_ ?_⟩
 rintro k kv σ G' hk ⟨v8,v9,je,DV,rfl,sG2,nG2,hno⟩;let hkl:k<es.length:=by rw[<-kl];show(YOx.mp hk).1
 let ee:es[k]?=À es[k]:=Ê hkl;generalize es[k]=e at ee;let ekv:kv=(.inl (e:Int),.int<|Yk<|Nc U n ps e):=by
  unfold gX at hk;rw[Ï,ee]at hk;show(Û hk).symm
 subst ekv;let pK:À (V.int<|Yk<|Nc U n ps e)=Yj (gX U n ps es) (.inl (e:Int)):=by
  unfold gX;rw[Ł,if_pos<|Ð ee]
 let esum:Yt (es.take<|k+1) (λe=>U (.beg r (ZH g r) i e)*Nc U n ps e)=Yt (es.take k) (λe=>U (.beg r (ZH g r) i e)*Nc U n ps e)+U (.beg r (ZH g r) i e)*Nc U n ps e:=by
  rw[â,ee,Jk];rfl
 dsimp only[Y7];show⟨_,Z,_,Z,_,Z,_,Z,kc,λtk jc=>?_⟩;let u3:=YG.upd (o:=.tup [nV r,nV<|ZH g r,nV i,kV<|.inl (e:Int)]) jc;let sG3:=sG2.trans u3;let nG3:YU G<|upd G' tk<|.tup [nV r,nV<|ZH g r,nV i,kV<|.inl (e:Int)]:=nG2.trans<|YU.upd rfl;let jK:upd G' tk (.tup [nV r,nV<|ZH g r,nV i,kV<|.inl (e:Int)]) tk=À (.tup<|(Ye<|.beg r (ZH g r) i e).map kV):=YA;revert sG3 nG3 jK;change _->_->_->_;generalize upd G' tk (.tup [nV r,nV<|ZH g r,nV i,kV<|.inl (e:Int)])=G3;intro sG3 nG3 jK;let sH3:=sG.trans sG3;let e1':=sH3 _ _ e1;let e4':=sH3 _ _ e4;let e5':=sH3 _ _ e5;let h1':=sH3 _ _ h1;show⟨_,Z,_,Z,x,C.Rests,B,_,_,Z,e1',T.au,T.cJ,Z,d,_,Z,.inr ⟨gl U DZ,Ye<|.beg r (ZH g r) i e,tk,.inr ⟨o,e5'⟩,Z,jK,Z⟩,_,Z,?_⟩;by_cases DU:Nd.beg r (ZH g r) i e∈DZ;rw[ss U DU];show Y9 ?_;cases DV with
 |false=>
  let e0:V.int 0=.int (Yk<|Yt (es.take k) λe=>U (.beg r (ZH g r) i e)*Nc U n ps e):=by
   rw[J0<|hno rfl,show Yk 0=0 from vF (by have:=AV;lia)]
  show⟨_,Z,Z,_,Z,Y9 ⟨_,Z,x,C.Rests,B,_,_,Z,e1',T.au,T.aD,Z,tl,dt,_,Z,e4',Z,_,Z,?_⟩⟩;rw[e0];show⟨_,Z,x,C.Rests,B,_,_,Z,e1',T.au,T.aD,Z,tl,dt,_,Z,e4',Z,_,Z,_,Z,x,C.Rests,B,_,_,Z,e1',T.au,T.aD,Z,tl,dt,_,Z,e4',Z,_,Z,x,C.Rests,B,_,_,Z,e1',T.au,T.cJ,Z,_,Z,d,_,Z,.inr ⟨gl U DZ,Ye<|.beg r (ZH g r) i e,tk,.inr ⟨o,e5'⟩,Z,jK,(ss U DU).symm⟩,_,Z,_,Z,rd,_,Z,.inl ⟨_,.inl (e:Int),.inr ⟨oo,h1'⟩,Z,pK⟩,_,_,_,Z,Zz _,Zw _,Zz _,Zw _,_,_,_,Z,Zz _,Zw _,(by rw[Jm];show Zz _),(by rw[Jm];show Zw _),?_⟩;rw[Jm,ĭ,<-esum];show⟨_,_,_,Â,Z,sG3,nG3,λz=>nomatch z⟩
 |true=>
  show⟨_,Z,Z,_,Z,Y5 ⟨_,Z,?_⟩⟩;rw[if_pos Z];show⟨_,Z,x,C.Rests,B,_,_,Z,e1',T.au,T.aD,Z,tl,dt,_,Z,e4',Z,_,Z,_,Z,x,C.Rests,B,_,_,Z,e1',T.au,T.aD,Z,tl,dt,_,Z,e4',Z,_,Z,x,C.Rests,B,_,_,Z,e1',T.au,T.cJ,Z,_,Z,d,_,Z,.inr ⟨gl U DZ,Ye<|.beg r (ZH g r) i e,tk,.inr ⟨o,e5'⟩,Z,jK,(ss U DU).symm⟩,_,Z,_,Z,rd,_,Z,.inl ⟨_,.inl (e:Int),.inr ⟨oo,h1'⟩,Z,pK⟩,_,_,_,Z,Zz _,Zw _,Zz _,Zw _,_,_,_,Z,Zz _,Zw _,(by rw[Jm];show Zz _),(by rw[Jm];show Zw _),?_⟩;rw[Jm,ĭ,<-esum];show⟨_,_,_,Â,Z,sG3,nG3,λz=>nomatch z⟩
 rw[Κ U DU];rw[hout _ DU,ë]at esum;rw[<-esum.trans (Nat.add_zero _)];show Y5 ⟨_,_,_,DV,Z,sG3,nG3,λz e' he'=>?_⟩;rw[â,ee]at he';rcases YPD.mp he' with he'|he'
 show hno z e' he';rw[YO0.mp he',hout _ DU,ë];rintro σ G' ⟨v8,v9,je,DV,rfl,sG2,nG2,hno⟩;rw[kl,æ]at hno ⊢;rw[<-eN];let hP':=hP.same sG2;let rT:=sG2 _ _ hfG;let hlen:cl.length<=60:=by
  let h1:=hsub.length_le;let h2:(YM g p).length<=g.length:=by
   unfold YM;show Ú (Ĉ ..) (by rw[è];show Å _)
  rw[ú]at h1;lia
 cases DV with
 |false=>
  show⟨_,Z,Z,_,Z,Y5 ⟨_,_,_,_,_,_,us,cl,Z,sG.trans sG2,nG.trans nG2,rT,hP',?_,λr' hr' hc=>?_⟩⟩;rw[etk];show hsub.trans<|List.sublist_append_left ..;rw[etk]at hr';rcases YPD.mp hr' with hr'|hr'
  show hz r' hr' hc;rw[YO0.mp hr',eN];show J0<|hno rfl
 |true=>
  show⟨_,Z,Z,_,Z,Y9 ⟨_,Z,.inl ⟨Z,_,bG.of rT⟩,_,Z,_,Z,kC,λtp kW=>?_⟩⟩;rw[if_pos Z];let u4:=YG.upd (o:=.tup [nV r,.int<|Yk<|fG U n r (ZH g r) i ps]) kW;let pq:=u4 _ _ rT;show⟨fo,us,_,Z,Z,pq,by rw[sizeLine_eq,hP.1];lia,⟨_,_,_,_,_,_,us++[.ref tp],cl++[r],Z,?_,?_,YA,?_,?_,λr' hr' hc=>?_⟩⟩;show((sG.trans sG2).trans u4).put hfo;show((nG.trans nG2).trans<|YU.upd rfl).trans<|YU.upd rfl;show((hP'.same u4).snoc YA).keep λc' ys=>YY pq nofun;rw[etk];show hsub.append<|List.Sublist.refl _;rw[etk]at hr';rcases YPD.mp hr' with hr'|hr'
  show hz r' hr' λz=>hc<|Õ _ z;show absurd (Ò _ hr') hc
 rintro σ G ⟨v5,v6,v7,v8,v9,je,us,cl,rfl,sG,nG,hfG,hP,hsub,hz⟩;rw[Ä,æ]at hsub hz;show⟨_,Z,q fo us cl G hfG hP hsub hz sG nG⟩
inductive YHK(C CM:Addr)(vs:List V)(H:Hp)(Q:VK):Prop
 |mk (x t rd:Addr)(g:YS)(T:Nd->Nat)(DZ:List Nd)(n lo i r:Nat)(ru:fU)(p:Str)(ps:List Str)(v':V):vs=[.ref x,nV i,.ref t,nV r]->rW C CM H x g T DZ->DZ.Nodup->(∀x,x∉DZ->T x=0)->(∀q b e,Nd.part q b e∈DZ->b<=e/\e<=n)->n<=60->g[r]?=À ru->ru.2.1.length<=60->H t=À (.tup [.str p,.ref rd,v'])->Jx H rd n T ps lo->Zk H n T v' ps lo->lo<=i->(∀b v H',H' b=À (.tup [nV (ZU (ru.2.1++ps) i).2,v])->Zk H' n T v (ZU (ru.2.1++ps) i).1 i->YG H H'->YU H H'->Q (.ref b) H')->YHK C CM vs H Q
@[ext]def YFx(C CM:ai):Sp:=λvs H Q E_=>YHK C CM vs H Q
def Yb:YJ [av,ck,c6,cb,"parts","rest","first","index","here"] [av,ck,c6,cb]<|YH JI:=dE
def YBU(T:Txt K mg C)(cM:Yv P w K mg cj 2 C.Rests "rest_with" [av,c9,"rest",ck]<|YL6 C.Rests C.Many):Gd P w K mg cj 3 "behind_choice" "Rests.behind_choice" JI [av,ck,c6,cb]<|YFx C.Rests C.Many:=by
 show eP Yb λH Q E hr h=>?_;let⟨x,t,rd,g,U,DZ,n,lo,i,r,ru,p,ps,v',Z,ra,hnd,hout,hbe,hn,gF,hrl,ht,hrs,hlk,hlo,q⟩:=h;let hu:=Zd hr;show fO ?_;show⟨_,(YE ⟨(c_ 4 Yb<|eL K (fN K (df K<|J 0)<|J 3) YC)⟩
  (YE ⟨(c_ 5 Yb<|eL K (J 2) YC)⟩
  (YE ⟨(c_ 6 Yb<|eL K (J 2) YC)⟩
  (YE ⟨(fM (YMc Z T.cF<|YI (YR CI (fA K T.aJ<|J 4) YC)<|YI (Ds DG YC)<|aY<|Ds DG YC) (fm 7 Yb) (YF (c_ 6 Yb<|ZE<|YI (eL K (J 4)<|J 7)<|YI (J 5)<|aY<|J 6)
  (YD<|Yq (Yg C_ (J 7) YC<|Yd _) (YD<|c_ 5 Yb<|fJ (J 0) T.au cM hr YO<|YI (eL K (J 4)<|J 7)<|YI (J 5)<|aY<|J 1) YT)))⟩
  (YE ⟨(c_ 8 Yb<|J 1)⟩
  (YE ⟨(J1 PassesOwn.never (PW.pt<|Ĭ (Yg BB (J 6) Z6<|Yd _)<|Ļ<|JE<|oY K rfl İ PySem.F.slot_str_startswith PySem.F.type_str_startswith J7 (eL K (J 6) YC)<|aY ZX) (YF (Ϥ (i:=8) Yb.nd Z (Or.inl Z) YC YM9)
  (YD<|c_ 6 Yb<|eL K (J 6) YC)))⟩
  (Y8 ⟨(YN<|ZE<|YI (J 8)<|aY<|J 6)⟩))))))),?_⟩
 let⟨B,l,tl,dt,d,an,bd,o,ob,xs,kb,e1,e2,e3,e4,e5,e6,e7,e8⟩:=ra.ex;let⟨rt,rp,y1,y2,y3⟩:=YJi e3 gF;revert hrl q y3;generalize ru.2.1=pts;intro hrl q y3;show⟨_,Z,x,C.Rests,B,_,_,Z,e1,T.au,T.cI,Z,_,Z,l,_,_,_,Z,Z,bG.of e2,ZB y1,rt,_,1,_,Z,Z,cN.of y2,Z,?_⟩;show⟨_,Z,t,_,1,_,Z,Z,cN.of ht,Z,_,Z,t,_,2,_,Z,Z,cN.of ht,Z,?_⟩;dsimp only[Y7];let jR:(pts.map V.str).length=pts.length:=Ä ..;show⟨_,Z,rp,_,Z,.inr<|cN.of y3,_,_,Z,Z,_,Z,_,Z,((pts.map V.str).length:Int)-1,-1,-1,pts.length,Z,⟨by decide,by decide⟩,?_,?_,?_⟩;unfold Builtin.Range.small Builtin.Range.rangeSize;simp only[Builtin.Range.rangeFitsLong,Ó,Ć,fE,beq_iff_eq];rw[jR];simp;lia;unfold Builtin.Range.rangeSize;rw[jR,if_neg (by decide)];split;rw[show -(-1:Int)=1 from Z,Int.ediv_one];lia;lia;rw[jR];show YKJ (lo:=(pts.length:Int)-1) (c:=-1) (n:=pts.length) (λj σ G=>g9 λrv v6 v7=>Cy (σ=[À<|.ref x,À<|nV i,À<|.ref t,À<|nV r,À<|.ref rp,À rv,À v6,v7,Á]) (YG H G) (YU H G) (Zk G n U v6 (pts.drop (pts.length-j)++ps) i)<|(j<pts.length->∃mz,rv=.ref mz/\Jx G mz n U (pts.drop (pts.length-j)++ps) i))
  ⟨.ref rd,v',Á,Z,YG.refl _,YU.refl _,by rw[Nat.sub_zero,č];show hlk.mono hlo,λ_=>⟨rd,Z,by rw[Nat.sub_zero,č];show hrs.mono hlo⟩⟩ ?_ ?_
 rintro j σ G hj ⟨rv,v6,v7,rfl,sG,nG,nP,QR⟩;let⟨mz,Z,Wg⟩:=QR hj;let ei:((pts.length:Int)-1)+(j:Nat)*(-1)=((pts.length-(j+1):Nat):Int):=by lia
 let DT:pts.length-(j+1)<pts.length:=by lia
 let hd:pts.drop (pts.length-(j+1))++ps=pts[pts.length-(j+1)]::(pts.drop (pts.length-j)++ps):=by
  rw[í DT,show pts.length-(j+1)+1=pts.length-j by lia];rfl
 let hq:(pts.map V.str)[pts.length-(j+1)]?=À (.str pts[pts.length-(j+1)]):=by
  rw[Ï,Ê DT];rfl
 rw[ei,hd];revert hq;generalize pts[pts.length-(j+1)]=qq;intro hq;dsimp only[Y7];show⟨_,Z,_,Z,rp,_,_,_,Z,Z,cN.of<|sG _ _ y3,ZB hq,_,Z,_,Z,iO,λtk jc=>?_⟩;let u3:=YG.upd (o:=.tup [.str qq,.ref mz,v6]) jc;let s3:=sG.trans u3;let hl3:Zk (upd G tk<|.tup [.str qq,.ref mz,v6]) n U (.ref tk) (qq::(pts.drop (pts.length-j)++ps)) i:=⟨tk,mz,v6,Z,YA,Wg.same u3,nP.same u3⟩;let R0:=Wg.same u3;let n3:YU H<|upd G tk<|.tup [.str qq,.ref mz,v6]:=nG.trans<|YU.upd rfl;show⟨_,Z,_,_,Z,Z,_,Z,X4 (λhpos=>?_) λhpos=>?_⟩;show⟨_,Z,x,B,_,Z,s3 _ _ e1,Z,_,Z,_,Z,rp,_,_,_,Z,Z,cN.of<|s3 _ _ y3,ZB hq,_,Z,_,Z,x,mz,g,U,DZ,n,i,i,qq,_,Z,ra.same s3,hnd,hout,λb e=>hbe qq b e,hn,R0,Å _,λR1 G4 vW s4 n4=>?_⟩;show⟨_,_,_,Z,s3.trans s4,n3.trans n4,hl3.same s4,λ_=>⟨R1,Z,vW⟩⟩;let hp0:pts.length-(j+1)=0:=by
  have:¬(0:Int)<((pts.length-(j+1):Nat):Int):=λz=>hpos<|dA z;lia
 show⟨_,_,_,Z,s3,n3,hl3,λz=>absurd z (by lia)⟩;rintro σ G ⟨rv,v6,v7,rfl,sG,nG,nP,_⟩;rw[ö,Ċ]at nP;show⟨_,Z,?_⟩;dsimp only[Y7];show⟨λm σ G2=>g9 λv6 qs k=>Cy (σ=[À<|.ref x,À<|nV i,À<|.ref t,À<|nV r,À<|.ref rp,À rv,À v6,v7,À<|nV k]) (G2=G) (Zk G n U v6 qs i) (ZU qs k=ZU (pts++ps) i)<|m=qs.length,⟨_,v6,_,i,Z,Z,nP,Z,Z⟩,?_⟩;rintro m σ G2 ⟨v6,qs,k,rfl,rfl,hl,wZ,rfl⟩;cases qs with
 |nil=>
  cases hl;show⟨_,Z,Z,_,Z,Y5<|Y5 ⟨_,Z,_,Z,kC,λb hb=>?_⟩⟩;show q b .non _ ?_ ?_ (sG.trans<|YG.upd hb) (nG.trans<|YU.upd rfl);rw[<-wZ];show YA;rw[<-wZ];rfl
 |cons p' qs=>
  let⟨t',mz,Wh,Z,ht',hr',hl'⟩:=hl;show⟨_,Z,Z,_,Z,Y9 ⟨_,Z,t',_,0,_,Z,Z,cN.of ht',Z,?_,_,_,Z,Z,_,Z,X4 (λhq=>?_) λhq=>?_⟩⟩;show Z;show⟨λσ' H'=>∃m',m'<_/\_,λσ' H' h=>h,?_⟩;show⟨_,Z,_,_,Z,Z,_,Z,t',_,2,_,Z,Z,cN.of ht',Z,?_⟩;show⟨qs.length,û _,Wh,qs,k+1,Z,Z,hl',?_,Z⟩;rw[<-wZ];show(if_pos hq).symm;show⟨_,Z,_,Z,kC,λb hb=>?_⟩;let es:ZU (pts++ps) i=(p'::qs,k):=by
   rw[<-wZ];show if_neg hq
  show q b (.ref t') _ ?_ ?_ (sG.trans<|YG.upd hb) (nG.trans<|YU.upd rfl);rw[es];show YA;rw[es];show Zk.same (YG.upd hb) ⟨t',mz,Wh,Z,ht',hr',hl'⟩
noncomputable abbrev ϴ:Stmt:=top 57
def Jx.keep(h:Jx H rd n T ps lo)(s:∀b u,(∀xs,u≠.lst xs)->H b=À u->H' b=À u):Jx H' rd n T ps lo:=by
 let⟨o,es,e1,e2⟩:=h.ex;show⟨o,es,s _ _ (λxs z=>nomatch z) e1,e2⟩
def Zk.keep(s:∀b u,(∀xs,u≠.lst xs)->H b=À u->H' b=À u):∀{v:V}{ps:ac am}{lo:Nat},Zk H n T v ps lo->Zk H' n T v ps lo
 |v,[],_,h=>h
 |v,p::ps,lo,⟨t,rd,v',e1,e2,e3,e4⟩=>⟨t,rd,v',e1,s _ _ (λxs z=>nomatch z) e2,e3.keep s,Zk.keep s e4⟩
def ϛ:∀(ps:ac am) (i:Nat),i<=(ZU ps i).2
 |[],i=>Å i
 |p::ps,i=>by
  unfold ZU;by_cases h:eW p=Â;rw[if_pos h];show Ú (ò i)<|ϛ ps<|i+1;rw[if_neg h];show Å i
def YD8{D:Jg}(M:L2.St->Hp->Prop)(Yu:∀σ' H',M σ' H'->u D σ' H')(h:(∀σ' H',M σ' H'->u D σ' H')->t { D with nx:=u D } σ H):sC t u D σ H:=h Yu
def AW{D:Jg}(h:u D (σ.set i<|some v) H):sC (k8 (tC v)<|Y7 i) u D σ H:=h
def YL7{a b:Nat}(h:(a:Int)<Yk b):a<b:=by
 unfold Yk XG at h;split at h <;> lia
def oa{a b:Nat}(h:¬(a:Int)<Yk b)(ha:(a:Int)<fK):b<=a/\Yk b=b:=by
 unfold Yk XG at *;split at h <;> rename_i hh
 omega;show⟨by omega,by rw[if_neg hh]⟩
inductive YJj(CW CE CN CT:Addr)(vs:List V)(H:Hp)(Q:VK)(E:XK):Prop
 |mk (wd:Addr)(v:V)(d:D)(g:YS)(z:Str)(DS:List Nd)(p:Str)(F:Nd->Bool):vs=[.ref wd,v]->cx H v d->d.short=Â->XV CW H wd g z DS (À (.part p 0 z.cps.size))->ZF g z.cps.size F (À (.part p 0 z.cps.size)) DS->DS.length<=2900000->YL H->gg g z.cps.toList F->(∀ru∈g,eW ru.1=Ã)->eW p=Ã->Xz F DS z.cps.size [p] 0->(∀H' r,Xo (gE g z.cps.size DS) DS r->YG H H'->E (.ref CE) Á H')->(∀T H',Zi g z.cps.size DS T->(∀k:Nat,d=.int k->¬(k:Int)<Yk (T (.part p 0 z.cps.size)))->YG H H'->YL H'->E (.ref CN) Á H')->(∀T (k:Nat) row a H',Zi g z.cps.size DS T->d=.int k->(k:Int)<Yk (T (.part p 0 z.cps.size))->JY g T z.cps.size 0 [p] k row z.cps.size [] 0->row.length<=1000->H a=Á->H' a=À (.lst (row.map nV))->YG H H'->YL H'->Q (.ref a) H')->(∀T (k:Nat) row i q qs b H',Zi g z.cps.size DS T->d=.int k->(k:Int)<Yk (T (.part p 0 z.cps.size))->JY g T z.cps.size 0 [p] k row i (q::qs) b->so g F DS T z.cps.size i (q::qs) b->row.length=1000->YG H H'->YL H'->E (.ref CT) Á H')->YJj CW CE CN CT vs H Q E
@[ext]def YL8(CW CE CN CT:ai):Sp:=λvs H Q E=>YJj CW CE CN CT vs H Q E
def ZQ:YJ [aS,cb,bq,"rests",bP,"ahead",ck,c6,"chosen","rule","many","behind"] [aS,cb]<|YH ϴ:=dE
def YMv(T:Txt K mg C)(aB:ZN P w K mg (fe P w) 8 fg [aS,aI]<|ŀ C.Many C.Wood C.Endless)(aW:ZN P w K mg cj 1 eK [aT]<|fV Xf)(aH:Yv P w K mg cj 1 C.Wood "top" [av]<|Dh C.Wood)(bf:nz P w K mg cj 2 C.Rests [av,aS,aI,bq]<|ϐ C.Rests C.Many C.Wood)(aN:Yv P w K mg cj 2 C.Rests "first_link" [av,"top"]<|Β C.Rests C.Many)(bw:Yv P w K mg cj 2 C.Rests "choices" [av,ck,c6]<|ϸ C.Rests C.Many)(aC:Yv P w K mg cj 3 C.Rests "behind_choice" [av,ck,c6,cb]<|YFx C.Rests C.Many):Gd P w K mg (fe P w) 10 "row_at" "row_at" ϴ [aS,cb]<|YL8 C.Wood C.Endless C.NoRow C.TooGreat:=by
 let⟨m_,dG⟩:=T.dG;show j1 ZQ λH Q E hr h=>?_;let⟨wd,v,d,g,z,DS,p,F,Z,hd,hds,wa,wk,hnl,hp,hS,hh,R3,lQ,qE,qN,qR,qT⟩:=h;let hu:=Zd hr;show fO ?_;show⟨_,(YE ⟨(c_ 2 ZQ<|eT aB hr Yy.on<|YI (J 0)<|aY<|Cm T.iy (by rfl) T.jg)⟩
  (YE ⟨(Yq (PW.pt<|B7 (JL<|JE<|eT aW hr YO<|aY<|J 1)<|BU<|JL<|YIN kA nB YC (J 1)<|Dz hu (J 2) (fW (J 0) T.ak aH hr YO) YC ⟨Z,Z,Z,Z⟩) (YD<|JM Yy T.e_ rfl (by rfl) T.eZ<|aY ZX) YT)⟩
  (YE ⟨(c_ 3 ZQ<|AU bf hr T.lK YO<|YI (J 0)<|YI (Cm T.iy (by rfl) T.jg)<|aY<|J 2)⟩
  (YE (ia 4 ZQ<|lp X6)
  (YE ⟨(c_ 5 ZQ<|J 1)⟩
  (YE (ia 6 ZQ Z1)
  (YE ⟨(c_ 7 ZQ<|fJ (J 3) T.au aN hr YO<|aY<|fW (J 0) T.ak aH hr YO)⟩
  (YE ⟨(J1 PassesOwn.leaving (Yg BB (J 7) Z6<|Yd _) (YF (Yq (Yg iX (fA K T.aJ<|J 4) (wb (v:=.int 1000) (by rfl) dG ⟨_,Z⟩)<|Yd _) (YD<|JM Yy T.k_ rfl (by rfl) T.jh<|aY ZX) YT)
  (YF (c_ 8 ZQ Z6)
  (YF (sQ PassesOwn.leaving Z (ZJ K rfl<|fJ (J 3) T.au bw hr YO<|YI (J 6)<|aY<|J 7) (xS K Z (n:=2) rfl<|Zg (fm 9 ZQ)<|Zg (fm 10 ZQ) y9) (YF (Yq (Yg nB (J 5) (J 10)<|Yd _) (YF (c_ 8 ZQ<|J 9)
  (YD YM5)) YT)
  (YD<|Ϥ (i:=5) ZQ.nd rfl (Or.inl rfl) (J 10) xN)))
  (YF (YW<|fP K (J 4)<|J 8)
  (YF (c_ 11 ZQ<|fJ (J 3) T.au aC hr YO<|YI (J 6)<|YI (J 7)<|aY<|J 8)
  (YF (c_ 6 ZQ<|eL K (J 11) YC)
  (YD<|c_ 7 ZQ<|eL K (J 11) YC))))))))⟩
  (Y8 ⟨(YN<|J 4)⟩))))))))),?_⟩
 show fb λu eu=>?_;show⟨_,Z,λtX qP h1 h2 h3=>?_⟩;let s0:YG H<|upd (upd H qP<|.own tX) tX<|.ins C.Many qP []:=(YG.upd h2).put h1;show⟨wd,tX,qP,g,z,DS,_,F,Z,YA,wa.same s0,wk,hnl,(hp.upd Z).upd Z,λa o U DZ H1 hO hT na ga s1 p1=>?_,λH1 r hr s1=>qE H1 r hr<|s0.trans s1⟩;dsimp only[Y7];let sH1:=s0.trans s1;let⟨dw,lw,an,af,ae,rv,xw,j_,_⟩:=wa.ex;let gG:=wa.same sH1;let ug:=hd.same sH1;let lW:=sH1 _ _ j_;change u _ _ _;subst eu;show⟨_,Z,v,d,Z,ug,hds,p1,_,Z,?_⟩;let noN:(∀k:Nat,d=.int k->¬(k:Int)<Yk (U<|.part p 0 z.cps.size))->YNZ C.NoRow E (lx (tC<|V.str "no number of a row") lP) { nx:=λx H'=>Q V.non H',rt:=Q } [À<|.ref wd,À v,À<|.ref a,Á,Á,Á,Á,Á,Á,Á,Á,Á] H1:=λhz=>⟨kN,qN U H1 hT hz sH1 p1⟩;by_cases hw:Xf d=Ã;rw[hw];show Y9<|Y9 (noN λk e=>by rw[e]at hw;cases hw);replace hw:Xf d=Â:=by
  cases hz:Xf d with
  |true=>rfl
  |false=>show absurd hz hw
 rw[hw];show Y5 ?_;obtain⟨k,rfl⟩:∃k,d=.int k:=by
  cases d with
  |int k=>show⟨k,Z⟩
  |_=>cases hw
 obtain rfl:v=.int k:=by unfold cx at hd;show hd
 show⟨_,Z,_,_,Z,Z,_,Z,?_⟩;by_cases hk0:¬0<=k;rw[eI hk0];show Y5 ⟨_,Z,Y9 (noN λk' e=>by injection e with e;lia)⟩;replace hk0:=Decidable.not_not.mp hk0;rw[dA hk0];show Y9 ⟨_,Z,a,Z,.inr ⟨_,.inr ⟨o,ga⟩⟩,_,Z,wd,dw,_,Z,lW,Z,wd,g,z,DS,_,Z,gG,λtv vX=>?_⟩;rcases vX with ⟨e,_⟩|⟨x0,t0,e,rfl,qx⟩
 cases e;cases e;let yH:Nd.part p 0 z.cps.size∈DZ:=(hO.mem _).mpr<|wk.tp _ rfl;show⟨_,.inr ⟨_,Ye<|.part p 0 z.cps.size,t0,.inr ⟨o,ga⟩,Z,qx,(ss U yH).symm⟩,?_⟩;show⟨_,_,Z,Z,_,Z,?_⟩;by_cases qI:¬k<Yk (U<|.part p 0 z.cps.size);rw[eI qI];show Y9 (noN λk' e=>by injection e with e;rw[<-e];show qI);replace qI:=Decidable.not_not.mp qI;rw[dA qI];let⟨k,Z⟩:=Int.eq_ofNat_of_zero_le hk0;show Y5 ?_;show⟨_,Z,λtl dt g1 g2 g3=>⟨_,Z,λx B f1 f2 f3=>?_⟩⟩;let s2:YG H1<|upd (upd H1 dt<|.own tl) tl<|.ins C.Many dt []:=(YG.upd g2).put g1;let p2:YL<|upd (upd H1 dt<|.own tl) tl<|.ins C.Many dt []:=(p1.upd rfl).upd rfl;let rY:upd (upd H1 dt<|.own tl) tl (.ins C.Many dt []) tl=À (.ins C.Many dt []):=YA;revert s2 p2 rY f1 f2;generalize upd (upd H1 dt<|.own tl) tl (.ins C.Many dt [])=H2;intro f1 f2 s2 p2 rY;let s3:YG H2<|upd (upd H2 B<|.own x) x<|.ins C.Rests B []:=(YG.upd f2).put f1;let hLl:DZ.length<=2900000:=Ú (ZM hO.nd λy hy=>(hO.mem y).mp hy) hnl;show⟨H2,x,wd,tl,dt,a,B,o,g,z,DS,_,U,DZ,Z,YA,f1,s3,(p2.upd Z).upd Z,gG.same s2,rY,s2 _ _ ga,hO.nd,hLl,λH3 hRs sH3 p3=>⟨Z,?_⟩⟩;let t3:YG H H3:=(sH1.trans s2).trans sH3;dsimp only[Y7];show⟨YK<|Ë _,λro hro=>⟨_,Z,?_⟩⟩;let s4:=YG.upd (o:=.lst []) hro;let vW:upd H3 ro (.lst []) ro=À (.lst []):=YA;let p4:YL<|upd H3 ro<|.lst []:=p3.upd rfl;revert s4 vW p4;generalize upd H3 ro (.lst [])=H4;intro s4 vW p4;let t4:=t3.trans s4;let⟨nD,l,R4,R5,d',R6,bd,o',ob,xs,kb,e1,_⟩:=hRs.ex;show⟨_,Z,x,nD,_,Z,s4 _ _ e1,Z,_,Z,wd,dw,_,Z,t4 _ _ j_,Z,wd,g,z,DS,_,Z,wa.same t4,λtv vX=>?_⟩;rcases vX with ⟨e,_⟩|⟨x1,t1,e,rfl,gH⟩
 cases e;cases e;show⟨x,t1,g,U,DZ,z.cps.size,p,Z,hRs.same s4,gH,λlv H5 Qi s5 n5=>?_⟩;dsimp only[Y7];let ni:z.cps.size<=60:=fq (YPW.mp wa.tx).1;let m8:g.length<=60:=fq (YPW.mp wa.gr).1;let Qj:∀ru∈g,ru.2.1.length<=6:=λru gF=>fq (YPW.mp (YPW.mp (YPW.mp<|YPc.mp (YPW.mp wa.gr).2 ru gF).2).1).1;let hout:∀y,y∉DZ->U y=0:=λy hy=>hT.out y λz=>hy<|(hO.mem y).mpr z;let hbb:∀r d b e,Nd.beg r d b e∈DZ->b<=e/\e<=z.cps.size:=λr d b e h=>(wa.lg _<|(hO.mem _).mp h).2;let Qk:∀q b e,Nd.part q b e∈DZ->b<=e/\e<=z.cps.size:=λq b e h=>(wa.lg _<|(hO.mem _).mp h).2;let hkU:=YL7 qI;let hkM:(k:Int)<fK:=Int.lt_of_lt_of_le qI<|Zw _;let hk1:k<Nc U z.cps.size [p] 0:=by
  have:=YLg (l:=List.range<|z.cps.size+1) (f:=λe=>U (.part p 0 e)*Nc U z.cps.size [] e) (a:=z.cps.size)<|YPY.mpr<|û _;show á hkU<|Ú ?_ this;change _<=U (.part p 0 z.cps.size)*(if z.cps.size=z.cps.size then 1 else 0);rw[if_pos Z,Nat.mul_one];show Å _
 show⟨λm σ G=>Ex9 λ(row:ac Nat) (i:Nat) (qs:ac am) (b:Nat) (lv:V) (v8 v9 je pQ:ag V)=>zw (σ=[À<|.ref wd,À<|nV k,À<|.ref a,À<|.ref x,À<|.ref ro,À<|nV b,À<|nV i,À lv,v8,v9,je,pQ]) (YG H3 G) (YL G) (G ro=À (.lst<|row.map nV)) (Zk G z.cps.size U lv qs i) (so g F DS U z.cps.size i qs b) (JY g U z.cps.size 0 [p] k row i qs b) ((b:Int)<fK) (row.length<=1000)<|m=1000-row.length,
  ⟨_,[],0,[p],k,lv,Á,Á,Á,Á,Z,s4.trans s5,YL.new p4 n5,s5 _ _ vW,Qi,⟨Ë _,hk1,lQ,λp' ps' e=>by cases e;show R3⟩,.nil,hkM,Ë _,Z⟩,?_⟩
 rintro m σ G ⟨row,i,qs,b,lv,v8,v9,je,pQ,rfl,sG,pG,hG,hl,hA,hR,hbM,hrl,rfl⟩;let rsG:=hRs.same sG;let hxG:=sG _ _ e1;cases qs with
 |nil=>
  cases hl;let DT:=hA.lt;let DU:i=z.cps.size:=Decidable.byContradiction λzz=>by
   rw[show Nc U z.cps.size [] i=0 from if_neg zz]at DT;cases DT
  let R7:b=0:=by
   rw[show Nc U z.cps.size [] i=1 from if_pos DU]at DT;lia
  subst DU R7;show⟨_,Z,Z,_,Z,Y5 ⟨_,Z,qR U k row ro G hT Z qI hR hrl (t3.free hro) hG (t3.trans sG) pG⟩⟩
 |cons q qs=>
  let⟨t,rd,uw,Z,ht,hrs,hl'⟩:=hl;show⟨_,Z,Z,_,Z,Y9 ⟨λσ' H'=>∃m',m'<_/\_,λσ' H' h=>h,?_⟩⟩;show⟨_,Z,ro,_,Z,.inl<|bG.of hG,Z,_,Z,X4 (λhlen=>?_) λhlen=>?_⟩;have:row.length=1000:=by
   have:=fq hlen;injection this with this;rw[Ä]at this;lia
  show⟨kN,qT U k row i q qs b G hT Z qI hR hA this (t3.trans sG) pG⟩;let DT:row.length<1000:=Decidable.byContradiction λzz=>hlen<|dA (by rw[Ä,show row.length=1000 by lia];rfl);dsimp only[Y7];let hsum:b<Yt (YM g q) λr=>fG U z.cps.size r (ZH g r) i qs:=hA.sum (cs:=z.cps.toList) hS wk hT;let hne:YM g q≠[]:=λzz=>by
   rw[zz,JO]at hsum;cases hsum
  show AW ?_;dsimp only;show fb λu eu=>?_;show YD8 (λσ' G2=>BC λr a' v9 je=>AM (σ'=[À<|.ref wd,À<|nV k,À<|.ref a,À<|.ref x,À<|.ref ro,À<|nV a',À<|nV i,À<|.ref t,À<|nV r,v9,je,pQ]) (hV (λr=>fG U z.cps.size r (ZH g r) i qs) (YM g q) b r a') (YG G G2)<|YL G2) ?_ λYu=>?_;rintro σ' G2 ⟨r,a',v9,je,rfl,g_,s6,p6⟩;let⟨ru,gF,_⟩:=ZO.mp g_.mem;let hG6:=s6 _ _ hG;change u _ _ _;subst eu;show fb λu eu=>?_;show⟨_,Z,.inl ⟨Z,_,bG.of hG6⟩,_,Z,ro,_,_,Z,Z,hG6,by rw[sizeLine_eq,Ä];lia,?_⟩;let kp:∀b u,(∀xs,u≠.lst xs)->G2 b=À u->upd G2 ro (.lst<|row.map nV++[nV r]) b=À u:=λb u n h=>YY hG6 (n _) h;let s7:YG H3<|upd G2 ro<|.lst<|row.map nV++[nV r]:=(sG.trans s6).put hro;let p7:YL<|upd G2 ro<|.lst<|row.map nV++[nV r]:=p6.upd rfl;let h7:upd G2 ro (.lst<|row.map nV++[nV r]) ro=À (.lst<|row.map nV++[nV r]):=YA;let r7:=(hrs.same s6).keep kp;let l7:=Zk.keep kp<|hl'.same s6;let t7:=kp t (.tup [.str q,.ref rd,uw]) (λxs z=>nomatch z)<|s6 _ _ ht;revert s7 p7 h7 r7 l7 t7;generalize upd G2 ro (.lst<|row.map nV++[nV r])=G7;intro s7 p7 h7 r7 l7 t7;change u _ _ _;subst eu;show fb λu eu=>?_;show⟨_,Z,x,nD,_,Z,s7 _ _ e1,Z,_,Z,_,Z,_,Z,x,t,rd,g,U,DZ,z.cps.size,i,i,r,ru,q,qs,uw,Z,hRs.same s7,hO.nd,hout,Qk,ni,gF,by have:=Qj ru<|Ð gF;lia,t7,r7,l7,Å _,λbb v G8 vY ux s8 n8=>?_⟩;change u _ _ _;subst eu;show⟨_,Z,bb,_,0,_,Z,Z,cN.of vY,Z,_,Z,bb,_,1,_,Z,Z,cN.of vY,Z,?_⟩;let⟨A,DY,_,hab,_⟩:=id g_;show⟨1000-(row++[r]).length,by rw[È];change 1000-(row.length+1)<_;lia,row++[r],_,_,a',v,_,_,_,_,Z,s7.trans s8,YL.new p7 n8,?_,ux.mono<|ϛ _ _,hA.step (cs:=z.cps.toList) hh hS wk hT g_ gF,hR.app<|.cons g_ gF .nil,by lia,by rw[È];change row.length+1<=1000;lia,Z⟩;rw[Î];show s8 _ _ h7;show⟨_,Z,x,nD,_,Z,hxG,Z,_,Z,_,Z,x,t,rd,g,U,DZ,z.cps.size,i,i,q,qs,uw,Z,rsG,hout,hbb,ni,m8,ht,hrs,Å _,hne,λc us cl G' hc hP hsub hz s' n'=>?_⟩;show⟨c,Z,⟨_,bG.of hc⟩,ZL (K:=K) (a:=c) (xs:=us) (λj σ G2=>g9 λ(a':Nat) (v9 je:ag V)=>vb (σ=[À<|.ref wd,À<|nV k,À<|.ref a,À<|.ref x,À<|.ref ro,À<|nV a',À<|nV i,À<|.ref t,À .non,v9,je,pQ]) (G2=G')<|b=Yt (cl.take j) (λr=>fG U z.cps.size r (ZH g r) i qs)+a') ⟨b,v9,je,Z,Z,by rw[List.take_zero,JO,ā]⟩ (λj σ G2 _ ⟨_,_,_,_,e,_⟩=>by rw[e];show bG.of hc) ?_ ?_⟩;rintro j u σ _ hj ⟨a',v9,je,rfl,rfl,eb⟩;let hjl:j<cl.length:=by rw[<-hP.1];show(YOx.mp hj).1
  let er:cl[j]?=À cl[j]:=Ê hjl;let ecl:cl=cl.take j++cl[j]::cl.drop (j+1):=by rw[<-í hjl,Ĝ]
  let etk:cl.take (j+1)=cl.take j++[cl[j]]:=by rw[â,er];rfl
  revert er ecl etk;generalize cl[j]=r;intro er ecl etk;let⟨t',Z,ht'⟩:=hP.2 j u r hj er;show⟨t',_,Z,cN.of ht',Z,_,_,Z,_,_,Z,Z,?_⟩;show fb λu eu=>?_;show⟨_,Z,_,Z,_,_,Z,Z,_,Z,X4 (λhlt'=>?_) λhlt'=>?_⟩;let hlt2:=YL7<|fq hlt';show⟨_,Z,Yu _ _ ⟨r,a',_,_,Z,YOW hsub (Ct g q) hz ⟨cl.take j,cl.drop<|j+1,ecl,eb,hlt2⟩,s',YL.new pG n'⟩⟩;let⟨c1,c2⟩:=oa (λz=>hlt'<|dA z) (show(a':Int)<fK by lia);let c3:V.int ((a':Int)-Yk (fG U z.cps.size r (ZH g r) i qs))=nV (a'-fG U z.cps.size r (ZH g r) i qs):=by
   rw[c2,<-Int.ofNat_sub c1];rfl
  change u _ _ _;subst eu;show⟨_,Z,_,Z,_,_,Z,Z,?_⟩;dsimp only;rw[c3];show⟨a'-fG U z.cps.size r (ZH g r) i qs,_,_,Z,Z,?_⟩;rw[etk,Jk];change _=_+(fG U z.cps.size r (ZH g r) i qs+0)+_;lia;rintro σ G2 ⟨a',v9,je,rfl,rfl,eb⟩;rw[hP.1,æ]at eb;have:=YLi hsub (Ct g q) hz;show absurd hsum (by rw[<-this];show Nat.not_lt.mpr (by lia))
section
variable {g:YS}{cs:ac Nat}{hs:Hs}
def Ŧ(hg:Y4 g=Â)(st:J9 g cs hs)(hb:A8 g cs hs):gg g cs<|dX<|hs.map (·.1):=by
 let ex:∀{x:Nd},dX (hs.map (·.1)) x=Â->∃v,YQ hs x=À v:=λh=>AZ<|fq h;let mk:∀{x:Nd}{v:Nat},YQ hs x=À v->dX (hs.map (·.1)) x=Â:=λh=>dA<|Ŕ h;show⟨λx h=>?_,λr i hr hi=>mk<|hb.bg r i hr hi,λr i j h=>?_,λi c h=>mk<|hb.sg i c h,λr d i k p j hp h1 h2=>?_,λr ru i j hr h=>?_⟩;let⟨v,hv⟩:=ex h;show st.leg x v hv;let⟨v,hv⟩:=ex h;rcases st.why _ v hv with ⟨_,e,_⟩|⟨d',_,_,_,_,e,_⟩
 show e;cases e;let⟨a,ha⟩:=ex h1;let⟨b,hb'⟩:=ex h2;let⟨v,hv,_⟩:=st.cl.join r d i k p j a b ⟨a,ha⟩ ⟨b,hb'⟩ hp ha hb';show mk hv;let⟨a,ha⟩:=ex h;let⟨v,hv,_⟩:=st.cl.up r ru i j a hr ⟨a,ha⟩ ha;show mk hv
end
def YOk(h:Nd.part p 0 n∈DS):Xz F DS n [p] 0:=λe he _ hc=>by
 let hc:e=n:=hc;subst hc;show⟨h,trivial⟩
def YJk(h:ZG p=Â)(hq:eW p=Â):p=Zp (gN p):=by
 let h1:=YEH h hq;unfold ZG at h;rw[Ć]at h;rcases h with h|h
 unfold rq at h;rw[Ó,Ó]at h;let h2:p.cps.size=2:=eq_of_beq h.1.1;rw[AY]at hq;let hq:=fq hq;let e:p.cps.toList=[39,gN p]:=by
  let l2:p.cps.toList.length=2:=by rw[ì];show h2
  let e1:p.cps.toList[1]?=À (gN p):=by
   let g1:p.cps.toList[1]?=À p.cps.toList[1]:=Ê (by omega);have:=ZB (j:=1) g1;let h1':fS p.cps.toList ((1:Nat):Int)=À (gN p):=h1;rw[h1']at this;rw[g1,<-this]
  match hp:p.cps.toList,l2 with
  |[a,b],_=>
   rw[hp]at hq e1;cases hq;cases e1;rfl
 let e3:(Zp<|gN p).cps.toList=[39,gN p]:=by
  unfold Zp;rw[ţ]
 cases p with
 |mk cps=>
  generalize Zp _=q at e3 ⊢;cases q with
  |mk cq=>
   congr 1;apply Array.toList_inj.mp;rw[e3];show e
 rw[AY]at hq;let hq:=fq hq;unfold dy at h;rw[Ó]at h;show absurd (YPc.mp h.2 39<|Ð hq) (by decide)
def YL9(hg:Y4 g=Â)(hS:gg g cs F)(h:Js g ps ks sg):∀i,i<=cs.length->cs.drop i=sg->(∀p∈ps,ZG p=Â)->∃W,kG (λy=>F y=Â) (λ_=>0) ps i cs.length W:=by
 induction h with
 |nil=>
  intro i hi e _;have:=YQh.mp e;obtain rfl:i=cs.length:=by lia
  show⟨0,.nil⟩
 |@sign p ws ks sg hq _ ih=>
  intro i hi e hp;let DT:i<cs.length:=Decidable.byContradiction λz=>by
   rw[YQh.mpr (by lia)]at e;cases e
  rw[í DT]at e;let⟨e1,e2⟩:=List.cons.inj e;let⟨W,hW⟩:=ih (i+1) DT e2 λp hp'=>hp p<|Ç _ hp';show⟨_,.cons (e:=i+1) ?_ hW⟩;rw[YJk (hp p<|É ..) hq];show hS.sign i _ (by rw[Ê DT,e1])
 |@name r ws k ks sg hq hk _ ih=>
  intro i hi e hp;let⟨W,hW⟩:=ih i hi e λp hp'=>(YPD.mp hp').elim ((JN<|Jj hg hk).2 p) λh=>hp p<|Ç _ h;let⟨e,W1,W2,h1,h2,_⟩:=hW.split;show⟨_,.cons (hS.up k r i e hk<|YLk hS (λ_ h=>h) hk (m:=r.2.1.length) (d:=0) (ā _) h1<|hS.zero k i (YOx.mp hk).1 hi) h2⟩
def YOl{Yu:YS}(eg:g=r0::Yu)(hg:Y4 g=Â)(st:J9 g cs hs)(hb:A8 g cs hs)(h:Js g [r0.1] ks cs):lS g cs.length (hs.map (·.1))=À (.part r0.1 0 cs.length):=by
 let⟨W,hW⟩:=YL9 hg (Ŧ hg st hb) h 0 (Ë _) Z λp hp=>by
  cases YO0.mp hp;show XT<|Ε<|Jj hg (i:=0) (by rw[eg];rfl)
 cases hW with
 |cons hm h=>
  cases h;unfold lS;subst eg;change(if _ then _ else _)=_;rw[if_pos hm]
section
variable {g:YS}{n:Nat}{F:Nd->Bool}{DS DZ:ac Nd}{top:ag Nd}{T U:Nd->Nat}
end
section
variable {g:YS}{cs:ac Nat}{hs:Hs}{DS DZ:ac Nd}{top:ag Nd}{T:Nd->Nat}
end
section
variable {g:YS}{cs:ac Nat}{F:Nd->Bool}{DS:ac Nd}{top:ag Nd}{T:Nd->Nat}
def kG.compF(hS:gg g cs F)(h:kG (λy=>F y=Â) wt ps i j W)(hj:j=cs.length):sP F cs.length ps i:=by
 induction h with
 |nil=>show hj
 |@cons p ps i e j W hm _ ih=>show⟨e,(hS.leg _ hm).2.2,hm,ih hj⟩
def YMA(hg:Y4 g=Â)(hh:∀ru∈g,eW ru.1=Ã)(hS:gg g cs F)(hW:ZF g cs.length F top DS)(hT:Zi g cs.length DS T)(h:Js g ps ks sg):∀i,i<=cs.length->cs.drop i=sg->(∀p∈ps,ZG p=Â)->Xz F DS cs.length ps i->∃a,a<Nc T cs.length ps i/\JY g T cs.length (ZU ps i).2 (ZU ps i).1 a ks cs.length [] 0:=by
 induction h with
 |nil=>
  intro i hi e _ _;have:=YQh.mp e;obtain rfl:i=cs.length:=by lia
  show⟨0,by change 0<(if _ then 1 else 0);rw[if_pos Z];decide,.nil⟩
 |@sign p ws ks sg hq iu ih=>
  intro i hi e hp hG;let DT:i<cs.length:=Decidable.byContradiction λz=>by
   rw[YQh.mpr (by lia)]at e;cases e
  rw[í DT]at e;let⟨e1,e2⟩:=List.cons.inj e;let hp':∀q∈ws,ZG q=Â:=λq hq'=>hp q<|Ç _ hq';let⟨W,hWd⟩:=YL9 hg hS iu (i+1) DT e2 hp';let hf:F (.part p i<|i+1)=Â:=by
   rw[YJk (hp p<|É ..) hq];show hS.sign i _ (by rw[Ê DT,e1])
  let⟨g1,g2⟩:=hG (i+1) DT hf<|hWd.compF hS rfl;let⟨a,ha,hr⟩:=ih (i+1) DT e2 hp' g2;show⟨a,?_,by unfold ZU;rw[if_pos hq];show hr⟩;have:=YLg (l:=List.range<|cs.length+1) (f:=λe=>T (.part p i e)*Nc T cs.length ws e) (a:=i+1)<|YPY.mpr (by lia);show á ha<|Ú ?_ this;let h1:T (.part p i<|i+1)=1:=by
   rw[hT.eq _ g1,Yf,if_pos hq];rfl
  change _<=T (.part p i<|i+1)*_;rw[h1,Nat.one_mul];show Å _
 |@name r ws k ks sg hq hk iu ih=>
  intro i hi e hp hG;let⟨f1,f2⟩:=Ck hS hW hT hk hq hi hG;let⟨a,ha,hr⟩:=ih i hi e (λp hp'=>(YPD.mp hp').elim ((JN<|Jj hg hk).2 p) λh=>hp p<|Ç _ h) f2;rw[<-f1,<-vx hk]at ha;let⟨A,DY,eAB⟩:=List.append_of_mem<|ZO.mpr ⟨r,hk,Z⟩;let g_:hV (λr=>fG T cs.length r (ZH g r) i ws) (YM g r.1) (Yt A (λr=>fG T cs.length r (ZH g r) i ws)+a) k a:=⟨A,DY,eAB,Z,ha⟩;show⟨_,?_,by unfold ZU;rw[if_neg (by rw[hq];decide)];show .cons g_ hk hr⟩;rw[Ŏ hS hW hT hq hG,eAB,Jk,YX];show Nat.add_lt_add_left (á ha<|Nat.le_add_right _ _) _
def YMw(hg:Y4 g=Â)(hh:∀ru∈g,eW ru.1=Ã)(hS:gg g cs F)(hW:ZF g cs.length F top DS)(hT:Zi g cs.length DS T)(h:Js g [p] ks cs)(hq:eW p=Ã)(hp:ZG p=Â)(hG:Xz F DS cs.length [p] 0):∃a,a<Nc T cs.length [p] 0/\JY g T cs.length 0 [p] a ks cs.length [] 0:=by
 have:=YMA hg hh hS hW hT h 0 (Ë _) Z (λq hq=>by rw[YO0.mp hq];show hp) hG;unfold ZU at this;rw[if_neg (by rw[hq];decide)]at this;show this
def zt(hW:ZF g n F top DS)(hT:Zi g n DS T)(hl:∀e,Nd.part p 0 e∈DS->e<=n):Nc T n [p] 0=T (.part p 0 n):=by
 change Yt _ _=_;rw[Dd Ę<|YPY.mpr (show n<n+1 by lia)];change _*(if n=n then 1 else 0)=_;rw[if_pos Z,Nat.mul_one];intro e _ hne;change _*(if e=n then 1 else 0)=0;rw[if_neg hne,î]
end
@[ext]def ou(v:Int)(a:Nat):Prop:=v=(a:Int)\/(fK<=v/\fK<=(a:Int))
def ou.add(h:ou v a)(b:Nat):ou (v+Yk b)<|a+b:=by
 let hM:(0:Int)<=fK:=by unfold fK;decide
 unfold ou Yk XG at *;rcases h with h|⟨h1,h2⟩ <;> split <;> lia
def YKt(hl:l.Pairwise (·<·))(h:hV N l a r a'):a=Yt (l.filter λx=>decide (x<r)) N+a':=by
 let⟨A,DY,Z,e,_⟩:=h;rw[List.pairwise_append]at hl;let⟨_,h2,h3⟩:=hl;rw[YQq]at h2;let e1:(A++r::DY).filter (λx=>decide (x<r))=A:=by
  rw[ė,List.filter_eq_self.mpr λx S=>dA<|h3 x S r<|É ..,List.filter_eq_nil_iff.mpr,ß];intro x S z;let z:=fq z;rcases YO9.mp S with e|S
  lia;have:=h2.1 x S;lia
 rw[e1];show e
noncomputable abbrev ŝ:Stmt:=top 58
def Co(ks:ac Nat):Ya H (ks.map nV)<|ks.map gS:=by
 induction ks with
 |nil=>unfold Ya;trivial
 |cons k ks ih=>rw[Ö,Ö];unfold Ya;show⟨by unfold cx;rfl,ih⟩
def YKu(ks:ac Nat):(D.lst<|ks.map gS).short=Â:=by
 unfold D.short;show Dg λd hd=>?_;let⟨k,_,Z⟩:=YPR.mp hd;unfold gS D.short;rfl
def YMx(hg:Y4 g=Â)(h:r∈g):ZG r.1=Â:=by
 show XT (YPW.mp<|YPc.mp (YPW.mp hg).2 r h).1
def ou.fin2(h:ou v<|a-0):XG v=Yk a:=by
 unfold ou Yk XG at *;rcases h with h|⟨h1,h2⟩ <;> split <;> split <;> lia
def JY.inv(h:JY g T n i qs b (r::row) j rs c):∃p ps a' ru,qs=p::ps/\hV (λr=>fG T n r (ZH g r) i ps) (YM g p) b r a'/\g[r]?=À ru/\JY g T n (ZU (ru.2.1++ps) i).2 (ZU (ru.2.1++ps) i).1 a' row j rs c:=by
 cases h with
 |cons h1 h2 h3=>show⟨_,_,_,_,Z,h1,h2,h3⟩
inductive YFz(CW CE:Addr)(vs:List V)(H:Hp)(Q:VK)(E:XK):Prop
 |mk (wd y:Addr)(ks:List Nat)(g:YS)(z:Str)(DS:List Nd)(F:Nd->Bool)(r0:fU)(Yu:YS):vs=[.ref wd,.ref y]->H y=À (.lst (ks.map nV))->ks.length<=1000->XV CW H wd g z DS (À (.part r0.1 0 z.cps.size))->ZF g z.cps.size F (À (.part r0.1 0 z.cps.size)) DS->DS.length<=2900000->YL H->gg g z.cps.toList F->(∀ru∈g,eW ru.1=Ã)->g=r0::Yu->Xz F DS z.cps.size [r0.1] 0->Js g [r0.1] ks z.cps.toList->(∀H' r,Xo (gE g z.cps.size DS) DS r->YG H H'->E (.ref CE) Á H')->(∀T k H',Zi g z.cps.size DS T->JY g T z.cps.size 0 [r0.1] k ks z.cps.size [] 0->k<Nc T z.cps.size [r0.1] 0->YG H H'->YL H'->Q (.int (Yk k)) H')->YFz CW CE vs H Q E
@[ext]def ſ(CW CE:ai):Sp:=λvs H Q E=>YFz CW CE vs H Q E
def ZK:YJ [aS,bP,bq,"rests","ahead",ck,c6,"chosen","rule","many","behind"] [aS,bP]<|YH ŝ:=dE
def YJl(T:Txt K mg C)(aB:ZN P w K mg (fe P w) 8 fg [aS,aI]<|ŀ C.Many C.Wood C.Endless)(iU:ZN P w K mg (fe P w) 8 "text_of" [cE,bP]<|YIp C.NoGrammar C.NoRow)(az:Yv P w K mg cj 1 C.Wood fw [av]<|Ŗ C.Wood)(cT:Yv P w K mg cj 1 C.Wood "told_text" [av]<|YLs C.Wood)(bf:nz P w K mg cj 2 C.Rests [av,aS,aI,bq]<|ϐ C.Rests C.Many C.Wood)(aN:Yv P w K mg cj 2 C.Rests "first_link" [av,"top"]<|Β C.Rests C.Many)(aH:Yv P w K mg cj 1 C.Wood "top" [av]<|Dh C.Wood)(bw:Yv P w K mg cj 2 C.Rests "choices" [av,ck,c6]<|ϸ C.Rests C.Many)(aC:Yv P w K mg cj 3 C.Rests "behind_choice" [av,ck,c6,cb]<|YFx C.Rests C.Many):Gd P w K mg (fe P w) 10 "place_of" "place_of" ŝ [aS,bP]<|ſ C.Wood C.Endless:=by
 show j1 ZK λH Q E hr h=>?_;let⟨wd,y,ks,g,z,DS,F,r0,Yu,Z,hy,hkl,wa,wk,hnl,hp,hS,hh,eg,lQ,iu,qE,qR⟩:=h;let hu:=Zd hr;show fO ?_;show⟨_,(YE ⟨(c_ 2 ZK<|eT aB hr Yy.on<|YI (J 0)<|aY<|Cm T.iy (by rfl) T.jg)⟩
  (YE ⟨(Yq (Yg Ķ (eT iU hr Yy.on<|YI (fW (J 0) T.ak az hr YO)<|aY<|J 1) (fW (J 0) T.ak cT hr YO)<|Yd _) (YD<|JM Yy T.e_ rfl (by rfl) T.eZ<|aY ZX) YT)⟩
  (YE ⟨(c_ 3 ZK<|AU bf hr T.lK YO<|YI (J 0)<|YI (Cm T.iy (by rfl) T.jg)<|aY<|J 2)⟩
  (YE (ia 4 ZK Z1)
  (YE (ia 5 ZK Z1)
  (YE ⟨(c_ 6 ZK<|fJ (J 3) T.au aN hr YO<|aY<|fW (J 0) T.ak aH hr YO)⟩
  (YE ⟨(sQ PassesOwn.leaving Z (ZJ K rfl<|J 1) (fm 7 ZK) (YF (sQ PassesOwn.leaving Z (ZJ K rfl<|fJ (J 3) T.au bw hr YO<|YI (J 5)<|aY<|J 6) (xS K Z (n:=2) rfl<|Zg (fm 8 ZK)<|Zg (fm 9 ZK) y9)<|YD<|Yq (Yg nB (J 8) (J 7)<|Yd _) (YD<|Ϥ (i:=4) ZK.nd rfl (Or.inl rfl) (J 9) YM9) YT)
  (YF (c_ 10 ZK<|fJ (J 3) T.au aC hr YO<|YI (J 5)<|YI (J 6)<|aY<|J 7)
  (YF (c_ 5 ZK<|eL K (J 10) YC)
  (YD<|c_ 6 ZK<|eL K (J 10) YC)))))⟩
  (Y8 ⟨(YN<|Yc (XQ rfl) (by rfl) T.jf Ĕ<|YI (J 4)<|aY<|YR oV YC YC)⟩)))))))),?_⟩
 show fb λu eu=>?_;show⟨_,Z,λtX qP h1 h2 h3=>?_⟩;let s0:YG H<|upd (upd H qP<|.own tX) tX<|.ins C.Many qP []:=(YG.upd h2).put h1;show⟨wd,tX,qP,g,z,DS,_,F,Z,YA,wa.same s0,wk,hnl,(hp.upd Z).upd Z,λa o U DZ H1 hO hT na ga s1 p1=>?_,λH1 r hr s1=>qE H1 r hr<|s0.trans s1⟩;dsimp only[Y7];let sH1:=s0.trans s1;let⟨dw,lw,an,af,ae,rv,xw,j_,_⟩:=wa.ex;let gG:=wa.same sH1;let lW:=sH1 _ _ j_;change u _ _ _;subst eu;let⟨Wi,wD,esg⟩:=Js.read wa.gr eg iu;show fb λu eu=>?_;show⟨_,Z,wd,dw,_,Z,lW,Z,wd,g,z,DS,_,Z,gG,λla xs2 H2 hla hl2 yI s2 n2=>⟨_,Z,?_⟩⟩;let p2:=YL.new p1 n2;let sH2:=sH1.trans s2;show⟨.ref la,.ref y,ip g,.lst<|ks.map gS,Z,.lst (.inl hl2) yI,YFQ wa.gr,.lst (.inl<|sH2 _ _ hy)<|Co ks,YKu ks,λds e=>by cases e;rw[Ä];lia,p2,λg' e hg'=>?_,λe=>by rw[Υ,wa.gr]at e;cases e⟩;cases YGp e;let Wj:Ľ g (.lst<|ks.map gS)=À Wi:=wD;show⟨λrd H3 er s3 p3=>?_,λen=>by rw[Wj]at en;cases en⟩;rw[Wj]at er;cases er;let sH3:=sH2.trans s3;show⟨_,Z,wd,dw,_,Z,sH3 _ _ j_,Z,wd,g,z,DS,_,Z,wa.same sH3,Z,_,Z,?_⟩;let ez:(⟨Wi.sg.toArray⟩:am)=z:=by rw[esg]
 rw[ez,dA Z];show Y5 ?_;change u _ _ _;subst eu;show fb λu eu=>?_;show⟨_,Z,λtl dt g1 g2 g3=>⟨_,Z,λx B f1 f2 f3=>?_⟩⟩;let s4:YG H3<|upd (upd H3 dt<|.own tl) tl<|.ins C.Many dt []:=(YG.upd g2).put g1;let p4:YL<|upd (upd H3 dt<|.own tl) tl<|.ins C.Many dt []:=(p3.upd rfl).upd rfl;let rZ:upd (upd H3 dt<|.own tl) tl (.ins C.Many dt []) tl=À (.ins C.Many dt []):=YA;revert s4 p4 rZ f1 f2;generalize upd (upd H3 dt<|.own tl) tl (.ins C.Many dt [])=H4;intro f1 f2 s4 p4 rZ;let s5:YG H4<|upd (upd H4 B<|.own x) x<|.ins C.Rests B []:=(YG.upd f2).put f1;let hLl:DZ.length<=2900000:=Ú (ZM hO.nd λy hy=>(hO.mem y).mp hy) hnl;let R8:=((s2.trans s3).trans s4) _ _ ga;show⟨H4,x,wd,tl,dt,a,B,o,g,z,DS,_,U,DZ,Z,YA,f1,s5,(p4.upd Z).upd Z,wa.same<|sH3.trans s4,rZ,R8,hO.nd,hLl,λH5 hRs sH5 p5=>⟨Z,?_⟩⟩;let t5:YG H H5:=(sH3.trans s4).trans sH5;change u _ _ _;subst eu;let⟨nD,l,R4,R5,d',R6,bd,o',ob,xs,kb,e1,_⟩:=hRs.ex;show AW<|AW ?_;show fb λu eu=>?_;show⟨_,Z,x,nD,_,Z,e1,Z,_,Z,wd,dw,_,Z,t5 _ _ j_,Z,wd,g,z,DS,_,Z,wa.same t5,λtv vX=>?_⟩;rcases vX with ⟨e,_⟩|⟨x1,t1,e,rfl,gH⟩
 cases e;cases e;show⟨x,t1,g,U,DZ,z.cps.size,r0.1,Z,hRs,gH,λlv H6 Qi s6 n6=>?_⟩;change u _ _ _;subst eu;let ni:z.cps.size<=60:=fq (YPW.mp wa.tx).1;let m8:g.length<=60:=fq (YPW.mp wa.gr).1;let Qj:∀ru∈g,ru.2.1.length<=6:=λru gF=>fq (YPW.mp (YPW.mp (YPW.mp<|YPc.mp (YPW.mp wa.gr).2 ru gF).2).1).1;let hout:∀y,y∉DZ->U y=0:=λy hy=>hT.out y λz=>hy<|(hO.mem y).mpr z;let hbb:∀r d b e,Nd.beg r d b e∈DZ->b<=e/\e<=z.cps.size:=λr d b e h=>(wa.lg _<|(hO.mem _).mp h).2;let Qk:∀q b e,Nd.part q b e∈DZ->b<=e/\e<=z.cps.size:=λq b e h=>(wa.lg _<|(hO.mem _).mp h).2;let mJ:r0∈g:=by rw[eg];show É
 let⟨k,hk1,hk2⟩:=YMw (cs:=z.cps.toList) wa.gr hh hS wk hT iu (hh _ mJ) (YMx wa.gr mJ) lQ;let s7:=t5.trans s6;let p7:=YL.new p5 n6;let R9:=s7 _ _ hy;let e7:=s6 _ _ e1;show fb λu eu=>?_;show⟨_,Z,y,Z,⟨_,bG.of R9⟩,ZL (K:=K) (a:=y) (xs:=ks.map nV) (λj σ G=>Ex9 λ(i:Nat) (qs:ac am) (b:Nat) (c:Int) (lv:V) (v7 v8 v9 je:ag V)=>xu (σ=[À<|.ref wd,À<|.ref y,À<|.ref a,À<|.ref x,À<|.int c,À<|nV i,À lv,v7,v8,v9,je]) (YG H5 G) (YL G) (Zk G z.cps.size U lv qs i) (so g F DS U z.cps.size i qs b) (JY g U z.cps.size i qs b (ks.drop j) z.cps.size [] 0) (b<=k)<|ou c<|k-b)
  ⟨0,[r0.1],k,0,lv,Á,Á,Á,Á,Z,s6,p7,Qi,⟨Ë _,hk1,lQ,λp' ps' e=>by cases e;show hh _ mJ⟩,hk2,Å _,.inl (by rw[ö];rfl)⟩ (by rintro j σ G _ ⟨_,_,_,_,_,_,_,_,_,_,s,_⟩;show bG.of<|(t5.trans s) _ _ hy) ?_ ?_⟩
 rintro j vj σ G hj ⟨i,qs,b,c,lv,v7,v8,v9,je,rfl,sG,pG,hl,hA,hR,hb,hc⟩;let hjl:j<ks.length:=by have:=(YOx.mp hj).1;rw[Ä]at this;show this
 obtain rfl:nV ks[j]=vj:=by rw[Ï,Ê hjl]at hj;show Û hj
 rw[í hjl]at hR;revert hR;generalize ks[j]=r;intro hR;let⟨p,ps,a',ru,Z,g_,gF,hR'⟩:=hR.inv;let⟨t,rd,uw,Z,ht,hrs,hl'⟩:=hl;let hxG:=sG _ _ e1;let rsG:=hRs.same sG;let hne:YM g p≠[]:=λzz=>by
  have:=g_.mem;rw[zz]at this;cases this
 let yJ:=YKt (CQ g p) g_;show fb λu2 vZ=>?_;show⟨_,Z,x,nD,_,Z,hxG,Z,_,Z,_,Z,x,t,rd,g,U,DZ,z.cps.size,i,i,p,ps,uw,Z,rsG,hout,hbb,ni,m8,ht,hrs,Å _,hne,λcc us cl G' hcc hP hsub hz s' n'=>?_⟩;show⟨cc,Z,⟨_,bG.of hcc⟩,ZL (K:=K) (a:=cc) (xs:=us) (λm σ G2=>g9 λ(c':Int) (v8 v9:ag V)=>vb (σ=[À<|.ref wd,À<|.ref y,À<|.ref a,À<|.ref x,À<|.int c',À<|nV i,À<|.ref t,À<|nV r,v8,v9,je]) (G2=G')<|ou c'<|k-b+Yt ((cl.take m).filter λx=>decide (x<r)) λr=>fG U z.cps.size r (ZH g r) i ps) ⟨c,v8,v9,Z,Z,hc⟩ (by rintro m σ G2 _ ⟨_,_,_,_,e,_⟩;rw[e];show bG.of hcc) ?_ ?_⟩;rintro m um σ _ hm ⟨c',v8,v9,rfl,rfl,ec⟩;let jR:m<cl.length:=by rw[<-hP.1];show(YOx.mp hm).1
 let er:cl[m]?=À cl[m]:=Ê jR;let etk:cl.take (m+1)=cl.take m++[cl[m]]:=by rw[â,er];rfl
 revert er etk;generalize cl[m]=r';intro er etk;let⟨t',Z,ht'⟩:=hP.2 m um r' hm er;show⟨t',_,Z,cN.of ht',Z,_,_,Z,_,_,Z,Z,?_⟩;show⟨_,Z,_,Z,_,_,Z,Z,_,Z,X4 (λhlt'=>?_) λhlt'=>?_⟩;let h3:r'<r:=Int.ofNat_lt.mp<|fq hlt';show⟨_,Z,_,Z,_,_,Z,Z,_,_,_,Z,Z,?_⟩;rw[etk,ė,Jk,List.filter_cons_of_pos (p:=λx=>decide (x<r))<|dA h3,List.filter_nil,YX,JO,Nat.add_zero,<-Nat.add_assoc];show ec.add _;let h3:¬r'<r:=λzz=>hlt'<|dA<|Int.ofNat_lt.mpr zz;show⟨c',_,_,Z,Z,?_⟩;rw[etk,ė,List.filter_cons_of_neg (p:=λx=>decide (x<r)) (by rw[fE];show h3),List.filter_nil,ß];show ec;rintro σ _ ⟨c',v8,v9,rfl,rfl,ec⟩;rw[hP.1,æ,YLi (hsub.filter _) ((Ct g p).filter _) λx S hn=>hz x (YPg.mp S).1 λzz=>hn<|YPg.mpr ⟨zz,(YPg.mp S).2⟩]at ec;let s9:=sG.trans s';let p9:=YL.new pG n';change u2 _ _ _;subst vZ;show⟨_,Z,x,nD,_,Z,s9 _ _ e1,Z,_,Z,_,Z,_,Z,x,t,rd,g,U,DZ,z.cps.size,i,i,r,ru,p,ps,uw,Z,hRs.same s9,hO.nd,hout,Qk,ni,gF,by have:=Qj ru<|Ð gF;lia,s' _ _ ht,hrs.same s',hl'.same s',Å _,λbb v G8 vY ux s8 n8=>?_⟩;show⟨_,Z,bb,_,0,_,Z,Z,cN.of vY,Z,_,Z,bb,_,1,_,Z,Z,cN.of vY,Z,?_⟩;show⟨_,_,a',c',v,_,_,_,_,Z,s9.trans s8,YL.new p9 n8,ux.mono<|ϛ _ _,hA.step (cs:=z.cps.toList) hh hS wk hT g_ gF,hR',by lia,by rw[show k-a'=k-b+(b-a') by lia,show b-a'=_ from Nat.sub_eq_of_eq_add yJ];show ec⟩;rintro σ G ⟨i,qs,b,c,lv,v7,v8,v9,je,rfl,sG,pG,hl,hA,hR,hb,hc⟩;rw[Ä,č]at hR;cases hR;change u _ _ _;subst eu;show⟨_,Z,_,_,Z,Z,⟨by decide,by decide,by decide⟩,_,_,Z,?_⟩;have:=hc.fin2;change Q (.int<|XG c) G;rw[this];show qR U k G hT hk2 hk1 (t5.trans sG) pG
structure ķ(g:YS)(nm:Nat->Str)(ws s R:List Nat)(rr:Nat->Nat):Prop where
 node:∀k w,ws[k]?=À w->(∃wo,g[rr k]?=À (nm k,List.replicate w<|nm<|k+1,wo))/\YM g (nm k)=[rr k]
 leaf:∀r∈R,∃wo,g[r]?=À (nm ws.length,s.map Zp,wo)
 leafs:YM g (nm ws.length)=R
 name:∀k,k<=ws.length->eW (nm k)=Ã
inductive Lv(ws R:List Nat)(rr:Nat->Nat):List Nat->List Nat->List Nat->Prop
 |nil:Lv ws R rr [] [] []
 |leaf {ls c row:List Nat}{j r:Nat}:R[j]?=À r->Lv ws R rr ls c row->Lv ws R rr (ws.length::ls) (j::c) (r::row)
 |node {ls c row:List Nat}{k w:Nat}:ws[k]?=À w->Lv ws R rr (List.replicate w (k+1)++ls) c row->Lv ws R rr (k::ls) c (rr k::row)
@[ext]def fZ(b:Nat):ac Nat->Nat
 |[]=>0
 |j::c=>j*b^c.length+fZ b c
def Lv.le(h:Lv ws R rr ls c row):∀k∈ls,k<=ws.length:=by
 induction h with
 |nil=>intro k h;cases h
 |leaf _ _ ih=>
  intro k hk;rcases YO9.mp hk with rfl|hk
  show Å _;show ih k hk
 |node hw _ ih=>
  intro k' hk;rcases YO9.mp hk with rfl|hk
  show ê (YOx.mp hw).1;show ih k'<|Ò _ hk
def ů(h:Js g ps ks sg):∀s:ac Nat,Js g (s.map Zp++ps) ks<|s++sg
 |[]=>h
 |c::s=>Js.sign (p:=Zp c) (ń c)<|ů h s
def Ca{α:Type}{l:ac α}{f:α->Nat}{c:Nat}(h:∀x∈l,f x=c):Yt l f=l.length*c:=by
 induction l with
 |nil=>rw[JO,ü,ë]
 |cons a l ih=>rw[YX,h a É,ih λx S=>h x<|Ç _ S,Ñ,Nat.succ_mul,Nat.add_comm]
def ũ{ps:ac am}(h:∀p qs,ps=p::qs->eW p=Ã):∀(s:ac Nat) (i:Nat),ZU (s.map Zp++ps) i=(ps,i+s.length)
 |[],i=>by
  cases ps with
  |nil=>rfl
  |cons p qs=>change ZU (p::qs) i=_;unfold ZU;rw[if_neg (by rw[h p qs Z];decide)];rfl
 |c::s,i=>by
  change ZU (Zp c::(s.map Zp++ps)) i=_;unfold ZU;rw[if_pos<|ń c,ũ h s<|i+1,Ñ,Nat.add_right_comm,Nat.add_assoc]
section
variable {g:YS}{cs:ac Nat}{F:Nd->Bool}{DS:ac Nd}{top:ag Nd}{T:Nd->Nat}{nm:Nat->am}{ws s R:ac Nat}{rr:Nat->Nat}
def YMB(DZ:ķ g nm ws s R rr)(h:Lv ws R rr ls c row):Js g (ls.map nm) row (List.replicate c.length s).flatten:=by
 induction h with
 |nil=>show .nil
 |leaf hr _ ih=>
  let⟨wo,hg⟩:=DZ.leaf _<|Ð hr;rw[Ñ,þ,õ];show Js.name (r:=(nm ws.length,s.map Zp,wo)) (DZ.name _<|Å _) hg<|ů ih s
 |@node ls c row k w hw _ ih=>
  let⟨⟨wo,hg⟩,_⟩:=DZ.node k w hw;show Js.name (r:=(nm k,List.replicate w<|nm<|k+1,wo)) (DZ.name _<|ê (YOx.mp hw).1) hg ?_;rw[Î,ğ]at ih;show ih
def YJm(hh:∀ru∈g,eW ru.1=Ã)(hS:gg g cs F)(hW:ZF g cs.length F top DS)(hT:Zi g cs.length DS T):∀(s:ac Nat) (i:Nat),i<=cs.length->Nc T cs.length (s.map Zp++ps) i≠0->Xz F DS cs.length (s.map Zp++ps) i->
  Nc T cs.length (s.map Zp++ps) i=Nc T cs.length ps (i+s.length)/\i+s.length<=cs.length/\Xz F DS cs.length ps (i+s.length)
 |[],i,hi,_,hG=>⟨Z,hi,hG⟩
 |c::s,i,hi,h0,hG=>by
  let⟨e1,e2,_,e4⟩:=YG7 hh hS hW hT (p:=Zp c) (ps:=s.map Zp++ps) (ń c) h0;let⟨f1,f2,f3⟩:=YJm hh hS hW hT s (i+1) e2 (by rw[<-e1];show h0)<|e4 hG;rw[show i+(c::s).length=i+1+s.length by rw[Ñ];lia];show⟨e1.trans f1,f2,f3⟩
def Ap(hg:Y4 g=Â)(hh:∀ru∈g,eW ru.1=Ã)(hS:gg g cs F)(hW:ZF g cs.length F top DS)(hT:Zi g cs.length DS T)(DZ:ķ g nm ws s R rr)(hp:∀k,k<=ws.length->ZG (nm k)=Â)(h:Lv ws R rr ls c row):
  ∀i,i<=cs.length->cs.drop i=(List.replicate c.length s).flatten->Xz F DS cs.length (ls.map nm) i->
   Nc T cs.length (ls.map nm) i=R.length^c.length/\JY g T cs.length i (ls.map nm) (fZ R.length c) row cs.length [] 0/\fZ R.length c<R.length^c.length:=by
 induction h with
 |nil=>
  intro i hi e _;obtain rfl:i=cs.length:=by have:=YQh.mp e;omega
  show⟨if_pos Z,.nil,Nat.one_pos⟩
 |@leaf ls c row j r hr hl ih=>
  intro i hi e hG;let hq:=DZ.name _<|Å ws.length;let hm:=Ð hr;rw[Ñ,þ,õ]at e;let e':cs.drop (i+s.length)=(List.replicate c.length s).flatten:=by rw[<-List.drop_drop,e,List.drop_left]
  let hnm:∀p qs,ls.map nm=p::qs->eW p=Ã:=λp qs ez=>by
   have:p∈ls.map nm:=by rw[ez];show É
   let⟨k,hk,Z⟩:=YPR.mp this;show DZ.name k<|hl.le k hk
  let lz:∀p∈ls.map nm,ZG p=Â:=λp hp'=>by
   let⟨k,hk,Z⟩:=YPR.mp hp';show hp k<|hl.le k hk
  let⟨wo,qJ⟩:=DZ.leaf r hm;let hfl:∀r'∈R,fG T cs.length r' (ZH g r') i (ls.map nm)=Nc T cs.length (s.map Zp++ls.map nm) i:=λr' hr'=>by
   let⟨wo',hg'⟩:=DZ.leaf r' hr';rw[vx hg'];show(Ck hS hW hT hg' hq hi hG).1
  let hG1:=(Ck hS hW hT qJ hq hi hG).2;let⟨a0,qu,_⟩:=YMA hg hh hS hW hT (ů (YMB DZ hl) s) i hi e (λp hp'=>(YPD.mp hp').elim ((JN<|Jj hg qJ).2 p)<|lz p) hG1;let⟨f1,f2,f3⟩:=YJm hh hS hW hT s i hi (λz=>by rw[z]at qu;cases qu) hG1;let⟨i1,i2,i3⟩:=ih (i+s.length) f2 e' f3;let hN:∀r'∈R,fG T cs.length r' (ZH g r') i (ls.map nm)=R.length^c.length:=λr' hr'=>(hfl r' hr').trans<|f1.trans i1;let hjl:=(YOx.mp hr).1;let DT:fZ R.length (j::c)<R.length^(j::c).length:=by
   change j*R.length^c.length+fZ R.length c<R.length^(c.length+1);rw[Nat.pow_succ,Ă<|R.length^c.length];have:=Nat.mul_le_mul_right (R.length^c.length) (show j+1<=R.length from hjl);rw[Nat.add_mul,Nat.one_mul]at this;omega
  show⟨?_,?_,DT⟩;change Nc T cs.length (nm ws.length::ls.map nm) i=_;rw[Ŏ hS hW hT hq hG,DZ.leafs,Ca hN,Ñ,Nat.pow_succ,Ă];show JY.cons (p:=nm ws.length) (ps:=ls.map nm) (a':=fZ R.length c) ?_ qJ ?_;rw[DZ.leafs];show⟨R.take j,R.drop<|j+1,?_,?_,?_⟩;rw[<-(YOx.mp hr).2,<-í hjl,Ĝ];rw[Ca<|λx S=>hN x<|ę S,ú,ć<|ê hjl];rfl;show Nat.lt_of_lt_of_eq i3 (hN r hm).symm;change JY g T cs.length (ZU (s.map Zp++ls.map nm) i).2 (ZU (s.map Zp++ls.map nm) i).1 _ _ _ _ _;rw[ũ hnm];show i2
 |@node ls c row k w hw hl ih=>
  intro i hi e hG;let⟨⟨wo,qJ⟩,hro⟩:=DZ.node k w hw;let hq:=DZ.name k<|ê (YOx.mp hw).1;let⟨f1,f2⟩:=Ck hS hW hT qJ hq hi hG;let em:List.replicate w (nm<|k+1)++ls.map nm=(List.replicate w (k+1)++ls).map nm:=by rw[Î,ğ]
  let hnm:∀p qs,(List.replicate w (k+1)++ls).map nm=p::qs->eW p=Ã:=λp qs ez=>by
   have:p∈(List.replicate w (k+1)++ls).map nm:=by rw[ez];show É
   let⟨k,hk,Z⟩:=YPR.mp this;show DZ.name k<|hl.le k hk
  dsimp only at f1 f2;rw[em]at f1 f2;let⟨i1,i2,i3⟩:=ih i hi e f2;let hN:fG T cs.length (rr k) (ZH g<|rr k) i (ls.map nm)=R.length^c.length:=by rw[vx qJ];show f1.trans i1
  show⟨?_,?_,i3⟩;change Nc T cs.length (nm k::ls.map nm) i=_;rw[Ŏ hS hW hT hq hG,hro,YX,JO,Nat.add_zero,hN];show JY.cons (p:=nm k) (ps:=ls.map nm) (a':=fZ R.length c) ?_ qJ ?_;rw[hro];show⟨[],[],Z,by rw[JO,ā],Nat.lt_of_lt_of_eq i3 hN.symm⟩;change JY g T cs.length (ZU (List.replicate w (nm<|k+1)++ls.map nm) i).2 (ZU (List.replicate w (nm<|k+1)++ls.map nm) i).1 _ _ _ _ _;rw[em];have:=ũ hnm [] i;rw[List.map_nil,List.nil_append]at this;rw[this];show i2
end
def YOm(h:JY g T n i ps a x j qs c)(hq:qs≠[])(h':JY g T n i ps a y k [] d):x.length<y.length:=by
 induction h generalizing y with
 |nil=>
  cases h' with
  |nil=>show absurd Z hq
  |cons _ _ _=>show Nat.succ_pos _
 |cons hp hr _ ih=>
  cases h' with
  |cons hp' hr' h''=>
   let⟨Z,Z⟩:=YHt (CQ _ _) hp hp';rw[hr]at hr';cases hr';show Nat.succ_lt_succ<|ih hq h''
def YIB(r:fU)(g:YS)(z:am):YM (r::g) z=(if r.1=z then [0] else [])++(YM g z).map (·+1):=by
 unfold YM;rw[Ñ,List.range_succ_eq_map,ĉ,List.filter_map];let e1:decide (((r::g)[0]?.map (·.1))=À z)=decide (r.1=z):=decide_eq_decide.mpr ⟨λh=>Û h,λh=>by rw[<-h];rfl⟩;let e2:((λk=>decide (((r::g)[k]?.map (·.1))=À z))∘Nat.succ)=λk=>decide ((g[k]?.map (·.1))=À z):=rfl;rw[e1,e2];by_cases h:r.1=z;rw[dA h,if_pos Z,if_pos h];rfl;rw[eI h,if_neg (by decide),if_neg h];rfl
def Xl(z:am):∀g:YS,(YM g z).length=(g.filter λr=>decide (r.1=z)).length
 |[]=>rfl
 |r::g=>by
  rw[YIB,È,Ä,Xl z g,ĉ];by_cases h:r.1=z;rw[if_pos h,dA h,if_pos Z,Ñ,Nat.add_comm];rfl;rw[if_neg h,eI h,if_neg (by decide)];show ā _
structure mQ(g:YS)(nm:Nat->Str)(ws s:List Nat)(b:Nat):Prop where
 all:∀ru∈g,(∃k w,ws[k]?=À w/\ru.1=nm k/\ru.2.1=List.replicate w (nm<|k+1))\/(ru.1=nm ws.length/\ru.2.1=s.map Zp)
 one:∀k,k<ws.length->(g.filter λr=>decide (r.1=nm k)).length=1
 many:(g.filter λr=>decide (r.1=nm ws.length)).length=b
def mQ.lvG(h:mQ g nm ws s b)(inj:∀j k,j<=ws.length->k<=ws.length->nm j=nm k->j=k)(hq:∀k,k<=ws.length->eW (nm k)=Ã):
  ķ g nm ws s (YM g<|nm ws.length) (λk=>(YM g<|nm k).headD 0)/\(YM g<|nm ws.length).length=b:=by
 show⟨⟨λk w hw=>?_,λr hr=>?_,Z,hq⟩,(Xl _ _).trans h.many⟩;let hk:=(YOx.mp hw).1;let⟨r,hr⟩:=List.length_eq_one_iff.mp<|(Xl _ g).trans<|h.one k hk;rw[hr];show⟨?_,Z⟩;let⟨ru,e1,e2⟩:=ZO.mp (show r∈YM g (nm k) by rw[hr];show É);show⟨ru.2.2,?_⟩;change g[r]?=_;rw[e1];rcases h.all ru (Ð e1) with ⟨k',w',f1,f2,f3⟩|⟨f1,_⟩
 let hk':=(YOx.mp f1).1;obtain rfl:=inj k' k (ê hk') (ê hk)<|f2.symm.trans e2;rw[hw]at f1;cases f1;rw[<-e2,<-f3];have:=inj _ k (Å _) (ê hk)<|f1.symm.trans e2;lia;let⟨ru,e1,e2⟩:=ZO.mp hr;show⟨ru.2.2,?_⟩;rw[e1];rcases h.all ru (Ð e1) with ⟨k',w',f1,f2,f3⟩|⟨f1,f2⟩
 let hk':=(YOx.mp f1).1;have:=inj k' _ (ê hk') (Å _)<|f2.symm.trans e2;lia;rw[<-e2,<-f2]
def qh{nb:Nd->ac Nd}{N r:ac Nd}(rk:Nd->Nat)(h:∀x∈N,∀y∈nb x,rk y<rk x)(hr:Xo nb N r):False:=by
 let key:∀(i:Nat) (x y:Nd),r[0]?=À x->r[i]?=À y->rk y<=rk x:=λi=>by
  induction i with
  |zero=>intro x y S hy;rw[S]at hy;cases hy;show Å _
  |succ i ih=>
   intro x y S hy;let hi:i<r.length:=by have:=(YOx.mp hy).1;lia
   let e:=Ê hi;show Ú (ê<|h _ (hr.sub _<|Ð e) _<|hr.ch i _ y e hy)<|ih x _ S e
 let hl:=List.length_pos_iff.mpr hr.ne;let e0:=Ê hl;let e1:r.getLast?=À (r[r.length-1]'(by lia)):=by rw[List.getLast?_eq_getElem?,Ê]
 let e2:=Ê (show r.length-1<r.length by lia);have:=h _ (hr.sub _<|Ð e2) _<|hr.cl _ _ e0 e1;have:=key _ _ _ e0 e2;lia
def YMy(lv:am->Nat)(h6:∀ru∈g,ru.2.1.length<=6)(h:∀ru∈g,∀p∈ru.2.1,eW p=Â\/lv p<lv ru.1)(hl:∀x∈DS,im g cs x)(hr:Xo (gE g n DS) DS r):False:=by
 show qh (λx=>match x with
  |.part p _ _=>if eW p=Â then 0 else 10*lv p+9
  |.beg r d _ _=>10*lv ((g[r]?.map (·.1)).getD ⟨#[]⟩)+d) (λx S y hy=>?_) hr
 let⟨w,hw,rA⟩:=List.mem_flatten.mp hy;cases x with
 |part p i j=>
  rw[Yf]at hw;by_cases hq:eW p=Â;rw[if_pos hq]at hw;rw[YO0.mp hw]at rA;cases rA;rw[if_neg hq]at hw;let⟨r,hr',Z⟩:=YPR.mp hw;let⟨ru,e1,e2⟩:=ZO.mp (YPg.mp hr').1;rw[YO0.mp rA];dsimp only;rw[if_neg hq,e1,vx e1];have:=h6 ru<|Ð e1;change 10*lv ru.1+_<_;rw[e2];lia
 |beg r d i j=>
  cases d with
  |zero=>
   rw[Yf]at hw;rw[YO0.mp hw]at rA;cases rA
  |succ d=>
   rw[Yf]at hw;let⟨k,hk,Z⟩:=YPR.mp hw;let⟨⟨ru,e1,e2⟩,_⟩:=hl _ S;let e3:JJ g r d=ru.2.1[d]'e2:=by
    unfold JJ ZT;rw[e1];change(ru.2.1[d]?).getD ""=_;rw[Ê e2];rfl
   rcases YO9.mp rA with rfl|hy2
   show û _;rw[YO0.mp hy2];dsimp only;rw[e1];change _<10*lv ru.1+(d+1);rcases h ru (Ð e1) _ (Ą e2) with hq|DT
   rw[e3,if_pos hq];lia;rw[e3];split <;> lia
def xD{nm:Nat->am}{m:Nat}(inj:∀j k,j<=m->k<=m->nm j=nm k->j=k):∃f:am->Nat,∀k,k<=m->f (nm k)=m-k:=by
 classical
 show⟨λp=>if h:∃k,k<=m/\nm k=p then m-h.choose else 0,λk hk=>?_⟩;let S:∃k',k'<=m/\nm k'=nm k:=⟨k,hk,Z⟩;dsimp only;rw[dif_pos S,inj _ _ S.choose_spec.1 hk S.choose_spec.2]
def mQ.noring(h:mQ g nm ws s b)(inj:∀j k,j<=ws.length->k<=ws.length->nm j=nm k->j=k)(h6:∀ru∈g,ru.2.1.length<=6)(hl:∀x∈DS,im g cs x)(hr:Xo (gE g n DS) DS r):False:=by
 let⟨f,hf⟩:=xD inj;show YMy f h6 (λru gF p hp=>?_) hl hr;rcases h.all ru gF with ⟨k,w,f1,f2,f3⟩|⟨_,f2⟩
 let hk:=(YOx.mp f1).1;rw[f3]at hp;rw[(YQA.mp hp).2,f2,hf k<|ê hk,hf (k+1) hk];show .inr (by omega);rw[f2]at hp;let⟨c,_,Z⟩:=YPR.mp hp;show .inl<|ń c
def YJn(b c:Nat):∀l:ac Nat,fZ b (l++[c])=fZ b l*b+c
 |[]=>by change c*b^0+0=0*b+c;rw[Nat.pow_zero];lia
 |j::l=>by
  change j*b^(l++[c]).length+fZ b (l++[c])=(j*b^l.length+fZ b l)*b+c;rw[YJn b c l,È,List.length_singleton,Nat.pow_succ,Nat.add_mul,<-Nat.mul_assoc,Nat.add_assoc]
@[ext]def Yl:ac Nat->Nat
 |[]=>1
 |w::ws=>w*Yl ws
def YF2(w:Nat):∀l:ac Nat,Yl (l++[w])=Yl l*w
 |[]=>by change w*1=1*w;rw[Ă]
 |a::l=>by change a*Yl (l++[w])=a*Yl l*w;rw[YF2 w l,Nat.mul_assoc]
@[ext]def Ń(ws ls:ac Nat):Nat:=Yt ls λk=>Yl<|ws.drop k
@[ext]def g7(ws:ac Nat):Nat:=match ws with
 |[]=>1
 |w::ws=>1+w*g7 ws
def YOn(h:Lv ws R rr ls c row):row.length=Yt ls λk=>g7<|ws.drop k:=by
 induction h with
 |nil=>rfl
 |@leaf ls c row j r _ _ ih=>
  rw[Ñ,ih,YX,č];change _=1+_;lia
 |@node ls c row k w hw _ ih=>
  rw[Ñ,ih,Jk,YX,Ca (l:=List.replicate w<|k+1) (c:=g7<|ws.drop<|k+1) λx S=>by rw[(YQA.mp S).2],ù];let⟨hk,Z⟩:=YOx.mp hw;rw[í hk];change _=1+ws[k]*g7 (ws.drop<|k+1)+_;lia
def Cg{ws R:ac Nat}{rr:Nat->Nat}:∀(N:Nat) (ls c:ac Nat),(Yt ls λk=>g7<|ws.drop k)<=N->(∀k∈ls,k<=ws.length)->c.length=Ń ws ls->(∀j∈c,j<R.length)->∃row,Lv ws R rr ls c row:=by
 intro N
 induction N with
 |zero=>
  intro ls c hN hl hc hj;cases ls with
  |nil=>rw[show c=[] from YPq.mp hc];show⟨[],.nil⟩
  |cons k ls=>
   rw[YX]at hN;have:1<=g7 (ws.drop k):=by unfold g7;split <;> lia
   lia
 |succ N ih=>
  intro ls c hN hl hc hj;cases ls with
  |nil=>rw[show c=[] from YPq.mp hc];show⟨[],.nil⟩
  |cons k ls=>
   rw[YX]at hN;let hc:c.length=Yl (ws.drop k)+Ń ws ls:=hc;by_cases hk:k=ws.length;subst hk;rw[č]at hc hN;let hN:1+_<=N+1:=hN;let hc:c.length=1+Ń ws ls:=hc;cases c with
   |nil=>rw[ü]at hc;lia
   |cons j c=>
    rw[Ñ]at hc;let⟨row,hr⟩:=ih ls c (by lia) (λk' h=>hl k'<|Ç _ h) (by lia) λj' h=>hj j'<|Ç _ h;show⟨_,.leaf (Ê<|hj j É) hr⟩
   let hk':k<ws.length:=by have:=hl k É;lia
   rw[í hk']at hc hN;let hN:1+ws[k]*g7 (ws.drop<|k+1)+_<=N+1:=hN;let hc:c.length=ws[k]*Yl (ws.drop<|k+1)+Ń ws ls:=hc;let⟨row,hr⟩:=ih (List.replicate ws[k] (k+1)++ls) c (by
    rw[Jk,Ca (l:=List.replicate ws[k]<|k+1) (c:=g7<|ws.drop<|k+1) λx S=>by rw[(YQA.mp S).2],ù];lia) (λk' h=>by
    rcases YPD.mp h with h|h
    rw[(YQA.mp h).2];show hk';show hl k'<|Ç _ h) (by
    rw[hc];change _=Yt _ _;rw[Jk,Ca (l:=List.replicate ws[k]<|k+1) (c:=Yl<|ws.drop<|k+1) λx S=>by rw[(YQA.mp S).2],ù];rfl) hj
   show⟨_,.node (Ê hk') hr⟩
noncomputable abbrev ŷ:Stmt:=top 60
noncomputable abbrev ϝ:Stmt:=top 61
noncomputable abbrev X0:Stmt:=top 62
noncomputable abbrev JQ:Stmt:=top 63
noncomputable abbrev YAu:Stmt:=top 64
noncomputable abbrev YAv:Stmt:=top 66
noncomputable abbrev YAR:Stmt:=top 68
noncomputable abbrev Ν:Stmt:=top 69
def Zl:([ce,dS,"_law_base","_law_big","_law_odd"]:ac am).Nodup:=by decide+kernel
@[ext]def ki(ns:ac Int)(k:Int):Int:=if k<(ns.length:Int) then (match fS (ns.map V.int) k with
 |some (.int n)=>n
 |_=>0) else 0
@[ext]def hZ(ns:ac Int)(k:Int):Int:=(ki ns k%2147483629*(ki ns k%2147483629)+ki ns k%2147483629+7*k*k+11)*48271%2147483647
def YMC(ns:ac Int)(k:Int):0<=hZ ns k:=ø _ (by decide)
def pV(ns:ac Int)(k:Int):hZ ns k<2147483647:=Ē _ (by decide)
inductive YJo(K:W.Frag)(vs:List V)(H:Hp)(Q:VK):Prop
 |mk (a:Addr)(ns:List Int)(k:Int):vs=[.ref a,.int k]->bG K H a (ns.map V.int)->0<=k->Q (.int (ki ns k)) H->YJo K vs H Q
@[ext]def YIC(K:W.Frag):Sp:=λvs H Q E_=>YJo K vs H Q
inductive YMD(K:W.Frag)(vs:List V)(H:Hp)(Q:VK):Prop
 |mk (a:Addr)(ns:List Int)(k:Int):vs=[.ref a,.int k]->bG K H a (ns.map V.int)->0<=k->k<=1000->Q (.int (hZ ns k)) H->YMD K vs H Q
@[ext]def YOo(K:W.Frag):Sp:=λvs H Q E_=>YMD K vs H Q
structure Nm7(nm:Nat->Str):Prop where
 ok:∀k,k<7->dy (nm k)=Â
 inj:∀j k,j<7->k<7->nm j=nm k->j=k
inductive YHL(vs:List V)(H:Hp)(Q:VK):Prop
 |mk (c:Int):vs=[.int c]->0<=c->c<2147483648->YL H->(∀l (nm:Nat->Str) H',Nm7 nm->YG H H'->YL H'->H l=Á->H' l=À (.lst ((List.range 7).map λk=>.str (nm k)))->Q (.ref l) H')->YHL vs H Q
@[ext]def YJp:Sp:=λvs H Q E_=>YHL vs H Q
@[ext]def j2:am:=Ģ JQ 0++Ģ JQ 1
def YHM:j2.cps.toList=YDm:=by decide+kernel
def YMz:j2.length<=sizeLine:=YK (by decide+kernel)
@[ext]def vt(c:Int):Nat:=(fS j2.cps.toList<|c%94).getD 0
def YOp(c:Int):fS j2.cps.toList (c%94)=À (vt c)/\good (vt c)=Â:=by
 let⟨k,hk,hm⟩:=Cf (xs:=j2.cps.toList) (i:=c%94) (by lia) (by rw[YHM,YMg];lia);rw[YHM]at hm;unfold vt;rw[hk];show⟨Z,YKL hm⟩
inductive YME(vs:List V)(H:Hp)(Q:VK):Prop
 |mk (c:Int):vs=[.int c]->Q (.str ⟨#[vt c]⟩) H->YME vs H Q
@[ext]def YOq:Sp:=λvs H Q E_=>YME vs H Q
def yA(h:fS kF.cps.toList i=À c)(h0:0<=i)(h1:i<26):c=65+i.toNat:=by
 let e:kF.cps.toList[i.toNat]?=À (65+i.toNat):=by
  rw[YFS,Ï,List.getElem?_range (by lia)];rfl
 let⟨k,Z⟩:=Int.eq_ofNat_of_zero_le h0;rw[ï]at e ⊢;rw[ZB e]at h;show(Û h).symm
def YJq{ys:ac V}{n:Nat}{f:Nat->V}(hy:ys.length=n)(hP:∀k y,ys[k]?=À y->y=f k):ys=(List.range n).map f:=by
 show List.ext_getElem (by rw[Ä,è,hy]) λi h1 h2=>?_;rw[List.getElem_map,List.getElem_range];show hP i _<|Ê h1
@[ext]def C5(z:am)(a:Int)(o k:Nat):am:=Txt.slice z Á (À a)++⟨#[65+o+k]⟩++Txt.slice z (À a) Á
def nK(e:C5 z a o j=C5 z a o k):j=k:=by
 have:=fT (λs:am=>s.cps.toList) e;unfold C5 at this;rw[Ji,Ji,Ji,Ji]at this;let h:=List.append_cancel_left<|List.append_cancel_right this;let h:[65+o+j]=[65+o+k]:=h;injection h with h;lia
def YOr(hz:z.length<=7)(hl:z.cps.toList.all Z7=Â)(hc:Z7 c=Â)(h0:0<=j)(h1:j<=z.length):
  dy (Txt.slice z Á (À j)++⟨#[c]⟩++Txt.slice z (À j) Á)=Â:=by
 rw[YIi,Ji,Ji,YNy h0 h1,YKM h0 h1];let v_:z.cps.toList.length=z.length:=ì;unfold k7;let e1:((z.cps.toList.take j.toNat++[c]++z.cps.toList.drop j.toNat).length)=z.length+1:=by
  rw[È,È,ú,ÿ,v_];change min j.toNat z.length+1+(z.length-j.toNat)=_;lia
 change(decide (1<=(z.cps.toList.take j.toNat++[c]++z.cps.toList.drop j.toNat).length)&&decide ((z.cps.toList.take j.toNat++[c]++z.cps.toList.drop j.toNat).length<=8)&&(z.cps.toList.take j.toNat++[c]++z.cps.toList.drop j.toNat).all Z7)=Â;rw[e1,dA (by lia),dA (by lia)];rw[YPc]at hl;rw[List.all_append,List.all_append];let L:(z.cps.toList.take j.toNat).all Z7=Â:=YPc.mpr λx S=>hl x<|ę S;let a2:(z.cps.toList.drop j.toNat).all Z7=Â:=YPc.mpr λx S=>hl x<|List.mem_of_mem_drop S;rw[L,a2];change(Â&&(Â&&[c].all Z7&&Â))=Â;rw[List.all_cons,hc];rfl
@[ext]def AN(wy:Int)(ws:ac Nat):Prop:=(wy<2/\(ws=[3,4,2,4,3,2]\/ws=[4,3,2,4,3,2]))\/(2<=wy/\1<=ws.length/\ws.length<=3/\(∀w∈ws,1<=w/\w<=4)/\(wy=2->ws.length=2/\∀w∈ws,w<=3))
inductive YHN(vs:List V)(H:Hp)(Q:VK):Prop
 |mk (wy c:Int):vs=[.int wy,.int c]->0<=wy->0<=c->YL H->(∀l ws H',AN wy ws->YG H H'->YL H'->H l=Á->H' l=À (.lst (ws.map nV))->Q (.ref l) H')->YHN vs H Q
@[ext]def YJr:Sp:=λvs H Q E_=>YHN vs H Q
inductive YHO(vs:List V)(H:Hp)(Q:VK):Prop
 |mk (a:Addr)(ws:List Nat):vs=[.ref a]->H a=À (.lst (ws.map nV))->(∀w∈ws,w<=4)->Q (nV (Yl ws)) H->YHO vs H Q
@[ext]def YJs:Sp:=λvs H Q E_=>YHO vs H Q
inductive YF3(vs:List V)(H:Hp)(Q:VK):Prop
 |mk (a:Addr)(cs:List Nat)(b:Nat):vs=[.ref a,nV b]->H a=À (.lst (cs.map nV))->b<=60->(∀c∈cs,c<=60)->Q (nV (fZ b cs)) H->YF3 vs H Q
@[ext]def YHP:Sp:=λvs H Q E_=>YF3 vs H Q
inductive YHQ(vs:List V)(H:Hp)(Q:VK):Prop
 |mk (n l b:Nat):vs=[nV n,nV l,nV b]->1<=b->b<=60->l<=576->n<b^l->YL H->(∀a cs H',cs.length=l->(∀c∈cs,c<b)->fZ b cs=n->YG H H'->YL H'->H a=Á->H' a=À (.lst (cs.map nV))->Q (.ref a) H')->YHQ vs H Q
@[ext]def YJt:Sp:=λvs H Q E_=>YHQ vs H Q
def YEi:YJ [cn,ce] [cn,ce]<|YH ŷ:=dE
def YEj(T:Txt K mg C):Gd P w K mg cj 1 fF fF ŷ [cn,ce]<|YIC K:=by
 show eP YEi λH Q E hr h=>?_;let⟨a,ns,k,Z,hS,h0,q⟩:=h;show⟨_,(YF (Yq (Yg nB (J 1) (fA K T.aJ<|J 0)<|Yd _) (YD<|YN<|fN K (J 0)<|J 1) YT)
  (YD<|YN YC)),?_⟩
 show⟨_,Z,_,Z,a,_,Z,.inl hS,_,_,Z,Z,_,Z,?_⟩;unfold ki at q;show X4 (λh1=>?_) λh1=>?_;let h1':=fq h1;let⟨v,hv,hm⟩:=Cf h0 h1';let⟨n,_,Z⟩:=YPR.mp hm;rw[Ä]at h1';rw[if_pos h1',hv]at q;show⟨_,Z,_,Z,a,_,k,_,Z,Z,hS,hv,q⟩;rw[if_neg λz=>h1<|dA (by rw[Ä];show z)]at q;show q
def YCd:YJ [cn,ce,cf] [cn,ce]<|YH ϝ:=dE
def YGQ(T:Txt K mg C)(bj:ZN P w K mg cj 1 fF [cn,ce]<|YIC K):Gd P w K mg cj 2 "_law_mixed" "_law_mixed" ϝ [cn,ce]<|YOo K:=by
 show eP YCd λH Q E hr h=>?_;let⟨a,ns,k,Z,hS,k0,k1,q⟩:=h;show⟨_,(YF (c_ 2 YCd<|YR Zq (eT bj hr YO<|YI (J 0)<|aY<|J 1) YC)
  (YD<|YN<|YR Zq (YR qo (YR ZI (YR ZI (YR ZI (YR qo (J 2)<|J 2)<|J 2)<|YR qo (YR qo YC<|J 1)<|J 1) YC) YC) YC)),?_⟩
 show⟨_,Z,_,Z,a,ns,k,Z,hS,k0,_,_,Z,Z,(by change(0:Int)<2147483629;decide),?_⟩;unfold hZ at q;revert q;generalize ki ns k=v;intro q;let c0:0<=v%2147483629:=by lia
 let c1:v%2147483629<2147483629:=by lia
 show⟨_,Z,_,Z,_,_,Z,Z,.inl ⟨by lia,by lia⟩,_,Z,_,_,Z,Z,_,Z,_,_,Z,Z,.inl ⟨by decide,by decide⟩,_,Z,_,_,Z,Z,.inr ⟨by lia,by lia⟩,_,_,Z,Z,_,_,Z,Z,_,_,Z,Z,.inr ⟨by decide,by decide⟩,_,_,Z,Z,(by change(0:Int)<2147483647;decide),q⟩
def Ze:YJ [cf,"_law_big","_law_odd","_law_base",ce,dS] [cf]<|YH X0:=dE
def YGR(T:Txt K mg C):Gd P w K mg cj 1 "_law_names" "_law_names" X0 [cf]<|YJp:=by
 show eP Ze λH Q E hr h=>?_;let⟨c,Z,c0,c1,hp,q⟩:=h;show⟨_,(YF (c_ 1 Ze ZX)
  (YF (c_ 2 Ze<|YR Zq (J 0) YC)
  (YF (c_ 0 Ze<|YR Xw (J 0) YC)
  (YF (c_ 3 Ze ZX)
  (YF (fM (JD Z T.cF<|aY<|YR Zq (J 0) YC) (fm 4 Ze)<|YD<|c_ 3 Ze<|YR XO (J 3)<|oG A9 (J 1) (YR Zq (YR Xw (YR qo (J 0)<|YR ZI (J 4) YC) YC) YC)<|λ_ _=>rfl)
  (YF (c_ 5 Ze<|YR Zq (YR Xw (J 0) YC)<|YR ZI (Yc JS (by rfl) T.aJ Ď<|aY<|J 3) YC)
  (YD<|YN<|BH (N:=[ce,dS,"_law_base","_law_big","_law_odd"]) (ρ:=[Á,À 5,À 3,À 1,À 2]) rfl (Zf.closes [cf,"_law_big","_law_odd","_law_base",ce,dS] (YH X0).names rfl rfl rfl rfl (by decide+kernel) (by decide+kernel) (λx h=>BY h) (by decide+kernel) rfl (by decide+kernel)) (JD rfl T.cF<|aY YC) (λ_ _ _ _ _=>(si (i:=0) Zl rfl (Or.inl rfl)<|.inr rfl)) (λ_ _ _ _ _=>A0)<|λ_ _ _ _ _=>(YR XO (YR XO (Jh YNg (J 2) Xx<|J3<|J 1)<|oG A9 (J 3) (YR ZI (J 4)<|J 0)<|λ_ _=>rfl)<|Jh YNg (J 2) (J3<|J 1) Xx)))))))),?_⟩
 show⟨_,Z,_,_,Z,Z,(by change(0:Int)<19;decide),?_⟩;show⟨_,Z,_,_,Z,Z,⟨by decide,by decide⟩,?_⟩;show⟨_,Z,_,_,Z,Z,(by change(0:Int)<8;decide),_,Z,(jp (by lia) (by lia)).1,(jp (by lia) (by lia)).2,?_⟩;show XM (lo:=0) (n:=(c / 19%8).toNat) (λi σ H2=>H2=H/\∃(z:am) (v:ag V),σ=[À<|.int<|c / 19,À<|.str kF,À<|.int<|c%19,À<|.str z,v,Á]/\z.length=i/\z.cps.toList.all Z7=Â) ⟨Z,_,Á,Z,(by decide+kernel),(by decide+kernel)⟩ ?_ ?_;rintro i σ H2 hi ⟨rfl,z,v,rfl,hz,v_⟩;let hi8:i<8:=by lia
 let⟨c2,hc2,hm⟩:=Cf (xs:=kF.cps.toList) (i:=c / 19*(0+(i:Int)+3) / 7%26) (by lia) (by rw[YLN];lia);show⟨_,Z,_,Z,_,Z,_,Z,_,_,Z,Z,_,_,Z,Z,.inl ⟨by lia,by lia⟩,_,_,Z,Z,⟨by decide,by decide⟩,_,_,Z,Z,(by change(0:Int)<26;decide),kF,_,c2,Z,Z,YIj,hc2,z,_,Z,Z,YK (by change z.length+1<=1000;lia),?_⟩;show⟨Z,z++⟨#[c2]⟩,_,Z,by rw[CZ,hz];rfl,?_⟩;rw[Ji,List.all_append,v_];change(Â&&[c2].all Z7)=Â;rw[List.all_cons,YFT hm];rfl;rintro σ H2 ⟨rfl,z,v,rfl,hz,v_⟩;let R_:z.length<=7:=by lia
 show⟨_,Z,_,_,Z,Z,⟨by decide,by decide⟩,_,Z,z,Z,YK (by lia),_,_,Z,Z,_,_,Z,Z,(by change(0:Int)<(z.length:Int)+1;lia),?_⟩;let a0:0<=c / 19 / 8%((z.length:Int)+1):=ø _ (by lia);let L:c / 19 / 8%((z.length:Int)+1)<(z.length:Int)+1:=Ē _ (by lia);obtain⟨at_,hat⟩:∃a,a=c / 19 / 8%((z.length:Int)+1):=⟨_,Z⟩;rw[<-hat]at a0 L;obtain⟨o,ho,WD⟩:∃o:Nat,c%19=(o:Int)/\o<19:=⟨(c%19).toNat,by lia,by lia⟩;show⟨7,Z,by decide,by decide,λl hl=>?_⟩;show į (n:=7) 0 (λk y _=>y=.str (C5 z at_ o k)) Ψ (λ_ _ _ _ _ h=>h) hp hl (by change 0<5;decide) (YK (by decide)) (λτ'=>∃v,τ'=[v,À<|.int at_,À<|.str z,À<|.str kF,À<|.int<|c%19]) ⟨Á,by rw[hat];rfl⟩ ?_ ?_ ?_;rintro τ' v ⟨w,rfl⟩;show⟨v,Z⟩;rintro τ' k x H' R ⟨w,rfl⟩ hτ DV hk hs hp' rG hR;let ew:w=À x:=by simpa using hτ
 subst ew DV;let⟨c2,hc2,hm⟩:=Cf (xs:=kF.cps.toList) (i:=c%19+(0+(k:Int))) (by lia) (by rw[YLN];lia);obtain rfl:c2=65+o+k:=by rw[yA hc2 (by lia) (by lia)];lia
 let q1:=Txt.slice_le z Á<|some at_;let q2:=Txt.slice_le z (À at_) Á;show⟨_,Z,_,Z,_,Z,z,Z,YK (by lia),_,Z,_,Z,_,Z,_,_,Z,Z,kF,_,_,Z,Z,YIj,hc2,_,_,Z,Z,YK (by change _+1<=1000;lia),_,Z,_,Z,_,Z,z,Z,YK (by lia),_,_,Z,Z,YK (by rw[CZ];change _+1+_<=1000;lia),hR _ _ (YG.refl _) hp' Z⟩;intro ys H' hy hP hs hp' hl';show q l (C5 z at_ o) H' ⟨λk hk=>YOr R_ v_ (YFT (by rw[YFS];show YPR.mpr ⟨o+k,YPY.mpr (by lia),by lia⟩)) a0 (by lia),λj k _ _ e=>nK e⟩ hs hp' hl (by rw[hl',YJq hy hP])
def Ū:YJ [cf,"_law_some"] [cf]<|YH JQ:=dE
def YID(T:Txt K mg C):Gd P w K mg cj 1 "_law_sign" "_law_sign" JQ [cf]<|YOq:=by
 show eP Ū λH Q E hr h=>?_;let⟨c,Z,q⟩:=h;show⟨_,(YF (c_ 1 Ū ZX)
  (YF (c_ 1 Ū<|YR XO (J 1) ZX)
  (YD<|YN<|oG A9 (J 1) (YR Zq (J 0) YC)<|λ_ _=>rfl))),?_⟩
 show⟨_,Z,Ģ JQ 0,Ģ JQ 1,Z,Z,by decide+kernel,?_⟩;show⟨_,Z,_,Z,_,_,Z,Z,(by change(0:Int)<94;decide),j2,_,_,Z,Z,YMz,(YOp c).1,q⟩
def XF:YJ [cp,eh,"_law_wide"] [cp]<|YH YAv:=dE
def YF4(T:Txt K mg C):Gd P w K mg cj 1 "_law_leaves" "_law_leaves" YAv [cp]<|YJs:=by
 show eP XF λH Q E hr h=>?_;let⟨a,ws,Z,ha,h1,q⟩:=h;show fO ?_;show⟨_,(YE (ia 1 XF Z1)
  (YE ⟨(fM (ZJ K rfl<|J 0) (fm 2 XF)<|YD<|c_ 1 XF<|YR qo (J 1)<|J 2)⟩
  (Y8 ⟨(YN<|J 1)⟩))),?_⟩
 show⟨_,Z,a,Z,⟨_,bG.of ha⟩,ZL (K:=K) (a:=a) (xs:=ws.map nV) (λj σ G=>∃v2:ag V,σ=[À<|.ref a,À<|nV<|Yl<|ws.take j,v2]/\G=H) ⟨Á,Z,Z⟩ (by rintro j σ G _ ⟨_,_,e⟩;rw[e];show bG.of ha) ?_ ?_⟩;rintro j v σ _ hj ⟨v2,rfl,rfl⟩;let hjl:j<ws.length:=by have:=(YOx.mp hj).1;rw[Ä]at this;show this
 obtain rfl:nV ws[j]=v:=by rw[Ï,Ê hjl]at hj;show Û hj
 let h4:=h1 _<|Ą hjl;show⟨_,Z,_,Z,_,_,Z,Z,.inr ⟨by omega,by omega⟩,À<|nV ws[j],?_,Z⟩;rw[â,Ê hjl];change _=[_,À<|nV<|Yl<|ws.take j++[ws[j]],_];rw[YF2];rfl;rintro σ _ ⟨v2,rfl,rfl⟩;rw[Ä,æ];show⟨_,Z,q⟩
def Jp:YJ [c8,cm,cv,"_law_choice"] [c8,cm]<|YH Ν:=dE
def YEk(T:Txt K mg C):Gd P w K mg cj 1 "_law_written" "_law_written" Ν [c8,cm]<|YHP:=by
 show eP Jp λH Q E hr h=>?_;let⟨a,cs,b,Z,ha,h1,h2,q⟩:=h;show fO ?_;show⟨_,(YE (ia 2 Jp Z1)
  (YE ⟨(fM (ZJ K rfl<|J 0) (fm 3 Jp)<|YD<|c_ 2 Jp<|YR ZI (YR qo (J 2)<|J 1)<|J 3)⟩
  (Y8 ⟨(YN<|J 2)⟩))),?_⟩
 show⟨_,Z,a,Z,⟨_,bG.of ha⟩,ZL (K:=K) (a:=a) (xs:=cs.map nV) (λj σ G=>∃v3:ag V,σ=[À<|.ref a,À<|nV b,À<|nV<|fZ b<|cs.take j,v3]/\G=H) ⟨Á,Z,Z⟩ (by rintro j σ G _ ⟨_,_,e⟩;rw[e];show bG.of ha) ?_ ?_⟩;rintro j v σ _ hj ⟨v3,rfl,rfl⟩;let hjl:j<cs.length:=by have:=(YOx.mp hj).1;rw[Ä]at this;show this
 obtain rfl:nV cs[j]=v:=by rw[Ï,Ê hjl]at hj;show Û hj
 show⟨_,Z,_,Z,_,_,Z,Z,.inr ⟨by lia,by lia⟩,_,Z,_,_,Z,Z,À<|nV cs[j],?_,Z⟩;rw[â,Ê hjl];change _=[_,_,À<|nV<|fZ b<|cs.take j++[cs[j]],_];rw[YJn];rfl;rintro σ _ ⟨v3,rfl,rfl⟩;rw[Ä,æ];show⟨_,Z,q⟩
def JB:YJ [cv,eh,cm,c8,ce,"_law_choice"] [cv,eh,cm]<|YH YAR:=dE
def YEl(T:Txt K mg C):Gd P w K mg cj 1 "_law_choices" "_law_choices" YAR [cv,eh,cm]<|YJt:=by
 show eP JB λH Q E hr h=>?_;let⟨n,l,b,Z,b1,b2,l1,hn,hp,q⟩:=h;show fO ?_;show⟨_,(YE (ia 3 JB<|lp X6)
  (YE ⟨(fM (JD Z T.cF<|aY<|J 1) (fm 4 JB) (YF (YM7 (Yc YHs (by rfl) T.mW PyProof.Rows.Boot.«divmod»<|YI (J 0)<|aY<|J 2)<|xS K rfl (n:=2) rfl<|Zg (fm 0 JB)<|Zg (fm 5 JB) y9)
  (YD<|YW<|fP K (J 3)<|J 5)))⟩
  (YE ⟨(YW<|wm K rfl ñ PySem.F.slot_list_reverse PySem.F.type_list_reverse YKA<|J 3)⟩
  (Y8 ⟨(YN<|J 3)⟩)))),?_⟩
 show⟨YK<|Ë _,λln kI=>?_⟩;show⟨_,Z,_,Z,by lia,by lia,?_⟩;show XM (lo:=0) (n:=l) (λi σ G=>g9 λ(ds:ac Nat) (v4 v5:ag V)=>Ŋ (σ=[À<|nV<|n / b^i,À<|nV l,À<|nV b,À<|.ref ln,v4,v5]) (G ln=À (.lst<|ds.map nV)) (ds.length=i) ((∀c∈ds,c<b)) (fZ b ds.reverse=n%b^i) (YG H G)<|YL G) ⟨[],Á,Á,by rw[Nat.pow_zero,Nat.div_one];rfl,YA,Z,(λc hc=>nomatch hc),by rw[Nat.pow_zero,Nat.mod_one];rfl,YG.upd kI,hp.upd Z⟩ ?_ ?_;rintro i σ G hi ⟨ds,v4,v5,rfl,h1,h2,h3,h4,h5,h6⟩;let hb:b.log2<9000:=á ((Nat.log2_lt (by lia)).mpr (show b<2^6 by lia)) (by decide);show⟨_,Z,_,Z,_,_,Z,by lia,hb,λt ht=>⟨t,_,Z,cN.of YA,Z,_,_,Z,_,_,Z,Z,?_⟩⟩;let h1':upd G t (.tup [.int<|(n / b^i:Nat) / (b:Int),.int<|(n / b^i:Nat)%(b:Int)]) ln=À (.lst<|ds.map nV):=by rw[YB<|YV h1 ht];show h1
 let s':=h5.trans<|YG.upd (o:=.tup [.int<|(n / b^i:Nat) / (b:Int),.int<|(n / b^i:Nat)%(b:Int)]) ht;show⟨_,Z,.inl ⟨Z,_,bG.of h1'⟩,_,Z,ln,_,_,Z,Z,h1',by rw[sizeLine_eq,Ä];lia,?_⟩;show⟨ds++[n / b^i%b],À<|.int<|0+(i:Int),À<|nV<|n / b^i%b,?_,?_,?_,?_,?_,s'.put kI,(h6.upd rfl).upd rfl⟩;rw[Nat.pow_succ,<-Nat.div_div_eq_div_mul];rfl;rw[YA,Î];rfl;rw[È,h2];rfl;intro c hc;rcases YPD.mp hc with hc|hc
 show h3 c hc;rw[YO0.mp hc];show Nat.mod_lt _ (by lia);rw[List.reverse_append,List.reverse_singleton];change n / b^i%b*b^ds.reverse.length+fZ b ds.reverse=_;rw[h4,ç,h2,Nat.mod_pow_succ,Nat.add_comm,Ă];rintro σ G ⟨ds,v4,v5,rfl,h1,h2,h3,h4,h5,h6⟩;show⟨_,Z,.inl ⟨Z,_,bG.of h1⟩,ln,_,Z,Z,h1,_,Z,?_⟩;show q ln ds.reverse _ (by rw[ç];show h2) (λc hc=>h3 c<|YQa.mp hc) (by rw[h4];show Nat.mod_eq_of_lt hn) (h5.put kI) (h6.upd Z) kI (by rw[YA,List.map_reverse])
def Dv(hc:PT X c tc)(ha:BN X a t)(hb:BN X b u):QS X (.If c a b pos)<|BS tc t u:=⟨Yq hc ha.h hb.h⟩
def xx(he:QE X e te):QS X (.Return (À e) pos)<|DO te:=⟨YN he.h⟩
def Ť(K:W.Frag)(ha:QE X a ta)(hb:QE X b tb)(hK:X.K=K:=by rfl)(hs:Ř b:=by showλ_ _=>rfl):QE X (.Subscript a b pos)<|ve (qS K) ta tb:=⟨oG (YIa K hK) ha.h hb.h hs⟩
def YF5:YJ [eR,cf] [eR,cf]<|YH YAu:=dE
def YF6(T:Txt K mg C):Gd P w K mg cj 1 "_law_widths" "_law_widths" YAu [eR,cf]<|YJr:=by
 show eP YF5 λH Q E hr h=>?_;let⟨wy,c,Z,w0,c0,hp,q⟩:=h;show fO ?_;show⟨_,(YE (Dv (Yg nB (J 0) YC<|Yd _) (Y8<|xx<|Ť K (lp<|X7 (lp<|X7 Z1<|X7 Z1<|X7 Z1<|X7 Z1<|X7 Z1<|X7 Z1 X6)<|X7 (lp<|X7 Z1<|X7 Z1<|X7 Z1<|X7 Z1<|X7 Z1<|X7 Z1 X6) X6) ⟨J 0⟩) ⟨YT⟩)
  (YE ⟨(Yq (Yg iX (J 0) YC<|Yd _) (YD<|YN<|Y6<|YI (YR ZI YC<|YR Zq (J 1) YC)<|aY<|YR ZI YC<|YR Zq (YR Xw (J 1) YC) YC) YT)⟩
  (Y8 ⟨(YN<|Jh (Xe K rfl) (Y6<|YI (YR ZI YC<|YR Zq (YR Xw (J 1) YC) YC)<|YI (YR ZI YC<|YR Zq (YR Xw (J 1) YC) YC)<|aY<|YR ZI YC<|YR Zq (YR Xw (J 1) YC) YC) Xx<|J3<|YR ZI YC<|YR Zq (J 1) YC)⟩))),?_⟩
 show⟨_,Z,_,_,Z,Z,_,Z,X4 (λh1=>?_) λh1=>?_⟩;let h1:wy<2:=fq h1;show⟨CU,λl1 hl1=>⟨CU,λl2 hl2=>⟨kC,λl3 hl3=>?_⟩⟩⟩;let qw:l1≠l2:=λe=>by rw[<-e,YA]at hl2;cases hl2
 let sV:l1≠l3:=λe=>by rw[<-e,YB qw,YA]at hl3;cases hl3
 let sW:l2≠l3:=λe=>by rw[<-e,YA]at hl3;cases hl3
 let Ql:H l2=Á:=by rw[YB qw.symm]at hl2;show hl2
 rcases(show wy=0\/wy=1 by lia) with rfl|rfl
 show⟨_,Z,l3,_,0,_,Z,Z,bG.of YA,Z,q l1 [3,4,2,4,3,2] _ (.inl ⟨by decide,.inl Z⟩) (((YG.upd hl1).trans<|YG.upd hl2).trans<|YG.upd hl3) (((hp.upd Z).upd Z).upd Z) hl1 (by rw[YB sV,YB qw,YA];rfl)⟩;show⟨_,Z,l3,_,1,_,Z,Z,bG.of YA,Z,q l2 [4,3,2,4,3,2] _ (.inl ⟨by decide,.inr Z⟩) (((YG.upd hl1).trans<|YG.upd hl2).trans<|YG.upd hl3) (((hp.upd Z).upd Z).upd Z) Ql (by rw[YB sW,YA];rfl)⟩;let h1:¬wy<2:=λz=>h1<|dA z;show⟨_,Z,Z,_,Z,X4 (λh2=>?_) λh2=>?_⟩;obtain⟨a,ea,L,a2⟩:∃a:Nat,1+c%3=(a:Int)/\1<=a/\a<=3:=⟨(1+c%3).toNat,by lia,by lia,by lia⟩;obtain⟨b,eb,b1,b2⟩:∃b:Nat,1+c / 3%3=(b:Int)/\1<=b/\b<=3:=⟨(1+c / 3%3).toNat,by lia,by lia,by lia⟩;show⟨_,Z,_,_,Z,Z,(by change(0:Int)<3;decide),_,_,Z,Z,_,Z,_,_,Z,Z,⟨by decide,by decide⟩,_,_,Z,Z,(by change(0:Int)<3;decide),_,_,Z,Z,kC,λl hl=>?_⟩;show q l [a,b] _ (.inr ⟨by lia,by change 1<=2;decide,by change 2<=3;decide,λw hw=>?_,λ_=>⟨Z,λw hw=>?_⟩⟩) (YG.upd hl) (hp.upd Z) hl (by rw[YA,ea,eb];rfl);rcases YO9.mp hw with rfl|hw
 lia;rw[YO0.mp hw];lia;rcases YO9.mp hw with rfl|hw
 lia;rw[YO0.mp hw];lia;let h2:wy≠2:=λz=>h2<|dA (by rw[z]);obtain⟨a,ea,L,a2⟩:∃a:Nat,1+c / 64%4=(a:Int)/\1<=a/\a<=4:=⟨(1+c / 64%4).toNat,by lia,by lia,by lia⟩;obtain⟨b,eb,b1,b2⟩:∃b:Nat,1+c / 16%4=(b:Int)/\1<=b/\b<=4:=⟨(1+c / 16%4).toNat,by lia,by lia,by lia⟩;obtain⟨d,ed,d1,d2⟩:∃d:Nat,1+c / 4%4=(d:Int)/\1<=d/\d<=4:=⟨(1+c / 4%4).toNat,by lia,by lia,by lia⟩;show⟨_,Z,_,_,Z,Z,⟨by decide,by decide⟩,_,_,Z,Z,(by change(0:Int)<4;decide),_,_,Z,Z,_,Z,_,_,Z,Z,⟨by decide,by decide⟩,_,_,Z,Z,(by change(0:Int)<4;decide),_,_,Z,Z,_,Z,_,_,Z,Z,⟨by decide,by decide⟩,_,_,Z,Z,(by change(0:Int)<4;decide),_,_,Z,Z,iO,λl hl=>?_⟩;rw[ea,eb,ed];show⟨_,Z,_,_,Z,Z,(by change(0:Int)<3;decide),_,_,Z,Z,_,Z,l,_,Z,bG.of YA,λp hp'=>?_⟩;let n1:p≠l:=λe=>by rw[e,YA]at hp';cases hp'
 let nJ:H p=Á:=by rw[YB n1]at hp';show hp'
 let fin:∀(k:Nat),1<=k->k<=3->XS [V.int (a:Int),V.int (b:Int),V.int (d:Int)] Á (À<|1+c%3)=([a,b,d].take k).map nV->Q (.ref p) (upd (upd H l<|.lst [V.int (a:Int),V.int (b:Int),V.int (d:Int)]) p<|.lst<|XS [V.int (a:Int),V.int (b:Int),V.int (d:Int)] Á<|some<|1+c%3):=λk k1 k3 e=>by
  rw[e];let hlen:([a,b,d].take k).length=k:=by rw[ú];change min k 3=k;lia
  show q p ([a,b,d].take k) _ (.inr ⟨by lia,by lia,by lia,λw hw=>?_,λz=>absurd z h2⟩) ((YG.upd hl).trans<|YG.upd hp') ((hp.upd Z).upd Z) nJ YA;let hw:=ę hw;rcases YO9.mp hw with rfl|hw
  lia;rcases YO9.mp hw with rfl|hw
  lia;rw[YO0.mp hw];lia
 rcases(show c%3=0\/c%3=1\/c%3=2 by lia) with e|e|e
 show fin 1 (by decide) (by decide) (by rw[e];rfl);show fin 2 (by decide) (by decide) (by rw[e];rfl);show fin 3 (by decide) (by decide) (by rw[e];rfl)
noncomputable abbrev YAT:Stmt:=top 65
@[ext]def ka(nm:Nat->am)(ws s:ac Nat)(r:Nat)(ru:fU):Prop:=(∃w,ws[r]?=À w/\ru.1=nm r/\ru.2.1=List.replicate w (nm<|r+1))\/(ws.length<=r/\ru.1=nm ws.length/\ru.2.1=s.map Zp)
def YEQ{l m:ac Nat}(h1:l.Nodup)(h2:m.Nodup)(h:∀x,x∈l<->x∈m):l.length=m.length:=
 Nat.le_antisymm (ģ h1 λx S=>(h x).mp S) (ģ h2 λx S=>(h x).mpr S)
def Au{rs:YS}{nm:Nat->am}{ws s:ac Nat}{b:Nat}(inj:∀j k,j<=ws.length->k<=ws.length->nm j=nm k->j=k)(hlen:rs.length=ws.length+b)(h:∀(r:Nat) ru,rs[r]?=À ru->ka nm ws s r ru):mQ rs nm ws s b:=by
 let DU:∀(k r:Nat),k<=ws.length->(r∈YM rs (nm k)<->r<rs.length/\(if k<ws.length then r=k else ws.length<=r)):=λk r hk=>by
  rw[ZO];constructor;rintro⟨ru,e1,e2⟩;show⟨(YOx.mp e1).1,?_⟩;rcases h r ru e1 with ⟨w,f1,f2,_⟩|⟨f1,f2,_⟩
  let hr:=(YOx.mp f1).1;have:=inj r k (ê hr) hk<|f2.symm.trans e2;rw[if_pos (by lia)];show this;have:=inj _ k (Å _) hk<|f2.symm.trans e2;rw[if_neg (by lia)];show f1;rintro⟨h1,h2⟩;show⟨_,Ê h1,?_⟩;rcases h r _ (Ê h1) with ⟨w,f1,f2,_⟩|⟨f1,f2,_⟩
  let hr:=(YOx.mp f1).1;by_cases wg:k<ws.length;rw[if_pos wg]at h2;rw[f2,h2];rw[if_neg wg]at h2;lia;by_cases wg:k<ws.length;rw[if_pos wg]at h2;lia;rw[f2,show k=ws.length by lia]
 show⟨λru gF=>?_,λk hk=>?_,?_⟩;let⟨r,hr⟩:=ě gF;rcases h r ru hr with ⟨w,f1,f2,f3⟩|⟨_,f2,f3⟩
 show .inl ⟨r,w,f1,f2,f3⟩;show .inr ⟨f2,f3⟩;rw[<-Xl,YEQ (m:=[k]) (Ct _ _) (by simp) λx=>?_];rfl;rw[DU k x<|ê hk,if_pos hk,YO0];show⟨λz=>z.2,λz=>⟨by lia,z⟩⟩;rw[<-Xl,YEQ (m:=(List.range b).map (ws.length+·)) (Ct _ _) ?_ λx=>?_];rw[Ä,è];show List.Pairwise.map _ (λa b h z=>h (by lia)) Ę;rw[DU _ x<|Å _,if_neg<|ó _,YPR];constructor;rintro⟨z1,z2⟩;show⟨x-ws.length,YPY.mpr (by lia),by lia⟩;rintro⟨y,hy,rfl⟩;have:=YPY.mp hy;show⟨by lia,by lia⟩
def mQ.perm(h:mQ rs nm ws s b)(hp:g.Perm rs):mQ g nm ws s b:=
 ⟨λru gF=>h.all ru<|hp.mem_iff.mp gF,λk hk=>((hp.filter _).length_eq).trans<|h.one k hk,((hp.filter _).length_eq).trans h.many⟩
def BG{α:Type}(k:Nat)(v:α):(List.replicate k [v]).flatten=List.replicate k v:=by
 induction k with
 |zero=>rfl
 |succ k ih=>rw[þ,õ,ih,þ];rfl
def YKv{l:ai}{k:Nat}{y:am}{H:Hp}{Q:VK}(hH:H l=À (.tup [.str y]))(hk:k<=4)(hp:YL H)(q:∀p H',(p=l\/H p=Á)->H' p=À (.tup<|(List.replicate k y).map V.str)->YG H H'->YL H'->Q (.ref p) H'):YLf (.ref l) (nV k) H Q:=by
 show⟨l,k,_,Z,Z,hH,by lia,by lia,by simp,by change 1*_<=1000;lia,λe=>?_,λ_ p hp'=>?_⟩;obtain rfl:k=1:=by lia
 show q l H (.inl Z) hH (YG.refl _) hp;show q p _ (.inr hp') ?_ (YG.upd hp') (hp.upd Z);rw[YA,ï,ğ];rw[BG]
def YHR(hds:Ya (del G l) xs<|rs.map Za)(s:YG G G')(n1:tt≠l)(n2:t≠l)(h1:G' tt=À (.tup [.str h,.ref t,.int wz]))(h2:G' t=À (.tup<|ps.map V.str)):Ya (del G' l) (xs++[.ref tt])<|(rs++[(h,ps,wz)]).map Za:=by
 rw[Î];show(hds.same<|s.del l).append<|.cons ?_ .nil;show .tup (show del _ l tt=À _ from ?_)<|.cons (.str _)<|.cons (.tup (show del _ l t=À _ from ?_)<|Ya.strs ps)<|.cons (.int _) .nil;rw[ZY n1];show h1;rw[ZY n2];show h2
def YJu(h:rs.all JF=Â)(hr:JF r=Â):(rs++[r]).all JF=Â:=by
 rw[List.all_append,h,List.all_cons,hr];rfl
def YHS(h:∀(i:Nat) ru,rs[i]?=À ru->ka nm ws s i ru)(hr:ka nm ws s rs.length r):∀(i:Nat) ru,(rs++[r])[i]?=À ru->ka nm ws s i ru:=λi ru e=>by
 by_cases hj:i<rs.length;rw[ä hj]at e;show h i ru e;rw[à (by lia)]at e;have:=(YOx.mp e).1;simp only[Ñ,ü]at this;obtain rfl:i=rs.length:=by lia
 rw[ö]at e;cases e;show hr
def YOs(h:good c=Â):ZG (Zp c)=Â:=by
 unfold ZG Zp;rw[YMh h];rfl
def nE{xs:ac V}(h:1<=xs.length):XS xs Á (À 1)=xs.take 1:=by
 unfold XS;rw[HT.sIx_none,show(1:Int)=((1:Nat):Int) from Z,HT.sIx_nat,Ċ,Nat.sub_zero,ć h]
def zi{xs:ac V}{a:Nat}(h:a<=xs.length):XS xs (À (a:Int)) Á=xs.drop a:=by
 unfold XS;rw[HT.sIx_none,HT.sIx_nat,ć h,ĝ (by rw[ÿ];show Å _)]
def oi{xs:ac V}{a:Nat}(h1:1<=xs.length)(h:a<=xs.length):XS xs (À 1) (À (a:Int))=(xs.drop 1).take (a-1):=by
 unfold XS;rw[show(1:Int)=((1:Nat):Int) from Z,HT.sIx_nat,HT.sIx_nat,ć h,ć h1]
@[ext]def oQ{α:Type}(l:ac α)(a:Nat):ac α:=l.take 1++l.drop a++(l.drop 1).take (a-1)
def YM0{α:Type}{l:ac α}{a:Nat}(h:1<=a):(oQ l a).Perm l:=by
 let e:l=l.take 1++((l.drop 1).take (a-1)++l.drop a):=by
  rw[show l.drop a=(l.drop 1).drop (a-1) by rw[List.drop_drop,show 1+(a-1)=a by omega],Ĝ,Ĝ]
 unfold oQ;rw[Ý];show(List.Perm.append_left _ List.perm_append_comm).trans<|.of_eq e.symm
def YKw{α:Type}{x:α}{l:ac α}{a:Nat}:∃r,oQ (x::l) a=x::r:=⟨_,Z⟩
def YM1(h:Ya H xs ds)(a:Nat):Ya H (oQ xs a)<|oQ ds a:=
 ((h.take 1).append<|h.drop a).append ((h.drop 1).take _)
def YOt{α β:Type}(f:α->β)(l:ac α)(a:Nat):(oQ l a).map f=oQ (l.map f) a:=by
 unfold oQ;rw[Î,Î,List.map_take,List.map_drop,List.map_take,List.map_drop]
inductive YHT(vs:List V)(H:Hp)(Q:VK):Prop
 |mk (nh wh lf:Addr)(nm:Nat->Str)(ws s:List Nat)(b:Nat)(c:Int):vs=[.ref nh,.ref wh,.ref lf,nV b,.int c]->H nh=À (.lst ((List.range 7).map λk=>.str (nm k)))->Nm7 nm->H wh=À (.lst (ws.map nV))->1<=ws.length->ws.length<=6->(∀w∈ws,w<=4)->H lf=À (.tup ((s.map Zp).map V.str))->s.length<=1->(∀c∈s,good c=Â)->b<=50->1<=b->YL H->(∀(l:Addr) (xs:List V) (r0:fU) (Yu:YS) (H':Hp),Y4 (r0::Yu)=Â->r0.1=nm 0->mQ (r0::Yu) nm ws s b->H l=Á->H' l=À (.lst xs)->Ya H' xs ((r0::Yu).map Za)->YG H H'->YL H'->Q (.ref l) H')->YHT vs H Q
@[ext]def YJv:Sp:=λvs H Q E_=>YHT vs H Q
def JC:YJ [da,cp,eS,cm,cf,"_law_rules",ce,dS] [da,cp,eS,cm,cf]<|YH YAT:=dE
def YEm(T:Txt K mg C):Gd P w K mg cj 1 "_law_grammar" "_law_grammar" YAT [da,cp,eS,cm,cf]<|YJv:=by
 show eP JC λH Q E hr h=>?_;let⟨nh,wh,lf,nm,ws,s,b,c,Z,rD,h7,pB,w1,w6,lB,uy,s1,hs,Wl,b1,hp,q⟩:=h;let hU:=hr.units;show fO ?_;show⟨_,(YE (ia 5 JC<|lp X6)
  (YE ⟨(fM (JD Z T.cF<|aY<|fA K T.aJ<|J 1) (fm 6 JC)<|YD<|YW<|fP K (J 5)<|ZE<|YI (fN K (J 0)<|J 6)<|YI (YR YMr (ZE<|aY<|fN K (J 0)<|YR ZI (J 6) YC)<|fN K (J 1)<|J 6)<|aY<|YR Zq (YR Xw (J 4)<|YR ZI (J 6) YC) YC)⟩
  (YE ⟨(fM (JD Z T.cF<|aY<|J 3) (fm 6 JC)<|YD<|YW<|fP K (J 5)<|ZE<|YI (fN K (J 0)<|fA K T.aJ<|J 1)<|YI (J 2)<|aY<|YR Zq (YR Xw (J 4)<|YR ZI (J 6) YC)<|YR oV YC YC)⟩
  (YE ⟨(c_ 7 JC<|YR ZI YC<|YR Zq (J 4)<|fA K T.aJ<|J 5)⟩
  (Y8 ⟨(YN<|YR YNQ (YR YNQ (Jh (Xe K rfl) (J 5) Xx<|J3 YC)<|Jh (Xe K rfl) (J 5) (J3<|J 7) Xx)<|Jh (Xe K rfl) (J 5) (J3 YC)<|J3<|J 7)⟩))))),?_⟩
 show⟨YK<|Ë _,λl hl=>?_⟩;dsimp only[Y7];let sl:=YG.upd (o:=.lst []) hl;show fb λu eu=>?_;let hnm:∀k:Nat,k<7->fS ((List.range 7).map λk=>V.str<|nm k) (k:Int)=À (.str<|nm k):=λk hk=>ZB (by rw[Ï,List.getElem?_range hk];rfl);show⟨_,Z,wh,_,Z,.inl<|bG.of<|sl _ _ pB,_,Z,by lia,by rw[Ä];lia,?_⟩;rw[Ä,ï];show XM (lo:=0) (n:=ws.length) (λi σ G=>g9 λ(rs:YS) (xs:ac V) (v6:ag V)=>xu (σ=[À<|.ref nh,À<|.ref wh,À<|.ref lf,À<|nV b,À<|.int c,À<|.ref l,v6,Á]) (G l=À (.lst xs)) (Ya (del G l) xs<|rs.map Za) (rs.length=i) (YG H G) (YL G) (rs.all JF=Â) (∀(r:Nat) ru,rs[r]?=À ru->ka nm ws s r ru)) ⟨[],[],Á,Z,YA,.nil,Z,sl,hp.upd Z,Z,λj r hr=>nomatch hr⟩ ?_ ?_;rintro i σ G hi ⟨rs,xs,v6,rfl,h6,hds,kh,s6,p6,hok,gF⟩;rw[Int.zero_add];let jt:xs.length=i:=by rw[hds.len,Ä,kh]
 let hwi:fS (ws.map nV) (i:Int)=À (nV ws[i]):=ZB (by rw[Ï,Ê hi];rfl);let h4:=lB _<|Ą hi;show⟨_,Z,.inl ⟨Z,_,bG.of h6⟩,_,Z,_,Z,nh,_,_,_,Z,Z,bG.of<|s6 _ _ rD,hnm i (by lia),_,Z,_,Z,_,_,Z,Z,nh,_,_,_,Z,Z,bG.of<|s6 _ _ rD,hnm (i+1) (by lia),kN,λt1 gH=>?_⟩;let u1:=YG.upd (o:=.tup [V.str<|nm<|i+1]) gH;show⟨_,Z,_,Z,wh,_,_,_,Z,Z,bG.of<|(s6.trans u1) _ _ pB,hwi,YKv YA h4 (p6.upd rfl) λt2 G2 f2 h2 s2 p2=>?_⟩;let hi1:(0:Int)<(i:Int)+1:=by lia
 show⟨_,Z,_,Z,_,_,Z,Z,_,_,Z,Z,⟨hi1,by lia⟩,_,_,Z,Z,(by change(0:Int)<1000;decide),iO,λtt gJ=>?_⟩;let z0:0<=c / ((i:Int)+1)%1000:=by lia
 let z1:c / ((i:Int)+1)%1000<=10^60:=by have:(1000:Int)<=10^60:=(by decide);lia
 revert gJ z0 z1;generalize c / ((i:Int)+1)%1000=wz;intro gJ z0 z1;let sG2:=u1.trans s2;let Wm:=sG2 _ _ h6;let u3:=YG.upd (o:=.tup [.str<|nm i,.ref t2,.int wz]) gJ;let n1:tt≠l:=λz=>by rw[z,Wm]at gJ;cases gJ
 let n2:t2≠l:=λz=>by
  rcases f2 with f2|f2
  rw[<-f2,z,h6]at gH;cases gH;rw[z,u1 _ _ h6]at f2;cases f2
 let nj:JF (nm i,List.replicate ws[i]<|nm<|i+1,wz)=Â:=YGq (h7.ok i (by lia)) (by rw[ù];lia) (λz hz=>by rw[(YQA.mp hz).2];show XT<|h7.ok _ (by lia)) z0 z1;show⟨l,xs,_,Z,Z,u3 _ _ Wm,á (show xs.length<1000 by lia)<|YK<|Å _,?_⟩;show⟨rs++[(nm i,List.replicate ws[i]<|nm<|i+1,wz)],xs++[.ref tt],_,Z,YA,by rw[ź];show YHR hds (sG2.trans u3) n1 n2 YA<|u3 _ _ h2,by rw[È,kh];rfl,((s6.trans sG2).trans u3).put hl,(p2.upd Z).upd Z,YJu hok nj,YHS gF<|.inl ⟨ws[i],by rw[kh];show Ê hi,by rw[kh],by rw[kh]⟩⟩;rintro σ G ⟨rs,xs,v6,rfl,h6,hds,kh,s6,p6,hok,gF⟩;change u _ _ _;subst eu;show fb λu eu=>?_;show⟨_,Z,_,Z,by lia,by lia,?_⟩;show XM (lo:=0) (n:=b) (λi σ G=>g9 λ(rs:YS) (xs:ac V) (v6:ag V)=>xu (σ=[À<|.ref nh,À<|.ref wh,À<|.ref lf,À<|nV b,À<|.int c,À<|.ref l,v6,Á]) (G l=À (.lst xs)) (Ya (del G l) xs<|rs.map Za) (rs.length=ws.length+i) (YG H G) (YL G) (rs.all JF=Â) (∀(r:Nat) ru,rs[r]?=À ru->ka nm ws s r ru)) ⟨rs,xs,v6,Z,h6,hds,kh,s6,p6,hok,gF⟩ ?_ ?_;rintro i σ G hi ⟨rs,xs,v6,rfl,h6,hds,kh,s6,p6,hok,gF⟩;let jt:xs.length=ws.length+i:=by rw[hds.len,Ä,kh]
 show⟨_,Z,.inl ⟨Z,_,bG.of h6⟩,_,Z,_,Z,wh,_,Z,.inl<|bG.of<|s6 _ _ pB,nh,_,_,_,Z,Z,bG.of<|s6 _ _ rD,(by rw[Ä];show hnm ws.length (by lia)),_,Z,?_⟩;let Aa:(0:Int)<0+(i:Int)+7:=by lia
 show⟨_,Z,_,Z,_,_,Z,Z,_,_,Z,Z,⟨Aa,by lia⟩,_,_,Z,Z,⟨by decide,by decide,by decide⟩,_,_,Z,Z,(by change(0:Int)<10^(60:Int).toNat;decide),iO,λtt gJ=>?_⟩;let z0:0<=c / (0+(i:Int)+7)%10^(60:Int).toNat:=ø _ (by decide);let z1:c / (0+(i:Int)+7)%10^(60:Int).toNat<=10^60:=Int.le_of_lt<|Ē _ (by decide);revert gJ z0 z1;generalize c / (0+(i:Int)+7)%10^(60:Int).toNat=wz;intro gJ z0 z1;let u3:=YG.upd (o:=.tup [.str<|nm ws.length,.ref lf,.int wz]) gJ;let n1:tt≠l:=λz=>by rw[z,h6]at gJ;cases gJ
 let n2:lf≠l:=λz=>by rw[z,hl]at uy;cases uy
 let nj:JF (nm ws.length,s.map Zp,wz)=Â:=YGq (h7.ok _ (by lia)) (by rw[Ä];lia) (λz hz=>by
  let⟨c,hc,Z⟩:=YPR.mp hz;show YOs<|hs c hc) z0 z1
 show⟨l,xs,_,Z,Z,u3 _ _ h6,á (show xs.length<1000 by lia)<|YK<|Å _,?_⟩;show⟨rs++[(nm ws.length,s.map Zp,wz)],xs++[.ref tt],_,Z,YA,by rw[ź];show YHR hds u3 n1 n2 YA<|(s6.trans u3) _ _ uy,by rw[È,kh];rfl,(s6.trans u3).put hl,(p6.upd Z).upd Z,YJu hok nj,YHS gF<|.inr ⟨by lia,Z,Z⟩⟩;rintro σ G ⟨rs,xs,v6,rfl,h6,hds,kh,s6,p6,hok,gF⟩;change u _ _ _;subst eu;let jt:xs.length=ws.length+b:=by rw[hds.len,Ä,kh]
 show⟨_,Z,_,Z,l,_,Z,.inl<|bG.of h6,_,_,Z,Z,(by change(0:Int)<(xs.length:Int);lia),_,_,Z,Z,?_⟩;obtain⟨at_,hat,Ab,at2⟩:∃a:Nat,1+c%(xs.length:Int)=(a:Int)/\1<=a/\a<=xs.length:=⟨(1+c%(xs.length:Int)).toNat,by have:=ø c (show(xs.length:Int)≠0 by lia);lia,by have:=ø c (show(xs.length:Int)≠0 by lia);lia,by have:=Ē c (show(0:Int)<(xs.length:Int) by lia);lia⟩;rw[hat];let hx1:1<=xs.length:=by lia
 rw[<-jt]at kh;show⟨_,Z,_,Z,l,_,Z,bG.of h6,λp1 Ac=>?_⟩;let v1:=YG.upd (o:=.lst<|XS xs Á<|some 1) Ac;show⟨_,Z,_,Z,_,Z,l,_,Z,bG.of<|v1 _ _ h6,λp2 nJ=>?_⟩;let v2:=YG.upd (o:=.lst<|XS xs (À (at_:Int)) Á) nJ;show⟨p1,p2,_,_,Z,Z,v2 _ _ YA,YA,YK (by have:=Jz xs Á<|some 1;have:=Jz xs (À (at_:Int)) Á;lia),λp3 vU=>?_⟩;let v3:=YG.upd (o:=.lst<|XS xs Á (À 1)++XS xs (À (at_:Int)) Á) vU;show⟨_,Z,_,Z,_,Z,_,Z,l,_,Z,bG.of<|((v1.trans v2).trans v3) _ _ h6,λp4 rC=>?_⟩;let v4:=YG.upd (o:=.lst<|XS xs (À 1)<|some (at_:Int)) rC;show⟨p3,p4,_,_,Z,Z,v4 _ _ YA,YA,YK (by have:=Jz xs Á<|some 1;have:=Jz xs (À (at_:Int)) Á;have:=Jz xs (À 1)<|some (at_:Int);rw[È];lia),λp5 wY=>?_⟩;let v5:=YG.upd (o:=.lst<|XS xs Á (À 1)++XS xs (À (at_:Int)) Á++XS xs (À 1) (À (at_:Int))) wY;let vs:=(((v1.trans v2).trans v3).trans v4).trans v5;obtain⟨r0,uz,rfl⟩:∃r0 uz,rs=r0::uz:=by
  cases rs with
  |nil=>rw[ü]at kh;lia
  |cons r0 uz=>show⟨r0,uz,Z⟩
 let⟨Yu,er⟩:=YKw (x:=r0) (l:=uz) (a:=at_);let hpm:=YM0 (l:=r0::uz) Ab;let hL:=(Au (b:=b) (λj k hj hk e=>h7.inj j k (by lia) (by lia) e) (kh.trans jt) gF).perm hpm;let mJ:r0.1=nm 0:=by
  rcases gF 0 r0 Z with ⟨_,_,e,_⟩|⟨z,_⟩
  show e;lia
 rw[er]at hpm hL;let qJ:Y4 (r0::Yu)=Â:=by
  unfold Y4;rw[dA (by rw[hpm.length_eq,kh];lia),YPc.mpr λr hr=>YPc.mp hok r<|hpm.mem_iff.mp hr];rfl
 show q p5 (oQ xs at_) r0 Yu _ qJ mJ hL (((s6.trans v1).trans<|v2.trans<|v3.trans v4).free wY) ?_ ?_ (s6.trans vs) (((((p6.upd Z).upd Z).upd Z).upd Z).upd Z);rw[YA,nE hx1,zi at2,oi hx1 at2];rfl;rw[<-er,YOt];show YM1 (hds.same<|(X5 _ _).trans vs) at_
noncomputable abbrev ł:Stmt:=top 67
def JA:([ce,dr,"_law_name"]:ac am).Nodup:=by decide+kernel
@[ext]def iq(g:YS)(nm:Nat->am)(k:Nat):Nat:=(YM g<|nm k).headD 0
inductive YJw(vs:List V)(H:Hp)(Q:VK):Prop
 |mk (lg nh wh ch:Addr)(xs:List V)(g:YS)(nm:Nat->Str)(ws c row:List Nat):vs=[.ref lg,.ref nh,.ref wh,.ref ch]->H lg=À (.lst xs)->Ya H xs (g.map Za)->Y4 g=Â->H nh=À (.lst ((List.range 7).map λk=>.str (nm k)))->H wh=À (.lst (ws.map nV))->ws.length<=6->(∀w∈ws,w<=4)->(∀k,k<=ws.length->YM g (nm k)≠[])->H ch=À (.lst (c.map nV))->Lv ws (YM g (nm ws.length)) (iq g nm) [0] c row->row.length<=1001->YL H->(∀(l:Addr) (H':Hp),H l=Á->H' l=À (.lst (row.map nV))->YG H H'->YL H'->Q (.ref l) H')->YJw vs H Q
@[ext]def YMF:Sp:=λvs H Q E_=>YJw vs H Q
def AC{xs:ac V}{a:Nat}(h:a<=xs.length):XS xs Á (À (a:Int))=xs.take a:=by
 unfold XS;rw[HT.sIx_none,HT.sIx_nat,Ċ,Nat.sub_zero,ć h]
def ī(ks:ac Nat):(D.lst<|ks.map gS).ok=Â:=by
 rw[show ks.map gS=(ks.map λk:Nat=>(k:Int)).map D.int by rw[é];rfl];show mM _
def YJx(ks:ac Nat):(D.lst<|ks.map gS).dep<=64:=by
 rw[show ks.map gS=(ks.map λk:Nat=>(k:Int)).map D.int by rw[é];rfl];show YNv _
def ox(ws:ac Nat):1<=g7 ws:=by
 unfold g7;split <;> lia
def mB{α:Type}{l:ac α}{f:α->Nat}(h:∀x∈l,1<=f x):l.length<=Yt l f:=by
 induction l with
 |nil=>show Ë _
 |cons a l ih=>
  rw[Ñ,YX];have:=h a É;have:=ih λx S=>h x<|Ç _ S;lia
@[ext]def B3(G:Hp)(g:YS)(nm:Nat->am)(ln:ai)(as:ac ai):Prop:=∀(k:Nat) (a:ai),as[k]?=À a->a≠ln/\G a=À (.lst<|(YM g<|nm k).map nV)
def Z5:YJ [dr,da,cp,c8,fH,"_law_name",dL,"_law_waiting",dS,"_law_level"] [dr,da,cp,c8]<|YH ł:=dE
def YJy(T:Txt K mg C):Gd P w K mg cj 1 "_law_row" "_law_row" ł [dr,da,cp,c8]<|YMF:=by
 show eP Z5 λH Q E hr h=>?_;let⟨lg,nh,wh,ch,xs,g,nm,ws,c,row,Z,tW,hds,hg,rD,pB,w6,lB,hne,mC,hLv,hrl,hp,q⟩:=h;let hU:=hr.units;show fO ?_;show⟨_,(YE (ia 4 Z5<|lp X6)
  (YE ⟨(fM (ZJ K rfl<|Jh (Xe K rfl) (J 1) Xx<|J3<|YR ZI (fA K T.aJ<|J 2) YC) (fm 5 Z5)<|YD<|YW<|fP K (J 4)<|BH (N:=[ce,dr,"_law_name"]) (ρ:=[Á,À 0,À 5]) rfl (Zf.closes [dr,da,cp,c8,fH,"_law_name",dL,"_law_waiting",dS,"_law_level"] (YH ł).names rfl rfl rfl rfl (by decide+kernel) (by decide+kernel) (λx h=>BY h) (by decide+kernel) rfl (by decide+kernel)) (JD rfl T.cF<|aY<|fA K T.aJ<|J 0) (λ_ _ _ _ _=>(si (i:=0) JA rfl (Or.inl rfl)<|.inr rfl)) (λ_ _ _ _ _=>(nc<|Yg iX (eL K (fN K (J 1)<|J 0) YC) (J 2)<|Yd _))<|λ_ _ _ _ _=>(J 0))⟩
  (YE (ia 6 Z5<|lp X6)
  (YE (ia 7 Z5<|lp<|X7 Z1 X6)
  (YE (ia 8 Z5 Z1)
  (YE ⟨(J1 PassesOwn.never (Yg (YFI K Z hU) (J 7) (Y6 Ys)<|Yd _) (YF (c_ 9 Z5<|wm K rfl ñ ĕ Đ xF<|J 7)
  (YD (Yq (Yg iX (J 9) (fA K T.aJ<|J 2)<|Yd _) (YF (YW<|fP K (J 6)<|fN K (fN K (J 4)<|J 9)<|fN K (J 3)<|J 8)
  (YD<|c_ 8 Z5<|YR ZI (J 8) YC)) (YF (YW<|fP K (J 6)<|fN K (fN K (J 4)<|J 9) YC)
  (YD<|YW<|oY K rfl ñ PySem.F.slot_list_extend PySem.F.type_list_extend YGa (J 7)<|aY<|YR YNR (Y6<|aY<|YR ZI (J 9) YC)<|fN K (J 2)<|J 9))))))⟩
  (Y8 ⟨(YN<|J 6)⟩))))))),?_⟩
 show⟨YK<|Ë _,λln kI=>?_⟩;let sl:=YG.upd (o:=.lst []) kI;dsimp only[Y7];show fb λu eu=>?_;show⟨_,Z,_,Z,wh,_,Z,.inl<|bG.of<|sl _ _ pB,_,_,Z,Z,_,Z,nh,_,Z,bG.of<|sl _ _ rD,λns hns=>?_⟩;let ecut:XS ((List.range 7).map λk=>V.str<|nm k) Á (À<|((ws.map nV).length:Int)+1)=(List.range<|ws.length+1).map λk=>V.str<|nm k:=by
  rw[Ä,show((ws.length:Int)+1)=((ws.length+1:Nat):Int) from Z,AC (by rw[Ä,è];lia),<-List.map_take,List.take_range,ć (by lia)]
 rw[ecut];let sn:=sl.trans<|YG.upd (o:=.lst<|(List.range<|ws.length+1).map λk=>V.str<|nm k) hns;let nln:ln≠ns:=λe=>by rw[<-e,YA]at hns;cases hns
 show⟨ns,Z,⟨_,bG.of YA⟩,ZL (K:=K) (a:=ns) (xs:=(List.range<|ws.length+1).map λk=>V.str<|nm k) (λi σ G=>DB λ(as:ac ai) (v5:ag V)=>Ŋ (σ=[À<|.ref lg,À<|.ref nh,À<|.ref wh,À<|.ref ch,À<|.ref ln,v5,Á,Á,Á,Á]) (G ln=À (.lst<|as.map V.ref)) (as.length=i) (B3 G g nm ln as) (YG H G) (G ns=À (.lst<|(List.range<|ws.length+1).map λk=>V.str<|nm k))<|YL G) ⟨[],Á,Z,by rw[YB nln];show YA,Z,(λk a e=>nomatch e),sn,YA,(hp.upd Z).upd Z⟩ (by rintro i σ G _ ⟨_,_,_,_,_,_,_,e,_⟩;show bG.of e) ?_ ?_⟩;rintro i v σ G hi ⟨as,v5,rfl,h1,h2,h3,h4,h5,h6⟩;let hil:i<ws.length+1:=by have:=(YOx.mp hi).1;rw[Ä,è]at this;show this
 obtain rfl:V.str (nm i)=v:=by rw[Ï,List.getElem?_range hil]at hi;show Û hi
 let m8:g.length<=60:=fq (YPW.mp hg).1;let jt:xs.length=g.length:=by rw[hds.len,Ä]
 show⟨_,Z,.inl ⟨Z,_,bG.of h1⟩,_,Z,lg,_,Z,.inl<|bG.of<|h4 _ _ tW,_,Z,by lia,by lia,λl2 hl2=>?_⟩;show YHj (n:=((xs.length:Int)).toNat) (λk=>decide ((g[k]?.map (·.1))=À (nm i))) (λk=>.int<|0+(k:Int)) (Ψ (lo:=0)).g h6 hl2 (YK (by lia)) (λτ'=>∃v,τ'=[v,À<|.ref lg,À<|.str<|nm i]) ⟨_,Z⟩ ?_ ?_;rintro τ' k v H' Q1 Q2 ⟨v0,rfl⟩ rfl hk hs hp' hQ1 hQ2;let hk':k<xs.length:=by lia
 let⟨r,t,p,er,e0,ht,nJ⟩:=YLI hds<|Ê hk';let ht':H' t=À (.tup [.str r.1,.ref p,.int r.2.2]):=(h4.trans hs) _ _ ht;let hat:fS xs (0+(k:Int))=À (.ref t):=by
  rw[Int.zero_add];show ZB (by rw[Ê hk',e0])
 show⟨_,Z,_,Z,lg,_,_,_,Z,Z,bG.of<|(h4.trans hs) _ _ tW,hat,t,_,0,_,Z,Z,cN.of ht',Z,_,Z,Z,_,Z,?_⟩;let ed:decide (V.str r.1=V.str (nm i))=decide ((g[k]?.map (·.1))=À (nm i)):=by
  rw[er];change _=decide (À r.1=À (nm i));rw[ð];simp
 show X4 (λh1=>?_) λh1=>?_;rw[ed]at h1;show⟨_,Z,hQ1 _ _ ⟨_,Z⟩ (YG.refl _) hp' h1⟩;rw[ed]at h1;show hQ2 _ _ ⟨_,Z⟩ (YG.refl _) hp' (by simpa using h1);intro B2 t2 pB2 hl';let e10:((List.range ((xs.length:Int)).toNat).filter<|λk=>decide ((g[k]?.map (·.1))=À (nm i))).map (λ(k:Nat)=>V.int<|0+(k:Int))=(YM g<|nm i).map nV:=by
  unfold YM;rw[ï,jt];show ý λk _=>?_;rw[Int.zero_add];rfl
 rw[e10]at hl';let n2:l2≠ln:=λe=>by rw[e,h1]at hl2;cases hl2
 show⟨ln,_,_,Z,Z,t2 _ _ h1,by rw[Ä,sizeLine_eq];lia,?_⟩;let n3:ns≠ln:=nln.symm;show⟨as++[l2],_,Z,by rw[YA,Î];rfl,by rw[È,h2];rfl,λk a e=>?_,(h4.trans t2).put kI,by rw[YB n3];show t2 _ _ h5,pB2.upd Z⟩;by_cases hk:k<as.length;rw[ä hk]at e;let⟨z1,z2⟩:=h3 k a e;show⟨z1,by rw[YB z1];show t2 _ _ z2⟩;rw[à (by lia)]at e;have:=(YOx.mp e).1;simp only[Ñ,ü]at this;obtain rfl:k=i:=by lia
 rw[h2,ö]at e;cases e;show⟨n2,by rw[YB n2];show hl'⟩;rintro σ G ⟨as,v5,rfl,h1,h2,h3,h4,h5,h6⟩;rw[Ä,è]at h2;change u _ _ _;subst eu;show⟨YK<|Ë _,λlr hlr=>⟨kN,λlw wj=>?_⟩⟩;let nrw:lr≠lw:=λe=>by rw[<-e,YA]at wj;cases wj
 let uI:G lw=Á:=by rw[YB nrw.symm]at wj;show wj
 dsimp only[Y7];show AW ?_;show fb λu eu=>?_;show⟨λm σ G2=>ĩ λ(done Yu ls cd cr:ac Nat) (v9:ag V)=>Dr (σ=[À<|.ref lg,À<|.ref nh,À<|.ref wh,À<|.ref ch,À<|.ref ln,v5,À<|.ref lr,À<|.ref lw,À<|nV cd.length,v9]) (G2 lw=À (.lst<|ls.reverse.map nV)) (G2 lr=À (.lst<|done.map nV)) (row=done++Yu) (c=cd++cr) (Lv ws (YM g<|nm ws.length) (iq g nm) ls cr Yu) (YG G G2) (YL G2)<|m=Yu.length,
  ⟨_,[],row,[0],[],c,Á,Z,YA,by rw[YB nrw];show YA,Z,Z,hLv,(YG.upd hlr).trans<|YG.upd wj,(h6.upd rfl).upd rfl,Z⟩,?_⟩
 rintro m σ G2 ⟨done,Yu,ls,cd,cr,v9,rfl,gw,gr,er,ec,hL,sG,pG,rfl⟩;show⟨_,Z,YK<|Ë _,λle hle=>⟨.lst<|ls.reverse.map gS,.lst [],.lst (.inl<|YG.upd hle _ _ gw)<|Co _,.lst (.inl YA) .nil,ī _,Z,YJx _,_,Z,?_⟩⟩;let yc:=YG.upd (o:=.lst []) hle _ _ gw;let mq:=YG.upd (o:=.lst []) hle _ _ gr;let sG3:=sG.trans<|YG.upd (o:=.lst []) hle;let pG3:YL<|upd G2 le<|.lst []:=pG.upd rfl;revert yc mq sG3 pG3;generalize upd G2 le (.lst [])=G3;intro yc mq sG3 pG3;cases ls with
 |nil=>
  cases hL;rw[show dQ (.lst<|([]:ac Nat).reverse.map gS) (.lst [])=Â by unfold dQ fX;rfl];show Y5 ?_;change u _ _ _;subst eu;show⟨_,Z,q lr G3 (h4.free hlr) (by rw[mq,er,ß]) (h4.trans sG3) pG3⟩
 |cons k ls=>
  rw[show dQ (.lst<|(k::ls).reverse.map gS) (.lst [])=Ã by
   cases hz:(k::ls).reverse.map gS with
   |nil=>have:=fT List.length hz;rw[Ä,ç]at this;cases this
   |cons _ _=>unfold dQ fX;rfl]
  show Y9 ⟨_,λ_ _ h=>h,?_⟩;let hkl:=hL.le k É;let elast:((k::ls).reverse.map nV)[((k::ls).reverse.map nV).length-1]?=À (nV k):=by
   rw[ã,Î,È];change(_++[nV k])[_+1-1]?=_;rw[Nat.add_sub_cancel,à<|Å _,ö];rfl
  let edrop:((k::ls).reverse.map nV).dropLast=ls.reverse.map nV:=by rw[ã,Î];show Č
  show⟨_,Z,.inl ⟨Z,_,bG.of yc⟩,lw,_,_,Z,Z,yc,elast,?_⟩;rw[edrop];let yd:upd G3 lw (.lst<|ls.reverse.map nV) lw=À (.lst<|ls.reverse.map nV):=YA;let gY:upd G3 lw (.lst<|ls.reverse.map nV) lr=À (.lst<|done.map nV):=by rw[YB nrw];show mq
  let sG4:YG G<|upd G3 lw<|.lst<|ls.reverse.map nV:=sG3.put uI;let pG4:YL<|upd G3 lw<|.lst<|ls.reverse.map nV:=pG3.upd rfl;revert yd gY sG4 pG4;generalize upd G3 lw (.lst<|ls.reverse.map nV)=G4;intro yd gY sG4 pG4;let sH4:=h4.trans sG4;let uJ:k<as.length:=by lia
  let⟨_,Ad⟩:=h3 k _<|Ê uJ;let uK:=sG4 _ _ Ad;let hat:fS (as.map V.ref) (k:Int)=À (.ref as[k]):=ZB (by rw[Ï,Ê uJ];rfl);let WF:done.length<row.length:=by
   rw[er,È];cases hL <;> (rw[Ñ];lia)
  show⟨_,Z,_,Z,wh,_,Z,.inl<|bG.of<|sH4 _ _ pB,Z,_,Z,?_⟩;rw[Ä];cases hL with
  |@leaf _ Ae jF j r hj hL'=>
   rw[show decide (nV ws.length=V.int (ws.length:Int))=Â from dA Z];let Q0:fS (c.map nV) (cd.length:Int)=À (nV j):=ZB (by rw[ec,Î,à (by rw[Ä];show Å _),Ä,ö];rfl);show Y9 ⟨_,Z,.inl ⟨Z,_,bG.of gY⟩,_,Z,_,Z,ln,_,_,_,Z,Z,bG.of<|sG4 _ _ h1,hat,_,Z,_,Z,ch,_,_,_,Z,Z,bG.of<|sH4 _ _ mC,Q0,as[ws.length],_,_,_,Z,Z,bG.of uK,ZB (by rw[Ï,hj];rfl),lr,_,_,Z,Z,gY,by rw[Ä,sizeLine_eq];lia,?_⟩;show⟨_,Z,_,_,Z,Z,?_⟩;show⟨jF.length,û _,done++[r],jF,ls,cd++[j],Ae,À<|nV ws.length,?_,by rw[YB nrw.symm];show yd,by rw[YA,Î];rfl,by rw[er,Ý];rfl,by rw[ec,Ý];rfl,hL',sG4.put hlr,pG4.upd Z,Z⟩;rw[È];rfl
  |@node _ _ jF _ wd hw hL'=>
   let wg:=(YOx.mp hw).1;rw[show decide (nV k=V.int (ws.length:Int))=Ã from eI λz=>by have:=V.int.inj z;lia];let hwd:wd<=4:=lB _<|Ð hw;let Af:(YM g<|nm k)[0]?=À (iq g nm k):=by
    unfold iq;cases hz:YM g (nm k) with
    |nil=>show absurd hz<|hne k (by lia)
    |cons _ _=>rfl
   show Y5 ⟨_,Z,.inl ⟨Z,_,bG.of gY⟩,_,Z,_,Z,ln,_,_,_,Z,Z,bG.of<|sG4 _ _ h1,hat,as[k],_,0,_,Z,Z,bG.of uK,ZB (j:=0) (by rw[Ï,Af];rfl),lr,_,_,Z,Z,gY,by rw[Ä,sizeLine_eq];lia,?_⟩;let qH:upd G4 lr (.lst<|done.map nV++[nV<|iq g nm k]) lr=À (.lst<|(done++[iq g nm k]).map nV):=by rw[YA,Î];rfl
   let ye:upd G4 lr (.lst<|done.map nV++[nV<|iq g nm k]) lw=À (.lst<|ls.reverse.map nV):=by rw[YB nrw.symm];show yd
   let sG5:YG G<|upd G4 lr<|.lst<|done.map nV++[nV<|iq g nm k]:=sG4.put hlr;let pG5:YL<|upd G4 lr<|.lst<|done.map nV++[nV<|iq g nm k]:=pG4.upd rfl;revert qH ye sG5 pG5;generalize upd G4 lr (.lst<|done.map nV++[nV<|iq g nm k])=G5;intro qH ye sG5 pG5;let sH5:=h4.trans sG5;show⟨_,Z,.inl ⟨Z,_,bG.of ye⟩,_,Z,_,_,Z,Z,kN,λl3 hl3=>?_⟩;let z3:=YG.upd (o:=.lst [V.int<|(k:Int)+1]) hl3;show⟨_,Z,_,Z,wh,_,_,_,Z,Z,bG.of<|(sH5.trans z3) _ _ pB,ZB (by rw[Ï,hw];rfl),l3,_,_,Z,Z,YA,by lia,by lia,YK (by change 1*_<=1000;lia),λp4 rC=>?_⟩;let z4:=z3.trans<|YG.upd (o:=.lst (List.replicate ((wd:Int)).toNat [V.int<|(k:Int)+1]).flatten) rC;let hll:ls.length<=1001:=by
    let h1:=YOn hL';rw[Jk]at h1;let h2:ls.length<=Yt ls λk=>g7<|ws.drop k:=mB λx _=>ox _;let h3:jF.length<=row.length:=by rw[er,È,Ñ];lia
    lia
   show⟨lw,p4,_,_,Z,Z,z4 _ _ ye,YA,by rw[sizeLine_eq,Ä,ç,BG,ù,ï];lia,?_⟩;show⟨jF.length,û _,done++[iq g nm k],jF,List.replicate wd (k+1)++ls,cd,cr,_,Z,?_,by rw[YB nrw];show z4 _ _ qH,by rw[er,Ý];rfl,ec,hL',(sG5.trans z4).put uI,((pG5.upd Z).upd Z).upd Z,Z⟩;rw[YA,BG,ï,List.reverse_append,List.reverse_replicate,Î,ğ];rfl
noncomputable abbrev YCD:Stmt:=top 70
noncomputable abbrev ξ:Stmt:=top 71
noncomputable abbrev YBZ:Stmt:=top 72
structure A4(CW:Addr)(H:Hp)(wd:Addr)(g:YS)(z:Str)(DS:List Nd)(F:Nd->Bool)(r0:fU)(Yu:YS):Prop where
 wa:XV CW H wd g z DS (À<|.part r0.1 0 z.cps.size)
 wk:ZF g z.cps.size F (À<|.part r0.1 0 z.cps.size) DS
 nl:DS.length<=2900000
 st:gg g z.cps.toList F
 hh:∀ru∈g,eW ru.1=Ã
 eg:g=r0::Yu
 good:Xz F DS z.cps.size [r0.1] 0
 nr:∀r,¬Xo (gE g z.cps.size DS) DS r
def A4.same{Yu:YS}(h:A4 CW H wd g z DS F r0 Yu)(s:YG H H'):A4 CW H' wd g z DS F r0 Yu:=⟨h.wa.same s,h.wk,h.nl,h.st,h.hh,h.eg,h.good,h.nr⟩
def kz.ne(h:kz x y):x≠y:=by
 induction h with
 |here h=>intro e;injection e with e _;lia
 |on _ ih=>intro e;injection e with _ e;show ih e
def kz.irrefl(h:kz x x):False:=h.ne Z
inductive YHU(CW:Addr)(vs:List V)(H:Hp)(Q:VK):Prop
 |mk (wd:Addr)(k:Nat)(g:YS)(z:Str)(DS:List Nd)(F:Nd->Bool)(r0:fU)(Yu:YS):vs=[.ref wd,nV k]->A4 CW H wd g z DS F r0 Yu->YL H->(∀T,Zi g z.cps.size DS T->(k:Int)<Yk (T (.part r0.1 0 z.cps.size)))->(∀T row a H',Zi g z.cps.size DS T->JY g T z.cps.size 0 [r0.1] k row z.cps.size [] 0->row.length<=1000->H a=Á->H' a=À (.lst (row.map nV))->YG H H'->YL H'->Q (.ref a) H')->(∀T row i q qs b H',Zi g z.cps.size DS T->JY g T z.cps.size 0 [r0.1] k row i (q::qs) b->row.length=1000->YG H H'->YL H'->Q .non H')->YHU CW vs H Q
@[ext]def YJz(CW:ai):Sp:=λvs H Q E_=>YHU CW vs H Q
inductive YF7(vs:List V)(H:Hp)(Q:VK):Prop
 |mk (i n:Int):vs=[.int i,.int n]->Q (.bl (decide (i=n))) H->YF7 vs H Q
@[ext]def YEB:Sp:=λvs H Q E_=>YF7 vs H Q
inductive YF8(CW:Addr)(vs:List V)(H:Hp)(Q:VK):Prop
 |mk (wd lr:Addr)(k:Nat)(row:List Nat)(g:YS)(z:Str)(DS:List Nd)(F:Nd->Bool)(r0:fU)(Yu:YS):vs=[.ref wd,nV k,.ref lr]->A4 CW H wd g z DS F r0 Yu->H lr=À (.lst (row.map nV))->row.length<=1001->Js g [r0.1] row z.cps.toList->YL H->(k:Int)<fK->(∀T,Zi g z.cps.size DS T->(k:Int)<Yk (T (.part r0.1 0 z.cps.size))/\JY g T z.cps.size 0 [r0.1] k row z.cps.size [] 0)->(∀H',YG H H'->YL H'->Q (.bl Â) H')->YF8 CW vs H Q
@[ext]def YHV(CW:ai):Sp:=λvs H Q E_=>YF8 CW vs H Q
def YBa:YJ [de,cv,eA] [de,cv]<|YH YCD:=dE
def YIE(T:Txt K mg C)(jj:ZN P w K mg (fe P w) 10 "row_at" [aS,cb]<|YL8 C.Wood C.Endless C.NoRow C.TooGreat):Gd P w K mg cj 11 "_law_told" "_law_told" YCD [de,cv]<|YJz C.Wood:=by
 show eP YBa λH Q E hr h=>?_;let⟨wd,k,g,z,DS,F,r0,Yu,Z,wf,hp,hk,q1,q2⟩:=h;show⟨_,(YF (c_ 2 YBa<|Y6 Ys)
  (YF (YLC Z rfl Z (YIW<|mm (i:=2) YBa.nd rfl (Or.inl rfl)<|pxU jj hr<|YI (J 0)<|aY<|J 1)<|YLE (C:=C.TooGreat) rfl (by rfl) T.jh (λe=>(YD<|YN Z6)) YNr)
  (YD<|YN<|J 2))),?_⟩
 show⟨YK<|Ë _,λln kI=>?_⟩;let sl:=YG.upd (o:=.lst []) kI;let wl:=wf.same sl;let mJ:r0∈g:=by rw[wf.eg];show É
 show⟨_,Z,_,Z,wd,nV k,.int k,g,z,DS,r0.1,F,Z,.int _,Z,wl.wa,wl.wk,wl.nl,hp.upd Z,wl.st,wl.hh,wl.hh _ mJ,wl.good,λH' r hr=>(wf.nr r hr).elim,λU H' hT hz=>absurd (hk U hT)<|hz k rfl,λU k' row a H' hT e DT hR hrl qu ha s' p'=>?_,λU k' row i q qs b H' hT e DT hR hA hl s' p'=>?_⟩;obtain rfl:k=k':=by injection e with e;lia
 show⟨_,Z,q1 U row a H' hT hR hrl (sl.free qu) ha (sl.trans s') p'⟩;obtain rfl:k=k':=by injection e with e;lia
 show .inl ⟨T.xTT,q2 U row i q qs b H' hT hR hl (sl.trans s') p'⟩
def YGS:YJ [eA,eC] [eA,eC]<|YH ξ:=dE
def YGT(T:Txt K mg C):Gd P w K mg cj 1 "_law_whole" "_law_whole" ξ [eA,eC]<|YEB:=by
 show eP YGS λH Q E hr h=>?_;let⟨i,n,Z,q⟩:=h;let hU:=hr.units;show⟨_,(YD<|YN<|Ja (Yc (Zs K rfl) (by rfl) T.aG ô<|YI (J 0)<|aY<|Jn (v:=.ty "int") (by rfl) T.lG ĥ rfl)<|Ja (YM4<|Yc (Zs K rfl) (by rfl) T.aG ô<|YI (J 0)<|aY<|Jn (v:=.ty "bool") (by rfl) T.mR PyProof.Rows.Boot.«bool» rfl)<|Xn<|J2 (YFH K rfl hU) (J 0) (J 1)<|Yd _),?_⟩;show⟨_,Z,_,_,_,_,_,Z,.int _,Z,YLG<|.int i,_,Z,Y9 ⟨_,Z,_,_,_,_,_,Z,.int _,Z,YIe<|.int i,_,Z,_,Z,Y9 ⟨_,Z,_,Z,.int i,.int n,.int _,.int _,Z,Z,(by change 0<=64;decide),?_⟩⟩⟩;rw[show dQ (.int i) (.int n)=decide (i=n) by unfold dQ;rfl];show q
def YCe:YJ [de,cv,dL,eA] [de,cv,dL]<|YH YBZ:=dE
def YGU(T:Txt K mg C)(gQ:ZN P w K mg cj 11 "_law_told" [de,cv]<|YJz C.Wood)(bM:ZN P w K mg cj 1 "_law_whole" [eA,eC]<|YEB)(cU:ZN P w K mg (fe P w) 10 "place_of" [aS,bP]<|ſ C.Wood C.Endless):Gd P w K mg cj 12 "_law_right" "_law_right" YBZ [de,cv,dL]<|YHV C.Wood:=by
 show eP YCe λH Q E hr h=>?_;let⟨wd,lr,k,row,g,z,DS,F,r0,Yu,Z,wf,hlr,hrl,iu,hp,hkM,hk,q⟩:=h;let hU:=hr.units;show fO ?_;show⟨_,(YE ⟨(c_ 3 YCe<|eT gQ hr YO<|YI (J 0)<|aY<|J 1)⟩
  (YE ⟨(Yq (Yg C_ (fA K T.aJ<|J 2) YC<|Yd _) (YD<|YN<|J2 Dx (J 3) Z6<|Yd _) YT)⟩
  (Y8 ⟨(YN<|Ja (Yc (Zs K rfl) (by rfl) T.aG ô<|YI (J 3)<|aY<|Jn (v:=.ty "list") (by rfl) T.dY Ā rfl)<|Ja (J2 (YFH K rfl hU) (J 3) (J 2)<|Yd _)<|Xn<|eT bM hr YO<|YI (eT cU hr ll<|YI (J 0)<|aY<|Jy (Xd K rfl) (by rfl) T.dY Ā<|aY<|J 2)<|aY<|J 1)⟩))),?_⟩
 show fb λu eu=>?_;show⟨_,Z,_,Z,wd,k,g,z,DS,F,r0,Yu,Z,wf,hp,λT hT=>(hk T hT).1,λT nU a H1 hT hR yK qu ha s1 p1=>?_,λT nU i q' qs b H1 hT hR hl s1 p1=>?_⟩;obtain rfl:=xZ (hk T hT).2 hR;change u _ _ _;subst eu;show⟨_,Z,lr,_,Z,.inl<|bG.of<|s1 _ _ hlr,_,_,Z,Z,_,Z,?_⟩;rw[eI (by rw[Ä];lia)];show Y5 ?_;show⟨_,Z,_,_,_,_,_,Z,(cx.lst (.inl ha)<|Co row).ty,Z,YFL _,_,Z,Y9 ⟨_,Z,_,Z,.lst<|row.map gS,.lst<|row.map gS,.lst (.inl ha)<|Co row,.lst (.inl<|s1 _ _ hlr)<|Co row,ī _,ī _,YJx _,_,Z,?_⟩⟩;rw[ż _<|ī row];show Y9 ⟨_,Z,_,Z,lr,_,Z,.inl<|bG.of<|s1 _ _ hlr,λl2 hl2=>?_⟩;let s2:=s1.trans<|YG.upd (o:=.lst<|row.map nV) hl2;let w2:=wf.same s2;show⟨wd,l2,row,g,z,DS,F,r0,Yu,Z,YA,yK,w2.wa,w2.wk,w2.nl,p1.upd Z,w2.st,w2.hh,w2.eg,w2.good,iu,λH' r hr=>(wf.nr r hr).elim,λT' k' H3 hT' hR' hk' s3 p3=>?_⟩;let hkk:k'=k:=by
  rcases Nat.lt_trichotomy k' k with z|z|z
  show absurd (œ hR' (hk T' hT').2 rfl Z z) kz.irrefl;show z;show absurd (œ (hk T' hT').2 hR' Z rfl z) kz.irrefl
 subst hkk;show⟨_,Z,Yk k',k',Z,?_⟩;have:decide (Yk k'=(k':Int))=Â:=dA (by unfold Yk XG;rw[if_neg (by lia)]);rw[this];show q H3 (s2.trans s3) p3;have:=YOm hR (by simp) (hk T hT).2;change u _ _ _;subst eu;show⟨_,Z,lr,_,Z,.inl<|bG.of<|s1 _ _ hlr,_,_,Z,Z,_,Z,?_⟩;rw[dA (by rw[Ä];lia)];show Y9 ⟨_,Z,Z,q H1 s1 p1⟩
def YOu(h:ZG p=Â)(hq:eW p=Â):good (gN p)=Â:=by
 unfold ZG at h;rw[Ć]at h;rcases h with h|h
 unfold rq at h;rw[Ó]at h;show h.2;rw[AY]at hq;let hq:=fq hq;unfold dy at h;rw[Ó]at h;show absurd (YPc.mp h.2 39<|Ð hq) (by decide)
def Js.good{g:YS}(hg:Y4 g=Â){ws:ac am}{ks sg:ac Nat}(h:Js g ws ks sg):(∀p∈ws,ZG p=Â)->sg.all FR.good=Â:=by
 induction h with
 |nil=>intro _;rfl
 |sign hq _ ih=>
  intro hw;rw[List.all_cons,YOu (hw _<|É ..) hq,ih λp hp=>hw p<|Ç _ hp];rfl
 |name _ hk _ ih=>
  intro hw;show ih λp hp=>?_;rcases YPD.mp hp with hp|hp
  show(JN<|Jj hg hk).2 p hp;show hw p<|Ç _ hp
def YOv{g:YS}(hg:Y4 g=Â){r0:fU}{Yu:YS}(eg:g=r0::Yu){ks sg:ac Nat}(h:Js g [r0.1] ks sg)(hl:sg.length<=60):Zu ⟨sg.toArray⟩=Â:=by
 unfold Zu;rw[Ó];show⟨dA (by change sg.toArray.size<=60;rw[Ô];omega),?_⟩;show h.good hg λp hp=>by
  cases YO0.mp hp;show XT<|Ε<|Jj hg (i:=0) (by rw[eg];rfl)
def YKx(h:Zu z=Â):(D.str z).short=Â:=by
 unfold Zu at h;rw[Ó,fE]at h;unfold D.short;show dA (by change z.cps.size<=1000;lia)
noncomputable abbrev ly:Stmt:=top 73
def Jf:([ce,cm,cn]:ac am).Nodup:=by decide+kernel
def ws3:∀a,a<5->∀b,b<5->∀c,c<5->Yl [a,b,c]<=64/\g7 [a,b,c]<=85:=by decide
def ϩ:∀a,a<5->∀b,b<5->Yl [a,b]<=64/\g7 [a,b]<=85:=by decide
def ws1:∀a,a<5->Yl [a]<=64/\g7 [a]<=85:=by decide
def ws2:∀a,a<4->∀b,b<4->Yl [a,b]<=9:=by decide
def YM2{ws:ac Nat}(h:∀w∈ws,1<=w):1<=Yl ws:=by
 induction ws with
 |nil=>show Å _
 |cons w ws ih=>show Nat.mul_le_mul (h w É)<|ih λx S=>h x<|Ç _ S
structure WsF(wy:Int)(ws:List Nat):Prop where
 l1:1<=ws.length
 l6:ws.length<=6
 w4:∀w∈ws,w<=4
 p1:1<=Yl ws
 p576:Yl ws<=576
 n:g7 ws<=1001
 p9:wy=2->Yl ws<=9
def AN.facts(h:AN wy ws):WsF wy ws:=by
 rcases h with ⟨h1,rfl|rfl⟩|⟨h1,h2,h3,h4,h5⟩
 show⟨by decide,by decide,by decide,by decide,by decide,by decide,λe=>by lia⟩;show⟨by decide,by decide,by decide,by decide,by decide,by decide,λe=>by lia⟩;let hp:=YM2 λw hw=>(h4 w hw).1;let key:Yl ws<=64/\g7 ws<=85:=by
  match ws,h2,h3,h4 with
  |[a],_,_,h4=>
   show ws1 a (by have:=h4 a (by simp);lia)
  |[a,b],_,_,h4=>
   show ϩ a (by have:=h4 a (by simp);lia) b (by have:=h4 b (by simp);lia)
  |[a,b,c],_,_,h4=>
   show ws3 a (by have:=h4 a (by simp);lia) b (by have:=h4 b (by simp);lia) c (by have:=h4 c (by simp);lia)
 show⟨h2,by lia,λw hw=>(h4 w hw).2,hp,by lia,by lia,λe=>?_⟩;let⟨h6,h7⟩:=h5 e
 match ws,h6,h7 with
 |[a,b],_,h7=>show ws2 a (by have:=h7 a (by simp);lia) b (by have:=h7 b (by simp);lia)
def y8{z:am}{l:ac Nat}(h:z.cps.toList=l):z=⟨l.toArray⟩:=by
 cases z with
 |mk c=>cases c;subst h;rfl
def YKy{ys:ac V}{b:Nat}(h:∀y∈ys,∃j:Nat,y=nV j/\j<b):∃c:ac Nat,ys=c.map nV/\∀j∈c,j<b:=by
 induction ys with
 |nil=>show⟨[],Z,λj hj=>nomatch hj⟩
 |cons y ys ih=>
  let⟨j,Z,hj⟩:=h y É;let⟨c,Z,hc⟩:=ih λx S=>h x<|Ç _ S;show⟨j::c,Z,λx S=>(YO9.mp S).elim (λe=>by rw[e];show hj)<|hc x⟩
def mE(h:JY g T n i ps a x j [] 0)(h':JY g T n i ps b x k [] 0):a=b:=by
 rcases Nat.lt_trichotomy a b with z|z|z
 show absurd (œ h h' Z rfl z) kz.irrefl;show z;show absurd (œ h' h Z rfl z) kz.irrefl
@[ext]def mvs:ac Int:=[3,3,8,50,50,50,10,2]
def xV:∀x∈mvs,1<=x/\x<=50:=by decide
def Zr:YJ [cn,eR,da,cp,eh,cm,eS,"_law_signs",dr,de,"_law_power",ce,fH,cv,c8,"_law_some",dL,eC] [cn]<|YH ly:=dE
def xr(T:Txt K mg C)(gm:ZN P w K mg cj 1 "_law_names" [cf]<|YJp)(eE:ZN P w K mg cj 1 "_law_widths" [eR,cf]<|YJr)(eF:ZN P w K mg cj 1 "_law_leaves" [cp]<|YJs)(dM:ZN P w K mg cj 1 "_law_grammar" [da,cp,eS,cm,cf]<|YJv)(aZ:ZN P w K mg cj 2 "_law_mixed" [cn,ce]<|YOo K)(bM:ZN P w K mg cj 1 "_law_whole" [eA,eC]<|YEB)(gn:ZN P w K mg cj 1 "_law_row" [dr,da,cp,c8]<|YMF)(dW:ZN P w K mg cj 1 "_law_sign" [cf]<|YOq)(il:ZN P w K mg cj 10 "how_many" [aS]<|YHI C.Wood)(bj:ZN P w K mg cj 1 fF [cn,ce]<|YIC K)(gq:ZN P w K mg cj 12 "_law_right" [de,cv,dL]<|YHV C.Wood)(dN:ZN P w K mg cj 1 "_law_written" [c8,cm]<|YHP)(dO:ZN P w K mg cj 1 "_law_choices" [cv,eh,cm]<|YJt)(cU:ZN P w K mg (fe P w) 10 "place_of" [aS,bP]<|ſ C.Wood C.Endless)(dz:nz P w K mg (fe P w) 9 C.Wood [av,cE,bp]<|YOb C.Wood C.NoGrammar C.NoText):Gd P w K mg cj 13 "law" "law" ly [cn]<|Dl K:=by
 show eP Zr λH Q E hr h=>?_;let⟨a,ns,Z,hS,hn,hp,q⟩:=h;let hU:=hr.units;let hu:=Zd hr;show fO ?_;show⟨_,(YE ⟨(c_ 1 Zr<|YR Zq (eT aZ hr YO<|YI (J 0)<|aY YC) YC)⟩
  (YE ⟨(c_ 2 Zr<|eT gm hr YO<|aY<|eT aZ hr YO<|YI (J 0)<|aY YC)⟩
  (YE ⟨(c_ 3 Zr<|eT eE hr YO<|YI (J 1)<|aY<|eT aZ hr YO<|YI (J 0)<|aY YC)⟩
  (YE ⟨(c_ 4 Zr<|eT eF hr YO<|aY<|J 3)⟩
  (YE ⟨(c_ 5 Zr<|YR ZI YC<|YR Zq (eT aZ hr YO<|YI (J 0)<|aY YC)<|fN K (Y6<|Yz YC<|Yz YC<|Yz YC<|Yz YC<|Yz YC<|Yz YC<|Yz YC<|Yz YC Ys)<|J 1)⟩
  (YE ⟨(Yq (Yg C_ (J 4) YC<|Yd _) (YD<|c_ 5 Zr<|YR ZI YC<|YR Zq (J 5) YC) YT)⟩
  (YE (ia 6 Zr<|yn X6)
  (YE (ia 7 Zr AH)
  (YE ⟨(Yq (Yg iX (J 1) YC<|Yd _) (YF (c_ 6 Zr<|ZE<|aY<|YR XO ZX<|eT dW hr YO<|aY<|eT aZ hr YO<|YI (J 0)<|aY YC)
  (YD<|c_ 7 Zr<|YR YKH (eT dW hr YO<|aY<|eT aZ hr YO<|YI (J 0)<|aY YC)<|J 4)) YT)⟩
  (YE ⟨(c_ 8 Zr<|eT dM hr YO<|Yz (J 2)<|Yz (J 3)<|Yz (J 6)<|Yz (J 5)<|Yz (eT aZ hr YO<|YI (J 0)<|aY YC) Ys)⟩
  (YE ⟨(c_ 9 Zr<|AU dz hr T.rE ll<|YI (Jy (Xd K rfl) (by rfl) T.dY Ā<|aY<|J 8)<|aY<|J 7)⟩
  (YE (ia 10 Zr Z1)
  (YE ⟨(fM (JD Z T.cF<|aY<|J 4) (fm 11 Zr)<|YD<|c_ 10 Zr<|YR qo (J 10)<|J 5)⟩
  (YE ⟨(Yq (JL<|JE<|eT bM hr YO<|YI (eT il hr YO<|aY<|J 9)<|aY<|Yc (XQ rfl) (by rfl) T.jf Ĕ<|YI (J 10)<|aY<|YR oV YC YC) (YD<|YN X3) YT)⟩
  (YE ⟨(c_ 12 Zr<|Y6<|YI (YR Zq (eT bj hr YO<|YI (J 0)<|aY YC)<|Yc (XQ rfl) (by rfl) T.jf Ĕ<|YI (J 10)<|aY<|YR oV YC YC)<|YI YC<|aY<|YR CI (Yc (XQ rfl) (by rfl) T.jf Ĕ<|YI (J 10)<|aY<|YR oV YC YC) YC)⟩
  (YE ⟨(fM (ZJ K rfl<|Jh (Xe K rfl) (J 12) Xx<|J3<|YR ZI YC<|YR qo YC<|Jy YGV (by rfl) T.lG ĥ<|aY<|J2 C_ (J 1) YC<|Yd _) (fm 13 Zr)<|YD<|Yq (JL<|JE<|eT gq hr YO<|YI (J 9)<|YI (J 13)<|aY<|eT gn hr YO<|Yz (J 8)<|Yz (J 2)<|Yz (J 3)<|Yz (eT dO hr YO<|YI (J 13)<|YI (J 4)<|aY<|J 5) Ys) (YD<|YN X3) YT)⟩
  (YE ⟨(qA (N:=[ce,cm,cn]) (ρ:=[Á,À 5,À 0]) (i:=14) Zr.nd Z rfl Z (Zf.closes [cn,eR,da,cp,eh,cm,eS,"_law_signs",dr,de,"_law_power",ce,fH,cv,c8,"_law_some",dL,eC] (YH ly).names Z rfl Z rfl (by decide+kernel) (by decide+kernel) (λx h=>BY h) (by decide+kernel) Z (by decide+kernel)) (JD Z T.cF<|aY<|J 4) (λ_ _ _ _ _=>(si (i:=0) Jf Z (Or.inl Z)<|.inr rfl)) (λ_ _ _ _ _=>A0)<|λ_ _ _ _ _=>(YR Zq (eT bj hr YO<|YI (J 2)<|aY<|YR ZI YC<|YR Zq (J 0)<|Yc (YMM rfl) (by rfl) T.uC PyProof.Rows.Boot.«max»<|YI YC<|aY<|YR CI (fA K T.aJ<|J 2) YC)<|J 1))⟩
  (YE ⟨(fM (ZJ K rfl<|Jh (Xe K rfl) (Y6<|YI (J 14)<|aY<|YR YNR (Y6<|aY<|YR CI (J 5) YC)<|J 4) Xx<|J3<|YR ZI YC<|Jy YGV (by rfl) T.lG ĥ<|aY<|J2 C_ (J 1) YC<|Yd _) (fm 15 Zr) (YF (c_ 16 Zr<|eT gn hr YO<|Yz (J 8)<|Yz (J 2)<|Yz (J 3)<|Yz (J 15) Ys)
  (YF (c_ 17 Zr<|Yc (XQ rfl) (by rfl) T.jf Ĕ<|YI (eT dN hr YO<|YI (J 15)<|aY<|J 5)<|aY<|YR oV YC YC)
  (YD<|Yq (PW.pt<|Ĭ (Yg kA (fA K T.aJ<|J 16) YC<|Yd _)<|Ļ<|JL<|JE<|eT bM hr YO<|YI (eT cU hr ll<|YI (J 9)<|aY<|J 16)<|aY<|J 17) (YD<|YN X3) YT))))⟩
  (Y8 ⟨(YN X3)⟩))))))))))))))))))),?_⟩
 show fb λu eu=>?_;show⟨_,Z,a,ns,0,Z,hS,by decide,by decide,_,_,Z,Z,(by change(0:Int)<8;decide),?_⟩;let w0:0<=hZ ns 0%8:=by lia
 let w8:hZ ns 0%8<8:=by lia
 revert w0 w8;generalize hZ ns 0%8=wy;intro w0 w8;change u _ _ _;subst eu;show fb λu eu=>?_;show⟨_,Z,a,ns,1,Z,hS,by decide,by decide,_,Z,YMC _ _,Int.lt_trans (pV _ _) (by decide),hp,λnh nm H1 h7 s1 p1 yL rD=>?_⟩;change u _ _ _;subst eu;show fb λu eu=>?_;show⟨_,Z,_,Z,a,ns,2,Z,s1.seq hS,by decide,by decide,_,_,Z,w0,YMC _ _,p1,λwh ws H2 Wn s2 p2 yM pB=>?_⟩;let wf:=Wn.facts;let tY:=s1.trans s2;let hS2:=tY.seq hS;let uL:=s2 _ _ rD;clear rD yL yM s1 p1 Wn;change u _ _ _;subst eu;show fb λu eu=>?_;show⟨_,Z,wh,ws,Z,pB,wf.w4,?_⟩;change u _ _ _;subst eu;show fb λu eu=>?_;let⟨mv,Wo,Wq⟩:=Cf (xs:=mvs.map V.int) (i:=wy) w0 (by rw[Ä];change wy<(8:Nat);lia);let⟨x,S,Z⟩:=YPR.mp Wq;let⟨x1,x2⟩:=xV x S;show⟨_,Z,a,ns,3,Z,hS2,by decide,by decide,ϯ,λld pP=>?_⟩;let s3:=YG.upd (o:=.lst [V.int 3,V.int 3,V.int 8,V.int 50,V.int 50,V.int 50,V.int 10,V.int 2]) pP;show⟨_,Z,ld,_,wy,_,Z,Z,bG.of YA,Wo,_,_,Z,Z,(by change(0:Int)<x;lia),_,_,Z,Z,?_⟩;obtain⟨b0,Wr,Ws,Wt⟩:∃b:Nat,1+hZ ns 3%x=(b:Int)/\1<=b/\b<=50:=⟨(1+hZ ns 3%x).toNat,by have:=ø (hZ ns 3) (show x≠0 by lia);lia,by have:=ø (hZ ns 3) (show x≠0 by lia);lia,by have:=Ē (hZ ns 3) (show 0<x by lia);lia⟩;rw[Wr];let hS3:=s3.seq hS2;let qg:=s3 _ _ uL;let qi:=s3 _ _ pB;let p3:YL<|upd H2 ld<|.lst [V.int 3,V.int 3,V.int 8,V.int 50,V.int 50,V.int 50,V.int 10,V.int 2]:=p2.upd rfl;change u _ _ _;subst eu;revert hS3 qg qi p3;generalize upd H2 ld (.lst [V.int 3,V.int 3,V.int 8,V.int 50,V.int 50,V.int 50,V.int 10,V.int 2])=H3;intro hS3 qg qi p3;clear s3 pP hS2 uL pB p2 tY s2;show fb λu eu=>?_;show YD8 (λσ' G=>Ō λ(b:Nat)=>AM (σ'=[À<|.ref a,À<|.int wy,À<|.ref nh,À<|.ref wh,À<|nV<|Yl ws,À<|nV b,Á,Á,Á,Á,Á,Á,Á,Á,Á,Á,Á,Á]) (H3=G) (1<=b)<|b<=50) ?_ λYu=>?_
 rotate_left
 show⟨_,Z,_,_,Z,Z,_,Z,X4 (λ_=>⟨_,Z,_,_,Z,Z,(by change(0:Int)<12;decide),_,_,Z,Z,Yu _ _ ⟨1+b0%12,Z,Z,by lia,by lia⟩⟩) λ_=>Yu _ _ ⟨b0,Z,Z,Ws,Wt⟩⟩;rintro σ' _ ⟨b,rfl,rfl,b1,Wl⟩;change u _ _ _;subst eu;clear Wo Wq x1 x2 S Wr Ws Wt;show⟨YK<|Ë _,λt0 qx=>?_⟩;let s4:=YG.upd (o:=.tup []) qx;dsimp only[Y7];show AW ?_;show fb λu eu=>?_;show YD8 (λσ' G=>DB λ(lf:ai) (s:ac Nat)=>Ŋ (σ'=[À<|.ref a,À<|.int wy,À<|.ref nh,À<|.ref wh,À<|nV<|Yl ws,À<|nV b,À<|.ref lf,À<|.str ⟨(List.replicate (Yl ws) s).flatten.toArray⟩,Á,Á,Á,Á,Á,Á,Á,Á,Á,Á]) (G lf=À (.tup<|(s.map Zp).map V.str)) (s.length<=1) ((∀c∈s,good c=Â)) ((List.replicate (Yl ws) s).flatten.length<=60) (YG H3 G)<|YL G) ?_ λYu=>?_
 rotate_left
 ·show⟨_,Z,Z,_,Z,X4 (λh2=>?_) λh2=>?_⟩;let h2:wy=2:=V.int.inj<|fq h2;let hc:=YOp<|hZ ns 4;show⟨_,Z,a,ns,4,Z,s4.seq hS3,by decide,by decide,_,Z,_,_,Z,Z,YK (by change 1+1<=1000;decide),kN,λt1 gH=>?_⟩;let s5:=s4.trans<|YG.upd (o:=.tup [.str<|Zp<|vt<|hZ ns 4]) gH;let p9:=wf.p9 h2;show⟨_,Z,a,ns,4,Z,s5.seq hS3,by decide,by decide,_,Z,_,Z,_,_,Z,Z,(by change 1<=1000;decide),by lia,by lia,?_⟩;let ez:Txt.mul ⟨#[vt<|hZ ns 4]⟩ ((Yl ws:Nat):Int)=⟨(List.replicate (Yl ws) [vt<|hZ ns 4]).flatten.toArray⟩:=y8 (by rw[PyProof.Rows.mul_one_list,BG];rfl);rw[ez];show Yu _ _ ⟨t1,[vt<|hZ ns 4],Z,YA,Å _,λc yf=>by rw[YO0.mp yf];show hc.2,by rw[BG,ù];lia,s5,(p3.upd Z).upd Z⟩
  ·show Yu _ _ ⟨t0,[],?_,YA,Ë _,(λc hc=>nomatch hc),?_,s4,p3.upd Z⟩
   ·rw[show(List.replicate (Yl ws) ([]:ac Nat)).flatten=[] by induction Yl ws with|zero=>rfl|succ n ih=>rw[þ,õ,ih];rfl];rfl
   ·rw[show(List.replicate (Yl ws) ([]:ac Nat)).flatten=[] by induction Yl ws with|zero=>rfl|succ n ih=>rw[þ,õ,ih];rfl];show Ë _
 rintro σ' H5 ⟨lf,Qm,rfl,uy,hsl,zJ,uM,s5,p5⟩;let hS5:=s5.seq hS3;let su:=s5 _ _ qg;let sy:=s5 _ _ qi;change u _ _ _;subst eu;show fb λu eu=>?_;show⟨_,Z,_,Z,_,Z,_,Z,_,Z,a,ns,4,Z,hS5,by decide,by decide,nh,wh,lf,nm,ws,Qm,b,_,Z,su,h7,sy,wf.l1,wf.l6,wf.w4,uy,hsl,zJ,Wl,b1,p5,λl xs r0 rst H6 hg mJ hLR hl0 hl hds s6 p6=>?_⟩;let hS6:=s6.seq hS5;let uN:=s6 _ _ su;let uO:=s6 _ _ sy;clear hS5 su sy hS3 qg qi s5 s6 uy p5 p3;change u _ _ _;subst eu;obtain⟨g,eg⟩:∃g,r0::rst=g:=⟨_,Z⟩;rw[eg]at hg hLR hds;replace eg:=eg.symm;obtain⟨sg,esg⟩:∃sg,(List.replicate (Yl ws) Qm).flatten=sg:=⟨_,Z⟩;rw[esg]at uM ⊢;let h6:∀ru∈g,ru.2.1.length<=6:=λru gF=>fq (YPW.mp (YPW.mp (YPW.mp<|YPc.mp (YPW.mp hg).2 ru gF).2).1).1;let inj:∀j k,j<=ws.length->k<=ws.length->nm j=nm k->j=k:=λj k hj hk e=>h7.inj j k (by have:=wf.l6;lia) (by have:=wf.l6;lia) e;let hq:∀k,k<=ws.length->eW (nm k)=Ã:=λk hk=>YIn<|h7.ok k (by have:=wf.l6;lia);let⟨hLG,hRb⟩:=hLR.lvG inj hq;let hLG:ķ g nm ws Qm (YM g<|nm ws.length)<|iq g nm:=hLG;let exL:∀c:ac Nat,c.length=Yl ws->(∀j∈c,j<b)->∃row,Lv ws (YM g<|nm ws.length) (iq g nm) [0] c row/\row.length<=1001/\Js g [r0.1] row sg:=λc hc hj=>by
  let⟨row,iu⟩:=Cg (ws:=ws) (R:=YM g<|nm ws.length) (rr:=iq g nm) _ [0] c (Å _) (λk hk=>by rw[YO0.mp hk];show Ë _) (by rw[hc];change _=Yl (ws.drop 0)+0;rw[Ċ];rfl) (by rw[hRb];show hj);show⟨row,iu,?_,?_⟩;have:=YOn iu;rw[YX,JO,Ċ]at this;have:=wf.n;lia;have:=YMB hLG iu;rw[hc,esg]at this;rw[mJ];show this
 let⟨row0,_,_,qM⟩:=exL (List.replicate (Yl ws) 0) (ù ..) λj hj=>by rw[(YQA.mp hj).2];lia
 let hz:=YOv hg eg qM uM;let noG:JX (ip g)=Ã->False:=λe=>by rw[Υ,hg]at e;cases e
 let noT:uk (.str ⟨sg.toArray⟩)=Ã->False:=λe=>by have e:Zu ⟨sg.toArray⟩=Ã:=e;rw[hz]at e;cases e
 let dsh:=YKx hz;show fb λu eu=>?_;show⟨_,Z,l,_,Z,.inl<|bG.of hl,λl2 hl2=>?_⟩;let s7:=YG.upd (o:=.lst xs) hl2;let qj:upd H6 l2 (.lst xs) l2=À (.lst xs):=YA;let pA:=s7 _ _ hl;let nq:=hds.same s7;let hS7:=s7.seq hS6;let ql:=s7 _ _ uN;let qm:=s7 _ _ uO;let p7:YL<|upd H6 l2<|.lst xs:=p6.upd rfl;revert qj pA nq hS7 ql qm p7;generalize upd H6 l2 (.lst xs)=H7;intro qj pA nq hS7 ql qm p7;show⟨_,Z,λwx B Qn qU hne=>⟨H7,wx,B,.ref l2,.str ⟨sg.toArray⟩,ip g,.str ⟨sg.toArray⟩,Z,YA,Qn,(YG.upd qU).put Qn,(p7.upd Z).upd Z,.lst (.inl qj) nq,YFQ hg,.str _,dsh,λg' z' Ag hg' ez hz' hs DS H8 st bo wk wd s8 p8=>?_,λe=>(noG e).elim,λ_ e=>(noT e).elim⟩⟩;cases YGp Ag;cases ez;let st:J9 g sg hs:=st;let bo:A8 g sg hs:=bo;let wk:ZF g sg.length (dX<|hs.map (·.1)) (lS g sg.length<|hs.map (·.1)) DS:=wk;let wd:XV C.Wood H8 wx g ⟨sg.toArray⟩ DS<|lS g sg.length<|hs.map (·.1):=wd;let hsl:=YG4 st hg (by lia);let hnl:DS.length<=2900000:=Ú (ZM wk.nd λc hc=>fq<|wk.sub c hc) (by lia);rw[YOl eg hg st bo qM]at wk wd;let ux:=s8 _ _ pA;let uP:=nq.same s8;let hS8:=s8.seq hS7;let uQ:=s8 _ _ ql;let uR:=s8 _ _ qm;let hh:∀ru∈g,eW ru.1=Ã:=λru gF=>YIn (YPW.mp<|YPc.mp (YPW.mp hg).2 ru gF).1;let wF:A4 C.Wood H8 wx g ⟨sg.toArray⟩ DS (dX<|hs.map (·.1)) r0 rst:=⟨wd,wk,hnl,Ŧ hg st bo,hh,eg,YOk<|wk.tp _ rfl,λr hr=>hLR.noring (cs:=sg) inj h6 wd.lg hr⟩;clear qj pA nq hS7 ql qm Qn qU hne s8 p7 hl hds hS6 uN uO p6 hl2 s7;show⟨Z,?_⟩;change u _ _ _;subst eu;let Ah:YM g (nm ws.length)≠[]:=λz=>by rw[z]at hRb;rw[<-hRb]at b1;cases b1
 let hne:∀k,k<=ws.length->YM g (nm k)≠[]:=λk hk=>by
  by_cases e:k=ws.length;rw[e];show Ah;rw[(hLG.node k _<|Ê (show k<ws.length by lia)).2];showλz=>nomatch z
 let tZ:∀T,Zi g sg.length DS T->∀c row,c.length=Yl ws->Lv ws (YM g<|nm ws.length) (iq g nm) [0] c row->T (.part r0.1 0 sg.length)=b^Yl ws/\JY g T sg.length 0 [r0.1] (fZ b c) row sg.length [] 0/\fZ b c<b^Yl ws:=λT hT c row hc hLv=>by
  have:=Ap (cs:=sg) hg hh (Ŧ hg st bo) wk hT hLG (λk hk=>XT<|h7.ok k (by have:=wf.l6;lia)) hLv 0 (Ë _) (by rw[hc,esg];rfl) (by change Xz _ _ _ [nm 0] 0;rw[<-mJ];show wF.good);rw[hRb,hc]at this;let e0:Nc T sg.length [r0.1] 0=b^Yl ws:=by rw[mJ];show this.1
  rw[zt wk hT λe he=>(wd.lg _ he).2.2]at e0;show⟨e0,?_,this.2.2⟩;let h2:=this.2.1;rw[show([0].map nm)=[r0.1] by rw[mJ];rfl]at h2;show h2
 obtain⟨M1,eM1,m1,mb,m60⟩:∃M1:Nat,(if (10:Int)^(60:Int).toNat<((b^Yl ws:Nat):Int) then (10:Int)^(60:Int).toNat else ((b^Yl ws:Nat):Int))=(M1:Int)/\1<=M1/\M1<=b^Yl ws/\(M1:Int)<=fK:=by
  let hpos:1<=b^Yl ws:=Nat.pow_pos b1;let Ai:(10:Int)^(60:Int).toNat=((10^60:Nat):Int):=by decide
  rw[Ai];split;show⟨10^60,Z,by decide,by lia,by decide⟩;show⟨b^Yl ws,Z,hpos,Å _,by unfold fK;lia⟩
 clear hz noG noT dsh;show AW ?_;show fb λu eu=>?_;show⟨_,Z,_,Z,by have:=wf.p576;lia,by have:=wf.p576;lia,?_⟩;show XM (lo:=0) (n:=Yl ws) (λi σ G=>∃pQ:ag V,σ=[À<|.ref a,À<|.int wy,À<|.ref nh,À<|.ref wh,À<|nV<|Yl ws,À<|nV b,À<|.ref lf,À<|.str ⟨sg.toArray⟩,À<|.ref l,À<|.ref wx,À<|nV<|b^i,pQ,Á,Á,Á,Á,Á,Á]/\H8=G) ⟨Á,Z,Z⟩ ?_ ?_;rintro i σ _ hi ⟨pQ,rfl,rfl⟩;show⟨_,Z,_,Z,_,_,Z,Z,.inr ⟨by lia,by lia⟩,À<|.int<|0+(i:Int),?_,Z⟩;rw[Nat.pow_succ];rfl;rintro σ _ ⟨pQ,rfl,rfl⟩;change u _ _ _;subst eu;show fb λu eu=>?_;show⟨_,Z,wx,g,⟨sg.toArray⟩,DS,_,_,Z,wF.wa,wF.wk,wF.nl,p8,λT DZ H9 hO hT s9 p9=>?_,λH9 r hr s9 p9=>(wF.nr r hr).elim⟩;let hT:Zi g sg.length DS T:=hT;let⟨Qo,yN,_,_⟩:=exL (List.replicate (Yl ws) 0) (ù ..) λj hj=>by rw[(YQA.mp hj).2];lia
 let uT:=(tZ T hT _ Qo (ù ..) yN).1;show⟨_,Z,_,_,Z,Z,⟨by decide,by decide,by decide⟩,_,_,Z,_,_,Z,?_⟩;rw[eM1];let yf:Yk (oT T<|some<|.part r0.1 0 sg.length)=(M1:Int):=by
  change Yk (T<|.part r0.1 0 sg.length)=_;rw[uT,<-eM1];rfl
 show⟨_,Z,?_⟩;rw[show decide (Yk (oT T<|some<|.part r0.1 0 (⟨sg.toArray⟩:am).cps.size)=(M1:Int))=Â from dA yf];show Y5 ?_;change u _ _ _;subst eu;clear yf uT hT hO;obtain⟨n1,sY,vI⟩:∃n:Nat,ki ns 5%(M1:Int)=(n:Int)/\n<M1:=⟨(ki ns 5%(M1:Int)).toNat,by have:=ø (ki ns 5) (show(M1:Int)≠0 by lia);lia,by have:=ø (ki ns 5) (show(M1:Int)≠0 by lia);have:=Ē (ki ns 5) (show(0:Int)<(M1:Int) by lia);lia⟩;show fb λu eu=>?_;show⟨_,Z,a,ns,5,Z,s9.seq hS8,by decide,_,Z,_,_,Z,Z,⟨by decide,by decide,by decide⟩,_,_,Z,?_⟩;rw[eM1];show⟨_,_,Z,Z,(by change(0:Int)<(M1:Int);lia),_,Z,_,_,Z,Z,⟨by decide,by decide,by decide⟩,_,_,Z,?_⟩;rw[eM1];show⟨_,_,Z,Z,iO,λln kI=>?_⟩;rw[sY,show(M1:Int)-1=((M1-1:Nat):Int) by lia];let uc:=s9.trans<|YG.upd (o:=.lst [nV n1,V.int 0,nV<|M1-1]) kI;let lL:upd H9 ln (.lst [nV n1,V.int 0,nV<|M1-1]) ln=À (.lst<|[n1,0,M1-1].map nV):=YA;let yg:YL<|upd H9 ln<|.lst [nV n1,V.int 0,nV<|M1-1]:=p9.upd rfl;change u _ _ (upd H9 ln<|.lst [nV n1,V.int 0,nV<|M1-1]);revert uc lL yg;generalize upd H9 ln (.lst [nV n1,V.int 0,nV<|M1-1])=H10;intro uc lL yg;subst eu;show fb λu eu=>?_;let ecut:∃k,XS ([n1,0,M1-1].map nV) Á (À<|1+2*(if decide (1<wy)=Â then 1 else 0))=(([n1,0,M1-1]:ac Nat).take k).map nV:=by
  by_cases hw:1<wy;rw[dA hw];show⟨3,Z⟩;rw[eI hw];show⟨1,Z⟩
 let⟨kk,ecut⟩:=ecut;show⟨_,Z,_,Z,_,_,Z,Z,.inr ⟨_,Z,_,_,Z,Z,.inl ⟨by decide,by decide⟩,_,_,Z,Z,_,Z,ln,_,Z,bG.of lL,λlc Wu=>?_⟩⟩;rw[ecut];let hnm:∀n∈([n1,0,M1-1]:ac Nat).take kk,n<M1:=λn hn=>by
  let hn:=ę hn;rcases YO9.mp hn with rfl|hn
  show vI;rcases YO9.mp hn with rfl|hn
  lia;rw[YO0.mp hn];lia
 revert hnm;generalize ([n1,0,M1-1]:ac Nat).take kk=nums;intro hnm;let yh:=uc.trans<|YG.upd (o:=.lst<|nums.map nV) Wu;show⟨lc,Z,⟨_,bG.of YA⟩,ZL (K:=K) (a:=lc) (xs:=nums.map nV) (λj σ G=>Ō λ(yj:ag V)=>AM (σ=[À<|.ref a,À<|.int wy,À<|.ref nh,À<|.ref wh,À<|nV<|Yl ws,À<|nV b,À<|.ref lf,À<|.str ⟨sg.toArray⟩,À<|.ref l,À<|.ref wx,À<|nV<|b^Yl ws,pQ,À<|.ref ln,yj,Á,Á,Á,Á]) (G lc=À (.lst<|nums.map nV)) (YG H8 G)<|YL G) ⟨Á,Z,YA,yh,yg.upd Z⟩ (by rintro j σ G _ ⟨_,_,e,_⟩;show bG.of e) ?_ ?_⟩;rintro j v σ G hj ⟨yj,rfl,hG,sG,pG⟩;let hjl:j<nums.length:=by have:=(YOx.mp hj).1;rw[Ä]at this;show this
 obtain rfl:nV nums[j]=v:=by rw[Ï,Ê hjl]at hj;show Û hj
 let Qp:=hnm _<|Ą hjl;revert Qp hj;generalize nums[j]=n;intro _ Qp;show⟨_,Z,_,Z,_,Z,_,Z,_,Z,_,Z,_,Z,_,Z,n,Yl ws,b,Z,b1,by lia,wf.p576,á Qp mb,pG,λca c G1 hcl hcb hcw t1 p1 WK hca=>?_⟩;let⟨row,hLv,hrl,iu⟩:=exL c hcl hcb;let sG1:=sG.trans t1;show⟨l,nh,wh,ca,xs,g,nm,ws,c,row,Z,sG1 _ _ ux,uP.same sG1,hg,sG1 _ _ uQ,sG1 _ _ uR,wf.l6,wf.w4,hne,hca,hLv,hrl,p1,λlr G2 yO hlr t2 p2=>?_⟩;let sG2:=sG1.trans t2;show⟨wx,lr,n,row,g,⟨sg.toArray⟩,DS,_,r0,rst,Z,wF.same sG2,hlr,hrl,iu,p2,by lia,λT hT=>?_,λG3 t3 p3=>⟨_,Z,Y5 ?_⟩⟩;let⟨z1,z2,z3⟩:=tZ T hT c row hcl hLv;rw[hcw]at z2;show⟨?_,z2⟩;let e:Yk (T<|.part r0.1 0 sg.length)=(M1:Int):=by rw[z1,<-eM1];rfl
 change(n:Int)<Yk (T<|.part r0.1 0 sg.length);rw[e];lia;show⟨_,Z,(t1.trans<|t2.trans t3) _ _ hG,sG2.trans t3,p3⟩;rintro σ G ⟨yj,rfl,hG,sG,pG⟩;change u _ _ _;subst eu;clear hG Wu lL uc yh yg ecut hnm;show fb λu eu=>?_;let hS9:=sG.seq hS8;show⟨_,Z,_,Z,by have:=wf.p576;lia,by have:=wf.p576;lia,λlch yP=>?_⟩;show į (n:=Yl ws) 0 (λk y _=>∃j:Nat,y=nV j/\j<b) Ψ (λ_ _ _ _ _ h=>h) pG yP (by change 0<3;decide) (YK (by have:=wf.p576;lia)) (λτ'=>∃v,τ'=[v,À<|nV b,À<|.ref a]) ⟨_,Z⟩ ?_ ?_ ?_;rintro τ' v ⟨w,rfl⟩;show⟨v,Z⟩;rintro τ' k x H' R ⟨w,rfl⟩ hτ DV hk hs hp' rG hR;let ew:w=À x:=by simpa using hτ
 subst ew DV;let hmx:(0:Int)<(if (((ns.map V.int).length:Int)-6)>1 then (((ns.map V.int).length:Int)-6) else 1):=by split <;> lia
 show⟨_,Z,_,Z,_,Z,a,_,Z,.inl<|hs.seq hS9,_,_,Z,Z,_,_,Z,_,_,Z,Z,hmx,_,_,Z,Z,a,ns,_,Z,hs.seq hS9,?_,_,Z,_,_,Z,Z,(by change(0:Int)<(b:Int);lia),hR _ _ (YG.refl _) hp' ?_⟩;have:=ø (0+(k:Int)) (show(if (((ns.map V.int).length:Int)-6)>1 then (((ns.map V.int).length:Int)-6) else 1)≠0 by lia);lia;generalize ki ns _=z;let h1:=ø z (show(b:Int)≠0 by lia);let h2:=Ē z (show(0:Int)<(b:Int) by lia);show⟨(z%(b:Int)).toNat,by change V.int _=V.int _;rw[Int.toNat_of_nonneg h1],by lia⟩;intro ys H11 hy hP yh Aj yQ;let⟨c2,Z,hc2⟩:=YKy (b:=b) λy hy'=>by
  let⟨i,hi⟩:=ě hy';show hP i y hi
 rw[Ä]at hy;change u _ _ _;subst eu;show fb λu eu=>?_;show⟨_,Z,_,Z,_,_,Z,Z,kN,λl1 hl1=>?_⟩;show⟨_,Z,l1,_,_,Z,Z,YA,by have:=wf.p576;lia,by have:=wf.p576;lia,YK (by change 1*_<=1000;have:=wf.p576;lia),λlm Ak=>?_⟩;let elm:(List.replicate (((Yl ws:Nat):Int)).toNat [V.int<|(b:Int)-1]).flatten=(List.replicate (Yl ws)<|b-1).map nV:=by
  rw[BG,ï,ğ,show(b:Int)-1=((b-1:Nat):Int) by lia];rfl
 let tY:=(YG.upd (o:=.lst [V.int<|(b:Int)-1]) hl1).trans<|YG.upd (o:=.lst (List.replicate (((Yl ws:Nat):Int)).toNat [V.int<|(b:Int)-1]).flatten) Ak;let nA:upd (upd H11 l1<|.lst [V.int<|(b:Int)-1]) lm (.lst (List.replicate (((Yl ws:Nat):Int)).toNat [V.int<|(b:Int)-1]).flatten) lm=À (.lst<|(List.replicate (Yl ws)<|b-1).map nV):=by rw[YA,elm]
 let nC:=tY _ _ yQ;let Qq:YL<|upd (upd H11 l1<|.lst [V.int<|(b:Int)-1]) lm<|.lst (List.replicate (((Yl ws:Nat):Int)).toNat [V.int<|(b:Int)-1]).flatten:=(Aj.upd rfl).upd rfl;revert tY nA nC Qq;generalize upd (upd H11 l1<|.lst [V.int<|(b:Int)-1]) lm (.lst (List.replicate (((Yl ws:Nat):Int)).toNat [V.int<|(b:Int)-1]).flatten)=H12;intro tY nA nC Qq;show⟨kC,λl3 hl3=>?_⟩;show⟨_,Z,_,_,Z,Z,.inr ⟨_,Z,_,_,Z,Z,_,Z,l3,_,Z,bG.of YA,λl4 rn=>?_⟩⟩;let ecut:∃k,XS [V.ref lch,V.ref lm] Á (À<|1+(if decide (1<wy)=Â then 1 else 0))=(([lch,lm]:ac ai).take k).map V.ref:=by
  by_cases hw:1<wy;rw[dA hw];show⟨2,Z⟩;rw[eI hw];show⟨1,Z⟩
 let⟨kk,ecut⟩:=ecut;rw[ecut];let Qs:∀o∈([lch,lm]:ac ai).take kk,∃c:ac Nat,H12 o=À (.lst<|c.map nV)/\c.length=Yl ws/\∀j∈c,j<b:=λo ho=>by
  let ho:=ę ho;rcases YO9.mp ho with rfl|ho
  show⟨c2,nC,hy,hc2⟩;rw[YO0.mp ho];show⟨_,nA,ù ..,λj hj=>by rw[(YQA.mp hj).2];lia⟩
 let Qt:=(YG.upd (o:=.lst [V.ref lch,V.ref lm]) hl3).trans<|YG.upd (o:=.lst<|(([lch,lm]:ac ai).take kk).map V.ref) rn;revert Qs Qt;generalize ([lch,lm]:ac ai).take kk=os;intro Qs Qt;let sGH:=(sG.trans yh).trans tY;show⟨l4,Z,⟨_,bG.of YA⟩,ZL (K:=K) (a:=l4) (xs:=os.map V.ref) (λj σ G'=>g9 λ(Qu Qv Qw:ag V)=>AM (σ=[À<|.ref a,À<|.int wy,À<|.ref nh,À<|.ref wh,À<|nV<|Yl ws,À<|nV b,À<|.ref lf,À<|.str ⟨sg.toArray⟩,À<|.ref l,À<|.ref wx,À<|nV<|b^Yl ws,pQ,À<|.ref ln,yj,À<|.ref lch,Qu,Qv,Qw]) (G' l4=À (.lst<|os.map V.ref)) (YG H12 G')<|YL G') ⟨Á,Á,Á,Z,YA,Qt,(Qq.upd Z).upd Z⟩ (by rintro j σ G' _ ⟨_,_,_,_,e,_⟩;show bG.of e) ?_ ?_⟩;rintro j v σ G' hj ⟨Qu,Qv,Qw,rfl,hG',sG',pG'⟩;let hjl:j<os.length:=by have:=(YOx.mp hj).1;rw[Ä]at this;show this
 obtain rfl:V.ref os[j]=v:=by rw[Ï,Ê hjl]at hj;show Û hj
 let⟨c,yl,hcl,hcb⟩:=Qs _<|Ą hjl;revert yl hj;generalize os[j]=o;intro _ yl;let⟨row,hLv,hrl,iu⟩:=exL c hcl hcb;let pC:=sGH.trans sG';show fb λu2 vZ=>?_;show⟨_,Z,_,Z,_,Z,_,Z,l,nh,wh,o,xs,g,nm,ws,c,row,Z,pC _ _ ux,uP.same pC,hg,pC _ _ uQ,pC _ _ uR,wf.l6,wf.w4,hne,sG' _ _ yl,hLv,hrl,pG',λlr G2 yO hlr t2 p2=>?_⟩;change u2 _ _ _;subst vZ;show fb λu2 vZ=>?_;show⟨_,Z,_,Z,o,c,b,Z,t2 _ _<|sG' _ _ yl,by lia,λx S=>by have:=hcb x S;lia,_,_,Z,Z,⟨by decide,by decide,by decide⟩,_,_,Z,?_⟩;change u2 _ _ _;subst vZ;let Al:=pC.trans t2;show⟨_,Z,lr,_,Z,.inl<|bG.of hlr,_,_,Z,Z,_,Z,X4 (λlM=>?_) λlM=>?_⟩;let lM:row.length<=1000:=by have:=fq lM;rw[Ä]at this;lia
 let w2:=wF.same Al;show⟨_,Z,_,Z,wx,lr,row,g,⟨sg.toArray⟩,DS,_,r0,rst,Z,hlr,lM,w2.wa,w2.wk,w2.nl,p2,w2.st,w2.hh,w2.eg,w2.good,iu,λH' r hr=>(wF.nr r hr).elim,λT' k' G3 hT' hR' hk' t3 p3=>?_⟩;let hT':Zi g sg.length DS T':=hT';let hkk:=mE hR' (tZ T' hT' c row hcl hLv).2.1;show⟨_,Z,_,_,Z,_,Z,?_⟩;rw[show decide (Yk k'=(if (10:Int)^(60:Int).toNat<((fZ b c:Nat):Int) then (10:Int)^(60:Int).toNat else ((fZ b c:Nat):Int)))=Â from dA (by rw[hkk];rfl)];show Y5 ⟨_,_,_,Z,t3 _ _<|t2 _ _ hG',(sG'.trans t2).trans t3,p3⟩;show Y5 ⟨_,_,_,Z,t2 _ _ hG',sG'.trans t2,p2⟩;rintro σ G' ⟨Qu,Qv,Qw,rfl,hG',sG',pG'⟩;change u _ _ _;subst eu;show q _
def all_mk{l:W.OpenLaw}{w:World}{K:W.Frag}{h:Heap}{mg:Str->Option Value}{fa bF bT bN dR gR jL aV jk aL eO dU f0 f1 f2 f3 f4 f5 f6 f7 f8 f9 Am Ao Aq Ar Av Aw Ax Ay Az A_ Va Vb Vc Vd Ve Vf Vg Vh Vi Vj Vk Vl Vm Vn Vo Vp Vq Vr Vs Vt Vu Vv Vw Vx Vy Vz VB VD VF VG VH VJ VL VM VN VP VR V0 V1 V2 V3 V4 V5 V6 V7 V8 V9 V_ Ba Bb Bc Bd Be Bf Bg Bh Qx:Addr}(X:K.In h)(G:h.Ns mainGlobals mg)(zZ:mg "law"=À (.ref fa))
  {od an:Option Addr}{sl:Array (Option Value)}{oc kV dc pm cd ct:Value}{g1 g2 g3 g4 g5 g6 g7 g8:Tok}
  (bC:L2.Dn K "Wood" bF)
  (bE:L2.Dn K "Walk" bT)
  (bG:L2.Dn K "Rests" bN)
  (bH:L2.Dn K "Many" dR)
  (bL:L2.Dn K "NoGrammar" gR)
  (bO:L2.Dn K "NoRow" jL)
  (bP:L2.Dn K "Reading" aV)
  (bS:L2.Dn K "NoText" jk)
  (bU:L2.Dn K "Growth" aL)
  (bV:L2.Dn K "Endless" eO)
  (bW:L2.Dn K "TooGreat" dU)
  (bX:DL K "is_whole" ť f0)
  (bY:DL K "stands_in_texts" XA f1)
  (b0:DL K "is_sign" Ś f2)
  (b1:DL K "is_name" Ρ f3)
  (b2:DL K "is_part" YDs f4)
  (b3:DL K "is_worth" Φ f5)
  (b4:DL K "are_parts" ϑ f6)
  (b5:DL K "is_rule" YDt f7)
  (b6:DL K "is_grammar" ś f8)
  (b7:DL K "checked" Γ f9)
  (Bj:AL K aV "__init__" "Reading.__init__" Jt Am)
  (Bk:AL K aV "next_number" "Reading.next_number" JG Ao)
  (b8:AL K aV "take_rule" "Reading.take_rule" Jb Aq)
  (b9:AL K aV "take_all" "Reading.take_all" Ju Ar)
  (cD:DL K "read_row" YCu Av)
  (cE:DL K "text_of" YDw Aw)
  (Bl:AL K aL "__init__" "Growth.__init__" XB Ax)
  (Bm:AL K aL "stand" "Growth.stand" Θ Ay)
  (Bo:AL K aL "stand_higher" "Growth.stand_higher" JH Az)
  (Bp:AL K aL "meet_part" "Growth.meet_part" Jv A_)
  (Bq:AL K aL "meet_beginning" "Growth.meet_beginning" Z3 Va)
  (Br:AL K aL "meet" "Growth.meet" Ζ Vb)
  (Bs:AL K aL "grow" "Growth.grow" Ϣ Vc)
  (cF:DL K "is_text" Š Vd)
  (Bt:DL K "checked_text" YAI Ve)
  (Bu:DL K "standing" Ϭ Vf)
  (Bv:DL K "numbers_by_head" XC Vg)
  (Bw:DL K "ends_of_beginnings" JP Vh)
  (Bx:AL K bF "ways_of_name" "Wood.ways_of_name" Je Vi)
  (By:AL K bF "ways_of_beginning" "Wood.ways_of_beginning" Zy Vj)
  (BJ:AL K bF "ways" "Wood.ways" YB4 Vk)
  (BK:AL K bF "find_root" "Wood.find_root" XX Vl)
  (BL:AL K bF "walk_down" "Wood.walk_down" XY Vm)
  (BP:AL K bF "told_grammar" "Wood.told_grammar" Jd Vn)
  (cG:AL K bF "told_text" "Wood.told_text" XZ Vo)
  (BR:AL K bF "top" "Wood.top" ž Vp)
  (BV:AL K bF "nodes" "Wood.nodes" ϋ Vq)
  (BW:AL K bF "__init__" "Wood.__init__" Xp Vr)
  (BX:DL K "nodes_beneath" Xq Vs)
  (BZ:AL K bT "go_down" "Walk.go_down" Ÿ Vt)
  (B_:AL K bT "go_up" "Walk.go_up" YBQ Vu)
  (cH:AL K bT "meet" "Walk.meet" ϻ Vv)
  (cI:AL K bT "step" "Walk.step" ϒ Vw)
  (cJ:AL K bT "__init__" "Walk.__init__" Xr Vx)
  (cK:DL K "walked_to_ring" Xb Vy)
  (cN:AL K dR "nothing" "Many.nothing" Ź Vz)
  (cO:AL K dR "blank" "Many.blank" YBS VB)
  (cS:AL K dR "of_rule" "Many.of_rule" Ž VD)
  (cV:AL K dR "either" "Many.either" Ű VF)
  (cW:AL K dR "both" "Many.both" YCA VG)
  (cX:DL K "value_of_way" Ų VH)
  (cY:DL K "value_of_ways" Xs VJ)
  (cZ:DL K "value_of_node" Xt VL)
  (c0:DL K "values_of_nodes" XD VM)
  (c1:DL K "total" π VN)
  (c2:DL K "how_many" Τ VP)
  (c3:AL K bN "__init__" "Rests.__init__" Xc VR)
  (c4:AL K bN "first_link" "Rests.first_link" Jw V0)
  (c5:AL K bN "rest_with" "Rests.rest_with" XE V1)
  (c6:AL K bN "choices" "Rests.choices" Xu V2)
  (c8:AL K bN "behind_choice" "Rests.behind_choice" JI V3)
  (c9:DL K "row_at" ϴ V4)
  (c_:DL K "place_of" ŝ V5)
  (dA:DL K "_law_cell_at" ŷ V6)
  (dB:DL K "_law_mixed" ϝ V7)
  (dD:DL K "_law_names" X0 V8)
  (dE:DL K "_law_sign" JQ V9)
  (dF:DL K "_law_widths" YAu V_)
  (dG:DL K "_law_leaves" YAv Ba)
  (dH:DL K "_law_written" Ν Bb)
  (dK:DL K "_law_choices" YAR Bc)
  (dL:DL K "_law_grammar" YAT Bd)
  (dP:DL K "_law_row" ł Be)
  (dQ:DL K "_law_told" YCD Bf)
  (dS:DL K "_law_whole" ξ Bg)
  (dT:DL K "_law_right" YBZ Bh)
  (dV:W.nsIn K mainGlobals "law"=À (À (.ref Qx)))
  (dX:K.lookup Qx=À ⟨oc,od,.func (W.fnOf "law" "law" (JU ly) (Zm ly) (YH ly) .none kV dc pm an cd ct),sl⟩)
  (dY:W.codeIn K cd "law"=Â)
  (eA:W.keepIn K (.ref Qx)=Â)
  (eB:W.nsIn K mainGlobals "FIRST_CODE"=À (À (.int 32 g1)))
  (eC:W.nsIn K mainGlobals "LAST_CODE"=À (À (.int 126 g2)))
  (eD:W.nsIn K mainGlobals "PERCENT_CODE"=À (À (.int 37 g3)))
  (eG:W.nsIn K mainGlobals "MOST_LETTERS"=À (À (.int 8 g4)))
  (eH:W.nsIn K mainGlobals "MOST_PARTS"=À (À (.int 6 g5)))
  (eI:W.nsIn K mainGlobals "MOST_RULES"=À (À (.int 60 g6)))
  (eJ:W.nsIn K mainGlobals "MOST_SIGNS"=À (À (.int 60 g7)))
  (eK:W.nsIn K mainGlobals "MOST_NUMBERS"=À (À (.int 1000 g8)))
  (eL:Zn K "isinstance")
  (eM:Zn K "int")
  (eN:Zn K "bool")
  (eP:Zn K "ord")
  (eQ:Zn K "str")
  (eR:Zn K "len")
  (eS:Zn K "all")
  (eT:Zn K "tuple")
  (eU:Zn K "list")
  (eV:Zn K "reversed")
  (eW:Zn K "enumerate")
  (eX:Zn K "range")
  (eY:Zn K "sorted")
  (eZ:Zn K "min")
  (e0:Zn K "divmod")
  (e1:Zn K "max")
  (e2:W.excIn K gR [.type "ValueError",.type "Exception",.type "BaseException",.type "object"] "ValueError.__new__"=Â)
  (e3:W.excIn K jL [.type "ValueError",.type "Exception",.type "BaseException",.type "object"] "ValueError.__new__"=Â)
  (e4:W.excIn K jk [.type "ValueError",.type "Exception",.type "BaseException",.type "object"] "ValueError.__new__"=Â)
  (e5:W.excIn K eO [.type "ValueError",.type "Exception",.type "BaseException",.type "object"] "ValueError.__new__"=Â)
  (e6:W.excIn K dU [.type "ValueError",.type "Exception",.type "BaseException",.type "object"] "ValueError.__new__"=Â)
  (e7:CL K aV)
  (e8:CL K aL)
  (e9:CL K bF)
  (e_:CL K bT)
  (fA:CL K dR)
  (fB:CL K bN)
  (fC:On K aV "rules")
  (fD:On K aV "row")
  (fE:On K aV "signs")
  (fF:On K aV "begins")
  (fG:On K aV "stops")
  (fH:On K aL "rules")
  (fI:On K aL "heights")
  (fJ:On K aL "height")
  (fK:On K aL "fresh")
  (fM:On K aL "higher")
  (fN:On K aL "begun")
  (fO:On K aL "ends")
  (fP:On K bF "numbers")
  (fQ:On K bF "rules")
  (fR:On K bF "found")
  (fS:On K bF "ends")
  (fT:On K bF "text")
  (fU:On K bF "root")
  (fV:On K bT "on_path")
  (fW:On K bT "path")
  (fX:On K bT "unseen")
  (fY:On K bT "wood")
  (fZ:On K bT "left")
  (gA:On K bT "leading")
  (gB:On K bT "met")
  (gC:On K bN "rules")
  (gD:On K bN "tally")
  (gE:On K bN "known")
  (gF:On K bN "numbers")
  (gG:On K bN "begins")
  (gH:W.makesIn K aV=Â)
  (gI:W.keepIn K (.ref aV)=Â)
  (gJ:W.makesIn K aL=Â)
  (gK:W.keepIn K (.ref aL)=Â)
  (gL:W.makesIn K bT=Â)
  (gN:W.keepIn K (.ref bT)=Â)
  (gS:W.makesIn K dR=Â)
  (gT:W.findIn K (.ref dR) "__init__"=À (À (.builtin "object.__init__")))
  (gU:W.keepIn K (.ref dR)=Â)
  (gV:W.makesIn K bN=Â)
  (gW:W.keepIn K (.ref bN)=Â)
  (gX:W.makesIn K bF=Â)
  (gY:W.keepIn K (.ref bF)=Â)
  (gZ:W.exmOne K (.ref eO) (.ref eO)=À Â)
  (g0:W.exmOne K (.ref dU) (.ref dU)=À Â):
  ∃fd:FuncData,(∀(s:Shared) (v:Value),BindsTo s fd ⟨[v],[]⟩ [("_law_script",v)])/\∀base:Heap,K.In base->base.Ns mainGlobals mg->f_ l.prog w K mg base cj 13 fa fd ["_law_script"] (Dl K):=by
 let e:=zZ.symm.trans (W.mg_of X G dV);cases e;let m:=λ{x:Str}{v:Value} (h:W.nsIn K mainGlobals x=À (À v))=>W.mg_of X G h;let Y:HE l.prog w K h mg:=⟨X,G⟩;let n:=λ{x:Str}{f:Addr} (h:L2.Dn K x f)=>(W.mg_of X G h:mg x=À (.ref f));let z:=λ{x:Str} (h:Zn K x)=>W.mg_none_of X G h;let T:Txt K mg ⟨bF,bT,bN,dR,gR,jL,aV,jk,aL,eO,dU,0⟩:=⟨z eL,z eM,z eN,z eP,z eQ,z eR,z eS,z eT,z eU,z eV,z eW,z eX,z eY,z eZ,z e0,z e1,⟨_,m eB⟩,⟨_,m eC⟩,⟨_,m eD⟩,⟨_,m eG⟩,⟨_,m eH⟩,⟨_,m eI⟩,⟨_,m eJ⟩,⟨_,m eK⟩,n bC,n bE,n bG,n bH,n bL,n bO,n bP,n bS,n bU,n bV,n bW,e2,e3,e4,e5,e6,e7.of,e8.of,e9.of,e_.of,fA.of,fB.of,fC,fD,fE,fF,fG,fH,fI,fJ,fK,fM,fN,fO,fP,fQ,fR,fS,fT,fU,fV,fW,fX,fY,fZ,gA,gB,gC,gD,gE,gF,gG,⟨gS,gT,gU⟩,gZ,g0⟩;let F76:=YNX (st:=ly) dX dY eA;let aW:=ft Y bX (YJD T);let aR:=ft Y bY (YCt T);let iK:=ft Y b0 (YKd T aR);let dC:=ft Y b1 (YKf T);let iM:=ft Y b2 (YKh T iK dC);let ie:=ft Y b3 (YJF T aW);let gM:=ft Y b4 (YHw T iM);let iQ:=ft Y b5 (YKj T dC gM ie);let gj:=ft Y b6 (YGK T iQ);let bZ:=ft Y b7 (YKl T gj);let cA:=DI Y gH gI Bj (YCT T);let bQ:=fL Y Bk (YBM T aW);let cu:=fL Y b8 (YB3 T bQ);let cB:=fL Y b9 (YCU T aW cu);let ig:=ft Y cD (YJI T cA cB);let iU:=ft Y cE (YKp T ig bZ);let cL:=DI Y gJ gK Bl (YCx T);let aF:=fL Y Bm (YEZ T);let bR:=fL Y Bo (YBO T);let cC:=fL Y Bp (YCV T aF);let bI:=fL Y Bq (YAs T aF);let dZ:=fL Y Br (YFk T cC bI bR);let d_:=fL Y Bs (YFm T dZ);let iR:=ft Y cF (YKn T aR);let bJ:=ft Y Bt (YEX T iR);let ik:=ft Y Bu (YJM T bZ bJ cL aF d_);let aU:=ft Y Bv (YCz T);let bA:=ft Y Bw (YBg T);let cz:=fL Y Bx (YB5 T);let bD:=fL Y By (YAX T);let bz:=fL Y BJ (YHz T bD cz);let cP:=fL Y BK (YDQ T);let cQ:=fL Y BL (YDR T bz);let az:=fL Y BP (YB7 T);let cT:=fL Y cG (YDP T);let aH:=fL Y BR (YJU T);let qp:=fL Y BV (YGM T);let dz:=DI Y gX gY BW (YDy T ik bZ bJ aU bA cP cQ);let c7:=ft Y BX (YD0 T bz);let bK:=fL Y BZ (YEb T c7);let gk:=fL Y B_ (YGN T);let gO:=fL Y cH (YH1 T);let gP:=fL Y cI (YH2 T bK gO gk);let dh:=DI Y gL gN cJ (YD3 T aH bK);let cR:=ft Y cK (YDT T dh gP);let aA:=fL Y cN (YEd T);let b_:=fL Y cO (YGP T);let dJ:=fL Y cS (YEf T);let aQ:=fL Y cV (YFs T);let bB:=fL Y cW (YH4 T);let dI:=ft Y cX (YEh T bB);let dq:=ft Y cY (YD4 T dI aA aQ);let du:=ft Y cZ (YD5 T dq bz dJ b_);let aB:=ft Y c0 (YC1 T cR du az);let jJ:=ft Y c1 (YOj T aB aH aA);let il:=ft Y c2 (YJe T jJ);let bf:=DI Y gV gW c3 (YDV T aU az);let aN:=fL Y c4 (YCX T b_);let cM:=fL Y c5 (YC2 T aA aQ bB);let bw:=fL Y c6 (YD7 T aA aQ bB);let aC:=fL Y c8 (YBU T cM);let jj:=ft Y c9 (YMv T aB aW aH bf aN bw aC);let cU:=ft Y c_ (YJl T aB iU az cT bf aN aH bw aC);let bj:=ft Y dA (YEj T);let aZ:=ft Y dB (YGQ T bj);let gm:=ft Y dD (YGR T);let dW:=ft Y dE (YID T);let eE:=ft Y dF (YF6 T);let eF:=ft Y dG (YF4 T);let dN:=ft Y dH (YEk T);let dO:=ft Y dK (YEl T);let dM:=ft Y dL (YEm T);let gn:=ft Y dP (YJy T);let gQ:=ft Y dQ (YIE T jj);let bM:=ft Y dS (YGT T);let gq:=ft Y dT (YGU T gQ bM cU);show⟨W.fnOf "law" "law" (JU ly) (Zm ly) (YH ly) .none kV dc pm an cd ct,λs v=>.of_eq Z,λbase _ _=>xr T gm eE eF dM aZ bM gn dW il bj gq dN dO cU dz F76⟩
def walk{l:W.OpenLaw}{q:Program}{loose:List Str}{XP:(Str->Option Value)->Heap->Prop}{YP:World->Heap->Prop}{d:DefRec}{K:Params->W.Frag}(hn:l.most=À 63)(hdf:d.params.defaults=[])
  (hY:∀(w:World) (h:Heap),YP w h->(K w.params).In h)
  (F:∀(w:World) (mg:Str->Option Value) (fa:Addr) (h:Heap),(K w.params).In h->h.Ns mainGlobals mg->mg d.name=À (.ref fa)->
   ∃fd:FuncData,(∀(s:Shared) (u:Value),BindsTo s fd ⟨[u],[]⟩ [("_law_script",u)])/\∀base:Heap,(K w.params).In base->base.Ns mainGlobals mg->f_ l.prog w (K w.params) mg base cj 13 fa fd ["_law_script"] (Dl (K w.params))):
  W.WalkO q loose XP YP l.row.toRowW d [] (λf vs=>PySem.call f vs):=
 L2.walk_of (n:=63) (k:=13) (x:="_law_script") (CX:=λ_=>cj) (sp:=λw=>Dl (K w.params)) hn (by decide) hdf ⟨Z,by decide,by decide⟩ hY F (λ_ _ a ns hl hO hS=>YMf hl hO hS) λ_ _ _ _ _ z=>z
end FR
end
open PySem PySem.W PyProof.Rows
structure PySem.W.Fast:Prop where(tw4158823102320073898 tw11001338166512738699 tw15812693503042822575 tw6402931224347005189 tw6236134061303519431 tw9873092535708348045 tw11265723862289669660 tw17599643691275290744 tw11981334418862173104 tw3129036731191004458 tw1303832940655303061 tw7447803768318274840 tw8229768552929542771 tw15191016052126619408 tw3996923121921044636 tw17531801955077655793 tw8363308013491476449 tw14164768725207779905 tw4574646454508847641 tw10488902213710019772 tw9301917002853826551 tw15113409635881243759 tw12161665029320066705 tw13667201177611791787 tw16752473649658278273 tw9779269583899696492 tw9756316421894454428 tw8945620671569798998 tw15418269312041328699 tw2010220954132665393 tw15107401894747289163 tw5154307093673464269 tw758791807254411596 tw8207949561506817617 tw18300672932008946792 tw11642913659227397367 tw15106207105276555186 tw15479137107479380602 tw3790910923324428088 tw11503769179062985611 tw2657139490029014314 tw595458395633727879 tw5492863876099797141 tw10351758626074226192 tw3281525531194834309 tw8291419614638963167 tw5878629089413618501 tw7864588921371651785 tw8829125540338494074 tw14056456297888451052 tw12546545489085425836 tw9496762595777133036 tw10399182650709991219 tw12673022768632423734 tw5207481460035272148 tw11445699080227712904 tw11418762055532300953 tw11890726916370268387 tw5160179890507414946 tw15910002849350550642 tw13863426073648895803 tw15911960492934978475 tw5271162541154789177 tw16878194713895359377 tw17511707021719098534 tw7733027268284761768 tw241685363866172188 tw1979893378181731650 tw3238070085290909205 tw16880997488451223755 tw7321053419548173267 tw17191696998970182112 tw9760368747511769057 tw10234713524331766458 tw14856108357302329436 tw2920488793866758115 tw4332195011524461338 tw9807267140379552542 tw1713991000878720505 tw17006576442217956048 tw5617366693044488030 tw14187421243973371171 tw8733606618278386065 tw10647260384148605479 tw549380024058290422 tw11097987703760501212 tw1477529027776716209 tw6330403326581144637 tw3545339414531715502 tw14401682447566927147 tw3451311352938537703 tw5645289174545352144 tw11190476008846524424 tw9285534509533548058 tw15679493368452397270 tw7740187851234271449 tw6904529292798959133 tw17549668484471858976 tw16255393022305517407 tw5994504952192109165 tw16514248863351120521 tw17095939874004179591 tw590419779074807010 tw12229344062593675475 tw13128227869486235255 tw12340869444416262963 tw4996509912029053348 tw6486950778377204860 tw6443900456437524676 tw17913371648205629460 tw12551301592882682844 tw11165562649126156217 tw6810737875787674141 tw15606682058944523904 tw12498634504832290070 tw16772160889820142990 tw5200722983808461544 tw2011041209755597128 tw8955252792309205208 tw3723715707047909660 tw13571526970327693978 tw14259150131552161346 tw14970952188428378842 tw10599279741990535570 tw7273475822348724647 tw10647245192139927081 tw16312402909643254168 tw5413496321236007396 tw8699132047309302068 tw5295305962020568169 tw12710595447505438955 tw6882864693463474638 tw754358530132238047 tw8822535372658524558 tw5042076652510170790 tw8142584976397471928 tw5726871643512573461 tw13750372428238061832 tw5308030416175203480 tw10361372423291910321 tw137542481854833844 tw10026749484365264834 tw7452512939731359283 tw6579713352133700777 tw2265437684168265875 tw13456822247916567082 tw5812780692054308754 tw14683641944565634757 tw10191894955577562288 tw15368238620600921991 tw7692917476716085299 tw9931185826908925915 tw15091113747322989077 tw17772016938642351347 tw5510244451602040263 tw11521018910578270427 tw1223910876846954559 tw10941271998574173870 tw13584563948902623423 tw5312267216870754819 tw13006298467149663585 tw9287408399398330225 tw2656858507873201686 tw12156028713382991807 tw15141072816306249617 tw4607940370133845148 tw3970080578539100446 tw2557513875997300543 tw7155775875627315453 tw4699043276912666008 tw12244934339330703896 tw12959538430078270621 tw10939608774024810682 tw8643255960061868928 tw12463771418685899569 tw17175063202685916839 tw5223749933645953520 tw3410002742116153911 tw2228434180938365594 tw7708567588012234993 tw5867442456905923653 tw1626953606117527418 tw463515303591206468 tw2669243085138278309 tw11533379825449520003 tw12191516445018624943 tw13996247604352531317 tw3828226576561214271 tw6208045010143583295 tw10377091234102458759 tw12923165447529983880 tw16260829585198007268 tw8385552353327625532 tw14749789323361362000 tw3862256312060361403 tw5613244741514867325 tw5745287872840837507 tw16008578309831681048 tw7992091322492645894 tw9986696899926151360 tw4001381574763260314 tw11942347296114078407 tw745896620639236484 tw14070226726165817740 tw18258749801185527880 tw10474460228625703920 tw4611675623481140848 tw3546739084849615516 tw16431604911646438787 tw11644379616973568444 tw8499992791408699253 tw1808789337869349989 tw4796134988087352690 tw3213225940713366970 tw11395044793787363454 tw8633682399475780886 tw2213306607979593103 tw7443250441911001043 tw10716108294191252676 tw11844659917876856819 tw17944090423234869530 tw11337167923280597460 tw945616426202327063 tw8712862511306680026 tw8253408300067568969 tw1955678824852758332 tw9141102537369910739 tw8023097516510046660 tw17111323153097948245 tw5150080300917372289 tw7385104034055571935 tw8887720719160213166 tw11224616921064285969 tw5903936959189581373 tw1624507754173428402 tw2856411677463539578 tw10090642298191517214 tw4063871972028831674 tw5166095383506637079 tw5115907154833577579 tw14159142432502953073 tw9568610860008542873 tw2170665376524600582 tw4196207929280527470 tw17045457890023640978 tw10102805924317122751 tw1709610979447729663 tw14962981123959122050 tw3546115609074389932 tw16351818717062392339 tw1803400338522975104 tw2151510035148291225 tw9862821453374604954 tw17259897336646823348 tw11453590008247188866 tw13519908997232315662 tw1895352056540033997 tw11446966426803039729 tw16135833555353237318 tw12395762542402727609 tw15874804899092909770 tw11769575547796004080 tw7678227159737336534 tw8881704543338319979 tw5844187693680871182 tw16914807010730909236 tw7432208006197533452 tw5346274815539647787 tw9483374188153555974 tw12569862734525688214 tw13263637350230694708 tw2127701960598425884 tw12212955544578856308 tw17331628807044433287 tw17122697740572615421 tw8636975234907561446 tw5443898478968707517 tw16363604514334375887 tw14251891162199028557 tw14981906151488927159 tw17815177875608694863 tw2091471329784197753 tw15904604362946405115 tw16573437706463288808 tw15201895972387859023 tw16691346152458863729 tw8498136066915795954:True)
set_option maxRecDepth 100000 in
set_option maxHeartbeats 0 in
theorem PySem.Challenge.cw_forestread_k52_whole_number_of_rows_holds : PySem.Challenge.rw_forestread_k52_whole_number_of_rows.Holds := by
 w_on;o_law;k_head;(case hw=>w_witness2)
 k_fill
 refine FR.walk (l:=PySem.Challenge.rw_forestread_k52_whole_number_of_rows) Z rfl (λw h Y=>PySem.W.kIn_of Y) ?F
 case F=>
  intro w mg fa h KX G uV;refine' FR.all_mk KX G uV ..
  any_goals first|k_is|(delta L2.Dn;k_is)|(delta L2.Zn;k_is)|(delta L2.On;k_is)|(refine' L2.DL.mk ?_ (L2.Ln.mk ?_ ?_ ?_);any_goals k_is)|(refine' L2.AL.mk (L2.An.mk ?_ ?_) (L2.Ln.mk ?_ ?_ ?_);any_goals k_is)|(refine' L2.CL.mk ?_ ?_ ?_ ?_;any_goals k_is)|k_exc|kts_exm|kit_is
