import PyProof.Rows.All
import Wide.All
import OpenK.AllK
import Wide.FinOn
import Lean
import PyProof.EqAt
import PyProof.EqKinds
import PyProof.TupleCall
import PyProof.NeKinds
import PySem.Challenge.RW_loveboon_k29_whole_climbs_by_knots
noncomputable section
open Array renaming getElem?_eq_getElem→Vn,length_toList→Vo,getElem?_toList→Wb,getD_eq_getD_getElem?→WT,getElem?_eq_none→Yt
open Bool renaming false_ne_true→U5,and_eq_true→WK,eq_iff_iff→Zn,false_eq_true→Zt,and_false→aa2,false_or→abb,or_eq_true→ab1
open Classical renaming byContradiction→aai
open Decidable renaming byContradiction→X8
open False renaming elim→YX
open ForInStep renaming yield→Zk
open Int renaming toNat_natCast→Vu,emod_lt_of_pos→V6,le_refl→V9,emod_nonneg→Wn,zero_add→Xl,eq_ofNat_of_zero_le→Yo,toNat→ZP,le_trans→Z6
open List renaming length_map→Uy,getElem?_eq_getElem→UG,getD_eq_getElem?_getD→UL,mem_cons_self→UW,map_append→U3,size_toArray→U7,mem_cons_of_mem→U9,length_append→Va,range→Vb,length_take→Vc,length_cons→Vd,take_length→Ve,replicate→Vf,getElem?_map→Vj,mem_of_getElem?→Vl,length_range→Vt,map_cons→Vw,take_add_one→Vz,mem_cons→V3,take_zero→We,getElem?_append_right→Wf,foldl_cons→Wi,length_replicate→Wl,getElem?_eq_none→Wm,not_mem_nil→Ws,lookup_cons→Wt,getElem_mem→Wu,mem_append_right→Ww,take_succ_cons→Wx,getElem?_append_left→W0,drop_eq_getElem_cons→W2,getElem?_range→W4,eq_nil_of_length_eq_zero→W5,pairwise_cons→W9,getElem_toArray→Xc,replicate_succ→Xn,forIn_cons→Xp,length_drop→Xv,range'→XC,forIn_nil→XD,getElem?_replicate→XF,append_assoc→XH,append_nil→XJ,sum→XM,getElem_of_mem→XN,map_map→XQ,drop_of_length_le→XR,mem_singleton→X5,zipIdx_cons→Ym,filter_cons→Yn,range_succ→Yv,sum_cons→Yy,any_cons→Yz,length_filter_le→YC,pairwise_map→YH,mem_of_mem_take→YT,zipWith→Y9,getElem?_take_of_lt→Zd,zipIdx_nil→Zi,find?_cons→Zj,foldl→Zr,getElem?_set_self→ZC,flatten_cons→ZD,getElem?_toArray→ZJ,all_cons→ZR,nil_append→ZX,length_zipWith→Z1,filterMap_cons→Z2,map_nil→Z5,filter_append→aaf,length→aap,length_erase_of_mem→aav,cons_ne_nil→aaA,range_succ_eq_map→aaJ,mem_filter→aaR,length_filter_lt_length_iff_exists→aaT,replicate_succ'→aaX,pairwise_append→aaY,mem_erase_of_ne→aaZ,mem_append_left→aa0,getElem?_set_ne→aa1,map_congr_left→aa6,getElem?_take→abi,getElem?_drop→abj,set_eq_take_append_cons_drop→abl,toArray→abx,foldl_append→aby,filter_congr→abz,ext_getElem?→abA,getElem_inj→abK,all_eq_true→abL,of_mem_zip→abV,mem_append→abW,length_set→abX
open List.Pairwise renaming nil→ZF
open Nat renaming le_refl→U0,ne_of_lt→Vh,lt_of_lt_of_le→Vm,zero_le→Vr,lt_succ_of_lt→V7,le_trans→Wd,ne_of_gt→WM,lt_or_ge→WN,lt_succ_self→Xu,lt_irrefl→Xw,pow_le_pow_right→Xz,le_succ→XX,lt_of_le_of_lt→Ys,le_of_lt→Y8,not_lt_zero→Zh,blt→Zz,lt_of_succ_lt_succ→aaI,le_of_ble_eq_true→aaS,sub_self→abw,succ_le_succ→abJ
open Ne renaming symm→YG
open Option renaming map_some→aaQ
open Option.some renaming inj→VF
open Or renaming inl→U8,inr→aau
open PyProof.Rows renaming IntsAre→V8,seqObj→Wk,callWith_type1→Wq,step_dedup→Xb,SortSt→Xr,SortKind→Yg,pairsOf→YF,arrOf→aao,listUpdate_at→aas,size_push'→aaC,AllBare→aaK,elem'→aaN,seqEpoch_at→aaU,pendingOf→aa3,envOfC→abe,slot_tuple_getitem→abC,callWith_builtin1→abI,entry_list_sort→abT
open PyProof.Rows.F renaming plain_set_update_loop→aaB
open PyProof.Rows.SortSt renaming mk'→YM
open PySem renaming wpAny_bind→Uw,Shared→Uz,wpAny_pure→UJ,wpAny→U4,model→Vk,Program→Vp,wpAny_loadPart'→Vq,wpAny_field→VD,mainGlobals→VG,wpAny_seqItems→VJ,World→VP,Around→VR,wpAny_callSpecial?_slot→V0,wpAny_newObj_type→V1,wpAny_call_entry→V2,starEach→V4,wpAny_setField_rec→V5,Heap→Wc,bootBuiltins→Wj,rawInt→Wy,Str→Wz,codeAny_builtin→WQ,IsPair→WY,mem_of_lookup→W3,wpAny_attempt→W6,plainId_quiet→W7,compareOp→Xa,wpAny_onRaise→Xe,wpAny_holding→Xf,wpAny_truthy_bool→Xh,wpAny_setField→Xi,wpAny_mono→Xj,IsZip→Xk,sizeLine_eq→Xo,wpAny_pyIter_tuple→Xq,wpAny_letGo→Xx,pyNext→Xy,wpAny_of_eq→XS,wpAny_isInstance→X3,wpAny_rule→X4,builtinLookup_eq_fast→X6,eval→X7,wpAny_ite_false→Yb,wpAny_updateSeq_pair→Yc,wpAny_pyIter_list→Yd,Obj→Yh,isSubtype_type→Yj,firstArgMember→Yk,wpAny_Call_Name_kw→Yq,wpAny_passesOwn→Yu,FuncData→Yw,behindInMarks→Yx,wpAny_setState_of→YD,binaryOp→YK,SetTable→YS,wpAny_pyIter_zip→Y0,wpAny_askSetting→Y5,intKind→Y6,codeAny→Y7,wpAny_updateSeq→Zf,typeLookup_type→Zg,sysModules→Zo,call_meets→Zq,isSubtype_stop→Zv,Scope→Zx,Pos→ZG,pickOrder→ZK,backTo→ZL,assignEach→ZM,sliceBounds→ZS,wpAny_specialOf→ZV,argsOk→ZW,wpAny_setEntries_of→Z0,wpAny_tryCatch→Z9,wpAny_newTuple→aaa,typeIs_int→aab,NameKind→aae,wpAny_letOwnedTupleGo_zip→aag,wpAny_binaryOp_repeat_ref→aah,wpAny_pyIter_enum→aal,field→aan,wpAny_newList→aaq,signature?_of→aar,wpAny_eqBool_int→aax,seqItems?→aay,codeAny_mono→aaD,callType_new→aaE,wpAny_execs_nil→aaL,letOwnedTupleGo→aaM,bindArgs→aaV,getItem→aa4,BindsTo→aa5,wpAny_handled→aa7,Meets→aba,tupleKind_room_in1→abd,Result→abg,wpAny_pyIter_slot→abm,valueAt→abn,relayAll→abo,foldedSetIterable→abp,callerA→abq,updateSeq→abD,tupleKind→abE,noFill_tuple_add→abF,newExc→abG,checkBuiltinCall→abH,IsPart→abM,wpAny_throw→abP,unsupported→abQ,subscripted→abR,wpAny_ite_split→abS,setNext→ab2
open PySem.Around renaming under_plainId→Wr
open PySem.Builtin.Builtins renaming bindParams→Z8
open PySem.Builtin.List renaming listTooLong→aaw,listLengthHint→ab5,listExtendWith→ab6
open PySem.Builtin.Slice renaming slicePlaces→Zb,sliceAdjust→aak
open PySem.Builtin.SmallTypes renaming ownedTupleIsFree→Vs,nextOf→Vv,ownedTupleHandOut→WD,newClass→ab4
open PySem.Builtin.Tuple renaming tupleExact→Ze
open PySem.Calls renaming call_function_entry→aaj
open PySem.F renaming plainAttrs_list→VH,type_list_append→VM,slot_list_append→VN,slot_zip_next→WW,plain_max_loop→Yp,args_zip_next_1→YJ,slot_tuple_iterator_next→YZ,entry_zip_next→Za,slot_int_rmul→Zm,args_tuple_add_2→aat,entry_tuple_add→aaz,slot_tuple_add→aaH,args_int_rmul_2→abB,entry_max_loop→abN,entry_int_rmul→abO,fills_int_mul→abY,entry_zip_new→abZ,args_tuple_iterator_next_1→ab0,entry_tuple_iterator_next→ab3
open PySem.Heap renaming get?_push_of_some→Ux,get?_push_size→UT,lt_size→U6,size_push→VL,get?_update_other→Wg,get?_update_self→Wh,get?_push_ne→WL,size_update→Xd,SameBut→Xm,get?_push_cases→YW,get?_update_ne→Z3,IsTuple→Z7
open PySem.Heap.SameBut renaming update→Wo
open PySem.NameKind renaming free→Xg,cell→aa9
open PySem.Obj renaming mapSeq→Wa,mapFields→ZQ,putSet→abh
open PySem.Paired renaming length→aa8
open PySem.PassesOwn renaming never→Vx
open PySem.SeqAt.EqAt renaming int_int→aac,same→aaP
open PySem.SetTable renaming below→WR,grown→YQ
open PySem.SetTable.below renaming go→Zw
open PySem.SetTable.probe renaming go→abt
open PySem.Shared renaming heap→Zu
open PySem.Str renaming ofString→WX
open PySem.Value renaming ref→Vy,none→VB,int→Yl,type→Yr,bool→aaF
open PySem.W renaming Frag→Vg,Frag→Vi,mg_none_of→Wv,kia_one→W8,kas_item→Ye,nsIn→YB,kitOne→Zc,fnOf→Zy,kas_cmp→Z4,keepIn→aad,kas_item_eq→aam,codeIn→aaW,methodObj→abu,instObj→abU
open PySem.W.KasT renaming kasWp→Yi,kasWp_bind→ZZ
open PySem.Walks renaming list→abf
open StateT renaming run_pure→aaO
open Sum renaming inl→aaG,inr→abr
open True renaming intro→YL
set_option Elab.async false
set_option linter.all false
set_option maxRecDepth 100000
namespace L2
open PySem PySem.Spec PyProof.Rows
abbrev Key:=Sum Int Wz
def CT:Key->Value->Bool
 | .inl k,v=>Value.isInt k v
 | .inr x,v=>Value.isStrOf x v
def T9 (w:VP):Key->Int
 | .inl k=>hashInt k
 | .inr x=>hashStr w x
theorem cV:∀ {k:Key} {v:Value},CT k v=true->(∃ i t,k=aaG i/\v=Yl i t)∨(∃ x t,k=abr x/\v=Value.str x t)
 | .inl i,v,h=>by
  obtain⟨t,e⟩:=Value.isInt_shape (k:=i) (v:=v) h
  exact .inl ⟨i,t,rfl,e⟩
 | .inr x,v,h=>by
  obtain⟨t,e⟩:=Value.isStrOf_shape (x:=x) (v:=v) h
  exact .inr ⟨x,t,rfl,e⟩
theorem Gz (i:Int) (t:Tok):CT (.inl i) (.int i t)=true:=by simp [CT,Value.isInt]
theorem Eo (x:Wz) (t:Tok):CT (.inr x) (.str x t)=true:=by simp [CT,Value.isStrOf]
theorem QS (a b:Int):decide ((aaG a:Key)=aaG b)=(a == b):=by
 by_cases e:a=b
 ·subst e; simp
 ·have h:¬ (aaG a:Key)=aaG b:=fun q=>e (Sum.inl.inj q)
  rw[decide_eq_false h]
  exact (beq_eq_false_iff_ne.mpr e).symm
theorem Rn (a b:Wz):decide ((abr a:Key)=abr b)=decide (a=b):=by
 by_cases e:a=b
 ·subst e; simp
 ·have h:¬ (abr a:Key)=abr b:=fun q=>e (Sum.inr.inj q)
  rw[decide_eq_false h,decide_eq_false e]
theorem Qs (a:Int) (b:Wz):decide ((aaG a:Key)=abr b)=false:=decide_eq_false (fun q=>nomatch q)
theorem Qt (a:Wz) (b:Int):decide ((abr a:Key)=aaG b)=false:=decide_eq_false (fun q=>nomatch q)
def eY (prog:Vp) (w:VP):PySem.KeyKind prog w Key where
 is:=CT
 hash:=T9 w
 inj:=fun v a b ha hb=>by
  rcases cV ha with⟨i,t,rfl,rfl⟩ | ⟨x,t,rfl,rfl⟩
  ·rcases cV hb with⟨j,u,rfl,e⟩ | ⟨y,u,rfl,e⟩
   ·injection e with e1 _; rw[e1]
   ·exact nomatch e
  ·rcases cV hb with⟨j,u,rfl,e⟩ | ⟨y,u,rfl,e⟩
   ·exact nomatch e
   ·injection e with e1 _; rw[e1]
 byValue:=fun k v h=>by
  rcases cV h with⟨i,t,rfl,rfl⟩ | ⟨x,t,rfl,rfl⟩ <;> rfl
 pyHash:=fun hv h=>by
  rcases cV hv with⟨i,t,rfl,rfl⟩ | ⟨x,t,rfl,rfl⟩
  ·exact wpAny_pyHash_int h
  ·exact wpAny_pyHash_str h
 eqBool:=fun hu hv h=>by
  rcases cV hu with⟨i,t,rfl,rfl⟩ | ⟨x,t,rfl,rfl⟩
  ·rcases cV hv with⟨j,u,rfl,rfl⟩ | ⟨y,u,rfl,rfl⟩
   ·rw[QS] at h; exact aax h
   ·rw[Qs] at h; exact SeqAt.EqAt.int_str i t y u _ _ _ _ h
  ·rcases cV hv with⟨j,u,rfl,rfl⟩ | ⟨y,u,rfl,rfl⟩
   ·rw[Qt] at h; exact SeqAt.EqAt.str_int x t j u _ _ _ _ h
   ·rw[Rn] at h; exact wpAny_eqBool_str h
 «strs»:=fun k x t v h=>by
  rcases cV h with⟨i,u,rfl,e⟩ | ⟨y,u,rfl,e⟩
  ·exact nomatch e
  ·injection e with e1 _
   subst e1
   cases v <;> rfl
theorem xZ (prog:Vp) (w:VP) (i:Int) (t:Tok):(eY prog w).is (.inl i) (.int i t)=true:=Gz i t
theorem yE (prog:Vp) (w:VP) (x:Wz) (t:Tok):(eY prog w).is (.inr x) (.str x t)=true:=Eo x t
end L2
namespace L2
open PySem PySem.Spec PyProof.Rows
inductive V where
 | non | bl (b:Bool) | int (i:Int) | str (x:Wz) | byt (b:Array UInt8) | flt (b:UInt64) | ref (a:Addr) | ty (n:String)
 deriving DecidableEq
def RelV:V->Value->Prop
 | .non,u=>u=VB
 | .bl b,u=>u=aaF b
 | .int i,u=>∃ t,u=Yl i t
 | .str x,u=>∃ t,u=Value.str x t
 | .byt b,u=>∃ t,u=Value.bytes b t
 | .flt b,u=>∃ t,u=Value.float b t
 | .ref a,u=>u=Vy a
 | .ty n,u=>u=Yr n
abbrev Vals:List V->List Value->Prop:=Paired RelV
theorem Vals.length {xs:List V} {us:List Value} (r:Vals xs us):xs.length=us.length:=aa8 r
theorem Vals.get:∀ {xs:List V} {us:List Value} {i:Nat} {x:V},Vals xs us->xs[i]? = some x->∃ u,us[i]? = some u/\RelV x u
 | _,_,_,_,.nil,e=>by simp at e
 | _,_,0,_,.cons r _,e=>by simp at e; subst e; exact⟨_,rfl,r⟩
 | _,_,i+1,x,.cons _ t,e=>by
  obtain⟨u,h1,h2⟩:=Vals.get (i:=i) (x:=x) t (by simpa using e)
  exact⟨u,by simpa using h1,h2⟩
theorem Vals.append:∀ {xs ys:List V} {us ws:List Value},Vals xs us->Vals ys ws->Vals (xs++ys) (us++ws)
 | _,_,_,_,.nil,s=>s
 | _,_,_,_,.cons r t,s=>.cons r (Vals.append t s)
theorem Vals.take:∀ {xs:List V} {us:List Value} (n:Nat),Vals xs us->Vals (xs.take n) (us.take n)
 | _,_,0,_=>.nil
 | _,_,_+1,.nil=>.nil
 | _,_,n+1,.cons r t=>.cons r (Vals.take n t)
theorem Vals.drop:∀ {xs:List V} {us:List Value} (n:Nat),Vals xs us->Vals (xs.drop n) (us.drop n)
 | _,_,0,r=>r
 | _,_,_+1,.nil=>.nil
 | _,_,n+1,.cons _ t=>Vals.drop n t
def Gf:Option V->Option Value->Prop
 | some v,some u=>RelV v u
 | none,none=>True
 | _,_=>False
def KV {κ:Type}:List (κ × V)->List (κ × Value)->Prop:=Paired fun (p:κ × V) (q:κ × Value)=>p.1=q.1/\RelV p.2 q.2
def kV:Key->V
 | .inl i=>.int i
 | .inr x=>.str x
inductive HO where
 /-- a list -/
 | lst (xs:List V)
 /-- a tuple (never changes) -/
 | tup (xs:List V)
 /-- a dict whose keys are ints and texts; one whose keys are tuples of ints and texts (the empty one is both) -/
 | dK (kvs:List (Key × V)) | dT (kvs:List (List Key × V))
 /-- a set of ints: its members,its size -/
 | set (S:Int->Bool) (n:Nat)
 /-- an instance of the class at C,its dict at dx,its attributes -/
 | ins (C dx:Addr) (fs:List (Wz × V))
 /-- the dict of the instance at x -/
 | own (x:Addr)
 /-- the dict of an exception -/
 | xd (fs:List (Wz × V))
 /-- a bound method,f of x -/
 | met (f x:Addr)
 /-- a range object lo,lo+1,.. below hi -/
 | rng (lo hi:Int)
 /-- a thing that is known to the object (the script; a dict while a loop walks it): read,never written while it is so -/
 | frz (o:Yh) (u:HO)
 /-- a code object's table -/
 | tbl (ps:Array Value)
 /-- any other thing,by what is true of its one object (a def of one's own: SetO a S n:=HO.ext fun h=>..) -/
 | ext (φ:Wc->Prop)
abbrev Hp:=Addr->Option HO
def upd (H:Hp) (a:Addr) (o:HO):Hp:=fun b=>if b=a then some o else H b
theorem aq {H:Hp} {a:Addr} {o:HO}:upd H a o a=some o:=by unfold upd; rw[if_pos rfl]
theorem bB {H:Hp} {a b:Addr} {o:HO} (h:b≠a):upd H a o b=H b:=by unfold upd; rw[if_neg h]
theorem PL {H:Hp} {a b:Addr} {o u:HO} (h:H a=some o) (h':H b=some u) (d:o≠u):a≠b:=by
 intro e; subst e; rw[h] at h'; exact d (VF h')
theorem dH {H:Hp} {a b:Addr} {o:HO} (h:H a=some o) (h':H b=none):a≠b:=by
 intro e; subst e; rw[h] at h'; cases h'
section
variable (P:Vp) (w:VP)
def fB (H:Hp) (h:Wc) (a:Addr):HO->Prop
 | .lst xs=>xs.length<=sizeLine/\∃ (its:List Value) (n:Nat),Vals xs its/\h.get? a=some { cls:=.type "list",data:=.seq its.toArray n }
 | .tup xs=>xs.length<=sizeLine/\∃ its:List Value,Vals xs its/\IsTup h a its.toArray
 | .dK kvs=>kvs.length<=sizeLine/\(a == Zo)=false/\∃ vs,KV kvs vs/\h.DictOf (eY P w) a vs
 | .dT kvs=>kvs.length<=sizeLine/\(a == Zo)=false/\∃ xs:List (List Key × Addr × Value),
   Paired (fun (p:List Key × V) (q:List Key × Addr × Value)=>p.1=q.1/\H q.2.1=some (.tup (p.1.map kV))/\RelV p.2 q.2.2) kvs xs ∧
   ∃ o es ep,h.get? a=some o/\o.ExactDict/\o.data = .dict es ep/\es.toList=xs.map (entryOfKey (abE (eY P w)))/\(xs.map (·.1)).Nodup
 | .set S n=>h.SetOf (Y6 P w) a S n
 | .ins C dx fs=>H dx=some (.own a)/\fs.length<=1000/\dx≠a/\h.get? a=some (abU C dx) ∧
   ∃ mA,h.Ns1 dx mA/\(∀ f,Gf (fs.lookup f) (mA f))/\PySem.Within mA (fs.map (·.1))
 | .own _=>∃ o,h.get? a=some o
 | .xd fs=>∃ mA,h.Ns1 a mA/\∀ f,Gf (fs.lookup f) (mA f)
 | .rng lo hi=>∃ t u v,h.get? a=some { cls:=.type "range",data:=.fields #[.int lo t,.int hi u,.int 1 v] }
 | .frz o u=>h.get? a=some o/\fB H h a u
 | .tbl ps=>h.get? a=some { cls:=.none,data:=.fields ps }
 | .met f x=>h.get? a=some (abu (.ref f) (.ref x))
 | .ext φ=>φ h/\(∃ o,h.get? a=some o)/\∀ h1 h2:Wc,φ h1->(∀ o,h1.get? a=some o->h2.get? a=some o)->φ h2
def HOk (H:Hp) (h:Wc):Prop:=∀ a o,H a=some o->fB P w H h a o
end
section
variable {P:Vp} {w:VP} {H H':Hp} {h h':Wc} {a:Addr} {o:HO}
theorem fB.lt (x:fB P w H h a o):a < h.objs.size:=by
 cases o with
 | lst xs=>obtain⟨_,_,_,_,e⟩:=x; exact U6 e
 | tup xs=>obtain⟨_,_,_,p⟩:=x; exact p.lt
 | dK kvs=>obtain⟨_,_,_,_,o,_,_,e,_⟩:=x; exact U6 e
 | dT kvs=>obtain⟨_,_,_,_,o,_,_,e,_⟩:=x; exact U6 e
 | set S n=>obtain⟨o,_,_,_,e,_⟩:=x; exact U6 e
 | ins C dx fs=>obtain⟨_,_,_,e,_⟩:=x; exact U6 e
 | own y=>obtain⟨_,e⟩:=x; exact U6 e
 | xd fs=>obtain⟨_,⟨_,_,_,e,_⟩,_⟩:=x; exact U6 e
 | rng lo hi=>obtain⟨_,_,_,e⟩:=x; exact U6 e
 | frz ob u=>obtain⟨e,_⟩:=x; exact U6 e
 | tbl ps=>exact U6 (show h.get? a=some _ from x)
 | met f y=>exact U6 (show h.get? a=some _ from x)
 | ext φ=>obtain⟨_,⟨_,e⟩,_⟩:=x; exact U6 e
theorem Paired.Sq {α β:Type} {F G:α->β->Prop}:∀ {l₁:List α} {l₂:List β},Paired F l₁ l₂->(∀ a b,F a b->G a b)->Paired G l₁ l₂
 | _,_,.nil,_=>.nil
 | _,_,.cons r t,f=>.cons (f _ _ r) (Paired.Sq t f)
theorem fB.stay (x:fB P w H h a o) (k:∀ b u,(b=a∨H b=some (.own a))->h.get? b=some u->h'.get? b=some u)
  (ho:∀ b,H b=some (.own a)->H' b=some (.own a)) (ht:∀ b xs,H b=some (.tup xs)->H' b=some (.tup xs)):fB P w H' h' a o:=by
 induction o with
 | lst xs=>obtain⟨z,its,n,r,e⟩:=x; exact⟨z,its,n,r,k _ _ (.inl rfl) e⟩
 | tup xs=>obtain⟨z,its,r,ob,e,c⟩:=x; exact⟨z,its,r,ob,k _ _ (.inl rfl) e,c⟩
 | dK kvs=>obtain⟨z,y,vs,r,ob,es,ep,e,c⟩:=x; exact⟨z,y,vs,r,ob,es,ep,k _ _ (.inl rfl) e,c⟩
 | dT kvs =>
  obtain⟨z,y,xs,r,ob,es,ep,e,c⟩:=x
  exact⟨z,y,xs,Paired.Sq r fun p q z=>⟨z.1,ht _ _ z.2.1,z.2.2⟩,ob,es,ep,k _ _ (.inl rfl) e,c⟩
 | set S n=>obtain⟨ob,es,ep,t,e,c⟩:=x; exact⟨ob,es,ep,t,k _ _ (.inl rfl) e,c⟩
 | ins C dx fs =>
  obtain⟨d,z,ne,e,mA,⟨od,es,ep,e2,c⟩,r⟩:=x
  exact⟨ho _ d,z,ne,k _ _ (.inl rfl) e,mA,⟨od,es,ep,k _ _ (.inr d) e2,c⟩,r⟩
 | own y=>obtain⟨ob,e⟩:=x; exact⟨ob,k _ _ (.inl rfl) e⟩
 | xd fs=>obtain⟨mA,⟨od,es,ep,e,c⟩,r⟩:=x; exact⟨mA,⟨od,es,ep,k _ _ (.inl rfl) e,c⟩,r⟩
 | rng lo hi=>obtain⟨t,u,v,e⟩:=x; exact⟨t,u,v,k _ _ (.inl rfl) e⟩
 | frz ob u ih=>obtain⟨e,q⟩:=x; exact⟨k _ _ (.inl rfl) e,ih q⟩
 | tbl ps =>
  have e:h.get? a=some { cls:=.none,data:=.fields ps }:=x
  show h'.get? a=some { cls:=.none,data:=.fields ps }
  exact k a _ (.inl rfl) e
 | met f y =>
  have e:h.get? a=some (abu (.ref f) (.ref y)):=x
  show h'.get? a=some (abu (.ref f) (.ref y))
  exact k a _ (.inl rfl) e
 | ext φ=>obtain⟨p,⟨o,e⟩,st⟩:=x; exact⟨st _ _ p fun o q=>k _ _ (.inl rfl) q,⟨o,k _ _ (.inl rfl) e⟩,st⟩
theorem HOk.lt (x:HOk P w H h) (e:H a=some o):a < h.objs.size:=(x a o e).lt
theorem HOk.fresh (x:HOk P w H h) (e:h.objs.size<=a):H a=none:=by
 cases q:H a with
 | none=>rfl
 | some u=>exact absurd (Vm (x.lt q) e) (Xw _)
theorem HOk.kept (x:HOk P w H h) (k:∀ b u,h.get? b=some u->h'.get? b=some u):HOk P w H h':=fun a o e =>
 (x a o e).stay (fun b u _ q=>k b u q) (fun _ q=>q) fun _ _ q=>q
theorem HOk.laid (x:HOk P w H h) (k:∀ b u,h.get? b=some u->h'.get? b=some u) (hp:h.objs.size<=a) (new:fB P w (upd H a o) h' a o):HOk P w (upd H a o) h':=fun b u e=>by
 have hn:=x.fresh hp
 by_cases hb:b=a
 ·subst hb; rw[aq] at e; cases e; exact new
 ·rw[bB hb] at e
  exact (x b u e).stay (fun c v _ q=>k c v q) (fun c q=>by rw[bB (dH q hn)]; exact q) fun c xs q=>by rw[bB (dH q hn)]; exact q
end
def Rd (H:Hp) (a:Addr) (u:HO):Prop:=H a=some u∨∃ o,H a=some (.frz o u)
theorem Rd.ok {P:Vp} {w:VP} {H:Hp} {h:Wc} {a:Addr} {u:HO} (r:Rd H a u) (x:HOk P w H h):fB P w H h a u:=by
 rcases r with r | ⟨o,r⟩
 ·exact x a u r
 ·obtain⟨_,q⟩:=x a _ r
  exact q
def Mut:Option HO->Prop
 | some (.lst _)=>True
 | some (.dK _)=>True
 | some (.dT _)=>True
 | some (.set _ _)=>True
 | some (.ins _ _ _)=>True
 | some (.ext _)=>True
 | _=>False
section
variable {P:Vp} {w:VP} {H:Hp} {h h':Wc} {x e:Addr} {o':HO}
theorem HOk.write (ok:HOk P w H h) (mu:Mut (H x)) (he:e=x∨H e=some (.own x)) (k:∀ b u,b≠e->h.get? b=some u->h'.get? b=some u) (heo:∃ u,h'.get? e=some u)
  (new:fB P w (upd H x o') h' x o'):HOk P w (upd H x o') h':=fun b u q=>by
 have nown:∀ c y,H c=some (.own y)->c≠x:=fun c y r z=>by subst z; rw[r] at mu; exact mu
 have ntup:∀ c xs,H c=some (.tup xs)->c≠x:=fun c xs r z=>by subst z; rw[r] at mu; exact mu
 by_cases hb:b=x
 ·subst hb; rw[aq] at q; cases q; exact new
 ·rw[bB hb] at q
  by_cases hbe:b=e
  ·have q':H b=some (.own x):=by
    rcases he with z | z
    ·exact absurd (hbe.trans z) hb
    ·rw[hbe]; exact z
   rw[q] at q'; cases q'
   obtain⟨v,hv⟩:=heo
   exact⟨v,by rw[hbe]; exact hv⟩
  ·refine (ok b u q).stay (fun c v hc r=>k c v ?_ r) (fun c r=>by rw[bB (nown c b r)]; exact r) fun c xs r=>by rw[bB (ntup c xs r)]; exact r
   rcases hc with rfl | hc
   ·exact hbe
   ·rintro rfl
    rcases he with z | z
    ·exact nown c b hc z
    ·rw[hc] at z; cases z; exact hb rfl
end
structure Un (fs ex:List Addr) (H H':Hp) (h h':Wc):Prop where
 keep:∀ b o,h.get? b=some o->H b=none->b ∉ fs->b ∉ ex->h'.get? b=some o
 slot:∀ b o,h.get? b=some o->H b=none->b∈fs->b ∉ ex->∃ sl,h'.get? b=some { o with slots:=sl }
 free:∀ b o,h.get? b=some o->H b=none->b ∉ ex->H' b=none
 there:∀ b o,h.get? b=some o->b ∉ ex->∃ o',h'.get? b=some o'
 tups:∀ b xs,H b=some (.tup xs)->H' b=some (.tup xs)
 frzs:∀ b o u,H b=some (.frz o u)->H' b=some (.frz o u)
 tbls:∀ b ps,H b=some (.tbl ps)->∃ more,H' b=some (.tbl (ps++more))
section
variable {fs fs' ex ex':List Addr} {H H1 H2:Hp} {h h1 h2 h':Wc} {a x e:Addr} {o:HO}
theorem Un.any (u:Un fs ex H H1 h h1) {b:Addr} {ob:Yh} (q:h.get? b=some ob) (n:H b=none) (hx:b ∉ ex):∃ sl,h1.get? b=some { ob with slots:=sl }:=by
 by_cases hb:b∈fs
 ·exact u.slot b ob q n hb hx
 ·exact⟨ob.slots,u.keep b ob q n hb hx⟩
theorem Un.trans (a:Un fs ex H H1 h h1) (b:Un fs ex H1 H2 h1 h2):Un fs ex H H2 h h2 where
 keep:=fun c ob q n hc hx=>b.keep c ob (a.keep c ob q n hc hx) (a.free c ob q n hx) hc hx
 slot:=fun c ob q n hc hx=>by
  obtain⟨sl,e1⟩:=a.slot c ob q n hc hx
  obtain⟨sl',e2⟩:=b.slot c _ e1 (a.free c ob q n hx) hc hx
  exact⟨sl',e2⟩
 free:=fun c ob q n hx=>by
  obtain⟨o',e1⟩:=a.there c ob q hx
  exact b.free c o' e1 (a.free c ob q n hx) hx
 there:=fun c ob q hx=>by
  obtain⟨o',e1⟩:=a.there c ob q hx
  exact b.there c o' e1 hx
 tups:=fun c xs q=>b.tups c xs (a.tups c xs q)
 frzs:=fun c ob xs q=>b.frzs c ob xs (a.frzs c ob xs q)
 tbls:=fun c ps q=>by
  obtain⟨m1,e1⟩:=a.tbls c ps q
  obtain⟨m2,e2⟩:=b.tbls c _ e1
  exact⟨m1++m2,by rw[e2,Array.append_assoc]⟩
theorem Un.kept (k:∀ b u,h.get? b=some u->h'.get? b=some u):Un fs ex H H h h' :=
 ⟨fun b ob q _ _ _=>k b ob q,fun b ob q _ _ _=>⟨ob.slots,k b ob q⟩,fun _ _ _ n _=>n,fun b ob q _=>⟨ob,k b ob q⟩,fun _ _ q=>q,fun _ _ _ q=>q,fun _ ps q=>⟨#[],by rw[q]; simp⟩⟩
theorem Un.refl:Un fs ex H H h h:=Un.kept fun _ _ q=>q
theorem Un.laid (k:∀ b u,h.get? b=some u->h'.get? b=some u) (hp:h.objs.size<=a) (hn:H a=none):Un fs ex H (upd H a o) h h' where
 keep:=fun b u q _ _ _=>k b u q
 slot:=fun b u q _ _ _=>⟨u.slots,k b u q⟩
 free:=fun b u q n _=>by rw[bB (Vh (Vm (U6 q) hp))]; exact n
 there:=fun b u q _=>⟨u,k b u q⟩
 tups:=fun b xs q=>by rw[bB (dH q hn)]; exact q
 frzs:=fun b u xs q=>by rw[bB (dH q hn)]; exact q
 tbls:=fun b ps q=>⟨#[],by rw[bB (dH q hn),q]; simp⟩
theorem Un.write (mu:Mut (H x)) (he:e=x∨H e=some (.own x)) (k:∀ b u,b≠e->h.get? b=some u->h'.get? b=some u) (heo:∃ u,h'.get? e=some u):Un fs ex H (upd H x o) h h':=by
 have hx:∀ b,H b=none->b≠x:=fun b n z=>by subst z; rw[n] at mu; exact mu
 have hb:∀ b,H b=none->b≠e:=fun b n z=>by
  subst z
  rcases he with r | r
  ·exact hx b n r
  ·rw[n] at r; cases r
 have hm:∀ b u,H b=some u->¬ Mut (some u)->b≠x:=fun b u q nm z=>by subst z; rw[q] at mu; exact nm mu
 refine⟨fun b u q n _ _=>k b u (hb b n) q,fun b u q n _ _=>⟨u.slots,k b u (hb b n) q⟩,fun b u q n _=>by rw[bB (hx b n)]; exact n,fun b u q _=>?_,
  fun b xs q=>by rw[bB (hm b _ q fun z=>z)]; exact q,fun b u xs q=>by rw[bB (hm b _ q fun z=>z)]; exact q,fun b ps q=>⟨#[],by rw[bB (hm b _ q fun z=>z),q]; simp⟩⟩
 by_cases hbe:b=e
 ·subst hbe; exact heo
 ·exact⟨u,k b u hbe q⟩
end
def trk (h:Wc) (H:Hp):List Addr:=(Vb h.objs.size).filter fun a=>(H a).isSome
def J9 (h:Wc) (H:Hp):Wc:=PySem.W.hideAll h (trk h H)
theorem DR (h:Wc) (H:Hp):(J9 h H).objs.size=h.objs.size:=PySem.W.hideAll_size _ _
theorem KD {h:Wc} {H:Hp} {b:Addr} {o:Yh} (e:h.get? b=some o) (n:H b=none):(J9 h H).get? b=some o :=
 PySem.W.hideAll_get _ e fun hm=>by
  have q:(H b).isSome=true:=(List.mem_filter.mp hm).2
  rw[n] at q; simp at q
theorem Ox {h:Wc} {H:Hp} {b:Addr} {o:Yh} (e:(J9 h H).get? b=some o):h.get? b=some o/\H b=none:=by
 have e':h.get? b=some o:=PySem.W.of_hideAll (trk h H) e
 refine⟨e',?_⟩
 cases q:H b with
 | none=>rfl
 | some x =>
  have hm:b∈trk h H:=List.mem_filter.mpr ⟨List.mem_range.mpr (U6 e'),by simp [q]⟩
  have z:(J9 h H).get? b=none:=PySem.W.hideAll_none (trk h H) hm
  rw[z] at e; cases e
def O8 (g h:Wc) (L:Addr):List (Addr × Yh):=(Vb h.objs.size).filterMap fun a=>if a=L∨(g.get? a).isSome=true then none else (h.get? a).map fun o=>(a,o)
def rest (g h:Wc) (L d:Addr):List (Addr × Yh):=(O8 g h L).filter fun p=>decide (p.1≠d)
end L2
namespace L2
open PySem PySem.Spec PyProof.Rows
structure Mod (K:Vg) (mg:Wz->Option Value) (base:Wc):Prop where
 kin:K.In base
 glob:base.Ns VG mg
 blt:∃ mb,base.Ns builtinsNs mb/\∀ x:Wz,x≠"__name__"->mb x=Wj x
 nolimit:base.NoLimit
structure Cx where
 prog:Vp
 w:VP
 K:Vg
 mg:Wz->Option Value
 base:Wc
 A:VR
 N:List Wz
 s₀:Uz
 H₀:Hp
 env:Env
 outer:List Env
 stack:List Env
 ex:List Addr
 fn:Wz->Bool
 calm:Bool
 pn:List (Addr × Yh)
 xe:Value->Uz->Prop
def frs (l:List Env):List Addr:=l.filterMap (·.frame)
abbrev Cx.fs (X:Cx):List Addr:=frs X.outer
def Vis (sc:Zx) (x:Wz):Prop:=sc.names.lookup x=some .local∨sc.names.lookup x=some .cell∨sc.names.lookup x=some .free
def Loc (sc:Zx) (x:Wz):Prop:=sc.names.lookup x=some .local∨sc.names.lookup x=some .cell
def Look (env:Env) (h:Wc) (m:Wz->Option Value) (x:Wz) (u:Value):Prop :=
 (env.kindOf x=some .local/\m x=some u)∨((env.kindOf x=some .cell∨env.kindOf x=some .free)/\∃ c,env.cells.lookup x=some c/\h.IsCell c (some u))
structure Cx.Ok (X:Cx):Prop where
 mod:Mod X.K X.mg X.base
 kind:X.env.scope.kind = .function
 glob:X.env.globals=VG
 blt:X.env.builtins=builtinsNs
 above:X.s₀.heap.objs.size<=X.env.locals
 inj:∀ x y c,X.env.cells.lookup x=some c->X.env.cells.lookup y=some c->x=y
 has:∀ x,(X.env.kindOf x=some .cell∨X.env.kindOf x=some .free)->∃ c,X.env.cells.lookup x=some c
 cab:∀ x c,X.fn x=true->X.env.cells.lookup x=some c->X.s₀.heap.objs.size<=c
 hd:X.calm=true->X.A.handled=none
 frames:X.A.frames=some X.stack
 stk:X.stack=X.outer∨(X.stack=X.env::X.outer/\X.env.frame=some X.env.locals)
 exf:∀ b∈X.ex,b≠X.env.locals/\∀ x c,X.env.cells.lookup x=some c->c≠b
 bs:∀ b o,X.base.get? b=some o->X.s₀.heap.get? b=some o/\X.H₀ b=none
 bsz:X.base.objs.size<=X.s₀.heap.objs.size
 noex:∀ b o,X.base.get? b=some o->b ∉ X.ex
 exfs:∀ b∈X.ex,b ∉ X.fs
 IW:X.s₀.heap.FunFrames X.base X.outer
 frf:∀ b∈X.fs,X.H₀ b=none
structure Inv (X:Cx) (pins:List (Addr × Yh)) (σ:List (Option V)) (H:Hp) (s:Uz):Prop where
 ok:X.Ok
 os:s.os=X.s₀.os
 bare:aaK s.gens
 base:Un X.fs X.ex X.H₀ H X.s₀.heap s.heap
 loc:∃ m,s.heap.Ns X.env.locals m/\∀ (i:Nat) (x:Wz) (v:V),X.N[i]? = some x->σ[i]? = some (some v)->Vis X.env.scope x->∃ u,RelV v u/\Look X.env s.heap m x u
 cell:∀ x c,X.env.cells.lookup x=some c->∃ v,s.heap.IsCell c v
 free:H X.env.locals=none
 freeC:∀ x c,X.env.cells.lookup x=some c->H c=none
 pin:∀ p∈X.pn++pins,s.heap.get? p.1=some p.2/\H p.1=none/\p.1≠X.env.locals/\p.1 ∉ X.fs/\∀ v,p.2.data≠.cell v
 hok:HOk X.prog X.w H s.heap
 len:σ.length=X.N.length
section
variable {X:Cx} {pins:List (Addr × Yh)} {σ:List (Option V)} {H H':Hp} {s:Uz} {h':Wc}
theorem Cx.Ok.Tz (ok:X.Ok) {b:Addr} {o:Yh} (e:X.base.get? b=some o):b ∉ X.fs:=fun hb=>by
 have:=(ok.IW.mem hb).1
 rw[e] at this; cases this
theorem Inv.bs (I:Inv X pins σ H s):∀ b o,X.base.get? b=some o->s.heap.get? b=some o/\H b=none:=fun b o e =>
 ⟨I.base.keep b o (I.ok.bs b o e).1 (I.ok.bs b o e).2 (I.ok.Tz e) (I.ok.noex b o e),I.base.free b o (I.ok.bs b o e).1 (I.ok.bs b o e).2 (I.ok.noex b o e)⟩
theorem Inv.bk (I:Inv X pins σ H s):∀ b o,X.base.get? b=some o->s.heap.get? b=some o:=fun b o e=>(I.bs b o e).1
theorem Inv.mod (I:Inv X pins σ H s):Mod X.K X.mg X.base:=I.ok.mod
theorem Inv.kIn (I:Inv X pins σ H s):X.K.In s.heap:=I.ok.mod.kin.keeps I.bk
theorem Inv.lt (I:Inv X pins σ H s):X.env.locals < s.heap.objs.size:=let ⟨_,hn,_⟩:=I.loc; hn.lt
theorem Inv.sz (I:Inv X pins σ H s):X.s₀.heap.objs.size<=s.heap.objs.size:=Wd I.ok.above (Y8 I.lt)
theorem Inv.Tu (I:Inv X pins σ H s) {a:Addr} (h:s.heap.objs.size<=a):a ∉ X.fs:=fun hb=>by
 obtain⟨_,o,ho,_⟩:=I.ok.IW.mem hb
 exact absurd (Vm (U6 ho) (Wd I.sz h)) (Xw _)
theorem Inv.cne (I:Inv X pins σ H s):∀ x c,X.env.cells.lookup x=some c->c≠X.env.locals:=fun x c e z=>by
 obtain⟨v,o,ho,hd⟩:=I.cell x c e
 obtain⟨m,⟨o',es,ep,ho',hd',_⟩,_⟩:=I.loc
 rw[z,ho'] at ho; cases ho; rw[hd'] at hd; cases hd
theorem Inv.IW (I:Inv X pins σ H s):s.heap.FunFrames X.base X.outer:=by
 have all:∀ (l:List Env),(∀ b∈frs l,b∈X.fs)->X.s₀.heap.FunFrames X.base l->s.heap.FunFrames X.base l:=by
  intro l
  induction l with
  | nil=>intro _ _; trivial
  | cons env r ih =>
   intro hs hl
   obtain⟨hk,⟨L,o,hf,hn,ho,hd⟩,hr⟩:=hl
   have hL:L∈X.fs:=hs L (by unfold frs; rw[Z2,hf]; exact UW)
   obtain⟨sl,e⟩:=I.base.slot L o ho (I.ok.frf L hL) hL fun z=>I.ok.exfs L z hL
   exact⟨hk,⟨L,_,hf,hn,e,hd⟩,ih (fun b hb=>hs b (by unfold frs; rw[Z2,hf]; exact U9 _ hb)) hr⟩
 exact all X.outer (fun _ hb=>hb) I.ok.IW
theorem Inv.stack (I:Inv X pins σ H s):s.heap.FunFrames X.base X.stack:=by
 rcases I.ok.stk with e | ⟨e,hf⟩
 ·rw[e]; exact I.IW
 ·rw[e]
  obtain⟨m,hn,_⟩:=I.loc
  refine .cons (by rw[I.ok.kind]; decide) hf hn ?_ I.IW
  exact Heap.get?_none_of_le (Wd I.ok.bsz I.ok.above)
theorem Inv.En (I:Inv X pins σ H s):∀ b∈frs X.stack,b∈X.env.locals::X.fs:=fun b hb=>by
 rcases I.ok.stk with e | ⟨e,hf⟩
 ·rw[e] at hb; exact U9 _ hb
 ·rw[e] at hb
  unfold frs at hb
  rw[Z2,hf] at hb
  exact hb
theorem Inv.Ej (I:Inv X pins σ H s):∀ b∈frs X.stack,H b=none:=fun b hb=>by
 rcases List.mem_cons.mp (I.En b hb) with e | hb
 ·rw[e]; exact I.free
 ·obtain⟨_,o,ho,_⟩:=I.ok.IW.mem hb
  exact I.base.free b o ho (I.ok.frf b hb) fun z=>I.ok.exfs b z hb
theorem Inv.step {g':Array GenState} {t':Nat} {d':Drawn} {ch:List Addr} (I:Inv X pins σ H s)
  (hch:∀ b∈ch,(b∈X.ex∨X.s₀.heap.objs.size<=b)/\b≠X.env.locals/\(∀ x c,X.env.cells.lookup x=some c->c≠b)/\∀ p∈X.pn++pins,p.1≠b)
  (keep:∀ b o,b≠X.env.locals->b ∉ X.fs->b ∉ ch->s.heap.get? b=some o->H b=none->h'.get? b=some o)
  (slot:∀ b o,b≠X.env.locals->b∈X.fs->b ∉ ch->s.heap.get? b=some o->H b=none->∃ sl,h'.get? b=some { o with slots:=sl }) (free:∀ b o,b ∉ ch->s.heap.get? b=some o->H b=none->H' b=none)
  (there:∀ b o,b ∉ ch->s.heap.get? b=some o->∃ o',h'.get? b=some o')
  (tups:∀ b xs,H b=some (.tup xs)->H' b=some (.tup xs)) (frzs:∀ b o u,H b=some (.frz o u)->H' b=some (.frz o u)) (tbls:∀ b ps,H b=some (.tbl ps)->∃ more,H' b=some (.tbl (ps++more)))
  (ns:∀ m,s.heap.Ns X.env.locals m->h'.Ns X.env.locals m) (hok:HOk X.prog X.w H' h') (hg:aaK g') :
  Inv X pins σ H' { s with heap:=h',gens:=g',drawn:=d',toks:=t' }:=by
 have neL:∀ b o,X.s₀.heap.get? b=some o->b≠X.env.locals:=fun b o e=>Vh (Vm (U6 e) I.ok.above)
 have neC:∀ b o,X.s₀.heap.get? b=some o->b ∉ X.ex->b ∉ ch:=fun b o e hx hb=>by
  rcases (hch b hb).1 with z | z
  ·exact hx z
  ·exact absurd (Vm (U6 e) z) (Xw _)
 have cellK:∀ x c,X.env.cells.lookup x=some c->∀ v,s.heap.IsCell c v->h'.IsCell c v:=fun x c e v ⟨o,ho,hd⟩=>by
  have nch:c ∉ ch:=fun z=>(hch c z).2.2.1 x c e rfl
  by_cases hc:c∈X.fs
  ·obtain⟨sl,q⟩:=slot c o (I.cne x c e) hc nch ho (I.freeC x c e)
   exact⟨_,q,hd⟩
  ·exact⟨o,keep c o (I.cne x c e) hc nch ho (I.freeC x c e),hd⟩
 refine⟨I.ok,I.os,hg,⟨fun b o e n hb hx=>?_,fun b o e n hb hx=>?_,fun b o e n hx=>?_,fun b o e hx=>?_,fun b xs e=>tups b xs (I.base.tups b xs e),fun b o xs e=>frzs b o xs (I.base.frzs b o xs e),fun b ps e=>?_⟩,?_,fun x c e=>?_,?_,fun x c e=>?_,fun p hp=>?_,hok,I.len⟩
 ·exact keep b o (neL b o e) hb (neC b o e hx) (I.base.keep b o e n hb hx) (I.base.free b o e n hx)
 ·obtain⟨sl,e1⟩:=I.base.slot b o e n hb hx
  obtain⟨sl',e2⟩:=slot b _ (neL b o e) hb (neC b o e hx) e1 (I.base.free b o e n hx)
  exact⟨sl',e2⟩
 ·obtain⟨o',e1⟩:=I.base.there b o e hx
  exact free b o' (neC b o e hx) e1 (I.base.free b o e n hx)
 ·obtain⟨o',e1⟩:=I.base.there b o e hx
  exact there b o' (neC b o e hx) e1
 ·obtain⟨m1,e1⟩:=I.base.tbls b ps e
  obtain⟨m2,e2⟩:=tbls b _ e1
  exact⟨m1++m2,by rw[e2,Array.append_assoc]⟩
 ·obtain⟨m,hn,hl⟩:=I.loc
  refine⟨m,ns m hn,fun i x v e1 e2 e3=>?_⟩
  obtain⟨u,r,l⟩:=hl i x v e1 e2 e3
  refine⟨u,r,?_⟩
  rcases l with l | ⟨k,c,e,z⟩
  ·exact .inl l
  ·exact .inr ⟨k,c,e,cellK x c e _ z⟩
 ·obtain⟨v,z⟩:=I.cell x c e
  exact⟨v,cellK x c e v z⟩
 ·obtain⟨m,⟨o,_,_,ho,_⟩,_⟩:=I.loc
  exact free _ o (fun z=>(hch _ z).2.1 rfl) ho I.free
 ·obtain⟨v,o,ho,hd⟩:=I.cell x c e
  exact free c o (fun z=>(hch c z).2.2.1 x c e rfl) ho (I.freeC x c e)
 ·obtain⟨e,n,ne,nf,d⟩:=I.pin p hp
  have nch:p.1 ∉ ch:=fun z=>(hch p.1 z).2.2.2 p hp rfl
  exact⟨keep p.1 p.2 ne nf nch e n,free p.1 p.2 nch e n,ne,nf,d⟩
theorem Inv.un {t':Nat} (I:Inv X pins σ H s) (u:Un X.fs [] H H' s.heap h') (hok:HOk X.prog X.w H' h'):Inv X pins σ H' { s with heap:=h',toks:=t' }:=by
 obtain⟨m,⟨o,es,ep,ho,r⟩,_⟩:=id I.loc
 obtain⟨sl,hL⟩:=u.any ho I.free (by simp)
 exact I.step (g':=s.gens) (d':=s.drawn) (ch:=[]) (fun _ z=>nomatch z) (fun b o _ hb _ e n=>u.keep b o e n hb (by simp)) (fun b o _ hb _ e n=>u.slot b o e n hb (by simp)) (fun b o _ e n=>u.free b o e n (by simp)) (fun b o _ e=>u.there b o e (by simp)) u.tups u.frzs u.tbls (fun m' hm=>by
  obtain⟨o',es',ep',ho',r'⟩:=hm
  rw[ho] at ho'; cases ho'
  exact⟨_,es',ep',hL,r'⟩) hok I.bare
theorem Inv.call {g':Array GenState} {t':Nat} {d':Drawn} {ch:List Addr} (I:Inv X pins σ H s) (u:Un (frs X.stack) ch H H' s.heap h') (hok:HOk X.prog X.w H' h') (hg:aaK g')
  (hch:∀ b∈ch,(b∈X.ex∨X.s₀.heap.objs.size<=b)/\b≠X.env.locals/\(∀ x c,X.env.cells.lookup x=some c->c≠b)/\∀ p∈X.pn++pins,p.1≠b) :
  Inv X pins σ H' { s with heap:=h',gens:=g',drawn:=d',toks:=t' }:=by
 obtain⟨m,⟨o,es,ep,ho,r⟩,_⟩:=id I.loc
 obtain⟨sl,hL⟩:=u.any ho I.free fun z=>(hch _ z).2.1 rfl
 exact I.step (ch:=ch) hch (fun b o hL hb hc e n=>u.keep b o e n (fun z=>(List.mem_cons.mp (I.En b z)).elim hL hb) hc) (fun b o _ _ hc e n=>u.any e n hc) (fun b o hc e n=>u.free b o e n hc) (fun b o hc e=>u.there b o e hc) u.tups u.frzs u.tbls (fun m' hm=>by
  obtain⟨o',es',ep',ho',r'⟩:=hm
  rw[ho] at ho'; cases ho'
  exact⟨_,es',ep',hL,r'⟩) hok hg
theorem Inv.turned {t':Nat} {it:Addr} (I:Inv X pins σ H s) (k:∀ b o,b≠it->s.heap.get? b=some o->h'.get? b=some o) (hn:H it=none) (hL:it≠X.env.locals)
  (h1:it∈X.ex∨X.s₀.heap.objs.size<=it) (h2:∀ x c,X.env.cells.lookup x=some c->c≠it) (h3:∀ p∈X.pn++pins,p.1≠it):Inv X pins σ H { s with heap:=h',toks:=t' }:=by
 have nit:∀ b u,H b=some u->b≠it:=fun b u e z=>by rw[z,hn] at e; cases e
 refine I.step (g':=s.gens) (d':=s.drawn) (ch:=[it]) (fun b hb=>?_) (fun b o _ _ hc e _=>k b o (fun z=>hc (by simp [z])) e) (fun b o _ _ hc e _=>⟨o.slots,k b o (fun z=>hc (by simp [z])) e⟩) (fun _ _ _ _ n=>n)
  (fun b o hc e=>⟨o,k b o (fun z=>hc (by simp [z])) e⟩) (fun _ _ e=>e) (fun _ _ _ e=>e) (fun b ps e=>⟨#[],by rw[e]; simp⟩) (fun m hm=>?_) (fun b u e=>?_) I.bare
 ·have e:b=it:=by simpa using hb
  subst e
  exact⟨h1,hL,h2,h3⟩
 ·obtain⟨o,es,ep,ho,r⟩:=hm
  exact⟨o,es,ep,k _ o (YG hL) ho,r⟩
 ·refine (I.hok b u e).stay (fun c v hc q=>k c v ?_ q) (fun _ q=>q) fun _ _ q=>q
  rcases hc with z | z
  ·rw[z]; exact nit b u e
  ·exact nit c _ z
theorem Inv.tok (I:Inv X pins σ H s) (t:Nat):Inv X pins σ H { s with toks:=t }:=I.un (h':=s.heap) (t':=t) Un.refl I.hok
theorem Inv.kept {t':Nat} (I:Inv X pins σ H s) (k:∀ b u,s.heap.get? b=some u->h'.get? b=some u):Inv X pins σ H { s with heap:=h',toks:=t' }:=I.un (Un.kept k) (I.hok.kept k)
theorem Inv.laid {a:Addr} {o:HO} {t':Nat} (I:Inv X pins σ H s) (k:∀ b u,s.heap.get? b=some u->h'.get? b=some u) (hp:s.heap.objs.size<=a) (new:fB X.prog X.w (upd H a o) h' a o) :
  Inv X pins σ (upd H a o) { s with heap:=h',toks:=t' }:=I.un (Un.laid k hp (I.hok.fresh hp)) (I.hok.laid k hp new)
theorem Inv.write {x e:Addr} {o:HO} {t':Nat} (I:Inv X pins σ H s) (mu:Mut (H x)) (he:e=x∨H e=some (.own x)) (k:∀ b u,b≠e->s.heap.get? b=some u->h'.get? b=some u) (heo:∃ u,h'.get? e=some u)
  (new:fB X.prog X.w (upd H x o) h' x o):Inv X pins σ (upd H x o) { s with heap:=h',toks:=t' }:=I.un (Un.write mu he k heo) (I.hok.write mu he k heo new)
theorem Inv.HX {pins':List (Addr × Yh)} (I:Inv X pins σ H s) (h:∀ p∈pins',s.heap.get? p.1=some p.2/\H p.1=none/\p.1≠X.env.locals/\p.1 ∉ X.fs/\∀ v,p.2.data≠.cell v):Inv X pins' σ H s :=
 ⟨I.ok,I.os,I.bare,I.base,I.loc,I.cell,I.free,I.freeC,fun p hp=>(List.mem_append.mp hp).elim (fun z=>I.pin p (aa0 _ z)) (h p),I.hok,I.len⟩
theorem zJ {N:List Wz} (hN:N.Nodup) {i j:Nat} {x:Wz} (a:N[i]? = some x) (b:N[j]? = some x):i=j:=by
 obtain⟨h1,e1⟩:=List.getElem?_eq_some_iff.mp a
 obtain⟨h2,e2⟩:=List.getElem?_eq_some_iff.mp b
 exact (abK hN).mp (e1.trans e2.symm)
theorem vH {M:Model} {A:VR} {E:Value->Uz->Prop} {i:Nat} {x:Wz} {v:V} {u:Value} {Q:Unit->Uz->Prop} (I:Inv X pins σ H s) (hN:X.N.Nodup) (hi:X.N[i]? = some x) (hx:Loc X.env.scope x) (r:RelV v u)
  (h:∀ s',Inv X pins (σ.set i (some v)) H s'->(∃ a,Xm a s.heap s'.heap/\(a=X.env.locals∨X.env.cells.lookup x=some a))->Q () s') (hf:X.fn x=true∨X.env.scope.names.lookup x=some .local:=by first | exact .inl rfl | exact .inr rfl | assumption):U4 M A (storeName X.env x u) Q E s:=by
 obtain⟨m,hn,hl⟩:=id I.loc
 have hcls:(X.env.scope.kind == .class || (X.env.scope.kind == .module && X.env.locals != X.env.globals))=false:=by rw[I.ok.kind]; rfl
 have hiσ:i < σ.length:=by rw[I.len]; exact (List.getElem?_eq_some_iff.mp hi).1
 have cne:=I.cne
 have tracked:∀ {a:Addr} {h':Wc},(∃ o,s.heap.get? a=some o/\H a=none)->Xm a s.heap h'->HOk X.prog X.w H h':=fun {a h'} ha hs b ob e=>by
  obtain⟨_,_,hfree⟩:=ha
  refine (I.hok b ob e).stay (fun c w' hc q=>(hs.2 c ?_).trans q) (fun _ q=>q) fun _ _ q=>q
  rintro rfl
  rcases hc with rfl | hc
  ·rw[hfree] at e; cases e
  ·rw[hfree] at hc; cases hc
 rcases hx with hk | hk
 ·refine wpAny_storeName_local hk hn (fun h' hn' hs=>?_) hcls
  obtain⟨oL,_,_,hoL,_⟩:=id hn
  refine h _ ⟨I.ok,I.os,I.bare,⟨fun b o e n hb hx=>?_,fun b o e n hb hx=>?_,I.base.free,fun b o e hx=>?_,I.base.tups,I.base.frzs,I.base.tbls⟩,⟨_,hn',fun j y v' e1 e2 e3=>?_⟩,fun y c e=>?_,I.free,I.freeC,fun p hp=>?_,tracked ⟨oL,hoL,I.free⟩ hs,by simpa using I.len⟩ ⟨_,hs,.inl rfl⟩
  ·exact (hs.2 b (Vh (Vm (U6 e) I.ok.above))).trans (I.base.keep b o e n hb hx)
  ·obtain⟨sl,e1⟩:=I.base.slot b o e n hb hx
   exact⟨sl,(hs.2 b (Vh (Vm (U6 e) I.ok.above))).trans e1⟩
  ·obtain⟨o',e1⟩:=I.base.there b o e hx
   exact⟨o',(hs.2 b (Vh (Vm (U6 e) I.ok.above))).trans e1⟩
  ·by_cases hj:j=i
   ·subst hj
    rw[hi] at e1; cases e1
    rw[ZC hiσ] at e2
    cases e2
    exact⟨u,r,.inl ⟨hk,by simp⟩⟩
   ·rw[aa1 (YG hj)] at e2
    obtain⟨u',r',q⟩:=hl j y v' e1 e2 e3
    refine⟨u',r',?_⟩
    rcases q with⟨k,e⟩ | ⟨k,c,e,z⟩
    ·refine .inl ⟨k,?_⟩
     have:y≠x:=fun e=>hj (zJ hN e1 (e▸hi))
     simp [this,e]
    ·exact .inr ⟨k,c,e,z.sameBut hs (cne y c e)⟩
  ·obtain⟨w',z⟩:=I.cell y c e
   exact⟨w',z.sameBut hs (cne y c e)⟩
  ·obtain⟨e,n,ne,nf,d⟩:=I.pin p hp
   exact⟨(hs.2 p.1 ne).trans e,n,ne,nf,d⟩
 ·have hfn:X.fn x=true:=by
   rcases hf with z | z
   ·exact z
   ·rw[z] at hk; cases hk
  obtain⟨c,hc⟩:=I.ok.has x (.inl hk)
  obtain⟨w',z⟩:=I.cell x c hc
  refine wpAny_storeName_cell I.ok.kind hk hc z (fun h' hc' hs=>?_)
  obtain⟨oc,hoc,hocd⟩:=id z
  refine h { s with heap:=h' } ⟨I.ok,I.os,I.bare,⟨fun b o e n hb hx=>?_,fun b o e n hb hx=>?_,I.base.free,fun b o e hx=>?_,I.base.tups,I.base.frzs,I.base.tbls⟩,⟨m,hn.sameBut hs (YG (cne x c hc)),fun j y v' e1 e2 e3=>?_⟩,fun y c' e=>?_,I.free,I.freeC,fun p hp=>?_,tracked ⟨oc,hoc,I.freeC x c hc⟩ hs,by simpa using I.len⟩ ⟨c,hs,.inr hc⟩
  ·exact (hs.2 b (Vh (Vm (U6 e) (I.ok.cab x c hfn hc)))).trans (I.base.keep b o e n hb hx)
  ·obtain⟨sl,e1⟩:=I.base.slot b o e n hb hx
   exact⟨sl,(hs.2 b (Vh (Vm (U6 e) (I.ok.cab x c hfn hc)))).trans e1⟩
  ·obtain⟨o',e1⟩:=I.base.there b o e hx
   exact⟨o',(hs.2 b (Vh (Vm (U6 e) (I.ok.cab x c hfn hc)))).trans e1⟩
  ·by_cases hj:j=i
   ·subst hj
    rw[hi] at e1; cases e1
    rw[ZC hiσ] at e2
    cases e2
    exact⟨u,r,.inr ⟨.inl hk,c,hc,hc'⟩⟩
   ·rw[aa1 (YG hj)] at e2
    obtain⟨u',r',q⟩:=hl j y v' e1 e2 e3
    refine⟨u',r',?_⟩
    rcases q with q | ⟨k,c',e,z'⟩
    ·exact .inl q
    ·refine .inr ⟨k,c',e,z'.sameBut hs ?_⟩
     rintro rfl
     exact hj (zJ hN e1 (I.ok.inj _ _ _ e hc▸hi))
  ·by_cases hcc:c'=c
   ·subst hcc; exact⟨_,hc'⟩
   ·obtain⟨w2,z2⟩:=I.cell y c' e
    exact⟨w2,z2.sameBut hs hcc⟩
  ·obtain⟨e,n,ne,nf,d⟩:=I.pin p hp
   refine⟨(hs.2 p.1 ?_).trans e,n,ne,nf,d⟩
   intro q
   rw[q,hoc] at e
   have q':oc=p.2:=VF e
   exact d w' (by rw[← q']; exact hocd)
theorem Ay {M:Model} {A:VR} {E:Value->Uz->Prop} {i:Nat} {x:Wz} {v:V} {u:Value} {Q:Unit->Uz->Prop} (I:Inv X pins σ H s) (hN:X.N.Nodup) (hi:X.N[i]? = some x) (hx:Loc X.env.scope x) (r:RelV v u)
  (h:∀ s',Inv X pins (σ.set i (some v)) H s'->Q () s') (hf:X.fn x=true∨X.env.scope.names.lookup x=some .local:=by first | exact .inl rfl | exact .inr rfl | assumption):U4 M A (storeName X.env x u) Q E s :=
 vH I hN hi hx r (fun s' I' _=>h s' I') hf
theorem Inv.call' {s':Uz} {ch:List Addr} (I:Inv X pins σ H s) (ho:s'.os=s.os) (u:Un (frs X.stack) ch H H' s.heap s'.heap) (hok:HOk X.prog X.w H' s'.heap) (hg:aaK s'.gens)
  (hch:∀ b∈ch,(b∈X.ex∨X.s₀.heap.objs.size<=b)/\b≠X.env.locals/\(∀ x c,X.env.cells.lookup x=some c->c≠b)/\∀ p∈X.pn++pins,p.1≠b):Inv X pins σ H' s':=by
 obtain⟨h',g',d',t',o'⟩:=s'
 have e:o'=s.os:=ho
 subst e
 exact I.call (g':=g') (t':=t') (d':=d') u hok hg hch
end
abbrev XK:=Value->Option Addr->Hp->Prop
abbrev St:=List (Option V)
abbrev VK:=V->Hp->Prop
abbrev TE:=St->Hp->VK->Prop
abbrev TT:=St->Hp->(Bool->Hp->Prop)->Prop
abbrev TA:=St->Hp->(List V->Hp->Prop)->Prop
structure Ends where
 nx:St->Hp->Prop
 rt:VK
 bk:St->Hp->Prop:=fun _ _=>False
 ct:St->Hp->Prop:=fun _ _=>False
abbrev TS:=Ends->St->Hp->Prop
inductive EP (X:Cx) (pins:List (Addr × Yh)) (σ:St) (Q:VK) (u:Value) (s':Uz):Prop where
 | mk (v:V) (H':Hp) (z0:Inv X pins σ H' s') (z1:RelV v u) (z2:Q v H'):EP X pins σ Q u s'
def TP (X:Cx) (pins:List (Addr × Yh)) (σ:St) (Q:Bool->Hp->Prop) (b:Bool) (s':Uz):Prop:=∃ H',Inv X pins σ H' s'/\Q b H'
inductive AP (X:Cx) (pins:List (Addr × Yh)) (σ:St) (Q:List V->Hp->Prop) (us:List Value) (s':Uz):Prop where
 | mk (vs:List V) (H':Hp) (z0:Inv X pins σ H' s') (z1:Vals vs us) (z2:Q vs H'):AP X pins σ Q us s'
def SP (X:Cx) (pins:List (Addr × Yh)) (D:Ends) (f:Flow) (s':Uz):Prop :=
 match f with
 | .next=>∃ σ' H',Inv X pins σ' H' s'/\D.nx σ' H'
 | .brk=>∃ σ' H',Inv X pins σ' H' s'/\D.bk σ' H'
 | .cont=>∃ σ' H',Inv X pins σ' H' s'/\D.ct σ' H'
 | .ret u=>∃ v σ' H',Inv X pins σ' H' s'/\RelV v u/\D.rt v H'
def PE (X:Cx) (e:Expr) (t:TE):Prop :=
 ∀ (pins:List (Addr × Yh)) (s:Uz) (σ:St) (H:Hp) (Q:VK),Inv X pins σ H s->t σ H Q->U4 (Vk X.prog X.w) X.A (X7 e X.env) (EP X pins σ Q) X.xe s
def PT (X:Cx) (e:Expr) (t:TT):Prop :=
 ∀ (pins:List (Addr × Yh)) (s:Uz) (σ:St) (H:Hp) (Q:Bool->Hp->Prop),Inv X pins σ H s->t σ H Q->U4 (Vk X.prog X.w) X.A (isTrue e X.env (X7 e X.env)) (TP X pins σ Q) X.xe s
def PW (X:Cx) (e:Expr) (t:TT):Prop :=
 ∀ (whole:Sem Value) (pins:List (Addr × Yh)) (s:Uz) (σ:St) (H:Hp) (Q:Bool->Hp->Prop),Inv X pins σ H s->t σ H Q->U4 (Vk X.prog X.w) X.A (isTrue e X.env whole) (TP X pins σ Q) X.xe s
theorem PW.pt {X:Cx} {e:Expr} {t:TT} (h:PW X e t):PT X e t:=h _
def PA (X:Cx) (es:List Expr) (t:TA):Prop :=
 ∀ (pos:ZG) (pins:List (Addr × Yh)) (s:Uz) (σ:St) (H:Hp) (Q:List V->Hp->Prop),Inv X pins σ H s->t σ H Q->U4 (Vk X.prog X.w) X.A (spliced (ZL pos (V4 es X.env))) (AP X pins σ Q) X.xe s
def PS (X:Cx) (st:Stmt) (t:TS):Prop :=
 ∀ (pins:List (Addr × Yh)) (s:Uz) (σ:St) (H:Hp) (D:Ends),Inv X pins σ H s->t D σ H->U4 (Vk X.prog X.w) X.A (exec st X.env) (SP X pins D) X.xe s
def PSs (X:Cx) (st:List Stmt) (t:TS):Prop :=
 ∀ (pins:List (Addr × Yh)) (s:Uz) (σ:St) (H:Hp) (D:Ends),Inv X pins σ H s->t D σ H->U4 (Vk X.prog X.w) X.A (execs st X.env) (SP X pins D) X.xe s
theorem thn {α:Type} {t:Sem α} {Q Q':α->Uz->Prop} {M:Model} {A:VR} {E:Value->Uz->Prop} {s:Uz} (h:U4 M A t Q E s) (hQ:∀ a s,Q a s->Q' a s):U4 M A t Q' E s:=Xj h hQ fun _ _ x=>x
end L2
namespace L2
open PySem PySem.Spec PyProof.Rows
section
variable {X:Cx}
inductive ExB (x:V) (P:Bool->Prop):Prop where
 | mk (c:Bool) (z0:x = .bl c) (z1:P c):ExB x P
inductive Rb (i:Nat) (σ:St) (H:Hp) (Q:VK):Prop where
 | mk (v:V) (z0:σ[i]? = some (some v)) (z1:Q v H):Rb i σ H Q
def xr (i:Nat):TE:=fun σ H Q=>Rb i σ H Q
def tC (v:V):TE:=fun _ H Q=>Q v H
theorem Rm {i:Nat} {x:Wz} {pos:ZG} (hN:X.N[i]? = some x) (hv:Vis X.env.scope x) (hd:(x == ("__debug__" : Wz))=false:=by decide) (hcd:(x == ("__classdict__" : Wz))=false:=by decide):PE X (.Name x pos) (xr i):=by
 intro pins s σ H Q I h
 obtain⟨v,e,h⟩:=h
 obtain⟨m,hn,hl⟩:=I.loc
 obtain⟨u,r,l⟩:=hl i x v hN e hv
 have fin:EP X pins σ Q u s:=⟨v,H,I,r,h⟩
 rcases l with⟨hk,hm⟩ | ⟨hk,c,hc,hcell⟩
 ·exact wpAny_Name (wpAny_loadName_local I.ok.kind hk hn hm fin) hd
 ·rcases hk with hk | hk
  ·exact wpAny_Name (wpAny_loadName_cell I.ok.kind hk hc hcell fin) hd
  ·exact wpAny_Name (wpAny_loadName_free I.ok.kind hk hc hcell fin hcd) hd
theorem aA {i j pos}:PE X (.Constant (.int i) j pos) (tC (.int i)):=fun _ _ _ H _ I h=>wpAny_Constant_int ⟨.int i,H,I.tok _,⟨_,rfl⟩,h⟩
theorem lK {b j pos}:PE X (.Constant (.bool b) j pos) (tC (.bl b)):=fun _ _ _ H _ I h=>Constant_bool ⟨.bl b,H,I,rfl,h⟩
theorem Rg {j pos}:PE X (.Constant .none j pos) (tC .non):=fun _ _ _ H _ I h=>Constant_none ⟨.non,H,I,rfl,h⟩
theorem cC {x j pos}:PE X (.Constant (.str x) j pos) (tC (.str x)):=fun _ _ _ H _ I h=>Calls.Constant_str ⟨.str x,H,I.tok _,⟨_,rfl⟩,h⟩
def Gl (X:Cx) (x:Wz):Prop:=X.env.kindOf x=some .globalImplicit
theorem O6 {E:Value->Uz->Prop} {pins:List (Addr × Yh)} {s:Uz} {σ:St} {H:Hp} {x:Wz} {u:Value} {pos:ZG} {Q:Value->Uz->Prop} (I:Inv X pins σ H s) (hg:Gl X x) (hm:X.mg x=some u) (h:Q u s)
  (hd:(x == ("__debug__" : Wz))=false:=by decide):U4 (Vk X.prog X.w) X.A (X7 (.Name x pos) X.env) Q E s :=
 Calls.Name_function_global I.ok.kind hg (Calls.loadGlobal_global (by rw[I.ok.glob]; exact I.mod.glob.keeps I.bk) hm h) hd
theorem iK {E:Value->Uz->Prop} {pins:List (Addr × Yh)} {s:Uz} {σ:St} {H:Hp} {x:Wz} {u:Value} {pos:ZG} {Q:Value->Uz->Prop} (I:Inv X pins σ H s) (hg:Gl X x) (hm:X.mg x=none) (hv:Wj x=some u) (h:Q u s)
  (hn:x≠"__name__":=by decide) (hd:(x == ("__debug__" : Wz))=false:=by decide):U4 (Vk X.prog X.w) X.A (X7 (.Name x pos) X.env) Q E s:=by
 obtain⟨mb,h1,h2⟩:=I.mod.blt
 exact Calls.Name_function_global I.ok.kind hg (Calls.loadGlobal_builtin (by rw[I.ok.glob]; exact I.mod.glob.keeps I.bk) hm (by rw[I.ok.blt]; exact h1.keeps I.bk) ((h2 x hn).trans hv) h) hd
theorem MP {x:Wz} {v:V} {u:Value} {pos:ZG} (hg:Gl X x) (hm:X.mg x=none) (hv:Wj x=some u) (r:RelV v u) (hn:x≠"__name__":=by decide) (hd:(x == ("__debug__" : Wz))=false:=by decide):PE X (.Name x pos) (tC v) :=
 fun _ _ _ H _ I h=>iK I hg hm hv ⟨v,H,I,r,h⟩ hn hd
variable {a b:Expr} {ta tb:TE} {pos:ZG}
def PC (X:Cx) (op:CmpOp) (a b:Expr) (t:TE):Prop :=
 ∀ (pins:List (Addr × Yh)) (s:Uz) (σ:St) (H:Hp) (Q:VK),Inv X pins σ H s->t σ H Q →
  U4 (Vk X.prog X.w) X.A (X7 a X.env) (fun v s₁=>U4 (Vk X.prog X.w) X.A (X7 b X.env) (fun u s₂=>U4 (Vk X.prog X.w) X.A (Xa op v u) (EP X pins σ Q) X.xe s₂) X.xe s₁) X.xe s
theorem Bk (b:Expr) {op:CmpOp} (h:op≠.In) (h2:op≠.NotIn):Yx op b=false:=by
 have e1:(op == CmpOp.In)=false:=by cases op <;> first | rfl | exact absurd rfl h
 have e2:(op == CmpOp.NotIn)=false:=by cases op <;> first | rfl | exact absurd rfl h2
 cases b <;> simp [Yx,e1,e2]
def Tj (ta:TE):TE:=fun σ H Q=>ta σ H fun x H1=>Q (.bl (decide (x = .non))) H1
theorem RelV.Jo {x:V} {v:Value} (r:RelV x v):(v == VB)=decide (x = .non):=by
 cases x with
 | non=>cases r; rfl
 | bl _=>cases r; rfl
 | int _=>obtain⟨t,rfl⟩:=r; rfl
 | str _=>obtain⟨t,rfl⟩:=r; rfl
 | byt _=>obtain⟨t,rfl⟩:=r; rfl
 | flt _=>obtain⟨t,rfl⟩:=r; rfl
 | ref _=>cases r; rfl
 | ty _=>cases r; rfl
theorem Ld {j pos'} (ha:PE X a ta):PC X .Is a (.Constant .none j pos') (Tj ta):=by
 intro pins s σ H Q I h
 refine thn (ha pins s σ H _ I h) fun v s1 ⟨x,H1,I1,r1,q1⟩=>?_
 exact Constant_none (is_none_gen ⟨.bl _,H1,I1,by rw[r1.Jo]; rfl,q1⟩)
def tB (t:TE):TT:=fun σ H Q=>t σ H fun x H1=>ExB x fun c=>Q c H1
theorem QL {op:CmpOp} {t:TE} (h:PC X op a b t) (h1:Yx op b=false:=by first | exact Bk _ (by decide) (by decide) | rfl):PE X (.Compare a [op] [b] pos) t:=fun pins s σ H Q I hw=>wpAny_Compare1 (h pins s σ H Q I hw) h1
theorem Fo {op:CmpOp} {t:TE} (h:PC X op a b t) (h1:Yx op b=false:=by first | exact Bk _ (by decide) (by decide) | rfl):PT X (.Compare a [op] [b] pos) (tB t):=by
 intro pins s σ H Q I hw
 refine wpAny_isTrue_Compare1 (thn (h pins s σ H _ I hw) fun v s1 h1=>thn h1 fun u s2 h2=>thn h2 fun c s3 ⟨x,H1,I1,r1,q1⟩=>?_) h1
 obtain⟨d,rfl,q⟩:=q1
 cases r1
 exact Xh ⟨H1,I1,q⟩
theorem jQ {e:Expr} {t:TE} (h:PE X e t) (he:∀ whole,isTrue e X.env whole=(do let v ← whole; standAt e.pos; holding [v] (truthy v)):=by intro _; rfl):PT X e (tB t):=by
 intro pins s σ H Q I hw
 refine isTrue_plain (thn (h pins s σ H _ I hw) fun v s1 ⟨x,H1,I1,r1,q1⟩=>?_) (he _)
 obtain⟨d,rfl,q⟩:=q1
 cases r1
 exact Xh ⟨H1,I1,q⟩
variable {tA tB':TT} {rest:List Expr}
def SX (t u:TT):TT:=fun σ H Q=>t σ H fun c H1=>if c=true then u σ H1 Q else Q false H1
def tOr (t u:TT):TT:=fun σ H Q=>t σ H fun c H1=>if c=true then Q true H1 else u σ H1 Q
def Uj (t:TT):TT:=fun σ H Q=>t σ H fun c H1=>Q (!c) H1
theorem pH (ha:PT X a tA):PW X (.BoolOp .And [a] pos) tA:=by
 intro wh pins s σ H Q I h
 refine isTrue_and (thn (ha pins s σ H Q I h) fun c s1 e=>?_)
 cases c with
 | true=>exact isTrue_and_nil e
 | false=>exact e
theorem HQ (ha:PT X a tA):PW X (.BoolOp .Or [a] pos) tA:=by
 intro wh pins s σ H Q I h
 refine isTrue_or (thn (ha pins s σ H Q I h) fun c s1 e=>?_)
 cases c with
 | false=>exact isTrue_or_nil e
 | true=>exact e
theorem wG (ha:PT X a tA) (hb:PW X (.BoolOp .And (b::rest) pos) tB'):PW X (.BoolOp .And (a::b::rest) pos) (SX tA tB'):=by
 intro wh pins s σ H Q I h
 refine isTrue_and (thn (ha pins s σ H _ I h) fun c s1 ⟨H1,I1,q1⟩=>?_)
 cases c with
 | true=>exact hb wh pins s1 σ H1 Q I1 q1
 | false=>exact⟨H1,I1,q1⟩
theorem JZ (ha:PT X a tA) (hb:PW X (.BoolOp .Or (b::rest) pos) tB'):PW X (.BoolOp .Or (a::b::rest) pos) (tOr tA tB'):=by
 intro wh pins s σ H Q I h
 refine isTrue_or (thn (ha pins s σ H _ I h) fun c s1 ⟨H1,I1,q1⟩=>?_)
 cases c with
 | true=>exact⟨H1,I1,q1⟩
 | false=>exact hb wh pins s1 σ H1 Q I1 q1
theorem zP (ha:PT X a tA):PT X (.UnaryOp .Not a pos) (Uj tA):=by
 intro pins s σ H Q I h
 exact isTrue_not (ha pins s σ H (fun c H1=>Q (!c) H1) I h)
def Sy (ta tb:TE):TE:=fun σ H Q=>ta σ H fun x H1=>ExB x fun c=>if c=true then tb σ H1 Q else Q (.bl false) H1
def Tf (ta tb:TE):TE:=fun σ H Q=>ta σ H fun x H1=>ExB x fun c=>if c=true then Q (.bl true) H1 else tb σ H1 Q
theorem vX {op} {t:TE} (h:PE X a t):PE X (.BoolOp op [a] pos) t:=fun pins s σ H Q I hw=>BoolOp_one (h pins s σ H Q I hw)
theorem wN (ha:PE X a ta) (hb:PE X (.BoolOp .And (b::rest) pos) tb):PE X (.BoolOp .And (a::b::rest) pos) (Sy ta tb):=by
 intro pins s σ H Q I h
 refine BoolOp_and (thn (ha pins s σ H _ I h) fun v s1 ⟨x,H1,I1,r1,q1⟩=>?_)
 obtain⟨c,rfl,q1⟩:=q1
 cases r1
 refine Xh ?_
 cases c with
 | true=>exact hb pins s1 σ H1 Q I1 q1
 | false=>exact⟨.bl false,H1,I1,rfl,q1⟩
theorem RJ (ha:PE X a ta) (hb:PE X (.BoolOp .Or (b::rest) pos) tb):PE X (.BoolOp .Or (a::b::rest) pos) (Tf ta tb):=by
 intro pins s σ H Q I h
 refine BoolOp_or (thn (ha pins s σ H _ I h) fun v s1 ⟨x,H1,I1,r1,q1⟩=>?_)
 obtain⟨c,rfl,q1⟩:=q1
 cases r1
 refine Xh ?_
 cases c with
 | false=>exact hb pins s1 σ H1 Q I1 q1
 | true=>exact⟨.bl true,H1,I1,rfl,q1⟩
def tIf (t:TT) (ta tb:TE):TE:=fun σ H Q=>t σ H fun c H1=>if c=true then ta σ H1 Q else tb σ H1 Q
theorem zT {c:Expr} (hc:PT X c tA) (ha:PE X a ta) (hb:PE X b tb):PE X (.IfExp c a b pos) (tIf tA ta tb):=by
 intro pins s σ H Q I h
 refine wpAny_IfExp (thn (hc pins s σ H _ I h) fun d s1 ⟨H1,I1,q1⟩=>?_)
 cases d with
 | true=>exact ha pins s1 σ H1 Q I1 q1
 | false=>exact hb pins s1 σ H1 Q I1 q1
end
end L2
namespace L2
open PySem PySem.Spec PyProof.Rows
def SqL (K:Vg) (H:Hp) (a:Addr) (xs:List V):Prop :=
 Rd H a (.lst xs) ∨
  ∃ (o:Yh) (its:Array Value) (n:Nat),K.lookup a=some o/\o.cls = .type "list"/\o.dict=none/\o.data = .seq its n/\its.size<=sizeLine/\Vals xs its.toList
def SqT (K:Vg) (H:Hp) (a:Addr) (xs:List V):Prop :=
 Rd H a (.tup xs) ∨
  ∃ (o:Yh) (its:Array Value) (n:Nat),K.lookup a=some o/\o.cls = .type "tuple"/\o.data = .seq its n/\its.size<=sizeLine/\Vals xs its.toList
def TV:Value->Option V
 | .none=>some .non
 | .bool b=>some (.bl b)
 | .int i _=>some (.int i)
 | .str x _=>some (.str x)
 | .bytes b _=>some (.byt b)
 | .float b _=>some (.flt b)
 | .ref a=>some (.ref a)
 | .type n=>some (.ty n)
 | _=>none
theorem RelV.abs {x:V} {u:Value} (r:RelV x u):TV u=some x:=by
 cases x with
 | non=>cases r; rfl
 | bl _=>cases r; rfl
 | int _=>obtain⟨t,rfl⟩:=r; rfl
 | str _=>obtain⟨t,rfl⟩:=r; rfl
 | byt _=>obtain⟨t,rfl⟩:=r; rfl
 | flt _=>obtain⟨t,rfl⟩:=r; rfl
 | ref _=>cases r; rfl
 | ty _=>cases r; rfl
theorem RelV.inj {x y:V} {u:Value} (r:RelV x u) (q:RelV y u):x=y:=VF (r.abs.symm.trans q.abs)
theorem Vals.inj:∀ {xs ys:List V} {us:List Value},Vals xs us->Vals ys us->xs=ys
 | _,_,_,.nil,.nil=>rfl
 | _,_,_,.cons r t,.cons r' t'=>by rw[r.inj r',Vals.inj t t']
section
variable {X:Cx} {pins:List (Addr × Yh)} {σ:St} {H:Hp} {s:Uz} {a:Addr} {xs ys:List V}
theorem SqL.of {K:Vg} (h:H a=some (.lst xs)):SqL K H a xs:=.inl (.inl h)
theorem SqT.of {K:Vg} (h:H a=some (.tup xs)):SqT K H a xs:=.inl (.inl h)
theorem Inv.list (I:Inv X pins σ H s) (h:SqL X.K H a xs):∃ its:List Value,Vals xs its/\PlainL s.heap a its.toArray/\xs.length<=sizeLine:=by
 rcases h with h | ⟨o,its,n,hk,hc,hd,hs,hz,r⟩
 ·obtain⟨z,its,n,r,e⟩:=h.ok I.hok
  exact⟨its,r,⟨_,n,e,rfl,rfl,rfl⟩,z⟩
 ·refine⟨its.toList,r,⟨o,n,I.kIn a o hk,hc,hd,by simpa using hs⟩,?_⟩
  have e:=r.length
  simp only[Vo] at e
  lia
theorem Inv.tuple (I:Inv X pins σ H s) (h:SqT X.K H a xs):∃ its:List Value,Vals xs its/\IsTup s.heap a its.toArray/\xs.length<=sizeLine:=by
 rcases h with h | ⟨o,its,n,hk,hc,hs,hz,r⟩
 ·obtain⟨z,its,r,p⟩:=h.ok I.hok
  exact⟨its,r,p,z⟩
 ·refine⟨its.toList,r,⟨o,I.kIn a o hk,hc,n,by simpa using hs⟩,?_⟩
  have e:=r.length
  simp only[Vo] at e
  lia
theorem Inv.oW (I:Inv X pins σ H s) (h:SqL X.K H a xs) (h':SqL X.K H a ys):xs=ys:=by
 obtain⟨its,r,⟨o,n,e,_,_,d⟩,_⟩:=I.list h
 obtain⟨its',r',⟨o',n',e',_,_,d'⟩,_⟩:=I.list h'
 rw[e] at e'; cases e'
 rw[d] at d'
 injection d' with d1 _
 have:its=its':=by simpa using congrArg Array.toList d1
 subst this
 exact r.inj r'
theorem Inv.fJ (I:Inv X pins σ H s) (h:SqT X.K H a xs) (h':SqT X.K H a ys):xs=ys:=by
 obtain⟨its,r,⟨o,e,_,n,d⟩,_⟩:=I.tuple h
 obtain⟨its',r',⟨o',e',_,n',d'⟩,_⟩:=I.tuple h'
 rw[e] at e'; cases e'
 rw[d] at d'
 injection d' with d1 _
 have:its=its':=by simpa using congrArg Array.toList d1
 subst this
 exact r.inj r'
end
abbrev Cx.wish (X:Cx) (E:Value->Uz->Prop):Cx:={ X with xe:=E }
abbrev Cx.nox (X:Cx):Cx:=X.wish fun _ _=>False
theorem Cx.Ok.wish {X:Cx} (ok:X.Ok) (E:Value->Uz->Prop):(X.wish E).Ok :=
 ⟨ok.mod,ok.kind,ok.glob,ok.blt,ok.above,ok.inj,ok.has,ok.cab,ok.hd,ok.frames,ok.stk,ok.exf,ok.bs,ok.bsz,ok.noex,ok.exfs,ok.IW,ok.frf⟩
theorem Cx.Ok.nO {X:Cx} {E:Value->Uz->Prop} (ok:(X.wish E).Ok):X.Ok :=
 ⟨ok.mod,ok.kind,ok.glob,ok.blt,ok.above,ok.inj,ok.has,ok.cab,ok.hd,ok.frames,ok.stk,ok.exf,ok.bs,ok.bsz,ok.noex,ok.exfs,ok.IW,ok.frf⟩
section
variable {X:Cx} {pins:List (Addr × Yh)} {σ:St} {H:Hp} {s:Uz} {E:Value->Uz->Prop}
theorem Inv.wish (I:Inv X pins σ H s) (E:Value->Uz->Prop):Inv (X.wish E) pins σ H s:=⟨I.ok.wish E,I.os,I.bare,I.base,I.loc,I.cell,I.free,I.freeC,I.pin,I.hok,I.len⟩
theorem Inv.nO (I:Inv (X.wish E) pins σ H s):Inv X pins σ H s:=⟨I.ok.nO,I.os,I.bare,I.base,I.loc,I.cell,I.free,I.freeC,I.pin,I.hok,I.len⟩
theorem SP.nO {D:Ends} {f:Flow} {s':Uz} (h:SP (X.wish E) pins D f s'):SP X pins D f s':=by
 cases f with
 | next=>obtain⟨σ',H',I,q⟩:=h; exact⟨σ',H',I.nO,q⟩
 | brk=>obtain⟨σ',H',I,q⟩:=h; exact⟨σ',H',I.nO,q⟩
 | cont=>obtain⟨σ',H',I,q⟩:=h; exact⟨σ',H',I.nO,q⟩
 | ret u=>obtain⟨v,σ',H',I,r,q⟩:=h; exact⟨v,σ',H',I.nO,r,q⟩
theorem PSs.nox {st:List Stmt} {t:TS} (h:PSs X.nox st t):PSs X st t:=fun pins s σ H D I hw =>
 Xj (h pins s σ H D (I.wish _) hw) (fun _ _ q=>q.nO) fun _ _ z=>YX z
end
section
variable {X:Cx} {st:Stmt} {rest:List Stmt} {t u:TS} {e:Expr} {te:TE} {pos:ZG}
def QM:TS:=fun D σ H=>D.nx σ H
def Jg (t u:TS):TS:=fun D σ H=>t { D with nx:=u D } σ H
theorem aX:PSs X [] QM:=fun _ _ σ H _ I h=>aaL ⟨σ,H,I,h⟩
theorem au (h1:PS X st t) (h2:PSs X rest u):PSs X (st::rest) (Jg t u):=by
 intro pins s σ H D I h
 refine wpAny_execs_cons (thn (h1 pins s σ H { D with nx:=u D } I h) fun f s1 q=>?_)
 cases f with
 | next =>
  obtain⟨σ',H',I',q⟩:=q
  exact h2 pins s1 σ' H' D I' q
 | ret v=>exact q
 | brk=>exact q
 | cont=>exact q
theorem aC (h1:PS X st t):PSs X [st] t:=by
 intro pins s σ H D I h
 refine wpAny_execs_cons (thn (h1 pins s σ H D I h) fun f s1 q=>?_)
 cases f with
 | next=>exact aaL q
 | ret v=>exact q
 | brk=>exact q
 | cont=>exact q
theorem Inv.quiet {pins:List (Addr × Yh)} {σ:St} {H:Hp} {s:Uz} (I:Inv X pins σ H s):interactive X.env=false:=by simp [interactive,I.ok.kind]
def Sd (te:TE):TS:=fun D σ H=>te σ H fun _ H1=>D.nx σ H1
theorem eG (he:PE X e te) (hs:swapsWith e none pos.line X.env=pure false:=by rfl):PS X (.Expr e pos) (Sd te):=by
 intro pins s σ H D I h
 exact wpAny_Expr_any (thn (he pins s σ H _ I h) fun v s1 ⟨x,H1,I1,r1,q1⟩=>⟨σ,H1,I1,q1⟩) I.quiet hs
def Th (te:TE):TS:=fun D σ H=>te σ H D.rt
theorem aM (he:PE X e te):PS X (.Return (some e) pos) (Th te):=by
 intro pins s σ H D I h
 exact wpAny_Return_some (thn (he pins s σ H _ I h) fun v s1 ⟨x,H1,I1,r1,q1⟩=>⟨x,σ,H1,I1,r1,q1⟩)
def Jr (c:TT) (t u:TS):TS:=fun D σ H=>c σ H fun b H1=>if b=true then t D σ H1 else u D σ H1
theorem bZ {c:Expr} {a b:List Stmt} {tc:TT} (hc:PT X c tc) (ha:PSs X a t) (hb:PSs X b u):PS X (.If c a b pos) (Jr tc t u):=by
 intro pins s σ H D I h
 refine wpAny_If (thn (hc pins s σ H _ I h) fun d s1 ⟨H1,I1,q1⟩=>?_)
 cases d with
 | true=>exact ha pins s1 σ H1 D I1 q1
 | false=>exact hb pins s1 σ H1 D I1 q1
def Rj:TS:=fun _ _ _=>False
theorem JQ:PS X st Rj:=fun _ _ _ _ _ _ h=>h.elim
end
abbrev TG:=V->St->Hp->(St->Hp->Prop)->Prop
abbrev TGs:=List V->St->Hp->(St->Hp->Prop)->Prop
def PG (X:Cx) (target:Expr) (t:TG):Prop :=
 ∀ (pins:List (Addr × Yh)) (s:Uz) (σ:St) (H:Hp) (v:V) (u:Value) (Q:St->Hp->Prop),Inv X pins σ H s->RelV v u->t v σ H Q →
  U4 (Vk X.prog X.w) X.A (assign target X.env u) (fun _ s'=>∃ σ' H',Inv X pins σ' H' s'/\Q σ' H') X.xe s
def PGs (X:Cx) (ts:List Expr) (t:TGs):Prop :=
 ∀ (pins:List (Addr × Yh)) (s:Uz) (σ:St) (H:Hp) (vs:List V) (us:List Value) (Q:St->Hp->Prop),Inv X pins σ H s->Vals vs us->t vs σ H Q →
  U4 (Vk X.prog X.w) X.A (assignInOrder ((ZM ts X.env).map (·.2)) us) (fun _ s'=>∃ σ' H',Inv X pins σ' H' s'/\Q σ' H') X.xe s
section
variable {X:Cx} {pos:ZG}
def Gv (i:Nat):TG:=fun v σ H Q=>Q (σ.set i (some v)) H
theorem aF {i:Nat} {x:Wz} (hN:X.N.Nodup) (hi:X.N[i]? = some x) (hx:Loc X.env.scope x) (hf:X.fn x=true∨X.env.scope.names.lookup x=some .local:=by first | exact .inl rfl | exact .inr rfl | assumption):PG X (.Name x pos) (Gv i):=by
 intro pins s σ H v u Q I r h
 exact wpAny_assign_Name (Ay I hN hi hx r (fun s' I'=>⟨_,H,I',h⟩) hf)
def Tp:TGs:=fun vs σ H Q=>vs=[]/\Q σ H
inductive Lp (t:TG) (u:TGs) (vs:List V) (σ:St) (H:Hp) (Q:St->Hp->Prop):Prop where
 | mk (v:V) (r:List V) (z0:vs=v::r) (z1:t v σ H fun σ' H'=>u r σ' H' Q):Lp t u vs σ H Q
def R9 (t:TG) (u:TGs):TGs:=fun vs σ H Q=>Lp t u vs σ H Q
theorem dF:PGs X [] Tp:=by
 intro pins s σ H vs us Q I r h
 obtain⟨e,h⟩:=h
 subst e
 cases r
 exact assignInOrder_nil ⟨σ,H,I,h⟩
theorem bw {e:Expr} {es:List Expr} {t:TG} {u:TGs} (h1:PG X e t) (h2:PGs X es u)
  (hs:(ZM (e::es) X.env).map (·.2)=assign e X.env::(ZM es X.env).map (·.2):=by rfl):PGs X (e::es) (R9 t u):=by
 intro pins s σ H vs us Q I r h
 obtain⟨v,vr,e1,h⟩:=h
 subst e1
 cases r with
 | cons r rr =>
  rw[hs]
  refine assignInOrder_cons (thn (h1 pins s σ H _ _ _ I r h) fun _ s1 ⟨σ1,H1,I1,q1⟩=>?_)
  exact h2 pins s1 σ1 H1 _ _ Q I1 rr q1
inductive Qc (K:Vg) (n:Nat) (t:TGs) (v:V) (σ:St) (H:Hp) (Q:St->Hp->Prop):Prop where
 | mk (a:Addr) (xs:List V) (z0:v = .ref a) (z1:SqT K H a xs) (z2:xs.length=n) (z3:t xs σ H Q):Qc K n t v σ H Q
def S6 (K:Vg) (n:Nat) (t:TGs):TG:=fun v σ H Q=>Qc K n t v σ H Q
theorem Q7 {es:List Expr} {k:Nat} {t:TGs} {n:Nat} (hc:X.calm=true) (h:PGs X es t)
  (hn:(ZM es X.env).length=n:=by rfl) (hst:(ZM es X.env).findIdx? (·.1)=none:=by rfl):PG X (.Tuple es k pos) (S6 X.K n t):=by
 intro pins s σ H v u Q I r hw
 obtain⟨a,xs,e1,hq,hl,hw⟩:=hw
 subst e1
 cases r
 obtain⟨its,rv,ht,hz⟩:=I.tuple hq
 refine assign_Tuple_tuple (I.ok.hd hc) ht (by simp [hn,← hl,rv.length]) hst fun h' hx=>?_
 have I1:Inv X pins σ H { s with heap:=h' }:=I.kept (t':=s.toks) fun b o e=>hx b o (Vh (U6 e)) e
 exact h pins _ σ H xs _ Q I1 (by simpa using rv) hw
def S5 (te:TE) (g:TG):TS:=fun D σ H=>te σ H fun x H1=>g x σ H1 D.nx
theorem HH {tg e:Expr} {te:TE} {g:TG} (he:PE X e te) (hg:PG X tg g) (hs:swapsWithSole [tg] e pos.line X.env=pure false:=by rfl) (hw:swappedStores [tg] e X.env=pure none:=by rfl)
  (h1:(ZM [tg] X.env).map (·.2)=[assign tg X.env]:=by rfl):PS X (.Assign [tg] e pos) (S5 te g):=by
 intro pins s σ H D I h
 refine wpAny_Assign_stores (thn (he pins s σ H _ I h) fun v s1 ⟨x,H1,I1,r1,q1⟩=>?_) hs hw
 rw[h1]
 exact thn (hg pins s1 σ H1 x v _ I1 r1 q1) fun _ s2 q=>q
theorem aP {i:Nat} {x:Wz} {e:Expr} {te:TE} {pos':ZG} (hN:X.N.Nodup) (hi:X.N[i]? = some x) (hx:Loc X.env.scope x) (he:PE X e te) (hs:swapsWith e (some (.Name x pos')) pos.line X.env=pure false:=by rfl) (hf:X.fn x=true∨X.env.scope.names.lookup x=some .local:=by first | exact .inl rfl | exact .inr rfl | assumption) :
  PS X (.Assign [.Name x pos'] e pos) (S5 te (Gv i)):=by
 intro pins s σ H D I h
 refine wpAny_Assign_Name (thn (he pins s σ H _ I h) fun v s1 ⟨y,H1,I1,r1,q1⟩=>?_) hs
 exact Ay I1 hN hi hx r1 (fun s2 I2=>⟨_,H1,I2,q1⟩) hf
end
section
variable {X:Cx} {pos:ZG}
def Ls (c:TT) (tb:TS):TS:=fun D σ H=>∃ W:Nat->St->Hp->Prop,(∃ m,W m σ H)/\∀ m σ H,W m σ H →
 c σ H fun b H1=>if b=true then ∃ N:St->Hp->Prop,(∀ σ' H',N σ' H'->∃ m',m' < m/\W m' σ' H')/\tb { D with nx:=N,ct:=N,bk:=D.nx } σ H1 else D.nx σ H1
theorem lZ {c:Expr} {body:List Stmt} {tc:TT} {tb:TS} (hp:PassesOwn (Vk X.prog X.w) X.A X.env X.xe) (hc:PT X c tc) (hb:PSs X body tb):PS X (.While c body [] pos) (Ls tc tb):=by
 intro pins s σ H D I h
 obtain⟨W,⟨m0,w0⟩,turn⟩:=h
 refine wpAny_While (codeAny_whileLoop (fun n s'=>∃ σ' H',Inv X pins σ' H' s'/\W n σ' H') ?_ m0 ⟨σ,H,I,w0⟩)
 rintro n s1 ⟨σ1,H1,I1,w1⟩
 refine Yu hp (thn (hc pins s1 σ1 H1 _ I1 (turn n σ1 H1 w1)) fun b s2 ⟨H2,I2,q2⟩=>?_)
 cases b with
 | true =>
  obtain⟨N,hN,q2⟩:=q2
  rw[if_pos rfl]
  refine Yu hp (thn (hb pins s2 σ1 H2 _ I2 q2) fun f s3 q3=>?_)
  cases f with
  | next =>
   obtain⟨σ3,H3,I3,n3⟩:=q3
   obtain⟨m',hm,w3⟩:=hN σ3 H3 n3
   exact⟨m',hm,σ3,H3,I3,w3⟩
  | cont =>
   obtain⟨σ3,H3,I3,n3⟩:=q3
   obtain⟨m',hm,w3⟩:=hN σ3 H3 n3
   exact⟨m',hm,σ3,H3,I3,w3⟩
  | brk=>exact q3
  | ret v=>exact q3
 | false =>
  rw[if_neg U5]
  exact aaL ⟨σ1,H2,I2,q2⟩
end
structure It where
 go:Nat->Hp->Prop
 yld:Nat->Hp->V->Hp->Prop
 stop:Nat->Hp->Prop
def xf (X:Cx) (pins:List (Addr × Yh)) (H:Hp) (b:Addr):Prop :=
 H b=none/\b≠X.env.locals/\b ∉ X.fs/\(b∈X.ex∨X.s₀.heap.objs.size<=b)/\(∀ x c,X.env.cells.lookup x=some c->c≠b)/\∀ p∈X.pn++pins,p.1≠b
theorem Inv.Gd {X:Cx} {pins:List (Addr × Yh)} {σ:St} {H H':Hp} {s:Uz} {b:Addr} (I:Inv X pins σ H s) (hb:s.heap.objs.size<=b) (hn:H' b=none):xf X pins H' b:=by
 refine⟨hn,WM (Vm I.lt hb),I.Tu hb,.inr (Wd I.sz hb),fun x c e z=>?_,fun p hp z=>?_⟩
 ·obtain⟨v,q⟩:=I.cell x c e
  exact absurd (Vm q.lt (by rw[z]; exact hb)) (Xw _)
 ·exact absurd (Vm (U6 (I.pin p hp).1) (by rw[z]; exact hb)) (Xw _)
structure Turn (P:Vp) (w:VP) (K:Vg) (tg:Expr) (J:It) (fp:List Addr) (it:Addr) (tn:Nat->Wc->Prop):Prop where
 mem:it∈fp
 obj:∀ i h,tn i h->∀ b∈fp,∃ o,h.get? b=some o/\∀ v,o.data≠.cell v
 keep:∀ i h h',tn i h->(∀ b∈fp,∀ o,h.get? b=some o->h'.get? b=some o)->tn i h'
 item:∀ (X:Cx),X.prog=P->X.w=w->X.K=K->X.calm=true->∀ (i:Nat) (pins:List (Addr × Yh)) (s:Uz) (σ:St) (H:Hp) (E:Value->Uz->Prop),Inv X pins σ H s->(∀ b∈fp,xf X pins H b)->tn i s.heap->J.go i H →
  U4 (Vk P w) X.A (Xy (.ref it)) (fun r s1=>∃ u,r=some u ∧
   U4 (Vk P w) X.A (aaM tg (.ref it) u) (fun _ s2=>∃ x H',Inv X pins σ H' s2/\RelV x u/\J.yld i H x H'/\tn (i+1) s2.heap/\∀ b∈fp,H' b=none) E s1) E s
 done:∀ (X:Cx),X.prog=P->X.w=w->X.K=K->X.calm=true->∀ (i:Nat) (pins:List (Addr × Yh)) (s:Uz) (σ:St) (H:Hp) (E:Value->Uz->Prop),Inv X pins σ H s->(∀ b∈fp,xf X pins H b)->tn i s.heap->J.stop i H →
  U4 (Vk P w) X.A (Xy (.ref it)) (fun r s1=>r=none/\Inv X pins σ H s1) E s
 self:∀ (A:VR) (i:Nat) (s:Uz) (Q:Value->Uz->Prop) (E:Value->Uz->Prop),tn i s.heap->Q (.ref it) s->U4 (Vk P w) A (pyIter (.ref it)) Q E s
abbrev TI:=St->Hp->(It->Hp->Prop)->Prop
def PIE (X:Cx) (pins:List (Addr × Yh)) (σ:St) (tg:Expr) (R:It->Hp->Prop) (itv:Value) (s2:Uz):Prop :=
 ∃ (it:Addr) (fp:List Addr) (tn:Nat->Wc->Prop) (J:It) (H':Hp),itv = .ref it/\Inv X pins σ H' s2/\Turn X.prog X.w X.K tg J fp it tn/\tn 0 s2.heap/\(∀ b∈fp,xf X pins H' b)/\R J H'
def PI (X:Cx) (tg iter:Expr) (wi:TI):Prop :=
 ∀ (pins:List (Addr × Yh)) (s:Uz) (σ:St) (H:Hp) (R:It->Hp->Prop),Inv X pins σ H s->wi σ H R →
  U4 (Vk X.prog X.w) X.A (X7 iter X.env) (fun v s1=>U4 (Vk X.prog X.w) X.A (pyIter v) (PIE X pins σ tg R) X.xe s1) X.xe s
theorem Kd {M : Model} {A : VR} {E : Value → Uz → Prop} {s : Uz} {tg : Expr} {it : Addr} {u : Value} {o : Yh} {n : String} {vs : Array Value} {Q : Unit → Uz → Prop} (ho : s.heap.get? it = some o) (hc : o.cls = .type n) (hd : o.data = .fields vs)
    (hn : ["enumerate", "zip", "dict_itemiterator", "dict_reverseitemiterator", "odict_iterator", "itertools.zip_longest", "itertools.pairwise"].contains n = false) (hQ : Q () s) : U4 M A (aaM tg (.ref it) u) Q E s := by
  unfold aaM
  cases tg <;> first
    | exact UJ hQ
    | (cases u <;> first
        | exact UJ hQ
        | (refine Uw (wpAny_load ho ?_)
           rw [hc, hd]
           show U4 M A (if (["enumerate", "zip", "dict_itemiterator", "dict_reverseitemiterator", "odict_iterator", "itertools.zip_longest", "itertools.pairwise"].contains n && vs[0]? == some (Wy _)) = true then _ else _) Q E s
           rw [if_neg (by intro h; rw [hn, Bool.false_and] at h; cases h)]
           exact UJ hQ))
def Itl (K:Vg) (a:Addr):It :=
 ⟨fun i H=>∃ xs x,SqL K H a xs/\xs[i]? = some x,fun i H x H'=>H'=H/\∀ xs,SqL K H a xs->xs[i]? = some x,fun i H=>∃ xs,SqL K H a xs/\xs.length<=i⟩
def Itt (K:Vg) (a:Addr):It :=
 ⟨fun i H=>∃ xs x,SqT K H a xs/\xs[i]? = some x,fun i H x H'=>H'=H/\∀ xs,SqT K H a xs->xs[i]? = some x,fun i H=>∃ xs,SqT K H a xs/\xs.length<=i⟩
def Itr (lo:Int) (n:Nat):It:=⟨fun i _=>i < n,fun i H x H'=>H'=H/\x = .int (lo+i),fun i _=>n<=i⟩
theorem Ff {P:Vp} {w:VP} {K:Vg} {tg:Expr} (a it:Addr):Turn P w K tg (Itl K a) [it] it (fun i h=>h.IsListIter it a i) where
 mem:=by simp
 obj:=fun i h st b hb=>by
  have e:b=it:=by simpa using hb
  subst e
  obtain⟨o,e,c,d⟩:=st
  exact⟨o,e,fun v z=>by rw[d] at z; cases z⟩
 keep:=fun i h h' st k=>st.at fun o e=>k it (by simp) o e
 item:=by
  intro X hP hw hK hc i pins s σ H E I hf st hg
  subst hP hw hK
  obtain⟨xs,x,hq,hx⟩:=hg
  obtain⟨its,rv,p,hz⟩:=I.list hq
  obtain⟨u,hu,ru⟩:=rv.get hx
  obtain⟨f0,f1,f2,f3,f4,f5⟩:=hf it (by simp)
  refine wpAny_pyNext_list_item st p.isList (x:=u) (by simpa using hu) fun h' st' sb=>?_
  have I1:Inv X pins σ H { s with heap:=h' }:=I.turned (t':=s.toks) (fun b o hb e=>(sb.2 b hb).trans e) f0 f1 f3 f4 f5
  obtain⟨o,e,c,d⟩:=id st'
  exact⟨u,rfl,Kd (s:={ s with heap:=h' }) e c d (by decide) ⟨x,H,I1,ru,⟨rfl,fun ys hy=>by rw[I.oW hy hq]; exact hx⟩,st',fun b hb=>(hf b hb).1⟩⟩
 done:=by
  intro X hP hw hK hc i pins s σ H E I hf st hg
  subst hP hw hK
  obtain⟨xs,hq,hx⟩:=hg
  obtain⟨its,rv,p,hz⟩:=I.list hq
  obtain⟨f0,f1,f2,f3,f4,f5⟩:=hf it (by simp)
  have hl:=rv.length
  exact wpAny_pyNext_list_end (I.ok.hd hc) st p.isList (by simp; lia) fun h' eb=>⟨rfl,I.turned (t':=s.toks) (fun b o hb e=>eb b o hb e) f0 f1 f3 f4 f5⟩
 self:=fun _ _ _ _ _ st h=>wpAny_pyIter_listiter st h
theorem CK {P:Vp} {w:VP} {K:Vg} {tg:Expr} (a it:Addr):Turn P w K tg (Itt K a) [it] it (fun i h=>h.IsTupleIter it a i) where
 mem:=by simp
 obj:=fun i h st b hb=>by
  have e:b=it:=by simpa using hb
  subst e
  obtain⟨o,e,c,d⟩:=st
  exact⟨o,e,fun v z=>by rw[d] at z; cases z⟩
 keep:=fun i h h' st k=>st.at fun o e=>k it (by simp) o e
 item:=by
  intro X hP hw hK hc i pins s σ H E I hf st hg
  subst hP hw hK
  obtain⟨xs,x,hq,hx⟩:=hg
  obtain⟨its,rv,p,hz⟩:=I.tuple hq
  obtain⟨u,hu,ru⟩:=rv.get hx
  obtain⟨f0,f1,f2,f3,f4,f5⟩:=hf it (by simp)
  refine wpAny_pyNext_tuple_item st (show s.heap.IsTuple a its.toArray from p) (x:=u) (by simpa using hu) fun h' st' sb=>?_
  have I1:Inv X pins σ H { s with heap:=h' }:=I.turned (t':=s.toks) (fun b o hb e=>(sb.2 b hb).trans e) f0 f1 f3 f4 f5
  obtain⟨o,e,c,d⟩:=id st'
  exact⟨u,rfl,Kd (s:={ s with heap:=h' }) e c d (by decide) ⟨x,H,I1,ru,⟨rfl,fun ys hy=>by rw[I.fJ hy hq]; exact hx⟩,st',fun b hb=>(hf b hb).1⟩⟩
 done:=by
  intro X hP hw hK hc i pins s σ H E I hf st hg
  subst hP hw hK
  obtain⟨xs,hq,hx⟩:=hg
  obtain⟨its,rv,p,hz⟩:=I.tuple hq
  obtain⟨f0,f1,f2,f3,f4,f5⟩:=hf it (by simp)
  have hl:=rv.length
  exact wpAny_pyNext_tuple_end (I.ok.hd hc) st (show s.heap.IsTuple a its.toArray from p) (by simp; lia) fun h' eb=>⟨rfl,I.turned (t':=s.toks) (fun b o hb e=>eb b o hb e) f0 f1 f3 f4 f5⟩
 self:=fun _ _ _ _ _ st h=>wpAny_pyIter_tupleiter st h
theorem Cd {P:Vp} {w:VP} {K:Vg} {tg:Expr} (it:Addr) (lo:Int) (n:Nat):Turn P w K tg (Itr lo n) [it] it (fun i h=>IsRangeIter h it (lo+(i:Nat) * 1) ((n:Int) - (i:Nat)) 1) where
 mem:=by simp
 obj:=fun i h st b hb=>by
  have e:b=it:=by simpa using hb
  subst e
  exact⟨_,st,fun v z=>by
   have z':Data.fields _=Data.cell v:=z
   cases z'⟩
 keep:=fun i h h' st k=>k it (by simp) _ st
 item:=by
  intro X hP hw hK hc i pins s σ H E I hf st hg
  subst hP hw hK
  obtain⟨f0,f1,f2,f3,f4,f5⟩:=hf it (by simp)
  have W:=Walks.range (prog:=X.prog) (w:=X.w) (I.ok.hd hc) it lo 1 n
  refine W.item i s _ _ hg st fun v h' tk hv st' kk=>?_
  obtain⟨t,rfl⟩:=hv
  have I1:Inv X pins σ H { s with heap:=h',toks:=tk }:=I.turned (fun b o hb e=>kk b o (by simpa using hb) e) f0 f1 f3 f4 f5
  refine⟨_,rfl,Kd (s:={ s with heap:=h',toks:=tk }) (n:="range_iterator") st' rfl rfl (by decide) ⟨.int (lo+i),H,I1,⟨t,?_⟩,⟨rfl,rfl⟩,st',fun b hb=>(hf b hb).1⟩⟩
  rw[Int.mul_one]
 done:=by
  intro X hP hw hK hc i pins s σ H E I hf st hg
  subst hP hw hK
  obtain⟨f0,f1,f2,f3,f4,f5⟩:=hf it (by simp)
  exact wpAny_pyNext_range_end (I.ok.hd hc) st (by have:n<=i:=hg; lia) fun h' eb=>⟨rfl,I.turned (t':=s.toks) (fun b o hb e=>eb b o hb e) f0 f1 f3 f4 f5⟩
 self:=fun _ _ _ _ _ st h=>wpAny_pyIter_rangeiter st h
end L2
namespace L2
open PySem PySem.Spec PyProof.Rows
section
variable {X:Cx} {tg:Expr}
def Q0 (K:Vg) (tl:TE):TI:=fun σ H R=>tl σ H fun x H1=>∃ a,x = .ref a/\(∃ xs,SqL K H1 a xs)/\R (Itl K a) H1
def Ur (K:Vg) (tl:TE):TI:=fun σ H R=>tl σ H fun x H1=>∃ a,x = .ref a/\(∃ xs,SqT K H1 a xs)/\R (Itt K a) H1
theorem dm {l:Expr} {tl:TE} (hl:PE X l tl):PI X tg l (Q0 X.K tl):=by
 intro pins s σ H R I h
 refine thn (hl pins s σ H _ I h) fun v s1 ⟨x,H1,I1,r1,q1⟩=>?_
 obtain⟨a,e,⟨xs,hq⟩,q⟩:=q1
 subst e
 cases r1
 obtain⟨its,rv,p,hz⟩:=I1.list hq
 refine Yd p.isList ?_
 refine⟨s1.heap.objs.size,[s1.heap.objs.size],_,_,H1,rfl,I1.kept (t':=s1.toks) fun b o e=>Ux _ e,Ff a _,⟨_,UT _ rfl,rfl,rfl⟩,fun b hb=>?_,q⟩
 have e:b=s1.heap.objs.size:=by simpa using hb
 subst e
 exact I1.Gd (U0 _) (I1.hok.fresh (U0 _))
theorem gO {l:Expr} {tl:TE} (hl:PE X l tl):PI X tg l (Ur X.K tl):=by
 intro pins s σ H R I h
 refine thn (hl pins s σ H _ I h) fun v s1 ⟨x,H1,I1,r1,q1⟩=>?_
 obtain⟨a,e,⟨xs,hq⟩,q⟩:=q1
 subst e
 cases r1
 obtain⟨its,rv,p,hz⟩:=I1.tuple hq
 refine Xq (show s1.heap.IsTuple a its.toArray from p) ?_
 refine⟨s1.heap.objs.size,[s1.heap.objs.size],_,_,H1,rfl,I1.kept (t':=s1.toks) fun b o e=>Ux _ e,CK a _,⟨_,UT _ rfl,rfl,rfl⟩,fun b hb=>?_,q⟩
 have e:b=s1.heap.objs.size:=by simpa using hb
 subst e
 exact I1.Gd (U0 _) (I1.hok.fresh (U0 _))
theorem Kh {pins:List (Addr × Yh)} {σ:St} {H:Hp} {s:Uz} {R:It->Hp->Prop} {E:Value->Uz->Prop} {lo hi:Int} {t u v:Tok} {tk:Nat} (I:Inv X pins σ H s) (h1 : -(2 ^ 62)<=lo) (h2:lo < 2 ^ 62) (h3 : -(2 ^ 62)<=hi) (h4:hi < 2 ^ 62)
  (q:R (Itr lo (hi - lo).toNat) H):U4 (Vk X.prog X.w) X.A (pyIter (.ref s.heap.objs.size)) (PIE X pins σ tg R) E { s with heap:=s.heap.push { cls:=.type "range",data:=.fields #[.int lo t,.int hi u,.int 1 v] },toks:=tk }:=by
 refine wpAny_pyIter_range (IsRange.new ..) (small_one h1 h2 h3 h4) ?_
 have I1:Inv X pins σ H { s with heap:=s.heap.push { cls:=.type "range",data:=.fields #[.int lo t,.int hi u,.int 1 v] },toks:=tk }:=I.kept fun b o e=>Ux _ e
 refine⟨(s.heap.push { cls:=.type "range",data:=.fields #[.int lo t,.int hi u,.int 1 v] }).objs.size,[(s.heap.push { cls:=.type "range",data:=.fields #[.int lo t,.int hi u,.int 1 v] }).objs.size],_,_,H,rfl,
  I1.kept (t':=tk) fun b o e=>Ux _ e,Cd _ lo (hi - lo).toNat,?_,fun b hb=>?_,q⟩
 ·have e1:lo+((0:Nat):Int) * 1=lo:=by simp
  have e2:(((hi - lo).toNat:Nat):Int) - ((0:Nat):Int)=Builtin.Range.rangeSize lo hi 1:=by rw[rangeSize_one]; split <;> lia
  show IsRangeIter _ _ (lo+((0:Nat):Int) * 1) ((((hi - lo).toNat:Nat):Int) - ((0:Nat):Int)) 1
  rw[e1,e2]
  exact UT _ rfl
 ·have e:b=(s.heap.push { cls:=.type "range",data:=.fields #[.int lo t,.int hi u,.int 1 v] }).objs.size:=by simpa using hb
  subst e
  exact I1.Gd (U0 _) (I1.hok.fresh (U0 _))
def RN (ta:TA):TI:=fun σ H R=>ta σ H fun vs H1=>∃ j:Int,vs=[.int j]/\-(2 ^ 62)<=j/\j < 2 ^ 62/\R (Itr 0 j.toNat) H1
theorem cg {a:Expr} {ta:TA} {p pos:ZG} (hg:Gl X "range") (hm:X.mg "range" = none) (ha:PA X [a] ta) (hs:V4 [a] X.env=[(false,X7 a X.env)]:=by rfl):PI X tg (.Call (.Name "range" p) [a] [] pos) (RN ta):=by
 intro pins s σ H R I h
 refine Call_ (iK I hg hm boot_range (Wq (thn (ha pos pins s σ H _ I h) fun us s1 ⟨vs,H1,I1,r1,q1⟩=>?_) hs rfl))
 obtain⟨j,e,q1,q2,q⟩:=q1
 subst e
 cases r1 with
 | cons r rr =>
  cases rr
  obtain⟨t,rfl⟩:=r
  exact call_range_1 (Kh I1 (by lia) (by lia) q1 q2 (by simpa using q))
def Tv (wi:TI) (g:TG) (tb:TS):TS:=fun D σ H=>wi σ H fun J H1=>∃ W:Nat->Nat->St->Hp->Prop,(∃ m,W 0 m σ H1)/\∀ i m σ H,W i m σ H →
 (J.stop i H/\D.nx σ H)∨(J.go i H/\∃ N:St->Hp->Prop,(∀ σ' H',N σ' H'->∃ m',m' < m/\W (i+1) m' σ' H')/\∀ x H',J.yld i H x H'->g x σ H' fun σ2 H2=>tb { D with nx:=N,ct:=N,bk:=D.nx } σ2 H2)
def vQ (fp:List Addr) (h:Wc):List (Addr × Yh):=fp.filterMap fun b=>(h.get? b).map fun o=>(b,o)
theorem jA {fp:List Addr} {h:Wc} {b:Addr} {o:Yh} (hb:b∈fp) (e:h.get? b=some o):(b,o)∈vQ fp h:=List.mem_filterMap.mpr ⟨b,hb,by rw[e]; rfl⟩
theorem Eg {fp:List Addr} {h:Wc} {p:Addr × Yh} (hp:p∈vQ fp h):p.1∈fp/\h.get? p.1=some p.2:=by
 obtain⟨b,hb,e⟩:=List.mem_filterMap.mp hp
 cases q:h.get? b with
 | none=>rw[q] at e; cases e
 | some o =>
  rw[q] at e
  have e':(b,o)=p:=VF e
  subst e'
  exact⟨hb,q⟩
theorem Inv.pinned {pins:List (Addr × Yh)} {σ:St} {H:Hp} {s:Uz} {fp:List Addr} (I:Inv X pins σ H s) (hf:∀ b∈fp,xf X pins H b) (ho:∀ b∈fp,∃ o,s.heap.get? b=some o/\∀ v,o.data≠.cell v):Inv X (pins++vQ fp s.heap) σ H s :=
 I.HX fun p hp=>(List.mem_append.mp hp).elim (fun z=>I.pin p (Ww _ z)) fun z=>by
  obtain⟨hb,e⟩:=Eg z
  obtain⟨f0,f1,f2,_⟩:=hf p.1 hb
  obtain⟨o,e',d⟩:=ho p.1 hb
  rw[e] at e'; cases e'
  exact⟨e,f0,f1,f2,d⟩
theorem Inv.oR {pins pl:List (Addr × Yh)} {σ:St} {H:Hp} {s:Uz} (I:Inv X (pins++pl) σ H s):Inv X pins σ H s:=I.HX fun p hp=>I.pin p (Ww _ (aa0 _ hp))
theorem di {iter:Expr} {body:List Stmt} {wi:TI} {g:TG} {tb:TS} {pos:ZG} (hp:PassesOwn (Vk X.prog X.w) X.A X.env X.xe) (hc:X.calm=true) (hi:PI X tg iter wi) (hg:PG X tg g) (hb:PSs X body tb)
  (hs:∀ x,abp iter X.env x=pure x:=by intro _; rfl):PS X (.For tg iter body [] pos) (Tv wi g tb):=by
 intro pins s σ H D I h
 refine wpAny_For (thn (hi pins s σ H _ I h) fun v s1 h1=>thn h1 fun itv s2 h2=>?_) hs
 obtain⟨it,fp,tn,J,H2,e,I2,T,st2,f2,W,⟨m0,w0⟩,turn⟩:=h2
 subst e
 have stat:∀ {H':Hp},(∀ b∈fp,H' b=none)->∀ b∈fp,xf X pins H' b:=fun hn b hb=>⟨hn b hb,(f2 b hb).2⟩
 refine codeAny_forLoop_any (fun n s'=>∃ i σ' H',Inv X pins σ' H' s'/\tn i s'.heap/\(∀ b∈fp,H' b=none)/\W i n σ' H') ?_ m0 ⟨0,σ,H2,I2,st2,fun b hb=>(f2 b hb).1,w0⟩
 rintro n s3 ⟨i,σ3,H3,I3,st3,fr3,w3⟩
 rcases turn i n σ3 H3 w3 with⟨stop,qn⟩ | ⟨go,N,hN,step⟩
 ·refine Yu hp (thn (T.done X rfl rfl rfl hc i pins s3 σ3 H3 X.xe I3 (stat fr3) st3 stop) fun r s4 ⟨hr,I4⟩=>?_)
  subst hr
  exact aaL ⟨σ3,H3,I4,qn⟩
 ·refine Yu hp (thn (T.item X rfl rfl rfl hc i pins s3 σ3 H3 X.xe I3 (stat fr3) st3 go) fun r s4 ⟨u,hr,h4⟩=>?_)
  subst hr
  refine Yu hp (thn h4 fun _ s5 ⟨x,H5,I5,r5,y5,st5,fr5⟩=>?_)
  have I5':=I5.pinned (stat fr5) (T.obj _ _ st5)
  refine Yu hp (thn (hg _ s5 σ3 H5 x u _ I5' r5 (step x H5 y5)) fun _ s6 ⟨σ6,H6,I6,q6⟩=>?_)
  refine Yu hp (thn (hb _ s6 σ6 H6 _ I6 q6) fun f s7 q7=>?_)
  have again:∀ {σ7:St} {H7:Hp},Inv X (pins++vQ fp s5.heap) σ7 H7 s7->N σ7 H7->∃ m,m < n/\∃ i σ' H',Inv X pins σ' H' s7/\tn i s7.heap/\(∀ b∈fp,H' b=none)/\W i m σ' H':=fun {σ7 H7} I7 n7=>by
   obtain⟨m',hm,w7⟩:=hN σ7 H7 n7
   refine⟨m',hm,i+1,σ7,H7,I7.oR,T.keep _ _ _ st5 fun b hb o e=>(I7.pin (b,o) (Ww _ (Ww _ (jA hb e)))).1,fun b hb=>?_,w7⟩
   obtain⟨o,e,d⟩:=T.obj _ _ st5 b hb
   exact (I7.pin (b,o) (Ww _ (Ww _ (jA hb e)))).2.1
  cases f with
  | next=>obtain⟨σ7,H7,I7,n7⟩:=q7; exact again I7 n7
  | cont=>obtain⟨σ7,H7,I7,n7⟩:=q7; exact again I7 n7
  | brk=>obtain⟨σ7,H7,I7,q7⟩:=q7; exact⟨σ7,H7,I7.oR,q7⟩
  | ret v=>obtain⟨x7,σ7,H7,I7,r7,q7⟩:=q7; exact⟨x7,σ7,H7,I7.oR,r7,q7⟩
end
theorem jE {K:Vg} {a:Addr} {xs:List V} {g:TG} {tb:TS} {D:Ends} {σ:St} {H:Hp} (Pv:Nat->St->Hp->Prop) (h0:Pv 0 σ H) (hl:∀ i σ H,i<=xs.length->Pv i σ H->SqL K H a xs)
  (hs:∀ i x σ H,xs[i]? = some x->Pv i σ H->g x σ H fun σ2 H2=>tb { D with nx:=Pv (i+1),ct:=Pv (i+1),bk:=D.nx } σ2 H2) (hd:∀ σ H,Pv xs.length σ H->D.nx σ H) :
  ∃ W:Nat->Nat->St->Hp->Prop,(∃ m,W 0 m σ H)/\∀ i m σ H,W i m σ H →
   ((Itl K a).stop i H/\D.nx σ H)∨((Itl K a).go i H/\∃ N:St->Hp->Prop,(∀ σ' H',N σ' H'->∃ m',m' < m/\W (i+1) m' σ' H')/\∀ x H',(Itl K a).yld i H x H'->g x σ H' fun σ2 H2=>tb { D with nx:=N,ct:=N,bk:=D.nx } σ2 H2):=by
 refine⟨fun i m σ H=>m=xs.length - i/\i<=xs.length/\Pv i σ H,⟨xs.length,by simp,Vr _,h0⟩,?_⟩
 rintro i m σ H ⟨rfl,hi,p⟩
 have q:=hl i σ H hi p
 by_cases hlt:i < xs.length
 ·refine .inr ⟨⟨xs,xs[i],q,by simp [hlt]⟩,Pv (i+1),fun σ' H' p'=>⟨xs.length - (i+1),by lia,rfl,hlt,p'⟩,fun x H' y=>?_⟩
  obtain⟨e,y⟩:=y
  subst e
  exact hs i x σ _ (y xs q) p
 ·have e:i=xs.length:=by lia
  subst e
  exact .inl ⟨⟨xs,q,U0 _⟩,hd σ H p⟩
theorem pG {K:Vg} {a:Addr} {xs:List V} {g:TG} {tb:TS} {D:Ends} {σ:St} {H:Hp} (Pv:Nat->St->Hp->Prop) (h0:Pv 0 σ H) (hl:∀ i σ H,i<=xs.length->Pv i σ H->SqT K H a xs)
  (hs:∀ i x σ H,xs[i]? = some x->Pv i σ H->g x σ H fun σ2 H2=>tb { D with nx:=Pv (i+1),ct:=Pv (i+1),bk:=D.nx } σ2 H2) (hd:∀ σ H,Pv xs.length σ H->D.nx σ H) :
  ∃ W:Nat->Nat->St->Hp->Prop,(∃ m,W 0 m σ H)/\∀ i m σ H,W i m σ H →
   ((Itt K a).stop i H/\D.nx σ H)∨((Itt K a).go i H/\∃ N:St->Hp->Prop,(∀ σ' H',N σ' H'->∃ m',m' < m/\W (i+1) m' σ' H')/\∀ x H',(Itt K a).yld i H x H'->g x σ H' fun σ2 H2=>tb { D with nx:=N,ct:=N,bk:=D.nx } σ2 H2):=by
 refine⟨fun i m σ H=>m=xs.length - i/\i<=xs.length/\Pv i σ H,⟨xs.length,by simp,Vr _,h0⟩,?_⟩
 rintro i m σ H ⟨rfl,hi,p⟩
 have q:=hl i σ H hi p
 by_cases hlt:i < xs.length
 ·refine .inr ⟨⟨xs,xs[i],q,by simp [hlt]⟩,Pv (i+1),fun σ' H' p'=>⟨xs.length - (i+1),by lia,rfl,hlt,p'⟩,fun x H' y=>?_⟩
  obtain⟨e,y⟩:=y
  subst e
  exact hs i x σ _ (y xs q) p
 ·have e:i=xs.length:=by lia
  subst e
  exact .inl ⟨⟨xs,q,U0 _⟩,hd σ H p⟩
theorem eF {lo:Int} {n:Nat} {g:TG} {tb:TS} {D:Ends} {σ:St} {H:Hp} (Pv:Nat->St->Hp->Prop) (h0:Pv 0 σ H)
  (hs:∀ i σ H,i < n->Pv i σ H->g (.int (lo+i)) σ H fun σ2 H2=>tb { D with nx:=Pv (i+1),ct:=Pv (i+1),bk:=D.nx } σ2 H2) (hd:∀ σ H,Pv n σ H->D.nx σ H) :
  ∃ W:Nat->Nat->St->Hp->Prop,(∃ m,W 0 m σ H)/\∀ i m σ H,W i m σ H →
   ((Itr lo n).stop i H/\D.nx σ H)∨((Itr lo n).go i H/\∃ N:St->Hp->Prop,(∀ σ' H',N σ' H'->∃ m',m' < m/\W (i+1) m' σ' H')/\∀ x H',(Itr lo n).yld i H x H'->g x σ H' fun σ2 H2=>tb { D with nx:=N,ct:=N,bk:=D.nx } σ2 H2):=by
 refine⟨fun i m σ H=>m=n - i/\i<=n/\Pv i σ H,⟨n,by simp,Vr _,h0⟩,?_⟩
 rintro i m σ H ⟨rfl,hi,p⟩
 by_cases hlt:i < n
 ·refine .inr ⟨hlt,Pv (i+1),fun σ' H' p'=>⟨n - (i+1),by lia,rfl,hlt,p'⟩,fun x H' y=>?_⟩
  obtain⟨e,y⟩:=y
  subst e y
  exact hs i σ _ hlt p
 ·have e:i=n:=by lia
  subst e
  exact .inl ⟨U0 _,hd σ H p⟩
theorem Kf {c:TT} {tb:TS} {D:Ends} {σ:St} {H:Hp} (Pv:St->Hp->Prop) (μ:St->Hp->Nat) (h0:Pv σ H)
  (hs:∀ σ H,Pv σ H->c σ H fun b H1=>if b=true then tb { D with nx:=fun σ' H'=>Pv σ' H'/\μ σ' H' < μ σ H,ct:=fun σ' H'=>Pv σ' H'/\μ σ' H' < μ σ H,bk:=D.nx } σ H1 else D.nx σ H1)
  (mono:∀ σ H Q Q',(∀ b H1,Q b H1->Q' b H1)->c σ H Q->c σ H Q'):Ls c tb D σ H:=by
 refine⟨fun m σ H=>m=μ σ H/\Pv σ H,⟨_,rfl,h0⟩,?_⟩
 rintro m σ H ⟨rfl,p⟩
 refine mono σ H _ _ (fun b H1 q=>?_) (hs σ H p)
 cases b with
 | true=>exact⟨_,fun σ' H' ⟨p',l⟩=>⟨_,l,rfl,p'⟩,q⟩
 | false=>exact q
end L2
namespace L2
open PySem PySem.Spec PyProof.Rows
abbrev R2:=V->V->Hp->VK->Prop
def OpR (X:Cx) (f:Value->Value->Sem Value) (r:R2):Prop :=
 ∀ (pins:List (Addr × Yh)) (s:Uz) (σ:St) (H:Hp) (x y:V) (v u:Value) (Q:VK),Inv X pins σ H s->RelV x v->RelV y u->r x y H Q →
  U4 (Vk X.prog X.w) X.A (f v u) (EP X pins σ Q) X.xe s
def UnR (X:Cx) (f:Value->Sem Value) (r:V->Hp->VK->Prop):Prop :=
 ∀ (pins:List (Addr × Yh)) (s:Uz) (σ:St) (H:Hp) (x:V) (v:Value) (Q:VK),Inv X pins σ H s->RelV x v->r x H Q →
  U4 (Vk X.prog X.w) X.A (f v) (EP X pins σ Q) X.xe s
def iR (X:Cx) (f:Value) (r:List V->Hp->VK->Prop):Prop :=
 ∀ (pins:List (Addr × Yh)) (s:Uz) (σ:St) (H:Hp) (xs:List V) (us:List Value) (Q:VK),Inv X pins σ H s->Vals xs us->r xs H Q →
  U4 (Vk X.prog X.w) X.A (call f us) (EP X pins σ Q) X.xe s
def tOp (r:R2) (ta tb:TE):TE:=fun σ H Q=>ta σ H fun x H1=>tb σ H1 fun y H2=>r x y H2 Q
def tUn (r:V->Hp->VK->Prop) (ta:TE):TE:=fun σ H Q=>ta σ H fun x H1=>r x H1 Q
inductive RII (C:Int->Int->Prop) (g:Int->Int->V) (x:V) (y:V) (H:Hp) (Q:VK):Prop where
 | mk (i:Int) (j:Int) (z0:x = .int i) (z1:y = .int j) (z2:C i j) (z3:Q (g i j) H):RII C g x y H Q
def rI (C:Int->Int->Prop) (g:Int->Int->V):R2:=fun x y H Q=>RII C g x y H Q
inductive S8 (g:Int->Int->V) (x:V) (y:V) (H:Hp) (Q:VK):Prop where
 | mk (i:Int) (j:Int) (z0:x = .int i) (z1:y = .int j) (z2:Q (g i j) H):S8 g x y H Q
def rI0 (g:Int->Int->V):R2:=fun x y H Q=>S8 g x y H Q
inductive RUI (g:Int->V) (x:V) (H:Hp) (Q:VK):Prop where
 | mk (i:Int) (z0:x = .int i) (z1:Q (g i) H):RUI g x H Q
def rU (g:Int->V):V->Hp->VK->Prop:=fun x H Q=>RUI g x H Q
section
variable {X:Cx} {a b c:Expr} {ta tb tc:TE} {pos:ZG}
theorem Ss (ha:PE X a ta) (hb:PE X b tb) {pins:List (Addr × Yh)} {s:Uz} {σ:St} {H:Hp} {R:V->V->Hp->Prop} (I:Inv X pins σ H s)
  (h:ta σ H fun x H1=>tb σ H1 fun y H2=>R x y H2) {Q:Value->Uz->Prop} {f:Value->Value->Sem Value}
  (hf:∀ v u s2 x y H2,Inv X pins σ H2 s2->RelV x v->RelV y u->R x y H2->U4 (Vk X.prog X.w) X.A (f v u) Q X.xe s2) :
  U4 (Vk X.prog X.w) X.A (X7 a X.env) (fun v s₁=>U4 (Vk X.prog X.w) X.A (X7 b X.env) (fun u s₂=>U4 (Vk X.prog X.w) X.A (f v u) Q X.xe s₂) X.xe s₁) X.xe s:=by
 refine thn (ha pins s σ H _ I h) fun v s1 ⟨x,H1,I1,r1,q1⟩=>?_
 refine thn (hb pins s1 σ H1 _ I1 q1) fun u s2 ⟨y,H2,I2,r2,q2⟩=>?_
 exact hf v u s2 x y H2 I2 r1 r2 q2
theorem aR {op:Operator} {r:R2} (ho:OpR X (YK op) r) (ha:PE X a ta) (hb:PE X b tb):PE X (.BinOp a op b pos) (tOp r ta tb):=by
 intro pins s σ H Q I h
 exact wpAny_BinOp (Ss ha hb I h fun v u s2 x y H2 I2 rx ry q=>ho pins s2 σ H2 x y v u Q I2 rx ry q)
theorem Ke {op:UnaryOp} {r:V->Hp->VK->Prop} (ho:UnR X (unaryOp op) r) (ha:PE X a ta):PE X (.UnaryOp op a pos) (tUn r ta):=by
 intro pins s σ H Q I h
 exact UnaryOp_ (thn (ha pins s σ H _ I h) fun v s1 ⟨x,H1,I1,r1,q1⟩=>ho pins s1 σ H1 x v Q I1 r1 q1)
theorem opI {f:Value->Value->Sem Value} {C:Int->Int->Prop} {g:Int->Int->Int}
  (rule:∀ (i j:Int) (t u:Tok) (s:Uz) (Q:Value->Uz->Prop) (E:Value->Uz->Prop),C i j->Q (.int (g i j) s.toks) { s with toks:=s.toks+1 }->U4 (Vk X.prog X.w) X.A (f (.int i t) (.int j u)) Q E s) :
  OpR X f (rI C fun i j=>.int (g i j)):=by
 intro pins s σ H x y v u Q I rx ry h
 obtain⟨i,j,rfl,rfl,hc,q⟩:=h
 obtain⟨t,rfl⟩:=rx
 obtain⟨t',rfl⟩:=ry
 exact rule i j t t' s _ _ hc ⟨.int (g i j),H,I.tok _,⟨_,rfl⟩,q⟩
theorem Td {f:Value->Value->Sem Value} {g:Int->Int->Int}
  (rule:∀ (i j:Int) (t u:Tok) (s:Uz) (Q:Value->Uz->Prop) (E:Value->Uz->Prop),Q (.int (g i j) s.toks) { s with toks:=s.toks+1 }->U4 (Vk X.prog X.w) X.A (f (.int i t) (.int j u)) Q E s) :
  OpR X f (rI0 fun i j=>.int (g i j)):=by
 intro pins s σ H x y v u Q I rx ry h
 obtain⟨i,j,rfl,rfl,q⟩:=h
 obtain⟨t,rfl⟩:=rx
 obtain⟨t',rfl⟩:=ry
 exact rule i j t t' s _ _ ⟨.int (g i j),H,I.tok _,⟨_,rfl⟩,q⟩
theorem Sw {f:Value->Value->Sem Value} {g:Int->Int->Bool}
  (rule:∀ (i j:Int) (t u:Tok) (s:Uz) (Q:Value->Uz->Prop) (E:Value->Uz->Prop),Q (.bool (g i j)) s->U4 (Vk X.prog X.w) X.A (f (.int i t) (.int j u)) Q E s) :
  OpR X f (rI0 fun i j=>.bl (g i j)):=by
 intro pins s σ H x y v u Q I rx ry h
 obtain⟨i,j,rfl,rfl,q⟩:=h
 obtain⟨t,rfl⟩:=rx
 obtain⟨t',rfl⟩:=ry
 exact rule i j t t' s _ _ ⟨.bl (g i j),H,I,rfl,q⟩
def TQ (i j:Int):Prop:=0 < j/\j < 1073741824
def Ue (i j:Int):Prop:=0<=j/\j<=1000000/\i.natAbs < 2 ^ 64
def Sx (i j:Int):Prop:=(-(2 ^ 64) < i/\i < 2 ^ 64)∨(-(2 ^ 64) < j/\j < 2 ^ 64)
theorem Sx.ok {i j:Int} (h:Sx i j):IntMulOk i j:=by
 rcases h with⟨h1,h2⟩ | ⟨h1,h2⟩
 ·exact .of_left (intBits_le_64 h1 h2)
 ·exact .of_right (intBits_le_64 h1 h2)
theorem bU:OpR X (YK .Add) (rI0 fun i j=>.int (i+j)):=Td fun _ _ _ _ _ _ _ q=>add_int q
theorem qF:OpR X (YK .Sub) (rI0 fun i j=>.int (i - j)):=Td fun _ _ _ _ _ _ _ q=>sub_int q
theorem fV:OpR X (YK .Mult) (rI Sx fun i j=>.int (i * j)):=opI fun _ _ _ _ _ _ _ hc q=>mul_int q hc.ok
theorem tG:OpR X (YK .FloorDiv) (rI TQ fun i j=>.int (i / j)):=opI fun i j _ _ _ _ _ hc q=>by
 have h1:(0:Int) < j:=hc.1
 have h2:j < 1073741824:=hc.2
 exact floordiv_int (by lia) (by rw[Int.fdiv_eq_ediv_of_nonneg i (by lia)]; exact q) (.inl (PyProof.noPylong_small (by lia)))
theorem dh:OpR X (YK .Mod) (rI (fun _ j=>0 < j) fun i j=>.int (i % j)):=opI fun i j _ _ _ _ _ hc q=>by
 have h1:(0:Int) < j:=hc
 exact mod_int' (by lia) (by rw[Int.fmod_eq_emod_of_nonneg i (by lia)]; exact q)
theorem pP:OpR X (YK .Pow) (rI Ue fun i j=>.int (i ^ j.toNat)):=opI fun _ _ _ _ _ _ _ hc q=>pow_int_small hc.1 hc.2.1 hc.2.2 q
theorem unI {f:Value->Sem Value} {g:Int->Int}
  (rule:∀ (i:Int) (t:Tok) (s:Uz) (Q:Value->Uz->Prop) (E:Value->Uz->Prop),Q (.int (g i) s.toks) { s with toks:=s.toks+1 }->U4 (Vk X.prog X.w) X.A (f (.int i t)) Q E s) :
  UnR X f (rU fun i=>.int (g i)):=by
 intro pins s σ H x v Q I rx h
 obtain⟨i,rfl,q⟩:=h
 obtain⟨t,rfl⟩:=rx
 exact rule i t s _ _ ⟨.int (g i),H,I.tok _,⟨_,rfl⟩,q⟩
theorem Aa:UnR X (unaryOp .USub) (rU fun i=>.int (-i)):=unI fun _ _ _ _ _ q=>neg_int q
end
def Te:V->V->Bool
 | .non,.non=>true | .non,.int _=>true | .int _,.non=>true | .non,.bl _=>true | .bl _,.non=>true | .non,.str _=>true | .str _,.non=>true
 | .int _,.int _=>true | .bl _,.bl _=>true | .str _,.str _=>true | .byt _,.byt _=>true
 | .int _,.str _=>true | .str _,.int _=>true | .bl _,.str _=>true | .str _,.bl _=>true
 | _,_=>false
def rEq:R2:=fun x y H Q=>Te x y=true/\Q (.bl (decide (x=y))) H
def rNe:R2:=fun x y H Q=>Te x y=true/\Q (.bl (!decide (x=y))) H
theorem Ib {i j:Int}:decide (V.int i=V.int j)=(i == j):=by
 rw[Zn]
 simp
theorem La {i j:Bool}:decide (V.bl i=V.bl j)=(i == j):=by
 rw[Zn]
 simp
theorem GR {i j:Wz}:decide (V.str i=V.str j)=(i == j):=by
 rw[Zn]
 simp
theorem Gr {i j:Array UInt8}:decide (V.byt i=V.byt j)=(i.toList == j.toList):=by
 rw[Zn]
 cases i
 cases j
 simp
section
variable {X:Cx} {a b c:Expr} {ta tb tc:TE} {pos:ZG}
theorem cL {pins:List (Addr × Yh)} {σ:St} {H:Hp} {s:Uz} {Q:VK} {k k':Bool} (I:Inv X pins σ H s) (q:Q (.bl k) H) (e:k=k'):EP X pins σ Q (.bool k') s:=by
 subst e
 exact⟨.bl k,H,I,rfl,q⟩
theorem fO:OpR X (Xa .Eq) rEq:=by
 intro pins s σ H x y v u Q I rx ry h
 obtain⟨hs,q⟩:=h
 cases x with
 | non =>
  cases rx
  cases y with
  | non=>cases ry; exact PySem.EqNone.eq_none_none (cL I q (by simp))
  | bl j=>cases ry; exact PySem.EqNone.eq_none_bool (cL I q (by simp))
  | int j=>obtain⟨t',rfl⟩:=ry; exact PySem.EqNone.eq_none_int (cL I q (by simp))
  | str j=>obtain⟨t',rfl⟩:=ry; exact PySem.EqNone.eq_none_str (cL I q (by simp))
  | _=>exact absurd (show false=true from hs) U5
 | bl i =>
  cases rx
  cases y with
  | non=>cases ry; exact PySem.EqNone.eq_bool_none (cL I q (by simp))
  | bl j=>cases ry; exact eq_bool (cL I q La)
  | str j=>obtain⟨t',rfl⟩:=ry; exact PySem.EqMixed.eq_bool_str (cL I q (by simp))
  | _=>exact absurd (show false=true from hs) U5
 | int i =>
  obtain⟨t,rfl⟩:=rx
  cases y with
  | non=>cases ry; exact PySem.EqNone.eq_int_none (cL I q (by simp))
  | int j=>obtain⟨t',rfl⟩:=ry; exact eq_int (cL I q Ib)
  | str j=>obtain⟨t',rfl⟩:=ry; exact PySem.EqMixed.eq_int_str (cL I q (by simp))
  | _=>exact absurd (show false=true from hs) U5
 | str i =>
  obtain⟨t,rfl⟩:=rx
  cases y with
  | non=>cases ry; exact PySem.EqNone.eq_str_none (cL I q (by simp))
  | bl j=>cases ry; exact PySem.EqMixed.eq_str_bool (cL I q (by simp))
  | int j=>obtain⟨t',rfl⟩:=ry; exact PySem.EqMixed.eq_str_int (cL I q (by simp))
  | str j=>obtain⟨t',rfl⟩:=ry; exact eq_str (cL I q GR)
  | _=>exact absurd (show false=true from hs) U5
 | byt i =>
  obtain⟨t,rfl⟩:=rx
  cases y with
  | byt j=>obtain⟨t',rfl⟩:=ry; exact PySem.W.eq_bytes (cL I q Gr)
  | _=>exact absurd (show false=true from hs) U5
 | _=>cases y <;> exact absurd (show false=true from hs) U5
theorem Nx:OpR X (Xa .NotEq) rNe:=by
 intro pins s σ H x y v u Q I rx ry h
 obtain⟨hs,q⟩:=h
 cases x with
 | non =>
  cases rx
  cases y with
  | non=>cases ry; exact PySem.EqNone.ne_none_none (cL I q (by simp))
  | bl j=>cases ry; exact PySem.EqNone.ne_none_bool (cL I q (by simp))
  | int j=>obtain⟨t',rfl⟩:=ry; exact PySem.EqNone.ne_none_int (cL I q (by simp))
  | str j=>obtain⟨t',rfl⟩:=ry; exact PySem.EqNone.ne_none_str (cL I q (by simp))
  | _=>exact absurd (show false=true from hs) U5
 | bl i =>
  cases rx
  cases y with
  | non=>cases ry; exact PySem.EqNone.ne_bool_none (cL I q (by simp))
  | bl j=>cases ry; exact ne_bool (cL I q (congrArg not La))
  | str j=>obtain⟨t',rfl⟩:=ry; exact PySem.EqMixed.ne_bool_str (cL I q (by simp))
  | _=>exact absurd (show false=true from hs) U5
 | int i =>
  obtain⟨t,rfl⟩:=rx
  cases y with
  | non=>cases ry; exact PySem.EqNone.ne_int_none (cL I q (by simp))
  | int j=>obtain⟨t',rfl⟩:=ry; exact ne_int (cL I q (congrArg not Ib))
  | str j=>obtain⟨t',rfl⟩:=ry; exact PySem.EqMixed.ne_int_str (cL I q (by simp))
  | _=>exact absurd (show false=true from hs) U5
 | str i =>
  obtain⟨t,rfl⟩:=rx
  cases y with
  | non=>cases ry; exact PySem.EqNone.ne_str_none (cL I q (by simp))
  | bl j=>cases ry; exact PySem.EqMixed.ne_str_bool (cL I q (by simp))
  | int j=>obtain⟨t',rfl⟩:=ry; exact PySem.EqMixed.ne_str_int (cL I q (by simp))
  | str j=>obtain⟨t',rfl⟩:=ry; exact ne_str (cL I q (congrArg not GR))
  | _=>exact absurd (show false=true from hs) U5
 | byt i =>
  obtain⟨t,rfl⟩:=rx
  cases y with
  | byt j=>obtain⟨t',rfl⟩:=ry; exact PySem.W.ne_bytes (cL I q (congrArg not Gr))
  | _=>exact absurd (show false=true from hs) U5
 | _=>cases y <;> exact absurd (show false=true from hs) U5
theorem Dt:OpR X (Xa .Lt) (rI0 fun i j=>.bl (decide (i < j))):=Sw fun _ _ _ _ _ _ _ q=>lt_int q
theorem wH:OpR X (Xa .Gt) (rI0 fun i j=>.bl (decide (j < i))):=Sw fun _ _ _ _ _ _ _ q=>gt_int q
theorem qU:OpR X (Xa .GtE) (rI0 fun i j=>.bl (decide (j<=i))):=Sw fun _ _ _ _ _ _ _ q=>ge_int q
theorem aW (b:Expr) {op:CmpOp} (h:op≠.In:=by decide) (h2:op≠.NotIn:=by decide):Yx op b=false:=by
 have e1:(op == CmpOp.In)=false:=by cases op <;> first | rfl | exact absurd rfl h
 have e2:(op == CmpOp.NotIn)=false:=by cases op <;> first | rfl | exact absurd rfl h2
 cases b <;> simp [Yx,e1,e2]
theorem cU {op:CmpOp} {r:R2} (ho:OpR X (Xa op) r) (ha:PE X a ta) (hb:PE X b tb) (hm:Yx op b=false):PE X (.Compare a [op] [b] pos) (tOp r ta tb):=by
 intro pins s σ H Q I h
 exact wpAny_Compare1 (Ss ha hb I h fun v u s2 x y H2 I2 rx ry q=>ho pins s2 σ H2 x y v u Q I2 rx ry q) hm
def RM (t:TE):TT:=fun σ H Q=>t σ H fun x H'=>ExB x fun k=>Q k H'
theorem aQ {op:CmpOp} {r:R2} (ho:OpR X (Xa op) r) (ha:PE X a ta) (hb:PE X b tb) (hm:Yx op b=false):PT X (.Compare a [op] [b] pos) (RM (tOp r ta tb)):=by
 intro pins s σ H Q I h
 refine wpAny_isTrue_Compare1 (thn (ha pins s σ H _ I h) fun v s1 ⟨x,H1,I1,r1,q1⟩=>thn (hb pins s1 σ H1 _ I1 q1) fun u s2 ⟨y,H2,I2,r2,q2⟩ =>
  thn (ho pins s2 σ H2 x y v u _ I2 r1 r2 q2) fun c s3 ⟨z,H3,I3,r3,k,e,q3⟩=>?_) hm
 subst e
 cases r3
 exact Xh ⟨H3,I3,q3⟩
theorem vy:(sizeLine:Nat) < 2 ^ 63:=by rw[Xo]; decide
theorem vals1 {x:V} {us:List Value} (r:Vals [x] us):∃ u,us=[u]/\RelV x u:=by
 cases r with
 | cons r1 r2=>cases r2; exact⟨_,rfl,r1⟩
theorem vals2 {x y:V} {us:List Value} (r:Vals [x,y] us):∃ u w',us=[u,w']/\RelV x u/\RelV y w':=by
 cases r with
 | cons r1 r2 =>
  cases r2 with
  | cons r3 r4=>cases r4; exact⟨_,_,rfl,r1,r3⟩
theorem lV:iR X (.builtin "abs") (fun xs H Q=>∃ i,xs=[.int i]/\Q (.int (if i < 0 then -i else i)) H):=by
 intro pins s σ H xs us Q I r h
 obtain⟨i,rfl,q⟩:=h
 obtain⟨u,rfl,t,rfl⟩:=vals1 r
 exact call_abs_int fun u tk=>⟨.int (if i < 0 then -i else i),H,I.tok _,⟨_,rfl⟩,q⟩
theorem qC (hc:X.calm=true):iR X (.builtin "max") (fun xs H Q=>∃ i j,xs=[.int i,.int j]/\Q (.int (if j > i then j else i)) H):=by
 intro pins s σ H xs us Q I r h
 obtain⟨i,j,rfl,q⟩:=h
 obtain⟨u,w',rfl,⟨t,rfl⟩,⟨t',rfl⟩⟩:=vals2 r
 refine max_two_ints (I.ok.hd hc) fun h' tk k=>⟨_,H,I.kept k,?_,q⟩
 by_cases hj:j > i
 ·rw[if_pos hj,if_pos hj]; exact⟨_,rfl⟩
 ·rw[if_neg hj,if_neg hj]; exact⟨_,rfl⟩
theorem qd (hc:X.calm=true):iR X (.builtin "min") (fun xs H Q=>∃ i j,xs=[.int i,.int j]/\Q (.int (if j < i then j else i)) H):=by
 intro pins s σ H xs us Q I r h
 obtain⟨i,j,rfl,q⟩:=h
 obtain⟨u,w',rfl,⟨t,rfl⟩,⟨t',rfl⟩⟩:=vals2 r
 refine min_two_ints (I.ok.hd hc) fun h' tk k=>⟨_,H,I.kept k,?_,q⟩
 by_cases hj:j < i
 ·rw[if_pos hj,if_pos hj]; exact⟨_,rfl⟩
 ·rw[if_neg hj,if_neg hj]; exact⟨_,rfl⟩
theorem vP:iR X (.type "int") (fun xs H Q=>(∃ i,xs=[.int i]/\Q (.int i) H)∨∃ k,xs=[.bl k]/\Q (.int (if k then 1 else 0)) H):=by
 intro pins s σ H xs us Q I r h
 rcases h with⟨i,rfl,q⟩ | ⟨k,rfl,q⟩
 ·obtain⟨u,rfl,t,rfl⟩:=vals1 r
  exact call_int_int ⟨.int i,H,I,⟨_,rfl⟩,q⟩
 ·obtain⟨u,rfl,r1⟩:=vals1 r
  cases r1
  exact call_int_bool ⟨.int (if k then 1 else 0),H,I.tok _,⟨_,rfl⟩,q⟩
end
end L2
namespace L2
open PySem PySem.Spec PyProof.Rows
structure R7 (h:Wc) (x dx C:Addr) (mA:Wz->Option Value):Prop where
 obj:h.get? x=some (abU C dx)
 ns:h.Ns1 dx mA
 ne:dx≠x
theorem Fg {h:Wc} {dx:Addr} {mA:Wz->Option Value} (n:h.Ns1 dx mA):∃ od,h.get? dx=some od/\∀ name,PySem.W.lookIn name od=some (mA name):=by
 obtain⟨o,es,ep,ho,hd,hk,_,hm⟩:=n
 refine⟨o,ho,fun name=>?_⟩
 have e:=hm name
 unfold nsFind findBy at e
 rw[← Array.find?_toList] at e
 unfold PySem.W.lookIn
 rw[hd]
 dsimp only
 split
 ·rename_i y q
  rw[q] at e
  exact congrArg some e
 ·rename_i q
  rw[q] at e
  have a:es.toList.any (·.refKey)=false:=by
   rw[List.any_eq_false]
   intro y hy
   obtain⟨z,t,hkey⟩:=hk y (Array.mem_toList_iff.mp hy)
   simp [DictEntry.refKey,hkey]
  have a':¬ es.toList.any (·.refKey)=true:=by rw[a]; exact U5
  rw[if_neg a']
  exact congrArg some e
theorem R7.look {h:Wc} {x dx C:Addr} {mA:Wz->Option Value} (I:R7 h x dx C mA):∃ od,PySem.W.InstAt h x (abU C dx) C (some od)/\∀ name,PySem.W.lookIn name od=some (mA name) :=
 let ⟨od,ho,hl⟩:=Fg I.ns
 ⟨od,⟨I.obj,rfl,rfl,ho⟩,hl⟩
section
variable {prog:Vp} {w:VP} {A:VR} {E:Value->Uz->Prop} {s:Uz} {K:Vg} {x dx C f:Addr} {mA:Wz->Option Value} {name:Wz} {v:Value}
end
theorem Gf.some_of {v:V} {o:Option Value} (r:Gf (some v) o):∃ u,o=some u/\RelV v u:=by
 cases o with
 | none=>exact (show False from r).elim
 | some u=>exact⟨u,rfl,r⟩
section
variable {P:Vp} {w:VP} {H H':Hp} {h h':Wc} {a C dx:Addr} {fs fs':List (Wz × V)}
theorem Nb (hok:HOk P w H h) (e:H a=some (.ins C dx fs)):∃ mA,R7 h a dx C mA/\(∀ f,Gf (fs.lookup f) (mA f))/\PySem.Within mA (fs.map (·.1))/\fs.length<=1000/\H dx=some (.own a):=by
 obtain⟨d,z,ne,ob,mA,n,r,q⟩:=(show fB P w H h a (.ins C dx fs) from hok a _ e)
 exact⟨mA,⟨ob,n,ne⟩,r,q,z,d⟩
end
structure Cls (K:Vg) (C:Addr):Prop where
 pg:PySem.W.plainGet K C Str.empty=true
 hd:PySem.W.hasDictIn K C=true
 po:PySem.W.plainOver K C=true
 sa:PySem.W.findIn K (.ref C) "__setattr__" = some (some (.builtin "object.__setattr__"))
theorem Cls.get {K:Vg} {C:Addr} (c:Cls K C) (f:Wz):PySem.W.plainGet K C f=true:=c.pg
section
variable {X:Cx} {pins:List (Addr × Yh)} {σ:St} {H:Hp} {s:Uz} {a C dx:Addr} {fs:List (Wz × V)} {f:Wz} {v:V} {A:VR} {E:Value->Uz->Prop}
end
section
variable {X:Cx} {o e value:Expr} {f:Wz} {pos pos' tpos:ZG} {ta tv:TE}
end
section
variable {X:Cx} {pins:List (Addr × Yh)} {σ:St} {H:Hp} {s:Uz} {A:VR} {E:Value->Uz->Prop} {Q:Value->Uz->Prop} {c:Value} {b:Bool}
inductive Cq (K:Vg) (H:Hp):V->Value->Prop where
 | non:Cq K H .non (.type "NoneType")
 | bl (x:Bool):Cq K H (.bl x) (.type "bool")
 | int (i:Int):Cq K H (.int i) (.type "int")
 | str (x:Wz):Cq K H (.str x) (.type "str")
 | flt (x:UInt64):Cq K H (.flt x) (.type "float")
 | lst {a:Addr} {xs:List V} (e:H a=some (.lst xs)):Cq K H (.ref a) (.type "list")
 | frz {a:Addr} {o:Yh} {xs:List V} (e:H a=some (.frz o (.lst xs))):Cq K H (.ref a) (.type "list")
 | tup {a:Addr} {xs:List V} (e:H a=some (.tup xs)):Cq K H (.ref a) (.type "tuple")
 | dK {a:Addr} {kvs:List (Key × V)} (e:H a=some (.dK kvs)):Cq K H (.ref a) (.type "dict")
 | dT {a:Addr} {kvs:List (List Key × V)} (e:H a=some (.dT kvs)):Cq K H (.ref a) (.type "dict")
 | ins {a C dx:Addr} {fs:List (Wz × V)} (e:H a=some (.ins C dx fs)) (cl:Cls K C) (ha:PySem.W.findIn K (.ref C) "__class__" = some (some (.builtin "object.__class__")))
   (hn:PySem.W.specialIn K (.builtin "object.__class__") "__get__" = some (some (.builtin "getset_descriptor.__get__"))) (htk:PySem.W.takesIn K (.builtin "object.__class__")=some true)
   (hm:PySem.W.mroIn K C (.type "object")=some true):Cq K H (.ref a) (.ref C)
theorem Il {x:V} {u t:Value} (I:Inv X pins σ H s) (rx:RelV x u) (ty:Cq X.K H x t) (e:PySem.W.kitOne X.K t c=some b) (h:∀ tk,Q (.bool b) { s with toks:=tk }) :
  U4 (Vk X.prog X.w) A (call (.builtin "isinstance") [u,c]) Q E s:=by
 cases ty with
 | non=>cases (show u=VB from rx); exact W8 PySem.W.kitx_none I.kIn YL e (fun z=>nomatch z) h
 | bl y=>cases (show u=aaF y from rx); exact W8 PySem.W.kitx_bool I.kIn YL e (fun z=>nomatch z) h
 | int i=>obtain⟨t,q⟩:=(show ∃ t,u=Yl i t from rx); cases q; exact W8 PySem.W.kitx_int I.kIn YL e (fun z=>nomatch z) h
 | str y=>obtain⟨t,q⟩:=(show ∃ t,u=Value.str y t from rx); cases q; exact W8 PySem.W.kitx_str I.kIn YL e (fun z=>nomatch z) h
 | flt y=>obtain⟨t,q⟩:=(show ∃ t,u=Value.float y t from rx); cases q; exact W8 PySem.W.kitx_float I.kIn YL e (fun z=>nomatch z) h
 | @lst a xs ea =>
  cases (show u=Vy a from rx)
  obtain⟨_,_,n,_,h1⟩:=(show fB X.prog X.w H s.heap a (.lst xs) from I.hok a _ ea)
  exact W8 PySem.W.kitx_list I.kIn ⟨_,h1,rfl⟩ e (fun z=>nomatch z) h
 | @frz a ob xs ea =>
  cases (show u=Vy a from rx)
  obtain⟨_,_,_,n,_,h1⟩:=(show fB X.prog X.w H s.heap a (.frz ob (.lst xs)) from I.hok a _ ea)
  exact W8 PySem.W.kitx_list I.kIn ⟨_,h1,rfl⟩ e (fun z=>nomatch z) h
 | @tup a xs ea =>
  cases (show u=Vy a from rx)
  obtain⟨_,_,_,p⟩:=(show fB X.prog X.w H s.heap a (.tup xs) from I.hok a _ ea)
  obtain⟨o,h1,h2,_⟩:=p
  exact W8 PySem.W.kitx_tuple I.kIn ⟨o,h1,h2⟩ e (fun z=>nomatch z) h
 | @dK a kvs ea =>
  cases (show u=Vy a from rx)
  obtain⟨_,_,vs,_,p⟩:=(show fB X.prog X.w H s.heap a (.dK kvs) from I.hok a _ ea)
  obtain⟨o,es,ep,h1,h2,_⟩:=p
  exact W8 PySem.W.kitx_dict I.kIn ⟨o,h1,h2.1⟩ e (fun z=>nomatch z) h
 | @dT a kvs ea =>
  cases (show u=Vy a from rx)
  obtain⟨_,_,xs,_,o,es,ep,h1,h2,_⟩:=(show fB X.prog X.w H s.heap a (.dT kvs) from I.hok a _ ea)
  exact W8 PySem.W.kitx_dict I.kIn ⟨o,h1,h2.1⟩ e (fun z=>nomatch z) h
 | @ins a C dx fs ea cl ha hn htk hm =>
  cases (show u=Vy a from rx)
  obtain⟨mA,O,_⟩:=Nb I.hok ea
  obtain⟨od,J,_⟩:=O.look
  exact W8 (PySem.W.kitx_own (cl.get _) cl.hd ha hn htk hm) I.kIn J e (fun z=>nomatch z) h
end
end L2
namespace L2
open PySem PySem.Spec PyProof.Rows
structure nZ (k:Nat) (A:VR):Prop where
 hd:A.handled=none
 dp:A.depth+3 * k+5 < recursionLimit
 un:A.units+16 * k+200 < cLine
theorem nZ.mono {j k:Nat} {A:VR} (r:nZ k A) (h:j<=k):nZ j A:=⟨r.hd,by have:=r.dp; lia,by have:=r.un; lia⟩
theorem nZ.deeper {k:Nat} {A:VR} (r:nZ (k+1) A) (env:Env):nZ k (A.deeper env) :=
 ⟨r.hd,by have:=r.dp; show A.depth+1+3 * k+5 < _; lia,by have:=r.un; show A.units+3+16 * k+200 < _; lia⟩
theorem nZ.depth {k:Nat} {A:VR} (r:nZ k A):A.depth < recursionLimit:=by have:=r.dp; lia
theorem nZ.units {k:Nat} {A:VR} (r:nZ k A):A.units+64 < cLine:=by have:=r.un; lia
theorem nZ.eQ {k:Nat} {A:VR} (r:nZ k A):A.units < cLine:=by have:=r.un; lia
def RB:TA:=fun _ H Q=>Q [] H
def GF (ta:TE) (tr:TA):TA:=fun σ H Q=>ta σ H fun x H1=>tr σ H1 fun xs H2=>Q (x::xs) H2
section
variable {X:Cx} {e:Expr} {es:List Expr} {te:TE} {t:TA} {pos:ZG}
theorem aj:PA X [] RB:=fun _ _ _ _ H Q I h=>Calls.spliced_nil ⟨[],H,I,.nil,h⟩
theorem aa (ha:PE X e te) (hr:PA X es t) (hs:V4 (e::es) X.env=(false,X7 e X.env)::V4 es X.env:=by rfl):PA X (e::es) (GF te t):=by
 intro pos pins s σ H Q I h
 rw[hs]
 show U4 _ _ (spliced ((false,X7 e X.env)::ZL pos (V4 es X.env))) _ _ s
 refine Calls.spliced_cons (thn (ha pins s σ H _ I h) fun u s1 ⟨x,H1,I1,r1,q1⟩=>?_)
 exact thn (hr pos pins s1 σ H1 _ I1 q1) fun us s2 ⟨xs,H2,I2,r2,q2⟩=>⟨x::xs,H2,I2,.cons r1 r2,q2⟩
def RC (t:TA):TE:=fun σ H Q=>t σ H fun xs H1=>xs.length<=sizeLine/\∀ p,H1 p=none->Q (.ref p) (upd H1 p (.tup xs))
def Uk (t:TA):TE:=fun σ H Q=>t σ H fun xs H1=>xs.length<=sizeLine/\∀ p,H1 p=none->Q (.ref p) (upd H1 p (.lst xs))
theorem bT {x1} (h:PA X es t):PE X (.Tuple es x1 pos) (RC t):=by
 intro pins s σ H Q I hq
 refine wpAny_Tuple_spliced (thn (h pos pins s σ H _ I hq) fun us s1 ⟨xs,H1,I1,r,z,q⟩=>⟨by rw[← r.length]; exact z,?_⟩)
 have hf:H1 s1.heap.objs.size=none:=I1.hok.fresh (U0 _)
 refine⟨.ref s1.heap.objs.size,upd H1 s1.heap.objs.size (.tup xs),I1.laid (t':=s1.toks) (fun b u e=>Ux _ e) (U0 _) ?_,rfl,q _ hf⟩
 exact⟨z,us,r,⟨_,UT _ rfl,rfl,_,rfl⟩⟩
theorem bJ (h:PA X es t):PE X (.List es pos) (Uk t):=by
 intro pins s σ H Q I hq
 refine wpAny_List_spliced (thn (h pos pins s σ H _ I hq) fun us s1 ⟨xs,H1,I1,r,z,q⟩=>⟨by rw[← r.length]; exact z,?_⟩)
 have hf:H1 s1.heap.objs.size=none:=I1.hok.fresh (U0 _)
 refine⟨.ref s1.heap.objs.size,upd H1 s1.heap.objs.size (.lst xs),I1.laid (t':=s1.toks) (fun b u e=>Ux _ e) (U0 _) ?_,rfl,q _ hf⟩
 exact⟨z,us,0,r,UT _ rfl⟩
end
abbrev Sp:=List V->Hp->VK->XK->Prop
abbrev CXT:=List Env->Hp->Uz->XK->Value->Uz->Prop
structure Ru (P:Vp) (w:VP) (K:Vg) (mg:Wz->Option Value) (base:Wc) (A:VR) (outer:List Env) (s:Uz) (H:Hp):Prop where
 frames:A.frames=some outer
 mod:Mod K mg base
 bs:∀ b o,base.get? b=some o->s.heap.get? b=some o/\H b=none
 bsz:base.objs.size<=s.heap.objs.size
 IW:s.heap.FunFrames base outer
 frf:∀ b∈frs outer,H b=none
 hok:HOk P w H s.heap
 bare:aaK s.gens
def CE (outer:List Env) (P:Vp) (w:VP) (H:Hp) (s:Uz) (Q:VK) (u:Value) (s':Uz):Prop :=
 ∃ v H',s'.os=s.os/\aaK s'.gens/\Un (frs outer) [] H H' s.heap s'.heap/\HOk P w H' s'.heap/\RelV v u/\Q v H'
def CR (CX:CXT) (outer:List Env) (P:Vp) (w:VP) (H:Hp) (s:Uz) (Q:VK) (E:XK) (r:abg) (s':Uz):Prop :=
 match r with
 | .ok (.ret u)=>CE outer P w H s Q u s'
 | .ok _=>False
 | .error e=>CX outer H s E e s'
structure dR (P:Vp) (w:VP) (K:Vg) (mg:Wz->Option Value) (base:Wc) (CX:CXT) (k:Nat) (f:Addr) (fd:Yw) (ps:List Wz) (sp:Sp):Prop where
 len:∀ vs H Q E,sp vs H Q E->vs.length=ps.length
 run:∀ (A:VR) (outer:List Env) (s:Uz) (H:Hp) (args:Args) (us:List Value) (vs:List V) (Q:VK) (E:XK),nZ k A->Ru P w K mg base A outer s H->aa5 s fd args (ps.zip us)->Vals vs us->sp vs H Q E →
  Y7 (Vk P w) A (.call (.ref f) args) (CR CX outer P w H s Q E) s
section
variable {X:Cx} {pins:List (Addr × Yh)} {σ:St} {H:Hp} {s s':Uz}
theorem Inv.env0 (I:Inv X pins σ H s):Ru X.prog X.w X.K X.mg X.base X.A X.stack s H :=
 ⟨I.ok.frames,I.ok.mod,I.bs,Wd I.ok.bsz I.sz,I.stack,I.Ej,I.hok,I.bare⟩
theorem Inv.after {Q:VK} {u:Value} (I:Inv X pins σ H s) (h:CE X.stack X.prog X.w H s Q u s'):EP X pins σ Q u s':=by
 obtain⟨v,H',os,bare,un,hok,r,q⟩:=h
 obtain⟨hh,g,d,t,os'⟩:=s'
 obtain rfl:os'=s.os:=os
 exact⟨v,H',I.call (h':=hh) (g':=g) (d':=d) (t':=t) (ch:=[]) un hok bare (fun b z=>absurd z (by simp)),r,q⟩
end
def Rh (sp:Sp) (dvs:List V) (E:XK) (t:TA):TE:=fun σ H Q=>t σ H fun vs H1=>sp (vs++dvs) H1 Q E
def Binds (K:Vg) (fd:Yw) (ps:List Wz) (ds:List Value):Prop :=
 ∀ (s:Uz) (us:List Value),K.In s.heap->(us++ds).length=ps.length->aa5 s fd ⟨us,[]⟩ (ps.zip (us++ds))
theorem Binds.all {K:Vg} {fd:Yw} {ps:List Wz} (h:∀ us:List Value,us.length=ps.length->aaV fd ⟨us,[]⟩=pure (ps.zip us)):Binds K fd ps []:=fun s us _ hl=>by
 rw[XJ] at hl ⊢
 exact .of_eq (h us hl)
def Passes (CX:CXT) (X:Cx) (E:XK):Prop:=∀ (pins:List (Addr × Yh)) (σ:St) (H:Hp) (s:Uz) (e:Value) (s':Uz),Inv X pins σ H s->CX X.stack H s E e s'->X.xe e s'
section
variable {X:Cx} {CX:CXT} {k:Nat} {f C:Addr} {fd:Yw} {ps:List Wz} {sp:Sp} {dvs:List V} {ds:List Value} {E:XK} {x m:Wz} {p pos apos:ZG} {e o:Expr} {es:List Expr} {ta:TE} {t:TA}
theorem Qd {pins:List (Addr × Yh)} {σ:St} {H:Hp} {s:Uz} {Q:VK} {us:List Value} {vs:List V} (F:dR X.prog X.w X.K X.mg X.base CX k f fd ps sp) (hr:nZ k X.A) (hb:Binds X.K fd ps ds) (hd:Vals dvs ds) (hx:Passes CX X E)
  (I:Inv X pins σ H s) (r:Vals vs us) (h:sp (vs++dvs) H Q E):U4 (Vk X.prog X.w) X.A (call (.ref f) us) (EP X pins σ Q) X.xe s:=by
 have r2:Vals (vs++dvs) (us++ds):=r.append hd
 have hl:(us++ds).length=ps.length:=by rw[← r2.length]; exact F.len _ _ _ _ h
 refine wpAny_call (aaD (F.run X.A X.stack s H ⟨us,[]⟩ (us++ds) (vs++dvs) Q E hr I.env0 (hb s us I.kIn hl) r2 h) fun r s' hq=>?_)
 cases r with
 | error e=>exact hx pins σ H s e s' I hq
 | ok fl =>
  cases fl with
  | ret u=>exact I.after hq
  | next=>exact YX hq
  | brk=>exact YX hq
  | cont=>exact YX hq
theorem Pk (F:dR X.prog X.w X.K X.mg X.base CX k f fd ps sp) (hr:nZ k X.A) (hg:Gl X x) (hm:X.mg x=some (.ref f)) (hk:aad X.K (.ref f)=true) (hb:Binds X.K fd ps ds) (hd:Vals dvs ds) (hx:Passes CX X E)
  (ha:PA X (e::es) t) (hdb:(x == ("__debug__" : Wz))=false:=by decide) (he:V4 (e::es) X.env=(false,X7 e X.env)::V4 es X.env:=by rfl) (hpl:(ZL pos (V4 es X.env)).any (·.1)=false:=by rfl) :
  PE X (.Call (.Name x p) (e::es) [] pos) (Rh sp dvs E t):=by
 intro pins s σ H Q I h
 refine Yq (O6 I hg hm ?_ hdb)
 refine PySem.W.callWith_K (h₀:=X.base) I.ok.mod.kin hk (thn (ha pos pins s σ H _ I h) fun us s1 ⟨vs,H1,I1,r,q⟩=>⟨I1.kIn,?_⟩) he hpl
 exact Qd F hr hb hd hx I1 r q
end
section
variable {X:Cx} {CX:CXT} {k:Nat} {f C:Addr} {fd:Yw} {ps ks:List Wz} {sp:Sp} {E:XK} {x m:Wz} {p pos apos kpos:ZG} {e o:Expr} {es:List Expr} {kws:List Keyword} {te ta:TE} {t tk:TA} {nm:Option Wz}
variable {g:List Value->List Value->List Value} {gV:List V->List V->List V}
end
structure aY (N P:List Wz) (sc:Zx):Prop where
 kind:sc.kind = .function
 co:sc.isCoroutine=false
 gen:sc.isGenerator=false
 nd:N.Nodup
 pre:N.take P.length=P
 par:∀ x∈P,sc.names.lookup x=some .local∨sc.names.lookup x=some .cell
 nofree:∀ y∈sc.names,y.2≠.free
theorem uG {kindOf:Wz->Option aae} {x:Wz}:∀ {binds:List (Wz × Value)} {m:Wz->Option Value},(∀ v,(x,v) ∉ binds)->bindL kindOf binds m x=m x
 | [],_,_=>rfl
 | (n,v)::r,m,h=>by
  unfold bindL
  rw[uG fun w hw=>h w (U9 _ hw)]
  split
  ·have:x≠n:=by rintro rfl; exact h v UW
   simp [this]
  ·rfl
theorem uH {kindOf:Wz->Option aae} {x:Wz}:∀ {binds:List (Wz × Value)} {m:Wz->Option Value},(∀ v,(x,v) ∉ binds)->bindC kindOf binds m x=m x
 | [],_,_=>rfl
 | (n,v)::r,m,h=>by
  unfold bindC
  rw[uH fun w hw=>h w (U9 _ hw)]
  split
  ·rfl
  ·have:x≠n:=by rintro rfl; exact h v UW
   simp [this]
theorem uK {kindOf:Wz->Option aae} {x:Wz} {v:Value}:∀ {P:List Wz} {vs:List Value} {i:Nat} {m:Wz->Option Value},P.Nodup->P[i]? = some x->vs[i]? = some v->kindOf x=some .local →
  bindL kindOf (P.zip vs) m x=some v
 | [],_,_,_,_,h,_,_=>by simp at h
 | _::_,[],_,_,_,_,h,_=>by simp at h
 | p::P,w::vs,0,m,nd,h1,h2,hk=>by
  simp at h1 h2; subst h1; subst h2
  show bindL kindOf ((p,w)::P.zip vs) m p=_
  unfold bindL
  rw[uG fun v hv=>(List.nodup_cons.mp nd).1 (abV hv).1,if_pos hk]
  simp
 | p::P,w::vs,i+1,m,nd,h1,h2,hk=>by
  show bindL kindOf ((p,w)::P.zip vs) m x=_
  unfold bindL
  exact uK (i:=i) (List.nodup_cons.mp nd).2 (by simpa using h1) (by simpa using h2) hk
theorem uU {kindOf:Wz->Option aae} {x:Wz} {v:Value}:∀ {P:List Wz} {vs:List Value} {i:Nat} {m:Wz->Option Value},P.Nodup->P[i]? = some x->vs[i]? = some v->kindOf x≠some .local →
  bindC kindOf (P.zip vs) m x=some v
 | [],_,_,_,_,h,_,_=>by simp at h
 | _::_,[],_,_,_,_,h,_=>by simp at h
 | p::P,w::vs,0,m,nd,h1,h2,hk=>by
  simp at h1 h2; subst h1; subst h2
  show bindC kindOf ((p,w)::P.zip vs) m p=_
  unfold bindC
  rw[uH fun v hv=>(List.nodup_cons.mp nd).1 (abV hv).1,if_neg hk]
  simp
 | p::P,w::vs,i+1,m,nd,h1,h2,hk=>by
  show bindC kindOf ((p,w)::P.zip vs) m x=_
  unfold bindC
  exact uU (i:=i) (List.nodup_cons.mp nd).2 (by simpa using h1) (by simpa using h2) hk
def start (N:List Wz) (vs:List V):St:=vs.map some++Vf (N.length - vs.length) none
def Pz (CX:CXT) (P:Vp) (w:VP) (K:Vg) (mg:Wz->Option Value) (base:Wc) (N:List Wz) (qual:Wz) (scope:Zx) (f:Addr) (cd:Value) (A:VR) (outer:List Env) (s:Uz) (H:Hp) (E:XK):Cx where
 prog:=P
 w:=w
 K:=K
 mg:=mg
 base:=base
 A:=A.deeper (abe qual scope s.heap.objs.size f cd)
 N:=N
 s₀:=s
 H₀:=H
 env:=abe qual scope s.heap.objs.size f cd
 outer:=outer
 stack:=abe qual scope s.heap.objs.size f cd::outer
 ex:=[]
 calm:=true
 fn:=fun _=>true
 pn:=[]
 xe:=fun e s'=>U4 (Vk P w) (A.deeper (abe qual scope s.heap.objs.size f cd)) (leaving (abe qual scope s.heap.objs.size f cd) e) (fun _ s''=>CX outer H s E e s'') (fun e' s''=>CX outer H s E e' s'') s'
theorem Ab {sc:Zx} {n:Nat} {x:Wz} (h:sc.names.lookup x=some .cell):∃ c,(cellsFrom n sc.names []).lookup x=some c:=by
 have q:=PySem.W.cellsFrom_some sc.names n [] (.inl h)
 exact Option.isSome_iff_exists.mp q
theorem DY {CX:CXT} {P:Vp} {w:VP} {K:Vg} {mg:Wz->Option Value} {base:Wc} {N ps:List Wz} {qual:Wz} {scope:Zx} {f:Addr} {cd:Value} {A:VR} {outer:List Env} {s s1:Uz} {H:Hp} {E:XK} {us:List Value} {vs:List V}
  (S:aY N ps scope) (hd:A.handled=none) (e0:Ru P w K mg base A outer s H) (hl:vs.length=ps.length) (r:Vals vs us)
  (x:InCallC s s.heap.objs.size (bindL (abe qual scope s.heap.objs.size f cd).kindOf (ps.zip us) fun _=>none) (cellsFrom (s.heap.objs.size+1) scope.names []) (bindC (abe qual scope s.heap.objs.size f cd).kindOf (ps.zip us) fun _=>none) s1) :
  Inv (Pz CX P w K mg base N qual scope f cd A outer s H E) [] (start N vs) H s1:=by
 have hpl:ps.length<=N.length:=by have:=congrArg aap S.pre; rw[Vc] at this; lia
 obtain⟨h1,tk,rfl,hk⟩:=x.done
 have noA:∀ b:Addr,b ∉ (Pz CX P w K mg base N qual scope f cd A outer s H E).ex:=fun b z=>absurd (show b∈([]:List Addr) from z) (by simp)
 refine⟨⟨e0.mod,S.kind,rfl,rfl,U0 _,fun y z c h1 h2=>?_,fun y hy=>?_,fun y c _ h=>?_,fun _=>hd,Around.frames_deeper e0.frames,.inr ⟨rfl,rfl⟩,fun b z=>absurd z (noA b),e0.bs,e0.bsz,fun b _ _=>noA b,fun b z=>absurd z (noA b),e0.IW,e0.frf⟩,
  rfl,e0.bare,Un.kept hk,⟨_,x.toInCall.ns,fun i y v h1 h2 h3=>?_⟩,fun y c h=>⟨_,x.cell y c h⟩,e0.hok.fresh (U0 _),fun y c h=>?_,fun p hp=>absurd (show p∈([]:List (Addr × Yh)) from hp) (by simp),e0.hok.kept hk,?_⟩
 ·exact name_of_addr x.apart (W3 h1) (W3 h2)
 ·have hy:scope.names.lookup y=some .cell∨scope.names.lookup y=some .free:=hy
  rcases hy with hy | hy
  ·exact Ab hy
  ·exact absurd rfl (S.nofree _ (W3 hy))
 ·exact Y8 (x.above y c (W3 h))
 ·have hi:i < vs.length:=by
   unfold start at h2
   by_cases hi:i < vs.length
   ·exact hi
   ·rw[Wf (by simpa using hi)] at h2
    rw[XF] at h2
    split at h2 <;> cases h2
  have ha:vs[i]? = some v:=by
   unfold start at h2
   rw[W0 (by simpa using hi),Vj] at h2
   cases e:vs[i]? with
   | none=>rw[e] at h2; cases h2
   | some a=>rw[e] at h2; cases h2; rfl
  obtain⟨u,hu,rv⟩:=r.get ha
  have hp:ps[i]? = some y:=by
   rw[← S.pre,Zd (by lia)]; exact h1
  have ndP:ps.Nodup:=by rw[← S.pre]; exact S.nd.sublist (List.take_sublist _ _)
  refine⟨u,rv,?_⟩
  rcases S.par y (Vl hp) with k | k
  ·exact .inl ⟨k,uK ndP hp hu k⟩
  ·obtain⟨c,e⟩:=Ab (n:=s.heap.objs.size+1) k
   refine .inr ⟨.inl k,c,e,?_⟩
   have q:=x.cell y c e
   rw[uU ndP hp hu (by show scope.names.lookup y≠_; rw[k]; decide)] at q
   exact q
 ·exact e0.hok.fresh (Y8 (x.above y c (W3 h)))
 ·unfold start
  show _=N.length
  rw[Va,Uy,Wl]
  lia
theorem R8 {CX:CXT} {P:Vp} {w:VP} {K:Vg} {mg:Wz->Option Value} {base:Wc} {k:Nat} {f:Addr} {name qual:Wz} {params:Arguments} {body:List Stmt} {scope:Zx} {dV kV doc pm cdv ct oc:Value} {an od:Option Addr}
  {osl:Array (Option Value)} {N ps:List Wz} {sp:Sp} (lk:K.lookup f=some ⟨oc,od,.func (Zy name qual params body scope dV kV doc pm an cdv ct),osl⟩) (hcd:aaW K cdv qual=true) (S:aY N ps scope)
  (len:∀ vs H Q E,sp vs H Q E->vs.length=ps.length)
  (hbody:∀ (A:VR) (outer:List Env) (s:Uz) (H:Hp) (vs:List V) (Q:VK) (E:XK),nZ k (A.deeper (abe qual scope s.heap.objs.size f cdv))->sp vs H Q E →
   ∃ t,PSs (Pz CX P w K mg base N qual scope f cdv A outer s H E) body t/\t { nx:=fun _ H'=>Q .non H',rt:=Q } (start N vs) H) :
  dR P w K mg base CX (k+1) f (Zy name qual params body scope dV kV doc pm an cdv ct) ps sp:=by
 refine⟨len,fun A outer s H args us vs Q E hr e0 hb r hsp=>?_⟩
 have hl:=len _ _ _ _ hsp
 have KX:K.In s.heap:=e0.mod.kin.keeps fun b o e=>(e0.bs b o e).1
 have lim:s.heap.NoLimit:=e0.mod.nolimit.keeps fun b o e=>(e0.bs b o e).1
 have hkind:∀ y∈ps.zip us,scope.names.lookup y.1=some .local∨(scope.names.lookup y.1=some .cell/\((cellsFrom (s.heap.objs.size+1) scope.names []).lookup y.1).isSome=true):=fun⟨n,v⟩ hy=>by
  rcases S.par n (abV hy).1 with q | q
  ·exact .inl q
  ·exact .inr ⟨q,PySem.W.cellsFrom_some _ _ _ (.inl q)⟩
 refine codeAny_call_function hr.depth (KX _ _ lk) rfl S.co S.gen rfl (PySem.W.codeRec_of KX hcd) (hb _ _ _ _ ?_)
 refine wpAny_newFunctionEnv_cells S.kind hkind fun env he s1 x=>?_
 subst he
 refine⟨lim.keeps x.toInCall.keep,codeAny_func ?_⟩
 obtain⟨t,ht,hq⟩:=hbody A outer s H vs Q E (hr.deeper _) hsp
 have I:Inv (Pz CX P w K mg base N qual scope f cdv A outer s H E) [] (start N vs) H s1:=DY S hr.hd e0 hl r x
 refine Xj (ht [] s1 (start N vs) H _ I hq) (fun fl s' hs=>?_) fun e s' hs=>hs
 have fin:∀ {σ':St} {H':Hp} {v:V} {u:Value},Inv (Pz CX P w K mg base N qual scope f cdv A outer s H E) [] σ' H' s'->RelV v u->Q v H'->CE outer P w H s Q u s' :=
  fun {σ' H' v u} J rv q=>⟨v,H',J.os,J.bare,J.base,J.hok,rv,q⟩
 cases fl with
 | ret u =>
  obtain⟨v,σ',H',J,rv,q⟩:=hs
  exact fin J rv q
 | next =>
  obtain⟨σ',H',J,q⟩:=hs
  exact fin (v:=V.non) (u:=VB) J rfl q
 | brk =>
  obtain⟨_,_,_,q⟩:=hs
  exact YX q
 | cont =>
  obtain⟨_,_,_,q⟩:=hs
  exact YX q
end L2
namespace L2
open PySem PySem.Spec PyProof.Rows
section
variable {X:Cx} {x:Wz} {p pos:ZG} {e:Expr} {es:List Expr} {t:TA} {id T:String} {r:List V->Hp->VK->Prop}
def tCB (r:List V->Hp->VK->Prop) (t:TA):TE:=fun σ H Q=>t σ H fun vs H1=>r vs H1 Q
theorem aH (hc:iR X (.builtin id) r) (hg:Gl X x) (hm:X.mg x=none) (hv:Wj x=some (.builtin id)) (ha:PA X (e::es) t) (hn:x≠"__name__":=by decide) (hdb:(x == ("__debug__" : Wz))=false:=by decide)
  (he:V4 (e::es) X.env=(false,X7 e X.env)::V4 es X.env:=by rfl) (hpl:(ZL pos (V4 es X.env)).any (·.1)=false:=by rfl):PE X (.Call (.Name x p) (e::es) [] pos) (tCB r t):=by
 intro pins s σ H Q I h
 refine Yq (iK I hg hm hv ?_ hn hdb)
 exact abI (thn (ha pos pins s σ H _ I h) fun us s1 ⟨vs,H1,I1,r1,q1⟩=>hc pins s1 σ H1 vs us Q I1 r1 q1) he hpl
theorem bR (hc:iR X (.type T) r) (hg:Gl X x) (hm:X.mg x=none) (hv:Wj x=some (.type T)) (ha:PA X (e::es) t) (hn:x≠"__name__":=by decide) (hdb:(x == ("__debug__" : Wz))=false:=by decide)
  (he:V4 (e::es) X.env=(false,X7 e X.env)::V4 es X.env:=by rfl) (hpl:(ZL pos (V4 es X.env)).any (·.1)=false:=by rfl):PE X (.Call (.Name x p) (e::es) [] pos) (tCB r t):=by
 intro pins s σ H Q I h
 refine Yq (iK I hg hm hv ?_ hn hdb)
 exact Wq (thn (ha pos pins s σ H _ I h) fun us s1 ⟨vs,H1,I1,r1,q1⟩=>hc pins s1 σ H1 vs us Q I1 r1 q1) he hpl
end
end L2
namespace HT
open PySem PyProof.Rows
def lexLt:List Int->List Int->Bool
 | [],[]=>false
 | [],_::_=>true
 | _::_,[]=>false
 | x::xs,y::ys=>if x=y then lexLt xs ys else decide (x < y)
theorem gm (x y:Int) (xs ys:List Int):lexLt (x::xs) (y::ys)=if x=y then lexLt xs ys else decide (x < y):=rfl
theorem qM (y:Int) (ys:List Int):lexLt [] (y::ys)=true:=rfl
theorem qO (x:Int) (xs:List Int):lexLt (x::xs) []=false:=rfl
section
open PySem.SeqAt
open PySem.AutoSeq1 (wpAny_loadPart')
open PySem.MeetsSeq PySem.MeetsSeq2 PySem.MeetsSeq3
end
section
variable {prog:Vp} {w:VP} {A:VR} {E:Value->Uz->Prop} {s:Uz}
theorem NT {t b:Addr} {vs ws:List Value} {Q:Value->Uz->Prop} (ht:IsTup s.heap t vs.toArray) (hb:IsTup s.heap b ws.toArray) (hv:vs≠[])
  (h1:ws=[]->Q (.ref t) s) (h2:ws≠[]->Q (.ref s.heap.objs.size) { s with heap:=s.heap.push { cls:=.type "tuple",data:=.seq (vs++ws).toArray } })
  (hsz:vs.length+ws.length<=sizeLine):U4 (Vk prog w) A (YK .Add (.ref t) (.ref b)) Q E s:=by
 obtain⟨⟨cls,dd,data,sl⟩,ho,hc,n,hd⟩:=id ht
 obtain⟨⟨cls2,dd2,data2,sl2⟩,ho2,hc2,n2,hd2⟩:=id hb
 simp only at hc hd hc2 hd2
 subst hc hd hc2 hd2
 have e:vs.toArray++ws.toArray=(vs++ws).toArray:=by simp
 by_cases hw:ws=[]
 ·exact concat_meets ⟨_,ho,rfl⟩ ⟨_,ho2,rfl⟩ abF seq_tuple_add aaH aaz (aat _ _)
   (tuple_addW1 t b vs.toArray ws.toArray n n2 dd dd2 sl sl2 (by simpa using hv) (by simp [hw])) ⟨ho,ho2,h1 hw⟩
 ·refine concat_meets ⟨_,ho,rfl⟩ ⟨_,ho2,rfl⟩ abF seq_tuple_add aaH aaz (aat _ _)
   (tuple_addW2 t b vs.toArray ws.toArray n n2 dd dd2 sl sl2 (by simpa using hv) (by simpa using hw) (by rw[U7,U7]; exact hsz)) ⟨ho,ho2,?_⟩
  rw[e]
  exact h2 hw
def sIx (n d:Nat):Option Int->Nat
 | none=>d
 | some v=>if v < 0 then (v+(n:Int)).toNat else min v.toNat n
theorem zy (n d:Nat):sIx n d none=d:=rfl
theorem sO (n d k:Nat):sIx n d (some (k:Int))=min k n:=by
 show (if (k:Int) < 0 then ((k:Int)+(n:Int)).toNat else min (k:Int).toNat n)=min k n
 rw[if_neg (by lia),Vu]
theorem Qo (n d:Nat) (hd:d<=n) (o:Option Int):sIx n d o<=n:=by
 cases o with
 | none=>exact hd
 | some v =>
  show (if v < 0 then (v+(n:Int)).toNat else min v.toNat n)<=n
  by_cases hv:v < 0
  ·rw[if_pos hv]; lia
  ·rw[if_neg hv]; exact Nat.min_le_right _ _
theorem Er (v:Int) (n d:Nat):(if v < 0 then max (v+(n:Int)) 0 else min v (n:Int))=((sIx n d (some v):Nat):Int):=by
 show (if v < 0 then max (v+(n:Int)) 0 else min v (n:Int))=(((if v < 0 then (v+(n:Int)).toNat else min v.toNat n):Nat):Int)
 by_cases hv:v < 0
 ·simp only[if_pos hv]; lia
 ·simp only[if_neg hv]; lia
theorem Du (lo hi:Option Int) (n:Nat):aak lo hi 1 (n:Int)=(((sIx n 0 lo:Nat):Int),((sIx n n hi:Nat):Int)):=by
 have h1:¬ ((1:Int) < 0):=by lia
 unfold aak
 simp only[h1,if_false]
 refine Prod.ext ?_ ?_
 ·cases lo with
  | none=>rfl
  | some v=>exact Er v n 0
 ·cases hi with
  | none=>rfl
  | some v=>exact Er v n n
theorem De (i j:Nat):Zb (i:Int) (j:Int) 1=j - i:=by
 unfold Zb
 have h1:(1:Int) > 0:=by lia
 simp only[h1,if_true,Int.ediv_one]
 split <;> lia
theorem rO {v:Value} {o:Option Int} {Q:Option Int->Uz->Prop} (p:abM v o) (h:Q o s):U4 (Vk prog w) A (Builtin.Slice.slicePartIndex v) Q E s:=by
 cases p with
 | none=>exact slicePart_none h
 | int i t=>exact slicePart_int h
theorem n8 {sl:Addr} {vl vu:Value} {lo hi:Option Int} {n:Nat} {Q:Int × Int × Nat->Uz->Prop} (hs:s.heap.IsSliceOf sl vl vu .none) (pl:abM vl lo) (pu:abM vu hi)
  (h:Q (((sIx n 0 lo:Nat):Int),1,sIx n n hi - sIx n 0 lo) s):U4 (Vk prog w) A (Builtin.Slice.sliceApplied (.ref sl) (pure (n:Int))) Q E s:=by
 obtain⟨os,hos,hcs,hds⟩:=id hs
 unfold Builtin.Slice.sliceApplied Builtin.Slice.sliceFields
 refine Uw (Uw (VD hos hds (x:=vl) rfl (Uw (VD hos hds (x:=vu) rfl (Uw (VD hos hds (x:=.none) rfl (UJ ?_)))))))
 refine Uw (slicePart_none ?_)
 show U4 _ _ (if ((1:Int) == 0)=true then _ else _) _ _ s
 rw[if_neg (by decide)]
 refine Uw (rO pl (Uw (rO pu (Uw (UJ ?_)))))
 show U4 _ _ (match aak lo hi 1 (n:Int) with | (lo,hi)=>pure (lo,(1:Int),Zb lo hi 1)) _ _ s
 rw[Du lo hi n]
 show U4 _ _ (pure (((sIx n 0 lo:Nat):Int),(1:Int),Zb ((sIx n 0 lo:Nat):Int) ((sIx n n hi:Nat):Int) 1)) _ _ s
 rw[De]
 exact UJ h
theorem Km (xs:Array Value) (i k:Nat):((Vb k).filterMap fun (m:Nat)=>xs[((i:Int)+(m:Int) * 1).toNat]?).toArray=((xs.toList.drop i).take k).toArray:=by
 have e:(fun (m:Nat)=>xs[((i:Int)+(m:Int) * 1).toNat]?)=fun m=>xs[i+m]?:=by
  funext m
  have:((i:Int)+(m:Int) * 1).toNat=i+m:=by lia
  rw[this]
 rw[e]
 have:=pick_run xs i k
 rw[List.filterMap_map] at this
 have e2:((fun x=>xs[x]?) ∘ fun x=>i+x)=fun m=>xs[i+m]?:=rfl
 rw[e2] at this
 rw[this]
theorem mJ {t sl:Addr} {items:Array Value} {vl vu:Value} {lo hi:Option Int} {Q:Value->Uz->Prop} (ht:IsTup s.heap t items) (hs:s.heap.IsSliceOf sl vl vu .none) (pl:abM vl lo) (pu:abM vu hi)
  (hw:¬ (sIx items.size 0 lo=0/\sIx items.size items.size hi=items.size))
  (h:Q (.ref s.heap.objs.size) { s with heap:=s.heap.push { cls:=.type "tuple",data:=.seq ((items.toList.drop (sIx items.size 0 lo)).take (sIx items.size items.size hi - sIx items.size 0 lo)).toArray } })
  (hsz:items.size<=sizeLine):U4 (Vk prog w) A (aa4 (.ref t) (.ref sl)) Q E s:=by
 have htake:sizeOk (.seq ((items.toList.drop (sIx items.size 0 lo)).take (sIx items.size items.size hi - sIx items.size 0 lo)).toArray):=by
  show ((items.toList.drop (sIx items.size 0 lo)).take (sIx items.size items.size hi - sIx items.size 0 lo)).toArray.size<=sizeLine
  rw[U7,Vc,Xv,Vo]
  lia
 have hj:sIx items.size items.size hi<=items.size:=Qo _ _ (U0 _) hi
 obtain⟨os,hos,hcs,hds⟩:=id hs
 have hTs:s.TypeIs (.ref sl) "slice":=⟨os,hos,hcs⟩
 unfold aa4
 try with_reducible refine Xf ?_
 first | refine Uw (UJ ?_) | skip
 refine Uw (wpAny_sequenceKey ht.typeIs (by decide) ?_)
 refine Uw (V0 (name:=WX "__getitem__") ht.typeIs abC
  (V2 abC ht.typeIs entry_tuple_getitem ?_ (args_tuple_getitem _ _)))
 show U4 _ _ (Builtin.Tuple.tupleItemsOf (.ref t) >>= _) _ _ s
 refine Uw (tupleItemsOf_ ht ?_)
 refine Uw (wpAny_typeOf hTs ?_)
 rw[if_pos (by decide)]
 refine Uw (n8 hs pl pu ?_)
 have hno:¬ ((((sIx items.size 0 lo:Nat):Int) == 0 && (1:Int) == 1 && (sIx items.size items.size hi - sIx items.size 0 lo) == items.size)=true):=by
  intro q
  rw[WK,WK] at q
  have q1:((sIx items.size 0 lo:Nat):Int)=0:=eq_of_beq q.1.1
  have q2:sIx items.size items.size hi - sIx items.size 0 lo=items.size:=eq_of_beq q.2
  exact hw ⟨by lia,by lia⟩
 show U4 _ _ (if (((sIx items.size 0 lo:Nat):Int) == 0 && (1:Int) == 1 && (sIx items.size items.size hi - sIx items.size 0 lo) == items.size)=true then _ else _) _ _ s
 rw[if_neg hno,Km]
 first
  | exact Uw (m:=Ze _) (V1 (UJ ⟨_,rfl,UJ h⟩) htake)
  | exact Uw (m:=Ze _) (V1 (Uw (UJ (UJ ⟨_,rfl,UJ h⟩))) htake)
  | exact Uw (Uw (m:=Ze _) (V1 (UJ (UJ ⟨_,rfl,UJ h⟩)) htake))
  | exact Uw (Uw (m:=Ze _) (V1 (UJ ⟨_,rfl,UJ h⟩) htake))
end
end HT
namespace L2
open PySem PySem.Spec PyProof.Rows
abbrev TO:=St->Hp->(Option Int->Hp->Prop)->Prop
def PO (X:Cx) (e:Option Expr) (t:TO):Prop :=
 ∀ (pins:List (Addr × Yh)) (s:Uz) (σ:St) (H:Hp) (Q:Option Int->Hp->Prop),Inv X pins σ H s->t σ H Q →
  U4 (Vk X.prog X.w) X.A (evalPart e X.env) (fun u s'=>∃ o H',Inv X pins σ H' s'/\abM u o/\Q o H') X.xe s
def kE:TO:=fun _ H Q=>Q none H
def xN (t:TE):TO:=fun σ H Q=>t σ H fun x H1=>∃ i,x = .int i/\Q (some i) H1
theorem intsAre_of {ns:List Int}:∀ {us:List Value},Vals (ns.map V.int) us->V8 us ns:=by
 induction ns with
 | nil=>intro us r; rw[Z5] at r; cases r; exact .nil
 | cons n ns ih =>
  intro us r
  rw[Vw] at r
  cases r with
  | cons r1 r2 =>
   obtain⟨t,e⟩:=r1
   subst e
   exact .cons n t (ih r2)
section
variable {X:Cx} {e:Expr} {te:TE} {lo hi:Option Expr} {tl th:TO} {pos p2:ZG}
theorem mO:PO X none kE:=by
 intro pins s σ H Q I h
 rw[evalPart_none]
 exact UJ ⟨none,H,I,.none,h⟩
theorem jn (h:PE X e te):PO X (some e) (xN te):=by
 intro pins s σ H Q I hw
 rw[evalPart_some]
 refine thn (h pins s σ H _ I hw) fun u s1 ⟨x,H1,I1,r1,q1⟩=>?_
 obtain⟨i,rfl,q⟩:=q1
 obtain⟨t,rfl⟩:=r1
 exact⟨some i,H1,I1,.int i t,q⟩
def SlR (X:Cx) (r:V->Option Int->Option Int->Hp->VK->Prop):Prop :=
 ∀ (pins:List (Addr × Yh)) (s:Uz) (σ:St) (H:Hp) (x:V) (v vl vu:Value) (lo hi:Option Int) (sl:Addr) (Q:VK),Inv X pins σ H s->RelV x v->s.heap.IsSliceOf sl vl vu .none->abM vl lo->abM vu hi->r x lo hi H Q →
  ∃ T id,typeLookup (.type T) "__getitem__" = pure (some (.builtin id))/\s.TypeIs v T/\U4 (Vk X.prog X.w) X.A (aa4 v (.ref sl)) (EP X pins σ Q) X.xe s
def tSl (r:V->Option Int->Option Int->Hp->VK->Prop) (te:TE) (tl th:TO):TE:=fun σ H Q=>te σ H fun x H1=>tl σ H1 fun l H2=>th σ H2 fun u H3=>r x l u H3 Q
theorem jb {r:V->Option Int->Option Int->Hp->VK->Prop} (hr:SlR X r) (he:PE X e te) (hl:PO X lo tl) (hu:PO X hi th):PE X (.Subscript e (.Slice lo hi none p2) pos) (tSl r te tl th):=by
 intro pins s σ H Q I h
 refine Subscript_ (thn (he pins s σ H _ I h) fun v s1 ⟨x,H1,I1,r1,q1⟩=>?_)
 refine wpAny_Slice (thn (hl pins s1 σ H1 _ I1 q1) fun vl s2 ⟨l,H2,I2,pl,q2⟩=>thn (hu pins s2 σ H2 _ I2 q2) fun vu s3 ⟨u,H3,I3,pu,q3⟩=>?_)
 rw[evalPart_none]
 refine UJ ?_
 have I4:Inv X pins σ H3 { s3 with heap:=s3.heap.push { cls:=.type "slice",data:=.fields #[vl,vu,.none] } }:=I3.kept (t':=s3.toks) fun b ob q=>Ux _ q
 obtain⟨T,id,hT,ht,hg⟩:=hr pins { s3 with heap:=s3.heap.push { cls:=.type "slice",data:=.fields #[vl,vu,.none] } } σ H3 x v vl vu l u s3.heap.objs.size Q I4 r1 (Heap.IsSliceOf.new ..) pl pu q3
 show U4 (Vk X.prog X.w) X.A (subscriptTail e (.Slice lo hi none p2) v (.ref s3.heap.objs.size)) (EP X pins σ Q) X.xe { s3 with heap:=s3.heap.push { cls:=.type "slice",data:=.fields #[vl,vu,.none] } }
 exact tail_any (ops:=[.ref s3.heap.objs.size,v]) ht hT hg (by with_unfolding_all rfl)
def xm (xs:List V) (lo hi:Option Int):List V:=(xs.drop (HT.sIx xs.length 0 lo)).take (HT.sIx xs.length xs.length hi - HT.sIx xs.length 0 lo)
theorem pU (xs:List V) (lo hi:Option Int):(xm xs lo hi).length<=xs.length:=by
 unfold xm
 rw[Vc,Xv]
 lia
inductive Qv (K:Vg) (x:V) (lo:Option Int) (hi:Option Int) (H:Hp) (Q:VK):Prop where
 | mk (a:Addr) (xs:List V) (z0:x = .ref a) (z1:SqT K H a xs) (z2:¬ (HT.sIx xs.length 0 lo=0/\HT.sIx xs.length xs.length hi=xs.length)) (z3:∀ p,H p=none->Q (.ref p) (upd H p (.tup (xm xs lo hi)))):Qv K x lo hi H Q
def Dw (K:Vg):V->Option Int->Option Int->Hp->VK->Prop:=fun x lo hi H Q=>Qv K x lo hi H Q
theorem uJ:SlR X (Dw X.K):=by
 intro pins s σ H x v vl vu lo hi sl Q I rx hs pl pu h
 obtain⟨a,xs,rfl,hx,hw,q⟩:=h
 cases rx
 obtain⟨its,r,ht,hz⟩:=I.tuple hx
 have hlen:its.toArray.size=xs.length:=by rw[U7]; exact r.length.symm
 refine⟨"tuple",_,PyProof.Rows.slot_tuple_getitem.lookup,ht.typeIs,?_⟩
 refine HT.mJ ht hs pl pu (by rw[hlen]; exact hw) ?_ (by rw[hlen]; exact hz)
 rw[hlen]
 refine⟨.ref s.heap.objs.size,_,I.laid (t':=s.toks) (o:=.tup (xm xs lo hi)) (fun b ob q=>Ux _ q) (U0 _) ?_,rfl,q _ (I.hok.fresh (U0 _))⟩
 exact⟨Wd (pU xs lo hi) hz,_,(r.drop (HT.sIx xs.length 0 lo)).take (HT.sIx xs.length xs.length hi - HT.sIx xs.length 0 lo),IsTup.new _ _⟩
def Sv (K:Vg):R2:=fun x y H Q=>∃ a b xs ys,x = .ref a/\y = .ref b/\SqT K H a xs/\SqT K H b ys/\xs≠[]/\xs.length+ys.length<=sizeLine ∧
 (ys=[]->Q (.ref a) H)/\(ys≠[]->∀ p,H p=none->Q (.ref p) (upd H p (.tup (xs++ys))))
theorem Vals.tH {xs:List V} {us:List Value} (r:Vals xs us):us=[] ↔ xs=[]:=by
 cases r with
 | nil=>simp
 | cons _ _=>simp
theorem Nt:OpR X (YK .Add) (Sv X.K):=by
 intro pins s σ H x y v u Q I rx ry h
 obtain⟨a,b,xs,ys,rfl,rfl,ha,hb,hx,hz,q1,q2⟩:=h
 cases rx
 cases ry
 obtain⟨its,r1,p1,_⟩:=I.tuple ha
 obtain⟨its2,r2,p2,_⟩:=I.tuple hb
 refine HT.NT p1 p2 (fun z=>hx (r1.tH.mp z)) (fun z=>⟨.ref a,H,I,rfl,q1 (r2.tH.mp z)⟩) (fun z=>?_) (by rw[← r1.length,← r2.length]; exact hz)
 refine⟨.ref s.heap.objs.size,_,I.laid (t':=s.toks) (o:=.tup (xs++ys)) (fun b ob q=>Ux _ q) (U0 _) ?_,rfl,q2 (fun w=>z (r2.tH.mpr w)) _ (I.hok.fresh (U0 _))⟩
 exact⟨by rw[Va]; exact hz,_,r1.append r2,IsTup.new _ _⟩
end
end L2
namespace L2
open PySem PySem.Spec PyProof.Rows
def ixN (n:Nat) (i:Int):Option Nat:=if 0<=i then (if i < n then some i.toNat else none) else if -(n:Int)<=i then some (i+n).toNat else none
def atI {α:Type} (xs:List α) (i:Int):Option α:=(ixN xs.length i).bind fun j=>xs[j]?
theorem M9 {n:Nat} {i:Int} {j:Nat} (h:ixN n i=some j):seqIndex? i n=some j/\j < n/\-(n:Int)<=i/\i < n:=by
 unfold ixN at h
 by_cases h0:0<=i
 ·rw[if_pos h0] at h
  by_cases h1:i < n
  ·rw[if_pos h1] at h
   have e:i.toNat=j:=VF h
   exact⟨by rw[seqIndex_of h0 h1,e],by lia,by lia,h1⟩
  ·rw[if_neg h1] at h; cases h
 ·rw[if_neg h0] at h
  by_cases h1 : -(n:Int)<=i
  ·rw[if_pos h1] at h
   have e:(i+n).toNat=j:=VF h
   exact⟨by rw[seqIndex_neg (by lia) h1,e],by lia,h1,by lia⟩
  ·rw[if_neg h1] at h; cases h
theorem yj {α:Type} {xs:List α} {i:Int} {v:α} (h:atI xs i=some v):∃ j,seqIndex? i xs.length=some j/\xs[j]? = some v/\j < xs.length/\-(xs.length:Int)<=i/\i < xs.length:=by
 unfold atI at h
 cases e:ixN xs.length i with
 | none=>rw[e] at h; cases h
 | some j =>
  rw[e] at h
  obtain⟨h1,h2,h3,h4⟩:=M9 e
  exact⟨j,h1,h,h2,h3,h4⟩
theorem eZ {α:Type} {xs:List α} {j:Nat} {v:α} (h:xs[j]? = some v):atI xs (j:Int)=some v:=by
 have hj:j < xs.length:=(List.getElem?_eq_some_iff.mp h).1
 have e:ixN xs.length (j:Int)=some j:=by
  unfold ixN
  rw[if_pos (by lia),if_pos (by lia)]; simp
 unfold atI; rw[e]; exact h
theorem J8 {α:Type} (xs:List α) (v:α):atI (xs++[v]) (-1)=some v:=by
 have hl:(xs++[v]).length=xs.length+1:=by simp
 have e:ixN (xs++[v]).length (-1)=some xs.length:=by
  unfold ixN
  rw[hl,if_neg (by decide),if_pos (by lia)]
  congr 1
  lia
 unfold atI
 rw[e]
 show (xs++[v])[xs.length]? = some v
 simp
def Nv (b:Expr):Prop:=∀ o i,abR b false o i=operate [o,i] (aa4 o i)
def IxR (X:Cx) (r:R2):Prop :=
 ∀ (value slice:Expr) (pins:List (Addr × Yh)) (s:Uz) (σ:St) (H:Hp) (x y:V) (v u:Value) (Q:VK),Inv X pins σ H s->RelV x v->RelV y u->r x y H Q →
  abR slice false v u=operate [v,u] (aa4 v u)->U4 (Vk X.prog X.w) X.A (subscriptTail value slice v u) (EP X pins σ Q) X.xe s
def MtR (X:Cx) (id:String) (r:V->List V->Hp->VK->Prop):Prop :=
 ∀ (pins:List (Addr × Yh)) (s:Uz) (σ:St) (H:Hp) (x:V) (xs:List V) (v:Value) (us:List Value) (Q:VK),Inv X pins σ H s->RelV x v->Vals xs us->r x xs H Q →
  U4 (Vk X.prog X.w) X.A (call (.builtin id) (v::us)) (EP X pins σ Q) X.xe s
section
variable {X:Cx} {a b:Expr} {ta tb:TE} {pos:ZG}
theorem IxR.or {r r':R2} (h:IxR X r) (h':IxR X r'):IxR X (fun x y H Q=>r x y H Q∨r' x y H Q):=by
 intro value slice pins s σ H x y v u Q I rx ry q hs
 rcases q with q | q
 ·exact h value slice pins s σ H x y v u Q I rx ry q hs
 ·exact h' value slice pins s σ H x y v u Q I rx ry q hs
theorem bh {r:R2} (hr:IxR X r) (ha:PE X a ta) (hb:PE X b tb) (hs:Nv b):PE X (.Subscript a b pos) (tOp r ta tb):=by
 intro pins s σ H Q I h
 exact Subscript_ (Ss ha hb I h fun v u s2 x y H2 I2 rx ry q=>hr a b pins s2 σ H2 x y v u Q I2 rx ry q (hs _ _))
inductive Rk (K:Vg) (x:V) (y:V) (H:Hp) (Q:VK):Prop where
 | mk (p:Addr) (xs:List V) (i:Int) (v:V) (z0:x = .ref p) (z1:y = .int i) (z2:SqL K H p xs) (z3:atI xs i=some v) (z4:Q v H):Rk K x y H Q
def gj (K:Vg):R2:=fun x y H Q=>Rk K x y H Q
inductive Qa (K:Vg) (x:V) (y:V) (H:Hp) (Q:VK):Prop where
 | mk (p:Addr) (xs:List V) (i:Int) (v:V) (z0:x = .ref p) (z1:y = .int i) (z2:SqT K H p xs) (z3:atI xs i=some v) (z4:Q v H):Qa K x y H Q
def gk (K:Vg):R2:=fun x y H Q=>Qa K x y H Q
def Tc:R2:=fun x y H Q=>∃ z i c,x = .str z/\y = .int i/\z.length<=sizeLine/\atI z.cps.toList i=some c/\Q (.str ⟨#[c]⟩) H
theorem bf:IxR X (gj X.K):=by
 intro value slice pins s σ H x y v u Q I rx ry h hs
 obtain⟨p,xs,i,z,rfl,rfl,hq,he,q⟩:=h
 cases rx
 obtain⟨t,rfl⟩:=ry
 obtain⟨its,r,pl,hz⟩:=I.list hq
 obtain⟨j,h1,h2,h3,h4,h5⟩:=yj he
 obtain⟨w,ew,rw'⟩:=r.get h2
 have hl:=r.length
 have hn:=vy
 have fin:EP X pins σ Q w s:=⟨z,H,I,rw',q⟩
 by_cases h0:0<=i
 ·have hj:i.toNat=j:=by
   rw[seqIndex_of h0 h5] at h1
   exact VF h1
  exact item_listR pl.isList h0 (by lia) (by rw[hj]; simpa using ew) fin hs
 ·have hj:(i+(its.toArray.size:Int)).toNat=j:=by
   rw[seqIndex_neg (by lia) h4] at h1
   rw[U7,← hl]
   exact VF h1
  exact subscriptTail_builtinR (x:=w) pl.isList.typeIs slot_list_getitem.lookup
   (wpAny_getItem_list_neg (Q:=fun r s'=>r=w/\EP X pins σ Q r s') pl.isList (by lia) (by rw[U7] <;> lia) (by lia) (by rw[hj]; simpa using ew) ⟨rfl,fin⟩) hs
theorem bC:IxR X (gk X.K):=by
 intro value slice pins s σ H x y v u Q I rx ry h hs
 obtain⟨p,xs,i,z,rfl,rfl,hq,he,q⟩:=h
 cases rx
 obtain⟨t,rfl⟩:=ry
 obtain⟨its,r,pl,hz⟩:=I.tuple hq
 obtain⟨j,h1,h2,h3,h4,h5⟩:=yj he
 obtain⟨w,ew,rw'⟩:=r.get h2
 have hl:=r.length
 have hn:=vy
 have fin:EP X pins σ Q w s:=⟨z,H,I,rw',q⟩
 exact subscriptTail_builtinR (x:=w) pl.typeIs slot_tuple_getitem.lookup
  (getItem_tuple (j:=j) (Q:=fun r s'=>r=w/\EP X pins σ Q r s') pl (by lia) (by lia) (by rw[U7,← hl]; exact h1) (by simpa using ew) ⟨rfl,fin⟩) hs
theorem Q9:IxR X Tc:=by
 intro value slice pins s σ H x y v u Q I rx ry h hs
 obtain⟨z,i,c,rfl,rfl,hz,he,q⟩:=h
 obtain⟨t,rfl⟩:=rx
 obtain⟨t',rfl⟩:=ry
 obtain⟨j,h1,h2,h3,h4,h5⟩:=yj he
 have hl:z.cps.toList.length=z.length:=by simp [Str.length]
 rw[hl] at h1 h4 h5
 have hn:=vy
 exact tail_any (typeIs_str s z t) slot_str_getitem.lookup (getItem_str (c:=c) (by
  have e1:decide (i < -(2 ^ 63:Int))=false:=decide_eq_false (by lia)
  have e2:decide (i ≥ 2 ^ 63)=false:=decide_eq_false (by lia)
  rw[e1,e2,Bool.or_false]) (by rw[h1]; simpa using h2) ⟨.str ⟨#[c]⟩,H,I.tok _,⟨_,rfl⟩,q⟩) hs
def rIx (K:Vg):R2:=fun x y H Q=>gj K x y H Q∨gk K x y H Q∨Tc x y H Q
theorem Ml:IxR X (rIx X.K):=bf.or (bC.or Q9)
theorem vD (lo hi:Option Int) (n:Nat):(ZS lo hi none n).1=((HT.sIx n 0 lo:Nat):Int)/\(ZS lo hi none n).2.1=((HT.sIx n n hi:Nat):Int)/\(ZS lo hi none n).2.2=1:=by
 refine⟨?_,?_,rfl⟩
 ·cases lo with
  | none=>simp [ZS,HT.sIx]
  | some i =>
   simp only[ZS,HT.sIx,Option.getD_none,show (1:Int) > 0 by decide,if_true]
   by_cases h:i < 0
   ·simp only[h,if_true] <;> lia
   ·simp only[h,if_false] <;> lia
 ·cases hi with
  | none=>simp [ZS,HT.sIx]
  | some i =>
   simp only[ZS,HT.sIx,Option.getD_none,show (1:Int) > 0 by decide,if_true]
   by_cases h:i < 0
   ·simp only[h,if_true] <;> lia
   ·simp only[h,if_false] <;> lia
theorem uy (its:List Value) (lo hi:Option Int):slicePick its.toArray lo hi none=((its.drop (HT.sIx its.length 0 lo)).take (HT.sIx its.length its.length hi - HT.sIx its.length 0 lo)).toArray:=by
 obtain⟨h1,h2,h3⟩:=vD lo hi its.toArray.size
 unfold slicePick
 rw[h1,h2,h3]
 simp only[sliceRange_one,pick_run,U7] <;> rfl
inductive Q6 (K:Vg) (x:V) (lo:Option Int) (hi:Option Int) (H:Hp) (Q:VK):Prop where
 | mk (a:Addr) (xs:List V) (z0:x = .ref a) (z1:SqL K H a xs) (z2:∀ p,H p=none->Q (.ref p) (upd H p (.lst (xm xs lo hi)))):Q6 K x lo hi H Q
def RP (K:Vg):V->Option Int->Option Int->Hp->VK->Prop:=fun x lo hi H Q=>Q6 K x lo hi H Q
theorem Gi:SlR X (RP X.K):=by
 intro pins s σ H x v vl vu lo hi sl Q I rx hs pl pu h
 obtain⟨a,xs,rfl,hx,q⟩:=h
 cases rx
 obtain⟨its,r,ht,hz⟩:=I.list hx
 have hlen:=r.length
 refine⟨"list",_,slot_list_getitem.lookup,ht.isList.typeIs,?_⟩
 refine wpAny_getItem_list_slice ht.isList hs pl pu .none (by simp) ?_ (by rw[U7] <;> lia)
 rw[uy,← hlen]
 refine⟨.ref s.heap.objs.size,_,I.laid (t':=s.toks) (o:=.lst (xm xs lo hi)) (fun b ob q=>Ux _ q) (U0 _) ?_,rfl,q _ (I.hok.fresh (U0 _))⟩
 exact⟨Wd (pU xs lo hi) hz,_,0,(r.drop (HT.sIx xs.length 0 lo)).take (HT.sIx xs.length xs.length hi - HT.sIx xs.length 0 lo),UT _ rfl⟩
def sW:V->Bool
 | .non=>true
 | .bl _=>true
 | .int _=>true
 | .str _=>true
 | _=>false
def eqV:V->V->Bool
 | .non,.non=>true
 | .bl a,.bl b=>a == b
 | .bl a,.int b=>(if a then 1 else 0) == b
 | .int a,.bl b=>a == (if b then 1 else 0)
 | .int a,.int b=>a == b
 | .str a,.str b=>a == b
 | _,_=>false
theorem Qm {A:VR} {s:Uz} {y x:V} {u v:Value} (ry:RelV y u) (rx:RelV x v) (fy:sW y=true) (fx:sW x=true):SeqAt.EqAt A s u v (eqV y x):=by
 cases y with
 | non =>
  cases ry
  cases x with
  | non=>cases rx; exact aaP _
  | bl b=>cases rx; exact SeqAt.EqAt.none_bool b
  | int b=>obtain⟨t,rfl⟩:=rx; exact SeqAt.EqAt.none_int b t
  | str b=>obtain⟨t,rfl⟩:=rx; exact SeqAt.EqAt.none_str b t
  | _=>exact absurd (show false=true from fx) U5
 | bl a =>
  cases ry
  cases x with
  | non=>cases rx; exact SeqAt.EqAt.bool_none a
  | bl b=>cases rx; exact SeqAt.EqAt.bool_bool a b
  | int b=>obtain⟨t,rfl⟩:=rx; exact SeqAt.EqAt.bool_int a b t
  | str b=>obtain⟨t,rfl⟩:=rx; exact SeqAt.EqAt.bool_str a b t
  | _=>exact absurd (show false=true from fx) U5
 | int a =>
  obtain⟨t',rfl⟩:=ry
  cases x with
  | non=>cases rx; exact SeqAt.EqAt.int_none a t'
  | bl b=>cases rx; exact SeqAt.EqAt.int_bool a t' b
  | int b=>obtain⟨t,rfl⟩:=rx; exact aac a t' b t
  | str b=>obtain⟨t,rfl⟩:=rx; exact SeqAt.EqAt.int_str a t' b t
  | _=>exact absurd (show false=true from fx) U5
 | str a =>
  obtain⟨t',rfl⟩:=ry
  cases x with
  | non=>cases rx; exact SeqAt.EqAt.str_none a t'
  | bl b=>cases rx; exact SeqAt.EqAt.str_bool a t' b
  | int b=>obtain⟨t,rfl⟩:=rx; exact SeqAt.EqAt.str_int a t' b t
  | str b=>obtain⟨t,rfl⟩:=rx; exact SeqAt.EqAt.str_str a t' b t
  | _=>exact absurd (show false=true from fx) U5
 | _=>exact absurd (show false=true from fy) U5
def eqU (x:V) (u:Value):Bool:=match u with
 | .none=>eqV .non x
 | .bool b=>eqV (.bl b) x
 | .int i _=>eqV (.int i) x
 | .str z _=>eqV (.str z) x
 | _=>false
theorem LK {x y:V} {u:Value} (r:RelV y u) (f:sW y=true):eqU x u=eqV y x:=by
 cases y with
 | non=>cases r; rfl
 | bl b=>cases r; rfl
 | int i=>obtain⟨t,rfl⟩:=r; rfl
 | str z=>obtain⟨t,rfl⟩:=r; rfl
 | _=>exact absurd (show false=true from f) U5
theorem yp {x:V}:∀ {xs:List V} {us:List Value},Vals xs us->xs.all sW=true->us.any (eqU x)=xs.any fun y=>eqV y x
 | _,_,.nil,_=>rfl
 | y::xs,u::us,.cons r t,f=>by
  rw[ZR,WK] at f
  rw[Yz,Yz,LK r f.1,yp t f.2]
theorem sU {A:VR} {s:Uz} {x:V} {v:Value} (rx:RelV x v) (fx:sW x=true):∀ {xs:List V} {us:List Value},Vals xs us->xs.all sW=true->∀ u∈us,SeqAt.EqAt A s u v (eqU x u)
 | _,_,.nil,_=>fun u hu=>by cases hu
 | y::xs,u::us,.cons r t,f=>fun u' hu=>by
  rw[ZR,WK] at f
  rcases List.mem_cons.mp hu with rfl | hu
  ·rw[LK r f.1]; exact Qm r rx f.1 fx
  ·exact sU rx fx t f.2 u' hu
def inV (x:V) (xs:List V):Bool:=xs.any fun y=>eqV y x
inductive S7 (K:Vg) (neg:Bool) (x:V) (y:V) (H:Hp) (Q:VK):Prop where
 | mk (p:Addr) (xs:List V) (z0:y = .ref p) (z1:(SqL K H p xs∨SqT K H p xs)) (z2:sW x=true) (z3:xs.all sW=true) (z4:Q (.bl (if neg then !inV x xs else inV x xs)) H):S7 K neg x y H Q
def rIn (K:Vg) (neg:Bool):R2:=fun x y H Q=>S7 K neg x y H Q
theorem iG:OpR X (Xa .In) (rIn X.K false):=by
 intro pins s σ H x y v u Q I rx ry h
 obtain⟨p,xs,rfl,hq,fx,fs,q⟩:=h
 cases ry
 rcases hq with hq | hq
 ·obtain⟨its,r,pl,hz⟩:=I.list hq
  refine SeqAt.in_listAt (eqU x) pl.isList (fun w hw=>sU rx fx r fs w (by simpa using hw)) ⟨.bl _,H,I,rfl,?_⟩
  rw[show its.toArray.any (eqU x)=its.any (eqU x) by simp,yp r fs]
  exact q
 ·obtain⟨its,r,pl,hz⟩:=I.tuple hq
  refine SeqAt.in_tupleAt (eqU x) pl (fun w hw=>sU rx fx r fs w (by simpa using hw)) ⟨.bl _,H,I,rfl,?_⟩
  rw[show its.toArray.any (eqU x)=its.any (eqU x) by simp,yp r fs]
  exact q
theorem vo:iR X (.builtin "len") (fun xs H Q=>∃ p ys,xs=[.ref p]/\(SqL X.K H p ys∨SqT X.K H p ys)/\Q (.int ys.length) H):=by
 intro pins s σ H xs us Q I r h
 obtain⟨p,ys,rfl,hq,q⟩:=h
 obtain⟨u,rfl,rx⟩:=vals1 r
 cases rx
 have hn:=vy
 rcases hq with hq | hq
 ·obtain⟨its,r',pl,hz⟩:=I.list hq
  have hlen:=r'.length
  exact Calls.call_len_list pl.isList (by simp only[U7] <;> lia) ⟨.int ys.length,H,I.tok _,⟨s.toks+1,by rw[U7,hlen]⟩,q⟩
 ·obtain⟨its,r',pl,hz⟩:=I.tuple hq
  have hlen:=r'.length
  exact len_tuple pl (by simp only[U7] <;> lia) ⟨.int ys.length,H,I.tok _,⟨s.toks+1,by rw[U7,hlen]⟩,q⟩
theorem vg:iR X (.type "list") (fun xs H Q=>∃ p ys,xs=[.ref p]/\(SqL X.K H p ys∨SqT X.K H p ys)/\∀ l,H l=none->Q (.ref l) (upd H l (.lst ys))):=by
 intro pins s σ H xs us Q I r h
 obtain⟨p,ys,rfl,hq,q⟩:=h
 obtain⟨u,rfl,rx⟩:=vals1 r
 cases rx
 have fin:∀ (its:List Value),Vals ys its->ys.length<=sizeLine->∀ (h':Wc) (c':Nat),(∀ b o',s.heap.get? b=some o'->h'.get? b=some o') →
   h'.get? s.heap.objs.size=some { cls:=.type "list",dict:=none,data:=.seq its.toArray c',slots:=#[] }->EP X pins σ Q (.ref s.heap.objs.size) { s with heap:=h' }:=fun its r' hz h' c' kp e =>
  ⟨.ref s.heap.objs.size,_,I.laid (t':=s.toks) kp (U0 _) (show fB X.prog X.w _ h' _ (.lst ys) from ⟨hz,its,c',r',e⟩),rfl,q _ (I.hok.fresh (U0 _))⟩
 rcases hq with hq | hq
 ·obtain⟨its,r',pl,hz⟩:=I.list hq
  have hlen:=r'.length
  obtain⟨o,ho,hc,n,hd⟩:=pl.isList
  exact call_list_seq p (.inl rfl) ho hc hd (fun h' c' kp e=>fin its r' hz h' c' kp e) (by simp only[U7] <;> lia)
 ·obtain⟨its,r',pl,hz⟩:=I.tuple hq
  have hlen:=r'.length
  obtain⟨o,ho,hc,n,hd⟩:=pl
  exact call_list_seq p (.inr rfl) ho hc hd (fun h' c' kp e=>fin its r' hz h' c' kp e) (by simp only[U7] <;> lia)
theorem sE:iR X (.type "tuple") (fun xs H Q=>∃ p ys,xs=[.ref p]/\((SqL X.K H p ys/\∀ l,H l=none->Q (.ref l) (upd H l (.tup ys)))∨(SqT X.K H p ys/\Q (.ref p) H))):=by
 intro pins s σ H xs us Q I r h
 obtain⟨p,ys,rfl,h⟩:=h
 obtain⟨u,rfl,rx⟩:=vals1 r
 cases rx
 rcases h with⟨hq,q⟩ | ⟨hq,q⟩
 ·obtain⟨its,r',pl,hz⟩:=I.list hq
  have hlen:=r'.length
  refine call_tuple_list pl.isList (fun h' kp=>?_) (by simp only[U7] <;> lia)
  have I1:Inv X pins σ H { s with heap:=h' }:=I.kept (t':=s.toks) kp
  have I2:Inv X pins σ (upd H h'.objs.size (.tup ys)) { s with heap:=h'.push { cls:=.type "tuple",data:=.seq its.toArray } } :=
   I1.laid (t':=s.toks) (fun b o e=>Ux _ e) (U0 _) (show fB X.prog X.w _ _ _ (.tup ys) from ⟨hz,its,r',IsTup.new _ _⟩)
  exact⟨.ref h'.objs.size,_,I2,rfl,q _ (I1.hok.fresh (U0 _))⟩
 ·obtain⟨its,r',pl,hz⟩:=I.tuple hq
  exact call_tuple_same pl ⟨.ref p,H,I,rfl,q⟩
def tyV (K:Vg) (T:String) (x:V) (H:Hp):Prop:=match x with
 | .str _=>T = "str"
 | .int _=>T = "int"
 | .ref p=>(T = "list"/\∃ xs,SqL K H p xs)∨(T = "tuple"/\∃ o,K.lookup p=some o/\o.cls = .type "tuple"/\o.dict=none) ∨
   (T = "dict"/\((∃ kvs,H p=some (.dK kvs))∨∃ kvs,H p=some (.dT kvs)))∨(T = "set"/\∃ S n,H p=some (.set S n))
 | _=>False
theorem Mu {pins:List (Addr × Yh)} {σ:St} {H:Hp} {s:Uz} {T:String} {x:V} {v:Value} (I:Inv X pins σ H s) (r:RelV x v) (ty:tyV X.K T x H) :
  s.TypeIs v T/\∀ a,v = .ref a->∃ ob,s.heap.get? a=some ob/\ob.dict=none:=by
 cases x with
 | str z =>
  obtain⟨t,rfl⟩:=r
  cases (show T = "str" from ty)
  exact⟨typeIs_str s z t,fun _ e=>nomatch e⟩
 | int i =>
  obtain⟨t,rfl⟩:=r
  cases (show T = "int" from ty)
  exact⟨aab s i t,fun _ e=>nomatch e⟩
 | ref p =>
  cases r
  rcases ty with⟨rfl,xs,hq⟩ | ⟨rfl,o,hk,hc,hd⟩ | ⟨rfl,hk⟩ | ⟨rfl,S,n,hk⟩
  ·obtain⟨its,_,pl,_⟩:=I.list hq
   refine⟨pl.isList.typeIs,fun a e=>?_⟩
   cases e
   obtain⟨o,n,e,c,hd,_⟩:=pl
   exact⟨o,e,hd⟩
  ·refine⟨⟨o,I.kIn p o hk,hc⟩,fun a e=>?_⟩
   cases e
   exact⟨o,I.kIn _ o hk,hd⟩
  ·have z:∃ o,s.heap.get? p=some o/\o.ExactDict:=by
    rcases hk with⟨kvs,hk⟩ | ⟨kvs,hk⟩
    ·obtain⟨_,_,_,_,o,_,_,e,ex,_⟩:=I.hok p _ hk
     exact⟨o,e,ex⟩
    ·obtain⟨_,_,_,_,o,_,_,e,ex,_⟩:=I.hok p _ hk
     exact⟨o,e,ex⟩
   obtain⟨o,e,ex⟩:=z
   refine⟨⟨o,e,ex.1⟩,fun a e2=>?_⟩
   cases e2
   exact⟨o,e,ex.2.1⟩
  ·obtain⟨o,_,_,_,e,ex,_⟩:=I.hok p _ hk
   refine⟨⟨o,e,ex.1⟩,fun a e2=>?_⟩
   cases e2
   exact⟨o,e,ex.2.1⟩
 | _=>exact YX ty
def Tg (K:Vg) (T:String) (r:V->List V->Hp->VK->Prop) (to:TE):TE:=fun σ H Q=>to σ H fun x H1=>tyV K T x H1/\r x [] H1 Q
def tBM (K:Vg) (T:String) (r:V->List V->Hp->VK->Prop) (to:TE) (t:TA):TE:=fun σ H Q=>to σ H fun x H1=>tyV K T x H1/\t σ H1 fun xs H2=>r x xs H2 Q
variable {o e:Expr} {es:List Expr} {to:TE} {t:TA} {name:Wz} {apos cpos:ZG} {T id:String} {r:V->List V->Hp->VK->Prop}
theorem PN (pa:PlainAttrs T) (slot:Slot T name id) (hty:typeOf (.builtin id)=pure (.type "method_descriptor")) (hm:MtR X id r) (ho:PE X o to)
  (hbase:attributeBase o name X.env (X7 o X.env)=X7 o X.env:=by rfl) (hline:(apos.endLine == cpos.line)=true:=by rfl):PE X (.Call (.Attribute o name apos) [] [] cpos) (Tg X.K T r to):=by
 intro pins s σ H Q I h
 refine wpAny_Call_method0_late hbase hline (thn (ho pins s σ H _ I h) fun v s1 ⟨x,H1,I1,r1,ty,q1⟩=>?_)
 obtain⟨h1,h2⟩:=Mu I1 r1 ty
 exact⟨T,id,pa,slot,hty,h1,h2,Calls.callWith_builtin rfl (PySem.evalArgs_none (hm pins s1 σ H1 x [] v [] Q I1 r1 .nil q1))⟩
theorem kZ (pa:PlainAttrs T) (slot:Slot T name id) (hty:typeOf (.builtin id)=pure (.type "method_descriptor")) (hm:MtR X id r) (ho:PE X o to) (ha:PA X (e::es) t)
  (hbase:attributeBase o name X.env (X7 o X.env)=X7 o X.env:=by rfl)
  (hfew:((ZL cpos (V4 (e::es) X.env)).all (fun x=>!x.1) && (backToKw cpos (keywordEach [] X.env)).all (fun x=>x.1.isSome)
   && decide ((e::es).length+([]:List Keyword).length+(if ([]:List Keyword).isEmpty then 0 else 1) < 30))=true:=by rfl)
  (hline:(apos.endLine == cpos.line)=true:=by rfl) (hs:V4 (e::es) X.env=(false,X7 e X.env)::V4 es X.env:=by rfl) (hplain:(ZL cpos (V4 es X.env)).any (·.1)=false:=by rfl) :
  PE X (.Call (.Attribute o name apos) (e::es) [] cpos) (tBM X.K T r to t):=by
 intro pins s σ H Q I h
 refine wpAny_Call_method_late hbase hfew hline rfl (thn (ho pins s σ H _ I h) fun v s1 ⟨x,H1,I1,r1,ty,q1⟩=>?_)
 obtain⟨h1,h2⟩:=Mu I1 r1 ty
 refine⟨T,id,pa,slot,hty,h1,h2,?_⟩
 have hA:=ha cpos pins s1 σ H1 _ I1 q1
 rw[hs] at hA ⊢
 refine Calls.callWith_builtin (by show (false || (ZL cpos (V4 es X.env)).any (·.1))=false; rw[hplain] <;> rfl) (Calls.evalArgs_plain ?_)
 exact thn hA fun us s2 ⟨vs,H2,I2,r2,q2⟩=>hm pins s2 σ H2 x vs v us Q I2 r1 r2 q2
/- xs.append(e),list.index on a module's tuple .. are MtR facts of 06m -/
end
end L2
namespace L2
open PySem PySem.Spec PyProof.Rows
def MtM (X:Cx) (id:String) (r:V->List V->Hp->VK->Prop):Prop :=
 ∀ (pins:List (Addr × Yh)) (s:Uz) (σ:St) (H:Hp) (x:V) (xs:List V) (v:Value) (us:List Value) (Q:VK),Inv X pins σ H s->RelV x v->Vals xs us->r x xs H Q →
  U4 (Vk X.prog X.w) X.A (call (.builtin id) (v::us)) (EP X pins σ Q) X.xe s
theorem Vals.one:∀ {x:V} {us:List Value},Vals [x] us->∃ u,us=[u]/\RelV x u
 | _,_,.cons r .nil=>⟨_,rfl,r⟩
theorem Vals.zero:∀ {us:List Value},Vals [] us->us=[]
 | _,.nil=>rfl
theorem Vals.dropLast {xs:List V} {us:List Value} (h:Vals xs us):Vals xs.dropLast us.dropLast:=by
 induction h with
 | nil=>exact .nil
 | cons r t ih =>
  cases t with
  | nil=>exact .nil
  | cons q t'=>exact .cons r ih
theorem Vals.rep {xs:List V} {us:List Value} (h:Vals xs us):∀ k:Nat,Vals (Vf k xs).flatten (Vf k us).flatten
 | 0=>.nil
 | k+1=>by
  rw[Xn,Xn,ZD,ZD]
  exact Vals.append h (Vals.rep h k)
theorem BR {α:Type} (l:List α):l.eraseIdx (l.length - 1)=l.dropLast:=by
 induction l with
 | nil=>rfl
 | cons a r ih =>
  cases r with
  | nil=>rfl
  | cons b r =>
   have e:(a::b::r).length - 1=((b::r).length - 1)+1:=by
    have h1:(a::b::r).length=r.length+2:=rfl
    have h2:(b::r).length=r.length+1:=rfl
    lia
   rw[e,List.eraseIdx_cons_succ,ih]
   all_goals rfl
theorem foldl_rep (its:List Value):∀ (k:Nat) (acc:List Value),
  Zr (fun x1 x2=>x1++x2) acc.toArray (Vf k its.toArray)=(acc++(Vf k its).flatten).toArray
 | 0,acc=>by simp
 | k+1,acc=>by
  have e:acc.toArray++its.toArray=(acc++its).toArray:=by simp
  have e2:(acc++its)++(Vf k its).flatten=acc++(Vf (k+1) its).flatten:=by
   rw[Xn,ZD,XH]
  rw[← e2,← foldl_rep its k (acc++its),← e,Xn,Wi]
section
variable {X:Cx} {pins:List (Addr × Yh)} {σ:St} {H:Hp} {s:Uz} {l b:Addr} {xs ys zs:List V}
theorem Inv.SQ {its its':List Value} {n:Nat} {f:Array Value->Array Value} {t':Nat} (I:Inv X pins σ H s) (hH:H l=some (.lst xs))
  (e:s.heap.get? l=some { cls:=.type "list",data:=.seq its.toArray n }) (hf:f its.toArray=its'.toArray) (hv:Vals ys its') (hz:ys.length<=sizeLine) :
  Inv X pins σ (upd H l (.lst ys)) { s with heap:=s.heap.update l (Wa f),toks:=t' }:=by
 have q:=PySem.IsL.update e f
 rw[hf] at q
 refine I.write (x:=l) (e:=l) (by rw[hH]; exact trivial) (.inl rfl) (fun b' u hb hu=>(Wg s.heap (Wa f) (YG hb)).trans hu) ⟨_,q⟩ ?_
 exact⟨hz,its',_,hv,q⟩
theorem Inv.RX {its:List Value} {t':Nat} (I:Inv X pins σ H s) (hv:Vals ys its) (hz:ys.length<=sizeLine) :
  Inv X pins σ (upd H s.heap.objs.size (.lst ys)) { s with heap:=s.heap.push { cls:=.type "list",data:=.seq its.toArray },toks:=t' } :=
 I.laid (fun _ _ q=>Ux _ q) (U0 _) ⟨hz,its,0,hv,UT _ rfl⟩
theorem Inv.fresh (I:Inv X pins σ H s):H s.heap.objs.size=none:=I.hok.fresh (U0 _)
theorem Inv.Qi (I:Inv X pins σ H s) (hH:H l=some (.lst xs)):xs.length<=sizeLine/\∃ (its:List Value) (n:Nat),Vals xs its/\xs.length=its.length/\s.heap.get? l=some { cls:=.type "list",data:=.seq its.toArray n }:=by
 obtain⟨z,its,n,r,e⟩:=I.hok l _ hH
 exact⟨z,its,n,r,r.length,e⟩
theorem Kp {n:Nat} (h:n<=sizeLine):aaw n=false:=by
 unfold aaw
 exact decide_eq_false (by lia)
end
section
variable {X:Cx}
inductive zW (x:V) (vs:List V) (H:Hp) (Q:VK):Prop where
 | mk (l:Addr) (xs:List V) (y:V) (z0:x = .ref l) (z1:vs=[y]) (z2:H l=some (.lst xs)) (z3:xs.length < sizeLine) (z4:Q .non (upd H l (.lst (xs++[y])))):zW  x vs H Q
def O7:V->List V->Hp->VK->Prop:=fun x vs H Q=>zW  x vs H Q
theorem cB:MtM X "list.append" O7:=by
 intro pins s σ H x vs v us Q I rx rv h
 obtain⟨l,xs,y,rfl,rfl,hH,hz,q⟩:=h
 cases rx
 obtain⟨u,rfl,ru⟩:=rv.one
 obtain⟨z,its,n,r,hl,e⟩:=I.Qi hH
 refine Zq F.slot_list_append ⟨_,e,rfl⟩ F.entry_list_append (F.args_list_append_2 _ _) (PySem.list_append l its.toArray n u (by rw[U7]; lia)) ⟨e,?_⟩
 refine⟨.non,_,I.SQ (its':=its++[u]) hH e (by simp) (r.append (.cons ru .nil)) ?_,rfl,q⟩
 rw[Va,List.length_singleton]
 lia
def Uv:V->List V->Hp->VK->Prop:=fun x vs H Q=>∃ l xs y,x = .ref l/\vs=[]/\H l=some (.lst xs)/\xs[xs.length - 1]? = some y/\Q y (upd H l (.lst xs.dropLast))
theorem Ri:MtM X "list.pop" Uv:=by
 intro pins s σ H x vs v us Q I rx rv h
 obtain⟨l,xs,y,rfl,rfl,hH,hy,q⟩:=h
 cases rx
 have hus:=rv.zero
 subst hus
 obtain⟨z,its,n,r,hl,e⟩:=I.Qi hH
 obtain⟨u,hu,ru⟩:=r.get hy
 have hy':its.toArray[its.toArray.size - 1]? = some u:=by
  show its.toArray[its.length - 1]? = some u
  rw[← Wb,← hl]
  exact hu
 refine Zq F.slot_list_pop ⟨_,e,rfl⟩ F.entry_list_pop (F.args_list_pop_1 _) (MeetsSeq.list_pop_last l its.toArray n u hy' (by rw[U7]; lia)) ⟨e,?_⟩
 refine⟨y,_,I.SQ (its':=its.dropLast) hH e ?_ r.dropLast ?_,ru,q⟩
 ·show its.toArray.eraseIdxIfInBounds (its.toArray.size - 1)=its.dropLast.toArray
  rw[U7,List.eraseIdxIfInBounds_toArray,BR]
 ·rw[List.length_dropLast]
  lia
inductive QJ (x:V) (y:V) (H:Hp) (Q:VK):Prop where
 | mk (l:Addr) (b:Addr) (xs:List V) (zs:List V) (z0:x = .ref l) (z1:y = .ref b) (z2:H l=some (.lst xs)) (z3:H b=some (.lst zs)) (z4:xs.length+zs.length<=sizeLine) (z5:∀ p,H p=none->Q (.ref p) (upd H p (.lst (xs++zs)))):QJ  x y H Q
def Tn:R2:=fun x y H Q=>QJ  x y H Q
theorem rN:OpR X (YK .Add) Tn:=by
 intro pins s σ H x y v u Q I rx ry h
 obtain⟨l,b,xs,zs,rfl,rfl,hH,hB,hz,q⟩:=h
 cases rx
 cases ry
 obtain⟨z,its,n,r,hl,e⟩:=I.Qi hH
 obtain⟨z2,its2,n2,r2,hl2,e2⟩:=I.Qi hB
 refine PySem.P.add_list e e2 ?_ (by rw[U7,U7]; lia)
 have ea:its.toArray++its2.toArray=(its++its2).toArray:=by simp
 rw[ea]
 exact⟨.ref _,_,I.RX (t':=s.toks) (r.append r2) (by rw[Va]; lia),rfl,q _ I.fresh⟩
def Ut:R2:=fun x y H Q=>∃ l k xs,x = .ref l/\y = .int k/\H l=some (.lst xs)/\-(2 ^ 63)<=k/\k < 2 ^ 63/\xs.length * k.toNat<=sizeLine ∧
 ∀ p,H p=none->Q (.ref p) (upd H p (.lst (Vf k.toNat xs).flatten))
theorem len_rep {α:Type} (xs:List α) (k:Nat):(Vf k xs).flatten.length=k * xs.length:=by
 induction k with
 | zero=>simp
 | succ k ih=>rw[Xn,ZD,Va,ih,Nat.succ_mul,Nat.add_comm]
theorem EY:OpR X (YK .Mult) Ut:=by
 intro pins s σ H x y v u Q I rx ry h
 obtain⟨l,k,xs,rfl,rfl,hH,h1,h2,hz,q⟩:=h
 cases rx
 obtain⟨t,rfl⟩:=ry
 obtain⟨z,its,n,r,hl,e⟩:=I.Qi hH
 have hlen:its.toArray.size * k.toNat<=sizeLine:=by rw[U7,← hl]; exact hz
 have hcap:¬ its.toArray.size * k.toNat > (2 ^ 63 - 1) / 8:=by
  have:(sizeLine:Nat)<=(2 ^ 63 - 1) / 8:=by decide
  lia
 have hfit:¬ (!Builtin.List.listFitsIndex k)=true:=by
  rw[fitsIndex_both h1 h2]
  exact U5
 have hlong:¬ aaw (its.toArray.size * k.toNat)=true:=by
  rw[Kp hlen]
  exact U5
 have hnew:Zr (fun x1 x2=>x1++x2) #[] (Vf (if its.toArray.isEmpty=true then 0 else k.toNat) its.toArray)=(Vf k.toNat its).flatten.toArray:=by
  have f0:∀ m:Nat,Zr (fun x1 x2=>x1++x2) #[] (Vf m its.toArray)=(Vf m its).flatten.toArray:=fun m=>by
   have:=foldl_rep its m []
   rw[ZX] at this
   exact this
  rw[f0]
  cases its with
  | nil=>simp
  | cons a r'=>rw[if_neg (by simp)]
 refine aah (T:="list") (U:="int") (by decide) ⟨_,e,rfl⟩ (fun s'=>aab s' k t) noFill_list_mul abY Zm repeat_list F.slot_int_index.lookup
  (Zq Zm (aab s k t) abO (abB _ _) (int___rmul___int_list k t l its.toArray n)
   ⟨e,rfl,⟨_,e,rfl⟩,Zq F.slot_list_mul ⟨_,e,rfl⟩ F.entry_list_mul (F.args_list_mul_2 _ _) (AutoListH.list___mul___list_int_3 l its.toArray n k t hfit hcap hlong) ⟨e,?_⟩⟩)
 rw[hnew]
 exact⟨.ref _,_,I.RX (t':=s.toks) (r.rep k.toNat) (by rw[len_rep,Nat.mul_comm]; exact hz),rfl,q _ I.fresh⟩
end
section
variable {prog:Vp} {w:VP} {A:VR} {E:Value->Uz->Prop} {s:Uz}
set_option maxRecDepth 100000 in
end
section
variable {X:Cx}
end
end L2
namespace Att
open PySem PySem.W PySem.Calls PyProof.Rows
theorem pI {P:Params} {h:Wc}:∀ (ns:List Int) (vs:List Value),WellAll P h vs (ns.map WData.int)->V8 vs ns:=by
 intro ns
 induction ns with
 | nil =>
  intro vs w
  rw[Z5] at w
  cases w
  exact .nil
 | cons n ns ih =>
  intro vs w
  rw[Vw] at w
  cases w with
  | cons a b =>
   cases a
   exact .cons _ _ (ih _ b)
theorem Ek {l:OpenLaw} {n:Nat} (hn:l.most=some n) {P:Params} {h:Wc} {args:List WData} {vals:List Value}
  (hpre:l.row.toRowW.claim.pre args=true) (hwl:WellAll P h vals args) :
  ∃ a vs ns,vals=[Vy a]/\args=[WData.list (ns.map WData.int)]/\h.get? a=some { cls:=.type "list",data:=.seq vs.toArray }/\V8 vs ns/\ns.length<=n:=by
 have hsh:WShape.hasAll [] args [.list .int]=true:=(pre_splitW hpre).1
 have hc:l.pre.holds [] { args:=args }=true:=(pre_splitW hpre).2
 obtain⟨d,r,rfl,h1,h2⟩:=hasAllW_cons hsh
 obtain rfl:=hasAllW_nil h2
 obtain⟨xs,rfl,h3⟩:=hasW_list h1
 obtain⟨ns,rfl⟩:=items_int h3
 have hlen:ns.length<=n:=by
  unfold OpenLaw.pre at hc
  have h4:(WTm.not (.lt (.lit (.int (n:Int))) (.len (.arg 0)))).holds [] { args:=[.list (ns.map .int)] }=true:=by
   have h4:=(holds_andW hc).1
   rw[hn] at h4
   exact h4
  have h5:=condW_of h4 (w_not (w_lt w_lit (w_len_list (w_arg rfl))))
  rw[Uy] at h5
  refine Nat.le_of_not_lt fun q=>?_
  have q':(n:Int) < ((ns.length:Nat):Int):=by lia
  first
   | (rw[decide_eq_true q'] at h5; exact absurd h5 (by decide))
   | (simp at h5; lia)
 cases hwl with
 | cons w1 w2 =>
  cases w2
  cases w1 with
  | list ho hall=>exact⟨_,_,ns,rfl,rfl,ho,pI ns _ hall,hlen⟩
theorem GQ (l:OpenLaw) (args:List WData):l.row.toRowW.claim.post args (.bool true) args=true :=
 postW_of (r:=l.row.toRowW) (X:=(true == true))
  (show WShape.has [] (.bool true) .bool=true by first | rfl | decide | simp [WShape.has,WShape.arms,WShape.armsAll])
  (show (WTm.eq .res (.lit (.bool true))).value [] { args:=args,res:=some (.bool true),after:=args }=some (.bool (true == true)) from w_eq_bool (w_res rfl) w_lit) rfl
theorem xO {l:OpenLaw} {n:Nat} {q:Vp} {loose:List Wz} {XP:(Wz->Option Value)->Wc->Prop} {YP:VP->Wc->Prop} {d:DefRec}
  (hn:l.most=some n) (hdf:d.params.defaults=[])
  (call:∀ (w:VP) (s₀ s₁:Uz) (mg mb:Wz->Option Value) (fa:Addr) (o:Yh) (pm cd doc:Value) (a:Addr) (vs:List Value) (ns:List Int),
   Ground q loose [] XP w s₀ mg mb s₁.heap->YP w s₁.heap →
   s₁.heap.get? fa=some o->o.data = .func (docDef d.name d.params d.body d.scope pm cd doc)->s₁.heap.CodeRec cd d.name->mg d.name=some (.ref fa) →
   s₁.heap.get? a=some { cls:=.type "list",data:=.seq vs.toArray }->V8 vs ns->ns.length<=n->s₁.gens = #[] →
   Y7 (Vk l.prog w) abq (.call (.ref fa) ⟨[.ref a],[]⟩) (fun r s'=>r = .ok (.ret (.bool true))/\OldK s₁.heap s'.heap/\s'.os=s₁.os/\aaK s'.gens) s₁) :
  WalkO q loose XP YP l.row.toRowW d [] (fun f vs=>PySem.call f vs):=by
 intro w s₀ s₁ mg mb G Y fa o pm cd doc dV kV ho hd hcd hD hmg hg args vals as hpre hlay hrd hwl hlo
 obtain rfl:dV = .none:=Dflts.none hD hdf
 obtain rfl:kV = .none:=Dflts.noKw hD
 obtain⟨a,vs,ns,rfl,rfl,hobj,hints,hlen⟩:=Ek hn hpre hwl
 refine enter_call (aaD (call w s₀ s₁ mg mb fa o pm cd doc a vs ns G Y ho (fd_plain hd) hcd hmg hobj hints hlen hg) fun r s' hq=>?_)
 obtain⟨rfl,h2,h3,h4⟩:=hq
 exact⟨.inl ⟨.bool true,.bool true,[],rfl,fun _=>rfl,.bool true,GQ l _,fun _=>⟨ZF,fun _ hm=>(nomatch hm)⟩⟩,h2,h3,h4⟩
section
variable {prog:Vp} {w:VP} {A:VR} {E:Value->Uz->Prop} {s:Uz} {K:Frag}
end
end Att
namespace L2
open PySem PySem.Spec PyProof.Rows
theorem lC:∀ {vs:List Value} {ns:List Int},V8 vs ns->Vals (ns.map V.int) vs
 | _,_,.nil=>.nil
 | _,_,.cons n t h=>.cons ⟨t,rfl⟩ (lC h)
def Only (H:Hp):Prop:=∀ b,H b=none∨∃ o xs,H b=some (.frz o (.lst xs))
theorem JG {P:Vp} {w:VP} {K:Vg} {mg mb:Wz->Option Value} {CX:CXT} {k:Nat} {fa a:Addr} {fd:Yw} {x:Wz} {sp:Sp} {s₁:Uz} {vs:List Value} {ns:List Int}
  (KX:K.In s₁.heap) (hns:s₁.heap.Ns VG mg) (hb:s₁.heap.Ns builtinsNs mb) (hbb:∀ x:Wz,x≠"__name__"->mb x=Wj x) (hlim:s₁.heap.NoLimit) (hg:s₁.gens = #[])
  (ha:s₁.heap.get? a=some { cls:=.type "list",data:=.seq vs.toArray }) (hi:V8 vs ns) (hl:ns.length<=sizeLine) (hr:nZ k abq)
  (F:∀ base:Wc,K.In base->base.Ns VG mg->dR P w K mg base CX k fa fd [x] sp) (hbind:∀ (s:Uz) (u:Value),aa5 s fd ⟨[u],[]⟩ [(x,u)])
  (hsp:∀ H:Hp,Only H->SqL K H a (ns.map V.int)->sp [.ref a] H (fun v _=>v = .bl true) fun _ _ _=>False)
  (hCX:∀ H e s',CX [] H s₁ (fun _ _ _=>False) e s'->False) :
  Y7 (Vk P w) abq (.call (.ref fa) ⟨[.ref a],[]⟩) (fun r s'=>r = .ok (.ret (.bool true))/\OldK s₁.heap s'.heap/\s'.os=s₁.os/\aaK s'.gens) s₁:=by
 have rv:=lC hi
 have lenV:=hi.length
 have core:∀ H:Hp,Only H->SqL K H a (ns.map V.int)->HOk P w H s₁.heap->(∀ b,H b≠none->b=a)->(H a≠none->K.lookup a=none) →
   Y7 (Vk P w) abq (.call (.ref fa) ⟨[.ref a],[]⟩) (fun r s'=>r = .ok (.ret (.bool true))/\OldK s₁.heap s'.heap/\s'.os=s₁.os/\aaK s'.gens) s₁:=by
  intro H hO hS hok hA hK
  have base_of:∀ {b:Addr} {o:Yh},s₁.heap.get? b=some o->H b=none->(J9 s₁.heap H).get? b=some o:=fun e n=>KD e n
  have noA:∀ {b:Addr} {o:Yh} {es:Array DictEntry} {ep:Nat},s₁.heap.get? b=some o->o.data = .dict es ep->H b=none:=fun {b o es ep} e d=>by
   cases q:H b with
   | none=>rfl
   | some u =>
    have e':b=a:=hA b (by rw[q]; simp)
    subst e'
    rw[ha] at e; cases e
    have d':Data.seq vs.toArray _=Data.dict es ep:=d
    cases d'
  have nsK:∀ {b:Addr} {m:Wz->Option Value},s₁.heap.Ns b m->(J9 s₁.heap H).Ns b m:=fun {b m} ⟨o,es,ep,e,d,r⟩=>⟨o,es,ep,base_of e (noA e d),d,r⟩
  have hKb:K.In (J9 s₁.heap H):=fun b o e=>base_of (KX b o e) (by
   cases q:H b with
   | none=>rfl
   | some u =>
    have e':b=a:=hA b (by rw[q]; simp)
    subst e'
    rw[hK (by rw[q]; simp)] at e; cases e)
  have hM:Mod K mg (J9 s₁.heap H):=⟨hKb,nsK hns,⟨mb,nsK hb,hbb⟩,let ⟨mc,h1,h2⟩:=hlim; ⟨mc,nsK h1,h2⟩⟩
  have e0:Ru P w K mg (J9 s₁.heap H) abq [] s₁ H:=⟨rfl,hM,fun b o e=>Ox e,Nat.le_of_eq (DR _ _),trivial,fun b hb=>absurd (show b∈([]:List Addr) from hb) (by simp),hok,.of_eq hg⟩
  refine aaD ((F _ hKb (nsK hns)).run abq [] s₁ H ⟨[.ref a],[]⟩ [.ref a] [.ref a] _ _ hr e0 (hbind s₁ (.ref a)) (.cons rfl .nil) (hsp H hO hS)) fun r s' h=>?_
  cases r with
  | error e=>exact (hCX H e s' h).elim
  | ok fl =>
   cases fl with
   | next=>exact YX h
   | brk=>exact YX h
   | cont=>exact YX h
   | ret u =>
    obtain⟨v,H',os,bare,un,hok',r',q⟩:=h
    have q':v = .bl true:=q
    subst q'
    obtain rfl:u=aaF true:=r'
    refine⟨rfl,OldK.of_keep fun b o e=>?_,os,bare⟩
    cases q:H b with
    | none=>exact un.keep b o e q (by intro z; exact absurd (show b∈([]:List Addr) from z) (by simp)) (by simp)
    | some u =>
     rcases hO b with z | ⟨ob,xs,z⟩
     ·rw[q] at z; cases z
     ·have z2:=un.frzs b ob _ z
      obtain⟨e1,_⟩:=hok b _ z
      obtain⟨e2,_⟩:=hok' b _ z2
      rw[e] at e1; cases e1
      exact e2
 cases hk:K.lookup a with
 | some o =>
  have e:=KX a o hk
  rw[ha] at e
  cases e
  refine core (fun _=>none) (fun _=>.inl rfl) (.inr ⟨_,vs.toArray,_,hk,rfl,rfl,rfl,by rw[U7,lenV]; exact hl,by simpa using rv⟩) (fun b u z=>by have z':(none:Option HO)=some u:=z; cases z') (fun b z=>absurd rfl z) fun z=>absurd rfl z
 | none =>
  refine core (fun b=>if b=a then some (.frz { cls:=.type "list",data:=.seq vs.toArray } (.lst (ns.map V.int))) else none) (fun b=>?_) (.inl (.inr ⟨{ cls:=.type "list",data:=.seq vs.toArray },if_pos rfl⟩)) (fun b u z=>?_) (fun b z=>?_) fun _=>hk
  ·by_cases hb:b=a
   ·exact .inr ⟨_,_,if_pos hb⟩
   ·exact .inl (if_neg hb)
  ·by_cases hb:b=a
   ·have z':=(if_pos hb).symm.trans z
    cases z'
    subst hb
    exact⟨ha,by rw[Uy]; exact hl,vs,_,rv,ha⟩
   ·have z':=(if_neg hb).symm.trans z
    cases z'
  ·by_cases hb:b=a
   ·exact hb
   ·exact absurd (if_neg hb) z
end L2
namespace L2
open PySem PySem.Spec PyProof.Rows
theorem N7 {l:PySem.W.OpenLaw} {n k:Nat} {q:Vp} {loose:List Wz} {XP:(Wz->Option Value)->Wc->Prop} {YP:VP->Wc->Prop} {d:DefRec} {K:Params->Vg} {CX:VP->CXT} {sp:VP->Sp} {x:Wz}
  (hn:l.most=some n) (hn2:n<=sizeLine) (hdf:d.params.defaults=[]) (hr:nZ k abq)
  (hY:∀ (w:VP) (h:Wc),YP w h->(K w.params).In h)
  (F:∀ (w:VP) (mg:Wz->Option Value) (fa:Addr) (h:Wc),(K w.params).In h->h.Ns VG mg->mg d.name=some (.ref fa) →
   ∃ fd:Yw,(∀ (s:Uz) (u:Value),aa5 s fd ⟨[u],[]⟩ [(x,u)]) ∧
    ∀ base:Wc,(K w.params).In base->base.Ns VG mg->dR l.prog w (K w.params) mg base (CX w) k fa fd [x] (sp w))
  (hsp:∀ (w:VP) (H:Hp) (a:Addr) (ns:List Int),ns.length<=n->Only H->SqL (K w.params) H a (ns.map V.int)->sp w [.ref a] H (fun v _=>v = .bl true) fun _ _ _=>False)
  (hCX:∀ (w:VP) (H:Hp) (s:Uz) (e:Value) (s':Uz),CX w [] H s (fun _ _ _=>False) e s'->False) :
  PySem.W.WalkO q loose XP YP l.row.toRowW d [] (fun f vs=>PySem.call f vs):=by
 refine Att.xO hn hdf fun w s₀ s₁ mg mb fa o pm cd doc a vs ns G Y ho hd hcd hmg hobj hints hlen hg=>?_
 have KX:=hY w _ Y
 obtain⟨fd,hb,hF⟩:=F w mg fa _ KX G.T.g hmg
 exact JG KX G.T.g G.T.b G.T.builtins G.T.nolimit hg hobj hints (Wd hlen hn2) hr hF hb (fun H hO hS=>hsp w H a ns hlen hO hS) fun H e s'=>hCX w H s₁ e s'
end L2
namespace L2
open PySem PySem.Spec PyProof.Rows
def gJ (s:Stmt):Arguments:=match s with
 | .FunctionDef _ a _ _ _ _ _ _ _ _=>a
 | _=>{ posonlyargs:=[],args:=[],vararg:=none,kwonlyargs:=[],kw_defaults:=[],kwarg:=none,defaults:=[] }
def fQ (s:Stmt):List Stmt:=match s with
 | .FunctionDef _ _ b _ _ _ _ _ _ _=>b
 | _=>[]
def aG (s:Stmt):Zx:=match s with
 | .FunctionDef _ _ _ _ _ _ sc _ _ _=>sc
 | _=>{ kind:=.function,names:=[],isGenerator:=false,isCoroutine:=false }
abbrev CX0:CXT:=fun _ _ _ _ _ _=>False
abbrev E0:XK:=fun _ _ _=>False
theorem R4 {X:Cx}:Passes CX0 X E0:=fun _ _ _ _ _ _ _ h=>h.elim
structure Fun (K:Vg) (x qual:Wz) (st:Stmt) (f:Addr) (fd:Yw):Prop where
 ex:∃ (oc:Value) (od:Option Addr) (kV doc pm:Value) (an:Option Addr) (cdv ct:Value) (osl:Array (Option Value)),
  fd=Zy x qual (gJ st) (fQ st) (aG st) .none kV doc pm an cdv ct/\K.lookup f=some ⟨oc,od,.func fd,osl⟩/\aaW K cdv qual=true
 kp:aad K (.ref f)=true
section
variable {P:Vp} {w:VP} {K:Vg} {mg:Wz->Option Value} {base:Wc}
theorem Fun.ok {x qual:Wz} {st:Stmt} {f:Addr} {fd:Yw} {N ps:List Wz} {k:Nat} {sp:Sp} (F:Fun K x qual st f fd) (S:aY N ps (aG st)) (len:∀ vs H Q E,sp vs H Q E->vs.length=ps.length)
  (hbody:∀ (cdv:Value) (A:VR) (outer:List Env) (s:Uz) (H:Hp) (vs:List V) (Q:VK) (E:XK),nZ k (A.deeper (abe qual (aG st) s.heap.objs.size f cdv))->sp vs H Q E →
   ∃ t,PSs (Pz CX0 P w K mg base N qual (aG st) f cdv A outer s H E).nox (fQ st) t/\t { nx:=fun _ H'=>Q .non H',rt:=Q } (start N vs) H):dR P w K mg base CX0 (k+1) f fd ps sp:=by
 obtain⟨oc,od,kV,doc,pm,an,cdv,ct,osl,rfl,lk,hcd⟩:=F.ex
 refine R8 lk hcd S len fun A outer s H vs Q E hr hsp=>?_
 obtain⟨t,h,q⟩:=hbody cdv A outer s H vs Q E hr hsp
 exact⟨t,h.nox,q⟩
theorem Fun.binds {x qual:Wz} {st:Stmt} {f:Addr} {fd:Yw} {ps:List Wz} (F:Fun K x qual st f fd)
  (h:∀ (kV doc pm:Value) (an:Option Addr) (cdv ct:Value) (us:List Value),us.length=ps.length->aaV (Zy x qual (gJ st) (fQ st) (aG st) .none kV doc pm an cdv ct) ⟨us,[]⟩=pure (ps.zip us)):Binds K fd ps []:=by
 obtain⟨oc,od,kV,doc,pm,an,cdv,ct,osl,rfl,lk,hcd⟩:=F.ex
 exact .all (h kV doc pm an cdv ct)
theorem Lw {x qual:Wz} {st:Stmt} {f:Addr} {oc:Value} {od an:Option Addr} {osl:Array (Option Value)} {kV doc pm cdv ct:Value} (l:K.lookup f=some ⟨oc,od,.func (Zy x qual (gJ st) (fQ st) (aG st) .none kV doc pm an cdv ct),osl⟩)
  (c:aaW K cdv qual=true) (k:aad K (.ref f)=true):Fun K x qual st f (Zy x qual (gJ st) (fQ st) (aG st) .none kV doc pm an cdv ct):=⟨⟨oc,od,kV,doc,pm,an,cdv,ct,osl,rfl,l,c⟩,k⟩
end
theorem aD {n:Nat} (h:n<=1000):n < sizeLine:=Ys h (by decide)
section
variable {X:Cx}
theorem pv (i:Nat) {x:Wz} {pos:ZG} (hN:X.N[i]? = some x:=by rfl) (hv:Vis X.env.scope x:=by first | exact U8 rfl | exact aau (U8 rfl) | exact aau (aau rfl)) (hd:(x == ("__debug__" : Wz))=false:=by decide)
  (hcd:(x == ("__classdict__" : Wz))=false:=by decide):PE X (.Name x pos) (xr i):=Rm hN hv hd hcd
end
theorem fU {A B:Prop} (h:B):if false=true then A else B:=by
 rw[if_neg U5]
 exact h
theorem ji {A B:Prop} (h:A):if true=true then A else B:=by
 rw[if_pos rfl]
 exact h
theorem zU {c A B:Prop} [Decidable c] (h1:c->A) (h2:¬ c->B):if c then A else B:=by
 by_cases h:c
 ·rw[if_pos h]
  exact h1 h
 ·rw[if_neg h]
  exact h2 h
def aO (H H':Hp):Prop:=∀ b o,H b=some o->H' b=some o
theorem aO.refl (H:Hp):aO H H:=fun _ _ h=>h
theorem aO.trans {H H1 H2:Hp} (a:aO H H1) (b:aO H1 H2):aO H H2:=fun c o h=>b c o (a c o h)
theorem aO.free {H H':Hp} (e:aO H H') {l:Addr} (h:H' l=Option.none):H l=Option.none:=by
 cases q:H l with
 | none=>rfl
 | some o =>
  rw[e l o q] at h
  cases h
theorem aO.seq {K:Vg} {H H':Hp} {a:Addr} {xs:List V} (e:aO H H') (h:SqL K H a xs):SqL K H' a xs:=by
 rcases h with (h | ⟨o,h⟩) | h
 ·exact .inl (.inl (e _ _ h))
 ·exact .inl (.inr ⟨o,e _ _ h⟩)
 ·exact .inr h
end L2
set_option maxHeartbeats 4000000
namespace L2
open PySem PySem.Spec PyProof.Rows
theorem Jf {env:Env}:∀ {names:List (Wz × aae)} {x:Wz},names.lookup x=some .free →
  (names.map fun (n,k)=>if (k == Xg && env.scope.kind == .function && env.kindOf n == some .cell) then (n,aa9) else (n,k)).lookup x=some .cell ∨
  (names.map fun (n,k)=>if (k == Xg && env.scope.kind == .function && env.kindOf n == some .cell) then (n,aa9) else (n,k)).lookup x=some .free
 | [],_,h=>by simp at h
 | (n,k)::r,x,h=>by
  have ih:=@Jf env r x
  rw[Vw]
  cases hx:x == n with
  | true =>
   rw[Wt,hx] at h
   cases h
   by_cases hc:(Xg == Xg && env.scope.kind == .function && env.kindOf n == some .cell)=true
   ·refine .inl ?_
    dsimp only
    rw[if_pos hc,Wt,hx]
   ·refine .inr ?_
    dsimp only
    rw[if_neg hc,Wt,hx]
  | false =>
   rw[Wt,hx] at h
   dsimp only
   by_cases hc:(k == Xg && env.scope.kind == .function && env.kindOf n == some .cell)=true
   ·rw[if_pos hc,Wt,hx]; exact ih h
   ·rw[if_neg hc,Wt,hx]; exact ih h
theorem yx {env:Env}:∀ {names:List (Wz × aae)} {x:Wz} {k':aae},
  (names.map fun (n,k)=>if (k == Xg && env.scope.kind == .function && env.kindOf n == some .cell) then (n,aa9) else (n,k)).lookup x=some k'->names.lookup x=some k'∨names.lookup x=some .free
 | [],_,_,h=>by simp at h
 | (n,k)::r,x,k',h=>by
  have ih:=@yx env r x k'
  rw[Vw] at h
  dsimp only at h
  cases hx:x == n with
  | true =>
   rw[Wt,hx]
   by_cases hc:(k == Xg && env.scope.kind == .function && env.kindOf n == some .cell)=true
   ·have hk:k = .free:=by
     rw[WK,WK] at hc
     exact eq_of_beq hc.1.1
    exact .inr (by rw[hk])
   ·rw[if_neg hc,Wt,hx] at h
    exact .inl h
  | false =>
   rw[Wt,hx]
   by_cases hc:(k == Xg && env.scope.kind == .function && env.kindOf n == some .cell)=true
   ·rw[if_pos hc,Wt,hx] at h; exact ih h
   ·rw[if_neg hc,Wt,hx] at h; exact ih h
theorem yC {env:Env}:∀ (names:List (Wz × aae)) (acc:List (Wz × Addr)),(∀ y∈names,y.2 = .free->∃ c,env.cells.lookup y.1=some c)->(∀ n c,acc.lookup n=some c->env.cells.lookup n=some c) →
  ∃ cl,(forIn names acc (fun (x:Wz × aae) (r:List (Wz × Addr))=>(match x with | (name,kind)=>if (kind == Xg)=true then (do let c ← cellOf env name; pure (Zk ((name,c)::r))) else pure (Zk r):Sem (ForInStep (List (Wz × Addr))))))=pure cl ∧
   (∀ n c,cl.lookup n=some c->env.cells.lookup n=some c)/\(∀ n c,acc.lookup n=some c->∃ c',cl.lookup n=some c')/\∀ y∈names,y.2 = .free->∃ c,cl.lookup y.1=some c
 | [],acc,_,h=>⟨acc,by rw[XD],h,fun _ c e=>⟨c,e⟩,fun y hy=>by simp at hy⟩
 | (n,k)::r,acc,hf,h=>by
  rw[Xp]
  dsimp only
  by_cases hk:(k == Xg)=true
  ·rw[if_pos hk]
   have hk':k = .free:=eq_of_beq hk
   obtain⟨c,hc⟩:=hf (n,k) UW hk'
   have hc:env.cells.lookup n=some c:=hc
   have ec:cellOf env n=pure c:=by unfold cellOf; rw[hc]
   have h2:∀ m d,((n,c)::acc).lookup m=some d->env.cells.lookup m=some d:=fun m d e=>by
    rw[Wt] at e
    cases hx:m == n with
    | true=>rw[hx] at e; cases e; rw[eq_of_beq hx]; exact hc
    | false=>rw[hx] at e; exact h m d e
   obtain⟨cl,e1,e2,e3,e4⟩:=yC r ((n,c)::acc) (fun y hy=>hf y (U9 _ hy)) h2
   refine⟨cl,by rw[ec,pure_bind,pure_bind]; exact e1,e2,fun m d e=>?_,fun y hy hyf=>?_⟩
   ·refine (match hx:m == n with | true=>e3 m c (by rw[Wt,hx]) | false=>e3 m d (by rw[Wt,hx]; exact e))
   ·rcases List.mem_cons.mp hy with rfl | hy
    ·exact e3 n c (by rw[Wt,beq_self_eq_true])
    ·exact e4 y hy hyf
  ·rw[if_neg hk]
   obtain⟨cl,e1,e2,e3,e4⟩:=yC r acc (fun y hy=>hf y (U9 _ hy)) h
   refine⟨cl,by rw[pure_bind]; exact e1,e2,e3,fun y hy hyf=>?_⟩
   rcases List.mem_cons.mp hy with rfl | hy
   ·exact absurd (by rw[show k=Xg from hyf]; rfl) hk
   ·exact e4 y hy hyf
theorem DN {scope:Zx} {env:Env} (h:∀ y∈scope.names,y.2 = .free->∃ c,env.cells.lookup y.1=some c) :
  ∃ cl,closureFor scope env=pure cl/\(∀ n c,cl.lookup n=some c->env.cells.lookup n=some c)/\∀ y∈scope.names,y.2 = .free->∃ c,cl.lookup y.1=some c:=by
 obtain⟨cl,e1,e2,_,e4⟩:=yC scope.names [] h (fun _ _ e=>by simp at e)
 refine⟨cl,?_,e2,e4⟩
 unfold closureFor
 first
  | exact e1
  | (rw[← bind_pure (x:=pure cl),← e1]; rfl)
  | (simp only[bind_pure]; exact e1)
def d7 (X:Cx) (scope:Zx) (cl:List (Wz × Addr)) (C:Addr) (N:List Wz) (s:Uz) (H:Hp) (fp:List Addr):Cx :=
 {X with N:=N,s₀:=s,H₀:=H,env:=compEnvC scope cl C X.env,outer:=X.stack,ex:=fp,fn:=fun _=>false,pn:=[],xe:=fun _ _=>False }
structure wI (X:Cx) (scope:Zx) (F:List Wz) (cap:List Nat):Prop where
 kind:scope.kind = .function
 cell:∀ y∈scope.names,y.2≠.cell
 nms:∀ y∈scope.names,y.2 = .local->scope.names.lookup y.1=some .local
 fr:∀ y∈scope.names,y.2 = .free->X.env.kindOf y.1=some .cell∨X.env.kindOf y.1=some .free
 len:cap.length=F.length
 at':∀ (k:Nat) (x:Wz),F[k]? = some x->∃ i,cap[k]? = some i/\X.N[i]? = some x/\scope.names.lookup x=some .free
def PTs (X:Cx) (ifs:List Expr) (t:TT):Prop :=
 ∀ (pins:List (Addr × Yh)) (s:Uz) (σ:St) (H:Hp) (Q:Bool->Hp->Prop),Inv X pins σ H s->t σ H Q →
  U4 (Vk X.prog X.w) X.A (forIn ifs true fun c r=>if r=true then do let ok ← isTrue c X.env (X7 c X.env); pure (Zk ok) else pure (Zk r)) (TP X pins σ Q) X.xe s
def JN:TT:=fun _ H Q=>Q true H
theorem bF {X:Cx}:PTs X [] JN:=fun _ _ _ H _ I h=>wpAny_tests_nil ⟨H,I,h⟩
theorem Gb {X:Cx} {c:Expr} {t:TT} (hc:PT X c t):PTs X [c] t:=fun pins s σ H Q I h=>wpAny_tests_one (hc pins s σ H Q I h)
theorem CJ {prog:Vp} {w:VP} {A:VR} {R:abg->Uz->Prop} {s:Uz} {elt target iter:Expr} {ifs:List Expr} {scope:Zx} {pos:ZG} {it acc:Value} {env:Env} (I:Nat->Uz->Prop)
  (turn:∀ n s,I n s->U4 (Vk prog w) A (Xy it) (fun r s₁=>match r with
   | none=>R (.ok .next) s₁
   | some v=>U4 (Vk prog w) A (aaM target it v) (fun _ s₀=>U4 (Vk prog w) A (assign target env v) (fun _ s₂ =>
     U4 (Vk prog w) A (forIn ifs true fun c r=>if r=true then do let ok ← isTrue c env (X7 c env); pure (Zk ok) else pure (Zk r)) (fun ok s₃ =>
      if ok=true then U4 (Vk prog w) A (X7 elt env) (fun x s₄=>U4 (Vk prog w) A (call (.builtin "list.append") [acc,x]) (fun _ s₅=>∃ m,m < n/\I m s₅) (fun _ _=>False) s₄) (fun _ _=>False) s₃
      else ∃ m,m < n/\I m s₃) (fun _ _=>False) s₂) (fun _ _=>False) s₀) (fun _ _=>False) s₁) (fun _ _=>False) s)
  (n:Nat) (h:I n s):Y7 (Vk prog w) A (.compLoop (.ListComp elt [⟨target,iter,ifs,0⟩] scope pos) 0 it acc env) R s:=by
 have no:∀ {E:Value->Uz->Prop} (x:Value) (s':Uz),(fun (_:Value) (_:Uz)=>False) x s'->E x s':=fun _ _ z=>z.elim
 refine codeAny_loop rfl I (fun n s hI=>?_) n h
 refine (show U4 (Vk prog w) A ((compTurn (.ListComp elt [⟨target,iter,ifs,0⟩] scope pos) 0 it acc env).onRaise (fun x=>do noteFrame x env; theTreesLotGoes x)) _ _ s from wpAny_noted ?_)
 rw[compTurn_list]
 refine Uw (wpAny_standAt (Uw (Xj (turn n s hI) (fun r s₁ h₁=>?_) no)))
 cases r with
 | none=>exact UJ h₁
 | some v =>
  refine Uw (Xj h₁ (fun _ s₀ h₀=>Uw (Xj h₀ (fun _ s₂ h₂=>Uw (Xj h₂ (fun ok s₃ h₃=>?_) no)) no)) no)
  cases ok with
  | false=>exact UJ ⟨rfl,h₃⟩
  | true=>exact Uw (Uw (Xj h₃ (fun x s₄ h₄=>Uw (Xj h₄ (fun _ s₅ h₅=>UJ (UJ ⟨rfl,h₅⟩)) no)) no))
def iz (D:Addr) (σ0:St) (J:It) (g:TG) (tt:TT) (te:TE) (H1:Hp) (Q:Hp->Prop):Prop :=
 ∃ W:Nat->Nat->List V->St->Hp->Prop,(∃ m,W 0 m [] σ0 (upd H1 D (.lst []))) ∧
  ∀ i m ys σ' H',W i m ys σ' H'->H' D=some (.lst ys)/\((J.stop i H'/\Q H')∨(J.go i H'/\∃ N:List V->St->Hp->Prop,(∀ zs σ2 H2,N zs σ2 H2->∃ m',m' < m/\W (i+1) m' zs σ2 H2) ∧
   ∀ x H2,J.yld i H' x H2->g x σ' H2 fun σ3 H3=>tt σ3 H3 fun b H4=>if b=true then te σ3 H4 fun y H5=>H5 D=some (.lst ys)/\ys.length < sizeLine/\N (ys++[y]) σ3 (upd H5 D (.lst (ys++[y]))) else N ys σ3 H4))
def Rf (n:Nat) (cap:List Nat) (σ:St):St:=Vf n none++cap.map fun i=>(σ[i]?).join
def R5 (n:Nat) (cap:List Nat) (wi:TI) (g:TG) (tt:TT) (te:TE):TE:=fun σ H Q=>wi σ H fun J H1=>∀ D,H1 D=none->iz D (Rf n cap σ) J g tt te H1 fun H2=>Q (.ref D) H2
section
variable {X:Cx} {elt tg iter:Expr} {ifs:List Expr} {scope:Zx} {pos:ZG} {L F:List Wz} {cap:List Nat} {wi:TI} {g:TG} {tt:TT} {te:TE}
theorem Ea {pins:List (Addr × Yh)} {σ:St} {H:Hp} {s:Uz} (I:Inv X pins σ H s) {b:Addr} (h1:b≠X.env.locals) (h2:b ∉ X.fs):b ∉ frs X.stack:=fun z=>(List.mem_cons.mp (I.En b z)).elim h1 h2
theorem Cz {cl:List (Wz × Addr)} {pins:List (Addr × Yh)} {σ:St} {H:Hp} {s:Uz} {fp:List Addr} {h₁:Wc} {tk:Nat} (ok:wI X scope F cap) (I:Inv X pins σ H s) (hfp:∀ b∈fp,xf X pins H b/\b < s.heap.objs.size)
  (sub:∀ n c,cl.lookup n=some c->X.env.cells.lookup n=some c) (all:∀ y∈scope.names,y.2 = .free->∃ c,cl.lookup y.1=some c)
  (ns:h₁.Ns s.heap.objs.size fun _=>none) (kp:∀ b o,s.heap.get? b=some o->h₁.get? b=some o) :
  Inv (d7 X scope cl s.heap.objs.size (L++F) s H fp) [] (Rf L.length cap σ) H { s with heap:=h₁,toks:=tk }:=by
 have frk:∀ x,scope.names.lookup x=some .free->X.env.kindOf x=some .cell∨X.env.kindOf x=some .free:=fun x e=>ok.fr (x,.free) (W3 e) rfl
 have okX:(d7 X scope cl s.heap.objs.size (L++F) s H fp).Ok:=by
  refine⟨I.ok.mod,ok.kind,I.ok.glob,I.ok.blt,U0 _,fun x y c e1 e2=>I.ok.inj x y c (sub x c e1) (sub y c e2),fun x hx=>?_,fun x c hx _=>?_,I.ok.hd,I.ok.frames,.inl rfl,fun b hb=>?_,I.bs,Wd I.ok.bsz I.sz,fun b o e hb=>?_,fun b hb=>?_,I.stack,I.Ej⟩
  ·have e:scope.names.lookup x=some .free:=by
    rcases hx with hx | hx
    ·rcases yx (env:=X.env) (show _=some aa9 from hx) with e | e
     ·exact absurd rfl (ok.cell _ (W3 e))
     ·exact e
    ·rcases yx (env:=X.env) (show _=some Xg from hx) with e | e <;> exact e
   exact all (x,.free) (W3 e) rfl
  ·exact absurd (show false=true from hx) U5
  ·exact⟨Vh (hfp b hb).2,fun x c e=>(hfp b hb).1.2.2.2.2.1 x c (sub x c e)⟩
  ·obtain⟨_,_,_,f3,_⟩:=(hfp b hb).1
   rcases f3 with z | z
   ·exact I.ok.noex b o e z
   ·exact absurd (Vm (U6 e) (Wd I.ok.bsz z)) (Xw _)
  ·obtain⟨_,f1,f2,_⟩:=(hfp b hb).1
   exact Ea I f1 f2
 refine⟨okX,rfl,I.bare,Un.kept kp,⟨_,ns,fun i x v e1 e2 e3=>?_⟩,fun x c e=>?_,I.hok.fresh (U0 _),fun x c e=>I.freeC x c (sub x c e),fun p hp=>absurd (show p∈([]:List (Addr × Yh)) from hp) (by simp),I.hok.kept kp,?_⟩
 ·have e1:(L++F)[i]? = some x:=e1
  have e2:(Vf L.length none++cap.map fun i=>(σ[i]?).join)[i]? = some (some v):=e2
  have hL:¬ i < L.length:=fun hi=>by
   rw[W0 (by simpa using hi),XF] at e2
   split at e2 <;> cases e2
  have hi:L.length<=i:=Nat.le_of_not_lt hL
  rw[Wf hi] at e1
  rw[Wf (by simpa using hi),Wl,Vj] at e2
  obtain⟨j,hj,hN,hk⟩:=ok.at' _ _ e1
  rw[hj] at e2
  have e4:(σ[j]?).join=some v:=by simpa using e2
  have e5:σ[j]? = some (some v):=by
   cases q:σ[j]? with
   | none=>rw[q] at e4; cases e4
   | some a=>rw[q] at e4; exact congrArg some e4
  obtain⟨m,hn,hl⟩:=I.loc
  have kd:=frk x hk
  obtain⟨u,r,lk⟩:=hl j x v hN e5 (kd.elim (fun z=>.inr (.inl z)) fun z=>.inr (.inr z))
  obtain⟨c,hc,hcell⟩:∃ c,X.env.cells.lookup x=some c/\s.heap.IsCell c (some u):=by
   rcases lk with⟨z,_⟩ | ⟨_,c,z1,z2⟩
   ·rcases kd with y | y <;> (rw[y] at z; cases z)
   ·exact⟨c,z1,z2⟩
  obtain⟨c',hc'⟩:=all (x,.free) (W3 hk) rfl
  have ec:c'=c:=by
   have:=sub x c' hc'
   rw[hc] at this
   exact (VF this).symm
  subst ec
  obtain⟨o,ho,hd⟩:=hcell
  exact⟨u,r,.inr ⟨(Jf (env:=X.env) hk),c',hc',o,kp _ _ ho,hd⟩⟩
 ·obtain⟨v,o,ho,hd⟩:=I.cell x c (sub x c e)
  exact⟨v,o,kp _ _ ho,hd⟩
 ·show (Vf L.length (none:Option V)++cap.map fun i=>(σ[i]?).join).length=(L++F).length
  rw[Va,Va,Wl,Uy,ok.len]
theorem Ai {cl:List (Wz × Addr)} {pins:List (Addr × Yh)} {σ:St} {s2:Uz} {H2:Hp} {it:Addr} {fp:List Addr} {tn:Nat->Wc->Prop} {J:It} {use:Option (Value->Sem Unit)} {QQ:Value->Uz->Prop} {Z:Hp->Prop} {E:Value->Uz->Prop}
  (hc:X.calm=true) (ok:wI X scope F cap)
  (sub:∀ n c,cl.lookup n=some c->X.env.cells.lookup n=some c) (all:∀ y∈scope.names,y.2 = .free->∃ c,cl.lookup y.1=some c)
  (hg:∀ cl C s H fp,PG (d7 X scope cl C (L++F) s H fp) tg g) (ht:∀ cl C s H fp,PTs (d7 X scope cl C (L++F) s H fp) ifs tt) (he:∀ cl C s H fp,PE (d7 X scope cl C (L++F) s H fp) elt te)
  (I2:Inv X pins σ H2 s2) (T:Turn X.prog X.w X.K tg J fp it tn) (st2:tn 0 s2.heap) (f2:∀ b∈fp,xf X pins H2 b)
  (q2:iz s2.heap.objs.size (Rf L.length cap σ) J g tt te H2 Z)
  (fin:∀ (C:Addr) (s':Uz) (H':Hp),Z H'->Inv X pins σ H' s'->(∃ m,s'.heap.Ns C m)->H' C=none->C≠X.env.locals->X.s₀.heap.objs.size<=C->(∀ x c,X.env.cells.lookup x=some c->c≠C)->(∀ p∈X.pn++pins,p.1≠C) →
   compPost (Vk X.prog X.w) X.A E use QQ (.ref s2.heap.objs.size) C (.ok .next) s') :
  U4 (Vk X.prog X.w) X.A (newList []) (fun acc s₃=>U4 (Vk X.prog X.w) X.A (newFunctionEnv scope X.env.globals cl [] X.env.qual none .none (some X.env)) (fun cenv s₄ =>
   Y7 (Vk X.prog X.w) X.A (.compStart (.ListComp elt [⟨tg,iter,ifs,0⟩] scope pos) 0 (.ref it) acc { cenv with scope:=relabel scope X.env }) (compPost (Vk X.prog X.w) X.A E use QQ acc cenv.locals) s₄) E s₃) E s2:=by
 have hD:H2 s2.heap.objs.size=none:=I2.fresh
 refine V1 (wpAny_newFunctionEnv ok.cell (by intro y hy; simp at hy) (fun h₁ hns₁ hsb₁=>?_) ok.kind)
 dsimp only at hns₁ hsb₁ ⊢
 have I3:Inv X pins σ (upd H2 s2.heap.objs.size (.lst [])) { s2 with heap:=s2.heap.push { cls:=.type "list",data:=.seq ([]:List Value).toArray } }:=I2.RX (t':=s2.toks) (ys:=[]) (its:=[]) .nil (Vr _)
 have blt:∀ b∈fp,b < s2.heap.objs.size:=fun b hb=>let ⟨_,e,_⟩:=T.obj 0 _ st2 b hb; U6 e
 have szC:(s2.heap.push { cls:=.type "list",data:=.seq ([]:List Value).toArray }).objs.size=s2.heap.objs.size+1:=VL _ _
 generalize hs3:({ s2 with heap:=s2.heap.push { cls:=.type "list",data:=.seq ([]:List Value).toArray } }:Uz)=s3 at I3
 have es3:s3.heap=s2.heap.push { cls:=.type "list",data:=.seq ([]:List Value).toArray }:=by rw[← hs3]
 have eos:s3.os=s2.os:=by rw[← hs3]
 have fok:∀ b∈fp,xf X pins (upd H2 s2.heap.objs.size (.lst [])) b/\b < s3.heap.objs.size:=fun b hb=>by
  obtain⟨f0,fr⟩:=f2 b hb
  refine⟨⟨by rw[bB (Vh (blt b hb))]; exact f0,fr⟩,?_⟩
  rw[es3,szC]
  exact V7 (blt b hb)
 have hkp:∀ b o,s3.heap.get? b=some o->h₁.get? b=some o:=fun b o e=>by
  have e':b < s3.heap.objs.size:=U6 e
  rw[es3] at e e'
  exact (hsb₁.2 b (Vh e')).trans (Ux _ e)
 have hns:h₁.Ns s3.heap.objs.size fun _=>none:=by
  rw[es3]
  exact hns₁
 have I4:∀ tk,Inv (d7 X scope cl s3.heap.objs.size (L++F) s3 (upd H2 s2.heap.objs.size (.lst [])) fp) [] (Rf L.length cap σ) (upd H2 s2.heap.objs.size (.lst [])) { s3 with heap:=h₁,toks:=tk }:=fun tk =>
  Cz (L:=L) ok I3 fok sub all hns hkp
 have stat:∀ {H':Hp},(∀ b∈fp,H' b=none)->∀ b∈fp,xf (d7 X scope cl s3.heap.objs.size (L++F) s3 (upd H2 s2.heap.objs.size (.lst [])) fp) [] H' b:=fun {H'} hn b hb=>by
  obtain⟨⟨_,g1,g2,g3,g4,g5⟩,g6⟩:=fok b hb
  exact⟨hn b hb,Vh g6,Ea I3 g1 g2,.inl hb,fun x c e=>g4 x c (sub x c e),fun p hp=>absurd (show p∈([]:List (Addr × Yh)) from hp) (by simp)⟩
 have loop:∀ tk,Y7 (Vk X.prog X.w) X.A (.compLoop (.ListComp elt [⟨tg,iter,ifs,0⟩] scope pos) 0 (.ref it) (.ref s2.heap.objs.size) (compEnvC scope cl s3.heap.objs.size X.env))
   (compPost (Vk X.prog X.w) X.A E use QQ (.ref s2.heap.objs.size) s3.heap.objs.size) { s3 with heap:=h₁,toks:=tk }:=fun tk=>by
  obtain⟨W,⟨m0,w0⟩,turn⟩:=q2
  have st3:tn 0 h₁:=T.keep 0 _ _ st2 fun b hb o e=>hkp b o (by rw[es3]; exact Ux _ e)
  refine CJ (fun n s'=>∃ i ys σ' H',Inv (d7 X scope cl s3.heap.objs.size (L++F) s3 (upd H2 s2.heap.objs.size (.lst [])) fp) [] σ' H' s'/\tn i s'.heap/\(∀ b∈fp,H' b=none)/\W i n ys σ' H') ?_ m0
   ⟨0,[],_,_,I4 tk,st3,fun b hb=>(fok b hb).1.1,w0⟩
  rintro n s5 ⟨i,ys,σ5,H5,I5,st5,fr5,w5⟩
  obtain⟨hDl,alt⟩:=turn i n ys σ5 H5 w5
  rcases alt with⟨stop,qz⟩ | ⟨go,N,hN,step⟩
  ·refine thn (T.done (d7 X scope cl s3.heap.objs.size (L++F) s3 (upd H2 s2.heap.objs.size (.lst [])) fp) rfl rfl rfl hc i [] s5 σ5 H5 _ I5 (stat fr5) st5 stop) fun r s6 ⟨hr,I6⟩=>?_
   subst hr
   have un:Un (frs X.stack) fp H2 H5 s2.heap s6.heap:=by
    have u1:Un (frs X.stack) fp H2 (upd H2 s2.heap.objs.size (.lst [])) s2.heap s3.heap:=by
     rw[es3]
     exact Un.laid (fun _ _ q=>Ux _ q) (U0 _) hD
    exact u1.trans I6.base
   have J1:Inv X pins σ H5 s6:=I2.call' (I6.os.trans eos) un I6.hok I6.bare fun b hb=>by
    obtain⟨_,g1,_,g3,g4,g5⟩:=f2 b hb
    exact⟨g3,g1,g4,g5⟩
   have hC:s2.heap.objs.size<=s3.heap.objs.size:=by rw[es3,szC]; exact XX _
   obtain⟨m,hm,_⟩:=I6.loc
   refine fin s3.heap.objs.size s6 H5 qz J1 ⟨m,hm⟩ I6.free (WM (Vm I2.lt hC)) (Wd I2.sz hC) (fun x c e z=>?_) (fun p hp z=>?_)
   ·obtain⟨v,q⟩:=I2.cell x c e
    exact absurd (Vm q.lt (by rw[z]; exact hC)) (Xw _)
   ·exact absurd (Vm (U6 (I2.pin p hp).1) (by rw[z]; exact hC)) (Xw _)
  ·refine thn (T.item (d7 X scope cl s3.heap.objs.size (L++F) s3 (upd H2 s2.heap.objs.size (.lst [])) fp) rfl rfl rfl hc i [] s5 σ5 H5 _ I5 (stat fr5) st5 go) fun r s6 ⟨u,hr,h6⟩=>?_
   subst hr
   refine thn h6 fun _ s7 ⟨x,H7,I7,r7,y7,st7,fr7⟩=>?_
   have I7':=I7.pinned (stat fr7) (T.obj _ _ st7)
   refine thn (hg _ _ _ _ _ _ s7 σ5 H7 x u _ I7' r7 (step x H7 y7)) fun _ s8 ⟨σ8,H8,I8,q8⟩=>?_
   have again:∀ {σ9:St} {H9:Hp} {s9:Uz} {zs:List V},Inv (d7 X scope cl s3.heap.objs.size (L++F) s3 (upd H2 s2.heap.objs.size (.lst [])) fp) ([]++vQ fp s7.heap) σ9 H9 s9->N zs σ9 H9 →
     ∃ m,m < n/\∃ i ys σ' H',Inv (d7 X scope cl s3.heap.objs.size (L++F) s3 (upd H2 s2.heap.objs.size (.lst [])) fp) [] σ' H' s9/\tn i s9.heap/\(∀ b∈fp,H' b=none)/\W i m ys σ' H':=fun {σ9 H9 s9 zs} I9 n9=>by
    obtain⟨m',hm,w9⟩:=hN zs σ9 H9 n9
    refine⟨m',hm,i+1,zs,σ9,H9,I9.oR,T.keep _ _ _ st7 fun b hb o e=>(I9.pin (b,o) (Ww _ (Ww _ (jA hb e)))).1,fun b hb=>?_,w9⟩
    obtain⟨o,e,d⟩:=T.obj _ _ st7 b hb
    exact (I9.pin (b,o) (Ww _ (Ww _ (jA hb e)))).2.1
   refine thn (ht _ _ _ _ _ _ s8 σ8 H8 _ I8 q8) fun okb s9 ⟨H9,I9,q9⟩=>?_
   cases okb with
   | false =>
    rw[if_neg U5] at q9 ⊢
    exact again I9 q9
   | true =>
    rw[if_pos rfl] at q9 ⊢
    refine thn (he _ _ _ _ _ _ s9 σ8 H9 _ I9 q9) fun y s10 ⟨yv,H10,I10,r10,e10,z10,n10⟩=>?_
    refine thn (cB _ s10 σ8 H10 (.ref s2.heap.objs.size) [yv] (.ref s2.heap.objs.size) [y] (fun _ H'=>N (ys++[yv]) σ8 H') I10 rfl (.cons r10 .nil) ⟨_,ys,yv,rfl,rfl,e10,z10,n10⟩) fun _ s11 ⟨_,H11,I11,_,n11⟩=>?_
    exact again I11 n11
 have eC:(s2.heap.push { cls:=.type "list",data:=.seq ([]:List Value).toArray }).objs.size=s3.heap.objs.size:=by rw[es3]
 have goal:∀ tk,Y7 (Vk X.prog X.w) X.A (.compStart (.ListComp elt [⟨tg,iter,ifs,0⟩] scope pos) 0 (.ref it) (.ref s2.heap.objs.size) (compEnvC scope cl s3.heap.objs.size X.env))
   (compPost (Vk X.prog X.w) X.A E use QQ (.ref s2.heap.objs.size) s3.heap.objs.size) { s3 with heap:=h₁,toks:=tk }:=fun tk =>
  codeAny_compStart_list (loop tk) (T.self _ 0 _ _ _ (T.keep 0 _ _ st2 fun b hb o e=>hkp b o (by rw[es3]; exact Ux _ e)) (loop tk))
 have g0:=goal (s2.toks+([]:List (Wz × Value)).length)
 subst hs3
 exact g0
theorem bG (hc:X.calm=true) (ok:wI X scope F cap) (hi:PI X tg iter wi)
  (hg:∀ cl C s H fp,PG (d7 X scope cl C (L++F) s H fp) tg g) (ht:∀ cl C s H fp,PTs (d7 X scope cl C (L++F) s H fp) ifs tt) (he:∀ cl C s H fp,PE (d7 X scope cl C (L++F) s H fp) elt te)
  (hs:∀ x,abp iter X.env x=pure x:=by intro _; rfl):PE X (.ListComp elt [⟨tg,iter,ifs,0⟩] scope pos) (R5 L.length cap wi g tt te):=by
 intro pins s σ H Q I h
 obtain⟨cl,e1,e2,e3⟩:=DN (scope:=scope) (env:=X.env) (fun y hy hf=>I.ok.has _ (ok.fr y hy hf))
 rw[eval_ListComp]
 refine wpAny_comprehension_free (use:=none) rfl hs e1 ok.kind ok.nms (thn (hi pins s σ H _ I h) fun v s1 h1=>thn h1 fun itv s2 h2=>?_)
 obtain⟨it,fp,tn,J,H2,e,I2,T,st2,f2,q2⟩:=h2
 subst e
 refine Ai (Z:=fun H'=>Q (.ref s2.heap.objs.size) H') hc ok e2 e3 hg ht he I2 T st2 f2 (q2 _ I2.fresh) fun C s' H' z J m hCf hCl hCs hCc hCp=>?_
 ·obtain⟨m,hm⟩:=m
  exact⟨m,hm,fun h' hs'=>⟨.ref _,H',J.turned (t':=s'.toks) (fun b o hb e=>(hs'.2 b hb).trans e) hCf hCl (.inr hCs) hCc hCp,rfl,z⟩⟩
def Qe (n:Nat) (cap:List Nat) (wi:TI) (g:TG) (tt:TT) (te:TE) (j:Nat):TS:=fun D σ H=>wi σ H fun J H1=>∀ d,H1 d=none->iz d (Rf n cap σ) J g tt te H1 fun H2=>D.nx (σ.set j (some (.ref d))) H2
theorem xK {j:Nat} {y:Wz} {py spos:ZG} (hN:X.N.Nodup) (hj:X.N[j]? = some y) (hy:Loc X.env.scope y) (hc:X.calm=true) (ok:wI X scope F cap) (hi:PI X tg iter wi)
  (hg:∀ cl C s H fp,PG (d7 X scope cl C (L++F) s H fp) tg g) (ht:∀ cl C s H fp,PTs (d7 X scope cl C (L++F) s H fp) ifs tt) (he:∀ cl C s H fp,PE (d7 X scope cl C (L++F) s H fp) elt te)
  (hsw:swapsWith (.ListComp elt [⟨tg,iter,ifs,0⟩] scope pos) (some (.Name y py)) spos.line X.env=pure true:=by rfl)
  (hs:∀ x,abp iter X.env x=pure x:=by intro _; rfl) (hf:X.fn y=true∨X.env.scope.names.lookup y=some .local:=by first | exact .inl rfl | exact .inr rfl | assumption) :
  PS X (.Assign [.Name y py] (.ListComp elt [⟨tg,iter,ifs,0⟩] scope pos) spos) (Qe L.length cap wi g tt te j):=by
 intro pins s σ H D I h
 obtain⟨cl,e1,e2,e3⟩:=DN (scope:=scope) (env:=X.env) (fun y hy hf=>I.ok.has _ (ok.fr y hy hf))
 rw[exec_Assign_Name_used _ _ _ _ hsw]
 refine Uw (wpAny_standAt (Uw ?_))
 show U4 (Vk X.prog X.w) X.A (do let _ ← comprehension (.ListComp elt [⟨tg,iter,ifs,0⟩] scope pos) scope X.env _ (newList []) false (X7 iter X.env) (some (assign (.Name y py) X.env))) _ _ s
 refine Uw (Xj (wpAny_comprehension_free (use:=some (assign (.Name y py) X.env)) (Q:=fun _ s'=>SP X pins D .next s') rfl hs e1 ok.kind ok.nms
  (thn (hi pins s σ H _ I h) fun v s1 h1=>thn h1 fun itv s2 h2=>?_)) (fun _ s' hq=>UJ (UJ hq)) fun _ _ e=>e)
 obtain⟨it,fp,tn,J,H2,e,I2,T,st2,f2,q2⟩:=h2
 subst e
 refine Ai (Z:=fun H'=>D.nx (σ.set j (some (.ref s2.heap.objs.size))) H') hc ok e2 e3 hg ht he I2 T st2 f2 (q2 _ I2.fresh) fun C s' H' z J m hCf hCl hCs hCc hCp=>?_
 obtain⟨m,hm⟩:=m
 refine wpAny_assign_Name (vH J hN hj hy (v:=.ref s2.heap.objs.size) rfl (fun s5 I5 hs5=>?_) hf)
 obtain⟨a,sb,ha⟩:=hs5
 have hne:C≠a:=by
  rcases ha with rfl | ha
  ·exact hCl
  ·exact YG (hCc y a ha)
 exact⟨m,hm.sameBut sb hne,fun h' hs'=>⟨_,H',I5.turned (t':=s5.toks) (fun b o hb e=>(hs'.2 b hb).trans e) hCf hCl (.inr hCs) hCc hCp,z⟩⟩
end
end L2
namespace L2
open PySem PySem.Spec PyProof.Rows
structure Df (P:Vp) (w:VP) (K:Vg) (mg:Wz->Option Value) (base:Wc) (x:Wz) (k:Nat) (ps:List Wz) (sp:Sp):Prop where
 ex:∃ (f:Addr) (fd:Yw),dR P w K mg base CX0 k f fd ps sp/\mg x=some (.ref f)/\aad K (.ref f)=true/\Binds K fd ps []
section
variable {X:Cx} {k j:Nat} {x:Wz} {ps:List Wz} {sp:Sp} {p pos:ZG} {e:Expr} {es:List Expr} {t:TA}
theorem bj (D:Df X.prog X.w X.K X.mg X.base x k ps sp) (hr:nZ j X.A) (ha:PA X (e::es) t) (hk:k<=j:=by first | decide | exact U0 _ | lia) (hg:Gl X x:=by rfl)
  (hdb:(x == ("__debug__" : Wz))=false:=by decide) (he:V4 (e::es) X.env=(false,X7 e X.env)::V4 es X.env:=by rfl) (hpl:(ZL pos (V4 es X.env)).any (·.1)=false:=by rfl) :
  PE X (.Call (.Name x p) (e::es) [] pos) (Rh sp [] E0 t):=by
 obtain⟨f,fd,F,hm,hkp,hb⟩:=D.ex
 exact Pk F (hr.mono hk) hg hm hkp hb .nil R4 ha hdb he hpl
theorem qQ {T:String} (hm:X.mg x=none) (hv:Wj x=some (.type T)) (hg:Gl X x:=by rfl) (hn:x≠"__name__":=by decide) (hd:(x == ("__debug__" : Wz))=false:=by decide):PE X (.Name x pos) (tC (.ty T)):=MP hg hm hv rfl hn hd
inductive QG (K:Vi) (xs:List V) (H:Hp) (Q:VK):Prop where
 | mk (x:V) (T:String) (t:Value) (b:Bool) (z0:xs=[x,.ty T]) (z1:Cq K H x t) (z2:Zc K t (.type T)=some b) (z3:Q (.bl b) H):QG K xs H Q
def Hg (K:Vi):List V->Hp->VK->Prop:=fun xs H Q=>QG K xs H Q
theorem fD:iR X (.builtin "isinstance") (Hg X.K):=by
 intro pins s σ H xs us Q I r h
 obtain⟨x,T,t,b,rfl,ty,e,q⟩:=h
 obtain⟨u,v,rfl,ru,rv⟩:=vals2 r
 cases (show v=Yr T from rv)
 exact Il I ru ty e fun tk=>⟨.bl b,H,I.tok tk,rfl,q⟩
def rm (K:Vi):List V->Hp->VK->Prop:=fun xs H Q=>∃ (p:Addr) (ys:List V),xs=[.ref p]/\(SqL K H p ys∨SqT K H p ys)/\Q (.int ys.length) H
theorem bI:iR X (.builtin "len") (rm X.K):=vo
def yW (K:Vi):List V->Hp->VK->Prop:=fun xs H Q=>∃ (p:Addr) (ys:List V),xs=[.ref p]/\(SqL K H p ys∨SqT K H p ys)/\∀ l,H l=none->Q (.ref l) (upd H l (.lst ys))
theorem qY:iR X (.type "list") (yW X.K):=vg
def gG (K:Vi):List V->Hp->VK->Prop:=fun xs H Q=>∃ (p:Addr) (ys:List V),xs=[.ref p]/\((SqL K H p ys/\∀ l,H l=none->Q (.ref l) (upd H l (.tup ys)))∨(SqT K H p ys/\Q (.ref p) H))
theorem bK:iR X (.type "tuple") (gG X.K):=sE
theorem jN:∀ bs:List Bool,(Vb bs.length).all (fun i=>bs.getD i true)=bs.all fun b=>b
 | []=>rfl
 | b::r=>by
  have ih:=jN r
  rw[Vd,aaJ,ZR,List.all_map,ZR,← ih]
  rfl
inductive K3 (K:Vi) (xs:List V) (H:Hp) (Q:VK):Prop where
 | mk (p:Addr) (bs:List Bool) (z0:xs=[.ref p]) (z1:SqL K H p (bs.map V.bl)) (z2:Q (.bl (bs.all fun b=>b)) H):K3 K xs H Q
def Gx (K:Vi):List V->Hp->VK->Prop:=fun xs H Q=>K3 K xs H Q
theorem lR (hc:X.calm=true):iR X (.builtin "all") (Gx X.K):=by
 intro pins s σ H xs us Q I r h
 obtain⟨p,bs,rfl,hq,q⟩:=h
 obtain⟨u,rfl,ru⟩:=vals1 r
 cases ru
 obtain⟨its,rv,pl,hz⟩:=I.list hq
 have hlen:bs.length=its.length:=by simpa using rv.length
 refine call_all_walk (Yd pl.isList ?_)
 have I1:Inv X pins σ H { s with heap:=s.heap.push { cls:=.type "list_iterator",data:=.fields #[.ref p,.int 0 0] } }:=I.kept (t':=s.toks) fun b o e=>Ux _ e
 have hne:p≠s.heap.objs.size:=by
  obtain⟨o,ho,_⟩:=pl.isList
  exact Vh (U6 ho)
 refine⟨s.heap.objs.size,_,_,_,_,_,fun i=>bs.getD i true,rfl,abf (A:=X.A.in1) (I.ok.hd hc) s.heap.objs.size p hne its.toArray,⟨⟨_,UT _ rfl,rfl,rfl⟩,?_⟩,?_,fun h' tk hk=>?_⟩
 ·obtain⟨o,ho,hr⟩:=pl.isList
  exact⟨o,Ux _ ho,hr⟩
 ·intro i v s' Q' E' hP hQ
  have hP:its[i]? = some v:=by simpa using hP
  have hi:i < bs.length:=by
   rw[hlen]
   exact (List.getElem?_eq_some_iff.mp hP).1
  obtain⟨u',hu',ru'⟩:=rv.get (i:=i) (x:=V.bl bs[i]) (by rw[Vj,UG hi]; rfl)
  rw[hP] at hu'
  cases hu'
  cases (show v=aaF bs[i] from ru')
  refine Xh ?_
  have eg:bs.getD i true=bs[i]:=by rw[UL,UG hi]; rfl
  have hQ':Q' (bs.getD i true) s':=hQ
  rw[eg] at hQ'
  exact hQ'
 ·have f:=I.Gd (b:=s.heap.objs.size) (H':=H) (U0 _) I.fresh
  have eall:(Vb its.toArray.size).all (fun i=>bs.getD i true)=bs.all fun b=>b:=by
   have el:its.toArray.size=bs.length:=by rw[U7,hlen]
   rw[el]
   exact jN bs
  rw[eall]
  exact⟨.bl _,H,I1.turned (t':=tk) (it:=s.heap.objs.size) (fun b o hb e=>hk b o (by simpa using hb) e) f.1 f.2.1 f.2.2.2.1 f.2.2.2.2.1 f.2.2.2.2.2,rfl,q⟩
end
end L2
namespace L2
open PySem PySem.Spec PyProof.Rows
def Gu (osc:Zx) (oN:List Wz) (sc:Zx) (F:List Wz) (cap:List Nat):Bool :=
 decide (sc.kind = .function) && sc.names.all (fun y=>!decide (y.2 = .cell)) && sc.names.all (fun y=>!decide (y.2 = .local) || decide (sc.names.lookup y.1=some .local)) &&
 sc.names.all (fun y=>!decide (y.2 = .free) || decide (osc.names.lookup y.1=some .cell) || decide (osc.names.lookup y.1=some .free)) && decide (cap.length=F.length) &&
 (Vb F.length).all fun k=>(decide (F[k]? = none) || decide ((cap[k]?.bind fun i=>oN[i]?)=F[k]?)) && decide ((F[k]?.bind fun x=>sc.names.lookup x)=some .free)
theorem bD {X:Cx} {osc sc:Zx} {oN F:List Wz} {cap:List Nat} (ho:X.env.scope=osc) (hN:X.N=oN) (h:Gu osc oN sc F cap=true):wI X sc F cap:=by
 unfold Gu at h
 simp only[WK] at h
 obtain⟨⟨⟨⟨⟨h1,h2⟩,h3⟩,h4⟩,h5⟩,h6⟩:=h
 refine⟨of_decide_eq_true h1,fun y hy e=>?_,fun y hy e=>?_,fun y hy e=>?_,of_decide_eq_true h5,fun k x e=>?_⟩
 ·have:=List.all_eq_true.mp h2 y hy
  rw[e] at this
  exact absurd this (by decide)
 ·have:=List.all_eq_true.mp h3 y hy
  rw[decide_eq_true e] at this
  exact of_decide_eq_true (by simpa using this)
 ·have:=List.all_eq_true.mp h4 y hy
  rw[decide_eq_true e] at this
  have z:decide (osc.names.lookup y.1=some .cell)=true∨decide (osc.names.lookup y.1=some .free)=true:=by
   rw[Bool.not_true,abb,ab1] at this
   exact this
  show X.env.scope.names.lookup y.1=_∨X.env.scope.names.lookup y.1=_
  rw[ho]
  exact z.elim (fun q=>.inl (of_decide_eq_true q)) fun q=>.inr (of_decide_eq_true q)
 ·have hk:k < F.length:=(List.getElem?_eq_some_iff.mp e).1
  have q:=List.all_eq_true.mp h6 k (List.mem_range.mpr hk)
  rw[e,WK] at q
  obtain⟨q1,q2⟩:=q
  have q1:(cap[k]?.bind fun i=>oN[i]?)=some x:=by
   rw[ab1] at q1
   rcases q1 with z | z
   ·exact absurd (of_decide_eq_true z) (by simp)
   ·exact of_decide_eq_true z
  have q2:sc.names.lookup x=some .free:=of_decide_eq_true q2
  cases hc:cap[k]? with
  | none=>rw[hc] at q1; cases q1
  | some i =>
   rw[hc] at q1
   exact⟨i,rfl,by rw[hN]; exact q1,q2⟩
theorem bu {X:Cx} {scope:Zx} {cl:List (Wz × Addr)} {C:Addr} {N:List Wz} {s:Uz} {H:Hp} {fp:List Addr} (h:N.Nodup):(d7 X scope cl C N s H fp).N.Nodup:=h
section
variable {K:Vi} {a D:Addr} {xs:List V} {g:TG} {tt:TT} {te:TE} {H1:Hp} {Q:Hp->Prop} {σ0:St}
theorem dX (Pv:Nat->List V->St->Hp->Prop) (h0:Pv 0 [] σ0 (upd H1 D (.lst []))) (hl:∀ i ys σ H,i<=xs.length->Pv i ys σ H->SqT K H a xs/\H D=some (.lst ys))
  (hs:∀ i ys x σ H,xs[i]? = some x->Pv i ys σ H->g x σ H fun σ3 H3=>tt σ3 H3 fun b H4=>if b=true then te σ3 H4 fun y H5=>H5 D=some (.lst ys)/\ys.length < sizeLine/\Pv (i+1) (ys++[y]) σ3 (upd H5 D (.lst (ys++[y]))) else Pv (i+1) ys σ3 H4)
  (hd:∀ ys σ H,Pv xs.length ys σ H->Q H):iz D σ0 (Itt K a) g tt te H1 Q:=by
 refine⟨fun i m ys σ H=>m=xs.length - i/\i<=xs.length/\Pv i ys σ H,⟨xs.length,by simp,Vr _,h0⟩,?_⟩
 rintro i m ys σ H ⟨rfl,hi,p⟩
 obtain⟨q,qD⟩:=hl i ys σ H hi p
 refine⟨qD,?_⟩
 by_cases hlt:i < xs.length
 ·refine .inr ⟨⟨xs,xs[i],q,by simp [hlt]⟩,Pv (i+1),fun zs σ' H' p'=>⟨xs.length - (i+1),by lia,rfl,hlt,p'⟩,fun x H' y=>?_⟩
  obtain⟨e,y⟩:=y
  subst e
  exact hs i ys x σ _ (y xs q) p
 ·have e:i=xs.length:=by lia
  subst e
  exact .inl ⟨⟨xs,q,U0 _⟩,hd ys σ H p⟩
theorem cT (Pv:Nat->List V->St->Hp->Prop) (h0:Pv 0 [] σ0 (upd H1 D (.lst []))) (hl:∀ i ys σ H,i<=xs.length->Pv i ys σ H->SqL K H a xs/\H D=some (.lst ys))
  (hs:∀ i ys x σ H,xs[i]? = some x->Pv i ys σ H->g x σ H fun σ3 H3=>tt σ3 H3 fun b H4=>if b=true then te σ3 H4 fun y H5=>H5 D=some (.lst ys)/\ys.length < sizeLine/\Pv (i+1) (ys++[y]) σ3 (upd H5 D (.lst (ys++[y]))) else Pv (i+1) ys σ3 H4)
  (hd:∀ ys σ H,Pv xs.length ys σ H->Q H):iz D σ0 (Itl K a) g tt te H1 Q:=by
 refine⟨fun i m ys σ H=>m=xs.length - i/\i<=xs.length/\Pv i ys σ H,⟨xs.length,by simp,Vr _,h0⟩,?_⟩
 rintro i m ys σ H ⟨rfl,hi,p⟩
 obtain⟨q,qD⟩:=hl i ys σ H hi p
 refine⟨qD,?_⟩
 by_cases hlt:i < xs.length
 ·refine .inr ⟨⟨xs,xs[i],q,by simp [hlt]⟩,Pv (i+1),fun zs σ' H' p'=>⟨xs.length - (i+1),by lia,rfl,hlt,p'⟩,fun x H' y=>?_⟩
  obtain⟨e,y⟩:=y
  subst e
  exact hs i ys x σ _ (y xs q) p
 ·have e:i=xs.length:=by lia
  subst e
  exact .inl ⟨⟨xs,q,U0 _⟩,hd ys σ H p⟩
theorem dI {lo:Int} {n:Nat} (Pv:Nat->List V->St->Hp->Prop) (h0:Pv 0 [] σ0 (upd H1 D (.lst []))) (hl:∀ i ys σ H,i<=n->Pv i ys σ H->H D=some (.lst ys))
  (hs:∀ i ys σ H,i < n->Pv i ys σ H->g (.int (lo+i)) σ H fun σ3 H3=>tt σ3 H3 fun b H4=>if b=true then te σ3 H4 fun y H5=>H5 D=some (.lst ys)/\ys.length < sizeLine/\Pv (i+1) (ys++[y]) σ3 (upd H5 D (.lst (ys++[y]))) else Pv (i+1) ys σ3 H4)
  (hd:∀ ys σ H,Pv n ys σ H->Q H):iz D σ0 (Itr lo n) g tt te H1 Q:=by
 refine⟨fun i m ys σ H=>m=n - i/\i<=n/\Pv i ys σ H,⟨n,by simp,Vr _,h0⟩,?_⟩
 rintro i m ys σ H ⟨rfl,hi,p⟩
 refine⟨hl i ys σ H hi p,?_⟩
 by_cases hlt:i < n
 ·refine .inr ⟨hlt,Pv (i+1),fun zs σ' H' p'=>⟨n - (i+1),by lia,rfl,hlt,p'⟩,fun x H' y=>?_⟩
  obtain⟨e,y⟩:=y
  subst e y
  exact hs i ys σ _ hlt p
 ·have e:i=n:=by lia
  subst e
  exact .inl ⟨U0 _,hd ys σ H p⟩
end
structure Bt (mg:Wz->Option Value):Prop where
 len_:mg "len" = none
 range_:mg "range" = none
 all_:mg "all" = none
 isinstance_:mg "isinstance" = none
 int_:mg "int" = none
 bool_:mg "bool" = none
 str_:mg "str" = none
 list_:mg "list" = none
 tuple_:mg "tuple" = none
 abs_:mg "abs" = none
 max_:mg "max" = none
 min_:mg "min" = none
 sum_:mg "sum" = none
 sorted_:mg "sorted" = none
 zip_:mg "zip" = none
 reversed_:mg "reversed" = none
 divmod_:mg "divmod" = none
 set_:mg "set" = none
 any_:mg "any" = none
 enumerate_:mg "enumerate" = none
theorem d9:Wj "len" = some (.builtin "len"):=PySem.boot_len
theorem zu:Wj "all" = some (.builtin "all"):=by decide+kernel
theorem bW:Wj "isinstance" = some (.builtin "isinstance"):=by decide+kernel
theorem vM:Wj "abs" = some (.builtin "abs"):=by decide+kernel
theorem pM:Wj "max" = some (.builtin "max"):=by decide+kernel
theorem Gw:Wj "min" = some (.builtin "min"):=by decide+kernel
theorem Ik:Wj "sum" = some (.builtin "sum"):=by decide+kernel
theorem Bc:Wj "int" = some (.type "int"):=by decide+kernel
theorem Ga:Wj "bool" = some (.type "bool"):=by decide+kernel
theorem Mi:Wj "str" = some (.type "str"):=by decide+kernel
theorem rY:Wj "list" = some (.type "list"):=by decide+kernel
theorem cR:Wj "tuple" = some (.type "tuple"):=by decide+kernel
theorem qL (K:Vi) (T:String):Zc K (.type T) (.type T)=some true:=by
 unfold PySem.W.kitOne
 rw[if_pos (beq_self_eq_true _)]
theorem o4 (K:Vi):Zc K (.type "int") (.type "bool")=some false:=by kernel_rfl
theorem ph (K:Vi):Zc K (.type "bool") (.type "int")=some true:=by kernel_rfl
theorem Cw (K:Vi):Zc K (.type "int") (.type "str")=some false:=by kernel_rfl
theorem zc (K:Vi):Zc K (.type "bool") (.type "str")=some false:=by kernel_rfl
theorem uY (K:Vi):Zc K (.type "tuple") (.type "str")=some false:=by kernel_rfl
theorem yR (K:Vi):Zc K (.type "list") (.type "str")=some false:=by kernel_rfl
theorem uN (K:Vi):Zc K (.type "tuple") (.type "int")=some false:=by kernel_rfl
theorem xV (K:Vi):Zc K (.type "list") (.type "int")=some false:=by kernel_rfl
theorem lF (K:Vi):Zc K (.type "tuple") (.type "list")=some false:=by kernel_rfl
theorem lQ (K:Vi):Zc K (.type "list") (.type "tuple")=some false:=by kernel_rfl
end L2
namespace L2
open PySem PySem.Spec PyProof.Rows
inductive Dm where
 | non | bl (b:Bool) | int (i:Int) | str (x:Wz) | tup (ds:List Dm) | lst (ds:List Dm)
mutual
def Dm.dep:Dm->Nat
 | .tup ds=>uq ds+1
 | .lst ds=>uq ds+1
 | _=>0
def uq:List Dm->Nat
 | []=>0
 | d::r=>max d.dep (uq r)
end
mutual
inductive Rep (H:Hp):V->Dm->Prop where
 | non:Rep H .non .non
 | bl (b:Bool):Rep H (.bl b) (.bl b)
 | int (i:Int):Rep H (.int i) (.int i)
 | str (x:Wz):Rep H (.str x) (.str x)
 | tup {a:Addr} {xs:List V} {ds:List Dm}:H a=some (.tup xs)->xs.length<=100000->tM H xs ds->Rep H (.ref a) (.tup ds)
 | lst {a:Addr} {xs:List V} {ds:List Dm}:H a=some (.lst xs)->xs.length<=100000->tM H xs ds->Rep H (.ref a) (.lst ds)
inductive tM (H:Hp):List V->List Dm->Prop where
 | nil:tM H [] []
 | cons {v:V} {d:Dm} {vs:List V} {ds:List Dm}:Rep H v d->tM H vs ds->tM H (v::vs) (d::ds)
end
mutual
theorem Rep.mono {H H':Hp} (e:aO H H'):∀ {v:V} {d:Dm},Rep H v d->Rep H' v d
 | _,_,.non=>.non
 | _,_,.bl b=>.bl b
 | _,_,.int i=>.int i
 | _,_,.str x=>.str x
 | _,_,.tup h l r=>.tup (e _ _ h) l (tM.mono e r)
 | _,_,.lst h l r=>.lst (e _ _ h) l (tM.mono e r)
theorem tM.mono {H H':Hp} (e:aO H H'):∀ {vs:List V} {ds:List Dm},tM H vs ds->tM H' vs ds
 | _,_,.nil=>.nil
 | _,_,.cons h r=>.cons (Rep.mono e h) (tM.mono e r)
end
theorem tM.length {H:Hp}:∀ {vs:List V} {ds:List Dm},tM H vs ds->vs.length=ds.length
 | _,_,.nil=>rfl
 | _,_,.cons _ r=>by rw[Vd,Vd,tM.length r]
theorem tM.get {H:Hp}:∀ {vs:List V} {ds:List Dm} {i:Nat},tM H vs ds->i < vs.length->∃ v d,vs[i]? = some v/\ds[i]? = some d/\Rep H v d
 | _,_,_,.nil,h=>absurd h (Zh _)
 | _,_,0,.cons h _,_=>⟨_,_,rfl,rfl,h⟩
 | _,_,i+1,.cons _ r,h=>by
  obtain⟨v,d,e1,e2,e3⟩:=tM.get (i:=i) r (aaI h)
  exact⟨v,d,by simpa using e1,by simpa using e2,e3⟩
theorem sY:∀ {ds:List Dm} {i:Nat} {d:Dm},ds[i]? = some d->d.dep<=uq ds
 | [],_,_,h=>by simp at h
 | d::r,0,_,h=>by
  cases (show some d=some _ from h)
  rw[uq]
  exact Nat.le_max_left _ _
 | d::r,i+1,_,h=>by
  rw[uq]
  exact Wd (sY (i:=i) (ds:=r) (by simpa using h)) (Nat.le_max_right _ _)
theorem pW {H:Hp}:∀ ns:List Int,tM H (ns.map V.int) (ns.map Dm.int)
 | []=>.nil
 | n::r=>.cons (.int n) (pW r)
section
variable {X:Cx}
inductive Q4 (K:Vi) (x:V) (y:V) (H:Hp) (Q:VK):Prop where
 | mk (a b:Addr) (xs:List V) (z0:x = .ref a) (z1:y = .ref b) (z2:SqL K H a xs) (z3:SqL K H b []) (z4:Q (.bl xs.isEmpty) H):Q4 K x y H Q
def Rv (K:Vi):R2:=fun x y H Q=>Q4 K x y H Q
theorem HJ (hu:X.A.units < cLine):OpR X (Xa .Eq) (Rv X.K):=by
 intro pins s σ H x y v u Q I rx ry h
 obtain⟨a,b,xs,rfl,rfl,ha,hb,q⟩:=h
 cases rx
 cases ry
 obtain⟨its,r1,p1,_⟩:=I.list ha
 obtain⟨its2,r2,p2,_⟩:=I.list hb
 cases r2
 cases r1 with
 | nil=>exact SeqAt.eq_listAt (e:=fun _=>true) p1.isList p2.isList rfl hu (fun j h1 _=>absurd h1 (by simp)) ⟨.bl true,H,I,rfl,q⟩
 | cons r t=>exact SeqAt.eq_list_lengthsAt p1.isList p2.isList (by simp) hu ⟨.bl false,H,I,rfl,q⟩
inductive Qy (K:Vi) (x:V) (y:V) (H:Hp) (Q:VK):Prop where
 | mk (a b:Addr) (xs:List V) (z0:x = .ref a) (z1:y = .ref b) (z2:SqL K H a xs) (z3:SqL K H b []) (z4:Q (.bl (!xs.isEmpty)) H):Qy K x y H Q
def SN (K:Vi):R2:=fun x y H Q=>Qy K x y H Q
theorem LR (hu:X.A.units < cLine):OpR X (Xa .NotEq) (SN X.K):=by
 intro pins s σ H x y v u Q I rx ry h
 obtain⟨a,b,xs,rfl,rfl,ha,hb,q⟩:=h
 cases rx
 cases ry
 obtain⟨its,r1,p1,_⟩:=I.list ha
 obtain⟨its2,r2,p2,_⟩:=I.list hb
 cases r2
 cases r1 with
 | nil=>exact SeqAt.RcNeAt.lists (e:=fun _=>true) p1.isList p2.isList rfl hu (fun j h1 _=>absurd h1 (by simp)) X.prog X.w X.xe _ ⟨.bl false,H,I,rfl,q⟩
 | cons r t=>exact SeqAt.RcNeAt.lists_lengths p1.isList p2.isList (by simp) hu X.prog X.w X.xe _ ⟨.bl true,H,I,rfl,q⟩
end
end L2
namespace L2
open PySem PySem.Spec PyProof.Rows
section
variable {prog:Vp} {w:VP} {A:VR} {E:Value->Uz->Prop} {s:Uz}
theorem jr {it t:Addr} {i:Nat} {its:Array Value} {x:Value} {Q:Value->Uz->Prop} (j:s.heap.IsTupleIter it t i) (ht:s.heap.IsTuple t its) (hx:its[i]? = some x)
  (k:∀ h',h'.IsTupleIter it t (i+1)->Xm it s.heap h'->Q x { s with heap:=h' }):U4 (Vk prog w) A (Vv (.ref it)) Q E s:=by
 obtain⟨o,e1,c1,d1⟩:=id j; obtain⟨o2,e2,_,n2,d2⟩:=ht; unfold Vv
 refine Uw (V0 (name:=WX "__next__") j.typeIs YZ (V2 YZ j.typeIs ab3 ?_ (ab0 _)))
 show U4 _ _ (aan (.ref it) 0 >>= _) _ _ s; refine Uw (VD e1 d1 (x:=.ref t) rfl ?_)
 show U4 _ _ (if (Vy t == VB)=true then _ else _) _ _ s; rw[if_neg (show ¬ ((Vy t == VB)=true) from U5)]
 show U4 _ _ (aan (.ref it) 1 >>= _) _ _ s; refine Uw (VD e1 d1 (x:=.int i 0) rfl ?_)
 show U4 _ _ (aay (.ref t) >>= _) _ _ s; refine Uw (VJ e2 d2 ?_); simp only[Vu,hx]
 refine Uw (Xi e1 d1 (by simp) (UJ ⟨x,rfl,UJ (k _ ?_ (Wo ..))⟩))
 exact⟨_,Wh _ e1 (Obj.isFreed_of_fields (Obj.data_mapFields d1 _)),(Obj.cls_mapFields ..).trans c1,by rw[Obj.data_mapFields d1]; simp [Wy]⟩
theorem Bl {it t:Addr} {i:Nat} {its:Array Value} {Q:Value->Uz->Prop} (hh:A.handled=none) (j:s.heap.IsTupleIter it t i) (ht:s.heap.IsTuple t its) (hx:its[i]? = none)
  (k:∀ h' e,Heap.ExtBut it s.heap h'->(∃ o,h'.get? e=some o/\o.cls = .type "StopIteration")->E (.ref e) { s with heap:=h' }):U4 (Vk prog w) A (Vv (.ref it)) Q E s:=by
 obtain⟨o,e1,c1,d1⟩:=id j; obtain⟨o2,e2,_,n2,d2⟩:=ht; unfold Vv
 refine Uw (V0 (name:=WX "__next__") j.typeIs YZ (V2 YZ j.typeIs ab3 ?_ (ab0 _)))
 show U4 _ _ (aan (.ref it) 0 >>= _) _ _ s; refine Uw (VD e1 d1 (x:=.ref t) rfl ?_)
 show U4 _ _ (if (Vy t == VB)=true then _ else _) _ _ s; rw[if_neg (show ¬ ((Vy t == VB)=true) from U5)]
 show U4 _ _ (aan (.ref it) 1 >>= _) _ _ s; refine Uw (VD e1 d1 (x:=.int i 0) rfl ?_)
 show U4 _ _ (aay (.ref t) >>= _) _ _ s; refine Uw (VJ e2 d2 ?_); simp only[Vu,hx]
 refine Uw (X4 (Uw (Xi e1 d1 (by simp) ?_))); show U4 _ _ (abG (.type "StopIteration") [] >>= _) _ _ _
 refine Uw ?_; simp only[abG,newTuple]; refine Uw (V1 ?_ (by size_fits))
 refine Uw (m:=Yk _ _) (XS (a:=VB) (by first | rfl | (simp only[Yk]; rfl)) ?_); refine V1 ?_ (by size_fits)
 simp only[raiseNew]; refine Uw (aa7 ?_); first | rw[show A.in1.handled=none from hh] | rw[hh]
 refine Uw (UJ (abP ?_)); exact k _ _ (((Wo ..).extBut.push _).push _) ⟨_,UT _ rfl,rfl⟩
structure Zap (z p q i1 i2 l1 l2:Addr):Prop where
 pz:p≠z
 qz:q≠z
 az:i1≠z
 bz:i2≠z
 pq:p≠q
 pa:p≠i1
 pb:p≠i2
 qa:q≠i1
 qb:q≠i2
 ab:i1≠i2
 xz:l1≠z
 xq:l1≠q
 xa:l1≠i1
 xb:l1≠i2
 yz:l2≠z
 yq:l2≠q
 ya:l2≠i1
 yb:l2≠i2
theorem du {h h':Wc} {a t:Addr} {its:Array Value} (ht:h.IsTuple t its) (sb:Xm a h h') (ne:t≠a):h'.IsTuple t its:=by
 obtain⟨o,e,r⟩:=ht
 exact⟨o,(sb.2 t ne).trans e,r⟩
theorem bV {h h':Wc} {a it t:Addr} {i:Nat} (ht:h.IsTupleIter it t i) (sb:Xm a h h') (ne:it≠a):h'.IsTupleIter it t i:=by
 obtain⟨o,e,r⟩:=ht
 exact⟨o,(sb.2 it ne).trans e,r⟩
theorem O2 {z p q i1 i2 l1 l2:Addr} {k:Nat} {xs ys:Array Value} {x y a b:Value} {Q:Option Value->Uz->Prop} (D:Zap z p q i1 i2 l1 l2)
  (hz:Xk s.heap z p q .none) (hp:WY s.heap p (.ref i1) (.ref i2)) (hq:WY s.heap q a b) (j1:s.heap.IsTupleIter i1 l1 k) (j2:s.heap.IsTupleIter i2 l2 k) (t1:s.heap.IsTuple l1 xs) (t2:s.heap.IsTuple l2 ys)
  (hx:xs[k]? = some x) (hy:ys[k]? = some y)
  (hQ:∀ h',Xk h' z p q (Wy s.heap.objs.size)->WY h' q x y->h'.IsTupleIter i1 l1 (k+1)->h'.IsTupleIter i2 l2 (k+1)->WY h' s.heap.objs.size x y->h'.objs.size=s.heap.objs.size+1 →
   (∀ c o,c≠z->c≠q->c≠i1->c≠i2->s.heap.get? c=some o->h'.get? c=some o)->Q (some (.ref s.heap.objs.size)) { s with heap:=h' }):U4 (Vk prog w) A (Xy (.ref z)) Q E s:=by
 have hT:s.TypeIs (.ref z) "zip":=⟨_,hz,rfl⟩; unfold Xy
 refine Uw (W6 (V0 (name:=WX "__next__") hT WW (V2 WW hT Za ?_ (YJ _))))
 show U4 _ _ (aan (.ref z) 2 >>= _) _ _ _; refine Uw (VD hz rfl (x:=.bool false) rfl ?_)
 show U4 _ _ (aan (.ref z) 3 >>= _) _ _ _; refine Uw (VD hz rfl (x:=.ref p) rfl ?_); refine Uw (VJ hp rfl ?_)
 show U4 _ _ (Vs (.ref z) >>= _) _ _ _; refine Uw ?_; unfold Vs
 refine Uw (VD hz rfl (x:=.none) rfl (UJ ?_)); simp only[if_true]; refine Uw (X4 ?_); refine Uw (VD hz rfl (x:=.ref q) rfl ?_)
 refine Uw (V5 hz (by simp) fun h1 z1 b1=>?_); replace z1:Xk h1 z p q .ellipsis:=z1
 refine Uw ?_; simp only[Ym,Zi,Xp,XD]; refine Uw (Uw (Xe ?_))
 show U4 _ _ (Vv (.ref i1) >>= _) _ _ _; refine Uw (jr (bV j1 b1 D.az) (du t1 b1 D.xz) hx fun h2 u1 b2=>UJ ?_)
 have q2:WY h2 q a b:=(b2.2 _ D.qa).trans ((b1.2 _ D.qz).trans hq); refine Uw (VJ q2 rfl ?_); refine Uw (Yc q2 fun h3 q3 b3=>?_)
 replace q3:WY h3 q x b:=q3; refine Uw (Xx (UJ ?_)); refine Uw (Uw (Xe ?_))
 show U4 _ _ (Vv (.ref i2) >>= _) _ _ _
 refine Uw (jr (bV (bV (bV j2 b1 D.bz) b2 D.ab.symm) b3 D.qb.symm) (du (du (du t2 b1 D.yz) b2 D.ya) b3 D.yq) hy fun h4 u2 b4=>UJ ?_)
 have q4:WY h4 q x b:=(b4.2 _ D.qb).trans q3; refine Uw (VJ q4 rfl ?_); refine Uw (Yc q4 fun h5 q5 b5=>?_)
 replace q5:WY h5 q x y:=q5; refine Uw (Xx (UJ (UJ ?_))); refine Uw (VJ q5 rfl ?_); refine Uw (aaa ?_)
 have sz:h5.objs.size=s.heap.objs.size:=by rw[b5.1,b4.1,b3.1,b2.1,b1.1]
 have z5:Xk h5 z p q .ellipsis:=(b5.2 _ D.qz.symm).trans ((b4.2 _ D.bz.symm).trans ((b3.2 _ D.qz.symm).trans ((b2.2 _ D.az.symm).trans z1)))
 have kp:∀ c o,c≠z->c≠q->c≠i1->c≠i2->s.heap.get? c=some o->h5.get? c=some o:=fun c o c1 c2 c3 c4 e=>(b5.2 c c2).trans ((b4.2 c c4).trans ((b3.2 c c2).trans ((b2.2 c c3).trans ((b1.2 c c1).trans e))))
 have u15:h5.IsTupleIter i1 l1 (k+1):=bV (bV (bV u1 b3 D.qa.symm) b4 D.ab) b5 D.qa.symm
 have u25:h5.IsTupleIter i2 l2 (k+1):=bV u2 b5 D.qb.symm
 have zl:z < h5.objs.size:=U6 z5
 show U4 _ _ (WD (.ref z) (.ref h5.objs.size) >>= _) _ _ _; refine Uw ?_; unfold WD
 have z6:Xk (h5.push { cls:=.type "tuple",data:=.seq #[x,y] }) z p q .ellipsis:=Ux _ z5
 refine Uw (V5 z6 (by simp) fun h7 z7 b7=>?_); replace z7:Xk h7 z p q (Wy h5.objs.size):=z7
 refine V5 z7 (by simp) fun h8 z8 b8=>?_; replace z8:Xk h8 z p q (Wy h5.objs.size):=z8
 have up:∀ c o,c≠z->h5.get? c=some o->h8.get? c=some o:=fun c o c1 e=>(b8.2 c c1).trans ((b7.2 c c1).trans (Ux _ e))
 have t8:WY h8 h5.objs.size x y:=(b8.2 _ (WM zl)).trans ((b7.2 _ (WM zl)).trans (UT _ rfl))
 have s8:h8.objs.size=h5.objs.size+1:=by rw[b8.1,b7.1,VL]
 rw[sz] at z8 t8 s8; refine UJ ⟨_,rfl,?_⟩
 show U4 _ _ _ _ _ _
 rw[sz]
 exact UJ (hQ h8 z8 (up _ _ D.qz q5) (by obtain⟨o,e,r⟩:=u15; exact⟨o,up _ o D.az e,r⟩) (by obtain⟨o,e,r⟩:=u25; exact⟨o,up _ o D.bz e,r⟩) t8 s8 fun c o c1 c2 c3 c4 e=>up c o c1 (kp c o c1 c2 c3 c4 e))
theorem Px {z p q i1 i2 l1 l2:Addr} {k:Nat} {xs ys:Array Value} {a b:Value} {Q:Fin->Uz->Prop} (hh:A.handled=none) (D:Zap z p q i1 i2 l1 l2)
  (hz:Xk s.heap z p q .none) (hp:WY s.heap p (.ref i1) (.ref i2)) (hq:WY s.heap q a b) (j1:s.heap.IsTupleIter i1 l1 k) (j2:s.heap.IsTupleIter i2 l2 k) (t1:s.heap.IsTuple l1 xs) (t2:s.heap.IsTuple l2 ys)
  (hend:xs[k]? = none∨ys[k]? = none) (hE:∀ h' e,(∀ c o,c≠z->c≠q->c≠i1->c≠i2->s.heap.get? c=some o->h'.get? c=some o)->(∃ o,h'.get? e=some o/\o.cls = .type "StopIteration")->E (.ref e) { s with heap:=h' }) :
  U4 (Vk prog w) A (Builtin.«zip.__next__» ⟨[.ref z],[]⟩) Q E s:=by
 show U4 _ _ (aan (.ref z) 2 >>= _) _ _ _; refine Uw (VD hz rfl (x:=.bool false) rfl ?_)
 show U4 _ _ (aan (.ref z) 3 >>= _) _ _ _; refine Uw (VD hz rfl (x:=.ref p) rfl ?_); refine Uw (VJ hp rfl ?_)
 show U4 _ _ (Vs (.ref z) >>= _) _ _ _; refine Uw ?_; unfold Vs
 refine Uw (VD hz rfl (x:=.none) rfl (UJ ?_)); simp only[if_true]; refine Uw (X4 ?_); refine Uw (VD hz rfl (x:=.ref q) rfl ?_)
 refine Uw (V5 hz (by simp) fun h1 z1 b1=>?_); replace z1:Xk h1 z p q .ellipsis:=z1
 refine Uw ?_; simp only[Ym,Zi,Xp,XD]; refine Uw (Uw (Xe ?_))
 show U4 _ _ (Vv (.ref i1) >>= _) _ _ _
 cases hx:xs[k]? with
 | none =>
  refine Uw (Bl hh (bV j1 b1 D.az) (du t1 b1 D.xz) hx fun h2 e b2 he=>?_)
  obtain⟨oe,ho,hc⟩:=he
  have z2:Xk h2 z p q .ellipsis:=b2 _ _ D.az.symm z1
  have ez:e≠z:=fun u=>by subst u; rw[z2] at ho; cases ho; simp at hc
  exact V5 z2 (by simp) fun h3 _ b3=>hE h3 e (fun c o c1 _ c3 _ u=>(b3.2 c c1).trans (b2 _ _ c3 ((b1.2 c c1).trans u))) ⟨oe,(b3.2 e ez).trans ho,hc⟩
 | some x =>
  have hy:ys[k]? = none:=hend.elim (fun u=>by rw[hx] at u; cases u) id
  refine Uw (jr (bV j1 b1 D.az) (du t1 b1 D.xz) hx fun h2 u1 b2=>UJ ?_)
  have q2:WY h2 q a b:=(b2.2 _ D.qa).trans ((b1.2 _ D.qz).trans hq); refine Uw (VJ q2 rfl ?_); refine Uw (Yc q2 fun h3 q3 b3=>?_)
  refine Uw (Xx (UJ ?_)); refine Uw (Uw (Xe ?_)); show U4 _ _ (Vv (.ref i2) >>= _) _ _ _
  refine Uw (Bl hh (bV (bV (bV j2 b1 D.bz) b2 D.ab.symm) b3 D.qb.symm) (du (du (du t2 b1 D.yz) b2 D.ya) b3 D.yq) hy fun h4 e b4 he=>?_)
  obtain⟨oe,ho,hc⟩:=he
  have z4:Xk h4 z p q .ellipsis:=b4 _ _ D.bz.symm ((b3.2 _ D.qz.symm).trans ((b2.2 _ D.az.symm).trans z1))
  have ez:e≠z:=fun u=>by subst u; rw[z4] at ho; cases ho; simp at hc
  exact V5 z4 (by simp) fun h5 _ b5=>hE h5 e (fun c o c1 c2 c3 c4 u=>(b5.2 c c1).trans (b4 _ _ c4 ((b3.2 c c2).trans ((b2.2 c c3).trans ((b1.2 c c1).trans u))))) ⟨oe,(b5.2 e ez).trans ho,hc⟩
theorem Qh {z p q i1 i2 l1 l2:Addr} {k:Nat} {xs ys:Array Value} {a b:Value} {Q:Option Value->Uz->Prop} (hh:A.handled=none) (D:Zap z p q i1 i2 l1 l2)
  (hz:Xk s.heap z p q .none) (hp:WY s.heap p (.ref i1) (.ref i2)) (hq:WY s.heap q a b) (j1:s.heap.IsTupleIter i1 l1 k) (j2:s.heap.IsTupleIter i2 l2 k) (t1:s.heap.IsTuple l1 xs) (t2:s.heap.IsTuple l2 ys)
  (hend:xs[k]? = none∨ys[k]? = none) (hQ:∀ h',(∀ c o,c≠z->c≠q->c≠i1->c≠i2->s.heap.get? c=some o->h'.get? c=some o)->Q none { s with heap:=h' }):U4 (Vk prog w) A (Xy (.ref z)) Q E s:=by
 have hT:s.TypeIs (.ref z) "zip":=⟨_,hz,rfl⟩; unfold Xy
 refine Uw (W6 (V0 (name:=WX "__next__") hT WW (V2 WW hT Za (Px hh D hz hp hq j1 j2 t1 t2 hend fun h' e kp he=>?_) (YJ _))))
 obtain⟨o,ho,hc⟩:=he
 exact Uw (X3 (T:="StopIteration") (b:=true) ⟨o,ho,hc⟩ Zv (UJ (hQ _ kp)))
abbrev zA (h:Wc) (t:Addr):Wc:=h.push { cls:=.type "tuple_iterator",data:=.fields #[.ref t,.int 0 0] }
abbrev zC (h:Wc) (t u:Addr):Wc:=(zA (zA h t) u).push { cls:=.type "tuple",data:=.seq #[.ref h.objs.size,.ref (zA h t).objs.size] }
abbrev zD (h:Wc) (t u:Addr):Wc:=(zC h t u).push { cls:=.type "tuple",data:=.seq #[.none,.none] }
abbrev zE (h:Wc) (t u:Addr):Wc:=(zD h t u).push { cls:=.type "zip",data:=.fields #[.none,.bool false,.bool false,.ref (zA (zA h t) u).objs.size,.ref (zC h t u).objs.size] }
theorem Rp (l1 l2:Addr) (xs ys:Array Value) :
  aba (Builtin.«zip.__new__» ⟨[.type "zip",.ref l1,.ref l2],[]⟩) (fun _ R s=>s.heap.IsTuple l1 xs/\s.heap.IsTuple l2 ys/\R (.ok (.ret (.ref (zD s.heap l1 l2).objs.size))) { s with heap:=zE s.heap l1 l2 }) :=
 .of_wp fun prog w A R s h=>by
  obtain⟨hp,g,d,tk,os⟩:=s; obtain⟨a1,a2,h⟩:=h; have hsub:=sub_zip
  have T1:Z7 (Zu ⟨hp,g,d,tk,os⟩) l1 xs:=a1
  have T2:Z7 (Zu ⟨hp.push { cls:=.type "tuple_iterator",data:=.fields #[.ref l1,.int 0 0] },g,d,tk,os⟩) l2 ys:=by
   obtain⟨o,e,r⟩:=a2
   exact⟨o,Ux _ e,r⟩
  wp_walk using Xq T1,Xq T2
  exact⟨_,rfl,h⟩
theorem Oz {l1 l2:Addr} {xs ys:Array Value} {Q:Value->Uz->Prop} (t1:s.heap.IsTuple l1 xs) (t2:s.heap.IsTuple l2 ys)
  (h:∀ h',Xk h' (s.heap.objs.size+4) (s.heap.objs.size+2) (s.heap.objs.size+3) .none->WY h' (s.heap.objs.size+2) (.ref s.heap.objs.size) (.ref (s.heap.objs.size+1))->WY h' (s.heap.objs.size+3) .none .none →
   h'.IsTupleIter s.heap.objs.size l1 0->h'.IsTupleIter (s.heap.objs.size+1) l2 0->(∀ c o,s.heap.get? c=some o->h'.get? c=some o)->Q (.ref (s.heap.objs.size+4)) { s with heap:=h' }) :
  U4 (Vk prog w) A (call (.type "zip") [.ref l1,.ref l2]) Q E s:=by
 refine aaE F.called_zip (by decide) (F.typeCall_zip_2 _ _) (F.newCall_zip_2 _ _) (fun obj=>F.args_object_init_3 obj _ _) abZ (Rp l1 l2 xs ys) ⟨t1,t2,?_⟩
 have y1:(zA s.heap l1).objs.size=s.heap.objs.size+1:=VL ..
 have y2:(zA (zA s.heap l1) l2).objs.size=s.heap.objs.size+2:=by rw[VL,y1]
 have y3:(zC s.heap l1 l2).objs.size=s.heap.objs.size+3:=by rw[VL,y2]
 have y4:(zD s.heap l1 l2).objs.size=s.heap.objs.size+4:=by rw[VL,y3]
 have w5:(zE s.heap l1 l2).get? (zD s.heap l1 l2).objs.size=some _:=UT _ rfl
 have w4:(zE s.heap l1 l2).get? (zC s.heap l1 l2).objs.size=some _:=Ux _ (UT _ rfl)
 have w3:(zE s.heap l1 l2).get? (zA (zA s.heap l1) l2).objs.size=some _:=Ux _ (Ux _ (UT _ rfl))
 have w2:(zE s.heap l1 l2).get? (zA s.heap l1).objs.size=some _:=Ux _ (Ux _ (Ux _ (UT _ rfl)))
 have w1:(zE s.heap l1 l2).get? s.heap.objs.size=some _:=Ux _ (Ux _ (Ux _ (Ux _ (UT _ rfl))))
 show _/\_
 rw[y2,y3,y4] at w5; rw[y1,y2] at w3; rw[y3] at w4; rw[y1] at w2; rw[y4]
 exact⟨⟨_,w5,rfl⟩,h _ w5 w3 w4 ⟨_,w1,rfl,rfl⟩ ⟨_,w2,rfl,rfl⟩ fun c o u=>Ux _ (Ux _ (Ux _ (Ux _ (Ux _ u))))⟩
end
theorem Inv.iy {X:Cx} {pins:List (Addr × Yh)} {σ:St} {H:Hp} {s:Uz} {h':Wc} {t':Nat} {ch:List Addr} (I:Inv X pins σ H s) (k:∀ b o,b ∉ ch->s.heap.get? b=some o->h'.get? b=some o) (hf:∀ b∈ch,xf X pins H b) :
  Inv X pins σ H { s with heap:=h',toks:=t' }:=by
 have nit:∀ b u,H b=some u->b ∉ ch:=fun b u e z=>by
  have:=(hf b z).1
  rw[this] at e; cases e
 refine I.step (g':=s.gens) (d':=s.drawn) (ch:=ch) (fun b hb=>let ⟨_,f1,_,f3,f4,f5⟩:=hf b hb; ⟨f3,f1,f4,f5⟩) (fun b o _ _ hc e _=>k b o hc e) (fun b o _ _ hc e _=>⟨o.slots,k b o hc e⟩) (fun _ _ _ _ n=>n)
  (fun b o hc e=>⟨o,k b o hc e⟩) (fun _ _ e=>e) (fun _ _ _ e=>e) (fun b ps e=>⟨#[],by rw[e]; simp⟩) (fun m hm=>?_) (fun b u e=>?_) I.bare
 ·obtain⟨o,es,ep,ho,r⟩:=hm
  exact⟨o,es,ep,k _ o (fun z=>(hf _ z).2.1 rfl) ho,r⟩
 ·refine (I.hok b u e).stay (fun c v hc q=>k c v ?_ q) (fun _ q=>q) fun _ _ q=>q
  rcases hc with z | z
  ·rw[z]; exact nit b u e
  ·exact nit c _ z
def Itz (K : Vi) (a b : Addr) : It :=
  ⟨fun i H => ∃ xs ys x y, SqT K H a xs ∧ SqT K H b ys ∧ xs[i]? = some x ∧ ys[i]? = some y,
   fun i H v H' => ∃ p x y, H p = none ∧ v = .ref p ∧ (∀ xs, SqT K H a xs → xs[i]? = some x) ∧ (∀ ys, SqT K H b ys → ys[i]? = some y) ∧ H' = upd H p (.tup [x, y]),
   fun i H => ∃ xs ys, SqT K H a xs ∧ SqT K H b ys ∧ (xs.length ≤ i ∨ ys.length ≤ i)⟩
def tnZ (z p q i1 i2 a b:Addr) (i:Nat) (h:Wc):Prop:=Xk h z p q .none/\WY h p (.ref i1) (.ref i2)/\(∃ u v,WY h q u v)/\h.IsTupleIter i1 a i/\h.IsTupleIter i2 b i
theorem Jv {P:Vp} {w:VP} {K:Vi} {elts:List Expr} {x1} {pos:ZG} {z p q i1 i2 a b:Addr} (D:Zap z p q i1 i2 a b) :
  Turn P w K (.Tuple elts x1 pos) (Itz K a b) [z,p,q,i1,i2] z (tnZ z p q i1 i2 a b) where
 mem:=by simp
 obj:=fun i h st c hc=>by
  obtain⟨hz,hp,⟨u,v,hq⟩,⟨o1,e1,_,d1⟩,⟨o2,e2,_,d2⟩⟩:=st
  simp only[V3,Ws,or_false] at hc
  rcases hc with rfl | rfl | rfl | rfl | rfl
  ·exact⟨_,hz,fun v z=>by cases z⟩
  ·exact⟨_,hp,fun v z=>by cases z⟩
  ·exact⟨_,hq,fun v z=>by cases z⟩
  ·exact⟨_,e1,fun v z=>by rw[d1] at z; cases z⟩
  ·exact⟨_,e2,fun v z=>by rw[d2] at z; cases z⟩
 keep:=fun i h h' st k=>by
  obtain⟨hz,hp,⟨u,v,hq⟩,⟨o1,e1,r1⟩,⟨o2,e2,r2⟩⟩:=st
  exact⟨k z (by simp) _ hz,k p (by simp) _ hp,⟨u,v,k q (by simp) _ hq⟩,⟨o1,k i1 (by simp) _ e1,r1⟩,⟨o2,k i2 (by simp) _ e2,r2⟩⟩
 item:=by
  intro X hP hw hK hc i pins s σ H E I hf st hg
  subst hP hw hK
  obtain⟨xs,ys,x,y,hx,hy,ex,ey⟩:=hg
  obtain⟨hz,hp,⟨u,v,hq⟩,j1,j2⟩:=st
  obtain⟨its,rv,tp,_⟩:=I.tuple hx
  obtain⟨its2,rv2,tp2,_⟩:=I.tuple hy
  obtain⟨xu,hxu,rx⟩:=rv.get ex
  obtain⟨yu,hyu,ry⟩:=rv2.get ey
  refine O2 D hz hp hq j1 j2 (show s.heap.IsTuple a its.toArray from tp) (show s.heap.IsTuple b its2.toArray from tp2) (x:=xu) (y:=yu) (by simpa using hxu) (by simpa using hyu) fun h' z' q' u1 u2 t' _ kp=>⟨_,rfl,?_⟩
  refine aag z' fun h2 z2 b2=>?_
  have lt:∀ {c o},s.heap.get? c=some o->c < s.heap.objs.size:=fun e=>U6 e
  have zne:s.heap.objs.size≠z:=WM (lt hz)
  have hfr:H s.heap.objs.size=none:=I.fresh
  have I1:Inv X pins σ (upd H s.heap.objs.size (.tup [x,y])) { s with heap:=s.heap.push { cls:=.type "tuple",data:=.seq #[xu,yu] } } :=
   I.laid (t':=s.toks) (fun _ _ e=>Ux _ e) (U0 _) ⟨by show 2<=sizeLine; decide,[xu,yu],.cons rx (.cons ry .nil),⟨_,UT _ rfl,rfl,_,rfl⟩⟩
  have blt:∀ c∈[z,p,q,i1,i2],c < s.heap.objs.size:=fun c hc=>by
   obtain⟨_,e1,_⟩:=j1
   obtain⟨_,e2,_⟩:=j2
   simp only[V3,Ws,or_false] at hc
   rcases hc with rfl | rfl | rfl | rfl | rfl
   ·exact lt hz
   ·exact lt hp
   ·exact lt hq
   ·exact lt e1
   ·exact lt e2
  have ff:∀ c∈[z,p,q,i1,i2],xf X pins (upd H s.heap.objs.size (.tup [x,y])) c:=fun c hc=>by
   obtain⟨f0,fr⟩:=hf c hc
   exact⟨by rw[bB (Vh (blt c hc))]; exact f0,fr⟩
  have kk:∀ c o,c ∉ [z,q,i1,i2]->(s.heap.push { cls:=.type "tuple",data:=.seq #[xu,yu] }).get? c=some o->h2.get? c=some o:=fun c o hc e=>by
   have c1:c≠z:=fun h=>hc (by simp [h])
   refine (b2.2 c c1).trans ?_
   rcases YW e with⟨ec,eo⟩ | e'
   ·subst ec
    subst eo
    exact t'
   ·exact kp c o c1 (fun h=>hc (by simp [h])) (fun h=>hc (by simp [h])) (fun h=>hc (by simp [h])) e'
  have I2:Inv X pins σ (upd H s.heap.objs.size (.tup [x,y])) { s with heap:=h2 } :=
   Inv.iy (s:={ s with heap:=s.heap.push { cls:=.type "tuple",data:=.seq #[xu,yu] } }) (h':=h2) (t':=s.toks) (ch:=[z,q,i1,i2]) I1 kk fun c hc=>ff c (by
    simp only[V3] at hc ⊢
    rcases hc with h | h | h | h
    ·exact .inl h
    ·exact .inr (.inr (.inl h))
    ·exact .inr (.inr (.inr (.inl h)))
    ·exact .inr (.inr (.inr (.inr h))))
  refine⟨.ref s.heap.objs.size,_,I2,rfl,⟨_,x,y,hfr,rfl,fun zs hzs=>?_,fun zs hzs=>?_,rfl⟩,⟨z2,(b2.2 _ D.pz).trans (kp _ _ D.pz D.pq D.pa D.pb hp),⟨_,_,(b2.2 _ D.qz).trans q'⟩,bV u1 b2 D.az,bV u2 b2 D.bz⟩,fun c hc=>(ff c hc).1⟩
  ·rw[I.fJ hzs hx]; exact ex
  ·rw[I.fJ hzs hy]; exact ey
 done:=by
  intro X hP hw hK hc i pins s σ H E I hf st hg
  subst hP hw hK
  obtain⟨xs,ys,hx,hy,hend⟩:=hg
  obtain⟨hz,hp,⟨u,v,hq⟩,j1,j2⟩:=st
  obtain⟨its,rv,tp,_⟩:=I.tuple hx
  obtain⟨its2,rv2,tp2,_⟩:=I.tuple hy
  have l1:=rv.length
  have l2:=rv2.length
  refine Qh (I.ok.hd hc) D hz hp hq j1 j2 (show s.heap.IsTuple a its.toArray from tp) (show s.heap.IsTuple b its2.toArray from tp2) (hend.imp (fun h=>by simp; lia) fun h=>by simp; lia) fun h' kp=>⟨rfl,?_⟩
  exact I.iy (t':=s.toks) (ch:=[z,q,i1,i2]) (fun c o hc e=>kp c o (fun h=>hc (by simp [h])) (fun h=>hc (by simp [h])) (fun h=>hc (by simp [h])) (fun h=>hc (by simp [h])) e)
   fun c hc=>hf c (by simp only[V3] at hc ⊢; rcases hc with h | h | h | h; exact .inl h; exact .inr (.inr (.inl h)); exact .inr (.inr (.inr (.inl h))); exact .inr (.inr (.inr (.inr h))))
 self:=fun _ _ _ _ _ st h=>Y0 st.1 h
theorem Eb {n c d:Nat} (hc:c < n) (hd:d < n):Zap (n+4) (n+2) (n+3) n (n+1) c d:=by
 constructor <;> (refine (fun (h:¬ @Eq Nat _ _)=>h) ?_) <;> lia
def Uh (K:Vi) (ta:TA):TI:=fun σ H R=>ta σ H fun vs H1=>∃ a b xs ys,vs=[.ref a,.ref b]/\SqT K H1 a xs/\SqT K H1 b ys/\R (Itz K a b) H1
theorem Rr {X:Cx} {elts:List Expr} {x1} {tpos:ZG} {a b:Expr} {ta:TA} {p pos:ZG} (hg:Gl X "zip") (hm:X.mg "zip" = none) (ha:PA X [a,b] ta) (hs:V4 [a,b] X.env=[(false,X7 a X.env),(false,X7 b X.env)]:=by rfl) (hs2:V4 [b] X.env=[(false,X7 b X.env)]:=by rfl) :
  PI X (.Tuple elts x1 tpos) (.Call (.Name "zip" p) [a,b] [] pos) (Uh X.K ta):=by
 intro pins s σ H R I h
 refine Call_ (iK I hg hm boot_zip (Wq (thn (ha pos pins s σ H _ I h) fun us s1 ⟨vs,H1,I1,r1,q1⟩=>?_) (by rw[hs,hs2]) (by rw[hs2]; rfl)))
 obtain⟨c,d,xs,ys,e,hx,hy,q⟩:=q1
 subst e
 obtain⟨u1,u2,rfl,ru1,ru2⟩:=vals2 r1
 cases ru1
 cases ru2
 obtain⟨its,_,tp,_⟩:=I1.tuple hx
 obtain⟨its2,_,tp2,_⟩:=I1.tuple hy
 refine Oz (show s1.heap.IsTuple c its.toArray from tp) (show s1.heap.IsTuple d its2.toArray from tp2) fun h' z' p' q' j1 j2 kp=>?_
 have lc:c < s1.heap.objs.size:=by obtain⟨o,e,_⟩:=tp; exact U6 e
 have ld:d < s1.heap.objs.size:=by obtain⟨o,e,_⟩:=tp2; exact U6 e
 have D:Zap (s1.heap.objs.size+4) (s1.heap.objs.size+2) (s1.heap.objs.size+3) s1.heap.objs.size (s1.heap.objs.size+1) c d:=Eb lc ld
 refine Y0 z' ⟨_,_,_,_,H1,rfl,I1.kept (t':=s1.toks) kp,Jv D,⟨z',p',⟨_,_,q'⟩,j1,j2⟩,fun e he=>?_,q⟩
 have hle:s1.heap.objs.size<=e:=by
  simp only[V3,Ws,or_false] at he
  rcases he with rfl | rfl | rfl | rfl | rfl <;> lia
 exact I1.Gd hle (I1.hok.fresh hle)
theorem Nr {K:Vi} {a b:Addr} {xs ys:List V} {g:TG} {tb:TS} {D:Ends} {σ:St} {H:Hp} (hlen:xs.length=ys.length) (Pv:Nat->St->Hp->Prop) (h0:Pv 0 σ H) (hl:∀ i σ H,i<=xs.length->Pv i σ H->SqT K H a xs/\SqT K H b ys)
  (hs:∀ i x y p σ H,xs[i]? = some x->ys[i]? = some y->H p=none->Pv i σ H->g (.ref p) σ (upd H p (.tup [x,y])) fun σ2 H2=>tb { D with nx:=Pv (i+1),ct:=Pv (i+1),bk:=D.nx } σ2 H2) (hd:∀ σ H,Pv xs.length σ H->D.nx σ H) :
  ∃ W:Nat->Nat->St->Hp->Prop,(∃ m,W 0 m σ H)/\∀ i m σ H,W i m σ H →
   ((Itz K a b).stop i H/\D.nx σ H)∨((Itz K a b).go i H/\∃ N:St->Hp->Prop,(∀ σ' H',N σ' H'->∃ m',m' < m/\W (i+1) m' σ' H')/\∀ x H',(Itz K a b).yld i H x H'->g x σ H' fun σ2 H2=>tb { D with nx:=N,ct:=N,bk:=D.nx } σ2 H2):=by
 refine⟨fun i m σ H=>m=xs.length - i/\i<=xs.length/\Pv i σ H,⟨xs.length,by simp,Vr _,h0⟩,?_⟩
 rintro i m σ H ⟨rfl,hi,p⟩
 obtain⟨q1,q2⟩:=hl i σ H hi p
 by_cases hlt:i < xs.length
 ·have hlt2:i < ys.length:=by lia
  refine .inr ⟨⟨xs,ys,xs[i],ys[i],q1,q2,by simp [hlt],by simp [hlt2]⟩,Pv (i+1),fun σ' H' p'=>⟨xs.length - (i+1),by lia,rfl,hlt,p'⟩,fun v H' y=>?_⟩
  obtain⟨pp,x,y,hp,rfl,hx,hy,rfl⟩:=y
  exact hs i x y pp σ _ (hx xs q1) (hy ys q2) hp p
 ·have e:i=xs.length:=by lia
  subst e
  exact .inl ⟨⟨xs,ys,q1,q2,.inl (U0 _)⟩,hd σ H p⟩
end L2
namespace L2
open PySem PySem.Spec PyProof.Rows
theorem mD:∀ ns ms:List Int,((Vb (min ns.length ms.length)).all (fun j=>ns.getD j 0 == ms.getD j 0) && ns.length == ms.length)=decide (ns=ms)
 | [],[]=>rfl
 | [],m::ms=>by rw[decide_eq_false (by simp)]; rfl
 | n::ns,[]=>by rw[decide_eq_false (by simp)]; rfl
 | n::ns,m::ms=>by
  have ih:=mD ns ms
  have e:min (n::ns).length (m::ms).length=min ns.length ms.length+1:=by rw[Vd,Vd]; lia
  have el:((n::ns).length == (m::ms).length)=(ns.length == ms.length):=by simp
  have e3:decide (n::ns=m::ms)=(n == m && decide (ns=ms)):=by
   by_cases h1:n=m
   ·subst h1
    by_cases h2:ns=ms
    ·subst h2; simp
    ·simp [h2]
   ·simp [h1]
  rw[e,aaJ,ZR,List.all_map,el,e3,← ih,Bool.and_assoc]
  rfl
theorem dD {X:Cx} {pos:ZG} {K:Vi} {es:List Expr} {k:Nat} {t:TGs} (n:Nat) (hK:X.K=K) (hc:X.calm=true) (h:PGs X es t)
  (hn:(ZM es X.env).length=n:=by rfl) (hst:(ZM es X.env).findIdx? (·.1)=none:=by rfl):PG X (.Tuple es k pos) (S6 K n t):=by
 subst hK
 exact Q7 hc h hn hst
section
variable {X:Cx}
inductive Mt (K:Vi) (x:V) (y:V) (H:Hp) (Q:VK):Prop where
 | mk (a b:Addr) (ns ms:List Int) (z0:x = .ref a) (z1:y = .ref b) (z2:SqT K H a (ns.map V.int)) (z3:SqT K H b (ms.map V.int)) (z4:Q (.bl (decide (ns=ms))) H):Mt K x y H Q
def yQ (K:Vi):R2:=fun x y H Q=>Mt K x y H Q
theorem ints_get {ns:List Int} {its:List Value} (i:V8 its ns) {j:Nat} (h:j < its.length):∃ t,its[j] = .int (ns.getD j 0) t:=by
 induction i generalizing j with
 | nil=>exact absurd h (Zh _)
 | cons n t r ih =>
  cases j with
  | zero=>exact⟨t,rfl⟩
  | succ j =>
   obtain⟨u,e⟩:=ih (j:=j) (aaI h)
   exact⟨u,by simpa using e⟩
theorem nC (hu:X.A.units < cLine):OpR X (Xa .Eq) (yQ X.K):=by
 intro pins s σ H x y v u Q I rx ry h
 obtain⟨a,b,ns,ms,rfl,rfl,ha,hb,q⟩:=h
 cases rx
 cases ry
 obtain⟨its,r1,p1,_⟩:=I.tuple ha
 obtain⟨its2,r2,p2,_⟩:=I.tuple hb
 have i1:V8 its ns:=intsAre_of r1
 have i2:V8 its2 ms:=intsAre_of r2
 have l1:=i1.length
 have l2:=i2.length
 refine SeqAt.eq_tupleAt (e:=fun j=>ns.getD j 0 == ms.getD j 0) (show s.heap.IsTuple a its.toArray from p1) (show s.heap.IsTuple b its2.toArray from p2) hu (fun j h1 h2=>?_) ?_
 ·obtain⟨t,e1⟩:=ints_get i1 (j:=j) (by simpa using h1)
  obtain⟨t',e2⟩:=ints_get i2 (j:=j) (by simpa using h2)
  rw[Xc,Xc,e1,e2]
  exact aac _ _ _ _
 ·refine⟨.bl _,H,I,?_,q⟩
  have e:=mD ns ms
  have s1:its.toArray.size=ns.length:=by rw[U7]; exact l1
  have s2:its2.toArray.size=ms.length:=by rw[U7]; exact l2
  rw[s1,s2,e]
  rfl
inductive Ew (K:Vi) (x:V) (y:V) (H:Hp) (Q:VK):Prop where
 | mk (a b:Addr) (xs ys:List V) (z0:x = .ref a) (z1:y = .ref b) (z2:SqT K H a xs) (z3:SqT K H b ys) (z4:xs.length+ys.length<=sizeLine) (z5:(xs=[]->Q (.ref b) H)) (z6:(xs≠[]->ys=[]->Q (.ref a) H)) (z7:(xs≠[]->ys≠[]->∀ p,H p=none->Q (.ref p) (upd H p (.tup (xs++ys))))):Ew K x y H Q
def jy (K:Vi):R2:=fun x y H Q=>Ew K x y H Q
theorem lH:OpR X (YK .Add) (jy X.K):=by
 intro pins s σ H x y v u Q I rx ry h
 obtain⟨a,b,xs,ys,rfl,rfl,ha,hb,hz,q0,q1,q2⟩:=h
 by_cases hx:xs=[]
 ·subst hx
  cases rx
  cases ry
  obtain⟨its,r1,p1,_⟩:=I.tuple ha
  obtain⟨its2,r2,p2,_⟩:=I.tuple hb
  cases r1
  obtain⟨⟨c1,d1,dt1,sl1⟩,ho,hc,n,hd⟩:=id p1
  obtain⟨⟨c2,d2,dt2,sl2⟩,ho2,hc2,n2,hd2⟩:=id p2
  simp only at hc hd hc2 hd2
  subst hc hd hc2 hd2
  exact concat_meets ⟨_,ho,rfl⟩ ⟨_,ho2,rfl⟩ abF seq_tuple_add aaH aaz (aat _ _) (tuple_addW0 a b _ _ n n2 d1 d2 sl1 sl2 rfl) ⟨ho,ho2,⟨.ref b,H,I,rfl,q0 rfl⟩⟩
 ·exact Nt pins s σ H _ _ v u Q I rx ry ⟨a,b,xs,ys,rfl,rfl,ha,hb,hx,hz,q1 hx,q2 hx⟩
end
end L2
namespace L2
open PySem PySem.Spec PyProof.Rows
theorem jR:∀ bs:List Bool,(Vb bs.length).any (fun i=>bs.getD i false)=bs.any fun b=>b
 | []=>rfl
 | b::r=>by
  have ih:=jR r
  rw[Vd,aaJ,Yz,List.any_map,Yz,← ih]
  rfl
theorem Cp (l:Addr) (items:Array Value) (n:Nat) (dd:Option Addr) (sl:Array (Option Value)) (x:Int) (u:Tok) (h1:1 < x) (h2:x < 2 ^ 31) (he:items.isEmpty=false) (hz:items.size * x.toNat<=sizeLine) :
  aba (Builtin.«tuple.__mul__» ⟨[.ref l,.int x u],[]⟩) (fun _ R s=>s.heap.get? l=some { cls:=.type "tuple",dict:=dd,data:=.seq items n,slots:=sl }/\R (.ok (.ret (Vy s.heap.objs.size))) { s with heap:=s.heap.push { cls:=Yr "tuple",data:=Data.seq (Zr (fun x1 x2=>x1++x2) #[] (Vf x.toNat items)) },toks:=s.toks }) :=
 .of_wp fun prog w A R s h=>by
  obtain⟨hp,g,d,tk,os⟩:=s
  obtain⟨hl,h⟩:=h
  have f1:=AutoSeq1.idx_int
  have c1:(decide (x < -(2 ^ 63)) || decide (x ≥ 2 ^ 63))=false:=by
   rw[decide_eq_false (by lia),decide_eq_false (by lia)]
   rfl
  have c2:(items.isEmpty || x == 1)=false:=by
   rw[he,beq_false_of_ne (by lia)]
   rfl
  have c3:(decide (x<=0) || items.isEmpty)=false:=by
   rw[he,decide_eq_false (by lia)]
   rfl
  have ez:((items.size * x.toNat:Nat):Int)=(items.size:Int) * x:=by
   rw[Int.natCast_mul,Int.toNat_of_nonneg (by lia)]
  have c4:¬ (items.size:Int) * x > (2 ^ 63 - 1) / 8:=by
   have:(sizeLine:Nat)<=(2 ^ 63 - 1) / 8:=by decide
   lia
  have c5:Builtin.Tuple.tupleTooMany ((items.size:Int) * x)=false:=by
   unfold Builtin.Tuple.tupleTooMany
   rw[decide_eq_false]
   lia
  have c6:¬ (Zr (fun x1 x2=>x1++x2) #[] (Vf x.toNat items)).size > sizeLine:=by
   have e:=foldl_rep items.toList x.toNat []
   rw[ZX,Array.toArray_toList] at e
   rw[e,U7,len_rep,Vo,Nat.mul_comm]
   lia
  wp_walk using Vq hl
  refine Yb (decide_eq_false (by rw[c1]; exact U5)) ?_
  wp_walk using Vq hl
  refine Yb (decide_eq_false (by rw[c2]; exact U5)) ?_
  wp_walk using Vq hl
  refine Yb (decide_eq_false (by rw[c3]; exact U5)) ?_
  wp_walk using Vq hl
  refine Yb (decide_eq_false c4) ?_
  wp_walk using Vq hl
  exact⟨_,rfl,h⟩
theorem Dv (l:Addr) (items:Array Value) (n:Nat) (dd:Option Addr) (sl:Array (Option Value)) (u:Tok) :
  aba (Builtin.«tuple.__mul__» ⟨[.ref l,.int 1 u],[]⟩) (fun _ R s=>s.heap.get? l=some { cls:=.type "tuple",dict:=dd,data:=.seq items n,slots:=sl }/\R (.ok (.ret (Vy l))) s) :=
 .of_wp fun prog w A R s h=>by
  obtain⟨hp,g,d,tk,os⟩:=s
  obtain⟨hl,h⟩:=h
  have f1:=AutoSeq1.idx_int
  have c2:(items.isEmpty || (1:Int) == 1)=true:=by rw[show ((1:Int) == 1)=true from rfl,Bool.or_true]
  wp_walk using Vq hl
  exact⟨_,rfl,h⟩
theorem jg:fillsNumberSlot (.type "tuple") "mul" = pure false :=
 PySem.fillsNumberSlot_seq (id:="tuple.__mul__") (r:=some (.builtin "tuple.__rmul__")) F.slot_tuple_mul.lookup (by decide+kernel) F.slot_tuple_rmul.lookup (by decide+kernel)
theorem nF:seqRepeat? (.type "tuple")=pure (some (.builtin "tuple.__mul__")):=by
 unfold seqRepeat?
 rw[PySem.seqSlot_of (T:="tuple") (name:="__mul__") (id:="tuple.__mul__") F.slot_tuple_mul.lookup (by decide+kernel),PySem.seqSlot_of (T:="tuple") (name:="__rmul__") (id:="tuple.__rmul__") F.slot_tuple_rmul.lookup (by decide+kernel)]
 rfl
theorem jM (a:Int) (t:Tok) (l:Addr) (items:Array Value) (n:Nat) (dd:Option Addr) (sl:Array (Option Value)) :
  aba (Builtin.«int.__rmul__» ⟨[.int a t,.ref l],[]⟩) (fun _ R s=>s.heap.get? l=some { cls:=.type "tuple",dict:=dd,data:=.seq items n,slots:=sl }/\R (.ok (.ret Value.notImplemented)) s) :=
 .of_wp fun prog w A R s h=>by
  obtain⟨hp,g,d,tk,os⟩:=s
  obtain⟨hl,h⟩:=h
  wp_walk
  exact⟨_,rfl,h⟩
section
variable {X:Cx}
inductive Ma (K:Vi) (x:V) (y:V) (H:Hp) (Q:VK):Prop where
 | mk (l:Addr) (k:Int) (xs:List V) (z0:x = .ref l) (z1:y = .int k) (z2:SqT K H l xs) (z3:xs≠[]) (z4:1<=k) (z5:k < 2 ^ 31) (z6:xs.length * k.toNat<=sizeLine) (z7:(k=1->Q (.ref l) H)) (z8:(k≠1->∀ p,H p=none->Q (.ref p) (upd H p (.tup (Vf k.toNat xs).flatten)))):Ma K x y H Q
def OD (K:Vi):R2:=fun x y H Q=>Ma K x y H Q
theorem M5:OpR X (YK .Mult) (OD X.K):=by
 intro pins s σ H x y v u Q I rx ry h
 obtain⟨l,k,xs,rfl,rfl,hl,hx,h1,h2,hz,q1,q2⟩:=h
 cases rx
 obtain⟨t,rfl⟩:=ry
 obtain⟨its,r,p,_⟩:=I.tuple hl
 have hlen:=r.length
 obtain⟨⟨c1,d1,dt1,sl1⟩,ho,hc,n,hd⟩:=id p
 simp only at hc hd
 subst hc hd
 by_cases hk:k=1
 ·subst hk
  exact aah (T:="tuple") (U:="int") (by decide) ⟨_,ho,rfl⟩ (fun s'=>aab s' 1 t) jg abY Zm nF F.slot_int_index.lookup
   (Zq Zm (aab s 1 t) abO (abB _ _) (jM 1 t l its.toArray n d1 sl1)
    ⟨ho,rfl,⟨_,ho,rfl⟩,Zq F.slot_tuple_mul ⟨_,ho,rfl⟩ F.entry_tuple_mul (F.args_tuple_mul_2 _ _) (Dv l its.toArray n d1 sl1 t) ⟨ho,⟨.ref l,H,I,rfl,q1 rfl⟩⟩⟩)
 ·have he:its.toArray.isEmpty=false:=by
   cases its with
   | nil=>exact absurd (r.tH.mp rfl) hx
   | cons a r'=>rfl
  have hnew:Zr (fun x1 x2=>x1++x2) #[] (Vf k.toNat its.toArray)=(Vf k.toNat its).flatten.toArray:=by
   have:=foldl_rep its k.toNat []
   rw[ZX] at this
   exact this
  have hz':its.toArray.size * k.toNat<=sizeLine:=by rw[U7,← hlen]; exact hz
  refine aah (T:="tuple") (U:="int") (by decide) ⟨_,ho,rfl⟩ (fun s'=>aab s' k t) jg abY Zm nF F.slot_int_index.lookup
   (Zq Zm (aab s k t) abO (abB _ _) (jM k t l its.toArray n d1 sl1)
    ⟨ho,rfl,⟨_,ho,rfl⟩,Zq F.slot_tuple_mul ⟨_,ho,rfl⟩ F.entry_tuple_mul (F.args_tuple_mul_2 _ _) (Cp l its.toArray n d1 sl1 k t (by lia) h2 he hz') ⟨ho,?_⟩⟩)
  rw[hnew]
  refine⟨.ref s.heap.objs.size,_,I.laid (t':=s.toks) (o:=.tup (Vf k.toNat xs).flatten) (fun b ob q=>Ux _ q) (U0 _) ?_,rfl,q2 hk _ (I.hok.fresh (U0 _))⟩
  exact⟨by rw[len_rep,Nat.mul_comm]; exact hz,_,r.rep k.toNat,IsTup.new _ _⟩
inductive Lr (K:Vi) (xs:List V) (H:Hp) (Q:VK):Prop where
 | mk (p:Addr) (ns:List Int) (z0:xs=[.ref p]) (z1:SqL K H p (ns.map V.int)) (z2:Q (.int ns.sum) H):Lr K xs H Q
def Js (K:Vi):List V->Hp->VK->Prop:=fun xs H Q=>Lr K xs H Q
theorem pJ (hc:X.calm=true):iR X (.builtin "sum") (Js X.K):=by
 intro pins s σ H xs us Q I r h
 obtain⟨p,ns,rfl,hq,q⟩:=h
 obtain⟨u,rfl,ru⟩:=vals1 r
 cases ru
 obtain⟨its,rv,pl,hz⟩:=I.list hq
 have hi:V8 its ns:=intsAre_of rv
 obtain⟨zs,hx⟩:=hi.allInts.items
 have hl':s.heap.IsList p (intItems zs):=hx▸pl.isList
 refine sum_intListG (I.ok.hd hc) hl' fun h' tk t' hk=>?_
 have e1:ns=zs.toList.map (·.1):=by
  rw[← nums_intItems,← hx]
  exact (show numsOf its.toArray.toList=ns from hi.numsOf).symm
 have e2:preSum (numAt zs) zs.size=ns.sum:=by
  rw[preSum_eq,List.take_of_length_le (by simp),e1]
 rw[e2]
 exact⟨.int _,H,I.kept (t':=tk) hk,⟨_,rfl⟩,q⟩
inductive K8 (K:Vi) (xs:List V) (H:Hp) (Q:VK):Prop where
 | mk (p:Addr) (bs:List Bool) (z0:xs=[.ref p]) (z1:SqL K H p (bs.map V.bl)) (z2:Q (.bl (bs.any fun b=>b)) H):K8 K xs H Q
def Mw (K:Vi):List V->Hp->VK->Prop:=fun xs H Q=>K8 K xs H Q
theorem vh (hc:X.calm=true):iR X (.builtin "any") (Mw X.K):=by
 intro pins s σ H xs us Q I r h
 obtain⟨p,bs,rfl,hq,q⟩:=h
 obtain⟨u,rfl,ru⟩:=vals1 r
 cases ru
 obtain⟨its,rv,pl,hz⟩:=I.list hq
 have hlen:bs.length=its.length:=by simpa using rv.length
 refine call_any_walk (Yd pl.isList ?_)
 have I1:Inv X pins σ H { s with heap:=s.heap.push { cls:=.type "list_iterator",data:=.fields #[.ref p,.int 0 0] } }:=I.kept (t':=s.toks) fun b o e=>Ux _ e
 have hne:p≠s.heap.objs.size:=by
  obtain⟨o,ho,_⟩:=pl.isList
  exact Vh (U6 ho)
 refine⟨s.heap.objs.size,_,_,_,_,_,fun i=>bs.getD i false,rfl,abf (A:=X.A.in1) (I.ok.hd hc) s.heap.objs.size p hne its.toArray,⟨⟨_,UT _ rfl,rfl,rfl⟩,?_⟩,?_,fun h' tk hk=>?_⟩
 ·obtain⟨o,ho,hr⟩:=pl.isList
  exact⟨o,Ux _ ho,hr⟩
 ·intro i v s' Q' E' hP hQ
  have hP:its[i]? = some v:=by simpa using hP
  have hi:i < bs.length:=by
   rw[hlen]
   exact (List.getElem?_eq_some_iff.mp hP).1
  obtain⟨u',hu',ru'⟩:=rv.get (i:=i) (x:=V.bl bs[i]) (by rw[Vj,UG hi]; rfl)
  rw[hP] at hu'
  cases hu'
  cases (show v=aaF bs[i] from ru')
  refine Xh ?_
  have eg:bs.getD i false=bs[i]:=by rw[UL,UG hi]; rfl
  have hQ':Q' (bs.getD i false) s':=hQ
  rw[eg] at hQ'
  exact hQ'
 ·have f:=I.Gd (b:=s.heap.objs.size) (H':=H) (U0 _) I.fresh
  have eany:(Vb its.toArray.size).any (fun i=>bs.getD i false)=bs.any fun b=>b:=by
   have el:its.toArray.size=bs.length:=by rw[U7,hlen]
   rw[el]
   exact jR bs
  rw[eany]
  exact⟨.bl _,H,I1.turned (t':=tk) (it:=s.heap.objs.size) (fun b o hb e=>hk b o (by simpa using hb) e) f.1 f.2.1 f.2.2.2.1 f.2.2.2.2.1 f.2.2.2.2.2,rfl,q⟩
end
theorem K1:Wj "any" = some (.builtin "any"):=by decide+kernel
end L2
namespace L2
open PySem PySem.Spec PyProof.Rows
def Qu:List V->Hp->VK->Prop:=fun xs H Q=>(∃ i,xs=[.int i]/\Q (.int i) H)∨∃ k,xs=[.bl k]/\Q (.int (if k then 1 else 0)) H
end L2
namespace L2
open PySem
def Ris (xs:Array Nat):Prop:=xs.toList.Pairwise (· < ·)
theorem zO {xs:Array Nat} (h:Ris xs) {i j x y:Nat} (hij:i < j) (hi:xs[i]? = some x) (hj:xs[j]? = some y):x < y:=by
 rw[← Wb] at hi hj
 obtain⟨li,ei⟩:=List.getElem?_eq_some_iff.mp hi
 obtain⟨lj,ej⟩:=List.getElem?_eq_some_iff.mp hj
 have:=List.pairwise_iff_getElem.mp h i j li lj hij
 rw[ei,ej] at this
 exact this
theorem tV {xs:Array Nat} (h:Ris xs) (j:Nat):∀ (fuel lo hi:Nat),hi - lo<=fuel->lo<=hi->hi<=xs.size->(∀ i x,i < lo->xs[i]? = some x->x < j)->(∀ i x,hi<=i->xs[i]? = some x->j<=x) →
  Zw xs j fuel lo hi<=xs.size/\(∀ i x,i < Zw xs j fuel lo hi->xs[i]? = some x->x < j)/\(∀ i x,Zw xs j fuel lo hi<=i->xs[i]? = some x->j<=x)
 | 0,lo,hi,hf,hl,hs,h1,h2=>by
  rw[Zw]
  have e:lo=hi:=by lia
  subst e
  exact⟨hs,h1,h2⟩
 | fuel+1,lo,hi,hf,hl,hs,h1,h2=>by
  rw[Zw]
  by_cases hlt:lo < hi
  ·rw[if_pos hlt]
   dsimp only
   have hm1:lo<=(lo+hi) / 2:=by lia
   have hm2:(lo+hi) / 2 < hi:=by lia
   have hms:(lo+hi) / 2 < xs.size:=by lia
   generalize (lo+hi) / 2=m at *
   have eg:xs[m]? = some xs[m]:=Vn hms
   have ed:xs.getD m j=xs[m]:=by rw[WT,eg]; rfl
   rw[ed]
   by_cases hc:xs[m] < j
   ·rw[if_pos hc]
    refine tV h j fuel (m+1) hi (by lia) (by lia) hs (fun i x hi' e=>?_) h2
    by_cases hm:i=m
    ·subst hm
     rw[eg] at e
     cases e
     exact hc
    ·exact Nat.lt_trans (zO h (show i < m by lia) e eg) hc
   ·rw[if_neg hc]
    refine tV h j fuel lo m (by lia) hm1 (by lia) h1 (fun i x hi' e=>?_)
    by_cases hm:i=m
    ·subst hm
     rw[eg] at e
     cases e
     lia
    ·have:=zO h (show m < i by lia) eg e
     lia
  ·rw[if_neg hlt]
   have e:lo=hi:=by lia
   subst e
   exact⟨hs,h1,h2⟩
theorem tE {xs:Array Nat} (h:Ris xs) (j:Nat):WR xs j<=xs.size/\(∀ i x,i < WR xs j->xs[i]? = some x->x < j)/\(∀ i x,WR xs j<=i->xs[i]? = some x->j<=x):=by
 unfold WR
 refine tV h j xs.size 0 xs.size (by lia) (Vr _) (U0 _) (fun i x hi=>absurd hi (Zh _)) fun i x hi e=>?_
 rw[Yt hi] at e
 cases e
theorem below_at {xs:Array Nat} (h:Ris xs) {i x:Nat} (e:xs[i]? = some x):WR xs (x+1)=i+1:=by
 obtain⟨h1,h2,h3⟩:=tE h (x+1)
 have hi:i < xs.size:=(Array.getElem?_eq_some_iff.mp e).1
 generalize WR xs (x+1)=p at *
 rcases Nat.lt_trichotomy p (i+1) with hp | hp | hp
 ·have:=h3 i x (by lia) e
  lia
 ·exact hp
 ·have hs:i+1 < xs.size:=by lia
  have:=zO h (Xu i) e (Vn hs)
  have:=h2 (i+1) _ hp (Vn hs)
  lia
theorem BZ {xs:Array Nat} (h:Ris xs):WR xs 0=0:=by
 obtain⟨h1,h2,h3⟩:=tE h 0
 generalize WR xs 0=p at *
 rcases Nat.eq_zero_or_pos p with hp | hp
 ·exact hp
 ·have hs:0 < xs.size:=by lia
  have:=h2 0 _ hp (Vn hs)
  lia
theorem Oo {xs:Array Nat} (h:Ris xs) {j:Nat} (hj:xs[WR xs j]?≠some j):Ris (SetTable.insertAt xs (WR xs j) j):=by
 obtain⟨h1,h2,h3⟩:=tE h j
 unfold Ris
 rw[SetTable.toList_insertAt]
 generalize hp:WR xs j=p at *
 have hh:xs.toList.Pairwise (· < ·):=h
 have hlt:∀ x∈xs.toList.take p,x < j:=fun x hx=>by
  obtain⟨i,hi,e⟩:=XN hx
  rw[Vc] at hi
  rw[List.getElem_take] at e
  exact h2 i x (by lia) (by rw[← Wb,UG (by lia),e])
 have hgt:∀ x∈xs.toList.drop p,j < x:=fun x hx=>by
  obtain⟨i,hi,e⟩:=XN hx
  rw[Xv] at hi
  rw[List.getElem_drop] at e
  have ex:xs[p+i]? = some x:=by rw[← Wb,UG (by lia),e]
  have:=h3 (p+i) x (by lia) ex
  rcases WN j x with q | q
  ·exact q
  ·have ejx:x=j:=by lia
   subst ejx
   by_cases hi0:i=0
   ·subst hi0
    exact absurd ex hj
   ·have hps:p < xs.size:=by
     have:=(Array.getElem?_eq_some_iff.mp ex).1
     lia
    have:=zO h (show p < p+i by lia) (Vn hps) ex
    have:=h3 p _ (U0 _) (Vn hps)
    lia
 rw[aaY]
 refine⟨hh.sublist (List.take_sublist _ _),List.pairwise_cons.mpr ⟨hgt,hh.sublist (List.drop_sublist _ _)⟩,fun a ha b hb=>?_⟩
 rcases List.mem_cons.mp hb with rfl | hb
 ·exact hlt a ha
 ·exact Nat.lt_trans (hlt a ha) (hgt b hb)
def qg (t:YS) (j:Nat):Prop:=t.place[WR t.place j]?≠some j
theorem qZ {t:YS} {j:Nat} (h:t.slot j = .empty∨t.slot j = .dummy):qg t j:=by
 intro e
 unfold SetTable.slot at h
 dsimp only at h
 rw[e,if_pos (by exact beq_self_eq_true _)] at h
 rcases h with h | h <;> cases h
theorem mL {t:YS} {f:Nat->Int} {h:Int}:∀ (fuel:Nat) (p:SetTable.Probe) {j:Nat} {d:Option Nat},(∀ x,p.dummy=some x->qg t x)->abt t f h fuel p=some (.empty j d)->qg t j/\∀ x,d=some x->qg t x
 | 0,_,_,_,_,e=>by rw[abt] at e; cases e
 | fuel+1,p,j,d,hd,e=>by
  rw[abt] at e
  have adv:∀ q:SetTable.Probe,(t.advance q).dummy=q.dummy:=fun q=>by
   unfold SetTable.advance
   split <;> rfl
  cases hs:t.slot p.j with
  | empty =>
   rw[hs] at e
   cases e
   exact⟨qZ (.inl hs),hd⟩
  | dummy =>
   rw[hs] at e
   dsimp only at e
   refine mL fuel _ (fun x hx=>?_) e
   rw[adv] at hx
   cases hx
   exact qZ (.inr hs)
  | live i =>
   rw[hs] at e
   dsimp only at e
   by_cases hc:(f i == h)=true
   ·rw[if_pos hc] at e
    cases e
   ·rw[if_neg hc] at e
    exact mL fuel _ (fun x hx=>by rw[adv] at hx; exact hd x hx) e
theorem xW {t:YS} {h:Int} {j:Nat} {b:Bool} (e:t.freeSlot h=some (j,b)):qg t j:=by
 unfold SetTable.freeSlot SetTable.probe at e
 split at e
 ·rename_i j' d hp
  obtain⟨h1,h2⟩:=mL _ _ (fun x hx=>by cases hx) hp
  cases e
  cases d with
  | none=>exact h1
  | some x=>exact h2 x rfl
 ·cases e
structure TOk (b:Bool) (t:YS):Prop where
 led:t.led=b
 ris:t.plain=true->Ris t.place
theorem G9 (b:Bool):TOk b (.fresh 0 0 b):=⟨rfl,fun _=>ZF⟩
theorem iZ {b:Bool} {t:YS} (h:TOk b t) (n:Nat):TOk b (t.standIn n):=⟨h.led,fun z=>by cases z⟩
theorem Dr {b:Bool} {t:YS} (h:TOk b t) (es:Array (Int × Value)) (k:Int) (x:Value):TOk b (layNew t es k x).2.1:=by
 unfold layNew
 split
 ·rename_i slot wd e
  dsimp only
  unfold SetTable.orStandIn
  have ht:TOk b (t.put slot).1:=⟨h.led,fun z=>Oo (h.ris z) (xW e)⟩
  split
  ·exact ht
  ·exact iZ ht _
 ·exact iZ h _
theorem JF (owner:Array (Option Nat)):∀ l:List Nat,l.Pairwise (· < ·)->((l.filterMap fun j=>(owner.getD j none).map (j,·)).map (·.1)).Pairwise (· < ·):=fun l hl=>by
 have hs:List.Sublist ((l.filterMap fun j=>(owner.getD j none).map (j,·)).map (·.1)) l:=by
  induction l with
  | nil=>exact List.Sublist.slnil
  | cons a r ih =>
   have ih:=ih (List.pairwise_cons.mp hl).2
   rw[Z2]
   cases e:owner.getD a none with
   | none=>exact ih.cons _
   | some k=>exact ih.cons₂ _
 exact hl.sublist hs
theorem wB {b:Bool} {t:YS} (h:TOk b t) (es:Array (Int × Value)) (m:Nat):TOk b (abo t es m).2.1:=by
 unfold abo
 split
 ·rename_i t' order e
  dsimp only
  split
  ·unfold SetTable.relaid SetTable.laid at e
   cases ho:SetTable.layClean (SetTable.sizeAbove m - 1) (es.map (·.1)) with
   | none=>rw[ho] at e; cases e
   | some owner =>
    rw[ho] at e
    cases e
    exact⟨h.led,fun _=>JF owner _ List.pairwise_lt_range⟩
  ·exact iZ h _
 ·exact iZ h _
end L2
namespace L2
open PySem PySem.Spec PyProof.Rows
section
variable {P:Vp} {w:VP} {A:VR} {E:Value->Uz->Prop} {s:Uz}
def mX (P:Vp) (w:VP) (b:Bool) (h:Wc) (a:Addr) (ks:List Int):Prop :=
 ∃ o es ep t,h.get? a=some o/\o.ExactSet/\o.data = .set es ep t/\ElemsOf (Y6 P w) es.toList/\t.fits es.size=true/\TOk b t/\∃ ns,V8 (es.toList.map (·.2)) ns/\ns.Perm ks
theorem ig {l l':List Value} (p:l.Perm l'):∀ {ns:List Int},V8 l ns->∃ ms,V8 l' ms/\ms.Perm ns:=by
 induction p with
 | nil=>intro ns h; exact⟨ns,h,.refl _⟩
 | cons x p ih =>
  intro ns h
  cases h with
  | cons n t r =>
   obtain⟨ms,h1,h2⟩:=ih r
   exact⟨n::ms,.cons n t h1,h2.cons n⟩
 | swap x y l =>
  intro ns h
  cases h with
  | cons n t r =>
   cases r with
   | cons m u r=>exact⟨m::n::_,.cons m u (.cons n t r),.swap _ _ _⟩
 | trans p q ih1 ih2 =>
  intro ns h
  obtain⟨ms,h1,h2⟩:=ih1 h
  obtain⟨ks,h3,h4⟩:=ih2 h1
  exact⟨ks,h3,h4.trans h2⟩
theorem nM {k:Int} {t:Tok}:∀ {l:List Value} {ns:List Int},V8 l ns->V8 (l++[.int k t]) (ns++[k])
 | _,_,.nil=>.cons k t .nil
 | _,_,.cons n u r=>.cons n u (nM r)
theorem pK {k:Int}:∀ {l:List Value} {ns:List Int},V8 l ns->(k∈ns ↔ ∃ v∈l,(Y6 P w).is k v=true)
 | _,_,.nil=>by simp
 | _,_,.cons n t r=>by
  have ih:=pK (k:=k) r
  have e:(Y6 P w).is k (.int n t)=decide (k=n):=KeyKind.is_eq_decide (intKind_is _ _ _ _) k
  rw[V3,ih]
  constructor
  ·rintro (h | ⟨v,hv,q⟩)
   ·exact⟨_,UW,by rw[e]; exact decide_eq_true h⟩
   ·exact⟨v,U9 _ hv,q⟩
  ·rintro⟨v,hv,q⟩
   rcases List.mem_cons.mp hv with rfl | hv
   ·rw[e] at q
    exact .inl (of_decide_eq_true q)
   ·exact .inr ⟨v,hv,q⟩
theorem nT {b:Bool} {h:Wc} {a:Addr} {o:Yh} {es es':Array (Int × Value)} {ep:Nat} {t t':YS} {ks:List Int} (ho:h.get? a=some o) (hx:o.ExactSet) (hd:o.data = .set es ep t)
  (hel:ElemsOf (Y6 P w) es'.toList) (hf:t'.fits es'.size=true) (tk:TOk b t') (hn:∃ ns,V8 (es'.toList.map (·.2)) ns/\ns.Perm ks) :
  (h.update a (abh es' t')).get? a=some { o with data:=.set es' (ep+1) t' }/\mX P w b (h.update a (abh es' t')) a ks:=by
 have g:(h.update a (abh es' t')).get? a=some { o with data:=.set es' (ep+1) t' }:=by
  have q:=Wh (abh es' t') ho (by rw[putSet_of es' t' hd]; rfl)
  rwa [putSet_of es' t' hd] at q
 exact⟨g,_,es',ep+1,t',g,hx,rfl,hel,hf,tk,hn⟩
theorem N8 {b:Bool} {a:Addr} {ks:List Int} {k:Int} {t0:Tok} {Q:Bool->Uz->Prop} (hS:mX P w b s.heap a ks) (hroom:ks.length+1 < scanBound)
  (h:∀ h' r,Xm a s.heap h'->mX P w b h' a (step_dedup ks k)->Q r { s with heap:=h' }):U4 (Vk P w) A (setAddHashed a (.int k t0) ((Y6 P w).hash k)) Q E s:=by
 obtain⟨o,es,ep,t,ho,hx,hd,hel,hf,tk,ns,hi,hp⟩:=hS
 have key:(Y6 P w).is k (.int k t0)=true:=intKind_is _ _ _ _
 have hlen:es.size=ks.length:=by
  rw[← hp.length_eq,← hi.length,Uy,Vo]
 have hb:es.size < scanBound:=by lia
 have hm:=pK (P:=P) (w:=w) (k:=k) hi
 unfold setAddHashed setAddHashedIn
 refine Xf (Uw (YD ho hd hf ?_))
 dsimp only
 rw[byScan_of rfl hb hel]
 simp only[↓reduceIte]
 unfold setAddByScan
 refine Uw (Uw (X4 (Uw (wpAny_setScan_of key ho hd hf hel ?_))))
 cases hr:es.toList.findIdx? (fun e=>(Y6 P w).is k e.2) with
 | some j =>
  dsimp only
  obtain⟨hj,q,_⟩:=List.findIdx?_eq_some_iff_getElem.mp hr
  have hk:k∈ks:=hp.mem_iff.mp (hm.mpr ⟨es.toList[j].2,List.mem_map.mpr ⟨_,Wu hj,rfl⟩,q⟩)
  have es0:step_dedup ks k=ks:=by
   unfold step_dedup
   have hany:(ks.any fun x=>x == k)=true:=List.any_eq_true.mpr ⟨k,hk,beq_self_eq_true k⟩
   rw[if_pos hany]
  have q':=h s.heap false (Heap.SameBut.refl a s.heap) (by rw[es0]; exact⟨o,es,ep,t,ho,hx,hd,hel,hf,tk,ns,hi,hp⟩)
  exact UJ (UJ q')
 | none =>
  dsimp only
  have hk:k ∉ ks:=fun z=>by
   obtain⟨v,hv,q⟩:=hm.mp (hp.mem_iff.mpr z)
   obtain⟨e,he,rfl⟩:=List.mem_map.mp hv
   rw[List.findIdx?_eq_none_iff.mp hr e he] at q
   cases q
  have es0:step_dedup ks k=ks++[k]:=by
   unfold step_dedup
   rw[if_neg]
   intro z
   obtain⟨x,hx',e⟩:=List.any_eq_true.mp z
   exact hk (by rw[← eq_of_beq e]; exact hx')
  rw[es0] at h
  have pm:=layNew_perm t es ((Y6 P w).hash k) (.int k t0)
  have ft:=layNew_fits t es ((Y6 P w).hash k) (.int k t0)
  have tk1:=Dr tk es ((Y6 P w).hash k) (.int k t0)
  generalize layNew t es ((Y6 P w).hash k) (.int k t0)=L at pm ft tk1 ⊢
  obtain⟨es1,t1,wd,gv⟩:=L
  dsimp only at pm ft tk1 ⊢
  rw[Array.toList_push] at pm
  have hel1:ElemsOf (Y6 P w) es1.toList:=(hel.push key rfl).perm pm
  have hn1:∃ ns,V8 (es1.toList.map (·.2)) ns/\ns.Perm (ks++[k]):=by
   have i1:V8 ((es.toList++[((Y6 P w).hash k,Yl k t0)]).map (·.2)) (ns++[k]):=by
    rw[U3]
    exact nM hi
   obtain⟨ms,h1,h2⟩:=ig (pm.symm.map (·.2)) i1
   exact⟨ms,h1,h2.trans (hp.append (.refl _))⟩
  have hs1:es1.size<=sizeLine:=by
   have:es1.size=es.size+1:=by rw[← Vo,pm.length_eq,Va,Vo]; rfl
   exact fits_of_scanBound (by lia)
  have gw:∀ (b:Bool) {s₁:Uz} {Q':Unit->Uz->Prop},Q' () s₁->U4 (Vk P w) A (match b with | true=>rule "set.scan.the-table-gave-way" | false=>pure ()) Q' E s₁:=fun b s₁ Q' hq=>by
   cases b
   ·exact UJ hq
   ·exact X4 hq
  have tail:∀ (g:Bool->Sem Unit) (R:Option Bool->Uz->Prop) (t2:YS),(∀ (b:Bool) (s₁:Uz) (Q':Unit->Uz->Prop),Q' () s₁->U4 (Vk P w) A (g b) Q' E s₁)->t2.fits es1.size=true->TOk b t2 →
    (∀ h',Xm a s.heap h'->mX P w b h' a (ks++[k])->R (some true) { s with heap:=h' })->U4 (Vk P w) A (do
    storeSet a es1 t2
    if (!wd && t2.tooFull)=true then do
      g (abo t2 es1 (YQ es1.size)).2.2
      storeSet a (abo t2 es1 (YQ es1.size)).1 (abo t2 es1 (YQ es1.size)).2.1
      pure (some true)
     else pure (some true)) R E s:=fun g R t2 hg f2 k2 hR=>by
   refine Uw (wpAny_storeSet_of ho hd ?_ hs1)
   obtain⟨ho1,hS1⟩:=nT (P:=P) (w:=w) ho hx hd hel1 f2 k2 hn1
   have sb1:=Wo s.heap a (abh es1 t2)
   split
   ·have pr:=relayAll_perm t2 es1 (YQ es1.size)
    have fr:=relayAll_fits t2 es1 (YQ es1.size)
    have tr:=wB k2 es1 (YQ es1.size)
    generalize abo t2 es1 (YQ es1.size)=R at pr fr tr ⊢
    obtain⟨es2,t3,g2⟩:=R
    dsimp only at pr fr tr ⊢
    have hn2:∃ ns,V8 (es2.toList.map (·.2)) ns/\ns.Perm (ks++[k]):=by
     obtain⟨ns1,i1,p1⟩:=hn1
     obtain⟨ms,h1,h2⟩:=ig (pr.symm.map (·.2)) i1
     exact⟨ms,h1,h2.trans p1⟩
    have hs2:es2.size<=sizeLine:=by
     have:es2.size=es1.size:=by rw[← Vo,pr.length_eq,Vo]
     lia
    refine Uw (hg _ _ _ (Uw (wpAny_storeSet_of ho1 rfl ?_ hs2)))
    obtain⟨_,hS2⟩:=nT (P:=P) (w:=w) ho1 hx rfl (hel1.perm pr) fr tr hn2
    exact UJ (hR _ (sb1.trans (Wo _ a _)) hS2)
   ·exact UJ (hR _ sb1 hS1)
  refine Uw (gw _ ?_)
  split
  ·refine Uw ?_
   rw[hashByValue_scannable 8 rfl]
   refine UJ (tail _ _ _ (fun b s₁ Q' hq=>gw b hq) ?_ ?_ fun h' sb hS=>UJ (h h' true sb hS))
   ·exact ft
   ·exact tk1
  ·exact Uw (UJ (tail _ _ _ (fun b s₁ Q' hq=>gw b hq) ft tk1 fun h' sb hS=>UJ (h h' true sb hS)))
end
end L2
namespace L2
open PySem PySem.Spec PyProof.Rows
theorem ni {P:Vp} {w:VP} {b:Bool} {h h':Wc} {a:Addr} {ks:List Int} (hk:∀ o,h.get? a=some o->h'.get? a=some o) (hS:mX P w b h a ks):mX P w b h' a ks:=by
 obtain⟨o,es,ep,t,ho,r⟩:=hS
 exact⟨o,es,ep,t,hk o ho,r⟩
section
variable {P:Vp} {w:VP} {A:VR} {R:abg->Uz->Prop} {I:Addr} {fp wr:List Addr} {G:Array GenState->Array GenState->Prop} {n:Nat} {Pv:Nat->Value->Prop} {St:Nat->Uz->Prop} {b:Bool}
theorem JH (W:WalksS P w A.in1 I fp wr G n Pv St) (S:Addr) (hS:S ∉ fp) (val:Nat->Int) (hv:∀ i v,Pv i v->∃ t,v = .int (val i) t) (hb:n+1 < scanBound) :
  ∀ (k i:Nat) (s:Uz),n - i=k->i<=n->St i s->mX P w b s.heap S (firstMet val i)->(∀ s',Moved (S::wr) G s s'->mX P w b s'.heap S (firstMet val n)->R (.ok (.ret .none)) s') →
   Y7 (Vk P w) A (.builtin "set.update.loop" ⟨[.ref S,.ref I],[]⟩) R s:=by
 have nw:S ∉ wr:=fun z=>hS (W.sub _ z)
 have sub:∀ x∈wr,x∈S::wr:=fun x hx=>U9 _ hx
 intro k
 induction k with
 | zero =>
  intro i s hk hi st hs hR
  obtain rfl:i=n:=by lia
  refine WQ F.entry_set_update_loop ?_
  rw[Wr aaB _]
  refine (show U4 _ A.in1 (Xy (.ref I) >>= _) _ _ s from Uw (W.done s _ _ st fun s' hm=>?_))
  exact (show U4 _ A.in1 (ret VB) _ _ s' from UJ (hR s' (hm.mono sub) (ni (fun o e=>hm.heap S o nw e) hs)))
 | succ k ih =>
  intro i s hk hi st hs hR
  have lt:i < n:=by lia
  refine WQ F.entry_set_update_loop ?_
  rw[Wr aaB _]
  refine (show U4 _ A.in1 (Xy (.ref I) >>= _) _ _ s from Uw (W.item i s _ _ lt st fun v s' hP st' hm=>?_))
  obtain⟨t,rfl⟩:=hv i v hP
  have hs':=ni (h':=s'.heap) (fun o e=>hm.heap S o nw e) hs
  have room:(firstMet val i).length+1 < scanBound:=by
   have:=firstMet_length_le val i
   lia
  refine (show U4 _ A.in1 (holding [Yl (val i) t] (setAdd S (.int (val i) t)) >>= _) _ _ s' from Uw (Xf ?_))
  unfold setAdd
  refine Xf (Uw ((Y6 P w).pyHash (k:=val i) (intKind_is _ _ _ _) ?_))
  refine N8 (s:={ s' with toks:=s'.toks+1 }) hs' room fun h' r sb hn=>?_
  rw[← firstMet_succ] at hn
  refine UJ ⟨W7 aaB _,ih (i+1) _ (by lia) lt (W.frame _ s' _ _ st' (XX _) fun x hx o e=>?_) hn fun s'' hm'' hs''=>?_⟩
  ·rw[sb.2 x (fun z:x=S=>hS (by rw[← z]; exact hx))]
   exact e
  ·refine hR s'' (Moved.trans W.gtrans ((hm.mono sub).then_heap (XX _) fun x o hx e=>?_) hm'') hs''
   rw[sb.2 x (fun z:x=S=>hx (by rw[z]; exact UW))]
   exact e
end
end L2
namespace L2
open PySem PySem.Spec PyProof.Rows
section
variable {P:Vp} {w:VP} {A:VR} {E:Value->Uz->Prop} {s:Uz}
def JM (w:VP):Bool:=!w.params.followText "set-order"
def newS (w:VP):Yh:={ cls:=.type "set",dict:=none,data:=.set #[] 0 (.fresh 0 0 (JM w)) }
theorem Oh (a:Value) {Q₁:Value->Uz->Prop} (h:Q₁ (.ref s.heap.objs.size) { s with heap:=s.heap.push (newS w) }) :
  Y7 (Vk P w) A (.call (.builtin "set.__new__") ⟨[.type "set",a],[]⟩) (wants Q₁ E) s:=by
 refine codeAny_of_tree (show U4 _ A.in1 (do abH "set.__new__" ⟨[.type "set",a],[]⟩; again (.builtin "set.__new__" ⟨[.type "set",a],[]⟩)) _ _ s from ?_)
 refine Uw (XS (PySem.F.newCall_set_1 a) (UJ ⟨W7 PySem.F.plain_set_new _,WQ PySem.F.entry_set_new ?_⟩))
 rw[Wr PySem.F.plain_set_new _]
 unfold Builtin.«set.__new__» Builtin.Frozenset.newClass; have hsub:=sub_set_self; obtain⟨hp,g,d,tk,os⟩:=s
 dsimp only
 wp_walk
 refine Y5 (UJ ?_)
 dsimp only
 simp only[newObj]; refine Uw (wpAny_alloc (UJ ?_))
 exact UJ h
end
end L2
namespace L2
open PySem PySem.Spec PyProof.Rows
section
variable {P:Vp} {w:VP} {A:VR} {E:Value->Uz->Prop} {s:Uz}
set_option maxRecDepth 100000 in
set_option maxHeartbeats 3200000 in
theorem zp {l:Addr} {items:Array Value} {ns:List Int} {Q:Value->Uz->Prop} (hh:A.handled=none) (hl:s.heap.IsList l items) (hi:V8 items.toList ns) (hb:items.size+1 < scanBound)
  (h:∀ (h':Wc) (tk:Nat),mX P w (JM w) h' s.heap.objs.size (firstMet (fun i=>ns.getD i 0) items.size)->(∀ b o,b < s.heap.objs.size->s.heap.get? b=some o->h'.get? b=some o)->Q (.ref s.heap.objs.size) { s with heap:=h',toks:=tk }) :
  U4 (Vk P w) A (call (.type "set") [.ref l]) Q E s:=by
 obtain⟨c,tl,hmro⟩:=PySem.F.called_set.mro
 have hmade:=PySem.F.called_set.made
 have hsub:=PySem.F.called_set.sub
 refine wpAny_call (codeAny_of_tree (show U4 _ _ (callAny (.type "set") _) _ _ _ from UJ ⟨Code.quiet_builtin _ (by decide+kernel),WQ PySem.F.entry_type_call ?_⟩))
 rw[Around.under_plain (weight_type_call_type "set" [.ref l] []) rfl]
 have h1:=PySem.F.called_set.notType
 have h2:=PySem.F.called_set.canCreate
 have hct:=PySem.F.typeCall_set_1 (.ref l)
 repeat (any_goals (first | assumption | wp_step))
 refine aaD (Oh (.ref l) (E:=E) (Q₁:=fun obj s₁=>obj = .ref s.heap.objs.size/\s₁={ s with heap:=s.heap.push (newS w) }) ⟨rfl,rfl⟩) fun r s₁ hr=>?_
 cases r with
 | error e=>exact hr
 | ok fl =>
  cases fl with
  | ret obj =>
   obtain⟨rfl,rfl⟩:=hr
   have gS:(s.heap.push (newS w)).get? s.heap.objs.size=some (newS w):=UT _ rfl
   have hT:Shared.TypeIs { s with heap:=s.heap.push (newS w) } (.ref s.heap.objs.size) "set":=⟨_,gS,rfl⟩
   have hli:=PySem.F.called_set.init.lookup
   have hbi:=PySem.F.called_set.init.bind (.ref s.heap.objs.size)
   repeat (any_goals (first | assumption | wp_step))
   refine aaD (codeAny_call_builtin (R:=wants (fun r s₂=>r = .none/\∃ h' tk,s₂={ s with heap:=h',toks:=tk }/\mX P w (JM w) h' s.heap.objs.size (firstMet (fun i=>ns.getD i 0) items.size) ∧
     (∀ b o,b < s.heap.objs.size->s.heap.get? b=some o->h'.get? b=some o)) E) PySem.F.called_set.init.plain PySem.F.entry_set_init (check_set_init_1 hT ?_)) fun r₂ s₂ hr₂=>?_
   ·obtain⟨ol,hol,hcl,nl,hdl⟩:=hl
    obtain⟨ocls,odict,odata,oslots⟩:=ol
    simp only at hcl hdl
    subst hcl hdl
    have hol':(s.heap.push (newS w)).get? l=some { cls:=.type "list",dict:=odict,data:=.seq items nl,slots:=oslots }:=Ux _ hol
    have hsls:=PySem.F.sub_list_set
    have hslf:=PySem.F.sub_list_frozenset
    have hne:(Yr "list" == Yr "dict")=false:=by decide
    have hl1:(s.heap.push (newS w)).IsList l items:=⟨_,hol',rfl,nl,rfl⟩
    have gS':(s.heap.push (newS w)).get? s.heap.objs.size=some { cls:=.type "set",dict:=none,data:=.set #[] 0 (.fresh 0 0 (JM w)) }:=gS
    unfold Builtin.«set.__init__» noKeywords Builtin.Frozenset.updateFrom; generalize hPI:pyIter=PI
    wp_walk
    subst hPI
    refine Yd hl1 (Uw (wpAny_runValue ?_))
    have hlS:l < s.heap.objs.size:=U6 hol
    have hh3:A.in1.in1.in1.handled=none:=by simp [hh]
    have hneI:l≠(s.heap.push (newS w)).objs.size:=by
     rw[VL]
     exact Vh (V7 hlS)
    have hSf:s.heap.objs.size ∉ [(s.heap.push (newS w)).objs.size,l]:=by
     rw[VL,V3,X5]
     rintro (z | z)
     ·exact absurd z (Vh (Xu _))
     ·exact absurd z (WM hlS)
    refine JH (b:=JM w) ((abf hh3 _ l hneI items).toS) s.heap.objs.size hSf (fun i=>ns.getD i 0) (fun i v hv=>IntsAre.int_at hi i v (by rw[Wb]; exact hv)) hb (items.size - 0) 0 _ (by lia) (Vr _)
     ⟨⟨_,UT _ rfl,rfl,rfl⟩,(hl1.push _)⟩ ?hS0 ?hR
    case hS0=>exact⟨newS w,#[],0,_,Ux _ gS,⟨rfl,rfl,rfl⟩,rfl,(fun e he=>by simp at he),rfl,G9 _,[],.nil,.refl _⟩
    case hR =>
     intro s' hm hS'
     obtain⟨h',g',d',tk',os'⟩:=s'
     obtain rfl:g'=s.gens:=hm.gens
     obtain rfl:d'=s.drawn:=hm.drawn
     obtain rfl:os'=s.os:=hm.os
     refine (show U4 _ _ _ _ _ _ from UJ (show U4 _ _ (ret VB) _ _ _ from UJ ⟨rfl,h',tk',rfl,hS',fun b o hb e=>?_⟩))
     refine hm.heap b o ?_ (Ux _ (Ux _ e))
     rw[V3,X5,VL]
     rintro (z | z)
     ·exact absurd z (Vh hb)
     ·exact absurd z (Vh (V7 hb))
   ·cases r₂ with
    | error e=>exact hr₂
    | ok fl₂ =>
     cases fl₂ with
     | ret r =>
      obtain⟨rfl,h',tk,rfl,hS',hk'⟩:=hr₂
      repeat (any_goals (first | assumption | wp_step))
      exact h h' tk hS' hk'
     | _=>exact hr₂.elim
  | _=>exact hr.elim
end
end L2
namespace L2
open PySem PySem.Spec PyProof.Rows
theorem vV:Manifest.owners.lookup (String.ofList ['r','o','t','a','r','e','t','i','_','t','e','s'].reverse)=some Manifest.sig_set_iterator:=by kernel_rfl
theorem bM:Slot "set_iterator" "__next__" "set_iterator.__next__" :=
 .of (owner:="set_iterator") (n:="__next__") (by rw[Zg,X6]; kernel_rfl) (by decide+kernel) (by decide+kernel) (by decide+kernel) (by first | exact .inl (by decide+kernel) | exact .inr (by decide+kernel)) (by rw[Yj]; kernel_rfl)
theorem fP:entryFor table "set_iterator.__next__" = some Builtin.«set_iterator.__next__»:=entryFor_of_tree (by kernel_rfl)
theorem gP (a:Value):ZW "set_iterator.__next__" ⟨[a],[]⟩:=by
 unfold ZW
 rw[aar (id:="set_iterator.__next__") (n:=['_','_','t','x','e','n','_','_']) (o:=['r','o','t','a','r','e','t','i','_','t','e','s']) (by kernel_rfl) vV]
 kernel_rfl
theorem jj:Slot "set_iterator" "__iter__" "set_iterator.__iter__" :=
 .of (owner:="set_iterator") (n:="__iter__") (by rw[Zg,X6]; kernel_rfl) (by decide+kernel) (by decide+kernel) (by decide+kernel) (by first | exact .inl (by decide+kernel) | exact .inr (by decide+kernel)) (by rw[Yj]; kernel_rfl)
theorem nY:entryFor table "set_iterator.__iter__" = some Builtin.«dict_keyiterator.__iter__»:=entryFor_alias (id':="dict_keyiterator.__iter__") (by kernel_rfl) rfl (by decide+kernel) (by kernel_rfl)
theorem o8 (a:Value):ZW "set_iterator.__iter__" ⟨[a],[]⟩:=by
 unfold ZW
 rw[aar (id:="set_iterator.__iter__") (n:=['_','_','r','e','t','i','_','_']) (o:=['r','o','t','a','r','e','t','i','_','t','e','s']) (by kernel_rfl) vV]
 kernel_rfl
theorem qj:entryFor table "set.__iter__" = some Builtin.«frozenset.__iter__»:=entryFor_alias (id':="frozenset.__iter__") (by kernel_rfl) rfl (by decide+kernel) (by kernel_rfl)
theorem m5 {α:Type}:∀ (l:List α) (j:Nat) (h:j < l.length),(l[j]::l.eraseIdx j).Perm l
 | a::r,0,_=>.refl _
 | a::r,j+1,h=>by
  have ih:=m5 r j (aaI h)
  rw[List.getElem_cons_succ,List.eraseIdx_cons_succ]
  exact (List.Perm.swap _ _ _).trans (ih.cons a)
theorem wX {α:Type} (nx:Nat->Nat):∀ (fuel k:Nat) (left:List α) (out:Array α),left.length<=fuel->(pickOrder.go nx fuel k left out).toList.Perm (out.toList++left)
 | 0,k,left,out,h=>by
  rw[pickOrder.go]
  have e:left=[]:=W5 (by lia)
  subst e
  rw[XJ]
 | fuel+1,k,left,out,h=>by
  rw[pickOrder.go]
  cases hl:left with
  | nil =>
   simp
  | cons a r =>
   have hlen:nx k % (a::r).length < (a::r).length:=Nat.mod_lt _ (by simp)
   rw[UG hlen]
   dsimp only
   generalize nx k % (a::r).length=j at hlen ⊢
   have ih:=wX nx fuel (k+1) ((a::r).eraseIdx j) (out.push (a::r)[j]) (by rw[List.length_eraseIdx_of_lt hlen,← hl]; lia)
   refine ih.trans ?_
   rw[Array.toList_push,XH]
   refine List.Perm.append (.refl _) ?_
   show ((a::r)[j]::(a::r).eraseIdx j).Perm (a::r)
   exact m5 _ j hlen
theorem pB {α:Type} (nx:Nat->Nat) (xs:Array α):(ZK nx xs).toList.Perm xs.toList:=by
 unfold ZK
 have:=wX nx xs.size 0 xs.toList #[] (by rw[Vo]; exact U0 _)
 simpa using this
section
variable {P:Vp} {w:VP} {A:VR} {E:Value->Uz->Prop} {s:Uz}
theorem v7 {α:Type} {Q:List α->Uz->Prop}:∀ (n:Nat) (xs:List α) (s:Uz),xs.length=n->(∀ ys d,ys.Perm xs->Q ys { s with drawn:=d })->U4 (Vk P w) A (drawOrder n xs) Q E s
 | 0,xs,s,h,hq=>by
  rw[drawOrder]
  have e:xs=[]:=W5 h
  subst e
  exact UJ (hq [] s.drawn (.refl _))
 | n+1,[],s,h,hq=>by cases h
 | n+1,x::xs,s,h,hq=>by
  rw[drawOrder]
  ·refine Uw (fun Γ p hΓ=>?_)
   show Sem.wp _ _ (.choose .order (x::xs).length .pure) _ _ _ _
   rw[Sem.wp_choose]
   refine⟨by simp,?_⟩
   rw[Sem.wp_pure]
   generalize (Vk P w).w.draws .order (s.drawn.get .order)=z
   have hlen:z % (x::xs).length < (x::xs).length:=Nat.mod_lt _ (by simp)
   generalize z % (x::xs).length=j at hlen ⊢
   show U4 _ _ _ _ _ _
   rw[UG hlen]
   dsimp only
   refine Uw (v7 n ((x::xs).eraseIdx j) _ (by rw[List.length_eraseIdx_of_lt hlen]; rw[Vd] at h ⊢; lia) fun ys d p=>UJ ?_)
   exact hq _ d ((p.cons _).trans (m5 _ j hlen))
  ·simp
end
end L2
namespace L2
open PySem PySem.Spec PyProof.Rows
def SIt (h:Wc) (I S:Addr) (f:Value) (i n ep:Nat):Prop:=h.get? I=some { cls:=.type "set_iterator",dict:=none,data:=.fields #[f,.int i 0,.ref S,.int n 0,.int ep 0],slots:=#[] }
section
variable {P:Vp} {w:VP} {A:VR} {E:Value->Uz->Prop} {s:Uz} {I S:Addr} {o:Yh} {es:Array (Int × Value)} {ep:Nat} {t:YS}
theorem uv {sl:Int} {tk:Tok} {i:Nat} {Q:Option Value->Uz->Prop} {r:Option (Value × Nat)} (hh:A.handled=none) (hI:SIt s.heap I S (.int sl tk) i es.size ep) (hS:s.heap.get? S=some o) (hd:o.data = .set es ep t) (hf:t.fits es.size=true)
  (hn:∀ (A:VR) (E:Value->Uz->Prop) (Q:Option (Value × Nat)->Uz->Prop),Q r s->U4 (Vk P w) A (ab2 S sl.toNat i ep) Q E s)
  (hs:∀ x j h',r=some (x,j)->SIt h' I S (.int (j:Nat) 0) (i+1) es.size ep->Xm I s.heap h'->Q (some x) { s with heap:=h' }) (he:∀ h',r=none->Heap.ExtBut I s.heap h'->Q none { s with heap:=h' }):U4 (Vk P w) A (Xy (.ref I)) Q E s:=by
 have hT:s.TypeIs (.ref I) "set_iterator":=⟨_,hI,rfl⟩
 unfold Xy
 refine Uw (W6 (V0 (name:=WX "__next__") hT bM (V2 bM hT fP ?_ (gP _))))
 refine (show U4 _ _ (fieldsOf (.ref I) >>= _) _ _ s from Uw (wpAny_fieldsOf hI rfl ?_))
 refine (show U4 _ _ (setEntries S >>= _) _ _ s from Uw (Z0 hS hd hf ?_))
 rw[if_neg (by simp)]
 refine (show U4 _ _ (ab2 S sl.toNat (i:Int).toNat (ep:Int).toNat >>= _) _ _ s from Uw ?_)
 rw[Vu,Vu]
 refine hn _ _ _ ?_
 cases hr:r with
 | some xj =>
  obtain⟨x,j⟩:=xj
  dsimp only
  refine Uw (Xi hI rfl (by simp) ?_)
  have g1:=Wh (ZQ (·.setIfInBounds 0 (Wy (j:Int)))) hI rfl
  refine Uw (Xi g1 rfl (by simp) ?_)
  have g2:=Wh (ZQ (·.setIfInBounds 1 (Wy ((i:Int)+1)))) g1 rfl
  refine UJ ⟨x,rfl,UJ (hs x j _ hr ?_ ((Wo ..).trans (Wo ..)))⟩
  exact g2
 | none =>
  dsimp only
  refine Uw (Xi hI rfl (by simp) ?_)
  refine (show U4 _ _ (abG (.type "StopIteration") [] >>= _) _ _ _ from Uw ?_)
  simp only[abG,newTuple]
  refine Uw (V1 ?_ (by size_fits))
  refine Uw (m:=Yk _ _) (XS (a:=VB) (by first | rfl | (simp only[Yk]; rfl)) (V1 ?_ (by size_fits)))
  simp only[raiseNew]
  refine Uw (aa7 ?_)
  first | rw[show A.in1.handled=none from hh] | rw[hh]
  refine Uw (UJ (abP ?_))
  refine Uw (X3 (T:="StopIteration") (b:=true) ⟨_,UT _ rfl,rfl⟩ Zv (UJ ?_))
  exact he _ hr (((Wo ..).extBut.push _).push _)
end
end L2
namespace L2
open PySem PySem.Spec PyProof.Rows
section
variable {P:Vp} {w:VP} {A:VR} {E:Value->Uz->Prop} {s:Uz} {I S:Addr} {o:Yh} {es:Array (Int × Value)} {ep:Nat} {t:YS}
theorem vf {sl i:Nat} {Q:Option (Value × Nat)->Uz->Prop} (hb:w.params.followText "set-order" = true) (hS:s.heap.get? S=some o) (hd:o.data = .set es ep t) (hf:t.fits es.size=true)
  (h:Q (((ZK (w.params.setOrder S ep) es)[i]?).map fun e=>(e.2,sl)) s):U4 (Vk P w) A (ab2 S sl i ep) Q E s:=by
 unfold ab2
 refine Uw (YD hS hd hf ?_)
 dsimp only
 unfold setsByText
 refine Uw (Uw (Y5 (UJ ?_)))
 rw[if_pos (show (Vk P w).w.params.followText "set-order" = true from hb),if_neg (by simp)]
 unfold setWalk
 refine Uw (Uw (YD hS hd hf ?_))
 dsimp only
 unfold setsByText
 refine Uw (Uw (Y5 (UJ ?_)))
 rw[if_pos (show (Vk P w).w.params.followText "set-order" = true from hb)]
 exact Uw (Y5 (UJ (UJ h)))
theorem rF {sl i:Nat} {Q:Option (Value × Nat)->Uz->Prop} (hb:w.params.followText "set-order" = false) (hS:s.heap.get? S=some o) (hd:o.data = .set es ep t) (hf:t.fits es.size=true) (hl:t.led=true)
  (hp:t.plain=true∨es.size<=1) (hi:WR t.place sl=i)
  (h:Q (match es[i]?,t.place[i]? with | some (_,x),some j=>some (x,j+1) | _,_=>none) s):U4 (Vk P w) A (ab2 S sl i ep) Q E s:=by
 unfold ab2
 refine Uw (YD hS hd hf ?_)
 dsimp only
 unfold setsByText
 refine Uw (Uw (Y5 (UJ ?_)))
 rw[if_neg (show ¬ (Vk P w).w.params.followText "set-order" = true by rw[show (Vk P w).w.params.followText "set-order" = false from hb]; exact U5)]
 have hdr:(!t.plain && decide (es.size > 1))=false:=by
  rcases hp with q | q
  ·rw[q]
   rfl
  ·rw[decide_eq_false (by lia),aa2]
 refine Yb (show decide ((!t.plain && decide (es.size > 1))=true)=false from decide_eq_false (by rw[hdr]; exact U5)) ?_
 refine Uw (show U4 _ _ (if (!t.led && !es.isEmpty)=true then abQ "set:maker-not-led" else pure ()) _ _ _ from ?_)
 rw[hl]
 refine Yb (decide_eq_false (by simp)) (UJ (UJ ?_))
 rw[hi]
 exact h
theorem sJ {f:Value} {i n:Nat} {Q:Value->Uz->Prop} (hI:SIt s.heap I S f i n ep) (h:Q (.ref I) s):U4 (Vk P w) A (pyIter (.ref I)) Q E s:=by
 have hT:s.TypeIs (.ref I) "set_iterator":=⟨_,hI,rfl⟩
 refine abm hT jj (V2 jj hT nY (show U4 _ _ (ret (.ref I)) _ _ s from ?_) (o8 _))
 exact UJ ⟨_,rfl,"set_iterator",_,hT,bM.lookup,h⟩
theorem G3 (hh:A.handled=none) (hne:S≠I) (hb:w.params.followText "set-order" = true) (hd:o.data = .set es ep t) (hf:t.fits es.size=true) :
  Walks P w A I [I,S] [I] es.size (fun i v=>((ZK (w.params.setOrder S ep) es).toList.map (·.2))[i]? = some v) (fun i h=>(∃ (sl:Nat) (tk:Tok),SIt h I S (.int (sl:Int) tk) i es.size ep)/\h.get? S=some o) where
 sub:=fun b hb=>by simp at hb; simp [hb]
 frame:=fun i h h' st hk=>by
  obtain⟨⟨sl,tk,hI⟩,hS⟩:=st
  exact⟨⟨sl,tk,hk I (by simp) _ hI⟩,hk S (by simp) _ hS⟩
 item:=fun i s Q E hi st hQ=>by
  obtain⟨⟨sl,tk,hI⟩,hS⟩:=st
  have pl:(ZK (w.params.setOrder S ep) es).size=es.size:=by
   have:=(pB (w.params.setOrder S ep) es).length_eq
   simpa using this
  have hx:(ZK (w.params.setOrder S ep) es)[i]? = some ((ZK (w.params.setOrder S ep) es)[i]'(by lia)):=Vn _
  generalize (ZK (w.params.setOrder S ep) es)[i]'(by lia)=x at hx
  refine uv (r:=some (x.2,sl)) hh hI hS hd hf (fun A E Q q=>?_) (fun v j h' hr hI' sb=>?_) (fun h' hr _=>by cases hr)
  ·refine vf hb hS hd hf ?_
   rw[Vu,hx]
   exact q
  ·cases hr
   refine hQ _ h' s.toks ?_ ⟨⟨sl,0,hI'⟩,sb.2 S hne▸hS⟩ fun b o' hb' e=>?_
   ·rw[Vj,Wb,hx]
    rfl
   ·rw[sb.2 b (fun z=>hb' (by rw[z]; exact List.mem_singleton.mpr rfl))]
    exact e
 done:=fun s Q E st hQ=>by
  obtain⟨⟨sl,tk,hI⟩,hS⟩:=st
  have pl:(ZK (w.params.setOrder S ep) es).size=es.size:=by
   have:=(pB (w.params.setOrder S ep) es).length_eq
   simpa using this
  refine uv (r:=none) hh hI hS hd hf (fun A E Q q=>?_) (fun v j h' hr=>by cases hr) (fun h' _ hx=>?_)
  ·refine vf hb hS hd hf ?_
   rw[Yt (by lia)]
   exact q
  ·exact hQ h' s.toks fun b o' hb' e=>hx b o' (fun z=>hb' (by rw[z]; exact List.mem_singleton.mpr rfl)) e
 self:=fun i s Q E st hQ=>by
  obtain⟨⟨sl,tk,hI⟩,_⟩:=st
  exact sJ hI hQ
def slotAt (pl:Array Nat):Nat->Nat
 | 0=>0
 | i+1=>pl.getD i 0+1
theorem nD {pl:Array Nat} (h:Ris pl):∀ {i:Nat},i<=pl.size->WR pl (slotAt pl i)=i
 | 0,_=>BZ h
 | i+1,hi=>by
  have e:pl[i]? = some (pl.getD i 0):=by
   rw[Vn (by lia),WT,Vn (by lia)]
   rfl
  exact below_at h e
theorem CG (hh:A.handled=none) (hne:S≠I) (hb:w.params.followText "set-order" = false) (hd:o.data = .set es ep t) (hf:t.fits es.size=true) (hl:t.led=true) (hp:t.plain=true∨es.size<=1) (hr:Ris t.place) :
  Walks P w A I [I,S] [I] es.size (fun i v=>(es.toList.map (·.2))[i]? = some v) (fun i h=>(∃ tk:Tok,SIt h I S (.int (slotAt t.place i:Nat) tk) i es.size ep)/\h.get? S=some o) where
 sub:=fun b hb=>by simp at hb; simp [hb]
 frame:=fun i h h' st hk=>by
  obtain⟨⟨tk,hI⟩,hS⟩:=st
  exact⟨⟨tk,hk I (by simp) _ hI⟩,hk S (by simp) _ hS⟩
 item:=fun i s Q E hi st hQ=>by
  obtain⟨⟨tk,hI⟩,hS⟩:=st
  have ps:t.place.size=es.size:=by
   simp only[SetTable.fits,WK,beq_iff_eq] at hf
   exact hf.1
  have hx:es[i]? = some es[i]:=Vn hi
  have hj:t.place[i]? = some (t.place.getD i 0):=by
   rw[Vn (by lia),WT,Vn (by lia)]
   rfl
  generalize es[i]=x at hx
  obtain⟨k,v⟩:=x
  refine uv (r:=some (v,t.place.getD i 0+1)) hh hI hS hd hf (fun A E Q q=>?_) (fun u j h' hr hI' sb=>?_) (fun h' hr _=>by cases hr)
  ·refine rF hb hS hd hf hl hp (i:=i) (by rw[Vu]; exact nD hr (by lia)) ?_
   rw[hx,hj]
   exact q
  ·cases hr
   refine hQ _ h' s.toks ?_ ⟨⟨0,hI'⟩,sb.2 S hne▸hS⟩ fun b o' hb' e=>?_
   ·rw[Vj,Wb,hx]
    rfl
   ·rw[sb.2 b (fun z=>hb' (by rw[z]; exact List.mem_singleton.mpr rfl))]
    exact e
 done:=fun s Q E st hQ=>by
  obtain⟨⟨tk,hI⟩,hS⟩:=st
  have ps:t.place.size=es.size:=by
   simp only[SetTable.fits,WK,beq_iff_eq] at hf
   exact hf.1
  refine uv (r:=none) hh hI hS hd hf (fun A E Q q=>?_) (fun v j h' hr=>by cases hr) (fun h' _ hx=>?_)
  ·refine rF hb hS hd hf hl hp (i:=es.size) (by rw[Vu]; exact nD hr (by lia)) ?_
   rw[Yt (U0 _)]
   exact q
  ·exact hQ h' s.toks fun b o' hb' e=>hx b o' (fun z=>hb' (by rw[z]; exact List.mem_singleton.mpr rfl)) e
 self:=fun i s Q E st hQ=>by
  obtain⟨⟨tk,hI⟩,_⟩:=st
  exact sJ hI hQ
end
end L2
namespace L2
open PySem PySem.Spec PyProof.Rows
section
variable {P:Vp} {w:VP} {A:VR} {E:Value->Uz->Prop} {s:Uz} {I S T:Addr} {o:Yh} {es:Array (Int × Value)} {ep:Nat} {t:YS}
def dC (pl:List Nat):List Value:=pl.map fun j:Nat=>Wy (j:Int)
theorem Dp {pl:List Nat} (hh:A.handled=none) (hne:S≠I) (hnt:T≠I) (hd:o.data = .set es ep t) (hf:t.fits es.size=true) (hp:pl.Perm (Vb es.size)) :
  Walks P w A I [I,S,T] [I] es.size (fun i v=>(pl.map fun j=>(es.getD j (0,.none)).2)[i]? = some v) (fun i h=>SIt h I S (.ref T) i es.size ep/\h.get? S=some o/\h.IsTuple T (dC pl).toArray) where
 sub:=fun b hb=>by simp at hb; simp [hb]
 frame:=fun i h h' st hk=>by
  obtain⟨hI,hS,o',ho',r⟩:=st
  exact⟨hk I (by simp) _ hI,hk S (by simp) _ hS,o',hk T (by simp) _ ho',r⟩
 item:=fun i s Q E hi st hQ=>by
  obtain⟨hI,hS,hT⟩:=st
  have lp:pl.length=es.size:=by rw[hp.length_eq,Vt]
  have hT0:s.TypeIs (.ref I) "set_iterator":=⟨_,hI,rfl⟩
  obtain⟨j,hj⟩:∃ j,pl[i]? = some j:=⟨pl[i],UG (by lia)⟩
  have hj2:j < es.size:=List.mem_range.mp (hp.mem_iff.mp (Vl hj))
  have hx:es[j]? = some (es.getD j (0,.none)):=by
   rw[Vn hj2,WT,Vn hj2]
   rfl
  obtain⟨ot,hot,hct,nt,hdt⟩:=id hT
  unfold Xy
  refine Uw (W6 (V0 (name:=WX "__next__") hT0 bM (V2 bM hT0 fP ?_ (gP _))))
  refine (show U4 _ _ (fieldsOf (.ref I) >>= _) _ _ s from Uw (wpAny_fieldsOf hI rfl ?_))
  refine (show U4 _ _ (setEntries S >>= _) _ _ s from Uw (Z0 hS hd hf ?_))
  rw[if_neg (by simp)]
  refine (show U4 _ _ (aay (.ref T) >>= _) _ _ s from Uw (VJ hot hdt ?_))
  have hpl:(dC pl).toArray[(i:Int).toNat]? = some (.int (j:Int) 0):=by
   rw[Vu,ZJ]
   show (pl.map fun j:Nat=>Wy (j:Int))[i]? = _
   rw[Vj,hj]
   rfl
  dsimp only
  rw[hpl]
  dsimp only
  refine Uw (show U4 _ _ (setNextDrawn S (j:Int).toNat (ep:Int).toNat) _ _ _ from ?_)
  unfold setNextDrawn
  refine Uw (YD hS hd hf ?_)
  dsimp only
  rw[Vu,Vu,if_neg (by simp),hx]
  refine UJ (Uw (Xi hI rfl (by simp) ?_))
  have g1:=Wh (ZQ (·.setIfInBounds 1 (Wy ((i:Int)+1)))) hI rfl
  refine UJ ⟨_,rfl,UJ (hQ _ _ s.toks ?_ ⟨g1,?_,?_⟩ fun b o' hb' e=>?_)⟩
  ·rw[Vj,hj]
   rfl
  ·rw[Wg _ _ (YG hne)]
   exact hS
  ·exact⟨ot,by rw[Wg _ _ (YG hnt)]; exact hot,hct,nt,hdt⟩
  ·rw[Wg _ _ (fun z:I=b=>hb' (by rw[z]; exact List.mem_singleton.mpr rfl))]
   exact e
 done:=fun s Q E st hQ=>by
  obtain⟨hI,hS,hT⟩:=st
  have lp:pl.length=es.size:=by rw[hp.length_eq,Vt]
  have hT0:s.TypeIs (.ref I) "set_iterator":=⟨_,hI,rfl⟩
  obtain⟨ot,hot,hct,nt,hdt⟩:=id hT
  unfold Xy
  refine Uw (W6 (V0 (name:=WX "__next__") hT0 bM (V2 bM hT0 fP ?_ (gP _))))
  refine (show U4 _ _ (fieldsOf (.ref I) >>= _) _ _ s from Uw (wpAny_fieldsOf hI rfl ?_))
  refine (show U4 _ _ (setEntries S >>= _) _ _ s from Uw (Z0 hS hd hf ?_))
  rw[if_neg (by simp)]
  refine (show U4 _ _ (aay (.ref T) >>= _) _ _ s from Uw (VJ hot hdt ?_))
  have hpl:(dC pl).toArray[(es.size:Int).toNat]? = none:=by
   rw[Vu,ZJ]
   show (pl.map fun j:Nat=>Wy (j:Int))[es.size]? = _
   rw[Vj,Wm (by lia)]
   rfl
  dsimp only
  rw[hpl]
  dsimp only
  refine Uw (Xi hI rfl (by simp) ?_)
  have g1:=Wh (ZQ (·.setIfInBounds 0 (Wy 0))) hI rfl
  refine Uw (Xi g1 rfl (by simp) ?_)
  refine (show U4 _ _ (abG (.type "StopIteration") [] >>= _) _ _ _ from Uw ?_)
  simp only[abG,newTuple]
  refine Uw (V1 ?_ (by size_fits))
  refine Uw (m:=Yk _ _) (XS (a:=VB) (by first | rfl | (simp only[Yk]; rfl)) (V1 ?_ (by size_fits)))
  simp only[raiseNew]
  refine Uw (aa7 ?_)
  first | rw[show A.in1.handled=none from hh] | rw[hh]
  refine Uw (UJ (abP ?_))
  refine Uw (X3 (T:="StopIteration") (b:=true) ⟨_,UT _ rfl,rfl⟩ Zv (UJ ?_))
  refine hQ _ s.toks fun b o' hb' e=>?_
  have hbI:b≠I:=fun z=>hb' (by rw[z]; exact List.mem_singleton.mpr rfl)
  exact ((((Wo ..).trans (Wo ..)).extBut.push _).push _) b o' hbI e
 self:=fun i s Q E st hQ=>sJ st.1 hQ
end
end L2
namespace L2
open PySem PySem.Spec PyProof.Rows
section
variable {P:Vp} {w:VP} {A:VR} {E:Value->Uz->Prop} {s:Uz} {S:Addr}
theorem Ky {Q:Bool->Uz->Prop} (hT:s.TypeIs (.ref S) "set") (h:Q false s):U4 (Vk P w) A (ab5 (.ref S)) Q E s:=by
 unfold ab5; refine Uw (ZV hT PySem.F.slot_set_len.lookup ?_)
 generalize hid:("set.__len__" : String)=id0
 wp_delta
 rw[show splitId id0=some ("set","__len__") from by subst hid; decide+kernel]
 subst hid
 refine Uw (X3 (T:="set") (b:=true) hT (by rw[Yj]; kernel_rfl) ?_)
 refine abS (fun z=>absurd z (by decide)) (fun _=>abS (fun _=>?_) (fun z=>absurd (by decide+kernel) z))
 exact Uw (wpAny_typeOf hT (UJ h))
theorem JB {b:Bool} {ks:List Int} {Q:Value->Uz->Prop} (hh:A.handled=none) (hb:b=JM w) (hS:mX P w b s.heap S ks) (hz:ks.length<=sizeLine)
  (h:∀ (I:Addr) (fp:List Addr) (n:Nat) (vs:List Value) (ns:List Int) (St:Nat->Wc->Prop) (s':Uz),Walks P w A I fp [I] n (fun i v=>vs[i]? = some v) St->St 0 s'.heap->V8 vs ns->ns.Perm ks->vs.length=n->(∀ x∈fp,x=S∨s.heap.objs.size<=x)->s.heap.objs.size<=I →
   s'.os=s.os->s'.gens=s.gens->(∀ b o,s.heap.get? b=some o->s'.heap.get? b=some o)->Q (.ref I) s'):U4 (Vk P w) A (pyIter (.ref S)) Q E s:=by
 obtain⟨o,es,ep,t,ho,hx,hd,hel,hf,tk,ns,hi,hp⟩:=hS
 have hT:s.TypeIs (.ref S) "set":=⟨o,ho,hx.1⟩
 have hlt:S < s.heap.objs.size:=U6 ho
 refine abm hT PySem.F.slot_set_iter (V2 PySem.F.slot_set_iter hT qj ?_ (PySem.F.args_set_iter_1 _))
 refine (show U4 _ _ (Builtin.Frozenset.sizeOf S >>= _) _ _ s from ?_)
 unfold Builtin.Frozenset.sizeOf
 refine Uw (Uw (Z0 ho hd hf (UJ ?_)))
 unfold setDrawn setsByText
 refine Uw (Uw (YD ho hd hf ?_))
 dsimp only
 refine Uw (Uw (Y5 (UJ (UJ ?_))))
 have hps:t.place.size=es.size:=by
  simp only[SetTable.fits,WK,beq_iff_eq] at hf
  exact hf.1
 have hlen:(es.toList.map (·.2)).length=es.size:=by rw[Uy,Vo]
 have hez:es.size<=sizeLine:=by
  have h1:=hi.length
  have h2:=hp.length_eq
  lia
 have start:∀ (vs:List Value) (ns':List Int) (St:Nat->Wc->Prop),Walks P w A s.heap.objs.size [s.heap.objs.size,S] [s.heap.objs.size] es.size (fun i v=>vs[i]? = some v) St->(∀ h,SIt h s.heap.objs.size S (.int (0:Nat) 0) 0 es.size ep->h.get? S=some o->St 0 h) →
   V8 vs ns'->ns'.Perm ks->vs.length=es.size->U4 (Vk P w) A.in1 (do
    let first ← pure (Wy 0)
    let e ← setEpoch S
    let r ← newFields "set_iterator" [first,Wy 0,Vy S,Wy (es.size:Int),Wy (e:Int)]
    ret r) (fun fin s'=>∃ v,fin=Fin.done (Flow.ret v)/\∃ T' r,s'.TypeIs v T'/\typeLookup (Yr T') (WX "__next__")=pure (some r)/\Q v s') E s:=fun vs ns' St W hst hi' hp' hl'=>by
  refine Uw (UJ (Uw (wpAny_setEpoch_of ho hd hf (Uw (V1 (UJ ?_))))))
  have g:(s.heap.push { cls:=.type "set_iterator",data:=.fields [Wy 0,Wy 0,Vy S,Wy (es.size:Int),Wy (ep:Int)].toArray }).get? s.heap.objs.size=some { cls:=.type "set_iterator",data:=.fields [Wy 0,Wy 0,Vy S,Wy (es.size:Int),Wy (ep:Int)].toArray }:=UT _ rfl
  refine⟨_,rfl,"set_iterator",_,⟨_,g,rfl⟩,bM.lookup,?_⟩
  refine h s.heap.objs.size [s.heap.objs.size,S] es.size vs ns' St _ W (hst _ g (Ux _ ho)) hi' hp' hl' (fun x hx'=>?_) (U0 _) rfl rfl fun b' o' e=>Ux _ e
  rcases List.mem_cons.mp hx' with rfl | hx'
  ·exact .inr (U0 _)
  ·exact .inl (List.mem_singleton.mp hx')
 have hne:S≠s.heap.objs.size:=Vh hlt
 cases hB:w.params.followText "set-order" with
 | true =>
  refine Yb (decide_eq_false (show ¬ (!w.params.followText "set-order" && (!t.plain && decide (es.size > 1)))=true by rw[hB]; exact U5)) ?_
  have pp:=pB (w.params.setOrder S ep) es
  obtain⟨ms,h1,h2⟩:=ig (pp.symm.map (·.2)) hi
  exact start _ ms _ (G3 hh hne hB hd hf) (fun h' q1 q2=>⟨⟨0,0,q1⟩,q2⟩) h1 (h2.trans hp) (by rw[Uy,pp.length_eq,Vo])
 | false =>
  have hled:t.led=true:=by
   rw[tk.led,hb]
   unfold JM
   rw[hB]
   rfl
  cases hD:(!t.plain && decide (es.size > 1)) with
  | false =>
   refine Yb (decide_eq_false (show ¬ (!w.params.followText "set-order" && (!t.plain && decide (es.size > 1)))=true by rw[hD,aa2]; exact U5)) ?_
   have hpl:t.plain=true∨es.size<=1:=by
    rw[Bool.and_eq_false_iff] at hD
    rcases hD with q | q
    ·exact .inl (by simpa using q)
    ·exact .inr (by have:=of_decide_eq_false q; lia)
   have hris:Ris t.place:=by
    rcases hpl with q | q
    ·exact tk.ris q
    ·unfold Ris
     have hl1:t.place.toList.length<=1:=by rw[Vo]; lia
     generalize t.place.toList=l at hl1
     match l,hl1 with
     | [],_=>exact ZF
     | [x],_=>exact List.pairwise_singleton _ _
   exact start _ ns _ (CG hh hne hB hd hf hled hpl hris) (fun h' q1 q2=>⟨⟨0,q1⟩,q2⟩) hi hp hlen
  | true =>
   refine wpAny_ite_true (decide_eq_true (show (!w.params.followText "set-order" && (!t.plain && decide (es.size > 1)))=true by rw[hD,hB]; rfl)) ?_
   refine Uw (v7 es.size (Vb es.size) s Vt fun pl d pp=>?_)
   simp only[newTuple]
   have lp:pl.length=es.size:=by rw[pp.length_eq,Vt]
   refine Uw (V1 ?_ (show (dC pl).toArray.size<=sizeLine by unfold dC; rw[U7,Uy]; lia))
   have sz1:(s.heap.push { cls:=.type "tuple",data:=.seq (dC pl).toArray }).objs.size=s.heap.objs.size+1:=VL _ _
   have gT:(s.heap.push { cls:=.type "tuple",data:=.seq (dC pl).toArray }).get? s.heap.objs.size=some { cls:=.type "tuple",data:=.seq (dC pl).toArray }:=UT _ rfl
   have ho1:(s.heap.push { cls:=.type "tuple",data:=.seq (dC pl).toArray }).get? S=some o:=Ux _ ho
   refine Uw (wpAny_setEpoch_of (o:=o) (es:=es) (t:=t) ho1 hd hf (Uw (V1 (UJ ?_))))
   have g:((s.heap.push { cls:=.type "tuple",data:=.seq (dC pl).toArray }).push { cls:=.type "set_iterator",data:=.fields [Vy s.heap.objs.size,Wy 0,Vy S,Wy (es.size:Int),Wy (ep:Int)].toArray }).get? (s.heap.push { cls:=.type "tuple",data:=.seq (dC pl).toArray }).objs.size=some { cls:=.type "set_iterator",data:=.fields [Vy s.heap.objs.size,Wy 0,Vy S,Wy (es.size:Int),Wy (ep:Int)].toArray }:=UT _ rfl
   refine⟨_,rfl,"set_iterator",_,⟨_,g,rfl⟩,bM.lookup,?_⟩
   have hne1:S≠(s.heap.push { cls:=.type "tuple",data:=.seq (dC pl).toArray }).objs.size:=by
    rw[sz1]
    exact Vh (V7 hlt)
   have hne2:s.heap.objs.size≠(s.heap.push { cls:=.type "tuple",data:=.seq (dC pl).toArray }).objs.size:=by
    rw[sz1]
    exact Vh (Xu _)
   have hv:(pl.map fun j=>(es.getD j (0,.none)).2).Perm (es.toList.map (·.2)):=by
    refine (pp.map _).trans ?_
    have e:(Vb es.size).map (fun j=>(es.getD j (0,VB)).2)=es.toList.map (·.2):=by
     apply abA
     intro i
     have ea:es.toList[i]? = es[i]?:=Wb
     rw[Vj,Vj,ea]
     by_cases hi':i < es.size
     ·rw[W4 hi',Vn hi']
      simp [WT,Vn hi']
     ·have er:(Vb es.size)[i]? = none:=Wm (by rw[Vt]; lia)
      rw[er,Yt (by lia)]
      rfl
    rw[e]
   have le1:s.heap.objs.size<=(s.heap.push { cls:=.type "tuple",data:=.seq (dC pl).toArray }).objs.size:=by
    rw[sz1]
    exact XX _
   obtain⟨ms,h1,h2⟩:=ig hv.symm hi
   refine h _ [(s.heap.push { cls:=.type "tuple",data:=.seq (dC pl).toArray }).objs.size,S,s.heap.objs.size] es.size _ ms _ _ (Dp (T:=s.heap.objs.size) hh hne1 hne2 hd hf pp) ⟨g,Ux _ ho1,_,Ux _ gT,rfl,0,rfl⟩ h1 (h2.trans hp) (by rw[Uy]; exact lp) (fun x hx'=>?_) le1 rfl rfl fun b' o' e=>Ux _ (Ux _ e)
   rcases List.mem_cons.mp hx' with rfl | hx'
   ·exact .inr le1
   ·rcases List.mem_cons.mp hx' with rfl | hx'
    ·exact .inl rfl
    ·exact .inr (by rw[List.mem_singleton.mp hx']; exact U0 _)
theorem yF {ks:List Int} {Q:List Value->Uz->Prop} (hh:A.handled=none) (hS:mX P w (JM w) s.heap S ks) (hz:ks.length<=sizeLine)
  (h:∀ (vs:List Value) (ns:List Int) (s':Uz),V8 vs ns->ns.Perm ks->s.heap.objs.size<=s'.heap.objs.size->s'.os=s.os->s'.gens=s.gens->(∀ b o,s.heap.get? b=some o->s'.heap.get? b=some o)->Q vs s'):U4 (Vk P w) A (collect (.ref S)) Q E s:=by
 obtain⟨o,es,ep,t,ho,hx,_⟩:=id hS
 have hlt:S < s.heap.objs.size:=U6 ho
 have hSl:s.heap.objs.size≠S:=WM hlt
 unfold collect
 refine Uw (wpAny_runValue (WQ PySem.F.entry_proto_collect ?_))
 rw[Wr PySem.F.plain_proto_collect _]
 refine (show U4 _ A.in1 (newList [] >>= fun l=>again (.builtin "list.__iadd__" ⟨[l,.ref S],[]⟩)) _ _ s from Uw (V1 ?_))
 refine UJ ⟨W7 PySem.F.plain_list_iadd _,WQ PySem.F.entry_list_iadd ?_⟩
 rw[Wr PySem.F.plain_list_iadd _]
 generalize hN:s.heap.push { cls:=.type "list",data:=.seq ([]:List Value).toArray }=h1
 have gL:h1.get? s.heap.objs.size=some { cls:=.type "list",data:=.seq ([]:List Value).toArray }:=by rw[← hN]; exact UT _ rfl
 have k1:∀ b o,s.heap.get? b=some o->h1.get? b=some o:=fun b o e=>by rw[← hN]; exact Ux _ e
 have sz1:h1.objs.size=s.heap.objs.size+1:=by rw[← hN]; exact VL _ _
 have hT:Shared.TypeIs { s with heap:=h1 } (.ref S) "set":=⟨o,k1 _ _ ho,hx.1⟩
 refine (show U4 _ A.in1 (ab6 (.ref s.heap.objs.size) (.ref S) (.ref s.heap.objs.size)) _ _ { s with heap:=h1 } from ?_)
 unfold ab6; refine Uw (wpAny_typeOf hT ?_)
 have q1:Builtin.List.listSameRef (.ref s.heap.objs.size) (.ref S)=false:=by simp [Builtin.List.listSameRef,hSl]
 have q2:(Yr "set" == Yr "list")=false:=by decide
 have q3:(Yr "set" == Yr "tuple")=false:=by decide
 simp only[q1,q2,q3,Bool.or_false,Zt,if_false]
 refine Uw (JB (s:={ s with heap:=h1 }) hh rfl (ni (fun o e=>k1 S o e) hS) hz fun I fp n vs ns St s2 W st hi hp hl hfp hI os2 gs2 k2=>?_)
 have gL2:=k2 _ _ gL
 have hTs:s2.TypeIs (.ref S) "set":=⟨o,k2 _ _ (k1 _ _ ho),hx.1⟩
 have hLf:s.heap.objs.size ∉ fp:=fun z=>by
  rcases hfp _ z with q | q
  ·exact hSl q
  ·have q':h1.objs.size<=s.heap.objs.size:=q
   rw[sz1] at q'
   exact absurd q' (Nat.not_succ_le_self _)
 have hz':n<=sizeLine:=by
  have e1:=hi.length
  have e2:=hp.length_eq
  lia
 have key:∀ (R:abg->Uz->Prop),(∀ (s':Uz) (c':Nat),s'.heap.get? s.heap.objs.size=some { cls:=.type "list",dict:=none,data:=.seq vs.toArray c',slots:=#[] }->s'.os=s.os->s'.gens=s.gens->(∀ b o,s.heap.get? b=some o->s'.heap.get? b=some o)->R (.ok (.ret (.ref s.heap.objs.size))) s') →
   ∀ (h':Wc) (c tk:Nat),St 0 h'->(∀ b o,b≠s.heap.objs.size->s2.heap.get? b=some o->h'.get? b=some o)->h'.get? s.heap.objs.size=some { cls:=.type "list",data:=.seq #[] c } →
   Y7 (Vk P w) A (.builtin "list.extend.loop" ⟨[.ref s.heap.objs.size,.ref I,.ref s.heap.objs.size],[]⟩) R { s2 with heap:=h',toks:=tk }:=fun R hR h' c tk st' kp gl=>by
  refine codeAny_extend_loopS W.toS hz' s.heap.objs.size hLf _ n 0 _ #[] c rfl (Vr _) st' gl (ItemsOf.nil _) fun s' acc' c' hm gL' hacc=>?_
  have eacc:acc'=vs.toArray:=by
   apply Array.ext_getElem?
   intro j
   have ev:vs.toArray[j]? = vs[j]?:=ZJ
   rw[ev]
   by_cases hj:j < acc'.size
   ·have e:=hacc.2 j acc'[j] (Vn hj)
    rw[Vn hj]
    exact e.symm
   ·rw[Yt (by lia),Wm (by have:=hacc.1; lia)]
  rw[eacc] at gL'
  refine hR s' c' gL' (hm.os.trans os2) (hm.gens.trans gs2) fun b o' e=>?_
  have hbl:b < s.heap.objs.size:=U6 e
  refine hm.heap b o' ?_ (kp b o' (Vh hbl) (k2 _ _ (k1 _ _ e)))
  rw[V3,X5]
  rintro (z | z)
  ·exact absurd z (Vh hbl)
  ·have q:h1.objs.size<=I:=hI
   rw[sz1,← z] at q
   exact absurd (Vm hbl (Nat.le_of_succ_le q)) (Xw _)
 refine Uw (Xf (Ky hTs ?_))
 have fin:∀ (s':Uz) (c':Nat),s'.heap.get? s.heap.objs.size=some { cls:=.type "list",dict:=none,data:=.seq vs.toArray c',slots:=#[] }->s'.os=s.os->s'.gens=s.gens->(∀ b o,s.heap.get? b=some o->s'.heap.get? b=some o) →
   U4 (Vk P w) A (load s.heap.objs.size >>= fun o=>match o.data with | .seq xs _=>pure xs.toList | _=>abQ "internal:collect") Q E s':=fun s' c' g e1 e2 e3=>Uw (wpAny_load g (UJ (h vs ns s' hi hp (Y8 (U6 g)) e1 e2 e3)))
 refine abS (fun _=>?_) (fun _=>UJ ⟨W7 PySem.F.plain_extend_loop _,key _ (fun s' c' g e1 e2 e3=>fin s' c' g e1 e2 e3) s2.heap _ s2.toks st (fun b o _ e=>e) gL2⟩)
 refine Uw (X4 (Uw (show U4 _ _ (abD s.heap.objs.size (·.push .none) >>= fun _=>abD s.heap.objs.size (·.pop)) _ _ _ from ?_)))
 refine Uw (Zf gL2 rfl ?_)
 have g3:=Wh (Wa (·.push VB)) gL2 rfl
 refine Zf (hz:=by seq_fits) g3 rfl ?_
 have g4:=Wh (Wa (·.pop)) g3 rfl
 have oth:∀ b o',b≠s.heap.objs.size->s2.heap.get? b=some o'->((s2.heap.update s.heap.objs.size (Wa (·.push VB))).update s.heap.objs.size (Wa (·.pop))).get? b=some o':=fun b o' hb e=>by
  rw[Wg _ _ (YG hb),Wg _ _ (YG hb)]
  exact e
 exact UJ ⟨W7 PySem.F.plain_extend_loop _,key _ (fun s' c' g e1 e2 e3=>fin s' c' g e1 e2 e3) _ _ s2.toks (W.frame 0 _ _ st fun b hb o' e=>oth b o' (fun z=>hLf (by rw[← z]; exact hb)) e) oth g4⟩
end
end L2
namespace L2
open PySem PySem.Spec PyProof.Rows
section
variable {P:Vp} {w:VP} {A:VR} {E:Value->Uz->Prop} {s:Uz} {S:Addr}
theorem CZ {ks:List Int} {Q:Value->Uz->Prop} (hh:A.handled=none) (hS:mX P w (JM w) s.heap S ks) (h64:ks.length < 64)
  (h:∀ (l:Addr) (vs:List Value) (ns:List Int) (c:Nat) (s':Uz),V8 vs ns->ns.Perm ks->ns.Pairwise (·<=·)->s'.heap.get? l=some { cls:=.type "list",data:=.seq vs.toArray c }->s.heap.objs.size<=l->s'.os=s.os->s'.gens=s.gens →
   (∀ b o,s.heap.get? b=some o->s'.heap.get? b=some o)->Q (.ref l) s'):U4 (Vk P w) A (call (.builtin "sorted") [.ref S]) Q E s:=by
 refine aaj kind_sorted plain_sorted entry_sorted (args_sorted1 _) ?_
 unfold Builtin.«sorted»; refine Uw (m:=checkCount "sorted" 1 1 _) (UJ ?_)
 refine Uw (yF hh hS (Y8 (Vm h64 (by decide))) fun vs ns s1 hi hp hsz os1 gs1 k1=>?_)
 have hl:vs.length < 64:=by
  have e1:=hi.length
  have e2:=hp.length_eq
  lia
 refine Uw (aaq ?_)
 have g1:(s1.heap.push (Wk "list" vs.toArray 0)).get? s1.heap.objs.size=some (Wk "list" vs.toArray 0):=UT _ rfl
 refine Uw (Xf (V2 slot_list_sort ⟨_,g1,rfl⟩ abT (list_sort_tree g1 hi hl fun out ns' a1 a2 a3=>⟨_,rfl,?_⟩) (args_list_sort _)))
 obtain⟨c,hc⟩:=sortedHeap_at (out:=out) g1
 refine UJ ⟨_,rfl,h s1.heap.objs.size out.toList ns' c _ a1 (a2.trans hp) a3 ?_ hsz os1 gs1 fun b o e=>?_⟩
 ·exact hc
 ·have e1:=k1 b o e
  have lt:=U6 e1
  rw[sortedHeap_old (Vh lt) (by rw[VL]; exact V7 lt)]
  exact Ux _ e1
end
end L2
namespace L2
open PySem PySem.Spec PyProof.Rows
def ddI (ns:List Int):List Int:=firstMet (fun i=>ns.getD i 0) ns.length
theorem Inv.JX {X:Cx} {pins:List (Addr × Yh)} {σ:St} {H:Hp} {s s':Uz} {l:Addr} {ys:List V} {its:List Value} {c:Nat} (I:Inv X pins σ H s) (ho:s'.os=s.os) (hg:s'.gens=s.gens) (k:∀ b u,s.heap.get? b=some u->s'.heap.get? b=some u)
  (hl:s.heap.objs.size<=l) (hv:Vals ys its) (hz:ys.length<=sizeLine) (g:s'.heap.get? l=some { cls:=.type "list",data:=.seq its.toArray c }):Inv X pins σ (upd H l (.lst ys)) s':=by
 have J:=I.laid (t':=s.toks) (o:=.lst ys) k hl ⟨hz,its,c,hv,g⟩
 exact⟨J.ok,ho.trans I.os,by rw[hg]; exact I.bare,J.base,J.loc,J.cell,J.free,J.freeC,J.pin,J.hok,J.len⟩
def tSS (K:Vi) (te:TA):TE:=fun σ H Q=>te σ H fun xs H1=>∃ (a:Addr) (ns:List Int),xs=[.ref a]/\SqL K H1 a (ns.map V.int)/\ns.length<=4000/\(ddI ns).length < 64/\∀ ms:List Int,ms.Perm (ddI ns)->ms.Pairwise (·<=·)->∀ l,H1 l=none->Q (.ref l) (upd H1 l (.lst (ms.map V.int)))
theorem vK {X:Cx} {e:Expr} {te:TA} {p1 p2 q1 q2:ZG} (hc:X.calm=true) (hg1:Gl X "sorted") (hm1:X.mg "sorted" = none) (hg2:Gl X "set") (hm2:X.mg "set" = none) (ha:PA X [e] te)
  (hb1:Wj "sorted" = some (.builtin "sorted"):=by decide+kernel) (hb2:Wj "set" = some (.type "set"):=by decide+kernel)
  (he1:V4 [.Call (.Name "set" p2) [e] [] q2] X.env=(false,X7 (.Call (.Name "set" p2) [e] [] q2) X.env)::V4 [] X.env:=by rfl) (hp1:(ZL q1 (V4 [] X.env)).any (·.1)=false:=by rfl)
  (he2:V4 [e] X.env=(false,X7 e X.env)::V4 [] X.env:=by rfl) (hp2:(ZL q2 (V4 [] X.env)).any (·.1)=false:=by rfl) :
  PE X (.Call (.Name "sorted" p1) [.Call (.Name "set" p2) [e] [] q2] [] q1) (tSS X.K te):=by
 intro pins s σ H Q I h
 refine Yq (iK I hg1 hm1 hb1 ?_ (by decide) (by decide))
 refine abI ?_ he1 hp1
 rw[he1]
 refine (show U4 _ _ (spliced ((false,X7 (.Call (.Name "set" p2) [e] [] q2) X.env)::ZL q1 (V4 [] X.env))) _ _ s from Calls.spliced_cons ?_)
 refine Yq (iK I hg2 hm2 hb2 ?_ (by decide) (by decide))
 refine Wq (thn (ha q2 pins s σ H _ I h) fun us s1 ⟨vs,H1,I1,r1,q⟩=>?_) he2 hp2
 obtain⟨a,ns,rfl,hq,hl,h64,hQ⟩:=q
 obtain⟨u,rfl,ru⟩:=vals1 r1
 cases ru
 obtain⟨its,rv,pl,_⟩:=I1.list hq
 have hi:V8 its ns:=intsAre_of rv
 have hsz:its.toArray.size=ns.length:=by rw[U7]; exact hi.length
 refine zp (I1.ok.hd hc) pl.isList hi (by rw[hsz]; exact Ys (abJ hl) (by decide)) fun h' tk hS hk=>?_
 rw[hsz] at hS
 have I2:Inv X pins σ H1 { s1 with heap:=h',toks:=tk }:=I1.kept (t':=tk) fun b o e=>hk b o (U6 e) e
 refine (show U4 _ _ (spliced []) _ _ _ from Calls.spliced_nil ?_)
 refine CZ (I1.ok.hd hc) hS h64 fun l vs ms c s3 hi3 hp3 hw3 g3 hl3 os3 gs3 k3=>?_
 have hml:(ms.map V.int).length<=sizeLine:=by
  rw[Uy,hp3.length_eq]
  exact Y8 (Vm h64 (by decide))
 exact⟨.ref l,_,I2.JX os3 gs3 k3 hl3 (lC hi3) hml g3,rfl,hQ ms hp3 hw3 l (I2.hok.fresh hl3)⟩
end L2
namespace L2
open PySem PySem.Spec PyProof.Rows
section
variable {X:Cx} {pins:List (Addr × Yh)} {s:Uz} {σ:St} {H:Hp}
end
end L2
namespace L2
open PySem PySem.Spec PyProof.Rows
section
variable {X:Cx} {k:Nat}
end
end L2
namespace L2
open PySem PySem.Spec PyProof.Rows
section
variable {X:Cx} {k:Nat}
end
end L2
namespace L2
open PySem PySem.Spec PyProof.Rows
def mxD (d:Int):List Int->Int
 | []=>d
 | a::r=>r.foldl max a
theorem fL:∀ (r:List Int) (a:Int),a<=r.foldl max a/\∀ b∈r,b<=r.foldl max a
 | [],a=>⟨V9 _,by simp⟩
 | c::r,a=>by
  obtain⟨h1,h2⟩:=fL r (max a c)
  rw[Wi]
  refine⟨by lia,fun b hb=>?_⟩
  rcases List.mem_cons.mp hb with rfl | hb
  ·lia
  ·exact h2 b hb
theorem ug {n:Int}:∀ {l:List Value} {ns:List Int} {j:Nat},V8 l ns->ns[j]? = some n->∃ t,l[j]? = some (.int n t)
 | _,_,j,.nil,h=>by simp at h
 | _,_,0,.cons _ _ _,h=>by
  cases (show some _=some n from h)
  exact⟨_,rfl⟩
 | _,_,j+1,.cons _ _ r,h=>by
  obtain⟨t,e⟩:=ug (j:=j) r (by simpa using h)
  exact⟨t,by simpa using e⟩
def dkw (dk:Option (Int × Tok)):List (Wz × Value):=dk.toList.map fun d=>(("default" : Wz),Yl d.1 d.2)
section
variable {prog:Vp} {w:VP} {A:VR} {R:abg->Uz->Prop} {E:Value->Uz->Prop} {s:Uz}
theorem Hm {it l S:Addr} {items:Array Value} {ns:List Int} (hh:A.handled=none) (hi:V8 items.toList ns) (hne:l≠it) (hS1:S≠it) (hS2:S≠l) (kw:List (Wz × Value)) :
  ∀ (k j:Nat) (s:Uz) (b:Int) (t:Tok) (c:Nat),ns.length - j=k->j<=ns.length->s.heap.IsListIter it l j->s.heap.IsList l items →
   s.heap.get? S=some { cls:=.type "list",dict:=none,data:=.seq #[.int b t,.int b t] c,slots:=#[] } →
   (∀ t' h' tk,(∀ a o,a≠it->a≠S->s.heap.get? a=some o->h'.get? a=some o)->R (.ok (.ret (.int ((ns.drop j).foldl max b) t'))) { s with heap:=h',toks:=tk }) →
   Y7 (Vk prog w) A (.builtin "max.loop" ⟨[.ref it,.none,.ref S],kw⟩) R s:=by
 have W:=abf (prog:=prog) (w:=w) (A:=A.in1) hh it l hne items
 have hname:(toString "max"++toString ".loop" : String) = "max.loop":=by decide
 have hsz:items.size=ns.length:=by rw[← Vo]; exact hi.length
 intro k
 induction k with
 | zero =>
  intro j s b t c hk hj h1 h2 hS hR
  refine WQ abN ?_; rw[Wr Yp _]
  show U4 _ A.in1 (aay (.ref S) >>= _) _ _ s; refine Uw (VJ hS rfl ?_)
  have ej:j=items.size:=by lia
  show U4 _ A.in1 (tryCatch (Xy (.ref it)) _ >>= _) _ _ s; refine Uw (Z9 (W.done s _ _ (by rw[← ej]; exact⟨h1,h2⟩) fun h' tk hm=>?_))
  have hS':=hm S _ (by simpa using hS1) hS
  show U4 _ A.in1 (abD S (fun _=>#[]) >>= _) _ _ _; refine Uw (Zf hS' rfl (Uw (Xx (UJ ?_))))
  rw[XR (by lia)] at hR
  exact hR t _ tk fun a o ha hb e=>(Wg _ _ (YG hb)).trans (hm a o (by simpa using ha) e)
 | succ k ih =>
  intro j s b t c hk hj h1 h2 hS hR
  refine WQ abN ?_; rw[Wr Yp _]
  show U4 _ A.in1 (aay (.ref S) >>= _) _ _ s; refine Uw (VJ hS rfl ?_)
  have hlt:j < ns.length:=by lia
  obtain⟨u,hu⟩:=ug hi (UG hlt)
  have ed:ns.drop j=ns[j]::ns.drop (j+1):=W2 hlt
  show U4 _ A.in1 (tryCatch (Xy (.ref it)) _ >>= _) _ _ s; refine Uw (Z9 (W.item j s _ _ (by lia) ⟨h1,h2⟩ fun v h' tk hP st hm=>?_))
  obtain⟨g1,g2⟩:=st
  have ev:v = .int ns[j] u:=by
   have e:items[j]? = some v:=hP
   rw[← Wb,hu] at e
   exact (VF e).symm
  subst ev
  have hS':=hm S _ (by simpa using hS1) hS
  show U4 _ A.in1 (tryCatch (holding [Yl ns[j] u,Yl ns[j] u] (richCompare .Gt (.int ns[j] u) (.int b t) >>= _)) _ >>= _) _ _ _
  refine Uw (Z9 (Xf (Uw ((CmpOf.ints_gt (P:=fun i v=>∃ t,v = .int (if i=0 then ns[j] else b) t) (fun i=>if i=0 then ns[j] else b) (fun _ _ h=>h)) 0 1 _ _ _ _ _ ⟨u,rfl⟩ ⟨t,rfl⟩ ?_))))
  refine Uw (Xf (Xh (Uw (Xx (UJ ?_)))))
  show U4 _ A.in1 (if decide (ns[j] > b)=true then _ else _) _ _ _
  by_cases hb:ns[j] > b
  ·rw[if_pos (decide_eq_true hb)]
   refine Uw (Zf hS' rfl (Uw (Xx ?_)))
   rw[hname]
   refine UJ ⟨W7 Yp _,ih (j+1) _ ns[j] u _ (by lia) hlt ?_ ?_ (Wh _ hS' rfl) fun t' h2 tk2 k2=>?_⟩
   ·exact g1.at fun o e=>(Wg _ _ hS1).trans e
   ·exact g2.at fun o e=>(Wg _ _ hS2).trans e
   ·have q:=hR t' h2 tk2 fun a o ha hb e=>k2 a o ha hb ((Wg _ _ (YG hb)).trans (hm a o (by simpa using ha) e))
    rw[ed,Wi,show max b ns[j]=ns[j] by lia] at q
    exact q
  ·rw[if_neg (by simpa using hb)]
   refine Uw (Xx ?_)
   rw[hname]
   refine UJ ⟨W7 Yp _,ih (j+1) _ b t c (by lia) hlt g1 g2 hS' fun t' h2 tk2 k2=>?_⟩
   have q:=hR t' h2 tk2 fun a o ha hb e=>k2 a o ha hb (hm a o (by simpa using ha) e)
   rw[ed,Wi,show max b ns[j]=b by lia] at q
   exact q
theorem Di {it l S:Addr} {items:Array Value} {ns:List Int} {c:Nat} (hh:A.handled=none) (hi:V8 items.toList ns) (hne:l≠it) (hS1:S≠it) (hS2:S≠l) (dk:Option (Int × Tok)) (hd:ns=[]->dk≠none)
  (h1:s.heap.IsListIter it l 0) (h2:s.heap.IsList l items) (hS:s.heap.get? S=some { cls:=.type "list",dict:=none,data:=.seq #[] c,slots:=#[] })
  (hR:∀ t' h' tk,(∀ a o,a≠it->a≠S->s.heap.get? a=some o->h'.get? a=some o)->R (.ok (.ret (.int (mxD ((dk.map (·.1)).getD 0) ns) t'))) { s with heap:=h',toks:=tk }) :
  Y7 (Vk prog w) A (.builtin "max.loop" ⟨[.ref it,.none,.ref S],dkw dk⟩) R s:=by
 have W:=abf (prog:=prog) (w:=w) (A:=A.in1) hh it l hne items
 have hname:(toString "max"++toString ".loop" : String) = "max.loop":=by decide
 have hsz:items.size=ns.length:=by rw[← Vo]; exact hi.length
 refine WQ abN ?_; rw[Wr Yp _]
 show U4 _ A.in1 (aay (.ref S) >>= _) _ _ s; refine Uw (VJ hS rfl ?_)
 show U4 _ A.in1 (tryCatch (Xy (.ref it)) _ >>= _) _ _ s
 cases ns with
 | nil =>
  have e0:items.size=0:=hsz
  refine Uw (Z9 (W.done s _ _ (by rw[e0]; exact⟨h1,h2⟩) fun h' tk hm=>?_))
  cases dk with
  | none=>exact absurd rfl (hd rfl)
  | some d =>
   refine Uw (X4 ?_)
   exact UJ (hR d.2 h' tk fun a o ha hb e=>hm a o (by simpa using ha) e)
 | cons n r =>
  obtain⟨u,hu⟩:=ug (n:=n) (j:=0) hi rfl
  refine Uw (Z9 (W.item 0 s _ _ (by rw[hsz]; exact Nat.succ_pos _) ⟨h1,h2⟩ fun v h' tk hP st hm=>?_))
  obtain⟨g1,g2⟩:=st
  have ev:v = .int n u:=by
   have e:items[0]? = some v:=hP
   rw[← Wb,hu] at e
   exact (VF e).symm
  subst ev
  have hS':=hm S _ (by simpa using hS1) hS
  show U4 _ A.in1 (abD S (fun _=>#[Yl n u,Yl n u]) >>= _) _ _ _
  refine Uw (Zf hS' rfl ?_)
  rw[hname]
  refine UJ ⟨W7 Yp _,Hm hh hi hne hS1 hS2 _ _ 1 _ n u _ rfl (abJ (Vr _)) ?_ ?_ (Wh _ hS' rfl) fun t' h2 tk2 k2=>?_⟩
  ·exact g1.at fun o e=>(Wg _ _ hS1).trans e
  ·exact g2.at fun o e=>(Wg _ _ hS2).trans e
  ·exact hR t' h2 tk2 fun a o ha hb e=>k2 a o ha hb ((Wg _ _ (YG hb)).trans (hm a o (by simpa using ha) e))
theorem Hh (a v:Value):ZW "max" ⟨[a],[("default",v)]⟩:=by unfold ZW; kernel_rfl
theorem Ft (v:Value):Z8 "max" ["key","default"] 0 ⟨[],[("default",v)]⟩=pure [none,some v]:=by kernel_rfl
theorem K9 {l:Addr} {items:Array Value} {ns:List Int} {Q:Value->Uz->Prop} (hh:A.handled=none) (hl:s.heap.IsList l items) (hi:V8 items.toList ns) (dk:Option (Int × Tok)) (hd:ns=[]->dk≠none)
  (h:∀ t h' tk,(∀ a o,s.heap.get? a=some o->h'.get? a=some o)->Q (.int (mxD ((dk.map (·.1)).getD 0) ns) t) { s with heap:=h',toks:=tk }) :
  U4 (Vk prog w) A (call (.builtin "max") [.ref l] (dkw dk)) Q E s:=by
 have ha:ZW "max" ⟨[.ref l],dkw dk⟩:=by
  cases dk with
  | none=>exact F.args_max1 _
  | some d=>exact Hh _ _
 have hb:Z8 "max" ["key","default"] 0 ⟨[],dkw dk⟩=pure [none,dk.map fun d=>.int d.1 d.2]:=by
  cases dk with
  | none=>rfl
  | some d=>exact Ft _
 have hname:(toString "max"++toString ".loop" : String) = "max.loop":=by decide
 refine wpAny_call (codeAny_call_builtin F.plain_max F.entry_max ?_)
 have main:U4 (Vk prog w) A.in1 (Builtin.«max» ⟨[.ref l],dkw dk⟩) (fun fin s'=>match fin with
   | .done f=>(match (Except.ok f:abg) with | .ok (.ret v)=>Q v s' | .ok _=>False | .error e=>E e s')
   | .again c'=>c'.quiet=true/\Y7 (Vk prog w) A c' (fun r s'=>match r with | .ok (.ret v)=>Q v s' | .ok _=>False | .error e=>E e s') s') E s:=by
  show U4 _ A.in1 (Z8 "max" ["key","default"] 0 ⟨[],dkw dk⟩ >>= _) _ _ s
  refine Uw (XS hb (Uw (UJ ?_)))
  refine Uw (Yd hl (Uw (V1 ?_)))
  have lt:l < s.heap.objs.size:=by obtain⟨o,e,_⟩:=hl; exact U6 e
  have hs1:(s.heap.push { cls:=.type "list_iterator",data:=.fields #[.ref l,.int 0 0] }).objs.size=s.heap.objs.size+1:=VL ..
  rw[hname]
  have ek:(dk.map fun d=>Yl d.1 d.2).toList.map (fun d=>(("default" : Wz),d))=dkw dk:=by cases dk <;> rfl
  refine UJ ⟨W7 Yp _,?_⟩
  show Y7 _ A (.builtin "max.loop" ⟨[.ref s.heap.objs.size,.none,_],(dk.map fun d=>Yl d.1 d.2).toList.map (fun d=>(("default" : Wz),d))⟩) _ _
  rw[ek]
  refine Di hh hi (Vh lt) (by rw[hs1]; exact WM (Xu _)) (by rw[hs1]; exact WM (V7 lt)) dk hd
   ⟨_,Ux _ (UT _ rfl),rfl,rfl⟩ ((hl.push _).push _) (UT _ rfl) fun t h' tk k=>?_
  exact h t h' tk fun a o e=>k a o (Vh (U6 e)) (by rw[hs1]; exact Vh (V7 (U6 e))) (Ux _ (Ux _ e))
 simp only[abH,F.kind_max]
 cases hsig:Manifest.signature? "max" with
 | none=>exact UJ main
 | some sig =>
  have ha':Bind.checkArgs "max" sig ⟨[.ref l],dkw dk⟩=pure ():=by simpa only [ZW,hsig] using ha
  simp only[ha']
  exact UJ main
end
section
variable {X:Cx}
inductive Iv (K:Vi) (xs:List V) (H:Hp) (Q:VK):Prop where
 | mk (p:Addr) (ns:List Int) (z0:xs=[.ref p]) (z1:SqL K H p (ns.map V.int)) (z2:ns.length < 64) (z3:∀ ms:List Int,ms.Perm ns->ms.Pairwise (·<=·)->∀ l,H l=none->Q (.ref l) (upd H l (.lst (ms.map V.int)))):Iv K xs H Q
def Li (K:Vi):List V->Hp->VK->Prop:=fun xs H Q=>Iv K xs H Q
theorem CN:iR X (.builtin "sorted") (Li X.K):=by
 intro pins s σ H xs us Q I r h
 obtain⟨p,ns,rfl,hq,h64,q⟩:=h
 obtain⟨u,rfl,ru⟩:=vals1 r
 cases ru
 obtain⟨its,rv,pl,hz⟩:=I.list hq
 have hi:V8 its ns:=intsAre_of rv
 refine sorted_ints pl.isList hi (by have:=hi.length; lia) fun out ns' a1 a2 a3=>?_
 obtain⟨e,he⟩:=sortedAll_at s.heap its out
 have hml:(ns'.map V.int).length<=sizeLine:=by
  rw[Uy,a2.length_eq]
  exact Y8 (Vm h64 (by decide))
 exact⟨.ref _,_,I.JX rfl rfl (fun _ _=>sortedAll_old) (XX _) (lC a1) hml he,rfl,q ns' a2 a3 _ (I.hok.fresh (XX _))⟩
inductive Ln (K:Vi) (xs:List V) (H:Hp) (Q:VK):Prop where
 | mk (p:Addr) (ns:List Int) (z0:xs=[.ref p]) (z1:SqL K H p (ns.map V.int)) (z2:ns≠[]) (z3:Q (.int (mxD 0 ns)) H):Ln K xs H Q
def HS (K:Vi):List V->Hp->VK->Prop:=fun xs H Q=>Ln K xs H Q
theorem lD (hc:X.calm=true):iR X (.builtin "max") (HS X.K):=by
 intro pins s σ H xs us Q I r h
 obtain⟨p,ns,rfl,hq,hne,q⟩:=h
 obtain⟨u,rfl,ru⟩:=vals1 r
 cases ru
 obtain⟨its,rv,pl,hz⟩:=I.list hq
 exact K9 (I.ok.hd hc) pl.isList (show V8 its.toArray.toList ns from intsAre_of rv) none (fun e=>absurd e hne) fun t h' tk k=>⟨.int _,H,I.kept (t':=tk) k,⟨_,rfl⟩,q⟩
def RV (K:Vi) (d:Int) (te:TA):TE:=fun σ H Q=>te σ H fun xs H1=>∃ (p:Addr) (ns:List Int),xs=[.ref p]/\SqL K H1 p (ns.map V.int)/\Q (.int (mxD d ns)) H1
theorem NP {e:Expr} {te:TA} {d:Int} {j} {p pos kp cp:ZG} (hc:X.calm=true) (hg:Gl X "max") (hm:X.mg "max" = none) (ha:PA X [e] te)
  (hb:Wj "max" = some (.builtin "max"):=by decide+kernel)
  (he:ZL pos (V4 [e] X.env)=(false,X7 e X.env)::ZL pos (V4 [] X.env):=by rfl) (hp:(ZL pos (V4 [e] X.env)).any (·.1)=false:=by rfl) :
  PE X (.Call (.Name "max" p) [e] [⟨some "default",.Constant (.int d) j cp,kp⟩] pos) (RV X.K d te):=by
 intro pins s σ H Q I h
 refine Yq (iK I hg hm hb ?_ (by decide) (by decide))
 refine callWith_kw (thn (ha pos pins s σ H _ I h) fun us s1 ⟨vs,H1,I1,r1,q⟩=>?_) he hp
 obtain⟨a,ns,rfl,hq,q⟩:=q
 obtain⟨u,rfl,ru⟩:=vals1 r1
 cases ru
 refine kws_cons (wpAny_Constant_int (kws_nil ?_))
 have I2:Inv X pins σ H1 { s1 with toks:=s1.toks+1 }:=I1.tok _
 obtain⟨its,rv,pl,hz⟩:=I2.list hq
 exact K9 (I.ok.hd hc) pl.isList (show V8 its.toArray.toList ns from intsAre_of rv) (some (d,_)) (fun _ z=>nomatch z) fun t h' tk k=>⟨.int _,H1,I2.kept (t':=tk) k,⟨_,rfl⟩,q⟩
end
end L2
namespace L2
open PySem PySem.Spec PyProof.Rows
theorem GK:Manifest.owners.lookup (String.ofList ['d','e','s','r','e','v','e','r'].reverse)=some Manifest.sig_reversed:=by kernel_rfl
theorem d8:Slot "reversed" "__next__" "reversed.__next__" :=
 .of (owner:="reversed") (n:="__next__") (by rw[Zg,X6]; kernel_rfl) (by decide+kernel) (by decide+kernel) (by decide+kernel) (by first | exact .inl (by decide+kernel) | exact .inr (by decide+kernel)) (by rw[Yj]; kernel_rfl)
theorem tD:Slot "reversed" "__init__" "object.__init__" :=
 .of (owner:="object") (n:="__init__") (by rw[Zg,X6]; kernel_rfl) (by decide+kernel) (by decide+kernel) (by decide+kernel) (by first | exact .inl (by decide+kernel) | exact .inr (by decide+kernel)) (by rw[Yj]; kernel_rfl)
theorem jO:entryFor table "reversed.__next__" = some Builtin.«reversed.__next__»:=entryFor_of_tree (by kernel_rfl)
theorem lJ (a:Value):ZW "reversed.__next__" ⟨[a],[]⟩:=by
 unfold ZW
 rw[aar (id:="reversed.__next__") (n:=['_','_','t','x','e','n','_','_']) (o:=['d','e','s','r','e','v','e','r']) (by kernel_rfl) GK]
 kernel_rfl
theorem lE:Slot "reversed" "__iter__" "reversed.__iter__" :=
 .of (owner:="reversed") (n:="__iter__") (by rw[Zg,X6]; kernel_rfl) (by decide+kernel) (by decide+kernel) (by decide+kernel) (by first | exact .inl (by decide+kernel) | exact .inr (by decide+kernel)) (by rw[Yj]; kernel_rfl)
theorem qX:entryFor table "reversed.__iter__" = some Builtin.«dict_keyiterator.__iter__»:=entryFor_alias (id':="dict_keyiterator.__iter__") (by kernel_rfl) rfl (by decide+kernel) (by kernel_rfl)
theorem rT (a:Value):ZW "reversed.__iter__" ⟨[a],[]⟩:=by
 unfold ZW
 rw[aar (id:="reversed.__iter__") (n:=['_','_','r','e','t','i','_','_']) (o:=['d','e','s','r','e','v','e','r']) (by kernel_rfl) GK]
 kernel_rfl
theorem Dc:TypeCalled "reversed" "reversed.__new__" "object.__init__" :=
 ⟨by decide+kernel,by decide+kernel,⟨_,_,F.mro_reversed⟩,F.made_reversed,by decide+kernel,by rw[Yj]; kernel_rfl,tD⟩
theorem wZ:typeLookup (.type "tuple") "__reversed__" = pure none:=by rw[Zg,X6]; kernel_rfl
theorem wy:isSubtype (.type "tuple") (.type "dict")=pure false:=by rw[Yj]; kernel_rfl
def RIt (h:Wc) (I t:Addr) (i:Int):Prop:=h.get? I=some { cls:=.type "reversed",dict:=none,data:=.fields #[.ref t,.int i 0],slots:=#[] }
theorem Jq (a:Value):ab4 "reversed" ⟨[.type "reversed",a],[]⟩=pure (.type "reversed",[a]):=by
 unfold ab4
 simp only[isType,F.sub_reversed_self,pure_bind,Bool.not_true,Zt,if_false]
theorem Ko (t:Addr) (items:Array Value) (hf:(items.size:Int) < 2 ^ 63) :
  aba (Builtin.«reversed.__new__» ⟨[.type "reversed",.ref t],[]⟩) (fun _ R s=>IsTup s.heap t items/\R (.ok (.ret (.ref s.heap.objs.size))) { s with heap:=s.heap.push { cls:=.type "reversed",data:=.fields #[.ref t,.int ((items.size:Int) - 1) 0] },toks:=s.toks+1+1 }) :=
 .of_wp fun prog w A R s h=>by
  obtain⟨ht,h⟩:=h
  unfold Builtin.«reversed.__new__»
  refine Uw (XS (Jq _) ?_)
  try dsimp only
  refine Uw (XS (a:=()) (by first | rfl | kernel_rfl) (Uw (XS (a:=()) (by first | rfl | kernel_rfl) ?_)))
  try dsimp only
  refine Uw (ZV ht.typeIs wZ ?_)
  try dsimp only
  refine (show U4 _ _ ((isInstance (.ref t) (.type "dict") >>= _) >>= _) _ _ s from Uw (Uw (X3 ht.typeIs wy ?_)))
  rw[if_neg U5]
  refine Uw (ZV ht.typeIs slot_tuple_getitem.lookup ?_)
  dsimp only
  rw[if_pos (by decide+kernel)]
  refine UJ ?_
  rw[if_neg (by simp)]
  refine Uw (len_tuple ht hf ?_)
  refine Uw (XS (a:=some ((items.size:Nat):Int)) rfl ?_)
  dsimp only
  refine Uw ?_
  refine (show U4 _ _ (newObj (.type "reversed") (.fields #[.ref t,Wy ((items.size:Int) - 1)])) _ _ _ from V1 ?_)
  exact UJ ⟨_,rfl,h⟩
section
variable {prog:Vp} {w:VP} {A:VR} {E:Value->Uz->Prop} {s:Uz}
theorem Iz {t:Addr} {items:Array Value} {Q:Value->Uz->Prop} (ht:IsTup s.heap t items) (hf:(items.size:Int) < 2 ^ 63)
  (h:Q (.ref s.heap.objs.size) { s with heap:=s.heap.push { cls:=.type "reversed",data:=.fields #[.ref t,.int ((items.size:Int) - 1) 0] },toks:=s.toks+1+1 }):U4 (Vk prog w) A (call (.type "reversed") [.ref t]) Q E s:=by
 refine aaE Dc (by decide) (F.typeCall_reversed_1 _) (F.newCall_reversed_1 _) (fun obj=>F.args_object_init_2 obj _) F.entry_reversed_new (Ko t items hf) ⟨ht,?_⟩
 exact⟨⟨_,UT _ rfl,rfl⟩,h⟩
theorem JS {it t:Addr} {i:Nat} {items:Array Value} {x:Value} {Q:Option Value->Uz->Prop} (hit:RIt s.heap it t (i:Int)) (ht:IsTup s.heap t items) (hi:(i:Int) < 2 ^ 63) (hx:items[i]? = some x)
  (hQ:∀ h',RIt h' it t ((i:Int) - 1)->Xm it s.heap h'->Q (some x) { s with heap:=h',toks:=s.toks+1 }):U4 (Vk prog w) A (Xy (.ref it)) Q E s:=by
 have hT:s.TypeIs (.ref it) "reversed":=⟨_,hit,rfl⟩
 unfold Xy
 refine Uw (W6 (V0 (name:=WX "__next__") hT d8 (V2 d8 hT jO ?_ (lJ _))))
 unfold Builtin.«reversed.__next__»
 refine Uw (XS (a:=(Vy it,[])) rfl ?_)
 dsimp only
 refine Uw (VD hit rfl (x:=.ref t) rfl (Uw (VD hit rfl (x:=.int (i:Int) 0) rfl ?_)))
 dsimp only
 rw[if_neg (by lia)]
 refine Uw (ZV ht.typeIs slot_tuple_getitem.lookup ?_)
 rw[if_neg (by simp)]
 refine Uw (wpAny_mkInt ?_)
 have hsz:i < items.size:=(Array.getElem?_eq_some_iff.mp hx).1
 have hk:seqIndex? (i:Int) items.size=some i:=by
  have e0:¬ ((i:Int) < 0):=by lia
  unfold seqIndex?
  simp only[if_neg e0]
  simp [hsz]
 refine Uw (W6 (getItem_tuple (s:={ s with toks:=s.toks+1 }) (show IsTup s.heap t items from ht) (by lia) hi hk hx ?_))
 dsimp only
 refine Uw (VD (s:={ s with toks:=s.toks+1 }) hit rfl (x:=.int (i:Int) 0) rfl ?_)
 dsimp only
 refine Uw (Xi (s:={ s with toks:=s.toks+1 }) hit rfl (by simp) ?_)
 refine UJ ⟨x,rfl,UJ (hQ _ ?_ (Wo ..))⟩
 exact Wh (ZQ (·.setIfInBounds 1 (Wy ((i:Int) - 1)))) hit rfl
theorem Ny {it t:Addr} {Q:Option Value->Uz->Prop} (hh:A.handled=none) (hit:RIt s.heap it t (-1)) (hQ:∀ h',Heap.ExtBut it s.heap h'->Q none { s with heap:=h' }):U4 (Vk prog w) A (Xy (.ref it)) Q E s:=by
 have hT:s.TypeIs (.ref it) "reversed":=⟨_,hit,rfl⟩
 unfold Xy
 refine Uw (W6 (V0 (name:=WX "__next__") hT d8 (V2 d8 hT jO ?_ (lJ _))))
 unfold Builtin.«reversed.__next__»
 refine Uw (XS (a:=(Vy it,[])) rfl ?_)
 dsimp only
 refine Uw (VD hit rfl (x:=.ref t) rfl (Uw (VD hit rfl (x:=.int (-1) 0) rfl ?_)))
 dsimp only
 rw[if_pos (by decide)]
 refine Uw (X4 ?_)
 refine Uw ?_
 refine (show U4 _ _ (setField (.ref it) 1 (Wy (-1)) >>= _) _ _ s from Uw (Xi hit rfl (by simp) ?_))
 have g1:=Wh (ZQ (·.setIfInBounds 1 (Wy (-1)))) hit rfl
 refine Xi g1 rfl (by simp) ?_
 refine Uw ?_
 refine (show U4 _ _ (abG (.type "StopIteration") [] >>= _) _ _ _ from Uw ?_)
 simp only[abG,newTuple]
 refine Uw (V1 ?_ (by size_fits))
 refine Uw (m:=Yk _ _) (XS (a:=VB) (by first | rfl | (simp only[Yk]; rfl)) (V1 ?_ (by size_fits)))
 simp only[raiseNew]
 refine Uw (aa7 ?_)
 first | rw[show A.in1.handled=none from hh] | rw[hh]
 refine Uw (UJ (abP ?_))
 refine Uw (X3 (T:="StopIteration") (b:=true) ⟨_,UT _ rfl,rfl⟩ Zv (UJ ?_))
 exact hQ _ ((((Wo ..).trans (Wo ..)).extBut.push _).push _)
theorem zZ {it t:Addr} {i:Int} {Q:Value->Uz->Prop} (hI:RIt s.heap it t i) (h:Q (.ref it) s):U4 (Vk prog w) A (pyIter (.ref it)) Q E s:=by
 have hT:s.TypeIs (.ref it) "reversed":=⟨_,hI,rfl⟩
 refine abm hT lE (V2 lE hT qX (show U4 _ _ (ret (.ref it)) _ _ s from ?_) (rT _))
 exact UJ ⟨_,rfl,"reversed",_,hT,d8.lookup,h⟩
end
def Itv (K:Vi) (a:Addr) (n:Nat):It :=
 ⟨fun i H=>i < n/\∃ xs x,SqT K H a xs/\xs.length=n/\xs[n - 1 - i]? = some x,fun i H x H'=>H'=H/\∀ xs,SqT K H a xs->xs[n - 1 - i]? = some x,fun i _=>i=n⟩
theorem J0 {P:Vp} {w:VP} {K:Vi} {tg:Expr} (a it:Addr) (n:Nat) (hn:(n:Int) < 2 ^ 63):Turn P w K tg (Itv K a n) [it] it (fun i h=>RIt h it a ((n:Int) - 1 - (i:Int))) where
 mem:=by simp
 obj:=fun i h st b hb=>by
  have e:b=it:=by simpa using hb
  subst e
  exact⟨_,st,fun v z=>by cases (show Data.fields _=Data.cell v from z)⟩
 keep:=fun i h h' st k=>k it (by simp) _ st
 item:=by
  intro X hP hw hK hc i pins s σ H E I hf st hg
  subst hP hw hK
  obtain⟨hin,xs,x,hq,hlen,hx⟩:=hg
  obtain⟨its,rv,p,hz⟩:=I.tuple hq
  obtain⟨u,hu,ru⟩:=rv.get hx
  obtain⟨f0,f1,f2,f3,f4,f5⟩:=hf it (by simp)
  have e:(n:Int) - 1 - (i:Int)=((n - 1 - i:Nat):Int):=by lia
  have st':RIt s.heap it a ((n - 1 - i:Nat):Int):=by rw[← e]; exact st
  refine JS st' p (by lia) (x:=u) (by simpa using hu) fun h' st2 sb=>?_
  have e2:((n - 1 - i:Nat):Int) - 1=(n:Int) - 1 - ((i+1:Nat):Int):=by lia
  rw[e2] at st2
  have I1:Inv X pins σ H { s with heap:=h',toks:=s.toks+1 }:=I.turned (t':=s.toks+1) (fun b o hb e=>(sb.2 b hb).trans e) f0 f1 f3 f4 f5
  exact⟨u,rfl,Kd (s:={ s with heap:=h',toks:=s.toks+1 }) st2 rfl rfl (by decide) ⟨x,H,I1,ru,⟨rfl,fun ys hy=>by rw[I.fJ hy hq]; exact hx⟩,st2,fun b hb=>(hf b hb).1⟩⟩
 done:=by
  intro X hP hw hK hc i pins s σ H E I hf st hg
  subst hP hw hK
  cases (show i=n from hg)
  obtain⟨f0,f1,f2,f3,f4,f5⟩:=hf it (by simp)
  have st':RIt s.heap it a (-1):=by
   have e:(n:Int) - 1 - (n:Int) = -1:=by lia
   rw[← e]; exact st
  exact Ny (I.ok.hd hc) st' fun h' eb=>⟨rfl,I.turned (t':=s.toks) (fun b o hb e=>eb b o hb e) f0 f1 f3 f4 f5⟩
 self:=fun _ _ _ _ _ st h=>zZ st h
def Ui (K:Vi) (ta:TA):TI:=fun σ H R=>ta σ H fun vs H1=>∃ a xs,vs=[.ref a]/\SqT K H1 a xs/\R (Itv K a xs.length) H1
theorem PX {X:Cx} {tg:Expr} {a:Expr} {ta:TA} {p pos:ZG} (hg:Gl X "reversed") (hm:X.mg "reversed" = none) (ha:PA X [a] ta) (hs:V4 [a] X.env=[(false,X7 a X.env)]:=by rfl) :
  PI X tg (.Call (.Name "reversed" p) [a] [] pos) (Ui X.K ta):=by
 intro pins s σ H R I h
 refine Call_ (iK I hg hm boot_reversed (Wq (thn (ha pos pins s σ H _ I h) fun us s1 ⟨vs,H1,I1,r1,q1⟩=>?_) hs rfl))
 obtain⟨c,xs,e,hx,q⟩:=q1
 subst e
 obtain⟨u1,rfl,ru1⟩:=vals1 r1
 cases ru1
 obtain⟨its,rv,tp,hz⟩:=I1.tuple hx
 have hl:=rv.length
 have hn:=vy
 have hsz:((its.toArray.size:Nat):Int) < 2 ^ 63:=by rw[U7,← hl]; lia
 refine Iz tp hsz ?_
 have g:RIt (s1.heap.push { cls:=.type "reversed",data:=.fields #[.ref c,.int ((its.toArray.size:Int) - 1) 0] }) s1.heap.objs.size c ((xs.length:Int) - 1 - ((0:Nat):Int)):=by
  have e:((xs.length:Int) - 1 - ((0:Nat):Int))=(its.toArray.size:Int) - 1:=by rw[U7,← hl]; lia
  rw[e]
  exact UT _ rfl
 refine zZ g ⟨s1.heap.objs.size,[s1.heap.objs.size],_,_,H1,rfl,I1.kept (t':=s1.toks+1+1) fun b o e=>Ux _ e,J0 c _ xs.length (by lia),g,fun b hb=>?_,q⟩
 have e:b=s1.heap.objs.size:=by simpa using hb
 subst e
 exact I1.Gd (U0 _) (I1.hok.fresh (U0 _))
theorem N5 {K:Vi} {a:Addr} {xs:List V} {g:TG} {tb:TS} {D:Ends} {σ:St} {H:Hp} (Pv:Nat->St->Hp->Prop) (h0:Pv 0 σ H) (hl:∀ i σ H,i<=xs.length->Pv i σ H->SqT K H a xs)
  (hs:∀ i x σ H,i < xs.length->xs[xs.length - 1 - i]? = some x->Pv i σ H->g x σ H fun σ2 H2=>tb { D with nx:=Pv (i+1),ct:=Pv (i+1),bk:=D.nx } σ2 H2) (hd:∀ σ H,Pv xs.length σ H->D.nx σ H) :
  ∃ W:Nat->Nat->St->Hp->Prop,(∃ m,W 0 m σ H)/\∀ i m σ H,W i m σ H →
   ((Itv K a xs.length).stop i H/\D.nx σ H)∨((Itv K a xs.length).go i H/\∃ N:St->Hp->Prop,(∀ σ' H',N σ' H'->∃ m',m' < m/\W (i+1) m' σ' H')/\∀ x H',(Itv K a xs.length).yld i H x H'->g x σ H' fun σ2 H2=>tb { D with nx:=N,ct:=N,bk:=D.nx } σ2 H2):=by
 refine⟨fun i m σ H=>m=xs.length - i/\i<=xs.length/\Pv i σ H,⟨xs.length,by simp,Vr _,h0⟩,?_⟩
 rintro i m σ H ⟨rfl,hi,p⟩
 have q1:=hl i σ H hi p
 by_cases hlt:i < xs.length
 ·refine .inr ⟨⟨hlt,xs,xs[xs.length - 1 - i],q1,rfl,UG (by lia)⟩,Pv (i+1),fun σ' H' p'=>⟨xs.length - (i+1),by lia,rfl,hlt,p'⟩,fun v H' y=>?_⟩
  obtain⟨rfl,hx⟩:=y
  exact hs i v σ _ hlt (hx xs q1) p
 ·have e:i=xs.length:=by lia
  subst e
  exact .inl ⟨rfl,hd σ H p⟩
end L2
namespace L2
open PySem PySem.Spec PyProof.Rows
section
variable {prog:Vp} {w:VP} {A:VR} {E:Value->Uz->Prop} {s:Uz}
theorem nH {h h':Wc} {a t:Addr} {its:Array Value} (ht:h.IsList t its) (sb:Xm a h h') (ne:t≠a):h'.IsList t its:=by
 obtain⟨o,e,r⟩:=ht
 exact⟨o,(sb.2 t ne).trans e,r⟩
theorem dj {h h':Wc} {a it t:Addr} {i:Nat} (ht:h.IsListIter it t i) (sb:Xm a h h') (ne:it≠a):h'.IsListIter it t i:=by
 obtain⟨o,e,r⟩:=ht
 exact⟨o,(sb.2 it ne).trans e,r⟩
theorem Mx {z p q i1 i2 l1 l2:Addr} {k:Nat} {xs ys:Array Value} {x y a b:Value} {Q:Option Value->Uz->Prop} (D:Zap z p q i1 i2 l1 l2)
  (hz:Xk s.heap z p q .none) (hp:WY s.heap p (.ref i1) (.ref i2)) (hq:WY s.heap q a b) (j1:s.heap.IsTupleIter i1 l1 k) (j2:s.heap.IsListIter i2 l2 k) (t1:s.heap.IsTuple l1 xs) (t2:s.heap.IsList l2 ys)
  (hx:xs[k]? = some x) (hy:ys[k]? = some y)
  (hQ:∀ h',Xk h' z p q (Wy s.heap.objs.size)->WY h' q x y->h'.IsTupleIter i1 l1 (k+1)->h'.IsListIter i2 l2 (k+1)->WY h' s.heap.objs.size x y->h'.objs.size=s.heap.objs.size+1 →
   (∀ c o,c≠z->c≠q->c≠i1->c≠i2->s.heap.get? c=some o->h'.get? c=some o)->Q (some (.ref s.heap.objs.size)) { s with heap:=h' }):U4 (Vk prog w) A (Xy (.ref z)) Q E s:=by
 have hT:s.TypeIs (.ref z) "zip":=⟨_,hz,rfl⟩; unfold Xy
 refine Uw (W6 (V0 (name:=WX "__next__") hT WW (V2 WW hT Za ?_ (YJ _))))
 show U4 _ _ (aan (.ref z) 2 >>= _) _ _ _; refine Uw (VD hz rfl (x:=.bool false) rfl ?_)
 show U4 _ _ (aan (.ref z) 3 >>= _) _ _ _; refine Uw (VD hz rfl (x:=.ref p) rfl ?_); refine Uw (VJ hp rfl ?_)
 show U4 _ _ (Vs (.ref z) >>= _) _ _ _; refine Uw ?_; unfold Vs
 refine Uw (VD hz rfl (x:=.none) rfl (UJ ?_)); simp only[if_true]; refine Uw (X4 ?_); refine Uw (VD hz rfl (x:=.ref q) rfl ?_)
 refine Uw (V5 hz (by simp) fun h1 z1 b1=>?_); replace z1:Xk h1 z p q .ellipsis:=z1
 refine Uw ?_; simp only[Ym,Zi,Xp,XD]; refine Uw (Uw (Xe ?_))
 show U4 _ _ (Vv (.ref i1) >>= _) _ _ _; refine Uw (jr (bV j1 b1 D.az) (du t1 b1 D.xz) hx fun h2 u1 b2=>UJ ?_)
 have q2:WY h2 q a b:=(b2.2 _ D.qa).trans ((b1.2 _ D.qz).trans hq); refine Uw (VJ q2 rfl ?_); refine Uw (Yc q2 fun h3 q3 b3=>?_)
 replace q3:WY h3 q x b:=q3; refine Uw (Xx (UJ ?_)); refine Uw (Uw (Xe ?_))
 show U4 _ _ (Vv (.ref i2) >>= _) _ _ _
 refine Uw (wpAny_nextOf_list_item (dj (dj (dj j2 b1 D.bz) b2 D.ab.symm) b3 D.qb.symm) (nH (nH (nH t2 b1 D.yz) b2 D.ya) b3 D.yq) hy fun h4 u2 b4=>UJ ?_)
 have q4:WY h4 q x b:=(b4.2 _ D.qb).trans q3; refine Uw (VJ q4 rfl ?_); refine Uw (Yc q4 fun h5 q5 b5=>?_)
 replace q5:WY h5 q x y:=q5; refine Uw (Xx (UJ (UJ ?_))); refine Uw (VJ q5 rfl ?_); refine Uw (aaa ?_)
 have sz:h5.objs.size=s.heap.objs.size:=by rw[b5.1,b4.1,b3.1,b2.1,b1.1]
 have z5:Xk h5 z p q .ellipsis:=(b5.2 _ D.qz.symm).trans ((b4.2 _ D.bz.symm).trans ((b3.2 _ D.qz.symm).trans ((b2.2 _ D.az.symm).trans z1)))
 have kp:∀ c o,c≠z->c≠q->c≠i1->c≠i2->s.heap.get? c=some o->h5.get? c=some o:=fun c o c1 c2 c3 c4 e=>(b5.2 c c2).trans ((b4.2 c c4).trans ((b3.2 c c2).trans ((b2.2 c c3).trans ((b1.2 c c1).trans e))))
 have u15:h5.IsTupleIter i1 l1 (k+1):=bV (bV (bV u1 b3 D.qa.symm) b4 D.ab) b5 D.qa.symm
 have u25:h5.IsListIter i2 l2 (k+1):=dj u2 b5 D.qb.symm
 have zl:z < h5.objs.size:=U6 z5
 show U4 _ _ (WD (.ref z) (.ref h5.objs.size) >>= _) _ _ _; refine Uw ?_; unfold WD
 have z6:Xk (h5.push { cls:=.type "tuple",data:=.seq #[x,y] }) z p q .ellipsis:=Ux _ z5
 refine Uw (V5 z6 (by simp) fun h7 z7 b7=>?_); replace z7:Xk h7 z p q (Wy h5.objs.size):=z7
 refine V5 z7 (by simp) fun h8 z8 b8=>?_; replace z8:Xk h8 z p q (Wy h5.objs.size):=z8
 have up:∀ c o,c≠z->h5.get? c=some o->h8.get? c=some o:=fun c o c1 e=>(b8.2 c c1).trans ((b7.2 c c1).trans (Ux _ e))
 have t8:WY h8 h5.objs.size x y:=(b8.2 _ (WM zl)).trans ((b7.2 _ (WM zl)).trans (UT _ rfl))
 have s8:h8.objs.size=h5.objs.size+1:=by rw[b8.1,b7.1,VL]
 rw[sz] at z8 t8 s8; refine UJ ⟨_,rfl,?_⟩
 show U4 _ _ _ _ _ _
 rw[sz]
 exact UJ (hQ h8 z8 (up _ _ D.qz q5) (by obtain⟨o,e,r⟩:=u15; exact⟨o,up _ o D.az e,r⟩) (by obtain⟨o,e,r⟩:=u25; exact⟨o,up _ o D.bz e,r⟩) t8 s8 fun c o c1 c2 c3 c4 e=>up c o c1 (kp c o c1 c2 c3 c4 e))
theorem Oc {z p q i1 i2 l1 l2:Addr} {k:Nat} {xs ys:Array Value} {a b:Value} {Q:Fin->Uz->Prop} (hh:A.handled=none) (D:Zap z p q i1 i2 l1 l2)
  (hz:Xk s.heap z p q .none) (hp:WY s.heap p (.ref i1) (.ref i2)) (hq:WY s.heap q a b) (j1:s.heap.IsTupleIter i1 l1 k) (j2:s.heap.IsListIter i2 l2 k) (t1:s.heap.IsTuple l1 xs) (t2:s.heap.IsList l2 ys)
  (hend:xs[k]? = none∨ys[k]? = none) (hE:∀ h' e,(∀ c o,c≠z->c≠q->c≠i1->c≠i2->s.heap.get? c=some o->h'.get? c=some o)->(∃ o,h'.get? e=some o/\o.cls = .type "StopIteration")->E (.ref e) { s with heap:=h' }) :
  U4 (Vk prog w) A (Builtin.«zip.__next__» ⟨[.ref z],[]⟩) Q E s:=by
 show U4 _ _ (aan (.ref z) 2 >>= _) _ _ _; refine Uw (VD hz rfl (x:=.bool false) rfl ?_)
 show U4 _ _ (aan (.ref z) 3 >>= _) _ _ _; refine Uw (VD hz rfl (x:=.ref p) rfl ?_); refine Uw (VJ hp rfl ?_)
 show U4 _ _ (Vs (.ref z) >>= _) _ _ _; refine Uw ?_; unfold Vs
 refine Uw (VD hz rfl (x:=.none) rfl (UJ ?_)); simp only[if_true]; refine Uw (X4 ?_); refine Uw (VD hz rfl (x:=.ref q) rfl ?_)
 refine Uw (V5 hz (by simp) fun h1 z1 b1=>?_); replace z1:Xk h1 z p q .ellipsis:=z1
 refine Uw ?_; simp only[Ym,Zi,Xp,XD]; refine Uw (Uw (Xe ?_))
 show U4 _ _ (Vv (.ref i1) >>= _) _ _ _
 cases hx:xs[k]? with
 | none =>
  refine Uw (Bl hh (bV j1 b1 D.az) (du t1 b1 D.xz) hx fun h2 e b2 he=>?_)
  obtain⟨oe,ho,hc⟩:=he
  have z2:Xk h2 z p q .ellipsis:=b2 _ _ D.az.symm z1
  have ez:e≠z:=fun u=>by subst u; rw[z2] at ho; cases ho; simp at hc
  exact V5 z2 (by simp) fun h3 _ b3=>hE h3 e (fun c o c1 _ c3 _ u=>(b3.2 c c1).trans (b2 _ _ c3 ((b1.2 c c1).trans u))) ⟨oe,(b3.2 e ez).trans ho,hc⟩
 | some x =>
  have hy:ys[k]? = none:=hend.elim (fun u=>by rw[hx] at u; cases u) id
  refine Uw (jr (bV j1 b1 D.az) (du t1 b1 D.xz) hx fun h2 u1 b2=>UJ ?_)
  have q2:WY h2 q a b:=(b2.2 _ D.qa).trans ((b1.2 _ D.qz).trans hq); refine Uw (VJ q2 rfl ?_); refine Uw (Yc q2 fun h3 q3 b3=>?_)
  refine Uw (Xx (UJ ?_)); refine Uw (Uw (Xe ?_)); show U4 _ _ (Vv (.ref i2) >>= _) _ _ _
  refine Uw (wpAny_nextOf_list_end hh (dj (dj (dj j2 b1 D.bz) b2 D.ab.symm) b3 D.qb.symm) (nH (nH (nH t2 b1 D.yz) b2 D.ya) b3 D.yq) hy fun h4 e b4 he=>?_)
  obtain⟨oe,ho,hc⟩:=he
  have z4:Xk h4 z p q .ellipsis:=b4 _ _ D.bz.symm ((b3.2 _ D.qz.symm).trans ((b2.2 _ D.az.symm).trans z1))
  have ez:e≠z:=fun u=>by subst u; rw[z4] at ho; cases ho; simp at hc
  exact V5 z4 (by simp) fun h5 _ b5=>hE h5 e (fun c o c1 c2 c3 c4 u=>(b5.2 c c1).trans (b4 _ _ c4 ((b3.2 c c2).trans ((b2.2 c c3).trans ((b1.2 c c1).trans u))))) ⟨oe,(b5.2 e ez).trans ho,hc⟩
theorem Qf {z p q i1 i2 l1 l2:Addr} {k:Nat} {xs ys:Array Value} {a b:Value} {Q:Option Value->Uz->Prop} (hh:A.handled=none) (D:Zap z p q i1 i2 l1 l2)
  (hz:Xk s.heap z p q .none) (hp:WY s.heap p (.ref i1) (.ref i2)) (hq:WY s.heap q a b) (j1:s.heap.IsTupleIter i1 l1 k) (j2:s.heap.IsListIter i2 l2 k) (t1:s.heap.IsTuple l1 xs) (t2:s.heap.IsList l2 ys)
  (hend:xs[k]? = none∨ys[k]? = none) (hQ:∀ h',(∀ c o,c≠z->c≠q->c≠i1->c≠i2->s.heap.get? c=some o->h'.get? c=some o)->Q none { s with heap:=h' }):U4 (Vk prog w) A (Xy (.ref z)) Q E s:=by
 have hT:s.TypeIs (.ref z) "zip":=⟨_,hz,rfl⟩; unfold Xy
 refine Uw (W6 (V0 (name:=WX "__next__") hT WW (V2 WW hT Za (Oc hh D hz hp hq j1 j2 t1 t2 hend fun h' e kp he=>?_) (YJ _))))
 obtain⟨o,ho,hc⟩:=he
 exact Uw (X3 (T:="StopIteration") (b:=true) ⟨o,ho,hc⟩ Zv (UJ (hQ _ kp)))
abbrev uB (h:Wc) (t:Addr):Wc:=h.push { cls:=.type "list_iterator",data:=.fields #[.ref t,.int 0 0] }
abbrev uC (h:Wc) (t u:Addr):Wc:=(uB (zA h t) u).push { cls:=.type "tuple",data:=.seq #[.ref h.objs.size,.ref (zA h t).objs.size] }
abbrev uD (h:Wc) (t u:Addr):Wc:=(uC h t u).push { cls:=.type "tuple",data:=.seq #[.none,.none] }
abbrev uE (h:Wc) (t u:Addr):Wc:=(uD h t u).push { cls:=.type "zip",data:=.fields #[.none,.bool false,.bool false,.ref (uB (zA h t) u).objs.size,.ref (uC h t u).objs.size] }
theorem Qn (l1 l2:Addr) (xs ys:Array Value) :
  aba (Builtin.«zip.__new__» ⟨[.type "zip",.ref l1,.ref l2],[]⟩) (fun _ R s=>s.heap.IsTuple l1 xs/\s.heap.IsList l2 ys/\R (.ok (.ret (.ref (uD s.heap l1 l2).objs.size))) { s with heap:=uE s.heap l1 l2 }) :=
 .of_wp fun prog w A R s h=>by
  obtain⟨hp,g,d,tk,os⟩:=s; obtain⟨a1,a2,h⟩:=h; have hsub:=sub_zip
  have T1:Z7 (Zu ⟨hp,g,d,tk,os⟩) l1 xs:=a1
  have T2:Heap.IsList (Zu ⟨hp.push { cls:=.type "tuple_iterator",data:=.fields #[.ref l1,.int 0 0] },g,d,tk,os⟩) l2 ys:=by
   obtain⟨o,e,r⟩:=a2
   exact⟨o,Ux _ e,r⟩
  wp_walk using Xq T1,Yd T2
  exact⟨_,rfl,h⟩
theorem O5 {l1 l2:Addr} {xs ys:Array Value} {Q:Value->Uz->Prop} (t1:s.heap.IsTuple l1 xs) (t2:s.heap.IsList l2 ys)
  (h:∀ h',Xk h' (s.heap.objs.size+4) (s.heap.objs.size+2) (s.heap.objs.size+3) .none->WY h' (s.heap.objs.size+2) (.ref s.heap.objs.size) (.ref (s.heap.objs.size+1))->WY h' (s.heap.objs.size+3) .none .none →
   h'.IsTupleIter s.heap.objs.size l1 0->h'.IsListIter (s.heap.objs.size+1) l2 0->(∀ c o,s.heap.get? c=some o->h'.get? c=some o)->Q (.ref (s.heap.objs.size+4)) { s with heap:=h' }) :
  U4 (Vk prog w) A (call (.type "zip") [.ref l1,.ref l2]) Q E s:=by
 refine aaE F.called_zip (by decide) (F.typeCall_zip_2 _ _) (F.newCall_zip_2 _ _) (fun obj=>F.args_object_init_3 obj _ _) abZ (Qn l1 l2 xs ys) ⟨t1,t2,?_⟩
 have y1:(zA s.heap l1).objs.size=s.heap.objs.size+1:=VL ..
 have y2:(uB (zA s.heap l1) l2).objs.size=s.heap.objs.size+2:=by rw[VL,y1]
 have y3:(uC s.heap l1 l2).objs.size=s.heap.objs.size+3:=by rw[VL,y2]
 have y4:(uD s.heap l1 l2).objs.size=s.heap.objs.size+4:=by rw[VL,y3]
 have w5:(uE s.heap l1 l2).get? (uD s.heap l1 l2).objs.size=some _:=UT _ rfl
 have w4:(uE s.heap l1 l2).get? (uC s.heap l1 l2).objs.size=some _:=Ux _ (UT _ rfl)
 have w3:(uE s.heap l1 l2).get? (uB (zA s.heap l1) l2).objs.size=some _:=Ux _ (Ux _ (UT _ rfl))
 have w2:(uE s.heap l1 l2).get? (zA s.heap l1).objs.size=some _:=Ux _ (Ux _ (Ux _ (UT _ rfl)))
 have w1:(uE s.heap l1 l2).get? s.heap.objs.size=some _:=Ux _ (Ux _ (Ux _ (Ux _ (UT _ rfl))))
 show _/\_
 rw[y2,y3,y4] at w5; rw[y1,y2] at w3; rw[y3] at w4; rw[y1] at w2; rw[y4]
 exact⟨⟨_,w5,rfl⟩,h _ w5 w3 w4 ⟨_,w1,rfl,rfl⟩ ⟨_,w2,rfl,rfl⟩ fun c o u=>Ux _ (Ux _ (Ux _ (Ux _ (Ux _ u))))⟩
end
def Itu (K : Vi) (a b : Addr) : It :=
  ⟨fun i H => ∃ xs ys x y, SqT K H a xs ∧ SqL K H b ys ∧ xs[i]? = some x ∧ ys[i]? = some y,
   fun i H v H' => ∃ p x y, H p = none ∧ v = .ref p ∧ (∀ xs, SqT K H a xs → xs[i]? = some x) ∧ (∀ ys, SqL K H b ys → ys[i]? = some y) ∧ H' = upd H p (.tup [x, y]),
   fun i H => ∃ xs ys, SqT K H a xs ∧ SqL K H b ys ∧ (xs.length ≤ i ∨ ys.length ≤ i)⟩
def tnU (z p q i1 i2 a b:Addr) (i:Nat) (h:Wc):Prop:=Xk h z p q .none/\WY h p (.ref i1) (.ref i2)/\(∃ u v,WY h q u v)/\h.IsTupleIter i1 a i/\h.IsListIter i2 b i
theorem J5 {P:Vp} {w:VP} {K:Vi} {elts:List Expr} {x1} {pos:ZG} {z p q i1 i2 a b:Addr} (D:Zap z p q i1 i2 a b) :
  Turn P w K (.Tuple elts x1 pos) (Itu K a b) [z,p,q,i1,i2] z (tnU z p q i1 i2 a b) where
 mem:=by simp
 obj:=fun i h st c hc=>by
  obtain⟨hz,hp,⟨u,v,hq⟩,⟨o1,e1,_,d1⟩,⟨o2,e2,_,d2⟩⟩:=st
  simp only[V3,Ws,or_false] at hc
  rcases hc with rfl | rfl | rfl | rfl | rfl
  ·exact⟨_,hz,fun v z=>by cases z⟩
  ·exact⟨_,hp,fun v z=>by cases z⟩
  ·exact⟨_,hq,fun v z=>by cases z⟩
  ·exact⟨_,e1,fun v z=>by rw[d1] at z; cases z⟩
  ·exact⟨_,e2,fun v z=>by rw[d2] at z; cases z⟩
 keep:=fun i h h' st k=>by
  obtain⟨hz,hp,⟨u,v,hq⟩,⟨o1,e1,r1⟩,⟨o2,e2,r2⟩⟩:=st
  exact⟨k z (by simp) _ hz,k p (by simp) _ hp,⟨u,v,k q (by simp) _ hq⟩,⟨o1,k i1 (by simp) _ e1,r1⟩,⟨o2,k i2 (by simp) _ e2,r2⟩⟩
 item:=by
  intro X hP hw hK hc i pins s σ H E I hf st hg
  subst hP hw hK
  obtain⟨xs,ys,x,y,hx,hy,ex,ey⟩:=hg
  obtain⟨hz,hp,⟨u,v,hq⟩,j1,j2⟩:=st
  obtain⟨its,rv,tp,_⟩:=I.tuple hx
  obtain⟨its2,rv2,tp2,_⟩:=I.list hy
  obtain⟨xu,hxu,rx⟩:=rv.get ex
  obtain⟨yu,hyu,ry⟩:=rv2.get ey
  refine Mx D hz hp hq j1 j2 (show s.heap.IsTuple a its.toArray from tp) (show s.heap.IsList b its2.toArray from tp2.isList) (x:=xu) (y:=yu) (by simpa using hxu) (by simpa using hyu) fun h' z' q' u1 u2 t' _ kp=>⟨_,rfl,?_⟩
  refine aag z' fun h2 z2 b2=>?_
  have lt:∀ {c o},s.heap.get? c=some o->c < s.heap.objs.size:=fun e=>U6 e
  have zne:s.heap.objs.size≠z:=WM (lt hz)
  have hfr:H s.heap.objs.size=none:=I.fresh
  have I1:Inv X pins σ (upd H s.heap.objs.size (.tup [x,y])) { s with heap:=s.heap.push { cls:=.type "tuple",data:=.seq #[xu,yu] } } :=
   I.laid (t':=s.toks) (fun _ _ e=>Ux _ e) (U0 _) ⟨by show 2<=sizeLine; decide,[xu,yu],.cons rx (.cons ry .nil),⟨_,UT _ rfl,rfl,_,rfl⟩⟩
  have blt:∀ c∈[z,p,q,i1,i2],c < s.heap.objs.size:=fun c hc=>by
   obtain⟨_,e1,_⟩:=j1
   obtain⟨_,e2,_⟩:=j2
   simp only[V3,Ws,or_false] at hc
   rcases hc with rfl | rfl | rfl | rfl | rfl
   ·exact lt hz
   ·exact lt hp
   ·exact lt hq
   ·exact lt e1
   ·exact lt e2
  have ff:∀ c∈[z,p,q,i1,i2],xf X pins (upd H s.heap.objs.size (.tup [x,y])) c:=fun c hc=>by
   obtain⟨f0,fr⟩:=hf c hc
   exact⟨by rw[bB (Vh (blt c hc))]; exact f0,fr⟩
  have kk:∀ c o,c ∉ [z,q,i1,i2]->(s.heap.push { cls:=.type "tuple",data:=.seq #[xu,yu] }).get? c=some o->h2.get? c=some o:=fun c o hc e=>by
   have c1:c≠z:=fun h=>hc (by simp [h])
   refine (b2.2 c c1).trans ?_
   rcases YW e with⟨ec,eo⟩ | e'
   ·subst ec
    subst eo
    exact t'
   ·exact kp c o c1 (fun h=>hc (by simp [h])) (fun h=>hc (by simp [h])) (fun h=>hc (by simp [h])) e'
  have I2:Inv X pins σ (upd H s.heap.objs.size (.tup [x,y])) { s with heap:=h2 } :=
   Inv.iy (s:={ s with heap:=s.heap.push { cls:=.type "tuple",data:=.seq #[xu,yu] } }) (h':=h2) (t':=s.toks) (ch:=[z,q,i1,i2]) I1 kk fun c hc=>ff c (by
    simp only[V3] at hc ⊢
    rcases hc with h | h | h | h
    ·exact .inl h
    ·exact .inr (.inr (.inl h))
    ·exact .inr (.inr (.inr (.inl h)))
    ·exact .inr (.inr (.inr (.inr h))))
  refine⟨.ref s.heap.objs.size,_,I2,rfl,⟨_,x,y,hfr,rfl,fun zs hzs=>?_,fun zs hzs=>?_,rfl⟩,⟨z2,(b2.2 _ D.pz).trans (kp _ _ D.pz D.pq D.pa D.pb hp),⟨_,_,(b2.2 _ D.qz).trans q'⟩,bV u1 b2 D.az,dj u2 b2 D.bz⟩,fun c hc=>(ff c hc).1⟩
  ·rw[I.fJ hzs hx]; exact ex
  ·rw[I.oW hzs hy]; exact ey
 done:=by
  intro X hP hw hK hc i pins s σ H E I hf st hg
  subst hP hw hK
  obtain⟨xs,ys,hx,hy,hend⟩:=hg
  obtain⟨hz,hp,⟨u,v,hq⟩,j1,j2⟩:=st
  obtain⟨its,rv,tp,_⟩:=I.tuple hx
  obtain⟨its2,rv2,tp2,_⟩:=I.list hy
  have l1:=rv.length
  have l2:=rv2.length
  refine Qf (I.ok.hd hc) D hz hp hq j1 j2 (show s.heap.IsTuple a its.toArray from tp) (show s.heap.IsList b its2.toArray from tp2.isList) (hend.imp (fun h=>by simp; lia) fun h=>by simp; lia) fun h' kp=>⟨rfl,?_⟩
  exact I.iy (t':=s.toks) (ch:=[z,q,i1,i2]) (fun c o hc e=>kp c o (fun h=>hc (by simp [h])) (fun h=>hc (by simp [h])) (fun h=>hc (by simp [h])) (fun h=>hc (by simp [h])) e)
   fun c hc=>hf c (by simp only[V3] at hc ⊢; rcases hc with h | h | h | h; exact .inl h; exact .inr (.inr (.inl h)); exact .inr (.inr (.inr (.inl h))); exact .inr (.inr (.inr (.inr h))))
 self:=fun _ _ _ _ _ st h=>Y0 st.1 h
def Ti (K:Vi) (ta:TA):TI:=fun σ H R=>ta σ H fun vs H1=>∃ a b xs ys,vs=[.ref a,.ref b]/\SqT K H1 a xs/\SqL K H1 b ys/\R (Itu K a b) H1
theorem Mm {X:Cx} {elts:List Expr} {x1} {tpos:ZG} {a b:Expr} {ta:TA} {p pos:ZG} (hg:Gl X "zip") (hm:X.mg "zip" = none) (ha:PA X [a,b] ta) (hs:V4 [a,b] X.env=[(false,X7 a X.env),(false,X7 b X.env)]:=by rfl) (hs2:V4 [b] X.env=[(false,X7 b X.env)]:=by rfl) :
  PI X (.Tuple elts x1 tpos) (.Call (.Name "zip" p) [a,b] [] pos) (Ti X.K ta):=by
 intro pins s σ H R I h
 refine Call_ (iK I hg hm boot_zip (Wq (thn (ha pos pins s σ H _ I h) fun us s1 ⟨vs,H1,I1,r1,q1⟩=>?_) (by rw[hs,hs2]) (by rw[hs2]; rfl)))
 obtain⟨c,d,xs,ys,e,hx,hy,q⟩:=q1
 subst e
 obtain⟨u1,u2,rfl,ru1,ru2⟩:=vals2 r1
 cases ru1
 cases ru2
 obtain⟨its,_,tp,_⟩:=I1.tuple hx
 obtain⟨its2,_,tp2,_⟩:=I1.list hy
 refine O5 (show s1.heap.IsTuple c its.toArray from tp) (show s1.heap.IsList d its2.toArray from tp2.isList) fun h' z' p' q' j1 j2 kp=>?_
 have lc:c < s1.heap.objs.size:=by obtain⟨o,e,_⟩:=tp; exact U6 e
 have ld:d < s1.heap.objs.size:=by obtain⟨o,e,_⟩:=tp2.isList; exact U6 e
 have D:Zap (s1.heap.objs.size+4) (s1.heap.objs.size+2) (s1.heap.objs.size+3) s1.heap.objs.size (s1.heap.objs.size+1) c d:=Eb lc ld
 refine Y0 z' ⟨_,_,_,_,H1,rfl,I1.kept (t':=s1.toks) kp,J5 D,⟨z',p',⟨_,_,q'⟩,j1,j2⟩,fun e he=>?_,q⟩
 have hle:s1.heap.objs.size<=e:=by
  simp only[V3,Ws,or_false] at he
  rcases he with rfl | rfl | rfl | rfl | rfl <;> lia
 exact I1.Gd hle (I1.hok.fresh hle)
theorem Am {K:Vi} {a b D:Addr} {xs ys:List V} {g:TG} {tt:TT} {te:TE} {H1:Hp} {Q:Hp->Prop} {σ0:St} (hlen:xs.length=ys.length) (Pv:Nat->List V->St->Hp->Prop) (h0:Pv 0 [] σ0 (upd H1 D (.lst [])))
  (hl:∀ i zs σ H,i<=xs.length->Pv i zs σ H->SqT K H a xs/\SqL K H b ys/\H D=some (.lst zs))
  (hs:∀ i zs x y p σ H,xs[i]? = some x->ys[i]? = some y->H p=none->Pv i zs σ H->g (.ref p) σ (upd H p (.tup [x,y])) fun σ3 H3=>tt σ3 H3 fun c H4=>if c=true then te σ3 H4 fun v H5=>H5 D=some (.lst zs)/\zs.length < sizeLine/\Pv (i+1) (zs++[v]) σ3 (upd H5 D (.lst (zs++[v]))) else Pv (i+1) zs σ3 H4)
  (hd:∀ zs σ H,Pv xs.length zs σ H->Q H):iz D σ0 (Itu K a b) g tt te H1 Q:=by
 refine⟨fun i m zs σ H=>m=xs.length - i/\i<=xs.length/\Pv i zs σ H,⟨xs.length,by simp,Vr _,h0⟩,?_⟩
 rintro i m zs σ H ⟨rfl,hi,p⟩
 obtain⟨q1,q2,qD⟩:=hl i zs σ H hi p
 refine⟨qD,?_⟩
 by_cases hlt:i < xs.length
 ·have hlt2:i < ys.length:=by lia
  refine .inr ⟨⟨xs,ys,xs[i],ys[i],q1,q2,by simp [hlt],by simp [hlt2]⟩,Pv (i+1),fun zs' σ' H' p'=>⟨xs.length - (i+1),by lia,rfl,hlt,p'⟩,fun v H' y=>?_⟩
  obtain⟨pp,x,y,hp,rfl,hx,hy,rfl⟩:=y
  exact hs i zs x y pp σ _ (hx xs q1) (hy ys q2) hp p
 ·have e:i=xs.length:=by lia
  subst e
  exact .inl ⟨⟨xs,ys,q1,q2,.inl (U0 _)⟩,hd zs σ H p⟩
end L2
namespace L2
open PySem PySem.Spec PyProof.Rows
def Itn (K : Vi) (a : Addr) : It :=
  ⟨fun i H => ∃ xs x, SqL K H a xs ∧ xs[i]? = some x,
   fun i H v H' => ∃ p x, H p = none ∧ v = .ref p ∧ (∀ xs, SqL K H a xs → xs[i]? = some x) ∧ H' = upd H p (.tup [.int (i : Int), x]),
   fun i H => ∃ xs, SqL K H a xs ∧ xs.length ≤ i⟩
def tnN (e it a:Addr) (i:Nat) (h:Wc):Prop:=(∃ old,IsEnum h e it (i:Int) old)/\h.IsListIter it a i
theorem GP {P:Vp} {w:VP} {K:Vi} {elts:List Expr} {x1} {pos:ZG} {e it a:Addr} (hne:e≠it) :
  Turn P w K (.Tuple elts x1 pos) (Itn K a) [e,it] e (tnN e it a) where
 mem:=by simp
 obj:=fun i h st c hc=>by
  obtain⟨⟨old,he⟩,⟨o,ho,_,d⟩⟩:=st
  simp only[V3,Ws,or_false] at hc
  rcases hc with rfl | rfl
  ·exact⟨_,he,fun v z=>by cases z⟩
  ·exact⟨_,ho,fun v z=>by rw[d] at z; cases z⟩
 keep:=fun i h h' st k=>by
  obtain⟨⟨old,he⟩,j⟩:=st
  exact⟨⟨old,k e (by simp) _ he⟩,j.at fun o q=>k it (by simp) o q⟩
 item:=by
  intro X hP hw hK hc i pins s σ H E I hf st hg
  subst hP hw hK
  obtain⟨xs,x,hx,ex⟩:=hg
  obtain⟨⟨old,he⟩,j⟩:=st
  obtain⟨its,rv,pl,_⟩:=I.list hx
  obtain⟨xu,hxu,rx⟩:=rv.get ex
  refine wpAny_pyNext_enum_item he j pl.isList (x:=xu) (by simpa using hxu) hne fun h' e1 j1 t1 z1 kp=>⟨_,rfl,?_⟩
  refine wpAny_letOwnedTupleGo_enum e1 fun h2 e2 b2=>?_
  have el:e < s.heap.objs.size:=U6 he
  have il:it < s.heap.objs.size:=by obtain⟨o,q,_⟩:=j; exact U6 q
  have I1:Inv X pins σ (upd H s.heap.objs.size (.tup [.int (i:Int),x])) { s with heap:=s.heap.push { cls:=.type "tuple",data:=.seq #[.int i s.toks,xu] },toks:=s.toks+1 } :=
   I.laid (t':=s.toks+1) (fun _ _ q=>Ux _ q) (U0 _) ⟨by show 2<=sizeLine; decide,[.int i s.toks,xu],.cons ⟨_,rfl⟩ (.cons rx .nil),⟨_,UT _ rfl,rfl,_,rfl⟩⟩
  have ff:∀ c∈[e,it],xf X pins (upd H s.heap.objs.size (.tup [.int (i:Int),x])) c:=fun c hc=>by
   obtain⟨f0,fr⟩:=hf c hc
   have cl:c < s.heap.objs.size:=by
    simp only[V3,Ws,or_false] at hc
    rcases hc with rfl | rfl
    ·exact el
    ·exact il
   exact⟨by rw[bB (Vh cl)]; exact f0,fr⟩
  have kk:∀ c o,c ∉ [e,it]->(s.heap.push { cls:=.type "tuple",data:=.seq #[.int i s.toks,xu] }).get? c=some o->h2.get? c=some o:=fun c o hc q=>by
   have c1:c≠e:=fun h=>hc (by simp [h])
   have c2:c≠it:=fun h=>hc (by simp [h])
   refine (b2.2 c c1).trans ?_
   rcases YW q with⟨ec,eo⟩ | q'
   ·subst ec
    subst eo
    exact t1
   ·exact kp c o c1 c2 q'
  have I2:Inv X pins σ (upd H s.heap.objs.size (.tup [.int (i:Int),x])) { s with heap:=h2,toks:=s.toks+1 } :=
   Inv.iy (s:={ s with heap:=s.heap.push { cls:=.type "tuple",data:=.seq #[.int i s.toks,xu] },toks:=s.toks+1 }) (h':=h2) (t':=s.toks+1) (ch:=[e,it]) I1 kk ff
  refine⟨.ref s.heap.objs.size,_,I2,rfl,⟨_,x,I.fresh,rfl,fun zs hzs=>?_,rfl⟩,⟨⟨_,e2⟩,j1.at fun o q=>(b2.2 it (YG hne)).trans q⟩,fun c hc=>(ff c hc).1⟩
  rw[I.oW hzs hx]; exact ex
 done:=by
  intro X hP hw hK hc i pins s σ H E I hf st hg
  subst hP hw hK
  obtain⟨xs,hx,hend⟩:=hg
  obtain⟨⟨old,he⟩,j⟩:=st
  obtain⟨its,rv,pl,_⟩:=I.list hx
  have l1:=rv.length
  refine wpAny_pyNext_enum_end (I.ok.hd hc) he j pl.isList (by simp; lia) fun h' eb=>⟨rfl,?_⟩
  exact I.iy (t':=s.toks) (ch:=[e,it]) (fun c o hc q=>eb c o (fun h=>hc (by simp [h])) q) hf
 self:=fun _ _ _ _ _ st h=>by
  obtain⟨⟨old,he⟩,_⟩:=st
  exact aal he h
def Su (K:Vi) (ta:TA):TI:=fun σ H R=>ta σ H fun vs H1=>∃ a xs,vs=[.ref a]/\H1 a=some (.lst xs)/\R (Itn K a) H1
theorem M7 {X:Cx} {elts:List Expr} {x1} {tpos:ZG} {a:Expr} {ta:TA} {p pos:ZG} (hg:Gl X "enumerate") (hm:X.mg "enumerate" = none) (ha:PA X [a] ta) (hs:V4 [a] X.env=[(false,X7 a X.env)]:=by rfl) :
  PI X (.Tuple elts x1 tpos) (.Call (.Name "enumerate" p) [a] [] pos) (Su X.K ta):=by
 intro pins s σ H R I h
 refine Call_ (iK I hg hm boot_enumerate (Wq (thn (ha pos pins s σ H _ I h) fun us s1 ⟨vs,H1,I1,r1,q1⟩=>?_) hs rfl))
 obtain⟨c,xs,e,hx,q⟩:=q1
 subst e
 obtain⟨u1,rfl,ru1⟩:=vals1 r1
 cases ru1
 obtain⟨z,its,n,rv,ho⟩:=I1.hok c _ hx
 refine call_enumerate_1 ho fun h' e1 j1 _ kp=>?_
 have en:s1.heap.objs.size+1≠s1.heap.objs.size:=WM (Xu _)
 refine aal e1 ⟨_,_,_,_,H1,rfl,I1.kept (t':=s1.toks) kp,GP (a:=c) en,⟨⟨_,e1⟩,j1⟩,fun b hb=>?_,q⟩
 have hle:s1.heap.objs.size<=b:=by
  simp only[V3,Ws,or_false] at hb
  rcases hb with rfl | rfl
  ·exact XX _
  ·exact U0 _
 exact I1.Gd hle (I1.hok.fresh hle)
theorem Ju {K:Vi} {a:Addr} {xs:List V} {g:TG} {tb:TS} {D:Ends} {σ:St} {H:Hp} (Pv:Nat->St->Hp->Prop) (h0:Pv 0 σ H) (hl:∀ i σ H,i<=xs.length->Pv i σ H->SqL K H a xs)
  (hs:∀ i x p σ H,xs[i]? = some x->H p=none->Pv i σ H->g (.ref p) σ (upd H p (.tup [.int (i:Int),x])) fun σ2 H2=>tb { D with nx:=Pv (i+1),ct:=Pv (i+1),bk:=D.nx } σ2 H2) (hd:∀ σ H,Pv xs.length σ H->D.nx σ H) :
  ∃ W:Nat->Nat->St->Hp->Prop,(∃ m,W 0 m σ H)/\∀ i m σ H,W i m σ H →
   ((Itn K a).stop i H/\D.nx σ H)∨((Itn K a).go i H/\∃ N:St->Hp->Prop,(∀ σ' H',N σ' H'->∃ m',m' < m/\W (i+1) m' σ' H')/\∀ x H',(Itn K a).yld i H x H'->g x σ H' fun σ2 H2=>tb { D with nx:=N,ct:=N,bk:=D.nx } σ2 H2):=by
 refine⟨fun i m σ H=>m=xs.length - i/\i<=xs.length/\Pv i σ H,⟨xs.length,by simp,Vr _,h0⟩,?_⟩
 rintro i m σ H ⟨rfl,hi,p⟩
 have q1:=hl i σ H hi p
 by_cases hlt:i < xs.length
 ·refine .inr ⟨⟨xs,xs[i],q1,by simp [hlt]⟩,Pv (i+1),fun σ' H' p'=>⟨xs.length - (i+1),by lia,rfl,hlt,p'⟩,fun v H' y=>?_⟩
  obtain⟨pp,x,hp,rfl,hx,rfl⟩:=y
  exact hs i x pp σ _ (hx xs q1) hp p
 ·have e:i=xs.length:=by lia
  subst e
  exact .inl ⟨⟨xs,q1,U0 _⟩,hd σ H p⟩
end L2
namespace L2
open PySem PySem.Spec PyProof.Rows
section
variable {X:Cx} {k:Nat}
def Nq (H:Hp) (a b:Addr):Prop:=∃ xs ys:List V,H a=some (.lst xs)/\H b=some (.lst ys)/\xs.length=ys.length/\∀ (i:Nat) (u v:V),xs[i]? = some u->ys[i]? = some v->∃ (c d:Addr) (rs:List Addr),u = .ref c/\v = .ref d/\H c=some (.lst (rs.map V.ref))/\H d=some (.lst (rs.map V.ref))
theorem pZ:∀ {rs:List Addr} {its:List Value},Vals (rs.map V.ref) its->its=rs.map Vy
 | [],_,.nil=>rfl
 | r::rs,_,.cons h t=>by
  rw[pZ (rs:=rs) t,Vw,show _=Vy r from h]
theorem twin_at {pins:List (Addr × Yh)} {s:Uz} {σ:St} {H:Hp} {a b:Addr} (I:Inv X pins σ H s) (hu:X.A.units+1 < cLine) (h:Nq H a b) :
  ∃ its its':Array Value,s.heap.IsList a its/\s.heap.IsList b its'/\its.size=its'.size/\∀ j (h1:j < its.size) (h2:j < its'.size),SeqAt.EqAt X.A.in1 s its[j] its'[j] true:=by
 obtain⟨xs,ys,ha,hb,hl,hp⟩:=h
 obtain⟨its,r1,p1,_⟩:=I.list (SqL.of ha)
 obtain⟨its',r2,p2,_⟩:=I.list (SqL.of hb)
 have l1:=r1.length
 have l2:=r2.length
 refine⟨its.toArray,its'.toArray,p1.isList,p2.isList,by simp; lia,fun j h1 h2=>?_⟩
 have h1:j < its.length:=by simpa using h1
 have h2:j < its'.length:=by simpa using h2
 have k1:j < xs.length:=by lia
 have k2:j < ys.length:=by lia
 obtain⟨c,d,rs,e1,e2,hc,hd⟩:=hp j xs[j] ys[j] (UG k1) (UG k2)
 obtain⟨u,hu1,ru⟩:=r1.get (UG k1)
 obtain⟨v,hv1,rv⟩:=r2.get (UG k2)
 rw[UG h1] at hu1
 rw[UG h2] at hv1
 rw[e1] at ru
 rw[e2] at rv
 rw[Xc,Xc,VF hu1,VF hv1,show u=Vy c from ru,show v=Vy d from rv]
 by_cases hcd:c=d
 ·rw[hcd]
  exact aaP _
 ·obtain⟨jts,q1,o1,_⟩:=I.list (SqL.of hc)
  obtain⟨jts',q2,o2,_⟩:=I.list (SqL.of hd)
  rw[pZ q1] at o1
  rw[pZ q2] at o2
  have r:=SeqAt.RcAt.lists (A:=X.A.in1) (e:=fun _=>true) o1.isList o2.isList rfl hu fun j h1 h2=>aaP _
  have et:∀ n:Nat,(Vb n).all (fun _=>true)=true:=fun n=>by simp
  rw[et] at r
  exact SeqAt.EqAt.of_refs hcd r
inductive Lg (x:V) (y:V) (H:Hp) (Q:VK):Prop where
 | mk (a b:Addr) (z0:x = .ref a) (z1:y = .ref b) (z2:Nq H a b) (z3:Q (.bl false) H):Lg  x y H Q
def QD:R2:=fun x y H Q=>Lg  x y H Q
theorem Ow (hr:nZ k X.A):OpR X (Xa .NotEq) QD:=by
 intro pins s σ H x y v u Q I rx ry h
 obtain⟨a,b,rfl,rfl,t,q⟩:=h
 cases rx
 cases ry
 have hu:=hr.units
 obtain⟨its,its',p,p',e1,ea⟩:=twin_at I (by lia) t
 have r:=SeqAt.RcNeAt.lists (e:=fun _=>true) p p' e1 hr.eQ ea
 have et:∀ n:Nat,(Vb n).all (fun _=>true)=true:=fun n=>by simp
 rw[et] at r
 exact r X.prog X.w X.xe _ ⟨.bl _,H,I,rfl,q⟩
inductive Lf (K:Vi) (x:V) (y:V) (H:Hp) (Q:VK):Prop where
 | mk (a b:Addr) (ns ms:List Int) (z0:x = .ref a) (z1:y = .ref b) (z2:SqT K H a (ns.map V.int)) (z3:SqT K H b (ms.map V.int)) (z4:Q (.bl (!decide (ns=ms))) H):Lf K x y H Q
def Cj (K:Vi):R2:=fun x y H Q=>Lf K x y H Q
theorem qm (hu:X.A.units < cLine):OpR X (Xa .NotEq) (Cj X.K):=by
 intro pins s σ H x y v u Q I rx ry h
 obtain⟨a,b,ns,ms,rfl,rfl,ha,hb,q⟩:=h
 cases rx
 cases ry
 obtain⟨its,r1,p1,_⟩:=I.tuple ha
 obtain⟨its2,r2,p2,_⟩:=I.tuple hb
 have i1:V8 its ns:=intsAre_of r1
 have i2:V8 its2 ms:=intsAre_of r2
 have l1:=i1.length
 have l2:=i2.length
 have r:=SeqAt.RcNeAt.tuples (e:=fun j=>ns.getD j 0 == ms.getD j 0) (show s.heap.IsTuple a its.toArray from p1) (show s.heap.IsTuple b its2.toArray from p2) hu fun j h1 h2=>by
  obtain⟨t,e1⟩:=ints_get i1 (j:=j) (by simpa using h1)
  obtain⟨t',e2⟩:=ints_get i2 (j:=j) (by simpa using h2)
  rw[Xc,Xc,e1,e2]
  exact aac _ _ _ _
 have e:=mD ns ms
 have s1:its.toArray.size=ns.length:=by rw[U7]; exact l1
 have s2:its2.toArray.size=ms.length:=by rw[U7]; exact l2
 rw[s1,s2,e] at r
 exact r X.prog X.w X.xe _ ⟨.bl _,H,I,rfl,q⟩
end
end L2
namespace L2
open PySem PySem.Spec PyProof.Rows
theorem uo {X:Cx} {tg l:Expr} {tl:TE} (K:Vi) (hK:X.K=K) (hl:PE X l tl):PI X tg l (Q0 K tl):=by
 subst hK
 exact dm hl
end L2
namespace L2
open PySem PySem.Spec PyProof.Rows
section
variable {prog:Vp} {w:VP} {A:VR} {E:Value->Uz->Prop} {s:Uz}
end
end L2
namespace L2
open PySem PySem.Spec PyProof.Rows
theorem Draws.Mh {prog:Vp} {w:VP} {A:VR} (hh:A.handled=none) (it l:Addr) (hne:l≠it) (items:Array Value) :
  Draws prog w A it [it,l] items.size (fun i v=>items[i]? = some v) (fun i h=>h.IsTupleIter it l i/\h.IsTuple l items) where
 live:=fun _ _ st=>let ⟨o,ho,_⟩:=st.1; ⟨o,ho⟩
 frame:=fun _ _ _ st hk=>by
  obtain⟨⟨o1,q1,r1⟩,⟨o2,q2,r2⟩⟩:=st
  exact⟨⟨o1,hk it (by simp) o1 q1,r1⟩,⟨o2,hk l (by simp) o2 q2,r2⟩⟩
 item:=fun i s Q E hi st hQ=>by
  refine jr st.1 st.2 (x:=items[i]) (by simp [hi]) fun h' j' sb=>?_
  exact hQ _ h' s.toks (by simp [hi]) ⟨j',du st.2 sb hne⟩ sb
 done:=fun s Q E st hE=>Bl hh st.1 st.2 (by simp) hE
theorem Jd (l:Addr) (xs:Array Value) :
  aba (Builtin.«enumerate.__new__» ⟨[.type "enumerate",.ref l],[]⟩) (fun _ R s=>s.heap.IsTuple l xs/\R (.ok (.ret (.ref (zA s.heap l).objs.size))) { s with heap:=(zA s.heap l).push { cls:=.type "enumerate",data:=.fields #[.none,.bool false,.ref s.heap.objs.size,Wy 0,.none,.none] } }) :=
 .of_wp fun prog w A R s h=>by
  obtain⟨hp,g,d,tk,os⟩:=s; obtain⟨hl,h⟩:=h
  have hsub:=sub_enumerate
  have hL:Z7 (Zu ⟨hp,g,d,tk,os⟩) l xs:=hl
  wp_walk
  refine wpAny_stack_any fun st=>UJ ?_
  split
  ·rename_i c _ _ _ _ _
   cases (c == Yr "enumerate") <;> (wp_walk using Xq hL; exact⟨_,rfl,h⟩)
  ·wp_walk using Xq hL
   exact⟨_,rfl,h⟩
theorem Dd {prog:Vp} {w:VP} {A:VR} {E:Value->Uz->Prop} {s:Uz} {l:Addr} {xs:Array Value} {Q:Value->Uz->Prop} (hl:s.heap.IsTuple l xs)
  (h:∀ h',IsEnum h' (s.heap.objs.size+1) s.heap.objs.size 0 .none->h'.IsTupleIter s.heap.objs.size l 0->(∀ b o,s.heap.get? b=some o->h'.get? b=some o)->Q (.ref (s.heap.objs.size+1)) { s with heap:=h' }) :
  U4 (Vk prog w) A (call (.type "enumerate") [.ref l]) Q E s:=by
 refine aaE F.called_enumerate (by decide) (F.typeCall_enumerate_1 _) (F.newCall_enumerate_1 _) (fun obj=>F.args_object_init_2 obj _) F.entry_enumerate_new (Jd l xs) ⟨hl,?_⟩
 have hz:(zA s.heap l).objs.size=s.heap.objs.size+1:=VL ..
 show _/\_
 have he:((zA s.heap l).push { cls:=.type "enumerate",data:=.fields #[.none,.bool false,.ref s.heap.objs.size,Wy 0,.none,.none] }).get? (zA s.heap l).objs.size=some _:=UT _ rfl
 rw[hz] at he ⊢
 exact⟨⟨_,he,rfl⟩,h _ he ⟨_,Ux _ (UT _ rfl),rfl,rfl⟩ fun b o x=>Ux _ (Ux _ x)⟩
def Itm (K : Vi) (a : Addr) : It :=
  ⟨fun i H => ∃ xs x, SqT K H a xs ∧ xs[i]? = some x,
   fun i H v H' => ∃ p x, H p = none ∧ v = .ref p ∧ (∀ xs, SqT K H a xs → xs[i]? = some x) ∧ H' = upd H p (.tup [.int (i : Int), x]),
   fun i H => ∃ xs, SqT K H a xs ∧ xs.length = i⟩
def tnM (e it a:Addr) (i:Nat) (h:Wc):Prop:=(∃ old,IsEnum h e it (i:Int) old)/\h.IsTupleIter it a i
theorem Dq {P:Vp} {w:VP} {K:Vi} {elts:List Expr} {x1} {pos:ZG} {e it a:Addr} (hne:e≠it) :
  Turn P w K (.Tuple elts x1 pos) (Itm K a) [e,it] e (tnM e it a) where
 mem:=by simp
 obj:=fun i h st c hc=>by
  obtain⟨⟨old,he⟩,⟨o,ho,_,d⟩⟩:=st
  simp only[V3,Ws,or_false] at hc
  rcases hc with rfl | rfl
  ·exact⟨_,he,fun v z=>by cases z⟩
  ·exact⟨_,ho,fun v z=>by rw[d] at z; cases z⟩
 keep:=fun i h h' st k=>by
  obtain⟨⟨old,he⟩,j⟩:=st
  exact⟨⟨old,k e (by simp) _ he⟩,j.at fun o q=>k it (by simp) o q⟩
 item:=by
  intro X hP hw hK hc i pins s σ H E I hf st hg
  subst hP hw hK
  obtain⟨xs,x,hx,ex⟩:=hg
  obtain⟨⟨old,he⟩,j⟩:=st
  obtain⟨its,rv,pl,_⟩:=I.tuple hx
  obtain⟨xu,hxu,rx⟩:=rv.get ex
  have tl:a≠it:=fun z=>by
   obtain⟨o1,q1,c1,_⟩:=j
   obtain⟨o2,q2,c2,_⟩:=(show s.heap.IsTuple a its.toArray from pl)
   rw[z,q1] at q2
   cases q2
   rw[c1] at c2
   injection c2 with z2
   exact absurd z2 (by decide)
  have te:a≠e:=fun z=>by
   obtain⟨o2,q2,c2,_⟩:=(show s.heap.IsTuple a its.toArray from pl)
   rw[z,he] at q2
   cases q2
   injection c2 with z2
   exact absurd z2 (by decide)
  have hin:i < its.toArray.size:=by
   have:=(List.getElem?_eq_some_iff.mp hxu).1
   simpa using this
  refine wpAny_pyNext_enum_itemD (Draws.Mh (A:=X.A.in1) (I.ok.hd hc) it a tl its.toArray) he ⟨j,show s.heap.IsTuple a its.toArray from pl⟩ hin hne (by simp [hne,te.symm]) fun x' h' tk hP e1 st1 t1 z1 kp=>⟨_,rfl,?_⟩
  obtain⟨j1,_⟩:=st1
  have ex':x'=xu:=by
   have hP':its.toArray[i]? = some x':=hP
   rw[show its.toArray[i]? = some xu by simpa using hxu] at hP'
   exact (VF hP').symm
  subst x'
  refine wpAny_letOwnedTupleGo_enum e1 fun h2 e2 b2=>?_
  have el:e < s.heap.objs.size:=U6 he
  have il:it < s.heap.objs.size:=by obtain⟨o,q,_⟩:=j; exact U6 q
  have I1:Inv X pins σ (upd H s.heap.objs.size (.tup [.int (i:Int),x])) { s with heap:=s.heap.push { cls:=.type "tuple",data:=.seq #[.int i tk,xu] },toks:=tk+1 } :=
   I.laid (t':=tk+1) (fun _ _ q=>Ux _ q) (U0 _) ⟨by show 2<=sizeLine; decide,[.int i tk,xu],.cons ⟨_,rfl⟩ (.cons rx .nil),⟨_,UT _ rfl,rfl,_,rfl⟩⟩
  have ff:∀ c∈[e,it],xf X pins (upd H s.heap.objs.size (.tup [.int (i:Int),x])) c:=fun c hc=>by
   obtain⟨f0,fr⟩:=hf c hc
   have cl:c < s.heap.objs.size:=by
    simp only[V3,Ws,or_false] at hc
    rcases hc with rfl | rfl
    ·exact el
    ·exact il
   exact⟨by rw[bB (Vh cl)]; exact f0,fr⟩
  have kk:∀ c o,c ∉ [e,it]->(s.heap.push { cls:=.type "tuple",data:=.seq #[.int i tk,xu] }).get? c=some o->h2.get? c=some o:=fun c o hc q=>by
   have c1:c≠e:=fun h=>hc (by simp [h])
   have c2:c≠it:=fun h=>hc (by simp [h])
   refine (b2.2 c c1).trans ?_
   rcases YW q with⟨ec,eo⟩ | q'
   ·subst ec
    subst eo
    exact t1
   ·exact kp c o c1 c2 q'
  have I2:Inv X pins σ (upd H s.heap.objs.size (.tup [.int (i:Int),x])) { s with heap:=h2,toks:=tk+1 } :=
   Inv.iy (s:={ s with heap:=s.heap.push { cls:=.type "tuple",data:=.seq #[.int i tk,xu] },toks:=tk+1 }) (h':=h2) (t':=tk+1) (ch:=[e,it]) I1 kk ff
  refine⟨.ref s.heap.objs.size,_,I2,rfl,⟨_,x,I.fresh,rfl,fun zs hzs=>?_,rfl⟩,⟨⟨_,e2⟩,j1.at fun o q=>(b2.2 it (YG hne)).trans q⟩,fun c hc=>(ff c hc).1⟩
  rw[I.fJ hzs hx]; exact ex
 done:=by
  intro X hP hw hK hc i pins s σ H E I hf st hg
  subst hP hw hK
  obtain⟨xs,hx,hend⟩:=hg
  obtain⟨⟨old,he⟩,j⟩:=st
  obtain⟨its,rv,pl,_⟩:=I.tuple hx
  have l1:=rv.length
  have tl:a≠it:=fun z=>by
   obtain⟨o1,q1,c1,_⟩:=j
   obtain⟨o2,q2,c2,_⟩:=(show s.heap.IsTuple a its.toArray from pl)
   rw[z,q1] at q2
   cases q2
   rw[c1] at c2
   injection c2 with z2
   exact absurd z2 (by decide)
  have hin:i=its.toArray.size:=by
   rw[U7]
   lia
  refine wpAny_pyNext_enum_endD (Draws.Mh (A:=X.A.in1) (I.ok.hd hc) it a tl its.toArray) he ⟨by rw[← hin]; exact j,show s.heap.IsTuple a its.toArray from pl⟩ fun h' eb=>⟨rfl,?_⟩
  exact I.iy (t':=s.toks) (ch:=[e,it]) (fun c o hc q=>eb c o (fun h=>hc (by simp [h])) q) hf
 self:=fun _ _ _ _ _ st h=>by
  obtain⟨⟨old,he⟩,_⟩:=st
  exact aal he h
def Qj (K:Vi) (ta:TA):TI:=fun σ H R=>ta σ H fun vs H1=>∃ a xs,vs=[.ref a]/\SqT K H1 a xs/\R (Itm K a) H1
theorem zG {X:Cx} {elts:List Expr} {x1} {tpos:ZG} {a:Expr} {ta:TA} {p pos:ZG} (hg:Gl X "enumerate") (hm:X.mg "enumerate" = none) (ha:PA X [a] ta) (hs:V4 [a] X.env=[(false,X7 a X.env)]:=by rfl) :
  PI X (.Tuple elts x1 tpos) (.Call (.Name "enumerate" p) [a] [] pos) (Qj X.K ta):=by
 intro pins s σ H R I h
 refine Call_ (iK I hg hm boot_enumerate (Wq (thn (ha pos pins s σ H _ I h) fun us s1 ⟨vs,H1,I1,r1,q1⟩=>?_) hs rfl))
 obtain⟨c,xs,e,hx,q⟩:=q1
 subst e
 obtain⟨u1,rfl,ru1⟩:=vals1 r1
 cases ru1
 obtain⟨its,rv,tp,_⟩:=I1.tuple hx
 refine Dd (show s1.heap.IsTuple c its.toArray from tp) fun h' e1 j1 kp=>?_
 have en:s1.heap.objs.size+1≠s1.heap.objs.size:=WM (Xu _)
 refine aal e1 ⟨_,_,_,_,H1,rfl,I1.kept (t':=s1.toks) kp,Dq (a:=c) en,⟨⟨_,e1⟩,j1⟩,fun b hb=>?_,q⟩
 have hle:s1.heap.objs.size<=b:=by
  simp only[V3,Ws,or_false] at hb
  rcases hb with rfl | rfl
  ·exact XX _
  ·exact U0 _
 exact I1.Gd hle (I1.hok.fresh hle)
theorem rA {K:Vi} {a D:Addr} {xs:List V} {g:TG} {tt:TT} {te:TE} {H1:Hp} {Q:Hp->Prop} {σ0:St} (Pv:Nat->List V->St->Hp->Prop) (h0:Pv 0 [] σ0 (upd H1 D (.lst [])))
  (hl:∀ i zs σ H,i<=xs.length->Pv i zs σ H->SqT K H a xs/\H D=some (.lst zs))
  (hs:∀ i zs x p σ H,xs[i]? = some x->H p=none->Pv i zs σ H->g (.ref p) σ (upd H p (.tup [.int (i:Int),x])) fun σ3 H3=>tt σ3 H3 fun c H4=>if c=true then te σ3 H4 fun v H5=>H5 D=some (.lst zs)/\zs.length < sizeLine/\Pv (i+1) (zs++[v]) σ3 (upd H5 D (.lst (zs++[v]))) else Pv (i+1) zs σ3 H4)
  (hd:∀ zs σ H,Pv xs.length zs σ H->Q H):iz D σ0 (Itm K a) g tt te H1 Q:=by
 refine⟨fun i m zs σ H=>m=xs.length - i/\i<=xs.length/\Pv i zs σ H,⟨xs.length,by simp,Vr _,h0⟩,?_⟩
 rintro i m zs σ H ⟨rfl,hi,p⟩
 obtain⟨q1,qD⟩:=hl i zs σ H hi p
 refine⟨qD,?_⟩
 by_cases hlt:i < xs.length
 ·refine .inr ⟨⟨xs,xs[i],q1,by simp [hlt]⟩,Pv (i+1),fun zs' σ' H' p'=>⟨xs.length - (i+1),by lia,rfl,hlt,p'⟩,fun v H' y=>?_⟩
  obtain⟨pp,x,hp,rfl,hx,rfl⟩:=y
  exact hs i zs x pp σ _ (hx xs q1) hp p
 ·have e:i=xs.length:=by lia
  subst e
  exact .inl ⟨⟨xs,q1,rfl⟩,hd zs σ H p⟩
end L2
namespace L2
open PySem PySem.Spec PyProof.Rows
section
variable {X:Cx}
end
end L2
namespace L2
open PySem PySem.Spec PyProof.Rows
end L2
namespace L2
open PySem PySem.Spec PyProof.Rows
section
variable {X:Cx}
end
end L2
namespace L2
open PySem PySem.Spec PyProof.Rows
section
variable {prog:Vp} {w:VP} {A:VR} {R:abg->Uz->Prop} {s:Uz} {elt t0 i0 t1 i1:Expr} {scope:Zx} {pos:ZG} {it acc:Value} {env:Env}
end
section
variable {X:Cx} {elt t0 i0 t1 i1:Expr} {scope:Zx} {pos:ZG} {L F:List Wz} {cap:List Nat} {wi wi1:TI} {g g1:TG} {te:TE}
end
end L2
namespace L2
open PySem PySem.Spec PyProof.Rows
section
variable {X:Cx}
end
end L2
namespace L2
open PySem PySem.Spec PyProof.Rows
end L2
namespace L2
open PySem PySem.Spec PyProof.Rows
section
variable {prog:Vp} {w:VP} {A:VR} {E:Value->Uz->Prop} {s:Uz}
end
section
variable {X:Cx}
end
end L2
namespace L2
open PySem PySem.Spec PyProof.Rows
section
variable {X:Cx} {elt t0 i0 t1 i1:Expr} {scope:Zx} {pos:ZG} {L F:List Wz} {cap:List Nat} {wi wi1:TI} {g g1:TG} {te:TE}
end
end L2
namespace L2
open PySem PySem.Spec PyProof.Rows
section
variable {X:Cx} {tg:Expr}
end
end L2
namespace L2
open PySem PySem.Spec PyProof.Rows
section
variable {X:Cx} {elt tg iter:Expr} {ifs:List Expr} {scope:Zx} {pos:ZG} {x0:Wz} {L F:List Wz} {cap:List Nat} {wi:TI} {g:TG} {tt:TT} {te:TE}
end
end L2
namespace L2
open PySem PySem.Spec PyProof.Rows
end L2
namespace L2
open PySem PySem.Spec PyProof.Rows
section
variable {X:Cx}
end
end L2
namespace L2
open PySem PySem.Spec PyProof.Rows
section
variable {X:Cx}
end
end L2
namespace L2
open PySem PySem.Spec PyProof.Rows
section
variable {prog:Vp} {w:VP} {A:VR} {R:abg->Uz->Prop} {E:Value->Uz->Prop} {s:Uz}
end
section
variable {X:Cx} {k:Nat}
end
end L2
namespace L2
open PySem PySem.Spec PyProof.Rows PySem.W
section
variable {prog:Vp} {w:VP} {A:VR} {E:Value->Uz->Prop} {κ:Yg} {it:Array Keyed} {s:Uz}
end
theorem yO:∀ (l:List (Addr × List Int)) (us:List Value),Vals (l.map fun p=>V.ref p.1) us->us=l.map fun p=>Vy p.1
 | [],_,z=>by cases z; rfl
 | p::l,_,z=>by
  cases z with
  | cons e t =>
   cases e
   rw[yO l _ t]
   rfl
section
variable {X:Cx}
end
end L2
namespace L2
open PySem PySem.Spec PyProof.Rows
section
variable {X:Cx} {k:Nat}
end
end L2
namespace L2
open PySem PySem.Spec PyProof.Rows
end L2
namespace L2
open PySem PySem.Spec PyProof.Rows
section
variable {prog:Vp} {w:VP} {A:VR} {R:abg->Uz->Prop} {E:Value->Uz->Prop} {s:Uz}
end
section
variable {X:Cx}
end
end L2
namespace L2
open PySem PySem.W PyProof.Rows
structure Srt where
 a:List Nat
 pend:Array (Nat × Nat × Nat)
 gal:Nat
def Srt.ok (_:Srt):Bool:=true
abbrev oG:=StateT Srt Option
def im (it:Array Keyed) (l:List Nat):Array Keyed:=(l.map (Ye it)).toArray
def Srt.st (κ:Yg) (it:Array Keyed) (ps:Srt):Xr:=YM κ (im it ps.a) ps.pend ps.gal none
section
variable (prog:Vp) (w:VP) (A:VR) (E:Value->Uz->Prop) (κ:Yg) (it:Array Keyed) (s:Uz)
def Sim {α α':Type} (f:α'->α) (m:StateT Xr Sem α) (m':oG α'):Prop:=∀ (ps:Srt) (a:α') (ps':Srt),m'.run ps=some (a,ps')->∀ Q:α->Xr->Uz->Prop,Q (f a) (ps'.st κ it) s->kasC (Vk prog w) A E m Q (ps.st κ it) s
end
section
variable {prog:Vp} {w:VP} {A:VR} {E:Value->Uz->Prop} {κ:Yg} {it:Array Keyed} {s:Uz}
theorem aZ {α α' β β':Type} {f:α'->α} {g:β'->β} {m:StateT Xr Sem α} {m':oG α'} {k:α->StateT Xr Sem β} {k':α'->oG β'} (h1:Sim prog w A E κ it s f m m') (h2:∀ a,Sim prog w A E κ it s g (k (f a)) (k' a)):Sim prog w A E κ it s g (m >>= k) (m' >>= k'):=by
 intro ps b ps' e Q q
 rw[StateT.run_bind] at e
 cases e1:m'.run ps with
 | none=>rw[e1] at e; cases e
 | some r =>
  obtain⟨a,ps1⟩:=r
  rw[e1] at e
  exact kasC_bind (h1 ps a ps1 e1 _ (h2 a ps1 b ps' e Q q))
theorem aU {α α':Type} {f:α'->α} {a:α'} {b:α} (h:b=f a):Sim prog w A E κ it s f (pure b) (pure a):=by
 intro ps c ps' e Q q
 subst h
 rw[aaO] at e
 cases e
 exact kasC_pure q
theorem jl:Sim prog w A E κ it s (Srt.st κ it) (get:StateT Xr Sem Xr) (get:oG Srt):=by
 intro ps c ps' e Q q
 rw[StateT.run_get] at e
 cases e
 exact kasC_get q
theorem sZ {u:Xr->Xr} {u':Srt->Srt} (h:∀ ps,u (ps.st κ it)=(u' ps).st κ it):Sim prog w A E κ it s id (modify u:StateT Xr Sem PUnit) (modify u':oG PUnit):=by
 intro ps c ps' e Q q
 rw[StateT.run_modify] at e
 cases e
 refine kasC_modify ?_
 rw[h]
 exact q
def RT (c:Srt->Bool) (u:Srt->Srt):oG PUnit:=fun ps=>if c ps=true then some ((),u ps) else none
theorem Bf {c:Srt->Bool} {u:Xr->Xr} {u':Srt->Srt} (h:∀ ps,c ps=true->u (ps.st κ it)=(u' ps).st κ it):Sim prog w A E κ it s id (modify u:StateT Xr Sem PUnit) (RT c u'):=by
 intro ps x ps' e Q q
 have e':(if c ps=true then some ((),u' ps) else none)=some (x,ps'):=e
 by_cases hc:c ps=true
 ·rw[if_pos hc] at e'
  cases e'
  refine kasC_modify ?_
  rw[h ps hc]
  exact q
 ·rw[if_neg hc] at e'
  cases e'
theorem Oi {v:Xr} {v':Srt} (h:v=v'.st κ it):Sim prog w A E κ it s id (set v:StateT Xr Sem PUnit) (set v':oG PUnit):=by
 intro ps c ps' e Q q
 rw[StateT.run_set] at e
 cases e
 unfold kasC
 rw[StateT.run_set,h]
 exact UJ q
theorem J7 {r:String}:Sim prog w A E κ it s id (liftM (rule r):StateT Xr Sem Unit) (pure ()):=by
 intro ps c ps' e Q q
 rw[aaO] at e
 cases e
 exact kasC_lift (X4 q)
theorem cW {α α':Type} {f:α'->α} {c:Prop} [Decidable c] {t e:StateT Xr Sem α} {t' e':oG α'} (h1:c->Sim prog w A E κ it s f t t') (h2:¬ c->Sim prog w A E κ it s f e e'):Sim prog w A E κ it s f (if c then t else e) (if c then t' else e'):=by
 by_cases h:c
 ·rw[if_pos h,if_pos h]
  exact h1 h
 ·rw[if_neg h,if_neg h]
  exact h2 h
def yN {β β':Type} (f:β'->β):ForInStep β'->ForInStep β
 | .done b=>.done (f b)
 | .yield b=>.yield (f b)
theorem Bq {β β':Type} {f:β'->β} {body:Nat->β->StateT Xr Sem (ForInStep β)} {body':Nat->β'->oG (ForInStep β')} (h:∀ x b,Sim prog w A E κ it s (yN f) (body x (f b)) (body' x b)) :
  ∀ (l:List Nat) (b:β'),Sim prog w A E κ it s f (forIn l (f b) body) (forIn l b body')
 | [],b=>by
  rw[XD,XD]
  exact aU rfl
 | x::l,b=>by
  rw[Xp,Xp]
  refine aZ (h x b) fun r=>?_
  cases r with
  | done b'=>exact aU rfl
  | yield b'=>exact Bq h l b'
theorem fM {β β':Type} {f:β'->β} {b0:β} {n m:Nat} {body:Nat->β->StateT Xr Sem (ForInStep β)} {body':Nat->β'->oG (ForInStep β')} {b:β'} (e:b0=f b) (h:∀ x b,Sim prog w A E κ it s (yN f) (body x (f b)) (body' x b)) :
  Sim prog w A E κ it s f (forIn [n:m] b0 body) (forIn (XC n (m - n)) b body'):=by
 subst e
 intro ps a ps' e Q q
 exact kasC_range (Bq h _ _ ps a ps' e Q q)
def LM {ρ ρ' β β':Type} (fr:ρ'->ρ) (fb:β'->β) (x:Option ρ' × β'):Option ρ × β:=(x.1.map fr,fb x.2)
theorem gR {ρ ρ' β β' γ γ':Type} {fr:ρ'->ρ} {fb:β'->β} {g:γ'->γ} {m:StateT Xr Sem (Option ρ × β)} {m':oG (Option ρ' × β')} {k:Option ρ × β->StateT Xr Sem γ} {k':Option ρ' × β'->oG γ'}
  (h1:Sim prog w A E κ it s (LM fr fb) m m') (hs:∀ r b,Sim prog w A E κ it s g (k (some (fr r),fb b)) (k' (some r,b))) (hn:∀ b,Sim prog w A E κ it s g (k (none,fb b)) (k' (none,b))):Sim prog w A E κ it s g (m >>= k) (m' >>= k') :=
 aZ h1 fun x=>match x with
  | (some r,b)=>hs r b
  | (none,b)=>hn b
end
def mK:Bool->Keyed->Array Keyed->Nat->Nat->Nat->StateT Xr Sem (Option Nat):=sortPriv% PySem.Builtin.gallop
def fY:Nat->StateT Xr Sem Unit:=sortPriv% PySem.Builtin.setMinGallop
def tU:Array Keyed->Array Keyed->StateT Xr Sem (Array Keyed):=sortPriv% PySem.Builtin.mergeLo
def JC:Array Keyed->Array Keyed->StateT Xr Sem (Array Keyed):=sortPriv% PySem.Builtin.mergeHi
theorem ou (g:Nat):fY g=modify fun st=>YM (kindOf st) (aao st) (aa3 st) g (failedOf st):=rfl
theorem Dh (left:Bool) (key:Keyed) (arr:Array Keyed) (base n hint:Nat):mK left key arr base n hint=(do
 let beyond (i:Nat):StateT Xr Sem (Option Bool):=do
  let x ← aaN arr (base+i)
  if left then lt' x key else return (← lt' key x).map (!·)
 let mut lastofs:=0
 let mut ofs:=1
 let mut lo:=0
 let mut hi:=0
 let some right ← beyond hint | return none
 if right then
  let maxofs:=n - hint
  for _ in [0:n] do
   if ofs ≥ maxofs then break
   let some more ← beyond (hint+ofs) | return none
   if !more then break
   lastofs:=ofs
   ofs:=2 * ofs+1
  lo:=hint+lastofs+1
  hi:=hint+min ofs maxofs
 else
  let maxofs:=hint+1
  for _ in [0:n] do
   if ofs ≥ maxofs then break
   let some found ← beyond (hint - ofs) | return none
   if found then break
   lastofs:=ofs
   ofs:=2 * ofs+1
  lo:=hint+1 - min ofs maxofs
  hi:=hint - lastofs
 for _ in [0:n] do
  if lo ≥ hi then break
  let m:=lo+(hi - lo) / 2
  let some more ← beyond m | return none
  if more then lo:=m+1 else hi:=m
 return some hi):=rfl
section
variable (o:Nat->Nat->Bool) (N:Nat)
def jo (arr:List Nat) (i:Nat):oG Nat:=match arr[i]? with
 | some p=>pure p
 | none=>failure
def ltP (x y:Nat):oG (Option Bool):=if x < N/\y < N then pure (some (o x y)) else failure
def m7 (left:Bool) (key:Nat) (arr:List Nat) (base n hint:Nat):oG (Option Nat):=do
 let beyond (i:Nat):oG (Option Bool):=do
  let x ← jo arr (base+i)
  if left then ltP o N x key else return (← ltP o N key x).map (!·)
 let mut lastofs:=0
 let mut ofs:=1
 let mut lo:=0
 let mut hi:=0
 let some right ← beyond hint | return none
 if right then
  let maxofs:=n - hint
  for _ in XC 0 (n - 0) do
   if ofs ≥ maxofs then break
   let some more ← beyond (hint+ofs) | return none
   if !more then break
   lastofs:=ofs
   ofs:=2 * ofs+1
  lo:=hint+lastofs+1
  hi:=hint+min ofs maxofs
 else
  let maxofs:=hint+1
  for _ in XC 0 (n - 0) do
   if ofs ≥ maxofs then break
   let some found ← beyond (hint - ofs) | return none
   if found then break
   lastofs:=ofs
   ofs:=2 * ofs+1
  lo:=hint+1 - min ofs maxofs
  hi:=hint - lastofs
 for _ in XC 0 (n - 0) do
  if lo ≥ hi then break
  let m:=lo+(hi - lo) / 2
  let some more ← beyond m | return none
  if more then lo:=m+1 else hi:=m
 return some hi
end
section
variable {prog:Vp} {w:VP} {A:VR} {E:Value->Uz->Prop} {κ:Yg} {it:Array Keyed} {s:Uz} {o:Nat->Nat->Bool} {N:Nat}
theorem jK {arr:List Nat} {i:Nat}:Sim prog w A E κ it s (Ye it) (aaN (im it arr) i) (jo arr i):=by
 unfold jo im
 rw[elem'_eq,ZJ,Vj]
 cases arr[i]? with
 | none=>intro ps a ps' e; cases e
 | some p=>exact aU rfl
theorem Bv (hO:∀ i j,i < N->j < N->∀ C:Bool->Uz->Prop,C (o i j) s->Z4 prog w A κ it i j C s) {x y:Nat}:Sim prog w A E κ it s id (lt' (Ye it x) (Ye it y)) (ltP o N x y):=by
 unfold ltP
 by_cases h:x < N/\y < N
 ·rw[if_pos h]
  intro ps a ps' e Q q
  rw[aaO] at e
  cases e
  rw[lt'_eq]
  refine kasC_bind (kasC_get ?_)
  refine kasC_bind (kasC_lift (W6 (Xj (hO x y h.1 h.2 (fun c s'=>c=o x y/\s'=s) ⟨rfl,rfl⟩) (fun c s' hc=>?_) fun _ _ hF=>hF.elim)))
  obtain⟨rfl,rfl⟩:=hc
  exact kasC_pure q
 ·rw[if_neg h]
  intro ps a ps' e
  cases e
theorem nA (hO:∀ i j,i < N->j < N->∀ C:Bool->Uz->Prop,C (o i j) s->Z4 prog w A κ it i j C s) {left:Bool} {key:Nat} {arr:List Nat} {base n hint:Nat} :
  Sim prog w A E κ it s id (mK left (Ye it key) (im it arr) base n hint) (m7 o N left key arr base n hint):=by
 rw[Dh]
 unfold m7
 have hb:∀ i,Sim prog w A E κ it s id (do
   let x ← aaN (im it arr) (base+i)
   if left then lt' x (Ye it key) else return (← lt' (Ye it key) x).map (!·)) (do
   let x ← jo arr (base+i)
   if left then ltP o N x key else return (← ltP o N key x).map (!·)):=fun i=>by
  refine aZ jK fun a=>cW (fun _=>Bv hO) fun _=>aZ (Bv hO) fun b=>aU rfl
 dsimp only
 repeat' first
  | exact aU rfl
  | (refine aZ (hb _) fun a=>?_; rcases a with _ | a <;> dsimp only [id])
  | (refine gR (fr:=id) (fb:=id) (fM rfl fun x b=>?_) (fun r b=>?_) fun b=>?_ <;> dsimp only [id,LM])
  | (refine cW (fun _=>?_) fun _=>?_)
end
theorem yf (a b:Array Keyed):tU a b=(do
 rule "list.sort.merge-lo"
 let total:=a.size+b.size
 let done (out:Array Keyed) (ia ib:Nat):=out++a.extract ia a.size++b.extract ib b.size
 let lastOfA (out:Array Keyed) (ia ib:Nat):=out++b.extract ib b.size++a.extract ia a.size
 let mut out:Array Keyed:=#[← aaN b 0]
 let mut ia:=0
 let mut ib:=1
 if ib == b.size then return done out ia ib
 if ia+1 == a.size then return lastOfA out ia ib
 let mut minGallop:=gallopOf (← get)
 for _ in [0:total] do
  let mut acount:=0
  let mut bcount:=0
  for _ in [0:total] do
   let some bWins ← lt' (← aaN b ib) (← aaN a ia) | return done out ia ib
   if bWins then
    out:=out.push (← aaN b ib); ib:=ib+1; bcount:=bcount+1; acount:=0
    if ib == b.size then return done out ia ib
    if bcount ≥ minGallop then break
   else
    out:=out.push (← aaN a ia); ia:=ia+1; acount:=acount+1; bcount:=0
    if ia+1 == a.size then return lastOfA out ia ib
    if acount ≥ minGallop then break
  rule "list.sort.gallop"
  minGallop:=minGallop+1
  for _ in [0:total] do
   if minGallop > 1 then minGallop:=minGallop - 1
   fY minGallop
   let some k ← mK false (← aaN b ib) a ia (a.size - ia) 0 | return done out ia ib
   acount:=k
   if k > 0 then
    out:=out++a.extract ia (ia+k); ia:=ia+k
    if ia+1 == a.size then return lastOfA out ia ib
    if ia == a.size then return done out ia ib
   out:=out.push (← aaN b ib); ib:=ib+1
   if ib == b.size then return done out ia ib
   let some k ← mK true (← aaN a ia) b ib (b.size - ib) 0 | return done out ia ib
   bcount:=k
   if k > 0 then
    out:=out++b.extract ib (ib+k); ib:=ib+k
    if ib == b.size then return done out ia ib
   out:=out.push (← aaN a ia); ia:=ia+1
   if ia+1 == a.size then return lastOfA out ia ib
   if acount < 7 && bcount < 7 then break
  minGallop:=minGallop+1
  fY minGallop
 abQ "internal:list.sort.merge-bound"):=rfl
def Pj (g:Nat):oG Unit:=modify fun ps=>{ ps with gal:=g }
def Jx (_:String):oG Unit:=pure ()
def tZ (o:Nat->Nat->Bool) (N:Nat) (a b:List Nat):oG (List Nat):=do
 Jx "list.sort.merge-lo"
 let total:=a.length+b.length
 let done (out:List Nat) (ia ib:Nat):=out++a.extract ia a.length++b.extract ib b.length
 let lastOfA (out:List Nat) (ia ib:Nat):=out++b.extract ib b.length++a.extract ia a.length
 let mut out:List Nat:=[← jo b 0]
 let mut ia:=0
 let mut ib:=1
 if ib == b.length then return done out ia ib
 if ia+1 == a.length then return lastOfA out ia ib
 let mut minGallop:=(← get).gal
 for _ in XC 0 (total - 0) do
  let mut acount:=0
  let mut bcount:=0
  for _ in XC 0 (total - 0) do
   let some bWins ← ltP o N (← jo b ib) (← jo a ia) | return done out ia ib
   if bWins then
    out:=out++[← jo b ib]; ib:=ib+1; bcount:=bcount+1; acount:=0
    if ib == b.length then return done out ia ib
    if bcount ≥ minGallop then break
   else
    out:=out++[← jo a ia]; ia:=ia+1; acount:=acount+1; bcount:=0
    if ia+1 == a.length then return lastOfA out ia ib
    if acount ≥ minGallop then break
  Jx "list.sort.gallop"
  minGallop:=minGallop+1
  for _ in XC 0 (total - 0) do
   if minGallop > 1 then minGallop:=minGallop - 1
   Pj minGallop
   let some k ← m7 o N false (← jo b ib) a ia (a.length - ia) 0 | return done out ia ib
   acount:=k
   if k > 0 then
    out:=out++a.extract ia (ia+k); ia:=ia+k
    if ia+1 == a.length then return lastOfA out ia ib
    if ia == a.length then return done out ia ib
   out:=out++[← jo b ib]; ib:=ib+1
   if ib == b.length then return done out ia ib
   let some k ← m7 o N true (← jo a ia) b ib (b.length - ib) 0 | return done out ia ib
   bcount:=k
   if k > 0 then
    out:=out++b.extract ib (ib+k); ib:=ib+k
    if ib == b.length then return done out ia ib
   out:=out++[← jo a ia]; ia:=ia+1
   if ia+1 == a.length then return lastOfA out ia ib
   if acount < 7 && bcount < 7 then break
  minGallop:=minGallop+1
  Pj minGallop
 failure
section
variable {prog:Vp} {w:VP} {A:VR} {E:Value->Uz->Prop} {κ:Yg} {it:Array Keyed} {s:Uz} {o:Nat->Nat->Bool} {N:Nat}
def FB {β:Type} (it:Array Keyed) (x:List Nat × β):Array Keyed × β:=(im it x.1,x.2)
theorem jF (it:Array Keyed) (l:List Nat) (a b:Nat):(im it l).extract a b=im it (l.extract a b):=by simp [im,List.extract]
theorem xX (it:Array Keyed) (l:List Nat):(im it l).size=l.length:=by simp [im]
theorem uR {r:String}:Sim prog w A E κ it s id (liftM (rule r):StateT Xr Sem Unit) (Jx r):=J7
theorem KH {g:Nat}:Sim prog w A E κ it s id (fY g) (Pj g):=by
 rw[ou]
 exact sZ fun ps=>rfl
theorem jD {α α':Type} {f:α'->α} {m:StateT Xr Sem α}:Sim prog w A E κ it s f m failure:=by
 intro ps a ps' e
 cases e
theorem yM (hO:∀ i j,i < N->j < N->∀ C:Bool->Uz->Prop,C (o i j) s->Z4 prog w A κ it i j C s) {a b:List Nat} :
  Sim prog w A E κ it s (im it) (tU (im it a) (im it b)) (tZ o N a b):=by
 rw[yf]
 unfold tZ
 dsimp only
 simp only[xX]
 repeat' first
  | (with_reducible refine aU ?_); (first | rfl | (simp [yN,LM,FB,im,List.extract]; done) | (rw[jF,jF]; simp [im]; done))
  | with_reducible exact jD
  | with_reducible refine cW (fun _=>?_) fun _=>?_
  | with_reducible refine aZ jK fun a=>?_
  | with_reducible refine aZ KH fun _=>?_
  | with_reducible refine aZ uR fun _=>?_
  | with_reducible refine aZ jl fun _=>?_
  | (with_reducible refine aZ (Bv hO) fun a=>?_); rcases a with _ | a <;> dsimp only [id]
  | (with_reducible refine aZ (nA hO) fun a=>?_); rcases a with _ | a <;> dsimp only [id]
  | (with_reducible refine gR (fr:=im it) (fb:=FB it) (fM ?_ fun x b=>?_) (fun r b=>?_) fun b=>?_) <;> (first | rfl | simp [LM,FB,Srt.st,im]; done | dsimp only [LM,FB])
end
theorem yU (i:Nat):mergeAt' i=(do
 let s ← get
 let (some (sa,na,power),some (sb,nb,_)):=((aa3 s)[i]?,(aa3 s)[i+1]?) | abQ "internal:list.sort.pending"
 set (setPending s (((aa3 s).setIfInBounds i (sa,na+nb,power)).eraseIdxIfInBounds (i+1)))
 let some k ← mK false (← aaN (aao s) sb) (aao s) sa na 0 | return false
 let (sa,na):=(sa+k,na - k)
 if na == 0 then return true
 let some nb ← mK true (← aaN (aao s) (sa+na - 1)) (aao s) sb nb (nb - 1) | return false
 if nb == 0 then return true
 let x:=(aao s).extract sa sb
 let y:=(aao s).extract sb (sb+nb)
 let merged ← if na<=nb then tU x y else JC x y
 modify fun s=>setArr s (merged.toList.zipIdx.foldl (fun a (p,j)=>a.setIfInBounds (sa+j) p) (aao s))
 return (failedOf (← get)).isNone):=rfl
def oV (o:Nat->Nat->Bool) (N:Nat) (i:Nat):oG Bool:=do
 let s ← get
 let (some (sa,na,power),some (sb,nb,_)):=(s.pend[i]?,s.pend[i+1]?) | failure
 set ({ s with pend:=((s.pend.setIfInBounds i (sa,na+nb,power)).eraseIdxIfInBounds (i+1)) }:Srt)
 let some k ← m7 o N false (← jo s.a sb) s.a sa na 0 | return false
 let (sa,na):=(sa+k,na - k)
 if na == 0 then return true
 let some nb ← m7 o N true (← jo s.a (sa+na - 1)) s.a sb nb (nb - 1) | return false
 if nb == 0 then return true
 let x:=s.a.extract sa sb
 let y:=s.a.extract sb (sb+nb)
 let merged ← if na<=nb then tZ o N x y else failure
 RT (fun s=>Nat.ble (sa+merged.length) s.a.length) fun s=>{ s with a:=s.a.take sa++(merged++s.a.drop (sa+merged.length)) }
 return (← get).ok
section
variable {prog:Vp} {w:VP} {A:VR} {E:Value->Uz->Prop} {κ:Yg} {it:Array Keyed} {s:Uz} {o:Nat->Nat->Bool} {N:Nat}
def Fe (a:List Nat) (src dst:Nat):List Nat:=a.take dst++((a.drop src).take 1++((a.drop dst).take (src - dst)++a.drop (src+1)))
theorem KZ (c:Nat):∀ (l:List Keyed) (n:Nat) (p:List Keyed),c+n+l.length<=p.length->Zr (fun (a:Array Keyed) (x:Keyed × Nat)=>a.setIfInBounds (c+x.snd) x.fst) p.toArray (l.zipIdx n)=(p.take (c+n)++(l++p.drop (c+n+l.length))).toArray
 | [],n,p,h=>by simp
 | x::l,n,p,h=>by
  rw[Vd] at h
  rw[Ym,Wi]
  show Zr _ ((p.toArray).setIfInBounds (c+n) x) (l.zipIdx (n+1))=_
  rw[List.setIfInBounds_toArray,KZ c l (n+1) (p.set (c+n) x) (by rw[abX]; lia)]
  congr 1
  have e1:(p.set (c+n) x).take (c+(n+1))=p.take (c+n)++[x]:=by
   rw[show c+(n+1)=c+n+1 by lia,Vz,List.take_set_of_le (U0 _),ZC (by lia)]
   rfl
  rw[e1,List.drop_set_of_lt (by lia),show c+(n+1)+l.length=c+n+(x::l).length by rw[Vd]; lia]
  simp
theorem MT (it:Array Keyed) (m:List Nat) (c:Nat) (p:List Nat) (h:c+m.length<=p.length):Zr (fun (a:Array Keyed) (x:Keyed × Nat)=>a.setIfInBounds (c+x.snd) x.fst) (im it p) (im it m).toList.zipIdx=im it (p.take c++(m++p.drop (c+m.length))):=by
 have:=KZ c (m.map (Ye it)) 0 (p.map (Ye it)) (by simp; lia)
 unfold im
 rw[show ((m.map (Ye it)).toArray).toList=m.map (Ye it) from rfl,this]
 simp
theorem NQ (it:Array Keyed) {p:List Nat} {i j:Nat} (h1:j<=i) (h2:i < p.length):bubble (im it p) i (i - j)=im it (Fe p i j):=by
 have hs:i < (im it p).size:=by rw[xX]; exact h2
 apply Array.ext_getElem?
 intro k
 rw[getElem?_bubble hs (i - j) (by lia) k,show i - (i - j)=j by lia]
 have g:∀ k:Nat,(im it p)[k]? = (p[k]?).map (Ye it):=fun k=>by simp [im]
 have g2:(im it (Fe p i j))[k]? = ((Fe p i j)[k]?).map (Ye it):=by simp [im]
 rw[g2,g,g,g]
 have lj:(p.take j).length=j:=by rw[Vc]; lia
 have l1:((p.drop i).take 1).length=1:=by rw[Vc,Xv]; lia
 have l2:((p.drop j).take (i - j)).length=i - j:=by rw[Vc,Xv]; lia
 unfold Fe
 by_cases c1:k=j
 ·subst c1
  rw[if_pos rfl,Wf (by lia),lj,abw,W0 (by lia),Zd (by lia),abj,Nat.add_zero]
 ·rw[if_neg c1]
  by_cases c2:j < k/\k<=i
  ·rw[if_pos c2,Wf (by lia),lj,Wf (by lia),l1,W0 (by lia),Zd (by lia),abj,show j+(k - j - 1)=k - 1 by lia]
  ·rw[if_neg c2]
   by_cases c3:k < j
   ·rw[W0 (by lia),Zd c3]
   ·rw[Wf (by lia),lj,Wf (by lia),l1,Wf (by lia),l2,abj,show i+1+(k - j - 1 - (i - j))=k by lia]
theorem pQ (hO:∀ i j,i < N->j < N->∀ C:Bool->Uz->Prop,C (o i j) s->Z4 prog w A κ it i j C s) {i:Nat}:Sim prog w A E κ it s id (mergeAt' i) (oV o N i):=by
 rw[yU]
 unfold oV
 dsimp only
 refine aZ jl fun ps=>?_
 rw[show aa3 (Srt.st κ it ps)=ps.pend from rfl,show aao (Srt.st κ it ps)=im it ps.a from rfl]
 rcases ps.pend[i]? with _ | ⟨sa,na,pw⟩
 ·exact jD
 rcases ps.pend[i+1]? with _ | ⟨sb,nb,pw'⟩
 ·exact jD
 dsimp only
 refine aZ (Oi rfl) fun _=>aZ jK fun x=>aZ (nA hO) fun k=>?_
 rcases k with _ | k <;> dsimp only [id]
 ·exact aU rfl
 refine cW (fun _=>aU rfl) fun _=>?_
 refine aZ jK fun x=>aZ (nA hO) fun k2=>?_
 rcases k2 with _ | nb2 <;> dsimp only [id]
 ·exact aU rfl
 refine cW (fun _=>aU rfl) fun _=>?_
 refine cW (fun _=>?_) fun _=>jD
 rw[jF,jF]
 refine aZ (yM hO) fun m=>?_
 refine aZ (Bf fun ps hc=>?_) fun _=>aZ jl fun _=>aU rfl
 show YM κ _ _ _ none=YM κ _ _ _ none
 congr 1
 exact MT it _ _ _ (aaS hc)
def El (o:Nat->Nat->Bool) (N i j:Nat):oG (Option Bool):=do
 let a:=(← get).a
 ltP o N (← jo a i) (← jo a j)
def Ql (src dst:Nat):oG Unit:=RT (fun ps=>Nat.ble dst src && Zz src ps.a.length) fun ps=>{ ps with a:=Fe ps.a src dst }
def countP (o:Nat->Nat->Bool) (N lo nrem:Nat):oG (Option Nat):=do
 let mut n:=1
 for _ in XC 1 (nrem - 1) do
  let some smaller ← El o N (lo+n) (lo+n - 1) | return none
  if smaller then break
  n:=n+1
 if n == nrem then return some n
 if n > 1 then
  let some rose ← El o N lo (lo+n - 1) | return none
  if rose then return some n else failure
 else failure
def RQ (o:Nat->Nat->Bool) (N lo n ok:Nat):oG Bool:=do
 for k in XC (max ok 1) (n - max ok 1) do
  let mut l:=0
  let mut r:=k
  for _ in XC 0 (k - 0) do
   if l ≥ r then break
   let m:=(l+r) / 2
   let some less ← El o N (lo+k) (lo+m) | return false
   if less then r:=m else l:=m+1
  Ql (lo+k) (lo+l)
 return true
def my (o:Nat->Nat->Bool) (N:Nat):oG Unit:=do
 let size:=(← get).a.length
 let minrun:=minRun' size size 0
 let mut lo:=0
 for _ in XC 0 (size - 0) do
  if lo ≥ size then break
  let some found ← countP o N lo (size - lo) | return
  let mut n:=found
  if n < minrun then
   Jx "list.sort.binary-insertion"
   let force:=min (size - lo) minrun
   if !(← RQ o N lo force n) then return
   n:=force
  if let some (s1,n1,_):=(← get).pend.back? then
   let pw:=power' size (2 * s1+n1) (2 * s1+n1+n1+n) size
   for _ in XC 0 (size - 0) do
    let p:=(← get).pend
    let some (_,_,older):=(if p.size > 1 then p[p.size - 2]? else none) | break
    if older<=pw then break
    if !(← oV o N (p.size - 2)) then return
   modify fun s=>{ s with pend:=s.pend.modify (s.pend.size - 1) fun (st,len,_)=>(st,len,pw) }
  modify fun s=>{ s with pend:=s.pend.push (lo,n,0) }
  lo:=lo+n
 for _ in XC 0 (size - 0) do
  let p:=(← get).pend
  if p.size<=1 then break
  let i:=p.size - 2
  let before:=if i > 0 then p[i - 1]?.map (·.2.1) else none
  let i:=if before.any (· < (p[i+1]?.elim 0 (·.2.1))) then i - 1 else i
  if !(← oV o N i) then return
theorem sX (hO:∀ i j,i < N->j < N->∀ C:Bool->Uz->Prop,C (o i j) s->Z4 prog w A κ it i j C s) {i j:Nat}:Sim prog w A E κ it s id (ltAt' i j) (El o N i j):=by
 rw[ltAt'_eq]
 unfold El
 dsimp only
 refine aZ jl fun ps=>?_
 rw[show aao (Srt.st κ it ps)=im it ps.a from rfl]
 exact aZ jK fun _=>aZ jK fun _=>Bv hO
theorem J4 {i j:Nat}:Sim prog w A E κ it s id (moveDown' i j) (Ql i j):=by
 rw[moveDown'_eq]
 refine Bf fun ps hc=>?_
 show YM κ _ _ _ none=YM κ _ _ _ none
 congr 1
 obtain⟨h1,h2⟩:=Bool.and_eq_true_iff.mp hc
 exact NQ it (aaS h1) (aaS h2)
theorem HR (hO:∀ i j,i < N->j < N->∀ C:Bool->Uz->Prop,C (o i j) s->Z4 prog w A κ it i j C s) {lo nrem:Nat}:Sim prog w A E κ it s id (countRun' lo nrem) (countP o N lo nrem):=by
 rw[countRun'_eq]
 unfold countP
 dsimp only
 refine gR (fr:=id) (fb:=id) (fM rfl fun x b=>?_) (fun r b=>?_) fun b=>?_
 ·refine aZ (sX hO) fun a=>?_
  rcases a with _ | a <;> dsimp only [id]
  ·exact aU rfl
  ·exact cW (fun _=>aU rfl) fun _=>aU rfl
 ·exact aU rfl
 ·dsimp only [id]
  refine cW (fun _=>aU rfl) fun _=>cW (fun _=>?_) fun _=>jD
  refine aZ (sX hO) fun a=>?_
  rcases a with _ | a <;> dsimp only [id]
  ·exact aU rfl
  ·exact cW (fun _=>aU rfl) fun _=>jD
theorem Ou (hO:∀ i j,i < N->j < N->∀ C:Bool->Uz->Prop,C (o i j) s->Z4 prog w A κ it i j C s) {lo n ok:Nat}:Sim prog w A E κ it s id (binarySort' lo n ok) (RQ o N lo n ok):=by
 rw[binarySort'_eq]
 unfold RQ
 dsimp only
 refine gR (fr:=id) (fb:=id) (fM rfl fun x b=>?_) (fun r b=>?_) fun b=>?_
 ·refine gR (fr:=id) (fb:=id) (fM rfl fun x b=>?_) (fun r b=>?_) fun b=>?_
  ·dsimp only [LM,id]
   refine cW (fun _=>aU rfl) fun _=>aZ (sX hO) fun a=>?_
   rcases a with _ | a <;> dsimp only [id]
   ·exact aU rfl
   ·exact cW (fun _=>aU rfl) fun _=>aU rfl
  ·exact aU rfl
  ·exact aZ J4 fun _=>aU rfl
 ·exact aU rfl
 ·exact aU rfl
theorem JP (hO:∀ i j,i < N->j < N->∀ C:Bool->Uz->Prop,C (o i j) s->Z4 prog w A κ it i j C s):Sim prog w A E κ it s id sortRuns' (my o N):=by
 rw[sortRuns'_eq]
 unfold my
 dsimp only
 refine aZ jl fun ps=>?_
 rw[show (aao (Srt.st κ it ps)).size=ps.a.length from xX it ps.a]
 have pd:∀ q:Srt,aa3 (Srt.st κ it q)=q.pend:=fun q=>rfl
 refine gR (fr:=id) (fb:=id) (fM rfl fun x b=>?_) (fun r b=>?_) fun b=>?_
 ·dsimp only [LM,id]
  refine cW (fun _=>aU rfl) fun _=>?_
  refine aZ (HR hO) fun a=>?_
  rcases a with _ | a <;> dsimp only [id]
  ·exact aU rfl
  refine cW (fun _=>aZ uR fun _=>aZ (Ou hO) fun ok=>cW (fun _=>aU rfl) fun _=>?_) fun _=>?_
  all_goals
   refine aZ jl fun q=>?_
   rw[pd]
   rcases q.pend.back? with _ | ⟨s1,n1,_⟩ <;> dsimp only
   ·exact aZ (sZ fun q=>rfl) fun _=>aU rfl
   refine gR (fr:=id) (fb:=id) (fM rfl fun x b=>?_) (fun r b=>?_) fun b=>?_
   ·refine aZ jl fun q=>?_
    rw[pd]
    generalize (if q.pend.size > 1 then q.pend[q.pend.size - 2]? else none)=z
    rcases z with _ | ⟨_,_,older⟩ <;> dsimp only
    ·exact aU rfl
    ·exact cW (fun _=>aU rfl) fun _=>aZ (pQ hO) fun ok=>cW (fun _=>aU rfl) fun _=>aU rfl
   ·exact aU rfl
   ·exact aZ (sZ fun q=>rfl) fun _=>aZ (sZ fun q=>rfl) fun _=>aU rfl
 ·exact aU rfl
 ·refine gR (fr:=id) (fb:=id) (fM rfl fun x b=>?_) (fun r b=>?_) fun b=>?_
  ·refine aZ jl fun q=>?_
   rw[pd]
   exact cW (fun _=>aU rfl) fun _=>aZ (pQ hO) fun ok=>cW (fun _=>aU rfl) fun _=>aU rfl
  ·exact aU rfl
  ·exact aU rfl
theorem Ce {n:Nat} {p:List Nat} {Q:Unit->Xr->Uz->Prop} (hO:∀ i j,i < n->j < n->∀ C:Bool->Uz->Prop,C (o i j) s->Z4 prog w A κ it i j C s)
  (e:(((my o n).run ⟨Vb n,#[],7⟩).map fun r=>r.2.a)=some p) (hG:∀ st',aao st'=im it p->failedOf st'=none->Q () st' s):kasC (Vk prog w) A E sortRuns' Q (YM κ (im it (Vb n)) #[] 7 none) s:=by
 cases e1:(my o n).run ⟨Vb n,#[],7⟩with
 | none=>rw[e1] at e; cases e
 | some r =>
  obtain⟨u,ps'⟩:=r
  rw[e1] at e
  have e2:ps'.a=p:=VF e
  subst e2
  exact JP hO ⟨Vb n,#[],7⟩ u ps' e1 Q (hG _ rfl rfl)
end
def bx:Nat->List (List Nat)
 | 0=>[[]]
 | n+1=>bx n++(bx n).map (·++[n])
def Rz:List Nat->List Nat->Bool
 | [],[]=>false
 | [],_::_=>true
 | _::_,[]=>false
 | a::l,b::r=>if a=b then Rz l r else decide (a < b)
def RG (a b:List Nat):Bool:=if a.length=b.length then Rz a b else decide (a.length < b.length)
def crO (n i j:Nat):Bool:=RG ((bx n).getD i []) ((bx n).getD j [])
def crR:Nat->List Nat
 | 1=>[0,1]
 | 2=>[0,1,2,3]
 | 3=>[0,1,2,4,3,5,6,7]
 | 4=>[0,1,2,5,3,6,8,11,4,7,9,12,10,13,14,15]
 | 5=>[0,1,2,6,3,7,10,16,4,8,11,17,13,19,22,26,5,9,12,18,14,20,23,27,15,21,24,28,25,29,30,31]
 | 6=>[0,1,2,7,3,8,12,22,4,9,13,23,16,26,32,42,5,10,14,24,17,27,33,43,19,29,35,45,38,48,52,57,6,11,15,25,18,28,34,44,20,30,36,46,39,49,53,58,21,31,37,47,40,50,54,59,41,51,55,60,56,61,62,63]
 | _=>[]
def crS:Nat->List Nat
 | 1=>[0,1]
 | 2=>[0,1,2,3]
 | 3=>[0,1,2,4,3,5,6,7]
 | 4=>[0,1,2,4,8,3,5,9,6,10,12,7,11,13,14,15]
 | 5=>[0,1,2,4,8,16,3,5,9,17,6,10,18,12,20,24,7,11,19,13,21,25,14,22,26,28,15,23,27,29,30,31]
 | 6=>[0,1,2,4,8,16,32,3,5,9,17,33,6,10,18,34,12,20,36,24,40,48,7,11,19,35,13,21,37,25,41,49,14,22,38,26,42,50,28,44,52,56,15,23,39,27,43,51,29,45,53,57,30,46,54,58,60,31,47,55,59,61,62,63]
 | _=>[]
theorem TX:(((my (fun i j=>Zz ((crR 1).getD i 0) ((crR 1).getD j 0)) 2).run ⟨Vb 2,#[],7⟩).map fun r=>r.2.a)=some (crS 1):=by decide+kernel
theorem Uq:∀ i < 2,∀ j < 2,crO 1 i j=Zz ((crR 1).getD i 0) ((crR 1).getD j 0):=by decide+kernel
theorem Tw:(((my (fun i j=>Zz ((crR 2).getD i 0) ((crR 2).getD j 0)) 4).run ⟨Vb 4,#[],7⟩).map fun r=>r.2.a)=some (crS 2):=by decide+kernel
theorem TF:∀ i < 4,∀ j < 4,crO 2 i j=Zz ((crR 2).getD i 0) ((crR 2).getD j 0):=by decide+kernel
theorem Ug:(((my (fun i j=>Zz ((crR 3).getD i 0) ((crR 3).getD j 0)) 8).run ⟨Vb 8,#[],7⟩).map fun r=>r.2.a)=some (crS 3):=by decide+kernel
theorem Us:∀ i < 8,∀ j < 8,crO 3 i j=Zz ((crR 3).getD i 0) ((crR 3).getD j 0):=by decide+kernel
theorem TJ:(((my (fun i j=>Zz ((crR 4).getD i 0) ((crR 4).getD j 0)) 16).run ⟨Vb 16,#[],7⟩).map fun r=>r.2.a)=some (crS 4):=by decide+kernel
theorem Tq:∀ i < 16,∀ j < 16,crO 4 i j=Zz ((crR 4).getD i 0) ((crR 4).getD j 0):=by decide+kernel
theorem Tr:(((my (fun i j=>Zz ((crR 5).getD i 0) ((crR 5).getD j 0)) 32).run ⟨Vb 32,#[],7⟩).map fun r=>r.2.a)=some (crS 5):=by decide+kernel
theorem Uc:∀ i < 32,∀ j < 32,crO 5 i j=Zz ((crR 5).getD i 0) ((crR 5).getD j 0):=by decide+kernel
theorem TY:(((my (fun i j=>Zz ((crR 6).getD i 0) ((crR 6).getD j 0)) 64).run ⟨Vb 64,#[],7⟩).map fun r=>r.2.a)=some (crS 6):=by decide+kernel
theorem Uu:∀ i < 64,∀ j < 64,crO 6 i j=Zz ((crR 6).getD i 0) ((crR 6).getD j 0):=by decide+kernel
end L2
namespace L2
open PySem PySem.Spec PyProof.Rows PySem.W PySem.SeqAt
open AutoSeq1 (wpAny_loadPart')
open MeetsSeq MeetsSeq2 MeetsSeq3
theorem iH:∀ {vs:List Value} {ns:List Int} {i:Nat} {n:Int},V8 vs ns->ns[i]? = some n->∃ t,vs[i]? = some (.int n t)
 | _,_,i,_,.nil,h=>by simp at h
 | _,_,0,_,.cons m t r,h=>by
  cases h
  exact⟨t,rfl⟩
 | _,_,i+1,n,.cons m t r,h=>by
  obtain⟨t',e⟩:=iH (i:=i) r (by simpa using h)
  exact⟨t',by simpa using e⟩
theorem Et (l b:Addr) (items items2:Array Value) (n n2:Nat) (dd dd2:Option Addr) (sl sl2:Array (Option Value)) {ns ms:List Int} (i1:V8 items.toList ns) (i2:V8 items2.toList ms) (hsz:ns.length=ms.length) (k:Nat) :
  ∀ i:Nat,ns.length - i=k->aba (Builtin.«list.__eq__.loop» ⟨[.ref l,.ref b,Wy i,Wy 0],[]⟩)
   (fun A R s=>s.heap.get? l=some { cls:=.type "list",dict:=dd,data:=.seq items n,slots:=sl }/\s.heap.get? b=some { cls:=.type "list",dict:=dd2,data:=.seq items2 n2,slots:=sl2 } ∧
    R (.ok (.ret (.bool (HT.lexLt (ns.drop i) (ms.drop i))))) s):=by
 have z1:items.size=ns.length:=by rw[← Vo]; exact i1.length
 have z2:items2.size=ms.length:=by rw[← Vo]; exact i2.length
 induction k with
 | zero =>
  intro i hk prog w A R s h
  obtain⟨hp,g,d,tk,os⟩:=s; obtain⟨hl,hb,h⟩:=h
  wp_walk using Vq hl,Vq hb
  have hi1:items[((i:Nat):Int).toNat]? = none:=by simp; lia
  have hi2:items2[((i:Nat):Int).toNat]? = none:=by simp; lia
  rw[XR (by lia),XR (by lia)] at h
  rw[hi1,hi2]
  wp_walk using Vq hl,Vq hb
  show R (.ok (.ret (.bool (decide (items.size < items2.size))))) _
  rw[z1,z2,hsz,decide_eq_false (Xw _)]
  exact h
 | succ k ih =>
  intro i hk prog w A R s h
  obtain⟨hp,g,d,tk,os⟩:=s; obtain⟨hl,hb,h⟩:=h
  wp_walk using Vq hl,Vq hb
  have hlt:i < ns.length:=by lia
  have hlt2:i < ms.length:=by lia
  obtain⟨t1,e1⟩:=iH i1 (UG hlt)
  obtain⟨t2,e2⟩:=iH i2 (UG hlt2)
  have hi1:items[((i:Nat):Int).toNat]? = some (.int ns[i] t1):=by rw[Vu,← Wb]; exact e1
  have hi2:items2[((i:Nat):Int).toNat]? = some (.int ms[i] t2):=by rw[Vu,← Wb]; exact e2
  have hc:((i:Int)+1)=((i+1:Nat):Int):=by push_cast; rfl
  rw[W2 hlt,W2 hlt2,HT.gm] at h
  rw[hi1,hi2]
  refine Uw (aax ?_)
  by_cases hb':ns[i]=ms[i]
  ·rw[if_pos hb'] at h
   rw[show (ns[i] == ms[i])=true by simp [hb']]
   wp_walk
   rw[hc]
   exact⟨W7 plain_eq_loop _,WQ entry_eq_loop (by
    rw[Wr plain_eq_loop _]
    exact ih (i+1) (by lia) prog w A R _ ⟨hl,hb,h⟩)⟩
  ·rw[if_neg hb'] at h
   rw[show (ns[i] == ms[i])=false by simp [hb']]
   wp_walk using Vq hl,Vq hb
   rw[hi1,hi2]
   show U4 _ _ (do let v ← richCompare .Lt (.int ns[i] t1) (.int ms[i] t2); ret v) _ _ _
   refine Uw (show U4 _ _ (Xa .Lt (.int ns[i] t1) (.int ms[i] t2)) _ _ _ from PyProof.Rows.lt_int ?_)
   exact UJ h
theorem Gn (l b:Addr) (items items2:Array Value) (n n2:Nat) (dd dd2:Option Addr) (sl sl2:Array (Option Value)) {ns ms:List Int} (i1:V8 items.toList ns) (i2:V8 items2.toList ms) (hsz:ns.length=ms.length) :
  aba (Builtin.«list.__lt__» ⟨[.ref l,.ref b],[]⟩)
   (fun A R s=>s.heap.get? l=some { cls:=.type "list",dict:=dd,data:=.seq items n,slots:=sl }/\s.heap.get? b=some { cls:=.type "list",dict:=dd2,data:=.seq items2 n2,slots:=sl2 } ∧
    R (.ok (.ret (.bool (HT.lexLt ns ms)))) s):=by
 intro prog w A R s h
 obtain⟨hp,g,d,tk,os⟩:=s; obtain⟨hl,hb,h⟩:=h
 have f3:=AutoSeq1.sub_list_list
 wp_walk using Vq hl,Vq hb
 exact⟨W7 plain_eq_loop _,WQ entry_eq_loop (by
  rw[Wr plain_eq_loop _]
  exact Et l b items items2 n n2 dd dd2 sl sl2 i1 i2 hsz _ 0 rfl prog w A R _ ⟨hl,hb,h⟩)⟩
section
variable {prog:Vp} {w:VP} {A:VR} {E:Value->Uz->Prop} {s:Uz}
theorem Kc {l b:Addr} {items items2:Array Value} {ns ms:List Int} {Q:Value->Uz->Prop} (hl:s.heap.IsList l items) (hb:s.heap.IsList b items2) (i1:V8 items.toList ns) (i2:V8 items2.toList ms) (hsz:ns.length=ms.length) (hu:A.units < cLine) (h:Q (.bool (HT.lexLt ns ms)) s):U4 (Vk prog w) A (Xa .Lt (.ref l) (.ref b)) Q E s:=by
 obtain⟨⟨cls,dd,data,sl⟩,ho,hc,n,hd⟩:=id hl
 obtain⟨⟨cls2,dd2,data2,sl2⟩,ho2,hc2,n2,hd2⟩:=id hb
 simp only at hc hd hc2 hd2
 subst hc hd hc2 hd2
 exact richCompare_meets_room (op:=.Lt) ⟨_,ho,rfl⟩ ⟨_,ho2,rfl⟩ F.slot_list_lt F.entry_list_lt (F.args_list_lt_2 _ _) (Gn l b items items2 n n2 dd dd2 sl sl2 i1 i2 hsz)
  ⟨ho,ho2,show aaF (HT.lexLt ns ms)≠Value.notImplemented/\Q (.bool (HT.lexLt ns ms)) s from ⟨(fun x=>nomatch x),h⟩⟩ hu
def jq (h h':Wc) (a:Addr):Prop:=∀ b o,b≠a->h.get? b=some o->h'.get? b=some o
theorem pR {a:Addr} {vs:List Value} {n:Nat} {κ:Yg} {o:Nat->Nat->Bool} {p:List Nat} {P:Fin->Uz->Prop} (ho:s.heap.get? a=some (Wk "list" vs.toArray n)) (hz:vs.length<=5000) (h2:2<=vs.length) (hpl:p.length=vs.length)
  (hk:∀ h',jq s.heap h' a->∀ Q:Yg->Uz->Prop,Q κ { s with heap:=h' }->U4 (Vk prog w) A (keyKind' vs.toArray) Q E { s with heap:=h' })
  (hO:∀ h',jq s.heap h' a->∀ i j,i < vs.length->j < vs.length->∀ C:Bool->Uz->Prop,C (o i j) { s with heap:=h' }->U4 (Vk prog w) A (keyLt' κ (vs.getD i VB) (vs.getD j VB)) C (fun _ _=>False) { s with heap:=h' })
  (he:(((my o vs.length).run ⟨Vb vs.length,#[],7⟩).map fun r=>r.2.a)=some p)
  (h:P (.done (.ret .none)) { s with heap:=sortedHeap s.heap a vs (p.map fun i=>vs.getD i VB).toArray }) :
  U4 (Vk prog w) A (Builtin.«list.sort» ⟨[.ref a],[]⟩) P E s:=by
 rw[list_sort_plain]
 have ha:a < s.heap.objs.size:=U6 ho
 refine Uw (listItems_at ho rfl ?_)
 refine Uw (aas ho rfl ?_ (by rw[U7,Xo]; lia) (Vr _))
 obtain⟨e1,ho1⟩:∃ e1,(s.heap.update a (Wa fun _=>#[])).get? a=some (Wk "list" #[] e1):=⟨_,get?_update_seq ho (fun _=>#[])⟩
 refine Uw (aaU ho1 rfl ?_)
 refine Uw (aaa ?_ (by show vs.length<=_; rw[Xo]; lia))
 refine Uw (aaq ?_ (Vr _))
 refine Xf ?_
 have ho6:(((s.heap.update a (Wa fun _=>#[])).push (Wk "tuple" vs.toArray 0)).push (Wk "list" #[] 0)).get? a=some (Wk "list" #[] e1):=by
  rw[WL _ _ _ (by rw[aaC,Xd]; exact Vh (V7 ha)),WL _ _ _ (by rw[Xd]; exact Vh ha)]
  exact ho1
 have kp:jq s.heap (((s.heap.update a (Wa fun _=>#[])).push (Wk "tuple" vs.toArray 0)).push (Wk "list" #[] 0)) a:=fun b o hb e=>by
  have hlt:b < s.heap.objs.size:=U6 e
  rw[WL _ _ _ (by rw[aaC,Xd]; exact Vh (V7 hlt)),WL _ _ _ (by rw[Xd]; exact Vh hlt),Z3 _ _ _ _ hb]
  exact e
 show U4 (Vk prog w) A _ P E { s with heap:=((s.heap.update a (Wa fun _=>#[])).push (Wk "tuple" vs.toArray 0)).push (Wk "list" #[] 0) }
 dsimp only
 have hsz:vs.toArray.size=vs.length:=by simp
 rw[if_neg (by lia),if_neg (by lia)]
 refine Uw (hk _ kp _ ?_)
 have est:YM κ (vs.toArray.zip vs.toArray) #[] 7 none=YM κ (im (YF vs) (Vb vs.length)) #[] 7 none:=by
  have e:=kas_range (YF vs)
  rw[show (YF vs).size=vs.length from pairsOf_size vs] at e
  congr 1
  rw[im,← List.map_toArray,e]
  rfl
 rw[est]
 refine Uw (Xj (Ce (prog:=prog) (w:=w) (A:=A) (E:=E) (it:=YF vs) (κ:=κ) (s:={ s with heap:=((s.heap.update a (Wa fun _=>#[])).push (Wk "tuple" vs.toArray 0)).push (Wk "list" #[] 0) })
  (Q:=fun _ st' s'=>(aao st'=im (YF vs) p/\failedOf st'=none)/\s'={ s with heap:=((s.heap.update a (Wa fun _=>#[])).push (Wk "tuple" vs.toArray 0)).push (Wk "list" #[] 0) }) (fun i j hi hj C hC=>?_) he fun st' e1 e2=>⟨⟨e1,e2⟩,rfl⟩) ?_ fun _ _ e=>e)
 ·unfold Z4
  rw[aam,aam]
  exact hO _ kp i j hi hj C hC
 ·rintro⟨⟨⟩,st'⟩ s' ⟨⟨e1,e2⟩,rfl⟩
  dsimp only at e1 e2 ⊢
  have em:(aao st').map (·.2)=(p.map fun i=>vs.getD i VB).toArray:=by
   rw[e1,im]
   simp [aam]
  refine Uw (aaU ho6 rfl ?_)
  refine Uw (aas ho6 rfl ?_ (Vr _) (by rw[em,U7,Uy,hpl,Xo]; lia))
  rw[e2]
  simp only[bne_self_eq_false,Zt,if_false]
  rw[em]
  exact UJ h
theorem uI {l:Addr} {vs:List Value} {κ:Yg} {o:Nat->Nat->Bool} {p:List Nat} {Q:Value->Uz->Prop} (hl:s.heap.IsList l vs.toArray) (hz:vs.length<=5000) (h2:2<=vs.length) (hpl:p.length=vs.length)
  (hk:∀ h':Wc,(∀ b o,s.heap.get? b=some o->h'.get? b=some o)->∀ Q:Yg->Uz->Prop,Q κ { s with heap:=h' }->U4 (Vk prog w) A.in1.in1 (keyKind' vs.toArray) Q E { s with heap:=h' })
  (hO:∀ h':Wc,(∀ b o,s.heap.get? b=some o->h'.get? b=some o)->∀ i j,i < vs.length->j < vs.length->∀ C:Bool->Uz->Prop,C (o i j) { s with heap:=h' }->U4 (Vk prog w) A.in1.in1 (keyLt' κ (vs.getD i VB) (vs.getD j VB)) C (fun _ _=>False) { s with heap:=h' })
  (he:(((my o vs.length).run ⟨Vb vs.length,#[],7⟩).map fun r=>r.2.a)=some p)
  (h:Q (.ref (s.heap.objs.size+1)) { s with heap:=sortedAll s.heap vs (p.map fun i=>vs.getD i VB).toArray }) :
  U4 (Vk prog w) A (call (.builtin "sorted") [.ref l]) Q E s:=by
 refine aaj kind_sorted plain_sorted entry_sorted (args_sorted1 _) ?_
 unfold Builtin.«sorted»
 refine Uw (m:=checkCount "sorted" 1 1 _) (UJ ?_)
 refine Uw (collect_list hl ?_ (by rw[Xo]; lia))
 refine Uw (aaq ?_ (by rw[Xo]; lia))
 have hsz:((s.heap.push (Wk "list" #[] 0)).update s.heap.objs.size (Wa (·++vs.toArray))).objs.size=s.heap.objs.size+1:=by
  rw[Xd,aaC]
 have hoL:(((s.heap.push (Wk "list" #[] 0)).update s.heap.objs.size (Wa (·++vs.toArray))).push (Wk "list" vs.toArray 0)).get? (s.heap.objs.size+1)=some (Wk "list" vs.toArray 0):=by
  rw[← hsz]; exact UT _ rfl
 have keep:∀ b o,s.heap.get? b=some o->(((s.heap.push (Wk "list" #[] 0)).update s.heap.objs.size (Wa (·++vs.toArray))).push (Wk "list" vs.toArray 0)).get? b=some o:=fun b o q=>by
  have hlt:b < s.heap.objs.size:=U6 q
  rw[WL _ _ _ (by rw[hsz]; exact Vh (V7 hlt)),Z3 _ _ _ _ (Vh hlt),WL _ _ _ (Vh hlt)]
  exact q
 have kb:∀ h':Wc,jq (((s.heap.push (Wk "list" #[] 0)).update s.heap.objs.size (Wa (·++vs.toArray))).push (Wk "list" vs.toArray 0)) h' (s.heap.objs.size+1)->∀ b o,s.heap.get? b=some o->h'.get? b=some o:=fun h' k b o q =>
  k b o (Vh (V7 (U6 q))) (keep b o q)
 show U4 _ _ _ _ _ { s with heap:=((s.heap.push (Wk "list" #[] 0)).update s.heap.objs.size (Wa (·++vs.toArray))).push (Wk "list" vs.toArray 0) }
 rw[hsz]
 refine Uw (Xf (V2 slot_list_sort ⟨_,hoL,rfl⟩ abT (pR (s:={ s with heap:=((s.heap.push (Wk "list" #[] 0)).update s.heap.objs.size (Wa (·++vs.toArray))).push (Wk "list" vs.toArray 0) }) hoL hz h2 hpl (fun h' k=>hk h' (kb h' k)) (fun h' k=>hO h' (kb h' k)) he ⟨_,rfl,?_⟩) (args_list_sort _)))
 exact UJ ⟨_,rfl,h⟩
def nU (h:Wc) (p:Addr) (ns:List Int):Prop:=∃ (t:Tok) (l:Addr) (its:List Value),h.IsTuple p #[.int (ns.length:Int) t,.ref l]/\h.IsList l its.toArray/\V8 its ns
theorem nU.keep {h h':Wc} {p:Addr} {ns:List Int} (x:nU h p ns) (k:∀ b o,h.get? b=some o->h'.get? b=some o):nU h' p ns:=by
 obtain⟨t,l,its,⟨o1,e1,r1⟩,⟨o2,e2,r2⟩,i⟩:=x
 exact⟨t,l,its,⟨o1,k _ _ e1,r1⟩,⟨o2,k _ _ e2,r2⟩,i⟩
def wL (a b:List Int):Bool:=if a.length=b.length then HT.lexLt a b else decide (a.length < b.length)
theorem KJ {l b:Addr} {its its2:List Value} {ns ms:List Int} {Q:Bool->Uz->Prop} (hl:s.heap.IsList l its.toArray) (hb:s.heap.IsList b its2.toArray) (i1:V8 its ns) (i2:V8 its2 ms) (hsz:ns.length=ms.length) (hu:A.units < cLine) (h:Q (decide (ns=ms)) s):U4 (Vk prog w) A (eqBool (.ref l) (.ref b)) Q E s:=by
 have s1:its.toArray.size=ns.length:=by rw[U7]; exact i1.length
 have s2:its2.toArray.size=ms.length:=by rw[U7]; exact i2.length
 have e:=mD ns ms
 by_cases hne:l=b
 ·subst hne
  obtain⟨o1,e1,c1,n1,d1⟩:=hl
  obtain⟨o2,e2,c2,n2,d2⟩:=hb
  rw[e1] at e2
  cases e2
  rw[d1] at d2
  have ei:its=its2:=by injection d2 with d2; simpa using d2
  subst ei
  have en:ns=ms:=by rw[← i1.numsOf,← i2.numsOf]
  rw[decide_eq_true en] at h
  exact aaP _ prog w E _ h
 ·have r:=SeqAt.RcAt.lists (A:=A) (e:=fun j=>ns.getD j 0 == ms.getD j 0) hl hb (by rw[s1,s2]; exact hsz) hu fun j h1 h2=>by
   obtain⟨t,e1⟩:=ints_get i1 (j:=j) (by simpa using h1)
   obtain⟨t',e2⟩:=ints_get i2 (j:=j) (by simpa using h2)
   rw[Xc,Xc,e1,e2]
   exact aac _ _ _ _
  rw[← hsz,Nat.min_self,beq_self_eq_true,Bool.and_true] at e
  rw[s1,e] at r
  exact SeqAt.EqAt.of_refs hne r prog w E _ h
theorem iJ:∀ ns:List Int,HT.lexLt ns ns=false
 | []=>rfl
 | a::r=>by rw[HT.gm,if_pos rfl]; exact iJ r
theorem Kl {p q : Addr} {ns ms : List Int} {C : Bool → Uz → Prop} (hp : nU s.heap p ns) (hq : nU s.heap q ms) (hu : A.units < cLine) (h : C (wL ns ms) s) : U4 (Vk prog w) A (keyLt' (tuples' true) (.ref p) (.ref q)) C E s := by
  obtain ⟨t1, l1, i1, ⟨o1, e1, c1, n1, d1⟩, hl1, a1⟩ := hp
  obtain ⟨t2, l2, i2, ⟨o2, e2, c2, n2, d2⟩, hl2, a2⟩ := hq
  refine kat_lt e1 d1 e2 d2 ?_
  show KatLex prog w A true _ C [(.int (ns.length : Int) t1, .int (ms.length : Int) t2), (.ref l1, .ref l2)] 0 s
  unfold wL at h
  refine kat_cons (aax (kat_go (fun e => kat_yes ?_) fun e => kat_no ?_))
  · have el : ns.length = ms.length := by have : (ns.length : Int) = ms.length := by simpa using e
                                          lia
    rw [if_pos el] at h
    refine kat_cons (KJ hl1 hl2 a1 a2 el hu ?_)
    refine kat_go (fun e => kat_yes ?_) fun e => kat_no ?_
    · have e' : ns = ms := by simpa using e
      subst e'
      rw [iJ] at h
      exact h
    · exact kat_one _ _ (Kc hl1 hl2 (by simpa using a1) (by simpa using a2) el hu (show PySem.W.BoolBack C (.bool _) s from h))
  · have el : ¬ ns.length = ms.length := fun z => by rw [z] at e; simp at e
    rw [if_neg el] at h
    refine oneLt_int ?_
    have : decide ((ns.length : Int) < (ms.length : Int)) = decide (ns.length < ms.length) := by
      by_cases z : ns.length < ms.length
      · rw [decide_eq_true z, decide_eq_true (by lia)]
      · rw [decide_eq_false z, decide_eq_false (by lia)]
    rw [this]
    exact h
theorem kat_pairs:∀ {ps:List (Addr × List Int)},(∀ p∈ps,nU s.heap p.1 p.2)->∃ fs:List Value,fs.length=ps.length/\KatTups s.heap (ps.map fun p=>Vy p.1) fs/\∀ v∈fs,∃ (n:Int) (t:Tok),v = .int n t
 | [],_=>⟨[],rfl,KatTups.nil,by simp⟩
 | p::ps,h=>by
  obtain⟨fs,e,k,z⟩:=kat_pairs (ps:=ps) fun q hq=>h q (U9 _ hq)
  obtain⟨t,l,its,⟨o,ho,hc,n,hd⟩,_⟩:=h p UW
  refine⟨.int (p.2.length:Int) t::fs,by simp [e],KatTups.cons ho hc hd (by simp) k,fun v hv=>?_⟩
  rcases List.mem_cons.mp hv with rfl | hv
  ·exact⟨_,_,rfl⟩
  ·exact z v hv
theorem Dk {M:Model} {ps:List (Addr × List Int)} {Q:Yg->Uz->Prop} (h0:0 < ps.length) (ht:∀ p∈ps,nU s.heap p.1 p.2) (h:Q (tuples' true) s):U4 M A (keyKind' (ps.map fun p=>Vy p.1).toArray) Q E s:=by
 obtain⟨fs,e,k,z⟩:=kat_pairs ht
 refine kat_kind (T:=.type "int") k (by lia) (fun v hv=>?_) (by rfl) ?_
 ·obtain⟨n,t,rfl⟩:=z v hv
  exact Looks.of_pure rfl
 ·exact h
end
section
variable {X:Cx} {k:Nat}
inductive HB (K:Vi) (xs:List V) (H:Hp) (Q:VK):Prop where
 | mk (p:Addr) (ps:List (Addr × List Int)) (o:Nat->Nat->Bool) (pm:List Nat) (z0:xs=[.ref p]) (z1:SqL K H p (ps.map fun p=>V.ref p.1)) (z2:2<=ps.length) (z3:ps.length<=5000) (z4:(∀ q∈ps,∃ l:Addr,SqT K H q.1 [.int (q.2.length:Int),.ref l]/\SqL K H l (q.2.map V.int))) (z5:(∀ i j a b,ps[i]? = some a->ps[j]? = some b->o i j=wL a.2 b.2)) (z6:pm.length=ps.length) (z7:(∀ i∈pm,i < ps.length)) (z8:(((my o ps.length).run ⟨Vb ps.length,#[],7⟩).map fun r=>r.2.a)=some pm) (z9:∀ l,H l=none->Q (.ref l) (upd H l (.lst (pm.map fun i=>V.ref (ps.getD i (0,[])).1)))):HB K xs H Q
def K7 (K:Vi):List V->Hp->VK->Prop:=fun xs H Q=>HB K xs H Q
theorem yr {ps:List (Addr × List Int)}:∀ pm:List Nat,(∀ i∈pm,i < ps.length)->Vals (pm.map fun i=>V.ref (ps.getD i (0,[])).1) (pm.map fun i=>(ps.map fun p=>Vy p.1).getD i VB)
 | [],_=>.nil
 | i::pm,h=>by
  have hi:=h i UW
  refine .cons ?_ (yr pm fun j hj=>h j (U9 _ hj))
  show (ps.map fun p=>Vy p.1).getD i VB = .ref (ps.getD i (0,[])).1
  simp [hi]
theorem BP (hr:nZ k X.A):iR X (.builtin "sorted") (K7 X.K):=by
 intro pins s σ H xs us Q I r h
 obtain⟨p,ps,o,pm,rfl,hq,h2,hz,ht,ho,hpm,hlt,he,q⟩:=h
 obtain⟨u,rfl,ru⟩:=vals1 r
 cases ru
 obtain⟨its,rv,pl,_⟩:=I.list hq
 have ei:=yO ps its rv
 subst ei
 have lv:(ps.map fun p=>Vy p.1).length=ps.length:=by simp
 have pr:∀ p∈ps,nU s.heap p.1 p.2:=fun p hm=>by
  obtain⟨l,x1,x2⟩:=ht p hm
  obtain⟨i1,r1,p1,_⟩:=I.tuple x1
  obtain⟨i2,r2,p2,_⟩:=I.list x2
  cases r1 with
  | cons ra r1 =>
   cases r1 with
   | cons rb r1 =>
    cases r1
    obtain⟨t,rfl⟩:=ra
    cases rb
    exact⟨t,l,i2,p1,p2.isList,intsAre_of r2⟩
 have hu:X.A.in1.in1.units < cLine:=by
  have:=hr.un
  show X.A.units+1+1 < _
  lia
 refine uI (o:=o) (p:=pm) (κ:=tuples' true) pl.isList (by lia) (by lia) (by lia) (fun h' kp Q' hQ=>Dk (by lia) (fun p hm=>(pr p hm).keep kp) hQ) (fun h' kp i j hi hj C hC=>?_) (by rw[lv]; exact he) ?_
 ·have hi':i < ps.length:=by lia
  have hj':j < ps.length:=by lia
  rw[show (ps.map fun p=>Vy p.1).getD i VB = .ref ps[i].1 by simp [hi'],show (ps.map fun p=>Vy p.1).getD j VB = .ref ps[j].1 by simp [hj']]
  refine Kl ((pr ps[i] (Wu hi')).keep kp) ((pr ps[j] (Wu hj')).keep kp) hu ?_
  rw[← ho i j _ _ (UG hi') (UG hj')]
  exact hC
 ·obtain⟨e,he⟩:=sortedAll_at s.heap (ps.map fun p=>Vy p.1) (pm.map fun i=>(ps.map fun p=>Vy p.1).getD i VB).toArray
  have hml:(pm.map fun i=>V.ref (ps.getD i (0,[])).1).length<=sizeLine:=by
   rw[Uy,Xo]
   lia
  exact⟨.ref _,_,I.JX rfl rfl (fun _ _=>sortedAll_old) (XX _) (yr pm hlt) hml he,rfl,q _ (I.hok.fresh (XX _))⟩
end
end L2
namespace L2
open PySem PySem.Spec PyProof.Rows
structure PB (z p q i1 i2 i3 l1 l2 l3:Addr):Prop where
 pz:p≠z
 qz:q≠z
 az:i1≠z
 bz:i2≠z
 cz:i3≠z
 pq:p≠q
 pa:p≠i1
 pb:p≠i2
 pc:p≠i3
 qa:q≠i1
 qb:q≠i2
 qc:q≠i3
 ab:i1≠i2
 ac:i1≠i3
 bc:i2≠i3
 xz:l1≠z
 yz:l2≠z
 vz:l3≠z
 xq:l1≠q
 yq:l2≠q
 vq:l3≠q
 ya:l2≠i1
 va:l3≠i1
 vb:l3≠i2
theorem J3 {n c d e:Nat} (hc:c < n) (hd:d < n) (he:e < n):PB (n+5) (n+3) (n+4) n (n+1) (n+2) c d e:=by
 constructor <;> (refine (fun (h:¬ @Eq Nat _ _)=>h) ?_) <;> lia
abbrev jh (h:Wc) (p:Addr) (a b c:Value):Prop:=h.get? p=some { cls:=.type "tuple",data:=.seq #[a,b,c] }
theorem qN (a b c:Value):checkTypeCall "zip" ⟨[a,b,c],[]⟩=pure ():=by kernel_rfl
theorem sG (a b c:Value):abH "zip.__new__" ⟨[.type "zip",a,b,c],[]⟩=pure ():=by kernel_rfl
theorem mj (a b c d:Value):ZW "object.__init__" ⟨[a,b,c,d],[]⟩:=by
 have e:=aar (id:="object.__init__") (n:=['_','_','t','i','n','i','_','_']) (o:=['t','c','e','j','b','o']) (by kernel_rfl) F.owner_object
 unfold ZW
 rw[e]
 kernel_rfl
section
variable {prog:Vp} {w:VP} {A:VR} {E:Value->Uz->Prop} {s:Uz}
theorem dB {T:Addr} {a b c x:Value} {k:Nat} {Q:Unit->Uz->Prop} (hT:jh s.heap T a b c)
  (h:∀ h',h'.get? T=some { cls:=.type "tuple",data:=.seq ((#[a,b,c]:Array Value).setIfInBounds k x) }->Xm T s.heap h'->Q () { s with heap:=h' }) :
  U4 (Vk prog w) A (abD T (·.setIfInBounds k x)) Q E s:=by
 refine Zf hT rfl (h _ ?_ (Wo ..))
 rw[Wh _ hT rfl]
 simp [Wa]
theorem MK {z p q i1 i2 i3 l1 l2 l3:Addr} {k:Nat} {xs ys vs:Array Value} {x y v a b c:Value} {Q:Option Value->Uz->Prop} (D:PB z p q i1 i2 i3 l1 l2 l3)
  (hz:Xk s.heap z p q .none) (hp:jh s.heap p (.ref i1) (.ref i2) (.ref i3)) (hq:jh s.heap q a b c) (j1:s.heap.IsListIter i1 l1 k) (j2:s.heap.IsTupleIter i2 l2 k) (j3:s.heap.IsTupleIter i3 l3 k) (t1:s.heap.IsList l1 xs) (t2:s.heap.IsTuple l2 ys) (t3:s.heap.IsTuple l3 vs)
  (hx:xs[k]? = some x) (hy:ys[k]? = some y) (hv:vs[k]? = some v)
  (hQ:∀ h',Xk h' z p q (Wy s.heap.objs.size)->jh h' q x y v->h'.IsListIter i1 l1 (k+1)->h'.IsTupleIter i2 l2 (k+1)->h'.IsTupleIter i3 l3 (k+1)->jh h' s.heap.objs.size x y v->h'.objs.size=s.heap.objs.size+1 →
   (∀ c o,c≠z->c≠q->c≠i1->c≠i2->c≠i3->s.heap.get? c=some o->h'.get? c=some o)->Q (some (.ref s.heap.objs.size)) { s with heap:=h' }):U4 (Vk prog w) A (Xy (.ref z)) Q E s:=by
 have hT:s.TypeIs (.ref z) "zip":=⟨_,hz,rfl⟩; unfold Xy
 refine Uw (W6 (V0 (name:=WX "__next__") hT WW (V2 WW hT Za ?_ (YJ _))))
 show U4 _ _ (aan (.ref z) 2 >>= _) _ _ _; refine Uw (VD hz rfl (x:=.bool false) rfl ?_)
 show U4 _ _ (aan (.ref z) 3 >>= _) _ _ _; refine Uw (VD hz rfl (x:=.ref p) rfl ?_); refine Uw (VJ hp rfl ?_)
 show U4 _ _ (Vs (.ref z) >>= _) _ _ _; refine Uw ?_; unfold Vs
 refine Uw (VD hz rfl (x:=.none) rfl (UJ ?_)); simp only[if_true]; refine Uw (X4 ?_); refine Uw (VD hz rfl (x:=.ref q) rfl ?_)
 refine Uw (V5 hz (by simp) fun h1 z1 b1=>?_); replace z1:Xk h1 z p q .ellipsis:=z1
 refine Uw ?_; simp only[Ym,Zi,Xp,XD]; refine Uw (Uw (Xe ?_))
 show U4 _ _ (Vv (.ref i1) >>= _) _ _ _
 refine Uw (wpAny_nextOf_list_item (dj j1 b1 D.az) (nH t1 b1 D.xz) hx fun h2 u1 b2=>UJ ?_)
 have q2:jh h2 q a b c:=(b2.2 _ D.qa).trans ((b1.2 _ D.qz).trans hq); refine Uw (VJ q2 rfl ?_); refine Uw (dB q2 fun h3 q3 b3=>?_)
 replace q3:jh h3 q x b c:=q3; refine Uw (Xx (UJ ?_)); refine Uw (Uw (Xe ?_))
 show U4 _ _ (Vv (.ref i2) >>= _) _ _ _
 refine Uw (jr (bV (bV (bV j2 b1 D.bz) b2 D.ab.symm) b3 D.qb.symm) (du (du (du t2 b1 D.yz) b2 D.ya) b3 D.yq) hy fun h4 u2 b4=>UJ ?_)
 have q4:jh h4 q x b c:=(b4.2 _ D.qb).trans q3; refine Uw (VJ q4 rfl ?_); refine Uw (dB q4 fun h5 q5 b5=>?_)
 replace q5:jh h5 q x y c:=q5; refine Uw (Xx (UJ ?_)); refine Uw (Uw (Xe ?_))
 show U4 _ _ (Vv (.ref i3) >>= _) _ _ _
 have j35:h5.IsTupleIter i3 l3 k:=bV (bV (bV (bV (bV j3 b1 D.cz) b2 D.ac.symm) b3 D.qc.symm) b4 D.bc.symm) b5 D.qc.symm
 have t35:h5.IsTuple l3 vs:=du (du (du (du (du t3 b1 D.vz) b2 D.va) b3 D.vq) b4 D.vb) b5 D.vq
 refine Uw (jr j35 t35 hv fun h6 u3 b6=>UJ ?_)
 have q6:jh h6 q x y c:=(b6.2 _ D.qc).trans q5; refine Uw (VJ q6 rfl ?_); refine Uw (dB q6 fun h7 q7 b7=>?_)
 replace q7:jh h7 q x y v:=q7; refine Uw (Xx (UJ (UJ ?_))); refine Uw (VJ q7 rfl ?_); refine Uw (aaa ?_)
 have sz:h7.objs.size=s.heap.objs.size:=by rw[b7.1,b6.1,b5.1,b4.1,b3.1,b2.1,b1.1]
 have z7:Xk h7 z p q .ellipsis:=(b7.2 _ D.qz.symm).trans ((b6.2 _ D.cz.symm).trans ((b5.2 _ D.qz.symm).trans ((b4.2 _ D.bz.symm).trans ((b3.2 _ D.qz.symm).trans ((b2.2 _ D.az.symm).trans z1)))))
 have kp:∀ c o,c≠z->c≠q->c≠i1->c≠i2->c≠i3->s.heap.get? c=some o->h7.get? c=some o:=fun c o c1 c2 c3 c4 c5 e=>(b7.2 c c2).trans ((b6.2 c c5).trans ((b5.2 c c2).trans ((b4.2 c c4).trans ((b3.2 c c2).trans ((b2.2 c c3).trans ((b1.2 c c1).trans e))))))
 have u17:h7.IsListIter i1 l1 (k+1):=dj (dj (dj (dj (dj u1 b3 D.qa.symm) b4 D.ab) b5 D.qa.symm) b6 D.ac) b7 D.qa.symm
 have u27:h7.IsTupleIter i2 l2 (k+1):=bV (bV (bV u2 b5 D.qb.symm) b6 D.bc) b7 D.qb.symm
 have u37:h7.IsTupleIter i3 l3 (k+1):=bV u3 b7 D.qc.symm
 have zl:z < h7.objs.size:=U6 z7
 show U4 _ _ (WD (.ref z) (.ref h7.objs.size) >>= _) _ _ _; refine Uw ?_; unfold WD
 have z8:Xk (h7.push { cls:=.type "tuple",data:=.seq #[x,y,v] }) z p q .ellipsis:=Ux _ z7
 refine Uw (V5 z8 (by simp) fun h9 z9 b9=>?_); replace z9:Xk h9 z p q (Wy h7.objs.size):=z9
 refine V5 z9 (by simp) fun h10 z10 b10=>?_; replace z10:Xk h10 z p q (Wy h7.objs.size):=z10
 have up:∀ c o,c≠z->h7.get? c=some o->h10.get? c=some o:=fun c o c1 e=>(b10.2 c c1).trans ((b9.2 c c1).trans (Ux _ e))
 have t10:jh h10 h7.objs.size x y v:=(b10.2 _ (WM zl)).trans ((b9.2 _ (WM zl)).trans (UT _ rfl))
 have s10:h10.objs.size=h7.objs.size+1:=by rw[b10.1,b9.1,VL]
 rw[sz] at z10 t10 s10; refine UJ ⟨_,rfl,?_⟩
 show U4 _ _ _ _ _ _
 rw[sz]
 exact UJ (hQ h10 z10 (up _ _ D.qz q7) (by obtain⟨o,e,r⟩:=u17; exact⟨o,up _ o D.az e,r⟩) (by obtain⟨o,e,r⟩:=u27; exact⟨o,up _ o D.bz e,r⟩) (by obtain⟨o,e,r⟩:=u37; exact⟨o,up _ o D.cz e,r⟩) t10 s10 fun c o c1 c2 c3 c4 c5 e=>up c o c1 (kp c o c1 c2 c3 c4 c5 e))
theorem Oa {z p q i1 i2 i3 l1 l2 l3:Addr} {k:Nat} {xs:Array Value} {a b c:Value} {Q:Fin->Uz->Prop} (hh:A.handled=none) (D:PB z p q i1 i2 i3 l1 l2 l3)
  (hz:Xk s.heap z p q .none) (hp:jh s.heap p (.ref i1) (.ref i2) (.ref i3)) (j1:s.heap.IsListIter i1 l1 k) (t1:s.heap.IsList l1 xs)
  (hx:xs[k]? = none) (hE:∀ h' e,(∀ c o,c≠z->c≠q->c≠i1->c≠i2->c≠i3->s.heap.get? c=some o->h'.get? c=some o)->(∃ o,h'.get? e=some o/\o.cls = .type "StopIteration")->E (.ref e) { s with heap:=h' }) :
  U4 (Vk prog w) A (Builtin.«zip.__next__» ⟨[.ref z],[]⟩) Q E s:=by
 show U4 _ _ (aan (.ref z) 2 >>= _) _ _ _; refine Uw (VD hz rfl (x:=.bool false) rfl ?_)
 show U4 _ _ (aan (.ref z) 3 >>= _) _ _ _; refine Uw (VD hz rfl (x:=.ref p) rfl ?_); refine Uw (VJ hp rfl ?_)
 show U4 _ _ (Vs (.ref z) >>= _) _ _ _; refine Uw ?_; unfold Vs
 refine Uw (VD hz rfl (x:=.none) rfl (UJ ?_)); simp only[if_true]; refine Uw (X4 ?_); refine Uw (VD hz rfl (x:=.ref q) rfl ?_)
 refine Uw (V5 hz (by simp) fun h1 z1 b1=>?_); replace z1:Xk h1 z p q .ellipsis:=z1
 refine Uw ?_; simp only[Ym,Zi,Xp,XD]; refine Uw (Uw (Xe ?_))
 show U4 _ _ (Vv (.ref i1) >>= _) _ _ _
 refine Uw (wpAny_nextOf_list_end hh (dj j1 b1 D.az) (nH t1 b1 D.xz) hx fun h2 e b2 he=>?_)
 obtain⟨oe,ho,hc⟩:=he
 have z2:Xk h2 z p q .ellipsis:=b2 _ _ D.az.symm z1
 have ez:e≠z:=fun u=>by subst u; rw[z2] at ho; cases ho; simp at hc
 exact V5 z2 (by simp) fun h3 _ b3=>hE h3 e (fun c o c1 _ c3 _ _ u=>(b3.2 c c1).trans (b2 _ _ c3 ((b1.2 c c1).trans u))) ⟨oe,(b3.2 e ez).trans ho,hc⟩
theorem QK {z p q i1 i2 i3 l1 l2 l3:Addr} {k:Nat} {xs:Array Value} {Q:Option Value->Uz->Prop} (hh:A.handled=none) (D:PB z p q i1 i2 i3 l1 l2 l3)
  (hz:Xk s.heap z p q .none) (hp:jh s.heap p (.ref i1) (.ref i2) (.ref i3)) (j1:s.heap.IsListIter i1 l1 k) (t1:s.heap.IsList l1 xs)
  (hx:xs[k]? = none) (hQ:∀ h',(∀ c o,c≠z->c≠q->c≠i1->c≠i2->c≠i3->s.heap.get? c=some o->h'.get? c=some o)->Q none { s with heap:=h' }):U4 (Vk prog w) A (Xy (.ref z)) Q E s:=by
 have hT:s.TypeIs (.ref z) "zip":=⟨_,hz,rfl⟩; unfold Xy
 refine Uw (W6 (V0 (name:=WX "__next__") hT WW (V2 WW hT Za (Oa (a:=.none) (b:=.none) (c:=.none) hh D hz hp j1 t1 hx fun h' e kp he=>?_) (YJ _))))
 obtain⟨o,ho,hc⟩:=he
 exact Uw (X3 (T:="StopIteration") (b:=true) ⟨o,ho,hc⟩ Zv (UJ (hQ _ kp)))
abbrev t3A (h:Wc) (l:Addr):Wc:=h.push { cls:=.type "list_iterator",data:=.fields #[.ref l,.int 0 0] }
abbrev t3B (h:Wc) (l t:Addr):Wc:=zA (t3A h l) t
abbrev t3C (h:Wc) (l t u:Addr):Wc:=zA (t3B h l t) u
abbrev t3D (h:Wc) (l t u:Addr):Wc:=(t3C h l t u).push { cls:=.type "tuple",data:=.seq #[.ref h.objs.size,.ref (t3A h l).objs.size,.ref (t3B h l t).objs.size] }
abbrev t3E (h:Wc) (l t u:Addr):Wc:=(t3D h l t u).push { cls:=.type "tuple",data:=.seq #[.none,.none,.none] }
abbrev t3F (h:Wc) (l t u:Addr):Wc:=(t3E h l t u).push { cls:=.type "zip",data:=.fields #[.none,.bool false,.bool false,.ref (t3C h l t u).objs.size,.ref (t3D h l t u).objs.size] }
theorem Ra (l1 l2 l3:Addr) (xs ys vs:Array Value) :
  aba (Builtin.«zip.__new__» ⟨[.type "zip",.ref l1,.ref l2,.ref l3],[]⟩) (fun _ R s=>s.heap.IsList l1 xs/\s.heap.IsTuple l2 ys/\s.heap.IsTuple l3 vs/\R (.ok (.ret (.ref (t3E s.heap l1 l2 l3).objs.size))) { s with heap:=t3F s.heap l1 l2 l3 }) :=
 .of_wp fun prog w A R s h=>by
  obtain⟨hp,g,d,tk,os⟩:=s; obtain⟨a1,a2,a3,h⟩:=h; have hsub:=sub_zip
  have T1:Heap.IsList (Zu ⟨hp,g,d,tk,os⟩) l1 xs:=a1
  have T2:Z7 (Zu ⟨hp.push { cls:=.type "list_iterator",data:=.fields #[.ref l1,.int 0 0] },g,d,tk,os⟩) l2 ys:=by
   obtain⟨o,e,r⟩:=a2
   exact⟨o,Ux _ e,r⟩
  have T3:Z7 (Zu ⟨(hp.push { cls:=.type "list_iterator",data:=.fields #[.ref l1,.int 0 0] }).push { cls:=.type "tuple_iterator",data:=.fields #[.ref l2,.int 0 0] },g,d,tk,os⟩) l3 vs:=by
   obtain⟨o,e,r⟩:=a3
   exact⟨o,Ux _ (Ux _ e),r⟩
  wp_walk using Yd T1,Xq T2,Xq T3
  exact⟨_,rfl,h⟩
theorem Np {l1 l2 l3:Addr} {xs ys vs:Array Value} {Q:Value->Uz->Prop} (t1:s.heap.IsList l1 xs) (t2:s.heap.IsTuple l2 ys) (t3:s.heap.IsTuple l3 vs)
  (h:∀ h',Xk h' (s.heap.objs.size+5) (s.heap.objs.size+3) (s.heap.objs.size+4) .none->jh h' (s.heap.objs.size+3) (.ref s.heap.objs.size) (.ref (s.heap.objs.size+1)) (.ref (s.heap.objs.size+2))->jh h' (s.heap.objs.size+4) .none .none .none →
   h'.IsListIter s.heap.objs.size l1 0->h'.IsTupleIter (s.heap.objs.size+1) l2 0->h'.IsTupleIter (s.heap.objs.size+2) l3 0->(∀ c o,s.heap.get? c=some o->h'.get? c=some o)->Q (.ref (s.heap.objs.size+5)) { s with heap:=h' }) :
  U4 (Vk prog w) A (call (.type "zip") [.ref l1,.ref l2,.ref l3]) Q E s:=by
 refine aaE F.called_zip (by decide) (qN _ _ _) (sG _ _ _) (fun obj=>mj obj _ _ _) abZ (Ra l1 l2 l3 xs ys vs) ⟨t1,t2,t3,?_⟩
 have y1:(t3A s.heap l1).objs.size=s.heap.objs.size+1:=VL ..
 have y2:(t3B s.heap l1 l2).objs.size=s.heap.objs.size+2:=by rw[VL,y1]
 have y3:(t3C s.heap l1 l2 l3).objs.size=s.heap.objs.size+3:=by rw[VL,y2]
 have y4:(t3D s.heap l1 l2 l3).objs.size=s.heap.objs.size+4:=by rw[VL,y3]
 have y5:(t3E s.heap l1 l2 l3).objs.size=s.heap.objs.size+5:=by rw[VL,y4]
 have w6:(t3F s.heap l1 l2 l3).get? (t3E s.heap l1 l2 l3).objs.size=some _:=UT _ rfl
 have w5:(t3F s.heap l1 l2 l3).get? (t3D s.heap l1 l2 l3).objs.size=some _:=Ux _ (UT _ rfl)
 have w4:(t3F s.heap l1 l2 l3).get? (t3C s.heap l1 l2 l3).objs.size=some _:=Ux _ (Ux _ (UT _ rfl))
 have w3:(t3F s.heap l1 l2 l3).get? (t3B s.heap l1 l2).objs.size=some _:=Ux _ (Ux _ (Ux _ (UT _ rfl)))
 have w2:(t3F s.heap l1 l2 l3).get? (t3A s.heap l1).objs.size=some _:=Ux _ (Ux _ (Ux _ (Ux _ (UT _ rfl))))
 have w1:(t3F s.heap l1 l2 l3).get? s.heap.objs.size=some _:=Ux _ (Ux _ (Ux _ (Ux _ (Ux _ (UT _ rfl)))))
 show _/\_
 rw[y3,y4,y5] at w6; rw[y4] at w5; rw[y1,y2,y3] at w4; rw[y2] at w3; rw[y1] at w2; rw[y5]
 exact⟨⟨_,w6,rfl⟩,h _ w6 w4 w5 ⟨_,w1,rfl,rfl⟩ ⟨_,w2,rfl,rfl⟩ ⟨_,w3,rfl,rfl⟩ fun c o u=>Ux _ (Ux _ (Ux _ (Ux _ (Ux _ (Ux _ u)))))⟩
end
def It3 (K : Vi) (a b c : Addr) : It :=
  ⟨fun i H => ∃ xs ys vs x y v, SqL K H a xs ∧ SqT K H b ys ∧ SqT K H c vs ∧ xs[i]? = some x ∧ ys[i]? = some y ∧ vs[i]? = some v,
   fun i H w H' => ∃ p x y v, H p = none ∧ w = .ref p ∧ (∀ xs, SqL K H a xs → xs[i]? = some x) ∧ (∀ ys, SqT K H b ys → ys[i]? = some y) ∧ (∀ vs, SqT K H c vs → vs[i]? = some v) ∧ H' = upd H p (.tup [x, y, v]),
   fun i H => ∃ xs, SqL K H a xs ∧ xs.length ≤ i⟩
def tn3 (z p q i1 i2 i3 a b c:Addr) (i:Nat) (h:Wc):Prop:=Xk h z p q .none/\jh h p (.ref i1) (.ref i2) (.ref i3)/\(∃ u v w,jh h q u v w)/\h.IsListIter i1 a i/\h.IsTupleIter i2 b i/\h.IsTupleIter i3 c i
theorem N6 {P:Vp} {w:VP} {K:Vi} {elts:List Expr} {x1} {pos:ZG} {z p q i1 i2 i3 a b c:Addr} (D:PB z p q i1 i2 i3 a b c) :
  Turn P w K (.Tuple elts x1 pos) (It3 K a b c) [z,p,q,i1,i2,i3] z (tn3 z p q i1 i2 i3 a b c) where
 mem:=by simp
 obj:=fun i h st e he=>by
  obtain⟨hz,hp,⟨u,v,t,hq⟩,⟨o1,e1,_,d1⟩,⟨o2,e2,_,d2⟩,⟨o3,e3,_,d3⟩⟩:=st
  simp only[V3,Ws,or_false] at he
  rcases he with rfl | rfl | rfl | rfl | rfl | rfl
  ·exact⟨_,hz,fun v z=>by cases z⟩
  ·exact⟨_,hp,fun v z=>by cases z⟩
  ·exact⟨_,hq,fun v z=>by cases z⟩
  ·exact⟨_,e1,fun v z=>by rw[d1] at z; cases z⟩
  ·exact⟨_,e2,fun v z=>by rw[d2] at z; cases z⟩
  ·exact⟨_,e3,fun v z=>by rw[d3] at z; cases z⟩
 keep:=fun i h h' st k=>by
  obtain⟨hz,hp,⟨u,v,t,hq⟩,⟨o1,e1,r1⟩,⟨o2,e2,r2⟩,⟨o3,e3,r3⟩⟩:=st
  exact⟨k z (by simp) _ hz,k p (by simp) _ hp,⟨u,v,t,k q (by simp) _ hq⟩,⟨o1,k i1 (by simp) _ e1,r1⟩,⟨o2,k i2 (by simp) _ e2,r2⟩,⟨o3,k i3 (by simp) _ e3,r3⟩⟩
 item:=by
  intro X hP hw hK hc i pins s σ H E I hf st hg
  subst hP hw hK
  obtain⟨xs,ys,vs,x,y,v,hx,hy,hv,ex,ey,ev⟩:=hg
  obtain⟨hz,hp,⟨u1,u2,u3,hq⟩,j1,j2,j3⟩:=st
  obtain⟨its,rv,tp,_⟩:=I.list hx
  obtain⟨its2,rv2,tp2,_⟩:=I.tuple hy
  obtain⟨its3,rv3,tp3,_⟩:=I.tuple hv
  obtain⟨xu,hxu,rx⟩:=rv.get ex
  obtain⟨yu,hyu,ry⟩:=rv2.get ey
  obtain⟨vu,hvu,rw3⟩:=rv3.get ev
  refine MK D hz hp hq j1 j2 j3 (show s.heap.IsList a its.toArray from tp.isList) (show s.heap.IsTuple b its2.toArray from tp2) (show s.heap.IsTuple c its3.toArray from tp3) (x:=xu) (y:=yu) (v:=vu) (by simpa using hxu) (by simpa using hyu) (by simpa using hvu) fun h' z' q' w1 w2 w3 t' _ kp=>⟨_,rfl,?_⟩
  refine aag z' fun h2 z2 b2=>?_
  have lt:∀ {c o},s.heap.get? c=some o->c < s.heap.objs.size:=fun e=>U6 e
  have zne:s.heap.objs.size≠z:=WM (lt hz)
  have hfr:H s.heap.objs.size=none:=I.fresh
  have I1:Inv X pins σ (upd H s.heap.objs.size (.tup [x,y,v])) { s with heap:=s.heap.push { cls:=.type "tuple",data:=.seq #[xu,yu,vu] } } :=
   I.laid (t':=s.toks) (fun _ _ e=>Ux _ e) (U0 _) ⟨by show 3<=sizeLine; decide,[xu,yu,vu],.cons rx (.cons ry (.cons rw3 .nil)),⟨_,UT _ rfl,rfl,_,rfl⟩⟩
  have blt:∀ c∈[z,p,q,i1,i2,i3],c < s.heap.objs.size:=fun c hc=>by
   obtain⟨_,e1,_⟩:=j1
   obtain⟨_,e2,_⟩:=j2
   obtain⟨_,e3,_⟩:=j3
   simp only[V3,Ws,or_false] at hc
   rcases hc with rfl | rfl | rfl | rfl | rfl | rfl
   ·exact lt hz
   ·exact lt hp
   ·exact lt hq
   ·exact lt e1
   ·exact lt e2
   ·exact lt e3
  have ff:∀ c∈[z,p,q,i1,i2,i3],xf X pins (upd H s.heap.objs.size (.tup [x,y,v])) c:=fun c hc=>by
   obtain⟨f0,fr⟩:=hf c hc
   exact⟨by rw[bB (Vh (blt c hc))]; exact f0,fr⟩
  have kk:∀ c o,c ∉ [z,q,i1,i2,i3]->(s.heap.push { cls:=.type "tuple",data:=.seq #[xu,yu,vu] }).get? c=some o->h2.get? c=some o:=fun c o hc e=>by
   have c1:c≠z:=fun h=>hc (by simp [h])
   refine (b2.2 c c1).trans ?_
   rcases YW e with⟨ec,eo⟩ | e'
   ·subst ec
    subst eo
    exact t'
   ·exact kp c o c1 (fun h=>hc (by simp [h])) (fun h=>hc (by simp [h])) (fun h=>hc (by simp [h])) (fun h=>hc (by simp [h])) e'
  have I2:Inv X pins σ (upd H s.heap.objs.size (.tup [x,y,v])) { s with heap:=h2 } :=
   Inv.iy (s:={ s with heap:=s.heap.push { cls:=.type "tuple",data:=.seq #[xu,yu,vu] } }) (h':=h2) (t':=s.toks) (ch:=[z,q,i1,i2,i3]) I1 kk fun c hc=>ff c (by
    simp only[V3] at hc ⊢
    rcases hc with h | h | h | h | h
    ·exact .inl h
    ·exact .inr (.inr (.inl h))
    ·exact .inr (.inr (.inr (.inl h)))
    ·exact .inr (.inr (.inr (.inr (.inl h))))
    ·exact .inr (.inr (.inr (.inr (.inr h)))))
  refine⟨.ref s.heap.objs.size,_,I2,rfl,⟨_,x,y,v,hfr,rfl,fun zs hzs=>?_,fun zs hzs=>?_,fun zs hzs=>?_,rfl⟩,⟨z2,(b2.2 _ D.pz).trans (kp _ _ D.pz D.pq D.pa D.pb D.pc hp),⟨_,_,_,(b2.2 _ D.qz).trans q'⟩,dj w1 b2 D.az,bV w2 b2 D.bz,bV w3 b2 D.cz⟩,fun c hc=>(ff c hc).1⟩
  ·rw[I.oW hzs hx]; exact ex
  ·rw[I.fJ hzs hy]; exact ey
  ·rw[I.fJ hzs hv]; exact ev
 done:=by
  intro X hP hw hK hc i pins s σ H E I hf st hg
  subst hP hw hK
  obtain⟨xs,hx,hend⟩:=hg
  obtain⟨hz,hp,⟨u1,u2,u3,hq⟩,j1,j2,j3⟩:=st
  obtain⟨its,rv,tp,_⟩:=I.list hx
  have l1:=rv.length
  refine QK (I.ok.hd hc) D hz hp j1 (show s.heap.IsList a its.toArray from tp.isList) (by simp; lia) fun h' kp=>⟨rfl,?_⟩
  exact I.iy (t':=s.toks) (ch:=[z,q,i1,i2,i3]) (fun c o hc e=>kp c o (fun h=>hc (by simp [h])) (fun h=>hc (by simp [h])) (fun h=>hc (by simp [h])) (fun h=>hc (by simp [h])) (fun h=>hc (by simp [h])) e)
   fun c hc=>hf c (by simp only[V3] at hc ⊢; rcases hc with h | h | h | h | h; exact .inl h; exact .inr (.inr (.inl h)); exact .inr (.inr (.inr (.inl h))); exact .inr (.inr (.inr (.inr (.inl h)))); exact .inr (.inr (.inr (.inr (.inr h)))))
 self:=fun _ _ _ _ _ st h=>Y0 st.1 h
def iZ3 (K:Vi) (ta:TA):TI:=fun σ H R=>ta σ H fun ws H1=>∃ a b c xs ys vs,ws=[.ref a,.ref b,.ref c]/\SqL K H1 a xs/\SqT K H1 b ys/\SqT K H1 c vs/\R (It3 K a b c) H1
theorem RL {X:Cx} {elts:List Expr} {x1} {tpos:ZG} {a b c:Expr} {ta:TA} {p pos:ZG} (hg:Gl X "zip") (hm:X.mg "zip" = none) (ha:PA X [a,b,c] ta) (hs:V4 [a,b,c] X.env=[(false,X7 a X.env),(false,X7 b X.env),(false,X7 c X.env)]:=by rfl) (hs2:V4 [b,c] X.env=[(false,X7 b X.env),(false,X7 c X.env)]:=by rfl) :
  PI X (.Tuple elts x1 tpos) (.Call (.Name "zip" p) [a,b,c] [] pos) (iZ3 X.K ta):=by
 intro pins s σ H R I h
 refine Call_ (iK I hg hm boot_zip (Wq (thn (ha pos pins s σ H _ I h) fun us s1 ⟨vs,H1,I1,r1,q1⟩=>?_) (by rw[hs,hs2]) (by rw[hs2]; rfl)))
 obtain⟨d1,d2,d3,xs,ys,ws,e,hx,hy,hv,q⟩:=q1
 subst e
 cases r1 with
 | cons ru1 r1 =>
 cases r1 with
 | cons ru2 r1 =>
 cases r1 with
 | cons ru3 r1 =>
 cases r1
 cases ru1
 cases ru2
 cases ru3
 obtain⟨its,_,tp,_⟩:=I1.list hx
 obtain⟨its2,_,tp2,_⟩:=I1.tuple hy
 obtain⟨its3,_,tp3,_⟩:=I1.tuple hv
 refine Np (show s1.heap.IsList d1 its.toArray from tp.isList) (show s1.heap.IsTuple d2 its2.toArray from tp2) (show s1.heap.IsTuple d3 its3.toArray from tp3) fun h' z' p' q' j1 j2 j3 kp=>?_
 have lc:d1 < s1.heap.objs.size:=by obtain⟨o,e,_⟩:=tp.isList; exact U6 e
 have ld:d2 < s1.heap.objs.size:=by obtain⟨o,e,_⟩:=tp2; exact U6 e
 have le:d3 < s1.heap.objs.size:=by obtain⟨o,e,_⟩:=tp3; exact U6 e
 have D:PB (s1.heap.objs.size+5) (s1.heap.objs.size+3) (s1.heap.objs.size+4) s1.heap.objs.size (s1.heap.objs.size+1) (s1.heap.objs.size+2) d1 d2 d3:=J3 lc ld le
 refine Y0 z' ⟨_,_,_,_,H1,rfl,I1.kept (t':=s1.toks) kp,N6 D,⟨z',p',⟨_,_,_,q'⟩,j1,j2,j3⟩,fun e he=>?_,q⟩
 have hle:s1.heap.objs.size<=e:=by
  simp only[V3,Ws,or_false] at he
  rcases he with rfl | rfl | rfl | rfl | rfl | rfl <;> lia
 exact I1.Gd hle (I1.hok.fresh hle)
theorem MF {K:Vi} {a b c D:Addr} {xs ys vs:List V} {g:TG} {tt:TT} {te:TE} {H1:Hp} {Q:Hp->Prop} {σ0:St} (hlen:xs.length=ys.length) (hlen2:xs.length=vs.length) (Pv:Nat->List V->St->Hp->Prop) (h0:Pv 0 [] σ0 (upd H1 D (.lst [])))
  (hl:∀ i zs σ H,i<=xs.length->Pv i zs σ H->SqL K H a xs/\SqT K H b ys/\SqT K H c vs/\H D=some (.lst zs))
  (hs:∀ i zs x y v p σ H,xs[i]? = some x->ys[i]? = some y->vs[i]? = some v->H p=none->Pv i zs σ H->g (.ref p) σ (upd H p (.tup [x,y,v])) fun σ3 H3=>tt σ3 H3 fun c H4=>if c=true then te σ3 H4 fun v H5=>H5 D=some (.lst zs)/\zs.length < sizeLine/\Pv (i+1) (zs++[v]) σ3 (upd H5 D (.lst (zs++[v]))) else Pv (i+1) zs σ3 H4)
  (hd:∀ zs σ H,Pv xs.length zs σ H->Q H):iz D σ0 (It3 K a b c) g tt te H1 Q:=by
 refine⟨fun i m zs σ H=>m=xs.length - i/\i<=xs.length/\Pv i zs σ H,⟨xs.length,by simp,Vr _,h0⟩,?_⟩
 rintro i m zs σ H ⟨rfl,hi,p⟩
 obtain⟨q1,q2,q3,qD⟩:=hl i zs σ H hi p
 refine⟨qD,?_⟩
 by_cases hlt:i < xs.length
 ·have hlt2:i < ys.length:=by lia
  have hlt3:i < vs.length:=by lia
  refine .inr ⟨⟨xs,ys,vs,xs[i],ys[i],vs[i],q1,q2,q3,by simp [hlt],by simp [hlt2],by simp [hlt3]⟩,Pv (i+1),fun zs' σ' H' p'=>⟨xs.length - (i+1),by lia,rfl,hlt,p'⟩,fun v H' y=>?_⟩
  obtain⟨pp,x,y,v,hp,rfl,hx,hy,hv,rfl⟩:=y
  exact hs i zs x y v pp σ _ (hx xs q1) (hy ys q2) (hv vs q3) hp p
 ·have e:i=xs.length:=by lia
  subst e
  exact .inl ⟨⟨xs,q1,U0 _⟩,hd zs σ H p⟩
end L2
namespace L2
open PySem PySem.Spec PyProof.Rows
section
variable {X:Cx}
def G4 (K:Vi):R2:=fun x y H Q=>Cj K x y H Q∨∃ (a:Addr) (ns:List Int),x = .ref a/\y = .non/\SqT K H a (ns.map V.int)/\Q (.bl true) H
theorem Jy (hu:X.A.units < cLine):OpR X (Xa .NotEq) (G4 X.K):=by
 intro pins s σ H x y v u Q I rx ry h
 rcases h with h | ⟨a,ns,rfl,rfl,ha,q⟩
 ·exact qm hu pins s σ H x y v u Q I rx ry h
 ·cases rx
  cases ry
  obtain⟨its,r1,p1,_⟩:=I.tuple ha
  exact SeqAt.RcNeAt.tuple_none (show s.heap.IsTuple a its.toArray from p1) hu X.prog X.w X.xe _ ⟨.bl true,H,I,rfl,q⟩
end
end L2
namespace L2
open PySem PySem.Spec PyProof.Rows
section
variable {κ:Type} [DecidableEq κ]
def jL (kvs:List (κ × V)) (k:κ):Option V:=(kvs.find? fun kv=>decide (kv.1=k)).map (·.2)
def putK (kvs:List (κ × V)) (k:κ) (v:V):List (κ × V) :=
 if (kvs.any fun kv=>decide (kv.1=k))=true then kvs.map (fun kv=>if kv.1=k then (kv.1,v) else kv) else kvs++[(k,v)]
theorem Ku {k:κ}:jL ([]:List (κ × V)) k=none:=rfl
theorem eO {p:κ × V} {r:List (κ × V)} {k:κ} (e:p.1=k):jL (p::r) k=some p.2:=by simp [jL,Zj,e]
theorem dz {p:κ × V} {r:List (κ × V)} {k:κ} (e:¬ p.1=k):jL (p::r) k=jL r k:=by simp [jL,Zj,e]
theorem lB (k:κ):∀ kvs:List (κ × V),(kvs.any fun kv=>decide (kv.1=k))=(jL kvs k).isSome
 | []=>rfl
 | p::r=>by
  rw[Yz]
  by_cases e:p.1=k
  ·simp only[eO e,decide_eq_true e,Bool.true_or,Option.isSome_some]
  ·rw[dz e,decide_eq_false e,abb]; exact lB k r
theorem Bo (k j:κ) (y:V):∀ kvs:List (κ × V),jL (kvs.map fun kv=>if kv.1=k then (kv.1,y) else kv) j=(jL kvs j).map fun x=>if j=k then y else x
 | []=>rfl
 | p::r=>by
  have ih:=Bo k j y r
  rw[Vw]
  by_cases h:p.1=k
  ·rw[if_pos h]
   by_cases e:p.1=j
   ·rw[eO (p:=(p.1,y)) e,eO e,aaQ,if_pos (e.symm.trans h)]
   ·rw[dz (p:=(p.1,y)) e,dz e,ih]
  ·rw[if_neg h]
   by_cases e:p.1=j
   ·rw[eO (p:=p) e,eO e,aaQ,if_neg (fun z=>h (e.trans z))]
   ·rw[dz (p:=p) e,dz e,ih]
theorem wD (k j:κ) (y:V):∀ kvs:List (κ × V),jL kvs k=none->jL (kvs++[(k,y)]) j=if j=k then some y else jL kvs j
 | [],_=>by
  by_cases e:k=j
  ·rw[if_pos e.symm]; exact eO (p:=(k,y)) e
  ·rw[if_neg (fun z=>e z.symm)]; exact dz (p:=(k,y)) e
 | p::r,hn=>by
  rw[List.cons_append]
  have hk:¬ p.1=k:=fun z=>by rw[eO z] at hn; cases hn
  rw[dz hk] at hn
  have ih:=wD k j y r hn
  by_cases e:p.1=j
  ·rw[eO e,eO e,if_neg (fun z=>hk (e.trans z))]
  ·rw[dz e,dz e,ih]
theorem KC (kvs:List (κ × V)) (k j:κ) (y:V):jL (putK kvs k y) j=if j=k then some y else jL kvs j:=by
 unfold putK
 by_cases a:(kvs.any fun kv=>decide (kv.1=k))=true
 ·rw[if_pos a,Bo]
  rw[lB] at a
  by_cases e:j=k
  ·obtain⟨x,hx⟩:=Option.isSome_iff_exists.mp a
   rw[if_pos e,e,hx,aaQ,if_pos rfl]
  ·rw[if_neg e]
   cases jL kvs j with
   | none=>rfl
   | some x=>rw[aaQ,if_neg e]
 ·rw[if_neg a]
  refine wD k j y kvs ?_
  rw[lB] at a
  cases q:jL kvs k with
  | none=>rfl
  | some x=>rw[q] at a; exact (a rfl).elim
theorem kJ (kvs:List (κ × V)) (k:κ) (v:V):(putK kvs k v).length<=kvs.length+1:=by
 unfold putK
 split
 ·rw[Uy]; lia
 ·rw[Va,Vd,List.length_nil]; lia
theorem oX {kvs:List (κ × V)} {k:κ} (v:V) (h:jL kvs k=none):putK kvs k v=kvs++[(k,v)]:=by
 unfold putK
 rw[lB,h]
 exact if_neg (by decide)
theorem Gf.qi {o:Option V} {u:Option Value} (r:Gf o u):o.isSome=u.isSome:=by
 cases o with
 | none=>cases u with
  | none=>rfl
  | some _=>exact (show False from r).elim
 | some _=>cases u with
  | none=>exact (show False from r).elim
  | some _=>rfl
theorem KV.val {kvs:List (κ × V)} {vs:List (κ × Value)} (r:KV kvs vs) (k:κ):Gf (jL kvs k) (abn vs k):=by
 unfold KV at r
 induction r with
 | nil=>exact YL
 | @cons p q ps qs h t ih =>
  obtain⟨h1,h2⟩:=h
  by_cases e:p.1=k
  ·have e':q.1=k:=h1.symm.trans e
   have b:abn (q::qs) k=some q.2:=by simp [abn,Zj,e']
   rw[eO e,b]; exact h2
  ·have e':¬ q.1=k:=fun z=>e (h1.trans z)
   have b:abn (q::qs) k=abn qs k:=by simp [abn,Zj,e']
   rw[dz e,b]; exact ih
theorem KV.any {kvs:List (κ × V)} {vs:List (κ × Value)} (r:KV kvs vs) (k:κ):(kvs.any fun kv=>decide (kv.1=k))=vs.any fun kv=>decide (kv.1=k):=by
 unfold KV at r
 induction r with
 | nil=>rfl
 | cons h t ih=>rw[Yz,Yz,ih,h.1]
theorem KV.repl {kvs:List (κ × V)} {vs:List (κ × Value)} (r:KV kvs vs) (k:κ) {y:V} {u:Value} (ry:RelV y u) :
  KV (kvs.map fun kv=>if kv.1=k then (kv.1,y) else kv) (vs.map fun kv=>if kv.1=k then (kv.1,u) else kv):=by
 unfold KV at r ⊢
 induction r with
 | nil=>exact .nil
 | @cons p q ps qs h t ih =>
  rw[Vw,Vw]
  refine .cons ?_ ih
  obtain⟨h1,h2⟩:=h
  by_cases e:p.1=k
  ·rw[if_pos e,if_pos (h1.symm.trans e)]; exact⟨h1,ry⟩
  ·rw[if_neg e,if_neg (fun z=>e (h1.trans z))]; exact⟨h1,h2⟩
theorem KV.put {kvs:List (κ × V)} {vs:List (κ × Value)} (r:KV kvs vs) (k:κ) {y:V} {u:Value} (ry:RelV y u):KV (putK kvs k y) (stored vs k u):=by
 unfold putK stored
 rw[r.any k]
 by_cases e:(vs.any fun kv=>decide (kv.1=k))=true
 ·rw[if_pos e,if_pos e]; exact r.repl k ry
 ·rw[if_neg e,if_neg e]; exact Paired.snoc r ⟨rfl,ry⟩
theorem KV.length {kvs:List (κ × V)} {vs:List (κ × Value)} (r:KV kvs vs):kvs.length=vs.length:=aa8 r
end
theorem Kg {P:Vp} {w:VP} {k:Key} {u:Value} (r:RelV (kV k) u):(eY P w).is k u=true:=by
 cases k with
 | inl i=>obtain⟨t,e⟩:=(show ∃ t,u=Yl i t from r); subst e; exact xZ P w i t
 | inr x=>obtain⟨t,e⟩:=(show ∃ t,u=Value.str x t from r); subst e; exact yE P w x t
theorem v5 {P:Vp} {w:VP}:∀ {ks:List Key} {us:List Value},Vals (ks.map kV) us->ItemsAre (eY P w) ks us
 | [],_,r=>by rw[Z5] at r; cases r; exact .nil
 | k::ks,_,r=>by
  rw[Vw] at r
  cases r with
  | cons h t=>exact .cons (Kg h) (v5 t)
abbrev KT (H:Hp):List (List Key × V)->List (List Key × Addr × Value)->Prop:=Paired fun p q=>p.1=q.1/\H q.2.1=some (.tup (p.1.map kV))/\RelV p.2 q.2.2
theorem KT.val {H:Hp} {kvs:List (List Key × V)} {xs:List (List Key × Addr × Value)} (r:KT H kvs xs) (k:List Key):Gf (jL kvs k) ((atKey xs k).map (·.2)):=by
 induction r with
 | nil=>exact YL
 | @cons p q ps qs h t ih =>
  obtain⟨h1,_,h2⟩:=h
  by_cases e:p.1=k
  ·have e':q.1=k:=h1.symm.trans e
   have b:atKey (q::qs) k=some q.2:=by simp [atKey,Zj,e']
   rw[eO e,b]; exact h2
  ·have e':¬ q.1=k:=fun z=>e (h1.trans z)
   have b:atKey (q::qs) k=atKey qs k:=by simp [atKey,Zj,e']
   rw[dz e,b]; exact ih
theorem KT.repl {H:Hp} {kvs:List (List Key × V)} {xs:List (List Key × Addr × Value)} (r:KT H kvs xs) (k:List Key) {y:V} {u:Value} (ry:RelV y u) :
  KT H (kvs.map fun kv=>if kv.1=k then (kv.1,y) else kv) (xs.map (putAt k u)):=by
 induction r with
 | nil=>exact .nil
 | @cons p q ps qs h t ih =>
  rw[Vw,Vw]
  refine .cons ?_ ih
  obtain⟨h1,h2,h3⟩:=h
  unfold putAt
  by_cases e:p.1=k
  ·rw[if_pos e,if_pos (h1.symm.trans e)]; exact⟨h1,h2,ry⟩
  ·rw[if_neg e,if_neg (fun z=>e (h1.trans z))]; exact⟨h1,h2,h3⟩
theorem KT.put {H:Hp} {kvs:List (List Key × V)} {xs:List (List Key × Addr × Value)} (r:KT H kvs xs) (k:List Key) {b:Addr} {y:V} {u:Value} (hb:H b=some (.tup (k.map kV))) (ry:RelV y u) :
  KT H (putK kvs k y) (storedH xs k b u):=by
 have e:(kvs.any fun kv=>decide (kv.1=k))=(atKey xs k).isSome:=by
  rw[lB,(r.val k).qi,Option.isSome_map]
 unfold putK storedH
 rw[e]
 by_cases q:(atKey xs k).isSome=true
 ·rw[if_pos q,if_pos q]; exact r.repl k ry
 ·rw[if_neg q,if_neg q]; exact Paired.snoc r ⟨rfl,hb,ry⟩
theorem KT.keeps {H H':Hp} {kvs:List (List Key × V)} {xs:List (List Key × Addr × Value)} (r:KT H kvs xs) (ht:∀ b ys,H b=some (.tup ys)->H' b=some (.tup ys)):KT H' kvs xs :=
 Paired.Sq r fun _ _ z=>⟨z.1,ht _ _ z.2.1,z.2.2⟩
section
variable {P:Vp} {w:VP} {H:Hp} {h:Wc} {a:Addr}
theorem Qx {u:HO} (ok:HOk P w H h) (e:Rd H a u):fB P w H h a u:=e.ok ok
theorem KR {kvs:List (Key × V)} (ok:HOk P w H h) (e:Rd H a (.dK kvs)):kvs.length<=sizeLine/\(a == Zo)=false/\∃ vs,KV kvs vs/\h.DictOf (eY P w) a vs :=
 show fB P w H h a (.dK kvs) from Qx ok e
theorem SM {kvs:List (Key × V)} (ok:HOk P w H h) (e:H a=some (.dK kvs)):kvs.length<=sizeLine/\(a == Zo)=false/\∃ vs,KV kvs vs/\h.DictOf (eY P w) a vs:=KR ok (.inl e)
theorem uF {ks:List Key} (ok:HOk P w H h) (e:H a=some (.tup (ks.map kV))):(abE (eY P w)).is h ks a:=by
 obtain⟨_,its,r,o,h1,h2,n,h3⟩:=(show fB P w H h a (.tup (ks.map kV)) from ok a _ e)
 exact⟨o,its.toArray,n,h1,h2,h3,by simpa using v5 r⟩
theorem Kr {kvs:List (List Key × V)} (ok:HOk P w H h) (e:Rd H a (.dT kvs)):kvs.length<=sizeLine/\(a == Zo)=false ∧
  ∃ xs,KT H kvs xs/\h.DictOfH (abE (eY P w)) a xs:=by
 obtain⟨z,y,xs,r,o,es,ep,h1,h2,h3,h4,h5⟩:=(show fB P w H h a (.dT kvs) from Qx ok e)
 refine⟨z,y,xs,r,o,es,ep,h1,h2,h3,h4,fun x hx=>?_,h5⟩
 have all:∀ {l:List (List Key × V)} {m:List (List Key × Addr × Value)},KT H l m->∀ x∈m,(abE (eY P w)).is h x.1 x.2.1:=by
  intro l m q
  induction q with
  | nil=>intro x hx; exact nomatch hx
  | @cons p q ps qs hq t ih =>
   intro x hx
   rcases List.mem_cons.mp hx with e | hx
   ·subst e
    exact uF ok (by rw[← hq.1]; exact hq.2.1)
   ·exact ih x hx
 exact all r x hx
theorem PK {kvs:List (List Key × V)} (ok:HOk P w H h) (e:H a=some (.dT kvs)):kvs.length<=sizeLine/\(a == Zo)=false ∧
  ∃ xs,KT H kvs xs/\h.DictOfH (abE (eY P w)) a xs:=Kr ok (.inl e)
end
def Jh (H:Hp) (a:Addr) (y:V) (r:Option V):Prop :=
 (∃ kvs k,Rd H a (.dK kvs)/\y=kV k/\r=jL kvs k)∨∃ kvs k b,Rd H a (.dT kvs)/\y = .ref b/\H b=some (.tup (k.map kV))/\r=jL kvs k
def PJ (H:Hp) (a:Addr) (y v:V) (H':Hp):Prop :=
 (∃ kvs k,H a=some (.dK kvs)/\y=kV k/\kvs.length < sizeLine/\H'=upd H a (.dK (putK kvs k v))) ∨
 ∃ kvs k b,H a=some (.dT kvs)/\y = .ref b/\H b=some (.tup (k.map kV))/\kvs.length < sizeLine/\H'=upd H a (.dT (putK kvs k v))
theorem Jh.t {H:Hp} {a b:Addr} {kvs:List (List Key × V)} {k:List Key} (e:H a=some (.dT kvs)) (eb:H b=some (.tup (k.map kV))):Jh H a (.ref b) (jL kvs k):=.inr ⟨kvs,k,b,.inl e,rfl,eb,rfl⟩
theorem PJ.t {H:Hp} {a b:Addr} {kvs:List (List Key × V)} {k:List Key} {v:V} (e:H a=some (.dT kvs)) (eb:H b=some (.tup (k.map kV))) (hl:kvs.length < sizeLine) :
  PJ H a (.ref b) v (upd H a (.dT (putK kvs k v))):=.inr ⟨kvs,k,b,e,rfl,eb,hl,rfl⟩
section
variable {X:Cx} {pins:List (Addr × Yh)} {σ:St} {H:Hp} {s:Uz} {a:Addr} {y v:V} {u r:Value} {o:Option V} {A:VR} {E:Value->Uz->Prop}
theorem Inv.big (I:Inv X pins σ H s):Zo < s.heap.objs.size:=by
 have h:VG < s.heap.objs.size:=(I.mod.glob.keeps I.bk).lt
 exact Nat.lt_trans (by decide) h
theorem IK {Q:Value->Uz->Prop} (hu:A.units+1 < cLine) (I:Inv X pins σ H s) (g:Jh H a y (some v)) (ry:RelV y u) (h:∀ w' s',Inv X pins σ H s'->RelV v w'->Q w' s') :
  U4 (Vk X.prog X.w) A (aa4 (.ref a) u) Q E s:=by
 rcases g with⟨kvs,k,e,ey,l⟩ | ⟨kvs,k,b,e,ey,eb,l⟩
 ·subst ey
  obtain⟨z,hd,vs,rel,dd⟩:=KR I.hok e
  obtain⟨w',hw,rw'⟩:=Gf.some_of (v:=v) (o:=abn vs k) (by rw[l]; exact rel.val k)
  exact wpAny_getItem_of (Kg ry) dd.mapOf hw (h w' _ (I.tok _) rw')
 ·subst ey
  cases (show u=Vy b from ry)
  obtain⟨z,hd,xs,rel,dd⟩:=Kr I.hok e
  obtain⟨w',hw,rw'⟩:=Gf.some_of (v:=v) (o:=(atKey xs k).map (·.2)) (by rw[l]; exact rel.val k)
  obtain⟨p,hp,hp2⟩:=Option.map_eq_some_iff.mp hw
  refine wpAny_getItem_heap (abd hu) (uF I.hok eb) dd hp ?_
  rw[hp2]
  exact h w' _ (I.tok _) rw'
theorem O3 {Q:Value->Uz->Prop} (hu:A.units+1 < cLine) (I:Inv X pins σ H s) (g:Jh H a y o) (ry:RelV y u) (h:∀ s',Inv X pins σ H s'->Q (.bool (!o.isSome)) s') :
  U4 (Vk X.prog X.w) A (Xa .NotIn u (.ref a)) Q E s:=by
 rcases g with⟨kvs,k,e,ey,l⟩ | ⟨kvs,k,b,e,ey,eb,l⟩
 ·subst ey
  obtain⟨z,hd,vs,rel,dd⟩:=KR I.hok e
  refine wpAny_notIn_of (Kg ry) hd dd.mapOf ?_
  rw[← (rel.val k).qi,← l]
  exact h _ (I.tok _)
 ·subst ey
  cases (show u=Vy b from ry)
  obtain⟨z,hd,xs,rel,dd⟩:=Kr I.hok e
  refine wpAny_notIn_heap (abd hu) (uF I.hok eb) hd dd ?_
  have q:=(rel.val k).qi
  rw[Option.isSome_map] at q
  rw[← q,← l]
  exact h _ (I.tok _)
theorem za {h':Wc} {t':Nat} {ob:HO} (I:Inv X pins σ H s) (mu:Mut (H a)) (hs:Xm a s.heap h') (he:∃ q,h'.get? a=some q) (new:fB X.prog X.w (upd H a ob) h' a ob) :
  Inv X pins σ (upd H a ob) { s with heap:=h',toks:=t' } :=
 I.write (x:=a) (e:=a) mu (.inl rfl) (fun b q hb z=>(hs.2 b hb).trans z) he new
theorem Qq {P:Vp} {w:VP} {H':Hp} {h':Wc} {kvs:List (Key × V)} {vs:List (Key × Value)} (z:kvs.length<=sizeLine) (hd:(a == Zo)=false) (rel:KV kvs vs) (dd:h'.DictOf (eY P w) a vs) :
  fB P w H' h' a (.dK kvs):=⟨z,hd,vs,rel,dd⟩
theorem DQ {H':Hp} {Q:Unit->Uz->Prop} (hu:A.units+1 < cLine) (I:Inv X pins σ H s) (g:PJ H a y v H') (ry:RelV y u) (rv:RelV v r) (h:∀ s',Inv X pins σ H' s'->Q () s') :
  U4 (Vk X.prog X.w) A (setItem (.ref a) u r) Q E s:=by
 rcases g with⟨kvs,k,e,ey,l,eH⟩ | ⟨kvs,k,b,e,ey,eb,l,eH⟩
 ·subst ey eH
  obtain⟨z,hd,vs,rel,dd⟩:=SM I.hok e
  have hz:vs.length<=sizeLine:=by rw[← rel.length]; exact z
  have hl:(putK kvs k v).length<=sizeLine:=by have:=kJ kvs k v; lia
  refine wpAny_setItem_pairs (hsz:=hz) (Kg ry) dd fun h' dd' hs=>h _ ?_
  have he:∃ q,h'.get? a=some q:=let ⟨q,_,_,hq,_⟩:=dd'; ⟨q,hq⟩
  exact za I (by rw[e]; exact YL) hs he (Qq hl hd (rel.put k rv) dd')
 ·subst ey eH
  cases (show u=Vy b from ry)
  obtain⟨z,hd,xs,rel,dd⟩:=PK I.hok e
  have hz:xs.length<=sizeLine:=by rw[← aa8 rel]; exact z
  have hl:(putK kvs k v).length<=sizeLine:=by have:=kJ kvs k v; lia
  refine wpAny_setItem_heap (hsz:=hz) (abd hu) (uF I.hok eb) dd fun h' dd' hs=>h _ ?_
  obtain⟨q,es,ep,hq,h2,h3,h4,_,h5⟩:=dd'
  refine za I (by rw[e]; exact YL) hs ⟨q,hq⟩ ⟨hl,hd,_,(rel.put k eb rv).keeps fun c ys ec=>?_,q,es,ep,hq,h2,h3,h4,h5⟩
  rw[bB (PL ec e (fun z=>nomatch z))]
  exact ec
end
section
variable {X:Cx} {pins:List (Addr × Yh)} {σ:St} {H:Hp} {s:Uz} {a:Addr} {kvs:List (Key × V)} {k:Key} {u:Value} {A:VR} {E:Value->Uz->Prop}
end
def S9 (i:Expr):Prop:=∀ ov iv,abR i false ov iv=operate [ov,iv] (aa4 ov iv)
theorem Od {prog:Vp} {w:VP} {A:VR} {E:Value->Uz->Prop} {s:Uz} {env:Env} {value slice:Expr} {pos:ZG} {T id:String} {Q:Value->Uz->Prop}
  (hl:typeLookup (.type T) "__getitem__" = pure (some (.builtin id))) (hs:S9 slice)
  (h:U4 (Vk prog w) A (X7 value env) (fun o s₁=>U4 (Vk prog w) A (X7 slice env) (fun i s₂=>s₂.TypeIs o T/\U4 (Vk prog w) A (aa4 o i) Q E s₂) E s₁) E s) :
  U4 (Vk prog w) A (X7 (.Subscript value slice pos) env) Q E s:=by
 refine Subscript_ (Xj h (fun o s₁ h₁=>Xj h₁ (fun i s₂ h₂=>?_) fun _ _ x=>x) fun _ _ x=>x)
 obtain⟨hT,h₂⟩:=h₂
 unfold subscriptTail
 refine Uw ?_
 rw[getitemInPython_of_ne hT.not_modules]
 refine Uw (ZV hT hl ?_)
 have fin:U4 (Vk prog w) A (abR slice false o i) (fun r s₃=>U4 (Vk prog w) A (letTemporaryGo value o r >>= fun _=>pure r) Q E s₃) E s₂:=by
  rw[hs o i]
  exact wpAny_operating (Xj h₂ (fun r s₃ h₃=>Uw (wpAny_letTemporaryGo (UJ h₃))) fun _ _ x=>x)
 first
  | exact UJ (Uw fin)
  | exact Uw (UJ (Uw fin))
  | exact Uw fin
theorem xT {X:Cx} {pins:List (Addr × Yh)} {σ:St} {H:Hp} {s:Uz} {a:Addr} {y:V} {o:Option V} (I:Inv X pins σ H s) (g:Jh H a y o):s.TypeIs (.ref a) "dict":=by
 rcases g with⟨kvs,k,e,_,_⟩ | ⟨kvs,k,b,e,_,_,_⟩
 ·obtain⟨_,_,vs,_,dd⟩:=KR I.hok e
  exact dd.typeIs
 ·obtain⟨_,_,xs,_,dd⟩:=Kr I.hok e
  exact dd.typeIs
def RZ (td ty:TE):TE:=fun σ H Q=>td σ H fun x H1=>ty σ H1 fun y H2=>∃ a v,x = .ref a/\Jh H2 a y (some v)/\Q v H2
def O1 (ty td:TE):TE:=fun σ H Q=>ty σ H fun y H1=>td σ H1 fun x H2=>∃ a o,x = .ref a/\Jh H2 a y o/\Q (.bl (!o.isSome)) H2
def Sg (td ty tv:TE):TS:=fun D σ H=>tv σ H fun v H1=>td σ H1 fun x H2=>ty σ H2 fun y H3=>∃ a H4,x = .ref a/\PJ H3 a y v H4/\D.nx σ H4
section
variable {X:Cx} {o i e value:Expr} {pos pos' tpos:ZG} {td ty tv:TE}
theorem Om (hu:X.A.units+1 < cLine) (ho:PE X o td) (hi:PE X i ty) (hs:S9 i):PE X (.Subscript o i pos) (RZ td ty):=by
 intro pins s σ H Q I h
 refine Od PySem.F.slot_dict_getitem.lookup hs (thn (ho pins s σ H _ I h) fun u s1 ⟨x,H1,I1,rx,q1⟩=>thn (hi pins s1 σ H1 _ I1 q1) fun iv s2 ⟨y,H2,I2,ry,a,v,ex,g,q2⟩=>?_)
 subst ex
 obtain rfl:u=Vy a:=rx
 exact⟨xT I2 g,IK hu I2 g ry fun w' s3 I3 rw'=>⟨v,H2,I3,rw',q2⟩⟩
theorem wV (hu:X.A.units+1 < cLine) (hi:PE X i ty) (ho:PE X o td):PC X .NotIn i o (O1 ty td):=by
 intro pins s σ H Q I h
 refine thn (hi pins s σ H _ I h) fun iv s1 ⟨y,H1,I1,ry,q1⟩=>thn (ho pins s1 σ H1 _ I1 q1) fun u s2 ⟨x,H2,I2,rx,a,ov,ex,g,q2⟩=>?_
 subst ex
 obtain rfl:u=Vy a:=rx
 exact O3 hu I2 g ry fun s3 I3=>⟨.bl (!ov.isSome),H2,I3,rfl,q2⟩
theorem Ip (hu:X.A.units+1 < cLine) (ho:PE X o td) (hi:PE X i ty) (hv:PE X value tv) (hs:swapsWith value (some (.Subscript o i pos')) pos.line X.env=pure false) :
  PS X (.Assign [.Subscript o i pos'] value pos) (Sg td ty tv):=by
 intro pins s σ H D I h
 refine wpAny_Assign_Subscript (thn (hv pins s σ H _ I h) fun r s1 ⟨v,H1,I1,rv,q1⟩=>thn (ho pins s1 σ H1 _ I1 q1) fun u s2 ⟨x,H2,I2,rx,q2⟩=>thn (hi pins s2 σ H2 _ I2 q2) fun iv s3 ⟨y,H3,I3,ry,a,H4,ex,g,q3⟩=>?_) hs
 subst ex
 obtain rfl:u=Vy a:=rx
 exact DQ hu I3 g ry rv fun s4 I4=>⟨σ,H4,I4,q3⟩
end
theorem BK {P:Vp} {w:VP} {H:Hp} (h:Wc) (hb:Zo < h.objs.size):fB P w H (h.push { cls:=.type "dict",data:=.dict #[] }) h.objs.size (.dT []) :=
 ⟨Vr _,beq_eq_false_iff_ne.mpr (YG (Vh hb)),[],.nil,_,#[],0,UT _ rfl,⟨rfl,rfl,rfl⟩,rfl,rfl,List.nodup_nil⟩
def QW:TE:=fun _ H Q=>∀ p,H p=none->Q (.ref p) (upd H p (.dT []))
section
variable {X:Cx} {pos:ZG}
theorem Kv:PE X (.Dict [] [] pos) QW:=fun pins s σ H Q I h =>
 wpAny_Dict_empty ⟨.ref s.heap.objs.size,_,I.laid (a:=s.heap.objs.size) (o:=.dT []) (t':=s.toks) (fun _ _ q=>Ux _ q) (U0 _) (BK s.heap I.big),rfl,h _ (I.hok.fresh (U0 _))⟩
end
def Fp:List (TE × TE)->St->Hp->(List (V × V)->Hp->Prop)->Prop
 | [],_,H,Q=>Q [] H
 | (tk,tv)::r,σ,H,Q=>tk σ H fun x H1=>tv σ H1 fun y H2=>Fp r σ H2 fun ps H3=>Q ((x,y)::ps) H3
abbrev VV:List (V × V)->List (Value × Value)->Prop:=Paired fun p q=>RelV p.1 q.1/\RelV p.2 q.2
def PPs (X:Cx) (pos:ZG) (keys:List (Option Expr)) (values:List Expr) (trs:List (TE × TE)):Prop :=
 ∀ (pins:List (Addr × Yh)) (s:Uz) (σ:St) (H:Hp) (Q:List (V × V)->Hp->Prop),Inv X pins σ H s->Fp trs σ H Q →
  U4 (Vk X.prog X.w) X.A (evalPairs (pairTrees keys values X.env pos)) (fun vs s'=>∃ ps H',Inv X pins σ H' s'/\VV ps vs/\Q ps H') X.xe s
theorem Pn {X:Cx} {pos:ZG}:PPs X pos [] [] []:=fun pins s σ H Q I h=>pairTrees_nil_walk ⟨[],H,I,.nil,h⟩
theorem zK {X:Cx} {pos:ZG} {k v:Expr} {ks:List (Option Expr)} {vs:List Expr} {tk tv:TE} {trs:List (TE × TE)} (hk:PE X k tk) (hv:PE X v tv) (hr:PPs X pos ks vs trs) :
  PPs X pos (some k::ks) (v::vs) ((tk,tv)::trs):=fun pins s σ H Q I h =>
 pairTrees_cons_walk (thn (hk pins s σ H _ I h) fun u s1 ⟨x,H1,I1,rx,q1⟩=>thn (hv pins s1 σ H1 _ I1 q1) fun w2 s2 ⟨y,H2,I2,ry,q2⟩ =>
  thn (hr pins s2 σ H2 _ I2 q2) fun ws s3 ⟨ps,H3,I3,rel,q3⟩=>⟨(x,y)::ps,H3,I3,.cons ⟨rx,ry⟩ rel,q3⟩)
section
variable {X:Cx} {pins:List (Addr × Yh)} {σ:St} {H:Hp} {s:Uz} {a:Addr} {y d:V} {u r:Value} {o:Option V} {A:VR} {E:Value->Uz->Prop}
end
section
variable {X:Cx} {o e f:Expr} {apos cpos:ZG} {td ty tx:TE}
end
section
variable {X:Cx} {pins:List (Addr × Yh)} {σ:St} {H:Hp} {s:Uz} {a:Addr} {kvs:List (Key × V)} {A:VR} {E:Value->Uz->Prop}
end
section
variable {X:Cx} {pins:List (Addr × Yh)} {σ:St} {H:Hp} {s:Uz} {a:Addr} {y:V} {u:Value} {A:VR} {E:Value->Uz->Prop}
end
end L2
namespace L2
open PySem PySem.Spec PyProof.Rows
theorem nZ.uM {k:Nat} {A:VR} (r:nZ k A):A.units+1 < cLine:=by have:=r.un; lia
section
variable {X:Cx} {pins:List (Addr × Yh)} {σ:St} {H:Hp} {s:Uz} {a b:Addr} {v:V} {r:Value} {A:VR} {E:Value->Uz->Prop}
theorem DW {kvs:List (List Key × V)} {k:List Key} {Q:Unit->Uz->Prop} (hu:A.units < cLine) (I:Inv X pins σ H s) (e:H a=some (.dT kvs)) (eb:H b=some (.tup (k.map kV))) (l:kvs.length < sizeLine) (rv:RelV v r) (h:∀ s',Inv X pins σ (upd H a (.dT (putK kvs k v))) s'->Q () s') :
  U4 (Vk X.prog X.w) A (dictSet a (.ref b) r) Q E s:=by
 obtain⟨z,hd,xs,rel,dd⟩:=PK I.hok e
 have hz:xs.length<=sizeLine:=by rw[← aa8 rel]; exact z
 have hl:(putK kvs k v).length<=sizeLine:=by have:=kJ kvs k v; lia
 refine wpAny_dictSet_heap (hsz:=hz) hu (uF I.hok eb) dd fun h' dd' hs=>h _ ?_
 obtain⟨q,es,ep,hq,h2,h3,h4,_,h5⟩:=dd'
 refine za I (by rw[e]; exact YL) hs ⟨q,hq⟩ ⟨hl,hd,_,(rel.put k eb rv).keeps fun c ys ec=>?_,q,es,ep,hq,h2,h3,h4,h5⟩
 rw[bB (PL ec e (fun z=>nomatch z))]
 exact ec
end
def Hu (p:Addr):List (V × V)->Hp->(Hp->Prop)->Prop
 | [],H,Q=>Q H
 | (x,y)::r,H,Q=>∃ kvs k b,H p=some (.dT kvs)/\x = .ref b/\H b=some (.tup (k.map kV))/\kvs.length < sizeLine/\Hu p r (upd H p (.dT (putK kvs k y))) Q
theorem Rt {X:Cx} {pins:List (Addr × Yh)} {σ:St} {p:Addr} {A:VR} {E:Value->Uz->Prop} (hu:A.units < cLine) {Z:Hp->Prop} {Q:PUnit->Uz->Prop} (hq:∀ H s,Inv X pins σ H s->Z H->Q PUnit.unit s) :
  ∀ {ps:List (V × V)} {vs:List (Value × Value)} {H:Hp} {s:Uz},VV ps vs->Inv X pins σ H s->Hu p ps H Z->U4 (Vk X.prog X.w) A (storeAll p vs) Q E s:=by
 intro ps vs H s r
 induction r generalizing H s with
 | nil =>
  intro I t
  unfold storeAll
  rw[XD]
  exact UJ (hq _ _ I t)
 | @cons x y xs ys h t ih =>
  intro I q
  obtain⟨x1,x2⟩:=x
  obtain⟨y1,y2⟩:=y
  obtain⟨kvs,k,b,e,ex,eb,l,q⟩:=q
  subst ex
  cases (show y1=Vy b from h.1)
  unfold storeAll
  rw[Xp]
  exact Uw (Uw (DW hu I e eb l h.2 fun s' I'=>UJ (ih I' q)))
def Rq (trs:List (TE × TE)):TE:=fun σ H Q=>∀ p,H p=none->Fp trs σ (upd H p (.dT [])) fun ps H2=>Hu p ps H2 fun H3=>Q (.ref p) H3
theorem Ka {X:Cx} {pos:ZG} {keys:List (Option Expr)} {values:List Expr} {trs:List (TE × TE)} (hu:X.A.units < cLine) (h:PPs X pos keys values trs) (hall:keys.all (·.isSome)=true) (hl:keys.length=values.length) (h0:keys≠[])
  (h15:keys.length<=15):PE X (.Dict keys values pos) (Rq trs):=by
 intro pins s σ H Q I q
 have hn:=I.hok.fresh (U0 s.heap.objs.size)
 have I1:=I.laid (a:=s.heap.objs.size) (o:=.dT []) (h':=s.heap.push { cls:=.type "dict",data:=.dict #[] }) (t':=s.toks) (fun _ _ q=>Ux _ q) (U0 _) (BK s.heap I.big)
 refine wpAny_Dict_any hall hl h0 h15 (thn (h pins _ σ _ _ I1 (q _ hn)) fun ws s2 ⟨ps,H2,I2,rel,q2⟩=>?_)
 exact Rt hu (fun H3 s3 I3 q3=>⟨.ref s.heap.objs.size,H3,I3,rfl,q3⟩) rel I2 q2
end L2
namespace L2
open PySem PySem.Spec PyProof.Rows PySem.W
section
variable {n:Nat} {o:Nat->Nat->Bool} {cmp:Nat->Nat->(Bool->Uz->Prop)->Uz->Prop} {s:Uz}
def fj (n:Nat) (p:Array Nat):Prop:=p.toList.Perm (Vb n)
theorem fj.size {p:Array Nat} (h:fj n p):p.size=n:=by
 have:=h.length_eq
 rw[Vt] at this
 exact this
theorem fj.lt {p:Array Nat} (h:fj n p) {i:Nat} (hi:i < n):p.getD i 0 < n:=by
 have hs:i < p.size:=by rw[h.size]; exact hi
 have:p.getD i 0∈p.toList:=by
  simp [Array.getD,hs]
 exact List.mem_range.mp (h.mem_iff.mp this)
theorem fj.ne {p:Array Nat} (h:fj n p) {i j:Nat} (hi:i < n) (hj:j < n) (e:i≠j):p.getD i 0≠p.getD j 0:=by
 have nd:p.toList.Nodup:=h.nodup_iff.mpr List.nodup_range
 have hs:i < p.toList.length:=by rw[Vo,h.size]; exact hi
 have hs':j < p.toList.length:=by rw[Vo,h.size]; exact hj
 intro z
 have a1:p.getD i 0=p.toList[i]:=by simp [Array.getD,show i < p.size by simpa using hs]
 have a2:p.getD j 0=p.toList[j]:=by simp [Array.getD,show j < p.size by simpa using hs']
 rw[a1,a2] at z
 exact e ((abK nd).mp z)
def UpO (o:Nat->Nat->Bool) (p:Array Nat) (k:Nat):Prop:=∀ i j,i < j->j < k->o (p.getD i 0) (p.getD j 0)=true
def DnO (o:Nat->Nat->Bool) (p:Array Nat) (k:Nat):Prop:=∀ i j,i < j->j < k->o (p.getD j 0) (p.getD i 0)=true
variable (tr:∀ i j k,i < n->j < n->k < n->o i j=true->o j k=true->o i k=true) (tot:∀ i j,i < n->j < n->i≠j->o i j=false->o j i=true)
variable (hc:∀ i j,i < n->j < n->∀ C:Bool->Uz->Prop,C (o i j) s->cmp i j C s)
include tr in
theorem UpO.succ {p:Array Nat} (hp:fj n p) {k:Nat} (h1:1<=k) (hk:k < n) (h:UpO o p k) (e:o (p.getD (k - 1) 0) (p.getD k 0)=true):UpO o p (k+1):=by
 intro i j hij hj
 rcases WN j k with h' | h'
 ·exact h i j hij h'
 ·have:j=k:=by lia
  subst this
  rcases WN i (j - 1) with h2 | h2
  ·exact tr _ _ _ (hp.lt (by lia)) (hp.lt (by lia)) (hp.lt hk) (h i (j - 1) h2 (by lia)) e
  ·have:i=j - 1:=by lia
   subst this
   exact e
include tr in
theorem DnO.succ {p:Array Nat} (hp:fj n p) {k:Nat} (h1:1<=k) (hk:k < n) (h:DnO o p k) (e:o (p.getD k 0) (p.getD (k - 1) 0)=true):DnO o p (k+1):=by
 intro i j hij hj
 rcases WN j k with h' | h'
 ·exact h i j hij h'
 ·have:j=k:=by lia
  subst this
  rcases WN i (j - 1) with h2 | h2
  ·exact tr _ _ _ (hp.lt hk) (hp.lt (by lia)) (hp.lt (by lia)) e (h i (j - 1) h2 (by lia))
  ·have:i=j - 1:=by lia
   subst this
   exact e
include tr tot hc in
theorem xH {p:Array Nat} (hp:fj n p) {Q:Nat->Uz->Prop}:∀ (f k:Nat),1<=k->k+f<=n->UpO o p k->(∀ m,k<=m->m<=k+f->UpO o p m->(m=k+f∨o (p.getD m 0) (p.getD (m - 1) 0)=true)->Q m s)->(kas_asc p f k).kasWp cmp Q s
 | 0,k,_,_,hu,h=>h k (U0 _) (U0 _) hu (.inl rfl)
 | f+1,k,h1,hk,hu,h=>by
  show cmp _ _ _ s
  refine hc _ _ (hp.lt (by lia)) (hp.lt (by lia)) _ ?_
  cases e:o (p.getD k 0) (p.getD (k - 1) 0) with
  | true =>
   show Yi cmp (if true=true then _ else _) Q s
   rw[if_pos rfl]
   exact h k (U0 _) (by lia) hu (.inr e)
  | false =>
   show Yi cmp (if false=true then _ else _) Q s
   rw[if_neg U5]
   refine xH hp f (k+1) (by lia) (by lia) (hu.succ tr hp h1 (by lia) (tot _ _ (hp.lt (by lia)) (hp.lt (by lia)) (hp.ne (by lia) (by lia) (by lia)) e)) fun m h2 h3 h4 h5=>h m (by lia) (by lia) h4 ?_
   rcases h5 with z | z
   ·exact .inl (by lia)
   ·exact .inr z
include tr tot hc in
theorem Ba {p:Array Nat} (hp:fj n p) {Q:Array Nat × Nat × Nat->Uz->Prop}:∀ (f k:Nat),1<=k->k+f<=n->DnO o p k->(∀ m,k<=m->m<=k+f->DnO o p m->Q (p,m,0) s)->(kas_desc f p k 0).kasWp cmp Q s
 | 0,k,_,_,hu,h=>h k (U0 _) (U0 _) hu
 | f+1,k,h1,hk,hu,h=>by
  show cmp _ _ _ s
  refine hc _ _ (hp.lt (by lia)) (hp.lt (by lia)) _ ?_
  cases e:o (p.getD k 0) (p.getD (k - 1) 0) with
  | true =>
   show Yi cmp (if true=true then _ else _) Q s
   rw[if_pos rfl,if_neg (by decide)]
   exact Ba hp f (k+1) (by lia) (by lia) (hu.succ tr hp h1 (by lia) e) fun m h2 h3 h4=>h m (by lia) (by lia) h4
  | false =>
   show Yi cmp (if false=true then _ else _) Q s
   rw[if_neg U5]
   show cmp _ _ _ s
   refine hc _ _ (hp.lt (by lia)) (hp.lt (by lia)) _ ?_
   rw[tot _ _ (hp.lt (by lia)) (hp.lt (by lia)) (hp.ne (by lia) (by lia) (by lia)) e]
   show Yi cmp (if true=true then _ else _) Q s
   rw[if_pos rfl]
   exact h k (U0 _) (by lia) hu
theorem qt {p q:Array Nat} {i j:Nat} (h:p[i]? = q[j]?):p.getD i 0=q.getD j 0:=by
 rw[WT,WT,h]
theorem Jk {p:Array Nat} (hp:fj n p) (k:Nat):fj n (kas_rev p 0 k):=by
 have:=mirror_perm p 0 k ((k - 0) / 2)
 exact (Array.perm_iff_toList_perm.mp this).trans hp
theorem K6 {p:Array Nat} {k:Nat} (hk:k<=p.size) (i:Nat):(kas_rev p 0 k).getD i 0=if i < k then p.getD (k - 1 - i) 0 else p.getD i 0:=by
 have e:=getElem?_mirror_all (xs:=p) (i:=0) hk i
 by_cases h:i < k
 ·rw[if_pos ⟨Vr _,h⟩] at e
  rw[if_pos h]
  exact qt (e.trans (by rw[Nat.zero_add]))
 ·rw[if_neg (fun z=>h z.2)] at e
  rw[if_neg h]
  exact qt e
theorem Ro {p:Array Nat} (hp:fj n p) {k:Nat} (hk:k<=n) (h:DnO o p k):UpO o (kas_rev p 0 k) k:=by
 intro i j hij hj
 rw[K6 (by rw[hp.size]; exact hk),K6 (by rw[hp.size]; exact hk),if_pos (by lia),if_pos hj]
 exact h (k - 1 - j) (k - 1 - i) (by lia) (by lia)
include tr tot hc in
theorem J6 {p:Array Nat} (hp:fj n p) {k:Nat} (h1:1<=k) (hk:k<=n) (h:DnO o p k) {Q:Nat × Array Nat->Uz->Prop} (hq:∀ m p',fj n p'->1<=m->m<=n->UpO o p' m->Q (m,p') s):(kas_tail3 k n p).kasWp cmp Q s:=by
 unfold kas_tail3
 rw[ZZ]
 have hp':=Jk hp k
 exact xH tr tot hc hp' (n - k) k h1 (by lia) (Ro hp hk h) fun m h2 h3 h4 _=>hq m _ hp' (by lia) (by lia) h4
include tr tot hc in
theorem Ez (h2:2<=n) {p:Array Nat} (hp:fj n p) {Q:Nat × Array Nat->Uz->Prop} (hq:∀ m p',fj n p'->1<=m->m<=n->UpO o p' m->Q (m,p') s):(kas_count n p).kasWp cmp Q s:=by
 unfold kas_count
 rw[ZZ]
 refine xH tr tot hc hp (n - 1) 1 (U0 _) (by lia) (fun i j hij hj=>by lia) fun m h3 h4 h5 h6=>?_
 show Yi cmp (if (m == n)=true then _ else _) Q s
 by_cases e:(m == n)=true
 ·rw[if_pos e]
  exact hq m p hp h3 (by lia) h5
 ·rw[if_neg e]
  have mn:m < n:=by
   have:¬ m=n:=by simpa using e
   lia
  by_cases g:m > 1
  ·rw[if_pos g]
   show cmp _ _ _ s
   refine hc _ _ (hp.lt (by lia)) (hp.lt (by lia)) _ ?_
   rw[h5 0 (m - 1) (by lia) (by lia)]
   show Yi cmp (if true=true then _ else _) Q s
   rw[if_pos rfl]
   exact hq m p hp h3 (by lia) h5
  ·rw[if_neg g]
   have m1:m=1:=by lia
   subst m1
   have z:o (p.getD 1 0) (p.getD 0 0)=true:=by
    rcases h6 with z | z
    ·lia
    ·exact z
   unfold kas_descPart
   rw[ZZ]
   refine Ba tr tot hc hp (n - 2) 2 (by lia) (by lia) (fun i j hij hj=>?_) fun m h7 h8 h9=>?_
   ·have a1:i=0:=by lia
    have a2:j=1:=by lia
    subst a1 a2
    exact z
   ·show Yi cmp (if 0 > 0 then _ else _) Q s
    rw[if_neg (by decide)]
    exact J6 tr tot hc hp (by lia) (by lia) h9 hq
include tr tot hc in
theorem qG {p:Array Nat} (hp:fj n p) {k:Nat} (hk:k < n) (hu:UpO o p k) {Q:Nat->Uz->Prop} (hq:∀ l,l<=k->(∀ i < l,o (p.getD i 0) (p.getD k 0)=true)->(∀ i,l<=i->i < k->o (p.getD k 0) (p.getD i 0)=true)->Q l s) :
  ∀ (f l r:Nat),l<=r->r<=k->r<=l+f->(∀ i < l,o (p.getD i 0) (p.getD k 0)=true)->(∀ i,r<=i->i < k->o (p.getD k 0) (p.getD i 0)=true)->(kas_place p k f l r).kasWp cmp Q s
 | 0,l,r,h1,h2,h3,a,b=>hq l (by lia) a fun i h4 h5=>b i (by lia) h5
 | f+1,l,r,h1,h2,h3,a,b=>by
  unfold kas_place
  by_cases g:l ≥ r
  ·rw[if_pos g]
   exact hq l (by lia) a fun i h4 h5=>b i (by lia) h5
  ·rw[if_neg g]
   show cmp _ _ _ s
   have hm:(l+r) / 2 < r:=by lia
   have hm':l<=(l+r) / 2:=by lia
   generalize (l+r) / 2=md at *
   refine hc _ _ (hp.lt hk) (hp.lt (by lia)) _ ?_
   cases e:o (p.getD k 0) (p.getD md 0) with
   | true =>
    show Yi cmp (if true=true then _ else _) Q s
    rw[if_pos rfl]
    refine qG hp hk hu hq f l md hm' (by lia) (by lia) a fun i h4 h5=>?_
    rcases WN md i with h6 | h6
    ·exact tr _ _ _ (hp.lt hk) (hp.lt (by lia)) (hp.lt (by lia)) e (hu md i h6 h5)
    ·have:i=md:=by lia
     subst this
     exact e
   | false =>
    show Yi cmp (if false=true then _ else _) Q s
    rw[if_neg U5]
    have e':=tot _ _ (hp.lt hk) (hp.lt (by lia)) (hp.ne hk (by lia) (by lia)) e
    refine qG hp hk hu hq f (md+1) r hm h2 (by lia) (fun i h4=>?_) b
    rcases WN i md with h6 | h6
    ·exact tr _ _ _ (hp.lt (by lia)) (hp.lt (by lia)) (hp.lt hk) (hu i md h6 (by lia)) e'
    ·have:i=md:=by lia
     subst this
     exact e'
theorem Mv {p:Array Nat} {k l:Nat} (hk:k < p.size) (hl:l<=k) (i:Nat):(bubble p k (k - l)).getD i 0=if i=l then p.getD k 0 else if l < i/\i<=k then p.getD (i - 1) 0 else p.getD i 0:=by
 have e:=getElem?_bubble hk (k - l) (by lia) i
 rw[show k - (k - l)=l by lia] at e
 by_cases h:i=l
 ·rw[if_pos h] at e ⊢
  exact qt e
 ·rw[if_neg h] at e ⊢
  by_cases h':l < i/\i<=k
  ·rw[if_pos h'] at e ⊢
   exact qt e
  ·rw[if_neg h'] at e ⊢
   exact qt e
include tr tot hc in
theorem FZ {Q:Array Nat->Uz->Prop} (hq:∀ p,fj n p->UpO o p n->Q p s):∀ (f:Nat) (p:Array Nat) (k:Nat),fj n p->k+f=n->UpO o p k->(kas_bin f p k).kasWp cmp Q s
 | 0,p,k,hp,e,hu=>hq p hp (by rw[← e]; exact hu)
 | f+1,p,k,hp,e,hu=>by
  unfold kas_bin
  rw[ZZ]
  refine qG tr tot hc hp (by lia) hu (fun l hl a b=>?_) k 0 k (Vr _) (U0 _) (by lia) (fun i h=>by lia) (fun i h1 h2=>by lia)
  have hpb:fj n (bubble p k (k - l)):=(Array.perm_iff_toList_perm.mp (bubble_perm p k (k - l))).trans hp
  refine FZ hq f _ (k+1) hpb (by lia) fun i j hij hj=>?_
  have hks:k < p.size:=by rw[hp.size]; lia
  rw[Mv hks hl,Mv hks hl]
  by_cases h1:i=l
  ·rw[if_pos h1,if_neg (by lia),if_pos (by lia)]
   exact b (j - 1) (by lia) (by lia)
  ·rw[if_neg h1]
   by_cases h2:l < i/\i<=k
   ·rw[if_pos h2,if_neg (by lia),if_pos (by lia)]
    exact hu (i - 1) (j - 1) (by lia) (by lia)
   ·rw[if_neg h2]
    by_cases h3:j=l
    ·rw[if_pos h3]
     exact a i (by lia)
    ·rw[if_neg h3]
     by_cases h4:l < j/\j<=k
     ·rw[if_pos h4]
      rcases WN i (j - 1) with h5 | h5
      ·exact hu i (j - 1) h5 (by lia)
      ·lia
     ·rw[if_neg h4]
      exact hu i j hij (by lia)
include tr tot hc in
theorem J2 (h2:2<=n) {Q:Array Nat->Uz->Prop} (hq:∀ p,fj n p->UpO o p n->Q p s):(kas_sort n).kasWp cmp Q s:=by
 unfold kas_sort
 rw[ZZ]
 refine Ez tr tot hc h2 (p:=abx (Vb n)) (List.Perm.refl _) fun m p' hp' h1 hm hu=>?_
 by_cases g:m < n
 ·show Yi cmp (if m < n then _ else _) Q s
  rw[if_pos g,show max m 1=m by lia]
  exact FZ tr tot hc hq (n - m) p' m hp' (by lia) hu
 ·show Yi cmp (if m < n then _ else _) Q s
  rw[if_neg g]
  have:m=n:=by lia
  subst this
  exact hq p' hp' hu
end
end L2
namespace L2
open PySem PySem.Spec PyProof.Rows PySem.W PySem.SeqAt
open AutoSeq1 (wpAny_loadPart')
open MeetsSeq MeetsSeq2 MeetsSeq3
theorem Cm (l b:Addr) (items items2:Array Value) (n n2:Nat) (dd dd2:Option Addr) (sl sl2:Array (Option Value)) {ns ms:List Int} (i1:V8 items.toList ns) (i2:V8 items2.toList ms) (k:Nat) :
  ∀ i:Nat,i<=ns.length->i<=ms.length->min ns.length ms.length - i=k->aba (Builtin.«list.__eq__.loop» ⟨[.ref l,.ref b,Wy i,Wy 0],[]⟩)
   (fun A R s=>s.heap.get? l=some { cls:=.type "list",dict:=dd,data:=.seq items n,slots:=sl }/\s.heap.get? b=some { cls:=.type "list",dict:=dd2,data:=.seq items2 n2,slots:=sl2 } ∧
    R (.ok (.ret (.bool (HT.lexLt (ns.drop i) (ms.drop i))))) s):=by
 have z1:items.size=ns.length:=by rw[← Vo]; exact i1.length
 have z2:items2.size=ms.length:=by rw[← Vo]; exact i2.length
 induction k with
 | zero =>
  intro i h1 h2 hk prog w A R s h
  obtain⟨hp,g,d,tk,os⟩:=s; obtain⟨hl,hb,h⟩:=h
  have lx:HT.lexLt (ns.drop i) (ms.drop i)=decide (items.size < items2.size):=by
   rw[z1,z2]
   by_cases a1:i < ns.length
   ·have a2:ms.length=i:=by lia
    rw[XR (l:=ms) (by lia),W2 a1,HT.qO,decide_eq_false (by lia)]
   ·rw[XR (l:=ns) (by lia)]
    by_cases a2:i < ms.length
    ·rw[W2 a2,HT.qM,decide_eq_true (by lia)]
    ·rw[XR (l:=ms) (by lia),decide_eq_false (by lia)]
     rfl
  rw[lx] at h
  wp_walk using Vq hl,Vq hb
  by_cases a1:i < ns.length
  ·have hi2:items2[((i:Nat):Int).toNat]? = none:=by simp; lia
   have hi1:∃ v,items[((i:Nat):Int).toNat]? = some v:=⟨items[i],by rw[Vu]; exact Vn (by lia)⟩
   obtain⟨v,hi1⟩:=hi1
   rw[hi1,hi2]
   wp_walk using Vq hl,Vq hb
   exact h
  ·have hi1:items[((i:Nat):Int).toNat]? = none:=by simp; lia
   rw[hi1]
   wp_walk using Vq hl,Vq hb
   exact h
 | succ k ih =>
  intro i h1 h2 hk prog w A R s h
  obtain⟨hp,g,d,tk,os⟩:=s; obtain⟨hl,hb,h⟩:=h
  wp_walk using Vq hl,Vq hb
  have hlt:i < ns.length:=by lia
  have hlt2:i < ms.length:=by lia
  obtain⟨t1,e1⟩:=iH i1 (UG hlt)
  obtain⟨t2,e2⟩:=iH i2 (UG hlt2)
  have hi1:items[((i:Nat):Int).toNat]? = some (.int ns[i] t1):=by rw[Vu,← Wb]; exact e1
  have hi2:items2[((i:Nat):Int).toNat]? = some (.int ms[i] t2):=by rw[Vu,← Wb]; exact e2
  have hc:((i:Int)+1)=((i+1:Nat):Int):=by push_cast; rfl
  rw[W2 hlt,W2 hlt2,HT.gm] at h
  rw[hi1,hi2]
  refine Uw (aax ?_)
  by_cases hb':ns[i]=ms[i]
  ·rw[if_pos hb'] at h
   rw[show (ns[i] == ms[i])=true by simp [hb']]
   wp_walk
   rw[hc]
   exact⟨W7 plain_eq_loop _,WQ entry_eq_loop (by
    rw[Wr plain_eq_loop _]
    exact ih (i+1) (by lia) (by lia) (by lia) prog w A R _ ⟨hl,hb,h⟩)⟩
  ·rw[if_neg hb'] at h
   rw[show (ns[i] == ms[i])=false by simp [hb']]
   wp_walk using Vq hl,Vq hb
   rw[hi1,hi2]
   show U4 _ _ (do let v ← richCompare .Lt (.int ns[i] t1) (.int ms[i] t2); ret v) _ _ _
   refine Uw (show U4 _ _ (Xa .Lt (.int ns[i] t1) (.int ms[i] t2)) _ _ _ from PyProof.Rows.lt_int ?_)
   exact UJ h
theorem Cg (l b:Addr) (items items2:Array Value) (n n2:Nat) (dd dd2:Option Addr) (sl sl2:Array (Option Value)) {ns ms:List Int} (i1:V8 items.toList ns) (i2:V8 items2.toList ms) :
  aba (Builtin.«list.__lt__» ⟨[.ref l,.ref b],[]⟩)
   (fun A R s=>s.heap.get? l=some { cls:=.type "list",dict:=dd,data:=.seq items n,slots:=sl }/\s.heap.get? b=some { cls:=.type "list",dict:=dd2,data:=.seq items2 n2,slots:=sl2 } ∧
    R (.ok (.ret (.bool (HT.lexLt ns ms)))) s):=by
 intro prog w A R s h
 obtain⟨hp,g,d,tk,os⟩:=s; obtain⟨hl,hb,h⟩:=h
 have f3:=AutoSeq1.sub_list_list
 wp_walk using Vq hl,Vq hb
 exact⟨W7 plain_eq_loop _,WQ entry_eq_loop (by
  rw[Wr plain_eq_loop _]
  exact Cm l b items items2 n n2 dd dd2 sl sl2 i1 i2 _ 0 (Vr _) (Vr _) rfl prog w A R _ ⟨hl,hb,h⟩)⟩
section
variable {prog:Vp} {w:VP} {A:VR} {E:Value->Uz->Prop} {s:Uz}
end
end L2
namespace L2
open PySem PySem.Spec PyProof.Rows PySem.W
theorem j0:∀ {a b c:List Int},HT.lexLt a b=true->HT.lexLt b c=true->HT.lexLt a c=true
 | [],[],_,h,_=>by cases h
 | [],_::_,[],_,h=>by cases h
 | [],_::_,_::_,_,_=>rfl
 | _::_,[],_,h,_=>by cases h
 | _::_,_::_,[],_,h=>by cases h
 | x::a,y::b,z::c,h1,h2=>by
  rw[HT.gm] at h1 h2 ⊢
  by_cases e1:x=y
  ·rw[if_pos e1] at h1
   by_cases e2:y=z
   ·rw[if_pos e2] at h2
    rw[if_pos (e1.trans e2)]
    exact j0 h1 h2
   ·rw[if_neg e2] at h2
    rw[e1,if_neg e2]
    exact h2
  ·rw[if_neg e1] at h1
   have d1:=of_decide_eq_true h1
   by_cases e2:y=z
   ·rw[← e2,if_neg e1]
    exact h1
   ·rw[if_neg e2] at h2
    have d2:=of_decide_eq_true h2
    rw[if_neg (by lia)]
    exact decide_eq_true (by lia)
theorem wA:∀ {a b:List Int},a≠b->HT.lexLt a b=false->HT.lexLt b a=true
 | [],[],h,_=>absurd rfl h
 | [],_::_,_,h=>by cases h
 | _::_,[],_,_=>rfl
 | x::a,y::b,h,e=>by
  rw[HT.gm] at e ⊢
  by_cases q:x=y
  ·rw[if_pos q] at e
   rw[if_pos q.symm]
   exact wA (fun z=>h (by rw[q,z])) e
  ·rw[if_neg q] at e
   rw[if_neg (fun z=>q z.symm)]
   have:=of_decide_eq_false e
   exact decide_eq_true (by lia)
section
variable {prog:Vp} {w:VP} {A:VR} {E:Value->Uz->Prop} {s:Uz}
theorem Es {l b:Addr} {items items2:Array Value} {ns ms:List Int} {C:Bool->Uz->Prop} (hl:s.heap.IsList l items) (hb:s.heap.IsList b items2) (i1:V8 items.toList ns) (i2:V8 items2.toList ms) (hu:A.units < cLine) (h:C (HT.lexLt ns ms) s):U4 (Vk prog w) A (keyLt' oneType' (.ref l) (.ref b)) C E s:=by
 obtain⟨⟨cls,dd,data,sl⟩,ho,hc,n,hd⟩:=id hl
 obtain⟨⟨cls2,dd2,data2,sl2⟩,ho2,hc2,n2,hd2⟩:=id hb
 simp only at hc hd hc2 hd2
 subst hc hd hc2 hd2
 rw[keyLt'_oneType,oneLt'_eq]
 simp only[if_true]
 refine Uw (wpAny_cRoomFor hu ?_)
 refine Uw (wpAny_callSpecialIfBound?_slot ⟨_,ho,rfl⟩ F.slot_list_lt (Zq F.slot_list_lt ⟨_,ho,rfl⟩ F.entry_list_lt (F.args_list_lt_2 _ _) (Cg l b items items2 n n2 dd dd2 sl sl2 i1 i2) ⟨ho,ho2,?_⟩))
 exact Xh h
theorem tR {a:Addr} {vs:List Value} {n:Nat} {κ:Yg} {o:Nat->Nat->Bool} {P:Fin->Uz->Prop} (ho:s.heap.get? a=some (Wk "list" vs.toArray n)) (h64:vs.length < 64)
  (hk:2<=vs.length->∀ h',jq s.heap h' a->∀ Q:Yg->Uz->Prop,Q κ { s with heap:=h' }->U4 (Vk prog w) A (keyKind' vs.toArray) Q E { s with heap:=h' })
  (hO:∀ h',jq s.heap h' a->∀ i j,i < vs.length->j < vs.length->∀ C:Bool->Uz->Prop,C (o i j) { s with heap:=h' }->U4 (Vk prog w) A (keyLt' κ (vs.getD i VB) (vs.getD j VB)) C (fun _ _=>False) { s with heap:=h' })
  (tr:∀ i j k,i < vs.length->j < vs.length->k < vs.length->o i j=true->o j k=true->o i k=true) (tot:∀ i j,i < vs.length->j < vs.length->i≠j->o i j=false->o j i=true)
  (h:∀ p:Array Nat,fj vs.length p->UpO o p vs.length->P (.done (.ret .none)) { s with heap:=sortedHeap s.heap a vs (p.toList.map fun i=>vs.getD i VB).toArray }) :
  U4 (Vk prog w) A (Builtin.«list.sort» ⟨[.ref a],[]⟩) P E s:=by
 rw[list_sort_plain]
 have ha:a < s.heap.objs.size:=U6 ho
 refine Uw (listItems_at ho rfl ?_)
 refine Uw (aas ho rfl ?_ (by rw[U7,Xo]; lia) (Vr _))
 obtain⟨e1,ho1⟩:∃ e1,(s.heap.update a (Wa fun _=>#[])).get? a=some (Wk "list" #[] e1):=⟨_,get?_update_seq ho (fun _=>#[])⟩
 refine Uw (aaU ho1 rfl ?_)
 refine Uw (aaa ?_ (by show vs.length<=_; rw[Xo]; lia))
 refine Uw (aaq ?_ (Vr _))
 refine Xf ?_
 have ho6:(((s.heap.update a (Wa fun _=>#[])).push (Wk "tuple" vs.toArray 0)).push (Wk "list" #[] 0)).get? a=some (Wk "list" #[] e1):=by
  rw[WL _ _ _ (by rw[aaC,Xd]; exact Vh (V7 ha)),WL _ _ _ (by rw[Xd]; exact Vh ha)]
  exact ho1
 have kp:jq s.heap (((s.heap.update a (Wa fun _=>#[])).push (Wk "tuple" vs.toArray 0)).push (Wk "list" #[] 0)) a:=fun b o hb e=>by
  have hlt:b < s.heap.objs.size:=U6 e
  rw[WL _ _ _ (by rw[aaC,Xd]; exact Vh (V7 hlt)),WL _ _ _ (by rw[Xd]; exact Vh hlt),Z3 _ _ _ _ hb]
  exact e
 show U4 (Vk prog w) A _ P E { s with heap:=((s.heap.update a (Wa fun _=>#[])).push (Wk "tuple" vs.toArray 0)).push (Wk "list" #[] 0) }
 dsimp only
 have hsz:vs.toArray.size=vs.length:=by simp
 have erange:(abx (Vb vs.length)).map (Ye (YF vs))=YF vs:=by
  have e:=kas_range (YF vs)
  rw[show (YF vs).size=vs.length from pairsOf_size vs] at e
  exact e
 have emap:∀ p:Array Nat,(p.map (Ye (YF vs))).map (·.2)=(p.toList.map fun i=>vs.getD i VB).toArray:=fun p=>by
  apply Array.ext'
  simp [aam]
 by_cases h2:vs.toArray.size < 2
 ·rw[if_pos h2,if_pos h2]
  refine Uw (UJ ?_)
  rw[aaO]
  refine Uw (UJ ?_)
  dsimp only
  have em:(YF vs).map (·.2)=((Vb vs.length).map fun i=>vs.getD i VB).toArray:=by
   rw[← erange,emap]
  refine Uw (aaU ho6 rfl ?_)
  refine Uw (aas ho6 rfl ?_ (Vr _) (by rw[Array.size_map]; show (YF vs).size<=_; rw[pairsOf_size,Xo]; lia))
  simp only[bne_self_eq_false,Zt,if_false]
  have:=h (abx (Vb vs.length)) (List.Perm.refl _) fun i j hij hj=>by lia
  refine UJ ?_
  show P _ { s with heap:=sortedHeap s.heap a vs ((YF vs).map (·.2)) }
  rw[em]
  exact this
 ·rw[if_neg h2,if_neg h2]
  refine Uw (hk (by lia) _ kp _ ?_)
  have est:YM κ (vs.toArray.zip vs.toArray) #[] 7 none=kas_st κ (YF vs) (abx (Vb vs.length)):=by
   unfold kas_st
   rw[erange]
   rfl
  rw[est]
  refine Uw (Xj (kas_runs (prog:=prog) (w:=w) (A:=A) (E:=E) (it:=YF vs) (κ:=κ) (n:=vs.length) (s:={ s with heap:=((s.heap.update a (Wa fun _=>#[])).push (Wk "tuple" vs.toArray 0)).push (Wk "list" #[] 0) })
   (G:=fun p s'=>(fj vs.length p/\UpO o p vs.length)/\s'={ s with heap:=((s.heap.update a (Wa fun _=>#[])).push (Wk "tuple" vs.toArray 0)).push (Wk "list" #[] 0) })
   (Q:=fun _ st' s'=>(∃ p,(fj vs.length p/\UpO o p vs.length)/\aao st'=p.map (Ye (YF vs))/\failedOf st'=none)/\s'={ s with heap:=((s.heap.update a (Wa fun _=>#[])).push (Wk "tuple" vs.toArray 0)).push (Wk "list" #[] 0) })
   (by lia) h64 (fun p' st' s' _ ea ef hg=>⟨⟨p',hg.1,ea,ef⟩,hg.2⟩) (J2 tr tot (fun i j hi hj C hC=>?_) (by lia) fun p hp hu=>⟨⟨hp,hu⟩,rfl⟩)) ?_ fun _ _ e=>e)
  ·unfold Z4
   rw[aam,aam]
   exact hO _ kp i j hi hj C hC
  ·rintro⟨⟨⟩,st'⟩ s' ⟨⟨p,⟨hp,hu⟩,e1,e2⟩,rfl⟩
   dsimp only at e1 e2 ⊢
   have em:(aao st').map (·.2)=(p.toList.map fun i=>vs.getD i VB).toArray:=by rw[e1,emap]
   refine Uw (aaU ho6 rfl ?_)
   refine Uw (aas ho6 rfl ?_ (Vr _) (by rw[em,U7,Uy,Vo,hp.size,Xo]; lia))
   rw[e2]
   simp only[bne_self_eq_false,Zt,if_false]
   rw[em]
   exact UJ (h p hp hu)
end
end L2
namespace L2
open PySem PySem.Spec PyProof.Rows PySem.W
section
variable {prog:Vp} {w:VP} {A:VR} {E:Value->Uz->Prop} {s:Uz}
theorem BW {l:Addr} {vs:List Value} {κ:Yg} {o:Nat->Nat->Bool} {Q:Value->Uz->Prop} (hl:s.heap.IsList l vs.toArray) (h64:vs.length < 64)
  (hk:2<=vs.length->∀ h':Wc,(∀ b o,s.heap.get? b=some o->h'.get? b=some o)->∀ Q:Yg->Uz->Prop,Q κ { s with heap:=h' }->U4 (Vk prog w) A.in1.in1 (keyKind' vs.toArray) Q E { s with heap:=h' })
  (hO:∀ h':Wc,(∀ b o,s.heap.get? b=some o->h'.get? b=some o)->∀ i j,i < vs.length->j < vs.length->∀ C:Bool->Uz->Prop,C (o i j) { s with heap:=h' }->U4 (Vk prog w) A.in1.in1 (keyLt' κ (vs.getD i VB) (vs.getD j VB)) C (fun _ _=>False) { s with heap:=h' })
  (tr:∀ i j k,i < vs.length->j < vs.length->k < vs.length->o i j=true->o j k=true->o i k=true) (tot:∀ i j,i < vs.length->j < vs.length->i≠j->o i j=false->o j i=true)
  (h:∀ p:Array Nat,fj vs.length p->UpO o p vs.length->Q (.ref (s.heap.objs.size+1)) { s with heap:=sortedAll s.heap vs (p.toList.map fun i=>vs.getD i VB).toArray }) :
  U4 (Vk prog w) A (call (.builtin "sorted") [.ref l]) Q E s:=by
 refine aaj kind_sorted plain_sorted entry_sorted (args_sorted1 _) ?_
 unfold Builtin.«sorted»
 refine Uw (m:=checkCount "sorted" 1 1 _) (UJ ?_)
 refine Uw (collect_list hl ?_ (by rw[Xo]; lia))
 refine Uw (aaq ?_ (by rw[Xo]; lia))
 have hsz:((s.heap.push (Wk "list" #[] 0)).update s.heap.objs.size (Wa (·++vs.toArray))).objs.size=s.heap.objs.size+1:=by
  rw[Xd,aaC]
 have hoL:(((s.heap.push (Wk "list" #[] 0)).update s.heap.objs.size (Wa (·++vs.toArray))).push (Wk "list" vs.toArray 0)).get? (s.heap.objs.size+1)=some (Wk "list" vs.toArray 0):=by
  rw[← hsz]; exact UT _ rfl
 have keep:∀ b o,s.heap.get? b=some o->(((s.heap.push (Wk "list" #[] 0)).update s.heap.objs.size (Wa (·++vs.toArray))).push (Wk "list" vs.toArray 0)).get? b=some o:=fun b o q=>by
  have hlt:b < s.heap.objs.size:=U6 q
  rw[WL _ _ _ (by rw[hsz]; exact Vh (V7 hlt)),Z3 _ _ _ _ (Vh hlt),WL _ _ _ (Vh hlt)]
  exact q
 have kb:∀ h':Wc,jq (((s.heap.push (Wk "list" #[] 0)).update s.heap.objs.size (Wa (·++vs.toArray))).push (Wk "list" vs.toArray 0)) h' (s.heap.objs.size+1)->∀ b o,s.heap.get? b=some o->h'.get? b=some o:=fun h' k b o q =>
  k b o (Vh (V7 (U6 q))) (keep b o q)
 show U4 _ _ _ _ _ { s with heap:=((s.heap.push (Wk "list" #[] 0)).update s.heap.objs.size (Wa (·++vs.toArray))).push (Wk "list" vs.toArray 0) }
 rw[hsz]
 refine Uw (Xf (V2 slot_list_sort ⟨_,hoL,rfl⟩ abT (tR (s:={ s with heap:=((s.heap.push (Wk "list" #[] 0)).update s.heap.objs.size (Wa (·++vs.toArray))).push (Wk "list" vs.toArray 0) }) hoL h64 (fun h2 h' k=>hk h2 h' (kb h' k)) (fun h' k=>hO h' (kb h' k)) tr tot fun p hp hu=>⟨_,rfl,?_⟩) (args_list_sort _)))
 exact UJ ⟨_,rfl,h p hp hu⟩
end
theorem Gs {β:Type} {l:List β} {d:β} {p:Array Nat} (hp:fj l.length p):(p.toList.map fun i=>l.getD i d).Perm l:=by
 refine (List.Perm.map _ hp).trans ?_
 have e:(Vb l.length).map (fun i=>l.getD i d)=l:=by
  apply List.ext_getElem (by simp)
  intro i h1 h2
  simp [h2]
 rw[e]
section
variable {X:Cx} {k:Nat}
inductive Aw (K:Vi) (xs:List V) (H:Hp) (Q:VK):Prop where
 | mk (p:Addr) (ps:List (Addr × List Int)) (z0:xs=[.ref p]) (z1:SqL K H p (ps.map fun p=>V.ref p.1)) (z2:ps.length < 64) (z3:(∀ q∈ps,SqL K H q.1 (q.2.map V.int))) (z4:(ps.map (·.2)).Nodup) (z5:∀ qs:List (Addr × List Int),qs.Perm ps->qs.Pairwise (fun a b=>HT.lexLt a.2 b.2=true)->∀ l,H l=none->Q (.ref l) (upd H l (.lst (qs.map fun p=>V.ref p.1)))):Aw K xs H Q
def yw (K:Vi):List V->Hp->VK->Prop:=fun xs H Q=>Aw K xs H Q
theorem pY (hr:nZ k X.A):iR X (.builtin "sorted") (yw X.K):=by
 intro pins s σ H xs us Q I r h
 obtain⟨p,ps,rfl,hq,h64,ht,hnd,q⟩:=h
 obtain⟨u,rfl,ru⟩:=vals1 r
 cases ru
 obtain⟨its,rv,pl,_⟩:=I.list hq
 have ei:=yO ps its rv
 subst ei
 have lv:(ps.map fun p=>Vy p.1).length=ps.length:=by simp
 have pr:∀ p∈ps,∃ its:List Value,s.heap.IsList p.1 its.toArray/\V8 its p.2:=fun p hm=>by
  obtain⟨i2,r2,p2,_⟩:=I.list (ht p hm)
  exact⟨i2,p2.isList,intsAre_of r2⟩
 have kl:∀ {h':Wc} {a:Addr} {it:Array Value},(∀ b o,s.heap.get? b=some o->h'.get? b=some o)->s.heap.IsList a it->h'.IsList a it:=fun kp ⟨ob,e,r⟩=>⟨ob,kp _ _ e,r⟩
 have hu:X.A.in1.in1.units < cLine:=by
  have:=hr.un
  show X.A.units+1+1 < _
  lia
 let o:Nat->Nat->Bool:=fun i j=>HT.lexLt (ps.getD i (0,[])).2 (ps.getD j (0,[])).2
 have dif:∀ i j,i < ps.length->j < ps.length->i≠j->(ps.getD i (0,[])).2≠(ps.getD j (0,[])).2:=fun i j hi hj ne z=>by
  have h1:(ps.getD i (0,[])).2=(ps.map (·.2))[i]'(by simpa using hi):=by simp [hi]
  have h2:(ps.getD j (0,[])).2=(ps.map (·.2))[j]'(by simpa using hj):=by simp [hj]
  rw[h1,h2] at z
  exact ne ((abK hnd).mp z)
 refine BW (o:=o) (κ:=oneType') pl.isList (by lia) (fun h2 h' kp Q' hQ=>?_) (fun h' kp i j hi hj C hC=>?_) (fun i j k _ _ _ a b=>j0 a b) (fun i j hi hj ne e=>wA (dif i j (by lia) (by lia) ne) e) fun pm hp hup=>?_
 ·refine kas_kind (T:=.type "list") h2 (fun v hv=>?_) (by rfl) (by rfl) hQ
  obtain⟨p,hm,rfl⟩:=List.mem_map.mp hv
  obtain⟨it,h1,_⟩:=pr p hm
  obtain⟨ob,e,c,_⟩:=kl kp h1
  exact kitAt_ty _ _ ⟨ob,e,c⟩
 ·have hi':i < ps.length:=by lia
  have hj':j < ps.length:=by lia
  rw[show (ps.map fun p=>Vy p.1).getD i VB = .ref ps[i].1 by simp [hi'],show (ps.map fun p=>Vy p.1).getD j VB = .ref ps[j].1 by simp [hj']]
  obtain⟨i1,l1,n1⟩:=pr ps[i] (Wu hi')
  obtain⟨i2,l2,n2⟩:=pr ps[j] (Wu hj')
  refine Es (kl kp l1) (kl kp l2) (by simpa using n1) (by simpa using n2) hu ?_
  have:o i j=HT.lexLt ps[i].2 ps[j].2:=by simp [o,hi',hj']
  rw[← this]
  exact hC
 ·rw[lv] at hp hup
  obtain⟨e,he⟩:=sortedAll_at s.heap (ps.map fun p=>Vy p.1) (pm.toList.map fun i=>(ps.map fun p=>Vy p.1).getD i VB).toArray
  have hlt:∀ i∈pm.toList,i < ps.length:=fun i hi=>List.mem_range.mp (hp.mem_iff.mp hi)
  have hml:(pm.toList.map fun i=>V.ref (ps.getD i (0,[])).1).length<=sizeLine:=by
   rw[Uy,Vo,hp.size,Xo]
   lia
  have q':=q (pm.toList.map fun i=>ps.getD i (0,[])) (Gs hp) ?_ (s.heap.objs.size+1) (I.hok.fresh (XX _))
  ·rw[XQ] at q'
   exact⟨.ref _,_,I.JX rfl rfl (fun _ _=>sortedAll_old) (XX _) (yr pm.toList hlt) hml he,rfl,q'⟩
  ·rw[List.pairwise_iff_getElem]
   intro i j hi hj hij
   rw[Uy,Vo,hp.size] at hi hj
   have:=hup i j hij hj
   simp only[List.getElem_map]
   have g:∀ x (hx:x < ps.length),pm.getD x 0=pm.toList[x]'(by rw[Vo,hp.size]; exact hx):=fun x hx=>by
    have:x < pm.size:=by rw[hp.size]; exact hx
    simp [Array.getD,this]
   rw[g i hi,g j hj] at this
   exact this
end
end L2
namespace L2
open PySem PySem.Spec PyProof.Rows
inductive HasDef (K:Vg) (x:Wz) (st:Stmt) (f:Addr):Prop where
 | mk {od an:Option Addr} {sl:Array (Option Value)} {oc kV dc pm cd ct:Value} (a:PySem.W.nsIn K VG x=some (some (.ref f))) (l:K.lookup f=some ⟨oc,od,.func (Zy x x (gJ st) (fQ st) (aG st) .none kV dc pm an cd ct),sl⟩) (c:aaW K cd x=true) (k:aad K (.ref f)=true):HasDef K x st f
section
variable {P:Vp} {w:VP} {K:Vi} {mg:Wz->Option Value} {base h:Wc} {x:Wz} {st:Stmt} {f:Addr} {ps:List Wz} {sp:Sp} {k:Nat}
theorem HasDef.name (q:HasDef K x st f) (X:K.In h) (G:h.Ns VG mg):mg x=some (.ref f):=by
 obtain⟨a,l,c,k⟩:=q
 exact PySem.W.mg_of X G a
theorem HasDef.df (q:HasDef K x st f) (X:K.In h) (G:h.Ns VG mg) (hb:∀ fd,Fun K x x st f fd->Binds K fd ps []) (ok:∀ fd,Fun K x x st f fd->dR P w K mg base CX0 k f fd ps sp):Df P w K mg base x k ps sp:=by
 obtain⟨a,l,c,k⟩:=q
 have F:=Lw l c k
 exact⟨⟨_,_,ok _ F,PySem.W.mg_of X G a,k,hb _ F⟩⟩
theorem HasDef.law {y:Wz} (q:HasDef K x st f) (hb:∀ (kV dc pm:Value) (an:Option Addr) (cd ct:Value) (s:Uz) (v:Value),aa5 s (W.fnOf x x (gJ st) (fQ st) (aG st) .none kV dc pm an cd ct) ⟨[v],[]⟩ [(y,v)]):∃ fd,Fun K x x st f fd/\∀ (s:Uz) (v:Value),aa5 s fd ⟨[v],[]⟩ [(y,v)]:=by
 obtain⟨a,l,c,k⟩:=q
 exact⟨_,Lw l c k,hb _ _ _ _ _ _⟩
theorem Ua {α:Type}:∀ {us:List α},us.length=1->∃ x0,us=[x0]
 | [x0],_=>⟨x0,rfl⟩
theorem Ul {α:Type}:∀ {us:List α},us.length=2->∃ x0 x1,us=[x0,x1]
 | [x0,x1],_=>⟨x0,x1,rfl⟩
theorem Ud {α:Type}:∀ {us:List α},us.length=3->∃ x0 x1 x2,us=[x0,x1,x2]
 | [x0,x1,x2],_=>⟨x0,x1,x2,rfl⟩
theorem Up {α:Type}:∀ {us:List α},us.length=4->∃ x0 x1 x2 x3,us=[x0,x1,x2,x3]
 | [x0,x1,x2,x3],_=>⟨x0,x1,x2,x3,rfl⟩
theorem Uo {α:Type}:∀ {us:List α},us.length=5->∃ x0 x1 x2 x3 x4,us=[x0,x1,x2,x3,x4]
 | [x0,x1,x2,x3,x4],_=>⟨x0,x1,x2,x3,x4,rfl⟩
theorem bind1 {a0:Wz} (h:∀ (kV doc pm:Value) (an:Option Addr) (cdv ct x0:Value),aaV (W.fnOf x x (gJ st) (fQ st) (aG st) .none kV doc pm an cdv ct) ⟨[x0],[]⟩=pure [(a0,x0)]):∀ fd,Fun K x x st f fd->Binds K fd [a0] []:=fun _ F=>F.binds fun kV doc pm an cdv ct us hl=>by
 obtain⟨x0,rfl⟩:=Ua hl
 exact h kV doc pm an cdv ct x0
theorem cu {a0 a1:Wz} (h:∀ (kV doc pm:Value) (an:Option Addr) (cdv ct x0 x1:Value),aaV (W.fnOf x x (gJ st) (fQ st) (aG st) .none kV doc pm an cdv ct) ⟨[x0,x1],[]⟩=pure [(a0,x0),(a1,x1)]):∀ fd,Fun K x x st f fd->Binds K fd [a0,a1] []:=fun _ F=>F.binds fun kV doc pm an cdv ct us hl=>by
 obtain⟨x0,x1,rfl⟩:=Ul hl
 exact h kV doc pm an cdv ct x0 x1
theorem qT {a0 a1 a2:Wz} (h:∀ (kV doc pm:Value) (an:Option Addr) (cdv ct x0 x1 x2:Value),aaV (W.fnOf x x (gJ st) (fQ st) (aG st) .none kV doc pm an cdv ct) ⟨[x0,x1,x2],[]⟩=pure [(a0,x0),(a1,x1),(a2,x2)]):∀ fd,Fun K x x st f fd->Binds K fd [a0,a1,a2] []:=fun _ F=>F.binds fun kV doc pm an cdv ct us hl=>by
 obtain⟨x0,x1,x2,rfl⟩:=Ud hl
 exact h kV doc pm an cdv ct x0 x1 x2
theorem wz {a0 a1 a2 a3:Wz} (h:∀ (kV doc pm:Value) (an:Option Addr) (cdv ct x0 x1 x2 x3:Value),aaV (W.fnOf x x (gJ st) (fQ st) (aG st) .none kV doc pm an cdv ct) ⟨[x0,x1,x2,x3],[]⟩=pure [(a0,x0),(a1,x1),(a2,x2),(a3,x3)]):∀ fd,Fun K x x st f fd->Binds K fd [a0,a1,a2,a3] []:=fun _ F=>F.binds fun kV doc pm an cdv ct us hl=>by
 obtain⟨x0,x1,x2,x3,rfl⟩:=Up hl
 exact h kV doc pm an cdv ct x0 x1 x2 x3
theorem Q5 {a0 a1 a2 a3 a4:Wz} (h:∀ (kV doc pm:Value) (an:Option Addr) (cdv ct x0 x1 x2 x3 x4:Value),aaV (W.fnOf x x (gJ st) (fQ st) (aG st) .none kV doc pm an cdv ct) ⟨[x0,x1,x2,x3,x4],[]⟩=pure [(a0,x0),(a1,x1),(a2,x2),(a3,x3),(a4,x4)]):∀ fd,Fun K x x st f fd->Binds K fd [a0,a1,a2,a3,a4] []:=fun _ F=>F.binds fun kV doc pm an cdv ct us hl=>by
 obtain⟨x0,x1,x2,x3,x4,rfl⟩:=Uo hl
 exact h kV doc pm an cdv ct x0 x1 x2 x3 x4
end
end L2
namespace L2
open PySem PySem.Spec PyProof.Rows
section
variable {X:Cx} {k j:Nat} {x m:Wz} {C:Addr} {ps:List Wz} {sp:Sp} {p pos apos:ZG} {o e:Expr} {es:List Expr} {to:TE} {t:TA} {f:Wz}
end
end L2
namespace L2
open PySem PySem.Spec PyProof.Rows
section
variable {prog:Vp} {w:VP} {A:VR} {E:Value->Uz->Prop} {s:Uz}
end
section
variable {X:Cx}
end
end L2
namespace My
open PySem L2
variable {P:Vp} {w:VP} {K:Vi} {mg:Wz->Option Value} {base:Wc} {f:Addr} {fd:Yw}
def top (i:Nat):Stmt:=PySem.Challenge.pw_loveboon_k29_whole_climbs_by_knots.main.body.getD i (.Pass ⟨0,0,0,0⟩)
theorem aB {H:Hp} {p:Addr} (h:H p=none) (o:HO):aO H (upd H p o):=fun b u q=>by rw[bB (dH q h)]; exact q
theorem aJ {H H':Hp} {p:Addr} (s:aO H H') (h:H p=none) (o:HO):aO H (upd H' p o):=fun b u q=>by rw[bB (dH q h)]; exact s b u q
theorem fH {K:Vi} {H H':Hp} {a:Addr} {xs:List V} (e:aO H H') (h:SqT K H a xs):SqT K H' a xs:=by
 rcases h with (h | ⟨o,h⟩) | h
 ·exact .inl (.inl (e _ _ h))
 ·exact .inl (.inr ⟨o,e _ _ h⟩)
 ·exact .inr h
theorem Im {H:Hp} {p:Addr} {o o':HO}:upd (upd H p o) p o'=upd H p o':=by
 funext b
 unfold upd
 by_cases e:b=p
 ·rw[if_pos e,if_pos e]
 ·rw[if_neg e,if_neg e,if_neg e]
theorem small {n:Nat} (h:n<=1000):n<=sizeLine:=Y8 (aD h)
theorem int_at {ns:List Int} {i:Nat} {x:V} (h:(ns.map V.int)[i]? = some x):∃ n,ns[i]? = some n/\x = .int n:=by
 rw[Vj] at h
 cases e:ns[i]? with
 | none=>rw[e] at h; cases h
 | some n=>rw[e] at h; exact⟨n,rfl,(VF h).symm⟩
theorem tQ {α β:Type} (f:α->β) {xs:List α} {i:Nat} {x:α} (h:xs[i]? = some x):(xs.take i).map f++[f x]=(xs.take (i+1)).map f:=by
 rw[Vz,h,U3]
 rfl
theorem nJ {ns:List Int} {i:Nat} (h:i < ns.length):atI (ns.map V.int) (i:Int)=some (.int ns[i]):=eZ (by rw[Vj,UG h]; rfl)
theorem gT {i:Nat} {x:V} {σ:St} {H:Hp} {A B:St->Hp->Prop} (h:A (σ.set i (some x)) H):Gv i x σ H (fun σ3 H3=>JN σ3 H3 (fun b H4=>if b=true then A σ3 H4 else B σ3 H4)):=by
 show if true=true then A (σ.set i (some x)) H else B (σ.set i (some x)) H
 rw[if_pos rfl]
 exact h
theorem aL {H H1:Hp} {p:Addr} {o:HO} (e:upd H p o=H1) (h:H p=none):aO H H1/\H1 p=some o:=by
 subst e
 exact⟨aB h _,aq⟩
theorem aK {xs:List V} {k:Nat} {v:V} (h:xs[k]? = some v):atI xs (k:Int)=some v:=eZ h
theorem eN {ns:List Int} {k:Nat} {n:Int} (h:ns[k]? = some n):(ns.map V.int)[k]? = some (.int n):=by rw[Vj,h]; rfl
theorem tT {σ:St} {H:Hp} {A B:Hp->Prop} (h:A H):JN σ H (fun b H4=>if b=true then A H4 else B H4):=by
 show if true=true then A H else B H
 rw[if_pos rfl]
 exact h
theorem o7:∀ ns:List Int,uq (ns.map Dm.int)=0
 | []=>by simp [uq]
 | n::r=>by simp [uq,Dm.dep,o7 r]
theorem Jw {H:Hp} {a:Addr} {ns:List Int} (h:H a=some (.tup (ns.map V.int))) (l:ns.length<=1000):Rep H (.ref a) (.tup (ns.map Dm.int)):=.tup h (by rw[Uy]; lia) (pW ns)
theorem Oj (ns:List Int):(Dm.tup (ns.map Dm.int)).dep=1:=by rw[Dm.dep,o7]
def vN (i:Nat):V:=.int (i:Int)
theorem jc (c:List Nat):c.map vN=(c.map fun i:Nat=>(i:Int)).map V.int:=by rw[XQ]; rfl
theorem qJ {c:List Nat} {j:Nat} {x:V} (h:(c.map vN)[j]? = some x):∃ i,c[j]? = some i/\x=vN i:=by
 rw[Vj] at h
 cases e:c[j]? with
 | none=>rw[e] at h; cases h
 | some i=>rw[e] at h; exact⟨i,rfl,(VF h).symm⟩
theorem cI {H:Hp} {D:Addr} {zs zs':List V} (h:H D=some (.lst zs)):∀ a xs,H a=some (HO.tup xs)->upd H D (.lst zs') a=some (HO.tup xs):=fun a xs q=>by
 rw[bB (fun z=>by rw[z,h] at q; cases q)]
 exact q
theorem QT {α:Type} {xs:List α} {v:α} (h:xs[xs.length - 1]? = some v):atI xs (-1)=some v:=by
 have hl:xs.length - 1 < xs.length:=(List.getElem?_eq_some_iff.mp h).1
 have hne:xs≠[]:=fun z=>by rw[z] at hl; exact absurd hl (Xw _)
 have e:xs=xs.dropLast++[v]:=by
  rw[← List.getLast?_eq_getElem?,List.getLast?_eq_some_getLast hne] at h
  rw[← VF h]
  exact (List.dropLast_concat_getLast hne).symm
 rw[e]
 exact J8 _ _
abbrev j7:Stmt:=top 34
theorem cM:aY ["_law_cell_here","_law_parts","_law_one","_law_two","_law_six","_law_found","_law_part"] ["_law_cell_here","_law_parts"] (aG j7):=⟨rfl,rfl,rfl,by decide+kernel,rfl,by decide+kernel,by decide+kernel⟩
def tu (c:Int):Int:=(c * 48271+11) % 2147483647
def Kw (c:Int):Int:=(tu c * tu c+40692 * tu c+c) % 2147483399
def SJ (c:Int):Int:=(Kw c * 16807+tu c) % 1000000007
def mZ (c:Int):Int:=if decide ((if c < 0 then -c else c) < 10 ^ (18:Int).toNat)=true then Kw c+2147483399 * (SJ c+1000000007 * tu c) else (if c < 0 then -c else c) - 10 ^ (18:Int).toNat
def xn:Int->List Int->List Int
 | _,[]=>[]
 | c,p::ps=>c % p::xn (c / p) ps
def divC:Int->List Int->Int
 | c,[]=>c
 | c,p::ps=>divC (c / p) ps
theorem pL (p:Int):∀ (ps:List Int) (c:Int),xn c (ps++[p])=xn c ps++[divC c ps % p]
 | [],_=>rfl
 | q::ps,c=>by
  show c % q::xn (c / q) (ps++[p])=c % q::(xn (c / q) ps++[divC (c / q) ps % p])
  rw[pL p ps]
theorem lU (p:Int):∀ (ps:List Int) (c:Int),divC c (ps++[p])=divC c ps / p
 | [],_=>rfl
 | q::ps,c=>lU p ps (c / q)
theorem fc:∀ (ps:List Int) (c:Int),(xn c ps).length=ps.length
 | [],_=>rfl
 | _::ps,_=>congrArg Nat.succ (fc ps _)
theorem cG:∀ {ps:List Int} {c:Int} {i:Nat} {p:Int},(∀ q∈ps,0 < q)->ps[i]? = some p->∃ v,(xn c ps)[i]? = some v/\0<=v/\v < p
 | [],_,_,_,_,h=>by simp at h
 | q::ps,c,0,p,hp,h=>by
  cases (show some q=some p from h)
  exact⟨c % q,rfl,Wn _ (by have:=hp q UW; lia),V6 _ (hp q UW)⟩
 | q::ps,c,i+1,p,hp,h=>by
  obtain⟨v,e,r⟩:=cG (ps:=ps) (c:=c / q) (i:=i) (fun z hz=>hp z (U9 _ hz)) (by simpa using h)
  exact⟨v,by simpa [xn] using e,r⟩
def wJ (c:Int) (ps:List Int):List Int:=xn (mZ c) ps
theorem Pg (c:Int):0<=tu c/\tu c < 2147483647:=⟨Wn _ (by decide),V6 _ (by decide)⟩
theorem Pr (c:Int):0<=Kw c/\Kw c < 2147483399:=⟨Wn _ (by decide),V6 _ (by decide)⟩
inductive Bs (K:Vi) (vs:List V) (H:Hp) (Q:VK):Prop where
 | mk (c:Int) (p:Addr) (ps:List Int) (z0:vs=[.int c,.ref p]) (z1:SqL K H p (ps.map V.int)) (z2:(∀ q∈ps,0 < q/\q < 1073741824)) (z3:ps.length<=1000) (z4:∀ r,H r=none->Q (.ref r) (upd H r (.lst ((wJ c ps).map V.int)))):Bs K vs H Q
def j4 (K:Vi):Sp:=fun vs H Q _=>Bs K vs H Q
theorem vd (F:Fun K "_law_draws" "_law_draws" j7 f fd) (B:Bt mg) :
  dR P w K mg base CX0 1 f fd ["_law_cell_here","_law_parts"] (j4 K):=by
 refine F.ok cM (fun vs H Q E h=>?_) (fun cdv A outer s H vs Q E hr h=>?_)
 ·obtain⟨c,p,ps,rfl,_⟩:=h
  rfl
 ·obtain⟨c,p,ps,rfl,hS,hp,hl,q⟩:=h
  refine⟨_,(au (bZ (aQ Dt (aH lV rfl B.abs_ vM (aa (pv 0) aj)) (aR pP aA aA) (aW _)) (au (aP (i:=2) cM.nd rfl (U8 rfl) (aR dh (aR bU (aR fV (pv 0) aA) aA) aA))
 (au (aP (i:=3) cM.nd rfl (U8 rfl) (aR dh (aR bU (aR bU (aR fV (pv 2) (pv 2)) (aR fV aA (pv 2))) (pv 0)) aA))
 (au (aP (i:=4) cM.nd rfl (U8 rfl) (aR dh (aR bU (aR fV (pv 3) aA) (pv 2)) aA))
 (aC (aP (i:=0) cM.nd rfl (U8 rfl) (aR bU (pv 3) (aR fV aA (aR bU (pv 4) (aR fV aA (pv 2)))))))))) (aC (aP (i:=0) cM.nd rfl (U8 rfl) (aR qF (aH lV rfl B.abs_ vM (aa (pv 0) aj)) (aR pP aA aA)))))
 (au (aP (i:=5) cM.nd rfl (U8 rfl) (bJ aj))
 (au (di Vx rfl (dm (pv 1)) (aF (i:=6) cM.nd rfl (U8 rfl)) (au (eG (kZ VH VN VM cB (pv 5) (aa (aR dh (pv 0) (pv 6)) aj)))
 (aC (aP (i:=0) cM.nd rfl (U8 rfl) (aR tG (pv 0) (pv 6))))))
 (aC (aM (pv 5)))))),?_⟩
  have b1:=Pg c
  have b2:=Pr c
  refine⟨_,rfl,_,rfl,_,_,rfl,rfl,⟨by decide,by decide,by decide⟩,_,_,rfl,rfl,_,rfl,?_⟩
  refine zU (fun h=>?_) (fun h=>?_)
  ·refine⟨_,rfl,_,_,rfl,rfl,.inr ⟨by decide,by decide⟩,_,_,rfl,rfl,_,_,rfl,rfl,(by show (0:Int) < 2147483647; decide),?_⟩
   refine⟨_,rfl,_,rfl,_,_,rfl,rfl,.inl (show -(2 ^ 64) < tu c/\tu c < 2 ^ 64 from ⟨by lia,by lia⟩),_,rfl,_,_,rfl,rfl,.inl ⟨by decide,by decide⟩,_,_,rfl,rfl,_,rfl,_,_,rfl,rfl,_,_,rfl,rfl,(by show (0:Int) < 2147483399; decide),?_⟩
   refine⟨_,rfl,_,_,rfl,rfl,.inr ⟨by decide,by decide⟩,_,rfl,_,_,rfl,rfl,_,_,rfl,rfl,(by show (0:Int) < 1000000007; decide),?_⟩
   refine⟨_,rfl,_,rfl,_,rfl,_,_,rfl,rfl,.inl ⟨by decide,by decide⟩,_,_,rfl,rfl,_,_,rfl,rfl,.inl ⟨by decide,by decide⟩,_,_,rfl,rfl,?_⟩
   refine⟨small (Vr _),fun r hr0=>?_⟩
   refine⟨_,rfl,p,rfl,⟨_,(aB hr0 _).seq hS⟩,jE (K:=K) (a:=p) (xs:=ps.map V.int) (fun i σ H2=>∃ (z:Int) (o t u v:Option V),z=divC (mZ c) (ps.take i)/\σ=[some (.int z),some (.ref p),o,t,u,some (.ref r),v] ∧
    H2=upd H r (.lst ((xn (mZ c) (ps.take i)).map V.int))) ⟨_,_,_,_,_,(if_pos h).symm,rfl,rfl⟩ ?_ ?_ ?_⟩
   ·rintro i σ H2 hi ⟨z,o,t,u,v,_,_,e⟩
    subst e
    exact (aB hr0 _).seq hS
   ·rintro i x σ H2 hx ⟨z,o,t,u,v,ez,rfl,rfl⟩
    obtain⟨d,hd,rfl⟩:=int_at hx
    obtain⟨h1,h2⟩:=hp d (Vl hd)
    have et:ps.take (i+1)=ps.take i++[d]:=by rw[Vz,hd]; rfl
    refine⟨_,rfl,.inl ⟨rfl,_,SqL.of aq⟩,_,rfl,_,rfl,_,_,rfl,rfl,h1,r,_,_,rfl,rfl,aq,?_,_,rfl,_,rfl,_,_,rfl,rfl,⟨h1,h2⟩,_,_,_,_,_,?_,rfl,?_⟩
    ·rw[Uy,fc,Vc]
     exact aD (by lia)
    ·rw[et,lU,ez]
    ·rw[Im,et,pL,U3,ez]
     rfl
   ·rintro σ H2 ⟨z,o,t,u,v,_,rfl,rfl⟩
    refine⟨_,rfl,?_⟩
    have q':=q r hr0
    rw[Uy,Ve]
    exact q'
  ·refine⟨_,rfl,_,rfl,_,_,rfl,rfl,⟨by decide,by decide,by decide⟩,_,_,rfl,rfl,?_⟩
   refine⟨small (Vr _),fun r hr0=>?_⟩
   refine⟨_,rfl,p,rfl,⟨_,(aB hr0 _).seq hS⟩,jE (K:=K) (a:=p) (xs:=ps.map V.int) (fun i σ H2=>∃ (z:Int) (o t u v:Option V),z=divC (mZ c) (ps.take i)/\σ=[some (.int z),some (.ref p),o,t,u,some (.ref r),v] ∧
    H2=upd H r (.lst ((xn (mZ c) (ps.take i)).map V.int))) ⟨_,_,_,_,_,(if_neg h).symm,rfl,rfl⟩ ?_ ?_ ?_⟩
   ·rintro i σ H2 hi ⟨z,o,t,u,v,_,_,e⟩
    subst e
    exact (aB hr0 _).seq hS
   ·rintro i x σ H2 hx ⟨z,o,t,u,v,ez,rfl,rfl⟩
    obtain⟨d,hd,rfl⟩:=int_at hx
    obtain⟨h1,h2⟩:=hp d (Vl hd)
    have et:ps.take (i+1)=ps.take i++[d]:=by rw[Vz,hd]; rfl
    refine⟨_,rfl,.inl ⟨rfl,_,SqL.of aq⟩,_,rfl,_,rfl,_,_,rfl,rfl,h1,r,_,_,rfl,rfl,aq,?_,_,rfl,_,rfl,_,_,rfl,rfl,⟨h1,h2⟩,_,_,_,_,_,?_,rfl,?_⟩
    ·rw[Uy,fc,Vc]
     exact aD (by lia)
    ·rw[et,lU,ez]
    ·rw[Im,et,pL,U3,ez]
     rfl
   ·rintro σ H2 ⟨z,o,t,u,v,_,rfl,rfl⟩
    refine⟨_,rfl,?_⟩
    have q':=q r hr0
    rw[Uy,Ve]
    exact q'
abbrev nj:Stmt:=top 33
theorem yg:aY ["_law_script","_law_k"] ["_law_script","_law_k"] (aG nj):=⟨rfl,rfl,rfl,by decide+kernel,rfl,by decide+kernel,by decide+kernel⟩
inductive Gh (K:Vi) (vs:List V) (H:Hp) (Q:VK):Prop where
 | mk (a:Addr) (ns:List Int) (k:Nat) (z0:vs=[.ref a,.int (k:Int)]) (z1:SqL K H a (ns.map V.int)) (z2:Q (.int (ns.getD k 0)) H):Gh K vs H Q
def zB (K:Vi):Sp:=fun vs H Q _=>Gh K vs H Q
theorem ym (F:Fun K "_law_cell" "_law_cell" nj f fd) (B:Bt mg) :
  dR P w K mg base CX0 1 f fd ["_law_script","_law_k"] (zB K):=by
 refine F.ok yg (fun vs H Q E h=>?_) (fun cdv A outer s H vs Q E hr h=>?_)
 ·obtain⟨a,ns,k,rfl,_⟩:=h
  rfl
 ·obtain⟨a,ns,k,rfl,hS,q⟩:=h
  refine⟨_,(au (bZ (aQ Dt (pv 1) (aH (r:=rm K) bI rfl B.len_ d9 (aa (pv 0) aj)) (aW _)) (aC (aM (bh (r:=gj K) bf (pv 0) (pv 1) (fun _ _=>rfl)))) aX)
 (aC (aM aA))),?_⟩
  refine⟨_,rfl,_,rfl,a,_,rfl,.inl hS,_,_,rfl,rfl,_,rfl,?_⟩
  have el:(((ns.map V.int).length:Nat):Int)=(ns.length:Int):=by rw[Uy]
  rw[el]
  refine zU (fun c=>?_) (fun c=>?_)
  ·have c':(k:Int) < (ns.length:Int):=of_decide_eq_true c
   have hk:k < ns.length:=by lia
   refine⟨_,rfl,_,rfl,a,_,_,_,rfl,rfl,hS,nJ hk,?_⟩
   rw[UL,UG hk] at q
   exact q
  ·have c':¬ (k:Int) < (ns.length:Int):=fun z=>c (decide_eq_true z)
   have hk:ns.length<=k:=by lia
   rw[UL,Wm hk] at q
   exact q
abbrev ju:Stmt:=top 43
theorem ue:aY ["_law_cell_here","_law_n","_law_most"] ["_law_cell_here","_law_n","_law_most"] (aG ju):=⟨rfl,rfl,rfl,by decide+kernel,rfl,by decide+kernel,by decide+kernel⟩
def QB (c:Int) (n:Nat) (m:Int):List Int:=wJ c (Vf n (m+1))
theorem jV (c:Int) (n:Nat) (m:Int):(QB c n m).length=n:=by
 unfold QB wJ
 rw[fc,Wl]
theorem Jj {c:Int} {n:Nat} {m:Int} (hm:0<=m) {i:Nat} (hi:i < n):∃ v,(QB c n m)[i]? = some v/\0<=v/\v<=m:=by
 obtain⟨v,e,b1,b2⟩:=cG (ps:=Vf n (m+1)) (c:=mZ c) (i:=i) (p:=m+1) (fun q hq=>by rw[List.mem_replicate] at hq; lia) (by rw[XF,if_pos hi])
 exact⟨v,e,b1,by lia⟩
inductive vB (vs:List V) (H:Hp) (Q:VK):Prop where
 | mk (c:Int) (n:Nat) (m:Int) (z0:vs=[.int c,.int (n:Int),.int m]) (z1:n<=1000) (z2:0<=m) (z3:m<=1000000) (z4:∀ (r:Addr) (H':Hp),aO H H'->H r=none->H' r=some (.tup ((QB c n m).map V.int))->Q (.ref r) H'):vB  vs H Q
def zQ:Sp:=fun vs H Q _=>vB  vs H Q
theorem oH (z:Int) (n:Nat):(Vf n [V.int z]).flatten=(Vf n z).map V.int:=by
 induction n with
 | zero=>rfl
 | succ n ih=>rw[Xn,ZD,ih,Xn]; rfl
theorem ud (F:Fun K "_law_giving" "_law_giving" ju f fd) (B:Bt mg)
  (D_law_draws:Df P w K mg base "_law_draws" 1 ["_law_cell_here","_law_parts"] (j4 K)):dR P w K mg base CX0 2 f fd ["_law_cell_here","_law_n","_law_most"] zQ:=by
 refine F.ok ue (fun vs H Q E h=>?_) (fun cdv A outer s H vs Q E hr h=>?_)
 ·obtain⟨c,n,m,rfl,_⟩:=h
  rfl
 ·obtain⟨c,n,m,rfl,hn,h0,h1,q⟩:=h
  refine⟨_,(aC (aM (bR (r:=gG K) bK rfl B.tuple_ cR (aa (bj D_law_draws hr (aa (pv 0) (aa (aR EY (bJ (aa (aR bU (pv 2) aA) aj)) (pv 1)) aj))) aj)))),?_⟩
  refine⟨_,rfl,_,rfl,_,_,rfl,rfl,small (by show 1<=1000; decide),fun p1 h1'=>?_⟩
  generalize eH1:upd H p1 _=H1
  obtain⟨g1,e1⟩:=aL eH1 h1'
  have et:((n:Int)).toNat=n:=Vu n
  refine⟨_,rfl,p1,_,_,rfl,rfl,e1,by lia,by lia,?_,fun p2 h2=>?_⟩
  ·rw[et]
   show 1 * n<=sizeLine
   exact small (by lia)
  rw[et,oH]
  generalize eH2:upd H1 p2 _=H2
  obtain⟨g2,e2⟩:=aL eH2 h2
  refine⟨c,p2,Vf n (m+1),rfl,SqL.of e2,fun z hz=>?_,?_,fun p3 h3=>?_⟩
  ·rw[List.mem_replicate] at hz
   lia
  ·rw[Wl]
   exact hn
  generalize eH3:upd H2 p3 _=H3
  obtain⟨g3,e3⟩:=aL eH3 h3
  refine⟨p3,_,rfl,.inl ⟨SqL.of e3,fun p4 h4=>?_⟩⟩
  exact q p4 _ (g1.trans (g2.trans (g3.trans (aB h4 _)))) ((g1.trans (g2.trans g3)).free h4) aq
abbrev mG:Stmt:=top 35
theorem xG:aY ["_law_found","_law_due"] ["_law_found","_law_due"] (aG mG):=⟨rfl,rfl,rfl,by decide+kernel,rfl,by decide+kernel,by decide+kernel⟩
inductive HD (n:Nat) (vs:List V) (H:Hp) (Q:VK):Prop where
 | mk (x y:V) (d:Dm) (z0:vs=[x,y]) (z1:Rep H x d) (z2:Rep H y d) (z3:d.dep < n) (z4:∀ H',aO H H'->Q (.bl true) H'):HD n vs H Q
def rC (n:Nat):Sp:=fun vs H Q _=>HD n vs H Q
theorem R6 {x:V}:decide (x=x)=true:=decide_eq_true rfl
theorem Af (n:Nat):(Vf n true).all (fun b=>b)=true:=by
 induction n with
 | zero=>rfl
 | succ n ih=>rw[Xn,ZR,ih]; rfl
theorem zF (n:Nat):(Vf n true).map V.bl=Vf n (V.bl true):=List.map_replicate
theorem iW {n:Nat} (F:Fun K "_law_same" "_law_same" mG f fd) (B:Bt mg)
  (D_law_same:Df P w K mg base "_law_same" n ["_law_found","_law_due"] (rC n)):dR P w K mg base CX0 (n+1) f fd ["_law_found","_law_due"] (rC (n+1)):=by
 refine F.ok xG (fun vs H Q E h=>?_) (fun cdv A outer s H vs Q E hr h=>?_)
 ·obtain⟨x,y,d,rfl,_⟩:=h
  rfl
 ·obtain⟨x,y,d,rfl,rx,ry,hd,q⟩:=h
  refine⟨_,(au (bZ (Fo (Ld (pv 1))) (aC (aM (QL (Ld (pv 0))))) aX)
 (au (bZ (jQ (aH (r:=Hg K) fD rfl B.isinstance_ bW (aa (pv 1) (aa (qQ B.str_ Mi) aj)))) (aC (aM (wN (aH (r:=Hg K) fD rfl B.isinstance_ bW (aa (pv 0) (aa (qQ B.str_ Mi) aj))) (vX (cU fO (pv 0) (pv 1) (aW _)))))) aX)
 (au (bZ (jQ (aH (r:=Hg K) fD rfl B.isinstance_ bW (aa (pv 1) (aa (qQ B.int_ Bc) aj)))) (aC (aM (wN (aH (r:=Hg K) fD rfl B.isinstance_ bW (aa (pv 0) (aa (qQ B.int_ Bc) aj))) (wN (cU fO (aH (r:=Hg K) fD rfl B.isinstance_ bW (aa (pv 0) (aa (qQ B.bool_ Ga) aj))) (aH (r:=Hg K) fD rfl B.isinstance_ bW (aa (pv 1) (aa (qQ B.bool_ Ga) aj))) (aW _)) (vX (cU fO (pv 0) (pv 1) (aW _))))))) aX)
 (au (bZ (PW.pt (JZ (aQ Nx (aH (r:=Hg K) fD rfl B.isinstance_ bW (aa (pv 1) (aa (qQ B.list_ rY) aj))) (aH (r:=Hg K) fD rfl B.isinstance_ bW (aa (pv 0) (aa (qQ B.list_ rY) aj))) (aW _)) (HQ (aQ Nx (aH (r:=Hg K) fD rfl B.isinstance_ bW (aa (pv 1) (aa (qQ B.tuple_ cR) aj))) (aH (r:=Hg K) fD rfl B.isinstance_ bW (aa (pv 0) (aa (qQ B.tuple_ cR) aj))) (aW _))))) (aC (aM lK)) aX)
 (aC (aM (wN (cU fO (aH (r:=rm K) bI rfl B.len_ d9 (aa (pv 0) aj)) (aH (r:=rm K) bI rfl B.len_ d9 (aa (pv 1) aj)) (aW _)) (vX (aH (r:=Gx K) (lR rfl) rfl B.all_ zu (aa (bG (L:=["_law_k"]) (F:=["_law_found","_law_due"]) (cap:=[0,1]) rfl (bD rfl rfl (by kernel_rfl)) (cg rfl B.range_ (aa (aH (r:=rm K) bI rfl B.len_ d9 (aa (pv 1) aj)) aj)) (fun _ _ _ _ _=>(aF (i:=0) (bu (by decide+kernel)) rfl (U8 rfl))) (fun _ _ _ _ _=>bF) (fun _ _ _ _ _=>(bj D_law_same hr (aa (bh (r:=rIx K) Ml (pv 1) (pv 0) (fun _ _=>rfl)) (aa (bh (r:=rIx K) Ml (pv 2) (pv 0) (fun _ _=>rfl)) aj))))) aj)))))))))),?_⟩
  cases rx with
  | non =>
   cases ry
   refine⟨_,rfl,_,rfl,ji ?_⟩
   exact⟨_,rfl,q H (aO.refl H)⟩
  | bl b =>
   cases ry
   refine⟨_,rfl,_,rfl,fU ?_⟩
   refine⟨_,rfl,_,_,_,_,rfl,.bl b,zc _,_,rfl,fU ?_⟩
   refine⟨_,rfl,_,_,_,_,rfl,.bl b,ph _,_,rfl,ji ?_⟩
   refine⟨_,rfl,_,_,_,_,rfl,.bl b,ph _,_,rfl,ji ?_⟩
   refine⟨_,rfl,_,_,_,_,rfl,.bl b,qL _ _,_,rfl,_,_,_,_,rfl,.bl b,qL _ _,rfl,_,rfl,ji ?_⟩
   refine⟨_,rfl,_,rfl,rfl,?_⟩
   have q':=q H (aO.refl H)
   rw[← R6 (x:=V.bl b)] at q'
   exact q'
  | int i =>
   cases ry
   refine⟨_,rfl,_,rfl,fU ?_⟩
   refine⟨_,rfl,_,_,_,_,rfl,.int i,Cw _,_,rfl,fU ?_⟩
   refine⟨_,rfl,_,_,_,_,rfl,.int i,qL _ _,_,rfl,ji ?_⟩
   refine⟨_,rfl,_,_,_,_,rfl,.int i,qL _ _,_,rfl,ji ?_⟩
   refine⟨_,rfl,_,_,_,_,rfl,.int i,o4 _,_,rfl,_,_,_,_,rfl,.int i,o4 _,rfl,_,rfl,ji ?_⟩
   refine⟨_,rfl,_,rfl,rfl,?_⟩
   have q':=q H (aO.refl H)
   rw[← R6 (x:=V.int i)] at q'
   exact q'
  | str z =>
   cases ry
   refine⟨_,rfl,_,rfl,fU ?_⟩
   refine⟨_,rfl,_,_,_,_,rfl,.str z,qL _ _,_,rfl,ji ?_⟩
   refine⟨_,rfl,_,_,_,_,rfl,.str z,qL _ _,_,rfl,ji ?_⟩
   refine⟨_,rfl,_,rfl,rfl,?_⟩
   have q':=q H (aO.refl H)
   rw[← R6 (x:=V.str z)] at q'
   exact q'
  | @tup a xs ds ha la ra =>
   cases ry with
   | @tup b ys _ hb lb rb =>
    have ex:=ra.length
    have ey:=rb.length
    have hdl:uq ds < n:=by
     have hd':uq ds+1 < n+1:=by rw[Dm.dep] at hd; exact hd
     lia
    refine⟨_,rfl,_,rfl,fU ?_⟩
    refine⟨_,rfl,_,_,_,_,rfl,.tup hb,uY _,_,rfl,fU ?_⟩
    refine⟨_,rfl,_,_,_,_,rfl,.tup hb,uN _,_,rfl,fU ?_⟩
    refine⟨_,rfl,_,_,_,_,rfl,.tup hb,lF _,_,rfl,_,_,_,_,rfl,.tup ha,lF _,rfl,_,rfl,fU ?_⟩
    refine⟨_,rfl,_,_,_,_,rfl,.tup hb,qL _ _,_,rfl,_,_,_,_,rfl,.tup ha,qL _ _,rfl,_,rfl,fU ?_⟩
    refine⟨_,rfl,a,_,rfl,.inr (SqT.of ha),_,rfl,b,_,rfl,.inr (SqT.of hb),rfl,_,rfl,?_⟩
    have ec:decide (V.int (xs.length:Int)=V.int (ys.length:Int))=true:=decide_eq_true (by rw[ex,ey])
    rw[ec]
    refine ji ?_
    refine⟨_,rfl,b,_,rfl,.inr (SqT.of hb),_,rfl,by lia,by lia,fun D hD=>dI (lo:=0) (n:=ys.length) (fun i zs σ' H2=>(∃ v,σ'=[v,some (.ref a),some (.ref b)])/\zs=Vf i (V.bl true)/\aO H H2/\H2 D=some (.lst zs))
     ⟨⟨_,rfl⟩,rfl,aB hD _,aq⟩ (fun i zs σ' H2 _ h=>h.2.2.2) ?_ ?_⟩
    ·rintro i zs σ' H2 hi ⟨⟨v,rfl⟩,rfl,sm,hDl⟩
     obtain⟨v1,d1,e1,e2,r1⟩:=ra.get (i:=i) (by lia)
     obtain⟨v2,d2,e3,e4,r2⟩:=rb.get (i:=i) hi
     rw[e2] at e4
     cases e4
     have at1:atI xs (0+(i:Int))=some v1:=by rw[Xl]; exact eZ e1
     have at2:atI ys (0+(i:Int))=some v2:=by rw[Xl]; exact eZ e3
     refine gT ?_
     refine⟨_,rfl,_,rfl,.inr (.inl ⟨a,xs,_,v1,rfl,rfl,SqT.of (sm _ _ ha),at1,_,rfl,_,rfl,.inr (.inl ⟨b,ys,_,v2,rfl,rfl,SqT.of (sm _ _ hb),at2,v1,v2,d1,rfl,r1.mono sm,r2.mono sm,?_,fun H3 s3=>⟨s3 _ _ hDl,?_,⟨_,rfl⟩,?_,aJ (sm.trans s3) hD _,aq⟩⟩)⟩)⟩
     ·exact Ys (sY e2) hdl
     ·rw[Wl]
      exact Vm (show i < 100000 by lia) (by decide)
     ·rw[aaX]
    ·rintro zs σ' H2 ⟨_,rfl,sm,hDl⟩
     refine⟨D,Vf ys.length true,rfl,SqL.of (by rw[hDl,zF]),?_⟩
     rw[Af]
     exact q _ sm
  | @lst a xs ds ha la ra =>
   cases ry with
   | @lst b ys _ hb lb rb =>
    have ex:=ra.length
    have ey:=rb.length
    have hdl:uq ds < n:=by
     have hd':uq ds+1 < n+1:=by rw[Dm.dep] at hd; exact hd
     lia
    refine⟨_,rfl,_,rfl,fU ?_⟩
    refine⟨_,rfl,_,_,_,_,rfl,.lst hb,yR _,_,rfl,fU ?_⟩
    refine⟨_,rfl,_,_,_,_,rfl,.lst hb,xV _,_,rfl,fU ?_⟩
    refine⟨_,rfl,_,_,_,_,rfl,.lst hb,qL _ _,_,rfl,_,_,_,_,rfl,.lst ha,qL _ _,rfl,_,rfl,fU ?_⟩
    refine⟨_,rfl,_,_,_,_,rfl,.lst hb,lQ _,_,rfl,_,_,_,_,rfl,.lst ha,lQ _,rfl,_,rfl,fU ?_⟩
    refine⟨_,rfl,a,_,rfl,.inl (SqL.of ha),_,rfl,b,_,rfl,.inl (SqL.of hb),rfl,_,rfl,?_⟩
    have ec:decide (V.int (xs.length:Int)=V.int (ys.length:Int))=true:=decide_eq_true (by rw[ex,ey])
    rw[ec]
    refine ji ?_
    refine⟨_,rfl,b,_,rfl,.inl (SqL.of hb),_,rfl,by lia,by lia,fun D hD=>dI (lo:=0) (n:=ys.length) (fun i zs σ' H2=>(∃ v,σ'=[v,some (.ref a),some (.ref b)])/\zs=Vf i (V.bl true)/\aO H H2/\H2 D=some (.lst zs))
     ⟨⟨_,rfl⟩,rfl,aB hD _,aq⟩ (fun i zs σ' H2 _ h=>h.2.2.2) ?_ ?_⟩
    ·rintro i zs σ' H2 hi ⟨⟨v,rfl⟩,rfl,sm,hDl⟩
     obtain⟨v1,d1,e1,e2,r1⟩:=ra.get (i:=i) (by lia)
     obtain⟨v2,d2,e3,e4,r2⟩:=rb.get (i:=i) hi
     rw[e2] at e4
     cases e4
     have at1:atI xs (0+(i:Int))=some v1:=by rw[Xl]; exact eZ e1
     have at2:atI ys (0+(i:Int))=some v2:=by rw[Xl]; exact eZ e3
     refine gT ?_
     refine⟨_,rfl,_,rfl,.inl ( ⟨a,xs,_,v1,rfl,rfl,SqL.of (sm _ _ ha),at1,_,rfl,_,rfl,.inl ( ⟨b,ys,_,v2,rfl,rfl,SqL.of (sm _ _ hb),at2,v1,v2,d1,rfl,r1.mono sm,r2.mono sm,?_,fun H3 s3=>⟨s3 _ _ hDl,?_,⟨_,rfl⟩,?_,aJ (sm.trans s3) hD _,aq⟩⟩)⟩)⟩
     ·exact Ys (sY e2) hdl
     ·rw[Wl]
      exact Vm (show i < 100000 by lia) (by decide)
     ·rw[aaX]
    ·rintro zs σ' H2 ⟨_,rfl,sm,hDl⟩
     refine⟨D,Vf ys.length true,rfl,SqL.of (by rw[hDl,zF]),?_⟩
     rw[Af]
     exact q _ sm
theorem same_none:dR P w K mg base CX0 0 f fd ["_law_found","_law_due"] (rC 0):=by
 have no:∀ vs H Q E,¬ rC 0 vs H Q E:=fun vs H Q E h=>by
  obtain⟨x,y,d,_,_,_,h1,_⟩:=h
  lia
 exact⟨fun vs H Q E h=>absurd h (no vs H Q E),fun A outer s H args us vs Q E _ _ _ _ h=>absurd h (no vs H Q E)⟩
abbrev jZ:Stmt:=top 36
theorem gU:aY ["_law_cell_here","_law_k","_law_rest","_law_turn"] ["_law_cell_here","_law_k"] (aG jZ):=⟨rfl,rfl,rfl,by decide+kernel,rfl,by decide+kernel,by decide+kernel⟩
def OJ (c:Int) (k:Nat):Int:=if decide ((if c < 0 then -c else c) < 10 ^ (18:Int).toNat)=true then (c * 48271+7919 * (k:Int)+13) % 2147483647 else 10 ^ (18:Int).toNat+divC ((if c < 0 then -c else c) - 10 ^ (18:Int).toNat) (Vf (k+1) (10 ^ (9:Int).toNat))
inductive Ah (vs:List V) (H:Hp) (Q:VK):Prop where
 | mk (c:Int) (k:Nat) (z0:vs=[.int c,.int (k:Int)]) (z1:k<=1000) (z2:Q (.int (OJ c k)) H):Ah  vs H Q
def sV:Sp:=fun vs H Q _=>Ah  vs H Q
theorem uQ (F:Fun K "_law_under" "_law_under" jZ f fd) (B:Bt mg) :
  dR P w K mg base CX0 1 f fd ["_law_cell_here","_law_k"] sV:=by
 refine F.ok gU (fun vs H Q E h=>?_) (fun cdv A outer s H vs Q E hr h=>?_)
 ·obtain⟨c,k,rfl,_⟩:=h
  rfl
 ·obtain⟨c,k,rfl,hk,q⟩:=h
  refine⟨_,(au (bZ (aQ Dt (aH lV rfl B.abs_ vM (aa (pv 0) aj)) (aR pP aA aA) (aW _)) (aC (aM (aR dh (aR bU (aR bU (aR fV (pv 0) aA) (aR fV aA (pv 1))) aA) aA))) aX)
 (au (aP (i:=2) gU.nd rfl (U8 rfl) (aR qF (aH lV rfl B.abs_ vM (aa (pv 0) aj)) (aR pP aA aA)))
 (au (di Vx rfl (cg rfl B.range_ (aa (aR bU (pv 1) aA) aj)) (aF (i:=3) gU.nd rfl (U8 rfl)) (aC (aP (i:=2) gU.nd rfl (U8 rfl) (aR tG (pv 2) (aR pP aA aA)))))
 (aC (aM (aR bU (aR pP aA aA) (pv 2))))))),?_⟩
  refine⟨_,rfl,_,rfl,_,_,rfl,rfl,⟨by decide,by decide,by decide⟩,_,_,rfl,rfl,_,rfl,?_⟩
  refine zU (fun h=>?_) (fun h=>?_)
  ·refine⟨_,rfl,_,_,rfl,rfl,.inr ⟨by decide,by decide⟩,_,rfl,_,_,rfl,rfl,.inl ⟨by decide,by decide⟩,_,_,rfl,rfl,_,_,rfl,rfl,_,_,rfl,rfl,(by show (0:Int) < 2147483647; decide),?_⟩
   unfold OJ at q
   rw[if_pos h] at q
   exact q
  ·unfold OJ at q
   rw[if_neg h] at q
   refine⟨_,rfl,_,rfl,_,_,rfl,rfl,⟨by decide,by decide,by decide⟩,_,_,rfl,rfl,?_⟩
   have ek:((k:Int)+1).toNat=k+1:=by lia
   refine⟨_,rfl,_,_,rfl,rfl,_,rfl,by lia,by lia,eF (lo:=0) (n:=((k:Int)+1).toNat) (fun i σ H2=>(∃ t:Option V,σ=[some (.int c),some (.int (k:Int)),some (.int (divC ((if c < 0 then -c else c) - 10 ^ (18:Int).toNat) (Vf i (10 ^ (9:Int).toNat)))),t])/\H2=H) ⟨⟨_,rfl⟩,rfl⟩ ?_ ?_⟩
   ·rintro i σ H2 hi ⟨⟨t,rfl⟩,rfl⟩
    refine⟨_,rfl,_,_,rfl,rfl,⟨by decide,by decide,by decide⟩,_,_,rfl,rfl,⟨by show (0:Int) < 10 ^ 9; decide,by show (10 ^ 9:Int) < 1073741824; decide⟩,⟨some (.int (0+(i:Int))),?_⟩,rfl⟩
    rw[aaX,lU]
    rfl
   ·rintro σ H2 ⟨⟨t,rfl⟩,rfl⟩
    refine⟨_,_,rfl,rfl,⟨by decide,by decide,by decide⟩,_,rfl,_,_,rfl,rfl,?_⟩
    rw[ek]
    exact q
abbrev jY:Stmt:=top 37
theorem gW:aY ["_law_number","_law_n","_law_found","_law_one"] ["_law_number","_law_n"] (aG jY):=⟨rfl,rfl,rfl,by decide+kernel,rfl,by decide+kernel,by decide+kernel⟩
inductive Bh (vs:List V) (H:Hp) (Q:VK):Prop where
 | mk (m:Int) (n:Nat) (z0:vs=[.int m,.int (n:Int)]) (z1:n<=100) (z2:∀ (c:List Nat) (r:Addr) (H':Hp),(∀ i∈c,i < n)->c.Pairwise (· < ·)->c.length<=n->aO H H'->H r=none->H' r=some (.tup (c.map vN))->Q (.ref r) H'):Bh  vs H Q
def yS:Sp:=fun vs H Q _=>Bh  vs H Q
theorem wC (F:Fun K "_law_crowd" "_law_crowd" jY f fd) (B:Bt mg) :
  dR P w K mg base CX0 1 f fd ["_law_number","_law_n"] yS:=by
 refine F.ok gW (fun vs H Q E h=>?_) (fun cdv A outer s H vs Q E hr h=>?_)
 ·obtain⟨m,n,rfl,_⟩:=h
  rfl
 ·obtain⟨m,n,rfl,hn,q⟩:=h
  refine⟨_,(au (aP (i:=2) gW.nd rfl (U8 rfl) (bJ aj))
 (au (di Vx rfl (cg rfl B.range_ (aa (pv 1) aj)) (aF (i:=3) gW.nd rfl (U8 rfl)) (au (bZ (aQ fO (aR dh (pv 0) aA) aA (aW _)) (aC (eG (kZ VH VN VM cB (pv 2) (aa (pv 3) aj)))) aX)
 (aC (aP (i:=0) gW.nd rfl (U8 rfl) (aR tG (pv 0) aA)))))
 (aC (aM (bR (r:=gG K) bK rfl B.tuple_ cR (aa (pv 2) aj)))))),?_⟩
  refine⟨small (by show 0<=1000; decide),fun r hr0=>?_⟩
  have en:((n:Int)).toNat=n:=Vu n
  refine⟨_,rfl,_,rfl,by lia,by lia,eF (lo:=0) (n:=((n:Int)).toNat) (fun i σ H2=>∃ (z:Int) (t:Option V) (c:List Nat),σ=[some (.int z),some (.int (n:Int)),some (.ref r),t]/\H2=upd H r (.lst (c.map vN))/\(∀ j∈c,j < i)/\c.Pairwise (· < ·)/\c.length<=i)
   ⟨_,_,[],rfl,rfl,by simp,by simp,U0 _⟩ ?_ ?_⟩
  ·rintro i σ H2 hi ⟨z,t,c,rfl,rfl,hc,hp,hl⟩
   refine⟨_,rfl,_,_,rfl,rfl,(by show (0:Int) < 2; decide),rfl,_,rfl,?_⟩
   refine zU (fun _=>?_) (fun _=>?_)
   ·refine⟨_,rfl,.inl ⟨rfl,_,SqL.of aq⟩,_,rfl,r,_,_,rfl,rfl,aq,?_,_,rfl,_,_,rfl,rfl,⟨by decide,by decide⟩,_,_,c++[i],rfl,?_,?_,?_,?_⟩
    ·rw[Uy]
     exact aD (by lia)
    ·rw[Im,U3,Xl]
     rfl
    ·intro j hj
     rcases List.mem_append.mp hj with h | h
     ·have:=hc j h
      lia
     ·have:=List.mem_singleton.mp h
      lia
    ·rw[aaY]
     refine⟨hp,by simp,fun a ha b hb=>?_⟩
     rw[List.mem_singleton.mp hb]
     exact hc a ha
    ·rw[Va]
     show c.length+1<=i+1
     lia
   ·refine⟨_,rfl,_,_,rfl,rfl,⟨by decide,by decide⟩,_,_,c,rfl,rfl,fun j hj=>V7 (hc j hj),hp,by lia⟩
  ·rintro σ H2 ⟨z,t,c,rfl,rfl,hc,hp,hl⟩
   refine⟨_,rfl,r,_,rfl,.inl ⟨SqL.of aq,fun l hl'=>?_⟩⟩
   rw[en] at hc hl
   exact q c l _ hc hp hl ((aB hr0 _).trans (aB hl' _)) ((aB hr0 _).free hl') aq
inductive Tm where
 | free | never | gives (i:Nat) (k:Int) | sum (c:List Nat) (k:Int) | crowd (c:List Nat) (k m:Int) | all (ts:List Tm) | any (ts:List Tm)
mutual
def Tm.dep:Tm->Nat
 | .all ts=>tdL ts+1
 | .any ts=>tdL ts+1
 | _=>1
def tdL:List Tm->Nat
 | []=>0
 | t::r=>max t.dep (tdL r)
end
mutual
def hF (g:List Int):Tm->Bool
 | .free=>true
 | .never=>false
 | .gives i k=>decide (k<=g.getD i 0)
 | .sum c k=>decide (k<=(c.map fun i=>g.getD i 0).sum)
 | .crowd c k m=>decide (m<=((c.filter fun i=>decide (k<=g.getD i 0)).length:Int))
 | .all ts=>qI g ts
 | .any ts=>qH g ts
def qI (g:List Int):List Tm->Bool
 | []=>true
 | t::r=>hF g t && qI g r
def qH (g:List Int):List Tm->Bool
 | []=>false
 | t::r=>hF g t || qH g r
end
mutual
inductive nR (n:Nat) (H:Hp):V->Tm->Prop where
 | free {a:Addr}:H a=some (.tup [.str "free"])->nR n H (.ref a) .free
 | never {a:Addr}:H a=some (.tup [.str "never"])->nR n H (.ref a) .never
 | gives {a:Addr} {i:Nat} {k:Int}:H a=some (.tup [.str "gives",vN i,.int k])->i < n->1<=k->k<=9->nR n H (.ref a) (.gives i k)
 | sum {a b:Addr} {c:List Nat} {k:Int}:H a=some (.tup [.str "sum",.ref b,.int k])->H b=some (.tup (c.map vN))->(∀ i∈c,i < n)->c.Pairwise (· < ·)->c.length<=20->2<=c.length->1<=k->k<=99->nR n H (.ref a) (.sum c k)
 | crowd {a b:Addr} {c:List Nat} {k m:Int}:H a=some (.tup [.str "crowd",.ref b,.int k,.int m])->H b=some (.tup (c.map vN))->(∀ i∈c,i < n)->c.Pairwise (· < ·)->c.length<=20->1<=c.length->1<=k->k<=9->1<=m->m<=12->nR n H (.ref a) (.crowd c k m)
 | all {a b:Addr} {vs:List V} {ts:List Tm}:H a=some (.tup [.str "all",.ref b])->H b=some (.tup vs)->2<=vs.length->vs.length<=6->dW n H vs ts->nR n H (.ref a) (.all ts)
 | any {a b:Addr} {vs:List V} {ts:List Tm}:H a=some (.tup [.str "any",.ref b])->H b=some (.tup vs)->2<=vs.length->vs.length<=6->dW n H vs ts->nR n H (.ref a) (.any ts)
inductive dW (n:Nat) (H:Hp):List V->List Tm->Prop where
 | nil:dW n H [] []
 | cons {v:V} {t:Tm} {vs:List V} {ts:List Tm}:nR n H v t->dW n H vs ts->dW n H (v::vs) (t::ts)
end
mutual
theorem nR.bL {n:Nat} {H H':Hp} (e:∀ a xs,H a=some (HO.tup xs)->H' a=some (HO.tup xs)):∀ {v:V} {t:Tm},nR n H v t->nR n H' v t
 | _,_,.free h=>.free (e _ _ h)
 | _,_,.never h=>.never (e _ _ h)
 | _,_,.gives h a b c=>.gives (e _ _ h) a b c
 | _,_,.sum h h2 a b c d f g=>.sum (e _ _ h) (e _ _ h2) a b c d f g
 | _,_,.crowd h h2 a b c d f g i j=>.crowd (e _ _ h) (e _ _ h2) a b c d f g i j
 | _,_,.all h h2 a b r=>.all (e _ _ h) (e _ _ h2) a b (dW.bL e r)
 | _,_,.any h h2 a b r=>.any (e _ _ h) (e _ _ h2) a b (dW.bL e r)
theorem dW.bL {n:Nat} {H H':Hp} (e:∀ a xs,H a=some (HO.tup xs)->H' a=some (HO.tup xs)):∀ {vs:List V} {ts:List Tm},dW n H vs ts->dW n H' vs ts
 | _,_,.nil=>.nil
 | _,_,.cons h r=>.cons (nR.bL e h) (dW.bL e r)
end
theorem nR.mono {n:Nat} {H H':Hp} (e:aO H H') {v:V} {t:Tm} (h:nR n H v t):nR n H' v t:=h.bL fun a xs q=>e a _ q
theorem dW.mono {n:Nat} {H H':Hp} (e:aO H H') {vs:List V} {ts:List Tm} (h:dW n H vs ts):dW n H' vs ts:=h.bL fun a xs q=>e a _ q
theorem dW.length {n:Nat} {H:Hp}:∀ {vs:List V} {ts:List Tm},dW n H vs ts->vs.length=ts.length
 | _,_,.nil=>rfl
 | _,_,.cons _ r=>by rw[Vd,Vd,dW.length r]
theorem dW.get {n:Nat} {H:Hp}:∀ {vs:List V} {ts:List Tm} {i:Nat} {v:V},dW n H vs ts->vs[i]? = some v->∃ t,ts[i]? = some t/\nR n H v t
 | _,_,_,_,.nil,h=>by simp at h
 | _,_,0,_,.cons h _,e=>by
  cases (show some _=some _ from e)
  exact⟨_,rfl,h⟩
 | _,_,i+1,_,.cons _ r,e=>by
  obtain⟨t,e1,e2⟩:=dW.get (i:=i) r (by simpa using e)
  exact⟨t,by simpa using e1,e2⟩
theorem dW.snoc {n:Nat} {H:Hp}:∀ {vs:List V} {ts:List Tm} {v:V} {t:Tm},dW n H vs ts->nR n H v t->dW n H (vs++[v]) (ts++[t])
 | _,_,_,_,.nil,h=>.cons h .nil
 | _,_,_,_,.cons a r,h=>.cons a (dW.snoc r h)
theorem mQ:∀ {ts:List Tm} {i:Nat} {t:Tm},ts[i]? = some t->t.dep<=tdL ts
 | [],_,_,h=>by simp at h
 | d::r,0,_,h=>by
  cases (show some d=some _ from h)
  rw[tdL]
  exact Nat.le_max_left _ _
 | d::r,i+1,_,h=>by
  rw[tdL]
  exact Wd (mQ (i:=i) (ts:=r) (by simpa using h)) (Nat.le_max_right _ _)
theorem Ae {m:Nat} {t:Tm} (h:t.dep<=m):∀ {ts:List Tm},tdL ts<=m->tdL (ts++[t])<=m
 | [],_=>by simp only[ZX,tdL]; lia
 | d::r,h2=>by
  rw[tdL] at h2
  rw[List.cons_append,tdL]
  have:=Ae (m:=m) h (ts:=r) (by lia)
  lia
theorem Tm.zq:∀ t:Tm,1<=t.dep
 | .free | .never | .gives .. | .sum .. | .crowd ..=>U0 1
 | .all ts=>by rw[Tm.dep]; lia
 | .any ts=>by rw[Tm.dep]; lia
theorem vJ:∀ {g:List Int} {ts:List Tm} {i:Nat} {t:Tm},ts[i]? = some t->qI g (ts.take (i+1))=(qI g (ts.take i) && hF g t)
 | _,[],_,_,h=>by simp at h
 | g,d::r,0,t,h=>by
  cases (show some d=some _ from h)
  rw[Wx,qI,We,We,qI,Bool.and_true,Bool.true_and]
 | g,d::r,i+1,t,h=>by
  rw[Wx,qI,vJ (i:=i) (ts:=r) (by simpa using h),Wx,qI,Bool.and_assoc]
theorem uW:∀ {g:List Int} {ts:List Tm} {i:Nat} {t:Tm},ts[i]? = some t->qH g (ts.take (i+1))=(qH g (ts.take i) || hF g t)
 | _,[],_,_,h=>by simp at h
 | g,d::r,0,t,h=>by
  cases (show some d=some _ from h)
  rw[Wx,qH,We,We,qH,Bool.or_false,abb]
 | g,d::r,i+1,t,h=>by
  rw[Wx,qH,uW (i:=i) (ts:=r) (by simpa using h),Wx,qH,Bool.or_assoc]
theorem rR:∀ {g:List Int} {ts:List Tm} {i:Nat} {t:Tm},ts[i]? = some t->hF g t=false->qI g ts=false
 | _,[],_,_,h,_=>by simp at h
 | g,d::r,0,t,h,e=>by
  cases (show some d=some _ from h)
  rw[qI,e,Bool.false_and]
 | g,d::r,i+1,t,h,e=>by rw[qI,rR (i:=i) (ts:=r) (by simpa using h) e,aa2]
theorem wF:∀ {g:List Int} {ts:List Tm} {i:Nat} {t:Tm},ts[i]? = some t->hF g t=true->qH g ts=true
 | _,[],_,_,h,_=>by simp at h
 | g,d::r,0,t,h,e=>by
  cases (show some d=some _ from h)
  rw[qH,e,Bool.true_or]
 | g,d::r,i+1,t,h,e=>by rw[qH,wF (i:=i) (ts:=r) (by simpa using h) e,Bool.or_true]
def LeG (g g':List Int):Prop:=∀ i,g.getD i 0<=g'.getD i 0
theorem rJ (f f':Nat->Int) (h:∀ i,f i<=f' i):∀ c:List Nat,(c.map f).sum<=(c.map f').sum
 | []=>V9 _
 | i::c=>by
  have:=rJ f f' h c
  have:=h i
  simp only[Vw,Yy]
  lia
theorem filter_le (f f':Nat->Bool) (h:∀ i,f i=true->f' i=true):∀ c:List Nat,(c.filter f).length<=(c.filter f').length
 | []=>U0 _
 | i::c=>by
  have ih:=filter_le f f' h c
  rw[Yn,Yn]
  by_cases e:f i=true
  ·rw[if_pos e,if_pos (h i e),Vd,Vd]
   lia
  ·rw[if_neg e]
   split
   ·rw[Vd]
    lia
   ·exact ih
mutual
theorem yD {g g':List Int} (l:LeG g g'):∀ t:Tm,hF g t=true->hF g' t=true
 | .free,_=>by rw[hF]
 | .never,h=>by rw[hF] at h; cases h
 | .gives i k,h=>by
  rw[hF] at h ⊢
  have:=of_decide_eq_true h
  have:=l i
  exact decide_eq_true (by lia)
 | .sum c k,h=>by
  rw[hF] at h ⊢
  have:=of_decide_eq_true h
  have:=rJ _ _ l c
  exact decide_eq_true (by lia)
 | .crowd c k m,h=>by
  rw[hF] at h ⊢
  have:=of_decide_eq_true h
  have:=filter_le (fun i=>decide (k<=g.getD i 0)) (fun i=>decide (k<=g'.getD i 0)) (fun i e=>decide_eq_true (Z6 (of_decide_eq_true e) (l i))) c
  exact decide_eq_true (by lia)
 | .all ts,h=>by
  rw[hF] at h ⊢
  exact vU l ts h
 | .any ts,h=>by
  rw[hF] at h ⊢
  exact wU l ts h
theorem vU {g g':List Int} (l:LeG g g'):∀ ts:List Tm,qI g ts=true->qI g' ts=true
 | [],_=>by rw[qI]
 | t::r,h=>by
  rw[qI,WK] at h
  rw[qI,yD l t h.1,vU l r h.2]
  rfl
theorem wU {g g':List Int} (l:LeG g g'):∀ ts:List Tm,qH g ts=true->qH g' ts=true
 | [],h=>by rw[qH] at h; cases h
 | t::r,h=>by
  rw[qH,ab1] at h
  rw[qH]
  rcases h with h | h
  ·rw[yD l t h,Bool.true_or]
  ·rw[wU l r h,Bool.or_true]
end
theorem gC {c A B:Prop} [Decidable c] (hc:¬ c) (h:B):if decide c=true then A else B:=by
 rw[decide_eq_false hc]
 exact fU h
theorem Dy {c A B:Prop} [Decidable c] (hc:c) (h:A):if decide c=true then A else B:=by
 rw[decide_eq_true hc]
 exact ji h
theorem bA {a b:Wz} (h:a≠b):¬ V.str a=V.str b:=fun z=>h (by cases z; rfl)
theorem atD {g:List Int} {i:Nat} (h:i < g.length):atI (g.map V.int) (i:Int)=some (.int (g.getD i 0)):=by
 rw[nJ h,UL,UG h]
 rfl
abbrev mU:Stmt:=top 7
abbrev j8:Stmt:=top 8
abbrev xP:Stmt:=top 9
theorem pO:aY ["parts","giving","part"] ["parts","giving"] (aG mU):=⟨rfl,rfl,rfl,by decide+kernel,rfl,by decide+kernel,by decide+kernel⟩
theorem nQ:aY ["parts","giving","part"] ["parts","giving"] (aG j8):=⟨rfl,rfl,rfl,by decide+kernel,rfl,by decide+kernel,by decide+kernel⟩
theorem Bd:aY ["term","giving","kind"] ["term","giving"] (aG xP):=⟨rfl,rfl,rfl,by decide+kernel,rfl,by decide+kernel,by decide+kernel⟩
inductive Al (K:Vi) (d:Nat) (vs:List V) (H:Hp) (Q:VK):Prop where
 | mk (v:V) (g:Addr) (n:Nat) (t:Tm) (ns:List Int) (z0:vs=[v,.ref g]) (z1:nR n H v t) (z2:t.dep<=d) (z3:SqT K H g (ns.map V.int)) (z4:n<=ns.length) (z5:∀ H',aO H H'->Q (.bl (hF ns t)) H'):Al K d vs H Q
def eV (K:Vi) (d:Nat):Sp:=fun vs H Q _=>Al K d vs H Q
inductive Gm (K:Vi) (d:Nat) (vs:List V) (H:Hp) (Q:VK):Prop where
 | mk (b g:Addr) (n:Nat) (us:List V) (ts:List Tm) (ns:List Int) (z0:vs=[.ref b,.ref g]) (z1:H b=some (.tup us)) (z2:dW n H us ts) (z3:tdL ts<=d) (z4:SqT K H g (ns.map V.int)) (z5:n<=ns.length) (z6:∀ H',aO H H'->Q (.bl (qI ns ts)) H'):Gm K d vs H Q
def Lz (K:Vi) (d:Nat):Sp:=fun vs H Q _=>Gm K d vs H Q
inductive Gj (K:Vi) (d:Nat) (vs:List V) (H:Hp) (Q:VK):Prop where
 | mk (b g:Addr) (n:Nat) (us:List V) (ts:List Tm) (ns:List Int) (z0:vs=[.ref b,.ref g]) (z1:H b=some (.tup us)) (z2:dW n H us ts) (z3:tdL ts<=d) (z4:SqT K H g (ns.map V.int)) (z5:n<=ns.length) (z6:∀ H',aO H H'->Q (.bl (qH ns ts)) H'):Gj K d vs H Q
def K4 (K:Vi) (d:Nat):Sp:=fun vs H Q _=>Gj K d vs H Q
theorem Ds:dR P w K mg base CX0 0 f fd ["term","giving"] (eV K 0):=by
 have no:∀ vs H Q E,¬ eV K 0 vs H Q E:=fun vs H Q E h=>by
  obtain⟨v,g,n,t,ns,_,_,h1,_⟩:=h
  have:=t.zq
  lia
 exact⟨fun vs H Q E h=>absurd h (no vs H Q E),fun A outer s H args us vs Q E _ _ _ _ h=>absurd h (no vs H Q E)⟩
theorem je {d k:Nat} (F:Fun K "all_hold" "all_hold" mU f fd) (B:Bt mg)
  (D_holds:Df P w K mg base "holds" k ["term","giving"] (eV K d)):dR P w K mg base CX0 (k+1) f fd ["parts","giving"] (Lz K d):=by
 refine F.ok pO (fun vs H Q E h=>?_) (fun cdv A outer s H vs Q E hr h=>?_)
 ·obtain⟨b,g,n,us,ts,ns,rfl,_⟩:=h
  rfl
 ·obtain⟨b,g,n,us,ts,ns,rfl,hb,rp,hd,hg,hn,q⟩:=h
  refine⟨_,(au (di Vx rfl (gO (pv 0)) (aF (i:=2) pO.nd rfl (U8 rfl)) (aC (bZ (zP (jQ (bj D_holds hr (aa (pv 2) (aa (pv 1) aj))))) (aC (aM lK)) aX)))
 (aC (aM lK))),?_⟩
  have el:=rp.length
  refine⟨_,rfl,b,rfl,⟨_,SqT.of hb⟩,pG (K:=K) (a:=b) (xs:=us) (fun i σ H2=>(∃ u,σ=[some (.ref b),some (.ref g),u])/\aO H H2/\qI ns (ts.take i)=true) ⟨⟨_,rfl⟩,aO.refl H,by rw[We,qI]⟩ (fun i σ H2 _ h=>fH h.2.1 (SqT.of hb)) ?_ ?_⟩
  ·rintro i x σ H2 hx ⟨⟨u,rfl⟩,sm,ab⟩
   obtain⟨t,ht,rt⟩:=rp.get hx
   refine⟨_,rfl,_,rfl,x,g,n,t,ns,rfl,rt.mono sm,Wd (mQ ht) hd,fH sm hg,hn,fun H3 s3=>⟨_,rfl,?_⟩⟩
   cases e:hF ns t with
   | false =>
    have q':=q H3 (sm.trans s3)
    rw[rR ht e] at q'
    exact ji q'
   | true=>exact fU ⟨⟨_,rfl⟩,sm.trans s3,by rw[vJ ht,ab,e]; rfl⟩
  ·rintro σ H2 ⟨⟨u,rfl⟩,sm,ab⟩
   have q':=q H2 sm
   rw[el,Ve] at ab
   rw[ab] at q'
   exact q'
theorem gY {d k:Nat} (F:Fun K "any_holds" "any_holds" j8 f fd) (B:Bt mg)
  (D_holds:Df P w K mg base "holds" k ["term","giving"] (eV K d)):dR P w K mg base CX0 (k+1) f fd ["parts","giving"] (K4 K d):=by
 refine F.ok nQ (fun vs H Q E h=>?_) (fun cdv A outer s H vs Q E hr h=>?_)
 ·obtain⟨b,g,n,us,ts,ns,rfl,_⟩:=h
  rfl
 ·obtain⟨b,g,n,us,ts,ns,rfl,hb,rp,hd,hg,hn,q⟩:=h
  refine⟨_,(au (di Vx rfl (gO (pv 0)) (aF (i:=2) nQ.nd rfl (U8 rfl)) (aC (bZ (jQ (bj D_holds hr (aa (pv 2) (aa (pv 1) aj)))) (aC (aM lK)) aX)))
 (aC (aM lK))),?_⟩
  have el:=rp.length
  refine⟨_,rfl,b,rfl,⟨_,SqT.of hb⟩,pG (K:=K) (a:=b) (xs:=us) (fun i σ H2=>(∃ u,σ=[some (.ref b),some (.ref g),u])/\aO H H2/\qH ns (ts.take i)=false) ⟨⟨_,rfl⟩,aO.refl H,by rw[We,qH]⟩ (fun i σ H2 _ h=>fH h.2.1 (SqT.of hb)) ?_ ?_⟩
  ·rintro i x σ H2 hx ⟨⟨u,rfl⟩,sm,ab⟩
   obtain⟨t,ht,rt⟩:=rp.get hx
   refine⟨_,rfl,_,rfl,x,g,n,t,ns,rfl,rt.mono sm,Wd (mQ ht) hd,fH sm hg,hn,fun H3 s3=>⟨_,rfl,?_⟩⟩
   cases e:hF ns t with
   | true =>
    have q':=q H3 (sm.trans s3)
    rw[wF ht e] at q'
    exact ji q'
   | false=>exact fU ⟨⟨_,rfl⟩,sm.trans s3,by rw[uW ht,ab,e]; rfl⟩
  ·rintro σ H2 ⟨⟨u,rfl⟩,sm,ab⟩
   have q':=q H2 sm
   rw[el,Ve] at ab
   rw[ab] at q'
   exact q'
theorem oY {d k:Nat} (F:Fun K "holds" "holds" xP f fd) (B:Bt mg)
  (D_all_hold:Df P w K mg base "all_hold" k ["parts","giving"] (Lz K d)) (D_any_holds:Df P w K mg base "any_holds" k ["parts","giving"] (K4 K d)):dR P w K mg base CX0 (k+1) f fd ["term","giving"] (eV K (d+1)):=by
 refine F.ok Bd (fun vs H Q E h=>?_) (fun cdv A outer s H vs Q E hr h=>?_)
 ·obtain⟨v,g,n,t,ns,rfl,_⟩:=h
  rfl
 ·obtain⟨v,g,n,t,ns,rfl,rt,hd,hg,hn,q⟩:=h
  refine⟨_,(au (aP (i:=2) Bd.nd rfl (U8 rfl) (bh (r:=gk K) bC (pv 0) aA (fun _ _=>rfl)))
 (au (bZ (aQ fO (pv 2) cC (aW _)) (aC (aM (cU qU (bh (r:=gk K) bC (pv 1) (bh (r:=gk K) bC (pv 0) aA (fun _ _=>rfl)) (fun _ _=>rfl)) (bh (r:=gk K) bC (pv 0) aA (fun _ _=>rfl)) (aW _)))) aX)
 (au (bZ (aQ fO (pv 2) cC (aW _)) (aC (aM (cU qU (aH (r:=Js K) (pJ rfl) rfl B.sum_ Ik (aa (bG (L:=["one"]) (F:=["giving"]) (cap:=[1]) rfl (bD rfl rfl (by kernel_rfl)) (gO (bh (r:=gk K) bC (pv 0) aA (fun _ _=>rfl))) (fun _ _ _ _ _=>(aF (i:=0) (bu (by decide+kernel)) rfl (U8 rfl))) (fun _ _ _ _ _=>bF) (fun _ _ _ _ _=>(bh (r:=gk K) bC (pv 1) (pv 0) (fun _ _=>rfl)))) aj)) (bh (r:=gk K) bC (pv 0) aA (fun _ _=>rfl)) (aW _)))) aX)
 (au (bZ (aQ fO (pv 2) cC (aW _)) (aC (aM (cU qU (aH (r:=rm K) bI rfl B.len_ d9 (aa (bG (L:=["one"]) (F:=["giving","term"]) (cap:=[1,0]) rfl (bD rfl rfl (by kernel_rfl)) (gO (bh (r:=gk K) bC (pv 0) aA (fun _ _=>rfl))) (fun _ _ _ _ _=>(aF (i:=0) (bu (by decide+kernel)) rfl (U8 rfl))) (fun _ _ _ _ _=>(Gb (aQ qU (bh (r:=gk K) bC (pv 1) (pv 0) (fun _ _=>rfl)) (bh (r:=gk K) bC (pv 2) aA (fun _ _=>rfl)) (aW _)))) (fun _ _ _ _ _=>(pv 0))) aj)) (bh (r:=gk K) bC (pv 0) aA (fun _ _=>rfl)) (aW _)))) aX)
 (au (bZ (aQ fO (pv 2) cC (aW _)) (aC (aM (bj D_all_hold hr (aa (bh (r:=gk K) bC (pv 0) aA (fun _ _=>rfl)) (aa (pv 1) aj))))) aX)
 (au (bZ (aQ fO (pv 2) cC (aW _)) (aC (aM (bj D_any_holds hr (aa (bh (r:=gk K) bC (pv 0) aA (fun _ _=>rfl)) (aa (pv 1) aj))))) aX)
 (aC (aM (cU fO (pv 2) cC (aW _)))))))))),?_⟩
  cases rt with
  | @free a ha =>
   refine⟨_,rfl,a,_,_,_,rfl,rfl,SqT.of ha,aK (k:=0) rfl,?_⟩
   refine⟨_,rfl,rfl,_,rfl,gC (bA (by decide)) ?_⟩
   refine⟨_,rfl,rfl,_,rfl,gC (bA (by decide)) ?_⟩
   refine⟨_,rfl,rfl,_,rfl,gC (bA (by decide)) ?_⟩
   refine⟨_,rfl,rfl,_,rfl,gC (bA (by decide)) ?_⟩
   refine⟨_,rfl,rfl,_,rfl,gC (bA (by decide)) ?_⟩
   refine⟨_,rfl,rfl,?_⟩
   have q':=q H (aO.refl H)
   rw[hF] at q'
   rw[decide_eq_true rfl]
   exact q'
  | @never a ha =>
   refine⟨_,rfl,a,_,_,_,rfl,rfl,SqT.of ha,aK (k:=0) rfl,?_⟩
   refine⟨_,rfl,rfl,_,rfl,gC (bA (by decide)) ?_⟩
   refine⟨_,rfl,rfl,_,rfl,gC (bA (by decide)) ?_⟩
   refine⟨_,rfl,rfl,_,rfl,gC (bA (by decide)) ?_⟩
   refine⟨_,rfl,rfl,_,rfl,gC (bA (by decide)) ?_⟩
   refine⟨_,rfl,rfl,_,rfl,gC (bA (by decide)) ?_⟩
   refine⟨_,rfl,rfl,?_⟩
   have q':=q H (aO.refl H)
   rw[hF] at q'
   rw[decide_eq_false (bA (by decide))]
   exact q'
  | @gives a i k ha hi _ _ =>
   refine⟨_,rfl,a,_,_,_,rfl,rfl,SqT.of ha,aK (k:=0) rfl,?_⟩
   refine⟨_,rfl,rfl,_,rfl,Dy rfl ?_⟩
   refine⟨_,rfl,_,rfl,a,_,_,_,rfl,rfl,SqT.of ha,aK (k:=1) rfl,g,_,_,_,rfl,rfl,hg,atD (by lia),_,rfl,a,_,_,_,rfl,rfl,SqT.of ha,aK (k:=2) rfl,_,_,rfl,rfl,?_⟩
   have q':=q H (aO.refl H)
   rw[hF] at q'
   exact q'
  | @sum a b c k ha hb hc _ hl _ _ _ =>
   refine⟨_,rfl,a,_,_,_,rfl,rfl,SqT.of ha,aK (k:=0) rfl,?_⟩
   refine⟨_,rfl,rfl,_,rfl,gC (bA (by decide)) ?_⟩
   refine⟨_,rfl,rfl,_,rfl,Dy rfl ?_⟩
   refine⟨_,rfl,a,_,_,_,rfl,rfl,SqT.of ha,aK (k:=1) rfl,b,rfl,⟨_,SqT.of hb⟩,fun D hD=>dX (K:=K) (a:=b) (xs:=c.map vN) (fun i zs σ' H2=>(∃ u,σ'=[u,some (.ref g)])/\zs=((c.take i).map fun i=>ns.getD i 0).map V.int/\aO H H2/\H2 D=some (.lst zs))
    ⟨⟨_,rfl⟩,rfl,aB hD _,aq⟩ (fun i zs σ' H2 _ h=>⟨fH h.2.2.1 (SqT.of hb),h.2.2.2⟩) ?_ ?_⟩
   ·rintro j zs x σ' H2 hx ⟨⟨u,rfl⟩,e1,sm,hDl⟩
    obtain⟨i,hi,rfl⟩:=qJ hx
    have hin:i < n:=hc i (Vl hi)
    refine gT ?_
    refine⟨_,rfl,_,rfl,g,_,_,_,rfl,rfl,fH sm hg,atD (by lia),hDl,?_,⟨_,rfl⟩,?_,aJ sm hD _,aq⟩
    ·rw[e1,Uy,Uy,Vc]
     exact aD (by lia)
    ·rw[e1,Vz,hi,U3,U3]
     rfl
   ·rintro zs σ' H2 ⟨⟨u,rfl⟩,e1,sm,hDl⟩
    rw[Uy,Ve] at e1
    refine⟨D,_,rfl,SqL.of (by rw[hDl,e1]),_,rfl,a,_,_,_,rfl,rfl,SqT.of (sm _ _ ha),aK (k:=2) rfl,_,_,rfl,rfl,?_⟩
    have q':=q H2 sm
    rw[hF] at q'
    exact q'
  | @crowd a b c k m ha hb hc _ hl _ _ _ _ _ =>
   refine⟨_,rfl,a,_,_,_,rfl,rfl,SqT.of ha,aK (k:=0) rfl,?_⟩
   refine⟨_,rfl,rfl,_,rfl,gC (bA (by decide)) ?_⟩
   refine⟨_,rfl,rfl,_,rfl,gC (bA (by decide)) ?_⟩
   refine⟨_,rfl,rfl,_,rfl,Dy rfl ?_⟩
   refine⟨_,rfl,a,_,_,_,rfl,rfl,SqT.of ha,aK (k:=1) rfl,b,rfl,⟨_,SqT.of hb⟩,fun D hD=>dX (K:=K) (a:=b) (xs:=c.map vN) (fun i zs σ' H2=>(∃ u,σ'=[u,some (.ref g),some (.ref a)])/\zs=((c.take i).filter fun i=>decide (k<=ns.getD i 0)).map vN/\aO H H2/\H2 D=some (.lst zs))
    ⟨⟨_,rfl⟩,rfl,aB hD _,aq⟩ (fun i zs σ' H2 _ h=>⟨fH h.2.2.1 (SqT.of hb),h.2.2.2⟩) ?_ ?_⟩
   ·rintro j zs x σ' H2 hx ⟨⟨u,rfl⟩,e1,sm,hDl⟩
    obtain⟨i,hi,rfl⟩:=qJ hx
    have hin:i < n:=hc i (Vl hi)
    have et:c.take (j+1)=c.take j++[i]:=by rw[Vz,hi]; rfl
    refine⟨_,rfl,_,rfl,g,_,_,_,rfl,rfl,fH sm hg,atD (by lia),_,rfl,a,_,_,_,rfl,rfl,SqT.of (sm _ _ ha),aK (k:=2) rfl,_,_,rfl,rfl,_,rfl,?_⟩
    refine zU (fun cc=>?_) (fun cc=>?_)
    ·refine⟨_,rfl,hDl,?_,⟨_,rfl⟩,?_,aJ sm hD _,aq⟩
     ·rw[e1,Uy]
      have:=YC (fun i=>decide (k<=ns.getD i 0)) (c.take j)
      rw[Vc] at this
      exact aD (by lia)
     ·rw[e1,et,aaf,U3,Yn,if_pos cc]
      rfl
    ·refine⟨⟨_,rfl⟩,?_,sm,hDl⟩
     rw[e1,et,aaf,Yn,if_neg cc]
     simp
   ·rintro zs σ' H2 ⟨⟨u,rfl⟩,e1,sm,hDl⟩
    rw[Uy,Ve] at e1
    refine⟨D,_,rfl,.inl (SqL.of (by rw[hDl,e1])),_,rfl,a,_,_,_,rfl,rfl,SqT.of (sm _ _ ha),aK (k:=3) rfl,_,_,rfl,rfl,?_⟩
    have q':=q H2 sm
    rw[hF] at q'
    rw[Uy]
    exact q'
  | @all a b us ts ha hb _ _ rl =>
   refine⟨_,rfl,a,_,_,_,rfl,rfl,SqT.of ha,aK (k:=0) rfl,?_⟩
   refine⟨_,rfl,rfl,_,rfl,gC (bA (by decide)) ?_⟩
   refine⟨_,rfl,rfl,_,rfl,gC (bA (by decide)) ?_⟩
   refine⟨_,rfl,rfl,_,rfl,gC (bA (by decide)) ?_⟩
   refine⟨_,rfl,rfl,_,rfl,Dy rfl ?_⟩
   refine⟨_,rfl,a,_,_,_,rfl,rfl,SqT.of ha,aK (k:=1) rfl,_,rfl,b,g,n,us,ts,ns,rfl,hb,rl,?_,hg,hn,fun H' s'=>?_⟩
   ·rw[Tm.dep] at hd
    lia
   ·have q':=q H' s'
    rw[hF] at q'
    exact q'
  | @any a b us ts ha hb _ _ rl =>
   refine⟨_,rfl,a,_,_,_,rfl,rfl,SqT.of ha,aK (k:=0) rfl,?_⟩
   refine⟨_,rfl,rfl,_,rfl,gC (bA (by decide)) ?_⟩
   refine⟨_,rfl,rfl,_,rfl,gC (bA (by decide)) ?_⟩
   refine⟨_,rfl,rfl,_,rfl,gC (bA (by decide)) ?_⟩
   refine⟨_,rfl,rfl,_,rfl,gC (bA (by decide)) ?_⟩
   refine⟨_,rfl,rfl,_,rfl,Dy rfl ?_⟩
   refine⟨_,rfl,a,_,_,_,rfl,rfl,SqT.of ha,aK (k:=1) rfl,_,rfl,b,g,n,us,ts,ns,rfl,hb,rl,?_,hg,hn,fun H' s'=>?_⟩
   ·rw[Tm.dep] at hd
    lia
   ·have q':=q H' s'
    rw[hF] at q'
    exact q'
theorem jT {t u:TS} {D:Ends} {σ:St} {H:Hp} (P:St->Hp->Prop) (h2:∀ σ H,P σ H->u D σ H) (h1:∀ N:St->Hp->Prop,(∀ σ H,P σ H->N σ H)->t { D with nx:=N } σ H):Jg t u D σ H:=h1 (u D) h2
theorem ux {A B:TT} {t u:TS} {D:Ends} {σ:St} {H:Hp} (b1 b2:Bool) (R:Hp->Prop) (hA:∀ Q:Bool->Hp->Prop,(∀ H1,R H1->Q b1 H1)->A σ H Q) (hB:∀ H1,R H1->∀ Q:Bool->Hp->Prop,Q b2 H1->B σ H1 Q)
  (ht:∀ H1,R H1->b1=true->b2=true->t D σ H1) (hu:∀ H1,R H1->(b1=true->b2=false)->u D σ H1):Jr (SX A B) t u D σ H:=by
 refine hA _ fun H1 r1=>?_
 show if b1=true then B σ H1 (fun b H2=>if b=true then t D σ H2 else u D σ H2) else (if false=true then t D σ H1 else u D σ H1)
 cases b1 with
 | false=>exact fU (fU (hu H1 r1 fun z=>by cases z))
 | true =>
  refine ji (hB H1 r1 _ ?_)
  cases b2 with
  | false=>exact fU (hu H1 r1 fun _=>rfl)
  | true=>exact ji (ht H1 r1 rfl rfl)
theorem gN {i:Nat} {x:V} {σ:St} {H:Hp} {P:St->Hp->Prop} (h:P (σ.set i (some x)) H):Gv i x σ H P:=h
theorem nN {D:Ends} {σ:St} {H:Hp} (h:D.nx σ H):QM D σ H:=h
abbrev nu:Stmt:=top 38
theorem gB:aY ["_law_cell_here","_law_n","_law_deep","_law_most","_law_drawn","_law_parts","_law_crowd_here"] ["_law_cell_here","_law_n","_law_deep","_law_most"] (aG nu):=⟨rfl,rfl,rfl,by decide+kernel,rfl,by decide+kernel,by decide+kernel⟩
inductive Ef (d:Nat) (vs:List V) (H:Hp) (Q:VK):Prop where
 | mk (c:Int) (n:Nat) (deep most:Int) (z0:vs=[.int c,.int (n:Int),.int deep,.int most]) (z1:1<=n) (z2:n<=12) (z3:1<=deep) (z4:deep<=(d:Int)) (z5:1<=most) (z6:most<=9) (z7:∀ (v:V) (t:Tm) (H':Hp),aO H H'->nR n H' v t->(t.dep:Int)<=deep->Q v H'):Ef d vs H Q
def rM (d:Nat):Sp:=fun vs H Q _=>Ef d vs H Q
theorem term_none:dR P w K mg base CX0 1 f fd ["_law_cell_here","_law_n","_law_deep","_law_most"] (rM 0):=by
 have no:∀ vs H Q E,¬ rM 0 vs H Q E:=fun vs H Q E h=>by
  obtain⟨c,n,deep,most,_,_,_,h1,h2,_⟩:=h
  lia
 exact⟨fun vs H Q E h=>absurd h (no vs H Q E),fun A outer s H args us vs Q E _ _ _ _ h=>absurd h (no vs H Q E)⟩
theorem jX {d:Nat} (F:Fun K "_law_term" "_law_term" nu f fd) (B:Bt mg)
  (D_law_draws:Df P w K mg base "_law_draws" 1 ["_law_cell_here","_law_parts"] (j4 K)) (D_law_under:Df P w K mg base "_law_under" 1 ["_law_cell_here","_law_k"] sV) (D_law_crowd:Df P w K mg base "_law_crowd" 1 ["_law_number","_law_n"] yS)
  (D_law_term:Df P w K mg base "_law_term" (d+1) ["_law_cell_here","_law_n","_law_deep","_law_most"] (rM d)):dR P w K mg base CX0 (d+2) f fd ["_law_cell_here","_law_n","_law_deep","_law_most"] (rM (d+1)):=by
 refine F.ok gB (fun vs H Q E h=>?_) (fun cdv A outer s H vs Q E hr h=>?_)
 ·obtain⟨c,n,deep,most,rfl,_⟩:=h
  rfl
 ·obtain⟨c,n,deep,most,rfl,n1,n12,de1,ded,m1,m9,q⟩:=h
  refine⟨_,(au (aP (i:=4) gB.nd rfl (U8 rfl) (bj D_law_draws hr (aa (pv 0) (aa (bJ (aa aA (aa aA (aa aA (aa aA (aa aA aj)))))) aj))))
 (au (bZ (PW.pt (wG (aQ Dt (bh (r:=gj K) bf (pv 4) aA (fun _ _=>rfl)) aA (aW _)) (pH (aQ wH (pv 2) aA (aW _))))) (au (xK (L:=["_law_k"]) (F:=["_law_n","_law_most","_law_cell_here","_law_deep"]) (cap:=[1,3,0,2]) (j:=5) gB.nd rfl (U8 rfl) rfl (bD rfl rfl (by kernel_rfl)) (cg rfl B.range_ (aa (aR bU aA (aR dh (bh (r:=gj K) bf (pv 4) aA (fun _ _=>rfl)) aA)) aj)) (fun _ _ _ _ _=>(aF (i:=0) (bu (by decide+kernel)) rfl (U8 rfl))) (fun _ _ _ _ _=>bF) (fun _ _ _ _ _=>(bj D_law_term hr (aa (bj D_law_under hr (aa (pv 3) (aa (pv 0) aj))) (aa (pv 1) (aa (aR qF (pv 4) aA) (aa (pv 2) aj)))))))
 (aC (aM (bT (aa (bh (r:=gj K) bf (bJ (aa cC (aa cC aj))) (bh (r:=gj K) bf (pv 4) aA (fun _ _=>rfl)) (fun _ _=>rfl)) (aa (bR (r:=gG K) bK rfl B.tuple_ cR (aa (pv 5) aj)) aj)))))) aX)
 (au (aP (i:=6) gB.nd rfl (U8 rfl) (bj D_law_crowd hr (aa (bh (r:=gj K) bf (pv 4) aA (fun _ _=>rfl)) (aa (pv 1) aj))))
 (au (bZ (aQ (r:=yQ K) (nC hr.eQ) (pv 6) (bT aj) (aW _)) (aC (aP (i:=6) gB.nd rfl (U8 rfl) (bT (aa (aR dh (bh (r:=gj K) bf (pv 4) aA (fun _ _=>rfl)) (pv 1)) aj)))) aX)
 (au (bZ (PW.pt (wG (aQ (r:=rIn K false) iG (bh (r:=gj K) bf (pv 4) aA (fun _ _=>rfl)) (bT (aa aA (aa aA aj))) rfl) (pH (aQ wH (aH (r:=rm K) bI rfl B.len_ d9 (aa (pv 6) aj)) aA (aW _))))) (aC (aM (bT (aa cC (aa (pv 6) (aa (aR bU aA (aR dh (aR bU (aR fV aA (bh (r:=gj K) bf (pv 4) aA (fun _ _=>rfl))) (bh (r:=gj K) bf (pv 4) aA (fun _ _=>rfl))) (aH (qd rfl) rfl B.min_ Gw (aa aA (aa (aR fV (pv 3) (aH (r:=rm K) bI rfl B.len_ d9 (aa (pv 6) aj))) aj))))) aj)))))) aX)
 (au (bZ (aQ fO (bh (r:=gj K) bf (pv 4) aA (fun _ _=>rfl)) aA (aW _)) (aC (aM (bT (aa cC (aa (pv 6) (aa (aR bU aA (aR dh (bh (r:=gj K) bf (pv 4) aA (fun _ _=>rfl)) (pv 3))) (aa (aR bU aA (aR dh (bh (r:=gj K) bf (pv 4) aA (fun _ _=>rfl)) (aH (r:=rm K) bI rfl B.len_ d9 (aa (pv 6) aj)))) aj))))))) aX)
 (au (bZ (aQ fO (bh (r:=gj K) bf (pv 4) aA (fun _ _=>rfl)) aA (aW _)) (aC (aM (bT (aa (bh (r:=gj K) bf (bJ (aa cC (aa cC (aa cC aj)))) (aR dh (bh (r:=gj K) bf (pv 4) aA (fun _ _=>rfl)) aA) (fun _ _=>rfl)) aj)))) aX)
 (aC (aM (bT (aa cC (aa (aR dh (bh (r:=gj K) bf (pv 4) aA (fun _ _=>rfl)) (pv 1)) (aa (aR bU aA (aR dh (bh (r:=gj K) bf (pv 4) aA (fun _ _=>rfl)) (pv 3))) aj))))))))))))),?_⟩
  refine⟨_,rfl,small (by show 5<=1000; decide),fun p1 h1=>?_⟩
  generalize eH1:upd H p1 _=H1
  obtain⟨g1,e1⟩:=aL eH1 h1
  refine⟨c,p1,[9,12,9,4096,12],rfl,SqL.of e1,by decide,by decide,fun p2 h2=>?_⟩
  generalize eH2:upd H1 p2 _=H2
  obtain⟨g2,e2⟩:=aL eH2 h2
  have hps:∀ q∈([9,12,9,4096,12]:List Int),0 < q:=by decide
  obtain⟨d0,k0,b0⟩:=cG (c:=mZ c) (i:=0) hps rfl
  obtain⟨d1,k1,b1⟩:=cG (c:=mZ c) (i:=1) hps rfl
  obtain⟨d2,k2,b2⟩:=cG (c:=mZ c) (i:=2) hps rfl
  obtain⟨d3,k3,b3⟩:=cG (c:=mZ c) (i:=3) hps rfl
  obtain⟨d4,k4,b4⟩:=cG (c:=mZ c) (i:=4) hps rfl
  have a0:=aK (eN k0)
  have a1:=aK (eN k1)
  have a2:=aK (eN k2)
  have a3:=aK (eN k3)
  have a4:=aK (eN k4)
  change _=some (HO.lst ((xn (mZ c) [9,12,9,4096,12]).map V.int)) at e2
  generalize xn (mZ c) [9,12,9,4096,12]=ds at *
  have gH:aO H H2:=g1.trans g2
  refine gN ?_
  dsimp only
  show Jg (Jr _ _ _) _ _ _ _
  refine jT (fun σ H3=>σ=[some (.int c),some (.int (n:Int)),some (.int deep),some (.int most),some (.ref p2),none,none]/\H2=H3) ?rest (fun _ R=>?_)
  case rest =>
   rintro σ H3 ⟨rfl,rfl⟩
   refine⟨_,rfl,p2,_,_,_,rfl,rfl,SqL.of e2,a3,_,rfl,d3,n,rfl,by lia,fun cs r3 H3 hc hp hl s3 f3 e3=>?_⟩
   refine gN ?_
   dsimp only
   show Jg (Jr _ _ _) _ _ _ _
   refine jT (fun σ H5=>∃ (rc:Addr) (cs:List Nat),σ=[some (.int c),some (.int (n:Int)),some (.int deep),some (.int most),some (.ref p2),none,some (.ref rc)]/\aO H2 H5/\H5 rc=some (.tup (cs.map vN))/\(∀ i∈cs,i < n)/\cs.Pairwise (· < ·)/\cs.length<=n/\1<=cs.length) ?rest2 (fun _ R=>?_)
   case rest2 =>
    rintro σ H5 ⟨rc,cs,rfl,s5,e5,hc,hp,hl,h1l⟩
    have e2':=s5 _ _ e2
    have lenr:((cs.map vN).length:Int)=(cs.length:Int):=by rw[Uy]
    show Jg (Jr _ _ _) _ _ _ _
    refine jT (fun σ H6=>σ=[some (.int c),some (.int (n:Int)),some (.int deep),some (.int most),some (.ref p2),none,some (.ref rc)]/\aO H5 H6) ?rest3 (fun _ R=>?_)
    case rest3 =>
     rintro σ H6 ⟨rfl,s6⟩
     have e2':=s6 _ _ e2'
     have e5:=s6 _ _ e5
     have s56:aO H H6:=gH.trans (s5.trans s6)
     refine⟨_,rfl,p2,_,_,_,rfl,rfl,SqL.of e2',a0,rfl,_,rfl,?_⟩
     refine zU (fun _=>?_) (fun _=>?_)
     ·refine⟨_,rfl,_,rfl,p2,_,_,_,rfl,rfl,SqL.of e2',a2,_,rfl,_,_,rfl,rfl,(by show (0:Int) < most; lia),_,_,rfl,rfl,?_⟩
      refine⟨_,rfl,p2,_,_,_,rfl,rfl,SqL.of e2',a4,_,rfl,rc,_,rfl,.inr (SqT.of e5),_,_,rfl,rfl,?_,_,_,rfl,rfl,small (by show 4<=1000; decide),fun p7 h7=>?_⟩
      ·rw[lenr]
       lia
      ·have u1:0<=d2 % most:=Wn _ (by lia)
       have u2:d2 % most < most:=V6 _ (by lia)
       have u3:0<=d4 % ((cs.map vN).length:Int):=Wn _ (by rw[lenr]; lia)
       have u4:d4 % ((cs.map vN).length:Int) < (cs.length:Int):=by
        have:=V6 d4 (b:=((cs.map vN).length:Int)) (by rw[lenr]; lia)
        rw[lenr] at this ⊢
        exact this
       refine q (.ref p7) (.crowd cs (1+d2 % most) (1+d4 % ((cs.map vN).length:Int))) _ (s56.trans (aB h7 _)) (.crowd aq (aB h7 _ _ _ e5) hc hp (by lia) h1l (by lia) (by lia) (by lia) (by lia)) ?_
       exact de1
     ·refine⟨_,rfl,p2,_,_,_,rfl,rfl,SqL.of e2',a0,rfl,_,rfl,?_⟩
      refine zU (fun _=>?_) (fun _=>?_)
      ·refine⟨small (by show 3<=1000; decide),fun p7 h7=>?_⟩
       generalize eH7:upd H6 p7 _=H7
       obtain⟨g7,e7⟩:=aL eH7 h7
       have u1:0<=d1 % 3:=Wn _ (by lia)
       have u2:d1 % 3 < 3:=V6 _ (by lia)
       have fin:∀ p8 (x:Wz),H7 p8=none->(x = "free"∨x = "never")->Q (.ref p8) (upd H7 p8 (.tup [.str x])):=fun p8 x h8 hx=>by
        rcases hx with rfl | rfl
        ·refine q (.ref p8) .free _ (s56.trans (g7.trans (aB h8 _))) (.free aq) ?_
         exact de1
        ·refine q (.ref p8) .never _ (s56.trans (g7.trans (aB h8 _))) (.never aq) ?_
         exact de1
       refine⟨_,rfl,p2,_,_,_,rfl,rfl,SqL.of (g7 _ _ e2'),a1,_,_,rfl,rfl,(by show (0:Int) < 3; decide),?_⟩
       rcases (show d1 % 3=0∨d1 % 3=1∨d1 % 3=2 by lia) with z | z | z
       ·exact⟨p7,_,_,_,rfl,rfl,SqL.of e7,by rw[z]; rfl,small (by show 1<=1000; decide),fun p8 h8=>fin p8 _ h8 (.inl rfl)⟩
       ·exact⟨p7,_,_,_,rfl,rfl,SqL.of e7,by rw[z]; rfl,small (by show 1<=1000; decide),fun p8 h8=>fin p8 _ h8 (.inl rfl)⟩
       ·exact⟨p7,_,_,_,rfl,rfl,SqL.of e7,by rw[z]; rfl,small (by show 1<=1000; decide),fun p8 h8=>fin p8 _ h8 (.inr rfl)⟩
      ·have u1:0<=d1 % (n:Int):=Wn _ (by lia)
       have u2:d1 % (n:Int) < (n:Int):=V6 _ (by lia)
       have u3:0<=d2 % most:=Wn _ (by lia)
       have u4:d2 % most < most:=V6 _ (by lia)
       refine⟨_,rfl,p2,_,_,_,rfl,rfl,SqL.of e2',a1,_,rfl,_,_,rfl,rfl,(by show (0:Int) < (n:Int); lia),?_⟩
       refine⟨_,rfl,p2,_,_,_,rfl,rfl,SqL.of e2',a2,_,rfl,_,_,rfl,rfl,(by show (0:Int) < most; lia),_,_,rfl,rfl,small (by show 3<=1000; decide),fun p7 h7=>?_⟩
       obtain⟨i,hi⟩:=Yo u1
       rw[hi] at u2
       refine q (.ref p7) (.gives i (1+d2 % most)) _ (s56.trans (aB h7 _)) (.gives (aq.trans (by show some (HO.tup [V.str "gives",V.int (d1 % (n:Int)),V.int (1+d2 % most)])=some (HO.tup [V.str "gives",V.int (i:Int),V.int (1+d2 % most)]); rw[hi])) (by lia) (by lia) (by lia)) ?_
       exact de1
    ·refine ux (inV (.int d0) [.int 3,.int 4]) (decide (1 < (cs.length:Int))) (fun H6=>aO H5 H6) (fun Q' hQ=>?_) (fun H6 s6 Q' hQ=>?_) (fun H6 s6 _ hl2=>?_) (fun H6 s6 _=>R _ _ ⟨rfl,s6⟩)
     ·refine⟨_,rfl,p2,_,_,_,rfl,rfl,SqL.of e2',a0,small (by show 2<=1000; decide),fun p6 h6=>⟨p6,_,rfl,.inr (SqT.of aq),rfl,rfl,_,rfl,hQ _ (aB h6 _)⟩⟩
     ·refine⟨_,rfl,rc,_,rfl,.inr (SqT.of (s6 _ _ e5)),_,_,rfl,rfl,_,rfl,?_⟩
      rw[lenr]
      exact hQ
     ·have e2':=s6 _ _ e2'
      have e5:=s6 _ _ e5
      have s56:aO H H6:=gH.trans (s5.trans s6)
      have hl3:(1:Int) < (cs.length:Int):=of_decide_eq_true hl2
      refine⟨_,rfl,_,rfl,p2,_,_,_,rfl,rfl,SqL.of e2',a1,_,_,rfl,rfl,.inl ⟨by decide,by decide⟩,_,rfl,p2,_,_,_,rfl,rfl,SqL.of e2',a2,_,_,rfl,rfl,?_⟩
      refine⟨_,rfl,_,rfl,rc,_,rfl,.inr (SqT.of e5),_,_,rfl,rfl,.inl ⟨by lia,by lia⟩,_,_,rfl,?_⟩
      have pz:0 < most * ((cs.map vN).length:Int):=by
       rw[lenr]
       exact Int.mul_pos (by lia) (by lia)
      generalize hz:(if most * ((cs.map vN).length:Int) < 99 then most * ((cs.map vN).length:Int) else 99)=z
      have z1:0 < z:=by
       rw[← hz]
       split <;> lia
      have z2:z<=99:=by
       rw[← hz]
       split <;> lia
      have u3:0<=(9 * d1+d2) % z:=Wn _ (by lia)
      have u4:(9 * d1+d2) % z < z:=V6 _ z1
      refine⟨_,_,rfl,rfl,z1,_,_,rfl,rfl,small (by show 3<=1000; decide),fun p7 h7=>?_⟩
      refine q (.ref p7) (.sum cs (1+(9 * d1+d2) % z)) _ (s56.trans (aB h7 _)) (.sum aq (aB h7 _ _ _ e5) hc hp (by lia) (by lia) (by lia) (by lia)) ?_
      exact de1
   ·refine⟨_,rfl,small (by show 0<=1000; decide),fun p4 h4=>?_⟩
    have e3':SqT K H3 r3 ((cs.map fun i:Nat=>(i:Int)).map V.int):=by rw[← jc]; exact SqT.of e3
    have g4:aO H3 (upd H3 p4 (.tup [])):=aB h4 _
    refine⟨r3,p4,cs.map (fun i:Nat=>(i:Int)),[],rfl,rfl,fH g4 e3',SqT.of aq,_,rfl,?_⟩
    refine zU (fun ce=>?_) (fun ce=>?_)
    ·have u1:0<=d4 % (n:Int):=Wn _ (by lia)
     have u2:d4 % (n:Int) < (n:Int):=V6 _ (by lia)
     refine⟨_,rfl,p2,_,_,_,rfl,rfl,SqL.of (g4 _ _ (s3 _ _ e2)),a4,_,rfl,_,_,rfl,rfl,(by show (0:Int) < (n:Int); lia),small (by show 1<=1000; decide),fun p5 h5=>?_⟩
     obtain⟨i,hi⟩:=Yo u1
     rw[hi] at u2
     refine R _ _ ⟨p5,[i],rfl,s3.trans (g4.trans (aB h5 _)),aq.trans (by show some (HO.tup [V.int (d4 % (n:Int))])=some (HO.tup [V.int (i:Int)]); rw[hi]),?_,by simp,n1,U0 _⟩
     intro j hj
     rw[X5] at hj
     lia
    ·refine R _ _ ⟨r3,cs,rfl,s3.trans g4,g4 _ _ e3,hc,hp,hl,?_⟩
     cases cs with
     | nil=>exact absurd (decide_eq_true rfl) ce
     | cons x xs=>rw[Vd]; lia
  ·refine ux (decide (d0 < 2)) (decide (1 < deep)) (fun H3=>H2=H3) (fun Q' hQ=>?_) (fun H3 e Q' hQ=>?_) (fun H3 e c1 c2=>?_) (fun H3 e _=>R _ _ ⟨rfl,e⟩)
   ·exact⟨_,rfl,p2,_,_,_,rfl,rfl,SqL.of e2,a0,_,_,rfl,rfl,_,rfl,hQ _ rfl⟩
   ·exact⟨_,rfl,_,_,rfl,rfl,_,rfl,hQ⟩
   ·subst e
    have c1:d0 < 2:=of_decide_eq_true c1
    have c2:1 < deep:=of_decide_eq_true c2
    have u1:0<=d4 % 5:=Wn _ (by lia)
    have u2:d4 % 5 < 5:=V6 _ (by lia)
    refine⟨_,rfl,p2,_,_,_,rfl,rfl,SqL.of e2,a4,_,_,rfl,rfl,(by show (0:Int) < 5; decide),_,_,rfl,rfl,_,rfl,by lia,by lia,fun D hD=>dI (lo:=0) (n:=(2+d4 % 5).toNat)
     (fun i zs σ' H5=>(∃ u,σ'=[u,some (.int (n:Int)),some (.int most),some (.int c),some (.int deep)])/\aO H2 H5/\H5 D=some (.lst zs)/\zs.length=i/\∃ ts,dW n H5 zs ts/\(tdL ts:Int)<=deep - 1)
     ⟨⟨_,rfl⟩,aB hD _,aq,rfl,[],.nil,by rw[tdL]; lia⟩ (fun i zs σ' H5 _ h=>h.2.2.1) ?_ ?_⟩
    ·rintro i zs σ' H5 hi ⟨⟨u,rfl⟩,s5,eD,lz,ts,rt,td⟩
     refine gT ?_
     refine⟨_,rfl,_,rfl,c,i,by rw[Xl]; rfl,by lia,_,rfl,_,rfl,_,_,rfl,rfl,_,rfl,OJ c i,n,deep - 1,most,rfl,n1,n12,by lia,by lia,m1,m9,fun v t H6 s6 r6 d6=>?_⟩
     refine⟨s6 _ _ eD,?_,⟨_,rfl⟩,aJ (s5.trans s6) hD _,aq,?_,ts++[t],?_,?_⟩
     ·exact aD (by lia)
     ·rw[Va,lz]
      rfl
     ·have s7:=cI (zs':=zs++[v]) (s6 _ _ eD)
      exact ((rt.mono s6).bL s7).snoc (r6.bL s7)
     ·have:=Ae (m:=(deep - 1).toNat) (t:=t) (by lia) (ts:=ts) (by lia)
      lia
    ·rintro zs σ' H5 ⟨⟨u,rfl⟩,s5,eD,lz,ts,rt,td⟩
     refine⟨small (by show 2<=1000; decide),fun p6 h6=>?_⟩
     generalize eH6:upd H5 p6 _=H6
     obtain⟨g6,e6⟩:=aL eH6 h6
     refine⟨_,rfl,p2,_,_,_,rfl,rfl,SqL.of (g6 _ _ (s5 _ _ e2)),a0,?_⟩
     rcases (show d0=0∨d0=1 by lia) with z | z
     ·subst z
      refine⟨p6,_,_,_,rfl,rfl,SqL.of e6,rfl,_,rfl,D,_,rfl,.inl ⟨SqL.of (g6 _ _ eD),fun p7 h7=>?_⟩⟩
      generalize eH7:upd H6 p7 _=H7
      obtain⟨g7,e7⟩:=aL eH7 h7
      refine⟨small (by show 2<=1000; decide),fun p8 h8=>?_⟩
      refine q (.ref p8) (.all ts) _ (gH.trans (s5.trans (g6.trans (g7.trans (aB h8 _))))) (.all aq (aB h8 _ _ _ e7) (by lia) (by lia) (rt.mono (g6.trans (g7.trans (aB h8 _))))) ?_
      rw[Tm.dep]
      lia
     ·subst z
      refine⟨p6,_,_,_,rfl,rfl,SqL.of e6,rfl,_,rfl,D,_,rfl,.inl ⟨SqL.of (g6 _ _ eD),fun p7 h7=>?_⟩⟩
      generalize eH7:upd H6 p7 _=H7
      obtain⟨g7,e7⟩:=aL eH7 h7
      refine⟨small (by show 2<=1000; decide),fun p8 h8=>?_⟩
      refine q (.ref p8) (.any ts) _ (gH.trans (s5.trans (g6.trans (g7.trans (aB h8 _))))) (.any aq (aB h8 _ _ _ e7) (by lia) (by lia) (rt.mono (g6.trans (g7.trans (aB h8 _))))) ?_
      rw[Tm.dep]
      lia
abbrev km:Stmt:=top 47
theorem wY:aY ["_law_term_here","_law_giving_here"] ["_law_term_here","_law_giving_here"] (aG km):=⟨rfl,rfl,rfl,by decide+kernel,rfl,by decide+kernel,by decide+kernel⟩
theorem Hn (g:List Int):∀ ts:List Tm,(ts.map (hF g)).all (fun b=>b)=qI g ts
 | []=>by rw[qI]; rfl
 | t::r=>by rw[qI,← Hn g r]; rfl
theorem Fz (g:List Int):∀ ts:List Tm,(ts.map (hF g)).any (fun b=>b)=qH g ts
 | []=>by rw[qH]; rfl
 | t::r=>by rw[qH,← Fz g r]; rfl
theorem Bg (f:Nat->Bool):∀ c:List Nat,(c.map fun i=>if f i=true then (1:Int) else 0).sum=((c.filter f).length:Int)
 | []=>rfl
 | i::c=>by
  have ih:=Bg f c
  rw[Vw,Yy,ih,Yn]
  split
  ·rw[Vd]
   lia
  ·lia
theorem xJ:dR P w K mg base CX0 0 f fd ["_law_term_here","_law_giving_here"] (eV K 0):=by
 have no:∀ vs H Q E,¬ eV K 0 vs H Q E:=fun vs H Q E h=>by
  obtain⟨v,g,n,t,ns,_,_,h1,_⟩:=h
  have:=t.zq
  lia
 exact⟨fun vs H Q E h=>absurd h (no vs H Q E),fun A outer s H args us vs Q E _ _ _ _ h=>absurd h (no vs H Q E)⟩
theorem gQ {d:Nat} (F:Fun K "_law_holds" "_law_holds" km f fd) (B:Bt mg)
  (D_law_holds:Df P w K mg base "_law_holds" d ["_law_term_here","_law_giving_here"] (eV K d)):dR P w K mg base CX0 (d+1) f fd ["_law_term_here","_law_giving_here"] (eV K (d+1)):=by
 refine F.ok wY (fun vs H Q E h=>?_) (fun cdv A outer s H vs Q E hr h=>?_)
 ·obtain⟨v,g,n,t,ns,rfl,_⟩:=h
  rfl
 ·obtain⟨v,g,n,t,ns,rfl,rt,hd,hg,hn,q⟩:=h
  refine⟨_,(au (bZ (aQ fO (bh (r:=gk K) bC (pv 0) aA (fun _ _=>rfl)) cC (aW _)) (aC (aM (cU qU (bh (r:=gk K) bC (pv 1) (bh (r:=gk K) bC (pv 0) aA (fun _ _=>rfl)) (fun _ _=>rfl)) (bh (r:=gk K) bC (pv 0) aA (fun _ _=>rfl)) (aW _)))) aX)
 (au (bZ (aQ fO (bh (r:=gk K) bC (pv 0) aA (fun _ _=>rfl)) cC (aW _)) (aC (aM (cU qU (aH (r:=Js K) (pJ rfl) rfl B.sum_ Ik (aa (bG (L:=["_law_one"]) (F:=["_law_giving_here"]) (cap:=[1]) rfl (bD rfl rfl (by kernel_rfl)) (gO (bh (r:=gk K) bC (pv 0) aA (fun _ _=>rfl))) (fun _ _ _ _ _=>(aF (i:=0) (bu (by decide+kernel)) rfl (U8 rfl))) (fun _ _ _ _ _=>bF) (fun _ _ _ _ _=>(bh (r:=gk K) bC (pv 1) (pv 0) (fun _ _=>rfl)))) aj)) (bh (r:=gk K) bC (pv 0) aA (fun _ _=>rfl)) (aW _)))) aX)
 (au (bZ (aQ fO (bh (r:=gk K) bC (pv 0) aA (fun _ _=>rfl)) cC (aW _)) (aC (aM (cU qU (aH (r:=Js K) (pJ rfl) rfl B.sum_ Ik (aa (bG (L:=["_law_one"]) (F:=["_law_giving_here","_law_term_here"]) (cap:=[1,0]) rfl (bD rfl rfl (by kernel_rfl)) (gO (bh (r:=gk K) bC (pv 0) aA (fun _ _=>rfl))) (fun _ _ _ _ _=>(aF (i:=0) (bu (by decide+kernel)) rfl (U8 rfl))) (fun _ _ _ _ _=>bF) (fun _ _ _ _ _=>(bR (r:=Qu) vP rfl B.int_ Bc (aa (cU qU (bh (r:=gk K) bC (pv 1) (pv 0) (fun _ _=>rfl)) (bh (r:=gk K) bC (pv 2) aA (fun _ _=>rfl)) (aW _)) aj)))) aj)) (bh (r:=gk K) bC (pv 0) aA (fun _ _=>rfl)) (aW _)))) aX)
 (au (bZ (aQ fO (bh (r:=gk K) bC (pv 0) aA (fun _ _=>rfl)) cC (aW _)) (aC (aM (aH (r:=Gx K) (lR rfl) rfl B.all_ zu (aa (bG (L:=["_law_part"]) (F:=["_law_giving_here"]) (cap:=[1]) rfl (bD rfl rfl (by kernel_rfl)) (gO (bh (r:=gk K) bC (pv 0) aA (fun _ _=>rfl))) (fun _ _ _ _ _=>(aF (i:=0) (bu (by decide+kernel)) rfl (U8 rfl))) (fun _ _ _ _ _=>bF) (fun _ _ _ _ _=>(bj D_law_holds hr (aa (pv 0) (aa (pv 1) aj))))) aj)))) aX)
 (aC (aM (RJ (cU fO (bh (r:=gk K) bC (pv 0) aA (fun _ _=>rfl)) cC (aW _)) (vX (wN (cU fO (bh (r:=gk K) bC (pv 0) aA (fun _ _=>rfl)) cC (aW _)) (vX (aH (r:=Mw K) (vh rfl) rfl B.any_ K1 (aa (bG (L:=["_law_part"]) (F:=["_law_giving_here"]) (cap:=[1]) rfl (bD rfl rfl (by kernel_rfl)) (gO (bh (r:=gk K) bC (pv 0) aA (fun _ _=>rfl))) (fun _ _ _ _ _=>(aF (i:=0) (bu (by decide+kernel)) rfl (U8 rfl))) (fun _ _ _ _ _=>bF) (fun _ _ _ _ _=>(bj D_law_holds hr (aa (pv 0) (aa (pv 1) aj))))) aj)))))))))))),?_⟩
  have parts:∀ (D:Addr),H D=none->∀ (b:Addr) (us:List V) (ts:List Tm) (Z:Hp->Prop) (te:TE),us.length<=6->H b=some (.tup us)->dW n H us ts->tdL ts<=d →
    (∀ (x:V) (t:Tm) (σ':St) (H2:Hp) (R:V->Hp->Prop),nR n H2 x t->aO H H2->t.dep<=d->σ'=[some x,some (.ref g)]->(∀ H3,aO H2 H3->R (.bl (hF ns t)) H3)->te σ' H2 R) →
    (∀ H2:Hp,aO H H2->H2 D=some (.lst ((ts.map (hF ns)).map V.bl))->Z H2)->iz D [none,some (.ref g)] (Itt K b) (Gv 0) JN te H Z:=fun D hD b us ts Z te lu hb rl td hte hQ=>by
   have el:=rl.length
   refine dX (K:=K) (a:=b) (xs:=us) (fun i zs σ' H2=>(∃ u,σ'=[u,some (.ref g)])/\zs=((ts.take i).map (hF ns)).map V.bl/\aO H H2/\H2 D=some (.lst zs))
    ⟨⟨_,rfl⟩,rfl,aB hD _,aq⟩ (fun i zs σ' H2 _ h=>⟨fH h.2.2.1 (SqT.of hb),h.2.2.2⟩) ?_ ?_
   ·rintro j zs x σ' H2 hx ⟨⟨u,rfl⟩,e1,sm,hDl⟩
    obtain⟨t,ht,rt⟩:=rl.get hx
    have hj:j < us.length:=(List.getElem?_eq_some_iff.mp hx).1
    refine gT ?_
    refine hte x t _ H2 _ (rt.mono sm) sm (Wd (mQ ht) td) rfl fun H3 s3=>⟨s3 _ _ hDl,?_,⟨_,rfl⟩,?_,aJ (sm.trans s3) hD _,aq⟩
    ·rw[e1,Uy,Uy,Vc]
     exact aD (by lia)
    ·rw[e1,Vz,ht,U3,U3]
     rfl
   ·rintro zs σ' H2 ⟨⟨u,rfl⟩,e1,sm,hDl⟩
    rw[el,Ve] at e1
    exact hQ H2 sm (by rw[hDl,e1])
  cases rt with
  | @free a ha =>
   refine⟨_,rfl,a,_,_,_,rfl,rfl,SqT.of ha,aK (k:=0) rfl,rfl,_,rfl,gC (bA (by decide)) ?_⟩
   refine⟨_,rfl,a,_,_,_,rfl,rfl,SqT.of ha,aK (k:=0) rfl,rfl,_,rfl,gC (bA (by decide)) ?_⟩
   refine⟨_,rfl,a,_,_,_,rfl,rfl,SqT.of ha,aK (k:=0) rfl,rfl,_,rfl,gC (bA (by decide)) ?_⟩
   refine⟨_,rfl,a,_,_,_,rfl,rfl,SqT.of ha,aK (k:=0) rfl,rfl,_,rfl,gC (bA (by decide)) ?_⟩
   refine⟨_,rfl,a,_,_,_,rfl,rfl,SqT.of ha,aK (k:=0) rfl,rfl,_,rfl,Dy rfl ?_⟩
   have q':=q H (aO.refl H)
   rw[hF] at q'
   exact q'
  | @never a ha =>
   refine⟨_,rfl,a,_,_,_,rfl,rfl,SqT.of ha,aK (k:=0) rfl,rfl,_,rfl,gC (bA (by decide)) ?_⟩
   refine⟨_,rfl,a,_,_,_,rfl,rfl,SqT.of ha,aK (k:=0) rfl,rfl,_,rfl,gC (bA (by decide)) ?_⟩
   refine⟨_,rfl,a,_,_,_,rfl,rfl,SqT.of ha,aK (k:=0) rfl,rfl,_,rfl,gC (bA (by decide)) ?_⟩
   refine⟨_,rfl,a,_,_,_,rfl,rfl,SqT.of ha,aK (k:=0) rfl,rfl,_,rfl,gC (bA (by decide)) ?_⟩
   refine⟨_,rfl,a,_,_,_,rfl,rfl,SqT.of ha,aK (k:=0) rfl,rfl,_,rfl,gC (bA (by decide)) ?_⟩
   refine⟨_,rfl,a,_,_,_,rfl,rfl,SqT.of ha,aK (k:=0) rfl,rfl,_,rfl,gC (bA (by decide)) ?_⟩
   have q':=q H (aO.refl H)
   rw[hF] at q'
   exact q'
  | @gives a i k ha hi _ _ =>
   refine⟨_,rfl,a,_,_,_,rfl,rfl,SqT.of ha,aK (k:=0) rfl,rfl,_,rfl,Dy rfl ?_⟩
   refine⟨_,rfl,_,rfl,a,_,_,_,rfl,rfl,SqT.of ha,aK (k:=1) rfl,g,_,_,_,rfl,rfl,hg,atD (by lia),_,rfl,a,_,_,_,rfl,rfl,SqT.of ha,aK (k:=2) rfl,_,_,rfl,rfl,?_⟩
   have q':=q H (aO.refl H)
   rw[hF] at q'
   exact q'
  | @sum a b c k ha hb hc _ hl _ _ _ =>
   refine⟨_,rfl,a,_,_,_,rfl,rfl,SqT.of ha,aK (k:=0) rfl,rfl,_,rfl,gC (bA (by decide)) ?_⟩
   refine⟨_,rfl,a,_,_,_,rfl,rfl,SqT.of ha,aK (k:=0) rfl,rfl,_,rfl,Dy rfl ?_⟩
   refine⟨_,rfl,a,_,_,_,rfl,rfl,SqT.of ha,aK (k:=1) rfl,b,rfl,⟨_,SqT.of hb⟩,fun D hD=>dX (K:=K) (a:=b) (xs:=c.map vN) (fun i zs σ' H2=>(∃ u,σ'=[u,some (.ref g)])/\zs=((c.take i).map fun i=>ns.getD i 0).map V.int/\aO H H2/\H2 D=some (.lst zs))
    ⟨⟨_,rfl⟩,rfl,aB hD _,aq⟩ (fun i zs σ' H2 _ h=>⟨fH h.2.2.1 (SqT.of hb),h.2.2.2⟩) ?_ ?_⟩
   ·rintro j zs x σ' H2 hx ⟨⟨u,rfl⟩,e1,sm,hDl⟩
    obtain⟨i,hi,rfl⟩:=qJ hx
    have hin:i < n:=hc i (Vl hi)
    refine gT ?_
    refine⟨_,rfl,_,rfl,g,_,_,_,rfl,rfl,fH sm hg,atD (by lia),hDl,?_,⟨_,rfl⟩,?_,aJ sm hD _,aq⟩
    ·rw[e1,Uy,Uy,Vc]
     exact aD (by lia)
    ·rw[e1,Vz,hi,U3,U3]
     rfl
   ·rintro zs σ' H2 ⟨⟨u,rfl⟩,e1,sm,hDl⟩
    rw[Uy,Ve] at e1
    refine⟨D,_,rfl,SqL.of (by rw[hDl,e1]),_,rfl,a,_,_,_,rfl,rfl,SqT.of (sm _ _ ha),aK (k:=2) rfl,_,_,rfl,rfl,?_⟩
    have q':=q H2 sm
    rw[hF] at q'
    exact q'
  | @crowd a b c k m ha hb hc _ hl _ _ _ _ _ =>
   refine⟨_,rfl,a,_,_,_,rfl,rfl,SqT.of ha,aK (k:=0) rfl,rfl,_,rfl,gC (bA (by decide)) ?_⟩
   refine⟨_,rfl,a,_,_,_,rfl,rfl,SqT.of ha,aK (k:=0) rfl,rfl,_,rfl,gC (bA (by decide)) ?_⟩
   refine⟨_,rfl,a,_,_,_,rfl,rfl,SqT.of ha,aK (k:=0) rfl,rfl,_,rfl,Dy rfl ?_⟩
   refine⟨_,rfl,a,_,_,_,rfl,rfl,SqT.of ha,aK (k:=1) rfl,b,rfl,⟨_,SqT.of hb⟩,fun D hD=>dX (K:=K) (a:=b) (xs:=c.map vN) (fun i zs σ' H2=>(∃ u,σ'=[u,some (.ref g),some (.ref a)])/\zs=((c.take i).map fun i=>if decide (k<=ns.getD i 0)=true then (1:Int) else 0).map V.int/\aO H H2/\H2 D=some (.lst zs))
    ⟨⟨_,rfl⟩,rfl,aB hD _,aq⟩ (fun i zs σ' H2 _ h=>⟨fH h.2.2.1 (SqT.of hb),h.2.2.2⟩) ?_ ?_⟩
   ·rintro j zs x σ' H2 hx ⟨⟨u,rfl⟩,e1,sm,hDl⟩
    obtain⟨i,hi,rfl⟩:=qJ hx
    have hin:i < n:=hc i (Vl hi)
    refine gT ?_
    refine⟨_,rfl,_,rfl,g,_,_,_,rfl,rfl,fH sm hg,atD (by lia),_,rfl,a,_,_,_,rfl,rfl,SqT.of (sm _ _ ha),aK (k:=2) rfl,_,_,rfl,rfl,.inr ⟨_,rfl,hDl,?_,⟨_,rfl⟩,?_,aJ sm hD _,aq⟩⟩
    ·rw[e1,Uy,Uy,Vc]
     exact aD (by lia)
    ·rw[e1,Vz,hi,U3,U3]
     rfl
   ·rintro zs σ' H2 ⟨⟨u,rfl⟩,e1,sm,hDl⟩
    rw[Uy,Ve] at e1
    refine⟨D,_,rfl,SqL.of (by rw[hDl,e1]),_,rfl,a,_,_,_,rfl,rfl,SqT.of (sm _ _ ha),aK (k:=3) rfl,_,_,rfl,rfl,?_⟩
    have q':=q H2 sm
    rw[hF] at q'
    rw[Bg]
    exact q'
  | @all a b us ts ha hb _ lu rl =>
   refine⟨_,rfl,a,_,_,_,rfl,rfl,SqT.of ha,aK (k:=0) rfl,rfl,_,rfl,gC (bA (by decide)) ?_⟩
   refine⟨_,rfl,a,_,_,_,rfl,rfl,SqT.of ha,aK (k:=0) rfl,rfl,_,rfl,gC (bA (by decide)) ?_⟩
   refine⟨_,rfl,a,_,_,_,rfl,rfl,SqT.of ha,aK (k:=0) rfl,rfl,_,rfl,gC (bA (by decide)) ?_⟩
   refine⟨_,rfl,a,_,_,_,rfl,rfl,SqT.of ha,aK (k:=0) rfl,rfl,_,rfl,Dy rfl ?_⟩
   refine⟨_,rfl,a,_,_,_,rfl,rfl,SqT.of ha,aK (k:=1) rfl,b,rfl,⟨_,SqT.of hb⟩,fun D hD=>parts D hD b us ts _ _ lu hb rl (by rw[Tm.dep] at hd; lia) (fun x t σ' H2 R rt sm dt eσ hR=>?_) fun H2 sm hDl=>?_⟩
   ·subst eσ
    exact⟨_,rfl,_,rfl,x,g,n,t,ns,rfl,rt,dt,fH sm hg,hn,hR⟩
   ·refine⟨D,_,rfl,SqL.of hDl,?_⟩
    rw[Hn]
    have q':=q H2 sm
    rw[hF] at q'
    exact q'
  | @any a b us ts ha hb _ lu rl =>
   refine⟨_,rfl,a,_,_,_,rfl,rfl,SqT.of ha,aK (k:=0) rfl,rfl,_,rfl,gC (bA (by decide)) ?_⟩
   refine⟨_,rfl,a,_,_,_,rfl,rfl,SqT.of ha,aK (k:=0) rfl,rfl,_,rfl,gC (bA (by decide)) ?_⟩
   refine⟨_,rfl,a,_,_,_,rfl,rfl,SqT.of ha,aK (k:=0) rfl,rfl,_,rfl,gC (bA (by decide)) ?_⟩
   refine⟨_,rfl,a,_,_,_,rfl,rfl,SqT.of ha,aK (k:=0) rfl,rfl,_,rfl,gC (bA (by decide)) ?_⟩
   refine⟨_,rfl,a,_,_,_,rfl,rfl,SqT.of ha,aK (k:=0) rfl,rfl,_,rfl,gC (bA (by decide)) ?_⟩
   refine⟨_,rfl,a,_,_,_,rfl,rfl,SqT.of ha,aK (k:=0) rfl,rfl,_,rfl,Dy rfl ?_⟩
   refine⟨_,rfl,a,_,_,_,rfl,rfl,SqT.of ha,aK (k:=1) rfl,b,rfl,⟨_,SqT.of hb⟩,fun D hD=>parts D hD b us ts _ _ lu hb rl (by rw[Tm.dep] at hd; lia) (fun x t σ' H2 R rt sm dt eσ hR=>?_) fun H2 sm hDl=>?_⟩
   ·subst eσ
    exact⟨_,rfl,_,rfl,x,g,n,t,ns,rfl,rt,dt,fH sm hg,hn,hR⟩
   ·refine⟨D,_,rfl,SqL.of hDl,?_⟩
    rw[Fz]
    have q':=q H2 sm
    rw[hF] at q'
    exact q'
theorem Pa {e:Expr} {es:List Expr} {env:Env} (h:∀ x p,e≠.Starred x p):V4 (e::es) env=(false,X7 e env)::V4 es env:=by
 rw[V4]
 intro x p z
 exact h x p z
theorem cZ {X:Cx} {e:Expr} {es:List Expr} {te:TE} {t:TA} (ha:PE X e te) (hr:PA X es t) (h:∀ x p,e≠.Starred x p:=by intro x p z; cases z):PA X (e::es) (GF te t):=aa ha hr (Pa h)
theorem Br (ns:List Int) (lo hi:Option Int):∃ ks:List Int,xm (ns.map V.int) lo hi=ks.map V.int/\ks.length<=ns.length:=by
 unfold xm
 generalize HT.sIx _ _ lo=x
 generalize HT.sIx _ _ hi=y
 refine⟨(ns.drop x).take (y - x),by rw[List.map_take,List.map_drop],?_⟩
 rw[Vc,Xv]
 lia
theorem Bb:∀ (ns acc:List Int),acc.Nodup->(ns.foldl Xb acc).Nodup
 | [],acc,h=>h
 | n::r,acc,h=>by
  rw[Wi]
  refine Bb r _ ?_
  unfold Xb
  split
  ·exact h
  ·rename_i z
   rw[List.nodup_append]
   refine⟨h,by simp,fun a ha b hb e=>?_⟩
   rw[X5] at hb
   subst hb
   subst e
   exact z (List.any_eq_true.mpr ⟨a,ha,beq_self_eq_true a⟩)
theorem HN:∀ (ns acc:List Int),(ns.foldl Xb acc).length<=acc.length+ns.length
 | [],acc=>by simp
 | n::r,acc=>by
  rw[Wi]
  refine Wd (HN r _) ?_
  unfold Xb
  split
  ·rw[Vd]; lia
  ·simp only[Va,Vd,List.length_nil]; lia
theorem Fx (ns:List Int):ddI ns=ns.foldl Xb []:=by
 unfold ddI PyProof.Rows.firstMet
 congr 1
 apply abA
 intro i
 rw[Vj]
 by_cases h:i < ns.length
 ·rw[W4 h,UG h]
  simp [UL,UG h]
 ·have e1:(Vb ns.length)[i]? = none:=Wm (by rw[Vt]; lia)
  rw[e1,Wm (by lia)]
  rfl
theorem rE:∀ {a b:List Int},a.Perm b->a.Pairwise (·<=·)->b.Pairwise (·<=·)->a=b
 | [],b,p,_,_=>(List.Perm.nil_eq p)
 | x::a,[],p,_,_=>absurd p.length_eq (by simp)
 | x::a,y::b,p,ha,hb=>by
  rw[W9] at ha hb
  have h1:x<=y:=by
   rcases List.mem_cons.mp (p.mem_iff.mpr UW) with h | h
   ·lia
   ·exact ha.1 y h
  have h2:y<=x:=by
   rcases List.mem_cons.mp (p.mem_iff.mp UW) with h | h
   ·lia
   ·exact hb.1 x h
  have e:x=y:=by lia
  subst e
  rw[rE (List.Perm.cons_inv p) ha.2 hb.2]
abbrev Pl:=List (Int × Tm)
inductive fX (n:Nat) (H:Hp):List V->Pl->Prop where
 | nil:fX n H [] []
 | cons {r:Addr} {k:Int} {v:V} {t:Tm} {vs:List V} {ps:Pl}:H r=some (.tup [.int k,v])->nR n H v t->fX n H vs ps->fX n H (.ref r::vs) ((k,t)::ps)
theorem fX.bL {n:Nat} {H H':Hp} (e:∀ a xs,H a=some (HO.tup xs)->H' a=some (HO.tup xs)):∀ {vs:List V} {ps:Pl},fX n H vs ps->fX n H' vs ps
 | _,_,.nil=>.nil
 | _,_,.cons h t r=>.cons (e _ _ h) (t.bL e) (fX.bL e r)
theorem fX.length {n:Nat} {H:Hp}:∀ {vs:List V} {ps:Pl},fX n H vs ps->vs.length=ps.length
 | _,_,.nil=>rfl
 | _,_,.cons _ _ r=>by rw[Vd,Vd,fX.length r]
theorem fX.get {n:Nat} {H:Hp}:∀ {vs:List V} {ps:Pl} {i:Nat} {v:V},fX n H vs ps->vs[i]? = some v->∃ r k u t,v = .ref r/\H r=some (.tup [.int k,u])/\nR n H u t/\ps[i]? = some (k,t)
 | _,_,_,_,.nil,h=>by simp at h
 | _,_,0,_,.cons h t _,e=>by
  cases (show some _=some _ from e)
  exact⟨_,_,_,_,rfl,h,t,rfl⟩
 | _,_,i+1,_,.cons _ _ r,e=>by
  obtain⟨a,k,u,t,h1,h2,h3,h4⟩:=fX.get (i:=i) r (by simpa using e)
  exact⟨a,k,u,t,h1,h2,h3,by simpa using h4⟩
theorem fX.snoc {n:Nat} {H:Hp} {r:Addr} {k:Int} {v:V} {t:Tm} (h:H r=some (.tup [.int k,v])) (ht:nR n H v t):∀ {vs:List V} {ps:Pl},fX n H vs ps->fX n H (vs++[.ref r]) (ps++[(k,t)])
 | _,_,.nil=>.cons h ht .nil
 | _,_,.cons a b c=>.cons a b (fX.snoc h ht c)
def okP (p:Pl):Prop:=p≠[]/\p.length<=9/\(p.map (·.1)).Pairwise (· < ·)/\∀ x∈p,1<=x.1/\x.1<=9/\x.2.dep<=4
def Dz (n:Nat) (H:Hp) (a:Addr) (p:Pl):Prop:=okP p/\∃ vs,H a=some (.tup vs)/\fX n H vs p
theorem Dz.bL {n:Nat} {H H':Hp} {a:Addr} {p:Pl} (e:∀ a xs,H a=some (HO.tup xs)->H' a=some (HO.tup xs)) (h:Dz n H a p):Dz n H' a p:=by
 obtain⟨ok,vs,h1,h2⟩:=h
 exact⟨ok,vs,e _ _ h1,h2.bL e⟩
theorem Dz.mono {n:Nat} {H H':Hp} {a:Addr} {p:Pl} (e:aO H H') (h:Dz n H a p):Dz n H' a p:=h.bL fun a xs q=>e a _ q
inductive fZ (n:Nat) (H:Hp):List Addr->List Pl->Prop where
 | nil:fZ n H [] []
 | cons {a:Addr} {p:Pl} {as:List Addr} {ps:List Pl}:Dz n H a p->fZ n H as ps->fZ n H (a::as) (p::ps)
theorem fZ.bL {n:Nat} {H H':Hp} (e:∀ a xs,H a=some (HO.tup xs)->H' a=some (HO.tup xs)):∀ {as:List Addr} {ps:List Pl},fZ n H as ps->fZ n H' as ps
 | _,_,.nil=>.nil
 | _,_,.cons h r=>.cons (h.bL e) (fZ.bL e r)
theorem fZ.length {n:Nat} {H:Hp}:∀ {as:List Addr} {ps:List Pl},fZ n H as ps->as.length=ps.length
 | _,_,.nil=>rfl
 | _,_,.cons _ r=>by rw[Vd,Vd,fZ.length r]
theorem fZ.get {n:Nat} {H:Hp}:∀ {as:List Addr} {ps:List Pl} {i:Nat} {a:Addr},fZ n H as ps->as[i]? = some a->∃ p,ps[i]? = some p/\Dz n H a p
 | _,_,_,_,.nil,h=>by simp at h
 | _,_,0,_,.cons h _,e=>by
  cases (show some _=some _ from e)
  exact⟨_,rfl,h⟩
 | _,_,i+1,_,.cons _ r,e=>by
  obtain⟨p,h1,h2⟩:=fZ.get (i:=i) r (by simpa using e)
  exact⟨p,by simpa using h1,h2⟩
theorem fZ.snoc {n:Nat} {H:Hp} {a:Addr} {p:Pl} (h:Dz n H a p):∀ {as:List Addr} {ps:List Pl},fZ n H as ps->fZ n H (as++[a]) (ps++[p])
 | _,_,.nil=>.cons h .nil
 | _,_,.cons x r=>.cons x (fZ.snoc h r)
inductive fu (n:Nat) (H:Hp):List V->List (List Pl)->Prop where
 | nil:fu n H [] []
 | cons {c:Addr} {as:List Addr} {ps:List Pl} {us:List V} {bs:List (List Pl)}:H c=some (.lst (as.map V.ref))->as.length<=100->fZ n H as ps->fu n H us bs->fu n H (.ref c::us) (ps::bs)
theorem fu.mono {n:Nat} {H H':Hp} (e:aO H H'):∀ {us:List V} {bs:List (List Pl)},fu n H us bs->fu n H' us bs
 | _,_,.nil=>.nil
 | _,_,.cons h l p r=>.cons (e _ _ h) l (p.bL fun a xs q=>e a _ q) (fu.mono e r)
theorem fu.length {n:Nat} {H:Hp}:∀ {us:List V} {bs:List (List Pl)},fu n H us bs->us.length=bs.length
 | _,_,.nil=>rfl
 | _,_,.cons _ _ _ r=>by rw[Vd,Vd,fu.length r]
theorem fu.get {n:Nat} {H:Hp}:∀ {us:List V} {bs:List (List Pl)} {i:Nat} {u:V},fu n H us bs->us[i]? = some u->∃ c as ps,u = .ref c/\bs[i]? = some ps/\H c=some (.lst (as.map V.ref))/\as.length<=100/\fZ n H as ps
 | _,_,_,_,.nil,h=>by simp at h
 | _,_,0,_,.cons h l p _,e=>by
  cases (show some _=some _ from e)
  exact⟨_,_,_,rfl,rfl,h,l,p⟩
 | _,_,i+1,_,.cons _ _ _ r,e=>by
  obtain⟨c,as,ps,h1,h2,h3⟩:=fu.get (i:=i) r (by simpa using e)
  exact⟨c,as,ps,h1,by simpa using h2,h3⟩
theorem fu.snoc {n:Nat} {H:Hp} {c:Addr} {as:List Addr} {ps:List Pl} (h:H c=some (.lst (as.map V.ref))) (hl:as.length<=100) (hp:fZ n H as ps):∀ {us:List V} {bs:List (List Pl)},fu n H us bs->fu n H (us++[.ref c]) (bs++[ps])
 | _,_,.nil=>.cons h hl hp .nil
 | _,_,.cons x y z r=>.cons x y z (fu.snoc h hl hp r)
def oA (n:Nat) (H:Hp) (b:Addr) (bk:List (List Pl)):Prop:=∃ us,H b=some (.lst us)/\fu n H us bk/\bk.length<=12
theorem oA.mono {n:Nat} {H H':Hp} {b:Addr} {bk:List (List Pl)} (e:aO H H') (h:oA n H b bk):oA n H' b bk:=by
 obtain⟨us,h1,h2,h3⟩:=h
 exact⟨us,e _ _ h1,h2.mono e,h3⟩
def owS (g:List Int) (f:Int) (x:Int × Tm):Int:=if hF g x.2=true then x.1 else f
def owF (g:List Int) (p:Pl):Int:=p.foldl (owS g) 0
theorem Be {g:List Int} {p:Pl} {i:Nat} {x:Int × Tm} (h:p[i]? = some x):owF g (p.take (i+1))=if hF g x.2=true then x.1 else owF g (p.take i):=by
 unfold owF
 rw[Vz,h]
 show ((p.take i)++[x]).foldl (owS g) 0=_
 rw[aby]
 rfl
def lsF (p:Pl):Int:=mxD 0 (p.map (·.1))
theorem mq:∀ (l:List Int) (a b:Int),l.foldl max (max a b)=max a (l.foldl max b)
 | [],a,b=>rfl
 | y::l,a,b=>by
  rw[Wi,Wi,show max (max a b) y=max a (max b y) by lia]
  exact mq l a (max b y)
def duF (g:List Int) (f:Int) (ps:List Pl):Int:=(ps.map (owF g)).foldl max f
theorem oJ (g:List Int) {f:Int} (hf:0<=f) (ps:List Pl):duF g f ps=max f (duF g 0 ps):=by
 unfold duF
 rw[← mq,show max f 0=f by lia]
def cX (g:List Int) (fl:List Int) (bk:List (List Pl)):List Int:=Y9 (duF g) fl bk
def rfS (f:Int) (ps:List Pl):Int:=(ps.map lsF).foldl max f
def rfF (fl:List Int) (bk:List (List Pl)):List Int:=Y9 rfS fl bk
theorem zV {α β γ:Type} (f:α->β->γ) {xs:List α} {ys:List β} {i:Nat} {x:α} {y:β} (h1:xs[i]? = some x) (h2:ys[i]? = some y):Y9 f (xs.take (i+1)) (ys.take (i+1))=Y9 f (xs.take i) (ys.take i)++[f x y]:=by
 have l1:i < xs.length:=(List.getElem?_eq_some_iff.mp h1).1
 have l2:i < ys.length:=(List.getElem?_eq_some_iff.mp h2).1
 rw[Vz,Vz,h1,h2]
 show Y9 f (xs.take i++[x]) (ys.take i++[y])=_
 rw[List.zipWith_append (by rw[Vc,Vc]; lia)]
 rfl
theorem zX {as:List Addr} {i:Nat} {x:V} (h:(as.map V.ref)[i]? = some x):∃ a,as[i]? = some a/\x = .ref a:=by
 rw[Vj] at h
 cases e:as[i]? with
 | none=>rw[e] at h; cases h
 | some a=>rw[e] at h; exact⟨a,rfl,(VF h).symm⟩
theorem take_snoc {α β:Type} (f:α->β) {xs:List α} {i:Nat} {x:α} (h:xs[i]? = some x):(xs.take (i+1)).map f=(xs.take i).map f++[f x]:=(tQ f h).symm
abbrev Ge:Stmt:=top 11
theorem xY:aY ["pledge","giving","step","term"] ["pledge","giving"] (aG Ge):=⟨rfl,rfl,rfl,by decide+kernel,rfl,by decide+kernel,by decide+kernel⟩
inductive G7 (K:Vi) (vs:List V) (H:Hp) (Q:VK):Prop where
 | mk (a g:Addr) (n:Nat) (p:Pl) (ns:List Int) (z0:vs=[.ref a,.ref g]) (z1:Dz n H a p) (z2:SqT K H g (ns.map V.int)) (z3:n<=ns.length) (z4:∀ H',aO H H'->Q (.int (owF ns p)) H'):G7 K vs H Q
def wQ (K:Vi):Sp:=fun vs H Q _=>G7 K vs H Q
theorem Nk {k:Nat} (F:Fun K "owes" "owes" Ge f fd) (B:Bt mg)
  (D_holds:Df P w K mg base "holds" k ["term","giving"] (eV K 4)):dR P w K mg base CX0 (k+1) f fd ["pledge","giving"] (wQ K):=by
 refine F.ok xY (fun vs H Q E h=>?_) (fun cdv A outer s H vs Q E hr h=>?_)
 ·obtain⟨a,g,n,p,ns,rfl,_⟩:=h
  rfl
 ·obtain⟨a,g,n,p,ns,rfl,⟨ok,vs,ha,rp⟩,hg,hn,q⟩:=h
  refine⟨_,(au (di Vx rfl (PX rfl B.reversed_ (aa (pv 0) aj)) (dD (K:=K) 2 rfl rfl (bw (aF (i:=2) xY.nd rfl (U8 rfl)) (bw (aF (i:=3) xY.nd rfl (U8 rfl)) dF))) (aC (bZ (jQ (bj D_holds hr (aa (pv 3) (aa (pv 1) aj)))) (aC (aM (pv 2))) aX)))
 (aC (aM aA))),?_⟩
  have el:=rp.length
  refine⟨_,rfl,a,vs,rfl,SqT.of ha,N5 (K:=K) (a:=a) (xs:=vs) (fun i σ H2=>(∃ u v,σ=[some (.ref a),some (.ref g),u,v])/\aO H H2/\owF ns p=owF ns (p.take (p.length - i)))
   ⟨⟨_,_,rfl⟩,aO.refl H,by rw[Nat.sub_zero,Ve]⟩ (fun i σ H2 _ h=>SqT.of (h.2.1 _ _ ha)) ?_ ?_⟩
  ·rintro i x σ H2 hi hx ⟨⟨u,v,rfl⟩,sm,ow⟩
   obtain⟨r,k0,y,t,rfl,hr0,rt,hp⟩:=rp.get hx
   have hm:=Vl hp
   have e1:p.length - i=vs.length - 1 - i+1:=by lia
   have e2:p.length - (i+1)=vs.length - 1 - i:=by lia
   rw[e1,Be hp] at ow
   refine⟨r,_,rfl,SqT.of (sm _ _ hr0),rfl,_,_,rfl,_,_,rfl,rfl,?_⟩
   refine⟨_,rfl,_,rfl,y,g,n,t,ns,rfl,rt.mono sm,(ok.2.2.2 _ hm).2.2,fH sm hg,hn,fun H3 s3=>⟨_,rfl,?_⟩⟩
   cases e:hF ns t with
   | true =>
    refine ji ⟨_,rfl,?_⟩
    rw[if_pos e] at ow
    have q':=q H3 (sm.trans s3)
    rw[ow] at q'
    exact q'
   | false =>
    refine fU ⟨⟨_,_,rfl⟩,sm.trans s3,?_⟩
    rw[if_neg (by rw[e]; exact U5)] at ow
    rw[e2]
    exact ow
  ·rintro σ H2 ⟨⟨u,v,rfl⟩,sm,ow⟩
   rw[el,abw,We] at ow
   have q':=q H2 sm
   rw[ow] at q'
   exact q'
abbrev kY:Stmt:=top 12
theorem vR:aY ["pledge"] ["pledge"] (aG kY):=⟨rfl,rfl,rfl,by decide+kernel,rfl,by decide+kernel,by decide+kernel⟩
inductive GJ (vs:List V) (H:Hp) (Q:VK):Prop where
 | mk (a:Addr) (n:Nat) (p:Pl) (z0:vs=[.ref a]) (z1:Dz n H a p) (z2:∀ H',aO H H'->Q (.int (lsF p)) H'):GJ  vs H Q
def Mp:Sp:=fun vs H Q _=>GJ  vs H Q
theorem vL (F:Fun K "last_step" "last_step" kY f fd) (B:Bt mg) :
  dR P w K mg base CX0 1 f fd ["pledge"] Mp:=by
 refine F.ok vR (fun vs H Q E h=>?_) (fun cdv A outer s H vs Q E hr h=>?_)
 ·obtain⟨a,n,p,rfl,_⟩:=h
  rfl
 ·obtain⟨a,n,p,rfl,⟨ok,vs,ha,rp⟩,q⟩:=h
  refine⟨_,(aC (aM (NP rfl rfl B.max_ (aa (bG (L:=["step","term"]) (F:=[]) (cap:=[]) rfl (bD rfl rfl (by kernel_rfl)) (gO (pv 0)) (fun _ _ _ _ _=>(dD (K:=K) 2 rfl rfl (bw (aF (i:=0) (bu (by decide+kernel)) rfl (U8 rfl)) (bw (aF (i:=1) (bu (by decide+kernel)) rfl (U8 rfl)) dF)))) (fun _ _ _ _ _=>bF) (fun _ _ _ _ _=>(pv 0))) aj)))),?_⟩
  have el:=rp.length
  have l9:=ok.2.1
  refine⟨_,rfl,a,rfl,⟨_,SqT.of ha⟩,fun D hD=>dX (K:=K) (a:=a) (xs:=vs) (fun i zs σ' H2=>(∃ u v,σ'=[u,v])/\zs=((p.take i).map (·.1)).map V.int/\aO H H2/\H2 D=some (.lst zs))
   ⟨⟨_,_,rfl⟩,rfl,aB hD _,aq⟩ (fun i zs σ' H2 _ h=>⟨SqT.of (h.2.2.1 _ _ ha),h.2.2.2⟩) ?_ ?_⟩
  ·rintro j zs x σ' H2 hx ⟨⟨u,v,rfl⟩,e1,sm,hDl⟩
   obtain⟨r,k0,y,t,rfl,hr0,rt,hp⟩:=rp.get hx
   refine⟨r,_,rfl,SqT.of (sm _ _ hr0),rfl,_,_,rfl,_,_,rfl,rfl,?_⟩
   refine tT ?_
   refine⟨_,rfl,hDl,?_,⟨_,_,rfl⟩,?_,aJ sm hD _,aq⟩
   ·rw[e1,Uy,Uy,Vc]
    exact aD (by lia)
   ·rw[e1,take_snoc (·.1) hp,U3]
    rfl
  ·rintro zs σ' H2 ⟨_,e1,sm,hDl⟩
   rw[el,Ve] at e1
   refine⟨D,p.map (·.1),rfl,SqL.of (by rw[hDl,e1]),?_⟩
   exact q H2 sm
abbrev iY:Stmt:=top 14
theorem qK:aY ["book","floor","giving"] ["book","floor","giving"] (aG iY):=⟨rfl,rfl,rfl,by decide+kernel,rfl,by decide+kernel,by decide+kernel⟩
inductive Lk (K:Vi) (vs:List V) (H:Hp) (Q:VK):Prop where
 | mk (b f g:Addr) (n:Nat) (bk:List (List Pl)) (fl ns:List Int) (z0:vs=[.ref b,.ref f,.ref g]) (z1:oA n H b bk) (z2:SqT K H f (fl.map V.int)) (z3:SqT K H g (ns.map V.int)) (z4:fl.length=bk.length) (z5:n<=ns.length) (z6:(∀ x∈fl,0<=x)) (z7:∀ (r:Addr) (H':Hp),aO H H'->H' r=some (.tup ((cX ns fl bk).map V.int))->Q (.ref r) H'):Lk K vs H Q
def Ob (K:Vi):Sp:=fun vs H Q _=>Lk K vs H Q
theorem qP {k:Nat} (F:Fun K "what_is_due" "what_is_due" iY f fd) (B:Bt mg)
  (D_owes:Df P w K mg base "owes" k ["pledge","giving"] (wQ K)):dR P w K mg base CX0 (k+1) f fd ["book","floor","giving"] (Ob K):=by
 refine F.ok qK (fun vs H Q E h=>?_) (fun cdv A outer s H vs Q E hr h=>?_)
 ·obtain⟨b,f,g,n,bk,fl,ns,rfl,_⟩:=h
  rfl
 ·obtain⟨b,f,g,n,bk,fl,ns,rfl,⟨us,hb,rb,l12⟩,hf,hg,hl,hn,h0,q⟩:=h
  refine⟨_,(aC (aM (bR (r:=gG K) bK rfl B.tuple_ cR (aa (bG (L:=["step","pledges"]) (F:=["giving"]) (cap:=[2]) rfl (bD rfl rfl (by kernel_rfl)) (Mm rfl B.zip_ (aa (pv 1) (aa (pv 0) aj))) (fun _ _ _ _ _=>(dD (K:=K) 2 rfl rfl (bw (aF (i:=0) (bu (by decide+kernel)) rfl (U8 rfl)) (bw (aF (i:=1) (bu (by decide+kernel)) rfl (U8 rfl)) dF)))) (fun _ _ _ _ _=>bF) (fun _ _ _ _ _=>(aH (r:=HS K) (lD rfl) rfl B.max_ pM (aa (aR rN (bJ (aa (pv 0) aj)) (bG (L:=["pledge"]) (F:=["giving"]) (cap:=[2]) rfl (bD rfl rfl (by kernel_rfl)) (uo K rfl (pv 1)) (fun _ _ _ _ _=>(aF (i:=0) (bu (by decide+kernel)) rfl (U8 rfl))) (fun _ _ _ _ _=>bF) (fun _ _ _ _ _=>(bj D_owes hr (aa (pv 0) (aa (pv 1) aj)))))) aj)))) aj)))),?_⟩
  have el:=rb.length
  refine⟨_,rfl,_,rfl,f,b,_,_,rfl,hf,SqL.of hb,fun D hD=>Am (K:=K) (a:=f) (b:=b) (xs:=fl.map V.int) (ys:=us) (by rw[Uy]; lia)
   (fun i zs σ H2=>(∃ u v,σ=[u,v,some (.ref g)])/\zs=(Y9 (duF ns) (fl.take i) (bk.take i)).map V.int/\aO H H2/\H2 D=some (.lst zs)) ⟨⟨_,_,rfl⟩,rfl,aB hD _,aq⟩ (fun i zs σ H2 _ h=>⟨fH h.2.2.1 hf,SqL.of (h.2.2.1 _ _ hb),h.2.2.2⟩) ?_ ?_⟩
  ·rintro i zs x y p σ H2 hx hy hp ⟨⟨u,v,rfl⟩,e1,sm,hDl⟩
   obtain⟨m,hm,rfl⟩:=int_at hx
   obtain⟨c,as,ps,rfl,hps,hc,l100,rps⟩:=rb.get hy
   have ell:=rps.length
   generalize eH3:upd H2 p _=H3
   obtain⟨g3,e3⟩:=aL eH3 hp
   refine⟨p,_,rfl,SqT.of e3,rfl,_,_,rfl,_,_,rfl,rfl,?_⟩
   refine tT ?_
   refine⟨_,rfl,small (by show 1<=1000; decide),fun p4 h4=>?_⟩
   generalize eH4:upd H3 p4 _=H4
   obtain⟨g4,e4⟩:=aL eH4 h4
   have s4:aO H H4:=sm.trans (g3.trans g4)
   refine⟨_,rfl,c,rfl,⟨_,SqL.of (s4 _ _ hc)⟩,fun D2 hD2=>cT (K:=K) (a:=c) (xs:=as.map V.ref) (fun j ws σ' H5=>(∃ u,σ'=[u,some (.ref g)])/\ws=((ps.take j).map (owF ns)).map V.int/\aO H4 H5/\H5 D2=some (.lst ws))
    ⟨⟨_,rfl⟩,rfl,aB hD2 _,aq⟩ (fun j ws σ' H5 _ h=>⟨SqL.of (h.2.2.1 _ _ (s4 _ _ hc)),h.2.2.2⟩) ?_ ?_⟩
   ·rintro j ws x σ' H5 hx ⟨⟨u,rfl⟩,e5,s5,hD5⟩
    obtain⟨a,ha,rfl⟩:=zX hx
    obtain⟨pl,hpl,rpl⟩:=rps.get ha
    refine gT ?_
    refine⟨_,rfl,_,rfl,a,g,n,pl,ns,rfl,rpl.mono (s4.trans s5),fH (s4.trans s5) hg,hn,fun H6 s6=>?_⟩
    refine⟨s6 _ _ hD5,?_,⟨_,rfl⟩,?_,aJ (s5.trans s6) hD2 _,aq⟩
    ·rw[e5,Uy,Uy,Vc]
     exact aD (by lia)
    ·rw[e5,take_snoc (owF ns) hpl,U3]
     rfl
   ·rintro ws σ' H5 ⟨_,e5,s5,hD5⟩
    rw[Uy,ell,Ve] at e5
    subst e5
    refine⟨p4,D2,_,_,rfl,rfl,s5 _ _ e4,hD5,small ?_,fun p6 h6=>?_⟩
    ·rw[Uy,Uy]
     show 1+ps.length<=1000
     lia
    generalize eH6:upd H5 p6 _=H6
    obtain⟨g6,e6⟩:=aL eH6 h6
    have sall:aO H2 H6:=g3.trans (g4.trans (s5.trans g6))
    refine⟨p6,m::ps.map (owF ns),rfl,SqL.of e6,by simp,sall _ _ hDl,?_,⟨_,_,rfl⟩,?_,aJ (sm.trans sall) hD _,aq⟩
    ·rw[e1,Uy,Z1,Vc]
     exact aD (by lia)
    ·rw[e1,zV (duF ns) hm hps,U3]
     rfl
  ·rintro zs σ H2 ⟨_,e1,sm,hDl⟩
   refine⟨D,_,rfl,.inl ⟨SqL.of hDl,fun l hl'=>?_⟩⟩
   refine q l _ (sm.trans (aB hl' _)) ?_
   rw[aq,e1,Uy,Ve,hl,Ve]
   rfl
theorem jW {g fl:List Int} {bk:List (List Pl)} (h:fl.length=bk.length):(cX g fl bk).length=bk.length:=by
 unfold cX
 rw[Z1]
 lia
abbrev IV:Stmt:=top 16
theorem Pu:aY ["book","floor"] ["book","floor"] (aG IV):=⟨rfl,rfl,rfl,by decide+kernel,rfl,by decide+kernel,by decide+kernel⟩
inductive Ep (K:Vi) (vs:List V) (H:Hp) (Q:VK):Prop where
 | mk (b f:Addr) (n:Nat) (bk:List (List Pl)) (fl:List Int) (z0:vs=[.ref b,.ref f]) (z1:oA n H b bk) (z2:SqT K H f (fl.map V.int)) (z3:fl.length=bk.length) (z4:∀ (r:Addr) (H':Hp),aO H H'->H' r=some (.tup ((rfF fl bk).map V.int))->Q (.ref r) H'):Ep K vs H Q
def Mj (K:Vi):Sp:=fun vs H Q _=>Ep K vs H Q
theorem M6 (F:Fun K "roof" "roof" IV f fd) (B:Bt mg)
  (D_last_step:Df P w K mg base "last_step" 1 ["pledge"] Mp):dR P w K mg base CX0 2 f fd ["book","floor"] (Mj K):=by
 refine F.ok Pu (fun vs H Q E h=>?_) (fun cdv A outer s H vs Q E hr h=>?_)
 ·obtain⟨b,f,n,bk,fl,rfl,_⟩:=h
  rfl
 ·obtain⟨b,f,n,bk,fl,rfl,⟨us,hb,rb,l12⟩,hf,hl,q⟩:=h
  refine⟨_,(aC (aM (bR (r:=gG K) bK rfl B.tuple_ cR (aa (bG (L:=["step","pledges"]) (F:=[]) (cap:=[]) rfl (bD rfl rfl (by kernel_rfl)) (Mm rfl B.zip_ (aa (pv 1) (aa (pv 0) aj))) (fun _ _ _ _ _=>(dD (K:=K) 2 rfl rfl (bw (aF (i:=0) (bu (by decide+kernel)) rfl (U8 rfl)) (bw (aF (i:=1) (bu (by decide+kernel)) rfl (U8 rfl)) dF)))) (fun _ _ _ _ _=>bF) (fun _ _ _ _ _=>(aH (r:=HS K) (lD rfl) rfl B.max_ pM (aa (aR rN (bJ (aa (pv 0) aj)) (bG (L:=["pledge"]) (F:=[]) (cap:=[]) rfl (bD rfl rfl (by kernel_rfl)) (uo K rfl (pv 1)) (fun _ _ _ _ _=>(aF (i:=0) (bu (by decide+kernel)) rfl (U8 rfl))) (fun _ _ _ _ _=>bF) (fun _ _ _ _ _=>(bj D_last_step hr (aa (pv 0) aj))))) aj)))) aj)))),?_⟩
  have el:=rb.length
  refine⟨_,rfl,_,rfl,f,b,_,_,rfl,hf,SqL.of hb,fun D hD=>Am (K:=K) (a:=f) (b:=b) (xs:=fl.map V.int) (ys:=us) (by rw[Uy]; lia)
   (fun i zs σ H2=>(∃ u v,σ=[u,v])/\zs=(Y9 rfS (fl.take i) (bk.take i)).map V.int/\aO H H2/\H2 D=some (.lst zs)) ⟨⟨_,_,rfl⟩,rfl,aB hD _,aq⟩ (fun i zs σ H2 _ h=>⟨fH h.2.2.1 hf,SqL.of (h.2.2.1 _ _ hb),h.2.2.2⟩) ?_ ?_⟩
  ·rintro i zs x y p σ H2 hx hy hp ⟨⟨u,v,rfl⟩,e1,sm,hDl⟩
   obtain⟨m,hm,rfl⟩:=int_at hx
   obtain⟨c,as,ps,rfl,hps,hc,l100,rps⟩:=rb.get hy
   have ell:=rps.length
   generalize eH3:upd H2 p _=H3
   obtain⟨g3,e3⟩:=aL eH3 hp
   refine⟨p,_,rfl,SqT.of e3,rfl,_,_,rfl,_,_,rfl,rfl,?_⟩
   refine tT ?_
   refine⟨_,rfl,small (by show 1<=1000; decide),fun p4 h4=>?_⟩
   generalize eH4:upd H3 p4 _=H4
   obtain⟨g4,e4⟩:=aL eH4 h4
   have s4:aO H H4:=sm.trans (g3.trans g4)
   refine⟨_,rfl,c,rfl,⟨_,SqL.of (s4 _ _ hc)⟩,fun D2 hD2=>cT (K:=K) (a:=c) (xs:=as.map V.ref) (fun j ws σ' H5=>(∃ u,σ'=[u])/\ws=((ps.take j).map lsF).map V.int/\aO H4 H5/\H5 D2=some (.lst ws))
    ⟨⟨_,rfl⟩,rfl,aB hD2 _,aq⟩ (fun j ws σ' H5 _ h=>⟨SqL.of (h.2.2.1 _ _ (s4 _ _ hc)),h.2.2.2⟩) ?_ ?_⟩
   ·rintro j ws x σ' H5 hx ⟨⟨u,rfl⟩,e5,s5,hD5⟩
    obtain⟨a,ha,rfl⟩:=zX hx
    obtain⟨pl,hpl,rpl⟩:=rps.get ha
    refine gT ?_
    refine⟨_,rfl,a,n,pl,rfl,rpl.mono (s4.trans s5),fun H6 s6=>?_⟩
    refine⟨s6 _ _ hD5,?_,⟨_,rfl⟩,?_,aJ (s5.trans s6) hD2 _,aq⟩
    ·rw[e5,Uy,Uy,Vc]
     exact aD (by lia)
    ·rw[e5,take_snoc lsF hpl,U3]
     rfl
   ·rintro ws σ' H5 ⟨_,e5,s5,hD5⟩
    rw[Uy,ell,Ve] at e5
    subst e5
    refine⟨p4,D2,_,_,rfl,rfl,s5 _ _ e4,hD5,small ?_,fun p6 h6=>?_⟩
    ·rw[Uy,Uy]
     show 1+ps.length<=1000
     lia
    generalize eH6:upd H5 p6 _=H6
    obtain⟨g6,e6⟩:=aL eH6 h6
    have sall:aO H2 H6:=g3.trans (g4.trans (s5.trans g6))
    refine⟨p6,m::ps.map lsF,rfl,SqL.of e6,by simp,sall _ _ hDl,?_,⟨_,_,rfl⟩,?_,aJ (sm.trans sall) hD _,aq⟩
    ·rw[e1,Uy,Z1,Vc]
     exact aD (by lia)
    ·rw[e1,zV rfS hm hps,U3]
     rfl
  ·rintro zs σ H2 ⟨_,e1,sm,hDl⟩
   refine⟨D,_,rfl,.inl ⟨SqL.of hDl,fun l hl'=>?_⟩⟩
   refine q l _ (sm.trans (aB hl' _)) ?_
   rw[aq,e1,Uy,Ve,hl,Ve]
   rfl
def abv:List Int->List Int->Bool
 | n::ns,m::ms=>decide (m<=n) && abv ns ms
 | _,_=>true
theorem zL:∀ {ns ms:List Int} {i:Nat} {n m:Int},ns[i]? = some n->ms[i]? = some m->abv (ns.take (i+1)) (ms.take (i+1))=(abv (ns.take i) (ms.take i) && decide (m<=n))
 | [],_,_,_,_,h,_=>by simp at h
 | _::_,[],_,_,_,_,h=>by simp at h
 | a::ns,b::ms,0,n,m,h1,h2=>by
  cases (show some a=some n from h1)
  cases (show some b=some m from h2)
  rw[Wx,Wx,abv,We,We,We,abv]
  ·rw[Bool.and_true]
   rfl
  ·simp
 | a::ns,b::ms,i+1,n,m,h1,h2=>by
  have ih:=zL (ns:=ns) (ms:=ms) (i:=i) (n:=n) (m:=m) (by simpa using h1) (by simpa using h2)
  rw[Wx,Wx,abv,ih,Wx,Wx,abv,Bool.and_assoc]
theorem vY:∀ {ns ms:List Int} {i:Nat} {n m:Int},ns[i]? = some n->ms[i]? = some m->n < m->abv ns ms=false
 | [],_,_,_,_,h,_,_=>by simp at h
 | _::_,[],_,_,_,_,h,_=>by simp at h
 | a::ns,b::ms,0,n,m,h1,h2,h=>by
  cases (show some a=some n from h1)
  cases (show some b=some m from h2)
  rw[abv,decide_eq_false (by lia),Bool.false_and]
 | a::ns,b::ms,i+1,n,m,h1,h2,h=>by
  rw[abv,vY (ns:=ns) (ms:=ms) (i:=i) (by simpa using h1) (by simpa using h2) h,aa2]
inductive Ag (K:Vi) (vs:List V) (H:Hp) (Q:VK):Prop where
 | mk (a b:Addr) (ns ms:List Int) (z0:vs=[.ref a,.ref b]) (z1:SqT K H a (ns.map V.int)) (z2:SqT K H b (ms.map V.int)) (z3:ns.length=ms.length) (z4:∀ H',aO H H'->Q (.bl (abv ns ms)) H'):Ag K vs H Q
def Em (K:Vi):Sp:=fun vs H Q _=>Ag K vs H Q
abbrev xM:Stmt:=top 4
theorem tY:aY ["one","other","step","least"] ["one","other"] (aG xM):=⟨rfl,rfl,rfl,by decide+kernel,rfl,by decide+kernel,by decide+kernel⟩
theorem JK (F:Fun K "above" "above" xM f fd) (B:Bt mg) :
  dR P w K mg base CX0 1 f fd ["one","other"] (Em K):=by
 refine F.ok tY (fun vs H Q E h=>?_) (fun cdv A outer s H vs Q E hr h=>?_)
 ·obtain⟨a,b,ns,ms,rfl,_⟩:=h
  rfl
 ·obtain⟨a,b,ns,ms,rfl,hA,hB,hl,q⟩:=h
  refine⟨_,(au (di Vx rfl (Rr rfl B.zip_ (aa (pv 0) (aa (pv 1) aj))) (dD (K:=K) 2 rfl rfl (bw (aF (i:=2) tY.nd rfl (U8 rfl)) (bw (aF (i:=3) tY.nd rfl (U8 rfl)) dF))) (aC (bZ (aQ Dt (pv 2) (pv 3) (aW _)) (aC (aM lK)) aX)))
 (aC (aM lK))),?_⟩
  refine⟨_,rfl,_,rfl,a,b,_,_,rfl,hA,hB,Nr (K:=K) (a:=a) (b:=b) (xs:=ns.map V.int) (ys:=ms.map V.int) (by rw[Uy,Uy]; exact hl)
   (fun i σ H2=>(∃ u v,σ=[some (.ref a),some (.ref b),u,v])/\aO H H2/\abv (ns.take i) (ms.take i)=true) ⟨⟨_,_,rfl⟩,aO.refl H,?_⟩ (fun i σ H2 _ h=>⟨fH h.2.1 hA,fH h.2.1 hB⟩) ?_ ?_⟩
  ·rw[We,We,abv]
   simp
  ·rintro i x y p σ H2 hx hy hp ⟨⟨u,v,rfl⟩,sm,ab⟩
   obtain⟨n,hn,rfl⟩:=int_at hx
   obtain⟨m,hm,rfl⟩:=int_at hy
   refine⟨p,_,rfl,SqT.of aq,rfl,_,_,rfl,_,_,rfl,rfl,?_⟩
   refine⟨_,rfl,_,rfl,_,_,rfl,rfl,_,rfl,?_⟩
   have sm2:=sm.trans (aB hp (.tup [.int n,.int m]))
   refine zU (fun c=>?_) (fun c=>?_)
   ·have q':=q _ sm2
    rw[vY hn hm (of_decide_eq_true c)] at q'
    exact q'
   ·refine⟨⟨_,_,rfl⟩,sm2,?_⟩
    have c':¬ n < m:=fun z=>c (decide_eq_true z)
    rw[zL hn hm,ab,decide_eq_true (by lia)]
    rfl
  ·rintro σ H2 ⟨⟨u,v,rfl⟩,sm,ab⟩
   have q':=q _ sm
   rw[Uy,Ve,hl,Ve] at ab
   rw[ab] at q'
   exact q'
inductive Aq (K:Vi) (Φ:List Int->List Int->Bool) (vs:List V) (H:Hp) (Q:VK):Prop where
 | mk (b f g:Addr) (n:Nat) (bk:List (List Pl)) (fl ns:List Int) (z0:vs=[.ref b,.ref f,.ref g]) (z1:oA n H b bk) (z2:SqT K H f (fl.map V.int)) (z3:SqT K H g (ns.map V.int)) (z4:fl.length=bk.length) (z5:ns.length=bk.length) (z6:n<=ns.length) (z7:(∀ x∈fl,0<=x)) (z8:∀ (H':Hp),aO H H'->Q (.bl (Φ (cX ns fl bk) ns)) H'):Aq K Φ vs H Q
def Io (K:Vi) (Φ:List Int->List Int->Bool):Sp:=fun vs H Q _=>Aq K Φ vs H Q
abbrev Ho:Stmt:=top 15
theorem Nu:aY ["book","floor","giving"] ["book","floor","giving"] (aG Ho):=⟨rfl,rfl,rfl,by decide+kernel,rfl,by decide+kernel,by decide+kernel⟩
theorem NB {k:Nat} (hk1:1<=k) (F:Fun K "kept" "kept" Ho f fd) (B:Bt mg)
  (D_what_is_due:Df P w K mg base "what_is_due" k ["book","floor","giving"] (Ob K)) (D_above:Df P w K mg base "above" 1 ["one","other"] (Em K)):dR P w K mg base CX0 (k+1) f fd ["book","floor","giving"] (Io K abv):=by
 refine F.ok Nu (fun vs H Q E h=>?_) (fun cdv A outer s H vs Q E hr h=>?_)
 ·obtain⟨b,f,g,n,bk,fl,ns,rfl,_⟩:=h
  rfl
 ·obtain⟨b,f,g,n,bk,fl,ns,rfl,hb,hf,hg,hl,hm,hn,h0,q⟩:=h
  refine⟨_,(aC (aM (bj D_above hr (aa (bj D_what_is_due hr (aa (pv 0) (aa (pv 1) (aa (pv 2) aj)))) (aa (pv 2) aj))))),?_⟩
  exact⟨_,rfl,_,rfl,_,rfl,b,f,g,n,bk,fl,ns,rfl,hb,hf,hg,hl,hn,h0,fun r H1 s1 e1=>⟨_,rfl,r,g,_,_,rfl,SqT.of e1,fH s1 hg,by rw[jW hl]; lia,fun H2 s2=>q H2 (s1.trans s2)⟩⟩
abbrev mW:Stmt:=top 48
theorem gK:aY ["_law_pledge_here","_law_giving_here","_law_found","_law_step","_law_term_here"] ["_law_pledge_here","_law_giving_here"] (aG mW):=⟨rfl,rfl,rfl,by decide+kernel,rfl,by decide+kernel,by decide+kernel⟩
theorem yP {k:Nat} (F:Fun K "_law_owes" "_law_owes" mW f fd) (B:Bt mg)
  (D_law_holds:Df P w K mg base "_law_holds" k ["_law_term_here","_law_giving_here"] (eV K 4)):dR P w K mg base CX0 (k+1) f fd ["_law_pledge_here","_law_giving_here"] (wQ K):=by
 refine F.ok gK (fun vs H Q E h=>?_) (fun cdv A outer s H vs Q E hr h=>?_)
 ·obtain⟨a,g,n,p,ns,rfl,_⟩:=h
  rfl
 ·obtain⟨a,g,n,p,ns,rfl,⟨ok,vs,ha,rp⟩,hg,hn,q⟩:=h
  refine⟨_,(au (aP (i:=2) gK.nd rfl (U8 rfl) aA)
 (au (di Vx rfl (gO (pv 0)) (dD (K:=K) 2 rfl rfl (bw (aF (i:=3) gK.nd rfl (U8 rfl)) (bw (aF (i:=4) gK.nd rfl (U8 rfl)) dF))) (aC (bZ (jQ (bj D_law_holds hr (aa (pv 4) (aa (pv 1) aj)))) (aC (aP (i:=2) gK.nd rfl (U8 rfl) (pv 3))) aX)))
 (aC (aM (pv 2))))),?_⟩
  have el:=rp.length
  refine⟨_,rfl,a,rfl,⟨_,SqT.of ha⟩,pG (K:=K) (a:=a) (xs:=vs) (fun i σ H2=>(∃ u v,σ=[some (.ref a),some (.ref g),some (.int (owF ns (p.take i))),u,v])/\aO H H2)
   ⟨⟨_,_,rfl⟩,aO.refl H⟩ (fun i σ H2 _ h=>SqT.of (h.2 _ _ ha)) ?_ ?_⟩
  ·rintro i x σ H2 hx ⟨⟨u,v,rfl⟩,sm⟩
   obtain⟨r,k0,y,t,rfl,hr0,rt,hp⟩:=rp.get hx
   have hm:=Vl hp
   have ow:=Be (g:=ns) hp
   refine⟨r,_,rfl,SqT.of (sm _ _ hr0),rfl,_,_,rfl,_,_,rfl,rfl,?_⟩
   refine⟨_,rfl,_,rfl,y,g,n,t,ns,rfl,rt.mono sm,(ok.2.2.2 _ hm).2.2,fH sm hg,hn,fun H3 s3=>⟨_,rfl,?_⟩⟩
   cases e:hF ns t with
   | true =>
    rw[if_pos e] at ow
    refine ji ⟨_,rfl,⟨some (.int k0),some y,?_⟩,sm.trans s3⟩
    rw[ow]
    rfl
   | false =>
    rw[if_neg (by rw[e]; exact U5)] at ow
    refine fU ⟨⟨some (.int k0),some y,?_⟩,sm.trans s3⟩
    rw[ow]
    rfl
  ·rintro σ H2 ⟨⟨u,v,rfl⟩,sm⟩
   have q':=q H2 sm
   refine⟨_,rfl,?_⟩
   rw[el,Ve]
   exact q'
abbrev m6:Stmt:=top 49
theorem yK:aY ["_law_some","_law_giving_here"] ["_law_some","_law_giving_here"] (aG m6):=⟨rfl,rfl,rfl,by decide+kernel,rfl,by decide+kernel,by decide+kernel⟩
inductive Fl (K:Vi) (vs:List V) (H:Hp) (Q:VK):Prop where
 | mk (c g:Addr) (n:Nat) (as:List Addr) (ps:List Pl) (ns:List Int) (z0:vs=[.ref c,.ref g]) (z1:H c=some (.lst (as.map V.ref))) (z2:as.length<=100) (z3:fZ n H as ps) (z4:SqT K H g (ns.map V.int)) (z5:n<=ns.length) (z6:∀ H',aO H H'->Q (.int (duF ns 0 ps)) H'):Fl K vs H Q
def GX (K:Vi):Sp:=fun vs H Q _=>Fl K vs H Q
theorem xR {k:Nat} (F:Fun K "_law_owed" "_law_owed" m6 f fd) (B:Bt mg)
  (D_law_owes:Df P w K mg base "_law_owes" k ["_law_pledge_here","_law_giving_here"] (wQ K)):dR P w K mg base CX0 (k+1) f fd ["_law_some","_law_giving_here"] (GX K):=by
 refine F.ok yK (fun vs H Q E h=>?_) (fun cdv A outer s H vs Q E hr h=>?_)
 ·obtain⟨c,g,n,as,ps,ns,rfl,_⟩:=h
  rfl
 ·obtain⟨c,g,n,as,ps,ns,rfl,hc,l100,rps,hg,hn,q⟩:=h
  refine⟨_,(aC (aM (aH (r:=HS K) (lD rfl) rfl B.max_ pM (aa (aR rN (bJ (aa aA aj)) (bG (L:=["_law_pledge_here"]) (F:=["_law_giving_here"]) (cap:=[1]) rfl (bD rfl rfl (by kernel_rfl)) (dm (pv 0)) (fun _ _ _ _ _=>(aF (i:=0) (bu (by decide+kernel)) rfl (U8 rfl))) (fun _ _ _ _ _=>bF) (fun _ _ _ _ _=>(bj D_law_owes hr (aa (pv 0) (aa (pv 1) aj)))))) aj)))),?_⟩
  have ell:=rps.length
  refine⟨small (by show 1<=1000; decide),fun p4 h4=>?_⟩
  generalize eH4:upd H p4 _=H4
  obtain⟨g4,e4⟩:=aL eH4 h4
  refine⟨_,rfl,c,rfl,⟨_,SqL.of (g4 _ _ hc)⟩,fun D2 hD2=>cT (K:=K) (a:=c) (xs:=as.map V.ref) (fun j ws σ' H5=>(∃ u,σ'=[u,some (.ref g)])/\ws=((ps.take j).map (owF ns)).map V.int/\aO H4 H5/\H5 D2=some (.lst ws))
   ⟨⟨_,rfl⟩,rfl,aB hD2 _,aq⟩ (fun j ws σ' H5 _ h=>⟨SqL.of (h.2.2.1 _ _ (g4 _ _ hc)),h.2.2.2⟩) ?_ ?_⟩
  ·rintro j ws x σ' H5 hx ⟨⟨u,rfl⟩,e5,s5,hD5⟩
   obtain⟨a,ha,rfl⟩:=zX hx
   obtain⟨pl,hpl,rpl⟩:=rps.get ha
   refine gT ?_
   refine⟨_,rfl,_,rfl,a,g,n,pl,ns,rfl,rpl.mono (g4.trans s5),fH (g4.trans s5) hg,hn,fun H6 s6=>?_⟩
   refine⟨s6 _ _ hD5,?_,⟨_,rfl⟩,?_,aJ (s5.trans s6) hD2 _,aq⟩
   ·rw[e5,Uy,Uy,Vc]
    exact aD (by lia)
   ·rw[e5,take_snoc (owF ns) hpl,U3]
    rfl
  ·rintro ws σ' H5 ⟨_,e5,s5,hD5⟩
   rw[Uy,ell,Ve] at e5
   subst e5
   refine⟨p4,D2,_,_,rfl,rfl,s5 _ _ e4,hD5,small ?_,fun p6 h6=>?_⟩
   ·rw[Uy,Uy]
    show 1+ps.length<=1000
    lia
   generalize eH6:upd H5 p6 _=H6
   obtain⟨g6,e6⟩:=aL eH6 h6
   refine⟨p6,0::ps.map (owF ns),rfl,SqL.of e6,by simp,?_⟩
   exact q H6 (g4.trans (s5.trans g6))
def itF (f:List Int->List Int) (x:List Int):Nat->List Int
 | 0=>x
 | k+1=>f (itF f x k)
def Stops (f:List Int->List Int) (x:List Int) (m:Nat):Prop:=f (itF f x m)=itF f x m/\∀ j < m,f (itF f x j)≠itF f x j
def oF (f:List Int->List Int) (x:List Int) (m:Nat):List (List Int):=(Vb (m+1)).map (itF f x)
theorem nP (f:List Int->List Int) (x:List Int) (m:Nat):(oF f x m).length=m+1:=by
 unfold oF
 rw[Uy,Vt]
theorem Ck (f:List Int->List Int) (x:List Int) (m:Nat):oF f x (m+1)=oF f x m++[itF f x (m+1)]:=by
 unfold oF
 rw[Yv,U3]
 rfl
theorem Cr (f:List Int->List Int) (x:List Int) (m:Nat):(oF f x m)[(oF f x m).length - 1]? = some (itF f x m):=by
 rw[nP,Nat.add_sub_cancel]
 unfold oF
 rw[Vj,W4 (Xu m)]
 rfl
theorem jz {f:List Int->List Int} {x:List Int} (φ:List Int->Int) (N:Nat) (b0:∀ k,0<=φ (itF f x k)) (bN:∀ k,φ (itF f x k)<=(N:Int)) (up:∀ k,f (itF f x k)≠itF f x k->φ (itF f x k) < φ (itF f x (k+1))):∃ m,m<=N/\Stops f x m:=by
 have key:∀ k,(∃ m,m < k/\Stops f x m)∨((∀ j < k,f (itF f x j)≠itF f x j)/\(k:Int)<=φ (itF f x k)):=by
  intro k
  induction k with
  | zero=>exact .inr ⟨fun j h=>absurd h (Zh _),by simpa using b0 0⟩
  | succ k ih =>
   rcases ih with⟨m,h1,h2⟩ | ⟨h1,h2⟩
   ·exact .inl ⟨m,by lia,h2⟩
   ·by_cases e:f (itF f x k)=itF f x k
    ·exact .inl ⟨k,Xu k,e,h1⟩
    ·refine .inr ⟨fun j hj=>?_,by have:=up k e; lia⟩
     rcases WN j k with z | z
     ·exact h1 j z
     ·have:j=k:=by lia
      subst this
      exact e
 rcases key (N+1) with⟨m,h1,h2⟩ | ⟨_,h2⟩
 ·exact⟨m,by lia,h2⟩
 ·have:=bN (N+1)
  lia
theorem jw {g g':List Int} (hl:g.length=g'.length) (h:∀ i,i < g.length->g.getD i 0<=g'.getD i 0):LeG g g':=fun i=>by
 by_cases hi:i < g.length
 ·exact h i hi
 ·rw[UL,Wm (by lia),UL,Wm (by lia)]
  exact V9 _
theorem Ly {g:List Int} {p:Pl} {b:Int} (h0:0<=b) (h:∀ x∈p,x.1<=b):owF g p<=b:=by
 have key:∀ (p:Pl) (f:Int),f<=b->(∀ x∈p,x.1<=b)->p.foldl (owS g) f<=b:=by
  intro p
  induction p with
  | nil=>intro f hf _; exact hf
  | cons x r ih =>
   intro f hf hx
   rw[Wi]
   refine ih _ ?_ fun y hy=>hx y (U9 _ hy)
   unfold owS
   split
   ·exact hx x UW
   ·exact hf
 exact key p 0 h0 h
theorem Jl {g g':List Int} (l:LeG g g') {p:Pl} (ok:okP p):owF g p<=owF g' p:=by
 have key:∀ (p:Pl) (f f':Int),f<=f'->(∀ x∈p,f' < x.1)->(p.map (·.1)).Pairwise (· < ·)->p.foldl (owS g) f<=p.foldl (owS g') f':=by
  intro p
  induction p with
  | nil=>intro f f' hf _ _; exact hf
  | cons x r ih =>
   intro f f' hf hx hp
   rw[Vw,W9] at hp
   rw[Wi,Wi]
   have hr:∀ y∈r,x.1 < y.1:=fun y hy=>hp.1 y.1 (List.mem_map.mpr ⟨y,hy,rfl⟩)
   have hx0:=hx x UW
   have hfr:∀ y∈r,f' < y.1:=fun y hy=>by have:=hr y hy; lia
   unfold owS
   by_cases c:hF g x.2=true
   ·rw[if_pos c,if_pos (yD l _ c)]
    exact ih _ _ (V9 _) hr hp.2
   ·rw[if_neg c]
    by_cases c':hF g' x.2=true
    ·rw[if_pos c']
     exact ih _ _ (by lia) hr hp.2
    ·rw[if_neg c']
     exact ih _ _ hf hfr hp.2
 exact key p 0 0 (V9 _) (fun x hx=>by have:=(ok.2.2.2 x hx).1; lia) ok.2.2.1
theorem ie {b:Int}:∀ (l:List Int) (a:Int),a<=b->(∀ x∈l,x<=b)->l.foldl max a<=b
 | [],a,h,_=>h
 | y::l,a,h,hl=>by
  rw[Wi]
  exact ie l _ (by have:=hl y UW; lia) fun x hx=>hl x (U9 _ hx)
theorem iw {α:Type} (u v:α->Int):∀ (l:List α) (a b:Int),a<=b->(∀ x∈l,u x<=v x)->(l.map u).foldl max a<=(l.map v).foldl max b
 | [],a,b,h,_=>h
 | y::l,a,b,h,hl=>by
  rw[Vw,Vw,Wi,Wi]
  exact iw u v l _ _ (by have:=hl y UW; lia) fun x hx=>hl x (U9 _ hx)
def okB (bk:List (List Pl)):Prop:=∀ ps∈bk,∀ p∈ps,okP p
theorem Bj {g g':List Int} (l:LeG g g') {ps:List Pl} (ok:∀ p∈ps,okP p) {f f':Int} (h:f<=f'):duF g f ps<=duF g' f' ps:=iw _ _ ps f f' h fun p hp=>Jl l (ok p hp)
theorem Lq (g:List Int) (f:Int) (ps:List Pl):f<=duF g f ps:=(fL _ f).1
theorem Nz (g:List Int) {f:Int} (h:f<=9) {ps:List Pl} (ok:∀ p∈ps,okP p):duF g f ps<=9:=by
 refine ie _ f h fun x hx=>?_
 obtain⟨p,hp,rfl⟩:=List.mem_map.mp hx
 exact Ly (by decide) fun y hy=>((ok p hp).2.2.2 y hy).2.1
theorem LQ {p:Pl} {x:Int × Tm} (h:x∈p):x.1<=lsF p:=by
 unfold lsF
 cases p with
 | nil=>cases h
 | cons y r =>
  show x.1<=(r.map (·.1)).foldl max y.1
  obtain⟨h1,h2⟩:=fL (r.map (·.1)) y.1
  rcases List.mem_cons.mp h with rfl | h
  ·exact h1
  ·exact h2 x.1 (List.mem_map.mpr ⟨x,h,rfl⟩)
theorem Pq {g:List Int} {p:Pl} (ok:okP p):owF g p<=lsF p:=by
 have hne:=ok.1
 refine Ly ?_ fun x hx=>LQ hx
 cases p with
 | nil=>exact absurd rfl hne
 | cons y r =>
  have:=LQ (p:=y::r) (x:=y) UW
  have:=(ok.2.2.2 y UW).1
  lia
theorem MJ (g:List Int) (f:Int) {ps:List Pl} (ok:∀ p∈ps,okP p):duF g f ps<=rfS f ps:=iw _ _ ps f f (V9 _) fun p hp=>Pq (ok p hp)
theorem Nh {p:Pl} (ok:okP p):lsF p<=9:=by
 cases p with
 | nil=>exact absurd rfl ok.1
 | cons y r =>
  show (r.map (·.1)).foldl max y.1<=9
  refine ie _ _ (ok.2.2.2 y UW).2.1 fun x hx=>?_
  obtain⟨z,hz,rfl⟩:=List.mem_map.mp hx
  exact (ok.2.2.2 z (U9 _ hz)).2.1
theorem NK {f:Int} (h:f<=9) {ps:List Pl} (ok:∀ p∈ps,okP p):rfS f ps<=9:=by
 refine ie _ f h fun x hx=>?_
 obtain⟨p,hp,rfl⟩:=List.mem_map.mp hx
 exact Nh (ok p hp)
theorem Qp (f:Int) (ps:List Pl):f<=rfS f ps:=(fL _ f).1
theorem f9 {α:Type} (f:Int->α->Int) {xs:List Int} {ys:List α} {i:Nat} (h1:i < xs.length) (h2:i < ys.length):(Y9 f xs ys).getD i 0=f (xs.getD i 0) ys[i]:=by
 rw[UL,List.getElem?_zipWith,UG h1,UG h2,UL,UG h1]
 rfl
theorem dg:∀ {g g':List Int},g.length=g'.length->(∀ i,i < g.length->g.getD i 0<=g'.getD i 0)->g.sum<=g'.sum/\(g.sum=g'.sum->g=g')
 | [],[],_,_=>⟨V9 _,fun _=>rfl⟩
 | a::g,b::g',hl,h=>by
  have h0:a<=b:=h 0 (Nat.succ_pos _)
  obtain⟨h1,h2⟩:=dg (g:=g) (g':=g') (by simpa using hl) fun i hi=>by
   have:=h (i+1) (by rw[Vd]; lia)
   simpa using this
  rw[Yy,Yy]
  refine⟨by lia,fun e=>?_⟩
  have e1:a=b:=by lia
  have e2:g.sum=g'.sum:=by lia
  rw[e1,h2 e2]
theorem sum_bound {g:List Int} (h:∀ x∈g,0<=x/\x<=9):0<=g.sum/\g.sum<=9 * (g.length:Int):=by
 induction g with
 | nil=>exact⟨V9 _,by simp⟩
 | cons a g ih =>
  have:=h a UW
  have:=ih fun x hx=>h x (U9 _ hx)
  rw[Yy,Vd]
  lia
def okG (n:Nat) (g:List Int):Prop:=g.length=n/\∀ x∈g,0<=x/\x<=9
theorem cH {n:Nat} {g:List Int} (h:okG n g) {i:Nat} (hi:i < n):0<=g.getD i 0/\g.getD i 0<=9:=by
 have hi':i < g.length:=by rw[h.1]; exact hi
 rw[UL,UG hi']
 exact h.2 _ (Wu hi')
theorem pN {n:Nat} {g:List Int} (hl:g.length=n) (h:∀ i,i < n->0<=g.getD i 0/\g.getD i 0<=9):okG n g:=by
 refine⟨hl,fun x hx=>?_⟩
 obtain⟨i,hi,e⟩:=XN hx
 have:=h i (by lia)
 rw[UL,UG hi,e] at this
 exact this
section
variable {n:Nat} {fl:List Int} {bk:List (List Pl)}
theorem eU (hb:bk.length=n) (ok:okB bk) (hf:okG n fl) (g:List Int):okG n (cX g fl bk):=by
 refine pN (by rw[jW (by rw[hf.1,hb])]; exact hb) fun i hi=>?_
 have h1:i < fl.length:=by rw[hf.1]; exact hi
 have h2:i < bk.length:=by lia
 unfold cX
 rw[f9 (duF g) h1 h2]
 have:=cH hf hi
 have:=Lq g (fl.getD i 0) bk[i]
 have:=Nz g (f:=fl.getD i 0) (by lia) (ok bk[i] (Wu h2))
 lia
theorem dw (hb:bk.length=n) (ok:okB bk) (hf:okG n fl) {g g':List Int} (l:LeG g g'):LeG (cX g fl bk) (cX g' fl bk):=by
 have l1:=(eU hb ok hf g).1
 have l2:=(eU hb ok hf g').1
 refine jw (by lia) fun i hi=>?_
 have h1:i < fl.length:=by rw[hf.1]; lia
 have h2:i < bk.length:=by lia
 unfold cX
 rw[f9 (duF g) h1 h2,f9 (duF g') h1 h2]
 exact Bj l (ok bk[i] (Wu h2)) (V9 _)
theorem dY (hb:bk.length=n) (ok:okB bk) (hf:okG n fl) (g:List Int):LeG fl (cX g fl bk):=by
 have l1:=(eU hb ok hf g).1
 refine jw (by rw[hf.1]; lia) fun i hi=>?_
 have h2:i < bk.length:=by rw[hf.1] at hi; lia
 unfold cX
 rw[f9 (duF g) hi h2]
 exact Lq _ _ _
theorem jH (hb:bk.length=n) (ok:okB bk) (hf:okG n fl):okG n (rfF fl bk):=by
 have hl:(rfF fl bk).length=n:=by
  unfold rfF
  rw[Z1,hf.1,hb,Nat.min_self]
 refine pN hl fun i hi=>?_
 have h1:i < fl.length:=by rw[hf.1]; exact hi
 have h2:i < bk.length:=by lia
 unfold rfF
 rw[f9 rfS h1 h2]
 have:=cH hf hi
 have:=Qp (fl.getD i 0) bk[i]
 have:=NK (f:=fl.getD i 0) (by lia) (ok bk[i] (Wu h2))
 lia
theorem zx (hb:bk.length=n) (ok:okB bk) (hf:okG n fl) (g:List Int):LeG (cX g fl bk) (rfF fl bk):=by
 have l1:=(eU hb ok hf g).1
 have l2:=(jH hb ok hf).1
 refine jw (by lia) fun i hi=>?_
 have h1:i < fl.length:=by rw[hf.1]; lia
 have h2:i < bk.length:=by lia
 unfold cX rfF
 rw[f9 (duF g) h1 h2,f9 rfS h1 h2]
 exact MJ g _ (ok bk[i] (Wu h2))
theorem fW (hb:bk.length=n) (ok:okB bk) (hf:okG n fl) {x:List Int} (hx:okG n x):∀ k,okG n (itF (fun g=>cX g fl bk) x k)
 | 0=>hx
 | k+1=>eU hb ok hf _
theorem O4 (hb:bk.length=n) (ok:okB bk) (hf:okG n fl) {x:List Int} (h:LeG x (cX x fl bk)):∀ k,LeG (itF (fun g=>cX g fl bk) x k) (itF (fun g=>cX g fl bk) x (k+1))
 | 0=>h
 | k+1=>dw hb ok hf (O4 hb ok hf h k)
theorem Ed (hb:bk.length=n) (ok:okB bk) (hf:okG n fl) {x:List Int} (h:LeG (cX x fl bk) x):∀ k,LeG (itF (fun g=>cX g fl bk) x (k+1)) (itF (fun g=>cX g fl bk) x k)
 | 0=>h
 | k+1=>dw hb ok hf (Ed hb ok hf h k)
theorem BL (hb:bk.length=n) (ok:okB bk) (hf:okG n fl) {x:List Int} (hx:okG n x) (h:LeG x (cX x fl bk)):∃ m,m<=9 * n/\Stops (fun g=>cX g fl bk) x m:=by
 refine jz XM (9 * n) (fun k=>(sum_bound (fW hb ok hf hx k).2).1) (fun k=>?_) (fun k ne=>?_)
 ·have:=(sum_bound (fW hb ok hf hx k).2).2
  rw[(fW hb ok hf hx k).1] at this
  lia
 ·obtain⟨h1,h2⟩:=dg ((fW hb ok hf hx k).1.trans (fW hb ok hf hx (k+1)).1.symm) fun i _=>O4 hb ok hf h k i
  have:XM (itF (fun g=>cX g fl bk) x k)≠XM (itF (fun g=>cX g fl bk) x (k+1)):=fun e=>ne (h2 e).symm
  lia
theorem Cv (hb:bk.length=n) (ok:okB bk) (hf:okG n fl) {x:List Int} (hx:okG n x) (h:LeG (cX x fl bk) x):∃ m,m<=9 * n/\Stops (fun g=>cX g fl bk) x m:=by
 refine jz (fun g=>9 * (n:Int) - g.sum) (9 * n) (fun k=>?_) (fun k=>?_) (fun k ne=>?_)
 ·have:=(sum_bound (fW hb ok hf hx k).2).2
  rw[(fW hb ok hf hx k).1] at this
  show 0<=9 * (n:Int) - XM _
  lia
 ·have:=(sum_bound (fW hb ok hf hx k).2).1
  show 9 * (n:Int) - XM _<=_
  lia
 ·obtain⟨h1,h2⟩:=dg ((fW hb ok hf hx (k+1)).1.trans (fW hb ok hf hx k).1.symm) fun i _=>Ed hb ok hf h k i
  have:XM (itF (fun g=>cX g fl bk) x (k+1))≠XM (itF (fun g=>cX g fl bk) x k):=fun e=>ne (h2 e)
  show 9 * (n:Int) - XM _ < 9 * (n:Int) - XM _
  lia
end
inductive iT (H:Hp):List V->List (List Int)->Prop where
 | nil:iT H [] []
 | cons {a:Addr} {g:List Int} {us:List V} {gs:List (List Int)}:H a=some (.tup (g.map V.int))->g.length<=1000->iT H us gs->iT H (.ref a::us) (g::gs)
theorem iT.bL {H H':Hp} (e:∀ a xs,H a=some (HO.tup xs)->H' a=some (HO.tup xs)):∀ {us:List V} {gs:List (List Int)},iT H us gs->iT H' us gs
 | _,_,.nil=>.nil
 | _,_,.cons h l r=>.cons (e _ _ h) l (iT.bL e r)
theorem iT.mono {H H':Hp} (e:aO H H') {us:List V} {gs:List (List Int)} (h:iT H us gs):iT H' us gs:=h.bL fun a xs q=>e a _ q
theorem iT.length {H:Hp}:∀ {us:List V} {gs:List (List Int)},iT H us gs->us.length=gs.length
 | _,_,.nil=>rfl
 | _,_,.cons _ _ r=>by rw[Vd,Vd,iT.length r]
theorem iT.get {H:Hp}:∀ {us:List V} {gs:List (List Int)} {i:Nat} {g:List Int},iT H us gs->gs[i]? = some g->∃ a,us[i]? = some (.ref a)/\H a=some (.tup (g.map V.int))
 | _,_,_,_,.nil,h=>by simp at h
 | _,_,0,_,.cons h _ _,e=>by
  cases (show some _=some _ from e)
  exact⟨_,rfl,h⟩
 | _,_,i+1,_,.cons _ _ r,e=>by
  obtain⟨a,h1,h2⟩:=iT.get (i:=i) r (by simpa using e)
  exact⟨a,by simpa using h1,h2⟩
theorem iT.snoc {H:Hp} {a:Addr} {g:List Int} (h:H a=some (.tup (g.map V.int))) (hl:g.length<=1000):∀ {us:List V} {gs:List (List Int)},iT H us gs->iT H (us++[.ref a]) (gs++[g])
 | _,_,.nil=>.cons h hl .nil
 | _,_,.cons x y r=>.cons x y (iT.snoc h hl r)
def gD (g:List Int):Dm:=.tup (g.map Dm.int)
theorem fu.okB {n:Nat} {H:Hp}:∀ {us:List V} {bk:List (List Pl)},fu n H us bk->okB bk
 | _,_,.nil=>fun ps h=>by cases h
 | _,_,.cons _ _ p r=>fun ps h q hq=>by
  rcases List.mem_cons.mp h with rfl | h
  ·obtain⟨i,hi,e⟩:=XN hq
   have hlen:=p.length
   obtain⟨q',e1,e2⟩:=p.get (i:=i) (UG (by lia))
   rw[UG hi,e] at e1
   cases e1
   exact e2.1
  ·exact fu.okB r ps h q hq
theorem oA.okB {n:Nat} {H:Hp} {b:Addr} {bk:List (List Pl)} (h:oA n H b bk):okB bk:=by
 obtain⟨us,_,h2,_⟩:=h
 exact h2.okB
abbrev Fd (fl:List Int) (bk:List (List Pl)):List Int->List Int:=fun g=>cX g fl bk
abbrev pX:Stmt:=top 17
theorem jG:aY ["book","floor","giving","row","due"] ["book","floor","giving"] (aG pX):=⟨rfl,rfl,rfl,by decide+kernel,rfl,by decide+kernel,by decide+kernel⟩
inductive rH (K:Vi) (vs:List V) (H:Hp) (Q:VK):Prop where
 | mk (b f g:Addr) (n:Nat) (bk:List (List Pl)) (fl x:List Int) (m:Nat) (z0:vs=[.ref b,.ref f,.ref g]) (z1:oA n H b bk) (z2:bk.length=n) (z3:H f=some (.tup (fl.map V.int))) (z4:okG n fl) (z5:H g=some (.tup (x.map V.int))) (z6:okG n x) (z7:m<=9 * n) (z8:Stops (Fd fl bk) x m) (z9:∀ (r:Addr) (us:List V) (H':Hp),aO H H'->H r=none->H' r=some (.lst us)->iT H' us (oF (Fd fl bk) x m)->Q (.ref r) H'):rH K vs H Q
def lM (K:Vi):Sp:=fun vs H Q _=>rH K vs H Q
theorem oU {H:Hp} {us:List V} {F:List Int->List Int} {x:List Int} {j:Nat} (h:iT H us (oF F x j)):∃ a,atI us (-1)=some (.ref a)/\H a=some (.tup ((itF F x j).map V.int)):=by
 have hl:=h.length
 obtain⟨a,h1,h2⟩:=h.get (Cr F x j)
 rw[← hl] at h1
 exact⟨a,QT h1,h2⟩
def Eh (H:Hp) (r:Addr):Nat:=match H r with
 | some (.lst us)=>us.length
 | _=>0
theorem Bp {H:Hp} {r:Addr} {us:List V} (h:H r=some (.lst us)):Eh H r=us.length:=by unfold Eh; rw[h]
theorem CV {k:Nat} (F:Fun K "settled" "settled" pX f fd) (B:Bt mg)
  (D_what_is_due:Df P w K mg base "what_is_due" k ["book","floor","giving"] (Ob K)):dR P w K mg base CX0 (k+1) f fd ["book","floor","giving"] (lM K):=by
 refine F.ok jG (fun vs H Q E h=>?_) (fun cdv A outer s H vs Q E hr h=>?_)
 ·obtain⟨b,f,g,n,bk,fl,x,m,rfl,_⟩:=h
  rfl
 ·obtain⟨b,f,g,n,bk,fl,x,m,rfl,hb,lb,hf,of,hg,ox,hm,st,q⟩:=h
  refine⟨_,(au (aP (i:=3) jG.nd rfl (U8 rfl) (bJ (aa (pv 2) aj)))
 (au (aP (i:=4) jG.nd rfl (U8 rfl) (bj D_what_is_due hr (aa (pv 0) (aa (pv 1) (aa (pv 2) aj)))))
 (au (lZ Vx (aQ (r:=Cj K) (qm hr.eQ) (pv 4) (bh (r:=gj K) bf (pv 3) (Ke Aa aA) (fun _ _=>rfl)) (aW _)) (au (eG (kZ VH VN VM cB (pv 3) (aa (pv 4) aj)))
 (aC (aP (i:=4) jG.nd rfl (U8 rfl) (bj D_what_is_due hr (aa (pv 0) (aa (pv 1) (aa (pv 4) aj))))))))
 (aC (aM (pv 3)))))),?_⟩
  have okb:=hb.okB
  have b12:n<=12:=by obtain⟨_,_,_,h⟩:=hb; lia
  have og:∀ j,okG n (itF (Fd fl bk) x j):=fW lb okb of ox
  have f0:∀ y∈fl,0<=y:=fun y hy=>(of.2 y hy).1
  have hlb:fl.length=bk.length:=by rw[of.1,lb]
  refine⟨_,rfl,small (by show 1<=1000; decide),fun r hr0=>?_⟩
  generalize eH1:upd H r _=H1
  obtain⟨g1,e1⟩:=aL eH1 hr0
  refine⟨_,rfl,_,rfl,_,rfl,b,f,g,n,bk,fl,x,rfl,hb.mono g1,SqT.of (g1 _ _ hf),SqT.of (g1 _ _ hg),hlb,by rw[ox.1]; lia,f0,fun r1 H2 s2 er1=>?_⟩
  refine gN ?_
  refine Kf (fun σ H3=>∃ (j:Nat) (us:List V) (d:Addr),j<=m/\σ=[some (.ref b),some (.ref f),some (.ref g),some (.ref r),some (.ref d)]/\aO H H3/\H3 r=some (.lst us)/\iT H3 us (oF (Fd fl bk) x j)/\H3 d=some (.tup ((itF (Fd fl bk) x (j+1)).map V.int)))
   (fun _ H3=>m+2 - Eh H3 r) ⟨0,[.ref g],r1,Vr _,rfl,g1.trans s2,s2 _ _ e1,.cons (s2 _ _ (g1 _ _ hg)) (by rw[(og 0).1]; lia) .nil,er1⟩ ?_ ?_
  ·rintro σ H3 ⟨j,us,d,hj,rfl,s3,er,gr,ed⟩
   obtain⟨a,ha,ea⟩:=oU gr
   have lu:=gr.length
   rw[nP] at lu
   refine⟨_,rfl,_,rfl,_,rfl,r,_,_,_,rfl,rfl,SqL.of er,ha,d,a,_,_,rfl,rfl,SqT.of ed,SqT.of ea,_,rfl,?_⟩
   by_cases e:itF (Fd fl bk) x (j+1)=itF (Fd fl bk) x j
   ·rw[decide_eq_true e]
    refine fU ?_
    have ej:j=m:=by
     rcases WN j m with z | z
     ·exact absurd e (st.2 j z)
     ·lia
    subst ej
    exact⟨_,rfl,q r us H3 s3 hr0 er gr⟩
   ·rw[decide_eq_false e]
    refine ji ?_
    have hjm:j < m:=by
     rcases WN j m with z | z
     ·exact z
     ·have:j=m:=by lia
      subst this
      exact absurd st.1 e
    refine⟨_,rfl,.inl ⟨rfl,_,SqL.of er⟩,_,rfl,r,_,_,rfl,rfl,er,aD (by lia),?_⟩
    have tk:=cI (zs':=us++[.ref d]) er
    have s4:aO H (upd H3 r (.lst (us++[.ref d]))):=aJ s3 hr0 _
    refine⟨_,rfl,_,rfl,_,rfl,b,f,d,n,bk,fl,_,rfl,hb.mono s4,SqT.of (s4 _ _ hf),SqT.of (tk _ _ ed),hlb,by rw[(og (j+1)).1]; lia,f0,fun r5 H5 s5 er5=>?_⟩
    have er':H5 r=some (.lst (us++[.ref d])):=s5 _ _ aq
    refine⟨⟨j+1,us++[.ref d],r5,hjm,rfl,s4.trans s5,er',?_,er5⟩,?_⟩
    ·rw[Ck]
     exact ((gr.bL tk).snoc (tk _ _ ed) (by rw[(og (j+1)).1]; lia)).mono s5
    ·show m+2 - Eh H5 r < m+2 - Eh H3 r
     rw[Bp er',Bp er,Va]
     show m+2 - (us.length+1) < m+2 - us.length
     lia
  ·rintro σ H3 Q1 Q2 hQ ⟨v1,h1,v2,h2,i0,h3,p,xs,i,z,h4,h5,h6,h7,a1,a2,ns,ms,h8,h9,h10,h11,c,h12,qq⟩
   exact⟨v1,h1,v2,h2,i0,h3,p,xs,i,z,h4,h5,h6,h7,a1,a2,ns,ms,h8,h9,h10,h11,c,h12,hQ _ _ qq⟩
def um (st:List Int->List (List Pl)->List Int):Sp:=fun vs H Q _=>∃ (b f:Addr) (n:Nat) (bk:List (List Pl)) (fl:List Int),vs=[.ref b,.ref f]/\oA n H b bk/\bk.length=n/\H f=some (.tup (fl.map V.int))/\okG n fl ∧
 ∀ (m:Nat) (r:Addr) (us:List V) (H':Hp),m<=9 * n->Stops (Fd fl bk) (st fl bk) m->aO H H'->H r=none->H' r=some (.lst us)->iT H' us (oF (Fd fl bk) (st fl bk) m)->Q (.ref r) H'
def uz (st:List Int->List (List Pl)->List Int):Sp:=fun vs H Q _=>∃ (b f:Addr) (n:Nat) (bk:List (List Pl)) (fl:List Int),vs=[.ref b,.ref f]/\oA n H b bk/\bk.length=n/\H f=some (.tup (fl.map V.int))/\okG n fl ∧
 ∀ (m:Nat) (a:Addr) (H':Hp),m<=9 * n->Stops (Fd fl bk) (st fl bk) m->aO H H'->H' a=some (.tup ((itF (Fd fl bk) (st fl bk) m).map V.int))->Q (.ref a) H'
abbrev Py:List Int->List (List Pl)->List Int:=fun fl _=>fl
theorem rn {n:Nat} {fl:List Int} {bk:List (List Pl)} (hb:bk.length=n) (ok:okB bk) (hf:okG n fl):∃ m,m<=9 * n/\Stops (Fd fl bk) fl m:=BL hb ok hf hf (dY hb ok hf fl)
theorem jB {n:Nat} {fl:List Int} {bk:List (List Pl)} (hb:bk.length=n) (ok:okB bk) (hf:okG n fl):∃ m,m<=9 * n/\Stops (Fd fl bk) (rfF fl bk) m:=Cv hb ok hf (jH hb ok hf) (zx hb ok hf _)
abbrev G6:Stmt:=top 18
abbrev xQ:Stmt:=top 20
theorem Ph:aY ["book","floor"] ["book","floor"] (aG G6):=⟨rfl,rfl,rfl,by decide+kernel,rfl,by decide+kernel,by decide+kernel⟩
theorem Jz:aY ["book","floor"] ["book","floor"] (aG xQ):=⟨rfl,rfl,rfl,by decide+kernel,rfl,by decide+kernel,by decide+kernel⟩
theorem Nj {k:Nat} (F:Fun K "rise" "rise" G6 f fd) (B:Bt mg)
  (D_settled:Df P w K mg base "settled" k ["book","floor","giving"] (lM K)):dR P w K mg base CX0 (k+1) f fd ["book","floor"] (um Py):=by
 refine F.ok Ph (fun vs H Q E h=>?_) (fun cdv A outer s H vs Q E hr h=>?_)
 ·obtain⟨b,f,n,bk,fl,rfl,_⟩:=h
  rfl
 ·obtain⟨b,f,n,bk,fl,rfl,hb,lb,hf,of,q⟩:=h
  refine⟨_,(aC (aM (bj D_settled hr (aa (pv 0) (aa (pv 1) (aa (pv 1) aj)))))),?_⟩
  obtain⟨m,hm,st⟩:=rn lb hb.okB of
  exact⟨_,rfl,_,rfl,_,rfl,b,f,f,n,bk,fl,fl,m,rfl,hb,lb,hf,of,hf,of,hm,st,fun r us H' s1 fr er gr=>q m r us H' hm st s1 fr er gr⟩
theorem JW {k:Nat} (F:Fun K "least" "least" xQ f fd) (B:Bt mg)
  (D_rise:Df P w K mg base "rise" k ["book","floor"] (um Py)):dR P w K mg base CX0 (k+1) f fd ["book","floor"] (uz Py):=by
 refine F.ok Jz (fun vs H Q E h=>?_) (fun cdv A outer s H vs Q E hr h=>?_)
 ·obtain⟨b,f,n,bk,fl,rfl,_⟩:=h
  rfl
 ·obtain⟨b,f,n,bk,fl,rfl,hb,lb,hf,of,q⟩:=h
  refine⟨_,(aC (aM (bh (r:=gj K) bf (bj D_rise hr (aa (pv 0) (aa (pv 1) aj))) (Ke Aa aA) (fun _ _=>rfl)))),?_⟩
  refine⟨_,rfl,_,rfl,b,f,n,bk,fl,rfl,hb,lb,hf,of,fun m r us H' hm st s1 fr er gr=>?_⟩
  obtain⟨a,ha,ea⟩:=oU gr
  exact⟨_,rfl,r,_,_,_,rfl,rfl,SqL.of er,ha,q m a H' hm st s1 ea⟩
abbrev Iw:Stmt:=top 19
abbrev mF:Stmt:=top 21
theorem Og:aY ["book","floor"] ["book","floor"] (aG Iw):=⟨rfl,rfl,rfl,by decide+kernel,rfl,by decide+kernel,by decide+kernel⟩
theorem zb:aY ["book","floor"] ["book","floor"] (aG mF):=⟨rfl,rfl,rfl,by decide+kernel,rfl,by decide+kernel,by decide+kernel⟩
theorem Nf {k:Nat} (hk:2<=k) (F:Fun K "fall" "fall" Iw f fd) (B:Bt mg)
  (D_settled:Df P w K mg base "settled" k ["book","floor","giving"] (lM K)) (D_roof:Df P w K mg base "roof" 2 ["book","floor"] (Mj K)):dR P w K mg base CX0 (k+1) f fd ["book","floor"] (um rfF):=by
 refine F.ok Og (fun vs H Q E h=>?_) (fun cdv A outer s H vs Q E hr h=>?_)
 ·obtain⟨b,f,n,bk,fl,rfl,_⟩:=h
  rfl
 ·obtain⟨b,f,n,bk,fl,rfl,hb,lb,hf,of,q⟩:=h
  refine⟨_,(aC (aM (bj D_settled hr (aa (pv 0) (aa (pv 1) (aa (bj D_roof hr (aa (pv 0) (aa (pv 1) aj))) aj)))))),?_⟩
  obtain⟨m,hm,st⟩:=jB lb hb.okB of
  exact⟨_,rfl,_,rfl,_,rfl,_,rfl,b,f,n,bk,fl,rfl,hb,SqT.of hf,by rw[of.1,lb],fun r1 H1 s1 e1=>⟨b,f,r1,n,bk,fl,rfF fl bk,m,rfl,hb.mono s1,lb,s1 _ _ hf,of,e1,jH lb hb.okB of,hm,st,fun r us H' s2 fr er gr=>q m r us H' hm st (s1.trans s2) (s1.free fr) er gr⟩⟩
theorem yG {k:Nat} (F:Fun K "greatest" "greatest" mF f fd) (B:Bt mg)
  (D_fall:Df P w K mg base "fall" k ["book","floor"] (um rfF)):dR P w K mg base CX0 (k+1) f fd ["book","floor"] (uz rfF):=by
 refine F.ok zb (fun vs H Q E h=>?_) (fun cdv A outer s H vs Q E hr h=>?_)
 ·obtain⟨b,f,n,bk,fl,rfl,_⟩:=h
  rfl
 ·obtain⟨b,f,n,bk,fl,rfl,hb,lb,hf,of,q⟩:=h
  refine⟨_,(aC (aM (bh (r:=gj K) bf (bj D_fall hr (aa (pv 0) (aa (pv 1) aj))) (Ke Aa aA) (fun _ _=>rfl)))),?_⟩
  refine⟨_,rfl,_,rfl,b,f,n,bk,fl,rfl,hb,lb,hf,of,fun m r us H' hm st s1 fr er gr=>?_⟩
  obtain⟨a,ha,ea⟩:=oU gr
  exact⟨_,rfl,r,_,_,_,rfl,rfl,SqL.of er,ha,q m a H' hm st s1 ea⟩
theorem LeG.trans {a b c:List Int} (h:LeG a b) (k:LeG b c):LeG a c:=fun i=>Z6 (h i) (k i)
theorem FQ:∀ {ns ms:List Int},ns.length=ms.length->(abv ns ms=true ↔ LeG ms ns)
 | [],[],_=>⟨fun _ i=>V9 _,fun _=>by rw[abv]; simp⟩
 | n::ns,m::ms,h=>by
  have ih:=FQ (ns:=ns) (ms:=ms) (by simpa using h)
  rw[abv,WK,decide_eq_true_eq,ih]
  constructor
  ·rintro⟨h1,h2⟩ i
   cases i with
   | zero=>exact h1
   | succ i=>simpa using h2 i
  ·intro h
   exact⟨h 0,fun i=>by simpa using h (i+1)⟩
section
variable {n:Nat} {fl:List Int} {bk:List (List Pl)}
theorem pC (hb:bk.length=n) (ok:okB bk) (hf:okG n fl) {g:List Int} (h:LeG (cX g fl bk) g):∀ k,LeG (itF (Fd fl bk) fl k) g
 | 0=>(dY hb ok hf g).trans h
 | k+1=>(dw hb ok hf (pC hb ok hf h k)).trans h
theorem lO (hb:bk.length=n) (ok:okB bk) (hf:okG n fl) {g:List Int} (h:LeG g (cX g fl bk)):∀ k,LeG g (itF (Fd fl bk) (rfF fl bk) k)
 | 0=>h.trans (zx hb ok hf g)
 | k+1=>h.trans (dw hb ok hf (lO hb ok hf h k))
end
theorem iT.at {H:Hp}:∀ {us:List V} {gs:List (List Int)} {i:Nat} {v:V},iT H us gs->us[i]? = some v->∃ a g,v = .ref a/\gs[i]? = some g/\H a=some (.tup (g.map V.int))/\g.length<=1000
 | _,_,_,_,.nil,h=>by simp at h
 | _,_,0,_,.cons h l _,e=>by
  cases (show some _=some _ from e)
  exact⟨_,_,rfl,rfl,h,l⟩
 | _,_,i+1,_,.cons _ _ r,e=>by
  obtain⟨a,g,h1,h2,h3⟩:=iT.at (i:=i) r (by simpa using e)
  exact⟨a,g,h1,by simpa using h2,h3⟩
theorem Rx {K:Vi} {a b:Addr} {xs ys:List V} {H:Hp} {Q:V->Hp->Prop} (ha:H a=some (.tup xs)) (hb:H b=some (.tup ys)) (hz:xs.length+ys.length<=1000) (h:∀ p H',aO H H'->H' p=some (.tup (xs++ys))->Q (.ref p) H'):jy K (.ref a) (.ref b) H Q :=
 ⟨a,b,xs,ys,rfl,rfl,SqT.of ha,SqT.of hb,small hz,fun e=>h b H (aO.refl H) (by rw[e,ZX]; exact hb),fun _ e=>h a H (aO.refl H) (by rw[e,XJ]; exact ha),fun _ _ p hp=>h p _ (aB hp _) aq⟩
theorem Ub {xs:List V} {k:Nat} (h:k<=xs.length):xm xs none (some (k:Int))=xs.take k:=by
 unfold xm
 rw[HT.zy,HT.sO,List.drop_zero,Nat.sub_zero,Nat.min_eq_left h]
theorem RD {xs:List V} {k:Nat} (h:k<=xs.length):xm xs (some (k:Int)) none=xs.drop k:=by
 unfold xm
 rw[HT.zy,HT.sO,Nat.min_eq_left h,List.take_of_length_le (by rw[Xv]; lia)]
section
variable {K:Vi} {σ:St} {H:Hp} {Q:V->Hp->Prop} {i j:Nat} {a:Addr} {k:Nat} {xs:List V}
theorem slT (hi:σ[i]? = some (some (.ref a))) (hj:σ[j]? = some (some (.int (k:Int)))) (ha:H a=some (.tup xs)) (hk:k < xs.length) (h:∀ p H',aO H H'->H' p=some (.tup (xs.take k))->Q (.ref p) H'):tSl (Dw K) (xr i) kE (xN (xr j)) σ H Q:=by
 refine⟨_,hi,_,hj,_,rfl,a,xs,rfl,SqT.of ha,?_,fun p hp=>?_⟩
 ·rintro⟨_,z⟩
  have z':HT.sIx xs.length xs.length (some (k:Int))=xs.length:=z
  rw[HT.sO] at z'
  lia
 ·refine h p _ (aB hp _) ?_
  rw[aq,Ub (by lia)]
theorem slD (hi:σ[i]? = some (some (.ref a))) (hj:σ[j]? = some (some (.int (k:Int)))) (ha:H a=some (.tup xs)) (hk:k < xs.length) (h:∀ p H',aO H H'->H' p=some (.tup (xs.drop (k+1)))->Q (.ref p) H') :
  tSl (Dw K) (xr i) (xN (tOp (rI0 fun i j=>.int (i+j)) (xr j) (tC (.int 1)))) kE σ H Q:=by
 refine⟨_,hi,_,hj,_,_,rfl,rfl,_,rfl,a,xs,rfl,SqT.of ha,?_,fun p hp=>?_⟩
 ·rintro⟨z,_⟩
  have z':HT.sIx xs.length 0 (some ((k:Int)+1))=0:=z
  rw[show (k:Int)+1=((k+1:Nat):Int) by lia,HT.sO] at z'
  lia
 ·refine h p _ (aB hp _) ?_
  rw[aq,show xm xs (some ((k:Int)+1)) none=xs.drop (k+1) by rw[show (k:Int)+1=((k+1:Nat):Int) by lia]; exact RD (by lia)]
theorem Tt {l:Nat} {v:V} (hi:σ[i]? = some (some (.ref a))) (hj:σ[j]? = some (some (.int (k:Int)))) (hv:σ[l]? = some (some v)) (ha:H a=some (.tup xs)) (hk:k < xs.length) (hl:xs.length<=40) (h:∀ p H',aO H H'->H' p=some (.tup (xs.set k v))->Q (.ref p) H') :
  tOp (jy K) (tOp (jy K) (tSl (Dw K) (xr i) kE (xN (xr j))) (RC (GF (xr l) RB))) (tSl (Dw K) (xr i) (xN (tOp (rI0 fun i j=>.int (i+j)) (xr j) (tC (.int 1)))) kE) σ H Q:=by
 refine slT hi hj ha hk fun p1 H1 s1 e1=>?_
 refine⟨_,hv,small (by show 1<=1000; decide),fun p2 h2=>?_⟩
 generalize eH3:upd H1 p2 _=H3
 obtain⟨g3,e3⟩:=aL eH3 h2
 refine Rx (g3 _ _ e1) e3 (by rw[Vc]; show min k xs.length+1<=1000; lia) fun p4 H4 s4 e4=>?_
 have s14:aO H H4:=s1.trans (g3.trans s4)
 refine slD hi hj (s14 _ _ ha) hk fun p5 H5 s5 e5=>?_
 refine Rx (s5 _ _ e4) e5 (by rw[Va,Vc,Xv]; show min k xs.length+1+(xs.length - (k+1))<=1000; lia) fun p6 H6 s6 e6=>?_
 refine h p6 H6 (s14.trans (s5.trans s6)) ?_
 rw[e6,abl,if_pos hk,XH]
 rfl
end
section
variable {n:Nat} {fl:List Int} {bk:List (List Pl)}
def stp (fl:List Int) (bk:List (List Pl)) (g:List Int) (i:Nat):List Int:=g.set i (duF g (fl.getD i 0) (bk.getD i []))
def swp (fl:List Int) (bk:List (List Pl)) (od:List Nat) (g:List Int):List Int:=od.foldl (stp fl bk) g
theorem Ni {i:Nat} (h:i < bk.length):bk.getD i []=bk[i]:=by rw[UL,UG h]; rfl
theorem nG (hb:bk.length=n) (hf:okG n fl) {g:List Int} (hg:okG n g) {i:Nat} (hi:i < n) (j:Nat):(stp fl bk g i).getD j 0=if j=i then (cX g fl bk).getD i 0 else g.getD j 0:=by
 unfold stp
 have h1:i < fl.length:=by rw[hf.1]; exact hi
 have h2:i < bk.length:=by lia
 by_cases e:j=i
 ·subst e
  rw[if_pos rfl,UL,ZC (by rw[hg.1]; exact hi),Ni h2]
  unfold cX
  rw[f9 (duF g) h1 h2]
  rfl
 ·rw[if_neg e,UL,aa1 (fun z=>e z.symm),UL]
theorem KY (hb:bk.length=n) (ok:okB bk) (hf:okG n fl) {g:List Int} (hg:okG n g) {i:Nat} (hi:i < n):okG n (stp fl bk g i):=by
 refine pN (by unfold stp; rw[abX]; exact hg.1) fun j hj=>?_
 rw[nG hb hf hg hi]
 split
 ·exact cH (eU hb ok hf g) hi
 ·exact cH hg hj
theorem Q3 (hb:bk.length=n) (ok:okB bk) (hf:okG n fl) {g:List Int} (hg:okG n g) (k:LeG g (cX g fl bk)) {i:Nat} (hi:i < n) :
  LeG g (stp fl bk g i)/\LeG (stp fl bk g i) (cX (stp fl bk g i) fl bk)/\∀ w,LeG g w->LeG (cX w fl bk) w->LeG (stp fl bk g i) w:=by
 have up:LeG g (stp fl bk g i):=fun j=>by
  rw[nG hb hf hg hi]
  split
  ·rename_i e; subst e; exact k j
  ·exact V9 _
 refine⟨up,fun j=>?_,fun w h1 h2 j=>?_⟩
 ·have m:=dw hb ok hf up j
  rw[nG hb hf hg hi]
  split
  ·rename_i e; subst e; exact m
  ·exact Z6 (k j) m
 ·rw[nG hb hf hg hi]
  split
  ·rename_i e
   subst e
   exact Z6 (dw hb ok hf h1 j) (h2 j)
  ·exact h1 j
theorem JL (hb:bk.length=n) (ok:okB bk) (hf:okG n fl) {g:List Int} (hg:okG n g) (k:LeG (cX g fl bk) g) {i:Nat} (hi:i < n) :
  LeG (stp fl bk g i) g/\LeG (cX (stp fl bk g i) fl bk) (stp fl bk g i)/\∀ w,LeG w g->LeG w (cX w fl bk)->LeG w (stp fl bk g i):=by
 have dn:LeG (stp fl bk g i) g:=fun j=>by
  rw[nG hb hf hg hi]
  split
  ·rename_i e; subst e; exact k j
  ·exact V9 _
 refine⟨dn,fun j=>?_,fun w h1 h2 j=>?_⟩
 ·have m:=dw hb ok hf dn j
  rw[nG hb hf hg hi]
  split
  ·rename_i e; subst e; exact m
  ·exact Z6 m (k j)
 ·rw[nG hb hf hg hi]
  split
  ·rename_i e
   subst e
   exact Z6 (h2 j) (dw hb ok hf h1 j)
  ·exact h1 j
theorem cO {g g':List Int} (hl:g.length=g'.length) (h:LeG g g') (h':LeG g' g):g=g':=by
 have e1:=dg hl fun i _=>h i
 have e2:=dg hl.symm fun i _=>h' i
 exact e1.2 (by lia)
def Goes (fl:List Int) (bk:List (List Pl)) (up:Bool) (g g':List Int):Prop:=if up=true then LeG g g'/\LeG g' (cX g' fl bk)/\∀ w,LeG g w->LeG (cX w fl bk) w->LeG g' w else LeG g' g/\LeG (cX g' fl bk) g'/\∀ w,LeG w g->LeG w (cX w fl bk)->LeG w g'
def Dir (fl:List Int) (bk:List (List Pl)) (up:Bool) (g:List Int):Prop:=if up=true then LeG g (cX g fl bk) else LeG (cX g fl bk) g
theorem jC {up:Bool} {g g':List Int} (h:Goes fl bk up g g'):Dir fl bk up g':=by
 cases up with
 | true=>exact h.2.1
 | false=>exact h.2.1
theorem wj {up:Bool} {g:List Int} (h:Dir fl bk up g):Goes fl bk up g g:=by
 cases up with
 | true=>exact⟨fun i=>V9 _,h,fun w h1 _=>h1⟩
 | false=>exact⟨fun i=>V9 _,h,fun w h1 _=>h1⟩
theorem rP {up:Bool} {a b c:List Int} (h:Goes fl bk up a b) (k:Goes fl bk up b c):Goes fl bk up a c:=by
 cases up with
 | true=>exact⟨h.1.trans k.1,k.2.1,fun w h1 h2=>k.2.2 w (h.2.2 w h1 h2) h2⟩
 | false=>exact⟨k.1.trans h.1,k.2.1,fun w h1 h2=>k.2.2 w (h.2.2 w h1 h2) h2⟩
theorem zz (hb:bk.length=n) (ok:okB bk) (hf:okG n fl) {up:Bool} {g:List Int} (hg:okG n g) (k:Dir fl bk up g) {i:Nat} (hi:i < n):Goes fl bk up g (stp fl bk g i):=by
 cases up with
 | true=>exact Q3 hb ok hf hg k hi
 | false=>exact JL hb ok hf hg k hi
theorem Jb {up:Bool} {a b c:List Int} (hl:a.length=b.length) (h:Goes fl bk up a b) (k:Goes fl bk up b c) (e:c=a):b=a:=by
 subst e
 cases up with
 | true=>exact (cO hl h.1 k.1).symm
 | false=>exact cO hl.symm h.1 k.1
theorem lW (hb:bk.length=n) (ok:okB bk) (hf:okG n fl) {up:Bool}:∀ (od:List Nat) {g:List Int},(∀ i∈od,i < n)->okG n g->Dir fl bk up g->Goes fl bk up g (swp fl bk od g)/\okG n (swp fl bk od g)
 | [],g,_,hg,k=>⟨wj k,hg⟩
 | i::od,g,ho,hg,k=>by
  have hi:=ho i UW
  have h1:=zz hb ok hf hg k hi
  have h2:=KY hb ok hf hg hi
  obtain⟨h3,h4⟩:=lW hb ok hf od (fun j hj=>ho j (U9 _ hj)) h2 (jC h1)
  exact⟨rP h1 h3,h4⟩
theorem Ig (hb:bk.length=n) (ok:okB bk) (hf:okG n fl) {up:Bool}:∀ (od:List Nat) {g:List Int},(∀ i∈od,i < n)->okG n g->Dir fl bk up g->swp fl bk od g=g->∀ i∈od,stp fl bk g i=g
 | [],g,_,_,_,_,i,hi=>by cases hi
 | j::od,g,ho,hg,k,e,i,hi=>by
  have hj:=ho j UW
  have h1:=zz hb ok hf hg k hj
  have h2:=KY hb ok hf hg hj
  have ho':∀ i∈od,i < n:=fun i hi=>ho i (U9 _ hi)
  have h3:=(lW hb ok hf od ho' h2 (jC h1)).1
  have ej:stp fl bk g j=g:=Jb (by rw[hg.1,h2.1]) h1 h3 e
  rcases List.mem_cons.mp hi with rfl | hi
  ·exact ej
  ·have e':swp fl bk od (stp fl bk g j)=g:=e
   rw[ej] at e'
   exact Ig hb ok hf od ho' hg k e' i hi
theorem MN (hb:bk.length=n) (ok:okB bk) (hf:okG n fl) {up:Bool} {od:List Nat} (ho:∀ i∈od,i < n) (all:∀ i < n,i∈od) {g:List Int} (hg:okG n g) (k:Dir fl bk up g) (e:swp fl bk od g=g):cX g fl bk=g:=by
 have hd:=eU hb ok hf g
 have key:∀ i,(cX g fl bk).getD i 0=g.getD i 0:=fun i=>by
  by_cases hi:i < n
  ·have:=Ig hb ok hf od ho hg k e i (all i hi)
   have h:=nG hb hf hg hi i
   rw[this,if_pos rfl] at h
   exact h.symm
  ·rw[UL,Wm (by rw[hd.1]; lia),UL,Wm (by rw[hg.1]; lia)]
 exact cO (by rw[hd.1,hg.1]) (fun i=>by rw[key]; exact V9 _) fun i=>by rw[key]; exact V9 _
def Lim (n:Nat) (fl:List Int) (bk:List (List Pl)) (up:Bool) (x z:List Int):Prop:=okG n z/\cX z fl bk=z/\Goes fl bk up x z
theorem Fw (hb:bk.length=n) (ok:okB bk) (hf:okG n fl) {up:Bool} {od:List Nat} (ho:∀ i∈od,i < n) {x:List Int} (hx:okG n x) (k:Dir fl bk up x):∀ m,okG n (itF (swp fl bk od) x m)/\Goes fl bk up x (itF (swp fl bk od) x m)
 | 0=>⟨hx,wj k⟩
 | m+1=>by
  obtain⟨h1,h2⟩:=Fw hb ok hf ho hx k m
  obtain⟨h3,h4⟩:=lW hb ok hf od ho h1 (jC h2)
  exact⟨h4,rP h2 h3⟩
theorem FT (hb:bk.length=n) (ok:okB bk) (hf:okG n fl) {up:Bool} {od:List Nat} (ho:∀ i∈od,i < n) {x:List Int} (hx:okG n x) (k:Dir fl bk up x):∃ m,m<=9 * n/\Stops (swp fl bk od) x m:=by
 have io:=Fw hb ok hf ho hx k
 have st:∀ k,Goes fl bk up (itF (swp fl bk od) x k) (itF (swp fl bk od) x (k+1)):=fun k=>(lW hb ok hf od ho (io k).1 (jC (io k).2)).1
 cases up with
 | true =>
  refine jz XM (9 * n) (fun k=>(sum_bound (io k).1.2).1) (fun k=>?_) (fun k ne=>?_)
  ·have:=(sum_bound (io k).1.2).2
   rw[(io k).1.1] at this
   lia
  ·obtain⟨h1,h2⟩:=dg ((io k).1.1.trans (io (k+1)).1.1.symm) fun i _=>(st k).1 i
   have:XM (itF (swp fl bk od) x k)≠XM (itF (swp fl bk od) x (k+1)):=fun e=>ne (h2 e).symm
   lia
 | false =>
  refine jz (fun g=>9 * (n:Int) - g.sum) (9 * n) (fun k=>?_) (fun k=>?_) (fun k ne=>?_)
  ·have:=(sum_bound (io k).1.2).2
   rw[(io k).1.1] at this
   show 0<=9 * (n:Int) - XM _
   lia
  ·have:=(sum_bound (io k).1.2).1
   show 9 * (n:Int) - XM _<=_
   lia
  ·obtain⟨h1,h2⟩:=dg ((io (k+1)).1.1.trans (io k).1.1.symm) fun i _=>(st k).1 i
   have:XM (itF (swp fl bk od) x (k+1))≠XM (itF (swp fl bk od) x k):=fun e=>ne (h2 e)
   show 9 * (n:Int) - XM _ < 9 * (n:Int) - XM _
   lia
end
section
variable {n:Nat} {fl fl':List Int} {bk:List (List Pl)}
theorem ik (hb:bk.length=n) (hf:okG n fl) (g:List Int) {i:Nat} (hi:i < n):(cX g fl bk).getD i 0=max (fl.getD i 0) (duF g 0 (bk.getD i [])):=by
 have h1:i < fl.length:=by rw[hf.1]; exact hi
 have h2:i < bk.length:=by lia
 unfold cX
 rw[f9 (duF g) h1 h2,Ni h2]
 exact oJ g (cH hf hi).1 _
theorem mR {g g':List Int} (hg:g.length=n) (hg':g'.length=n) (h:∀ i < n,g.getD i 0<=g'.getD i 0):LeG g g':=jw (by lia) fun i hi=>h i (by lia)
end
abbrev eE:Stmt:=top 51
theorem bH:aY ["_law_book_here","_law_floor","_law_giving_here","_law_here","_law_turn","_law_ahead","_law_one","_law_step"] ["_law_book_here","_law_floor","_law_giving_here"] (aG eE):=⟨rfl,rfl,rfl,by decide+kernel,rfl,by decide+kernel,by decide+kernel⟩
inductive Bw (vs:List V) (H:Hp) (Q:VK):Prop where
 | mk (b f g:Addr) (n:Nat) (bk:List (List Pl)) (fl x:List Int) (up:Bool) (z0:vs=[.ref b,.ref f,.ref g]) (z1:oA n H b bk) (z2:bk.length=n) (z3:H f=some (.tup (fl.map V.int))) (z4:okG n fl) (z5:H g=some (.tup (x.map V.int))) (z6:okG n x) (z7:Dir fl bk up x) (z8:∀ (r:Addr) (z:List Int) (H':Hp),aO H H'->H' r=some (.tup (z.map V.int))->Lim n fl bk up x z->Q (.ref r) H'):Bw  vs H Q
def Ec:Sp:=fun vs H Q _=>Bw  vs H Q
theorem kO {k:Nat} (F:Fun K "_law_step_by_step" "_law_step_by_step" eE f fd) (B:Bt mg)
  (D_law_owed:Df P w K mg base "_law_owed" k ["_law_some","_law_giving_here"] (GX K)):dR P w K mg base CX0 (k+1) f fd ["_law_book_here","_law_floor","_law_giving_here"] Ec:=by
 refine F.ok bH (fun vs H Q E h=>?_) (fun cdv A outer s H vs Q E hr h=>?_)
 ·obtain⟨b,f,g,n,bk,fl,x,up,rfl,_⟩:=h
  rfl
 ·obtain⟨b,f,g,n,bk,fl,x,up,rfl,hB,lb,hf,of,hg,ox,dir,q⟩:=h
  refine⟨_,(au (aP (i:=3) bH.nd rfl (U8 rfl) (pv 2))
 (au (di Vx rfl (cg rfl B.range_ (aa (aR bU (aR fV aA (aH (r:=rm K) bI rfl B.len_ d9 (aa (pv 0) aj))) aA) aj)) (aF (i:=4) bH.nd rfl (U8 rfl)) (au (aP (i:=5) bH.nd rfl (U8 rfl) (pv 3))
 (au (di Vx rfl (cg rfl B.range_ (aa (aH (r:=rm K) bI rfl B.len_ d9 (aa (pv 0) aj)) aj)) (aF (i:=6) bH.nd rfl (U8 rfl)) (au (aP (i:=7) bH.nd rfl (U8 rfl) (aH (qC rfl) rfl B.max_ pM (aa (bh (r:=gk K) bC (pv 1) (pv 6) (fun _ _=>rfl)) (aa (bj D_law_owed hr (aa (bh (r:=gj K) bf (pv 0) (pv 6) (fun _ _=>rfl)) (aa (pv 3) aj))) aj))))
 (aC (aP (i:=3) bH.nd rfl (U8 rfl) (aR (r:=jy K) lH (aR (r:=jy K) lH (jb (r:=Dw K) uJ (pv 3) mO (jn (pv 6))) (bT (aa (pv 7) aj))) (jb (r:=Dw K) uJ (pv 3) (jn (aR bU (pv 6) aA)) mO))))))
 (aC (bZ (aQ (r:=yQ K) (nC hr.eQ) (pv 3) (pv 5) (aW _)) (aC (aM (pv 3))) aX)))))
 (aC (aM (pv 3))))),?_⟩
  have okb:=hB.okB
  obtain⟨us0,hb,rb,l12⟩:=id hB
  have lu0:=rb.length
  let od:List Nat:=(Vb n).map fun i=>i
  have ho:∀ i∈od,i < n:=fun i hi=>by
   obtain⟨j,hj,rfl⟩:=List.mem_map.mp hi
   have:=List.mem_range.mp hj
   lia
  have hall:∀ i < n,i∈od:=fun i hi=>List.mem_map.mpr ⟨i,List.mem_range.mpr (by lia),by lia⟩
  have hod:∀ i < n,od[i]? = some i:=fun i hi=>by
   show ((Vb n).map _)[i]? = _
   rw[Vj,W4 hi]
   rfl
  have lod:od.length=n:=by show ((Vb n).map _).length=n; rw[Uy,Vt]
  obtain⟨m,hm,st⟩:=FT lb okb of ho ox dir
  have io:=Fw lb okb of ho ox dir
  clear_value od
  refine⟨_,rfl,_,rfl,b,_,rfl,.inl (SqL.of hb),_,_,rfl,rfl,.inl ⟨by decide,by decide⟩,_,_,rfl,rfl,_,rfl,by lia,by lia,eF (lo:=0) (n:=(9 * (us0.length:Int)+1).toNat) (fun t σ H3=>∃ (hh:Addr) (u0 u1 u2 u3:Option V),σ=[some (.ref b),some (.ref f),some (.ref g),some (.ref hh),u0,u1,u2,u3]/\aO H H3/\H3 hh=some (.tup ((itF (swp fl bk od) x t).map V.int))/\t<=m)
   ⟨g,_,_,_,_,rfl,aO.refl _,hg,Vr _⟩ ?_ ?_⟩
  ·rintro t σ H3 ht ⟨hh,u0,u1,u2,u3,rfl,s3,eh,htm⟩
   refine⟨_,rfl,?_⟩
   refine⟨_,rfl,b,_,rfl,.inl (SqL.of (s3 _ _ hb)),_,rfl,by lia,by lia,eF (lo:=0) (n:=us0.length) (fun i σ H4=>∃ (h2:Addr) (v0 v1:Option V),σ=[some (.ref b),some (.ref f),some (.ref g),some (.ref h2),some (.int (0+(t:Int))),some (.ref hh),v0,v1]/\aO H3 H4/\H4 h2=some (.tup ((swp fl bk (od.take i) (itF (swp fl bk od) x t)).map V.int)))
    ⟨hh,_,_,rfl,aO.refl _,by rw[We]; exact eh⟩ ?_ ?_⟩
   ·rintro i σ H4 hi ⟨h2,v0,v1,rfl,s4,e2⟩
    have hin:i < n:=by lia
    have od':∀ j∈od.take i,j < n:=fun j hj=>ho j (YT hj)
    obtain⟨_,og⟩:=lW lb okb of (od.take i) od' (io t).1 (jC (io t).2)
    have enext:swp fl bk (od.take (i+1)) (itF (swp fl bk od) x t)=stp fl bk (swp fl bk (od.take i) (itF (swp fl bk od) x t)) i:=by
     unfold swp
     rw[Vz,hod i hin]
     show ((od.take i)++[i]).foldl _ _=_
     rw[aby]
     rfl
    generalize swp fl bk (od.take i) (itF (swp fl bk od) x t)=gs at *
    have hfi:i < fl.length:=by rw[of.1]; exact hin
    have at1:atI (fl.map V.int) (0+(i:Int))=some (.int fl[i]):=by rw[Xl]; exact nJ hfi
    have hy:us0[i]? = some us0[i]:=UG hi
    obtain⟨c,as,ps,ec,hps,hc,l100,rps⟩:=rb.get hy
    have at2:atI us0 (0+(i:Int))=some (.ref c):=by rw[Xl,← ec]; exact eZ hy
    have s34:aO H H4:=s3.trans s4
    have hf0:=(of.2 fl[i] (Wu hfi)).1
    refine⟨_,rfl,_,rfl,f,_,_,_,rfl,rfl,SqT.of (s34 _ _ hf),at1,_,rfl,_,rfl,b,_,_,_,rfl,rfl,SqL.of (s34 _ _ hb),at2,_,rfl,c,h2,n,as,ps,gs,rfl,s34 _ _ hc,l100,rps.bL (fun a xs q=>s34 a _ q),SqT.of e2,by rw[og.1]; lia,fun H5 s5=>?_⟩
    refine⟨_,_,rfl,?_⟩
    have ez:(if duF gs 0 ps > fl[i] then duF gs 0 ps else fl[i])=duF gs fl[i] ps:=by
     rw[oJ gs hf0 ps]
     split <;> lia
    rw[ez]
    refine gN ?_
    dsimp only
    refine Tt (k:=i) (v:=.int (duF gs fl[i] ps)) rfl (by rw[Xl (i:Int)]; rfl) rfl (s5 _ _ e2) (by rw[Uy,og.1]; exact hin) (by rw[Uy,og.1]; lia) fun p6 H6 s6 e6=>?_
    refine⟨p6,_,_,rfl,s4.trans (s5.trans s6),?_⟩
    rw[e6,enext]
    unfold stp
    have eb:bk.getD i []=ps:=by rw[UL,hps]; rfl
    have ef:fl.getD i 0=fl[i]:=by rw[UL,UG hfi]; rfl
    rw[eb,ef,List.map_set]
   ·rintro σ H4 ⟨h2,v0,v1,rfl,s4,e2⟩
    rw[show us0.length=od.length by lia,Ve] at e2
    refine⟨_,rfl,_,rfl,h2,hh,_,_,rfl,rfl,SqT.of e2,SqT.of (s4 _ _ eh),_,rfl,?_⟩
    by_cases e:swp fl bk od (itF (swp fl bk od) x t)=itF (swp fl bk od) x t
    ·rw[decide_eq_true e]
     refine ji ⟨_,rfl,?_⟩
     rw[e] at e2
     exact q h2 _ H4 (s3.trans s4) e2 ⟨(io t).1,MN lb okb of ho hall (io t).1 (jC (io t).2) e,(io t).2⟩
    ·rw[decide_eq_false e]
     refine fU ⟨h2,_,_,_,_,rfl,s3.trans s4,e2,?_⟩
     rcases WN t m with z | z
     ·exact z
     ·have:t=m:=by lia
      subst this
      exact absurd st.1 e
  ·rintro σ H3 ⟨hh,u0,u1,u2,u3,rfl,s3,eh,htm⟩
   lia
def Oq (x:Nat):List Nat->List Nat
 | []=>[x]
 | y::r=>if x<=y then x::y::r else y::Oq x r
def FP:List Nat->List Nat
 | []=>[]
 | x::r=>Oq x (FP r)
theorem qu (x:Nat):∀ l:List Nat,(Oq x l).Perm (x::l)
 | []=>.refl _
 | y::r=>by
  rw[Oq]
  split
  ·exact .refl _
  ·exact ((qu x r).cons y).trans (.swap x y r)
theorem qw:∀ l:List Nat,(FP l).Perm l
 | []=>.refl _
 | x::r=>(qu x _).trans ((qw r).cons x)
theorem qx (x:Nat):∀ {l:List Nat},l.Pairwise (·<=·)->(Oq x l).Pairwise (·<=·)
 | [],_=>by rw[Oq]; simp
 | y::r,h=>by
  rw[Oq]
  rw[W9] at h
  split
  ·rw[W9,W9]
   refine⟨fun z hz=>?_,h⟩
   rcases List.mem_cons.mp hz with rfl | hz
   ·assumption
   ·have:=h.1 z hz
    lia
  ·rw[W9]
   refine⟨fun z hz=>?_,qx x h.2⟩
   rcases List.mem_cons.mp ((qu x r).mem_iff.mp hz) with rfl | hz
   ·lia
   ·exact h.1 z hz
theorem kW:∀ l:List Nat,(FP l).Pairwise (·<=·)
 | []=>by rw[FP]; simp
 | x::r=>qx x (kW r)
theorem G5 {l:List Nat} {ms:List Int} (p:ms.Perm (l.map fun i:Nat=>(i:Int))) (h:ms.Pairwise (·<=·)):ms=(FP l).map fun i:Nat=>(i:Int):=by
 refine rE (p.trans ((qw l).map _).symm) h ?_
 rw[YH]
 exact (kW l).imp fun h=>by lia
mutual
def ren (f:Nat->Nat):Tm->Tm
 | .free=>.free
 | .never=>.never
 | .gives i k=>.gives (f i) k
 | .sum c k=>.sum (FP (c.map f)) k
 | .crowd c k m=>.crowd (FP (c.map f)) k m
 | .all ts=>.all (Dg f ts)
 | .any ts=>.any (Dg f ts)
def Dg (f:Nat->Nat):List Tm->List Tm
 | []=>[]
 | t::r=>ren f t::Dg f r
end
theorem mC (f:Nat->Nat):∀ ts:List Tm,Dg f ts=ts.map (ren f)
 | []=>by rw[Dg]; rfl
 | t::r=>by rw[Dg,mC f r]; rfl
mutual
theorem Ii (f:Nat->Nat):∀ t:Tm,(ren f t).dep=t.dep
 | .free=>by rw[ren]
 | .never=>by rw[ren]
 | .gives i k=>by rw[ren,Tm.dep,Tm.dep] <;> simp
 | .sum c k=>by rw[ren,Tm.dep,Tm.dep] <;> simp
 | .crowd c k m=>by rw[ren,Tm.dep,Tm.dep] <;> simp
 | .all ts=>by rw[ren,Tm.dep,Tm.dep,tK f ts]
 | .any ts=>by rw[ren,Tm.dep,Tm.dep,tK f ts]
theorem tK (f:Nat->Nat):∀ ts:List Tm,tdL (Dg f ts)=tdL ts
 | []=>by rw[Dg]
 | t::r=>by rw[Dg,tdL,tdL,Ii f t,tK f r]
end
def oE (rs:List Nat) (i:Nat):Nat:=rs.getD i 0
theorem Ao {rs:List Nat} {i:Nat} (h:i < rs.length):oE rs i∈rs:=by
 unfold oE
 rw[UL,UG h]
 exact Wu h
theorem Ks {rs:List Nat} (nd:rs.Nodup) {i j:Nat} (hi:i < rs.length) (hj:j < rs.length) (hij:i < j):oE rs i≠oE rs j:=by
 unfold oE
 rw[UL,UG hi,UL,UG hj]
 exact List.pairwise_iff_getElem.mp nd i j hi hj hij
theorem uA {rs c:List Nat} {m n:Nat} (nd:rs.Nodup) (hm:m<=rs.length) (hv:∀ x∈rs,x < n) (hc:∀ i∈c,i < m) (hp:c.Pairwise (· < ·)) :
  (∀ i∈FP (c.map (oE rs)),i < n)/\(FP (c.map (oE rs))).Pairwise (· < ·)/\(FP (c.map (oE rs))).length=c.length:=by
 have pm:=qw (c.map (oE rs))
 refine⟨fun i hi=>?_,?_,by rw[pm.length_eq,Uy]⟩
 ·obtain⟨j,hj,rfl⟩:=List.mem_map.mp (pm.mem_iff.mp hi)
  exact hv _ (Ao (Vm (hc j hj) hm))
 ·have nd2:(c.map (oE rs)).Nodup:=by
   show (c.map (oE rs)).Pairwise (·≠·)
   rw[YH]
   exact List.Pairwise.imp_of_mem (fun {a b} ha hb h=>Ks nd (Vm (hc a ha) hm) (Vm (hc b hb) hm) h) hp
  have nd3:(FP (c.map (oE rs))).Nodup:=pm.nodup_iff.mpr nd2
  exact ((kW _).and nd3).imp fun h=>by lia
theorem HF {rs:List Nat} {i:Nat} (h:i < rs.length):atI (rs.map vN) (i:Int)=some (vN (oE rs i)):=by
 refine eZ ?_
 unfold oE
 rw[Vj,UL,UG h]
 rfl
theorem Ry {b:Bool} {A B:Prop} (h:b=true) (a:A):if b=true then A else B:=by rw[if_pos h]; exact a
theorem Ci {b:Bool} {A B:Prop} (h:b=false) (a:B):if b=true then A else B:=by rw[if_neg (by rw[h]; exact U5)]; exact a
abbrev iV:Stmt:=top 39
theorem qW:aY ["_law_term_here","_law_row"] ["_law_term_here","_law_row"] (aG iV):=⟨rfl,rfl,rfl,by decide+kernel,rfl,by decide+kernel,by decide+kernel⟩
inductive Lb (K:Vi) (d:Nat) (vs:List V) (H:Hp) (Q:VK):Prop where
 | mk (v:V) (row:Addr) (m n:Nat) (t:Tm) (rs:List Nat) (z0:vs=[v,.ref row]) (z1:nR m H v t) (z2:t.dep<=d) (z3:SqL K H row (rs.map vN)) (z4:m<=rs.length) (z5:rs.Nodup) (z6:(∀ x∈rs,x < n)) (z7:∀ (v':V) (H':Hp),aO H H'->nR n H' v' (ren (oE rs) t)->Q v' H'):Lb K d vs H Q
def Dn (K:Vi) (d:Nat):Sp:=fun vs H Q _=>Lb K d vs H Q
theorem JD:dR P w K mg base CX0 0 f fd ["_law_term_here","_law_row"] (Dn K 0):=by
 have no:∀ vs H Q E,¬ Dn K 0 vs H Q E:=fun vs H Q E h=>by
  obtain⟨v,row,m,n,t,rs,_,_,h1,_⟩:=h
  have:=t.zq
  lia
 exact⟨fun vs H Q E h=>absurd h (no vs H Q E),fun A outer s H args us vs Q E _ _ _ _ h=>absurd h (no vs H Q E)⟩
theorem zm {K:Vi} {H H':Hp} {a:Addr} {xs:List V} (e:aO H H') (h:SqL K H a xs):SqL K H' a xs:=e.seq h
theorem iu {d:Nat} (F:Fun K "_law_renamed" "_law_renamed" iV f fd) (B:Bt mg)
  (D_law_renamed:Df P w K mg base "_law_renamed" d ["_law_term_here","_law_row"] (Dn K d)):dR P w K mg base CX0 (d+1) f fd ["_law_term_here","_law_row"] (Dn K (d+1)):=by
 refine F.ok qW (fun vs H Q E h=>?_) (fun cdv A outer s H vs Q E hr h=>?_)
 ·obtain⟨v,row,m,n,t,rs,rfl,_⟩:=h
  rfl
 ·obtain⟨v,row,m,n,t,rs,rfl,rt,hd,hR,hm,nd,hv,q⟩:=h
  refine⟨_,(au (bZ (aQ fO (bh (r:=gk K) bC (pv 0) aA (fun _ _=>rfl)) cC (aW _)) (aC (aM (bT (aa cC (aa (bh (r:=gj K) bf (pv 1) (bh (r:=gk K) bC (pv 0) aA (fun _ _=>rfl)) (fun _ _=>rfl)) (aa (bh (r:=gk K) bC (pv 0) aA (fun _ _=>rfl)) aj)))))) aX)
 (au (bZ (aQ (r:=rIn K false) iG (bh (r:=gk K) bC (pv 0) aA (fun _ _=>rfl)) (bT (aa cC (aa cC aj))) rfl) (aC (aM (aR (r:=jy K) lH (bT (aa (bh (r:=gk K) bC (pv 0) aA (fun _ _=>rfl)) (aa (bR (r:=gG K) bK rfl B.tuple_ cR (aa (aH (r:=Li K) CN rfl B.sorted_ (by decide+kernel) (aa (bG (L:=["_law_one"]) (F:=["_law_row"]) (cap:=[1]) rfl (bD rfl rfl (by kernel_rfl)) (gO (bh (r:=gk K) bC (pv 0) aA (fun _ _=>rfl))) (fun _ _ _ _ _=>(aF (i:=0) (bu (by decide+kernel)) rfl (U8 rfl))) (fun _ _ _ _ _=>bF) (fun _ _ _ _ _=>(bh (r:=gj K) bf (pv 1) (pv 0) (fun _ _=>rfl)))) aj)) aj)) aj))) (jb (r:=Dw K) uJ (pv 0) (jn aA) mO)))) aX)
 (au (bZ (aQ (r:=rIn K false) iG (bh (r:=gk K) bC (pv 0) aA (fun _ _=>rfl)) (bT (aa cC (aa cC aj))) rfl) (aC (aM (bT (aa (bh (r:=gk K) bC (pv 0) aA (fun _ _=>rfl)) (aa (bR (r:=gG K) bK rfl B.tuple_ cR (aa (bG (L:=["_law_part"]) (F:=["_law_row"]) (cap:=[1]) rfl (bD rfl rfl (by kernel_rfl)) (gO (bh (r:=gk K) bC (pv 0) aA (fun _ _=>rfl))) (fun _ _ _ _ _=>(aF (i:=0) (bu (by decide+kernel)) rfl (U8 rfl))) (fun _ _ _ _ _=>bF) (fun _ _ _ _ _=>(bj D_law_renamed hr (aa (pv 0) (aa (pv 1) aj))))) aj)) aj))))) aX)
 (aC (aM (pv 0)))))),?_⟩
  cases rt with
  | @free a ha =>
   refine⟨_,rfl,a,_,_,_,rfl,rfl,SqT.of ha,aK (k:=0) rfl,rfl,_,rfl,gC (bA (by decide)) ?_⟩
   refine⟨_,rfl,a,_,_,_,rfl,rfl,SqT.of ha,aK (k:=0) rfl,small (by show 2<=1000; decide),fun p1 h1=>⟨p1,_,rfl,.inr (SqT.of aq),rfl,rfl,_,rfl,Ci (by decide+kernel) ?_⟩⟩
   generalize eH1:upd H p1 _=H1
   obtain⟨g1,_⟩:=aL eH1 h1
   refine⟨_,rfl,a,_,_,_,rfl,rfl,SqT.of (g1 _ _ ha),aK (k:=0) rfl,small (by show 2<=1000; decide),fun p2 h2=>⟨p2,_,rfl,.inr (SqT.of aq),rfl,rfl,_,rfl,Ci (by decide+kernel) ?_⟩⟩
   generalize eH2:upd H1 p2 _=H2
   obtain⟨g2,_⟩:=aL eH2 h2
   refine⟨_,rfl,?_⟩
   have q':=q (.ref a) H2 (g1.trans g2) (by rw[ren]; exact .free (g2 _ _ (g1 _ _ ha)))
   exact q'
  | @never a ha =>
   refine⟨_,rfl,a,_,_,_,rfl,rfl,SqT.of ha,aK (k:=0) rfl,rfl,_,rfl,gC (bA (by decide)) ?_⟩
   refine⟨_,rfl,a,_,_,_,rfl,rfl,SqT.of ha,aK (k:=0) rfl,small (by show 2<=1000; decide),fun p1 h1=>⟨p1,_,rfl,.inr (SqT.of aq),rfl,rfl,_,rfl,Ci (by decide+kernel) ?_⟩⟩
   generalize eH1:upd H p1 _=H1
   obtain⟨g1,_⟩:=aL eH1 h1
   refine⟨_,rfl,a,_,_,_,rfl,rfl,SqT.of (g1 _ _ ha),aK (k:=0) rfl,small (by show 2<=1000; decide),fun p2 h2=>⟨p2,_,rfl,.inr (SqT.of aq),rfl,rfl,_,rfl,Ci (by decide+kernel) ?_⟩⟩
   generalize eH2:upd H1 p2 _=H2
   obtain⟨g2,_⟩:=aL eH2 h2
   refine⟨_,rfl,?_⟩
   have q':=q (.ref a) H2 (g1.trans g2) (by rw[ren]; exact .never (g2 _ _ (g1 _ _ ha)))
   exact q'
  | @gives a i k ha hi k1 k9 =>
   refine⟨_,rfl,a,_,_,_,rfl,rfl,SqT.of ha,aK (k:=0) rfl,rfl,_,rfl,Dy rfl ?_⟩
   refine⟨_,rfl,_,rfl,a,_,_,_,rfl,rfl,SqT.of ha,aK (k:=1) rfl,row,_,_,_,rfl,rfl,hR,HF (by lia),_,rfl,a,_,_,_,rfl,rfl,SqT.of ha,aK (k:=2) rfl,small (by show 3<=1000; decide),fun p1 h1=>?_⟩
   refine q (.ref p1) _ (aB h1 _) ?_
   rw[ren]
   exact .gives aq (hv _ (Ao (by lia))) k1 k9
  | @sum a b c k ha hb hc hp l20 l2 k1 k99 =>
   obtain⟨x1,x2,x3⟩:=uA nd hm hv hc hp
   refine⟨_,rfl,a,_,_,_,rfl,rfl,SqT.of ha,aK (k:=0) rfl,rfl,_,rfl,gC (bA (by decide)) ?_⟩
   refine⟨_,rfl,a,_,_,_,rfl,rfl,SqT.of ha,aK (k:=0) rfl,small (by show 2<=1000; decide),fun p1 h1=>⟨p1,_,rfl,.inr (SqT.of aq),rfl,rfl,_,rfl,Ry (by decide+kernel) ?_⟩⟩
   generalize eH1:upd H p1 _=H1
   obtain⟨g1,_⟩:=aL eH1 h1
   refine⟨_,rfl,a,_,_,_,rfl,rfl,SqT.of (g1 _ _ ha),aK (k:=0) rfl,?_⟩
   refine⟨_,rfl,a,_,_,_,rfl,rfl,SqT.of (g1 _ _ ha),aK (k:=1) rfl,b,rfl,⟨_,SqT.of (g1 _ _ hb)⟩,fun D hD=>dX (K:=K) (a:=b) (xs:=c.map vN) (fun i zs σ' H2=>(∃ u,σ'=[u,some (.ref row)])/\zs=((c.take i).map (oE rs)).map vN/\aO H1 H2/\H2 D=some (.lst zs))
    ⟨⟨_,rfl⟩,rfl,aB hD _,aq⟩ (fun i zs σ' H2 _ h=>⟨SqT.of (h.2.2.1 _ _ (g1 _ _ hb)),h.2.2.2⟩) ?_ ?_⟩
   ·rintro j zs x σ' H2 hx ⟨⟨u,rfl⟩,e1,sm,hDl⟩
    obtain⟨i,hi,rfl⟩:=qJ hx
    have him:=hc i (Vl hi)
    refine gT ?_
    refine⟨_,rfl,_,rfl,row,_,_,_,rfl,rfl,zm (g1.trans sm) hR,HF (by lia),hDl,?_,⟨_,rfl⟩,?_,aJ sm hD _,aq⟩
    ·rw[e1,Uy,Uy,Vc]
     exact aD (by lia)
    ·rw[e1,take_snoc (oE rs) hi,U3]
     rfl
   ·rintro zs σ' H2 ⟨_,e1,sm,hDl⟩
    rw[Uy,Ve] at e1
    refine⟨D,(c.map (oE rs)).map fun i:Nat=>(i:Int),rfl,SqL.of (by rw[hDl,e1,jc]),by rw[Uy,Uy]; lia,fun ms pm so l hl=>?_⟩
    rw[G5 pm so,← jc]
    generalize eH3:upd H2 l _=H3
    obtain⟨g3,e3⟩:=aL eH3 hl
    refine⟨l,_,rfl,.inl ⟨SqL.of e3,fun p4 h4=>?_⟩⟩
    generalize eH4:upd H3 p4 _=H4
    obtain⟨g4,e4⟩:=aL eH4 h4
    refine⟨small (by show 2<=1000; decide),fun p5 h5=>?_⟩
    generalize eH5:upd H4 p5 _=H5
    obtain⟨g5,e5⟩:=aL eH5 h5
    have s5:aO H H5:=g1.trans (sm.trans (g3.trans (g4.trans g5)))
    refine⟨_,rfl,_,rfl,a,_,rfl,SqT.of (s5 _ _ ha),(by show ¬ (HT.sIx 3 0 (some 2)=0/\HT.sIx 3 3 none=3); decide),fun p6 h6=>?_⟩
    have ec:xm [V.str "sum",.ref b,.int k] (some 2) none=[.int k]:=rfl
    rw[ec]
    generalize eH6:upd H5 p6 _=H6
    obtain⟨g6,e6⟩:=aL eH6 h6
    refine⟨p5,p6,_,_,rfl,rfl,SqT.of (g6 _ _ e5),SqT.of e6,small (by show 3<=1000; decide),fun z=>(by cases z),fun _ z=>(by cases z),fun _ _ p7 h7=>?_⟩
    refine q (.ref p7) _ (s5.trans (g6.trans (aB h7 _))) ?_
    rw[ren]
    exact .sum aq (aB h7 _ _ _ (g6 _ _ (g5 _ _ e4))) x1 x2 (by lia) (by lia) k1 k99
  | @crowd a b c k mm ha hb hc hp l20 l1 k1 k9 m1 m12 =>
   obtain⟨x1,x2,x3⟩:=uA nd hm hv hc hp
   refine⟨_,rfl,a,_,_,_,rfl,rfl,SqT.of ha,aK (k:=0) rfl,rfl,_,rfl,gC (bA (by decide)) ?_⟩
   refine⟨_,rfl,a,_,_,_,rfl,rfl,SqT.of ha,aK (k:=0) rfl,small (by show 2<=1000; decide),fun p1 h1=>⟨p1,_,rfl,.inr (SqT.of aq),rfl,rfl,_,rfl,Ry (by decide+kernel) ?_⟩⟩
   generalize eH1:upd H p1 _=H1
   obtain⟨g1,_⟩:=aL eH1 h1
   refine⟨_,rfl,a,_,_,_,rfl,rfl,SqT.of (g1 _ _ ha),aK (k:=0) rfl,?_⟩
   refine⟨_,rfl,a,_,_,_,rfl,rfl,SqT.of (g1 _ _ ha),aK (k:=1) rfl,b,rfl,⟨_,SqT.of (g1 _ _ hb)⟩,fun D hD=>dX (K:=K) (a:=b) (xs:=c.map vN) (fun i zs σ' H2=>(∃ u,σ'=[u,some (.ref row)])/\zs=((c.take i).map (oE rs)).map vN/\aO H1 H2/\H2 D=some (.lst zs))
    ⟨⟨_,rfl⟩,rfl,aB hD _,aq⟩ (fun i zs σ' H2 _ h=>⟨SqT.of (h.2.2.1 _ _ (g1 _ _ hb)),h.2.2.2⟩) ?_ ?_⟩
   ·rintro j zs x σ' H2 hx ⟨⟨u,rfl⟩,e1,sm,hDl⟩
    obtain⟨i,hi,rfl⟩:=qJ hx
    have him:=hc i (Vl hi)
    refine gT ?_
    refine⟨_,rfl,_,rfl,row,_,_,_,rfl,rfl,zm (g1.trans sm) hR,HF (by lia),hDl,?_,⟨_,rfl⟩,?_,aJ sm hD _,aq⟩
    ·rw[e1,Uy,Uy,Vc]
     exact aD (by lia)
    ·rw[e1,take_snoc (oE rs) hi,U3]
     rfl
   ·rintro zs σ' H2 ⟨_,e1,sm,hDl⟩
    rw[Uy,Ve] at e1
    refine⟨D,(c.map (oE rs)).map fun i:Nat=>(i:Int),rfl,SqL.of (by rw[hDl,e1,jc]),by rw[Uy,Uy]; lia,fun ms pm so l hl=>?_⟩
    rw[G5 pm so,← jc]
    generalize eH3:upd H2 l _=H3
    obtain⟨g3,e3⟩:=aL eH3 hl
    refine⟨l,_,rfl,.inl ⟨SqL.of e3,fun p4 h4=>?_⟩⟩
    generalize eH4:upd H3 p4 _=H4
    obtain⟨g4,e4⟩:=aL eH4 h4
    refine⟨small (by show 2<=1000; decide),fun p5 h5=>?_⟩
    generalize eH5:upd H4 p5 _=H5
    obtain⟨g5,e5⟩:=aL eH5 h5
    have s5:aO H H5:=g1.trans (sm.trans (g3.trans (g4.trans g5)))
    refine⟨_,rfl,_,rfl,a,_,rfl,SqT.of (s5 _ _ ha),(by show ¬ (HT.sIx 4 0 (some 2)=0/\HT.sIx 4 4 none=4); decide),fun p6 h6=>?_⟩
    have ec:xm [V.str "crowd",.ref b,.int k,.int mm] (some 2) none=[.int k,.int mm]:=rfl
    rw[ec]
    generalize eH6:upd H5 p6 _=H6
    obtain⟨g6,e6⟩:=aL eH6 h6
    refine⟨p5,p6,_,_,rfl,rfl,SqT.of (g6 _ _ e5),SqT.of e6,small (by show 4<=1000; decide),fun z=>(by cases z),fun _ z=>(by cases z),fun _ _ p7 h7=>?_⟩
    refine q (.ref p7) _ (s5.trans (g6.trans (aB h7 _))) ?_
    rw[ren]
    exact .crowd aq (aB h7 _ _ _ (g6 _ _ (g5 _ _ e4))) x1 x2 (by lia) (by lia) k1 k9 m1 m12
  | @all a b us ts ha hb l2 l6 rl =>
   have hdl:tdL ts<=d:=by rw[Tm.dep] at hd; lia
   have el:=rl.length
   refine⟨_,rfl,a,_,_,_,rfl,rfl,SqT.of ha,aK (k:=0) rfl,rfl,_,rfl,gC (bA (by decide)) ?_⟩
   refine⟨_,rfl,a,_,_,_,rfl,rfl,SqT.of ha,aK (k:=0) rfl,small (by show 2<=1000; decide),fun p1 h1=>⟨p1,_,rfl,.inr (SqT.of aq),rfl,rfl,_,rfl,Ci (by decide+kernel) ?_⟩⟩
   generalize eH1:upd H p1 _=H1
   obtain⟨g1,_⟩:=aL eH1 h1
   refine⟨_,rfl,a,_,_,_,rfl,rfl,SqT.of (g1 _ _ ha),aK (k:=0) rfl,small (by show 2<=1000; decide),fun p2 h2=>⟨p2,_,rfl,.inr (SqT.of aq),rfl,rfl,_,rfl,Ry (by decide+kernel) ?_⟩⟩
   generalize eH2:upd H1 p2 _=H2
   obtain⟨g2,_⟩:=aL eH2 h2
   have s2:aO H H2:=g1.trans g2
   refine⟨_,rfl,a,_,_,_,rfl,rfl,SqT.of (s2 _ _ ha),aK (k:=0) rfl,?_⟩
   refine⟨_,rfl,a,_,_,_,rfl,rfl,SqT.of (s2 _ _ ha),aK (k:=1) rfl,b,rfl,⟨_,SqT.of (s2 _ _ hb)⟩,fun D hD=>dX (K:=K) (a:=b) (xs:=us) (fun i zs σ' H3=>(∃ u,σ'=[u,some (.ref row)])/\zs.length=i/\aO H2 H3/\H3 D=some (.lst zs)/\dW n H3 zs (Dg (oE rs) (ts.take i)))
    ⟨⟨_,rfl⟩,rfl,aB hD _,aq,by rw[We,Dg]; exact .nil⟩ (fun i zs σ' H3 _ h=>⟨SqT.of (h.2.2.1 _ _ (s2 _ _ hb)),h.2.2.2.1⟩) ?_ ?_⟩
   ·rintro j zs x σ' H3 hx ⟨⟨u,rfl⟩,lz,sm,hDl,rz⟩
    obtain⟨t,ht,rt⟩:=rl.get hx
    have hj:=(List.getElem?_eq_some_iff.mp hx).1
    refine gT ?_
    refine⟨_,rfl,_,rfl,x,row,m,n,t,rs,rfl,rt.mono (s2.trans sm),Wd (mQ ht) hdl,zm (s2.trans sm) hR,hm,nd,hv,fun v' H4 s4 r4=>?_⟩
    have s7:=cI (zs':=zs++[v']) (s4 _ _ hDl)
    refine⟨s4 _ _ hDl,aD (by lia),⟨_,rfl⟩,by rw[Va,lz]; rfl,aJ (sm.trans s4) hD _,aq,?_⟩
    rw[mC,take_snoc (ren (oE rs)) ht,← mC]
    exact ((rz.mono s4).bL s7).snoc (r4.bL s7)
   ·rintro zs σ' H3 ⟨_,lz,sm,hDl,rz⟩
    rw[el,Ve] at rz
    refine⟨D,_,rfl,.inl ⟨SqL.of hDl,fun p4 h4=>?_⟩⟩
    generalize eH4:upd H3 p4 _=H4
    obtain⟨g4,e4⟩:=aL eH4 h4
    refine⟨small (by show 2<=1000; decide),fun p5 h5=>?_⟩
    refine q (.ref p5) _ (s2.trans (sm.trans (g4.trans (aB h5 _)))) ?_
    rw[ren]
    exact .all aq (aB h5 _ _ _ e4) (by lia) (by lia) (rz.mono (g4.trans (aB h5 _)))
  | @any a b us ts ha hb l2 l6 rl =>
   have hdl:tdL ts<=d:=by rw[Tm.dep] at hd; lia
   have el:=rl.length
   refine⟨_,rfl,a,_,_,_,rfl,rfl,SqT.of ha,aK (k:=0) rfl,rfl,_,rfl,gC (bA (by decide)) ?_⟩
   refine⟨_,rfl,a,_,_,_,rfl,rfl,SqT.of ha,aK (k:=0) rfl,small (by show 2<=1000; decide),fun p1 h1=>⟨p1,_,rfl,.inr (SqT.of aq),rfl,rfl,_,rfl,Ci (by decide+kernel) ?_⟩⟩
   generalize eH1:upd H p1 _=H1
   obtain⟨g1,_⟩:=aL eH1 h1
   refine⟨_,rfl,a,_,_,_,rfl,rfl,SqT.of (g1 _ _ ha),aK (k:=0) rfl,small (by show 2<=1000; decide),fun p2 h2=>⟨p2,_,rfl,.inr (SqT.of aq),rfl,rfl,_,rfl,Ry (by decide+kernel) ?_⟩⟩
   generalize eH2:upd H1 p2 _=H2
   obtain⟨g2,_⟩:=aL eH2 h2
   have s2:aO H H2:=g1.trans g2
   refine⟨_,rfl,a,_,_,_,rfl,rfl,SqT.of (s2 _ _ ha),aK (k:=0) rfl,?_⟩
   refine⟨_,rfl,a,_,_,_,rfl,rfl,SqT.of (s2 _ _ ha),aK (k:=1) rfl,b,rfl,⟨_,SqT.of (s2 _ _ hb)⟩,fun D hD=>dX (K:=K) (a:=b) (xs:=us) (fun i zs σ' H3=>(∃ u,σ'=[u,some (.ref row)])/\zs.length=i/\aO H2 H3/\H3 D=some (.lst zs)/\dW n H3 zs (Dg (oE rs) (ts.take i)))
    ⟨⟨_,rfl⟩,rfl,aB hD _,aq,by rw[We,Dg]; exact .nil⟩ (fun i zs σ' H3 _ h=>⟨SqT.of (h.2.2.1 _ _ (s2 _ _ hb)),h.2.2.2.1⟩) ?_ ?_⟩
   ·rintro j zs x σ' H3 hx ⟨⟨u,rfl⟩,lz,sm,hDl,rz⟩
    obtain⟨t,ht,rt⟩:=rl.get hx
    have hj:=(List.getElem?_eq_some_iff.mp hx).1
    refine gT ?_
    refine⟨_,rfl,_,rfl,x,row,m,n,t,rs,rfl,rt.mono (s2.trans sm),Wd (mQ ht) hdl,zm (s2.trans sm) hR,hm,nd,hv,fun v' H4 s4 r4=>?_⟩
    have s7:=cI (zs':=zs++[v']) (s4 _ _ hDl)
    refine⟨s4 _ _ hDl,aD (by lia),⟨_,rfl⟩,by rw[Va,lz]; rfl,aJ (sm.trans s4) hD _,aq,?_⟩
    rw[mC,take_snoc (ren (oE rs)) ht,← mC]
    exact ((rz.mono s4).bL s7).snoc (r4.bL s7)
   ·rintro zs σ' H3 ⟨_,lz,sm,hDl,rz⟩
    rw[el,Ve] at rz
    refine⟨D,_,rfl,.inl ⟨SqL.of hDl,fun p4 h4=>?_⟩⟩
    generalize eH4:upd H3 p4 _=H4
    obtain⟨g4,e4⟩:=aL eH4 h4
    refine⟨small (by show 2<=1000; decide),fun p5 h5=>?_⟩
    refine q (.ref p5) _ (s2.trans (sm.trans (g4.trans (aB h5 _)))) ?_
    rw[ren]
    exact .any aq (aB h5 _ _ _ e4) (by lia) (by lia) (rz.mono (g4.trans (aB h5 _)))
def shN (one k:Nat):Nat:=k+if one<=k then 1 else 0
def shR (one m:Nat):List Nat:=(Vb m).map (shN one)
theorem Gy (one m:Nat):(shR one m).Nodup:=by
 unfold shR
 show ((Vb m).map (shN one)).Pairwise (·≠·)
 rw[YH]
 refine List.pairwise_lt_range.imp fun {a b} h=>?_
 unfold shN
 split <;> split <;> lia
theorem Qg {one m:Nat}:∀ x∈shR one m,x < m+1:=fun x hx=>by
 unfold shR at hx
 obtain⟨k,hk,rfl⟩:=List.mem_map.mp hx
 have:=List.mem_range.mp hk
 unfold shN
 split <;> lia
abbrev m8:Stmt:=top 40
theorem xF:aY ["_law_cell_here","_law_n","_law_one","_law_deep","_law_most"] ["_law_cell_here","_law_n","_law_one","_law_deep","_law_most"] (aG m8):=⟨rfl,rfl,rfl,by decide+kernel,rfl,by decide+kernel,by decide+kernel⟩
inductive Gq (vs:List V) (H:Hp) (Q:VK):Prop where
 | mk (c:Int) (n one:Nat) (deep:Int) (mo:Nat) (z0:vs=[.int c,.int (n:Int),.int (one:Int),.int deep,.int (mo:Int)]) (z1:1<=n) (z2:n<=12) (z3:one < n) (z4:1<=deep) (z5:deep<=3) (z6:1<=mo) (z7:mo<=9) (z8:∀ (v:V) (t:Tm) (H':Hp),aO H H'->nR n H' v t->t.dep<=3->Q v H'):Gq  vs H Q
def Le:Sp:=fun vs H Q _=>Gq  vs H Q
theorem yL (F:Fun K "_law_mine" "_law_mine" m8 f fd) (B:Bt mg)
  (D_law_term:Df P w K mg base "_law_term" 4 ["_law_cell_here","_law_n","_law_deep","_law_most"] (rM 3)) (D_law_renamed:Df P w K mg base "_law_renamed" 3 ["_law_term_here","_law_row"] (Dn K 3)):dR P w K mg base CX0 5 f fd ["_law_cell_here","_law_n","_law_one","_law_deep","_law_most"] Le:=by
 refine F.ok xF (fun vs H Q E h=>?_) (fun cdv A outer s H vs Q E hr h=>?_)
 ·obtain⟨c,n,one,deep,mo,rfl,_⟩:=h
  rfl
 ·obtain⟨c,n,one,deep,mo,rfl,n1,n12,hone,de1,de3,m1,m9,q⟩:=h
  refine⟨_,(au (bZ (aQ fO (pv 1) aA (aW _)) (aC (aM (bT (aa (bh (r:=gj K) bf (bJ (aa cC (aa cC (aa cC aj)))) (aR dh (pv 0) aA) (fun _ _=>rfl)) aj)))) aX)
 (aC (aM (bj D_law_renamed hr (aa (bj D_law_term hr (aa (pv 0) (aa (aR qF (pv 1) aA) (aa (pv 3) (aa (pv 4) aj))))) (aa (bG (L:=["_law_k"]) (F:=["_law_one"]) (cap:=[2]) rfl (bD rfl rfl (by kernel_rfl)) (cg rfl B.range_ (aa (aR qF (pv 1) aA) aj)) (fun _ _ _ _ _=>(aF (i:=0) (bu (by decide+kernel)) rfl (U8 rfl))) (fun _ _ _ _ _=>bF) (fun _ _ _ _ _=>(aR bU (pv 0) (bR (r:=Qu) vP rfl B.int_ Bc (aa (cU qU (pv 0) (pv 1) (aW _)) aj))))) aj)))))),?_⟩
  refine⟨_,rfl,rfl,_,rfl,?_⟩
  refine zU (fun c1=>?_) (fun c1=>?_)
  ·have en:n=1:=by
    have:=of_decide_eq_true c1
    cases n with
    | zero=>lia
    | succ n=>injection this with z; lia
   subst en
   refine⟨small (by show 3<=1000; decide),fun p7 h7=>?_⟩
   generalize eH7:upd H p7 _=H7
   obtain⟨g7,e7⟩:=aL eH7 h7
   have fin:∀ p8 (x:Wz),H7 p8=none->(x = "free"∨x = "never")->Q (.ref p8) (upd H7 p8 (.tup [.str x])):=fun p8 x h8 hx=>by
    rcases hx with rfl | rfl
    ·exact q (.ref p8) .free _ (g7.trans (aB h8 _)) (.free aq) (by decide)
    ·exact q (.ref p8) .never _ (g7.trans (aB h8 _)) (.never aq) (by decide)
   refine⟨_,rfl,_,_,rfl,rfl,(by show (0:Int) < 3; decide),?_⟩
   have u1:0<=c % 3:=Wn _ (by lia)
   have u2:c % 3 < 3:=V6 _ (by lia)
   rcases (show c % 3=0∨c % 3=1∨c % 3=2 by lia) with z | z | z
   ·exact⟨p7,_,_,_,rfl,rfl,SqL.of e7,by rw[z]; rfl,small (by show 1<=1000; decide),fun p8 h8=>fin p8 _ h8 (.inl rfl)⟩
   ·exact⟨p7,_,_,_,rfl,rfl,SqL.of e7,by rw[z]; rfl,small (by show 1<=1000; decide),fun p8 h8=>fin p8 _ h8 (.inr rfl)⟩
   ·exact⟨p7,_,_,_,rfl,rfl,SqL.of e7,by rw[z]; rfl,small (by show 1<=1000; decide),fun p8 h8=>fin p8 _ h8 (.inl rfl)⟩
  ·have en:n≠1:=fun z=>c1 (decide_eq_true (by rw[z]; rfl))
   obtain⟨m,rfl⟩:∃ m,n=m+1:=⟨n - 1,by lia⟩
   have em:((m+1:Nat):Int) - 1=(m:Int):=by lia
   have et:(((m+1:Nat):Int) - 1).toNat=m:=by lia
   refine⟨_,rfl,_,rfl,_,_,rfl,rfl,_,rfl,_,rfl,c,m,deep,(mo:Int),(by show[V.int c,V.int (((m+1:Nat):Int) - 1),V.int deep,V.int (mo:Int)]=_; rw[em]),by lia,by lia,de1,by lia,by lia,by lia,fun v t H1 s1 rt td=>?_⟩
   refine⟨_,rfl,_,_,rfl,rfl,_,rfl,by lia,by lia,fun D hD=>dI (lo:=0) (n:=(((m+1:Nat):Int) - 1).toNat) (fun i zs σ' H2=>(∃ u,σ'=[u,some (.int (one:Int))])/\zs=((Vb i).map (shN one)).map vN/\aO H1 H2/\H2 D=some (.lst zs))
    ⟨⟨_,rfl⟩,rfl,aB hD _,aq⟩ (fun i zs σ' H2 _ h=>h.2.2.2) ?_ ?_⟩
   ·rintro i zs σ' H2 hi ⟨⟨u,rfl⟩,e1,sm,hDl⟩
    refine gT ?_
    refine⟨_,rfl,_,rfl,_,rfl,_,_,rfl,rfl,.inr ⟨_,rfl,_,_,rfl,rfl,hDl,?_,⟨_,rfl⟩,?_,aJ sm hD _,aq⟩⟩
    ·rw[e1,Uy,Uy,Vt]
     exact aD (by lia)
    ·rw[e1,Yv,U3,U3]
     congr 1
     show[V.int (0+(i:Int)+_)]=[V.int ((shN one i:Nat):Int)]
     congr 2
     unfold shN
     by_cases hc:one<=i
     ·rw[decide_eq_true (by lia),if_pos hc]
      simp
     ·rw[decide_eq_false (by lia),if_neg hc]
      simp
   ·rintro zs σ' H2 ⟨_,e1,sm,hDl⟩
    rw[et] at e1
    refine⟨v,D,m,m+1,t,shR one m,rfl,rt.mono sm,by lia,SqL.of (by rw[hDl,e1]; rfl),by unfold shR; rw[Uy,Vt]; lia,Gy one m,Qg,fun v' H3 s3 r3=>?_⟩
    exact q v' _ H3 (s1.trans (sm.trans s3)) r3 (by rw[Ii]; lia)
theorem GZ {x:Int}:∀ (ns acc:List Int),x∈ns.foldl Xb acc ↔ x∈acc∨x∈ns
 | [],acc=>by simp
 | n::r,acc=>by
  rw[Wi,GZ r _]
  unfold Xb
  split
  ·rename_i h
   obtain⟨y,hy,ey⟩:=List.any_eq_true.mp h
   have e:=eq_of_beq ey
   constructor
   ·rintro (h | h)
    ·exact .inl h
    ·exact .inr (U9 _ h)
   ·rintro (h | h)
    ·exact .inl h
    ·rcases List.mem_cons.mp h with rfl | h
     ·exact .inl (by rw[← e]; exact hy)
     ·exact .inr h
  ·constructor
   ·rintro (h | h)
    ·rcases List.mem_append.mp h with h | h
     ·exact .inl h
     ·exact .inr (by rw[List.mem_singleton.mp h]; exact UW)
    ·exact .inr (U9 _ h)
   ·rintro (h | h)
    ·exact .inl (aa0 _ h)
    ·rcases List.mem_cons.mp h with rfl | h
     ·exact .inl (Ww _ UW)
     ·exact .inr h
def okS (ms:List Int):Prop:=ms≠[]/\ms.length<=9/\ms.Pairwise (· < ·)/\∀ x∈ms,1<=x/\x<=9
theorem QC {ns ms:List Int} (p:ms.Perm (ddI ns)) (so:ms.Pairwise (·<=·)) (h0:ns≠[]) (h9:ns.length<=9) (hb:∀ x∈ns,1<=x/\x<=9):okS ms:=by
 rw[Fx] at p
 have mem:∀ x,x∈ms ↔ x∈ns:=fun x=>by rw[p.mem_iff,GZ]; simp
 refine⟨fun z=>?_,?_,?_,fun x hx=>hb x ((mem x).mp hx)⟩
 ·cases ns with
  | nil=>exact h0 rfl
  | cons a r =>
   have:=(mem a).mpr UW
   rw[z] at this
   cases this
 ·have:=HN ns []
  rw[p.length_eq]
  simp at this
  lia
 ·have nd:ms.Nodup:=p.nodup_iff.mpr (Bb ns [] (by simp))
  exact (so.and nd).imp fun h=>by lia
theorem QH {ns ms:List Int} (p:ms.Perm (ddI ns)) {x:Int} (h:x∈ms):x∈ns:=by
 rw[Fx] at p
 have:=p.mem_iff.mp h
 rw[GZ] at this
 simpa using this
theorem Eu {ms:List Int} (h:okS ms) {p:Pl} (e:p.map (·.1)=ms) (hd:∀ x∈p,x.2.dep<=4):okP p:=by
 refine⟨fun z=>?_,?_,by rw[e]; exact h.2.2.1,fun x hx=>?_⟩
 ·subst z
  exact h.1 e.symm
 ·have:=congrArg aap e
  rw[Uy] at this
  have:=h.2.1
  lia
 ·have hm:x.1∈ms:=by rw[← e]; exact List.mem_map.mpr ⟨x,hx,rfl⟩
  exact⟨(h.2.2.2 _ hm).1,(h.2.2.2 _ hm).2,hd x hx⟩
abbrev jk:Stmt:=top 41
theorem cj:aY ["_law_cell_here","_law_n","_law_one","_law_deep","_law_most","_law_drawn","_law_steps","_law_other_one","_law_found","_law_k","_law_step"] ["_law_cell_here","_law_n","_law_one","_law_deep","_law_most"] (aG jk):=⟨rfl,rfl,rfl,by decide+kernel,rfl,by decide+kernel,by decide+kernel⟩
inductive uX (vs:List V) (H:Hp) (Q:VK):Prop where
 | mk (c:Int) (n one:Nat) (deep:Int) (mo:Nat) (z0:vs=[.int c,.int (n:Int),.int (one:Int),.int deep,.int (mo:Int)]) (z1:1<=n) (z2:n<=12) (z3:one < n) (z4:1<=deep) (z5:deep<=3) (z6:1<=mo) (z7:mo<=9) (z8:∀ (a:Addr) (p:Pl) (H':Hp),aO H H'->Dz n H' a p->(∀ x∈p,x.1<=(mo:Int))->Q (.ref a) H'):uX  vs H Q
def Bx:Sp:=fun vs H Q _=>uX  vs H Q
theorem sS (F:Fun K "_law_pledge" "_law_pledge" jk f fd) (B:Bt mg)
  (D_law_draws:Df P w K mg base "_law_draws" 1 ["_law_cell_here","_law_parts"] (j4 K)) (D_law_under:Df P w K mg base "_law_under" 1 ["_law_cell_here","_law_k"] sV) (D_law_crowd:Df P w K mg base "_law_crowd" 1 ["_law_number","_law_n"] yS)
  (D_law_mine:Df P w K mg base "_law_mine" 5 ["_law_cell_here","_law_n","_law_one","_law_deep","_law_most"] Le):dR P w K mg base CX0 6 f fd ["_law_cell_here","_law_n","_law_one","_law_deep","_law_most"] Bx:=by
 refine F.ok cj (fun vs H Q E h=>?_) (fun cdv A outer s H vs Q E hr h=>?_)
 ·obtain⟨c,n,one,deep,mo,rfl,_⟩:=h
  rfl
 ·obtain⟨c,n,one,deep,mo,rfl,n1,n12,hone,de1,de3,m1,m9,q⟩:=h
  refine⟨_,(au (aP (i:=5) cj.nd rfl (aau rfl) (bj D_law_draws hr (aa (pv 0) (aa (bJ (aa aA (aa aA (aa aA (aa aA (aa aA (aa aA aj))))))) aj))))
 (au (aP (i:=6) cj.nd rfl (U8 rfl) (vK rfl rfl B.sorted_ rfl B.set_ (aa (bG (L:=["_law_k"]) (F:=["_law_most","_law_drawn"]) (cap:=[4,5]) rfl (bD rfl rfl (by kernel_rfl)) (cg rfl B.range_ (aa (aR bU aA (aR dh (bh (r:=gj K) bf (pv 5) aA (fun _ _=>rfl)) aA)) aj)) (fun _ _ _ _ _=>(aF (i:=0) (bu (by decide+kernel)) rfl (U8 rfl))) (fun _ _ _ _ _=>bF) (fun _ _ _ _ _=>(aR bU aA (aR dh (bh (r:=gj K) bf (pv 2) (aR bU aA (pv 0)) (fun _ _=>rfl)) (pv 1))))) aj)))
 (au (bZ (aQ fO (bh (r:=gj K) bf (pv 5) aA (fun _ _=>rfl)) aA (aW _)) (au (xK (L:=["_law_step"]) (F:=[]) (cap:=[]) (j:=6) cj.nd rfl (U8 rfl) rfl (bD rfl rfl (by kernel_rfl)) (gO (bj D_law_crowd hr (aa (bh (r:=gj K) bf (pv 5) aA (fun _ _=>rfl)) (aa (pv 4) aj)))) (fun _ _ _ _ _=>(aF (i:=0) (bu (by decide+kernel)) rfl (U8 rfl))) (fun _ _ _ _ _=>bF) (fun _ _ _ _ _=>(aR bU aA (pv 0))))
 (aC (bZ (aQ (r:=Rv K) (HJ hr.eQ) (pv 6) (bJ aj) (aW _)) (aC (aP (i:=6) cj.nd rfl (U8 rfl) (bJ (aa (pv 4) aj)))) aX))) aX)
 (au (bZ (PW.pt (wG (aQ fO (bh (r:=gj K) bf (pv 5) aA (fun _ _=>rfl)) aA (aW _)) (pH (aQ wH (pv 1) aA (aW _))))) (aC (aM (bR (r:=gG K) bK rfl B.tuple_ cR (aa (bG (L:=["_law_step"]) (F:=["_law_n","_law_one"]) (cap:=[1,2]) rfl (bD rfl rfl (by kernel_rfl)) (dm (pv 6)) (fun _ _ _ _ _=>(aF (i:=0) (bu (by decide+kernel)) rfl (U8 rfl))) (fun _ _ _ _ _=>bF) (fun _ _ _ _ _=>(bT (aa (pv 0) (aa (bT (aa cC (aa (aR dh (aR bU (pv 2) aA) (pv 1)) (aa (pv 0) aj)))) aj))))) aj)))) aX)
 (au (bZ (PW.pt (wG (aQ fO (bh (r:=gj K) bf (pv 5) aA (fun _ _=>rfl)) aA (aW _)) (pH (aQ wH (pv 1) aA (aW _))))) (au (aP (i:=7) cj.nd rfl (aau rfl) (aR dh (aR bU (aR bU (pv 2) aA) (aR dh (bh (r:=gj K) bf (pv 5) aA (fun _ _=>rfl)) (aR qF (pv 1) aA))) (pv 1)))
 (aC (aM (bR (r:=gG K) bK rfl B.tuple_ cR (aa (bG (L:=["_law_step"]) (F:=["_law_other_one"]) (cap:=[7]) rfl (bD rfl rfl (by kernel_rfl)) (dm (pv 6)) (fun _ _ _ _ _=>(aF (i:=0) (bu (by decide+kernel)) rfl (U8 rfl))) (fun _ _ _ _ _=>bF) (fun _ _ _ _ _=>(bT (aa (pv 0) (aa (bT (aa cC (aa (pv 1) (aa (aH (qC rfl) rfl B.max_ pM (aa aA (aa (aR qF (pv 0) aA) aj))) aj)))) aj))))) aj))))) aX)
 (au (aP (i:=8) cj.nd rfl (U8 rfl) (bJ aj))
 (au (di Vx rfl (M7 rfl B.enumerate_ (aa (pv 6) aj)) (dD (K:=K) 2 rfl rfl (bw (aF (i:=9) cj.nd rfl (U8 rfl)) (bw (aF (i:=10) cj.nd rfl (U8 rfl)) dF))) (aC (eG (kZ VH VN VM cB (pv 8) (aa (bT (aa (pv 10) (aa (bj D_law_mine hr (aa (bj D_law_under hr (aa (pv 0) (aa (pv 9) aj))) (aa (pv 1) (aa (pv 2) (aa (pv 3) (aa (pv 4) aj)))))) aj))) aj)))))
 (aC (aM (bR (r:=gG K) bK rfl B.tuple_ cR (aa (pv 8) aj))))))))))),?_⟩
  refine⟨_,rfl,small (by show 6<=1000; decide),fun p1 h1=>?_⟩
  generalize eH1:upd H p1 _=H1
  obtain⟨g1,e1⟩:=aL eH1 h1
  refine⟨c,p1,[7,9,9,9,12,512],rfl,SqL.of e1,by decide,by decide,fun p2 h2=>?_⟩
  generalize eH2:upd H1 p2 _=H2
  obtain⟨g2,e2⟩:=aL eH2 h2
  have hps:∀ q∈([7,9,9,9,12,512]:List Int),0 < q:=by decide
  obtain⟨d0,k0,b0⟩:=cG (c:=mZ c) (i:=0) hps rfl
  obtain⟨d1,k1,b1⟩:=cG (c:=mZ c) (i:=1) hps rfl
  obtain⟨d2,k2,b2⟩:=cG (c:=mZ c) (i:=2) hps rfl
  obtain⟨d3,k3,b3⟩:=cG (c:=mZ c) (i:=3) hps rfl
  obtain⟨d4,k4,b4⟩:=cG (c:=mZ c) (i:=4) hps rfl
  obtain⟨d5,k5,b5⟩:=cG (c:=mZ c) (i:=5) hps rfl
  have a0:=aK (eN k0)
  have a4:=aK (eN k4)
  have a5:=aK (eN k5)
  have kk:∀ k:Nat,k < 3->∃ d,(xn (mZ c) [7,9,9,9,12,512])[1+k]? = some d:=fun k hk=>by
   match k,hk with
   | 0,_=>exact⟨_,k1⟩
   | 1,_=>exact⟨_,k2⟩
   | 2,_=>exact⟨_,k3⟩
  change _=some (HO.lst ((xn (mZ c) [7,9,9,9,12,512]).map V.int)) at e2
  generalize xn (mZ c) [7,9,9,9,12,512]=ds at *
  have gH:aO H H2:=g1.trans g2
  have u1:0<=d0 % 3:=Wn _ (by lia)
  have u2:d0 % 3 < 3:=V6 _ (by lia)
  refine⟨_,rfl,p2,_,_,_,rfl,rfl,SqL.of e2,a0,_,_,rfl,rfl,(by show (0:Int) < 3; decide),_,_,rfl,rfl,_,rfl,by lia,by lia,fun D hD=>dI (lo:=0) (n:=(1+d0 % 3).toNat)
   (fun i zs σ' H3=>(∃ u,σ'=[u,some (.int (mo:Int)),some (.ref p2)])/\aO H2 H3/\H3 D=some (.lst zs)/\∃ ns:List Int,zs=ns.map V.int/\ns.length=i/\∀ x∈ns,1<=x/\x<=(mo:Int))
   ⟨⟨_,rfl⟩,aB hD _,aq,[],rfl,rfl,by simp⟩ (fun i zs σ' H3 _ h=>h.2.2.1) ?_ ?_⟩
  ·rintro i zs σ' H3 hi ⟨⟨u,rfl⟩,s3,eD,ns,e3,ln,hb⟩
   obtain⟨dk,hk⟩:=kk i (by lia)
   have ak:atI (ds.map V.int) (1+(0+(i:Int)))=some (.int dk):=by
    rw[show (1:Int)+(0+(i:Int))=((1+i:Nat):Int) by lia]
    exact aK (eN hk)
   have v1:0<=dk % (mo:Int):=Wn _ (by lia)
   have v2:dk % (mo:Int) < (mo:Int):=V6 _ (by lia)
   refine gT ?_
   refine⟨_,rfl,_,rfl,_,_,rfl,rfl,p2,_,_,_,rfl,rfl,SqL.of (s3 _ _ e2),ak,_,rfl,_,_,rfl,rfl,(by show (0:Int) < (mo:Int); lia),_,_,rfl,rfl,eD,?_,⟨_,rfl⟩,aJ s3 hD _,aq,ns++[1+dk % (mo:Int)],?_,?_,?_⟩
   ·rw[e3,Uy]
    exact aD (by lia)
   ·rw[e3,U3]
    rfl
   ·rw[Va,ln]
    rfl
   ·intro x hx
    rcases List.mem_append.mp hx with h | h
    ·exact hb x h
    ·rw[List.mem_singleton.mp h]
     lia
  ·rintro zs σ' H3 ⟨_,s3,eD,ns,e3,ln,hb⟩
   have ln3:1<=ns.length/\ns.length<=3:=by lia
   have dl:(ddI ns).length<=ns.length:=by
    have:=HN ns []
    rw[Fx]
    simpa using this
   refine⟨D,ns,rfl,SqL.of (by rw[eD,e3]),by lia,by lia,fun ms pm so l hl=>?_⟩
   have okm:okS ms:=QC pm so (fun z=>by rw[z] at ln3; simp at ln3) (by lia) fun x hx=>⟨(hb x hx).1,by have:=(hb x hx).2; lia⟩
   have okM:∀ x∈ms,x<=(mo:Int):=fun x hx=>(hb x (QH pm hx)).2
   generalize eH4:upd H3 l _=H4
   obtain⟨g4,e4⟩:=aL eH4 hl
   have s4:aO H2 H4:=s3.trans g4
   refine gN ?_
   dsimp only
   show Jg (Jr _ _ _) _ _ _ _
   refine jT (fun σ H5=>∃ (l:Addr) (ms:List Int),σ=[some (.int c),some (.int (n:Int)),some (.int (one:Int)),some (.int deep),some (.int (mo:Int)),some (.ref p2),some (.ref l),none,none,none,none]/\aO H2 H5/\H5 l=some (.lst (ms.map V.int))/\okS ms/\∀ x∈ms,x<=(mo:Int)) ?rest (fun _ R=>?_)
   case rest =>
    clear e4 hl so pm okm okM eH4 g4 s4 H4 l ms
    rintro σ H5 ⟨l,ms,rfl,s5,e5,okm,okM⟩
    have l9:=okm.2.1
    have e2':=s5 _ _ e2
    have sH5:aO H H5:=gH.trans s5
    show Jg (Jr _ _ _) _ _ _ _
    refine jT (fun σ H6=>σ=[some (.int c),some (.int (n:Int)),some (.int (one:Int)),some (.int deep),some (.int (mo:Int)),some (.ref p2),some (.ref l),none,none,none,none]/\H5=H6) ?rest2 (fun _ R=>?_)
    case rest2 =>
     rintro σ H6 ⟨rfl,rfl⟩
     show Jg (Jr _ _ _) _ _ _ _
     refine jT (fun σ H6=>σ=[some (.int c),some (.int (n:Int)),some (.int (one:Int)),some (.int deep),some (.int (mo:Int)),some (.ref p2),some (.ref l),none,none,none,none]/\H5=H6) ?rest3 (fun _ R=>?_)
     case rest3 =>
      rintro σ H6 ⟨rfl,rfl⟩
      refine⟨small (Vr _),fun r hr0=>?_⟩
      generalize eH6:upd H5 r _=H6
      obtain⟨g6,e6⟩:=aL eH6 hr0
      refine⟨_,rfl,l,_,rfl,g6 _ _ e5,Ju (K:=K) (a:=l) (xs:=ms.map V.int) (fun i σ H7=>(∃ u v,σ=[some (.int c),some (.int (n:Int)),some (.int (one:Int)),some (.int deep),some (.int (mo:Int)),some (.ref p2),some (.ref l),none,some (.ref r),u,v])/\aO H5 H7 ∧
       ∃ (vs:List V) (p:Pl),H7 r=some (.lst vs)/\fX n H7 vs p/\p.map (·.1)=ms.take i/\∀ x∈p,x.2.dep<=4) ⟨⟨_,_,rfl⟩,g6,[],[],e6,.nil,rfl,by simp⟩ (fun i σ H7 _ h=>SqL.of (h.2.1 _ _ e5)) ?_ ?_⟩
      ·rintro i x pp σ H7 hx hpp ⟨⟨u,v,rfl⟩,s7,vs,p,er,rp,ep,hd⟩
       obtain⟨st,hst,rfl⟩:=int_at hx
       have hi:i < ms.length:=(List.getElem?_eq_some_iff.mp hst).1
       generalize eH8:upd H7 pp _=H8
       obtain⟨g8,e8⟩:=aL eH8 hpp
       refine⟨pp,_,rfl,SqT.of e8,rfl,_,_,rfl,_,_,rfl,rfl,?_⟩
       refine⟨_,rfl,.inl ⟨rfl,_,SqL.of (g8 _ _ er)⟩,_,rfl,_,rfl,_,rfl,c,i,rfl,by lia,_,rfl,_,rfl,_,rfl,_,rfl,OJ c i,n,one,deep,mo,rfl,n1,n12,hone,de1,de3,m1,m9,fun v' t H9 s9 rt td=>?_⟩
       refine⟨small (by show 2<=1000; decide),fun pa ha=>?_⟩
       generalize eHa:upd H9 pa _=Ha
       obtain⟨ga,ea⟩:=aL eHa ha
       have s8a:aO H7 Ha:=g8.trans (s9.trans ga)
       have lv:=rp.length
       have lp:p.length<=ms.length:=by
        have:=congrArg aap ep
        rw[Uy,Vc] at this
        lia
       have tk:=cI (zs':=vs++[.ref pa]) (s8a _ _ er)
       refine⟨r,_,_,rfl,rfl,s8a _ _ er,aD (by lia),⟨_,_,rfl⟩,aJ (s7.trans s8a) hr0 _,vs++[.ref pa],p++[(st,t)],aq,?_,?_,?_⟩
       ·exact fX.snoc (tk _ _ ea) ((rt.mono ga).bL tk) ((rp.bL fun a xs q=>s8a a _ q).bL tk)
       ·rw[U3,ep,Vz,hst]
        rfl
       ·intro x hx
        rcases List.mem_append.mp hx with h | h
        ·exact hd x h
        ·rw[List.mem_singleton.mp h]
         show t.dep<=4
         lia
      ·rintro σ H7 ⟨⟨u,v,rfl⟩,s7,vs,p,er,rp,ep,hd⟩
       rw[Uy,Ve] at ep
       refine⟨_,rfl,r,_,rfl,.inl ⟨SqL.of er,fun pa ha=>?_⟩⟩
       have sn:=aB ha (.tup vs)
       exact q pa p _ (sH5.trans (s7.trans sn)) ⟨Eu okm ep hd,vs,aq,rp.bL fun a xs q=>sn a _ q⟩ fun x hx=>okM _ (ep▸List.mem_map_of_mem hx)
     ·refine ux (decide (V.int d0=V.int 5)) (decide (1 < (n:Int))) (fun H6=>H5=H6) (fun Q' hQ=>?_) (fun H6 e Q' hQ=>?_) (fun H6 e c1 c2=>?_) (fun H6 e _=>R _ _ ⟨rfl,e⟩)
      ·exact⟨_,rfl,p2,_,_,_,rfl,rfl,SqL.of e2',a0,rfl,_,rfl,hQ _ rfl⟩
      ·subst e
       exact⟨_,rfl,_,_,rfl,rfl,_,rfl,hQ⟩
      ·subst e
       have c2:1 < (n:Int):=of_decide_eq_true c2
       have w1:0<=((one:Int)+1+d4 % ((n:Int) - 1)) % (n:Int):=Wn _ (by lia)
       have w2:((one:Int)+1+d4 % ((n:Int) - 1)) % (n:Int) < (n:Int):=V6 _ (by lia)
       obtain⟨j,hj⟩:=Yo w1
       refine⟨_,rfl,_,_,rfl,rfl,_,rfl,p2,_,_,_,rfl,rfl,SqL.of e2',a4,_,rfl,_,_,rfl,rfl,_,_,rfl,rfl,(by show (0:Int) < (n:Int) - 1; lia),_,_,rfl,rfl,_,rfl,_,_,rfl,rfl,(by show (0:Int) < (n:Int); lia),?_⟩
       refine gN ?_
       have es:(fun i j:Int=>V.int (i % j)) ((one:Int)+1+d4 % ((n:Int) - 1)) (n:Int)=V.int (j:Int):=by
        show V.int (((one:Int)+1+d4 % ((n:Int) - 1)) % (n:Int))=_
        rw[hj]
       refine⟨_,rfl,l,rfl,⟨_,SqL.of e5⟩,fun D hD=>cT (K:=K) (a:=l) (xs:=ms.map V.int) (fun i zs σ' H7=>(∃ u,σ'=[u,some (.int (j:Int))])/\aO H5 H7/\H7 D=some (.lst zs) ∧
        fX n H7 zs ((ms.take i).map fun st=>(st,Tm.gives j (if st - 1 > 1 then st - 1 else 1)))) ⟨⟨none,?_⟩,aB hD _,aq,.nil⟩ (fun i zs σ' H7 _ h=>⟨SqL.of (h.2.1 _ _ e5),h.2.2.1⟩) ?_ ?_⟩
       ·rw[← es]
        rfl
       ·rintro i zs x σ' H7 hx ⟨⟨u,rfl⟩,s7,er,rp⟩
        obtain⟨st,hst,rfl⟩:=int_at hx
        have hb:=okm.2.2.2 st (Vl hst)
        have lv:=rp.length
        rw[Uy,Vc] at lv
        refine gT ?_
        refine⟨_,rfl,_,rfl,_,rfl,_,_,rfl,rfl,_,_,rfl,small (by show 3<=1000; decide),fun pa ha=>?_⟩
        generalize eHa:upd H7 pa _=Ha
        obtain⟨ga,ea⟩:=aL eHa ha
        refine⟨small (by show 2<=1000; decide),fun pb hb'=>?_⟩
        generalize eHb:upd Ha pb _=Hb
        obtain⟨gb,eb⟩:=aL eHb hb'
        have s7b:aO H7 Hb:=ga.trans gb
        have tk:=cI (zs':=zs++[.ref pb]) (s7b _ _ er)
        refine⟨s7b _ _ er,aD (by lia),⟨_,rfl⟩,aJ (s7.trans s7b) hD _,aq,?_⟩
        rw[take_snoc (fun st=>(st,Tm.gives j (if st - 1 > 1 then st - 1 else 1))) hst]
        exact fX.snoc (tk _ _ eb) (.gives (tk _ _ (gb _ _ ea)) (by lia) (by split <;> lia) (by split <;> lia)) ((rp.bL fun a xs q=>s7b a _ q).bL tk)
       ·rintro zs σ' H7 ⟨_,s7,er,rp⟩
        rw[Uy,Ve] at rp
        refine⟨D,_,rfl,.inl ⟨SqL.of er,fun pa ha=>?_⟩⟩
        have sn:=aB ha (.tup zs)
        refine q pa _ _ (sH5.trans (s7.trans sn)) ⟨Eu okm ?_ ?_,zs,aq,rp.bL fun a xs q=>sn a _ q⟩ fun x hx=>by obtain⟨st,hs,rfl⟩:=List.mem_map.mp hx; exact okM st hs
        ·rw[XQ]
         exact List.map_id' ms
        ·intro x hx
         obtain⟨st,_,rfl⟩:=List.mem_map.mp hx
         show (1:Nat)<=4
         decide
    ·refine ux (decide (V.int d0=V.int 6)) (decide (1 < (n:Int))) (fun H6=>H5=H6) (fun Q' hQ=>?_) (fun H6 e Q' hQ=>?_) (fun H6 e c1 c2=>?_) (fun H6 e _=>R _ _ ⟨rfl,e⟩)
     ·exact⟨_,rfl,p2,_,_,_,rfl,rfl,SqL.of e2',a0,rfl,_,rfl,hQ _ rfl⟩
     ·subst e
      exact⟨_,rfl,_,_,rfl,rfl,_,rfl,hQ⟩
     ·subst e
      have w1:0<=((one:Int)+1) % (n:Int):=Wn _ (by lia)
      have w2:((one:Int)+1) % (n:Int) < (n:Int):=V6 _ (by lia)
      obtain⟨j,hj⟩:=Yo w1
      refine⟨_,rfl,l,rfl,⟨_,SqL.of e5⟩,fun D hD=>cT (K:=K) (a:=l) (xs:=ms.map V.int) (fun i zs σ' H7=>(∃ u,σ'=[u,some (.int (n:Int)),some (.int (one:Int))])/\aO H5 H7/\H7 D=some (.lst zs) ∧
       fX n H7 zs ((ms.take i).map fun st=>(st,Tm.gives j st))) ⟨⟨_,rfl⟩,aB hD _,aq,.nil⟩ (fun i zs σ' H7 _ h=>⟨SqL.of (h.2.1 _ _ e5),h.2.2.1⟩) ?_ ?_⟩
      ·rintro i zs x σ' H7 hx ⟨⟨u,rfl⟩,s7,er,rp⟩
       obtain⟨st,hst,rfl⟩:=int_at hx
       have hb:=okm.2.2.2 st (Vl hst)
       have lv:=rp.length
       rw[Uy,Vc] at lv
       refine gT ?_
       refine⟨_,rfl,_,rfl,_,_,rfl,rfl,_,rfl,_,_,rfl,rfl,(by show (0:Int) < (n:Int); lia),_,rfl,small (by show 3<=1000; decide),fun pa ha=>?_⟩
       generalize eHa:upd H7 pa _=Ha
       obtain⟨ga,ea⟩:=aL eHa ha
       have ea:Ha pa=some (.tup [.str "gives",vN j,.int st]):=by
        rw[ea]
        show some (HO.tup [V.str "gives",V.int (((one:Int)+1) % (n:Int)),V.int st])=some (HO.tup [V.str "gives",V.int (j:Int),V.int st])
        rw[hj]
       refine⟨small (by show 2<=1000; decide),fun pb hb'=>?_⟩
       generalize eHb:upd Ha pb _=Hb
       obtain⟨gb,eb⟩:=aL eHb hb'
       have s7b:aO H7 Hb:=ga.trans gb
       have tk:=cI (zs':=zs++[.ref pb]) (s7b _ _ er)
       refine⟨s7b _ _ er,aD (by lia),⟨_,rfl⟩,aJ (s7.trans s7b) hD _,aq,?_⟩
       rw[take_snoc (fun st=>(st,Tm.gives j st)) hst]
       exact fX.snoc (tk _ _ eb) (.gives (tk _ _ (gb _ _ ea)) (by lia) (by lia) (by lia)) ((rp.bL fun a xs q=>s7b a _ q).bL tk)
      ·rintro zs σ' H7 ⟨_,s7,er,rp⟩
       rw[Uy,Ve] at rp
       refine⟨D,_,rfl,.inl ⟨SqL.of er,fun pa ha=>?_⟩⟩
       have sn:=aB ha (.tup zs)
       refine q pa _ _ (sH5.trans (s7.trans sn)) ⟨Eu okm ?_ ?_,zs,aq,rp.bL fun a xs q=>sn a _ q⟩ fun x hx=>by obtain⟨st,hs,rfl⟩:=List.mem_map.mp hx; exact okM st hs
       ·rw[XQ]
        exact List.map_id' ms
       ·intro x hx
        obtain⟨st,_,rfl⟩:=List.mem_map.mp hx
        show (1:Nat)<=4
        decide
   ·refine⟨_,rfl,p2,_,_,_,rfl,rfl,SqL.of (s4 _ _ e2),a0,rfl,_,rfl,?_⟩
    refine zU (fun _=>?_) (fun _=>R _ _ ⟨l,ms,rfl,s4,e4,okm,okM⟩)
    refine⟨_,rfl,p2,_,_,_,rfl,rfl,SqL.of (s4 _ _ e2),a5,_,rfl,d5,mo,rfl,by lia,fun cs r3 H5 hc hp hl5 s5 f5 e5=>?_⟩
    refine⟨r3,rfl,⟨_,SqT.of e5⟩,fun D5 hD5=>dX (K:=K) (a:=r3) (xs:=cs.map vN) (fun i zs σ' H6=>(∃ u,σ'=[u])/\zs=((cs.take i).map fun j:Nat=>(1:Int)+(j:Int)).map V.int/\aO H5 H6/\H6 D5=some (.lst zs))
     ⟨⟨_,rfl⟩,rfl,aB hD5 _,aq⟩ (fun i zs σ' H6 _ h=>⟨SqT.of (h.2.2.1 _ _ e5),h.2.2.2⟩) ?_ ?_⟩
    ·rintro i zs x σ' H6 hx ⟨⟨u,rfl⟩,e6,s6,eD6⟩
     obtain⟨j,hj,rfl⟩:=qJ hx
     refine gT ?_
     refine⟨_,rfl,_,_,rfl,rfl,eD6,?_,⟨_,rfl⟩,?_,aJ s6 hD5 _,aq⟩
     ·rw[e6,Uy,Uy,Vc]
      exact aD (by lia)
     ·rw[e6,take_snoc (fun j:Nat=>(1:Int)+(j:Int)) hj,U3]
      rfl
    ·rintro zs σ' H6 ⟨_,e6,s6,eD6⟩
     rw[Uy,Ve] at e6
     rw[e6] at eD6
     have s46:aO H2 H6:=s4.trans (s5.trans s6)
     refine⟨_,rfl,small (by show 0<=1000; decide),fun p7 h7=>?_⟩
     have g7:aO H6 (upd H6 p7 (.lst [])):=aB h7 _
     refine⟨D5,p7,_,rfl,rfl,SqL.of (g7 _ _ eD6),SqL.of aq,_,rfl,?_⟩
     refine zU (fun ce=>?_) (fun ce=>?_)
     ·refine⟨_,rfl,small (by show 1<=1000; decide),fun p8 h8=>?_⟩
      refine R _ _ ⟨p8,[(mo:Int)],rfl,s46.trans (g7.trans (aB h8 _)),aq,⟨by simp,by show 1<=9; decide,by simp,?_⟩,fun x hx=>by rw[List.mem_singleton.mp hx]; exact V9 _⟩
      intro x hx
      rw[List.mem_singleton.mp hx]
      lia
     ·refine R _ _ ⟨D5,cs.map fun j:Nat=>(1:Int)+(j:Int),rfl,s46.trans g7,g7 _ _ eD6,⟨?_,?_,?_,?_⟩,fun x hx=>by obtain⟨j,hj,rfl⟩:=List.mem_map.mp hx; have:=hc j hj; lia⟩
      ·intro z
       apply ce
       rw[z]
       rfl
      ·rw[Uy]
       lia
      ·rw[YH]
       exact hp.imp fun h=>by lia
      ·intro x hx
       obtain⟨j,hj,rfl⟩:=List.mem_map.mp hx
       have:=hc j hj
       lia
abbrev mV:Stmt:=top 42
theorem gA:aY ["_law_script","_law_start","_law_n","_law_most","_law_book_here","_law_one","_law_cell_here","_law_many"] ["_law_script","_law_start","_law_n","_law_most"] (aG mV):=⟨rfl,rfl,rfl,by decide+kernel,rfl,by decide+kernel,by decide+kernel⟩
def okM (mo:Nat) (bk:List (List Pl)):Prop:=∀ ps∈bk,∀ p∈ps,∀ x∈p,x.1<=(mo:Int)
inductive Ja (K:Vi) (vs:List V) (H:Hp) (Q:VK):Prop where
 | mk (a:Addr) (ss:List Int) (st n mo:Nat) (z0:vs=[.ref a,.int (st:Int),.int (n:Int),.int (mo:Int)]) (z1:SqL K H a (ss.map V.int)) (z2:st<=100) (z3:1<=n) (z4:n<=12) (z5:1<=mo) (z6:mo<=9) (z7:∀ (b:Addr) (bk:List (List Pl)) (H':Hp),aO H H'->oA n H' b bk->bk.length=n->okM mo bk->Q (.ref b) H'):Ja K vs H Q
def Mq (K:Vi):Sp:=fun vs H Q _=>Ja K vs H Q
theorem zj (F:Fun K "_law_book" "_law_book" mV f fd) (B:Bt mg)
  (D_law_cell:Df P w K mg base "_law_cell" 1 ["_law_script","_law_k"] (zB K)) (D_law_draws:Df P w K mg base "_law_draws" 1 ["_law_cell_here","_law_parts"] (j4 K)) (D_law_under:Df P w K mg base "_law_under" 1 ["_law_cell_here","_law_k"] sV)
  (D_law_pledge:Df P w K mg base "_law_pledge" 6 ["_law_cell_here","_law_n","_law_one","_law_deep","_law_most"] Bx):dR P w K mg base CX0 7 f fd ["_law_script","_law_start","_law_n","_law_most"] (Mq K):=by
 refine F.ok gA (fun vs H Q E h=>?_) (fun cdv A outer s H vs Q E hr h=>?_)
 ·obtain⟨a,ss,st,n,mo,rfl,_⟩:=h
  rfl
 ·obtain⟨a,ss,st,n,mo,rfl,hS,hst,n1,n12,m1,m9,q⟩:=h
  refine⟨_,(au (aP (i:=4) gA.nd rfl (U8 rfl) (bJ aj))
 (au (di Vx rfl (cg rfl B.range_ (aa (pv 2) aj)) (aF (i:=5) gA.nd rfl (aau rfl)) (au (aP (i:=6) gA.nd rfl (aau rfl) (aR bU (bj D_law_cell hr (aa (pv 0) (aa (aR bU (pv 1) (pv 5)) aj))) (aR fV aA (pv 5))))
 (au (aP (i:=7) gA.nd rfl (U8 rfl) (bh (r:=gj K) bf (bJ (cZ aA (cZ aA (cZ aA (cZ aA (cZ aA (cZ aA (cZ aA aj)))))))) (bh (r:=gj K) bf (bj D_law_draws hr (aa (aR bU (pv 6) aA) (aa (bJ (aa aA aj)) aj))) aA (fun _ _=>rfl)) (fun _ _=>rfl)))
 (aC (eG (kZ VH VN VM cB (pv 4) (aa (bG (L:=["_law_k"]) (F:=["_law_n","_law_one","_law_most","_law_cell_here"]) (cap:=[2,5,3,6]) rfl (bD rfl rfl (by kernel_rfl)) (cg rfl B.range_ (aa (pv 7) aj)) (fun _ _ _ _ _=>(aF (i:=0) (bu (by decide+kernel)) rfl (U8 rfl))) (fun _ _ _ _ _=>bF) (fun _ _ _ _ _=>(bj D_law_pledge hr (aa (bj D_law_under hr (aa (pv 4) (aa (aR fV aA (pv 0)) aj))) (aa (pv 1) (aa (pv 2) (aa aA (aa (pv 3) aj)))))))) aj)))))))
 (aC (aM (pv 4))))),?_⟩
  refine⟨small (Vr _),fun r hr0=>?_⟩
  generalize eH1:upd H r _=H1
  obtain⟨g1,e1⟩:=aL eH1 hr0
  have en:((n:Int)).toNat=n:=Vu n
  refine⟨_,rfl,_,rfl,by lia,by lia,eF (lo:=0) (n:=((n:Int)).toNat) (fun i σ H2=>(∃ u v x,σ=[some (.ref a),some (.int (st:Int)),some (.int (n:Int)),some (.int (mo:Int)),some (.ref r),u,v,x])/\aO H H2/\∃ (us:List V) (bk:List (List Pl)),H2 r=some (.lst us)/\fu n H2 us bk/\us.length=i/\(∀ u∈us,u≠.ref r)/\okM mo bk)
   ⟨⟨_,_,_,rfl⟩,g1,[],[],e1,.nil,rfl,by simp,fun _ z=>(by cases z)⟩ ?_ ?_⟩
  ·rintro i σ H2 hi ⟨⟨u,v,x,rfl⟩,sm,us,bk,er,rb,lu,hur,few⟩
   have hi12:i < n:=by lia
   have e1':(st:Int)+(0+(i:Int))=((st+i:Nat):Int):=by lia
   refine⟨_,rfl,_,rfl,_,rfl,_,_,rfl,rfl,a,ss,st+i,?_,zm sm hS,_,rfl,_,_,rfl,rfl,.inl ⟨by decide,by decide⟩,_,_,rfl,rfl,?_⟩
   ·show[V.ref a,V.int ((st:Int)+(0+(i:Int)))]=_
    rw[e1']
   refine gN ?_
   dsimp only
   generalize (ss.getD (st+i) 0+31 * (0+(i:Int)))=c
   refine⟨small (by show 7<=1000; decide),fun p3 h3=>?_⟩
   generalize eH3:upd H2 p3 _=H3
   obtain⟨g3,e3⟩:=aL eH3 h3
   refine⟨_,rfl,_,_,rfl,rfl,small (by show 1<=1000; decide),fun p4 h4=>?_⟩
   generalize eH4:upd H3 p4 _=H4
   obtain⟨g4,e4⟩:=aL eH4 h4
   refine⟨c+5,p4,[7],rfl,SqL.of e4,by decide,by decide,fun p5 h5=>?_⟩
   generalize eH5:upd H4 p5 _=H5
   obtain⟨g5,e5⟩:=aL eH5 h5
   obtain⟨d0,k0,b0⟩:=cG (c:=mZ (c+5)) (i:=0) (ps:=[7]) (by decide) rfl
   have a0:=aK (eN k0)
   obtain⟨many,hmany,hm2⟩:∃ many:Nat,atI ([1,1,2,1,0,1,2].map V.int) d0=some (.int (many:Int))/\many<=2:=by
    rcases (show d0=0∨d0=1∨d0=2∨d0=3∨d0=4∨d0=5∨d0=6 by lia) with z | z | z | z | z | z | z
    ·exact⟨1,by rw[z]; rfl,by decide⟩
    ·exact⟨1,by rw[z]; rfl,by decide⟩
    ·exact⟨2,by rw[z]; rfl,by decide⟩
    ·exact⟨1,by rw[z]; rfl,by decide⟩
    ·exact⟨0,by rw[z]; rfl,by decide⟩
    ·exact⟨1,by rw[z]; rfl,by decide⟩
    ·exact⟨2,by rw[z]; rfl,by decide⟩
   refine⟨p5,_,_,_,rfl,rfl,SqL.of e5,a0,p3,_,_,_,rfl,rfl,SqL.of (g5 _ _ (g4 _ _ e3)),hmany,?_⟩
   have s5:aO H2 H5:=g3.trans (g4.trans g5)
   have emn:((many:Int)).toNat=many:=Vu many
   refine⟨_,rfl,.inl ⟨rfl,_,SqL.of (s5 _ _ er)⟩,?_⟩
   refine⟨_,rfl,_,rfl,by lia,by lia,fun D hD=>dI (lo:=0) (n:=((many:Int)).toNat) (fun j zs σ' H6=>(∃ u,σ'=[u,some (.int (n:Int)),some (.int (0+(i:Int))),some (.int (mo:Int)),some (.int c)])/\aO H5 H6/\H6 D=some (.lst zs)/\∃ (as:List Addr) (ps:List Pl),zs=as.map V.ref/\as.length=j/\fZ n H6 as ps/\(∀ p∈ps,∀ x∈p,x.1<=(mo:Int)))
    ⟨⟨_,rfl⟩,aB hD _,aq,[],[],rfl,rfl,.nil,fun _ z=>(by cases z)⟩ (fun j zs σ' H6 _ h=>h.2.2.1) ?_ ?_⟩
   ·rintro j zs σ' H6 hj ⟨⟨u,rfl⟩,s6,eD,as,ps,ez,la,rp,pm⟩
    have e7:(7:Int) * (0+(j:Int))=((7 * j:Nat):Int):=by lia
    refine gT ?_
    refine⟨_,rfl,_,rfl,_,_,rfl,rfl,.inl ⟨by decide,by decide⟩,c,7 * j,?_,by lia,_,rfl,_,rfl,_,rfl,OJ c (7 * j),n,i,3,mo,?_,n1,n12,hi12,by decide,by decide,m1,m9,fun pa p H7 s7 rpl rpm=>?_⟩
    ·show[V.int c,V.int (7 * (0+(j:Int)))]=_
     rw[e7]
    ·show[V.int (OJ c (7 * j)),V.int (n:Int),V.int (0+(i:Int)),V.int 3,V.int (mo:Int)]=_
     rw[Xl]
    ·have tk:=cI (zs':=zs++[.ref pa]) (s7 _ _ eD)
     refine⟨s7 _ _ eD,?_,⟨_,rfl⟩,aJ (s6.trans s7) hD _,aq,as++[pa],ps++[p],?_,?_,?_,fun p' hp=>?_⟩
     ·rw[ez,Uy]
      exact aD (by lia)
     ·rw[ez,U3]
      rfl
     ·rw[Va,la]
      rfl
     ·exact fZ.snoc (rpl.bL tk) ((rp.bL fun a xs q=>s7 a _ q).bL tk)
     ·rcases List.mem_append.mp hp with h | h
      ·exact pm p' h
      ·rw[List.mem_singleton.mp h]
       exact rpm
   ·rintro zs σ' H6 ⟨_,s6,eD,as,ps,ez,la,rp,pm⟩
    rw[emn] at la
    rw[ez] at eD
    have s26:aO H2 H6:=s5.trans s6
    have er6:=s26 _ _ er
    have hDr:D≠r:=fun z=>by
     rw[z] at hD
     have:=s5 _ _ er
     rw[this] at hD
     cases hD
    refine⟨r,_,_,rfl,rfl,er6,aD (by lia),⟨_,_,_,rfl⟩,aJ (sm.trans s26) hr0 _,us++[.ref D],bk++[ps],aq,?_,?_,?_,?_⟩
    ·have keepL:∀ {vs:List V} {bs:List (List Pl)},(∀ u∈vs,u≠.ref r)->fu n H6 vs bs->fu n (upd H6 r (.lst (us++[.ref D]))) vs bs:=by
      intro vs bs hne hb
      induction hb with
      | nil=>exact .nil
      | cons h l p _ ih =>
       refine .cons ?_ l (p.bL (cI er6)) (ih fun u hu=>hne u (U9 _ hu))
       rw[bB (fun z=>hne _ UW (by rw[z]))]
       exact h
     have b6:=fu.snoc eD (by lia) rp (rb.mono s26)
     refine keepL (fun u hu=>?_) b6
     rcases List.mem_append.mp hu with h | h
     ·exact hur u h
     ·rw[List.mem_singleton.mp h]
      exact fun z=>hDr (by cases z; rfl)
    ·rw[Va,lu]
     rfl
    ·intro u hu
     rcases List.mem_append.mp hu with h | h
     ·exact hur u h
     ·rw[List.mem_singleton.mp h]
      exact fun z=>hDr (by cases z; rfl)
    ·intro qs hq
     rcases List.mem_append.mp hq with h | h
     ·exact few qs h
     ·rw[List.mem_singleton.mp h]
      exact pm
  ·rintro σ H2 ⟨⟨u,v,x,rfl⟩,sm,us,bk,er,rb,lu,hur,few⟩
   rw[en] at lu
   have lb:=rb.length
   exact⟨_,rfl,q r bk H2 sm ⟨us,er,rb,by lia⟩ (by lia) few⟩
theorem Sh {K:Vi} {m z:Int} {n i:Nat} {σ:St} {H:Hp} {Q:V->Hp->Prop} (hz:z=(n:Int)) (n1:1<=n) (n2:n<=1000) (hσ:σ[i]? = some (some (.int z))) (hQ:∀ r H',aO H H'->H' r=some (.tup ((Vf n m).map V.int))->Q (.ref r) H') :
  tOp (OD K) (RC (GF (tC (.int m)) RB)) (xr i) σ H Q:=by
 refine⟨small (by show 1<=1000; decide),fun pa ha=>?_⟩
 generalize eHa:upd H pa _=Ha
 obtain⟨ga,ea⟩:=aL eHa ha
 have hN:z.toNat=n:=by lia
 refine⟨_,hσ,pa,_,_,rfl,rfl,SqT.of ea,by simp,by lia,by lia,?_,fun h1=>?_,fun _ pb hb=>?_⟩
 ·show 1 * z.toNat<=sizeLine
  exact small (by lia)
 ·refine hQ pa Ha ga ?_
  rw[ea,show n=1 by lia]
  rfl
 ·refine hQ pb _ (ga.trans (aB hb _)) ?_
  rw[aq,hN,oH]
def M8 (n:Nat) (H:Hp) (b f:Addr) (bk:List (List Pl)) (fl:List Int):Prop:=1<=n/\n<=12/\oA n H b bk/\bk.length=n/\H f=some (.tup (fl.map V.int))/\fl.length=n/\∀ x∈fl,0<=x/\x<=9
theorem Ng {c:Int} {n:Nat} {m:Int} (hm:0<=m):∀ x∈QB c n m,0<=x/\x<=m:=fun x hx=>by
 obtain⟨i,hi,e⟩:=XN hx
 rw[jV] at hi
 obtain⟨v,hv,b1,b2⟩:=Jj (c:=c) hm hi
 rw[UG (by rw[jV]; exact hi),e] at hv
 cases hv
 exact⟨b1,b2⟩
abbrev j9:Stmt:=top 44
theorem dJ:aY ["_law_script","_law_drawn","_law_n","_law_most","_law_floor"] ["_law_script"] (aG j9):=⟨rfl,rfl,rfl,by decide+kernel,rfl,by decide+kernel,by decide+kernel⟩
inductive zH (K:Vi) (vs:List V) (H:Hp) (Q:VK):Prop where
 | mk (a:Addr) (ss:List Int) (z0:vs=[.ref a]) (z1:SqL K H a (ss.map V.int)) (z2:∀ (r:Addr) (n mo:Nat) (b f:Addr) (bk:List (List Pl)) (fl:List Int) (H':Hp),aO H H'->H' r=some (.tup [.int (n:Int),.int (mo:Int),.ref b,.ref f])->1<=mo->mo<=9->((mo+1) ^ n<=256/\n<=6)->(∀ x∈fl,x<=(mo:Int))->M8 n H' b f bk fl->okM mo bk->Q (.ref r) H'):zH K vs H Q
def Hs (K:Vi):Sp:=fun vs H Q _=>zH K vs H Q
theorem wW (F:Fun K "_law_scene" "_law_scene" j9 f fd) (B:Bt mg)
  (D_law_cell:Df P w K mg base "_law_cell" 1 ["_law_script","_law_k"] (zB K)) (D_law_draws:Df P w K mg base "_law_draws" 1 ["_law_cell_here","_law_parts"] (j4 K)) (D_law_giving:Df P w K mg base "_law_giving" 2 ["_law_cell_here","_law_n","_law_most"] zQ)
  (D_law_book:Df P w K mg base "_law_book" 7 ["_law_script","_law_start","_law_n","_law_most"] (Mq K)):dR P w K mg base CX0 8 f fd ["_law_script"] (Hs K):=by
 refine F.ok dJ (fun vs H Q E h=>?_) (fun cdv A outer s H vs Q E hr h=>?_)
 ·obtain⟨a,ss,rfl,_⟩:=h
  rfl
 ·obtain⟨a,ss,rfl,hS,q⟩:=h
  refine' ⟨_,?hp,?hz⟩
  case hp =>
   refine' au ?s0 ?r0
   case s0=>exact (aP (i:=1) dJ.nd rfl (U8 rfl) (bj D_law_draws hr (aa (bj D_law_cell hr (aa (pv 0) (aa aA aj))) (aa (bJ (aa aA (aa aA (aa aA aj)))) aj))))
   case r0 =>
    refine' au ?s1 ?r1
    case s1 =>
     refine' HH ?e ?t ?hs ?hw
     case hs=>rfl
     case hw=>rfl
     case t=>exact (dD (K:=K) 2 rfl rfl (bw (aF (i:=2) dJ.nd rfl (U8 rfl)) (bw (aF (i:=3) dJ.nd rfl (U8 rfl)) dF)))
     case e =>
      refine' bh (r:=gj K) ?h1 ?l ?ix ?h2
      case h1=>exact bf
      case h2=>exact fun _ _=>rfl
      case ix=>exact (bh (r:=gj K) bf (pv 1) aA (fun _ _=>rfl))
      case l =>
       refine' bJ ?l0
       case l0 =>
        refine' cZ ?a0 ?l1 ?hh
        case hh=>intro x p z; cases z
        case a0=>exact (bT (aa aA (aa aA aj)))
        case l1 =>
         refine' cZ ?a1 ?l2 ?hh
         case hh=>intro x p z; cases z
         case a1=>exact (bT (aa aA (aa aA aj)))
         case l2 =>
          refine' cZ ?a2 ?l3 ?hh
          case hh=>intro x p z; cases z
          case a2=>exact (bT (aa aA (aa aA aj)))
          case l3 =>
           refine' cZ ?a3 ?l4 ?hh
           case hh=>intro x p z; cases z
           case a3=>exact (bT (aa aA (aa aA aj)))
           case l4 =>
            refine' cZ ?a4 ?l5 ?hh
            case hh=>intro x p z; cases z
            case a4=>exact (bT (aa aA (aa aA aj)))
            case l5 =>
             refine' cZ ?a5 ?l6 ?hh
             case hh=>intro x p z; cases z
             case a5=>exact (bT (aa aA (aa aA aj)))
             case l6 =>
              refine' cZ ?a6 ?l7 ?hh
              case hh=>intro x p z; cases z
              case a6=>exact (bT (aa aA (aa aA aj)))
              case l7=>exact aj
    case r1 =>
     refine' au ?s2 ?r2
     case s2=>exact (aP (i:=4) dJ.nd rfl (U8 rfl) (bj D_law_giving hr (aa (bj D_law_cell hr (aa (pv 0) (aa aA aj))) (aa (pv 2) (aa (pv 3) aj)))))
     case r2 =>
      refine' au ?s3 ?r3
      case s3=>exact (bZ (aQ wH (bh (r:=gj K) bf (pv 1) aA (fun _ _=>rfl)) aA (aW _)) (aC (aP (i:=4) dJ.nd rfl (U8 rfl) (aR (r:=OD K) M5 (bT (aa aA aj)) (pv 2)))) aX)
      case r3 =>
       refine' aC ?s4
       case s4=>exact (aM (bT (aa (pv 2) (aa (pv 3) (aa (bj D_law_book hr (aa (pv 0) (aa aA (aa (pv 2) (aa (pv 3) aj))))) (aa (pv 4) aj))))))
  refine⟨_,rfl,a,ss,0,rfl,hS,small (by show 3<=1000; decide),fun p2 h2=>?_⟩
  generalize eH2:upd H p2 _=H2
  obtain⟨g2,e2⟩:=aL eH2 h2
  refine⟨_,p2,[7,3,12],rfl,SqL.of e2,by decide,by decide,fun p3 h3=>?_⟩
  generalize eH3:upd H2 p3 _=H3
  obtain⟨g3,e3⟩:=aL eH3 h3
  have hps:∀ q∈([7,3,12]:List Int),0 < q:=by decide
  obtain⟨d0,k0,b0⟩:=cG (c:=mZ (ss.getD 0 0)) (i:=0) hps rfl
  obtain⟨d1,k1,b1⟩:=cG (c:=mZ (ss.getD 0 0)) (i:=1) hps rfl
  have a0:=aK (eN k0)
  have a1:=aK (eN k1)
  have s3:aO H H3:=g2.trans g3
  refine⟨small (by show 2<=1000; decide),fun t1 u1=>?_⟩
  generalize eT1:upd H3 t1 _=T1
  obtain⟨gt1,et1⟩:=aL eT1 u1
  refine⟨small (by show 2<=1000; decide),fun t2 u2=>?_⟩
  generalize eT2:upd T1 t2 _=T2
  obtain⟨gt2,et2⟩:=aL eT2 u2
  refine⟨small (by show 2<=1000; decide),fun t3 u3=>?_⟩
  generalize eT3:upd T2 t3 _=T3
  obtain⟨gt3,et3⟩:=aL eT3 u3
  refine⟨small (by show 2<=1000; decide),fun t4 u4=>?_⟩
  generalize eT4:upd T3 t4 _=T4
  obtain⟨gt4,et4⟩:=aL eT4 u4
  refine⟨small (by show 2<=1000; decide),fun t5 u5=>?_⟩
  generalize eT5:upd T4 t5 _=T5
  obtain⟨gt5,et5⟩:=aL eT5 u5
  refine⟨small (by show 2<=1000; decide),fun t6 u6=>?_⟩
  generalize eT6:upd T5 t6 _=T6
  obtain⟨gt6,et6⟩:=aL eT6 u6
  refine⟨small (by show 2<=1000; decide),fun t7 u7=>?_⟩
  generalize eT7:upd T6 t7 _=T7
  obtain⟨gt7,et7⟩:=aL eT7 u7
  refine⟨small (by show 7<=1000; decide),fun t8 u8=>?_⟩
  generalize eT8:upd T7 t8 _=T8
  obtain⟨gt8,et8⟩:=aL eT8 u8
  have w7:aO T7 T8:=gt8
  have w6:aO T6 T8:=gt7.trans w7
  have w5:aO T5 T8:=gt6.trans w6
  have w4:aO T4 T8:=gt5.trans w5
  have w3:aO T3 T8:=gt4.trans w4
  have w2:aO T2 T8:=gt3.trans w3
  have w1:aO T1 T8:=gt2.trans w2
  have w0:aO H3 T8:=gt1.trans w1
  obtain⟨tt,n,mo,htt,ett,n1,n12,m1,m9,hpow⟩:∃ (tt:Addr) (n mo:Nat),atI [V.ref t1,.ref t2,.ref t3,.ref t4,.ref t5,.ref t6,.ref t7] d0=some (.ref tt)/\T8 tt=some (.tup [.int (n:Int),.int (mo:Int)])/\1<=n/\n<=12/\1<=mo/\mo<=9/\(mo+1) ^ n<=256/\n<=6:=by
   rcases (show d0=0∨d0=1∨d0=2∨d0=3∨d0=4∨d0=5∨d0=6 by lia) with z | z | z | z | z | z | z
   ·exact⟨t1,3,3,by rw[z]; rfl,w1 _ _ et1,by decide,by decide,by decide,by decide,by decide,by decide⟩
   ·exact⟨t2,2,9,by rw[z]; rfl,w2 _ _ et2,by decide,by decide,by decide,by decide,by decide,by decide⟩
   ·exact⟨t3,4,3,by rw[z]; rfl,w3 _ _ et3,by decide,by decide,by decide,by decide,by decide,by decide⟩
   ·exact⟨t4,1,9,by rw[z]; rfl,w4 _ _ et4,by decide,by decide,by decide,by decide,by decide,by decide⟩
   ·exact⟨t5,3,2,by rw[z]; rfl,w5 _ _ et5,by decide,by decide,by decide,by decide,by decide,by decide⟩
   ·exact⟨t6,5,2,by rw[z]; rfl,w6 _ _ et6,by decide,by decide,by decide,by decide,by decide,by decide⟩
   ·exact⟨t7,6,1,by rw[z]; rfl,w7 _ _ et7,by decide,by decide,by decide,by decide,by decide,by decide⟩
  have s8:aO H T8:=s3.trans w0
  refine⟨_,rfl,p3,_,_,_,rfl,rfl,SqL.of (w0 _ _ e3),a0,t8,_,_,_,rfl,rfl,SqL.of et8,htt,tt,_,rfl,SqT.of ett,rfl,_,_,rfl,_,_,rfl,rfl,?_⟩
  refine⟨_,rfl,a,ss,1,rfl,zm s8 hS,_,rfl,_,rfl,ss.getD 1 0,n,(mo:Int),rfl,by lia,by lia,by lia,fun r4 H4 s4 _ e4=>?_⟩
  refine gN ?_
  dsimp only
  show Jg (Jr _ _ _) _ _ _ _
  have s4':aO H H4:=s8.trans s4
  refine jT (fun σ H5=>∃ (f:Addr) (fl:List Int),σ=[some (.ref a),some (.ref p3),some (.int (n:Int)),some (.int (mo:Int)),some (.ref f)]/\aO H H5/\H5 f=some (.tup (fl.map V.int))/\fl.length=n/\∀ x∈fl,0<=x/\x<=(mo:Int)) ?rest (fun _ R=>?_)
  case rest =>
   rintro σ H5 ⟨f,fl,rfl,s5,e5,lf,hf⟩
   refine⟨_,rfl,_,rfl,_,rfl,_,rfl,_,rfl,a,ss,2,n,mo,rfl,zm s5 hS,by decide,n1,n12,m1,m9,fun b bk H6 s6 rb lb few=>?_⟩
   refine⟨_,rfl,small (by show 4<=1000; decide),fun p7 h7=>?_⟩
   have sn:=aB h7 (.tup [.int (n:Int),.int (mo:Int),.ref b,.ref f])
   exact q p7 n mo b f bk fl _ (s5.trans (s6.trans sn)) aq m1 m9 hpow (fun x hx=>(hf x hx).2) ⟨n1,n12,rb.mono sn,lb,sn _ _ (s6 _ _ e5),lf,fun x hx=>⟨(hf x hx).1,by have:=(hf x hx).2; lia⟩⟩ few
  ·refine⟨_,rfl,p3,_,_,_,rfl,rfl,SqL.of (s4 _ _ (w0 _ _ e3)),a1,_,_,rfl,rfl,_,rfl,?_⟩
   refine zU (fun _=>?_) (fun _=>R _ _ ⟨r4,_,rfl,s4',e4,jV _ _ _,Ng (by lia)⟩)
   refine Sh (z:=(n:Int)) (n:=n) rfl n1 (by lia) rfl fun ra Ha sa ea=>?_
   refine R _ _ ⟨ra,Vf n 0,rfl,s4'.trans sa,ea,Wl,fun x hx=>?_⟩
   rw[(List.mem_replicate.mp hx).2]
   lia
abbrev ir:Stmt:=top 45
theorem jm:aY ["_law_script","_law_start","_law_some"] ["_law_script","_law_start"] (aG ir):=⟨rfl,rfl,rfl,by decide+kernel,rfl,by decide+kernel,by decide+kernel⟩
inductive rK (K:Vi) (vs:List V) (H:Hp) (Q:VK):Prop where
 | mk (a:Addr) (ss:List Int) (st:Int) (z0:vs=[.ref a,.int st]) (z1:SqL K H a (ss.map V.int)) (z2:ss.length<=63) (z3:∀ (r:Addr) (n mo:Nat) (b f:Addr) (bk:List (List Pl)) (fl:List Int) (H':Hp),aO H H'->H' r=some (.tup [.int (n:Int),.int (mo:Int),.ref b,.ref f])->1<=mo->mo<=9->((mo+1) ^ n<=256/\n<=6)->(∀ x∈fl,x<=(mo:Int))->M8 n H' b f bk fl->okM mo bk->Q (.ref r) H'):rK K vs H Q
def vm (K:Vi):Sp:=fun vs H Q _=>rK K vs H Q
theorem ql (F:Fun K "_law_scene_at" "_law_scene_at" ir f fd) (B:Bt mg)
  (D_law_scene:Df P w K mg base "_law_scene" 8 ["_law_script"] (Hs K)):dR P w K mg base CX0 9 f fd ["_law_script","_law_start"] (vm K):=by
 refine F.ok jm (fun vs H Q E h=>?_) (fun cdv A outer s H vs Q E hr h=>?_)
 ·obtain⟨a,ss,st,rfl,_⟩:=h
  rfl
 ·obtain⟨a,ss,st,rfl,hS,ls,q⟩:=h
  refine⟨_,(au (aP (i:=2) jm.nd rfl (U8 rfl) (jb (r:=RP K) Gi (pv 0) (jn (pv 1)) (jn (aR bU (pv 1) aA))))
 (au (eG (kZ VH VN VM cB (pv 2) (aa (pv 1) aj)))
 (aC (aM (bj D_law_scene hr (aa (pv 2) aj)))))),?_⟩
  refine⟨_,rfl,_,rfl,_,rfl,_,rfl,_,_,rfl,rfl,_,rfl,a,_,rfl,hS,fun p1 h1=>?_⟩
  obtain⟨ks,ek,lk⟩:=Br ss (some st) (some (st+9))
  rw[show xm (ss.map V.int) (some st) (some (st+9))=ks.map V.int from ek]
  generalize eH1:upd H p1 _=H1
  obtain⟨g1,e1⟩:=aL eH1 h1
  refine⟨_,rfl,.inl ⟨rfl,_,SqL.of e1⟩,_,rfl,p1,_,_,rfl,rfl,e1,aD (by rw[Uy]; lia),?_⟩
  have ec:ks.map V.int++[V.int st]=(ks++[st]).map V.int:=by rw[U3]; rfl
  rw[ec]
  have s2:aO H (upd H1 p1 (.lst ((ks++[st]).map V.int))):=aJ g1 h1 _
  exact⟨_,rfl,p1,ks++[st],rfl,SqL.of aq,fun r n mo b f bk fl H' s' er m1 m9 hp hm sc om=>q r n mo b f bk fl H' (s2.trans s') er m1 m9 hp hm sc om⟩
def Copied (H:Hp) (zs us:List V) (Hc:Hp):Prop:=∀ (j:Nat) (u:V),zs[j]? = some u->∃ (c cc:Addr) (as:List Addr),u = .ref c/\H c=some (.lst (as.map V.ref))/\us[j]? = some (.ref cc)/\Hc cc=some (.lst (as.map V.ref))
theorem yd {as bs:List Addr} (h:as.map V.ref=bs.map V.ref):as=bs:=by
 induction as generalizing bs with
 | nil=>cases bs with
  | nil=>rfl
  | cons b bs=>cases h
 | cons a as ih=>cases bs with
  | nil=>cases h
  | cons b bs =>
   rw[Vw,Vw] at h
   injection h with h1 h2
   injection h1 with h1
   rw[h1,ih h2]
theorem Dj {n:Nat} {H Hc:Hp} (sm:aO Hc H) {us:List V} {bk:List (List Pl)} (rb:fu n Hc us bk):∀ {zs:List V},zs.length=us.length->Copied H zs us Hc->fu n H zs bk:=by
 induction rb with
 | nil =>
  intro zs hl _
  cases zs with
  | nil=>exact .nil
  | cons z zs=>simp at hl
 | @cons c as ps us bs h l p r ih =>
  intro zs hl cp
  cases zs with
  | nil=>simp at hl
  | cons z zs =>
   obtain⟨c0,cc0,as0,rfl,h2,h3,h4⟩:=cp 0 z rfl
   cases (show some (V.ref c)=some (V.ref cc0) from h3)
   rw[h] at h4
   have e:as=as0:=yd (by injection h4 with h4; injection h4)
   subst e
   exact .cons h2 l (p.bL fun a xs q=>sm a _ q) (ih (by simpa using hl) fun j u hj=>by
    obtain⟨c1,cc1,as1,e1,e2,e3,e4⟩:=cp (j+1) u (by simpa using hj)
    exact⟨c1,cc1,as1,e1,e2,by simpa using e3,e4⟩)
theorem Copied.step {H2 Hc:Hp} {zs us:List V} {D l cc:Addr} {as:List Addr} {i:Nat} (cp:Copied H2 zs us Hc) (lz:zs.length=i) (hx:us[i]? = some (.ref cc)) (hcc:Hc cc=some (.lst (as.map V.ref))) (hne:∀ u∈zs,u≠.ref D) (hl:H2 l=none) (hlD:l≠D) :
  Copied (upd (upd H2 l (.lst (as.map V.ref))) D (.lst (zs++[.ref l]))) (zs++[.ref l]) us Hc:=fun j u hj=>by
 by_cases hjz:j < zs.length
 ·rw[W0 hjz] at hj
  obtain⟨c0,cc0,as0,rfl,h2,h3,h4⟩:=cp j u hj
  have hc0:c0≠D:=fun z=>hne _ (Vl hj) (by rw[z])
  exact⟨c0,cc0,as0,rfl,by rw[bB hc0]; exact aB hl _ _ _ h2,h3,h4⟩
 ·have hj':=(List.getElem?_eq_some_iff.mp hj).1
  rw[Va] at hj'
  have hj2:j < zs.length+1:=hj'
  have ej:j=zs.length:=by lia
  subst ej
  rw[Wf (U0 _),abw] at hj
  cases (show some (V.ref l)=some u from hj)
  rw[lz]
  exact⟨l,cc,as,rfl,by rw[bB hlD]; exact aq,hx,hcc⟩
theorem Copied.twin {H Hc Ht:Hp} {zs us:List V} {D b:Addr} (cp:Copied H zs us Hc) (lz:zs.length=us.length) (s1:aO H Ht) (s2:aO Hc Ht) (eD:Ht D=some (.lst zs)) (eb:Ht b=some (.lst us)):Nq Ht D b :=
 ⟨zs,us,eD,eb,lz,fun i u v hu hv=>by
  obtain⟨c0,cc0,as0,rfl,h2,h3,h4⟩:=cp i u hu
  rw[h3] at hv
  cases hv
  exact⟨c0,cc0,as0,rfl,rfl,s1 _ _ h2,s2 _ _ h4⟩⟩
inductive iU (H:Hp) (D:Addr):List V->List (List Nat)->Prop where
 | nil:iU H D [] []
 | cons {a:Addr} {c:List Nat} {us:List V} {cs:List (List Nat)}:H a=some (.lst (c.map vN))->a≠D->iU H D us cs->iU H D (.ref a::us) (c::cs)
theorem iU.go {H H':Hp} {D D':Addr} (e:∀ (a:Addr) (c:List Nat),H a=some (HO.lst (c.map vN))->a≠D->H' a=some (HO.lst (c.map vN))/\a≠D'):∀ {us:List V} {cs:List (List Nat)},iU H D us cs->iU H' D' us cs
 | _,_,.nil=>.nil
 | _,_,.cons h n r=>.cons (e _ _ h n).1 (e _ _ h n).2 (iU.go e r)
theorem iU.mono {H H':Hp} {D:Addr} (e:aO H H') {us:List V} {cs:List (List Nat)} (h:iU H D us cs):iU H' D us cs:=h.go fun a c q n=>⟨e _ _ q,n⟩
theorem iU.upd {H:Hp} {D:Addr} {o:HO} {us:List V} {cs:List (List Nat)} (h:iU H D us cs):iU (upd H D o) D us cs:=h.go fun a c q n=>⟨by rw[bB n]; exact q,n⟩
theorem iU.other {H:Hp} {D D':Addr} {us:List V} {cs:List (List Nat)} (h:iU H D us cs) (n:H D'=none):iU H D' us cs:=h.go fun a c q _=>⟨q,fun z=>by rw[z,n] at q; cases q⟩
theorem iU.length {H:Hp} {D:Addr}:∀ {us:List V} {cs:List (List Nat)},iU H D us cs->us.length=cs.length
 | _,_,.nil=>rfl
 | _,_,.cons _ _ r=>by rw[Vd,Vd,iU.length r]
theorem iU.snoc {H:Hp} {D a:Addr} {c:List Nat} (h:H a=some (.lst (c.map vN))) (n:a≠D):∀ {us:List V} {cs:List (List Nat)},iU H D us cs->iU H D (us++[.ref a]) (cs++[c])
 | _,_,.nil=>.cons h n .nil
 | _,_,.cons x y r=>.cons x y (iU.snoc h n r)
theorem iU.append {H:Hp} {D:Addr} {us':List V} {cs':List (List Nat)} (h':iU H D us' cs'):∀ {us:List V} {cs:List (List Nat)},iU H D us cs->iU H D (us++us') (cs++cs')
 | _,_,.nil=>h'
 | _,_,.cons x y r=>.cons x y (iU.append h' r)
theorem iU.at {H:Hp} {D:Addr}:∀ {us:List V} {cs:List (List Nat)} {i:Nat} {u:V},iU H D us cs->us[i]? = some u->∃ (a:Addr) (c:List Nat),u = .ref a/\cs[i]? = some c/\H a=some (.lst (c.map vN))/\a≠D
 | _,_,_,_,.nil,h=>by simp at h
 | _,_,0,_,.cons h n _,e=>by
  cases (show some _=some _ from e)
  exact⟨_,_,rfl,rfl,h,n⟩
 | _,_,i+1,_,.cons _ _ r,e=>by
  obtain⟨a,c,h1,h2,h3⟩:=iU.at (i:=i) r (by simpa using e)
  exact⟨a,c,h1,by simpa using h2,h3⟩
theorem cQ:∀ n,(bx n).length=2 ^ n
 | 0=>rfl
 | n+1=>by rw[bx,Va,Uy,cQ n,Nat.pow_succ]; lia
theorem iB:∀ n,∀ c∈bx n,(∀ i∈c,i < n)/\c.Pairwise (· < ·)
 | 0,c,h=>by
  rw[bx,X5] at h
  subst h
  exact⟨by simp,ZF⟩
 | n+1,c,h=>by
  rw[bx,abW] at h
  rcases h with h | h
  ·obtain⟨h1,h2⟩:=iB n c h
   exact⟨fun i hi=>V7 (h1 i hi),h2⟩
  ·obtain⟨d,hd,rfl⟩:=List.mem_map.mp h
   obtain⟨h1,h2⟩:=iB n d hd
   refine⟨fun i hi=>?_,?_⟩
   ·rcases List.mem_append.mp hi with z | z
    ·exact V7 (h1 i z)
    ·rw[List.mem_singleton.mp z]
     exact Xu n
   ·rw[aaY]
    refine⟨h2,by simp,fun a ha b hb=>?_⟩
    rw[List.mem_singleton.mp hb]
    exact h1 a ha
theorem iC:∀ {c:List Nat} {m n:Nat},c.Pairwise (· < ·)->(∀ i∈c,m<=i/\i < n)->c.length<=n - m
 | [],m,n,_,_=>Vr _
 | a::c,m,n,hp,h=>by
  rw[W9] at hp
  have h1:=h a UW
  have:=iC (c:=c) (m:=a+1) (n:=n) hp.2 fun i hi=>⟨hp.1 i hi,(h i (U9 _ hi)).2⟩
  rw[Vd]
  lia
def bO (n:Nat):List (List Nat):=(crS n).map fun i=>(bx n).getD i []
theorem Fv:∀ n,n<=6->∀ i∈crS n,i < 2 ^ n:=by decide+kernel
theorem zr:∀ n,1<=n->n<=6->(crS n).length=2 ^ n:=by
 intro n h1 h6
 match n,h1,h6 with
 | 1,_,_=>rfl
 | 2,_,_=>rfl
 | 3,_,_=>rfl
 | 4,_,_=>rfl
 | 5,_,_=>rfl
 | 6,_,_=>rfl
theorem fG {n:Nat} (h1:1<=n) (h6:n<=6):(bO n).length=2 ^ n:=by rw[bO,Uy]; exact zr n h1 h6
theorem iQ {n:Nat} (h6:n<=6):∀ c∈bO n,(∀ i∈c,i < n)/\c.Pairwise (· < ·):=fun c hc=>by
 obtain⟨i,hi,rfl⟩:=List.mem_map.mp hc
 have hl:=Fv n h6 i hi
 rw[← cQ n] at hl
 refine iB n _ ?_
 rw[UL,UG hl]
 exact Wu hl
theorem KQ {n:Nat} (h1:1<=n) (h6:n<=6):∃ o:Nat->Nat->Bool,(∀ i j,i < 2 ^ n->j < 2 ^ n->o i j=crO n i j)/\(((my o (2 ^ n)).run ⟨Vb (2 ^ n),#[],7⟩).map fun r=>r.2.a)=some (crS n):=by
 match n,h1,h6 with
 | 1,_,_=>exact⟨_,fun i j hi hj=>(Uq i hi j hj).symm,TX⟩
 | 2,_,_=>exact⟨_,fun i j hi hj=>(TF i hi j hj).symm,Tw⟩
 | 3,_,_=>exact⟨_,fun i j hi hj=>(Us i hi j hj).symm,Ug⟩
 | 4,_,_=>exact⟨_,fun i j hi hj=>(Tq i hi j hj).symm,TJ⟩
 | 5,_,_=>exact⟨_,fun i j hi hj=>(Uc i hi j hj).symm,Tr⟩
 | 6,_,_=>exact⟨_,fun i j hi hj=>(Uu i hi j hj).symm,TY⟩
theorem vG:∀ a b:List Nat,HT.lexLt (a.map fun i:Nat=>(i:Int)) (b.map fun i:Nat=>(i:Int))=Rz a b
 | [],[]=>rfl
 | [],_::_=>rfl
 | _::_,[]=>rfl
 | a::l,b::r=>by
  rw[Vw,Vw,HT.gm,Rz,vG l r]
  by_cases e:a=b
  ·rw[if_pos e,if_pos (by rw[e])]
  ·rw[if_neg e,if_neg (by lia)]
   by_cases z:a < b
   ·rw[decide_eq_true z,decide_eq_true (by lia)]
   ·rw[decide_eq_false z,decide_eq_false (by lia)]
def iN (c:List Nat):List Int:=c.map fun i:Nat=>(i:Int)
theorem Iu (a b:List Nat):wL (iN a) (iN b)=RG a b:=by
 unfold wL RG iN
 rw[Uy,Uy,vG]
def PR (H:Hp) (us:List V) (cs:List (List Nat)) (ps:List (Addr × Addr)):Prop:=∀ (j:Nat) (q:Addr × Addr),ps[j]? = some q->∃ c:List Nat,us[j]? = some (.ref q.2)/\cs[j]? = some c/\H q.1=some (.tup [.int (c.length:Int),.ref q.2])
theorem PR.go {H H':Hp} {us:List V} {cs:List (List Nat)} {ps:List (Addr × Addr)} (h:PR H us cs ps) (e:∀ a xs,H a=some (HO.tup xs)->H' a=some (HO.tup xs)):PR H' us cs ps:=fun j q hq=>by
 obtain⟨c,h1,h2,h3⟩:=h j q hq
 exact⟨c,h1,h2,e _ _ h3⟩
theorem NZ {α:Type} {xs:List α} {x y:α} {j:Nat} (h:(xs++[x])[j]? = some y):xs[j]? = some y∨(j=xs.length/\y=x):=by
 by_cases hj:j < xs.length
 ·rw[W0 hj] at h
  exact .inl h
 ·have hl:=(List.getElem?_eq_some_iff.mp h).1
  rw[Va,List.length_singleton] at hl
  have e:j=xs.length:=by lia
  subst e
  rw[Wf (U0 _),abw] at h
  exact .inr ⟨rfl,(VF h).symm⟩
abbrev jx:Stmt:=top 46
theorem gh:aY ["_law_n","_law_found","_law_one"] ["_law_n"] (aG jx):=⟨rfl,rfl,rfl,by decide+kernel,rfl,by decide+kernel,by decide+kernel⟩
inductive wR (vs:List V) (H:Hp) (Q:VK):Prop where
 | mk (n:Nat) (z0:vs=[.int (n:Int)]) (z1:1<=n) (z2:n<=6) (z3:∀ (r:Addr) (us:List V) (H':Hp),aO H H'->H' r=some (.lst us)->iU H' r us (bO n)->Q (.ref r) H'):wR  vs H Q
def zM:Sp:=fun vs H Q _=>wR  vs H Q
theorem sI (F:Fun K "_law_crowds" "_law_crowds" jx f fd) (B:Bt mg) :
  dR P w K mg base CX0 1 f fd ["_law_n"] zM:=by
 refine F.ok gh (fun vs H Q E h=>?_) (fun cdv A outer s H vs Q E hr h=>?_)
 ·obtain⟨n,rfl,_⟩:=h
  rfl
 ·obtain⟨n,rfl,h1,h6,q⟩:=h
  have e64:2 ^ n<=64:=Xz (n:=2) (by decide) h6
  refine⟨_,(au (aP (i:=1) gh.nd rfl (U8 rfl) (bJ (aa (bJ aj) aj)))
 (au (di Vx rfl (cg rfl B.range_ (aa (pv 0) aj)) (aF (i:=2) gh.nd rfl (aau rfl)) (aC (aP (i:=1) gh.nd rfl (U8 rfl) (aR rN (pv 1) (bG (L:=["_law_crowd_here"]) (F:=["_law_one"]) (cap:=[2]) rfl (bD rfl rfl (by kernel_rfl)) (dm (pv 1)) (fun _ _ _ _ _=>(aF (i:=0) (bu (by decide+kernel)) rfl (U8 rfl))) (fun _ _ _ _ _=>bF) (fun _ _ _ _ _=>(aR rN (pv 0) (bJ (aa (pv 1) aj)))))))))
 (aC (aM (bG (L:=["_law_length","_law_crowd_here"]) (F:=[]) (cap:=[]) rfl (bD rfl rfl (by kernel_rfl)) (dm (aH (r:=K7 K) (BP hr) rfl B.sorted_ (by decide+kernel) (aa (bG (L:=["_law_crowd_here"]) (F:=[]) (cap:=[]) rfl (bD rfl rfl (by kernel_rfl)) (dm (pv 1)) (fun _ _ _ _ _=>(aF (i:=0) (bu (by decide+kernel)) rfl (U8 rfl))) (fun _ _ _ _ _=>bF) (fun _ _ _ _ _=>(bT (aa (aH (r:=rm K) bI rfl B.len_ d9 (aa (pv 0) aj)) (aa (pv 0) aj))))) aj))) (fun _ _ _ _ _=>(dD (K:=K) 2 rfl rfl (bw (aF (i:=0) (bu (by decide+kernel)) rfl (U8 rfl)) (bw (aF (i:=1) (bu (by decide+kernel)) rfl (U8 rfl)) dF)))) (fun _ _ _ _ _=>bF) (fun _ _ _ _ _=>(pv 1))))))),?_⟩
  refine⟨small (by show 0<=1000; decide),fun p0 h0=>?_⟩
  generalize eH1:upd H p0 _=H1
  obtain⟨g1,e1⟩:=aL eH1 h0
  refine⟨small (by show 1<=1000; decide),fun f0 hf0=>?_⟩
  generalize eH2:upd H1 f0 _=H2
  obtain⟨g2,e2⟩:=aL eH2 hf0
  have en:((n:Int)).toNat=n:=Vu n
  refine⟨_,rfl,_,rfl,by lia,by lia,eF (lo:=0) (n:=((n:Int)).toNat) (fun i σ Hx=>∃ (fo:Addr) (us:List V) (u:Option V),σ=[some (.int (n:Int)),some (.ref fo),u]/\aO H Hx/\Hx fo=some (.lst us)/\iU Hx fo us (bx i))
   ⟨f0,[.ref p0],_,rfl,g1.trans g2,e2,.cons (c:=[]) (g2 _ _ e1) (dH e1 hf0) .nil⟩ ?_ ?_⟩
  ·rintro i σ Hx hi ⟨fo,us,u,rfl,sx,efo,lr⟩
   rw[en] at hi
   have lu:=lr.length
   rw[cQ] at lu
   have i6:i<=6:=by lia
   have e32:2 ^ i<=64:=Xz (n:=2) (by decide) i6
   refine⟨_,rfl,_,rfl,fo,rfl,⟨_,SqL.of efo⟩,fun D hD=>cT (K:=K) (a:=fo) (xs:=us) (fun j ys σ' Hy=>(∃ u,σ'=[u,some (.int (0+(i:Int)))])/\aO Hx Hy/\Hy D=some (.lst ys)/\iU Hy D ys (((bx i).take j).map (·++[i])))
    ⟨⟨_,rfl⟩,aB hD _,aq,by rw[We]; exact .nil⟩ (fun j ys σ' Hy _ h=>⟨SqL.of (h.2.1 _ _ efo),h.2.2.1⟩) ?_ ?_⟩
   ·rintro j ys x σ' Hy hx ⟨⟨u,rfl⟩,sy,eD,ly⟩
    obtain⟨a,c,rfl,hc,ha,hne⟩:=lr.at hx
    have cl:c.length<=i:=by
     have:=iC (m:=0) (iB i c (Vl hc)).2 fun k hk=>⟨Vr _,(iB i c (Vl hc)).1 k hk⟩
     lia
    have lyl:=ly.length
    rw[Uy,Vc,cQ] at lyl
    refine gT ?_
    refine⟨_,rfl,_,rfl,small (by show 1<=1000; decide),fun p hp=>?_⟩
    generalize eH4:upd Hy p _=H4
    obtain⟨g4,e4⟩:=aL eH4 hp
    refine⟨a,p,_,_,rfl,rfl,g4 _ _ (sy _ _ ha),e4,small (by rw[Uy]; show c.length+1<=1000; lia),fun p2 h2=>?_⟩
    have g5:aO H4 (upd H4 p2 (.lst (c.map vN++[.int (0+(i:Int))]))):=aB h2 _
    have n2:p2≠D:=fun z=>by rw[z,g4 _ _ eD] at h2; cases h2
    refine⟨g5 _ _ (g4 _ _ eD),aD (by lia),⟨_,rfl⟩,aJ ((sy.trans g4).trans g5) hD _,aq,?_⟩
    have:(bx i).take (j+1)=(bx i).take j++[c]:=by rw[Vz,hc]; rfl
    rw[this,U3]
    refine iU.upd (iU.snoc ?_ n2 (ly.mono (g4.trans g5)))
    rw[aq,Xl,U3]
    rfl
   ·rintro ys σ' Hy ⟨_,sy,eD,ly⟩
    have lyl:=ly.length
    rw[show us.length=(bx i).length by rw[lu,cQ],Ve] at ly lyl
    rw[Uy,cQ] at lyl
    refine⟨fo,D,us,ys,rfl,rfl,sy _ _ efo,eD,small (by lia),fun p3 h3=>?_⟩
    refine⟨p3,us++ys,_,rfl,sx.trans (sy.trans (aB h3 _)),aq,?_⟩
    exact iU.upd (((ly.other h3)).append ((lr.mono sy).other h3))
  ·rintro σ Hx ⟨fo,us,u,rfl,sx,efo,lr⟩
   rw[en] at lr
   have lu:=lr.length
   rw[cQ] at lu
   refine⟨_,rfl,fo,rfl,⟨_,SqL.of efo⟩,fun D hD=>cT (K:=K) (a:=fo) (xs:=us) (fun j ys σ' Hy=>(∃ u,σ'=[u])/\aO Hx Hy/\Hy D=some (.lst ys)/\∃ ps:List (Addr × Addr),ys=ps.map (fun q=>V.ref q.1)/\ps.length=j/\PR Hy us (bx n) ps)
    ⟨⟨_,rfl⟩,aB hD _,aq,[],rfl,rfl,fun j q h=>by simp at h⟩ (fun j ys σ' Hy _ h=>⟨SqL.of (h.2.1 _ _ efo),h.2.2.1⟩) ?_ ?_⟩
   ·rintro j ys x σ' Hy hx ⟨⟨u,rfl⟩,sy,eD,ps,rfl,lps,pr⟩
    obtain⟨a,c,rfl,hc,ha,hne⟩:=lr.at hx
    have hj:=(List.getElem?_eq_some_iff.mp hx).1
    refine gT ?_
    refine⟨_,rfl,a,_,rfl,.inl (SqL.of (sy _ _ ha)),_,rfl,small (by show 2<=1000; decide),fun p hp=>?_⟩
    generalize eH4:upd Hy p _=H4
    obtain⟨g4,e4⟩:=aL eH4 hp
    have tk:=cI (zs':=ps.map (fun q=>V.ref q.1)++[.ref p]) (g4 _ _ eD)
    refine⟨g4 _ _ eD,aD (by rw[Uy]; lia),⟨_,rfl⟩,aJ (sy.trans g4) hD _,aq,ps++[(p,a)],by rw[U3]; rfl,by rw[Va,lps]; rfl,fun k q hq=>?_⟩
    rcases NZ hq with z | ⟨z1,z2⟩
    ·exact ((pr.go fun a xs q=>g4 _ _ q).go tk) k q z
    ·subst z1 z2
     rw[lps]
     refine⟨c,hx,hc,tk _ _ ?_⟩
     rw[e4,Uy]
   ·rintro ys σ' Hy ⟨_,sy,eD,ps,rfl,lps,pr⟩
    have hps:∀ i,i < 2 ^ n->∃ q c,ps[i]? = some q/\us[i]? = some (.ref q.2)/\(bx n)[i]? = some c/\Hy q.1=some (.tup [.int (c.length:Int),.ref q.2])/\Hy q.2=some (.lst (c.map vN)):=fun i hi=>by
     have hi':i < ps.length:=by lia
     obtain⟨c,z1,z2,z3⟩:=pr i ps[i] (UG hi')
     obtain⟨a,c',e1,e2,e3,_⟩:=lr.at z1
     rw[z2] at e2
     cases e2
     cases e1
     exact⟨ps[i],c,UG hi',z1,z2,z3,sy _ _ e3⟩
    let pq:List (Addr × List Int):=(Vb (2 ^ n)).map fun i=>((ps.getD i (0,0)).1,iN ((bx n).getD i []))
    have lpq:pq.length=2 ^ n:=by show ((Vb (2 ^ n)).map _).length=_; rw[Uy,Vt]
    have atq:∀ i q,pq[i]? = some q->i < 2 ^ n/\q=((ps.getD i (0,0)).1,iN ((bx n).getD i [])):=fun i q hq=>by
     have hi:=(List.getElem?_eq_some_iff.mp hq).1
     rw[lpq] at hi
     refine⟨hi,?_⟩
     have:pq[i]? = some ((ps.getD i (0,0)).1,iN ((bx n).getD i [])):=by
      show ((Vb (2 ^ n)).map _)[i]? = _
      rw[Vj,W4 hi]
      rfl
     rw[this] at hq
     exact (VF hq).symm
    have gq:∀ i,i < 2 ^ n->pq[i]? = some ((ps.getD i (0,0)).1,iN ((bx n).getD i [])):=fun i hi=>by
     show ((Vb (2 ^ n)).map _)[i]? = _
     rw[Vj,W4 hi]
     rfl
    have eqs:ps.map (fun q=>V.ref q.1)=pq.map fun p=>V.ref p.1:=by
     refine abA fun i=>?_
     rw[Vj,Vj]
     by_cases hi:i < 2 ^ n
     ·have hi':i < ps.length:=by lia
      rw[gq i hi,UG hi',UL,UG hi']
      rfl
     ·rw[Wm (by lia),Wm (by lia)]
      rfl
    clear_value pq
    obtain⟨o,ho,he⟩:=KQ h1 h6
    have p2:2<=2 ^ n:=Wd (by decide) (Xz (n:=2) (by decide) h1)
    refine⟨D,pq,o,crS n,rfl,SqL.of (by rw[eD,eqs]),by lia,by lia,fun x hx=>?_,fun i j a b ha hb=>?_,by rw[zr n h1 h6,lpq],fun i hi=>by rw[lpq]; exact Fv n h6 i hi,by rw[lpq]; exact he,fun l hl=>?_⟩
    ·obtain⟨i,hi,ei⟩:=XN hx
     obtain⟨hi',ex⟩:=atq i x (by rw[← ei]; exact UG hi)
     obtain⟨qq,c,z1,z2,z3,z4,z5⟩:=hps i hi'
     subst ex
     rw[UL,z1,UL,z3]
     refine⟨qq.2,SqT.of ?_,SqL.of ?_⟩
     ·rw[iN,Uy]
      exact z4
     ·show Hy qq.2=some (.lst ((iN c).map V.int))
      rw[iN,← jc]
      exact z5
    ·obtain⟨i1,rfl⟩:=atq i a ha
     obtain⟨j1,rfl⟩:=atq j b hb
     rw[ho i j i1 j1]
     exact (Iu _ _).symm
    ·generalize eH5:upd Hy l _=H5
     obtain⟨g5,e5⟩:=aL eH5 hl
     have lS:=zr n h1 h6
     refine⟨l,rfl,⟨_,SqL.of e5⟩,fun D2 hD2=>cT (K:=K) (a:=l) (xs:=(crS n).map fun i=>V.ref (pq.getD i (0,[])).1) (fun j ys σ' Hz=>(∃ u v,σ'=[u,v])/\aO H5 Hz/\Hz D2=some (.lst ys)/\iU Hz D2 ys ((bO n).take j))
      ⟨⟨_,_,rfl⟩,aB hD2 _,aq,by rw[We]; exact .nil⟩ (fun j ys σ' Hz _ h=>⟨SqL.of (h.2.1 _ _ e5),h.2.2.1⟩) ?_ ?_⟩
     ·rintro j ys x σ' Hz hx ⟨⟨u,v,rfl⟩,sz,eD2,lz⟩
      rw[Vj] at hx
      cases ej:(crS n)[j]? with
      | none=>rw[ej] at hx; cases hx
      | some i =>
       rw[ej] at hx
       have hi:=Fv n h6 i (Vl ej)
       have hj:=(List.getElem?_eq_some_iff.mp ej).1
       obtain⟨qq,c,z1,z2,z3,z4,z5⟩:=hps i hi
       have ex:x = .ref qq.1:=by
        rw[← VF hx]
        show V.ref (pq.getD i (0,[])).1=_
        rw[UL,gq i hi]
        show V.ref (ps.getD i (0,0)).1=_
        rw[UL,z1]
        rfl
       subst ex
       have s5:=g5.trans sz
       have lzl:=lz.length
       rw[Vc] at lzl
       refine⟨qq.1,_,rfl,SqT.of (s5 _ _ z4),rfl,_,_,rfl,_,_,rfl,rfl,?_⟩
       refine tT ?_
       refine⟨_,rfl,eD2,aD (by lia),⟨_,_,rfl⟩,aJ sz hD2 _,aq,?_⟩
       have:(bO n).take (j+1)=(bO n).take j++[c]:=by
        rw[Vz,bO,Vj,ej]
        show _++[(bx n).getD i []]=_
        rw[UL,z3]
        rfl
       rw[this]
       refine iU.upd (iU.snoc (s5 _ _ z5) (fun z=>?_) lz)
       rw[z] at z5
       rw[g5 _ _ z5] at hD2
       cases hD2
     ·rintro ys σ' Hz ⟨_,sz,eD2,lz⟩
      rw[Uy,← show (bO n).length=(crS n).length from Uy ..,Ve] at lz
      exact q D2 ys Hz (sx.trans (sy.trans (g5.trans sz))) eD2 lz
theorem oM (x:Nat):∀ c:List Nat,inV (.int (x:Int)) (c.map vN)=decide (x∈c)
 | []=>rfl
 | y::c=>by
  have ih:=oM x c
  unfold inV at ih ⊢
  rw[Vw,Yz,ih]
  by_cases e:x=y
  ·subst e
   rw[decide_eq_true UW]
   simp [vN,eqV]
  ·have:eqV (vN y) (.int (x:Int))=false:=by
    simp [vN,eqV]
    lia
   rw[this,abb]
   exact decide_eq_decide.mpr (by simp [e])
theorem o5 (c:List Nat):(c.map vN).all sW=true:=by
 rw[List.all_map,abL]
 intro x _
 rfl
def lfF (gs hs:List Int) (c:List Nat):List Int:=(Vb gs.length).map fun i=>if i∈c then hs.getD i 0 else gs.getD i 0
abbrev sH:Stmt:=top 5
theorem FJ:aY ["giving","high","crowd"] ["giving","high","crowd"] (aG sH):=⟨rfl,rfl,rfl,by decide+kernel,rfl,by decide+kernel,by decide+kernel⟩
inductive Fi (vs:List V) (H:Hp) (Q:VK):Prop where
 | mk (a b d:Addr) (gs hs:List Int) (c:List Nat) (z0:vs=[.ref a,.ref b,.ref d]) (z1:H a=some (.tup (gs.map V.int))) (z2:H b=some (.tup (hs.map V.int))) (z3:H d=some (.lst (c.map vN))) (z4:gs.length=hs.length) (z5:gs.length<=100) (z6:∀ (r:Addr) (H':Hp),aO H H'->H' r=some (.tup ((lfF gs hs c).map V.int))->Q (.ref r) H'):Fi  vs H Q
def HY:Sp:=fun vs H Q _=>Fi  vs H Q
theorem Ir (F:Fun K "lifted" "lifted" sH f fd) (B:Bt mg) :
  dR P w K mg base CX0 1 f fd ["giving","high","crowd"] HY:=by
 refine F.ok FJ (fun vs H Q E h=>?_) (fun cdv A outer s H vs Q E hr h=>?_)
 ·obtain⟨a,b,d,gs,hs,c,rfl,_⟩:=h
  rfl
 ·obtain⟨a,b,d,gs,hs,c,rfl,ha,hb,hd,hl,l100,q⟩:=h
  refine⟨_,(aC (aM (bR (r:=gG K) bK rfl B.tuple_ cR (aa (bG (L:=["one","step"]) (F:=["crowd","high"]) (cap:=[2,1]) rfl (bD rfl rfl (by kernel_rfl)) (zG rfl B.enumerate_ (aa (pv 0) aj)) (fun _ _ _ _ _=>(dD (K:=K) 2 rfl rfl (bw (aF (i:=0) (bu (by decide+kernel)) rfl (U8 rfl)) (bw (aF (i:=1) (bu (by decide+kernel)) rfl (U8 rfl)) dF)))) (fun _ _ _ _ _=>bF) (fun _ _ _ _ _=>(zT (aQ (r:=rIn K false) iG (pv 0) (pv 2) rfl) (bh (r:=gk K) bC (pv 3) (pv 0) (fun _ _=>rfl)) (pv 1)))) aj)))),?_⟩
  refine⟨_,rfl,a,_,rfl,SqT.of ha,fun D hD=>rA (K:=K) (a:=a) (xs:=gs.map V.int) (fun i zs σ' H3=>(∃ u v,σ'=[u,v,some (.ref d),some (.ref b)])/\aO H H3/\H3 D=some (.lst zs)/\zs=((Vb i).map fun j=>if j∈c then hs.getD j 0 else gs.getD j 0).map V.int)
   ⟨⟨_,_,rfl⟩,aB hD _,aq,rfl⟩ (fun i zs σ' H3 _ h=>⟨SqT.of (h.2.1 _ _ ha),h.2.2.1⟩) ?_ ?_⟩
  ·rintro i zs x p σ' H3 hx hp ⟨⟨u,v,rfl⟩,sm,eD,rfl⟩
   obtain⟨y,hy,rfl⟩:=int_at hx
   have hin:=(List.getElem?_eq_some_iff.mp hy).1
   generalize eH4:upd H3 p _=H4
   obtain⟨g4,e4⟩:=aL eH4 hp
   have s4:aO H H4:=sm.trans g4
   refine⟨p,_,rfl,SqT.of e4,rfl,_,_,rfl,_,_,rfl,rfl,?_⟩
   refine tT ?_
   have gy:gs.getD i 0=y:=by rw[UL,hy]; rfl
   have hih:i < hs.length:=by lia
   have gi:hs.getD i 0=hs[i]:=by rw[UL,UG hih]; rfl
   refine⟨_,rfl,_,rfl,d,_,rfl,.inl (SqL.of (s4 _ _ hd)),rfl,o5 c,_,rfl,?_⟩
   have nx:∀ z:Int,z=(if i∈c then hs.getD i 0 else gs.getD i 0)->((Vb (i+1)).map fun j=>if j∈c then hs.getD j 0 else gs.getD j 0).map V.int=((Vb i).map fun j=>if j∈c then hs.getD j 0 else gs.getD j 0).map V.int++[.int z]:=fun z ez=>by
    rw[ez,Yv,U3,U3]
    rfl
   have ln:(((Vb i).map fun j=>if j∈c then hs.getD j 0 else gs.getD j 0).map V.int).length < sizeLine:=aD (by rw[Uy,Uy,Vt]; lia)
   rw[oM]
   by_cases e:i∈c
   ·rw[decide_eq_true e]
    refine ji ⟨_,rfl,_,rfl,b,_,_,_,rfl,rfl,SqT.of (s4 _ _ hb),nJ hih,g4 _ _ eD,ln,⟨_,_,rfl⟩,aJ s4 hD _,aq,?_⟩
    exact (nx _ (by rw[if_pos e,gi])).symm
   ·rw[decide_eq_false e]
    refine fU ⟨_,rfl,g4 _ _ eD,ln,⟨_,_,rfl⟩,aJ s4 hD _,aq,?_⟩
    exact (nx _ (by rw[if_neg e,gy])).symm
  ·rintro zs σ' H3 ⟨_,sm,eD,rfl⟩
   refine⟨D,_,rfl,.inl ⟨SqL.of eD,fun l hl'=>?_⟩⟩
   refine q l _ (sm.trans (aB hl' _)) ?_
   rw[aq,Uy]
   rfl
theorem aV {t u:TS} {D:Ends} {σ:St} {H:Hp} (P:St->Hp->Prop) (h2:∀ σ H,P σ H->u D σ H) (h1:∀ N:St->Hp->Prop,(∀ σ H,P σ H->N σ H)->t { D with nx:=N } σ H):Jg t u D σ H:=h1 (u D) h2
abbrev kI:Stmt:=top 54
theorem uZ:aY ["_law_cell_here","_law_many"] ["_law_cell_here","_law_many"] (aG kI):=⟨rfl,rfl,rfl,by decide+kernel,rfl,by decide+kernel,by decide+kernel⟩
inductive Ak (vs:List V) (H:Hp) (Q:VK):Prop where
 | mk (c:Int) (m:Nat) (z0:vs=[.int c,.int (m:Int)]) (z1:m<=100) (z2:∀ (r:Addr) (ns:List Int) (H':Hp),aO H H'->H r=none->ns.length=m->(∀ x∈ns,0<=x)->H' r=some (.lst (ns.map V.int))->Q (.ref r) H'):Ak  vs H Q
def FW:Sp:=fun vs H Q _=>Ak  vs H Q
theorem wu (F:Fun K "_law_picks" "_law_picks" kI f fd) (B:Bt mg)
  (D_law_draws:Df P w K mg base "_law_draws" 1 ["_law_cell_here","_law_parts"] (j4 K)):dR P w K mg base CX0 2 f fd ["_law_cell_here","_law_many"] FW:=by
 refine F.ok uZ (fun vs H Q E h=>?_) (fun cdv A outer s H vs Q E hr h=>?_)
 ·obtain⟨c,m,rfl,_⟩:=h
  rfl
 ·obtain⟨c,m,rfl,hm,q⟩:=h
  refine⟨_,(au (bZ (aQ qU (aH lV rfl B.abs_ vM (aa (pv 0) aj)) (aR pP aA aA) (aW _)) (aC (aM (bj D_law_draws hr (aa (pv 0) (aa (aR EY (bJ (aa aA aj)) (pv 1)) aj))))) aX)
 (aC (aM (bG (L:=["_law_k"]) (F:=["_law_cell_here"]) (cap:=[0]) rfl (bD rfl rfl (by kernel_rfl)) (cg rfl B.range_ (aa (pv 1) aj)) (fun _ _ _ _ _=>(aF (i:=0) (bu (by decide+kernel)) rfl (U8 rfl))) (fun _ _ _ _ _=>bF) (fun _ _ _ _ _=>(bh (r:=gj K) bf (bj D_law_draws hr (aa (aR bU (pv 1) (aR fV aA (pv 0))) (aa (bJ (aa aA aj)) aj))) aA (fun _ _=>rfl))))))),?_⟩
  have em:((m:Int)).toNat=m:=Vu m
  refine⟨_,rfl,_,rfl,_,_,rfl,rfl,⟨by decide,by decide,by decide⟩,_,_,rfl,rfl,_,rfl,?_⟩
  refine zU (fun h=>?_) (fun h=>?_)
  ·refine⟨_,rfl,small (by show 1<=1000; decide),fun p1 h1=>?_⟩
   generalize eH1:upd H p1 _=H1
   obtain⟨g1,e1⟩:=aL eH1 h1
   refine⟨_,rfl,p1,_,_,rfl,rfl,e1,by lia,by lia,small (by show 1 * ((m:Int)).toNat<=1000; lia),fun p2 h2=>?_⟩
   rw[oH,em]
   generalize eH2:upd H1 p2 _=H2
   obtain⟨g2,e2⟩:=aL eH2 h2
   refine⟨c,p2,Vf m 27720,rfl,SqL.of e2,fun x hx=>by rw[(List.mem_replicate.mp hx).2]; decide,by rw[Wl]; lia,fun r h3=>?_⟩
   have s12:aO H H2:=g1.trans g2
   refine q r _ _ (s12.trans (aB h3 _)) (s12.free h3) ?_ ?_ aq
   ·unfold wJ
    rw[fc,Wl]
   ·intro x hx
    obtain⟨i,hi,rfl⟩:=XN hx
    unfold wJ at hi ⊢
    have hi':i < m:=by rw[fc,Wl] at hi; exact hi
    obtain⟨v,e,b0,_⟩:=cG (c:=mZ c) (i:=i) (ps:=Vf m 27720) (p:=27720) (fun x hx=>by rw[(List.mem_replicate.mp hx).2]; decide) (by rw[XF,if_pos hi'])
    rw[UG hi] at e
    rw[VF e]
    exact b0
  ·refine nN ?_
   dsimp only
   refine⟨_,rfl,_,rfl,by lia,by lia,fun D hD=>dI (lo:=0) (n:=((m:Int)).toNat) (fun i zs σ' H2=>(∃ u,σ'=[u,some (.int c)])/\aO H H2/\H2 D=some (.lst zs)/\∃ ns:List Int,zs=ns.map V.int/\ns.length=i/\∀ x∈ns,0<=x)
    ⟨⟨_,rfl⟩,aB hD _,aq,[],rfl,rfl,by simp⟩ (fun i zs σ' H2 _ h=>h.2.2.1) ?_ ?_⟩
   ·rintro i zs σ' H2 hi ⟨⟨u,rfl⟩,sm,eD,ns,ez,ln,hns⟩
    refine gT ?_
    refine⟨_,rfl,_,rfl,_,_,rfl,rfl,.inl ⟨by decide,by decide⟩,_,_,rfl,rfl,small (by show 1<=1000; decide),fun p1 h1=>?_⟩
    generalize eH3:upd H2 p1 _=H3
    obtain⟨g3,e3⟩:=aL eH3 h1
    refine⟨_,p1,[27720],rfl,SqL.of e3,by decide,by decide,fun r h4=>?_⟩
    generalize eH4:upd H3 r _=H4
    obtain⟨g4,e4⟩:=aL eH4 h4
    obtain⟨d0,k0,b0⟩:=cG (c:=mZ (c+101 * (0+(i:Int)))) (i:=0) (ps:=[27720]) (by decide) rfl
    have a0:=aK (eN k0)
    have s24:aO H2 H4:=g3.trans g4
    refine⟨r,_,_,_,rfl,rfl,SqL.of e4,a0,s24 _ _ eD,aD (by rw[ez,Uy]; lia),⟨_,rfl⟩,aJ (sm.trans s24) hD _,aq,ns++[d0],?_,?_,?_⟩
    ·rw[ez,U3]
     rfl
    ·rw[Va,ln]
     rfl
    ·intro x hx
     rcases List.mem_append.mp hx with z | z
     ·exact hns x z
     ·rw[List.mem_singleton.mp z]
      exact b0.1
   ·rintro zs σ' H2 ⟨_,sm,eD,ns,ez,ln,hns⟩
    exact q D ns H2 sm hD (by lia) hns (by rw[eD,ez])
def hdF (bk:List (List Pl)) (lo g:List Int):List Int:=(Vb bk.length).map fun i=>max (lo.getD i 0) (min (g.getD i 0) (duF g 0 (bk.getD i [])))
theorem rG {bk:List (List Pl)} {lo g:List Int} {i:Nat} (h:i < bk.length):(hdF bk lo g).getD i 0=max (lo.getD i 0) (min (g.getD i 0) (duF g 0 (bk.getD i []))):=by
 unfold hdF
 rw[UL,Vj,W4 h]
 rfl
theorem iI (bk:List (List Pl)) (lo g:List Int):(hdF bk lo g).length=bk.length:=by unfold hdF; rw[Uy,Vt]
def Low (n:Nat) (fl:List Int) (bk:List (List Pl)) (lo:List Int):Prop:=okG n lo/\cX lo fl bk=lo/\∀ g,LeG (cX g fl bk) g->LeG lo g
def InS (n:Nat) (fl:List Int) (bk:List (List Pl)) (lo:List Int) (c:List Nat) (g:List Int):Prop:=okG n g/\(∀ i < n,i ∉ c->g.getD i 0=lo.getD i 0)/\LeG lo g/\LeG g (cX g fl bk)
def DG (n:Nat) (fl:List Int) (bk:List (List Pl)) (lo:List Int) (c:List Nat) (g:List Int):Prop:=InS n fl bk lo c g/\∀ w,InS n fl bk lo c w->LeG w g
section
variable {n:Nat} {fl:List Int} {bk:List (List Pl)}
theorem cJ (g:List Int):LeG g g:=fun i=>V9 _
theorem Low.uniq {lo lo':List Int} (h:Low n fl bk lo) (h':Low n fl bk lo'):lo=lo' :=
 cO (by rw[h.1.1,h'.1.1]) (h.2.2 _ (by rw[h'.2.1]; exact cJ _)) (h'.2.2 _ (by rw[h.2.1]; exact cJ _))
theorem DG.uniq {lo:List Int} {c:List Nat} {g g':List Int} (h:DG n fl bk lo c g) (h':DG n fl bk lo c g'):g=g' :=
 cO (by rw[h.1.1.1,h'.1.1.1]) (h'.2 _ h.1) (h.2 _ h'.1)
theorem fK (hb:bk.length=n) (ok:okB bk) (hf:okG n fl) {m:Nat} (st:Stops (Fd fl bk) fl m):Low n fl bk (itF (Fd fl bk) fl m) :=
 ⟨fW hb ok hf hf m,st.1,fun _ h=>pC hb ok hf h m⟩
theorem BV (hb:bk.length=n) (ok:okB bk) (hf:okG n fl) {z:List Int} (h:Lim n fl bk true fl z):Low n fl bk z:=by
 obtain⟨h1,h2,h3⟩:=h
 unfold Goes at h3
 rw[if_pos rfl] at h3
 exact⟨h1,h2,fun g hg=>h3.2.2 g ((dY hb ok hf g).trans hg) hg⟩
theorem iD (hb:bk.length=n) (ok:okB bk) (hf:okG n fl) {lo:List Int} (h:Low n fl bk lo):LeG fl lo:=by
 have:=dY hb ok hf lo
 rw[h.2.1] at this
 exact this
theorem qy (hb:bk.length=n) (ok:okB bk) {g g':List Int} (l:LeG g g') {i:Nat} (hi:i < n):duF g 0 (bk.getD i [])<=duF g' 0 (bk.getD i []):=by
 have h2:i < bk.length:=by lia
 rw[Ni h2]
 exact Bj l (ok bk[i] (Wu h2)) (V9 _)
theorem Mf (hb:bk.length=n) {lo g:List Int} (hl:okG n lo) (hg:okG n g) (l:LeG lo g):okG n (hdF bk lo g):=by
 refine pN (by rw[iI]; exact hb) fun i hi=>?_
 rw[rG (by lia)]
 have:=cH hl hi
 have:=cH hg hi
 have:=l i
 lia
theorem QR (hb:bk.length=n) {lo g:List Int} (hl:okG n lo):LeG lo (hdF bk lo g):=by
 refine jw (by rw[iI,hl.1,hb]) fun i hi=>?_
 rw[hl.1] at hi
 rw[rG (by lia)]
 lia
theorem QX (hb:bk.length=n) {lo g:List Int} (hg:okG n g) (l:LeG lo g):LeG (hdF bk lo g) g:=by
 refine jw (by rw[iI,hg.1,hb]) fun i hi=>?_
 rw[iI] at hi
 rw[rG hi]
 have:=l i
 lia
theorem zN (hb:bk.length=n) (ok:okB bk) (hf:okG n fl) {lo g w:List Int} (hlo:Low n fl bk lo) (hw:okG n w) (hk:LeG w (cX w fl bk)) (l:LeG w g):LeG w (hdF bk lo g):=by
 refine jw (by rw[iI,hw.1,hb]) fun i hi=>?_
 rw[hw.1] at hi
 rw[rG (by lia)]
 have h1:=hk i
 rw[ik hb hf w hi] at h1
 have h2:=iD hb ok hf hlo i
 have h3:=qy hb ok l hi
 have h4:=l i
 lia
theorem yJ (hb:bk.length=n) {lo x:List Int} (hl:okG n lo) (hx:okG n x) (l:LeG lo x):∀ j,okG n (itF (hdF bk lo) x j)/\LeG lo (itF (hdF bk lo) x j)/\LeG (itF (hdF bk lo) x j) x
 | 0=>⟨hx,l,cJ _⟩
 | j+1=>by
  obtain⟨h1,h2,h3⟩:=yJ hb hl hx l j
  exact⟨Mf hb hl h1 h2,QR hb hl,(QX hb h1 h2).trans h3⟩
theorem Av (hb:bk.length=n) {lo x:List Int} (hl:okG n lo) (hx:okG n x) (l:LeG lo x):∃ m,m<=9 * n/\Stops (hdF bk lo) x m:=by
 refine jz (fun g=>9 * (n:Int) - g.sum) (9 * n) (fun k=>?_) (fun k=>?_) fun k hk=>?_
 ·obtain⟨h1,_,_⟩:=yJ hb hl hx l k
  have:=sum_bound h1.2
  rw[h1.1] at this
  lia
 ·obtain⟨h1,_,_⟩:=yJ hb hl hx l k
  have:=sum_bound h1.2
  lia
 ·obtain⟨h1,h2,_⟩:=yJ hb hl hx l k
  have h3:=Mf hb hl h1 h2
  have h4:=QX hb h1 h2
  obtain⟨s1,s2⟩:=dg (g:=hdF bk lo (itF (hdF bk lo) x k)) (g':=itF (hdF bk lo) x k) (by rw[h3.1,h1.1]) fun i _=>h4 i
  have:(hdF bk lo (itF (hdF bk lo) x k)).sum≠(itF (hdF bk lo) x k).sum:=fun z=>hk (s2 z)
  show 9 * (n:Int) - (itF (hdF bk lo) x k).sum < 9 * (n:Int) - (hdF bk lo (itF (hdF bk lo) x k)).sum
  lia
theorem qe {gs hs:List Int} {c:List Nat} {i:Nat} (h:i < gs.length):(lfF gs hs c).getD i 0=if i∈c then hs.getD i 0 else gs.getD i 0:=by
 unfold lfF
 rw[UL,Vj,W4 h]
 rfl
theorem mH (gs hs:List Int) (c:List Nat):(lfF gs hs c).length=gs.length:=by unfold lfF; rw[Uy,Vt]
theorem uP {gs hs:List Int} (hg:okG n gs) (hh:okG n hs) (c:List Nat):okG n (lfF gs hs c):=by
 refine pN (by rw[mH]; exact hg.1) fun i hi=>?_
 rw[qe (by rw[hg.1]; exact hi)]
 have:=cH hg hi
 have:=cH hh hi
 split <;> lia
theorem Ot {gs hs:List Int} (hg:okG n gs) (l:LeG gs hs) (c:List Nat):LeG gs (lfF gs hs c):=by
 refine jw (by rw[mH]) fun i hi=>?_
 rw[qe hi]
 have:=l i
 split <;> lia
theorem Ad (hb:bk.length=n) (ok:okB bk) (hf:okG n fl) {lo hi:List Int} (hlo:Low n fl bk lo) (hh:okG n hi) (l:LeG lo hi) (hup:∀ w,okG n w->LeG w (cX w fl bk)->LeG w hi) {c:List Nat} {m:Nat} (st:Stops (hdF bk lo) (lfF lo hi c) m):DG n fl bk lo c (itF (hdF bk lo) (lfF lo hi c) m):=by
 obtain⟨h1,h2,h3⟩:=yJ hb hlo.1 (uP hlo.1 hh c) (Ot hlo.1 l c) m
 have fx:=st.1
 refine⟨⟨h1,fun i hi' hc=>?_,h2,?_⟩,fun w hw=>?_⟩
 ·have a:=h2 i
  have b:=h3 i
  rw[qe (by rw[hlo.1.1]; exact hi'),if_neg hc] at b
  lia
 ·refine jw (by rw[h1.1,(eU hb ok hf _).1]) fun i hi'=>?_
  rw[h1.1] at hi'
  have e:=rG (bk:=bk) (lo:=lo) (g:=itF (hdF bk lo) (lfF lo hi c) m) (i:=i) (by lia)
  rw[fx] at e
  rw[ik hb hf _ hi']
  have a:=ik hb hf lo hi'
  rw[hlo.2.1] at a
  have b:=qy hb ok h2 hi'
  lia
 ·have hwl:LeG w (lfF lo hi c):=by
   refine jw (by rw[mH,hw.1.1,hlo.1.1]) fun i hi'=>?_
   rw[hw.1.1] at hi'
   rw[qe (by rw[hlo.1.1]; exact hi')]
   split
   ·exact hup w hw.1 hw.2.2.2 i
   ·rename_i hc
    rw[hw.2.1 i hi' hc]
    exact V9 _
  have key:∀ j,LeG w (itF (hdF bk lo) (lfF lo hi c) j):=by
   intro j
   induction j with
   | zero=>exact hwl
   | succ j ih=>exact zN hb ok hf hlo hw.1 hw.2.2.2 ih
  exact key m
end
abbrev j5:Stmt:=top 25
abbrev GD:Stmt:=top 26
theorem vI:aY ["pledges","low","step","giving"] ["pledges","low","step","giving"] (aG j5):=⟨rfl,rfl,rfl,by decide+kernel,rfl,by decide+kernel,by decide+kernel⟩
theorem pF:aY ["book","sure","giving","lesser"] ["book","sure","giving"] (aG GD):=⟨rfl,rfl,rfl,by decide+kernel,rfl,by decide+kernel,by decide+kernel⟩
theorem lG {α:Type} (u:α->Int) (st:Int):∀ (ps:List α) (a b:Int),min st b<=a->(ps.map fun p=>min st (u p)).foldl max a=max a (min st ((ps.map u).foldl max b))
 | [],a,b,h=>by
  show a=max a (min st b)
  lia
 | p::ps,a,b,h=>by
  rw[Vw,Vw,Wi,Wi,lG u st ps (max a (min st (u p))) (max b (u p)) (by lia)]
  have:=(fL (ps.map u) (max b (u p))).1
  lia
inductive Ac (K:Vi) (vs:List V) (H:Hp) (Q:VK):Prop where
 | mk (c g:Addr) (n:Nat) (as:List Addr) (ps:List Pl) (ns:List Int) (lo st:Int) (z0:vs=[.ref c,.int lo,.int st,.ref g]) (z1:H c=some (.lst (as.map V.ref))) (z2:as.length<=100) (z3:fZ n H as ps) (z4:SqT K H g (ns.map V.int)) (z5:n<=ns.length) (z6:0<=lo) (z7:lo<=st) (z8:∀ H',aO H H'->Q (.int (max lo (min st (duF ns 0 ps)))) H'):Ac K vs H Q
def Ie (K:Vi):Sp:=fun vs H Q _=>Ac K vs H Q
theorem wO {k:Nat} (F:Fun K "held_step" "held_step" j5 f fd) (B:Bt mg)
  (D_owes:Df P w K mg base "owes" k ["pledge","giving"] (wQ K)):dR P w K mg base CX0 (k+1) f fd ["pledges","low","step","giving"] (Ie K):=by
 refine F.ok vI (fun vs H Q E h=>?_) (fun cdv A outer s H vs Q E hr h=>?_)
 ·obtain⟨c,g,n,as,ps,ns,lo,st,rfl,_⟩:=h
  rfl
 ·obtain⟨c,g,n,as,ps,ns,lo,st,rfl,hc,l100,rps,hg,hn,h0,hls,q⟩:=h
  have ell:=rps.length
  refine⟨_,(au (bZ (aQ fO (pv 2) (pv 1) (aW _)) (aC (aM (pv 1))) aX)
 (aC (aM (aH (r:=HS K) (lD rfl) rfl B.max_ pM (aa (aR rN (bJ (aa (pv 1) aj)) (bG (L:=["pledge"]) (F:=["step","giving"]) (cap:=[2,3]) rfl (bD rfl rfl (by kernel_rfl)) (dm (pv 0)) (fun _ _ _ _ _=>(aF (i:=0) (bu (by decide+kernel)) rfl (U8 rfl))) (fun _ _ _ _ _=>bF) (fun _ _ _ _ _=>(aH (qd rfl) rfl B.min_ Gw (aa (pv 1) (aa (bj D_owes hr (aa (pv 0) (aa (pv 2) aj))) aj)))))) aj))))),?_⟩
  refine⟨_,rfl,_,rfl,rfl,_,rfl,?_⟩
  by_cases e:st=lo
  ·subst e
   rw[decide_eq_true rfl]
   refine ji ⟨_,rfl,?_⟩
   have:=q H (aO.refl _)
   rw[show max st (min st (duF ns 0 ps))=st by lia] at this
   exact this
  ·rw[decide_eq_false (fun z=>e (by cases z; rfl))]
   refine fU ?_
   refine⟨_,rfl,small (by show 1<=1000; decide),fun p4 h4=>?_⟩
   generalize eH4:upd H p4 _=H4
   obtain⟨g4,e4⟩:=aL eH4 h4
   refine⟨_,rfl,c,rfl,⟨_,SqL.of (g4 _ _ hc)⟩,fun D2 hD2=>cT (K:=K) (a:=c) (xs:=as.map V.ref) (fun j ws σ' H5=>(∃ u,σ'=[u,some (.int st),some (.ref g)])/\ws=((ps.take j).map fun p=>min st (owF ns p)).map V.int/\aO H4 H5/\H5 D2=some (.lst ws))
    ⟨⟨_,rfl⟩,rfl,aB hD2 _,aq⟩ (fun j ws σ' H5 _ h=>⟨SqL.of (h.2.2.1 _ _ (g4 _ _ hc)),h.2.2.2⟩) ?_ ?_⟩
   ·rintro j ws x σ' H5 hx ⟨⟨u,rfl⟩,e5,s5,hD5⟩
    obtain⟨a,ha,rfl⟩:=zX hx
    obtain⟨pl,hpl,rpl⟩:=rps.get ha
    refine gT ?_
    refine⟨_,rfl,_,rfl,_,rfl,a,g,n,pl,ns,rfl,rpl.mono (g4.trans s5),fH (g4.trans s5) hg,hn,fun H6 s6=>?_⟩
    refine⟨_,_,rfl,s6 _ _ hD5,?_,⟨_,rfl⟩,?_,aJ (s5.trans s6) hD2 _,aq⟩
    ·rw[e5,Uy,Uy,Vc]
     exact aD (by lia)
    ·rw[e5,take_snoc (fun p=>min st (owF ns p)) hpl,U3]
     congr 1
     show[V.int _]=[V.int _]
     congr 2
     split <;> lia
   ·rintro ws σ' H5 ⟨_,e5,s5,hD5⟩
    rw[Uy,ell,Ve] at e5
    subst e5
    refine⟨p4,D2,_,_,rfl,rfl,s5 _ _ e4,hD5,small ?_,fun p6 h6=>?_⟩
    ·rw[Uy,Uy]
     show 1+ps.length<=1000
     lia
    generalize eH6:upd H5 p6 _=H6
    obtain⟨g6,e6⟩:=aL eH6 h6
    refine⟨p6,lo::ps.map fun p=>min st (owF ns p),rfl,SqL.of e6,by simp,?_⟩
    have:=q H6 (g4.trans (s5.trans g6))
    rw[show max lo (min st (duF ns 0 ps))=mxD 0 (lo::ps.map fun p=>min st (owF ns p)) from (lG (owF ns) st ps lo 0 (by lia)).symm] at this
    exact this
inductive Gg (vs:List V) (H:Hp) (Q:VK):Prop where
 | mk (b f g:Addr) (n:Nat) (bk:List (List Pl)) (lo x:List Int) (z0:vs=[.ref b,.ref f,.ref g]) (z1:oA n H b bk) (z2:bk.length=n) (z3:H f=some (.tup (lo.map V.int))) (z4:okG n lo) (z5:H g=some (.tup (x.map V.int))) (z6:okG n x) (z7:LeG lo x) (z8:∀ (m:Nat) (r:Addr) (H':Hp),Stops (hdF bk lo) x m->aO H H'->H' r=some (.tup ((itF (hdF bk lo) x m).map V.int))->Q (.ref r) H'):Gg  vs H Q
def Fq:Sp:=fun vs H Q _=>Gg  vs H Q
def HW (bk:List (List Pl)) (lo x:List Int) (M:Nat) (b f:Addr) (H:Hp) (m:Nat) (σ:St) (H3:Hp):Prop:=∃ (t:Nat) (la:Addr) (gv:V),t+m=M+1/\σ=[some (.ref b),some (.ref f),some gv,some (.ref la)]/\aO H H3/\H3 la=some (.tup ((itF (hdF bk lo) x t).map V.int)) ∧
 ((t=0/\gv = .non)∨∃ (ga:Addr) (j:Nat),t=j+1/\gv = .ref ga/\H3 ga=some (.tup ((itF (hdF bk lo) x j).map V.int)))
theorem Mz {k:Nat} (F:Fun K "held" "held" GD f fd) (B:Bt mg)
  (D_held_step:Df P w K mg base "held_step" k ["pledges","low","step","giving"] (Ie K)):dR P w K mg base CX0 (k+1) f fd ["book","sure","giving"] Fq:=by
 refine F.ok pF (fun vs H Q E h=>?_) (fun cdv A outer s H vs Q E hr h=>?_)
 ·obtain⟨b,f,g,n,bk,lo,x,rfl,_⟩:=h
  rfl
 ·obtain⟨b,f,g,n,bk,lo,x,rfl,hB,lb,hf,ol,hg,ox,lx,q⟩:=h
  refine⟨_,(au (aP (i:=3) pF.nd rfl (U8 rfl) (pv 2))
 (au (aP (i:=2) pF.nd rfl (aau rfl) Rg)
 (au (lZ Vx (aQ (r:=G4 K) (Jy hr.eQ) (pv 3) (pv 2) (aW _)) (au (aP (i:=2) pF.nd rfl (aau rfl) (pv 3))
 (aC (aP (i:=3) pF.nd rfl (U8 rfl) (bR (r:=gG K) bK rfl B.tuple_ cR (aa (bG (L:=["pledges","low","step"]) (F:=["giving"]) (cap:=[2]) rfl (bD rfl rfl (by kernel_rfl)) (RL rfl B.zip_ (aa (pv 0) (aa (pv 1) (aa (pv 2) aj)))) (fun _ _ _ _ _=>(dD (K:=K) 3 rfl rfl (bw (aF (i:=0) (bu (by decide+kernel)) rfl (U8 rfl)) (bw (aF (i:=1) (bu (by decide+kernel)) rfl (U8 rfl)) (bw (aF (i:=2) (bu (by decide+kernel)) rfl (U8 rfl)) dF))))) (fun _ _ _ _ _=>bF) (fun _ _ _ _ _=>(bj D_held_step hr (aa (pv 0) (aa (pv 1) (aa (pv 2) (aa (pv 3) aj))))))) aj))))))
 (aC (aM (pv 2)))))),?_⟩
  obtain⟨us0,hb,rb,l12⟩:=id hB
  have el:=rb.length
  obtain⟨M,hM,st⟩:=Av lb ol ox lx
  have io:=yJ lb ol ox lx
  refine⟨_,rfl,?_⟩
  refine⟨HW bk lo x M b f H,⟨M+1,0,g,.non,by lia,rfl,aO.refl _,hg,.inl ⟨rfl,rfl⟩⟩,?_⟩
  rintro m σ H3 ⟨t,la,gv,htm,rfl,s3,ela,hgv⟩
  obtain⟨og,olow,_⟩:=io t
  have s3b:=s3 _ _ hb
  have s3f:=s3 _ _ hf
  have key:∀ Q':VK,(1<=m->Q' (.bl true) H3)->(∀ (ga:Addr),gv = .ref ga->H3 ga=some (.tup ((itF (hdF bk lo) x M).map V.int))->Q' (.bl false) H3)->G4 K (.ref la) gv H3 Q':=fun Q' hT hF=>by
   rcases hgv with⟨ht,rfl⟩ | ⟨ga,j,ht,rfl,ega⟩
   ·exact .inr ⟨la,_,rfl,rfl,SqT.of ela,hT (by lia)⟩
   ·refine .inl ⟨la,ga,_,_,rfl,rfl,SqT.of ela,SqT.of ega,?_⟩
    subst ht
    by_cases e:itF (hdF bk lo) x (j+1)=itF (hdF bk lo) x j
    ·rw[decide_eq_true e]
     have ej:j=M:=by
      rcases WN j M with z | z
      ·exact absurd e (st.2 j z)
      ·lia
     subst ej
     exact hF ga rfl ega
    ·rw[decide_eq_false e]
     refine hT ?_
     rcases WN j M with z | z
     ·lia
     ·have:j=M:=by lia
      subst this
      exact absurd st.1 e
  refine⟨_,rfl,_,rfl,key _ (fun h1=>⟨_,rfl,ji ⟨HW bk lo x M b f H (m - 1),fun σ' H' h=>⟨m - 1,by lia,h⟩,?_⟩⟩) fun ga hga ega=>⟨_,rfl,fU ⟨_,rfl,?_⟩⟩⟩
  ·refine⟨_,rfl,_,rfl,_,rfl,_,rfl,b,f,la,_,_,_,rfl,SqL.of s3b,SqT.of s3f,SqT.of ela,fun D hD=>MF (K:=K) (a:=b) (b:=f) (c:=la) (xs:=us0) (ys:=lo.map V.int) (vs:=(itF (hdF bk lo) x t).map V.int) (by rw[Uy,ol.1]; lia) (by rw[Uy,og.1]; lia)
    (fun i zs σ' H4=>(∃ u v w,σ'=[u,v,w,some (.ref la)])/\zs=((Vb i).map fun i=>max (lo.getD i 0) (min ((itF (hdF bk lo) x t).getD i 0) (duF (itF (hdF bk lo) x t) 0 (bk.getD i [])))).map V.int/\aO H3 H4/\H4 D=some (.lst zs))
    ⟨⟨_,_,_,rfl⟩,rfl,aB hD _,aq⟩ (fun i zs σ' H4 _ h=>⟨SqL.of (h.2.2.1 _ _ s3b),SqT.of (h.2.2.1 _ _ s3f),SqT.of (h.2.2.1 _ _ ela),h.2.2.2⟩) ?_ ?_⟩
   ·rintro i zs y1 y2 y3 p σ' H4 hx hy hv hp ⟨⟨u,v,w,rfl⟩,e1,sm,hDl⟩
    obtain⟨c,as,ps,rfl,hps,hc,l100,rps⟩:=rb.get hx
    obtain⟨l1,hl1,rfl⟩:=int_at hy
    obtain⟨g1,hg1,rfl⟩:=int_at hv
    have hi:=(List.getElem?_eq_some_iff.mp hx).1
    have gl:lo.getD i 0=l1:=by rw[UL,hl1]; rfl
    have gg:(itF (hdF bk lo) x t).getD i 0=g1:=by rw[UL,hg1]; rfl
    have gb:bk.getD i []=ps:=by rw[UL,hps]; rfl
    have l01:=(cH ol (i:=i) (by lia)).1
    have llg:=olow i
    rw[gl] at l01
    rw[gl,gg] at llg
    generalize eH5:upd H4 p _=H5
    obtain⟨g5,e5⟩:=aL eH5 hp
    have s5:=sm.trans g5
    refine⟨p,_,rfl,SqT.of e5,rfl,_,_,rfl,_,_,rfl,_,_,rfl,rfl,?_⟩
    refine tT ?_
    refine⟨_,rfl,_,rfl,_,rfl,_,rfl,c,la,n,as,ps,_,l1,g1,rfl,(s3.trans s5) _ _ hc,l100,rps.bL (fun a xs q=>(s3.trans s5) a _ q),SqT.of (s5 _ _ ela),by rw[og.1]; lia,l01,llg,fun H6 s6=>?_⟩
    refine⟨s6 _ _ (g5 _ _ hDl),?_,⟨_,_,_,rfl⟩,?_,aJ (s5.trans s6) hD _,aq⟩
    ·rw[e1,Uy,Uy,Vt]
     exact aD (by lia)
    ·rw[e1,Yv,U3,U3,gb.symm,← gl,← gg]
     rfl
   ·rintro zs σ' H4 ⟨_,e1,sm,hDl⟩
    refine⟨D,_,rfl,.inl ⟨SqL.of hDl,fun l hl'=>?_⟩⟩
    refine⟨t+1,l,.ref la,by lia,rfl,s3.trans (sm.trans (aB hl' _)),?_,.inr ⟨la,t,rfl,rfl,aB hl' _ _ _ (sm _ _ ela)⟩⟩
    rw[aq,e1,el]
    rfl
  ·subst hga
   exact q M ga H3 st s3 ega
abbrev yl:Stmt:=top 27
theorem Aj:aY ["book","floor","crowd","sure"] ["book","floor","crowd"] (aG yl):=⟨rfl,rfl,rfl,by decide+kernel,rfl,by decide+kernel,by decide+kernel⟩
inductive Bm (vs:List V) (H:Hp) (Q:VK):Prop where
 | mk (b f d:Addr) (n:Nat) (bk:List (List Pl)) (fl:List Int) (c:List Nat) (z0:vs=[.ref b,.ref f,.ref d]) (z1:oA n H b bk) (z2:bk.length=n) (z3:H f=some (.tup (fl.map V.int))) (z4:okG n fl) (z5:H d=some (.lst (c.map vN))) (z6:∀ (r:Addr) (z:List Int) (H':Hp),aO H H'->H' r=some (.tup (z.map V.int))->(∀ lo,Low n fl bk lo->DG n fl bk lo c z)->Q (.ref r) H'):Bm  vs H Q
def FN:Sp:=fun vs H Q _=>Bm  vs H Q
theorem Kq {k j:Nat} (hj:j<=k+1) (F:Fun K "alone" "alone" yl f fd) (B:Bt mg)
  (D_least:Df P w K mg base "least" (k+1) ["book","floor"] (uz Py)) (D_greatest:Df P w K mg base "greatest" (k+1) ["book","floor"] (uz rfF)) (D_lifted:Df P w K mg base "lifted" 1 ["giving","high","crowd"] HY) (D_held:Df P w K mg base "held" j ["book","sure","giving"] Fq) :
  dR P w K mg base CX0 (k+2) f fd ["book","floor","crowd"] FN:=by
 refine F.ok Aj (fun vs H Q E h=>?_) (fun cdv A outer s H vs Q E hr h=>?_)
 ·obtain⟨b,f,d,n,bk,fl,c,rfl,_⟩:=h
  rfl
 ·obtain⟨b,f,d,n,bk,fl,c,rfl,hB,lb,hf,of,hd,q⟩:=h
  refine⟨_,(au (aP (i:=3) Aj.nd rfl (U8 rfl) (bj D_least hr (aa (pv 0) (aa (pv 1) aj))))
 (aC (aM (bj D_held hr (aa (pv 0) (aa (pv 3) (aa (bj D_lifted hr (aa (pv 3) (aa (bj D_greatest hr (aa (pv 0) (aa (pv 1) aj))) (aa (pv 2) aj)))) aj))))))),?_⟩
  have okb:=hB.okB
  have b12:n<=12:=by obtain⟨_,_,_,h⟩:=hB; lia
  refine⟨_,rfl,_,rfl,b,f,n,bk,fl,rfl,hB,lb,hf,of,fun m1 a1 H1 _ st1 s1 e1=>?_⟩
  have low:=fK lb okb of st1
  have clr:=fun {g:List Int} (h:LeG (cX g fl bk) g)=>pC lb okb of h m1
  generalize itF (Fd fl bk) fl m1=lo at *
  refine gN ?_
  refine⟨_,rfl,_,rfl,_,rfl,_,rfl,_,rfl,b,f,n,bk,fl,rfl,hB.mono s1,lb,s1 _ _ hf,of,fun m2 a2 H2 _ st2 s2 e2=>?_⟩
  have oh:=fW lb okb of (jH lb okb of) m2
  have kep:=fun {g:List Int} (h:LeG g (cX g fl bk))=>lO lb okb of h m2
  have fx:=st2.1
  have lh:LeG lo (itF (Fd fl bk) (rfF fl bk) m2):=clr (by rw[show cX (itF (Fd fl bk) (rfF fl bk) m2) fl bk=itF (Fd fl bk) (rfF fl bk) m2 from fx]; exact cJ _)
  generalize itF (Fd fl bk) (rfF fl bk) m2=hi at *
  have s12:=s1.trans s2
  refine⟨_,rfl,a1,a2,d,lo,hi,c,rfl,s2 _ _ e1,e2,s12 _ _ hd,by rw[low.1.1,oh.1],by rw[low.1.1]; lia,fun a3 H3 s3 e3=>?_⟩
  refine⟨b,a1,a3,n,bk,lo,_,rfl,hB.mono (s12.trans s3),lb,(s2.trans s3) _ _ e1,low.1,e3,uP low.1 oh c,Ot low.1 lh c,fun m3 r H4 st3 s4 e4=>?_⟩
  refine q r _ H4 (s12.trans (s3.trans s4)) e4 fun lo' hlo'=>?_
  rw[hlo'.uniq low]
  exact Ad lb okb of low oh lh (fun w _ hw=>kep hw) st3
abbrev j6:Stmt:=top 52
theorem vZ:aY ["_law_book_here","_law_floor"] ["_law_book_here","_law_floor"] (aG j6):=⟨rfl,rfl,rfl,by decide+kernel,rfl,by decide+kernel,by decide+kernel⟩
inductive uV (vs:List V) (H:Hp) (Q:VK):Prop where
 | mk (b f:Addr) (n:Nat) (bk:List (List Pl)) (fl:List Int) (z0:vs=[.ref b,.ref f]) (z1:oA n H b bk) (z2:bk.length=n) (z3:H f=some (.tup (fl.map V.int))) (z4:okG n fl) (z5:∀ (r:Addr) (z:List Int) (H':Hp),aO H H'->H' r=some (.tup (z.map V.int))->Low n fl bk z->Q (.ref r) H'):uV  vs H Q
def oK:Sp:=fun vs H Q _=>uV  vs H Q
theorem vp {k:Nat} (F:Fun K "_law_least" "_law_least" j6 f fd) (B:Bt mg)
  (D_law_step_by_step:Df P w K mg base "_law_step_by_step" k ["_law_book_here","_law_floor","_law_giving_here"] Ec):dR P w K mg base CX0 (k+1) f fd ["_law_book_here","_law_floor"] oK:=by
 refine F.ok vZ (fun vs H Q E h=>?_) (fun cdv A outer s H vs Q E hr h=>?_)
 ·obtain⟨b,f,n,bk,fl,rfl,_⟩:=h
  rfl
 ·obtain⟨b,f,n,bk,fl,rfl,hB,lb,hf,of,q⟩:=h
  refine⟨_,(aC (aM (bj D_law_step_by_step hr (aa (pv 0) (aa (pv 1) (aa (pv 1) aj)))))),?_⟩
  have okb:=hB.okB
  refine⟨_,rfl,_,rfl,_,rfl,b,f,f,n,bk,fl,fl,true,rfl,hB,lb,hf,of,hf,of,?_,fun r z H' s1 e1 lm=>q r z H' s1 e1 (BV lb okb of lm)⟩
  unfold Dir
  rw[if_pos rfl]
  exact dY lb okb of fl
abbrev jU:Stmt:=top 50
theorem c7:aY ["_law_book_here","_law_floor","_law_base","_law_crowd_here","_law_here","_law_turn","_law_ahead","_law_at","_law_step"] ["_law_book_here","_law_floor","_law_base","_law_crowd_here"] (aG jU):=⟨rfl,rfl,rfl,by decide+kernel,rfl,by decide+kernel,by decide+kernel⟩
def dst (fl:List Int) (bk:List (List Pl)) (g:List Int) (i:Nat):List Int:=g.set i (min (g.getD i 0) (duF g (fl.getD i 0) (bk.getD i [])))
def dsw (fl:List Int) (bk:List (List Pl)) (c:List Nat) (g:List Int):List Int:=c.foldl (dst fl bk) g
def Ov (n:Nat) (fl:List Int) (bk:List (List Pl)) (lo:List Int) (c:List Nat) (g:List Int):Prop:=okG n g/\(∀ i < n,i ∉ c->g.getD i 0=lo.getD i 0)/\∀ w,InS n fl bk lo c w->LeG w g
section
variable {n:Nat} {fl:List Int} {bk:List (List Pl)} {lo:List Int} {c:List Nat}
theorem Jt {g:List Int} {i j:Nat} {v:Int} (h:i < g.length):(g.set i v).getD j 0=if j=i then v else g.getD j 0:=by
 rw[UL,List.getElem?_set]
 by_cases e:i=j
 ·subst e
  rw[if_pos rfl,if_pos h,if_pos rfl]
  rfl
 ·rw[if_neg e,if_neg (fun z=>e z.symm),UL]
theorem uT (hb:bk.length=n) (hf:okG n fl) {g:List Int} (hg:okG n g) {i:Nat} (hi:i < n) (j:Nat):(dst fl bk g i).getD j 0=if j=i then min (g.getD i 0) ((cX g fl bk).getD i 0) else g.getD j 0:=by
 unfold dst
 rw[Jt (by rw[hg.1]; exact hi),ik hb hf g hi,oJ g (cH hf hi).1]
theorem Ei (hb:bk.length=n) (ok:okB bk) (hf:okG n fl) {g:List Int} (hg:okG n g) {i:Nat} (hi:i < n):okG n (dst fl bk g i)/\LeG (dst fl bk g i) g:=by
 have hl:(dst fl bk g i).length=n:=by unfold dst; rw[abX]; exact hg.1
 refine⟨pN hl fun j hj=>?_,mR hl hg.1 fun j hj=>?_⟩
 ·rw[uT hb hf hg hi j]
  have:=cH hg hj
  have:=cH (eU hb ok hf g) hi
  have:=cH hg hi
  split <;> lia
 ·rw[uT hb hf hg hi j]
  split
  ·rename_i e
   rw[e]
   lia
  ·exact V9 _
theorem Mg (hb:bk.length=n) (ok:okB bk) (hf:okG n fl) {g:List Int} (h:Ov n fl bk lo c g) {i:Nat} (hi:i < n) (hc:i∈c):Ov n fl bk lo c (dst fl bk g i):=by
 obtain⟨hg,h1,h2⟩:=h
 obtain⟨o1,_⟩:=Ei hb ok hf hg hi
 refine⟨o1,fun j hj hjc=>?_,fun w hw=>mR hw.1.1 o1.1 fun j hj=>?_⟩
 ·rw[uT hb hf hg hi j,if_neg (fun z=>hjc (by rw[z]; exact hc))]
  exact h1 j hj hjc
 ·rw[uT hb hf hg hi j]
  have a:=h2 w hw j
  split
  ·rename_i e
   subst e
   have b:=hw.2.2.2 j
   have d:=dw hb ok hf (h2 w hw) j
   lia
  ·exact a
theorem wg (hb:bk.length=n) (ok:okB bk) (hf:okG n fl):∀ (d:List Nat) {g:List Int},(∀ i∈d,i < n/\i∈c)->Ov n fl bk lo c g->Ov n fl bk lo c (dsw fl bk d g)/\LeG (dsw fl bk d g) g
 | [],g,_,h=>⟨h,cJ _⟩
 | i::d,g,hd,h=>by
  have hi:=hd i UW
  obtain⟨h1,h2⟩:=wg hb ok hf d (fun j hj=>hd j (U9 _ hj)) (Mg hb ok hf h hi.1 hi.2)
  exact⟨h1,h2.trans (Ei hb ok hf h.1 hi.1).2⟩
theorem GC (hb:bk.length=n) (ok:okB bk) (hf:okG n fl):∀ (d:List Nat) {g:List Int},(∀ i∈d,i < n/\i∈c)->Ov n fl bk lo c g->dsw fl bk d g=g->∀ i∈d,dst fl bk g i=g
 | [],_,_,_,_=>fun i hi=>by cases hi
 | i::d,g,hd,h,e=>by
  have hi:=hd i UW
  have hd':=fun j hj=>hd j (U9 _ hj)
  have o1:=Mg hb ok hf h hi.1 hi.2
  obtain⟨h1,h2⟩:=wg hb ok hf d hd' o1
  obtain⟨k1,k2⟩:=Ei hb ok hf h.1 hi.1
  have e':dsw fl bk d (dst fl bk g i)=g:=e
  have e1:dst fl bk g i=g:=cO (by rw[k1.1,h.1.1]) k2 (by rw[e'] at h2; exact h2)
  rw[e1] at e'
  intro j hj
  rcases List.mem_cons.mp hj with rfl | hj
  ·exact e1
  ·exact GC hb ok hf d hd' h e' j hj
theorem Nm (hb:bk.length=n) (ok:okB bk) (hf:okG n fl) (hlo:Low n fl bk lo) (hc:∀ i∈c,i < n) {g:List Int} (h:Ov n fl bk lo c g) (e:dsw fl bk c g=g):DG n fl bk lo c g:=by
 have fx:=GC hb ok hf c (fun i hi=>⟨hc i hi,hi⟩) h e
 have inlo:InS n fl bk lo c lo:=⟨hlo.1,fun _ _ _=>rfl,cJ _,by rw[hlo.2.1]; exact cJ _⟩
 have lg:=h.2.2 lo inlo
 refine⟨⟨h.1,h.2.1,lg,mR h.1.1 (eU hb ok hf g).1 fun i hi=>?_⟩,h.2.2⟩
 by_cases hic:i∈c
 ·have a:=uT hb hf h.1 hi i
  rw[fx i hic,if_pos rfl] at a
  lia
 ·have a:=dw hb ok hf lg i
  rw[hlo.2.1] at a
  rw[h.2.1 i hi hic]
  exact a
theorem wM {u v:Nat->Int}:∀ (c:List Nat),(∀ i∈c,u i<=v i)->(c.map u).sum<=(c.map v).sum/\((c.map u).sum=(c.map v).sum->∀ i∈c,u i=v i)
 | [],_=>⟨V9 _,fun _ i hi=>by cases hi⟩
 | a::c,h=>by
  obtain⟨h1,h2⟩:=wM c fun i hi=>h i (U9 _ hi)
  have h3:=h a UW
  rw[Vw,Vw,Yy,Yy]
  refine⟨by lia,fun e i hi=>?_⟩
  rcases List.mem_cons.mp hi with rfl | hi
  ·lia
  ·exact h2 (by lia) i hi
theorem nW {u:Nat->Int}:∀ (c:List Nat),(∀ i∈c,0<=u i/\u i<=9)->0<=(c.map u).sum/\(c.map u).sum<=9 * (c.length:Int)
 | [],_=>⟨V9 _,by simp⟩
 | a::c,h=>by
  have:=nW c fun i hi=>h i (U9 _ hi)
  have:=h a UW
  rw[Vw,Yy,Vd]
  lia
theorem Fj (hb:bk.length=n) (ok:okB bk) (hf:okG n fl) (hc:∀ i∈c,i < n) {x:List Int} (hx:Ov n fl bk lo c x):∀ m,Ov n fl bk lo c (itF (dsw fl bk c) x m)
 | 0=>hx
 | m+1=>(wg hb ok hf c (fun i hi=>⟨hc i hi,hi⟩) (Fj hb ok hf hc hx m)).1
theorem Ex (hb:bk.length=n) (ok:okB bk) (hf:okG n fl) (hc:∀ i∈c,i < n) {x:List Int} (hx:Ov n fl bk lo c x):∃ m,m<=9 * c.length/\Stops (dsw fl bk c) x m:=by
 have it:=Fj hb ok hf hc hx
 have bd:∀ m,0<=(c.map fun i=>(itF (dsw fl bk c) x m).getD i 0).sum/\(c.map fun i=>(itF (dsw fl bk c) x m).getD i 0).sum<=9 * (c.length:Int):=fun m=>nW c fun i hi=>cH (it m).1 (hc i hi)
 refine jz (fun g=>9 * (c.length:Int) - (c.map fun i=>g.getD i 0).sum) (9 * c.length) (fun k=>?_) (fun k=>?_) fun k hk=>?_
 ·have:=bd k
  lia
 ·have:=bd k
  lia
 ·obtain⟨h1,h2⟩:=wg hb ok hf c (fun i hi=>⟨hc i hi,hi⟩) (it k)
  obtain⟨s1,s2⟩:=wM (u:=fun i=>(dsw fl bk c (itF (dsw fl bk c) x k)).getD i 0) (v:=fun i=>(itF (dsw fl bk c) x k).getD i 0) c fun i _=>h2 i
  have:(c.map fun i=>(dsw fl bk c (itF (dsw fl bk c) x k)).getD i 0).sum≠(c.map fun i=>(itF (dsw fl bk c) x k).getD i 0).sum:=fun z=>hk (by
   refine cO (by rw[h1.1.1,(it k).1.1]) h2 (mR (it k).1.1 h1.1.1 fun i hi=>?_)
   by_cases hic:i∈c
   ·exact Int.le_of_eq (s2 z i hic).symm
   ·rw[(it k).2.1 i hi hic,h1.2.1 i hi hic]
    exact V9 _)
  show 9 * (c.length:Int) - (c.map fun i=>(itF (dsw fl bk c) x k).getD i 0).sum < 9 * (c.length:Int) - (c.map fun i=>(dsw fl bk c (itF (dsw fl bk c) x k)).getD i 0).sum
  lia
def upC (n:Nat) (lo:List Int) (c:List Nat):List Int:=(Vb n).map fun i=>if i∈c then 9 else lo.getD i 0
theorem Jc {i:Nat} (hi:i < n):(upC n lo c).getD i 0=if i∈c then 9 else lo.getD i 0:=by
 unfold upC
 rw[UL,Vj,W4 hi]
 rfl
theorem QF (hlo:okG n lo):Ov n fl bk lo c (upC n lo c):=by
 have hl:(upC n lo c).length=n:=by unfold upC; rw[Uy,Vt]
 refine⟨pN hl fun i hi=>?_,fun i hi hc=>by rw[Jc hi,if_neg hc],fun w hw=>mR hw.1.1 hl fun i hi=>?_⟩
 ·rw[Jc hi]
  have:=cH hlo hi
  split <;> lia
 ·rw[Jc hi]
  split
  ·exact (cH hw.1 hi).2
  ·rename_i hc
   rw[hw.2.1 i hi hc]
   exact V9 _
end
section
variable {K:Vi} {σ:St} {H:Hp} {Q:V->Hp->Prop} {i j:Nat} {a:Addr} {k:Nat} {xs:List V}
theorem Um {te:TE} {v:V} (hi:σ[i]? = some (some (.ref a))) (hj:σ[j]? = some (some (.int (k:Int)))) (hv:∀ H1 Q',aO H H1->Q' v H1->te σ H1 Q') (ha:H a=some (.tup xs)) (hk:k < xs.length) (hl:xs.length<=40) (h:∀ p H',aO H H'->H' p=some (.tup (xs.set k v))->Q (.ref p) H') :
  tOp (jy K) (tOp (jy K) (tSl (Dw K) (xr i) kE (xN (xr j))) (RC (GF te RB))) (tSl (Dw K) (xr i) (xN (tOp (rI0 fun i j=>.int (i+j)) (xr j) (tC (.int 1)))) kE) σ H Q:=by
 refine slT hi hj ha hk fun p1 H1 s1 e1=>?_
 refine hv H1 _ s1 ⟨small (by show 1<=1000; decide),fun p2 h2=>?_⟩
 generalize eH3:upd H1 p2 _=H3
 obtain⟨g3,e3⟩:=aL eH3 h2
 refine Rx (g3 _ _ e1) e3 (by rw[Vc]; show min k xs.length+1<=1000; lia) fun p4 H4 s4 e4=>?_
 have s14:aO H H4:=s1.trans (g3.trans s4)
 refine slD hi hj (s14 _ _ ha) hk fun p5 H5 s5 e5=>?_
 refine Rx (s5 _ _ e4) e5 (by rw[Va,Vc,Xv]; show min k xs.length+1+(xs.length - (k+1))<=1000; lia) fun p6 H6 s6 e6=>?_
 refine h p6 H6 (s14.trans (s5.trans s6)) ?_
 rw[e6,abl,if_pos hk,XH]
 rfl
end
inductive vW (vs:List V) (H:Hp) (Q:VK):Prop where
 | mk (b f g d:Addr) (n:Nat) (bk:List (List Pl)) (fl lo:List Int) (c:List Nat) (z0:vs=[.ref b,.ref f,.ref g,.ref d]) (z1:oA n H b bk) (z2:bk.length=n) (z3:H f=some (.tup (fl.map V.int))) (z4:okG n fl) (z5:H g=some (.tup (lo.map V.int))) (z6:Low n fl bk lo) (z7:H d=some (.lst (c.map vN))) (z8:(∀ i∈c,i < n)) (z9:c.length<=12) (z10:∀ (r:Addr) (z:List Int) (H':Hp),aO H H'->H' r=some (.tup (z.map V.int))->DG n fl bk lo c z->Q (.ref r) H'):vW  vs H Q
def oO:Sp:=fun vs H Q _=>vW  vs H Q
theorem vO {k:Nat} (F:Fun K "_law_alone" "_law_alone" jU f fd) (B:Bt mg)
  (D_law_owed:Df P w K mg base "_law_owed" k ["_law_some","_law_giving_here"] (GX K)):dR P w K mg base CX0 (k+1) f fd ["_law_book_here","_law_floor","_law_base","_law_crowd_here"] oO:=by
 refine F.ok c7 (fun vs H Q E h=>?_) (fun cdv A outer s H vs Q E hr h=>?_)
 ·obtain⟨b,f,g,d,n,bk,fl,lo,c,rfl,_⟩:=h
  rfl
 ·obtain⟨b,f,g,d,n,bk,fl,lo,c,rfl,hB,lb,hf,of,hg,low,hd,hc,c12,q⟩:=h
  refine⟨_,(au (aP (i:=4) c7.nd rfl (U8 rfl) (bR (r:=gG K) bK rfl B.tuple_ cR (aa (bG (L:=["_law_at"]) (F:=["_law_crowd_here","_law_base"]) (cap:=[3,2]) rfl (bD rfl rfl (by kernel_rfl)) (cg rfl B.range_ (aa (aH (r:=rm K) bI rfl B.len_ d9 (aa (pv 0) aj)) aj)) (fun _ _ _ _ _=>(aF (i:=0) (bu (by decide+kernel)) rfl (U8 rfl))) (fun _ _ _ _ _=>bF) (fun _ _ _ _ _=>(zT (aQ (r:=rIn K false) iG (pv 0) (pv 1) rfl) aA (bh (r:=gk K) bC (pv 2) (pv 0) (fun _ _=>rfl))))) aj)))
 (au (di Vx rfl (cg rfl B.range_ (aa (aR bU (aR fV aA (aH (r:=rm K) bI rfl B.len_ d9 (aa (pv 3) aj))) aA) aj)) (aF (i:=5) c7.nd rfl (U8 rfl)) (au (aP (i:=6) c7.nd rfl (U8 rfl) (pv 4))
 (au (di Vx rfl (dm (pv 3)) (aF (i:=7) c7.nd rfl (U8 rfl)) (au (aP (i:=8) c7.nd rfl (U8 rfl) (aH (qC rfl) rfl B.max_ pM (aa (bh (r:=gk K) bC (pv 1) (pv 7) (fun _ _=>rfl)) (aa (bj D_law_owed hr (aa (bh (r:=gj K) bf (pv 0) (pv 7) (fun _ _=>rfl)) (aa (pv 4) aj))) aj))))
 (aC (aP (i:=4) c7.nd rfl (U8 rfl) (aR (r:=jy K) lH (aR (r:=jy K) lH (jb (r:=Dw K) uJ (pv 4) mO (jn (pv 7))) (bT (aa (aH (qd rfl) rfl B.min_ Gw (aa (bh (r:=gk K) bC (pv 4) (pv 7) (fun _ _=>rfl)) (aa (pv 8) aj))) aj))) (jb (r:=Dw K) uJ (pv 4) (jn (aR bU (pv 7) aA)) mO))))))
 (aC (bZ (aQ (r:=yQ K) (nC hr.eQ) (pv 4) (pv 6) (aW _)) (aC (aM (pv 4))) aX)))))
 (aC (aM (pv 4))))),?_⟩
  have okb:=hB.okB
  obtain⟨us0,hb,rb,l12⟩:=id hB
  have lu0:=rb.length
  have x0:=QF (n:=n) (fl:=fl) (bk:=bk) (lo:=lo) (c:=c) low.1
  have lc:(c.map vN).length=c.length:=Uy ..
  refine⟨_,rfl,b,_,rfl,.inl (SqL.of hb),_,rfl,by lia,by lia,fun D hD=>dI (lo:=0) (n:=us0.length) (fun i zs σ' H2=>(∃ u,σ'=[u,some (.ref d),some (.ref g)])/\zs=((Vb i).map fun i=>if i∈c then (9:Int) else lo.getD i 0).map V.int/\aO H H2/\H2 D=some (.lst zs))
   ⟨⟨_,rfl⟩,rfl,aB hD _,aq⟩ (fun i zs σ' H2 _ h=>h.2.2.2) ?_ ?_⟩
  ·rintro i zs σ' H2 hi ⟨⟨u,rfl⟩,e1,sm,eD⟩
   have hil:i < lo.length:=by rw[low.1.1]; lia
   have gi:lo.getD i 0=lo[i]:=by rw[UL,UG hil]; rfl
   have lz:zs.length < sizeLine:=aD (by rw[e1,Uy,Uy,Vt]; lia)
   have nx:∀ z:Int,z=(if i∈c then (9:Int) else lo.getD i 0)->zs++[.int z]=((Vb (i+1)).map fun i=>if i∈c then (9:Int) else lo.getD i 0).map V.int:=fun z ez=>by
    rw[ez,e1,Yv,U3,U3]
    rfl
   refine gT ?_
   refine⟨_,rfl,_,rfl,d,_,rfl,.inl (SqL.of (sm _ _ hd)),rfl,o5 c,_,rfl,?_⟩
   rw[Xl,oM]
   by_cases e:i∈c
   ·rw[decide_eq_true e]
    exact ji ⟨eD,lz,⟨_,rfl⟩,nx _ (by rw[if_pos e]),aJ sm hD _,aq⟩
   ·rw[decide_eq_false e]
    exact fU ⟨_,rfl,_,rfl,g,_,_,_,rfl,rfl,SqT.of (sm _ _ hg),nJ hil,eD,lz,⟨_,rfl⟩,nx _ (by rw[if_neg e,gi]),aJ sm hD _,aq⟩
  ·rintro zs σ' H2 ⟨_,e1,sm,eD⟩
   refine⟨D,_,rfl,.inl ⟨SqL.of eD,fun l hl'=>?_⟩⟩
   generalize eH3:upd H2 l _=H3
   obtain⟨g3,e3⟩:=aL eH3 hl'
   have eh:H3 l=some (.tup ((upC n lo c).map V.int)):=by
    rw[e3,e1,show us0.length=n by lia]
    rfl
   have s03:=sm.trans g3
   generalize upC n lo c=x at *
   obtain⟨m,hm,st⟩:=Ex lb okb of hc x0
   have io:=Fj lb okb of hc x0
   refine gN ?_
   refine⟨_,rfl,d,_,rfl,.inl (SqL.of (s03 _ _ hd)),_,_,rfl,rfl,.inl ⟨by decide,by decide⟩,_,_,rfl,rfl,_,rfl,by lia,by lia,eF (lo:=0) (n:=(9 * ((c.map vN).length:Int)+1).toNat) (fun t σ H4=>∃ (hh:Addr) (u0 u1 u2 u3:Option V),σ=[some (.ref b),some (.ref f),some (.ref g),some (.ref d),some (.ref hh),u0,u1,u2,u3]/\aO H H4/\H4 hh=some (.tup ((itF (dsw fl bk c) x t).map V.int))/\t<=m)
    ⟨l,_,_,_,_,rfl,s03,eh,Vr _⟩ ?_ ?_⟩
   ·rintro t σ H4 ht ⟨hh,u0,u1,u2,u3,rfl,s4,ehh,htm⟩
    refine⟨_,rfl,?_⟩
    refine⟨_,rfl,d,rfl,⟨_,SqL.of (s4 _ _ hd)⟩,jE (K:=K) (a:=d) (xs:=c.map vN) (fun i σ H5=>∃ (h2:Addr) (v0 v1:Option V),σ=[some (.ref b),some (.ref f),some (.ref g),some (.ref d),some (.ref h2),some (.int (0+(t:Int))),some (.ref hh),v0,v1]/\aO H4 H5/\H5 h2=some (.tup ((dsw fl bk (c.take i) (itF (dsw fl bk c) x t)).map V.int)))
     ⟨hh,_,_,rfl,aO.refl _,by rw[We]; exact ehh⟩ (fun i σ H5 _ ⟨_,_,_,_,h,_⟩=>SqL.of (h _ _ (s4 _ _ hd))) ?_ ?_⟩
    ·rintro i y σ H5 hy ⟨h2,v0,v1,rfl,s5,e2⟩
     obtain⟨ka,hka,rfl⟩:=qJ hy
     have kin:=Vl hka
     have hkn:=hc ka kin
     obtain⟨ov,_⟩:=wg lb okb of (c.take i) (fun j hj=>⟨hc j (YT hj),YT hj⟩) (io t)
     have enext:dsw fl bk (c.take (i+1)) (itF (dsw fl bk c) x t)=dst fl bk (dsw fl bk (c.take i) (itF (dsw fl bk c) x t)) ka:=by
      unfold dsw
      rw[Vz,hka]
      show ((c.take i)++[ka]).foldl _ _=_
      rw[aby]
      rfl
     generalize dsw fl bk (c.take i) (itF (dsw fl bk c) x t)=gs at *
     have og:=ov.1
     have hfi:ka < fl.length:=by rw[of.1]; exact hkn
     have hgi:ka < gs.length:=by rw[og.1]; exact hkn
     have hui:ka < us0.length:=by lia
     have hy':us0[ka]? = some us0[ka]:=UG hui
     obtain⟨cc,as,ps,ec,hps,hcc,l100,rps⟩:=rb.get hy'
     have at2:atI us0 (ka:Int)=some (.ref cc):=by rw[← ec]; exact eZ hy'
     have s45:=s4.trans s5
     have hf0:=(of.2 fl[ka] (Wu hfi)).1
     refine⟨_,rfl,_,rfl,f,_,_,_,rfl,rfl,SqT.of (s45 _ _ hf),nJ hfi,_,rfl,_,rfl,b,_,_,_,rfl,rfl,SqL.of (s45 _ _ hb),at2,_,rfl,cc,h2,n,as,ps,gs,rfl,s45 _ _ hcc,l100,rps.bL (fun a xs q=>s45 a _ q),SqT.of e2,by rw[og.1]; lia,fun H6 s6=>?_⟩
     refine⟨_,_,rfl,?_⟩
     have ez:(if duF gs 0 ps > fl[ka] then duF gs 0 ps else fl[ka])=duF gs fl[ka] ps:=by
      rw[oJ gs hf0 ps]
      split <;> lia
     rw[ez]
     refine gN ?_
     dsimp only
     have e6:=s6 _ _ e2
     refine Um (k:=ka) (v:=.int (min gs[ka] (duF gs fl[ka] ps))) rfl rfl (fun H7 Q' s7 hq=>?_) e6 (by rw[Uy]; exact hgi) (by rw[Uy,og.1]; lia) fun p7 H7 s7 e7=>?_
     ·refine⟨_,rfl,_,rfl,h2,_,_,_,rfl,rfl,SqT.of (s7 _ _ e6),nJ hgi,_,rfl,_,_,rfl,?_⟩
      rw[show (if duF gs fl[ka] ps < gs[ka] then duF gs fl[ka] ps else gs[ka])=min gs[ka] (duF gs fl[ka] ps) by split <;> lia]
      exact hq
     ·refine⟨p7,_,_,rfl,s5.trans (s6.trans s7),?_⟩
      rw[e7,enext]
      unfold dst
      have eb:bk.getD ka []=ps:=by rw[UL,hps]; rfl
      have ef:fl.getD ka 0=fl[ka]:=by rw[UL,UG hfi]; rfl
      have eg:gs.getD ka 0=gs[ka]:=by rw[UL,UG hgi]; rfl
      rw[eb,ef,eg,List.map_set]
    ·rintro σ H5 ⟨h2,v0,v1,rfl,s5,e2⟩
     rw[lc,Ve] at e2
     refine⟨_,rfl,_,rfl,h2,hh,_,_,rfl,rfl,SqT.of e2,SqT.of (s5 _ _ ehh),_,rfl,?_⟩
     by_cases e:dsw fl bk c (itF (dsw fl bk c) x t)=itF (dsw fl bk c) x t
     ·rw[decide_eq_true e]
      refine ji ⟨_,rfl,?_⟩
      rw[e] at e2
      exact q h2 _ H5 (s4.trans s5) e2 (Nm lb okb of low hc (io t) e)
     ·rw[decide_eq_false e]
      refine fU ⟨h2,_,_,_,_,rfl,s4.trans s5,e2,?_⟩
      rcases WN t m with z | z
      ·exact z
      ·have:t=m:=by lia
       subst this
       exact absurd st.1 e
   ·rintro σ H4 ⟨hh,u0,u1,u2,u3,rfl,s4,ehh,htm⟩
    lia
section
variable {n:Nat} {fl lo:List Int} {bk:List (List Pl)}
theorem Fb (hb:bk.length=n) (ok:okB bk) (hf:okG n fl) (hlo:Low n fl bk lo) {x:List Int} (hx:okG n x) (l:LeG lo x) {c:List Nat} (hc:∀ i < n,i ∉ c->x.getD i 0=lo.getD i 0) (hup:∀ w,InS n fl bk lo c w->LeG w x) {m:Nat} (st:Stops (hdF bk lo) x m):DG n fl bk lo c (itF (hdF bk lo) x m):=by
 obtain⟨h1,h2,h3⟩:=yJ hb hlo.1 hx l m
 have fx:=st.1
 refine⟨⟨h1,fun i hi' hci=>?_,h2,?_⟩,fun w hw=>?_⟩
 ·have a:=h2 i
  have b:=h3 i
  rw[hc i hi' hci] at b
  lia
 ·refine jw (by rw[h1.1,(eU hb ok hf _).1]) fun i hi'=>?_
  rw[h1.1] at hi'
  have e:=rG (bk:=bk) (lo:=lo) (g:=itF (hdF bk lo) x m) (i:=i) (by lia)
  rw[fx] at e
  rw[ik hb hf _ hi']
  have a:=ik hb hf lo hi'
  rw[hlo.2.1] at a
  have b:=qy hb ok h2 hi'
  lia
 ·have:∀ j,LeG w (itF (hdF bk lo) x j):=by
   intro j
   induction j with
   | zero=>exact hup w hw
   | succ j ih=>exact zN hb ok hf hlo hw.1 hw.2.2.2 ih
  exact this m
theorem QV (hb:bk.length=n) (ok:okB bk) (hf:okG n fl) (hlo:Low n fl bk lo) (c:List Nat):∃ g,DG n fl bk lo c g:=by
 have o9:okG n (Vf n (9:Int)):=⟨Wl,fun x hx=>by rw[(List.mem_replicate.mp hx).2]; decide⟩
 have r9:∀ i < n,(Vf n (9:Int)).getD i 0=9:=fun i hi=>by rw[UL,XF,if_pos hi]; rfl
 have up9:∀ w:List Int,okG n w->LeG w (Vf n (9:Int)):=fun w hw=>mR hw.1 o9.1 fun i hi=>by
  rw[r9 i hi]
  exact (cH hw hi).2
 have l:=up9 lo hlo.1
 obtain⟨m,_,st⟩:=Av hb hlo.1 (uP hlo.1 o9 c) (Ot hlo.1 l c)
 exact⟨_,Ad hb ok hf hlo o9 l (fun w hw _=>up9 w hw) st⟩
open Classical in
def al (n:Nat) (fl:List Int) (bk:List (List Pl)) (lo:List Int) (c:List Nat):List Int:=if h:∃ g,DG n fl bk lo c g then h.choose else lo
theorem cY (hb:bk.length=n) (ok:okB bk) (hf:okG n fl) (hlo:Low n fl bk lo) (c:List Nat):DG n fl bk lo c (al n fl bk lo c):=by
 have h:=QV hb ok hf hlo c
 unfold al
 rw[dif_pos h]
 exact h.choose_spec
theorem yX (hb:bk.length=n) (ok:okB bk) (hf:okG n fl) (hlo:Low n fl bk lo) {c:List Nat} {g:List Int} (h:DG n fl bk lo c g):g=al n fl bk lo c:=h.uniq (cY hb ok hf hlo c)
theorem InS.mono {c d:List Nat} {g:List Int} (h:InS n fl bk lo c g) (s:∀ i < n,i∈c->i∈d):InS n fl bk lo d g:=⟨h.1,fun i hi hd=>h.2.1 i hi fun z=>hd (s i hi z),h.2.2⟩
theorem rZ (hb:bk.length=n) (ok:okB bk) (hf:okG n fl) (hlo:Low n fl bk lo) {c d:List Nat} (s:∀ i < n,i∈c->i∈d):LeG (al n fl bk lo c) (al n fl bk lo d):=(cY hb ok hf hlo d).2 _ ((cY hb ok hf hlo c).1.mono s)
theorem jf (hb:bk.length=n) (ok:okB bk) (hf:okG n fl) (hlo:Low n fl bk lo) (c:List Nat):(al n fl bk lo c).length=n:=(cY hb ok hf hlo c).1.1.1
def ris (n:Nat) (lo g:List Int):List Nat:=(Vb n).filter fun i=>decide (lo.getD i 0 < g.getD i 0)
theorem gF {g:List Int} {i:Nat}:i∈ris n lo g ↔ i < n/\lo.getD i 0 < g.getD i 0:=by
 unfold ris
 rw[aaR,List.mem_range]
 simp
theorem yV {c:List Nat} {g:List Int} (h:InS n fl bk lo c g) {i:Nat} (hi:i∈ris n lo g):i∈c:=by
 obtain⟨h1,h2⟩:=gF.mp hi
 refine X8 fun z=>?_
 have:=h.2.1 i h1 z
 lia
theorem Pb {c:List Nat} {g:List Int} (h:InS n fl bk lo c g):InS n fl bk lo (ris n lo g) g:=by
 refine⟨h.1,fun i hi hn=>?_,h.2.2⟩
 have a:=h.2.2.1 i
 have b:¬ lo.getD i 0 < g.getD i 0:=fun z=>hn (gF.mpr ⟨hi,z⟩)
 lia
theorem DX (hb:bk.length=n) (ok:okB bk) (hf:okG n fl) (hlo:Low n fl bk lo) (c:List Nat):al n fl bk lo (ris n lo (al n fl bk lo c))=al n fl bk lo c:=by
 have m:=cY hb ok hf hlo c
 refine cO (by rw[jf hb ok hf hlo,jf hb ok hf hlo]) (rZ hb ok hf hlo fun i hi=>yV m.1) ?_
 exact (cY hb ok hf hlo _).2 _ (Pb m.1)
theorem O9 (hb:bk.length=n) (ok:okB bk) (hf:okG n fl) (hlo:Low n fl bk lo) {c:List Nat} (h:ris n lo (al n fl bk lo c)=[]):al n fl bk lo c=lo:=by
 have m:=cY hb ok hf hlo c
 refine cO (by rw[jf hb ok hf hlo,hlo.1.1]) (mR (jf hb ok hf hlo c) hlo.1.1 fun i hi=>?_) m.1.2.2.1
 have:i ∉ ris n lo (al n fl bk lo c):=by rw[h]; simp
 have h':¬ lo.getD i 0 < (al n fl bk lo c).getD i 0:=fun z=>this (gF.mpr ⟨hi,z⟩)
 lia
theorem Ms:ris n lo lo=[]:=by
 unfold ris
 rw[List.filter_eq_nil_iff]
 intro i _
 simp
theorem oZ {g:List Int} {one:Nat} (hg:g.length=n) (hl:lo.length=n):ris n lo (lfF g lo [one])=(ris n lo g).filter fun i=>decide (i≠one):=by
 unfold ris
 rw[List.filter_filter]
 refine abz fun i hi=>?_
 have hi':=List.mem_range.mp hi
 rw[qe (by rw[hg]; exact hi')]
 by_cases e:i=one
 ·subst e
  simp
 ·simp [e]
theorem yI (hb:bk.length=n) (ok:okB bk) (hf:okG n fl) (hlo:Low n fl bk lo) {c:List Nat} (hcl:ris n lo (al n fl bk lo c)=c) {one:Nat} {m:Nat} (st:Stops (hdF bk lo) (lfF (al n fl bk lo c) lo [one]) m) :
  itF (hdF bk lo) (lfF (al n fl bk lo c) lo [one]) m=al n fl bk lo (c.filter fun i=>decide (i≠one)):=by
 have mx:=cY hb ok hf hlo c
 have lg:=jf hb ok hf hlo c
 have ox:okG n (lfF (al n fl bk lo c) lo [one]):=uP mx.1.1 hlo.1 [one]
 have at1:∀ i < n,(lfF (al n fl bk lo c) lo [one]).getD i 0=if i∈[one] then lo.getD i 0 else (al n fl bk lo c).getD i 0:=fun i hi=>qe (by rw[lg]; exact hi)
 have lx:LeG lo (lfF (al n fl bk lo c) lo [one]):=mR hlo.1.1 ox.1 fun i hi=>by
  rw[at1 i hi]
  split
  ·exact V9 _
  ·exact mx.1.2.2.1 i
 refine yX hb ok hf hlo (Fb hb ok hf hlo ox lx (fun i hi hn=>?_) (fun w hw=>?_) st)
 ·rw[at1 i hi]
  split
  ·rfl
  ·rename_i hne
   have:i ∉ c:=fun z=>hn (List.mem_filter.mpr ⟨z,decide_eq_true fun q=>hne (by rw[q]; exact List.mem_singleton.mpr rfl)⟩)
   exact mx.1.2.1 i hi this
 ·refine mR hw.1.1 ox.1 fun i hi=>?_
  rw[at1 i hi]
  split
  ·rename_i he
   rw[hw.2.1 i hi (fun z=>by
    have:=(List.mem_filter.mp z).2
    rw[List.mem_singleton.mp he] at this
    simp at this)]
   exact V9 _
  ·exact (mx.2 w (hw.mono fun i _ z=>(List.mem_filter.mp z).1)) i
def Knot (n:Nat) (fl:List Int) (bk:List (List Pl)) (lo:List Int) (c:List Nat):Prop:=al n fl bk lo c≠lo/\∀ one∈c,al n fl bk lo (c.filter fun i=>decide (i≠one))=lo
theorem zY (hb:bk.length=n) (ok:okB bk) (hf:okG n fl) (hlo:Low n fl bk lo) {c:List Nat} (hk:Knot n fl bk lo c) {i:Nat} (hi:i∈c):i∈ris n lo (al n fl bk lo c):=by
 refine X8 fun z=>hk.1 ?_
 rw[← DX hb ok hf hlo c]
 have le:LeG (al n fl bk lo (ris n lo (al n fl bk lo c))) lo:=by
  have h0:LeG (al n fl bk lo (ris n lo (al n fl bk lo c))) (al n fl bk lo (c.filter fun j=>decide (j≠i))):=rZ hb ok hf hlo fun j hj hr=>List.mem_filter.mpr ⟨yV (cY hb ok hf hlo c).1 hr,decide_eq_true (p:=j≠i) fun q=>z (q▸hr)⟩
  rw[hk.2 i hi] at h0
  exact h0
 exact cO (by rw[jf hb ok hf hlo,hlo.1.1]) le (cY hb ok hf hlo _).1.2.2.1
end
theorem nq {p:Nat->Bool} (i:Nat):(Vb (i+1)).filter p=(Vb i).filter p++if p i=true then [i] else []:=by
 rw[Yv,aaf,Yn,List.filter_nil]
theorem dM (p:Nat->Bool):∀ n,(Vb n).filter p∈bx n
 | 0=>List.mem_singleton.mpr rfl
 | n+1=>by
  rw[nq]
  have ih:=dM p n
  show _∈bx n++(bx n).map fun c=>c++[n]
  by_cases e:p n=true
  ·rw[if_pos e]
   exact List.mem_append.mpr (.inr (List.mem_map.mpr ⟨_,ih,rfl⟩))
  ·rw[if_neg e,XJ]
   exact List.mem_append.mpr (.inl ih)
theorem gM:∀ n,(bx n).length=2 ^ n
 | 0=>rfl
 | n+1=>by
  show (bx n++(bx n).map fun c=>c++[n]).length=_
  rw[Va,Uy,gM n,Nat.pow_succ]
  lia
theorem dq {α:Type} [DecidableEq α]:∀ {l m:List α},l.Nodup->(∀ a∈l,a∈m)->l.length<=m.length
 | [],_,_,_=>Vr _
 | a::l,m,nd,h=>by
  have ha:=h a UW
  obtain⟨na,nl⟩:=List.nodup_cons.mp nd
  have:=dq (m:=m.erase a) nl fun b hb=>(aaZ fun z=>na (by rw[← z]; exact hb)).mpr (h b (U9 _ hb))
  rw[aav ha] at this
  have:0 < m.length:=List.length_pos_of_mem ha
  rw[Vd]
  lia
theorem eX {n:Nat} {c:List Nat} (hr:c.Pairwise (· < ·)) (hn:∀ i∈c,i < n):(Vb n).filter (fun i=>decide (i∈c))=c:=by
 have s1:((Vb n).filter fun i=>decide (i∈c)).Pairwise (· < ·):=List.pairwise_lt_range.filter _
 have m:∀ i,i∈(Vb n).filter (fun i=>decide (i∈c)) ↔ i∈c:=fun i=>by
  rw[aaR,List.mem_range]
  simp
  exact hn i
 generalize (Vb n).filter (fun i=>decide (i∈c))=d at *
 clear hn
 induction d generalizing c with
 | nil =>
  cases c with
  | nil=>rfl
  | cons x c=>exact absurd ((m x).mpr UW) (by simp)
 | cons y d ih =>
  cases c with
  | nil=>exact absurd ((m y).mp UW) (by simp)
  | cons x c =>
   rw[W9] at s1 hr
   have hxy:y=x:=by
    rcases List.mem_cons.mp ((m y).mp UW) with h | h
    ·exact h
    ·rcases List.mem_cons.mp ((m x).mpr UW) with h' | h'
     ·exact h'.symm
     ·have:=hr.1 y h
      have:=s1.1 x h'
      lia
   subst hxy
   refine congrArg _ (ih hr.2 s1.2 fun i=>⟨fun h=>?_,fun h=>?_⟩)
   ·rcases List.mem_cons.mp ((m i).mp (U9 _ h)) with z | z
    ·have:=s1.1 i h
     lia
    ·exact z
   ·rcases List.mem_cons.mp ((m i).mpr (U9 _ h)) with z | z
    ·have:=hr.1 i h
     lia
    ·exact z
section
variable {n:Nat} {fl lo:List Int} {bk:List (List Pl)}
theorem jJ (g:List Int):(ris n lo g).Pairwise (· < ·):=List.pairwise_lt_range.filter _
theorem Cu (hb:bk.length=n) (ok:okB bk) (hf:okG n fl) (hlo:Low n fl bk lo) {S:List (List Nat)} (cl:∀ c∈S,ris n lo (al n fl bk lo c)=c) {W:List Nat} (hW:W∈S) (top:∀ c:List Nat,∀ i∈ris n lo (al n fl bk lo c),i∈W)
  (step:∀ c∈S,c≠[]->∀ one∈c,ris n lo (al n fl bk lo (c.filter fun i=>decide (i≠one)))∈S) {k:List Nat} (hr:k.Pairwise (· < ·)) (hn:∀ i∈k,i < n) (hk:Knot n fl bk lo k):k∈S:=by
 have main:∀ (m:Nat) (c:List Nat),c.length<=m->c∈S->(∀ i∈k,i∈c)->k∈S:=by
  intro m
  induction m with
  | zero =>
   intro c hl hc hs
   have:c=[]:=List.length_eq_zero_iff.mp (by lia)
   subst this
   have:k=[]:=by
    cases k with
    | nil=>rfl
    | cons x _=>exact absurd (hs x UW) (by simp)
   rw[this]
   exact hc
  | succ m ih =>
   intro c hl hc hs
   by_cases e:∀ i∈c,i∈k
   ·have hcr:c.Pairwise (· < ·):=by rw[← cl c hc]; exact jJ _
    have hcn:∀ i∈c,i < n:=fun i hi=>by rw[← cl c hc] at hi; exact (gF.mp hi).1
    have:k=c:=by
     rw[← eX hr hn,← eX hcr hcn]
     refine abz fun i _=>decide_eq_decide.mpr ⟨fun h=>?_,fun h=>?_⟩
     ·exact hs i (by simpa using h)
     ·exact e i (by simpa using h)
    rw[this]
    exact hc
   ·have ⟨one,h1,h2⟩:∃ one,one∈c/\one ∉ k:=by
     refine X8 fun z=>e fun i hi=>X8 fun q=>z ⟨i,hi,q⟩
    have c0:c≠[]:=fun z=>by rw[z] at h1; cases h1
    have mem:=step c hc c0 one h1
    have sub:∀ i∈ris n lo (al n fl bk lo (c.filter fun i=>decide (i≠one))),i∈c.filter fun i=>decide (i≠one):=fun i hi=>yV (cY hb ok hf hlo _).1 hi
    have ndr:(ris n lo (al n fl bk lo (c.filter fun i=>decide (i≠one)))).Nodup:=(jJ _).imp fun h=>Vh h
    have l1:=dq ndr sub
    have l2:(c.filter fun i=>decide (i≠one)).length < c.length:=by
     rw[aaT]
     exact⟨one,h1,by simp⟩
    refine ih _ (by lia) mem fun i hi=>?_
    have a:=zY hb ok hf hlo hk hi
    obtain⟨a1,a2⟩:=gF.mp a
    have b:=rZ hb ok hf hlo (c:=k) (d:=c.filter fun i=>decide (i≠one)) (fun j _ hj=>List.mem_filter.mpr ⟨hs j hj,decide_eq_true fun q=>h2 (q▸hj)⟩) i
    exact gF.mpr ⟨a1,by lia⟩
 refine main W.length W (U0 _) hW fun i hi=>top k i (zY hb ok hf hlo hk hi)
end
abbrev tO:Stmt:=top 28
theorem Ij:aY ["sure","giving"] ["sure","giving"] (aG tO):=⟨rfl,rfl,rfl,by decide+kernel,rfl,by decide+kernel,by decide+kernel⟩
inductive uO (vs:List V) (H:Hp) (Q:VK):Prop where
 | mk (f g:Addr) (n:Nat) (lo x:List Int) (z0:vs=[.ref f,.ref g]) (z1:n<=12) (z2:H f=some (.tup (lo.map V.int))) (z3:okG n lo) (z4:H g=some (.tup (x.map V.int))) (z5:okG n x) (z6:∀ (r:Addr) (H':Hp),aO H H'->H' r=some (.tup ((ris n lo x).map vN))->Q (.ref r) H'):uO  vs H Q
def uh:Sp:=fun vs H Q _=>uO  vs H Q
theorem Ia (F:Fun K "risers" "risers" tO f fd) (B:Bt mg) :
  dR P w K mg base CX0 1 f fd ["sure","giving"] uh:=by
 refine F.ok Ij (fun vs H Q E h=>?_) (fun cdv A outer s H vs Q E hr h=>?_)
 ·obtain⟨f,g,n,lo,x,rfl,_⟩:=h
  rfl
 ·obtain⟨f,g,n,lo,y,rfl,b12,hf,ol,hg,oy,q⟩:=h
  refine⟨_,(aC (aM (bR (r:=gG K) bK rfl B.tuple_ cR (aa (bG (L:=["one","step"]) (F:=["sure"]) (cap:=[0]) rfl (bD rfl rfl (by kernel_rfl)) (zG rfl B.enumerate_ (aa (pv 1) aj)) (fun _ _ _ _ _=>(dD (K:=K) 2 rfl rfl (bw (aF (i:=0) (bu (by decide+kernel)) rfl (U8 rfl)) (bw (aF (i:=1) (bu (by decide+kernel)) rfl (U8 rfl)) dF)))) (fun _ _ _ _ _=>(Gb (aQ wH (pv 1) (bh (r:=gk K) bC (pv 2) (pv 0) (fun _ _=>rfl)) (aW _)))) (fun _ _ _ _ _=>(pv 0))) aj)))),?_⟩
  refine⟨_,rfl,g,_,rfl,SqT.of hg,fun D hD=>rA (K:=K) (a:=g) (xs:=y.map V.int) (fun i zs σ' H3=>(∃ u v,σ'=[u,v,some (.ref f)])/\aO H H3/\H3 D=some (.lst zs)/\zs=((Vb i).filter fun j=>decide (lo.getD j 0 < y.getD j 0)).map vN)
   ⟨⟨_,_,rfl⟩,aB hD _,aq,rfl⟩ (fun i zs σ' H3 _ h=>⟨SqT.of (h.2.1 _ _ hg),h.2.2.1⟩) ?_ ?_⟩
  ·rintro i zs x p σ' H3 hx hp ⟨⟨u,v,rfl⟩,sm,eD,ez⟩
   obtain⟨y1,hy1,rfl⟩:=int_at hx
   have hin:=(List.getElem?_eq_some_iff.mp hy1).1
   generalize eH4:upd H3 p _=H4
   obtain⟨g4,e4⟩:=aL eH4 hp
   have s4:=sm.trans g4
   refine⟨p,_,rfl,SqT.of e4,rfl,_,_,rfl,_,_,rfl,rfl,?_⟩
   have hih:i < lo.length:=by rw[ol.1,← oy.1]; exact hin
   have gy:y.getD i 0=y1:=by rw[UL,hy1]; rfl
   have gi:lo.getD i 0=lo[i]:=by rw[UL,UG hih]; rfl
   have lz:zs.length<=i:=by
    rw[ez,Uy]
    exact Wd (YC _ _) (by rw[Vt]; exact U0 _)
   have l12:i<=12:=by have:=oy.1; lia
   refine⟨_,rfl,_,rfl,_,rfl,f,_,_,_,rfl,rfl,SqT.of (s4 _ _ hf),nJ hih,_,_,rfl,rfl,_,rfl,?_⟩
   by_cases c1:y1 > lo[i]
   ·rw[decide_eq_true c1]
    refine ji ⟨_,rfl,g4 _ _ eD,aD (by lia),⟨_,_,rfl⟩,aJ s4 hD _,aq,?_⟩
    rw[nq,if_pos (by rw[gy,gi]; exact decide_eq_true c1),U3,← ez]
    rfl
   ·rw[decide_eq_false c1]
    refine fU ⟨⟨_,_,rfl⟩,s4,g4 _ _ eD,?_⟩
    rw[nq,if_neg (by rw[gy,gi]; simp only[decide_eq_true_eq]; exact c1),XJ]
    exact ez
  ·rintro zs σ' H3 ⟨_,sm,eD,rfl⟩
   refine⟨D,_,rfl,.inl ⟨SqL.of eD,fun l hl'=>?_⟩⟩
   refine q l _ (sm.trans (aB hl' _)) ?_
   rw[aq,Uy,oy.1]
   rfl
def kc (c:List Nat):List Key:=c.map fun i:Nat=>(aaG (i:Int):Key)
theorem RK (c:List Nat):(kc c).map kV=c.map vN:=by
 unfold kc
 rw[XQ]
 rfl
theorem PQ {c d:List Nat} (h:kc c=kc d):c=d:=by
 unfold kc at h
 exact (List.map_inj_right fun a b e=>by
  have:(a:Int)=(b:Int):=Sum.inl.inj e
  lia).mp h
def xx (n:Nat) (fl:List Int) (bk:List (List Pl)) (lo:List Int) (H:Hp) (kvs:List (List Key × V)):Prop :=
 (kvs.map (·.1)).Nodup/\∀ p∈kvs,∃ (c:List Nat) (a:Addr),c∈bx n/\p.1=kc c/\p.2 = .ref a/\H a=some (.tup ((al n fl bk lo c).map V.int))
section
variable {n:Nat} {fl lo:List Int} {bk:List (List Pl)} {H H':Hp} {kvs:List (List Key × V)}
theorem xx.bL (h:xx n fl bk lo H kvs) (e:∀ a xs,H a=some (HO.tup xs)->H' a=some (HO.tup xs)):xx n fl bk lo H' kvs :=
 ⟨h.1,fun p hp=>by
  obtain⟨c,a,h1,h2,h3,h4⟩:=h.2 p hp
  exact⟨c,a,h1,h2,h3,e _ _ h4⟩⟩
theorem xx.len (h:xx n fl bk lo H kvs):kvs.length<=2 ^ n:=by
 have:=dq (m:=(bx n).map kc) h.1 fun k hk=>by
  obtain⟨p,hp,rfl⟩:=List.mem_map.mp hk
  obtain⟨c,a,h1,h2,_⟩:=h.2 p hp
  rw[h2]
  exact List.mem_map.mpr ⟨c,h1,rfl⟩
 rw[Uy,Uy,gM] at this
 exact this
theorem xx.get (h:xx n fl bk lo H kvs) {c:List Nat} {v:V} (e:jL kvs (kc c)=some v):∃ a,v = .ref a/\H a=some (.tup ((al n fl bk lo c).map V.int)):=by
 unfold jL at e
 obtain⟨p,hp,rfl⟩:=Option.map_eq_some_iff.mp e
 obtain⟨c',a,_,h2,h3,h4⟩:=h.2 p (List.mem_of_find?_eq_some hp)
 have k1:p.1=kc c:=by simpa using List.find?_some hp
 have:c'=c:=PQ (by rw[← h2,k1])
 subst this
 exact⟨a,h3,h4⟩
theorem xx.put (h:xx n fl bk lo H kvs) {c:List Nat} (hc:c∈bx n) {a:Addr} (ha:H a=some (.tup ((al n fl bk lo c).map V.int))) (e:jL kvs (kc c)=none):xx n fl bk lo H (putK kvs (kc c) (.ref a)):=by
 rw[oX _ e]
 refine⟨?_,fun p hp=>?_⟩
 ·rw[U3]
  show (_++[kc c]).Nodup
  refine List.nodup_append.mpr ⟨h.1,by simp,fun x hx y hy=>?_⟩
  rw[List.mem_singleton.mp hy]
  obtain⟨p,hp,rfl⟩:=List.mem_map.mp hx
  intro z
  unfold jL at e
  have:=List.find?_eq_none.mp (Option.map_eq_none_iff.mp e) p hp
  exact this (decide_eq_true z)
 ·rcases List.mem_append.mp hp with z | z
  ·exact h.2 p z
  ·rw[List.mem_singleton.mp z]
   exact⟨c,a,hc,rfl,rfl,ha⟩
end
theorem pA {H:Hp} {D:Addr} {k:List (List Key × V)} {o:HO} (h:H D=some (.dT k)):∀ a xs,H a=some (HO.tup xs)->upd H D o a=some (HO.tup xs):=fun a xs q=>by
 rw[bB (fun z=>by rw[z,h] at q; cases q)]
 exact q
abbrev o6:Stmt:=top 29
theorem iM:aY ["book","sure","giving","known","rows","one","start","crowd"] ["book","sure","giving","known"] (aG o6):=⟨rfl,rfl,rfl,by decide+kernel,rfl,by decide+kernel,by decide+kernel⟩
def wo (c:List Nat) (one:Nat):List Nat:=c.filter fun i=>decide (i≠one)
inductive vC (vs:List V) (H:Hp) (Q:VK):Prop where
 | mk (b f g d:Addr) (n:Nat) (bk:List (List Pl)) (fl lo:List Int) (c:List Nat) (kvs:List (List Key × V)) (H0:Hp) (z0:vs=[.ref b,.ref f,.ref g,.ref d]) (z1:n<=12) (z2:aO H0 H) (z3:H0 d=none) (z4:oA n H0 b bk) (z5:bk.length=n) (z6:okG n fl) (z7:H0 f=some (.tup (lo.map V.int))) (z8:Low n fl bk lo) (z9:H g=some (.tup ((al n fl bk lo c).map V.int))) (z10:ris n lo (al n fl bk lo c)=c) (z11:H d=some (.dT kvs)) (z12:xx n fl bk lo H kvs) (z13:∀ (r:Addr) (us:List V) (kvs':List (List Key × V)) (H':Hp),aO H0 H'->(∀ a o,a≠d->H a=some o->H' a=some o)->H r=none->H' r=some (.lst us)->iT H' us (c.map fun one=>al n fl bk lo (wo c one))->H' d=some (.dT kvs')->xx n fl bk lo H' kvs'->Q (.ref r) H'):vC  vs H Q
def Bu:Sp:=fun vs H Q _=>vC  vs H Q
theorem CP {k:Nat} (F:Fun K "put_off" "put_off" o6 f fd) (B:Bt mg)
  (D_risers:Df P w K mg base "risers" 1 ["sure","giving"] uh) (D_lifted:Df P w K mg base "lifted" 1 ["giving","high","crowd"] HY) (D_held:Df P w K mg base "held" (k+1) ["book","sure","giving"] Fq) :
  dR P w K mg base CX0 (k+2) f fd ["book","sure","giving","known"] Bu:=by
 refine F.ok iM (fun vs H Q E h=>?_) (fun cdv A outer s H vs Q E hr h=>?_)
 ·obtain⟨b,f,g,d,n,bk,fl,lo,c,kvs,H0,rfl,_⟩:=h
  rfl
 ·obtain⟨b,f,g,d,n,bk,fl,lo,c,kvs0,H0,rfl,n12,s0,d0,hB,lb,of,hf,low,hg,hcl,hd,kn,q⟩:=h
  refine⟨_,(au (aP (i:=4) iM.nd rfl (U8 rfl) (bJ aj))
 (au (di Vx rfl (gO (bj D_risers hr (aa (pv 1) (aa (pv 2) aj)))) (aF (i:=5) iM.nd rfl (U8 rfl)) (au (aP (i:=6) iM.nd rfl (U8 rfl) (bj D_lifted hr (aa (pv 2) (aa (pv 1) (aa (bJ (aa (pv 5) aj)) aj)))))
 (au (aP (i:=7) iM.nd rfl (U8 rfl) (bj D_risers hr (aa (pv 1) (aa (pv 6) aj))))
 (au (bZ (Fo (wV hr.uM (pv 7) (pv 3))) (aC (Ip hr.uM (pv 3) (pv 7) (bj D_held hr (aa (pv 0) (aa (pv 1) (aa (pv 6) aj)))) rfl)) aX)
 (aC (eG (kZ VH VN VM cB (pv 4) (aa (Om hr.uM (pv 3) (pv 7) (fun _ _=>rfl)) aj))))))))
 (aC (aM (pv 4))))),?_⟩
  have okb:=hB.okB
  have oc:okG n (al n fl bk lo c):=(cY lb okb of low c).1.1
  have p12:2 ^ n<=4096:=by
   have:2 ^ n<=2 ^ 12:=Xz (by decide) n12
   simpa using this
  have cn:∀ i∈c,i < n:=fun i hi=>by rw[← hcl] at hi; exact (gF.mp hi).1
  have c12:c.length<=12:=by
   rw[← hcl]
   exact Wd (YC _ _) (by rw[Vt]; exact n12)
  refine⟨small (by show 0<=1000; decide),fun R hR=>?_⟩
  generalize eHa:upd H R _=Ha
  obtain⟨ga,ea⟩:=aL eHa hR
  have nRd:R≠d:=fun z=>by rw[z,hd] at hR; cases hR
  refine⟨_,rfl,_,rfl,f,g,n,lo,_,rfl,n12,(s0.trans ga) _ _ hf,low.1,ga _ _ hg,oc,fun ra H1 s1 era=>?_⟩
  rw[hcl] at era
  have sa1:=ga.trans s1
  have s01:=s0.trans sa1
  have R0:H0 R=none:=s0.free hR
  refine⟨ra,rfl,⟨_,SqT.of era⟩,pG (K:=K) (a:=ra) (xs:=c.map vN) (fun i σ Hx=>∃ (us:List V) (kvs:List (List Key × V)) (u5 u6 u7:Option V),σ=[some (.ref b),some (.ref f),some (.ref g),some (.ref d),some (.ref R),u5,u6,u7]/\aO H0 Hx/\(∀ a o,a≠d->a≠R->H1 a=some o->Hx a=some o)/\Hx R=some (.lst us)/\Hx d=some (.dT kvs)/\xx n fl bk lo Hx kvs/\iT Hx us ((c.take i).map fun one=>al n fl bk lo (wo c one)))
   ⟨[],kvs0,_,_,_,rfl,s01,fun a o _ _ e=>e,s1 _ _ ea,sa1 _ _ hd,kn.bL fun a xs e=>sa1 _ _ e,by rw[We]; exact .nil⟩ (fun i σ Hx _ h=>?_) ?_ ?_⟩
  ·obtain⟨_,_,_,_,_,_,_,kb,_⟩:=h
   exact SqT.of (kb _ _ (fun z=>by have:=sa1 _ _ hd; rw[← z,era] at this; cases this) (fun z=>by have:=s1 _ _ ea; rw[← z,era] at this; cases this) era)
  ·rintro i x σ Hx hx ⟨us,kvs,u5,u6,u7,rfl,sx,kb,eR,ed,kx,gx⟩
   obtain⟨one,hone,rfl⟩:=qJ hx
   have onen:=cn one (Vl hone)
   refine gN ?_
   have gxH:Hx g=some (.tup ((al n fl bk lo c).map V.int)):=kb _ _ (fun z=>by rw[z,hd] at hg; cases hg) (fun z=>by rw[z,hR] at hg; cases hg) (sa1 _ _ hg)
   have lus:=gx.length
   rw[Uy,Vc] at lus
   have ox:=uP oc low.1 [one]
   refine aV (fun σ Hc=>∃ a4:Addr,σ=[some (.ref b),some (.ref f),some (.ref g),some (.ref d),some (.ref R),some (vN one),some (.ref a4),u7]/\aO Hx Hc/\Hc a4=some (.tup ((lfF (al n fl bk lo c) lo [one]).map V.int))) ?qs ?ts
   case ts =>
    intro N Rc
    refine⟨_,rfl,_,rfl,_,rfl,small (by show 1<=1000; decide),fun p3 h3=>?_⟩
    generalize eHb:upd Hx p3 _=Hb
    obtain⟨gb,eb⟩:=aL eHb h3
    exact⟨g,f,p3,_,lo,[one],rfl,gb _ _ gxH,(sx.trans gb) _ _ hf,eb,by rw[oc.1,low.1.1],by rw[oc.1]; lia,fun a4 Hc sc e4=>Rc _ _ ⟨a4,rfl,gb.trans sc,e4⟩⟩
   case qs =>
   rintro σ Hc ⟨a4,rfl,sxc,e4⟩
   refine aV (fun σ Hd=>∃ a5:Addr,σ=[some (.ref b),some (.ref f),some (.ref g),some (.ref d),some (.ref R),some (vN one),some (.ref a4),some (.ref a5)]/\aO Hc Hd/\Hd a5=some (.tup ((wo c one).map vN))) ?qc ?tc
   case tc =>
    intro N Rc
    refine⟨_,rfl,_,rfl,f,a4,n,lo,_,rfl,n12,(sx.trans sxc) _ _ hf,low.1,e4,ox,fun a5 Hd sd e5=>?_⟩
    rw[oZ oc.1 low.1.1,hcl] at e5
    exact Rc _ _ ⟨a5,rfl,sd,e5⟩
   case qc =>
   rintro σ Hd ⟨a5,rfl,sd,e5⟩
   have sxd:=sxc.trans sd
   have hcr:wo c one∈bx n:=by
    have:=dM (fun i=>decide (lo.getD i 0 < (lfF (al n fl bk lo c) lo [one]).getD i 0)) n
    have e:ris n lo (lfF (al n fl bk lo c) lo [one])=wo c one:=by rw[oZ oc.1 low.1.1,hcl]; rfl
    rw[← e]
    exact this
   have e5k:Hd a5=some (.tup ((kc (wo c one)).map kV)):=by rw[RK]; exact e5
   refine aV (fun σ He=>∃ (kvs:List (List Key × V)) (ao:Addr),σ=[some (.ref b),some (.ref f),some (.ref g),some (.ref d),some (.ref R),some (vN one),some (.ref a4),some (.ref a5)]/\aO H0 He/\(∀ a o,a≠d->Hd a=some o->He a=some o)/\He d=some (.dT kvs)/\xx n fl bk lo He kvs/\jL kvs (kc (wo c one))=some (.ref ao)/\He ao=some (.tup ((al n fl bk lo (wo c one)).map V.int))) ?q1 ?t1
   case t1 =>
    intro N Rc
    have edd:=sxd _ _ ed
    refine⟨_,rfl,_,rfl,d,jL kvs (kc (wo c one)),rfl,Jh.t edd e5k,_,rfl,?_⟩
    cases hv:jL kvs (kc (wo c one)) with
    | some v =>
     obtain⟨ao,rfl,eao⟩:=kx.get hv
     exact fU (Rc _ _ ⟨kvs,ao,rfl,sx.trans sxd,fun a o _ e=>e,edd,kx.bL fun a xs e=>sxd _ _ e,hv,sxd _ _ eao⟩)
    | none =>
     refine ji ⟨_,rfl,_,rfl,_,rfl,b,f,a4,n,bk,lo,_,rfl,hB.mono (sx.trans sxd),lb,(sx.trans sxd) _ _ hf,low.1,sd _ _ e4,ox,?_,fun m r He st se er=>?_⟩
     ·refine mR low.1.1 ox.1 fun j hj=>?_
      rw[qe (by rw[oc.1]; exact hj)]
      split
      ·exact V9 _
      ·exact (cY lb okb of low c).1.2.2.1 j
     rw[yI lb okb of low hcl st] at er
     have ede:=se _ _ edd
     have kxe:=kx.bL fun a xs e=>(sxd.trans se) _ _ e
     refine⟨_,rfl,_,rfl,d,_,rfl,PJ.t ede (se _ _ e5k) (Ys kx.len (Ys p12 (by decide))),?_⟩
     refine Rc _ _ ⟨_,r,rfl,aJ ((sx.trans sxd).trans se) d0 _,fun a o na e=>by rw[bB na]; exact se _ _ e,aq,(kxe.put hcr er hv).bL (pA ede),by rw[KC,if_pos rfl],pA ede _ _ er⟩
   case q1 =>
   rintro σ He ⟨kvs',ao,rfl,s0e,kbe,ede,kne,hv,eao⟩
   have eRe:He R=some (.lst us):=kbe _ _ nRd (sxd _ _ eR)
   have e5e:He a5=some (.tup ((kc (wo c one)).map kV)):=kbe _ _ (fun z=>by have:=sxd _ _ ed; rw[← z,e5] at this; cases this) e5k
   refine⟨_,rfl,.inl ⟨rfl,_,SqL.of eRe⟩,_,rfl,_,rfl,d,_,rfl,hv▸Jh.t ede e5e,R,us,_,rfl,rfl,eRe,aD (by lia),?_⟩
   refine⟨us++[.ref ao],kvs',_,_,_,rfl,aJ s0e R0 _,fun a o na nr e=>by rw[bB nr]; exact kbe _ _ na (sxd _ _ (kb _ _ na nr e)),aq,by rw[bB nRd.symm]; exact ede,kne.bL (cI eRe),?_⟩
   rw[Vz,hone,U3]
   have gxe:iT He us ((c.take i).map fun one=>al n fl bk lo (wo c one)):=gx.bL fun a xs e=>kbe _ _ (fun z=>by rw[z,ed] at e; cases e) (sxd _ _ e)
   exact (iT.snoc eao (by rw[jf lb okb of low]; lia) gxe).bL (cI eRe)
  ·rintro σ Hx ⟨us,kvs,u5,u6,u7,rfl,sx,kb,eR,ed,kx,gx⟩
   rw[Uy,Ve] at gx
   exact⟨_,rfl,q R us kvs Hx sx (fun a o na e=>kb a o na (fun z=>by rw[z,hR] at e; cases e) (sa1 _ _ e)) hR eR gx ed kx⟩
def kg (g:List Int):List Key:=g.map fun i:Int=>(aaG i:Key)
theorem Oe (g:List Int):(kg g).map kV=g.map V.int:=by
 unfold kg
 rw[XQ]
 rfl
theorem LC {c d:List Int} (h:kg c=kg d):c=d:=by
 unfold kg at h
 exact (List.map_inj_right fun a b e=>by
  have:a=b:=Sum.inl.inj e
  exact this).mp h
theorem iT.Lh {H:Hp}:∀ {us:List V} {gs:List (List Int)} {g:List Int},iT H us (gs++[g])->∃ (us':List V) (a:Addr),us=us'++[.ref a]/\iT H us' gs/\H a=some (.tup (g.map V.int))
 | _,[],_,.cons h l .nil=>⟨[],_,rfl,.nil,h⟩
 | _,x::gs,g,.cons h l r=>by
  obtain⟨us',a,e,r',ha⟩:=iT.Lh (gs:=gs) r
  exact⟨_::us',a,by rw[e]; rfl,.cons h l r',ha⟩
inductive LF (H0 H:Hp):List V->List (List Nat)->Prop where
 | nil:LF H0 H [] []
 | cons {a:Addr} {c:List Nat} {us:List V} {cs:List (List Nat)}:H a=some (.lst (c.map vN))->H0 a=none->LF H0 H us cs->LF H0 H (.ref a::us) (c::cs)
section
variable {n:Nat} {fl lo hi:List Int} {bk:List (List Pl)}
theorem jP (hb:bk.length=n) (ok:okB bk) (hf:okG n fl) (hlo:Low n fl bk lo):al n fl bk lo []=lo:=by
 have m:=cY hb ok hf hlo []
 refine cO (by rw[jf hb ok hf hlo,hlo.1.1]) (mR (jf hb ok hf hlo []) hlo.1.1 fun i hi=>?_) m.1.2.2.1
 rw[m.1.2.1 i hi (by simp)]
 exact V9 _
theorem K5 (hb:bk.length=n) (ok:okB bk) (hf:okG n fl) (hlo:Low n fl bk lo) (oh:okG n hi) (fx:cX hi fl bk=hi) (hup:∀ g,LeG g (cX g fl bk)->LeG g hi) (lh:LeG lo hi):al n fl bk lo (ris n lo hi)=hi:=by
 have e:al n fl bk lo (Vb n)=hi:=by
  refine (yX hb ok hf hlo ⟨⟨oh,fun i h1 h2=>absurd (List.mem_range.mpr h1) h2,lh,?_⟩,fun w hw=>hup w hw.2.2.2⟩).symm
  rw[fx]
  exact cJ _
 have:=DX hb ok hf hlo (Vb n)
 rw[e] at this
 exact this
theorem Ol (hb:bk.length=n) (ok:okB bk) (hf:okG n fl) (hlo:Low n fl bk lo) (hup:∀ g,LeG g (cX g fl bk)->LeG g hi) (c:List Nat) {i:Nat} (h:i∈ris n lo (al n fl bk lo c)):i∈ris n lo hi:=by
 obtain⟨h1,h2⟩:=gF.mp h
 have:=hup _ (cY hb ok hf hlo c).1.2.2.2 i
 exact gF.mpr ⟨h1,by lia⟩
structure Ey (n:Nat) (fl:List Int) (bk:List (List Pl)) (lo hi:List Int) (S A F:List (List Nat)):Prop where
 cl:∀ c∈S,ris n lo (al n fl bk lo c)=c
 nd:S.Nodup
 e0:[]∈S
 tp:ris n lo hi∈S
 aS:∀ c∈A,c∈S/\c≠[]
 aN:A.Nodup
 st:∀ c∈S,c ∉ A->c≠[]->∀ one∈c,ris n lo (al n fl bk lo (wo c one))∈S
 fN:F.Nodup
 fI:∀ c,c∈F ↔ c∈S/\c ∉ A/\c≠[]/\Knot n fl bk lo c
theorem Ey.len {S A F:List (List Nat)} (h:Ey n fl bk lo hi S A F):S.length<=2 ^ n:=by
 have:=dq (m:=bx n) h.nd fun c hc=>by
  rw[← h.cl c hc]
  exact dM _ n
 rw[gM] at this
 exact this
theorem Ey.done {S F:List (List Nat)} (hb:bk.length=n) (ok:okB bk) (hf:okG n fl) (hlo:Low n fl bk lo) (hup:∀ g,LeG g (cX g fl bk)->LeG g hi) (h:Ey n fl bk lo hi S [] F) (c:List Nat):c∈F ↔ c.Pairwise (· < ·)/\(∀ i∈c,i < n)/\Knot n fl bk lo c:=by
 rw[h.fI]
 refine⟨fun⟨h1,_,_,h4⟩=>?_,fun⟨h1,h2,h3⟩=>?_⟩
 ·refine⟨?_,fun i hi'=>?_,h4⟩
  ·rw[← h.cl c h1]
   exact jJ _
  ·rw[← h.cl c h1] at hi'
   exact (gF.mp hi').1
 ·refine⟨Cu hb ok hf hlo h.cl h.tp (fun c i hi'=>Ol hb ok hf hlo hup c hi') (fun c hc c0 one ho=>h.st c hc (by simp) c0 one ho) h1 h2 h3,by simp,fun z=>?_,h3⟩
  rw[z] at h3
  exact h3.1 (jP hb ok hf hlo)
theorem Ey.turn {S A F:List (List Nat)} {c:List Nat} {N:List (List Nat)} (hb:bk.length=n) (ok:okB bk) (hf:okG n fl) (hlo:Low n fl bk lo) (h:Ey n fl bk lo hi S (A++[c]) F) (n1:N.Nodup) (n2:∀ d∈N,d ∉ S/\ris n lo (al n fl bk lo d)=d)
  (all:∀ one∈c,ris n lo (al n fl bk lo (wo c one))∈S++N) {F':List (List Nat)} (hF:F'=if (∀ one∈c,al n fl bk lo (wo c one)=lo) then F++[c] else F):Ey n fl bk lo hi (S++N) (A++N) F':=by
 obtain⟨cS,c0⟩:=h.aS c (List.mem_append.mpr (.inr (List.mem_singleton.mpr rfl)))
 have cA:c ∉ A:=fun z=>(List.nodup_append.mp h.aN).2.2 c z c (List.mem_singleton.mpr rfl) rfl
 have cN:c ∉ N:=fun z=>(n2 c z).1 cS
 have alc:al n fl bk lo c≠lo:=fun z=>c0 (by rw[← h.cl c cS,z,Ms])
 have kn:Knot n fl bk lo c ↔ ∀ one∈c,al n fl bk lo (wo c one)=lo:=⟨fun k=>k.2,fun k=>⟨alc,k⟩⟩
 have cF:c ∉ F:=fun z=>((h.fI c).mp z).2.1 (List.mem_append.mpr (.inr (List.mem_singleton.mpr rfl)))
 have nn0:∀ d∈N,d≠[]:=fun d hd z=>(n2 d hd).1 (by rw[z]; exact h.e0)
 refine⟨fun d hd=>?_,?_,List.mem_append.mpr (.inl h.e0),List.mem_append.mpr (.inl h.tp),fun d hd=>?_,?_,fun d hd hA d0 one ho=>?_,?_,fun d=>?_⟩
 ·rcases List.mem_append.mp hd with z | z
  ·exact h.cl d z
  ·exact (n2 d z).2
 ·exact List.nodup_append.mpr ⟨h.nd,n1,fun a ha b hb' e=>(n2 b hb').1 (e▸ha)⟩
 ·rcases List.mem_append.mp hd with z | z
  ·obtain⟨a,b⟩:=h.aS d (List.mem_append.mpr (.inl z))
   exact⟨List.mem_append.mpr (.inl a),b⟩
  ·exact⟨List.mem_append.mpr (.inr z),nn0 d z⟩
 ·exact List.nodup_append.mpr ⟨(List.nodup_append.mp h.aN).1,n1,fun a ha b hb' e=>(n2 b hb').1 (e▸(h.aS a (List.mem_append.mpr (.inl ha))).1)⟩
 ·have hdN:d ∉ N:=fun z=>hA (List.mem_append.mpr (.inr z))
  have hdA:d ∉ A:=fun z=>hA (List.mem_append.mpr (.inl z))
  have hdS:d∈S:=by
   rcases List.mem_append.mp hd with z | z
   ·exact z
   ·exact absurd z hdN
  by_cases e:d=c
  ·subst e
   exact all one ho
  ·refine List.mem_append.mpr (.inl (h.st d hdS (fun z=>?_) d0 one ho))
   rcases List.mem_append.mp z with z | z
   ·exact hdA z
   ·exact e (List.mem_singleton.mp z)
 ·rw[hF]
  split
  ·exact List.nodup_append.mpr ⟨h.fN,by simp,fun a ha b hb' e=>cF (by rw[← List.mem_singleton.mp hb',← e]; exact ha)⟩
  ·exact h.fN
 ·have old:d≠c->(d∈F ↔ d∈S++N/\d ∉ A++N/\d≠[]/\Knot n fl bk lo d):=fun ne=>by
   rw[h.fI d]
   refine⟨fun⟨a1,a2,a3,a4⟩=>⟨List.mem_append.mpr (.inl a1),fun z=>?_,a3,a4⟩,fun⟨a1,a2,a3,a4⟩=>⟨?_,fun z=>?_,a3,a4⟩⟩
   ·rcases List.mem_append.mp z with z | z
    ·exact a2 (List.mem_append.mpr (.inl z))
    ·exact (n2 d z).1 a1
   ·rcases List.mem_append.mp a1 with z | z
    ·exact z
    ·exact absurd (List.mem_append.mpr (.inr z)) a2
   ·rcases List.mem_append.mp z with z | z
    ·exact a2 (List.mem_append.mpr (.inl z))
    ·exact ne (List.mem_singleton.mp z)
  rw[hF]
  by_cases k:∀ one∈c,al n fl bk lo (wo c one)=lo
  ·rw[if_pos k,abW,X5]
   by_cases e:d=c
   ·subst e
    exact⟨fun _=>⟨List.mem_append.mpr (.inl cS),fun z=>by
     rcases List.mem_append.mp z with z | z
     ·exact cA z
     ·exact cN z,c0,kn.mpr k⟩,fun _=>.inr rfl⟩
   ·rw[← old e]
    exact⟨fun z=>z.resolve_right e,fun z=>.inl z⟩
  ·rw[if_neg k]
   by_cases e:d=c
   ·subst e
    exact⟨fun z=>absurd z cF,fun z=>absurd (kn.mp z.2.2.2) k⟩
   ·exact old e
end
theorem LF.keep {H0 H H':Hp} (k:∀ (a:Addr) (c:List Nat),H0 a=none->H a=some (HO.lst (c.map vN))->H' a=some (HO.lst (c.map vN))):∀ {us:List V} {cs:List (List Nat)},LF H0 H us cs->LF H0 H' us cs
 | _,_,.nil=>.nil
 | _,_,.cons h1 h2 r=>.cons (k _ _ h2 h1) h2 (LF.keep k r)
theorem LF.snoc {H0 H:Hp} {a:Addr} {c:List Nat} (h1:H a=some (.lst (c.map vN))) (h2:H0 a=none):∀ {us:List V} {cs:List (List Nat)},LF H0 H us cs->LF H0 H (us++[.ref a]) (cs++[c])
 | _,_,.nil=>.cons h1 h2 .nil
 | _,_,.cons k1 k2 r=>.cons k1 k2 (LF.snoc h1 h2 r)
theorem LF.length {H0 H:Hp}:∀ {us:List V} {cs:List (List Nat)},LF H0 H us cs->us.length=cs.length
 | _,_,.nil=>rfl
 | _,_,.cons _ _ r=>by rw[Vd,Vd,LF.length r]
theorem LF.pairs {H0 H:Hp}:∀ {us:List V} {cs:List (List Nat)},LF H0 H us cs->∃ ps:List (Addr × List Int),us=ps.map (fun p=>V.ref p.1)/\ps.map (·.2)=cs.map iN/\∀ p∈ps,∃ c∈cs,p.2=iN c/\H p.1=some (.lst (c.map vN))/\H0 p.1=none
 | _,_,.nil=>⟨[],rfl,rfl,fun p hp=>by cases hp⟩
 | _,_,.cons (a:=a) (c:=c) h1 h2 r=>by
  obtain⟨ps,e1,e2,e3⟩:=LF.pairs r
  refine⟨(a,iN c)::ps,by rw[e1]; rfl,by rw[Vw,Vw,e2],fun p hp=>?_⟩
  rcases List.mem_cons.mp hp with z | z
  ·subst z
   exact⟨c,UW,rfl,h1,h2⟩
  ·obtain⟨c',h3,h4⟩:=e3 p z
   exact⟨c',U9 _ h3,h4⟩
theorem dZ (c:List Nat):(iN c).map ZP=c:=by
 unfold iN
 rw[XQ]
 exact (aa6 fun a _=>Vu a).trans (List.map_id c)
theorem LF.ordered {H0 H:Hp} {cs:List (List Nat)} {ps:List (Addr × List Int)} (h:∀ p∈ps,∃ c∈cs,p.2=iN c/\H p.1=some (.lst (c.map vN))/\H0 p.1=none):∀ {qs:List (Addr × List Int)},(∀ p∈qs,p∈ps)->LF H0 H (qs.map fun p=>V.ref p.1) (qs.map fun p=>p.2.map ZP)
 | [],_=>.nil
 | q::qs,k=>by
  obtain⟨c,_,h2,h3,h4⟩:=h q (k q UW)
  refine .cons ?_ h4 (LF.ordered h fun p hp=>k p (U9 _ hp))
  show H q.1=some (.lst ((q.2.map ZP).map vN))
  rw[h2,dZ]
  exact h3
abbrev yh:Stmt:=top 30
theorem fC:aY ["book","floor","sure","whole","found","known","seen","ahead","giving","rows","row"] ["book","floor"] (aG yh):=⟨rfl,rfl,rfl,by decide+kernel,rfl,by decide+kernel,by decide+kernel⟩
def bQ (n:Nat) (fl:List Int) (bk:List (List Pl)) (ks:List (List Nat)):Prop :=
 (∀ lo,Low n fl bk lo->∀ c,c∈ks ↔ c.Pairwise (· < ·)/\(∀ i∈c,i < n)/\Knot n fl bk lo c)/\ks.Pairwise fun c d=>HT.lexLt (iN c) (iN d)=true
inductive Ax (vs:List V) (H:Hp) (Q:VK):Prop where
 | mk (b f:Addr) (n:Nat) (bk:List (List Pl)) (fl:List Int) (z0:vs=[.ref b,.ref f]) (z1:n<=6) (z2:oA n H b bk) (z3:bk.length=n) (z4:H f=some (.tup (fl.map V.int))) (z5:okG n fl) (z6:∀ (r:Addr) (us:List V) (ks:List (List Nat)) (H':Hp),aO H H'->H r=none->H' r=some (.lst us)->LF H H' us ks->(∀ a,V.ref a∈us->a≠r)->bQ n fl bk ks->Q (.ref r) H'):Ax  vs H Q
def zg:Sp:=fun vs H Q _=>Ax  vs H Q
def KW (n:Nat) (fl:List Int) (bk:List (List Pl)) (lo hi:List Int) (b f su wh fo kn se ah:Addr) (H0 Hi:Hp) (m:Nat) (σ:St) (Hx:Hp):Prop :=
 ∃ (S A F:List (List Nat)) (kvs svs:List (List Key × V)) (ua uf:List V),(∃ u8 u9 u10,σ=[some (.ref b),some (.ref f),some (.ref su),some (.ref wh),some (.ref fo),some (.ref kn),some (.ref se),some (.ref ah),u8,u9,u10])/\m+2 * S.length=2 * 2 ^ n+A.length ∧
 aO H0 Hx/\(∀ a o,Hi a=some o->∃ o',Hx a=some o')/\Ey n fl bk lo hi S A F/\Hx kn=some (.dT kvs)/\xx n fl bk lo Hx kvs/\Hx se=some (.dT svs)/\svs.map (·.1)=S.map (fun c=>kg (al n fl bk lo c))/\Hx ah=some (.lst ua)/\iT Hx ua (A.map fun c=>al n fl bk lo c)/\Hx fo=some (.lst uf)/\LF Hi Hx uf F
theorem Kz {k:Nat} (hk1:1<=k) (F:Fun K "knots" "knots" yh f fd) (B:Bt mg)
  (D_least:Df P w K mg base "least" (k+1) ["book","floor"] (uz Py)) (D_greatest:Df P w K mg base "greatest" (k+1) ["book","floor"] (uz rfF)) (D_put_off:Df P w K mg base "put_off" k ["book","sure","giving","known"] Bu) (D_risers:Df P w K mg base "risers" 1 ["sure","giving"] uh) :
  dR P w K mg base CX0 (k+2) f fd ["book","floor"] zg:=by
 refine F.ok fC (fun vs H Q E h=>?_) (fun cdv A outer s H vs Q E hr h=>?_)
 ·obtain⟨b,f,n,bk,fl,rfl,_⟩:=h
  rfl
 ·obtain⟨b,f,n,bk,fl,rfl,n6,hB,lb,hf,of,q⟩:=h
  refine⟨_,(au (aP (i:=2) fC.nd rfl (aau rfl) (bj D_least hr (aa (pv 0) (aa (pv 1) aj))))
 (au (aP (i:=3) fC.nd rfl (U8 rfl) (bj D_greatest hr (aa (pv 0) (aa (pv 1) aj))))
 (au (bZ (aQ (r:=yQ K) (nC hr.eQ) (pv 3) (pv 2) (aW _)) (aC (aM (bJ aj))) aX)
 (au (aP (i:=4) fC.nd rfl (U8 rfl) (bJ aj))
 (au (aP (i:=5) fC.nd rfl (U8 rfl) Kv)
 (au (aP (i:=6) fC.nd rfl (U8 rfl) (Ka hr.eQ (zK (pv 2) lK (zK (pv 3) lK Pn)) rfl rfl (by simp) (by decide)))
 (au (aP (i:=7) fC.nd rfl (U8 rfl) (bJ (aa (pv 3) aj)))
 (au (lZ Vx (aQ wH (aH (r:=rm K) bI rfl B.len_ d9 (aa (pv 7) aj)) aA (aW _)) (au (aP (i:=8) fC.nd rfl (U8 rfl) (PN VH PySem.F.slot_list_pop PySem.F.type_list_pop Ri (pv 7)))
 (au (aP (i:=9) fC.nd rfl (U8 rfl) (bj D_put_off hr (aa (pv 0) (aa (pv 2) (aa (pv 8) (aa (pv 5) aj))))))
 (au (bZ (jQ (aH (r:=Gx K) (lR rfl) rfl B.all_ zu (aa (bG (L:=["row"]) (F:=["sure"]) (cap:=[2]) rfl (bD rfl rfl (by kernel_rfl)) (dm (pv 9)) (fun _ _ _ _ _=>(aF (i:=0) (bu (by decide+kernel)) rfl (U8 rfl))) (fun _ _ _ _ _=>bF) (fun _ _ _ _ _=>(cU (r:=yQ K) (nC hr.eQ) (pv 0) (pv 1) (aW _)))) aj))) (aC (eG (kZ VH VN VM cB (pv 4) (aa (bR (r:=yW K) qY rfl B.list_ rY (aa (bj D_risers hr (aa (pv 2) (aa (pv 8) aj))) aj)) aj)))) aX)
 (aC (di Vx rfl (dm (pv 9)) (aF (i:=10) fC.nd rfl (U8 rfl)) (aC (bZ (Fo (wV hr.uM (pv 10) (pv 6))) (au (Ip hr.uM (pv 6) (pv 10) lK rfl)
 (aC (eG (kZ VH VN VM cB (pv 7) (aa (pv 10) aj))))) aX))))))))
 (aC (aM (aH (r:=yw K) (pY hr) rfl B.sorted_ (by decide+kernel) (aa (pv 4) aj)))))))))))),?_⟩
  have okb:=hB.okB
  have p6:2 ^ n<=64:=by
   have:2 ^ n<=2 ^ 6:=Xz (by decide) n6
   simpa using this
  refine aV (fun σ H1=>∃ (su:Addr) (lo:List Int),σ=[some (.ref b),some (.ref f),some (.ref su),none,none,none,none,none,none,none,none]/\aO H H1/\H1 su=some (.tup (lo.map V.int))/\Low n fl bk lo) ?q1 ?t1
  case t1 =>
   intro N Rc
   exact⟨_,rfl,_,rfl,b,f,n,bk,fl,rfl,hB,lb,hf,of,fun m1 a1 H1 _ st1 s1 e1=>Rc _ _ ⟨a1,_,rfl,s1,e1,fK lb okb of st1⟩⟩
  case q1 =>
  rintro σ H1 ⟨su,lo,rfl,s1,esu,low⟩
  refine aV (fun σ H2=>∃ (wh:Addr) (hi:List Int),σ=[some (.ref b),some (.ref f),some (.ref su),some (.ref wh),none,none,none,none,none,none,none]/\aO H1 H2/\H2 wh=some (.tup (hi.map V.int))/\okG n hi/\cX hi fl bk=hi/\∀ g,LeG g (cX g fl bk)->LeG g hi) ?q2 ?t2
  case t2 =>
   intro N Rc
   refine⟨_,rfl,_,rfl,b,f,n,bk,fl,rfl,hB.mono s1,lb,s1 _ _ hf,of,fun m2 a2 H2 _ st2 s2 e2=>Rc _ _ ⟨a2,_,rfl,s2,e2,fW lb okb of (jH lb okb of) m2,st2.1,fun g h=>lO lb okb of h m2⟩⟩
  case q2 =>
  rintro σ H2 ⟨wh,hi,rfl,s2,ewh,oh,fx,hup⟩
  have s12:=s1.trans s2
  have lh:LeG lo hi:=low.2.2 hi (by rw[fx]; exact cJ _)
  refine aV (fun σ H3=>σ=[some (.ref b),some (.ref f),some (.ref su),some (.ref wh),none,none,none,none,none,none,none]/\H3=H2/\hi≠lo) ?q3 ?t3
  case t3 =>
   intro N Rc
   refine⟨_,rfl,_,rfl,wh,su,hi,lo,rfl,rfl,SqT.of ewh,SqT.of (s2 _ _ esu),_,rfl,?_⟩
   by_cases e:hi=lo
   ·rw[decide_eq_true e]
    refine ji ⟨small (by show 0<=1000; decide),fun p hp=>?_⟩
    refine q p [] [] _ (s12.trans (aB hp _)) (s12.free hp) aq .nil (fun a h=>by cases h) ⟨fun lo' hlo' c=>⟨fun z=>(by cases z),fun z=>absurd ?_ z.2.2.1⟩,.nil⟩
    have:lo'=lo:=hlo'.uniq low
    subst this
    have m:=cY lb okb of low c
    refine cO (by rw[jf lb okb of low,low.1.1]) ?_ m.1.2.2.1
    have:=hup _ m.1.2.2.2
    rw[e] at this
    exact this
   ·rw[decide_eq_false e]
    exact fU (Rc _ _ ⟨rfl,rfl,e⟩)
  case q3 =>
  rintro σ H3 ⟨rfl,rfl,hne⟩
  refine aV (fun σ H4=>∃ fo:Addr,σ=[some (.ref b),some (.ref f),some (.ref su),some (.ref wh),some (.ref fo),none,none,none,none,none,none]/\aO H3 H4/\H3 fo=none/\H4 fo=some (.lst [])) ?q4 ?t4
  case t4 =>
   intro N Rc
   exact⟨small (by show 0<=1000; decide),fun p hp=>Rc _ _ ⟨p,rfl,aB hp _,hp,aq⟩⟩
  case q4 =>
  rintro σ H4 ⟨fo,rfl,s4,ffo,efo⟩
  refine aV (fun σ H5=>∃ kn:Addr,σ=[some (.ref b),some (.ref f),some (.ref su),some (.ref wh),some (.ref fo),some (.ref kn),none,none,none,none,none]/\aO H4 H5/\H4 kn=none/\H5 kn=some (.dT [])) ?q5 ?t5
  case t5 =>
   intro N Rc
   exact fun p hp=>Rc _ _ ⟨p,rfl,aB hp _,hp,aq⟩
  case q5 =>
  rintro σ H5 ⟨kn,rfl,s5,fkn,ekn⟩
  have s35:=s4.trans s5
  refine aV (fun σ H6=>∃ (se:Addr) (svs:List (List Key × V)),σ=[some (.ref b),some (.ref f),some (.ref su),some (.ref wh),some (.ref fo),some (.ref kn),some (.ref se),none,none,none,none]/\aO H5 H6/\H5 se=none/\H6 se=some (.dT svs)/\svs.map (·.1)=[kg lo,kg hi]) ?q6 ?t6
  case t6 =>
   intro N Rc p hp
   have nk:kg lo≠kg hi:=fun z=>hne (LC z).symm
   have e1:putK ([]:List (List Key × V)) (kg lo) (.bl true)=[(kg lo,.bl true)]:=oX _ Ku
   have e2:putK ([(kg lo,.bl true)]:List (List Key × V)) (kg hi) (.bl true)=[(kg lo,.bl true),(kg hi,.bl true)]:=oX _ (dz nk)
   refine⟨_,rfl,_,rfl,[],kg lo,su,aq,rfl,?_,aD (by show 0<=1000; decide),_,kg hi,wh,aq,rfl,?_,aD (by rw[e1]; show 1<=1000; decide),Rc _ _ ⟨p,_,rfl,aJ (aJ (aB hp _) hp _) hp _,hp,aq,by rw[e1,e2]; rfl⟩⟩
   ·rw[Oe]
    exact aB hp _ _ _ (s35 _ _ (s2 _ _ esu))
   ·rw[Oe]
    exact aJ (aB hp _) hp _ _ _ (s35 _ _ ewh)
  case q6 =>
  rintro σ H6 ⟨se,svs0,rfl,s6,fse,ese,esv⟩
  refine aV (fun σ H7=>∃ ah:Addr,σ=[some (.ref b),some (.ref f),some (.ref su),some (.ref wh),some (.ref fo),some (.ref kn),some (.ref se),some (.ref ah),none,none,none]/\aO H6 H7/\H6 ah=none/\H7 ah=some (.lst [.ref wh])) ?q7 ?t7
  case t7 =>
   intro N Rc
   exact⟨_,rfl,small (by show 1<=1000; decide),fun p hp=>Rc _ _ ⟨p,rfl,aB hp _,hp,aq⟩⟩
  case q7 =>
  rintro σ Hi ⟨ah,rfl,s7,fah,eah⟩
  have s3i:=s35.trans (s6.trans s7)
  have kn3:H3 kn=none:=s4.free fkn
  have se3:H3 se=none:=s35.free fse
  have ah3:H3 ah=none:=(s35.trans s6).free fah
  have efoi:=(s5.trans (s6.trans s7)) _ _ efo
  have ekni:=(s6.trans s7) _ _ ekn
  have esei:=s7 _ _ ese
  have nfa:fo≠ah:=fun z=>by rw[← z,(s5.trans s6) _ _ efo] at fah; cases fah
  have alt:=K5 lb okb of low oh fx hup lh
  have rtop:ris n lo hi≠[]:=fun z=>hne (by
   rw[← alt] at z
   have:=O9 lb okb of low z
   rw[alt] at this
   exact this)
  have hBi:=hB.mono s12
  refine aV (fun σ Hx=>∃ (S F:List (List Nat)) (uf:List V),(∃ u8 u9 u10,σ=[some (.ref b),some (.ref f),some (.ref su),some (.ref wh),some (.ref fo),some (.ref kn),some (.ref se),some (.ref ah),u8,u9,u10])/\aO H3 Hx/\Ey n fl bk lo hi S [] F/\Hx fo=some (.lst uf)/\LF Hi Hx uf F) ?qR ?tW
  case qR =>
   rintro σ Hx ⟨S,Fs,uf,⟨u8,u9,u10,rfl⟩,sx,sr,efx,lf⟩
   obtain⟨ps,e1,e2,e3⟩:=lf.pairs
   subst e1
   have fl63:Fs.length < 64:=by
    have h1:=dq (m:=S.erase []) sr.fN fun c hc=>(aaZ ((sr.fI c).mp hc).2.2.1).mpr ((sr.fI c).mp hc).1
    rw[aav sr.e0] at h1
    have h2:=sr.len
    have h3:0 < S.length:=List.length_pos_of_mem sr.e0
    lia
   have lps:ps.length=Fs.length:=by
    have:=congrArg aap e2
    rw[Uy,Uy] at this
    exact this
   have ndp:(ps.map (·.2)).Nodup:=by
    rw[e2]
    exact List.Pairwise.map _ (fun a b ne e=>ne (by rw[← dZ a,← dZ b,e])) sr.fN
   refine⟨_,rfl,fo,ps,rfl,SqL.of efx,by lia,fun p hp=>?_,ndp,fun qs pq pw l hl=>?_⟩
   ·obtain⟨c,_,h2,h3,_⟩:=e3 p hp
    exact SqL.of (h3.trans (by rw[h2,jc]; rfl))
   ·have inp:∀ p∈qs,p∈ps:=fun p hp=>pq.mem_iff.mp hp
    have sn:=aB hl (.lst (qs.map fun p=>V.ref p.1))
    have lo':=LF.ordered (qs:=qs) e3 inp
    have lo2:LF H (upd Hx l (.lst (qs.map fun p=>V.ref p.1))) (qs.map fun p=>V.ref p.1) (qs.map fun p=>p.2.map ZP):=by
     have:∀ {us cs},LF Hi Hx us cs->LF H (upd Hx l (.lst (qs.map fun p=>V.ref p.1))) us cs:=by
      intro us cs z
      induction z with
      | nil=>exact .nil
      | cons h1 h2 _ ih=>exact .cons (sn _ _ h1) ((s12.trans s3i).free h2) ih
     exact this lo'
    have memF:∀ c,c∈(qs.map fun p=>p.2.map ZP) ↔ c∈Fs:=fun c=>by
     have e4:ps.map (fun p=>p.2.map ZP)=Fs:=by
      have:=congrArg (List.map (List.map ZP)) e2
      rw[XQ,XQ] at this
      exact this.trans ((aa6 fun a _=>dZ a).trans (List.map_id Fs))
     rw[← e4]
     exact (pq.map _).mem_iff
    refine q l _ _ _ ((s12.trans sx).trans sn) ((s12.trans sx).free hl) aq lo2 (fun a ha=>?_) ⟨fun lo2 hlo2 c=>?_,?_⟩
    ·obtain⟨p,hp,e⟩:=List.mem_map.mp ha
     obtain⟨c,_,_,h3,_⟩:=e3 p (inp p hp)
     intro z
     cases e
     rw[z,hl] at h3
     cases h3
    ·have:lo2=lo:=hlo2.uniq low
     subst this
     rw[memF]
     exact sr.done lb okb of low hup c
    ·rw[YH]
     refine pw.imp_of_mem fun {a b} ha hb h=>?_
     obtain⟨c,_,h2,_⟩:=e3 a (inp a ha)
     obtain⟨d,_,h3,_⟩:=e3 b (inp b hb)
     rw[h2,h3,dZ,dZ,← h2,← h3]
     exact h
  case tW =>
   intro N Rc
   have sr0:Ey n fl bk lo hi [[],ris n lo hi] [ris n lo hi] []:=by
    refine⟨fun c hc=>?_,?_,by simp,by simp,fun c hc=>?_,by simp,fun c hc hA c0=>?_,.nil,fun c=>⟨fun z=>(by cases z),fun z=>?_⟩⟩
    ·rcases List.mem_cons.mp hc with z | z
     ·rw[z,jP lb okb of low,Ms]
     ·rw[List.mem_singleton.mp z,alt]
    ·refine List.nodup_cons.mpr ⟨fun z=>rtop (List.mem_singleton.mp z).symm,by simp⟩
    ·rw[List.mem_singleton.mp hc]
     exact⟨by simp,rtop⟩
    ·rcases List.mem_cons.mp hc with z | z
     ·exact absurd z c0
     ·exact absurd z hA
    ·rcases List.mem_cons.mp z.1 with y | y
     ·exact absurd y z.2.2.1
     ·exact absurd y z.2.1
   refine⟨KW n fl bk lo hi b f su wh fo kn se ah H3 Hi,⟨2 * 2 ^ n+1 - 4,[[],ris n lo hi],[ris n lo hi],[],[],svs0,[.ref wh],[],⟨_,_,_,rfl⟩,?_,s3i,fun a o e=>⟨o,e⟩,sr0,ekni,⟨.nil,fun p hp=>by cases hp⟩,esei,?_,eah,?_,efoi,.nil⟩,?_⟩
   ·have:=sr0.len
    show _+2 * 2=2 * 2 ^ n+1
    have h2:([[],ris n lo hi]:List (List Nat)).length=2:=rfl
    lia
   ·rw[esv,Vw,Vw,Z5,jP lb okb of low,alt]
   ·rw[Vw,Z5,alt]
    exact .cons (s3i _ _ ewh) (by rw[oh.1]; lia) .nil
   rintro m σ Hx ⟨S,Ap,Fs,kvs,svs,ua,uf,⟨u8,u9,u10,rfl⟩,hm,sx,kept,sr,ekx,kno,esx,esk,eax,gax,efx,lf⟩
   refine⟨_,rfl,ah,_,rfl,.inl (SqL.of eax),_,_,rfl,rfl,_,rfl,?_⟩
   rcases List.eq_nil_or_concat Ap with hA | ⟨A',c,hA⟩
   ·subst hA
    cases gax
    exact fU (Rc _ _ ⟨S,Fs,uf,⟨_,_,_,rfl⟩,sx,sr,efx,lf⟩)
   rw[List.concat_eq_append] at hA
   subst hA
   rw[U3] at gax
   obtain⟨ua',ga,rfl,gax',ega0⟩:=gax.Lh
   have ega:Hx ga=some (.tup ((al n fl bk lo c).map V.int)):=ega0
   rw[decide_eq_true (show (((ua'++[V.ref ga]).length:Nat):Int) > 0 by rw[Va]; have:([V.ref ga]:List V).length=1:=rfl; lia)]
   refine ji ⟨fun σ' H'=>∃ m',m' < m/\KW n fl bk lo hi b f su wh fo kn se ah H3 Hi m' σ' H',fun _ _ h=>h,?_⟩
   obtain⟨cS,c0⟩:=sr.aS c (List.mem_append.mpr (.inr (List.mem_singleton.mpr rfl)))
   have hcl:=sr.cl c cS
   have c12:c.length<=6:=by
    rw[← hcl]
    exact Wd (YC _ _) (by rw[Vt]; exact n6)
   refine aV (fun σ Hy=>σ=[some (.ref b),some (.ref f),some (.ref su),some (.ref wh),some (.ref fo),some (.ref kn),some (.ref se),some (.ref ah),some (.ref ga),u9,u10]/\Hy=upd Hx ah (.lst ua')) ?qp ?tp
   case tp =>
    intro N2 Rc2
    refine⟨_,rfl,.inl ⟨rfl,_,SqL.of eax⟩,ah,_,.ref ga,rfl,rfl,eax,by simp,Rc2 _ _ ⟨rfl,by rw[List.dropLast_concat]⟩⟩
   case qp =>
   rintro σ Hy ⟨rfl,eHy⟩
   have sHy:aO H3 Hy:=by rw[eHy]; exact aJ sx ah3 _
   have yo:∀ a o,a≠ah->Hx a=some o->Hy a=some o:=fun a o na e=>by rw[eHy,bB na]; exact e
   have nka:kn≠ah:=fun z=>by rw[z,eax] at ekx; cases ekx
   have nsa:se≠ah:=fun z=>by rw[z,eax] at esx; cases esx
   have nsk:se≠kn:=fun z=>by rw[z,ekn] at fse; cases fse
   have tyo:∀ a xs,Hx a=some (HO.tup xs)->Hy a=some (HO.tup xs):=fun a xs e=>yo a _ (fun z=>by rw[z,eax] at e; cases e) e
   have eya:Hy ah=some (.lst ua'):=by rw[eHy]; exact aq
   refine aV (fun σ Hz=>∃ (ro:Addr) (ur:List V) (kvs':List (List Key × V)),σ=[some (.ref b),some (.ref f),some (.ref su),some (.ref wh),some (.ref fo),some (.ref kn),some (.ref se),some (.ref ah),some (.ref ga),some (.ref ro),u10]/\aO H3 Hz/\(∀ a o,a≠kn->Hy a=some o->Hz a=some o)/\Hy ro=none/\Hz ro=some (.lst ur)/\iT Hz ur (c.map fun one=>al n fl bk lo (wo c one))/\Hz kn=some (.dT kvs')/\xx n fl bk lo Hz kvs') ?qo ?to
   case to =>
    intro N2 Rc2
    exact⟨_,rfl,_,rfl,_,rfl,_,rfl,b,su,ga,kn,n,bk,fl,lo,c,kvs,H3,rfl,by lia,sHy,kn3,hBi,lb,of,s2 _ _ esu,low,tyo _ _ ega,hcl,yo _ _ nka ekx,kno.bL tyo,fun r us kvs' H' h1 h2 h3 h4 h5 h6 h7=>Rc2 _ _ ⟨r,us,kvs',rfl,h1,h2,h3,h4,h5,h6,h7⟩⟩
   case qo =>
   rintro σ Hz ⟨ro,ur,kvs',rfl,sz,yz,fro,ero,gr,ekz,knz⟩
   have efy:=yo _ _ nfa efx
   have nfk:fo≠kn:=fun z=>by rw[z,ekx] at efx; cases efx
   have nfs:fo≠se:=fun z=>by rw[z,esx] at efx; cases efx
   have efz:=yz _ _ nfk efy
   have ezs:Hz se=some (.dT svs):=yz _ _ nsk (yo _ _ nsa esx)
   have eza:Hz ah=some (.lst ua'):=yz _ _ nka.symm eya
   have tyz:∀ a xs,Hy a=some (HO.tup xs)->Hz a=some (HO.tup xs):=fun a xs e=>yz a _ (fun z=>by rw[z,yo _ _ nka ekx] at e; cases e) e
   have egz:=tyz _ _ (tyo _ _ ega)
   have keptz:∀ a o,Hi a=some o->∃ o',Hz a=some o':=fun a o e=>by
    obtain⟨o',e'⟩:=kept a o e
    by_cases z1:a=kn
    ·rw[z1]; exact⟨_,ekz⟩
    ·by_cases z2:a=ah
     ·rw[z2]; exact⟨_,eza⟩
     ·exact⟨o',yz _ _ z1 (yo _ _ z2 e')⟩
   have fresh:∀ {a:Addr} {G:Hp},(∀ b o,Hz b=some o->∃ o',G b=some o')->G a=none->Hi a=none:=fun {a G} kp e=>by
    cases z:Hi a with
    | none=>rfl
    | some o =>
     obtain⟨o1,h1⟩:=keptz a o z
     obtain⟨o2,h2⟩:=kp a o1 h1
     rw[e] at h2
     cases h2
   have lfz:LF Hi Hz uf Fs:=lf.keep fun a c' ha e=>yz _ _ (fun z=>by rw[z,ekni] at ha; cases ha) (yo _ _ (fun z=>by rw[z,eah] at ha; cases ha) e)
   have nro:ro≠ah/\ro≠se/\ro≠fo:=⟨fun z=>(by rw[z,eya] at fro; cases fro),fun z=>(by rw[z,yo _ _ nsa esx] at fro; cases fro),fun z=>(by rw[z,efy] at fro; cases fro)⟩
   have luf:uf.length<=64:=by
    rw[lf.length]
    have h1:=dq (m:=S) sr.fN fun c hc=>((sr.fI c).mp hc).1
    have:=sr.len
    lia
   refine aV (fun σ Hw=>∃ uf':List V,σ=[some (.ref b),some (.ref f),some (.ref su),some (.ref wh),some (.ref fo),some (.ref kn),some (.ref se),some (.ref ah),some (.ref ga),some (.ref ro),u10]/\aO H3 Hw/\(∀ a o,a≠fo->Hz a=some o->Hw a=some o)/\Hw fo=some (.lst uf')/\LF Hi Hw uf' (if (∀ one∈c,al n fl bk lo (wo c one)=lo) then Fs++[c] else Fs)) ?qf ?tf
   case tf =>
    intro N2 Rc2
    have lrw:(c.map fun one=>al n fl bk lo (wo c one)).length<=6:=by rw[Uy]; exact c12
    have lur:=gr.length
    refine⟨_,rfl,ro,rfl,⟨_,SqL.of ero⟩,fun D hD=>cT (K:=K) (a:=ro) (xs:=ur) (fun i zs σ' Hq=>(∃ u,σ'=[u,some (.ref su)])/\aO Hz Hq/\Hq D=some (.lst zs)/\zs=(((c.map fun one=>al n fl bk lo (wo c one)).take i).map fun g=>decide (g=lo)).map V.bl)
     ⟨⟨_,rfl⟩,aB hD _,aq,rfl⟩ (fun i zs σ' Hq _ h=>⟨SqL.of (h.2.1 _ _ ero),h.2.2.1⟩) ?_ ?_⟩
    ·rintro i zs x σ' Hq hx ⟨⟨u,rfl⟩,sq,eDq,rfl⟩
     obtain⟨a,g,rfl,hg,ea,_⟩:=gr.at hx
     refine gT ?_
     refine⟨_,rfl,_,rfl,a,su,g,lo,rfl,rfl,SqT.of (sq _ _ ea),SqT.of ((sz.trans sq) _ _ (s2 _ _ esu)),eDq,aD (by rw[Uy,Uy,Vc]; lia),⟨_,rfl⟩,aJ sq hD _,aq,?_⟩
     rw[Vz,hg,U3,U3]
     rfl
    ·rintro zs σ' Hq ⟨_,sq,eDq,rfl⟩
     rw[lur,Ve] at eDq
     refine⟨D,_,rfl,SqL.of eDq,_,rfl,?_⟩
     have hall:(((c.map fun one=>al n fl bk lo (wo c one)).map fun g=>decide (g=lo)).all fun b=>b)=decide (∀ one∈c,al n fl bk lo (wo c one)=lo):=by
      rw[Zn,abL]
      simp
     rw[hall]
     by_cases e:∀ one∈c,al n fl bk lo (wo c one)=lo
     ·rw[decide_eq_true e]
      have efq:=sq _ _ efz
      refine ji ⟨_,rfl,.inl ⟨rfl,_,SqL.of efq⟩,_,rfl,_,rfl,su,ga,n,lo,_,rfl,by lia,(sz.trans sq) _ _ (s2 _ _ esu),low.1,sq _ _ egz,(cY lb okb of low c).1.1,fun rr Hr sr' err=>⟨rr,c.map vN,rfl,.inr (SqT.of (err.trans (by rw[hcl]))),fun l hl=>?_⟩⟩
      have sn:=aB hl (.lst (c.map vN))
      have sqr:=sq.trans sr'
      have efl:=(sr'.trans sn) _ _ efq
      refine⟨fo,uf,_,rfl,rfl,efl,aD (by lia),?_⟩
      ·refine Rc2 _ _ ⟨_,rfl,?_,fun a o na e'=>by rw[bB na]; exact (sqr.trans sn) _ _ e',aq,?_⟩
       ·exact aJ (sz.trans (sqr.trans sn)) ffo _
       ·rw[if_pos e]
        have hl0:Hi l=none:=fresh (G:=Hr) (fun b o e'=>⟨o,sqr _ _ e'⟩) hl
        have lfn:LF Hi (upd Hr l (.lst (c.map vN))) uf Fs:=lfz.keep fun a c' ha e'=>(sqr.trans sn) _ _ e'
        exact (LF.snoc aq hl0 lfn).keep fun a c' ha e'=>by
         rw[bB (fun z=>by rw[z,efoi] at ha; cases ha)]
         exact e'
     ·rw[decide_eq_false e]
      refine fU (Rc2 _ _ ⟨uf,rfl,sz.trans sq,fun a o _ e'=>sq _ _ e',sq _ _ efz,?_⟩)
      rw[if_neg e]
      exact lfz.keep fun a c' ha e'=>sq _ _ e'
   case qf =>
   rintro σ Hw ⟨uf',rfl,sw,zw,efw,lfw⟩
   have erw:Hw ro=some (.lst ur):=zw _ _ nro.2.2 ero
   have esw:Hw se=some (.dT svs):=zw _ _ nfs.symm ezs
   have eaw:Hw ah=some (.lst ua'):=zw _ _ nfa.symm eza
   have ekw:Hw kn=some (.dT kvs'):=zw _ _ nfk.symm ekz
   have tzw:∀ a xs,Hz a=some (HO.tup xs)->Hw a=some (HO.tup xs):=fun a xs e=>zw a _ (fun z=>by rw[z,efz] at e; cases e) e
   have gaw:iT Hw ua' (A'.map fun c=>al n fl bk lo c):=gax'.bL fun a xs e=>tzw _ _ (tyz _ _ (tyo _ _ e))
   have grw:=gr.bL tzw
   have keptw:∀ a o,Hi a=some o->∃ o',Hw a=some o':=fun a o e=>by
    obtain⟨o',e'⟩:=keptz a o e
    by_cases z1:a=fo
    ·rw[z1]; exact⟨_,efw⟩
    ·exact⟨o',zw _ _ z1 e'⟩
   refine⟨_,rfl,ro,rfl,⟨_,SqL.of erw⟩,jE (K:=K) (a:=ro) (xs:=ur) (fun i σ Hv=>∃ (Nn:List (List Nat)) (svs2:List (List Key × V)) (ua2:List V),(∃ v10,σ=[some (.ref b),some (.ref f),some (.ref su),some (.ref wh),some (.ref fo),some (.ref kn),some (.ref se),some (.ref ah),some (.ref ga),some (.ref ro),v10])/\aO H3 Hv/\(∀ a o,a≠se->a≠ah->Hw a=some o->Hv a=some o)/\Hv se=some (.dT svs2)/\svs2.map (·.1)=(S++Nn).map (fun c=>kg (al n fl bk lo c))/\Hv ah=some (.lst ua2)/\iT Hv ua2 ((A'++Nn).map fun c=>al n fl bk lo c)/\Nn.Nodup/\(∀ d∈Nn,d ∉ S/\ris n lo (al n fl bk lo d)=d)/\∀ one∈c.take i,ris n lo (al n fl bk lo (wo c one))∈S++Nn)
    ⟨[],svs,ua',⟨_,rfl⟩,sw,fun a o _ _ e=>e,esw,by rw[XJ]; exact esk,eaw,by rw[XJ]; exact gaw,.nil,fun d hd=>(by cases hd),fun one ho=>(by rw[We] at ho; cases ho)⟩ (fun i σ Hv _ h=>?_) ?_ ?_⟩
   ·obtain⟨_,_,_,_,_,kp,_⟩:=h
    exact SqL.of (kp _ _ nro.2.1 nro.1 erw)
   ·rintro i x σ Hv hx ⟨Nn,svs2,ua2,⟨v10,rfl⟩,sv,kp,es2,ek2,ea2,g2,nn,nS,al2⟩
    obtain⟨a,g,rfl,hg,ea,_⟩:=grw.at hx
    rw[Vj] at hg
    obtain⟨one,hone,rfl⟩:=Option.map_eq_some_iff.mp hg
    have ea':Hv a=some (.tup ((al n fl bk lo (wo c one)).map V.int)):=kp _ _ (fun z=>by rw[z,esw] at ea; cases ea) (fun z=>by rw[z,eaw] at ea; cases ea) ea
    have hd:=DX lb okb of low (wo c one)
    have key:Hv a=some (.tup ((kg (al n fl bk lo (wo c one))).map kV)):=by rw[Oe]; exact ea'
    have nds:(S++Nn).Nodup:=List.nodup_append.mpr ⟨sr.nd,nn,fun a ha b hb' e=>(nS b hb').1 (e▸ha)⟩
    have lSN:(S++Nn).length<=64:=by
     have:=dq (m:=bx n) nds fun d hd'=>by
      have:ris n lo (al n fl bk lo d)=d:=by
       rcases List.mem_append.mp hd' with z | z
       ·exact sr.cl d z
       ·exact (nS d z).2
      rw[← this]
      exact dM _ n
     rw[gM] at this
     lia
    have lsv:svs2.length=(S++Nn).length:=by
     have:=congrArg aap ek2
     rw[Uy,Uy] at this
     exact this
    have lua:=g2.length
    rw[Uy,Va] at lua
    have lA:A'.length<=64:=by
     have h1:=dq (m:=S) (List.nodup_append.mp sr.aN).1 fun d hd'=>(sr.aS d (List.mem_append.mpr (.inl hd'))).1
     rw[Va] at lSN
     lia
    have nxt:∀ {X:List (List Nat)},(∀ d∈S++Nn,d∈X)->ris n lo (al n fl bk lo (wo c one))∈X->∀ o'∈c.take (i+1),ris n lo (al n fl bk lo (wo c o'))∈X:=fun {X} h1 h2 o' ho=>by
     rw[Vz,hone,abW] at ho
     rcases ho with z | z
     ·exact h1 _ (al2 o' z)
     ·cases List.mem_singleton.mp z
      exact h2
    refine gN ?_
    refine⟨_,rfl,_,rfl,se,jL svs2 (kg (al n fl bk lo (wo c one))),rfl,Jh.t es2 key,_,rfl,?_⟩
    cases hv:jL svs2 (kg (al n fl bk lo (wo c one))) with
    | some v =>
     refine fU ⟨Nn,svs2,ua2,⟨_,rfl⟩,sv,kp,es2,ek2,ea2,g2,nn,nS,nxt (fun d z=>z) ?_⟩
     unfold jL at hv
     obtain⟨p,hp,_⟩:=Option.map_eq_some_iff.mp hv
     have k1:p.1=kg (al n fl bk lo (wo c one)):=by simpa using List.find?_some hp
     have k2:p.1∈svs2.map (·.1):=List.mem_map.mpr ⟨p,List.mem_of_find?_eq_some hp,rfl⟩
     rw[ek2] at k2
     obtain⟨d,hd1,hd2⟩:=List.mem_map.mp k2
     have hd3:=LC (hd2.trans k1)
     have hd4:ris n lo (al n fl bk lo d)=d:=by
      rcases List.mem_append.mp hd1 with z | z
      ·exact sr.cl d z
      ·exact (nS d z).2
     rw[← hd3,hd4]
     exact hd1
    | none =>
     have dN:ris n lo (al n fl bk lo (wo c one)) ∉ S++Nn:=fun z=>by
      have:kg (al n fl bk lo (wo c one))∈svs2.map (·.1):=by
       rw[ek2]
       exact List.mem_map.mpr ⟨_,z,by rw[hd]⟩
      obtain⟨p,hp,e⟩:=List.mem_map.mp this
      unfold jL at hv
      exact List.find?_eq_none.mp (Option.map_eq_none_iff.mp hv) p hp (decide_eq_true e)
     refine ji ⟨_,rfl,_,rfl,se,_,rfl,PJ.t es2 key (aD (by lia)),?_⟩
     have ea3:upd Hv se (.dT (putK svs2 (kg (al n fl bk lo (wo c one))) (.bl true))) ah=some (.lst ua2):=by rw[bB nsa.symm]; exact ea2
     refine⟨_,rfl,.inl ⟨rfl,_,SqL.of ea3⟩,_,rfl,ah,ua2,_,rfl,rfl,ea3,aD (by rw[Va] at lSN; lia),?_⟩
     refine⟨Nn++[ris n lo (al n fl bk lo (wo c one))],_,ua2++[.ref a],⟨_,rfl⟩,aJ (aJ sv se3 _) ah3 _,fun a' o' n1 n2 e'=>by rw[bB n2,bB n1]; exact kp _ _ n1 n2 e',by rw[bB nsa]; exact aq,?_,aq,?_,?_,fun d hd'=>?_,nxt (fun d z=>?_) ?_⟩
     ·rw[oX _ hv,U3,ek2,← XH,U3 (l₁:=S++Nn)]
      show _++[kg (al n fl bk lo (wo c one))]=_++[kg (al n fl bk lo (ris n lo (al n fl bk lo (wo c one))))]
      rw[hd]
     ·rw[← XH,U3]
      have t1:=pA (o:=.dT (putK svs2 (kg (al n fl bk lo (wo c one))) (.bl true))) es2
      refine iT.bL (cI ea3) (iT.snoc ?_ (by rw[jf lb okb of low]; lia) (g2.bL t1))
      show upd Hv se _ a=some (.tup ((al n fl bk lo (ris n lo (al n fl bk lo (wo c one)))).map V.int))
      rw[hd]
      exact t1 _ _ ea'
     ·exact List.nodup_append.mpr ⟨nn,by simp,fun x hx' y hy e=>dN (List.mem_append.mpr (.inr (by rw[← List.mem_singleton.mp hy,← e]; exact hx')))⟩
     ·rcases List.mem_append.mp hd' with z | z
      ·exact nS d z
      ·rw[List.mem_singleton.mp z]
       exact⟨fun q=>dN (List.mem_append.mpr (.inl q)),by rw[hd]⟩
     ·rw[← XH]
      exact List.mem_append.mpr (.inl z)
     ·rw[← XH]
      exact List.mem_append.mpr (.inr (List.mem_singleton.mpr rfl))
   ·rintro σ Hv ⟨Nn,svs2,ua2,⟨v10,rfl⟩,sv,kp,es2,ek2,ea2,g2,nn,nS,al2⟩
    rw[grw.length,Uy,Ve] at al2
    have sr2:=Ey.turn lb okb of low sr nn nS al2 rfl
    have l2:=sr2.len
    rw[Va] at l2 hm
    have l1:([c]:List (List Nat)).length=1:=rfl
    have tw:∀ a xs,Hw a=some (HO.tup xs)->Hv a=some (HO.tup xs):=fun a xs e=>kp _ _ (fun z=>by rw[z,esw] at e; cases e) (fun z=>by rw[z,eaw] at e; cases e) e
    refine⟨2 * 2 ^ n+(A'++Nn).length - 2 * (S++Nn).length,by rw[Va,Va]; lia,S++Nn,A'++Nn,_,kvs',svs2,ua2,uf',⟨_,_,_,rfl⟩,by rw[Va,Va]; lia,sv,fun a o e=>?_,sr2,kp _ _ nsk.symm nka ekw,knz.bL fun a xs e=>tw _ _ (tzw _ _ e),es2,ek2,ea2,g2,kp _ _ nfs nfa efw,lfw.keep fun a c' ha e=>kp _ _ (fun z=>by rw[z,esei] at ha; cases ha) (fun z=>by rw[z,eah] at ha; cases ha) e⟩
    obtain⟨o',e'⟩:=keptw a o e
    by_cases z1:a=se
    ·rw[z1]; exact⟨_,es2⟩
    ·by_cases z2:a=ah
     ·rw[z2]; exact⟨_,ea2⟩
     ·exact⟨o',kp _ _ z1 z2 e'⟩
theorem yZ:∀ n,1<=n->n<=6->∀ c∈bx n,c∈bO n:=by
 intro n h1 h6
 match n,h1,h6 with
 | 1,_,_=>decide+kernel
 | 2,_,_=>decide+kernel
 | 3,_,_=>decide+kernel
 | 4,_,_=>decide+kernel
 | 5,_,_=>decide+kernel
 | 6,_,_=>decide+kernel
theorem DP:∀ n,n<=6->(bO n).Pairwise fun a b=>a.length<=b.length/\a≠b:=by
 intro n h6
 match n,h6 with
 | 0,_=>decide+kernel
 | 1,_=>decide+kernel
 | 2,_=>decide+kernel
 | 3,_=>decide+kernel
 | 4,_=>decide+kernel
 | 5,_=>decide+kernel
 | 6,_=>decide+kernel
section
variable {n:Nat} {fl lo:List Int} {bk:List (List Pl)}
theorem Qw (c:List Nat) (one:Nat):(wo c one).Sublist c:=List.filter_sublist
theorem xU:∀ (m:Nat) (c:List Nat),c.length<=m->al n fl bk lo []=lo->al n fl bk lo c≠lo->∃ k,k.Sublist c/\Knot n fl bk lo k
 | 0,c,hl,h0,h=>by
  have:c=[]:=List.length_eq_zero_iff.mp (by lia)
  rw[this] at h
  exact absurd h0 h
 | m+1,c,hl,h0,h=>by
  by_cases e:∀ one∈c,al n fl bk lo (wo c one)=lo
  ·exact⟨c,List.Sublist.refl c,h,e⟩
  ·have ⟨one,h1,h2⟩:∃ one,one∈c/\¬ al n fl bk lo (wo c one)=lo:=by
    refine aai fun z=>e fun i hi=>aai fun q=>z ⟨i,hi,q⟩
   have l2:(wo c one).length < c.length:=by
    unfold wo
    rw[aaT]
    exact⟨one,h1,by simp⟩
   obtain⟨k,hk,kk⟩:=xU m (wo c one) (by lia) h0 h2
   exact⟨k,hk.trans (Qw c one),kk⟩
theorem BX (hb:bk.length=n) (ok:okB bk) (hf:okG n fl) (hlo:Low n fl bk lo) {k c:List Nat} (hk:Knot n fl bk lo k) (hc:Knot n fl bk lo c) (s:∀ i∈k,i∈c):∀ i∈c,i∈k:=by
 intro i hi
 refine X8 fun z=>hk.1 ?_
 have le:=rZ hb ok hf hlo (c:=k) (d:=wo c i) fun j _ hj=>List.mem_filter.mpr ⟨s j hj,decide_eq_true fun q=>z (q▸hj)⟩
 rw[show al n fl bk lo (wo c i)=lo from hc.2 i hi] at le
 exact cO (by rw[jf hb ok hf hlo,hlo.1.1]) le (cY hb ok hf hlo k).1.2.2.1
theorem DK (hb:bk.length=n) (ok:okB bk) (hf:okG n fl) (hlo:Low n fl bk lo) (n1:1<=n) (n6:n<=6) {i:Nat} {c:List Nat} (hc:(bO n)[i]? = some c) :
  Knot n fl bk lo c ↔ al n fl bk lo c≠lo/\∀ k∈(bO n).take i,Knot n fl bk lo k->¬ ∀ j∈k,j∈c:=by
 have up:=DP n n6
 obtain⟨cin,cris⟩:=iQ n6 c (Vl hc)
 refine⟨fun h=>⟨h.1,fun k hk kk s=>?_⟩,fun⟨h1,h2⟩=>?_⟩
 ·have back:=BX hb ok hf hlo kk h s
  have kF:=YT hk
  obtain⟨kin,kris⟩:=iQ n6 k kF
  have e:k=c:=by
   rw[← eX kris kin,← eX cris cin]
   exact abz fun i _=>decide_eq_decide.mpr ⟨fun h=>s i h,fun h=>back i h⟩
  obtain⟨j,hj⟩:=List.mem_iff_getElem?.mp hk
  rw[abi] at hj
  split at hj
  ·rename_i hji
   obtain⟨a1,b1⟩:=List.getElem?_eq_some_iff.mp hj
   obtain⟨a2,b2⟩:=List.getElem?_eq_some_iff.mp hc
   have:=(List.pairwise_iff_getElem.mp up j i a1 a2 hji).2
   rw[b1,b2] at this
   exact this e
  ·cases hj
 ·obtain⟨k,hs,kk⟩:=xU c.length c (U0 _) (jP hb ok hf hlo) h1
  have kris:=cris.sublist hs
  have kin:∀ i∈k,i < n:=fun i hi=>cin i (hs.subset hi)
  by_cases e:k=c
  ·rw[← e]
   exact kk
  ·have lt:k.length < c.length:=by
    have:=hs.length_le
    refine Nat.lt_of_le_of_ne this fun z=>e (hs.eq_of_length z)
   have kF:k∈bO n:=yZ n n1 n6 k (by rw[← eX kris kin]; exact dM _ n)
   obtain⟨j,hj⟩:=List.mem_iff_getElem?.mp kF
   obtain⟨a1,b1⟩:=List.getElem?_eq_some_iff.mp hj
   obtain⟨a2,b2⟩:=List.getElem?_eq_some_iff.mp hc
   have hji:j < i:=by
    rcases WN j i with z | z
    ·exact z
    ·rcases WN i j with y | y
     ·have:=(List.pairwise_iff_getElem.mp up i j a2 a1 y).1
      rw[b1,b2] at this
      lia
     ·have:i=j:=by lia
      subst this
      rw[b1] at b2
      rw[b2] at lt
      lia
   refine absurd (fun x hx=>hs.subset hx) (h2 k ?_ kk)
   exact Vl (by rw[abi,if_pos hji]; exact hj)
theorem bQ.uniq (hb:bk.length=n) (ok:okB bk) (hf:okG n fl) (hlo:Low n fl bk lo) {ks js:List (List Nat)} (h:bQ n fl bk ks) (h':bQ n fl bk js):ks=js:=by
 have m:∀ c,c∈ks ↔ c∈js:=fun c=>(h.1 lo hlo c).trans (h'.1 lo hlo c).symm
 have p1:=h.2
 have p2:=h'.2
 clear h h'
 induction ks generalizing js with
 | nil =>
  cases js with
  | nil=>rfl
  | cons x _=>exact absurd ((m x).mpr UW) (by simp)
 | cons x ks ih =>
  cases js with
  | nil=>exact absurd ((m x).mp UW) (by simp)
  | cons y js =>
   rw[W9] at p1 p2
   have irr:∀ {a b:List Nat},HT.lexLt (iN a) (iN b)=true->HT.lexLt (iN b) (iN a)=true->False:=fun h1 h2=>by
    have:=j0 h1 h2
    rw[iJ] at this
    cases this
   have hxy:x=y:=by
    rcases List.mem_cons.mp ((m x).mp UW) with z | z
    ·exact z
    ·rcases List.mem_cons.mp ((m y).mpr UW) with z' | z'
     ·exact z'.symm
     ·exact (irr (p2.1 x z) (p1.1 y z')).elim
   subst hxy
   have ne:∀ {c},HT.lexLt (iN x) (iN c)=true->c≠x:=fun h e=>by
    rw[e,iJ] at h
    cases h
   refine congrArg _ (ih (fun c=>⟨fun h=>?_,fun h=>?_⟩) p1.2 p2.2)
   ·exact (List.mem_cons.mp ((m c).mp (U9 _ h))).resolve_left (ne (p1.1 c h))
   ·exact (List.mem_cons.mp ((m c).mpr (U9 _ h))).resolve_left (ne (p2.1 c h))
end
abbrev kh:Stmt:=top 53
theorem gZ:aY ["_law_book_here","_law_floor","_law_base","_law_found","_law_crowd_here"] ["_law_book_here","_law_floor"] (aG kh):=⟨rfl,rfl,rfl,by decide+kernel,rfl,by decide+kernel,by decide+kernel⟩
def NoH:Hp:=fun _=>none
inductive wk (vs:List V) (H:Hp) (Q:VK):Prop where
 | mk (b f:Addr) (n:Nat) (bk:List (List Pl)) (fl:List Int) (z0:vs=[.ref b,.ref f]) (z1:1<=n) (z2:n<=6) (z3:oA n H b bk) (z4:bk.length=n) (z5:H f=some (.tup (fl.map V.int))) (z6:okG n fl) (z7:∀ (r:Addr) (us:List V) (ks:List (List Nat)) (H':Hp),aO H H'->H' r=some (.lst us)->LF NoH H' us ks->bQ n fl bk ks->Q (.ref r) H'):wk  vs H Q
def An:Sp:=fun vs H Q _=>wk  vs H Q
theorem LF.at {H0 H:Hp}:∀ {us:List V} {cs:List (List Nat)} {i:Nat} {u:V},LF H0 H us cs->us[i]? = some u->∃ (a:Addr) (c:List Nat),u = .ref a/\cs[i]? = some c/\H a=some (.lst (c.map vN))
 | _,_,_,_,.nil,h=>by simp at h
 | _,_,0,_,.cons h1 _ _,e=>by
  cases (show some _=some _ from e)
  exact⟨_,_,rfl,rfl,h1⟩
 | _,_,i+1,_,.cons _ _ r,e=>by
  obtain⟨a,c,k1,k2,k3⟩:=LF.at (i:=i) r (by simpa using e)
  exact⟨a,c,k1,by simpa using k2,k3⟩
theorem LF.nob {H0 H:Hp}:∀ {us:List V} {cs:List (List Nat)},LF H0 H us cs->LF NoH H us cs
 | _,_,.nil=>.nil
 | _,_,.cons h1 _ r=>.cons h1 rfl (LF.nob r)
def Ca (x:Addr):Hp:=fun a=>if a=x then some (.lst []) else none
theorem Jm {x a:Addr} (h:Ca x a=none):a≠x:=fun z=>by
 unfold Ca at h
 rw[if_pos z] at h
 cases h
theorem Jp {x a:Addr} (h:a≠x):Ca x a=none:=if_neg h
open Classical in
theorem uL {k:Nat} (F:Fun K "_law_knots" "_law_knots" kh f fd) (B:Bt mg)
  (D_law_least:Df P w K mg base "_law_least" (k+1) ["_law_book_here","_law_floor"] oK) (D_law_crowds:Df P w K mg base "_law_crowds" 1 ["_law_n"] zM) (D_law_alone:Df P w K mg base "_law_alone" k ["_law_book_here","_law_floor","_law_base","_law_crowd_here"] oO) :
  dR P w K mg base CX0 (k+2) f fd ["_law_book_here","_law_floor"] An:=by
 refine F.ok gZ (fun vs H Q E h=>?_) (fun cdv A outer s H vs Q E hr h=>?_)
 ·obtain⟨b,f,n,bk,fl,rfl,_⟩:=h
  rfl
 ·obtain⟨b,f,n,bk,fl,rfl,n1,n6,hB,lb,hf,of,q⟩:=h
  refine⟨_,(au (aP (i:=2) gZ.nd rfl (U8 rfl) (bj D_law_least hr (aa (pv 0) (aa (pv 1) aj))))
 (au (aP (i:=3) gZ.nd rfl (U8 rfl) (bJ aj))
 (au (di Vx rfl (dm (bj D_law_crowds hr (aa (aH (r:=rm K) bI rfl B.len_ d9 (aa (pv 0) aj)) aj))) (aF (i:=4) gZ.nd rfl (aau rfl)) (aC (bZ (aQ (r:=Cj K) (qm hr.eQ) (bj D_law_alone hr (aa (pv 0) (aa (pv 1) (aa (pv 2) (aa (pv 4) aj))))) (pv 2) (aW _)) (aC (bZ (zP (jQ (aH (r:=Mw K) (vh rfl) rfl B.any_ K1 (aa (bG (L:=["_law_knot"]) (F:=["_law_crowd_here"]) (cap:=[4]) rfl (bD rfl rfl (by kernel_rfl)) (dm (pv 3)) (fun _ _ _ _ _=>(aF (i:=0) (bu (by decide+kernel)) rfl (U8 rfl))) (fun _ _ _ _ _=>bF) (fun _ _ _ _ _=>(aH (r:=Gx K) (lR rfl) rfl B.all_ zu (aa (bG (L:=["_law_one"]) (F:=["_law_crowd_here"]) (cap:=[1]) rfl (bD rfl rfl (by kernel_rfl)) (uo K rfl (pv 0)) (fun _ _ _ _ _=>(aF (i:=0) (bu (by decide+kernel)) rfl (U8 rfl))) (fun _ _ _ _ _=>bF) (fun _ _ _ _ _=>(cU (r:=rIn K false) iG (pv 0) (pv 1) rfl))) aj)))) aj)))) (aC (eG (kZ VH VN VM cB (pv 3) (aa (pv 4) aj)))) aX)) aX)))
 (aC (aM (aH (r:=yw K) (pY hr) rfl B.sorted_ (by decide+kernel) (aa (pv 3) aj))))))),?_⟩
  have okb:=hB.okB
  refine aV (fun σ H1=>∃ (ba:Addr) (lo:List Int),σ=[some (.ref b),some (.ref f),some (.ref ba),none,none]/\aO H H1/\H1 ba=some (.tup (lo.map V.int))/\Low n fl bk lo) ?q1 ?t1
  case t1 =>
   intro N Rc
   exact⟨_,rfl,_,rfl,b,f,n,bk,fl,rfl,hB,lb,hf,of,fun r z H1 s1 e1 low=>Rc _ _ ⟨r,z,rfl,s1,e1,low⟩⟩
  case q1 =>
  rintro σ H1 ⟨ba,lo,rfl,s1,eba,low⟩
  refine aV (fun σ H2=>∃ fo:Addr,σ=[some (.ref b),some (.ref f),some (.ref ba),some (.ref fo),none]/\aO H1 H2/\H1 fo=none/\H2 fo=some (.lst [])) ?q2 ?t2
  case t2 =>
   intro N Rc
   exact⟨small (by show 0<=1000; decide),fun p hp=>Rc _ _ ⟨p,rfl,aB hp _,hp,aq⟩⟩
  case q2 =>
  rintro σ H2 ⟨fo,rfl,s2,ffo,efo⟩
  obtain⟨us0,hb0,rb0,l12⟩:=hB.mono (s1.trans s2)
  have lu:=rb0.length
  refine aV (fun σ Hx=>∃ (uf:List V),(∃ u,σ=[some (.ref b),some (.ref f),some (.ref ba),some (.ref fo),u])/\aO H1 Hx/\Hx fo=some (.lst uf)/\LF NoH Hx uf ((bO n).filter fun c=>decide (Knot n fl bk lo c))) ?qR ?tF
  case qR =>
   rintro σ Hx ⟨uf,⟨u,rfl⟩,sx,efx,lf⟩
   obtain⟨ps,e1,e2,e3⟩:=lf.pairs
   subst e1
   have ndF:((bO n).filter fun c=>decide (Knot n fl bk lo c)).Nodup:=((DP n n6).imp fun h=>h.2).filter _
   have l63:((bO n).filter fun c=>decide (Knot n fl bk lo c)).length < 64:=by
    have h1:=dq (m:=(bO n).erase []) ndF fun c hc=>by
     obtain⟨a1,a2⟩:=List.mem_filter.mp hc
     refine (aaZ fun z=>?_).mpr a1
     rw[z] at a2
     exact (of_decide_eq_true a2).1 (jP lb okb of low)
    have h0:[]∈bO n:=yZ n n1 n6 [] (by have:=dM (fun _=>false) n; rw[List.filter_eq_nil_iff.mpr (fun _ _=>by simp)] at this; exact this)
    rw[aav h0,fG n1 n6] at h1
    have:2 ^ n<=2 ^ 6:=Xz (by decide) n6
    have:(2:Nat) ^ 6=64:=rfl
    have:0 < 2 ^ n:=Nat.pow_pos (by decide)
    lia
   have lps:ps.length=((bO n).filter fun c=>decide (Knot n fl bk lo c)).length:=by
    have:=congrArg aap e2
    rw[Uy,Uy] at this
    exact this
   have ndp:(ps.map (·.2)).Nodup:=by
    rw[e2]
    exact List.Pairwise.map _ (fun a b ne e=>ne (by rw[← dZ a,← dZ b,e])) ndF
   refine⟨_,rfl,fo,ps,rfl,SqL.of efx,by lia,fun p hp=>?_,ndp,fun qs pq pw l hl=>?_⟩
   ·obtain⟨c,_,h2,h3,_⟩:=e3 p hp
    exact SqL.of (h3.trans (by rw[h2,jc]; rfl))
   ·have inp:∀ p∈qs,p∈ps:=fun p hp=>pq.mem_iff.mp hp
    have sn:=aB hl (.lst (qs.map fun p=>V.ref p.1))
    have lo':=(LF.ordered (qs:=qs) e3 inp).keep fun a c _ e=>sn _ _ e
    refine q l _ _ _ ((s1.trans sx).trans sn) aq lo' ⟨fun lo2 hlo2 c=>?_,?_⟩
    ·have:lo2=lo:=hlo2.uniq low
     subst this
     have e4:ps.map (fun p=>p.2.map ZP)=(bO n).filter fun c=>decide (Knot n fl bk lo2 c):=by
      have:=congrArg (List.map (List.map ZP)) e2
      rw[XQ,XQ] at this
      exact this.trans ((aa6 fun a _=>dZ a).trans (List.map_id _))
     rw[(pq.map _).mem_iff,e4,aaR]
     refine⟨fun⟨a1,a2⟩=>?_,fun⟨a1,a2,a3⟩=>⟨yZ n n1 n6 c (by rw[← eX a1 a2]; exact dM _ n),decide_eq_true a3⟩⟩
     obtain⟨b1,b2⟩:=iQ n6 c a1
     exact⟨b2,b1,of_decide_eq_true a2⟩
    ·rw[YH]
     refine pw.imp_of_mem fun {a b} ha hb h=>?_
     obtain⟨c,_,h2,_⟩:=e3 a (inp a ha)
     obtain⟨d,_,h3,_⟩:=e3 b (inp b hb)
     rw[h2,h3,dZ,dZ,← h2,← h3]
     exact h
  case tF =>
   intro N Rc
   have ln:us0.length=n:=by lia
   refine⟨_,rfl,b,_,rfl,.inl (SqL.of hb0),n,by rw[ln]; rfl,n1,n6,fun cr uc H3 s3 ecr lcr=>?_⟩
   have efo3:=s3 _ _ efo
   have luc:uc.length=2 ^ n:=by rw[lcr.length,fG n1 n6]
   have ncr:cr≠fo:=fun z=>by
    rw[z,efo3] at ecr
    cases ecr
    have:0 < 2 ^ n:=Nat.pow_pos (by decide)
    rw[← luc] at this
    exact absurd this (by simp)
   refine⟨cr,rfl,⟨_,SqL.of ecr⟩,jE (K:=K) (a:=cr) (xs:=uc) (fun i σ Hx=>∃ uf:List V,(∃ u,σ=[some (.ref b),some (.ref f),some (.ref ba),some (.ref fo),u])/\aO H1 Hx/\(∀ a o,a≠fo->H3 a=some o->Hx a=some o)/\Hx fo=some (.lst uf)/\LF (Ca fo) Hx uf (((bO n).take i).filter fun c=>decide (Knot n fl bk lo c)))
    ⟨[],⟨_,rfl⟩,s2.trans s3,fun a o _ e=>e,efo3,by rw[We]; exact .nil⟩ (fun i σ Hx _ h=>?_) ?_ ?_⟩
   ·obtain⟨_,_,_,kb,_⟩:=h
    exact SqL.of (kb _ _ ncr ecr)
   ·rintro i x σ Hx hx ⟨uf,⟨u,rfl⟩,sx,kb,efx,lf⟩
    obtain⟨ca,c,rfl,hc,hca,_⟩:=lcr.at hx
    obtain⟨cin,cris⟩:=iQ n6 c (Vl hc)
    have cl6:c.length<=n:=by
     have:=iC (m:=0) cris fun k hk=>⟨Vr _,cin k hk⟩
     lia
    have nx:((bO n).take (i+1)).filter (fun c=>decide (Knot n fl bk lo c))=((bO n).take i).filter (fun c=>decide (Knot n fl bk lo c))++if decide (Knot n fl bk lo c)=true then [c] else []:=by
     rw[Vz,hc,aaf]
     show _++List.filter _ [c]=_
     rw[Yn,List.filter_nil]
    have ks:=DK lb okb of low n1 n6 hc
    have hcx:Hx ca=some (.lst (c.map vN)):=by
     by_cases z:ca=fo
     ·rw[z,efo3] at hca
      have c0:c=[]:=by
       have:=HO.lst.inj (VF hca)
       exact List.map_eq_nil_iff.mp this.symm
      have f0:((bO n).take i).filter (fun c=>decide (Knot n fl bk lo c))=[]:=by
       rw[List.filter_eq_nil_iff]
       intro k hk kk
       have kk:=of_decide_eq_true kk
       obtain⟨j,hj⟩:=List.mem_iff_getElem?.mp hk
       rw[abi] at hj
       split at hj
       ·rename_i hji
        obtain⟨a1,b1⟩:=List.getElem?_eq_some_iff.mp hj
        obtain⟨a2,b2⟩:=List.getElem?_eq_some_iff.mp hc
        have:=(List.pairwise_iff_getElem.mp (DP n n6) j i a1 a2 hji).1
        rw[b1,b2,c0] at this
        have:k=[]:=List.length_eq_zero_iff.mp (Nat.le_zero.mp this)
        rw[this] at kk
        exact kk.1 (jP lb okb of low)
       ·cases hj
      rw[f0] at lf
      cases lf
      rw[z,efx,c0]
      rfl
     ·exact kb _ _ z hca
    have luf:uf.length<=64:=by
     rw[lf.length]
     refine Wd (YC _ _) ?_
     rw[Vc,fG n1 n6]
     have:2 ^ n<=2 ^ 6:=Xz (by decide) n6
     have:(2:Nat) ^ 6=64:=rfl
     lia
    refine gN ?_
    refine⟨_,rfl,_,rfl,_,rfl,_,rfl,b,f,ba,ca,n,bk,fl,lo,c,rfl,hB.mono (s1.trans sx),lb,(s1.trans sx) _ _ hf,of,sx _ _ eba,low,hcx,cin,by lia,fun r z H4 s4 er mx=>?_⟩
    have ez:=yX lb okb of low mx
    subst ez
    have kb4:∀ a o,a≠fo->H3 a=some o->H4 a=some o:=fun a o na e=>s4 _ _ (kb _ _ na e)
    have lf4:LF (Ca fo) H4 uf _:=lf.keep fun a c' _ e=>s4 _ _ e
    have ef4:=s4 _ _ efx
    have hc4:=s4 _ _ hcx
    refine⟨_,rfl,r,ba,_,_,rfl,rfl,SqT.of er,SqT.of ((sx.trans s4) _ _ eba),_,rfl,?_⟩
    by_cases e:al n fl bk lo c=lo
    ·rw[show (!decide (al n fl bk lo c=lo))=false by rw[decide_eq_true e]; rfl]
     refine fU ⟨uf,⟨_,rfl⟩,sx.trans s4,kb4,ef4,?_⟩
     rw[nx,if_neg (by rw[decide_eq_false (fun k=>k.1 e)]; exact U5),XJ]
     exact lf4
    ·rw[show (!decide (al n fl bk lo c=lo))=true by rw[decide_eq_false e]; rfl]
     refine ji ?_
     have memFK:∀ k',k'∈((bO n).take i).filter (fun c=>decide (Knot n fl bk lo c)) ↔ k'∈(bO n).take i/\Knot n fl bk lo k':=fun k'=>by
      rw[aaR]
      exact⟨fun h=>⟨h.1,of_decide_eq_true h.2⟩,fun h=>⟨h.1,decide_eq_true h.2⟩⟩
     generalize ((bO n).take i).filter (fun c=>decide (Knot n fl bk lo c))=FK at *
     refine⟨_,rfl,fo,rfl,⟨_,SqL.of ef4⟩,fun D hD=>cT (K:=K) (a:=fo) (xs:=uf) (fun i zs σ' Hy=>(∃ u,σ'=[u,some (.ref ca)])/\aO H4 Hy/\Hy D=some (.lst zs)/\zs=((FK.take i).map fun k'=>decide (∀ y∈k',y∈c)).map V.bl)
      ⟨⟨_,rfl⟩,aB hD _,aq,rfl⟩ (fun i zs σ' Hy _ h=>⟨SqL.of (h.2.1 _ _ ef4),h.2.2.1⟩) ?_ ?_⟩
     ·rintro i2 zs x σ' Hy hx2 ⟨⟨u,rfl⟩,sy,eD,rfl⟩
      obtain⟨ka,k',rfl,hk',eka⟩:=lf4.at hx2
      have eky:=sy _ _ eka
      have hcy:=sy _ _ hc4
      obtain⟨kin,kris⟩:=iQ n6 k' (YT ((memFK k').mp (Vl hk')).1)
      have k6:k'.length<=n:=by
       have:=iC (m:=0) kris fun k hk=>⟨Vr _,kin k hk⟩
       lia
      have i64:i2 < uf.length:=(List.getElem?_eq_some_iff.mp hx2).1
      refine gT ?_
      refine⟨_,rfl,ka,rfl,⟨_,SqL.of eky⟩,fun D2 hD2=>cT (K:=K) (a:=ka) (xs:=k'.map vN) (fun j ys σ'' Hq=>(∃ u,σ''=[u,some (.ref ca)])/\aO Hy Hq/\Hq D2=some (.lst ys)/\ys=((k'.take j).map fun y=>decide (y∈c)).map V.bl)
       ⟨⟨_,rfl⟩,aB hD2 _,aq,rfl⟩ (fun j ys σ'' Hq _ h=>⟨SqL.of (h.2.1 _ _ eky),h.2.2.1⟩) ?_ ?_⟩
      ·rintro j ys x2 σ'' Hq hx3 ⟨⟨u2,rfl⟩,sq,eD2,rfl⟩
       obtain⟨y,hy,rfl⟩:=qJ hx3
       refine gT ?_
       refine⟨_,rfl,_,rfl,ca,_,rfl,.inl (SqL.of (sq _ _ hcy)),rfl,o5 c,eD2,aD (by rw[Uy,Uy,Vc]; lia),⟨_,rfl⟩,aJ sq hD2 _,aq,?_⟩
       rw[Vz,hy,U3,U3]
       show _++[V.bl (inV (.int (y:Int)) (c.map vN))]=_
       rw[oM]
       rfl
      ·rintro ys σ'' Hq ⟨_,sq,eD2,rfl⟩
       rw[Uy,Ve] at eD2
       refine⟨D2,_,rfl,SqL.of eD2,sq _ _ eD,aD (by rw[Uy,Uy,Vc]; lia),⟨_,rfl⟩,aJ (sy.trans sq) hD _,aq,?_⟩
       rw[Vz,hk',U3,U3]
       have:((k'.map fun y=>decide (y∈c)).all fun b=>b)=decide (∀ y∈k',y∈c):=by
        rw[Zn,abL]
        simp
       rw[this]
       rfl
     ·rintro zs σ' Hy ⟨_,sy,eD,rfl⟩
      rw[lf4.length,Ve] at eD
      refine⟨D,_,rfl,SqL.of eD,_,rfl,?_⟩
      have ef5:=sy _ _ ef4
      have kb5:∀ a o,a≠fo->H3 a=some o->Hy a=some o:=fun a o na e=>sy _ _ (kb4 _ _ na e)
      have lf5:LF (Ca fo) Hy uf FK:=lf4.keep fun a c' _ e=>sy _ _ e
      by_cases kn:Knot n fl bk lo c
      ·have an:((FK.map fun k'=>decide (∀ y∈k',y∈c)).any fun b=>b)=false:=by
        rw[List.any_eq_false]
        intro x hx
        obtain⟨k',hk',rfl⟩:=List.mem_map.mp hx
        obtain⟨a1,a2⟩:=(memFK k').mp hk'
        exact fun z=>(ks.mp kn).2 k' a1 a2 (of_decide_eq_true z)
       rw[an]
       have c0:c≠[]:=fun z=>by
        rw[z] at kn
        exact kn.1 (jP lb okb of low)
       have nca:ca≠fo:=fun z=>by
        rw[z,efo3] at hca
        have:=HO.lst.inj (VF hca)
        exact c0 (List.map_eq_nil_iff.mp this.symm)
       refine ji ⟨_,rfl,.inl ⟨rfl,_,SqL.of ef5⟩,_,rfl,fo,uf,_,rfl,rfl,ef5,aD (by lia),?_⟩
       refine⟨_,⟨_,rfl⟩,aJ (sx.trans (s4.trans sy)) ffo _,fun a o na e=>by rw[bB na]; exact kb5 _ _ na e,aq,?_⟩
       rw[nx,if_pos (decide_eq_true kn)]
       exact (LF.snoc (sy _ _ hc4) (Jp nca) lf5).keep fun a c' ha e=>by
        rw[bB (Jm ha)]
        exact e
      ·have an:((FK.map fun k'=>decide (∀ y∈k',y∈c)).any fun b=>b)=true:=by
        refine aai fun z=>kn (ks.mpr ⟨e,fun k' a1 a2 a3=>z ?_⟩)
        rw[List.any_eq_true]
        exact⟨_,List.mem_map.mpr ⟨k',(memFK k').mpr ⟨a1,a2⟩,rfl⟩,decide_eq_true a3⟩
       rw[an]
       refine fU ⟨uf,⟨_,rfl⟩,sx.trans (s4.trans sy),kb5,ef5,?_⟩
       rw[nx,if_neg (by rw[decide_eq_false kn]; exact U5),XJ]
       exact lf5
   ·rintro σ Hx ⟨uf,⟨u,rfl⟩,sx,kb,efx,lf⟩
    rw[luc,← fG n1 n6,Ve] at lf
    exact Rc _ _ ⟨uf,⟨_,rfl⟩,sx,efx,lf.nob⟩
def cD (c:List Nat):Dm:=.lst ((iN c).map Dm.int)
theorem QZ {H:Hp} {a:Addr} {c:List Nat} (h:H a=some (.lst (c.map vN))) (l:c.length<=1000):Rep H (.ref a) (cD c):=by
 rw[jc] at h
 exact .lst h (by rw[Uy,Uy]; lia) (pW _)
theorem Qk (c:List Nat):(cD c).dep=1:=by
 unfold cD
 rw[Dm.dep,o7]
theorem bQ.few {n:Nat} {fl lo:List Int} {bk:List (List Pl)} {ks:List (List Nat)} (hlo:Low n fl bk lo) (h:bQ n fl bk ks):ks.length<=2 ^ n/\∀ c∈ks,c.length<=n:=by
 refine⟨?_,fun c hc=>?_⟩
 ·have nd:ks.Nodup:=h.2.imp fun {a b} q e=>by
   rw[e,iJ] at q
   cases q
  have:=dq (m:=bx n) nd fun c hc=>by
   obtain⟨h1,h2,_⟩:=(h.1 lo hlo c).mp hc
   rw[← eX h1 h2]
   exact dM _ n
  rw[gM] at this
  exact this
 ·obtain⟨h1,h2,_⟩:=(h.1 lo hlo c).mp hc
  have:=iC (m:=0) h1 fun k hk=>⟨Vr _,h2 k hk⟩
  lia
def Cy (n:Nat) (fl:List Int) (bk:List (List Pl)) (hi:List Int):Prop:=okG n hi/\cX hi fl bk=hi/\∀ g,LeG g (cX g fl bk)->LeG g hi
open Classical in
def cl (n:Nat) (bk:List (List Pl)) (x:List Int):List Int:=if h:∃ y,Low n x bk y then Classical.choose h else []
section
variable {n:Nat} {fl hi:List Int} {bk:List (List Pl)}
theorem Cy.uniq {a b:List Int} (h:Cy n fl bk a) (h':Cy n fl bk b):a=b :=
 cO (by rw[h.1.1,h'.1.1]) (h'.2.2 _ (by rw[h.2.1]; exact cJ _)) (h.2.2 _ (by rw[h'.2.1]; exact cJ _))
theorem gf (hb:bk.length=n) (ok:okB bk) (hf:okG n fl) {m:Nat} (st:Stops (Fd fl bk) (rfF fl bk) m):Cy n fl bk (itF (Fd fl bk) (rfF fl bk) m) :=
 ⟨fW hb ok hf (jH hb ok hf) m,st.1,fun _ h=>lO hb ok hf h m⟩
theorem rQ (hb:bk.length=n) (ok:okB bk) (hf:okG n fl) (h:Cy n fl bk hi):LeG fl hi:=by
 have:=dY hb ok hf hi
 rw[h.2.1] at this
 exact this
theorem JV {x y:List Int} (h:Low n x bk y):cl n bk x=y:=by
 have e:∃ y,Low n x bk y:=⟨y,h⟩
 unfold cl
 rw[dif_pos e]
 exact (Classical.choose_spec e).uniq h
theorem wK (hb:bk.length=n) (ok:okB bk) {x:List Int} (hx:okG n x):Low n x bk (cl n bk x):=by
 obtain⟨m,_,st⟩:=rn hb ok hx
 have:=fK hb ok hx st
 rw[JV this]
 exact this
end
section
variable {n:Nat} {fl lo hi x:List Int} {bk:List (List Pl)}
theorem jd (hb:bk.length=n) (ok:okB bk) (hf:okG n fl) (hx:okG n x) (l:LeG fl x) (k:LeG x (cX x fl bk)) {g:List Int} (h:LeG x g):cX g x bk=cX g fl bk:=by
 have o1:=eU hb ok hx g
 have o2:=eU hb ok hf g
 refine cO (by rw[o1.1,o2.1]) (mR o1.1 o2.1 fun i hi=>?_) (mR o2.1 o1.1 fun i hi=>?_)
 ·have a:=k i
  have b:=dw hb ok hf h i
  have c:=ik hb hf g hi
  rw[ik hb hx g hi]
  lia
 ·have a:=l i
  rw[ik hb hx g hi,ik hb hf g hi]
  lia
theorem lq (hlo:Low n fl bk lo):LeG lo (cX lo fl bk):=by rw[hlo.2.1]; exact cJ _
theorem rB (hb:bk.length=n) (ok:okB bk) (hf:okG n fl) (hlo:Low n fl bk lo):Low n lo bk lo :=
 ⟨hlo.1,by rw[jd hb ok hf hlo.1 (iD hb ok hf hlo) (lq hlo) (cJ _)]; exact hlo.2.1,fun g hg=>(dY hb ok hlo.1 g).trans hg⟩
theorem Lx (hb:bk.length=n) (ok:okB bk) (hf:okG n fl) (hlo:Low n fl bk lo) {c:List Nat} {g:List Int}:InS n lo bk lo c g ↔ InS n fl bk lo c g:=by
 have e:LeG lo g->cX g lo bk=cX g fl bk:=fun h=>jd hb ok hf hlo.1 (iD hb ok hf hlo) (lq hlo) h
 constructor
 ·rintro⟨h1,h2,h3,h4⟩
  rw[e h3] at h4
  exact⟨h1,h2,h3,h4⟩
 ·rintro⟨h1,h2,h3,h4⟩
  rw[← e h3] at h4
  exact⟨h1,h2,h3,h4⟩
theorem M4 (hb:bk.length=n) (ok:okB bk) (hf:okG n fl) (hlo:Low n fl bk lo) (c:List Nat):al n lo bk lo c=al n fl bk lo c:=by
 have m:=cY hb ok hlo.1 (rB hb ok hf hlo) c
 exact yX hb ok hf hlo ⟨(Lx hb ok hf hlo).mp m.1,fun w hw=>m.2 w ((Lx hb ok hf hlo).mpr hw)⟩
theorem Gk (hb:bk.length=n) (ok:okB bk) (hf:okG n fl) (hlo:Low n fl bk lo) (c:List Nat):Knot n lo bk lo c ↔ Knot n fl bk lo c:=by
 unfold Knot
 rw[M4 hb ok hf hlo c]
 refine and_congr_right fun _=>forall_congr' fun one=>?_
 rw[M4 hb ok hf hlo]
theorem Ar (hb:bk.length=n) (ok:okB bk) (hf:okG n fl) (hlo:Low n fl bk lo) {ks:List (List Nat)}:bQ n lo bk ks ↔ bQ n fl bk ks:=by
 constructor
 ·rintro⟨h1,h2⟩
  refine⟨fun lo' hl c=>?_,h2⟩
  rw[hl.uniq hlo,h1 lo (rB hb ok hf hlo) c,Gk hb ok hf hlo]
 ·rintro⟨h1,h2⟩
  refine⟨fun lo' hl c=>?_,h2⟩
  rw[hl.uniq (rB hb ok hf hlo),h1 lo hlo c,Gk hb ok hf hlo]
theorem Gp (hb:bk.length=n) (ok:okB bk) (hf:okG n fl) (hx:okG n x) (l:LeG fl x) (k:LeG x (cX x fl bk)) {m:Nat} (st:Stops (Fd fl bk) x m):Low n x bk (itF (Fd fl bk) x m):=by
 have up:∀ j,LeG x (itF (Fd fl bk) x j):=fun j=>by
  induction j with
  | zero=>exact cJ _
  | succ j ih=>exact ih.trans (O4 hb ok hf k j)
 refine⟨fW hb ok hf hx m,?_,fun g hg=>?_⟩
 ·rw[jd hb ok hf hx l k (up m)]
  exact st.1
 ·have xg:LeG x g:=(dY hb ok hx g).trans hg
  rw[jd hb ok hf hx l k xg] at hg
  have:∀ j,LeG (itF (Fd fl bk) x j) g:=fun j=>by
   induction j with
   | zero=>exact xg
   | succ j ih=>exact (dw hb ok hf ih).trans hg
  exact this m
theorem yt (hb:bk.length=n) (ok:okB bk) (hf:okG n fl) (hh:Cy n fl bk hi) (hx:okG n x) (l:LeG fl x) (k:LeG x (cX x fl bk)):Cy n x bk hi:=by
 obtain⟨m,_,st⟩:=jB hb ok hx
 have h':=gf hb ok hx st
 generalize itF (Fd x bk) (rfF x bk) m=hi' at h'
 have e1:LeG hi hi':=h'.2.2 hi (by rw[jd hb ok hf hx l k (hh.2.2 x k),hh.2.1]; exact cJ _)
 have e2:LeG hi' hi:=hh.2.2 hi' (by rw[← jd hb ok hf hx l k (rQ hb ok hx h'),h'.2.1]; exact cJ _)
 rw[cO (by rw[hh.1.1,h'.1.1]) e1 e2]
 exact h'
theorem jt (hb:bk.length=n) (ok:okB bk) (hf:okG n fl) (hlo:Low n fl bk lo) (hh:Cy n fl bk hi):bQ n fl bk [] ↔ lo=hi:=by
 have lh:LeG lo hi:=hh.2.2 lo (lq hlo)
 constructor
 ·intro h
  by_cases e:al n fl bk lo (ris n lo hi)=lo
  ·rw[K5 hb ok hf hlo hh.1 hh.2.1 hh.2.2 lh] at e
   exact e.symm
  ·obtain⟨k,hs,hk⟩:=xU _ (ris n lo hi) (U0 _) (jP hb ok hf hlo) e
   have:=(h.1 lo hlo k).mpr ⟨(jJ hi).sublist hs,fun i hi=>(gF.mp (hs.subset hi)).1,hk⟩
   cases this
 ·rintro rfl
  refine⟨fun lo' hl c=>⟨fun h=>(by cases h),fun h=>?_⟩,ZF⟩
  rw[hl.uniq hlo] at h
  have m:=cY hb ok hf hlo c
  exact absurd (cO (by rw[m.1.1.1,hlo.1.1]) (hh.2.2 _ m.1.2.2.2) m.1.2.2.1) h.2.2.1
def At (n:Nat) (bk:List (List Pl)) (hi h:List Int):Prop:=Low n h bk h/\Cy n h bk hi
theorem lX (hb:bk.length=n) (ok:okB bk) (hf:okG n fl) (hlo:Low n fl bk lo) (hh:Cy n fl bk hi):At n bk hi lo :=
 ⟨rB hb ok hf hlo,yt hb ok hf hh hlo.1 (iD hb ok hf hlo) (lq hlo)⟩
theorem zf (hb:bk.length=n) (ok:okB bk) {h y:List Int} (a:At n bk hi h) {k:List Nat} (hk:Knot n h bk h k) (ly:Low n (al n h bk h k) bk y):At n bk hi y/\h.sum < y.sum:=by
 obtain⟨low,hh⟩:=a
 have m:=cY hb ok low.1 low k
 have ox:=m.1.1
 have hx:=m.1.2.2.1
 have kx:=m.1.2.2.2
 have xy:=iD hb ok ox ly
 have fy:=jd hb ok low.1 ox hx kx xy
 have hy:=hx.trans xy
 have ky:LeG y (cX y h bk):=by rw[← fy,ly.2.1]; exact cJ _
 refine⟨⟨rB hb ok ox ly,yt hb ok low.1 hh ly.1 hy ky⟩,?_⟩
 have s1:=dg (g:=h) (g':=al n h bk h k) (by rw[low.1.1,ox.1]) fun i _=>hx i
 have s2:=dg (g:=al n h bk h k) (g':=y) (by rw[ox.1,ly.1.1]) fun i _=>xy i
 have:h.sum≠(al n h bk h k).sum:=fun z=>hk.1 (s1.2 z).symm
 lia
theorem Q8 (hb:bk.length=n) (ok:okB bk) (hf:okG n fl) (hh:Cy n fl bk hi):At n bk hi hi:=by
 have h:=yt hb ok hf hh hh.1 (rQ hb ok hf hh) (by rw[hh.2.1]; exact cJ _)
 exact⟨⟨hh.1,h.2.1,fun g hg=>(dY hb ok hh.1 g).trans hg⟩,h⟩
open Classical in
def kN (n:Nat) (bk:List (List Pl)) (h:List Int):List (List Nat):=if e:∃ ks,bQ n h bk ks then e.choose else []
theorem G8 (hb:bk.length=n) (ok:okB bk) (hf:okG n fl) (hlo:Low n fl bk lo) {ks:List (List Nat)} (h:bQ n fl bk ks):kN n bk fl=ks:=by
 have e:∃ ks,bQ n fl bk ks:=⟨ks,h⟩
 unfold kN
 rw[dif_pos e]
 exact bQ.uniq hb ok hf hlo e.choose_spec h
def nxF (n:Nat) (bk:List (List Pl)) (h:List Int):List Int:=cl n bk (al n h bk h ((kN n bk h).headD []))
def hrF (n:Nat) (bk:List (List Pl)) (lo:List Int):Nat->List Int
 | 0=>lo
 | i+1=>nxF n bk (hrF n bk lo i)
def prF (n:Nat) (bk:List (List Pl)) (lo:List Int) (i:Nat):List Nat × List Int:=((kN n bk (hrF n bk lo i)).headD [],hrF n bk lo (i+1))
def prs (n:Nat) (bk:List (List Pl)) (lo:List Int) (m:Nat):List (List Nat × List Int):=(Vb m).map (prF n bk lo)
theorem zR (m:Nat):prs n bk lo (m+1)=prs n bk lo m++[prF n bk lo m]:=by
 unfold prs
 rw[Yv,U3]
 rfl
def CQ (n:Nat) (bk:List (List Pl)) (lo:List Int) (m:Nat):Prop:=kN n bk (hrF n bk lo m)=[]/\∀ j < m,kN n bk (hrF n bk lo j)≠[]
theorem CQ.uniq {m m':Nat} (h:CQ n bk lo m) (h':CQ n bk lo m'):m=m':=by
 rcases Nat.lt_trichotomy m m' with z | z | z
 ·exact absurd h.1 (h'.2 m z)
 ·exact z
 ·exact absurd h'.1 (h.2 m' z)
theorem lY (hb:bk.length=n) (ok:okB bk) {h:List Int} (a:At n bk hi h) {ks:List (List Nat)} (hk:bQ n h bk ks):(ks=[] ↔ h=hi)/\∀ k∈ks,Knot n h bk h k/\(∀ i∈k,i < n)/\k.length<=n:=by
 refine⟨⟨fun e=>?_,fun e=>?_⟩,fun k hm=>?_⟩
 ·rw[e] at hk
  exact (jt hb ok a.1.1 a.1 a.2).mp hk
 ·exact bQ.uniq hb ok a.1.1 a.1 hk ((jt hb ok a.1.1 a.1 a.2).mpr e)
 ·have:=(hk.1 h a.1 k).mp hm
  exact⟨this.2.2,this.2.1,(hk.few a.1).2 k hm⟩
theorem rD {h:List Int} (a:At n bk hi h):0<=h.sum/\h.sum<=9 * (n:Int):=by
 have:=sum_bound a.1.1.2
 rw[a.1.1.1] at this
 exact this
theorem Hj {h:List Int} (a:At n bk hi h) (e:9 * (n:Int)<=h.sum):h=hi:=by
 have l:LeG h hi:=a.2.2.2 h (lq a.1)
 have b:=sum_bound a.2.1.2
 rw[a.2.1.1] at b
 have s:=dg (g:=h) (g':=hi) (by rw[a.1.1.1,a.2.1.1]) fun i _=>l i
 exact s.2 (by lia)
end
abbrev yH:Stmt:=top 23
theorem JR:aY ["book","floor","giving"] ["book","floor","giving"] (aG yH):=⟨rfl,rfl,rfl,by decide+kernel,rfl,by decide+kernel,by decide+kernel⟩
inductive vA (vs:List V) (H:Hp) (Q:VK):Prop where
 | mk (b f g:Addr) (n:Nat) (bk:List (List Pl)) (fl x:List Int) (z0:vs=[.ref b,.ref f,.ref g]) (z1:oA n H b bk) (z2:bk.length=n) (z3:H f=some (.tup (fl.map V.int))) (z4:okG n fl) (z5:H g=some (.tup (x.map V.int))) (z6:okG n x) (z7:LeG x (cX x fl bk)) (z8:∀ (m:Nat) (a:Addr) (H':Hp),Stops (Fd fl bk) x m->aO H H'->H' a=some (.tup ((itF (Fd fl bk) x m).map V.int))->Q (.ref a) H'):vA  vs H Q
def BJ:Sp:=fun vs H Q _=>vA  vs H Q
theorem Ji {k:Nat} (F:Fun K "risen" "risen" yH f fd) (B:Bt mg)
  (D_kept:Df P w K mg base "kept" (k+1) ["book","floor","giving"] (Io K abv)) (D_settled:Df P w K mg base "settled" (k+1) ["book","floor","giving"] (lM K)):dR P w K mg base CX0 (k+2) f fd ["book","floor","giving"] BJ:=by
 refine F.ok JR (fun vs H Q E h=>?_) (fun cdv A outer s H vs Q E hr h=>?_)
 ·obtain⟨b,f,g,n,bk,fl,x,rfl,_⟩:=h
  rfl
 ·obtain⟨b,f,g,n,bk,fl,x,rfl,hb,lb,hf,of,hg,ox,up,q⟩:=h
  refine⟨_,(au (bZ (zP (jQ (bj D_kept hr (aa (pv 0) (aa (pv 1) (aa (pv 2) aj)))))) (aC JQ) aX)
 (aC (aM (bh (r:=gj K) bf (bj D_settled hr (aa (pv 0) (aa (pv 1) (aa (pv 2) aj)))) (Ke Aa aA) (fun _ _=>rfl))))),?_⟩
  have okb:=hb.okB
  have hlb:fl.length=bk.length:=by rw[of.1,lb]
  have lx:x.length=bk.length:=by rw[ox.1,lb]
  have f0:∀ y∈fl,0<=y:=fun y hy=>(of.2 y hy).1
  refine⟨_,rfl,_,rfl,_,rfl,b,f,g,n,bk,fl,x,rfl,hb,SqT.of hf,SqT.of hg,hlb,lx,by lia,f0,fun H1 s1=>⟨_,rfl,?_⟩⟩
  rw[(FQ (by rw[jW hlb]; lia)).mpr up]
  refine fU ?_
  obtain⟨m,hm,st⟩:=BL lb okb of ox up
  refine⟨_,rfl,_,rfl,_,rfl,b,f,g,n,bk,fl,x,m,rfl,hb.mono s1,lb,s1 _ _ hf,of,s1 _ _ hg,ox,hm,st,fun r us H' s2 _ er gr=>?_⟩
  obtain⟨a,ha,ea⟩:=oU gr
  exact⟨_,rfl,r,_,_,_,rfl,rfl,SqL.of er,ha,q m a H' st (s1.trans s2) ea⟩
inductive cP (H0 H:Hp):List V->List (List Nat × List Int)->Prop where
 | nil:cP H0 H [] []
 | cons {a k g:Addr} {c:List Nat} {y:List Int} {us:List V} {ps:List (List Nat × List Int)}:H a=some (.tup [.ref k,.ref g])->H k=some (.lst (c.map vN))->H0 k=none->c.length<=12->H g=some (.tup (y.map V.int))->y.length<=1000->cP H0 H us ps->cP H0 H (.ref a::us) ((c,y)::ps)
theorem cP.mono {H0 H H':Hp} (s:aO H H'):∀ {us:List V} {ps:List (List Nat × List Int)},cP H0 H us ps->cP H0 H' us ps
 | _,_,.nil=>.nil
 | _,_,.cons h1 h2 h3 h4 h5 h6 r=>.cons (s _ _ h1) (s _ _ h2) h3 h4 (s _ _ h5) h6 (cP.mono s r)
theorem cP.length {H0 H:Hp}:∀ {us:List V} {ps:List (List Nat × List Int)},cP H0 H us ps->us.length=ps.length
 | _,_,.nil=>rfl
 | _,_,.cons _ _ _ _ _ _ r=>by rw[Vd,Vd,cP.length r]
theorem cP.snoc {H0 H:Hp} {a k g:Addr} {c:List Nat} {y:List Int} (h1:H a=some (.tup [.ref k,.ref g])) (h2:H k=some (.lst (c.map vN))) (h3:H0 k=none) (h4:c.length<=12) (h5:H g=some (.tup (y.map V.int))) (h6:y.length<=1000):∀ {us:List V} {ps:List (List Nat × List Int)},cP H0 H us ps->cP H0 H (us++[.ref a]) (ps++[(c,y)])
 | _,_,.nil=>.cons h1 h2 h3 h4 h5 h6 .nil
 | _,_,.cons a1 a2 a3 a4 a5 a6 r=>.cons a1 a2 a3 a4 a5 a6 (cP.snoc h1 h2 h3 h4 h5 h6 r)
theorem tX {a:Addr} {us:List V} {c:List Nat} (h:V.ref a∈us) (e:us=c.map vN):False:=by
 rw[e] at h
 obtain⟨i,_,z⟩:=List.mem_map.mp h
 cases z
theorem cP.put {H0 H:Hp} {D:Addr} {zs zs':List V} (hD:H D=some (.lst zs)) (hz:∀ c:List Nat,zs≠c.map vN):∀ {us:List V} {ps:List (List Nat × List Int)},cP H0 H us ps->cP H0 (upd H D (.lst zs')) us ps
 | _,_,.nil=>.nil
 | _,_,.cons h1 h2 h3 h4 h5 h6 r=>.cons (cI hD _ _ h1) (by
   rw[bB fun z=>?_]
   ·exact h2
   ·rw[z,hD] at h2
    injection h2 with h2
    injection h2 with h2
    exact hz _ h2) h3 h4 (cI hD _ _ h5) h6 (cP.put hD hz r)
theorem cP.putN {H0 H:Hp} {D:Addr} {zs zs':List V} (hD:H D=some (.lst zs)):∀ {us:List V} {ps:List (List Nat × List Int)},(zs=us∨us≠[])->(∀ u∈us,u∈zs)->cP H0 H us ps->cP H0 (upd H D (.lst zs')) us ps:=fun {us ps} h hs r=>by
 cases us with
 | nil=>cases r; exact .nil
 | cons u us =>
  refine r.put hD fun c e=>?_
  have:∃ a,u = .ref a:=by cases r; exact⟨_,rfl⟩
  obtain⟨a,rfl⟩:=this
  exact tX (hs _ UW) e
theorem cP.refs {H0 H:Hp}:∀ {us:List V} {ps:List (List Nat × List Int)},cP H0 H us ps->∀ u∈us,∃ a,u = .ref a
 | _,_,.nil,_,h=>by cases h
 | _,_,.cons _ _ _ _ _ _ r,u,h=>by
  rcases List.mem_cons.mp h with e | e
  ·exact⟨_,e⟩
  ·exact cP.refs r u e
theorem LF.old {H0 H1 H:Hp} (s:aO H0 H1):∀ {us:List V} {cs:List (List Nat)},LF H1 H us cs->LF H0 H us cs
 | _,_,.nil=>.nil
 | _,_,.cons h n r=>.cons h (s.free n) (LF.old s r)
abbrev ye:Stmt:=top 31
theorem lL:aY ["book","floor","pairs","left"] ["book","floor"] (aG ye):=⟨rfl,rfl,rfl,by decide+kernel,rfl,by decide+kernel,by decide+kernel⟩
inductive Az (vs:List V) (H:Hp) (Q:VK):Prop where
 | mk (b f:Addr) (n:Nat) (bk:List (List Pl)) (fl:List Int) (z0:vs=[.ref b,.ref f]) (z1:n<=6) (z2:oA n H b bk) (z3:bk.length=n) (z4:H f=some (.tup (fl.map V.int))) (z5:okG n fl) (z6:∀ (r:Addr) (us:List V) (m:Nat) (H':Hp),aO H H'->H r=none->H' r=some (.lst us)->CQ n bk (cl n bk fl) m->cP H H' us (prs n bk (cl n bk fl) m)->m<=54->Q (.ref r) H'):Az  vs H Q
def Fy:Sp:=fun vs H Q _=>Az  vs H Q
def CW (n:Nat) (bk:List (List Pl)) (fl hi:List Int) (b pa:Addr) (H:Hp) (m:Nat) (σ:St) (Hx:Hp):Prop :=
 ∃ (t:Nat) (fa li:Addr) (ft:List Int) (us ul:List V) (ks:List (List Nat)),σ=[some (.ref b),some (.ref fa),some (.ref pa),some (.ref li)]/\aO H Hx/\H pa=none/\Hx pa=some (.lst us)/\cP H Hx us (prs n bk (cl n bk fl) t)/\Hx fa=some (.tup (ft.map V.int))/\okG n ft/\Low n ft bk (hrF n bk (cl n bk fl) t) ∧
 At n bk hi (hrF n bk (cl n bk fl) t)/\Hx li=some (.lst ul)/\LF H Hx ul ks/\bQ n ft bk ks/\(∀ j < t,kN n bk (hrF n bk (cl n bk fl) j)≠[])/\(t:Int)<=(hrF n bk (cl n bk fl) t).sum/\t+m=54
theorem Dl {n:Nat} {bk:List (List Pl)} {ft h hi:List Int} (hb:bk.length=n) (ok:okB bk) (hf:okG n ft) (low:Low n ft bk h) (at':At n bk hi h) {k:List Nat} {ks:List (List Nat)} (hk:bQ n ft bk (k::ks)) :
  kN n bk h=k::ks/\nxF n bk h=cl n bk (al n h bk h k)/\al n h bk h k=al n ft bk h k/\Knot n h bk h k/\(∀ i∈k,i < n)/\k.length<=n:=by
 have hk':=(Ar hb ok hf low).mpr hk
 have e:=G8 hb ok low.1 at'.1 hk'
 obtain⟨h1,h2,h3⟩:=(lY hb ok at' hk').2 k UW
 exact⟨e,by unfold nxF; rw[e]; rfl,M4 hb ok hf low k,h1,h2,h3⟩
theorem JT {k j i:Nat} (hj:j<=k+1) (hi':i<=k+1) (F:Fun K "climb" "climb" ye f fd) (B:Bt mg)
  (D_knots:Df P w K mg base "knots" (k+1) ["book","floor"] zg) (D_alone:Df P w K mg base "alone" j ["book","floor","crowd"] FN) (D_risen:Df P w K mg base "risen" i ["book","floor","giving"] BJ) :
  dR P w K mg base CX0 (k+2) f fd ["book","floor"] Fy:=by
 refine F.ok lL (fun vs H Q E h=>?_) (fun cdv A outer s H vs Q E hr h=>?_)
 ·obtain⟨b,f,n,bk,fl,rfl,_⟩:=h
  rfl
 ·obtain⟨b,f,n,bk,fl,rfl,n6,hB,lb,hf,of,q⟩:=h
  refine⟨_,(au (aP (i:=2) lL.nd rfl (U8 rfl) (bJ aj))
 (au (aP (i:=3) lL.nd rfl (U8 rfl) (bj D_knots hr (aa (pv 0) (aa (pv 1) aj))))
 (au (lZ Vx (aQ wH (aH (r:=rm K) bI rfl B.len_ d9 (aa (pv 3) aj)) aA (aW _)) (au (aP (i:=1) lL.nd rfl (U8 rfl) (bj D_risen hr (aa (pv 0) (aa (pv 1) (aa (bj D_alone hr (aa (pv 0) (aa (pv 1) (aa (bh (r:=gj K) bf (pv 3) aA (fun _ _=>rfl)) aj)))) aj)))))
 (au (eG (kZ VH VN VM cB (pv 2) (aa (bT (aa (bh (r:=gj K) bf (pv 3) aA (fun _ _=>rfl)) (aa (pv 1) aj))) aj)))
 (aC (aP (i:=3) lL.nd rfl (U8 rfl) (bj D_knots hr (aa (pv 0) (aa (pv 1) aj))))))))
 (aC (aM (pv 2)))))),?_⟩
  have okb:=hB.okB
  have low0:=wK lb okb of
  obtain⟨mf,_,stf⟩:=jB lb okb of
  have hh:=gf lb okb of stf
  generalize itF (Fd fl bk) (rfF fl bk) mf=hi at hh
  refine aV (fun σ H1=>∃ pa:Addr,σ=[some (.ref b),some (.ref f),some (.ref pa),none]/\aO H H1/\H pa=none/\H1 pa=some (.lst [])) ?q1 ?t1
  case t1 =>
   intro N Rc
   exact⟨small (by show 0<=1000; decide),fun p hp=>Rc _ _ ⟨p,rfl,aB hp _,hp,aq⟩⟩
  case q1 =>
  rintro σ H1 ⟨pa,rfl,s1,fpa,epa⟩
  refine aV (fun σ H2=>∃ m,CW n bk fl hi b pa H m σ H2) ?q2 ?t2
  case t2 =>
   intro N Rc
   refine⟨_,rfl,_,rfl,b,f,n,bk,fl,rfl,n6,hB.mono s1,lb,s1 _ _ hf,of,fun r us ks H2 s2 fr er lr hne ka=>Rc _ _ ⟨54,0,f,r,fl,[],us,ks,rfl,s1.trans s2,fpa,s2 _ _ epa,.nil,(s1.trans s2) _ _ hf,of,low0,lX lb okb of low0 hh,er,lr.old s1,ka,fun j hj=>absurd hj (Zh j),?_,by lia⟩⟩
   exact (rD (lX lb okb of low0 hh)).1
  case q2 =>
  rintro σ H2 ⟨m0,cw0⟩
  refine⟨CW n bk fl hi b pa H,⟨m0,cw0⟩,?_⟩
  rintro m σ Hx ⟨t,fa,li,ft,us,ul,ks,rfl,sx,_,epx,hpr,efa,oft,lowt,att,eli,lli,ka,hj0,hts,htm⟩
  have lk:=lli.length
  refine⟨_,rfl,li,_,rfl,.inl (SqL.of eli),_,_,rfl,rfl,_,rfl,?_⟩
  cases ks with
  | nil =>
   have:ul=[]:=W5 (by rw[lk]; rfl)
   subst this
   refine fU ⟨_,rfl,q pa us t Hx sx fpa epx ⟨G8 lb okb lowt.1 att.1 ((Ar lb okb oft lowt).mpr ka),hj0⟩ hpr ?_⟩
   have:=(rD att).2
   lia
  | cons k0 ks =>
   obtain⟨e1,e2,e3,kn,kin,kl⟩:=Dl lb okb oft lowt att ka
   cases lli with
   | @cons ka0 _ ul' _ hka fka rest =>
   rw[decide_eq_true (show (0:Int) < (((V.ref ka0::ul').length:Nat):Int) by rw[Vd]; lia)]
   have hx0:atI (V.ref ka0::ul') 0=some (.ref ka0):=eZ (j:=0) rfl
   have mx:=cY lb okb att.1.1 att.1 k0
   generalize ehr:hrF n bk (cl n bk fl) t=h at *
   have e4:hrF n bk (cl n bk fl) (t+1)=cl n bk (al n h bk h k0):=by
    show nxF n bk (hrF n bk (cl n bk fl) t)=_
    rw[ehr,e2]
   have ox:=mx.1.1
   have lowy:=wK lb okb ox
   obtain⟨aty,sumy⟩:=zf lb okb att kn lowy
   have sy:=(rD aty).2
   refine ji ⟨CW n bk fl hi b pa H (m - 1),fun σ' H' h=>⟨m - 1,by lia,h⟩,?_⟩
   have hBx:=hB.mono sx
   refine⟨_,rfl,_,rfl,_,rfl,_,rfl,_,rfl,li,_,_,_,rfl,rfl,SqL.of eli,hx0,b,fa,ka0,n,bk,ft,k0,rfl,hBx,lb,efa,oft,hka,fun r z H3 s3 er mz=>?_⟩
   have ez:=yX lb okb oft lowt (mz h lowt)
   rw[← e3] at ez
   subst ez
   have kx:LeG (al n h bk h k0) (cX (al n h bk h k0) ft bk):=by
    rw[e3]
    exact (cY lb okb oft lowt k0).1.2.2.2
   have fx:LeG ft (al n h bk h k0):=(iD lb okb oft lowt).trans mx.1.2.2.1
   refine⟨b,fa,r,n,bk,ft,al n h bk h k0,rfl,hBx.mono s3,lb,s3 _ _ efa,oft,er,ox,kx,fun mm a H4 st4 s4 ea=>?_⟩
   have ey:itF (Fd ft bk) (al n h bk h k0) mm=cl n bk (al n h bk h k0):=(JV (Gp lb okb oft ox fx kx st4)).symm
   rw[ey] at ea
   have s34:=s3.trans s4
   refine gN ?_
   dsimp only
   refine⟨_,rfl,.inl ⟨rfl,_,SqL.of (s34 _ _ epx)⟩,_,rfl,li,_,_,_,rfl,rfl,SqL.of (s34 _ _ eli),hx0,_,rfl,small (by show 2<=1000; decide),fun p5 h5=>?_⟩
   generalize eH5:upd H4 p5 _=H5
   obtain⟨g5,e5⟩:=aL eH5 h5
   have s35:=s34.trans g5
   have lus:us.length=t:=by rw[hpr.length]; unfold prs; rw[Uy,Vt]
   refine⟨pa,_,_,rfl,rfl,s35 _ _ epx,aD (by lia),?_⟩
   have tk:=cI (zs':=us++[.ref p5]) (s35 _ _ epx)
   generalize eH6:upd H5 pa _=H6
   have kap:ka0≠pa:=fun z=>by
    rw[z,epx] at hka
    injection hka with hka
    injection hka with hka
    cases us with
    | nil =>
     have k00:k0=[]:=List.map_eq_nil_iff.mp hka.symm
     exact kn.1 (by rw[k00]; exact jP lb okb att.1.1 att.1)
    | cons u us' =>
     obtain⟨a,rfl⟩:=hpr.refs u UW
     exact tX UW hka
   have epa6:H6 pa=some (.lst (us++[.ref p5])):=by rw[← eH6]; exact aq
   have s6:aO H H6:=by rw[← eH6]; exact aJ (sx.trans s35) fpa _
   have hk6:H6 ka0=some (.lst (k0.map vN)):=by rw[← eH6,bB kap]; exact s35 _ _ hka
   rw[eH6] at tk
   refine⟨_,rfl,_,rfl,b,a,n,bk,cl n bk (al n h bk h k0),rfl,n6,hB.mono s6,lb,tk _ _ (g5 _ _ ea),lowy.1,fun r7 u7 k7 H7 s7 fr7 er7 lr7 hne7 ka7=>?_⟩
   refine⟨t+1,a,r7,_,us++[.ref p5],u7,k7,rfl,s6.trans s7,fpa,s7 _ _ epa6,?_,s7 _ _ (tk _ _ (g5 _ _ ea)),lowy.1,?_,?_,er7,lr7.old s6,ka7,?_,?_,by lia⟩
   ·rw[zR]
    have:prF n bk (cl n bk fl) t=(k0,cl n bk (al n h bk h k0)):=by
     unfold prF
     rw[e4,ehr,e1]
     rfl
    rw[this]
    refine cP.snoc (s7 _ _ (tk _ _ e5)) (s7 _ _ hk6) fka (by lia) (s7 _ _ (tk _ _ (g5 _ _ ea))) (by rw[lowy.1.1]; lia) (cP.mono s7 ?_)
    rw[← eH6]
    exact (hpr.mono s35).putN (s35 _ _ epx) (.inl rfl) fun u hu=>hu
   ·rw[e4]
    exact rB lb okb ox lowy
   ·rw[e4]
    exact aty
   ·intro j hj
    by_cases e:j < t
    ·exact hj0 j e
    ·have:j=t:=by lia
     rw[this,ehr,e1]
     exact aaA _ _
   ·rw[e4]
    lia
theorem cP.apart {H0 H:Hp} {us:List V} {ps:List (List Nat × List Int)} (h:cP H0 H us ps) {D k:Addr} {c:List Nat} (hD:H D=some (.lst us)) (hk:H k=some (.lst (c.map vN))) (hc:c≠[]):k≠D:=fun z=>by
 rw[z,hD] at hk
 injection hk with hk
 injection hk with hk
 cases us with
 | nil=>exact hc (List.map_eq_nil_iff.mp hk.symm)
 | cons u us' =>
  obtain⟨a,rfl⟩:=h.refs u UW
  exact tX UW hk
abbrev mY:Stmt:=top 55
theorem dG:aY ["_law_book_here","_law_floor","_law_picks_here","_law_here","_law_found","_law_turn","_law_some","_law_knot"] ["_law_book_here","_law_floor","_law_picks_here"] (aG mY):=⟨rfl,rfl,rfl,by decide+kernel,rfl,by decide+kernel,by decide+kernel⟩
inductive Ih (vs:List V) (H:Hp) (Q:VK):Prop where
 | mk (b f pk:Addr) (n:Nat) (bk:List (List Pl)) (fl:List Int) (z0:vs=[.ref b,.ref f,.ref pk]) (z1:1<=n) (z2:n<=6) (z3:oA n H b bk) (z4:bk.length=n) (z5:H f=some (.tup (fl.map V.int))) (z6:okG n fl) (z7:H pk=some (.lst ((Vf 54 (0:Int)).map V.int))) (z8:∀ (r fo ha:Addr) (us:List V) (m:Nat) (H':Hp),aO H H'->H' r=some (.tup [.ref fo,.ref ha])->H' fo=some (.lst us)->CQ n bk (cl n bk fl) m->cP NoH H' us (prs n bk (cl n bk fl) m)->m<=54->H' ha=some (.tup ((hrF n bk (cl n bk fl) m).map V.int))->Cy n fl bk (hrF n bk (cl n bk fl) m)->Q (.ref r) H'):Ih  vs H Q
def Lj:Sp:=fun vs H Q _=>Ih  vs H Q
theorem yc {k i j:Nat} (hi':i<=k) (hj:j<=k) (F:Fun K "_law_walk" "_law_walk" mY f fd) (B:Bt mg)
  (D_law_least:Df P w K mg base "_law_least" i ["_law_book_here","_law_floor"] oK) (D_law_knots:Df P w K mg base "_law_knots" k ["_law_book_here","_law_floor"] An) (D_law_alone:Df P w K mg base "_law_alone" j ["_law_book_here","_law_floor","_law_base","_law_crowd_here"] oO) :
  dR P w K mg base CX0 (k+1) f fd ["_law_book_here","_law_floor","_law_picks_here"] Lj:=by
 refine F.ok dG (fun vs H Q E h=>?_) (fun cdv A outer s H vs Q E hr h=>?_)
 ·obtain⟨b,f,pk,n,bk,fl,rfl,_⟩:=h
  rfl
 ·obtain⟨b,f,pk,n,bk,fl,rfl,n1,n6,hB,lb,hf,of,hpk,q⟩:=h
  refine⟨_,(au (aP (i:=3) dG.nd rfl (U8 rfl) (bj D_law_least hr (aa (pv 0) (aa (pv 1) aj))))
 (au (aP (i:=4) dG.nd rfl (U8 rfl) (bJ aj))
 (au (di Vx rfl (cg rfl B.range_ (aa (aR fV aA (aH (r:=rm K) bI rfl B.len_ d9 (aa (pv 0) aj))) aj)) (aF (i:=5) dG.nd rfl (U8 rfl)) (au (aP (i:=6) dG.nd rfl (U8 rfl) (bj D_law_knots hr (aa (pv 0) (aa (pv 3) aj))))
 (au (bZ (aQ (r:=Rv K) (HJ hr.eQ) (pv 6) (bJ aj) (aW _)) (aC (aM (bT (aa (pv 4) (aa (pv 3) aj))))) aX)
 (au (aP (i:=7) dG.nd rfl (U8 rfl) (bh (r:=gj K) bf (pv 6) (aR dh (bh (r:=gj K) bf (pv 2) (pv 5) (fun _ _=>rfl)) (aH (r:=rm K) bI rfl B.len_ d9 (aa (pv 6) aj))) (fun _ _=>rfl)))
 (au (aP (i:=3) dG.nd rfl (U8 rfl) (bj D_law_least hr (aa (pv 0) (aa (bj D_law_alone hr (aa (pv 0) (aa (pv 3) (aa (pv 3) (aa (pv 7) aj))))) aj))))
 (aC (eG (kZ VH VN VM cB (pv 4) (aa (bT (aa (pv 7) (aa (pv 3) aj))) aj)))))))))
 (aC (aM (bT (aa (pv 4) (aa (pv 3) aj)))))))),?_⟩
  have okb:=hB.okB
  have low0:=wK lb okb of
  obtain⟨mf,_,stf⟩:=jB lb okb of
  have hh:=gf lb okb of stf
  generalize itF (Fd fl bk) (rfF fl bk) mf=hi at hh
  obtain⟨us0,hb0,rb0,l12⟩:=id hB
  have lu:=rb0.length
  refine aV (fun σ H1=>∃ (ha:Addr),σ=[some (.ref b),some (.ref f),some (.ref pk),some (.ref ha),none,none,none,none]/\aO H H1/\H1 ha=some (.tup ((cl n bk fl).map V.int))) ?q1 ?t1
  case t1 =>
   intro N Rc
   exact⟨_,rfl,_,rfl,b,f,n,bk,fl,rfl,hB,lb,hf,of,fun r z H1 s1 e1 low=>Rc _ _ ⟨r,rfl,s1,by rw[JV low]; exact e1⟩⟩
  case q1 =>
  rintro σ H1 ⟨ha0,rfl,s1,eha0⟩
  refine aV (fun σ H2=>∃ (fo:Addr),σ=[some (.ref b),some (.ref f),some (.ref pk),some (.ref ha0),some (.ref fo),none,none,none]/\aO H1 H2/\H1 fo=none/\H2 fo=some (.lst [])) ?q2 ?t2
  case t2 =>
   intro N Rc
   exact⟨small (by show 0<=1000; decide),fun p hp=>Rc _ _ ⟨p,rfl,aB hp _,hp,aq⟩⟩
  case q2 =>
  rintro σ H2 ⟨fo,rfl,s2,ffo1,efo0⟩
  have ffo:H fo=none:=s1.free ffo1
  have s12:=s1.trans s2
  have fin:∀ {i:Nat} {us:List V} {ha:Addr} {Hx:Hp},aO H Hx->Hx fo=some (.lst us)->cP NoH Hx us (prs n bk (cl n bk fl) i)->Hx ha=some (.tup ((hrF n bk (cl n bk fl) i).map V.int))->(∀ j < i,kN n bk (hrF n bk (cl n bk fl) j)≠[])->bQ n (hrF n bk (cl n bk fl) i) bk []->At n bk hi (hrF n bk (cl n bk fl) i)->i<=54->∀ p,Hx p=none->Q (.ref p) (upd Hx p (.tup [.ref fo,.ref ha])) :=
   fun {i us ha Hx} sx ef hpr eh hj ka att hi54 p hp=>by
    have sn:=aB hp (.tup [.ref fo,.ref ha])
    exact q p fo ha us i _ (sx.trans sn) aq (sn _ _ ef) ⟨G8 lb okb att.1.1 att.1 ka,hj⟩ (hpr.mono sn) hi54 (sn _ _ eh) (by rw[(jt lb okb att.1.1 att.1 att.2).mp ka]; exact hh)
  refine aV (fun σ Hx=>∃ (ha:Addr) (us:List V) (u5 u6 u7:Option V),σ=[some (.ref b),some (.ref f),some (.ref pk),some (.ref ha),some (.ref fo),u5,u6,u7]/\aO H Hx/\Hx fo=some (.lst us)/\cP NoH Hx us (prs n bk (cl n bk fl) (9 * n))/\Hx ha=some (.tup ((hrF n bk (cl n bk fl) (9 * n)).map V.int))/\At n bk hi (hrF n bk (cl n bk fl) (9 * n))/\(∀ j < 9 * n,kN n bk (hrF n bk (cl n bk fl) j)≠[])/\((9 * n:Nat):Int)<=(hrF n bk (cl n bk fl) (9 * n)).sum) ?q3 ?t3
  case q3 =>
   rintro σ Hx ⟨ha,us,u5,u6,u7,rfl,sx,ef,hpr,eh,att,hj,hs⟩
   refine⟨_,rfl,_,rfl,small (by show 2<=1000; decide),fun p hp=>fin sx ef hpr eh hj ?_ att (by lia) p hp⟩
   exact (jt lb okb att.1.1 att.1 att.2).mpr (Hj att (by lia))
  case t3 =>
   intro N Rc
   refine⟨_,rfl,b,_,rfl,.inl (SqL.of (s12 _ _ hb0)),_,_,rfl,rfl,.inl ⟨by decide,by decide⟩,_,rfl,by lia,by lia,eF (lo:=0) (n:=(9 * (us0.length:Int)).toNat) (fun i σ Hx=>∃ (ha:Addr) (us:List V) (u5 u6 u7:Option V),σ=[some (.ref b),some (.ref f),some (.ref pk),some (.ref ha),some (.ref fo),u5,u6,u7]/\aO H Hx/\Hx fo=some (.lst us)/\cP NoH Hx us (prs n bk (cl n bk fl) i)/\Hx ha=some (.tup ((hrF n bk (cl n bk fl) i).map V.int))/\At n bk hi (hrF n bk (cl n bk fl) i)/\(∀ j < i,kN n bk (hrF n bk (cl n bk fl) j)≠[])/\(i:Int)<=(hrF n bk (cl n bk fl) i).sum)
    ⟨ha0,[],_,_,_,rfl,s12,efo0,.nil,s2 _ _ eha0,lX lb okb of low0 hh,fun j hj=>absurd hj (Zh j),(rD (lX lb okb of low0 hh)).1⟩ ?_ ?_⟩
   ·rintro i σ Hx hi9 ⟨ha,us,u5,u6,u7,rfl,sx,ef,hpr,eh,att,hj0,hs⟩
    have i54:i < 54:=by lia
    refine gN ?_
    have oh:=att.1.1
    refine aV (fun σ Hy=>∃ (so:Addr) (ul:List V) (ks:List (List Nat)),σ=[some (.ref b),some (.ref f),some (.ref pk),some (.ref ha),some (.ref fo),some (.int (0+(i:Int))),some (.ref so),u7]/\aO Hx Hy/\Hy so=some (.lst ul)/\LF NoH Hy ul ks/\bQ n (hrF n bk (cl n bk fl) i) bk ks) ?q4 ?t4
    case t4 =>
     intro N' Rc'
     exact⟨_,rfl,_,rfl,b,ha,n,bk,_,rfl,n1,n6,hB.mono sx,lb,eh,oh,fun r ul ks Hy sy er lr ka=>Rc' _ _ ⟨r,ul,ks,rfl,sy,er,lr,ka⟩⟩
    case q4 =>
    rintro σ Hy ⟨so,ul,ks,rfl,sy,eso,lso,ka⟩
    have lk:=lso.length
    refine aV (fun σ Hz=>σ=[some (.ref b),some (.ref f),some (.ref pk),some (.ref ha),some (.ref fo),some (.int (0+(i:Int))),some (.ref so),u7]/\aO Hy Hz/\ks≠[]) ?q5 ?t5
    case t5 =>
     intro N' Rc'
     refine⟨_,rfl,small (by show 0<=1000; decide),fun p3 h3=>?_⟩
     generalize eHz:upd Hy p3 _=Hz
     obtain⟨gz,ez⟩:=aL eHz h3
     refine⟨so,p3,_,rfl,rfl,SqL.of (gz _ _ eso),SqL.of ez,_,rfl,?_⟩
     cases ks with
     | nil =>
      have:ul=[]:=W5 (by rw[lk]; rfl)
      subst this
      have sxz:=sy.trans gz
      exact ji ⟨_,rfl,_,rfl,small (by show 2<=1000; decide),fun p hp=>fin (sx.trans sxz) (sxz _ _ ef) (hpr.mono sxz) (sxz _ _ eh) hj0 ka att (by lia) p hp⟩
     | cons k0 ks =>
      have hne:ul.isEmpty=false:=by
       cases ul with
       | nil=>simp at lk
       | cons _ _=>rfl
      rw[hne]
      exact fU (Rc' _ _ ⟨rfl,gz,aaA _ _⟩)
    case q5 =>
    rintro σ Hz ⟨rfl,sz,kne⟩
    cases ks with
    | nil=>exact absurd rfl kne
    | cons k0 ks =>
    cases lso with
    | @cons ka0 _ ul' _ hka fka rest =>
    have e1:kN n bk (hrF n bk (cl n bk fl) i)=k0::ks:=G8 lb okb oh att.1 ka
    obtain⟨kn,kin,kl⟩:=(lY lb okb att ka).2 k0 UW
    have k0n:k0≠[]:=fun z=>kn.1 (by rw[z]; exact jP lb okb oh att.1)
    have mx:=cY lb okb oh att.1 k0
    have e4:hrF n bk (cl n bk fl) (i+1)=cl n bk (al n (hrF n bk (cl n bk fl) i) bk (hrF n bk (cl n bk fl) i) k0):=by
     show nxF n bk (hrF n bk (cl n bk fl) i)=_
     unfold nxF
     rw[e1]
     rfl
    have epr:prF n bk (cl n bk fl) i=(k0,hrF n bk (cl n bk fl) (i+1)):=by
     unfold prF
     rw[e1]
     rfl
    generalize ehr:hrF n bk (cl n bk fl) i=h at *
    have lowy:=wK lb okb mx.1.1
    obtain⟨aty,sumy⟩:=zf lb okb att kn lowy
    rw[← e4] at aty sumy lowy
    have syz:=sy.trans sz
    have sxz:=sx.trans syz
    have apk:atI ((Vf 54 (0:Int)).map V.int) (0+(i:Int))=some (.int 0):=by
     rw[Xl]
     refine eZ ?_
     rw[Vj,XF,if_pos i54]
     rfl
    have hlen:(0:Int) < (((V.ref ka0::ul').length:Nat):Int):=by rw[Vd]; lia
    have aso:atI (V.ref ka0::ul') ((0:Int) % (((V.ref ka0::ul').length:Nat):Int))=some (.ref ka0):=by
     rw[Int.zero_emod]
     exact eZ (j:=0) rfl
    refine aV (fun σ Hw=>σ=[some (.ref b),some (.ref f),some (.ref pk),some (.ref ha),some (.ref fo),some (.int (0+(i:Int))),some (.ref so),some (.ref ka0)]/\Hw=Hz) ?q6 ?t6
    case t6 =>
     intro N' Rc'
     exact⟨_,rfl,_,rfl,_,rfl,pk,_,_,_,rfl,rfl,SqL.of (sxz _ _ hpk),apk,_,rfl,so,_,rfl,.inl (SqL.of (sz _ _ eso)),_,_,rfl,rfl,hlen,so,_,_,_,rfl,rfl,SqL.of (sz _ _ eso),aso,Rc' _ _ ⟨rfl,rfl⟩⟩
    case q6 =>
    rintro σ Hw ⟨rfl,rfl⟩
    have hBw:=hB.mono sxz
    refine aV (fun σ Hv=>∃ hy:Addr,σ=[some (.ref b),some (.ref f),some (.ref pk),some (.ref hy),some (.ref fo),some (.int (0+(i:Int))),some (.ref so),some (.ref ka0)]/\aO Hw Hv/\Hv hy=some (.tup ((hrF n bk (cl n bk fl) (i+1)).map V.int))) ?q7 ?t7
    case t7 =>
     intro N' Rc'
     refine⟨_,rfl,_,rfl,_,rfl,_,rfl,_,rfl,b,ha,ha,ka0,n,bk,h,h,k0,rfl,hBw,lb,syz _ _ eh,oh,syz _ _ eh,att.1,sz _ _ hka,kin,by lia,fun r z H3 s3 er mz=>?_⟩
     have ez:=yX lb okb oh att.1 mz
     subst ez
     exact⟨b,r,n,bk,_,rfl,hBw.mono s3,lb,er,mx.1.1,fun r2 z2 H4 s4 er2 low2=>Rc' _ _ ⟨r2,rfl,s3.trans s4,by rw[e4,JV low2]; exact er2⟩⟩
    case q7 =>
    rintro σ Hv ⟨hy,rfl,sv,ehy⟩
    refine⟨_,rfl,.inl ⟨rfl,_,SqL.of ((syz.trans sv) _ _ ef)⟩,_,rfl,_,rfl,small (by show 2<=1000; decide),fun p5 h5=>?_⟩
    generalize eH5:upd Hv p5 _=H5
    obtain⟨g5,e5⟩:=aL eH5 h5
    have s5:=syz.trans (sv.trans g5)
    have lus:us.length=i:=by rw[hpr.length]; unfold prs; rw[Uy,Vt]
    have tk:=cI (zs':=us++[.ref p5]) (s5 _ _ ef)
    have hk5:=(sz.trans (sv.trans g5)) _ _ hka
    have kap:ka0≠fo:=(hpr.mono s5).apart (s5 _ _ ef) hk5 k0n
    refine⟨fo,_,_,rfl,rfl,s5 _ _ ef,aD (by lia),hy,us++[.ref p5],_,_,_,rfl,aJ (sx.trans s5) ffo _,aq,?_,tk _ _ (g5 _ _ ehy),aty,?_,?_⟩
    ·rw[zR,epr]
     refine cP.snoc (tk _ _ e5) (by rw[bB kap]; exact hk5) rfl (by lia) (tk _ _ (g5 _ _ ehy)) (by rw[lowy.1.1]; lia) ?_
     exact (hpr.mono s5).putN (s5 _ _ ef) (.inl rfl) fun u hu=>hu
    ·intro j hj
     by_cases e:j < i
     ·exact hj0 j e
     ·have:j=i:=by lia
      rw[this,ehr,e1]
      exact aaA _ _
    ·lia
   ·rintro σ Hx ⟨ha,us,u5,u6,u7,rfl,sx,ef,hpr,eh,att,hj0,hs⟩
    have e9:(9 * (us0.length:Int)).toNat=9 * n:=by lia
    rw[e9] at hpr eh att hj0 hs
    exact Rc _ _ ⟨ha,us,_,_,_,rfl,sx,ef,hpr,eh,att,hj0,hs⟩
def pD (p:List Nat × List Int):Dm:=.tup [cD p.1,gD p.2]
theorem cP.rep {H0 H:Hp}:∀ {us:List V} {ps:List (List Nat × List Int)},cP H0 H us ps->tM H us (ps.map pD)
 | _,_,.nil=>.nil
 | _,_,.cons h1 h2 h3 h4 h5 h6 r=>.cons (.tup h1 (by show 2<=100000; decide) (.cons (QZ h2 (Wd h4 (by decide))) (.cons (Jw h5 h6) .nil))) (cP.rep r)
theorem Je:∀ ps:List (List Nat × List Int),uq (ps.map pD)<=2
 | []=>by rw[Z5,uq]; decide
 | p::ps=>by
  have:=Je ps
  rw[Vw,uq]
  have e1:(cD p.1).dep=1:=Qk p.1
  have e2:(gD p.2).dep=1:=Oj p.2
  have:(pD p).dep=2:=by
   unfold pD
   rw[Dm.dep,uq,uq,uq,e1,e2]
   decide
  lia
def P0 (H0:Hp) (fo:Addr) (us:List V) (m:Nat) (H:Hp):Prop:=∀ u∈us,∃ a k g:Addr,u = .ref a/\H a=some (.tup [.ref k,.ref g])/\H0 k=none/\k≠fo/\∃ zs,H k=some (.lst zs)/\zs.length<=m
theorem P0.step {H0 H:Hp} {fo:Addr} {us:List V} {m:Nat} (h:P0 H0 fo us m H) {k:Addr} {zs:List V} {v:V} (hk:H k=some (.lst zs)) (hz:zs.length<=m):P0 H0 fo us (m+1) (upd H k (.lst (zs++[v]))):=fun u hu=>by
 obtain⟨a,k',g,e,h1,h2,h3,ys,h4,h5⟩:=h u hu
 refine⟨a,k',g,e,cI hk _ _ h1,h2,h3,?_⟩
 by_cases e:k'=k
 ·exact⟨zs++[v],by rw[e]; exact aq,by rw[Va]; exact abJ hz⟩
 ·exact⟨ys,by rw[bB e]; exact h4,by lia⟩
theorem cP.chg {H0 H:Hp} {fo:Addr} {ws:List V} (hf:H fo=some (.lst ws)):∀ {us:List V} {ps:List (List Nat × List Int)},cP H0 H us ps->(∀ u∈us,u∈ws)->P0 H0 fo us 12 H
 | _,_,.nil,_,_,h=>by cases h
 | _,_,.cons h1 h2 h3 h4 h5 h6 r,hs,u,hu=>by
  rcases List.mem_cons.mp hu with e | e
  ·refine⟨_,_,_,e,h1,h3,fun z=>?_,_,h2,by rw[Uy]; exact h4⟩
   rw[z,hf] at h2
   injection h2 with h2
   injection h2 with h2
   exact tX (hs _ UW) h2
  ·exact cP.chg hf r (fun v hv=>hs v (U9 _ hv)) u e
abbrev M3:Stmt:=top 56
theorem dU:aY ["_law_script","_law_start","_law_n","_law_most","_law_book_here","_law_floor","_law_want","_law_last","_law_turn","_law_handed","_law_found","_law_knot","_law_here","_law_picks_here","_law_at","_law_some"] ["_law_script"] (aG M3):=⟨rfl,rfl,rfl,by decide+kernel,rfl,by decide+kernel,by decide+kernel⟩
inductive Mr (K:Vi) (vs:List V) (H:Hp) (Q:VK):Prop where
 | mk (a:Addr) (ns:List Int) (z0:vs=[.ref a]) (z1:SqL K H a (ns.map V.int)) (z2:ns.length<=63) (z3:∀ H',Q (.bl true) H'):Mr K vs H Q
def KN (K:Vi):Sp:=fun vs H Q _=>Mr K vs H Q
def LW (n:Nat) (bk:List (List Pl)) (hi:List Int) (pr8:List (Option V)) (pk:Addr) (H7:Hp) (m:Nat) (σ:St) (Hx:Hp):Prop:=∃ (t:Nat) (ha:Addr) (h:List Int) (v15:Option V),σ=pr8++[some (.ref ha),some (.ref pk),some (.int (t:Int)),v15]/\aO H7 Hx/\Hx ha=some (.tup (h.map V.int))/\At n bk hi h/\(t:Int)<=h.sum/\t+m=54
theorem Qz (F : Fun K "law" "law" M3 f fd) (B : Bt mg)
    (D_law_scene_at : Df P w K mg base "_law_scene_at" 9 ["_law_script", "_law_start"] (vm K)) (D_law_walk : Df P w K mg base "_law_walk" 10 ["_law_book_here", "_law_floor", "_law_picks_here"] Lj) (D_climb : Df P w K mg base "climb" 15 ["book", "floor"] Fy)
    (D_law_same : Df P w K mg base "_law_same" 4 ["_law_found", "_law_due"] (rC 4)) (D_greatest : Df P w K mg base "greatest" 13 ["book", "floor"] (uz rfF)) (D_least : Df P w K mg base "least" 13 ["book", "floor"] (uz Py))
    (D_law_picks : Df P w K mg base "_law_picks" 2 ["_law_cell_here", "_law_many"] FW) (D_law_cell : Df P w K mg base "_law_cell" 1 ["_law_script", "_law_k"] (zB K)) (D_knots : Df P w K mg base "knots" 14 ["book", "floor"] zg)
    (D_law_least : Df P w K mg base "_law_least" 8 ["_law_book_here", "_law_floor"] oK) (D_law_alone : Df P w K mg base "_law_alone" 7 ["_law_book_here", "_law_floor", "_law_base", "_law_crowd_here"] oO) : dR P w K mg base CX0 16 f fd ["_law_script"] (KN K) := by
  refine F.ok dU (fun vs H Q E h => ?_) (fun cdv A outer s H vs Q E hr h => ?_)
  · obtain ⟨a, ns, rfl, _⟩ := h
    rfl
  · obtain ⟨a, ns0, rfl, hS, lN, q⟩ := h
    refine' ⟨_, ?hp, ?hz⟩
    case hp =>
     refine' au ?s1 ?r1
     case s1 =>
      exact (aP (i := 0) dU.nd rfl (U8 rfl) (jb (r := RP K) Gi (pv 0) mO (jn aA)))
     case r1 =>
      refine' au ?s2 ?r2
      case s2 =>
       refine' di Vx rfl ?it ?tg ?bd ?hs
       case hs => intro _; rfl
       case it => exact (gO (bT (aa aA (aa aA (aa aA (aa aA aj))))))
       case tg => exact (aF (i := 1) dU.nd rfl (U8 rfl))
       case bd =>
        refine' au ?s3 ?r3
        case s3 =>
         exact (HH (bj D_law_scene_at hr (aa (pv 0) (aa (pv 1) aj))) (dD (K := K) 4 rfl rfl (bw (aF (i := 2) dU.nd rfl (U8 rfl)) (bw (aF (i := 3) dU.nd rfl (U8 rfl)) (bw (aF (i := 4) dU.nd rfl (U8 rfl)) (bw (aF (i := 5) dU.nd rfl (U8 rfl)) dF))))))
        case r3 =>
         refine' au ?s4 ?r4
         case s4 =>
          exact (HH (bj D_law_walk hr (aa (pv 4) (aa (pv 5) (aa (aR EY (bJ (aa aA aj)) aA) aj)))) (dD (K := K) 2 rfl rfl (bw (aF (i := 6) dU.nd rfl (U8 rfl)) (bw (aF (i := 7) dU.nd rfl (U8 rfl)) dF))))
         case r4 =>
          refine' au ?s5 ?r5
          case s5 =>
           refine' di Vx rfl ?it ?tg ?bd ?hs
           case hs => intro _; rfl
           case it => exact (cg rfl B.range_ (aa aA aj))
           case tg => exact (aF (i := 8) dU.nd rfl (U8 rfl))
           case bd =>
            refine' au ?s6 ?r6
            case s6 =>
             exact (xK (L := ["_law_some"]) (F := []) (cap := []) (j := 9) dU.nd rfl (U8 rfl) rfl (bD rfl rfl (by kernel_rfl)) (dm (pv 4)) (fun _ _ _ _ _ => (aF (i := 0) (bu (by decide +kernel)) rfl (U8 rfl))) (fun _ _ _ _ _ => bF) (fun _ _ _ _ _ => (bR (r := yW K) qY rfl B.list_ rY (aa (pv 0) aj))))
            case r6 =>
             refine' au ?s7 ?r7
             case s7 =>
              exact (aP (i := 10) dU.nd rfl (U8 rfl) (bj D_climb hr (aa (pv 9) (aa (pv 5) aj))))
             case r7 =>
              refine' au ?s8 ?r8
              case s8 =>
               exact (bZ (PW.pt (JZ (zP (jQ (bj D_law_same hr (aa (pv 10) (aa (pv 6) aj))))) (JZ (aQ (r := Cj K) (qm hr.eQ) (pv 7) (bj D_greatest hr (aa (pv 4) (aa (pv 5) aj))) (aW _)) (HQ (aQ (r := QD) (Ow hr) (pv 9) (pv 4) (aW _)))))) (aC (aM lK)) aX)
              case r8 =>
               refine' au ?s9 ?r9
               case s9 =>
                exact (bZ (aQ Nx (cU (r := Rv K) (HJ hr.eQ) (pv 10) (bJ aj) (aW _)) (cU (r := yQ K) (nC hr.eQ) (bj D_least hr (aa (pv 4) (aa (pv 5) aj))) (pv 7) (aW _)) (aW _)) (aC (aM lK)) aX)
               case r9 =>
                refine' au ?s10 ?r10
                case s10 =>
                 refine' di Vx rfl ?it ?tg ?bd ?hs
                 case hs => intro _; rfl
                 case it => exact (dm (pv 10))
                 case tg => exact (dD (K := K) 2 rfl rfl (bw (aF (i := 11) dU.nd rfl (U8 rfl)) (bw (aF (i := 12) dU.nd rfl (U8 rfl)) dF)))
                 case bd =>
                  refine' aC ?s11
                  case s11 =>
                   exact (eG (kZ VH VN VM cB (pv 11) (aa aA aj)))
                case r10 =>
                 refine' aC ?s12
                 case s12 =>
                  exact (eG (kZ VH VN VM cB (pv 10) (aa (bT aj) aj)))
          case r5 =>
           refine' au ?s13 ?r13
           case s13 =>
            exact (aP (i := 13) dU.nd rfl (U8 rfl) (bj D_law_picks hr (aa (bj D_law_cell hr (aa (pv 0) (aa (aR bU aA (aR tG (pv 1) aA)) aj))) (aa aA aj))))
           case r13 =>
            refine' au ?s14 ?r14
            case s14 =>
             exact (aP (i := 12) dU.nd rfl (U8 rfl) (bj D_least hr (aa (pv 4) (aa (pv 5) aj))))
            case r14 =>
             refine' au ?s15 ?r15
             case s15 =>
              exact (aP (i := 14) dU.nd rfl (U8 rfl) aA)
             case r15 =>
              refine' au ?s16 ?r16
              case s16 =>
               exact (lZ Vx (PW.pt (wG (aQ Dt (pv 14) aA (aW _)) (pH (aQ (r := SN K) (LR hr.eQ) (bj D_knots hr (aa (pv 4) (aa (pv 12) aj))) (bJ aj) (aW _))))) (au (aP (i := 15) dU.nd rfl (U8 rfl) (bj D_knots hr (aa (pv 4) (aa (pv 12) aj))))
 (au (aP (i := 12) dU.nd rfl (U8 rfl) (bj D_law_least hr (aa (pv 4) (aa (bj D_law_alone hr (aa (pv 4) (aa (pv 12) (aa (pv 12) (aa (bh (r := gj K) bf (pv 15) (aR dh (bh (r := gj K) bf (pv 13) (pv 14) (fun _ _ => rfl)) (aH (r := rm K) bI rfl B.len_ d9 (aa (pv 15) aj))) (fun _ _ => rfl)) aj))))) aj))))
 (aC (aP (i := 14) dU.nd rfl (U8 rfl) (aR bU (pv 14) aA))))))
              case r16 =>
               refine' aC ?s17
               case s17 =>
                exact (bZ (PW.pt (JZ (aQ (r := Cj K) (qm hr.eQ) (pv 12) (pv 7) (aW _)) (HQ (aQ (r := SN K) (LR hr.eQ) (bj D_knots hr (aa (pv 4) (aa (pv 12) aj))) (bJ aj) (aW _))))) (aC (aM lK)) aX)
      case r2 =>
       refine' aC ?s18
       case s18 =>
        exact (aM lK)
    case hz =>
    refine aV (fun σ H1 => ∃ (p1 : Addr) (ss : List Int), σ = [some (.ref p1), none, none, none, none, none, none, none, none, none, none, none, none, none, none, none] ∧ aO H H1 ∧ H1 p1 = some (.lst (ss.map V.int)) ∧ ss.length ≤ 63) ?q0 ?t0
    case t0 =>
      intro N Rc
      refine ⟨_, rfl, _, rfl, a, _, rfl, hS, fun p1 h1 => ?_⟩
      obtain ⟨ss, es, ls⟩ := Br ns0 none (some 63)
      rw [es]
      exact Rc _ _ ⟨p1, ss, rfl, aB h1 _, aq, by lia⟩
    case q0 =>
    rintro σ H1 ⟨p1, ss, rfl, g1, e1, ls⟩
    refine aV (fun σ Hz => True) ?qE ?tL
    case qE =>
      intro σ Hz _
      exact q Hz
    intro N Rc
    refine ⟨small (by show 4 ≤ 1000; decide), fun p2 h2 => ?_⟩
    generalize eH2 : upd H1 p2 _ = H2
    obtain ⟨g2, e2⟩ := aL eH2 h2
    refine ⟨p2, rfl, ⟨_, SqT.of e2⟩, pG (K := K) (a := p2) (xs := [.int 0, .int 9, .int 18, .int 27]) (fun i σ H3 => (∃ u1 u2 u3 u4 u5 u6 u7 u8 u9 u10 u11 u12 u13 u14 u15 : Option V, σ = [some (.ref p1), u1, u2, u3, u4, u5, u6, u7, u8, u9, u10, u11, u12, u13, u14, u15]) ∧ aO H2 H3) ⟨⟨_, _, _, _, _, _, _, _, _, _, _, _, _, _, _, rfl⟩, aO.refl _⟩
      (fun i σ H3 _ h => SqT.of (h.2 _ _ e2)) ?_ (fun σ H3 h => Rc _ _ trivial)⟩
    rintro i x σ H3 hx ⟨⟨u1, u2, u3, u4, u5, u6, u7, u8, u9, u10, u11, u12, u13, u14, u15, rfl⟩, s3⟩
    obtain ⟨st, rfl, st0, st27⟩ : ∃ st : Int, x = .int st ∧ 0 ≤ st ∧ st ≤ 27 := by
      match i, hx with
      | 0, hx => exact ⟨0, by cases hx; rfl, by decide, by decide⟩
      | 1, hx => exact ⟨9, by cases hx; rfl, by decide, by decide⟩
      | 2, hx => exact ⟨18, by cases hx; rfl, by decide, by decide⟩
      | 3, hx => exact ⟨27, by cases hx; rfl, by decide, by decide⟩
      | i + 4, hx => simp at hx
    have e13 := s3 _ _ (g2 _ _ e1)
    refine gN ?_
    refine aV (fun σ H4 => ∃ (n mo : Nat) (b f : Addr) (bk : List (List Pl)) (fl : List Int), σ = [some (.ref p1), some (.int st), some (.int (n : Int)), some (.int (mo : Int)), some (.ref b), some (.ref f), u6, u7, u8, u9, u10, u11, u12, u13, u14, u15] ∧ aO H3 H4 ∧ n ≤ 6 ∧ M8 n H4 b f bk fl) ?q1 ?t1
    case t1 =>
      intro N' Rc'
      exact ⟨_, rfl, _, rfl, p1, ss, _, rfl, SqL.of e13, by lia, fun r n mo b f bk fl H4 s4 er m1 m9 hpow hmo scn om => ⟨r, _, rfl, SqT.of er, rfl, _, _, rfl, _, _, rfl, _, _, rfl, _, _, rfl, rfl, Rc' _ _ ⟨n, mo, b, f, bk, fl, rfl, s4, hpow.2, scn⟩⟩⟩
    case q1 =>
    rintro σ H4 ⟨n, mo, b, f, bk, fl, rfl, s4, n6, ⟨n1, n12, hB, lb, hf, lf, hfl⟩⟩
    have of : okG n fl := ⟨lf, hfl⟩
    have okb := hB.okB
    have low0 := wK lb okb of
    generalize elo : cl n bk fl = lo at low0
    refine aV (fun σ H5 => ∃ (wa la : Addr) (uw : List V) (m : Nat), σ = [some (.ref p1), some (.int st), some (.int (n : Int)), some (.int (mo : Int)), some (.ref b), some (.ref f), some (.ref wa), some (.ref la), u8, u9, u10, u11, u12, u13, u14, u15] ∧ aO H4 H5 ∧ H5 wa = some (.lst uw) ∧ CQ n bk lo m ∧ cP NoH H5 uw (prs n bk lo m) ∧ m ≤ 54 ∧ H5 la = some (.tup ((hrF n bk lo m).map V.int)) ∧ Cy n fl bk (hrF n bk lo m)) ?q2 ?t2
    case t2 =>
      intro N' Rc'
      refine ⟨_, rfl, _, rfl, small (by show 1 ≤ 1000; decide), fun p5 h5 => ?_⟩
      generalize eH5 : upd H4 p5 _ = H5
      obtain ⟨g5, e5⟩ := aL eH5 h5
      refine ⟨p5, _, _, rfl, rfl, e5, by decide, by decide, small (by show 1 * (54 : Int).toNat ≤ 1000; decide), fun p6 h6 => ?_⟩
      rw [oH]
      generalize eH6 : upd H5 p6 _ = H6
      obtain ⟨g6, e6⟩ := aL eH6 h6
      have s46 := g5.trans g6
      refine ⟨b, f, p6, n, bk, fl, rfl, n1, n6, hB.mono s46, lb, s46 _ _ hf, of, e6, fun r fo ha us m H' s' er efo en hpr m54 eha hh => ?_⟩
      rw [elo] at en hpr eha hh
      exact ⟨r, _, rfl, SqT.of er, rfl, _, _, rfl, _, _, rfl, rfl, Rc' _ _ ⟨fo, ha, us, m, rfl, s46.trans s', efo, en, hpr, m54, eha, hh⟩⟩
    case q2 =>
    rintro σ H5 ⟨wa, la, uw, m, rfl, s5, ewa, en, hpr, m54, ela, hh⟩
    generalize ehi : hrF n bk lo m = hi at ela hh
    have att0 := lX lb okb of low0 hh
    have luw : uw.length = m := by rw [hpr.length]; unfold prs; rw [Uy, Vt]
    have lz : (m = 0 ↔ lo = hi) := by
      constructor
      · intro z
        rw [← ehi, z]
        rfl
      · intro z
        cases m with
        | zero => rfl
        | succ m' =>
          have h0 := en.2 0 (Nat.succ_pos _)
          have : kN n bk lo = [] := G8 lb okb att0.1.1 att0.1 ((jt lb okb att0.1.1 att0.1 att0.2).mpr z)
          exact absurd this h0
    refine aV (fun σ H6 => (∃ v8 v9 v10 v11 v12 : Option V, σ = [some (.ref p1), some (.int st), some (.int (n : Int)), some (.int (mo : Int)), some (.ref b), some (.ref f), some (.ref wa), some (.ref la), v8, v9, v10, v11, v12, u13, u14, u15]) ∧ aO H5 H6) ?q3 ?t3
    case t3 =>
      intro N' Rc'
      refine ⟨_, rfl, by decide, by decide, eF (lo := 0) (n := 2) (fun j σ Hx => (∃ v8 v9 v10 v11 v12 : Option V, σ = [some (.ref p1), some (.int st), some (.int (n : Int)), some (.int (mo : Int)), some (.ref b), some (.ref f), some (.ref wa), some (.ref la), v8, v9, v10, v11, v12, u13, u14, u15]) ∧ aO H5 Hx) ⟨⟨_, _, _, _, _, rfl⟩, aO.refl _⟩ ?_ ?_⟩
      · rintro i σ Hx _ ⟨⟨v8, v9, v10, v11, v12, rfl⟩, sx⟩
        refine gN ?_
        have s4x := s5.trans sx
        obtain ⟨us, hb, rb, l12⟩ := hB.mono s4x
        have lu := rb.length
        refine aV (fun σ Ha => ∃ (D : Addr) (zs : List V) (v8 : Option V), σ = [some (.ref p1), some (.int st), some (.int (n : Int)), some (.int (mo : Int)), some (.ref b), some (.ref f), some (.ref wa), some (.ref la), v8, some (.ref D), v10, v11, v12, u13, u14, u15] ∧ aO Hx Ha ∧ Ha D = some (.lst zs) ∧ zs.length = us.length ∧ Copied Ha zs us Hx) ?q5 ?t5
        case t5 =>
          intro N' Rc'
          refine ⟨_, rfl, b, rfl, ⟨_, SqL.of hb⟩, fun D hD => cT (K := K) (a := b) (xs := us) (fun i zs σ' Hy => (∃ u, σ' = [u]) ∧ aO Hx Hy ∧ Hy D = some (.lst zs) ∧ zs.length = i ∧ (∀ u ∈ zs, u ≠ .ref D) ∧ Copied Hy zs us Hx)
            ⟨⟨_, rfl⟩, aB hD _, aq, rfl, by simp, fun j u z => by simp at z⟩ (fun i zs σ' Hy _ h => ⟨SqL.of (h.2.1 _ _ hb), h.2.2.1⟩) ?_ ?_⟩
          · rintro i zs x σ' Hy hx ⟨⟨u, rfl⟩, sm, eD, lz, hne, cp⟩
            obtain ⟨cc, as, ps, rfl, _, hcc, l100, _⟩ := rb.get hx
            have hi := (List.getElem?_eq_some_iff.mp hx).1
            refine gT ?_
            refine ⟨_, rfl, cc, _, rfl, .inl (SqL.of (sm _ _ hcc)), fun l hl => ?_⟩
            have sn := aB hl (.lst (as.map V.ref))
            have hlD : l ≠ D := fun z => by rw [z, eD] at hl; cases hl
            refine ⟨sn _ _ eD, aD (by lia), ⟨_, rfl⟩, aJ (sm.trans sn) hD _, aq, by rw [Va, lz]; rfl, fun u hu => ?_, cp.step lz hx hcc hne hl hlD⟩
            rcases List.mem_append.mp hu with h | h
            · exact hne u h
            · rw [List.mem_singleton.mp h]
              exact fun z => hlD (by cases z; rfl)
          · rintro zs σ' H8 ⟨_, s8, eD, lz, hne, cp⟩
            exact Rc' _ _ ⟨D, zs, _, rfl, s8, eD, lz, cp⟩
        case q5 =>
        rintro σ Ha ⟨D, zs, v8, rfl, sa, eD, lzs, cp⟩
        have hBD : oA n Ha D bk := ⟨zs, eD, Dj sa rb lzs cp, by lia⟩
        have s4a := s4x.trans sa
        refine aV (fun σ Hb => ∃ (fo : Addr) (uf : List V), σ = [some (.ref p1), some (.int st), some (.int (n : Int)), some (.int (mo : Int)), some (.ref b), some (.ref f), some (.ref wa), some (.ref la), v8, some (.ref D), some (.ref fo), v11, v12, u13, u14, u15] ∧ aO Ha Hb ∧ Ha fo = none ∧ Hb fo = some (.lst uf) ∧ cP Ha Hb uf (prs n bk lo m)) ?q6 ?t6
        case t6 =>
          intro N' Rc'
          refine ⟨_, rfl, _, rfl, D, f, n, bk, fl, rfl, n6, hBD, lb, s4a _ _ hf, of, fun r uf m' Hb sb fr er en' pr' _ => ?_⟩
          rw [elo] at en' pr'
          have em := en'.uniq en
          subst em
          exact Rc' _ _ ⟨r, uf, rfl, sb, fr, er, pr'⟩
        case q6 =>
        rintro σ Hb ⟨fo, uf, rfl, sb, ffo, efo, pf⟩
        have fox : Hx fo = none := sa.free ffo
        have luf : uf.length = m := by rw [pf.length]; unfold prs; rw [Uy, Vt]
        refine aV (fun σ Hc => σ = [some (.ref p1), some (.int st), some (.int (n : Int)), some (.int (mo : Int)), some (.ref b), some (.ref f), some (.ref wa), some (.ref la), v8, some (.ref D), some (.ref fo), v11, v12, u13, u14, u15] ∧ aO Hb Hc) ?q7 ?t7
        case t7 =>
          intro N' Rc'
          have sw := sx.trans (sa.trans sb)
          refine ⟨_, rfl, _, rfl, .ref fo, .ref wa, .lst ((prs n bk lo m).map pD), rfl, .lst efo (by lia) pf.rep, .lst (sw _ _ ewa) (by lia) (hpr.mono sw).rep, ?_, fun Hk sk => ⟨_, rfl, fU ?_⟩⟩
          · rw [Dm.dep]
            have := Je (prs n bk lo m)
            lia
          have sak := sb.trans sk
          have s4k := s4a.trans sak
          refine ⟨_, rfl, _, rfl, _, rfl, b, f, n, bk, fl, rfl, hB.mono s4k, lb, s4k _ _ hf, of, fun m2 a2 Hf _ st2 sf e9 => ?_⟩
          have hh2 := (gf lb okb of st2).uniq hh
          rw [hh2] at e9
          have saf := sak.trans sf
          refine ⟨la, a2, _, _, rfl, rfl, SqT.of ((sx.trans (sa.trans saf)) _ _ ela), SqT.of e9, _, rfl, ?_⟩
          rw [decide_eq_true rfl]
          refine fU ⟨_, rfl, _, rfl, D, b, rfl, rfl, cp.twin lzs saf (sa.trans saf) (saf _ _ eD) ((sa.trans saf) _ _ hb), _, rfl, fU ?_⟩
          exact Rc' _ _ ⟨rfl, sk.trans sf⟩
        case q7 =>
        rintro σ Hc ⟨rfl, sc⟩
        have sxc := sa.trans (sb.trans sc)
        have efc := sc _ _ efo
        refine aV (fun σ Hd => σ = [some (.ref p1), some (.int st), some (.int (n : Int)), some (.int (mo : Int)), some (.ref b), some (.ref f), some (.ref wa), some (.ref la), v8, some (.ref D), some (.ref fo), v11, v12, u13, u14, u15] ∧ aO Hc Hd) ?q8 ?t8
        case t8 =>
          intro N' Rc'
          refine ⟨_, rfl, small (by show 0 ≤ 1000; decide), fun p3 h3 => ?_⟩
          generalize eHd : upd Hc p3 _ = Hd
          obtain ⟨gd, ed⟩ := aL eHd h3
          have s4d := s4x.trans (sxc.trans gd)
          refine ⟨fo, p3, _, rfl, rfl, SqL.of (gd _ _ efc), SqL.of ed, _, rfl, _, rfl, b, f, n, bk, fl, rfl, hB.mono s4d, lb, s4d _ _ hf, of, fun m1 a1 He _ st1 se e8 => ?_⟩
          have lowe := (fK lb okb of st1).uniq low0
          rw [lowe] at e8
          refine ⟨_, rfl, a1, la, _, _, rfl, rfl, SqT.of e8, SqT.of ((sx.trans (sxc.trans (gd.trans se))) _ _ ela), rfl, _, rfl, ?_⟩
          have fe : uf.isEmpty = decide (lo = hi) := by
            cases uf with
            | nil => exact (decide_eq_true (lz.mp luf.symm)).symm
            | cons u us =>
              refine (decide_eq_false fun z => ?_).symm
              have := lz.mpr z
              rw [this] at luf
              simp at luf
          rw [fe]
          rw [show decide (V.bl (decide (lo = hi)) = V.bl (decide (lo = hi))) = true from decide_eq_true rfl]
          exact fU (Rc' _ _ ⟨rfl, gd.trans se⟩)
        case q8 =>
        rintro σ Hd ⟨rfl, sd⟩
        have sxd := sxc.trans sd
        have efd := sd _ _ efc
        have pfd := pf.mono (sc.trans sd)
        refine aV (fun σ He => (∃ v11 v12 : Option V, σ = [some (.ref p1), some (.int st), some (.int (n : Int)), some (.int (mo : Int)), some (.ref b), some (.ref f), some (.ref wa), some (.ref la), v8, some (.ref D), some (.ref fo), v11, v12, u13, u14, u15]) ∧ aO Hx He ∧ He fo = some (.lst uf)) ?q9 ?t9
        case t9 =>
          intro N' Rc'
          refine ⟨_, rfl, fo, rfl, ⟨_, SqL.of efd⟩, jE (K := K) (a := fo) (xs := uf) (fun i σ Hy => (∃ v11 v12 : Option V, σ = [some (.ref p1), some (.int st), some (.int (n : Int)), some (.int (mo : Int)), some (.ref b), some (.ref f), some (.ref wa), some (.ref la), v8, some (.ref D), some (.ref fo), v11, v12, u13, u14, u15]) ∧ aO Hx Hy ∧ Hy fo = some (.lst uf) ∧ P0 Ha fo uf (12 + i) Hy) ⟨⟨_, _, rfl⟩, sxd, efd, pfd.chg efd fun u hu => hu⟩
            (fun i σ Hy _ h => SqL.of h.2.2.1) ?_ ?_⟩
          · rintro i x σ Hy hx ⟨⟨v11, v12, rfl⟩, sy, efy, chg⟩
            have hm := Vl hx
            have il := (List.getElem?_eq_some_iff.mp hx).1
            obtain ⟨a3, k3, g3, rfl, h1, h2, h3, zs3, h4, h5⟩ := chg x hm
            refine ⟨a3, _, rfl, SqT.of h1, rfl, _, _, rfl, _, _, rfl, rfl, ?_⟩
            refine ⟨_, rfl, .inl ⟨rfl, _, SqL.of h4⟩, k3, _, _, rfl, rfl, h4, aD (by lia), ⟨_, _, rfl⟩, aJ sy (sa.free h2) _, ?_, chg.step h4 h5⟩
            rw [bB fun z => h3 z.symm]
            exact efy
          · rintro σ Hy ⟨⟨v11, v12, rfl⟩, sy, efy, _⟩
            exact Rc' _ _ ⟨⟨_, _, rfl⟩, sy, efy⟩
        case q9 =>
        rintro σ He ⟨⟨v11, v12, rfl⟩, sxe, efe⟩
        refine ⟨_, rfl, .inl ⟨rfl, _, SqL.of efe⟩, small (by show 0 ≤ 1000; decide), fun p3 h3 => ?_⟩
        have gn := aB h3 (.tup [])
        exact ⟨fo, _, _, rfl, rfl, gn _ _ efe, aD (by lia), ⟨_, _, _, _, _, rfl⟩, sx.trans (aJ (sxe.trans gn) fox _)⟩
      · rintro σ Hx ⟨⟨v8, v9, v10, v11, v12, rfl⟩, sx⟩
        exact Rc' _ _ ⟨⟨_, _, _, _, _, rfl⟩, sx⟩
    case q3 =>
    rintro σ H6 ⟨⟨v8, v9, v10, v11, v12, rfl⟩, s6⟩
    have s46 := s5.trans s6
    refine aV (fun σ H7 => ∃ (pk : Addr) (ns : List Int), σ = [some (.ref p1), some (.int st), some (.int (n : Int)), some (.int (mo : Int)), some (.ref b), some (.ref f), some (.ref wa), some (.ref la), v8, v9, v10, v11, v12, some (.ref pk), u14, u15] ∧ aO H6 H7 ∧ ns.length = 54 ∧ H7 pk = some (.lst (ns.map V.int)) ∧ ∀ x ∈ ns, 0 ≤ x) ?q4 ?t4
    case t4 =>
      intro N' Rc'
      have est : (36 : Int) + st / 9 = ((36 + (st / 9).toNat : Nat) : Int) := by lia
      refine ⟨_, rfl, _, rfl, _, _, rfl, rfl, ⟨by decide, by decide⟩, _, _, rfl, rfl, p1, ss, 36 + (st / 9).toNat, ?_, SqL.of ((s4.trans s46) _ _ e13), _, 54, rfl, by decide, fun r ns H7 s7 _ ln hn er => Rc' _ _ ⟨r, ns, rfl, s7, ln, er, hn⟩⟩
      show [V.ref p1, V.int (36 + st / 9)] = _
      rw [est]
    case q4 =>
    rintro σ H7 ⟨pk, ns, rfl, s7, lns, epk, hns⟩
    have s47 := s46.trans s7
    refine aV (fun σ H8 => ∃ ha : Addr, σ = [some (.ref p1), some (.int st), some (.int (n : Int)), some (.int (mo : Int)), some (.ref b), some (.ref f), some (.ref wa), some (.ref la), v8, v9, v10, v11, some (.ref ha), some (.ref pk), u14, u15] ∧ aO H7 H8 ∧ H8 ha = some (.tup (lo.map V.int))) ?q5 ?t5
    case t5 =>
      intro N' Rc'
      exact ⟨_, rfl, _, rfl, b, f, n, bk, fl, rfl, hB.mono s47, lb, s47 _ _ hf, of, fun m1 a1 H8 _ st1 s8 e8 => Rc' _ _ ⟨a1, rfl, s8, by rw [← (fK lb okb of st1).uniq low0]; exact e8⟩⟩
    case q5 =>
    rintro σ H8 ⟨ha0, rfl, s8, eha0⟩
    refine aV (fun σ H9 => σ = [some (.ref p1), some (.int st), some (.int (n : Int)), some (.int (mo : Int)), some (.ref b), some (.ref f), some (.ref wa), some (.ref la), v8, v9, v10, v11, some (.ref ha0), some (.ref pk), some (.int 0), u15] ∧ H9 = H8) ?q6 ?t6
    case t6 =>
      intro N' Rc'
      exact Rc' _ _ ⟨rfl, rfl⟩
    case q6 =>
    rintro σ H9 ⟨rfl, rfl⟩
    refine aV (fun σ Hx => ∃ (ha : Addr) (v14 v15 : Option V), σ = [some (.ref p1), some (.int st), some (.int (n : Int)), some (.int (mo : Int)), some (.ref b), some (.ref f), some (.ref wa), some (.ref la), v8, v9, v10, v11, some (.ref ha), some (.ref pk), v14, v15] ∧ aO H7 Hx ∧ Hx ha = some (.tup (hi.map V.int))) ?q7 ?t7
    case t7 =>
      intro N' Rc'
      refine ⟨LW n bk hi [some (.ref p1), some (.int st), some (.int (n : Int)), some (.int (mo : Int)), some (.ref b), some (.ref f), some (.ref wa), some (.ref la), v8, v9, v10, v11] pk H7, ⟨54, 0, ha0, lo, _, rfl, s8, eha0, att0, (rD att0).1, rfl⟩, ?_⟩
      rintro m' σ Hx ⟨t, ha, h, v15, rfl, sx, eha, att, hts, htm⟩
      have oh := att.1.1
      have hs9 := (rD att).2
      refine ⟨_, rfl, _, _, rfl, rfl, _, rfl, ?_⟩
      by_cases ht : t < 54
      · rw [decide_eq_true (show ((t : Int) < 54) by lia)]
        have s4x := s47.trans sx
        refine ji ⟨_, rfl, _, rfl, b, ha, n, bk, h, rfl, n6, hB.mono s4x, lb, eha, oh, fun r ul ks Hy sy fr er lr hne ka => ?_⟩
        refine ⟨small (by show 0 ≤ 1000; decide), fun p3 h3 => ?_⟩
        generalize eHz : upd Hy p3 _ = Hz
        obtain ⟨gz, ez⟩ := aL eHz h3
        refine ⟨r, p3, _, rfl, rfl, SqL.of (gz _ _ er), SqL.of ez, _, rfl, ?_⟩
        have lk := lr.length
        have sxz := sy.trans gz
        cases ks with
        | nil =>
          have : ul = [] := W5 (by rw [lk]; rfl)
          subst this
          have : h = hi := (lY lb okb att ka).1.mp rfl
          subst this
          exact fU (Rc' _ _ ⟨ha, _, _, rfl, sx.trans sxz, sxz _ _ eha⟩)
        | cons k0 ks =>
          have hne : (!ul.isEmpty) = true := by
            cases ul with
            | nil => simp at lk
            | cons _ _ => rfl
          rw [hne]
          refine ji ⟨LW n bk hi [some (.ref p1), some (.int st), some (.int (n : Int)), some (.int (mo : Int)), some (.ref b), some (.ref f), some (.ref wa), some (.ref la), v8, v9, v10, v11] pk H7 (m' - 1), fun σ' H' h => ⟨m' - 1, by lia, h⟩, ?_⟩
          have s4z := s4x.trans sxz
          refine aV (fun σ Hw => ∃ (so : Addr) (us : List V) (js : List (List Nat)), σ = [some (.ref p1), some (.int st), some (.int (n : Int)), some (.int (mo : Int)), some (.ref b), some (.ref f), some (.ref wa), some (.ref la), v8, v9, v10, v11, some (.ref ha), some (.ref pk), some (.int (t : Int)), some (.ref so)] ∧ aO Hz Hw ∧ Hw so = some (.lst us) ∧ LF NoH Hw us js ∧ bQ n h bk js ∧ js ≠ []) ?qa ?ta
          case ta =>
            intro N2 Rc2
            refine ⟨_, rfl, _, rfl, b, ha, n, bk, h, rfl, n6, hB.mono s4z, lb, sxz _ _ eha, oh, fun r2 u2 k2 Hw sw _ er2 lr2 _ ka2 => Rc2 _ _ ⟨r2, u2, k2, rfl, sw, er2, lr2.nob, ka2, ?_⟩⟩
            rw [bQ.uniq lb okb oh att.1 ka2 ka]
            exact aaA _ _
          case qa =>
          rintro σ Hw ⟨so, us, js, rfl, sw, eso, lso, kj, jne⟩
          have ljs := lso.length
          have pos : (0 : Int) < ((us.length : Nat) : Int) := by
            cases js with
            | nil => exact absurd rfl jne
            | cons _ _ => rw [ljs, Vd]; lia
          obtain ⟨pv, hpv⟩ : ∃ pv, ns[t]? = some pv := ⟨_, UG (by lia)⟩
          have apk : atI (ns.map V.int) (t : Int) = some (.int pv) := aK (eN hpv)
          have w1 : 0 ≤ pv % ((us.length : Nat) : Int) := Wn _ (by lia)
          have w2 : pv % ((us.length : Nat) : Int) < ((us.length : Nat) : Int) := V6 _ (by lia)
          obtain ⟨ix, hix⟩ := Yo w1
          have ixl : ix < us.length := by lia
          obtain ⟨ka0, kc, eu, hkc, hka⟩ := lso.at (UG ixl)
          have aso : atI us (pv % ((us.length : Nat) : Int)) = some (.ref ka0) := by
            rw [hix, ← eu]
            exact eZ (UG ixl)
          obtain ⟨kn, kin, kl⟩ := (lY lb okb att kj).2 kc (Vl hkc)
          have mx := cY lb okb oh att.1 kc
          have sxw := sxz.trans sw
          have s4w := s4z.trans sw
          refine aV (fun σ Hv => ∃ (hy : Addr) (y : List Int), σ = [some (.ref p1), some (.int st), some (.int (n : Int)), some (.int (mo : Int)), some (.ref b), some (.ref f), some (.ref wa), some (.ref la), v8, v9, v10, v11, some (.ref hy), some (.ref pk), some (.int (t : Int)), some (.ref so)] ∧ aO Hw Hv ∧ Hv hy = some (.tup (y.map V.int)) ∧ At n bk hi y ∧ h.sum < y.sum) ?qb ?tb
          case tb =>
            intro N2 Rc2
            refine ⟨_, rfl, _, rfl, _, rfl, _, rfl, _, rfl, _, rfl, _, rfl, pk, _, _, _, rfl, rfl, SqL.of ((sx.trans sxw) _ _ epk), apk, _, rfl, so, _, rfl, .inl (SqL.of eso), _, _, rfl, rfl, pos, so, _, _, _, rfl, rfl, SqL.of eso, aso, ?_⟩
            refine ⟨b, ha, ha, ka0, n, bk, h, h, kc, rfl, hB.mono s4w, lb, sxw _ _ eha, oh, sxw _ _ eha, att.1, hka, kin, by lia, fun r3 z Hk sk er3 mz => ?_⟩
            have ez := yX lb okb oh att.1 mz
            subst ez
            refine ⟨b, r3, n, bk, _, rfl, (hB.mono s4w).mono sk, lb, er3, mx.1.1, fun r4 z4 Hl sl er4 low4 => ?_⟩
            obtain ⟨a1, a2⟩ := zf lb okb att kn low4
            exact Rc2 _ _ ⟨r4, z4, rfl, sk.trans sl, er4, a1, a2⟩
          case qb =>
          rintro σ Hv ⟨hy, y, rfl, sv, ehy, aty, sumy⟩
          exact ⟨_, rfl, _, _, rfl, rfl, t + 1, hy, y, _, rfl, sx.trans (sxw.trans sv), ehy, aty, by lia, by lia⟩
      · rw [decide_eq_false (show ¬ ((t : Int) < 54) by lia)]
        refine fU (fU ?_)
        have : h = hi := Hj att (by lia)
        subst this
        exact Rc' _ _ ⟨ha, _, _, rfl, sx, eha⟩
    case q7 =>
    rintro σ Hx ⟨ha, v14, v15, rfl, sx, eha⟩
    have s4x := s47.trans sx
    have ath : At n bk hi hi := Q8 lb okb of hh
    refine ⟨_, rfl, _, rfl, ha, la, _, _, rfl, rfl, SqT.of eha, SqT.of ((s6.trans (s7.trans sx)) _ _ ela), _, rfl, ?_⟩
    rw [decide_eq_true rfl]
    refine fU ⟨_, rfl, _, rfl, b, ha, n, bk, hi, rfl, n6, hB.mono s4x, lb, eha, hh.1, fun r ul ks Hy sy fr er lr hne ka => ?_⟩
    have ek : ks = [] := (lY lb okb ath ka).1.mpr rfl
    subst ek
    have : ul = [] := W5 (by rw [lr.length]; rfl)
    subst this
    refine ⟨small (by show 0 ≤ 1000; decide), fun p3 h3 => ?_⟩
    generalize eHz : upd Hy p3 _ = Hz
    obtain ⟨gz, ez⟩ := aL eHz h3
    exact ⟨r, p3, _, rfl, rfl, SqL.of (gz _ _ er), SqL.of ez, _, rfl, fU ⟨⟨_, _, _, _, _, _, _, _, _, _, _, _, _, _, _, rfl⟩, s3.trans (s4.trans (s4x.trans (sy.trans gz)))⟩⟩
theorem all_mk {l:W.OpenLaw} {w:VP} {K:Vi} {h:Wc} {mg:Wz->Option Value} {fa fq0 fq1 fq2 fq3 fq4 fq5 fq6 fq7 fq8 fq9 fq10 fq11 fq12 fq13 fq14 fq15 fq16 fq17 fq18 fq19 fq20 fq21 fq22 fq23 fq24 fq25 fq26 fq27 fq28 fq29 fq30 fq31 fq32 fq33 fq34 fq35 fq36 fq37 fq38 fq39 fq40 fq41 fq42 fq43 fq44 fq45 fq46:Addr} (X:K.In h) (G:h.Ns VG mg) (hfa:mg "law" = some (.ref fa))
  (qq0:HasDef K "above" xM fq0)
  (qq1:HasDef K "lifted" sH fq1)
  (qq2:HasDef K "all_hold" mU fq2)
  (qq3:HasDef K "any_holds" j8 fq3)
  (qq4:HasDef K "holds" xP fq4)
  (qq5:HasDef K "owes" Ge fq5)
  (qq6:HasDef K "last_step" kY fq6)
  (qq7:HasDef K "what_is_due" iY fq7)
  (qq8:HasDef K "kept" Ho fq8)
  (qq9:HasDef K "roof" IV fq9)
  (qq10:HasDef K "settled" pX fq10)
  (qq11:HasDef K "rise" G6 fq11)
  (qq12:HasDef K "fall" Iw fq12)
  (qq13:HasDef K "least" xQ fq13)
  (qq14:HasDef K "greatest" mF fq14)
  (qq15:HasDef K "risen" yH fq15)
  (qq16:HasDef K "held_step" j5 fq16)
  (qq17:HasDef K "held" GD fq17)
  (qq18:HasDef K "alone" yl fq18)
  (qq19:HasDef K "risers" tO fq19)
  (qq20:HasDef K "put_off" o6 fq20)
  (qq21:HasDef K "knots" yh fq21)
  (qq22:HasDef K "climb" ye fq22)
  (qq23:HasDef K "_law_cell" nj fq23)
  (qq24:HasDef K "_law_draws" j7 fq24)
  (qq25:HasDef K "_law_same" mG fq25)
  (qq26:HasDef K "_law_under" jZ fq26)
  (qq27:HasDef K "_law_crowd" jY fq27)
  (qq28:HasDef K "_law_term" nu fq28)
  (qq29:HasDef K "_law_renamed" iV fq29)
  (qq30:HasDef K "_law_mine" m8 fq30)
  (qq31:HasDef K "_law_pledge" jk fq31)
  (qq32:HasDef K "_law_book" mV fq32)
  (qq33:HasDef K "_law_giving" ju fq33)
  (qq34:HasDef K "_law_scene" j9 fq34)
  (qq35:HasDef K "_law_scene_at" ir fq35)
  (qq36:HasDef K "_law_crowds" jx fq36)
  (qq37:HasDef K "_law_holds" km fq37)
  (qq38:HasDef K "_law_owes" mW fq38)
  (qq39:HasDef K "_law_owed" m6 fq39)
  (qq40:HasDef K "_law_alone" jU fq40)
  (qq41:HasDef K "_law_step_by_step" eE fq41)
  (qq42:HasDef K "_law_least" j6 fq42)
  (qq43:HasDef K "_law_knots" kh fq43)
  (qq44:HasDef K "_law_picks" kI fq44)
  (qq45:HasDef K "_law_walk" mY fq45)
  (qq46:HasDef K "law" M3 fq46)
  (z_len:YB K VG "len" = some none)
  (z_range:YB K VG "range" = some none)
  (z_all:YB K VG "all" = some none)
  (z_isinstance:YB K VG "isinstance" = some none)
  (z_int:YB K VG "int" = some none)
  (z_bool:YB K VG "bool" = some none)
  (z_str:YB K VG "str" = some none)
  (z_list:YB K VG "list" = some none)
  (z_tuple:YB K VG "tuple" = some none)
  (z_abs:YB K VG "abs" = some none)
  (z_max:YB K VG "max" = some none)
  (z_min:YB K VG "min" = some none)
  (z_sum:YB K VG "sum" = some none)
  (z_sorted:YB K VG "sorted" = some none)
  (z_zip:YB K VG "zip" = some none)
  (z_reversed:YB K VG "reversed" = some none)
  (z_divmod:YB K VG "divmod" = some none)
  (z_set:YB K VG "set" = some none)
  (z_any:YB K VG "any" = some none)
  (z_enumerate:YB K VG "enumerate" = some none)
  : ∃ fd:Yw,(∀ (s:Uz) (v:Value),aa5 s fd ⟨[v],[]⟩ [("_law_script",v)])/\∀ base:Wc,K.In base->base.Ns VG mg->dR l.prog w K mg base CX0 16 fa fd ["_law_script"] (KN K):=by
 have e:=hfa.symm.trans (qq46.name X G)
 cases e
 have B:Bt mg:=⟨Wv X G z_len,Wv X G z_range,Wv X G z_all,Wv X G z_isinstance,Wv X G z_int,Wv X G z_bool,Wv X G z_str,Wv X G z_list,Wv X G z_tuple,Wv X G z_abs,Wv X G z_max,Wv X G z_min,Wv X G z_sum,Wv X G z_sorted,Wv X G z_zip,Wv X G z_reversed,Wv X G z_divmod,Wv X G z_set,Wv X G z_any,Wv X G z_enumerate⟩
 obtain⟨_,Fq46,bq46⟩:=qq46.law (y:="_law_script") fun _ _ _ _ _ _ s v=>.of_eq rfl
 refine⟨_,bq46,fun base _ _=>?_⟩
 have Dq23:=qq23.df (P:=l.prog) (w:=w) (base:=base) X G (cu fun _ _ _ _ _ _ _ _=>rfl) fun _ Fq23=>ym Fq23 B
 have Dq24:=qq24.df (P:=l.prog) (w:=w) (base:=base) X G (cu fun _ _ _ _ _ _ _ _=>rfl) fun _ Fq24=>vd Fq24 B
 have Dq26:=qq26.df (P:=l.prog) (w:=w) (base:=base) X G (cu fun _ _ _ _ _ _ _ _=>rfl) fun _ Fq26=>uQ Fq26 B
 have Dq27:=qq27.df (P:=l.prog) (w:=w) (base:=base) X G (cu fun _ _ _ _ _ _ _ _=>rfl) fun _ Fq27=>wC Fq27 B
 have Dq33:=qq33.df (P:=l.prog) (w:=w) (base:=base) X G (qT fun _ _ _ _ _ _ _ _ _=>rfl) fun _ Fq33=>ud Fq33 B Dq24
 have S0:Df l.prog w K mg base "_law_same" 0 ["_law_found","_law_due"] (rC 0):=qq25.df X G (cu fun _ _ _ _ _ _ _ _=>rfl) fun _ _=>same_none
 have S1:=qq25.df (P:=l.prog) (w:=w) (base:=base) X G (cu fun _ _ _ _ _ _ _ _=>rfl) fun _ Fq25=>iW Fq25 B S0
 have S2:=qq25.df (P:=l.prog) (w:=w) (base:=base) X G (cu fun _ _ _ _ _ _ _ _=>rfl) fun _ Fq25=>iW Fq25 B S1
 have S3:=qq25.df (P:=l.prog) (w:=w) (base:=base) X G (cu fun _ _ _ _ _ _ _ _=>rfl) fun _ Fq25=>iW Fq25 B S2
 have S4:=qq25.df (P:=l.prog) (w:=w) (base:=base) X G (cu fun _ _ _ _ _ _ _ _=>rfl) fun _ Fq25=>iW Fq25 B S3
 have T0:Df l.prog w K mg base "_law_term" 1 ["_law_cell_here","_law_n","_law_deep","_law_most"] (rM 0):=qq28.df X G (wz fun _ _ _ _ _ _ _ _ _ _=>rfl) fun _ _=>term_none
 have T1:=qq28.df (P:=l.prog) (w:=w) (base:=base) X G (wz fun _ _ _ _ _ _ _ _ _ _=>rfl) fun _ Fq28=>jX Fq28 B Dq24 Dq26 Dq27 T0
 have T2:=qq28.df (P:=l.prog) (w:=w) (base:=base) X G (wz fun _ _ _ _ _ _ _ _ _ _=>rfl) fun _ Fq28=>jX Fq28 B Dq24 Dq26 Dq27 T1
 have T3:=qq28.df (P:=l.prog) (w:=w) (base:=base) X G (wz fun _ _ _ _ _ _ _ _ _ _=>rfl) fun _ Fq28=>jX Fq28 B Dq24 Dq26 Dq27 T2
 have R0:Df l.prog w K mg base "_law_renamed" 0 ["_law_term_here","_law_row"] (Dn K 0):=qq29.df X G (cu fun _ _ _ _ _ _ _ _=>rfl) fun _ _=>JD
 have R1:=qq29.df (P:=l.prog) (w:=w) (base:=base) X G (cu fun _ _ _ _ _ _ _ _=>rfl) fun _ Fq29=>iu Fq29 B R0
 have R2:=qq29.df (P:=l.prog) (w:=w) (base:=base) X G (cu fun _ _ _ _ _ _ _ _=>rfl) fun _ Fq29=>iu Fq29 B R1
 have R3:=qq29.df (P:=l.prog) (w:=w) (base:=base) X G (cu fun _ _ _ _ _ _ _ _=>rfl) fun _ Fq29=>iu Fq29 B R2
 have Dq30:=qq30.df (P:=l.prog) (w:=w) (base:=base) X G (Q5 fun _ _ _ _ _ _ _ _ _ _ _=>rfl) fun _ Fq30=>yL Fq30 B T3 R3
 have Dq31:=qq31.df (P:=l.prog) (w:=w) (base:=base) X G (Q5 fun _ _ _ _ _ _ _ _ _ _ _=>rfl) fun _ Fq31=>sS Fq31 B Dq24 Dq26 Dq27 Dq30
 have Dq32:=qq32.df (P:=l.prog) (w:=w) (base:=base) X G (wz fun _ _ _ _ _ _ _ _ _ _=>rfl) fun _ Fq32=>zj Fq32 B Dq23 Dq24 Dq26 Dq31
 have Dq34:=qq34.df (P:=l.prog) (w:=w) (base:=base) X G (bind1 fun _ _ _ _ _ _ _=>rfl) fun _ Fq34=>wW Fq34 B Dq23 Dq24 Dq33 Dq32
 have Dq35:=qq35.df (P:=l.prog) (w:=w) (base:=base) X G (cu fun _ _ _ _ _ _ _ _=>rfl) fun _ Fq35=>ql Fq35 B Dq34
 have L0:Df l.prog w K mg base "_law_holds" 0 ["_law_term_here","_law_giving_here"] (eV K 0):=qq37.df X G (cu fun _ _ _ _ _ _ _ _=>rfl) fun _ _=>xJ
 have L1:=qq37.df (P:=l.prog) (w:=w) (base:=base) X G (cu fun _ _ _ _ _ _ _ _=>rfl) fun _ Fq37=>gQ Fq37 B L0
 have L2:=qq37.df (P:=l.prog) (w:=w) (base:=base) X G (cu fun _ _ _ _ _ _ _ _=>rfl) fun _ Fq37=>gQ Fq37 B L1
 have L3:=qq37.df (P:=l.prog) (w:=w) (base:=base) X G (cu fun _ _ _ _ _ _ _ _=>rfl) fun _ Fq37=>gQ Fq37 B L2
 have L4:=qq37.df (P:=l.prog) (w:=w) (base:=base) X G (cu fun _ _ _ _ _ _ _ _=>rfl) fun _ Fq37=>gQ Fq37 B L3
 have Dq38:=qq38.df (P:=l.prog) (w:=w) (base:=base) X G (cu fun _ _ _ _ _ _ _ _=>rfl) fun _ Fq38=>yP Fq38 B L4
 have Dq39:=qq39.df (P:=l.prog) (w:=w) (base:=base) X G (cu fun _ _ _ _ _ _ _ _=>rfl) fun _ Fq39=>xR Fq39 B Dq38
 have H0:Df l.prog w K mg base "holds" 0 ["term","giving"] (eV K 0):=qq4.df X G (cu fun _ _ _ _ _ _ _ _=>rfl) fun _ _=>Ds
 have A1:=qq2.df (P:=l.prog) (w:=w) (base:=base) X G (cu fun _ _ _ _ _ _ _ _=>rfl) fun _ Fq2=>je Fq2 B H0
 have Y1:=qq3.df (P:=l.prog) (w:=w) (base:=base) X G (cu fun _ _ _ _ _ _ _ _=>rfl) fun _ Fq3=>gY Fq3 B H0
 have H1:=qq4.df (P:=l.prog) (w:=w) (base:=base) X G (cu fun _ _ _ _ _ _ _ _=>rfl) fun _ Fq4=>oY Fq4 B A1 Y1
 have A2:=qq2.df (P:=l.prog) (w:=w) (base:=base) X G (cu fun _ _ _ _ _ _ _ _=>rfl) fun _ Fq2=>je Fq2 B H1
 have Y2:=qq3.df (P:=l.prog) (w:=w) (base:=base) X G (cu fun _ _ _ _ _ _ _ _=>rfl) fun _ Fq3=>gY Fq3 B H1
 have H2:=qq4.df (P:=l.prog) (w:=w) (base:=base) X G (cu fun _ _ _ _ _ _ _ _=>rfl) fun _ Fq4=>oY Fq4 B A2 Y2
 have A3:=qq2.df (P:=l.prog) (w:=w) (base:=base) X G (cu fun _ _ _ _ _ _ _ _=>rfl) fun _ Fq2=>je Fq2 B H2
 have Y3:=qq3.df (P:=l.prog) (w:=w) (base:=base) X G (cu fun _ _ _ _ _ _ _ _=>rfl) fun _ Fq3=>gY Fq3 B H2
 have H3:=qq4.df (P:=l.prog) (w:=w) (base:=base) X G (cu fun _ _ _ _ _ _ _ _=>rfl) fun _ Fq4=>oY Fq4 B A3 Y3
 have A4:=qq2.df (P:=l.prog) (w:=w) (base:=base) X G (cu fun _ _ _ _ _ _ _ _=>rfl) fun _ Fq2=>je Fq2 B H3
 have Y4:=qq3.df (P:=l.prog) (w:=w) (base:=base) X G (cu fun _ _ _ _ _ _ _ _=>rfl) fun _ Fq3=>gY Fq3 B H3
 have H4:=qq4.df (P:=l.prog) (w:=w) (base:=base) X G (cu fun _ _ _ _ _ _ _ _=>rfl) fun _ Fq4=>oY Fq4 B A4 Y4
 have Dq5:=qq5.df (P:=l.prog) (w:=w) (base:=base) X G (cu fun _ _ _ _ _ _ _ _=>rfl) fun _ Fq5=>Nk Fq5 B H4
 have Dq6:=qq6.df (P:=l.prog) (w:=w) (base:=base) X G (bind1 fun _ _ _ _ _ _ _=>rfl) fun _ Fq6=>vL Fq6 B
 have Dq7:=qq7.df (P:=l.prog) (w:=w) (base:=base) X G (qT fun _ _ _ _ _ _ _ _ _=>rfl) fun _ Fq7=>qP Fq7 B Dq5
 have Dq9:=qq9.df (P:=l.prog) (w:=w) (base:=base) X G (cu fun _ _ _ _ _ _ _ _=>rfl) fun _ Fq9=>M6 Fq9 B Dq6
 have Dq0:=qq0.df (P:=l.prog) (w:=w) (base:=base) X G (cu fun _ _ _ _ _ _ _ _=>rfl) fun _ Fq0=>JK Fq0 B
 have Dq8:=qq8.df (P:=l.prog) (w:=w) (base:=base) X G (qT fun _ _ _ _ _ _ _ _ _=>rfl) fun _ Fq8=>NB (by decide) Fq8 B Dq7 Dq0
 have Dq10:=qq10.df (P:=l.prog) (w:=w) (base:=base) X G (qT fun _ _ _ _ _ _ _ _ _=>rfl) fun _ Fq10=>CV Fq10 B Dq7
 have Dq11:=qq11.df (P:=l.prog) (w:=w) (base:=base) X G (cu fun _ _ _ _ _ _ _ _=>rfl) fun _ Fq11=>Nj Fq11 B Dq10
 have Dq12:=qq12.df (P:=l.prog) (w:=w) (base:=base) X G (cu fun _ _ _ _ _ _ _ _=>rfl) fun _ Fq12=>Nf (by decide) Fq12 B Dq10 Dq9
 have Dq13:=qq13.df (P:=l.prog) (w:=w) (base:=base) X G (cu fun _ _ _ _ _ _ _ _=>rfl) fun _ Fq13=>JW Fq13 B Dq11
 have Dq14:=qq14.df (P:=l.prog) (w:=w) (base:=base) X G (cu fun _ _ _ _ _ _ _ _=>rfl) fun _ Fq14=>yG Fq14 B Dq12
 have Dq41:=qq41.df (P:=l.prog) (w:=w) (base:=base) X G (qT fun _ _ _ _ _ _ _ _ _=>rfl) fun _ Fq41=>kO Fq41 B Dq39
 have Dq44:=qq44.df (P:=l.prog) (w:=w) (base:=base) X G (cu fun _ _ _ _ _ _ _ _=>rfl) fun _ Fq44=>wu Fq44 B Dq24
 have Dq1:=qq1.df (P:=l.prog) (w:=w) (base:=base) X G (qT fun _ _ _ _ _ _ _ _ _=>rfl) fun _ Fq1=>Ir Fq1 B
 have Dq16:=qq16.df (P:=l.prog) (w:=w) (base:=base) X G (wz fun _ _ _ _ _ _ _ _ _ _=>rfl) fun _ Fq16=>wO Fq16 B Dq5
 have Dq17:=qq17.df (P:=l.prog) (w:=w) (base:=base) X G (qT fun _ _ _ _ _ _ _ _ _=>rfl) fun _ Fq17=>Mz Fq17 B Dq16
 have Dq18:=qq18.df (P:=l.prog) (w:=w) (base:=base) X G (qT fun _ _ _ _ _ _ _ _ _=>rfl) fun _ Fq18=>Kq (by decide) Fq18 B Dq13 Dq14 Dq1 Dq17
 have Dq19:=qq19.df (P:=l.prog) (w:=w) (base:=base) X G (cu fun _ _ _ _ _ _ _ _=>rfl) fun _ Fq19=>Ia Fq19 B
 have Dq20:=qq20.df (P:=l.prog) (w:=w) (base:=base) X G (wz fun _ _ _ _ _ _ _ _ _ _=>rfl) fun _ Fq20=>CP Fq20 B Dq19 Dq1 Dq17
 have Dq21:=qq21.df (P:=l.prog) (w:=w) (base:=base) X G (cu fun _ _ _ _ _ _ _ _=>rfl) fun _ Fq21=>Kz (by decide) Fq21 B Dq13 Dq14 Dq20 Dq19
 have Dq15:=qq15.df (P:=l.prog) (w:=w) (base:=base) X G (qT fun _ _ _ _ _ _ _ _ _=>rfl) fun _ Fq15=>Ji Fq15 B Dq8 Dq10
 have Dq22:=qq22.df (P:=l.prog) (w:=w) (base:=base) X G (cu fun _ _ _ _ _ _ _ _=>rfl) fun _ Fq22=>JT (by decide) (by decide) Fq22 B Dq21 Dq18 Dq15
 have Dq36:=qq36.df (P:=l.prog) (w:=w) (base:=base) X G (bind1 fun _ _ _ _ _ _ _=>rfl) fun _ Fq36=>sI Fq36 B
 have Dq42:=qq42.df (P:=l.prog) (w:=w) (base:=base) X G (cu fun _ _ _ _ _ _ _ _=>rfl) fun _ Fq42=>vp Fq42 B Dq41
 have Dq40:=qq40.df (P:=l.prog) (w:=w) (base:=base) X G (wz fun _ _ _ _ _ _ _ _ _ _=>rfl) fun _ Fq40=>vO Fq40 B Dq39
 have Dq43:=qq43.df (P:=l.prog) (w:=w) (base:=base) X G (cu fun _ _ _ _ _ _ _ _=>rfl) fun _ Fq43=>uL Fq43 B Dq42 Dq36 Dq40
 have Dq45:=qq45.df (P:=l.prog) (w:=w) (base:=base) X G (qT fun _ _ _ _ _ _ _ _ _=>rfl) fun _ Fq45=>yc (by decide) (by decide) Fq45 B Dq42 Dq43 Dq40
 exact Qz Fq46 B Dq35 Dq45 Dq22 S4 Dq14 Dq13 Dq44 Dq23 Dq21 Dq42 Dq40
theorem walk {l:W.OpenLaw} {q:Vp} {loose:List Wz} {XP:(Wz->Option Value)->Wc->Prop} {YP:VP->Wc->Prop} {d:DefRec} {K:Params->Vi} (hn:l.most=some 63) (hdf:d.params.defaults=[])
  (hY:∀ (w:VP) (h:Wc),YP w h->(K w.params).In h)
  (F:∀ (w:VP) (mg:Wz->Option Value) (fa:Addr) (h:Wc),(K w.params).In h->h.Ns VG mg->mg d.name=some (.ref fa) →
   ∃ fd:Yw,(∀ (s:Uz) (u:Value),aa5 s fd ⟨[u],[]⟩ [("_law_script",u)])/\∀ base:Wc,(K w.params).In base->base.Ns VG mg->dR l.prog w (K w.params) mg base CX0 16 fa fd ["_law_script"] (KN (K w.params))) :
  W.WalkO q loose XP YP l.row.toRowW d [] (fun f vs=>PySem.call f vs) :=
 L2.N7 (n:=63) (k:=16) (x:="_law_script") (CX:=fun _=>CX0) (sp:=fun w=>KN (K w.params)) hn (by decide) hdf ⟨rfl,by decide,by decide⟩ hY F (fun _ _ a ns hl _ hS=>⟨a,ns,rfl,hS,hl,fun _=>rfl⟩) fun _ _ _ _ _ z=>z
end My
end
open PySem PySem.W PyProof.Rows
namespace PySem.Challenge.cw_loveboon_k29_whole_climbs_by_knots_holds
theorem tw9145408216855528612:True:=trivial
theorem tw10260883530697312209:True:=trivial
theorem tw2692944057532188868:True:=trivial
theorem tw9939481391584571331:True:=trivial
theorem tw9445846232772766240:True:=trivial
theorem tw1391257241242150540:True:=trivial
theorem tw18208521952515219572:True:=trivial
theorem tw820777846571159221:True:=trivial
theorem tw10557517562558693827:True:=trivial
theorem tw3329861800294012863:True:=trivial
theorem tw14619034960093161774:True:=trivial
theorem tw4438791501447485086:True:=trivial
theorem tw9812996050844620413:True:=trivial
theorem tw1101338845290544672:True:=trivial
theorem tw11586690898592536762:True:=trivial
theorem tw2561559798106360996:True:=trivial
theorem tw5766353954712472250:True:=trivial
theorem tw10221479239576992854:True:=trivial
theorem tw3207531472361039936:True:=trivial
theorem tw8426645817530712039:True:=trivial
theorem tw9541968554177946119:True:=trivial
theorem tw2477828076840449706:True:=trivial
theorem tw10673801272413817568:True:=trivial
theorem tw17227520371673087446:True:=trivial
end PySem.Challenge.cw_loveboon_k29_whole_climbs_by_knots_holds
set_option maxRecDepth 100000 in
set_option maxHeartbeats 0 in
theorem PySem.Challenge.cw_loveboon_k29_whole_climbs_by_knots_holds : PySem.Challenge.rw_loveboon_k29_whole_climbs_by_knots.Holds := by
 w_on; o_law; k_head; (case hw=>w_witness2)
 k_fill
 refine My.walk (l:=PySem.Challenge.rw_loveboon_k29_whole_climbs_by_knots) rfl rfl (fun w h Y=>W.kIn_of Y) ?F
 case F =>
  intro w mg fa h KX G hmg
  refine' My.all_mk KX G hmg ?qq0 ?qq1 ?qq2 ?qq3 ?qq4 ?qq5 ?qq6 ?qq7 ?qq8 ?qq9 ?qq10 ?qq11 ?qq12 ?qq13 ?qq14 ?qq15 ?qq16 ?qq17 ?qq18 ?qq19 ?qq20 ?qq21 ?qq22 ?qq23 ?qq24 ?qq25 ?qq26 ?qq27 ?qq28 ?qq29 ?qq30 ?qq31 ?qq32 ?qq33 ?qq34 ?qq35 ?qq36 ?qq37 ?qq38 ?qq39 ?qq40 ?qq41 ?qq42 ?qq43 ?qq44 ?qq45 ?qq46 ?z_len ?z_range ?z_all ?z_isinstance ?z_int ?z_bool ?z_str ?z_list ?z_tuple ?z_abs ?z_max ?z_min ?z_sum ?z_sorted ?z_zip ?z_reversed ?z_divmod ?z_set ?z_any ?z_enumerate
  (case qq0=>apply L2.HasDef.mk <;> k_is)
  (case qq1=>apply L2.HasDef.mk <;> k_is)
  (case qq2=>apply L2.HasDef.mk <;> k_is)
  (case qq3=>apply L2.HasDef.mk <;> k_is)
  (case qq4=>apply L2.HasDef.mk <;> k_is)
  (case qq5=>apply L2.HasDef.mk <;> k_is)
  (case qq6=>apply L2.HasDef.mk <;> k_is)
  (case qq7=>apply L2.HasDef.mk <;> k_is)
  (case qq8=>apply L2.HasDef.mk <;> k_is)
  (case qq9=>apply L2.HasDef.mk <;> k_is)
  (case qq10=>apply L2.HasDef.mk <;> k_is)
  (case qq11=>apply L2.HasDef.mk <;> k_is)
  (case qq12=>apply L2.HasDef.mk <;> k_is)
  (case qq13=>apply L2.HasDef.mk <;> k_is)
  (case qq14=>apply L2.HasDef.mk <;> k_is)
  (case qq15=>apply L2.HasDef.mk <;> k_is)
  (case qq16=>apply L2.HasDef.mk <;> k_is)
  (case qq17=>apply L2.HasDef.mk <;> k_is)
  (case qq18=>apply L2.HasDef.mk <;> k_is)
  (case qq19=>apply L2.HasDef.mk <;> k_is)
  (case qq20=>apply L2.HasDef.mk <;> k_is)
  (case qq21=>apply L2.HasDef.mk <;> k_is)
  (case qq22=>apply L2.HasDef.mk <;> k_is)
  (case qq23=>apply L2.HasDef.mk <;> k_is)
  (case qq24=>apply L2.HasDef.mk <;> k_is)
  (case qq25=>apply L2.HasDef.mk <;> k_is)
  (case qq26=>apply L2.HasDef.mk <;> k_is)
  (case qq27=>apply L2.HasDef.mk <;> k_is)
  (case qq28=>apply L2.HasDef.mk <;> k_is)
  (case qq29=>apply L2.HasDef.mk <;> k_is)
  (case qq30=>apply L2.HasDef.mk <;> k_is)
  (case qq31=>apply L2.HasDef.mk <;> k_is)
  (case qq32=>apply L2.HasDef.mk <;> k_is)
  (case qq33=>apply L2.HasDef.mk <;> k_is)
  (case qq34=>apply L2.HasDef.mk <;> k_is)
  (case qq35=>apply L2.HasDef.mk <;> k_is)
  (case qq36=>apply L2.HasDef.mk <;> k_is)
  (case qq37=>apply L2.HasDef.mk <;> k_is)
  (case qq38=>apply L2.HasDef.mk <;> k_is)
  (case qq39=>apply L2.HasDef.mk <;> k_is)
  (case qq40=>apply L2.HasDef.mk <;> k_is)
  (case qq41=>apply L2.HasDef.mk <;> k_is)
  (case qq42=>apply L2.HasDef.mk <;> k_is)
  (case qq43=>apply L2.HasDef.mk <;> k_is)
  (case qq44=>apply L2.HasDef.mk <;> k_is)
  (case qq45=>apply L2.HasDef.mk <;> k_is)
  (case qq46=>apply L2.HasDef.mk <;> k_is)
  (case z_len=>k_is)
  (case z_range=>k_is)
  (case z_all=>k_is)
  (case z_isinstance=>k_is)
  (case z_int=>k_is)
  (case z_bool=>k_is)
  (case z_str=>k_is)
  (case z_list=>k_is)
  (case z_tuple=>k_is)
  (case z_abs=>k_is)
  (case z_max=>k_is)
  (case z_min=>k_is)
  (case z_sum=>k_is)
  (case z_sorted=>k_is)
  (case z_zip=>k_is)
  (case z_reversed=>k_is)
  (case z_divmod=>k_is)
  (case z_set=>k_is)
  (case z_any=>k_is)
  (case z_enumerate=>k_is)
