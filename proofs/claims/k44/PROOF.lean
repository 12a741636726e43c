import PyProof.Rows.All
import Wide.All
import OpenK.AllK
import Wide.FinOn
import Lean
import PyProof.EqAt
import PyProof.EqKinds
import PyProof.TupleCall
import PyProof.NeKinds
import PySem.Challenge.RW_loveboon_k44_whole_pledges_in_any_order
noncomputable section
open Array renaming getElem?_eq_getElem→VH,length_toList→VM,getElem?_toList→Wh,getD_eq_getD_getElem?→Xj,getElem?_eq_none→YQ
open Bool renaming false_ne_true→Vm,and_eq_true→WD,false_and→Ze,true_and→Zv,or_eq_true→ZD,eq_iff_iff→ZF,false_eq_true→aar,false_or→aaG
open Decidable renaming byContradiction→Zk
open False renaming elim→Yl
open ForInStep renaming yield→ZC
open Int renaming emod_lt_of_pos→V5,toNat_natCast→V8,emod_nonneg→Wg,le_refl→WY,eq_ofNat_of_zero_le→Xx,zero_add→ZR,toNat→aaN
open List renaming length_map→Vb,length_append→Ve,getElem?_eq_getElem→Vf,getD_eq_getElem?_getD→Vi,mem_cons_self→Vj,map_append→Vl,replicate→Vn,mem_cons_of_mem→Vp,length_cons→Vr,size_toArray→Vu,take_length→Vw,length_take→Vz,range→VD,getElem?_map→VF,mem_append_right→VG,length_range→VP,length_replicate→VR,take_add_one→V1,map_cons→Wa,mem_of_getElem?→Wd,take_zero→Wk,foldl_cons→Wo,lookup_cons→Wx,mem_cons→Wy,append_nil→WK,length_filter_le→WW,pairwise_cons→W6,getElem?_eq_none→W7,not_mem_nil→Xh,drop_eq_getElem_cons→Xo,filter_append→Xv,getElem_mem→Xw,append_assoc→XJ,replicate_succ→XM,getElem?_range→XN,getElem?_replicate→X7,getElem?_append_right→Yk,take_succ_cons→Yw,getElem_of_mem→Yx,filter_cons_of_pos→YF,filter_cons_of_neg→YG,mem_singleton→YL,map_map→YM,range_succ→YT,forIn_nil→Zc,zipWith→Zi,forIn_cons→Zy,find?_cons→Zz,pairwise_map→ZM,flatten_cons→ZP,drop_of_length_le→ZQ,filter_cons→ZX,any_cons→Z1,all_cons→Z2,replicate_succ'→Z6,lookup→Z7,getElem_toArray→Z8,mem_append→aac,length_zipWith→aaf,filterMap_cons→aag,map_nil→aai,sum→aaq,getElem?_append_left→aas,length→aaz,zipIdx_cons→aaK,length_drop→aaL,getElem_inj→aaM,zipIdx_nil→aa0,getElem?_toArray→aa1,pairwise_append→abb,mem_append_left→abd,map_congr_left→abm,sum_cons→abr,toArray→abL,filter_congr→abM,ext_getElem?→abN,all_map→abO,eraseIdxIfInBounds_toArray→abT,cons_append→ab5,all_eq_true→ab6,eq_nil_of_length_eq_zero→acb,of_mem_zip→ack,filter_nil→acn
open List.Pairwise renaming nil→Yr
open Nat renaming le_refl→Vg,lt_of_lt_of_le→Vt,ne_of_lt→Vx,zero_le→VL,le_trans→V2,lt_succ_of_lt→Wj,lt_irrefl→W5,ne_of_gt→W8,lt_succ_self→Xb,le_succ→Xi,lt_or_ge→XH,le_of_lt→Yd,lt_of_le_of_lt→Yj,succ_ne_zero→YD,lt_trans→ZL,pow_le_pow_right→Z5,lt_of_succ_lt_succ→aaU,not_lt_zero→aaZ,succ_le_succ→ab3,le_of_not_lt→ab4
open Ne renaming symm→Yv
open Option renaming map_some→aaY
open Option.some renaming inj→Wn
open Or renaming inl→Vv,inr→aba
open PyProof.Rows renaming callWith_type1→Wv,IntsAre→Ww,step_dedup→W9,seqObj→Xm,SortKind→Z4,pairsOf→aah,AllBare→aaV,listUpdate_at→abo,envOfC→abu,slot_tuple_getitem→abS,callWith_builtin1→ab2,entry_list_sort→acf
open PyProof.Rows.F renaming plain_set_update_loop→aaO
open PySem renaming wpAny_bind→U9,Shared→Vc,wpAny_pure→Vd,wpAny→Vk,model→Vs,Program→Vy,mainGlobals→VJ,starEach→VN,Around→V0,World→V3,wpAny_newObj_type→V6,Str→V9,Heap→Wb,wpAny_field→Wi,wpAny_call_entry→Wm,wpAny_callSpecial?_slot→Wq,bootBuiltins→Wt,wpAny_seqItems→Wz,mem_of_lookup→WL,wpAny_mono→WN,wpAny_loadPart'→WX,wpAny_setField_rec→Xd,rawInt→Xe,codeAny_builtin→Xf,codeAny→Xk,wpAny_Call_Name_kw→Xl,eval→Xn,wpAny_holding→Xy,wpAny_setField→Xz,foldedSetIterable→XC,compareOp→XQ,plainId_quiet→XR,Builtin→XS,wpAny_of_eq→XX,pyNext→X3,FuncData→X5,wpAny_truthy_bool→X6,Obj→Yb,backTo→Yc,wpAny_attempt→Ye,Scope→Yg,builtinLookup_eq_fast→Ym,letOwnedTupleGo→Yn,wpAny_rule→Ys,wpAny_isInstance→Yy,wpAny_askSetting→Yz,isSubtype_type→YB,firstArgMember→YC,wpAny_letGo→YJ,wpAny_pyIter_tuple→YK,wpAny_passesOwn→YS,IsZip→YW,wpAny_onRaise→YX,behindInMarks→YZ,wpAny_setState_of→Y0,wpAny_pyIter_list→Y5,sizeLine_eq→Y8,SetTable→Zb,Pos→Zf,intKind→Zg,IsPair→Zn,wpAny_standAt→Zo,wpAny_comprehension_free→Zq,compPost→Zr,binaryOp→Zt,wpAny_updateSeq→Zw,typeLookup_type→Zx,sysModules→ZG,codeAny_mono→ZJ,pickOrder→ZS,assignEach→ZV,sliceBounds→Z3,wpAny_specialOf→aaa,argsOk→aab,wpAny_setEntries_of→aae,wpAny_tryCatch→aak,newFunctionEnv→aal,isSubtype_stop→aam,compEnvC→aan,NameKind→aap,wpAny_pyIter_enum→aav,standAt→aaw,wpAny_newList→aaB,signature?_of→aaC,attributeBase→aaD,wpAny_pyIter_zip→aaH,seqItems?→aaI,codeAny_compStart_list→aaQ,call_meets→aaR,wpAny_ite_false→aaW,wpAny_execs_nil→aaX,wpAny_updateSeq_pair→aa2,pyIter→aa3,keywordEach→aa4,bindArgs→aa5,assign→aa6,Result→aa8,holding→abe,getMethod→abf,getItem→abg,cellsFrom→abh,BindsTo→abk,wpAny_handled→abn,field→abp,tupleKind_room_in1→abt,wpAny_typeOf→abA,wpAny_pyIter_slot→abB,valueAt→abC,relayAll→abD,callerA→abE,callType_new→abF,GenState→abQ,updateSeq→abU,tupleKind→abV,swapsWith→abW,seqIndex?→abX,noFill_tuple_add→abY,newExc→abZ,checkBuiltinCall→ab0,IsPart→ab7,wpAny_throw→ab9,subscripted→aca,wpAny_ite_split→acd,theTreesLotGoes→ace,codeAny_of_tree→acg,spliced→acp,setNext→acq,newList→acr
open PySem.Around renaming under_plainId→Xc
open PySem.Builtin.Builtins renaming bindParams→aaj
open PySem.Builtin.List renaming listExtendWith→Y7,listTooLong→aaF,listLengthHint→acv
open PySem.Builtin.Slice renaming slicePlaces→Zm,sliceAdjust→aau
open PySem.Builtin.SmallTypes renaming nextOf→Wc,ownedTupleIsFree→Ws,ownedTupleHandOut→X8,newClass→acu
open PySem.Builtin.Tuple renaming tupleExact→Zu
open PySem.Calls renaming call_function_entry→aat,spliced_cons→abz,spliced_nil→abR
open PySem.F renaming plainAttrs_list→Wr,type_list_append→WQ,slot_list_append→WR,slot_zip_next→Yq,plain_max_loop→YH,slot_tuple_iterator_next→Zd,args_zip_next_1→aaA,args_tuple_add_2→aaE,entry_tuple_add→aaJ,entry_zip_next→aaP,slot_tuple_add→aaT,entry_max_loop→ab8,args_tuple_iterator_next_1→aco,entry_tuple_iterator_next→acs
open PySem.Heap renaming get?_push_of_some→Va,get?_push_size→Vh,lt_size→Vo,size_push→V7,get?_update_other→Wl,get?_update_self→Wu,SameBut→Xu,get?_push_ne→Y6,size_update→Zj,get?_push_cases→Z9,IsTuple→abP
open PySem.Heap.SameBut renaming update→WM
open PySem.NameKind renaming free→Xq,cell→Z0
open PySem.Obj renaming mapSeq→Xa,mapFields→ZZ,putSet→aby
open PySem.Paired renaming length→abq
open PySem.PassesOwn renaming never→Wf
open PySem.SeqAt.EqAt renaming int_int→abw
open PySem.SetTable renaming below→Xg,grown→Za
open PySem.SetTable.below renaming go→ZK
open PySem.SetTable.probe renaming go→abH
open PySem.Shared renaming heap→aax
open PySem.Str renaming ofString→XD
open PySem.Value renaming ref→V4,none→We,type→Yh,int→Yo,bool→abv,str→ab1
open PySem.W renaming Frag→Vq,Frag→VB,mg_none_of→WT,findIn→Xp,kia_one→Xr,emptyDict→XF,nsIn→X4,keepIn→Yi,instObj→Yp,kitOne→Y9,fnOf→Zh,plainGet→ZW,codeIn→aao,hasDictIn→aay,findIn→aa7,lookIn→aa9,mg_of→abi,plainGet_of→abl,callWith_K→abx,plainOver→abI,methodObj→abJ,isFn→abK,takerIn→aci,makesIn→acj
open PySem.W.KasT renaming kasWp→Yu,kasWp_bind→aad
open Sum renaming inl→aaS,inr→abG
open True renaming intro→Yt
set_option Elab.async false
set_option linter.all false
set_option maxRecDepth 100000
namespace L2
open PySem PySem.Spec PyProof.Rows
abbrev Key:=Sum Int V9
def Dz:Key->Value->Bool
 | .inl k,v=>Value.isInt k v
 | .inr x,v=>Value.isStrOf x v
def UW (w:V3):Key->Int
 | .inl k=>hashInt k
 | .inr x=>hashStr w x
theorem cM:∀ {k:Key} {v:Value},Dz k v=true->(∃ i t,k=aaS i/\v=Yo i t)∨(∃ x t,k=abG x/\v=ab1 x t)
 | .inl i,v,h=>by
  obtain⟨t,e⟩:=Value.isInt_shape (k:=i) (v:=v) h
  exact .inl ⟨i,t,rfl,e⟩
 | .inr x,v,h=>by
  obtain⟨t,e⟩:=Value.isStrOf_shape (x:=x) (v:=v) h
  exact .inr ⟨x,t,rfl,e⟩
theorem Hh (i:Int) (t:Tok):Dz (.inl i) (.int i t)=true:=by simp [Dz,Value.isInt]
theorem Gz (x:V9) (t:Tok):Dz (.inr x) (.str x t)=true:=by simp [Dz,Value.isStrOf]
theorem Su (a b:Int):decide ((aaS a:Key)=aaS b)=(a == b):=by
 by_cases e:a=b
 ·subst e; simp
 ·have h:¬ (aaS a:Key)=aaS b:=fun q=>e (Sum.inl.inj q)
  rw[decide_eq_false h]
  exact (beq_eq_false_iff_ne.mpr e).symm
theorem Sv (a b:V9):decide ((abG a:Key)=abG b)=decide (a=b):=by
 by_cases e:a=b
 ·subst e; simp
 ·have h:¬ (abG a:Key)=abG b:=fun q=>e (Sum.inr.inj q)
  rw[decide_eq_false h,decide_eq_false e]
theorem Rj (a:Int) (b:V9):decide ((aaS a:Key)=abG b)=false:=decide_eq_false (fun q=>nomatch q)
theorem SN (a:V9) (b:Int):decide ((abG a:Key)=aaS b)=false:=decide_eq_false (fun q=>nomatch q)
def dY (prog:Vy) (w:V3):PySem.KeyKind prog w Key where
 is:=Dz
 hash:=UW w
 inj:=fun v a b ha hb=>by
  rcases cM ha with⟨i,t,rfl,rfl⟩ | ⟨x,t,rfl,rfl⟩
  ·rcases cM hb with⟨j,u,rfl,e⟩ | ⟨y,u,rfl,e⟩
   ·injection e with e1 _; rw[e1]
   ·exact nomatch e
  ·rcases cM hb with⟨j,u,rfl,e⟩ | ⟨y,u,rfl,e⟩
   ·exact nomatch e
   ·injection e with e1 _; rw[e1]
 byValue:=fun k v h=>by
  rcases cM h with⟨i,t,rfl,rfl⟩ | ⟨x,t,rfl,rfl⟩ <;> rfl
 pyHash:=fun hv h=>by
  rcases cM hv with⟨i,t,rfl,rfl⟩ | ⟨x,t,rfl,rfl⟩
  ·exact wpAny_pyHash_int h
  ·exact wpAny_pyHash_str h
 eqBool:=fun hu hv h=>by
  rcases cM hu with⟨i,t,rfl,rfl⟩ | ⟨x,t,rfl,rfl⟩
  ·rcases cM hv with⟨j,u,rfl,rfl⟩ | ⟨y,u,rfl,rfl⟩
   ·rw[Su] at h; exact wpAny_eqBool_int h
   ·rw[Rj] at h; exact SeqAt.EqAt.int_str i t y u _ _ _ _ h
  ·rcases cM hv with⟨j,u,rfl,rfl⟩ | ⟨y,u,rfl,rfl⟩
   ·rw[SN] at h; exact SeqAt.EqAt.str_int x t j u _ _ _ _ h
   ·rw[Sv] at h; exact wpAny_eqBool_str h
 «strs»:=fun k x t v h=>by
  rcases cM h with⟨i,u,rfl,e⟩ | ⟨y,u,rfl,e⟩
  ·exact nomatch e
  ·injection e with e1 _
   subst e1
   cases v <;> rfl
theorem zF (prog:Vy) (w:V3) (i:Int) (t:Tok):(dY prog w).is (.inl i) (.int i t)=true:=Hh i t
theorem ym (prog:Vy) (w:V3) (x:V9) (t:Tok):(dY prog w).is (.inr x) (.str x t)=true:=Gz x t
end L2
namespace L2
open PySem PySem.Spec PyProof.Rows
inductive V where
 | non | bl (b:Bool) | int (i:Int) | str (x:V9) | byt (b:Array UInt8) | flt (b:UInt64) | ref (a:Addr) | ty (n:String)
 deriving DecidableEq
def RelV:V->Value->Prop
 | .non,u=>u=We
 | .bl b,u=>u=abv b
 | .int i,u=>∃ t,u=Yo i t
 | .str x,u=>∃ t,u=ab1 x t
 | .byt b,u=>∃ t,u=Value.bytes b t
 | .flt b,u=>∃ t,u=Value.float b t
 | .ref a,u=>u=V4 a
 | .ty n,u=>u=Yh n
abbrev Vals:List V->List Value->Prop:=Paired RelV
theorem Vals.length {xs:List V} {us:List Value} (r:Vals xs us):xs.length=us.length:=abq r
theorem Vals.get:∀ {xs:List V} {us:List Value} {i:Nat} {x:V},Vals xs us->xs[i]? = some x->∃ u,us[i]? = some u/\RelV x u
 | _,_,_,_,.nil,e=>by simp at e
 | _,_,0,_,.cons r _,e=>by simp at e; subst e; exact⟨_,rfl,r⟩
 | _,_,i+1,x,.cons _ t,e=>by
  obtain⟨u,h1,h2⟩:=Vals.get (i:=i) (x:=x) t (by simpa using e)
  exact⟨u,by simpa using h1,h2⟩
theorem Vals.set {x:V} {u:Value} (r:RelV x u):∀ {xs:List V} {us:List Value} (i:Nat),Vals xs us->Vals (xs.set i x) (us.set i u)
 | _,_,_,.nil=>.nil
 | _,_,0,.cons _ t=>.cons r t
 | _,_,i+1,.cons q t=>.cons q (Vals.set r i t)
theorem Vals.append:∀ {xs ys:List V} {us ws:List Value},Vals xs us->Vals ys ws->Vals (xs++ys) (us++ws)
 | _,_,_,_,.nil,s=>s
 | _,_,_,_,.cons r t,s=>.cons r (Vals.append t s)
theorem Vals.take:∀ {xs:List V} {us:List Value} (n:Nat),Vals xs us->Vals (xs.take n) (us.take n)
 | _,_,0,_=>.nil
 | _,_,_+1,.nil=>.nil
 | _,_,n+1,.cons r t=>.cons r (Vals.take n t)
theorem Vals.drop:∀ {xs:List V} {us:List Value} (n:Nat),Vals xs us->Vals (xs.drop n) (us.drop n)
 | _,_,0,r=>r
 | _,_,_+1,.nil=>.nil
 | _,_,n+1,.cons _ t=>Vals.drop n t
def xW:Option V->Option Value->Prop
 | some v,some u=>RelV v u
 | none,none=>True
 | _,_=>False
def KV {κ:Type}:List (κ × V)->List (κ × Value)->Prop:=Paired fun (p:κ × V) (q:κ × Value)=>p.1=q.1/\RelV p.2 q.2
def kV:Key->V
 | .inl i=>.int i
 | .inr x=>.str x
inductive HO where
 /-- a list -/
 | lst (xs:List V)
 /-- a tuple (never changes) -/
 | tup (xs:List V)
 /-- a dict whose keys are ints and texts; one whose keys are tuples of ints and texts (the empty one is both) -/
 | dK (kvs:List (Key × V)) | dT (kvs:List (List Key × V))
 /-- a set of ints: its members,its size -/
 | set (S:Int->Bool) (n:Nat)
 /-- an instance of the class at C,its dict at dx,its attributes -/
 | ins (C dx:Addr) (fs:List (V9 × V))
 /-- the dict of the instance at x -/
 | own (x:Addr)
 /-- the dict of an exception -/
 | xd (fs:List (V9 × V))
 /-- a bound method,f of x -/
 | met (f x:Addr)
 /-- a range object lo,lo+1,.. below hi -/
 | rng (lo hi:Int)
 /-- a thing that is known to the object (the script; a dict while a loop walks it): read,never written while it is so -/
 | frz (o:Yb) (u:HO)
 /-- a code object's table -/
 | tbl (ps:Array Value)
 /-- any other thing,by what is true of its one object (a def of one's own: SetO a S n:=HO.ext fun h=>..) -/
 | ext (φ:Wb->Prop)
abbrev Hp:=Addr->Option HO
def upd (H:Hp) (a:Addr) (o:HO):Hp:=fun b=>if b=a then some o else H b
theorem aq {H:Hp} {a:Addr} {o:HO}:upd H a o a=some o:=by unfold upd; rw[if_pos rfl]
theorem bh {H:Hp} {a b:Addr} {o:HO} (h:b≠a):upd H a o b=H b:=by unfold upd; rw[if_neg h]
theorem qN {H:Hp} {a:Addr} {o u:HO}:upd (upd H a o) a u=upd H a u:=by
 funext b; unfold upd; split <;> rfl
theorem Sw {H:Hp} {a b:Addr} {o u:HO} (h:H a=some o) (h':H b=some u) (d:o≠u):a≠b:=by
 intro e; subst e; rw[h] at h'; exact d (Wn h')
theorem eE {H:Hp} {a b:Addr} {o:HO} (h:H a=some o) (h':H b=none):a≠b:=by
 intro e; subst e; rw[h] at h'; cases h'
section
variable (P:Vy) (w:V3)
def eO (H:Hp) (h:Wb) (a:Addr):HO->Prop
 | .lst xs=>xs.length<=sizeLine/\∃ (its:List Value) (n:Nat),Vals xs its/\h.get? a=some { cls:=.type "list",data:=.seq its.toArray n }
 | .tup xs=>xs.length<=sizeLine/\∃ its:List Value,Vals xs its/\IsTup h a its.toArray
 | .dK kvs=>kvs.length<=sizeLine/\(a == ZG)=false/\∃ vs,KV kvs vs/\h.DictOf (dY P w) a vs
 | .dT kvs=>kvs.length<=sizeLine/\(a == ZG)=false/\∃ xs:List (List Key × Addr × Value),
   Paired (fun (p:List Key × V) (q:List Key × Addr × Value)=>p.1=q.1/\H q.2.1=some (.tup (p.1.map kV))/\RelV p.2 q.2.2) kvs xs ∧
   ∃ o es ep,h.get? a=some o/\o.ExactDict/\o.data = .dict es ep/\es.toList=xs.map (entryOfKey (abV (dY P w)))/\(xs.map (·.1)).Nodup
 | .set S n=>h.SetOf (Zg P w) a S n
 | .ins C dx fs=>H dx=some (.own a)/\fs.length<=1000/\dx≠a/\h.get? a=some (Yp C dx) ∧
   ∃ mA,h.Ns1 dx mA/\(∀ f,xW (fs.lookup f) (mA f))/\PySem.Within mA (fs.map (·.1))
 | .own _=>∃ o,h.get? a=some o
 | .xd fs=>∃ mA,h.Ns1 a mA/\∀ f,xW (fs.lookup f) (mA f)
 | .rng lo hi=>∃ t u v,h.get? a=some { cls:=.type "range",data:=.fields #[.int lo t,.int hi u,.int 1 v] }
 | .frz o u=>h.get? a=some o/\eO H h a u
 | .tbl ps=>h.get? a=some { cls:=.none,data:=.fields ps }
 | .met f x=>h.get? a=some (abJ (.ref f) (.ref x))
 | .ext φ=>φ h/\(∃ o,h.get? a=some o)/\∀ h1 h2:Wb,φ h1->(∀ o,h1.get? a=some o->h2.get? a=some o)->φ h2
def HOk (H:Hp) (h:Wb):Prop:=∀ a o,H a=some o->eO P w H h a o
end
section
variable {P:Vy} {w:V3} {H H':Hp} {h h':Wb} {a:Addr} {o:HO}
theorem eO.lt (x:eO P w H h a o):a < h.objs.size:=by
 cases o with
 | lst xs=>obtain⟨_,_,_,_,e⟩:=x; exact Vo e
 | tup xs=>obtain⟨_,_,_,p⟩:=x; exact p.lt
 | dK kvs=>obtain⟨_,_,_,_,o,_,_,e,_⟩:=x; exact Vo e
 | dT kvs=>obtain⟨_,_,_,_,o,_,_,e,_⟩:=x; exact Vo e
 | set S n=>obtain⟨o,_,_,_,e,_⟩:=x; exact Vo e
 | ins C dx fs=>obtain⟨_,_,_,e,_⟩:=x; exact Vo e
 | own y=>obtain⟨_,e⟩:=x; exact Vo e
 | xd fs=>obtain⟨_,⟨_,_,_,e,_⟩,_⟩:=x; exact Vo e
 | rng lo hi=>obtain⟨_,_,_,e⟩:=x; exact Vo e
 | frz ob u=>obtain⟨e,_⟩:=x; exact Vo e
 | tbl ps=>exact Vo (show h.get? a=some _ from x)
 | met f y=>exact Vo (show h.get? a=some _ from x)
 | ext φ=>obtain⟨_,⟨_,e⟩,_⟩:=x; exact Vo e
theorem Paired.Tr {α β:Type} {F G:α->β->Prop}:∀ {l₁:List α} {l₂:List β},Paired F l₁ l₂->(∀ a b,F a b->G a b)->Paired G l₁ l₂
 | _,_,.nil,_=>.nil
 | _,_,.cons r t,f=>.cons (f _ _ r) (Paired.Tr t f)
theorem eO.stay (x:eO P w H h a o) (k:∀ b u,(b=a∨H b=some (.own a))->h.get? b=some u->h'.get? b=some u)
  (ho:∀ b,H b=some (.own a)->H' b=some (.own a)) (ht:∀ b xs,H b=some (.tup xs)->H' b=some (.tup xs)):eO P w H' h' a o:=by
 induction o with
 | lst xs=>obtain⟨z,its,n,r,e⟩:=x; exact⟨z,its,n,r,k _ _ (.inl rfl) e⟩
 | tup xs=>obtain⟨z,its,r,ob,e,c⟩:=x; exact⟨z,its,r,ob,k _ _ (.inl rfl) e,c⟩
 | dK kvs=>obtain⟨z,y,vs,r,ob,es,ep,e,c⟩:=x; exact⟨z,y,vs,r,ob,es,ep,k _ _ (.inl rfl) e,c⟩
 | dT kvs =>
  obtain⟨z,y,xs,r,ob,es,ep,e,c⟩:=x
  exact⟨z,y,xs,Paired.Tr r fun p q z=>⟨z.1,ht _ _ z.2.1,z.2.2⟩,ob,es,ep,k _ _ (.inl rfl) e,c⟩
 | set S n=>obtain⟨ob,es,ep,t,e,c⟩:=x; exact⟨ob,es,ep,t,k _ _ (.inl rfl) e,c⟩
 | ins C dx fs =>
  obtain⟨d,z,ne,e,mA,⟨od,es,ep,e2,c⟩,r⟩:=x
  exact⟨ho _ d,z,ne,k _ _ (.inl rfl) e,mA,⟨od,es,ep,k _ _ (.inr d) e2,c⟩,r⟩
 | own y=>obtain⟨ob,e⟩:=x; exact⟨ob,k _ _ (.inl rfl) e⟩
 | xd fs=>obtain⟨mA,⟨od,es,ep,e,c⟩,r⟩:=x; exact⟨mA,⟨od,es,ep,k _ _ (.inl rfl) e,c⟩,r⟩
 | rng lo hi=>obtain⟨t,u,v,e⟩:=x; exact⟨t,u,v,k _ _ (.inl rfl) e⟩
 | frz ob u ih=>obtain⟨e,q⟩:=x; exact⟨k _ _ (.inl rfl) e,ih q⟩
 | tbl ps =>
  have e:h.get? a=some { cls:=.none,data:=.fields ps }:=x
  show h'.get? a=some { cls:=.none,data:=.fields ps }
  exact k a _ (.inl rfl) e
 | met f y =>
  have e:h.get? a=some (abJ (.ref f) (.ref y)):=x
  show h'.get? a=some (abJ (.ref f) (.ref y))
  exact k a _ (.inl rfl) e
 | ext φ=>obtain⟨p,⟨o,e⟩,st⟩:=x; exact⟨st _ _ p fun o q=>k _ _ (.inl rfl) q,⟨o,k _ _ (.inl rfl) e⟩,st⟩
theorem HOk.lt (x:HOk P w H h) (e:H a=some o):a < h.objs.size:=(x a o e).lt
theorem HOk.fresh (x:HOk P w H h) (e:h.objs.size<=a):H a=none:=by
 cases q:H a with
 | none=>rfl
 | some u=>exact absurd (Vt (x.lt q) e) (W5 _)
theorem HOk.kept (x:HOk P w H h) (k:∀ b u,h.get? b=some u->h'.get? b=some u):HOk P w H h':=fun a o e =>
 (x a o e).stay (fun b u _ q=>k b u q) (fun _ q=>q) fun _ _ q=>q
theorem HOk.laid (x:HOk P w H h) (k:∀ b u,h.get? b=some u->h'.get? b=some u) (hp:h.objs.size<=a) (new:eO P w (upd H a o) h' a o):HOk P w (upd H a o) h':=fun b u e=>by
 have hn:=x.fresh hp
 by_cases hb:b=a
 ·subst hb; rw[aq] at e; cases e; exact new
 ·rw[bh hb] at e
  exact (x b u e).stay (fun c v _ q=>k c v q) (fun c q=>by rw[bh (eE q hn)]; exact q) fun c xs q=>by rw[bh (eE q hn)]; exact q
end
def Rd (H:Hp) (a:Addr) (u:HO):Prop:=H a=some u∨∃ o,H a=some (.frz o u)
theorem Rd.ok {P:Vy} {w:V3} {H:Hp} {h:Wb} {a:Addr} {u:HO} (r:Rd H a u) (x:HOk P w H h):eO P w H h a u:=by
 rcases r with r | ⟨o,r⟩
 ·exact x a u r
 ·obtain⟨_,q⟩:=x a _ r
  exact q
def Mut:Option HO->Prop
 | some (.lst _)=>True
 | some (.dK _)=>True
 | some (.dT _)=>True
 | some (.set _ _)=>True
 | some (.ins _ _ _)=>True
 | some (.ext _)=>True
 | _=>False
section
variable {P:Vy} {w:V3} {H:Hp} {h h':Wb} {x e:Addr} {o':HO}
theorem HOk.write (ok:HOk P w H h) (mu:Mut (H x)) (he:e=x∨H e=some (.own x)) (k:∀ b u,b≠e->h.get? b=some u->h'.get? b=some u) (heo:∃ u,h'.get? e=some u)
  (new:eO P w (upd H x o') h' x o'):HOk P w (upd H x o') h':=fun b u q=>by
 have nown:∀ c y,H c=some (.own y)->c≠x:=fun c y r z=>by subst z; rw[r] at mu; exact mu
 have ntup:∀ c xs,H c=some (.tup xs)->c≠x:=fun c xs r z=>by subst z; rw[r] at mu; exact mu
 by_cases hb:b=x
 ·subst hb; rw[aq] at q; cases q; exact new
 ·rw[bh hb] at q
  by_cases hbe:b=e
  ·have q':H b=some (.own x):=by
    rcases he with z | z
    ·exact absurd (hbe.trans z) hb
    ·rw[hbe]; exact z
   rw[q] at q'; cases q'
   obtain⟨v,hv⟩:=heo
   exact⟨v,by rw[hbe]; exact hv⟩
  ·refine (ok b u q).stay (fun c v hc r=>k c v ?_ r) (fun c r=>by rw[bh (nown c b r)]; exact r) fun c xs r=>by rw[bh (ntup c xs r)]; exact r
   rcases hc with rfl | hc
   ·exact hbe
   ·rintro rfl
    rcases he with z | z
    ·exact nown c b hc z
    ·rw[hc] at z; cases z; exact hb rfl
end
structure Un (fs ex:List Addr) (H H':Hp) (h h':Wb):Prop where
 keep:∀ b o,h.get? b=some o->H b=none->b ∉ fs->b ∉ ex->h'.get? b=some o
 slot:∀ b o,h.get? b=some o->H b=none->b∈fs->b ∉ ex->∃ sl,h'.get? b=some { o with slots:=sl }
 free:∀ b o,h.get? b=some o->H b=none->b ∉ ex->H' b=none
 there:∀ b o,h.get? b=some o->b ∉ ex->∃ o',h'.get? b=some o'
 tups:∀ b xs,H b=some (.tup xs)->H' b=some (.tup xs)
 frzs:∀ b o u,H b=some (.frz o u)->H' b=some (.frz o u)
 tbls:∀ b ps,H b=some (.tbl ps)->∃ more,H' b=some (.tbl (ps++more))
section
variable {fs fs' ex ex':List Addr} {H H1 H2:Hp} {h h1 h2 h':Wb} {a x e:Addr} {o:HO}
theorem Un.any (u:Un fs ex H H1 h h1) {b:Addr} {ob:Yb} (q:h.get? b=some ob) (n:H b=none) (hx:b ∉ ex):∃ sl,h1.get? b=some { ob with slots:=sl }:=by
 by_cases hb:b∈fs
 ·exact u.slot b ob q n hb hx
 ·exact⟨ob.slots,u.keep b ob q n hb hx⟩
theorem Un.trans (a:Un fs ex H H1 h h1) (b:Un fs ex H1 H2 h1 h2):Un fs ex H H2 h h2 where
 keep:=fun c ob q n hc hx=>b.keep c ob (a.keep c ob q n hc hx) (a.free c ob q n hx) hc hx
 slot:=fun c ob q n hc hx=>by
  obtain⟨sl,e1⟩:=a.slot c ob q n hc hx
  obtain⟨sl',e2⟩:=b.slot c _ e1 (a.free c ob q n hx) hc hx
  exact⟨sl',e2⟩
 free:=fun c ob q n hx=>by
  obtain⟨o',e1⟩:=a.there c ob q hx
  exact b.free c o' e1 (a.free c ob q n hx) hx
 there:=fun c ob q hx=>by
  obtain⟨o',e1⟩:=a.there c ob q hx
  exact b.there c o' e1 hx
 tups:=fun c xs q=>b.tups c xs (a.tups c xs q)
 frzs:=fun c ob xs q=>b.frzs c ob xs (a.frzs c ob xs q)
 tbls:=fun c ps q=>by
  obtain⟨m1,e1⟩:=a.tbls c ps q
  obtain⟨m2,e2⟩:=b.tbls c _ e1
  exact⟨m1++m2,by rw[e2,Array.append_assoc]⟩
theorem Un.kept (k:∀ b u,h.get? b=some u->h'.get? b=some u):Un fs ex H H h h' :=
 ⟨fun b ob q _ _ _=>k b ob q,fun b ob q _ _ _=>⟨ob.slots,k b ob q⟩,fun _ _ _ n _=>n,fun b ob q _=>⟨ob,k b ob q⟩,fun _ _ q=>q,fun _ _ _ q=>q,fun _ ps q=>⟨#[],by rw[q]; simp⟩⟩
theorem Un.refl:Un fs ex H H h h:=Un.kept fun _ _ q=>q
theorem Un.laid (k:∀ b u,h.get? b=some u->h'.get? b=some u) (hp:h.objs.size<=a) (hn:H a=none):Un fs ex H (upd H a o) h h' where
 keep:=fun b u q _ _ _=>k b u q
 slot:=fun b u q _ _ _=>⟨u.slots,k b u q⟩
 free:=fun b u q n _=>by rw[bh (Vx (Vt (Vo q) hp))]; exact n
 there:=fun b u q _=>⟨u,k b u q⟩
 tups:=fun b xs q=>by rw[bh (eE q hn)]; exact q
 frzs:=fun b u xs q=>by rw[bh (eE q hn)]; exact q
 tbls:=fun b ps q=>⟨#[],by rw[bh (eE q hn),q]; simp⟩
theorem Un.write (mu:Mut (H x)) (he:e=x∨H e=some (.own x)) (k:∀ b u,b≠e->h.get? b=some u->h'.get? b=some u) (heo:∃ u,h'.get? e=some u):Un fs ex H (upd H x o) h h':=by
 have hx:∀ b,H b=none->b≠x:=fun b n z=>by subst z; rw[n] at mu; exact mu
 have hb:∀ b,H b=none->b≠e:=fun b n z=>by
  subst z
  rcases he with r | r
  ·exact hx b n r
  ·rw[n] at r; cases r
 have hm:∀ b u,H b=some u->¬ Mut (some u)->b≠x:=fun b u q nm z=>by subst z; rw[q] at mu; exact nm mu
 refine⟨fun b u q n _ _=>k b u (hb b n) q,fun b u q n _ _=>⟨u.slots,k b u (hb b n) q⟩,fun b u q n _=>by rw[bh (hx b n)]; exact n,fun b u q _=>?_,
  fun b xs q=>by rw[bh (hm b _ q fun z=>z)]; exact q,fun b u xs q=>by rw[bh (hm b _ q fun z=>z)]; exact q,fun b ps q=>⟨#[],by rw[bh (hm b _ q fun z=>z),q]; simp⟩⟩
 by_cases hbe:b=e
 ·subst hbe; exact heo
 ·exact⟨u,k b u hbe q⟩
end
def trk (h:Wb) (H:Hp):List Addr:=(VD h.objs.size).filter fun a=>(H a).isSome
def JN (h:Wb) (H:Hp):Wb:=PySem.W.hideAll h (trk h H)
theorem HB (h:Wb) (H:Hp):(JN h H).objs.size=h.objs.size:=PySem.W.hideAll_size _ _
theorem JG {h:Wb} {H:Hp} {b:Addr} {o:Yb} (e:h.get? b=some o) (n:H b=none):(JN h H).get? b=some o :=
 PySem.W.hideAll_get _ e fun hm=>by
  have q:(H b).isSome=true:=(List.mem_filter.mp hm).2
  rw[n] at q; simp at q
theorem Qg {h:Wb} {H:Hp} {b:Addr} {o:Yb} (e:(JN h H).get? b=some o):h.get? b=some o/\H b=none:=by
 have e':h.get? b=some o:=PySem.W.of_hideAll (trk h H) e
 refine⟨e',?_⟩
 cases q:H b with
 | none=>rfl
 | some x =>
  have hm:b∈trk h H:=List.mem_filter.mpr ⟨List.mem_range.mpr (Vo e'),by simp [q]⟩
  have z:(JN h H).get? b=none:=PySem.W.hideAll_none (trk h H) hm
  rw[z] at e; cases e
def Ox (g h:Wb) (L:Addr):List (Addr × Yb):=(VD h.objs.size).filterMap fun a=>if a=L∨(g.get? a).isSome=true then none else (h.get? a).map fun o=>(a,o)
def rest (g h:Wb) (L d:Addr):List (Addr × Yb):=(Ox g h L).filter fun p=>decide (p.1≠d)
end L2
namespace L2
open PySem PySem.Spec PyProof.Rows
structure Mod (K:Vq) (mg:V9->Option Value) (base:Wb):Prop where
 kin:K.In base
 glob:base.Ns VJ mg
 blt:∃ mb,base.Ns builtinsNs mb/\∀ x:V9,x≠"__name__"->mb x=Wt x
 nolimit:base.NoLimit
structure Cx where
 prog:Vy
 w:V3
 K:Vq
 mg:V9->Option Value
 base:Wb
 A:V0
 N:List V9
 s₀:Vc
 H₀:Hp
 env:Env
 outer:List Env
 stack:List Env
 ex:List Addr
 fn:V9->Bool
 calm:Bool
 pn:List (Addr × Yb)
 xe:Value->Vc->Prop
def frs (l:List Env):List Addr:=l.filterMap (·.frame)
abbrev Cx.fs (X:Cx):List Addr:=frs X.outer
def Vis (sc:Yg) (x:V9):Prop:=sc.names.lookup x=some .local∨sc.names.lookup x=some .cell∨sc.names.lookup x=some .free
def Loc (sc:Yg) (x:V9):Prop:=sc.names.lookup x=some .local∨sc.names.lookup x=some .cell
def Look (env:Env) (h:Wb) (m:V9->Option Value) (x:V9) (u:Value):Prop :=
 (env.kindOf x=some .local/\m x=some u)∨((env.kindOf x=some .cell∨env.kindOf x=some .free)/\∃ c,env.cells.lookup x=some c/\h.IsCell c (some u))
structure Cx.Ok (X:Cx):Prop where
 mod:Mod X.K X.mg X.base
 kind:X.env.scope.kind = .function
 glob:X.env.globals=VJ
 blt:X.env.builtins=builtinsNs
 above:X.s₀.heap.objs.size<=X.env.locals
 inj:∀ x y c,X.env.cells.lookup x=some c->X.env.cells.lookup y=some c->x=y
 has:∀ x,(X.env.kindOf x=some .cell∨X.env.kindOf x=some .free)->∃ c,X.env.cells.lookup x=some c
 cab:∀ x c,X.fn x=true->X.env.cells.lookup x=some c->X.s₀.heap.objs.size<=c
 hd:X.calm=true->X.A.handled=none
 frames:X.A.frames=some X.stack
 stk:X.stack=X.outer∨(X.stack=X.env::X.outer/\X.env.frame=some X.env.locals)
 exf:∀ b∈X.ex,b≠X.env.locals/\∀ x c,X.env.cells.lookup x=some c->c≠b
 bs:∀ b o,X.base.get? b=some o->X.s₀.heap.get? b=some o/\X.H₀ b=none
 bsz:X.base.objs.size<=X.s₀.heap.objs.size
 noex:∀ b o,X.base.get? b=some o->b ∉ X.ex
 exfs:∀ b∈X.ex,b ∉ X.fs
 Eo:X.s₀.heap.FunFrames X.base X.outer
 frf:∀ b∈X.fs,X.H₀ b=none
structure Inv (X:Cx) (pins:List (Addr × Yb)) (σ:List (Option V)) (H:Hp) (s:Vc):Prop where
 ok:X.Ok
 os:s.os=X.s₀.os
 bare:aaV s.gens
 base:Un X.fs X.ex X.H₀ H X.s₀.heap s.heap
 loc:∃ m,s.heap.Ns X.env.locals m/\∀ (i:Nat) (x:V9) (v:V),X.N[i]? = some x->σ[i]? = some (some v)->Vis X.env.scope x->∃ u,RelV v u/\Look X.env s.heap m x u
 cell:∀ x c,X.env.cells.lookup x=some c->∃ v,s.heap.IsCell c v
 free:H X.env.locals=none
 freeC:∀ x c,X.env.cells.lookup x=some c->H c=none
 pin:∀ p∈X.pn++pins,s.heap.get? p.1=some p.2/\H p.1=none/\p.1≠X.env.locals/\p.1 ∉ X.fs/\∀ v,p.2.data≠.cell v
 hok:HOk X.prog X.w H s.heap
 len:σ.length=X.N.length
section
variable {X:Cx} {pins:List (Addr × Yb)} {σ:List (Option V)} {H H':Hp} {s:Vc} {h':Wb}
theorem Cx.Ok.Uu (ok:X.Ok) {b:Addr} {o:Yb} (e:X.base.get? b=some o):b ∉ X.fs:=fun hb=>by
 have:=(ok.Eo.mem hb).1
 rw[e] at this; cases this
theorem Inv.bs (I:Inv X pins σ H s):∀ b o,X.base.get? b=some o->s.heap.get? b=some o/\H b=none:=fun b o e =>
 ⟨I.base.keep b o (I.ok.bs b o e).1 (I.ok.bs b o e).2 (I.ok.Uu e) (I.ok.noex b o e),I.base.free b o (I.ok.bs b o e).1 (I.ok.bs b o e).2 (I.ok.noex b o e)⟩
theorem Inv.bk (I:Inv X pins σ H s):∀ b o,X.base.get? b=some o->s.heap.get? b=some o:=fun b o e=>(I.bs b o e).1
theorem Inv.mod (I:Inv X pins σ H s):Mod X.K X.mg X.base:=I.ok.mod
theorem Inv.kIn (I:Inv X pins σ H s):X.K.In s.heap:=I.ok.mod.kin.keeps I.bk
theorem Inv.lt (I:Inv X pins σ H s):X.env.locals < s.heap.objs.size:=let ⟨_,hn,_⟩:=I.loc; hn.lt
theorem Inv.sz (I:Inv X pins σ H s):X.s₀.heap.objs.size<=s.heap.objs.size:=V2 I.ok.above (Yd I.lt)
theorem Inv.U3 (I:Inv X pins σ H s) {a:Addr} (h:s.heap.objs.size<=a):a ∉ X.fs:=fun hb=>by
 obtain⟨_,o,ho,_⟩:=I.ok.Eo.mem hb
 exact absurd (Vt (Vo ho) (V2 I.sz h)) (W5 _)
theorem Inv.cne (I:Inv X pins σ H s):∀ x c,X.env.cells.lookup x=some c->c≠X.env.locals:=fun x c e z=>by
 obtain⟨v,o,ho,hd⟩:=I.cell x c e
 obtain⟨m,⟨o',es,ep,ho',hd',_⟩,_⟩:=I.loc
 rw[z,ho'] at ho; cases ho; rw[hd'] at hd; cases hd
theorem Inv.Eo (I:Inv X pins σ H s):s.heap.FunFrames X.base X.outer:=by
 have all:∀ (l:List Env),(∀ b∈frs l,b∈X.fs)->X.s₀.heap.FunFrames X.base l->s.heap.FunFrames X.base l:=by
  intro l
  induction l with
  | nil=>intro _ _; trivial
  | cons env r ih =>
   intro hs hl
   obtain⟨hk,⟨L,o,hf,hn,ho,hd⟩,hr⟩:=hl
   have hL:L∈X.fs:=hs L (by unfold frs; rw[aag,hf]; exact Vj)
   obtain⟨sl,e⟩:=I.base.slot L o ho (I.ok.frf L hL) hL fun z=>I.ok.exfs L z hL
   exact⟨hk,⟨L,_,hf,hn,e,hd⟩,ih (fun b hb=>hs b (by unfold frs; rw[aag,hf]; exact Vp _ hb)) hr⟩
 exact all X.outer (fun _ hb=>hb) I.ok.Eo
theorem Inv.stack (I:Inv X pins σ H s):s.heap.FunFrames X.base X.stack:=by
 rcases I.ok.stk with e | ⟨e,hf⟩
 ·rw[e]; exact I.Eo
 ·rw[e]
  obtain⟨m,hn,_⟩:=I.loc
  refine .cons (by rw[I.ok.kind]; decide) hf hn ?_ I.Eo
  exact Heap.get?_none_of_le (V2 I.ok.bsz I.ok.above)
theorem Inv.Jm (I:Inv X pins σ H s):∀ b∈frs X.stack,b∈X.env.locals::X.fs:=fun b hb=>by
 rcases I.ok.stk with e | ⟨e,hf⟩
 ·rw[e] at hb; exact Vp _ hb
 ·rw[e] at hb
  unfold frs at hb
  rw[aag,hf] at hb
  exact hb
theorem Inv.zu (I:Inv X pins σ H s):∀ b∈frs X.stack,H b=none:=fun b hb=>by
 rcases List.mem_cons.mp (I.Jm b hb) with e | hb
 ·rw[e]; exact I.free
 ·obtain⟨_,o,ho,_⟩:=I.ok.Eo.mem hb
  exact I.base.free b o ho (I.ok.frf b hb) fun z=>I.ok.exfs b z hb
theorem Inv.step {g':Array abQ} {t':Nat} {d':Drawn} {ch:List Addr} (I:Inv X pins σ H s)
  (hch:∀ b∈ch,(b∈X.ex∨X.s₀.heap.objs.size<=b)/\b≠X.env.locals/\(∀ x c,X.env.cells.lookup x=some c->c≠b)/\∀ p∈X.pn++pins,p.1≠b)
  (keep:∀ b o,b≠X.env.locals->b ∉ X.fs->b ∉ ch->s.heap.get? b=some o->H b=none->h'.get? b=some o)
  (slot:∀ b o,b≠X.env.locals->b∈X.fs->b ∉ ch->s.heap.get? b=some o->H b=none->∃ sl,h'.get? b=some { o with slots:=sl }) (free:∀ b o,b ∉ ch->s.heap.get? b=some o->H b=none->H' b=none)
  (there:∀ b o,b ∉ ch->s.heap.get? b=some o->∃ o',h'.get? b=some o')
  (tups:∀ b xs,H b=some (.tup xs)->H' b=some (.tup xs)) (frzs:∀ b o u,H b=some (.frz o u)->H' b=some (.frz o u)) (tbls:∀ b ps,H b=some (.tbl ps)->∃ more,H' b=some (.tbl (ps++more)))
  (ns:∀ m,s.heap.Ns X.env.locals m->h'.Ns X.env.locals m) (hok:HOk X.prog X.w H' h') (hg:aaV g') :
  Inv X pins σ H' { s with heap:=h',gens:=g',drawn:=d',toks:=t' }:=by
 have neL:∀ b o,X.s₀.heap.get? b=some o->b≠X.env.locals:=fun b o e=>Vx (Vt (Vo e) I.ok.above)
 have neC:∀ b o,X.s₀.heap.get? b=some o->b ∉ X.ex->b ∉ ch:=fun b o e hx hb=>by
  rcases (hch b hb).1 with z | z
  ·exact hx z
  ·exact absurd (Vt (Vo e) z) (W5 _)
 have cellK:∀ x c,X.env.cells.lookup x=some c->∀ v,s.heap.IsCell c v->h'.IsCell c v:=fun x c e v ⟨o,ho,hd⟩=>by
  have nch:c ∉ ch:=fun z=>(hch c z).2.2.1 x c e rfl
  by_cases hc:c∈X.fs
  ·obtain⟨sl,q⟩:=slot c o (I.cne x c e) hc nch ho (I.freeC x c e)
   exact⟨_,q,hd⟩
  ·exact⟨o,keep c o (I.cne x c e) hc nch ho (I.freeC x c e),hd⟩
 refine⟨I.ok,I.os,hg,⟨fun b o e n hb hx=>?_,fun b o e n hb hx=>?_,fun b o e n hx=>?_,fun b o e hx=>?_,fun b xs e=>tups b xs (I.base.tups b xs e),fun b o xs e=>frzs b o xs (I.base.frzs b o xs e),fun b ps e=>?_⟩,?_,fun x c e=>?_,?_,fun x c e=>?_,fun p hp=>?_,hok,I.len⟩
 ·exact keep b o (neL b o e) hb (neC b o e hx) (I.base.keep b o e n hb hx) (I.base.free b o e n hx)
 ·obtain⟨sl,e1⟩:=I.base.slot b o e n hb hx
  obtain⟨sl',e2⟩:=slot b _ (neL b o e) hb (neC b o e hx) e1 (I.base.free b o e n hx)
  exact⟨sl',e2⟩
 ·obtain⟨o',e1⟩:=I.base.there b o e hx
  exact free b o' (neC b o e hx) e1 (I.base.free b o e n hx)
 ·obtain⟨o',e1⟩:=I.base.there b o e hx
  exact there b o' (neC b o e hx) e1
 ·obtain⟨m1,e1⟩:=I.base.tbls b ps e
  obtain⟨m2,e2⟩:=tbls b _ e1
  exact⟨m1++m2,by rw[e2,Array.append_assoc]⟩
 ·obtain⟨m,hn,hl⟩:=I.loc
  refine⟨m,ns m hn,fun i x v e1 e2 e3=>?_⟩
  obtain⟨u,r,l⟩:=hl i x v e1 e2 e3
  refine⟨u,r,?_⟩
  rcases l with l | ⟨k,c,e,z⟩
  ·exact .inl l
  ·exact .inr ⟨k,c,e,cellK x c e _ z⟩
 ·obtain⟨v,z⟩:=I.cell x c e
  exact⟨v,cellK x c e v z⟩
 ·obtain⟨m,⟨o,_,_,ho,_⟩,_⟩:=I.loc
  exact free _ o (fun z=>(hch _ z).2.1 rfl) ho I.free
 ·obtain⟨v,o,ho,hd⟩:=I.cell x c e
  exact free c o (fun z=>(hch c z).2.2.1 x c e rfl) ho (I.freeC x c e)
 ·obtain⟨e,n,ne,nf,d⟩:=I.pin p hp
  have nch:p.1 ∉ ch:=fun z=>(hch p.1 z).2.2.2 p hp rfl
  exact⟨keep p.1 p.2 ne nf nch e n,free p.1 p.2 nch e n,ne,nf,d⟩
theorem Inv.un {t':Nat} (I:Inv X pins σ H s) (u:Un X.fs [] H H' s.heap h') (hok:HOk X.prog X.w H' h'):Inv X pins σ H' { s with heap:=h',toks:=t' }:=by
 obtain⟨m,⟨o,es,ep,ho,r⟩,_⟩:=id I.loc
 obtain⟨sl,hL⟩:=u.any ho I.free (by simp)
 exact I.step (g':=s.gens) (d':=s.drawn) (ch:=[]) (fun _ z=>nomatch z) (fun b o _ hb _ e n=>u.keep b o e n hb (by simp)) (fun b o _ hb _ e n=>u.slot b o e n hb (by simp)) (fun b o _ e n=>u.free b o e n (by simp)) (fun b o _ e=>u.there b o e (by simp)) u.tups u.frzs u.tbls (fun m' hm=>by
  obtain⟨o',es',ep',ho',r'⟩:=hm
  rw[ho] at ho'; cases ho'
  exact⟨_,es',ep',hL,r'⟩) hok I.bare
theorem Inv.call {g':Array abQ} {t':Nat} {d':Drawn} {ch:List Addr} (I:Inv X pins σ H s) (u:Un (frs X.stack) ch H H' s.heap h') (hok:HOk X.prog X.w H' h') (hg:aaV g')
  (hch:∀ b∈ch,(b∈X.ex∨X.s₀.heap.objs.size<=b)/\b≠X.env.locals/\(∀ x c,X.env.cells.lookup x=some c->c≠b)/\∀ p∈X.pn++pins,p.1≠b) :
  Inv X pins σ H' { s with heap:=h',gens:=g',drawn:=d',toks:=t' }:=by
 obtain⟨m,⟨o,es,ep,ho,r⟩,_⟩:=id I.loc
 obtain⟨sl,hL⟩:=u.any ho I.free fun z=>(hch _ z).2.1 rfl
 exact I.step (ch:=ch) hch (fun b o hL hb hc e n=>u.keep b o e n (fun z=>(List.mem_cons.mp (I.Jm b z)).elim hL hb) hc) (fun b o _ _ hc e n=>u.any e n hc) (fun b o hc e n=>u.free b o e n hc) (fun b o hc e=>u.there b o e hc) u.tups u.frzs u.tbls (fun m' hm=>by
  obtain⟨o',es',ep',ho',r'⟩:=hm
  rw[ho] at ho'; cases ho'
  exact⟨_,es',ep',hL,r'⟩) hok hg
theorem Inv.turned {t':Nat} {it:Addr} (I:Inv X pins σ H s) (k:∀ b o,b≠it->s.heap.get? b=some o->h'.get? b=some o) (hn:H it=none) (hL:it≠X.env.locals)
  (h1:it∈X.ex∨X.s₀.heap.objs.size<=it) (h2:∀ x c,X.env.cells.lookup x=some c->c≠it) (h3:∀ p∈X.pn++pins,p.1≠it):Inv X pins σ H { s with heap:=h',toks:=t' }:=by
 have nit:∀ b u,H b=some u->b≠it:=fun b u e z=>by rw[z,hn] at e; cases e
 refine I.step (g':=s.gens) (d':=s.drawn) (ch:=[it]) (fun b hb=>?_) (fun b o _ _ hc e _=>k b o (fun z=>hc (by simp [z])) e) (fun b o _ _ hc e _=>⟨o.slots,k b o (fun z=>hc (by simp [z])) e⟩) (fun _ _ _ _ n=>n)
  (fun b o hc e=>⟨o,k b o (fun z=>hc (by simp [z])) e⟩) (fun _ _ e=>e) (fun _ _ _ e=>e) (fun b ps e=>⟨#[],by rw[e]; simp⟩) (fun m hm=>?_) (fun b u e=>?_) I.bare
 ·have e:b=it:=by simpa using hb
  subst e
  exact⟨h1,hL,h2,h3⟩
 ·obtain⟨o,es,ep,ho,r⟩:=hm
  exact⟨o,es,ep,k _ o (Yv hL) ho,r⟩
 ·refine (I.hok b u e).stay (fun c v hc q=>k c v ?_ q) (fun _ q=>q) fun _ _ q=>q
  rcases hc with z | z
  ·rw[z]; exact nit b u e
  ·exact nit c _ z
theorem Inv.tok (I:Inv X pins σ H s) (t:Nat):Inv X pins σ H { s with toks:=t }:=I.un (h':=s.heap) (t':=t) Un.refl I.hok
theorem Inv.kept {t':Nat} (I:Inv X pins σ H s) (k:∀ b u,s.heap.get? b=some u->h'.get? b=some u):Inv X pins σ H { s with heap:=h',toks:=t' }:=I.un (Un.kept k) (I.hok.kept k)
theorem Inv.laid {a:Addr} {o:HO} {t':Nat} (I:Inv X pins σ H s) (k:∀ b u,s.heap.get? b=some u->h'.get? b=some u) (hp:s.heap.objs.size<=a) (new:eO X.prog X.w (upd H a o) h' a o) :
  Inv X pins σ (upd H a o) { s with heap:=h',toks:=t' }:=I.un (Un.laid k hp (I.hok.fresh hp)) (I.hok.laid k hp new)
theorem Inv.write {x e:Addr} {o:HO} {t':Nat} (I:Inv X pins σ H s) (mu:Mut (H x)) (he:e=x∨H e=some (.own x)) (k:∀ b u,b≠e->s.heap.get? b=some u->h'.get? b=some u) (heo:∃ u,h'.get? e=some u)
  (new:eO X.prog X.w (upd H x o) h' x o):Inv X pins σ (upd H x o) { s with heap:=h',toks:=t' }:=I.un (Un.write mu he k heo) (I.hok.write mu he k heo new)
theorem Inv.Gv {pins':List (Addr × Yb)} (I:Inv X pins σ H s) (h:∀ p∈pins',s.heap.get? p.1=some p.2/\H p.1=none/\p.1≠X.env.locals/\p.1 ∉ X.fs/\∀ v,p.2.data≠.cell v):Inv X pins' σ H s :=
 ⟨I.ok,I.os,I.bare,I.base,I.loc,I.cell,I.free,I.freeC,fun p hp=>(List.mem_append.mp hp).elim (fun z=>I.pin p (abd _ z)) (h p),I.hok,I.len⟩
theorem zY {N:List V9} (hN:N.Nodup) {i j:Nat} {x:V9} (a:N[i]? = some x) (b:N[j]? = some x):i=j:=by
 obtain⟨h1,e1⟩:=List.getElem?_eq_some_iff.mp a
 obtain⟨h2,e2⟩:=List.getElem?_eq_some_iff.mp b
 exact (aaM hN).mp (e1.trans e2.symm)
theorem xF {M:Model} {A:V0} {E:Value->Vc->Prop} {i:Nat} {x:V9} {v:V} {u:Value} {Q:Unit->Vc->Prop} (I:Inv X pins σ H s) (hN:X.N.Nodup) (hi:X.N[i]? = some x) (hx:Loc X.env.scope x) (r:RelV v u)
  (h:∀ s',Inv X pins (σ.set i (some v)) H s'->(∃ a,Xu a s.heap s'.heap/\(a=X.env.locals∨X.env.cells.lookup x=some a))->Q () s') (hf:X.fn x=true∨X.env.scope.names.lookup x=some .local:=by first | exact .inl rfl | exact .inr rfl | assumption):Vk M A (storeName X.env x u) Q E s:=by
 obtain⟨m,hn,hl⟩:=id I.loc
 have hcls:(X.env.scope.kind == .class || (X.env.scope.kind == .module && X.env.locals != X.env.globals))=false:=by rw[I.ok.kind]; rfl
 have hiσ:i < σ.length:=by rw[I.len]; exact (List.getElem?_eq_some_iff.mp hi).1
 have cne:=I.cne
 have tracked:∀ {a:Addr} {h':Wb},(∃ o,s.heap.get? a=some o/\H a=none)->Xu a s.heap h'->HOk X.prog X.w H h':=fun {a h'} ha hs b ob e=>by
  obtain⟨_,_,hfree⟩:=ha
  refine (I.hok b ob e).stay (fun c w' hc q=>(hs.2 c ?_).trans q) (fun _ q=>q) fun _ _ q=>q
  rintro rfl
  rcases hc with rfl | hc
  ·rw[hfree] at e; cases e
  ·rw[hfree] at hc; cases hc
 rcases hx with hk | hk
 ·refine wpAny_storeName_local hk hn (fun h' hn' hs=>?_) hcls
  obtain⟨oL,_,_,hoL,_⟩:=id hn
  refine h _ ⟨I.ok,I.os,I.bare,⟨fun b o e n hb hx=>?_,fun b o e n hb hx=>?_,I.base.free,fun b o e hx=>?_,I.base.tups,I.base.frzs,I.base.tbls⟩,⟨_,hn',fun j y v' e1 e2 e3=>?_⟩,fun y c e=>?_,I.free,I.freeC,fun p hp=>?_,tracked ⟨oL,hoL,I.free⟩ hs,by simpa using I.len⟩ ⟨_,hs,.inl rfl⟩
  ·exact (hs.2 b (Vx (Vt (Vo e) I.ok.above))).trans (I.base.keep b o e n hb hx)
  ·obtain⟨sl,e1⟩:=I.base.slot b o e n hb hx
   exact⟨sl,(hs.2 b (Vx (Vt (Vo e) I.ok.above))).trans e1⟩
  ·obtain⟨o',e1⟩:=I.base.there b o e hx
   exact⟨o',(hs.2 b (Vx (Vt (Vo e) I.ok.above))).trans e1⟩
  ·by_cases hj:j=i
   ·subst hj
    rw[hi] at e1; cases e1
    rw[List.getElem?_set_self hiσ] at e2
    cases e2
    exact⟨u,r,.inl ⟨hk,by simp⟩⟩
   ·rw[List.getElem?_set_ne (Yv hj)] at e2
    obtain⟨u',r',q⟩:=hl j y v' e1 e2 e3
    refine⟨u',r',?_⟩
    rcases q with⟨k,e⟩ | ⟨k,c,e,z⟩
    ·refine .inl ⟨k,?_⟩
     have:y≠x:=fun e=>hj (zY hN e1 (e▸hi))
     simp [this,e]
    ·exact .inr ⟨k,c,e,z.sameBut hs (cne y c e)⟩
  ·obtain⟨w',z⟩:=I.cell y c e
   exact⟨w',z.sameBut hs (cne y c e)⟩
  ·obtain⟨e,n,ne,nf,d⟩:=I.pin p hp
   exact⟨(hs.2 p.1 ne).trans e,n,ne,nf,d⟩
 ·have hfn:X.fn x=true:=by
   rcases hf with z | z
   ·exact z
   ·rw[z] at hk; cases hk
  obtain⟨c,hc⟩:=I.ok.has x (.inl hk)
  obtain⟨w',z⟩:=I.cell x c hc
  refine wpAny_storeName_cell I.ok.kind hk hc z (fun h' hc' hs=>?_)
  obtain⟨oc,hoc,hocd⟩:=id z
  refine h { s with heap:=h' } ⟨I.ok,I.os,I.bare,⟨fun b o e n hb hx=>?_,fun b o e n hb hx=>?_,I.base.free,fun b o e hx=>?_,I.base.tups,I.base.frzs,I.base.tbls⟩,⟨m,hn.sameBut hs (Yv (cne x c hc)),fun j y v' e1 e2 e3=>?_⟩,fun y c' e=>?_,I.free,I.freeC,fun p hp=>?_,tracked ⟨oc,hoc,I.freeC x c hc⟩ hs,by simpa using I.len⟩ ⟨c,hs,.inr hc⟩
  ·exact (hs.2 b (Vx (Vt (Vo e) (I.ok.cab x c hfn hc)))).trans (I.base.keep b o e n hb hx)
  ·obtain⟨sl,e1⟩:=I.base.slot b o e n hb hx
   exact⟨sl,(hs.2 b (Vx (Vt (Vo e) (I.ok.cab x c hfn hc)))).trans e1⟩
  ·obtain⟨o',e1⟩:=I.base.there b o e hx
   exact⟨o',(hs.2 b (Vx (Vt (Vo e) (I.ok.cab x c hfn hc)))).trans e1⟩
  ·by_cases hj:j=i
   ·subst hj
    rw[hi] at e1; cases e1
    rw[List.getElem?_set_self hiσ] at e2
    cases e2
    exact⟨u,r,.inr ⟨.inl hk,c,hc,hc'⟩⟩
   ·rw[List.getElem?_set_ne (Yv hj)] at e2
    obtain⟨u',r',q⟩:=hl j y v' e1 e2 e3
    refine⟨u',r',?_⟩
    rcases q with q | ⟨k,c',e,z'⟩
    ·exact .inl q
    ·refine .inr ⟨k,c',e,z'.sameBut hs ?_⟩
     rintro rfl
     exact hj (zY hN e1 (I.ok.inj _ _ _ e hc▸hi))
  ·by_cases hcc:c'=c
   ·subst hcc; exact⟨_,hc'⟩
   ·obtain⟨w2,z2⟩:=I.cell y c' e
    exact⟨w2,z2.sameBut hs hcc⟩
  ·obtain⟨e,n,ne,nf,d⟩:=I.pin p hp
   refine⟨(hs.2 p.1 ?_).trans e,n,ne,nf,d⟩
   intro q
   rw[q,hoc] at e
   have q':oc=p.2:=Wn e
   exact d w' (by rw[← q']; exact hocd)
theorem Ac {M:Model} {A:V0} {E:Value->Vc->Prop} {i:Nat} {x:V9} {v:V} {u:Value} {Q:Unit->Vc->Prop} (I:Inv X pins σ H s) (hN:X.N.Nodup) (hi:X.N[i]? = some x) (hx:Loc X.env.scope x) (r:RelV v u)
  (h:∀ s',Inv X pins (σ.set i (some v)) H s'->Q () s') (hf:X.fn x=true∨X.env.scope.names.lookup x=some .local:=by first | exact .inl rfl | exact .inr rfl | assumption):Vk M A (storeName X.env x u) Q E s :=
 xF I hN hi hx r (fun s' I' _=>h s' I') hf
theorem Inv.call' {s':Vc} {ch:List Addr} (I:Inv X pins σ H s) (ho:s'.os=s.os) (u:Un (frs X.stack) ch H H' s.heap s'.heap) (hok:HOk X.prog X.w H' s'.heap) (hg:aaV s'.gens)
  (hch:∀ b∈ch,(b∈X.ex∨X.s₀.heap.objs.size<=b)/\b≠X.env.locals/\(∀ x c,X.env.cells.lookup x=some c->c≠b)/\∀ p∈X.pn++pins,p.1≠b):Inv X pins σ H' s':=by
 obtain⟨h',g',d',t',o'⟩:=s'
 have e:o'=s.os:=ho
 subst e
 exact I.call (g':=g') (t':=t') (d':=d') u hok hg hch
end
abbrev XK:=Value->Option Addr->Hp->Prop
abbrev St:=List (Option V)
abbrev VK:=V->Hp->Prop
abbrev TE:=St->Hp->VK->Prop
abbrev TT:=St->Hp->(Bool->Hp->Prop)->Prop
abbrev TA:=St->Hp->(List V->Hp->Prop)->Prop
structure Ends where
 nx:St->Hp->Prop
 rt:VK
 bk:St->Hp->Prop:=fun _ _=>False
 ct:St->Hp->Prop:=fun _ _=>False
abbrev TS:=Ends->St->Hp->Prop
inductive EP (X:Cx) (pins:List (Addr × Yb)) (σ:St) (Q:VK) (u:Value) (s':Vc):Prop where
 | mk (v:V) (H':Hp) (z0:Inv X pins σ H' s') (z1:RelV v u) (z2:Q v H'):EP X pins σ Q u s'
def TP (X:Cx) (pins:List (Addr × Yb)) (σ:St) (Q:Bool->Hp->Prop) (b:Bool) (s':Vc):Prop:=∃ H',Inv X pins σ H' s'/\Q b H'
inductive AP (X:Cx) (pins:List (Addr × Yb)) (σ:St) (Q:List V->Hp->Prop) (us:List Value) (s':Vc):Prop where
 | mk (vs:List V) (H':Hp) (z0:Inv X pins σ H' s') (z1:Vals vs us) (z2:Q vs H'):AP X pins σ Q us s'
def SP (X:Cx) (pins:List (Addr × Yb)) (D:Ends) (f:Flow) (s':Vc):Prop :=
 match f with
 | .next=>∃ σ' H',Inv X pins σ' H' s'/\D.nx σ' H'
 | .brk=>∃ σ' H',Inv X pins σ' H' s'/\D.bk σ' H'
 | .cont=>∃ σ' H',Inv X pins σ' H' s'/\D.ct σ' H'
 | .ret u=>∃ v σ' H',Inv X pins σ' H' s'/\RelV v u/\D.rt v H'
def PE (X:Cx) (e:Expr) (t:TE):Prop :=
 ∀ (pins:List (Addr × Yb)) (s:Vc) (σ:St) (H:Hp) (Q:VK),Inv X pins σ H s->t σ H Q->Vk (Vs X.prog X.w) X.A (Xn e X.env) (EP X pins σ Q) X.xe s
def PT (X:Cx) (e:Expr) (t:TT):Prop :=
 ∀ (pins:List (Addr × Yb)) (s:Vc) (σ:St) (H:Hp) (Q:Bool->Hp->Prop),Inv X pins σ H s->t σ H Q->Vk (Vs X.prog X.w) X.A (isTrue e X.env (Xn e X.env)) (TP X pins σ Q) X.xe s
def PW (X:Cx) (e:Expr) (t:TT):Prop :=
 ∀ (whole:Sem Value) (pins:List (Addr × Yb)) (s:Vc) (σ:St) (H:Hp) (Q:Bool->Hp->Prop),Inv X pins σ H s->t σ H Q->Vk (Vs X.prog X.w) X.A (isTrue e X.env whole) (TP X pins σ Q) X.xe s
theorem PW.pt {X:Cx} {e:Expr} {t:TT} (h:PW X e t):PT X e t:=h _
def PA (X:Cx) (es:List Expr) (t:TA):Prop :=
 ∀ (pos:Zf) (pins:List (Addr × Yb)) (s:Vc) (σ:St) (H:Hp) (Q:List V->Hp->Prop),Inv X pins σ H s->t σ H Q->Vk (Vs X.prog X.w) X.A (acp (Yc pos (VN es X.env))) (AP X pins σ Q) X.xe s
def PS (X:Cx) (st:Stmt) (t:TS):Prop :=
 ∀ (pins:List (Addr × Yb)) (s:Vc) (σ:St) (H:Hp) (D:Ends),Inv X pins σ H s->t D σ H->Vk (Vs X.prog X.w) X.A (exec st X.env) (SP X pins D) X.xe s
def PSs (X:Cx) (st:List Stmt) (t:TS):Prop :=
 ∀ (pins:List (Addr × Yb)) (s:Vc) (σ:St) (H:Hp) (D:Ends),Inv X pins σ H s->t D σ H->Vk (Vs X.prog X.w) X.A (execs st X.env) (SP X pins D) X.xe s
theorem thn {α:Type} {t:Sem α} {Q Q':α->Vc->Prop} {M:Model} {A:V0} {E:Value->Vc->Prop} {s:Vc} (h:Vk M A t Q E s) (hQ:∀ a s,Q a s->Q' a s):Vk M A t Q' E s:=WN h hQ fun _ _ x=>x
end L2
namespace L2
open PySem PySem.Spec PyProof.Rows
section
variable {X:Cx}
inductive ExB (x:V) (P:Bool->Prop):Prop where
 | mk (c:Bool) (z0:x = .bl c) (z1:P c):ExB x P
inductive RB (i:Nat) (σ:St) (H:Hp) (Q:VK):Prop where
 | mk (v:V) (z0:σ[i]? = some (some v)) (z1:Q v H):RB i σ H Q
def S9 (i:Nat):TE:=fun σ H Q=>RB i σ H Q
def tC (v:V):TE:=fun _ H Q=>Q v H
theorem Ri {i:Nat} {x:V9} {pos:Zf} (hN:X.N[i]? = some x) (hv:Vis X.env.scope x) (hd:(x == ("__debug__" : V9))=false:=by decide) (hcd:(x == ("__classdict__" : V9))=false:=by decide):PE X (.Name x pos) (S9 i):=by
 intro pins s σ H Q I h
 obtain⟨v,e,h⟩:=h
 obtain⟨m,hn,hl⟩:=I.loc
 obtain⟨u,r,l⟩:=hl i x v hN e hv
 have fin:EP X pins σ Q u s:=⟨v,H,I,r,h⟩
 rcases l with⟨hk,hm⟩ | ⟨hk,c,hc,hcell⟩
 ·exact wpAny_Name (wpAny_loadName_local I.ok.kind hk hn hm fin) hd
 ·rcases hk with hk | hk
  ·exact wpAny_Name (wpAny_loadName_cell I.ok.kind hk hc hcell fin) hd
  ·exact wpAny_Name (wpAny_loadName_free I.ok.kind hk hc hcell fin hcd) hd
theorem aA {i j pos}:PE X (.Constant (.int i) j pos) (tC (.int i)):=fun _ _ _ H _ I h=>wpAny_Constant_int ⟨.int i,H,I.tok _,⟨_,rfl⟩,h⟩
theorem gZ {b j pos}:PE X (.Constant (.bool b) j pos) (tC (.bl b)):=fun _ _ _ H _ I h=>Constant_bool ⟨.bl b,H,I,rfl,h⟩
theorem Qx {j pos}:PE X (.Constant .none j pos) (tC .non):=fun _ _ _ H _ I h=>Constant_none ⟨.non,H,I,rfl,h⟩
theorem bM {x j pos}:PE X (.Constant (.str x) j pos) (tC (.str x)):=fun _ _ _ H _ I h=>Calls.Constant_str ⟨.str x,H,I.tok _,⟨_,rfl⟩,h⟩
def Gl (X:Cx) (x:V9):Prop:=X.env.kindOf x=some .globalImplicit
theorem uV {E:Value->Vc->Prop} {pins:List (Addr × Yb)} {s:Vc} {σ:St} {H:Hp} {x:V9} {u:Value} {pos:Zf} {Q:Value->Vc->Prop} (I:Inv X pins σ H s) (hg:Gl X x) (hm:X.mg x=some u) (h:Q u s)
  (hd:(x == ("__debug__" : V9))=false:=by decide):Vk (Vs X.prog X.w) X.A (Xn (.Name x pos) X.env) Q E s :=
 Calls.Name_function_global I.ok.kind hg (Calls.loadGlobal_global (by rw[I.ok.glob]; exact I.mod.glob.keeps I.bk) hm h) hd
theorem gj {E:Value->Vc->Prop} {pins:List (Addr × Yb)} {s:Vc} {σ:St} {H:Hp} {x:V9} {u:Value} {pos:Zf} {Q:Value->Vc->Prop} (I:Inv X pins σ H s) (hg:Gl X x) (hm:X.mg x=none) (hv:Wt x=some u) (h:Q u s)
  (hn:x≠"__name__":=by decide) (hd:(x == ("__debug__" : V9))=false:=by decide):Vk (Vs X.prog X.w) X.A (Xn (.Name x pos) X.env) Q E s:=by
 obtain⟨mb,h1,h2⟩:=I.mod.blt
 exact Calls.Name_function_global I.ok.kind hg (Calls.loadGlobal_builtin (by rw[I.ok.glob]; exact I.mod.glob.keeps I.bk) hm (by rw[I.ok.blt]; exact h1.keeps I.bk) ((h2 x hn).trans hv) h) hd
theorem O3 {x:V9} {v:V} {u:Value} {pos:Zf} (hg:Gl X x) (hm:X.mg x=some u) (r:RelV v u) (hd:(x == ("__debug__" : V9))=false:=by decide):PE X (.Name x pos) (tC v) :=
 fun _ _ _ H _ I h=>uV I hg hm ⟨v,H,I,r,h⟩ hd
theorem NT {x:V9} {v:V} {u:Value} {pos:Zf} (hg:Gl X x) (hm:X.mg x=none) (hv:Wt x=some u) (r:RelV v u) (hn:x≠"__name__":=by decide) (hd:(x == ("__debug__" : V9))=false:=by decide):PE X (.Name x pos) (tC v) :=
 fun _ _ _ H _ I h=>gj I hg hm hv ⟨v,H,I,r,h⟩ hn hd
variable {a b:Expr} {ta tb:TE} {pos:Zf}
def PC (X:Cx) (op:CmpOp) (a b:Expr) (t:TE):Prop :=
 ∀ (pins:List (Addr × Yb)) (s:Vc) (σ:St) (H:Hp) (Q:VK),Inv X pins σ H s->t σ H Q →
  Vk (Vs X.prog X.w) X.A (Xn a X.env) (fun v s₁=>Vk (Vs X.prog X.w) X.A (Xn b X.env) (fun u s₂=>Vk (Vs X.prog X.w) X.A (XQ op v u) (EP X pins σ Q) X.xe s₂) X.xe s₁) X.xe s
theorem Ax (b:Expr) {op:CmpOp} (h:op≠.In) (h2:op≠.NotIn):YZ op b=false:=by
 have e1:(op == CmpOp.In)=false:=by cases op <;> first | rfl | exact absurd rfl h
 have e2:(op == CmpOp.NotIn)=false:=by cases op <;> first | rfl | exact absurd rfl h2
 cases b <;> simp [YZ,e1,e2]
def Uv (ta:TE):TE:=fun σ H Q=>ta σ H fun x H1=>Q (.bl (decide (x = .non))) H1
theorem RelV.K6 {x:V} {v:Value} (r:RelV x v):(v == We)=decide (x = .non):=by
 cases x with
 | non=>cases r; rfl
 | bl _=>cases r; rfl
 | int _=>obtain⟨t,rfl⟩:=r; rfl
 | str _=>obtain⟨t,rfl⟩:=r; rfl
 | byt _=>obtain⟨t,rfl⟩:=r; rfl
 | flt _=>obtain⟨t,rfl⟩:=r; rfl
 | ref _=>cases r; rfl
 | ty _=>cases r; rfl
theorem M7 {j pos'} (ha:PE X a ta):PC X .Is a (.Constant .none j pos') (Uv ta):=by
 intro pins s σ H Q I h
 refine thn (ha pins s σ H _ I h) fun v s1 ⟨x,H1,I1,r1,q1⟩=>?_
 exact Constant_none (is_none_gen ⟨.bl _,H1,I1,by rw[r1.K6]; rfl,q1⟩)
def tB (t:TE):TT:=fun σ H Q=>t σ H fun x H1=>ExB x fun c=>Q c H1
theorem Q0 {op:CmpOp} {t:TE} (h:PC X op a b t) (h1:YZ op b=false:=by first | exact Ax _ (by decide) (by decide) | rfl):PE X (.Compare a [op] [b] pos) t:=fun pins s σ H Q I hw=>wpAny_Compare1 (h pins s σ H Q I hw) h1
theorem Hs {op:CmpOp} {t:TE} (h:PC X op a b t) (h1:YZ op b=false:=by first | exact Ax _ (by decide) (by decide) | rfl):PT X (.Compare a [op] [b] pos) (tB t):=by
 intro pins s σ H Q I hw
 refine wpAny_isTrue_Compare1 (thn (h pins s σ H _ I hw) fun v s1 h1=>thn h1 fun u s2 h2=>thn h2 fun c s3 ⟨x,H1,I1,r1,q1⟩=>?_) h1
 obtain⟨d,rfl,q⟩:=q1
 cases r1
 exact X6 ⟨H1,I1,q⟩
theorem dF {e:Expr} {t:TE} (h:PE X e t) (he:∀ whole,isTrue e X.env whole=(do let v ← whole; aaw e.pos; abe [v] (truthy v)):=by intro _; rfl):PT X e (tB t):=by
 intro pins s σ H Q I hw
 refine isTrue_plain (thn (h pins s σ H _ I hw) fun v s1 ⟨x,H1,I1,r1,q1⟩=>?_) (he _)
 obtain⟨d,rfl,q⟩:=q1
 cases r1
 exact X6 ⟨H1,I1,q⟩
variable {tA tB':TT} {rest:List Expr}
def Uo (t u:TT):TT:=fun σ H Q=>t σ H fun c H1=>if c=true then u σ H1 Q else Q false H1
def tOr (t u:TT):TT:=fun σ H Q=>t σ H fun c H1=>if c=true then Q true H1 else u σ H1 Q
def UJ (t:TT):TT:=fun σ H Q=>t σ H fun c H1=>Q (!c) H1
theorem tK (ha:PT X a tA):PW X (.BoolOp .And [a] pos) tA:=by
 intro wh pins s σ H Q I h
 refine isTrue_and (thn (ha pins s σ H Q I h) fun c s1 e=>?_)
 cases c with
 | true=>exact isTrue_and_nil e
 | false=>exact e
theorem jk (ha:PT X a tA):PW X (.BoolOp .Or [a] pos) tA:=by
 intro wh pins s σ H Q I h
 refine isTrue_or (thn (ha pins s σ H Q I h) fun c s1 e=>?_)
 cases c with
 | false=>exact isTrue_or_nil e
 | true=>exact e
theorem Bb (ha:PT X a tA) (hb:PW X (.BoolOp .And (b::rest) pos) tB'):PW X (.BoolOp .And (a::b::rest) pos) (Uo tA tB'):=by
 intro wh pins s σ H Q I h
 refine isTrue_and (thn (ha pins s σ H _ I h) fun c s1 ⟨H1,I1,q1⟩=>?_)
 cases c with
 | true=>exact hb wh pins s1 σ H1 Q I1 q1
 | false=>exact⟨H1,I1,q1⟩
theorem nU (ha:PT X a tA) (hb:PW X (.BoolOp .Or (b::rest) pos) tB'):PW X (.BoolOp .Or (a::b::rest) pos) (tOr tA tB'):=by
 intro wh pins s σ H Q I h
 refine isTrue_or (thn (ha pins s σ H _ I h) fun c s1 ⟨H1,I1,q1⟩=>?_)
 cases c with
 | true=>exact⟨H1,I1,q1⟩
 | false=>exact hb wh pins s1 σ H1 Q I1 q1
theorem gn (ha:PT X a tA):PT X (.UnaryOp .Not a pos) (UJ tA):=by
 intro pins s σ H Q I h
 exact isTrue_not (ha pins s σ H (fun c H1=>Q (!c) H1) I h)
def TQ (ta tb:TE):TE:=fun σ H Q=>ta σ H fun x H1=>ExB x fun c=>if c=true then tb σ H1 Q else Q (.bl false) H1
def Tt (ta:TE):TE:=fun σ H Q=>ta σ H fun x H1=>ExB x fun c=>Q (.bl (!c)) H1
theorem lq {op} {t:TE} (h:PE X a t):PE X (.BoolOp op [a] pos) t:=fun pins s σ H Q I hw=>BoolOp_one (h pins s σ H Q I hw)
theorem fO (ha:PE X a ta) (hb:PE X (.BoolOp .And (b::rest) pos) tb):PE X (.BoolOp .And (a::b::rest) pos) (TQ ta tb):=by
 intro pins s σ H Q I h
 refine BoolOp_and (thn (ha pins s σ H _ I h) fun v s1 ⟨x,H1,I1,r1,q1⟩=>?_)
 obtain⟨c,rfl,q1⟩:=q1
 cases r1
 refine X6 ?_
 cases c with
 | true=>exact hb pins s1 σ H1 Q I1 q1
 | false=>exact⟨.bl false,H1,I1,rfl,q1⟩
theorem RJ (ha:PE X a ta):PE X (.UnaryOp .Not a pos) (Tt ta):=by
 intro pins s σ H Q I h
 refine UnaryOp_ (thn (ha pins s σ H _ I h) fun v s1 ⟨x,H1,I1,r1,q1⟩=>?_)
 obtain⟨c,rfl,q1⟩:=q1
 cases r1
 exact not_of (X6 ⟨.bl (!c),H1,I1,rfl,q1⟩)
def tIf (t:TT) (ta tb:TE):TE:=fun σ H Q=>t σ H fun c H1=>if c=true then ta σ H1 Q else tb σ H1 Q
theorem Ak {c:Expr} (hc:PT X c tA) (ha:PE X a ta) (hb:PE X b tb):PE X (.IfExp c a b pos) (tIf tA ta tb):=by
 intro pins s σ H Q I h
 refine wpAny_IfExp (thn (hc pins s σ H _ I h) fun d s1 ⟨H1,I1,q1⟩=>?_)
 cases d with
 | true=>exact ha pins s1 σ H1 Q I1 q1
 | false=>exact hb pins s1 σ H1 Q I1 q1
end
end L2
namespace L2
open PySem PySem.Spec PyProof.Rows
def SqL (K:Vq) (H:Hp) (a:Addr) (xs:List V):Prop :=
 Rd H a (.lst xs) ∨
  ∃ (o:Yb) (its:Array Value) (n:Nat),K.lookup a=some o/\o.cls = .type "list"/\o.dict=none/\o.data = .seq its n/\its.size<=sizeLine/\Vals xs its.toList
def SqT (K:Vq) (H:Hp) (a:Addr) (xs:List V):Prop :=
 Rd H a (.tup xs) ∨
  ∃ (o:Yb) (its:Array Value) (n:Nat),K.lookup a=some o/\o.cls = .type "tuple"/\o.data = .seq its n/\its.size<=sizeLine/\Vals xs its.toList
def Uw:Value->Option V
 | .none=>some .non
 | .bool b=>some (.bl b)
 | .int i _=>some (.int i)
 | .str x _=>some (.str x)
 | .bytes b _=>some (.byt b)
 | .float b _=>some (.flt b)
 | .ref a=>some (.ref a)
 | .type n=>some (.ty n)
 | _=>none
theorem RelV.abs {x:V} {u:Value} (r:RelV x u):Uw u=some x:=by
 cases x with
 | non=>cases r; rfl
 | bl _=>cases r; rfl
 | int _=>obtain⟨t,rfl⟩:=r; rfl
 | str _=>obtain⟨t,rfl⟩:=r; rfl
 | byt _=>obtain⟨t,rfl⟩:=r; rfl
 | flt _=>obtain⟨t,rfl⟩:=r; rfl
 | ref _=>cases r; rfl
 | ty _=>cases r; rfl
theorem RelV.inj {x y:V} {u:Value} (r:RelV x u) (q:RelV y u):x=y:=Wn (r.abs.symm.trans q.abs)
theorem Vals.inj:∀ {xs ys:List V} {us:List Value},Vals xs us->Vals ys us->xs=ys
 | _,_,_,.nil,.nil=>rfl
 | _,_,_,.cons r t,.cons r' t'=>by rw[r.inj r',Vals.inj t t']
section
variable {X:Cx} {pins:List (Addr × Yb)} {σ:St} {H:Hp} {s:Vc} {a:Addr} {xs ys:List V}
theorem SqL.of {K:Vq} (h:H a=some (.lst xs)):SqL K H a xs:=.inl (.inl h)
theorem SqT.of {K:Vq} (h:H a=some (.tup xs)):SqT K H a xs:=.inl (.inl h)
theorem Inv.list (I:Inv X pins σ H s) (h:SqL X.K H a xs):∃ its:List Value,Vals xs its/\PlainL s.heap a its.toArray/\xs.length<=sizeLine:=by
 rcases h with h | ⟨o,its,n,hk,hc,hd,hs,hz,r⟩
 ·obtain⟨z,its,n,r,e⟩:=h.ok I.hok
  exact⟨its,r,⟨_,n,e,rfl,rfl,rfl⟩,z⟩
 ·refine⟨its.toList,r,⟨o,n,I.kIn a o hk,hc,hd,by simpa using hs⟩,?_⟩
  have e:=r.length
  simp only[VM] at e
  lia
theorem Inv.tuple (I:Inv X pins σ H s) (h:SqT X.K H a xs):∃ its:List Value,Vals xs its/\IsTup s.heap a its.toArray/\xs.length<=sizeLine:=by
 rcases h with h | ⟨o,its,n,hk,hc,hs,hz,r⟩
 ·obtain⟨z,its,r,p⟩:=h.ok I.hok
  exact⟨its,r,p,z⟩
 ·refine⟨its.toList,r,⟨o,I.kIn a o hk,hc,n,by simpa using hs⟩,?_⟩
  have e:=r.length
  simp only[VM] at e
  lia
theorem Inv.oA (I:Inv X pins σ H s) (h:SqL X.K H a xs) (h':SqL X.K H a ys):xs=ys:=by
 obtain⟨its,r,⟨o,n,e,_,_,d⟩,_⟩:=I.list h
 obtain⟨its',r',⟨o',n',e',_,_,d'⟩,_⟩:=I.list h'
 rw[e] at e'; cases e'
 rw[d] at d'
 injection d' with d1 _
 have:its=its':=by simpa using congrArg Array.toList d1
 subst this
 exact r.inj r'
theorem Inv.gU (I:Inv X pins σ H s) (h:SqT X.K H a xs) (h':SqT X.K H a ys):xs=ys:=by
 obtain⟨its,r,⟨o,e,_,n,d⟩,_⟩:=I.tuple h
 obtain⟨its',r',⟨o',e',_,n',d'⟩,_⟩:=I.tuple h'
 rw[e] at e'; cases e'
 rw[d] at d'
 injection d' with d1 _
 have:its=its':=by simpa using congrArg Array.toList d1
 subst this
 exact r.inj r'
end
abbrev Cx.wish (X:Cx) (E:Value->Vc->Prop):Cx:={ X with xe:=E }
abbrev Cx.nox (X:Cx):Cx:=X.wish fun _ _=>False
theorem Cx.Ok.wish {X:Cx} (ok:X.Ok) (E:Value->Vc->Prop):(X.wish E).Ok :=
 ⟨ok.mod,ok.kind,ok.glob,ok.blt,ok.above,ok.inj,ok.has,ok.cab,ok.hd,ok.frames,ok.stk,ok.exf,ok.bs,ok.bsz,ok.noex,ok.exfs,ok.Eo,ok.frf⟩
theorem Cx.Ok.nD {X:Cx} {E:Value->Vc->Prop} (ok:(X.wish E).Ok):X.Ok :=
 ⟨ok.mod,ok.kind,ok.glob,ok.blt,ok.above,ok.inj,ok.has,ok.cab,ok.hd,ok.frames,ok.stk,ok.exf,ok.bs,ok.bsz,ok.noex,ok.exfs,ok.Eo,ok.frf⟩
section
variable {X:Cx} {pins:List (Addr × Yb)} {σ:St} {H:Hp} {s:Vc} {E:Value->Vc->Prop}
theorem Inv.wish (I:Inv X pins σ H s) (E:Value->Vc->Prop):Inv (X.wish E) pins σ H s:=⟨I.ok.wish E,I.os,I.bare,I.base,I.loc,I.cell,I.free,I.freeC,I.pin,I.hok,I.len⟩
theorem Inv.nD (I:Inv (X.wish E) pins σ H s):Inv X pins σ H s:=⟨I.ok.nD,I.os,I.bare,I.base,I.loc,I.cell,I.free,I.freeC,I.pin,I.hok,I.len⟩
theorem SP.nD {D:Ends} {f:Flow} {s':Vc} (h:SP (X.wish E) pins D f s'):SP X pins D f s':=by
 cases f with
 | next=>obtain⟨σ',H',I,q⟩:=h; exact⟨σ',H',I.nD,q⟩
 | brk=>obtain⟨σ',H',I,q⟩:=h; exact⟨σ',H',I.nD,q⟩
 | cont=>obtain⟨σ',H',I,q⟩:=h; exact⟨σ',H',I.nD,q⟩
 | ret u=>obtain⟨v,σ',H',I,r,q⟩:=h; exact⟨v,σ',H',I.nD,r,q⟩
theorem PSs.nox {st:List Stmt} {t:TS} (h:PSs X.nox st t):PSs X st t:=fun pins s σ H D I hw =>
 WN (h pins s σ H D (I.wish _) hw) (fun _ _ q=>q.nD) fun _ _ z=>Yl z
end
section
variable {X:Cx} {st:Stmt} {rest:List Stmt} {t u:TS} {e:Expr} {te:TE} {pos:Zf}
def R6:TS:=fun D σ H=>D.nx σ H
def J0 (t u:TS):TS:=fun D σ H=>t { D with nx:=u D } σ H
theorem aR:PSs X [] R6:=fun _ _ σ H _ I h=>aaX ⟨σ,H,I,h⟩
theorem au (h1:PS X st t) (h2:PSs X rest u):PSs X (st::rest) (J0 t u):=by
 intro pins s σ H D I h
 refine wpAny_execs_cons (thn (h1 pins s σ H { D with nx:=u D } I h) fun f s1 q=>?_)
 cases f with
 | next =>
  obtain⟨σ',H',I',q⟩:=q
  exact h2 pins s1 σ' H' D I' q
 | ret v=>exact q
 | brk=>exact q
 | cont=>exact q
theorem aB (h1:PS X st t):PSs X [st] t:=by
 intro pins s σ H D I h
 refine wpAny_execs_cons (thn (h1 pins s σ H D I h) fun f s1 q=>?_)
 cases f with
 | next=>exact aaX q
 | ret v=>exact q
 | brk=>exact q
 | cont=>exact q
theorem Inv.quiet {pins:List (Addr × Yb)} {σ:St} {H:Hp} {s:Vc} (I:Inv X pins σ H s):interactive X.env=false:=by simp [interactive,I.ok.kind]
def Tz (te:TE):TS:=fun D σ H=>te σ H fun _ H1=>D.nx σ H1
theorem bO (he:PE X e te) (hs:abW e none pos.line X.env=pure false:=by rfl):PS X (.Expr e pos) (Tz te):=by
 intro pins s σ H D I h
 exact wpAny_Expr_any (thn (he pins s σ H _ I h) fun v s1 ⟨x,H1,I1,r1,q1⟩=>⟨σ,H1,I1,q1⟩) I.quiet hs
def U7 (te:TE):TS:=fun D σ H=>te σ H D.rt
theorem aG (he:PE X e te):PS X (.Return (some e) pos) (U7 te):=by
 intro pins s σ H D I h
 exact wpAny_Return_some (thn (he pins s σ H _ I h) fun v s1 ⟨x,H1,I1,r1,q1⟩=>⟨x,σ,H1,I1,r1,q1⟩)
def Nu (c:TT) (t u:TS):TS:=fun D σ H=>c σ H fun b H1=>if b=true then t D σ H1 else u D σ H1
theorem bG {c:Expr} {a b:List Stmt} {tc:TT} (hc:PT X c tc) (ha:PSs X a t) (hb:PSs X b u):PS X (.If c a b pos) (Nu tc t u):=by
 intro pins s σ H D I h
 refine wpAny_If (thn (hc pins s σ H _ I h) fun d s1 ⟨H1,I1,q1⟩=>?_)
 cases d with
 | true=>exact ha pins s1 σ H1 D I1 q1
 | false=>exact hb pins s1 σ H1 D I1 q1
def SQ:TS:=fun _ _ _=>False
theorem iH:PS X st SQ:=fun _ _ _ _ _ _ h=>h.elim
end
abbrev TG:=V->St->Hp->(St->Hp->Prop)->Prop
abbrev TGs:=List V->St->Hp->(St->Hp->Prop)->Prop
def PG (X:Cx) (target:Expr) (t:TG):Prop :=
 ∀ (pins:List (Addr × Yb)) (s:Vc) (σ:St) (H:Hp) (v:V) (u:Value) (Q:St->Hp->Prop),Inv X pins σ H s->RelV v u->t v σ H Q →
  Vk (Vs X.prog X.w) X.A (aa6 target X.env u) (fun _ s'=>∃ σ' H',Inv X pins σ' H' s'/\Q σ' H') X.xe s
def PGs (X:Cx) (ts:List Expr) (t:TGs):Prop :=
 ∀ (pins:List (Addr × Yb)) (s:Vc) (σ:St) (H:Hp) (vs:List V) (us:List Value) (Q:St->Hp->Prop),Inv X pins σ H s->Vals vs us->t vs σ H Q →
  Vk (Vs X.prog X.w) X.A (assignInOrder ((ZV ts X.env).map (·.2)) us) (fun _ s'=>∃ σ' H',Inv X pins σ' H' s'/\Q σ' H') X.xe s
section
variable {X:Cx} {pos:Zf}
def CN (i:Nat):TG:=fun v σ H Q=>Q (σ.set i (some v)) H
theorem aK {i:Nat} {x:V9} (hN:X.N.Nodup) (hi:X.N[i]? = some x) (hx:Loc X.env.scope x) (hf:X.fn x=true∨X.env.scope.names.lookup x=some .local:=by first | exact .inl rfl | exact .inr rfl | assumption):PG X (.Name x pos) (CN i):=by
 intro pins s σ H v u Q I r h
 exact wpAny_assign_Name (Ac I hN hi hx r (fun s' I'=>⟨_,H,I',h⟩) hf)
def Uz:TGs:=fun vs σ H Q=>vs=[]/\Q σ H
inductive MN (t:TG) (u:TGs) (vs:List V) (σ:St) (H:Hp) (Q:St->Hp->Prop):Prop where
 | mk (v:V) (r:List V) (z0:vs=v::r) (z1:t v σ H fun σ' H'=>u r σ' H' Q):MN t u vs σ H Q
def T8 (t:TG) (u:TGs):TGs:=fun vs σ H Q=>MN t u vs σ H Q
theorem dI:PGs X [] Uz:=by
 intro pins s σ H vs us Q I r h
 obtain⟨e,h⟩:=h
 subst e
 cases r
 exact assignInOrder_nil ⟨σ,H,I,h⟩
theorem bB {e:Expr} {es:List Expr} {t:TG} {u:TGs} (h1:PG X e t) (h2:PGs X es u)
  (hs:(ZV (e::es) X.env).map (·.2)=aa6 e X.env::(ZV es X.env).map (·.2):=by rfl):PGs X (e::es) (T8 t u):=by
 intro pins s σ H vs us Q I r h
 obtain⟨v,vr,e1,h⟩:=h
 subst e1
 cases r with
 | cons r rr =>
  rw[hs]
  refine assignInOrder_cons (thn (h1 pins s σ H _ _ _ I r h) fun _ s1 ⟨σ1,H1,I1,q1⟩=>?_)
  exact h2 pins s1 σ1 H1 _ _ Q I1 rr q1
inductive Ra (K:Vq) (n:Nat) (t:TGs) (v:V) (σ:St) (H:Hp) (Q:St->Hp->Prop):Prop where
 | mk (a:Addr) (xs:List V) (z0:v = .ref a) (z1:SqT K H a xs) (z2:xs.length=n) (z3:t xs σ H Q):Ra K n t v σ H Q
def Up (K:Vq) (n:Nat) (t:TGs):TG:=fun v σ H Q=>Ra K n t v σ H Q
theorem RT {es:List Expr} {k:Nat} {t:TGs} {n:Nat} (hc:X.calm=true) (h:PGs X es t)
  (hn:(ZV es X.env).length=n:=by rfl) (hst:(ZV es X.env).findIdx? (·.1)=none:=by rfl):PG X (.Tuple es k pos) (Up X.K n t):=by
 intro pins s σ H v u Q I r hw
 obtain⟨a,xs,e1,hq,hl,hw⟩:=hw
 subst e1
 cases r
 obtain⟨its,rv,ht,hz⟩:=I.tuple hq
 refine assign_Tuple_tuple (I.ok.hd hc) ht (by simp [hn,← hl,rv.length]) hst fun h' hx=>?_
 have I1:Inv X pins σ H { s with heap:=h' }:=I.kept (t':=s.toks) fun b o e=>hx b o (Vx (Vo e)) e
 exact h pins _ σ H xs _ Q I1 (by simpa using rv) hw
def Uj (te:TE) (g:TG):TS:=fun D σ H=>te σ H fun x H1=>g x σ H1 D.nx
theorem Ng {tg e:Expr} {te:TE} {g:TG} (he:PE X e te) (hg:PG X tg g) (hs:swapsWithSole [tg] e pos.line X.env=pure false:=by rfl) (hw:swappedStores [tg] e X.env=pure none:=by rfl)
  (h1:(ZV [tg] X.env).map (·.2)=[aa6 tg X.env]:=by rfl):PS X (.Assign [tg] e pos) (Uj te g):=by
 intro pins s σ H D I h
 refine wpAny_Assign_stores (thn (he pins s σ H _ I h) fun v s1 ⟨x,H1,I1,r1,q1⟩=>?_) hs hw
 rw[h1]
 exact thn (hg pins s1 σ H1 x v _ I1 r1 q1) fun _ s2 q=>q
theorem aW {i:Nat} {x:V9} {e:Expr} {te:TE} {pos':Zf} (hN:X.N.Nodup) (hi:X.N[i]? = some x) (hx:Loc X.env.scope x) (he:PE X e te) (hs:abW e (some (.Name x pos')) pos.line X.env=pure false:=by rfl) (hf:X.fn x=true∨X.env.scope.names.lookup x=some .local:=by first | exact .inl rfl | exact .inr rfl | assumption) :
  PS X (.Assign [.Name x pos'] e pos) (Uj te (CN i)):=by
 intro pins s σ H D I h
 refine wpAny_Assign_Name (thn (he pins s σ H _ I h) fun v s1 ⟨y,H1,I1,r1,q1⟩=>?_) hs
 exact Ac I1 hN hi hx r1 (fun s2 I2=>⟨_,H1,I2,q1⟩) hf
end
section
variable {X:Cx} {pos:Zf}
def Nq (c:TT) (tb:TS):TS:=fun D σ H=>∃ W:Nat->St->Hp->Prop,(∃ m,W m σ H)/\∀ m σ H,W m σ H →
 c σ H fun b H1=>if b=true then ∃ N:St->Hp->Prop,(∀ σ' H',N σ' H'->∃ m',m' < m/\W m' σ' H')/\tb { D with nx:=N,ct:=N,bk:=D.nx } σ H1 else D.nx σ H1
theorem uH {c:Expr} {body:List Stmt} {tc:TT} {tb:TS} (hp:PassesOwn (Vs X.prog X.w) X.A X.env X.xe) (hc:PT X c tc) (hb:PSs X body tb):PS X (.While c body [] pos) (Nq tc tb):=by
 intro pins s σ H D I h
 obtain⟨W,⟨m0,w0⟩,turn⟩:=h
 refine wpAny_While (codeAny_whileLoop (fun n s'=>∃ σ' H',Inv X pins σ' H' s'/\W n σ' H') ?_ m0 ⟨σ,H,I,w0⟩)
 rintro n s1 ⟨σ1,H1,I1,w1⟩
 refine YS hp (thn (hc pins s1 σ1 H1 _ I1 (turn n σ1 H1 w1)) fun b s2 ⟨H2,I2,q2⟩=>?_)
 cases b with
 | true =>
  obtain⟨N,hN,q2⟩:=q2
  rw[if_pos rfl]
  refine YS hp (thn (hb pins s2 σ1 H2 _ I2 q2) fun f s3 q3=>?_)
  cases f with
  | next =>
   obtain⟨σ3,H3,I3,n3⟩:=q3
   obtain⟨m',hm,w3⟩:=hN σ3 H3 n3
   exact⟨m',hm,σ3,H3,I3,w3⟩
  | cont =>
   obtain⟨σ3,H3,I3,n3⟩:=q3
   obtain⟨m',hm,w3⟩:=hN σ3 H3 n3
   exact⟨m',hm,σ3,H3,I3,w3⟩
  | brk=>exact q3
  | ret v=>exact q3
 | false =>
  rw[if_neg Vm]
  exact aaX ⟨σ1,H2,I2,q2⟩
end
structure It where
 go:Nat->Hp->Prop
 yld:Nat->Hp->V->Hp->Prop
 stop:Nat->Hp->Prop
def qT (X:Cx) (pins:List (Addr × Yb)) (H:Hp) (b:Addr):Prop :=
 H b=none/\b≠X.env.locals/\b ∉ X.fs/\(b∈X.ex∨X.s₀.heap.objs.size<=b)/\(∀ x c,X.env.cells.lookup x=some c->c≠b)/\∀ p∈X.pn++pins,p.1≠b
theorem Inv.Jz {X:Cx} {pins:List (Addr × Yb)} {σ:St} {H H':Hp} {s:Vc} {b:Addr} (I:Inv X pins σ H s) (hb:s.heap.objs.size<=b) (hn:H' b=none):qT X pins H' b:=by
 refine⟨hn,W8 (Vt I.lt hb),I.U3 hb,.inr (V2 I.sz hb),fun x c e z=>?_,fun p hp z=>?_⟩
 ·obtain⟨v,q⟩:=I.cell x c e
  exact absurd (Vt q.lt (by rw[z]; exact hb)) (W5 _)
 ·exact absurd (Vt (Vo (I.pin p hp).1) (by rw[z]; exact hb)) (W5 _)
structure Turn (P:Vy) (w:V3) (K:Vq) (tg:Expr) (J:It) (fp:List Addr) (it:Addr) (tn:Nat->Wb->Prop):Prop where
 mem:it∈fp
 obj:∀ i h,tn i h->∀ b∈fp,∃ o,h.get? b=some o/\∀ v,o.data≠.cell v
 keep:∀ i h h',tn i h->(∀ b∈fp,∀ o,h.get? b=some o->h'.get? b=some o)->tn i h'
 item:∀ (X:Cx),X.prog=P->X.w=w->X.K=K->X.calm=true->∀ (i:Nat) (pins:List (Addr × Yb)) (s:Vc) (σ:St) (H:Hp) (E:Value->Vc->Prop),Inv X pins σ H s->(∀ b∈fp,qT X pins H b)->tn i s.heap->J.go i H →
  Vk (Vs P w) X.A (X3 (.ref it)) (fun r s1=>∃ u,r=some u ∧
   Vk (Vs P w) X.A (Yn tg (.ref it) u) (fun _ s2=>∃ x H',Inv X pins σ H' s2/\RelV x u/\J.yld i H x H'/\tn (i+1) s2.heap/\∀ b∈fp,H' b=none) E s1) E s
 done:∀ (X:Cx),X.prog=P->X.w=w->X.K=K->X.calm=true->∀ (i:Nat) (pins:List (Addr × Yb)) (s:Vc) (σ:St) (H:Hp) (E:Value->Vc->Prop),Inv X pins σ H s->(∀ b∈fp,qT X pins H b)->tn i s.heap->J.stop i H →
  Vk (Vs P w) X.A (X3 (.ref it)) (fun r s1=>r=none/\Inv X pins σ H s1) E s
 self:∀ (A:V0) (i:Nat) (s:Vc) (Q:Value->Vc->Prop) (E:Value->Vc->Prop),tn i s.heap->Q (.ref it) s->Vk (Vs P w) A (aa3 (.ref it)) Q E s
abbrev TI:=St->Hp->(It->Hp->Prop)->Prop
def PIE (X:Cx) (pins:List (Addr × Yb)) (σ:St) (tg:Expr) (R:It->Hp->Prop) (itv:Value) (s2:Vc):Prop :=
 ∃ (it:Addr) (fp:List Addr) (tn:Nat->Wb->Prop) (J:It) (H':Hp),itv = .ref it/\Inv X pins σ H' s2/\Turn X.prog X.w X.K tg J fp it tn/\tn 0 s2.heap/\(∀ b∈fp,qT X pins H' b)/\R J H'
def PI (X:Cx) (tg iter:Expr) (wi:TI):Prop :=
 ∀ (pins:List (Addr × Yb)) (s:Vc) (σ:St) (H:Hp) (R:It->Hp->Prop),Inv X pins σ H s->wi σ H R →
  Vk (Vs X.prog X.w) X.A (Xn iter X.env) (fun v s1=>Vk (Vs X.prog X.w) X.A (aa3 v) (PIE X pins σ tg R) X.xe s1) X.xe s
theorem KQ {M : Model} {A : V0} {E : Value → Vc → Prop} {s : Vc} {tg : Expr} {it : Addr} {u : Value} {o : Yb} {n : String} {vs : Array Value} {Q : Unit → Vc → Prop} (ho : s.heap.get? it = some o) (hc : o.cls = .type n) (hd : o.data = .fields vs)
    (hn : ["enumerate", "zip", "dict_itemiterator", "dict_reverseitemiterator", "odict_iterator", "itertools.zip_longest", "itertools.pairwise"].contains n = false) (hQ : Q () s) : Vk M A (Yn tg (.ref it) u) Q E s := by
  unfold Yn
  cases tg <;> first
    | exact Vd hQ
    | (cases u <;> first
        | exact Vd hQ
        | (refine U9 (wpAny_load ho ?_)
           rw [hc, hd]
           show Vk M A (if (["enumerate", "zip", "dict_itemiterator", "dict_reverseitemiterator", "odict_iterator", "itertools.zip_longest", "itertools.pairwise"].contains n && vs[0]? == some (Xe _)) = true then _ else _) Q E s
           rw [if_neg (by intro h; rw [hn, Ze] at h; cases h)]
           exact Vd hQ))
def Itl (K:Vq) (a:Addr):It :=
 ⟨fun i H=>∃ xs x,SqL K H a xs/\xs[i]? = some x,fun i H x H'=>H'=H/\∀ xs,SqL K H a xs->xs[i]? = some x,fun i H=>∃ xs,SqL K H a xs/\xs.length<=i⟩
def Itt (K:Vq) (a:Addr):It :=
 ⟨fun i H=>∃ xs x,SqT K H a xs/\xs[i]? = some x,fun i H x H'=>H'=H/\∀ xs,SqT K H a xs->xs[i]? = some x,fun i H=>∃ xs,SqT K H a xs/\xs.length<=i⟩
def Itr (lo:Int) (n:Nat):It:=⟨fun i _=>i < n,fun i H x H'=>H'=H/\x = .int (lo+i),fun i _=>n<=i⟩
theorem GR {P:Vy} {w:V3} {K:Vq} {tg:Expr} (a it:Addr):Turn P w K tg (Itl K a) [it] it (fun i h=>h.IsListIter it a i) where
 mem:=by simp
 obj:=fun i h st b hb=>by
  have e:b=it:=by simpa using hb
  subst e
  obtain⟨o,e,c,d⟩:=st
  exact⟨o,e,fun v z=>by rw[d] at z; cases z⟩
 keep:=fun i h h' st k=>st.at fun o e=>k it (by simp) o e
 item:=by
  intro X hP hw hK hc i pins s σ H E I hf st hg
  subst hP hw hK
  obtain⟨xs,x,hq,hx⟩:=hg
  obtain⟨its,rv,p,hz⟩:=I.list hq
  obtain⟨u,hu,ru⟩:=rv.get hx
  obtain⟨f0,f1,f2,f3,f4,f5⟩:=hf it (by simp)
  refine wpAny_pyNext_list_item st p.isList (x:=u) (by simpa using hu) fun h' st' sb=>?_
  have I1:Inv X pins σ H { s with heap:=h' }:=I.turned (t':=s.toks) (fun b o hb e=>(sb.2 b hb).trans e) f0 f1 f3 f4 f5
  obtain⟨o,e,c,d⟩:=id st'
  exact⟨u,rfl,KQ (s:={ s with heap:=h' }) e c d (by decide) ⟨x,H,I1,ru,⟨rfl,fun ys hy=>by rw[I.oA hy hq]; exact hx⟩,st',fun b hb=>(hf b hb).1⟩⟩
 done:=by
  intro X hP hw hK hc i pins s σ H E I hf st hg
  subst hP hw hK
  obtain⟨xs,hq,hx⟩:=hg
  obtain⟨its,rv,p,hz⟩:=I.list hq
  obtain⟨f0,f1,f2,f3,f4,f5⟩:=hf it (by simp)
  have hl:=rv.length
  exact wpAny_pyNext_list_end (I.ok.hd hc) st p.isList (by simp; lia) fun h' eb=>⟨rfl,I.turned (t':=s.toks) (fun b o hb e=>eb b o hb e) f0 f1 f3 f4 f5⟩
 self:=fun _ _ _ _ _ st h=>wpAny_pyIter_listiter st h
theorem DQ {P:Vy} {w:V3} {K:Vq} {tg:Expr} (a it:Addr):Turn P w K tg (Itt K a) [it] it (fun i h=>h.IsTupleIter it a i) where
 mem:=by simp
 obj:=fun i h st b hb=>by
  have e:b=it:=by simpa using hb
  subst e
  obtain⟨o,e,c,d⟩:=st
  exact⟨o,e,fun v z=>by rw[d] at z; cases z⟩
 keep:=fun i h h' st k=>st.at fun o e=>k it (by simp) o e
 item:=by
  intro X hP hw hK hc i pins s σ H E I hf st hg
  subst hP hw hK
  obtain⟨xs,x,hq,hx⟩:=hg
  obtain⟨its,rv,p,hz⟩:=I.tuple hq
  obtain⟨u,hu,ru⟩:=rv.get hx
  obtain⟨f0,f1,f2,f3,f4,f5⟩:=hf it (by simp)
  refine wpAny_pyNext_tuple_item st (show s.heap.IsTuple a its.toArray from p) (x:=u) (by simpa using hu) fun h' st' sb=>?_
  have I1:Inv X pins σ H { s with heap:=h' }:=I.turned (t':=s.toks) (fun b o hb e=>(sb.2 b hb).trans e) f0 f1 f3 f4 f5
  obtain⟨o,e,c,d⟩:=id st'
  exact⟨u,rfl,KQ (s:={ s with heap:=h' }) e c d (by decide) ⟨x,H,I1,ru,⟨rfl,fun ys hy=>by rw[I.gU hy hq]; exact hx⟩,st',fun b hb=>(hf b hb).1⟩⟩
 done:=by
  intro X hP hw hK hc i pins s σ H E I hf st hg
  subst hP hw hK
  obtain⟨xs,hq,hx⟩:=hg
  obtain⟨its,rv,p,hz⟩:=I.tuple hq
  obtain⟨f0,f1,f2,f3,f4,f5⟩:=hf it (by simp)
  have hl:=rv.length
  exact wpAny_pyNext_tuple_end (I.ok.hd hc) st (show s.heap.IsTuple a its.toArray from p) (by simp; lia) fun h' eb=>⟨rfl,I.turned (t':=s.toks) (fun b o hb e=>eb b o hb e) f0 f1 f3 f4 f5⟩
 self:=fun _ _ _ _ _ st h=>wpAny_pyIter_tupleiter st h
theorem Ea {P:Vy} {w:V3} {K:Vq} {tg:Expr} (it:Addr) (lo:Int) (n:Nat):Turn P w K tg (Itr lo n) [it] it (fun i h=>IsRangeIter h it (lo+(i:Nat) * 1) ((n:Int) - (i:Nat)) 1) where
 mem:=by simp
 obj:=fun i h st b hb=>by
  have e:b=it:=by simpa using hb
  subst e
  exact⟨_,st,fun v z=>by
   have z':Data.fields _=Data.cell v:=z
   cases z'⟩
 keep:=fun i h h' st k=>k it (by simp) _ st
 item:=by
  intro X hP hw hK hc i pins s σ H E I hf st hg
  subst hP hw hK
  obtain⟨f0,f1,f2,f3,f4,f5⟩:=hf it (by simp)
  have W:=Walks.range (prog:=X.prog) (w:=X.w) (I.ok.hd hc) it lo 1 n
  refine W.item i s _ _ hg st fun v h' tk hv st' kk=>?_
  obtain⟨t,rfl⟩:=hv
  have I1:Inv X pins σ H { s with heap:=h',toks:=tk }:=I.turned (fun b o hb e=>kk b o (by simpa using hb) e) f0 f1 f3 f4 f5
  refine⟨_,rfl,KQ (s:={ s with heap:=h',toks:=tk }) (n:="range_iterator") st' rfl rfl (by decide) ⟨.int (lo+i),H,I1,⟨t,?_⟩,⟨rfl,rfl⟩,st',fun b hb=>(hf b hb).1⟩⟩
  rw[Int.mul_one]
 done:=by
  intro X hP hw hK hc i pins s σ H E I hf st hg
  subst hP hw hK
  obtain⟨f0,f1,f2,f3,f4,f5⟩:=hf it (by simp)
  exact wpAny_pyNext_range_end (I.ok.hd hc) st (by have:n<=i:=hg; lia) fun h' eb=>⟨rfl,I.turned (t':=s.toks) (fun b o hb e=>eb b o hb e) f0 f1 f3 f4 f5⟩
 self:=fun _ _ _ _ _ st h=>wpAny_pyIter_rangeiter st h
end L2
namespace L2
open PySem PySem.Spec PyProof.Rows
section
variable {X:Cx} {tg:Expr}
def Px (K:Vq) (tl:TE):TI:=fun σ H R=>tl σ H fun x H1=>∃ a,x = .ref a/\(∃ xs,SqL K H1 a xs)/\R (Itl K a) H1
def Uk (K:Vq) (tl:TE):TI:=fun σ H R=>tl σ H fun x H1=>∃ a,x = .ref a/\(∃ xs,SqT K H1 a xs)/\R (Itt K a) H1
theorem fQ {l:Expr} {tl:TE} (hl:PE X l tl):PI X tg l (Px X.K tl):=by
 intro pins s σ H R I h
 refine thn (hl pins s σ H _ I h) fun v s1 ⟨x,H1,I1,r1,q1⟩=>?_
 obtain⟨a,e,⟨xs,hq⟩,q⟩:=q1
 subst e
 cases r1
 obtain⟨its,rv,p,hz⟩:=I1.list hq
 refine Y5 p.isList ?_
 refine⟨s1.heap.objs.size,[s1.heap.objs.size],_,_,H1,rfl,I1.kept (t':=s1.toks) fun b o e=>Va _ e,GR a _,⟨_,Vh _ rfl,rfl,rfl⟩,fun b hb=>?_,q⟩
 have e:b=s1.heap.objs.size:=by simpa using hb
 subst e
 exact I1.Jz (Vg _) (I1.hok.fresh (Vg _))
theorem dJ {l:Expr} {tl:TE} (hl:PE X l tl):PI X tg l (Uk X.K tl):=by
 intro pins s σ H R I h
 refine thn (hl pins s σ H _ I h) fun v s1 ⟨x,H1,I1,r1,q1⟩=>?_
 obtain⟨a,e,⟨xs,hq⟩,q⟩:=q1
 subst e
 cases r1
 obtain⟨its,rv,p,hz⟩:=I1.tuple hq
 refine YK (show s1.heap.IsTuple a its.toArray from p) ?_
 refine⟨s1.heap.objs.size,[s1.heap.objs.size],_,_,H1,rfl,I1.kept (t':=s1.toks) fun b o e=>Va _ e,DQ a _,⟨_,Vh _ rfl,rfl,rfl⟩,fun b hb=>?_,q⟩
 have e:b=s1.heap.objs.size:=by simpa using hb
 subst e
 exact I1.Jz (Vg _) (I1.hok.fresh (Vg _))
theorem J5 {pins:List (Addr × Yb)} {σ:St} {H:Hp} {s:Vc} {R:It->Hp->Prop} {E:Value->Vc->Prop} {lo hi:Int} {t u v:Tok} {tk:Nat} (I:Inv X pins σ H s) (h1 : -(2 ^ 62)<=lo) (h2:lo < 2 ^ 62) (h3 : -(2 ^ 62)<=hi) (h4:hi < 2 ^ 62)
  (q:R (Itr lo (hi - lo).toNat) H):Vk (Vs X.prog X.w) X.A (aa3 (.ref s.heap.objs.size)) (PIE X pins σ tg R) E { s with heap:=s.heap.push { cls:=.type "range",data:=.fields #[.int lo t,.int hi u,.int 1 v] },toks:=tk }:=by
 refine wpAny_pyIter_range (IsRange.new ..) (small_one h1 h2 h3 h4) ?_
 have I1:Inv X pins σ H { s with heap:=s.heap.push { cls:=.type "range",data:=.fields #[.int lo t,.int hi u,.int 1 v] },toks:=tk }:=I.kept fun b o e=>Va _ e
 refine⟨(s.heap.push { cls:=.type "range",data:=.fields #[.int lo t,.int hi u,.int 1 v] }).objs.size,[(s.heap.push { cls:=.type "range",data:=.fields #[.int lo t,.int hi u,.int 1 v] }).objs.size],_,_,H,rfl,
  I1.kept (t':=tk) fun b o e=>Va _ e,Ea _ lo (hi - lo).toNat,?_,fun b hb=>?_,q⟩
 ·have e1:lo+((0:Nat):Int) * 1=lo:=by simp
  have e2:(((hi - lo).toNat:Nat):Int) - ((0:Nat):Int)=Builtin.Range.rangeSize lo hi 1:=by rw[rangeSize_one]; split <;> lia
  show IsRangeIter _ _ (lo+((0:Nat):Int) * 1) ((((hi - lo).toNat:Nat):Int) - ((0:Nat):Int)) 1
  rw[e1,e2]
  exact Vh _ rfl
 ·have e:b=(s.heap.push { cls:=.type "range",data:=.fields #[.int lo t,.int hi u,.int 1 v] }).objs.size:=by simpa using hb
  subst e
  exact I1.Jz (Vg _) (I1.hok.fresh (Vg _))
def TY (ta:TA):TI:=fun σ H R=>ta σ H fun vs H1=>∃ j:Int,vs=[.int j]/\-(2 ^ 62)<=j/\j < 2 ^ 62/\R (Itr 0 j.toNat) H1
theorem dW {a:Expr} {ta:TA} {p pos:Zf} (hg:Gl X "range") (hm:X.mg "range" = none) (ha:PA X [a] ta) (hs:VN [a] X.env=[(false,Xn a X.env)]:=by rfl):PI X tg (.Call (.Name "range" p) [a] [] pos) (TY ta):=by
 intro pins s σ H R I h
 refine Call_ (gj I hg hm boot_range (Wv (thn (ha pos pins s σ H _ I h) fun us s1 ⟨vs,H1,I1,r1,q1⟩=>?_) hs rfl))
 obtain⟨j,e,q1,q2,q⟩:=q1
 subst e
 cases r1 with
 | cons r rr =>
  cases rr
  obtain⟨t,rfl⟩:=r
  exact call_range_1 (J5 I1 (by lia) (by lia) q1 q2 (by simpa using q))
def U6 (wi:TI) (g:TG) (tb:TS):TS:=fun D σ H=>wi σ H fun J H1=>∃ W:Nat->Nat->St->Hp->Prop,(∃ m,W 0 m σ H1)/\∀ i m σ H,W i m σ H →
 (J.stop i H/\D.nx σ H)∨(J.go i H/\∃ N:St->Hp->Prop,(∀ σ' H',N σ' H'->∃ m',m' < m/\W (i+1) m' σ' H')/\∀ x H',J.yld i H x H'->g x σ H' fun σ2 H2=>tb { D with nx:=N,ct:=N,bk:=D.nx } σ2 H2)
def kZ (fp:List Addr) (h:Wb):List (Addr × Yb):=fp.filterMap fun b=>(h.get? b).map fun o=>(b,o)
theorem cQ {fp:List Addr} {h:Wb} {b:Addr} {o:Yb} (hb:b∈fp) (e:h.get? b=some o):(b,o)∈kZ fp h:=List.mem_filterMap.mpr ⟨b,hb,by rw[e]; rfl⟩
theorem G8 {fp:List Addr} {h:Wb} {p:Addr × Yb} (hp:p∈kZ fp h):p.1∈fp/\h.get? p.1=some p.2:=by
 obtain⟨b,hb,e⟩:=List.mem_filterMap.mp hp
 cases q:h.get? b with
 | none=>rw[q] at e; cases e
 | some o =>
  rw[q] at e
  have e':(b,o)=p:=Wn e
  subst e'
  exact⟨hb,q⟩
theorem Inv.pinned {pins:List (Addr × Yb)} {σ:St} {H:Hp} {s:Vc} {fp:List Addr} (I:Inv X pins σ H s) (hf:∀ b∈fp,qT X pins H b) (ho:∀ b∈fp,∃ o,s.heap.get? b=some o/\∀ v,o.data≠.cell v):Inv X (pins++kZ fp s.heap) σ H s :=
 I.Gv fun p hp=>(List.mem_append.mp hp).elim (fun z=>I.pin p (VG _ z)) fun z=>by
  obtain⟨hb,e⟩:=G8 z
  obtain⟨f0,f1,f2,_⟩:=hf p.1 hb
  obtain⟨o,e',d⟩:=ho p.1 hb
  rw[e] at e'; cases e'
  exact⟨e,f0,f1,f2,d⟩
theorem Inv.iD {pins pl:List (Addr × Yb)} {σ:St} {H:Hp} {s:Vc} (I:Inv X (pins++pl) σ H s):Inv X pins σ H s:=I.Gv fun p hp=>I.pin p (VG _ (abd _ hp))
theorem eZ {iter:Expr} {body:List Stmt} {wi:TI} {g:TG} {tb:TS} {pos:Zf} (hp:PassesOwn (Vs X.prog X.w) X.A X.env X.xe) (hc:X.calm=true) (hi:PI X tg iter wi) (hg:PG X tg g) (hb:PSs X body tb)
  (hs:∀ x,XC iter X.env x=pure x:=by intro _; rfl):PS X (.For tg iter body [] pos) (U6 wi g tb):=by
 intro pins s σ H D I h
 refine wpAny_For (thn (hi pins s σ H _ I h) fun v s1 h1=>thn h1 fun itv s2 h2=>?_) hs
 obtain⟨it,fp,tn,J,H2,e,I2,T,st2,f2,W,⟨m0,w0⟩,turn⟩:=h2
 subst e
 have stat:∀ {H':Hp},(∀ b∈fp,H' b=none)->∀ b∈fp,qT X pins H' b:=fun hn b hb=>⟨hn b hb,(f2 b hb).2⟩
 refine codeAny_forLoop_any (fun n s'=>∃ i σ' H',Inv X pins σ' H' s'/\tn i s'.heap/\(∀ b∈fp,H' b=none)/\W i n σ' H') ?_ m0 ⟨0,σ,H2,I2,st2,fun b hb=>(f2 b hb).1,w0⟩
 rintro n s3 ⟨i,σ3,H3,I3,st3,fr3,w3⟩
 rcases turn i n σ3 H3 w3 with⟨stop,qn⟩ | ⟨go,N,hN,step⟩
 ·refine YS hp (thn (T.done X rfl rfl rfl hc i pins s3 σ3 H3 X.xe I3 (stat fr3) st3 stop) fun r s4 ⟨hr,I4⟩=>?_)
  subst hr
  exact aaX ⟨σ3,H3,I4,qn⟩
 ·refine YS hp (thn (T.item X rfl rfl rfl hc i pins s3 σ3 H3 X.xe I3 (stat fr3) st3 go) fun r s4 ⟨u,hr,h4⟩=>?_)
  subst hr
  refine YS hp (thn h4 fun _ s5 ⟨x,H5,I5,r5,y5,st5,fr5⟩=>?_)
  have I5':=I5.pinned (stat fr5) (T.obj _ _ st5)
  refine YS hp (thn (hg _ s5 σ3 H5 x u _ I5' r5 (step x H5 y5)) fun _ s6 ⟨σ6,H6,I6,q6⟩=>?_)
  refine YS hp (thn (hb _ s6 σ6 H6 _ I6 q6) fun f s7 q7=>?_)
  have again:∀ {σ7:St} {H7:Hp},Inv X (pins++kZ fp s5.heap) σ7 H7 s7->N σ7 H7->∃ m,m < n/\∃ i σ' H',Inv X pins σ' H' s7/\tn i s7.heap/\(∀ b∈fp,H' b=none)/\W i m σ' H':=fun {σ7 H7} I7 n7=>by
   obtain⟨m',hm,w7⟩:=hN σ7 H7 n7
   refine⟨m',hm,i+1,σ7,H7,I7.iD,T.keep _ _ _ st5 fun b hb o e=>(I7.pin (b,o) (VG _ (VG _ (cQ hb e)))).1,fun b hb=>?_,w7⟩
   obtain⟨o,e,d⟩:=T.obj _ _ st5 b hb
   exact (I7.pin (b,o) (VG _ (VG _ (cQ hb e)))).2.1
  cases f with
  | next=>obtain⟨σ7,H7,I7,n7⟩:=q7; exact again I7 n7
  | cont=>obtain⟨σ7,H7,I7,n7⟩:=q7; exact again I7 n7
  | brk=>obtain⟨σ7,H7,I7,q7⟩:=q7; exact⟨σ7,H7,I7.iD,q7⟩
  | ret v=>obtain⟨x7,σ7,H7,I7,r7,q7⟩:=q7; exact⟨x7,σ7,H7,I7.iD,r7,q7⟩
end
theorem iU {K:Vq} {a:Addr} {xs:List V} {g:TG} {tb:TS} {D:Ends} {σ:St} {H:Hp} (Pv:Nat->St->Hp->Prop) (h0:Pv 0 σ H) (hl:∀ i σ H,i<=xs.length->Pv i σ H->SqL K H a xs)
  (hs:∀ i x σ H,xs[i]? = some x->Pv i σ H->g x σ H fun σ2 H2=>tb { D with nx:=Pv (i+1),ct:=Pv (i+1),bk:=D.nx } σ2 H2) (hd:∀ σ H,Pv xs.length σ H->D.nx σ H) :
  ∃ W:Nat->Nat->St->Hp->Prop,(∃ m,W 0 m σ H)/\∀ i m σ H,W i m σ H →
   ((Itl K a).stop i H/\D.nx σ H)∨((Itl K a).go i H/\∃ N:St->Hp->Prop,(∀ σ' H',N σ' H'->∃ m',m' < m/\W (i+1) m' σ' H')/\∀ x H',(Itl K a).yld i H x H'->g x σ H' fun σ2 H2=>tb { D with nx:=N,ct:=N,bk:=D.nx } σ2 H2):=by
 refine⟨fun i m σ H=>m=xs.length - i/\i<=xs.length/\Pv i σ H,⟨xs.length,by simp,VL _,h0⟩,?_⟩
 rintro i m σ H ⟨rfl,hi,p⟩
 have q:=hl i σ H hi p
 by_cases hlt:i < xs.length
 ·refine .inr ⟨⟨xs,xs[i],q,by simp [hlt]⟩,Pv (i+1),fun σ' H' p'=>⟨xs.length - (i+1),by lia,rfl,hlt,p'⟩,fun x H' y=>?_⟩
  obtain⟨e,y⟩:=y
  subst e
  exact hs i x σ _ (y xs q) p
 ·have e:i=xs.length:=by lia
  subst e
  exact .inl ⟨⟨xs,q,Vg _⟩,hd σ H p⟩
theorem mX {K:Vq} {a:Addr} {xs:List V} {g:TG} {tb:TS} {D:Ends} {σ:St} {H:Hp} (Pv:Nat->St->Hp->Prop) (h0:Pv 0 σ H) (hl:∀ i σ H,i<=xs.length->Pv i σ H->SqT K H a xs)
  (hs:∀ i x σ H,xs[i]? = some x->Pv i σ H->g x σ H fun σ2 H2=>tb { D with nx:=Pv (i+1),ct:=Pv (i+1),bk:=D.nx } σ2 H2) (hd:∀ σ H,Pv xs.length σ H->D.nx σ H) :
  ∃ W:Nat->Nat->St->Hp->Prop,(∃ m,W 0 m σ H)/\∀ i m σ H,W i m σ H →
   ((Itt K a).stop i H/\D.nx σ H)∨((Itt K a).go i H/\∃ N:St->Hp->Prop,(∀ σ' H',N σ' H'->∃ m',m' < m/\W (i+1) m' σ' H')/\∀ x H',(Itt K a).yld i H x H'->g x σ H' fun σ2 H2=>tb { D with nx:=N,ct:=N,bk:=D.nx } σ2 H2):=by
 refine⟨fun i m σ H=>m=xs.length - i/\i<=xs.length/\Pv i σ H,⟨xs.length,by simp,VL _,h0⟩,?_⟩
 rintro i m σ H ⟨rfl,hi,p⟩
 have q:=hl i σ H hi p
 by_cases hlt:i < xs.length
 ·refine .inr ⟨⟨xs,xs[i],q,by simp [hlt]⟩,Pv (i+1),fun σ' H' p'=>⟨xs.length - (i+1),by lia,rfl,hlt,p'⟩,fun x H' y=>?_⟩
  obtain⟨e,y⟩:=y
  subst e
  exact hs i x σ _ (y xs q) p
 ·have e:i=xs.length:=by lia
  subst e
  exact .inl ⟨⟨xs,q,Vg _⟩,hd σ H p⟩
theorem qJ {lo:Int} {n:Nat} {g:TG} {tb:TS} {D:Ends} {σ:St} {H:Hp} (Pv:Nat->St->Hp->Prop) (h0:Pv 0 σ H)
  (hs:∀ i σ H,i < n->Pv i σ H->g (.int (lo+i)) σ H fun σ2 H2=>tb { D with nx:=Pv (i+1),ct:=Pv (i+1),bk:=D.nx } σ2 H2) (hd:∀ σ H,Pv n σ H->D.nx σ H) :
  ∃ W:Nat->Nat->St->Hp->Prop,(∃ m,W 0 m σ H)/\∀ i m σ H,W i m σ H →
   ((Itr lo n).stop i H/\D.nx σ H)∨((Itr lo n).go i H/\∃ N:St->Hp->Prop,(∀ σ' H',N σ' H'->∃ m',m' < m/\W (i+1) m' σ' H')/\∀ x H',(Itr lo n).yld i H x H'->g x σ H' fun σ2 H2=>tb { D with nx:=N,ct:=N,bk:=D.nx } σ2 H2):=by
 refine⟨fun i m σ H=>m=n - i/\i<=n/\Pv i σ H,⟨n,by simp,VL _,h0⟩,?_⟩
 rintro i m σ H ⟨rfl,hi,p⟩
 by_cases hlt:i < n
 ·refine .inr ⟨hlt,Pv (i+1),fun σ' H' p'=>⟨n - (i+1),by lia,rfl,hlt,p'⟩,fun x H' y=>?_⟩
  obtain⟨e,y⟩:=y
  subst e y
  exact hs i σ _ hlt p
 ·have e:i=n:=by lia
  subst e
  exact .inl ⟨Vg _,hd σ H p⟩
theorem JL {c:TT} {tb:TS} {D:Ends} {σ:St} {H:Hp} (Pv:St->Hp->Prop) (μ:St->Hp->Nat) (h0:Pv σ H)
  (hs:∀ σ H,Pv σ H->c σ H fun b H1=>if b=true then tb { D with nx:=fun σ' H'=>Pv σ' H'/\μ σ' H' < μ σ H,ct:=fun σ' H'=>Pv σ' H'/\μ σ' H' < μ σ H,bk:=D.nx } σ H1 else D.nx σ H1)
  (mono:∀ σ H Q Q',(∀ b H1,Q b H1->Q' b H1)->c σ H Q->c σ H Q'):Nq c tb D σ H:=by
 refine⟨fun m σ H=>m=μ σ H/\Pv σ H,⟨_,rfl,h0⟩,?_⟩
 rintro m σ H ⟨rfl,p⟩
 refine mono σ H _ _ (fun b H1 q=>?_) (hs σ H p)
 cases b with
 | true=>exact⟨_,fun σ' H' ⟨p',l⟩=>⟨_,l,rfl,p'⟩,q⟩
 | false=>exact q
end L2
namespace L2
open PySem PySem.Spec PyProof.Rows
abbrev R2:=V->V->Hp->VK->Prop
def OpR (X:Cx) (f:Value->Value->Sem Value) (r:R2):Prop :=
 ∀ (pins:List (Addr × Yb)) (s:Vc) (σ:St) (H:Hp) (x y:V) (v u:Value) (Q:VK),Inv X pins σ H s->RelV x v->RelV y u->r x y H Q →
  Vk (Vs X.prog X.w) X.A (f v u) (EP X pins σ Q) X.xe s
def UnR (X:Cx) (f:Value->Sem Value) (r:V->Hp->VK->Prop):Prop :=
 ∀ (pins:List (Addr × Yb)) (s:Vc) (σ:St) (H:Hp) (x:V) (v:Value) (Q:VK),Inv X pins σ H s->RelV x v->r x H Q →
  Vk (Vs X.prog X.w) X.A (f v) (EP X pins σ Q) X.xe s
def iQ (X:Cx) (f:Value) (r:List V->Hp->VK->Prop):Prop :=
 ∀ (pins:List (Addr × Yb)) (s:Vc) (σ:St) (H:Hp) (xs:List V) (us:List Value) (Q:VK),Inv X pins σ H s->Vals xs us->r xs H Q →
  Vk (Vs X.prog X.w) X.A (call f us) (EP X pins σ Q) X.xe s
def tOp (r:R2) (ta tb:TE):TE:=fun σ H Q=>ta σ H fun x H1=>tb σ H1 fun y H2=>r x y H2 Q
def tUn (r:V->Hp->VK->Prop) (ta:TE):TE:=fun σ H Q=>ta σ H fun x H1=>r x H1 Q
inductive RII (C:Int->Int->Prop) (g:Int->Int->V) (x:V) (y:V) (H:Hp) (Q:VK):Prop where
 | mk (i:Int) (j:Int) (z0:x = .int i) (z1:y = .int j) (z2:C i j) (z3:Q (g i j) H):RII C g x y H Q
def rI (C:Int->Int->Prop) (g:Int->Int->V):R2:=fun x y H Q=>RII C g x y H Q
inductive Ug (g:Int->Int->V) (x:V) (y:V) (H:Hp) (Q:VK):Prop where
 | mk (i:Int) (j:Int) (z0:x = .int i) (z1:y = .int j) (z2:Q (g i j) H):Ug g x y H Q
def rI0 (g:Int->Int->V):R2:=fun x y H Q=>Ug g x y H Q
inductive RUI (g:Int->V) (x:V) (H:Hp) (Q:VK):Prop where
 | mk (i:Int) (z0:x = .int i) (z1:Q (g i) H):RUI g x H Q
def rU (g:Int->V):V->Hp->VK->Prop:=fun x H Q=>RUI g x H Q
section
variable {X:Cx} {a b c:Expr} {ta tb tc:TE} {pos:Zf}
theorem TF (ha:PE X a ta) (hb:PE X b tb) {pins:List (Addr × Yb)} {s:Vc} {σ:St} {H:Hp} {R:V->V->Hp->Prop} (I:Inv X pins σ H s)
  (h:ta σ H fun x H1=>tb σ H1 fun y H2=>R x y H2) {Q:Value->Vc->Prop} {f:Value->Value->Sem Value}
  (hf:∀ v u s2 x y H2,Inv X pins σ H2 s2->RelV x v->RelV y u->R x y H2->Vk (Vs X.prog X.w) X.A (f v u) Q X.xe s2) :
  Vk (Vs X.prog X.w) X.A (Xn a X.env) (fun v s₁=>Vk (Vs X.prog X.w) X.A (Xn b X.env) (fun u s₂=>Vk (Vs X.prog X.w) X.A (f v u) Q X.xe s₂) X.xe s₁) X.xe s:=by
 refine thn (ha pins s σ H _ I h) fun v s1 ⟨x,H1,I1,r1,q1⟩=>?_
 refine thn (hb pins s1 σ H1 _ I1 q1) fun u s2 ⟨y,H2,I2,r2,q2⟩=>?_
 exact hf v u s2 x y H2 I2 r1 r2 q2
theorem bf {op:Operator} {r:R2} (ho:OpR X (Zt op) r) (ha:PE X a ta) (hb:PE X b tb):PE X (.BinOp a op b pos) (tOp r ta tb):=by
 intro pins s σ H Q I h
 exact wpAny_BinOp (TF ha hb I h fun v u s2 x y H2 I2 rx ry q=>ho pins s2 σ H2 x y v u Q I2 rx ry q)
theorem PL {op:UnaryOp} {r:V->Hp->VK->Prop} (ho:UnR X (unaryOp op) r) (ha:PE X a ta):PE X (.UnaryOp op a pos) (tUn r ta):=by
 intro pins s σ H Q I h
 exact UnaryOp_ (thn (ha pins s σ H _ I h) fun v s1 ⟨x,H1,I1,r1,q1⟩=>ho pins s1 σ H1 x v Q I1 r1 q1)
theorem opI {f:Value->Value->Sem Value} {C:Int->Int->Prop} {g:Int->Int->Int}
  (rule:∀ (i j:Int) (t u:Tok) (s:Vc) (Q:Value->Vc->Prop) (E:Value->Vc->Prop),C i j->Q (.int (g i j) s.toks) { s with toks:=s.toks+1 }->Vk (Vs X.prog X.w) X.A (f (.int i t) (.int j u)) Q E s) :
  OpR X f (rI C fun i j=>.int (g i j)):=by
 intro pins s σ H x y v u Q I rx ry h
 obtain⟨i,j,rfl,rfl,hc,q⟩:=h
 obtain⟨t,rfl⟩:=rx
 obtain⟨t',rfl⟩:=ry
 exact rule i j t t' s _ _ hc ⟨.int (g i j),H,I.tok _,⟨_,rfl⟩,q⟩
theorem Ue {f:Value->Value->Sem Value} {g:Int->Int->Int}
  (rule:∀ (i j:Int) (t u:Tok) (s:Vc) (Q:Value->Vc->Prop) (E:Value->Vc->Prop),Q (.int (g i j) s.toks) { s with toks:=s.toks+1 }->Vk (Vs X.prog X.w) X.A (f (.int i t) (.int j u)) Q E s) :
  OpR X f (rI0 fun i j=>.int (g i j)):=by
 intro pins s σ H x y v u Q I rx ry h
 obtain⟨i,j,rfl,rfl,q⟩:=h
 obtain⟨t,rfl⟩:=rx
 obtain⟨t',rfl⟩:=ry
 exact rule i j t t' s _ _ ⟨.int (g i j),H,I.tok _,⟨_,rfl⟩,q⟩
theorem S8 {f:Value->Value->Sem Value} {g:Int->Int->Bool}
  (rule:∀ (i j:Int) (t u:Tok) (s:Vc) (Q:Value->Vc->Prop) (E:Value->Vc->Prop),Q (.bool (g i j)) s->Vk (Vs X.prog X.w) X.A (f (.int i t) (.int j u)) Q E s) :
  OpR X f (rI0 fun i j=>.bl (g i j)):=by
 intro pins s σ H x y v u Q I rx ry h
 obtain⟨i,j,rfl,rfl,q⟩:=h
 obtain⟨t,rfl⟩:=rx
 obtain⟨t',rfl⟩:=ry
 exact rule i j t t' s _ _ ⟨.bl (g i j),H,I,rfl,q⟩
def Ur (i j:Int):Prop:=0 < j/\j < 1073741824
def Uy (i j:Int):Prop:=0<=j/\j<=1000000/\i.natAbs < 2 ^ 64
def Th (i j:Int):Prop:=(-(2 ^ 64) < i/\i < 2 ^ 64)∨(-(2 ^ 64) < j/\j < 2 ^ 64)
theorem Th.ok {i j:Int} (h:Th i j):IntMulOk i j:=by
 rcases h with⟨h1,h2⟩ | ⟨h1,h2⟩
 ·exact .of_left (intBits_le_64 h1 h2)
 ·exact .of_right (intBits_le_64 h1 h2)
theorem bW:OpR X (Zt .Add) (rI0 fun i j=>.int (i+j)):=Ue fun _ _ _ _ _ _ _ q=>add_int q
theorem jd:OpR X (Zt .Sub) (rI0 fun i j=>.int (i - j)):=Ue fun _ _ _ _ _ _ _ q=>sub_int q
theorem jw:OpR X (Zt .Mult) (rI Th fun i j=>.int (i * j)):=opI fun _ _ _ _ _ _ _ hc q=>mul_int q hc.ok
theorem yh:OpR X (Zt .FloorDiv) (rI Ur fun i j=>.int (i / j)):=opI fun i j _ _ _ _ _ hc q=>by
 have h1:(0:Int) < j:=hc.1
 have h2:j < 1073741824:=hc.2
 exact floordiv_int (by lia) (by rw[Int.fdiv_eq_ediv_of_nonneg i (by lia)]; exact q) (.inl (PyProof.noPylong_small (by lia)))
theorem cW:OpR X (Zt .Mod) (rI (fun _ j=>0 < j) fun i j=>.int (i % j)):=opI fun i j _ _ _ _ _ hc q=>by
 have h1:(0:Int) < j:=hc
 exact mod_int' (by lia) (by rw[Int.fmod_eq_emod_of_nonneg i (by lia)]; exact q)
theorem pD:OpR X (Zt .Pow) (rI Uy fun i j=>.int (i ^ j.toNat)):=opI fun _ _ _ _ _ _ _ hc q=>pow_int_small hc.1 hc.2.1 hc.2.2 q
theorem unI {f:Value->Sem Value} {g:Int->Int}
  (rule:∀ (i:Int) (t:Tok) (s:Vc) (Q:Value->Vc->Prop) (E:Value->Vc->Prop),Q (.int (g i) s.toks) { s with toks:=s.toks+1 }->Vk (Vs X.prog X.w) X.A (f (.int i t)) Q E s) :
  UnR X f (rU fun i=>.int (g i)):=by
 intro pins s σ H x v Q I rx h
 obtain⟨i,rfl,q⟩:=h
 obtain⟨t,rfl⟩:=rx
 exact rule i t s _ _ ⟨.int (g i),H,I.tok _,⟨_,rfl⟩,q⟩
theorem Ez:UnR X (unaryOp .USub) (rU fun i=>.int (-i)):=unI fun _ _ _ _ _ q=>neg_int q
end
def Ub:V->V->Bool
 | .non,.non=>true | .non,.int _=>true | .int _,.non=>true | .non,.bl _=>true | .bl _,.non=>true | .non,.str _=>true | .str _,.non=>true
 | .int _,.int _=>true | .bl _,.bl _=>true | .str _,.str _=>true | .byt _,.byt _=>true
 | .int _,.str _=>true | .str _,.int _=>true | .bl _,.str _=>true | .str _,.bl _=>true
 | _,_=>false
def rEq:R2:=fun x y H Q=>Ub x y=true/\Q (.bl (decide (x=y))) H
def rNe:R2:=fun x y H Q=>Ub x y=true/\Q (.bl (!decide (x=y))) H
theorem Gr {i j:Int}:decide (V.int i=V.int j)=(i == j):=by
 rw[ZF]
 simp
theorem Np {i j:Bool}:decide (V.bl i=V.bl j)=(i == j):=by
 rw[ZF]
 simp
theorem Hk {i j:V9}:decide (V.str i=V.str j)=(i == j):=by
 rw[ZF]
 simp
theorem Jg {i j:Array UInt8}:decide (V.byt i=V.byt j)=(i.toList == j.toList):=by
 rw[ZF]
 cases i
 cases j
 simp
section
variable {X:Cx} {a b c:Expr} {ta tb tc:TE} {pos:Zf}
theorem bZ {pins:List (Addr × Yb)} {σ:St} {H:Hp} {s:Vc} {Q:VK} {k k':Bool} (I:Inv X pins σ H s) (q:Q (.bl k) H) (e:k=k'):EP X pins σ Q (.bool k') s:=by
 subst e
 exact⟨.bl k,H,I,rfl,q⟩
theorem cJ:OpR X (XQ .Eq) rEq:=by
 intro pins s σ H x y v u Q I rx ry h
 obtain⟨hs,q⟩:=h
 cases x with
 | non =>
  cases rx
  cases y with
  | non=>cases ry; exact PySem.EqNone.eq_none_none (bZ I q (by simp))
  | bl j=>cases ry; exact PySem.EqNone.eq_none_bool (bZ I q (by simp))
  | int j=>obtain⟨t',rfl⟩:=ry; exact PySem.EqNone.eq_none_int (bZ I q (by simp))
  | str j=>obtain⟨t',rfl⟩:=ry; exact PySem.EqNone.eq_none_str (bZ I q (by simp))
  | _=>exact absurd (show false=true from hs) Vm
 | bl i =>
  cases rx
  cases y with
  | non=>cases ry; exact PySem.EqNone.eq_bool_none (bZ I q (by simp))
  | bl j=>cases ry; exact eq_bool (bZ I q Np)
  | str j=>obtain⟨t',rfl⟩:=ry; exact PySem.EqMixed.eq_bool_str (bZ I q (by simp))
  | _=>exact absurd (show false=true from hs) Vm
 | int i =>
  obtain⟨t,rfl⟩:=rx
  cases y with
  | non=>cases ry; exact PySem.EqNone.eq_int_none (bZ I q (by simp))
  | int j=>obtain⟨t',rfl⟩:=ry; exact eq_int (bZ I q Gr)
  | str j=>obtain⟨t',rfl⟩:=ry; exact PySem.EqMixed.eq_int_str (bZ I q (by simp))
  | _=>exact absurd (show false=true from hs) Vm
 | str i =>
  obtain⟨t,rfl⟩:=rx
  cases y with
  | non=>cases ry; exact PySem.EqNone.eq_str_none (bZ I q (by simp))
  | bl j=>cases ry; exact PySem.EqMixed.eq_str_bool (bZ I q (by simp))
  | int j=>obtain⟨t',rfl⟩:=ry; exact PySem.EqMixed.eq_str_int (bZ I q (by simp))
  | str j=>obtain⟨t',rfl⟩:=ry; exact eq_str (bZ I q Hk)
  | _=>exact absurd (show false=true from hs) Vm
 | byt i =>
  obtain⟨t,rfl⟩:=rx
  cases y with
  | byt j=>obtain⟨t',rfl⟩:=ry; exact PySem.W.eq_bytes (bZ I q Jg)
  | _=>exact absurd (show false=true from hs) Vm
 | _=>cases y <;> exact absurd (show false=true from hs) Vm
theorem zL:OpR X (XQ .NotEq) rNe:=by
 intro pins s σ H x y v u Q I rx ry h
 obtain⟨hs,q⟩:=h
 cases x with
 | non =>
  cases rx
  cases y with
  | non=>cases ry; exact PySem.EqNone.ne_none_none (bZ I q (by simp))
  | bl j=>cases ry; exact PySem.EqNone.ne_none_bool (bZ I q (by simp))
  | int j=>obtain⟨t',rfl⟩:=ry; exact PySem.EqNone.ne_none_int (bZ I q (by simp))
  | str j=>obtain⟨t',rfl⟩:=ry; exact PySem.EqNone.ne_none_str (bZ I q (by simp))
  | _=>exact absurd (show false=true from hs) Vm
 | bl i =>
  cases rx
  cases y with
  | non=>cases ry; exact PySem.EqNone.ne_bool_none (bZ I q (by simp))
  | bl j=>cases ry; exact ne_bool (bZ I q (congrArg not Np))
  | str j=>obtain⟨t',rfl⟩:=ry; exact PySem.EqMixed.ne_bool_str (bZ I q (by simp))
  | _=>exact absurd (show false=true from hs) Vm
 | int i =>
  obtain⟨t,rfl⟩:=rx
  cases y with
  | non=>cases ry; exact PySem.EqNone.ne_int_none (bZ I q (by simp))
  | int j=>obtain⟨t',rfl⟩:=ry; exact ne_int (bZ I q (congrArg not Gr))
  | str j=>obtain⟨t',rfl⟩:=ry; exact PySem.EqMixed.ne_int_str (bZ I q (by simp))
  | _=>exact absurd (show false=true from hs) Vm
 | str i =>
  obtain⟨t,rfl⟩:=rx
  cases y with
  | non=>cases ry; exact PySem.EqNone.ne_str_none (bZ I q (by simp))
  | bl j=>cases ry; exact PySem.EqMixed.ne_str_bool (bZ I q (by simp))
  | int j=>obtain⟨t',rfl⟩:=ry; exact PySem.EqMixed.ne_str_int (bZ I q (by simp))
  | str j=>obtain⟨t',rfl⟩:=ry; exact ne_str (bZ I q (congrArg not Hk))
  | _=>exact absurd (show false=true from hs) Vm
 | byt i =>
  obtain⟨t,rfl⟩:=rx
  cases y with
  | byt j=>obtain⟨t',rfl⟩:=ry; exact PySem.W.ne_bytes (bZ I q (congrArg not Jg))
  | _=>exact absurd (show false=true from hs) Vm
 | _=>cases y <;> exact absurd (show false=true from hs) Vm
theorem CQ:OpR X (XQ .Lt) (rI0 fun i j=>.bl (decide (i < j))):=S8 fun _ _ _ _ _ _ _ q=>lt_int q
theorem Rr:OpR X (XQ .LtE) (rI0 fun i j=>.bl (decide (i<=j))):=S8 fun _ _ _ _ _ _ _ q=>le_int q
theorem zH:OpR X (XQ .Gt) (rI0 fun i j=>.bl (decide (j < i))):=S8 fun _ _ _ _ _ _ _ q=>gt_int q
theorem xG:OpR X (XQ .GtE) (rI0 fun i j=>.bl (decide (j<=i))):=S8 fun _ _ _ _ _ _ _ q=>ge_int q
theorem aU (b:Expr) {op:CmpOp} (h:op≠.In:=by decide) (h2:op≠.NotIn:=by decide):YZ op b=false:=by
 have e1:(op == CmpOp.In)=false:=by cases op <;> first | rfl | exact absurd rfl h
 have e2:(op == CmpOp.NotIn)=false:=by cases op <;> first | rfl | exact absurd rfl h2
 cases b <;> simp [YZ,e1,e2]
theorem cV {op:CmpOp} {r:R2} (ho:OpR X (XQ op) r) (ha:PE X a ta) (hb:PE X b tb) (hm:YZ op b=false):PE X (.Compare a [op] [b] pos) (tOp r ta tb):=by
 intro pins s σ H Q I h
 exact wpAny_Compare1 (TF ha hb I h fun v u s2 x y H2 I2 rx ry q=>ho pins s2 σ H2 x y v u Q I2 rx ry q) hm
def TJ (t:TE):TT:=fun σ H Q=>t σ H fun x H'=>ExB x fun k=>Q k H'
theorem aL {op:CmpOp} {r:R2} (ho:OpR X (XQ op) r) (ha:PE X a ta) (hb:PE X b tb) (hm:YZ op b=false):PT X (.Compare a [op] [b] pos) (TJ (tOp r ta tb)):=by
 intro pins s σ H Q I h
 refine wpAny_isTrue_Compare1 (thn (ha pins s σ H _ I h) fun v s1 ⟨x,H1,I1,r1,q1⟩=>thn (hb pins s1 σ H1 _ I1 q1) fun u s2 ⟨y,H2,I2,r2,q2⟩ =>
  thn (ho pins s2 σ H2 x y v u _ I2 r1 r2 q2) fun c s3 ⟨z,H3,I3,r3,k,e,q3⟩=>?_) hm
 subst e
 cases r3
 exact X6 ⟨H3,I3,q3⟩
theorem xH:(sizeLine:Nat) < 2 ^ 63:=by rw[Y8]; decide
theorem vals1 {x:V} {us:List Value} (r:Vals [x] us):∃ u,us=[u]/\RelV x u:=by
 cases r with
 | cons r1 r2=>cases r2; exact⟨_,rfl,r1⟩
theorem vals2 {x y:V} {us:List Value} (r:Vals [x,y] us):∃ u w',us=[u,w']/\RelV x u/\RelV y w':=by
 cases r with
 | cons r1 r2 =>
  cases r2 with
  | cons r3 r4=>cases r4; exact⟨_,_,rfl,r1,r3⟩
theorem kY:iQ X (.builtin "abs") (fun xs H Q=>∃ i,xs=[.int i]/\Q (.int (if i < 0 then -i else i)) H):=by
 intro pins s σ H xs us Q I r h
 obtain⟨i,rfl,q⟩:=h
 obtain⟨u,rfl,t,rfl⟩:=vals1 r
 exact call_abs_int fun u tk=>⟨.int (if i < 0 then -i else i),H,I.tok _,⟨_,rfl⟩,q⟩
theorem Iz (hc:X.calm=true):iQ X (.builtin "max") (fun xs H Q=>∃ i j,xs=[.int i,.int j]/\Q (.int (if j > i then j else i)) H):=by
 intro pins s σ H xs us Q I r h
 obtain⟨i,j,rfl,q⟩:=h
 obtain⟨u,w',rfl,⟨t,rfl⟩,⟨t',rfl⟩⟩:=vals2 r
 refine max_two_ints (I.ok.hd hc) fun h' tk k=>⟨_,H,I.kept k,?_,q⟩
 by_cases hj:j > i
 ·rw[if_pos hj,if_pos hj]; exact⟨_,rfl⟩
 ·rw[if_neg hj,if_neg hj]; exact⟨_,rfl⟩
theorem xK (hc:X.calm=true):iQ X (.builtin "min") (fun xs H Q=>∃ i j,xs=[.int i,.int j]/\Q (.int (if j < i then j else i)) H):=by
 intro pins s σ H xs us Q I r h
 obtain⟨i,j,rfl,q⟩:=h
 obtain⟨u,w',rfl,⟨t,rfl⟩,⟨t',rfl⟩⟩:=vals2 r
 refine min_two_ints (I.ok.hd hc) fun h' tk k=>⟨_,H,I.kept k,?_,q⟩
 by_cases hj:j < i
 ·rw[if_pos hj,if_pos hj]; exact⟨_,rfl⟩
 ·rw[if_neg hj,if_neg hj]; exact⟨_,rfl⟩
theorem IV:iQ X (.type "int") (fun xs H Q=>(∃ i,xs=[.int i]/\Q (.int i) H)∨∃ k,xs=[.bl k]/\Q (.int (if k then 1 else 0)) H):=by
 intro pins s σ H xs us Q I r h
 rcases h with⟨i,rfl,q⟩ | ⟨k,rfl,q⟩
 ·obtain⟨u,rfl,t,rfl⟩:=vals1 r
  exact call_int_int ⟨.int i,H,I,⟨_,rfl⟩,q⟩
 ·obtain⟨u,rfl,r1⟩:=vals1 r
  cases r1
  exact call_int_bool ⟨.int (if k then 1 else 0),H,I.tok _,⟨_,rfl⟩,q⟩
end
end L2
namespace L2
open PySem PySem.Spec PyProof.Rows
structure Ol (h:Wb) (x dx C:Addr) (mA:V9->Option Value):Prop where
 obj:h.get? x=some (Yp C dx)
 ns:h.Ns1 dx mA
 ne:dx≠x
theorem Hj {h:Wb} {dx:Addr} {mA:V9->Option Value} (n:h.Ns1 dx mA):∃ od,h.get? dx=some od/\∀ name,aa9 name od=some (mA name):=by
 obtain⟨o,es,ep,ho,hd,hk,_,hm⟩:=n
 refine⟨o,ho,fun name=>?_⟩
 have e:=hm name
 unfold nsFind findBy at e
 rw[← Array.find?_toList] at e
 unfold aa9
 rw[hd]
 dsimp only
 split
 ·rename_i y q
  rw[q] at e
  exact congrArg some e
 ·rename_i q
  rw[q] at e
  have a:es.toList.any (·.refKey)=false:=by
   rw[List.any_eq_false]
   intro y hy
   obtain⟨z,t,hkey⟩:=hk y (Array.mem_toList_iff.mp hy)
   simp [DictEntry.refKey,hkey]
  have a':¬ es.toList.any (·.refKey)=true:=by rw[a]; exact Vm
  rw[if_neg a']
  exact congrArg some e
theorem Ol.look {h:Wb} {x dx C:Addr} {mA:V9->Option Value} (I:Ol h x dx C mA):∃ od,PySem.W.InstAt h x (Yp C dx) C (some od)/\∀ name,aa9 name od=some (mA name) :=
 let ⟨od,ho,hl⟩:=Hj I.ns
 ⟨od,⟨I.obj,rfl,rfl,ho⟩,hl⟩
section
variable {prog:Vy} {w:V3} {A:V0} {E:Value->Vc->Prop} {s:Vc} {K:Vq} {x dx C f:Addr} {mA:V9->Option Value} {name:V9} {v:Value}
theorem get_map {expr:Bool} {Q:Value->Vc->Prop} (X:K.In s.heap) (I:Ol s.heap x dx C mA) (hg:ZW K C name=true) (hh:aay K C=true)
  (ha:Xp K (.ref C) name=some none) (hv:mA name=some v) (hv':PySem.W.handedIn v=true) (h:Q v { s with toks:=s.toks+1 }) :
  Vk (Vs prog w) A (getAttr (.ref x) name expr) Q E s:=by
 obtain⟨od,J,hl⟩:=I.look
 exact PySem.W.get_value X J (abl hg).1 (PySem.W.findObj_own hh ha rfl (by rw[hl,hv])) hv' h
theorem Ly {pl:Sem Bool} {Q:Value × List Value->Vc->Prop} (X:K.In s.heap) (I:Ol s.heap x dx C mA) (hg:ZW K C name=true)
  (hf:Xp K (.ref C) name=some (some (.ref f))) (ht:abK K (.ref f)=true) (hv:mA name=none) (h:Q (.ref f,[.ref x]) s) :
  Vk (Vs prog w) A (abf (.ref x) name pl) Q E s:=by
 obtain⟨od,J,hl⟩:=I.look
 exact PySem.W.method_fn X J (abl hg).1 (abl hg).2 hf (beq_iff_eq.mp ht) (by show (aa9 name od).map (·.isSome)=some false; rw[hl,hv]; rfl) h
theorem Ow {ns:List V9} {Q:Unit->Vc->Prop} (X:K.In s.heap) (I:Ol s.heap x dx C mA)
  (hs:Xp K (.ref C) "__setattr__" = some (some (.builtin "object.__setattr__"))) (hp:abI K C=true) (ht:aci K C name=some none) (hh:aay K C=true)
  (hw:PySem.Within mA ns) (hsz:ns.length<=sizeLine)
  (h:∀ h',Ol h' x dx C (fun y=>if y=name then some v else mA y)->Xu dx s.heap h'->Q () { s with heap:=h',toks:=s.toks+2 }) :
  Vk (Vs prog w) A (setAttr (.ref x) name v) Q E s:=by
 obtain⟨od,J,hl⟩:=I.look
 refine PySem.W.set_plain X J hs (PySem.W.osa_open (s:={ s with toks:=s.toks+1 }) (r:=none) X J hp ht fun b=>?_)
 obtain⟨cd,hc,hd'⟩:=PySem.W.any_some hh
 have hx:s.heap.get? x=some ⟨.ref C,some dx,.plain,#[]⟩:=I.obj
 refine U9 (Vd (U9 (U9 (wpAny_loadPart hx (U9 (PySem.W.Looks.here (s:={ s with toks:=s.toks+1 }) (PySem.W.looks_clsIn X hc) ?_))))))
 rw[hd']
 refine Vd (a:=some dx) (U9 (Vd (U9 ?_)))
 refine wpAny_nsSet1 (s:={ s with toks:=s.toks+1 }) I.ns fun h' hn2 hs2=>?_
 obtain⟨oD,esD,epD,hoD,hdD,hcD⟩:=hn2.count (PySem.Within.cons name v hw)
 refine U9 (wpAny_lookBehind hoD (by rw[hdD]; exact pastItsLine_dict (V2 hcD (by rw[Vr]; lia))) ?_)
 exact Vd (h _ ⟨(hs2.2 _ (Yv I.ne)).trans I.obj,hn2,I.ne⟩ hs2)
theorem KC {R:aa8->Vc->Prop} {vs:List Value} {kw:List (V9 × Value)} (X:K.In s.heap) (hm:acj K C=true)
  (hi:Xp K (.ref C) "__init__" = some (some (.ref f))) (hf:PySem.W.typeIn K (.ref f)=some (.type "function"))
  (h:Xk (Vs prog w) (A.under (.builtin "type.__call__" ⟨.ref C::vs,kw⟩)) (.call (.ref f) ⟨.ref (s.heap.objs.size+1)::vs,kw⟩) (PySem.W.InitBack (s.heap.objs.size+1) R)
   {s with heap:=(s.heap.push XF).push (Yp C s.heap.objs.size) }) :
  Xk (Vs prog w) A (.call (.ref C) ⟨vs,kw⟩) R s:=by
 obtain⟨hh,g,d,t,os⟩:=s
 exact PySem.W.make_core (PySem.W.makes_of X hm) (PySem.W.looks_findIn X hi) (fun self=>PySem.W.bind_fn X self hf) (.inl rfl) h
end
def rZ (f:V9) (v:V):List (V9 × V)->List (V9 × V)
 | []=>[(f,v)]
 | (g,x)::r=>if g=f then (g,v)::r else (g,x)::rZ f v r
theorem pC (f g:V9) (v:V):∀ fs:List (V9 × V),(rZ f v fs).lookup g=if g=f then some v else fs.lookup g
 | []=>by
  show Z7 g [(f,v)]=_
  by_cases h:g=f
  ·have hb:(g == f)=true:=beq_iff_eq.mpr h
   simp only[Z7,hb,if_pos h]
  ·have hb:(g == f)=false:=beq_eq_false_iff_ne.mpr h
   simp only[Z7,hb,if_neg h]
 | (k,x)::r=>by
  have ih:=pC f g v r
  rw[show rZ f v ((k,x)::r)=(if k=f then (k,v)::r else (k,x)::rZ f v r) from rfl]
  by_cases hk:k=f
  ·rw[if_pos hk]
   by_cases h:g=k
   ·have hb:(g == k)=true:=beq_iff_eq.mpr h
    simp only[Z7,hb,if_pos (h.trans hk)]
   ·have hb:(g == k)=false:=beq_eq_false_iff_ne.mpr h
    simp only[Z7,hb,if_neg (fun e:g=f=>h (e.trans hk.symm))]
  ·rw[if_neg hk]
   by_cases h:g=k
   ·have hb:(g == k)=true:=beq_iff_eq.mpr h
    simp only[Z7,hb,if_neg (fun e:g=f=>hk (h.symm.trans e))]
   ·have hb:(g == k)=false:=beq_eq_false_iff_ne.mpr h
    simp only[Z7,hb]
    exact ih
theorem pM (f:V9) (v:V):∀ fs:List (V9 × V),f∈(rZ f v fs).map (·.1)/\∀ g,g∈fs.map (·.1)->g∈(rZ f v fs).map (·.1)
 | []=>⟨by simp [rZ],fun g h=>by simp at h⟩
 | (k,x)::r=>by
  obtain⟨i1,i2⟩:=pM f v r
  rw[show rZ f v ((k,x)::r)=(if k=f then (k,v)::r else (k,x)::rZ f v r) from rfl]
  by_cases hk:k=f
  ·rw[if_pos hk]
   subst hk
   exact⟨by simp,fun g h=>by simpa using h⟩
  ·rw[if_neg hk]
   refine⟨?_,fun g h=>?_⟩
   ·rw[Wa]
    exact Vp _ i1
   ·rw[Wa] at h ⊢
    rcases List.mem_cons.mp h with e | e
    ·exact List.mem_cons.mpr (.inl e)
    ·exact Vp _ (i2 g e)
theorem pG (f:V9) (v:V):∀ fs:List (V9 × V),(rZ f v fs).length<=fs.length+1
 | []=>by simp [rZ]
 | (k,x)::r=>by
  have ih:=pG f v r
  rw[show rZ f v ((k,x)::r)=(if k=f then (k,v)::r else (k,x)::rZ f v r) from rfl]
  by_cases hk:k=f
  ·rw[if_pos hk,Vr,Vr]; lia
  ·rw[if_neg hk,Vr,Vr]; lia
theorem xW.some_of {v:V} {o:Option Value} (r:xW (some v) o):∃ u,o=some u/\RelV v u:=by
 cases o with
 | none=>exact (show False from r).elim
 | some u=>exact⟨u,rfl,r⟩
theorem xW.none_of {o:Option Value} (r:xW none o):o=none:=by
 cases o with
 | none=>rfl
 | some u=>exact (show False from r).elim
theorem G5 {v:V} {u:Value} (r:RelV v u):PySem.W.handedIn u=true:=by
 cases v with
 | non=>cases (show u=We from r); rfl
 | bl b=>cases (show u=abv b from r); rfl
 | int i=>obtain⟨t,e⟩:=(show ∃ t,u=Yo i t from r); cases e; rfl
 | str x=>obtain⟨t,e⟩:=(show ∃ t,u=ab1 x t from r); cases e; rfl
 | byt b=>obtain⟨t,e⟩:=(show ∃ t,u=Value.bytes b t from r); cases e; rfl
 | flt b=>obtain⟨t,e⟩:=(show ∃ t,u=Value.float b t from r); cases e; rfl
 | ref a=>cases (show u=V4 a from r); rfl
 | ty n=>cases (show u=Yh n from r); rfl
section
variable {P:Vy} {w:V3} {H H':Hp} {h h':Wb} {a C dx:Addr} {fs fs':List (V9 × V)}
theorem uU (hok:HOk P w H h) (e:H a=some (.ins C dx fs)):∃ mA,Ol h a dx C mA/\(∀ f,xW (fs.lookup f) (mA f))/\PySem.Within mA (fs.map (·.1))/\fs.length<=1000/\H dx=some (.own a):=by
 obtain⟨d,z,ne,ob,mA,n,r,q⟩:=(show eO P w H h a (.ins C dx fs) from hok a _ e)
 exact⟨mA,⟨ob,n,ne⟩,r,q,z,d⟩
end
structure Cls (K:Vq) (C:Addr):Prop where
 pg:ZW K C Str.empty=true
 hd:aay K C=true
 po:abI K C=true
 sa:Xp K (.ref C) "__setattr__" = some (some (.builtin "object.__setattr__"))
theorem Cls.get {K:Vq} {C:Addr} (c:Cls K C) (f:V9):ZW K C f=true:=c.pg
def ig (K:Vq) (C:Addr) (f:V9):Prop:=Xp K (.ref C) f=some none
theorem ig.taker {K:Vq} {C:Addr} {f:V9} (n:ig K C f):aci K C f=some none:=by
 unfold aci
 rw[show Xp K (.ref C) f=some none from n]
 rfl
structure Meth (K:Vq) (C:Addr) (m:V9) (f:Addr):Prop where
 at_:Xp K (.ref C) m=some (some (.ref f))
 fn:abK K (.ref f)=true
 kp:Yi K (.ref f)=true
section
variable {X:Cx} {pins:List (Addr × Yb)} {σ:St} {H:Hp} {s:Vc} {a C dx:Addr} {fs:List (V9 × V)} {f:V9} {v:V} {A:V0} {E:Value->Vc->Prop}
theorem Dv {b:Bool} {Q:Value->Vc->Prop} (I:Inv X pins σ H s) (e:H a=some (.ins C dx fs)) (c:Cls X.K C) (n:ig X.K C f) (l:fs.lookup f=some v)
  (h:∀ u s',Inv X pins σ H s'->RelV v u->Q u s'):Vk (Vs X.prog X.w) A (getAttr (.ref a) f b) Q E s:=by
 obtain⟨mA,O,r,_,_,_⟩:=uU I.hok e
 obtain⟨u,hu,ru⟩:=xW.some_of (v:=v) (o:=mA f) (by rw[← l]; exact r f)
 exact get_map I.kIn O (c.get f) c.hd n hu (G5 ru) (h u _ (I.tok _) ru)
theorem sY {m:V9} {g:Addr} {pl:Sem Bool} {Q:Value × List Value->Vc->Prop} (I:Inv X pins σ H s) (e:H a=some (.ins C dx fs)) (c:Cls X.K C) (k:Meth X.K C m g) (l:fs.lookup m=none)
  (h:Q (.ref g,[.ref a]) s):Vk (Vs X.prog X.w) A (abf (.ref a) m pl) Q E s:=by
 obtain⟨mA,O,r,_,_,_⟩:=uU I.hok e
 have hn:mA m=none:=xW.none_of (by rw[← l]; exact r m)
 exact Ly I.kIn O (c.get m) k.at_ k.fn hn h
theorem Ej {y:V} {u:Value} {Q:Unit->Vc->Prop} (I:Inv X pins σ H s) (e:H a=some (.ins C dx fs)) (c:Cls X.K C) (n:ig X.K C f) (hl:fs.length < 1000) (ry:RelV y u)
  (h:∀ s',Inv X pins σ (upd H a (.ins C dx (rZ f y fs))) s'->Q () s'):Vk (Vs X.prog X.w) A (setAttr (.ref a) f u) Q E s:=by
 obtain⟨mA,O,r,wi,_,ho⟩:=uU I.hok e
 have hz:(fs.map (·.1)).length<=sizeLine:=by rw[Vb,Y8]; lia
 refine Ow I.kIn O c.sa c.po n.taker c.hd wi hz fun h' O' sb=>h _ ?_
 have hd:∃ o,h'.get? dx=some o:=let ⟨o,_,_,e',_⟩:=O'.ns; ⟨o,e'⟩
 refine I.write (x:=a) (e:=dx) (by rw[e]; exact Yt) (.inr ho) (fun b q hb z=>(sb.2 b hb).trans z) hd ?_
 refine⟨by rw[bh O.ne]; exact ho,?_,O.ne,O'.obj,_,O'.ns,fun g=>?_,fun g hg=>?_⟩
 ·have:=pG f y fs; lia
 ·show xW ((rZ f y fs).lookup g) (if g=f then some u else mA g)
  rw[pC]
  by_cases q:g=f
  ·rw[if_pos q,if_pos q]; exact ry
  ·rw[if_neg q,if_neg q]; exact r g
 ·by_cases q:g=f
  ·rw[q]; exact (pM f y fs).1
  ·refine (pM f y fs).2 g (wi g fun z=>hg ?_)
   show (if g=f then some u else mA g)=none
   rw[if_neg q]; exact z
theorem Inv.made (I:Inv X pins σ H s):Inv X pins σ (upd (upd H s.heap.objs.size (.own (s.heap.objs.size+1))) (s.heap.objs.size+1) (.ins C s.heap.objs.size []))
  {s with heap:=(s.heap.push XF).push (Yp C s.heap.objs.size) }:=by
 have e1:(s.heap.push XF).get? s.heap.objs.size=some XF:=Vh s.heap rfl
 have e2:((s.heap.push XF).push (Yp C s.heap.objs.size)).get? (s.heap.objs.size+1)=some (Yp C s.heap.objs.size):=by
  have:=Vh (s.heap.push XF) (o:=Yp C s.heap.objs.size) rfl
  rwa [V7] at this
 have e3:(s.heap.push XF).Ns s.heap.objs.size (fun _=>none):=⟨XF,#[],_,e1,rfl,(fun e he=>absurd he (by simp)),fun _=>rfl⟩
 have I1:=I.laid (a:=s.heap.objs.size) (o:=.own (s.heap.objs.size+1)) (h':=s.heap.push XF) (t':=s.toks) (fun b u q=>Va _ q) (Vg _) ⟨_,e1⟩
 refine I1.laid (a:=s.heap.objs.size+1) (o:=.ins C s.heap.objs.size []) (t':=s.toks) (fun b u q=>Va _ q) (Nat.le_of_eq (V7 _ _)) ?_
 have ne:s.heap.objs.size≠s.heap.objs.size+1:=Vx (Xb _)
 refine⟨by rw[bh ne,aq],VL _,ne,e2,fun _=>none,(Heap.Ns1.of_empty e3).at fun o q=>Va _ q,fun _=>Yt,fun y hy=>absurd rfl hy⟩
theorem Qj {prog:Vy} {w:V3} {env:Env} {e:Expr} {f:V9} {pos:Zf} {s:Vc} {Q:Value->Vc->Prop} (hb:aaD e f env (Xn e env)=Xn e env)
  (h:Vk (Vs prog w) A (Xn e env) (fun o s₁=>Vk (Vs prog w) A (getAttr o f true) Q E s₁) E s):Vk (Vs prog w) A (Xn (.Attribute e f pos) env) Q E s :=
 Attribute_any_ h (by rw[arm_eval_Attribute,hb])
end
def Ua (K:Vq) (ta:TE) (f:V9):TE:=fun σ H Q=>ta σ H fun x H1=>∃ a C dx fs v,x = .ref a/\H1 a=some (.ins C dx fs)/\Cls K C/\ig K C f/\fs.lookup f=some v/\Q v H1
def Us (K:Vq) (ta tv:TE) (f:V9):TS:=fun D σ H=>tv σ H fun y H1=>ta σ H1 fun x H2=>∃ a C dx fs,x = .ref a/\H2 a=some (.ins C dx fs)/\Cls K C/\ig K C f/\fs.length < 1000 ∧
 D.nx σ (upd H2 a (.ins C dx (rZ f y fs)))
section
variable {X:Cx} {o e value:Expr} {f:V9} {pos pos' tpos:Zf} {ta tv:TE}
theorem SJ (he:PE X e ta) (hb:aaD e f X.env (Xn e X.env)=Xn e X.env):PE X (.Attribute e f pos) (Ua X.K ta f):=by
 intro pins s σ H Q I h
 refine Qj hb (thn (he pins s σ H _ I h) fun u s1 ⟨x,H1,I1,rx,a,C,dx,fs,v,ex,ea,c,n,l,q⟩=>?_)
 subst ex
 obtain rfl:u=V4 a:=rx
 exact Dv I1 ea c n l fun u' s2 I2 ru=>⟨v,H1,I2,ru,q⟩
theorem lK (ha:PE X o ta) (hv:PE X value tv) (hs:abW value (some (.Attribute o f pos')) pos.line X.env=pure false):PS X (.Assign [.Attribute o f pos'] value pos) (Us X.K ta tv f):=by
 intro pins s σ H D I h
 refine plainObj_wpAny_Assign_Attribute (thn (hv pins s σ H _ I h) fun u s1 ⟨y,H1,I1,ry,q⟩=>thn (ha pins s1 σ H1 _ I1 q) fun ov s2 ⟨x,H2,I2,rx,a,C,dx,fs,ex,ea,c,n,l,q2⟩=>?_) hs
 subst ex
 obtain rfl:ov=V4 a:=rx
 exact Ej I2 ea c n l ry fun s3 I3=>⟨σ,_,I3,q2⟩
end
section
variable {X:Cx} {pins:List (Addr × Yb)} {σ:St} {H:Hp} {s:Vc} {A:V0} {E:Value->Vc->Prop} {Q:Value->Vc->Prop} {c:Value} {b:Bool}
inductive CW (K:Vq) (H:Hp):V->Value->Prop where
 | non:CW K H .non (.type "NoneType")
 | bl (x:Bool):CW K H (.bl x) (.type "bool")
 | int (i:Int):CW K H (.int i) (.type "int")
 | str (x:V9):CW K H (.str x) (.type "str")
 | flt (x:UInt64):CW K H (.flt x) (.type "float")
 | lst {a:Addr} {xs:List V} (e:H a=some (.lst xs)):CW K H (.ref a) (.type "list")
 | frz {a:Addr} {o:Yb} {xs:List V} (e:H a=some (.frz o (.lst xs))):CW K H (.ref a) (.type "list")
 | tup {a:Addr} {xs:List V} (e:H a=some (.tup xs)):CW K H (.ref a) (.type "tuple")
 | dK {a:Addr} {kvs:List (Key × V)} (e:H a=some (.dK kvs)):CW K H (.ref a) (.type "dict")
 | dT {a:Addr} {kvs:List (List Key × V)} (e:H a=some (.dT kvs)):CW K H (.ref a) (.type "dict")
 | ins {a C dx:Addr} {fs:List (V9 × V)} (e:H a=some (.ins C dx fs)) (cl:Cls K C) (ha:Xp K (.ref C) "__class__" = some (some (.builtin "object.__class__")))
   (hn:PySem.W.specialIn K (.builtin "object.__class__") "__get__" = some (some (.builtin "getset_descriptor.__get__"))) (htk:PySem.W.takesIn K (.builtin "object.__class__")=some true)
   (hm:PySem.W.mroIn K C (.type "object")=some true):CW K H (.ref a) (.ref C)
theorem Gy {x:V} {u t:Value} (I:Inv X pins σ H s) (rx:RelV x u) (ty:CW X.K H x t) (e:PySem.W.kitOne X.K t c=some b) (h:∀ tk,Q (.bool b) { s with toks:=tk }) :
  Vk (Vs X.prog X.w) A (call (.builtin "isinstance") [u,c]) Q E s:=by
 cases ty with
 | non=>cases (show u=We from rx); exact Xr PySem.W.kitx_none I.kIn Yt e (fun z=>nomatch z) h
 | bl y=>cases (show u=abv y from rx); exact Xr PySem.W.kitx_bool I.kIn Yt e (fun z=>nomatch z) h
 | int i=>obtain⟨t,q⟩:=(show ∃ t,u=Yo i t from rx); cases q; exact Xr PySem.W.kitx_int I.kIn Yt e (fun z=>nomatch z) h
 | str y=>obtain⟨t,q⟩:=(show ∃ t,u=ab1 y t from rx); cases q; exact Xr PySem.W.kitx_str I.kIn Yt e (fun z=>nomatch z) h
 | flt y=>obtain⟨t,q⟩:=(show ∃ t,u=Value.float y t from rx); cases q; exact Xr PySem.W.kitx_float I.kIn Yt e (fun z=>nomatch z) h
 | @lst a xs ea =>
  cases (show u=V4 a from rx)
  obtain⟨_,_,n,_,h1⟩:=(show eO X.prog X.w H s.heap a (.lst xs) from I.hok a _ ea)
  exact Xr PySem.W.kitx_list I.kIn ⟨_,h1,rfl⟩ e (fun z=>nomatch z) h
 | @frz a ob xs ea =>
  cases (show u=V4 a from rx)
  obtain⟨_,_,_,n,_,h1⟩:=(show eO X.prog X.w H s.heap a (.frz ob (.lst xs)) from I.hok a _ ea)
  exact Xr PySem.W.kitx_list I.kIn ⟨_,h1,rfl⟩ e (fun z=>nomatch z) h
 | @tup a xs ea =>
  cases (show u=V4 a from rx)
  obtain⟨_,_,_,p⟩:=(show eO X.prog X.w H s.heap a (.tup xs) from I.hok a _ ea)
  obtain⟨o,h1,h2,_⟩:=p
  exact Xr PySem.W.kitx_tuple I.kIn ⟨o,h1,h2⟩ e (fun z=>nomatch z) h
 | @dK a kvs ea =>
  cases (show u=V4 a from rx)
  obtain⟨_,_,vs,_,p⟩:=(show eO X.prog X.w H s.heap a (.dK kvs) from I.hok a _ ea)
  obtain⟨o,es,ep,h1,h2,_⟩:=p
  exact Xr PySem.W.kitx_dict I.kIn ⟨o,h1,h2.1⟩ e (fun z=>nomatch z) h
 | @dT a kvs ea =>
  cases (show u=V4 a from rx)
  obtain⟨_,_,xs,_,o,es,ep,h1,h2,_⟩:=(show eO X.prog X.w H s.heap a (.dT kvs) from I.hok a _ ea)
  exact Xr PySem.W.kitx_dict I.kIn ⟨o,h1,h2.1⟩ e (fun z=>nomatch z) h
 | @ins a C dx fs ea cl ha hn htk hm =>
  cases (show u=V4 a from rx)
  obtain⟨mA,O,_⟩:=uU I.hok ea
  obtain⟨od,J,_⟩:=O.look
  exact Xr (PySem.W.kitx_own (cl.get _) cl.hd ha hn htk hm) I.kIn J e (fun z=>nomatch z) h
end
end L2
namespace L2
open PySem PySem.Spec PyProof.Rows
structure jH (k:Nat) (A:V0):Prop where
 hd:A.handled=none
 dp:A.depth+3 * k+5 < recursionLimit
 un:A.units+16 * k+200 < cLine
theorem jH.mono {j k:Nat} {A:V0} (r:jH k A) (h:j<=k):jH j A:=⟨r.hd,by have:=r.dp; lia,by have:=r.un; lia⟩
theorem jH.deeper {k:Nat} {A:V0} (r:jH (k+1) A) (env:Env):jH k (A.deeper env) :=
 ⟨r.hd,by have:=r.dp; show A.depth+1+3 * k+5 < _; lia,by have:=r.un; show A.units+3+16 * k+200 < _; lia⟩
theorem Dy {A:V0} {C:Addr} {us:List Value} {kw:List (V9 × Value)}:(A.under (.builtin "type.__call__" ⟨.ref C::us,kw⟩)).depth=A.depth+1:=by
 first | rfl | simp [Around.under,Code.weight,Code.isCreation,Code.isGuard,Code.isCaller,Code.frames,Code.isFrame,guardIds]
theorem Dk {A:V0} {C:Addr} {us:List Value} {kw:List (V9 × Value)}:(A.under (.builtin "type.__call__" ⟨.ref C::us,kw⟩)).units=A.units+1:=by
 first | rfl | simp [Around.under,Code.cUnits,Code.frames,Code.isFrame]
theorem jH.make {k:Nat} {A:V0} (r:jH (k+1) A) (C:Addr) (us:List Value) (kw:List (V9 × Value)):jH k (A.under (.builtin "type.__call__" ⟨.ref C::us,kw⟩)) :=
 ⟨r.hd,by have:=r.dp; rw[Dy]; lia,by have:=r.un; rw[Dk]; lia⟩
theorem jH.depth {k:Nat} {A:V0} (r:jH k A):A.depth < recursionLimit:=by have:=r.dp; lia
theorem jH.oK {k:Nat} {A:V0} (r:jH k A):A.units < cLine:=by have:=r.un; lia
def CT:TA:=fun _ H Q=>Q [] H
def QW (ta:TE) (tr:TA):TA:=fun σ H Q=>ta σ H fun x H1=>tr σ H1 fun xs H2=>Q (x::xs) H2
section
variable {X:Cx} {e:Expr} {es:List Expr} {te:TE} {t:TA} {pos:Zf}
theorem aj:PA X [] CT:=fun _ _ _ _ H Q I h=>abR ⟨[],H,I,.nil,h⟩
theorem aa (ha:PE X e te) (hr:PA X es t) (hs:VN (e::es) X.env=(false,Xn e X.env)::VN es X.env:=by rfl):PA X (e::es) (QW te t):=by
 intro pos pins s σ H Q I h
 rw[hs]
 show Vk _ _ (acp ((false,Xn e X.env)::Yc pos (VN es X.env))) _ _ s
 refine abz (thn (ha pins s σ H _ I h) fun u s1 ⟨x,H1,I1,r1,q1⟩=>?_)
 exact thn (hr pos pins s1 σ H1 _ I1 q1) fun us s2 ⟨xs,H2,I2,r2,q2⟩=>⟨x::xs,H2,I2,.cons r1 r2,q2⟩
def UL (t:TA):TE:=fun σ H Q=>t σ H fun xs H1=>xs.length<=sizeLine/\∀ p,H1 p=none->Q (.ref p) (upd H1 p (.tup xs))
def Ux (t:TA):TE:=fun σ H Q=>t σ H fun xs H1=>xs.length<=sizeLine/\∀ p,H1 p=none->Q (.ref p) (upd H1 p (.lst xs))
theorem bU {x1} (h:PA X es t):PE X (.Tuple es x1 pos) (UL t):=by
 intro pins s σ H Q I hq
 refine wpAny_Tuple_spliced (thn (h pos pins s σ H _ I hq) fun us s1 ⟨xs,H1,I1,r,z,q⟩=>⟨by rw[← r.length]; exact z,?_⟩)
 have hf:H1 s1.heap.objs.size=none:=I1.hok.fresh (Vg _)
 refine⟨.ref s1.heap.objs.size,upd H1 s1.heap.objs.size (.tup xs),I1.laid (t':=s1.toks) (fun b u e=>Va _ e) (Vg _) ?_,rfl,q _ hf⟩
 exact⟨z,us,r,⟨_,Vh _ rfl,rfl,_,rfl⟩⟩
theorem bR (h:PA X es t):PE X (.List es pos) (Ux t):=by
 intro pins s σ H Q I hq
 refine wpAny_List_spliced (thn (h pos pins s σ H _ I hq) fun us s1 ⟨xs,H1,I1,r,z,q⟩=>⟨by rw[← r.length]; exact z,?_⟩)
 have hf:H1 s1.heap.objs.size=none:=I1.hok.fresh (Vg _)
 refine⟨.ref s1.heap.objs.size,upd H1 s1.heap.objs.size (.lst xs),I1.laid (t':=s1.toks) (fun b u e=>Va _ e) (Vg _) ?_,rfl,q _ hf⟩
 exact⟨z,us,0,r,Vh _ rfl⟩
end
abbrev Sp:=List V->Hp->VK->XK->Prop
abbrev CXT:=List Env->Hp->Vc->XK->Value->Vc->Prop
structure Pg (P:Vy) (w:V3) (K:Vq) (mg:V9->Option Value) (base:Wb) (A:V0) (outer:List Env) (s:Vc) (H:Hp):Prop where
 frames:A.frames=some outer
 mod:Mod K mg base
 bs:∀ b o,base.get? b=some o->s.heap.get? b=some o/\H b=none
 bsz:base.objs.size<=s.heap.objs.size
 Eo:s.heap.FunFrames base outer
 frf:∀ b∈frs outer,H b=none
 hok:HOk P w H s.heap
 bare:aaV s.gens
def CE (outer:List Env) (P:Vy) (w:V3) (H:Hp) (s:Vc) (Q:VK) (u:Value) (s':Vc):Prop :=
 ∃ v H',s'.os=s.os/\aaV s'.gens/\Un (frs outer) [] H H' s.heap s'.heap/\HOk P w H' s'.heap/\RelV v u/\Q v H'
def CR (CX:CXT) (outer:List Env) (P:Vy) (w:V3) (H:Hp) (s:Vc) (Q:VK) (E:XK) (r:aa8) (s':Vc):Prop :=
 match r with
 | .ok (.ret u)=>CE outer P w H s Q u s'
 | .ok _=>False
 | .error e=>CX outer H s E e s'
structure cG (P:Vy) (w:V3) (K:Vq) (mg:V9->Option Value) (base:Wb) (CX:CXT) (k:Nat) (f:Addr) (fd:X5) (ps:List V9) (sp:Sp):Prop where
 len:∀ vs H Q E,sp vs H Q E->vs.length=ps.length
 run:∀ (A:V0) (outer:List Env) (s:Vc) (H:Hp) (args:Args) (us:List Value) (vs:List V) (Q:VK) (E:XK),jH k A->Pg P w K mg base A outer s H->abk s fd args (ps.zip us)->Vals vs us->sp vs H Q E →
  Xk (Vs P w) A (.call (.ref f) args) (CR CX outer P w H s Q E) s
theorem Pg.make {P:Vy} {w:V3} {K:Vq} {mg:V9->Option Value} {base:Wb} {A:V0} {outer:List Env} {s:Vc} {H:Hp} (e:Pg P w K mg base A outer s H) (C:Addr) (us:List Value) (kw:List (V9 × Value)) :
  Pg P w K mg base (A.under (.builtin "type.__call__" ⟨.ref C::us,kw⟩)) outer s H:=⟨by first | exact e.frames | (simpa [Around.under,Code.envs,Code.isFrame,pushEnvs] using e.frames),e.mod,e.bs,e.bsz,e.Eo,e.frf,e.hok,e.bare⟩
section
variable {X:Cx} {pins:List (Addr × Yb)} {σ:St} {H:Hp} {s s':Vc}
theorem Inv.env0 (I:Inv X pins σ H s):Pg X.prog X.w X.K X.mg X.base X.A X.stack s H :=
 ⟨I.ok.frames,I.ok.mod,I.bs,V2 I.ok.bsz I.sz,I.stack,I.zu,I.hok,I.bare⟩
theorem Inv.after {Q:VK} {u:Value} (I:Inv X pins σ H s) (h:CE X.stack X.prog X.w H s Q u s'):EP X pins σ Q u s':=by
 obtain⟨v,H',os,bare,un,hok,r,q⟩:=h
 obtain⟨hh,g,d,t,os'⟩:=s'
 obtain rfl:os'=s.os:=os
 exact⟨v,H',I.call (h':=hh) (g':=g) (d':=d) (t':=t) (ch:=[]) un hok bare (fun b z=>absurd z (by simp)),r,q⟩
end
def NZ (sp:Sp) (dvs:List V) (E:XK) (t:TA):TE:=fun σ H Q=>t σ H fun vs H1=>sp (vs++dvs) H1 Q E
def Kf (C:Addr) (m:V9) (sp:Sp) (dvs:List V) (E:XK) (ta:TE) (t:TA):TE:=fun σ H Q=>ta σ H fun x H1=>∃ a dx fs,x = .ref a/\H1 a=some (.ins C dx fs)/\fs.lookup m=none ∧
 t σ H1 fun vs H2=>sp (x::(vs++dvs)) H2 Q E
def Kw (C:Addr) (sp:Sp) (dvs:List V) (E:XK) (t:TA):TE:=fun σ H Q=>t σ H fun vs H1=>∀ x dx,H1 x=none->H1 dx=none->dx≠x →
 sp (.ref x::(vs++dvs)) (upd (upd H1 dx (.own x)) x (.ins C dx [])) (fun v H2=>v = .non/\Q (.ref x) H2) E
def Binds (K:Vq) (fd:X5) (ps:List V9) (ds:List Value):Prop :=
 ∀ (s:Vc) (us:List Value),K.In s.heap->(us++ds).length=ps.length->abk s fd ⟨us,[]⟩ (ps.zip (us++ds))
theorem Binds.all {K:Vq} {fd:X5} {ps:List V9} (h:∀ us:List Value,us.length=ps.length->aa5 fd ⟨us,[]⟩=pure (ps.zip us)):Binds K fd ps []:=fun s us _ hl=>by
 rw[WK] at hl ⊢
 exact .of_eq (h us hl)
def Passes (CX:CXT) (X:Cx) (E:XK):Prop:=∀ (pins:List (Addr × Yb)) (σ:St) (H:Hp) (s:Vc) (e:Value) (s':Vc),Inv X pins σ H s->CX X.stack H s E e s'->X.xe e s'
section
variable {X:Cx} {CX:CXT} {k:Nat} {f C:Addr} {fd:X5} {ps:List V9} {sp:Sp} {dvs:List V} {ds:List Value} {E:XK} {x m:V9} {p pos apos:Zf} {e o:Expr} {es:List Expr} {ta:TE} {t:TA}
theorem Ja {pins:List (Addr × Yb)} {σ:St} {H:Hp} {s:Vc} {Q:VK} {us:List Value} {vs:List V} (F:cG X.prog X.w X.K X.mg X.base CX k f fd ps sp) (hr:jH k X.A) (hb:Binds X.K fd ps ds) (hd:Vals dvs ds) (hx:Passes CX X E)
  (I:Inv X pins σ H s) (r:Vals vs us) (h:sp (vs++dvs) H Q E):Vk (Vs X.prog X.w) X.A (call (.ref f) us) (EP X pins σ Q) X.xe s:=by
 have r2:Vals (vs++dvs) (us++ds):=r.append hd
 have hl:(us++ds).length=ps.length:=by rw[← r2.length]; exact F.len _ _ _ _ h
 refine wpAny_call (ZJ (F.run X.A X.stack s H ⟨us,[]⟩ (us++ds) (vs++dvs) Q E hr I.env0 (hb s us I.kIn hl) r2 h) fun r s' hq=>?_)
 cases r with
 | error e=>exact hx pins σ H s e s' I hq
 | ok fl =>
  cases fl with
  | ret u=>exact I.after hq
  | next=>exact Yl hq
  | brk=>exact Yl hq
  | cont=>exact Yl hq
theorem Oh (F:cG X.prog X.w X.K X.mg X.base CX k f fd ps sp) (hr:jH k X.A) (hg:Gl X x) (hm:X.mg x=some (.ref f)) (hk:Yi X.K (.ref f)=true) (hb:Binds X.K fd ps ds) (hd:Vals dvs ds) (hx:Passes CX X E)
  (ha:PA X (e::es) t) (hdb:(x == ("__debug__" : V9))=false:=by decide) (he:VN (e::es) X.env=(false,Xn e X.env)::VN es X.env:=by rfl) (hpl:(Yc pos (VN es X.env)).any (·.1)=false:=by rfl) :
  PE X (.Call (.Name x p) (e::es) [] pos) (NZ sp dvs E t):=by
 intro pins s σ H Q I h
 refine Xl (uV I hg hm ?_ hdb)
 refine abx (h₀:=X.base) I.ok.mod.kin hk (thn (ha pos pins s σ H _ I h) fun us s1 ⟨vs,H1,I1,r,q⟩=>⟨I1.kIn,?_⟩) he hpl
 exact Ja F hr hb hd hx I1 r q
theorem PQ {pl:Sem Bool} (he:PE X o ta) (c:Cls X.K C) (hm:Meth X.K C m f) (F:cG X.prog X.w X.K X.mg X.base CX k f fd ps sp) (hr:jH k X.A) (hb:Binds X.K fd ps ds) (hd:Vals dvs ds) (hx:Passes CX X E) (ha:PA X (e::es) t)
  (hst:VN (e::es) X.env=(false,Xn e X.env)::VN es X.env:=by rfl) (hpl:(Yc pos (VN es X.env)).any (·.1)=false:=by rfl)
  (ht:Xn (.Call (.Attribute o m apos) (e::es) [] pos) X.env=(do
   let ov ← Xn o X.env
   aaw apos.atName
   let (f,first) ← abe [ov] (abf ov m pl)
   callWith pos f first (Yc pos (VN (e::es) X.env)) (backToKw pos (aa4 [] X.env))):=by rfl) :
  PE X (.Call (.Attribute o m apos) (e::es) [] pos) (Kf C m sp dvs E ta t):=by
 intro pins s σ H Q I h
 refine PySem.W.methodCall_KW (pl:=pl) (thn (he pins s σ H _ I h) fun u s1 ⟨x,H1,I1,rx,a,dx,fs,ex,ea,l,q⟩=>?_) ht
 subst ex
 obtain rfl:u=V4 a:=rx
 refine sY I1 ea c hm l ?_
 refine abx (first:=[.ref a]) (h₀:=X.base) I.ok.mod.kin hm.kp (thn (ha pos pins s1 σ H1 _ I1 q) fun us s2 ⟨vs,H2,I2,r,q2⟩=>⟨I2.kIn,?_⟩) hst hpl
 exact Ja (us:=.ref a::us) (vs:=.ref a::vs) F hr hb hd hx I2 (.cons rfl r) q2
theorem K3 {pl:Sem Bool} (he:PE X o ta) (c:Cls X.K C) (hm:Meth X.K C m f) (F:cG X.prog X.w X.K X.mg X.base CX k f fd ps sp) (hr:jH k X.A) (hb:Binds X.K fd ps ds) (hd:Vals dvs ds) (hx:Passes CX X E)
  (ht:Xn (.Call (.Attribute o m apos) [] [] pos) X.env=(do
   let ov ← Xn o X.env
   aaw apos.atName
   let (f,first) ← abe [ov] (abf ov m pl)
   callWith pos f first (Yc pos (VN [] X.env)) (backToKw pos (aa4 [] X.env))):=by rfl) :
  PE X (.Call (.Attribute o m apos) [] [] pos) (Kf C m sp dvs E ta CT):=by
 intro pins s σ H Q I h
 refine PySem.W.methodCall_KW (pl:=pl) (thn (he pins s σ H _ I h) fun u s1 ⟨x,H1,I1,rx,a,dx,fs,ex,ea,l,q⟩=>?_) ht
 subst ex
 obtain rfl:u=V4 a:=rx
 refine sY I1 ea c hm l ?_
 exact PySem.W.callWith_K0 (first:=[.ref a]) I1.kIn hm.kp (Ja (us:=[.ref a]) (vs:=[.ref a]) F hr hb hd hx I1 (.cons rfl .nil) q)
structure Mk (K:Vq) (C f:Addr):Prop where
 makes:acj K C=true
 init:Xp K (.ref C) "__init__" = some (some (.ref f))
 fn:abK K (.ref f)=true
 kp:Yi K (.ref C)=true
theorem Ae {pins:List (Addr × Yb)} {σ:St} {H:Hp} {s:Vc} {Q:VK} {us:List Value} {vs:List V} (M:Mk X.K C f) (F:cG X.prog X.w X.K X.mg X.base CX k f fd ps sp) (hr:jH (k+1) X.A) (hb:Binds X.K fd ps ds) (hd:Vals dvs ds)
  (hx:Passes CX X E) (I:Inv X pins σ H s) (r:Vals vs us)
  (h:∀ x dx,H x=none->H dx=none->dx≠x->sp (.ref x::(vs++dvs)) (upd (upd H dx (.own x)) x (.ins C dx [])) (fun v H2=>v = .non/\Q (.ref x) H2) E) :
  Vk (Vs X.prog X.w) X.A (call (.ref C) us) (EP X pins σ Q) X.xe s:=by
 have hq:=h (s.heap.objs.size+1) s.heap.objs.size (I.hok.fresh (Xi _)) (I.hok.fresh (Vg _)) (Vx (Xb _))
 have I2:=Inv.made (C:=C) I
 have r2:Vals (V.ref (s.heap.objs.size+1)::(vs++dvs)) (V4 (s.heap.objs.size+1)::(us++ds)):=.cons rfl (r.append hd)
 have hl:(V4 (s.heap.objs.size+1)::us++ds).length=ps.length:=by
  have e:=r2.length
  rw[F.len _ _ _ _ hq] at e
  exact e.symm
 refine wpAny_call (KC (f:=f) I.kIn M.makes M.init (beq_iff_eq.mp M.fn) (ZJ (F.run _ X.stack _ _ ⟨V4 (s.heap.objs.size+1)::us,[]⟩ (V4 (s.heap.objs.size+1)::(us++ds)) _ _ E (hr.make C us [])
  (I2.env0.make C us []) (hb _ (V4 (s.heap.objs.size+1)::us) I2.kIn hl) r2 hq) fun r s' hq'=>?_))
 cases r with
 | error e=>exact hx pins σ _ _ e s' I2 hq'
 | ok fl =>
  cases fl with
  | ret u =>
   obtain⟨v,H',I3,rv,ev,q3⟩:=I2.after hq'
   subst ev
   exact⟨rv,⟨V.ref (s.heap.objs.size+1),H',I3,rfl,q3⟩⟩
  | next=>exact Yl hq'
  | brk=>exact Yl hq'
  | cont=>exact Yl hq'
theorem Oa (M:Mk X.K C f) (F:cG X.prog X.w X.K X.mg X.base CX k f fd ps sp) (hr:jH (k+1) X.A) (hg:Gl X x) (hm:X.mg x=some (.ref C)) (hb:Binds X.K fd ps ds) (hd:Vals dvs ds) (hx:Passes CX X E)
  (ha:PA X (e::es) t) (hdb:(x == ("__debug__" : V9))=false:=by decide) (he:VN (e::es) X.env=(false,Xn e X.env)::VN es X.env:=by rfl) (hpl:(Yc pos (VN es X.env)).any (·.1)=false:=by rfl) :
  PE X (.Call (.Name x p) (e::es) [] pos) (Kw C sp dvs E t):=by
 intro pins s σ H Q I h
 refine Xl (uV I hg hm ?_ hdb)
 refine abx (h₀:=X.base) I.ok.mod.kin M.kp (thn (ha pos pins s σ H _ I h) fun us s1 ⟨vs,H1,I1,r,q⟩=>⟨I1.kIn,?_⟩) he hpl
 exact Ae M F hr hb hd hx I1 r q
theorem J4 (M:Mk X.K C f) (F:cG X.prog X.w X.K X.mg X.base CX k f fd ps sp) (hr:jH (k+1) X.A) (hg:Gl X x) (hm:X.mg x=some (.ref C)) (hb:Binds X.K fd ps ds) (hd:Vals dvs ds) (hx:Passes CX X E)
  (hdb:(x == ("__debug__" : V9))=false:=by decide):PE X (.Call (.Name x p) [] [] pos) (Kw C sp dvs E CT):=by
 intro pins s σ H Q I h
 refine Xl (uV I hg hm ?_ hdb)
 exact PySem.W.callWith_K0 I.kIn M.kp (Ae (us:=[]) M F hr hb hd hx I .nil h)
end
section
variable {X:Cx} {CX:CXT} {k:Nat} {f C:Addr} {fd:X5} {ps ks:List V9} {sp:Sp} {E:XK} {x m:V9} {p pos apos kpos:Zf} {e o:Expr} {es:List Expr} {kws:List Keyword} {te ta:TE} {t tk:TA} {nm:Option V9}
variable {g:List Value->List Value->List Value} {gV:List V->List V->List V}
end
structure aO (N P:List V9) (sc:Yg):Prop where
 kind:sc.kind = .function
 co:sc.isCoroutine=false
 gen:sc.isGenerator=false
 nd:N.Nodup
 pre:N.take P.length=P
 par:∀ x∈P,sc.names.lookup x=some .local∨sc.names.lookup x=some .cell
 nofree:∀ y∈sc.names,y.2≠.free
theorem xf {kindOf:V9->Option aap} {x:V9}:∀ {binds:List (V9 × Value)} {m:V9->Option Value},(∀ v,(x,v) ∉ binds)->bindL kindOf binds m x=m x
 | [],_,_=>rfl
 | (n,v)::r,m,h=>by
  unfold bindL
  rw[xf fun w hw=>h w (Vp _ hw)]
  split
  ·have:x≠n:=by rintro rfl; exact h v Vj
   simp [this]
  ·rfl
theorem vD {kindOf:V9->Option aap} {x:V9}:∀ {binds:List (V9 × Value)} {m:V9->Option Value},(∀ v,(x,v) ∉ binds)->bindC kindOf binds m x=m x
 | [],_,_=>rfl
 | (n,v)::r,m,h=>by
  unfold bindC
  rw[vD fun w hw=>h w (Vp _ hw)]
  split
  ·rfl
  ·have:x≠n:=by rintro rfl; exact h v Vj
   simp [this]
theorem wM {kindOf:V9->Option aap} {x:V9} {v:Value}:∀ {P:List V9} {vs:List Value} {i:Nat} {m:V9->Option Value},P.Nodup->P[i]? = some x->vs[i]? = some v->kindOf x=some .local →
  bindL kindOf (P.zip vs) m x=some v
 | [],_,_,_,_,h,_,_=>by simp at h
 | _::_,[],_,_,_,_,h,_=>by simp at h
 | p::P,w::vs,0,m,nd,h1,h2,hk=>by
  simp at h1 h2; subst h1; subst h2
  show bindL kindOf ((p,w)::P.zip vs) m p=_
  unfold bindL
  rw[xf fun v hv=>(List.nodup_cons.mp nd).1 (ack hv).1,if_pos hk]
  simp
 | p::P,w::vs,i+1,m,nd,h1,h2,hk=>by
  show bindL kindOf ((p,w)::P.zip vs) m x=_
  unfold bindL
  exact wM (i:=i) (List.nodup_cons.mp nd).2 (by simpa using h1) (by simpa using h2) hk
theorem xm {kindOf:V9->Option aap} {x:V9} {v:Value}:∀ {P:List V9} {vs:List Value} {i:Nat} {m:V9->Option Value},P.Nodup->P[i]? = some x->vs[i]? = some v->kindOf x≠some .local →
  bindC kindOf (P.zip vs) m x=some v
 | [],_,_,_,_,h,_,_=>by simp at h
 | _::_,[],_,_,_,_,h,_=>by simp at h
 | p::P,w::vs,0,m,nd,h1,h2,hk=>by
  simp at h1 h2; subst h1; subst h2
  show bindC kindOf ((p,w)::P.zip vs) m p=_
  unfold bindC
  rw[vD fun v hv=>(List.nodup_cons.mp nd).1 (ack hv).1,if_neg hk]
  simp
 | p::P,w::vs,i+1,m,nd,h1,h2,hk=>by
  show bindC kindOf ((p,w)::P.zip vs) m x=_
  unfold bindC
  exact xm (i:=i) (List.nodup_cons.mp nd).2 (by simpa using h1) (by simpa using h2) hk
def start (N:List V9) (vs:List V):St:=vs.map some++Vn (N.length - vs.length) none
def Qt (CX:CXT) (P:Vy) (w:V3) (K:Vq) (mg:V9->Option Value) (base:Wb) (N:List V9) (qual:V9) (scope:Yg) (f:Addr) (cd:Value) (A:V0) (outer:List Env) (s:Vc) (H:Hp) (E:XK):Cx where
 prog:=P
 w:=w
 K:=K
 mg:=mg
 base:=base
 A:=A.deeper (abu qual scope s.heap.objs.size f cd)
 N:=N
 s₀:=s
 H₀:=H
 env:=abu qual scope s.heap.objs.size f cd
 outer:=outer
 stack:=abu qual scope s.heap.objs.size f cd::outer
 ex:=[]
 calm:=true
 fn:=fun _=>true
 pn:=[]
 xe:=fun e s'=>Vk (Vs P w) (A.deeper (abu qual scope s.heap.objs.size f cd)) (leaving (abu qual scope s.heap.objs.size f cd) e) (fun _ s''=>CX outer H s E e s'') (fun e' s''=>CX outer H s E e' s'') s'
theorem Cr {sc:Yg} {n:Nat} {x:V9} (h:sc.names.lookup x=some .cell):∃ c,(abh n sc.names []).lookup x=some c:=by
 have q:=PySem.W.cellsFrom_some sc.names n [] (.inl h)
 exact Option.isSome_iff_exists.mp q
theorem FN {CX:CXT} {P:Vy} {w:V3} {K:Vq} {mg:V9->Option Value} {base:Wb} {N ps:List V9} {qual:V9} {scope:Yg} {f:Addr} {cd:Value} {A:V0} {outer:List Env} {s s1:Vc} {H:Hp} {E:XK} {us:List Value} {vs:List V}
  (S:aO N ps scope) (hd:A.handled=none) (e0:Pg P w K mg base A outer s H) (hl:vs.length=ps.length) (r:Vals vs us)
  (x:InCallC s s.heap.objs.size (bindL (abu qual scope s.heap.objs.size f cd).kindOf (ps.zip us) fun _=>none) (abh (s.heap.objs.size+1) scope.names []) (bindC (abu qual scope s.heap.objs.size f cd).kindOf (ps.zip us) fun _=>none) s1) :
  Inv (Qt CX P w K mg base N qual scope f cd A outer s H E) [] (start N vs) H s1:=by
 have hpl:ps.length<=N.length:=by have:=congrArg aaz S.pre; rw[Vz] at this; lia
 obtain⟨h1,tk,rfl,hk⟩:=x.done
 have noA:∀ b:Addr,b ∉ (Qt CX P w K mg base N qual scope f cd A outer s H E).ex:=fun b z=>absurd (show b∈([]:List Addr) from z) (by simp)
 refine⟨⟨e0.mod,S.kind,rfl,rfl,Vg _,fun y z c h1 h2=>?_,fun y hy=>?_,fun y c _ h=>?_,fun _=>hd,Around.frames_deeper e0.frames,.inr ⟨rfl,rfl⟩,fun b z=>absurd z (noA b),e0.bs,e0.bsz,fun b _ _=>noA b,fun b z=>absurd z (noA b),e0.Eo,e0.frf⟩,
  rfl,e0.bare,Un.kept hk,⟨_,x.toInCall.ns,fun i y v h1 h2 h3=>?_⟩,fun y c h=>⟨_,x.cell y c h⟩,e0.hok.fresh (Vg _),fun y c h=>?_,fun p hp=>absurd (show p∈([]:List (Addr × Yb)) from hp) (by simp),e0.hok.kept hk,?_⟩
 ·exact name_of_addr x.apart (WL h1) (WL h2)
 ·have hy:scope.names.lookup y=some .cell∨scope.names.lookup y=some .free:=hy
  rcases hy with hy | hy
  ·exact Cr hy
  ·exact absurd rfl (S.nofree _ (WL hy))
 ·exact Yd (x.above y c (WL h))
 ·have hi:i < vs.length:=by
   unfold start at h2
   by_cases hi:i < vs.length
   ·exact hi
   ·rw[Yk (by simpa using hi)] at h2
    rw[X7] at h2
    split at h2 <;> cases h2
  have ha:vs[i]? = some v:=by
   unfold start at h2
   rw[aas (by simpa using hi),VF] at h2
   cases e:vs[i]? with
   | none=>rw[e] at h2; cases h2
   | some a=>rw[e] at h2; cases h2; rfl
  obtain⟨u,hu,rv⟩:=r.get ha
  have hp:ps[i]? = some y:=by
   rw[← S.pre,List.getElem?_take_of_lt (by lia)]; exact h1
  have ndP:ps.Nodup:=by rw[← S.pre]; exact S.nd.sublist (List.take_sublist _ _)
  refine⟨u,rv,?_⟩
  rcases S.par y (Wd hp) with k | k
  ·exact .inl ⟨k,wM ndP hp hu k⟩
  ·obtain⟨c,e⟩:=Cr (n:=s.heap.objs.size+1) k
   refine .inr ⟨.inl k,c,e,?_⟩
   have q:=x.cell y c e
   rw[xm ndP hp hu (by show scope.names.lookup y≠_; rw[k]; decide)] at q
   exact q
 ·exact e0.hok.fresh (Yd (x.above y c (WL h)))
 ·unfold start
  show _=N.length
  rw[Ve,Vb,VR]
  lia
theorem Tj {CX:CXT} {P:Vy} {w:V3} {K:Vq} {mg:V9->Option Value} {base:Wb} {k:Nat} {f:Addr} {name qual:V9} {params:Arguments} {body:List Stmt} {scope:Yg} {dV kV doc pm cdv ct oc:Value} {an od:Option Addr}
  {osl:Array (Option Value)} {N ps:List V9} {sp:Sp} (lk:K.lookup f=some ⟨oc,od,.func (Zh name qual params body scope dV kV doc pm an cdv ct),osl⟩) (hcd:aao K cdv qual=true) (S:aO N ps scope)
  (len:∀ vs H Q E,sp vs H Q E->vs.length=ps.length)
  (hbody:∀ (A:V0) (outer:List Env) (s:Vc) (H:Hp) (vs:List V) (Q:VK) (E:XK),jH k (A.deeper (abu qual scope s.heap.objs.size f cdv))->sp vs H Q E →
   ∃ t,PSs (Qt CX P w K mg base N qual scope f cdv A outer s H E) body t/\t { nx:=fun _ H'=>Q .non H',rt:=Q } (start N vs) H) :
  cG P w K mg base CX (k+1) f (Zh name qual params body scope dV kV doc pm an cdv ct) ps sp:=by
 refine⟨len,fun A outer s H args us vs Q E hr e0 hb r hsp=>?_⟩
 have hl:=len _ _ _ _ hsp
 have KX:K.In s.heap:=e0.mod.kin.keeps fun b o e=>(e0.bs b o e).1
 have lim:s.heap.NoLimit:=e0.mod.nolimit.keeps fun b o e=>(e0.bs b o e).1
 have hkind:∀ y∈ps.zip us,scope.names.lookup y.1=some .local∨(scope.names.lookup y.1=some .cell/\((abh (s.heap.objs.size+1) scope.names []).lookup y.1).isSome=true):=fun⟨n,v⟩ hy=>by
  rcases S.par n (ack hy).1 with q | q
  ·exact .inl q
  ·exact .inr ⟨q,PySem.W.cellsFrom_some _ _ _ (.inl q)⟩
 refine codeAny_call_function hr.depth (KX _ _ lk) rfl S.co S.gen rfl (PySem.W.codeRec_of KX hcd) (hb _ _ _ _ ?_)
 refine wpAny_newFunctionEnv_cells S.kind hkind fun env he s1 x=>?_
 subst he
 refine⟨lim.keeps x.toInCall.keep,codeAny_func ?_⟩
 obtain⟨t,ht,hq⟩:=hbody A outer s H vs Q E (hr.deeper _) hsp
 have I:Inv (Qt CX P w K mg base N qual scope f cdv A outer s H E) [] (start N vs) H s1:=FN S hr.hd e0 hl r x
 refine WN (ht [] s1 (start N vs) H _ I hq) (fun fl s' hs=>?_) fun e s' hs=>hs
 have fin:∀ {σ':St} {H':Hp} {v:V} {u:Value},Inv (Qt CX P w K mg base N qual scope f cdv A outer s H E) [] σ' H' s'->RelV v u->Q v H'->CE outer P w H s Q u s' :=
  fun {σ' H' v u} J rv q=>⟨v,H',J.os,J.bare,J.base,J.hok,rv,q⟩
 cases fl with
 | ret u =>
  obtain⟨v,σ',H',J,rv,q⟩:=hs
  exact fin J rv q
 | next =>
  obtain⟨σ',H',J,q⟩:=hs
  exact fin (v:=V.non) (u:=We) J rfl q
 | brk =>
  obtain⟨_,_,_,q⟩:=hs
  exact Yl q
 | cont =>
  obtain⟨_,_,_,q⟩:=hs
  exact Yl q
end L2
namespace L2
open PySem PySem.Spec PyProof.Rows
section
variable {X:Cx} {x:V9} {p pos:Zf} {e:Expr} {es:List Expr} {t:TA} {id T:String} {r:List V->Hp->VK->Prop}
def tCB (r:List V->Hp->VK->Prop) (t:TA):TE:=fun σ H Q=>t σ H fun vs H1=>r vs H1 Q
theorem aF (hc:iQ X (.builtin id) r) (hg:Gl X x) (hm:X.mg x=none) (hv:Wt x=some (.builtin id)) (ha:PA X (e::es) t) (hn:x≠"__name__":=by decide) (hdb:(x == ("__debug__" : V9))=false:=by decide)
  (he:VN (e::es) X.env=(false,Xn e X.env)::VN es X.env:=by rfl) (hpl:(Yc pos (VN es X.env)).any (·.1)=false:=by rfl):PE X (.Call (.Name x p) (e::es) [] pos) (tCB r t):=by
 intro pins s σ H Q I h
 refine Xl (gj I hg hm hv ?_ hn hdb)
 exact ab2 (thn (ha pos pins s σ H _ I h) fun us s1 ⟨vs,H1,I1,r1,q1⟩=>hc pins s1 σ H1 vs us Q I1 r1 q1) he hpl
theorem bH (hc:iQ X (.type T) r) (hg:Gl X x) (hm:X.mg x=none) (hv:Wt x=some (.type T)) (ha:PA X (e::es) t) (hn:x≠"__name__":=by decide) (hdb:(x == ("__debug__" : V9))=false:=by decide)
  (he:VN (e::es) X.env=(false,Xn e X.env)::VN es X.env:=by rfl) (hpl:(Yc pos (VN es X.env)).any (·.1)=false:=by rfl):PE X (.Call (.Name x p) (e::es) [] pos) (tCB r t):=by
 intro pins s σ H Q I h
 refine Xl (gj I hg hm hv ?_ hn hdb)
 exact Wv (thn (ha pos pins s σ H _ I h) fun us s1 ⟨vs,H1,I1,r1,q1⟩=>hc pins s1 σ H1 vs us Q I1 r1 q1) he hpl
end
end L2
namespace HT
open PySem PyProof.Rows
def lexLt:List Int->List Int->Bool
 | [],[]=>false
 | [],_::_=>true
 | _::_,[]=>false
 | x::xs,y::ys=>if x=y then lexLt xs ys else decide (x < y)
theorem jE (x y:Int) (xs ys:List Int):lexLt (x::xs) (y::ys)=if x=y then lexLt xs ys else decide (x < y):=rfl
theorem rD (y:Int) (ys:List Int):lexLt [] (y::ys)=true:=rfl
theorem qW (x:Int) (xs:List Int):lexLt (x::xs) []=false:=rfl
section
open PySem.SeqAt
open PySem.AutoSeq1 (wpAny_loadPart')
open PySem.MeetsSeq PySem.MeetsSeq2 PySem.MeetsSeq3
end
section
variable {prog:Vy} {w:V3} {A:V0} {E:Value->Vc->Prop} {s:Vc}
theorem Qm {t b:Addr} {vs ws:List Value} {Q:Value->Vc->Prop} (ht:IsTup s.heap t vs.toArray) (hb:IsTup s.heap b ws.toArray) (hv:vs≠[])
  (h1:ws=[]->Q (.ref t) s) (h2:ws≠[]->Q (.ref s.heap.objs.size) { s with heap:=s.heap.push { cls:=.type "tuple",data:=.seq (vs++ws).toArray } })
  (hsz:vs.length+ws.length<=sizeLine):Vk (Vs prog w) A (Zt .Add (.ref t) (.ref b)) Q E s:=by
 obtain⟨⟨cls,dd,data,sl⟩,ho,hc,n,hd⟩:=id ht
 obtain⟨⟨cls2,dd2,data2,sl2⟩,ho2,hc2,n2,hd2⟩:=id hb
 simp only at hc hd hc2 hd2
 subst hc hd hc2 hd2
 have e:vs.toArray++ws.toArray=(vs++ws).toArray:=by simp
 by_cases hw:ws=[]
 ·exact concat_meets ⟨_,ho,rfl⟩ ⟨_,ho2,rfl⟩ abY seq_tuple_add aaT aaJ (aaE _ _)
   (tuple_addW1 t b vs.toArray ws.toArray n n2 dd dd2 sl sl2 (by simpa using hv) (by simp [hw])) ⟨ho,ho2,h1 hw⟩
 ·refine concat_meets ⟨_,ho,rfl⟩ ⟨_,ho2,rfl⟩ abY seq_tuple_add aaT aaJ (aaE _ _)
   (tuple_addW2 t b vs.toArray ws.toArray n n2 dd dd2 sl sl2 (by simpa using hv) (by simpa using hw) (by rw[Vu,Vu]; exact hsz)) ⟨ho,ho2,?_⟩
  rw[e]
  exact h2 hw
def sIx (n d:Nat):Option Int->Nat
 | none=>d
 | some v=>if v < 0 then (v+(n:Int)).toNat else min v.toNat n
theorem Gg (n d k:Nat):sIx n d (some (k:Int))=min k n:=by
 show (if (k:Int) < 0 then ((k:Int)+(n:Int)).toNat else min (k:Int).toNat n)=min k n
 rw[if_neg (by lia),V8]
theorem SM (n d:Nat) (hd:d<=n) (o:Option Int):sIx n d o<=n:=by
 cases o with
 | none=>exact hd
 | some v =>
  show (if v < 0 then (v+(n:Int)).toNat else min v.toNat n)<=n
  by_cases hv:v < 0
  ·rw[if_pos hv]; lia
  ·rw[if_neg hv]; exact Nat.min_le_right _ _
theorem Et (v:Int) (n d:Nat):(if v < 0 then max (v+(n:Int)) 0 else min v (n:Int))=((sIx n d (some v):Nat):Int):=by
 show (if v < 0 then max (v+(n:Int)) 0 else min v (n:Int))=(((if v < 0 then (v+(n:Int)).toNat else min v.toNat n):Nat):Int)
 by_cases hv:v < 0
 ·simp only[if_pos hv]; lia
 ·simp only[if_neg hv]; lia
theorem DY (lo hi:Option Int) (n:Nat):aau lo hi 1 (n:Int)=(((sIx n 0 lo:Nat):Int),((sIx n n hi:Nat):Int)):=by
 have h1:¬ ((1:Int) < 0):=by lia
 unfold aau
 simp only[h1,if_false]
 refine Prod.ext ?_ ?_
 ·cases lo with
  | none=>rfl
  | some v=>exact Et v n 0
 ·cases hi with
  | none=>rfl
  | some v=>exact Et v n n
theorem CZ (i j:Nat):Zm (i:Int) (j:Int) 1=j - i:=by
 unfold Zm
 have h1:(1:Int) > 0:=by lia
 simp only[h1,if_true,Int.ediv_one]
 split <;> lia
theorem sU {v:Value} {o:Option Int} {Q:Option Int->Vc->Prop} (p:ab7 v o) (h:Q o s):Vk (Vs prog w) A (Builtin.Slice.slicePartIndex v) Q E s:=by
 cases p with
 | none=>exact slicePart_none h
 | int i t=>exact slicePart_int h
theorem nM {sl:Addr} {vl vu:Value} {lo hi:Option Int} {n:Nat} {Q:Int × Int × Nat->Vc->Prop} (hs:s.heap.IsSliceOf sl vl vu .none) (pl:ab7 vl lo) (pu:ab7 vu hi)
  (h:Q (((sIx n 0 lo:Nat):Int),1,sIx n n hi - sIx n 0 lo) s):Vk (Vs prog w) A (Builtin.Slice.sliceApplied (.ref sl) (pure (n:Int))) Q E s:=by
 obtain⟨os,hos,hcs,hds⟩:=id hs
 unfold Builtin.Slice.sliceApplied Builtin.Slice.sliceFields
 refine U9 (U9 (Wi hos hds (x:=vl) rfl (U9 (Wi hos hds (x:=vu) rfl (U9 (Wi hos hds (x:=.none) rfl (Vd ?_)))))))
 refine U9 (slicePart_none ?_)
 show Vk _ _ (if ((1:Int) == 0)=true then _ else _) _ _ s
 rw[if_neg (by decide)]
 refine U9 (sU pl (U9 (sU pu (U9 (Vd ?_)))))
 show Vk _ _ (match aau lo hi 1 (n:Int) with | (lo,hi)=>pure (lo,(1:Int),Zm lo hi 1)) _ _ s
 rw[DY lo hi n]
 show Vk _ _ (pure (((sIx n 0 lo:Nat):Int),(1:Int),Zm ((sIx n 0 lo:Nat):Int) ((sIx n n hi:Nat):Int) 1)) _ _ s
 rw[CZ]
 exact Vd h
theorem JV (xs:Array Value) (i k:Nat):((VD k).filterMap fun (m:Nat)=>xs[((i:Int)+(m:Int) * 1).toNat]?).toArray=((xs.toList.drop i).take k).toArray:=by
 have e:(fun (m:Nat)=>xs[((i:Int)+(m:Int) * 1).toNat]?)=fun m=>xs[i+m]?:=by
  funext m
  have:((i:Int)+(m:Int) * 1).toNat=i+m:=by lia
  rw[this]
 rw[e]
 have:=pick_run xs i k
 rw[List.filterMap_map] at this
 have e2:((fun x=>xs[x]?) ∘ fun x=>i+x)=fun m=>xs[i+m]?:=rfl
 rw[e2] at this
 rw[this]
theorem my {t sl:Addr} {items:Array Value} {vl vu:Value} {lo hi:Option Int} {Q:Value->Vc->Prop} (ht:IsTup s.heap t items) (hs:s.heap.IsSliceOf sl vl vu .none) (pl:ab7 vl lo) (pu:ab7 vu hi)
  (hw:¬ (sIx items.size 0 lo=0/\sIx items.size items.size hi=items.size))
  (h:Q (.ref s.heap.objs.size) { s with heap:=s.heap.push { cls:=.type "tuple",data:=.seq ((items.toList.drop (sIx items.size 0 lo)).take (sIx items.size items.size hi - sIx items.size 0 lo)).toArray } })
  (hsz:items.size<=sizeLine):Vk (Vs prog w) A (abg (.ref t) (.ref sl)) Q E s:=by
 have htake:sizeOk (.seq ((items.toList.drop (sIx items.size 0 lo)).take (sIx items.size items.size hi - sIx items.size 0 lo)).toArray):=by
  show ((items.toList.drop (sIx items.size 0 lo)).take (sIx items.size items.size hi - sIx items.size 0 lo)).toArray.size<=sizeLine
  rw[Vu,Vz,aaL,VM]
  lia
 have hj:sIx items.size items.size hi<=items.size:=SM _ _ (Vg _) hi
 obtain⟨os,hos,hcs,hds⟩:=id hs
 have hTs:s.TypeIs (.ref sl) "slice":=⟨os,hos,hcs⟩
 unfold abg
 try with_reducible refine Xy ?_
 first | refine U9 (Vd ?_) | skip
 refine U9 (wpAny_sequenceKey ht.typeIs (by decide) ?_)
 refine U9 (Wq (name:=XD "__getitem__") ht.typeIs abS
  (Wm abS ht.typeIs entry_tuple_getitem ?_ (args_tuple_getitem _ _)))
 show Vk _ _ (Builtin.Tuple.tupleItemsOf (.ref t) >>= _) _ _ s
 refine U9 (tupleItemsOf_ ht ?_)
 refine U9 (abA hTs ?_)
 rw[if_pos (by decide)]
 refine U9 (nM hs pl pu ?_)
 have hno:¬ ((((sIx items.size 0 lo:Nat):Int) == 0 && (1:Int) == 1 && (sIx items.size items.size hi - sIx items.size 0 lo) == items.size)=true):=by
  intro q
  rw[WD,WD] at q
  have q1:((sIx items.size 0 lo:Nat):Int)=0:=eq_of_beq q.1.1
  have q2:sIx items.size items.size hi - sIx items.size 0 lo=items.size:=eq_of_beq q.2
  exact hw ⟨by lia,by lia⟩
 show Vk _ _ (if (((sIx items.size 0 lo:Nat):Int) == 0 && (1:Int) == 1 && (sIx items.size items.size hi - sIx items.size 0 lo) == items.size)=true then _ else _) _ _ s
 rw[if_neg hno,JV]
 first
  | exact U9 (m:=Zu _) (V6 (Vd ⟨_,rfl,Vd h⟩) htake)
  | exact U9 (m:=Zu _) (V6 (U9 (Vd (Vd ⟨_,rfl,Vd h⟩))) htake)
  | exact U9 (U9 (m:=Zu _) (V6 (Vd (Vd ⟨_,rfl,Vd h⟩)) htake))
  | exact U9 (U9 (m:=Zu _) (V6 (Vd ⟨_,rfl,Vd h⟩) htake))
end
end HT
namespace L2
open PySem PySem.Spec PyProof.Rows
abbrev TO:=St->Hp->(Option Int->Hp->Prop)->Prop
def PO (X:Cx) (e:Option Expr) (t:TO):Prop :=
 ∀ (pins:List (Addr × Yb)) (s:Vc) (σ:St) (H:Hp) (Q:Option Int->Hp->Prop),Inv X pins σ H s->t σ H Q →
  Vk (Vs X.prog X.w) X.A (evalPart e X.env) (fun u s'=>∃ o H',Inv X pins σ H' s'/\ab7 u o/\Q o H') X.xe s
def Qf:TO:=fun _ H Q=>Q none H
def TX (t:TE):TO:=fun σ H Q=>t σ H fun x H1=>∃ i,x = .int i/\Q (some i) H1
theorem intsAre_of {ns:List Int}:∀ {us:List Value},Vals (ns.map V.int) us->Ww us ns:=by
 induction ns with
 | nil=>intro us r; rw[aai] at r; cases r; exact .nil
 | cons n ns ih =>
  intro us r
  rw[Wa] at r
  cases r with
  | cons r1 r2 =>
   obtain⟨t,e⟩:=r1
   subst e
   exact .cons n t (ih r2)
section
variable {X:Cx} {e:Expr} {te:TE} {lo hi:Option Expr} {tl th:TO} {pos p2:Zf}
theorem HQ:PO X none Qf:=by
 intro pins s σ H Q I h
 rw[evalPart_none]
 exact Vd ⟨none,H,I,.none,h⟩
theorem ux (h:PE X e te):PO X (some e) (TX te):=by
 intro pins s σ H Q I hw
 rw[evalPart_some]
 refine thn (h pins s σ H _ I hw) fun u s1 ⟨x,H1,I1,r1,q1⟩=>?_
 obtain⟨i,rfl,q⟩:=q1
 obtain⟨t,rfl⟩:=r1
 exact⟨some i,H1,I1,.int i t,q⟩
def SlR (X:Cx) (r:V->Option Int->Option Int->Hp->VK->Prop):Prop :=
 ∀ (pins:List (Addr × Yb)) (s:Vc) (σ:St) (H:Hp) (x:V) (v vl vu:Value) (lo hi:Option Int) (sl:Addr) (Q:VK),Inv X pins σ H s->RelV x v->s.heap.IsSliceOf sl vl vu .none->ab7 vl lo->ab7 vu hi->r x lo hi H Q →
  ∃ T id,typeLookup (.type T) "__getitem__" = pure (some (.builtin id))/\s.TypeIs v T/\Vk (Vs X.prog X.w) X.A (abg v (.ref sl)) (EP X pins σ Q) X.xe s
def tSl (r:V->Option Int->Option Int->Hp->VK->Prop) (te:TE) (tl th:TO):TE:=fun σ H Q=>te σ H fun x H1=>tl σ H1 fun l H2=>th σ H2 fun u H3=>r x l u H3 Q
theorem uq {r:V->Option Int->Option Int->Hp->VK->Prop} (hr:SlR X r) (he:PE X e te) (hl:PO X lo tl) (hu:PO X hi th):PE X (.Subscript e (.Slice lo hi none p2) pos) (tSl r te tl th):=by
 intro pins s σ H Q I h
 refine Subscript_ (thn (he pins s σ H _ I h) fun v s1 ⟨x,H1,I1,r1,q1⟩=>?_)
 refine wpAny_Slice (thn (hl pins s1 σ H1 _ I1 q1) fun vl s2 ⟨l,H2,I2,pl,q2⟩=>thn (hu pins s2 σ H2 _ I2 q2) fun vu s3 ⟨u,H3,I3,pu,q3⟩=>?_)
 rw[evalPart_none]
 refine Vd ?_
 have I4:Inv X pins σ H3 { s3 with heap:=s3.heap.push { cls:=.type "slice",data:=.fields #[vl,vu,.none] } }:=I3.kept (t':=s3.toks) fun b ob q=>Va _ q
 obtain⟨T,id,hT,ht,hg⟩:=hr pins { s3 with heap:=s3.heap.push { cls:=.type "slice",data:=.fields #[vl,vu,.none] } } σ H3 x v vl vu l u s3.heap.objs.size Q I4 r1 (Heap.IsSliceOf.new ..) pl pu q3
 show Vk (Vs X.prog X.w) X.A (subscriptTail e (.Slice lo hi none p2) v (.ref s3.heap.objs.size)) (EP X pins σ Q) X.xe { s3 with heap:=s3.heap.push { cls:=.type "slice",data:=.fields #[vl,vu,.none] } }
 exact tail_any (ops:=[.ref s3.heap.objs.size,v]) ht hT hg (by with_unfolding_all rfl)
def Ep (xs:List V) (lo hi:Option Int):List V:=(xs.drop (HT.sIx xs.length 0 lo)).take (HT.sIx xs.length xs.length hi - HT.sIx xs.length 0 lo)
theorem pU (xs:List V) (lo hi:Option Int):(Ep xs lo hi).length<=xs.length:=by
 unfold Ep
 rw[Vz,aaL]
 lia
inductive RV (K:Vq) (x:V) (lo:Option Int) (hi:Option Int) (H:Hp) (Q:VK):Prop where
 | mk (a:Addr) (xs:List V) (z0:x = .ref a) (z1:SqT K H a xs) (z2:¬ (HT.sIx xs.length 0 lo=0/\HT.sIx xs.length xs.length hi=xs.length)) (z3:∀ p,H p=none->Q (.ref p) (upd H p (.tup (Ep xs lo hi)))):RV K x lo hi H Q
def Uc (K:Vq):V->Option Int->Option Int->Hp->VK->Prop:=fun x lo hi H Q=>RV K x lo hi H Q
theorem RK:SlR X (Uc X.K):=by
 intro pins s σ H x v vl vu lo hi sl Q I rx hs pl pu h
 obtain⟨a,xs,rfl,hx,hw,q⟩:=h
 cases rx
 obtain⟨its,r,ht,hz⟩:=I.tuple hx
 have hlen:its.toArray.size=xs.length:=by rw[Vu]; exact r.length.symm
 refine⟨"tuple",_,PyProof.Rows.slot_tuple_getitem.lookup,ht.typeIs,?_⟩
 refine HT.my ht hs pl pu (by rw[hlen]; exact hw) ?_ (by rw[hlen]; exact hz)
 rw[hlen]
 refine⟨.ref s.heap.objs.size,_,I.laid (t':=s.toks) (o:=.tup (Ep xs lo hi)) (fun b ob q=>Va _ q) (Vg _) ?_,rfl,q _ (I.hok.fresh (Vg _))⟩
 exact⟨V2 (pU xs lo hi) hz,_,(r.drop (HT.sIx xs.length 0 lo)).take (HT.sIx xs.length xs.length hi - HT.sIx xs.length 0 lo),IsTup.new _ _⟩
def Tw (K:Vq):R2:=fun x y H Q=>∃ a b xs ys,x = .ref a/\y = .ref b/\SqT K H a xs/\SqT K H b ys/\xs≠[]/\xs.length+ys.length<=sizeLine ∧
 (ys=[]->Q (.ref a) H)/\(ys≠[]->∀ p,H p=none->Q (.ref p) (upd H p (.tup (xs++ys))))
theorem Vals.zr {xs:List V} {us:List Value} (r:Vals xs us):us=[] ↔ xs=[]:=by
 cases r with
 | nil=>simp
 | cons _ _=>simp
theorem Pq:OpR X (Zt .Add) (Tw X.K):=by
 intro pins s σ H x y v u Q I rx ry h
 obtain⟨a,b,xs,ys,rfl,rfl,ha,hb,hx,hz,q1,q2⟩:=h
 cases rx
 cases ry
 obtain⟨its,r1,p1,_⟩:=I.tuple ha
 obtain⟨its2,r2,p2,_⟩:=I.tuple hb
 refine HT.Qm p1 p2 (fun z=>hx (r1.zr.mp z)) (fun z=>⟨.ref a,H,I,rfl,q1 (r2.zr.mp z)⟩) (fun z=>?_) (by rw[← r1.length,← r2.length]; exact hz)
 refine⟨.ref s.heap.objs.size,_,I.laid (t':=s.toks) (o:=.tup (xs++ys)) (fun b ob q=>Va _ q) (Vg _) ?_,rfl,q2 (fun w=>z (r2.zr.mpr w)) _ (I.hok.fresh (Vg _))⟩
 exact⟨by rw[Ve]; exact hz,_,r1.append r2,IsTup.new _ _⟩
end
end L2
namespace L2
open PySem PySem.Spec PyProof.Rows
def ixN (n:Nat) (i:Int):Option Nat:=if 0<=i then (if i < n then some i.toNat else none) else if -(n:Int)<=i then some (i+n).toNat else none
def atI {α:Type} (xs:List α) (i:Int):Option α:=(ixN xs.length i).bind fun j=>xs[j]?
theorem Oo {n:Nat} {i:Int} {j:Nat} (h:ixN n i=some j):abX i n=some j/\j < n/\-(n:Int)<=i/\i < n:=by
 unfold ixN at h
 by_cases h0:0<=i
 ·rw[if_pos h0] at h
  by_cases h1:i < n
  ·rw[if_pos h1] at h
   have e:i.toNat=j:=Wn h
   exact⟨by rw[seqIndex_of h0 h1,e],by lia,by lia,h1⟩
  ·rw[if_neg h1] at h; cases h
 ·rw[if_neg h0] at h
  by_cases h1 : -(n:Int)<=i
  ·rw[if_pos h1] at h
   have e:(i+n).toNat=j:=Wn h
   exact⟨by rw[seqIndex_neg (by lia) h1,e],by lia,h1,by lia⟩
  ·rw[if_neg h1] at h; cases h
theorem yg {α:Type} {xs:List α} {i:Int} {v:α} (h:atI xs i=some v):∃ j,abX i xs.length=some j/\xs[j]? = some v/\j < xs.length/\-(xs.length:Int)<=i/\i < xs.length:=by
 unfold atI at h
 cases e:ixN xs.length i with
 | none=>rw[e] at h; cases h
 | some j =>
  rw[e] at h
  obtain⟨h1,h2,h3,h4⟩:=Oo e
  exact⟨j,h1,h,h2,h3,h4⟩
theorem gQ {α:Type} {xs:List α} {j:Nat} {v:α} (h:xs[j]? = some v):atI xs (j:Int)=some v:=by
 have hj:j < xs.length:=(List.getElem?_eq_some_iff.mp h).1
 have e:ixN xs.length (j:Int)=some j:=by
  unfold ixN
  rw[if_pos (by lia),if_pos (by lia)]; simp
 unfold atI; rw[e]; exact h
theorem JX {α:Type} (xs:List α) (v:α):atI (xs++[v]) (-1)=some v:=by
 have hl:(xs++[v]).length=xs.length+1:=by simp
 have e:ixN (xs++[v]).length (-1)=some xs.length:=by
  unfold ixN
  rw[hl,if_neg (by decide),if_pos (by lia)]
  congr 1
  lia
 unfold atI
 rw[e]
 show (xs++[v])[xs.length]? = some v
 simp
def Qe (b:Expr):Prop:=∀ o i,aca b false o i=operate [o,i] (abg o i)
def IxR (X:Cx) (r:R2):Prop :=
 ∀ (value slice:Expr) (pins:List (Addr × Yb)) (s:Vc) (σ:St) (H:Hp) (x y:V) (v u:Value) (Q:VK),Inv X pins σ H s->RelV x v->RelV y u->r x y H Q →
  aca slice false v u=operate [v,u] (abg v u)->Vk (Vs X.prog X.w) X.A (subscriptTail value slice v u) (EP X pins σ Q) X.xe s
def MtR (X:Cx) (id:String) (r:V->List V->Hp->VK->Prop):Prop :=
 ∀ (pins:List (Addr × Yb)) (s:Vc) (σ:St) (H:Hp) (x:V) (xs:List V) (v:Value) (us:List Value) (Q:VK),Inv X pins σ H s->RelV x v->Vals xs us->r x xs H Q →
  Vk (Vs X.prog X.w) X.A (call (.builtin id) (v::us)) (EP X pins σ Q) X.xe s
section
variable {X:Cx} {a b:Expr} {ta tb:TE} {pos:Zf}
theorem IxR.or {r r':R2} (h:IxR X r) (h':IxR X r'):IxR X (fun x y H Q=>r x y H Q∨r' x y H Q):=by
 intro value slice pins s σ H x y v u Q I rx ry q hs
 rcases q with q | q
 ·exact h value slice pins s σ H x y v u Q I rx ry q hs
 ·exact h' value slice pins s σ H x y v u Q I rx ry q hs
theorem bw {r:R2} (hr:IxR X r) (ha:PE X a ta) (hb:PE X b tb) (hs:Qe b):PE X (.Subscript a b pos) (tOp r ta tb):=by
 intro pins s σ H Q I h
 exact Subscript_ (TF ha hb I h fun v u s2 x y H2 I2 rx ry q=>hr a b pins s2 σ H2 x y v u Q I2 rx ry q (hs _ _))
inductive Ru (K:Vq) (x:V) (y:V) (H:Hp) (Q:VK):Prop where
 | mk (p:Addr) (xs:List V) (i:Int) (v:V) (z0:x = .ref p) (z1:y = .int i) (z2:SqL K H p xs) (z3:atI xs i=some v) (z4:Q v H):Ru K x y H Q
def iy (K:Vq):R2:=fun x y H Q=>Ru K x y H Q
inductive RN (K:Vq) (x:V) (y:V) (H:Hp) (Q:VK):Prop where
 | mk (p:Addr) (xs:List V) (i:Int) (v:V) (z0:x = .ref p) (z1:y = .int i) (z2:SqT K H p xs) (z3:atI xs i=some v) (z4:Q v H):RN K x y H Q
def fZ (K:Vq):R2:=fun x y H Q=>RN K x y H Q
def Uh:R2:=fun x y H Q=>∃ z i c,x = .str z/\y = .int i/\z.length<=sizeLine/\atI z.cps.toList i=some c/\Q (.str ⟨#[c]⟩) H
theorem bC:IxR X (iy X.K):=by
 intro value slice pins s σ H x y v u Q I rx ry h hs
 obtain⟨p,xs,i,z,rfl,rfl,hq,he,q⟩:=h
 cases rx
 obtain⟨t,rfl⟩:=ry
 obtain⟨its,r,pl,hz⟩:=I.list hq
 obtain⟨j,h1,h2,h3,h4,h5⟩:=yg he
 obtain⟨w,ew,rw'⟩:=r.get h2
 have hl:=r.length
 have hn:=xH
 have fin:EP X pins σ Q w s:=⟨z,H,I,rw',q⟩
 by_cases h0:0<=i
 ·have hj:i.toNat=j:=by
   rw[seqIndex_of h0 h5] at h1
   exact Wn h1
  exact item_listR pl.isList h0 (by lia) (by rw[hj]; simpa using ew) fin hs
 ·have hj:(i+(its.toArray.size:Int)).toNat=j:=by
   rw[seqIndex_neg (by lia) h4] at h1
   rw[Vu,← hl]
   exact Wn h1
  exact subscriptTail_builtinR (x:=w) pl.isList.typeIs slot_list_getitem.lookup
   (wpAny_getItem_list_neg (Q:=fun r s'=>r=w/\EP X pins σ Q r s') pl.isList (by lia) (by rw[Vu] <;> lia) (by lia) (by rw[hj]; simpa using ew) ⟨rfl,fin⟩) hs
theorem bD:IxR X (fZ X.K):=by
 intro value slice pins s σ H x y v u Q I rx ry h hs
 obtain⟨p,xs,i,z,rfl,rfl,hq,he,q⟩:=h
 cases rx
 obtain⟨t,rfl⟩:=ry
 obtain⟨its,r,pl,hz⟩:=I.tuple hq
 obtain⟨j,h1,h2,h3,h4,h5⟩:=yg he
 obtain⟨w,ew,rw'⟩:=r.get h2
 have hl:=r.length
 have hn:=xH
 have fin:EP X pins σ Q w s:=⟨z,H,I,rw',q⟩
 exact subscriptTail_builtinR (x:=w) pl.typeIs slot_tuple_getitem.lookup
  (getItem_tuple (j:=j) (Q:=fun r s'=>r=w/\EP X pins σ Q r s') pl (by lia) (by lia) (by rw[Vu,← hl]; exact h1) (by simpa using ew) ⟨rfl,fin⟩) hs
theorem R9:IxR X Uh:=by
 intro value slice pins s σ H x y v u Q I rx ry h hs
 obtain⟨z,i,c,rfl,rfl,hz,he,q⟩:=h
 obtain⟨t,rfl⟩:=rx
 obtain⟨t',rfl⟩:=ry
 obtain⟨j,h1,h2,h3,h4,h5⟩:=yg he
 have hl:z.cps.toList.length=z.length:=by simp [Str.length]
 rw[hl] at h1 h4 h5
 have hn:=xH
 exact tail_any (typeIs_str s z t) slot_str_getitem.lookup (getItem_str (c:=c) (by
  have e1:decide (i < -(2 ^ 63:Int))=false:=decide_eq_false (by lia)
  have e2:decide (i ≥ 2 ^ 63)=false:=decide_eq_false (by lia)
  rw[e1,e2,Bool.or_false]) (by rw[h1]; simpa using h2) ⟨.str ⟨#[c]⟩,H,I.tok _,⟨_,rfl⟩,q⟩) hs
def rIx (K:Vq):R2:=fun x y H Q=>iy K x y H Q∨fZ K x y H Q∨Uh x y H Q
theorem MP:IxR X (rIx X.K):=bC.or (bD.or R9)
theorem vL (lo hi:Option Int) (n:Nat):(Z3 lo hi none n).1=((HT.sIx n 0 lo:Nat):Int)/\(Z3 lo hi none n).2.1=((HT.sIx n n hi:Nat):Int)/\(Z3 lo hi none n).2.2=1:=by
 refine⟨?_,?_,rfl⟩
 ·cases lo with
  | none=>simp [Z3,HT.sIx]
  | some i =>
   simp only[Z3,HT.sIx,Option.getD_none,show (1:Int) > 0 by decide,if_true]
   by_cases h:i < 0
   ·simp only[h,if_true] <;> lia
   ·simp only[h,if_false] <;> lia
 ·cases hi with
  | none=>simp [Z3,HT.sIx]
  | some i =>
   simp only[Z3,HT.sIx,Option.getD_none,show (1:Int) > 0 by decide,if_true]
   by_cases h:i < 0
   ·simp only[h,if_true] <;> lia
   ·simp only[h,if_false] <;> lia
theorem uh (its:List Value) (lo hi:Option Int):slicePick its.toArray lo hi none=((its.drop (HT.sIx its.length 0 lo)).take (HT.sIx its.length its.length hi - HT.sIx its.length 0 lo)).toArray:=by
 obtain⟨h1,h2,h3⟩:=vL lo hi its.toArray.size
 unfold slicePick
 rw[h1,h2,h3]
 simp only[sliceRange_one,pick_run,Vu] <;> rfl
inductive Sg (K:Vq) (x:V) (lo:Option Int) (hi:Option Int) (H:Hp) (Q:VK):Prop where
 | mk (a:Addr) (xs:List V) (z0:x = .ref a) (z1:SqL K H a xs) (z2:∀ p,H p=none->Q (.ref p) (upd H p (.lst (Ep xs lo hi)))):Sg K x lo hi H Q
def Tf (K:Vq):V->Option Int->Option Int->Hp->VK->Prop:=fun x lo hi H Q=>Sg K x lo hi H Q
theorem Hl:SlR X (Tf X.K):=by
 intro pins s σ H x v vl vu lo hi sl Q I rx hs pl pu h
 obtain⟨a,xs,rfl,hx,q⟩:=h
 cases rx
 obtain⟨its,r,ht,hz⟩:=I.list hx
 have hlen:=r.length
 refine⟨"list",_,slot_list_getitem.lookup,ht.isList.typeIs,?_⟩
 refine wpAny_getItem_list_slice ht.isList hs pl pu .none (by simp) ?_ (by rw[Vu] <;> lia)
 rw[uh,← hlen]
 refine⟨.ref s.heap.objs.size,_,I.laid (t':=s.toks) (o:=.lst (Ep xs lo hi)) (fun b ob q=>Va _ q) (Vg _) ?_,rfl,q _ (I.hok.fresh (Vg _))⟩
 exact⟨V2 (pU xs lo hi) hz,_,0,(r.drop (HT.sIx xs.length 0 lo)).take (HT.sIx xs.length xs.length hi - HT.sIx xs.length 0 lo),Vh _ rfl⟩
def qX:V->Bool
 | .non=>true
 | .bl _=>true
 | .int _=>true
 | .str _=>true
 | _=>false
def eqV:V->V->Bool
 | .non,.non=>true
 | .bl a,.bl b=>a == b
 | .bl a,.int b=>(if a then 1 else 0) == b
 | .int a,.bl b=>a == (if b then 1 else 0)
 | .int a,.int b=>a == b
 | .str a,.str b=>a == b
 | _,_=>false
theorem R4 {A:V0} {s:Vc} {y x:V} {u v:Value} (ry:RelV y u) (rx:RelV x v) (fy:qX y=true) (fx:qX x=true):SeqAt.EqAt A s u v (eqV y x):=by
 cases y with
 | non =>
  cases ry
  cases x with
  | non=>cases rx; exact SeqAt.EqAt.same _
  | bl b=>cases rx; exact SeqAt.EqAt.none_bool b
  | int b=>obtain⟨t,rfl⟩:=rx; exact SeqAt.EqAt.none_int b t
  | str b=>obtain⟨t,rfl⟩:=rx; exact SeqAt.EqAt.none_str b t
  | _=>exact absurd (show false=true from fx) Vm
 | bl a =>
  cases ry
  cases x with
  | non=>cases rx; exact SeqAt.EqAt.bool_none a
  | bl b=>cases rx; exact SeqAt.EqAt.bool_bool a b
  | int b=>obtain⟨t,rfl⟩:=rx; exact SeqAt.EqAt.bool_int a b t
  | str b=>obtain⟨t,rfl⟩:=rx; exact SeqAt.EqAt.bool_str a b t
  | _=>exact absurd (show false=true from fx) Vm
 | int a =>
  obtain⟨t',rfl⟩:=ry
  cases x with
  | non=>cases rx; exact SeqAt.EqAt.int_none a t'
  | bl b=>cases rx; exact SeqAt.EqAt.int_bool a t' b
  | int b=>obtain⟨t,rfl⟩:=rx; exact abw a t' b t
  | str b=>obtain⟨t,rfl⟩:=rx; exact SeqAt.EqAt.int_str a t' b t
  | _=>exact absurd (show false=true from fx) Vm
 | str a =>
  obtain⟨t',rfl⟩:=ry
  cases x with
  | non=>cases rx; exact SeqAt.EqAt.str_none a t'
  | bl b=>cases rx; exact SeqAt.EqAt.str_bool a t' b
  | int b=>obtain⟨t,rfl⟩:=rx; exact SeqAt.EqAt.str_int a t' b t
  | str b=>obtain⟨t,rfl⟩:=rx; exact SeqAt.EqAt.str_str a t' b t
  | _=>exact absurd (show false=true from fx) Vm
 | _=>exact absurd (show false=true from fy) Vm
def eqU (x:V) (u:Value):Bool:=match u with
 | .none=>eqV .non x
 | .bool b=>eqV (.bl b) x
 | .int i _=>eqV (.int i) x
 | .str z _=>eqV (.str z) x
 | _=>false
theorem Nt {x y:V} {u:Value} (r:RelV y u) (f:qX y=true):eqU x u=eqV y x:=by
 cases y with
 | non=>cases r; rfl
 | bl b=>cases r; rfl
 | int i=>obtain⟨t,rfl⟩:=r; rfl
 | str z=>obtain⟨t,rfl⟩:=r; rfl
 | _=>exact absurd (show false=true from f) Vm
theorem oU {x:V}:∀ {xs:List V} {us:List Value},Vals xs us->xs.all qX=true->us.any (eqU x)=xs.any fun y=>eqV y x
 | _,_,.nil,_=>rfl
 | y::xs,u::us,.cons r t,f=>by
  rw[Z2,WD] at f
  rw[Z1,Z1,Nt r f.1,oU t f.2]
theorem kW {A:V0} {s:Vc} {x:V} {v:Value} (rx:RelV x v) (fx:qX x=true):∀ {xs:List V} {us:List Value},Vals xs us->xs.all qX=true->∀ u∈us,SeqAt.EqAt A s u v (eqU x u)
 | _,_,.nil,_=>fun u hu=>by cases hu
 | y::xs,u::us,.cons r t,f=>fun u' hu=>by
  rw[Z2,WD] at f
  rcases List.mem_cons.mp hu with rfl | hu
  ·rw[Nt r f.1]; exact R4 r rx f.1 fx
  ·exact kW rx fx t f.2 u' hu
def inV (x:V) (xs:List V):Bool:=xs.any fun y=>eqV y x
inductive Um (K:Vq) (neg:Bool) (x:V) (y:V) (H:Hp) (Q:VK):Prop where
 | mk (p:Addr) (xs:List V) (z0:y = .ref p) (z1:(SqL K H p xs∨SqT K H p xs)) (z2:qX x=true) (z3:xs.all qX=true) (z4:Q (.bl (if neg then !inV x xs else inV x xs)) H):Um K neg x y H Q
def rIn (K:Vq) (neg:Bool):R2:=fun x y H Q=>Um K neg x y H Q
theorem jA:OpR X (XQ .In) (rIn X.K false):=by
 intro pins s σ H x y v u Q I rx ry h
 obtain⟨p,xs,rfl,hq,fx,fs,q⟩:=h
 cases ry
 rcases hq with hq | hq
 ·obtain⟨its,r,pl,hz⟩:=I.list hq
  refine SeqAt.in_listAt (eqU x) pl.isList (fun w hw=>kW rx fx r fs w (by simpa using hw)) ⟨.bl _,H,I,rfl,?_⟩
  rw[show its.toArray.any (eqU x)=its.any (eqU x) by simp,oU r fs]
  exact q
 ·obtain⟨its,r,pl,hz⟩:=I.tuple hq
  refine SeqAt.in_tupleAt (eqU x) pl (fun w hw=>kW rx fx r fs w (by simpa using hw)) ⟨.bl _,H,I,rfl,?_⟩
  rw[show its.toArray.any (eqU x)=its.any (eqU x) by simp,oU r fs]
  exact q
theorem wI:OpR X (XQ .NotIn) (rIn X.K true):=by
 intro pins s σ H x y v u Q I rx ry h
 obtain⟨p,xs,rfl,hq,fx,fs,q⟩:=h
 cases ry
 rcases hq with hq | hq
 ·obtain⟨its,r,pl,hz⟩:=I.list hq
  refine SeqAt.notIn_listAt (eqU x) pl.isList (fun w hw=>kW rx fx r fs w (by simpa using hw)) ⟨.bl _,H,I,rfl,?_⟩
  rw[show its.toArray.any (eqU x)=its.any (eqU x) by simp,oU r fs]
  exact q
 ·obtain⟨its,r,pl,hz⟩:=I.tuple hq
  refine SeqAt.notIn_tupleAt (eqU x) pl (fun w hw=>kW rx fx r fs w (by simpa using hw)) ⟨.bl _,H,I,rfl,?_⟩
  rw[show its.toArray.any (eqU x)=its.any (eqU x) by simp,oU r fs]
  exact q
theorem vA:iQ X (.builtin "len") (fun xs H Q=>∃ p ys,xs=[.ref p]/\(SqL X.K H p ys∨SqT X.K H p ys)/\Q (.int ys.length) H):=by
 intro pins s σ H xs us Q I r h
 obtain⟨p,ys,rfl,hq,q⟩:=h
 obtain⟨u,rfl,rx⟩:=vals1 r
 cases rx
 have hn:=xH
 rcases hq with hq | hq
 ·obtain⟨its,r',pl,hz⟩:=I.list hq
  have hlen:=r'.length
  exact Calls.call_len_list pl.isList (by simp only[Vu] <;> lia) ⟨.int ys.length,H,I.tok _,⟨s.toks+1,by rw[Vu,hlen]⟩,q⟩
 ·obtain⟨its,r',pl,hz⟩:=I.tuple hq
  have hlen:=r'.length
  exact len_tuple pl (by simp only[Vu] <;> lia) ⟨.int ys.length,H,I.tok _,⟨s.toks+1,by rw[Vu,hlen]⟩,q⟩
theorem xn:iQ X (.type "list") (fun xs H Q=>∃ p ys,xs=[.ref p]/\(SqL X.K H p ys∨SqT X.K H p ys)/\∀ l,H l=none->Q (.ref l) (upd H l (.lst ys))):=by
 intro pins s σ H xs us Q I r h
 obtain⟨p,ys,rfl,hq,q⟩:=h
 obtain⟨u,rfl,rx⟩:=vals1 r
 cases rx
 have fin:∀ (its:List Value),Vals ys its->ys.length<=sizeLine->∀ (h':Wb) (c':Nat),(∀ b o',s.heap.get? b=some o'->h'.get? b=some o') →
   h'.get? s.heap.objs.size=some { cls:=.type "list",dict:=none,data:=.seq its.toArray c',slots:=#[] }->EP X pins σ Q (.ref s.heap.objs.size) { s with heap:=h' }:=fun its r' hz h' c' kp e =>
  ⟨.ref s.heap.objs.size,_,I.laid (t':=s.toks) kp (Vg _) (show eO X.prog X.w _ h' _ (.lst ys) from ⟨hz,its,c',r',e⟩),rfl,q _ (I.hok.fresh (Vg _))⟩
 rcases hq with hq | hq
 ·obtain⟨its,r',pl,hz⟩:=I.list hq
  have hlen:=r'.length
  obtain⟨o,ho,hc,n,hd⟩:=pl.isList
  exact call_list_seq p (.inl rfl) ho hc hd (fun h' c' kp e=>fin its r' hz h' c' kp e) (by simp only[Vu] <;> lia)
 ·obtain⟨its,r',pl,hz⟩:=I.tuple hq
  have hlen:=r'.length
  obtain⟨o,ho,hc,n,hd⟩:=pl
  exact call_list_seq p (.inr rfl) ho hc hd (fun h' c' kp e=>fin its r' hz h' c' kp e) (by simp only[Vu] <;> lia)
theorem ud:iQ X (.type "tuple") (fun xs H Q=>∃ p ys,xs=[.ref p]/\((SqL X.K H p ys/\∀ l,H l=none->Q (.ref l) (upd H l (.tup ys)))∨(SqT X.K H p ys/\Q (.ref p) H))):=by
 intro pins s σ H xs us Q I r h
 obtain⟨p,ys,rfl,h⟩:=h
 obtain⟨u,rfl,rx⟩:=vals1 r
 cases rx
 rcases h with⟨hq,q⟩ | ⟨hq,q⟩
 ·obtain⟨its,r',pl,hz⟩:=I.list hq
  have hlen:=r'.length
  refine call_tuple_list pl.isList (fun h' kp=>?_) (by simp only[Vu] <;> lia)
  have I1:Inv X pins σ H { s with heap:=h' }:=I.kept (t':=s.toks) kp
  have I2:Inv X pins σ (upd H h'.objs.size (.tup ys)) { s with heap:=h'.push { cls:=.type "tuple",data:=.seq its.toArray } } :=
   I1.laid (t':=s.toks) (fun b o e=>Va _ e) (Vg _) (show eO X.prog X.w _ _ _ (.tup ys) from ⟨hz,its,r',IsTup.new _ _⟩)
  exact⟨.ref h'.objs.size,_,I2,rfl,q _ (I1.hok.fresh (Vg _))⟩
 ·obtain⟨its,r',pl,hz⟩:=I.tuple hq
  exact call_tuple_same pl ⟨.ref p,H,I,rfl,q⟩
def tyV (K:Vq) (T:String) (x:V) (H:Hp):Prop:=match x with
 | .str _=>T = "str"
 | .int _=>T = "int"
 | .ref p=>(T = "list"/\∃ xs,SqL K H p xs)∨(T = "tuple"/\∃ o,K.lookup p=some o/\o.cls = .type "tuple"/\o.dict=none) ∨
   (T = "dict"/\((∃ kvs,H p=some (.dK kvs))∨∃ kvs,H p=some (.dT kvs)))∨(T = "set"/\∃ S n,H p=some (.set S n))
 | _=>False
theorem NB {pins:List (Addr × Yb)} {σ:St} {H:Hp} {s:Vc} {T:String} {x:V} {v:Value} (I:Inv X pins σ H s) (r:RelV x v) (ty:tyV X.K T x H) :
  s.TypeIs v T/\∀ a,v = .ref a->∃ ob,s.heap.get? a=some ob/\ob.dict=none:=by
 cases x with
 | str z =>
  obtain⟨t,rfl⟩:=r
  cases (show T = "str" from ty)
  exact⟨typeIs_str s z t,fun _ e=>nomatch e⟩
 | int i =>
  obtain⟨t,rfl⟩:=r
  cases (show T = "int" from ty)
  exact⟨typeIs_int s i t,fun _ e=>nomatch e⟩
 | ref p =>
  cases r
  rcases ty with⟨rfl,xs,hq⟩ | ⟨rfl,o,hk,hc,hd⟩ | ⟨rfl,hk⟩ | ⟨rfl,S,n,hk⟩
  ·obtain⟨its,_,pl,_⟩:=I.list hq
   refine⟨pl.isList.typeIs,fun a e=>?_⟩
   cases e
   obtain⟨o,n,e,c,hd,_⟩:=pl
   exact⟨o,e,hd⟩
  ·refine⟨⟨o,I.kIn p o hk,hc⟩,fun a e=>?_⟩
   cases e
   exact⟨o,I.kIn _ o hk,hd⟩
  ·have z:∃ o,s.heap.get? p=some o/\o.ExactDict:=by
    rcases hk with⟨kvs,hk⟩ | ⟨kvs,hk⟩
    ·obtain⟨_,_,_,_,o,_,_,e,ex,_⟩:=I.hok p _ hk
     exact⟨o,e,ex⟩
    ·obtain⟨_,_,_,_,o,_,_,e,ex,_⟩:=I.hok p _ hk
     exact⟨o,e,ex⟩
   obtain⟨o,e,ex⟩:=z
   refine⟨⟨o,e,ex.1⟩,fun a e2=>?_⟩
   cases e2
   exact⟨o,e,ex.2.1⟩
  ·obtain⟨o,_,_,_,e,ex,_⟩:=I.hok p _ hk
   refine⟨⟨o,e,ex.1⟩,fun a e2=>?_⟩
   cases e2
   exact⟨o,e,ex.2.1⟩
 | _=>exact Yl ty
def Ut (K:Vq) (T:String) (r:V->List V->Hp->VK->Prop) (to:TE):TE:=fun σ H Q=>to σ H fun x H1=>tyV K T x H1/\r x [] H1 Q
def tBM (K:Vq) (T:String) (r:V->List V->Hp->VK->Prop) (to:TE) (t:TA):TE:=fun σ H Q=>to σ H fun x H1=>tyV K T x H1/\t σ H1 fun xs H2=>r x xs H2 Q
variable {o e:Expr} {es:List Expr} {to:TE} {t:TA} {name:V9} {apos cpos:Zf} {T id:String} {r:V->List V->Hp->VK->Prop}
theorem Q7 (pa:PlainAttrs T) (slot:Slot T name id) (hty:typeOf (.builtin id)=pure (.type "method_descriptor")) (hm:MtR X id r) (ho:PE X o to)
  (hbase:aaD o name X.env (Xn o X.env)=Xn o X.env:=by rfl) (hline:(apos.endLine == cpos.line)=true:=by rfl):PE X (.Call (.Attribute o name apos) [] [] cpos) (Ut X.K T r to):=by
 intro pins s σ H Q I h
 refine wpAny_Call_method0_late hbase hline (thn (ho pins s σ H _ I h) fun v s1 ⟨x,H1,I1,r1,ty,q1⟩=>?_)
 obtain⟨h1,h2⟩:=NB I1 r1 ty
 exact⟨T,id,pa,slot,hty,h1,h2,Calls.callWith_builtin rfl (PySem.evalArgs_none (hm pins s1 σ H1 x [] v [] Q I1 r1 .nil q1))⟩
theorem o4 (pa:PlainAttrs T) (slot:Slot T name id) (hty:typeOf (.builtin id)=pure (.type "method_descriptor")) (hm:MtR X id r) (ho:PE X o to) (ha:PA X (e::es) t)
  (hbase:aaD o name X.env (Xn o X.env)=Xn o X.env:=by rfl)
  (hfew:((Yc cpos (VN (e::es) X.env)).all (fun x=>!x.1) && (backToKw cpos (aa4 [] X.env)).all (fun x=>x.1.isSome)
   && decide ((e::es).length+([]:List Keyword).length+(if ([]:List Keyword).isEmpty then 0 else 1) < 30))=true:=by rfl)
  (hline:(apos.endLine == cpos.line)=true:=by rfl) (hs:VN (e::es) X.env=(false,Xn e X.env)::VN es X.env:=by rfl) (hplain:(Yc cpos (VN es X.env)).any (·.1)=false:=by rfl) :
  PE X (.Call (.Attribute o name apos) (e::es) [] cpos) (tBM X.K T r to t):=by
 intro pins s σ H Q I h
 refine wpAny_Call_method_late hbase hfew hline rfl (thn (ho pins s σ H _ I h) fun v s1 ⟨x,H1,I1,r1,ty,q1⟩=>?_)
 obtain⟨h1,h2⟩:=NB I1 r1 ty
 refine⟨T,id,pa,slot,hty,h1,h2,?_⟩
 have hA:=ha cpos pins s1 σ H1 _ I1 q1
 rw[hs] at hA ⊢
 refine Calls.callWith_builtin (by show (false || (Yc cpos (VN es X.env)).any (·.1))=false; rw[hplain] <;> rfl) (Calls.evalArgs_plain ?_)
 exact thn hA fun us s2 ⟨vs,H2,I2,r2,q2⟩=>hm pins s2 σ H2 x vs v us Q I2 r1 r2 q2
/- xs.append(e),list.index on a module's tuple .. are MtR facts of 06m -/
end
end L2
namespace L2
open PySem PySem.Spec PyProof.Rows
def MtM (X:Cx) (id:String) (r:V->List V->Hp->VK->Prop):Prop :=
 ∀ (pins:List (Addr × Yb)) (s:Vc) (σ:St) (H:Hp) (x:V) (xs:List V) (v:Value) (us:List Value) (Q:VK),Inv X pins σ H s->RelV x v->Vals xs us->r x xs H Q →
  Vk (Vs X.prog X.w) X.A (call (.builtin id) (v::us)) (EP X pins σ Q) X.xe s
theorem Vals.one:∀ {x:V} {us:List Value},Vals [x] us->∃ u,us=[u]/\RelV x u
 | _,_,.cons r .nil=>⟨_,rfl,r⟩
theorem Vals.zero:∀ {us:List Value},Vals [] us->us=[]
 | _,.nil=>rfl
theorem Vals.dropLast {xs:List V} {us:List Value} (h:Vals xs us):Vals xs.dropLast us.dropLast:=by
 induction h with
 | nil=>exact .nil
 | cons r t ih =>
  cases t with
  | nil=>exact .nil
  | cons q t'=>exact .cons r ih
theorem Vals.eraseIdx:∀ {xs:List V} {us:List Value} (i:Nat),Vals xs us->Vals (xs.eraseIdx i) (us.eraseIdx i)
 | _,_,_,.nil=>.nil
 | _,_,0,.cons _ t=>t
 | _,_,i+1,.cons r t=>.cons r (Vals.eraseIdx i t)
theorem Vals.rep {xs:List V} {us:List Value} (h:Vals xs us):∀ k:Nat,Vals (Vn k xs).flatten (Vn k us).flatten
 | 0=>.nil
 | k+1=>by
  rw[XM,XM,ZP,ZP]
  exact Vals.append h (Vals.rep h k)
theorem DN {α:Type} (l:List α):l.eraseIdx (l.length - 1)=l.dropLast:=by
 induction l with
 | nil=>rfl
 | cons a r ih =>
  cases r with
  | nil=>rfl
  | cons b r =>
   have e:(a::b::r).length - 1=((b::r).length - 1)+1:=by
    have h1:(a::b::r).length=r.length+2:=rfl
    have h2:(b::r).length=r.length+1:=rfl
    lia
   rw[e,List.eraseIdx_cons_succ,ih]
   all_goals rfl
theorem vB {α:Type}:∀ (l:List α) (i:Nat),(l.eraseIdx i).length<=l.length
 | [],_=>Vg _
 | _::_,0=>Xi _
 | _::r,i+1=>ab3 (vB r i)
theorem foldl_rep (its:List Value):∀ (k:Nat) (acc:List Value),
  List.foldl (fun x1 x2=>x1++x2) acc.toArray (Vn k its.toArray)=(acc++(Vn k its).flatten).toArray
 | 0,acc=>by simp
 | k+1,acc=>by
  have e:acc.toArray++its.toArray=(acc++its).toArray:=by simp
  have e2:(acc++its)++(Vn k its).flatten=acc++(Vn (k+1) its).flatten:=by
   rw[XM,ZP,XJ]
  rw[← e2,← foldl_rep its k (acc++its),← e,XM,Wo]
section
variable {X:Cx} {pins:List (Addr × Yb)} {σ:St} {H:Hp} {s:Vc} {l b:Addr} {xs ys zs:List V}
theorem Inv.Tv {its its':List Value} {n:Nat} {f:Array Value->Array Value} {t':Nat} (I:Inv X pins σ H s) (hH:H l=some (.lst xs))
  (e:s.heap.get? l=some { cls:=.type "list",data:=.seq its.toArray n }) (hf:f its.toArray=its'.toArray) (hv:Vals ys its') (hz:ys.length<=sizeLine) :
  Inv X pins σ (upd H l (.lst ys)) { s with heap:=s.heap.update l (Xa f),toks:=t' }:=by
 have q:=PySem.IsL.update e f
 rw[hf] at q
 refine I.write (x:=l) (e:=l) (by rw[hH]; exact trivial) (.inl rfl) (fun b' u hb hu=>(Wl s.heap (Xa f) (Yv hb)).trans hu) ⟨_,q⟩ ?_
 exact⟨hz,its',_,hv,q⟩
theorem Inv.Ss {its:List Value} {t':Nat} (I:Inv X pins σ H s) (hv:Vals ys its) (hz:ys.length<=sizeLine) :
  Inv X pins σ (upd H s.heap.objs.size (.lst ys)) { s with heap:=s.heap.push { cls:=.type "list",data:=.seq its.toArray },toks:=t' } :=
 I.laid (fun _ _ q=>Va _ q) (Vg _) ⟨hz,its,0,hv,Vh _ rfl⟩
theorem Inv.fresh (I:Inv X pins σ H s):H s.heap.objs.size=none:=I.hok.fresh (Vg _)
theorem Inv.Qs (I:Inv X pins σ H s) (hH:H l=some (.lst xs)):xs.length<=sizeLine/\∃ (its:List Value) (n:Nat),Vals xs its/\xs.length=its.length/\s.heap.get? l=some { cls:=.type "list",data:=.seq its.toArray n }:=by
 obtain⟨z,its,n,r,e⟩:=I.hok l _ hH
 exact⟨z,its,n,r,r.length,e⟩
theorem Ke {n:Nat} (h:n<=sizeLine):aaF n=false:=by
 unfold aaF
 exact decide_eq_false (by lia)
end
section
variable {X:Cx}
inductive zX (x:V) (vs:List V) (H:Hp) (Q:VK):Prop where
 | mk (l:Addr) (xs:List V) (y:V) (z0:x = .ref l) (z1:vs=[y]) (z2:H l=some (.lst xs)) (z3:xs.length < sizeLine) (z4:Q .non (upd H l (.lst (xs++[y])))):zX  x vs H Q
def Pb:V->List V->Hp->VK->Prop:=fun x vs H Q=>zX  x vs H Q
theorem cH:MtM X "list.append" Pb:=by
 intro pins s σ H x vs v us Q I rx rv h
 obtain⟨l,xs,y,rfl,rfl,hH,hz,q⟩:=h
 cases rx
 obtain⟨u,rfl,ru⟩:=rv.one
 obtain⟨z,its,n,r,hl,e⟩:=I.Qs hH
 refine aaR F.slot_list_append ⟨_,e,rfl⟩ F.entry_list_append (F.args_list_append_2 _ _) (PySem.list_append l its.toArray n u (by rw[Vu]; lia)) ⟨e,?_⟩
 refine⟨.non,_,I.Tv (its':=its++[u]) hH e (by simp) (r.append (.cons ru .nil)) ?_,rfl,q⟩
 rw[Ve,List.length_singleton]
 lia
def U5:V->List V->Hp->VK->Prop:=fun x vs H Q=>∃ l xs y,x = .ref l/\vs=[]/\H l=some (.lst xs)/\xs[xs.length - 1]? = some y/\Q y (upd H l (.lst xs.dropLast))
theorem QG:MtM X "list.pop" U5:=by
 intro pins s σ H x vs v us Q I rx rv h
 obtain⟨l,xs,y,rfl,rfl,hH,hy,q⟩:=h
 cases rx
 have hus:=rv.zero
 subst hus
 obtain⟨z,its,n,r,hl,e⟩:=I.Qs hH
 obtain⟨u,hu,ru⟩:=r.get hy
 have hy':its.toArray[its.toArray.size - 1]? = some u:=by
  show its.toArray[its.length - 1]? = some u
  rw[← Wh,← hl]
  exact hu
 refine aaR F.slot_list_pop ⟨_,e,rfl⟩ F.entry_list_pop (F.args_list_pop_1 _) (MeetsSeq.list_pop_last l its.toArray n u hy' (by rw[Vu]; lia)) ⟨e,?_⟩
 refine⟨y,_,I.Tv (its':=its.dropLast) hH e ?_ r.dropLast ?_,ru,q⟩
 ·show its.toArray.eraseIdxIfInBounds (its.toArray.size - 1)=its.dropLast.toArray
  rw[Vu,abT,DN]
 ·rw[List.length_dropLast]
  lia
def Nj:V->List V->Hp->VK->Prop:=fun x vs H Q=>∃ l xs i k y,x = .ref l/\vs=[.int i]/\H l=some (.lst xs)/\-(2 ^ 63)<=i/\i < 2 ^ 63/\abX i xs.length=some k/\xs[k]? = some y/\Q y (upd H l (.lst (xs.eraseIdx k)))
theorem Kc:MtM X "list.pop" Nj:=by
 intro pins s σ H x vs v us Q I rx rv h
 obtain⟨l,xs,i,k,y,rfl,rfl,hH,h1,h2,hk,hy,q⟩:=h
 cases rx
 obtain⟨u,rfl,ru⟩:=rv.one
 obtain⟨t,rfl⟩:=ru
 obtain⟨z,its,n,r,hl,e⟩:=I.Qs hH
 obtain⟨w,hw,rw'⟩:=r.get hy
 refine aaR F.slot_list_pop ⟨_,e,rfl⟩ F.entry_list_pop (F.args_list_pop_2 _ _)
  (MeetsSeq.list_pop_at l its.toArray n i t k w (fitsIndex_both h1 h2) (by rw[Vu,← hl]; exact hk) (by rw[← Wh]; exact hw) (by rw[Vu]; lia)) ⟨e,?_⟩
 refine⟨y,_,I.Tv (its':=its.eraseIdx k) hH e ?_ (r.eraseIdx k) ?_,rw',q⟩
 ·show its.toArray.eraseIdxIfInBounds k=(its.eraseIdx k).toArray
  rw[abT]
 ·have:=vB xs k
  lia
inductive Rv (x:V) (y:V) (H:Hp) (Q:VK):Prop where
 | mk (l:Addr) (b:Addr) (xs:List V) (zs:List V) (z0:x = .ref l) (z1:y = .ref b) (z2:H l=some (.lst xs)) (z3:H b=some (.lst zs)) (z4:xs.length+zs.length<=sizeLine) (z5:∀ p,H p=none->Q (.ref p) (upd H p (.lst (xs++zs)))):Rv  x y H Q
def U8:R2:=fun x y H Q=>Rv  x y H Q
theorem Cp:OpR X (Zt .Add) U8:=by
 intro pins s σ H x y v u Q I rx ry h
 obtain⟨l,b,xs,zs,rfl,rfl,hH,hB,hz,q⟩:=h
 cases rx
 cases ry
 obtain⟨z,its,n,r,hl,e⟩:=I.Qs hH
 obtain⟨z2,its2,n2,r2,hl2,e2⟩:=I.Qs hB
 refine PySem.P.add_list e e2 ?_ (by rw[Vu,Vu]; lia)
 have ea:its.toArray++its2.toArray=(its++its2).toArray:=by simp
 rw[ea]
 exact⟨.ref _,_,I.Ss (t':=s.toks) (r.append r2) (by rw[Ve]; lia),rfl,q _ I.fresh⟩
def Uq:R2:=fun x y H Q=>∃ l k xs,x = .ref l/\y = .int k/\H l=some (.lst xs)/\-(2 ^ 63)<=k/\k < 2 ^ 63/\xs.length * k.toNat<=sizeLine ∧
 ∀ p,H p=none->Q (.ref p) (upd H p (.lst (Vn k.toNat xs).flatten))
theorem len_rep {α:Type} (xs:List α) (k:Nat):(Vn k xs).flatten.length=k * xs.length:=by
 induction k with
 | zero=>simp
 | succ k ih=>rw[XM,ZP,Ve,ih,Nat.succ_mul,Nat.add_comm]
theorem R8:OpR X (Zt .Mult) Uq:=by
 intro pins s σ H x y v u Q I rx ry h
 obtain⟨l,k,xs,rfl,rfl,hH,h1,h2,hz,q⟩:=h
 cases rx
 obtain⟨t,rfl⟩:=ry
 obtain⟨z,its,n,r,hl,e⟩:=I.Qs hH
 have hlen:its.toArray.size * k.toNat<=sizeLine:=by rw[Vu,← hl]; exact hz
 have hcap:¬ its.toArray.size * k.toNat > (2 ^ 63 - 1) / 8:=by
  have:(sizeLine:Nat)<=(2 ^ 63 - 1) / 8:=by decide
  lia
 have hfit:¬ (!Builtin.List.listFitsIndex k)=true:=by
  rw[fitsIndex_both h1 h2]
  exact Vm
 have hlong:¬ aaF (its.toArray.size * k.toNat)=true:=by
  rw[Ke hlen]
  exact Vm
 have hnew:List.foldl (fun x1 x2=>x1++x2) #[] (Vn (if its.toArray.isEmpty=true then 0 else k.toNat) its.toArray)=(Vn k.toNat its).flatten.toArray:=by
  have f0:∀ m:Nat,List.foldl (fun x1 x2=>x1++x2) #[] (Vn m its.toArray)=(Vn m its).flatten.toArray:=fun m=>by
   have:=foldl_rep its m []
   rw[List.nil_append] at this
   exact this
  rw[f0]
  cases its with
  | nil=>simp
  | cons a r'=>rw[if_neg (by simp)]
 refine wpAny_binaryOp_repeat_ref (T:="list") (U:="int") (by decide) ⟨_,e,rfl⟩ (fun s'=>typeIs_int s' k t) noFill_list_mul F.fills_int_mul F.slot_int_rmul repeat_list F.slot_int_index.lookup
  (aaR F.slot_int_rmul (typeIs_int s k t) F.entry_int_rmul (F.args_int_rmul_2 _ _) (int___rmul___int_list k t l its.toArray n)
   ⟨e,rfl,⟨_,e,rfl⟩,aaR F.slot_list_mul ⟨_,e,rfl⟩ F.entry_list_mul (F.args_list_mul_2 _ _) (AutoListH.list___mul___list_int_3 l its.toArray n k t hfit hcap hlong) ⟨e,?_⟩⟩)
 rw[hnew]
 exact⟨.ref _,_,I.Ss (t':=s.toks) (r.rep k.toNat) (by rw[len_rep,Nat.mul_comm]; exact hz),rfl,q _ I.fresh⟩
end
section
variable {prog:Vy} {w:V3} {A:V0} {E:Value->Vc->Prop} {s:Vc}
set_option maxRecDepth 100000 in
end
section
variable {X:Cx}
end
end L2
namespace Att
open PySem PySem.W PySem.Calls PyProof.Rows
theorem qI {P:Params} {h:Wb}:∀ (ns:List Int) (vs:List Value),WellAll P h vs (ns.map WData.int)->Ww vs ns:=by
 intro ns
 induction ns with
 | nil =>
  intro vs w
  rw[aai] at w
  cases w
  exact .nil
 | cons n ns ih =>
  intro vs w
  rw[Wa] at w
  cases w with
  | cons a b =>
   cases a
   exact .cons _ _ (ih _ b)
theorem EY {l:OpenLaw} {n:Nat} (hn:l.most=some n) {P:Params} {h:Wb} {args:List WData} {vals:List Value}
  (hpre:l.row.toRowW.claim.pre args=true) (hwl:WellAll P h vals args) :
  ∃ a vs ns,vals=[V4 a]/\args=[WData.list (ns.map WData.int)]/\h.get? a=some { cls:=.type "list",data:=.seq vs.toArray }/\Ww vs ns/\ns.length<=n:=by
 have hsh:WShape.hasAll [] args [.list .int]=true:=(pre_splitW hpre).1
 have hc:l.pre.holds [] { args:=args }=true:=(pre_splitW hpre).2
 obtain⟨d,r,rfl,h1,h2⟩:=hasAllW_cons hsh
 obtain rfl:=hasAllW_nil h2
 obtain⟨xs,rfl,h3⟩:=hasW_list h1
 obtain⟨ns,rfl⟩:=items_int h3
 have hlen:ns.length<=n:=by
  unfold OpenLaw.pre at hc
  have h4:(WTm.not (.lt (.lit (.int (n:Int))) (.len (.arg 0)))).holds [] { args:=[.list (ns.map .int)] }=true:=by
   have h4:=(holds_andW hc).1
   rw[hn] at h4
   exact h4
  have h5:=condW_of h4 (w_not (w_lt w_lit (w_len_list (w_arg rfl))))
  rw[Vb] at h5
  refine ab4 fun q=>?_
  have q':(n:Int) < ((ns.length:Nat):Int):=by lia
  first
   | (rw[decide_eq_true q'] at h5; exact absurd h5 (by decide))
   | (simp at h5; lia)
 cases hwl with
 | cons w1 w2 =>
  cases w2
  cases w1 with
  | list ho hall=>exact⟨_,_,ns,rfl,rfl,ho,qI ns _ hall,hlen⟩
theorem Fy (l:OpenLaw) (args:List WData):l.row.toRowW.claim.post args (.bool true) args=true :=
 postW_of (r:=l.row.toRowW) (X:=(true == true))
  (show WShape.has [] (.bool true) .bool=true by first | rfl | decide | simp [WShape.has,WShape.arms,WShape.armsAll])
  (show (WTm.eq .res (.lit (.bool true))).value [] { args:=args,res:=some (.bool true),after:=args }=some (.bool (true == true)) from w_eq_bool (w_res rfl) w_lit) rfl
theorem zb {l:OpenLaw} {n:Nat} {q:Vy} {loose:List V9} {XP:(V9->Option Value)->Wb->Prop} {YP:V3->Wb->Prop} {d:DefRec}
  (hn:l.most=some n) (hdf:d.params.defaults=[])
  (call:∀ (w:V3) (s₀ s₁:Vc) (mg mb:V9->Option Value) (fa:Addr) (o:Yb) (pm cd doc:Value) (a:Addr) (vs:List Value) (ns:List Int),
   Ground q loose [] XP w s₀ mg mb s₁.heap->YP w s₁.heap →
   s₁.heap.get? fa=some o->o.data = .func (docDef d.name d.params d.body d.scope pm cd doc)->s₁.heap.CodeRec cd d.name->mg d.name=some (.ref fa) →
   s₁.heap.get? a=some { cls:=.type "list",data:=.seq vs.toArray }->Ww vs ns->ns.length<=n->s₁.gens = #[] →
   Xk (Vs l.prog w) abE (.call (.ref fa) ⟨[.ref a],[]⟩) (fun r s'=>r = .ok (.ret (.bool true))/\OldK s₁.heap s'.heap/\s'.os=s₁.os/\aaV s'.gens) s₁) :
  WalkO q loose XP YP l.row.toRowW d [] (fun f vs=>PySem.call f vs):=by
 intro w s₀ s₁ mg mb G Y fa o pm cd doc dV kV ho hd hcd hD hmg hg args vals as hpre hlay hrd hwl hlo
 obtain rfl:dV = .none:=Dflts.none hD hdf
 obtain rfl:kV = .none:=Dflts.noKw hD
 obtain⟨a,vs,ns,rfl,rfl,hobj,hints,hlen⟩:=EY hn hpre hwl
 refine enter_call (ZJ (call w s₀ s₁ mg mb fa o pm cd doc a vs ns G Y ho (fd_plain hd) hcd hmg hobj hints hlen hg) fun r s' hq=>?_)
 obtain⟨rfl,h2,h3,h4⟩:=hq
 exact⟨.inl ⟨.bool true,.bool true,[],rfl,fun _=>rfl,.bool true,Fy l _,fun _=>⟨Yr,fun _ hm=>(nomatch hm)⟩⟩,h2,h3,h4⟩
section
variable {prog:Vy} {w:V3} {A:V0} {E:Value->Vc->Prop} {s:Vc} {K:Frag}
end
end Att
namespace L2
open PySem PySem.Spec PyProof.Rows
theorem ji:∀ {vs:List Value} {ns:List Int},Ww vs ns->Vals (ns.map V.int) vs
 | _,_,.nil=>.nil
 | _,_,.cons n t h=>.cons ⟨t,rfl⟩ (ji h)
def Only (H:Hp):Prop:=∀ b,H b=none∨∃ o xs,H b=some (.frz o (.lst xs))
theorem KN {P:Vy} {w:V3} {K:Vq} {mg mb:V9->Option Value} {CX:CXT} {k:Nat} {fa a:Addr} {fd:X5} {x:V9} {sp:Sp} {s₁:Vc} {vs:List Value} {ns:List Int}
  (KX:K.In s₁.heap) (hns:s₁.heap.Ns VJ mg) (hb:s₁.heap.Ns builtinsNs mb) (hbb:∀ x:V9,x≠"__name__"->mb x=Wt x) (hlim:s₁.heap.NoLimit) (hg:s₁.gens = #[])
  (ha:s₁.heap.get? a=some { cls:=.type "list",data:=.seq vs.toArray }) (hi:Ww vs ns) (hl:ns.length<=sizeLine) (hr:jH k abE)
  (F:∀ base:Wb,K.In base->base.Ns VJ mg->cG P w K mg base CX k fa fd [x] sp) (hbind:∀ (s:Vc) (u:Value),abk s fd ⟨[u],[]⟩ [(x,u)])
  (hsp:∀ H:Hp,Only H->SqL K H a (ns.map V.int)->sp [.ref a] H (fun v _=>v = .bl true) fun _ _ _=>False)
  (hCX:∀ H e s',CX [] H s₁ (fun _ _ _=>False) e s'->False) :
  Xk (Vs P w) abE (.call (.ref fa) ⟨[.ref a],[]⟩) (fun r s'=>r = .ok (.ret (.bool true))/\OldK s₁.heap s'.heap/\s'.os=s₁.os/\aaV s'.gens) s₁:=by
 have rv:=ji hi
 have lenV:=hi.length
 have core:∀ H:Hp,Only H->SqL K H a (ns.map V.int)->HOk P w H s₁.heap->(∀ b,H b≠none->b=a)->(H a≠none->K.lookup a=none) →
   Xk (Vs P w) abE (.call (.ref fa) ⟨[.ref a],[]⟩) (fun r s'=>r = .ok (.ret (.bool true))/\OldK s₁.heap s'.heap/\s'.os=s₁.os/\aaV s'.gens) s₁:=by
  intro H hO hS hok hA hK
  have base_of:∀ {b:Addr} {o:Yb},s₁.heap.get? b=some o->H b=none->(JN s₁.heap H).get? b=some o:=fun e n=>JG e n
  have noA:∀ {b:Addr} {o:Yb} {es:Array DictEntry} {ep:Nat},s₁.heap.get? b=some o->o.data = .dict es ep->H b=none:=fun {b o es ep} e d=>by
   cases q:H b with
   | none=>rfl
   | some u =>
    have e':b=a:=hA b (by rw[q]; simp)
    subst e'
    rw[ha] at e; cases e
    have d':Data.seq vs.toArray _=Data.dict es ep:=d
    cases d'
  have nsK:∀ {b:Addr} {m:V9->Option Value},s₁.heap.Ns b m->(JN s₁.heap H).Ns b m:=fun {b m} ⟨o,es,ep,e,d,r⟩=>⟨o,es,ep,base_of e (noA e d),d,r⟩
  have hKb:K.In (JN s₁.heap H):=fun b o e=>base_of (KX b o e) (by
   cases q:H b with
   | none=>rfl
   | some u =>
    have e':b=a:=hA b (by rw[q]; simp)
    subst e'
    rw[hK (by rw[q]; simp)] at e; cases e)
  have hM:Mod K mg (JN s₁.heap H):=⟨hKb,nsK hns,⟨mb,nsK hb,hbb⟩,let ⟨mc,h1,h2⟩:=hlim; ⟨mc,nsK h1,h2⟩⟩
  have e0:Pg P w K mg (JN s₁.heap H) abE [] s₁ H:=⟨rfl,hM,fun b o e=>Qg e,Nat.le_of_eq (HB _ _),trivial,fun b hb=>absurd (show b∈([]:List Addr) from hb) (by simp),hok,.of_eq hg⟩
  refine ZJ ((F _ hKb (nsK hns)).run abE [] s₁ H ⟨[.ref a],[]⟩ [.ref a] [.ref a] _ _ hr e0 (hbind s₁ (.ref a)) (.cons rfl .nil) (hsp H hO hS)) fun r s' h=>?_
  cases r with
  | error e=>exact (hCX H e s' h).elim
  | ok fl =>
   cases fl with
   | next=>exact Yl h
   | brk=>exact Yl h
   | cont=>exact Yl h
   | ret u =>
    obtain⟨v,H',os,bare,un,hok',r',q⟩:=h
    have q':v = .bl true:=q
    subst q'
    obtain rfl:u=abv true:=r'
    refine⟨rfl,OldK.of_keep fun b o e=>?_,os,bare⟩
    cases q:H b with
    | none=>exact un.keep b o e q (by intro z; exact absurd (show b∈([]:List Addr) from z) (by simp)) (by simp)
    | some u =>
     rcases hO b with z | ⟨ob,xs,z⟩
     ·rw[q] at z; cases z
     ·have z2:=un.frzs b ob _ z
      obtain⟨e1,_⟩:=hok b _ z
      obtain⟨e2,_⟩:=hok' b _ z2
      rw[e] at e1; cases e1
      exact e2
 cases hk:K.lookup a with
 | some o =>
  have e:=KX a o hk
  rw[ha] at e
  cases e
  refine core (fun _=>none) (fun _=>.inl rfl) (.inr ⟨_,vs.toArray,_,hk,rfl,rfl,rfl,by rw[Vu,lenV]; exact hl,by simpa using rv⟩) (fun b u z=>by have z':(none:Option HO)=some u:=z; cases z') (fun b z=>absurd rfl z) fun z=>absurd rfl z
 | none =>
  refine core (fun b=>if b=a then some (.frz { cls:=.type "list",data:=.seq vs.toArray } (.lst (ns.map V.int))) else none) (fun b=>?_) (.inl (.inr ⟨{ cls:=.type "list",data:=.seq vs.toArray },if_pos rfl⟩)) (fun b u z=>?_) (fun b z=>?_) fun _=>hk
  ·by_cases hb:b=a
   ·exact .inr ⟨_,_,if_pos hb⟩
   ·exact .inl (if_neg hb)
  ·by_cases hb:b=a
   ·have z':=(if_pos hb).symm.trans z
    cases z'
    subst hb
    exact⟨ha,by rw[Vb]; exact hl,vs,_,rv,ha⟩
   ·have z':=(if_neg hb).symm.trans z
    cases z'
  ·by_cases hb:b=a
   ·exact hb
   ·exact absurd (if_neg hb) z
end L2
namespace L2
open PySem PySem.Spec PyProof.Rows
theorem Pu {l:PySem.W.OpenLaw} {n k:Nat} {q:Vy} {loose:List V9} {XP:(V9->Option Value)->Wb->Prop} {YP:V3->Wb->Prop} {d:DefRec} {K:Params->Vq} {CX:V3->CXT} {sp:V3->Sp} {x:V9}
  (hn:l.most=some n) (hn2:n<=sizeLine) (hdf:d.params.defaults=[]) (hr:jH k abE)
  (hY:∀ (w:V3) (h:Wb),YP w h->(K w.params).In h)
  (F:∀ (w:V3) (mg:V9->Option Value) (fa:Addr) (h:Wb),(K w.params).In h->h.Ns VJ mg->mg d.name=some (.ref fa) →
   ∃ fd:X5,(∀ (s:Vc) (u:Value),abk s fd ⟨[u],[]⟩ [(x,u)]) ∧
    ∀ base:Wb,(K w.params).In base->base.Ns VJ mg->cG l.prog w (K w.params) mg base (CX w) k fa fd [x] (sp w))
  (hsp:∀ (w:V3) (H:Hp) (a:Addr) (ns:List Int),ns.length<=n->Only H->SqL (K w.params) H a (ns.map V.int)->sp w [.ref a] H (fun v _=>v = .bl true) fun _ _ _=>False)
  (hCX:∀ (w:V3) (H:Hp) (s:Vc) (e:Value) (s':Vc),CX w [] H s (fun _ _ _=>False) e s'->False) :
  PySem.W.WalkO q loose XP YP l.row.toRowW d [] (fun f vs=>PySem.call f vs):=by
 refine Att.zb hn hdf fun w s₀ s₁ mg mb fa o pm cd doc a vs ns G Y ho hd hcd hmg hobj hints hlen hg=>?_
 have KX:=hY w _ Y
 obtain⟨fd,hb,hF⟩:=F w mg fa _ KX G.T.g hmg
 exact KN KX G.T.g G.T.b G.T.builtins G.T.nolimit hg hobj hints (V2 hlen hn2) hr hF hb (fun H hO hS=>hsp w H a ns hlen hO hS) fun H e s'=>hCX w H s₁ e s'
end L2
namespace L2
open PySem PySem.Spec PyProof.Rows
def inClass (s:Stmt) (j:Nat):Stmt:=match s with
 | .ClassDef _ _ _ body _ _ _ _ _ _ _=>body.getD j (.Pass ⟨0,0,0,0⟩)
 | _=>.Pass ⟨0,0,0,0⟩
def fu (s:Stmt):Arguments:=match s with
 | .FunctionDef _ a _ _ _ _ _ _ _ _=>a
 | _=>{ posonlyargs:=[],args:=[],vararg:=none,kwonlyargs:=[],kw_defaults:=[],kwarg:=none,defaults:=[] }
def eG (s:Stmt):List Stmt:=match s with
 | .FunctionDef _ _ b _ _ _ _ _ _ _=>b
 | _=>[]
def aD (s:Stmt):Yg:=match s with
 | .FunctionDef _ _ _ _ _ _ sc _ _ _=>sc
 | _=>{ kind:=.function,names:=[],isGenerator:=false,isCoroutine:=false }
abbrev CX0:CXT:=fun _ _ _ _ _ _=>False
abbrev E0:XK:=fun _ _ _=>False
theorem GD {X:Cx}:Passes CX0 X E0:=fun _ _ _ _ _ _ _ h=>h.elim
structure Fun (K:Vq) (x qual:V9) (st:Stmt) (f:Addr) (fd:X5):Prop where
 ex:∃ (oc:Value) (od:Option Addr) (kV doc pm:Value) (an:Option Addr) (cdv ct:Value) (osl:Array (Option Value)),
  fd=Zh x qual (fu st) (eG st) (aD st) .none kV doc pm an cdv ct/\K.lookup f=some ⟨oc,od,.func fd,osl⟩/\aao K cdv qual=true
 kp:Yi K (.ref f)=true
section
variable {P:Vy} {w:V3} {K:Vq} {mg:V9->Option Value} {base:Wb}
theorem Fun.ok {x qual:V9} {st:Stmt} {f:Addr} {fd:X5} {N ps:List V9} {k:Nat} {sp:Sp} (F:Fun K x qual st f fd) (S:aO N ps (aD st)) (len:∀ vs H Q E,sp vs H Q E->vs.length=ps.length)
  (hbody:∀ (cdv:Value) (A:V0) (outer:List Env) (s:Vc) (H:Hp) (vs:List V) (Q:VK) (E:XK),jH k (A.deeper (abu qual (aD st) s.heap.objs.size f cdv))->sp vs H Q E →
   ∃ t,PSs (Qt CX0 P w K mg base N qual (aD st) f cdv A outer s H E).nox (eG st) t/\t { nx:=fun _ H'=>Q .non H',rt:=Q } (start N vs) H):cG P w K mg base CX0 (k+1) f fd ps sp:=by
 obtain⟨oc,od,kV,doc,pm,an,cdv,ct,osl,rfl,lk,hcd⟩:=F.ex
 refine Tj lk hcd S len fun A outer s H vs Q E hr hsp=>?_
 obtain⟨t,h,q⟩:=hbody cdv A outer s H vs Q E hr hsp
 exact⟨t,h.nox,q⟩
theorem Fun.binds {x qual:V9} {st:Stmt} {f:Addr} {fd:X5} {ps:List V9} (F:Fun K x qual st f fd)
  (h:∀ (kV doc pm:Value) (an:Option Addr) (cdv ct:Value) (us:List Value),us.length=ps.length->aa5 (Zh x qual (fu st) (eG st) (aD st) .none kV doc pm an cdv ct) ⟨us,[]⟩=pure (ps.zip us)):Binds K fd ps []:=by
 obtain⟨oc,od,kV,doc,pm,an,cdv,ct,osl,rfl,lk,hcd⟩:=F.ex
 exact .all (h kV doc pm an cdv ct)
theorem Bf {x qual:V9} {st:Stmt} {f:Addr} {oc:Value} {od an:Option Addr} {osl:Array (Option Value)} {kV doc pm cdv ct:Value} (l:K.lookup f=some ⟨oc,od,.func (Zh x qual (fu st) (eG st) (aD st) .none kV doc pm an cdv ct),osl⟩)
  (c:aao K cdv qual=true) (k:Yi K (.ref f)=true):Fun K x qual st f (Zh x qual (fu st) (eG st) (aD st) .none kV doc pm an cdv ct):=⟨⟨oc,od,kV,doc,pm,an,cdv,ct,osl,rfl,l,c⟩,k⟩
end
theorem aJ {n:Nat} (h:n<=1000):n < sizeLine:=Yj h (by decide)
section
variable {X:Cx}
theorem pv (i:Nat) {x:V9} {pos:Zf} (hN:X.N[i]? = some x:=by rfl) (hv:Vis X.env.scope x:=by first | exact Vv rfl | exact aba (Vv rfl) | exact aba (aba rfl)) (hd:(x == ("__debug__" : V9))=false:=by decide)
  (hcd:(x == ("__classdict__" : V9))=false:=by decide):PE X (.Name x pos) (S9 i):=Ri hN hv hd hcd
end
theorem cX {A B:Prop} (h:B):if false=true then A else B:=by
 rw[if_neg Vm]
 exact h
theorem fX {A B:Prop} (h:A):if true=true then A else B:=by
 rw[if_pos rfl]
 exact h
theorem xx {c A B:Prop} [Decidable c] (h1:c->A) (h2:¬ c->B):if c then A else B:=by
 by_cases h:c
 ·rw[if_pos h]
  exact h1 h
 ·rw[if_neg h]
  exact h2 h
def aZ (H H':Hp):Prop:=∀ b o,H b=some o->H' b=some o
theorem aZ.refl (H:Hp):aZ H H:=fun _ _ h=>h
theorem aZ.trans {H H1 H2:Hp} (a:aZ H H1) (b:aZ H1 H2):aZ H H2:=fun c o h=>b c o (a c o h)
theorem aZ.free {H H':Hp} (e:aZ H H') {l:Addr} (h:H' l=Option.none):H l=Option.none:=by
 cases q:H l with
 | none=>rfl
 | some o =>
  rw[e l o q] at h
  cases h
theorem aZ.seq {K:Vq} {H H':Hp} {a:Addr} {xs:List V} (e:aZ H H') (h:SqL K H a xs):SqL K H' a xs:=by
 rcases h with (h | ⟨o,h⟩) | h
 ·exact .inl (.inl (e _ _ h))
 ·exact .inl (.inr ⟨o,e _ _ h⟩)
 ·exact .inr h
end L2
set_option maxHeartbeats 4000000
namespace L2
open PySem PySem.Spec PyProof.Rows
theorem zJ {env:Env}:∀ {names:List (V9 × aap)} {x:V9},names.lookup x=some .free →
  (names.map fun (n,k)=>if (k == Xq && env.scope.kind == .function && env.kindOf n == some .cell) then (n,Z0) else (n,k)).lookup x=some .cell ∨
  (names.map fun (n,k)=>if (k == Xq && env.scope.kind == .function && env.kindOf n == some .cell) then (n,Z0) else (n,k)).lookup x=some .free
 | [],_,h=>by simp at h
 | (n,k)::r,x,h=>by
  have ih:=@zJ env r x
  rw[Wa]
  cases hx:x == n with
  | true =>
   rw[Wx,hx] at h
   cases h
   by_cases hc:(Xq == Xq && env.scope.kind == .function && env.kindOf n == some .cell)=true
   ·refine .inl ?_
    dsimp only
    rw[if_pos hc,Wx,hx]
   ·refine .inr ?_
    dsimp only
    rw[if_neg hc,Wx,hx]
  | false =>
   rw[Wx,hx] at h
   dsimp only
   by_cases hc:(k == Xq && env.scope.kind == .function && env.kindOf n == some .cell)=true
   ·rw[if_pos hc,Wx,hx]; exact ih h
   ·rw[if_neg hc,Wx,hx]; exact ih h
theorem ph {env:Env}:∀ {names:List (V9 × aap)} {x:V9} {k':aap},
  (names.map fun (n,k)=>if (k == Xq && env.scope.kind == .function && env.kindOf n == some .cell) then (n,Z0) else (n,k)).lookup x=some k'->names.lookup x=some k'∨names.lookup x=some .free
 | [],_,_,h=>by simp at h
 | (n,k)::r,x,k',h=>by
  have ih:=@ph env r x k'
  rw[Wa] at h
  dsimp only at h
  cases hx:x == n with
  | true =>
   rw[Wx,hx]
   by_cases hc:(k == Xq && env.scope.kind == .function && env.kindOf n == some .cell)=true
   ·have hk:k = .free:=by
     rw[WD,WD] at hc
     exact eq_of_beq hc.1.1
    exact .inr (by rw[hk])
   ·rw[if_neg hc,Wx,hx] at h
    exact .inl h
  | false =>
   rw[Wx,hx]
   by_cases hc:(k == Xq && env.scope.kind == .function && env.kindOf n == some .cell)=true
   ·rw[if_pos hc,Wx,hx] at h; exact ih h
   ·rw[if_neg hc,Wx,hx] at h; exact ih h
theorem yK {env:Env}:∀ (names:List (V9 × aap)) (acc:List (V9 × Addr)),(∀ y∈names,y.2 = .free->∃ c,env.cells.lookup y.1=some c)->(∀ n c,acc.lookup n=some c->env.cells.lookup n=some c) →
  ∃ cl,(forIn names acc (fun (x:V9 × aap) (r:List (V9 × Addr))=>(match x with | (name,kind)=>if (kind == Xq)=true then (do let c ← cellOf env name; pure (ZC ((name,c)::r))) else pure (ZC r):Sem (ForInStep (List (V9 × Addr))))))=pure cl ∧
   (∀ n c,cl.lookup n=some c->env.cells.lookup n=some c)/\(∀ n c,acc.lookup n=some c->∃ c',cl.lookup n=some c')/\∀ y∈names,y.2 = .free->∃ c,cl.lookup y.1=some c
 | [],acc,_,h=>⟨acc,by rw[Zc],h,fun _ c e=>⟨c,e⟩,fun y hy=>by simp at hy⟩
 | (n,k)::r,acc,hf,h=>by
  rw[Zy]
  dsimp only
  by_cases hk:(k == Xq)=true
  ·rw[if_pos hk]
   have hk':k = .free:=eq_of_beq hk
   obtain⟨c,hc⟩:=hf (n,k) Vj hk'
   have hc:env.cells.lookup n=some c:=hc
   have ec:cellOf env n=pure c:=by unfold cellOf; rw[hc]
   have h2:∀ m d,((n,c)::acc).lookup m=some d->env.cells.lookup m=some d:=fun m d e=>by
    rw[Wx] at e
    cases hx:m == n with
    | true=>rw[hx] at e; cases e; rw[eq_of_beq hx]; exact hc
    | false=>rw[hx] at e; exact h m d e
   obtain⟨cl,e1,e2,e3,e4⟩:=yK r ((n,c)::acc) (fun y hy=>hf y (Vp _ hy)) h2
   refine⟨cl,by rw[ec,pure_bind,pure_bind]; exact e1,e2,fun m d e=>?_,fun y hy hyf=>?_⟩
   ·refine (match hx:m == n with | true=>e3 m c (by rw[Wx,hx]) | false=>e3 m d (by rw[Wx,hx]; exact e))
   ·rcases List.mem_cons.mp hy with rfl | hy
    ·exact e3 n c (by rw[Wx,beq_self_eq_true])
    ·exact e4 y hy hyf
  ·rw[if_neg hk]
   obtain⟨cl,e1,e2,e3,e4⟩:=yK r acc (fun y hy=>hf y (Vp _ hy)) h
   refine⟨cl,by rw[pure_bind]; exact e1,e2,e3,fun y hy hyf=>?_⟩
   rcases List.mem_cons.mp hy with rfl | hy
   ·exact absurd (by rw[show k=Xq from hyf]; rfl) hk
   ·exact e4 y hy hyf
theorem uz {scope:Yg} {env:Env} (h:∀ y∈scope.names,y.2 = .free->∃ c,env.cells.lookup y.1=some c) :
  ∃ cl,closureFor scope env=pure cl/\(∀ n c,cl.lookup n=some c->env.cells.lookup n=some c)/\∀ y∈scope.names,y.2 = .free->∃ c,cl.lookup y.1=some c:=by
 obtain⟨cl,e1,e2,_,e4⟩:=yK scope.names [] h (fun _ _ e=>by simp at e)
 refine⟨cl,?_,e2,e4⟩
 unfold closureFor
 first
  | exact e1
  | (rw[← bind_pure (x:=pure cl),← e1]; rfl)
  | (simp only[bind_pure]; exact e1)
def bI (X:Cx) (scope:Yg) (cl:List (V9 × Addr)) (C:Addr) (N:List V9) (s:Vc) (H:Hp) (fp:List Addr):Cx :=
 {X with N:=N,s₀:=s,H₀:=H,env:=aan scope cl C X.env,outer:=X.stack,ex:=fp,fn:=fun _=>false,pn:=[],xe:=fun _ _=>False }
structure qi (X:Cx) (scope:Yg) (F:List V9) (cap:List Nat):Prop where
 kind:scope.kind = .function
 cell:∀ y∈scope.names,y.2≠.cell
 nms:∀ y∈scope.names,y.2 = .local->scope.names.lookup y.1=some .local
 fr:∀ y∈scope.names,y.2 = .free->X.env.kindOf y.1=some .cell∨X.env.kindOf y.1=some .free
 len:cap.length=F.length
 at':∀ (k:Nat) (x:V9),F[k]? = some x->∃ i,cap[k]? = some i/\X.N[i]? = some x/\scope.names.lookup x=some .free
def PTs (X:Cx) (ifs:List Expr) (t:TT):Prop :=
 ∀ (pins:List (Addr × Yb)) (s:Vc) (σ:St) (H:Hp) (Q:Bool->Hp->Prop),Inv X pins σ H s->t σ H Q →
  Vk (Vs X.prog X.w) X.A (forIn ifs true fun c r=>if r=true then do let ok ← isTrue c X.env (Xn c X.env); pure (ZC ok) else pure (ZC r)) (TP X pins σ Q) X.xe s
def Qc:TT:=fun _ H Q=>Q true H
theorem bV {X:Cx}:PTs X [] Qc:=fun _ _ _ H _ I h=>wpAny_tests_nil ⟨H,I,h⟩
theorem mR {X:Cx} {c:Expr} {t:TT} (hc:PT X c t):PTs X [c] t:=fun pins s σ H Q I h=>wpAny_tests_one (hc pins s σ H Q I h)
theorem sH {prog:Vy} {w:V3} {A:V0} {R:aa8->Vc->Prop} {s:Vc} {elt target iter:Expr} {ifs:List Expr} {scope:Yg} {pos:Zf} {it acc:Value} {env:Env} (I:Nat->Vc->Prop)
  (turn:∀ n s,I n s->Vk (Vs prog w) A (X3 it) (fun r s₁=>match r with
   | none=>R (.ok .next) s₁
   | some v=>Vk (Vs prog w) A (Yn target it v) (fun _ s₀=>Vk (Vs prog w) A (aa6 target env v) (fun _ s₂ =>
     Vk (Vs prog w) A (forIn ifs true fun c r=>if r=true then do let ok ← isTrue c env (Xn c env); pure (ZC ok) else pure (ZC r)) (fun ok s₃ =>
      if ok=true then Vk (Vs prog w) A (Xn elt env) (fun x s₄=>Vk (Vs prog w) A (call (.builtin "list.append") [acc,x]) (fun _ s₅=>∃ m,m < n/\I m s₅) (fun _ _=>False) s₄) (fun _ _=>False) s₃
      else ∃ m,m < n/\I m s₃) (fun _ _=>False) s₂) (fun _ _=>False) s₀) (fun _ _=>False) s₁) (fun _ _=>False) s)
  (n:Nat) (h:I n s):Xk (Vs prog w) A (.compLoop (.ListComp elt [⟨target,iter,ifs,0⟩] scope pos) 0 it acc env) R s:=by
 have no:∀ {E:Value->Vc->Prop} (x:Value) (s':Vc),(fun (_:Value) (_:Vc)=>False) x s'->E x s':=fun _ _ z=>z.elim
 refine codeAny_loop rfl I (fun n s hI=>?_) n h
 refine (show Vk (Vs prog w) A ((compTurn (.ListComp elt [⟨target,iter,ifs,0⟩] scope pos) 0 it acc env).onRaise (fun x=>do noteFrame x env; ace x)) _ _ s from wpAny_noted ?_)
 rw[compTurn_list]
 refine U9 (Zo (U9 (WN (turn n s hI) (fun r s₁ h₁=>?_) no)))
 cases r with
 | none=>exact Vd h₁
 | some v =>
  refine U9 (WN h₁ (fun _ s₀ h₀=>U9 (WN h₀ (fun _ s₂ h₂=>U9 (WN h₂ (fun ok s₃ h₃=>?_) no)) no)) no)
  cases ok with
  | false=>exact Vd ⟨rfl,h₃⟩
  | true=>exact U9 (U9 (WN h₃ (fun x s₄ h₄=>U9 (WN h₄ (fun _ s₅ h₅=>Vd (Vd ⟨rfl,h₅⟩)) no)) no))
def gO (D:Addr) (σ0:St) (J:It) (g:TG) (tt:TT) (te:TE) (H1:Hp) (Q:Hp->Prop):Prop :=
 ∃ W:Nat->Nat->List V->St->Hp->Prop,(∃ m,W 0 m [] σ0 (upd H1 D (.lst []))) ∧
  ∀ i m ys σ' H',W i m ys σ' H'->H' D=some (.lst ys)/\((J.stop i H'/\Q H')∨(J.go i H'/\∃ N:List V->St->Hp->Prop,(∀ zs σ2 H2,N zs σ2 H2->∃ m',m' < m/\W (i+1) m' zs σ2 H2) ∧
   ∀ x H2,J.yld i H' x H2->g x σ' H2 fun σ3 H3=>tt σ3 H3 fun b H4=>if b=true then te σ3 H4 fun y H5=>H5 D=some (.lst ys)/\ys.length < sizeLine/\N (ys++[y]) σ3 (upd H5 D (.lst (ys++[y]))) else N ys σ3 H4))
def HS (n:Nat) (cap:List Nat) (σ:St):St:=Vn n none++cap.map fun i=>(σ[i]?).join
def RD (n:Nat) (cap:List Nat) (wi:TI) (g:TG) (tt:TT) (te:TE):TE:=fun σ H Q=>wi σ H fun J H1=>∀ D,H1 D=none->gO D (HS n cap σ) J g tt te H1 fun H2=>Q (.ref D) H2
section
variable {X:Cx} {elt tg iter:Expr} {ifs:List Expr} {scope:Yg} {pos:Zf} {L F:List V9} {cap:List Nat} {wi:TI} {g:TG} {tt:TT} {te:TE}
theorem pQ {pins:List (Addr × Yb)} {σ:St} {H:Hp} {s:Vc} (I:Inv X pins σ H s) {b:Addr} (h1:b≠X.env.locals) (h2:b ∉ X.fs):b ∉ frs X.stack:=fun z=>(List.mem_cons.mp (I.Jm b z)).elim h1 h2
theorem sW {cl:List (V9 × Addr)} {pins:List (Addr × Yb)} {σ:St} {H:Hp} {s:Vc} {fp:List Addr} {h₁:Wb} {tk:Nat} (ok:qi X scope F cap) (I:Inv X pins σ H s) (hfp:∀ b∈fp,qT X pins H b/\b < s.heap.objs.size)
  (sub:∀ n c,cl.lookup n=some c->X.env.cells.lookup n=some c) (all:∀ y∈scope.names,y.2 = .free->∃ c,cl.lookup y.1=some c)
  (ns:h₁.Ns s.heap.objs.size fun _=>none) (kp:∀ b o,s.heap.get? b=some o->h₁.get? b=some o) :
  Inv (bI X scope cl s.heap.objs.size (L++F) s H fp) [] (HS L.length cap σ) H { s with heap:=h₁,toks:=tk }:=by
 have frk:∀ x,scope.names.lookup x=some .free->X.env.kindOf x=some .cell∨X.env.kindOf x=some .free:=fun x e=>ok.fr (x,.free) (WL e) rfl
 have okX:(bI X scope cl s.heap.objs.size (L++F) s H fp).Ok:=by
  refine⟨I.ok.mod,ok.kind,I.ok.glob,I.ok.blt,Vg _,fun x y c e1 e2=>I.ok.inj x y c (sub x c e1) (sub y c e2),fun x hx=>?_,fun x c hx _=>?_,I.ok.hd,I.ok.frames,.inl rfl,fun b hb=>?_,I.bs,V2 I.ok.bsz I.sz,fun b o e hb=>?_,fun b hb=>?_,I.stack,I.zu⟩
  ·have e:scope.names.lookup x=some .free:=by
    rcases hx with hx | hx
    ·rcases ph (env:=X.env) (show _=some Z0 from hx) with e | e
     ·exact absurd rfl (ok.cell _ (WL e))
     ·exact e
    ·rcases ph (env:=X.env) (show _=some Xq from hx) with e | e <;> exact e
   exact all (x,.free) (WL e) rfl
  ·exact absurd (show false=true from hx) Vm
  ·exact⟨Vx (hfp b hb).2,fun x c e=>(hfp b hb).1.2.2.2.2.1 x c (sub x c e)⟩
  ·obtain⟨_,_,_,f3,_⟩:=(hfp b hb).1
   rcases f3 with z | z
   ·exact I.ok.noex b o e z
   ·exact absurd (Vt (Vo e) (V2 I.ok.bsz z)) (W5 _)
  ·obtain⟨_,f1,f2,_⟩:=(hfp b hb).1
   exact pQ I f1 f2
 refine⟨okX,rfl,I.bare,Un.kept kp,⟨_,ns,fun i x v e1 e2 e3=>?_⟩,fun x c e=>?_,I.hok.fresh (Vg _),fun x c e=>I.freeC x c (sub x c e),fun p hp=>absurd (show p∈([]:List (Addr × Yb)) from hp) (by simp),I.hok.kept kp,?_⟩
 ·have e1:(L++F)[i]? = some x:=e1
  have e2:(Vn L.length none++cap.map fun i=>(σ[i]?).join)[i]? = some (some v):=e2
  have hL:¬ i < L.length:=fun hi=>by
   rw[aas (by simpa using hi),X7] at e2
   split at e2 <;> cases e2
  have hi:L.length<=i:=ab4 hL
  rw[Yk hi] at e1
  rw[Yk (by simpa using hi),VR,VF] at e2
  obtain⟨j,hj,hN,hk⟩:=ok.at' _ _ e1
  rw[hj] at e2
  have e4:(σ[j]?).join=some v:=by simpa using e2
  have e5:σ[j]? = some (some v):=by
   cases q:σ[j]? with
   | none=>rw[q] at e4; cases e4
   | some a=>rw[q] at e4; exact congrArg some e4
  obtain⟨m,hn,hl⟩:=I.loc
  have kd:=frk x hk
  obtain⟨u,r,lk⟩:=hl j x v hN e5 (kd.elim (fun z=>.inr (.inl z)) fun z=>.inr (.inr z))
  obtain⟨c,hc,hcell⟩:∃ c,X.env.cells.lookup x=some c/\s.heap.IsCell c (some u):=by
   rcases lk with⟨z,_⟩ | ⟨_,c,z1,z2⟩
   ·rcases kd with y | y <;> (rw[y] at z; cases z)
   ·exact⟨c,z1,z2⟩
  obtain⟨c',hc'⟩:=all (x,.free) (WL hk) rfl
  have ec:c'=c:=by
   have:=sub x c' hc'
   rw[hc] at this
   exact (Wn this).symm
  subst ec
  obtain⟨o,ho,hd⟩:=hcell
  exact⟨u,r,.inr ⟨(zJ (env:=X.env) hk),c',hc',o,kp _ _ ho,hd⟩⟩
 ·obtain⟨v,o,ho,hd⟩:=I.cell x c (sub x c e)
  exact⟨v,o,kp _ _ ho,hd⟩
 ·show (Vn L.length (none:Option V)++cap.map fun i=>(σ[i]?).join).length=(L++F).length
  rw[Ve,Ve,VR,Vb,ok.len]
theorem Ca {cl:List (V9 × Addr)} {pins:List (Addr × Yb)} {σ:St} {s2:Vc} {H2:Hp} {it:Addr} {fp:List Addr} {tn:Nat->Wb->Prop} {J:It} {use:Option (Value->Sem Unit)} {QQ:Value->Vc->Prop} {Z:Hp->Prop} {E:Value->Vc->Prop}
  (hc:X.calm=true) (ok:qi X scope F cap)
  (sub:∀ n c,cl.lookup n=some c->X.env.cells.lookup n=some c) (all:∀ y∈scope.names,y.2 = .free->∃ c,cl.lookup y.1=some c)
  (hg:∀ cl C s H fp,PG (bI X scope cl C (L++F) s H fp) tg g) (ht:∀ cl C s H fp,PTs (bI X scope cl C (L++F) s H fp) ifs tt) (he:∀ cl C s H fp,PE (bI X scope cl C (L++F) s H fp) elt te)
  (I2:Inv X pins σ H2 s2) (T:Turn X.prog X.w X.K tg J fp it tn) (st2:tn 0 s2.heap) (f2:∀ b∈fp,qT X pins H2 b)
  (q2:gO s2.heap.objs.size (HS L.length cap σ) J g tt te H2 Z)
  (fin:∀ (C:Addr) (s':Vc) (H':Hp),Z H'->Inv X pins σ H' s'->(∃ m,s'.heap.Ns C m)->H' C=none->C≠X.env.locals->X.s₀.heap.objs.size<=C->(∀ x c,X.env.cells.lookup x=some c->c≠C)->(∀ p∈X.pn++pins,p.1≠C) →
   Zr (Vs X.prog X.w) X.A E use QQ (.ref s2.heap.objs.size) C (.ok .next) s') :
  Vk (Vs X.prog X.w) X.A (acr []) (fun acc s₃=>Vk (Vs X.prog X.w) X.A (aal scope X.env.globals cl [] X.env.qual none .none (some X.env)) (fun cenv s₄ =>
   Xk (Vs X.prog X.w) X.A (.compStart (.ListComp elt [⟨tg,iter,ifs,0⟩] scope pos) 0 (.ref it) acc { cenv with scope:=relabel scope X.env }) (Zr (Vs X.prog X.w) X.A E use QQ acc cenv.locals) s₄) E s₃) E s2:=by
 have hD:H2 s2.heap.objs.size=none:=I2.fresh
 refine V6 (wpAny_newFunctionEnv ok.cell (by intro y hy; simp at hy) (fun h₁ hns₁ hsb₁=>?_) ok.kind)
 dsimp only at hns₁ hsb₁ ⊢
 have I3:Inv X pins σ (upd H2 s2.heap.objs.size (.lst [])) { s2 with heap:=s2.heap.push { cls:=.type "list",data:=.seq ([]:List Value).toArray } }:=I2.Ss (t':=s2.toks) (ys:=[]) (its:=[]) .nil (VL _)
 have blt:∀ b∈fp,b < s2.heap.objs.size:=fun b hb=>let ⟨_,e,_⟩:=T.obj 0 _ st2 b hb; Vo e
 have szC:(s2.heap.push { cls:=.type "list",data:=.seq ([]:List Value).toArray }).objs.size=s2.heap.objs.size+1:=V7 _ _
 generalize hs3:({ s2 with heap:=s2.heap.push { cls:=.type "list",data:=.seq ([]:List Value).toArray } }:Vc)=s3 at I3
 have es3:s3.heap=s2.heap.push { cls:=.type "list",data:=.seq ([]:List Value).toArray }:=by rw[← hs3]
 have eos:s3.os=s2.os:=by rw[← hs3]
 have fok:∀ b∈fp,qT X pins (upd H2 s2.heap.objs.size (.lst [])) b/\b < s3.heap.objs.size:=fun b hb=>by
  obtain⟨f0,fr⟩:=f2 b hb
  refine⟨⟨by rw[bh (Vx (blt b hb))]; exact f0,fr⟩,?_⟩
  rw[es3,szC]
  exact Wj (blt b hb)
 have hkp:∀ b o,s3.heap.get? b=some o->h₁.get? b=some o:=fun b o e=>by
  have e':b < s3.heap.objs.size:=Vo e
  rw[es3] at e e'
  exact (hsb₁.2 b (Vx e')).trans (Va _ e)
 have hns:h₁.Ns s3.heap.objs.size fun _=>none:=by
  rw[es3]
  exact hns₁
 have I4:∀ tk,Inv (bI X scope cl s3.heap.objs.size (L++F) s3 (upd H2 s2.heap.objs.size (.lst [])) fp) [] (HS L.length cap σ) (upd H2 s2.heap.objs.size (.lst [])) { s3 with heap:=h₁,toks:=tk }:=fun tk =>
  sW (L:=L) ok I3 fok sub all hns hkp
 have stat:∀ {H':Hp},(∀ b∈fp,H' b=none)->∀ b∈fp,qT (bI X scope cl s3.heap.objs.size (L++F) s3 (upd H2 s2.heap.objs.size (.lst [])) fp) [] H' b:=fun {H'} hn b hb=>by
  obtain⟨⟨_,g1,g2,g3,g4,g5⟩,g6⟩:=fok b hb
  exact⟨hn b hb,Vx g6,pQ I3 g1 g2,.inl hb,fun x c e=>g4 x c (sub x c e),fun p hp=>absurd (show p∈([]:List (Addr × Yb)) from hp) (by simp)⟩
 have loop:∀ tk,Xk (Vs X.prog X.w) X.A (.compLoop (.ListComp elt [⟨tg,iter,ifs,0⟩] scope pos) 0 (.ref it) (.ref s2.heap.objs.size) (aan scope cl s3.heap.objs.size X.env))
   (Zr (Vs X.prog X.w) X.A E use QQ (.ref s2.heap.objs.size) s3.heap.objs.size) { s3 with heap:=h₁,toks:=tk }:=fun tk=>by
  obtain⟨W,⟨m0,w0⟩,turn⟩:=q2
  have st3:tn 0 h₁:=T.keep 0 _ _ st2 fun b hb o e=>hkp b o (by rw[es3]; exact Va _ e)
  refine sH (fun n s'=>∃ i ys σ' H',Inv (bI X scope cl s3.heap.objs.size (L++F) s3 (upd H2 s2.heap.objs.size (.lst [])) fp) [] σ' H' s'/\tn i s'.heap/\(∀ b∈fp,H' b=none)/\W i n ys σ' H') ?_ m0
   ⟨0,[],_,_,I4 tk,st3,fun b hb=>(fok b hb).1.1,w0⟩
  rintro n s5 ⟨i,ys,σ5,H5,I5,st5,fr5,w5⟩
  obtain⟨hDl,alt⟩:=turn i n ys σ5 H5 w5
  rcases alt with⟨stop,qz⟩ | ⟨go,N,hN,step⟩
  ·refine thn (T.done (bI X scope cl s3.heap.objs.size (L++F) s3 (upd H2 s2.heap.objs.size (.lst [])) fp) rfl rfl rfl hc i [] s5 σ5 H5 _ I5 (stat fr5) st5 stop) fun r s6 ⟨hr,I6⟩=>?_
   subst hr
   have un:Un (frs X.stack) fp H2 H5 s2.heap s6.heap:=by
    have u1:Un (frs X.stack) fp H2 (upd H2 s2.heap.objs.size (.lst [])) s2.heap s3.heap:=by
     rw[es3]
     exact Un.laid (fun _ _ q=>Va _ q) (Vg _) hD
    exact u1.trans I6.base
   have J1:Inv X pins σ H5 s6:=I2.call' (I6.os.trans eos) un I6.hok I6.bare fun b hb=>by
    obtain⟨_,g1,_,g3,g4,g5⟩:=f2 b hb
    exact⟨g3,g1,g4,g5⟩
   have hC:s2.heap.objs.size<=s3.heap.objs.size:=by rw[es3,szC]; exact Xi _
   obtain⟨m,hm,_⟩:=I6.loc
   refine fin s3.heap.objs.size s6 H5 qz J1 ⟨m,hm⟩ I6.free (W8 (Vt I2.lt hC)) (V2 I2.sz hC) (fun x c e z=>?_) (fun p hp z=>?_)
   ·obtain⟨v,q⟩:=I2.cell x c e
    exact absurd (Vt q.lt (by rw[z]; exact hC)) (W5 _)
   ·exact absurd (Vt (Vo (I2.pin p hp).1) (by rw[z]; exact hC)) (W5 _)
  ·refine thn (T.item (bI X scope cl s3.heap.objs.size (L++F) s3 (upd H2 s2.heap.objs.size (.lst [])) fp) rfl rfl rfl hc i [] s5 σ5 H5 _ I5 (stat fr5) st5 go) fun r s6 ⟨u,hr,h6⟩=>?_
   subst hr
   refine thn h6 fun _ s7 ⟨x,H7,I7,r7,y7,st7,fr7⟩=>?_
   have I7':=I7.pinned (stat fr7) (T.obj _ _ st7)
   refine thn (hg _ _ _ _ _ _ s7 σ5 H7 x u _ I7' r7 (step x H7 y7)) fun _ s8 ⟨σ8,H8,I8,q8⟩=>?_
   have again:∀ {σ9:St} {H9:Hp} {s9:Vc} {zs:List V},Inv (bI X scope cl s3.heap.objs.size (L++F) s3 (upd H2 s2.heap.objs.size (.lst [])) fp) ([]++kZ fp s7.heap) σ9 H9 s9->N zs σ9 H9 →
     ∃ m,m < n/\∃ i ys σ' H',Inv (bI X scope cl s3.heap.objs.size (L++F) s3 (upd H2 s2.heap.objs.size (.lst [])) fp) [] σ' H' s9/\tn i s9.heap/\(∀ b∈fp,H' b=none)/\W i m ys σ' H':=fun {σ9 H9 s9 zs} I9 n9=>by
    obtain⟨m',hm,w9⟩:=hN zs σ9 H9 n9
    refine⟨m',hm,i+1,zs,σ9,H9,I9.iD,T.keep _ _ _ st7 fun b hb o e=>(I9.pin (b,o) (VG _ (VG _ (cQ hb e)))).1,fun b hb=>?_,w9⟩
    obtain⟨o,e,d⟩:=T.obj _ _ st7 b hb
    exact (I9.pin (b,o) (VG _ (VG _ (cQ hb e)))).2.1
   refine thn (ht _ _ _ _ _ _ s8 σ8 H8 _ I8 q8) fun okb s9 ⟨H9,I9,q9⟩=>?_
   cases okb with
   | false =>
    rw[if_neg Vm] at q9 ⊢
    exact again I9 q9
   | true =>
    rw[if_pos rfl] at q9 ⊢
    refine thn (he _ _ _ _ _ _ s9 σ8 H9 _ I9 q9) fun y s10 ⟨yv,H10,I10,r10,e10,z10,n10⟩=>?_
    refine thn (cH _ s10 σ8 H10 (.ref s2.heap.objs.size) [yv] (.ref s2.heap.objs.size) [y] (fun _ H'=>N (ys++[yv]) σ8 H') I10 rfl (.cons r10 .nil) ⟨_,ys,yv,rfl,rfl,e10,z10,n10⟩) fun _ s11 ⟨_,H11,I11,_,n11⟩=>?_
    exact again I11 n11
 have eC:(s2.heap.push { cls:=.type "list",data:=.seq ([]:List Value).toArray }).objs.size=s3.heap.objs.size:=by rw[es3]
 have goal:∀ tk,Xk (Vs X.prog X.w) X.A (.compStart (.ListComp elt [⟨tg,iter,ifs,0⟩] scope pos) 0 (.ref it) (.ref s2.heap.objs.size) (aan scope cl s3.heap.objs.size X.env))
   (Zr (Vs X.prog X.w) X.A E use QQ (.ref s2.heap.objs.size) s3.heap.objs.size) { s3 with heap:=h₁,toks:=tk }:=fun tk =>
  aaQ (loop tk) (T.self _ 0 _ _ _ (T.keep 0 _ _ st2 fun b hb o e=>hkp b o (by rw[es3]; exact Va _ e)) (loop tk))
 have g0:=goal (s2.toks+([]:List (V9 × Value)).length)
 subst hs3
 exact g0
theorem bQ (hc:X.calm=true) (ok:qi X scope F cap) (hi:PI X tg iter wi)
  (hg:∀ cl C s H fp,PG (bI X scope cl C (L++F) s H fp) tg g) (ht:∀ cl C s H fp,PTs (bI X scope cl C (L++F) s H fp) ifs tt) (he:∀ cl C s H fp,PE (bI X scope cl C (L++F) s H fp) elt te)
  (hs:∀ x,XC iter X.env x=pure x:=by intro _; rfl):PE X (.ListComp elt [⟨tg,iter,ifs,0⟩] scope pos) (RD L.length cap wi g tt te):=by
 intro pins s σ H Q I h
 obtain⟨cl,e1,e2,e3⟩:=uz (scope:=scope) (env:=X.env) (fun y hy hf=>I.ok.has _ (ok.fr y hy hf))
 rw[eval_ListComp]
 refine Zq (use:=none) rfl hs e1 ok.kind ok.nms (thn (hi pins s σ H _ I h) fun v s1 h1=>thn h1 fun itv s2 h2=>?_)
 obtain⟨it,fp,tn,J,H2,e,I2,T,st2,f2,q2⟩:=h2
 subst e
 refine Ca (Z:=fun H'=>Q (.ref s2.heap.objs.size) H') hc ok e2 e3 hg ht he I2 T st2 f2 (q2 _ I2.fresh) fun C s' H' z J m hCf hCl hCs hCc hCp=>?_
 ·obtain⟨m,hm⟩:=m
  exact⟨m,hm,fun h' hs'=>⟨.ref _,H',J.turned (t':=s'.toks) (fun b o hb e=>(hs'.2 b hb).trans e) hCf hCl (.inr hCs) hCc hCp,rfl,z⟩⟩
def Sx (n:Nat) (cap:List Nat) (wi:TI) (g:TG) (tt:TT) (te:TE) (j:Nat):TS:=fun D σ H=>wi σ H fun J H1=>∀ d,H1 d=none->gO d (HS n cap σ) J g tt te H1 fun H2=>D.nx (σ.set j (some (.ref d))) H2
theorem Er {j:Nat} {y:V9} {py spos:Zf} (hN:X.N.Nodup) (hj:X.N[j]? = some y) (hy:Loc X.env.scope y) (hc:X.calm=true) (ok:qi X scope F cap) (hi:PI X tg iter wi)
  (hg:∀ cl C s H fp,PG (bI X scope cl C (L++F) s H fp) tg g) (ht:∀ cl C s H fp,PTs (bI X scope cl C (L++F) s H fp) ifs tt) (he:∀ cl C s H fp,PE (bI X scope cl C (L++F) s H fp) elt te)
  (hsw:abW (.ListComp elt [⟨tg,iter,ifs,0⟩] scope pos) (some (.Name y py)) spos.line X.env=pure true:=by rfl)
  (hs:∀ x,XC iter X.env x=pure x:=by intro _; rfl) (hf:X.fn y=true∨X.env.scope.names.lookup y=some .local:=by first | exact .inl rfl | exact .inr rfl | assumption) :
  PS X (.Assign [.Name y py] (.ListComp elt [⟨tg,iter,ifs,0⟩] scope pos) spos) (Sx L.length cap wi g tt te j):=by
 intro pins s σ H D I h
 obtain⟨cl,e1,e2,e3⟩:=uz (scope:=scope) (env:=X.env) (fun y hy hf=>I.ok.has _ (ok.fr y hy hf))
 rw[exec_Assign_Name_used _ _ _ _ hsw]
 refine U9 (Zo (U9 ?_))
 show Vk (Vs X.prog X.w) X.A (do let _ ← comprehension (.ListComp elt [⟨tg,iter,ifs,0⟩] scope pos) scope X.env _ (acr []) false (Xn iter X.env) (some (aa6 (.Name y py) X.env))) _ _ s
 refine U9 (WN (Zq (use:=some (aa6 (.Name y py) X.env)) (Q:=fun _ s'=>SP X pins D .next s') rfl hs e1 ok.kind ok.nms
  (thn (hi pins s σ H _ I h) fun v s1 h1=>thn h1 fun itv s2 h2=>?_)) (fun _ s' hq=>Vd (Vd hq)) fun _ _ e=>e)
 obtain⟨it,fp,tn,J,H2,e,I2,T,st2,f2,q2⟩:=h2
 subst e
 refine Ca (Z:=fun H'=>D.nx (σ.set j (some (.ref s2.heap.objs.size))) H') hc ok e2 e3 hg ht he I2 T st2 f2 (q2 _ I2.fresh) fun C s' H' z J m hCf hCl hCs hCc hCp=>?_
 obtain⟨m,hm⟩:=m
 refine wpAny_assign_Name (xF J hN hj hy (v:=.ref s2.heap.objs.size) rfl (fun s5 I5 hs5=>?_) hf)
 obtain⟨a,sb,ha⟩:=hs5
 have hne:C≠a:=by
  rcases ha with rfl | ha
  ·exact hCl
  ·exact Yv (hCc y a ha)
 exact⟨m,hm.sameBut sb hne,fun h' hs'=>⟨_,H',I5.turned (t':=s5.toks) (fun b o hb e=>(hs'.2 b hb).trans e) hCf hCl (.inr hCs) hCc hCp,z⟩⟩
end
end L2
namespace L2
open PySem PySem.Spec PyProof.Rows
structure Df (P:Vy) (w:V3) (K:Vq) (mg:V9->Option Value) (base:Wb) (x:V9) (k:Nat) (ps:List V9) (sp:Sp):Prop where
 ex:∃ (f:Addr) (fd:X5),cG P w K mg base CX0 k f fd ps sp/\mg x=some (.ref f)/\Yi K (.ref f)=true/\Binds K fd ps []
section
variable {X:Cx} {k j:Nat} {x:V9} {ps:List V9} {sp:Sp} {p pos:Zf} {e:Expr} {es:List Expr} {t:TA}
theorem aX (D:Df X.prog X.w X.K X.mg X.base x k ps sp) (hr:jH j X.A) (ha:PA X (e::es) t) (hk:k<=j:=by first | decide | exact Vg _ | lia) (hg:Gl X x:=by rfl)
  (hdb:(x == ("__debug__" : V9))=false:=by decide) (he:VN (e::es) X.env=(false,Xn e X.env)::VN es X.env:=by rfl) (hpl:(Yc pos (VN es X.env)).any (·.1)=false:=by rfl) :
  PE X (.Call (.Name x p) (e::es) [] pos) (NZ sp [] E0 t):=by
 obtain⟨f,fd,F,hm,hkp,hb⟩:=D.ex
 exact Oh F (hr.mono hk) hg hm hkp hb .nil GD ha hdb he hpl
theorem qP {i:Int} {tk:Tok} (hm:X.mg x=some (.int i tk)) (hg:Gl X x:=by rfl) (hd:(x == ("__debug__" : V9))=false:=by decide):PE X (.Name x pos) (tC (.int i)):=O3 hg hm ⟨_,rfl⟩ hd
theorem jB {T:String} (hm:X.mg x=none) (hv:Wt x=some (.type T)) (hg:Gl X x:=by rfl) (hn:x≠"__name__":=by decide) (hd:(x == ("__debug__" : V9))=false:=by decide):PE X (.Name x pos) (tC (.ty T)):=NT hg hm hv rfl hn hd
inductive RQ (K:VB) (xs:List V) (H:Hp) (Q:VK):Prop where
 | mk (x:V) (T:String) (t:Value) (b:Bool) (z0:xs=[x,.ty T]) (z1:CW K H x t) (z2:Y9 K t (.type T)=some b) (z3:Q (.bl b) H):RQ K xs H Q
def vo (K:VB):List V->Hp->VK->Prop:=fun xs H Q=>RQ K xs H Q
theorem cg:iQ X (.builtin "isinstance") (vo X.K):=by
 intro pins s σ H xs us Q I r h
 obtain⟨x,T,t,b,rfl,ty,e,q⟩:=h
 obtain⟨u,v,rfl,ru,rv⟩:=vals2 r
 cases (show v=Yh T from rv)
 exact Gy I ru ty e fun tk=>⟨.bl b,H,I.tok tk,rfl,q⟩
def lR (K:VB):List V->Hp->VK->Prop:=fun xs H Q=>∃ (p:Addr) (ys:List V),xs=[.ref p]/\(SqL K H p ys∨SqT K H p ys)/\Q (.int ys.length) H
theorem bx:iQ X (.builtin "len") (lR X.K):=vA
def zE (K:VB):List V->Hp->VK->Prop:=fun xs H Q=>∃ (p:Addr) (ys:List V),xs=[.ref p]/\(SqL K H p ys∨SqT K H p ys)/\∀ l,H l=none->Q (.ref l) (upd H l (.lst ys))
theorem sO:iQ X (.type "list") (zE X.K):=xn
def eX (K:VB):List V->Hp->VK->Prop:=fun xs H Q=>∃ (p:Addr) (ys:List V),xs=[.ref p]/\((SqL K H p ys/\∀ l,H l=none->Q (.ref l) (upd H l (.tup ys)))∨(SqT K H p ys/\Q (.ref p) H))
theorem bF:iQ X (.type "tuple") (eX X.K):=ud
theorem jN:∀ bs:List Bool,(VD bs.length).all (fun i=>bs.getD i true)=bs.all fun b=>b
 | []=>rfl
 | b::r=>by
  have ih:=jN r
  rw[Vr,List.range_succ_eq_map,Z2,abO,Z2,← ih]
  rfl
inductive Ma (K:VB) (xs:List V) (H:Hp) (Q:VK):Prop where
 | mk (p:Addr) (bs:List Bool) (z0:xs=[.ref p]) (z1:SqL K H p (bs.map V.bl)) (z2:Q (.bl (bs.all fun b=>b)) H):Ma K xs H Q
def JM (K:VB):List V->Hp->VK->Prop:=fun xs H Q=>Ma K xs H Q
theorem qj (hc:X.calm=true):iQ X (.builtin "all") (JM X.K):=by
 intro pins s σ H xs us Q I r h
 obtain⟨p,bs,rfl,hq,q⟩:=h
 obtain⟨u,rfl,ru⟩:=vals1 r
 cases ru
 obtain⟨its,rv,pl,hz⟩:=I.list hq
 have hlen:bs.length=its.length:=by simpa using rv.length
 refine call_all_walk (Y5 pl.isList ?_)
 have I1:Inv X pins σ H { s with heap:=s.heap.push { cls:=.type "list_iterator",data:=.fields #[.ref p,.int 0 0] } }:=I.kept (t':=s.toks) fun b o e=>Va _ e
 have hne:p≠s.heap.objs.size:=by
  obtain⟨o,ho,_⟩:=pl.isList
  exact Vx (Vo ho)
 refine⟨s.heap.objs.size,_,_,_,_,_,fun i=>bs.getD i true,rfl,Walks.list (A:=X.A.in1) (I.ok.hd hc) s.heap.objs.size p hne its.toArray,⟨⟨_,Vh _ rfl,rfl,rfl⟩,?_⟩,?_,fun h' tk hk=>?_⟩
 ·obtain⟨o,ho,hr⟩:=pl.isList
  exact⟨o,Va _ ho,hr⟩
 ·intro i v s' Q' E' hP hQ
  have hP:its[i]? = some v:=by simpa using hP
  have hi:i < bs.length:=by
   rw[hlen]
   exact (List.getElem?_eq_some_iff.mp hP).1
  obtain⟨u',hu',ru'⟩:=rv.get (i:=i) (x:=V.bl bs[i]) (by rw[VF,Vf hi]; rfl)
  rw[hP] at hu'
  cases hu'
  cases (show v=abv bs[i] from ru')
  refine X6 ?_
  have eg:bs.getD i true=bs[i]:=by rw[Vi,Vf hi]; rfl
  have hQ':Q' (bs.getD i true) s':=hQ
  rw[eg] at hQ'
  exact hQ'
 ·have f:=I.Jz (b:=s.heap.objs.size) (H':=H) (Vg _) I.fresh
  have eall:(VD its.toArray.size).all (fun i=>bs.getD i true)=bs.all fun b=>b:=by
   have el:its.toArray.size=bs.length:=by rw[Vu,hlen]
   rw[el]
   exact jN bs
  rw[eall]
  exact⟨.bl _,H,I1.turned (t':=tk) (it:=s.heap.objs.size) (fun b o hb e=>hk b o (by simpa using hb) e) f.1 f.2.1 f.2.2.2.1 f.2.2.2.2.1 f.2.2.2.2.2,rfl,q⟩
end
end L2
namespace L2
open PySem PySem.Spec PyProof.Rows
def Io (osc:Yg) (oN:List V9) (sc:Yg) (F:List V9) (cap:List Nat):Bool :=
 decide (sc.kind = .function) && sc.names.all (fun y=>!decide (y.2 = .cell)) && sc.names.all (fun y=>!decide (y.2 = .local) || decide (sc.names.lookup y.1=some .local)) &&
 sc.names.all (fun y=>!decide (y.2 = .free) || decide (osc.names.lookup y.1=some .cell) || decide (osc.names.lookup y.1=some .free)) && decide (cap.length=F.length) &&
 (VD F.length).all fun k=>(decide (F[k]? = none) || decide ((cap[k]?.bind fun i=>oN[i]?)=F[k]?)) && decide ((F[k]?.bind fun x=>sc.names.lookup x)=some .free)
theorem bJ {X:Cx} {osc sc:Yg} {oN F:List V9} {cap:List Nat} (ho:X.env.scope=osc) (hN:X.N=oN) (h:Io osc oN sc F cap=true):qi X sc F cap:=by
 unfold Io at h
 simp only[WD] at h
 obtain⟨⟨⟨⟨⟨h1,h2⟩,h3⟩,h4⟩,h5⟩,h6⟩:=h
 refine⟨of_decide_eq_true h1,fun y hy e=>?_,fun y hy e=>?_,fun y hy e=>?_,of_decide_eq_true h5,fun k x e=>?_⟩
 ·have:=List.all_eq_true.mp h2 y hy
  rw[e] at this
  exact absurd this (by decide)
 ·have:=List.all_eq_true.mp h3 y hy
  rw[decide_eq_true e] at this
  exact of_decide_eq_true (by simpa using this)
 ·have:=List.all_eq_true.mp h4 y hy
  rw[decide_eq_true e] at this
  have z:decide (osc.names.lookup y.1=some .cell)=true∨decide (osc.names.lookup y.1=some .free)=true:=by
   rw[Bool.not_true,aaG,ZD] at this
   exact this
  show X.env.scope.names.lookup y.1=_∨X.env.scope.names.lookup y.1=_
  rw[ho]
  exact z.elim (fun q=>.inl (of_decide_eq_true q)) fun q=>.inr (of_decide_eq_true q)
 ·have hk:k < F.length:=(List.getElem?_eq_some_iff.mp e).1
  have q:=List.all_eq_true.mp h6 k (List.mem_range.mpr hk)
  rw[e,WD] at q
  obtain⟨q1,q2⟩:=q
  have q1:(cap[k]?.bind fun i=>oN[i]?)=some x:=by
   rw[ZD] at q1
   rcases q1 with z | z
   ·exact absurd (of_decide_eq_true z) (by simp)
   ·exact of_decide_eq_true z
  have q2:sc.names.lookup x=some .free:=of_decide_eq_true q2
  cases hc:cap[k]? with
  | none=>rw[hc] at q1; cases q1
  | some i =>
   rw[hc] at q1
   exact⟨i,rfl,by rw[hN]; exact q1,q2⟩
theorem bA {X:Cx} {scope:Yg} {cl:List (V9 × Addr)} {C:Addr} {N:List V9} {s:Vc} {H:Hp} {fp:List Addr} (h:N.Nodup):(bI X scope cl C N s H fp).N.Nodup:=h
section
variable {K:VB} {a D:Addr} {xs:List V} {g:TG} {tt:TT} {te:TE} {H1:Hp} {Q:Hp->Prop} {σ0:St}
theorem cT (Pv:Nat->List V->St->Hp->Prop) (h0:Pv 0 [] σ0 (upd H1 D (.lst []))) (hl:∀ i ys σ H,i<=xs.length->Pv i ys σ H->SqT K H a xs/\H D=some (.lst ys))
  (hs:∀ i ys x σ H,xs[i]? = some x->Pv i ys σ H->g x σ H fun σ3 H3=>tt σ3 H3 fun b H4=>if b=true then te σ3 H4 fun y H5=>H5 D=some (.lst ys)/\ys.length < sizeLine/\Pv (i+1) (ys++[y]) σ3 (upd H5 D (.lst (ys++[y]))) else Pv (i+1) ys σ3 H4)
  (hd:∀ ys σ H,Pv xs.length ys σ H->Q H):gO D σ0 (Itt K a) g tt te H1 Q:=by
 refine⟨fun i m ys σ H=>m=xs.length - i/\i<=xs.length/\Pv i ys σ H,⟨xs.length,by simp,VL _,h0⟩,?_⟩
 rintro i m ys σ H ⟨rfl,hi,p⟩
 obtain⟨q,qD⟩:=hl i ys σ H hi p
 refine⟨qD,?_⟩
 by_cases hlt:i < xs.length
 ·refine .inr ⟨⟨xs,xs[i],q,by simp [hlt]⟩,Pv (i+1),fun zs σ' H' p'=>⟨xs.length - (i+1),by lia,rfl,hlt,p'⟩,fun x H' y=>?_⟩
  obtain⟨e,y⟩:=y
  subst e
  exact hs i ys x σ _ (y xs q) p
 ·have e:i=xs.length:=by lia
  subst e
  exact .inl ⟨⟨xs,q,Vg _⟩,hd ys σ H p⟩
theorem gY (Pv:Nat->List V->St->Hp->Prop) (h0:Pv 0 [] σ0 (upd H1 D (.lst []))) (hl:∀ i ys σ H,i<=xs.length->Pv i ys σ H->SqL K H a xs/\H D=some (.lst ys))
  (hs:∀ i ys x σ H,xs[i]? = some x->Pv i ys σ H->g x σ H fun σ3 H3=>tt σ3 H3 fun b H4=>if b=true then te σ3 H4 fun y H5=>H5 D=some (.lst ys)/\ys.length < sizeLine/\Pv (i+1) (ys++[y]) σ3 (upd H5 D (.lst (ys++[y]))) else Pv (i+1) ys σ3 H4)
  (hd:∀ ys σ H,Pv xs.length ys σ H->Q H):gO D σ0 (Itl K a) g tt te H1 Q:=by
 refine⟨fun i m ys σ H=>m=xs.length - i/\i<=xs.length/\Pv i ys σ H,⟨xs.length,by simp,VL _,h0⟩,?_⟩
 rintro i m ys σ H ⟨rfl,hi,p⟩
 obtain⟨q,qD⟩:=hl i ys σ H hi p
 refine⟨qD,?_⟩
 by_cases hlt:i < xs.length
 ·refine .inr ⟨⟨xs,xs[i],q,by simp [hlt]⟩,Pv (i+1),fun zs σ' H' p'=>⟨xs.length - (i+1),by lia,rfl,hlt,p'⟩,fun x H' y=>?_⟩
  obtain⟨e,y⟩:=y
  subst e
  exact hs i ys x σ _ (y xs q) p
 ·have e:i=xs.length:=by lia
  subst e
  exact .inl ⟨⟨xs,q,Vg _⟩,hd ys σ H p⟩
theorem eQ {lo:Int} {n:Nat} (Pv:Nat->List V->St->Hp->Prop) (h0:Pv 0 [] σ0 (upd H1 D (.lst []))) (hl:∀ i ys σ H,i<=n->Pv i ys σ H->H D=some (.lst ys))
  (hs:∀ i ys σ H,i < n->Pv i ys σ H->g (.int (lo+i)) σ H fun σ3 H3=>tt σ3 H3 fun b H4=>if b=true then te σ3 H4 fun y H5=>H5 D=some (.lst ys)/\ys.length < sizeLine/\Pv (i+1) (ys++[y]) σ3 (upd H5 D (.lst (ys++[y]))) else Pv (i+1) ys σ3 H4)
  (hd:∀ ys σ H,Pv n ys σ H->Q H):gO D σ0 (Itr lo n) g tt te H1 Q:=by
 refine⟨fun i m ys σ H=>m=n - i/\i<=n/\Pv i ys σ H,⟨n,by simp,VL _,h0⟩,?_⟩
 rintro i m ys σ H ⟨rfl,hi,p⟩
 refine⟨hl i ys σ H hi p,?_⟩
 by_cases hlt:i < n
 ·refine .inr ⟨hlt,Pv (i+1),fun zs σ' H' p'=>⟨n - (i+1),by lia,rfl,hlt,p'⟩,fun x H' y=>?_⟩
  obtain⟨e,y⟩:=y
  subst e y
  exact hs i ys σ _ hlt p
 ·have e:i=n:=by lia
  subst e
  exact .inl ⟨Vg _,hd ys σ H p⟩
end
structure Bt (mg:V9->Option Value):Prop where
 len_:mg "len" = none
 range_:mg "range" = none
 all_:mg "all" = none
 isinstance_:mg "isinstance" = none
 int_:mg "int" = none
 bool_:mg "bool" = none
 str_:mg "str" = none
 list_:mg "list" = none
 tuple_:mg "tuple" = none
 abs_:mg "abs" = none
 max_:mg "max" = none
 min_:mg "min" = none
 sum_:mg "sum" = none
 sorted_:mg "sorted" = none
 zip_:mg "zip" = none
 reversed_:mg "reversed" = none
 divmod_:mg "divmod" = none
 set_:mg "set" = none
 any_:mg "any" = none
 enumerate_:mg "enumerate" = none
theorem cI:Wt "len" = some (.builtin "len"):=PySem.boot_len
theorem HN:Wt "all" = some (.builtin "all"):=by decide+kernel
theorem bj:Wt "isinstance" = some (.builtin "isinstance"):=by decide+kernel
theorem wZ:Wt "abs" = some (.builtin "abs"):=by decide+kernel
theorem Cg:Wt "max" = some (.builtin "max"):=by decide+kernel
theorem M9:Wt "min" = some (.builtin "min"):=by decide+kernel
theorem Rx:Wt "sum" = some (.builtin "sum"):=by decide+kernel
theorem zW:Wt "int" = some (.type "int"):=by decide+kernel
theorem yH:Wt "bool" = some (.type "bool"):=by decide+kernel
theorem MF:Wt "str" = some (.type "str"):=by decide+kernel
theorem vf:Wt "list" = some (.type "list"):=by decide+kernel
theorem bK:Wt "tuple" = some (.type "tuple"):=by decide+kernel
theorem fc (K:VB) (T:String):Y9 K (.type T) (.type T)=some true:=by
 unfold PySem.W.kitOne
 rw[if_pos (beq_self_eq_true _)]
theorem jP (K:VB):Y9 K (.type "int") (.type "bool")=some false:=by kernel_rfl
theorem pY (K:VB):Y9 K (.type "bool") (.type "int")=some true:=by kernel_rfl
theorem Dw (K:VB):Y9 K (.type "int") (.type "str")=some false:=by kernel_rfl
theorem yE (K:VB):Y9 K (.type "bool") (.type "str")=some false:=by kernel_rfl
theorem wO (K:VB):Y9 K (.type "tuple") (.type "str")=some false:=by kernel_rfl
theorem za (K:VB):Y9 K (.type "list") (.type "str")=some false:=by kernel_rfl
theorem wg (K:VB):Y9 K (.type "tuple") (.type "int")=some false:=by kernel_rfl
theorem yl (K:VB):Y9 K (.type "list") (.type "int")=some false:=by kernel_rfl
theorem lF (K:VB):Y9 K (.type "tuple") (.type "list")=some false:=by kernel_rfl
theorem lH (K:VB):Y9 K (.type "list") (.type "tuple")=some false:=by kernel_rfl
theorem Cz (K:VB):Y9 K (.type "str") (.type "int")=some false:=by kernel_rfl
end L2
namespace L2
open PySem PySem.Spec PyProof.Rows
inductive Dm where
 | non | bl (b:Bool) | int (i:Int) | str (x:V9) | tup (ds:List Dm) | lst (ds:List Dm)
mutual
def Dm.dep:Dm->Nat
 | .tup ds=>rR ds+1
 | .lst ds=>rR ds+1
 | _=>0
def rR:List Dm->Nat
 | []=>0
 | d::r=>max d.dep (rR r)
end
mutual
inductive Rep (H:Hp):V->Dm->Prop where
 | non:Rep H .non .non
 | bl (b:Bool):Rep H (.bl b) (.bl b)
 | int (i:Int):Rep H (.int i) (.int i)
 | str (x:V9):Rep H (.str x) (.str x)
 | tup {a:Addr} {xs:List V} {ds:List Dm}:H a=some (.tup xs)->xs.length<=100000->tM H xs ds->Rep H (.ref a) (.tup ds)
 | lst {a:Addr} {xs:List V} {ds:List Dm}:H a=some (.lst xs)->xs.length<=100000->tM H xs ds->Rep H (.ref a) (.lst ds)
inductive tM (H:Hp):List V->List Dm->Prop where
 | nil:tM H [] []
 | cons {v:V} {d:Dm} {vs:List V} {ds:List Dm}:Rep H v d->tM H vs ds->tM H (v::vs) (d::ds)
end
mutual
theorem Rep.mono {H H':Hp} (e:aZ H H'):∀ {v:V} {d:Dm},Rep H v d->Rep H' v d
 | _,_,.non=>.non
 | _,_,.bl b=>.bl b
 | _,_,.int i=>.int i
 | _,_,.str x=>.str x
 | _,_,.tup h l r=>.tup (e _ _ h) l (tM.mono e r)
 | _,_,.lst h l r=>.lst (e _ _ h) l (tM.mono e r)
theorem tM.mono {H H':Hp} (e:aZ H H'):∀ {vs:List V} {ds:List Dm},tM H vs ds->tM H' vs ds
 | _,_,.nil=>.nil
 | _,_,.cons h r=>.cons (Rep.mono e h) (tM.mono e r)
end
theorem tM.length {H:Hp}:∀ {vs:List V} {ds:List Dm},tM H vs ds->vs.length=ds.length
 | _,_,.nil=>rfl
 | _,_,.cons _ r=>by rw[Vr,Vr,tM.length r]
theorem tM.get {H:Hp}:∀ {vs:List V} {ds:List Dm} {i:Nat},tM H vs ds->i < vs.length->∃ v d,vs[i]? = some v/\ds[i]? = some d/\Rep H v d
 | _,_,_,.nil,h=>absurd h (aaZ _)
 | _,_,0,.cons h _,_=>⟨_,_,rfl,rfl,h⟩
 | _,_,i+1,.cons _ r,h=>by
  obtain⟨v,d,e1,e2,e3⟩:=tM.get (i:=i) r (aaU h)
  exact⟨v,d,by simpa using e1,by simpa using e2,e3⟩
theorem tX:∀ {ds:List Dm} {i:Nat} {d:Dm},ds[i]? = some d->d.dep<=rR ds
 | [],_,_,h=>by simp at h
 | d::r,0,_,h=>by
  cases (show some d=some _ from h)
  rw[rR]
  exact Nat.le_max_left _ _
 | d::r,i+1,_,h=>by
  rw[rR]
  exact V2 (tX (i:=i) (ds:=r) (by simpa using h)) (Nat.le_max_right _ _)
theorem o8 {H:Hp}:∀ ns:List Int,tM H (ns.map V.int) (ns.map Dm.int)
 | []=>.nil
 | n::r=>.cons (.int n) (o8 r)
section
variable {X:Cx}
inductive Q4 (K:VB) (x:V) (y:V) (H:Hp) (Q:VK):Prop where
 | mk (a b:Addr) (xs:List V) (z0:x = .ref a) (z1:y = .ref b) (z2:SqL K H a xs) (z3:SqL K H b []) (z4:Q (.bl xs.isEmpty) H):Q4 K x y H Q
def Ui (K:VB):R2:=fun x y H Q=>Q4 K x y H Q
theorem Rb (hu:X.A.units < cLine):OpR X (XQ .Eq) (Ui X.K):=by
 intro pins s σ H x y v u Q I rx ry h
 obtain⟨a,b,xs,rfl,rfl,ha,hb,q⟩:=h
 cases rx
 cases ry
 obtain⟨its,r1,p1,_⟩:=I.list ha
 obtain⟨its2,r2,p2,_⟩:=I.list hb
 cases r2
 cases r1 with
 | nil=>exact SeqAt.eq_listAt (e:=fun _=>true) p1.isList p2.isList rfl hu (fun j h1 _=>absurd h1 (by simp)) ⟨.bl true,H,I,rfl,q⟩
 | cons r t=>exact SeqAt.eq_list_lengthsAt p1.isList p2.isList (by simp) hu ⟨.bl false,H,I,rfl,q⟩
end
end L2
namespace L2
open PySem PySem.Spec PyProof.Rows
section
variable {prog:Vy} {w:V3} {A:V0} {E:Value->Vc->Prop} {s:Vc}
theorem qm {it t:Addr} {i:Nat} {its:Array Value} {x:Value} {Q:Value->Vc->Prop} (j:s.heap.IsTupleIter it t i) (ht:s.heap.IsTuple t its) (hx:its[i]? = some x)
  (k:∀ h',h'.IsTupleIter it t (i+1)->Xu it s.heap h'->Q x { s with heap:=h' }):Vk (Vs prog w) A (Wc (.ref it)) Q E s:=by
 obtain⟨o,e1,c1,d1⟩:=id j; obtain⟨o2,e2,_,n2,d2⟩:=ht; unfold Wc
 refine U9 (Wq (name:=XD "__next__") j.typeIs Zd (Wm Zd j.typeIs acs ?_ (aco _)))
 show Vk _ _ (abp (.ref it) 0 >>= _) _ _ s; refine U9 (Wi e1 d1 (x:=.ref t) rfl ?_)
 show Vk _ _ (if (V4 t == We)=true then _ else _) _ _ s; rw[if_neg (show ¬ ((V4 t == We)=true) from Vm)]
 show Vk _ _ (abp (.ref it) 1 >>= _) _ _ s; refine U9 (Wi e1 d1 (x:=.int i 0) rfl ?_)
 show Vk _ _ (aaI (.ref t) >>= _) _ _ s; refine U9 (Wz e2 d2 ?_); simp only[V8,hx]
 refine U9 (Xz e1 d1 (by simp) (Vd ⟨x,rfl,Vd (k _ ?_ (WM ..))⟩))
 exact⟨_,Wu _ e1 (Obj.isFreed_of_fields (Obj.data_mapFields d1 _)),(Obj.cls_mapFields ..).trans c1,by rw[Obj.data_mapFields d1]; simp [Xe]⟩
theorem Mf {it t:Addr} {i:Nat} {its:Array Value} {Q:Value->Vc->Prop} (hh:A.handled=none) (j:s.heap.IsTupleIter it t i) (ht:s.heap.IsTuple t its) (hx:its[i]? = none)
  (k:∀ h' e,Heap.ExtBut it s.heap h'->(∃ o,h'.get? e=some o/\o.cls = .type "StopIteration")->E (.ref e) { s with heap:=h' }):Vk (Vs prog w) A (Wc (.ref it)) Q E s:=by
 obtain⟨o,e1,c1,d1⟩:=id j; obtain⟨o2,e2,_,n2,d2⟩:=ht; unfold Wc
 refine U9 (Wq (name:=XD "__next__") j.typeIs Zd (Wm Zd j.typeIs acs ?_ (aco _)))
 show Vk _ _ (abp (.ref it) 0 >>= _) _ _ s; refine U9 (Wi e1 d1 (x:=.ref t) rfl ?_)
 show Vk _ _ (if (V4 t == We)=true then _ else _) _ _ s; rw[if_neg (show ¬ ((V4 t == We)=true) from Vm)]
 show Vk _ _ (abp (.ref it) 1 >>= _) _ _ s; refine U9 (Wi e1 d1 (x:=.int i 0) rfl ?_)
 show Vk _ _ (aaI (.ref t) >>= _) _ _ s; refine U9 (Wz e2 d2 ?_); simp only[V8,hx]
 refine U9 (Ys (U9 (Xz e1 d1 (by simp) ?_))); show Vk _ _ (abZ (.type "StopIteration") [] >>= _) _ _ _
 refine U9 ?_; simp only[abZ,newTuple]; refine U9 (V6 ?_ (by size_fits))
 refine U9 (m:=YC _ _) (XX (a:=We) (by first | rfl | (simp only[YC]; rfl)) ?_); refine V6 ?_ (by size_fits)
 simp only[raiseNew]; refine U9 (abn ?_); first | rw[show A.in1.handled=none from hh] | rw[hh]
 refine U9 (Vd (ab9 ?_)); exact k _ _ (((WM ..).extBut.push _).push _) ⟨_,Vh _ rfl,rfl⟩
structure Zap (z p q i1 i2 l1 l2:Addr):Prop where
 pz:p≠z
 qz:q≠z
 az:i1≠z
 bz:i2≠z
 pq:p≠q
 pa:p≠i1
 pb:p≠i2
 qa:q≠i1
 qb:q≠i2
 ab:i1≠i2
 xz:l1≠z
 xq:l1≠q
 xa:l1≠i1
 xb:l1≠i2
 yz:l2≠z
 yq:l2≠q
 ya:l2≠i1
 yb:l2≠i2
theorem je {h h':Wb} {a t:Addr} {its:Array Value} (ht:h.IsTuple t its) (sb:Xu a h h') (ne:t≠a):h'.IsTuple t its:=by
 obtain⟨o,e,r⟩:=ht
 exact⟨o,(sb.2 t ne).trans e,r⟩
theorem dq {h h':Wb} {a it t:Addr} {i:Nat} (ht:h.IsTupleIter it t i) (sb:Xu a h h') (ne:it≠a):h'.IsTupleIter it t i:=by
 obtain⟨o,e,r⟩:=ht
 exact⟨o,(sb.2 it ne).trans e,r⟩
abbrev zA (h:Wb) (t:Addr):Wb:=h.push { cls:=.type "tuple_iterator",data:=.fields #[.ref t,.int 0 0] }
end
theorem Inv.jy {X:Cx} {pins:List (Addr × Yb)} {σ:St} {H:Hp} {s:Vc} {h':Wb} {t':Nat} {ch:List Addr} (I:Inv X pins σ H s) (k:∀ b o,b ∉ ch->s.heap.get? b=some o->h'.get? b=some o) (hf:∀ b∈ch,qT X pins H b) :
  Inv X pins σ H { s with heap:=h',toks:=t' }:=by
 have nit:∀ b u,H b=some u->b ∉ ch:=fun b u e z=>by
  have:=(hf b z).1
  rw[this] at e; cases e
 refine I.step (g':=s.gens) (d':=s.drawn) (ch:=ch) (fun b hb=>let ⟨_,f1,_,f3,f4,f5⟩:=hf b hb; ⟨f3,f1,f4,f5⟩) (fun b o _ _ hc e _=>k b o hc e) (fun b o _ _ hc e _=>⟨o.slots,k b o hc e⟩) (fun _ _ _ _ n=>n)
  (fun b o hc e=>⟨o,k b o hc e⟩) (fun _ _ e=>e) (fun _ _ _ e=>e) (fun b ps e=>⟨#[],by rw[e]; simp⟩) (fun m hm=>?_) (fun b u e=>?_) I.bare
 ·obtain⟨o,es,ep,ho,r⟩:=hm
  exact⟨o,es,ep,k _ o (fun z=>(hf _ z).2.1 rfl) ho,r⟩
 ·refine (I.hok b u e).stay (fun c v hc q=>k c v ?_ q) (fun _ q=>q) fun _ _ q=>q
  rcases hc with z | z
  ·rw[z]; exact nit b u e
  ·exact nit c _ z
theorem O4 {n c d:Nat} (hc:c < n) (hd:d < n):Zap (n+4) (n+2) (n+3) n (n+1) c d:=by
 constructor <;> (refine (fun (h:¬ @Eq Nat _ _)=>h) ?_) <;> lia
end L2
namespace L2
open PySem PySem.Spec PyProof.Rows
theorem pP:∀ ns ms:List Int,((VD (min ns.length ms.length)).all (fun j=>ns.getD j 0 == ms.getD j 0) && ns.length == ms.length)=decide (ns=ms)
 | [],[]=>rfl
 | [],m::ms=>by rw[decide_eq_false (by simp)]; rfl
 | n::ns,[]=>by rw[decide_eq_false (by simp)]; rfl
 | n::ns,m::ms=>by
  have ih:=pP ns ms
  have e:min (n::ns).length (m::ms).length=min ns.length ms.length+1:=by rw[Vr,Vr]; lia
  have el:((n::ns).length == (m::ms).length)=(ns.length == ms.length):=by simp
  have e3:decide (n::ns=m::ms)=(n == m && decide (ns=ms)):=by
   by_cases h1:n=m
   ·subst h1
    by_cases h2:ns=ms
    ·subst h2; simp
    ·simp [h2]
   ·simp [h1]
  rw[e,List.range_succ_eq_map,Z2,abO,el,e3,← ih,Bool.and_assoc]
  rfl
theorem dM {X:Cx} {pos:Zf} {K:VB} {es:List Expr} {k:Nat} {t:TGs} (n:Nat) (hK:X.K=K) (hc:X.calm=true) (h:PGs X es t)
  (hn:(ZV es X.env).length=n:=by rfl) (hst:(ZV es X.env).findIdx? (·.1)=none:=by rfl):PG X (.Tuple es k pos) (Up K n t):=by
 subst hK
 exact RT hc h hn hst
section
variable {X:Cx}
inductive Nz (K:VB) (x:V) (y:V) (H:Hp) (Q:VK):Prop where
 | mk (a b:Addr) (ns ms:List Int) (z0:x = .ref a) (z1:y = .ref b) (z2:SqT K H a (ns.map V.int)) (z3:SqT K H b (ms.map V.int)) (z4:Q (.bl (decide (ns=ms))) H):Nz K x y H Q
def Kp (K:VB):R2:=fun x y H Q=>Nz K x y H Q
theorem ints_get {ns:List Int} {its:List Value} (i:Ww its ns) {j:Nat} (h:j < its.length):∃ t,its[j] = .int (ns.getD j 0) t:=by
 induction i generalizing j with
 | nil=>exact absurd h (aaZ _)
 | cons n t r ih =>
  cases j with
  | zero=>exact⟨t,rfl⟩
  | succ j =>
   obtain⟨u,e⟩:=ih (j:=j) (aaU h)
   exact⟨u,by simpa using e⟩
theorem yr (hu:X.A.units < cLine):OpR X (XQ .Eq) (Kp X.K):=by
 intro pins s σ H x y v u Q I rx ry h
 obtain⟨a,b,ns,ms,rfl,rfl,ha,hb,q⟩:=h
 cases rx
 cases ry
 obtain⟨its,r1,p1,_⟩:=I.tuple ha
 obtain⟨its2,r2,p2,_⟩:=I.tuple hb
 have i1:Ww its ns:=intsAre_of r1
 have i2:Ww its2 ms:=intsAre_of r2
 have l1:=i1.length
 have l2:=i2.length
 refine SeqAt.eq_tupleAt (e:=fun j=>ns.getD j 0 == ms.getD j 0) (show s.heap.IsTuple a its.toArray from p1) (show s.heap.IsTuple b its2.toArray from p2) hu (fun j h1 h2=>?_) ?_
 ·obtain⟨t,e1⟩:=ints_get i1 (j:=j) (by simpa using h1)
  obtain⟨t',e2⟩:=ints_get i2 (j:=j) (by simpa using h2)
  rw[Z8,Z8,e1,e2]
  exact abw _ _ _ _
 ·refine⟨.bl _,H,I,?_,q⟩
  have e:=pP ns ms
  have s1:its.toArray.size=ns.length:=by rw[Vu]; exact l1
  have s2:its2.toArray.size=ms.length:=by rw[Vu]; exact l2
  rw[s1,s2,e]
  rfl
inductive Ib (K:VB) (x:V) (y:V) (H:Hp) (Q:VK):Prop where
 | mk (a b:Addr) (xs ys:List V) (z0:x = .ref a) (z1:y = .ref b) (z2:SqT K H a xs) (z3:SqT K H b ys) (z4:xs.length+ys.length<=sizeLine) (z5:(xs=[]->Q (.ref b) H)) (z6:(xs≠[]->ys=[]->Q (.ref a) H)) (z7:(xs≠[]->ys≠[]->∀ p,H p=none->Q (.ref p) (upd H p (.tup (xs++ys))))):Ib K x y H Q
def tG (K:VB):R2:=fun x y H Q=>Ib K x y H Q
theorem nW:OpR X (Zt .Add) (tG X.K):=by
 intro pins s σ H x y v u Q I rx ry h
 obtain⟨a,b,xs,ys,rfl,rfl,ha,hb,hz,q0,q1,q2⟩:=h
 by_cases hx:xs=[]
 ·subst hx
  cases rx
  cases ry
  obtain⟨its,r1,p1,_⟩:=I.tuple ha
  obtain⟨its2,r2,p2,_⟩:=I.tuple hb
  cases r1
  obtain⟨⟨c1,d1,dt1,sl1⟩,ho,hc,n,hd⟩:=id p1
  obtain⟨⟨c2,d2,dt2,sl2⟩,ho2,hc2,n2,hd2⟩:=id p2
  simp only at hc hd hc2 hd2
  subst hc hd hc2 hd2
  exact concat_meets ⟨_,ho,rfl⟩ ⟨_,ho2,rfl⟩ abY seq_tuple_add aaT aaJ (aaE _ _) (tuple_addW0 a b _ _ n n2 d1 d2 sl1 sl2 rfl) ⟨ho,ho2,⟨.ref b,H,I,rfl,q0 rfl⟩⟩
 ·exact Pq pins s σ H _ _ v u Q I rx ry ⟨a,b,xs,ys,rfl,rfl,ha,hb,hx,hz,q1 hx,q2 hx⟩
end
end L2
namespace L2
open PySem PySem.Spec PyProof.Rows
section
variable {X:Cx}
inductive Lz (K:VB) (xs:List V) (H:Hp) (Q:VK):Prop where
 | mk (p:Addr) (ns:List Int) (z0:xs=[.ref p]) (z1:SqL K H p (ns.map V.int)) (z2:Q (.int ns.sum) H):Lz K xs H Q
def RL (K:VB):List V->Hp->VK->Prop:=fun xs H Q=>Lz K xs H Q
theorem Jv (hc:X.calm=true):iQ X (.builtin "sum") (RL X.K):=by
 intro pins s σ H xs us Q I r h
 obtain⟨p,ns,rfl,hq,q⟩:=h
 obtain⟨u,rfl,ru⟩:=vals1 r
 cases ru
 obtain⟨its,rv,pl,hz⟩:=I.list hq
 have hi:Ww its ns:=intsAre_of rv
 obtain⟨zs,hx⟩:=hi.allInts.items
 have hl':s.heap.IsList p (intItems zs):=hx▸pl.isList
 refine sum_intListG (I.ok.hd hc) hl' fun h' tk t' hk=>?_
 have e1:ns=zs.toList.map (·.1):=by
  rw[← nums_intItems,← hx]
  exact (show numsOf its.toArray.toList=ns from hi.numsOf).symm
 have e2:preSum (numAt zs) zs.size=ns.sum:=by
  rw[preSum_eq,List.take_of_length_le (by simp),e1]
 rw[e2]
 exact⟨.int _,H,I.kept (t':=tk) hk,⟨_,rfl⟩,q⟩
end
end L2
namespace L2
open PySem PySem.Spec PyProof.Rows
def TV:List V->Hp->VK->Prop:=fun xs H Q=>(∃ i,xs=[.int i]/\Q (.int i) H)∨∃ k,xs=[.bl k]/\Q (.int (if k then 1 else 0)) H
end L2
namespace L2
open PySem
def Ris (xs:Array Nat):Prop:=xs.toList.Pairwise (· < ·)
theorem zO {xs:Array Nat} (h:Ris xs) {i j x y:Nat} (hij:i < j) (hi:xs[i]? = some x) (hj:xs[j]? = some y):x < y:=by
 rw[← Wh] at hi hj
 obtain⟨li,ei⟩:=List.getElem?_eq_some_iff.mp hi
 obtain⟨lj,ej⟩:=List.getElem?_eq_some_iff.mp hj
 have:=List.pairwise_iff_getElem.mp h i j li lj hij
 rw[ei,ej] at this
 exact this
theorem tV {xs:Array Nat} (h:Ris xs) (j:Nat):∀ (fuel lo hi:Nat),hi - lo<=fuel->lo<=hi->hi<=xs.size->(∀ i x,i < lo->xs[i]? = some x->x < j)->(∀ i x,hi<=i->xs[i]? = some x->j<=x) →
  ZK xs j fuel lo hi<=xs.size/\(∀ i x,i < ZK xs j fuel lo hi->xs[i]? = some x->x < j)/\(∀ i x,ZK xs j fuel lo hi<=i->xs[i]? = some x->j<=x)
 | 0,lo,hi,hf,hl,hs,h1,h2=>by
  rw[ZK]
  have e:lo=hi:=by lia
  subst e
  exact⟨hs,h1,h2⟩
 | fuel+1,lo,hi,hf,hl,hs,h1,h2=>by
  rw[ZK]
  by_cases hlt:lo < hi
  ·rw[if_pos hlt]
   dsimp only
   have hm1:lo<=(lo+hi) / 2:=by lia
   have hm2:(lo+hi) / 2 < hi:=by lia
   have hms:(lo+hi) / 2 < xs.size:=by lia
   generalize (lo+hi) / 2=m at *
   have eg:xs[m]? = some xs[m]:=VH hms
   have ed:xs.getD m j=xs[m]:=by rw[Xj,eg]; rfl
   rw[ed]
   by_cases hc:xs[m] < j
   ·rw[if_pos hc]
    refine tV h j fuel (m+1) hi (by lia) (by lia) hs (fun i x hi' e=>?_) h2
    by_cases hm:i=m
    ·subst hm
     rw[eg] at e
     cases e
     exact hc
    ·exact ZL (zO h (show i < m by lia) e eg) hc
   ·rw[if_neg hc]
    refine tV h j fuel lo m (by lia) hm1 (by lia) h1 (fun i x hi' e=>?_)
    by_cases hm:i=m
    ·subst hm
     rw[eg] at e
     cases e
     lia
    ·have:=zO h (show m < i by lia) eg e
     lia
  ·rw[if_neg hlt]
   have e:lo=hi:=by lia
   subst e
   exact⟨hs,h1,h2⟩
theorem ue {xs:Array Nat} (h:Ris xs) (j:Nat):Xg xs j<=xs.size/\(∀ i x,i < Xg xs j->xs[i]? = some x->x < j)/\(∀ i x,Xg xs j<=i->xs[i]? = some x->j<=x):=by
 unfold Xg
 refine tV h j xs.size 0 xs.size (by lia) (VL _) (Vg _) (fun i x hi=>absurd hi (aaZ _)) fun i x hi e=>?_
 rw[YQ hi] at e
 cases e
theorem below_at {xs:Array Nat} (h:Ris xs) {i x:Nat} (e:xs[i]? = some x):Xg xs (x+1)=i+1:=by
 obtain⟨h1,h2,h3⟩:=ue h (x+1)
 have hi:i < xs.size:=(Array.getElem?_eq_some_iff.mp e).1
 generalize Xg xs (x+1)=p at *
 rcases Nat.lt_trichotomy p (i+1) with hp | hp | hp
 ·have:=h3 i x (by lia) e
  lia
 ·exact hp
 ·have hs:i+1 < xs.size:=by lia
  have:=zO h (Xb i) e (VH hs)
  have:=h2 (i+1) _ hp (VH hs)
  lia
theorem CJ {xs:Array Nat} (h:Ris xs):Xg xs 0=0:=by
 obtain⟨h1,h2,h3⟩:=ue h 0
 generalize Xg xs 0=p at *
 rcases Nat.eq_zero_or_pos p with hp | hp
 ·exact hp
 ·have hs:0 < xs.size:=by lia
  have:=h2 0 _ hp (VH hs)
  lia
theorem Ov {xs:Array Nat} (h:Ris xs) {j:Nat} (hj:xs[Xg xs j]?≠some j):Ris (SetTable.insertAt xs (Xg xs j) j):=by
 obtain⟨h1,h2,h3⟩:=ue h j
 unfold Ris
 rw[SetTable.toList_insertAt]
 generalize hp:Xg xs j=p at *
 have hh:xs.toList.Pairwise (· < ·):=h
 have hlt:∀ x∈xs.toList.take p,x < j:=fun x hx=>by
  obtain⟨i,hi,e⟩:=Yx hx
  rw[Vz] at hi
  rw[List.getElem_take] at e
  exact h2 i x (by lia) (by rw[← Wh,Vf (by lia),e])
 have hgt:∀ x∈xs.toList.drop p,j < x:=fun x hx=>by
  obtain⟨i,hi,e⟩:=Yx hx
  rw[aaL] at hi
  rw[List.getElem_drop] at e
  have ex:xs[p+i]? = some x:=by rw[← Wh,Vf (by lia),e]
  have:=h3 (p+i) x (by lia) ex
  rcases XH j x with q | q
  ·exact q
  ·have ejx:x=j:=by lia
   subst ejx
   by_cases hi0:i=0
   ·subst hi0
    exact absurd ex hj
   ·have hps:p < xs.size:=by
     have:=(Array.getElem?_eq_some_iff.mp ex).1
     lia
    have:=zO h (show p < p+i by lia) (VH hps) ex
    have:=h3 p _ (Vg _) (VH hps)
    lia
 rw[abb]
 refine⟨hh.sublist (List.take_sublist _ _),List.pairwise_cons.mpr ⟨hgt,hh.sublist (List.drop_sublist _ _)⟩,fun a ha b hb=>?_⟩
 rcases List.mem_cons.mp hb with rfl | hb
 ·exact hlt a ha
 ·exact ZL (hlt a ha) (hgt b hb)
def qu (t:Zb) (j:Nat):Prop:=t.place[Xg t.place j]?≠some j
theorem tE {t:Zb} {j:Nat} (h:t.slot j = .empty∨t.slot j = .dummy):qu t j:=by
 intro e
 unfold SetTable.slot at h
 dsimp only at h
 rw[e,if_pos (by exact beq_self_eq_true _)] at h
 rcases h with h | h <;> cases h
theorem mH {t:Zb} {f:Nat->Int} {h:Int}:∀ (fuel:Nat) (p:SetTable.Probe) {j:Nat} {d:Option Nat},(∀ x,p.dummy=some x->qu t x)->abH t f h fuel p=some (.empty j d)->qu t j/\∀ x,d=some x->qu t x
 | 0,_,_,_,_,e=>by rw[abH] at e; cases e
 | fuel+1,p,j,d,hd,e=>by
  rw[abH] at e
  have adv:∀ q:SetTable.Probe,(t.advance q).dummy=q.dummy:=fun q=>by
   unfold SetTable.advance
   split <;> rfl
  cases hs:t.slot p.j with
  | empty =>
   rw[hs] at e
   cases e
   exact⟨tE (.inl hs),hd⟩
  | dummy =>
   rw[hs] at e
   dsimp only at e
   refine mH fuel _ (fun x hx=>?_) e
   rw[adv] at hx
   cases hx
   exact tE (.inr hs)
  | live i =>
   rw[hs] at e
   dsimp only at e
   by_cases hc:(f i == h)=true
   ·rw[if_pos hc] at e
    cases e
   ·rw[if_neg hc] at e
    exact mH fuel _ (fun x hx=>by rw[adv] at hx; exact hd x hx) e
theorem yw {t:Zb} {h:Int} {j:Nat} {b:Bool} (e:t.freeSlot h=some (j,b)):qu t j:=by
 unfold SetTable.freeSlot SetTable.probe at e
 split at e
 ·rename_i j' d hp
  obtain⟨h1,h2⟩:=mH _ _ (fun x hx=>by cases hx) hp
  cases e
  cases d with
  | none=>exact h1
  | some x=>exact h2 x rfl
 ·cases e
structure TOk (b:Bool) (t:Zb):Prop where
 led:t.led=b
 ris:t.plain=true->Ris t.place
theorem Gf (b:Bool):TOk b (.fresh 0 0 b):=⟨rfl,fun _=>Yr⟩
theorem iV {b:Bool} {t:Zb} (h:TOk b t) (n:Nat):TOk b (t.standIn n):=⟨h.led,fun z=>by cases z⟩
theorem Ei {b:Bool} {t:Zb} (h:TOk b t) (es:Array (Int × Value)) (k:Int) (x:Value):TOk b (layNew t es k x).2.1:=by
 unfold layNew
 split
 ·rename_i slot wd e
  dsimp only
  unfold SetTable.orStandIn
  have ht:TOk b (t.put slot).1:=⟨h.led,fun z=>Ov (h.ris z) (yw e)⟩
  split
  ·exact ht
  ·exact iV ht _
 ·exact iV h _
theorem JT (owner:Array (Option Nat)):∀ l:List Nat,l.Pairwise (· < ·)->((l.filterMap fun j=>(owner.getD j none).map (j,·)).map (·.1)).Pairwise (· < ·):=fun l hl=>by
 have hs:List.Sublist ((l.filterMap fun j=>(owner.getD j none).map (j,·)).map (·.1)) l:=by
  induction l with
  | nil=>exact List.Sublist.slnil
  | cons a r ih =>
   have ih:=ih (List.pairwise_cons.mp hl).2
   rw[aag]
   cases e:owner.getD a none with
   | none=>exact ih.cons _
   | some k=>exact ih.cons₂ _
 exact hl.sublist hs
theorem v5 {b:Bool} {t:Zb} (h:TOk b t) (es:Array (Int × Value)) (m:Nat):TOk b (abD t es m).2.1:=by
 unfold abD
 split
 ·rename_i t' order e
  dsimp only
  split
  ·unfold SetTable.relaid SetTable.laid at e
   cases ho:SetTable.layClean (SetTable.sizeAbove m - 1) (es.map (·.1)) with
   | none=>rw[ho] at e; cases e
   | some owner =>
    rw[ho] at e
    cases e
    exact⟨h.led,fun _=>JT owner _ List.pairwise_lt_range⟩
  ·exact iV h _
 ·exact iV h _
end L2
namespace L2
open PySem PySem.Spec PyProof.Rows
section
variable {P:Vy} {w:V3} {A:V0} {E:Value->Vc->Prop} {s:Vc}
def m5 (P:Vy) (w:V3) (b:Bool) (h:Wb) (a:Addr) (ks:List Int):Prop :=
 ∃ o es ep t,h.get? a=some o/\o.ExactSet/\o.data = .set es ep t/\ElemsOf (Zg P w) es.toList/\t.fits es.size=true/\TOk b t/\∃ ns,Ww (es.toList.map (·.2)) ns/\ns.Perm ks
theorem gq {l l':List Value} (p:l.Perm l'):∀ {ns:List Int},Ww l ns->∃ ms,Ww l' ms/\ms.Perm ns:=by
 induction p with
 | nil=>intro ns h; exact⟨ns,h,.refl _⟩
 | cons x p ih =>
  intro ns h
  cases h with
  | cons n t r =>
   obtain⟨ms,h1,h2⟩:=ih r
   exact⟨n::ms,.cons n t h1,h2.cons n⟩
 | swap x y l =>
  intro ns h
  cases h with
  | cons n t r =>
   cases r with
   | cons m u r=>exact⟨m::n::_,.cons m u (.cons n t r),.swap _ _ _⟩
 | trans p q ih1 ih2 =>
  intro ns h
  obtain⟨ms,h1,h2⟩:=ih1 h
  obtain⟨ks,h3,h4⟩:=ih2 h1
  exact⟨ks,h3,h4.trans h2⟩
theorem nF {k:Int} {t:Tok}:∀ {l:List Value} {ns:List Int},Ww l ns->Ww (l++[.int k t]) (ns++[k])
 | _,_,.nil=>.cons k t .nil
 | _,_,.cons n u r=>.cons n u (nF r)
theorem qt {k:Int}:∀ {l:List Value} {ns:List Int},Ww l ns->(k∈ns ↔ ∃ v∈l,(Zg P w).is k v=true)
 | _,_,.nil=>by simp
 | _,_,.cons n t r=>by
  have ih:=qt (k:=k) r
  have e:(Zg P w).is k (.int n t)=decide (k=n):=KeyKind.is_eq_decide (intKind_is _ _ _ _) k
  rw[Wy,ih]
  constructor
  ·rintro (h | ⟨v,hv,q⟩)
   ·exact⟨_,Vj,by rw[e]; exact decide_eq_true h⟩
   ·exact⟨v,Vp _ hv,q⟩
  ·rintro⟨v,hv,q⟩
   rcases List.mem_cons.mp hv with rfl | hv
   ·rw[e] at q
    exact .inl (of_decide_eq_true q)
   ·exact .inr ⟨v,hv,q⟩
theorem nJ {b:Bool} {h:Wb} {a:Addr} {o:Yb} {es es':Array (Int × Value)} {ep:Nat} {t t':Zb} {ks:List Int} (ho:h.get? a=some o) (hx:o.ExactSet) (hd:o.data = .set es ep t)
  (hel:ElemsOf (Zg P w) es'.toList) (hf:t'.fits es'.size=true) (tk:TOk b t') (hn:∃ ns,Ww (es'.toList.map (·.2)) ns/\ns.Perm ks) :
  (h.update a (aby es' t')).get? a=some { o with data:=.set es' (ep+1) t' }/\m5 P w b (h.update a (aby es' t')) a ks:=by
 have g:(h.update a (aby es' t')).get? a=some { o with data:=.set es' (ep+1) t' }:=by
  have q:=Wu (aby es' t') ho (by rw[putSet_of es' t' hd]; rfl)
  rwa [putSet_of es' t' hd] at q
 exact⟨g,_,es',ep+1,t',g,hx,rfl,hel,hf,tk,hn⟩
theorem Ph {b:Bool} {a:Addr} {ks:List Int} {k:Int} {t0:Tok} {Q:Bool->Vc->Prop} (hS:m5 P w b s.heap a ks) (hroom:ks.length+1 < scanBound)
  (h:∀ h' r,Xu a s.heap h'->m5 P w b h' a (step_dedup ks k)->Q r { s with heap:=h' }):Vk (Vs P w) A (setAddHashed a (.int k t0) ((Zg P w).hash k)) Q E s:=by
 obtain⟨o,es,ep,t,ho,hx,hd,hel,hf,tk,ns,hi,hp⟩:=hS
 have key:(Zg P w).is k (.int k t0)=true:=intKind_is _ _ _ _
 have hlen:es.size=ks.length:=by
  rw[← hp.length_eq,← hi.length,Vb,VM]
 have hb:es.size < scanBound:=by lia
 have hm:=qt (P:=P) (w:=w) (k:=k) hi
 unfold setAddHashed setAddHashedIn
 refine Xy (U9 (Y0 ho hd hf ?_))
 dsimp only
 rw[byScan_of rfl hb hel]
 simp only[↓reduceIte]
 unfold setAddByScan
 refine U9 (U9 (Ys (U9 (wpAny_setScan_of key ho hd hf hel ?_))))
 cases hr:es.toList.findIdx? (fun e=>(Zg P w).is k e.2) with
 | some j =>
  dsimp only
  obtain⟨hj,q,_⟩:=List.findIdx?_eq_some_iff_getElem.mp hr
  have hk:k∈ks:=hp.mem_iff.mp (hm.mpr ⟨es.toList[j].2,List.mem_map.mpr ⟨_,Xw hj,rfl⟩,q⟩)
  have es0:step_dedup ks k=ks:=by
   unfold step_dedup
   have hany:(ks.any fun x=>x == k)=true:=List.any_eq_true.mpr ⟨k,hk,beq_self_eq_true k⟩
   rw[if_pos hany]
  have q':=h s.heap false (Heap.SameBut.refl a s.heap) (by rw[es0]; exact⟨o,es,ep,t,ho,hx,hd,hel,hf,tk,ns,hi,hp⟩)
  exact Vd (Vd q')
 | none =>
  dsimp only
  have hk:k ∉ ks:=fun z=>by
   obtain⟨v,hv,q⟩:=hm.mp (hp.mem_iff.mpr z)
   obtain⟨e,he,rfl⟩:=List.mem_map.mp hv
   rw[List.findIdx?_eq_none_iff.mp hr e he] at q
   cases q
  have es0:step_dedup ks k=ks++[k]:=by
   unfold step_dedup
   rw[if_neg]
   intro z
   obtain⟨x,hx',e⟩:=List.any_eq_true.mp z
   exact hk (by rw[← eq_of_beq e]; exact hx')
  rw[es0] at h
  have pm:=layNew_perm t es ((Zg P w).hash k) (.int k t0)
  have ft:=layNew_fits t es ((Zg P w).hash k) (.int k t0)
  have tk1:=Ei tk es ((Zg P w).hash k) (.int k t0)
  generalize layNew t es ((Zg P w).hash k) (.int k t0)=L at pm ft tk1 ⊢
  obtain⟨es1,t1,wd,gv⟩:=L
  dsimp only at pm ft tk1 ⊢
  rw[Array.toList_push] at pm
  have hel1:ElemsOf (Zg P w) es1.toList:=(hel.push key rfl).perm pm
  have hn1:∃ ns,Ww (es1.toList.map (·.2)) ns/\ns.Perm (ks++[k]):=by
   have i1:Ww ((es.toList++[((Zg P w).hash k,Yo k t0)]).map (·.2)) (ns++[k]):=by
    rw[Vl]
    exact nF hi
   obtain⟨ms,h1,h2⟩:=gq (pm.symm.map (·.2)) i1
   exact⟨ms,h1,h2.trans (hp.append (.refl _))⟩
  have hs1:es1.size<=sizeLine:=by
   have:es1.size=es.size+1:=by rw[← VM,pm.length_eq,Ve,VM]; rfl
   exact fits_of_scanBound (by lia)
  have gw:∀ (b:Bool) {s₁:Vc} {Q':Unit->Vc->Prop},Q' () s₁->Vk (Vs P w) A (match b with | true=>rule "set.scan.the-table-gave-way" | false=>pure ()) Q' E s₁:=fun b s₁ Q' hq=>by
   cases b
   ·exact Vd hq
   ·exact Ys hq
  have tail:∀ (g:Bool->Sem Unit) (R:Option Bool->Vc->Prop) (t2:Zb),(∀ (b:Bool) (s₁:Vc) (Q':Unit->Vc->Prop),Q' () s₁->Vk (Vs P w) A (g b) Q' E s₁)->t2.fits es1.size=true->TOk b t2 →
    (∀ h',Xu a s.heap h'->m5 P w b h' a (ks++[k])->R (some true) { s with heap:=h' })->Vk (Vs P w) A (do
    storeSet a es1 t2
    if (!wd && t2.tooFull)=true then do
      g (abD t2 es1 (Za es1.size)).2.2
      storeSet a (abD t2 es1 (Za es1.size)).1 (abD t2 es1 (Za es1.size)).2.1
      pure (some true)
     else pure (some true)) R E s:=fun g R t2 hg f2 k2 hR=>by
   refine U9 (wpAny_storeSet_of ho hd ?_ hs1)
   obtain⟨ho1,hS1⟩:=nJ (P:=P) (w:=w) ho hx hd hel1 f2 k2 hn1
   have sb1:=WM s.heap a (aby es1 t2)
   split
   ·have pr:=relayAll_perm t2 es1 (Za es1.size)
    have fr:=relayAll_fits t2 es1 (Za es1.size)
    have tr:=v5 k2 es1 (Za es1.size)
    generalize abD t2 es1 (Za es1.size)=R at pr fr tr ⊢
    obtain⟨es2,t3,g2⟩:=R
    dsimp only at pr fr tr ⊢
    have hn2:∃ ns,Ww (es2.toList.map (·.2)) ns/\ns.Perm (ks++[k]):=by
     obtain⟨ns1,i1,p1⟩:=hn1
     obtain⟨ms,h1,h2⟩:=gq (pr.symm.map (·.2)) i1
     exact⟨ms,h1,h2.trans p1⟩
    have hs2:es2.size<=sizeLine:=by
     have:es2.size=es1.size:=by rw[← VM,pr.length_eq,VM]
     lia
    refine U9 (hg _ _ _ (U9 (wpAny_storeSet_of ho1 rfl ?_ hs2)))
    obtain⟨_,hS2⟩:=nJ (P:=P) (w:=w) ho1 hx rfl (hel1.perm pr) fr tr hn2
    exact Vd (hR _ (sb1.trans (WM _ a _)) hS2)
   ·exact Vd (hR _ sb1 hS1)
  refine U9 (gw _ ?_)
  split
  ·refine U9 ?_
   rw[hashByValue_scannable 8 rfl]
   refine Vd (tail _ _ _ (fun b s₁ Q' hq=>gw b hq) ?_ ?_ fun h' sb hS=>Vd (h h' true sb hS))
   ·exact ft
   ·exact tk1
  ·exact U9 (Vd (tail _ _ _ (fun b s₁ Q' hq=>gw b hq) ft tk1 fun h' sb hS=>Vd (h h' true sb hS)))
end
end L2
namespace L2
open PySem PySem.Spec PyProof.Rows
theorem mO {P:Vy} {w:V3} {b:Bool} {h h':Wb} {a:Addr} {ks:List Int} (hk:∀ o,h.get? a=some o->h'.get? a=some o) (hS:m5 P w b h a ks):m5 P w b h' a ks:=by
 obtain⟨o,es,ep,t,ho,r⟩:=hS
 exact⟨o,es,ep,t,hk o ho,r⟩
section
variable {P:Vy} {w:V3} {A:V0} {R:aa8->Vc->Prop} {I:Addr} {fp wr:List Addr} {G:Array abQ->Array abQ->Prop} {n:Nat} {Pv:Nat->Value->Prop} {St:Nat->Vc->Prop} {b:Bool}
theorem JZ (W:WalksS P w A.in1 I fp wr G n Pv St) (S:Addr) (hS:S ∉ fp) (val:Nat->Int) (hv:∀ i v,Pv i v->∃ t,v = .int (val i) t) (hb:n+1 < scanBound) :
  ∀ (k i:Nat) (s:Vc),n - i=k->i<=n->St i s->m5 P w b s.heap S (firstMet val i)->(∀ s',Moved (S::wr) G s s'->m5 P w b s'.heap S (firstMet val n)->R (.ok (.ret .none)) s') →
   Xk (Vs P w) A (.builtin "set.update.loop" ⟨[.ref S,.ref I],[]⟩) R s:=by
 have nw:S ∉ wr:=fun z=>hS (W.sub _ z)
 have sub:∀ x∈wr,x∈S::wr:=fun x hx=>Vp _ hx
 intro k
 induction k with
 | zero =>
  intro i s hk hi st hs hR
  obtain rfl:i=n:=by lia
  refine Xf F.entry_set_update_loop ?_
  rw[Xc aaO _]
  refine (show Vk _ A.in1 (X3 (.ref I) >>= _) _ _ s from U9 (W.done s _ _ st fun s' hm=>?_))
  exact (show Vk _ A.in1 (ret We) _ _ s' from Vd (hR s' (hm.mono sub) (mO (fun o e=>hm.heap S o nw e) hs)))
 | succ k ih =>
  intro i s hk hi st hs hR
  have lt:i < n:=by lia
  refine Xf F.entry_set_update_loop ?_
  rw[Xc aaO _]
  refine (show Vk _ A.in1 (X3 (.ref I) >>= _) _ _ s from U9 (W.item i s _ _ lt st fun v s' hP st' hm=>?_))
  obtain⟨t,rfl⟩:=hv i v hP
  have hs':=mO (h':=s'.heap) (fun o e=>hm.heap S o nw e) hs
  have room:(firstMet val i).length+1 < scanBound:=by
   have:=firstMet_length_le val i
   lia
  refine (show Vk _ A.in1 (abe [Yo (val i) t] (setAdd S (.int (val i) t)) >>= _) _ _ s' from U9 (Xy ?_))
  unfold setAdd
  refine Xy (U9 ((Zg P w).pyHash (k:=val i) (intKind_is _ _ _ _) ?_))
  refine Ph (s:={ s' with toks:=s'.toks+1 }) hs' room fun h' r sb hn=>?_
  rw[← firstMet_succ] at hn
  refine Vd ⟨XR aaO _,ih (i+1) _ (by lia) lt (W.frame _ s' _ _ st' (Xi _) fun x hx o e=>?_) hn fun s'' hm'' hs''=>?_⟩
  ·rw[sb.2 x (fun z:x=S=>hS (by rw[← z]; exact hx))]
   exact e
  ·refine hR s'' (Moved.trans W.gtrans ((hm.mono sub).then_heap (Xi _) fun x o hx e=>?_) hm'') hs''
   rw[sb.2 x (fun z:x=S=>hx (by rw[z]; exact Vj))]
   exact e
end
end L2
namespace L2
open PySem PySem.Spec PyProof.Rows
section
variable {P:Vy} {w:V3} {A:V0} {E:Value->Vc->Prop} {s:Vc}
def Lx (w:V3):Bool:=!w.params.followText "set-order"
def newS (w:V3):Yb:={ cls:=.type "set",dict:=none,data:=.set #[] 0 (.fresh 0 0 (Lx w)) }
theorem Pa (a:Value) {Q₁:Value->Vc->Prop} (h:Q₁ (.ref s.heap.objs.size) { s with heap:=s.heap.push (newS w) }) :
  Xk (Vs P w) A (.call (.builtin "set.__new__") ⟨[.type "set",a],[]⟩) (wants Q₁ E) s:=by
 refine acg (show Vk _ A.in1 (do ab0 "set.__new__" ⟨[.type "set",a],[]⟩; again (.builtin "set.__new__" ⟨[.type "set",a],[]⟩)) _ _ s from ?_)
 refine U9 (XX (PySem.F.newCall_set_1 a) (Vd ⟨XR PySem.F.plain_set_new _,Xf PySem.F.entry_set_new ?_⟩))
 rw[Xc PySem.F.plain_set_new _]
 unfold XS.«set.__new__» Builtin.Frozenset.newClass; have hsub:=sub_set_self; obtain⟨hp,g,d,tk,os⟩:=s
 dsimp only
 wp_walk
 refine Yz (Vd ?_)
 dsimp only
 simp only[newObj]; refine U9 (wpAny_alloc (Vd ?_))
 exact Vd h
end
end L2
namespace L2
open PySem PySem.Spec PyProof.Rows
section
variable {P:Vy} {w:V3} {A:V0} {E:Value->Vc->Prop} {s:Vc}
set_option maxRecDepth 100000 in
set_option maxHeartbeats 3200000 in
theorem yD {l:Addr} {items:Array Value} {ns:List Int} {Q:Value->Vc->Prop} (hh:A.handled=none) (hl:s.heap.IsList l items) (hi:Ww items.toList ns) (hb:items.size+1 < scanBound)
  (h:∀ (h':Wb) (tk:Nat),m5 P w (Lx w) h' s.heap.objs.size (firstMet (fun i=>ns.getD i 0) items.size)->(∀ b o,b < s.heap.objs.size->s.heap.get? b=some o->h'.get? b=some o)->Q (.ref s.heap.objs.size) { s with heap:=h',toks:=tk }) :
  Vk (Vs P w) A (call (.type "set") [.ref l]) Q E s:=by
 obtain⟨c,tl,hmro⟩:=PySem.F.called_set.mro
 have hmade:=PySem.F.called_set.made
 have hsub:=PySem.F.called_set.sub
 refine wpAny_call (acg (show Vk _ _ (callAny (.type "set") _) _ _ _ from Vd ⟨Code.quiet_builtin _ (by decide+kernel),Xf PySem.F.entry_type_call ?_⟩))
 rw[Around.under_plain (weight_type_call_type "set" [.ref l] []) rfl]
 have h1:=PySem.F.called_set.notType
 have h2:=PySem.F.called_set.canCreate
 have hct:=PySem.F.typeCall_set_1 (.ref l)
 repeat (any_goals (first | assumption | wp_step))
 refine ZJ (Pa (.ref l) (E:=E) (Q₁:=fun obj s₁=>obj = .ref s.heap.objs.size/\s₁={ s with heap:=s.heap.push (newS w) }) ⟨rfl,rfl⟩) fun r s₁ hr=>?_
 cases r with
 | error e=>exact hr
 | ok fl =>
  cases fl with
  | ret obj =>
   obtain⟨rfl,rfl⟩:=hr
   have gS:(s.heap.push (newS w)).get? s.heap.objs.size=some (newS w):=Vh _ rfl
   have hT:Shared.TypeIs { s with heap:=s.heap.push (newS w) } (.ref s.heap.objs.size) "set":=⟨_,gS,rfl⟩
   have hli:=PySem.F.called_set.init.lookup
   have hbi:=PySem.F.called_set.init.bind (.ref s.heap.objs.size)
   repeat (any_goals (first | assumption | wp_step))
   refine ZJ (codeAny_call_builtin (R:=wants (fun r s₂=>r = .none/\∃ h' tk,s₂={ s with heap:=h',toks:=tk }/\m5 P w (Lx w) h' s.heap.objs.size (firstMet (fun i=>ns.getD i 0) items.size) ∧
     (∀ b o,b < s.heap.objs.size->s.heap.get? b=some o->h'.get? b=some o)) E) PySem.F.called_set.init.plain PySem.F.entry_set_init (check_set_init_1 hT ?_)) fun r₂ s₂ hr₂=>?_
   ·obtain⟨ol,hol,hcl,nl,hdl⟩:=hl
    obtain⟨ocls,odict,odata,oslots⟩:=ol
    simp only at hcl hdl
    subst hcl hdl
    have hol':(s.heap.push (newS w)).get? l=some { cls:=.type "list",dict:=odict,data:=.seq items nl,slots:=oslots }:=Va _ hol
    have hsls:=PySem.F.sub_list_set
    have hslf:=PySem.F.sub_list_frozenset
    have hne:(Yh "list" == Yh "dict")=false:=by decide
    have hl1:(s.heap.push (newS w)).IsList l items:=⟨_,hol',rfl,nl,rfl⟩
    have gS':(s.heap.push (newS w)).get? s.heap.objs.size=some { cls:=.type "set",dict:=none,data:=.set #[] 0 (.fresh 0 0 (Lx w)) }:=gS
    unfold XS.«set.__init__» noKeywords Builtin.Frozenset.updateFrom; generalize hPI:aa3=PI
    wp_walk
    subst hPI
    refine Y5 hl1 (U9 (wpAny_runValue ?_))
    have hlS:l < s.heap.objs.size:=Vo hol
    have hh3:A.in1.in1.in1.handled=none:=by simp [hh]
    have hneI:l≠(s.heap.push (newS w)).objs.size:=by
     rw[V7]
     exact Vx (Wj hlS)
    have hSf:s.heap.objs.size ∉ [(s.heap.push (newS w)).objs.size,l]:=by
     rw[V7,Wy,YL]
     rintro (z | z)
     ·exact absurd z (Vx (Xb _))
     ·exact absurd z (W8 hlS)
    refine JZ (b:=Lx w) ((Walks.list hh3 _ l hneI items).toS) s.heap.objs.size hSf (fun i=>ns.getD i 0) (fun i v hv=>IntsAre.int_at hi i v (by rw[Wh]; exact hv)) hb (items.size - 0) 0 _ (by lia) (VL _)
     ⟨⟨_,Vh _ rfl,rfl,rfl⟩,(hl1.push _)⟩ ?hS0 ?hR
    case hS0=>exact⟨newS w,#[],0,_,Va _ gS,⟨rfl,rfl,rfl⟩,rfl,(fun e he=>by simp at he),rfl,Gf _,[],.nil,.refl _⟩
    case hR =>
     intro s' hm hS'
     obtain⟨h',g',d',tk',os'⟩:=s'
     obtain rfl:g'=s.gens:=hm.gens
     obtain rfl:d'=s.drawn:=hm.drawn
     obtain rfl:os'=s.os:=hm.os
     refine (show Vk _ _ _ _ _ _ from Vd (show Vk _ _ (ret We) _ _ _ from Vd ⟨rfl,h',tk',rfl,hS',fun b o hb e=>?_⟩))
     refine hm.heap b o ?_ (Va _ (Va _ e))
     rw[Wy,YL,V7]
     rintro (z | z)
     ·exact absurd z (Vx hb)
     ·exact absurd z (Vx (Wj hb))
   ·cases r₂ with
    | error e=>exact hr₂
    | ok fl₂ =>
     cases fl₂ with
     | ret r =>
      obtain⟨rfl,h',tk,rfl,hS',hk'⟩:=hr₂
      repeat (any_goals (first | assumption | wp_step))
      exact h h' tk hS' hk'
     | _=>exact hr₂.elim
  | _=>exact hr.elim
end
end L2
namespace L2
open PySem PySem.Spec PyProof.Rows
theorem xT:Manifest.owners.lookup (String.ofList ['r','o','t','a','r','e','t','i','_','t','e','s'].reverse)=some Manifest.sig_set_iterator:=by kernel_rfl
theorem bL:Slot "set_iterator" "__next__" "set_iterator.__next__" :=
 .of (owner:="set_iterator") (n:="__next__") (by rw[Zx,Ym]; kernel_rfl) (by decide+kernel) (by decide+kernel) (by decide+kernel) (by first | exact .inl (by decide+kernel) | exact .inr (by decide+kernel)) (by rw[YB]; kernel_rfl)
theorem fB:entryFor table "set_iterator.__next__" = some XS.«set_iterator.__next__»:=entryFor_of_tree (by kernel_rfl)
theorem fU (a:Value):aab "set_iterator.__next__" ⟨[a],[]⟩:=by
 unfold aab
 rw[aaC (id:="set_iterator.__next__") (n:=['_','_','t','x','e','n','_','_']) (o:=['r','o','t','a','r','e','t','i','_','t','e','s']) (by kernel_rfl) xT]
 kernel_rfl
theorem jr:Slot "set_iterator" "__iter__" "set_iterator.__iter__" :=
 .of (owner:="set_iterator") (n:="__iter__") (by rw[Zx,Ym]; kernel_rfl) (by decide+kernel) (by decide+kernel) (by decide+kernel) (by first | exact .inl (by decide+kernel) | exact .inr (by decide+kernel)) (by rw[YB]; kernel_rfl)
theorem nO:entryFor table "set_iterator.__iter__" = some XS.«dict_keyiterator.__iter__»:=entryFor_alias (id':="dict_keyiterator.__iter__") (by kernel_rfl) rfl (by decide+kernel) (by kernel_rfl)
theorem pK (a:Value):aab "set_iterator.__iter__" ⟨[a],[]⟩:=by
 unfold aab
 rw[aaC (id:="set_iterator.__iter__") (n:=['_','_','r','e','t','i','_','_']) (o:=['r','o','t','a','r','e','t','i','_','t','e','s']) (by kernel_rfl) xT]
 kernel_rfl
theorem pL:entryFor table "set.__iter__" = some XS.«frozenset.__iter__»:=entryFor_alias (id':="frozenset.__iter__") (by kernel_rfl) rfl (by decide+kernel) (by kernel_rfl)
theorem mJ {α:Type}:∀ (l:List α) (j:Nat) (h:j < l.length),(l[j]::l.eraseIdx j).Perm l
 | a::r,0,_=>.refl _
 | a::r,j+1,h=>by
  have ih:=mJ r j (aaU h)
  rw[List.getElem_cons_succ,List.eraseIdx_cons_succ]
  exact (List.Perm.swap _ _ _).trans (ih.cons a)
theorem vV {α:Type} (nx:Nat->Nat):∀ (fuel k:Nat) (left:List α) (out:Array α),left.length<=fuel->(pickOrder.go nx fuel k left out).toList.Perm (out.toList++left)
 | 0,k,left,out,h=>by
  rw[pickOrder.go]
  have e:left=[]:=acb (by lia)
  subst e
  rw[WK]
 | fuel+1,k,left,out,h=>by
  rw[pickOrder.go]
  cases hl:left with
  | nil =>
   simp
  | cons a r =>
   have hlen:nx k % (a::r).length < (a::r).length:=Nat.mod_lt _ (by simp)
   rw[Vf hlen]
   dsimp only
   generalize nx k % (a::r).length=j at hlen ⊢
   have ih:=vV nx fuel (k+1) ((a::r).eraseIdx j) (out.push (a::r)[j]) (by rw[List.length_eraseIdx_of_lt hlen,← hl]; lia)
   refine ih.trans ?_
   rw[Array.toList_push,XJ]
   refine List.Perm.append (.refl _) ?_
   show ((a::r)[j]::(a::r).eraseIdx j).Perm (a::r)
   exact mJ _ j hlen
theorem qK {α:Type} (nx:Nat->Nat) (xs:Array α):(ZS nx xs).toList.Perm xs.toList:=by
 unfold ZS
 have:=vV nx xs.size 0 xs.toList #[] (by rw[VM]; exact Vg _)
 simpa using this
section
variable {P:Vy} {w:V3} {A:V0} {E:Value->Vc->Prop} {s:Vc}
theorem wu {α:Type} {Q:List α->Vc->Prop}:∀ (n:Nat) (xs:List α) (s:Vc),xs.length=n->(∀ ys d,ys.Perm xs->Q ys { s with drawn:=d })->Vk (Vs P w) A (drawOrder n xs) Q E s
 | 0,xs,s,h,hq=>by
  rw[drawOrder]
  have e:xs=[]:=acb h
  subst e
  exact Vd (hq [] s.drawn (.refl _))
 | n+1,[],s,h,hq=>by cases h
 | n+1,x::xs,s,h,hq=>by
  rw[drawOrder]
  ·refine U9 (fun Γ p hΓ=>?_)
   show Sem.wp _ _ (.choose .order (x::xs).length .pure) _ _ _ _
   rw[Sem.wp_choose]
   refine⟨by simp,?_⟩
   rw[Sem.wp_pure]
   generalize (Vs P w).w.draws .order (s.drawn.get .order)=z
   have hlen:z % (x::xs).length < (x::xs).length:=Nat.mod_lt _ (by simp)
   generalize z % (x::xs).length=j at hlen ⊢
   show Vk _ _ _ _ _ _
   rw[Vf hlen]
   dsimp only
   refine U9 (wu n ((x::xs).eraseIdx j) _ (by rw[List.length_eraseIdx_of_lt hlen]; rw[Vr] at h ⊢; lia) fun ys d p=>Vd ?_)
   exact hq _ d ((p.cons _).trans (mJ _ j hlen))
  ·simp
end
end L2
namespace L2
open PySem PySem.Spec PyProof.Rows
def SIt (h:Wb) (I S:Addr) (f:Value) (i n ep:Nat):Prop:=h.get? I=some { cls:=.type "set_iterator",dict:=none,data:=.fields #[f,.int i 0,.ref S,.int n 0,.int ep 0],slots:=#[] }
section
variable {P:Vy} {w:V3} {A:V0} {E:Value->Vc->Prop} {s:Vc} {I S:Addr} {o:Yb} {es:Array (Int × Value)} {ep:Nat} {t:Zb}
theorem uT {sl:Int} {tk:Tok} {i:Nat} {Q:Option Value->Vc->Prop} {r:Option (Value × Nat)} (hh:A.handled=none) (hI:SIt s.heap I S (.int sl tk) i es.size ep) (hS:s.heap.get? S=some o) (hd:o.data = .set es ep t) (hf:t.fits es.size=true)
  (hn:∀ (A:V0) (E:Value->Vc->Prop) (Q:Option (Value × Nat)->Vc->Prop),Q r s->Vk (Vs P w) A (acq S sl.toNat i ep) Q E s)
  (hs:∀ x j h',r=some (x,j)->SIt h' I S (.int (j:Nat) 0) (i+1) es.size ep->Xu I s.heap h'->Q (some x) { s with heap:=h' }) (he:∀ h',r=none->Heap.ExtBut I s.heap h'->Q none { s with heap:=h' }):Vk (Vs P w) A (X3 (.ref I)) Q E s:=by
 have hT:s.TypeIs (.ref I) "set_iterator":=⟨_,hI,rfl⟩
 unfold X3
 refine U9 (Ye (Wq (name:=XD "__next__") hT bL (Wm bL hT fB ?_ (fU _))))
 refine (show Vk _ _ (fieldsOf (.ref I) >>= _) _ _ s from U9 (wpAny_fieldsOf hI rfl ?_))
 refine (show Vk _ _ (setEntries S >>= _) _ _ s from U9 (aae hS hd hf ?_))
 rw[if_neg (by simp)]
 refine (show Vk _ _ (acq S sl.toNat (i:Int).toNat (ep:Int).toNat >>= _) _ _ s from U9 ?_)
 rw[V8,V8]
 refine hn _ _ _ ?_
 cases hr:r with
 | some xj =>
  obtain⟨x,j⟩:=xj
  dsimp only
  refine U9 (Xz hI rfl (by simp) ?_)
  have g1:=Wu (ZZ (·.setIfInBounds 0 (Xe (j:Int)))) hI rfl
  refine U9 (Xz g1 rfl (by simp) ?_)
  have g2:=Wu (ZZ (·.setIfInBounds 1 (Xe ((i:Int)+1)))) g1 rfl
  refine Vd ⟨x,rfl,Vd (hs x j _ hr ?_ ((WM ..).trans (WM ..)))⟩
  exact g2
 | none =>
  dsimp only
  refine U9 (Xz hI rfl (by simp) ?_)
  refine (show Vk _ _ (abZ (.type "StopIteration") [] >>= _) _ _ _ from U9 ?_)
  simp only[abZ,newTuple]
  refine U9 (V6 ?_ (by size_fits))
  refine U9 (m:=YC _ _) (XX (a:=We) (by first | rfl | (simp only[YC]; rfl)) (V6 ?_ (by size_fits)))
  simp only[raiseNew]
  refine U9 (abn ?_)
  first | rw[show A.in1.handled=none from hh] | rw[hh]
  refine U9 (Vd (ab9 ?_))
  refine U9 (Yy (T:="StopIteration") (b:=true) ⟨_,Vh _ rfl,rfl⟩ aam (Vd ?_))
  exact he _ hr (((WM ..).extBut.push _).push _)
end
end L2
namespace L2
open PySem PySem.Spec PyProof.Rows
section
variable {P:Vy} {w:V3} {A:V0} {E:Value->Vc->Prop} {s:Vc} {I S:Addr} {o:Yb} {es:Array (Int × Value)} {ep:Nat} {t:Zb}
theorem v7 {sl i:Nat} {Q:Option (Value × Nat)->Vc->Prop} (hb:w.params.followText "set-order" = true) (hS:s.heap.get? S=some o) (hd:o.data = .set es ep t) (hf:t.fits es.size=true)
  (h:Q (((ZS (w.params.setOrder S ep) es)[i]?).map fun e=>(e.2,sl)) s):Vk (Vs P w) A (acq S sl i ep) Q E s:=by
 unfold acq
 refine U9 (Y0 hS hd hf ?_)
 dsimp only
 unfold setsByText
 refine U9 (U9 (Yz (Vd ?_)))
 rw[if_pos (show (Vs P w).w.params.followText "set-order" = true from hb),if_neg (by simp)]
 unfold setWalk
 refine U9 (U9 (Y0 hS hd hf ?_))
 dsimp only
 unfold setsByText
 refine U9 (U9 (Yz (Vd ?_)))
 rw[if_pos (show (Vs P w).w.params.followText "set-order" = true from hb)]
 exact U9 (Yz (Vd (Vd h)))
theorem sS {sl i:Nat} {Q:Option (Value × Nat)->Vc->Prop} (hb:w.params.followText "set-order" = false) (hS:s.heap.get? S=some o) (hd:o.data = .set es ep t) (hf:t.fits es.size=true) (hl:t.led=true)
  (hp:t.plain=true∨es.size<=1) (hi:Xg t.place sl=i)
  (h:Q (match es[i]?,t.place[i]? with | some (_,x),some j=>some (x,j+1) | _,_=>none) s):Vk (Vs P w) A (acq S sl i ep) Q E s:=by
 unfold acq
 refine U9 (Y0 hS hd hf ?_)
 dsimp only
 unfold setsByText
 refine U9 (U9 (Yz (Vd ?_)))
 rw[if_neg (show ¬ (Vs P w).w.params.followText "set-order" = true by rw[show (Vs P w).w.params.followText "set-order" = false from hb]; exact Vm)]
 have hdr:(!t.plain && decide (es.size > 1))=false:=by
  rcases hp with q | q
  ·rw[q]
   rfl
  ·rw[decide_eq_false (by lia),Bool.and_false]
 refine aaW (show decide ((!t.plain && decide (es.size > 1))=true)=false from decide_eq_false (by rw[hdr]; exact Vm)) ?_
 refine U9 (show Vk _ _ (if (!t.led && !es.isEmpty)=true then unsupported "set:maker-not-led" else pure ()) _ _ _ from ?_)
 rw[hl]
 refine aaW (decide_eq_false (by simp)) (Vd (Vd ?_))
 rw[hi]
 exact h
theorem uF {f:Value} {i n:Nat} {Q:Value->Vc->Prop} (hI:SIt s.heap I S f i n ep) (h:Q (.ref I) s):Vk (Vs P w) A (aa3 (.ref I)) Q E s:=by
 have hT:s.TypeIs (.ref I) "set_iterator":=⟨_,hI,rfl⟩
 refine abB hT jr (Wm jr hT nO (show Vk _ _ (ret (.ref I)) _ _ s from ?_) (pK _))
 exact Vd ⟨_,rfl,"set_iterator",_,hT,bL.lookup,h⟩
theorem Ff (hh:A.handled=none) (hne:S≠I) (hb:w.params.followText "set-order" = true) (hd:o.data = .set es ep t) (hf:t.fits es.size=true) :
  Walks P w A I [I,S] [I] es.size (fun i v=>((ZS (w.params.setOrder S ep) es).toList.map (·.2))[i]? = some v) (fun i h=>(∃ (sl:Nat) (tk:Tok),SIt h I S (.int (sl:Int) tk) i es.size ep)/\h.get? S=some o) where
 sub:=fun b hb=>by simp at hb; simp [hb]
 frame:=fun i h h' st hk=>by
  obtain⟨⟨sl,tk,hI⟩,hS⟩:=st
  exact⟨⟨sl,tk,hk I (by simp) _ hI⟩,hk S (by simp) _ hS⟩
 item:=fun i s Q E hi st hQ=>by
  obtain⟨⟨sl,tk,hI⟩,hS⟩:=st
  have pl:(ZS (w.params.setOrder S ep) es).size=es.size:=by
   have:=(qK (w.params.setOrder S ep) es).length_eq
   simpa using this
  have hx:(ZS (w.params.setOrder S ep) es)[i]? = some ((ZS (w.params.setOrder S ep) es)[i]'(by lia)):=VH _
  generalize (ZS (w.params.setOrder S ep) es)[i]'(by lia)=x at hx
  refine uT (r:=some (x.2,sl)) hh hI hS hd hf (fun A E Q q=>?_) (fun v j h' hr hI' sb=>?_) (fun h' hr _=>by cases hr)
  ·refine v7 hb hS hd hf ?_
   rw[V8,hx]
   exact q
  ·cases hr
   refine hQ _ h' s.toks ?_ ⟨⟨sl,0,hI'⟩,sb.2 S hne▸hS⟩ fun b o' hb' e=>?_
   ·rw[VF,Wh,hx]
    rfl
   ·rw[sb.2 b (fun z=>hb' (by rw[z]; exact List.mem_singleton.mpr rfl))]
    exact e
 done:=fun s Q E st hQ=>by
  obtain⟨⟨sl,tk,hI⟩,hS⟩:=st
  have pl:(ZS (w.params.setOrder S ep) es).size=es.size:=by
   have:=(qK (w.params.setOrder S ep) es).length_eq
   simpa using this
  refine uT (r:=none) hh hI hS hd hf (fun A E Q q=>?_) (fun v j h' hr=>by cases hr) (fun h' _ hx=>?_)
  ·refine v7 hb hS hd hf ?_
   rw[YQ (by lia)]
   exact q
  ·exact hQ h' s.toks fun b o' hb' e=>hx b o' (fun z=>hb' (by rw[z]; exact List.mem_singleton.mpr rfl)) e
 self:=fun i s Q E st hQ=>by
  obtain⟨⟨sl,tk,hI⟩,_⟩:=st
  exact uF hI hQ
def slotAt (pl:Array Nat):Nat->Nat
 | 0=>0
 | i+1=>pl.getD i 0+1
theorem nG {pl:Array Nat} (h:Ris pl):∀ {i:Nat},i<=pl.size->Xg pl (slotAt pl i)=i
 | 0,_=>CJ h
 | i+1,hi=>by
  have e:pl[i]? = some (pl.getD i 0):=by
   rw[VH (by lia),Xj,VH (by lia)]
   rfl
  exact below_at h e
theorem Ec (hh:A.handled=none) (hne:S≠I) (hb:w.params.followText "set-order" = false) (hd:o.data = .set es ep t) (hf:t.fits es.size=true) (hl:t.led=true) (hp:t.plain=true∨es.size<=1) (hr:Ris t.place) :
  Walks P w A I [I,S] [I] es.size (fun i v=>(es.toList.map (·.2))[i]? = some v) (fun i h=>(∃ tk:Tok,SIt h I S (.int (slotAt t.place i:Nat) tk) i es.size ep)/\h.get? S=some o) where
 sub:=fun b hb=>by simp at hb; simp [hb]
 frame:=fun i h h' st hk=>by
  obtain⟨⟨tk,hI⟩,hS⟩:=st
  exact⟨⟨tk,hk I (by simp) _ hI⟩,hk S (by simp) _ hS⟩
 item:=fun i s Q E hi st hQ=>by
  obtain⟨⟨tk,hI⟩,hS⟩:=st
  have ps:t.place.size=es.size:=by
   simp only[SetTable.fits,WD,beq_iff_eq] at hf
   exact hf.1
  have hx:es[i]? = some es[i]:=VH hi
  have hj:t.place[i]? = some (t.place.getD i 0):=by
   rw[VH (by lia),Xj,VH (by lia)]
   rfl
  generalize es[i]=x at hx
  obtain⟨k,v⟩:=x
  refine uT (r:=some (v,t.place.getD i 0+1)) hh hI hS hd hf (fun A E Q q=>?_) (fun u j h' hr hI' sb=>?_) (fun h' hr _=>by cases hr)
  ·refine sS hb hS hd hf hl hp (i:=i) (by rw[V8]; exact nG hr (by lia)) ?_
   rw[hx,hj]
   exact q
  ·cases hr
   refine hQ _ h' s.toks ?_ ⟨⟨0,hI'⟩,sb.2 S hne▸hS⟩ fun b o' hb' e=>?_
   ·rw[VF,Wh,hx]
    rfl
   ·rw[sb.2 b (fun z=>hb' (by rw[z]; exact List.mem_singleton.mpr rfl))]
    exact e
 done:=fun s Q E st hQ=>by
  obtain⟨⟨tk,hI⟩,hS⟩:=st
  have ps:t.place.size=es.size:=by
   simp only[SetTable.fits,WD,beq_iff_eq] at hf
   exact hf.1
  refine uT (r:=none) hh hI hS hd hf (fun A E Q q=>?_) (fun v j h' hr=>by cases hr) (fun h' _ hx=>?_)
  ·refine sS hb hS hd hf hl hp (i:=es.size) (by rw[V8]; exact nG hr (by lia)) ?_
   rw[YQ (Vg _)]
   exact q
  ·exact hQ h' s.toks fun b o' hb' e=>hx b o' (fun z=>hb' (by rw[z]; exact List.mem_singleton.mpr rfl)) e
 self:=fun i s Q E st hQ=>by
  obtain⟨⟨tk,hI⟩,_⟩:=st
  exact uF hI hQ
end
end L2
namespace L2
open PySem PySem.Spec PyProof.Rows
section
variable {P:Vy} {w:V3} {A:V0} {E:Value->Vc->Prop} {s:Vc} {I S T:Addr} {o:Yb} {es:Array (Int × Value)} {ep:Nat} {t:Zb}
def dz (pl:List Nat):List Value:=pl.map fun j:Nat=>Xe (j:Int)
theorem Dn {pl:List Nat} (hh:A.handled=none) (hne:S≠I) (hnt:T≠I) (hd:o.data = .set es ep t) (hf:t.fits es.size=true) (hp:pl.Perm (VD es.size)) :
  Walks P w A I [I,S,T] [I] es.size (fun i v=>(pl.map fun j=>(es.getD j (0,.none)).2)[i]? = some v) (fun i h=>SIt h I S (.ref T) i es.size ep/\h.get? S=some o/\h.IsTuple T (dz pl).toArray) where
 sub:=fun b hb=>by simp at hb; simp [hb]
 frame:=fun i h h' st hk=>by
  obtain⟨hI,hS,o',ho',r⟩:=st
  exact⟨hk I (by simp) _ hI,hk S (by simp) _ hS,o',hk T (by simp) _ ho',r⟩
 item:=fun i s Q E hi st hQ=>by
  obtain⟨hI,hS,hT⟩:=st
  have lp:pl.length=es.size:=by rw[hp.length_eq,VP]
  have hT0:s.TypeIs (.ref I) "set_iterator":=⟨_,hI,rfl⟩
  obtain⟨j,hj⟩:∃ j,pl[i]? = some j:=⟨pl[i],Vf (by lia)⟩
  have hj2:j < es.size:=List.mem_range.mp (hp.mem_iff.mp (Wd hj))
  have hx:es[j]? = some (es.getD j (0,.none)):=by
   rw[VH hj2,Xj,VH hj2]
   rfl
  obtain⟨ot,hot,hct,nt,hdt⟩:=id hT
  unfold X3
  refine U9 (Ye (Wq (name:=XD "__next__") hT0 bL (Wm bL hT0 fB ?_ (fU _))))
  refine (show Vk _ _ (fieldsOf (.ref I) >>= _) _ _ s from U9 (wpAny_fieldsOf hI rfl ?_))
  refine (show Vk _ _ (setEntries S >>= _) _ _ s from U9 (aae hS hd hf ?_))
  rw[if_neg (by simp)]
  refine (show Vk _ _ (aaI (.ref T) >>= _) _ _ s from U9 (Wz hot hdt ?_))
  have hpl:(dz pl).toArray[(i:Int).toNat]? = some (.int (j:Int) 0):=by
   rw[V8,aa1]
   show (pl.map fun j:Nat=>Xe (j:Int))[i]? = _
   rw[VF,hj]
   rfl
  dsimp only
  rw[hpl]
  dsimp only
  refine U9 (show Vk _ _ (setNextDrawn S (j:Int).toNat (ep:Int).toNat) _ _ _ from ?_)
  unfold setNextDrawn
  refine U9 (Y0 hS hd hf ?_)
  dsimp only
  rw[V8,V8,if_neg (by simp),hx]
  refine Vd (U9 (Xz hI rfl (by simp) ?_))
  have g1:=Wu (ZZ (·.setIfInBounds 1 (Xe ((i:Int)+1)))) hI rfl
  refine Vd ⟨_,rfl,Vd (hQ _ _ s.toks ?_ ⟨g1,?_,?_⟩ fun b o' hb' e=>?_)⟩
  ·rw[VF,hj]
   rfl
  ·rw[Wl _ _ (Yv hne)]
   exact hS
  ·exact⟨ot,by rw[Wl _ _ (Yv hnt)]; exact hot,hct,nt,hdt⟩
  ·rw[Wl _ _ (fun z:I=b=>hb' (by rw[z]; exact List.mem_singleton.mpr rfl))]
   exact e
 done:=fun s Q E st hQ=>by
  obtain⟨hI,hS,hT⟩:=st
  have lp:pl.length=es.size:=by rw[hp.length_eq,VP]
  have hT0:s.TypeIs (.ref I) "set_iterator":=⟨_,hI,rfl⟩
  obtain⟨ot,hot,hct,nt,hdt⟩:=id hT
  unfold X3
  refine U9 (Ye (Wq (name:=XD "__next__") hT0 bL (Wm bL hT0 fB ?_ (fU _))))
  refine (show Vk _ _ (fieldsOf (.ref I) >>= _) _ _ s from U9 (wpAny_fieldsOf hI rfl ?_))
  refine (show Vk _ _ (setEntries S >>= _) _ _ s from U9 (aae hS hd hf ?_))
  rw[if_neg (by simp)]
  refine (show Vk _ _ (aaI (.ref T) >>= _) _ _ s from U9 (Wz hot hdt ?_))
  have hpl:(dz pl).toArray[(es.size:Int).toNat]? = none:=by
   rw[V8,aa1]
   show (pl.map fun j:Nat=>Xe (j:Int))[es.size]? = _
   rw[VF,W7 (by lia)]
   rfl
  dsimp only
  rw[hpl]
  dsimp only
  refine U9 (Xz hI rfl (by simp) ?_)
  have g1:=Wu (ZZ (·.setIfInBounds 0 (Xe 0))) hI rfl
  refine U9 (Xz g1 rfl (by simp) ?_)
  refine (show Vk _ _ (abZ (.type "StopIteration") [] >>= _) _ _ _ from U9 ?_)
  simp only[abZ,newTuple]
  refine U9 (V6 ?_ (by size_fits))
  refine U9 (m:=YC _ _) (XX (a:=We) (by first | rfl | (simp only[YC]; rfl)) (V6 ?_ (by size_fits)))
  simp only[raiseNew]
  refine U9 (abn ?_)
  first | rw[show A.in1.handled=none from hh] | rw[hh]
  refine U9 (Vd (ab9 ?_))
  refine U9 (Yy (T:="StopIteration") (b:=true) ⟨_,Vh _ rfl,rfl⟩ aam (Vd ?_))
  refine hQ _ s.toks fun b o' hb' e=>?_
  have hbI:b≠I:=fun z=>hb' (by rw[z]; exact List.mem_singleton.mpr rfl)
  exact ((((WM ..).trans (WM ..)).extBut.push _).push _) b o' hbI e
 self:=fun i s Q E st hQ=>uF st.1 hQ
end
end L2
namespace L2
open PySem PySem.Spec PyProof.Rows
section
variable {P:Vy} {w:V3} {A:V0} {E:Value->Vc->Prop} {s:Vc} {S:Addr}
theorem JR {Q:Bool->Vc->Prop} (hT:s.TypeIs (.ref S) "set") (h:Q false s):Vk (Vs P w) A (acv (.ref S)) Q E s:=by
 unfold acv; refine U9 (aaa hT PySem.F.slot_set_len.lookup ?_)
 generalize hid:("set.__len__" : String)=id0
 wp_delta
 rw[show splitId id0=some ("set","__len__") from by subst hid; decide+kernel]
 subst hid
 refine U9 (Yy (T:="set") (b:=true) hT (by rw[YB]; kernel_rfl) ?_)
 refine acd (fun z=>absurd z (by decide)) (fun _=>acd (fun _=>?_) (fun z=>absurd (by decide+kernel) z))
 exact U9 (abA hT (Vd h))
theorem K5 {b:Bool} {ks:List Int} {Q:Value->Vc->Prop} (hh:A.handled=none) (hb:b=Lx w) (hS:m5 P w b s.heap S ks) (hz:ks.length<=sizeLine)
  (h:∀ (I:Addr) (fp:List Addr) (n:Nat) (vs:List Value) (ns:List Int) (St:Nat->Wb->Prop) (s':Vc),Walks P w A I fp [I] n (fun i v=>vs[i]? = some v) St->St 0 s'.heap->Ww vs ns->ns.Perm ks->vs.length=n->(∀ x∈fp,x=S∨s.heap.objs.size<=x)->s.heap.objs.size<=I →
   s'.os=s.os->s'.gens=s.gens->(∀ b o,s.heap.get? b=some o->s'.heap.get? b=some o)->Q (.ref I) s'):Vk (Vs P w) A (aa3 (.ref S)) Q E s:=by
 obtain⟨o,es,ep,t,ho,hx,hd,hel,hf,tk,ns,hi,hp⟩:=hS
 have hT:s.TypeIs (.ref S) "set":=⟨o,ho,hx.1⟩
 have hlt:S < s.heap.objs.size:=Vo ho
 refine abB hT PySem.F.slot_set_iter (Wm PySem.F.slot_set_iter hT pL ?_ (PySem.F.args_set_iter_1 _))
 refine (show Vk _ _ (Builtin.Frozenset.sizeOf S >>= _) _ _ s from ?_)
 unfold Builtin.Frozenset.sizeOf
 refine U9 (U9 (aae ho hd hf (Vd ?_)))
 unfold setDrawn setsByText
 refine U9 (U9 (Y0 ho hd hf ?_))
 dsimp only
 refine U9 (U9 (Yz (Vd (Vd ?_))))
 have hps:t.place.size=es.size:=by
  simp only[SetTable.fits,WD,beq_iff_eq] at hf
  exact hf.1
 have hlen:(es.toList.map (·.2)).length=es.size:=by rw[Vb,VM]
 have hez:es.size<=sizeLine:=by
  have h1:=hi.length
  have h2:=hp.length_eq
  lia
 have start:∀ (vs:List Value) (ns':List Int) (St:Nat->Wb->Prop),Walks P w A s.heap.objs.size [s.heap.objs.size,S] [s.heap.objs.size] es.size (fun i v=>vs[i]? = some v) St->(∀ h,SIt h s.heap.objs.size S (.int (0:Nat) 0) 0 es.size ep->h.get? S=some o->St 0 h) →
   Ww vs ns'->ns'.Perm ks->vs.length=es.size->Vk (Vs P w) A.in1 (do
    let first ← pure (Xe 0)
    let e ← setEpoch S
    let r ← newFields "set_iterator" [first,Xe 0,V4 S,Xe (es.size:Int),Xe (e:Int)]
    ret r) (fun fin s'=>∃ v,fin=Fin.done (Flow.ret v)/\∃ T' r,s'.TypeIs v T'/\typeLookup (Yh T') (XD "__next__")=pure (some r)/\Q v s') E s:=fun vs ns' St W hst hi' hp' hl'=>by
  refine U9 (Vd (U9 (wpAny_setEpoch_of ho hd hf (U9 (V6 (Vd ?_))))))
  have g:(s.heap.push { cls:=.type "set_iterator",data:=.fields [Xe 0,Xe 0,V4 S,Xe (es.size:Int),Xe (ep:Int)].toArray }).get? s.heap.objs.size=some { cls:=.type "set_iterator",data:=.fields [Xe 0,Xe 0,V4 S,Xe (es.size:Int),Xe (ep:Int)].toArray }:=Vh _ rfl
  refine⟨_,rfl,"set_iterator",_,⟨_,g,rfl⟩,bL.lookup,?_⟩
  refine h s.heap.objs.size [s.heap.objs.size,S] es.size vs ns' St _ W (hst _ g (Va _ ho)) hi' hp' hl' (fun x hx'=>?_) (Vg _) rfl rfl fun b' o' e=>Va _ e
  rcases List.mem_cons.mp hx' with rfl | hx'
  ·exact .inr (Vg _)
  ·exact .inl (List.mem_singleton.mp hx')
 have hne:S≠s.heap.objs.size:=Vx hlt
 cases hB:w.params.followText "set-order" with
 | true =>
  refine aaW (decide_eq_false (show ¬ (!w.params.followText "set-order" && (!t.plain && decide (es.size > 1)))=true by rw[hB]; exact Vm)) ?_
  have pp:=qK (w.params.setOrder S ep) es
  obtain⟨ms,h1,h2⟩:=gq (pp.symm.map (·.2)) hi
  exact start _ ms _ (Ff hh hne hB hd hf) (fun h' q1 q2=>⟨⟨0,0,q1⟩,q2⟩) h1 (h2.trans hp) (by rw[Vb,pp.length_eq,VM])
 | false =>
  have hled:t.led=true:=by
   rw[tk.led,hb]
   unfold Lx
   rw[hB]
   rfl
  cases hD:(!t.plain && decide (es.size > 1)) with
  | false =>
   refine aaW (decide_eq_false (show ¬ (!w.params.followText "set-order" && (!t.plain && decide (es.size > 1)))=true by rw[hD,Bool.and_false]; exact Vm)) ?_
   have hpl:t.plain=true∨es.size<=1:=by
    rw[Bool.and_eq_false_iff] at hD
    rcases hD with q | q
    ·exact .inl (by simpa using q)
    ·exact .inr (by have:=of_decide_eq_false q; lia)
   have hris:Ris t.place:=by
    rcases hpl with q | q
    ·exact tk.ris q
    ·unfold Ris
     have hl1:t.place.toList.length<=1:=by rw[VM]; lia
     generalize t.place.toList=l at hl1
     match l,hl1 with
     | [],_=>exact Yr
     | [x],_=>exact List.pairwise_singleton _ _
   exact start _ ns _ (Ec hh hne hB hd hf hled hpl hris) (fun h' q1 q2=>⟨⟨0,q1⟩,q2⟩) hi hp hlen
  | true =>
   refine wpAny_ite_true (decide_eq_true (show (!w.params.followText "set-order" && (!t.plain && decide (es.size > 1)))=true by rw[hD,hB]; rfl)) ?_
   refine U9 (wu es.size (VD es.size) s VP fun pl d pp=>?_)
   simp only[newTuple]
   have lp:pl.length=es.size:=by rw[pp.length_eq,VP]
   refine U9 (V6 ?_ (show (dz pl).toArray.size<=sizeLine by unfold dz; rw[Vu,Vb]; lia))
   have sz1:(s.heap.push { cls:=.type "tuple",data:=.seq (dz pl).toArray }).objs.size=s.heap.objs.size+1:=V7 _ _
   have gT:(s.heap.push { cls:=.type "tuple",data:=.seq (dz pl).toArray }).get? s.heap.objs.size=some { cls:=.type "tuple",data:=.seq (dz pl).toArray }:=Vh _ rfl
   have ho1:(s.heap.push { cls:=.type "tuple",data:=.seq (dz pl).toArray }).get? S=some o:=Va _ ho
   refine U9 (wpAny_setEpoch_of (o:=o) (es:=es) (t:=t) ho1 hd hf (U9 (V6 (Vd ?_))))
   have g:((s.heap.push { cls:=.type "tuple",data:=.seq (dz pl).toArray }).push { cls:=.type "set_iterator",data:=.fields [V4 s.heap.objs.size,Xe 0,V4 S,Xe (es.size:Int),Xe (ep:Int)].toArray }).get? (s.heap.push { cls:=.type "tuple",data:=.seq (dz pl).toArray }).objs.size=some { cls:=.type "set_iterator",data:=.fields [V4 s.heap.objs.size,Xe 0,V4 S,Xe (es.size:Int),Xe (ep:Int)].toArray }:=Vh _ rfl
   refine⟨_,rfl,"set_iterator",_,⟨_,g,rfl⟩,bL.lookup,?_⟩
   have hne1:S≠(s.heap.push { cls:=.type "tuple",data:=.seq (dz pl).toArray }).objs.size:=by
    rw[sz1]
    exact Vx (Wj hlt)
   have hne2:s.heap.objs.size≠(s.heap.push { cls:=.type "tuple",data:=.seq (dz pl).toArray }).objs.size:=by
    rw[sz1]
    exact Vx (Xb _)
   have hv:(pl.map fun j=>(es.getD j (0,.none)).2).Perm (es.toList.map (·.2)):=by
    refine (pp.map _).trans ?_
    have e:(VD es.size).map (fun j=>(es.getD j (0,We)).2)=es.toList.map (·.2):=by
     apply abN
     intro i
     have ea:es.toList[i]? = es[i]?:=Wh
     rw[VF,VF,ea]
     by_cases hi':i < es.size
     ·rw[XN hi',VH hi']
      simp [Xj,VH hi']
     ·have er:(VD es.size)[i]? = none:=W7 (by rw[VP]; lia)
      rw[er,YQ (by lia)]
      rfl
    rw[e]
   have le1:s.heap.objs.size<=(s.heap.push { cls:=.type "tuple",data:=.seq (dz pl).toArray }).objs.size:=by
    rw[sz1]
    exact Xi _
   obtain⟨ms,h1,h2⟩:=gq hv.symm hi
   refine h _ [(s.heap.push { cls:=.type "tuple",data:=.seq (dz pl).toArray }).objs.size,S,s.heap.objs.size] es.size _ ms _ _ (Dn (T:=s.heap.objs.size) hh hne1 hne2 hd hf pp) ⟨g,Va _ ho1,_,Va _ gT,rfl,0,rfl⟩ h1 (h2.trans hp) (by rw[Vb]; exact lp) (fun x hx'=>?_) le1 rfl rfl fun b' o' e=>Va _ (Va _ e)
   rcases List.mem_cons.mp hx' with rfl | hx'
   ·exact .inr le1
   ·rcases List.mem_cons.mp hx' with rfl | hx'
    ·exact .inl rfl
    ·exact .inr (by rw[List.mem_singleton.mp hx']; exact Vg _)
theorem zp {ks:List Int} {Q:List Value->Vc->Prop} (hh:A.handled=none) (hS:m5 P w (Lx w) s.heap S ks) (hz:ks.length<=sizeLine)
  (h:∀ (vs:List Value) (ns:List Int) (s':Vc),Ww vs ns->ns.Perm ks->s.heap.objs.size<=s'.heap.objs.size->s'.os=s.os->s'.gens=s.gens->(∀ b o,s.heap.get? b=some o->s'.heap.get? b=some o)->Q vs s'):Vk (Vs P w) A (collect (.ref S)) Q E s:=by
 obtain⟨o,es,ep,t,ho,hx,_⟩:=id hS
 have hlt:S < s.heap.objs.size:=Vo ho
 have hSl:s.heap.objs.size≠S:=W8 hlt
 unfold collect
 refine U9 (wpAny_runValue (Xf PySem.F.entry_proto_collect ?_))
 rw[Xc PySem.F.plain_proto_collect _]
 refine (show Vk _ A.in1 (acr [] >>= fun l=>again (.builtin "list.__iadd__" ⟨[l,.ref S],[]⟩)) _ _ s from U9 (V6 ?_))
 refine Vd ⟨XR PySem.F.plain_list_iadd _,Xf PySem.F.entry_list_iadd ?_⟩
 rw[Xc PySem.F.plain_list_iadd _]
 generalize hN:s.heap.push { cls:=.type "list",data:=.seq ([]:List Value).toArray }=h1
 have gL:h1.get? s.heap.objs.size=some { cls:=.type "list",data:=.seq ([]:List Value).toArray }:=by rw[← hN]; exact Vh _ rfl
 have k1:∀ b o,s.heap.get? b=some o->h1.get? b=some o:=fun b o e=>by rw[← hN]; exact Va _ e
 have sz1:h1.objs.size=s.heap.objs.size+1:=by rw[← hN]; exact V7 _ _
 have hT:Shared.TypeIs { s with heap:=h1 } (.ref S) "set":=⟨o,k1 _ _ ho,hx.1⟩
 refine (show Vk _ A.in1 (Y7 (.ref s.heap.objs.size) (.ref S) (.ref s.heap.objs.size)) _ _ { s with heap:=h1 } from ?_)
 unfold Y7; refine U9 (abA hT ?_)
 have q1:Builtin.List.listSameRef (.ref s.heap.objs.size) (.ref S)=false:=by simp [Builtin.List.listSameRef,hSl]
 have q2:(Yh "set" == Yh "list")=false:=by decide
 have q3:(Yh "set" == Yh "tuple")=false:=by decide
 simp only[q1,q2,q3,Bool.or_false,aar,if_false]
 refine U9 (K5 (s:={ s with heap:=h1 }) hh rfl (mO (fun o e=>k1 S o e) hS) hz fun I fp n vs ns St s2 W st hi hp hl hfp hI os2 gs2 k2=>?_)
 have gL2:=k2 _ _ gL
 have hTs:s2.TypeIs (.ref S) "set":=⟨o,k2 _ _ (k1 _ _ ho),hx.1⟩
 have hLf:s.heap.objs.size ∉ fp:=fun z=>by
  rcases hfp _ z with q | q
  ·exact hSl q
  ·have q':h1.objs.size<=s.heap.objs.size:=q
   rw[sz1] at q'
   exact absurd q' (Nat.not_succ_le_self _)
 have hz':n<=sizeLine:=by
  have e1:=hi.length
  have e2:=hp.length_eq
  lia
 have key:∀ (R:aa8->Vc->Prop),(∀ (s':Vc) (c':Nat),s'.heap.get? s.heap.objs.size=some { cls:=.type "list",dict:=none,data:=.seq vs.toArray c',slots:=#[] }->s'.os=s.os->s'.gens=s.gens->(∀ b o,s.heap.get? b=some o->s'.heap.get? b=some o)->R (.ok (.ret (.ref s.heap.objs.size))) s') →
   ∀ (h':Wb) (c tk:Nat),St 0 h'->(∀ b o,b≠s.heap.objs.size->s2.heap.get? b=some o->h'.get? b=some o)->h'.get? s.heap.objs.size=some { cls:=.type "list",data:=.seq #[] c } →
   Xk (Vs P w) A (.builtin "list.extend.loop" ⟨[.ref s.heap.objs.size,.ref I,.ref s.heap.objs.size],[]⟩) R { s2 with heap:=h',toks:=tk }:=fun R hR h' c tk st' kp gl=>by
  refine codeAny_extend_loopS W.toS hz' s.heap.objs.size hLf _ n 0 _ #[] c rfl (VL _) st' gl (ItemsOf.nil _) fun s' acc' c' hm gL' hacc=>?_
  have eacc:acc'=vs.toArray:=by
   apply Array.ext_getElem?
   intro j
   have ev:vs.toArray[j]? = vs[j]?:=aa1
   rw[ev]
   by_cases hj:j < acc'.size
   ·have e:=hacc.2 j acc'[j] (VH hj)
    rw[VH hj]
    exact e.symm
   ·rw[YQ (by lia),W7 (by have:=hacc.1; lia)]
  rw[eacc] at gL'
  refine hR s' c' gL' (hm.os.trans os2) (hm.gens.trans gs2) fun b o' e=>?_
  have hbl:b < s.heap.objs.size:=Vo e
  refine hm.heap b o' ?_ (kp b o' (Vx hbl) (k2 _ _ (k1 _ _ e)))
  rw[Wy,YL]
  rintro (z | z)
  ·exact absurd z (Vx hbl)
  ·have q:h1.objs.size<=I:=hI
   rw[sz1,← z] at q
   exact absurd (Vt hbl (Nat.le_of_succ_le q)) (W5 _)
 refine U9 (Xy (JR hTs ?_))
 have fin:∀ (s':Vc) (c':Nat),s'.heap.get? s.heap.objs.size=some { cls:=.type "list",dict:=none,data:=.seq vs.toArray c',slots:=#[] }->s'.os=s.os->s'.gens=s.gens->(∀ b o,s.heap.get? b=some o->s'.heap.get? b=some o) →
   Vk (Vs P w) A (load s.heap.objs.size >>= fun o=>match o.data with | .seq xs _=>pure xs.toList | _=>unsupported "internal:collect") Q E s':=fun s' c' g e1 e2 e3=>U9 (wpAny_load g (Vd (h vs ns s' hi hp (Yd (Vo g)) e1 e2 e3)))
 refine acd (fun _=>?_) (fun _=>Vd ⟨XR PySem.F.plain_extend_loop _,key _ (fun s' c' g e1 e2 e3=>fin s' c' g e1 e2 e3) s2.heap _ s2.toks st (fun b o _ e=>e) gL2⟩)
 refine U9 (Ys (U9 (show Vk _ _ (abU s.heap.objs.size (·.push .none) >>= fun _=>abU s.heap.objs.size (·.pop)) _ _ _ from ?_)))
 refine U9 (Zw gL2 rfl ?_)
 have g3:=Wu (Xa (·.push We)) gL2 rfl
 refine Zw (hz:=by seq_fits) g3 rfl ?_
 have g4:=Wu (Xa (·.pop)) g3 rfl
 have oth:∀ b o',b≠s.heap.objs.size->s2.heap.get? b=some o'->((s2.heap.update s.heap.objs.size (Xa (·.push We))).update s.heap.objs.size (Xa (·.pop))).get? b=some o':=fun b o' hb e=>by
  rw[Wl _ _ (Yv hb),Wl _ _ (Yv hb)]
  exact e
 exact Vd ⟨XR PySem.F.plain_extend_loop _,key _ (fun s' c' g e1 e2 e3=>fin s' c' g e1 e2 e3) _ _ s2.toks (W.frame 0 _ _ st fun b hb o' e=>oth b o' (fun z=>hLf (by rw[← z]; exact hb)) e) oth g4⟩
end
end L2
namespace L2
open PySem PySem.Spec PyProof.Rows
section
variable {P:Vy} {w:V3} {A:V0} {E:Value->Vc->Prop} {s:Vc} {S:Addr}
theorem Dh {ks:List Int} {Q:Value->Vc->Prop} (hh:A.handled=none) (hS:m5 P w (Lx w) s.heap S ks) (h64:ks.length < 64)
  (h:∀ (l:Addr) (vs:List Value) (ns:List Int) (c:Nat) (s':Vc),Ww vs ns->ns.Perm ks->ns.Pairwise (·<=·)->s'.heap.get? l=some { cls:=.type "list",data:=.seq vs.toArray c }->s.heap.objs.size<=l->s'.os=s.os->s'.gens=s.gens →
   (∀ b o,s.heap.get? b=some o->s'.heap.get? b=some o)->Q (.ref l) s'):Vk (Vs P w) A (call (.builtin "sorted") [.ref S]) Q E s:=by
 refine aat kind_sorted plain_sorted entry_sorted (args_sorted1 _) ?_
 unfold XS.«sorted»; refine U9 (m:=checkCount "sorted" 1 1 _) (Vd ?_)
 refine U9 (zp hh hS (Yd (Vt h64 (by decide))) fun vs ns s1 hi hp hsz os1 gs1 k1=>?_)
 have hl:vs.length < 64:=by
  have e1:=hi.length
  have e2:=hp.length_eq
  lia
 refine U9 (aaB ?_)
 have g1:(s1.heap.push (Xm "list" vs.toArray 0)).get? s1.heap.objs.size=some (Xm "list" vs.toArray 0):=Vh _ rfl
 refine U9 (Xy (Wm slot_list_sort ⟨_,g1,rfl⟩ acf (list_sort_tree g1 hi hl fun out ns' a1 a2 a3=>⟨_,rfl,?_⟩) (args_list_sort _)))
 obtain⟨c,hc⟩:=sortedHeap_at (out:=out) g1
 refine Vd ⟨_,rfl,h s1.heap.objs.size out.toList ns' c _ a1 (a2.trans hp) a3 ?_ hsz os1 gs1 fun b o e=>?_⟩
 ·exact hc
 ·have e1:=k1 b o e
  have lt:=Vo e1
  rw[sortedHeap_old (Vx lt) (by rw[V7]; exact Wj lt)]
  exact Va _ e1
end
end L2
namespace L2
open PySem PySem.Spec PyProof.Rows
def ddI (ns:List Int):List Int:=firstMet (fun i=>ns.getD i 0) ns.length
theorem Inv.Lq {X:Cx} {pins:List (Addr × Yb)} {σ:St} {H:Hp} {s s':Vc} {l:Addr} {ys:List V} {its:List Value} {c:Nat} (I:Inv X pins σ H s) (ho:s'.os=s.os) (hg:s'.gens=s.gens) (k:∀ b u,s.heap.get? b=some u->s'.heap.get? b=some u)
  (hl:s.heap.objs.size<=l) (hv:Vals ys its) (hz:ys.length<=sizeLine) (g:s'.heap.get? l=some { cls:=.type "list",data:=.seq its.toArray c }):Inv X pins σ (upd H l (.lst ys)) s':=by
 have J:=I.laid (t':=s.toks) (o:=.lst ys) k hl ⟨hz,its,c,hv,g⟩
 exact⟨J.ok,ho.trans I.os,by rw[hg]; exact I.bare,J.base,J.loc,J.cell,J.free,J.freeC,J.pin,J.hok,J.len⟩
def tSS (K:VB) (te:TA):TE:=fun σ H Q=>te σ H fun xs H1=>∃ (a:Addr) (ns:List Int),xs=[.ref a]/\SqL K H1 a (ns.map V.int)/\ns.length<=4000/\(ddI ns).length < 64/\∀ ms:List Int,ms.Perm (ddI ns)->ms.Pairwise (·<=·)->∀ l,H1 l=none->Q (.ref l) (upd H1 l (.lst (ms.map V.int)))
theorem nC {X:Cx} {e:Expr} {te:TA} {p1 p2 q1 q2:Zf} (hc:X.calm=true) (hg1:Gl X "sorted") (hm1:X.mg "sorted" = none) (hg2:Gl X "set") (hm2:X.mg "set" = none) (ha:PA X [e] te)
  (hb1:Wt "sorted" = some (.builtin "sorted"):=by decide+kernel) (hb2:Wt "set" = some (.type "set"):=by decide+kernel)
  (he1:VN [.Call (.Name "set" p2) [e] [] q2] X.env=(false,Xn (.Call (.Name "set" p2) [e] [] q2) X.env)::VN [] X.env:=by rfl) (hp1:(Yc q1 (VN [] X.env)).any (·.1)=false:=by rfl)
  (he2:VN [e] X.env=(false,Xn e X.env)::VN [] X.env:=by rfl) (hp2:(Yc q2 (VN [] X.env)).any (·.1)=false:=by rfl) :
  PE X (.Call (.Name "sorted" p1) [.Call (.Name "set" p2) [e] [] q2] [] q1) (tSS X.K te):=by
 intro pins s σ H Q I h
 refine Xl (gj I hg1 hm1 hb1 ?_ (by decide) (by decide))
 refine ab2 ?_ he1 hp1
 rw[he1]
 refine (show Vk _ _ (acp ((false,Xn (.Call (.Name "set" p2) [e] [] q2) X.env)::Yc q1 (VN [] X.env))) _ _ s from abz ?_)
 refine Xl (gj I hg2 hm2 hb2 ?_ (by decide) (by decide))
 refine Wv (thn (ha q2 pins s σ H _ I h) fun us s1 ⟨vs,H1,I1,r1,q⟩=>?_) he2 hp2
 obtain⟨a,ns,rfl,hq,hl,h64,hQ⟩:=q
 obtain⟨u,rfl,ru⟩:=vals1 r1
 cases ru
 obtain⟨its,rv,pl,_⟩:=I1.list hq
 have hi:Ww its ns:=intsAre_of rv
 have hsz:its.toArray.size=ns.length:=by rw[Vu]; exact hi.length
 refine yD (I1.ok.hd hc) pl.isList hi (by rw[hsz]; exact Yj (ab3 hl) (by decide)) fun h' tk hS hk=>?_
 rw[hsz] at hS
 have I2:Inv X pins σ H1 { s1 with heap:=h',toks:=tk }:=I1.kept (t':=tk) fun b o e=>hk b o (Vo e) e
 refine (show Vk _ _ (acp []) _ _ _ from abR ?_)
 refine Dh (I1.ok.hd hc) hS h64 fun l vs ms c s3 hi3 hp3 hw3 g3 hl3 os3 gs3 k3=>?_
 have hml:(ms.map V.int).length<=sizeLine:=by
  rw[Vb,hp3.length_eq]
  exact Yd (Vt h64 (by decide))
 exact⟨.ref l,_,I2.Lq os3 gs3 k3 hl3 (ji hi3) hml g3,rfl,hQ ms hp3 hw3 l (I2.hok.fresh hl3)⟩
end L2
namespace L2
open PySem PySem.Spec PyProof.Rows
section
variable {X:Cx} {pins:List (Addr × Yb)} {s:Vc} {σ:St} {H:Hp}
end
end L2
namespace L2
open PySem PySem.Spec PyProof.Rows
section
variable {X:Cx} {k:Nat}
end
end L2
namespace L2
open PySem PySem.Spec PyProof.Rows
section
variable {P:Vy} {w:V3} {A:V0} {E:Value->Vc->Prop} {s:Vc}
set_option maxRecDepth 100000 in
set_option maxHeartbeats 3200000 in
end
end L2
namespace L2
open PySem PySem.Spec PyProof.Rows
section
variable {X:Cx} {k:Nat}
end
end L2
namespace L2
open PySem PySem.Spec PyProof.Rows
def mxD (d:Int):List Int->Int
 | []=>d
 | a::r=>r.foldl max a
theorem dD:∀ (r:List Int) (a:Int),a<=r.foldl max a/\∀ b∈r,b<=r.foldl max a
 | [],a=>⟨WY _,by simp⟩
 | c::r,a=>by
  obtain⟨h1,h2⟩:=dD r (max a c)
  rw[Wo]
  refine⟨by lia,fun b hb=>?_⟩
  rcases List.mem_cons.mp hb with rfl | hb
  ·lia
  ·exact h2 b hb
theorem uI {n:Int}:∀ {l:List Value} {ns:List Int} {j:Nat},Ww l ns->ns[j]? = some n->∃ t,l[j]? = some (.int n t)
 | _,_,j,.nil,h=>by simp at h
 | _,_,0,.cons _ _ _,h=>by
  cases (show some _=some n from h)
  exact⟨_,rfl⟩
 | _,_,j+1,.cons _ _ r,h=>by
  obtain⟨t,e⟩:=uI (j:=j) r (by simpa using h)
  exact⟨t,by simpa using e⟩
def dkw (dk:Option (Int × Tok)):List (V9 × Value):=dk.toList.map fun d=>(("default" : V9),Yo d.1 d.2)
section
variable {prog:Vy} {w:V3} {A:V0} {R:aa8->Vc->Prop} {E:Value->Vc->Prop} {s:Vc}
theorem Gk {it l S:Addr} {items:Array Value} {ns:List Int} (hh:A.handled=none) (hi:Ww items.toList ns) (hne:l≠it) (hS1:S≠it) (hS2:S≠l) (kw:List (V9 × Value)) :
  ∀ (k j:Nat) (s:Vc) (b:Int) (t:Tok) (c:Nat),ns.length - j=k->j<=ns.length->s.heap.IsListIter it l j->s.heap.IsList l items →
   s.heap.get? S=some { cls:=.type "list",dict:=none,data:=.seq #[.int b t,.int b t] c,slots:=#[] } →
   (∀ t' h' tk,(∀ a o,a≠it->a≠S->s.heap.get? a=some o->h'.get? a=some o)->R (.ok (.ret (.int ((ns.drop j).foldl max b) t'))) { s with heap:=h',toks:=tk }) →
   Xk (Vs prog w) A (.builtin "max.loop" ⟨[.ref it,.none,.ref S],kw⟩) R s:=by
 have W:=Walks.list (prog:=prog) (w:=w) (A:=A.in1) hh it l hne items
 have hname:(toString "max"++toString ".loop" : String) = "max.loop":=by decide
 have hsz:items.size=ns.length:=by rw[← VM]; exact hi.length
 intro k
 induction k with
 | zero =>
  intro j s b t c hk hj h1 h2 hS hR
  refine Xf ab8 ?_; rw[Xc YH _]
  show Vk _ A.in1 (aaI (.ref S) >>= _) _ _ s; refine U9 (Wz hS rfl ?_)
  have ej:j=items.size:=by lia
  show Vk _ A.in1 (tryCatch (X3 (.ref it)) _ >>= _) _ _ s; refine U9 (aak (W.done s _ _ (by rw[← ej]; exact⟨h1,h2⟩) fun h' tk hm=>?_))
  have hS':=hm S _ (by simpa using hS1) hS
  show Vk _ A.in1 (abU S (fun _=>#[]) >>= _) _ _ _; refine U9 (Zw hS' rfl (U9 (YJ (Vd ?_))))
  rw[ZQ (by lia)] at hR
  exact hR t _ tk fun a o ha hb e=>(Wl _ _ (Yv hb)).trans (hm a o (by simpa using ha) e)
 | succ k ih =>
  intro j s b t c hk hj h1 h2 hS hR
  refine Xf ab8 ?_; rw[Xc YH _]
  show Vk _ A.in1 (aaI (.ref S) >>= _) _ _ s; refine U9 (Wz hS rfl ?_)
  have hlt:j < ns.length:=by lia
  obtain⟨u,hu⟩:=uI hi (Vf hlt)
  have ed:ns.drop j=ns[j]::ns.drop (j+1):=Xo hlt
  show Vk _ A.in1 (tryCatch (X3 (.ref it)) _ >>= _) _ _ s; refine U9 (aak (W.item j s _ _ (by lia) ⟨h1,h2⟩ fun v h' tk hP st hm=>?_))
  obtain⟨g1,g2⟩:=st
  have ev:v = .int ns[j] u:=by
   have e:items[j]? = some v:=hP
   rw[← Wh,hu] at e
   exact (Wn e).symm
  subst ev
  have hS':=hm S _ (by simpa using hS1) hS
  show Vk _ A.in1 (tryCatch (abe [Yo ns[j] u,Yo ns[j] u] (richCompare .Gt (.int ns[j] u) (.int b t) >>= _)) _ >>= _) _ _ _
  refine U9 (aak (Xy (U9 ((CmpOf.ints_gt (P:=fun i v=>∃ t,v = .int (if i=0 then ns[j] else b) t) (fun i=>if i=0 then ns[j] else b) (fun _ _ h=>h)) 0 1 _ _ _ _ _ ⟨u,rfl⟩ ⟨t,rfl⟩ ?_))))
  refine U9 (Xy (X6 (U9 (YJ (Vd ?_)))))
  show Vk _ A.in1 (if decide (ns[j] > b)=true then _ else _) _ _ _
  by_cases hb:ns[j] > b
  ·rw[if_pos (decide_eq_true hb)]
   refine U9 (Zw hS' rfl (U9 (YJ ?_)))
   rw[hname]
   refine Vd ⟨XR YH _,ih (j+1) _ ns[j] u _ (by lia) hlt ?_ ?_ (Wu _ hS' rfl) fun t' h2 tk2 k2=>?_⟩
   ·exact g1.at fun o e=>(Wl _ _ hS1).trans e
   ·exact g2.at fun o e=>(Wl _ _ hS2).trans e
   ·have q:=hR t' h2 tk2 fun a o ha hb e=>k2 a o ha hb ((Wl _ _ (Yv hb)).trans (hm a o (by simpa using ha) e))
    rw[ed,Wo,show max b ns[j]=ns[j] by lia] at q
    exact q
  ·rw[if_neg (by simpa using hb)]
   refine U9 (YJ ?_)
   rw[hname]
   refine Vd ⟨XR YH _,ih (j+1) _ b t c (by lia) hlt g1 g2 hS' fun t' h2 tk2 k2=>?_⟩
   have q:=hR t' h2 tk2 fun a o ha hb e=>k2 a o ha hb (hm a o (by simpa using ha) e)
   rw[ed,Wo,show max b ns[j]=b by lia] at q
   exact q
theorem Dc {it l S:Addr} {items:Array Value} {ns:List Int} {c:Nat} (hh:A.handled=none) (hi:Ww items.toList ns) (hne:l≠it) (hS1:S≠it) (hS2:S≠l) (dk:Option (Int × Tok)) (hd:ns=[]->dk≠none)
  (h1:s.heap.IsListIter it l 0) (h2:s.heap.IsList l items) (hS:s.heap.get? S=some { cls:=.type "list",dict:=none,data:=.seq #[] c,slots:=#[] })
  (hR:∀ t' h' tk,(∀ a o,a≠it->a≠S->s.heap.get? a=some o->h'.get? a=some o)->R (.ok (.ret (.int (mxD ((dk.map (·.1)).getD 0) ns) t'))) { s with heap:=h',toks:=tk }) :
  Xk (Vs prog w) A (.builtin "max.loop" ⟨[.ref it,.none,.ref S],dkw dk⟩) R s:=by
 have W:=Walks.list (prog:=prog) (w:=w) (A:=A.in1) hh it l hne items
 have hname:(toString "max"++toString ".loop" : String) = "max.loop":=by decide
 have hsz:items.size=ns.length:=by rw[← VM]; exact hi.length
 refine Xf ab8 ?_; rw[Xc YH _]
 show Vk _ A.in1 (aaI (.ref S) >>= _) _ _ s; refine U9 (Wz hS rfl ?_)
 show Vk _ A.in1 (tryCatch (X3 (.ref it)) _ >>= _) _ _ s
 cases ns with
 | nil =>
  have e0:items.size=0:=hsz
  refine U9 (aak (W.done s _ _ (by rw[e0]; exact⟨h1,h2⟩) fun h' tk hm=>?_))
  cases dk with
  | none=>exact absurd rfl (hd rfl)
  | some d =>
   refine U9 (Ys ?_)
   exact Vd (hR d.2 h' tk fun a o ha hb e=>hm a o (by simpa using ha) e)
 | cons n r =>
  obtain⟨u,hu⟩:=uI (n:=n) (j:=0) hi rfl
  refine U9 (aak (W.item 0 s _ _ (by rw[hsz]; exact Nat.succ_pos _) ⟨h1,h2⟩ fun v h' tk hP st hm=>?_))
  obtain⟨g1,g2⟩:=st
  have ev:v = .int n u:=by
   have e:items[0]? = some v:=hP
   rw[← Wh,hu] at e
   exact (Wn e).symm
  subst ev
  have hS':=hm S _ (by simpa using hS1) hS
  show Vk _ A.in1 (abU S (fun _=>#[Yo n u,Yo n u]) >>= _) _ _ _
  refine U9 (Zw hS' rfl ?_)
  rw[hname]
  refine Vd ⟨XR YH _,Gk hh hi hne hS1 hS2 _ _ 1 _ n u _ rfl (ab3 (VL _)) ?_ ?_ (Wu _ hS' rfl) fun t' h2 tk2 k2=>?_⟩
  ·exact g1.at fun o e=>(Wl _ _ hS1).trans e
  ·exact g2.at fun o e=>(Wl _ _ hS2).trans e
  ·exact hR t' h2 tk2 fun a o ha hb e=>k2 a o ha hb ((Wl _ _ (Yv hb)).trans (hm a o (by simpa using ha) e))
theorem Iu (a v:Value):aab "max" ⟨[a],[("default",v)]⟩:=by unfold aab; kernel_rfl
theorem FZ (v:Value):aaj "max" ["key","default"] 0 ⟨[],[("default",v)]⟩=pure [none,some v]:=by kernel_rfl
theorem Mh {l:Addr} {items:Array Value} {ns:List Int} {Q:Value->Vc->Prop} (hh:A.handled=none) (hl:s.heap.IsList l items) (hi:Ww items.toList ns) (dk:Option (Int × Tok)) (hd:ns=[]->dk≠none)
  (h:∀ t h' tk,(∀ a o,s.heap.get? a=some o->h'.get? a=some o)->Q (.int (mxD ((dk.map (·.1)).getD 0) ns) t) { s with heap:=h',toks:=tk }) :
  Vk (Vs prog w) A (call (.builtin "max") [.ref l] (dkw dk)) Q E s:=by
 have ha:aab "max" ⟨[.ref l],dkw dk⟩:=by
  cases dk with
  | none=>exact F.args_max1 _
  | some d=>exact Iu _ _
 have hb:aaj "max" ["key","default"] 0 ⟨[],dkw dk⟩=pure [none,dk.map fun d=>.int d.1 d.2]:=by
  cases dk with
  | none=>rfl
  | some d=>exact FZ _
 have hname:(toString "max"++toString ".loop" : String) = "max.loop":=by decide
 refine wpAny_call (codeAny_call_builtin F.plain_max F.entry_max ?_)
 have main:Vk (Vs prog w) A.in1 (XS.«max» ⟨[.ref l],dkw dk⟩) (fun fin s'=>match fin with
   | .done f=>(match (Except.ok f:aa8) with | .ok (.ret v)=>Q v s' | .ok _=>False | .error e=>E e s')
   | .again c'=>c'.quiet=true/\Xk (Vs prog w) A c' (fun r s'=>match r with | .ok (.ret v)=>Q v s' | .ok _=>False | .error e=>E e s') s') E s:=by
  show Vk _ A.in1 (aaj "max" ["key","default"] 0 ⟨[],dkw dk⟩ >>= _) _ _ s
  refine U9 (XX hb (U9 (Vd ?_)))
  refine U9 (Y5 hl (U9 (V6 ?_)))
  have lt:l < s.heap.objs.size:=by obtain⟨o,e,_⟩:=hl; exact Vo e
  have hs1:(s.heap.push { cls:=.type "list_iterator",data:=.fields #[.ref l,.int 0 0] }).objs.size=s.heap.objs.size+1:=V7 ..
  rw[hname]
  have ek:(dk.map fun d=>Yo d.1 d.2).toList.map (fun d=>(("default" : V9),d))=dkw dk:=by cases dk <;> rfl
  refine Vd ⟨XR YH _,?_⟩
  show Xk _ A (.builtin "max.loop" ⟨[.ref s.heap.objs.size,.none,_],(dk.map fun d=>Yo d.1 d.2).toList.map (fun d=>(("default" : V9),d))⟩) _ _
  rw[ek]
  refine Dc hh hi (Vx lt) (by rw[hs1]; exact W8 (Xb _)) (by rw[hs1]; exact W8 (Wj lt)) dk hd
   ⟨_,Va _ (Vh _ rfl),rfl,rfl⟩ ((hl.push _).push _) (Vh _ rfl) fun t h' tk k=>?_
  exact h t h' tk fun a o e=>k a o (Vx (Vo e)) (by rw[hs1]; exact Vx (Wj (Vo e))) (Va _ (Va _ e))
 simp only[ab0,F.kind_max]
 cases hsig:Manifest.signature? "max" with
 | none=>exact Vd main
 | some sig =>
  have ha':Bind.checkArgs "max" sig ⟨[.ref l],dkw dk⟩=pure ():=by simpa only [aab,hsig] using ha
  simp only[ha']
  exact Vd main
end
section
variable {X:Cx}
inductive Eu (K:VB) (xs:List V) (H:Hp) (Q:VK):Prop where
 | mk (p:Addr) (ns:List Int) (z0:xs=[.ref p]) (z1:SqL K H p (ns.map V.int)) (z2:ns.length < 64) (z3:∀ ms:List Int,ms.Perm ns->ms.Pairwise (·<=·)->∀ l,H l=none->Q (.ref l) (upd H l (.lst (ms.map V.int)))):Eu K xs H Q
def Nm (K:VB):List V->Hp->VK->Prop:=fun xs H Q=>Eu K xs H Q
theorem CG:iQ X (.builtin "sorted") (Nm X.K):=by
 intro pins s σ H xs us Q I r h
 obtain⟨p,ns,rfl,hq,h64,q⟩:=h
 obtain⟨u,rfl,ru⟩:=vals1 r
 cases ru
 obtain⟨its,rv,pl,hz⟩:=I.list hq
 have hi:Ww its ns:=intsAre_of rv
 refine sorted_ints pl.isList hi (by have:=hi.length; lia) fun out ns' a1 a2 a3=>?_
 obtain⟨e,he⟩:=sortedAll_at s.heap its out
 have hml:(ns'.map V.int).length<=sizeLine:=by
  rw[Vb,a2.length_eq]
  exact Yd (Vt h64 (by decide))
 exact⟨.ref _,_,I.Lq rfl rfl (fun _ _=>sortedAll_old) (Xi _) (ji a1) hml he,rfl,q ns' a2 a3 _ (I.hok.fresh (Xi _))⟩
inductive Mu (K:VB) (xs:List V) (H:Hp) (Q:VK):Prop where
 | mk (p:Addr) (ns:List Int) (z0:xs=[.ref p]) (z1:SqL K H p (ns.map V.int)) (z2:ns≠[]) (z3:Q (.int (mxD 0 ns)) H):Mu K xs H Q
def JS (K:VB):List V->Hp->VK->Prop:=fun xs H Q=>Mu K xs H Q
theorem pX (hc:X.calm=true):iQ X (.builtin "max") (JS X.K):=by
 intro pins s σ H xs us Q I r h
 obtain⟨p,ns,rfl,hq,hne,q⟩:=h
 obtain⟨u,rfl,ru⟩:=vals1 r
 cases ru
 obtain⟨its,rv,pl,hz⟩:=I.list hq
 exact Mh (I.ok.hd hc) pl.isList (show Ww its.toArray.toList ns from intsAre_of rv) none (fun e=>absurd e hne) fun t h' tk k=>⟨.int _,H,I.kept (t':=tk) k,⟨_,rfl⟩,q⟩
def Td (K:VB) (d:Int) (te:TA):TE:=fun σ H Q=>te σ H fun xs H1=>∃ (p:Addr) (ns:List Int),xs=[.ref p]/\SqL K H1 p (ns.map V.int)/\Q (.int (mxD d ns)) H1
theorem Ft {e:Expr} {te:TA} {d:Int} {j} {p pos kp cp:Zf} (hc:X.calm=true) (hg:Gl X "max") (hm:X.mg "max" = none) (ha:PA X [e] te)
  (hb:Wt "max" = some (.builtin "max"):=by decide+kernel)
  (he:Yc pos (VN [e] X.env)=(false,Xn e X.env)::Yc pos (VN [] X.env):=by rfl) (hp:(Yc pos (VN [e] X.env)).any (·.1)=false:=by rfl) :
  PE X (.Call (.Name "max" p) [e] [⟨some "default",.Constant (.int d) j cp,kp⟩] pos) (Td X.K d te):=by
 intro pins s σ H Q I h
 refine Xl (gj I hg hm hb ?_ (by decide) (by decide))
 refine callWith_kw (thn (ha pos pins s σ H _ I h) fun us s1 ⟨vs,H1,I1,r1,q⟩=>?_) he hp
 obtain⟨a,ns,rfl,hq,q⟩:=q
 obtain⟨u,rfl,ru⟩:=vals1 r1
 cases ru
 refine kws_cons (wpAny_Constant_int (kws_nil ?_))
 have I2:Inv X pins σ H1 { s1 with toks:=s1.toks+1 }:=I1.tok _
 obtain⟨its,rv,pl,hz⟩:=I2.list hq
 exact Mh (I.ok.hd hc) pl.isList (show Ww its.toArray.toList ns from intsAre_of rv) (some (d,_)) (fun _ z=>nomatch z) fun t h' tk k=>⟨.int _,H1,I2.kept (t':=tk) k,⟨_,rfl⟩,q⟩
end
end L2
namespace L2
open PySem PySem.Spec PyProof.Rows
theorem Gj:Manifest.owners.lookup (String.ofList ['d','e','s','r','e','v','e','r'].reverse)=some Manifest.sig_reversed:=by kernel_rfl
theorem dH:Slot "reversed" "__next__" "reversed.__next__" :=
 .of (owner:="reversed") (n:="__next__") (by rw[Zx,Ym]; kernel_rfl) (by decide+kernel) (by decide+kernel) (by decide+kernel) (by first | exact .inl (by decide+kernel) | exact .inr (by decide+kernel)) (by rw[YB]; kernel_rfl)
theorem uc:Slot "reversed" "__init__" "object.__init__" :=
 .of (owner:="object") (n:="__init__") (by rw[Zx,Ym]; kernel_rfl) (by decide+kernel) (by decide+kernel) (by decide+kernel) (by first | exact .inl (by decide+kernel) | exact .inr (by decide+kernel)) (by rw[YB]; kernel_rfl)
theorem jK:entryFor table "reversed.__next__" = some XS.«reversed.__next__»:=entryFor_of_tree (by kernel_rfl)
theorem lQ (a:Value):aab "reversed.__next__" ⟨[a],[]⟩:=by
 unfold aab
 rw[aaC (id:="reversed.__next__") (n:=['_','_','t','x','e','n','_','_']) (o:=['d','e','s','r','e','v','e','r']) (by kernel_rfl) Gj]
 kernel_rfl
theorem lG:Slot "reversed" "__iter__" "reversed.__iter__" :=
 .of (owner:="reversed") (n:="__iter__") (by rw[Zx,Ym]; kernel_rfl) (by decide+kernel) (by decide+kernel) (by decide+kernel) (by first | exact .inl (by decide+kernel) | exact .inr (by decide+kernel)) (by rw[YB]; kernel_rfl)
theorem rF:entryFor table "reversed.__iter__" = some XS.«dict_keyiterator.__iter__»:=entryFor_alias (id':="dict_keyiterator.__iter__") (by kernel_rfl) rfl (by decide+kernel) (by kernel_rfl)
theorem uy (a:Value):aab "reversed.__iter__" ⟨[a],[]⟩:=by
 unfold aab
 rw[aaC (id:="reversed.__iter__") (n:=['_','_','r','e','t','i','_','_']) (o:=['d','e','s','r','e','v','e','r']) (by kernel_rfl) Gj]
 kernel_rfl
theorem Eb:TypeCalled "reversed" "reversed.__new__" "object.__init__" :=
 ⟨by decide+kernel,by decide+kernel,⟨_,_,F.mro_reversed⟩,F.made_reversed,by decide+kernel,by rw[YB]; kernel_rfl,uc⟩
theorem xg:typeLookup (.type "tuple") "__reversed__" = pure none:=by rw[Zx,Ym]; kernel_rfl
theorem xV:isSubtype (.type "tuple") (.type "dict")=pure false:=by rw[YB]; kernel_rfl
def RIt (h:Wb) (I t:Addr) (i:Int):Prop:=h.get? I=some { cls:=.type "reversed",dict:=none,data:=.fields #[.ref t,.int i 0],slots:=#[] }
theorem Lk (a:Value):acu "reversed" ⟨[.type "reversed",a],[]⟩=pure (.type "reversed",[a]):=by
 unfold acu
 simp only[isType,F.sub_reversed_self,pure_bind,Bool.not_true,aar,if_false]
theorem J3 (t:Addr) (items:Array Value) (hf:(items.size:Int) < 2 ^ 63) :
  Meets (XS.«reversed.__new__» ⟨[.type "reversed",.ref t],[]⟩) (fun _ R s=>IsTup s.heap t items/\R (.ok (.ret (.ref s.heap.objs.size))) { s with heap:=s.heap.push { cls:=.type "reversed",data:=.fields #[.ref t,.int ((items.size:Int) - 1) 0] },toks:=s.toks+1+1 }) :=
 .of_wp fun prog w A R s h=>by
  obtain⟨ht,h⟩:=h
  unfold XS.«reversed.__new__»
  refine U9 (XX (Lk _) ?_)
  try dsimp only
  refine U9 (XX (a:=()) (by first | rfl | kernel_rfl) (U9 (XX (a:=()) (by first | rfl | kernel_rfl) ?_)))
  try dsimp only
  refine U9 (aaa ht.typeIs xg ?_)
  try dsimp only
  refine (show Vk _ _ ((isInstance (.ref t) (.type "dict") >>= _) >>= _) _ _ s from U9 (U9 (Yy ht.typeIs xV ?_)))
  rw[if_neg Vm]
  refine U9 (aaa ht.typeIs slot_tuple_getitem.lookup ?_)
  dsimp only
  rw[if_pos (by decide+kernel)]
  refine Vd ?_
  rw[if_neg (by simp)]
  refine U9 (len_tuple ht hf ?_)
  refine U9 (XX (a:=some ((items.size:Nat):Int)) rfl ?_)
  dsimp only
  refine U9 ?_
  refine (show Vk _ _ (newObj (.type "reversed") (.fields #[.ref t,Xe ((items.size:Int) - 1)])) _ _ _ from V6 ?_)
  exact Vd ⟨_,rfl,h⟩
section
variable {prog:Vy} {w:V3} {A:V0} {E:Value->Vc->Prop} {s:Vc}
theorem Fx {t:Addr} {items:Array Value} {Q:Value->Vc->Prop} (ht:IsTup s.heap t items) (hf:(items.size:Int) < 2 ^ 63)
  (h:Q (.ref s.heap.objs.size) { s with heap:=s.heap.push { cls:=.type "reversed",data:=.fields #[.ref t,.int ((items.size:Int) - 1) 0] },toks:=s.toks+1+1 }):Vk (Vs prog w) A (call (.type "reversed") [.ref t]) Q E s:=by
 refine abF Eb (by decide) (F.typeCall_reversed_1 _) (F.newCall_reversed_1 _) (fun obj=>F.args_object_init_2 obj _) F.entry_reversed_new (J3 t items hf) ⟨ht,?_⟩
 exact⟨⟨_,Vh _ rfl,rfl⟩,h⟩
theorem Lj {it t:Addr} {i:Nat} {items:Array Value} {x:Value} {Q:Option Value->Vc->Prop} (hit:RIt s.heap it t (i:Int)) (ht:IsTup s.heap t items) (hi:(i:Int) < 2 ^ 63) (hx:items[i]? = some x)
  (hQ:∀ h',RIt h' it t ((i:Int) - 1)->Xu it s.heap h'->Q (some x) { s with heap:=h',toks:=s.toks+1 }):Vk (Vs prog w) A (X3 (.ref it)) Q E s:=by
 have hT:s.TypeIs (.ref it) "reversed":=⟨_,hit,rfl⟩
 unfold X3
 refine U9 (Ye (Wq (name:=XD "__next__") hT dH (Wm dH hT jK ?_ (lQ _))))
 unfold XS.«reversed.__next__»
 refine U9 (XX (a:=(V4 it,[])) rfl ?_)
 dsimp only
 refine U9 (Wi hit rfl (x:=.ref t) rfl (U9 (Wi hit rfl (x:=.int (i:Int) 0) rfl ?_)))
 dsimp only
 rw[if_neg (by lia)]
 refine U9 (aaa ht.typeIs slot_tuple_getitem.lookup ?_)
 rw[if_neg (by simp)]
 refine U9 (wpAny_mkInt ?_)
 have hsz:i < items.size:=(Array.getElem?_eq_some_iff.mp hx).1
 have hk:abX (i:Int) items.size=some i:=by
  have e0:¬ ((i:Int) < 0):=by lia
  unfold abX
  simp only[if_neg e0]
  simp [hsz]
 refine U9 (Ye (getItem_tuple (s:={ s with toks:=s.toks+1 }) (show IsTup s.heap t items from ht) (by lia) hi hk hx ?_))
 dsimp only
 refine U9 (Wi (s:={ s with toks:=s.toks+1 }) hit rfl (x:=.int (i:Int) 0) rfl ?_)
 dsimp only
 refine U9 (Xz (s:={ s with toks:=s.toks+1 }) hit rfl (by simp) ?_)
 refine Vd ⟨x,rfl,Vd (hQ _ ?_ (WM ..))⟩
 exact Wu (ZZ (·.setIfInBounds 1 (Xe ((i:Int) - 1)))) hit rfl
theorem NK {it t:Addr} {Q:Option Value->Vc->Prop} (hh:A.handled=none) (hit:RIt s.heap it t (-1)) (hQ:∀ h',Heap.ExtBut it s.heap h'->Q none { s with heap:=h' }):Vk (Vs prog w) A (X3 (.ref it)) Q E s:=by
 have hT:s.TypeIs (.ref it) "reversed":=⟨_,hit,rfl⟩
 unfold X3
 refine U9 (Ye (Wq (name:=XD "__next__") hT dH (Wm dH hT jK ?_ (lQ _))))
 unfold XS.«reversed.__next__»
 refine U9 (XX (a:=(V4 it,[])) rfl ?_)
 dsimp only
 refine U9 (Wi hit rfl (x:=.ref t) rfl (U9 (Wi hit rfl (x:=.int (-1) 0) rfl ?_)))
 dsimp only
 rw[if_pos (by decide)]
 refine U9 (Ys ?_)
 refine U9 ?_
 refine (show Vk _ _ (setField (.ref it) 1 (Xe (-1)) >>= _) _ _ s from U9 (Xz hit rfl (by simp) ?_))
 have g1:=Wu (ZZ (·.setIfInBounds 1 (Xe (-1)))) hit rfl
 refine Xz g1 rfl (by simp) ?_
 refine U9 ?_
 refine (show Vk _ _ (abZ (.type "StopIteration") [] >>= _) _ _ _ from U9 ?_)
 simp only[abZ,newTuple]
 refine U9 (V6 ?_ (by size_fits))
 refine U9 (m:=YC _ _) (XX (a:=We) (by first | rfl | (simp only[YC]; rfl)) (V6 ?_ (by size_fits)))
 simp only[raiseNew]
 refine U9 (abn ?_)
 first | rw[show A.in1.handled=none from hh] | rw[hh]
 refine U9 (Vd (ab9 ?_))
 refine U9 (Yy (T:="StopIteration") (b:=true) ⟨_,Vh _ rfl,rfl⟩ aam (Vd ?_))
 exact hQ _ ((((WM ..).trans (WM ..)).extBut.push _).push _)
theorem zT {it t:Addr} {i:Int} {Q:Value->Vc->Prop} (hI:RIt s.heap it t i) (h:Q (.ref it) s):Vk (Vs prog w) A (aa3 (.ref it)) Q E s:=by
 have hT:s.TypeIs (.ref it) "reversed":=⟨_,hI,rfl⟩
 refine abB hT lG (Wm lG hT rF (show Vk _ _ (ret (.ref it)) _ _ s from ?_) (uy _))
 exact Vd ⟨_,rfl,"reversed",_,hT,dH.lookup,h⟩
end
def Itv (K:VB) (a:Addr) (n:Nat):It :=
 ⟨fun i H=>i < n/\∃ xs x,SqT K H a xs/\xs.length=n/\xs[n - 1 - i]? = some x,fun i H x H'=>H'=H/\∀ xs,SqT K H a xs->xs[n - 1 - i]? = some x,fun i _=>i=n⟩
theorem JC {P:Vy} {w:V3} {K:VB} {tg:Expr} (a it:Addr) (n:Nat) (hn:(n:Int) < 2 ^ 63):Turn P w K tg (Itv K a n) [it] it (fun i h=>RIt h it a ((n:Int) - 1 - (i:Int))) where
 mem:=by simp
 obj:=fun i h st b hb=>by
  have e:b=it:=by simpa using hb
  subst e
  exact⟨_,st,fun v z=>by cases (show Data.fields _=Data.cell v from z)⟩
 keep:=fun i h h' st k=>k it (by simp) _ st
 item:=by
  intro X hP hw hK hc i pins s σ H E I hf st hg
  subst hP hw hK
  obtain⟨hin,xs,x,hq,hlen,hx⟩:=hg
  obtain⟨its,rv,p,hz⟩:=I.tuple hq
  obtain⟨u,hu,ru⟩:=rv.get hx
  obtain⟨f0,f1,f2,f3,f4,f5⟩:=hf it (by simp)
  have e:(n:Int) - 1 - (i:Int)=((n - 1 - i:Nat):Int):=by lia
  have st':RIt s.heap it a ((n - 1 - i:Nat):Int):=by rw[← e]; exact st
  refine Lj st' p (by lia) (x:=u) (by simpa using hu) fun h' st2 sb=>?_
  have e2:((n - 1 - i:Nat):Int) - 1=(n:Int) - 1 - ((i+1:Nat):Int):=by lia
  rw[e2] at st2
  have I1:Inv X pins σ H { s with heap:=h',toks:=s.toks+1 }:=I.turned (t':=s.toks+1) (fun b o hb e=>(sb.2 b hb).trans e) f0 f1 f3 f4 f5
  exact⟨u,rfl,KQ (s:={ s with heap:=h',toks:=s.toks+1 }) st2 rfl rfl (by decide) ⟨x,H,I1,ru,⟨rfl,fun ys hy=>by rw[I.gU hy hq]; exact hx⟩,st2,fun b hb=>(hf b hb).1⟩⟩
 done:=by
  intro X hP hw hK hc i pins s σ H E I hf st hg
  subst hP hw hK
  cases (show i=n from hg)
  obtain⟨f0,f1,f2,f3,f4,f5⟩:=hf it (by simp)
  have st':RIt s.heap it a (-1):=by
   have e:(n:Int) - 1 - (n:Int) = -1:=by lia
   rw[← e]; exact st
  exact NK (I.ok.hd hc) st' fun h' eb=>⟨rfl,I.turned (t':=s.toks) (fun b o hb e=>eb b o hb e) f0 f1 f3 f4 f5⟩
 self:=fun _ _ _ _ _ st h=>zT st h
def U4 (K:VB) (ta:TA):TI:=fun σ H R=>ta σ H fun vs H1=>∃ a xs,vs=[.ref a]/\SqT K H1 a xs/\R (Itv K a xs.length) H1
theorem QK {X:Cx} {tg:Expr} {a:Expr} {ta:TA} {p pos:Zf} (hg:Gl X "reversed") (hm:X.mg "reversed" = none) (ha:PA X [a] ta) (hs:VN [a] X.env=[(false,Xn a X.env)]:=by rfl) :
  PI X tg (.Call (.Name "reversed" p) [a] [] pos) (U4 X.K ta):=by
 intro pins s σ H R I h
 refine Call_ (gj I hg hm boot_reversed (Wv (thn (ha pos pins s σ H _ I h) fun us s1 ⟨vs,H1,I1,r1,q1⟩=>?_) hs rfl))
 obtain⟨c,xs,e,hx,q⟩:=q1
 subst e
 obtain⟨u1,rfl,ru1⟩:=vals1 r1
 cases ru1
 obtain⟨its,rv,tp,hz⟩:=I1.tuple hx
 have hl:=rv.length
 have hn:=xH
 have hsz:((its.toArray.size:Nat):Int) < 2 ^ 63:=by rw[Vu,← hl]; lia
 refine Fx tp hsz ?_
 have g:RIt (s1.heap.push { cls:=.type "reversed",data:=.fields #[.ref c,.int ((its.toArray.size:Int) - 1) 0] }) s1.heap.objs.size c ((xs.length:Int) - 1 - ((0:Nat):Int)):=by
  have e:((xs.length:Int) - 1 - ((0:Nat):Int))=(its.toArray.size:Int) - 1:=by rw[Vu,← hl]; lia
  rw[e]
  exact Vh _ rfl
 refine zT g ⟨s1.heap.objs.size,[s1.heap.objs.size],_,_,H1,rfl,I1.kept (t':=s1.toks+1+1) fun b o e=>Va _ e,JC c _ xs.length (by lia),g,fun b hb=>?_,q⟩
 have e:b=s1.heap.objs.size:=by simpa using hb
 subst e
 exact I1.Jz (Vg _) (I1.hok.fresh (Vg _))
theorem Pr {K:VB} {a:Addr} {xs:List V} {g:TG} {tb:TS} {D:Ends} {σ:St} {H:Hp} (Pv:Nat->St->Hp->Prop) (h0:Pv 0 σ H) (hl:∀ i σ H,i<=xs.length->Pv i σ H->SqT K H a xs)
  (hs:∀ i x σ H,i < xs.length->xs[xs.length - 1 - i]? = some x->Pv i σ H->g x σ H fun σ2 H2=>tb { D with nx:=Pv (i+1),ct:=Pv (i+1),bk:=D.nx } σ2 H2) (hd:∀ σ H,Pv xs.length σ H->D.nx σ H) :
  ∃ W:Nat->Nat->St->Hp->Prop,(∃ m,W 0 m σ H)/\∀ i m σ H,W i m σ H →
   ((Itv K a xs.length).stop i H/\D.nx σ H)∨((Itv K a xs.length).go i H/\∃ N:St->Hp->Prop,(∀ σ' H',N σ' H'->∃ m',m' < m/\W (i+1) m' σ' H')/\∀ x H',(Itv K a xs.length).yld i H x H'->g x σ H' fun σ2 H2=>tb { D with nx:=N,ct:=N,bk:=D.nx } σ2 H2):=by
 refine⟨fun i m σ H=>m=xs.length - i/\i<=xs.length/\Pv i σ H,⟨xs.length,by simp,VL _,h0⟩,?_⟩
 rintro i m σ H ⟨rfl,hi,p⟩
 have q1:=hl i σ H hi p
 by_cases hlt:i < xs.length
 ·refine .inr ⟨⟨hlt,xs,xs[xs.length - 1 - i],q1,rfl,Vf (by lia)⟩,Pv (i+1),fun σ' H' p'=>⟨xs.length - (i+1),by lia,rfl,hlt,p'⟩,fun v H' y=>?_⟩
  obtain⟨rfl,hx⟩:=y
  exact hs i v σ _ hlt (hx xs q1) p
 ·have e:i=xs.length:=by lia
  subst e
  exact .inl ⟨rfl,hd σ H p⟩
end L2
namespace L2
open PySem PySem.Spec PyProof.Rows
section
variable {prog:Vy} {w:V3} {A:V0} {E:Value->Vc->Prop} {s:Vc}
theorem nA {h h':Wb} {a t:Addr} {its:Array Value} (ht:h.IsList t its) (sb:Xu a h h') (ne:t≠a):h'.IsList t its:=by
 obtain⟨o,e,r⟩:=ht
 exact⟨o,(sb.2 t ne).trans e,r⟩
theorem di {h h':Wb} {a it t:Addr} {i:Nat} (ht:h.IsListIter it t i) (sb:Xu a h h') (ne:it≠a):h'.IsListIter it t i:=by
 obtain⟨o,e,r⟩:=ht
 exact⟨o,(sb.2 it ne).trans e,r⟩
theorem N8 {z p q i1 i2 l1 l2:Addr} {k:Nat} {xs ys:Array Value} {x y a b:Value} {Q:Option Value->Vc->Prop} (D:Zap z p q i1 i2 l1 l2)
  (hz:YW s.heap z p q .none) (hp:Zn s.heap p (.ref i1) (.ref i2)) (hq:Zn s.heap q a b) (j1:s.heap.IsTupleIter i1 l1 k) (j2:s.heap.IsListIter i2 l2 k) (t1:s.heap.IsTuple l1 xs) (t2:s.heap.IsList l2 ys)
  (hx:xs[k]? = some x) (hy:ys[k]? = some y)
  (hQ:∀ h',YW h' z p q (Xe s.heap.objs.size)->Zn h' q x y->h'.IsTupleIter i1 l1 (k+1)->h'.IsListIter i2 l2 (k+1)->Zn h' s.heap.objs.size x y->h'.objs.size=s.heap.objs.size+1 →
   (∀ c o,c≠z->c≠q->c≠i1->c≠i2->s.heap.get? c=some o->h'.get? c=some o)->Q (some (.ref s.heap.objs.size)) { s with heap:=h' }):Vk (Vs prog w) A (X3 (.ref z)) Q E s:=by
 have hT:s.TypeIs (.ref z) "zip":=⟨_,hz,rfl⟩; unfold X3
 refine U9 (Ye (Wq (name:=XD "__next__") hT Yq (Wm Yq hT aaP ?_ (aaA _))))
 show Vk _ _ (abp (.ref z) 2 >>= _) _ _ _; refine U9 (Wi hz rfl (x:=.bool false) rfl ?_)
 show Vk _ _ (abp (.ref z) 3 >>= _) _ _ _; refine U9 (Wi hz rfl (x:=.ref p) rfl ?_); refine U9 (Wz hp rfl ?_)
 show Vk _ _ (Ws (.ref z) >>= _) _ _ _; refine U9 ?_; unfold Ws
 refine U9 (Wi hz rfl (x:=.none) rfl (Vd ?_)); simp only[if_true]; refine U9 (Ys ?_); refine U9 (Wi hz rfl (x:=.ref q) rfl ?_)
 refine U9 (Xd hz (by simp) fun h1 z1 b1=>?_); replace z1:YW h1 z p q .ellipsis:=z1
 refine U9 ?_; simp only[aaK,aa0,Zy,Zc]; refine U9 (U9 (YX ?_))
 show Vk _ _ (Wc (.ref i1) >>= _) _ _ _; refine U9 (qm (dq j1 b1 D.az) (je t1 b1 D.xz) hx fun h2 u1 b2=>Vd ?_)
 have q2:Zn h2 q a b:=(b2.2 _ D.qa).trans ((b1.2 _ D.qz).trans hq); refine U9 (Wz q2 rfl ?_); refine U9 (aa2 q2 fun h3 q3 b3=>?_)
 replace q3:Zn h3 q x b:=q3; refine U9 (YJ (Vd ?_)); refine U9 (U9 (YX ?_))
 show Vk _ _ (Wc (.ref i2) >>= _) _ _ _
 refine U9 (wpAny_nextOf_list_item (di (di (di j2 b1 D.bz) b2 D.ab.symm) b3 D.qb.symm) (nA (nA (nA t2 b1 D.yz) b2 D.ya) b3 D.yq) hy fun h4 u2 b4=>Vd ?_)
 have q4:Zn h4 q x b:=(b4.2 _ D.qb).trans q3; refine U9 (Wz q4 rfl ?_); refine U9 (aa2 q4 fun h5 q5 b5=>?_)
 replace q5:Zn h5 q x y:=q5; refine U9 (YJ (Vd (Vd ?_))); refine U9 (Wz q5 rfl ?_); refine U9 (wpAny_newTuple ?_)
 have sz:h5.objs.size=s.heap.objs.size:=by rw[b5.1,b4.1,b3.1,b2.1,b1.1]
 have z5:YW h5 z p q .ellipsis:=(b5.2 _ D.qz.symm).trans ((b4.2 _ D.bz.symm).trans ((b3.2 _ D.qz.symm).trans ((b2.2 _ D.az.symm).trans z1)))
 have kp:∀ c o,c≠z->c≠q->c≠i1->c≠i2->s.heap.get? c=some o->h5.get? c=some o:=fun c o c1 c2 c3 c4 e=>(b5.2 c c2).trans ((b4.2 c c4).trans ((b3.2 c c2).trans ((b2.2 c c3).trans ((b1.2 c c1).trans e))))
 have u15:h5.IsTupleIter i1 l1 (k+1):=dq (dq (dq u1 b3 D.qa.symm) b4 D.ab) b5 D.qa.symm
 have u25:h5.IsListIter i2 l2 (k+1):=di u2 b5 D.qb.symm
 have zl:z < h5.objs.size:=Vo z5
 show Vk _ _ (X8 (.ref z) (.ref h5.objs.size) >>= _) _ _ _; refine U9 ?_; unfold X8
 have z6:YW (h5.push { cls:=.type "tuple",data:=.seq #[x,y] }) z p q .ellipsis:=Va _ z5
 refine U9 (Xd z6 (by simp) fun h7 z7 b7=>?_); replace z7:YW h7 z p q (Xe h5.objs.size):=z7
 refine Xd z7 (by simp) fun h8 z8 b8=>?_; replace z8:YW h8 z p q (Xe h5.objs.size):=z8
 have up:∀ c o,c≠z->h5.get? c=some o->h8.get? c=some o:=fun c o c1 e=>(b8.2 c c1).trans ((b7.2 c c1).trans (Va _ e))
 have t8:Zn h8 h5.objs.size x y:=(b8.2 _ (W8 zl)).trans ((b7.2 _ (W8 zl)).trans (Vh _ rfl))
 have s8:h8.objs.size=h5.objs.size+1:=by rw[b8.1,b7.1,V7]
 rw[sz] at z8 t8 s8; refine Vd ⟨_,rfl,?_⟩
 show Vk _ _ _ _ _ _
 rw[sz]
 exact Vd (hQ h8 z8 (up _ _ D.qz q5) (by obtain⟨o,e,r⟩:=u15; exact⟨o,up _ o D.az e,r⟩) (by obtain⟨o,e,r⟩:=u25; exact⟨o,up _ o D.bz e,r⟩) t8 s8 fun c o c1 c2 c3 c4 e=>up c o c1 (kp c o c1 c2 c3 c4 e))
theorem N6 {z p q i1 i2 l1 l2:Addr} {k:Nat} {xs ys:Array Value} {a b:Value} {Q:Fin->Vc->Prop} (hh:A.handled=none) (D:Zap z p q i1 i2 l1 l2)
  (hz:YW s.heap z p q .none) (hp:Zn s.heap p (.ref i1) (.ref i2)) (hq:Zn s.heap q a b) (j1:s.heap.IsTupleIter i1 l1 k) (j2:s.heap.IsListIter i2 l2 k) (t1:s.heap.IsTuple l1 xs) (t2:s.heap.IsList l2 ys)
  (hend:xs[k]? = none∨ys[k]? = none) (hE:∀ h' e,(∀ c o,c≠z->c≠q->c≠i1->c≠i2->s.heap.get? c=some o->h'.get? c=some o)->(∃ o,h'.get? e=some o/\o.cls = .type "StopIteration")->E (.ref e) { s with heap:=h' }) :
  Vk (Vs prog w) A (XS.«zip.__next__» ⟨[.ref z],[]⟩) Q E s:=by
 show Vk _ _ (abp (.ref z) 2 >>= _) _ _ _; refine U9 (Wi hz rfl (x:=.bool false) rfl ?_)
 show Vk _ _ (abp (.ref z) 3 >>= _) _ _ _; refine U9 (Wi hz rfl (x:=.ref p) rfl ?_); refine U9 (Wz hp rfl ?_)
 show Vk _ _ (Ws (.ref z) >>= _) _ _ _; refine U9 ?_; unfold Ws
 refine U9 (Wi hz rfl (x:=.none) rfl (Vd ?_)); simp only[if_true]; refine U9 (Ys ?_); refine U9 (Wi hz rfl (x:=.ref q) rfl ?_)
 refine U9 (Xd hz (by simp) fun h1 z1 b1=>?_); replace z1:YW h1 z p q .ellipsis:=z1
 refine U9 ?_; simp only[aaK,aa0,Zy,Zc]; refine U9 (U9 (YX ?_))
 show Vk _ _ (Wc (.ref i1) >>= _) _ _ _
 cases hx:xs[k]? with
 | none =>
  refine U9 (Mf hh (dq j1 b1 D.az) (je t1 b1 D.xz) hx fun h2 e b2 he=>?_)
  obtain⟨oe,ho,hc⟩:=he
  have z2:YW h2 z p q .ellipsis:=b2 _ _ D.az.symm z1
  have ez:e≠z:=fun u=>by subst u; rw[z2] at ho; cases ho; simp at hc
  exact Xd z2 (by simp) fun h3 _ b3=>hE h3 e (fun c o c1 _ c3 _ u=>(b3.2 c c1).trans (b2 _ _ c3 ((b1.2 c c1).trans u))) ⟨oe,(b3.2 e ez).trans ho,hc⟩
 | some x =>
  have hy:ys[k]? = none:=hend.elim (fun u=>by rw[hx] at u; cases u) id
  refine U9 (qm (dq j1 b1 D.az) (je t1 b1 D.xz) hx fun h2 u1 b2=>Vd ?_)
  have q2:Zn h2 q a b:=(b2.2 _ D.qa).trans ((b1.2 _ D.qz).trans hq); refine U9 (Wz q2 rfl ?_); refine U9 (aa2 q2 fun h3 q3 b3=>?_)
  refine U9 (YJ (Vd ?_)); refine U9 (U9 (YX ?_)); show Vk _ _ (Wc (.ref i2) >>= _) _ _ _
  refine U9 (wpAny_nextOf_list_end hh (di (di (di j2 b1 D.bz) b2 D.ab.symm) b3 D.qb.symm) (nA (nA (nA t2 b1 D.yz) b2 D.ya) b3 D.yq) hy fun h4 e b4 he=>?_)
  obtain⟨oe,ho,hc⟩:=he
  have z4:YW h4 z p q .ellipsis:=b4 _ _ D.bz.symm ((b3.2 _ D.qz.symm).trans ((b2.2 _ D.az.symm).trans z1))
  have ez:e≠z:=fun u=>by subst u; rw[z4] at ho; cases ho; simp at hc
  exact Xd z4 (by simp) fun h5 _ b5=>hE h5 e (fun c o c1 c2 c3 c4 u=>(b5.2 c c1).trans (b4 _ _ c4 ((b3.2 c c2).trans ((b2.2 c c3).trans ((b1.2 c c1).trans u))))) ⟨oe,(b5.2 e ez).trans ho,hc⟩
theorem S6 {z p q i1 i2 l1 l2:Addr} {k:Nat} {xs ys:Array Value} {a b:Value} {Q:Option Value->Vc->Prop} (hh:A.handled=none) (D:Zap z p q i1 i2 l1 l2)
  (hz:YW s.heap z p q .none) (hp:Zn s.heap p (.ref i1) (.ref i2)) (hq:Zn s.heap q a b) (j1:s.heap.IsTupleIter i1 l1 k) (j2:s.heap.IsListIter i2 l2 k) (t1:s.heap.IsTuple l1 xs) (t2:s.heap.IsList l2 ys)
  (hend:xs[k]? = none∨ys[k]? = none) (hQ:∀ h',(∀ c o,c≠z->c≠q->c≠i1->c≠i2->s.heap.get? c=some o->h'.get? c=some o)->Q none { s with heap:=h' }):Vk (Vs prog w) A (X3 (.ref z)) Q E s:=by
 have hT:s.TypeIs (.ref z) "zip":=⟨_,hz,rfl⟩; unfold X3
 refine U9 (Ye (Wq (name:=XD "__next__") hT Yq (Wm Yq hT aaP (N6 hh D hz hp hq j1 j2 t1 t2 hend fun h' e kp he=>?_) (aaA _))))
 obtain⟨o,ho,hc⟩:=he
 exact U9 (Yy (T:="StopIteration") (b:=true) ⟨o,ho,hc⟩ aam (Vd (hQ _ kp)))
abbrev uB (h:Wb) (t:Addr):Wb:=h.push { cls:=.type "list_iterator",data:=.fields #[.ref t,.int 0 0] }
abbrev uC (h:Wb) (t u:Addr):Wb:=(uB (zA h t) u).push { cls:=.type "tuple",data:=.seq #[.ref h.objs.size,.ref (zA h t).objs.size] }
abbrev uD (h:Wb) (t u:Addr):Wb:=(uC h t u).push { cls:=.type "tuple",data:=.seq #[.none,.none] }
abbrev uE (h:Wb) (t u:Addr):Wb:=(uD h t u).push { cls:=.type "zip",data:=.fields #[.none,.bool false,.bool false,.ref (uB (zA h t) u).objs.size,.ref (uC h t u).objs.size] }
theorem Rm (l1 l2:Addr) (xs ys:Array Value) :
  Meets (XS.«zip.__new__» ⟨[.type "zip",.ref l1,.ref l2],[]⟩) (fun _ R s=>s.heap.IsTuple l1 xs/\s.heap.IsList l2 ys/\R (.ok (.ret (.ref (uD s.heap l1 l2).objs.size))) { s with heap:=uE s.heap l1 l2 }) :=
 .of_wp fun prog w A R s h=>by
  obtain⟨hp,g,d,tk,os⟩:=s; obtain⟨a1,a2,h⟩:=h; have hsub:=sub_zip
  have T1:abP (aax ⟨hp,g,d,tk,os⟩) l1 xs:=a1
  have T2:Heap.IsList (aax ⟨hp.push { cls:=.type "tuple_iterator",data:=.fields #[.ref l1,.int 0 0] },g,d,tk,os⟩) l2 ys:=by
   obtain⟨o,e,r⟩:=a2
   exact⟨o,Va _ e,r⟩
  wp_walk using YK T1,Y5 T2
  exact⟨_,rfl,h⟩
theorem PK {l1 l2:Addr} {xs ys:Array Value} {Q:Value->Vc->Prop} (t1:s.heap.IsTuple l1 xs) (t2:s.heap.IsList l2 ys)
  (h:∀ h',YW h' (s.heap.objs.size+4) (s.heap.objs.size+2) (s.heap.objs.size+3) .none->Zn h' (s.heap.objs.size+2) (.ref s.heap.objs.size) (.ref (s.heap.objs.size+1))->Zn h' (s.heap.objs.size+3) .none .none →
   h'.IsTupleIter s.heap.objs.size l1 0->h'.IsListIter (s.heap.objs.size+1) l2 0->(∀ c o,s.heap.get? c=some o->h'.get? c=some o)->Q (.ref (s.heap.objs.size+4)) { s with heap:=h' }) :
  Vk (Vs prog w) A (call (.type "zip") [.ref l1,.ref l2]) Q E s:=by
 refine abF F.called_zip (by decide) (F.typeCall_zip_2 _ _) (F.newCall_zip_2 _ _) (fun obj=>F.args_object_init_3 obj _ _) F.entry_zip_new (Rm l1 l2 xs ys) ⟨t1,t2,?_⟩
 have y1:(zA s.heap l1).objs.size=s.heap.objs.size+1:=V7 ..
 have y2:(uB (zA s.heap l1) l2).objs.size=s.heap.objs.size+2:=by rw[V7,y1]
 have y3:(uC s.heap l1 l2).objs.size=s.heap.objs.size+3:=by rw[V7,y2]
 have y4:(uD s.heap l1 l2).objs.size=s.heap.objs.size+4:=by rw[V7,y3]
 have w5:(uE s.heap l1 l2).get? (uD s.heap l1 l2).objs.size=some _:=Vh _ rfl
 have w4:(uE s.heap l1 l2).get? (uC s.heap l1 l2).objs.size=some _:=Va _ (Vh _ rfl)
 have w3:(uE s.heap l1 l2).get? (uB (zA s.heap l1) l2).objs.size=some _:=Va _ (Va _ (Vh _ rfl))
 have w2:(uE s.heap l1 l2).get? (zA s.heap l1).objs.size=some _:=Va _ (Va _ (Va _ (Vh _ rfl)))
 have w1:(uE s.heap l1 l2).get? s.heap.objs.size=some _:=Va _ (Va _ (Va _ (Va _ (Vh _ rfl))))
 show _/\_
 rw[y2,y3,y4] at w5; rw[y1,y2] at w3; rw[y3] at w4; rw[y1] at w2; rw[y4]
 exact⟨⟨_,w5,rfl⟩,h _ w5 w3 w4 ⟨_,w1,rfl,rfl⟩ ⟨_,w2,rfl,rfl⟩ fun c o u=>Va _ (Va _ (Va _ (Va _ (Va _ u))))⟩
end
def Itu (K : VB) (a b : Addr) : It :=
  ⟨fun i H => ∃ xs ys x y, SqT K H a xs ∧ SqL K H b ys ∧ xs[i]? = some x ∧ ys[i]? = some y,
   fun i H v H' => ∃ p x y, H p = none ∧ v = .ref p ∧ (∀ xs, SqT K H a xs → xs[i]? = some x) ∧ (∀ ys, SqL K H b ys → ys[i]? = some y) ∧ H' = upd H p (.tup [x, y]),
   fun i H => ∃ xs ys, SqT K H a xs ∧ SqL K H b ys ∧ (xs.length ≤ i ∨ ys.length ≤ i)⟩
def tnU (z p q i1 i2 a b:Addr) (i:Nat) (h:Wb):Prop:=YW h z p q .none/\Zn h p (.ref i1) (.ref i2)/\(∃ u v,Zn h q u v)/\h.IsTupleIter i1 a i/\h.IsListIter i2 b i
theorem KD {P:Vy} {w:V3} {K:VB} {elts:List Expr} {x1} {pos:Zf} {z p q i1 i2 a b:Addr} (D:Zap z p q i1 i2 a b) :
  Turn P w K (.Tuple elts x1 pos) (Itu K a b) [z,p,q,i1,i2] z (tnU z p q i1 i2 a b) where
 mem:=by simp
 obj:=fun i h st c hc=>by
  obtain⟨hz,hp,⟨u,v,hq⟩,⟨o1,e1,_,d1⟩,⟨o2,e2,_,d2⟩⟩:=st
  simp only[Wy,Xh,or_false] at hc
  rcases hc with rfl | rfl | rfl | rfl | rfl
  ·exact⟨_,hz,fun v z=>by cases z⟩
  ·exact⟨_,hp,fun v z=>by cases z⟩
  ·exact⟨_,hq,fun v z=>by cases z⟩
  ·exact⟨_,e1,fun v z=>by rw[d1] at z; cases z⟩
  ·exact⟨_,e2,fun v z=>by rw[d2] at z; cases z⟩
 keep:=fun i h h' st k=>by
  obtain⟨hz,hp,⟨u,v,hq⟩,⟨o1,e1,r1⟩,⟨o2,e2,r2⟩⟩:=st
  exact⟨k z (by simp) _ hz,k p (by simp) _ hp,⟨u,v,k q (by simp) _ hq⟩,⟨o1,k i1 (by simp) _ e1,r1⟩,⟨o2,k i2 (by simp) _ e2,r2⟩⟩
 item:=by
  intro X hP hw hK hc i pins s σ H E I hf st hg
  subst hP hw hK
  obtain⟨xs,ys,x,y,hx,hy,ex,ey⟩:=hg
  obtain⟨hz,hp,⟨u,v,hq⟩,j1,j2⟩:=st
  obtain⟨its,rv,tp,_⟩:=I.tuple hx
  obtain⟨its2,rv2,tp2,_⟩:=I.list hy
  obtain⟨xu,hxu,rx⟩:=rv.get ex
  obtain⟨yu,hyu,ry⟩:=rv2.get ey
  refine N8 D hz hp hq j1 j2 (show s.heap.IsTuple a its.toArray from tp) (show s.heap.IsList b its2.toArray from tp2.isList) (x:=xu) (y:=yu) (by simpa using hxu) (by simpa using hyu) fun h' z' q' u1 u2 t' _ kp=>⟨_,rfl,?_⟩
  refine wpAny_letOwnedTupleGo_zip z' fun h2 z2 b2=>?_
  have lt:∀ {c o},s.heap.get? c=some o->c < s.heap.objs.size:=fun e=>Vo e
  have zne:s.heap.objs.size≠z:=W8 (lt hz)
  have hfr:H s.heap.objs.size=none:=I.fresh
  have I1:Inv X pins σ (upd H s.heap.objs.size (.tup [x,y])) { s with heap:=s.heap.push { cls:=.type "tuple",data:=.seq #[xu,yu] } } :=
   I.laid (t':=s.toks) (fun _ _ e=>Va _ e) (Vg _) ⟨by show 2<=sizeLine; decide,[xu,yu],.cons rx (.cons ry .nil),⟨_,Vh _ rfl,rfl,_,rfl⟩⟩
  have blt:∀ c∈[z,p,q,i1,i2],c < s.heap.objs.size:=fun c hc=>by
   obtain⟨_,e1,_⟩:=j1
   obtain⟨_,e2,_⟩:=j2
   simp only[Wy,Xh,or_false] at hc
   rcases hc with rfl | rfl | rfl | rfl | rfl
   ·exact lt hz
   ·exact lt hp
   ·exact lt hq
   ·exact lt e1
   ·exact lt e2
  have ff:∀ c∈[z,p,q,i1,i2],qT X pins (upd H s.heap.objs.size (.tup [x,y])) c:=fun c hc=>by
   obtain⟨f0,fr⟩:=hf c hc
   exact⟨by rw[bh (Vx (blt c hc))]; exact f0,fr⟩
  have kk:∀ c o,c ∉ [z,q,i1,i2]->(s.heap.push { cls:=.type "tuple",data:=.seq #[xu,yu] }).get? c=some o->h2.get? c=some o:=fun c o hc e=>by
   have c1:c≠z:=fun h=>hc (by simp [h])
   refine (b2.2 c c1).trans ?_
   rcases Z9 e with⟨ec,eo⟩ | e'
   ·subst ec
    subst eo
    exact t'
   ·exact kp c o c1 (fun h=>hc (by simp [h])) (fun h=>hc (by simp [h])) (fun h=>hc (by simp [h])) e'
  have I2:Inv X pins σ (upd H s.heap.objs.size (.tup [x,y])) { s with heap:=h2 } :=
   Inv.jy (s:={ s with heap:=s.heap.push { cls:=.type "tuple",data:=.seq #[xu,yu] } }) (h':=h2) (t':=s.toks) (ch:=[z,q,i1,i2]) I1 kk fun c hc=>ff c (by
    simp only[Wy] at hc ⊢
    rcases hc with h | h | h | h
    ·exact .inl h
    ·exact .inr (.inr (.inl h))
    ·exact .inr (.inr (.inr (.inl h)))
    ·exact .inr (.inr (.inr (.inr h))))
  refine⟨.ref s.heap.objs.size,_,I2,rfl,⟨_,x,y,hfr,rfl,fun zs hzs=>?_,fun zs hzs=>?_,rfl⟩,⟨z2,(b2.2 _ D.pz).trans (kp _ _ D.pz D.pq D.pa D.pb hp),⟨_,_,(b2.2 _ D.qz).trans q'⟩,dq u1 b2 D.az,di u2 b2 D.bz⟩,fun c hc=>(ff c hc).1⟩
  ·rw[I.gU hzs hx]; exact ex
  ·rw[I.oA hzs hy]; exact ey
 done:=by
  intro X hP hw hK hc i pins s σ H E I hf st hg
  subst hP hw hK
  obtain⟨xs,ys,hx,hy,hend⟩:=hg
  obtain⟨hz,hp,⟨u,v,hq⟩,j1,j2⟩:=st
  obtain⟨its,rv,tp,_⟩:=I.tuple hx
  obtain⟨its2,rv2,tp2,_⟩:=I.list hy
  have l1:=rv.length
  have l2:=rv2.length
  refine S6 (I.ok.hd hc) D hz hp hq j1 j2 (show s.heap.IsTuple a its.toArray from tp) (show s.heap.IsList b its2.toArray from tp2.isList) (hend.imp (fun h=>by simp; lia) fun h=>by simp; lia) fun h' kp=>⟨rfl,?_⟩
  exact I.jy (t':=s.toks) (ch:=[z,q,i1,i2]) (fun c o hc e=>kp c o (fun h=>hc (by simp [h])) (fun h=>hc (by simp [h])) (fun h=>hc (by simp [h])) (fun h=>hc (by simp [h])) e)
   fun c hc=>hf c (by simp only[Wy] at hc ⊢; rcases hc with h | h | h | h; exact .inl h; exact .inr (.inr (.inl h)); exact .inr (.inr (.inr (.inl h))); exact .inr (.inr (.inr (.inr h))))
 self:=fun _ _ _ _ _ st h=>aaH st.1 h
def UT (K:VB) (ta:TA):TI:=fun σ H R=>ta σ H fun vs H1=>∃ a b xs ys,vs=[.ref a,.ref b]/\SqT K H1 a xs/\SqL K H1 b ys/\R (Itu K a b) H1
theorem Nv {X:Cx} {elts:List Expr} {x1} {tpos:Zf} {a b:Expr} {ta:TA} {p pos:Zf} (hg:Gl X "zip") (hm:X.mg "zip" = none) (ha:PA X [a,b] ta) (hs:VN [a,b] X.env=[(false,Xn a X.env),(false,Xn b X.env)]:=by rfl) (hs2:VN [b] X.env=[(false,Xn b X.env)]:=by rfl) :
  PI X (.Tuple elts x1 tpos) (.Call (.Name "zip" p) [a,b] [] pos) (UT X.K ta):=by
 intro pins s σ H R I h
 refine Call_ (gj I hg hm boot_zip (Wv (thn (ha pos pins s σ H _ I h) fun us s1 ⟨vs,H1,I1,r1,q1⟩=>?_) (by rw[hs,hs2]) (by rw[hs2]; rfl)))
 obtain⟨c,d,xs,ys,e,hx,hy,q⟩:=q1
 subst e
 obtain⟨u1,u2,rfl,ru1,ru2⟩:=vals2 r1
 cases ru1
 cases ru2
 obtain⟨its,_,tp,_⟩:=I1.tuple hx
 obtain⟨its2,_,tp2,_⟩:=I1.list hy
 refine PK (show s1.heap.IsTuple c its.toArray from tp) (show s1.heap.IsList d its2.toArray from tp2.isList) fun h' z' p' q' j1 j2 kp=>?_
 have lc:c < s1.heap.objs.size:=by obtain⟨o,e,_⟩:=tp; exact Vo e
 have ld:d < s1.heap.objs.size:=by obtain⟨o,e,_⟩:=tp2.isList; exact Vo e
 have D:Zap (s1.heap.objs.size+4) (s1.heap.objs.size+2) (s1.heap.objs.size+3) s1.heap.objs.size (s1.heap.objs.size+1) c d:=O4 lc ld
 refine aaH z' ⟨_,_,_,_,H1,rfl,I1.kept (t':=s1.toks) kp,KD D,⟨z',p',⟨_,_,q'⟩,j1,j2⟩,fun e he=>?_,q⟩
 have hle:s1.heap.objs.size<=e:=by
  simp only[Wy,Xh,or_false] at he
  rcases he with rfl | rfl | rfl | rfl | rfl <;> lia
 exact I1.Jz hle (I1.hok.fresh hle)
theorem An {K:VB} {a b D:Addr} {xs ys:List V} {g:TG} {tt:TT} {te:TE} {H1:Hp} {Q:Hp->Prop} {σ0:St} (hlen:xs.length=ys.length) (Pv:Nat->List V->St->Hp->Prop) (h0:Pv 0 [] σ0 (upd H1 D (.lst [])))
  (hl:∀ i zs σ H,i<=xs.length->Pv i zs σ H->SqT K H a xs/\SqL K H b ys/\H D=some (.lst zs))
  (hs:∀ i zs x y p σ H,xs[i]? = some x->ys[i]? = some y->H p=none->Pv i zs σ H->g (.ref p) σ (upd H p (.tup [x,y])) fun σ3 H3=>tt σ3 H3 fun c H4=>if c=true then te σ3 H4 fun v H5=>H5 D=some (.lst zs)/\zs.length < sizeLine/\Pv (i+1) (zs++[v]) σ3 (upd H5 D (.lst (zs++[v]))) else Pv (i+1) zs σ3 H4)
  (hd:∀ zs σ H,Pv xs.length zs σ H->Q H):gO D σ0 (Itu K a b) g tt te H1 Q:=by
 refine⟨fun i m zs σ H=>m=xs.length - i/\i<=xs.length/\Pv i zs σ H,⟨xs.length,by simp,VL _,h0⟩,?_⟩
 rintro i m zs σ H ⟨rfl,hi,p⟩
 obtain⟨q1,q2,qD⟩:=hl i zs σ H hi p
 refine⟨qD,?_⟩
 by_cases hlt:i < xs.length
 ·have hlt2:i < ys.length:=by lia
  refine .inr ⟨⟨xs,ys,xs[i],ys[i],q1,q2,by simp [hlt],by simp [hlt2]⟩,Pv (i+1),fun zs' σ' H' p'=>⟨xs.length - (i+1),by lia,rfl,hlt,p'⟩,fun v H' y=>?_⟩
  obtain⟨pp,x,y,hp,rfl,hx,hy,rfl⟩:=y
  exact hs i zs x y pp σ _ (hx xs q1) (hy ys q2) hp p
 ·have e:i=xs.length:=by lia
  subst e
  exact .inl ⟨⟨xs,ys,q1,q2,.inl (Vg _)⟩,hd zs σ H p⟩
end L2
namespace L2
open PySem PySem.Spec PyProof.Rows
def Itn (K : VB) (a : Addr) : It :=
  ⟨fun i H => ∃ xs x, SqL K H a xs ∧ xs[i]? = some x,
   fun i H v H' => ∃ p x, H p = none ∧ v = .ref p ∧ (∀ xs, SqL K H a xs → xs[i]? = some x) ∧ H' = upd H p (.tup [.int (i : Int), x]),
   fun i H => ∃ xs, SqL K H a xs ∧ xs.length ≤ i⟩
def tnN (e it a:Addr) (i:Nat) (h:Wb):Prop:=(∃ old,IsEnum h e it (i:Int) old)/\h.IsListIter it a i
theorem Ey {P:Vy} {w:V3} {K:VB} {elts:List Expr} {x1} {pos:Zf} {e it a:Addr} (hne:e≠it) :
  Turn P w K (.Tuple elts x1 pos) (Itn K a) [e,it] e (tnN e it a) where
 mem:=by simp
 obj:=fun i h st c hc=>by
  obtain⟨⟨old,he⟩,⟨o,ho,_,d⟩⟩:=st
  simp only[Wy,Xh,or_false] at hc
  rcases hc with rfl | rfl
  ·exact⟨_,he,fun v z=>by cases z⟩
  ·exact⟨_,ho,fun v z=>by rw[d] at z; cases z⟩
 keep:=fun i h h' st k=>by
  obtain⟨⟨old,he⟩,j⟩:=st
  exact⟨⟨old,k e (by simp) _ he⟩,j.at fun o q=>k it (by simp) o q⟩
 item:=by
  intro X hP hw hK hc i pins s σ H E I hf st hg
  subst hP hw hK
  obtain⟨xs,x,hx,ex⟩:=hg
  obtain⟨⟨old,he⟩,j⟩:=st
  obtain⟨its,rv,pl,_⟩:=I.list hx
  obtain⟨xu,hxu,rx⟩:=rv.get ex
  refine wpAny_pyNext_enum_item he j pl.isList (x:=xu) (by simpa using hxu) hne fun h' e1 j1 t1 z1 kp=>⟨_,rfl,?_⟩
  refine wpAny_letOwnedTupleGo_enum e1 fun h2 e2 b2=>?_
  have el:e < s.heap.objs.size:=Vo he
  have il:it < s.heap.objs.size:=by obtain⟨o,q,_⟩:=j; exact Vo q
  have I1:Inv X pins σ (upd H s.heap.objs.size (.tup [.int (i:Int),x])) { s with heap:=s.heap.push { cls:=.type "tuple",data:=.seq #[.int i s.toks,xu] },toks:=s.toks+1 } :=
   I.laid (t':=s.toks+1) (fun _ _ q=>Va _ q) (Vg _) ⟨by show 2<=sizeLine; decide,[.int i s.toks,xu],.cons ⟨_,rfl⟩ (.cons rx .nil),⟨_,Vh _ rfl,rfl,_,rfl⟩⟩
  have ff:∀ c∈[e,it],qT X pins (upd H s.heap.objs.size (.tup [.int (i:Int),x])) c:=fun c hc=>by
   obtain⟨f0,fr⟩:=hf c hc
   have cl:c < s.heap.objs.size:=by
    simp only[Wy,Xh,or_false] at hc
    rcases hc with rfl | rfl
    ·exact el
    ·exact il
   exact⟨by rw[bh (Vx cl)]; exact f0,fr⟩
  have kk:∀ c o,c ∉ [e,it]->(s.heap.push { cls:=.type "tuple",data:=.seq #[.int i s.toks,xu] }).get? c=some o->h2.get? c=some o:=fun c o hc q=>by
   have c1:c≠e:=fun h=>hc (by simp [h])
   have c2:c≠it:=fun h=>hc (by simp [h])
   refine (b2.2 c c1).trans ?_
   rcases Z9 q with⟨ec,eo⟩ | q'
   ·subst ec
    subst eo
    exact t1
   ·exact kp c o c1 c2 q'
  have I2:Inv X pins σ (upd H s.heap.objs.size (.tup [.int (i:Int),x])) { s with heap:=h2,toks:=s.toks+1 } :=
   Inv.jy (s:={ s with heap:=s.heap.push { cls:=.type "tuple",data:=.seq #[.int i s.toks,xu] },toks:=s.toks+1 }) (h':=h2) (t':=s.toks+1) (ch:=[e,it]) I1 kk ff
  refine⟨.ref s.heap.objs.size,_,I2,rfl,⟨_,x,I.fresh,rfl,fun zs hzs=>?_,rfl⟩,⟨⟨_,e2⟩,j1.at fun o q=>(b2.2 it (Yv hne)).trans q⟩,fun c hc=>(ff c hc).1⟩
  rw[I.oA hzs hx]; exact ex
 done:=by
  intro X hP hw hK hc i pins s σ H E I hf st hg
  subst hP hw hK
  obtain⟨xs,hx,hend⟩:=hg
  obtain⟨⟨old,he⟩,j⟩:=st
  obtain⟨its,rv,pl,_⟩:=I.list hx
  have l1:=rv.length
  refine wpAny_pyNext_enum_end (I.ok.hd hc) he j pl.isList (by simp; lia) fun h' eb=>⟨rfl,?_⟩
  exact I.jy (t':=s.toks) (ch:=[e,it]) (fun c o hc q=>eb c o (fun h=>hc (by simp [h])) q) hf
 self:=fun _ _ _ _ _ st h=>by
  obtain⟨⟨old,he⟩,_⟩:=st
  exact aav he h
def Tg (K:VB) (ta:TA):TI:=fun σ H R=>ta σ H fun vs H1=>∃ a xs,vs=[.ref a]/\H1 a=some (.lst xs)/\R (Itn K a) H1
theorem Pn {X:Cx} {elts:List Expr} {x1} {tpos:Zf} {a:Expr} {ta:TA} {p pos:Zf} (hg:Gl X "enumerate") (hm:X.mg "enumerate" = none) (ha:PA X [a] ta) (hs:VN [a] X.env=[(false,Xn a X.env)]:=by rfl) :
  PI X (.Tuple elts x1 tpos) (.Call (.Name "enumerate" p) [a] [] pos) (Tg X.K ta):=by
 intro pins s σ H R I h
 refine Call_ (gj I hg hm boot_enumerate (Wv (thn (ha pos pins s σ H _ I h) fun us s1 ⟨vs,H1,I1,r1,q1⟩=>?_) hs rfl))
 obtain⟨c,xs,e,hx,q⟩:=q1
 subst e
 obtain⟨u1,rfl,ru1⟩:=vals1 r1
 cases ru1
 obtain⟨z,its,n,rv,ho⟩:=I1.hok c _ hx
 refine call_enumerate_1 ho fun h' e1 j1 _ kp=>?_
 have en:s1.heap.objs.size+1≠s1.heap.objs.size:=W8 (Xb _)
 refine aav e1 ⟨_,_,_,_,H1,rfl,I1.kept (t':=s1.toks) kp,Ey (a:=c) en,⟨⟨_,e1⟩,j1⟩,fun b hb=>?_,q⟩
 have hle:s1.heap.objs.size<=b:=by
  simp only[Wy,Xh,or_false] at hb
  rcases hb with rfl | rfl
  ·exact Xi _
  ·exact Vg _
 exact I1.Jz hle (I1.hok.fresh hle)
theorem Kg {K:VB} {a:Addr} {xs:List V} {g:TG} {tb:TS} {D:Ends} {σ:St} {H:Hp} (Pv:Nat->St->Hp->Prop) (h0:Pv 0 σ H) (hl:∀ i σ H,i<=xs.length->Pv i σ H->SqL K H a xs)
  (hs:∀ i x p σ H,xs[i]? = some x->H p=none->Pv i σ H->g (.ref p) σ (upd H p (.tup [.int (i:Int),x])) fun σ2 H2=>tb { D with nx:=Pv (i+1),ct:=Pv (i+1),bk:=D.nx } σ2 H2) (hd:∀ σ H,Pv xs.length σ H->D.nx σ H) :
  ∃ W:Nat->Nat->St->Hp->Prop,(∃ m,W 0 m σ H)/\∀ i m σ H,W i m σ H →
   ((Itn K a).stop i H/\D.nx σ H)∨((Itn K a).go i H/\∃ N:St->Hp->Prop,(∀ σ' H',N σ' H'->∃ m',m' < m/\W (i+1) m' σ' H')/\∀ x H',(Itn K a).yld i H x H'->g x σ H' fun σ2 H2=>tb { D with nx:=N,ct:=N,bk:=D.nx } σ2 H2):=by
 refine⟨fun i m σ H=>m=xs.length - i/\i<=xs.length/\Pv i σ H,⟨xs.length,by simp,VL _,h0⟩,?_⟩
 rintro i m σ H ⟨rfl,hi,p⟩
 have q1:=hl i σ H hi p
 by_cases hlt:i < xs.length
 ·refine .inr ⟨⟨xs,xs[i],q1,by simp [hlt]⟩,Pv (i+1),fun σ' H' p'=>⟨xs.length - (i+1),by lia,rfl,hlt,p'⟩,fun v H' y=>?_⟩
  obtain⟨pp,x,hp,rfl,hx,rfl⟩:=y
  exact hs i x pp σ _ (hx xs q1) hp p
 ·have e:i=xs.length:=by lia
  subst e
  exact .inl ⟨⟨xs,q1,Vg _⟩,hd σ H p⟩
end L2
namespace L2
open PySem PySem.Spec PyProof.Rows
section
variable {X:Cx} {k:Nat}
inductive LC (K:VB) (x:V) (y:V) (H:Hp) (Q:VK):Prop where
 | mk (a b:Addr) (ns ms:List Int) (z0:x = .ref a) (z1:y = .ref b) (z2:SqT K H a (ns.map V.int)) (z3:SqT K H b (ms.map V.int)) (z4:Q (.bl (!decide (ns=ms))) H):LC K x y H Q
def Qi (K:VB):R2:=fun x y H Q=>LC K x y H Q
theorem Gq (hu:X.A.units < cLine):OpR X (XQ .NotEq) (Qi X.K):=by
 intro pins s σ H x y v u Q I rx ry h
 obtain⟨a,b,ns,ms,rfl,rfl,ha,hb,q⟩:=h
 cases rx
 cases ry
 obtain⟨its,r1,p1,_⟩:=I.tuple ha
 obtain⟨its2,r2,p2,_⟩:=I.tuple hb
 have i1:Ww its ns:=intsAre_of r1
 have i2:Ww its2 ms:=intsAre_of r2
 have l1:=i1.length
 have l2:=i2.length
 have r:=SeqAt.RcNeAt.tuples (e:=fun j=>ns.getD j 0 == ms.getD j 0) (show s.heap.IsTuple a its.toArray from p1) (show s.heap.IsTuple b its2.toArray from p2) hu fun j h1 h2=>by
  obtain⟨t,e1⟩:=ints_get i1 (j:=j) (by simpa using h1)
  obtain⟨t',e2⟩:=ints_get i2 (j:=j) (by simpa using h2)
  rw[Z8,Z8,e1,e2]
  exact abw _ _ _ _
 have e:=pP ns ms
 have s1:its.toArray.size=ns.length:=by rw[Vu]; exact l1
 have s2:its2.toArray.size=ms.length:=by rw[Vu]; exact l2
 rw[s1,s2,e] at r
 exact r X.prog X.w X.xe _ ⟨.bl _,H,I,rfl,q⟩
end
end L2
namespace L2
open PySem PySem.Spec PyProof.Rows
theorem tY {X:Cx} {tg l:Expr} {tl:TE} (K:VB) (hK:X.K=K) (hl:PE X l tl):PI X tg l (Px K tl):=by
 subst hK
 exact fQ hl
theorem O2 {X:Cx} {tg l:Expr} {tl:TE} (K:VB) (hK:X.K=K) (hl:PE X l tl):PI X tg l (Uk K tl):=by
 subst hK
 exact dJ hl
end L2
namespace L2
open PySem PySem.Spec PyProof.Rows
section
variable {prog:Vy} {w:V3} {A:V0} {E:Value->Vc->Prop} {s:Vc}
end
end L2
namespace L2
open PySem PySem.Spec PyProof.Rows
theorem Draws.Nb {prog:Vy} {w:V3} {A:V0} (hh:A.handled=none) (it l:Addr) (hne:l≠it) (items:Array Value) :
  Draws prog w A it [it,l] items.size (fun i v=>items[i]? = some v) (fun i h=>h.IsTupleIter it l i/\h.IsTuple l items) where
 live:=fun _ _ st=>let ⟨o,ho,_⟩:=st.1; ⟨o,ho⟩
 frame:=fun _ _ _ st hk=>by
  obtain⟨⟨o1,q1,r1⟩,⟨o2,q2,r2⟩⟩:=st
  exact⟨⟨o1,hk it (by simp) o1 q1,r1⟩,⟨o2,hk l (by simp) o2 q2,r2⟩⟩
 item:=fun i s Q E hi st hQ=>by
  refine qm st.1 st.2 (x:=items[i]) (by simp [hi]) fun h' j' sb=>?_
  exact hQ _ h' s.toks (by simp [hi]) ⟨j',je st.2 sb hne⟩ sb
 done:=fun s Q E st hE=>Mf hh st.1 st.2 (by simp) hE
theorem Es (l:Addr) (xs:Array Value) :
  Meets (XS.«enumerate.__new__» ⟨[.type "enumerate",.ref l],[]⟩) (fun _ R s=>s.heap.IsTuple l xs/\R (.ok (.ret (.ref (zA s.heap l).objs.size))) { s with heap:=(zA s.heap l).push { cls:=.type "enumerate",data:=.fields #[.none,.bool false,.ref s.heap.objs.size,Xe 0,.none,.none] } }) :=
 .of_wp fun prog w A R s h=>by
  obtain⟨hp,g,d,tk,os⟩:=s; obtain⟨hl,h⟩:=h
  have hsub:=sub_enumerate
  have hL:abP (aax ⟨hp,g,d,tk,os⟩) l xs:=hl
  wp_walk
  refine wpAny_stack_any fun st=>Vd ?_
  split
  ·rename_i c _ _ _ _ _
   cases (c == Yh "enumerate") <;> (wp_walk using YK hL; exact⟨_,rfl,h⟩)
  ·wp_walk using YK hL
   exact⟨_,rfl,h⟩
theorem Dl {prog:Vy} {w:V3} {A:V0} {E:Value->Vc->Prop} {s:Vc} {l:Addr} {xs:Array Value} {Q:Value->Vc->Prop} (hl:s.heap.IsTuple l xs)
  (h:∀ h',IsEnum h' (s.heap.objs.size+1) s.heap.objs.size 0 .none->h'.IsTupleIter s.heap.objs.size l 0->(∀ b o,s.heap.get? b=some o->h'.get? b=some o)->Q (.ref (s.heap.objs.size+1)) { s with heap:=h' }) :
  Vk (Vs prog w) A (call (.type "enumerate") [.ref l]) Q E s:=by
 refine abF F.called_enumerate (by decide) (F.typeCall_enumerate_1 _) (F.newCall_enumerate_1 _) (fun obj=>F.args_object_init_2 obj _) F.entry_enumerate_new (Es l xs) ⟨hl,?_⟩
 have hz:(zA s.heap l).objs.size=s.heap.objs.size+1:=V7 ..
 show _/\_
 have he:((zA s.heap l).push { cls:=.type "enumerate",data:=.fields #[.none,.bool false,.ref s.heap.objs.size,Xe 0,.none,.none] }).get? (zA s.heap l).objs.size=some _:=Vh _ rfl
 rw[hz] at he ⊢
 exact⟨⟨_,he,rfl⟩,h _ he ⟨_,Va _ (Vh _ rfl),rfl,rfl⟩ fun b o x=>Va _ (Va _ x)⟩
def Itm (K : VB) (a : Addr) : It :=
  ⟨fun i H => ∃ xs x, SqT K H a xs ∧ xs[i]? = some x,
   fun i H v H' => ∃ p x, H p = none ∧ v = .ref p ∧ (∀ xs, SqT K H a xs → xs[i]? = some x) ∧ H' = upd H p (.tup [.int (i : Int), x]),
   fun i H => ∃ xs, SqT K H a xs ∧ xs.length = i⟩
def tnM (e it a:Addr) (i:Nat) (h:Wb):Prop:=(∃ old,IsEnum h e it (i:Int) old)/\h.IsTupleIter it a i
theorem CP {P:Vy} {w:V3} {K:VB} {elts:List Expr} {x1} {pos:Zf} {e it a:Addr} (hne:e≠it) :
  Turn P w K (.Tuple elts x1 pos) (Itm K a) [e,it] e (tnM e it a) where
 mem:=by simp
 obj:=fun i h st c hc=>by
  obtain⟨⟨old,he⟩,⟨o,ho,_,d⟩⟩:=st
  simp only[Wy,Xh,or_false] at hc
  rcases hc with rfl | rfl
  ·exact⟨_,he,fun v z=>by cases z⟩
  ·exact⟨_,ho,fun v z=>by rw[d] at z; cases z⟩
 keep:=fun i h h' st k=>by
  obtain⟨⟨old,he⟩,j⟩:=st
  exact⟨⟨old,k e (by simp) _ he⟩,j.at fun o q=>k it (by simp) o q⟩
 item:=by
  intro X hP hw hK hc i pins s σ H E I hf st hg
  subst hP hw hK
  obtain⟨xs,x,hx,ex⟩:=hg
  obtain⟨⟨old,he⟩,j⟩:=st
  obtain⟨its,rv,pl,_⟩:=I.tuple hx
  obtain⟨xu,hxu,rx⟩:=rv.get ex
  have tl:a≠it:=fun z=>by
   obtain⟨o1,q1,c1,_⟩:=j
   obtain⟨o2,q2,c2,_⟩:=(show s.heap.IsTuple a its.toArray from pl)
   rw[z,q1] at q2
   cases q2
   rw[c1] at c2
   injection c2 with z2
   exact absurd z2 (by decide)
  have te:a≠e:=fun z=>by
   obtain⟨o2,q2,c2,_⟩:=(show s.heap.IsTuple a its.toArray from pl)
   rw[z,he] at q2
   cases q2
   injection c2 with z2
   exact absurd z2 (by decide)
  have hin:i < its.toArray.size:=by
   have:=(List.getElem?_eq_some_iff.mp hxu).1
   simpa using this
  refine wpAny_pyNext_enum_itemD (Draws.Nb (A:=X.A.in1) (I.ok.hd hc) it a tl its.toArray) he ⟨j,show s.heap.IsTuple a its.toArray from pl⟩ hin hne (by simp [hne,te.symm]) fun x' h' tk hP e1 st1 t1 z1 kp=>⟨_,rfl,?_⟩
  obtain⟨j1,_⟩:=st1
  have ex':x'=xu:=by
   have hP':its.toArray[i]? = some x':=hP
   rw[show its.toArray[i]? = some xu by simpa using hxu] at hP'
   exact (Wn hP').symm
  subst x'
  refine wpAny_letOwnedTupleGo_enum e1 fun h2 e2 b2=>?_
  have el:e < s.heap.objs.size:=Vo he
  have il:it < s.heap.objs.size:=by obtain⟨o,q,_⟩:=j; exact Vo q
  have I1:Inv X pins σ (upd H s.heap.objs.size (.tup [.int (i:Int),x])) { s with heap:=s.heap.push { cls:=.type "tuple",data:=.seq #[.int i tk,xu] },toks:=tk+1 } :=
   I.laid (t':=tk+1) (fun _ _ q=>Va _ q) (Vg _) ⟨by show 2<=sizeLine; decide,[.int i tk,xu],.cons ⟨_,rfl⟩ (.cons rx .nil),⟨_,Vh _ rfl,rfl,_,rfl⟩⟩
  have ff:∀ c∈[e,it],qT X pins (upd H s.heap.objs.size (.tup [.int (i:Int),x])) c:=fun c hc=>by
   obtain⟨f0,fr⟩:=hf c hc
   have cl:c < s.heap.objs.size:=by
    simp only[Wy,Xh,or_false] at hc
    rcases hc with rfl | rfl
    ·exact el
    ·exact il
   exact⟨by rw[bh (Vx cl)]; exact f0,fr⟩
  have kk:∀ c o,c ∉ [e,it]->(s.heap.push { cls:=.type "tuple",data:=.seq #[.int i tk,xu] }).get? c=some o->h2.get? c=some o:=fun c o hc q=>by
   have c1:c≠e:=fun h=>hc (by simp [h])
   have c2:c≠it:=fun h=>hc (by simp [h])
   refine (b2.2 c c1).trans ?_
   rcases Z9 q with⟨ec,eo⟩ | q'
   ·subst ec
    subst eo
    exact t1
   ·exact kp c o c1 c2 q'
  have I2:Inv X pins σ (upd H s.heap.objs.size (.tup [.int (i:Int),x])) { s with heap:=h2,toks:=tk+1 } :=
   Inv.jy (s:={ s with heap:=s.heap.push { cls:=.type "tuple",data:=.seq #[.int i tk,xu] },toks:=tk+1 }) (h':=h2) (t':=tk+1) (ch:=[e,it]) I1 kk ff
  refine⟨.ref s.heap.objs.size,_,I2,rfl,⟨_,x,I.fresh,rfl,fun zs hzs=>?_,rfl⟩,⟨⟨_,e2⟩,j1.at fun o q=>(b2.2 it (Yv hne)).trans q⟩,fun c hc=>(ff c hc).1⟩
  rw[I.gU hzs hx]; exact ex
 done:=by
  intro X hP hw hK hc i pins s σ H E I hf st hg
  subst hP hw hK
  obtain⟨xs,hx,hend⟩:=hg
  obtain⟨⟨old,he⟩,j⟩:=st
  obtain⟨its,rv,pl,_⟩:=I.tuple hx
  have l1:=rv.length
  have tl:a≠it:=fun z=>by
   obtain⟨o1,q1,c1,_⟩:=j
   obtain⟨o2,q2,c2,_⟩:=(show s.heap.IsTuple a its.toArray from pl)
   rw[z,q1] at q2
   cases q2
   rw[c1] at c2
   injection c2 with z2
   exact absurd z2 (by decide)
  have hin:i=its.toArray.size:=by
   rw[Vu]
   lia
  refine wpAny_pyNext_enum_endD (Draws.Nb (A:=X.A.in1) (I.ok.hd hc) it a tl its.toArray) he ⟨by rw[← hin]; exact j,show s.heap.IsTuple a its.toArray from pl⟩ fun h' eb=>⟨rfl,?_⟩
  exact I.jy (t':=s.toks) (ch:=[e,it]) (fun c o hc q=>eb c o (fun h=>hc (by simp [h])) q) hf
 self:=fun _ _ _ _ _ st h=>by
  obtain⟨⟨old,he⟩,_⟩:=st
  exact aav he h
def Sq (K:VB) (ta:TA):TI:=fun σ H R=>ta σ H fun vs H1=>∃ a xs,vs=[.ref a]/\SqT K H1 a xs/\R (Itm K a) H1
theorem Av {X:Cx} {elts:List Expr} {x1} {tpos:Zf} {a:Expr} {ta:TA} {p pos:Zf} (hg:Gl X "enumerate") (hm:X.mg "enumerate" = none) (ha:PA X [a] ta) (hs:VN [a] X.env=[(false,Xn a X.env)]:=by rfl) :
  PI X (.Tuple elts x1 tpos) (.Call (.Name "enumerate" p) [a] [] pos) (Sq X.K ta):=by
 intro pins s σ H R I h
 refine Call_ (gj I hg hm boot_enumerate (Wv (thn (ha pos pins s σ H _ I h) fun us s1 ⟨vs,H1,I1,r1,q1⟩=>?_) hs rfl))
 obtain⟨c,xs,e,hx,q⟩:=q1
 subst e
 obtain⟨u1,rfl,ru1⟩:=vals1 r1
 cases ru1
 obtain⟨its,rv,tp,_⟩:=I1.tuple hx
 refine Dl (show s1.heap.IsTuple c its.toArray from tp) fun h' e1 j1 kp=>?_
 have en:s1.heap.objs.size+1≠s1.heap.objs.size:=W8 (Xb _)
 refine aav e1 ⟨_,_,_,_,H1,rfl,I1.kept (t':=s1.toks) kp,CP (a:=c) en,⟨⟨_,e1⟩,j1⟩,fun b hb=>?_,q⟩
 have hle:s1.heap.objs.size<=b:=by
  simp only[Wy,Xh,or_false] at hb
  rcases hb with rfl | rfl
  ·exact Xi _
  ·exact Vg _
 exact I1.Jz hle (I1.hok.fresh hle)
theorem rQ {K:VB} {a D:Addr} {xs:List V} {g:TG} {tt:TT} {te:TE} {H1:Hp} {Q:Hp->Prop} {σ0:St} (Pv:Nat->List V->St->Hp->Prop) (h0:Pv 0 [] σ0 (upd H1 D (.lst [])))
  (hl:∀ i zs σ H,i<=xs.length->Pv i zs σ H->SqT K H a xs/\H D=some (.lst zs))
  (hs:∀ i zs x p σ H,xs[i]? = some x->H p=none->Pv i zs σ H->g (.ref p) σ (upd H p (.tup [.int (i:Int),x])) fun σ3 H3=>tt σ3 H3 fun c H4=>if c=true then te σ3 H4 fun v H5=>H5 D=some (.lst zs)/\zs.length < sizeLine/\Pv (i+1) (zs++[v]) σ3 (upd H5 D (.lst (zs++[v]))) else Pv (i+1) zs σ3 H4)
  (hd:∀ zs σ H,Pv xs.length zs σ H->Q H):gO D σ0 (Itm K a) g tt te H1 Q:=by
 refine⟨fun i m zs σ H=>m=xs.length - i/\i<=xs.length/\Pv i zs σ H,⟨xs.length,by simp,VL _,h0⟩,?_⟩
 rintro i m zs σ H ⟨rfl,hi,p⟩
 obtain⟨q1,qD⟩:=hl i zs σ H hi p
 refine⟨qD,?_⟩
 by_cases hlt:i < xs.length
 ·refine .inr ⟨⟨xs,xs[i],q1,by simp [hlt]⟩,Pv (i+1),fun zs' σ' H' p'=>⟨xs.length - (i+1),by lia,rfl,hlt,p'⟩,fun v H' y=>?_⟩
  obtain⟨pp,x,hp,rfl,hx,rfl⟩:=y
  exact hs i zs x pp σ _ (hx xs q1) hp p
 ·have e:i=xs.length:=by lia
  subst e
  exact .inl ⟨⟨xs,q1,rfl⟩,hd zs σ H p⟩
end L2
namespace L2
open PySem PySem.Spec PyProof.Rows
section
variable {X:Cx}
end
end L2
namespace L2
open PySem PySem.Spec PyProof.Rows
end L2
namespace L2
open PySem PySem.Spec PyProof.Rows
section
variable {X:Cx}
end
end L2
namespace L2
open PySem PySem.Spec PyProof.Rows
theorem yj (elt t0 i0 t1 i1:Expr) (scope:Yg) (pos:Zf) (it acc:Value) (env:Env) :
  compTurn (.ListComp elt [⟨t0,i0,[],0⟩,⟨t1,i1,[],0⟩] scope pos) 0 it acc env=(do
   aaw i0.pos
   match ← X3 it with
   | none=>pure (.done .next)
   | some v =>
    Yn t0 it v
    aa6 t0 env v
    let x ← Xn i1 env
    aaw i1.pos
    let x ← XC i1 env x
    let _ ← runOwn (.compStart (.ListComp elt [⟨t0,i0,[],0⟩,⟨t1,i1,[],0⟩] scope pos) 1 (← abe [x] (aa3 x)) acc env) env
    again (.compLoop (.ListComp elt [⟨t0,i0,[],0⟩,⟨t1,i1,[],0⟩] scope pos) 0 it acc env)):=by rfl
theorem zK (elt t0 i0 t1 i1:Expr) (scope:Yg) (pos:Zf) (it acc:Value) (env:Env) :
  compTurn (.ListComp elt [⟨t0,i0,[],0⟩,⟨t1,i1,[],0⟩] scope pos) 1 it acc env=(aaw i1.pos >>= fun _=>X3 it >>= fun r=>match r with
   | none=>pure (.done .next)
   | some v=>Yn t1 it v >>= fun _=>aa6 t1 env v >>= fun _ =>
    (Xn elt env >>= fun x=>call (.builtin "list.append") [acc,x] >>= fun _=>pure ()) >>= fun _ =>
     again (.compLoop (.ListComp elt [⟨t0,i0,[],0⟩,⟨t1,i1,[],0⟩] scope pos) 1 it acc env)):=by rfl
section
variable {prog:Vy} {w:V3} {A:V0} {R:aa8->Vc->Prop} {s:Vc} {elt t0 i0 t1 i1:Expr} {scope:Yg} {pos:Zf} {it acc:Value} {env:Env}
theorem wz (h0:Xk (Vs prog w) A (.compLoop (.ListComp elt [⟨t0,i0,[],0⟩,⟨t1,i1,[],0⟩] scope pos) 1 it acc env) R s)
  (h:Vk (Vs prog w) A (aa3 it) (fun it' s'=>Xk (Vs prog w) A (.compLoop (.ListComp elt [⟨t0,i0,[],0⟩,⟨t1,i1,[],0⟩] scope pos) 1 it' acc env) R s') (notedBy (Vs prog w) A env fun x s'=>R (.error x) s') s) :
  Xk (Vs prog w) A (.compStart (.ListComp elt [⟨t0,i0,[],0⟩,⟨t1,i1,[],0⟩] scope pos) 1 it acc env) R s:=by
 refine acg ?_
 show Vk _ _ ((compStart (.ListComp elt [⟨t0,i0,[],0⟩,⟨t1,i1,[],0⟩] scope pos) 1 it acc env).onRaise (fun x=>do noteFrame x env; aaw theWindowsPlace)) _ _ s
 refine wpAny_notedAt ?_
 unfold compStart
 show Vk _ _ (ask >>= _) _ _ s
 refine U9 (Yz (wpAny_ite ?_))
 split
 ·first
   | exact U9 (Vd (Vd (And.intro rfl h0)))
   | exact Vd (And.intro rfl h0)
 ·first
   | exact U9 (Ys (U9 (Zo (U9 (WN h (fun it' s' h'=>Vd (And.intro rfl h')) fun _ _ x=>x)))))
   | (refine U9 (Ys ?_); show Vk _ _ (aaw i1.pos >>= _) _ _ s; exact U9 (Zo (U9 (WN h (fun it' s' h'=>Vd (And.intro rfl h')) fun _ _ x=>x))))
abbrev noX:Value->Vc->Prop:=fun _ _=>False
theorem gP {E:Value->Vc->Prop} (x:Value) (s':Vc) (z:noX x s'):E x s':=z.elim
theorem vU (hs1:∀ x,XC i1 env x=pure x) (I:Nat->Vc->Prop)
  (turn:∀ n s,I n s->Vk (Vs prog w) A (X3 it) (fun r s₁=>match r with
   | none=>R (.ok .next) s₁
   | some v=>Vk (Vs prog w) A (Yn t0 it v) (fun _ s₀=>Vk (Vs prog w) A (aa6 t0 env v) (fun _ s₂=>Vk (Vs prog w) A (Xn i1 env) (fun x s₃=>Vk (Vs prog w) A (aa3 x) (fun it1 s₄ =>
     Xk (Vs prog w) A (.compStart (.ListComp elt [⟨t0,i0,[],0⟩,⟨t1,i1,[],0⟩] scope pos) 1 it1 acc env) (fun r s'=>match r with | .ok _=>∃ m,m < n/\I m s' | .error _=>False) s₄) noX s₃) noX s₂) noX s₀) noX s₁) noX s)
  (n:Nat) (h:I n s):Xk (Vs prog w) A (.compLoop (.ListComp elt [⟨t0,i0,[],0⟩,⟨t1,i1,[],0⟩] scope pos) 0 it acc env) R s:=by
 refine codeAny_loop rfl I (fun n s hI=>?_) n h
 refine (show Vk (Vs prog w) A ((compTurn (.ListComp elt [⟨t0,i0,[],0⟩,⟨t1,i1,[],0⟩] scope pos) 0 it acc env).onRaise (fun x=>do noteFrame x env; ace x)) _ _ s from wpAny_noted ?_)
 rw[yj]
 refine U9 (Zo (U9 (WN (turn n s hI) (fun r s₁ h₁=>?_) gP)))
 cases r with
 | none=>exact Vd h₁
 | some v =>
  refine U9 (WN h₁ (fun _ s₀ h₀=>U9 (WN h₀ (fun _ s₂ h₂=>U9 (WN h₂ (fun x s₃ h₃=>U9 (Zo (U9 (XX (hs1 x) (U9 (Xy (WN h₃ (fun it1 s₄ h₄=>?_) gP))))))) gP)) gP)) gP)
  refine U9 (wpAny_runOwn (ZJ h₄ fun r s' hr=>?_))
  cases r with
  | ok f=>exact Vd ⟨rfl,hr⟩
  | error e=>exact hr.elim
theorem wk (I:Nat->Vc->Prop)
  (turn:∀ n s,I n s->Vk (Vs prog w) A (X3 it) (fun r s₁=>match r with
   | none=>R (.ok .next) s₁
   | some v=>Vk (Vs prog w) A (Yn t1 it v) (fun _ s₀=>Vk (Vs prog w) A (aa6 t1 env v) (fun _ s₂=>Vk (Vs prog w) A (Xn elt env) (fun x s₄=>Vk (Vs prog w) A (call (.builtin "list.append") [acc,x]) (fun _ s₅=>∃ m,m < n/\I m s₅) noX s₄) noX s₂) noX s₀) noX s₁) noX s)
  (n:Nat) (h:I n s):Xk (Vs prog w) A (.compLoop (.ListComp elt [⟨t0,i0,[],0⟩,⟨t1,i1,[],0⟩] scope pos) 1 it acc env) R s:=by
 refine codeAny_loop rfl I (fun n s hI=>?_) n h
 refine (show Vk (Vs prog w) A ((compTurn (.ListComp elt [⟨t0,i0,[],0⟩,⟨t1,i1,[],0⟩] scope pos) 1 it acc env).onRaise (fun x=>do noteFrame x env; ace x)) _ _ s from wpAny_noted ?_)
 rw[zK]
 refine U9 (Zo (U9 (WN (turn n s hI) (fun r s₁ h₁=>?_) gP)))
 cases r with
 | none=>exact Vd h₁
 | some v =>
  refine U9 (WN h₁ (fun _ s₀ h₀=>U9 (WN h₀ (fun _ s₂ h₂=>U9 (U9 (WN h₂ (fun x s₄ h₄=>U9 (WN h₄ (fun _ s₅ h₅=>Vd (Vd ⟨rfl,h₅⟩)) gP)) gP))) gP)) gP)
end
def ou (D:Addr) (σ0:St) (J:It) (g:TG) (wi1:TI) (g1:TG) (te:TE) (H1:Hp) (Q:Hp->Prop):Prop :=
 ∃ W:Nat->Nat->List V->St->Hp->Prop,(∃ m,W 0 m [] σ0 (upd H1 D (.lst []))) ∧
  ∀ i m ys σ' H',W i m ys σ' H'->((J.stop i H'/\Q H')∨(J.go i H'/\∃ N:List V->St->Hp->Prop,(∀ zs σ2 H2,N zs σ2 H2->∃ m',m' < m/\W (i+1) m' zs σ2 H2) ∧
   ∀ x H2,J.yld i H' x H2->g x σ' H2 fun σ3 H3=>wi1 σ3 H3 fun J1 H4 =>
    ∃ Y:Nat->Nat->List V->St->Hp->Prop,(∃ m,Y 0 m ys σ3 H4) ∧
     ∀ j m zs σ5 H5,Y j m zs σ5 H5->((J1.stop j H5/\N zs σ5 H5)∨(J1.go j H5/\∃ M:List V->St->Hp->Prop,(∀ zs σ6 H6,M zs σ6 H6->∃ m',m' < m/\Y (j+1) m' zs σ6 H6) ∧
      ∀ y H6,J1.yld j H5 y H6->g1 y σ5 H6 fun σ7 H7=>te σ7 H7 fun v H8=>H8 D=some (.lst zs)/\zs.length < sizeLine/\M (zs++[v]) σ7 (upd H8 D (.lst (zs++[v])))))))
def RX (n:Nat) (cap:List Nat) (wi:TI) (g:TG) (wi1:TI) (g1:TG) (te:TE):TE:=fun σ H Q=>wi σ H fun J H1=>∀ D,H1 D=none->ou D (HS n cap σ) J g wi1 g1 te H1 fun H2=>Q (.ref D) H2
section
variable {X:Cx} {elt t0 i0 t1 i1:Expr} {scope:Yg} {pos:Zf} {L F:List V9} {cap:List Nat} {wi wi1:TI} {g g1:TG} {te:TE}
theorem Fq {cl:List (V9 × Addr)} {pins:List (Addr × Yb)} {σ:St} {s2:Vc} {H2:Hp} {it:Addr} {fp:List Addr} {tn:Nat->Wb->Prop} {J:It} {use:Option (Value->Sem Unit)} {QQ:Value->Vc->Prop} {Z:Hp->Prop} {E:Value->Vc->Prop}
  (hc:X.calm=true) (ok:qi X scope F cap)
  (sub:∀ n c,cl.lookup n=some c->X.env.cells.lookup n=some c) (all:∀ y∈scope.names,y.2 = .free->∃ c,cl.lookup y.1=some c)
  (hg:∀ cl C s H fp,PG (bI X scope cl C (L++F) s H fp) t0 g) (hi1:∀ cl C s H fp,PI (bI X scope cl C (L++F) s H fp) t1 i1 wi1) (hg1:∀ cl C s H fp,PG (bI X scope cl C (L++F) s H fp) t1 g1) (he:∀ cl C s H fp,PE (bI X scope cl C (L++F) s H fp) elt te)
  (hs1:∀ (env:Env) x,XC i1 env x=pure x)
  (I2:Inv X pins σ H2 s2) (T:Turn X.prog X.w X.K t0 J fp it tn) (st2:tn 0 s2.heap) (f2:∀ b∈fp,qT X pins H2 b)
  (q2:ou s2.heap.objs.size (HS L.length cap σ) J g wi1 g1 te H2 Z)
  (fin:∀ (C:Addr) (s':Vc) (H':Hp),Z H'->Inv X pins σ H' s'->(∃ m,s'.heap.Ns C m)->H' C=none->C≠X.env.locals->X.s₀.heap.objs.size<=C->(∀ x c,X.env.cells.lookup x=some c->c≠C)->(∀ p∈X.pn++pins,p.1≠C) →
   Zr (Vs X.prog X.w) X.A E use QQ (.ref s2.heap.objs.size) C (.ok .next) s') :
  Vk (Vs X.prog X.w) X.A (acr []) (fun acc s₃=>Vk (Vs X.prog X.w) X.A (aal scope X.env.globals cl [] X.env.qual none .none (some X.env)) (fun cenv s₄ =>
   Xk (Vs X.prog X.w) X.A (.compStart (.ListComp elt [⟨t0,i0,[],0⟩,⟨t1,i1,[],0⟩] scope pos) 0 (.ref it) acc { cenv with scope:=relabel scope X.env }) (Zr (Vs X.prog X.w) X.A E use QQ acc cenv.locals) s₄) E s₃) E s2:=by
 have hD:H2 s2.heap.objs.size=none:=I2.fresh
 refine V6 (wpAny_newFunctionEnv ok.cell (by intro y hy; simp at hy) (fun h₁ hns₁ hsb₁=>?_) ok.kind)
 dsimp only at hns₁ hsb₁ ⊢
 have I3:Inv X pins σ (upd H2 s2.heap.objs.size (.lst [])) { s2 with heap:=s2.heap.push { cls:=.type "list",data:=.seq ([]:List Value).toArray } }:=I2.Ss (t':=s2.toks) (ys:=[]) (its:=[]) .nil (VL _)
 have blt:∀ b∈fp,b < s2.heap.objs.size:=fun b hb=>let ⟨_,e,_⟩:=T.obj 0 _ st2 b hb; Vo e
 have szC:(s2.heap.push { cls:=.type "list",data:=.seq ([]:List Value).toArray }).objs.size=s2.heap.objs.size+1:=V7 _ _
 generalize hs3:({ s2 with heap:=s2.heap.push { cls:=.type "list",data:=.seq ([]:List Value).toArray } }:Vc)=s3 at I3
 have es3:s3.heap=s2.heap.push { cls:=.type "list",data:=.seq ([]:List Value).toArray }:=by rw[← hs3]
 have eos:s3.os=s2.os:=by rw[← hs3]
 have fok:∀ b∈fp,qT X pins (upd H2 s2.heap.objs.size (.lst [])) b/\b < s3.heap.objs.size:=fun b hb=>by
  obtain⟨f0,fr⟩:=f2 b hb
  refine⟨⟨by rw[bh (Vx (blt b hb))]; exact f0,fr⟩,?_⟩
  rw[es3,szC]
  exact Wj (blt b hb)
 have hkp:∀ b o,s3.heap.get? b=some o->h₁.get? b=some o:=fun b o e=>by
  have e':b < s3.heap.objs.size:=Vo e
  rw[es3] at e e'
  exact (hsb₁.2 b (Vx e')).trans (Va _ e)
 have hns:h₁.Ns s3.heap.objs.size fun _=>none:=by
  rw[es3]
  exact hns₁
 have I4:∀ tk,Inv (bI X scope cl s3.heap.objs.size (L++F) s3 (upd H2 s2.heap.objs.size (.lst [])) fp) [] (HS L.length cap σ) (upd H2 s2.heap.objs.size (.lst [])) { s3 with heap:=h₁,toks:=tk }:=fun tk =>
  sW (L:=L) ok I3 fok sub all hns hkp
 have stat:∀ {H':Hp},(∀ b∈fp,H' b=none)->∀ b∈fp,qT (bI X scope cl s3.heap.objs.size (L++F) s3 (upd H2 s2.heap.objs.size (.lst [])) fp) [] H' b:=fun {H'} hn b hb=>by
  obtain⟨⟨_,g1,g2,g3,g4,g5⟩,g6⟩:=fok b hb
  exact⟨hn b hb,Vx g6,pQ I3 g1 g2,.inl hb,fun x c e=>g4 x c (sub x c e),fun p hp=>absurd (show p∈([]:List (Addr × Yb)) from hp) (by simp)⟩
 have loop:∀ tk,Xk (Vs X.prog X.w) X.A (.compLoop (.ListComp elt [⟨t0,i0,[],0⟩,⟨t1,i1,[],0⟩] scope pos) 0 (.ref it) (.ref s2.heap.objs.size) (aan scope cl s3.heap.objs.size X.env))
   (Zr (Vs X.prog X.w) X.A E use QQ (.ref s2.heap.objs.size) s3.heap.objs.size) { s3 with heap:=h₁,toks:=tk }:=fun tk=>by
  obtain⟨W,⟨m0,w0⟩,turn⟩:=q2
  have st3:tn 0 h₁:=T.keep 0 _ _ st2 fun b hb o e=>hkp b o (by rw[es3]; exact Va _ e)
  refine vU (hs1 _) (fun n s'=>∃ i ys σ' H',Inv (bI X scope cl s3.heap.objs.size (L++F) s3 (upd H2 s2.heap.objs.size (.lst [])) fp) [] σ' H' s'/\tn i s'.heap/\(∀ b∈fp,H' b=none)/\W i n ys σ' H') ?_ m0
   ⟨0,[],_,_,I4 tk,st3,fun b hb=>(fok b hb).1.1,w0⟩
  rintro n s5 ⟨i,ys,σ5,H5,I5,st5,fr5,w5⟩
  rcases turn i n ys σ5 H5 w5 with⟨stop,qz⟩ | ⟨go,N,hN,step⟩
  ·refine thn (T.done (bI X scope cl s3.heap.objs.size (L++F) s3 (upd H2 s2.heap.objs.size (.lst [])) fp) rfl rfl rfl hc i [] s5 σ5 H5 _ I5 (stat fr5) st5 stop) fun r s6 ⟨hr,I6⟩=>?_
   subst hr
   have un:Un (frs X.stack) fp H2 H5 s2.heap s6.heap:=by
    have u1:Un (frs X.stack) fp H2 (upd H2 s2.heap.objs.size (.lst [])) s2.heap s3.heap:=by
     rw[es3]
     exact Un.laid (fun _ _ q=>Va _ q) (Vg _) hD
    exact u1.trans I6.base
   have J1:Inv X pins σ H5 s6:=I2.call' (I6.os.trans eos) un I6.hok I6.bare fun b hb=>by
    obtain⟨_,g1,_,g3,g4,g5⟩:=f2 b hb
    exact⟨g3,g1,g4,g5⟩
   have hC:s2.heap.objs.size<=s3.heap.objs.size:=by rw[es3,szC]; exact Xi _
   obtain⟨m,hm,_⟩:=I6.loc
   refine fin s3.heap.objs.size s6 H5 qz J1 ⟨m,hm⟩ I6.free (W8 (Vt I2.lt hC)) (V2 I2.sz hC) (fun x c e z=>?_) (fun p hp z=>?_)
   ·obtain⟨v,q⟩:=I2.cell x c e
    exact absurd (Vt q.lt (by rw[z]; exact hC)) (W5 _)
   ·exact absurd (Vt (Vo (I2.pin p hp).1) (by rw[z]; exact hC)) (W5 _)
  ·refine thn (T.item (bI X scope cl s3.heap.objs.size (L++F) s3 (upd H2 s2.heap.objs.size (.lst [])) fp) rfl rfl rfl hc i [] s5 σ5 H5 _ I5 (stat fr5) st5 go) fun r s6 ⟨u,hr,h6⟩=>?_
   subst hr
   refine thn h6 fun _ s7 ⟨x,H7,I7,r7,y7,st7,fr7⟩=>?_
   have I7':=I7.pinned (stat fr7) (T.obj _ _ st7)
   refine thn (hg _ _ _ _ _ _ s7 σ5 H7 x u _ I7' r7 (step x H7 y7)) fun _ s8 ⟨σ8,H8,I8,q8⟩=>?_
   have again:∀ {σ9:St} {H9:Hp} {s9:Vc} {zs:List V},Inv (bI X scope cl s3.heap.objs.size (L++F) s3 (upd H2 s2.heap.objs.size (.lst [])) fp) ([]++kZ fp s7.heap) σ9 H9 s9->N zs σ9 H9 →
     ∃ m,m < n/\∃ i ys σ' H',Inv (bI X scope cl s3.heap.objs.size (L++F) s3 (upd H2 s2.heap.objs.size (.lst [])) fp) [] σ' H' s9/\tn i s9.heap/\(∀ b∈fp,H' b=none)/\W i m ys σ' H':=fun {σ9 H9 s9 zs} I9 n9=>by
    obtain⟨m',hm,w9⟩:=hN zs σ9 H9 n9
    refine⟨m',hm,i+1,zs,σ9,H9,I9.iD,T.keep _ _ _ st7 fun b hb o e=>(I9.pin (b,o) (VG _ (VG _ (cQ hb e)))).1,fun b hb=>?_,w9⟩
    obtain⟨o,e,d⟩:=T.obj _ _ st7 b hb
    exact (I9.pin (b,o) (VG _ (VG _ (cQ hb e)))).2.1
   refine thn (hi1 _ _ _ _ _ _ s8 σ8 H8 _ I8 q8) fun v1 s9 h9=>thn h9 fun itv s10 h10=>?_
   obtain⟨it1,fp1,tn1,J1,H10,e,I10,T1,st10,f10,Y,⟨m1,y0⟩,turn1⟩:=h10
   subst e
   have stat1:∀ {H':Hp},(∀ b∈fp1,H' b=none)->∀ b∈fp1,qT (bI X scope cl s3.heap.objs.size (L++F) s3 (upd H2 s2.heap.objs.size (.lst [])) fp) ([]++kZ fp s7.heap) H' b:=fun hn b hb=>⟨hn b hb,(f10 b hb).2⟩
   have loop1:Xk (Vs X.prog X.w) X.A (.compLoop (.ListComp elt [⟨t0,i0,[],0⟩,⟨t1,i1,[],0⟩] scope pos) 1 (.ref it1) (.ref s2.heap.objs.size) (aan scope cl s3.heap.objs.size X.env))
     (fun r s'=>match r with | .ok _=>∃ m,m < n/\∃ i ys σ' H',Inv (bI X scope cl s3.heap.objs.size (L++F) s3 (upd H2 s2.heap.objs.size (.lst [])) fp) [] σ' H' s'/\tn i s'.heap/\(∀ b∈fp,H' b=none)/\W i m ys σ' H' | .error _=>False) s10:=by
    refine wk (fun k s'=>∃ j zs σ' H',Inv (bI X scope cl s3.heap.objs.size (L++F) s3 (upd H2 s2.heap.objs.size (.lst [])) fp) ([]++kZ fp s7.heap) σ' H' s'/\tn1 j s'.heap/\(∀ b∈fp1,H' b=none)/\Y j k zs σ' H') ?_ m1
     ⟨0,ys,_,_,I10,st10,fun b hb=>(f10 b hb).1,y0⟩
    rintro k s11 ⟨j,zs,σ11,H11,I11,st11,fr11,w11⟩
    rcases turn1 j k zs σ11 H11 w11 with⟨stop1,n1⟩ | ⟨go1,M,hM,step1⟩
    ·refine thn (T1.done (bI X scope cl s3.heap.objs.size (L++F) s3 (upd H2 s2.heap.objs.size (.lst [])) fp) rfl rfl rfl hc j _ s11 σ11 H11 _ I11 (stat1 fr11) st11 stop1) fun r s12 ⟨hr,I12⟩=>?_
     subst hr
     exact again I12 n1
    ·refine thn (T1.item (bI X scope cl s3.heap.objs.size (L++F) s3 (upd H2 s2.heap.objs.size (.lst [])) fp) rfl rfl rfl hc j _ s11 σ11 H11 _ I11 (stat1 fr11) st11 go1) fun r s12 ⟨u1,hr,h12⟩=>?_
     subst hr
     refine thn h12 fun _ s13 ⟨x1,H13,I13,r13,y13,st13,fr13⟩=>?_
     have I13':=I13.pinned (stat1 fr13) (T1.obj _ _ st13)
     refine thn (hg1 _ _ _ _ _ _ s13 σ11 H13 x1 u1 _ I13' r13 (step1 x1 H13 y13)) fun _ s14 ⟨σ14,H14,I14,q14⟩=>?_
     refine thn (he _ _ _ _ _ _ s14 σ14 H14 _ I14 q14) fun y s15 ⟨yv,H15,I15,r15,e15,z15,n15⟩=>?_
     refine thn (cH _ s15 σ14 H15 (.ref s2.heap.objs.size) [yv] (.ref s2.heap.objs.size) [y] (fun _ H'=>M (zs++[yv]) σ14 H') I15 rfl (.cons r15 .nil) ⟨_,zs,yv,rfl,rfl,e15,z15,n15⟩) fun _ s16 ⟨_,H16,I16,_,n16⟩=>?_
     obtain⟨m',hm,w16⟩:=hM _ _ _ n16
     refine⟨m',hm,j+1,_,σ14,H16,I16.iD,T1.keep _ _ _ st13 fun b hb o e=>(I16.pin (b,o) (VG _ (VG _ (cQ hb e)))).1,fun b hb=>?_,w16⟩
     obtain⟨o,e,d⟩:=T1.obj _ _ st13 b hb
     exact (I16.pin (b,o) (VG _ (VG _ (cQ hb e)))).2.1
   exact wz loop1 (T1.self _ 0 _ _ _ st10 loop1)
 have eC:(s2.heap.push { cls:=.type "list",data:=.seq ([]:List Value).toArray }).objs.size=s3.heap.objs.size:=by rw[es3]
 have goal:∀ tk,Xk (Vs X.prog X.w) X.A (.compStart (.ListComp elt [⟨t0,i0,[],0⟩,⟨t1,i1,[],0⟩] scope pos) 0 (.ref it) (.ref s2.heap.objs.size) (aan scope cl s3.heap.objs.size X.env))
   (Zr (Vs X.prog X.w) X.A E use QQ (.ref s2.heap.objs.size) s3.heap.objs.size) { s3 with heap:=h₁,toks:=tk }:=fun tk =>
  aaQ (loop tk) (T.self _ 0 _ _ _ (T.keep 0 _ _ st2 fun b hb o e=>hkp b o (by rw[es3]; exact Va _ e)) (loop tk))
 have g0:=goal (s2.toks+([]:List (V9 × Value)).length)
 subst hs3
 exact g0
theorem K1 (hc:X.calm=true) (ok:qi X scope F cap) (hi:PI X t0 i0 wi)
  (hg:∀ cl C s H fp,PG (bI X scope cl C (L++F) s H fp) t0 g) (hi1:∀ cl C s H fp,PI (bI X scope cl C (L++F) s H fp) t1 i1 wi1) (hg1:∀ cl C s H fp,PG (bI X scope cl C (L++F) s H fp) t1 g1) (he:∀ cl C s H fp,PE (bI X scope cl C (L++F) s H fp) elt te)
  (hs:∀ x,XC i0 X.env x=pure x:=by intro _; rfl) (hs1:∀ (env:Env) x,XC i1 env x=pure x:=by intro _ _; rfl):PE X (.ListComp elt [⟨t0,i0,[],0⟩,⟨t1,i1,[],0⟩] scope pos) (RX L.length cap wi g wi1 g1 te):=by
 intro pins s σ H Q I h
 obtain⟨cl,e1,e2,e3⟩:=uz (scope:=scope) (env:=X.env) (fun y hy hf=>I.ok.has _ (ok.fr y hy hf))
 rw[eval_ListComp]
 refine Zq (use:=none) rfl hs e1 ok.kind ok.nms (thn (hi pins s σ H _ I h) fun v s1 h1=>thn h1 fun itv s2 h2=>?_)
 obtain⟨it,fp,tn,J,H2,e,I2,T,st2,f2,q2⟩:=h2
 subst e
 refine Fq (Z:=fun H'=>Q (.ref s2.heap.objs.size) H') hc ok e2 e3 hg hi1 hg1 he hs1 I2 T st2 f2 (q2 _ I2.fresh) fun C s' H' z J m hCf hCl hCs hCc hCp=>?_
 obtain⟨m,hm⟩:=m
 exact⟨m,hm,fun h' hs'=>⟨.ref _,H',J.turned (t':=s'.toks) (fun b o hb e=>(hs'.2 b hb).trans e) hCf hCl (.inr hCs) hCc hCp,rfl,z⟩⟩
end
end L2
namespace L2
open PySem PySem.Spec PyProof.Rows
def DP (ta:TA):TE:=fun σ H Q=>ta σ H fun vs H1=>∃ n:Nat,vs=[.int (n:Int)]/\n<=1000/\∀ l,H1 l=none->Q (.ref l) (upd H1 l (.lst (((VD n).map fun i:Nat=>(i:Int)).map V.int)))
theorem CK {n:Nat} {acc:Array Value} (h:ItemsOf (fun i v=>∃ t,v = .int (0+(i:Int) * 1) t) acc n):Vals (((VD n).map fun i:Nat=>(i:Int)).map V.int) acc.toList:=by
 have key:∀ (m:Nat) (us:List Value),us.length=m->(∀ (j:Nat) (v:Value),us[j]? = some v->∃ t,v = .int (j:Int) t)->Vals (((VD m).map fun i:Nat=>(i:Int)).map V.int) us:=by
  intro m
  induction m with
  | zero =>
   intro us hl _
   rw[List.length_eq_zero_iff.mp hl]
   exact .nil
  | succ m ih =>
   intro us hl hj
   rw[YT,Vl,Vl]
   have hm:m < us.length:=by lia
   have e:us=us.take m++[us[m]]:=by
    rw[List.take_append_getElem hm,List.take_of_length_le (by lia)]
   rw[e]
   have h1:=ih (us.take m) (by rw[Vz]; lia) fun j v hv=>by
    rw[List.getElem?_take] at hv
    split at hv
    ·exact hj j v hv
    ·cases hv
   obtain⟨t,ht⟩:=hj m us[m] (Vf hm)
   exact h1.append (.cons ⟨t,ht⟩ .nil)
 refine key n acc.toList (by rw[VM]; exact h.1) fun j v hv=>?_
 obtain⟨t,ht⟩:=h.2 j v (by rw[← Wh]; exact hv)
 exact⟨t,by rw[ht]; congr 1; lia⟩
theorem wH {X:Cx} {e:Expr} {te:TA} {p1 p2 q1 q2:Zf} (hc:X.calm=true) (hg1:Gl X "list") (hm1:X.mg "list" = none) (hg2:Gl X "range") (hm2:X.mg "range" = none) (ha:PA X [e] te)
  (hb1:Wt "list" = some (.type "list"):=by decide+kernel) (hb2:Wt "range" = some (.type "range"):=by decide+kernel)
  (he1:VN [.Call (.Name "range" p2) [e] [] q2] X.env=(false,Xn (.Call (.Name "range" p2) [e] [] q2) X.env)::VN [] X.env:=by rfl) (hp1:(Yc q1 (VN [] X.env)).any (·.1)=false:=by rfl)
  (he2:VN [e] X.env=(false,Xn e X.env)::VN [] X.env:=by rfl) (hp2:(Yc q2 (VN [] X.env)).any (·.1)=false:=by rfl) :
  PE X (.Call (.Name "list" p1) [.Call (.Name "range" p2) [e] [] q2] [] q1) (DP te):=by
 intro pins s σ H Q I h
 refine Xl (gj I hg1 hm1 hb1 ?_ (by decide) (by decide))
 refine Wv ?_ he1 hp1
 rw[he1]
 refine (show Vk _ _ (acp ((false,Xn (.Call (.Name "range" p2) [e] [] q2) X.env)::Yc q1 (VN [] X.env))) _ _ s from abz ?_)
 refine Xl (gj I hg2 hm2 hb2 ?_ (by decide) (by decide))
 refine Wv (thn (ha q2 pins s σ H _ I h) fun us s1 ⟨vs,H1,I1,r1,q⟩=>?_) he2 hp2
 obtain⟨n,rfl,hn,hQ⟩:=q
 obtain⟨u,rfl,ru⟩:=vals1 r1
 obtain⟨t,rfl⟩:=ru
 refine call_range_1 ?_
 refine (show Vk _ _ (acp []) _ _ _ from abR ?_)
 have I2:Inv X pins σ H1 { s1 with heap:=s1.heap.push { cls:=.type "range",data:=.fields #[.int 0 s1.toks,.int (n:Int) t,.int 1 (s1.toks+1)] },toks:=s1.toks+1+1 }:=I1.kept fun b o e=>Va _ e
 refine call_list_range (n:=n) (I1.ok.hd hc) (IsRange.new ..) (small_one (by decide) (by decide) (by lia) (by lia)) (by rw[rangeSize_one]; split <;> lia) (by lia) fun h' tk acc c hk hD hI=>?_
 refine⟨.ref _,_,I2.laid (t':=tk) (o:=.lst (((VD n).map fun i:Nat=>(i:Int)).map V.int)) hk (Vg _) ⟨?_,acc.toList,c,CK hI,?_⟩,rfl,hQ _ (I2.hok.fresh (Vg _))⟩
 ·rw[Vb,Vb,VP]
  exact V2 hn (by decide)
 ·rw[Array.toArray_toList]
  exact hD
section
variable {X:Cx}
end
end L2
namespace L2
open PySem PySem.Spec PyProof.Rows
def In2 (D:Addr) (J1:It) (g1:TG) (te:TE) (N:List V->St->Hp->Prop) (ys:List V) (σ3:St) (H4:Hp):Prop :=
 ∃ Y:Nat->Nat->List V->St->Hp->Prop,(∃ m,Y 0 m ys σ3 H4) ∧
  ∀ j m zs σ5 H5,Y j m zs σ5 H5->((J1.stop j H5/\N zs σ5 H5)∨(J1.go j H5/\∃ M:List V->St->Hp->Prop,(∀ zs σ6 H6,M zs σ6 H6->∃ m',m' < m/\Y (j+1) m' zs σ6 H6) ∧
   ∀ y H6,J1.yld j H5 y H6->g1 y σ5 H6 fun σ7 H7=>te σ7 H7 fun v H8=>H8 D=some (.lst zs)/\zs.length < sizeLine/\M (zs++[v]) σ7 (upd H8 D (.lst (zs++[v])))))
theorem Gx {K:VB} {a D:Addr} {xs:List V} {g:TG} {wi1:TI} {g1:TG} {te:TE} {H1:Hp} {Q:Hp->Prop} {σ0:St} (Pv:Nat->List V->St->Hp->Prop) (h0:Pv 0 [] σ0 (upd H1 D (.lst [])))
  (hl:∀ i ys σ H,i<=xs.length->Pv i ys σ H->SqT K H a xs)
  (hs:∀ i ys x σ H,xs[i]? = some x->Pv i ys σ H->g x σ H fun σ3 H3=>wi1 σ3 H3 fun J1 H4=>In2 D J1 g1 te (Pv (i+1)) ys σ3 H4)
  (hd:∀ ys σ H,Pv xs.length ys σ H->Q H):ou D σ0 (Itt K a) g wi1 g1 te H1 Q:=by
 refine⟨fun i m ys σ H=>m=xs.length - i/\i<=xs.length/\Pv i ys σ H,⟨xs.length,by simp,VL _,h0⟩,?_⟩
 rintro i m ys σ H ⟨rfl,hi,p⟩
 have q:=hl i ys σ H hi p
 by_cases hlt:i < xs.length
 ·refine .inr ⟨⟨xs,xs[i],q,by simp [hlt]⟩,Pv (i+1),fun zs σ' H' p'=>⟨xs.length - (i+1),by lia,rfl,hlt,p'⟩,fun x H' y=>?_⟩
  obtain⟨e,y⟩:=y
  subst e
  exact hs i ys x σ _ (y xs q) p
 ·have e:i=xs.length:=by lia
  subst e
  exact .inl ⟨⟨xs,q,Vg _⟩,hd ys σ H p⟩
theorem Li {K:VB} {b D:Addr} {ws:List V} {g1:TG} {te:TE} {N:List V->St->Hp->Prop} {ys:List V} {σ3:St} {H4:Hp} (Pw:Nat->List V->St->Hp->Prop) (h0:Pw 0 ys σ3 H4)
  (hl:∀ j zs σ H,j<=ws.length->Pw j zs σ H->SqL K H b ws)
  (hs:∀ j zs y σ H,ws[j]? = some y->Pw j zs σ H->g1 y σ H fun σ7 H7=>te σ7 H7 fun v H8=>H8 D=some (.lst zs)/\zs.length < sizeLine/\Pw (j+1) (zs++[v]) σ7 (upd H8 D (.lst (zs++[v]))))
  (hd:∀ zs σ H,Pw ws.length zs σ H->N zs σ H):In2 D (Itl K b) g1 te N ys σ3 H4:=by
 refine⟨fun j m zs σ H=>m=ws.length - j/\j<=ws.length/\Pw j zs σ H,⟨ws.length,by simp,VL _,h0⟩,?_⟩
 rintro j m zs σ H ⟨rfl,hj,p⟩
 have q:=hl j zs σ H hj p
 by_cases hlt:j < ws.length
 ·refine .inr ⟨⟨ws,ws[j],q,by simp [hlt]⟩,Pw (j+1),fun zs' σ' H' p'=>⟨ws.length - (j+1),by lia,rfl,hlt,p'⟩,fun y H' z=>?_⟩
  obtain⟨e,z⟩:=z
  subst e
  exact hs j zs y σ _ (z ws q) p
 ·have e:j=ws.length:=by lia
  subst e
  exact .inl ⟨⟨ws,q,Vg _⟩,hd zs σ H p⟩
end L2
namespace L2
open PySem PySem.Spec PyProof.Rows
section
variable {prog:Vy} {w:V3} {A:V0} {E:Value->Vc->Prop} {s:Vc}
end
section
variable {X:Cx}
end
end L2
namespace L2
open PySem PySem.Spec PyProof.Rows
section
variable {X:Cx} {elt t0 i0 t1 i1:Expr} {scope:Yg} {pos:Zf} {L F:List V9} {cap:List Nat} {wi wi1:TI} {g g1:TG} {te:TE}
end
end L2
namespace L2
open PySem PySem.Spec PyProof.Rows
section
variable {X:Cx} {tg:Expr}
end
end L2
namespace L2
open PySem PySem.Spec PyProof.Rows
def dj (X:Cx) (scope:Yg) (cl:List (V9 × Addr)) (C:Addr) (x0:V9) (N:List V9) (s:Vc) (H:Hp) (fp:List Addr):Cx :=
 {X with N:=N,s₀:=s,H₀:=H,env:=aan scope ((x0,C+1)::cl) C X.env,outer:=X.stack,ex:=fp,fn:=fun y=>y == x0,pn:=[],xe:=fun _ _=>False }
structure vd (X:Cx) (scope:Yg) (x0:V9) (F:List V9) (cap:List Nat):Prop where
 kind:scope.kind = .function
 cf:∀ (n:Nat) (acc:List (V9 × Addr)),abh n scope.names acc=(x0,n)::acc
 pc:∀ h:Wb,pushCells h scope.names=h.push { cls:=.type "cell",data:=.cell none }
 own:∀ x,scope.names.lookup x=some .cell->x=x0
 own0:scope.names.lookup x0=some .cell
 nms:∀ y∈scope.names,y.2 = .local->scope.names.lookup y.1=some .local
 fr:∀ y∈scope.names,y.2 = .free->X.env.kindOf y.1=some .cell∨X.env.kindOf y.1=some .free
 len:cap.length=F.length
 at':∀ (k:Nat) (x:V9),F[k]? = some x->∃ i,cap[k]? = some i/\X.N[i]? = some x/\scope.names.lookup x=some .free
theorem lkK {x0 x:V9} {c0 c:Addr} {cl:List (V9 × Addr)} (h:((x0,c0)::cl).lookup x=some c):(x=x0/\c=c0)∨(x≠x0/\cl.lookup x=some c):=by
 by_cases e:x=x0
 ·subst e
  rw[List.lookup_cons_self] at h
  exact .inl ⟨rfl,(Wn h).symm⟩
 ·refine .inr ⟨e,?_⟩
  rw[Wx] at h
  have:(x == x0)=false:=beq_eq_false_iff_ne.mpr e
  rw[this] at h
  exact h
theorem Ju {x0 x:V9} {c0 c:Addr} {cl:List (V9 × Addr)} (e:x≠x0) (h:cl.lookup x=some c):((x0,c0)::cl).lookup x=some c:=by
 rw[Wx]
 have:(x == x0)=false:=beq_eq_false_iff_ne.mpr e
 rw[this]
 exact h
theorem Ql {M:Model} {A:V0} {E:Value->Vc->Prop} {s:Vc} {scope:Yg} {globals:Addr} {cl:List (V9 × Addr)} {qual:V9} {outer:Env} {Q:Env->Vc->Prop}
  (hQ:Q (newEnv scope s.heap.objs.size globals (abh (s.heap.objs.size+1) scope.names cl) qual none .none (some outer) builtinsNs) { s with heap:=pushCells (s.heap.push { cls:=.type "dict",data:=.dict #[] }) scope.names }) :
  Vk M A (aal scope globals cl [] qual none .none (some outer)) Q E s:=by
 simp only[aal,Option.isSome_some,if_true]
 refine U9 (wpAny_alloc ?_)
 refine U9 (wpAny_layCells _ (fun name kind cells=>by cases hkc:kind == Z0 <;> simp [hkc]) _ _ _ _ ?_)
 rw[show ({ s with heap:=s.heap.push { cls:=.type "dict",data:=.dict #[] } }:Vc).heap.objs.size=s.heap.objs.size+1 from V7 ..]
 refine U9 ?_
 rw[Zc]
 exact Vd (Vd hQ)
section
variable {X:Cx} {elt tg iter:Expr} {ifs:List Expr} {scope:Yg} {pos:Zf} {x0:V9} {L F:List V9} {cap:List Nat} {wi:TI} {g:TG} {tt:TT} {te:TE}
theorem zx {cl:List (V9 × Addr)} {pins:List (Addr × Yb)} {σ:St} {H:Hp} {s:Vc} {fp:List Addr} {h₁:Wb} {tk:Nat} (ok:vd X scope x0 F cap) (I:Inv X pins σ H s) (hfp:∀ b∈fp,qT X pins H b/\b < s.heap.objs.size)
  (sub:∀ n c,cl.lookup n=some c->X.env.cells.lookup n=some c) (all:∀ y∈scope.names,y.2 = .free->∃ c,cl.lookup y.1=some c)
  (ns:h₁.Ns s.heap.objs.size fun _=>none) (kp:∀ b o,s.heap.get? b=some o->h₁.get? b=some o) (nc:h₁.IsCell (s.heap.objs.size+1) none) :
  Inv (dj X scope cl s.heap.objs.size x0 (L++F) s H fp) [] (HS L.length cap σ) H { s with heap:=h₁,toks:=tk }:=by
 have frk:∀ x,scope.names.lookup x=some .free->X.env.kindOf x=some .cell∨X.env.kindOf x=some .free:=fun x e=>ok.fr (x,.free) (WL e) rfl
 have old:∀ x c,cl.lookup x=some c->c < s.heap.objs.size:=fun x c e=>let ⟨_,q⟩:=I.cell x c (sub x c e); q.lt
 have okX:(dj X scope cl s.heap.objs.size x0 (L++F) s H fp).Ok:=by
  refine⟨I.ok.mod,ok.kind,I.ok.glob,I.ok.blt,Vg _,fun x y c e1 e2=>?_,fun x hx=>?_,fun x c hx e=>?_,I.ok.hd,I.ok.frames,.inl rfl,fun b hb=>⟨Vx (hfp b hb).2,fun x c e=>?_⟩,I.bs,V2 I.ok.bsz I.sz,fun b o e hb=>?_,fun b hb=>?_,I.stack,I.zu⟩
  ·rcases lkK e1 with⟨f1,f2⟩ | ⟨f1,f2⟩ <;> rcases lkK e2 with⟨f3,f4⟩ | ⟨f3,f4⟩
   ·rw[f1,f3]
   ·have:=old _ _ f4
    rw[f2] at this
    exact absurd (ZL (Xb _) this) (W5 _)
   ·have:=old _ _ f2
    rw[f4] at this
    exact absurd (ZL (Xb _) this) (W5 _)
   ·exact I.ok.inj x y c (sub x c f2) (sub y c f4)
  ·by_cases hx0:x=x0
   ·exact⟨s.heap.objs.size+1,by rw[hx0]; exact List.lookup_cons_self⟩
   ·have e:scope.names.lookup x=some .free:=by
     rcases hx with hx | hx
     ·rcases ph (env:=X.env) (show _=some Z0 from hx) with e | e
      ·exact absurd (ok.own _ e) hx0
      ·exact e
     ·rcases ph (env:=X.env) (show _=some Xq from hx) with e | e <;> exact e
    obtain⟨c,hc⟩:=all (x,.free) (WL e) rfl
    exact⟨c,Ju hx0 hc⟩
  ·have hx:(x == x0)=true:=hx
   rcases lkK e with⟨_,f2⟩ | ⟨f1,_⟩
   ·rw[f2]
    exact Xi _
   ·exact absurd (eq_of_beq hx) f1
  ·rcases lkK e with⟨_,f2⟩ | ⟨_,f2⟩
   ·rw[f2]
    exact W8 (Wj (hfp b hb).2)
   ·exact (hfp b hb).1.2.2.2.2.1 x c (sub x c f2)
  ·obtain⟨_,_,_,f3,_⟩:=(hfp b hb).1
   rcases f3 with z | z
   ·exact I.ok.noex b o e z
   ·exact absurd (Vt (Vo e) (V2 I.ok.bsz z)) (W5 _)
  ·obtain⟨_,f1,f2,_⟩:=(hfp b hb).1
   exact pQ I f1 f2
 refine⟨okX,rfl,I.bare,Un.kept kp,⟨_,ns,fun i x v e1 e2 e3=>?_⟩,fun x c e=>?_,I.hok.fresh (Vg _),fun x c e=>?_,fun p hp=>absurd (show p∈([]:List (Addr × Yb)) from hp) (by simp),I.hok.kept kp,?_⟩
 ·have e1:(L++F)[i]? = some x:=e1
  have e2:(Vn L.length none++cap.map fun i=>(σ[i]?).join)[i]? = some (some v):=e2
  have hL:¬ i < L.length:=fun hi=>by
   rw[aas (by simpa using hi),X7] at e2
   split at e2 <;> cases e2
  have hi:L.length<=i:=ab4 hL
  rw[Yk hi] at e1
  rw[Yk (by simpa using hi),VR,VF] at e2
  obtain⟨j,hj,hN,hk⟩:=ok.at' _ _ e1
  rw[hj] at e2
  have e4:(σ[j]?).join=some v:=by simpa using e2
  have e5:σ[j]? = some (some v):=by
   cases q:σ[j]? with
   | none=>rw[q] at e4; cases e4
   | some a=>rw[q] at e4; exact congrArg some e4
  obtain⟨m,hn,hl⟩:=I.loc
  have kd:=frk x hk
  have hx0:x≠x0:=fun z=>by rw[z,ok.own0] at hk; cases hk
  obtain⟨u,r,lk⟩:=hl j x v hN e5 (kd.elim (fun z=>.inr (.inl z)) fun z=>.inr (.inr z))
  obtain⟨c,hc,hcell⟩:∃ c,X.env.cells.lookup x=some c/\s.heap.IsCell c (some u):=by
   rcases lk with⟨z,_⟩ | ⟨_,c,z1,z2⟩
   ·rcases kd with y | y <;> (rw[y] at z; cases z)
   ·exact⟨c,z1,z2⟩
  obtain⟨c',hc'⟩:=all (x,.free) (WL hk) rfl
  have ec:c'=c:=by
   have:=sub x c' hc'
   rw[hc] at this
   exact (Wn this).symm
  subst ec
  obtain⟨o,ho,hd⟩:=hcell
  exact⟨u,r,.inr ⟨(zJ (env:=X.env) hk),c',Ju hx0 hc',o,kp _ _ ho,hd⟩⟩
 ·rcases lkK e with⟨_,f2⟩ | ⟨_,f2⟩
  ·rw[f2]
   exact⟨none,nc⟩
  ·obtain⟨v,o,ho,hd⟩:=I.cell x c (sub x c f2)
   exact⟨v,o,kp _ _ ho,hd⟩
 ·rcases lkK e with⟨_,f2⟩ | ⟨_,f2⟩
  ·rw[f2]
   exact I.hok.fresh (Xi _)
  ·exact I.freeC x c (sub x c f2)
 ·show (Vn L.length (none:Option V)++cap.map fun i=>(σ[i]?).join).length=(L++F).length
  rw[Ve,Ve,VR,Vb,ok.len]
theorem Jb {cl:List (V9 × Addr)} {pins:List (Addr × Yb)} {σ:St} {s2:Vc} {H2:Hp} {it:Addr} {fp:List Addr} {tn:Nat->Wb->Prop} {J:It} {use:Option (Value->Sem Unit)} {QQ:Value->Vc->Prop} {Z:Hp->Prop} {E:Value->Vc->Prop}
  (hc:X.calm=true) (ok:vd X scope x0 F cap)
  (sub:∀ n c,cl.lookup n=some c->X.env.cells.lookup n=some c) (all:∀ y∈scope.names,y.2 = .free->∃ c,cl.lookup y.1=some c)
  (hg:∀ cl C s H fp,PG (dj X scope cl C x0 (L++F) s H fp) tg g) (ht:∀ cl C s H fp,PTs (dj X scope cl C x0 (L++F) s H fp) ifs tt) (he:∀ cl C s H fp,PE (dj X scope cl C x0 (L++F) s H fp) elt te)
  (I2:Inv X pins σ H2 s2) (T:Turn X.prog X.w X.K tg J fp it tn) (st2:tn 0 s2.heap) (f2:∀ b∈fp,qT X pins H2 b)
  (q2:gO s2.heap.objs.size (HS L.length cap σ) J g tt te H2 Z)
  (fin:∀ (C:Addr) (s':Vc) (H':Hp),Z H'->Inv X pins σ H' s'->(∃ m,s'.heap.Ns C m)->H' C=none->C≠X.env.locals->X.s₀.heap.objs.size<=C->(∀ x c,X.env.cells.lookup x=some c->c≠C)->(∀ p∈X.pn++pins,p.1≠C) →
   Zr (Vs X.prog X.w) X.A E use QQ (.ref s2.heap.objs.size) C (.ok .next) s') :
  Vk (Vs X.prog X.w) X.A (acr []) (fun acc s₃=>Vk (Vs X.prog X.w) X.A (aal scope X.env.globals cl [] X.env.qual none .none (some X.env)) (fun cenv s₄ =>
   Xk (Vs X.prog X.w) X.A (.compStart (.ListComp elt [⟨tg,iter,ifs,0⟩] scope pos) 0 (.ref it) acc { cenv with scope:=relabel scope X.env }) (Zr (Vs X.prog X.w) X.A E use QQ acc cenv.locals) s₄) E s₃) E s2:=by
 have hD:H2 s2.heap.objs.size=none:=I2.fresh
 refine V6 (Ql ?_)
 rw[ok.cf,ok.pc]
 have I3:Inv X pins σ (upd H2 s2.heap.objs.size (.lst [])) { s2 with heap:=s2.heap.push { cls:=.type "list",data:=.seq ([]:List Value).toArray } }:=I2.Ss (t':=s2.toks) (ys:=[]) (its:=[]) .nil (VL _)
 have blt:∀ b∈fp,b < s2.heap.objs.size:=fun b hb=>let ⟨_,e,_⟩:=T.obj 0 _ st2 b hb; Vo e
 have szC:(s2.heap.push { cls:=.type "list",data:=.seq ([]:List Value).toArray }).objs.size=s2.heap.objs.size+1:=V7 _ _
 generalize hs3:({ s2 with heap:=s2.heap.push { cls:=.type "list",data:=.seq ([]:List Value).toArray } }:Vc)=s3 at I3
 have es3:s3.heap=s2.heap.push { cls:=.type "list",data:=.seq ([]:List Value).toArray }:=by rw[← hs3]
 have eos:s3.os=s2.os:=by rw[← hs3]
 have fok:∀ b∈fp,qT X pins (upd H2 s2.heap.objs.size (.lst [])) b/\b < s3.heap.objs.size:=fun b hb=>by
  obtain⟨f0,fr⟩:=f2 b hb
  refine⟨⟨by rw[bh (Vx (blt b hb))]; exact f0,fr⟩,?_⟩
  rw[es3,szC]
  exact Wj (blt b hb)
 obtain⟨h₁,eh₁⟩:∃ h₁:Wb,h₁=(s3.heap.push { cls:=.type "dict",data:=.dict #[] }).push { cls:=.type "cell",data:=.cell none }:=⟨_,rfl⟩
 have hkp:∀ b o,s3.heap.get? b=some o->h₁.get? b=some o:=fun b o e=>by
  rw[eh₁]
  exact Va _ (Va _ e)
 have hns:h₁.Ns s3.heap.objs.size fun _=>none:=by
  rw[eh₁]
  exact (Heap.Ns.new s3.heap (.type "dict")).keeps fun b o e=>Va _ e
 have hnc:h₁.IsCell (s3.heap.objs.size+1) none:=by
  rw[eh₁,← V7 s3.heap { cls:=.type "dict",data:=.dict #[] }]
  exact⟨_,Vh _ rfl,rfl⟩
 have I4:∀ tk,Inv (dj X scope cl s3.heap.objs.size x0 (L++F) s3 (upd H2 s2.heap.objs.size (.lst [])) fp) [] (HS L.length cap σ) (upd H2 s2.heap.objs.size (.lst [])) { s3 with heap:=h₁,toks:=tk }:=fun tk =>
  zx (L:=L) ok I3 fok sub all hns hkp hnc
 have stat:∀ {H':Hp},(∀ b∈fp,H' b=none)->∀ b∈fp,qT (dj X scope cl s3.heap.objs.size x0 (L++F) s3 (upd H2 s2.heap.objs.size (.lst [])) fp) [] H' b:=fun {H'} hn b hb=>by
  obtain⟨⟨_,g1,g2,g3,g4,g5⟩,g6⟩:=fok b hb
  exact⟨hn b hb,Vx g6,pQ I3 g1 g2,.inl hb,fun x c e=>(lkK e).elim (fun z=>by rw[z.2]; exact W8 (Wj g6)) (fun z=>g4 x c (sub x c z.2)),fun p hp=>absurd (show p∈([]:List (Addr × Yb)) from hp) (by simp)⟩
 have loop:∀ tk,Xk (Vs X.prog X.w) X.A (.compLoop (.ListComp elt [⟨tg,iter,ifs,0⟩] scope pos) 0 (.ref it) (.ref s2.heap.objs.size) (aan scope ((x0,s3.heap.objs.size+1)::cl) s3.heap.objs.size X.env))
   (Zr (Vs X.prog X.w) X.A E use QQ (.ref s2.heap.objs.size) s3.heap.objs.size) { s3 with heap:=h₁,toks:=tk }:=fun tk=>by
  obtain⟨W,⟨m0,w0⟩,turn⟩:=q2
  have st3:tn 0 h₁:=T.keep 0 _ _ st2 fun b hb o e=>hkp b o (by rw[es3]; exact Va _ e)
  refine sH (fun n s'=>∃ i ys σ' H',Inv (dj X scope cl s3.heap.objs.size x0 (L++F) s3 (upd H2 s2.heap.objs.size (.lst [])) fp) [] σ' H' s'/\tn i s'.heap/\(∀ b∈fp,H' b=none)/\W i n ys σ' H') ?_ m0
   ⟨0,[],_,_,I4 tk,st3,fun b hb=>(fok b hb).1.1,w0⟩
  rintro n s5 ⟨i,ys,σ5,H5,I5,st5,fr5,w5⟩
  obtain⟨hDl,alt⟩:=turn i n ys σ5 H5 w5
  rcases alt with⟨stop,qz⟩ | ⟨go,N,hN,step⟩
  ·refine thn (T.done (dj X scope cl s3.heap.objs.size x0 (L++F) s3 (upd H2 s2.heap.objs.size (.lst [])) fp) rfl rfl rfl hc i [] s5 σ5 H5 _ I5 (stat fr5) st5 stop) fun r s6 ⟨hr,I6⟩=>?_
   subst hr
   have un:Un (frs X.stack) fp H2 H5 s2.heap s6.heap:=by
    have u1:Un (frs X.stack) fp H2 (upd H2 s2.heap.objs.size (.lst [])) s2.heap s3.heap:=by
     rw[es3]
     exact Un.laid (fun _ _ q=>Va _ q) (Vg _) hD
    exact u1.trans I6.base
   have J1:Inv X pins σ H5 s6:=I2.call' (I6.os.trans eos) un I6.hok I6.bare fun b hb=>by
    obtain⟨_,g1,_,g3,g4,g5⟩:=f2 b hb
    exact⟨g3,g1,g4,g5⟩
   have hC:s2.heap.objs.size<=s3.heap.objs.size:=by rw[es3,szC]; exact Xi _
   obtain⟨m,hm,_⟩:=I6.loc
   refine fin s3.heap.objs.size s6 H5 qz J1 ⟨m,hm⟩ I6.free (W8 (Vt I2.lt hC)) (V2 I2.sz hC) (fun x c e z=>?_) (fun p hp z=>?_)
   ·obtain⟨v,q⟩:=I2.cell x c e
    exact absurd (Vt q.lt (by rw[z]; exact hC)) (W5 _)
   ·exact absurd (Vt (Vo (I2.pin p hp).1) (by rw[z]; exact hC)) (W5 _)
  ·refine thn (T.item (dj X scope cl s3.heap.objs.size x0 (L++F) s3 (upd H2 s2.heap.objs.size (.lst [])) fp) rfl rfl rfl hc i [] s5 σ5 H5 _ I5 (stat fr5) st5 go) fun r s6 ⟨u,hr,h6⟩=>?_
   subst hr
   refine thn h6 fun _ s7 ⟨x,H7,I7,r7,y7,st7,fr7⟩=>?_
   have I7':=I7.pinned (stat fr7) (T.obj _ _ st7)
   refine thn (hg _ _ _ _ _ _ s7 σ5 H7 x u _ I7' r7 (step x H7 y7)) fun _ s8 ⟨σ8,H8,I8,q8⟩=>?_
   have again:∀ {σ9:St} {H9:Hp} {s9:Vc} {zs:List V},Inv (dj X scope cl s3.heap.objs.size x0 (L++F) s3 (upd H2 s2.heap.objs.size (.lst [])) fp) ([]++kZ fp s7.heap) σ9 H9 s9->N zs σ9 H9 →
     ∃ m,m < n/\∃ i ys σ' H',Inv (dj X scope cl s3.heap.objs.size x0 (L++F) s3 (upd H2 s2.heap.objs.size (.lst [])) fp) [] σ' H' s9/\tn i s9.heap/\(∀ b∈fp,H' b=none)/\W i m ys σ' H':=fun {σ9 H9 s9 zs} I9 n9=>by
    obtain⟨m',hm,w9⟩:=hN zs σ9 H9 n9
    refine⟨m',hm,i+1,zs,σ9,H9,I9.iD,T.keep _ _ _ st7 fun b hb o e=>(I9.pin (b,o) (VG _ (VG _ (cQ hb e)))).1,fun b hb=>?_,w9⟩
    obtain⟨o,e,d⟩:=T.obj _ _ st7 b hb
    exact (I9.pin (b,o) (VG _ (VG _ (cQ hb e)))).2.1
   refine thn (ht _ _ _ _ _ _ s8 σ8 H8 _ I8 q8) fun okb s9 ⟨H9,I9,q9⟩=>?_
   cases okb with
   | false =>
    rw[if_neg Vm] at q9 ⊢
    exact again I9 q9
   | true =>
    rw[if_pos rfl] at q9 ⊢
    refine thn (he _ _ _ _ _ _ s9 σ8 H9 _ I9 q9) fun y s10 ⟨yv,H10,I10,r10,e10,z10,n10⟩=>?_
    refine thn (cH _ s10 σ8 H10 (.ref s2.heap.objs.size) [yv] (.ref s2.heap.objs.size) [y] (fun _ H'=>N (ys++[yv]) σ8 H') I10 rfl (.cons r10 .nil) ⟨_,ys,yv,rfl,rfl,e10,z10,n10⟩) fun _ s11 ⟨_,H11,I11,_,n11⟩=>?_
    exact again I11 n11
 have eC:(s2.heap.push { cls:=.type "list",data:=.seq ([]:List Value).toArray }).objs.size=s3.heap.objs.size:=by rw[es3]
 have goal:∀ tk,Xk (Vs X.prog X.w) X.A (.compStart (.ListComp elt [⟨tg,iter,ifs,0⟩] scope pos) 0 (.ref it) (.ref s2.heap.objs.size) (aan scope ((x0,s3.heap.objs.size+1)::cl) s3.heap.objs.size X.env))
   (Zr (Vs X.prog X.w) X.A E use QQ (.ref s2.heap.objs.size) s3.heap.objs.size) { s3 with heap:=h₁,toks:=tk }:=fun tk =>
  aaQ (loop tk) (T.self _ 0 _ _ _ (T.keep 0 _ _ st2 fun b hb o e=>hkp b o (by rw[es3]; exact Va _ e)) (loop tk))
 have g0:=goal s2.toks
 subst hs3
 rw[eh₁] at g0
 exact g0
theorem K9 (hc:X.calm=true) (ok:vd X scope x0 F cap) (hi:PI X tg iter wi)
  (hg:∀ cl C s H fp,PG (dj X scope cl C x0 (L++F) s H fp) tg g) (ht:∀ cl C s H fp,PTs (dj X scope cl C x0 (L++F) s H fp) ifs tt) (he:∀ cl C s H fp,PE (dj X scope cl C x0 (L++F) s H fp) elt te)
  (hs:∀ x,XC iter X.env x=pure x:=by intro _; rfl):PE X (.ListComp elt [⟨tg,iter,ifs,0⟩] scope pos) (RD L.length cap wi g tt te):=by
 intro pins s σ H Q I h
 obtain⟨cl,e1,e2,e3⟩:=uz (scope:=scope) (env:=X.env) (fun y hy hf=>I.ok.has _ (ok.fr y hy hf))
 rw[eval_ListComp]
 refine Zq (use:=none) rfl hs e1 ok.kind ok.nms (thn (hi pins s σ H _ I h) fun v s1 h1=>thn h1 fun itv s2 h2=>?_)
 obtain⟨it,fp,tn,J,H2,e,I2,T,st2,f2,q2⟩:=h2
 subst e
 refine Jb (Z:=fun H'=>Q (.ref s2.heap.objs.size) H') hc ok e2 e3 hg ht he I2 T st2 f2 (q2 _ I2.fresh) fun C s' H' z J m hCf hCl hCs hCc hCp=>?_
 ·obtain⟨m,hm⟩:=m
  exact⟨m,hm,fun h' hs'=>⟨.ref _,H',J.turned (t':=s'.toks) (fun b o hb e=>(hs'.2 b hb).trans e) hCf hCl (.inr hCs) hCc hCp,rfl,z⟩⟩
end
end L2
namespace L2
open PySem PySem.Spec PyProof.Rows
def Bk (osc:Yg) (oN:List V9) (sc:Yg) (x0:V9) (F:List V9) (cap:List Nat):Bool :=
 decide (sc.kind = .function) && sc.names.all (fun y=>!decide (y.2 = .cell) || decide (y.1=x0)) && decide (sc.names.lookup x0=some .cell) && sc.names.all (fun y=>!decide (y.2 = .local) || decide (sc.names.lookup y.1=some .local)) &&
 sc.names.all (fun y=>!decide (y.2 = .free) || decide (osc.names.lookup y.1=some .cell) || decide (osc.names.lookup y.1=some .free)) && decide (cap.length=F.length) &&
 (VD F.length).all fun k=>(decide (F[k]? = none) || decide ((cap[k]?.bind fun i=>oN[i]?)=F[k]?)) && decide ((F[k]?.bind fun x=>sc.names.lookup x)=some .free)
theorem JB {X:Cx} {osc sc:Yg} {x0:V9} {oN F:List V9} {cap:List Nat} (ho:X.env.scope=osc) (hN:X.N=oN) (h:Bk osc oN sc x0 F cap=true)
  (cf:∀ (n:Nat) (acc:List (V9 × Addr)),abh n sc.names acc=(x0,n)::acc) (pc:∀ h:Wb,pushCells h sc.names=h.push { cls:=.type "cell",data:=.cell none }):vd X sc x0 F cap:=by
 unfold Bk at h
 simp only[WD] at h
 obtain⟨⟨⟨⟨⟨⟨h1,h2⟩,h0⟩,h3⟩,h4⟩,h5⟩,h6⟩:=h
 refine⟨of_decide_eq_true h1,cf,pc,fun x e=>?_,of_decide_eq_true h0,fun y hy e=>?_,fun y hy e=>?_,of_decide_eq_true h5,fun k x e=>?_⟩
 ·have:=List.all_eq_true.mp h2 _ (WL e)
  exact of_decide_eq_true (by simpa using this)
 ·have:=List.all_eq_true.mp h3 y hy
  rw[decide_eq_true e] at this
  exact of_decide_eq_true (by simpa using this)
 ·have:=List.all_eq_true.mp h4 y hy
  rw[decide_eq_true e] at this
  have z:decide (osc.names.lookup y.1=some .cell)=true∨decide (osc.names.lookup y.1=some .free)=true:=by
   rw[Bool.not_true,aaG,ZD] at this
   exact this
  show X.env.scope.names.lookup y.1=_∨X.env.scope.names.lookup y.1=_
  rw[ho]
  exact z.elim (fun q=>.inl (of_decide_eq_true q)) fun q=>.inr (of_decide_eq_true q)
 ·have hk:k < F.length:=(List.getElem?_eq_some_iff.mp e).1
  have q:=List.all_eq_true.mp h6 k (List.mem_range.mpr hk)
  rw[e,WD] at q
  obtain⟨q1,q2⟩:=q
  have q1:(cap[k]?.bind fun i=>oN[i]?)=some x:=by
   rw[ZD] at q1
   rcases q1 with z | z
   ·exact absurd (of_decide_eq_true z) (by simp)
   ·exact of_decide_eq_true z
  have q2:sc.names.lookup x=some .free:=of_decide_eq_true q2
  cases hc:cap[k]? with
  | none=>rw[hc] at q1; cases q1
  | some i =>
   rw[hc] at q1
   exact⟨i,rfl,by rw[hN]; exact q1,q2⟩
theorem Lw {X:Cx} {scope:Yg} {cl:List (V9 × Addr)} {C:Addr} {x0:V9} {N:List V9} {s:Vc} {H:Hp} {fp:List Addr} (h:N.Nodup):(dj X scope cl C x0 N s H fp).N.Nodup:=h
end L2
namespace L2
open PySem PySem.Spec PyProof.Rows
section
variable {X:Cx}
end
end L2
namespace L2
open PySem PySem.Spec PyProof.Rows
section
variable {X:Cx}
end
end L2
namespace L2
open PySem PySem.Spec PyProof.Rows
section
variable {X:Cx} {CX:CXT} {k:Nat} {f C:Addr} {fd:X5} {ps:List V9} {sp:Sp} {dvs:List V} {ds:List Value} {E:XK} {c m:V9} {p pos apos:Zf} {e:Expr} {es:List Expr} {t:TA} {mc:Value}
end
end L2
namespace L2
open PySem PySem.Spec PyProof.Rows
section
variable {P:Vy} {w:V3} {A:V0} {E:Value->Vc->Prop} {hp:Wb} {g:Array abQ} {d:Drawn} {tk:Nat} {os:OsState}
variable {nm q:V9} {C N:Addr} {bs bm:List Value} {hdct:Bool} {sn:List V9} {sub:List Value} {ab:Bool} {col:Option Bool} {dd:Option Addr} {k0 k1 k2 k3 k5:Option Value} {newId:String}
end
end L2
namespace L2
open PySem PySem.Spec PyProof.Rows
section
variable {P:Vy} {w:V3} {A:V0} {hp:Wb} {g:Array abQ} {d:Drawn} {tk:Nat} {os:OsState}
variable {nm q:V9} {C N:Addr} {bs bm:List Value} {hdct:Bool} {sn:List V9} {sub:List Value} {ab:Bool} {col:Option Bool} {dd:Option Addr} {k0 k1 k2 k3 k5:Option Value}
end
end L2
namespace L2
open PySem PySem.Spec PyProof.Rows
section
variable {P:Vy} {w:V3} {A:V0} {E:Value->Vc->Prop} {K:VB} {s:Vc}
variable {nm q:V9} {C N x t:Addr} {bs bm:List Value} {hdct:Bool} {sn:List V9} {sub:List Value} {ab:Bool} {col:Option Bool} {dd:Option Addr} {k0 k1 k2 k3 k5:Option Value} {newId:String}
end
end L2
namespace L2
open PySem PySem.Spec PyProof.Rows
section
variable {X:Cx} {p pos apos:Zf} {e:Expr} {es:List Expr} {t:TA} {f C:Addr}
end
end L2
namespace L2
open PySem PySem.Spec PyProof.Rows
section
variable {X:Cx} {pos pos':Zf} {o value:Expr} {ta tv:TE} {f:V9}
end
end L2
namespace L2
open PySem PySem.Spec PyProof.Rows
section
variable {M:Model} {A:V0} {E:Value->Vc->Prop} {env:Env}
end
section
variable {X:Cx} {CX:CXT} {k:Nat} {f C:Addr} {fd:X5} {ps:List V9} {sp:Sp} {c n:V9} {p pos:Zf} {e:Expr} {te:TE} {E:XK}
end
end L2
namespace L2
open PySem PySem.Spec PyProof.Rows
section
variable {M:Model} {A:V0} {E:Value->Vc->Prop} {s:Vc} {B:Wb} {env:Env} {outer:List Env} {L x C dx:Addr} {Q:Unit->Vc->Prop}
end
end L2
namespace L2
open PySem PySem.Spec PyProof.Rows
def XL (P:Vy) (w:V3):CXT:=fun outer H s E e s'=>∃ (x C dx:Addr) (H':Hp) (B:Wb),e = .ref x/\Lie P w outer H s x C dx H' B s'/\E (.ref C) (some dx) H'
def off (H:Hp) (x:Addr):Hp:=fun b=>if b=x then none else H b
section
variable {P:Vy} {w:V3} {K:VB} {mg:V9->Option Value} {base:Wb} {N:List V9} {qual:V9} {scope:Yg} {f:Addr} {cd:Value} {A:V0} {outer:List Env} {s₀:Vc} {H₀:Hp} {E:XK}
end
end L2
namespace L2
open PySem PySem.Spec PyProof.Rows
section
variable {P:Vy} {w:V3} {K:VB} {mg:V9->Option Value} {base:Wb} {N:List V9} {qual:V9} {scope:Yg} {f:Addr} {cd:Value} {A:V0} {outer:List Env} {s₀:Vc} {H₀:Hp} {E:XK}
end
end L2
namespace L2
open PySem PySem.Spec PyProof.Rows
section
variable {X:Cx} {pins:List (Addr × Yb)} {σ:St} {H H':Hp} {s s':Vc} {x C dx:Addr} {B:Wb}
end
end L2
namespace L2
open PySem PySem.Spec PyProof.Rows
section
variable {M:Model} {A:V0} {E:Value->Vc->Prop} {K:VB} {s:Vc} {C G x dx:Addr} {f:V9} {vs:Array Value} {sl:Array (Option Value)}
end
section
variable {prog:Vy} {w:V3} {A:V0} {E:Value->Vc->Prop} {K:VB} {s:Vc} {C G x:Addr} {ox:Yb} {od:Option Yb} {f:V9} {expr:Bool} {v:Value}
end
section
variable {X:Cx} {e:Expr} {f:V9} {pos:Zf} {ta:TE}
end
section
variable {X:Cx} {pins:List (Addr × Yb)} {σ:St} {H H':Hp} {s s':Vc} {x C G dx:Addr} {B:Wb} {c n f:V9} {p p1 p2 p3 p4 pos:Zf} {k:Nat} {i:Nat} {D:Ends} {fs:List (V9 × V)} {v:V}
end
end L2
namespace L2
open PySem PySem.Spec PyProof.Rows
section
variable {X:Cx} {pins ps qs:List (Addr × Yb)} {σ:St} {H:Hp} {s:Vc} {E:Value->Vc->Prop}
end
section
variable {X:Cx} {G:Addr} {c n f:V9} {p p1 p2 p3 p4 pos pos':Zf} {k:Nat} {body:List Stmt} {t:XK->TS}
end
end L2
namespace L2
open PySem PySem.Spec PyProof.Rows
end L2
namespace L2
open PySem PySem.Spec PyProof.Rows
section
variable {CX:CXT} {P:Vy} {w:V3} {K:VB} {mg:V9->Option Value} {base:Wb} {k:Nat}
end
section
variable {X:Cx} {CX:CXT} {k:Nat} {f:Addr} {sp:Hp->VK->XK->Prop} {E:XK} {x:V9} {p pos:Zf} {te:TE}
end
end L2
namespace L2
open PySem PySem.Spec PyProof.Rows
section
variable {X:Cx} {pins:List (Addr × Yb)} {σ:St} {H:Hp} {s:Vc} {c P:Addr} {params:Arguments} {body:Expr} {scope:Yg} {lpos:Zf} {E:Value->Vc->Prop} {Q:Value->Vc->Prop}
end
end L2
namespace L2
open PySem PySem.Spec PyProof.Rows
section
variable {X:Cx} {c P fW:Addr} {x qual n:V9} {st:Stmt} {fd:X5} {N NL:List V9} {cap:List Nat} {k:Nat} {params:Arguments} {body:Expr} {scope:Yg} {lpos p pos:Zf} {te:XK->TE} {tw:Addr->(Hp->VK->XK->Prop)->VK->Hp->Prop}
end
end L2
namespace L2
open PySem PySem.Spec PyProof.Rows
end L2
namespace L2
open PySem PySem.Spec PyProof.Rows
section
variable {X:Cx} {k j:Nat} {x:V9} {ps:List V9} {sp:Sp} {p pos:Zf} {e:Expr} {es:List Expr} {t:TA} {E:XK}
end
section
variable {P:Vy} {w:V3} {K:VB} {mg:V9->Option Value} {base:Wb}
end
end L2
namespace L2
open PySem PySem.Spec PyProof.Rows
end L2
namespace L2
open PySem PySem.Spec PyProof.Rows
end L2
namespace L2
open PySem PySem.Spec PyProof.Rows
section
variable {prog:Vy} {w:V3} {A:V0} {R:aa8->Vc->Prop} {E:Value->Vc->Prop} {s:Vc}
end
section
variable {X:Cx} {k:Nat}
end
end L2
namespace L2
open PySem PySem.Spec PyProof.Rows PySem.W
section
variable {prog:Vy} {w:V3} {A:V0} {E:Value->Vc->Prop} {κ:Z4} {it:Array Keyed} {s:Vc}
end
theorem G3:∀ (l:List (Addr × List Int)) (us:List Value),Vals (l.map fun p=>V.ref p.1) us->us=l.map fun p=>V4 p.1
 | [],_,z=>by cases z; rfl
 | p::l,_,z=>by
  cases z with
  | cons e t =>
   cases e
   rw[G3 l _ t]
   rfl
section
variable {X:Cx}
end
end L2
namespace L2
open PySem PySem.Spec PyProof.Rows
section
variable {X:Cx} {k:Nat}
end
end L2
namespace L2
open PySem PySem.Spec PyProof.Rows
end L2
namespace L2
open PySem PySem.Spec PyProof.Rows
section
variable {prog:Vy} {w:V3} {A:V0} {R:aa8->Vc->Prop} {E:Value->Vc->Prop} {s:Vc}
end
section
variable {X:Cx}
end
end L2
namespace L2
open PySem PySem.W PyProof.Rows
def im (it:Array Keyed) (l:List Nat):Array Keyed:=(l.map (kas_item it)).toArray
section
variable (prog:Vy) (w:V3) (A:V0) (E:Value->Vc->Prop) (κ:Z4) (it:Array Keyed) (s:Vc)
end
section
variable {prog:Vy} {w:V3} {A:V0} {E:Value->Vc->Prop} {κ:Z4} {it:Array Keyed} {s:Vc}
end
section
variable (o:Nat->Nat->Bool) (N:Nat)
end
section
variable {prog:Vy} {w:V3} {A:V0} {E:Value->Vc->Prop} {κ:Z4} {it:Array Keyed} {s:Vc} {o:Nat->Nat->Bool} {N:Nat}
end
section
variable {prog:Vy} {w:V3} {A:V0} {E:Value->Vc->Prop} {κ:Z4} {it:Array Keyed} {s:Vc} {o:Nat->Nat->Bool} {N:Nat}
end
section
variable {prog:Vy} {w:V3} {A:V0} {E:Value->Vc->Prop} {κ:Z4} {it:Array Keyed} {s:Vc} {o:Nat->Nat->Bool} {N:Nat}
end
def dC:Nat->List (List Nat)
 | 0=>[[]]
 | n+1=>dC n++(dC n).map (·++[n])
end L2
namespace L2
open PySem PySem.Spec PyProof.Rows PySem.W PySem.SeqAt
open AutoSeq1 (wpAny_loadPart')
open MeetsSeq MeetsSeq2 MeetsSeq3
theorem mQ:∀ {vs:List Value} {ns:List Int} {i:Nat} {n:Int},Ww vs ns->ns[i]? = some n->∃ t,vs[i]? = some (.int n t)
 | _,_,i,_,.nil,h=>by simp at h
 | _,_,0,_,.cons m t r,h=>by
  cases h
  exact⟨t,rfl⟩
 | _,_,i+1,n,.cons m t r,h=>by
  obtain⟨t',e⟩:=mQ (i:=i) r (by simpa using h)
  exact⟨t',by simpa using e⟩
section
variable {prog:Vy} {w:V3} {A:V0} {E:Value->Vc->Prop} {s:Vc}
def u0 (h h':Wb) (a:Addr):Prop:=∀ b o,b≠a->h.get? b=some o->h'.get? b=some o
theorem jC:∀ ns:List Int,HT.lexLt ns ns=false
 | []=>rfl
 | a::r=>by rw[HT.jE,if_pos rfl]; exact jC r
end
section
variable {X:Cx} {k:Nat}
theorem Fw {ps:List (Addr × List Int)}:∀ pm:List Nat,(∀ i∈pm,i < ps.length)->Vals (pm.map fun i=>V.ref (ps.getD i (0,[])).1) (pm.map fun i=>(ps.map fun p=>V4 p.1).getD i We)
 | [],_=>.nil
 | i::pm,h=>by
  have hi:=h i Vj
  refine .cons ?_ (Fw pm fun j hj=>h j (Vp _ hj))
  show (ps.map fun p=>V4 p.1).getD i We = .ref (ps.getD i (0,[])).1
  simp [hi]
end
end L2
namespace L2
open PySem PySem.Spec PyProof.Rows
structure Qw (z p q i1 i2 i3 l1 l2 l3:Addr):Prop where
 pz:p≠z
 qz:q≠z
 az:i1≠z
 bz:i2≠z
 cz:i3≠z
 pq:p≠q
 pa:p≠i1
 pb:p≠i2
 pc:p≠i3
 qa:q≠i1
 qb:q≠i2
 qc:q≠i3
 ab:i1≠i2
 ac:i1≠i3
 bc:i2≠i3
 xz:l1≠z
 yz:l2≠z
 vz:l3≠z
 xq:l1≠q
 yq:l2≠q
 vq:l3≠q
 ya:l2≠i1
 va:l3≠i1
 vb:l3≠i2
theorem KR {n c d e:Nat} (hc:c < n) (hd:d < n) (he:e < n):Qw (n+5) (n+3) (n+4) n (n+1) (n+2) c d e:=by
 constructor <;> (refine (fun (h:¬ @Eq Nat _ _)=>h) ?_) <;> lia
abbrev jf (h:Wb) (p:Addr) (a b c:Value):Prop:=h.get? p=some { cls:=.type "tuple",data:=.seq #[a,b,c] }
theorem rN (a b c:Value):checkTypeCall "zip" ⟨[a,b,c],[]⟩=pure ():=by kernel_rfl
theorem tO (a b c:Value):ab0 "zip.__new__" ⟨[.type "zip",a,b,c],[]⟩=pure ():=by kernel_rfl
theorem lJ (a b c d:Value):aab "object.__init__" ⟨[a,b,c,d],[]⟩:=by
 have e:=aaC (id:="object.__init__") (n:=['_','_','t','i','n','i','_','_']) (o:=['t','c','e','j','b','o']) (by kernel_rfl) F.owner_object
 unfold aab
 rw[e]
 kernel_rfl
section
variable {prog:Vy} {w:V3} {A:V0} {E:Value->Vc->Prop} {s:Vc}
theorem dB {T:Addr} {a b c x:Value} {k:Nat} {Q:Unit->Vc->Prop} (hT:jf s.heap T a b c)
  (h:∀ h',h'.get? T=some { cls:=.type "tuple",data:=.seq ((#[a,b,c]:Array Value).setIfInBounds k x) }->Xu T s.heap h'->Q () { s with heap:=h' }) :
  Vk (Vs prog w) A (abU T (·.setIfInBounds k x)) Q E s:=by
 refine Zw hT rfl (h _ ?_ (WM ..))
 rw[Wu _ hT rfl]
 simp [Xa]
theorem Pk {z p q i1 i2 i3 l1 l2 l3:Addr} {k:Nat} {xs ys vs:Array Value} {x y v a b c:Value} {Q:Option Value->Vc->Prop} (D:Qw z p q i1 i2 i3 l1 l2 l3)
  (hz:YW s.heap z p q .none) (hp:jf s.heap p (.ref i1) (.ref i2) (.ref i3)) (hq:jf s.heap q a b c) (j1:s.heap.IsListIter i1 l1 k) (j2:s.heap.IsTupleIter i2 l2 k) (j3:s.heap.IsTupleIter i3 l3 k) (t1:s.heap.IsList l1 xs) (t2:s.heap.IsTuple l2 ys) (t3:s.heap.IsTuple l3 vs)
  (hx:xs[k]? = some x) (hy:ys[k]? = some y) (hv:vs[k]? = some v)
  (hQ:∀ h',YW h' z p q (Xe s.heap.objs.size)->jf h' q x y v->h'.IsListIter i1 l1 (k+1)->h'.IsTupleIter i2 l2 (k+1)->h'.IsTupleIter i3 l3 (k+1)->jf h' s.heap.objs.size x y v->h'.objs.size=s.heap.objs.size+1 →
   (∀ c o,c≠z->c≠q->c≠i1->c≠i2->c≠i3->s.heap.get? c=some o->h'.get? c=some o)->Q (some (.ref s.heap.objs.size)) { s with heap:=h' }):Vk (Vs prog w) A (X3 (.ref z)) Q E s:=by
 have hT:s.TypeIs (.ref z) "zip":=⟨_,hz,rfl⟩; unfold X3
 refine U9 (Ye (Wq (name:=XD "__next__") hT Yq (Wm Yq hT aaP ?_ (aaA _))))
 show Vk _ _ (abp (.ref z) 2 >>= _) _ _ _; refine U9 (Wi hz rfl (x:=.bool false) rfl ?_)
 show Vk _ _ (abp (.ref z) 3 >>= _) _ _ _; refine U9 (Wi hz rfl (x:=.ref p) rfl ?_); refine U9 (Wz hp rfl ?_)
 show Vk _ _ (Ws (.ref z) >>= _) _ _ _; refine U9 ?_; unfold Ws
 refine U9 (Wi hz rfl (x:=.none) rfl (Vd ?_)); simp only[if_true]; refine U9 (Ys ?_); refine U9 (Wi hz rfl (x:=.ref q) rfl ?_)
 refine U9 (Xd hz (by simp) fun h1 z1 b1=>?_); replace z1:YW h1 z p q .ellipsis:=z1
 refine U9 ?_; simp only[aaK,aa0,Zy,Zc]; refine U9 (U9 (YX ?_))
 show Vk _ _ (Wc (.ref i1) >>= _) _ _ _
 refine U9 (wpAny_nextOf_list_item (di j1 b1 D.az) (nA t1 b1 D.xz) hx fun h2 u1 b2=>Vd ?_)
 have q2:jf h2 q a b c:=(b2.2 _ D.qa).trans ((b1.2 _ D.qz).trans hq); refine U9 (Wz q2 rfl ?_); refine U9 (dB q2 fun h3 q3 b3=>?_)
 replace q3:jf h3 q x b c:=q3; refine U9 (YJ (Vd ?_)); refine U9 (U9 (YX ?_))
 show Vk _ _ (Wc (.ref i2) >>= _) _ _ _
 refine U9 (qm (dq (dq (dq j2 b1 D.bz) b2 D.ab.symm) b3 D.qb.symm) (je (je (je t2 b1 D.yz) b2 D.ya) b3 D.yq) hy fun h4 u2 b4=>Vd ?_)
 have q4:jf h4 q x b c:=(b4.2 _ D.qb).trans q3; refine U9 (Wz q4 rfl ?_); refine U9 (dB q4 fun h5 q5 b5=>?_)
 replace q5:jf h5 q x y c:=q5; refine U9 (YJ (Vd ?_)); refine U9 (U9 (YX ?_))
 show Vk _ _ (Wc (.ref i3) >>= _) _ _ _
 have j35:h5.IsTupleIter i3 l3 k:=dq (dq (dq (dq (dq j3 b1 D.cz) b2 D.ac.symm) b3 D.qc.symm) b4 D.bc.symm) b5 D.qc.symm
 have t35:h5.IsTuple l3 vs:=je (je (je (je (je t3 b1 D.vz) b2 D.va) b3 D.vq) b4 D.vb) b5 D.vq
 refine U9 (qm j35 t35 hv fun h6 u3 b6=>Vd ?_)
 have q6:jf h6 q x y c:=(b6.2 _ D.qc).trans q5; refine U9 (Wz q6 rfl ?_); refine U9 (dB q6 fun h7 q7 b7=>?_)
 replace q7:jf h7 q x y v:=q7; refine U9 (YJ (Vd (Vd ?_))); refine U9 (Wz q7 rfl ?_); refine U9 (wpAny_newTuple ?_)
 have sz:h7.objs.size=s.heap.objs.size:=by rw[b7.1,b6.1,b5.1,b4.1,b3.1,b2.1,b1.1]
 have z7:YW h7 z p q .ellipsis:=(b7.2 _ D.qz.symm).trans ((b6.2 _ D.cz.symm).trans ((b5.2 _ D.qz.symm).trans ((b4.2 _ D.bz.symm).trans ((b3.2 _ D.qz.symm).trans ((b2.2 _ D.az.symm).trans z1)))))
 have kp:∀ c o,c≠z->c≠q->c≠i1->c≠i2->c≠i3->s.heap.get? c=some o->h7.get? c=some o:=fun c o c1 c2 c3 c4 c5 e=>(b7.2 c c2).trans ((b6.2 c c5).trans ((b5.2 c c2).trans ((b4.2 c c4).trans ((b3.2 c c2).trans ((b2.2 c c3).trans ((b1.2 c c1).trans e))))))
 have u17:h7.IsListIter i1 l1 (k+1):=di (di (di (di (di u1 b3 D.qa.symm) b4 D.ab) b5 D.qa.symm) b6 D.ac) b7 D.qa.symm
 have u27:h7.IsTupleIter i2 l2 (k+1):=dq (dq (dq u2 b5 D.qb.symm) b6 D.bc) b7 D.qb.symm
 have u37:h7.IsTupleIter i3 l3 (k+1):=dq u3 b7 D.qc.symm
 have zl:z < h7.objs.size:=Vo z7
 show Vk _ _ (X8 (.ref z) (.ref h7.objs.size) >>= _) _ _ _; refine U9 ?_; unfold X8
 have z8:YW (h7.push { cls:=.type "tuple",data:=.seq #[x,y,v] }) z p q .ellipsis:=Va _ z7
 refine U9 (Xd z8 (by simp) fun h9 z9 b9=>?_); replace z9:YW h9 z p q (Xe h7.objs.size):=z9
 refine Xd z9 (by simp) fun h10 z10 b10=>?_; replace z10:YW h10 z p q (Xe h7.objs.size):=z10
 have up:∀ c o,c≠z->h7.get? c=some o->h10.get? c=some o:=fun c o c1 e=>(b10.2 c c1).trans ((b9.2 c c1).trans (Va _ e))
 have t10:jf h10 h7.objs.size x y v:=(b10.2 _ (W8 zl)).trans ((b9.2 _ (W8 zl)).trans (Vh _ rfl))
 have s10:h10.objs.size=h7.objs.size+1:=by rw[b10.1,b9.1,V7]
 rw[sz] at z10 t10 s10; refine Vd ⟨_,rfl,?_⟩
 show Vk _ _ _ _ _ _
 rw[sz]
 exact Vd (hQ h10 z10 (up _ _ D.qz q7) (by obtain⟨o,e,r⟩:=u17; exact⟨o,up _ o D.az e,r⟩) (by obtain⟨o,e,r⟩:=u27; exact⟨o,up _ o D.bz e,r⟩) (by obtain⟨o,e,r⟩:=u37; exact⟨o,up _ o D.cz e,r⟩) t10 s10 fun c o c1 c2 c3 c4 c5 e=>up c o c1 (kp c o c1 c2 c3 c4 c5 e))
theorem PN {z p q i1 i2 i3 l1 l2 l3:Addr} {k:Nat} {xs:Array Value} {a b c:Value} {Q:Fin->Vc->Prop} (hh:A.handled=none) (D:Qw z p q i1 i2 i3 l1 l2 l3)
  (hz:YW s.heap z p q .none) (hp:jf s.heap p (.ref i1) (.ref i2) (.ref i3)) (j1:s.heap.IsListIter i1 l1 k) (t1:s.heap.IsList l1 xs)
  (hx:xs[k]? = none) (hE:∀ h' e,(∀ c o,c≠z->c≠q->c≠i1->c≠i2->c≠i3->s.heap.get? c=some o->h'.get? c=some o)->(∃ o,h'.get? e=some o/\o.cls = .type "StopIteration")->E (.ref e) { s with heap:=h' }) :
  Vk (Vs prog w) A (XS.«zip.__next__» ⟨[.ref z],[]⟩) Q E s:=by
 show Vk _ _ (abp (.ref z) 2 >>= _) _ _ _; refine U9 (Wi hz rfl (x:=.bool false) rfl ?_)
 show Vk _ _ (abp (.ref z) 3 >>= _) _ _ _; refine U9 (Wi hz rfl (x:=.ref p) rfl ?_); refine U9 (Wz hp rfl ?_)
 show Vk _ _ (Ws (.ref z) >>= _) _ _ _; refine U9 ?_; unfold Ws
 refine U9 (Wi hz rfl (x:=.none) rfl (Vd ?_)); simp only[if_true]; refine U9 (Ys ?_); refine U9 (Wi hz rfl (x:=.ref q) rfl ?_)
 refine U9 (Xd hz (by simp) fun h1 z1 b1=>?_); replace z1:YW h1 z p q .ellipsis:=z1
 refine U9 ?_; simp only[aaK,aa0,Zy,Zc]; refine U9 (U9 (YX ?_))
 show Vk _ _ (Wc (.ref i1) >>= _) _ _ _
 refine U9 (wpAny_nextOf_list_end hh (di j1 b1 D.az) (nA t1 b1 D.xz) hx fun h2 e b2 he=>?_)
 obtain⟨oe,ho,hc⟩:=he
 have z2:YW h2 z p q .ellipsis:=b2 _ _ D.az.symm z1
 have ez:e≠z:=fun u=>by subst u; rw[z2] at ho; cases ho; simp at hc
 exact Xd z2 (by simp) fun h3 _ b3=>hE h3 e (fun c o c1 _ c3 _ _ u=>(b3.2 c c1).trans (b2 _ _ c3 ((b1.2 c c1).trans u))) ⟨oe,(b3.2 e ez).trans ho,hc⟩
theorem QZ {z p q i1 i2 i3 l1 l2 l3:Addr} {k:Nat} {xs:Array Value} {Q:Option Value->Vc->Prop} (hh:A.handled=none) (D:Qw z p q i1 i2 i3 l1 l2 l3)
  (hz:YW s.heap z p q .none) (hp:jf s.heap p (.ref i1) (.ref i2) (.ref i3)) (j1:s.heap.IsListIter i1 l1 k) (t1:s.heap.IsList l1 xs)
  (hx:xs[k]? = none) (hQ:∀ h',(∀ c o,c≠z->c≠q->c≠i1->c≠i2->c≠i3->s.heap.get? c=some o->h'.get? c=some o)->Q none { s with heap:=h' }):Vk (Vs prog w) A (X3 (.ref z)) Q E s:=by
 have hT:s.TypeIs (.ref z) "zip":=⟨_,hz,rfl⟩; unfold X3
 refine U9 (Ye (Wq (name:=XD "__next__") hT Yq (Wm Yq hT aaP (PN (a:=.none) (b:=.none) (c:=.none) hh D hz hp j1 t1 hx fun h' e kp he=>?_) (aaA _))))
 obtain⟨o,ho,hc⟩:=he
 exact U9 (Yy (T:="StopIteration") (b:=true) ⟨o,ho,hc⟩ aam (Vd (hQ _ kp)))
abbrev t3A (h:Wb) (l:Addr):Wb:=h.push { cls:=.type "list_iterator",data:=.fields #[.ref l,.int 0 0] }
abbrev t3B (h:Wb) (l t:Addr):Wb:=zA (t3A h l) t
abbrev t3C (h:Wb) (l t u:Addr):Wb:=zA (t3B h l t) u
abbrev t3D (h:Wb) (l t u:Addr):Wb:=(t3C h l t u).push { cls:=.type "tuple",data:=.seq #[.ref h.objs.size,.ref (t3A h l).objs.size,.ref (t3B h l t).objs.size] }
abbrev t3E (h:Wb) (l t u:Addr):Wb:=(t3D h l t u).push { cls:=.type "tuple",data:=.seq #[.none,.none,.none] }
abbrev t3F (h:Wb) (l t u:Addr):Wb:=(t3E h l t u).push { cls:=.type "zip",data:=.fields #[.none,.bool false,.bool false,.ref (t3C h l t u).objs.size,.ref (t3D h l t u).objs.size] }
theorem QR (l1 l2 l3:Addr) (xs ys vs:Array Value) :
  Meets (XS.«zip.__new__» ⟨[.type "zip",.ref l1,.ref l2,.ref l3],[]⟩) (fun _ R s=>s.heap.IsList l1 xs/\s.heap.IsTuple l2 ys/\s.heap.IsTuple l3 vs/\R (.ok (.ret (.ref (t3E s.heap l1 l2 l3).objs.size))) { s with heap:=t3F s.heap l1 l2 l3 }) :=
 .of_wp fun prog w A R s h=>by
  obtain⟨hp,g,d,tk,os⟩:=s; obtain⟨a1,a2,a3,h⟩:=h; have hsub:=sub_zip
  have T1:Heap.IsList (aax ⟨hp,g,d,tk,os⟩) l1 xs:=a1
  have T2:abP (aax ⟨hp.push { cls:=.type "list_iterator",data:=.fields #[.ref l1,.int 0 0] },g,d,tk,os⟩) l2 ys:=by
   obtain⟨o,e,r⟩:=a2
   exact⟨o,Va _ e,r⟩
  have T3:abP (aax ⟨(hp.push { cls:=.type "list_iterator",data:=.fields #[.ref l1,.int 0 0] }).push { cls:=.type "tuple_iterator",data:=.fields #[.ref l2,.int 0 0] },g,d,tk,os⟩) l3 vs:=by
   obtain⟨o,e,r⟩:=a3
   exact⟨o,Va _ (Va _ e),r⟩
  wp_walk using Y5 T1,YK T2,YK T3
  exact⟨_,rfl,h⟩
theorem Og {l1 l2 l3:Addr} {xs ys vs:Array Value} {Q:Value->Vc->Prop} (t1:s.heap.IsList l1 xs) (t2:s.heap.IsTuple l2 ys) (t3:s.heap.IsTuple l3 vs)
  (h:∀ h',YW h' (s.heap.objs.size+5) (s.heap.objs.size+3) (s.heap.objs.size+4) .none->jf h' (s.heap.objs.size+3) (.ref s.heap.objs.size) (.ref (s.heap.objs.size+1)) (.ref (s.heap.objs.size+2))->jf h' (s.heap.objs.size+4) .none .none .none →
   h'.IsListIter s.heap.objs.size l1 0->h'.IsTupleIter (s.heap.objs.size+1) l2 0->h'.IsTupleIter (s.heap.objs.size+2) l3 0->(∀ c o,s.heap.get? c=some o->h'.get? c=some o)->Q (.ref (s.heap.objs.size+5)) { s with heap:=h' }) :
  Vk (Vs prog w) A (call (.type "zip") [.ref l1,.ref l2,.ref l3]) Q E s:=by
 refine abF F.called_zip (by decide) (rN _ _ _) (tO _ _ _) (fun obj=>lJ obj _ _ _) F.entry_zip_new (QR l1 l2 l3 xs ys vs) ⟨t1,t2,t3,?_⟩
 have y1:(t3A s.heap l1).objs.size=s.heap.objs.size+1:=V7 ..
 have y2:(t3B s.heap l1 l2).objs.size=s.heap.objs.size+2:=by rw[V7,y1]
 have y3:(t3C s.heap l1 l2 l3).objs.size=s.heap.objs.size+3:=by rw[V7,y2]
 have y4:(t3D s.heap l1 l2 l3).objs.size=s.heap.objs.size+4:=by rw[V7,y3]
 have y5:(t3E s.heap l1 l2 l3).objs.size=s.heap.objs.size+5:=by rw[V7,y4]
 have w6:(t3F s.heap l1 l2 l3).get? (t3E s.heap l1 l2 l3).objs.size=some _:=Vh _ rfl
 have w5:(t3F s.heap l1 l2 l3).get? (t3D s.heap l1 l2 l3).objs.size=some _:=Va _ (Vh _ rfl)
 have w4:(t3F s.heap l1 l2 l3).get? (t3C s.heap l1 l2 l3).objs.size=some _:=Va _ (Va _ (Vh _ rfl))
 have w3:(t3F s.heap l1 l2 l3).get? (t3B s.heap l1 l2).objs.size=some _:=Va _ (Va _ (Va _ (Vh _ rfl)))
 have w2:(t3F s.heap l1 l2 l3).get? (t3A s.heap l1).objs.size=some _:=Va _ (Va _ (Va _ (Va _ (Vh _ rfl))))
 have w1:(t3F s.heap l1 l2 l3).get? s.heap.objs.size=some _:=Va _ (Va _ (Va _ (Va _ (Va _ (Vh _ rfl)))))
 show _/\_
 rw[y3,y4,y5] at w6; rw[y4] at w5; rw[y1,y2,y3] at w4; rw[y2] at w3; rw[y1] at w2; rw[y5]
 exact⟨⟨_,w6,rfl⟩,h _ w6 w4 w5 ⟨_,w1,rfl,rfl⟩ ⟨_,w2,rfl,rfl⟩ ⟨_,w3,rfl,rfl⟩ fun c o u=>Va _ (Va _ (Va _ (Va _ (Va _ (Va _ u)))))⟩
end
def It3 (K : VB) (a b c : Addr) : It :=
  ⟨fun i H => ∃ xs ys vs x y v, SqL K H a xs ∧ SqT K H b ys ∧ SqT K H c vs ∧ xs[i]? = some x ∧ ys[i]? = some y ∧ vs[i]? = some v,
   fun i H w H' => ∃ p x y v, H p = none ∧ w = .ref p ∧ (∀ xs, SqL K H a xs → xs[i]? = some x) ∧ (∀ ys, SqT K H b ys → ys[i]? = some y) ∧ (∀ vs, SqT K H c vs → vs[i]? = some v) ∧ H' = upd H p (.tup [x, y, v]),
   fun i H => ∃ xs, SqL K H a xs ∧ xs.length ≤ i⟩
def tn3 (z p q i1 i2 i3 a b c:Addr) (i:Nat) (h:Wb):Prop:=YW h z p q .none/\jf h p (.ref i1) (.ref i2) (.ref i3)/\(∃ u v w,jf h q u v w)/\h.IsListIter i1 a i/\h.IsTupleIter i2 b i/\h.IsTupleIter i3 c i
theorem O1 {P:Vy} {w:V3} {K:VB} {elts:List Expr} {x1} {pos:Zf} {z p q i1 i2 i3 a b c:Addr} (D:Qw z p q i1 i2 i3 a b c) :
  Turn P w K (.Tuple elts x1 pos) (It3 K a b c) [z,p,q,i1,i2,i3] z (tn3 z p q i1 i2 i3 a b c) where
 mem:=by simp
 obj:=fun i h st e he=>by
  obtain⟨hz,hp,⟨u,v,t,hq⟩,⟨o1,e1,_,d1⟩,⟨o2,e2,_,d2⟩,⟨o3,e3,_,d3⟩⟩:=st
  simp only[Wy,Xh,or_false] at he
  rcases he with rfl | rfl | rfl | rfl | rfl | rfl
  ·exact⟨_,hz,fun v z=>by cases z⟩
  ·exact⟨_,hp,fun v z=>by cases z⟩
  ·exact⟨_,hq,fun v z=>by cases z⟩
  ·exact⟨_,e1,fun v z=>by rw[d1] at z; cases z⟩
  ·exact⟨_,e2,fun v z=>by rw[d2] at z; cases z⟩
  ·exact⟨_,e3,fun v z=>by rw[d3] at z; cases z⟩
 keep:=fun i h h' st k=>by
  obtain⟨hz,hp,⟨u,v,t,hq⟩,⟨o1,e1,r1⟩,⟨o2,e2,r2⟩,⟨o3,e3,r3⟩⟩:=st
  exact⟨k z (by simp) _ hz,k p (by simp) _ hp,⟨u,v,t,k q (by simp) _ hq⟩,⟨o1,k i1 (by simp) _ e1,r1⟩,⟨o2,k i2 (by simp) _ e2,r2⟩,⟨o3,k i3 (by simp) _ e3,r3⟩⟩
 item:=by
  intro X hP hw hK hc i pins s σ H E I hf st hg
  subst hP hw hK
  obtain⟨xs,ys,vs,x,y,v,hx,hy,hv,ex,ey,ev⟩:=hg
  obtain⟨hz,hp,⟨u1,u2,u3,hq⟩,j1,j2,j3⟩:=st
  obtain⟨its,rv,tp,_⟩:=I.list hx
  obtain⟨its2,rv2,tp2,_⟩:=I.tuple hy
  obtain⟨its3,rv3,tp3,_⟩:=I.tuple hv
  obtain⟨xu,hxu,rx⟩:=rv.get ex
  obtain⟨yu,hyu,ry⟩:=rv2.get ey
  obtain⟨vu,hvu,rw3⟩:=rv3.get ev
  refine Pk D hz hp hq j1 j2 j3 (show s.heap.IsList a its.toArray from tp.isList) (show s.heap.IsTuple b its2.toArray from tp2) (show s.heap.IsTuple c its3.toArray from tp3) (x:=xu) (y:=yu) (v:=vu) (by simpa using hxu) (by simpa using hyu) (by simpa using hvu) fun h' z' q' w1 w2 w3 t' _ kp=>⟨_,rfl,?_⟩
  refine wpAny_letOwnedTupleGo_zip z' fun h2 z2 b2=>?_
  have lt:∀ {c o},s.heap.get? c=some o->c < s.heap.objs.size:=fun e=>Vo e
  have zne:s.heap.objs.size≠z:=W8 (lt hz)
  have hfr:H s.heap.objs.size=none:=I.fresh
  have I1:Inv X pins σ (upd H s.heap.objs.size (.tup [x,y,v])) { s with heap:=s.heap.push { cls:=.type "tuple",data:=.seq #[xu,yu,vu] } } :=
   I.laid (t':=s.toks) (fun _ _ e=>Va _ e) (Vg _) ⟨by show 3<=sizeLine; decide,[xu,yu,vu],.cons rx (.cons ry (.cons rw3 .nil)),⟨_,Vh _ rfl,rfl,_,rfl⟩⟩
  have blt:∀ c∈[z,p,q,i1,i2,i3],c < s.heap.objs.size:=fun c hc=>by
   obtain⟨_,e1,_⟩:=j1
   obtain⟨_,e2,_⟩:=j2
   obtain⟨_,e3,_⟩:=j3
   simp only[Wy,Xh,or_false] at hc
   rcases hc with rfl | rfl | rfl | rfl | rfl | rfl
   ·exact lt hz
   ·exact lt hp
   ·exact lt hq
   ·exact lt e1
   ·exact lt e2
   ·exact lt e3
  have ff:∀ c∈[z,p,q,i1,i2,i3],qT X pins (upd H s.heap.objs.size (.tup [x,y,v])) c:=fun c hc=>by
   obtain⟨f0,fr⟩:=hf c hc
   exact⟨by rw[bh (Vx (blt c hc))]; exact f0,fr⟩
  have kk:∀ c o,c ∉ [z,q,i1,i2,i3]->(s.heap.push { cls:=.type "tuple",data:=.seq #[xu,yu,vu] }).get? c=some o->h2.get? c=some o:=fun c o hc e=>by
   have c1:c≠z:=fun h=>hc (by simp [h])
   refine (b2.2 c c1).trans ?_
   rcases Z9 e with⟨ec,eo⟩ | e'
   ·subst ec
    subst eo
    exact t'
   ·exact kp c o c1 (fun h=>hc (by simp [h])) (fun h=>hc (by simp [h])) (fun h=>hc (by simp [h])) (fun h=>hc (by simp [h])) e'
  have I2:Inv X pins σ (upd H s.heap.objs.size (.tup [x,y,v])) { s with heap:=h2 } :=
   Inv.jy (s:={ s with heap:=s.heap.push { cls:=.type "tuple",data:=.seq #[xu,yu,vu] } }) (h':=h2) (t':=s.toks) (ch:=[z,q,i1,i2,i3]) I1 kk fun c hc=>ff c (by
    simp only[Wy] at hc ⊢
    rcases hc with h | h | h | h | h
    ·exact .inl h
    ·exact .inr (.inr (.inl h))
    ·exact .inr (.inr (.inr (.inl h)))
    ·exact .inr (.inr (.inr (.inr (.inl h))))
    ·exact .inr (.inr (.inr (.inr (.inr h)))))
  refine⟨.ref s.heap.objs.size,_,I2,rfl,⟨_,x,y,v,hfr,rfl,fun zs hzs=>?_,fun zs hzs=>?_,fun zs hzs=>?_,rfl⟩,⟨z2,(b2.2 _ D.pz).trans (kp _ _ D.pz D.pq D.pa D.pb D.pc hp),⟨_,_,_,(b2.2 _ D.qz).trans q'⟩,di w1 b2 D.az,dq w2 b2 D.bz,dq w3 b2 D.cz⟩,fun c hc=>(ff c hc).1⟩
  ·rw[I.oA hzs hx]; exact ex
  ·rw[I.gU hzs hy]; exact ey
  ·rw[I.gU hzs hv]; exact ev
 done:=by
  intro X hP hw hK hc i pins s σ H E I hf st hg
  subst hP hw hK
  obtain⟨xs,hx,hend⟩:=hg
  obtain⟨hz,hp,⟨u1,u2,u3,hq⟩,j1,j2,j3⟩:=st
  obtain⟨its,rv,tp,_⟩:=I.list hx
  have l1:=rv.length
  refine QZ (I.ok.hd hc) D hz hp j1 (show s.heap.IsList a its.toArray from tp.isList) (by simp; lia) fun h' kp=>⟨rfl,?_⟩
  exact I.jy (t':=s.toks) (ch:=[z,q,i1,i2,i3]) (fun c o hc e=>kp c o (fun h=>hc (by simp [h])) (fun h=>hc (by simp [h])) (fun h=>hc (by simp [h])) (fun h=>hc (by simp [h])) (fun h=>hc (by simp [h])) e)
   fun c hc=>hf c (by simp only[Wy] at hc ⊢; rcases hc with h | h | h | h | h; exact .inl h; exact .inr (.inr (.inl h)); exact .inr (.inr (.inr (.inl h))); exact .inr (.inr (.inr (.inr (.inl h)))); exact .inr (.inr (.inr (.inr (.inr h)))))
 self:=fun _ _ _ _ _ st h=>aaH st.1 h
def iZ3 (K:VB) (ta:TA):TI:=fun σ H R=>ta σ H fun ws H1=>∃ a b c xs ys vs,ws=[.ref a,.ref b,.ref c]/\SqL K H1 a xs/\SqT K H1 b ys/\SqT K H1 c vs/\R (It3 K a b c) H1
theorem T7 {X:Cx} {elts:List Expr} {x1} {tpos:Zf} {a b c:Expr} {ta:TA} {p pos:Zf} (hg:Gl X "zip") (hm:X.mg "zip" = none) (ha:PA X [a,b,c] ta) (hs:VN [a,b,c] X.env=[(false,Xn a X.env),(false,Xn b X.env),(false,Xn c X.env)]:=by rfl) (hs2:VN [b,c] X.env=[(false,Xn b X.env),(false,Xn c X.env)]:=by rfl) :
  PI X (.Tuple elts x1 tpos) (.Call (.Name "zip" p) [a,b,c] [] pos) (iZ3 X.K ta):=by
 intro pins s σ H R I h
 refine Call_ (gj I hg hm boot_zip (Wv (thn (ha pos pins s σ H _ I h) fun us s1 ⟨vs,H1,I1,r1,q1⟩=>?_) (by rw[hs,hs2]) (by rw[hs2]; rfl)))
 obtain⟨d1,d2,d3,xs,ys,ws,e,hx,hy,hv,q⟩:=q1
 subst e
 cases r1 with
 | cons ru1 r1 =>
 cases r1 with
 | cons ru2 r1 =>
 cases r1 with
 | cons ru3 r1 =>
 cases r1
 cases ru1
 cases ru2
 cases ru3
 obtain⟨its,_,tp,_⟩:=I1.list hx
 obtain⟨its2,_,tp2,_⟩:=I1.tuple hy
 obtain⟨its3,_,tp3,_⟩:=I1.tuple hv
 refine Og (show s1.heap.IsList d1 its.toArray from tp.isList) (show s1.heap.IsTuple d2 its2.toArray from tp2) (show s1.heap.IsTuple d3 its3.toArray from tp3) fun h' z' p' q' j1 j2 j3 kp=>?_
 have lc:d1 < s1.heap.objs.size:=by obtain⟨o,e,_⟩:=tp.isList; exact Vo e
 have ld:d2 < s1.heap.objs.size:=by obtain⟨o,e,_⟩:=tp2; exact Vo e
 have le:d3 < s1.heap.objs.size:=by obtain⟨o,e,_⟩:=tp3; exact Vo e
 have D:Qw (s1.heap.objs.size+5) (s1.heap.objs.size+3) (s1.heap.objs.size+4) s1.heap.objs.size (s1.heap.objs.size+1) (s1.heap.objs.size+2) d1 d2 d3:=KR lc ld le
 refine aaH z' ⟨_,_,_,_,H1,rfl,I1.kept (t':=s1.toks) kp,O1 D,⟨z',p',⟨_,_,_,q'⟩,j1,j2,j3⟩,fun e he=>?_,q⟩
 have hle:s1.heap.objs.size<=e:=by
  simp only[Wy,Xh,or_false] at he
  rcases he with rfl | rfl | rfl | rfl | rfl | rfl <;> lia
 exact I1.Jz hle (I1.hok.fresh hle)
theorem PJ {K:VB} {a b c D:Addr} {xs ys vs:List V} {g:TG} {tt:TT} {te:TE} {H1:Hp} {Q:Hp->Prop} {σ0:St} (hlen:xs.length=ys.length) (hlen2:xs.length=vs.length) (Pv:Nat->List V->St->Hp->Prop) (h0:Pv 0 [] σ0 (upd H1 D (.lst [])))
  (hl:∀ i zs σ H,i<=xs.length->Pv i zs σ H->SqL K H a xs/\SqT K H b ys/\SqT K H c vs/\H D=some (.lst zs))
  (hs:∀ i zs x y v p σ H,xs[i]? = some x->ys[i]? = some y->vs[i]? = some v->H p=none->Pv i zs σ H->g (.ref p) σ (upd H p (.tup [x,y,v])) fun σ3 H3=>tt σ3 H3 fun c H4=>if c=true then te σ3 H4 fun v H5=>H5 D=some (.lst zs)/\zs.length < sizeLine/\Pv (i+1) (zs++[v]) σ3 (upd H5 D (.lst (zs++[v]))) else Pv (i+1) zs σ3 H4)
  (hd:∀ zs σ H,Pv xs.length zs σ H->Q H):gO D σ0 (It3 K a b c) g tt te H1 Q:=by
 refine⟨fun i m zs σ H=>m=xs.length - i/\i<=xs.length/\Pv i zs σ H,⟨xs.length,by simp,VL _,h0⟩,?_⟩
 rintro i m zs σ H ⟨rfl,hi,p⟩
 obtain⟨q1,q2,q3,qD⟩:=hl i zs σ H hi p
 refine⟨qD,?_⟩
 by_cases hlt:i < xs.length
 ·have hlt2:i < ys.length:=by lia
  have hlt3:i < vs.length:=by lia
  refine .inr ⟨⟨xs,ys,vs,xs[i],ys[i],vs[i],q1,q2,q3,by simp [hlt],by simp [hlt2],by simp [hlt3]⟩,Pv (i+1),fun zs' σ' H' p'=>⟨xs.length - (i+1),by lia,rfl,hlt,p'⟩,fun v H' y=>?_⟩
  obtain⟨pp,x,y,v,hp,rfl,hx,hy,hv,rfl⟩:=y
  exact hs i zs x y v pp σ _ (hx xs q1) (hy ys q2) (hv vs q3) hp p
 ·have e:i=xs.length:=by lia
  subst e
  exact .inl ⟨⟨xs,q1,Vg _⟩,hd zs σ H p⟩
end L2
namespace L2
open PySem PySem.Spec PyProof.Rows
section
variable {X:Cx}
def HF (K:VB):R2:=fun x y H Q=>Qi K x y H Q∨∃ (a:Addr) (ns:List Int),x = .ref a/\y = .non/\SqT K H a (ns.map V.int)/\Q (.bl true) H
theorem JW (hu:X.A.units < cLine):OpR X (XQ .NotEq) (HF X.K):=by
 intro pins s σ H x y v u Q I rx ry h
 rcases h with h | ⟨a,ns,rfl,rfl,ha,q⟩
 ·exact Gq hu pins s σ H x y v u Q I rx ry h
 ·cases rx
  cases ry
  obtain⟨its,r1,p1,_⟩:=I.tuple ha
  exact SeqAt.RcNeAt.tuple_none (show s.heap.IsTuple a its.toArray from p1) hu X.prog X.w X.xe _ ⟨.bl true,H,I,rfl,q⟩
end
end L2
namespace L2
open PySem PySem.Spec PyProof.Rows
section
variable {κ:Type} [DecidableEq κ]
def jJ (kvs:List (κ × V)) (k:κ):Option V:=(kvs.find? fun kv=>decide (kv.1=k)).map (·.2)
def putK (kvs:List (κ × V)) (k:κ) (v:V):List (κ × V) :=
 if (kvs.any fun kv=>decide (kv.1=k))=true then kvs.map (fun kv=>if kv.1=k then (kv.1,v) else kv) else kvs++[(k,v)]
theorem Lg {k:κ}:jJ ([]:List (κ × V)) k=none:=rfl
theorem dU {p:κ × V} {r:List (κ × V)} {k:κ} (e:p.1=k):jJ (p::r) k=some p.2:=by simp [jJ,Zz,e]
theorem dw {p:κ × V} {r:List (κ × V)} {k:κ} (e:¬ p.1=k):jJ (p::r) k=jJ r k:=by simp [jJ,Zz,e]
theorem lE (k:κ):∀ kvs:List (κ × V),(kvs.any fun kv=>decide (kv.1=k))=(jJ kvs k).isSome
 | []=>rfl
 | p::r=>by
  rw[Z1]
  by_cases e:p.1=k
  ·simp only[dU e,decide_eq_true e,Bool.true_or,Option.isSome_some]
  ·rw[dw e,decide_eq_false e,aaG]; exact lE k r
theorem Af (k j:κ) (y:V):∀ kvs:List (κ × V),jJ (kvs.map fun kv=>if kv.1=k then (kv.1,y) else kv) j=(jJ kvs j).map fun x=>if j=k then y else x
 | []=>rfl
 | p::r=>by
  have ih:=Af k j y r
  rw[Wa]
  by_cases h:p.1=k
  ·rw[if_pos h]
   by_cases e:p.1=j
   ·rw[dU (p:=(p.1,y)) e,dU e,aaY,if_pos (e.symm.trans h)]
   ·rw[dw (p:=(p.1,y)) e,dw e,ih]
  ·rw[if_neg h]
   by_cases e:p.1=j
   ·rw[dU (p:=p) e,dU e,aaY,if_neg (fun z=>h (e.trans z))]
   ·rw[dw (p:=p) e,dw e,ih]
theorem vY (k j:κ) (y:V):∀ kvs:List (κ × V),jJ kvs k=none->jJ (kvs++[(k,y)]) j=if j=k then some y else jJ kvs j
 | [],_=>by
  by_cases e:k=j
  ·rw[if_pos e.symm]; exact dU (p:=(k,y)) e
  ·rw[if_neg (fun z=>e z.symm)]; exact dw (p:=(k,y)) e
 | p::r,hn=>by
  rw[ab5]
  have hk:¬ p.1=k:=fun z=>by rw[dU z] at hn; cases hn
  rw[dw hk] at hn
  have ih:=vY k j y r hn
  by_cases e:p.1=j
  ·rw[dU e,dU e,if_neg (fun z=>hk (e.trans z))]
  ·rw[dw e,dw e,ih]
theorem Km (kvs:List (κ × V)) (k j:κ) (y:V):jJ (putK kvs k y) j=if j=k then some y else jJ kvs j:=by
 unfold putK
 by_cases a:(kvs.any fun kv=>decide (kv.1=k))=true
 ·rw[if_pos a,Af]
  rw[lE] at a
  by_cases e:j=k
  ·obtain⟨x,hx⟩:=Option.isSome_iff_exists.mp a
   rw[if_pos e,e,hx,aaY,if_pos rfl]
  ·rw[if_neg e]
   cases jJ kvs j with
   | none=>rfl
   | some x=>rw[aaY,if_neg e]
 ·rw[if_neg a]
  refine vY k j y kvs ?_
  rw[lE] at a
  cases q:jJ kvs k with
  | none=>rfl
  | some x=>rw[q] at a; exact (a rfl).elim
theorem j7 (kvs:List (κ × V)) (k:κ) (v:V):(putK kvs k v).length<=kvs.length+1:=by
 unfold putK
 split
 ·rw[Vb]; lia
 ·rw[Ve,Vr,List.length_nil]; lia
theorem n8 {kvs:List (κ × V)} {k:κ} (v:V) (h:jJ kvs k=none):putK kvs k v=kvs++[(k,v)]:=by
 unfold putK
 rw[lE,h]
 exact if_neg (by decide)
theorem xW.oR {o:Option V} {u:Option Value} (r:xW o u):o.isSome=u.isSome:=by
 cases o with
 | none=>cases u with
  | none=>rfl
  | some _=>exact (show False from r).elim
 | some _=>cases u with
  | none=>exact (show False from r).elim
  | some _=>rfl
theorem KV.val {kvs:List (κ × V)} {vs:List (κ × Value)} (r:KV kvs vs) (k:κ):xW (jJ kvs k) (abC vs k):=by
 unfold KV at r
 induction r with
 | nil=>exact Yt
 | @cons p q ps qs h t ih =>
  obtain⟨h1,h2⟩:=h
  by_cases e:p.1=k
  ·have e':q.1=k:=h1.symm.trans e
   have b:abC (q::qs) k=some q.2:=by simp [abC,Zz,e']
   rw[dU e,b]; exact h2
  ·have e':¬ q.1=k:=fun z=>e (h1.trans z)
   have b:abC (q::qs) k=abC qs k:=by simp [abC,Zz,e']
   rw[dw e,b]; exact ih
theorem KV.any {kvs:List (κ × V)} {vs:List (κ × Value)} (r:KV kvs vs) (k:κ):(kvs.any fun kv=>decide (kv.1=k))=vs.any fun kv=>decide (kv.1=k):=by
 unfold KV at r
 induction r with
 | nil=>rfl
 | cons h t ih=>rw[Z1,Z1,ih,h.1]
theorem KV.repl {kvs:List (κ × V)} {vs:List (κ × Value)} (r:KV kvs vs) (k:κ) {y:V} {u:Value} (ry:RelV y u) :
  KV (kvs.map fun kv=>if kv.1=k then (kv.1,y) else kv) (vs.map fun kv=>if kv.1=k then (kv.1,u) else kv):=by
 unfold KV at r ⊢
 induction r with
 | nil=>exact .nil
 | @cons p q ps qs h t ih =>
  rw[Wa,Wa]
  refine .cons ?_ ih
  obtain⟨h1,h2⟩:=h
  by_cases e:p.1=k
  ·rw[if_pos e,if_pos (h1.symm.trans e)]; exact⟨h1,ry⟩
  ·rw[if_neg e,if_neg (fun z=>e (h1.trans z))]; exact⟨h1,h2⟩
theorem KV.put {kvs:List (κ × V)} {vs:List (κ × Value)} (r:KV kvs vs) (k:κ) {y:V} {u:Value} (ry:RelV y u):KV (putK kvs k y) (stored vs k u):=by
 unfold putK stored
 rw[r.any k]
 by_cases e:(vs.any fun kv=>decide (kv.1=k))=true
 ·rw[if_pos e,if_pos e]; exact r.repl k ry
 ·rw[if_neg e,if_neg e]; exact Paired.snoc r ⟨rfl,ry⟩
theorem KV.length {kvs:List (κ × V)} {vs:List (κ × Value)} (r:KV kvs vs):kvs.length=vs.length:=abq r
end
theorem JH {P:Vy} {w:V3} {k:Key} {u:Value} (r:RelV (kV k) u):(dY P w).is k u=true:=by
 cases k with
 | inl i=>obtain⟨t,e⟩:=(show ∃ t,u=Yo i t from r); subst e; exact zF P w i t
 | inr x=>obtain⟨t,e⟩:=(show ∃ t,u=ab1 x t from r); subst e; exact ym P w x t
theorem vM {P:Vy} {w:V3}:∀ {ks:List Key} {us:List Value},Vals (ks.map kV) us->ItemsAre (dY P w) ks us
 | [],_,r=>by rw[aai] at r; cases r; exact .nil
 | k::ks,_,r=>by
  rw[Wa] at r
  cases r with
  | cons h t=>exact .cons (JH h) (vM t)
abbrev KT (H:Hp):List (List Key × V)->List (List Key × Addr × Value)->Prop:=Paired fun p q=>p.1=q.1/\H q.2.1=some (.tup (p.1.map kV))/\RelV p.2 q.2.2
theorem KT.val {H:Hp} {kvs:List (List Key × V)} {xs:List (List Key × Addr × Value)} (r:KT H kvs xs) (k:List Key):xW (jJ kvs k) ((atKey xs k).map (·.2)):=by
 induction r with
 | nil=>exact Yt
 | @cons p q ps qs h t ih =>
  obtain⟨h1,_,h2⟩:=h
  by_cases e:p.1=k
  ·have e':q.1=k:=h1.symm.trans e
   have b:atKey (q::qs) k=some q.2:=by simp [atKey,Zz,e']
   rw[dU e,b]; exact h2
  ·have e':¬ q.1=k:=fun z=>e (h1.trans z)
   have b:atKey (q::qs) k=atKey qs k:=by simp [atKey,Zz,e']
   rw[dw e,b]; exact ih
theorem KT.repl {H:Hp} {kvs:List (List Key × V)} {xs:List (List Key × Addr × Value)} (r:KT H kvs xs) (k:List Key) {y:V} {u:Value} (ry:RelV y u) :
  KT H (kvs.map fun kv=>if kv.1=k then (kv.1,y) else kv) (xs.map (putAt k u)):=by
 induction r with
 | nil=>exact .nil
 | @cons p q ps qs h t ih =>
  rw[Wa,Wa]
  refine .cons ?_ ih
  obtain⟨h1,h2,h3⟩:=h
  unfold putAt
  by_cases e:p.1=k
  ·rw[if_pos e,if_pos (h1.symm.trans e)]; exact⟨h1,h2,ry⟩
  ·rw[if_neg e,if_neg (fun z=>e (h1.trans z))]; exact⟨h1,h2,h3⟩
theorem KT.put {H:Hp} {kvs:List (List Key × V)} {xs:List (List Key × Addr × Value)} (r:KT H kvs xs) (k:List Key) {b:Addr} {y:V} {u:Value} (hb:H b=some (.tup (k.map kV))) (ry:RelV y u) :
  KT H (putK kvs k y) (storedH xs k b u):=by
 have e:(kvs.any fun kv=>decide (kv.1=k))=(atKey xs k).isSome:=by
  rw[lE,(r.val k).oR,Option.isSome_map]
 unfold putK storedH
 rw[e]
 by_cases q:(atKey xs k).isSome=true
 ·rw[if_pos q,if_pos q]; exact r.repl k ry
 ·rw[if_neg q,if_neg q]; exact Paired.snoc r ⟨rfl,hb,ry⟩
theorem KT.keeps {H H':Hp} {kvs:List (List Key × V)} {xs:List (List Key × Addr × Value)} (r:KT H kvs xs) (ht:∀ b ys,H b=some (.tup ys)->H' b=some (.tup ys)):KT H' kvs xs :=
 Paired.Tr r fun _ _ z=>⟨z.1,ht _ _ z.2.1,z.2.2⟩
section
variable {P:Vy} {w:V3} {H:Hp} {h:Wb} {a:Addr}
theorem S5 {u:HO} (ok:HOk P w H h) (e:Rd H a u):eO P w H h a u:=e.ok ok
theorem KZ {kvs:List (Key × V)} (ok:HOk P w H h) (e:Rd H a (.dK kvs)):kvs.length<=sizeLine/\(a == ZG)=false/\∃ vs,KV kvs vs/\h.DictOf (dY P w) a vs :=
 show eO P w H h a (.dK kvs) from S5 ok e
theorem Tn {kvs:List (Key × V)} (ok:HOk P w H h) (e:H a=some (.dK kvs)):kvs.length<=sizeLine/\(a == ZG)=false/\∃ vs,KV kvs vs/\h.DictOf (dY P w) a vs:=KZ ok (.inl e)
theorem xJ {ks:List Key} (ok:HOk P w H h) (e:H a=some (.tup (ks.map kV))):(abV (dY P w)).is h ks a:=by
 obtain⟨_,its,r,o,h1,h2,n,h3⟩:=(show eO P w H h a (.tup (ks.map kV)) from ok a _ e)
 exact⟨o,its.toArray,n,h1,h2,h3,by simpa using vM r⟩
theorem K4 {kvs:List (List Key × V)} (ok:HOk P w H h) (e:Rd H a (.dT kvs)):kvs.length<=sizeLine/\(a == ZG)=false ∧
  ∃ xs,KT H kvs xs/\h.DictOfH (abV (dY P w)) a xs:=by
 obtain⟨z,y,xs,r,o,es,ep,h1,h2,h3,h4,h5⟩:=(show eO P w H h a (.dT kvs) from S5 ok e)
 refine⟨z,y,xs,r,o,es,ep,h1,h2,h3,h4,fun x hx=>?_,h5⟩
 have all:∀ {l:List (List Key × V)} {m:List (List Key × Addr × Value)},KT H l m->∀ x∈m,(abV (dY P w)).is h x.1 x.2.1:=by
  intro l m q
  induction q with
  | nil=>intro x hx; exact nomatch hx
  | @cons p q ps qs hq t ih =>
   intro x hx
   rcases List.mem_cons.mp hx with e | hx
   ·subst e
    exact xJ ok (by rw[← hq.1]; exact hq.2.1)
   ·exact ih x hx
 exact all r x hx
theorem QJ {kvs:List (List Key × V)} (ok:HOk P w H h) (e:H a=some (.dT kvs)):kvs.length<=sizeLine/\(a == ZG)=false ∧
  ∃ xs,KT H kvs xs/\h.DictOfH (abV (dY P w)) a xs:=K4 ok (.inl e)
end
def Jy (H:Hp) (a:Addr) (y:V) (r:Option V):Prop :=
 (∃ kvs k,Rd H a (.dK kvs)/\y=kV k/\r=jJ kvs k)∨∃ kvs k b,Rd H a (.dT kvs)/\y = .ref b/\H b=some (.tup (k.map kV))/\r=jJ kvs k
def Qu (H:Hp) (a:Addr) (y v:V) (H':Hp):Prop :=
 (∃ kvs k,H a=some (.dK kvs)/\y=kV k/\kvs.length < sizeLine/\H'=upd H a (.dK (putK kvs k v))) ∨
 ∃ kvs k b,H a=some (.dT kvs)/\y = .ref b/\H b=some (.tup (k.map kV))/\kvs.length < sizeLine/\H'=upd H a (.dT (putK kvs k v))
theorem Jy.t {H:Hp} {a b:Addr} {kvs:List (List Key × V)} {k:List Key} (e:H a=some (.dT kvs)) (eb:H b=some (.tup (k.map kV))):Jy H a (.ref b) (jJ kvs k):=.inr ⟨kvs,k,b,.inl e,rfl,eb,rfl⟩
theorem Qu.t {H:Hp} {a b:Addr} {kvs:List (List Key × V)} {k:List Key} {v:V} (e:H a=some (.dT kvs)) (eb:H b=some (.tup (k.map kV))) (hl:kvs.length < sizeLine) :
  Qu H a (.ref b) v (upd H a (.dT (putK kvs k v))):=.inr ⟨kvs,k,b,e,rfl,eb,hl,rfl⟩
section
variable {X:Cx} {pins:List (Addr × Yb)} {σ:St} {H:Hp} {s:Vc} {a:Addr} {y v:V} {u r:Value} {o:Option V} {A:V0} {E:Value->Vc->Prop}
theorem Inv.big (I:Inv X pins σ H s):ZG < s.heap.objs.size:=by
 have h:VJ < s.heap.objs.size:=(I.mod.glob.keeps I.bk).lt
 exact ZL (by decide) h
theorem GZ {Q:Value->Vc->Prop} (hu:A.units+1 < cLine) (I:Inv X pins σ H s) (g:Jy H a y (some v)) (ry:RelV y u) (h:∀ w' s',Inv X pins σ H s'->RelV v w'->Q w' s') :
  Vk (Vs X.prog X.w) A (abg (.ref a) u) Q E s:=by
 rcases g with⟨kvs,k,e,ey,l⟩ | ⟨kvs,k,b,e,ey,eb,l⟩
 ·subst ey
  obtain⟨z,hd,vs,rel,dd⟩:=KZ I.hok e
  obtain⟨w',hw,rw'⟩:=xW.some_of (v:=v) (o:=abC vs k) (by rw[l]; exact rel.val k)
  exact wpAny_getItem_of (JH ry) dd.mapOf hw (h w' _ (I.tok _) rw')
 ·subst ey
  cases (show u=V4 b from ry)
  obtain⟨z,hd,xs,rel,dd⟩:=K4 I.hok e
  obtain⟨w',hw,rw'⟩:=xW.some_of (v:=v) (o:=(atKey xs k).map (·.2)) (by rw[l]; exact rel.val k)
  obtain⟨p,hp,hp2⟩:=Option.map_eq_some_iff.mp hw
  refine wpAny_getItem_heap (abt hu) (xJ I.hok eb) dd hp ?_
  rw[hp2]
  exact h w' _ (I.tok _) rw'
theorem O5 {Q:Value->Vc->Prop} (hu:A.units+1 < cLine) (I:Inv X pins σ H s) (g:Jy H a y o) (ry:RelV y u) (h:∀ s',Inv X pins σ H s'->Q (.bool (!o.isSome)) s') :
  Vk (Vs X.prog X.w) A (XQ .NotIn u (.ref a)) Q E s:=by
 rcases g with⟨kvs,k,e,ey,l⟩ | ⟨kvs,k,b,e,ey,eb,l⟩
 ·subst ey
  obtain⟨z,hd,vs,rel,dd⟩:=KZ I.hok e
  refine wpAny_notIn_of (JH ry) hd dd.mapOf ?_
  rw[← (rel.val k).oR,← l]
  exact h _ (I.tok _)
 ·subst ey
  cases (show u=V4 b from ry)
  obtain⟨z,hd,xs,rel,dd⟩:=K4 I.hok e
  refine wpAny_notIn_heap (abt hu) (xJ I.hok eb) hd dd ?_
  have q:=(rel.val k).oR
  rw[Option.isSome_map] at q
  rw[← q,← l]
  exact h _ (I.tok _)
theorem ye {h':Wb} {t':Nat} {ob:HO} (I:Inv X pins σ H s) (mu:Mut (H a)) (hs:Xu a s.heap h') (he:∃ q,h'.get? a=some q) (new:eO X.prog X.w (upd H a ob) h' a ob) :
  Inv X pins σ (upd H a ob) { s with heap:=h',toks:=t' } :=
 I.write (x:=a) (e:=a) mu (.inl rfl) (fun b q hb z=>(hs.2 b hb).trans z) he new
theorem SX {P:Vy} {w:V3} {H':Hp} {h':Wb} {kvs:List (Key × V)} {vs:List (Key × Value)} (z:kvs.length<=sizeLine) (hd:(a == ZG)=false) (rel:KV kvs vs) (dd:h'.DictOf (dY P w) a vs) :
  eO P w H' h' a (.dK kvs):=⟨z,hd,vs,rel,dd⟩
theorem Ex {H':Hp} {Q:Unit->Vc->Prop} (hu:A.units+1 < cLine) (I:Inv X pins σ H s) (g:Qu H a y v H') (ry:RelV y u) (rv:RelV v r) (h:∀ s',Inv X pins σ H' s'->Q () s') :
  Vk (Vs X.prog X.w) A (setItem (.ref a) u r) Q E s:=by
 rcases g with⟨kvs,k,e,ey,l,eH⟩ | ⟨kvs,k,b,e,ey,eb,l,eH⟩
 ·subst ey eH
  obtain⟨z,hd,vs,rel,dd⟩:=Tn I.hok e
  have hz:vs.length<=sizeLine:=by rw[← rel.length]; exact z
  have hl:(putK kvs k v).length<=sizeLine:=by have:=j7 kvs k v; lia
  refine wpAny_setItem_pairs (hsz:=hz) (JH ry) dd fun h' dd' hs=>h _ ?_
  have he:∃ q,h'.get? a=some q:=let ⟨q,_,_,hq,_⟩:=dd'; ⟨q,hq⟩
  exact ye I (by rw[e]; exact Yt) hs he (SX hl hd (rel.put k rv) dd')
 ·subst ey eH
  cases (show u=V4 b from ry)
  obtain⟨z,hd,xs,rel,dd⟩:=QJ I.hok e
  have hz:xs.length<=sizeLine:=by rw[← abq rel]; exact z
  have hl:(putK kvs k v).length<=sizeLine:=by have:=j7 kvs k v; lia
  refine wpAny_setItem_heap (hsz:=hz) (abt hu) (xJ I.hok eb) dd fun h' dd' hs=>h _ ?_
  obtain⟨q,es,ep,hq,h2,h3,h4,_,h5⟩:=dd'
  refine ye I (by rw[e]; exact Yt) hs ⟨q,hq⟩ ⟨hl,hd,_,(rel.put k eb rv).keeps fun c ys ec=>?_,q,es,ep,hq,h2,h3,h4,h5⟩
  rw[bh (Sw ec e (fun z=>nomatch z))]
  exact ec
end
section
variable {X:Cx} {pins:List (Addr × Yb)} {σ:St} {H:Hp} {s:Vc} {a:Addr} {kvs:List (Key × V)} {k:Key} {u:Value} {A:V0} {E:Value->Vc->Prop}
end
def Ud (i:Expr):Prop:=∀ ov iv,aca i false ov iv=operate [ov,iv] (abg ov iv)
theorem NP {prog:Vy} {w:V3} {A:V0} {E:Value->Vc->Prop} {s:Vc} {env:Env} {value slice:Expr} {pos:Zf} {T id:String} {Q:Value->Vc->Prop}
  (hl:typeLookup (.type T) "__getitem__" = pure (some (.builtin id))) (hs:Ud slice)
  (h:Vk (Vs prog w) A (Xn value env) (fun o s₁=>Vk (Vs prog w) A (Xn slice env) (fun i s₂=>s₂.TypeIs o T/\Vk (Vs prog w) A (abg o i) Q E s₂) E s₁) E s) :
  Vk (Vs prog w) A (Xn (.Subscript value slice pos) env) Q E s:=by
 refine Subscript_ (WN h (fun o s₁ h₁=>WN h₁ (fun i s₂ h₂=>?_) fun _ _ x=>x) fun _ _ x=>x)
 obtain⟨hT,h₂⟩:=h₂
 unfold subscriptTail
 refine U9 ?_
 rw[getitemInPython_of_ne hT.not_modules]
 refine U9 (aaa hT hl ?_)
 have fin:Vk (Vs prog w) A (aca slice false o i) (fun r s₃=>Vk (Vs prog w) A (letTemporaryGo value o r >>= fun _=>pure r) Q E s₃) E s₂:=by
  rw[hs o i]
  exact wpAny_operating (WN h₂ (fun r s₃ h₃=>U9 (wpAny_letTemporaryGo (Vd h₃))) fun _ _ x=>x)
 first
  | exact Vd (U9 fin)
  | exact U9 (Vd (U9 fin))
  | exact U9 fin
theorem yV {X:Cx} {pins:List (Addr × Yb)} {σ:St} {H:Hp} {s:Vc} {a:Addr} {y:V} {o:Option V} (I:Inv X pins σ H s) (g:Jy H a y o):s.TypeIs (.ref a) "dict":=by
 rcases g with⟨kvs,k,e,_,_⟩ | ⟨kvs,k,b,e,_,_,_⟩
 ·obtain⟨_,_,vs,_,dd⟩:=KZ I.hok e
  exact dd.typeIs
 ·obtain⟨_,_,xs,_,dd⟩:=K4 I.hok e
  exact dd.typeIs
def Tp (td ty:TE):TE:=fun σ H Q=>td σ H fun x H1=>ty σ H1 fun y H2=>∃ a v,x = .ref a/\Jy H2 a y (some v)/\Q v H2
def Qo (ty td:TE):TE:=fun σ H Q=>ty σ H fun y H1=>td σ H1 fun x H2=>∃ a o,x = .ref a/\Jy H2 a y o/\Q (.bl (!o.isSome)) H2
def Tu (td ty tv:TE):TS:=fun D σ H=>tv σ H fun v H1=>td σ H1 fun x H2=>ty σ H2 fun y H3=>∃ a H4,x = .ref a/\Qu H3 a y v H4/\D.nx σ H4
section
variable {X:Cx} {o i e value:Expr} {pos pos' tpos:Zf} {td ty tv:TE}
theorem Ou (hu:X.A.units+1 < cLine) (ho:PE X o td) (hi:PE X i ty) (hs:Ud i):PE X (.Subscript o i pos) (Tp td ty):=by
 intro pins s σ H Q I h
 refine NP PySem.F.slot_dict_getitem.lookup hs (thn (ho pins s σ H _ I h) fun u s1 ⟨x,H1,I1,rx,q1⟩=>thn (hi pins s1 σ H1 _ I1 q1) fun iv s2 ⟨y,H2,I2,ry,a,v,ex,g,q2⟩=>?_)
 subst ex
 obtain rfl:u=V4 a:=rx
 exact⟨yV I2 g,GZ hu I2 g ry fun w' s3 I3 rw'=>⟨v,H2,I3,rw',q2⟩⟩
theorem vP (hu:X.A.units+1 < cLine) (hi:PE X i ty) (ho:PE X o td):PC X .NotIn i o (Qo ty td):=by
 intro pins s σ H Q I h
 refine thn (hi pins s σ H _ I h) fun iv s1 ⟨y,H1,I1,ry,q1⟩=>thn (ho pins s1 σ H1 _ I1 q1) fun u s2 ⟨x,H2,I2,rx,a,ov,ex,g,q2⟩=>?_
 subst ex
 obtain rfl:u=V4 a:=rx
 exact O5 hu I2 g ry fun s3 I3=>⟨.bl (!ov.isSome),H2,I3,rfl,q2⟩
theorem Gn (hu:X.A.units+1 < cLine) (ho:PE X o td) (hi:PE X i ty) (hv:PE X value tv) (hs:abW value (some (.Subscript o i pos')) pos.line X.env=pure false) :
  PS X (.Assign [.Subscript o i pos'] value pos) (Tu td ty tv):=by
 intro pins s σ H D I h
 refine wpAny_Assign_Subscript (thn (hv pins s σ H _ I h) fun r s1 ⟨v,H1,I1,rv,q1⟩=>thn (ho pins s1 σ H1 _ I1 q1) fun u s2 ⟨x,H2,I2,rx,q2⟩=>thn (hi pins s2 σ H2 _ I2 q2) fun iv s3 ⟨y,H3,I3,ry,a,H4,ex,g,q3⟩=>?_) hs
 subst ex
 obtain rfl:u=V4 a:=rx
 exact Ex hu I3 g ry rv fun s4 I4=>⟨σ,H4,I4,q3⟩
end
theorem BV {P:Vy} {w:V3} {H:Hp} (h:Wb) (hb:ZG < h.objs.size):eO P w H (h.push { cls:=.type "dict",data:=.dict #[] }) h.objs.size (.dT []) :=
 ⟨VL _,beq_eq_false_iff_ne.mpr (Yv (Vx hb)),[],.nil,_,#[],0,Vh _ rfl,⟨rfl,rfl,rfl⟩,rfl,rfl,List.nodup_nil⟩
def QT:TE:=fun _ H Q=>∀ p,H p=none->Q (.ref p) (upd H p (.dT []))
section
variable {X:Cx} {pos:Zf}
theorem La:PE X (.Dict [] [] pos) QT:=fun pins s σ H Q I h =>
 wpAny_Dict_empty ⟨.ref s.heap.objs.size,_,I.laid (a:=s.heap.objs.size) (o:=.dT []) (t':=s.toks) (fun _ _ q=>Va _ q) (Vg _) (BV s.heap I.big),rfl,h _ (I.hok.fresh (Vg _))⟩
end
def G4:List (TE × TE)->St->Hp->(List (V × V)->Hp->Prop)->Prop
 | [],_,H,Q=>Q [] H
 | (tk,tv)::r,σ,H,Q=>tk σ H fun x H1=>tv σ H1 fun y H2=>G4 r σ H2 fun ps H3=>Q ((x,y)::ps) H3
abbrev VV:List (V × V)->List (Value × Value)->Prop:=Paired fun p q=>RelV p.1 q.1/\RelV p.2 q.2
def PPs (X:Cx) (pos:Zf) (keys:List (Option Expr)) (values:List Expr) (trs:List (TE × TE)):Prop :=
 ∀ (pins:List (Addr × Yb)) (s:Vc) (σ:St) (H:Hp) (Q:List (V × V)->Hp->Prop),Inv X pins σ H s->G4 trs σ H Q →
  Vk (Vs X.prog X.w) X.A (evalPairs (pairTrees keys values X.env pos)) (fun vs s'=>∃ ps H',Inv X pins σ H' s'/\VV ps vs/\Q ps H') X.xe s
theorem Oz {X:Cx} {pos:Zf}:PPs X pos [] [] []:=fun pins s σ H Q I h=>pairTrees_nil_walk ⟨[],H,I,.nil,h⟩
theorem zR {X:Cx} {pos:Zf} {k v:Expr} {ks:List (Option Expr)} {vs:List Expr} {tk tv:TE} {trs:List (TE × TE)} (hk:PE X k tk) (hv:PE X v tv) (hr:PPs X pos ks vs trs) :
  PPs X pos (some k::ks) (v::vs) ((tk,tv)::trs):=fun pins s σ H Q I h =>
 pairTrees_cons_walk (thn (hk pins s σ H _ I h) fun u s1 ⟨x,H1,I1,rx,q1⟩=>thn (hv pins s1 σ H1 _ I1 q1) fun w2 s2 ⟨y,H2,I2,ry,q2⟩ =>
  thn (hr pins s2 σ H2 _ I2 q2) fun ws s3 ⟨ps,H3,I3,rel,q3⟩=>⟨(x,y)::ps,H3,I3,.cons ⟨rx,ry⟩ rel,q3⟩)
section
variable {X:Cx} {pins:List (Addr × Yb)} {σ:St} {H:Hp} {s:Vc} {a:Addr} {y d:V} {u r:Value} {o:Option V} {A:V0} {E:Value->Vc->Prop}
end
section
variable {X:Cx} {o e f:Expr} {apos cpos:Zf} {td ty tx:TE}
end
section
variable {X:Cx} {pins:List (Addr × Yb)} {σ:St} {H:Hp} {s:Vc} {a:Addr} {kvs:List (Key × V)} {A:V0} {E:Value->Vc->Prop}
end
section
variable {X:Cx} {pins:List (Addr × Yb)} {σ:St} {H:Hp} {s:Vc} {a:Addr} {y:V} {u:Value} {A:V0} {E:Value->Vc->Prop}
end
end L2
namespace L2
open PySem PySem.Spec PyProof.Rows
theorem jH.wK {k:Nat} {A:V0} (r:jH k A):A.units+1 < cLine:=by have:=r.un; lia
section
variable {X:Cx} {pins:List (Addr × Yb)} {σ:St} {H:Hp} {s:Vc} {a b:Addr} {v:V} {r:Value} {A:V0} {E:Value->Vc->Prop}
theorem Jl {kvs:List (List Key × V)} {k:List Key} {Q:Unit->Vc->Prop} (hu:A.units < cLine) (I:Inv X pins σ H s) (e:H a=some (.dT kvs)) (eb:H b=some (.tup (k.map kV))) (l:kvs.length < sizeLine) (rv:RelV v r) (h:∀ s',Inv X pins σ (upd H a (.dT (putK kvs k v))) s'->Q () s') :
  Vk (Vs X.prog X.w) A (dictSet a (.ref b) r) Q E s:=by
 obtain⟨z,hd,xs,rel,dd⟩:=QJ I.hok e
 have hz:xs.length<=sizeLine:=by rw[← abq rel]; exact z
 have hl:(putK kvs k v).length<=sizeLine:=by have:=j7 kvs k v; lia
 refine wpAny_dictSet_heap (hsz:=hz) hu (xJ I.hok eb) dd fun h' dd' hs=>h _ ?_
 obtain⟨q,es,ep,hq,h2,h3,h4,_,h5⟩:=dd'
 refine ye I (by rw[e]; exact Yt) hs ⟨q,hq⟩ ⟨hl,hd,_,(rel.put k eb rv).keeps fun c ys ec=>?_,q,es,ep,hq,h2,h3,h4,h5⟩
 rw[bh (Sw ec e (fun z=>nomatch z))]
 exact ec
end
def Ip (p:Addr):List (V × V)->Hp->(Hp->Prop)->Prop
 | [],H,Q=>Q H
 | (x,y)::r,H,Q=>∃ kvs k b,H p=some (.dT kvs)/\x = .ref b/\H b=some (.tup (k.map kV))/\kvs.length < sizeLine/\Ip p r (upd H p (.dT (putK kvs k y))) Q
theorem Rf {X:Cx} {pins:List (Addr × Yb)} {σ:St} {p:Addr} {A:V0} {E:Value->Vc->Prop} (hu:A.units < cLine) {Z:Hp->Prop} {Q:PUnit->Vc->Prop} (hq:∀ H s,Inv X pins σ H s->Z H->Q PUnit.unit s) :
  ∀ {ps:List (V × V)} {vs:List (Value × Value)} {H:Hp} {s:Vc},VV ps vs->Inv X pins σ H s->Ip p ps H Z->Vk (Vs X.prog X.w) A (storeAll p vs) Q E s:=by
 intro ps vs H s r
 induction r generalizing H s with
 | nil =>
  intro I t
  unfold storeAll
  rw[Zc]
  exact Vd (hq _ _ I t)
 | @cons x y xs ys h t ih =>
  intro I q
  obtain⟨x1,x2⟩:=x
  obtain⟨y1,y2⟩:=y
  obtain⟨kvs,k,b,e,ex,eb,l,q⟩:=q
  subst ex
  cases (show y1=V4 b from h.1)
  unfold storeAll
  rw[Zy]
  exact U9 (U9 (Jl hu I e eb l h.2 fun s' I'=>Vd (ih I' q)))
def Q5 (trs:List (TE × TE)):TE:=fun σ H Q=>∀ p,H p=none->G4 trs σ (upd H p (.dT [])) fun ps H2=>Ip p ps H2 fun H3=>Q (.ref p) H3
theorem Kz {X:Cx} {pos:Zf} {keys:List (Option Expr)} {values:List Expr} {trs:List (TE × TE)} (hu:X.A.units < cLine) (h:PPs X pos keys values trs) (hall:keys.all (·.isSome)=true) (hl:keys.length=values.length) (h0:keys≠[])
  (h15:keys.length<=15):PE X (.Dict keys values pos) (Q5 trs):=by
 intro pins s σ H Q I q
 have hn:=I.hok.fresh (Vg s.heap.objs.size)
 have I1:=I.laid (a:=s.heap.objs.size) (o:=.dT []) (h':=s.heap.push { cls:=.type "dict",data:=.dict #[] }) (t':=s.toks) (fun _ _ q=>Va _ q) (Vg _) (BV s.heap I.big)
 refine wpAny_Dict_any hall hl h0 h15 (thn (h pins _ σ _ _ I1 (q _ hn)) fun ws s2 ⟨ps,H2,I2,rel,q2⟩=>?_)
 exact Rf hu (fun H3 s3 I3 q3=>⟨.ref s.heap.objs.size,H3,I3,rfl,q3⟩) rel I2 q2
end L2
namespace L2
open PySem PySem.Spec PyProof.Rows PySem.W
section
variable {n:Nat} {o:Nat->Nat->Bool} {cmp:Nat->Nat->(Bool->Vc->Prop)->Vc->Prop} {s:Vc}
def eN (n:Nat) (p:Array Nat):Prop:=p.toList.Perm (VD n)
theorem eN.size {p:Array Nat} (h:eN n p):p.size=n:=by
 have:=h.length_eq
 rw[VP] at this
 exact this
theorem eN.lt {p:Array Nat} (h:eN n p) {i:Nat} (hi:i < n):p.getD i 0 < n:=by
 have hs:i < p.size:=by rw[h.size]; exact hi
 have:p.getD i 0∈p.toList:=by
  simp [Array.getD,hs]
 exact List.mem_range.mp (h.mem_iff.mp this)
theorem eN.ne {p:Array Nat} (h:eN n p) {i j:Nat} (hi:i < n) (hj:j < n) (e:i≠j):p.getD i 0≠p.getD j 0:=by
 have nd:p.toList.Nodup:=h.nodup_iff.mpr List.nodup_range
 have hs:i < p.toList.length:=by rw[VM,h.size]; exact hi
 have hs':j < p.toList.length:=by rw[VM,h.size]; exact hj
 intro z
 have a1:p.getD i 0=p.toList[i]:=by simp [Array.getD,show i < p.size by simpa using hs]
 have a2:p.getD j 0=p.toList[j]:=by simp [Array.getD,show j < p.size by simpa using hs']
 rw[a1,a2] at z
 exact e ((aaM nd).mp z)
def UpO (o:Nat->Nat->Bool) (p:Array Nat) (k:Nat):Prop:=∀ i j,i < j->j < k->o (p.getD i 0) (p.getD j 0)=true
def DnO (o:Nat->Nat->Bool) (p:Array Nat) (k:Nat):Prop:=∀ i j,i < j->j < k->o (p.getD j 0) (p.getD i 0)=true
variable (tr:∀ i j k,i < n->j < n->k < n->o i j=true->o j k=true->o i k=true) (tot:∀ i j,i < n->j < n->i≠j->o i j=false->o j i=true)
variable (hc:∀ i j,i < n->j < n->∀ C:Bool->Vc->Prop,C (o i j) s->cmp i j C s)
include tr in
theorem UpO.succ {p:Array Nat} (hp:eN n p) {k:Nat} (h1:1<=k) (hk:k < n) (h:UpO o p k) (e:o (p.getD (k - 1) 0) (p.getD k 0)=true):UpO o p (k+1):=by
 intro i j hij hj
 rcases XH j k with h' | h'
 ·exact h i j hij h'
 ·have:j=k:=by lia
  subst this
  rcases XH i (j - 1) with h2 | h2
  ·exact tr _ _ _ (hp.lt (by lia)) (hp.lt (by lia)) (hp.lt hk) (h i (j - 1) h2 (by lia)) e
  ·have:i=j - 1:=by lia
   subst this
   exact e
include tr in
theorem DnO.succ {p:Array Nat} (hp:eN n p) {k:Nat} (h1:1<=k) (hk:k < n) (h:DnO o p k) (e:o (p.getD k 0) (p.getD (k - 1) 0)=true):DnO o p (k+1):=by
 intro i j hij hj
 rcases XH j k with h' | h'
 ·exact h i j hij h'
 ·have:j=k:=by lia
  subst this
  rcases XH i (j - 1) with h2 | h2
  ·exact tr _ _ _ (hp.lt hk) (hp.lt (by lia)) (hp.lt (by lia)) e (h i (j - 1) h2 (by lia))
  ·have:i=j - 1:=by lia
   subst this
   exact e
include tr tot hc in
theorem yR {p:Array Nat} (hp:eN n p) {Q:Nat->Vc->Prop}:∀ (f k:Nat),1<=k->k+f<=n->UpO o p k->(∀ m,k<=m->m<=k+f->UpO o p m->(m=k+f∨o (p.getD m 0) (p.getD (m - 1) 0)=true)->Q m s)->(kas_asc p f k).kasWp cmp Q s
 | 0,k,_,_,hu,h=>h k (Vg _) (Vg _) hu (.inl rfl)
 | f+1,k,h1,hk,hu,h=>by
  show cmp _ _ _ s
  refine hc _ _ (hp.lt (by lia)) (hp.lt (by lia)) _ ?_
  cases e:o (p.getD k 0) (p.getD (k - 1) 0) with
  | true =>
   show Yu cmp (if true=true then _ else _) Q s
   rw[if_pos rfl]
   exact h k (Vg _) (by lia) hu (.inr e)
  | false =>
   show Yu cmp (if false=true then _ else _) Q s
   rw[if_neg Vm]
   refine yR hp f (k+1) (by lia) (by lia) (hu.succ tr hp h1 (by lia) (tot _ _ (hp.lt (by lia)) (hp.lt (by lia)) (hp.ne (by lia) (by lia) (by lia)) e)) fun m h2 h3 h4 h5=>h m (by lia) (by lia) h4 ?_
   rcases h5 with z | z
   ·exact .inl (by lia)
   ·exact .inr z
include tr tot hc in
theorem BW {p:Array Nat} (hp:eN n p) {Q:Array Nat × Nat × Nat->Vc->Prop}:∀ (f k:Nat),1<=k->k+f<=n->DnO o p k->(∀ m,k<=m->m<=k+f->DnO o p m->Q (p,m,0) s)->(kas_desc f p k 0).kasWp cmp Q s
 | 0,k,_,_,hu,h=>h k (Vg _) (Vg _) hu
 | f+1,k,h1,hk,hu,h=>by
  show cmp _ _ _ s
  refine hc _ _ (hp.lt (by lia)) (hp.lt (by lia)) _ ?_
  cases e:o (p.getD k 0) (p.getD (k - 1) 0) with
  | true =>
   show Yu cmp (if true=true then _ else _) Q s
   rw[if_pos rfl,if_neg (by decide)]
   exact BW hp f (k+1) (by lia) (by lia) (hu.succ tr hp h1 (by lia) e) fun m h2 h3 h4=>h m (by lia) (by lia) h4
  | false =>
   show Yu cmp (if false=true then _ else _) Q s
   rw[if_neg Vm]
   show cmp _ _ _ s
   refine hc _ _ (hp.lt (by lia)) (hp.lt (by lia)) _ ?_
   rw[tot _ _ (hp.lt (by lia)) (hp.lt (by lia)) (hp.ne (by lia) (by lia) (by lia)) e]
   show Yu cmp (if true=true then _ else _) Q s
   rw[if_pos rfl]
   exact h k (Vg _) (by lia) hu
theorem qF {p q:Array Nat} {i j:Nat} (h:p[i]? = q[j]?):p.getD i 0=q.getD j 0:=by
 rw[Xj,Xj,h]
theorem JF {p:Array Nat} (hp:eN n p) (k:Nat):eN n (kas_rev p 0 k):=by
 have:=mirror_perm p 0 k ((k - 0) / 2)
 exact (Array.perm_iff_toList_perm.mp this).trans hp
theorem Mv {p:Array Nat} {k:Nat} (hk:k<=p.size) (i:Nat):(kas_rev p 0 k).getD i 0=if i < k then p.getD (k - 1 - i) 0 else p.getD i 0:=by
 have e:=getElem?_mirror_all (xs:=p) (i:=0) hk i
 by_cases h:i < k
 ·rw[if_pos ⟨VL _,h⟩] at e
  rw[if_pos h]
  exact qF (e.trans (by rw[Nat.zero_add]))
 ·rw[if_neg (fun z=>h z.2)] at e
  rw[if_neg h]
  exact qF e
theorem Q8 {p:Array Nat} (hp:eN n p) {k:Nat} (hk:k<=n) (h:DnO o p k):UpO o (kas_rev p 0 k) k:=by
 intro i j hij hj
 rw[Mv (by rw[hp.size]; exact hk),Mv (by rw[hp.size]; exact hk),if_pos (by lia),if_pos hj]
 exact h (k - 1 - j) (k - 1 - i) (by lia) (by lia)
include tr tot hc in
theorem Lp {p:Array Nat} (hp:eN n p) {k:Nat} (h1:1<=k) (hk:k<=n) (h:DnO o p k) {Q:Nat × Array Nat->Vc->Prop} (hq:∀ m p',eN n p'->1<=m->m<=n->UpO o p' m->Q (m,p') s):(kas_tail3 k n p).kasWp cmp Q s:=by
 unfold kas_tail3
 rw[aad]
 have hp':=JF hp k
 exact yR tr tot hc hp' (n - k) k h1 (by lia) (Q8 hp hk h) fun m h2 h3 h4 _=>hq m _ hp' (by lia) (by lia) h4
include tr tot hc in
theorem Gm (h2:2<=n) {p:Array Nat} (hp:eN n p) {Q:Nat × Array Nat->Vc->Prop} (hq:∀ m p',eN n p'->1<=m->m<=n->UpO o p' m->Q (m,p') s):(kas_count n p).kasWp cmp Q s:=by
 unfold kas_count
 rw[aad]
 refine yR tr tot hc hp (n - 1) 1 (Vg _) (by lia) (fun i j hij hj=>by lia) fun m h3 h4 h5 h6=>?_
 show Yu cmp (if (m == n)=true then _ else _) Q s
 by_cases e:(m == n)=true
 ·rw[if_pos e]
  exact hq m p hp h3 (by lia) h5
 ·rw[if_neg e]
  have mn:m < n:=by
   have:¬ m=n:=by simpa using e
   lia
  by_cases g:m > 1
  ·rw[if_pos g]
   show cmp _ _ _ s
   refine hc _ _ (hp.lt (by lia)) (hp.lt (by lia)) _ ?_
   rw[h5 0 (m - 1) (by lia) (by lia)]
   show Yu cmp (if true=true then _ else _) Q s
   rw[if_pos rfl]
   exact hq m p hp h3 (by lia) h5
  ·rw[if_neg g]
   have m1:m=1:=by lia
   subst m1
   have z:o (p.getD 1 0) (p.getD 0 0)=true:=by
    rcases h6 with z | z
    ·lia
    ·exact z
   unfold kas_descPart
   rw[aad]
   refine BW tr tot hc hp (n - 2) 2 (by lia) (by lia) (fun i j hij hj=>?_) fun m h7 h8 h9=>?_
   ·have a1:i=0:=by lia
    have a2:j=1:=by lia
    subst a1 a2
    exact z
   ·show Yu cmp (if 0 > 0 then _ else _) Q s
    rw[if_neg (by decide)]
    exact Lp tr tot hc hp (by lia) (by lia) h9 hq
include tr tot hc in
theorem oJ {p:Array Nat} (hp:eN n p) {k:Nat} (hk:k < n) (hu:UpO o p k) {Q:Nat->Vc->Prop} (hq:∀ l,l<=k->(∀ i < l,o (p.getD i 0) (p.getD k 0)=true)->(∀ i,l<=i->i < k->o (p.getD k 0) (p.getD i 0)=true)->Q l s) :
  ∀ (f l r:Nat),l<=r->r<=k->r<=l+f->(∀ i < l,o (p.getD i 0) (p.getD k 0)=true)->(∀ i,r<=i->i < k->o (p.getD k 0) (p.getD i 0)=true)->(kas_place p k f l r).kasWp cmp Q s
 | 0,l,r,h1,h2,h3,a,b=>hq l (by lia) a fun i h4 h5=>b i (by lia) h5
 | f+1,l,r,h1,h2,h3,a,b=>by
  unfold kas_place
  by_cases g:l ≥ r
  ·rw[if_pos g]
   exact hq l (by lia) a fun i h4 h5=>b i (by lia) h5
  ·rw[if_neg g]
   show cmp _ _ _ s
   have hm:(l+r) / 2 < r:=by lia
   have hm':l<=(l+r) / 2:=by lia
   generalize (l+r) / 2=md at *
   refine hc _ _ (hp.lt hk) (hp.lt (by lia)) _ ?_
   cases e:o (p.getD k 0) (p.getD md 0) with
   | true =>
    show Yu cmp (if true=true then _ else _) Q s
    rw[if_pos rfl]
    refine oJ hp hk hu hq f l md hm' (by lia) (by lia) a fun i h4 h5=>?_
    rcases XH md i with h6 | h6
    ·exact tr _ _ _ (hp.lt hk) (hp.lt (by lia)) (hp.lt (by lia)) e (hu md i h6 h5)
    ·have:i=md:=by lia
     subst this
     exact e
   | false =>
    show Yu cmp (if false=true then _ else _) Q s
    rw[if_neg Vm]
    have e':=tot _ _ (hp.lt hk) (hp.lt (by lia)) (hp.ne hk (by lia) (by lia)) e
    refine oJ hp hk hu hq f (md+1) r hm h2 (by lia) (fun i h4=>?_) b
    rcases XH i md with h6 | h6
    ·exact tr _ _ _ (hp.lt (by lia)) (hp.lt (by lia)) (hp.lt hk) (hu i md h6 (by lia)) e'
    ·have:i=md:=by lia
     subst this
     exact e'
theorem Mz {p:Array Nat} {k l:Nat} (hk:k < p.size) (hl:l<=k) (i:Nat):(bubble p k (k - l)).getD i 0=if i=l then p.getD k 0 else if l < i/\i<=k then p.getD (i - 1) 0 else p.getD i 0:=by
 have e:=getElem?_bubble hk (k - l) (by lia) i
 rw[show k - (k - l)=l by lia] at e
 by_cases h:i=l
 ·rw[if_pos h] at e ⊢
  exact qF e
 ·rw[if_neg h] at e ⊢
  by_cases h':l < i/\i<=k
  ·rw[if_pos h'] at e ⊢
   exact qF e
  ·rw[if_neg h'] at e ⊢
   exact qF e
include tr tot hc in
theorem Gu {Q:Array Nat->Vc->Prop} (hq:∀ p,eN n p->UpO o p n->Q p s):∀ (f:Nat) (p:Array Nat) (k:Nat),eN n p->k+f=n->UpO o p k->(kas_bin f p k).kasWp cmp Q s
 | 0,p,k,hp,e,hu=>hq p hp (by rw[← e]; exact hu)
 | f+1,p,k,hp,e,hu=>by
  unfold kas_bin
  rw[aad]
  refine oJ tr tot hc hp (by lia) hu (fun l hl a b=>?_) k 0 k (VL _) (Vg _) (by lia) (fun i h=>by lia) (fun i h1 h2=>by lia)
  have hpb:eN n (bubble p k (k - l)):=(Array.perm_iff_toList_perm.mp (bubble_perm p k (k - l))).trans hp
  refine Gu hq f _ (k+1) hpb (by lia) fun i j hij hj=>?_
  have hks:k < p.size:=by rw[hp.size]; lia
  rw[Mz hks hl,Mz hks hl]
  by_cases h1:i=l
  ·rw[if_pos h1,if_neg (by lia),if_pos (by lia)]
   exact b (j - 1) (by lia) (by lia)
  ·rw[if_neg h1]
   by_cases h2:l < i/\i<=k
   ·rw[if_pos h2,if_neg (by lia),if_pos (by lia)]
    exact hu (i - 1) (j - 1) (by lia) (by lia)
   ·rw[if_neg h2]
    by_cases h3:j=l
    ·rw[if_pos h3]
     exact a i (by lia)
    ·rw[if_neg h3]
     by_cases h4:l < j/\j<=k
     ·rw[if_pos h4]
      rcases XH i (j - 1) with h5 | h5
      ·exact hu i (j - 1) h5 (by lia)
      ·lia
     ·rw[if_neg h4]
      exact hu i j hij (by lia)
include tr tot hc in
theorem Ln (h2:2<=n) {Q:Array Nat->Vc->Prop} (hq:∀ p,eN n p->UpO o p n->Q p s):(kas_sort n).kasWp cmp Q s:=by
 unfold kas_sort
 rw[aad]
 refine Gm tr tot hc h2 (p:=abL (VD n)) (List.Perm.refl _) fun m p' hp' h1 hm hu=>?_
 by_cases g:m < n
 ·show Yu cmp (if m < n then _ else _) Q s
  rw[if_pos g,show max m 1=m by lia]
  exact Gu tr tot hc hq (n - m) p' m hp' (by lia) hu
 ·show Yu cmp (if m < n then _ else _) Q s
  rw[if_neg g]
  have:m=n:=by lia
  subst this
  exact hq p' hp' hu
end
end L2
namespace L2
open PySem PySem.Spec PyProof.Rows PySem.W PySem.SeqAt
open AutoSeq1 (wpAny_loadPart')
open MeetsSeq MeetsSeq2 MeetsSeq3
theorem De (l b:Addr) (items items2:Array Value) (n n2:Nat) (dd dd2:Option Addr) (sl sl2:Array (Option Value)) {ns ms:List Int} (i1:Ww items.toList ns) (i2:Ww items2.toList ms) (k:Nat) :
  ∀ i:Nat,i<=ns.length->i<=ms.length->min ns.length ms.length - i=k->Meets (XS.«list.__eq__.loop» ⟨[.ref l,.ref b,Xe i,Xe 0],[]⟩)
   (fun A R s=>s.heap.get? l=some { cls:=.type "list",dict:=dd,data:=.seq items n,slots:=sl }/\s.heap.get? b=some { cls:=.type "list",dict:=dd2,data:=.seq items2 n2,slots:=sl2 } ∧
    R (.ok (.ret (.bool (HT.lexLt (ns.drop i) (ms.drop i))))) s):=by
 have z1:items.size=ns.length:=by rw[← VM]; exact i1.length
 have z2:items2.size=ms.length:=by rw[← VM]; exact i2.length
 induction k with
 | zero =>
  intro i h1 h2 hk prog w A R s h
  obtain⟨hp,g,d,tk,os⟩:=s; obtain⟨hl,hb,h⟩:=h
  have lx:HT.lexLt (ns.drop i) (ms.drop i)=decide (items.size < items2.size):=by
   rw[z1,z2]
   by_cases a1:i < ns.length
   ·have a2:ms.length=i:=by lia
    rw[ZQ (l:=ms) (by lia),Xo a1,HT.qW,decide_eq_false (by lia)]
   ·rw[ZQ (l:=ns) (by lia)]
    by_cases a2:i < ms.length
    ·rw[Xo a2,HT.rD,decide_eq_true (by lia)]
    ·rw[ZQ (l:=ms) (by lia),decide_eq_false (by lia)]
     rfl
  rw[lx] at h
  wp_walk using WX hl,WX hb
  by_cases a1:i < ns.length
  ·have hi2:items2[((i:Nat):Int).toNat]? = none:=by simp; lia
   have hi1:∃ v,items[((i:Nat):Int).toNat]? = some v:=⟨items[i],by rw[V8]; exact VH (by lia)⟩
   obtain⟨v,hi1⟩:=hi1
   rw[hi1,hi2]
   wp_walk using WX hl,WX hb
   exact h
  ·have hi1:items[((i:Nat):Int).toNat]? = none:=by simp; lia
   rw[hi1]
   wp_walk using WX hl,WX hb
   exact h
 | succ k ih =>
  intro i h1 h2 hk prog w A R s h
  obtain⟨hp,g,d,tk,os⟩:=s; obtain⟨hl,hb,h⟩:=h
  wp_walk using WX hl,WX hb
  have hlt:i < ns.length:=by lia
  have hlt2:i < ms.length:=by lia
  obtain⟨t1,e1⟩:=mQ i1 (Vf hlt)
  obtain⟨t2,e2⟩:=mQ i2 (Vf hlt2)
  have hi1:items[((i:Nat):Int).toNat]? = some (.int ns[i] t1):=by rw[V8,← Wh]; exact e1
  have hi2:items2[((i:Nat):Int).toNat]? = some (.int ms[i] t2):=by rw[V8,← Wh]; exact e2
  have hc:((i:Int)+1)=((i+1:Nat):Int):=by push_cast; rfl
  rw[Xo hlt,Xo hlt2,HT.jE] at h
  rw[hi1,hi2]
  refine U9 (wpAny_eqBool_int ?_)
  by_cases hb':ns[i]=ms[i]
  ·rw[if_pos hb'] at h
   rw[show (ns[i] == ms[i])=true by simp [hb']]
   wp_walk
   rw[hc]
   exact⟨XR plain_eq_loop _,Xf entry_eq_loop (by
    rw[Xc plain_eq_loop _]
    exact ih (i+1) (by lia) (by lia) (by lia) prog w A R _ ⟨hl,hb,h⟩)⟩
  ·rw[if_neg hb'] at h
   rw[show (ns[i] == ms[i])=false by simp [hb']]
   wp_walk using WX hl,WX hb
   rw[hi1,hi2]
   show Vk _ _ (do let v ← richCompare .Lt (.int ns[i] t1) (.int ms[i] t2); ret v) _ _ _
   refine U9 (show Vk _ _ (XQ .Lt (.int ns[i] t1) (.int ms[i] t2)) _ _ _ from PyProof.Rows.lt_int ?_)
   exact Vd h
theorem Eg (l b:Addr) (items items2:Array Value) (n n2:Nat) (dd dd2:Option Addr) (sl sl2:Array (Option Value)) {ns ms:List Int} (i1:Ww items.toList ns) (i2:Ww items2.toList ms) :
  Meets (XS.«list.__lt__» ⟨[.ref l,.ref b],[]⟩)
   (fun A R s=>s.heap.get? l=some { cls:=.type "list",dict:=dd,data:=.seq items n,slots:=sl }/\s.heap.get? b=some { cls:=.type "list",dict:=dd2,data:=.seq items2 n2,slots:=sl2 } ∧
    R (.ok (.ret (.bool (HT.lexLt ns ms)))) s):=by
 intro prog w A R s h
 obtain⟨hp,g,d,tk,os⟩:=s; obtain⟨hl,hb,h⟩:=h
 have f3:=AutoSeq1.sub_list_list
 wp_walk using WX hl,WX hb
 exact⟨XR plain_eq_loop _,Xf entry_eq_loop (by
  rw[Xc plain_eq_loop _]
  exact De l b items items2 n n2 dd dd2 sl sl2 i1 i2 _ 0 (VL _) (VL _) rfl prog w A R _ ⟨hl,hb,h⟩)⟩
section
variable {prog:Vy} {w:V3} {A:V0} {E:Value->Vc->Prop} {s:Vc}
end
end L2
namespace L2
open PySem PySem.Spec PyProof.Rows PySem.W
theorem j9:∀ {a b c:List Int},HT.lexLt a b=true->HT.lexLt b c=true->HT.lexLt a c=true
 | [],[],_,h,_=>by cases h
 | [],_::_,[],_,h=>by cases h
 | [],_::_,_::_,_,_=>rfl
 | _::_,[],_,h,_=>by cases h
 | _::_,_::_,[],_,h=>by cases h
 | x::a,y::b,z::c,h1,h2=>by
  rw[HT.jE] at h1 h2 ⊢
  by_cases e1:x=y
  ·rw[if_pos e1] at h1
   by_cases e2:y=z
   ·rw[if_pos e2] at h2
    rw[if_pos (e1.trans e2)]
    exact j9 h1 h2
   ·rw[if_neg e2] at h2
    rw[e1,if_neg e2]
    exact h2
  ·rw[if_neg e1] at h1
   have d1:=of_decide_eq_true h1
   by_cases e2:y=z
   ·rw[← e2,if_neg e1]
    exact h1
   ·rw[if_neg e2] at h2
    have d2:=of_decide_eq_true h2
    rw[if_neg (by lia)]
    exact decide_eq_true (by lia)
theorem vH:∀ {a b:List Int},a≠b->HT.lexLt a b=false->HT.lexLt b a=true
 | [],[],h,_=>absurd rfl h
 | [],_::_,_,h=>by cases h
 | _::_,[],_,_=>rfl
 | x::a,y::b,h,e=>by
  rw[HT.jE] at e ⊢
  by_cases q:x=y
  ·rw[if_pos q] at e
   rw[if_pos q.symm]
   exact vH (fun z=>h (by rw[q,z])) e
  ·rw[if_neg q] at e
   rw[if_neg (fun z=>q z.symm)]
   have:=of_decide_eq_false e
   exact decide_eq_true (by lia)
section
variable {prog:Vy} {w:V3} {A:V0} {E:Value->Vc->Prop} {s:Vc}
theorem Fp {l b:Addr} {items items2:Array Value} {ns ms:List Int} {C:Bool->Vc->Prop} (hl:s.heap.IsList l items) (hb:s.heap.IsList b items2) (i1:Ww items.toList ns) (i2:Ww items2.toList ms) (hu:A.units < cLine) (h:C (HT.lexLt ns ms) s):Vk (Vs prog w) A (keyLt' oneType' (.ref l) (.ref b)) C E s:=by
 obtain⟨⟨cls,dd,data,sl⟩,ho,hc,n,hd⟩:=id hl
 obtain⟨⟨cls2,dd2,data2,sl2⟩,ho2,hc2,n2,hd2⟩:=id hb
 simp only at hc hd hc2 hd2
 subst hc hd hc2 hd2
 rw[keyLt'_oneType,oneLt'_eq]
 simp only[if_true]
 refine U9 (wpAny_cRoomFor hu ?_)
 refine U9 (wpAny_callSpecialIfBound?_slot ⟨_,ho,rfl⟩ F.slot_list_lt (aaR F.slot_list_lt ⟨_,ho,rfl⟩ F.entry_list_lt (F.args_list_lt_2 _ _) (Eg l b items items2 n n2 dd dd2 sl sl2 i1 i2) ⟨ho,ho2,?_⟩))
 exact X6 h
theorem uL {a:Addr} {vs:List Value} {n:Nat} {κ:Z4} {o:Nat->Nat->Bool} {P:Fin->Vc->Prop} (ho:s.heap.get? a=some (Xm "list" vs.toArray n)) (h64:vs.length < 64)
  (hk:2<=vs.length->∀ h',u0 s.heap h' a->∀ Q:Z4->Vc->Prop,Q κ { s with heap:=h' }->Vk (Vs prog w) A (keyKind' vs.toArray) Q E { s with heap:=h' })
  (hO:∀ h',u0 s.heap h' a->∀ i j,i < vs.length->j < vs.length->∀ C:Bool->Vc->Prop,C (o i j) { s with heap:=h' }->Vk (Vs prog w) A (keyLt' κ (vs.getD i We) (vs.getD j We)) C (fun _ _=>False) { s with heap:=h' })
  (tr:∀ i j k,i < vs.length->j < vs.length->k < vs.length->o i j=true->o j k=true->o i k=true) (tot:∀ i j,i < vs.length->j < vs.length->i≠j->o i j=false->o j i=true)
  (h:∀ p:Array Nat,eN vs.length p->UpO o p vs.length->P (.done (.ret .none)) { s with heap:=sortedHeap s.heap a vs (p.toList.map fun i=>vs.getD i We).toArray }) :
  Vk (Vs prog w) A (XS.«list.sort» ⟨[.ref a],[]⟩) P E s:=by
 rw[list_sort_plain]
 have ha:a < s.heap.objs.size:=Vo ho
 refine U9 (listItems_at ho rfl ?_)
 refine U9 (abo ho rfl ?_ (by rw[Vu,Y8]; lia) (VL _))
 obtain⟨e1,ho1⟩:∃ e1,(s.heap.update a (Xa fun _=>#[])).get? a=some (Xm "list" #[] e1):=⟨_,get?_update_seq ho (fun _=>#[])⟩
 refine U9 (seqEpoch_at ho1 rfl ?_)
 refine U9 (wpAny_newTuple ?_ (by show vs.length<=_; rw[Y8]; lia))
 refine U9 (aaB ?_ (VL _))
 refine Xy ?_
 have ho6:(((s.heap.update a (Xa fun _=>#[])).push (Xm "tuple" vs.toArray 0)).push (Xm "list" #[] 0)).get? a=some (Xm "list" #[] e1):=by
  rw[Y6 _ _ _ (by rw[size_push',Zj]; exact Vx (Wj ha)),Y6 _ _ _ (by rw[Zj]; exact Vx ha)]
  exact ho1
 have kp:u0 s.heap (((s.heap.update a (Xa fun _=>#[])).push (Xm "tuple" vs.toArray 0)).push (Xm "list" #[] 0)) a:=fun b o hb e=>by
  have hlt:b < s.heap.objs.size:=Vo e
  rw[Y6 _ _ _ (by rw[size_push',Zj]; exact Vx (Wj hlt)),Y6 _ _ _ (by rw[Zj]; exact Vx hlt),Heap.get?_update_ne _ _ _ _ hb]
  exact e
 show Vk (Vs prog w) A _ P E { s with heap:=((s.heap.update a (Xa fun _=>#[])).push (Xm "tuple" vs.toArray 0)).push (Xm "list" #[] 0) }
 dsimp only
 have hsz:vs.toArray.size=vs.length:=by simp
 have erange:(abL (VD vs.length)).map (kas_item (aah vs))=aah vs:=by
  have e:=kas_range (aah vs)
  rw[show (aah vs).size=vs.length from pairsOf_size vs] at e
  exact e
 have emap:∀ p:Array Nat,(p.map (kas_item (aah vs))).map (·.2)=(p.toList.map fun i=>vs.getD i We).toArray:=fun p=>by
  apply Array.ext'
  simp [kas_item_eq]
 by_cases h2:vs.toArray.size < 2
 ·rw[if_pos h2,if_pos h2]
  refine U9 (Vd ?_)
  rw[StateT.run_pure]
  refine U9 (Vd ?_)
  dsimp only
  have em:(aah vs).map (·.2)=((VD vs.length).map fun i=>vs.getD i We).toArray:=by
   rw[← erange,emap]
  refine U9 (seqEpoch_at ho6 rfl ?_)
  refine U9 (abo ho6 rfl ?_ (VL _) (by rw[Array.size_map]; show (aah vs).size<=_; rw[pairsOf_size,Y8]; lia))
  simp only[bne_self_eq_false,aar,if_false]
  have:=h (abL (VD vs.length)) (List.Perm.refl _) fun i j hij hj=>by lia
  refine Vd ?_
  show P _ { s with heap:=sortedHeap s.heap a vs ((aah vs).map (·.2)) }
  rw[em]
  exact this
 ·rw[if_neg h2,if_neg h2]
  refine U9 (hk (by lia) _ kp _ ?_)
  have est:SortSt.mk' κ (vs.toArray.zip vs.toArray) #[] 7 none=kas_st κ (aah vs) (abL (VD vs.length)):=by
   unfold kas_st
   rw[erange]
   rfl
  rw[est]
  refine U9 (WN (kas_runs (prog:=prog) (w:=w) (A:=A) (E:=E) (it:=aah vs) (κ:=κ) (n:=vs.length) (s:={ s with heap:=((s.heap.update a (Xa fun _=>#[])).push (Xm "tuple" vs.toArray 0)).push (Xm "list" #[] 0) })
   (G:=fun p s'=>(eN vs.length p/\UpO o p vs.length)/\s'={ s with heap:=((s.heap.update a (Xa fun _=>#[])).push (Xm "tuple" vs.toArray 0)).push (Xm "list" #[] 0) })
   (Q:=fun _ st' s'=>(∃ p,(eN vs.length p/\UpO o p vs.length)/\arrOf st'=p.map (kas_item (aah vs))/\failedOf st'=none)/\s'={ s with heap:=((s.heap.update a (Xa fun _=>#[])).push (Xm "tuple" vs.toArray 0)).push (Xm "list" #[] 0) })
   (by lia) h64 (fun p' st' s' _ ea ef hg=>⟨⟨p',hg.1,ea,ef⟩,hg.2⟩) (Ln tr tot (fun i j hi hj C hC=>?_) (by lia) fun p hp hu=>⟨⟨hp,hu⟩,rfl⟩)) ?_ fun _ _ e=>e)
  ·unfold kas_cmp
   rw[kas_item_eq,kas_item_eq]
   exact hO _ kp i j hi hj C hC
  ·rintro⟨⟨⟩,st'⟩ s' ⟨⟨p,⟨hp,hu⟩,e1,e2⟩,rfl⟩
   dsimp only at e1 e2 ⊢
   have em:(arrOf st').map (·.2)=(p.toList.map fun i=>vs.getD i We).toArray:=by rw[e1,emap]
   refine U9 (seqEpoch_at ho6 rfl ?_)
   refine U9 (abo ho6 rfl ?_ (VL _) (by rw[em,Vu,Vb,VM,hp.size,Y8]; lia))
   rw[e2]
   simp only[bne_self_eq_false,aar,if_false]
   rw[em]
   exact Vd (h p hp hu)
end
end L2
namespace L2
open PySem PySem.Spec PyProof.Rows PySem.W
section
variable {prog:Vy} {w:V3} {A:V0} {E:Value->Vc->Prop} {s:Vc}
theorem Di {l:Addr} {vs:List Value} {κ:Z4} {o:Nat->Nat->Bool} {Q:Value->Vc->Prop} (hl:s.heap.IsList l vs.toArray) (h64:vs.length < 64)
  (hk:2<=vs.length->∀ h':Wb,(∀ b o,s.heap.get? b=some o->h'.get? b=some o)->∀ Q:Z4->Vc->Prop,Q κ { s with heap:=h' }->Vk (Vs prog w) A.in1.in1 (keyKind' vs.toArray) Q E { s with heap:=h' })
  (hO:∀ h':Wb,(∀ b o,s.heap.get? b=some o->h'.get? b=some o)->∀ i j,i < vs.length->j < vs.length->∀ C:Bool->Vc->Prop,C (o i j) { s with heap:=h' }->Vk (Vs prog w) A.in1.in1 (keyLt' κ (vs.getD i We) (vs.getD j We)) C (fun _ _=>False) { s with heap:=h' })
  (tr:∀ i j k,i < vs.length->j < vs.length->k < vs.length->o i j=true->o j k=true->o i k=true) (tot:∀ i j,i < vs.length->j < vs.length->i≠j->o i j=false->o j i=true)
  (h:∀ p:Array Nat,eN vs.length p->UpO o p vs.length->Q (.ref (s.heap.objs.size+1)) { s with heap:=sortedAll s.heap vs (p.toList.map fun i=>vs.getD i We).toArray }) :
  Vk (Vs prog w) A (call (.builtin "sorted") [.ref l]) Q E s:=by
 refine aat kind_sorted plain_sorted entry_sorted (args_sorted1 _) ?_
 unfold XS.«sorted»
 refine U9 (m:=checkCount "sorted" 1 1 _) (Vd ?_)
 refine U9 (collect_list hl ?_ (by rw[Y8]; lia))
 refine U9 (aaB ?_ (by rw[Y8]; lia))
 have hsz:((s.heap.push (Xm "list" #[] 0)).update s.heap.objs.size (Xa (·++vs.toArray))).objs.size=s.heap.objs.size+1:=by
  rw[Zj,size_push']
 have hoL:(((s.heap.push (Xm "list" #[] 0)).update s.heap.objs.size (Xa (·++vs.toArray))).push (Xm "list" vs.toArray 0)).get? (s.heap.objs.size+1)=some (Xm "list" vs.toArray 0):=by
  rw[← hsz]; exact Vh _ rfl
 have keep:∀ b o,s.heap.get? b=some o->(((s.heap.push (Xm "list" #[] 0)).update s.heap.objs.size (Xa (·++vs.toArray))).push (Xm "list" vs.toArray 0)).get? b=some o:=fun b o q=>by
  have hlt:b < s.heap.objs.size:=Vo q
  rw[Y6 _ _ _ (by rw[hsz]; exact Vx (Wj hlt)),Heap.get?_update_ne _ _ _ _ (Vx hlt),Y6 _ _ _ (Vx hlt)]
  exact q
 have kb:∀ h':Wb,u0 (((s.heap.push (Xm "list" #[] 0)).update s.heap.objs.size (Xa (·++vs.toArray))).push (Xm "list" vs.toArray 0)) h' (s.heap.objs.size+1)->∀ b o,s.heap.get? b=some o->h'.get? b=some o:=fun h' k b o q =>
  k b o (Vx (Wj (Vo q))) (keep b o q)
 show Vk _ _ _ _ _ { s with heap:=((s.heap.push (Xm "list" #[] 0)).update s.heap.objs.size (Xa (·++vs.toArray))).push (Xm "list" vs.toArray 0) }
 rw[hsz]
 refine U9 (Xy (Wm slot_list_sort ⟨_,hoL,rfl⟩ acf (uL (s:={ s with heap:=((s.heap.push (Xm "list" #[] 0)).update s.heap.objs.size (Xa (·++vs.toArray))).push (Xm "list" vs.toArray 0) }) hoL h64 (fun h2 h' k=>hk h2 h' (kb h' k)) (fun h' k=>hO h' (kb h' k)) tr tot fun p hp hu=>⟨_,rfl,?_⟩) (args_list_sort _)))
 exact Vd ⟨_,rfl,h p hp hu⟩
end
theorem Js {β:Type} {l:List β} {d:β} {p:Array Nat} (hp:eN l.length p):(p.toList.map fun i=>l.getD i d).Perm l:=by
 refine (List.Perm.map _ hp).trans ?_
 have e:(VD l.length).map (fun i=>l.getD i d)=l:=by
  apply List.ext_getElem (by simp)
  intro i h1 h2
  simp [h2]
 rw[e]
section
variable {X:Cx} {k:Nat}
inductive Br (K:VB) (xs:List V) (H:Hp) (Q:VK):Prop where
 | mk (p:Addr) (ps:List (Addr × List Int)) (z0:xs=[.ref p]) (z1:SqL K H p (ps.map fun p=>V.ref p.1)) (z2:ps.length < 64) (z3:(∀ q∈ps,SqL K H q.1 (q.2.map V.int))) (z4:(ps.map (·.2)).Nodup) (z5:∀ qs:List (Addr × List Int),qs.Perm ps->qs.Pairwise (fun a b=>HT.lexLt a.2 b.2=true)->∀ l,H l=none->Q (.ref l) (upd H l (.lst (qs.map fun p=>V.ref p.1)))):Br K xs H Q
def Fl (K:VB):List V->Hp->VK->Prop:=fun xs H Q=>Br K xs H Q
theorem yC (hr:jH k X.A):iQ X (.builtin "sorted") (Fl X.K):=by
 intro pins s σ H xs us Q I r h
 obtain⟨p,ps,rfl,hq,h64,ht,hnd,q⟩:=h
 obtain⟨u,rfl,ru⟩:=vals1 r
 cases ru
 obtain⟨its,rv,pl,_⟩:=I.list hq
 have ei:=G3 ps its rv
 subst ei
 have lv:(ps.map fun p=>V4 p.1).length=ps.length:=by simp
 have pr:∀ p∈ps,∃ its:List Value,s.heap.IsList p.1 its.toArray/\Ww its p.2:=fun p hm=>by
  obtain⟨i2,r2,p2,_⟩:=I.list (ht p hm)
  exact⟨i2,p2.isList,intsAre_of r2⟩
 have kl:∀ {h':Wb} {a:Addr} {it:Array Value},(∀ b o,s.heap.get? b=some o->h'.get? b=some o)->s.heap.IsList a it->h'.IsList a it:=fun kp ⟨ob,e,r⟩=>⟨ob,kp _ _ e,r⟩
 have hu:X.A.in1.in1.units < cLine:=by
  have:=hr.un
  show X.A.units+1+1 < _
  lia
 let o:Nat->Nat->Bool:=fun i j=>HT.lexLt (ps.getD i (0,[])).2 (ps.getD j (0,[])).2
 have dif:∀ i j,i < ps.length->j < ps.length->i≠j->(ps.getD i (0,[])).2≠(ps.getD j (0,[])).2:=fun i j hi hj ne z=>by
  have h1:(ps.getD i (0,[])).2=(ps.map (·.2))[i]'(by simpa using hi):=by simp [hi]
  have h2:(ps.getD j (0,[])).2=(ps.map (·.2))[j]'(by simpa using hj):=by simp [hj]
  rw[h1,h2] at z
  exact ne ((aaM hnd).mp z)
 refine Di (o:=o) (κ:=oneType') pl.isList (by lia) (fun h2 h' kp Q' hQ=>?_) (fun h' kp i j hi hj C hC=>?_) (fun i j k _ _ _ a b=>j9 a b) (fun i j hi hj ne e=>vH (dif i j (by lia) (by lia) ne) e) fun pm hp hup=>?_
 ·refine kas_kind (T:=.type "list") h2 (fun v hv=>?_) (by rfl) (by rfl) hQ
  obtain⟨p,hm,rfl⟩:=List.mem_map.mp hv
  obtain⟨it,h1,_⟩:=pr p hm
  obtain⟨ob,e,c,_⟩:=kl kp h1
  exact kitAt_ty _ _ ⟨ob,e,c⟩
 ·have hi':i < ps.length:=by lia
  have hj':j < ps.length:=by lia
  rw[show (ps.map fun p=>V4 p.1).getD i We = .ref ps[i].1 by simp [hi'],show (ps.map fun p=>V4 p.1).getD j We = .ref ps[j].1 by simp [hj']]
  obtain⟨i1,l1,n1⟩:=pr ps[i] (Xw hi')
  obtain⟨i2,l2,n2⟩:=pr ps[j] (Xw hj')
  refine Fp (kl kp l1) (kl kp l2) (by simpa using n1) (by simpa using n2) hu ?_
  have:o i j=HT.lexLt ps[i].2 ps[j].2:=by simp [o,hi',hj']
  rw[← this]
  exact hC
 ·rw[lv] at hp hup
  obtain⟨e,he⟩:=sortedAll_at s.heap (ps.map fun p=>V4 p.1) (pm.toList.map fun i=>(ps.map fun p=>V4 p.1).getD i We).toArray
  have hlt:∀ i∈pm.toList,i < ps.length:=fun i hi=>List.mem_range.mp (hp.mem_iff.mp hi)
  have hml:(pm.toList.map fun i=>V.ref (ps.getD i (0,[])).1).length<=sizeLine:=by
   rw[Vb,VM,hp.size,Y8]
   lia
  have q':=q (pm.toList.map fun i=>ps.getD i (0,[])) (Js hp) ?_ (s.heap.objs.size+1) (I.hok.fresh (Xi _))
  ·rw[YM] at q'
   exact⟨.ref _,_,I.Lq rfl rfl (fun _ _=>sortedAll_old) (Xi _) (Fw pm.toList hlt) hml he,rfl,q'⟩
  ·rw[List.pairwise_iff_getElem]
   intro i j hi hj hij
   rw[Vb,VM,hp.size] at hi hj
   have:=hup i j hij hj
   simp only[List.getElem_map]
   have g:∀ x (hx:x < ps.length),pm.getD x 0=pm.toList[x]'(by rw[VM,hp.size]; exact hx):=fun x hx=>by
    have:x < pm.size:=by rw[hp.size]; exact hx
    simp [Array.getD,this]
   rw[g i hi,g j hj] at this
   exact this
end
end L2
namespace L2
open PySem PySem.Spec PyProof.Rows
inductive HasDef (K:Vq) (x:V9) (st:Stmt) (f:Addr):Prop where
 | mk {od an:Option Addr} {sl:Array (Option Value)} {oc kV dc pm cd ct:Value} (a:PySem.W.nsIn K VJ x=some (some (.ref f))) (l:K.lookup f=some ⟨oc,od,.func (Zh x x (fu st) (eG st) (aD st) .none kV dc pm an cd ct),sl⟩) (c:aao K cd x=true) (k:Yi K (.ref f)=true):HasDef K x st f
section
variable {P:Vy} {w:V3} {K:VB} {mg:V9->Option Value} {base h:Wb} {x:V9} {st:Stmt} {f:Addr} {ps:List V9} {sp:Sp} {k:Nat}
theorem HasDef.name (q:HasDef K x st f) (X:K.In h) (G:h.Ns VJ mg):mg x=some (.ref f):=by
 obtain⟨a,l,c,k⟩:=q
 exact PySem.W.mg_of X G a
theorem HasDef.df (q:HasDef K x st f) (X:K.In h) (G:h.Ns VJ mg) (hb:∀ fd,Fun K x x st f fd->Binds K fd ps []) (ok:∀ fd,Fun K x x st f fd->cG P w K mg base CX0 k f fd ps sp):Df P w K mg base x k ps sp:=by
 obtain⟨a,l,c,k⟩:=q
 have F:=Bf l c k
 exact⟨⟨_,_,ok _ F,PySem.W.mg_of X G a,k,hb _ F⟩⟩
theorem HasDef.law {y:V9} (q:HasDef K x st f) (hb:∀ (kV dc pm:Value) (an:Option Addr) (cd ct:Value) (s:Vc) (v:Value),abk s (W.fnOf x x (fu st) (eG st) (aD st) .none kV dc pm an cd ct) ⟨[v],[]⟩ [(y,v)]):∃ fd,Fun K x x st f fd/\∀ (s:Vc) (v:Value),abk s fd ⟨[v],[]⟩ [(y,v)]:=by
 obtain⟨a,l,c,k⟩:=q
 exact⟨_,Bf l c k,hb _ _ _ _ _ _⟩
theorem T5 {α:Type}:∀ {us:List α},us.length=1->∃ x0,us=[x0]
 | [x0],_=>⟨x0,rfl⟩
theorem S7 {α:Type}:∀ {us:List α},us.length=2->∃ x0 x1,us=[x0,x1]
 | [x0,x1],_=>⟨x0,x1,rfl⟩
theorem Tq {α:Type}:∀ {us:List α},us.length=3->∃ x0 x1 x2,us=[x0,x1,x2]
 | [x0,x1,x2],_=>⟨x0,x1,x2,rfl⟩
theorem U0 {α:Type}:∀ {us:List α},us.length=4->∃ x0 x1 x2 x3,us=[x0,x1,x2,x3]
 | [x0,x1,x2,x3],_=>⟨x0,x1,x2,x3,rfl⟩
theorem T9 {α:Type}:∀ {us:List α},us.length=5->∃ x0 x1 x2 x3 x4,us=[x0,x1,x2,x3,x4]
 | [x0,x1,x2,x3,x4],_=>⟨x0,x1,x2,x3,x4,rfl⟩
theorem bind1 {a0:V9} (h:∀ (kV doc pm:Value) (an:Option Addr) (cdv ct x0:Value),aa5 (W.fnOf x x (fu st) (eG st) (aD st) .none kV doc pm an cdv ct) ⟨[x0],[]⟩=pure [(a0,x0)]):∀ fd,Fun K x x st f fd->Binds K fd [a0] []:=fun _ F=>F.binds fun kV doc pm an cdv ct us hl=>by
 obtain⟨x0,rfl⟩:=T5 hl
 exact h kV doc pm an cdv ct x0
theorem cO {a0 a1:V9} (h:∀ (kV doc pm:Value) (an:Option Addr) (cdv ct x0 x1:Value),aa5 (W.fnOf x x (fu st) (eG st) (aD st) .none kV doc pm an cdv ct) ⟨[x0,x1],[]⟩=pure [(a0,x0),(a1,x1)]):∀ fd,Fun K x x st f fd->Binds K fd [a0,a1] []:=fun _ F=>F.binds fun kV doc pm an cdv ct us hl=>by
 obtain⟨x0,x1,rfl⟩:=S7 hl
 exact h kV doc pm an cdv ct x0 x1
theorem iR {a0 a1 a2:V9} (h:∀ (kV doc pm:Value) (an:Option Addr) (cdv ct x0 x1 x2:Value),aa5 (W.fnOf x x (fu st) (eG st) (aD st) .none kV doc pm an cdv ct) ⟨[x0,x1,x2],[]⟩=pure [(a0,x0),(a1,x1),(a2,x2)]):∀ fd,Fun K x x st f fd->Binds K fd [a0,a1,a2] []:=fun _ F=>F.binds fun kV doc pm an cdv ct us hl=>by
 obtain⟨x0,x1,x2,rfl⟩:=Tq hl
 exact h kV doc pm an cdv ct x0 x1 x2
theorem yS {a0 a1 a2 a3:V9} (h:∀ (kV doc pm:Value) (an:Option Addr) (cdv ct x0 x1 x2 x3:Value),aa5 (W.fnOf x x (fu st) (eG st) (aD st) .none kV doc pm an cdv ct) ⟨[x0,x1,x2,x3],[]⟩=pure [(a0,x0),(a1,x1),(a2,x2),(a3,x3)]):∀ fd,Fun K x x st f fd->Binds K fd [a0,a1,a2,a3] []:=fun _ F=>F.binds fun kV doc pm an cdv ct us hl=>by
 obtain⟨x0,x1,x2,x3,rfl⟩:=U0 hl
 exact h kV doc pm an cdv ct x0 x1 x2 x3
theorem Qy {a0 a1 a2 a3 a4:V9} (h:∀ (kV doc pm:Value) (an:Option Addr) (cdv ct x0 x1 x2 x3 x4:Value),aa5 (W.fnOf x x (fu st) (eG st) (aD st) .none kV doc pm an cdv ct) ⟨[x0,x1,x2,x3,x4],[]⟩=pure [(a0,x0),(a1,x1),(a2,x2),(a3,x3),(a4,x4)]):∀ fd,Fun K x x st f fd->Binds K fd [a0,a1,a2,a3,a4] []:=fun _ F=>F.binds fun kV doc pm an cdv ct us hl=>by
 obtain⟨x0,x1,x2,x3,x4,rfl⟩:=T9 hl
 exact h kV doc pm an cdv ct x0 x1 x2 x3 x4
end
end L2
namespace L2
open PySem PySem.Spec PyProof.Rows
structure Dm2 (P:Vy) (w:V3) (K:Vq) (mg:V9->Option Value) (base:Wb) (C:Addr) (m:V9) (k:Nat) (ps:List V9) (sp:Sp):Prop where
 ex:∃ (f:Addr) (fd:X5),cG P w K mg base CX0 k f fd ps sp/\Cls K C/\Meth K C m f/\Binds K fd ps []
structure Dk2 (P:Vy) (w:V3) (K:Vq) (mg:V9->Option Value) (base:Wb) (x:V9) (C:Addr) (k:Nat) (ps:List V9) (sp:Sp):Prop where
 ex:∃ (f:Addr) (fd:X5),cG P w K mg base CX0 k f fd ps sp/\Mk K C f/\mg x=some (.ref C)/\Binds K fd ps []
section
variable {X:Cx} {k j:Nat} {x m:V9} {C:Addr} {ps:List V9} {sp:Sp} {p pos apos:Zf} {o e:Expr} {es:List Expr} {to:TE} {t:TA} {f:V9}
theorem mZ {pl:Sem Bool} (D:Dm2 X.prog X.w X.K X.mg X.base C m k ps sp) (hr:jH j X.A) (ho:PE X o to) (ha:PA X (e::es) t) (hk:k<=j:=by first | decide | exact Vg _ | lia)
  (hst:VN (e::es) X.env=(false,Xn e X.env)::VN es X.env:=by rfl) (hpl:(Yc pos (VN es X.env)).any (·.1)=false:=by rfl)
  (ht:Xn (.Call (.Attribute o m apos) (e::es) [] pos) X.env=(do
   let ov ← Xn o X.env
   aaw apos.atName
   let (f,first) ← abe [ov] (abf ov m pl)
   callWith pos f first (Yc pos (VN (e::es) X.env)) (backToKw pos (aa4 [] X.env))):=by rfl) :
  PE X (.Call (.Attribute o m apos) (e::es) [] pos) (Kf C m sp [] E0 to t):=by
 obtain⟨f,fd,F,c,hm,hb⟩:=D.ex
 exact PQ ho c hm F (hr.mono hk) hb .nil GD ha hst hpl ht
theorem RZ {pl:Sem Bool} (D:Dm2 X.prog X.w X.K X.mg X.base C m k ps sp) (hr:jH j X.A) (ho:PE X o to) (hk:k<=j:=by first | decide | exact Vg _ | lia)
  (ht:Xn (.Call (.Attribute o m apos) [] [] pos) X.env=(do
   let ov ← Xn o X.env
   aaw apos.atName
   let (f,first) ← abe [ov] (abf ov m pl)
   callWith pos f first (Yc pos (VN [] X.env)) (backToKw pos (aa4 [] X.env))):=by rfl) :
  PE X (.Call (.Attribute o m apos) [] [] pos) (Kf C m sp [] E0 to CT):=by
 obtain⟨f,fd,F,c,hm,hb⟩:=D.ex
 exact K3 ho c hm F (hr.mono hk) hb .nil GD ht
theorem Iw (D:Dk2 X.prog X.w X.K X.mg X.base x C k ps sp) (hr:jH j X.A) (ha:PA X (e::es) t) (hk:k+1<=j:=by first | decide | exact Vg _ | lia) (hg:Gl X x:=by rfl)
  (hdb:(x == ("__debug__" : V9))=false:=by decide) (he:VN (e::es) X.env=(false,Xn e X.env)::VN es X.env:=by rfl) (hpl:(Yc pos (VN es X.env)).any (·.1)=false:=by rfl) :
  PE X (.Call (.Name x p) (e::es) [] pos) (Kw C sp [] E0 t):=by
 obtain⟨f,fd,F,M,hm,hb⟩:=D.ex
 exact Oa M F (hr.mono hk) hg hm hb .nil GD ha hdb he hpl
theorem QB (D:Dk2 X.prog X.w X.K X.mg X.base x C k ps sp) (hr:jH j X.A) (hk:k+1<=j:=by first | decide | exact Vg _ | lia) (hg:Gl X x:=by rfl)
  (hdb:(x == ("__debug__" : V9))=false:=by decide):PE X (.Call (.Name x p) [] [] pos) (Kw C sp [] E0 CT):=by
 obtain⟨f,fd,F,M,hm,hb⟩:=D.ex
 exact J4 M F (hr.mono hk) hg hm hb .nil GD hdb
theorem bu (K:VB) (hK:X.K=K) (he:PE X e to) (hb:aaD e f X.env (Xn e X.env)=Xn e X.env:=by rfl):PE X (.Attribute e f pos) (Ua K to f):=by
 subst hK
 exact SJ he hb
end
end L2
namespace L2
open PySem PySem.Spec PyProof.Rows
section
variable {prog:Vy} {w:V3} {A:V0} {E:Value->Vc->Prop} {s:Vc}
theorem JP {t:Addr} {zs:List Value} {R:List Value->Vc->Prop} (ht:s.heap.IsTuple t zs.toArray) (hz:zs.length<=sizeLine)
  (k:R zs { s with heap:=(s.heap.push (Xm "list" #[] 0)).update s.heap.objs.size (Xa (·++zs.toArray)) }):Vk (Vs prog w) A (collect (.ref t)) R E s:=by
 obtain⟨o,ho,hc,m,hd⟩:=id ht
 have old:(s.heap.push (Xm "list" #[] 0)).get? t=some o:=Va _ ho
 have new:(s.heap.push (Xm "list" #[] 0)).get? s.heap.objs.size=some (Xm "list" #[] 0):=Vh _ rfl
 unfold collect
 apply U9
 apply wpAny_runValue
 apply Xf entry_proto_collect'
 apply U9 (m:=acr [])
 refine aaB ?_
 apply Vd
 refine⟨Code.quiet_builtin _ (by decide+kernel),?_⟩
 apply Xf entry_list_iadd'
 show Vk _ _ (Y7 _ _ _) _ _ _
 unfold Y7
 apply U9
 refine abA (T:="tuple") ⟨o,old,hc⟩ ?_
 rw[if_pos (by rw[show (Yh "tuple" == Yh "tuple")=true from rfl]; simp)]
 apply U9
 apply listItems_at old hd
 apply U9
 apply listItems_at (xs:=#[]) (n:=0) new rfl
 rw[if_neg (by simp)]
 apply U9
 refine abo (xs:=#[]) (n:=0) new rfl ?_ (VL _) ?_
 ·apply Vd
  apply U9 (m:=load s.heap.objs.size)
  apply wpAny_load (get?_update_seq new _)
  show Vk _ _ (pure ((#[]:Array Value)++zs.toArray).toList) R E _
  have e:((#[]:Array Value)++zs.toArray).toList=zs:=by simp
  rw[e]
  exact Vd k
 ·have e:((#[]:Array Value)++zs.toArray).size=zs.length:=by simp
  show ((#[]:Array Value)++zs.toArray).size<=sizeLine+1
  rw[e]
  exact Nat.le_succ_of_le hz
theorem Dq {t:Addr} {zs:List Value} {ns:List Int} {R:Value->Vc->Prop} (ht:s.heap.IsTuple t zs.toArray) (hi:Ww zs ns) (h64:zs.length < 64)
  (k:∀ (out:Array Value) (ms:List Int),Ww out.toList ms->ms.Perm ns->ms.Pairwise (·<=·)->R (.ref (s.heap.objs.size+1)) { s with heap:=sortedAll s.heap zs out }):Vk (Vs prog w) A (call (.builtin "sorted") [.ref t]) R E s:=by
 apply aat kind_sorted plain_sorted entry_sorted (args_sorted1 _)
 unfold XS.«sorted»
 apply U9 (m:=checkCount "sorted" 1 1 _)
 apply Vd
 apply U9
 apply JP ht (Yd (ZL h64 (by decide)))
 apply U9
 refine aaB ?_ (hsz:=Yd (ZL h64 (by decide)))
 generalize eg:(s.heap.push (Xm "list" #[] 0)).update s.heap.objs.size (Xa (·++zs.toArray))=g
 have hg:g.objs.size=s.heap.objs.size+1:=by rw[← eg,Zj,size_push']
 have top:(g.push (Xm "list" zs.toArray 0)).get? (s.heap.objs.size+1)=some (Xm "list" zs.toArray 0):=by
  rw[← hg]
  exact Vh _ rfl
 show Vk _ _ _ _ _ { s with heap:=g.push (Xm "list" zs.toArray 0) }
 rw[hg]
 apply U9
 apply Xy
 refine Wm slot_list_sort ⟨_,top,rfl⟩ acf ?_ (args_list_sort _)
 ·refine list_sort_tree top hi h64 fun out ms a1 a2 a3=>⟨_,rfl,?_⟩
  have:=k out ms a1 a2 a3
  unfold sortedAll at this
  rw[eg] at this
  exact Vd ⟨_,rfl,this⟩
end
section
variable {X:Cx}
inductive Ir (K:VB) (xs:List V) (H:Hp) (Q:VK):Prop where
 | mk (p:Addr) (ns:List Int) (z0:xs=[.ref p]) (z1:SqT K H p (ns.map V.int)) (z2:ns.length < 64) (z3:∀ ms:List Int,ms.Perm ns->ms.Pairwise (·<=·)->∀ l,H l=none->Q (.ref l) (upd H l (.lst (ms.map V.int)))):Ir K xs H Q
def MT (K:VB):List V->Hp->VK->Prop:=fun xs H Q=>Ir K xs H Q
theorem Ds:iQ X (.builtin "sorted") (MT X.K):=by
 intro pins s σ H xs us Q I r h
 obtain⟨p,ns,rfl,hq,h64,q⟩:=h
 obtain⟨u,rfl,ru⟩:=vals1 r
 cases ru
 obtain⟨its,rv,pl,hz⟩:=I.tuple hq
 have hi:Ww its ns:=intsAre_of rv
 refine Dq pl hi (by have:=hi.length; lia) fun out ns' a1 a2 a3=>?_
 obtain⟨e,he⟩:=sortedAll_at s.heap its out
 have hml:(ns'.map V.int).length<=sizeLine:=by
  rw[Vb,a2.length_eq]
  exact Yd (Vt h64 (by decide))
 exact⟨.ref _,_,I.Lq rfl rfl (fun _ _=>sortedAll_old) (Xi _) (ji a1) hml he,rfl,q ns' a2 a3 _ (I.hok.fresh (Xi _))⟩
end
end L2
namespace L2
open PySem PySem.Spec PyProof.Rows
inductive jM (K:Vq) (x:V9) (C:Addr):Prop where
 | mk (a:PySem.W.nsIn K VJ x=some (some (.ref C))) (pg:ZW K C Str.empty=true) (hd:aay K C=true) (po:abI K C=true) (sa:Xp K (.ref C) "__setattr__" = some (some (.builtin "object.__setattr__"))) (ms:acj K C=true) (kp:Yi K (.ref C)=true):jM K x C
inductive dh (K:Vq) (C:Addr) (m q:V9) (st:Stmt) (f:Addr):Prop where
 | mk {od an:Option Addr} {sl:Array (Option Value)} {oc kV dc pm cd ct:Value} (a:Xp K (.ref C) m=some (some (.ref f))) (fn:abK K (.ref f)=true) (l:K.lookup f=some ⟨oc,od,.func (Zh m q (fu st) (eG st) (aD st) .none kV dc pm an cd ct),sl⟩) (c:aao K cd q=true) (k:Yi K (.ref f)=true):dh K C m q st f
section
variable {P:Vy} {w:V3} {K:VB} {mg:V9->Option Value} {base h:Wb} {x m q:V9} {st:Stmt} {C f:Addr} {ps:List V9} {sp:Sp} {k:Nat}
theorem jM.cl (c:jM K x C):Cls K C:=by
 obtain⟨_,pg,hd,po,sa,_,_⟩:=c
 exact⟨pg,hd,po,sa⟩
theorem dh.dm (o:dh K C m q st f) (c:jM K x C) (hb:∀ fd,Fun K m q st f fd->Binds K fd ps []) (ok:∀ fd,Fun K m q st f fd->cG P w K mg base CX0 k f fd ps sp):Dm2 P w K mg base C m k ps sp:=by
 obtain⟨a,fn,l,cd,k⟩:=o
 have F:=Bf l cd k
 exact⟨⟨_,_,ok _ F,c.cl,⟨a,fn,k⟩,hb _ F⟩⟩
theorem dh.dk (o:dh K C "__init__" q st f) (c:jM K x C) (X:K.In h) (G:h.Ns VJ mg) (hb:∀ fd,Fun K "__init__" q st f fd->Binds K fd ps []) (ok:∀ fd,Fun K "__init__" q st f fd->cG P w K mg base CX0 k f fd ps sp):Dk2 P w K mg base x C k ps sp:=by
 obtain⟨a,fn,l,cd,k⟩:=o
 obtain⟨n,_,_,_,_,ms,kp⟩:=c
 have F:=Bf l cd k
 exact⟨⟨_,_,ok _ F,⟨ms,a,fn,kp⟩,PySem.W.mg_of X G n,hb _ F⟩⟩
end
end L2
namespace My
open PySem L2
variable {P:Vy} {w:V3} {K:VB} {mg:V9->Option Value} {base:Wb} {f:Addr} {fd:X5}
def top (i:Nat):Stmt:=PySem.Challenge.pw_loveboon_k44_whole_pledges_in_any_order.main.body.getD i (.Pass ⟨0,0,0,0⟩)
theorem aC {H:Hp} {p:Addr} (h:H p=none) (o:HO):aZ H (upd H p o):=fun b u q=>by rw[bh (eE q h)]; exact q
theorem aQ {H H':Hp} {p:Addr} (s:aZ H H') (h:H p=none) (o:HO):aZ H (upd H' p o):=fun b u q=>by rw[bh (eE q h)]; exact s b u q
theorem jO {K:VB} {H H':Hp} {a:Addr} {xs:List V} (e:aZ H H') (h:SqT K H a xs):SqT K H' a xs:=by
 rcases h with (h | ⟨o,h⟩) | h
 ·exact .inl (.inl (e _ _ h))
 ·exact .inl (.inr ⟨o,e _ _ h⟩)
 ·exact .inr h
theorem IW {H:Hp} {p:Addr} {o o':HO}:upd (upd H p o) p o'=upd H p o':=by
 funext b
 unfold upd
 by_cases e:b=p
 ·rw[if_pos e,if_pos e]
 ·rw[if_neg e,if_neg e,if_neg e]
theorem small {n:Nat} (h:n<=1000):n<=sizeLine:=Yd (aJ h)
theorem int_at {ns:List Int} {i:Nat} {x:V} (h:(ns.map V.int)[i]? = some x):∃ n,ns[i]? = some n/\x = .int n:=by
 rw[VF] at h
 cases e:ns[i]? with
 | none=>rw[e] at h; cases h
 | some n=>rw[e] at h; exact⟨n,rfl,(Wn h).symm⟩
theorem tL {α β:Type} (f:α->β) {xs:List α} {i:Nat} {x:α} (h:xs[i]? = some x):(xs.take i).map f++[f x]=(xs.take (i+1)).map f:=by
 rw[V1,h,Vl]
 rfl
theorem v8 {ns:List Int} {i:Nat} (h:i < ns.length):atI (ns.map V.int) (i:Int)=some (.int ns[i]):=gQ (by rw[VF,Vf h]; rfl)
theorem gT {i:Nat} {x:V} {σ:St} {H:Hp} {A B:St->Hp->Prop} (h:A (σ.set i (some x)) H):CN i x σ H (fun σ3 H3=>Qc σ3 H3 (fun b H4=>if b=true then A σ3 H4 else B σ3 H4)):=by
 show if true=true then A (σ.set i (some x)) H else B (σ.set i (some x)) H
 rw[if_pos rfl]
 exact h
theorem aP {H H1:Hp} {p:Addr} {o:HO} (e:upd H p o=H1) (h:H p=none):aZ H H1/\H1 p=some o:=by
 subst e
 exact⟨aC h _,aq⟩
theorem aM {xs:List V} {k:Nat} {v:V} (h:xs[k]? = some v):atI xs (k:Int)=some v:=gQ h
theorem d7 {ns:List Int} {k:Nat} {n:Int} (h:ns[k]? = some n):(ns.map V.int)[k]? = some (.int n):=by rw[VF,h]; rfl
theorem tT {σ:St} {H:Hp} {A B:Hp->Prop} (h:A H):Qc σ H (fun b H4=>if b=true then A H4 else B H4):=by
 show if true=true then A H else B H
 rw[if_pos rfl]
 exact h
theorem oO:∀ ns:List Int,rR (ns.map Dm.int)=0
 | []=>by simp [rR]
 | n::r=>by simp [rR,Dm.dep,oO r]
theorem oF {H:Hp} {a:Addr} {ns:List Int} (h:H a=some (.tup (ns.map V.int))) (l:ns.length<=1000):Rep H (.ref a) (.tup (ns.map Dm.int)):=.tup h (by rw[Vb]; lia) (o8 ns)
theorem HH (ns:List Int):(Dm.tup (ns.map Dm.int)).dep=1:=by rw[Dm.dep,oO]
def vN (i:Nat):V:=.int (i:Int)
theorem fK (c:List Nat):c.map vN=(c.map fun i:Nat=>(i:Int)).map V.int:=by rw[YM]; rfl
theorem ug {c:List Nat} {j:Nat} {x:V} (h:(c.map vN)[j]? = some x):∃ i,c[j]? = some i/\x=vN i:=by
 rw[VF] at h
 cases e:c[j]? with
 | none=>rw[e] at h; cases h
 | some i=>rw[e] at h; exact⟨i,rfl,(Wn h).symm⟩
theorem cj {H:Hp} {D:Addr} {zs zs':List V} (h:H D=some (.lst zs)):∀ a xs,H a=some (HO.tup xs)->upd H D (.lst zs') a=some (HO.tup xs):=fun a xs q=>by
 rw[bh (fun z=>by rw[z,h] at q; cases q)]
 exact q
theorem R7 {α:Type} {xs:List α} {v:α} (h:xs[xs.length - 1]? = some v):atI xs (-1)=some v:=by
 have hl:xs.length - 1 < xs.length:=(List.getElem?_eq_some_iff.mp h).1
 have hne:xs≠[]:=fun z=>by rw[z] at hl; exact absurd hl (W5 _)
 have e:xs=xs.dropLast++[v]:=by
  rw[← List.getLast?_eq_getElem?,List.getLast?_eq_some_getLast hne] at h
  rw[← Wn h]
  exact (List.dropLast_concat_getLast hne).symm
 rw[e]
 exact JX _ _
abbrev kO:Stmt:=top 67
theorem cB:aO ["_law_cell_here","_law_parts","_law_one","_law_two","_law_six","_law_found","_law_part"] ["_law_cell_here","_law_parts"] (aD kO):=⟨rfl,rfl,rfl,by decide+kernel,rfl,by decide+kernel,by decide+kernel⟩
def vh (c:Int):Int:=(c * 48271+11) % 2147483647
def JQ (c:Int):Int:=(vh c * vh c+40692 * vh c+c) % 2147483399
def T4 (c:Int):Int:=(JQ c * 16807+vh c) % 1000000007
def ni (c:Int):Int:=if decide ((if c < 0 then -c else c) < 10 ^ (18:Int).toNat)=true then JQ c+2147483399 * (T4 c+1000000007 * vh c) else (if c < 0 then -c else c) - 10 ^ (18:Int).toNat
def xY:Int->List Int->List Int
 | _,[]=>[]
 | c,p::ps=>c % p::xY (c / p) ps
def divC:Int->List Int->Int
 | c,[]=>c
 | c,p::ps=>divC (c / p) ps
theorem pJ (p:Int):∀ (ps:List Int) (c:Int),xY c (ps++[p])=xY c ps++[divC c ps % p]
 | [],_=>rfl
 | q::ps,c=>by
  show c % q::xY (c / q) (ps++[p])=c % q::(xY (c / q) ps++[divC (c / q) ps % p])
  rw[pJ p ps]
theorem lM (p:Int):∀ (ps:List Int) (c:Int),divC c (ps++[p])=divC c ps / p
 | [],_=>rfl
 | q::ps,c=>lM p ps (c / q)
theorem fV:∀ (ps:List Int) (c:Int),(xY c ps).length=ps.length
 | [],_=>rfl
 | _::ps,_=>congrArg Nat.succ (fV ps _)
theorem cu:∀ {ps:List Int} {c:Int} {i:Nat} {p:Int},(∀ q∈ps,0 < q)->ps[i]? = some p->∃ v,(xY c ps)[i]? = some v/\0<=v/\v < p
 | [],_,_,_,_,h=>by simp at h
 | q::ps,c,0,p,hp,h=>by
  cases (show some q=some p from h)
  exact⟨c % q,rfl,Wg _ (by have:=hp q Vj; lia),V5 _ (hp q Vj)⟩
 | q::ps,c,i+1,p,hp,h=>by
  obtain⟨v,e,r⟩:=cu (ps:=ps) (c:=c / q) (i:=i) (fun z hz=>hp z (Vp _ hz)) (by simpa using h)
  exact⟨v,by simpa [xY] using e,r⟩
def FT (c:Int) (ps:List Int):List Int:=xY (ni c) ps
theorem Oe (c:Int):0<=vh c/\vh c < 2147483647:=⟨Wg _ (by decide),V5 _ (by decide)⟩
theorem PB (c:Int):0<=JQ c/\JQ c < 2147483399:=⟨Wg _ (by decide),V5 _ (by decide)⟩
inductive Ay (K:VB) (vs:List V) (H:Hp) (Q:VK):Prop where
 | mk (c:Int) (p:Addr) (ps:List Int) (z0:vs=[.int c,.ref p]) (z1:SqL K H p (ps.map V.int)) (z2:(∀ q∈ps,0 < q/\q < 1073741824)) (z3:ps.length<=1000) (z4:∀ r,H r=none->Q (.ref r) (upd H r (.lst ((FT c ps).map V.int)))):Ay K vs H Q
def qw (K:VB):Sp:=fun vs H Q _=>Ay K vs H Q
theorem wR (F:Fun K "_law_draws" "_law_draws" kO f fd) (B:Bt mg) :
  cG P w K mg base CX0 1 f fd ["_law_cell_here","_law_parts"] (qw K):=by
 refine F.ok cB (fun vs H Q E h=>?_) (fun cdv A outer s H vs Q E hr h=>?_)
 ·obtain⟨c,p,ps,rfl,_⟩:=h
  rfl
 ·obtain⟨c,p,ps,rfl,hS,hp,hl,q⟩:=h
  refine⟨_,(au (bG (aL CQ (aF kY rfl B.abs_ wZ (aa (pv 0) aj)) (bf pD aA aA) (aU _)) (au (aW (i:=2) cB.nd rfl (Vv rfl) (bf cW (bf bW (bf jw (pv 0) aA) aA) aA))
 (au (aW (i:=3) cB.nd rfl (Vv rfl) (bf cW (bf bW (bf bW (bf jw (pv 2) (pv 2)) (bf jw aA (pv 2))) (pv 0)) aA))
 (au (aW (i:=4) cB.nd rfl (Vv rfl) (bf cW (bf bW (bf jw (pv 3) aA) (pv 2)) aA))
 (aB (aW (i:=0) cB.nd rfl (Vv rfl) (bf bW (pv 3) (bf jw aA (bf bW (pv 4) (bf jw aA (pv 2)))))))))) (aB (aW (i:=0) cB.nd rfl (Vv rfl) (bf jd (aF kY rfl B.abs_ wZ (aa (pv 0) aj)) (bf pD aA aA)))))
 (au (aW (i:=5) cB.nd rfl (Vv rfl) (bR aj))
 (au (eZ Wf rfl (fQ (pv 1)) (aK (i:=6) cB.nd rfl (Vv rfl)) (au (bO (o4 Wr WR WQ cH (pv 5) (aa (bf cW (pv 0) (pv 6)) aj)))
 (aB (aW (i:=0) cB.nd rfl (Vv rfl) (bf yh (pv 0) (pv 6))))))
 (aB (aG (pv 5)))))),?_⟩
  have b1:=Oe c
  have b2:=PB c
  refine⟨_,rfl,_,rfl,_,_,rfl,rfl,⟨by decide,by decide,by decide⟩,_,_,rfl,rfl,_,rfl,?_⟩
  refine xx (fun h=>?_) (fun h=>?_)
  ·refine⟨_,rfl,_,_,rfl,rfl,.inr ⟨by decide,by decide⟩,_,_,rfl,rfl,_,_,rfl,rfl,(by show (0:Int) < 2147483647; decide),?_⟩
   refine⟨_,rfl,_,rfl,_,_,rfl,rfl,.inl (show -(2 ^ 64) < vh c/\vh c < 2 ^ 64 from ⟨by lia,by lia⟩),_,rfl,_,_,rfl,rfl,.inl ⟨by decide,by decide⟩,_,_,rfl,rfl,_,rfl,_,_,rfl,rfl,_,_,rfl,rfl,(by show (0:Int) < 2147483399; decide),?_⟩
   refine⟨_,rfl,_,_,rfl,rfl,.inr ⟨by decide,by decide⟩,_,rfl,_,_,rfl,rfl,_,_,rfl,rfl,(by show (0:Int) < 1000000007; decide),?_⟩
   refine⟨_,rfl,_,rfl,_,rfl,_,_,rfl,rfl,.inl ⟨by decide,by decide⟩,_,_,rfl,rfl,_,_,rfl,rfl,.inl ⟨by decide,by decide⟩,_,_,rfl,rfl,?_⟩
   refine⟨small (VL _),fun r hr0=>?_⟩
   refine⟨_,rfl,p,rfl,⟨_,(aC hr0 _).seq hS⟩,iU (K:=K) (a:=p) (xs:=ps.map V.int) (fun i σ H2=>∃ (z:Int) (o t u v:Option V),z=divC (ni c) (ps.take i)/\σ=[some (.int z),some (.ref p),o,t,u,some (.ref r),v] ∧
    H2=upd H r (.lst ((xY (ni c) (ps.take i)).map V.int))) ⟨_,_,_,_,_,(if_pos h).symm,rfl,rfl⟩ ?_ ?_ ?_⟩
   ·rintro i σ H2 hi ⟨z,o,t,u,v,_,_,e⟩
    subst e
    exact (aC hr0 _).seq hS
   ·rintro i x σ H2 hx ⟨z,o,t,u,v,ez,rfl,rfl⟩
    obtain⟨d,hd,rfl⟩:=int_at hx
    obtain⟨h1,h2⟩:=hp d (Wd hd)
    have et:ps.take (i+1)=ps.take i++[d]:=by rw[V1,hd]; rfl
    refine⟨_,rfl,.inl ⟨rfl,_,SqL.of aq⟩,_,rfl,_,rfl,_,_,rfl,rfl,h1,r,_,_,rfl,rfl,aq,?_,_,rfl,_,rfl,_,_,rfl,rfl,⟨h1,h2⟩,_,_,_,_,_,?_,rfl,?_⟩
    ·rw[Vb,fV,Vz]
     exact aJ (by lia)
    ·rw[et,lM,ez]
    ·rw[IW,et,pJ,Vl,ez]
     rfl
   ·rintro σ H2 ⟨z,o,t,u,v,_,rfl,rfl⟩
    refine⟨_,rfl,?_⟩
    have q':=q r hr0
    rw[Vb,Vw]
    exact q'
  ·refine⟨_,rfl,_,rfl,_,_,rfl,rfl,⟨by decide,by decide,by decide⟩,_,_,rfl,rfl,?_⟩
   refine⟨small (VL _),fun r hr0=>?_⟩
   refine⟨_,rfl,p,rfl,⟨_,(aC hr0 _).seq hS⟩,iU (K:=K) (a:=p) (xs:=ps.map V.int) (fun i σ H2=>∃ (z:Int) (o t u v:Option V),z=divC (ni c) (ps.take i)/\σ=[some (.int z),some (.ref p),o,t,u,some (.ref r),v] ∧
    H2=upd H r (.lst ((xY (ni c) (ps.take i)).map V.int))) ⟨_,_,_,_,_,(if_neg h).symm,rfl,rfl⟩ ?_ ?_ ?_⟩
   ·rintro i σ H2 hi ⟨z,o,t,u,v,_,_,e⟩
    subst e
    exact (aC hr0 _).seq hS
   ·rintro i x σ H2 hx ⟨z,o,t,u,v,ez,rfl,rfl⟩
    obtain⟨d,hd,rfl⟩:=int_at hx
    obtain⟨h1,h2⟩:=hp d (Wd hd)
    have et:ps.take (i+1)=ps.take i++[d]:=by rw[V1,hd]; rfl
    refine⟨_,rfl,.inl ⟨rfl,_,SqL.of aq⟩,_,rfl,_,rfl,_,_,rfl,rfl,h1,r,_,_,rfl,rfl,aq,?_,_,rfl,_,rfl,_,_,rfl,rfl,⟨h1,h2⟩,_,_,_,_,_,?_,rfl,?_⟩
    ·rw[Vb,fV,Vz]
     exact aJ (by lia)
    ·rw[et,lM,ez]
    ·rw[IW,et,pJ,Vl,ez]
     rfl
   ·rintro σ H2 ⟨z,o,t,u,v,_,rfl,rfl⟩
    refine⟨_,rfl,?_⟩
    have q':=q r hr0
    rw[Vb,Vw]
    exact q'
abbrev mC:Stmt:=top 66
theorem yP:aO ["_law_script","_law_k"] ["_law_script","_law_k"] (aD mC):=⟨rfl,rfl,rfl,by decide+kernel,rfl,by decide+kernel,by decide+kernel⟩
inductive Jp (K:VB) (vs:List V) (H:Hp) (Q:VK):Prop where
 | mk (a:Addr) (ns:List Int) (k:Nat) (z0:vs=[.ref a,.int (k:Int)]) (z1:SqL K H a (ns.map V.int)) (z2:Q (.int (ns.getD k 0)) H):Jp K vs H Q
def Ni (K:VB):Sp:=fun vs H Q _=>Jp K vs H Q
theorem zG (F:Fun K "_law_cell" "_law_cell" mC f fd) (B:Bt mg) :
  cG P w K mg base CX0 1 f fd ["_law_script","_law_k"] (Ni K):=by
 refine F.ok yP (fun vs H Q E h=>?_) (fun cdv A outer s H vs Q E hr h=>?_)
 ·obtain⟨a,ns,k,rfl,_⟩:=h
  rfl
 ·obtain⟨a,ns,k,rfl,hS,q⟩:=h
  refine⟨_,(au (bG (aL CQ (pv 1) (aF (r:=lR K) bx rfl B.len_ cI (aa (pv 0) aj)) (aU _)) (aB (aG (bw (r:=iy K) bC (pv 0) (pv 1) (fun _ _=>rfl)))) aR)
 (aB (aG aA))),?_⟩
  refine⟨_,rfl,_,rfl,a,_,rfl,.inl hS,_,_,rfl,rfl,_,rfl,?_⟩
  have el:(((ns.map V.int).length:Nat):Int)=(ns.length:Int):=by rw[Vb]
  rw[el]
  refine xx (fun c=>?_) (fun c=>?_)
  ·have c':(k:Int) < (ns.length:Int):=of_decide_eq_true c
   have hk:k < ns.length:=by lia
   refine⟨_,rfl,_,rfl,a,_,_,_,rfl,rfl,hS,v8 hk,?_⟩
   rw[Vi,Vf hk] at q
   exact q
  ·have c':¬ (k:Int) < (ns.length:Int):=fun z=>c (decide_eq_true z)
   have hk:ns.length<=k:=by lia
   rw[Vi,W7 hk] at q
   exact q
abbrev mW:Stmt:=top 74
theorem yx:aO ["_law_found","_law_due"] ["_law_found","_law_due"] (aD mW):=⟨rfl,rfl,rfl,by decide+kernel,rfl,by decide+kernel,by decide+kernel⟩
inductive HJ (n:Nat) (vs:List V) (H:Hp) (Q:VK):Prop where
 | mk (x y:V) (d:Dm) (z0:vs=[x,y]) (z1:Rep H x d) (z2:Rep H y d) (z3:d.dep < n) (z4:∀ H',aZ H H'->Q (.bl true) H'):HJ n vs H Q
def pI (n:Nat):Sp:=fun vs H Q _=>HJ n vs H Q
theorem T6 {x:V}:decide (x=x)=true:=decide_eq_true rfl
theorem zP (n:Nat):(Vn n true).all (fun b=>b)=true:=by
 induction n with
 | zero=>rfl
 | succ n ih=>rw[XM,Z2,ih]; rfl
theorem Bm (n:Nat):(Vn n true).map V.bl=Vn n (V.bl true):=List.map_replicate
theorem iz {n:Nat} (F:Fun K "_law_same" "_law_same" mW f fd) (B:Bt mg)
  (D_law_same:Df P w K mg base "_law_same" n ["_law_found","_law_due"] (pI n)):cG P w K mg base CX0 (n+1) f fd ["_law_found","_law_due"] (pI (n+1)):=by
 refine F.ok yx (fun vs H Q E h=>?_) (fun cdv A outer s H vs Q E hr h=>?_)
 ·obtain⟨x,y,d,rfl,_⟩:=h
  rfl
 ·obtain⟨x,y,d,rfl,rx,ry,hd,q⟩:=h
  refine⟨_,(au (bG (Hs (M7 (pv 1))) (aB (aG (Q0 (M7 (pv 0))))) aR)
 (au (bG (dF (aF (r:=vo K) cg rfl B.isinstance_ bj (aa (pv 1) (aa (jB B.str_ MF) aj)))) (aB (aG (fO (aF (r:=vo K) cg rfl B.isinstance_ bj (aa (pv 0) (aa (jB B.str_ MF) aj))) (lq (cV cJ (pv 0) (pv 1) (aU _)))))) aR)
 (au (bG (dF (aF (r:=vo K) cg rfl B.isinstance_ bj (aa (pv 1) (aa (jB B.int_ zW) aj)))) (aB (aG (fO (aF (r:=vo K) cg rfl B.isinstance_ bj (aa (pv 0) (aa (jB B.int_ zW) aj))) (fO (cV cJ (aF (r:=vo K) cg rfl B.isinstance_ bj (aa (pv 0) (aa (jB B.bool_ yH) aj))) (aF (r:=vo K) cg rfl B.isinstance_ bj (aa (pv 1) (aa (jB B.bool_ yH) aj))) (aU _)) (lq (cV cJ (pv 0) (pv 1) (aU _))))))) aR)
 (au (bG (PW.pt (nU (aL zL (aF (r:=vo K) cg rfl B.isinstance_ bj (aa (pv 1) (aa (jB B.list_ vf) aj))) (aF (r:=vo K) cg rfl B.isinstance_ bj (aa (pv 0) (aa (jB B.list_ vf) aj))) (aU _)) (jk (aL zL (aF (r:=vo K) cg rfl B.isinstance_ bj (aa (pv 1) (aa (jB B.tuple_ bK) aj))) (aF (r:=vo K) cg rfl B.isinstance_ bj (aa (pv 0) (aa (jB B.tuple_ bK) aj))) (aU _))))) (aB (aG gZ)) aR)
 (aB (aG (fO (cV cJ (aF (r:=lR K) bx rfl B.len_ cI (aa (pv 0) aj)) (aF (r:=lR K) bx rfl B.len_ cI (aa (pv 1) aj)) (aU _)) (lq (aF (r:=JM K) (qj rfl) rfl B.all_ HN (aa (bQ (L:=["_law_k"]) (F:=["_law_found","_law_due"]) (cap:=[0,1]) rfl (bJ rfl rfl (by kernel_rfl)) (dW rfl B.range_ (aa (aF (r:=lR K) bx rfl B.len_ cI (aa (pv 1) aj)) aj)) (fun _ _ _ _ _=>(aK (i:=0) (bA (by decide+kernel)) rfl (Vv rfl))) (fun _ _ _ _ _=>bV) (fun _ _ _ _ _=>(aX D_law_same hr (aa (bw (r:=rIx K) MP (pv 1) (pv 0) (fun _ _=>rfl)) (aa (bw (r:=rIx K) MP (pv 2) (pv 0) (fun _ _=>rfl)) aj))))) aj)))))))))),?_⟩
  cases rx with
  | non =>
   cases ry
   refine⟨_,rfl,_,rfl,fX ?_⟩
   exact⟨_,rfl,q H (aZ.refl H)⟩
  | bl b =>
   cases ry
   refine⟨_,rfl,_,rfl,cX ?_⟩
   refine⟨_,rfl,_,_,_,_,rfl,.bl b,yE _,_,rfl,cX ?_⟩
   refine⟨_,rfl,_,_,_,_,rfl,.bl b,pY _,_,rfl,fX ?_⟩
   refine⟨_,rfl,_,_,_,_,rfl,.bl b,pY _,_,rfl,fX ?_⟩
   refine⟨_,rfl,_,_,_,_,rfl,.bl b,fc _ _,_,rfl,_,_,_,_,rfl,.bl b,fc _ _,rfl,_,rfl,fX ?_⟩
   refine⟨_,rfl,_,rfl,rfl,?_⟩
   have q':=q H (aZ.refl H)
   rw[← T6 (x:=V.bl b)] at q'
   exact q'
  | int i =>
   cases ry
   refine⟨_,rfl,_,rfl,cX ?_⟩
   refine⟨_,rfl,_,_,_,_,rfl,.int i,Dw _,_,rfl,cX ?_⟩
   refine⟨_,rfl,_,_,_,_,rfl,.int i,fc _ _,_,rfl,fX ?_⟩
   refine⟨_,rfl,_,_,_,_,rfl,.int i,fc _ _,_,rfl,fX ?_⟩
   refine⟨_,rfl,_,_,_,_,rfl,.int i,jP _,_,rfl,_,_,_,_,rfl,.int i,jP _,rfl,_,rfl,fX ?_⟩
   refine⟨_,rfl,_,rfl,rfl,?_⟩
   have q':=q H (aZ.refl H)
   rw[← T6 (x:=V.int i)] at q'
   exact q'
  | str z =>
   cases ry
   refine⟨_,rfl,_,rfl,cX ?_⟩
   refine⟨_,rfl,_,_,_,_,rfl,.str z,fc _ _,_,rfl,fX ?_⟩
   refine⟨_,rfl,_,_,_,_,rfl,.str z,fc _ _,_,rfl,fX ?_⟩
   refine⟨_,rfl,_,rfl,rfl,?_⟩
   have q':=q H (aZ.refl H)
   rw[← T6 (x:=V.str z)] at q'
   exact q'
  | @tup a xs ds ha la ra =>
   cases ry with
   | @tup b ys _ hb lb rb =>
    have ex:=ra.length
    have ey:=rb.length
    have hdl:rR ds < n:=by
     have hd':rR ds+1 < n+1:=by rw[Dm.dep] at hd; exact hd
     lia
    refine⟨_,rfl,_,rfl,cX ?_⟩
    refine⟨_,rfl,_,_,_,_,rfl,.tup hb,wO _,_,rfl,cX ?_⟩
    refine⟨_,rfl,_,_,_,_,rfl,.tup hb,wg _,_,rfl,cX ?_⟩
    refine⟨_,rfl,_,_,_,_,rfl,.tup hb,lF _,_,rfl,_,_,_,_,rfl,.tup ha,lF _,rfl,_,rfl,cX ?_⟩
    refine⟨_,rfl,_,_,_,_,rfl,.tup hb,fc _ _,_,rfl,_,_,_,_,rfl,.tup ha,fc _ _,rfl,_,rfl,cX ?_⟩
    refine⟨_,rfl,a,_,rfl,.inr (SqT.of ha),_,rfl,b,_,rfl,.inr (SqT.of hb),rfl,_,rfl,?_⟩
    have ec:decide (V.int (xs.length:Int)=V.int (ys.length:Int))=true:=decide_eq_true (by rw[ex,ey])
    rw[ec]
    refine fX ?_
    refine⟨_,rfl,b,_,rfl,.inr (SqT.of hb),_,rfl,by lia,by lia,fun D hD=>eQ (lo:=0) (n:=ys.length) (fun i zs σ' H2=>(∃ v,σ'=[v,some (.ref a),some (.ref b)])/\zs=Vn i (V.bl true)/\aZ H H2/\H2 D=some (.lst zs))
     ⟨⟨_,rfl⟩,rfl,aC hD _,aq⟩ (fun i zs σ' H2 _ h=>h.2.2.2) ?_ ?_⟩
    ·rintro i zs σ' H2 hi ⟨⟨v,rfl⟩,rfl,sm,hDl⟩
     obtain⟨v1,d1,e1,e2,r1⟩:=ra.get (i:=i) (by lia)
     obtain⟨v2,d2,e3,e4,r2⟩:=rb.get (i:=i) hi
     rw[e2] at e4
     cases e4
     have at1:atI xs (0+(i:Int))=some v1:=by rw[ZR]; exact gQ e1
     have at2:atI ys (0+(i:Int))=some v2:=by rw[ZR]; exact gQ e3
     refine gT ?_
     refine⟨_,rfl,_,rfl,.inr (.inl ⟨a,xs,_,v1,rfl,rfl,SqT.of (sm _ _ ha),at1,_,rfl,_,rfl,.inr (.inl ⟨b,ys,_,v2,rfl,rfl,SqT.of (sm _ _ hb),at2,v1,v2,d1,rfl,r1.mono sm,r2.mono sm,?_,fun H3 s3=>⟨s3 _ _ hDl,?_,⟨_,rfl⟩,?_,aQ (sm.trans s3) hD _,aq⟩⟩)⟩)⟩
     ·exact Yj (tX e2) hdl
     ·rw[VR]
      exact Vt (show i < 100000 by lia) (by decide)
     ·rw[Z6]
    ·rintro zs σ' H2 ⟨_,rfl,sm,hDl⟩
     refine⟨D,Vn ys.length true,rfl,SqL.of (by rw[hDl,Bm]),?_⟩
     rw[zP]
     exact q _ sm
  | @lst a xs ds ha la ra =>
   cases ry with
   | @lst b ys _ hb lb rb =>
    have ex:=ra.length
    have ey:=rb.length
    have hdl:rR ds < n:=by
     have hd':rR ds+1 < n+1:=by rw[Dm.dep] at hd; exact hd
     lia
    refine⟨_,rfl,_,rfl,cX ?_⟩
    refine⟨_,rfl,_,_,_,_,rfl,.lst hb,za _,_,rfl,cX ?_⟩
    refine⟨_,rfl,_,_,_,_,rfl,.lst hb,yl _,_,rfl,cX ?_⟩
    refine⟨_,rfl,_,_,_,_,rfl,.lst hb,fc _ _,_,rfl,_,_,_,_,rfl,.lst ha,fc _ _,rfl,_,rfl,cX ?_⟩
    refine⟨_,rfl,_,_,_,_,rfl,.lst hb,lH _,_,rfl,_,_,_,_,rfl,.lst ha,lH _,rfl,_,rfl,cX ?_⟩
    refine⟨_,rfl,a,_,rfl,.inl (SqL.of ha),_,rfl,b,_,rfl,.inl (SqL.of hb),rfl,_,rfl,?_⟩
    have ec:decide (V.int (xs.length:Int)=V.int (ys.length:Int))=true:=decide_eq_true (by rw[ex,ey])
    rw[ec]
    refine fX ?_
    refine⟨_,rfl,b,_,rfl,.inl (SqL.of hb),_,rfl,by lia,by lia,fun D hD=>eQ (lo:=0) (n:=ys.length) (fun i zs σ' H2=>(∃ v,σ'=[v,some (.ref a),some (.ref b)])/\zs=Vn i (V.bl true)/\aZ H H2/\H2 D=some (.lst zs))
     ⟨⟨_,rfl⟩,rfl,aC hD _,aq⟩ (fun i zs σ' H2 _ h=>h.2.2.2) ?_ ?_⟩
    ·rintro i zs σ' H2 hi ⟨⟨v,rfl⟩,rfl,sm,hDl⟩
     obtain⟨v1,d1,e1,e2,r1⟩:=ra.get (i:=i) (by lia)
     obtain⟨v2,d2,e3,e4,r2⟩:=rb.get (i:=i) hi
     rw[e2] at e4
     cases e4
     have at1:atI xs (0+(i:Int))=some v1:=by rw[ZR]; exact gQ e1
     have at2:atI ys (0+(i:Int))=some v2:=by rw[ZR]; exact gQ e3
     refine gT ?_
     refine⟨_,rfl,_,rfl,.inl ( ⟨a,xs,_,v1,rfl,rfl,SqL.of (sm _ _ ha),at1,_,rfl,_,rfl,.inl ( ⟨b,ys,_,v2,rfl,rfl,SqL.of (sm _ _ hb),at2,v1,v2,d1,rfl,r1.mono sm,r2.mono sm,?_,fun H3 s3=>⟨s3 _ _ hDl,?_,⟨_,rfl⟩,?_,aQ (sm.trans s3) hD _,aq⟩⟩)⟩)⟩
     ·exact Yj (tX e2) hdl
     ·rw[VR]
      exact Vt (show i < 100000 by lia) (by decide)
     ·rw[Z6]
    ·rintro zs σ' H2 ⟨_,rfl,sm,hDl⟩
     refine⟨D,Vn ys.length true,rfl,SqL.of (by rw[hDl,Bm]),?_⟩
     rw[zP]
     exact q _ sm
theorem same_none:cG P w K mg base CX0 0 f fd ["_law_found","_law_due"] (pI 0):=by
 have no:∀ vs H Q E,¬ pI 0 vs H Q E:=fun vs H Q E h=>by
  obtain⟨x,y,d,_,_,_,h1,_⟩:=h
  lia
 exact⟨fun vs H Q E h=>absurd h (no vs H Q E),fun A outer s H args us vs Q E _ _ _ _ h=>absurd h (no vs H Q E)⟩
abbrev jR:Stmt:=top 68
theorem gf:aO ["_law_cell_here","_law_k","_law_rest","_law_turn"] ["_law_cell_here","_law_k"] (aD jR):=⟨rfl,rfl,rfl,by decide+kernel,rfl,by decide+kernel,by decide+kernel⟩
def Qv (c:Int) (k:Nat):Int:=if decide ((if c < 0 then -c else c) < 10 ^ (18:Int).toNat)=true then (c * 48271+7919 * (k:Int)+13) % 2147483647 else 10 ^ (18:Int).toNat+divC ((if c < 0 then -c else c) - 10 ^ (18:Int).toNat) (Vn (k+1) (10 ^ (9:Int).toNat))
inductive Cm (vs:List V) (H:Hp) (Q:VK):Prop where
 | mk (c:Int) (k:Nat) (z0:vs=[.int c,.int (k:Int)]) (z1:k<=1000) (z2:Q (.int (Qv c k)) H):Cm  vs H Q
def uN:Sp:=fun vs H Q _=>Cm  vs H Q
theorem wV (F:Fun K "_law_under" "_law_under" jR f fd) (B:Bt mg) :
  cG P w K mg base CX0 1 f fd ["_law_cell_here","_law_k"] uN:=by
 refine F.ok gf (fun vs H Q E h=>?_) (fun cdv A outer s H vs Q E hr h=>?_)
 ·obtain⟨c,k,rfl,_⟩:=h
  rfl
 ·obtain⟨c,k,rfl,hk,q⟩:=h
  refine⟨_,(au (bG (aL CQ (aF kY rfl B.abs_ wZ (aa (pv 0) aj)) (bf pD aA aA) (aU _)) (aB (aG (bf cW (bf bW (bf bW (bf jw (pv 0) aA) (bf jw aA (pv 1))) aA) aA))) aR)
 (au (aW (i:=2) gf.nd rfl (Vv rfl) (bf jd (aF kY rfl B.abs_ wZ (aa (pv 0) aj)) (bf pD aA aA)))
 (au (eZ Wf rfl (dW rfl B.range_ (aa (bf bW (pv 1) aA) aj)) (aK (i:=3) gf.nd rfl (Vv rfl)) (aB (aW (i:=2) gf.nd rfl (Vv rfl) (bf yh (pv 2) (bf pD aA aA)))))
 (aB (aG (bf bW (bf pD aA aA) (pv 2))))))),?_⟩
  refine⟨_,rfl,_,rfl,_,_,rfl,rfl,⟨by decide,by decide,by decide⟩,_,_,rfl,rfl,_,rfl,?_⟩
  refine xx (fun h=>?_) (fun h=>?_)
  ·refine⟨_,rfl,_,_,rfl,rfl,.inr ⟨by decide,by decide⟩,_,rfl,_,_,rfl,rfl,.inl ⟨by decide,by decide⟩,_,_,rfl,rfl,_,_,rfl,rfl,_,_,rfl,rfl,(by show (0:Int) < 2147483647; decide),?_⟩
   unfold Qv at q
   rw[if_pos h] at q
   exact q
  ·unfold Qv at q
   rw[if_neg h] at q
   refine⟨_,rfl,_,rfl,_,_,rfl,rfl,⟨by decide,by decide,by decide⟩,_,_,rfl,rfl,?_⟩
   have ek:((k:Int)+1).toNat=k+1:=by lia
   refine⟨_,rfl,_,_,rfl,rfl,_,rfl,by lia,by lia,qJ (lo:=0) (n:=((k:Int)+1).toNat) (fun i σ H2=>(∃ t:Option V,σ=[some (.int c),some (.int (k:Int)),some (.int (divC ((if c < 0 then -c else c) - 10 ^ (18:Int).toNat) (Vn i (10 ^ (9:Int).toNat)))),t])/\H2=H) ⟨⟨_,rfl⟩,rfl⟩ ?_ ?_⟩
   ·rintro i σ H2 hi ⟨⟨t,rfl⟩,rfl⟩
    refine⟨_,rfl,_,_,rfl,rfl,⟨by decide,by decide,by decide⟩,_,_,rfl,rfl,⟨by show (0:Int) < 10 ^ 9; decide,by show (10 ^ 9:Int) < 1073741824; decide⟩,⟨some (.int (0+(i:Int))),?_⟩,rfl⟩
    rw[Z6,lM]
    rfl
   ·rintro σ H2 ⟨⟨t,rfl⟩,rfl⟩
    refine⟨_,_,rfl,rfl,⟨by decide,by decide,by decide⟩,_,rfl,_,_,rfl,rfl,?_⟩
    rw[ek]
    exact q
abbrev jY:Stmt:=top 69
theorem gh:aO ["_law_number","_law_n","_law_found","_law_one"] ["_law_number","_law_n"] (aD jY):=⟨rfl,rfl,rfl,by decide+kernel,rfl,by decide+kernel,by decide+kernel⟩
inductive BP (vs:List V) (H:Hp) (Q:VK):Prop where
 | mk (m:Int) (n:Nat) (z0:vs=[.int m,.int (n:Int)]) (z1:n<=100) (z2:∀ (c:List Nat) (r:Addr) (H':Hp),(∀ i∈c,i < n)->c.Pairwise (· < ·)->c.length<=n->aZ H H'->H r=none->H' r=some (.tup (c.map vN))->Q (.ref r) H'):BP  vs H Q
def yJ:Sp:=fun vs H Q _=>BP  vs H Q
theorem vZ (F:Fun K "_law_crowd" "_law_crowd" jY f fd) (B:Bt mg) :
  cG P w K mg base CX0 1 f fd ["_law_number","_law_n"] yJ:=by
 refine F.ok gh (fun vs H Q E h=>?_) (fun cdv A outer s H vs Q E hr h=>?_)
 ·obtain⟨m,n,rfl,_⟩:=h
  rfl
 ·obtain⟨m,n,rfl,hn,q⟩:=h
  refine⟨_,(au (aW (i:=2) gh.nd rfl (Vv rfl) (bR aj))
 (au (eZ Wf rfl (dW rfl B.range_ (aa (pv 1) aj)) (aK (i:=3) gh.nd rfl (Vv rfl)) (au (bG (aL cJ (bf cW (pv 0) aA) aA (aU _)) (aB (bO (o4 Wr WR WQ cH (pv 2) (aa (pv 3) aj)))) aR)
 (aB (aW (i:=0) gh.nd rfl (Vv rfl) (bf yh (pv 0) aA)))))
 (aB (aG (bH (r:=eX K) bF rfl B.tuple_ bK (aa (pv 2) aj)))))),?_⟩
  refine⟨small (by show 0<=1000; decide),fun r hr0=>?_⟩
  have en:((n:Int)).toNat=n:=V8 n
  refine⟨_,rfl,_,rfl,by lia,by lia,qJ (lo:=0) (n:=((n:Int)).toNat) (fun i σ H2=>∃ (z:Int) (t:Option V) (c:List Nat),σ=[some (.int z),some (.int (n:Int)),some (.ref r),t]/\H2=upd H r (.lst (c.map vN))/\(∀ j∈c,j < i)/\c.Pairwise (· < ·)/\c.length<=i)
   ⟨_,_,[],rfl,rfl,by simp,by simp,Vg _⟩ ?_ ?_⟩
  ·rintro i σ H2 hi ⟨z,t,c,rfl,rfl,hc,hp,hl⟩
   refine⟨_,rfl,_,_,rfl,rfl,(by show (0:Int) < 2; decide),rfl,_,rfl,?_⟩
   refine xx (fun _=>?_) (fun _=>?_)
   ·refine⟨_,rfl,.inl ⟨rfl,_,SqL.of aq⟩,_,rfl,r,_,_,rfl,rfl,aq,?_,_,rfl,_,_,rfl,rfl,⟨by decide,by decide⟩,_,_,c++[i],rfl,?_,?_,?_,?_⟩
    ·rw[Vb]
     exact aJ (by lia)
    ·rw[IW,Vl,ZR]
     rfl
    ·intro j hj
     rcases List.mem_append.mp hj with h | h
     ·have:=hc j h
      lia
     ·have:=List.mem_singleton.mp h
      lia
    ·rw[abb]
     refine⟨hp,by simp,fun a ha b hb=>?_⟩
     rw[List.mem_singleton.mp hb]
     exact hc a ha
    ·rw[Ve]
     show c.length+1<=i+1
     lia
   ·refine⟨_,rfl,_,_,rfl,rfl,⟨by decide,by decide⟩,_,_,c,rfl,rfl,fun j hj=>Wj (hc j hj),hp,by lia⟩
  ·rintro σ H2 ⟨z,t,c,rfl,rfl,hc,hp,hl⟩
   refine⟨_,rfl,r,_,rfl,.inl ⟨SqL.of aq,fun l hl'=>?_⟩⟩
   rw[en] at hc hl
   exact q c l _ hc hp hl ((aC hr0 _).trans (aC hl' _)) ((aC hr0 _).free hl') aq
inductive Tm where
 | free | never | gives (i:Nat) (k:Int) | sum (c:List Nat) (k:Int) | crowd (c:List Nat) (k m:Int) | all (ts:List Tm) | any (ts:List Tm)
mutual
def Tm.dep:Tm->Nat
 | .all ts=>tdL ts+1
 | .any ts=>tdL ts+1
 | _=>1
def tdL:List Tm->Nat
 | []=>0
 | t::r=>max t.dep (tdL r)
end
mutual
def hF (g:List Int):Tm->Bool
 | .free=>true
 | .never=>false
 | .gives i k=>decide (k<=g.getD i 0)
 | .sum c k=>decide (k<=(c.map fun i=>g.getD i 0).sum)
 | .crowd c k m=>decide (m<=((c.filter fun i=>decide (k<=g.getD i 0)).length:Int))
 | .all ts=>tR g ts
 | .any ts=>vm g ts
def tR (g:List Int):List Tm->Bool
 | []=>true
 | t::r=>hF g t && tR g r
def vm (g:List Int):List Tm->Bool
 | []=>false
 | t::r=>hF g t || vm g r
end
mutual
inductive jg (n:Nat) (H:Hp):V->Tm->Prop where
 | free {a:Addr}:H a=some (.tup [.str "free"])->jg n H (.ref a) .free
 | never {a:Addr}:H a=some (.tup [.str "never"])->jg n H (.ref a) .never
 | gives {a:Addr} {i:Nat} {k:Int}:H a=some (.tup [.str "gives",vN i,.int k])->i < n->1<=k->k<=9->jg n H (.ref a) (.gives i k)
 | sum {a b:Addr} {c:List Nat} {k:Int}:H a=some (.tup [.str "sum",.ref b,.int k])->H b=some (.tup (c.map vN))->(∀ i∈c,i < n)->c.Pairwise (· < ·)->c.length<=20->2<=c.length->1<=k->k<=99->jg n H (.ref a) (.sum c k)
 | crowd {a b:Addr} {c:List Nat} {k m:Int}:H a=some (.tup [.str "crowd",.ref b,.int k,.int m])->H b=some (.tup (c.map vN))->(∀ i∈c,i < n)->c.Pairwise (· < ·)->c.length<=20->1<=c.length->1<=k->k<=9->1<=m->m<=12->jg n H (.ref a) (.crowd c k m)
 | all {a b:Addr} {vs:List V} {ts:List Tm}:H a=some (.tup [.str "all",.ref b])->H b=some (.tup vs)->2<=vs.length->vs.length<=6->cU n H vs ts->jg n H (.ref a) (.all ts)
 | any {a b:Addr} {vs:List V} {ts:List Tm}:H a=some (.tup [.str "any",.ref b])->H b=some (.tup vs)->2<=vs.length->vs.length<=6->cU n H vs ts->jg n H (.ref a) (.any ts)
inductive cU (n:Nat) (H:Hp):List V->List Tm->Prop where
 | nil:cU n H [] []
 | cons {v:V} {t:Tm} {vs:List V} {ts:List Tm}:jg n H v t->cU n H vs ts->cU n H (v::vs) (t::ts)
end
mutual
theorem jg.aV {n:Nat} {H H':Hp} (e:∀ a xs,H a=some (HO.tup xs)->H' a=some (HO.tup xs)):∀ {v:V} {t:Tm},jg n H v t->jg n H' v t
 | _,_,.free h=>.free (e _ _ h)
 | _,_,.never h=>.never (e _ _ h)
 | _,_,.gives h a b c=>.gives (e _ _ h) a b c
 | _,_,.sum h h2 a b c d f g=>.sum (e _ _ h) (e _ _ h2) a b c d f g
 | _,_,.crowd h h2 a b c d f g i j=>.crowd (e _ _ h) (e _ _ h2) a b c d f g i j
 | _,_,.all h h2 a b r=>.all (e _ _ h) (e _ _ h2) a b (cU.aV e r)
 | _,_,.any h h2 a b r=>.any (e _ _ h) (e _ _ h2) a b (cU.aV e r)
theorem cU.aV {n:Nat} {H H':Hp} (e:∀ a xs,H a=some (HO.tup xs)->H' a=some (HO.tup xs)):∀ {vs:List V} {ts:List Tm},cU n H vs ts->cU n H' vs ts
 | _,_,.nil=>.nil
 | _,_,.cons h r=>.cons (jg.aV e h) (cU.aV e r)
end
theorem jg.mono {n:Nat} {H H':Hp} (e:aZ H H') {v:V} {t:Tm} (h:jg n H v t):jg n H' v t:=h.aV fun a xs q=>e a _ q
theorem cU.mono {n:Nat} {H H':Hp} (e:aZ H H') {vs:List V} {ts:List Tm} (h:cU n H vs ts):cU n H' vs ts:=h.aV fun a xs q=>e a _ q
theorem cU.length {n:Nat} {H:Hp}:∀ {vs:List V} {ts:List Tm},cU n H vs ts->vs.length=ts.length
 | _,_,.nil=>rfl
 | _,_,.cons _ r=>by rw[Vr,Vr,cU.length r]
theorem cU.get {n:Nat} {H:Hp}:∀ {vs:List V} {ts:List Tm} {i:Nat} {v:V},cU n H vs ts->vs[i]? = some v->∃ t,ts[i]? = some t/\jg n H v t
 | _,_,_,_,.nil,h=>by simp at h
 | _,_,0,_,.cons h _,e=>by
  cases (show some _=some _ from e)
  exact⟨_,rfl,h⟩
 | _,_,i+1,_,.cons _ r,e=>by
  obtain⟨t,e1,e2⟩:=cU.get (i:=i) r (by simpa using e)
  exact⟨t,by simpa using e1,e2⟩
theorem cU.snoc {n:Nat} {H:Hp}:∀ {vs:List V} {ts:List Tm} {v:V} {t:Tm},cU n H vs ts->jg n H v t->cU n H (vs++[v]) (ts++[t])
 | _,_,_,_,.nil,h=>.cons h .nil
 | _,_,_,_,.cons a r,h=>.cons a (cU.snoc r h)
theorem jT:∀ {ts:List Tm} {i:Nat} {t:Tm},ts[i]? = some t->t.dep<=tdL ts
 | [],_,_,h=>by simp at h
 | d::r,0,_,h=>by
  cases (show some d=some _ from h)
  rw[tdL]
  exact Nat.le_max_left _ _
 | d::r,i+1,_,h=>by
  rw[tdL]
  exact V2 (jT (i:=i) (ts:=r) (by simpa using h)) (Nat.le_max_right _ _)
theorem Ad {m:Nat} {t:Tm} (h:t.dep<=m):∀ {ts:List Tm},tdL ts<=m->tdL (ts++[t])<=m
 | [],_=>by simp only[List.nil_append,tdL]; lia
 | d::r,h2=>by
  rw[tdL] at h2
  rw[ab5,tdL]
  have:=Ad (m:=m) h (ts:=r) (by lia)
  lia
theorem Tm.pF:∀ t:Tm,1<=t.dep
 | .free | .never | .gives .. | .sum .. | .crowd ..=>Vg 1
 | .all ts=>by rw[Tm.dep]; lia
 | .any ts=>by rw[Tm.dep]; lia
theorem vy:∀ {g:List Int} {ts:List Tm} {i:Nat} {t:Tm},ts[i]? = some t->tR g (ts.take (i+1))=(tR g (ts.take i) && hF g t)
 | _,[],_,_,h=>by simp at h
 | g,d::r,0,t,h=>by
  cases (show some d=some _ from h)
  rw[Yw,tR,Wk,Wk,tR,Bool.and_true,Zv]
 | g,d::r,i+1,t,h=>by
  rw[Yw,tR,vy (i:=i) (ts:=r) (by simpa using h),Yw,tR,Bool.and_assoc]
theorem wJ:∀ {g:List Int} {ts:List Tm} {i:Nat} {t:Tm},ts[i]? = some t->vm g (ts.take (i+1))=(vm g (ts.take i) || hF g t)
 | _,[],_,_,h=>by simp at h
 | g,d::r,0,t,h=>by
  cases (show some d=some _ from h)
  rw[Yw,vm,Wk,Wk,vm,Bool.or_false,aaG]
 | g,d::r,i+1,t,h=>by
  rw[Yw,vm,wJ (i:=i) (ts:=r) (by simpa using h),Yw,vm,Bool.or_assoc]
theorem tD:∀ {g:List Int} {ts:List Tm} {i:Nat} {t:Tm},ts[i]? = some t->hF g t=false->tR g ts=false
 | _,[],_,_,h,_=>by simp at h
 | g,d::r,0,t,h,e=>by
  cases (show some d=some _ from h)
  rw[tR,e,Ze]
 | g,d::r,i+1,t,h,e=>by rw[tR,tD (i:=i) (ts:=r) (by simpa using h) e,Bool.and_false]
theorem wy:∀ {g:List Int} {ts:List Tm} {i:Nat} {t:Tm},ts[i]? = some t->hF g t=true->vm g ts=true
 | _,[],_,_,h,_=>by simp at h
 | g,d::r,0,t,h,e=>by
  cases (show some d=some _ from h)
  rw[vm,e,Bool.true_or]
 | g,d::r,i+1,t,h,e=>by rw[vm,wy (i:=i) (ts:=r) (by simpa using h) e,Bool.or_true]
def LeG (g g':List Int):Prop:=∀ i,g.getD i 0<=g'.getD i 0
theorem rP (f f':Nat->Int) (h:∀ i,f i<=f' i):∀ c:List Nat,(c.map f).sum<=(c.map f').sum
 | []=>WY _
 | i::c=>by
  have:=rP f f' h c
  have:=h i
  simp only[Wa,abr]
  lia
theorem filter_le (f f':Nat->Bool) (h:∀ i,f i=true->f' i=true):∀ c:List Nat,(c.filter f).length<=(c.filter f').length
 | []=>Vg _
 | i::c=>by
  have ih:=filter_le f f' h c
  rw[ZX,ZX]
  by_cases e:f i=true
  ·rw[if_pos e,if_pos (h i e),Vr,Vr]
   lia
  ·rw[if_neg e]
   split
   ·rw[Vr]
    lia
   ·exact ih
mutual
theorem yp {g g':List Int} (l:LeG g g'):∀ t:Tm,hF g t=true->hF g' t=true
 | .free,_=>by rw[hF]
 | .never,h=>by rw[hF] at h; cases h
 | .gives i k,h=>by
  rw[hF] at h ⊢
  have:=of_decide_eq_true h
  have:=l i
  exact decide_eq_true (by lia)
 | .sum c k,h=>by
  rw[hF] at h ⊢
  have:=of_decide_eq_true h
  have:=rP _ _ l c
  exact decide_eq_true (by lia)
 | .crowd c k m,h=>by
  rw[hF] at h ⊢
  have:=of_decide_eq_true h
  have:=filter_le (fun i=>decide (k<=g.getD i 0)) (fun i=>decide (k<=g'.getD i 0)) (fun i e=>decide_eq_true (Int.le_trans (of_decide_eq_true e) (l i))) c
  exact decide_eq_true (by lia)
 | .all ts,h=>by
  rw[hF] at h ⊢
  exact wQ l ts h
 | .any ts,h=>by
  rw[hF] at h ⊢
  exact wU l ts h
theorem wQ {g g':List Int} (l:LeG g g'):∀ ts:List Tm,tR g ts=true->tR g' ts=true
 | [],_=>by rw[tR]
 | t::r,h=>by
  rw[tR,WD] at h
  rw[tR,yp l t h.1,wQ l r h.2]
  rfl
theorem wU {g g':List Int} (l:LeG g g'):∀ ts:List Tm,vm g ts=true->vm g' ts=true
 | [],h=>by rw[vm] at h; cases h
 | t::r,h=>by
  rw[vm,ZD] at h
  rw[vm]
  rcases h with h | h
  ·rw[yp l t h,Bool.true_or]
  ·rw[wU l r h,Bool.or_true]
end
theorem cR {c A B:Prop} [Decidable c] (hc:¬ c) (h:B):if decide c=true then A else B:=by
 rw[decide_eq_false hc]
 exact cX h
theorem qC {c A B:Prop} [Decidable c] (hc:c) (h:A):if decide c=true then A else B:=by
 rw[decide_eq_true hc]
 exact fX h
theorem aY {a b:V9} (h:a≠b):¬ V.str a=V.str b:=fun z=>h (by cases z; rfl)
theorem atD {g:List Int} {i:Nat} (h:i < g.length):atI (g.map V.int) (i:Int)=some (.int (g.getD i 0)):=by
 rw[v8 h,Vi,Vf h]
 rfl
abbrev mU:Stmt:=top 24
abbrev jX:Stmt:=top 25
abbrev zm:Stmt:=top 26
theorem pO:aO ["parts","giving","part"] ["parts","giving"] (aD mU):=⟨rfl,rfl,rfl,by decide+kernel,rfl,by decide+kernel,by decide+kernel⟩
theorem m8:aO ["parts","giving","part"] ["parts","giving"] (aD jX):=⟨rfl,rfl,rfl,by decide+kernel,rfl,by decide+kernel,by decide+kernel⟩
theorem Cu:aO ["term","giving","kind"] ["term","giving"] (aD zm):=⟨rfl,rfl,rfl,by decide+kernel,rfl,by decide+kernel,by decide+kernel⟩
inductive Ba (K:VB) (d:Nat) (vs:List V) (H:Hp) (Q:VK):Prop where
 | mk (v:V) (g:Addr) (n:Nat) (t:Tm) (ns:List Int) (z0:vs=[v,.ref g]) (z1:jg n H v t) (z2:t.dep<=d) (z3:SqT K H g (ns.map V.int)) (z4:n<=ns.length) (z5:∀ H',aZ H H'->Q (.bl (hF ns t)) H'):Ba K d vs H Q
def kI (K:VB) (d:Nat):Sp:=fun vs H Q _=>Ba K d vs H Q
inductive Hu (K:VB) (d:Nat) (vs:List V) (H:Hp) (Q:VK):Prop where
 | mk (b g:Addr) (n:Nat) (us:List V) (ts:List Tm) (ns:List Int) (z0:vs=[.ref b,.ref g]) (z1:H b=some (.tup us)) (z2:cU n H us ts) (z3:tdL ts<=d) (z4:SqT K H g (ns.map V.int)) (z5:n<=ns.length) (z6:∀ H',aZ H H'->Q (.bl (tR ns ts)) H'):Hu K d vs H Q
def Ms (K:VB) (d:Nat):Sp:=fun vs H Q _=>Hu K d vs H Q
inductive Ii (K:VB) (d:Nat) (vs:List V) (H:Hp) (Q:VK):Prop where
 | mk (b g:Addr) (n:Nat) (us:List V) (ts:List Tm) (ns:List Int) (z0:vs=[.ref b,.ref g]) (z1:H b=some (.tup us)) (z2:cU n H us ts) (z3:tdL ts<=d) (z4:SqT K H g (ns.map V.int)) (z5:n<=ns.length) (z6:∀ H',aZ H H'->Q (.bl (vm ns ts)) H'):Ii K d vs H Q
def Nk (K:VB) (d:Nat):Sp:=fun vs H Q _=>Ii K d vs H Q
theorem Dp:cG P w K mg base CX0 0 f fd ["term","giving"] (kI K 0):=by
 have no:∀ vs H Q E,¬ kI K 0 vs H Q E:=fun vs H Q E h=>by
  obtain⟨v,g,n,t,ns,_,_,h1,_⟩:=h
  have:=t.pF
  lia
 exact⟨fun vs H Q E h=>absurd h (no vs H Q E),fun A outer s H args us vs Q E _ _ _ _ h=>absurd h (no vs H Q E)⟩
theorem iB {d k:Nat} (F:Fun K "all_hold" "all_hold" mU f fd) (B:Bt mg)
  (D_holds:Df P w K mg base "holds" k ["term","giving"] (kI K d)):cG P w K mg base CX0 (k+1) f fd ["parts","giving"] (Ms K d):=by
 refine F.ok pO (fun vs H Q E h=>?_) (fun cdv A outer s H vs Q E hr h=>?_)
 ·obtain⟨b,g,n,us,ts,ns,rfl,_⟩:=h
  rfl
 ·obtain⟨b,g,n,us,ts,ns,rfl,hb,rp,hd,hg,hn,q⟩:=h
  refine⟨_,(au (eZ Wf rfl (dJ (pv 0)) (aK (i:=2) pO.nd rfl (Vv rfl)) (aB (bG (gn (dF (aX D_holds hr (aa (pv 2) (aa (pv 1) aj))))) (aB (aG gZ)) aR)))
 (aB (aG gZ))),?_⟩
  have el:=rp.length
  refine⟨_,rfl,b,rfl,⟨_,SqT.of hb⟩,mX (K:=K) (a:=b) (xs:=us) (fun i σ H2=>(∃ u,σ=[some (.ref b),some (.ref g),u])/\aZ H H2/\tR ns (ts.take i)=true) ⟨⟨_,rfl⟩,aZ.refl H,by rw[Wk,tR]⟩ (fun i σ H2 _ h=>jO h.2.1 (SqT.of hb)) ?_ ?_⟩
  ·rintro i x σ H2 hx ⟨⟨u,rfl⟩,sm,ab⟩
   obtain⟨t,ht,rt⟩:=rp.get hx
   refine⟨_,rfl,_,rfl,x,g,n,t,ns,rfl,rt.mono sm,V2 (jT ht) hd,jO sm hg,hn,fun H3 s3=>⟨_,rfl,?_⟩⟩
   cases e:hF ns t with
   | false =>
    have q':=q H3 (sm.trans s3)
    rw[tD ht e] at q'
    exact fX q'
   | true=>exact cX ⟨⟨_,rfl⟩,sm.trans s3,by rw[vy ht,ab,e]; rfl⟩
  ·rintro σ H2 ⟨⟨u,rfl⟩,sm,ab⟩
   have q':=q H2 sm
   rw[el,Vw] at ab
   rw[ab] at q'
   exact q'
theorem gk {d k:Nat} (F:Fun K "any_holds" "any_holds" jX f fd) (B:Bt mg)
  (D_holds:Df P w K mg base "holds" k ["term","giving"] (kI K d)):cG P w K mg base CX0 (k+1) f fd ["parts","giving"] (Nk K d):=by
 refine F.ok m8 (fun vs H Q E h=>?_) (fun cdv A outer s H vs Q E hr h=>?_)
 ·obtain⟨b,g,n,us,ts,ns,rfl,_⟩:=h
  rfl
 ·obtain⟨b,g,n,us,ts,ns,rfl,hb,rp,hd,hg,hn,q⟩:=h
  refine⟨_,(au (eZ Wf rfl (dJ (pv 0)) (aK (i:=2) m8.nd rfl (Vv rfl)) (aB (bG (dF (aX D_holds hr (aa (pv 2) (aa (pv 1) aj)))) (aB (aG gZ)) aR)))
 (aB (aG gZ))),?_⟩
  have el:=rp.length
  refine⟨_,rfl,b,rfl,⟨_,SqT.of hb⟩,mX (K:=K) (a:=b) (xs:=us) (fun i σ H2=>(∃ u,σ=[some (.ref b),some (.ref g),u])/\aZ H H2/\vm ns (ts.take i)=false) ⟨⟨_,rfl⟩,aZ.refl H,by rw[Wk,vm]⟩ (fun i σ H2 _ h=>jO h.2.1 (SqT.of hb)) ?_ ?_⟩
  ·rintro i x σ H2 hx ⟨⟨u,rfl⟩,sm,ab⟩
   obtain⟨t,ht,rt⟩:=rp.get hx
   refine⟨_,rfl,_,rfl,x,g,n,t,ns,rfl,rt.mono sm,V2 (jT ht) hd,jO sm hg,hn,fun H3 s3=>⟨_,rfl,?_⟩⟩
   cases e:hF ns t with
   | true =>
    have q':=q H3 (sm.trans s3)
    rw[wy ht e] at q'
    exact fX q'
   | false=>exact cX ⟨⟨_,rfl⟩,sm.trans s3,by rw[wJ ht,ab,e]; rfl⟩
  ·rintro σ H2 ⟨⟨u,rfl⟩,sm,ab⟩
   have q':=q H2 sm
   rw[el,Vw] at ab
   rw[ab] at q'
   exact q'
theorem oE {d k:Nat} (F:Fun K "holds" "holds" zm f fd) (B:Bt mg)
  (D_all_hold:Df P w K mg base "all_hold" k ["parts","giving"] (Ms K d)) (D_any_holds:Df P w K mg base "any_holds" k ["parts","giving"] (Nk K d)):cG P w K mg base CX0 (k+1) f fd ["term","giving"] (kI K (d+1)):=by
 refine F.ok Cu (fun vs H Q E h=>?_) (fun cdv A outer s H vs Q E hr h=>?_)
 ·obtain⟨v,g,n,t,ns,rfl,_⟩:=h
  rfl
 ·obtain⟨v,g,n,t,ns,rfl,rt,hd,hg,hn,q⟩:=h
  refine⟨_,(au (aW (i:=2) Cu.nd rfl (Vv rfl) (bw (r:=fZ K) bD (pv 0) aA (fun _ _=>rfl)))
 (au (bG (aL cJ (pv 2) bM (aU _)) (aB (aG (cV xG (bw (r:=fZ K) bD (pv 1) (bw (r:=fZ K) bD (pv 0) aA (fun _ _=>rfl)) (fun _ _=>rfl)) (bw (r:=fZ K) bD (pv 0) aA (fun _ _=>rfl)) (aU _)))) aR)
 (au (bG (aL cJ (pv 2) bM (aU _)) (aB (aG (cV xG (aF (r:=RL K) (Jv rfl) rfl B.sum_ Rx (aa (bQ (L:=["one"]) (F:=["giving"]) (cap:=[1]) rfl (bJ rfl rfl (by kernel_rfl)) (dJ (bw (r:=fZ K) bD (pv 0) aA (fun _ _=>rfl))) (fun _ _ _ _ _=>(aK (i:=0) (bA (by decide+kernel)) rfl (Vv rfl))) (fun _ _ _ _ _=>bV) (fun _ _ _ _ _=>(bw (r:=fZ K) bD (pv 1) (pv 0) (fun _ _=>rfl)))) aj)) (bw (r:=fZ K) bD (pv 0) aA (fun _ _=>rfl)) (aU _)))) aR)
 (au (bG (aL cJ (pv 2) bM (aU _)) (aB (aG (cV xG (aF (r:=lR K) bx rfl B.len_ cI (aa (bQ (L:=["one"]) (F:=["giving","term"]) (cap:=[1,0]) rfl (bJ rfl rfl (by kernel_rfl)) (dJ (bw (r:=fZ K) bD (pv 0) aA (fun _ _=>rfl))) (fun _ _ _ _ _=>(aK (i:=0) (bA (by decide+kernel)) rfl (Vv rfl))) (fun _ _ _ _ _=>(mR (aL xG (bw (r:=fZ K) bD (pv 1) (pv 0) (fun _ _=>rfl)) (bw (r:=fZ K) bD (pv 2) aA (fun _ _=>rfl)) (aU _)))) (fun _ _ _ _ _=>(pv 0))) aj)) (bw (r:=fZ K) bD (pv 0) aA (fun _ _=>rfl)) (aU _)))) aR)
 (au (bG (aL cJ (pv 2) bM (aU _)) (aB (aG (aX D_all_hold hr (aa (bw (r:=fZ K) bD (pv 0) aA (fun _ _=>rfl)) (aa (pv 1) aj))))) aR)
 (au (bG (aL cJ (pv 2) bM (aU _)) (aB (aG (aX D_any_holds hr (aa (bw (r:=fZ K) bD (pv 0) aA (fun _ _=>rfl)) (aa (pv 1) aj))))) aR)
 (aB (aG (cV cJ (pv 2) bM (aU _)))))))))),?_⟩
  cases rt with
  | @free a ha =>
   refine⟨_,rfl,a,_,_,_,rfl,rfl,SqT.of ha,aM (k:=0) rfl,?_⟩
   refine⟨_,rfl,rfl,_,rfl,cR (aY (by decide)) ?_⟩
   refine⟨_,rfl,rfl,_,rfl,cR (aY (by decide)) ?_⟩
   refine⟨_,rfl,rfl,_,rfl,cR (aY (by decide)) ?_⟩
   refine⟨_,rfl,rfl,_,rfl,cR (aY (by decide)) ?_⟩
   refine⟨_,rfl,rfl,_,rfl,cR (aY (by decide)) ?_⟩
   refine⟨_,rfl,rfl,?_⟩
   have q':=q H (aZ.refl H)
   rw[hF] at q'
   rw[decide_eq_true rfl]
   exact q'
  | @never a ha =>
   refine⟨_,rfl,a,_,_,_,rfl,rfl,SqT.of ha,aM (k:=0) rfl,?_⟩
   refine⟨_,rfl,rfl,_,rfl,cR (aY (by decide)) ?_⟩
   refine⟨_,rfl,rfl,_,rfl,cR (aY (by decide)) ?_⟩
   refine⟨_,rfl,rfl,_,rfl,cR (aY (by decide)) ?_⟩
   refine⟨_,rfl,rfl,_,rfl,cR (aY (by decide)) ?_⟩
   refine⟨_,rfl,rfl,_,rfl,cR (aY (by decide)) ?_⟩
   refine⟨_,rfl,rfl,?_⟩
   have q':=q H (aZ.refl H)
   rw[hF] at q'
   rw[decide_eq_false (aY (by decide))]
   exact q'
  | @gives a i k ha hi _ _ =>
   refine⟨_,rfl,a,_,_,_,rfl,rfl,SqT.of ha,aM (k:=0) rfl,?_⟩
   refine⟨_,rfl,rfl,_,rfl,qC rfl ?_⟩
   refine⟨_,rfl,_,rfl,a,_,_,_,rfl,rfl,SqT.of ha,aM (k:=1) rfl,g,_,_,_,rfl,rfl,hg,atD (by lia),_,rfl,a,_,_,_,rfl,rfl,SqT.of ha,aM (k:=2) rfl,_,_,rfl,rfl,?_⟩
   have q':=q H (aZ.refl H)
   rw[hF] at q'
   exact q'
  | @sum a b c k ha hb hc _ hl _ _ _ =>
   refine⟨_,rfl,a,_,_,_,rfl,rfl,SqT.of ha,aM (k:=0) rfl,?_⟩
   refine⟨_,rfl,rfl,_,rfl,cR (aY (by decide)) ?_⟩
   refine⟨_,rfl,rfl,_,rfl,qC rfl ?_⟩
   refine⟨_,rfl,a,_,_,_,rfl,rfl,SqT.of ha,aM (k:=1) rfl,b,rfl,⟨_,SqT.of hb⟩,fun D hD=>cT (K:=K) (a:=b) (xs:=c.map vN) (fun i zs σ' H2=>(∃ u,σ'=[u,some (.ref g)])/\zs=((c.take i).map fun i=>ns.getD i 0).map V.int/\aZ H H2/\H2 D=some (.lst zs))
    ⟨⟨_,rfl⟩,rfl,aC hD _,aq⟩ (fun i zs σ' H2 _ h=>⟨jO h.2.2.1 (SqT.of hb),h.2.2.2⟩) ?_ ?_⟩
   ·rintro j zs x σ' H2 hx ⟨⟨u,rfl⟩,e1,sm,hDl⟩
    obtain⟨i,hi,rfl⟩:=ug hx
    have hin:i < n:=hc i (Wd hi)
    refine gT ?_
    refine⟨_,rfl,_,rfl,g,_,_,_,rfl,rfl,jO sm hg,atD (by lia),hDl,?_,⟨_,rfl⟩,?_,aQ sm hD _,aq⟩
    ·rw[e1,Vb,Vb,Vz]
     exact aJ (by lia)
    ·rw[e1,V1,hi,Vl,Vl]
     rfl
   ·rintro zs σ' H2 ⟨⟨u,rfl⟩,e1,sm,hDl⟩
    rw[Vb,Vw] at e1
    refine⟨D,_,rfl,SqL.of (by rw[hDl,e1]),_,rfl,a,_,_,_,rfl,rfl,SqT.of (sm _ _ ha),aM (k:=2) rfl,_,_,rfl,rfl,?_⟩
    have q':=q H2 sm
    rw[hF] at q'
    exact q'
  | @crowd a b c k m ha hb hc _ hl _ _ _ _ _ =>
   refine⟨_,rfl,a,_,_,_,rfl,rfl,SqT.of ha,aM (k:=0) rfl,?_⟩
   refine⟨_,rfl,rfl,_,rfl,cR (aY (by decide)) ?_⟩
   refine⟨_,rfl,rfl,_,rfl,cR (aY (by decide)) ?_⟩
   refine⟨_,rfl,rfl,_,rfl,qC rfl ?_⟩
   refine⟨_,rfl,a,_,_,_,rfl,rfl,SqT.of ha,aM (k:=1) rfl,b,rfl,⟨_,SqT.of hb⟩,fun D hD=>cT (K:=K) (a:=b) (xs:=c.map vN) (fun i zs σ' H2=>(∃ u,σ'=[u,some (.ref g),some (.ref a)])/\zs=((c.take i).filter fun i=>decide (k<=ns.getD i 0)).map vN/\aZ H H2/\H2 D=some (.lst zs))
    ⟨⟨_,rfl⟩,rfl,aC hD _,aq⟩ (fun i zs σ' H2 _ h=>⟨jO h.2.2.1 (SqT.of hb),h.2.2.2⟩) ?_ ?_⟩
   ·rintro j zs x σ' H2 hx ⟨⟨u,rfl⟩,e1,sm,hDl⟩
    obtain⟨i,hi,rfl⟩:=ug hx
    have hin:i < n:=hc i (Wd hi)
    have et:c.take (j+1)=c.take j++[i]:=by rw[V1,hi]; rfl
    refine⟨_,rfl,_,rfl,g,_,_,_,rfl,rfl,jO sm hg,atD (by lia),_,rfl,a,_,_,_,rfl,rfl,SqT.of (sm _ _ ha),aM (k:=2) rfl,_,_,rfl,rfl,_,rfl,?_⟩
    refine xx (fun cc=>?_) (fun cc=>?_)
    ·refine⟨_,rfl,hDl,?_,⟨_,rfl⟩,?_,aQ sm hD _,aq⟩
     ·rw[e1,Vb]
      have:=WW (fun i=>decide (k<=ns.getD i 0)) (c.take j)
      rw[Vz] at this
      exact aJ (by lia)
     ·rw[e1,et,Xv,Vl,ZX,if_pos cc]
      rfl
    ·refine⟨⟨_,rfl⟩,?_,sm,hDl⟩
     rw[e1,et,Xv,ZX,if_neg cc]
     simp
   ·rintro zs σ' H2 ⟨⟨u,rfl⟩,e1,sm,hDl⟩
    rw[Vb,Vw] at e1
    refine⟨D,_,rfl,.inl (SqL.of (by rw[hDl,e1])),_,rfl,a,_,_,_,rfl,rfl,SqT.of (sm _ _ ha),aM (k:=3) rfl,_,_,rfl,rfl,?_⟩
    have q':=q H2 sm
    rw[hF] at q'
    rw[Vb]
    exact q'
  | @all a b us ts ha hb _ _ rl =>
   refine⟨_,rfl,a,_,_,_,rfl,rfl,SqT.of ha,aM (k:=0) rfl,?_⟩
   refine⟨_,rfl,rfl,_,rfl,cR (aY (by decide)) ?_⟩
   refine⟨_,rfl,rfl,_,rfl,cR (aY (by decide)) ?_⟩
   refine⟨_,rfl,rfl,_,rfl,cR (aY (by decide)) ?_⟩
   refine⟨_,rfl,rfl,_,rfl,qC rfl ?_⟩
   refine⟨_,rfl,a,_,_,_,rfl,rfl,SqT.of ha,aM (k:=1) rfl,_,rfl,b,g,n,us,ts,ns,rfl,hb,rl,?_,hg,hn,fun H' s'=>?_⟩
   ·rw[Tm.dep] at hd
    lia
   ·have q':=q H' s'
    rw[hF] at q'
    exact q'
  | @any a b us ts ha hb _ _ rl =>
   refine⟨_,rfl,a,_,_,_,rfl,rfl,SqT.of ha,aM (k:=0) rfl,?_⟩
   refine⟨_,rfl,rfl,_,rfl,cR (aY (by decide)) ?_⟩
   refine⟨_,rfl,rfl,_,rfl,cR (aY (by decide)) ?_⟩
   refine⟨_,rfl,rfl,_,rfl,cR (aY (by decide)) ?_⟩
   refine⟨_,rfl,rfl,_,rfl,cR (aY (by decide)) ?_⟩
   refine⟨_,rfl,rfl,_,rfl,qC rfl ?_⟩
   refine⟨_,rfl,a,_,_,_,rfl,rfl,SqT.of ha,aM (k:=1) rfl,_,rfl,b,g,n,us,ts,ns,rfl,hb,rl,?_,hg,hn,fun H' s'=>?_⟩
   ·rw[Tm.dep] at hd
    lia
   ·have q':=q H' s'
    rw[hF] at q'
    exact q'
theorem m7 {t u:TS} {D:Ends} {σ:St} {H:Hp} (P:St->Hp->Prop) (h2:∀ σ H,P σ H->u D σ H) (h1:∀ N:St->Hp->Prop,(∀ σ H,P σ H->N σ H)->t { D with nx:=N } σ H):J0 t u D σ H:=h1 (u D) h2
theorem uv {A B:TT} {t u:TS} {D:Ends} {σ:St} {H:Hp} (b1 b2:Bool) (R:Hp->Prop) (hA:∀ Q:Bool->Hp->Prop,(∀ H1,R H1->Q b1 H1)->A σ H Q) (hB:∀ H1,R H1->∀ Q:Bool->Hp->Prop,Q b2 H1->B σ H1 Q)
  (ht:∀ H1,R H1->b1=true->b2=true->t D σ H1) (hu:∀ H1,R H1->(b1=true->b2=false)->u D σ H1):Nu (Uo A B) t u D σ H:=by
 refine hA _ fun H1 r1=>?_
 show if b1=true then B σ H1 (fun b H2=>if b=true then t D σ H2 else u D σ H2) else (if false=true then t D σ H1 else u D σ H1)
 cases b1 with
 | false=>exact cX (cX (hu H1 r1 fun z=>by cases z))
 | true =>
  refine fX (hB H1 r1 _ ?_)
  cases b2 with
  | false=>exact cX (hu H1 r1 fun _=>rfl)
  | true=>exact fX (ht H1 r1 rfl rfl)
theorem gN {i:Nat} {x:V} {σ:St} {H:Hp} {P:St->Hp->Prop} (h:P (σ.set i (some x)) H):CN i x σ H P:=h
theorem nN {D:Ends} {σ:St} {H:Hp} (h:D.nx σ H):R6 D σ H:=h
abbrev m6:Stmt:=top 70
theorem fM:aO ["_law_cell_here","_law_n","_law_deep","_law_most","_law_drawn","_law_parts","_law_crowd_here"] ["_law_cell_here","_law_n","_law_deep","_law_most"] (aD m6):=⟨rfl,rfl,rfl,by decide+kernel,rfl,by decide+kernel,by decide+kernel⟩
inductive FJ (d:Nat) (vs:List V) (H:Hp) (Q:VK):Prop where
 | mk (c:Int) (n:Nat) (deep most:Int) (z0:vs=[.int c,.int (n:Int),.int deep,.int most]) (z1:1<=n) (z2:n<=12) (z3:1<=deep) (z4:deep<=(d:Int)) (z5:1<=most) (z6:most<=9) (z7:∀ (v:V) (t:Tm) (H':Hp),aZ H H'->jg n H' v t->(t.dep:Int)<=deep->Q v H'):FJ d vs H Q
def sV (d:Nat):Sp:=fun vs H Q _=>FJ d vs H Q
theorem term_none:cG P w K mg base CX0 1 f fd ["_law_cell_here","_law_n","_law_deep","_law_most"] (sV 0):=by
 have no:∀ vs H Q E,¬ sV 0 vs H Q E:=fun vs H Q E h=>by
  obtain⟨c,n,deep,most,_,_,_,h1,h2,_⟩:=h
  lia
 exact⟨fun vs H Q E h=>absurd h (no vs H Q E),fun A outer s H args us vs Q E _ _ _ _ h=>absurd h (no vs H Q E)⟩
theorem j8 {d:Nat} (F:Fun K "_law_term" "_law_term" m6 f fd) (B:Bt mg)
  (D_law_draws:Df P w K mg base "_law_draws" 1 ["_law_cell_here","_law_parts"] (qw K)) (D_law_under:Df P w K mg base "_law_under" 1 ["_law_cell_here","_law_k"] uN) (D_law_crowd:Df P w K mg base "_law_crowd" 1 ["_law_number","_law_n"] yJ)
  (D_law_term:Df P w K mg base "_law_term" (d+1) ["_law_cell_here","_law_n","_law_deep","_law_most"] (sV d)):cG P w K mg base CX0 (d+2) f fd ["_law_cell_here","_law_n","_law_deep","_law_most"] (sV (d+1)):=by
 refine F.ok fM (fun vs H Q E h=>?_) (fun cdv A outer s H vs Q E hr h=>?_)
 ·obtain⟨c,n,deep,most,rfl,_⟩:=h
  rfl
 ·obtain⟨c,n,deep,most,rfl,n1,n12,de1,ded,m1,m9,q⟩:=h
  refine⟨_,(au (aW (i:=4) fM.nd rfl (Vv rfl) (aX D_law_draws hr (aa (pv 0) (aa (bR (aa aA (aa aA (aa aA (aa aA (aa aA aj)))))) aj))))
 (au (bG (PW.pt (Bb (aL CQ (bw (r:=iy K) bC (pv 4) aA (fun _ _=>rfl)) aA (aU _)) (tK (aL zH (pv 2) aA (aU _))))) (au (Er (L:=["_law_k"]) (F:=["_law_n","_law_most","_law_cell_here","_law_deep"]) (cap:=[1,3,0,2]) (j:=5) fM.nd rfl (Vv rfl) rfl (bJ rfl rfl (by kernel_rfl)) (dW rfl B.range_ (aa (bf bW aA (bf cW (bw (r:=iy K) bC (pv 4) aA (fun _ _=>rfl)) aA)) aj)) (fun _ _ _ _ _=>(aK (i:=0) (bA (by decide+kernel)) rfl (Vv rfl))) (fun _ _ _ _ _=>bV) (fun _ _ _ _ _=>(aX D_law_term hr (aa (aX D_law_under hr (aa (pv 3) (aa (pv 0) aj))) (aa (pv 1) (aa (bf jd (pv 4) aA) (aa (pv 2) aj)))))))
 (aB (aG (bU (aa (bw (r:=iy K) bC (bR (aa bM (aa bM aj))) (bw (r:=iy K) bC (pv 4) aA (fun _ _=>rfl)) (fun _ _=>rfl)) (aa (bH (r:=eX K) bF rfl B.tuple_ bK (aa (pv 5) aj)) aj)))))) aR)
 (au (aW (i:=6) fM.nd rfl (Vv rfl) (aX D_law_crowd hr (aa (bw (r:=iy K) bC (pv 4) aA (fun _ _=>rfl)) (aa (pv 1) aj))))
 (au (bG (aL (r:=Kp K) (yr hr.oK) (pv 6) (bU aj) (aU _)) (aB (aW (i:=6) fM.nd rfl (Vv rfl) (bU (aa (bf cW (bw (r:=iy K) bC (pv 4) aA (fun _ _=>rfl)) (pv 1)) aj)))) aR)
 (au (bG (PW.pt (Bb (aL (r:=rIn K false) jA (bw (r:=iy K) bC (pv 4) aA (fun _ _=>rfl)) (bU (aa aA (aa aA aj))) rfl) (tK (aL zH (aF (r:=lR K) bx rfl B.len_ cI (aa (pv 6) aj)) aA (aU _))))) (aB (aG (bU (aa bM (aa (pv 6) (aa (bf bW aA (bf cW (bf bW (bf jw aA (bw (r:=iy K) bC (pv 4) aA (fun _ _=>rfl))) (bw (r:=iy K) bC (pv 4) aA (fun _ _=>rfl))) (aF (xK rfl) rfl B.min_ M9 (aa aA (aa (bf jw (pv 3) (aF (r:=lR K) bx rfl B.len_ cI (aa (pv 6) aj))) aj))))) aj)))))) aR)
 (au (bG (aL cJ (bw (r:=iy K) bC (pv 4) aA (fun _ _=>rfl)) aA (aU _)) (aB (aG (bU (aa bM (aa (pv 6) (aa (bf bW aA (bf cW (bw (r:=iy K) bC (pv 4) aA (fun _ _=>rfl)) (pv 3))) (aa (bf bW aA (bf cW (bw (r:=iy K) bC (pv 4) aA (fun _ _=>rfl)) (aF (r:=lR K) bx rfl B.len_ cI (aa (pv 6) aj)))) aj))))))) aR)
 (au (bG (aL cJ (bw (r:=iy K) bC (pv 4) aA (fun _ _=>rfl)) aA (aU _)) (aB (aG (bU (aa (bw (r:=iy K) bC (bR (aa bM (aa bM (aa bM aj)))) (bf cW (bw (r:=iy K) bC (pv 4) aA (fun _ _=>rfl)) aA) (fun _ _=>rfl)) aj)))) aR)
 (aB (aG (bU (aa bM (aa (bf cW (bw (r:=iy K) bC (pv 4) aA (fun _ _=>rfl)) (pv 1)) (aa (bf bW aA (bf cW (bw (r:=iy K) bC (pv 4) aA (fun _ _=>rfl)) (pv 3))) aj))))))))))))),?_⟩
  refine⟨_,rfl,small (by show 5<=1000; decide),fun p1 h1=>?_⟩
  generalize eH1:upd H p1 _=H1
  obtain⟨g1,e1⟩:=aP eH1 h1
  refine⟨c,p1,[9,12,9,4096,12],rfl,SqL.of e1,by decide,by decide,fun p2 h2=>?_⟩
  generalize eH2:upd H1 p2 _=H2
  obtain⟨g2,e2⟩:=aP eH2 h2
  have hps:∀ q∈([9,12,9,4096,12]:List Int),0 < q:=by decide
  obtain⟨d0,k0,b0⟩:=cu (c:=ni c) (i:=0) hps rfl
  obtain⟨d1,k1,b1⟩:=cu (c:=ni c) (i:=1) hps rfl
  obtain⟨d2,k2,b2⟩:=cu (c:=ni c) (i:=2) hps rfl
  obtain⟨d3,k3,b3⟩:=cu (c:=ni c) (i:=3) hps rfl
  obtain⟨d4,k4,b4⟩:=cu (c:=ni c) (i:=4) hps rfl
  have a0:=aM (d7 k0)
  have a1:=aM (d7 k1)
  have a2:=aM (d7 k2)
  have a3:=aM (d7 k3)
  have a4:=aM (d7 k4)
  change _=some (HO.lst ((xY (ni c) [9,12,9,4096,12]).map V.int)) at e2
  generalize xY (ni c) [9,12,9,4096,12]=ds at *
  have gH:aZ H H2:=g1.trans g2
  refine gN ?_
  dsimp only
  show J0 (Nu _ _ _) _ _ _ _
  refine m7 (fun σ H3=>σ=[some (.int c),some (.int (n:Int)),some (.int deep),some (.int most),some (.ref p2),none,none]/\H2=H3) ?rest (fun _ R=>?_)
  case rest =>
   rintro σ H3 ⟨rfl,rfl⟩
   refine⟨_,rfl,p2,_,_,_,rfl,rfl,SqL.of e2,a3,_,rfl,d3,n,rfl,by lia,fun cs r3 H3 hc hp hl s3 f3 e3=>?_⟩
   refine gN ?_
   dsimp only
   show J0 (Nu _ _ _) _ _ _ _
   refine m7 (fun σ H5=>∃ (rc:Addr) (cs:List Nat),σ=[some (.int c),some (.int (n:Int)),some (.int deep),some (.int most),some (.ref p2),none,some (.ref rc)]/\aZ H2 H5/\H5 rc=some (.tup (cs.map vN))/\(∀ i∈cs,i < n)/\cs.Pairwise (· < ·)/\cs.length<=n/\1<=cs.length) ?rest2 (fun _ R=>?_)
   case rest2 =>
    rintro σ H5 ⟨rc,cs,rfl,s5,e5,hc,hp,hl,h1l⟩
    have e2':=s5 _ _ e2
    have lenr:((cs.map vN).length:Int)=(cs.length:Int):=by rw[Vb]
    show J0 (Nu _ _ _) _ _ _ _
    refine m7 (fun σ H6=>σ=[some (.int c),some (.int (n:Int)),some (.int deep),some (.int most),some (.ref p2),none,some (.ref rc)]/\aZ H5 H6) ?rest3 (fun _ R=>?_)
    case rest3 =>
     rintro σ H6 ⟨rfl,s6⟩
     have e2':=s6 _ _ e2'
     have e5:=s6 _ _ e5
     have s56:aZ H H6:=gH.trans (s5.trans s6)
     refine⟨_,rfl,p2,_,_,_,rfl,rfl,SqL.of e2',a0,rfl,_,rfl,?_⟩
     refine xx (fun _=>?_) (fun _=>?_)
     ·refine⟨_,rfl,_,rfl,p2,_,_,_,rfl,rfl,SqL.of e2',a2,_,rfl,_,_,rfl,rfl,(by show (0:Int) < most; lia),_,_,rfl,rfl,?_⟩
      refine⟨_,rfl,p2,_,_,_,rfl,rfl,SqL.of e2',a4,_,rfl,rc,_,rfl,.inr (SqT.of e5),_,_,rfl,rfl,?_,_,_,rfl,rfl,small (by show 4<=1000; decide),fun p7 h7=>?_⟩
      ·rw[lenr]
       lia
      ·have u1:0<=d2 % most:=Wg _ (by lia)
       have u2:d2 % most < most:=V5 _ (by lia)
       have u3:0<=d4 % ((cs.map vN).length:Int):=Wg _ (by rw[lenr]; lia)
       have u4:d4 % ((cs.map vN).length:Int) < (cs.length:Int):=by
        have:=V5 d4 (b:=((cs.map vN).length:Int)) (by rw[lenr]; lia)
        rw[lenr] at this ⊢
        exact this
       refine q (.ref p7) (.crowd cs (1+d2 % most) (1+d4 % ((cs.map vN).length:Int))) _ (s56.trans (aC h7 _)) (.crowd aq (aC h7 _ _ _ e5) hc hp (by lia) h1l (by lia) (by lia) (by lia) (by lia)) ?_
       exact de1
     ·refine⟨_,rfl,p2,_,_,_,rfl,rfl,SqL.of e2',a0,rfl,_,rfl,?_⟩
      refine xx (fun _=>?_) (fun _=>?_)
      ·refine⟨small (by show 3<=1000; decide),fun p7 h7=>?_⟩
       generalize eH7:upd H6 p7 _=H7
       obtain⟨g7,e7⟩:=aP eH7 h7
       have u1:0<=d1 % 3:=Wg _ (by lia)
       have u2:d1 % 3 < 3:=V5 _ (by lia)
       have fin:∀ p8 (x:V9),H7 p8=none->(x = "free"∨x = "never")->Q (.ref p8) (upd H7 p8 (.tup [.str x])):=fun p8 x h8 hx=>by
        rcases hx with rfl | rfl
        ·refine q (.ref p8) .free _ (s56.trans (g7.trans (aC h8 _))) (.free aq) ?_
         exact de1
        ·refine q (.ref p8) .never _ (s56.trans (g7.trans (aC h8 _))) (.never aq) ?_
         exact de1
       refine⟨_,rfl,p2,_,_,_,rfl,rfl,SqL.of (g7 _ _ e2'),a1,_,_,rfl,rfl,(by show (0:Int) < 3; decide),?_⟩
       rcases (show d1 % 3=0∨d1 % 3=1∨d1 % 3=2 by lia) with z | z | z
       ·exact⟨p7,_,_,_,rfl,rfl,SqL.of e7,by rw[z]; rfl,small (by show 1<=1000; decide),fun p8 h8=>fin p8 _ h8 (.inl rfl)⟩
       ·exact⟨p7,_,_,_,rfl,rfl,SqL.of e7,by rw[z]; rfl,small (by show 1<=1000; decide),fun p8 h8=>fin p8 _ h8 (.inl rfl)⟩
       ·exact⟨p7,_,_,_,rfl,rfl,SqL.of e7,by rw[z]; rfl,small (by show 1<=1000; decide),fun p8 h8=>fin p8 _ h8 (.inr rfl)⟩
      ·have u1:0<=d1 % (n:Int):=Wg _ (by lia)
       have u2:d1 % (n:Int) < (n:Int):=V5 _ (by lia)
       have u3:0<=d2 % most:=Wg _ (by lia)
       have u4:d2 % most < most:=V5 _ (by lia)
       refine⟨_,rfl,p2,_,_,_,rfl,rfl,SqL.of e2',a1,_,rfl,_,_,rfl,rfl,(by show (0:Int) < (n:Int); lia),?_⟩
       refine⟨_,rfl,p2,_,_,_,rfl,rfl,SqL.of e2',a2,_,rfl,_,_,rfl,rfl,(by show (0:Int) < most; lia),_,_,rfl,rfl,small (by show 3<=1000; decide),fun p7 h7=>?_⟩
       obtain⟨i,hi⟩:=Xx u1
       rw[hi] at u2
       refine q (.ref p7) (.gives i (1+d2 % most)) _ (s56.trans (aC h7 _)) (.gives (aq.trans (by show some (HO.tup [V.str "gives",V.int (d1 % (n:Int)),V.int (1+d2 % most)])=some (HO.tup [V.str "gives",V.int (i:Int),V.int (1+d2 % most)]); rw[hi])) (by lia) (by lia) (by lia)) ?_
       exact de1
    ·refine uv (inV (.int d0) [.int 3,.int 4]) (decide (1 < (cs.length:Int))) (fun H6=>aZ H5 H6) (fun Q' hQ=>?_) (fun H6 s6 Q' hQ=>?_) (fun H6 s6 _ hl2=>?_) (fun H6 s6 _=>R _ _ ⟨rfl,s6⟩)
     ·refine⟨_,rfl,p2,_,_,_,rfl,rfl,SqL.of e2',a0,small (by show 2<=1000; decide),fun p6 h6=>⟨p6,_,rfl,.inr (SqT.of aq),rfl,rfl,_,rfl,hQ _ (aC h6 _)⟩⟩
     ·refine⟨_,rfl,rc,_,rfl,.inr (SqT.of (s6 _ _ e5)),_,_,rfl,rfl,_,rfl,?_⟩
      rw[lenr]
      exact hQ
     ·have e2':=s6 _ _ e2'
      have e5:=s6 _ _ e5
      have s56:aZ H H6:=gH.trans (s5.trans s6)
      have hl3:(1:Int) < (cs.length:Int):=of_decide_eq_true hl2
      refine⟨_,rfl,_,rfl,p2,_,_,_,rfl,rfl,SqL.of e2',a1,_,_,rfl,rfl,.inl ⟨by decide,by decide⟩,_,rfl,p2,_,_,_,rfl,rfl,SqL.of e2',a2,_,_,rfl,rfl,?_⟩
      refine⟨_,rfl,_,rfl,rc,_,rfl,.inr (SqT.of e5),_,_,rfl,rfl,.inl ⟨by lia,by lia⟩,_,_,rfl,?_⟩
      have pz:0 < most * ((cs.map vN).length:Int):=by
       rw[lenr]
       exact Int.mul_pos (by lia) (by lia)
      generalize hz:(if most * ((cs.map vN).length:Int) < 99 then most * ((cs.map vN).length:Int) else 99)=z
      have z1:0 < z:=by
       rw[← hz]
       split <;> lia
      have z2:z<=99:=by
       rw[← hz]
       split <;> lia
      have u3:0<=(9 * d1+d2) % z:=Wg _ (by lia)
      have u4:(9 * d1+d2) % z < z:=V5 _ z1
      refine⟨_,_,rfl,rfl,z1,_,_,rfl,rfl,small (by show 3<=1000; decide),fun p7 h7=>?_⟩
      refine q (.ref p7) (.sum cs (1+(9 * d1+d2) % z)) _ (s56.trans (aC h7 _)) (.sum aq (aC h7 _ _ _ e5) hc hp (by lia) (by lia) (by lia) (by lia)) ?_
      exact de1
   ·refine⟨_,rfl,small (by show 0<=1000; decide),fun p4 h4=>?_⟩
    have e3':SqT K H3 r3 ((cs.map fun i:Nat=>(i:Int)).map V.int):=by rw[← fK]; exact SqT.of e3
    have g4:aZ H3 (upd H3 p4 (.tup [])):=aC h4 _
    refine⟨r3,p4,cs.map (fun i:Nat=>(i:Int)),[],rfl,rfl,jO g4 e3',SqT.of aq,_,rfl,?_⟩
    refine xx (fun ce=>?_) (fun ce=>?_)
    ·have u1:0<=d4 % (n:Int):=Wg _ (by lia)
     have u2:d4 % (n:Int) < (n:Int):=V5 _ (by lia)
     refine⟨_,rfl,p2,_,_,_,rfl,rfl,SqL.of (g4 _ _ (s3 _ _ e2)),a4,_,rfl,_,_,rfl,rfl,(by show (0:Int) < (n:Int); lia),small (by show 1<=1000; decide),fun p5 h5=>?_⟩
     obtain⟨i,hi⟩:=Xx u1
     rw[hi] at u2
     refine R _ _ ⟨p5,[i],rfl,s3.trans (g4.trans (aC h5 _)),aq.trans (by show some (HO.tup [V.int (d4 % (n:Int))])=some (HO.tup [V.int (i:Int)]); rw[hi]),?_,by simp,n1,Vg _⟩
     intro j hj
     rw[YL] at hj
     lia
    ·refine R _ _ ⟨r3,cs,rfl,s3.trans g4,g4 _ _ e3,hc,hp,hl,?_⟩
     cases cs with
     | nil=>exact absurd (decide_eq_true rfl) ce
     | cons x xs=>rw[Vr]; lia
  ·refine uv (decide (d0 < 2)) (decide (1 < deep)) (fun H3=>H2=H3) (fun Q' hQ=>?_) (fun H3 e Q' hQ=>?_) (fun H3 e c1 c2=>?_) (fun H3 e _=>R _ _ ⟨rfl,e⟩)
   ·exact⟨_,rfl,p2,_,_,_,rfl,rfl,SqL.of e2,a0,_,_,rfl,rfl,_,rfl,hQ _ rfl⟩
   ·exact⟨_,rfl,_,_,rfl,rfl,_,rfl,hQ⟩
   ·subst e
    have c1:d0 < 2:=of_decide_eq_true c1
    have c2:1 < deep:=of_decide_eq_true c2
    have u1:0<=d4 % 5:=Wg _ (by lia)
    have u2:d4 % 5 < 5:=V5 _ (by lia)
    refine⟨_,rfl,p2,_,_,_,rfl,rfl,SqL.of e2,a4,_,_,rfl,rfl,(by show (0:Int) < 5; decide),_,_,rfl,rfl,_,rfl,by lia,by lia,fun D hD=>eQ (lo:=0) (n:=(2+d4 % 5).toNat)
     (fun i zs σ' H5=>(∃ u,σ'=[u,some (.int (n:Int)),some (.int most),some (.int c),some (.int deep)])/\aZ H2 H5/\H5 D=some (.lst zs)/\zs.length=i/\∃ ts,cU n H5 zs ts/\(tdL ts:Int)<=deep - 1)
     ⟨⟨_,rfl⟩,aC hD _,aq,rfl,[],.nil,by rw[tdL]; lia⟩ (fun i zs σ' H5 _ h=>h.2.2.1) ?_ ?_⟩
    ·rintro i zs σ' H5 hi ⟨⟨u,rfl⟩,s5,eD,lz,ts,rt,td⟩
     refine gT ?_
     refine⟨_,rfl,_,rfl,c,i,by rw[ZR]; rfl,by lia,_,rfl,_,rfl,_,_,rfl,rfl,_,rfl,Qv c i,n,deep - 1,most,rfl,n1,n12,by lia,by lia,m1,m9,fun v t H6 s6 r6 d6=>?_⟩
     refine⟨s6 _ _ eD,?_,⟨_,rfl⟩,aQ (s5.trans s6) hD _,aq,?_,ts++[t],?_,?_⟩
     ·exact aJ (by lia)
     ·rw[Ve,lz]
      rfl
     ·have s7:=cj (zs':=zs++[v]) (s6 _ _ eD)
      exact ((rt.mono s6).aV s7).snoc (r6.aV s7)
     ·have:=Ad (m:=(deep - 1).toNat) (t:=t) (by lia) (ts:=ts) (by lia)
      lia
    ·rintro zs σ' H5 ⟨⟨u,rfl⟩,s5,eD,lz,ts,rt,td⟩
     refine⟨small (by show 2<=1000; decide),fun p6 h6=>?_⟩
     generalize eH6:upd H5 p6 _=H6
     obtain⟨g6,e6⟩:=aP eH6 h6
     refine⟨_,rfl,p2,_,_,_,rfl,rfl,SqL.of (g6 _ _ (s5 _ _ e2)),a0,?_⟩
     rcases (show d0=0∨d0=1 by lia) with z | z
     ·subst z
      refine⟨p6,_,_,_,rfl,rfl,SqL.of e6,rfl,_,rfl,D,_,rfl,.inl ⟨SqL.of (g6 _ _ eD),fun p7 h7=>?_⟩⟩
      generalize eH7:upd H6 p7 _=H7
      obtain⟨g7,e7⟩:=aP eH7 h7
      refine⟨small (by show 2<=1000; decide),fun p8 h8=>?_⟩
      refine q (.ref p8) (.all ts) _ (gH.trans (s5.trans (g6.trans (g7.trans (aC h8 _))))) (.all aq (aC h8 _ _ _ e7) (by lia) (by lia) (rt.mono (g6.trans (g7.trans (aC h8 _))))) ?_
      rw[Tm.dep]
      lia
     ·subst z
      refine⟨p6,_,_,_,rfl,rfl,SqL.of e6,rfl,_,rfl,D,_,rfl,.inl ⟨SqL.of (g6 _ _ eD),fun p7 h7=>?_⟩⟩
      generalize eH7:upd H6 p7 _=H7
      obtain⟨g7,e7⟩:=aP eH7 h7
      refine⟨small (by show 2<=1000; decide),fun p8 h8=>?_⟩
      refine q (.ref p8) (.any ts) _ (gH.trans (s5.trans (g6.trans (g7.trans (aC h8 _))))) (.any aq (aC h8 _ _ _ e7) (by lia) (by lia) (rt.mono (g6.trans (g7.trans (aC h8 _))))) ?_
      rw[Tm.dep]
      lia
theorem KH (ns:List Int) (lo hi:Option Int):∃ ks:List Int,Ep (ns.map V.int) lo hi=ks.map V.int/\ks.length<=ns.length:=by
 unfold Ep
 generalize HT.sIx _ _ lo=x
 generalize HT.sIx _ _ hi=y
 refine⟨(ns.drop x).take (y - x),by rw[List.map_take,List.map_drop],?_⟩
 rw[Vz,aaL]
 lia
theorem tH:∀ (ns acc:List Int),acc.Nodup->(ns.foldl W9 acc).Nodup
 | [],acc,h=>h
 | n::r,acc,h=>by
  rw[Wo]
  refine tH r _ ?_
  unfold W9
  split
  ·exact h
  ·rename_i z
   rw[List.nodup_append]
   refine⟨h,by simp,fun a ha b hb e=>?_⟩
   rw[YL] at hb
   subst hb
   subst e
   exact z (List.any_eq_true.mpr ⟨a,ha,beq_self_eq_true a⟩)
theorem Gi:∀ (ns acc:List Int),(ns.foldl W9 acc).length<=acc.length+ns.length
 | [],acc=>by simp
 | n::r,acc=>by
  rw[Wo]
  refine V2 (Gi r _) ?_
  unfold W9
  split
  ·rw[Vr]; lia
  ·simp only[Ve,Vr,List.length_nil]; lia
theorem vK (ns:List Int):ddI ns=ns.foldl W9 []:=by
 unfold ddI PyProof.Rows.firstMet
 congr 1
 apply abN
 intro i
 rw[VF]
 by_cases h:i < ns.length
 ·rw[XN h,Vf h]
  simp [Vi,Vf h]
 ·have e1:(VD ns.length)[i]? = none:=W7 (by rw[VP]; lia)
  rw[e1,W7 (by lia)]
  rfl
theorem sX:∀ {a b:List Int},a.Perm b->a.Pairwise (·<=·)->b.Pairwise (·<=·)->a=b
 | [],b,p,_,_=>(List.Perm.nil_eq p)
 | x::a,[],p,_,_=>absurd p.length_eq (by simp)
 | x::a,y::b,p,ha,hb=>by
  rw[W6] at ha hb
  have h1:x<=y:=by
   rcases List.mem_cons.mp (p.mem_iff.mpr Vj) with h | h
   ·lia
   ·exact ha.1 y h
  have h2:y<=x:=by
   rcases List.mem_cons.mp (p.mem_iff.mp Vj) with h | h
   ·lia
   ·exact hb.1 x h
  have e:x=y:=by lia
  subst e
  rw[sX (List.Perm.cons_inv p) ha.2 hb.2]
abbrev Pl:=List (Int × Tm)
inductive d8 (n:Nat) (H:Hp):List V->Pl->Prop where
 | nil:d8 n H [] []
 | cons {r:Addr} {k:Int} {v:V} {t:Tm} {vs:List V} {ps:Pl}:H r=some (.tup [.int k,v])->jg n H v t->d8 n H vs ps->d8 n H (.ref r::vs) ((k,t)::ps)
theorem d8.aV {n:Nat} {H H':Hp} (e:∀ a xs,H a=some (HO.tup xs)->H' a=some (HO.tup xs)):∀ {vs:List V} {ps:Pl},d8 n H vs ps->d8 n H' vs ps
 | _,_,.nil=>.nil
 | _,_,.cons h t r=>.cons (e _ _ h) (t.aV e) (d8.aV e r)
theorem d8.length {n:Nat} {H:Hp}:∀ {vs:List V} {ps:Pl},d8 n H vs ps->vs.length=ps.length
 | _,_,.nil=>rfl
 | _,_,.cons _ _ r=>by rw[Vr,Vr,d8.length r]
theorem d8.get {n:Nat} {H:Hp}:∀ {vs:List V} {ps:Pl} {i:Nat} {v:V},d8 n H vs ps->vs[i]? = some v->∃ r k u t,v = .ref r/\H r=some (.tup [.int k,u])/\jg n H u t/\ps[i]? = some (k,t)
 | _,_,_,_,.nil,h=>by simp at h
 | _,_,0,_,.cons h t _,e=>by
  cases (show some _=some _ from e)
  exact⟨_,_,_,_,rfl,h,t,rfl⟩
 | _,_,i+1,_,.cons _ _ r,e=>by
  obtain⟨a,k,u,t,h1,h2,h3,h4⟩:=d8.get (i:=i) r (by simpa using e)
  exact⟨a,k,u,t,h1,h2,h3,by simpa using h4⟩
theorem d8.snoc {n:Nat} {H:Hp} {r:Addr} {k:Int} {v:V} {t:Tm} (h:H r=some (.tup [.int k,v])) (ht:jg n H v t):∀ {vs:List V} {ps:Pl},d8 n H vs ps->d8 n H (vs++[.ref r]) (ps++[(k,t)])
 | _,_,.nil=>.cons h ht .nil
 | _,_,.cons a b c=>.cons a b (d8.snoc h ht c)
def okP (p:Pl):Prop:=p≠[]/\p.length<=9/\(p.map (·.1)).Pairwise (· < ·)/\∀ x∈p,1<=x.1/\x.1<=9/\x.2.dep<=4
def nQ (n:Nat) (H:Hp) (a:Addr) (p:Pl):Prop:=okP p/\∃ vs,H a=some (.tup vs)/\d8 n H vs p
theorem nQ.aV {n:Nat} {H H':Hp} {a:Addr} {p:Pl} (e:∀ a xs,H a=some (HO.tup xs)->H' a=some (HO.tup xs)) (h:nQ n H a p):nQ n H' a p:=by
 obtain⟨ok,vs,h1,h2⟩:=h
 exact⟨ok,vs,e _ _ h1,h2.aV e⟩
theorem nQ.mono {n:Nat} {H H':Hp} {a:Addr} {p:Pl} (e:aZ H H') (h:nQ n H a p):nQ n H' a p:=h.aV fun a xs q=>e a _ q
inductive fY (n:Nat) (H:Hp):List Addr->List Pl->Prop where
 | nil:fY n H [] []
 | cons {a:Addr} {p:Pl} {as:List Addr} {ps:List Pl}:nQ n H a p->fY n H as ps->fY n H (a::as) (p::ps)
theorem fY.aV {n:Nat} {H H':Hp} (e:∀ a xs,H a=some (HO.tup xs)->H' a=some (HO.tup xs)):∀ {as:List Addr} {ps:List Pl},fY n H as ps->fY n H' as ps
 | _,_,.nil=>.nil
 | _,_,.cons h r=>.cons (h.aV e) (fY.aV e r)
theorem fY.length {n:Nat} {H:Hp}:∀ {as:List Addr} {ps:List Pl},fY n H as ps->as.length=ps.length
 | _,_,.nil=>rfl
 | _,_,.cons _ r=>by rw[Vr,Vr,fY.length r]
theorem fY.get {n:Nat} {H:Hp}:∀ {as:List Addr} {ps:List Pl} {i:Nat} {a:Addr},fY n H as ps->as[i]? = some a->∃ p,ps[i]? = some p/\nQ n H a p
 | _,_,_,_,.nil,h=>by simp at h
 | _,_,0,_,.cons h _,e=>by
  cases (show some _=some _ from e)
  exact⟨_,rfl,h⟩
 | _,_,i+1,_,.cons _ r,e=>by
  obtain⟨p,h1,h2⟩:=fY.get (i:=i) r (by simpa using e)
  exact⟨p,by simpa using h1,h2⟩
theorem fY.snoc {n:Nat} {H:Hp} {a:Addr} {p:Pl} (h:nQ n H a p):∀ {as:List Addr} {ps:List Pl},fY n H as ps->fY n H (as++[a]) (ps++[p])
 | _,_,.nil=>.cons h .nil
 | _,_,.cons x r=>.cons x (fY.snoc h r)
inductive dZ (n:Nat) (H:Hp):List V->List (List Pl)->Prop where
 | nil:dZ n H [] []
 | cons {c:Addr} {as:List Addr} {ps:List Pl} {us:List V} {bs:List (List Pl)}:H c=some (.lst (as.map V.ref))->as.length<=100->fY n H as ps->dZ n H us bs->dZ n H (.ref c::us) (ps::bs)
theorem dZ.mono {n:Nat} {H H':Hp} (e:aZ H H'):∀ {us:List V} {bs:List (List Pl)},dZ n H us bs->dZ n H' us bs
 | _,_,.nil=>.nil
 | _,_,.cons h l p r=>.cons (e _ _ h) l (p.aV fun a xs q=>e a _ q) (dZ.mono e r)
theorem dZ.length {n:Nat} {H:Hp}:∀ {us:List V} {bs:List (List Pl)},dZ n H us bs->us.length=bs.length
 | _,_,.nil=>rfl
 | _,_,.cons _ _ _ r=>by rw[Vr,Vr,dZ.length r]
theorem dZ.get {n:Nat} {H:Hp}:∀ {us:List V} {bs:List (List Pl)} {i:Nat} {u:V},dZ n H us bs->us[i]? = some u->∃ c as ps,u = .ref c/\bs[i]? = some ps/\H c=some (.lst (as.map V.ref))/\as.length<=100/\fY n H as ps
 | _,_,_,_,.nil,h=>by simp at h
 | _,_,0,_,.cons h l p _,e=>by
  cases (show some _=some _ from e)
  exact⟨_,_,_,rfl,rfl,h,l,p⟩
 | _,_,i+1,_,.cons _ _ _ r,e=>by
  obtain⟨c,as,ps,h1,h2,h3⟩:=dZ.get (i:=i) r (by simpa using e)
  exact⟨c,as,ps,h1,by simpa using h2,h3⟩
theorem dZ.snoc {n:Nat} {H:Hp} {c:Addr} {as:List Addr} {ps:List Pl} (h:H c=some (.lst (as.map V.ref))) (hl:as.length<=100) (hp:fY n H as ps):∀ {us:List V} {bs:List (List Pl)},dZ n H us bs->dZ n H (us++[.ref c]) (bs++[ps])
 | _,_,.nil=>.cons h hl hp .nil
 | _,_,.cons x y z r=>.cons x y z (dZ.snoc h hl hp r)
def Bh (n:Nat) (H:Hp) (b:Addr) (bk:List (List Pl)):Prop:=∃ us,H b=some (.lst us)/\dZ n H us bk/\bk.length<=12
theorem Bh.mono {n:Nat} {H H':Hp} {b:Addr} {bk:List (List Pl)} (e:aZ H H') (h:Bh n H b bk):Bh n H' b bk:=by
 obtain⟨us,h1,h2,h3⟩:=h
 exact⟨us,e _ _ h1,h2.mono e,h3⟩
def owS (g:List Int) (f:Int) (x:Int × Tm):Int:=if hF g x.2=true then x.1 else f
def owF (g:List Int) (p:Pl):Int:=p.foldl (owS g) 0
theorem J6 {g:List Int} {p:Pl} {i:Nat} {x:Int × Tm} (h:p[i]? = some x):owF g (p.take (i+1))=if hF g x.2=true then x.1 else owF g (p.take i):=by
 unfold owF
 rw[V1,h]
 show ((p.take i)++[x]).foldl (owS g) 0=_
 rw[List.foldl_append]
 rfl
def lsF (p:Pl):Int:=mxD 0 (p.map (·.1))
theorem lL:∀ (l:List Int) (a b:Int),l.foldl max (max a b)=max a (l.foldl max b)
 | [],a,b=>rfl
 | y::l,a,b=>by
  rw[Wo,Wo,show max (max a b) y=max a (max b y) by lia]
  exact lL l a (max b y)
def duF (g:List Int) (f:Int) (ps:List Pl):Int:=(ps.map (owF g)).foldl max f
theorem Kh (g:List Int) {f:Int} (hf:0<=f) (ps:List Pl):duF g f ps=max f (duF g 0 ps):=by
 unfold duF
 rw[← lL,show max f 0=f by lia]
def fD (g:List Int) (fl:List Int) (bk:List (List Pl)):List Int:=Zi (duF g) fl bk
def rfS (f:Int) (ps:List Pl):Int:=(ps.map lsF).foldl max f
def rfF (fl:List Int) (bk:List (List Pl)):List Int:=Zi rfS fl bk
theorem Cj {α β γ:Type} (f:α->β->γ) {xs:List α} {ys:List β} {i:Nat} {x:α} {y:β} (h1:xs[i]? = some x) (h2:ys[i]? = some y):Zi f (xs.take (i+1)) (ys.take (i+1))=Zi f (xs.take i) (ys.take i)++[f x y]:=by
 have l1:i < xs.length:=(List.getElem?_eq_some_iff.mp h1).1
 have l2:i < ys.length:=(List.getElem?_eq_some_iff.mp h2).1
 rw[V1,V1,h1,h2]
 show Zi f (xs.take i++[x]) (ys.take i++[y])=_
 rw[List.zipWith_append (by rw[Vz,Vz]; lia)]
 rfl
theorem Je {as:List Addr} {i:Nat} {x:V} (h:(as.map V.ref)[i]? = some x):∃ a,as[i]? = some a/\x = .ref a:=by
 rw[VF] at h
 cases e:as[i]? with
 | none=>rw[e] at h; cases h
 | some a=>rw[e] at h; exact⟨a,rfl,(Wn h).symm⟩
theorem take_snoc {α β:Type} (f:α->β) {xs:List α} {i:Nat} {x:α} (h:xs[i]? = some x):(xs.take (i+1)).map f=(xs.take i).map f++[f x]:=(tL f h).symm
abbrev Jh:Stmt:=top 33
theorem yU:aO ["pledge","giving","step","term"] ["pledge","giving"] (aD Jh):=⟨rfl,rfl,rfl,by decide+kernel,rfl,by decide+kernel,by decide+kernel⟩
inductive Ik (K:VB) (vs:List V) (H:Hp) (Q:VK):Prop where
 | mk (a g:Addr) (n:Nat) (p:Pl) (ns:List Int) (z0:vs=[.ref a,.ref g]) (z1:nQ n H a p) (z2:SqT K H g (ns.map V.int)) (z3:n<=ns.length) (z4:∀ H',aZ H H'->Q (.int (owF ns p)) H'):Ik K vs H Q
def Ai (K:VB):Sp:=fun vs H Q _=>Ik K vs H Q
theorem OJ {k:Nat} (F:Fun K "owes" "owes" Jh f fd) (B:Bt mg)
  (D_holds:Df P w K mg base "holds" k ["term","giving"] (kI K 4)):cG P w K mg base CX0 (k+1) f fd ["pledge","giving"] (Ai K):=by
 refine F.ok yU (fun vs H Q E h=>?_) (fun cdv A outer s H vs Q E hr h=>?_)
 ·obtain⟨a,g,n,p,ns,rfl,_⟩:=h
  rfl
 ·obtain⟨a,g,n,p,ns,rfl,⟨ok,vs,ha,rp⟩,hg,hn,q⟩:=h
  refine⟨_,(au (eZ Wf rfl (QK rfl B.reversed_ (aa (pv 0) aj)) (dM (K:=K) 2 rfl rfl (bB (aK (i:=2) yU.nd rfl (Vv rfl)) (bB (aK (i:=3) yU.nd rfl (Vv rfl)) dI))) (aB (bG (dF (aX D_holds hr (aa (pv 3) (aa (pv 1) aj)))) (aB (aG (pv 2))) aR)))
 (aB (aG aA))),?_⟩
  have el:=rp.length
  refine⟨_,rfl,a,vs,rfl,SqT.of ha,Pr (K:=K) (a:=a) (xs:=vs) (fun i σ H2=>(∃ u v,σ=[some (.ref a),some (.ref g),u,v])/\aZ H H2/\owF ns p=owF ns (p.take (p.length - i)))
   ⟨⟨_,_,rfl⟩,aZ.refl H,by rw[Nat.sub_zero,Vw]⟩ (fun i σ H2 _ h=>SqT.of (h.2.1 _ _ ha)) ?_ ?_⟩
  ·rintro i x σ H2 hi hx ⟨⟨u,v,rfl⟩,sm,ow⟩
   obtain⟨r,k0,y,t,rfl,hr0,rt,hp⟩:=rp.get hx
   have hm:=Wd hp
   have e1:p.length - i=vs.length - 1 - i+1:=by lia
   have e2:p.length - (i+1)=vs.length - 1 - i:=by lia
   rw[e1,J6 hp] at ow
   refine⟨r,_,rfl,SqT.of (sm _ _ hr0),rfl,_,_,rfl,_,_,rfl,rfl,?_⟩
   refine⟨_,rfl,_,rfl,y,g,n,t,ns,rfl,rt.mono sm,(ok.2.2.2 _ hm).2.2,jO sm hg,hn,fun H3 s3=>⟨_,rfl,?_⟩⟩
   cases e:hF ns t with
   | true =>
    refine fX ⟨_,rfl,?_⟩
    rw[if_pos e] at ow
    have q':=q H3 (sm.trans s3)
    rw[ow] at q'
    exact q'
   | false =>
    refine cX ⟨⟨_,_,rfl⟩,sm.trans s3,?_⟩
    rw[if_neg (by rw[e]; exact Vm)] at ow
    rw[e2]
    exact ow
  ·rintro σ H2 ⟨⟨u,v,rfl⟩,sm,ow⟩
   rw[el,Nat.sub_self,Wk] at ow
   have q':=q H2 sm
   rw[ow] at q'
   exact q'
abbrev km:Stmt:=top 34
theorem wN:aO ["pledge"] ["pledge"] (aD km):=⟨rfl,rfl,rfl,by decide+kernel,rfl,by decide+kernel,by decide+kernel⟩
inductive Gh (vs:List V) (H:Hp) (Q:VK):Prop where
 | mk (a:Addr) (n:Nat) (p:Pl) (z0:vs=[.ref a]) (z1:nQ n H a p) (z2:∀ H',aZ H H'->Q (.int (lsF p)) H'):Gh  vs H Q
def Mg:Sp:=fun vs H Q _=>Gh  vs H Q
theorem wG (F:Fun K "last_step" "last_step" km f fd) (B:Bt mg) :
  cG P w K mg base CX0 1 f fd ["pledge"] Mg:=by
 refine F.ok wN (fun vs H Q E h=>?_) (fun cdv A outer s H vs Q E hr h=>?_)
 ·obtain⟨a,n,p,rfl,_⟩:=h
  rfl
 ·obtain⟨a,n,p,rfl,⟨ok,vs,ha,rp⟩,q⟩:=h
  refine⟨_,(aB (aG (Ft rfl rfl B.max_ (aa (bQ (L:=["step","term"]) (F:=[]) (cap:=[]) rfl (bJ rfl rfl (by kernel_rfl)) (dJ (pv 0)) (fun _ _ _ _ _=>(dM (K:=K) 2 rfl rfl (bB (aK (i:=0) (bA (by decide+kernel)) rfl (Vv rfl)) (bB (aK (i:=1) (bA (by decide+kernel)) rfl (Vv rfl)) dI)))) (fun _ _ _ _ _=>bV) (fun _ _ _ _ _=>(pv 0))) aj)))),?_⟩
  have el:=rp.length
  have l9:=ok.2.1
  refine⟨_,rfl,a,rfl,⟨_,SqT.of ha⟩,fun D hD=>cT (K:=K) (a:=a) (xs:=vs) (fun i zs σ' H2=>(∃ u v,σ'=[u,v])/\zs=((p.take i).map (·.1)).map V.int/\aZ H H2/\H2 D=some (.lst zs))
   ⟨⟨_,_,rfl⟩,rfl,aC hD _,aq⟩ (fun i zs σ' H2 _ h=>⟨SqT.of (h.2.2.1 _ _ ha),h.2.2.2⟩) ?_ ?_⟩
  ·rintro j zs x σ' H2 hx ⟨⟨u,v,rfl⟩,e1,sm,hDl⟩
   obtain⟨r,k0,y,t,rfl,hr0,rt,hp⟩:=rp.get hx
   refine⟨r,_,rfl,SqT.of (sm _ _ hr0),rfl,_,_,rfl,_,_,rfl,rfl,?_⟩
   refine tT ?_
   refine⟨_,rfl,hDl,?_,⟨_,_,rfl⟩,?_,aQ sm hD _,aq⟩
   ·rw[e1,Vb,Vb,Vz]
    exact aJ (by lia)
   ·rw[e1,take_snoc (·.1) hp,Vl]
    rfl
  ·rintro zs σ' H2 ⟨_,e1,sm,hDl⟩
   rw[el,Vw] at e1
   refine⟨D,p.map (·.1),rfl,SqL.of (by rw[hDl,e1]),?_⟩
   exact q H2 sm
abbrev iZ:Stmt:=top 45
theorem qZ:aO ["book","floor","giving"] ["book","floor","giving"] (aD iZ):=⟨rfl,rfl,rfl,by decide+kernel,rfl,by decide+kernel,by decide+kernel⟩
inductive Ml (K:VB) (vs:List V) (H:Hp) (Q:VK):Prop where
 | mk (b f g:Addr) (n:Nat) (bk:List (List Pl)) (fl ns:List Int) (z0:vs=[.ref b,.ref f,.ref g]) (z1:Bh n H b bk) (z2:SqT K H f (fl.map V.int)) (z3:SqT K H g (ns.map V.int)) (z4:fl.length=bk.length) (z5:n<=ns.length) (z6:(∀ x∈fl,0<=x)) (z7:∀ (r:Addr) (H':Hp),aZ H H'->H' r=some (.tup ((fD ns fl bk).map V.int))->Q (.ref r) H'):Ml K vs H Q
def Q9 (K:VB):Sp:=fun vs H Q _=>Ml K vs H Q
theorem rH {k:Nat} (F:Fun K "what_is_due" "what_is_due" iZ f fd) (B:Bt mg)
  (D_owes:Df P w K mg base "owes" k ["pledge","giving"] (Ai K)):cG P w K mg base CX0 (k+1) f fd ["book","floor","giving"] (Q9 K):=by
 refine F.ok qZ (fun vs H Q E h=>?_) (fun cdv A outer s H vs Q E hr h=>?_)
 ·obtain⟨b,f,g,n,bk,fl,ns,rfl,_⟩:=h
  rfl
 ·obtain⟨b,f,g,n,bk,fl,ns,rfl,⟨us,hb,rb,l12⟩,hf,hg,hl,hn,h0,q⟩:=h
  refine⟨_,(aB (aG (bH (r:=eX K) bF rfl B.tuple_ bK (aa (bQ (L:=["step","pledges"]) (F:=["giving"]) (cap:=[2]) rfl (bJ rfl rfl (by kernel_rfl)) (Nv rfl B.zip_ (aa (pv 1) (aa (pv 0) aj))) (fun _ _ _ _ _=>(dM (K:=K) 2 rfl rfl (bB (aK (i:=0) (bA (by decide+kernel)) rfl (Vv rfl)) (bB (aK (i:=1) (bA (by decide+kernel)) rfl (Vv rfl)) dI)))) (fun _ _ _ _ _=>bV) (fun _ _ _ _ _=>(aF (r:=JS K) (pX rfl) rfl B.max_ Cg (aa (bf Cp (bR (aa (pv 0) aj)) (bQ (L:=["pledge"]) (F:=["giving"]) (cap:=[2]) rfl (bJ rfl rfl (by kernel_rfl)) (tY K rfl (pv 1)) (fun _ _ _ _ _=>(aK (i:=0) (bA (by decide+kernel)) rfl (Vv rfl))) (fun _ _ _ _ _=>bV) (fun _ _ _ _ _=>(aX D_owes hr (aa (pv 0) (aa (pv 1) aj)))))) aj)))) aj)))),?_⟩
  have el:=rb.length
  refine⟨_,rfl,_,rfl,f,b,_,_,rfl,hf,SqL.of hb,fun D hD=>An (K:=K) (a:=f) (b:=b) (xs:=fl.map V.int) (ys:=us) (by rw[Vb]; lia)
   (fun i zs σ H2=>(∃ u v,σ=[u,v,some (.ref g)])/\zs=(Zi (duF ns) (fl.take i) (bk.take i)).map V.int/\aZ H H2/\H2 D=some (.lst zs)) ⟨⟨_,_,rfl⟩,rfl,aC hD _,aq⟩ (fun i zs σ H2 _ h=>⟨jO h.2.2.1 hf,SqL.of (h.2.2.1 _ _ hb),h.2.2.2⟩) ?_ ?_⟩
  ·rintro i zs x y p σ H2 hx hy hp ⟨⟨u,v,rfl⟩,e1,sm,hDl⟩
   obtain⟨m,hm,rfl⟩:=int_at hx
   obtain⟨c,as,ps,rfl,hps,hc,l100,rps⟩:=rb.get hy
   have ell:=rps.length
   generalize eH3:upd H2 p _=H3
   obtain⟨g3,e3⟩:=aP eH3 hp
   refine⟨p,_,rfl,SqT.of e3,rfl,_,_,rfl,_,_,rfl,rfl,?_⟩
   refine tT ?_
   refine⟨_,rfl,small (by show 1<=1000; decide),fun p4 h4=>?_⟩
   generalize eH4:upd H3 p4 _=H4
   obtain⟨g4,e4⟩:=aP eH4 h4
   have s4:aZ H H4:=sm.trans (g3.trans g4)
   refine⟨_,rfl,c,rfl,⟨_,SqL.of (s4 _ _ hc)⟩,fun D2 hD2=>gY (K:=K) (a:=c) (xs:=as.map V.ref) (fun j ws σ' H5=>(∃ u,σ'=[u,some (.ref g)])/\ws=((ps.take j).map (owF ns)).map V.int/\aZ H4 H5/\H5 D2=some (.lst ws))
    ⟨⟨_,rfl⟩,rfl,aC hD2 _,aq⟩ (fun j ws σ' H5 _ h=>⟨SqL.of (h.2.2.1 _ _ (s4 _ _ hc)),h.2.2.2⟩) ?_ ?_⟩
   ·rintro j ws x σ' H5 hx ⟨⟨u,rfl⟩,e5,s5,hD5⟩
    obtain⟨a,ha,rfl⟩:=Je hx
    obtain⟨pl,hpl,rpl⟩:=rps.get ha
    refine gT ?_
    refine⟨_,rfl,_,rfl,a,g,n,pl,ns,rfl,rpl.mono (s4.trans s5),jO (s4.trans s5) hg,hn,fun H6 s6=>?_⟩
    refine⟨s6 _ _ hD5,?_,⟨_,rfl⟩,?_,aQ (s5.trans s6) hD2 _,aq⟩
    ·rw[e5,Vb,Vb,Vz]
     exact aJ (by lia)
    ·rw[e5,take_snoc (owF ns) hpl,Vl]
     rfl
   ·rintro ws σ' H5 ⟨_,e5,s5,hD5⟩
    rw[Vb,ell,Vw] at e5
    subst e5
    refine⟨p4,D2,_,_,rfl,rfl,s5 _ _ e4,hD5,small ?_,fun p6 h6=>?_⟩
    ·rw[Vb,Vb]
     show 1+ps.length<=1000
     lia
    generalize eH6:upd H5 p6 _=H6
    obtain⟨g6,e6⟩:=aP eH6 h6
    have sall:aZ H2 H6:=g3.trans (g4.trans (s5.trans g6))
    refine⟨p6,m::ps.map (owF ns),rfl,SqL.of e6,by simp,sall _ _ hDl,?_,⟨_,_,rfl⟩,?_,aQ (sm.trans sall) hD _,aq⟩
    ·rw[e1,Vb,aaf,Vz]
     exact aJ (by lia)
    ·rw[e1,Cj (duF ns) hm hps,Vl]
     rfl
  ·rintro zs σ H2 ⟨_,e1,sm,hDl⟩
   refine⟨D,_,rfl,.inl ⟨SqL.of hDl,fun l hl'=>?_⟩⟩
   refine q l _ (sm.trans (aC hl' _)) ?_
   rw[aq,e1,Vb,Vw,hl,Vw]
   rfl
theorem yc {g fl:List Int} {bk:List (List Pl)} (h:fl.length=bk.length):(fD g fl bk).length=bk.length:=by
 unfold fD
 rw[aaf]
 lia
abbrev Ie:Stmt:=top 46
theorem Pz:aO ["book","floor"] ["book","floor"] (aD Ie):=⟨rfl,rfl,rfl,by decide+kernel,rfl,by decide+kernel,by decide+kernel⟩
inductive Jr (K:VB) (vs:List V) (H:Hp) (Q:VK):Prop where
 | mk (b f:Addr) (n:Nat) (bk:List (List Pl)) (fl:List Int) (z0:vs=[.ref b,.ref f]) (z1:Bh n H b bk) (z2:SqT K H f (fl.map V.int)) (z3:fl.length=bk.length) (z4:∀ (r:Addr) (H':Hp),aZ H H'->H' r=some (.tup ((rfF fl bk).map V.int))->Q (.ref r) H'):Jr K vs H Q
def Mq (K:VB):Sp:=fun vs H Q _=>Jr K vs H Q
theorem Qk (F:Fun K "roof" "roof" Ie f fd) (B:Bt mg)
  (D_last_step:Df P w K mg base "last_step" 1 ["pledge"] Mg):cG P w K mg base CX0 2 f fd ["book","floor"] (Mq K):=by
 refine F.ok Pz (fun vs H Q E h=>?_) (fun cdv A outer s H vs Q E hr h=>?_)
 ·obtain⟨b,f,n,bk,fl,rfl,_⟩:=h
  rfl
 ·obtain⟨b,f,n,bk,fl,rfl,⟨us,hb,rb,l12⟩,hf,hl,q⟩:=h
  refine⟨_,(aB (aG (bH (r:=eX K) bF rfl B.tuple_ bK (aa (bQ (L:=["step","pledges"]) (F:=[]) (cap:=[]) rfl (bJ rfl rfl (by kernel_rfl)) (Nv rfl B.zip_ (aa (pv 1) (aa (pv 0) aj))) (fun _ _ _ _ _=>(dM (K:=K) 2 rfl rfl (bB (aK (i:=0) (bA (by decide+kernel)) rfl (Vv rfl)) (bB (aK (i:=1) (bA (by decide+kernel)) rfl (Vv rfl)) dI)))) (fun _ _ _ _ _=>bV) (fun _ _ _ _ _=>(aF (r:=JS K) (pX rfl) rfl B.max_ Cg (aa (bf Cp (bR (aa (pv 0) aj)) (bQ (L:=["pledge"]) (F:=[]) (cap:=[]) rfl (bJ rfl rfl (by kernel_rfl)) (tY K rfl (pv 1)) (fun _ _ _ _ _=>(aK (i:=0) (bA (by decide+kernel)) rfl (Vv rfl))) (fun _ _ _ _ _=>bV) (fun _ _ _ _ _=>(aX D_last_step hr (aa (pv 0) aj))))) aj)))) aj)))),?_⟩
  have el:=rb.length
  refine⟨_,rfl,_,rfl,f,b,_,_,rfl,hf,SqL.of hb,fun D hD=>An (K:=K) (a:=f) (b:=b) (xs:=fl.map V.int) (ys:=us) (by rw[Vb]; lia)
   (fun i zs σ H2=>(∃ u v,σ=[u,v])/\zs=(Zi rfS (fl.take i) (bk.take i)).map V.int/\aZ H H2/\H2 D=some (.lst zs)) ⟨⟨_,_,rfl⟩,rfl,aC hD _,aq⟩ (fun i zs σ H2 _ h=>⟨jO h.2.2.1 hf,SqL.of (h.2.2.1 _ _ hb),h.2.2.2⟩) ?_ ?_⟩
  ·rintro i zs x y p σ H2 hx hy hp ⟨⟨u,v,rfl⟩,e1,sm,hDl⟩
   obtain⟨m,hm,rfl⟩:=int_at hx
   obtain⟨c,as,ps,rfl,hps,hc,l100,rps⟩:=rb.get hy
   have ell:=rps.length
   generalize eH3:upd H2 p _=H3
   obtain⟨g3,e3⟩:=aP eH3 hp
   refine⟨p,_,rfl,SqT.of e3,rfl,_,_,rfl,_,_,rfl,rfl,?_⟩
   refine tT ?_
   refine⟨_,rfl,small (by show 1<=1000; decide),fun p4 h4=>?_⟩
   generalize eH4:upd H3 p4 _=H4
   obtain⟨g4,e4⟩:=aP eH4 h4
   have s4:aZ H H4:=sm.trans (g3.trans g4)
   refine⟨_,rfl,c,rfl,⟨_,SqL.of (s4 _ _ hc)⟩,fun D2 hD2=>gY (K:=K) (a:=c) (xs:=as.map V.ref) (fun j ws σ' H5=>(∃ u,σ'=[u])/\ws=((ps.take j).map lsF).map V.int/\aZ H4 H5/\H5 D2=some (.lst ws))
    ⟨⟨_,rfl⟩,rfl,aC hD2 _,aq⟩ (fun j ws σ' H5 _ h=>⟨SqL.of (h.2.2.1 _ _ (s4 _ _ hc)),h.2.2.2⟩) ?_ ?_⟩
   ·rintro j ws x σ' H5 hx ⟨⟨u,rfl⟩,e5,s5,hD5⟩
    obtain⟨a,ha,rfl⟩:=Je hx
    obtain⟨pl,hpl,rpl⟩:=rps.get ha
    refine gT ?_
    refine⟨_,rfl,a,n,pl,rfl,rpl.mono (s4.trans s5),fun H6 s6=>?_⟩
    refine⟨s6 _ _ hD5,?_,⟨_,rfl⟩,?_,aQ (s5.trans s6) hD2 _,aq⟩
    ·rw[e5,Vb,Vb,Vz]
     exact aJ (by lia)
    ·rw[e5,take_snoc lsF hpl,Vl]
     rfl
   ·rintro ws σ' H5 ⟨_,e5,s5,hD5⟩
    rw[Vb,ell,Vw] at e5
    subst e5
    refine⟨p4,D2,_,_,rfl,rfl,s5 _ _ e4,hD5,small ?_,fun p6 h6=>?_⟩
    ·rw[Vb,Vb]
     show 1+ps.length<=1000
     lia
    generalize eH6:upd H5 p6 _=H6
    obtain⟨g6,e6⟩:=aP eH6 h6
    have sall:aZ H2 H6:=g3.trans (g4.trans (s5.trans g6))
    refine⟨p6,m::ps.map lsF,rfl,SqL.of e6,by simp,sall _ _ hDl,?_,⟨_,_,rfl⟩,?_,aQ (sm.trans sall) hD _,aq⟩
    ·rw[e1,Vb,aaf,Vz]
     exact aJ (by lia)
    ·rw[e1,Cj rfS hm hps,Vl]
     rfl
  ·rintro zs σ H2 ⟨_,e1,sm,hDl⟩
   refine⟨D,_,rfl,.inl ⟨SqL.of hDl,fun l hl'=>?_⟩⟩
   refine q l _ (sm.trans (aC hl' _)) ?_
   rw[aq,e1,Vb,Vw,hl,Vw]
   rfl
def itF (f:List Int->List Int) (x:List Int):Nat->List Int
 | 0=>x
 | k+1=>f (itF f x k)
def Stops (f:List Int->List Int) (x:List Int) (m:Nat):Prop:=f (itF f x m)=itF f x m/\∀ j < m,f (itF f x j)≠itF f x j
def nR (f:List Int->List Int) (x:List Int) (m:Nat):List (List Int):=(VD (m+1)).map (itF f x)
theorem nj (f:List Int->List Int) (x:List Int) (m:Nat):(nR f x m).length=m+1:=by
 unfold nR
 rw[Vb,VP]
theorem Du (f:List Int->List Int) (x:List Int) (m:Nat):nR f x (m+1)=nR f x m++[itF f x (m+1)]:=by
 unfold nR
 rw[YT,Vl]
 rfl
theorem Cy (f:List Int->List Int) (x:List Int) (m:Nat):(nR f x m)[(nR f x m).length - 1]? = some (itF f x m):=by
 rw[nj,Nat.add_sub_cancel]
 unfold nR
 rw[VF,XN (Xb m)]
 rfl
theorem uJ {f:List Int->List Int} {x:List Int} (φ:List Int->Int) (N:Nat) (b0:∀ k,0<=φ (itF f x k)) (bN:∀ k,φ (itF f x k)<=(N:Int)) (up:∀ k,f (itF f x k)≠itF f x k->φ (itF f x k) < φ (itF f x (k+1))):∃ m,m<=N/\Stops f x m:=by
 have key:∀ k,(∃ m,m < k/\Stops f x m)∨((∀ j < k,f (itF f x j)≠itF f x j)/\(k:Int)<=φ (itF f x k)):=by
  intro k
  induction k with
  | zero=>exact .inr ⟨fun j h=>absurd h (aaZ _),by simpa using b0 0⟩
  | succ k ih =>
   rcases ih with⟨m,h1,h2⟩ | ⟨h1,h2⟩
   ·exact .inl ⟨m,by lia,h2⟩
   ·by_cases e:f (itF f x k)=itF f x k
    ·exact .inl ⟨k,Xb k,e,h1⟩
    ·refine .inr ⟨fun j hj=>?_,by have:=up k e; lia⟩
     rcases XH j k with z | z
     ·exact h1 j z
     ·have:j=k:=by lia
      subst this
      exact e
 rcases key (N+1) with⟨m,h1,h2⟩ | ⟨_,h2⟩
 ·exact⟨m,by lia,h2⟩
 ·have:=bN (N+1)
  lia
theorem jl {g g':List Int} (hl:g.length=g'.length) (h:∀ i,i < g.length->g.getD i 0<=g'.getD i 0):LeG g g':=fun i=>by
 by_cases hi:i < g.length
 ·exact h i hi
 ·rw[Vi,W7 (by lia),Vi,W7 (by lia)]
  exact WY _
theorem DK {g:List Int} {p:Pl} (h:∀ x∈p,0<=x.1):0<=owF g p:=by
 have key:∀ (p:Pl) (f:Int),0<=f->(∀ x∈p,0<=x.1)->0<=p.foldl (owS g) f:=by
  intro p
  induction p with
  | nil=>intro f hf _; exact hf
  | cons x r ih =>
   intro f hf hx
   rw[Wo]
   refine ih _ ?_ fun y hy=>hx y (Vp _ hy)
   unfold owS
   split
   ·exact hx x Vj
   ·exact hf
 exact key p 0 (WY _) h
theorem Mx {g:List Int} {p:Pl} {b:Int} (h0:0<=b) (h:∀ x∈p,x.1<=b):owF g p<=b:=by
 have key:∀ (p:Pl) (f:Int),f<=b->(∀ x∈p,x.1<=b)->p.foldl (owS g) f<=b:=by
  intro p
  induction p with
  | nil=>intro f hf _; exact hf
  | cons x r ih =>
   intro f hf hx
   rw[Wo]
   refine ih _ ?_ fun y hy=>hx y (Vp _ hy)
   unfold owS
   split
   ·exact hx x Vj
   ·exact hf
 exact key p 0 h0 h
theorem Kq {g g':List Int} (l:LeG g g') {p:Pl} (ok:okP p):owF g p<=owF g' p:=by
 have key:∀ (p:Pl) (f f':Int),f<=f'->(∀ x∈p,f' < x.1)->(p.map (·.1)).Pairwise (· < ·)->p.foldl (owS g) f<=p.foldl (owS g') f':=by
  intro p
  induction p with
  | nil=>intro f f' hf _ _; exact hf
  | cons x r ih =>
   intro f f' hf hx hp
   rw[Wa,W6] at hp
   rw[Wo,Wo]
   have hr:∀ y∈r,x.1 < y.1:=fun y hy=>hp.1 y.1 (List.mem_map.mpr ⟨y,hy,rfl⟩)
   have hx0:=hx x Vj
   have hfr:∀ y∈r,f' < y.1:=fun y hy=>by have:=hr y hy; lia
   unfold owS
   by_cases c:hF g x.2=true
   ·rw[if_pos c,if_pos (yp l _ c)]
    exact ih _ _ (WY _) hr hp.2
   ·rw[if_neg c]
    by_cases c':hF g' x.2=true
    ·rw[if_pos c']
     exact ih _ _ (by lia) hr hp.2
    ·rw[if_neg c']
     exact ih _ _ hf hfr hp.2
 exact key p 0 0 (WY _) (fun x hx=>by have:=(ok.2.2.2 x hx).1; lia) ok.2.2.1
theorem gA {b:Int}:∀ (l:List Int) (a:Int),a<=b->(∀ x∈l,x<=b)->l.foldl max a<=b
 | [],a,h,_=>h
 | y::l,a,h,hl=>by
  rw[Wo]
  exact gA l _ (by have:=hl y Vj; lia) fun x hx=>hl x (Vp _ hx)
theorem gG {α:Type} (u v:α->Int):∀ (l:List α) (a b:Int),a<=b->(∀ x∈l,u x<=v x)->(l.map u).foldl max a<=(l.map v).foldl max b
 | [],a,b,h,_=>h
 | y::l,a,b,h,hl=>by
  rw[Wa,Wa,Wo,Wo]
  exact gG u v l _ _ (by have:=hl y Vj; lia) fun x hx=>hl x (Vp _ hx)
def okB (bk:List (List Pl)):Prop:=∀ ps∈bk,∀ p∈ps,okP p
theorem zQ {g g':List Int} (l:LeG g g') {ps:List Pl} (ok:∀ p∈ps,okP p) {f f':Int} (h:f<=f'):duF g f ps<=duF g' f' ps:=gG _ _ ps f f' h fun p hp=>Kq l (ok p hp)
theorem Nr (g:List Int) (f:Int) (ps:List Pl):f<=duF g f ps:=(dD _ f).1
theorem Oc (g:List Int) {f:Int} (h:f<=9) {ps:List Pl} (ok:∀ p∈ps,okP p):duF g f ps<=9:=by
 refine gA _ f h fun x hx=>?_
 obtain⟨p,hp,rfl⟩:=List.mem_map.mp hx
 exact Mx (by decide) fun y hy=>((ok p hp).2.2.2 y hy).2.1
theorem M8 {p:Pl} {x:Int × Tm} (h:x∈p):x.1<=lsF p:=by
 unfold lsF
 cases p with
 | nil=>cases h
 | cons y r =>
  show x.1<=(r.map (·.1)).foldl max y.1
  obtain⟨h1,h2⟩:=dD (r.map (·.1)) y.1
  rcases List.mem_cons.mp h with rfl | h
  ·exact h1
  ·exact h2 x.1 (List.mem_map.mpr ⟨x,h,rfl⟩)
theorem N5 {g:List Int} {p:Pl} (ok:okP p):owF g p<=lsF p:=by
 have hne:=ok.1
 refine Mx ?_ fun x hx=>M8 hx
 cases p with
 | nil=>exact absurd rfl hne
 | cons y r =>
  have:=M8 (p:=y::r) (x:=y) Vj
  have:=(ok.2.2.2 y Vj).1
  lia
theorem Qp (g:List Int) (f:Int) {ps:List Pl} (ok:∀ p∈ps,okP p):duF g f ps<=rfS f ps:=gG _ _ ps f f (WY _) fun p hp=>N5 (ok p hp)
theorem Pj {p:Pl} (ok:okP p):lsF p<=9:=by
 cases p with
 | nil=>exact absurd rfl ok.1
 | cons y r =>
  show (r.map (·.1)).foldl max y.1<=9
  refine gA _ _ (ok.2.2.2 y Vj).2.1 fun x hx=>?_
  obtain⟨z,hz,rfl⟩:=List.mem_map.mp hx
  exact (ok.2.2.2 z (Vp _ hz)).2.1
theorem Qq {f:Int} (h:f<=9) {ps:List Pl} (ok:∀ p∈ps,okP p):rfS f ps<=9:=by
 refine gA _ f h fun x hx=>?_
 obtain⟨p,hp,rfl⟩:=List.mem_map.mp hx
 exact Pj (ok p hp)
theorem QD (f:Int) (ps:List Pl):f<=rfS f ps:=(dD _ f).1
theorem gm {α:Type} (f:Int->α->Int) {xs:List Int} {ys:List α} {i:Nat} (h1:i < xs.length) (h2:i < ys.length):(Zi f xs ys).getD i 0=f (xs.getD i 0) ys[i]:=by
 rw[Vi,List.getElem?_zipWith,Vf h1,Vf h2,Vi,Vf h1]
 rfl
theorem iw:∀ {g g':List Int},g.length=g'.length->(∀ i,i < g.length->g.getD i 0<=g'.getD i 0)->g.sum<=g'.sum/\(g.sum=g'.sum->g=g')
 | [],[],_,_=>⟨WY _,fun _=>rfl⟩
 | a::g,b::g',hl,h=>by
  have h0:a<=b:=h 0 (Nat.succ_pos _)
  obtain⟨h1,h2⟩:=iw (g:=g) (g':=g') (by simpa using hl) fun i hi=>by
   have:=h (i+1) (by rw[Vr]; lia)
   simpa using this
  rw[abr,abr]
  refine⟨by lia,fun e=>?_⟩
  have e1:a=b:=by lia
  have e2:g.sum=g'.sum:=by lia
  rw[e1,h2 e2]
theorem sum_bound {g:List Int} (h:∀ x∈g,0<=x/\x<=9):0<=g.sum/\g.sum<=9 * (g.length:Int):=by
 induction g with
 | nil=>exact⟨WY _,by simp⟩
 | cons a g ih =>
  have:=h a Vj
  have:=ih fun x hx=>h x (Vp _ hx)
  rw[abr,Vr]
  lia
def okG (n:Nat) (g:List Int):Prop:=g.length=n/\∀ x∈g,0<=x/\x<=9
theorem fH {n:Nat} {g:List Int} (h:okG n g) {i:Nat} (hi:i < n):0<=g.getD i 0/\g.getD i 0<=9:=by
 have hi':i < g.length:=by rw[h.1]; exact hi
 rw[Vi,Vf hi']
 exact h.2 _ (Xw hi')
theorem Aj {n:Nat} {g:List Int} (hl:g.length=n) (h:∀ i,i < n->0<=g.getD i 0/\g.getD i 0<=9):okG n g:=by
 refine⟨hl,fun x hx=>?_⟩
 obtain⟨i,hi,e⟩:=Yx hx
 have:=h i (by lia)
 rw[Vi,Vf hi,e] at this
 exact this
section
variable {n:Nat} {fl:List Int} {bk:List (List Pl)}
theorem iY (hb:bk.length=n) (ok:okB bk) (hf:okG n fl) (g:List Int):okG n (fD g fl bk):=by
 refine Aj (by rw[yc (by rw[hf.1,hb])]; exact hb) fun i hi=>?_
 have h1:i < fl.length:=by rw[hf.1]; exact hi
 have h2:i < bk.length:=by lia
 unfold fD
 rw[gm (duF g) h1 h2]
 have:=fH hf hi
 have:=Nr g (fl.getD i 0) bk[i]
 have:=Oc g (f:=fl.getD i 0) (by lia) (ok bk[i] (Xw h2))
 lia
theorem nZ (hb:bk.length=n) (ok:okB bk) (hf:okG n fl) {g g':List Int} (l:LeG g g'):LeG (fD g fl bk) (fD g' fl bk):=by
 have l1:=(iY hb ok hf g).1
 have l2:=(iY hb ok hf g').1
 refine jl (by lia) fun i hi=>?_
 have h1:i < fl.length:=by rw[hf.1]; lia
 have h2:i < bk.length:=by lia
 unfold fD
 rw[gm (duF g) h1 h2,gm (duF g') h1 h2]
 exact zQ l (ok bk[i] (Xw h2)) (WY _)
theorem qO (hb:bk.length=n) (ok:okB bk) (hf:okG n fl) (g:List Int):LeG fl (fD g fl bk):=by
 have l1:=(iY hb ok hf g).1
 refine jl (by rw[hf.1]; lia) fun i hi=>?_
 have h2:i < bk.length:=by rw[hf.1] at hi; lia
 unfold fD
 rw[gm (duF g) hi h2]
 exact Nr _ _ _
theorem lO (hb:bk.length=n) (ok:okB bk) (hf:okG n fl):okG n (rfF fl bk):=by
 have hl:(rfF fl bk).length=n:=by
  unfold rfF
  rw[aaf,hf.1,hb,Nat.min_self]
 refine Aj hl fun i hi=>?_
 have h1:i < fl.length:=by rw[hf.1]; exact hi
 have h2:i < bk.length:=by lia
 unfold rfF
 rw[gm rfS h1 h2]
 have:=fH hf hi
 have:=QD (fl.getD i 0) bk[i]
 have:=Qq (f:=fl.getD i 0) (by lia) (ok bk[i] (Xw h2))
 lia
theorem Bw (hb:bk.length=n) (ok:okB bk) (hf:okG n fl) (g:List Int):LeG (fD g fl bk) (rfF fl bk):=by
 have l1:=(iY hb ok hf g).1
 have l2:=(lO hb ok hf).1
 refine jl (by lia) fun i hi=>?_
 have h1:i < fl.length:=by rw[hf.1]; lia
 have h2:i < bk.length:=by lia
 unfold fD rfF
 rw[gm (duF g) h1 h2,gm rfS h1 h2]
 exact Qp g _ (ok bk[i] (Xw h2))
theorem gF (hb:bk.length=n) (ok:okB bk) (hf:okG n fl) {x:List Int} (hx:okG n x):∀ k,okG n (itF (fun g=>fD g fl bk) x k)
 | 0=>hx
 | k+1=>iY hb ok hf _
theorem R5 (hb:bk.length=n) (ok:okB bk) (hf:okG n fl) {x:List Int} (h:LeG x (fD x fl bk)):∀ k,LeG (itF (fun g=>fD g fl bk) x k) (itF (fun g=>fD g fl bk) x (k+1))
 | 0=>h
 | k+1=>nZ hb ok hf (R5 hb ok hf h k)
theorem Gs (hb:bk.length=n) (ok:okB bk) (hf:okG n fl) {x:List Int} (h:LeG (fD x fl bk) x):∀ k,LeG (itF (fun g=>fD g fl bk) x (k+1)) (itF (fun g=>fD g fl bk) x k)
 | 0=>h
 | k+1=>nZ hb ok hf (Gs hb ok hf h k)
theorem Kd (hb:bk.length=n) (ok:okB bk) (hf:okG n fl) {x:List Int} (hx:okG n x) (h:LeG x (fD x fl bk)):∃ m,m<=9 * n/\Stops (fun g=>fD g fl bk) x m:=by
 refine uJ aaq (9 * n) (fun k=>(sum_bound (gF hb ok hf hx k).2).1) (fun k=>?_) (fun k ne=>?_)
 ·have:=(sum_bound (gF hb ok hf hx k).2).2
  rw[(gF hb ok hf hx k).1] at this
  lia
 ·obtain⟨h1,h2⟩:=iw ((gF hb ok hf hx k).1.trans (gF hb ok hf hx (k+1)).1.symm) fun i _=>R5 hb ok hf h k i
  have:aaq (itF (fun g=>fD g fl bk) x k)≠aaq (itF (fun g=>fD g fl bk) x (k+1)):=fun e=>ne (h2 e).symm
  lia
theorem CV (hb:bk.length=n) (ok:okB bk) (hf:okG n fl) {x:List Int} (hx:okG n x) (h:LeG (fD x fl bk) x):∃ m,m<=9 * n/\Stops (fun g=>fD g fl bk) x m:=by
 refine uJ (fun g=>9 * (n:Int) - g.sum) (9 * n) (fun k=>?_) (fun k=>?_) (fun k ne=>?_)
 ·have:=(sum_bound (gF hb ok hf hx k).2).2
  rw[(gF hb ok hf hx k).1] at this
  show 0<=9 * (n:Int) - aaq _
  lia
 ·have:=(sum_bound (gF hb ok hf hx k).2).1
  show 9 * (n:Int) - aaq _<=_
  lia
 ·obtain⟨h1,h2⟩:=iw ((gF hb ok hf hx (k+1)).1.trans (gF hb ok hf hx k).1.symm) fun i _=>Gs hb ok hf h k i
  have:aaq (itF (fun g=>fD g fl bk) x (k+1))≠aaq (itF (fun g=>fD g fl bk) x k):=fun e=>ne (h2 e)
  show 9 * (n:Int) - aaq _ < 9 * (n:Int) - aaq _
  lia
end
inductive ik (H:Hp):List V->List (List Int)->Prop where
 | nil:ik H [] []
 | cons {a:Addr} {g:List Int} {us:List V} {gs:List (List Int)}:H a=some (.tup (g.map V.int))->g.length<=1000->ik H us gs->ik H (.ref a::us) (g::gs)
theorem ik.aV {H H':Hp} (e:∀ a xs,H a=some (HO.tup xs)->H' a=some (HO.tup xs)):∀ {us:List V} {gs:List (List Int)},ik H us gs->ik H' us gs
 | _,_,.nil=>.nil
 | _,_,.cons h l r=>.cons (e _ _ h) l (ik.aV e r)
theorem ik.mono {H H':Hp} (e:aZ H H') {us:List V} {gs:List (List Int)} (h:ik H us gs):ik H' us gs:=h.aV fun a xs q=>e a _ q
theorem ik.length {H:Hp}:∀ {us:List V} {gs:List (List Int)},ik H us gs->us.length=gs.length
 | _,_,.nil=>rfl
 | _,_,.cons _ _ r=>by rw[Vr,Vr,ik.length r]
theorem ik.get {H:Hp}:∀ {us:List V} {gs:List (List Int)} {i:Nat} {g:List Int},ik H us gs->gs[i]? = some g->∃ a,us[i]? = some (.ref a)/\H a=some (.tup (g.map V.int))
 | _,_,_,_,.nil,h=>by simp at h
 | _,_,0,_,.cons h _ _,e=>by
  cases (show some _=some _ from e)
  exact⟨_,rfl,h⟩
 | _,_,i+1,_,.cons _ _ r,e=>by
  obtain⟨a,h1,h2⟩:=ik.get (i:=i) r (by simpa using e)
  exact⟨a,by simpa using h1,h2⟩
theorem ik.snoc {H:Hp} {a:Addr} {g:List Int} (h:H a=some (.tup (g.map V.int))) (hl:g.length<=1000):∀ {us:List V} {gs:List (List Int)},ik H us gs->ik H (us++[.ref a]) (gs++[g])
 | _,_,.nil=>.cons h hl .nil
 | _,_,.cons x y r=>.cons x y (ik.snoc h hl r)
def gD (g:List Int):Dm:=.tup (g.map Dm.int)
theorem dZ.okB {n:Nat} {H:Hp}:∀ {us:List V} {bk:List (List Pl)},dZ n H us bk->okB bk
 | _,_,.nil=>fun ps h=>by cases h
 | _,_,.cons _ _ p r=>fun ps h q hq=>by
  rcases List.mem_cons.mp h with rfl | h
  ·obtain⟨i,hi,e⟩:=Yx hq
   have hlen:=p.length
   obtain⟨q',e1,e2⟩:=p.get (i:=i) (Vf (by lia))
   rw[Vf hi,e] at e1
   cases e1
   exact e2.1
  ·exact dZ.okB r ps h q hq
theorem Bh.okB {n:Nat} {H:Hp} {b:Addr} {bk:List (List Pl)} (h:Bh n H b bk):okB bk:=by
 obtain⟨us,_,h2,_⟩:=h
 exact h2.okB
abbrev Fd (fl:List Int) (bk:List (List Pl)):List Int->List Int:=fun g=>fD g fl bk
abbrev oM:Stmt:=top 47
theorem jF:aO ["book","floor","giving","row","due"] ["book","floor","giving"] (aD oM):=⟨rfl,rfl,rfl,by decide+kernel,rfl,by decide+kernel,by decide+kernel⟩
inductive rY (K:VB) (vs:List V) (H:Hp) (Q:VK):Prop where
 | mk (b f g:Addr) (n:Nat) (bk:List (List Pl)) (fl x:List Int) (m:Nat) (z0:vs=[.ref b,.ref f,.ref g]) (z1:Bh n H b bk) (z2:bk.length=n) (z3:H f=some (.tup (fl.map V.int))) (z4:okG n fl) (z5:H g=some (.tup (x.map V.int))) (z6:okG n x) (z7:m<=9 * n) (z8:Stops (Fd fl bk) x m) (z9:∀ (r:Addr) (us:List V) (H':Hp),aZ H H'->H r=none->H' r=some (.lst us)->ik H' us (nR (Fd fl bk) x m)->Q (.ref r) H'):rY K vs H Q
def oX (K:VB):Sp:=fun vs H Q _=>rY K vs H Q
theorem tQ {H:Hp} {us:List V} {F:List Int->List Int} {x:List Int} {j:Nat} (h:ik H us (nR F x j)):∃ a,atI us (-1)=some (.ref a)/\H a=some (.tup ((itF F x j).map V.int)):=by
 have hl:=h.length
 obtain⟨a,h1,h2⟩:=h.get (Cy F x j)
 rw[← hl] at h1
 exact⟨a,R7 h1,h2⟩
def FW (H:Hp) (r:Addr):Nat:=match H r with
 | some (.lst us)=>us.length
 | _=>0
theorem Am {H:Hp} {r:Addr} {us:List V} (h:H r=some (.lst us)):FW H r=us.length:=by unfold FW; rw[h]
theorem Ek {k:Nat} (F:Fun K "settled" "settled" oM f fd) (B:Bt mg)
  (D_what_is_due:Df P w K mg base "what_is_due" k ["book","floor","giving"] (Q9 K)):cG P w K mg base CX0 (k+1) f fd ["book","floor","giving"] (oX K):=by
 refine F.ok jF (fun vs H Q E h=>?_) (fun cdv A outer s H vs Q E hr h=>?_)
 ·obtain⟨b,f,g,n,bk,fl,x,m,rfl,_⟩:=h
  rfl
 ·obtain⟨b,f,g,n,bk,fl,x,m,rfl,hb,lb,hf,of,hg,ox,hm,st,q⟩:=h
  refine⟨_,(au (aW (i:=3) jF.nd rfl (Vv rfl) (bR (aa (pv 2) aj)))
 (au (aW (i:=4) jF.nd rfl (Vv rfl) (aX D_what_is_due hr (aa (pv 0) (aa (pv 1) (aa (pv 2) aj)))))
 (au (uH Wf (aL (r:=Qi K) (Gq hr.oK) (pv 4) (bw (r:=iy K) bC (pv 3) (PL Ez aA) (fun _ _=>rfl)) (aU _)) (au (bO (o4 Wr WR WQ cH (pv 3) (aa (pv 4) aj)))
 (aB (aW (i:=4) jF.nd rfl (Vv rfl) (aX D_what_is_due hr (aa (pv 0) (aa (pv 1) (aa (pv 4) aj))))))))
 (aB (aG (pv 3)))))),?_⟩
  have okb:=hb.okB
  have b12:n<=12:=by obtain⟨_,_,_,h⟩:=hb; lia
  have og:∀ j,okG n (itF (Fd fl bk) x j):=gF lb okb of ox
  have f0:∀ y∈fl,0<=y:=fun y hy=>(of.2 y hy).1
  have hlb:fl.length=bk.length:=by rw[of.1,lb]
  refine⟨_,rfl,small (by show 1<=1000; decide),fun r hr0=>?_⟩
  generalize eH1:upd H r _=H1
  obtain⟨g1,e1⟩:=aP eH1 hr0
  refine⟨_,rfl,_,rfl,_,rfl,b,f,g,n,bk,fl,x,rfl,hb.mono g1,SqT.of (g1 _ _ hf),SqT.of (g1 _ _ hg),hlb,by rw[ox.1]; lia,f0,fun r1 H2 s2 er1=>?_⟩
  refine gN ?_
  refine JL (fun σ H3=>∃ (j:Nat) (us:List V) (d:Addr),j<=m/\σ=[some (.ref b),some (.ref f),some (.ref g),some (.ref r),some (.ref d)]/\aZ H H3/\H3 r=some (.lst us)/\ik H3 us (nR (Fd fl bk) x j)/\H3 d=some (.tup ((itF (Fd fl bk) x (j+1)).map V.int)))
   (fun _ H3=>m+2 - FW H3 r) ⟨0,[.ref g],r1,VL _,rfl,g1.trans s2,s2 _ _ e1,.cons (s2 _ _ (g1 _ _ hg)) (by rw[(og 0).1]; lia) .nil,er1⟩ ?_ ?_
  ·rintro σ H3 ⟨j,us,d,hj,rfl,s3,er,gr,ed⟩
   obtain⟨a,ha,ea⟩:=tQ gr
   have lu:=gr.length
   rw[nj] at lu
   refine⟨_,rfl,_,rfl,_,rfl,r,_,_,_,rfl,rfl,SqL.of er,ha,d,a,_,_,rfl,rfl,SqT.of ed,SqT.of ea,_,rfl,?_⟩
   by_cases e:itF (Fd fl bk) x (j+1)=itF (Fd fl bk) x j
   ·rw[decide_eq_true e]
    refine cX ?_
    have ej:j=m:=by
     rcases XH j m with z | z
     ·exact absurd e (st.2 j z)
     ·lia
    subst ej
    exact⟨_,rfl,q r us H3 s3 hr0 er gr⟩
   ·rw[decide_eq_false e]
    refine fX ?_
    have hjm:j < m:=by
     rcases XH j m with z | z
     ·exact z
     ·have:j=m:=by lia
      subst this
      exact absurd st.1 e
    refine⟨_,rfl,.inl ⟨rfl,_,SqL.of er⟩,_,rfl,r,_,_,rfl,rfl,er,aJ (by lia),?_⟩
    have tk:=cj (zs':=us++[.ref d]) er
    have s4:aZ H (upd H3 r (.lst (us++[.ref d]))):=aQ s3 hr0 _
    refine⟨_,rfl,_,rfl,_,rfl,b,f,d,n,bk,fl,_,rfl,hb.mono s4,SqT.of (s4 _ _ hf),SqT.of (tk _ _ ed),hlb,by rw[(og (j+1)).1]; lia,f0,fun r5 H5 s5 er5=>?_⟩
    have er':H5 r=some (.lst (us++[.ref d])):=s5 _ _ aq
    refine⟨⟨j+1,us++[.ref d],r5,hjm,rfl,s4.trans s5,er',?_,er5⟩,?_⟩
    ·rw[Du]
     exact ((gr.aV tk).snoc (tk _ _ ed) (by rw[(og (j+1)).1]; lia)).mono s5
    ·show m+2 - FW H5 r < m+2 - FW H3 r
     rw[Am er',Am er,Ve]
     show m+2 - (us.length+1) < m+2 - us.length
     lia
  ·rintro σ H3 Q1 Q2 hQ ⟨v1,h1,v2,h2,i0,h3,p,xs,i,z,h4,h5,h6,h7,a1,a2,ns,ms,h8,h9,h10,h11,c,h12,qq⟩
   exact⟨v1,h1,v2,h2,i0,h3,p,xs,i,z,h4,h5,h6,h7,a1,a2,ns,ms,h8,h9,h10,h11,c,h12,hQ _ _ qq⟩
def uO (st:List Int->List (List Pl)->List Int):Sp:=fun vs H Q _=>∃ (b f:Addr) (n:Nat) (bk:List (List Pl)) (fl:List Int),vs=[.ref b,.ref f]/\Bh n H b bk/\bk.length=n/\H f=some (.tup (fl.map V.int))/\okG n fl ∧
 ∀ (m:Nat) (r:Addr) (us:List V) (H':Hp),m<=9 * n->Stops (Fd fl bk) (st fl bk) m->aZ H H'->H r=none->H' r=some (.lst us)->ik H' us (nR (Fd fl bk) (st fl bk) m)->Q (.ref r) H'
def Eh (st:List Int->List (List Pl)->List Int):Sp:=fun vs H Q _=>∃ (b f:Addr) (n:Nat) (bk:List (List Pl)) (fl:List Int),vs=[.ref b,.ref f]/\Bh n H b bk/\bk.length=n/\H f=some (.tup (fl.map V.int))/\okG n fl ∧
 ∀ (m:Nat) (a:Addr) (H':Hp),m<=9 * n->Stops (Fd fl bk) (st fl bk) m->aZ H H'->H' a=some (.tup ((itF (Fd fl bk) (st fl bk) m).map V.int))->Q (.ref a) H'
abbrev Sh:List Int->List (List Pl)->List Int:=fun fl _=>fl
theorem Cw {n:Nat} {fl:List Int} {bk:List (List Pl)} (hb:bk.length=n) (ok:okB bk) (hf:okG n fl):∃ m,m<=9 * n/\Stops (Fd fl bk) fl m:=Kd hb ok hf hf (qO hb ok hf fl)
theorem Dr {n:Nat} {fl:List Int} {bk:List (List Pl)} (hb:bk.length=n) (ok:okB bk) (hf:okG n fl):∃ m,m<=9 * n/\Stops (Fd fl bk) (rfF fl bk) m:=CV hb ok hf (lO hb ok hf) (Bw hb ok hf _)
abbrev Ht:Stmt:=top 48
abbrev yL:Stmt:=top 50
theorem Om:aO ["book","floor"] ["book","floor"] (aD Ht):=⟨rfl,rfl,rfl,by decide+kernel,rfl,by decide+kernel,by decide+kernel⟩
theorem Le:aO ["book","floor"] ["book","floor"] (aD yL):=⟨rfl,rfl,rfl,by decide+kernel,rfl,by decide+kernel,by decide+kernel⟩
theorem Oq {k:Nat} (F:Fun K "rise" "rise" Ht f fd) (B:Bt mg)
  (D_settled:Df P w K mg base "settled" k ["book","floor","giving"] (oX K)):cG P w K mg base CX0 (k+1) f fd ["book","floor"] (uO Sh):=by
 refine F.ok Om (fun vs H Q E h=>?_) (fun cdv A outer s H vs Q E hr h=>?_)
 ·obtain⟨b,f,n,bk,fl,rfl,_⟩:=h
  rfl
 ·obtain⟨b,f,n,bk,fl,rfl,hb,lb,hf,of,q⟩:=h
  refine⟨_,(aB (aG (aX D_settled hr (aa (pv 0) (aa (pv 1) (aa (pv 1) aj)))))),?_⟩
  obtain⟨m,hm,st⟩:=Cw lb hb.okB of
  exact⟨_,rfl,_,rfl,_,rfl,b,f,f,n,bk,fl,fl,m,rfl,hb,lb,hf,of,hf,of,hm,st,fun r us H' s1 fr er gr=>q m r us H' hm st s1 fr er gr⟩
theorem K8 {k:Nat} (F:Fun K "least" "least" yL f fd) (B:Bt mg)
  (D_rise:Df P w K mg base "rise" k ["book","floor"] (uO Sh)):cG P w K mg base CX0 (k+1) f fd ["book","floor"] (Eh Sh):=by
 refine F.ok Le (fun vs H Q E h=>?_) (fun cdv A outer s H vs Q E hr h=>?_)
 ·obtain⟨b,f,n,bk,fl,rfl,_⟩:=h
  rfl
 ·obtain⟨b,f,n,bk,fl,rfl,hb,lb,hf,of,q⟩:=h
  refine⟨_,(aB (aG (bw (r:=iy K) bC (aX D_rise hr (aa (pv 0) (aa (pv 1) aj))) (PL Ez aA) (fun _ _=>rfl)))),?_⟩
  refine⟨_,rfl,_,rfl,b,f,n,bk,fl,rfl,hb,lb,hf,of,fun m r us H' hm st s1 fr er gr=>?_⟩
  obtain⟨a,ha,ea⟩:=tQ gr
  exact⟨_,rfl,r,_,_,_,rfl,rfl,SqL.of er,ha,q m a H' hm st s1 ea⟩
abbrev Jc:Stmt:=top 49
abbrev mY:Stmt:=top 51
theorem Qh:aO ["book","floor"] ["book","floor"] (aD Jc):=⟨rfl,rfl,rfl,by decide+kernel,rfl,by decide+kernel,by decide+kernel⟩
theorem yN:aO ["book","floor"] ["book","floor"] (aD mY):=⟨rfl,rfl,rfl,by decide+kernel,rfl,by decide+kernel,by decide+kernel⟩
theorem PX {k:Nat} (hk:2<=k) (F:Fun K "fall" "fall" Jc f fd) (B:Bt mg)
  (D_settled:Df P w K mg base "settled" k ["book","floor","giving"] (oX K)) (D_roof:Df P w K mg base "roof" 2 ["book","floor"] (Mq K)):cG P w K mg base CX0 (k+1) f fd ["book","floor"] (uO rfF):=by
 refine F.ok Qh (fun vs H Q E h=>?_) (fun cdv A outer s H vs Q E hr h=>?_)
 ·obtain⟨b,f,n,bk,fl,rfl,_⟩:=h
  rfl
 ·obtain⟨b,f,n,bk,fl,rfl,hb,lb,hf,of,q⟩:=h
  refine⟨_,(aB (aG (aX D_settled hr (aa (pv 0) (aa (pv 1) (aa (aX D_roof hr (aa (pv 0) (aa (pv 1) aj))) aj)))))),?_⟩
  obtain⟨m,hm,st⟩:=Dr lb hb.okB of
  exact⟨_,rfl,_,rfl,_,rfl,_,rfl,b,f,n,bk,fl,rfl,hb,SqT.of hf,by rw[of.1,lb],fun r1 H1 s1 e1=>⟨b,f,r1,n,bk,fl,rfF fl bk,m,rfl,hb.mono s1,lb,s1 _ _ hf,of,e1,lO lb hb.okB of,hm,st,fun r us H' s2 fr er gr=>q m r us H' hm st (s1.trans s2) (s1.free fr) er gr⟩⟩
theorem zy {k:Nat} (F:Fun K "greatest" "greatest" mY f fd) (B:Bt mg)
  (D_fall:Df P w K mg base "fall" k ["book","floor"] (uO rfF)):cG P w K mg base CX0 (k+1) f fd ["book","floor"] (Eh rfF):=by
 refine F.ok yN (fun vs H Q E h=>?_) (fun cdv A outer s H vs Q E hr h=>?_)
 ·obtain⟨b,f,n,bk,fl,rfl,_⟩:=h
  rfl
 ·obtain⟨b,f,n,bk,fl,rfl,hb,lb,hf,of,q⟩:=h
  refine⟨_,(aB (aG (bw (r:=iy K) bC (aX D_fall hr (aa (pv 0) (aa (pv 1) aj))) (PL Ez aA) (fun _ _=>rfl)))),?_⟩
  refine⟨_,rfl,_,rfl,b,f,n,bk,fl,rfl,hb,lb,hf,of,fun m r us H' hm st s1 fr er gr=>?_⟩
  obtain⟨a,ha,ea⟩:=tQ gr
  exact⟨_,rfl,r,_,_,_,rfl,rfl,SqL.of er,ha,q m a H' hm st s1 ea⟩
theorem LeG.trans {a b c:List Int} (h:LeG a b) (k:LeG b c):LeG a c:=fun i=>Int.le_trans (h i) (k i)
section
variable {n:Nat} {fl:List Int} {bk:List (List Pl)}
theorem wY (hb:bk.length=n) (ok:okB bk) (hf:okG n fl) {g:List Int} (h:LeG (fD g fl bk) g):∀ k,LeG (itF (Fd fl bk) fl k) g
 | 0=>(qO hb ok hf g).trans h
 | k+1=>(nZ hb ok hf (wY hb ok hf h k)).trans h
theorem qQ (hb:bk.length=n) (ok:okB bk) (hf:okG n fl) {g:List Int} (h:LeG g (fD g fl bk)):∀ k,LeG g (itF (Fd fl bk) (rfF fl bk) k)
 | 0=>h.trans (Bw hb ok hf g)
 | k+1=>h.trans (nZ hb ok hf (qQ hb ok hf h k))
end
theorem ik.at {H:Hp}:∀ {us:List V} {gs:List (List Int)} {i:Nat} {v:V},ik H us gs->us[i]? = some v->∃ a g,v = .ref a/\gs[i]? = some g/\H a=some (.tup (g.map V.int))/\g.length<=1000
 | _,_,_,_,.nil,h=>by simp at h
 | _,_,0,_,.cons h l _,e=>by
  cases (show some _=some _ from e)
  exact⟨_,_,rfl,rfl,h,l⟩
 | _,_,i+1,_,.cons _ _ r,e=>by
  obtain⟨a,g,h1,h2,h3⟩:=ik.at (i:=i) r (by simpa using e)
  exact⟨a,g,h1,by simpa using h2,h3⟩
section
variable {K:VB} {σ:St} {H:Hp} {Q:V->Hp->Prop} {i j:Nat} {a:Addr} {k:Nat} {xs:List V}
end
section
variable {n:Nat} {fl:List Int} {bk:List (List Pl)}
theorem Sy {i:Nat} (h:i < bk.length):bk.getD i []=bk[i]:=by rw[Vi,Vf h]; rfl
theorem fG {g g':List Int} (hl:g.length=g'.length) (h:LeG g g') (h':LeG g' g):g=g':=by
 have e1:=iw hl fun i _=>h i
 have e2:=iw hl.symm fun i _=>h' i
 exact e1.2 (by lia)
end
section
variable {n:Nat} {fl fl':List Int} {bk:List (List Pl)}
theorem kE (hb:bk.length=n) (hf:okG n fl) (g:List Int) {i:Nat} (hi:i < n):(fD g fl bk).getD i 0=max (fl.getD i 0) (duF g 0 (bk.getD i [])):=by
 have h1:i < fl.length:=by rw[hf.1]; exact hi
 have h2:i < bk.length:=by lia
 unfold fD
 rw[gm (duF g) h1 h2,Sy h2]
 exact Kh g (fH hf hi).1 _
theorem vC {g g':List Int} (hg:g.length=n) (hg':g'.length=n) (h:∀ i < n,g.getD i 0<=g'.getD i 0):LeG g g':=jl (by lia) fun i hi=>h i (by lia)
end
def Oi (x:Nat):List Nat->List Nat
 | []=>[x]
 | y::r=>if x<=y then x::y::r else y::Oi x r
def En:List Nat->List Nat
 | []=>[]
 | x::r=>Oi x (En r)
theorem oW (x:Nat):∀ l:List Nat,(Oi x l).Perm (x::l)
 | []=>.refl _
 | y::r=>by
  rw[Oi]
  split
  ·exact .refl _
  ·exact ((oW x r).cons y).trans (.swap x y r)
theorem ju:∀ l:List Nat,(En l).Perm l
 | []=>.refl _
 | x::r=>(oW x _).trans ((ju r).cons x)
theorem oY (x:Nat):∀ {l:List Nat},l.Pairwise (·<=·)->(Oi x l).Pairwise (·<=·)
 | [],_=>by rw[Oi]; simp
 | y::r,h=>by
  rw[Oi]
  rw[W6] at h
  split
  ·rw[W6,W6]
   refine⟨fun z hz=>?_,h⟩
   rcases List.mem_cons.mp hz with rfl | hz
   ·assumption
   ·have:=h.1 z hz
    lia
  ·rw[W6]
   refine⟨fun z hz=>?_,oY x h.2⟩
   rcases List.mem_cons.mp ((oW x r).mem_iff.mp hz) with rfl | hz
   ·lia
   ·exact h.1 z hz
theorem j4:∀ l:List Nat,(En l).Pairwise (·<=·)
 | []=>by rw[En]; simp
 | x::r=>oY x (j4 r)
theorem yd {l:List Nat} {ms:List Int} (p:ms.Perm (l.map fun i:Nat=>(i:Int))) (h:ms.Pairwise (·<=·)):ms=(En l).map fun i:Nat=>(i:Int):=by
 refine sX (p.trans ((ju l).map _).symm) h ?_
 rw[ZM]
 exact (j4 l).imp fun h=>by lia
mutual
def ren (f:Nat->Nat):Tm->Tm
 | .free=>.free
 | .never=>.never
 | .gives i k=>.gives (f i) k
 | .sum c k=>.sum (En (c.map f)) k
 | .crowd c k m=>.crowd (En (c.map f)) k m
 | .all ts=>.all (xZ f ts)
 | .any ts=>.any (xZ f ts)
def xZ (f:Nat->Nat):List Tm->List Tm
 | []=>[]
 | t::r=>ren f t::xZ f r
end
theorem lD (f:Nat->Nat):∀ ts:List Tm,xZ f ts=ts.map (ren f)
 | []=>by rw[xZ]; rfl
 | t::r=>by rw[xZ,lD f r]; rfl
mutual
theorem HY (f:Nat->Nat):∀ t:Tm,(ren f t).dep=t.dep
 | .free=>by rw[ren]
 | .never=>by rw[ren]
 | .gives i k=>by rw[ren,Tm.dep,Tm.dep] <;> simp
 | .sum c k=>by rw[ren,Tm.dep,Tm.dep] <;> simp
 | .crowd c k m=>by rw[ren,Tm.dep,Tm.dep] <;> simp
 | .all ts=>by rw[ren,Tm.dep,Tm.dep,uG f ts]
 | .any ts=>by rw[ren,Tm.dep,Tm.dep,uG f ts]
theorem uG (f:Nat->Nat):∀ ts:List Tm,tdL (xZ f ts)=tdL ts
 | []=>by rw[xZ]
 | t::r=>by rw[xZ,tdL,tdL,HY f t,uG f r]
end
def mV (rs:List Nat) (i:Nat):Nat:=rs.getD i 0
theorem Al {rs:List Nat} {i:Nat} (h:i < rs.length):mV rs i∈rs:=by
 unfold mV
 rw[Vi,Vf h]
 exact Xw h
theorem Ld {rs:List Nat} (nd:rs.Nodup) {i j:Nat} (hi:i < rs.length) (hj:j < rs.length) (hij:i < j):mV rs i≠mV rs j:=by
 unfold mV
 rw[Vi,Vf hi,Vi,Vf hj]
 exact List.pairwise_iff_getElem.mp nd i j hi hj hij
theorem wB {rs c:List Nat} {m n:Nat} (nd:rs.Nodup) (hm:m<=rs.length) (hv:∀ x∈rs,x < n) (hc:∀ i∈c,i < m) (hp:c.Pairwise (· < ·)) :
  (∀ i∈En (c.map (mV rs)),i < n)/\(En (c.map (mV rs))).Pairwise (· < ·)/\(En (c.map (mV rs))).length=c.length:=by
 have pm:=ju (c.map (mV rs))
 refine⟨fun i hi=>?_,?_,by rw[pm.length_eq,Vb]⟩
 ·obtain⟨j,hj,rfl⟩:=List.mem_map.mp (pm.mem_iff.mp hi)
  exact hv _ (Al (Vt (hc j hj) hm))
 ·have nd2:(c.map (mV rs)).Nodup:=by
   show (c.map (mV rs)).Pairwise (·≠·)
   rw[ZM]
   exact List.Pairwise.imp_of_mem (fun {a b} ha hb h=>Ld nd (Vt (hc a ha) hm) (Vt (hc b hb) hm) h) hp
  have nd3:(En (c.map (mV rs))).Nodup:=pm.nodup_iff.mpr nd2
  exact ((j4 _).and nd3).imp fun h=>by lia
theorem Hn {rs:List Nat} {i:Nat} (h:i < rs.length):atI (rs.map vN) (i:Int)=some (vN (mV rs i)):=by
 refine gQ ?_
 unfold mV
 rw[VF,Vi,Vf h]
 rfl
theorem Rq {b:Bool} {A B:Prop} (h:b=true) (a:A):if b=true then A else B:=by rw[if_pos h]; exact a
theorem rE {b:Bool} {A B:Prop} (h:b=false) (a:B):if b=true then A else B:=by rw[if_neg (by rw[h]; exact Vm)]; exact a
abbrev iC:Stmt:=top 71
theorem rO:aO ["_law_term_here","_law_row"] ["_law_term_here","_law_row"] (aD iC):=⟨rfl,rfl,rfl,by decide+kernel,rfl,by decide+kernel,by decide+kernel⟩
inductive M6 (K:VB) (d:Nat) (vs:List V) (H:Hp) (Q:VK):Prop where
 | mk (v:V) (row:Addr) (m n:Nat) (t:Tm) (rs:List Nat) (z0:vs=[v,.ref row]) (z1:jg m H v t) (z2:t.dep<=d) (z3:SqL K H row (rs.map vN)) (z4:m<=rs.length) (z5:rs.Nodup) (z6:(∀ x∈rs,x < n)) (z7:∀ (v':V) (H':Hp),aZ H H'->jg n H' v' (ren (mV rs) t)->Q v' H'):M6 K d vs H Q
def Dt (K:VB) (d:Nat):Sp:=fun vs H Q _=>M6 K d vs H Q
theorem K7:cG P w K mg base CX0 0 f fd ["_law_term_here","_law_row"] (Dt K 0):=by
 have no:∀ vs H Q E,¬ Dt K 0 vs H Q E:=fun vs H Q E h=>by
  obtain⟨v,row,m,n,t,rs,_,_,h1,_⟩:=h
  have:=t.pF
  lia
 exact⟨fun vs H Q E h=>absurd h (no vs H Q E),fun A outer s H args us vs Q E _ _ _ _ h=>absurd h (no vs H Q E)⟩
theorem JD {K:VB} {H H':Hp} {a:Addr} {xs:List V} (e:aZ H H') (h:SqL K H a xs):SqL K H' a xs:=e.seq h
theorem gM {d:Nat} (F:Fun K "_law_renamed" "_law_renamed" iC f fd) (B:Bt mg)
  (D_law_renamed:Df P w K mg base "_law_renamed" d ["_law_term_here","_law_row"] (Dt K d)):cG P w K mg base CX0 (d+1) f fd ["_law_term_here","_law_row"] (Dt K (d+1)):=by
 refine F.ok rO (fun vs H Q E h=>?_) (fun cdv A outer s H vs Q E hr h=>?_)
 ·obtain⟨v,row,m,n,t,rs,rfl,_⟩:=h
  rfl
 ·obtain⟨v,row,m,n,t,rs,rfl,rt,hd,hR,hm,nd,hv,q⟩:=h
  refine⟨_,(au (bG (aL cJ (bw (r:=fZ K) bD (pv 0) aA (fun _ _=>rfl)) bM (aU _)) (aB (aG (bU (aa bM (aa (bw (r:=iy K) bC (pv 1) (bw (r:=fZ K) bD (pv 0) aA (fun _ _=>rfl)) (fun _ _=>rfl)) (aa (bw (r:=fZ K) bD (pv 0) aA (fun _ _=>rfl)) aj)))))) aR)
 (au (bG (aL (r:=rIn K false) jA (bw (r:=fZ K) bD (pv 0) aA (fun _ _=>rfl)) (bU (aa bM (aa bM aj))) rfl) (aB (aG (bf (r:=tG K) nW (bU (aa (bw (r:=fZ K) bD (pv 0) aA (fun _ _=>rfl)) (aa (bH (r:=eX K) bF rfl B.tuple_ bK (aa (aF (r:=Nm K) CG rfl B.sorted_ (by decide+kernel) (aa (bQ (L:=["_law_one"]) (F:=["_law_row"]) (cap:=[1]) rfl (bJ rfl rfl (by kernel_rfl)) (dJ (bw (r:=fZ K) bD (pv 0) aA (fun _ _=>rfl))) (fun _ _ _ _ _=>(aK (i:=0) (bA (by decide+kernel)) rfl (Vv rfl))) (fun _ _ _ _ _=>bV) (fun _ _ _ _ _=>(bw (r:=iy K) bC (pv 1) (pv 0) (fun _ _=>rfl)))) aj)) aj)) aj))) (uq (r:=Uc K) RK (pv 0) (ux aA) HQ)))) aR)
 (au (bG (aL (r:=rIn K false) jA (bw (r:=fZ K) bD (pv 0) aA (fun _ _=>rfl)) (bU (aa bM (aa bM aj))) rfl) (aB (aG (bU (aa (bw (r:=fZ K) bD (pv 0) aA (fun _ _=>rfl)) (aa (bH (r:=eX K) bF rfl B.tuple_ bK (aa (bQ (L:=["_law_part"]) (F:=["_law_row"]) (cap:=[1]) rfl (bJ rfl rfl (by kernel_rfl)) (dJ (bw (r:=fZ K) bD (pv 0) aA (fun _ _=>rfl))) (fun _ _ _ _ _=>(aK (i:=0) (bA (by decide+kernel)) rfl (Vv rfl))) (fun _ _ _ _ _=>bV) (fun _ _ _ _ _=>(aX D_law_renamed hr (aa (pv 0) (aa (pv 1) aj))))) aj)) aj))))) aR)
 (aB (aG (pv 0)))))),?_⟩
  cases rt with
  | @free a ha =>
   refine⟨_,rfl,a,_,_,_,rfl,rfl,SqT.of ha,aM (k:=0) rfl,rfl,_,rfl,cR (aY (by decide)) ?_⟩
   refine⟨_,rfl,a,_,_,_,rfl,rfl,SqT.of ha,aM (k:=0) rfl,small (by show 2<=1000; decide),fun p1 h1=>⟨p1,_,rfl,.inr (SqT.of aq),rfl,rfl,_,rfl,rE (by decide+kernel) ?_⟩⟩
   generalize eH1:upd H p1 _=H1
   obtain⟨g1,_⟩:=aP eH1 h1
   refine⟨_,rfl,a,_,_,_,rfl,rfl,SqT.of (g1 _ _ ha),aM (k:=0) rfl,small (by show 2<=1000; decide),fun p2 h2=>⟨p2,_,rfl,.inr (SqT.of aq),rfl,rfl,_,rfl,rE (by decide+kernel) ?_⟩⟩
   generalize eH2:upd H1 p2 _=H2
   obtain⟨g2,_⟩:=aP eH2 h2
   refine⟨_,rfl,?_⟩
   have q':=q (.ref a) H2 (g1.trans g2) (by rw[ren]; exact .free (g2 _ _ (g1 _ _ ha)))
   exact q'
  | @never a ha =>
   refine⟨_,rfl,a,_,_,_,rfl,rfl,SqT.of ha,aM (k:=0) rfl,rfl,_,rfl,cR (aY (by decide)) ?_⟩
   refine⟨_,rfl,a,_,_,_,rfl,rfl,SqT.of ha,aM (k:=0) rfl,small (by show 2<=1000; decide),fun p1 h1=>⟨p1,_,rfl,.inr (SqT.of aq),rfl,rfl,_,rfl,rE (by decide+kernel) ?_⟩⟩
   generalize eH1:upd H p1 _=H1
   obtain⟨g1,_⟩:=aP eH1 h1
   refine⟨_,rfl,a,_,_,_,rfl,rfl,SqT.of (g1 _ _ ha),aM (k:=0) rfl,small (by show 2<=1000; decide),fun p2 h2=>⟨p2,_,rfl,.inr (SqT.of aq),rfl,rfl,_,rfl,rE (by decide+kernel) ?_⟩⟩
   generalize eH2:upd H1 p2 _=H2
   obtain⟨g2,_⟩:=aP eH2 h2
   refine⟨_,rfl,?_⟩
   have q':=q (.ref a) H2 (g1.trans g2) (by rw[ren]; exact .never (g2 _ _ (g1 _ _ ha)))
   exact q'
  | @gives a i k ha hi k1 k9 =>
   refine⟨_,rfl,a,_,_,_,rfl,rfl,SqT.of ha,aM (k:=0) rfl,rfl,_,rfl,qC rfl ?_⟩
   refine⟨_,rfl,_,rfl,a,_,_,_,rfl,rfl,SqT.of ha,aM (k:=1) rfl,row,_,_,_,rfl,rfl,hR,Hn (by lia),_,rfl,a,_,_,_,rfl,rfl,SqT.of ha,aM (k:=2) rfl,small (by show 3<=1000; decide),fun p1 h1=>?_⟩
   refine q (.ref p1) _ (aC h1 _) ?_
   rw[ren]
   exact .gives aq (hv _ (Al (by lia))) k1 k9
  | @sum a b c k ha hb hc hp l20 l2 k1 k99 =>
   obtain⟨x1,x2,x3⟩:=wB nd hm hv hc hp
   refine⟨_,rfl,a,_,_,_,rfl,rfl,SqT.of ha,aM (k:=0) rfl,rfl,_,rfl,cR (aY (by decide)) ?_⟩
   refine⟨_,rfl,a,_,_,_,rfl,rfl,SqT.of ha,aM (k:=0) rfl,small (by show 2<=1000; decide),fun p1 h1=>⟨p1,_,rfl,.inr (SqT.of aq),rfl,rfl,_,rfl,Rq (by decide+kernel) ?_⟩⟩
   generalize eH1:upd H p1 _=H1
   obtain⟨g1,_⟩:=aP eH1 h1
   refine⟨_,rfl,a,_,_,_,rfl,rfl,SqT.of (g1 _ _ ha),aM (k:=0) rfl,?_⟩
   refine⟨_,rfl,a,_,_,_,rfl,rfl,SqT.of (g1 _ _ ha),aM (k:=1) rfl,b,rfl,⟨_,SqT.of (g1 _ _ hb)⟩,fun D hD=>cT (K:=K) (a:=b) (xs:=c.map vN) (fun i zs σ' H2=>(∃ u,σ'=[u,some (.ref row)])/\zs=((c.take i).map (mV rs)).map vN/\aZ H1 H2/\H2 D=some (.lst zs))
    ⟨⟨_,rfl⟩,rfl,aC hD _,aq⟩ (fun i zs σ' H2 _ h=>⟨SqT.of (h.2.2.1 _ _ (g1 _ _ hb)),h.2.2.2⟩) ?_ ?_⟩
   ·rintro j zs x σ' H2 hx ⟨⟨u,rfl⟩,e1,sm,hDl⟩
    obtain⟨i,hi,rfl⟩:=ug hx
    have him:=hc i (Wd hi)
    refine gT ?_
    refine⟨_,rfl,_,rfl,row,_,_,_,rfl,rfl,JD (g1.trans sm) hR,Hn (by lia),hDl,?_,⟨_,rfl⟩,?_,aQ sm hD _,aq⟩
    ·rw[e1,Vb,Vb,Vz]
     exact aJ (by lia)
    ·rw[e1,take_snoc (mV rs) hi,Vl]
     rfl
   ·rintro zs σ' H2 ⟨_,e1,sm,hDl⟩
    rw[Vb,Vw] at e1
    refine⟨D,(c.map (mV rs)).map fun i:Nat=>(i:Int),rfl,SqL.of (by rw[hDl,e1,fK]),by rw[Vb,Vb]; lia,fun ms pm so l hl=>?_⟩
    rw[yd pm so,← fK]
    generalize eH3:upd H2 l _=H3
    obtain⟨g3,e3⟩:=aP eH3 hl
    refine⟨l,_,rfl,.inl ⟨SqL.of e3,fun p4 h4=>?_⟩⟩
    generalize eH4:upd H3 p4 _=H4
    obtain⟨g4,e4⟩:=aP eH4 h4
    refine⟨small (by show 2<=1000; decide),fun p5 h5=>?_⟩
    generalize eH5:upd H4 p5 _=H5
    obtain⟨g5,e5⟩:=aP eH5 h5
    have s5:aZ H H5:=g1.trans (sm.trans (g3.trans (g4.trans g5)))
    refine⟨_,rfl,_,rfl,a,_,rfl,SqT.of (s5 _ _ ha),(by show ¬ (HT.sIx 3 0 (some 2)=0/\HT.sIx 3 3 none=3); decide),fun p6 h6=>?_⟩
    have ec:Ep [V.str "sum",.ref b,.int k] (some 2) none=[.int k]:=rfl
    rw[ec]
    generalize eH6:upd H5 p6 _=H6
    obtain⟨g6,e6⟩:=aP eH6 h6
    refine⟨p5,p6,_,_,rfl,rfl,SqT.of (g6 _ _ e5),SqT.of e6,small (by show 3<=1000; decide),fun z=>(by cases z),fun _ z=>(by cases z),fun _ _ p7 h7=>?_⟩
    refine q (.ref p7) _ (s5.trans (g6.trans (aC h7 _))) ?_
    rw[ren]
    exact .sum aq (aC h7 _ _ _ (g6 _ _ (g5 _ _ e4))) x1 x2 (by lia) (by lia) k1 k99
  | @crowd a b c k mm ha hb hc hp l20 l1 k1 k9 m1 m12 =>
   obtain⟨x1,x2,x3⟩:=wB nd hm hv hc hp
   refine⟨_,rfl,a,_,_,_,rfl,rfl,SqT.of ha,aM (k:=0) rfl,rfl,_,rfl,cR (aY (by decide)) ?_⟩
   refine⟨_,rfl,a,_,_,_,rfl,rfl,SqT.of ha,aM (k:=0) rfl,small (by show 2<=1000; decide),fun p1 h1=>⟨p1,_,rfl,.inr (SqT.of aq),rfl,rfl,_,rfl,Rq (by decide+kernel) ?_⟩⟩
   generalize eH1:upd H p1 _=H1
   obtain⟨g1,_⟩:=aP eH1 h1
   refine⟨_,rfl,a,_,_,_,rfl,rfl,SqT.of (g1 _ _ ha),aM (k:=0) rfl,?_⟩
   refine⟨_,rfl,a,_,_,_,rfl,rfl,SqT.of (g1 _ _ ha),aM (k:=1) rfl,b,rfl,⟨_,SqT.of (g1 _ _ hb)⟩,fun D hD=>cT (K:=K) (a:=b) (xs:=c.map vN) (fun i zs σ' H2=>(∃ u,σ'=[u,some (.ref row)])/\zs=((c.take i).map (mV rs)).map vN/\aZ H1 H2/\H2 D=some (.lst zs))
    ⟨⟨_,rfl⟩,rfl,aC hD _,aq⟩ (fun i zs σ' H2 _ h=>⟨SqT.of (h.2.2.1 _ _ (g1 _ _ hb)),h.2.2.2⟩) ?_ ?_⟩
   ·rintro j zs x σ' H2 hx ⟨⟨u,rfl⟩,e1,sm,hDl⟩
    obtain⟨i,hi,rfl⟩:=ug hx
    have him:=hc i (Wd hi)
    refine gT ?_
    refine⟨_,rfl,_,rfl,row,_,_,_,rfl,rfl,JD (g1.trans sm) hR,Hn (by lia),hDl,?_,⟨_,rfl⟩,?_,aQ sm hD _,aq⟩
    ·rw[e1,Vb,Vb,Vz]
     exact aJ (by lia)
    ·rw[e1,take_snoc (mV rs) hi,Vl]
     rfl
   ·rintro zs σ' H2 ⟨_,e1,sm,hDl⟩
    rw[Vb,Vw] at e1
    refine⟨D,(c.map (mV rs)).map fun i:Nat=>(i:Int),rfl,SqL.of (by rw[hDl,e1,fK]),by rw[Vb,Vb]; lia,fun ms pm so l hl=>?_⟩
    rw[yd pm so,← fK]
    generalize eH3:upd H2 l _=H3
    obtain⟨g3,e3⟩:=aP eH3 hl
    refine⟨l,_,rfl,.inl ⟨SqL.of e3,fun p4 h4=>?_⟩⟩
    generalize eH4:upd H3 p4 _=H4
    obtain⟨g4,e4⟩:=aP eH4 h4
    refine⟨small (by show 2<=1000; decide),fun p5 h5=>?_⟩
    generalize eH5:upd H4 p5 _=H5
    obtain⟨g5,e5⟩:=aP eH5 h5
    have s5:aZ H H5:=g1.trans (sm.trans (g3.trans (g4.trans g5)))
    refine⟨_,rfl,_,rfl,a,_,rfl,SqT.of (s5 _ _ ha),(by show ¬ (HT.sIx 4 0 (some 2)=0/\HT.sIx 4 4 none=4); decide),fun p6 h6=>?_⟩
    have ec:Ep [V.str "crowd",.ref b,.int k,.int mm] (some 2) none=[.int k,.int mm]:=rfl
    rw[ec]
    generalize eH6:upd H5 p6 _=H6
    obtain⟨g6,e6⟩:=aP eH6 h6
    refine⟨p5,p6,_,_,rfl,rfl,SqT.of (g6 _ _ e5),SqT.of e6,small (by show 4<=1000; decide),fun z=>(by cases z),fun _ z=>(by cases z),fun _ _ p7 h7=>?_⟩
    refine q (.ref p7) _ (s5.trans (g6.trans (aC h7 _))) ?_
    rw[ren]
    exact .crowd aq (aC h7 _ _ _ (g6 _ _ (g5 _ _ e4))) x1 x2 (by lia) (by lia) k1 k9 m1 m12
  | @all a b us ts ha hb l2 l6 rl =>
   have hdl:tdL ts<=d:=by rw[Tm.dep] at hd; lia
   have el:=rl.length
   refine⟨_,rfl,a,_,_,_,rfl,rfl,SqT.of ha,aM (k:=0) rfl,rfl,_,rfl,cR (aY (by decide)) ?_⟩
   refine⟨_,rfl,a,_,_,_,rfl,rfl,SqT.of ha,aM (k:=0) rfl,small (by show 2<=1000; decide),fun p1 h1=>⟨p1,_,rfl,.inr (SqT.of aq),rfl,rfl,_,rfl,rE (by decide+kernel) ?_⟩⟩
   generalize eH1:upd H p1 _=H1
   obtain⟨g1,_⟩:=aP eH1 h1
   refine⟨_,rfl,a,_,_,_,rfl,rfl,SqT.of (g1 _ _ ha),aM (k:=0) rfl,small (by show 2<=1000; decide),fun p2 h2=>⟨p2,_,rfl,.inr (SqT.of aq),rfl,rfl,_,rfl,Rq (by decide+kernel) ?_⟩⟩
   generalize eH2:upd H1 p2 _=H2
   obtain⟨g2,_⟩:=aP eH2 h2
   have s2:aZ H H2:=g1.trans g2
   refine⟨_,rfl,a,_,_,_,rfl,rfl,SqT.of (s2 _ _ ha),aM (k:=0) rfl,?_⟩
   refine⟨_,rfl,a,_,_,_,rfl,rfl,SqT.of (s2 _ _ ha),aM (k:=1) rfl,b,rfl,⟨_,SqT.of (s2 _ _ hb)⟩,fun D hD=>cT (K:=K) (a:=b) (xs:=us) (fun i zs σ' H3=>(∃ u,σ'=[u,some (.ref row)])/\zs.length=i/\aZ H2 H3/\H3 D=some (.lst zs)/\cU n H3 zs (xZ (mV rs) (ts.take i)))
    ⟨⟨_,rfl⟩,rfl,aC hD _,aq,by rw[Wk,xZ]; exact .nil⟩ (fun i zs σ' H3 _ h=>⟨SqT.of (h.2.2.1 _ _ (s2 _ _ hb)),h.2.2.2.1⟩) ?_ ?_⟩
   ·rintro j zs x σ' H3 hx ⟨⟨u,rfl⟩,lz,sm,hDl,rz⟩
    obtain⟨t,ht,rt⟩:=rl.get hx
    have hj:=(List.getElem?_eq_some_iff.mp hx).1
    refine gT ?_
    refine⟨_,rfl,_,rfl,x,row,m,n,t,rs,rfl,rt.mono (s2.trans sm),V2 (jT ht) hdl,JD (s2.trans sm) hR,hm,nd,hv,fun v' H4 s4 r4=>?_⟩
    have s7:=cj (zs':=zs++[v']) (s4 _ _ hDl)
    refine⟨s4 _ _ hDl,aJ (by lia),⟨_,rfl⟩,by rw[Ve,lz]; rfl,aQ (sm.trans s4) hD _,aq,?_⟩
    rw[lD,take_snoc (ren (mV rs)) ht,← lD]
    exact ((rz.mono s4).aV s7).snoc (r4.aV s7)
   ·rintro zs σ' H3 ⟨_,lz,sm,hDl,rz⟩
    rw[el,Vw] at rz
    refine⟨D,_,rfl,.inl ⟨SqL.of hDl,fun p4 h4=>?_⟩⟩
    generalize eH4:upd H3 p4 _=H4
    obtain⟨g4,e4⟩:=aP eH4 h4
    refine⟨small (by show 2<=1000; decide),fun p5 h5=>?_⟩
    refine q (.ref p5) _ (s2.trans (sm.trans (g4.trans (aC h5 _)))) ?_
    rw[ren]
    exact .all aq (aC h5 _ _ _ e4) (by lia) (by lia) (rz.mono (g4.trans (aC h5 _)))
  | @any a b us ts ha hb l2 l6 rl =>
   have hdl:tdL ts<=d:=by rw[Tm.dep] at hd; lia
   have el:=rl.length
   refine⟨_,rfl,a,_,_,_,rfl,rfl,SqT.of ha,aM (k:=0) rfl,rfl,_,rfl,cR (aY (by decide)) ?_⟩
   refine⟨_,rfl,a,_,_,_,rfl,rfl,SqT.of ha,aM (k:=0) rfl,small (by show 2<=1000; decide),fun p1 h1=>⟨p1,_,rfl,.inr (SqT.of aq),rfl,rfl,_,rfl,rE (by decide+kernel) ?_⟩⟩
   generalize eH1:upd H p1 _=H1
   obtain⟨g1,_⟩:=aP eH1 h1
   refine⟨_,rfl,a,_,_,_,rfl,rfl,SqT.of (g1 _ _ ha),aM (k:=0) rfl,small (by show 2<=1000; decide),fun p2 h2=>⟨p2,_,rfl,.inr (SqT.of aq),rfl,rfl,_,rfl,Rq (by decide+kernel) ?_⟩⟩
   generalize eH2:upd H1 p2 _=H2
   obtain⟨g2,_⟩:=aP eH2 h2
   have s2:aZ H H2:=g1.trans g2
   refine⟨_,rfl,a,_,_,_,rfl,rfl,SqT.of (s2 _ _ ha),aM (k:=0) rfl,?_⟩
   refine⟨_,rfl,a,_,_,_,rfl,rfl,SqT.of (s2 _ _ ha),aM (k:=1) rfl,b,rfl,⟨_,SqT.of (s2 _ _ hb)⟩,fun D hD=>cT (K:=K) (a:=b) (xs:=us) (fun i zs σ' H3=>(∃ u,σ'=[u,some (.ref row)])/\zs.length=i/\aZ H2 H3/\H3 D=some (.lst zs)/\cU n H3 zs (xZ (mV rs) (ts.take i)))
    ⟨⟨_,rfl⟩,rfl,aC hD _,aq,by rw[Wk,xZ]; exact .nil⟩ (fun i zs σ' H3 _ h=>⟨SqT.of (h.2.2.1 _ _ (s2 _ _ hb)),h.2.2.2.1⟩) ?_ ?_⟩
   ·rintro j zs x σ' H3 hx ⟨⟨u,rfl⟩,lz,sm,hDl,rz⟩
    obtain⟨t,ht,rt⟩:=rl.get hx
    have hj:=(List.getElem?_eq_some_iff.mp hx).1
    refine gT ?_
    refine⟨_,rfl,_,rfl,x,row,m,n,t,rs,rfl,rt.mono (s2.trans sm),V2 (jT ht) hdl,JD (s2.trans sm) hR,hm,nd,hv,fun v' H4 s4 r4=>?_⟩
    have s7:=cj (zs':=zs++[v']) (s4 _ _ hDl)
    refine⟨s4 _ _ hDl,aJ (by lia),⟨_,rfl⟩,by rw[Ve,lz]; rfl,aQ (sm.trans s4) hD _,aq,?_⟩
    rw[lD,take_snoc (ren (mV rs)) ht,← lD]
    exact ((rz.mono s4).aV s7).snoc (r4.aV s7)
   ·rintro zs σ' H3 ⟨_,lz,sm,hDl,rz⟩
    rw[el,Vw] at rz
    refine⟨D,_,rfl,.inl ⟨SqL.of hDl,fun p4 h4=>?_⟩⟩
    generalize eH4:upd H3 p4 _=H4
    obtain⟨g4,e4⟩:=aP eH4 h4
    refine⟨small (by show 2<=1000; decide),fun p5 h5=>?_⟩
    refine q (.ref p5) _ (s2.trans (sm.trans (g4.trans (aC h5 _)))) ?_
    rw[ren]
    exact .any aq (aC h5 _ _ _ e4) (by lia) (by lia) (rz.mono (g4.trans (aC h5 _)))
mutual
def nn (one:Nat):Tm->Bool
 | .free=>true
 | .never=>true
 | .gives i _=>decide (i≠one)
 | .sum c _=>decide (one ∉ c)
 | .crowd c _ _=>decide (one ∉ c)
 | .all ts=>nnL one ts
 | .any ts=>nnL one ts
def nnL (one:Nat):List Tm->Bool
 | []=>true
 | t::r=>nn one t && nnL one r
end
section
variable {one:Nat} {g g':List Int} (ag:∀ j,j≠one->g.getD j 0=g'.getD j 0)
include ag
end
mutual
theorem Mw {one m:Nat} {H:Hp} {f:Nat->Nat} (hf:∀ j < m,f j≠one):∀ {v:V} {t:Tm},jg m H v t->nn one (ren f t)=true
 | _,_,.free _=>by simp [ren,nn]
 | _,_,.never _=>by simp [ren,nn]
 | _,_,.gives _ a _ _=>by
  simp only[ren,nn]
  exact decide_eq_true (hf _ a)
 | _,_,.sum _ _ a _ _ _ _ _=>by
  simp only[ren,nn]
  refine decide_eq_true fun z=>?_
  obtain⟨j,hj,e⟩:=List.mem_map.mp ((ju _).mem_iff.mp z)
  exact hf j (a j hj) e
 | _,_,.crowd _ _ a _ _ _ _ _ _ _=>by
  simp only[ren,nn]
  refine decide_eq_true fun z=>?_
  obtain⟨j,hj,e⟩:=List.mem_map.mp ((ju _).mem_iff.mp z)
  exact hf j (a j hj) e
 | _,_,.all _ _ _ _ r=>by
  simp only[ren,nn]
  exact yQ hf r
 | _,_,.any _ _ _ _ r=>by
  simp only[ren,nn]
  exact yQ hf r
theorem yQ {one m:Nat} {H:Hp} {f:Nat->Nat} (hf:∀ j < m,f j≠one):∀ {vs:List V} {ts:List Tm},cU m H vs ts->nnL one (xZ f ts)=true
 | _,_,.nil=>by simp [xZ,nnL]
 | _,_,.cons h r=>by
  simp only[xZ,nnL]
  rw[Mw hf h,yQ hf r]
  rfl
end
def shN (one k:Nat):Nat:=k+if one<=k then 1 else 0
def shR (one m:Nat):List Nat:=(VD m).map (shN one)
theorem Jo (one m:Nat):(shR one m).Nodup:=by
 unfold shR
 show ((VD m).map (shN one)).Pairwise (·≠·)
 rw[ZM]
 refine List.pairwise_lt_range.imp fun {a b} h=>?_
 unfold shN
 split <;> split <;> lia
theorem Rz {one m:Nat}:∀ x∈shR one m,x < m+1:=fun x hx=>by
 unfold shR at hx
 obtain⟨k,hk,rfl⟩:=List.mem_map.mp hx
 have:=List.mem_range.mp hk
 unfold shN
 split <;> lia
theorem Q3 {one m j:Nat} (hj:j < m):mV (shR one m) j≠one:=by
 unfold mV shR
 rw[Vi,VF,XN hj]
 show shN one j≠one
 unfold shN
 split <;> lia
abbrev mK:Stmt:=top 72
theorem zM:aO ["_law_cell_here","_law_n","_law_one","_law_deep","_law_most"] ["_law_cell_here","_law_n","_law_one","_law_deep","_law_most"] (aD mK):=⟨rfl,rfl,rfl,by decide+kernel,rfl,by decide+kernel,by decide+kernel⟩
inductive Fv (vs:List V) (H:Hp) (Q:VK):Prop where
 | mk (c:Int) (n one:Nat) (deep:Int) (mo:Nat) (z0:vs=[.int c,.int (n:Int),.int (one:Int),.int deep,.int (mo:Int)]) (z1:1<=n) (z2:n<=12) (z3:one < n) (z4:1<=deep) (z5:deep<=3) (z6:1<=mo) (z7:mo<=9) (z8:∀ (v:V) (t:Tm) (H':Hp),aZ H H'->jg n H' v t->t.dep<=3->nn one t=true->Q v H'):Fv  vs H Q
def LR:Sp:=fun vs H Q _=>Fv  vs H Q
theorem yX (F:Fun K "_law_mine" "_law_mine" mK f fd) (B:Bt mg)
  (D_law_term:Df P w K mg base "_law_term" 4 ["_law_cell_here","_law_n","_law_deep","_law_most"] (sV 3)) (D_law_renamed:Df P w K mg base "_law_renamed" 3 ["_law_term_here","_law_row"] (Dt K 3)):cG P w K mg base CX0 5 f fd ["_law_cell_here","_law_n","_law_one","_law_deep","_law_most"] LR:=by
 refine F.ok zM (fun vs H Q E h=>?_) (fun cdv A outer s H vs Q E hr h=>?_)
 ·obtain⟨c,n,one,deep,mo,rfl,_⟩:=h
  rfl
 ·obtain⟨c,n,one,deep,mo,rfl,n1,n12,hone,de1,de3,m1,m9,q⟩:=h
  refine⟨_,(au (bG (aL cJ (pv 1) aA (aU _)) (aB (aG (bU (aa (bw (r:=iy K) bC (bR (aa bM (aa bM (aa bM aj)))) (bf cW (pv 0) aA) (fun _ _=>rfl)) aj)))) aR)
 (aB (aG (aX D_law_renamed hr (aa (aX D_law_term hr (aa (pv 0) (aa (bf jd (pv 1) aA) (aa (pv 3) (aa (pv 4) aj))))) (aa (bQ (L:=["_law_k"]) (F:=["_law_one"]) (cap:=[2]) rfl (bJ rfl rfl (by kernel_rfl)) (dW rfl B.range_ (aa (bf jd (pv 1) aA) aj)) (fun _ _ _ _ _=>(aK (i:=0) (bA (by decide+kernel)) rfl (Vv rfl))) (fun _ _ _ _ _=>bV) (fun _ _ _ _ _=>(bf bW (pv 0) (bH (r:=TV) IV rfl B.int_ zW (aa (cV xG (pv 0) (pv 1) (aU _)) aj))))) aj)))))),?_⟩
  refine⟨_,rfl,rfl,_,rfl,?_⟩
  refine xx (fun c1=>?_) (fun c1=>?_)
  ·have en:n=1:=by
    have:=of_decide_eq_true c1
    cases n with
    | zero=>lia
    | succ n=>injection this with z; lia
   subst en
   refine⟨small (by show 3<=1000; decide),fun p7 h7=>?_⟩
   generalize eH7:upd H p7 _=H7
   obtain⟨g7,e7⟩:=aP eH7 h7
   have fin:∀ p8 (x:V9),H7 p8=none->(x = "free"∨x = "never")->Q (.ref p8) (upd H7 p8 (.tup [.str x])):=fun p8 x h8 hx=>by
    rcases hx with rfl | rfl
    ·exact q (.ref p8) .free _ (g7.trans (aC h8 _)) (.free aq) (by decide) (by simp [nn])
    ·exact q (.ref p8) .never _ (g7.trans (aC h8 _)) (.never aq) (by decide) (by simp [nn])
   refine⟨_,rfl,_,_,rfl,rfl,(by show (0:Int) < 3; decide),?_⟩
   have u1:0<=c % 3:=Wg _ (by lia)
   have u2:c % 3 < 3:=V5 _ (by lia)
   rcases (show c % 3=0∨c % 3=1∨c % 3=2 by lia) with z | z | z
   ·exact⟨p7,_,_,_,rfl,rfl,SqL.of e7,by rw[z]; rfl,small (by show 1<=1000; decide),fun p8 h8=>fin p8 _ h8 (.inl rfl)⟩
   ·exact⟨p7,_,_,_,rfl,rfl,SqL.of e7,by rw[z]; rfl,small (by show 1<=1000; decide),fun p8 h8=>fin p8 _ h8 (.inr rfl)⟩
   ·exact⟨p7,_,_,_,rfl,rfl,SqL.of e7,by rw[z]; rfl,small (by show 1<=1000; decide),fun p8 h8=>fin p8 _ h8 (.inl rfl)⟩
  ·have en:n≠1:=fun z=>c1 (decide_eq_true (by rw[z]; rfl))
   obtain⟨m,rfl⟩:∃ m,n=m+1:=⟨n - 1,by lia⟩
   have em:((m+1:Nat):Int) - 1=(m:Int):=by lia
   have et:(((m+1:Nat):Int) - 1).toNat=m:=by lia
   refine⟨_,rfl,_,rfl,_,_,rfl,rfl,_,rfl,_,rfl,c,m,deep,(mo:Int),(by show[V.int c,V.int (((m+1:Nat):Int) - 1),V.int deep,V.int (mo:Int)]=_; rw[em]),by lia,by lia,de1,by lia,by lia,by lia,fun v t H1 s1 rt td=>?_⟩
   refine⟨_,rfl,_,_,rfl,rfl,_,rfl,by lia,by lia,fun D hD=>eQ (lo:=0) (n:=(((m+1:Nat):Int) - 1).toNat) (fun i zs σ' H2=>(∃ u,σ'=[u,some (.int (one:Int))])/\zs=((VD i).map (shN one)).map vN/\aZ H1 H2/\H2 D=some (.lst zs))
    ⟨⟨_,rfl⟩,rfl,aC hD _,aq⟩ (fun i zs σ' H2 _ h=>h.2.2.2) ?_ ?_⟩
   ·rintro i zs σ' H2 hi ⟨⟨u,rfl⟩,e1,sm,hDl⟩
    refine gT ?_
    refine⟨_,rfl,_,rfl,_,rfl,_,_,rfl,rfl,.inr ⟨_,rfl,_,_,rfl,rfl,hDl,?_,⟨_,rfl⟩,?_,aQ sm hD _,aq⟩⟩
    ·rw[e1,Vb,Vb,VP]
     exact aJ (by lia)
    ·rw[e1,YT,Vl,Vl]
     congr 1
     show[V.int (0+(i:Int)+_)]=[V.int ((shN one i:Nat):Int)]
     congr 2
     unfold shN
     by_cases hc:one<=i
     ·rw[decide_eq_true (by lia),if_pos hc]
      simp
     ·rw[decide_eq_false (by lia),if_neg hc]
      simp
   ·rintro zs σ' H2 ⟨_,e1,sm,hDl⟩
    rw[et] at e1
    refine⟨v,D,m,m+1,t,shR one m,rfl,rt.mono sm,by lia,SqL.of (by rw[hDl,e1]; rfl),by unfold shR; rw[Vb,VP]; lia,Jo one m,Rz,fun v' H3 s3 r3=>?_⟩
    exact q v' _ H3 (s1.trans (sm.trans s3)) r3 (by rw[HY]; lia) (Mw (fun j hj=>Q3 hj) rt)
theorem Cd {x:Int}:∀ (ns acc:List Int),x∈ns.foldl W9 acc ↔ x∈acc∨x∈ns
 | [],acc=>by simp
 | n::r,acc=>by
  rw[Wo,Cd r _]
  unfold W9
  split
  ·rename_i h
   obtain⟨y,hy,ey⟩:=List.any_eq_true.mp h
   have e:=eq_of_beq ey
   constructor
   ·rintro (h | h)
    ·exact .inl h
    ·exact .inr (Vp _ h)
   ·rintro (h | h)
    ·exact .inl h
    ·rcases List.mem_cons.mp h with rfl | h
     ·exact .inl (by rw[← e]; exact hy)
     ·exact .inr h
  ·constructor
   ·rintro (h | h)
    ·rcases List.mem_append.mp h with h | h
     ·exact .inl h
     ·exact .inr (by rw[List.mem_singleton.mp h]; exact Vj)
    ·exact .inr (Vp _ h)
   ·rintro (h | h)
    ·exact .inl (abd _ h)
    ·rcases List.mem_cons.mp h with rfl | h
     ·exact .inl (VG _ Vj)
     ·exact .inr h
def okS (ms:List Int):Prop:=ms≠[]/\ms.length<=9/\ms.Pairwise (· < ·)/\∀ x∈ms,1<=x/\x<=9
theorem Rk {ns ms:List Int} (p:ms.Perm (ddI ns)) (so:ms.Pairwise (·<=·)) (h0:ns≠[]) (h9:ns.length<=9) (hb:∀ x∈ns,1<=x/\x<=9):okS ms:=by
 rw[vK] at p
 have mem:∀ x,x∈ms ↔ x∈ns:=fun x=>by rw[p.mem_iff,Cd]; simp
 refine⟨fun z=>?_,?_,?_,fun x hx=>hb x ((mem x).mp hx)⟩
 ·cases ns with
  | nil=>exact h0 rfl
  | cons a r =>
   have:=(mem a).mpr Vj
   rw[z] at this
   cases this
 ·have:=Gi ns []
  rw[p.length_eq]
  simp at this
  lia
 ·have nd:ms.Nodup:=p.nodup_iff.mpr (tH ns [] (by simp))
  exact (so.and nd).imp fun h=>by lia
theorem RC {ns ms:List Int} (p:ms.Perm (ddI ns)) {x:Int} (h:x∈ms):x∈ns:=by
 rw[vK] at p
 have:=p.mem_iff.mp h
 rw[Cd] at this
 simpa using this
theorem G6 {ms:List Int} (h:okS ms) {p:Pl} (e:p.map (·.1)=ms) (hd:∀ x∈p,x.2.dep<=4):okP p:=by
 refine⟨fun z=>?_,?_,by rw[e]; exact h.2.2.1,fun x hx=>?_⟩
 ·subst z
  exact h.1 e.symm
 ·have:=congrArg aaz e
  rw[Vb] at this
  have:=h.2.1
  lia
 ·have hm:x.1∈ms:=by rw[← e]; exact List.mem_map.mpr ⟨x,hx,rfl⟩
  exact⟨(h.2.2.2 _ hm).1,(h.2.2.2 _ hm).2,hd x hx⟩
theorem MK {one n:Nat} {d:Int} (h:one < n) (d0:0<=d) (d1:d < (n:Int) - 1) {j:Nat} (e:((one:Int)+1+d) % (n:Int)=(j:Int)):j≠one:=fun z=>by
 subst z
 by_cases c:(j:Int)+1+d < (n:Int)
 ·rw[Int.emod_eq_of_lt (by lia) c] at e
  lia
 ·rw[← Int.sub_emod_right,Int.emod_eq_of_lt (by lia) (by lia)] at e
  lia
abbrev jh:Stmt:=top 73
theorem bT:aO ["_law_cell_here","_law_n","_law_one","_law_deep","_law_most","_law_drawn","_law_steps","_law_other_one","_law_found","_law_k","_law_step"] ["_law_cell_here","_law_n","_law_one","_law_deep","_law_most"] (aD jh):=⟨rfl,rfl,rfl,by decide+kernel,rfl,by decide+kernel,by decide+kernel⟩
inductive vW (vs:List V) (H:Hp) (Q:VK):Prop where
 | mk (c:Int) (n one:Nat) (deep:Int) (mo:Nat) (z0:vs=[.int c,.int (n:Int),.int (one:Int),.int deep,.int (mo:Int)]) (z1:1<=n) (z2:n<=12) (z3:one < n) (z4:1<=deep) (z5:deep<=3) (z6:1<=mo) (z7:mo<=9) (z8:∀ (a:Addr) (p:Pl) (H':Hp),aZ H H'->nQ n H' a p->(∀ x∈p,x.1<=(mo:Int))->(∀ x∈p,nn one x.2=true)->Q (.ref a) H'):vW  vs H Q
def Ce:Sp:=fun vs H Q _=>vW  vs H Q
theorem uw (F:Fun K "_law_pledge" "_law_pledge" jh f fd) (B:Bt mg)
  (D_law_draws:Df P w K mg base "_law_draws" 1 ["_law_cell_here","_law_parts"] (qw K)) (D_law_under:Df P w K mg base "_law_under" 1 ["_law_cell_here","_law_k"] uN) (D_law_crowd:Df P w K mg base "_law_crowd" 1 ["_law_number","_law_n"] yJ)
  (D_law_mine:Df P w K mg base "_law_mine" 5 ["_law_cell_here","_law_n","_law_one","_law_deep","_law_most"] LR):cG P w K mg base CX0 6 f fd ["_law_cell_here","_law_n","_law_one","_law_deep","_law_most"] Ce:=by
 refine F.ok bT (fun vs H Q E h=>?_) (fun cdv A outer s H vs Q E hr h=>?_)
 ·obtain⟨c,n,one,deep,mo,rfl,_⟩:=h
  rfl
 ·obtain⟨c,n,one,deep,mo,rfl,n1,n12,hone,de1,de3,m1,m9,q⟩:=h
  refine⟨_,(au (aW (i:=5) bT.nd rfl (aba rfl) (aX D_law_draws hr (aa (pv 0) (aa (bR (aa aA (aa aA (aa aA (aa aA (aa aA (aa aA aj))))))) aj))))
 (au (aW (i:=6) bT.nd rfl (Vv rfl) (nC rfl rfl B.sorted_ rfl B.set_ (aa (bQ (L:=["_law_k"]) (F:=["_law_most","_law_drawn"]) (cap:=[4,5]) rfl (bJ rfl rfl (by kernel_rfl)) (dW rfl B.range_ (aa (bf bW aA (bf cW (bw (r:=iy K) bC (pv 5) aA (fun _ _=>rfl)) aA)) aj)) (fun _ _ _ _ _=>(aK (i:=0) (bA (by decide+kernel)) rfl (Vv rfl))) (fun _ _ _ _ _=>bV) (fun _ _ _ _ _=>(bf bW aA (bf cW (bw (r:=iy K) bC (pv 2) (bf bW aA (pv 0)) (fun _ _=>rfl)) (pv 1))))) aj)))
 (au (bG (aL cJ (bw (r:=iy K) bC (pv 5) aA (fun _ _=>rfl)) aA (aU _)) (au (Er (L:=["_law_step"]) (F:=[]) (cap:=[]) (j:=6) bT.nd rfl (Vv rfl) rfl (bJ rfl rfl (by kernel_rfl)) (dJ (aX D_law_crowd hr (aa (bw (r:=iy K) bC (pv 5) aA (fun _ _=>rfl)) (aa (pv 4) aj)))) (fun _ _ _ _ _=>(aK (i:=0) (bA (by decide+kernel)) rfl (Vv rfl))) (fun _ _ _ _ _=>bV) (fun _ _ _ _ _=>(bf bW aA (pv 0))))
 (aB (bG (aL (r:=Ui K) (Rb hr.oK) (pv 6) (bR aj) (aU _)) (aB (aW (i:=6) bT.nd rfl (Vv rfl) (bR (aa (pv 4) aj)))) aR))) aR)
 (au (bG (PW.pt (Bb (aL cJ (bw (r:=iy K) bC (pv 5) aA (fun _ _=>rfl)) aA (aU _)) (tK (aL zH (pv 1) aA (aU _))))) (aB (aG (bH (r:=eX K) bF rfl B.tuple_ bK (aa (bQ (L:=["_law_step"]) (F:=["_law_n","_law_one"]) (cap:=[1,2]) rfl (bJ rfl rfl (by kernel_rfl)) (fQ (pv 6)) (fun _ _ _ _ _=>(aK (i:=0) (bA (by decide+kernel)) rfl (Vv rfl))) (fun _ _ _ _ _=>bV) (fun _ _ _ _ _=>(bU (aa (pv 0) (aa (bU (aa bM (aa (bf cW (bf bW (pv 2) aA) (pv 1)) (aa (pv 0) aj)))) aj))))) aj)))) aR)
 (au (bG (PW.pt (Bb (aL cJ (bw (r:=iy K) bC (pv 5) aA (fun _ _=>rfl)) aA (aU _)) (tK (aL zH (pv 1) aA (aU _))))) (au (aW (i:=7) bT.nd rfl (aba rfl) (bf cW (bf bW (bf bW (pv 2) aA) (bf cW (bw (r:=iy K) bC (pv 5) aA (fun _ _=>rfl)) (bf jd (pv 1) aA))) (pv 1)))
 (aB (aG (bH (r:=eX K) bF rfl B.tuple_ bK (aa (bQ (L:=["_law_step"]) (F:=["_law_other_one"]) (cap:=[7]) rfl (bJ rfl rfl (by kernel_rfl)) (fQ (pv 6)) (fun _ _ _ _ _=>(aK (i:=0) (bA (by decide+kernel)) rfl (Vv rfl))) (fun _ _ _ _ _=>bV) (fun _ _ _ _ _=>(bU (aa (pv 0) (aa (bU (aa bM (aa (pv 1) (aa (aF (Iz rfl) rfl B.max_ Cg (aa aA (aa (bf jd (pv 0) aA) aj))) aj)))) aj))))) aj))))) aR)
 (au (aW (i:=8) bT.nd rfl (Vv rfl) (bR aj))
 (au (eZ Wf rfl (Pn rfl B.enumerate_ (aa (pv 6) aj)) (dM (K:=K) 2 rfl rfl (bB (aK (i:=9) bT.nd rfl (Vv rfl)) (bB (aK (i:=10) bT.nd rfl (Vv rfl)) dI))) (aB (bO (o4 Wr WR WQ cH (pv 8) (aa (bU (aa (pv 10) (aa (aX D_law_mine hr (aa (aX D_law_under hr (aa (pv 0) (aa (pv 9) aj))) (aa (pv 1) (aa (pv 2) (aa (pv 3) (aa (pv 4) aj)))))) aj))) aj)))))
 (aB (aG (bH (r:=eX K) bF rfl B.tuple_ bK (aa (pv 8) aj))))))))))),?_⟩
  refine⟨_,rfl,small (by show 6<=1000; decide),fun p1 h1=>?_⟩
  generalize eH1:upd H p1 _=H1
  obtain⟨g1,e1⟩:=aP eH1 h1
  refine⟨c,p1,[7,9,9,9,12,512],rfl,SqL.of e1,by decide,by decide,fun p2 h2=>?_⟩
  generalize eH2:upd H1 p2 _=H2
  obtain⟨g2,e2⟩:=aP eH2 h2
  have hps:∀ q∈([7,9,9,9,12,512]:List Int),0 < q:=by decide
  obtain⟨d0,k0,b0⟩:=cu (c:=ni c) (i:=0) hps rfl
  obtain⟨d1,k1,b1⟩:=cu (c:=ni c) (i:=1) hps rfl
  obtain⟨d2,k2,b2⟩:=cu (c:=ni c) (i:=2) hps rfl
  obtain⟨d3,k3,b3⟩:=cu (c:=ni c) (i:=3) hps rfl
  obtain⟨d4,k4,b4⟩:=cu (c:=ni c) (i:=4) hps rfl
  obtain⟨d5,k5,b5⟩:=cu (c:=ni c) (i:=5) hps rfl
  have a0:=aM (d7 k0)
  have a4:=aM (d7 k4)
  have a5:=aM (d7 k5)
  have kk:∀ k:Nat,k < 3->∃ d,(xY (ni c) [7,9,9,9,12,512])[1+k]? = some d:=fun k hk=>by
   match k,hk with
   | 0,_=>exact⟨_,k1⟩
   | 1,_=>exact⟨_,k2⟩
   | 2,_=>exact⟨_,k3⟩
  change _=some (HO.lst ((xY (ni c) [7,9,9,9,12,512]).map V.int)) at e2
  generalize xY (ni c) [7,9,9,9,12,512]=ds at *
  have gH:aZ H H2:=g1.trans g2
  have u1:0<=d0 % 3:=Wg _ (by lia)
  have u2:d0 % 3 < 3:=V5 _ (by lia)
  refine⟨_,rfl,p2,_,_,_,rfl,rfl,SqL.of e2,a0,_,_,rfl,rfl,(by show (0:Int) < 3; decide),_,_,rfl,rfl,_,rfl,by lia,by lia,fun D hD=>eQ (lo:=0) (n:=(1+d0 % 3).toNat)
   (fun i zs σ' H3=>(∃ u,σ'=[u,some (.int (mo:Int)),some (.ref p2)])/\aZ H2 H3/\H3 D=some (.lst zs)/\∃ ns:List Int,zs=ns.map V.int/\ns.length=i/\∀ x∈ns,1<=x/\x<=(mo:Int))
   ⟨⟨_,rfl⟩,aC hD _,aq,[],rfl,rfl,by simp⟩ (fun i zs σ' H3 _ h=>h.2.2.1) ?_ ?_⟩
  ·rintro i zs σ' H3 hi ⟨⟨u,rfl⟩,s3,eD,ns,e3,ln,hb⟩
   obtain⟨dk,hk⟩:=kk i (by lia)
   have ak:atI (ds.map V.int) (1+(0+(i:Int)))=some (.int dk):=by
    rw[show (1:Int)+(0+(i:Int))=((1+i:Nat):Int) by lia]
    exact aM (d7 hk)
   have v1:0<=dk % (mo:Int):=Wg _ (by lia)
   have v2:dk % (mo:Int) < (mo:Int):=V5 _ (by lia)
   refine gT ?_
   refine⟨_,rfl,_,rfl,_,_,rfl,rfl,p2,_,_,_,rfl,rfl,SqL.of (s3 _ _ e2),ak,_,rfl,_,_,rfl,rfl,(by show (0:Int) < (mo:Int); lia),_,_,rfl,rfl,eD,?_,⟨_,rfl⟩,aQ s3 hD _,aq,ns++[1+dk % (mo:Int)],?_,?_,?_⟩
   ·rw[e3,Vb]
    exact aJ (by lia)
   ·rw[e3,Vl]
    rfl
   ·rw[Ve,ln]
    rfl
   ·intro x hx
    rcases List.mem_append.mp hx with h | h
    ·exact hb x h
    ·rw[List.mem_singleton.mp h]
     lia
  ·rintro zs σ' H3 ⟨_,s3,eD,ns,e3,ln,hb⟩
   have ln3:1<=ns.length/\ns.length<=3:=by lia
   have dl:(ddI ns).length<=ns.length:=by
    have:=Gi ns []
    rw[vK]
    simpa using this
   refine⟨D,ns,rfl,SqL.of (by rw[eD,e3]),by lia,by lia,fun ms pm so l hl=>?_⟩
   have okm:okS ms:=Rk pm so (fun z=>by rw[z] at ln3; simp at ln3) (by lia) fun x hx=>⟨(hb x hx).1,by have:=(hb x hx).2; lia⟩
   have okM:∀ x∈ms,x<=(mo:Int):=fun x hx=>(hb x (RC pm hx)).2
   generalize eH4:upd H3 l _=H4
   obtain⟨g4,e4⟩:=aP eH4 hl
   have s4:aZ H2 H4:=s3.trans g4
   refine gN ?_
   dsimp only
   show J0 (Nu _ _ _) _ _ _ _
   refine m7 (fun σ H5=>∃ (l:Addr) (ms:List Int),σ=[some (.int c),some (.int (n:Int)),some (.int (one:Int)),some (.int deep),some (.int (mo:Int)),some (.ref p2),some (.ref l),none,none,none,none]/\aZ H2 H5/\H5 l=some (.lst (ms.map V.int))/\okS ms/\∀ x∈ms,x<=(mo:Int)) ?rest (fun _ R=>?_)
   case rest =>
    clear e4 hl so pm okm okM eH4 g4 s4 H4 l ms
    rintro σ H5 ⟨l,ms,rfl,s5,e5,okm,okM⟩
    have l9:=okm.2.1
    have e2':=s5 _ _ e2
    have sH5:aZ H H5:=gH.trans s5
    show J0 (Nu _ _ _) _ _ _ _
    refine m7 (fun σ H6=>σ=[some (.int c),some (.int (n:Int)),some (.int (one:Int)),some (.int deep),some (.int (mo:Int)),some (.ref p2),some (.ref l),none,none,none,none]/\H5=H6) ?rest2 (fun _ R=>?_)
    case rest2 =>
     rintro σ H6 ⟨rfl,rfl⟩
     show J0 (Nu _ _ _) _ _ _ _
     refine m7 (fun σ H6=>σ=[some (.int c),some (.int (n:Int)),some (.int (one:Int)),some (.int deep),some (.int (mo:Int)),some (.ref p2),some (.ref l),none,none,none,none]/\H5=H6) ?rest3 (fun _ R=>?_)
     case rest3 =>
      rintro σ H6 ⟨rfl,rfl⟩
      refine⟨small (VL _),fun r hr0=>?_⟩
      generalize eH6:upd H5 r _=H6
      obtain⟨g6,e6⟩:=aP eH6 hr0
      refine⟨_,rfl,l,_,rfl,g6 _ _ e5,Kg (K:=K) (a:=l) (xs:=ms.map V.int) (fun i σ H7=>(∃ u v,σ=[some (.int c),some (.int (n:Int)),some (.int (one:Int)),some (.int deep),some (.int (mo:Int)),some (.ref p2),some (.ref l),none,some (.ref r),u,v])/\aZ H5 H7 ∧
       ∃ (vs:List V) (p:Pl),H7 r=some (.lst vs)/\d8 n H7 vs p/\p.map (·.1)=ms.take i/\∀ x∈p,x.2.dep<=4/\nn one x.2=true) ⟨⟨_,_,rfl⟩,g6,[],[],e6,.nil,rfl,by simp⟩ (fun i σ H7 _ h=>SqL.of (h.2.1 _ _ e5)) ?_ ?_⟩
      ·rintro i x pp σ H7 hx hpp ⟨⟨u,v,rfl⟩,s7,vs,p,er,rp,ep,hd⟩
       obtain⟨st,hst,rfl⟩:=int_at hx
       have hi:i < ms.length:=(List.getElem?_eq_some_iff.mp hst).1
       generalize eH8:upd H7 pp _=H8
       obtain⟨g8,e8⟩:=aP eH8 hpp
       refine⟨pp,_,rfl,SqT.of e8,rfl,_,_,rfl,_,_,rfl,rfl,?_⟩
       refine⟨_,rfl,.inl ⟨rfl,_,SqL.of (g8 _ _ er)⟩,_,rfl,_,rfl,_,rfl,c,i,rfl,by lia,_,rfl,_,rfl,_,rfl,_,rfl,Qv c i,n,one,deep,mo,rfl,n1,n12,hone,de1,de3,m1,m9,fun v' t H9 s9 rt td tn=>?_⟩
       refine⟨small (by show 2<=1000; decide),fun pa ha=>?_⟩
       generalize eHa:upd H9 pa _=Ha
       obtain⟨ga,ea⟩:=aP eHa ha
       have s8a:aZ H7 Ha:=g8.trans (s9.trans ga)
       have lv:=rp.length
       have lp:p.length<=ms.length:=by
        have:=congrArg aaz ep
        rw[Vb,Vz] at this
        lia
       have tk:=cj (zs':=vs++[.ref pa]) (s8a _ _ er)
       refine⟨r,_,_,rfl,rfl,s8a _ _ er,aJ (by lia),⟨_,_,rfl⟩,aQ (s7.trans s8a) hr0 _,vs++[.ref pa],p++[(st,t)],aq,?_,?_,?_⟩
       ·exact d8.snoc (tk _ _ ea) ((rt.mono ga).aV tk) ((rp.aV fun a xs q=>s8a a _ q).aV tk)
       ·rw[Vl,ep,V1,hst]
        rfl
       ·intro x hx
        rcases List.mem_append.mp hx with h | h
        ·exact hd x h
        ·rw[List.mem_singleton.mp h]
         exact⟨by show t.dep<=4; lia,tn⟩
      ·rintro σ H7 ⟨⟨u,v,rfl⟩,s7,vs,p,er,rp,ep,hd⟩
       rw[Vb,Vw] at ep
       refine⟨_,rfl,r,_,rfl,.inl ⟨SqL.of er,fun pa ha=>?_⟩⟩
       have sn:=aC ha (.tup vs)
       exact q pa p _ (sH5.trans (s7.trans sn)) ⟨G6 okm ep fun x hx=>(hd x hx).1,vs,aq,rp.aV fun a xs q=>sn a _ q⟩ (fun x hx=>okM _ (ep▸List.mem_map_of_mem hx)) fun x hx=>(hd x hx).2
     ·refine uv (decide (V.int d0=V.int 5)) (decide (1 < (n:Int))) (fun H6=>H5=H6) (fun Q' hQ=>?_) (fun H6 e Q' hQ=>?_) (fun H6 e c1 c2=>?_) (fun H6 e _=>R _ _ ⟨rfl,e⟩)
      ·exact⟨_,rfl,p2,_,_,_,rfl,rfl,SqL.of e2',a0,rfl,_,rfl,hQ _ rfl⟩
      ·subst e
       exact⟨_,rfl,_,_,rfl,rfl,_,rfl,hQ⟩
      ·subst e
       have c2:1 < (n:Int):=of_decide_eq_true c2
       have w1:0<=((one:Int)+1+d4 % ((n:Int) - 1)) % (n:Int):=Wg _ (by lia)
       have w2:((one:Int)+1+d4 % ((n:Int) - 1)) % (n:Int) < (n:Int):=V5 _ (by lia)
       obtain⟨j,hj⟩:=Xx w1
       have hjo:=MK hone (Wg _ (by lia)) (V5 _ (by lia)) hj
       refine⟨_,rfl,_,_,rfl,rfl,_,rfl,p2,_,_,_,rfl,rfl,SqL.of e2',a4,_,rfl,_,_,rfl,rfl,_,_,rfl,rfl,(by show (0:Int) < (n:Int) - 1; lia),_,_,rfl,rfl,_,rfl,_,_,rfl,rfl,(by show (0:Int) < (n:Int); lia),?_⟩
       refine gN ?_
       have es:(fun i j:Int=>V.int (i % j)) ((one:Int)+1+d4 % ((n:Int) - 1)) (n:Int)=V.int (j:Int):=by
        show V.int (((one:Int)+1+d4 % ((n:Int) - 1)) % (n:Int))=_
        rw[hj]
       refine⟨_,rfl,l,rfl,⟨_,SqL.of e5⟩,fun D hD=>gY (K:=K) (a:=l) (xs:=ms.map V.int) (fun i zs σ' H7=>(∃ u,σ'=[u,some (.int (j:Int))])/\aZ H5 H7/\H7 D=some (.lst zs) ∧
        d8 n H7 zs ((ms.take i).map fun st=>(st,Tm.gives j (if st - 1 > 1 then st - 1 else 1)))) ⟨⟨none,?_⟩,aC hD _,aq,.nil⟩ (fun i zs σ' H7 _ h=>⟨SqL.of (h.2.1 _ _ e5),h.2.2.1⟩) ?_ ?_⟩
       ·rw[← es]
        rfl
       ·rintro i zs x σ' H7 hx ⟨⟨u,rfl⟩,s7,er,rp⟩
        obtain⟨st,hst,rfl⟩:=int_at hx
        have hb:=okm.2.2.2 st (Wd hst)
        have lv:=rp.length
        rw[Vb,Vz] at lv
        refine gT ?_
        refine⟨_,rfl,_,rfl,_,rfl,_,_,rfl,rfl,_,_,rfl,small (by show 3<=1000; decide),fun pa ha=>?_⟩
        generalize eHa:upd H7 pa _=Ha
        obtain⟨ga,ea⟩:=aP eHa ha
        refine⟨small (by show 2<=1000; decide),fun pb hb'=>?_⟩
        generalize eHb:upd Ha pb _=Hb
        obtain⟨gb,eb⟩:=aP eHb hb'
        have s7b:aZ H7 Hb:=ga.trans gb
        have tk:=cj (zs':=zs++[.ref pb]) (s7b _ _ er)
        refine⟨s7b _ _ er,aJ (by lia),⟨_,rfl⟩,aQ (s7.trans s7b) hD _,aq,?_⟩
        rw[take_snoc (fun st=>(st,Tm.gives j (if st - 1 > 1 then st - 1 else 1))) hst]
        exact d8.snoc (tk _ _ eb) (.gives (tk _ _ (gb _ _ ea)) (by lia) (by split <;> lia) (by split <;> lia)) ((rp.aV fun a xs q=>s7b a _ q).aV tk)
       ·rintro zs σ' H7 ⟨_,s7,er,rp⟩
        rw[Vb,Vw] at rp
        refine⟨D,_,rfl,.inl ⟨SqL.of er,fun pa ha=>?_⟩⟩
        have sn:=aC ha (.tup zs)
        refine q pa _ _ (sH5.trans (s7.trans sn)) ⟨G6 okm ?_ ?_,zs,aq,rp.aV fun a xs q=>sn a _ q⟩ (fun x hx=>by obtain⟨st,hs,rfl⟩:=List.mem_map.mp hx; exact okM st hs) fun x hx=>by obtain⟨st,_,rfl⟩:=List.mem_map.mp hx; simp only[nn]; exact decide_eq_true hjo
        ·rw[YM]
         exact List.map_id' ms
        ·intro x hx
         obtain⟨st,_,rfl⟩:=List.mem_map.mp hx
         show (1:Nat)<=4
         decide
    ·refine uv (decide (V.int d0=V.int 6)) (decide (1 < (n:Int))) (fun H6=>H5=H6) (fun Q' hQ=>?_) (fun H6 e Q' hQ=>?_) (fun H6 e c1 c2=>?_) (fun H6 e _=>R _ _ ⟨rfl,e⟩)
     ·exact⟨_,rfl,p2,_,_,_,rfl,rfl,SqL.of e2',a0,rfl,_,rfl,hQ _ rfl⟩
     ·subst e
      exact⟨_,rfl,_,_,rfl,rfl,_,rfl,hQ⟩
     ·subst e
      have w1:0<=((one:Int)+1) % (n:Int):=Wg _ (by lia)
      have w2:((one:Int)+1) % (n:Int) < (n:Int):=V5 _ (by lia)
      obtain⟨j,hj⟩:=Xx w1
      have hjo:=MK (d:=0) hone (by decide) (by have:=of_decide_eq_true c2; lia) (by rw[Int.add_zero]; exact hj)
      refine⟨_,rfl,l,rfl,⟨_,SqL.of e5⟩,fun D hD=>gY (K:=K) (a:=l) (xs:=ms.map V.int) (fun i zs σ' H7=>(∃ u,σ'=[u,some (.int (n:Int)),some (.int (one:Int))])/\aZ H5 H7/\H7 D=some (.lst zs) ∧
       d8 n H7 zs ((ms.take i).map fun st=>(st,Tm.gives j st))) ⟨⟨_,rfl⟩,aC hD _,aq,.nil⟩ (fun i zs σ' H7 _ h=>⟨SqL.of (h.2.1 _ _ e5),h.2.2.1⟩) ?_ ?_⟩
      ·rintro i zs x σ' H7 hx ⟨⟨u,rfl⟩,s7,er,rp⟩
       obtain⟨st,hst,rfl⟩:=int_at hx
       have hb:=okm.2.2.2 st (Wd hst)
       have lv:=rp.length
       rw[Vb,Vz] at lv
       refine gT ?_
       refine⟨_,rfl,_,rfl,_,_,rfl,rfl,_,rfl,_,_,rfl,rfl,(by show (0:Int) < (n:Int); lia),_,rfl,small (by show 3<=1000; decide),fun pa ha=>?_⟩
       generalize eHa:upd H7 pa _=Ha
       obtain⟨ga,ea⟩:=aP eHa ha
       have ea:Ha pa=some (.tup [.str "gives",vN j,.int st]):=by
        rw[ea]
        show some (HO.tup [V.str "gives",V.int (((one:Int)+1) % (n:Int)),V.int st])=some (HO.tup [V.str "gives",V.int (j:Int),V.int st])
        rw[hj]
       refine⟨small (by show 2<=1000; decide),fun pb hb'=>?_⟩
       generalize eHb:upd Ha pb _=Hb
       obtain⟨gb,eb⟩:=aP eHb hb'
       have s7b:aZ H7 Hb:=ga.trans gb
       have tk:=cj (zs':=zs++[.ref pb]) (s7b _ _ er)
       refine⟨s7b _ _ er,aJ (by lia),⟨_,rfl⟩,aQ (s7.trans s7b) hD _,aq,?_⟩
       rw[take_snoc (fun st=>(st,Tm.gives j st)) hst]
       exact d8.snoc (tk _ _ eb) (.gives (tk _ _ (gb _ _ ea)) (by lia) (by lia) (by lia)) ((rp.aV fun a xs q=>s7b a _ q).aV tk)
      ·rintro zs σ' H7 ⟨_,s7,er,rp⟩
       rw[Vb,Vw] at rp
       refine⟨D,_,rfl,.inl ⟨SqL.of er,fun pa ha=>?_⟩⟩
       have sn:=aC ha (.tup zs)
       refine q pa _ _ (sH5.trans (s7.trans sn)) ⟨G6 okm ?_ ?_,zs,aq,rp.aV fun a xs q=>sn a _ q⟩ (fun x hx=>by obtain⟨st,hs,rfl⟩:=List.mem_map.mp hx; exact okM st hs) fun x hx=>by obtain⟨st,_,rfl⟩:=List.mem_map.mp hx; simp only[nn]; exact decide_eq_true hjo
       ·rw[YM]
        exact List.map_id' ms
       ·intro x hx
        obtain⟨st,_,rfl⟩:=List.mem_map.mp hx
        show (1:Nat)<=4
        decide
   ·refine⟨_,rfl,p2,_,_,_,rfl,rfl,SqL.of (s4 _ _ e2),a0,rfl,_,rfl,?_⟩
    refine xx (fun _=>?_) (fun _=>R _ _ ⟨l,ms,rfl,s4,e4,okm,okM⟩)
    refine⟨_,rfl,p2,_,_,_,rfl,rfl,SqL.of (s4 _ _ e2),a5,_,rfl,d5,mo,rfl,by lia,fun cs r3 H5 hc hp hl5 s5 f5 e5=>?_⟩
    refine⟨r3,rfl,⟨_,SqT.of e5⟩,fun D5 hD5=>cT (K:=K) (a:=r3) (xs:=cs.map vN) (fun i zs σ' H6=>(∃ u,σ'=[u])/\zs=((cs.take i).map fun j:Nat=>(1:Int)+(j:Int)).map V.int/\aZ H5 H6/\H6 D5=some (.lst zs))
     ⟨⟨_,rfl⟩,rfl,aC hD5 _,aq⟩ (fun i zs σ' H6 _ h=>⟨SqT.of (h.2.2.1 _ _ e5),h.2.2.2⟩) ?_ ?_⟩
    ·rintro i zs x σ' H6 hx ⟨⟨u,rfl⟩,e6,s6,eD6⟩
     obtain⟨j,hj,rfl⟩:=ug hx
     refine gT ?_
     refine⟨_,rfl,_,_,rfl,rfl,eD6,?_,⟨_,rfl⟩,?_,aQ s6 hD5 _,aq⟩
     ·rw[e6,Vb,Vb,Vz]
      exact aJ (by lia)
     ·rw[e6,take_snoc (fun j:Nat=>(1:Int)+(j:Int)) hj,Vl]
      rfl
    ·rintro zs σ' H6 ⟨_,e6,s6,eD6⟩
     rw[Vb,Vw] at e6
     rw[e6] at eD6
     have s46:aZ H2 H6:=s4.trans (s5.trans s6)
     refine⟨_,rfl,small (by show 0<=1000; decide),fun p7 h7=>?_⟩
     have g7:aZ H6 (upd H6 p7 (.lst [])):=aC h7 _
     refine⟨D5,p7,_,rfl,rfl,SqL.of (g7 _ _ eD6),SqL.of aq,_,rfl,?_⟩
     refine xx (fun ce=>?_) (fun ce=>?_)
     ·refine⟨_,rfl,small (by show 1<=1000; decide),fun p8 h8=>?_⟩
      refine R _ _ ⟨p8,[(mo:Int)],rfl,s46.trans (g7.trans (aC h8 _)),aq,⟨by simp,by show 1<=9; decide,by simp,?_⟩,fun x hx=>by rw[List.mem_singleton.mp hx]; exact WY _⟩
      intro x hx
      rw[List.mem_singleton.mp hx]
      lia
     ·refine R _ _ ⟨D5,cs.map fun j:Nat=>(1:Int)+(j:Int),rfl,s46.trans g7,g7 _ _ eD6,⟨?_,?_,?_,?_⟩,fun x hx=>by obtain⟨j,hj,rfl⟩:=List.mem_map.mp hx; have:=hc j hj; lia⟩
      ·intro z
       apply ce
       rw[z]
       rfl
      ·rw[Vb]
       lia
      ·rw[ZM]
       exact hp.imp fun h=>by lia
      ·intro x hx
       obtain⟨j,hj,rfl⟩:=List.mem_map.mp hx
       have:=hc j hj
       lia
theorem sE:∀ {c:List Nat} {m n:Nat},c.Pairwise (· < ·)->(∀ i∈c,m<=i/\i < n)->c.length<=n - m
 | [],m,n,_,_=>VL _
 | a::c,m,n,hp,h=>by
  rw[W6] at hp
  have h1:=h a Vj
  have:=sE (c:=c) (m:=a+1) (n:=n) hp.2 fun i hi=>⟨hp.1 i hi,(h i (Vp _ hi)).2⟩
  rw[Vr]
  lia
def iN (c:List Nat):List Int:=c.map fun i:Nat=>(i:Int)
theorem uY (x:Nat):∀ c:List Nat,inV (.int (x:Int)) (c.map vN)=decide (x∈c)
 | []=>rfl
 | y::c=>by
  have ih:=uY x c
  unfold inV at ih ⊢
  rw[Wa,Z1,ih]
  by_cases e:x=y
  ·subst e
   rw[decide_eq_true Vj]
   simp [vN,eqV]
  ·have:eqV (vN y) (.int (x:Int))=false:=by
    simp [vN,eqV]
    lia
   rw[this,aaG]
   exact decide_eq_decide.mpr (by simp [e])
theorem vQ (c:List Nat):(c.map vN).all qX=true:=by
 rw[abO,ab6]
 intro x _
 rfl
def lfF (gs hs:List Int) (c:List Nat):List Int:=(VD gs.length).map fun i=>if i∈c then hs.getD i 0 else gs.getD i 0
abbrev uR:Stmt:=top 14
theorem FQ:aO ["giving","high","crowd"] ["giving","high","crowd"] (aD uR):=⟨rfl,rfl,rfl,by decide+kernel,rfl,by decide+kernel,by decide+kernel⟩
inductive FP (vs:List V) (H:Hp) (Q:VK):Prop where
 | mk (a b d:Addr) (gs hs:List Int) (c:List Nat) (z0:vs=[.ref a,.ref b,.ref d]) (z1:H a=some (.tup (gs.map V.int))) (z2:H b=some (.tup (hs.map V.int))) (z3:H d=some (.lst (c.map vN))) (z4:gs.length=hs.length) (z5:gs.length<=100) (z6:∀ (r:Addr) (H':Hp),aZ H H'->H' r=some (.tup ((lfF gs hs c).map V.int))->Q (.ref r) H'):FP  vs H Q
def Mm:Sp:=fun vs H Q _=>FP  vs H Q
theorem Ge (F:Fun K "lifted" "lifted" uR f fd) (B:Bt mg) :
  cG P w K mg base CX0 1 f fd ["giving","high","crowd"] Mm:=by
 refine F.ok FQ (fun vs H Q E h=>?_) (fun cdv A outer s H vs Q E hr h=>?_)
 ·obtain⟨a,b,d,gs,hs,c,rfl,_⟩:=h
  rfl
 ·obtain⟨a,b,d,gs,hs,c,rfl,ha,hb,hd,hl,l100,q⟩:=h
  refine⟨_,(aB (aG (bH (r:=eX K) bF rfl B.tuple_ bK (aa (bQ (L:=["one","step"]) (F:=["crowd","high"]) (cap:=[2,1]) rfl (bJ rfl rfl (by kernel_rfl)) (Av rfl B.enumerate_ (aa (pv 0) aj)) (fun _ _ _ _ _=>(dM (K:=K) 2 rfl rfl (bB (aK (i:=0) (bA (by decide+kernel)) rfl (Vv rfl)) (bB (aK (i:=1) (bA (by decide+kernel)) rfl (Vv rfl)) dI)))) (fun _ _ _ _ _=>bV) (fun _ _ _ _ _=>(Ak (aL (r:=rIn K false) jA (pv 0) (pv 2) rfl) (bw (r:=fZ K) bD (pv 3) (pv 0) (fun _ _=>rfl)) (pv 1)))) aj)))),?_⟩
  refine⟨_,rfl,a,_,rfl,SqT.of ha,fun D hD=>rQ (K:=K) (a:=a) (xs:=gs.map V.int) (fun i zs σ' H3=>(∃ u v,σ'=[u,v,some (.ref d),some (.ref b)])/\aZ H H3/\H3 D=some (.lst zs)/\zs=((VD i).map fun j=>if j∈c then hs.getD j 0 else gs.getD j 0).map V.int)
   ⟨⟨_,_,rfl⟩,aC hD _,aq,rfl⟩ (fun i zs σ' H3 _ h=>⟨SqT.of (h.2.1 _ _ ha),h.2.2.1⟩) ?_ ?_⟩
  ·rintro i zs x p σ' H3 hx hp ⟨⟨u,v,rfl⟩,sm,eD,rfl⟩
   obtain⟨y,hy,rfl⟩:=int_at hx
   have hin:=(List.getElem?_eq_some_iff.mp hy).1
   generalize eH4:upd H3 p _=H4
   obtain⟨g4,e4⟩:=aP eH4 hp
   have s4:aZ H H4:=sm.trans g4
   refine⟨p,_,rfl,SqT.of e4,rfl,_,_,rfl,_,_,rfl,rfl,?_⟩
   refine tT ?_
   have gy:gs.getD i 0=y:=by rw[Vi,hy]; rfl
   have hih:i < hs.length:=by lia
   have gi:hs.getD i 0=hs[i]:=by rw[Vi,Vf hih]; rfl
   refine⟨_,rfl,_,rfl,d,_,rfl,.inl (SqL.of (s4 _ _ hd)),rfl,vQ c,_,rfl,?_⟩
   have nx:∀ z:Int,z=(if i∈c then hs.getD i 0 else gs.getD i 0)->((VD (i+1)).map fun j=>if j∈c then hs.getD j 0 else gs.getD j 0).map V.int=((VD i).map fun j=>if j∈c then hs.getD j 0 else gs.getD j 0).map V.int++[.int z]:=fun z ez=>by
    rw[ez,YT,Vl,Vl]
    rfl
   have ln:(((VD i).map fun j=>if j∈c then hs.getD j 0 else gs.getD j 0).map V.int).length < sizeLine:=aJ (by rw[Vb,Vb,VP]; lia)
   rw[uY]
   by_cases e:i∈c
   ·rw[decide_eq_true e]
    refine fX ⟨_,rfl,_,rfl,b,_,_,_,rfl,rfl,SqT.of (s4 _ _ hb),v8 hih,g4 _ _ eD,ln,⟨_,_,rfl⟩,aQ s4 hD _,aq,?_⟩
    exact (nx _ (by rw[if_pos e,gi])).symm
   ·rw[decide_eq_false e]
    refine cX ⟨_,rfl,g4 _ _ eD,ln,⟨_,_,rfl⟩,aQ s4 hD _,aq,?_⟩
    exact (nx _ (by rw[if_neg e,gy])).symm
  ·rintro zs σ' H3 ⟨_,sm,eD,rfl⟩
   refine⟨D,_,rfl,.inl ⟨SqL.of eD,fun l hl'=>?_⟩⟩
   refine q l _ (sm.trans (aC hl' _)) ?_
   rw[aq,Vb]
   rfl
theorem aH {t u:TS} {D:Ends} {σ:St} {H:Hp} (P:St->Hp->Prop) (h2:∀ σ H,P σ H->u D σ H) (h1:∀ N:St->Hp->Prop,(∀ σ H,P σ H->N σ H)->t { D with nx:=N } σ H):J0 t u D σ H:=h1 (u D) h2
theorem Lr (z:Int) (n:Nat):(Vn n [V.int z]).flatten=(Vn n z).map V.int:=by
 induction n with
 | zero=>rfl
 | succ n ih=>rw[XM,ZP,ih,XM]; rfl
abbrev j0:Stmt:=top 75
theorem vI:aO ["_law_cell_here","_law_many"] ["_law_cell_here","_law_many"] (aD j0):=⟨rfl,rfl,rfl,by decide+kernel,rfl,by decide+kernel,by decide+kernel⟩
inductive Bq (vs:List V) (H:Hp) (Q:VK):Prop where
 | mk (c:Int) (m:Nat) (z0:vs=[.int c,.int (m:Int)]) (z1:m<=100) (z2:∀ (r:Addr) (ns:List Int) (H':Hp),aZ H H'->H r=none->ns.length=m->(∀ x∈ns,0<=x)->H' r=some (.lst (ns.map V.int))->Q (.ref r) H'):Bq  vs H Q
def Fz:Sp:=fun vs H Q _=>Bq  vs H Q
theorem wA (F:Fun K "_law_picks" "_law_picks" j0 f fd) (B:Bt mg)
  (D_law_draws:Df P w K mg base "_law_draws" 1 ["_law_cell_here","_law_parts"] (qw K)):cG P w K mg base CX0 2 f fd ["_law_cell_here","_law_many"] Fz:=by
 refine F.ok vI (fun vs H Q E h=>?_) (fun cdv A outer s H vs Q E hr h=>?_)
 ·obtain⟨c,m,rfl,_⟩:=h
  rfl
 ·obtain⟨c,m,rfl,hm,q⟩:=h
  refine⟨_,(au (bG (aL xG (aF kY rfl B.abs_ wZ (aa (pv 0) aj)) (bf pD aA aA) (aU _)) (aB (aG (aX D_law_draws hr (aa (pv 0) (aa (bf R8 (bR (aa aA aj)) (pv 1)) aj))))) aR)
 (aB (aG (bQ (L:=["_law_k"]) (F:=["_law_cell_here"]) (cap:=[0]) rfl (bJ rfl rfl (by kernel_rfl)) (dW rfl B.range_ (aa (pv 1) aj)) (fun _ _ _ _ _=>(aK (i:=0) (bA (by decide+kernel)) rfl (Vv rfl))) (fun _ _ _ _ _=>bV) (fun _ _ _ _ _=>(bw (r:=iy K) bC (aX D_law_draws hr (aa (bf bW (pv 1) (bf jw aA (pv 0))) (aa (bR (aa aA aj)) aj))) aA (fun _ _=>rfl))))))),?_⟩
  have em:((m:Int)).toNat=m:=V8 m
  refine⟨_,rfl,_,rfl,_,_,rfl,rfl,⟨by decide,by decide,by decide⟩,_,_,rfl,rfl,_,rfl,?_⟩
  refine xx (fun h=>?_) (fun h=>?_)
  ·refine⟨_,rfl,small (by show 1<=1000; decide),fun p1 h1=>?_⟩
   generalize eH1:upd H p1 _=H1
   obtain⟨g1,e1⟩:=aP eH1 h1
   refine⟨_,rfl,p1,_,_,rfl,rfl,e1,by lia,by lia,small (by show 1 * ((m:Int)).toNat<=1000; lia),fun p2 h2=>?_⟩
   rw[Lr,em]
   generalize eH2:upd H1 p2 _=H2
   obtain⟨g2,e2⟩:=aP eH2 h2
   refine⟨c,p2,Vn m 27720,rfl,SqL.of e2,fun x hx=>by rw[(List.mem_replicate.mp hx).2]; decide,by rw[VR]; lia,fun r h3=>?_⟩
   have s12:aZ H H2:=g1.trans g2
   refine q r _ _ (s12.trans (aC h3 _)) (s12.free h3) ?_ ?_ aq
   ·unfold FT
    rw[fV,VR]
   ·intro x hx
    obtain⟨i,hi,rfl⟩:=Yx hx
    unfold FT at hi ⊢
    have hi':i < m:=by rw[fV,VR] at hi; exact hi
    obtain⟨v,e,b0,_⟩:=cu (c:=ni c) (i:=i) (ps:=Vn m 27720) (p:=27720) (fun x hx=>by rw[(List.mem_replicate.mp hx).2]; decide) (by rw[X7,if_pos hi'])
    rw[Vf hi] at e
    rw[Wn e]
    exact b0
  ·refine nN ?_
   dsimp only
   refine⟨_,rfl,_,rfl,by lia,by lia,fun D hD=>eQ (lo:=0) (n:=((m:Int)).toNat) (fun i zs σ' H2=>(∃ u,σ'=[u,some (.int c)])/\aZ H H2/\H2 D=some (.lst zs)/\∃ ns:List Int,zs=ns.map V.int/\ns.length=i/\∀ x∈ns,0<=x)
    ⟨⟨_,rfl⟩,aC hD _,aq,[],rfl,rfl,by simp⟩ (fun i zs σ' H2 _ h=>h.2.2.1) ?_ ?_⟩
   ·rintro i zs σ' H2 hi ⟨⟨u,rfl⟩,sm,eD,ns,ez,ln,hns⟩
    refine gT ?_
    refine⟨_,rfl,_,rfl,_,_,rfl,rfl,.inl ⟨by decide,by decide⟩,_,_,rfl,rfl,small (by show 1<=1000; decide),fun p1 h1=>?_⟩
    generalize eH3:upd H2 p1 _=H3
    obtain⟨g3,e3⟩:=aP eH3 h1
    refine⟨_,p1,[27720],rfl,SqL.of e3,by decide,by decide,fun r h4=>?_⟩
    generalize eH4:upd H3 r _=H4
    obtain⟨g4,e4⟩:=aP eH4 h4
    obtain⟨d0,k0,b0⟩:=cu (c:=ni (c+101 * (0+(i:Int)))) (i:=0) (ps:=[27720]) (by decide) rfl
    have a0:=aM (d7 k0)
    have s24:aZ H2 H4:=g3.trans g4
    refine⟨r,_,_,_,rfl,rfl,SqL.of e4,a0,s24 _ _ eD,aJ (by rw[ez,Vb]; lia),⟨_,rfl⟩,aQ (sm.trans s24) hD _,aq,ns++[d0],?_,?_,?_⟩
    ·rw[ez,Vl]
     rfl
    ·rw[Ve,ln]
     rfl
    ·intro x hx
     rcases List.mem_append.mp hx with z | z
     ·exact hns x z
     ·rw[List.mem_singleton.mp z]
      exact b0.1
   ·rintro zs σ' H2 ⟨_,sm,eD,ns,ez,ln,hns⟩
    exact q D ns H2 sm hD (by lia) hns (by rw[eD,ez])
abbrev kj:Stmt:=top 78
theorem gB:aO ["_law_cell_here","_law_many","_law_rest","_law_found","_law_pick"] ["_law_cell_here","_law_many"] (aD kj):=⟨rfl,rfl,rfl,by decide+kernel,rfl,by decide+kernel,by decide+kernel⟩
inductive Aq (vs:List V) (H:Hp) (Q:VK):Prop where
 | mk (c:Int) (n:Nat) (z0:vs=[.int c,.int (n:Int)]) (z1:1<=n) (z2:n<=20) (z3:∀ (r:Addr) (rs:List Nat) (H':Hp),aZ H H'->H r=none->rs.Perm (VD n)->H' r=some (.lst (rs.map vN))->Q (.ref r) H'):Aq  vs H Q
def Jq:Sp:=fun vs H Q _=>Aq  vs H Q
theorem J8 {l:Addr} {xs:List V} {k:Nat} {y:V} {H:Hp} {Q:VK} (hl:H l=some (.lst xs)) (hk:k < xs.length) (h5:xs.length<=100) (hy:xs[k]? = some y) (q:Q y (upd H l (.lst (xs.eraseIdx k)))):Nj (.ref l) [.int (k:Int)] H Q:=by
 refine⟨l,xs,(k:Int),k,y,rfl,rfl,hl,by lia,by lia,?_,hy,q⟩
 have hj:(if (k:Int) < 0 then (k:Int)+(xs.length:Int) else (k:Int))=(k:Int):=if_neg (by lia)
 have hd:((decide (0<=(k:Int)) && decide ((k:Int) < (xs.length:Int)))=true):=by
  rw[decide_eq_true (by lia),decide_eq_true (by lia)]
  rfl
 show (if (decide (0<=if (k:Int) < 0 then (k:Int)+(xs.length:Int) else (k:Int)) && decide ((if (k:Int) < 0 then (k:Int)+(xs.length:Int) else (k:Int)) < (xs.length:Int)))=true then some (if (k:Int) < 0 then (k:Int)+(xs.length:Int) else (k:Int)).toNat else none)=some k
 rw[hj,if_pos hd,V8]
theorem v9 {α β:Type} (f:α->β):∀ (xs:List α) (k:Nat),(xs.map f).eraseIdx k=(xs.eraseIdx k).map f
 | [],_=>rfl
 | _::_,0=>rfl
 | x::r,k+1=>by
  show f x::(r.map f).eraseIdx k=f x::(r.eraseIdx k).map f
  rw[v9 f r k]
theorem lX {α:Type}:∀ {xs:List α} {k:Nat} {y:α},xs[k]? = some y->(y::xs.eraseIdx k).Perm xs
 | [],_,_,h=>by simp at h
 | x::r,0,y,h=>by
  cases (show some x=some y from h)
  exact .refl _
 | x::r,k+1,y,h=>by
  have ih:=lX (xs:=r) (k:=k) (y:=y) (by simpa using h)
  exact (List.Perm.swap x y (r.eraseIdx k)).trans (ih.cons x)
theorem wD (F:Fun K "_law_order" "_law_order" kj f fd) (B:Bt mg)
  (D_law_picks:Df P w K mg base "_law_picks" 2 ["_law_cell_here","_law_many"] Fz):cG P w K mg base CX0 3 f fd ["_law_cell_here","_law_many"] Jq:=by
 refine F.ok gB (fun vs H Q E h=>?_) (fun cdv A outer s H vs Q E hr h=>?_)
 ·obtain⟨c,n,rfl,_⟩:=h
  rfl
 ·obtain⟨c,n,rfl,n1,n12,q⟩:=h
  refine⟨_,(au (aW (i:=2) gB.nd rfl (Vv rfl) (wH rfl rfl B.list_ rfl B.range_ (aa (pv 1) aj)))
 (au (aW (i:=3) gB.nd rfl (Vv rfl) (bR aj))
 (au (eZ Wf rfl (fQ (aX D_law_picks hr (aa (pv 0) (aa (pv 1) aj)))) (aK (i:=4) gB.nd rfl (Vv rfl)) (aB (bO (o4 Wr WR WQ cH (pv 3) (aa (o4 Wr PySem.F.slot_list_pop PySem.F.type_list_pop Kc (pv 2) (aa (bf cW (pv 4) (aF (r:=lR K) bx rfl B.len_ cI (aa (pv 2) aj))) aj)) aj)))))
 (aB (aG (pv 3)))))),?_⟩
  refine⟨_,rfl,n,rfl,by lia,fun l h0=>?_⟩
  rw[← fK]
  generalize eH1:upd H l _=H1
  obtain⟨g1,e1⟩:=aP eH1 h0
  refine⟨small (by show 0<=1000; decide),fun r h2=>?_⟩
  generalize eH2:upd H1 r _=H2
  obtain⟨g2,e2⟩:=aP eH2 h2
  have hrl:r≠l:=fun z=>by rw[z,e1] at h2; cases h2
  refine⟨_,rfl,_,rfl,c,n,rfl,by lia,fun pp ns H3 s3 fpp ln hns epp=>?_⟩
  have e13:=s3 _ _ (g2 _ _ e1)
  have e23:=s3 _ _ e2
  have hpr:pp≠r:=fun z=>by rw[z,e2] at fpp; cases fpp
  have hpl:pp≠l:=fun z=>by rw[z,g2 _ _ e1] at fpp; cases fpp
  refine⟨pp,rfl,⟨_,SqL.of epp⟩,iU (K:=K) (a:=pp) (xs:=ns.map V.int) (fun i σ H4=>∃ (fs ms:List Nat),(∃ u,σ=[some (.int c),some (.int (n:Int)),some (.ref l),some (.ref r),u])/\aZ H H4/\H4 pp=some (.lst (ns.map V.int))/\H4 l=some (.lst (ms.map vN))/\H4 r=some (.lst (fs.map vN))/\(fs++ms).Perm (VD n)/\ms.length+i=n)
   ⟨[],VD n,⟨_,rfl⟩,g1.trans (g2.trans s3),epp,e13,e23,.refl _,by rw[VP]; rfl⟩ (fun i σ H4 _ h=>by obtain⟨_,_,_,_,z,_⟩:=h; exact SqL.of z) ?_ ?_⟩
  ·rintro i x σ H4 hx ⟨fs,ms,⟨u,rfl⟩,s4,ep4,el4,er4,pm,lm⟩
   obtain⟨pk,hpk,rfl⟩:=int_at hx
   have hi:i < ns.length:=(List.getElem?_eq_some_iff.mp hpk).1
   have lml:((ms.map vN).length:Int)=(ms.length:Int):=by rw[Vb]
   have hms:0 < ms.length:=by lia
   have v1:0<=pk % ((ms.map vN).length:Int):=Wg _ (by lia)
   have v2:pk % ((ms.map vN).length:Int) < ((ms.map vN).length:Int):=V5 _ (by lia)
   obtain⟨k,hk⟩:=Xx v1
   have hkm:k < ms.length:=by lia
   obtain⟨y,hy⟩:∃ y,ms[k]? = some y:=⟨_,Vf hkm⟩
   have hfl:fs.length+ms.length=n:=by
    have:=pm.length_eq
    rw[Ve,VP] at this
    exact this
   refine⟨_,rfl,.inl ⟨rfl,_,SqL.of er4⟩,_,rfl,.inl ⟨rfl,_,SqL.of el4⟩,_,rfl,_,rfl,l,_,rfl,.inl (SqL.of el4),_,_,rfl,rfl,(by show (0:Int) < ((ms.map vN).length:Int); lia),?_⟩
   dsimp only
   rw[hk]
   unfold CT
   dsimp only
   refine J8 el4 (by rw[Vb]; exact hkm) (by rw[Vb]; lia) (y:=vN y) (by rw[VF,hy]; rfl) ?_
   have er5:upd H4 l (.lst ((ms.map vN).eraseIdx k)) r=some (.lst (fs.map vN)):=by rw[bh hrl]; exact er4
   refine⟨r,_,_,rfl,rfl,er5,aJ (by rw[Vb]; lia),fs++[y],ms.eraseIdx k,⟨_,rfl⟩,?_,?_,?_,?_,?_,?_⟩
   ·exact aQ (aQ s4 h0 _) (g1.free h2) _
   ·rw[bh hpr,bh hpl]
    exact ep4
   ·rw[bh (Yv hrl),aq,v9]
   ·rw[aq,Vl]
    rfl
   ·rw[XJ]
    exact ((lX hy).append_left fs).trans pm
   ·have:=(lX hy).length_eq
    rw[Vr] at this
    lia
  ·rintro σ H4 ⟨fs,ms,⟨u,rfl⟩,s4,ep4,el4,er4,pm,lm⟩
   rw[Vb,ln] at lm
   have:ms=[]:=List.length_eq_zero_iff.mp (by lia)
   rw[this,WK] at pm
   exact⟨_,rfl,q r fs H4 s4 (g1.free h2) pm er4⟩
def hdF (bk:List (List Pl)) (lo g:List Int):List Int:=(VD bk.length).map fun i=>max (lo.getD i 0) (min (g.getD i 0) (duF g 0 (bk.getD i [])))
theorem sZ {bk:List (List Pl)} {lo g:List Int} {i:Nat} (h:i < bk.length):(hdF bk lo g).getD i 0=max (lo.getD i 0) (min (g.getD i 0) (duF g 0 (bk.getD i []))):=by
 unfold hdF
 rw[Vi,VF,XN h]
 rfl
theorem ir (bk:List (List Pl)) (lo g:List Int):(hdF bk lo g).length=bk.length:=by unfold hdF; rw[Vb,VP]
def Low (n:Nat) (fl:List Int) (bk:List (List Pl)) (lo:List Int):Prop:=okG n lo/\fD lo fl bk=lo/\∀ g,LeG (fD g fl bk) g->LeG lo g
def InS (n:Nat) (fl:List Int) (bk:List (List Pl)) (lo:List Int) (c:List Nat) (g:List Int):Prop:=okG n g/\(∀ i < n,i ∉ c->g.getD i 0=lo.getD i 0)/\LeG lo g/\LeG g (fD g fl bk)
def Lb (n:Nat) (fl:List Int) (bk:List (List Pl)) (lo:List Int) (c:List Nat) (g:List Int):Prop:=InS n fl bk lo c g/\∀ w,InS n fl bk lo c w->LeG w g
section
variable {n:Nat} {fl:List Int} {bk:List (List Pl)}
theorem iG (g:List Int):LeG g g:=fun i=>WY _
theorem Low.uniq {lo lo':List Int} (h:Low n fl bk lo) (h':Low n fl bk lo'):lo=lo' :=
 fG (by rw[h.1.1,h'.1.1]) (h.2.2 _ (by rw[h'.2.1]; exact iG _)) (h'.2.2 _ (by rw[h.2.1]; exact iG _))
theorem Lb.uniq {lo:List Int} {c:List Nat} {g g':List Int} (h:Lb n fl bk lo c g) (h':Lb n fl bk lo c g'):g=g' :=
 fG (by rw[h.1.1.1,h'.1.1.1]) (h'.2 _ h.1) (h.2 _ h'.1)
theorem nq (hb:bk.length=n) (ok:okB bk) (hf:okG n fl) {m:Nat} (st:Stops (Fd fl bk) fl m):Low n fl bk (itF (Fd fl bk) fl m) :=
 ⟨gF hb ok hf hf m,st.1,fun _ h=>wY hb ok hf h m⟩
theorem Jt (hb:bk.length=n) (ok:okB bk) (hf:okG n fl) {lo:List Int} (h:Low n fl bk lo):LeG fl lo:=by
 have:=qO hb ok hf lo
 rw[h.2.1] at this
 exact this
theorem pH (hb:bk.length=n) (ok:okB bk) {g g':List Int} (l:LeG g g') {i:Nat} (hi:i < n):duF g 0 (bk.getD i [])<=duF g' 0 (bk.getD i []):=by
 have h2:i < bk.length:=by lia
 rw[Sy h2]
 exact zQ l (ok bk[i] (Xw h2)) (WY _)
theorem Nf (hb:bk.length=n) {lo g:List Int} (hl:okG n lo) (hg:okG n g) (l:LeG lo g):okG n (hdF bk lo g):=by
 refine Aj (by rw[ir]; exact hb) fun i hi=>?_
 rw[sZ (by lia)]
 have:=fH hl hi
 have:=fH hg hi
 have:=l i
 lia
theorem QS (hb:bk.length=n) {lo g:List Int} (hl:okG n lo):LeG lo (hdF bk lo g):=by
 refine jl (by rw[ir,hl.1,hb]) fun i hi=>?_
 rw[hl.1] at hi
 rw[sZ (by lia)]
 lia
theorem Rn (hb:bk.length=n) {lo g:List Int} (hg:okG n g) (l:LeG lo g):LeG (hdF bk lo g) g:=by
 refine jl (by rw[ir,hg.1,hb]) fun i hi=>?_
 rw[ir] at hi
 rw[sZ hi]
 have:=l i
 lia
theorem BR (hb:bk.length=n) (ok:okB bk) (hf:okG n fl) {lo g w:List Int} (hlo:Low n fl bk lo) (hw:okG n w) (hk:LeG w (fD w fl bk)) (l:LeG w g):LeG w (hdF bk lo g):=by
 refine jl (by rw[ir,hw.1,hb]) fun i hi=>?_
 rw[hw.1] at hi
 rw[sZ (by lia)]
 have h1:=hk i
 rw[kE hb hf w hi] at h1
 have h2:=Jt hb ok hf hlo i
 have h3:=pH hb ok l hi
 have h4:=l i
 lia
theorem yI (hb:bk.length=n) {lo x:List Int} (hl:okG n lo) (hx:okG n x) (l:LeG lo x):∀ j,okG n (itF (hdF bk lo) x j)/\LeG lo (itF (hdF bk lo) x j)/\LeG (itF (hdF bk lo) x j) x
 | 0=>⟨hx,l,iG _⟩
 | j+1=>by
  obtain⟨h1,h2,h3⟩:=yI hb hl hx l j
  exact⟨Nf hb hl h1 h2,QS hb hl,(Rn hb h1 h2).trans h3⟩
theorem Ci (hb:bk.length=n) {lo x:List Int} (hl:okG n lo) (hx:okG n x) (l:LeG lo x):∃ m,m<=9 * n/\Stops (hdF bk lo) x m:=by
 refine uJ (fun g=>9 * (n:Int) - g.sum) (9 * n) (fun k=>?_) (fun k=>?_) fun k hk=>?_
 ·obtain⟨h1,_,_⟩:=yI hb hl hx l k
  have:=sum_bound h1.2
  rw[h1.1] at this
  lia
 ·obtain⟨h1,_,_⟩:=yI hb hl hx l k
  have:=sum_bound h1.2
  lia
 ·obtain⟨h1,h2,_⟩:=yI hb hl hx l k
  have h3:=Nf hb hl h1 h2
  have h4:=Rn hb h1 h2
  obtain⟨s1,s2⟩:=iw (g:=hdF bk lo (itF (hdF bk lo) x k)) (g':=itF (hdF bk lo) x k) (by rw[h3.1,h1.1]) fun i _=>h4 i
  have:(hdF bk lo (itF (hdF bk lo) x k)).sum≠(itF (hdF bk lo) x k).sum:=fun z=>hk (s2 z)
  show 9 * (n:Int) - (itF (hdF bk lo) x k).sum < 9 * (n:Int) - (hdF bk lo (itF (hdF bk lo) x k)).sum
  lia
theorem pN {gs hs:List Int} {c:List Nat} {i:Nat} (h:i < gs.length):(lfF gs hs c).getD i 0=if i∈c then hs.getD i 0 else gs.getD i 0:=by
 unfold lfF
 rw[Vi,VF,XN h]
 rfl
theorem mz (gs hs:List Int) (c:List Nat):(lfF gs hs c).length=gs.length:=by unfold lfF; rw[Vb,VP]
theorem Ao {gs hs:List Int} (hg:okG n gs) (hh:okG n hs) (c:List Nat):okG n (lfF gs hs c):=by
 refine Aj (by rw[mz]; exact hg.1) fun i hi=>?_
 rw[pN (by rw[hg.1]; exact hi)]
 have:=fH hg hi
 have:=fH hh hi
 split <;> lia
theorem Q6 {gs hs:List Int} (hg:okG n gs) (l:LeG gs hs) (c:List Nat):LeG gs (lfF gs hs c):=by
 refine jl (by rw[mz]) fun i hi=>?_
 rw[pN hi]
 have:=l i
 split <;> lia
theorem Ls (hb:bk.length=n) (ok:okB bk) (hf:okG n fl) {lo hi:List Int} (hlo:Low n fl bk lo) (hh:okG n hi) (l:LeG lo hi) (hup:∀ w,okG n w->LeG w (fD w fl bk)->LeG w hi) {c:List Nat} {m:Nat} (st:Stops (hdF bk lo) (lfF lo hi c) m):Lb n fl bk lo c (itF (hdF bk lo) (lfF lo hi c) m):=by
 obtain⟨h1,h2,h3⟩:=yI hb hlo.1 (Ao hlo.1 hh c) (Q6 hlo.1 l c) m
 have fx:=st.1
 refine⟨⟨h1,fun i hi' hc=>?_,h2,?_⟩,fun w hw=>?_⟩
 ·have a:=h2 i
  have b:=h3 i
  rw[pN (by rw[hlo.1.1]; exact hi'),if_neg hc] at b
  lia
 ·refine jl (by rw[h1.1,(iY hb ok hf _).1]) fun i hi'=>?_
  rw[h1.1] at hi'
  have e:=sZ (bk:=bk) (lo:=lo) (g:=itF (hdF bk lo) (lfF lo hi c) m) (i:=i) (by lia)
  rw[fx] at e
  rw[kE hb hf _ hi']
  have a:=kE hb hf lo hi'
  rw[hlo.2.1] at a
  have b:=pH hb ok h2 hi'
  lia
 ·have hwl:LeG w (lfF lo hi c):=by
   refine jl (by rw[mz,hw.1.1,hlo.1.1]) fun i hi'=>?_
   rw[hw.1.1] at hi'
   rw[pN (by rw[hlo.1.1]; exact hi')]
   split
   ·exact hup w hw.1 hw.2.2.2 i
   ·rename_i hc
    rw[hw.2.1 i hi' hc]
    exact WY _
  have key:∀ j,LeG w (itF (hdF bk lo) (lfF lo hi c) j):=by
   intro j
   induction j with
   | zero=>exact hwl
   | succ j ih=>exact BR hb ok hf hlo hw.1 hw.2.2.2 ih
  exact key m
end
abbrev j5:Stmt:=top 53
abbrev G9:Stmt:=top 54
theorem wj:aO ["pledges","low","step","giving"] ["pledges","low","step","giving"] (aD j5):=⟨rfl,rfl,rfl,by decide+kernel,rfl,by decide+kernel,by decide+kernel⟩
theorem qx:aO ["book","sure","giving","lesser"] ["book","sure","giving"] (aD G9):=⟨rfl,rfl,rfl,by decide+kernel,rfl,by decide+kernel,by decide+kernel⟩
theorem lC {α:Type} (u:α->Int) (st:Int):∀ (ps:List α) (a b:Int),min st b<=a->(ps.map fun p=>min st (u p)).foldl max a=max a (min st ((ps.map u).foldl max b))
 | [],a,b,h=>by
  show a=max a (min st b)
  lia
 | p::ps,a,b,h=>by
  rw[Wa,Wa,Wo,Wo,lC u st ps (max a (min st (u p))) (max b (u p)) (by lia)]
  have:=(dD (ps.map u) (max b (u p))).1
  lia
inductive Be (K:VB) (vs:List V) (H:Hp) (Q:VK):Prop where
 | mk (c g:Addr) (n:Nat) (as:List Addr) (ps:List Pl) (ns:List Int) (lo st:Int) (z0:vs=[.ref c,.int lo,.int st,.ref g]) (z1:H c=some (.lst (as.map V.ref))) (z2:as.length<=100) (z3:fY n H as ps) (z4:SqT K H g (ns.map V.int)) (z5:n<=ns.length) (z6:0<=lo) (z7:lo<=st) (z8:∀ H',aZ H H'->Q (.int (max lo (min st (duF ns 0 ps)))) H'):Be K vs H Q
def GK (K:VB):Sp:=fun vs H Q _=>Be K vs H Q
theorem wW {k:Nat} (F:Fun K "held_step" "held_step" j5 f fd) (B:Bt mg)
  (D_owes:Df P w K mg base "owes" k ["pledge","giving"] (Ai K)):cG P w K mg base CX0 (k+1) f fd ["pledges","low","step","giving"] (GK K):=by
 refine F.ok wj (fun vs H Q E h=>?_) (fun cdv A outer s H vs Q E hr h=>?_)
 ·obtain⟨c,g,n,as,ps,ns,lo,st,rfl,_⟩:=h
  rfl
 ·obtain⟨c,g,n,as,ps,ns,lo,st,rfl,hc,l100,rps,hg,hn,h0,hls,q⟩:=h
  have ell:=rps.length
  refine⟨_,(au (bG (aL cJ (pv 2) (pv 1) (aU _)) (aB (aG (pv 1))) aR)
 (aB (aG (aF (r:=JS K) (pX rfl) rfl B.max_ Cg (aa (bf Cp (bR (aa (pv 1) aj)) (bQ (L:=["pledge"]) (F:=["step","giving"]) (cap:=[2,3]) rfl (bJ rfl rfl (by kernel_rfl)) (fQ (pv 0)) (fun _ _ _ _ _=>(aK (i:=0) (bA (by decide+kernel)) rfl (Vv rfl))) (fun _ _ _ _ _=>bV) (fun _ _ _ _ _=>(aF (xK rfl) rfl B.min_ M9 (aa (pv 1) (aa (aX D_owes hr (aa (pv 0) (aa (pv 2) aj))) aj)))))) aj))))),?_⟩
  refine⟨_,rfl,_,rfl,rfl,_,rfl,?_⟩
  by_cases e:st=lo
  ·subst e
   rw[decide_eq_true rfl]
   refine fX ⟨_,rfl,?_⟩
   have:=q H (aZ.refl _)
   rw[show max st (min st (duF ns 0 ps))=st by lia] at this
   exact this
  ·rw[decide_eq_false (fun z=>e (by cases z; rfl))]
   refine cX ?_
   refine⟨_,rfl,small (by show 1<=1000; decide),fun p4 h4=>?_⟩
   generalize eH4:upd H p4 _=H4
   obtain⟨g4,e4⟩:=aP eH4 h4
   refine⟨_,rfl,c,rfl,⟨_,SqL.of (g4 _ _ hc)⟩,fun D2 hD2=>gY (K:=K) (a:=c) (xs:=as.map V.ref) (fun j ws σ' H5=>(∃ u,σ'=[u,some (.int st),some (.ref g)])/\ws=((ps.take j).map fun p=>min st (owF ns p)).map V.int/\aZ H4 H5/\H5 D2=some (.lst ws))
    ⟨⟨_,rfl⟩,rfl,aC hD2 _,aq⟩ (fun j ws σ' H5 _ h=>⟨SqL.of (h.2.2.1 _ _ (g4 _ _ hc)),h.2.2.2⟩) ?_ ?_⟩
   ·rintro j ws x σ' H5 hx ⟨⟨u,rfl⟩,e5,s5,hD5⟩
    obtain⟨a,ha,rfl⟩:=Je hx
    obtain⟨pl,hpl,rpl⟩:=rps.get ha
    refine gT ?_
    refine⟨_,rfl,_,rfl,_,rfl,a,g,n,pl,ns,rfl,rpl.mono (g4.trans s5),jO (g4.trans s5) hg,hn,fun H6 s6=>?_⟩
    refine⟨_,_,rfl,s6 _ _ hD5,?_,⟨_,rfl⟩,?_,aQ (s5.trans s6) hD2 _,aq⟩
    ·rw[e5,Vb,Vb,Vz]
     exact aJ (by lia)
    ·rw[e5,take_snoc (fun p=>min st (owF ns p)) hpl,Vl]
     congr 1
     show[V.int _]=[V.int _]
     congr 2
     split <;> lia
   ·rintro ws σ' H5 ⟨_,e5,s5,hD5⟩
    rw[Vb,ell,Vw] at e5
    subst e5
    refine⟨p4,D2,_,_,rfl,rfl,s5 _ _ e4,hD5,small ?_,fun p6 h6=>?_⟩
    ·rw[Vb,Vb]
     show 1+ps.length<=1000
     lia
    generalize eH6:upd H5 p6 _=H6
    obtain⟨g6,e6⟩:=aP eH6 h6
    refine⟨p6,lo::ps.map fun p=>min st (owF ns p),rfl,SqL.of e6,by simp,?_⟩
    have:=q H6 (g4.trans (s5.trans g6))
    rw[show max lo (min st (duF ns 0 ps))=mxD 0 (lo::ps.map fun p=>min st (owF ns p)) from (lC (owF ns) st ps lo 0 (by lia)).symm] at this
    exact this
inductive IK (vs:List V) (H:Hp) (Q:VK):Prop where
 | mk (b f g:Addr) (n:Nat) (bk:List (List Pl)) (lo x:List Int) (z0:vs=[.ref b,.ref f,.ref g]) (z1:Bh n H b bk) (z2:bk.length=n) (z3:H f=some (.tup (lo.map V.int))) (z4:okG n lo) (z5:H g=some (.tup (x.map V.int))) (z6:okG n x) (z7:LeG lo x) (z8:∀ (m:Nat) (r:Addr) (H':Hp),Stops (hdF bk lo) x m->aZ H H'->H' r=some (.tup ((itF (hdF bk lo) x m).map V.int))->Q (.ref r) H'):IK  vs H Q
def Mp:Sp:=fun vs H Q _=>IK  vs H Q
def HW (bk:List (List Pl)) (lo x:List Int) (M:Nat) (b f:Addr) (H:Hp) (m:Nat) (σ:St) (H3:Hp):Prop:=∃ (t:Nat) (la:Addr) (gv:V),t+m=M+1/\σ=[some (.ref b),some (.ref f),some gv,some (.ref la)]/\aZ H H3/\H3 la=some (.tup ((itF (hdF bk lo) x t).map V.int)) ∧
 ((t=0/\gv = .non)∨∃ (ga:Addr) (j:Nat),t=j+1/\gv = .ref ga/\H3 ga=some (.tup ((itF (hdF bk lo) x j).map V.int)))
theorem Qd {k:Nat} (F:Fun K "held" "held" G9 f fd) (B:Bt mg)
  (D_held_step:Df P w K mg base "held_step" k ["pledges","low","step","giving"] (GK K)):cG P w K mg base CX0 (k+1) f fd ["book","sure","giving"] Mp:=by
 refine F.ok qx (fun vs H Q E h=>?_) (fun cdv A outer s H vs Q E hr h=>?_)
 ·obtain⟨b,f,g,n,bk,lo,x,rfl,_⟩:=h
  rfl
 ·obtain⟨b,f,g,n,bk,lo,x,rfl,hB,lb,hf,ol,hg,ox,lx,q⟩:=h
  refine⟨_,(au (aW (i:=3) qx.nd rfl (Vv rfl) (pv 2))
 (au (aW (i:=2) qx.nd rfl (aba rfl) Qx)
 (au (uH Wf (aL (r:=HF K) (JW hr.oK) (pv 3) (pv 2) (aU _)) (au (aW (i:=2) qx.nd rfl (aba rfl) (pv 3))
 (aB (aW (i:=3) qx.nd rfl (Vv rfl) (bH (r:=eX K) bF rfl B.tuple_ bK (aa (bQ (L:=["pledges","low","step"]) (F:=["giving"]) (cap:=[2]) rfl (bJ rfl rfl (by kernel_rfl)) (T7 rfl B.zip_ (aa (pv 0) (aa (pv 1) (aa (pv 2) aj)))) (fun _ _ _ _ _=>(dM (K:=K) 3 rfl rfl (bB (aK (i:=0) (bA (by decide+kernel)) rfl (Vv rfl)) (bB (aK (i:=1) (bA (by decide+kernel)) rfl (Vv rfl)) (bB (aK (i:=2) (bA (by decide+kernel)) rfl (Vv rfl)) dI))))) (fun _ _ _ _ _=>bV) (fun _ _ _ _ _=>(aX D_held_step hr (aa (pv 0) (aa (pv 1) (aa (pv 2) (aa (pv 3) aj))))))) aj))))))
 (aB (aG (pv 2)))))),?_⟩
  obtain⟨us0,hb,rb,l12⟩:=id hB
  have el:=rb.length
  obtain⟨M,hM,st⟩:=Ci lb ol ox lx
  have io:=yI lb ol ox lx
  refine⟨_,rfl,?_⟩
  refine⟨HW bk lo x M b f H,⟨M+1,0,g,.non,by lia,rfl,aZ.refl _,hg,.inl ⟨rfl,rfl⟩⟩,?_⟩
  rintro m σ H3 ⟨t,la,gv,htm,rfl,s3,ela,hgv⟩
  obtain⟨og,olow,_⟩:=io t
  have s3b:=s3 _ _ hb
  have s3f:=s3 _ _ hf
  have key:∀ Q':VK,(1<=m->Q' (.bl true) H3)->(∀ (ga:Addr),gv = .ref ga->H3 ga=some (.tup ((itF (hdF bk lo) x M).map V.int))->Q' (.bl false) H3)->HF K (.ref la) gv H3 Q':=fun Q' hT hF=>by
   rcases hgv with⟨ht,rfl⟩ | ⟨ga,j,ht,rfl,ega⟩
   ·exact .inr ⟨la,_,rfl,rfl,SqT.of ela,hT (by lia)⟩
   ·refine .inl ⟨la,ga,_,_,rfl,rfl,SqT.of ela,SqT.of ega,?_⟩
    subst ht
    by_cases e:itF (hdF bk lo) x (j+1)=itF (hdF bk lo) x j
    ·rw[decide_eq_true e]
     have ej:j=M:=by
      rcases XH j M with z | z
      ·exact absurd e (st.2 j z)
      ·lia
     subst ej
     exact hF ga rfl ega
    ·rw[decide_eq_false e]
     refine hT ?_
     rcases XH j M with z | z
     ·lia
     ·have:j=M:=by lia
      subst this
      exact absurd st.1 e
  refine⟨_,rfl,_,rfl,key _ (fun h1=>⟨_,rfl,fX ⟨HW bk lo x M b f H (m - 1),fun σ' H' h=>⟨m - 1,by lia,h⟩,?_⟩⟩) fun ga hga ega=>⟨_,rfl,cX ⟨_,rfl,?_⟩⟩⟩
  ·refine⟨_,rfl,_,rfl,_,rfl,_,rfl,b,f,la,_,_,_,rfl,SqL.of s3b,SqT.of s3f,SqT.of ela,fun D hD=>PJ (K:=K) (a:=b) (b:=f) (c:=la) (xs:=us0) (ys:=lo.map V.int) (vs:=(itF (hdF bk lo) x t).map V.int) (by rw[Vb,ol.1]; lia) (by rw[Vb,og.1]; lia)
    (fun i zs σ' H4=>(∃ u v w,σ'=[u,v,w,some (.ref la)])/\zs=((VD i).map fun i=>max (lo.getD i 0) (min ((itF (hdF bk lo) x t).getD i 0) (duF (itF (hdF bk lo) x t) 0 (bk.getD i [])))).map V.int/\aZ H3 H4/\H4 D=some (.lst zs))
    ⟨⟨_,_,_,rfl⟩,rfl,aC hD _,aq⟩ (fun i zs σ' H4 _ h=>⟨SqL.of (h.2.2.1 _ _ s3b),SqT.of (h.2.2.1 _ _ s3f),SqT.of (h.2.2.1 _ _ ela),h.2.2.2⟩) ?_ ?_⟩
   ·rintro i zs y1 y2 y3 p σ' H4 hx hy hv hp ⟨⟨u,v,w,rfl⟩,e1,sm,hDl⟩
    obtain⟨c,as,ps,rfl,hps,hc,l100,rps⟩:=rb.get hx
    obtain⟨l1,hl1,rfl⟩:=int_at hy
    obtain⟨g1,hg1,rfl⟩:=int_at hv
    have hi:=(List.getElem?_eq_some_iff.mp hx).1
    have gl:lo.getD i 0=l1:=by rw[Vi,hl1]; rfl
    have gg:(itF (hdF bk lo) x t).getD i 0=g1:=by rw[Vi,hg1]; rfl
    have gb:bk.getD i []=ps:=by rw[Vi,hps]; rfl
    have l01:=(fH ol (i:=i) (by lia)).1
    have llg:=olow i
    rw[gl] at l01
    rw[gl,gg] at llg
    generalize eH5:upd H4 p _=H5
    obtain⟨g5,e5⟩:=aP eH5 hp
    have s5:=sm.trans g5
    refine⟨p,_,rfl,SqT.of e5,rfl,_,_,rfl,_,_,rfl,_,_,rfl,rfl,?_⟩
    refine tT ?_
    refine⟨_,rfl,_,rfl,_,rfl,_,rfl,c,la,n,as,ps,_,l1,g1,rfl,(s3.trans s5) _ _ hc,l100,rps.aV (fun a xs q=>(s3.trans s5) a _ q),SqT.of (s5 _ _ ela),by rw[og.1]; lia,l01,llg,fun H6 s6=>?_⟩
    refine⟨s6 _ _ (g5 _ _ hDl),?_,⟨_,_,_,rfl⟩,?_,aQ (s5.trans s6) hD _,aq⟩
    ·rw[e1,Vb,Vb,VP]
     exact aJ (by lia)
    ·rw[e1,YT,Vl,Vl,gb.symm,← gl,← gg]
     rfl
   ·rintro zs σ' H4 ⟨_,e1,sm,hDl⟩
    refine⟨D,_,rfl,.inl ⟨SqL.of hDl,fun l hl'=>?_⟩⟩
    refine⟨t+1,l,.ref la,by lia,rfl,s3.trans (sm.trans (aC hl' _)),?_,.inr ⟨la,t,rfl,rfl,aC hl' _ _ _ (sm _ _ ela)⟩⟩
    rw[aq,e1,el]
    rfl
  ·subst hga
   exact q M ga H3 st s3 ega
section
variable {n:Nat} {fl lo:List Int} {bk:List (List Pl)}
theorem Jw (hb:bk.length=n) (ok:okB bk) (hf:okG n fl) (hlo:Low n fl bk lo) {x:List Int} (hx:okG n x) (l:LeG lo x) {c:List Nat} (hc:∀ i < n,i ∉ c->x.getD i 0=lo.getD i 0) (hup:∀ w,InS n fl bk lo c w->LeG w x) {m:Nat} (st:Stops (hdF bk lo) x m):Lb n fl bk lo c (itF (hdF bk lo) x m):=by
 obtain⟨h1,h2,h3⟩:=yI hb hlo.1 hx l m
 have fx:=st.1
 refine⟨⟨h1,fun i hi' hci=>?_,h2,?_⟩,fun w hw=>?_⟩
 ·have a:=h2 i
  have b:=h3 i
  rw[hc i hi' hci] at b
  lia
 ·refine jl (by rw[h1.1,(iY hb ok hf _).1]) fun i hi'=>?_
  rw[h1.1] at hi'
  have e:=sZ (bk:=bk) (lo:=lo) (g:=itF (hdF bk lo) x m) (i:=i) (by lia)
  rw[fx] at e
  rw[kE hb hf _ hi']
  have a:=kE hb hf lo hi'
  rw[hlo.2.1] at a
  have b:=pH hb ok h2 hi'
  lia
 ·have:∀ j,LeG w (itF (hdF bk lo) x j):=by
   intro j
   induction j with
   | zero=>exact hup w hw
   | succ j ih=>exact BR hb ok hf hlo hw.1 hw.2.2.2 ih
  exact this m
theorem QM (hb:bk.length=n) (ok:okB bk) (hf:okG n fl) (hlo:Low n fl bk lo) (c:List Nat):∃ g,Lb n fl bk lo c g:=by
 have o9:okG n (Vn n (9:Int)):=⟨VR,fun x hx=>by rw[(List.mem_replicate.mp hx).2]; decide⟩
 have r9:∀ i < n,(Vn n (9:Int)).getD i 0=9:=fun i hi=>by rw[Vi,X7,if_pos hi]; rfl
 have up9:∀ w:List Int,okG n w->LeG w (Vn n (9:Int)):=fun w hw=>vC hw.1 o9.1 fun i hi=>by
  rw[r9 i hi]
  exact (fH hw hi).2
 have l:=up9 lo hlo.1
 obtain⟨m,_,st⟩:=Ci hb hlo.1 (Ao hlo.1 o9 c) (Q6 hlo.1 l c)
 exact⟨_,Ls hb ok hf hlo o9 l (fun w hw _=>up9 w hw) st⟩
open Classical in
def al (n:Nat) (fl:List Int) (bk:List (List Pl)) (lo:List Int) (c:List Nat):List Int:=if h:∃ g,Lb n fl bk lo c g then h.choose else lo
theorem dX (hb:bk.length=n) (ok:okB bk) (hf:okG n fl) (hlo:Low n fl bk lo) (c:List Nat):Lb n fl bk lo c (al n fl bk lo c):=by
 have h:=QM hb ok hf hlo c
 unfold al
 rw[dif_pos h]
 exact h.choose_spec
theorem Ot (hb:bk.length=n) (ok:okB bk) (hf:okG n fl) (hlo:Low n fl bk lo) {c:List Nat} {g:List Int} (h:Lb n fl bk lo c g):g=al n fl bk lo c:=h.uniq (dX hb ok hf hlo c)
theorem InS.mono {c d:List Nat} {g:List Int} (h:InS n fl bk lo c g) (s:∀ i < n,i∈c->i∈d):InS n fl bk lo d g:=⟨h.1,fun i hi hd=>h.2.1 i hi fun z=>hd (s i hi z),h.2.2⟩
theorem yf (hb:bk.length=n) (ok:okB bk) (hf:okG n fl) (hlo:Low n fl bk lo) {c d:List Nat} (s:∀ i < n,i∈c->i∈d):LeG (al n fl bk lo c) (al n fl bk lo d):=(dX hb ok hf hlo d).2 _ ((dX hb ok hf hlo c).1.mono s)
theorem jn (hb:bk.length=n) (ok:okB bk) (hf:okG n fl) (hlo:Low n fl bk lo) (c:List Nat):(al n fl bk lo c).length=n:=(dX hb ok hf hlo c).1.1.1
def ris (n:Nat) (lo g:List Int):List Nat:=(VD n).filter fun i=>decide (lo.getD i 0 < g.getD i 0)
theorem gR {g:List Int} {i:Nat}:i∈ris n lo g ↔ i < n/\lo.getD i 0 < g.getD i 0:=by
 unfold ris
 rw[List.mem_filter,List.mem_range]
 simp
theorem yO {c:List Nat} {g:List Int} (h:InS n fl bk lo c g) {i:Nat} (hi:i∈ris n lo g):i∈c:=by
 obtain⟨h1,h2⟩:=gR.mp hi
 refine Zk fun z=>?_
 have:=h.2.1 i h1 z
 lia
theorem Ob {c:List Nat} {g:List Int} (h:InS n fl bk lo c g):InS n fl bk lo (ris n lo g) g:=by
 refine⟨h.1,fun i hi hn=>?_,h.2.2⟩
 have a:=h.2.2.1 i
 have b:¬ lo.getD i 0 < g.getD i 0:=fun z=>hn (gR.mpr ⟨hi,z⟩)
 lia
theorem GP (hb:bk.length=n) (ok:okB bk) (hf:okG n fl) (hlo:Low n fl bk lo) (c:List Nat):al n fl bk lo (ris n lo (al n fl bk lo c))=al n fl bk lo c:=by
 have m:=dX hb ok hf hlo c
 refine fG (by rw[jn hb ok hf hlo,jn hb ok hf hlo]) (yf hb ok hf hlo fun i hi=>yO m.1) ?_
 exact (dX hb ok hf hlo _).2 _ (Ob m.1)
theorem N7 (hb:bk.length=n) (ok:okB bk) (hf:okG n fl) (hlo:Low n fl bk lo) {c:List Nat} (h:ris n lo (al n fl bk lo c)=[]):al n fl bk lo c=lo:=by
 have m:=dX hb ok hf hlo c
 refine fG (by rw[jn hb ok hf hlo,hlo.1.1]) (vC (jn hb ok hf hlo c) hlo.1.1 fun i hi=>?_) m.1.2.2.1
 have:i ∉ ris n lo (al n fl bk lo c):=by rw[h]; simp
 have h':¬ lo.getD i 0 < (al n fl bk lo c).getD i 0:=fun z=>this (gR.mpr ⟨hi,z⟩)
 lia
theorem Mt:ris n lo lo=[]:=by
 unfold ris
 rw[List.filter_eq_nil_iff]
 intro i _
 simp
theorem qy {g:List Int} {one:Nat} (hg:g.length=n) (hl:lo.length=n):ris n lo (lfF g lo [one])=(ris n lo g).filter fun i=>decide (i≠one):=by
 unfold ris
 rw[List.filter_filter]
 refine abM fun i hi=>?_
 have hi':=List.mem_range.mp hi
 rw[pN (by rw[hg]; exact hi')]
 by_cases e:i=one
 ·subst e
  simp
 ·simp [e]
theorem zg (hb:bk.length=n) (ok:okB bk) (hf:okG n fl) (hlo:Low n fl bk lo) {c:List Nat} (hcl:ris n lo (al n fl bk lo c)=c) {one:Nat} {m:Nat} (st:Stops (hdF bk lo) (lfF (al n fl bk lo c) lo [one]) m) :
  itF (hdF bk lo) (lfF (al n fl bk lo c) lo [one]) m=al n fl bk lo (c.filter fun i=>decide (i≠one)):=by
 have mx:=dX hb ok hf hlo c
 have lg:=jn hb ok hf hlo c
 have ox:okG n (lfF (al n fl bk lo c) lo [one]):=Ao mx.1.1 hlo.1 [one]
 have at1:∀ i < n,(lfF (al n fl bk lo c) lo [one]).getD i 0=if i∈[one] then lo.getD i 0 else (al n fl bk lo c).getD i 0:=fun i hi=>pN (by rw[lg]; exact hi)
 have lx:LeG lo (lfF (al n fl bk lo c) lo [one]):=vC hlo.1.1 ox.1 fun i hi=>by
  rw[at1 i hi]
  split
  ·exact WY _
  ·exact mx.1.2.2.1 i
 refine Ot hb ok hf hlo (Jw hb ok hf hlo ox lx (fun i hi hn=>?_) (fun w hw=>?_) st)
 ·rw[at1 i hi]
  split
  ·rfl
  ·rename_i hne
   have:i ∉ c:=fun z=>hn (List.mem_filter.mpr ⟨z,decide_eq_true fun q=>hne (by rw[q]; exact List.mem_singleton.mpr rfl)⟩)
   exact mx.1.2.1 i hi this
 ·refine vC hw.1.1 ox.1 fun i hi=>?_
  rw[at1 i hi]
  split
  ·rename_i he
   rw[hw.2.1 i hi (fun z=>by
    have:=(List.mem_filter.mp z).2
    rw[List.mem_singleton.mp he] at this
    simp at this)]
   exact WY _
  ·exact (mx.2 w (hw.mono fun i _ z=>(List.mem_filter.mp z).1)) i
def Knot (n:Nat) (fl:List Int) (bk:List (List Pl)) (lo:List Int) (c:List Nat):Prop:=al n fl bk lo c≠lo/\∀ one∈c,al n fl bk lo (c.filter fun i=>decide (i≠one))=lo
theorem zV (hb:bk.length=n) (ok:okB bk) (hf:okG n fl) (hlo:Low n fl bk lo) {c:List Nat} (hk:Knot n fl bk lo c) {i:Nat} (hi:i∈c):i∈ris n lo (al n fl bk lo c):=by
 refine Zk fun z=>hk.1 ?_
 rw[← GP hb ok hf hlo c]
 have le:LeG (al n fl bk lo (ris n lo (al n fl bk lo c))) lo:=by
  have h0:LeG (al n fl bk lo (ris n lo (al n fl bk lo c))) (al n fl bk lo (c.filter fun j=>decide (j≠i))):=yf hb ok hf hlo fun j hj hr=>List.mem_filter.mpr ⟨yO (dX hb ok hf hlo c).1 hr,decide_eq_true (p:=j≠i) fun q=>z (q▸hr)⟩
  rw[hk.2 i hi] at h0
  exact h0
 exact fG (by rw[jn hb ok hf hlo,hlo.1.1]) le (dX hb ok hf hlo _).1.2.2.1
end
theorem mD {p:Nat->Bool} (i:Nat):(VD (i+1)).filter p=(VD i).filter p++if p i=true then [i] else []:=by
 rw[YT,Xv,ZX,acn]
theorem ie (p:Nat->Bool):∀ n,(VD n).filter p∈dC n
 | 0=>List.mem_singleton.mpr rfl
 | n+1=>by
  rw[mD]
  have ih:=ie p n
  show _∈dC n++(dC n).map fun c=>c++[n]
  by_cases e:p n=true
  ·rw[if_pos e]
   exact List.mem_append.mpr (.inr (List.mem_map.mpr ⟨_,ih,rfl⟩))
  ·rw[if_neg e,WK]
   exact List.mem_append.mpr (.inl ih)
theorem fP:∀ n,(dC n).length=2 ^ n
 | 0=>rfl
 | n+1=>by
  show (dC n++(dC n).map fun c=>c++[n]).length=_
  rw[Ve,Vb,fP n,Nat.pow_succ]
  lia
theorem dR {α:Type} [DecidableEq α]:∀ {l m:List α},l.Nodup->(∀ a∈l,a∈m)->l.length<=m.length
 | [],_,_,_=>VL _
 | a::l,m,nd,h=>by
  have ha:=h a Vj
  obtain⟨na,nl⟩:=List.nodup_cons.mp nd
  have:=dR (m:=m.erase a) nl fun b hb=>(List.mem_erase_of_ne fun z=>na (by rw[← z]; exact hb)).mpr (h b (Vp _ hb))
  rw[List.length_erase_of_mem ha] at this
  have:0 < m.length:=List.length_pos_of_mem ha
  rw[Vr]
  lia
theorem lU {n:Nat} {c:List Nat} (hr:c.Pairwise (· < ·)) (hn:∀ i∈c,i < n):(VD n).filter (fun i=>decide (i∈c))=c:=by
 have s1:((VD n).filter fun i=>decide (i∈c)).Pairwise (· < ·):=List.pairwise_lt_range.filter _
 have m:∀ i,i∈(VD n).filter (fun i=>decide (i∈c)) ↔ i∈c:=fun i=>by
  rw[List.mem_filter,List.mem_range]
  simp
  exact hn i
 generalize (VD n).filter (fun i=>decide (i∈c))=d at *
 clear hn
 induction d generalizing c with
 | nil =>
  cases c with
  | nil=>rfl
  | cons x c=>exact absurd ((m x).mpr Vj) (by simp)
 | cons y d ih =>
  cases c with
  | nil=>exact absurd ((m y).mp Vj) (by simp)
  | cons x c =>
   rw[W6] at s1 hr
   have hxy:y=x:=by
    rcases List.mem_cons.mp ((m y).mp Vj) with h | h
    ·exact h
    ·rcases List.mem_cons.mp ((m x).mpr Vj) with h' | h'
     ·exact h'.symm
     ·have:=hr.1 y h
      have:=s1.1 x h'
      lia
   subst hxy
   refine congrArg _ (ih hr.2 s1.2 fun i=>⟨fun h=>?_,fun h=>?_⟩)
   ·rcases List.mem_cons.mp ((m i).mp (Vp _ h)) with z | z
    ·have:=s1.1 i h
     lia
    ·exact z
   ·rcases List.mem_cons.mp ((m i).mpr (Vp _ h)) with z | z
    ·have:=hr.1 i h
     lia
    ·exact z
section
variable {n:Nat} {fl lo:List Int} {bk:List (List Pl)}
theorem mG (g:List Int):(ris n lo g).Pairwise (· < ·):=List.pairwise_lt_range.filter _
theorem Dg (hb:bk.length=n) (ok:okB bk) (hf:okG n fl) (hlo:Low n fl bk lo) {S:List (List Nat)} (cl:∀ c∈S,ris n lo (al n fl bk lo c)=c) {W:List Nat} (hW:W∈S) (top:∀ c:List Nat,∀ i∈ris n lo (al n fl bk lo c),i∈W)
  (step:∀ c∈S,c≠[]->∀ one∈c,ris n lo (al n fl bk lo (c.filter fun i=>decide (i≠one)))∈S) {k:List Nat} (hr:k.Pairwise (· < ·)) (hn:∀ i∈k,i < n) (hk:Knot n fl bk lo k):k∈S:=by
 have main:∀ (m:Nat) (c:List Nat),c.length<=m->c∈S->(∀ i∈k,i∈c)->k∈S:=by
  intro m
  induction m with
  | zero =>
   intro c hl hc hs
   have:c=[]:=List.length_eq_zero_iff.mp (by lia)
   subst this
   have:k=[]:=by
    cases k with
    | nil=>rfl
    | cons x _=>exact absurd (hs x Vj) (by simp)
   rw[this]
   exact hc
  | succ m ih =>
   intro c hl hc hs
   by_cases e:∀ i∈c,i∈k
   ·have hcr:c.Pairwise (· < ·):=by rw[← cl c hc]; exact mG _
    have hcn:∀ i∈c,i < n:=fun i hi=>by rw[← cl c hc] at hi; exact (gR.mp hi).1
    have:k=c:=by
     rw[← lU hr hn,← lU hcr hcn]
     refine abM fun i _=>decide_eq_decide.mpr ⟨fun h=>?_,fun h=>?_⟩
     ·exact hs i (by simpa using h)
     ·exact e i (by simpa using h)
    rw[this]
    exact hc
   ·have ⟨one,h1,h2⟩:∃ one,one∈c/\one ∉ k:=by
     refine Zk fun z=>e fun i hi=>Zk fun q=>z ⟨i,hi,q⟩
    have c0:c≠[]:=fun z=>by rw[z] at h1; cases h1
    have mem:=step c hc c0 one h1
    have sub:∀ i∈ris n lo (al n fl bk lo (c.filter fun i=>decide (i≠one))),i∈c.filter fun i=>decide (i≠one):=fun i hi=>yO (dX hb ok hf hlo _).1 hi
    have ndr:(ris n lo (al n fl bk lo (c.filter fun i=>decide (i≠one)))).Nodup:=(mG _).imp fun h=>Vx h
    have l1:=dR ndr sub
    have l2:(c.filter fun i=>decide (i≠one)).length < c.length:=by
     rw[List.length_filter_lt_length_iff_exists]
     exact⟨one,h1,by simp⟩
    refine ih _ (by lia) mem fun i hi=>?_
    have a:=zV hb ok hf hlo hk hi
    obtain⟨a1,a2⟩:=gR.mp a
    have b:=yf hb ok hf hlo (c:=k) (d:=c.filter fun i=>decide (i≠one)) (fun j _ hj=>List.mem_filter.mpr ⟨hs j hj,decide_eq_true fun q=>h2 (q▸hj)⟩) i
    exact gR.mpr ⟨a1,by lia⟩
 refine main W.length W (Vg _) hW fun i hi=>top k i (zV hb ok hf hlo hk hi)
end
abbrev uP:Stmt:=top 55
theorem Gw:aO ["sure","giving"] ["sure","giving"] (aD uP):=⟨rfl,rfl,rfl,by decide+kernel,rfl,by decide+kernel,by decide+kernel⟩
inductive wX (vs:List V) (H:Hp) (Q:VK):Prop where
 | mk (f g:Addr) (n:Nat) (lo x:List Int) (z0:vs=[.ref f,.ref g]) (z1:n<=12) (z2:H f=some (.tup (lo.map V.int))) (z3:okG n lo) (z4:H g=some (.tup (x.map V.int))) (z5:okG n x) (z6:∀ (r:Addr) (H':Hp),aZ H H'->H' r=some (.tup ((ris n lo x).map vN))->Q (.ref r) H'):wX  vs H Q
def uM:Sp:=fun vs H Q _=>wX  vs H Q
theorem HX (F:Fun K "risers" "risers" uP f fd) (B:Bt mg) :
  cG P w K mg base CX0 1 f fd ["sure","giving"] uM:=by
 refine F.ok Gw (fun vs H Q E h=>?_) (fun cdv A outer s H vs Q E hr h=>?_)
 ·obtain⟨f,g,n,lo,x,rfl,_⟩:=h
  rfl
 ·obtain⟨f,g,n,lo,y,rfl,b12,hf,ol,hg,oy,q⟩:=h
  refine⟨_,(aB (aG (bH (r:=eX K) bF rfl B.tuple_ bK (aa (bQ (L:=["one","step"]) (F:=["sure"]) (cap:=[0]) rfl (bJ rfl rfl (by kernel_rfl)) (Av rfl B.enumerate_ (aa (pv 1) aj)) (fun _ _ _ _ _=>(dM (K:=K) 2 rfl rfl (bB (aK (i:=0) (bA (by decide+kernel)) rfl (Vv rfl)) (bB (aK (i:=1) (bA (by decide+kernel)) rfl (Vv rfl)) dI)))) (fun _ _ _ _ _=>(mR (aL zH (pv 1) (bw (r:=fZ K) bD (pv 2) (pv 0) (fun _ _=>rfl)) (aU _)))) (fun _ _ _ _ _=>(pv 0))) aj)))),?_⟩
  refine⟨_,rfl,g,_,rfl,SqT.of hg,fun D hD=>rQ (K:=K) (a:=g) (xs:=y.map V.int) (fun i zs σ' H3=>(∃ u v,σ'=[u,v,some (.ref f)])/\aZ H H3/\H3 D=some (.lst zs)/\zs=((VD i).filter fun j=>decide (lo.getD j 0 < y.getD j 0)).map vN)
   ⟨⟨_,_,rfl⟩,aC hD _,aq,rfl⟩ (fun i zs σ' H3 _ h=>⟨SqT.of (h.2.1 _ _ hg),h.2.2.1⟩) ?_ ?_⟩
  ·rintro i zs x p σ' H3 hx hp ⟨⟨u,v,rfl⟩,sm,eD,ez⟩
   obtain⟨y1,hy1,rfl⟩:=int_at hx
   have hin:=(List.getElem?_eq_some_iff.mp hy1).1
   generalize eH4:upd H3 p _=H4
   obtain⟨g4,e4⟩:=aP eH4 hp
   have s4:=sm.trans g4
   refine⟨p,_,rfl,SqT.of e4,rfl,_,_,rfl,_,_,rfl,rfl,?_⟩
   have hih:i < lo.length:=by rw[ol.1,← oy.1]; exact hin
   have gy:y.getD i 0=y1:=by rw[Vi,hy1]; rfl
   have gi:lo.getD i 0=lo[i]:=by rw[Vi,Vf hih]; rfl
   have lz:zs.length<=i:=by
    rw[ez,Vb]
    exact V2 (WW _ _) (by rw[VP]; exact Vg _)
   have l12:i<=12:=by have:=oy.1; lia
   refine⟨_,rfl,_,rfl,_,rfl,f,_,_,_,rfl,rfl,SqT.of (s4 _ _ hf),v8 hih,_,_,rfl,rfl,_,rfl,?_⟩
   by_cases c1:y1 > lo[i]
   ·rw[decide_eq_true c1]
    refine fX ⟨_,rfl,g4 _ _ eD,aJ (by lia),⟨_,_,rfl⟩,aQ s4 hD _,aq,?_⟩
    rw[mD,if_pos (by rw[gy,gi]; exact decide_eq_true c1),Vl,← ez]
    rfl
   ·rw[decide_eq_false c1]
    refine cX ⟨⟨_,_,rfl⟩,s4,g4 _ _ eD,?_⟩
    rw[mD,if_neg (by rw[gy,gi]; simp only[decide_eq_true_eq]; exact c1),WK]
    exact ez
  ·rintro zs σ' H3 ⟨_,sm,eD,rfl⟩
   refine⟨D,_,rfl,.inl ⟨SqL.of eD,fun l hl'=>?_⟩⟩
   refine q l _ (sm.trans (aC hl' _)) ?_
   rw[aq,Vb,oy.1]
   rfl
def kc (c:List Nat):List Key:=c.map fun i:Nat=>(aaS (i:Int):Key)
theorem Te (c:List Nat):(kc c).map kV=c.map vN:=by
 unfold kc
 rw[YM]
 rfl
theorem Rp {c d:List Nat} (h:kc c=kc d):c=d:=by
 unfold kc at h
 exact (List.map_inj_right fun a b e=>by
  have:(a:Int)=(b:Int):=Sum.inl.inj e
  lia).mp h
def xX (n:Nat) (fl:List Int) (bk:List (List Pl)) (lo:List Int) (H:Hp) (kvs:List (List Key × V)):Prop :=
 (kvs.map (·.1)).Nodup/\∀ p∈kvs,∃ (c:List Nat) (a:Addr),c∈dC n/\p.1=kc c/\p.2 = .ref a/\H a=some (.tup ((al n fl bk lo c).map V.int))
section
variable {n:Nat} {fl lo:List Int} {bk:List (List Pl)} {H H':Hp} {kvs:List (List Key × V)}
theorem xX.aV (h:xX n fl bk lo H kvs) (e:∀ a xs,H a=some (HO.tup xs)->H' a=some (HO.tup xs)):xX n fl bk lo H' kvs :=
 ⟨h.1,fun p hp=>by
  obtain⟨c,a,h1,h2,h3,h4⟩:=h.2 p hp
  exact⟨c,a,h1,h2,h3,e _ _ h4⟩⟩
theorem xX.len (h:xX n fl bk lo H kvs):kvs.length<=2 ^ n:=by
 have:=dR (m:=(dC n).map kc) h.1 fun k hk=>by
  obtain⟨p,hp,rfl⟩:=List.mem_map.mp hk
  obtain⟨c,a,h1,h2,_⟩:=h.2 p hp
  rw[h2]
  exact List.mem_map.mpr ⟨c,h1,rfl⟩
 rw[Vb,Vb,fP] at this
 exact this
theorem xX.get (h:xX n fl bk lo H kvs) {c:List Nat} {v:V} (e:jJ kvs (kc c)=some v):∃ a,v = .ref a/\H a=some (.tup ((al n fl bk lo c).map V.int)):=by
 unfold jJ at e
 obtain⟨p,hp,rfl⟩:=Option.map_eq_some_iff.mp e
 obtain⟨c',a,_,h2,h3,h4⟩:=h.2 p (List.mem_of_find?_eq_some hp)
 have k1:p.1=kc c:=by simpa using List.find?_some hp
 have:c'=c:=Rp (by rw[← h2,k1])
 subst this
 exact⟨a,h3,h4⟩
theorem xX.put (h:xX n fl bk lo H kvs) {c:List Nat} (hc:c∈dC n) {a:Addr} (ha:H a=some (.tup ((al n fl bk lo c).map V.int))) (e:jJ kvs (kc c)=none):xX n fl bk lo H (putK kvs (kc c) (.ref a)):=by
 rw[n8 _ e]
 refine⟨?_,fun p hp=>?_⟩
 ·rw[Vl]
  show (_++[kc c]).Nodup
  refine List.nodup_append.mpr ⟨h.1,by simp,fun x hx y hy=>?_⟩
  rw[List.mem_singleton.mp hy]
  obtain⟨p,hp,rfl⟩:=List.mem_map.mp hx
  intro z
  unfold jJ at e
  have:=List.find?_eq_none.mp (Option.map_eq_none_iff.mp e) p hp
  exact this (decide_eq_true z)
 ·rcases List.mem_append.mp hp with z | z
  ·exact h.2 p z
  ·rw[List.mem_singleton.mp z]
   exact⟨c,a,hc,rfl,rfl,ha⟩
end
theorem pR {H:Hp} {D:Addr} {k:List (List Key × V)} {o:HO} (h:H D=some (.dT k)):∀ a xs,H a=some (HO.tup xs)->upd H D o a=some (HO.tup xs):=fun a xs q=>by
 rw[bh (fun z=>by rw[z,h] at q; cases q)]
 exact q
abbrev qH:Stmt:=top 56
theorem iu:aO ["book","sure","giving","known","rows","one","start","crowd"] ["book","sure","giving","known"] (aD qH):=⟨rfl,rfl,rfl,by decide+kernel,rfl,by decide+kernel,by decide+kernel⟩
def wo (c:List Nat) (one:Nat):List Nat:=c.filter fun i=>decide (i≠one)
inductive xr (vs:List V) (H:Hp) (Q:VK):Prop where
 | mk (b f g d:Addr) (n:Nat) (bk:List (List Pl)) (fl lo:List Int) (c:List Nat) (kvs:List (List Key × V)) (H0:Hp) (z0:vs=[.ref b,.ref f,.ref g,.ref d]) (z1:n<=12) (z2:aZ H0 H) (z3:H0 d=none) (z4:Bh n H0 b bk) (z5:bk.length=n) (z6:okG n fl) (z7:H0 f=some (.tup (lo.map V.int))) (z8:Low n fl bk lo) (z9:H g=some (.tup ((al n fl bk lo c).map V.int))) (z10:ris n lo (al n fl bk lo c)=c) (z11:H d=some (.dT kvs)) (z12:xX n fl bk lo H kvs) (z13:∀ (r:Addr) (us:List V) (kvs':List (List Key × V)) (H':Hp),aZ H0 H'->(∀ a o,a≠d->H a=some o->H' a=some o)->H r=none->H' r=some (.lst us)->ik H' us (c.map fun one=>al n fl bk lo (wo c one))->H' d=some (.dT kvs')->xX n fl bk lo H' kvs'->Q (.ref r) H'):xr  vs H Q
def Az:Sp:=fun vs H Q _=>xr  vs H Q
theorem El {k:Nat} (F:Fun K "put_off" "put_off" qH f fd) (B:Bt mg)
  (D_risers:Df P w K mg base "risers" 1 ["sure","giving"] uM) (D_lifted:Df P w K mg base "lifted" 1 ["giving","high","crowd"] Mm) (D_held:Df P w K mg base "held" (k+1) ["book","sure","giving"] Mp) :
  cG P w K mg base CX0 (k+2) f fd ["book","sure","giving","known"] Az:=by
 refine F.ok iu (fun vs H Q E h=>?_) (fun cdv A outer s H vs Q E hr h=>?_)
 ·obtain⟨b,f,g,d,n,bk,fl,lo,c,kvs,H0,rfl,_⟩:=h
  rfl
 ·obtain⟨b,f,g,d,n,bk,fl,lo,c,kvs0,H0,rfl,n12,s0,d0,hB,lb,of,hf,low,hg,hcl,hd,kn,q⟩:=h
  refine⟨_,(au (aW (i:=4) iu.nd rfl (Vv rfl) (bR aj))
 (au (eZ Wf rfl (dJ (aX D_risers hr (aa (pv 1) (aa (pv 2) aj)))) (aK (i:=5) iu.nd rfl (Vv rfl)) (au (aW (i:=6) iu.nd rfl (Vv rfl) (aX D_lifted hr (aa (pv 2) (aa (pv 1) (aa (bR (aa (pv 5) aj)) aj)))))
 (au (aW (i:=7) iu.nd rfl (Vv rfl) (aX D_risers hr (aa (pv 1) (aa (pv 6) aj))))
 (au (bG (Hs (vP hr.wK (pv 7) (pv 3))) (aB (Gn hr.wK (pv 3) (pv 7) (aX D_held hr (aa (pv 0) (aa (pv 1) (aa (pv 6) aj)))) rfl)) aR)
 (aB (bO (o4 Wr WR WQ cH (pv 4) (aa (Ou hr.wK (pv 3) (pv 7) (fun _ _=>rfl)) aj))))))))
 (aB (aG (pv 4))))),?_⟩
  have okb:=hB.okB
  have oc:okG n (al n fl bk lo c):=(dX lb okb of low c).1.1
  have p12:2 ^ n<=4096:=by
   have:2 ^ n<=2 ^ 12:=Z5 (by decide) n12
   simpa using this
  have cn:∀ i∈c,i < n:=fun i hi=>by rw[← hcl] at hi; exact (gR.mp hi).1
  have c12:c.length<=12:=by
   rw[← hcl]
   exact V2 (WW _ _) (by rw[VP]; exact n12)
  refine⟨small (by show 0<=1000; decide),fun R hR=>?_⟩
  generalize eHa:upd H R _=Ha
  obtain⟨ga,ea⟩:=aP eHa hR
  have nRd:R≠d:=fun z=>by rw[z,hd] at hR; cases hR
  refine⟨_,rfl,_,rfl,f,g,n,lo,_,rfl,n12,(s0.trans ga) _ _ hf,low.1,ga _ _ hg,oc,fun ra H1 s1 era=>?_⟩
  rw[hcl] at era
  have sa1:=ga.trans s1
  have s01:=s0.trans sa1
  have R0:H0 R=none:=s0.free hR
  refine⟨ra,rfl,⟨_,SqT.of era⟩,mX (K:=K) (a:=ra) (xs:=c.map vN) (fun i σ Hx=>∃ (us:List V) (kvs:List (List Key × V)) (u5 u6 u7:Option V),σ=[some (.ref b),some (.ref f),some (.ref g),some (.ref d),some (.ref R),u5,u6,u7]/\aZ H0 Hx/\(∀ a o,a≠d->a≠R->H1 a=some o->Hx a=some o)/\Hx R=some (.lst us)/\Hx d=some (.dT kvs)/\xX n fl bk lo Hx kvs/\ik Hx us ((c.take i).map fun one=>al n fl bk lo (wo c one)))
   ⟨[],kvs0,_,_,_,rfl,s01,fun a o _ _ e=>e,s1 _ _ ea,sa1 _ _ hd,kn.aV fun a xs e=>sa1 _ _ e,by rw[Wk]; exact .nil⟩ (fun i σ Hx _ h=>?_) ?_ ?_⟩
  ·obtain⟨_,_,_,_,_,_,_,kb,_⟩:=h
   exact SqT.of (kb _ _ (fun z=>by have:=sa1 _ _ hd; rw[← z,era] at this; cases this) (fun z=>by have:=s1 _ _ ea; rw[← z,era] at this; cases this) era)
  ·rintro i x σ Hx hx ⟨us,kvs,u5,u6,u7,rfl,sx,kb,eR,ed,kx,gx⟩
   obtain⟨one,hone,rfl⟩:=ug hx
   have onen:=cn one (Wd hone)
   refine gN ?_
   have gxH:Hx g=some (.tup ((al n fl bk lo c).map V.int)):=kb _ _ (fun z=>by rw[z,hd] at hg; cases hg) (fun z=>by rw[z,hR] at hg; cases hg) (sa1 _ _ hg)
   have lus:=gx.length
   rw[Vb,Vz] at lus
   have ox:=Ao oc low.1 [one]
   refine aH (fun σ Hc=>∃ a4:Addr,σ=[some (.ref b),some (.ref f),some (.ref g),some (.ref d),some (.ref R),some (vN one),some (.ref a4),u7]/\aZ Hx Hc/\Hc a4=some (.tup ((lfF (al n fl bk lo c) lo [one]).map V.int))) ?qs ?ts
   case ts =>
    intro N Rc
    refine⟨_,rfl,_,rfl,_,rfl,small (by show 1<=1000; decide),fun p3 h3=>?_⟩
    generalize eHb:upd Hx p3 _=Hb
    obtain⟨gb,eb⟩:=aP eHb h3
    exact⟨g,f,p3,_,lo,[one],rfl,gb _ _ gxH,(sx.trans gb) _ _ hf,eb,by rw[oc.1,low.1.1],by rw[oc.1]; lia,fun a4 Hc sc e4=>Rc _ _ ⟨a4,rfl,gb.trans sc,e4⟩⟩
   case qs =>
   rintro σ Hc ⟨a4,rfl,sxc,e4⟩
   refine aH (fun σ Hd=>∃ a5:Addr,σ=[some (.ref b),some (.ref f),some (.ref g),some (.ref d),some (.ref R),some (vN one),some (.ref a4),some (.ref a5)]/\aZ Hc Hd/\Hd a5=some (.tup ((wo c one).map vN))) ?qc ?tc
   case tc =>
    intro N Rc
    refine⟨_,rfl,_,rfl,f,a4,n,lo,_,rfl,n12,(sx.trans sxc) _ _ hf,low.1,e4,ox,fun a5 Hd sd e5=>?_⟩
    rw[qy oc.1 low.1.1,hcl] at e5
    exact Rc _ _ ⟨a5,rfl,sd,e5⟩
   case qc =>
   rintro σ Hd ⟨a5,rfl,sd,e5⟩
   have sxd:=sxc.trans sd
   have hcr:wo c one∈dC n:=by
    have:=ie (fun i=>decide (lo.getD i 0 < (lfF (al n fl bk lo c) lo [one]).getD i 0)) n
    have e:ris n lo (lfF (al n fl bk lo c) lo [one])=wo c one:=by rw[qy oc.1 low.1.1,hcl]; rfl
    rw[← e]
    exact this
   have e5k:Hd a5=some (.tup ((kc (wo c one)).map kV)):=by rw[Te]; exact e5
   refine aH (fun σ He=>∃ (kvs:List (List Key × V)) (ao:Addr),σ=[some (.ref b),some (.ref f),some (.ref g),some (.ref d),some (.ref R),some (vN one),some (.ref a4),some (.ref a5)]/\aZ H0 He/\(∀ a o,a≠d->Hd a=some o->He a=some o)/\He d=some (.dT kvs)/\xX n fl bk lo He kvs/\jJ kvs (kc (wo c one))=some (.ref ao)/\He ao=some (.tup ((al n fl bk lo (wo c one)).map V.int))) ?q1 ?t1
   case t1 =>
    intro N Rc
    have edd:=sxd _ _ ed
    refine⟨_,rfl,_,rfl,d,jJ kvs (kc (wo c one)),rfl,Jy.t edd e5k,_,rfl,?_⟩
    cases hv:jJ kvs (kc (wo c one)) with
    | some v =>
     obtain⟨ao,rfl,eao⟩:=kx.get hv
     exact cX (Rc _ _ ⟨kvs,ao,rfl,sx.trans sxd,fun a o _ e=>e,edd,kx.aV fun a xs e=>sxd _ _ e,hv,sxd _ _ eao⟩)
    | none =>
     refine fX ⟨_,rfl,_,rfl,_,rfl,b,f,a4,n,bk,lo,_,rfl,hB.mono (sx.trans sxd),lb,(sx.trans sxd) _ _ hf,low.1,sd _ _ e4,ox,?_,fun m r He st se er=>?_⟩
     ·refine vC low.1.1 ox.1 fun j hj=>?_
      rw[pN (by rw[oc.1]; exact hj)]
      split
      ·exact WY _
      ·exact (dX lb okb of low c).1.2.2.1 j
     rw[zg lb okb of low hcl st] at er
     have ede:=se _ _ edd
     have kxe:=kx.aV fun a xs e=>(sxd.trans se) _ _ e
     refine⟨_,rfl,_,rfl,d,_,rfl,Qu.t ede (se _ _ e5k) (Yj kx.len (Yj p12 (by decide))),?_⟩
     refine Rc _ _ ⟨_,r,rfl,aQ ((sx.trans sxd).trans se) d0 _,fun a o na e=>by rw[bh na]; exact se _ _ e,aq,(kxe.put hcr er hv).aV (pR ede),by rw[Km,if_pos rfl],pR ede _ _ er⟩
   case q1 =>
   rintro σ He ⟨kvs',ao,rfl,s0e,kbe,ede,kne,hv,eao⟩
   have eRe:He R=some (.lst us):=kbe _ _ nRd (sxd _ _ eR)
   have e5e:He a5=some (.tup ((kc (wo c one)).map kV)):=kbe _ _ (fun z=>by have:=sxd _ _ ed; rw[← z,e5] at this; cases this) e5k
   refine⟨_,rfl,.inl ⟨rfl,_,SqL.of eRe⟩,_,rfl,_,rfl,d,_,rfl,hv▸Jy.t ede e5e,R,us,_,rfl,rfl,eRe,aJ (by lia),?_⟩
   refine⟨us++[.ref ao],kvs',_,_,_,rfl,aQ s0e R0 _,fun a o na nr e=>by rw[bh nr]; exact kbe _ _ na (sxd _ _ (kb _ _ na nr e)),aq,by rw[bh nRd.symm]; exact ede,kne.aV (cj eRe),?_⟩
   rw[V1,hone,Vl]
   have gxe:ik He us ((c.take i).map fun one=>al n fl bk lo (wo c one)):=gx.aV fun a xs e=>kbe _ _ (fun z=>by rw[z,ed] at e; cases e) (sxd _ _ e)
   exact (ik.snoc eao (by rw[jn lb okb of low]; lia) gxe).aV (cj eRe)
  ·rintro σ Hx ⟨us,kvs,u5,u6,u7,rfl,sx,kb,eR,ed,kx,gx⟩
   rw[Vb,Vw] at gx
   exact⟨_,rfl,q R us kvs Hx sx (fun a o na e=>kb a o na (fun z=>by rw[z,hR] at e; cases e) (sa1 _ _ e)) hR eR gx ed kx⟩
def kg (g:List Int):List Key:=g.map fun i:Int=>(aaS i:Key)
theorem NQ (g:List Int):(kg g).map kV=g.map V.int:=by
 unfold kg
 rw[YM]
 rfl
theorem M5 {c d:List Int} (h:kg c=kg d):c=d:=by
 unfold kg at h
 exact (List.map_inj_right fun a b e=>by
  have:a=b:=Sum.inl.inj e
  exact this).mp h
theorem ik.LK {H:Hp}:∀ {us:List V} {gs:List (List Int)} {g:List Int},ik H us (gs++[g])->∃ (us':List V) (a:Addr),us=us'++[.ref a]/\ik H us' gs/\H a=some (.tup (g.map V.int))
 | _,[],_,.cons h l .nil=>⟨[],_,rfl,.nil,h⟩
 | _,x::gs,g,.cons h l r=>by
  obtain⟨us',a,e,r',ha⟩:=ik.LK (gs:=gs) r
  exact⟨_::us',a,by rw[e]; rfl,.cons h l r',ha⟩
inductive LF (H0 H:Hp):List V->List (List Nat)->Prop where
 | nil:LF H0 H [] []
 | cons {a:Addr} {c:List Nat} {us:List V} {cs:List (List Nat)}:H a=some (.lst (c.map vN))->H0 a=none->LF H0 H us cs->LF H0 H (.ref a::us) (c::cs)
section
variable {n:Nat} {fl lo hi:List Int} {bk:List (List Pl)}
theorem Fj (hb:bk.length=n) (ok:okB bk) (hf:okG n fl) (hlo:Low n fl bk lo):al n fl bk lo []=lo:=by
 have m:=dX hb ok hf hlo []
 refine fG (by rw[jn hb ok hf hlo,hlo.1.1]) (vC (jn hb ok hf hlo []) hlo.1.1 fun i hi=>?_) m.1.2.2.1
 rw[m.1.2.1 i hi (by simp)]
 exact WY _
theorem QX (hb:bk.length=n) (ok:okB bk) (hf:okG n fl) (hlo:Low n fl bk lo) (oh:okG n hi) (fx:fD hi fl bk=hi) (hup:∀ g,LeG g (fD g fl bk)->LeG g hi) (lh:LeG lo hi):al n fl bk lo (ris n lo hi)=hi:=by
 have e:al n fl bk lo (VD n)=hi:=by
  refine (Ot hb ok hf hlo ⟨⟨oh,fun i h1 h2=>absurd (List.mem_range.mpr h1) h2,lh,?_⟩,fun w hw=>hup w hw.2.2.2⟩).symm
  rw[fx]
  exact iG _
 have:=GP hb ok hf hlo (VD n)
 rw[e] at this
 exact this
theorem O8 (hb:bk.length=n) (ok:okB bk) (hf:okG n fl) (hlo:Low n fl bk lo) (hup:∀ g,LeG g (fD g fl bk)->LeG g hi) (c:List Nat) {i:Nat} (h:i∈ris n lo (al n fl bk lo c)):i∈ris n lo hi:=by
 obtain⟨h1,h2⟩:=gR.mp h
 have:=hup _ (dX hb ok hf hlo c).1.2.2.2 i
 exact gR.mpr ⟨h1,by lia⟩
structure HD (n:Nat) (fl:List Int) (bk:List (List Pl)) (lo hi:List Int) (S A F:List (List Nat)):Prop where
 cl:∀ c∈S,ris n lo (al n fl bk lo c)=c
 nd:S.Nodup
 e0:[]∈S
 tp:ris n lo hi∈S
 aS:∀ c∈A,c∈S/\c≠[]
 aN:A.Nodup
 st:∀ c∈S,c ∉ A->c≠[]->∀ one∈c,ris n lo (al n fl bk lo (wo c one))∈S
 fN:F.Nodup
 fI:∀ c,c∈F ↔ c∈S/\c ∉ A/\c≠[]/\Knot n fl bk lo c
theorem HD.len {S A F:List (List Nat)} (h:HD n fl bk lo hi S A F):S.length<=2 ^ n:=by
 have:=dR (m:=dC n) h.nd fun c hc=>by
  rw[← h.cl c hc]
  exact ie _ n
 rw[fP] at this
 exact this
theorem HD.done {S F:List (List Nat)} (hb:bk.length=n) (ok:okB bk) (hf:okG n fl) (hlo:Low n fl bk lo) (hup:∀ g,LeG g (fD g fl bk)->LeG g hi) (h:HD n fl bk lo hi S [] F) (c:List Nat):c∈F ↔ c.Pairwise (· < ·)/\(∀ i∈c,i < n)/\Knot n fl bk lo c:=by
 rw[h.fI]
 refine⟨fun⟨h1,_,_,h4⟩=>?_,fun⟨h1,h2,h3⟩=>?_⟩
 ·refine⟨?_,fun i hi'=>?_,h4⟩
  ·rw[← h.cl c h1]
   exact mG _
  ·rw[← h.cl c h1] at hi'
   exact (gR.mp hi').1
 ·refine⟨Dg hb ok hf hlo h.cl h.tp (fun c i hi'=>O8 hb ok hf hlo hup c hi') (fun c hc c0 one ho=>h.st c hc (by simp) c0 one ho) h1 h2 h3,by simp,fun z=>?_,h3⟩
  rw[z] at h3
  exact h3.1 (Fj hb ok hf hlo)
theorem HD.turn {S A F:List (List Nat)} {c:List Nat} {N:List (List Nat)} (hb:bk.length=n) (ok:okB bk) (hf:okG n fl) (hlo:Low n fl bk lo) (h:HD n fl bk lo hi S (A++[c]) F) (n1:N.Nodup) (n2:∀ d∈N,d ∉ S/\ris n lo (al n fl bk lo d)=d)
  (all:∀ one∈c,ris n lo (al n fl bk lo (wo c one))∈S++N) {F':List (List Nat)} (hF:F'=if (∀ one∈c,al n fl bk lo (wo c one)=lo) then F++[c] else F):HD n fl bk lo hi (S++N) (A++N) F':=by
 obtain⟨cS,c0⟩:=h.aS c (List.mem_append.mpr (.inr (List.mem_singleton.mpr rfl)))
 have cA:c ∉ A:=fun z=>(List.nodup_append.mp h.aN).2.2 c z c (List.mem_singleton.mpr rfl) rfl
 have cN:c ∉ N:=fun z=>(n2 c z).1 cS
 have alc:al n fl bk lo c≠lo:=fun z=>c0 (by rw[← h.cl c cS,z,Mt])
 have kn:Knot n fl bk lo c ↔ ∀ one∈c,al n fl bk lo (wo c one)=lo:=⟨fun k=>k.2,fun k=>⟨alc,k⟩⟩
 have cF:c ∉ F:=fun z=>((h.fI c).mp z).2.1 (List.mem_append.mpr (.inr (List.mem_singleton.mpr rfl)))
 have nn0:∀ d∈N,d≠[]:=fun d hd z=>(n2 d hd).1 (by rw[z]; exact h.e0)
 refine⟨fun d hd=>?_,?_,List.mem_append.mpr (.inl h.e0),List.mem_append.mpr (.inl h.tp),fun d hd=>?_,?_,fun d hd hA d0 one ho=>?_,?_,fun d=>?_⟩
 ·rcases List.mem_append.mp hd with z | z
  ·exact h.cl d z
  ·exact (n2 d z).2
 ·exact List.nodup_append.mpr ⟨h.nd,n1,fun a ha b hb' e=>(n2 b hb').1 (e▸ha)⟩
 ·rcases List.mem_append.mp hd with z | z
  ·obtain⟨a,b⟩:=h.aS d (List.mem_append.mpr (.inl z))
   exact⟨List.mem_append.mpr (.inl a),b⟩
  ·exact⟨List.mem_append.mpr (.inr z),nn0 d z⟩
 ·exact List.nodup_append.mpr ⟨(List.nodup_append.mp h.aN).1,n1,fun a ha b hb' e=>(n2 b hb').1 (e▸(h.aS a (List.mem_append.mpr (.inl ha))).1)⟩
 ·have hdN:d ∉ N:=fun z=>hA (List.mem_append.mpr (.inr z))
  have hdA:d ∉ A:=fun z=>hA (List.mem_append.mpr (.inl z))
  have hdS:d∈S:=by
   rcases List.mem_append.mp hd with z | z
   ·exact z
   ·exact absurd z hdN
  by_cases e:d=c
  ·subst e
   exact all one ho
  ·refine List.mem_append.mpr (.inl (h.st d hdS (fun z=>?_) d0 one ho))
   rcases List.mem_append.mp z with z | z
   ·exact hdA z
   ·exact e (List.mem_singleton.mp z)
 ·rw[hF]
  split
  ·exact List.nodup_append.mpr ⟨h.fN,by simp,fun a ha b hb' e=>cF (by rw[← List.mem_singleton.mp hb',← e]; exact ha)⟩
  ·exact h.fN
 ·have old:d≠c->(d∈F ↔ d∈S++N/\d ∉ A++N/\d≠[]/\Knot n fl bk lo d):=fun ne=>by
   rw[h.fI d]
   refine⟨fun⟨a1,a2,a3,a4⟩=>⟨List.mem_append.mpr (.inl a1),fun z=>?_,a3,a4⟩,fun⟨a1,a2,a3,a4⟩=>⟨?_,fun z=>?_,a3,a4⟩⟩
   ·rcases List.mem_append.mp z with z | z
    ·exact a2 (List.mem_append.mpr (.inl z))
    ·exact (n2 d z).1 a1
   ·rcases List.mem_append.mp a1 with z | z
    ·exact z
    ·exact absurd (List.mem_append.mpr (.inr z)) a2
   ·rcases List.mem_append.mp z with z | z
    ·exact a2 (List.mem_append.mpr (.inl z))
    ·exact ne (List.mem_singleton.mp z)
  rw[hF]
  by_cases k:∀ one∈c,al n fl bk lo (wo c one)=lo
  ·rw[if_pos k,aac,YL]
   by_cases e:d=c
   ·subst e
    exact⟨fun _=>⟨List.mem_append.mpr (.inl cS),fun z=>by
     rcases List.mem_append.mp z with z | z
     ·exact cA z
     ·exact cN z,c0,kn.mpr k⟩,fun _=>.inr rfl⟩
   ·rw[← old e]
    exact⟨fun z=>z.resolve_right e,fun z=>.inl z⟩
  ·rw[if_neg k]
   by_cases e:d=c
   ·subst e
    exact⟨fun z=>absurd z cF,fun z=>absurd (kn.mp z.2.2.2) k⟩
   ·exact old e
end
theorem LF.keep {H0 H H':Hp} (k:∀ (a:Addr) (c:List Nat),H0 a=none->H a=some (HO.lst (c.map vN))->H' a=some (HO.lst (c.map vN))):∀ {us:List V} {cs:List (List Nat)},LF H0 H us cs->LF H0 H' us cs
 | _,_,.nil=>.nil
 | _,_,.cons h1 h2 r=>.cons (k _ _ h2 h1) h2 (LF.keep k r)
theorem LF.snoc {H0 H:Hp} {a:Addr} {c:List Nat} (h1:H a=some (.lst (c.map vN))) (h2:H0 a=none):∀ {us:List V} {cs:List (List Nat)},LF H0 H us cs->LF H0 H (us++[.ref a]) (cs++[c])
 | _,_,.nil=>.cons h1 h2 .nil
 | _,_,.cons k1 k2 r=>.cons k1 k2 (LF.snoc h1 h2 r)
theorem LF.length {H0 H:Hp}:∀ {us:List V} {cs:List (List Nat)},LF H0 H us cs->us.length=cs.length
 | _,_,.nil=>rfl
 | _,_,.cons _ _ r=>by rw[Vr,Vr,LF.length r]
theorem LF.pairs {H0 H:Hp}:∀ {us:List V} {cs:List (List Nat)},LF H0 H us cs->∃ ps:List (Addr × List Int),us=ps.map (fun p=>V.ref p.1)/\ps.map (·.2)=cs.map iN/\∀ p∈ps,∃ c∈cs,p.2=iN c/\H p.1=some (.lst (c.map vN))/\H0 p.1=none
 | _,_,.nil=>⟨[],rfl,rfl,fun p hp=>by cases hp⟩
 | _,_,.cons (a:=a) (c:=c) h1 h2 r=>by
  obtain⟨ps,e1,e2,e3⟩:=LF.pairs r
  refine⟨(a,iN c)::ps,by rw[e1]; rfl,by rw[Wa,Wa,e2],fun p hp=>?_⟩
  rcases List.mem_cons.mp hp with z | z
  ·subst z
   exact⟨c,Vj,rfl,h1,h2⟩
  ·obtain⟨c',h3,h4⟩:=e3 p z
   exact⟨c',Vp _ h3,h4⟩
theorem jD (c:List Nat):(iN c).map aaN=c:=by
 unfold iN
 rw[YM]
 exact (abm fun a _=>V8 a).trans (List.map_id c)
theorem LF.ordered {H0 H:Hp} {cs:List (List Nat)} {ps:List (Addr × List Int)} (h:∀ p∈ps,∃ c∈cs,p.2=iN c/\H p.1=some (.lst (c.map vN))/\H0 p.1=none):∀ {qs:List (Addr × List Int)},(∀ p∈qs,p∈ps)->LF H0 H (qs.map fun p=>V.ref p.1) (qs.map fun p=>p.2.map aaN)
 | [],_=>.nil
 | q::qs,k=>by
  obtain⟨c,_,h2,h3,h4⟩:=h q (k q Vj)
  refine .cons ?_ h4 (LF.ordered h fun p hp=>k p (Vp _ hp))
  show H q.1=some (.lst ((q.2.map aaN).map vN))
  rw[h2,jD]
  exact h3
abbrev yM:Stmt:=top 57
theorem eU:aO ["book","floor","sure","whole","found","known","seen","ahead","giving","rows","row"] ["book","floor"] (aD yM):=⟨rfl,rfl,rfl,by decide+kernel,rfl,by decide+kernel,by decide+kernel⟩
def cY (n:Nat) (fl:List Int) (bk:List (List Pl)) (ks:List (List Nat)):Prop :=
 (∀ lo,Low n fl bk lo->∀ c,c∈ks ↔ c.Pairwise (· < ·)/\(∀ i∈c,i < n)/\Knot n fl bk lo c)/\ks.Pairwise fun c d=>HT.lexLt (iN c) (iN d)=true
inductive zZ (vs:List V) (H:Hp) (Q:VK):Prop where
 | mk (b f:Addr) (n:Nat) (bk:List (List Pl)) (fl:List Int) (z0:vs=[.ref b,.ref f]) (z1:n<=6) (z2:Bh n H b bk) (z3:bk.length=n) (z4:H f=some (.tup (fl.map V.int))) (z5:okG n fl) (z6:∀ (r:Addr) (us:List V) (ks:List (List Nat)) (H':Hp),aZ H H'->H r=none->H' r=some (.lst us)->LF H H' us ks->(∀ a,V.ref a∈us->a≠r)->cY n fl bk ks->Q (.ref r) H'):zZ  vs H Q
def Il:Sp:=fun vs H Q _=>zZ  vs H Q
def KW (n:Nat) (fl:List Int) (bk:List (List Pl)) (lo hi:List Int) (b f su wh fo kn se ah:Addr) (H0 Hi:Hp) (m:Nat) (σ:St) (Hx:Hp):Prop :=
 ∃ (S A F:List (List Nat)) (kvs svs:List (List Key × V)) (ua uf:List V),(∃ u8 u9 u10,σ=[some (.ref b),some (.ref f),some (.ref su),some (.ref wh),some (.ref fo),some (.ref kn),some (.ref se),some (.ref ah),u8,u9,u10])/\m+2 * S.length=2 * 2 ^ n+A.length ∧
 aZ H0 Hx/\(∀ a o,Hi a=some o->∃ o',Hx a=some o')/\HD n fl bk lo hi S A F/\Hx kn=some (.dT kvs)/\xX n fl bk lo Hx kvs/\Hx se=some (.dT svs)/\svs.map (·.1)=S.map (fun c=>kg (al n fl bk lo c))/\Hx ah=some (.lst ua)/\ik Hx ua (A.map fun c=>al n fl bk lo c)/\Hx fo=some (.lst uf)/\LF Hi Hx uf F
theorem KY {k:Nat} (hk1:1<=k) (F:Fun K "knots" "knots" yM f fd) (B:Bt mg)
  (D_least:Df P w K mg base "least" (k+1) ["book","floor"] (Eh Sh)) (D_greatest:Df P w K mg base "greatest" (k+1) ["book","floor"] (Eh rfF)) (D_put_off:Df P w K mg base "put_off" k ["book","sure","giving","known"] Az) (D_risers:Df P w K mg base "risers" 1 ["sure","giving"] uM) :
  cG P w K mg base CX0 (k+2) f fd ["book","floor"] Il:=by
 refine F.ok eU (fun vs H Q E h=>?_) (fun cdv A outer s H vs Q E hr h=>?_)
 ·obtain⟨b,f,n,bk,fl,rfl,_⟩:=h
  rfl
 ·obtain⟨b,f,n,bk,fl,rfl,n6,hB,lb,hf,of,q⟩:=h
  refine⟨_,(au (aW (i:=2) eU.nd rfl (aba rfl) (aX D_least hr (aa (pv 0) (aa (pv 1) aj))))
 (au (aW (i:=3) eU.nd rfl (Vv rfl) (aX D_greatest hr (aa (pv 0) (aa (pv 1) aj))))
 (au (bG (aL (r:=Kp K) (yr hr.oK) (pv 3) (pv 2) (aU _)) (aB (aG (bR aj))) aR)
 (au (aW (i:=4) eU.nd rfl (Vv rfl) (bR aj))
 (au (aW (i:=5) eU.nd rfl (Vv rfl) La)
 (au (aW (i:=6) eU.nd rfl (Vv rfl) (Kz hr.oK (zR (pv 2) gZ (zR (pv 3) gZ Oz)) rfl rfl (by simp) (by decide)))
 (au (aW (i:=7) eU.nd rfl (Vv rfl) (bR (aa (pv 3) aj)))
 (au (uH Wf (aL zH (aF (r:=lR K) bx rfl B.len_ cI (aa (pv 7) aj)) aA (aU _)) (au (aW (i:=8) eU.nd rfl (Vv rfl) (Q7 Wr PySem.F.slot_list_pop PySem.F.type_list_pop QG (pv 7)))
 (au (aW (i:=9) eU.nd rfl (Vv rfl) (aX D_put_off hr (aa (pv 0) (aa (pv 2) (aa (pv 8) (aa (pv 5) aj))))))
 (au (bG (dF (aF (r:=JM K) (qj rfl) rfl B.all_ HN (aa (bQ (L:=["row"]) (F:=["sure"]) (cap:=[2]) rfl (bJ rfl rfl (by kernel_rfl)) (fQ (pv 9)) (fun _ _ _ _ _=>(aK (i:=0) (bA (by decide+kernel)) rfl (Vv rfl))) (fun _ _ _ _ _=>bV) (fun _ _ _ _ _=>(cV (r:=Kp K) (yr hr.oK) (pv 0) (pv 1) (aU _)))) aj))) (aB (bO (o4 Wr WR WQ cH (pv 4) (aa (bH (r:=zE K) sO rfl B.list_ vf (aa (aX D_risers hr (aa (pv 2) (aa (pv 8) aj))) aj)) aj)))) aR)
 (aB (eZ Wf rfl (fQ (pv 9)) (aK (i:=10) eU.nd rfl (Vv rfl)) (aB (bG (Hs (vP hr.wK (pv 10) (pv 6))) (au (Gn hr.wK (pv 6) (pv 10) gZ rfl)
 (aB (bO (o4 Wr WR WQ cH (pv 7) (aa (pv 10) aj))))) aR))))))))
 (aB (aG (aF (r:=Fl K) (yC hr) rfl B.sorted_ (by decide+kernel) (aa (pv 4) aj)))))))))))),?_⟩
  have okb:=hB.okB
  have p6:2 ^ n<=64:=by
   have:2 ^ n<=2 ^ 6:=Z5 (by decide) n6
   simpa using this
  refine aH (fun σ H1=>∃ (su:Addr) (lo:List Int),σ=[some (.ref b),some (.ref f),some (.ref su),none,none,none,none,none,none,none,none]/\aZ H H1/\H1 su=some (.tup (lo.map V.int))/\Low n fl bk lo) ?q1 ?t1
  case t1 =>
   intro N Rc
   exact⟨_,rfl,_,rfl,b,f,n,bk,fl,rfl,hB,lb,hf,of,fun m1 a1 H1 _ st1 s1 e1=>Rc _ _ ⟨a1,_,rfl,s1,e1,nq lb okb of st1⟩⟩
  case q1 =>
  rintro σ H1 ⟨su,lo,rfl,s1,esu,low⟩
  refine aH (fun σ H2=>∃ (wh:Addr) (hi:List Int),σ=[some (.ref b),some (.ref f),some (.ref su),some (.ref wh),none,none,none,none,none,none,none]/\aZ H1 H2/\H2 wh=some (.tup (hi.map V.int))/\okG n hi/\fD hi fl bk=hi/\∀ g,LeG g (fD g fl bk)->LeG g hi) ?q2 ?t2
  case t2 =>
   intro N Rc
   refine⟨_,rfl,_,rfl,b,f,n,bk,fl,rfl,hB.mono s1,lb,s1 _ _ hf,of,fun m2 a2 H2 _ st2 s2 e2=>Rc _ _ ⟨a2,_,rfl,s2,e2,gF lb okb of (lO lb okb of) m2,st2.1,fun g h=>qQ lb okb of h m2⟩⟩
  case q2 =>
  rintro σ H2 ⟨wh,hi,rfl,s2,ewh,oh,fx,hup⟩
  have s12:=s1.trans s2
  have lh:LeG lo hi:=low.2.2 hi (by rw[fx]; exact iG _)
  refine aH (fun σ H3=>σ=[some (.ref b),some (.ref f),some (.ref su),some (.ref wh),none,none,none,none,none,none,none]/\H3=H2/\hi≠lo) ?q3 ?t3
  case t3 =>
   intro N Rc
   refine⟨_,rfl,_,rfl,wh,su,hi,lo,rfl,rfl,SqT.of ewh,SqT.of (s2 _ _ esu),_,rfl,?_⟩
   by_cases e:hi=lo
   ·rw[decide_eq_true e]
    refine fX ⟨small (by show 0<=1000; decide),fun p hp=>?_⟩
    refine q p [] [] _ (s12.trans (aC hp _)) (s12.free hp) aq .nil (fun a h=>by cases h) ⟨fun lo' hlo' c=>⟨fun z=>(by cases z),fun z=>absurd ?_ z.2.2.1⟩,.nil⟩
    have:lo'=lo:=hlo'.uniq low
    subst this
    have m:=dX lb okb of low c
    refine fG (by rw[jn lb okb of low,low.1.1]) ?_ m.1.2.2.1
    have:=hup _ m.1.2.2.2
    rw[e] at this
    exact this
   ·rw[decide_eq_false e]
    exact cX (Rc _ _ ⟨rfl,rfl,e⟩)
  case q3 =>
  rintro σ H3 ⟨rfl,rfl,hne⟩
  refine aH (fun σ H4=>∃ fo:Addr,σ=[some (.ref b),some (.ref f),some (.ref su),some (.ref wh),some (.ref fo),none,none,none,none,none,none]/\aZ H3 H4/\H3 fo=none/\H4 fo=some (.lst [])) ?q4 ?t4
  case t4 =>
   intro N Rc
   exact⟨small (by show 0<=1000; decide),fun p hp=>Rc _ _ ⟨p,rfl,aC hp _,hp,aq⟩⟩
  case q4 =>
  rintro σ H4 ⟨fo,rfl,s4,ffo,efo⟩
  refine aH (fun σ H5=>∃ kn:Addr,σ=[some (.ref b),some (.ref f),some (.ref su),some (.ref wh),some (.ref fo),some (.ref kn),none,none,none,none,none]/\aZ H4 H5/\H4 kn=none/\H5 kn=some (.dT [])) ?q5 ?t5
  case t5 =>
   intro N Rc
   exact fun p hp=>Rc _ _ ⟨p,rfl,aC hp _,hp,aq⟩
  case q5 =>
  rintro σ H5 ⟨kn,rfl,s5,fkn,ekn⟩
  have s35:=s4.trans s5
  refine aH (fun σ H6=>∃ (se:Addr) (svs:List (List Key × V)),σ=[some (.ref b),some (.ref f),some (.ref su),some (.ref wh),some (.ref fo),some (.ref kn),some (.ref se),none,none,none,none]/\aZ H5 H6/\H5 se=none/\H6 se=some (.dT svs)/\svs.map (·.1)=[kg lo,kg hi]) ?q6 ?t6
  case t6 =>
   intro N Rc p hp
   have nk:kg lo≠kg hi:=fun z=>hne (M5 z).symm
   have e1:putK ([]:List (List Key × V)) (kg lo) (.bl true)=[(kg lo,.bl true)]:=n8 _ Lg
   have e2:putK ([(kg lo,.bl true)]:List (List Key × V)) (kg hi) (.bl true)=[(kg lo,.bl true),(kg hi,.bl true)]:=n8 _ (dw nk)
   refine⟨_,rfl,_,rfl,[],kg lo,su,aq,rfl,?_,aJ (by show 0<=1000; decide),_,kg hi,wh,aq,rfl,?_,aJ (by rw[e1]; show 1<=1000; decide),Rc _ _ ⟨p,_,rfl,aQ (aQ (aC hp _) hp _) hp _,hp,aq,by rw[e1,e2]; rfl⟩⟩
   ·rw[NQ]
    exact aC hp _ _ _ (s35 _ _ (s2 _ _ esu))
   ·rw[NQ]
    exact aQ (aC hp _) hp _ _ _ (s35 _ _ ewh)
  case q6 =>
  rintro σ H6 ⟨se,svs0,rfl,s6,fse,ese,esv⟩
  refine aH (fun σ H7=>∃ ah:Addr,σ=[some (.ref b),some (.ref f),some (.ref su),some (.ref wh),some (.ref fo),some (.ref kn),some (.ref se),some (.ref ah),none,none,none]/\aZ H6 H7/\H6 ah=none/\H7 ah=some (.lst [.ref wh])) ?q7 ?t7
  case t7 =>
   intro N Rc
   exact⟨_,rfl,small (by show 1<=1000; decide),fun p hp=>Rc _ _ ⟨p,rfl,aC hp _,hp,aq⟩⟩
  case q7 =>
  rintro σ Hi ⟨ah,rfl,s7,fah,eah⟩
  have s3i:=s35.trans (s6.trans s7)
  have kn3:H3 kn=none:=s4.free fkn
  have se3:H3 se=none:=s35.free fse
  have ah3:H3 ah=none:=(s35.trans s6).free fah
  have efoi:=(s5.trans (s6.trans s7)) _ _ efo
  have ekni:=(s6.trans s7) _ _ ekn
  have esei:=s7 _ _ ese
  have nfa:fo≠ah:=fun z=>by rw[← z,(s5.trans s6) _ _ efo] at fah; cases fah
  have alt:=QX lb okb of low oh fx hup lh
  have rtop:ris n lo hi≠[]:=fun z=>hne (by
   rw[← alt] at z
   have:=N7 lb okb of low z
   rw[alt] at this
   exact this)
  have hBi:=hB.mono s12
  refine aH (fun σ Hx=>∃ (S F:List (List Nat)) (uf:List V),(∃ u8 u9 u10,σ=[some (.ref b),some (.ref f),some (.ref su),some (.ref wh),some (.ref fo),some (.ref kn),some (.ref se),some (.ref ah),u8,u9,u10])/\aZ H3 Hx/\HD n fl bk lo hi S [] F/\Hx fo=some (.lst uf)/\LF Hi Hx uf F) ?qR ?tW
  case qR =>
   rintro σ Hx ⟨S,Fs,uf,⟨u8,u9,u10,rfl⟩,sx,sr,efx,lf⟩
   obtain⟨ps,e1,e2,e3⟩:=lf.pairs
   subst e1
   have fl63:Fs.length < 64:=by
    have h1:=dR (m:=S.erase []) sr.fN fun c hc=>(List.mem_erase_of_ne ((sr.fI c).mp hc).2.2.1).mpr ((sr.fI c).mp hc).1
    rw[List.length_erase_of_mem sr.e0] at h1
    have h2:=sr.len
    have h3:0 < S.length:=List.length_pos_of_mem sr.e0
    lia
   have lps:ps.length=Fs.length:=by
    have:=congrArg aaz e2
    rw[Vb,Vb] at this
    exact this
   have ndp:(ps.map (·.2)).Nodup:=by
    rw[e2]
    exact List.Pairwise.map _ (fun a b ne e=>ne (by rw[← jD a,← jD b,e])) sr.fN
   refine⟨_,rfl,fo,ps,rfl,SqL.of efx,by lia,fun p hp=>?_,ndp,fun qs pq pw l hl=>?_⟩
   ·obtain⟨c,_,h2,h3,_⟩:=e3 p hp
    exact SqL.of (h3.trans (by rw[h2,fK]; rfl))
   ·have inp:∀ p∈qs,p∈ps:=fun p hp=>pq.mem_iff.mp hp
    have sn:=aC hl (.lst (qs.map fun p=>V.ref p.1))
    have lo':=LF.ordered (qs:=qs) e3 inp
    have lo2:LF H (upd Hx l (.lst (qs.map fun p=>V.ref p.1))) (qs.map fun p=>V.ref p.1) (qs.map fun p=>p.2.map aaN):=by
     have:∀ {us cs},LF Hi Hx us cs->LF H (upd Hx l (.lst (qs.map fun p=>V.ref p.1))) us cs:=by
      intro us cs z
      induction z with
      | nil=>exact .nil
      | cons h1 h2 _ ih=>exact .cons (sn _ _ h1) ((s12.trans s3i).free h2) ih
     exact this lo'
    have memF:∀ c,c∈(qs.map fun p=>p.2.map aaN) ↔ c∈Fs:=fun c=>by
     have e4:ps.map (fun p=>p.2.map aaN)=Fs:=by
      have:=congrArg (List.map (List.map aaN)) e2
      rw[YM,YM] at this
      exact this.trans ((abm fun a _=>jD a).trans (List.map_id Fs))
     rw[← e4]
     exact (pq.map _).mem_iff
    refine q l _ _ _ ((s12.trans sx).trans sn) ((s12.trans sx).free hl) aq lo2 (fun a ha=>?_) ⟨fun lo2 hlo2 c=>?_,?_⟩
    ·obtain⟨p,hp,e⟩:=List.mem_map.mp ha
     obtain⟨c,_,_,h3,_⟩:=e3 p (inp p hp)
     intro z
     cases e
     rw[z,hl] at h3
     cases h3
    ·have:lo2=lo:=hlo2.uniq low
     subst this
     rw[memF]
     exact sr.done lb okb of low hup c
    ·rw[ZM]
     refine pw.imp_of_mem fun {a b} ha hb h=>?_
     obtain⟨c,_,h2,_⟩:=e3 a (inp a ha)
     obtain⟨d,_,h3,_⟩:=e3 b (inp b hb)
     rw[h2,h3,jD,jD,← h2,← h3]
     exact h
  case tW =>
   intro N Rc
   have sr0:HD n fl bk lo hi [[],ris n lo hi] [ris n lo hi] []:=by
    refine⟨fun c hc=>?_,?_,by simp,by simp,fun c hc=>?_,by simp,fun c hc hA c0=>?_,.nil,fun c=>⟨fun z=>(by cases z),fun z=>?_⟩⟩
    ·rcases List.mem_cons.mp hc with z | z
     ·rw[z,Fj lb okb of low,Mt]
     ·rw[List.mem_singleton.mp z,alt]
    ·refine List.nodup_cons.mpr ⟨fun z=>rtop (List.mem_singleton.mp z).symm,by simp⟩
    ·rw[List.mem_singleton.mp hc]
     exact⟨by simp,rtop⟩
    ·rcases List.mem_cons.mp hc with z | z
     ·exact absurd z c0
     ·exact absurd z hA
    ·rcases List.mem_cons.mp z.1 with y | y
     ·exact absurd y z.2.2.1
     ·exact absurd y z.2.1
   refine⟨KW n fl bk lo hi b f su wh fo kn se ah H3 Hi,⟨2 * 2 ^ n+1 - 4,[[],ris n lo hi],[ris n lo hi],[],[],svs0,[.ref wh],[],⟨_,_,_,rfl⟩,?_,s3i,fun a o e=>⟨o,e⟩,sr0,ekni,⟨.nil,fun p hp=>by cases hp⟩,esei,?_,eah,?_,efoi,.nil⟩,?_⟩
   ·have:=sr0.len
    show _+2 * 2=2 * 2 ^ n+1
    have h2:([[],ris n lo hi]:List (List Nat)).length=2:=rfl
    lia
   ·rw[esv,Wa,Wa,aai,Fj lb okb of low,alt]
   ·rw[Wa,aai,alt]
    exact .cons (s3i _ _ ewh) (by rw[oh.1]; lia) .nil
   rintro m σ Hx ⟨S,Ap,Fs,kvs,svs,ua,uf,⟨u8,u9,u10,rfl⟩,hm,sx,kept,sr,ekx,kno,esx,esk,eax,gax,efx,lf⟩
   refine⟨_,rfl,ah,_,rfl,.inl (SqL.of eax),_,_,rfl,rfl,_,rfl,?_⟩
   rcases List.eq_nil_or_concat Ap with hA | ⟨A',c,hA⟩
   ·subst hA
    cases gax
    exact cX (Rc _ _ ⟨S,Fs,uf,⟨_,_,_,rfl⟩,sx,sr,efx,lf⟩)
   rw[List.concat_eq_append] at hA
   subst hA
   rw[Vl] at gax
   obtain⟨ua',ga,rfl,gax',ega0⟩:=gax.LK
   have ega:Hx ga=some (.tup ((al n fl bk lo c).map V.int)):=ega0
   rw[decide_eq_true (show (((ua'++[V.ref ga]).length:Nat):Int) > 0 by rw[Ve]; have:([V.ref ga]:List V).length=1:=rfl; lia)]
   refine fX ⟨fun σ' H'=>∃ m',m' < m/\KW n fl bk lo hi b f su wh fo kn se ah H3 Hi m' σ' H',fun _ _ h=>h,?_⟩
   obtain⟨cS,c0⟩:=sr.aS c (List.mem_append.mpr (.inr (List.mem_singleton.mpr rfl)))
   have hcl:=sr.cl c cS
   have c12:c.length<=6:=by
    rw[← hcl]
    exact V2 (WW _ _) (by rw[VP]; exact n6)
   refine aH (fun σ Hy=>σ=[some (.ref b),some (.ref f),some (.ref su),some (.ref wh),some (.ref fo),some (.ref kn),some (.ref se),some (.ref ah),some (.ref ga),u9,u10]/\Hy=upd Hx ah (.lst ua')) ?qp ?tp
   case tp =>
    intro N2 Rc2
    refine⟨_,rfl,.inl ⟨rfl,_,SqL.of eax⟩,ah,_,.ref ga,rfl,rfl,eax,by simp,Rc2 _ _ ⟨rfl,by rw[List.dropLast_concat]⟩⟩
   case qp =>
   rintro σ Hy ⟨rfl,eHy⟩
   have sHy:aZ H3 Hy:=by rw[eHy]; exact aQ sx ah3 _
   have yo:∀ a o,a≠ah->Hx a=some o->Hy a=some o:=fun a o na e=>by rw[eHy,bh na]; exact e
   have nka:kn≠ah:=fun z=>by rw[z,eax] at ekx; cases ekx
   have nsa:se≠ah:=fun z=>by rw[z,eax] at esx; cases esx
   have nsk:se≠kn:=fun z=>by rw[z,ekn] at fse; cases fse
   have tyo:∀ a xs,Hx a=some (HO.tup xs)->Hy a=some (HO.tup xs):=fun a xs e=>yo a _ (fun z=>by rw[z,eax] at e; cases e) e
   have eya:Hy ah=some (.lst ua'):=by rw[eHy]; exact aq
   refine aH (fun σ Hz=>∃ (ro:Addr) (ur:List V) (kvs':List (List Key × V)),σ=[some (.ref b),some (.ref f),some (.ref su),some (.ref wh),some (.ref fo),some (.ref kn),some (.ref se),some (.ref ah),some (.ref ga),some (.ref ro),u10]/\aZ H3 Hz/\(∀ a o,a≠kn->Hy a=some o->Hz a=some o)/\Hy ro=none/\Hz ro=some (.lst ur)/\ik Hz ur (c.map fun one=>al n fl bk lo (wo c one))/\Hz kn=some (.dT kvs')/\xX n fl bk lo Hz kvs') ?qo ?to
   case to =>
    intro N2 Rc2
    exact⟨_,rfl,_,rfl,_,rfl,_,rfl,b,su,ga,kn,n,bk,fl,lo,c,kvs,H3,rfl,by lia,sHy,kn3,hBi,lb,of,s2 _ _ esu,low,tyo _ _ ega,hcl,yo _ _ nka ekx,kno.aV tyo,fun r us kvs' H' h1 h2 h3 h4 h5 h6 h7=>Rc2 _ _ ⟨r,us,kvs',rfl,h1,h2,h3,h4,h5,h6,h7⟩⟩
   case qo =>
   rintro σ Hz ⟨ro,ur,kvs',rfl,sz,yz,fro,ero,gr,ekz,knz⟩
   have efy:=yo _ _ nfa efx
   have nfk:fo≠kn:=fun z=>by rw[z,ekx] at efx; cases efx
   have nfs:fo≠se:=fun z=>by rw[z,esx] at efx; cases efx
   have efz:=yz _ _ nfk efy
   have ezs:Hz se=some (.dT svs):=yz _ _ nsk (yo _ _ nsa esx)
   have eza:Hz ah=some (.lst ua'):=yz _ _ nka.symm eya
   have tyz:∀ a xs,Hy a=some (HO.tup xs)->Hz a=some (HO.tup xs):=fun a xs e=>yz a _ (fun z=>by rw[z,yo _ _ nka ekx] at e; cases e) e
   have egz:=tyz _ _ (tyo _ _ ega)
   have keptz:∀ a o,Hi a=some o->∃ o',Hz a=some o':=fun a o e=>by
    obtain⟨o',e'⟩:=kept a o e
    by_cases z1:a=kn
    ·rw[z1]; exact⟨_,ekz⟩
    ·by_cases z2:a=ah
     ·rw[z2]; exact⟨_,eza⟩
     ·exact⟨o',yz _ _ z1 (yo _ _ z2 e')⟩
   have fresh:∀ {a:Addr} {G:Hp},(∀ b o,Hz b=some o->∃ o',G b=some o')->G a=none->Hi a=none:=fun {a G} kp e=>by
    cases z:Hi a with
    | none=>rfl
    | some o =>
     obtain⟨o1,h1⟩:=keptz a o z
     obtain⟨o2,h2⟩:=kp a o1 h1
     rw[e] at h2
     cases h2
   have lfz:LF Hi Hz uf Fs:=lf.keep fun a c' ha e=>yz _ _ (fun z=>by rw[z,ekni] at ha; cases ha) (yo _ _ (fun z=>by rw[z,eah] at ha; cases ha) e)
   have nro:ro≠ah/\ro≠se/\ro≠fo:=⟨fun z=>(by rw[z,eya] at fro; cases fro),fun z=>(by rw[z,yo _ _ nsa esx] at fro; cases fro),fun z=>(by rw[z,efy] at fro; cases fro)⟩
   have luf:uf.length<=64:=by
    rw[lf.length]
    have h1:=dR (m:=S) sr.fN fun c hc=>((sr.fI c).mp hc).1
    have:=sr.len
    lia
   refine aH (fun σ Hw=>∃ uf':List V,σ=[some (.ref b),some (.ref f),some (.ref su),some (.ref wh),some (.ref fo),some (.ref kn),some (.ref se),some (.ref ah),some (.ref ga),some (.ref ro),u10]/\aZ H3 Hw/\(∀ a o,a≠fo->Hz a=some o->Hw a=some o)/\Hw fo=some (.lst uf')/\LF Hi Hw uf' (if (∀ one∈c,al n fl bk lo (wo c one)=lo) then Fs++[c] else Fs)) ?qf ?tf
   case tf =>
    intro N2 Rc2
    have lrw:(c.map fun one=>al n fl bk lo (wo c one)).length<=6:=by rw[Vb]; exact c12
    have lur:=gr.length
    refine⟨_,rfl,ro,rfl,⟨_,SqL.of ero⟩,fun D hD=>gY (K:=K) (a:=ro) (xs:=ur) (fun i zs σ' Hq=>(∃ u,σ'=[u,some (.ref su)])/\aZ Hz Hq/\Hq D=some (.lst zs)/\zs=(((c.map fun one=>al n fl bk lo (wo c one)).take i).map fun g=>decide (g=lo)).map V.bl)
     ⟨⟨_,rfl⟩,aC hD _,aq,rfl⟩ (fun i zs σ' Hq _ h=>⟨SqL.of (h.2.1 _ _ ero),h.2.2.1⟩) ?_ ?_⟩
    ·rintro i zs x σ' Hq hx ⟨⟨u,rfl⟩,sq,eDq,rfl⟩
     obtain⟨a,g,rfl,hg,ea,_⟩:=gr.at hx
     refine gT ?_
     refine⟨_,rfl,_,rfl,a,su,g,lo,rfl,rfl,SqT.of (sq _ _ ea),SqT.of ((sz.trans sq) _ _ (s2 _ _ esu)),eDq,aJ (by rw[Vb,Vb,Vz]; lia),⟨_,rfl⟩,aQ sq hD _,aq,?_⟩
     rw[V1,hg,Vl,Vl]
     rfl
    ·rintro zs σ' Hq ⟨_,sq,eDq,rfl⟩
     rw[lur,Vw] at eDq
     refine⟨D,_,rfl,SqL.of eDq,_,rfl,?_⟩
     have hall:(((c.map fun one=>al n fl bk lo (wo c one)).map fun g=>decide (g=lo)).all fun b=>b)=decide (∀ one∈c,al n fl bk lo (wo c one)=lo):=by
      rw[ZF,ab6]
      simp
     rw[hall]
     by_cases e:∀ one∈c,al n fl bk lo (wo c one)=lo
     ·rw[decide_eq_true e]
      have efq:=sq _ _ efz
      refine fX ⟨_,rfl,.inl ⟨rfl,_,SqL.of efq⟩,_,rfl,_,rfl,su,ga,n,lo,_,rfl,by lia,(sz.trans sq) _ _ (s2 _ _ esu),low.1,sq _ _ egz,(dX lb okb of low c).1.1,fun rr Hr sr' err=>⟨rr,c.map vN,rfl,.inr (SqT.of (err.trans (by rw[hcl]))),fun l hl=>?_⟩⟩
      have sn:=aC hl (.lst (c.map vN))
      have sqr:=sq.trans sr'
      have efl:=(sr'.trans sn) _ _ efq
      refine⟨fo,uf,_,rfl,rfl,efl,aJ (by lia),?_⟩
      ·refine Rc2 _ _ ⟨_,rfl,?_,fun a o na e'=>by rw[bh na]; exact (sqr.trans sn) _ _ e',aq,?_⟩
       ·exact aQ (sz.trans (sqr.trans sn)) ffo _
       ·rw[if_pos e]
        have hl0:Hi l=none:=fresh (G:=Hr) (fun b o e'=>⟨o,sqr _ _ e'⟩) hl
        have lfn:LF Hi (upd Hr l (.lst (c.map vN))) uf Fs:=lfz.keep fun a c' ha e'=>(sqr.trans sn) _ _ e'
        exact (LF.snoc aq hl0 lfn).keep fun a c' ha e'=>by
         rw[bh (fun z=>by rw[z,efoi] at ha; cases ha)]
         exact e'
     ·rw[decide_eq_false e]
      refine cX (Rc2 _ _ ⟨uf,rfl,sz.trans sq,fun a o _ e'=>sq _ _ e',sq _ _ efz,?_⟩)
      rw[if_neg e]
      exact lfz.keep fun a c' ha e'=>sq _ _ e'
   case qf =>
   rintro σ Hw ⟨uf',rfl,sw,zw,efw,lfw⟩
   have erw:Hw ro=some (.lst ur):=zw _ _ nro.2.2 ero
   have esw:Hw se=some (.dT svs):=zw _ _ nfs.symm ezs
   have eaw:Hw ah=some (.lst ua'):=zw _ _ nfa.symm eza
   have ekw:Hw kn=some (.dT kvs'):=zw _ _ nfk.symm ekz
   have tzw:∀ a xs,Hz a=some (HO.tup xs)->Hw a=some (HO.tup xs):=fun a xs e=>zw a _ (fun z=>by rw[z,efz] at e; cases e) e
   have gaw:ik Hw ua' (A'.map fun c=>al n fl bk lo c):=gax'.aV fun a xs e=>tzw _ _ (tyz _ _ (tyo _ _ e))
   have grw:=gr.aV tzw
   have keptw:∀ a o,Hi a=some o->∃ o',Hw a=some o':=fun a o e=>by
    obtain⟨o',e'⟩:=keptz a o e
    by_cases z1:a=fo
    ·rw[z1]; exact⟨_,efw⟩
    ·exact⟨o',zw _ _ z1 e'⟩
   refine⟨_,rfl,ro,rfl,⟨_,SqL.of erw⟩,iU (K:=K) (a:=ro) (xs:=ur) (fun i σ Hv=>∃ (Nn:List (List Nat)) (svs2:List (List Key × V)) (ua2:List V),(∃ v10,σ=[some (.ref b),some (.ref f),some (.ref su),some (.ref wh),some (.ref fo),some (.ref kn),some (.ref se),some (.ref ah),some (.ref ga),some (.ref ro),v10])/\aZ H3 Hv/\(∀ a o,a≠se->a≠ah->Hw a=some o->Hv a=some o)/\Hv se=some (.dT svs2)/\svs2.map (·.1)=(S++Nn).map (fun c=>kg (al n fl bk lo c))/\Hv ah=some (.lst ua2)/\ik Hv ua2 ((A'++Nn).map fun c=>al n fl bk lo c)/\Nn.Nodup/\(∀ d∈Nn,d ∉ S/\ris n lo (al n fl bk lo d)=d)/\∀ one∈c.take i,ris n lo (al n fl bk lo (wo c one))∈S++Nn)
    ⟨[],svs,ua',⟨_,rfl⟩,sw,fun a o _ _ e=>e,esw,by rw[WK]; exact esk,eaw,by rw[WK]; exact gaw,.nil,fun d hd=>(by cases hd),fun one ho=>(by rw[Wk] at ho; cases ho)⟩ (fun i σ Hv _ h=>?_) ?_ ?_⟩
   ·obtain⟨_,_,_,_,_,kp,_⟩:=h
    exact SqL.of (kp _ _ nro.2.1 nro.1 erw)
   ·rintro i x σ Hv hx ⟨Nn,svs2,ua2,⟨v10,rfl⟩,sv,kp,es2,ek2,ea2,g2,nn,nS,al2⟩
    obtain⟨a,g,rfl,hg,ea,_⟩:=grw.at hx
    rw[VF] at hg
    obtain⟨one,hone,rfl⟩:=Option.map_eq_some_iff.mp hg
    have ea':Hv a=some (.tup ((al n fl bk lo (wo c one)).map V.int)):=kp _ _ (fun z=>by rw[z,esw] at ea; cases ea) (fun z=>by rw[z,eaw] at ea; cases ea) ea
    have hd:=GP lb okb of low (wo c one)
    have key:Hv a=some (.tup ((kg (al n fl bk lo (wo c one))).map kV)):=by rw[NQ]; exact ea'
    have nds:(S++Nn).Nodup:=List.nodup_append.mpr ⟨sr.nd,nn,fun a ha b hb' e=>(nS b hb').1 (e▸ha)⟩
    have lSN:(S++Nn).length<=64:=by
     have:=dR (m:=dC n) nds fun d hd'=>by
      have:ris n lo (al n fl bk lo d)=d:=by
       rcases List.mem_append.mp hd' with z | z
       ·exact sr.cl d z
       ·exact (nS d z).2
      rw[← this]
      exact ie _ n
     rw[fP] at this
     lia
    have lsv:svs2.length=(S++Nn).length:=by
     have:=congrArg aaz ek2
     rw[Vb,Vb] at this
     exact this
    have lua:=g2.length
    rw[Vb,Ve] at lua
    have lA:A'.length<=64:=by
     have h1:=dR (m:=S) (List.nodup_append.mp sr.aN).1 fun d hd'=>(sr.aS d (List.mem_append.mpr (.inl hd'))).1
     rw[Ve] at lSN
     lia
    have nxt:∀ {X:List (List Nat)},(∀ d∈S++Nn,d∈X)->ris n lo (al n fl bk lo (wo c one))∈X->∀ o'∈c.take (i+1),ris n lo (al n fl bk lo (wo c o'))∈X:=fun {X} h1 h2 o' ho=>by
     rw[V1,hone,aac] at ho
     rcases ho with z | z
     ·exact h1 _ (al2 o' z)
     ·cases List.mem_singleton.mp z
      exact h2
    refine gN ?_
    refine⟨_,rfl,_,rfl,se,jJ svs2 (kg (al n fl bk lo (wo c one))),rfl,Jy.t es2 key,_,rfl,?_⟩
    cases hv:jJ svs2 (kg (al n fl bk lo (wo c one))) with
    | some v =>
     refine cX ⟨Nn,svs2,ua2,⟨_,rfl⟩,sv,kp,es2,ek2,ea2,g2,nn,nS,nxt (fun d z=>z) ?_⟩
     unfold jJ at hv
     obtain⟨p,hp,_⟩:=Option.map_eq_some_iff.mp hv
     have k1:p.1=kg (al n fl bk lo (wo c one)):=by simpa using List.find?_some hp
     have k2:p.1∈svs2.map (·.1):=List.mem_map.mpr ⟨p,List.mem_of_find?_eq_some hp,rfl⟩
     rw[ek2] at k2
     obtain⟨d,hd1,hd2⟩:=List.mem_map.mp k2
     have hd3:=M5 (hd2.trans k1)
     have hd4:ris n lo (al n fl bk lo d)=d:=by
      rcases List.mem_append.mp hd1 with z | z
      ·exact sr.cl d z
      ·exact (nS d z).2
     rw[← hd3,hd4]
     exact hd1
    | none =>
     have dN:ris n lo (al n fl bk lo (wo c one)) ∉ S++Nn:=fun z=>by
      have:kg (al n fl bk lo (wo c one))∈svs2.map (·.1):=by
       rw[ek2]
       exact List.mem_map.mpr ⟨_,z,by rw[hd]⟩
      obtain⟨p,hp,e⟩:=List.mem_map.mp this
      unfold jJ at hv
      exact List.find?_eq_none.mp (Option.map_eq_none_iff.mp hv) p hp (decide_eq_true e)
     refine fX ⟨_,rfl,_,rfl,se,_,rfl,Qu.t es2 key (aJ (by lia)),?_⟩
     have ea3:upd Hv se (.dT (putK svs2 (kg (al n fl bk lo (wo c one))) (.bl true))) ah=some (.lst ua2):=by rw[bh nsa.symm]; exact ea2
     refine⟨_,rfl,.inl ⟨rfl,_,SqL.of ea3⟩,_,rfl,ah,ua2,_,rfl,rfl,ea3,aJ (by rw[Ve] at lSN; lia),?_⟩
     refine⟨Nn++[ris n lo (al n fl bk lo (wo c one))],_,ua2++[.ref a],⟨_,rfl⟩,aQ (aQ sv se3 _) ah3 _,fun a' o' n1 n2 e'=>by rw[bh n2,bh n1]; exact kp _ _ n1 n2 e',by rw[bh nsa]; exact aq,?_,aq,?_,?_,fun d hd'=>?_,nxt (fun d z=>?_) ?_⟩
     ·rw[n8 _ hv,Vl,ek2,← XJ,Vl (l₁:=S++Nn)]
      show _++[kg (al n fl bk lo (wo c one))]=_++[kg (al n fl bk lo (ris n lo (al n fl bk lo (wo c one))))]
      rw[hd]
     ·rw[← XJ,Vl]
      have t1:=pR (o:=.dT (putK svs2 (kg (al n fl bk lo (wo c one))) (.bl true))) es2
      refine ik.aV (cj ea3) (ik.snoc ?_ (by rw[jn lb okb of low]; lia) (g2.aV t1))
      show upd Hv se _ a=some (.tup ((al n fl bk lo (ris n lo (al n fl bk lo (wo c one)))).map V.int))
      rw[hd]
      exact t1 _ _ ea'
     ·exact List.nodup_append.mpr ⟨nn,by simp,fun x hx' y hy e=>dN (List.mem_append.mpr (.inr (by rw[← List.mem_singleton.mp hy,← e]; exact hx')))⟩
     ·rcases List.mem_append.mp hd' with z | z
      ·exact nS d z
      ·rw[List.mem_singleton.mp z]
       exact⟨fun q=>dN (List.mem_append.mpr (.inl q)),by rw[hd]⟩
     ·rw[← XJ]
      exact List.mem_append.mpr (.inl z)
     ·rw[← XJ]
      exact List.mem_append.mpr (.inr (List.mem_singleton.mpr rfl))
   ·rintro σ Hv ⟨Nn,svs2,ua2,⟨v10,rfl⟩,sv,kp,es2,ek2,ea2,g2,nn,nS,al2⟩
    rw[grw.length,Vb,Vw] at al2
    have sr2:=HD.turn lb okb of low sr nn nS al2 rfl
    have l2:=sr2.len
    rw[Ve] at l2 hm
    have l1:([c]:List (List Nat)).length=1:=rfl
    have tw:∀ a xs,Hw a=some (HO.tup xs)->Hv a=some (HO.tup xs):=fun a xs e=>kp _ _ (fun z=>by rw[z,esw] at e; cases e) (fun z=>by rw[z,eaw] at e; cases e) e
    refine⟨2 * 2 ^ n+(A'++Nn).length - 2 * (S++Nn).length,by rw[Ve,Ve]; lia,S++Nn,A'++Nn,_,kvs',svs2,ua2,uf',⟨_,_,_,rfl⟩,by rw[Ve,Ve]; lia,sv,fun a o e=>?_,sr2,kp _ _ nsk.symm nka ekw,knz.aV fun a xs e=>tw _ _ (tzw _ _ e),es2,ek2,ea2,g2,kp _ _ nfs nfa efw,lfw.keep fun a c' ha e=>kp _ _ (fun z=>by rw[z,esei] at ha; cases ha) (fun z=>by rw[z,eah] at ha; cases ha) e⟩
    obtain⟨o',e'⟩:=keptw a o e
    by_cases z1:a=se
    ·rw[z1]; exact⟨_,es2⟩
    ·by_cases z2:a=ah
     ·rw[z2]; exact⟨_,ea2⟩
     ·exact⟨o',kp _ _ z1 z2 e'⟩
section
variable {n:Nat} {fl lo:List Int} {bk:List (List Pl)}
theorem cY.uniq (hb:bk.length=n) (ok:okB bk) (hf:okG n fl) (hlo:Low n fl bk lo) {ks js:List (List Nat)} (h:cY n fl bk ks) (h':cY n fl bk js):ks=js:=by
 have m:∀ c,c∈ks ↔ c∈js:=fun c=>(h.1 lo hlo c).trans (h'.1 lo hlo c).symm
 have p1:=h.2
 have p2:=h'.2
 clear h h'
 induction ks generalizing js with
 | nil =>
  cases js with
  | nil=>rfl
  | cons x _=>exact absurd ((m x).mpr Vj) (by simp)
 | cons x ks ih =>
  cases js with
  | nil=>exact absurd ((m x).mp Vj) (by simp)
  | cons y js =>
   rw[W6] at p1 p2
   have irr:∀ {a b:List Nat},HT.lexLt (iN a) (iN b)=true->HT.lexLt (iN b) (iN a)=true->False:=fun h1 h2=>by
    have:=j9 h1 h2
    rw[jC] at this
    cases this
   have hxy:x=y:=by
    rcases List.mem_cons.mp ((m x).mp Vj) with z | z
    ·exact z
    ·rcases List.mem_cons.mp ((m y).mpr Vj) with z' | z'
     ·exact z'.symm
     ·exact (irr (p2.1 x z) (p1.1 y z')).elim
   subst hxy
   have ne:∀ {c},HT.lexLt (iN x) (iN c)=true->c≠x:=fun h e=>by
    rw[e,jC] at h
    cases h
   refine congrArg _ (ih (fun c=>⟨fun h=>?_,fun h=>?_⟩) p1.2 p2.2)
   ·exact (List.mem_cons.mp ((m c).mp (Vp _ h))).resolve_left (ne (p1.1 c h))
   ·exact (List.mem_cons.mp ((m c).mpr (Vp _ h))).resolve_left (ne (p2.1 c h))
end
def cD (c:List Nat):Dm:=.lst ((iN c).map Dm.int)
theorem QH {H:Hp} {a:Addr} {c:List Nat} (h:H a=some (.lst (c.map vN))) (l:c.length<=1000):Rep H (.ref a) (cD c):=by
 rw[fK] at h
 exact .lst h (by rw[Vb,Vb]; lia) (o8 _)
theorem QV (c:List Nat):(cD c).dep=1:=by
 unfold cD
 rw[Dm.dep,oO]
theorem LF.rep {H0 H:Hp}:∀ {us:List V} {cs:List (List Nat)},LF H0 H us cs->(∀ c∈cs,c.length<=1000)->tM H us (cs.map cD)
 | _,_,.nil,_=>.nil
 | _,_,.cons h _ r,l=>.cons (QH h (l _ Vj)) (LF.rep r fun c hc=>l c (Vp _ hc))
theorem Jd:∀ cs:List (List Nat),rR (cs.map cD)<=1
 | []=>by rw[aai,rR]; decide
 | c::cs=>by
  have:=Jd cs
  rw[Wa,rR]
  have:(cD c).dep=1:=QV c
  lia
theorem LF.mono {H0 H H':Hp} (s:aZ H H') {us:List V} {cs:List (List Nat)} (h:LF H0 H us cs):LF H0 H' us cs:=h.keep fun a c _ q=>s _ _ q
theorem cY.few {n:Nat} {fl lo:List Int} {bk:List (List Pl)} {ks:List (List Nat)} (hlo:Low n fl bk lo) (h:cY n fl bk ks):ks.length<=2 ^ n/\∀ c∈ks,c.length<=n:=by
 refine⟨?_,fun c hc=>?_⟩
 ·have nd:ks.Nodup:=h.2.imp fun {a b} q e=>by
   rw[e,jC] at q
   cases q
  have:=dR (m:=dC n) nd fun c hc=>by
   obtain⟨h1,h2,_⟩:=(h.1 lo hlo c).mp hc
   rw[← lU h1 h2]
   exact ie _ n
  rw[fP] at this
  exact this
 ·obtain⟨h1,h2,_⟩:=(h.1 lo hlo c).mp hc
  have:=sE (m:=0) h1 fun k hk=>⟨VL _,h2 k hk⟩
  lia
def Jx (n:Nat) (fl:List Int) (bk:List (List Pl)) (hi:List Int):Prop:=okG n hi/\fD hi fl bk=hi/\∀ g,LeG g (fD g fl bk)->LeG g hi
open Classical in
def cl (n:Nat) (bk:List (List Pl)) (x:List Int):List Int:=if h:∃ y,Low n x bk y then Classical.choose h else []
section
variable {n:Nat} {fl hi:List Int} {bk:List (List Pl)}
theorem Jx.uniq {a b:List Int} (h:Jx n fl bk a) (h':Jx n fl bk b):a=b :=
 fG (by rw[h.1.1,h'.1.1]) (h'.2.2 _ (by rw[h.2.1]; exact iG _)) (h.2.2 _ (by rw[h'.2.1]; exact iG _))
theorem tZ (hb:bk.length=n) (ok:okB bk) (hf:okG n fl) {m:Nat} (st:Stops (Fd fl bk) (rfF fl bk) m):Jx n fl bk (itF (Fd fl bk) (rfF fl bk) m) :=
 ⟨gF hb ok hf (lO hb ok hf) m,st.1,fun _ h=>qQ hb ok hf h m⟩
end
mutual
def mnF:Tm->List Nat
 | .free=>[]
 | .never=>[]
 | .gives i _=>[i]
 | .sum c _=>c
 | .crowd c _ _=>c
 | .all ts=>mnL ts
 | .any ts=>mnL ts
def mnL:List Tm->List Nat
 | []=>[]
 | t::r=>mnF t++mnL r
end
theorem lW:∀ (ts us:List Tm),mnL (ts++us)=mnL ts++mnL us
 | [],us=>by rw[mnL]; rfl
 | t::r,us=>by rw[ab5,mnL,mnL,lW r us,XJ]
theorem Bx {ts:List Tm} {i:Nat} {t:Tm} (h:ts[i]? = some t):mnL (ts.take (i+1))=mnL (ts.take i)++mnF t:=by
 rw[V1,h,lW]
 show _++mnL [t]=_
 rw[mnL,mnL,WK]
theorem Bu:∀ {c:List Nat} {n:Nat},c.Pairwise (· < ·)->(∀ i∈c,i < n)->c.length<=n:=by
 have key:∀ (c:List Nat) (a n:Nat),c.Pairwise (· < ·)->(∀ i∈c,a<=i/\i < n)->c.length<=n - a:=by
  intro c
  induction c with
  | nil=>intro a n _ _; exact VL _
  | cons x r ih =>
   intro a n hp hb
   rw[W6] at hp
   have hx:=hb x Vj
   have:=ih (x+1) n hp.2 fun i hi=>⟨hp.1 i hi,(hb i (Vp _ hi)).2⟩
   rw[Vr]
   lia
 intro c n hp hb
 have:=key c 0 n hp fun i hi=>⟨VL _,hb i hi⟩
 lia
mutual
theorem Mj {n:Nat} {H:Hp} (hn:n<=12):∀ (d:Nat) {v:V} {t:Tm},jg n H v t->t.dep<=d+1->(mnF t).length<=12 * 6 ^ d
 | d,_,_,.free _,_=>by rw[mnF]; exact VL _
 | d,_,_,.never _,_=>by rw[mnF]; exact VL _
 | d,_,_,.gives _ _ _ _,_=>by
  rw[mnF]
  have:0 < 6 ^ d:=Nat.pow_pos (by decide)
  show 1<=_
  lia
 | d,_,_,.sum _ _ hc hp _ _ _ _,_=>by
  rw[mnF]
  have:=Bu hp hc
  have:0 < 6 ^ d:=Nat.pow_pos (by decide)
  lia
 | d,_,_,.crowd _ _ hc hp _ _ _ _ _ _,_=>by
  rw[mnF]
  have:=Bu hp hc
  have:0 < 6 ^ d:=Nat.pow_pos (by decide)
  lia
 | 0,_,_,.all (vs:=vs) (ts:=ts) _ _ l2 _ rl,hd=>by
  have:=um rl l2
  rw[Tm.dep] at hd
  lia
 | d+1,_,_,.all (ts:=ts) _ _ _ l6 rl,hd=>by
  rw[mnF]
  rw[Tm.dep] at hd
  have h1:=zq hn d rl (by lia)
  have h2:=rl.length
  have h3:ts.length * (12 * 6 ^ d)<=6 * (12 * 6 ^ d):=Nat.mul_le_mul_right _ (by lia)
  rw[Nat.pow_succ]
  lia
 | 0,_,_,.any (vs:=vs) (ts:=ts) _ _ l2 _ rl,hd=>by
  have:=um rl l2
  rw[Tm.dep] at hd
  lia
 | d+1,_,_,.any (ts:=ts) _ _ _ l6 rl,hd=>by
  rw[mnF]
  rw[Tm.dep] at hd
  have h1:=zq hn d rl (by lia)
  have h2:=rl.length
  have h3:ts.length * (12 * 6 ^ d)<=6 * (12 * 6 ^ d):=Nat.mul_le_mul_right _ (by lia)
  rw[Nat.pow_succ]
  lia
theorem zq {n:Nat} {H:Hp} (hn:n<=12):∀ (d:Nat) {vs:List V} {ts:List Tm},cU n H vs ts->tdL ts<=d+1->(mnL ts).length<=ts.length * (12 * 6 ^ d)
 | d,_,_,.nil,_=>by rw[mnL]; exact VL _
 | d,_,_,.cons (ts:=ts) h r,hd=>by
  rw[tdL] at hd
  have h1:=Mj hn d h (by lia)
  have h2:=zq hn d r (by lia)
  rw[mnL,Ve,Vr,Nat.add_mul,Nat.one_mul]
  lia
theorem um {n:Nat} {H:Hp}:∀ {vs:List V} {ts:List Tm},cU n H vs ts->2<=vs.length->1<=tdL ts
 | _,_,.nil,h=>by simp at h
 | _,_,.cons (t:=t) _ _,_=>by
  rw[tdL]
  have:=t.pF
  lia
end
mutual
theorem Ro {n:Nat} {H:Hp}:∀ {v:V} {t:Tm},jg n H v t->∀ i∈mnF t,i < n
 | _,_,.free _=>fun i hi=>by rw[mnF] at hi; cases hi
 | _,_,.never _=>fun i hi=>by rw[mnF] at hi; cases hi
 | _,_,.gives _ h _ _=>fun i hi=>by rw[mnF] at hi; rw[List.mem_singleton.mp hi]; exact h
 | _,_,.sum _ _ hc _ _ _ _ _=>fun i hi=>by rw[mnF] at hi; exact hc i hi
 | _,_,.crowd _ _ hc _ _ _ _ _ _ _=>fun i hi=>by rw[mnF] at hi; exact hc i hi
 | _,_,.all _ _ _ _ rl=>fun i hi=>by rw[mnF] at hi; exact HR rl i hi
 | _,_,.any _ _ _ _ rl=>fun i hi=>by rw[mnF] at hi; exact HR rl i hi
theorem HR {n:Nat} {H:Hp}:∀ {vs:List V} {ts:List Tm},cU n H vs ts->∀ i∈mnL ts,i < n
 | _,_,.nil=>fun i hi=>by rw[mnL] at hi; cases hi
 | _,_,.cons h r=>fun i hi=>by
  rw[mnL] at hi
  rcases List.mem_append.mp hi with z | z
  ·exact Ro h i z
  ·exact HR r i z
end
theorem UG {d:Nat} (h:d<=4):12 * 6 ^ (d - 1)<=2592:=by
 have:6 ^ (d - 1)<=6 ^ 3:=Z5 (by decide) (by lia)
 have:(6:Nat) ^ 3=216:=by decide
 lia
theorem Bd {n d:Nat} {H:Hp} {v:V} {t:Tm} (hn:n<=12) (h4:d<=4) (r:jg n H v t) (hd:t.dep<=d):(mnF t).length<=2592:=by
 have:=t.pF
 exact V2 (Mj hn (d - 1) r (by lia)) (UG h4)
theorem RP {ts:List Tm} (i:Nat):(mnL (ts.take i)).length<=(mnL ts).length:=by
 have:=congrArg aaz (lW (ts.take i) (ts.drop i))
 rw[List.take_append_drop,Ve] at this
 lia
inductive Fi (d:Nat) (vs:List V) (H:Hp) (Q:VK):Prop where
 | mk (v:V) (n:Nat) (t:Tm) (z0:vs=[v]) (z1:jg n H v t) (z2:t.dep<=d) (z3:d<=4) (z4:n<=12) (z5:∀ (r:Addr) (H':Hp),aZ H H'->H r=none->H' r=some (.lst ((mnF t).map vN))->Q (.ref r) H'):Fi d vs H Q
def pA (d:Nat):Sp:=fun vs H Q _=>Fi d vs H Q
theorem Fg {ps:List V9}:cG P w K mg base CX0 0 f fd ps (pA 0):=by
 have no:∀ vs H Q E,¬ pA 0 vs H Q E:=fun vs H Q E h=>by
  obtain⟨v,n,t,_,_,h1,_⟩:=h
  have:=t.pF
  lia
 exact⟨fun vs H Q E h=>absurd h (no vs H Q E),fun A outer s H args us vs Q E _ _ _ _ h=>absurd h (no vs H Q E)⟩
abbrev mF:Stmt:=top 27
theorem qG:aO ["term","kind"] ["term"] (aD mF):=⟨rfl,rfl,rfl,by decide+kernel,rfl,by decide+kernel,by decide+kernel⟩
theorem iW {d:Nat} (F:Fun K "mentions" "mentions" mF f fd) (B:Bt mg)
  (D_mentions:Df P w K mg base "mentions" d ["term"] (pA d)):cG P w K mg base CX0 (d+1) f fd ["term"] (pA (d+1)):=by
 refine F.ok qG (fun vs H Q E h=>?_) (fun cdv A outer s H vs Q E hr h=>?_)
 ·obtain⟨v,n,t,rfl,_⟩:=h
  rfl
 ·obtain⟨v,n,t,rfl,rt,hd,h4,hn,q⟩:=h
  refine⟨_,(au (aW (i:=1) qG.nd rfl (Vv rfl) (bw (r:=fZ K) bD (pv 0) aA (fun _ _=>rfl)))
 (au (bG (aL cJ (pv 1) bM (aU _)) (aB (aG (bR (aa (bw (r:=fZ K) bD (pv 0) aA (fun _ _=>rfl)) aj)))) aR)
 (au (bG (PW.pt (nU (aL cJ (pv 1) bM (aU _)) (jk (aL cJ (pv 1) bM (aU _))))) (aB (aG (bH (r:=zE K) sO rfl B.list_ vf (aa (bw (r:=fZ K) bD (pv 0) aA (fun _ _=>rfl)) aj)))) aR)
 (au (bG (PW.pt (nU (aL cJ (pv 1) bM (aU _)) (jk (aL cJ (pv 1) bM (aU _))))) (aB (aG (K1 (L:=["part","one"]) (F:=[]) (cap:=[]) rfl (bJ rfl rfl (by kernel_rfl)) (dJ (bw (r:=fZ K) bD (pv 0) aA (fun _ _=>rfl))) (fun _ _ _ _ _=>(aK (i:=0) (bA (by decide+kernel)) rfl (Vv rfl))) (fun _ _ _ _ _=>(tY K rfl (aX D_mentions hr (aa (pv 0) aj)))) (fun _ _ _ _ _=>(aK (i:=1) (bA (by decide+kernel)) rfl (Vv rfl))) (fun _ _ _ _ _=>(pv 1))))) aR)
 (aB (aG (bR aj))))))),?_⟩
  have small':=Bd hn h4 rt hd
  have parts:∀ {b:Addr} {us:List V} {ts:List Tm},H b=some (.tup us)->cU n H us ts->tdL ts<=d->(mnL ts).length<=2592->∀ {σ':St} {D:Addr},H D=none->(∀ H2,aZ H H2->H2 D=some (.lst ((mnL ts).map vN))->Q (.ref D) H2) →
    ou D [none,none] (Itt K b) (CN 0) (Px K (NZ (pA d) [] E0 (QW (S9 0) CT))) (CN 1) (S9 1) H (fun H2=>Q (.ref D) H2):=by
   intro b us ts hb rl hdl lm σ' D hD hq
   have el:=rl.length
   refine Gx (K:=K) (a:=b) (xs:=us) (fun i zs σ' H2=>(∃ u v,σ'=[u,v])/\aZ H H2/\H2 D=some (.lst zs)/\zs=(mnL (ts.take i)).map vN) ⟨⟨_,_,rfl⟩,aC hD _,aq,by rw[Wk,mnL]; rfl⟩ (fun i zs σ' H2 _ h=>SqT.of (h.2.1 _ _ hb)) ?_ ?_
   ·rintro i zs x σ' H2 hx ⟨⟨u,v,rfl⟩,sm,eD,ez⟩
    obtain⟨t',ht,rt'⟩:=rl.get hx
    refine⟨_,rfl,x,n,t',rfl,rt'.mono sm,V2 (jT ht) hdl,by lia,hn,fun r H3 s3 fr er=>?_⟩
    have hrD:r≠D:=fun z=>by rw[z,eD] at fr; cases fr
    refine⟨r,rfl,⟨_,SqL.of er⟩,Li (K:=K) (b:=r) (ws:=(mnF t').map vN) (fun j ws σ' H4=>(∃ u,σ'=[some x,u])/\aZ H H4/\H4 r=some (.lst ((mnF t').map vN))/\H4 D=some (.lst ws)/\ws=(mnL (ts.take i)++(mnF t').take j).map vN)
     ⟨⟨_,rfl⟩,sm.trans s3,er,s3 _ _ eD,by rw[Wk,WK]; exact ez⟩ (fun j ws σ' H4 _ h=>SqL.of h.2.2.1) ?_ ?_⟩
    ·rintro j ws y σ' H4 hy ⟨⟨u,rfl⟩,s4,er4,eD4,ew⟩
     obtain⟨m,hm,rfl⟩:=ug hy
     have hlen:ws.length<=2592:=by
      have h1:=RP (ts:=ts) (i+1)
      rw[Bx ht,Ve] at h1
      rw[ew,Vb,Ve,Vz]
      lia
     refine⟨_,rfl,eD4,Yj hlen (by decide),⟨_,rfl⟩,aQ s4 hD _,?_,aq,?_⟩
     ·rw[bh hrD]
      exact er4
     ·rw[ew,V1,hm,← XJ]
      show _=List.map vN ((mnL (ts.take i)++(mnF t').take j)++[m])
      rw[Vl (l₁:=mnL (ts.take i)++(mnF t').take j)]
      rfl
    ·rintro ws σ' H4 ⟨⟨u,rfl⟩,s4,er4,eD4,ew⟩
     rw[Vb,Vw,← Bx ht] at ew
     exact⟨⟨_,_,rfl⟩,s4,eD4,ew⟩
   ·rintro zs σ' H2 ⟨_,sm,eD,ez⟩
    rw[el,Vw] at ez
    exact hq H2 sm (by rw[eD,ez])
  cases rt with
  | @free a ha =>
   refine⟨_,rfl,a,_,_,_,rfl,rfl,SqT.of ha,aM (k:=0) rfl,?_⟩
   refine⟨_,rfl,rfl,_,rfl,cR (aY (by decide)) ?_⟩
   refine⟨_,rfl,rfl,_,rfl,cR (aY (by decide)) ⟨_,rfl,rfl,_,rfl,cR (aY (by decide)) ?_⟩⟩
   refine⟨_,rfl,rfl,_,rfl,cR (aY (by decide)) ⟨_,rfl,rfl,_,rfl,cR (aY (by decide)) ?_⟩⟩
   exact⟨small (by show 0<=1000; decide),fun r h0=>q r _ (aC h0 _) h0 (by rw[aq,mnF]; rfl)⟩
  | @never a ha =>
   refine⟨_,rfl,a,_,_,_,rfl,rfl,SqT.of ha,aM (k:=0) rfl,?_⟩
   refine⟨_,rfl,rfl,_,rfl,cR (aY (by decide)) ?_⟩
   refine⟨_,rfl,rfl,_,rfl,cR (aY (by decide)) ⟨_,rfl,rfl,_,rfl,cR (aY (by decide)) ?_⟩⟩
   refine⟨_,rfl,rfl,_,rfl,cR (aY (by decide)) ⟨_,rfl,rfl,_,rfl,cR (aY (by decide)) ?_⟩⟩
   exact⟨small (by show 0<=1000; decide),fun r h0=>q r _ (aC h0 _) h0 (by rw[aq,mnF]; rfl)⟩
  | @gives a i k ha hi k1 k9 =>
   refine⟨_,rfl,a,_,_,_,rfl,rfl,SqT.of ha,aM (k:=0) rfl,?_⟩
   refine⟨_,rfl,rfl,_,rfl,qC rfl ?_⟩
   exact⟨_,rfl,a,_,_,_,rfl,rfl,SqT.of ha,aM (k:=1) rfl,small (by show 1<=1000; decide),fun r h0=>q r _ (aC h0 _) h0 (by rw[aq,mnF]; rfl)⟩
  | @sum a b c k ha hb hc hp l20 l2 k1 k99 =>
   refine⟨_,rfl,a,_,_,_,rfl,rfl,SqT.of ha,aM (k:=0) rfl,?_⟩
   refine⟨_,rfl,rfl,_,rfl,cR (aY (by decide)) ?_⟩
   refine⟨_,rfl,rfl,_,rfl,qC rfl (fX ?_)⟩
   exact⟨_,rfl,a,_,_,_,rfl,rfl,SqT.of ha,aM (k:=1) rfl,b,_,rfl,.inr (SqT.of hb),fun r h0=>q r _ (aC h0 _) h0 (by rw[aq,mnF])⟩
  | @crowd a b c k mm ha hb hc hp l20 l1 k1 k9 m1 m12 =>
   refine⟨_,rfl,a,_,_,_,rfl,rfl,SqT.of ha,aM (k:=0) rfl,?_⟩
   refine⟨_,rfl,rfl,_,rfl,cR (aY (by decide)) ?_⟩
   refine⟨_,rfl,rfl,_,rfl,cR (aY (by decide)) ⟨_,rfl,rfl,_,rfl,qC rfl ?_⟩⟩
   exact⟨_,rfl,a,_,_,_,rfl,rfl,SqT.of ha,aM (k:=1) rfl,b,_,rfl,.inr (SqT.of hb),fun r h0=>q r _ (aC h0 _) h0 (by rw[aq,mnF])⟩
  | @all a b us ts ha hb l2 l6 rl =>
   have hdl:tdL ts<=d:=by rw[Tm.dep] at hd; lia
   rw[mnF] at small'
   refine⟨_,rfl,a,_,_,_,rfl,rfl,SqT.of ha,aM (k:=0) rfl,?_⟩
   refine⟨_,rfl,rfl,_,rfl,cR (aY (by decide)) ?_⟩
   refine⟨_,rfl,rfl,_,rfl,cR (aY (by decide)) ⟨_,rfl,rfl,_,rfl,cR (aY (by decide)) ?_⟩⟩
   refine⟨_,rfl,rfl,_,rfl,qC rfl (fX ?_)⟩
   exact⟨_,rfl,a,_,_,_,rfl,rfl,SqT.of ha,aM (k:=1) rfl,b,rfl,⟨_,SqT.of hb⟩,fun D hD=>parts (σ':=[]) hb rl hdl small' hD fun H2 sm eD=>q D H2 sm hD (by rw[eD,mnF])⟩
  | @any a b us ts ha hb l2 l6 rl =>
   have hdl:tdL ts<=d:=by rw[Tm.dep] at hd; lia
   rw[mnF] at small'
   refine⟨_,rfl,a,_,_,_,rfl,rfl,SqT.of ha,aM (k:=0) rfl,?_⟩
   refine⟨_,rfl,rfl,_,rfl,cR (aY (by decide)) ?_⟩
   refine⟨_,rfl,rfl,_,rfl,cR (aY (by decide)) ⟨_,rfl,rfl,_,rfl,cR (aY (by decide)) ?_⟩⟩
   refine⟨_,rfl,rfl,_,rfl,cR (aY (by decide)) ⟨_,rfl,rfl,_,rfl,qC rfl ?_⟩⟩
   exact⟨_,rfl,a,_,_,_,rfl,rfl,SqT.of ha,aM (k:=1) rfl,b,rfl,⟨_,SqT.of hb⟩,fun D hD=>parts (σ':=[]) hb rl hdl small' hD fun H2 sm eD=>q D H2 sm hD (by rw[eD,mnF])⟩
def nmI (c:List Nat) (ms:List Int):Prop:=ms.Perm (ddI (c.map fun i:Nat=>(i:Int)))/\ms.Pairwise (·<=·)
theorem Ij:∀ (ns acc:List Int) (x:Int),x∈ns.foldl W9 acc->x∈acc∨x∈ns
 | [],acc,x,h=>.inl h
 | n::r,acc,x,h=>by
  rw[Wo] at h
  rcases Ij r _ x h with z | z
  ·unfold W9 at z
   split at z
   ·exact .inl z
   ·rcases List.mem_append.mp z with y | y
    ·exact .inl y
    ·rw[List.mem_singleton.mp y]
     exact .inr Vj
  ·exact .inr (Vp _ z)
theorem wF:∀ (n:Nat) (l:List Int),l.Nodup->(∀ x∈l,0<=x/\x < (n:Int))->l.length<=n
 | 0,l,_,h=>by
  cases l with
  | nil=>exact VL _
  | cons x r =>
   have:=h x Vj
   lia
 | n+1,l,nd,h=>by
  have h1:=wF n (l.erase (n:Int)) (nd.erase _) fun x hx=>by
   have hx':=List.mem_of_mem_erase hx
   have b:=h x hx'
   have ne:x≠(n:Int):=fun z=>by
    rw[z] at hx
    exact (List.Nodup.mem_erase_iff nd).mp hx |>.1 rfl
   lia
  have h2:l.length<=(l.erase (n:Int)).length+1:=by
   rw[List.length_erase]
   split <;> lia
  lia
theorem Rt {c:List Nat} {n:Nat} (h:∀ i∈c,i < n):(ddI (c.map fun i:Nat=>(i:Int))).length<=n:=by
 rw[vK]
 refine wF n _ (tH _ [] List.nodup_nil) fun x hx=>?_
 rcases Ij _ [] x hx with z | z
 ·cases z
 ·obtain⟨i,hi,rfl⟩:=List.mem_map.mp z
  have:=h i hi
  lia
abbrev yF:Stmt:=top 28
theorem Ko:aO ["term"] ["term"] (aD yF):=⟨rfl,rfl,rfl,by decide+kernel,rfl,by decide+kernel,by decide+kernel⟩
inductive Ck (vs:List V) (H:Hp) (Q:VK):Prop where
 | mk (v:V) (n:Nat) (t:Tm) (z0:vs=[v]) (z1:jg n H v t) (z2:t.dep<=4) (z3:n<=12) (z4:∀ (r:Addr) (ms:List Int) (H':Hp),aZ H H'->H r=none->nmI (mnF t) ms->H' r=some (.lst (ms.map V.int))->Q (.ref r) H'):Ck  vs H Q
def Ji:Sp:=fun vs H Q _=>Ck  vs H Q
theorem Kv {k:Nat} (F:Fun K "named" "named" yF f fd) (B:Bt mg)
  (D_mentions:Df P w K mg base "mentions" k ["term"] (pA 4)):cG P w K mg base CX0 (k+1) f fd ["term"] Ji:=by
 refine F.ok Ko (fun vs H Q E h=>?_) (fun cdv A outer s H vs Q E hr h=>?_)
 ·obtain⟨v,n,t,rfl,_⟩:=h
  rfl
 ·obtain⟨v,n,t,rfl,rt,hd,hn,q⟩:=h
  refine⟨_,(aB (aG (nC rfl rfl B.sorted_ rfl B.set_ (aa (aX D_mentions hr (aa (pv 0) aj)) aj)))),?_⟩
  refine⟨_,rfl,v,n,t,rfl,rt,hd,by decide,hn,fun r H1 s1 fr er=>?_⟩
  have lm:=Bd hn (Vg 4) rt hd
  have ld:=Rt (Ro rt)
  refine⟨r,(mnF t).map fun i:Nat=>(i:Int),rfl,SqL.of (by rw[er,fK]),by rw[Vb]; lia,by lia,fun ms pm so l hl=>?_⟩
  exact q l ms _ (s1.trans (aC hl _)) (s1.free hl) ⟨pm,so⟩ aq
abbrev jQ:Stmt:=top 13
abbrev mj:Stmt:=top 20
abbrev jW:Stmt:=top 21
abbrev fj:Stmt:=top 22
abbrev pZ:Stmt:=top 23
theorem vO:aO ["thing","low","high"] ["thing","low","high"] (aD jQ):=⟨rfl,rfl,rfl,by decide+kernel,rfl,by decide+kernel,by decide+kernel⟩
theorem iI:aO ["many","thing","fewest","lowest_left","one"] ["many","thing","fewest"] (aD mj):=⟨rfl,rfl,rfl,by decide+kernel,rfl,by decide+kernel,by decide+kernel⟩
theorem xM:aO ["many","thing","deep"] ["many","thing","deep"] (aD jW):=⟨rfl,rfl,rfl,by decide+kernel,rfl,by decide+kernel,by decide+kernel⟩
theorem gW:aO ["many","thing","deep","kind"] ["many","thing","deep"] (aD fj):=⟨rfl,rfl,rfl,by decide+kernel,rfl,by decide+kernel,by decide+kernel⟩
theorem Dd:aO ["many","term"] ["many","term"] (aD pZ):=⟨rfl,rfl,rfl,by decide+kernel,rfl,by decide+kernel,by decide+kernel⟩
def isNum:V->Int->Int->Bool
 | .int i,lo,hi=>decide (lo<=i) && decide (i<=hi)
 | _,_,_=>false
inductive NV:V->Prop where
 | int (i:Int):NV (.int i)
 | str (x:V9):NV (.str x)
inductive Bs (vs:List V) (H:Hp) (Q:VK):Prop where
 | mk (x:V) (lo hi:Int) (z0:vs=[x,.int lo,.int hi]) (z1:NV x) (z2:Q (.bl (isNum x lo hi)) H):Bs  vs H Q
def jo:Sp:=fun vs H Q _=>Bs  vs H Q
theorem vR (F:Fun K "is_number" "is_number" jQ f fd) (B:Bt mg) :
  cG P w K mg base CX0 1 f fd ["thing","low","high"] jo:=by
 refine F.ok vO (fun vs H Q E h=>?_) (fun cdv A outer s H vs Q E hr h=>?_)
 ·obtain⟨x,lo,hi,rfl,_⟩:=h
  rfl
 ·obtain⟨x,lo,hi,rfl,pl,q⟩:=h
  refine⟨_,(aB (aG (fO (aF (r:=vo K) cg rfl B.isinstance_ bj (aa (pv 0) (aa (jB B.int_ zW) aj))) (fO (RJ (aF (r:=vo K) cg rfl B.isinstance_ bj (aa (pv 0) (aa (jB B.bool_ yH) aj)))) (fO (cV Rr (pv 1) (pv 0) (aU _)) (lq (cV Rr (pv 0) (pv 2) (aU _)))))))),?_⟩
  cases pl with
  | int i =>
   refine⟨_,rfl,_,_,_,_,rfl,.int i,fc _ _,_,rfl,fX ?_⟩
   refine⟨_,rfl,_,_,_,_,rfl,.int i,jP _,_,rfl,_,rfl,fX ?_⟩
   refine⟨_,rfl,_,rfl,_,_,rfl,rfl,_,rfl,?_⟩
   have e:isNum (.int i) lo hi=(decide (lo<=i) && decide (i<=hi)):=rfl
   rw[e] at q
   cases c:decide (lo<=i) with
   | true =>
    rw[c] at q
    exact fX ⟨_,rfl,_,rfl,_,_,rfl,rfl,q⟩
   | false =>
    rw[c] at q
    exact cX q
  | str y=>exact⟨_,rfl,_,_,_,_,rfl,.str y,Cz _,_,rfl,cX q⟩
theorem jx {k lo hi:Int} (h1:lo<=k) (h2:k<=hi):isNum (.int k) lo hi=true:=by
 show (decide (lo<=k) && decide (k<=hi))=true
 rw[decide_eq_true h1,decide_eq_true h2]
 rfl
theorem Ag {i m:Nat} {lo:Int} (h:lo<=(i:Int)):isNum (.int (i:Int)) lo ((m:Int) - 1)=decide (i < m):=by
 show (decide (lo<=(i:Int)) && decide ((i:Int)<=(m:Int) - 1))=decide (i < m)
 rw[decide_eq_true h,Zv]
 exact decide_eq_decide.mpr ⟨fun z=>by lia,fun z=>by lia⟩
def ltF (m:Nat) (c:List Nat):Bool:=c.all fun i=>decide (i < m)
theorem Ga (m:Nat) (a b:List Nat):ltF m (a++b)=(ltF m a && ltF m b):=List.all_append
theorem Gb {m:Nat} {c:List Nat}:ltF m c=true ↔ ∀ i∈c,i < m:=by
 unfold ltF
 rw[ab6]
 exact⟨fun h i hi=>of_decide_eq_true (h i hi),fun h i hi=>decide_eq_true (h i hi)⟩
theorem QL {m i:Nat} {c:List Nat} (h:i∈c) (hm:¬ i < m):ltF m c=false:=by
 cases e:ltF m c with
 | false=>rfl
 | true=>exact absurd (Gb.mp e i h) hm
inductive Gp (vs:List V) (H:Hp) (Q:VK):Prop where
 | mk (b:Addr) (c:List Nat) (m:Nat) (few:Int) (z0:vs=[.int (m:Int),.ref b,.int few]) (z1:H b=some (.tup (c.map vN))) (z2:c.Pairwise (· < ·)) (z3:few<=(c.length:Int)) (z4:Q (.bl (ltF m c)) H):Gp  vs H Q
def Nx:Sp:=fun vs H Q _=>Gp  vs H Q
theorem yW (F:Fun K "is_crowd" "is_crowd" mj f fd) (B:Bt mg)
  (D_is_number:Df P w K mg base "is_number" 1 ["thing","low","high"] jo):cG P w K mg base CX0 2 f fd ["many","thing","fewest"] Nx:=by
 refine F.ok iI (fun vs H Q E h=>?_) (fun cdv A outer s H vs Q E hr h=>?_)
 ·obtain⟨b,c,m,few,rfl,_⟩:=h
  rfl
 ·obtain⟨b,c,m,few,rfl,hb,hp,hf,q⟩:=h
  refine⟨_,(au (bG (PW.pt (nU (gn (dF (aF (r:=vo K) cg rfl B.isinstance_ bj (aa (pv 1) (aa (jB B.tuple_ bK) aj))))) (jk (aL CQ (aF (r:=lR K) bx rfl B.len_ cI (aa (pv 1) aj)) (pv 2) (aU _))))) (aB (aG gZ)) aR)
 (au (aW (i:=3) iI.nd rfl (Vv rfl) aA)
 (au (eZ Wf rfl (dJ (pv 1)) (aK (i:=4) iI.nd rfl (Vv rfl)) (au (bG (gn (dF (aX D_is_number hr (aa (pv 4) (aa (pv 3) (aa (bf jd (pv 0) aA) aj)))))) (aB (aG gZ)) aR)
 (aB (aW (i:=3) iI.nd rfl (Vv rfl) (bf bW (pv 4) aA)))))
 (aB (aG gZ))))),?_⟩
  refine⟨_,rfl,_,_,_,_,rfl,.tup hb,fc _ _,_,rfl,cX ?_⟩
  refine⟨_,rfl,b,_,rfl,.inr (SqT.of hb),_,rfl,_,_,rfl,rfl,_,rfl,?_⟩
  refine cR (by rw[Vb]; lia) ?_
  refine⟨_,rfl,b,rfl,⟨_,SqT.of hb⟩,mX (K:=K) (a:=b) (xs:=c.map vN) (fun i σ H2=>H2=H/\∃ (lo:Int) (u:Option V),σ=[some (.int (m:Int)),some (.ref b),some (.int few),some (.int lo),u]/\(∀ x∈c.drop i,lo<=((x:Nat):Int))/\ltF m (c.take i)=true) ⟨rfl,0,_,rfl,fun x _=>by lia,by rw[Wk]; rfl⟩ (fun i σ H2 _ h2=>by rw[h2.1]; exact SqT.of hb) ?_ ?_⟩
  ·rintro i x σ H2 hx ⟨rfl,lo,u,rfl,hlo,hlt⟩
   obtain⟨y,hy,rfl⟩:=ug hx
   have hi:i < c.length:=(List.getElem?_eq_some_iff.mp hy).1
   have ey:c[i]=y:=(List.getElem?_eq_some_iff.mp hy).2
   have ed:c.drop i=y::c.drop (i+1):=by rw[Xo hi,ey]
   have hl:=hlo y (by rw[ed]; exact Vj)
   refine⟨_,rfl,_,rfl,_,rfl,_,_,rfl,rfl,vN y,lo,(m:Int) - 1,rfl,.int _,_,rfl,?_⟩
   rw[show vN y=V.int (y:Int) from rfl,Ag hl]
   by_cases hm:y < m
   ·rw[decide_eq_true hm]
    refine cX ⟨_,rfl,_,_,rfl,rfl,rfl,(y:Int)+1,_,rfl,fun x hx=>?_,?_⟩
    ·have h1:=hp.drop (i:=i)
     rw[ed,W6] at h1
     have:=h1.1 x hx
     lia
    ·rw[V1,hy,Ga,hlt,Zv]
     show (decide (y < m) && true)=true
     rw[decide_eq_true hm]
     rfl
   ·rw[decide_eq_false hm]
    refine fX ?_
    rw[QL (Wd hy) hm] at q
    exact q
  ·rintro σ H2 ⟨rfl,lo,u,rfl,hlo,hlt⟩
   rw[Vb,Vw] at hlt
   rw[hlt] at q
   exact q
theorem ne0 {n:Nat} (h:n≠0):¬ V.int (n:Int)=V.int 0:=fun z=>h (by injection z with z; lia)
inductive xQ (k:Nat) (vs:List V) (H:Hp) (Q:VK):Prop where
 | mk (v:V) (m dp:Nat) (z0:vs=[.int (m:Int),v,.int (dp:Int)]) (z1:1<=dp) (z2:dp<=k) (z3:((∃ (n:Nat) (t:Tm),jg n H v t/\t.dep<=dp/\∀ H',aZ H H'->Q (.bl (ltF m (mnF t))) H')∨(∃ e:Addr,v = .ref e/\H e=some (.tup [])/\Q (.bl false) H))):xQ k vs H Q
def jG (k:Nat):Sp:=fun vs H Q _=>xQ k vs H Q
inductive Ah (k:Nat) (vs:List V) (H:Hp) (Q:VK):Prop where
 | mk (b:Addr) (us:List V) (ts:List Tm) (n m dp:Nat) (z0:vs=[.int (m:Int),.ref b,.int (dp:Int)]) (z1:dp<=k) (z2:H b=some (.tup us)) (z3:2<=us.length) (z4:us.length<=6) (z5:cU n H us ts) (z6:tdL ts<=dp) (z7:1<=dp) (z8:∀ H',aZ H H'->Q (.bl (ltF m (mnL ts))) H'):Ah k vs H Q
def Fe (k:Nat):Sp:=fun vs H Q _=>Ah k vs H Q
theorem Iv (m:Nat):∀ ts:List Tm,(ts.map fun t=>ltF m (mnF t)).all (fun b=>b)=ltF m (mnL ts)
 | []=>by rw[mnL]; rfl
 | t::r=>by
  have ih:=Iv m r
  rw[mnL,Ga,← ih]
  rfl
theorem gC {n k:Nat} {t1 t2:Tok} (F:Fun K "are_parts" "are_parts" jW f fd) (B:Bt mg) (c_FEWEST_PARTS:mg "FEWEST_PARTS" = some (.int 2 t1)) (c_MOST_PARTS:mg "MOST_PARTS" = some (.int 6 t2))
  (hk:1<=k) (D_is_number:Df P w K mg base "is_number" 1 ["thing","low","high"] jo) (D_is_term_within:Df P w K mg base "is_term_within" k ["many","thing","deep"] (jG n)):cG P w K mg base CX0 (k+1) f fd ["many","thing","deep"] (Fe n):=by
 refine F.ok xM (fun vs H Q E h=>?_) (fun cdv A outer s H vs Q E hr h=>?_)
 ·obtain⟨b,us,ts,n0,m,dp,rfl,_⟩:=h
  rfl
 ·obtain⟨b,us,ts,n0,m,dp,rfl,hdp,hb,l2,l6,rl,hd,d1,q⟩:=h
  refine⟨_,(au (bG (PW.pt (nU (gn (dF (aF (r:=vo K) cg rfl B.isinstance_ bj (aa (pv 1) (aa (jB B.tuple_ bK) aj))))) (jk (gn (dF (aX D_is_number hr (aa (aF (r:=lR K) bx rfl B.len_ cI (aa (pv 1) aj)) (aa (qP c_FEWEST_PARTS) (aa (qP c_MOST_PARTS) aj))))))))) (aB (aG gZ)) aR)
 (aB (aG (aF (r:=JM K) (qj rfl) rfl B.all_ HN (aa (bQ (L:=["part"]) (F:=["many","deep"]) (cap:=[0,2]) rfl (bJ rfl rfl (by kernel_rfl)) (dJ (pv 1)) (fun _ _ _ _ _=>(aK (i:=0) (bA (by decide+kernel)) rfl (Vv rfl))) (fun _ _ _ _ _=>bV) (fun _ _ _ _ _=>(aX D_is_term_within hr (aa (pv 1) (aa (pv 0) (aa (pv 2) aj)))))) aj))))),?_⟩
  have el:=rl.length
  refine⟨_,rfl,_,_,_,_,rfl,.tup hb,fc _ _,_,rfl,cX ?_⟩
  refine⟨_,rfl,b,_,rfl,.inr (SqT.of hb),.int (us.length:Int),2,6,rfl,.int _,_,rfl,?_⟩
  rw[jx (by lia) (by lia)]
  refine cX ⟨_,rfl,b,rfl,⟨_,SqT.of hb⟩,fun D hD=>cT (K:=K) (a:=b) (xs:=us) (fun i zs σ' H2=>(∃ u,σ'=[u,some (.int (m:Int)),some (.int (dp:Int))])/\zs=((ts.take i).map fun t=>ltF m (mnF t)).map V.bl/\aZ H H2/\H2 D=some (.lst zs))
   ⟨⟨_,rfl⟩,rfl,aC hD _,aq⟩ (fun i zs σ' H2 _ h2=>⟨jO h2.2.2.1 (SqT.of hb),h2.2.2.2⟩) ?_ ?_⟩
  ·rintro i zs x σ' H2 hx ⟨⟨u,rfl⟩,e1,sm,hDl⟩
   have hi:i < us.length:=(List.getElem?_eq_some_iff.mp hx).1
   obtain⟨t,ht,rt⟩:=rl.get hx
   refine gT ?_
   refine⟨_,rfl,_,rfl,_,rfl,x,m,dp,rfl,d1,hdp,.inl ⟨n0,t,rt.mono sm,V2 (jT ht) hd,fun H3 s3=>⟨s3 _ _ hDl,?_,⟨_,rfl⟩,?_,aQ (sm.trans s3) hD _,aq⟩⟩⟩
   ·rw[e1,Vb,Vb,Vz]
    exact aJ (by lia)
   ·rw[e1,V1,ht,Vl,Vl]
    rfl
  ·rintro zs σ' H2 ⟨_,e1,sm,hDl⟩
   rw[el,Vw] at e1
   refine⟨D,ts.map fun t=>ltF m (mnF t),rfl,SqL.of (by rw[hDl,e1]),?_⟩
   rw[Iv]
   exact q H2 sm
theorem zj:cG P w K mg base CX0 1 f fd ["many","thing","deep"] (jG 0):=by
 have no:∀ vs H Q E,¬ jG 0 vs H Q E:=fun vs H Q E h=>by
  obtain⟨v,m,dp,_,h1,h2,_⟩:=h
  lia
 exact⟨fun vs H Q E h=>absurd h (no vs H Q E),fun A outer s H args us vs Q E _ _ _ _ h=>absurd h (no vs H Q E)⟩
theorem cZ {n k:Nat} {t1 t2 t3:Tok} (F:Fun K "is_term_within" "is_term_within" fj f fd) (B:Bt mg)
  (c_MOST_STEP:mg "MOST_STEP" = some (.int 9 t1)) (c_MOST_SUM:mg "MOST_SUM" = some (.int 99 t2)) (c_MOST_FOLK:mg "MOST_FOLK" = some (.int 12 t3)) (hk:2<=k) (D_is_number:Df P w K mg base "is_number" 1 ["thing","low","high"] jo) (D_is_crowd:Df P w K mg base "is_crowd" 2 ["many","thing","fewest"] Nx)
  (D_are_parts:Df P w K mg base "are_parts" k ["many","thing","deep"] (Fe n)):cG P w K mg base CX0 (k+1) f fd ["many","thing","deep"] (jG (n+1)):=by
 refine F.ok gW (fun vs H Q E h=>?_) (fun cdv A outer s H vs Q E hr h=>?_)
 ·obtain⟨v,m,dp,rfl,_⟩:=h
  rfl
 ·obtain⟨v,m,dp,rfl,d1,dk,h⟩:=h
  refine⟨_,(au (bG (PW.pt (nU (aL CQ (pv 2) aA (aU _)) (nU (gn (dF (aF (r:=vo K) cg rfl B.isinstance_ bj (aa (pv 1) (aa (jB B.tuple_ bK) aj))))) (jk (aL cJ (aF (r:=lR K) bx rfl B.len_ cI (aa (pv 1) aj)) aA (aU _)))))) (aB (aG gZ)) aR)
 (au (aW (i:=3) gW.nd rfl (Vv rfl) (bw (r:=fZ K) bD (pv 1) aA (fun _ _=>rfl)))
 (au (bG (PW.pt (nU (aL cJ (pv 3) bM (aU _)) (jk (aL cJ (pv 3) bM (aU _))))) (aB (aG (cV cJ (aF (r:=lR K) bx rfl B.len_ cI (aa (pv 1) aj)) aA (aU _)))) aR)
 (au (bG (aL cJ (pv 3) bM (aU _)) (aB (aG (fO (cV cJ (aF (r:=lR K) bx rfl B.len_ cI (aa (pv 1) aj)) aA (aU _)) (fO (aX D_is_number hr (aa (bw (r:=fZ K) bD (pv 1) aA (fun _ _=>rfl)) (aa aA (aa (bf jd (pv 0) aA) aj)))) (lq (aX D_is_number hr (aa (bw (r:=fZ K) bD (pv 1) aA (fun _ _=>rfl)) (aa aA (aa (qP c_MOST_STEP) aj))))))))) aR)
 (au (bG (aL cJ (pv 3) bM (aU _)) (aB (aG (fO (cV cJ (aF (r:=lR K) bx rfl B.len_ cI (aa (pv 1) aj)) aA (aU _)) (fO (aX D_is_crowd hr (aa (pv 0) (aa (bw (r:=fZ K) bD (pv 1) aA (fun _ _=>rfl)) (aa aA aj)))) (lq (aX D_is_number hr (aa (bw (r:=fZ K) bD (pv 1) aA (fun _ _=>rfl)) (aa aA (aa (qP c_MOST_SUM) aj))))))))) aR)
 (au (bG (aL cJ (pv 3) bM (aU _)) (au (bG (PW.pt (nU (aL zL (aF (r:=lR K) bx rfl B.len_ cI (aa (pv 1) aj)) aA (aU _)) (jk (gn (dF (aX D_is_crowd hr (aa (pv 0) (aa (bw (r:=fZ K) bD (pv 1) aA (fun _ _=>rfl)) (aa aA aj))))))))) (aB (aG gZ)) aR)
 (aB (aG (fO (aX D_is_number hr (aa (bw (r:=fZ K) bD (pv 1) aA (fun _ _=>rfl)) (aa aA (aa (qP c_MOST_STEP) aj)))) (lq (aX D_is_number hr (aa (bw (r:=fZ K) bD (pv 1) aA (fun _ _=>rfl)) (aa aA (aa (qP c_MOST_FOLK) aj))))))))) aR)
 (au (bG (PW.pt (nU (aL cJ (pv 3) bM (aU _)) (jk (aL cJ (pv 3) bM (aU _))))) (aB (aG (fO (cV cJ (aF (r:=lR K) bx rfl B.len_ cI (aa (pv 1) aj)) aA (aU _)) (lq (aX D_are_parts hr (aa (pv 0) (aa (bw (r:=fZ K) bD (pv 1) aA (fun _ _=>rfl)) (aa (bf jd (pv 2) aA) aj)))))))) aR)
 (aB (aG gZ))))))))),?_⟩
  refine⟨_,rfl,_,_,rfl,rfl,_,rfl,cR (by lia) ?_⟩
  rcases h with⟨n0,t,rt,hd,q⟩ | ⟨e,rfl,he,q⟩
  ·have q0:=q H (aZ.refl H)
   cases rt with
   | @free a ha =>
    refine⟨_,rfl,_,_,_,_,rfl,.tup ha,fc _ _,_,rfl,cX ⟨_,rfl,a,_,rfl,.inr (SqT.of ha),rfl,_,rfl,cR (ne0 (YD _)) ?_⟩⟩
    refine⟨_,rfl,a,_,_,_,rfl,rfl,SqT.of ha,aM (k:=0) rfl,?_⟩
    refine⟨_,rfl,rfl,_,rfl,qC rfl (fX ?_)⟩
    rw[mnF] at q0
    exact⟨_,rfl,a,_,rfl,.inr (SqT.of ha),rfl,q0⟩
   | @never a ha =>
    refine⟨_,rfl,_,_,_,_,rfl,.tup ha,fc _ _,_,rfl,cX ⟨_,rfl,a,_,rfl,.inr (SqT.of ha),rfl,_,rfl,cR (ne0 (YD _)) ?_⟩⟩
    refine⟨_,rfl,a,_,_,_,rfl,rfl,SqT.of ha,aM (k:=0) rfl,?_⟩
    refine⟨_,rfl,rfl,_,rfl,cR (aY (by decide)) ⟨_,rfl,rfl,_,rfl,qC rfl ?_⟩⟩
    rw[mnF] at q0
    exact⟨_,rfl,a,_,rfl,.inr (SqT.of ha),rfl,q0⟩
   | @gives a i kk ha hi k1 k9 =>
    refine⟨_,rfl,_,_,_,_,rfl,.tup ha,fc _ _,_,rfl,cX ⟨_,rfl,a,_,rfl,.inr (SqT.of ha),rfl,_,rfl,cR (ne0 (YD _)) ?_⟩⟩
    refine⟨_,rfl,a,_,_,_,rfl,rfl,SqT.of ha,aM (k:=0) rfl,?_⟩
    refine⟨_,rfl,rfl,_,rfl,cR (aY (by decide)) ⟨_,rfl,rfl,_,rfl,cR (aY (by decide)) ?_⟩⟩
    refine⟨_,rfl,rfl,_,rfl,qC rfl ?_⟩
    refine⟨_,rfl,a,_,rfl,.inr (SqT.of ha),rfl,_,rfl,qC rfl ?_⟩
    refine⟨_,rfl,a,_,_,_,rfl,rfl,SqT.of ha,aM (k:=1) rfl,_,rfl,_,_,rfl,rfl,vN i,0,(m:Int) - 1,rfl,.int _,_,rfl,?_⟩
    rw[show vN i=V.int (i:Int) from rfl,Ag (by lia)]
    rw[mnF] at q0
    have e:ltF m [i]=decide (i < m):=by
     show (decide (i < m) && true)=_
     rw[Bool.and_true]
    rw[e] at q0
    refine xx (fun c=>?_) (fun c=>?_)
    ·rw[c] at q0
     refine⟨_,rfl,a,_,_,_,rfl,rfl,SqT.of ha,aM (k:=2) rfl,.int kk,1,9,rfl,.int _,?_⟩
     rw[jx k1 k9]
     exact q0
    ·rw[Bool.eq_false_iff.mpr c] at q0
     exact q0
   | @sum a b c kk ha hb hc hp l20 l2 k1 k99 =>
    refine⟨_,rfl,_,_,_,_,rfl,.tup ha,fc _ _,_,rfl,cX ⟨_,rfl,a,_,rfl,.inr (SqT.of ha),rfl,_,rfl,cR (ne0 (YD _)) ?_⟩⟩
    refine⟨_,rfl,a,_,_,_,rfl,rfl,SqT.of ha,aM (k:=0) rfl,?_⟩
    refine⟨_,rfl,rfl,_,rfl,cR (aY (by decide)) ⟨_,rfl,rfl,_,rfl,cR (aY (by decide)) ?_⟩⟩
    refine⟨_,rfl,rfl,_,rfl,cR (aY (by decide)) ?_⟩
    refine⟨_,rfl,rfl,_,rfl,qC rfl ?_⟩
    refine⟨_,rfl,a,_,rfl,.inr (SqT.of ha),rfl,_,rfl,qC rfl ?_⟩
    refine⟨_,rfl,_,rfl,a,_,_,_,rfl,rfl,SqT.of ha,aM (k:=1) rfl,b,c,m,2,rfl,hb,hp,by lia,_,rfl,?_⟩
    rw[mnF] at q0
    refine xx (fun c=>?_) (fun c=>?_)
    ·rw[c] at q0
     refine⟨_,rfl,a,_,_,_,rfl,rfl,SqT.of ha,aM (k:=2) rfl,.int kk,1,99,rfl,.int _,?_⟩
     rw[jx k1 k99]
     exact q0
    ·rw[Bool.eq_false_iff.mpr c] at q0
     exact q0
   | @crowd a b c kk mm ha hb hc hp l20 l1 k1 k9 m1 m12 =>
    refine⟨_,rfl,_,_,_,_,rfl,.tup ha,fc _ _,_,rfl,cX ⟨_,rfl,a,_,rfl,.inr (SqT.of ha),rfl,_,rfl,cR (ne0 (YD _)) ?_⟩⟩
    refine⟨_,rfl,a,_,_,_,rfl,rfl,SqT.of ha,aM (k:=0) rfl,?_⟩
    refine⟨_,rfl,rfl,_,rfl,cR (aY (by decide)) ⟨_,rfl,rfl,_,rfl,cR (aY (by decide)) ?_⟩⟩
    refine⟨_,rfl,rfl,_,rfl,cR (aY (by decide)) ?_⟩
    refine⟨_,rfl,rfl,_,rfl,cR (aY (by decide)) ?_⟩
    refine⟨_,rfl,rfl,_,rfl,qC rfl ?_⟩
    refine⟨_,rfl,a,_,rfl,.inr (SqT.of ha),rfl,_,rfl,rE rfl ?_⟩
    refine⟨_,rfl,_,rfl,a,_,_,_,rfl,rfl,SqT.of ha,aM (k:=1) rfl,b,c,m,1,rfl,hb,hp,by lia,_,rfl,?_⟩
    rw[mnF] at q0
    cases z:ltF m c with
    | false =>
     rw[z] at q0
     exact fX q0
    | true =>
     rw[z] at q0
     refine cX ⟨_,rfl,a,_,_,_,rfl,rfl,SqT.of ha,aM (k:=2) rfl,.int kk,1,9,rfl,.int _,_,rfl,?_⟩
     rw[jx k1 k9]
     refine fX ⟨_,rfl,a,_,_,_,rfl,rfl,SqT.of ha,aM (k:=3) rfl,.int mm,1,12,rfl,.int _,?_⟩
     rw[jx m1 m12]
     exact q0
   | @all a b us ts ha hb l2 l6 rl =>
    have hdl:tdL ts+1<=dp:=by rw[Tm.dep] at hd; exact hd
    have t1:=um rl l2
    refine⟨_,rfl,_,_,_,_,rfl,.tup ha,fc _ _,_,rfl,cX ⟨_,rfl,a,_,rfl,.inr (SqT.of ha),rfl,_,rfl,cR (ne0 (YD _)) ?_⟩⟩
    refine⟨_,rfl,a,_,_,_,rfl,rfl,SqT.of ha,aM (k:=0) rfl,?_⟩
    refine⟨_,rfl,rfl,_,rfl,cR (aY (by decide)) ⟨_,rfl,rfl,_,rfl,cR (aY (by decide)) ?_⟩⟩
    refine⟨_,rfl,rfl,_,rfl,cR (aY (by decide)) ?_⟩
    refine⟨_,rfl,rfl,_,rfl,cR (aY (by decide)) ?_⟩
    refine⟨_,rfl,rfl,_,rfl,cR (aY (by decide)) ?_⟩
    refine⟨_,rfl,rfl,_,rfl,qC rfl (fX ?_)⟩
    refine⟨_,rfl,a,_,rfl,.inr (SqT.of ha),rfl,_,rfl,qC rfl ?_⟩
    refine⟨_,rfl,_,rfl,a,_,_,_,rfl,rfl,SqT.of ha,aM (k:=1) rfl,_,rfl,_,_,rfl,rfl,b,us,ts,n0,m,dp - 1,?_,by lia,hb,l2,l6,rl,by lia,by lia,fun H' s'=>?_⟩
    ·rw[show ((dp - 1:Nat):Int)=(dp:Int) - 1 by lia]
     rfl
    ·have q1:=q H' s'
     rw[mnF] at q1
     exact q1
   | @any a b us ts ha hb l2 l6 rl =>
    have hdl:tdL ts+1<=dp:=by rw[Tm.dep] at hd; exact hd
    have t1:=um rl l2
    refine⟨_,rfl,_,_,_,_,rfl,.tup ha,fc _ _,_,rfl,cX ⟨_,rfl,a,_,rfl,.inr (SqT.of ha),rfl,_,rfl,cR (ne0 (YD _)) ?_⟩⟩
    refine⟨_,rfl,a,_,_,_,rfl,rfl,SqT.of ha,aM (k:=0) rfl,?_⟩
    refine⟨_,rfl,rfl,_,rfl,cR (aY (by decide)) ⟨_,rfl,rfl,_,rfl,cR (aY (by decide)) ?_⟩⟩
    refine⟨_,rfl,rfl,_,rfl,cR (aY (by decide)) ?_⟩
    refine⟨_,rfl,rfl,_,rfl,cR (aY (by decide)) ?_⟩
    refine⟨_,rfl,rfl,_,rfl,cR (aY (by decide)) ?_⟩
    refine⟨_,rfl,rfl,_,rfl,cR (aY (by decide)) ⟨_,rfl,rfl,_,rfl,qC rfl ?_⟩⟩
    refine⟨_,rfl,a,_,rfl,.inr (SqT.of ha),rfl,_,rfl,qC rfl ?_⟩
    refine⟨_,rfl,_,rfl,a,_,_,_,rfl,rfl,SqT.of ha,aM (k:=1) rfl,_,rfl,_,_,rfl,rfl,b,us,ts,n0,m,dp - 1,?_,by lia,hb,l2,l6,rl,by lia,by lia,fun H' s'=>?_⟩
    ·rw[show ((dp - 1:Nat):Int)=(dp:Int) - 1 by lia]
     rfl
    ·have q1:=q H' s'
     rw[mnF] at q1
     exact q1
  ·refine⟨_,rfl,_,_,_,_,rfl,.tup he,fc _ _,_,rfl,cX ⟨_,rfl,e,_,rfl,.inr (SqT.of he),rfl,_,rfl,qC rfl q⟩⟩
inductive wL (vs:List V) (H:Hp) (Q:VK):Prop where
 | mk (v:V) (m:Nat) (z0:vs=[.int (m:Int),v]) (z1:((∃ (n:Nat) (t:Tm),jg n H v t/\t.dep<=4/\∀ H',aZ H H'->Q (.bl (ltF m (mnF t))) H')∨(∃ e:Addr,v = .ref e/\H e=some (.tup [])/\Q (.bl false) H))):wL  vs H Q
def Ar:Sp:=fun vs H Q _=>wL  vs H Q
theorem Cv {k:Nat} {t1:Tok} (F:Fun K "is_term" "is_term" pZ f fd) (B:Bt mg) (c_MOST_DEPTH:mg "MOST_DEPTH" = some (.int 4 t1))
  (D_is_term_within:Df P w K mg base "is_term_within" k ["many","thing","deep"] (jG 4)):cG P w K mg base CX0 (k+1) f fd ["many","term"] Ar:=by
 refine F.ok Dd (fun vs H Q E h=>?_) (fun cdv A outer s H vs Q E hr h=>?_)
 ·obtain⟨v,m,rfl,_⟩:=h
  rfl
 ·obtain⟨v,m,rfl,h⟩:=h
  refine⟨_,(aB (aG (aX D_is_term_within hr (aa (pv 0) (aa (pv 1) (aa (qP c_MOST_DEPTH) aj)))))),?_⟩
  exact⟨_,rfl,_,rfl,v,m,4,rfl,by decide,by decide,h⟩
inductive Rg where
 | rung (k:Int) (t:Tm) | bad
inductive kJ (n:Nat) (H:Hp):V->Rg->Prop where
 | rung {r:Addr} {k:Int} {v:V} {t:Tm}:H r=some (.tup [.int k,v])->jg n H v t->t.dep<=4->kJ n H (.ref r) (.rung k t)
 | odd {r:Addr} {xs:List V}:H r=some (.tup xs)->xs.length≠2->kJ n H (.ref r) .bad
 | text {r:Addr} {x:V9} {v:V}:H r=some (.tup [.str x,v])->kJ n H (.ref r) .bad
 | hollow {r e:Addr} {k:Int}:H r=some (.tup [.int k,.ref e])->H e=some (.tup [])->kJ n H (.ref r) .bad
theorem kJ.aV {n:Nat} {H H':Hp} {v:V} {g:Rg} (e:∀ a xs,H a=some (HO.tup xs)->H' a=some (HO.tup xs)):kJ n H v g->kJ n H' v g
 | .rung h t d=>.rung (e _ _ h) (t.aV e) d
 | .odd h l=>.odd (e _ _ h) l
 | .text h=>.text (e _ _ h)
 | .hollow h h2=>.hollow (e _ _ h) (e _ _ h2)
theorem kJ.mono {n:Nat} {H H':Hp} {v:V} {g:Rg} (e:aZ H H') (h:kJ n H v g):kJ n H' v g:=h.aV fun a xs q=>e a _ q
inductive jZ (n:Nat) (H:Hp):List V->List Rg->Prop where
 | nil:jZ n H [] []
 | cons {v:V} {g:Rg} {vs:List V} {gs:List Rg}:kJ n H v g->jZ n H vs gs->jZ n H (v::vs) (g::gs)
theorem jZ.aV {n:Nat} {H H':Hp} (e:∀ a xs,H a=some (HO.tup xs)->H' a=some (HO.tup xs)):∀ {vs:List V} {gs:List Rg},jZ n H vs gs->jZ n H' vs gs
 | _,_,.nil=>.nil
 | _,_,.cons h r=>.cons (h.aV e) (jZ.aV e r)
theorem jZ.length {n:Nat} {H:Hp}:∀ {vs:List V} {gs:List Rg},jZ n H vs gs->vs.length=gs.length
 | _,_,.nil=>rfl
 | _,_,.cons _ r=>by rw[Vr,Vr,jZ.length r]
theorem jZ.get {n:Nat} {H:Hp}:∀ {vs:List V} {gs:List Rg} {i:Nat} {v:V},jZ n H vs gs->vs[i]? = some v->∃ g,gs[i]? = some g/\kJ n H v g
 | _,_,_,_,.nil,h=>by simp at h
 | _,_,0,_,.cons h _,e=>by
  cases (show some _=some _ from e)
  exact⟨_,rfl,h⟩
 | _,_,i+1,_,.cons _ r,e=>by
  obtain⟨g,e1,e2⟩:=jZ.get (i:=i) r (by simpa using e)
  exact⟨g,by simpa using e1,e2⟩
def rgF (m who:Nat) (lo:Int):Rg->Bool
 | .rung k t=>(decide (lo<=k) && decide (k<=9)) && (ltF m (mnF t) && !decide (who∈mnF t))
 | .bad=>false
def rgK:Rg->Int
 | .rung k _=>k
 | .bad=>0
def plF (m who:Nat):Int->List Rg->Bool
 | _,[]=>true
 | lo,g::r=>rgF m who lo g && plF m who (rgK g+1) r
def Tc (m who:Nat) (gs:List Rg):Bool:=(decide (1<=gs.length) && decide (gs.length<=9)) && plF m who 1 gs
theorem Bp (x:Int):∀ ns:List Int,inV (.int x) (ns.map V.int)=decide (x∈ns)
 | []=>by rw[decide_eq_false (by simp)]; rfl
 | n::r=>by
  have ih:=Bp x r
  show (eqV (.int n) (.int x) || inV (.int x) (r.map V.int))=_
  rw[ih]
  have e:eqV (.int n) (.int x)=(n == x):=rfl
  rw[e,ZF]
  simp only[ZD,decide_eq_true_eq,Wy,beq_iff_eq]
  exact⟨fun h=>h.elim (fun z=>.inl z.symm) .inr,fun h=>h.elim (fun z=>.inl z.symm) .inr⟩
theorem Qz {c:List Nat} {ms:List Int} (h:nmI c ms) (x:Nat):(x:Int)∈ms ↔ x∈c:=by
 obtain⟨p,_⟩:=h
 rw[p.mem_iff,vK,Cd]
 constructor
 ·rintro (h | h)
  ·cases h
  ·obtain⟨y,hy,e⟩:=List.mem_map.mp h
   have:x=y:=by lia
   rw[this]
   exact hy
 ·exact fun h=>.inr (List.mem_map.mpr ⟨x,h,rfl⟩)
theorem Ku (ns:List Int):(ns.map V.int).all qX=true:=by
 rw[abO]
 exact List.all_eq_true.mpr fun _ _=>rfl
abbrev qL:Stmt:=top 31
abbrev kh:Stmt:=top 32
theorem mq:aO ["many","one","thing","lowest_step","step","term"] ["many","one","thing","lowest_step"] (aD qL):=⟨rfl,rfl,rfl,by decide+kernel,rfl,by decide+kernel,by decide+kernel⟩
theorem f9:aO ["many","one","thing","lowest_step","rung"] ["many","one","thing"] (aD kh):=⟨rfl,rfl,rfl,by decide+kernel,rfl,by decide+kernel,by decide+kernel⟩
inductive vp (vs:List V) (H:Hp) (Q:VK):Prop where
 | mk (v:V) (g:Rg) (n m who:Nat) (lo:Int) (z0:vs=[.int (m:Int),.int (who:Int),v,.int lo]) (z1:kJ n H v g) (z2:n<=12) (z3:∀ H',aZ H H'->Q (.bl (rgF m who lo g)) H'):vp  vs H Q
def Bv:Sp:=fun vs H Q _=>vp  vs H Q
theorem ne2 {n:Nat} (h:n≠2):(!decide (V.int (n:Int)=V.int 2))=true:=by
 rw[decide_eq_false fun z=>h (by injection z with z; lia)]
 rfl
theorem DG {k:Nat} {t1:Tok} (F:Fun K "is_rung" "is_rung" qL f fd) (B:Bt mg) (c_MOST_STEP:mg "MOST_STEP" = some (.int 9 t1)) (hk:5<=k)
  (D_is_number:Df P w K mg base "is_number" 1 ["thing","low","high"] jo) (D_is_term:Df P w K mg base "is_term" k ["many","term"] Ar) (D_named:Df P w K mg base "named" 5 ["term"] Ji):cG P w K mg base CX0 (k+1) f fd ["many","one","thing","lowest_step"] Bv:=by
 refine F.ok mq (fun vs H Q E h=>?_) (fun cdv A outer s H vs Q E hr h=>?_)
 ·obtain⟨v,g,n,m,who,lo,rfl,_⟩:=h
  rfl
 ·obtain⟨v,g,n,m,who,lo,rfl,rg,hn,q⟩:=h
  refine⟨_,(au (bG (PW.pt (nU (gn (dF (aF (r:=vo K) cg rfl B.isinstance_ bj (aa (pv 2) (aa (jB B.tuple_ bK) aj))))) (jk (aL zL (aF (r:=lR K) bx rfl B.len_ cI (aa (pv 2) aj)) aA (aU _))))) (aB (aG gZ)) aR)
 (au (Ng (pv 2) (dM (K:=K) 2 rfl rfl (bB (aK (i:=4) mq.nd rfl (Vv rfl)) (bB (aK (i:=5) mq.nd rfl (Vv rfl)) dI))))
 (aB (aG (fO (aX D_is_number hr (aa (pv 4) (aa (pv 3) (aa (qP c_MOST_STEP) aj)))) (fO (aX D_is_term hr (aa (pv 0) (aa (pv 5) aj))) (lq (cV (r:=rIn K true) wI (pv 1) (aX D_named hr (aa (pv 5) aj)) rfl)))))))),?_⟩
  have q0:=q H (aZ.refl H)
  cases rg with
  | @rung r kk u t hr0 rt hd =>
   refine⟨_,rfl,_,_,_,_,rfl,.tup hr0,fc _ _,_,rfl,cX ⟨_,rfl,r,_,rfl,.inr (SqT.of hr0),rfl,_,rfl,rE rfl ?_⟩⟩
   refine⟨_,rfl,r,_,rfl,SqT.of hr0,rfl,_,_,rfl,_,_,rfl,rfl,?_⟩
   refine⟨_,rfl,_,rfl,.int kk,lo,9,rfl,.int _,_,rfl,?_⟩
   have er:rgF m who lo (.rung kk t)=(isNum (.int kk) lo 9 && (ltF m (mnF t) && !decide (who∈mnF t))):=rfl
   rw[er] at q q0
   refine xx (fun c=>?_) (fun c=>?_)
   ·rw[c,Zv] at q
    refine⟨_,rfl,_,rfl,u,m,rfl,.inl ⟨n,t,rt,hd,fun H1 s1=>⟨_,rfl,?_⟩⟩⟩
    refine xx (fun c2=>?_) (fun c2=>?_)
    ·rw[c2,Zv] at q
     refine⟨_,rfl,_,rfl,u,n,t,rfl,rt.mono s1,hd,hn,fun r1 ms H2 s2 f2 nm e2=>?_⟩
     refine⟨r1,_,rfl,.inl (SqL.of e2),rfl,Ku ms,?_⟩
     have q':=q H2 (s1.trans s2)
     rw[show (decide (who∈mnF t))=inV (.int (who:Int)) (ms.map V.int) by rw[Bp]; exact decide_eq_decide.mpr (Qz nm who).symm] at q'
     exact q'
    ·have q':=q H1 s1
     rw[Bool.eq_false_iff.mpr c2,Ze] at q'
     exact q'
   ·rw[Bool.eq_false_iff.mpr c,Ze] at q0
    exact q0
  | @odd r xs hr0 hl =>
   exact⟨_,rfl,_,_,_,_,rfl,.tup hr0,fc _ _,_,rfl,cX ⟨_,rfl,r,_,rfl,.inr (SqT.of hr0),rfl,_,rfl,Rq (ne2 hl) q0⟩⟩
  | @text r x u hr0 =>
   refine⟨_,rfl,_,_,_,_,rfl,.tup hr0,fc _ _,_,rfl,cX ⟨_,rfl,r,_,rfl,.inr (SqT.of hr0),rfl,_,rfl,rE rfl ?_⟩⟩
   refine⟨_,rfl,r,_,rfl,SqT.of hr0,rfl,_,_,rfl,_,_,rfl,rfl,?_⟩
   exact⟨_,rfl,_,rfl,.str x,lo,9,rfl,.str _,_,rfl,cX q0⟩
  | @hollow r e kk hr0 he =>
   refine⟨_,rfl,_,_,_,_,rfl,.tup hr0,fc _ _,_,rfl,cX ⟨_,rfl,r,_,rfl,.inr (SqT.of hr0),rfl,_,rfl,rE rfl ?_⟩⟩
   refine⟨_,rfl,r,_,rfl,SqT.of hr0,rfl,_,_,rfl,_,_,rfl,rfl,?_⟩
   refine⟨_,rfl,_,rfl,.int kk,lo,9,rfl,.int _,_,rfl,?_⟩
   refine xx (fun c=>?_) (fun c=>?_)
   ·exact⟨_,rfl,_,rfl,.ref e,m,rfl,.inr ⟨e,rfl,he,_,rfl,cX q0⟩⟩
   ·exact q0
inductive oV (vs:List V) (H:Hp) (Q:VK):Prop where
 | mk (a:Addr) (us:List V) (gs:List Rg) (n m who:Nat) (z0:vs=[.int (m:Int),.int (who:Int),.ref a]) (z1:H a=some (.tup us)) (z2:jZ n H us gs) (z3:n<=12) (z4:us.length<=20) (z5:1<=m) (z6:∀ H',aZ H H'->Q (.bl (Tc m who gs)) H'):oV  vs H Q
def sG:Sp:=fun vs H Q _=>oV  vs H Q
theorem kJ.good {n:Nat} {H:Hp} {v:V} {g:Rg} {m who:Nat} {lo:Int} (h:kJ n H v g) (e:rgF m who lo g=true):∃ r kk u t,v = .ref r/\H r=some (.tup [.int kk,u])/\jg n H u t/\t.dep<=4/\g = .rung kk t:=by
 cases h with
 | rung h1 h2 h3=>exact⟨_,_,_,_,rfl,h1,h2,h3,rfl⟩
 | odd=>cases e
 | text=>cases e
 | hollow=>cases e
theorem vX {k:Nat} {t1:Tok} (F:Fun K "is_pledge" "is_pledge" kh f fd) (B:Bt mg) (c_MOST_RUNGS:mg "MOST_RUNGS" = some (.int 9 t1)) (hk:1<=k)
  (D_is_number:Df P w K mg base "is_number" 1 ["thing","low","high"] jo) (D_is_rung:Df P w K mg base "is_rung" k ["many","one","thing","lowest_step"] Bv):cG P w K mg base CX0 (k+1) f fd ["many","one","thing"] sG:=by
 refine F.ok f9 (fun vs H Q E h=>?_) (fun cdv A outer s H vs Q E hr h=>?_)
 ·obtain⟨a,us,gs,n,m,who,rfl,_⟩:=h
  rfl
 ·obtain⟨a,us,gs,n,m,who,rfl,ha,rg,hn,l20,hm,q⟩:=h
  refine⟨_,(au (bG (PW.pt (nU (gn (dF (aF (r:=vo K) cg rfl B.isinstance_ bj (aa (pv 2) (aa (jB B.tuple_ bK) aj))))) (jk (gn (dF (aX D_is_number hr (aa (aF (r:=lR K) bx rfl B.len_ cI (aa (pv 2) aj)) (aa aA (aa (qP c_MOST_RUNGS) aj))))))))) (aB (aG gZ)) aR)
 (au (aW (i:=3) f9.nd rfl (Vv rfl) aA)
 (au (eZ Wf rfl (dJ (pv 2)) (aK (i:=4) f9.nd rfl (Vv rfl)) (au (bG (gn (dF (aX D_is_rung hr (aa (pv 0) (aa (pv 1) (aa (pv 4) (aa (pv 3) aj))))))) (aB (aG gZ)) aR)
 (aB (aW (i:=3) f9.nd rfl (Vv rfl) (bf bW (bw (r:=fZ K) bD (pv 4) aA (fun _ _=>rfl)) aA)))))
 (aB (aG gZ))))),?_⟩
  have el:=rg.length
  have q0:=q H (aZ.refl H)
  refine⟨_,rfl,_,_,_,_,rfl,.tup ha,fc _ _,_,rfl,cX ⟨_,rfl,a,_,rfl,.inr (SqT.of ha),.int (us.length:Int),1,9,rfl,.int _,_,rfl,?_⟩⟩
  have en:isNum (.int (us.length:Int)) 1 9=(decide (1<=gs.length) && decide (gs.length<=9)):=by
   show (decide ((1:Int)<=(us.length:Int)) && decide ((us.length:Int)<=9))=_
   rw[el]
   congr 1
   ·exact decide_eq_decide.mpr ⟨fun z=>by lia,fun z=>by lia⟩
   ·exact decide_eq_decide.mpr ⟨fun z=>by lia,fun z=>by lia⟩
  rw[en]
  unfold Tc at q q0
  cases hc:(decide (1<=gs.length) && decide (gs.length<=9)) with
  | false =>
   rw[hc,Ze] at q0
   exact fX q0
  | true =>
   rw[hc,Zv] at q
   refine cX ⟨_,rfl,a,rfl,⟨_,SqT.of ha⟩,mX (K:=K) (a:=a) (xs:=us) (fun i σ H2=>aZ H H2/\∃ (lo:Int) (u:Option V),σ=[some (.int (m:Int)),some (.int (who:Int)),some (.ref a),some (.int lo),u]/\plF m who lo (gs.drop i)=plF m who 1 gs)
    ⟨aZ.refl H,1,_,rfl,by rw[List.drop_zero]⟩ (fun i σ H2 _ h=>SqT.of (h.1 _ _ ha)) ?_ ?_⟩
   ·rintro i x σ H2 hx ⟨sm,lo,u,rfl,er⟩
    obtain⟨g,hg,rx⟩:=rg.get hx
    have hi:i < gs.length:=(List.getElem?_eq_some_iff.mp hg).1
    have eg:gs[i]=g:=(List.getElem?_eq_some_iff.mp hg).2
    have ed:gs.drop i=g::gs.drop (i+1):=by rw[Xo hi,eg]
    rw[ed,plF] at er
    refine⟨_,rfl,_,rfl,_,rfl,_,rfl,x,g,n,m,who,lo,rfl,rx.mono sm,hn,fun H3 s3=>⟨_,rfl,?_⟩⟩
    cases e:rgF m who lo g with
    | false =>
     rw[e,Ze] at er
     have q':=q H3 (sm.trans s3)
     rw[← er] at q'
     exact fX q'
    | true =>
     rw[e,Zv] at er
     obtain⟨r,kk,y,t,rfl,h1,_,_,rfl⟩:=rx.good e
     refine cX ⟨_,rfl,r,_,_,_,rfl,rfl,SqT.of (s3 _ _ (sm _ _ h1)),aM (k:=0) rfl,_,_,rfl,rfl,sm.trans s3,kk+1,_,rfl,er⟩
   ·rintro σ H2 ⟨sm,lo,u,rfl,er⟩
    rw[el,List.drop_length,plF] at er
    have q':=q H2 sm
    rw[← er] at q'
    exact q'
abbrev Ent:=Nat × Nat × Pl
inductive cL (n:Nat) (H:Hp):List V->List Ent->Prop where
 | nil:cL n H [] []
 | cons {e p:Addr} {num one:Nat} {pl:Pl} {us:List V} {es:List Ent}:H e=some (.tup [vN num,vN one,.ref p])->nQ n H p pl->cL n H us es->cL n H (.ref e::us) ((num,one,pl)::es)
theorem cL.aV {n:Nat} {H H':Hp} (e:∀ a xs,H a=some (HO.tup xs)->H' a=some (HO.tup xs)):∀ {us:List V} {es:List Ent},cL n H us es->cL n H' us es
 | _,_,.nil=>.nil
 | _,_,.cons h p r=>.cons (e _ _ h) (p.aV e) (cL.aV e r)
theorem cL.length {n:Nat} {H:Hp}:∀ {us:List V} {es:List Ent},cL n H us es->us.length=es.length
 | _,_,.nil=>rfl
 | _,_,.cons _ _ r=>by rw[Vr,Vr,cL.length r]
theorem cL.get {n:Nat} {H:Hp}:∀ {us:List V} {es:List Ent} {i:Nat} {u:V},cL n H us es->us[i]? = some u->∃ (e p:Addr) (num one:Nat) (pl:Pl),u = .ref e/\es[i]? = some (num,one,pl)/\H e=some (.tup [vN num,vN one,.ref p])/\nQ n H p pl
 | _,_,_,_,.nil,h=>by simp at h
 | _,_,0,_,.cons h p _,e=>by
  cases (show some _=some _ from e)
  exact⟨_,_,_,_,_,rfl,rfl,h,p⟩
 | _,_,i+1,_,.cons _ _ r,e=>by
  obtain⟨a,p,x,y,z,h1,h2,h3⟩:=cL.get (i:=i) r (by simpa using e)
  exact⟨a,p,x,y,z,h1,by simpa using h2,h3⟩
theorem cL.snoc {n:Nat} {H:Hp} {e p:Addr} {num one:Nat} {pl:Pl} (h:H e=some (.tup [vN num,vN one,.ref p])) (hp:nQ n H p pl):∀ {us:List V} {es:List Ent},cL n H us es->cL n H (us++[.ref e]) (es++[(num,one,pl)])
 | _,_,.nil=>.cons h hp .nil
 | _,_,.cons a b r=>.cons a b (cL.snoc h hp r)
def Ks (CS:Addr) (H H':Hp):Prop:=(∀ a xs,H a=some (HO.tup xs)->H' a=some (HO.tup xs))/\∀ a dx fs,H a=some (HO.ins CS dx fs)->H' a=some (HO.ins CS dx fs)
theorem ksS {CS:Addr} {H H':Hp} (s:aZ H H'):Ks CS H H':=⟨fun a xs h=>s a _ h,fun a dx fs h=>s a _ h⟩
def stF (ga goa sa:Addr) (co:Nat):List (V9 × V):=[("green",.ref ga),("gone",.ref goa),("standing",.ref sa),("coming",vN co)]
def jc (CS:Addr) (n:Nat) (H:Hp) (a:Addr) (g:List Int) (go:List Nat) (es:List Ent) (co:Nat):Prop :=
 ∃ (dx ga goa sa:Addr) (us:List V),H a=some (.ins CS dx (stF ga goa sa co))/\H ga=some (.tup (g.map V.int))/\H goa=some (.tup (go.map vN))/\H sa=some (.tup us)/\cL n H us es
theorem jc.ks {CS:Addr} {n:Nat} {H H':Hp} {a:Addr} {g:List Int} {go:List Nat} {es:List Ent} {co:Nat} (k:Ks CS H H') (h:jc CS n H a g go es co):jc CS n H' a g go es co:=by
 obtain⟨dx,ga,goa,sa,us,h1,h2,h3,h4,h5⟩:=h
 exact⟨dx,ga,goa,sa,us,k.2 _ _ _ h1,k.1 _ _ h2,k.1 _ _ h3,k.1 _ _ h4,h5.aV k.1⟩
def bnF (nw be ah:Addr):List (V9 × V):=[("now",.ref nw),("behind",.ref be),("ahead",.ref ah)]
def cC (CS CB:Addr) (n:Nat) (H:Hp) (b be:Addr) (d:Nat) (g:List Int) (go:List Nat) (es:List Ent) (co:Nat):Prop :=
 ∃ (dx nw ah:Addr) (xs:List V),H b=some (.ins CB dx (bnF nw be ah))/\H be=some (.lst xs)/\xs.length=d/\jc CS n H nw g go es co
def But (b be:Addr) (H H':Hp):Prop:=∀ a o,a≠b->a≠be->H a=some o->H' a=some o
theorem But.ks {CS CB b be dx:Addr} {fs:List (V9 × V)} {xs:List V} {H H':Hp} (h:But b be H H') (ne:CB≠CS) (hb:H b=some (.ins CB dx fs)) (hl:H be=some (.lst xs)):Ks CS H H':=by
 refine⟨fun a ys q=>h a _ (fun z=>?_) (fun z=>?_) q,fun a dx' fs' q=>h a _ (fun z=>?_) (fun z=>?_) q⟩
 ·rw[z,hb] at q; cases q
 ·rw[z,hl] at q; cases q
 ·rw[z,hb] at q
  injection q with q
  injection q with q1
  exact ne q1
 ·rw[z,hl] at q; cases q
theorem O9 {b be:Addr} {H H':Hp} (s:aZ H H'):But b be H H':=fun a o _ _ q=>s a o q
theorem But.trans {b be:Addr} {H H1 H2:Hp} (h:But b be H H1) (k:But b be H1 H2):But b be H H2:=fun a o x y q=>k a o x y (h a o x y q)
theorem cC.same {CS CB:Addr} {n:Nat} {H H':Hp} {b be:Addr} {d:Nat} {g:List Int} {go:List Nat} {es:List Ent} {co:Nat} (s:aZ H H') (h:cC CS CB n H b be d g go es co):cC CS CB n H' b be d g go es co:=by
 obtain⟨dx,nw,ah,xs,h1,h2,h3,h4⟩:=h
 exact⟨dx,nw,ah,xs,s _ _ h1,s _ _ h2,h3,h4.ks (ksS s)⟩
theorem cC.but {CS CB:Addr} {n m:Nat} {H H':Hp} {b be b' be':Addr} {d d':Nat} {g g':List Int} {go go':List Nat} {es es':List Ent} {co co':Nat} (ne:CB≠CS) (x:But b be H H') (h':cC CS CB m H b be d' g' go' es' co') (h:cC CS CB n H b' be' d g go es co) (hb:b'≠b) (hl:be'≠be):cC CS CB n H' b' be' d g go es co:=by
 obtain⟨dx,nw,ah,xs,h1,h2,h3,h4⟩:=h
 obtain⟨dx',nw',ah',xs',k1,k2,k3,k4⟩:=h'
 refine⟨dx,nw,ah,xs,x _ _ hb (fun z=>?_) h1,x _ _ (fun z=>?_) hl h2,h3,h4.ks (x.ks ne k1 k2)⟩
 ·rw[z,k2] at h1; cases h1
 ·rw[z,k1] at h2; cases h2
structure Aw (K:VB) (CS:Addr):Prop where
 cl:Cls K CS
 green:ig K CS "green"
 gone:ig K CS "gone"
 standing:ig K CS "standing"
 coming:ig K CS "coming"
structure Ew (K:VB) (CB:Addr):Prop where
 cl:Cls K CB
 now:ig K CB "now"
 behind:ig K CB "behind"
 ahead:ig K CB "ahead"
abbrev jz:Stmt:=inClass (top 37) 0
theorem lZ:aO ["self","green","gone","standing","coming"] ["self","green","gone","standing","coming"] (aD jz):=⟨rfl,rfl,rfl,by decide+kernel,rfl,by decide+kernel,by decide+kernel⟩
inductive vG (CS:Addr) (vs:List V) (H:Hp) (Q:VK):Prop where
 | mk (x dx:Addr) (g go sd co:V) (z0:vs=[.ref x,g,go,sd,co]) (z1:H x=some (.ins CS dx [])) (z2:Q .non (upd H x (.ins CS dx [("green",g),("gone",go),("standing",sd),("coming",co)]))):vG CS vs H Q
def iT (CS:Addr):Sp:=fun vs H Q _=>vG CS vs H Q
theorem uQ {CS:Addr} (F:Fun K "__init__" "Stand.__init__" jz f fd) (S:Aw K CS):cG P w K mg base CX0 1 f fd ["self","green","gone","standing","coming"] (iT CS):=by
 refine F.ok lZ (fun vs H Q E h=>?_) (fun cdv A outer s H vs Q E hr h=>?_)
 ·obtain⟨x,dx,g,go,sd,co,rfl,_⟩:=h
  rfl
 ·obtain⟨x,dx,g,go,sd,co,rfl,hx,q⟩:=h
  refine⟨_,(au (lK (pv 0) (pv 1) rfl)
 (au (lK (pv 0) (pv 2) rfl)
 (au (lK (pv 0) (pv 3) rfl)
 (aB (lK (pv 0) (pv 4) rfl))))),?_⟩
  refine⟨_,rfl,_,rfl,x,CS,dx,_,rfl,hx,S.cl,S.green,by show 0 < 1000; decide,?_⟩
  refine⟨_,rfl,_,rfl,x,CS,dx,_,rfl,aq,S.cl,S.gone,by show 1 < 1000; decide,?_⟩
  refine⟨_,rfl,_,rfl,x,CS,dx,_,rfl,aq,S.cl,S.standing,by show 2 < 1000; decide,?_⟩
  refine⟨_,rfl,_,rfl,x,CS,dx,_,rfl,aq,S.cl,S.coming,by show 3 < 1000; decide,?_⟩
  rw[qN,qN,qN]
  exact q
abbrev jU:Stmt:=inClass (top 43) 0
theorem nT:aO ["self"] ["self"] (aD jU):=⟨rfl,rfl,rfl,by decide+kernel,rfl,by decide+kernel,by decide+kernel⟩
inductive Bc (CS CB:Addr) (vs:List V) (H:Hp) (Q:VK):Prop where
 | mk (b dx:Addr) (z0:vs=[.ref b]) (z1:H b=some (.ins CB dx [])) (z2:∀ (be:Addr) (H':Hp),H be=none->(∀ a o,a≠b->H a=some o->H' a=some o)->(∀ n,cC CS CB n H' b be 0 [] [] [] 0)->Q .non H'):Bc CS CB vs H Q
def Im (CS CB:Addr):Sp:=fun vs H Q _=>Bc CS CB vs H Q
theorem xN {CS CB:Addr} (F:Fun K "__init__" "Boon.__init__" jU f fd) (S:Ew K CB) (D_Stand:Dk2 P w K mg base "Stand" CS 1 ["self","green","gone","standing","coming"] (iT CS)) :
  cG P w K mg base CX0 3 f fd ["self"] (Im CS CB):=by
 refine F.ok nT (fun vs H Q E h=>?_) (fun cdv A outer s H vs Q E hr h=>?_)
 ·obtain⟨b,dx,rfl,_⟩:=h
  rfl
 ·obtain⟨b,dx,rfl,hb,q⟩:=h
  refine⟨_,(au (lK (pv 0) (Iw D_Stand hr (aa (bU aj) (aa (bU aj) (aa (bU aj) (aa aA aj))))) rfl)
 (au (lK (pv 0) (bR aj) rfl)
 (aB (lK (pv 0) (bR aj) rfl)))),?_⟩
  refine⟨small (by show 0<=1000; decide),fun p1 h1=>?_⟩
  generalize eH1:upd H p1 _=H1
  obtain⟨g1,e1⟩:=aP eH1 h1
  refine⟨small (by show 0<=1000; decide),fun p2 h2=>?_⟩
  generalize eH2:upd H1 p2 _=H2
  obtain⟨g2,e2⟩:=aP eH2 h2
  refine⟨small (by show 0<=1000; decide),fun p3 h3=>?_⟩
  generalize eH3:upd H2 p3 _=H3
  obtain⟨g3,e3⟩:=aP eH3 h3
  have s3:=g1.trans (g2.trans g3)
  intro x dx2 hx hdx hne
  have sA:aZ H3 (upd (upd H3 dx2 (.own x)) x (.ins CS dx2 [])):=(aC hdx _).trans (aC (by rw[bh hne.symm]; exact hx) _)
  refine⟨x,dx2,_,_,_,_,rfl,aq,rfl,?_⟩
  rw[qN]
  have sB:aZ H3 (upd (upd H3 dx2 (.own x)) x (.ins CS dx2 [("green",.ref p1),("gone",.ref p2),("standing",.ref p3),("coming",.int 0)])):=(aC hdx _).trans (aC (by rw[bh hne.symm]; exact hx) _)
  generalize eH4:upd (upd H3 dx2 (.own x)) x _=H4 at sB
  have e4:H4 x=some (.ins CS dx2 [("green",.ref p1),("gone",.ref p2),("standing",.ref p3),("coming",.int 0)]):=by rw[← eH4]; exact aq
  have s4:=s3.trans sB
  refine⟨_,rfl,b,CB,dx,_,rfl,s4 _ _ hb,S.cl,S.now,by show 0 < 1000; decide,?_⟩
  have k1:∀ a o,a≠b->H4 a=some o->upd H4 b (.ins CB dx (rZ "now" (.ref x) [])) a=some o:=fun a o h z=>by rw[bh h]; exact z
  generalize eH5:upd H4 b _=H5 at k1
  have e5:H5 b=some (.ins CB dx [("now",.ref x)]):=by rw[← eH5]; exact aq
  refine⟨small (by show 0<=1000; decide),fun be hbe=>?_⟩
  generalize eH6:upd H5 be _=H6
  obtain⟨g6,e6⟩:=aP eH6 hbe
  refine⟨_,rfl,b,CB,dx,_,rfl,g6 _ _ e5,S.cl,S.behind,by show 1 < 1000; decide,?_⟩
  have bb:be≠b:=fun z=>by rw[z,e5] at hbe; cases hbe
  have k2:∀ a o,a≠b->H6 a=some o->upd H6 b (.ins CB dx (rZ "behind" (.ref be) [("now",.ref x)])) a=some o:=fun a o h z=>by rw[bh h]; exact z
  generalize eH7:upd H6 b _=H7 at k2
  have e7:H7 b=some (.ins CB dx [("now",.ref x),("behind",.ref be)]):=by rw[← eH7]; exact aq
  refine⟨small (by show 0<=1000; decide),fun ah hah=>?_⟩
  generalize eH8:upd H7 ah _=H8
  obtain⟨g8,e8⟩:=aP eH8 hah
  refine⟨_,rfl,b,CB,dx,_,rfl,g8 _ _ e7,S.cl,S.ahead,by show 2 < 1000; decide,?_⟩
  have k3:∀ a o,a≠b->H8 a=some o->upd H8 b (.ins CB dx (rZ "ahead" (.ref ah) [("now",.ref x),("behind",.ref be)])) a=some o:=fun a o h z=>by rw[bh h]; exact z
  generalize eH9:upd H8 b _=H9 at k3
  have e9:H9 b=some (.ins CB dx (bnF x be ah)):=by rw[← eH9]; exact aq
  have all:∀ a o,a≠b->H4 a=some o->H9 a=some o:=fun a o h z=>k3 a o h (g8 _ _ (k2 a o h (g6 _ _ (k1 a o h z))))
  have tp:∀ (p:Addr) (xs:List V),H4 p=some (HO.tup xs)->H9 p=some (HO.tup xs):=fun p xs z=>all p _ (fun y=>by rw[y,s4 _ _ hb] at z; cases z) z
  have xb:x≠b:=fun z=>by rw[z] at hx; rw[s3 _ _ hb] at hx; cases hx
  refine q be H9 ?_ (fun a o h z=>all a o h (s4 _ _ z)) fun n=>⟨dx,x,ah,[],e9,k3 _ _ bb (g8 _ _ (k2 _ _ bb e6)),rfl,dx2,p1,p2,p3,[],all _ _ xb e4,tp _ _ (sB _ _ (g3 _ _ (g2 _ _ e1))),tp _ _ (sB _ _ (g3 _ _ e2)),tp _ _ (sB _ _ e3),.nil⟩
  cases hq:H be with
  | none=>rfl
  | some o =>
   have:=k1 be o bb (s4 _ _ hq)
   rw[hbe] at this
   cases this
abbrev jj:Stmt:=inClass (top 43) 1
theorem vg:aO ["self","stand"] ["self","stand"] (aD jj):=⟨rfl,rfl,rfl,by decide+kernel,rfl,by decide+kernel,by decide+kernel⟩
inductive Ih (CB:Addr) (vs:List V) (H:Hp) (Q:VK):Prop where
 | mk (b be st dx nw ah:Addr) (xs:List V) (z0:vs=[.ref b,.ref st]) (z1:H b=some (.ins CB dx (bnF nw be ah))) (z2:H be=some (.lst xs)) (z3:xs.length<=900) (z4:∀ (ah':Addr) (H':Hp),H' b=some (.ins CB dx (bnF st be ah'))->H' be=some (.lst (xs++[.ref nw]))->But b be H H'->Q .non H'):Ih CB vs H Q
def tu (CB:Addr):Sp:=fun vs H Q _=>Ih CB vs H Q
theorem tU {CB:Addr} (F:Fun K "go_on" "Boon.go_on" jj f fd) (S:Ew K CB):cG P w K mg base CX0 1 f fd ["self","stand"] (tu CB):=by
 refine F.ok vg (fun vs H Q E h=>?_) (fun cdv A outer s H vs Q E hr h=>?_)
 ·obtain⟨b,be,st,dx,nw,ah,xs,rfl,_⟩:=h
  rfl
 ·obtain⟨b,be,st,dx,nw,ah,xs,rfl,hb,hbe,l9,q⟩:=h
  refine⟨_,(au (bO (o4 Wr WR WQ cH (bu K rfl (pv 0)) (aa (bu K rfl (pv 0)) aj)))
 (au (lK (pv 0) (bR aj) rfl)
 (aB (lK (pv 0) (pv 1) rfl)))),?_⟩
  have bb:be≠b:=fun z=>by rw[z,hb] at hbe; cases hbe
  refine⟨_,rfl,b,CB,dx,_,_,rfl,hb,S.cl,S.behind,rfl,.inl ⟨rfl,_,SqL.of hbe⟩,_,rfl,b,CB,dx,_,_,rfl,hb,S.cl,S.now,rfl,be,_,_,rfl,rfl,hbe,aJ (by lia),?_⟩
  have k1:But b be H (upd H be (.lst (xs++[.ref nw]))):=fun a o _ h z=>by rw[bh h]; exact z
  generalize eH1:upd H be _=H1 at k1
  have e1:H1 be=some (.lst (xs++[.ref nw])):=by rw[← eH1]; exact aq
  have e1b:H1 b=some (.ins CB dx (bnF nw be ah)):=by rw[← eH1,bh bb.symm]; exact hb
  refine⟨small (by show 0<=1000; decide),fun a2 h2=>?_⟩
  generalize eH2:upd H1 a2 _=H2
  obtain⟨g2,e2⟩:=aP eH2 h2
  refine⟨_,rfl,b,CB,dx,_,rfl,g2 _ _ e1b,S.cl,S.ahead,by show 3 < 1000; decide,?_⟩
  have k3:∀ a o,a≠b->H2 a=some o->upd H2 b (.ins CB dx (rZ "ahead" (.ref a2) (bnF nw be ah))) a=some o:=fun a o h z=>by rw[bh h]; exact z
  generalize eH3:upd H2 b _=H3 at k3
  have e3:H3 b=some (.ins CB dx (bnF nw be a2)):=by rw[← eH3]; exact aq
  refine⟨_,rfl,_,rfl,b,CB,dx,_,rfl,e3,S.cl,S.now,by show 3 < 1000; decide,?_⟩
  refine q a2 _ aq (by rw[bh bb]; exact k3 _ _ bb (g2 _ _ e1)) fun a o h h' z=>?_
  rw[bh h]
  exact k3 _ _ h (g2 _ _ (k1 a o h h' z))
theorem Ti {K:VB} {H:Hp} {a b:Addr} {xs ys:List V} {Q:VK} (ha:H a=some (.tup xs)) (hb:H b=some (.tup ys)) (hl:xs.length+ys.length<=1000) (q:∀ (p:Addr) (H':Hp),aZ H H'->H' p=some (.tup (xs++ys))->Q (.ref p) H'):tG K (.ref a) (.ref b) H Q:=by
 refine⟨a,b,xs,ys,rfl,rfl,SqT.of ha,SqT.of hb,small hl,fun e=>?_,fun _ e=>?_,fun _ _ p hp=>q p _ (aC hp _) aq⟩
 ·subst e
  exact q b H (aZ.refl _) hb
 ·subst e
  exact q a H (aZ.refl _) (by rw[WK]; exact ha)
theorem nY {CS x dx:Addr} {H:Hp} {g go sd co:V} {Q:VK} {E:XK} (hx:H x=none) (hdx:H dx=none) (hne:dx≠x) (q:∀ H',aZ H H'->H' x=some (.ins CS dx [("green",g),("gone",go),("standing",sd),("coming",co)])->Q .non H') :
  iT CS [.ref x,g,go,sd,co] (upd (upd H dx (.own x)) x (.ins CS dx [])) Q E:=by
 refine⟨x,dx,g,go,sd,co,rfl,aq,?_⟩
 rw[qN]
 exact q _ ((aC hdx _).trans (aC (by rw[bh hne.symm]; exact hx) _)) aq
abbrev j6:Stmt:=inClass (top 43) 2
theorem nH:aO ["self","now"] ["self"] (aD j6):=⟨rfl,rfl,rfl,by decide+kernel,rfl,by decide+kernel,by decide+kernel⟩
inductive GQ (CS CB:Addr) (vs:List V) (H:Hp) (Q:VK):Prop where
 | mk (b be:Addr) (d:Nat) (g:List Int) (go:List Nat) (co:Nat) (z0:vs=[.ref b]) (z1:(∀ n,cC CS CB n H b be d g go [] co)) (z2:g.length < 12) (z3:d<=900) (z4:∀ H',But b be H H'->(∀ n,cC CS CB n H' b be (d+1) (g++[0]) go [] co)->Q (.int (g.length:Int)) H'):GQ CS CB vs H Q
def Mi (CS CB:Addr):Sp:=fun vs H Q _=>GQ CS CB vs H Q
theorem cL.any {n m:Nat} {H:Hp} {us:List V} (h:cL n H us []):cL m H us []:=by
 cases h
 exact .nil
theorem xU {CS CB:Addr} {t1:Tok} (ne:CB≠CS) (F:Fun K "come" "Boon.come" j6 f fd) (B:Bt mg) (S:Aw K CS) (T:Ew K CB) (c_MOST_FOLK:mg "MOST_FOLK" = some (.int 12 t1))
  (D_Stand:Dk2 P w K mg base "Stand" CS 1 ["self","green","gone","standing","coming"] (iT CS)) (D_Boon_go_on:Dm2 P w K mg base CB "go_on" 1 ["self","stand"] (tu CB)) :
  cG P w K mg base CX0 3 f fd ["self"] (Mi CS CB):=by
 refine F.ok nH (fun vs H Q E h=>?_) (fun cdv A outer s H vs Q E hr h=>?_)
 ·obtain⟨b,be,d,g,go,co,rfl,_⟩:=h
  rfl
 ·obtain⟨b,be,d,g,go,co,rfl,hB,lg,d9,q⟩:=h
  refine⟨_,(au (aW (i:=1) nH.nd rfl (Vv rfl) (bu K rfl (pv 0)))
 (au (bG (aL xG (aF (r:=lR K) bx rfl B.len_ cI (aa (bu K rfl (pv 1)) aj)) (qP c_MOST_FOLK) (aU _)) (aB iH) aR)
 (au (bO (mZ D_Boon_go_on hr (pv 0) (aa (Iw D_Stand hr (aa (bf (r:=tG K) nW (bu K rfl (pv 1)) (bU (aa aA aj))) (aa (bu K rfl (pv 1)) (aa (bu K rfl (pv 1)) (aa (bu K rfl (pv 1)) aj))))) aj)))
 (aB (aG (aF (r:=lR K) bx rfl B.len_ cI (aa (bu K rfl (pv 1)) aj))))))),?_⟩
  obtain⟨dx,nw,ah,xs,hb,hbe,lx,dx2,ga,goa,sa,us,hn,hga,hgo,hsa,hes⟩:=hB 0
  refine aH (fun σ H1=>σ=[some (.ref b),some (.ref nw)]/\H1=H) ?q0 ?t0
  case t0 =>
   intro N Rc
   exact⟨_,rfl,b,CB,dx,_,_,rfl,hb,T.cl,T.now,rfl,Rc _ _ ⟨rfl,rfl⟩⟩
  case q0 =>
  rintro σ H0 ⟨rfl,rfl⟩
  refine aH (fun σ H1=>σ=[some (.ref b),some (.ref nw)]/\H1=H0) ?q1 ?t1
  case t1 =>
   intro N Rc
   refine⟨_,rfl,nw,CS,dx2,_,_,rfl,hn,S.cl,S.green,rfl,ga,_,rfl,.inr (SqT.of hga),_,_,rfl,rfl,_,rfl,?_⟩
   rw[decide_eq_false (show ¬ ((12:Int)<=(((g.map V.int).length:Nat):Int)) by rw[Vb]; lia)]
   exact cX (Rc _ _ ⟨rfl,rfl⟩)
  case q1 =>
  rintro σ H1 ⟨rfl,rfl⟩
  refine aH (fun σ H2=>σ=[some (.ref b),some (.ref nw)]/\But b be H1 H2/\∀ n,cC CS CB n H2 b be (d+1) (g++[0]) go [] co) ?q2 ?t2
  case t2 =>
   intro N Rc
   refine⟨_,rfl,b,dx,_,rfl,hb,rfl,?_⟩
   refine⟨_,rfl,nw,CS,dx2,_,_,rfl,hn,S.cl,S.green,rfl,small (by show 1<=1000; decide),fun p1 h1=>?_⟩
   generalize eH2:upd H1 p1 _=H2
   obtain⟨g2,e2⟩:=aP eH2 h1
   refine Ti (g2 _ _ hga) e2 (by rw[Vb]; show g.length+1<=1000; lia) fun p H3 s3 e3=>?_
   have s13:=g2.trans s3
   have e3:H3 p=some (.tup ((g++[0]).map V.int)):=by rw[e3,Vl]; rfl
   have hn3:=s13 _ _ hn
   refine⟨_,rfl,nw,CS,dx2,_,_,rfl,hn3,S.cl,S.gone,rfl,_,rfl,nw,CS,dx2,_,_,rfl,hn3,S.cl,S.standing,rfl,_,rfl,nw,CS,dx2,_,_,rfl,hn3,S.cl,S.coming,rfl,fun x dx3 hx hdx hne=>?_⟩
   refine nY hx hdx hne fun H4 s4 e4=>⟨rfl,?_⟩
   have s14:=s13.trans s4
   refine⟨b,be,x,dx,nw,ah,xs,rfl,s14 _ _ hb,s14 _ _ hbe,by lia,fun ah' H5 e5 e5' bt=>?_⟩
   have k5:=bt.ks ne (s14 _ _ hb) (s14 _ _ hbe)
   refine Rc _ _ ⟨rfl,(O9 s14).trans bt,fun n=>⟨dx,x,ah',_,e5,e5',by rw[Ve,lx]; rfl,jc.ks k5 ⟨dx3,p,goa,sa,us,e4,s4 _ _ e3,s14 _ _ hgo,s14 _ _ hsa,?_⟩⟩⟩
   exact (hes.aV fun a xs q=>s14 a _ q).any
  case q2 =>
  rintro σ H2 ⟨rfl,k2,hB2⟩
  have ks:=k2.ks ne hb hbe
  refine⟨_,rfl,nw,CS,dx2,_,_,rfl,ks.2 _ _ _ hn,S.cl,S.green,rfl,ga,_,rfl,.inr (SqT.of (ks.1 _ _ hga)),?_⟩
  rw[Vb]
  exact q H2 k2 hB2
mutual
theorem Rh {one:Nat}:∀ t:Tm,nn one t=true->one ∉ mnF t
 | .free,_=>by simp [mnF]
 | .never,_=>by simp [mnF]
 | .gives i k,h=>by
  have:=of_decide_eq_true (show decide (i≠one)=true by simpa [nn] using h)
  simp only[mnF]
  exact fun z=>this (List.mem_singleton.mp z).symm
 | .sum c k,h=>by simpa [nn,mnF] using h
 | .crowd c k m,h=>by simpa [nn,mnF] using h
 | .all ts,h=>by
  simp only[mnF]
  exact Fb ts (by simpa [nn] using h)
 | .any ts,h=>by
  simp only[mnF]
  exact Fb ts (by simpa [nn] using h)
theorem Fb {one:Nat}:∀ ts:List Tm,nnL one ts=true->one ∉ mnL ts
 | [],_=>by simp [mnL]
 | t::r,h=>by
  have h':nn one t=true/\nnL one r=true:=by simpa [nnL] using h
  rw[mnL,aac]
  rintro (z | z)
  ·exact Rh t h'.1 z
  ·exact Fb r h'.2 z
end
mutual
theorem QC {n:Nat} {H:Hp}:∀ {v:V} {t:Tm},jg n H v t->∀ i∈mnF t,i < n
 | _,_,.free _,i,h=>by simp [mnF] at h
 | _,_,.never _,i,h=>by simp [mnF] at h
 | _,_,.gives _ a _ _,i,h=>by
  simp only[mnF] at h
  rw[List.mem_singleton.mp h]
  exact a
 | _,_,.sum _ _ a _ _ _ _ _,i,h=>by
  simp only[mnF] at h
  exact a i h
 | _,_,.crowd _ _ a _ _ _ _ _ _ _,i,h=>by
  simp only[mnF] at h
  exact a i h
 | _,_,.all _ _ _ _ r,i,h=>by
  simp only[mnF] at h
  exact Hm r i h
 | _,_,.any _ _ _ _ r,i,h=>by
  simp only[mnF] at h
  exact Hm r i h
theorem Hm {n:Nat} {H:Hp}:∀ {vs:List V} {ts:List Tm},cU n H vs ts->∀ i∈mnL ts,i < n
 | _,_,.nil,i,h=>by simp [mnL] at h
 | _,_,.cons t r,i,h=>by
  rw[mnL,aac] at h
  rcases h with z | z
  ·exact QC t i z
  ·exact Hm r i z
end
theorem RM {n:Nat} {H:Hp}:∀ {us:List V} {p:Pl},d8 n H us p->(∀ x∈p,x.2.dep<=4)->jZ n H us (p.map fun x=>Rg.rung x.1 x.2)
 | _,_,.nil,_=>.nil
 | _,_,.cons h t r,d=>.cons (.rung h t (d _ Vj)) (RM r fun x hx=>d x (Vp _ hx))
theorem Ny {n who:Nat} {H:Hp}:∀ {us:List V} {p:Pl} {lo:Int},d8 n H us p->(p.map (·.1)).Pairwise (· < ·)->(∀ x∈p,lo<=x.1/\x.1<=9)->(∀ x∈p,nn who x.2=true)->plF n who lo (p.map fun x=>Rg.rung x.1 x.2)=true
 | _,_,_,.nil,_,_,_=>rfl
 | _,_,lo,.cons (k:=k) (t:=t) (ps:=ps) h tr r,pw,hb,hn=>by
  rw[Wa,W6] at pw
  show (rgF n who lo (.rung k t) && plF n who (k+1) (ps.map fun x=>Rg.rung x.1 x.2))=true
  have h1:=hb (k,t) Vj
  have h2:=Rh t (hn (k,t) Vj)
  rw[WD]
  refine⟨?_,Ny r pw.2 (fun x hx=>⟨?_,(hb x (Vp _ hx)).2⟩) fun x hx=>hn x (Vp _ hx)⟩
  ·show ((decide (lo<=k) && decide (k<=9)) && (ltF n (mnF t) && !decide (who∈mnF t)))=true
   rw[decide_eq_true h1.1,decide_eq_true h1.2,Gb.mpr (QC tr),decide_eq_false h2]
   rfl
  ·have:=pw.1 x.1 (List.mem_map_of_mem hx)
   lia
theorem Qa {n who:Nat} {H:Hp} {us:List V} {p:Pl} (ok:okP p) (r:d8 n H us p) (hn:∀ x∈p,nn who x.2=true):Tc n who (p.map fun x=>Rg.rung x.1 x.2)=true:=by
 obtain⟨h1,h2,h3,h4⟩:=ok
 have l:1<=p.length:=by
  cases p with
  | nil=>exact absurd rfl h1
  | cons _ _=>rw[Vr]; lia
 unfold Tc
 rw[Vb,decide_eq_true l,decide_eq_true h2,Ny r h3 (fun x hx=>⟨(h4 x hx).1,(h4 x hx).2.1⟩) hn]
 rfl
abbrev iK:Stmt:=top 38
abbrev gK:Stmt:=top 41
theorem qY:aO ["stand","one"] ["stand","one"] (aD iK):=⟨rfl,rfl,rfl,by decide+kernel,rfl,by decide+kernel,by decide+kernel⟩
theorem qM:aO ["stand","one","pledge"] ["stand","one","pledge"] (aD gK):=⟨rfl,rfl,rfl,by decide+kernel,rfl,by decide+kernel,by decide+kernel⟩
inductive Ab (CS:Addr) (vs:List V) (H:Hp) (Q:VK):Prop where
 | mk (st:Addr) (one n co:Nat) (g:List Int) (go:List Nat) (es:List Ent) (z0:vs=[.ref st,vN one]) (z1:jc CS n H st g go es co) (z2:one < g.length) (z3:one ∉ go) (z4:Q .non H):Ab CS vs H Q
def yG (CS:Addr):Sp:=fun vs H Q _=>Ab CS vs H Q
theorem rK {CS:Addr} (F:Fun K "check_there" "check_there" iK f fd) (B:Bt mg) (S:Aw K CS) (D_is_number:Df P w K mg base "is_number" 1 ["thing","low","high"] jo) :
  cG P w K mg base CX0 2 f fd ["stand","one"] (yG CS):=by
 refine F.ok qY (fun vs H Q E h=>?_) (fun cdv A outer s H vs Q E hr h=>?_)
 ·obtain⟨st,one,n,co,g,go,es,rfl,_⟩:=h
  rfl
 ·obtain⟨st,one,n,co,g,go,es,rfl,⟨dx,ga,goa,sa,us,hs,hga,hgo,hsa,hes⟩,lo,hg,q⟩:=h
  refine⟨_,(au (bG (gn (dF (aX D_is_number hr (aa (pv 1) (aa aA (aa (bf jd (aF (r:=lR K) bx rfl B.len_ cI (aa (bu K rfl (pv 0)) aj)) aA) aj)))))) (aB iH) aR)
 (aB (bG (aL (r:=rIn K false) jA (pv 1) (bu K rfl (pv 0)) rfl) (aB iH) aR))),?_⟩
  refine aH (fun σ H1=>σ=[some (.ref st),some (vN one)]/\H1=H) ?q1 ?t1
  case t1 =>
   intro N Rc
   refine⟨_,rfl,_,rfl,st,CS,dx,_,_,rfl,hs,S.cl,S.green,rfl,ga,_,rfl,.inr (SqT.of hga),_,_,rfl,rfl,vN one,0,_,rfl,.int _,_,rfl,?_⟩
   rw[show isNum (vN one) 0 ((((g.map V.int).length:Nat):Int) - 1)=true by
    show (decide ((0:Int)<=(one:Int)) && decide ((one:Int)<=(((g.map V.int).length:Nat):Int) - 1))=true
    rw[Vb,decide_eq_true (by lia),decide_eq_true (by lia)]
    rfl]
   exact cX (Rc _ _ ⟨rfl,rfl⟩)
  case q1 =>
  rintro σ H1 ⟨rfl,rfl⟩
  refine⟨_,rfl,_,rfl,st,CS,dx,_,_,rfl,hs,S.cl,S.gone,rfl,goa,_,rfl,.inr (SqT.of hgo),rfl,vQ go,_,rfl,?_⟩
  have e:inV (vN one) (go.map vN)=false:=by
   rw[show vN one=V.int (one:Int) from rfl,uY]
   exact decide_eq_false hg
  rw[if_neg (show ¬ false=true from Vm),e]
  exact cX q
inductive Gd (CS:Addr) (vs:List V) (H:Hp) (Q:VK):Prop where
 | mk (st p:Addr) (one n co:Nat) (g:List Int) (go:List Nat) (es:List Ent) (pl:Pl) (z0:vs=[.ref st,vN one,.ref p]) (z1:jc CS n H st g go es co) (z2:g.length=n) (z3:1<=n) (z4:n<=12) (z5:nQ n H p pl) (z6:(∀ x∈pl,nn one x.2=true)) (z7:∀ H',aZ H H'->Q .non H'):Gd CS vs H Q
def Ig (CS:Addr):Sp:=fun vs H Q _=>Gd CS vs H Q
theorem qU {CS:Addr} {k:Nat} (F:Fun K "check_pledge" "check_pledge" gK f fd) (B:Bt mg) (S:Aw K CS) (D_is_pledge:Df P w K mg base "is_pledge" k ["many","one","thing"] sG) :
  cG P w K mg base CX0 (k+1) f fd ["stand","one","pledge"] (Ig CS):=by
 refine F.ok qM (fun vs H Q E h=>?_) (fun cdv A outer s H vs Q E hr h=>?_)
 ·obtain⟨st,p,one,n,co,g,go,es,pl,rfl,_⟩:=h
  rfl
 ·obtain⟨st,p,one,n,co,g,go,es,pl,rfl,⟨dx,ga,goa,sa,us,hs,hga,hgo,hsa,hes⟩,lg,n1,n12,⟨okp,vs0,hp,rv⟩,hn,q⟩:=h
  refine⟨_,(aB (bG (gn (dF (aX D_is_pledge hr (aa (aF (r:=lR K) bx rfl B.len_ cI (aa (bu K rfl (pv 0)) aj)) (aa (pv 1) (aa (pv 2) aj)))))) (aB iH) aR)),?_⟩
  have lv:=rv.length
  have p9:=okp.2.1
  refine⟨_,rfl,st,CS,dx,_,_,rfl,hs,S.cl,S.green,rfl,ga,_,rfl,.inr (SqT.of hga),_,rfl,_,rfl,p,vs0,_,n,n,one,?_,hp,RM rv fun x hx=>(okp.2.2.2 x hx).2.2,n12,by lia,n1,fun H1 s1=>?_⟩
  ·show[V.int (((g.map V.int).length:Nat):Int),vN one,V.ref p]=_
   rw[Vb,lg]
   rfl
  ·rw[Qa okp rv hn]
   exact⟨_,rfl,cX (q H1 s1)⟩
abbrev jb:Stmt:=inClass (top 43) 4
theorem jL:aO ["self","one","pledge","now"] ["self","one","pledge"] (aD jb):=⟨rfl,rfl,rfl,by decide+kernel,rfl,by decide+kernel,by decide+kernel⟩
inductive rT (CS CB:Addr) (vs:List V) (H:Hp) (Q:VK):Prop where
 | mk (b be p:Addr) (one n d co:Nat) (g:List Int) (go:List Nat) (es:List Ent) (pl:Pl) (z0:vs=[.ref b,vN one,.ref p]) (z1:cC CS CB n H b be d g go es co) (z2:g.length=n) (z3:n<=12) (z4:one < n) (z5:one ∉ go) (z6:nQ n H p pl) (z7:(∀ x∈pl,nn one x.2=true)) (z8:es.length < 40) (z9:d<=900) (z10:∀ H',But b be H H'->cC CS CB n H' b be (d+1) g go (es++[(co,one,pl)]) (co+1)->Q (vN co) H'):rT CS CB vs H Q
def o6 (CS CB:Addr):Sp:=fun vs H Q _=>rT CS CB vs H Q
theorem rJ {CS CB:Addr} {t1:Tok} {k:Nat} (hk:2<=k) (ne:CB≠CS) (F:Fun K "pledge" "Boon.pledge" jb f fd) (B:Bt mg) (S:Aw K CS) (T:Ew K CB) (c_MOST_PLEDGES:mg "MOST_PLEDGES" = some (.int 40 t1))
  (D_check_there:Df P w K mg base "check_there" 2 ["stand","one"] (yG CS)) (D_check_pledge:Df P w K mg base "check_pledge" k ["stand","one","pledge"] (Ig CS))
  (D_Stand:Dk2 P w K mg base "Stand" CS 1 ["self","green","gone","standing","coming"] (iT CS)) (D_Boon_go_on:Dm2 P w K mg base CB "go_on" 1 ["self","stand"] (tu CB)) :
  cG P w K mg base CX0 (k+1) f fd ["self","one","pledge"] (o6 CS CB):=by
 refine F.ok jL (fun vs H Q E h=>?_) (fun cdv A outer s H vs Q E hr h=>?_)
 ·obtain⟨b,be,p,one,n,d,co,g,go,es,pl,rfl,_⟩:=h
  rfl
 ·obtain⟨b,be,p,one,n,d,co,g,go,es,pl,rfl,⟨dx,nw,ah,xs,hb,hbe,lx,hst⟩,lg,n12,hone,hgo,hp,hn,l40,d9,q⟩:=h
  refine⟨_,(au (aW (i:=3) jL.nd rfl (Vv rfl) (bu K rfl (pv 0)))
 (au (bO (aX D_check_there hr (aa (pv 3) (aa (pv 1) aj))))
 (au (bO (aX D_check_pledge hr (aa (pv 3) (aa (pv 1) (aa (pv 2) aj)))))
 (au (bG (aL xG (aF (r:=lR K) bx rfl B.len_ cI (aa (bu K rfl (pv 3)) aj)) (qP c_MOST_PLEDGES) (aU _)) (aB iH) aR)
 (au (bO (mZ D_Boon_go_on hr (pv 0) (aa (Iw D_Stand hr (aa (bu K rfl (pv 3)) (aa (bu K rfl (pv 3)) (aa (bf (r:=tG K) nW (bu K rfl (pv 3)) (bU (aa (bU (aa (bu K rfl (pv 3)) (aa (pv 1) (aa (pv 2) aj)))) aj))) (aa (bf bW (bu K rfl (pv 3)) aA) aj))))) aj)))
 (aB (aG (bu K rfl (pv 3))))))))),?_⟩
  refine aH (fun σ H1=>σ=[some (.ref b),some (vN one),some (.ref p),some (.ref nw)]/\H1=H) ?q0 ?t0
  case t0 =>
   intro N Rc
   exact⟨_,rfl,b,CB,dx,_,_,rfl,hb,T.cl,T.now,rfl,Rc _ _ ⟨rfl,rfl⟩⟩
  case q0 =>
  rintro σ H0 ⟨rfl,rfl⟩
  refine aH (fun σ H1=>σ=[some (.ref b),some (vN one),some (.ref p),some (.ref nw)]/\H1=H0) ?q1 ?t1
  case t1 =>
   intro N Rc
   exact⟨_,rfl,_,rfl,nw,one,n,co,g,go,es,rfl,hst,by lia,hgo,Rc _ _ ⟨rfl,rfl⟩⟩
  case q1 =>
  rintro σ H1 ⟨rfl,rfl⟩
  refine aH (fun σ H2=>σ=[some (.ref b),some (vN one),some (.ref p),some (.ref nw)]/\aZ H1 H2) ?q2 ?t2
  case t2 =>
   intro N Rc
   exact⟨_,rfl,_,rfl,_,rfl,nw,p,one,n,co,g,go,es,pl,rfl,hst,lg,by lia,n12,hp,hn,fun H2 s2=>Rc _ _ ⟨rfl,s2⟩⟩
  case q2 =>
  rintro σ H2 ⟨rfl,s2⟩
  obtain⟨dx2,ga,goa,sa,us,hs,hga,hgoa,hsa,hes⟩:=hst.ks (ksS s2)
  have les:=hes.length
  refine aH (fun σ H3=>σ=[some (.ref b),some (vN one),some (.ref p),some (.ref nw)]/\H3=H2) ?q3 ?t3
  case t3 =>
   intro N Rc
   refine⟨_,rfl,nw,CS,dx2,_,_,rfl,hs,S.cl,S.standing,rfl,sa,_,rfl,.inr (SqT.of hsa),_,_,rfl,rfl,_,rfl,?_⟩
   rw[decide_eq_false (show ¬ ((40:Int)<=((us.length:Nat):Int)) by lia)]
   exact cX (Rc _ _ ⟨rfl,rfl⟩)
  case q3 =>
  rintro σ H3 ⟨rfl,rfl⟩
  have hb3:=s2 _ _ hb
  have hbe3:=s2 _ _ hbe
  refine aH (fun σ H4=>σ=[some (.ref b),some (vN one),some (.ref p),some (.ref nw)]/\But b be H3 H4/\cC CS CB n H4 b be (d+1) g go (es++[(co,one,pl)]) (co+1)) ?q4 ?t4
  case t4 =>
   intro N Rc
   refine⟨_,rfl,b,dx,_,rfl,hb3,rfl,?_⟩
   refine⟨_,rfl,nw,CS,dx2,_,_,rfl,hs,S.cl,S.green,rfl,_,rfl,nw,CS,dx2,_,_,rfl,hs,S.cl,S.gone,rfl,_,rfl,nw,CS,dx2,_,_,rfl,hs,S.cl,S.standing,rfl,?_⟩
   refine⟨_,rfl,nw,CS,dx2,_,_,rfl,hs,S.cl,S.coming,rfl,_,rfl,_,rfl,small (by show 3<=1000; decide),fun p1 h1=>?_⟩
   generalize eH5:upd H3 p1 _=H5
   obtain⟨g5,e5⟩:=aP eH5 h1
   refine⟨small (by show 1<=1000; decide),fun p2 h2=>?_⟩
   generalize eH6:upd H5 p2 _=H6
   obtain⟨g6,e6⟩:=aP eH6 h2
   have s36:=g5.trans g6
   refine Ti (s36 _ _ hsa) e6 (by show us.length+1<=1000; lia) fun p3 H7 s7 e7=>?_
   have s37:=s36.trans s7
   refine⟨_,rfl,nw,CS,dx2,_,_,rfl,s37 _ _ hs,S.cl,S.coming,rfl,_,_,rfl,rfl,fun x dx3 hx hdx hne=>?_⟩
   refine nY hx hdx hne fun H8 s8 e8=>⟨rfl,?_⟩
   have s38:=s37.trans s8
   refine⟨b,be,x,dx,nw,ah,xs,rfl,s38 _ _ hb3,s38 _ _ hbe3,by lia,fun ah' H9 e9 e9' bt=>?_⟩
   have k9:=bt.ks ne (s38 _ _ hb3) (s38 _ _ hbe3)
   refine Rc _ _ ⟨rfl,(O9 s38).trans bt,dx,x,ah',_,e9,e9',by rw[Ve,lx]; rfl,jc.ks k9 ⟨dx3,ga,goa,p3,us++[.ref p1],e8,s38 _ _ hga,s38 _ _ hgoa,s8 _ _ e7,?_⟩⟩
   have t38:∀ a ys,H3 a=some (HO.tup ys)->H8 a=some (HO.tup ys):=fun a ys q=>s38 a _ q
   exact cL.snoc (s8 _ _ (s7 _ _ (g6 _ _ e5))) ((hp.aV fun a ys q=>s2 a _ q).aV t38) (hes.aV t38)
  case q4 =>
  rintro σ H4 ⟨rfl,k4,hB4⟩
  have ks:=k4.ks ne hb3 hbe3
  exact⟨_,rfl,nw,CS,dx2,_,_,rfl,ks.2 _ _ _ hs,S.cl,S.coming,rfl,q H4 ((O9 s2).trans k4) hB4⟩
abbrev oZ:Stmt:=top 39
abbrev jq:Stmt:=top 40
abbrev gJ:Stmt:=top 42
theorem Dj:aO ["standing","one","giving"] ["standing","one","giving"] (aD oZ):=⟨rfl,rfl,rfl,by decide+kernel,rfl,by decide+kernel,by decide+kernel⟩
theorem fC:aO ["stand","number","found","one","pledge"] ["stand","number"] (aD jq):=⟨rfl,rfl,rfl,by decide+kernel,rfl,by decide+kernel,by decide+kernel⟩
theorem pB:aO ["stand","one","standing"] ["stand","one","standing"] (aD gJ):=⟨rfl,rfl,rfl,by decide+kernel,rfl,by decide+kernel,by decide+kernel⟩
def owL (es:List Ent) (one:Nat) (g:List Int):List Int:=(es.filter fun e=>decide (e.2.1=one)).map fun e=>owF g e.2.2
theorem J2 {es:List Ent} {one:Nat} {g:List Int} {e:Ent}:owL (es++[e]) one g=owL es one g++if e.2.1=one then [owF g e.2.2] else []:=by
 unfold owL
 rw[Xv,Vl]
 congr 1
 by_cases h:e.2.1=one
 ·rw[if_pos h,YF (by exact decide_eq_true h)]
  rfl
 ·rw[if_neg h,YG (by rw[decide_eq_false h]; exact Vm)]
  rfl
inductive xO (vs:List V) (H:Hp) (Q:VK):Prop where
 | mk (sa ga:Addr) (one n:Nat) (us:List V) (es:List Ent) (g:List Int) (z0:vs=[.ref sa,vN one,.ref ga]) (z1:H sa=some (.tup us)) (z2:cL n H us es) (z3:es.length<=100) (z4:H ga=some (.tup (g.map V.int))) (z5:g.length=n) (z6:∀ H',aZ H H'->Q (.int (mxD 0 (owL es one g))) H'):xO  vs H Q
def zU:Sp:=fun vs H Q _=>xO  vs H Q
theorem DR {k:Nat} (F:Fun K "owed_of" "owed_of" oZ f fd) (B:Bt mg) (D_owes:Df P w K mg base "owes" k ["pledge","giving"] (Ai K)) :
  cG P w K mg base CX0 (k+1) f fd ["standing","one","giving"] zU:=by
 refine F.ok Dj (fun vs H Q E h=>?_) (fun cdv A outer s H vs Q E hr h=>?_)
 ·obtain⟨sa,ga,one,n,us,es,g,rfl,_⟩:=h
  rfl
 ·obtain⟨sa,ga,one,n,us,es,g,rfl,hsa,hes,l100,hga,lg,q⟩:=h
  refine⟨_,(aB (aG (Ft rfl rfl B.max_ (aa (bQ (L:=["number","other","pledge"]) (F:=["giving","one"]) (cap:=[2,1]) rfl (bJ rfl rfl (by kernel_rfl)) (dJ (pv 0)) (fun _ _ _ _ _=>(dM (K:=K) 3 rfl rfl (bB (aK (i:=0) (bA (by decide+kernel)) rfl (Vv rfl)) (bB (aK (i:=1) (bA (by decide+kernel)) rfl (Vv rfl)) (bB (aK (i:=2) (bA (by decide+kernel)) rfl (Vv rfl)) dI))))) (fun _ _ _ _ _=>(mR (aL cJ (pv 1) (pv 4) (aU _)))) (fun _ _ _ _ _=>(aX D_owes hr (aa (pv 2) (aa (pv 3) aj))))) aj)))),?_⟩
  have les:=hes.length
  refine⟨_,rfl,sa,rfl,⟨_,SqT.of hsa⟩,fun D hD=>cT (K:=K) (a:=sa) (xs:=us) (fun i zs σ' H2=>(∃ u v w,σ'=[u,v,w,some (.ref ga),some (vN one)])/\aZ H H2/\H2 D=some (.lst zs)/\zs=(owL (es.take i) one g).map V.int)
   ⟨⟨_,_,_,rfl⟩,aC hD _,aq,by rw[Wk]; rfl⟩ (fun i zs σ' H2 _ h=>⟨SqT.of (h.2.1 _ _ hsa),h.2.2.1⟩) ?_ ?_⟩
  ·rintro i zs x σ' H2 hx ⟨⟨u,v,w,rfl⟩,sm,eD,rfl⟩
   obtain⟨e,p,num,o2,pl,rfl,he,hent,hpr⟩:=hes.get hx
   have nx:owL (es.take (i+1)) one g=owL (es.take i) one g++if o2=one then [owF g pl] else []:=by
    rw[V1,he]
    exact J2
   have ll:(owL (es.take i) one g).length<=100:=by
    unfold owL
    rw[Vb]
    refine V2 (WW _ _) ?_
    rw[Vz]
    lia
   refine⟨e,_,rfl,SqT.of (sm _ _ hent),rfl,_,_,rfl,_,_,rfl,_,_,rfl,rfl,?_⟩
   refine⟨_,rfl,_,rfl,rfl,_,rfl,?_⟩
   by_cases z:o2=one
   ·rw[decide_eq_true (show vN o2=vN one by rw[z])]
    refine fX ⟨_,rfl,_,rfl,p,ga,n,pl,g,rfl,hpr.aV (fun a xs q=>sm a _ q),SqT.of (sm _ _ hga),by lia,fun H3 s3=>?_⟩
    refine⟨s3 _ _ eD,aJ (by rw[Vb]; lia),⟨_,_,_,rfl⟩,aQ (sm.trans s3) hD _,aq,?_⟩
    rw[nx,if_pos z,Vl]
    rfl
   ·rw[decide_eq_false (show ¬ vN o2=vN one from fun y=>z (by injection y with y; lia))]
    refine cX ⟨⟨_,_,_,rfl⟩,sm,eD,?_⟩
    rw[nx,if_neg z,WK]
  ·rintro zs σ' H2 ⟨_,sm,eD,rfl⟩
   rw[les,Vw] at eD
   exact⟨D,_,rfl,SqL.of eD,q H2 sm⟩
inductive sJ (CS:Addr) (vs:List V) (H:Hp) (Q:VK):Prop where
 | mk (st:Addr) (num one n co:Nat) (g:List Int) (go:List Nat) (es:List Ent) (pl:Pl) (z0:vs=[.ref st,vN num]) (z1:jc CS n H st g go es co) (z2:num < co) (z3:(num,one,pl)∈es) (z4:(es.map (·.1)).Nodup) (z5:Q (vN one) H):sJ CS vs H Q
def pW (CS:Addr):Sp:=fun vs H Q _=>sJ CS vs H Q
theorem uW {CS:Addr} (F:Fun K "pledger_of" "pledger_of" jq f fd) (B:Bt mg) (S:Aw K CS) (D_is_number:Df P w K mg base "is_number" 1 ["thing","low","high"] jo) :
  cG P w K mg base CX0 2 f fd ["stand","number"] (pW CS):=by
 refine F.ok fC (fun vs H Q E h=>?_) (fun cdv A outer s H vs Q E hr h=>?_)
 ·obtain⟨st,num,one,n,co,g,go,es,pl,rfl,_⟩:=h
  rfl
 ·obtain⟨st,num,one,n,co,g,go,es,pl,rfl,⟨dx,ga,goa,sa,us,hs,hga,hgo,hsa,hes⟩,hco,hin,nd,q⟩:=h
  refine⟨_,(au (bG (dF (aX D_is_number hr (aa (pv 1) (aa aA (aa (bf jd (bu K rfl (pv 0)) aA) aj))))) (aB (eZ Wf rfl (dJ (bu K rfl (pv 0))) (dM (K:=K) 3 rfl rfl (bB (aK (i:=2) fC.nd rfl (Vv rfl)) (bB (aK (i:=3) fC.nd rfl (Vv rfl)) (bB (aK (i:=4) fC.nd rfl (Vv rfl)) dI)))) (aB (bG (aL cJ (pv 2) (pv 1) (aU _)) (aB (aG (pv 3))) aR)))) aR)
 (aB iH)),?_⟩
  refine⟨_,rfl,_,rfl,st,CS,dx,_,_,rfl,hs,S.cl,S.coming,rfl,_,_,rfl,rfl,vN num,0,_,rfl,.int _,_,rfl,?_⟩
  rw[show isNum (vN num) 0 ((co:Int) - 1)=true by
   show (decide ((0:Int)<=(num:Int)) && decide ((num:Int)<=(co:Int) - 1))=true
   rw[decide_eq_true (by lia),decide_eq_true (by lia)]
   rfl]
  refine fX ?_
  refine⟨_,rfl,st,CS,dx,_,_,rfl,hs,S.cl,S.standing,rfl,sa,rfl,⟨_,SqT.of hsa⟩,mX (K:=K) (a:=sa) (xs:=us) (fun i σ H2=>(∃ u v w,σ=[some (.ref st),some (vN num),u,v,w])/\H2=H/\∀ e∈es.take i,e.1≠num) ⟨⟨_,_,_,rfl⟩,rfl,fun e he=>by rw[Wk] at he; cases he⟩
   (fun i σ H2 _ h=>by rw[h.2.1]; exact SqT.of hsa) ?_ ?_⟩
  ·rintro i x σ H2 hx ⟨⟨u,v,w,rfl⟩,rfl,hno⟩
   obtain⟨e,p,nu,o2,pl2,rfl,he,hent,hpr⟩:=hes.get hx
   refine⟨e,_,rfl,SqT.of hent,rfl,_,_,rfl,_,_,rfl,_,_,rfl,rfl,?_⟩
   refine⟨_,rfl,_,rfl,rfl,_,rfl,?_⟩
   by_cases z:nu=num
   ·rw[decide_eq_true (show vN nu=vN num by rw[z])]
    have eo:o2=one:=by
     obtain⟨j,hj,ej⟩:=Yx hin
     have hi:=(List.getElem?_eq_some_iff.mp he)
     have hij:i=j:=by
      have h1:(es.map (·.1))[i]? = some num:=by rw[VF,he]; show some nu=_; rw[z]
      have h2:(es.map (·.1))[j]? = some num:=by rw[VF,Vf hj,ej]; rfl
      obtain⟨a1,b1⟩:=List.getElem?_eq_some_iff.mp h1
      obtain⟨a2,b2⟩:=List.getElem?_eq_some_iff.mp h2
      exact (aaM nd).mp (b1.trans b2.symm)
     subst hij
     rw[Vf hj,ej] at he
     cases he
     rfl
    rw[eo]
    exact fX ⟨_,rfl,q⟩
   ·rw[decide_eq_false (show ¬ vN nu=vN num from fun y=>z (by injection y with y; lia))]
    refine cX ⟨⟨_,_,_,rfl⟩,rfl,fun e' he'=>?_⟩
    rw[V1,he,aac] at he'
    rcases he' with h | h
    ·exact hno e' h
    ·rw[List.mem_singleton.mp h]
     exact z
  ·rintro σ H2 ⟨_,rfl,hno⟩
   rw[hes.length,Vw] at hno
   exact absurd rfl (hno _ hin)
theorem Em {es:List Ent} (ok:∀ e∈es,okP e.2.2) (one:Nat) (g:List Int):0<=mxD 0 (owL es one g):=by
 have all:∀ x∈owL es one g,0<=x:=fun x hx=>by
  obtain⟨e,he,rfl⟩:=List.mem_map.mp hx
  exact DK fun y hy=>by have:=((ok e (List.mem_filter.mp he).1).2.2.2 y hy).1; lia
 cases h:owL es one g with
 | nil=>exact WY _
 | cons a r =>
  show 0<=r.foldl max a
  have:=all a (by rw[h]; exact Vj)
  exact Int.le_trans this (dD r a).1
theorem cL.ok {n:Nat} {H:Hp}:∀ {us:List V} {es:List Ent},cL n H us es->∀ e∈es,okP e.2.2
 | _,_,.nil,e,h=>by cases h
 | _,_,.cons _ p r,e,h=>by
  rcases List.mem_cons.mp h with z | z
  ·rw[z]
   exact p.1
  ·exact cL.ok r e z
inductive Jj (CS:Addr) (vs:List V) (H:Hp) (Q:VK):Prop where
 | mk (st sa:Addr) (one n co:Nat) (g:List Int) (go:List Nat) (es es':List Ent) (us':List V) (z0:vs=[.ref st,vN one,.ref sa]) (z1:jc CS n H st g go es co) (z2:g.length=n) (z3:one < n) (z4:g.getD one 0=0) (z5:H sa=some (.tup us')) (z6:cL n H us' es') (z7:es'.length<=100) (z8:∀ (st':Addr) (H':Hp),aZ H H'->jc CS n H' st' g go es' co->Q (.ref st') H'):Jj CS vs H Q
def Hg (CS:Addr):Sp:=fun vs H Q _=>Jj CS vs H Q
theorem o5 {CS:Addr} {k:Nat} (hk:2<=k) (F:Fun K "pledged_anew" "pledged_anew" gJ f fd) (B:Bt mg) (S:Aw K CS) (D_owed_of:Df P w K mg base "owed_of" k ["standing","one","giving"] zU)
  (D_Stand:Dk2 P w K mg base "Stand" CS 1 ["self","green","gone","standing","coming"] (iT CS)):cG P w K mg base CX0 (k+1) f fd ["stand","one","standing"] (Hg CS):=by
 refine F.ok pB (fun vs H Q E h=>?_) (fun cdv A outer s H vs Q E hr h=>?_)
 ·obtain⟨st,sa,one,n,co,g,go,es,es',us',rfl,_⟩:=h
  rfl
 ·obtain⟨st,sa,one,n,co,g,go,es,es',us',rfl,⟨dx,ga,goa,sa0,us,hs,hga,hgo,hsa0,hes⟩,lg,hone,g0,hsa,hes',l100,q⟩:=h
  refine⟨_,(au (bG (aL zH (bw (r:=fZ K) bD (bu K rfl (pv 0)) (pv 1) (fun _ _=>rfl)) (aX D_owed_of hr (aa (pv 2) (aa (pv 1) (aa (bu K rfl (pv 0)) aj)))) (aU _)) (aB iH) aR)
 (aB (aG (Iw D_Stand hr (aa (bu K rfl (pv 0)) (aa (bu K rfl (pv 0)) (aa (pv 2) (aa (bu K rfl (pv 0)) aj)))))))),?_⟩
  have ag:atI (g.map V.int) (one:Int)=some (.int 0):=by
   have h1:one < g.length:=by lia
   rw[v8 h1]
   have:g.getD one 0=g[one]:=by rw[Vi,Vf h1]; rfl
   rw[← this,g0]
  refine aH (fun σ H1=>σ=[some (.ref st),some (vN one),some (.ref sa)]/\aZ H H1) ?q1 ?t1
  case t1 =>
   intro N Rc
   refine⟨_,rfl,st,CS,dx,_,_,rfl,hs,S.cl,S.green,rfl,_,rfl,ga,_,_,_,rfl,rfl,SqT.of hga,ag,?_⟩
   refine⟨_,rfl,_,rfl,_,rfl,st,CS,dx,_,_,rfl,hs,S.cl,S.green,rfl,sa,ga,one,n,us',es',g,rfl,hsa,hes',l100,hga,lg,fun H1 s1=>?_⟩
   refine⟨_,_,rfl,rfl,_,rfl,?_⟩
   rw[decide_eq_false (show ¬ (mxD 0 (owL es' one g) < (0:Int)) by have:=Em hes'.ok one g; lia)]
   exact cX (Rc _ _ ⟨rfl,s1⟩)
  case q1 =>
  rintro σ H1 ⟨rfl,s1⟩
  have hs1:=s1 _ _ hs
  refine⟨_,rfl,st,CS,dx,_,_,rfl,hs1,S.cl,S.green,rfl,_,rfl,st,CS,dx,_,_,rfl,hs1,S.cl,S.gone,rfl,_,rfl,_,rfl,st,CS,dx,_,_,rfl,hs1,S.cl,S.coming,rfl,fun x dx3 hx hdx hne=>?_⟩
  refine nY hx hdx hne fun H2 s2 e2=>⟨rfl,?_⟩
  have s12:=s1.trans s2
  exact q x H2 s12 ⟨dx3,ga,goa,sa,us',e2,s12 _ _ hga,s12 _ _ hgo,s12 _ _ hsa,hes'.aV fun a xs q=>s12 a _ q⟩
abbrev iJ:Stmt:=inClass (top 43) 5
abbrev fJ:Stmt:=inClass (top 43) 6
theorem eV:aO ["self","number","pledge","now","one","changed"] ["self","number","pledge"] (aD iJ):=⟨rfl,rfl,rfl,by decide+kernel,rfl,by decide+kernel,by decide+kernel⟩
theorem du:aO ["self","number","now","one","left"] ["self","number"] (aD fJ):=⟨rfl,rfl,rfl,by decide+kernel,rfl,by decide+kernel,by decide+kernel⟩
def chE (num one:Nat) (pl:Pl) (es:List Ent):List Ent:=es.map fun e=>if e.1=num then (num,one,pl) else e
inductive wC (CS CB:Addr) (vs:List V) (H:Hp) (Q:VK):Prop where
 | mk (b be p:Addr) (num one n d co:Nat) (g:List Int) (go:List Nat) (es:List Ent) (pl pl0:Pl) (z0:vs=[.ref b,vN num,.ref p]) (z1:cC CS CB n H b be d g go es co) (z2:g.length=n) (z3:n<=12) (z4:one < n) (z5:g.getD one 0=0) (z6:num < co) (z7:(num,one,pl0)∈es) (z8:(es.map (·.1)).Nodup) (z9:nQ n H p pl) (z10:(∀ x∈pl,nn one x.2=true)) (z11:es.length<=40) (z12:d<=900) (z13:∀ H',But b be H H'->cC CS CB n H' b be (d+1) g go (chE num one pl es) co->Q .non H'):wC CS CB vs H Q
def Bj (CS CB:Addr):Sp:=fun vs H Q _=>wC CS CB vs H Q
theorem rM {CS CB:Addr} {k j:Nat} (hk:2<=k) (hj:j<=k) (ne:CB≠CS) (F:Fun K "change" "Boon.change" iJ f fd) (B:Bt mg) (S:Aw K CS) (T:Ew K CB)
  (D_pledger_of:Df P w K mg base "pledger_of" 2 ["stand","number"] (pW CS)) (D_check_pledge:Df P w K mg base "check_pledge" k ["stand","one","pledge"] (Ig CS))
  (D_pledged_anew:Df P w K mg base "pledged_anew" j ["stand","one","standing"] (Hg CS)) (D_Boon_go_on:Dm2 P w K mg base CB "go_on" 1 ["self","stand"] (tu CB)) :
  cG P w K mg base CX0 (k+1) f fd ["self","number","pledge"] (Bj CS CB):=by
 refine F.ok eV (fun vs H Q E h=>?_) (fun cdv A outer s H vs Q E hr h=>?_)
 ·obtain⟨b,be,p,num,one,n,d,co,g,go,es,pl,pl0,rfl,_⟩:=h
  rfl
 ·obtain⟨b,be,p,num,one,n,d,co,g,go,es,pl,pl0,rfl,⟨dx,nw,ah,xs,hb,hbe,lx,hst⟩,lg,n12,hone,g0,hco,hin,nd,hp,hn,l40,d9,q⟩:=h
  refine⟨_,(au (aW (i:=3) eV.nd rfl (Vv rfl) (bu K rfl (pv 0)))
 (au (aW (i:=4) eV.nd rfl (aba rfl) (aX D_pledger_of hr (aa (pv 3) (aa (pv 1) aj))))
 (au (bO (aX D_check_pledge hr (aa (pv 3) (aa (pv 4) (aa (pv 2) aj)))))
 (au (aW (i:=5) eV.nd rfl (Vv rfl) (bH (r:=eX K) bF rfl B.tuple_ bK (aa (bQ (L:=["entry"]) (F:=["number","one","pledge"]) (cap:=[1,4,2]) rfl (bJ rfl rfl (by kernel_rfl)) (dJ (bu K rfl (pv 3))) (fun _ _ _ _ _=>(aK (i:=0) (bA (by decide+kernel)) rfl (Vv rfl))) (fun _ _ _ _ _=>bV) (fun _ _ _ _ _=>(Ak (aL cJ (bw (r:=fZ K) bD (pv 0) aA (fun _ _=>rfl)) (pv 1) (aU _)) (bU (aa (pv 1) (aa (pv 2) (aa (pv 3) aj)))) (pv 0)))) aj)))
 (aB (bO (mZ D_Boon_go_on hr (pv 0) (aa (aX D_pledged_anew hr (aa (pv 3) (aa (pv 4) (aa (pv 5) aj)))) aj)))))))),?_⟩
  refine aH (fun σ H1=>σ=[some (.ref b),some (vN num),some (.ref p),some (.ref nw),none,none]/\H1=H) ?q0 ?t0
  case t0 =>
   intro N Rc
   exact⟨_,rfl,b,CB,dx,_,_,rfl,hb,T.cl,T.now,rfl,Rc _ _ ⟨rfl,rfl⟩⟩
  case q0 =>
  rintro σ H0 ⟨rfl,rfl⟩
  refine aH (fun σ H1=>σ=[some (.ref b),some (vN num),some (.ref p),some (.ref nw),some (vN one),none]/\H1=H0) ?q1 ?t1
  case t1 =>
   intro N Rc
   exact⟨_,rfl,_,rfl,nw,num,one,n,co,g,go,es,pl0,rfl,hst,hco,hin,nd,Rc _ _ ⟨rfl,rfl⟩⟩
  case q1 =>
  rintro σ H1 ⟨rfl,rfl⟩
  refine aH (fun σ H2=>σ=[some (.ref b),some (vN num),some (.ref p),some (.ref nw),some (vN one),none]/\aZ H1 H2) ?q2 ?t2
  case t2 =>
   intro N Rc
   exact⟨_,rfl,_,rfl,_,rfl,nw,p,one,n,co,g,go,es,pl,rfl,hst,lg,by lia,n12,hp,hn,fun H2 s2=>Rc _ _ ⟨rfl,s2⟩⟩
  case q2 =>
  rintro σ H2 ⟨rfl,s2⟩
  have hst2:=hst.ks (ksS s2)
  obtain⟨dx2,ga,goa,sa,us,hs,hga,hgoa,hsa,hes⟩:=id hst2
  have les:=hes.length
  have hp2:=hp.aV fun a ys q=>s2 a _ q
  refine aH (fun σ H3=>∃ (ch:Addr) (us':List V),σ=[some (.ref b),some (vN num),some (.ref p),some (.ref nw),some (vN one),some (.ref ch)]/\aZ H2 H3/\H3 ch=some (.tup us')/\cL n H3 us' (chE num one pl es)) ?q3 ?t3
  case t3 =>
   intro N Rc
   refine⟨_,rfl,nw,CS,dx2,_,_,rfl,hs,S.cl,S.standing,rfl,sa,rfl,⟨_,SqT.of hsa⟩,fun D hD=>cT (K:=K) (a:=sa) (xs:=us) (fun i zs σ' H3=>(∃ u,σ'=[u,some (vN num),some (vN one),some (.ref p)])/\aZ H2 H3/\H3 D=some (.lst zs)/\cL n H3 zs (chE num one pl (es.take i)))
    ⟨⟨_,rfl⟩,aC hD _,aq,by rw[Wk]; exact .nil⟩ (fun i zs σ' H3 _ h=>⟨SqT.of (h.2.1 _ _ hsa),h.2.2.1⟩) ?_ ?_⟩
   ·rintro i zs x σ' H3 hx ⟨⟨u,rfl⟩,sm,eD,ez⟩
    obtain⟨e,p2,nu,o2,pl2,rfl,he,hent,hpr⟩:=hes.get hx
    have lz:=ez.length
    have il:=(List.getElem?_eq_some_iff.mp he).1
    unfold chE at lz
    rw[Vb,Vz] at lz
    have nx:∀ y:Ent,(if nu=num then (num,one,pl) else (nu,o2,pl2))=y->chE num one pl (es.take (i+1))=chE num one pl (es.take i)++[y]:=fun y hy=>by
     rw[V1,he]
     unfold chE
     rw[Vl,← hy]
     rfl
    refine gT ?_
    refine⟨_,rfl,e,_,_,_,rfl,rfl,SqT.of (sm _ _ hent),rfl,_,rfl,rfl,_,rfl,?_⟩
    by_cases z:nu=num
    ·rw[decide_eq_true (show vN nu=vN num by rw[z])]
     refine fX ⟨_,rfl,_,rfl,_,rfl,small (by show 3<=1000; decide),fun pb hb'=>?_⟩
     generalize eHb:upd H3 pb _=Hb
     obtain⟨gb,eb⟩:=aP eHb hb'
     have tk:=cj (zs':=zs++[.ref pb]) (gb _ _ eD)
     refine⟨gb _ _ eD,aJ (by lia),⟨_,rfl⟩,aQ (sm.trans gb) hD _,aq,?_⟩
     rw[nx _ (if_pos z)]
     exact cL.snoc (tk _ _ eb) ((hp2.aV fun a ys q=>(sm.trans gb) a _ q).aV tk) ((ez.aV fun a ys q=>gb a _ q).aV tk)
    ·rw[decide_eq_false (show ¬ vN nu=vN num from fun y=>z (by injection y with y; lia))]
     have tk:=cj (zs':=zs++[.ref e]) eD
     refine cX ⟨_,rfl,eD,aJ (by lia),⟨_,rfl⟩,aQ sm hD _,aq,?_⟩
     rw[nx _ (if_neg z)]
     exact cL.snoc (tk _ _ (sm _ _ hent)) ((hpr.aV fun a ys q=>sm a _ q).aV tk) (ez.aV tk)
   ·rintro zs σ' H3 ⟨_,sm,eD,ez⟩
    rw[les,Vw] at ez
    refine⟨D,_,rfl,.inl ⟨SqL.of eD,fun a ha=>?_⟩⟩
    have sn:=aC ha (.tup zs)
    exact Rc _ _ ⟨a,zs,rfl,sm.trans sn,aq,ez.aV fun a ys q=>sn a _ q⟩
  case q3 =>
  rintro σ H3 ⟨ch,us',rfl,s3,ech,ees⟩
  have s23:=s2.trans s3
  refine⟨_,rfl,b,dx,_,rfl,s23 _ _ hb,rfl,?_⟩
  refine⟨_,rfl,_,rfl,_,rfl,nw,ch,one,n,co,g,go,es,chE num one pl es,us',rfl,hst2.ks (ksS s3),lg,hone,g0,ech,ees,by unfold chE; rw[Vb]; lia,fun st' H4 s4 hst4=>?_⟩
  have s24:=s23.trans s4
  refine⟨b,be,st',dx,nw,ah,xs,rfl,s24 _ _ hb,s24 _ _ hbe,by lia,fun ah' H5 e5 e5' bt=>?_⟩
  exact q H5 ((O9 s24).trans bt) ⟨dx,st',ah',_,e5,e5',by rw[Ve,lx]; rfl,hst4.ks (bt.ks ne (s24 _ _ hb) (s24 _ _ hbe))⟩
theorem cL.Ul {n:Nat} {p:Ent->Bool} {e:Ent} {es:List Ent} {i:Nat} (h:es[i]? = some e):(es.take (i+1)).filter p=(es.take i).filter p++if p e=true then [e] else []:=by
 rw[V1,h,Xv]
 congr 1
 show List.filter p [e]=_
 by_cases z:p e=true
 ·rw[if_pos z,YF z]
  rfl
 ·rw[if_neg z,YG z]
  rfl
inductive oH (CS CB:Addr) (vs:List V) (H:Hp) (Q:VK):Prop where
 | mk (b be:Addr) (num one n d co:Nat) (g:List Int) (go:List Nat) (es:List Ent) (pl0:Pl) (z0:vs=[.ref b,vN num]) (z1:cC CS CB n H b be d g go es co) (z2:g.length=n) (z3:one < n) (z4:g.getD one 0=0) (z5:num < co) (z6:(num,one,pl0)∈es) (z7:(es.map (·.1)).Nodup) (z8:es.length<=40) (z9:d<=900) (z10:∀ H',But b be H H'->cC CS CB n H' b be (d+1) g go (es.filter fun e=>decide (e.1≠num)) co->Q .non H'):oH CS CB vs H Q
def sI (CS CB:Addr):Sp:=fun vs H Q _=>oH CS CB vs H Q
theorem nP {CS CB:Addr} {k:Nat} (hk:2<=k) (ne:CB≠CS) (F:Fun K "withdraw" "Boon.withdraw" fJ f fd) (B:Bt mg) (S:Aw K CS) (T:Ew K CB)
  (D_pledger_of:Df P w K mg base "pledger_of" 2 ["stand","number"] (pW CS))
  (D_pledged_anew:Df P w K mg base "pledged_anew" k ["stand","one","standing"] (Hg CS)) (D_Boon_go_on:Dm2 P w K mg base CB "go_on" 1 ["self","stand"] (tu CB)) :
  cG P w K mg base CX0 (k+1) f fd ["self","number"] (sI CS CB):=by
 refine F.ok du (fun vs H Q E h=>?_) (fun cdv A outer s H vs Q E hr h=>?_)
 ·obtain⟨b,be,num,one,n,d,co,g,go,es,pl0,rfl,_⟩:=h
  rfl
 ·obtain⟨b,be,num,one,n,d,co,g,go,es,pl0,rfl,⟨dx,nw,ah,xs,hb,hbe,lx,hst⟩,lg,hone,g0,hco,hin,nd,l40,d9,q⟩:=h
  refine⟨_,(au (aW (i:=2) du.nd rfl (Vv rfl) (bu K rfl (pv 0)))
 (au (aW (i:=3) du.nd rfl (Vv rfl) (aX D_pledger_of hr (aa (pv 2) (aa (pv 1) aj))))
 (au (aW (i:=4) du.nd rfl (Vv rfl) (bH (r:=eX K) bF rfl B.tuple_ bK (aa (bQ (L:=["entry"]) (F:=["number"]) (cap:=[1]) rfl (bJ rfl rfl (by kernel_rfl)) (dJ (bu K rfl (pv 2))) (fun _ _ _ _ _=>(aK (i:=0) (bA (by decide+kernel)) rfl (Vv rfl))) (fun _ _ _ _ _=>(mR (aL zL (bw (r:=fZ K) bD (pv 0) aA (fun _ _=>rfl)) (pv 1) (aU _)))) (fun _ _ _ _ _=>(pv 0))) aj)))
 (aB (bO (mZ D_Boon_go_on hr (pv 0) (aa (aX D_pledged_anew hr (aa (pv 2) (aa (pv 3) (aa (pv 4) aj)))) aj))))))),?_⟩
  refine aH (fun σ H1=>σ=[some (.ref b),some (vN num),some (.ref nw),none,none]/\H1=H) ?q0 ?t0
  case t0 =>
   intro N Rc
   exact⟨_,rfl,b,CB,dx,_,_,rfl,hb,T.cl,T.now,rfl,Rc _ _ ⟨rfl,rfl⟩⟩
  case q0 =>
  rintro σ H0 ⟨rfl,rfl⟩
  refine aH (fun σ H1=>σ=[some (.ref b),some (vN num),some (.ref nw),some (vN one),none]/\H1=H0) ?q1 ?t1
  case t1 =>
   intro N Rc
   exact⟨_,rfl,_,rfl,nw,num,one,n,co,g,go,es,pl0,rfl,hst,hco,hin,nd,Rc _ _ ⟨rfl,rfl⟩⟩
  case q1 =>
  rintro σ H2 ⟨rfl,rfl⟩
  obtain⟨dx2,ga,goa,sa,us,hs,hga,hgoa,hsa,hes⟩:=id hst
  have les:=hes.length
  refine aH (fun σ H3=>∃ (ch:Addr) (us':List V),σ=[some (.ref b),some (vN num),some (.ref nw),some (vN one),some (.ref ch)]/\aZ H2 H3/\H3 ch=some (.tup us')/\cL n H3 us' (es.filter fun e=>decide (e.1≠num))) ?q3 ?t3
  case t3 =>
   intro N Rc
   refine⟨_,rfl,nw,CS,dx2,_,_,rfl,hs,S.cl,S.standing,rfl,sa,rfl,⟨_,SqT.of hsa⟩,fun D hD=>cT (K:=K) (a:=sa) (xs:=us) (fun i zs σ' H3=>(∃ u,σ'=[u,some (vN num)])/\aZ H2 H3/\H3 D=some (.lst zs)/\cL n H3 zs ((es.take i).filter fun e=>decide (e.1≠num)))
    ⟨⟨_,rfl⟩,aC hD _,aq,by rw[Wk]; exact .nil⟩ (fun i zs σ' H3 _ h=>⟨SqT.of (h.2.1 _ _ hsa),h.2.2.1⟩) ?_ ?_⟩
   ·rintro i zs x σ' H3 hx ⟨⟨u,rfl⟩,sm,eD,ez⟩
    obtain⟨e,p2,nu,o2,pl2,rfl,he,hent,hpr⟩:=hes.get hx
    have lz:=ez.length
    have lf:=WW (fun e:Ent=>decide (e.1≠num)) (es.take i)
    rw[Vz] at lf
    have nx:=cL.Ul (n:=n) (p:=fun e:Ent=>decide (e.1≠num)) he
    refine⟨_,rfl,e,_,_,_,rfl,rfl,SqT.of (sm _ _ hent),rfl,_,rfl,rfl,_,rfl,?_⟩
    by_cases z:nu=num
    ·rw[show decide (vN nu=vN num)=true from decide_eq_true (by rw[z])]
     show if (!true)=true then _ else _
     refine cX ⟨⟨_,rfl⟩,sm,eD,?_⟩
     rw[nx,if_neg (by rw[decide_eq_false (not_not_intro z)]; exact Vm),WK]
     exact ez
    ·rw[show decide (vN nu=vN num)=false from decide_eq_false fun y=>z (by injection y with y; lia)]
     show if (!false)=true then _ else _
     have tk:=cj (zs':=zs++[.ref e]) eD
     refine fX ⟨_,rfl,eD,aJ (by lia),⟨_,rfl⟩,aQ sm hD _,aq,?_⟩
     rw[nx,if_pos (decide_eq_true z)]
     exact cL.snoc (tk _ _ (sm _ _ hent)) ((hpr.aV fun a ys q=>sm a _ q).aV tk) (ez.aV tk)
   ·rintro zs σ' H3 ⟨_,sm,eD,ez⟩
    rw[les,Vw] at ez
    refine⟨D,_,rfl,.inl ⟨SqL.of eD,fun a ha=>?_⟩⟩
    have sn:=aC ha (.tup zs)
    exact Rc _ _ ⟨a,zs,rfl,sm.trans sn,aq,ez.aV fun a ys q=>sn a _ q⟩
  case q3 =>
  rintro σ H3 ⟨ch,us',rfl,s3,ech,ees⟩
  refine⟨_,rfl,b,dx,_,rfl,s3 _ _ hb,rfl,?_⟩
  refine⟨_,rfl,_,rfl,_,rfl,nw,ch,one,n,co,g,go,es,_,us',rfl,hst.ks (ksS s3),lg,hone,g0,ech,ees,by have:=WW (fun e:Ent=>decide (e.1≠num)) es; lia,fun st' H4 s4 hst4=>?_⟩
  have s24:=s3.trans s4
  refine⟨b,be,st',dx,nw,ah,xs,rfl,s24 _ _ hb,s24 _ _ hbe,by lia,fun ah' H5 e5 e5' bt=>?_⟩
  exact q H5 ((O9 s24).trans bt) ⟨dx,st',ah',_,e5,e5',by rw[Ve,lx]; rfl,hst4.ks (bt.ks ne (s24 _ _ hb) (s24 _ _ hbe))⟩
theorem dZ.Ry {n:Nat} {H:Hp} {D:Addr} {zs zs':List V} (hD:H D=some (.lst zs)):∀ {us:List V} {bs:List (List Pl)},dZ n H us bs->(∀ u∈us,u≠.ref D)->dZ n (upd H D (.lst zs')) us bs
 | _,_,.nil,_=>.nil
 | _,_,.cons h l p r,hne=>.cons (by rw[bh fun z=>hne _ Vj (by rw[z])]; exact h) l (p.aV (cj hD)) (dZ.Ry hD r fun u hu=>hne u (Vp _ hu))
abbrev jt:Stmt:=inClass (top 43) 3
theorem iM:aO ["self","one","now","left"] ["self","one"] (aD jt):=⟨rfl,rfl,rfl,by decide+kernel,rfl,by decide+kernel,by decide+kernel⟩
inductive BX (CS CB:Addr) (vs:List V) (H:Hp) (Q:VK):Prop where
 | mk (b be:Addr) (one n d co:Nat) (g:List Int) (go:List Nat) (es:List Ent) (z0:vs=[.ref b,vN one]) (z1:cC CS CB n H b be d g go es co) (z2:one < g.length) (z3:one ∉ go) (z4:go.length<=12) (z5:es.length<=40) (z6:d<=900) (z7:∀ H',But b be H H'->cC CS CB n H' b be (d+1) g (En (go++[one])) (es.filter fun e=>decide (e.2.1≠one)) co->Q .non H'):BX CS CB vs H Q
def GJ (CS CB:Addr):Sp:=fun vs H Q _=>BX CS CB vs H Q
theorem uX {CS CB:Addr} (ne:CB≠CS) (F:Fun K "leave" "Boon.leave" jt f fd) (B:Bt mg) (S:Aw K CS) (T:Ew K CB)
  (D_check_there:Df P w K mg base "check_there" 2 ["stand","one"] (yG CS)) (D_Stand:Dk2 P w K mg base "Stand" CS 1 ["self","green","gone","standing","coming"] (iT CS)) (D_Boon_go_on:Dm2 P w K mg base CB "go_on" 1 ["self","stand"] (tu CB)) :
  cG P w K mg base CX0 3 f fd ["self","one"] (GJ CS CB):=by
 refine F.ok iM (fun vs H Q E h=>?_) (fun cdv A outer s H vs Q E hr h=>?_)
 ·obtain⟨b,be,one,n,d,co,g,go,es,rfl,_⟩:=h
  rfl
 ·obtain⟨b,be,one,n,d,co,g,go,es,rfl,⟨dx,nw,ah,xs,hb,hbe,lx,hst⟩,hone,hgo,lgo,l40,d9,q⟩:=h
  refine⟨_,(au (aW (i:=2) iM.nd rfl (Vv rfl) (bu K rfl (pv 0)))
 (au (bO (aX D_check_there hr (aa (pv 2) (aa (pv 1) aj))))
 (au (aW (i:=3) iM.nd rfl (Vv rfl) (bH (r:=eX K) bF rfl B.tuple_ bK (aa (bQ (L:=["entry"]) (F:=["one"]) (cap:=[1]) rfl (bJ rfl rfl (by kernel_rfl)) (dJ (bu K rfl (pv 2))) (fun _ _ _ _ _=>(aK (i:=0) (bA (by decide+kernel)) rfl (Vv rfl))) (fun _ _ _ _ _=>(mR (aL zL (bw (r:=fZ K) bD (pv 0) aA (fun _ _=>rfl)) (pv 1) (aU _)))) (fun _ _ _ _ _=>(pv 0))) aj)))
 (aB (bO (mZ D_Boon_go_on hr (pv 0) (aa (Iw D_Stand hr (aa (bu K rfl (pv 2)) (aa (bH (r:=eX K) bF rfl B.tuple_ bK (aa (aF (r:=MT K) Ds rfl B.sorted_ (by decide+kernel) (aa (bf (r:=tG K) nW (bu K rfl (pv 2)) (bU (aa (pv 1) aj))) aj)) aj)) (aa (pv 3) (aa (bu K rfl (pv 2)) aj))))) aj))))))),?_⟩
  refine aH (fun σ H1=>σ=[some (.ref b),some (vN one),some (.ref nw),none]/\H1=H) ?q0 ?t0
  case t0 =>
   intro N Rc
   exact⟨_,rfl,b,CB,dx,_,_,rfl,hb,T.cl,T.now,rfl,Rc _ _ ⟨rfl,rfl⟩⟩
  case q0 =>
  rintro σ H0 ⟨rfl,rfl⟩
  refine aH (fun σ H1=>σ=[some (.ref b),some (vN one),some (.ref nw),none]/\H1=H0) ?q1 ?t1
  case t1 =>
   intro N Rc
   exact⟨_,rfl,_,rfl,nw,one,n,co,g,go,es,rfl,hst,hone,hgo,Rc _ _ ⟨rfl,rfl⟩⟩
  case q1 =>
  rintro σ H2 ⟨rfl,rfl⟩
  obtain⟨dx2,ga,goa,sa,us,hs,hga,hgoa,hsa,hes⟩:=id hst
  have les:=hes.length
  refine aH (fun σ H3=>∃ (ch:Addr) (us':List V),σ=[some (.ref b),some (vN one),some (.ref nw),some (.ref ch)]/\aZ H2 H3/\H3 ch=some (.tup us')/\cL n H3 us' (es.filter fun e=>decide (e.2.1≠one))) ?q3 ?t3
  case t3 =>
   intro N Rc
   refine⟨_,rfl,nw,CS,dx2,_,_,rfl,hs,S.cl,S.standing,rfl,sa,rfl,⟨_,SqT.of hsa⟩,fun D hD=>cT (K:=K) (a:=sa) (xs:=us) (fun i zs σ' H3=>(∃ u,σ'=[u,some (vN one)])/\aZ H2 H3/\H3 D=some (.lst zs)/\cL n H3 zs ((es.take i).filter fun e=>decide (e.2.1≠one)))
    ⟨⟨_,rfl⟩,aC hD _,aq,by rw[Wk]; exact .nil⟩ (fun i zs σ' H3 _ h=>⟨SqT.of (h.2.1 _ _ hsa),h.2.2.1⟩) ?_ ?_⟩
   ·rintro i zs x σ' H3 hx ⟨⟨u,rfl⟩,sm,eD,ez⟩
    obtain⟨e,p2,nu,o2,pl2,rfl,he,hent,hpr⟩:=hes.get hx
    have lz:=ez.length
    have lf:=WW (fun e:Ent=>decide (e.2.1≠one)) (es.take i)
    rw[Vz] at lf
    have nx:=cL.Ul (n:=n) (p:=fun e:Ent=>decide (e.2.1≠one)) he
    refine⟨_,rfl,e,_,_,_,rfl,rfl,SqT.of (sm _ _ hent),rfl,_,rfl,rfl,_,rfl,?_⟩
    by_cases z:o2=one
    ·rw[show decide (vN o2=vN one)=true from decide_eq_true (by rw[z])]
     show if (!true)=true then _ else _
     refine cX ⟨⟨_,rfl⟩,sm,eD,?_⟩
     rw[nx,if_neg (by rw[decide_eq_false (not_not_intro z)]; exact Vm),WK]
     exact ez
    ·rw[show decide (vN o2=vN one)=false from decide_eq_false fun y=>z (by injection y with y; lia)]
     show if (!false)=true then _ else _
     have tk:=cj (zs':=zs++[.ref e]) eD
     refine fX ⟨_,rfl,eD,aJ (by lia),⟨_,rfl⟩,aQ sm hD _,aq,?_⟩
     rw[nx,if_pos (decide_eq_true z)]
     exact cL.snoc (tk _ _ (sm _ _ hent)) ((hpr.aV fun a ys q=>sm a _ q).aV tk) (ez.aV tk)
   ·rintro zs σ' H3 ⟨_,sm,eD,ez⟩
    rw[les,Vw] at ez
    refine⟨D,_,rfl,.inl ⟨SqL.of eD,fun a ha=>?_⟩⟩
    have sn:=aC ha (.tup zs)
    exact Rc _ _ ⟨a,zs,rfl,sm.trans sn,aq,ez.aV fun a ys q=>sn a _ q⟩
  case q3 =>
  rintro σ H3 ⟨ch,us',rfl,s3,ech,ees⟩
  have hs3:=s3 _ _ hs
  refine⟨_,rfl,b,dx,_,rfl,s3 _ _ hb,rfl,?_⟩
  refine⟨_,rfl,nw,CS,dx2,_,_,rfl,hs3,S.cl,S.green,rfl,?_⟩
  refine⟨_,rfl,nw,CS,dx2,_,_,rfl,hs3,S.cl,S.gone,rfl,_,rfl,small (by show 1<=1000; decide),fun p1 h1=>?_⟩
  generalize eH4:upd H3 p1 _=H4
  obtain⟨g4,e4⟩:=aP eH4 h1
  refine Ti (g4 _ _ (s3 _ _ hgoa)) e4 (by rw[Vb]; show go.length+1<=1000; lia) fun p2 H5 s5 e5=>?_
  have e5:H5 p2=some (.tup ((go++[one]).map vN)):=by rw[e5,Vl]; rfl
  have ep:SqT K H5 p2 (((go++[one]).map fun i:Nat=>(i:Int)).map V.int):=SqT.of (e5.trans (by rw[fK]))
  refine⟨p2,_,rfl,ep,by rw[Vb,Ve]; show go.length+1 < 64; lia,fun ms pms so l hl=>?_⟩
  have ems:=yd pms so
  subst ems
  generalize eH6:upd H5 l _=H6
  obtain⟨g6,e6⟩:=aP eH6 hl
  refine⟨l,_,rfl,.inl ⟨SqL.of e6,fun tt htt=>?_⟩⟩
  generalize eH7:upd H6 tt _=H7
  obtain⟨g7,e7⟩:=aP eH7 htt
  have s37:=g4.trans (s5.trans (g6.trans g7))
  have s27:=s3.trans s37
  refine⟨_,rfl,_,rfl,nw,CS,dx2,_,_,rfl,s37 _ _ hs3,S.cl,S.coming,rfl,fun x dx3 hx hdx hne=>?_⟩
  refine nY hx hdx hne fun H8 s8 e8=>⟨rfl,?_⟩
  have s28:=s27.trans s8
  refine⟨b,be,x,dx,nw,ah,xs,rfl,s28 _ _ hb,s28 _ _ hbe,by lia,fun ah' H9 e9 e9' bt=>?_⟩
  refine q H9 ((O9 s28).trans bt) ⟨dx,x,ah',_,e9,e9',by rw[Ve,lx]; rfl,jc.ks (bt.ks ne (s28 _ _ hb) (s28 _ _ hbe)) ⟨dx3,ga,tt,ch,us',e8,s28 _ _ hga,s8 _ _ (e7.trans (by rw[fK])),(s37.trans s8) _ _ ech,ees.aV fun a ys q=>(s37.trans s8) a _ q⟩⟩
abbrev GX:Stmt:=top 59
abbrev zN:Stmt:=top 60
abbrev o7:Stmt:=top 61
theorem OD:aO ["boon"] ["boon"] (aD GX):=⟨rfl,rfl,rfl,by decide+kernel,rfl,by decide+kernel,by decide+kernel⟩
theorem Lf:aO ["boon"] ["boon"] (aD zN):=⟨rfl,rfl,rfl,by decide+kernel,rfl,by decide+kernel,by decide+kernel⟩
theorem Ef:aO ["boon"] ["boon"] (aD o7):=⟨rfl,rfl,rfl,by decide+kernel,rfl,by decide+kernel,by decide+kernel⟩
inductive Ho (CS CB:Addr) (vs:List V) (H:Hp) (Q:VK):Prop where
 | mk (b be:Addr) (n d co:Nat) (g:List Int) (go:List Nat) (es:List Ent) (z0:vs=[.ref b]) (z1:cC CS CB n H b be d g go es co) (z2:Q (.int (g.length:Int)) H):Ho CS CB vs H Q
def LQ (CS CB:Addr):Sp:=fun vs H Q _=>Ho CS CB vs H Q
inductive Bo (CS CB:Addr) (vs:List V) (H:Hp) (Q:VK):Prop where
 | mk (b be:Addr) (n d co:Nat) (g:List Int) (go:List Nat) (es:List Ent) (z0:vs=[.ref b]) (z1:cC CS CB n H b be d g go es co) (z2:∀ a,H a=some (.tup (g.map V.int))->Q (.ref a) H):Bo CS CB vs H Q
def uZ (CS CB:Addr):Sp:=fun vs H Q _=>Bo CS CB vs H Q
theorem O7 {CS CB:Addr} (F:Fun K "folk" "folk" GX f fd) (B:Bt mg) (S:Aw K CS) (T:Ew K CB):cG P w K mg base CX0 1 f fd ["boon"] (LQ CS CB):=by
 refine F.ok OD (fun vs H Q E h=>?_) (fun cdv A outer s H vs Q E hr h=>?_)
 ·obtain⟨b,be,n,d,co,g,go,es,rfl,_⟩:=h
  rfl
 ·obtain⟨b,be,n,d,co,g,go,es,rfl,⟨dx,nw,ah,xs,hb,hbe,lx,dx2,ga,goa,sa,us,hs,hga,hgoa,hsa,hes⟩,q⟩:=h
  refine⟨_,(aB (aG (aF (r:=lR K) bx rfl B.len_ cI (aa (bu K rfl (bu K rfl (pv 0))) aj)))),?_⟩
  refine⟨_,rfl,b,CB,dx,_,_,rfl,hb,T.cl,T.now,rfl,nw,CS,dx2,_,_,rfl,hs,S.cl,S.green,rfl,ga,_,rfl,.inr (SqT.of hga),?_⟩
  rw[Vb]
  exact q
theorem Lh {CS CB:Addr} (F:Fun K "green" "green" zN f fd) (B:Bt mg) (S:Aw K CS) (T:Ew K CB):cG P w K mg base CX0 1 f fd ["boon"] (uZ CS CB):=by
 refine F.ok Lf (fun vs H Q E h=>?_) (fun cdv A outer s H vs Q E hr h=>?_)
 ·obtain⟨b,be,n,d,co,g,go,es,rfl,_⟩:=h
  rfl
 ·obtain⟨b,be,n,d,co,g,go,es,rfl,⟨dx,nw,ah,xs,hb,hbe,lx,dx2,ga,goa,sa,us,hs,hga,hgoa,hsa,hes⟩,q⟩:=h
  refine⟨_,(aB (aG (bu K rfl (bu K rfl (pv 0))))),?_⟩
  exact⟨_,rfl,b,CB,dx,_,_,rfl,hb,T.cl,T.now,rfl,nw,CS,dx2,_,_,rfl,hs,S.cl,S.green,rfl,q ga hga⟩
def eF (es:List Ent) (i:Nat):List Pl:=(es.filter fun e=>decide (e.2.1=i)).map fun e=>e.2.2
def dg (n:Nat) (es:List Ent):List (List Pl):=(VD n).map (eF es)
theorem mL {es:List Ent} {i:Nat} {e:Ent}:eF (es++[e]) i=eF es i++if e.2.1=i then [e.2.2] else []:=by
 unfold eF
 rw[Xv,Vl]
 congr 1
 by_cases h:e.2.1=i
 ·rw[if_pos h,YF (by exact decide_eq_true h)]
  rfl
 ·rw[if_neg h,YG (by rw[decide_eq_false h]; exact Vm)]
  rfl
inductive vJ (CS CB:Addr) (vs:List V) (H:Hp) (Q:VK):Prop where
 | mk (b be:Addr) (n d co:Nat) (g:List Int) (go:List Nat) (es:List Ent) (z0:vs=[.ref b]) (z1:cC CS CB n H b be d g go es co) (z2:g.length=n) (z3:n<=12) (z4:es.length<=40) (z5:∀ (a:Addr) (H':Hp),aZ H H'->Bh n H' a (dg n es)->Q (.ref a) H'):vJ CS CB vs H Q
def oG (CS CB:Addr):Sp:=fun vs H Q _=>vJ CS CB vs H Q
theorem Ed {CS CB:Addr} (F:Fun K "book_of" "book_of" o7 f fd) (B:Bt mg) (S:Aw K CS) (T:Ew K CB) (D_folk:Df P w K mg base "folk" 1 ["boon"] (LQ CS CB)):cG P w K mg base CX0 2 f fd ["boon"] (oG CS CB):=by
 refine F.ok Ef (fun vs H Q E h=>?_) (fun cdv A outer s H vs Q E hr h=>?_)
 ·obtain⟨b,be,n,d,co,g,go,es,rfl,_⟩:=h
  rfl
 ·obtain⟨b,be,n,d,co,g,go,es,rfl,hB,lg,n12,l40,q⟩:=h
  refine⟨_,(aB (aG (K9 (x0:="one") (L:=["one"]) (F:=["boon"]) (cap:=[0]) rfl (JB rfl rfl (by kernel_rfl) (fun _ _=>rfl) (fun _=>rfl)) (dW rfl B.range_ (aa (aX D_folk hr (aa (pv 0) aj)) aj)) (fun _ _ _ _ _=>(aK (i:=0) (Lw (by decide+kernel)) rfl (aba rfl))) (fun _ _ _ _ _=>bV) (fun _ _ _ _ _=>(bQ (L:=["number","other","pledge"]) (F:=["one"]) (cap:=[0]) rfl (bJ rfl rfl (by kernel_rfl)) (O2 K rfl (bu K rfl (bu K rfl (pv 1)))) (fun _ _ _ _ _=>(dM (K:=K) 3 rfl rfl (bB (aK (i:=0) (bA (by decide+kernel)) rfl (Vv rfl)) (bB (aK (i:=1) (bA (by decide+kernel)) rfl (Vv rfl)) (bB (aK (i:=2) (bA (by decide+kernel)) rfl (Vv rfl)) dI))))) (fun _ _ _ _ _=>(mR (aL cJ (pv 1) (pv 3) (aU _)))) (fun _ _ _ _ _=>(pv 2))))))),?_⟩
  obtain⟨dx,nw,ah,xs,hb,hbe,lx,dx2,ga,goa,sa,us,hs,hga,hgoa,hsa,hes⟩:=id hB
  have les:=hes.length
  refine⟨_,rfl,b,be,n,d,co,g,go,es,rfl,hB,_,rfl,by lia,by lia,fun D hD=>eQ (lo:=0) (n:=((g.length:Int)).toNat) (fun i zs σ' H2=>(∃ u,σ'=[u,some (.ref b)])/\aZ H H2/\H2 D=some (.lst zs)/\dZ n H2 zs ((VD i).map (eF es))/\∀ u∈zs,u≠.ref D)
   ⟨⟨_,rfl⟩,aC hD _,aq,.nil,by simp⟩ (fun i zs σ' H2 _ h=>h.2.2.1) ?_ ?_⟩
  ·rintro i zs σ' H2 hi ⟨⟨u,rfl⟩,sm,eD,rb,hne⟩
   have lz:=rb.length
   rw[Vb,VP] at lz
   rw[ZR]
   refine gT ?_
   have hb2:=sm _ _ hb
   have hs2:=sm _ _ hs
   have hsa2:=sm _ _ hsa
   have hes2:=hes.aV fun a ys q=>sm a _ q
   refine⟨_,rfl,b,CB,dx,_,_,rfl,hb2,T.cl,T.now,rfl,nw,CS,dx2,_,_,rfl,hs2,S.cl,S.standing,rfl,sa,rfl,⟨_,SqT.of hsa2⟩,fun D2 hD2=>cT (K:=K) (a:=sa) (xs:=us) (fun j ys σ' H3=>(∃ u v w,σ'=[u,v,w,some (vN i)])/\aZ H2 H3/\H3 D2=some (.lst ys)/\∃ as:List Addr,ys=as.map V.ref/\fY n H3 as (eF (es.take j) i))
    ⟨⟨_,_,_,rfl⟩,aC hD2 _,aq,[],rfl,by rw[Wk]; exact .nil⟩ (fun j ys σ' H3 _ h=>⟨SqT.of (h.2.1 _ _ hsa2),h.2.2.1⟩) ?_ ?_⟩
   ·rintro j ys x σ' H3 hx ⟨⟨u,v,w,rfl⟩,s3,eD2,as,rfl,ra⟩
    obtain⟨e,p,num,o2,pl,rfl,he,hent,hpr⟩:=hes2.get hx
    have la:=ra.length
    have ll:(eF (es.take j) i).length<=40:=by
     unfold eF
     rw[Vb]
     refine V2 (WW _ _) ?_
     rw[Vz]
     lia
    have nx:eF (es.take (j+1)) i=eF (es.take j) i++if o2=i then [pl] else []:=by
     rw[V1,he]
     exact mL
    refine⟨e,_,rfl,SqT.of (s3 _ _ hent),rfl,_,_,rfl,_,_,rfl,_,_,rfl,rfl,?_⟩
    refine⟨_,rfl,_,rfl,rfl,_,rfl,?_⟩
    by_cases z:o2=i
    ·rw[show decide (vN o2=vN i)=true from decide_eq_true (by rw[z])]
     have tk:=cj (zs':=as.map V.ref++[.ref p]) eD2
     refine fX ⟨_,rfl,eD2,aJ (by rw[Vb]; lia),⟨_,_,_,rfl⟩,aQ s3 hD2 _,aq,as++[p],by rw[Vl]; rfl,?_⟩
     rw[nx,if_pos z]
     exact fY.snoc ((hpr.aV fun a ys q=>s3 a _ q).aV tk) (ra.aV tk)
    ·rw[show decide (vN o2=vN i)=false from decide_eq_false fun y=>z (by injection y with y; lia)]
     refine cX ⟨⟨_,_,_,rfl⟩,s3,eD2,as,rfl,?_⟩
     rw[nx,if_neg z,WK]
     exact ra
   ·rintro ys σ' H3 ⟨_,s3,eD2,as,rfl,ra⟩
    rw[les,Vw] at ra
    have la:=ra.length
    have ll:(eF es i).length<=40:=by
     unfold eF
     rw[Vb]
     exact V2 (WW _ _) l40
    have dd:D2≠D:=fun z=>by rw[z,eD] at hD2; cases hD2
    have eD3:=s3 _ _ eD
    refine⟨eD3,aJ (by lia),⟨_,rfl⟩,aQ (sm.trans s3) hD _,aq,?_,fun u hu=>?_⟩
    ·rw[YT,Vl]
     refine (dZ.snoc eD2 (by lia) ra (rb.mono s3)).Ry eD3 fun u hu=>?_
     rcases List.mem_append.mp hu with h | h
     ·exact hne u h
     ·rw[List.mem_singleton.mp h]
      exact fun z=>dd (by cases z; rfl)
    ·rcases List.mem_append.mp hu with h | h
     ·exact hne u h
     ·rw[List.mem_singleton.mp h]
      exact fun z=>dd (by cases z; rfl)
  ·rintro zs σ' H2 ⟨_,sm,eD,rb,hne⟩
   have e:((g.length:Int)).toNat=n:=by lia
   rw[e] at rb
   exact q D H2 sm ⟨zs,eD,rb,by unfold dg; rw[Vb,VP]; lia⟩
abbrev Jf:Stmt:=top 62
abbrev zf:Stmt:=top 63
abbrev jm:Stmt:=top 64
theorem Py:aO ["boon"] ["boon"] (aD Jf):=⟨rfl,rfl,rfl,by decide+kernel,rfl,by decide+kernel,by decide+kernel⟩
theorem J9:aO ["boon"] ["boon"] (aD zf):=⟨rfl,rfl,rfl,by decide+kernel,rfl,by decide+kernel,by decide+kernel⟩
theorem uo:aO ["boon"] ["boon"] (aD jm):=⟨rfl,rfl,rfl,by decide+kernel,rfl,by decide+kernel,by decide+kernel⟩
theorem cP (n:Nat) (es:List Ent):(dg n es).length=n:=by unfold dg; rw[Vb,VP]
inductive Jk (CS CB:Addr) (vs:List V) (H:Hp) (Q:VK):Prop where
 | mk (b be:Addr) (n d co:Nat) (g:List Int) (go:List Nat) (es:List Ent) (z0:vs=[.ref b]) (z1:cC CS CB n H b be d g go es co) (z2:okG n g) (z3:n<=12) (z4:es.length<=40) (z5:∀ (a:Addr) (lo:List Int) (H':Hp),aZ H H'->Low n g (dg n es) lo->H' a=some (.tup (lo.map V.int))->Q (.ref a) H'):Jk CS CB vs H Q
def Nh (CS CB:Addr):Sp:=fun vs H Q _=>Jk CS CB vs H Q
inductive Cq (CS CB:Addr) (vs:List V) (H:Hp) (Q:VK):Prop where
 | mk (b be:Addr) (n d co:Nat) (g:List Int) (go:List Nat) (es:List Ent) (z0:vs=[.ref b]) (z1:cC CS CB n H b be d g go es co) (z2:okG n g) (z3:n<=12) (z4:es.length<=40) (z5:∀ (a:Addr) (hi:List Int) (H':Hp),aZ H H'->Jx n g (dg n es) hi->H' a=some (.tup (hi.map V.int))->Q (.ref a) H'):Cq CS CB vs H Q
def G7 (CS CB:Addr):Sp:=fun vs H Q _=>Cq CS CB vs H Q
inductive xP (CS CB:Addr) (vs:List V) (H:Hp) (Q:VK):Prop where
 | mk (b be:Addr) (n d co:Nat) (g:List Int) (go:List Nat) (es:List Ent) (z0:vs=[.ref b]) (z1:cC CS CB n H b be d g go es co) (z2:okG n g) (z3:n<=6) (z4:es.length<=40) (z5:∀ (r:Addr) (us:List V) (ks:List (List Nat)) (H':Hp),aZ H H'->H r=none->H' r=some (.lst us)->LF H H' us ks->(∀ a,V.ref a∈us->a≠r)->cY n g (dg n es) ks->Q (.ref r) H'):xP CS CB vs H Q
def BL (CS CB:Addr):Sp:=fun vs H Q _=>xP CS CB vs H Q
theorem O6 {CS CB:Addr} {k:Nat} (hk:2<=k) (F:Fun K "sure" "sure" Jf f fd) (B:Bt mg) (D_least:Df P w K mg base "least" k ["book","floor"] (Eh Sh)) (D_book_of:Df P w K mg base "book_of" 2 ["boon"] (oG CS CB)) (D_green:Df P w K mg base "green" 1 ["boon"] (uZ CS CB)) :
  cG P w K mg base CX0 (k+1) f fd ["boon"] (Nh CS CB):=by
 refine F.ok Py (fun vs H Q E h=>?_) (fun cdv A outer s H vs Q E hr h=>?_)
 ·obtain⟨b,be,n,d,co,g,go,es,rfl,_⟩:=h
  rfl
 ·obtain⟨b,be,n,d,co,g,go,es,rfl,hB,og,n12,l40,q⟩:=h
  refine⟨_,(aB (aG (aX D_least hr (aa (aX D_book_of hr (aa (pv 0) aj)) (aa (aX D_green hr (aa (pv 0) aj)) aj))))),?_⟩
  refine⟨_,rfl,b,be,n,d,co,g,go,es,rfl,hB,og.1,n12,l40,fun a H1 s1 hBk=>?_⟩
  refine⟨_,rfl,b,be,n,d,co,g,go,es,rfl,hB.same s1,fun ga hga=>?_⟩
  exact⟨a,ga,n,_,g,rfl,hBk,cP n es,hga,og,fun m a1 H2 _ st s2 e2=>q a1 _ H2 (s1.trans s2) (nq (cP n es) hBk.okB og st) e2⟩
theorem JK {CS CB:Addr} {k:Nat} (hk:2<=k) (F:Fun K "hoped" "hoped" zf f fd) (B:Bt mg) (D_greatest:Df P w K mg base "greatest" k ["book","floor"] (Eh rfF)) (D_book_of:Df P w K mg base "book_of" 2 ["boon"] (oG CS CB)) (D_green:Df P w K mg base "green" 1 ["boon"] (uZ CS CB)) :
  cG P w K mg base CX0 (k+1) f fd ["boon"] (G7 CS CB):=by
 refine F.ok J9 (fun vs H Q E h=>?_) (fun cdv A outer s H vs Q E hr h=>?_)
 ·obtain⟨b,be,n,d,co,g,go,es,rfl,_⟩:=h
  rfl
 ·obtain⟨b,be,n,d,co,g,go,es,rfl,hB,og,n12,l40,q⟩:=h
  refine⟨_,(aB (aG (aX D_greatest hr (aa (aX D_book_of hr (aa (pv 0) aj)) (aa (aX D_green hr (aa (pv 0) aj)) aj))))),?_⟩
  refine⟨_,rfl,b,be,n,d,co,g,go,es,rfl,hB,og.1,n12,l40,fun a H1 s1 hBk=>?_⟩
  refine⟨_,rfl,b,be,n,d,co,g,go,es,rfl,hB.same s1,fun ga hga=>?_⟩
  exact⟨a,ga,n,_,g,rfl,hBk,cP n es,hga,og,fun m a1 H2 _ st s2 e2=>q a1 _ H2 (s1.trans s2) (tZ (cP n es) hBk.okB og st) e2⟩
theorem LF.since {H0 H1 H:Hp} (s:aZ H0 H1):∀ {us:List V} {cs:List (List Nat)},LF H1 H us cs->LF H0 H us cs
 | _,_,.nil=>.nil
 | _,_,.cons h n r=>.cons h (s.free n) (LF.since s r)
theorem uK {CS CB:Addr} {k:Nat} (hk:2<=k) (F:Fun K "boon_knots" "boon_knots" jm f fd) (B:Bt mg) (D_knots:Df P w K mg base "knots" k ["book","floor"] Il) (D_book_of:Df P w K mg base "book_of" 2 ["boon"] (oG CS CB)) (D_green:Df P w K mg base "green" 1 ["boon"] (uZ CS CB)) :
  cG P w K mg base CX0 (k+1) f fd ["boon"] (BL CS CB):=by
 refine F.ok uo (fun vs H Q E h=>?_) (fun cdv A outer s H vs Q E hr h=>?_)
 ·obtain⟨b,be,n,d,co,g,go,es,rfl,_⟩:=h
  rfl
 ·obtain⟨b,be,n,d,co,g,go,es,rfl,hB,og,n6,l40,q⟩:=h
  refine⟨_,(aB (aG (aX D_knots hr (aa (aX D_book_of hr (aa (pv 0) aj)) (aa (aX D_green hr (aa (pv 0) aj)) aj))))),?_⟩
  refine⟨_,rfl,b,be,n,d,co,g,go,es,rfl,hB,og.1,by lia,l40,fun a H1 s1 hBk=>?_⟩
  refine⟨_,rfl,b,be,n,d,co,g,go,es,rfl,hB.same s1,fun ga hga=>?_⟩
  exact⟨a,ga,n,_,g,rfl,n6,hBk,cP n es,hga,og,fun r us ks H2 s2 fr er lr hne ka=>q r us ks H2 (s1.trans s2) (s1.free fr) er (lr.since s1) hne ka⟩
abbrev lY:Stmt:=top 76
theorem jV:aO ["_law_n","_law_boon_here","_law_one"] ["_law_n"] (aD lY):=⟨rfl,rfl,rfl,by decide+kernel,rfl,by decide+kernel,by decide+kernel⟩
inductive Bl (CS CB:Addr) (vs:List V) (H:Hp) (Q:VK):Prop where
 | mk (n:Nat) (z0:vs=[.int (n:Int)]) (z1:1<=n) (z2:n<=12) (z3:∀ (b be:Addr) (H':Hp),aZ H H'->H b=none->H be=none->(∀ m,cC CS CB m H' b be n (Vn n 0) [] [] 0)->Q (.ref b) H'):Bl CS CB vs H Q
def Fo (CS CB:Addr):Sp:=fun vs H Q _=>Bl CS CB vs H Q
theorem zc {CS CB:Addr} (F:Fun K "_law_come" "_law_come" lY f fd) (B:Bt mg) (D_Boon:Dk2 P w K mg base "Boon" CB 3 ["self"] (Im CS CB)) (D_Boon_come:Dm2 P w K mg base CB "come" 3 ["self"] (Mi CS CB)) :
  cG P w K mg base CX0 5 f fd ["_law_n"] (Fo CS CB):=by
 refine F.ok jV (fun vs H Q E h=>?_) (fun cdv A outer s H vs Q E hr h=>?_)
 ·obtain⟨n,rfl,_⟩:=h
  rfl
 ·obtain⟨n,rfl,n1,n12,q⟩:=h
  refine⟨_,(au (aW (i:=1) jV.nd rfl (Vv rfl) (QB D_Boon hr))
 (au (eZ Wf rfl (dW rfl B.range_ (aa (pv 0) aj)) (aK (i:=2) jV.nd rfl (Vv rfl)) (aB (bO (RZ D_Boon_come hr (pv 1)))))
 (aB (aG (pv 1))))),?_⟩
  refine aH (fun σ H1=>∃ (b be:Addr),σ=[some (.int (n:Int)),some (.ref b),none]/\aZ H H1/\H b=none/\H be=none/\∀ m,cC CS CB m H1 b be 0 [] [] [] 0) ?q1 ?t1
  case t1 =>
   intro N Rc x dx hx hdx hne
   refine⟨x,dx,rfl,aq,fun be H1 fbe fr hB=>⟨rfl,Rc _ _ ⟨x,be,rfl,fun a o h=>?_,hx,?_,hB⟩⟩⟩
   ·have ax:a≠x:=fun z=>by rw[z,hx] at h; cases h
    have ad:a≠dx:=fun z=>by rw[z,hdx] at h; cases h
    exact fr a o ax (by rw[bh ax,bh ad]; exact h)
   ·cases hq:H be with
    | none=>rfl
    | some o =>
     have ax:be≠x:=fun z=>by rw[z,hx] at hq; cases hq
     have ad:be≠dx:=fun z=>by rw[z,hdx] at hq; cases hq
     rw[bh ax,bh ad,hq] at fbe
     cases fbe
  case q1 =>
  rintro σ H1 ⟨b,be,rfl,s1,fb,fbe,hB⟩
  have en:((n:Int)).toNat=n:=V8 n
  refine⟨_,rfl,_,rfl,by lia,by lia,qJ (lo:=0) (n:=((n:Int)).toNat) (fun i σ H2=>(∃ u,σ=[some (.int (n:Int)),some (.ref b),u])/\aZ H H2/\∀ m,cC CS CB m H2 b be i (Vn i 0) [] [] 0) ⟨⟨_,rfl⟩,s1,hB⟩ ?_ ?_⟩
  ·rintro i σ H2 hi ⟨⟨u,rfl⟩,s2,hB2⟩
   refine gN ?_
   obtain⟨dx,nw,ah,xs,hb,hbe,lx,hst⟩:=hB2 0
   refine⟨_,rfl,b,dx,_,rfl,hb,rfl,b,be,i,_,_,_,rfl,hB2,by rw[VR]; lia,by lia,fun H3 bt hB3=>⟨⟨_,rfl⟩,fun a o h=>bt a o (fun z=>?_) (fun z=>?_) (s2 _ _ h),fun m=>?_⟩⟩
   ·rw[z,fb] at h; cases h
   ·rw[z,fbe] at h; cases h
   ·have:=hB3 m
    rw[show Vn i (0:Int)++[0]=Vn (i+1) 0 by rw[Z6]] at this
    exact this
  ·rintro σ H2 ⟨⟨u,rfl⟩,s2,hB2⟩
   rw[en] at hB2
   exact⟨_,rfl,q b be H2 s2 fb fbe hB2⟩
abbrev lV:Stmt:=top 77
theorem yZ:aO ["_law_boon_here"] ["_law_boon_here"] (aD lV):=⟨rfl,rfl,rfl,by decide+kernel,rfl,by decide+kernel,by decide+kernel⟩
inductive BK (CS CB:Addr) (vs:List V) (H:Hp) (Q:VK):Prop where
 | mk (b be:Addr) (n d co:Nat) (g:List Int) (go:List Nat) (es:List Ent) (z0:vs=[.ref b]) (z1:cC CS CB n H b be d g go es co) (z2:okG n g) (z3:n<=6) (z4:es.length<=40) (z5:∀ (r a1 a2 ka:Addr) (lo hi:List Int) (us:List V) (ks:List (List Nat)) (H':Hp),aZ H H'->H' r=some (.lst [.ref a1,.ref a2,.ref ka])->H' a1=some (.tup (lo.map V.int))->Low n g (dg n es) lo->H' a2=some (.tup (hi.map V.int))->Jx n g (dg n es) hi->H' ka=some (.lst us)->LF (fun _=>none) H' us ks->cY n g (dg n es) ks->Q (.ref r) H'):BK CS CB vs H Q
def GF (CS CB:Addr):Sp:=fun vs H Q _=>BK CS CB vs H Q
theorem LF.noH {H0 H:Hp}:∀ {us:List V} {cs:List (List Nat)},LF H0 H us cs->LF (fun _=>none) H us cs
 | _,_,.nil=>.nil
 | _,_,.cons h _ r=>.cons h rfl (LF.noH r)
theorem zz {CS CB:Addr} {k j:Nat} (hj:j<=k) (F:Fun K "_law_ends" "_law_ends" lV f fd) (B:Bt mg) (D_sure:Df P w K mg base "sure" j ["boon"] (Nh CS CB)) (D_hoped:Df P w K mg base "hoped" j ["boon"] (G7 CS CB)) (D_boon_knots:Df P w K mg base "boon_knots" k ["boon"] (BL CS CB)) :
  cG P w K mg base CX0 (k+1) f fd ["_law_boon_here"] (GF CS CB):=by
 refine F.ok yZ (fun vs H Q E h=>?_) (fun cdv A outer s H vs Q E hr h=>?_)
 ·obtain⟨b,be,n,d,co,g,go,es,rfl,_⟩:=h
  rfl
 ·obtain⟨b,be,n,d,co,g,go,es,rfl,hB,og,n6,l40,q⟩:=h
  refine⟨_,(aB (aG (bR (aa (aX D_sure hr (aa (pv 0) aj)) (aa (aX D_hoped hr (aa (pv 0) aj)) (aa (aX D_boon_knots hr (aa (pv 0) aj)) aj)))))),?_⟩
  refine⟨_,rfl,b,be,n,d,co,g,go,es,rfl,hB,og,by lia,l40,fun a1 lo H1 s1 low e1=>?_⟩
  refine⟨_,rfl,b,be,n,d,co,g,go,es,rfl,hB.same s1,og,by lia,l40,fun a2 hi H2 s2 hh e2=>?_⟩
  have s12:=s1.trans s2
  refine⟨_,rfl,b,be,n,d,co,g,go,es,rfl,hB.same s12,og,n6,l40,fun ka us ks H3 s3 _ e3 lk _ kn=>?_⟩
  refine⟨small (by show 3<=1000; decide),fun p hp=>?_⟩
  have sn:=aC hp (.lst [.ref a1,.ref a2,.ref ka])
  exact q p a1 a2 ka lo hi us ks _ (s12.trans (s3.trans sn)) aq (sn _ _ (s3 _ _ (s2 _ _ e1))) low (sn _ _ (s3 _ _ e2)) hh (sn _ _ e3) (lk.noH.keep fun a c _ q=>sn _ _ q) kn
theorem rG:∀ {l l':List Int},l.Perm l'->∀ a,l.foldl max a=l'.foldl max a:=fun h=>by
 induction h with
 | nil=>exact fun a=>rfl
 | cons x _ ih=>exact fun a=>ih _
 | swap x y l =>
  intro a
  show l.foldl max (max (max a y) x)=l.foldl max (max (max a x) y)
  congr 1
  lia
 | trans _ _ h1 h2=>exact fun a=>(h1 a).trans (h2 a)
theorem J7 {ps ps':List Pl} (h:ps.Perm ps') (g:List Int) (f:Int):duF g f ps=duF g f ps':=rG (h.map _) f
section
variable {n:Nat} {es es':List Ent} {fl lo hi:List Int}
theorem BZ {i:Nat} (hi:i < n):(dg n es).getD i []=eF es i:=by
 unfold dg
 rw[Vi,VF,XN hi]
 rfl
def fL (n:Nat) (fl:List Int) (bk bk':List (List Pl)):Prop:=∀ g,fD g fl bk=fD g fl bk'
theorem Aa (ok:okB (dg n es)) (ok':okB (dg n es')) (hf:okG n fl) (h:∀ i < n,(eF es i).Perm (eF es' i)):fL n fl (dg n es) (dg n es'):=fun g=>by
 have o1:=iY (cP n es) ok hf g
 have o2:=iY (cP n es') ok' hf g
 have e:∀ i < n,(fD g fl (dg n es)).getD i 0=(fD g fl (dg n es')).getD i 0:=fun i hi=>by
  rw[kE (cP n es) hf g hi,kE (cP n es') hf g hi,BZ hi,BZ hi,J7 (h i hi)]
 exact fG (by rw[o1.1,o2.1]) (vC o1.1 o2.1 fun i hi=>by rw[e i hi]; exact WY _) (vC o2.1 o1.1 fun i hi=>by rw[e i hi]; exact WY _)
theorem Ia {bk bk':List (List Pl)} (h:fL n fl bk bk') (l:Low n fl bk lo):Low n fl bk' lo:=⟨l.1,by rw[← h]; exact l.2.1,fun g hg=>l.2.2 g (by rw[h]; exact hg)⟩
theorem Qn {bk bk':List (List Pl)} (h:fL n fl bk bk') (l:Jx n fl bk hi):Jx n fl bk' hi:=⟨l.1,by rw[← h]; exact l.2.1,fun g hg=>l.2.2 g (by rw[h]; exact hg)⟩
theorem Mr {bk bk':List (List Pl)} (h:fL n fl bk bk') {c:List Nat} {g:List Int} (l:InS n fl bk lo c g):InS n fl bk' lo c g:=⟨l.1,l.2.1,l.2.2.1,by rw[← h]; exact l.2.2.2⟩
theorem GC {bk bk':List (List Pl)} (h:fL n fl bk bk'):fL n fl bk' bk:=fun g=>(h g).symm
theorem QF {bk bk':List (List Pl)} (hb:bk.length=n) (ok:okB bk) (hb':bk'.length=n) (ok':okB bk') (hf:okG n fl) (h:fL n fl bk bk') (hl:Low n fl bk lo) (c:List Nat):al n fl bk lo c=al n fl bk' lo c:=by
 have m:=dX hb ok hf hl c
 exact Ot hb' ok' hf (Ia h hl) ⟨Mr h m.1,fun w hw=>m.2 w (Mr (GC h) hw)⟩
theorem KJ {bk bk':List (List Pl)} (hb:bk.length=n) (ok:okB bk) (hb':bk'.length=n) (ok':okB bk') (hf:okG n fl) (h:fL n fl bk bk') {ks:List (List Nat)} (k:cY n fl bk ks):cY n fl bk' ks:=by
 refine⟨fun lo' hl c=>?_,k.2⟩
 have hl':=Ia (GC h) hl
 rw[k.1 lo' hl' c]
 unfold Knot
 rw[QF hb ok hb' ok' hf h hl' c]
 refine and_congr_right fun _=>and_congr_right fun _=>and_congr_right fun _=>forall_congr' fun one=>?_
 rw[QF hb ok hb' ok' hf h hl']
end
inductive eY (n:Nat) (H:Hp):List V->List (Nat × Pl)->Prop where
 | nil:eY n H [] []
 | cons {e p:Addr} {one:Nat} {pl:Pl} {us:List V} {rs:List (Nat × Pl)}:H e=some (.tup [vN one,.ref p])->nQ n H p pl->one < n->(∀ x∈pl,nn one x.2=true)->eY n H us rs->eY n H (.ref e::us) ((one,pl)::rs)
theorem eY.aV {n:Nat} {H H':Hp} (e:∀ a xs,H a=some (HO.tup xs)->H' a=some (HO.tup xs)):∀ {us:List V} {rs:List (Nat × Pl)},eY n H us rs->eY n H' us rs
 | _,_,.nil=>.nil
 | _,_,.cons h p o x r=>.cons (e _ _ h) (p.aV e) o x (eY.aV e r)
theorem eY.length {n:Nat} {H:Hp}:∀ {us:List V} {rs:List (Nat × Pl)},eY n H us rs->us.length=rs.length
 | _,_,.nil=>rfl
 | _,_,.cons _ _ _ _ r=>by rw[Vr,Vr,eY.length r]
theorem eY.get {n:Nat} {H:Hp}:∀ {us:List V} {rs:List (Nat × Pl)} {i:Nat} {u:V},eY n H us rs->us[i]? = some u->∃ (e p:Addr) (one:Nat) (pl:Pl),u = .ref e/\rs[i]? = some (one,pl)/\H e=some (.tup [vN one,.ref p])/\nQ n H p pl/\one < n/\∀ x∈pl,nn one x.2=true
 | _,_,_,_,.nil,h=>by simp at h
 | _,_,0,_,.cons h p o x _,e=>by
  cases (show some _=some _ from e)
  exact⟨_,_,_,_,rfl,rfl,h,p,o,x⟩
 | _,_,i+1,_,.cons _ _ _ _ r,e=>by
  obtain⟨a,p,y,z,h1,h2,h3⟩:=eY.get (i:=i) r (by simpa using e)
  exact⟨a,p,y,z,h1,by simpa using h2,h3⟩
theorem eY.snoc {n:Nat} {H:Hp} {e p:Addr} {one:Nat} {pl:Pl} (h:H e=some (.tup [vN one,.ref p])) (hp:nQ n H p pl) (ho:one < n) (hx:∀ x∈pl,nn one x.2=true):∀ {us:List V} {rs:List (Nat × Pl)},eY n H us rs->eY n H (us++[.ref e]) (rs++[(one,pl)])
 | _,_,.nil=>.cons h hp ho hx .nil
 | _,_,.cons a b c d r=>.cons a b c d (eY.snoc h hp ho hx r)
def ofR (rs:List (Nat × Pl)) (j:Nat):List Pl:=(rs.filter fun r=>decide (r.1=j)).map (·.2)
theorem BJ {rs:List (Nat × Pl)} {r:Nat × Pl} {j:Nat}:ofR (rs++[r]) j=ofR rs j++if r.1=j then [r.2] else []:=by
 unfold ofR
 rw[Xv,Vl]
 congr 1
 by_cases h:r.1=j
 ·rw[if_pos h,YF (by exact decide_eq_true h)]
  rfl
 ·rw[if_neg h,YG (by rw[decide_eq_false h]; exact Vm)]
  rfl
theorem xR (es:List Ent) (gone j:Nat):eF (es.filter fun e=>decide (e.2.1≠gone)) j=if j=gone then [] else eF es j:=by
 unfold eF
 rw[List.filter_filter]
 by_cases h:j=gone
 ·rw[if_pos h,List.filter_eq_nil_iff.mpr fun e _=>?_]
  ·rfl
  ·rw[WD,decide_eq_true_iff,decide_eq_true_iff]
   exact fun z=>z.2 (by rw[z.1,h])
 ·rw[if_neg h]
  congr 1
  refine abM fun e _=>?_
  by_cases z:e.2.1=j
  ·rw[decide_eq_true z,decide_eq_true (show e.2.1≠gone by rw[z]; exact h)]
   rfl
  ·rw[decide_eq_false z,Ze]
theorem Kl {rs rs':List (Nat × Pl)} (h:rs.Perm rs') (j:Nat):(ofR rs j).Perm (ofR rs' j):=(h.filter _).map _
def rC (es:List Ent) (co:Nat):Prop:=(es.map (·.1)).Nodup/\∀ e∈es,e.1 < co
theorem rC.snoc {es:List Ent} {co one:Nat} {pl:Pl} (h:rC es co):rC (es++[(co,one,pl)]) (co+1):=by
 refine⟨?_,fun e he=>?_⟩
 ·rw[Vl]
  show ((es.map (·.1))++[co]).Pairwise (·≠·)
  rw[abb]
  refine⟨h.1,by simp,fun a ha b hb e=>?_⟩
  obtain⟨x,hx,rfl⟩:=List.mem_map.mp ha
  have:=h.2 x hx
  rw[List.mem_singleton.mp hb] at e
  lia
 ·rcases List.mem_append.mp he with z | z
  ·have:=h.2 e z
   lia
  ·rw[List.mem_singleton.mp z]
   exact Xb _
theorem Ka {es:List Ent} {co one:Nat} {e:Ent} {pl pl':Pl} (h:rC es co) (he:e.1=co):chE (co+1) one pl' (es++[e]++[(co+1,one,pl)])=es++[e]++[(co+1,one,pl')]:=by
 unfold chE
 rw[Vl,Vl]
 congr 1
 ·congr 1
  ·refine (abm fun x hx=>?_).trans (List.map_id es)
   have:=h.2 x hx
   rw[if_neg (by lia)]
   rfl
  ·show[if e.1=co+1 then _ else e]=[e]
   rw[if_neg (by lia)]
 ·show[if (co+1,one,pl).1=co+1 then (co+1,one,pl') else (co+1,one,pl)]=_
  rw[if_pos rfl]
theorem Sd {es:List Ent} {co:Nat} {e x:Ent} (h:rC es co) (he:e.1=co) (hx:x.1=co+1):(es++[e]++[x]).filter (fun e=>decide (e.1≠co))=es++[x]:=by
 rw[Xv,Xv]
 have h1:es.filter (fun e=>decide (e.1≠co))=es:=by
  refine List.filter_eq_self.mpr fun y hy=>decide_eq_true ?_
  have:=h.2 y hy
  lia
 rw[h1,YG (by rw[decide_eq_false (not_not_intro he)]; exact Vm),acn,WK,YF (p:=fun e:Ent=>decide (e.1≠co)) (decide_eq_true (show x.1≠co by lia)),acn]
theorem DW {es:List Ent} {co one:Nat} {pl:Pl} (h:rC es co):rC (es++[(co+1,one,pl)]) (co+2):=rC.snoc ⟨h.1,fun e he=>Wj (h.2 e he)⟩
section
variable {n:Nat} {rs:List Nat}
theorem DX (h:rs.Perm (VD n)):rs.Nodup/\rs.length=n/\(∀ x∈rs,x < n)/\∀ j < n,j∈rs:=⟨h.nodup_iff.mpr List.nodup_range,by rw[h.length_eq,VP],fun x hx=>List.mem_range.mp (h.mem_iff.mp hx),fun j hj=>h.mem_iff.mpr (List.mem_range.mpr hj)⟩
end
def BnR (CS CB:Addr) (n:Nat) (H:Hp) (b be:Addr) (m:Nat) (f:Nat->List Pl):Prop:=∃ (es:List Ent) (co d:Nat),cC CS CB n H b be d (Vn n 0) [] es co/\d<=100+4 * m/\es.length<=m/\rC es co/\∀ j,eF es j=f j
theorem BnR.same {CS CB:Addr} {n:Nat} {H H':Hp} {b be:Addr} {m:Nat} {f:Nat->List Pl} (s:aZ H H') (h:BnR CS CB n H b be m f):BnR CS CB n H' b be m f:=by
 obtain⟨es,co,d,h1,h2⟩:=h
 exact⟨es,co,d,h1.same s,h2⟩
theorem BnR.but {CS CB:Addr} {n:Nat} {H H':Hp} {b be b' be':Addr} {m m':Nat} {f f':Nat->List Pl} (ne:CB≠CS) (x:But b be H H') (h':BnR CS CB n H b be m' f') (h:BnR CS CB n H b' be' m f) (hb:b'≠b) (hl:be'≠be):BnR CS CB n H' b' be' m f:=by
 obtain⟨es,co,d,h1,h2⟩:=h
 obtain⟨_,_,_,k1,_⟩:=h'
 exact⟨es,co,d,cC.but ne x k1 h1 hb hl,h2⟩
theorem BnR.ins {CS CB:Addr} {n:Nat} {H:Hp} {b be:Addr} {m:Nat} {f:Nat->List Pl} (h:BnR CS CB n H b be m f):∃ dx nw ah xs,H b=some (.ins CB dx (bnF nw be ah))/\H be=some (.lst xs):=by
 obtain⟨_,_,_,⟨dx,nw,ah,xs,h1,h2,_⟩,_⟩:=h
 exact⟨dx,nw,ah,xs,h1,h2⟩
theorem BnR.lst {CS CB:Addr} {n:Nat} {H H':Hp} {b be:Addr} {m:Nat} {f:Nat->List Pl} (h:BnR CS CB n H b be m f) (x:But b be H H') {a:Addr} {xs:List V} (ha:H a=some (.lst xs)) (hn:a≠be):H' a=some (.lst xs):=by
 obtain⟨dx,nw,ah,ys,h1,_⟩:=h.ins
 exact x _ _ (fun z=>by rw[z,h1] at ha; cases ha) hn ha
theorem BnR.tup {CS CB:Addr} {n:Nat} {H H':Hp} {b be:Addr} {m:Nat} {f:Nat->List Pl} (h:BnR CS CB n H b be m f) (x:But b be H H'):∀ a xs,H a=some (HO.tup xs)->H' a=some (HO.tup xs):=fun a xs ha=>by
 obtain⟨dx,nw,ah,ys,h1,h2⟩:=h.ins
 exact x _ _ (fun z=>by rw[z,h1] at ha; cases ha) (fun z=>by rw[z,h2] at ha; cases ha) ha
theorem zB {CS CB:Addr} {n:Nat} {H:Hp} {b be p:Addr} {one m:Nat} {pl:Pl} {f:Nat->List Pl} {Q:VK} {E:XK} (h:BnR CS CB n H b be m f) (n12:n<=12) (hone:one < n) (hp:nQ n H p pl) (hx:∀ x∈pl,nn one x.2=true) (m39:m < 40)
  (q:∀ (co:Nat) (H':Hp),But b be H H'->BnR CS CB n H' b be (m+1) (fun j=>f j++if one=j then [pl] else [])->Q (vN co) H'):o6 CS CB [.ref b,vN one,.ref p] H Q E:=by
 obtain⟨es,co,d,h1,h2,h3,h4,h5⟩:=h
 refine⟨b,be,p,one,n,d,co,_,_,es,pl,rfl,h1,VR,n12,hone,by simp,hp,hx,by lia,by lia,fun H' bt hB=>q co H' bt ⟨_,_,_,hB,by lia,by rw[Ve]; show es.length+1<=_; lia,h4.snoc,fun j=>?_⟩⟩
 rw[mL,h5 j]
def rowAt (rows:List (Nat × Pl)) (i:Nat):Nat × Pl:=rows.getD i (0,[])
theorem yt (rows:List (Nat × Pl)):(VD rows.length).map (rowAt rows)=rows:=by
 refine abN fun i=>?_
 by_cases h:i < rows.length
 ·rw[VF,XN h]
  show some (rowAt rows i)=_
  unfold rowAt
  rw[Vi,Vf h]
  rfl
 ·rw[W7 (by rw[Vb,VP]; lia),W7 (by lia)]
theorem Od (ss:List Int):∃ ks:List Int,Ep (ss.map V.int) (some 2) (some 14)=ks.map V.int/\ks.length<=12:=by
 unfold Ep
 rw[show HT.sIx (ss.map V.int).length 0 (some 2)=min 2 (ss.map V.int).length from HT.Gg _ _ 2,show HT.sIx (ss.map V.int).length (ss.map V.int).length (some 14)=min 14 (ss.map V.int).length from HT.Gg _ _ 14]
 refine⟨(ss.drop (min 2 (ss.map V.int).length)).take (min 14 (ss.map V.int).length - min 2 (ss.map V.int).length),by rw[List.map_take,List.map_drop],?_⟩
 rw[Vz]
 lia
theorem Kr (n:Nat):okG n (Vn n (0:Int)):=⟨VR,fun x hx=>by rw[(List.mem_replicate.mp hx).2]; decide⟩
theorem Bg (n i:Nat):(Vn n (0:Int)).getD i 0=0:=by
 rw[Vi,X7]
 split <;> rfl
theorem cC.okB {CS CB:Addr} {n:Nat} {H:Hp} {b be:Addr} {d:Nat} {g:List Int} {go:List Nat} {es:List Ent} {co:Nat} (h:cC CS CB n H b be d g go es co):okB (dg n es):=fun ps hps p hp=>by
 obtain⟨dx,nw,ah,xs,_,_,_,dx2,ga,goa,sa,us,_,_,_,_,hes⟩:=h
 obtain⟨j,_,rfl⟩:=List.mem_map.mp hps
 obtain⟨e,he,rfl⟩:=List.mem_map.mp hp
 exact hes.ok e (List.mem_filter.mp he).1
abbrev Oj:Stmt:=top 79
theorem dG:aO ["_law_script","_law_n","_law_rows","_law_cell_here","_law_one","_law_first","_law_second","_law_third","_law_fourth","_law_gone","_law_pledge_here","_law_order_here","_law_at","_law_other","_law_passing","_law_number"] ["_law_script"] (aD Oj):=⟨rfl,rfl,rfl,by decide+kernel,rfl,by decide+kernel,by decide+kernel⟩
inductive MJ (K:VB) (vs:List V) (H:Hp) (Q:VK):Prop where
 | mk (a:Addr) (ns:List Int) (z0:vs=[.ref a]) (z1:SqL K H a (ns.map V.int)) (z2:ns.length<=63) (z3:∀ H',Q (.bl true) H'):MJ K vs H Q
def Ky (K:VB):Sp:=fun vs H Q _=>MJ K vs H Q
theorem RG {CS CB:Addr} (ne:CB≠CS) (F:Fun K "law" "law" Oj f fd) (B:Bt mg)
  (D_law_draws:Df P w K mg base "_law_draws" 1 ["_law_cell_here","_law_parts"] (qw K)) (D_law_cell:Df P w K mg base "_law_cell" 1 ["_law_script","_law_k"] (Ni K)) (D_law_under:Df P w K mg base "_law_under" 1 ["_law_cell_here","_law_k"] uN) (D_law_pledge:Df P w K mg base "_law_pledge" 6 ["_law_cell_here","_law_n","_law_one","_law_deep","_law_most"] Ce)
  (D_law_come:Df P w K mg base "_law_come" 5 ["_law_n"] (Fo CS CB)) (D_law_order:Df P w K mg base "_law_order" 3 ["_law_cell_here","_law_many"] Jq) (D_law_ends:Df P w K mg base "_law_ends" 16 ["_law_boon_here"] (GF CS CB)) (D_law_same:Df P w K mg base "_law_same" 4 ["_law_found","_law_due"] (pI 4))
  (D_Boon_pledge:Dm2 P w K mg base CB "pledge" 14 ["self","one","pledge"] (o6 CS CB)) (D_Boon_leave:Dm2 P w K mg base CB "leave" 3 ["self","one"] (GJ CS CB)) (D_Boon_change:Dm2 P w K mg base CB "change" 14 ["self","number","pledge"] (Bj CS CB)) (D_Boon_withdraw:Dm2 P w K mg base CB "withdraw" 12 ["self","number"] (sI CS CB)):cG P w K mg base CX0 17 f fd ["_law_script"] (Ky K):=by
 refine F.ok dG (fun vs H Q E h=>?_) (fun cdv A outer s H vs Q E hr h=>?_)
 ·obtain⟨a,ns,rfl,_⟩:=h
  rfl
 ·obtain⟨a,ns0,rfl,hS,lN,q⟩:=h
  refine' ⟨_,?hp,?hz⟩
  case hp =>
   refine' au ?s1 ?r1
   case s1 =>
    exact (aW (i:=0) dG.nd rfl (Vv rfl) (uq (r:=Tf K) Hl (pv 0) HQ (ux aA)))
   case r1 =>
    refine' au ?s2 ?r2
    case s2 =>
     exact (aW (i:=1) dG.nd rfl (Vv rfl) (bf bW aA (bw (r:=iy K) bC (aX D_law_draws hr (aa (aX D_law_cell hr (aa (pv 0) (aa aA aj))) (aa (bR (aa aA aj)) aj))) aA (fun _ _=>rfl))))
    case r2 =>
     refine' au ?s3 ?r3
     case s3 =>
      exact (aW (i:=2) dG.nd rfl (Vv rfl) (bR aj))
     case r3 =>
      refine' au ?s4 ?r4
      case s4 =>
       refine' eZ Wf rfl ?it ?tg ?bd ?hs
       case hs=>intro _; rfl
       case it=>exact (fQ (bf Cp (uq (r:=Tf K) Hl (pv 0) (ux aA) (ux aA)) (bR (aa aA (aa aA aj)))))
       case tg=>exact (aK (i:=3) dG.nd rfl (Vv rfl))
       case bd =>
        refine' au ?s5 ?r5
        case s5 =>
         exact (aW (i:=4) dG.nd rfl (Vv rfl) (bf cW (bw (r:=iy K) bC (aX D_law_draws hr (aa (bf bW (pv 3) aA) (aa (bR (aa aA aj)) aj))) aA (fun _ _=>rfl)) (pv 1)))
        case r5 =>
         refine' aB ?s6
         case s6 =>
          exact (bO (o4 Wr WR WQ cH (pv 2) (aa (bU (aa (pv 4) (aa (aX D_law_pledge hr (aa (aX D_law_under hr (aa (pv 3) (aa aA aj))) (aa (pv 1) (aa (pv 4) (aa aA (aa aA aj)))))) aj))) aj)))
      case r4 =>
       refine' au ?s7 ?r7
       case s7 =>
        exact (aW (i:=5) dG.nd rfl (Vv rfl) (aX D_law_come hr (aa (pv 1) aj)))
       case r7 =>
        refine' au ?s8 ?r8
        case s8 =>
         exact (aW (i:=6) dG.nd rfl (Vv rfl) (aX D_law_come hr (aa (pv 1) aj)))
        case r8 =>
         refine' au ?s9 ?r9
         case s9 =>
          exact (aW (i:=7) dG.nd rfl (Vv rfl) (aX D_law_come hr (aa (pv 1) aj)))
         case r9 =>
          refine' au ?s10 ?r10
          case s10 =>
           exact (aW (i:=8) dG.nd rfl (Vv rfl) (aX D_law_come hr (aa (pv 1) aj)))
          case r10 =>
           refine' au ?s11 ?r11
           case s11 =>
            exact (aW (i:=9) dG.nd rfl (Vv rfl) (bf cW (bw (r:=iy K) bC (aX D_law_draws hr (aa (aX D_law_cell hr (aa (pv 0) (aa aA aj))) (aa (bR (aa aA aj)) aj))) aA (fun _ _=>rfl)) (pv 1)))
           case r11 =>
            refine' au ?s12 ?r12
            case s12 =>
             refine' eZ Wf rfl ?it ?tg ?bd ?hs
             case hs=>intro _; rfl
             case it=>exact (fQ (pv 2))
             case tg=>exact (dM (K:=K) 2 rfl rfl (bB (aK (i:=4) dG.nd rfl (Vv rfl)) (bB (aK (i:=10) dG.nd rfl (Vv rfl)) dI)))
             case bd =>
              refine' au ?s13 ?r13
              case s13 =>
               exact (bO (mZ D_Boon_pledge hr (pv 5) (aa (pv 4) (aa (pv 10) aj))))
              case r13 =>
               refine' au ?s14 ?r14
               case s14 =>
                exact (bO (mZ D_Boon_pledge hr (pv 7) (aa (pv 4) (aa (pv 10) aj))))
               case r14 =>
                refine' aB ?s15
                case s15 =>
                 exact (bG (aL zL (pv 4) (pv 9) (aU _)) (aB (bO (mZ D_Boon_pledge hr (pv 8) (aa (pv 4) (aa (pv 10) aj))))) aR)
            case r12 =>
             refine' au ?s16 ?r16
             case s16 =>
              exact (bO (mZ D_Boon_leave hr (pv 7) (aa (pv 9) aj)))
             case r16 =>
              refine' au ?s17 ?r17
              case s17 =>
               exact (aW (i:=11) dG.nd rfl (Vv rfl) (aX D_law_order hr (aa (bf bW (aX D_law_cell hr (aa (pv 0) (aa aA aj))) aA) (aa (aF (r:=lR K) bx rfl B.len_ cI (aa (pv 2) aj)) aj))))
              case r17 =>
               refine' au ?s18 ?r18
               case s18 =>
                refine' eZ Wf rfl ?it ?tg ?bd ?hs
                case hs=>intro _; rfl
                case it=>exact (fQ (pv 11))
                case tg=>exact (aK (i:=12) dG.nd rfl (Vv rfl))
                case bd =>
                 refine' au ?s19 ?r19
                 case s19 =>
                  exact (Ng (bw (r:=iy K) bC (pv 2) (pv 12) (fun _ _=>rfl)) (dM (K:=K) 2 rfl rfl (bB (aK (i:=4) dG.nd rfl (Vv rfl)) (bB (aK (i:=10) dG.nd rfl (Vv rfl)) dI))))
                 case r19 =>
                  refine' au ?s20 ?r20
                  case s20 =>
                   exact (aW (i:=13) dG.nd rfl (Vv rfl) (bw (r:=iy K) bC (pv 2) (bw (r:=iy K) bC (pv 11) aA (fun _ _=>rfl)) (fun _ _=>rfl)))
                  case r20 =>
                   refine' au ?s21 ?r21
                   case s21 =>
                    exact (aW (i:=14) dG.nd rfl (Vv rfl) (mZ D_Boon_pledge hr (pv 6) (aa (bw (r:=fZ K) bD (pv 13) aA (fun _ _=>rfl)) (aa (bw (r:=fZ K) bD (pv 13) aA (fun _ _=>rfl)) aj))))
                   case r21 =>
                    refine' au ?s22 ?r22
                    case s22 =>
                     exact (aW (i:=15) dG.nd rfl (Vv rfl) (mZ D_Boon_pledge hr (pv 6) (aa (pv 4) (aa (bU (aa (bU (aa aA (aa (bU (aa bM aj)) aj))) aj)) aj))))
                    case r22 =>
                     refine' au ?s23 ?r23
                     case s23 =>
                      exact (bO (mZ D_Boon_change hr (pv 6) (aa (pv 15) (aa (pv 10) aj))))
                     case r23 =>
                      refine' aB ?s24
                      case s24 =>
                       exact (bO (mZ D_Boon_withdraw hr (pv 6) (aa (pv 14) aj)))
               case r18 =>
                refine' au ?s25 ?r25
                case s25 =>
                 exact (bG (gn (dF (aX D_law_same hr (aa (aX D_law_ends hr (aa (pv 6) aj)) (aa (aX D_law_ends hr (aa (pv 5) aj)) aj))))) (aB (aG gZ)) aR)
                case r25 =>
                 refine' aB ?s26
                 case s26 =>
                  exact (aG (aX D_law_same hr (aa (aX D_law_ends hr (aa (pv 7) aj)) (aa (aX D_law_ends hr (aa (pv 8) aj)) aj))))
  case hz =>
  refine aH (fun σ H1=>∃ (p1:Addr) (ss:List Int),σ=[some (.ref p1),none,none,none,none,none,none,none,none,none,none,none,none,none,none,none]/\aZ H H1/\H1 p1=some (.lst (ss.map V.int))/\ss.length<=63) ?q0 ?t0
  case t0 =>
   intro N Rc
   refine⟨_,rfl,_,rfl,a,_,rfl,hS,fun p1 h1=>?_⟩
   obtain⟨ss,es,ls⟩:=KH ns0 none (some 63)
   rw[es]
   exact Rc _ _ ⟨p1,ss,rfl,aC h1 _,aq,by lia⟩
  case q0 =>
  rintro σ H1 ⟨p1,ss,rfl,g1,e1,ls⟩
  refine aH (fun σ H2=>∃ (n:Nat),σ=[some (.ref p1),some (.int (n:Int)),none,none,none,none,none,none,none,none,none,none,none,none,none,none]/\aZ H1 H2/\2<=n/\n<=6) ?q1 ?t1
  case t1 =>
   intro N Rc
   refine⟨_,rfl,p1,ss,0,rfl,SqL.of e1,small (by show 1<=1000; decide),fun p2 h2=>?_⟩
   generalize eH2:upd H1 p2 _=H2
   obtain⟨g2,e2⟩:=aP eH2 h2
   refine⟨_,p2,[5],rfl,SqL.of e2,by decide,by decide,fun p3 h3=>?_⟩
   generalize eH3:upd H2 p3 _=H3
   obtain⟨g3,e3⟩:=aP eH3 h3
   obtain⟨d0,k0,b0⟩:=cu (c:=ni (ss.getD 0 0)) (i:=0) (ps:=[5]) (by decide) rfl
   have a0:=aM (d7 k0)
   refine⟨p3,_,_,_,rfl,rfl,SqL.of e3,a0,_,_,rfl,rfl,Rc _ _ ⟨2+d0.toNat,?_,g2.trans g3,by lia,by lia⟩⟩
   have e:(2:Int)+d0=((2+d0.toNat:Nat):Int):=by lia
   show[some (.ref p1),some (V.int (2+d0)),none,none,none,none,none,none,none,none,none,none,none,none,none,none]=_
   rw[e]
  case q1 =>
  rintro σ H2 ⟨n,rfl,s2,n2,n6⟩
  have e12:=s2 _ _ e1
  refine aH (fun σ H3=>∃ (ra:Addr),σ=[some (.ref p1),some (.int (n:Int)),some (.ref ra),none,none,none,none,none,none,none,none,none,none,none,none,none]/\aZ H2 H3/\H2 ra=none/\H3 ra=some (.lst [])) ?q2 ?t2
  case t2 =>
   intro N Rc
   exact⟨small (by show 0<=1000; decide),fun p hp=>Rc _ _ ⟨p,rfl,aC hp _,hp,aq⟩⟩
  case q2 =>
  rintro σ H3 ⟨ra,rfl,s3,fra,era⟩
  refine aH (fun σ H4=>∃ (us:List V) (rows:List (Nat × Pl)) (u3 u4:Option V),σ=[some (.ref p1),some (.int (n:Int)),some (.ref ra),u3,u4,none,none,none,none,none,none,none,none,none,none,none]/\aZ H2 H4/\H4 ra=some (.lst us)/\eY n H4 us rows/\1<=rows.length/\rows.length<=14) ?q3 ?t3
  case t3 =>
   intro N Rc
   refine⟨_,rfl,_,rfl,_,rfl,p1,_,rfl,SqL.of (s3 _ _ e12),fun p4 h4=>?_⟩
   obtain⟨ks,ek,lk⟩:=Od ss
   rw[ek]
   generalize eH4:upd H3 p4 _=H4
   obtain⟨g4,e4⟩:=aP eH4 h4
   refine⟨small (by show 2<=1000; decide),fun p5 h5=>?_⟩
   generalize eH5:upd H4 p5 _=H5
   obtain⟨g5,e5⟩:=aP eH5 h5
   refine⟨p4,p5,_,_,rfl,rfl,g5 _ _ e4,e5,small (by rw[Vb]; show ks.length+2<=1000; lia),fun p6 h6=>?_⟩
   have ec:ks.map V.int++[V.int 0,V.int 1]=(ks++[0,1]).map V.int:=by rw[Vl]; rfl
   rw[ec]
   generalize eH6:upd H5 p6 _=H6
   obtain⟨g6,e6⟩:=aP eH6 h6
   have s36:=g4.trans (g5.trans g6)
   have r6:p6≠ra:=fun z=>by rw[z,(g4.trans g5) _ _ era] at h6; cases h6
   refine⟨p6,rfl,⟨_,SqL.of e6⟩,iU (K:=K) (a:=p6) (xs:=(ks++[0,1]).map V.int) (fun i σ Hx=>∃ (us:List V) (rows:List (Nat × Pl)) (u3 u4:Option V),σ=[some (.ref p1),some (.int (n:Int)),some (.ref ra),u3,u4,none,none,none,none,none,none,none,none,none,none,none]/\aZ H2 Hx/\Hx p6=some (.lst ((ks++[0,1]).map V.int))/\Hx ra=some (.lst us)/\eY n Hx us rows/\rows.length=i)
    ⟨[],[],_,_,rfl,s3.trans s36,e6,s36 _ _ era,.nil,rfl⟩ (fun i σ Hx _ h=>by obtain⟨_,_,_,_,_,_,z,_⟩:=h; exact SqL.of z) ?_ ?_⟩
   ·rintro i x σ Hx hx ⟨us,rows,u3,u4,rfl,sx,ep,er,rr,lr⟩
    obtain⟨c,hc,rfl⟩:=int_at hx
    have il:=(List.getElem?_eq_some_iff.mp hc).1
    rw[Ve] at il
    have il:i < ks.length+2:=il
    refine gN ?_
    refine aH (fun σ Hy=>∃ (one:Nat),σ=[some (.ref p1),some (.int (n:Int)),some (.ref ra),some (.int c),some (vN one),none,none,none,none,none,none,none,none,none,none,none]/\aZ Hx Hy/\one < n) ?qa ?ta
    case ta =>
     intro N' Rc'
     refine⟨_,rfl,_,_,rfl,rfl,small (by show 1<=1000; decide),fun p7 h7=>?_⟩
     generalize eH7:upd Hx p7 _=H7
     obtain⟨g7,e7⟩:=aP eH7 h7
     refine⟨c+1,p7,[60],rfl,SqL.of e7,by decide,by decide,fun p8 h8=>?_⟩
     generalize eH8:upd H7 p8 _=H8
     obtain⟨g8,e8⟩:=aP eH8 h8
     obtain⟨d0,k0,b0⟩:=cu (c:=ni (c+1)) (i:=0) (ps:=[60]) (by decide) rfl
     have a0:=aM (d7 k0)
     have w1:0<=d0 % (n:Int):=Wg _ (by lia)
     have w2:d0 % (n:Int) < (n:Int):=V5 _ (by lia)
     obtain⟨one,ho⟩:=Xx w1
     refine⟨p8,_,_,_,rfl,rfl,SqL.of e8,a0,_,rfl,_,_,rfl,rfl,(by show (0:Int) < (n:Int); lia),Rc' _ _ ⟨one,?_,g7.trans g8,by lia⟩⟩
     show[some (V.ref p1),some (V.int (n:Int)),some (V.ref ra),some (V.int c),some (V.int (d0 % (n:Int))),none,none,none,none,none,none,none,none,none,none,none]=_
     rw[ho]
     rfl
    case qa =>
    rintro σ Hy ⟨one,rfl,sy,hone⟩
    refine⟨_,rfl,.inl ⟨rfl,_,SqL.of (sy _ _ er)⟩,_,rfl,_,rfl,c,0,rfl,by lia,_,rfl,_,rfl,Qv c 0,n,one,2,3,rfl,by lia,by lia,hone,by decide,by decide,by decide,by decide,fun pa pl H9 s9 rp rm rn=>?_⟩
    refine⟨small (by show 2<=1000; decide),fun pb hb=>?_⟩
    generalize eHb:upd H9 pb _=Hb
    obtain⟨gb,eb⟩:=aP eHb hb
    have sxb:=sy.trans (s9.trans gb)
    have tk:=cj (zs':=us++[.ref pb]) (sxb _ _ er)
    have lus:=rr.length
    refine⟨ra,_,_,rfl,rfl,sxb _ _ er,aJ (by lia),us++[.ref pb],rows++[(one,pl)],_,_,rfl,aQ (sx.trans sxb) fra _,by rw[bh r6]; exact sxb _ _ ep,aq,?_,by rw[Ve,lr]; rfl⟩
    exact eY.snoc (tk _ _ eb) ((rp.aV fun a ys q=>gb a _ q).aV tk) hone rn ((rr.aV fun a ys q=>sxb a _ q).aV tk)
   ·rintro σ Hx ⟨us,rows,u3,u4,rfl,sx,ep,er,rr,lr⟩
    rw[Vb,Ve] at lr
    have lr:rows.length=ks.length+2:=lr
    exact Rc _ _ ⟨us,rows,_,_,rfl,sx,er,rr,by lia,by lia⟩
  case q3 =>
  rintro σ H4 ⟨us,rows,u3,u4,rfl,s24,era4,rr4,lr1,lr14⟩
  have lus:=rr4.length
  have e14:=s24 _ _ e12
  clear era s3 H3
  refine aH (fun σ H5=>∃ (b1 be1:Addr),σ=[some (.ref p1),some (.int (n:Int)),some (.ref ra),u3,u4,some (.ref b1),none,none,none,none,none,none,none,none,none,none]/\aZ H4 H5/\H4 b1=none/\H4 be1=none/\BnR CS CB n H5 b1 be1 0 (fun _=>[])) ?qb1 ?tb1
  case tb1 =>
   intro N Rc
   exact⟨_,rfl,n,rfl,by lia,by lia,fun b be H' s' f1 f2 hB=>Rc _ _ ⟨b,be,rfl,s',f1,f2,[],0,n,hB n,by lia,Vg _,⟨Yr,fun e he=>by cases he⟩,fun j=>rfl⟩⟩
  case qb1 =>
  rintro σ H5 ⟨b1,be1,rfl,s5,fb1,fe1,h1⟩
  refine aH (fun σ H6=>∃ (b2 be2:Addr),σ=[some (.ref p1),some (.int (n:Int)),some (.ref ra),u3,u4,some (.ref b1),some (.ref b2),none,none,none,none,none,none,none,none,none]/\aZ H5 H6/\H5 b2=none/\H5 be2=none/\BnR CS CB n H6 b2 be2 0 (fun _=>[])) ?qb2 ?tb2
  case tb2 =>
   intro N Rc
   exact⟨_,rfl,n,rfl,by lia,by lia,fun b be H' s' f1 f2 hB=>Rc _ _ ⟨b,be,rfl,s',f1,f2,[],0,n,hB n,by lia,Vg _,⟨Yr,fun e he=>by cases he⟩,fun j=>rfl⟩⟩
  case qb2 =>
  rintro σ H6 ⟨b2,be2,rfl,s6,fb2,fe2,h2⟩
  refine aH (fun σ H7=>∃ (b3 be3:Addr),σ=[some (.ref p1),some (.int (n:Int)),some (.ref ra),u3,u4,some (.ref b1),some (.ref b2),some (.ref b3),none,none,none,none,none,none,none,none]/\aZ H6 H7/\H6 b3=none/\H6 be3=none/\BnR CS CB n H7 b3 be3 0 (fun _=>[])) ?qb3 ?tb3
  case tb3 =>
   intro N Rc
   exact⟨_,rfl,n,rfl,by lia,by lia,fun b be H' s' f1 f2 hB=>Rc _ _ ⟨b,be,rfl,s',f1,f2,[],0,n,hB n,by lia,Vg _,⟨Yr,fun e he=>by cases he⟩,fun j=>rfl⟩⟩
  case qb3 =>
  rintro σ H7 ⟨b3,be3,rfl,s7,fb3,fe3,h3⟩
  refine aH (fun σ H8=>∃ (b4 be4:Addr),σ=[some (.ref p1),some (.int (n:Int)),some (.ref ra),u3,u4,some (.ref b1),some (.ref b2),some (.ref b3),some (.ref b4),none,none,none,none,none,none,none]/\aZ H7 H8/\H7 b4=none/\H7 be4=none/\BnR CS CB n H8 b4 be4 0 (fun _=>[])) ?qb4 ?tb4
  case tb4 =>
   intro N Rc
   exact⟨_,rfl,n,rfl,by lia,by lia,fun b be H' s' f1 f2 hB=>Rc _ _ ⟨b,be,rfl,s',f1,f2,[],0,n,hB n,by lia,Vg _,⟨Yr,fun e he=>by cases he⟩,fun j=>rfl⟩⟩
  case qb4 =>
  rintro σ H8 ⟨b4,be4,rfl,s8,fb4,fe4,h4⟩
  have s58:=s6.trans (s7.trans s8)
  have s68:=s7.trans s8
  have s48:=s5.trans s58
  have q1:=h1.same s58
  have q2:=h2.same s68
  have q3:=h3.same s8
  have q4:=h4
  have nb:∀ {Ha Hb:Hp} {b be x xe:Addr} {m:Nat} {f:Nat->List Pl},BnR CS CB n Ha b be m f->Ha x=none->Ha xe=none->x≠b/\xe≠be/\b≠x/\be≠xe:=fun {Ha Hb b be x xe m f} h hx hxe=>by
   obtain⟨dx,nw,ah,xs,i1,i2⟩:=h.ins
   have a1:x≠b:=fun z=>by rw[z,i1] at hx; cases hx
   have a2:xe≠be:=fun z=>by rw[z,i2] at hxe; cases hxe
   exact⟨a1,a2,a1.symm,a2.symm⟩
  have n12:=nb (Hb:=H5) h1 fb2 fe2
  have n13:=nb (Hb:=H5) (h1.same s6) fb3 fe3
  have n14:=nb (Hb:=H5) (h1.same (s6.trans s7)) fb4 fe4
  have n23:=nb (Hb:=H5) h2 fb3 fe3
  have n24:=nb (Hb:=H5) (h2.same s7) fb4 fe4
  have n34:=nb (Hb:=H5) h3 fb4 fe4
  have old:∀ {Ha:Hp} {x a:Addr} {o:HO},Ha x=none->Ha a=some o->a≠x:=fun {Ha x a o} h1 h2 z=>by rw[z,h1] at h2; cases h2
  have era8:=s48 _ _ era4
  have e18:=s48 _ _ e14
  have rr8:=rr4.aV fun a ys q=>s48 a _ q
  have ne1:=old fe1 era4
  have ne2:=old fe2 (s5 _ _ era4)
  have ne3:=old fe3 ((s5.trans s6) _ _ era4)
  have ne4:=old fe4 ((s5.trans (s6.trans s7)) _ _ era4)
  have pe1:=old fe1 e14
  have pe2:=old fe2 (s5 _ _ e14)
  have pe3:=old fe3 ((s5.trans s6) _ _ e14)
  have pe4:=old fe4 ((s5.trans (s6.trans s7)) _ _ e14)
  have n126:n<=12:=by lia
  clear s5 s6 s7 s8 s58 s68 s48 fb1 fb2 fb3 fb4 fe1 fe2 fe3 fe4 h1 h2 h3 h4 rr4 era4 e14 nb old
  refine aH (fun σ H9=>∃ (gone:Nat),σ=[some (.ref p1),some (.int (n:Int)),some (.ref ra),u3,u4,some (.ref b1),some (.ref b2),some (.ref b3),some (.ref b4),some (vN gone),none,none,none,none,none,none]/\aZ H8 H9/\gone < n) ?qg ?tg
  case tg =>
   intro N Rc
   refine⟨_,rfl,p1,ss,1,rfl,SqL.of e18,small (by show 1<=1000; decide),fun p2 h2=>?_⟩
   generalize eHa:upd H8 p2 _=Ha
   obtain⟨ga,ea⟩:=aP eHa h2
   refine⟨_,p2,[60],rfl,SqL.of ea,by decide,by decide,fun p3 h3=>?_⟩
   generalize eHb:upd Ha p3 _=Hb
   obtain⟨gb,eb⟩:=aP eHb h3
   obtain⟨d0,k0,b0⟩:=cu (c:=ni (ss.getD 1 0)) (i:=0) (ps:=[60]) (by decide) rfl
   have a0:=aM (d7 k0)
   have w1:0<=d0 % (n:Int):=Wg _ (by lia)
   have w2:d0 % (n:Int) < (n:Int):=V5 _ (by lia)
   obtain⟨gone,ho⟩:=Xx w1
   refine⟨p3,_,_,_,rfl,rfl,SqL.of eb,a0,_,rfl,_,_,rfl,rfl,(by show (0:Int) < (n:Int); lia),Rc _ _ ⟨gone,?_,ga.trans gb,by lia⟩⟩
   show[some (V.ref p1),some (V.int (n:Int)),some (V.ref ra),u3,u4,some (V.ref b1),some (V.ref b2),some (V.ref b3),some (V.ref b4),some (V.int (d0 % (n:Int))),none,none,none,none,none,none]=_
   rw[ho]
   rfl
  case qg =>
  rintro σ H9 ⟨gone,rfl,s9,hgone⟩
  refine aH (fun σ Hx=>∃ (u3 u4 u10:Option V),σ=[some (.ref p1),some (.int (n:Int)),some (.ref ra),u3,u4,some (.ref b1),some (.ref b2),some (.ref b3),some (.ref b4),some (vN gone),u10,none,none,none,none,none]/\Hx p1=some (.lst (ss.map V.int))/\Hx ra=some (.lst us)/\eY n Hx us rows/\BnR CS CB n Hx b1 be1 rows.length (ofR rows)/\BnR CS CB n Hx b2 be2 0 (fun _=>[])/\BnR CS CB n Hx b3 be3 rows.length (ofR rows)/\BnR CS CB n Hx b4 be4 rows.length (fun j=>if j=gone then [] else ofR rows j)) ?ql ?tl
  case tl =>
   intro N Rc
   refine⟨_,rfl,ra,rfl,⟨_,SqL.of (s9 _ _ era8)⟩,iU (K:=K) (a:=ra) (xs:=us) (fun i σ Hx=>∃ (u3 u4 u10:Option V),σ=[some (.ref p1),some (.int (n:Int)),some (.ref ra),u3,u4,some (.ref b1),some (.ref b2),some (.ref b3),some (.ref b4),some (vN gone),u10,none,none,none,none,none]/\Hx p1=some (.lst (ss.map V.int))/\Hx ra=some (.lst us)/\eY n Hx us rows/\BnR CS CB n Hx b1 be1 i (ofR (rows.take i))/\BnR CS CB n Hx b2 be2 0 (fun _=>[])/\BnR CS CB n Hx b3 be3 i (ofR (rows.take i))/\BnR CS CB n Hx b4 be4 i (fun j=>if j=gone then [] else ofR (rows.take i) j))
    ⟨_,_,_,rfl,s9 _ _ e18,s9 _ _ era8,rr8.aV (fun a ys q=>s9 a _ q),q1.same s9,q2.same s9,q3.same s9,?_⟩ (fun i σ Hx _ h=>by obtain⟨_,_,_,_,_,z,_⟩:=h; exact SqL.of z) ?_ ?_⟩
   ·obtain⟨es,co,d,z1,z2,z3,z4,z5⟩:=q4.same s9
    refine⟨es,co,d,z1,z2,z3,z4,fun j=>?_⟩
    rw[z5]
    show[]=if j=gone then [] else []
    split <;> rfl
   ·rintro i x σ Hx hx ⟨u3,u4,u10,rfl,ep,er,rr,r1,r2,r3,r4⟩
    obtain⟨e,p,one,pl,rfl,hrow,hent,hpr,hone,hnn⟩:=rr.get hx
    have il:=(List.getElem?_eq_some_iff.mp hrow).1
    have nxt:∀ j,ofR (rows.take (i+1)) j=ofR (rows.take i) j++if one=j then [pl] else []:=fun j=>by
     rw[V1,hrow]
     exact BJ
    refine⟨e,_,rfl,SqT.of hent,rfl,_,_,rfl,_,_,rfl,rfl,?_⟩
    refine aH (fun σ Ha=>σ=[some (.ref p1),some (.int (n:Int)),some (.ref ra),u3,some (vN one),some (.ref b1),some (.ref b2),some (.ref b3),some (.ref b4),some (vN gone),some (.ref p),none,none,none,none,none]/\Ha p1=some (.lst (ss.map V.int))/\Ha ra=some (.lst us)/\eY n Ha us rows/\nQ n Ha p pl/\BnR CS CB n Ha b1 be1 (i+1) (ofR (rows.take (i+1)))/\BnR CS CB n Ha b2 be2 0 (fun _=>[])/\BnR CS CB n Ha b3 be3 i (ofR (rows.take i))/\BnR CS CB n Ha b4 be4 i (fun j=>if j=gone then [] else ofR (rows.take i) j)) ?qc ?tc
    case tc =>
     intro N' Rc'
     obtain⟨dx,nw,ah,xs,i1,i2⟩:=r1.ins
     refine⟨_,rfl,b1,dx,_,rfl,i1,rfl,_,rfl,_,rfl,?_⟩
     dsimp only [CT]
     refine zB r1 n126 hone hpr hnn (by lia) fun co Ha bt r1'=>?_
     have tp:=r1.tup bt
     refine Rc' _ _ ⟨rfl,r1.lst bt ep pe1,r1.lst bt er ne1,rr.aV tp,hpr.aV tp,?_,BnR.but ne bt r1 r2 n12.1 n12.2.1,BnR.but ne bt r1 r3 n13.1 n13.2.1,BnR.but ne bt r1 r4 n14.1 n14.2.1⟩
     rw[show ofR (rows.take (i+1))=fun j=>ofR (rows.take i) j++if one=j then [pl] else [] from funext nxt]
     exact r1'
    case qc =>
    clear ep er rr hent hpr r1 r2 r3 r4 hx
    rintro σ Ha ⟨rfl,ep,er,rr,hpr,r1,r2,r3,r4⟩
    refine aH (fun σ Hb=>σ=[some (.ref p1),some (.int (n:Int)),some (.ref ra),u3,some (vN one),some (.ref b1),some (.ref b2),some (.ref b3),some (.ref b4),some (vN gone),some (.ref p),none,none,none,none,none]/\Hb p1=some (.lst (ss.map V.int))/\Hb ra=some (.lst us)/\eY n Hb us rows/\nQ n Hb p pl/\BnR CS CB n Hb b1 be1 (i+1) (ofR (rows.take (i+1)))/\BnR CS CB n Hb b2 be2 0 (fun _=>[])/\BnR CS CB n Hb b3 be3 (i+1) (ofR (rows.take (i+1)))/\BnR CS CB n Hb b4 be4 i (fun j=>if j=gone then [] else ofR (rows.take i) j)) ?qd ?td
    case td =>
     intro N' Rc'
     obtain⟨dx,nw,ah,xs,i1,i2⟩:=r3.ins
     refine⟨_,rfl,b3,dx,_,rfl,i1,rfl,_,rfl,_,rfl,?_⟩
     dsimp only [CT]
     refine zB r3 n126 hone hpr hnn (by lia) fun co Hb bt r3'=>?_
     have tp:=r3.tup bt
     refine Rc' _ _ ⟨rfl,r3.lst bt ep pe3,r3.lst bt er ne3,rr.aV tp,hpr.aV tp,BnR.but ne bt r3 r1 n13.2.2.1 n13.2.2.2,BnR.but ne bt r3 r2 n23.2.2.1 n23.2.2.2,?_,BnR.but ne bt r3 r4 n34.1 n34.2.1⟩
     rw[show ofR (rows.take (i+1))=fun j=>ofR (rows.take i) j++if one=j then [pl] else [] from funext nxt]
     exact r3'
    case qd =>
    clear ep er rr hpr r1 r2 r3 r4
    rintro σ Hb ⟨rfl,ep,er,rr,hpr,r1,r2,r3,r4⟩
    refine⟨_,rfl,_,rfl,rfl,_,rfl,?_⟩
    by_cases z:one=gone
    ·rw[show decide (vN one=vN gone)=true from decide_eq_true (by rw[z])]
     show if (!true)=true then _ else _
     refine cX ⟨_,_,_,rfl,ep,er,rr,r1,r2,r3,?_⟩
     obtain⟨es,co,d,z1,z2,z3,z4,z5⟩:=r4
     refine⟨es,co,d,z1,by lia,by lia,z4,fun j=>?_⟩
     rw[z5]
     dsimp only
     by_cases y:j=gone
     ·rw[if_pos y,if_pos y]
     ·rw[if_neg y,if_neg y,nxt,if_neg (show ¬ one=j from fun x=>y (by rw[← x,z])),WK]
    ·rw[show decide (vN one=vN gone)=false from decide_eq_false fun y=>z (by injection y with y; lia)]
     show if (!false)=true then _ else _
     obtain⟨dx,nw,ah,xs,i1,i2⟩:=r4.ins
     refine fX ⟨_,rfl,b4,dx,_,rfl,i1,rfl,_,rfl,_,rfl,?_⟩
     dsimp only [CT]
     refine zB r4 n126 hone hpr hnn (by lia) fun co Hc bt r4'=>?_
     have tp:=r4.tup bt
     refine⟨_,_,_,rfl,r4.lst bt ep pe4,r4.lst bt er ne4,rr.aV tp,BnR.but ne bt r4 r1 n14.2.2.1 n14.2.2.2,BnR.but ne bt r4 r2 n24.2.2.1 n24.2.2.2,BnR.but ne bt r4 r3 n34.2.2.1 n34.2.2.2,?_⟩
     obtain⟨es,co,d,z1,z2,z3,z4,z5⟩:=r4'
     refine⟨es,co,d,z1,z2,z3,z4,fun j=>?_⟩
     rw[z5]
     dsimp only
     by_cases y:j=gone
     ·rw[if_pos y,if_pos y,if_neg (show ¬ one=j from fun x=>z (by rw[x,y])),WK]
     ·rw[if_neg y,if_neg y,nxt]
   ·rintro σ Hx ⟨u3,u4,u10,rfl,ep,er,rr,r1,r2,r3,r4⟩
    rw[lus,Vw] at r1 r3 r4
    exact Rc _ _ ⟨_,_,_,rfl,ep,er,rr,r1,r2,r3,r4⟩
  case ql =>
  clear q1 q2 q3 q4 rr8 era8 e18 s9
  rintro σ Hx ⟨u3,u4,u10,rfl,ep,er,rr,r1,r2,r3,r4⟩
  refine aH (fun σ Hy=>σ=[some (.ref p1),some (.int (n:Int)),some (.ref ra),u3,u4,some (.ref b1),some (.ref b2),some (.ref b3),some (.ref b4),some (vN gone),u10,none,none,none,none,none]/\Hy p1=some (.lst (ss.map V.int))/\Hy ra=some (.lst us)/\eY n Hy us rows/\BnR CS CB n Hy b1 be1 rows.length (ofR rows)/\BnR CS CB n Hy b2 be2 0 (fun _=>[])/\(∃ (es:List Ent) (co d:Nat) (go:List Nat),cC CS CB n Hy b3 be3 d (Vn n 0) go es co/\es.length<=40/\∀ j,eF es j=if j=gone then [] else ofR rows j)/\BnR CS CB n Hy b4 be4 rows.length (fun j=>if j=gone then [] else ofR rows j)) ?qe ?te
  case te =>
   intro N Rc
   obtain⟨es,co,d,z1,z2,z3,z4,z5⟩:=id r3
   obtain⟨dx,nw,ah,xs,i1,i2⟩:=r3.ins
   refine⟨_,rfl,b3,dx,_,rfl,i1,rfl,_,rfl,b3,be3,gone,n,d,co,_,_,es,rfl,z1,by rw[VR]; exact hgone,by simp,by simp,by lia,by lia,fun Hy bt hB=>?_⟩
   have tp:=r3.tup bt
   refine Rc _ _ ⟨rfl,r3.lst bt ep pe3,r3.lst bt er ne3,rr.aV tp,BnR.but ne bt r3 r1 n13.2.2.1 n13.2.2.2,BnR.but ne bt r3 r2 n23.2.2.1 n23.2.2.2,⟨_,_,_,_,hB,?_,fun j=>?_⟩,BnR.but ne bt r3 r4 n34.1 n34.2.1⟩
   ·have:=WW (fun e:Ent=>decide (e.2.1≠gone)) es
    lia
   ·rw[xR,z5]
  case qe =>
  clear ep er rr r1 r2 r3 r4
  rintro σ Hy ⟨rfl,ep,er,rr,r1,r2,r3,r4⟩
  refine aH (fun σ Hz=>∃ (oa:Addr) (od:List Nat),σ=[some (.ref p1),some (.int (n:Int)),some (.ref ra),u3,u4,some (.ref b1),some (.ref b2),some (.ref b3),some (.ref b4),some (vN gone),u10,some (.ref oa),none,none,none,none]/\aZ Hy Hz/\Hy oa=none/\od.Perm (VD rows.length)/\Hz oa=some (.lst (od.map vN))) ?qo ?to
  case to =>
   intro N Rc
   refine⟨_,rfl,p1,ss,1,rfl,SqL.of ep,_,_,rfl,rfl,_,rfl,ra,_,rfl,.inl (SqL.of er),?_⟩
   dsimp only [CT]
   rw[lus]
   exact⟨_,rows.length,rfl,by lia,by lia,fun r rs Hz sz fr pm er'=>Rc _ _ ⟨r,rs,rfl,sz,fr,pm,er'⟩⟩
  case qo =>
  rintro σ Hz ⟨oa,od,rfl,sz,foa,pm,eoa⟩
  obtain⟨odn,odl,odv,odm⟩:=DX pm
  have oe2:oa≠be2:=fun z=>by
   obtain⟨_,_,_,xs,_,i2⟩:=r2.ins
   rw[z,i2] at foa
   cases foa
  have rr':=rr.aV fun a ys q=>sz a _ q
  have keep3:∀ {Ha Hb:Hp} {m:Nat} {f:Nat->List Pl},BnR CS CB n Ha b2 be2 m f->But b2 be2 Ha Hb->(∃ (es:List Ent) (co d:Nat) (go:List Nat),cC CS CB n Ha b3 be3 d (Vn n 0) go es co/\es.length<=40/\∀ j,eF es j=if j=gone then [] else ofR rows j)->∃ (es:List Ent) (co d:Nat) (go:List Nat),cC CS CB n Hb b3 be3 d (Vn n 0) go es co/\es.length<=40/\∀ j,eF es j=if j=gone then [] else ofR rows j:=fun {Ha Hb m f} h bt z=>by
   obtain⟨es,co,d,go,z1,z2⟩:=z
   obtain⟨_,_,_,k1,_⟩:=h
   exact⟨es,co,d,go,cC.but ne bt k1 z1 n23.1 n23.2.1,z2⟩
  refine aH (fun σ Hw=>(∃ (u4 u10 u12 u13 u14 u15:Option V),σ=[some (.ref p1),some (.int (n:Int)),some (.ref ra),u3,u4,some (.ref b1),some (.ref b2),some (.ref b3),some (.ref b4),some (vN gone),u10,some (.ref oa),u12,u13,u14,u15])/\BnR CS CB n Hw b1 be1 rows.length (ofR rows)/\BnR CS CB n Hw b2 be2 rows.length (ofR (od.map (rowAt rows)))/\(∃ (es:List Ent) (co d:Nat) (go:List Nat),cC CS CB n Hw b3 be3 d (Vn n 0) go es co/\es.length<=40/\∀ j,eF es j=if j=gone then [] else ofR rows j)/\BnR CS CB n Hw b4 be4 rows.length (fun j=>if j=gone then [] else ofR rows j)) ?qp ?tp
  case tp =>
   intro N Rc
   refine⟨_,rfl,oa,rfl,⟨_,SqL.of eoa⟩,iU (K:=K) (a:=oa) (xs:=od.map vN) (fun i σ Hw=>(∃ (u4 u10 u12 u13 u14 u15:Option V),σ=[some (.ref p1),some (.int (n:Int)),some (.ref ra),u3,u4,some (.ref b1),some (.ref b2),some (.ref b3),some (.ref b4),some (vN gone),u10,some (.ref oa),u12,u13,u14,u15])/\Hw oa=some (.lst (od.map vN))/\Hw ra=some (.lst us)/\eY n Hw us rows/\BnR CS CB n Hw b1 be1 rows.length (ofR rows)/\BnR CS CB n Hw b2 be2 i (ofR ((od.take i).map (rowAt rows)))/\(∃ (es:List Ent) (co d:Nat) (go:List Nat),cC CS CB n Hw b3 be3 d (Vn n 0) go es co/\es.length<=40/\∀ j,eF es j=if j=gone then [] else ofR rows j)/\BnR CS CB n Hw b4 be4 rows.length (fun j=>if j=gone then [] else ofR rows j))
    ⟨⟨_,_,_,_,_,_,rfl⟩,eoa,sz _ _ er,rr',r1.same sz,?_,?_,r4.same sz⟩ (fun i σ Hw _ h=>SqL.of h.2.1) ?_ ?_⟩
   ·rw[Wk]
    exact r2.same sz
   ·obtain⟨es,co,d,go,z1,z2⟩:=r3
    exact⟨es,co,d,go,z1.same sz,z2⟩
   ·clear eoa er rr rr' r1 r2 r3 r4 ep
    rintro i x σ Hw hx ⟨⟨u4,u10,u12,u13,u14,u15,rfl⟩,eo,er,rr,r1,r2,r3,r4⟩
    obtain⟨k,hk,rfl⟩:=ug hx
    have hkr:=odv k (Wd hk)
    have il:=(List.getElem?_eq_some_iff.mp hk).1
    have hu:us[k]? = some us[k]:=Vf (by lia)
    obtain⟨e,p,one,pl,eu,hrow,hent,hpr,hone,hnn⟩:=rr.get hu
    have atk:atI us (k:Int)=some (.ref e):=by rw[← eu]; exact gQ hu
    obtain⟨k0,hk0⟩:∃ k0,od[0]? = some k0:=⟨_,Vf (by lia)⟩
    have hk0r:=odv k0 (Wd hk0)
    have hu0:us[k0]? = some us[k0]:=Vf (by lia)
    obtain⟨e0,p0,one0,pl0,eu0,hrow0,hent0,hpr0,hone0,hnn0⟩:=rr.get hu0
    have atk0:atI us (k0:Int)=some (.ref e0):=by rw[← eu0]; exact gQ hu0
    have ato:atI (od.map vN) 0=some (vN k0):=gQ (j:=0) (by rw[VF,hk0]; rfl)
    have erow:rowAt rows k=(one,pl):=by
     unfold rowAt
     rw[Vi,hrow]
     rfl
    have nxt:∀ j,ofR ((od.take (i+1)).map (rowAt rows)) j=ofR ((od.take i).map (rowAt rows)) j++if one=j then [pl] else []:=fun j=>by
     rw[V1,hk,Vl]
     show ofR (_++[rowAt rows k]) j=_
     rw[erow]
     exact BJ
    refine gN ?_
    refine aH (fun σ Ha=>σ=[some (.ref p1),some (.int (n:Int)),some (.ref ra),u3,some (vN one),some (.ref b1),some (.ref b2),some (.ref b3),some (.ref b4),some (vN gone),some (.ref p),some (.ref oa),some (vN k),u13,u14,u15]/\Ha=Hw) ?qa ?ta
    case ta =>
     intro N' Rc'
     exact⟨_,rfl,_,rfl,ra,_,_,_,rfl,rfl,SqL.of er,atk,e,_,rfl,SqT.of hent,rfl,_,_,rfl,_,_,rfl,rfl,Rc' _ _ ⟨rfl,rfl⟩⟩
    case qa =>
    rintro σ Ha ⟨rfl,rfl⟩
    refine aH (fun σ Hb=>σ=[some (.ref p1),some (.int (n:Int)),some (.ref ra),u3,some (vN one),some (.ref b1),some (.ref b2),some (.ref b3),some (.ref b4),some (vN gone),some (.ref p),some (.ref oa),some (vN k),some (.ref e0),u14,u15]/\Hb=Ha) ?qb ?tb
    case tb =>
     intro N' Rc'
     exact⟨_,rfl,_,rfl,oa,_,_,_,rfl,rfl,SqL.of eo,ato,ra,_,_,_,rfl,rfl,SqL.of er,atk0,Rc' _ _ ⟨rfl,rfl⟩⟩
    case qb =>
    rintro σ Hb ⟨rfl,rfl⟩
    obtain⟨es,co,d,z1,z2,z3,z4,z5⟩:=id r2
    obtain⟨dx,nw,ah,xs,i1,i2⟩:=r2.ins
    refine aH (fun σ Hc=>σ=[some (.ref p1),some (.int (n:Int)),some (.ref ra),u3,some (vN one),some (.ref b1),some (.ref b2),some (.ref b3),some (.ref b4),some (vN gone),some (.ref p),some (.ref oa),some (vN k),some (.ref e0),some (vN co),u15]/\But b2 be2 Hb Hc/\cC CS CB n Hc b2 be2 (d+1) (Vn n 0) [] (es++[(co,one0,pl0)]) (co+1)) ?qc ?tc
    case tc =>
     intro N' Rc'
     refine⟨_,rfl,b2,dx,_,rfl,i1,rfl,_,rfl,e0,_,_,_,rfl,rfl,SqT.of hent0,rfl,_,rfl,e0,_,_,_,rfl,rfl,SqT.of hent0,rfl,b2,be2,p0,one0,n,d,co,_,_,es,pl0,rfl,z1,VR,n126,hone0,by simp,hpr0,hnn0,by lia,by lia,fun Hc bt hB=>Rc' _ _ ⟨rfl,bt,hB⟩⟩
    case qc =>
    rintro σ Hc ⟨rfl,btc,hBc⟩
    have rc:BnR CS CB n Hc b2 be2 (i+1) (eF (es++[(co,one0,pl0)])):=⟨_,_,_,hBc,by lia,by rw[Ve]; show es.length+1<=_; lia,z4.snoc,fun j=>rfl⟩
    obtain⟨dx',nw',ah',xs',i1',i2'⟩:=rc.ins
    refine aH (fun σ Hd=>σ=[some (.ref p1),some (.int (n:Int)),some (.ref ra),u3,some (vN one),some (.ref b1),some (.ref b2),some (.ref b3),some (.ref b4),some (vN gone),some (.ref p),some (.ref oa),some (vN k),some (.ref e0),some (vN co),some (vN (co+1))]/\But b2 be2 Hc Hd/\cC CS CB n Hd b2 be2 (d+2) (Vn n 0) [] (es++[(co,one0,pl0)]++[(co+1,one,[(9,.free)])]) (co+2)) ?qd ?td
    case td =>
     intro N' Rc'
     refine⟨_,rfl,b2,dx',_,rfl,i1',rfl,_,rfl,small (by show 1<=1000; decide),fun f1 hf1=>?_⟩
     generalize eF1:upd Hc f1 _=F1
     obtain⟨gf1,ef1⟩:=aP eF1 hf1
     refine⟨small (by show 2<=1000; decide),fun f2 hf2=>?_⟩
     generalize eF2:upd F1 f2 _=F2
     obtain⟨gf2,ef2⟩:=aP eF2 hf2
     refine⟨small (by show 1<=1000; decide),fun f3 hf3=>?_⟩
     generalize eF3:upd F2 f3 _=F3
     obtain⟨gf3,ef3⟩:=aP eF3 hf3
     have sc3:=gf1.trans (gf2.trans gf3)
     have hfree:nQ n F3 f3 [(9,.free)]:=⟨⟨by simp,by show 1<=9; decide,by simp,fun x hx=>by rw[List.mem_singleton.mp hx]; exact⟨by decide,by decide,by show Tm.free.dep<=4; decide⟩⟩,_,ef3,.cons (gf3 _ _ ef2) (.free (gf3 _ _ (gf2 _ _ ef1))) .nil⟩
     refine⟨b2,be2,f3,one,n,d+1,co+1,_,_,_,_,rfl,hBc.same sc3,VR,n126,hone,by simp,hfree,fun x hx=>by rw[List.mem_singleton.mp hx]; simp [nn],by rw[Ve]; show es.length+1 < 40; lia,by lia,fun Hd bt hB=>Rc' _ _ ⟨rfl,(O9 sc3).trans bt,hB⟩⟩
    case qd =>
    rintro σ Hd ⟨rfl,btd,hBd⟩
    have z4':rC (es++[(co,one0,pl0)]) (co+1):=z4.snoc
    have rd:BnR CS CB n Hd b2 be2 (i+2) (eF (es++[(co,one0,pl0)]++[(co+1,one,[(9,.free)])])):=⟨_,_,_,hBd,by lia,by rw[Ve,Ve]; show es.length+1+1<=_; lia,z4'.snoc,fun j=>rfl⟩
    obtain⟨dd,nwd,ahd,xsd,id1,id2⟩:=rd.ins
    have tpd:∀ a ys,Hb a=some (HO.tup ys)->Hd a=some (HO.tup ys):=fun a ys q=>rc.tup btd a ys (r2.tup btc a ys q)
    refine aH (fun σ He=>σ=[some (.ref p1),some (.int (n:Int)),some (.ref ra),u3,some (vN one),some (.ref b1),some (.ref b2),some (.ref b3),some (.ref b4),some (vN gone),some (.ref p),some (.ref oa),some (vN k),some (.ref e0),some (vN co),some (vN (co+1))]/\But b2 be2 Hd He/\cC CS CB n He b2 be2 (d+3) (Vn n 0) [] (es++[(co,one0,pl0)]++[(co+1,one,pl)]) (co+2)) ?qe ?te
    case te =>
     intro N' Rc'
     refine⟨_,rfl,b2,dd,_,rfl,id1,rfl,_,rfl,_,rfl,b2,be2,p,co+1,one,n,d+2,co+2,_,_,_,pl,[(9,.free)],rfl,hBd,VR,n126,hone,Bg n one,by lia,by simp,(z4'.snoc (one:=one) (pl:=[(9,.free)])).1,hpr.aV tpd,hnn,by rw[Ve,Ve]; show es.length+1+1<=40; lia,by lia,fun He bt hB=>Rc' _ _ ⟨rfl,bt,?_⟩⟩
     rw[Ka z4 rfl] at hB
     exact hB
    case qe =>
    rintro σ He ⟨rfl,bte,hBe⟩
    have re:BnR CS CB n He b2 be2 (i+2) (eF (es++[(co,one0,pl0)]++[(co+1,one,pl)])):=⟨_,_,_,hBe,by lia,by rw[Ve,Ve]; show es.length+1+1<=_; lia,z4'.snoc,fun j=>rfl⟩
    obtain⟨de,nwe,ahe,xse,ie1,ie2⟩:=re.ins
    refine⟨_,rfl,b2,de,_,rfl,ie1,rfl,_,rfl,b2,be2,co,one0,n,d+3,co+2,_,_,_,pl0,rfl,hBe,VR,hone0,Bg n one0,by lia,by simp,(z4'.snoc (one:=one) (pl:=pl)).1,by rw[Ve,Ve]; show es.length+1+1<=40; lia,by lia,fun Hf btf hBf=>?_⟩
    rw[Sd z4 rfl rfl] at hBf
    have all:But b2 be2 Hb Hf:=btc.trans (btd.trans (bte.trans btf))
    refine⟨⟨_,_,_,_,_,_,rfl⟩,r2.lst all eo oe2,r2.lst all er ne2,rr.aV (r2.tup all),BnR.but ne all r2 r1 n12.2.2.1 n12.2.2.2,⟨_,_,_,hBf,by lia,by rw[Ve]; show es.length+1<=_; lia,DW z4,fun j=>?_⟩,keep3 r2 all r3,BnR.but ne all r2 r4 n24.1 n24.2.1⟩
    rw[mL,z5,nxt]
   ·rintro σ Hw ⟨h1,eo,er,rr,r1,r2,r3,r4⟩
    rw[Vb,Vw,odl] at r2
    exact Rc _ _ ⟨h1,r1,r2,r3,r4⟩
  case qp =>
  clear r1 r2 r3 r4 rr rr' er ep eoa keep3
  rintro σ Hw ⟨⟨u4,u10,u12,u13,u14,u15,rfl⟩,⟨es1,co1,d1,x1,_,y1,_,w1⟩,⟨es2,co2,d2,x2,_,y2,_,w2⟩,⟨es3,co3,d3,go3,x3,y3,w3⟩,⟨es4,co4,d4,x4,_,y4,_,w4⟩⟩
  have oz:=Kr n
  have pr:(od.map (rowAt rows)).Perm rows:=by
   have:=pm.map (rowAt rows)
   rw[yt] at this
   exact this
  have sd21:fL n (Vn n 0) (dg n es1) (dg n es2):=Aa x1.okB x2.okB oz fun j _=>by rw[w1,w2]; exact (Kl pr j).symm
  have sd34:fL n (Vn n 0) (dg n es4) (dg n es3):=Aa x4.okB x3.okB oz fun j _=>by rw[w3,w4]
  have same:∀ {esA esB:List Ent} {H1 H2:Hp} {rA rB aA1 aA2 kA aB1 aB2 kB:Addr} {loA hiA loB hiB:List Int} {uA uB:List V} {kA' kB':List (List Nat)},okB (dg n esA)->okB (dg n esB)->fL n (Vn n 0) (dg n esB) (dg n esA)->aZ H1 H2 →
    H1 rA=some (.lst [.ref aA1,.ref aA2,.ref kA])->H1 aA1=some (.tup (loA.map V.int))->Low n (Vn n 0) (dg n esA) loA->H1 aA2=some (.tup (hiA.map V.int))->Jx n (Vn n 0) (dg n esA) hiA->H1 kA=some (.lst uA)->LF (fun _=>none) H1 uA kA'->cY n (Vn n 0) (dg n esA) kA' →
    H2 rB=some (.lst [.ref aB1,.ref aB2,.ref kB])->H2 aB1=some (.tup (loB.map V.int))->Low n (Vn n 0) (dg n esB) loB->H2 aB2=some (.tup (hiB.map V.int))->Jx n (Vn n 0) (dg n esB) hiB->H2 kB=some (.lst uB)->LF (fun _=>none) H2 uB kB'->cY n (Vn n 0) (dg n esB) kB' →
    ∀ Q:VK,(∀ H3,aZ H2 H3->Q (.bl true) H3)->pI 4 [.ref rA,.ref rB] H2 Q E0:=by
   intro esA esB H1 H2 rA rB aA1 aA2 kA aB1 aB2 kB loA hiA loB hiB uA uB kA' kB' okA okB' sd ss12 c1 c2 c3 c4 c5 c6 c7 c8 g1 g2 g3 g4 g5 g6 g7 g8 Q hQ
   have el:=(Ia sd g3).uniq c3
   have eh:=(Qn sd g5).uniq c5
   have ek:=cY.uniq (cP n esA) okA oz c3 (KJ (cP n esB) okB' (cP n esA) okA oz sd g8) c8
   subst el
   subst eh
   subst ek
   have few:=c8.few c3
   have p6:2 ^ n<=64:=by
    have:2 ^ n<=2 ^ 6:=Z5 (by decide) n6
    lia
   have kl:∀ c∈kB',c.length<=1000:=fun c hc=>by have:=few.2 c hc; lia
   have lA:=c7.length
   have lB:=g7.length
   have ll:loB.length<=1000:=by rw[c3.1.1]; lia
   have lh:hiB.length<=1000:=by rw[c5.1.1]; lia
   refine⟨.ref rA,.ref rB,.lst [gD loB,gD hiB,.lst (kB'.map cD)],rfl,.lst (ss12 _ _ c1) (by show 3<=100000; decide) (.cons (oF (ss12 _ _ c2) ll) (.cons (oF (ss12 _ _ c4) lh) (.cons (.lst (ss12 _ _ c6) (by lia) ((c7.mono ss12).rep kl)) .nil))),.lst g1 (by show 3<=100000; decide) (.cons (oF g2 ll) (.cons (oF g4 lh) (.cons (.lst g6 (by lia) (g7.rep kl)) .nil))),?_,fun H3 s3=>hQ H3 s3⟩
   have d1:(gD loB).dep=1:=HH _
   have d2:(gD hiB).dep=1:=HH _
   have d3:=Jd kB'
   rw[Dm.dep,rR,rR,rR,rR,d1,d2,Dm.dep]
   lia
  refine aH (fun σ Hv=>σ=[some (.ref p1),some (.int (n:Int)),some (.ref ra),u3,u4,some (.ref b1),some (.ref b2),some (.ref b3),some (.ref b4),some (vN gone),u10,some (.ref oa),u12,u13,u14,u15]/\aZ Hw Hv) ?qr ?tr
  case tr =>
   intro N Rc
   refine⟨_,rfl,b2,be2,n,d2,co2,_,_,es2,rfl,x2,oz,n6,by lia,fun r a1 a2 ka lo hi vs ks Ha sa c1 c2 c3 c4 c5 c6 c7 c8=>?_⟩
   refine⟨_,rfl,b1,be1,n,d1,co1,_,_,es1,rfl,x1.same sa,oz,n6,by lia,fun r' a1' a2' ka' lo' hi' vs' ks' Hb sb g1 g2 g3 g4 g5 g6 g7 g8=>?_⟩
   dsimp only [CT]
   exact same x2.okB x1.okB sd21 sb c1 c2 c3 c4 c5 c6 c7 c8 g1 g2 g3 g4 g5 g6 g7 g8 _ fun H3 s3=>⟨_,rfl,cX (Rc _ _ ⟨rfl,sa.trans (sb.trans s3)⟩)⟩
  case qr =>
  rintro σ Hv ⟨rfl,sv⟩
  refine⟨_,rfl,b3,be3,n,d3,co3,_,_,es3,rfl,x3.same sv,oz,n6,by lia,fun r a1 a2 ka lo hi vs ks Ha sa c1 c2 c3 c4 c5 c6 c7 c8=>?_⟩
  refine⟨_,rfl,b4,be4,n,d4,co4,_,_,es4,rfl,(x4.same sv).same sa,oz,n6,by lia,fun r' a1' a2' ka' lo' hi' vs' ks' Hb sb g1 g2 g3 g4 g5 g6 g7 g8=>?_⟩
  dsimp only [CT]
  exact same x3.okB x4.okB sd34 sb c1 c2 c3 c4 c5 c6 c7 c8 g1 g2 g3 g4 g5 g6 g7 g8 _ fun H3 _=>q H3
theorem all_mk {l:W.OpenLaw} {w:V3} {K:VB} {h:Wb} {mg:V9->Option Value} {fa fq1 fq2 fq3 fq4 fq5 fq6 fq7 fq8 fq9 fq10 fq11 fq12 fq13 fq14 fq15 fq16 fq17 fq18 fq19 fq20 fq21 fq22 fq23 fq24 fq25 fq26 fq27 fq28 fq29 fq30 fq31 fq32 fq33 fq34 fq35 fq36 fq37 fq38 fq39 fq40 fq41 fq42 fq43 fq44 fq45 fq46 fq47 fq48 fq49 fq50 fq51 fq52:Addr} (X:K.In h) (G:h.Ns VJ mg) (hfa:mg "law" = some (.ref fa)) {tk_MOST_FOLK tk_MOST_STEP tk_MOST_SUM tk_MOST_DEPTH tk_FEWEST_PARTS tk_MOST_PARTS tk_MOST_RUNGS tk_MOST_PLEDGES:Tok} {Cw8 Cw9:Addr} {f_Stand_init f_Boon_init f_Boon_go_on f_Boon_come f_Boon_leave f_Boon_pledge f_Boon_change f_Boon_withdraw:Addr}
  (qw8:jM K "Stand" Cw8)
  (n_Stand_green:aa7 K (.ref Cw8) "green" = some none)
  (n_Stand_gone:aa7 K (.ref Cw8) "gone" = some none)
  (n_Stand_standing:aa7 K (.ref Cw8) "standing" = some none)
  (n_Stand_coming:aa7 K (.ref Cw8) "coming" = some none)
  (q_Stand_init:dh K Cw8 "__init__" "Stand.__init__" jz f_Stand_init)
  (qw9:jM K "Boon" Cw9)
  (n_Boon_now:aa7 K (.ref Cw9) "now" = some none)
  (n_Boon_behind:aa7 K (.ref Cw9) "behind" = some none)
  (n_Boon_ahead:aa7 K (.ref Cw9) "ahead" = some none)
  (q_Boon_init:dh K Cw9 "__init__" "Boon.__init__" jU f_Boon_init)
  (q_Boon_go_on:dh K Cw9 "go_on" "Boon.go_on" jj f_Boon_go_on)
  (q_Boon_come:dh K Cw9 "come" "Boon.come" j6 f_Boon_come)
  (q_Boon_leave:dh K Cw9 "leave" "Boon.leave" jt f_Boon_leave)
  (q_Boon_pledge:dh K Cw9 "pledge" "Boon.pledge" jb f_Boon_pledge)
  (q_Boon_change:dh K Cw9 "change" "Boon.change" iJ f_Boon_change)
  (q_Boon_withdraw:dh K Cw9 "withdraw" "Boon.withdraw" fJ f_Boon_withdraw)
  (ne_Boonw8:Cw9≠Cw8)
  (qq1:HasDef K "is_number" jQ fq1)
  (qq2:HasDef K "lifted" uR fq2)
  (qq3:HasDef K "is_crowd" mj fq3)
  (qq4:HasDef K "are_parts" jW fq4)
  (qq5:HasDef K "is_term_within" fj fq5)
  (qq6:HasDef K "is_term" pZ fq6)
  (qq7:HasDef K "all_hold" mU fq7)
  (qq8:HasDef K "any_holds" jX fq8)
  (qq9:HasDef K "holds" zm fq9)
  (qq10:HasDef K "mentions" mF fq10)
  (qq11:HasDef K "named" yF fq11)
  (qq12:HasDef K "is_rung" qL fq12)
  (qq13:HasDef K "is_pledge" kh fq13)
  (qq14:HasDef K "owes" Jh fq14)
  (qq15:HasDef K "last_step" km fq15)
  (qq16:HasDef K "check_there" iK fq16)
  (qq17:HasDef K "owed_of" oZ fq17)
  (qq18:HasDef K "pledger_of" jq fq18)
  (qq19:HasDef K "check_pledge" gK fq19)
  (qq20:HasDef K "pledged_anew" gJ fq20)
  (qq21:HasDef K "what_is_due" iZ fq21)
  (qq22:HasDef K "roof" Ie fq22)
  (qq23:HasDef K "settled" oM fq23)
  (qq24:HasDef K "rise" Ht fq24)
  (qq25:HasDef K "fall" Jc fq25)
  (qq26:HasDef K "least" yL fq26)
  (qq27:HasDef K "greatest" mY fq27)
  (qq28:HasDef K "held_step" j5 fq28)
  (qq29:HasDef K "held" G9 fq29)
  (qq30:HasDef K "risers" uP fq30)
  (qq31:HasDef K "put_off" qH fq31)
  (qq32:HasDef K "knots" yM fq32)
  (qq33:HasDef K "folk" GX fq33)
  (qq34:HasDef K "green" zN fq34)
  (qq35:HasDef K "book_of" o7 fq35)
  (qq36:HasDef K "sure" Jf fq36)
  (qq37:HasDef K "hoped" zf fq37)
  (qq38:HasDef K "boon_knots" jm fq38)
  (qq39:HasDef K "_law_cell" mC fq39)
  (qq40:HasDef K "_law_draws" kO fq40)
  (qq41:HasDef K "_law_under" jR fq41)
  (qq42:HasDef K "_law_crowd" jY fq42)
  (qq43:HasDef K "_law_term" m6 fq43)
  (qq44:HasDef K "_law_renamed" iC fq44)
  (qq45:HasDef K "_law_mine" mK fq45)
  (qq46:HasDef K "_law_pledge" jh fq46)
  (qq47:HasDef K "_law_same" mW fq47)
  (qq48:HasDef K "_law_picks" j0 fq48)
  (qq49:HasDef K "_law_come" lY fq49)
  (qq50:HasDef K "_law_ends" lV fq50)
  (qq51:HasDef K "_law_order" kj fq51)
  (qq52:HasDef K "law" Oj fq52)
  (v_MOST_FOLK:X4 K VJ "MOST_FOLK" = some (some (.int 12 tk_MOST_FOLK)))
  (v_MOST_STEP:X4 K VJ "MOST_STEP" = some (some (.int 9 tk_MOST_STEP)))
  (v_MOST_SUM:X4 K VJ "MOST_SUM" = some (some (.int 99 tk_MOST_SUM)))
  (v_MOST_DEPTH:X4 K VJ "MOST_DEPTH" = some (some (.int 4 tk_MOST_DEPTH)))
  (v_FEWEST_PARTS:X4 K VJ "FEWEST_PARTS" = some (some (.int 2 tk_FEWEST_PARTS)))
  (v_MOST_PARTS:X4 K VJ "MOST_PARTS" = some (some (.int 6 tk_MOST_PARTS)))
  (v_MOST_RUNGS:X4 K VJ "MOST_RUNGS" = some (some (.int 9 tk_MOST_RUNGS)))
  (v_MOST_PLEDGES:X4 K VJ "MOST_PLEDGES" = some (some (.int 40 tk_MOST_PLEDGES)))
  (z_len:X4 K VJ "len" = some none)
  (z_range:X4 K VJ "range" = some none)
  (z_all:X4 K VJ "all" = some none)
  (z_isinstance:X4 K VJ "isinstance" = some none)
  (z_int:X4 K VJ "int" = some none)
  (z_bool:X4 K VJ "bool" = some none)
  (z_str:X4 K VJ "str" = some none)
  (z_list:X4 K VJ "list" = some none)
  (z_tuple:X4 K VJ "tuple" = some none)
  (z_abs:X4 K VJ "abs" = some none)
  (z_max:X4 K VJ "max" = some none)
  (z_min:X4 K VJ "min" = some none)
  (z_sum:X4 K VJ "sum" = some none)
  (z_sorted:X4 K VJ "sorted" = some none)
  (z_zip:X4 K VJ "zip" = some none)
  (z_reversed:X4 K VJ "reversed" = some none)
  (z_divmod:X4 K VJ "divmod" = some none)
  (z_set:X4 K VJ "set" = some none)
  (z_any:X4 K VJ "any" = some none)
  (z_enumerate:X4 K VJ "enumerate" = some none)
  : ∃ fd:X5,(∀ (s:Vc) (v:Value),abk s fd ⟨[v],[]⟩ [("_law_script",v)])/\∀ base:Wb,K.In base->base.Ns VJ mg->cG l.prog w K mg base CX0 17 fa fd ["_law_script"] (Ky K):=by
 have e:=hfa.symm.trans (qq52.name X G)
 cases e
 have B:Bt mg:=⟨WT X G z_len,WT X G z_range,WT X G z_all,WT X G z_isinstance,WT X G z_int,WT X G z_bool,WT X G z_str,WT X G z_list,WT X G z_tuple,WT X G z_abs,WT X G z_max,WT X G z_min,WT X G z_sum,WT X G z_sorted,WT X G z_zip,WT X G z_reversed,WT X G z_divmod,WT X G z_set,WT X G z_any,WT X G z_enumerate⟩
 have c_MOST_FOLK:=abi X G v_MOST_FOLK
 have c_MOST_STEP:=abi X G v_MOST_STEP
 have c_MOST_SUM:=abi X G v_MOST_SUM
 have c_MOST_DEPTH:=abi X G v_MOST_DEPTH
 have c_FEWEST_PARTS:=abi X G v_FEWEST_PARTS
 have c_MOST_PARTS:=abi X G v_MOST_PARTS
 have c_MOST_RUNGS:=abi X G v_MOST_RUNGS
 have c_MOST_PLEDGES:=abi X G v_MOST_PLEDGES
 obtain⟨_,Fq52,bq52⟩:=qq52.law (y:="_law_script") fun _ _ _ _ _ _ s v=>.of_eq rfl
 refine⟨_,bq52,fun base _ _=>?_⟩
 have dd:=fun {x:V9} {st:Stmt} {f:Addr} {ps:List V9} {sp:Sp} {k:Nat} (q:HasDef K x st f)=>q.df (P:=l.prog) (w:=w) (mg:=mg) (base:=base) (ps:=ps) (sp:=sp) (k:=k) X G
 have dm:=fun {x m q:V9} {C:Addr} {st:Stmt} {f:Addr} {ps:List V9} {sp:Sp} {k:Nat} (o:dh K C m q st f) (c:jM K x C)=>o.dm (P:=l.prog) (w:=w) (mg:=mg) (base:=base) (ps:=ps) (sp:=sp) (k:=k) c
 have Dq39:=dd qq39 (cO (by intros; rfl)) fun _ F=>zG F B
 have Dq40:=dd qq40 (cO (by intros; rfl)) fun _ F=>wR F B
 have Dq41:=dd qq41 (cO (by intros; rfl)) fun _ F=>wV F B
 have Dq42:=dd qq42 (cO (by intros; rfl)) fun _ F=>vZ F B
 have S0:Df l.prog w K mg base "_law_same" 0 ["_law_found","_law_due"] (pI 0):=dd qq47 (cO (by intros; rfl)) fun _ _=>same_none
 have S1:=dd qq47 (cO (by intros; rfl)) fun _ F=>iz F B S0
 have S2:=dd qq47 (cO (by intros; rfl)) fun _ F=>iz F B S1
 have S3:=dd qq47 (cO (by intros; rfl)) fun _ F=>iz F B S2
 have S4:=dd qq47 (cO (by intros; rfl)) fun _ F=>iz F B S3
 have T0:Df l.prog w K mg base "_law_term" 1 ["_law_cell_here","_law_n","_law_deep","_law_most"] (sV 0):=dd qq43 (yS (by intros; rfl)) fun _ _=>term_none
 have T1:=dd qq43 (yS (by intros; rfl)) fun _ F=>j8 F B Dq40 Dq41 Dq42 T0
 have T2:=dd qq43 (yS (by intros; rfl)) fun _ F=>j8 F B Dq40 Dq41 Dq42 T1
 have T3:=dd qq43 (yS (by intros; rfl)) fun _ F=>j8 F B Dq40 Dq41 Dq42 T2
 have R0:Df l.prog w K mg base "_law_renamed" 0 ["_law_term_here","_law_row"] (Dt K 0):=dd qq44 (cO (by intros; rfl)) fun _ _=>K7
 have R1:=dd qq44 (cO (by intros; rfl)) fun _ F=>gM F B R0
 have R2:=dd qq44 (cO (by intros; rfl)) fun _ F=>gM F B R1
 have R3:=dd qq44 (cO (by intros; rfl)) fun _ F=>gM F B R2
 have Dq45:=dd qq45 (Qy (by intros; rfl)) fun _ F=>yX F B T3 R3
 have Dq46:=dd qq46 (Qy (by intros; rfl)) fun _ F=>uw F B Dq40 Dq41 Dq42 Dq45
 have H0:Df l.prog w K mg base "holds" 0 ["term","giving"] (kI K 0):=dd qq9 (cO (by intros; rfl)) fun _ _=>Dp
 have A1:=dd qq7 (cO (by intros; rfl)) fun _ F=>iB F B H0
 have Y1:=dd qq8 (cO (by intros; rfl)) fun _ F=>gk F B H0
 have H1:=dd qq9 (cO (by intros; rfl)) fun _ F=>oE F B A1 Y1
 have A2:=dd qq7 (cO (by intros; rfl)) fun _ F=>iB F B H1
 have Y2:=dd qq8 (cO (by intros; rfl)) fun _ F=>gk F B H1
 have H2:=dd qq9 (cO (by intros; rfl)) fun _ F=>oE F B A2 Y2
 have A3:=dd qq7 (cO (by intros; rfl)) fun _ F=>iB F B H2
 have Y3:=dd qq8 (cO (by intros; rfl)) fun _ F=>gk F B H2
 have H3:=dd qq9 (cO (by intros; rfl)) fun _ F=>oE F B A3 Y3
 have A4:=dd qq7 (cO (by intros; rfl)) fun _ F=>iB F B H3
 have Y4:=dd qq8 (cO (by intros; rfl)) fun _ F=>gk F B H3
 have H4:=dd qq9 (cO (by intros; rfl)) fun _ F=>oE F B A4 Y4
 have Dq14:=dd qq14 (cO (by intros; rfl)) fun _ F=>OJ F B H4
 have Dq15:=dd qq15 (bind1 (by intros; rfl)) fun _ F=>wG F B
 have Dq21:=dd qq21 (iR (by intros; rfl)) fun _ F=>rH F B Dq14
 have Dq22:=dd qq22 (cO (by intros; rfl)) fun _ F=>Qk F B Dq15
 have Dq23:=dd qq23 (iR (by intros; rfl)) fun _ F=>Ek F B Dq21
 have Dq24:=dd qq24 (cO (by intros; rfl)) fun _ F=>Oq F B Dq23
 have Dq25:=dd qq25 (cO (by intros; rfl)) fun _ F=>PX (by decide) F B Dq23 Dq22
 have Dq26:=dd qq26 (cO (by intros; rfl)) fun _ F=>K8 F B Dq24
 have Dq27:=dd qq27 (cO (by intros; rfl)) fun _ F=>zy F B Dq25
 have Dq48:=dd qq48 (cO (by intros; rfl)) fun _ F=>wA F B Dq40
 have S:Aw K Cw8:=⟨qw8.cl,n_Stand_green,n_Stand_gone,n_Stand_standing,n_Stand_coming⟩
 have T:Ew K Cw9:=⟨qw9.cl,n_Boon_now,n_Boon_behind,n_Boon_ahead⟩
 have ne:=ne_Boonw8
 have Dq1:=dd qq1 (iR (by intros; rfl)) fun _ F=>vR F B
 have Dq3:=dd qq3 (iR (by intros; rfl)) fun _ F=>yW F B Dq1
 have W0:Df l.prog w K mg base "is_term_within" 1 ["many","thing","deep"] (jG 0):=dd qq5 (iR (by intros; rfl)) fun _ _=>zj
 have P0:=dd qq4 (iR (by intros; rfl)) fun _ F=>gC F B c_FEWEST_PARTS c_MOST_PARTS (by decide) Dq1 W0
 have W1:=dd qq5 (iR (by intros; rfl)) fun _ F=>cZ F B c_MOST_STEP c_MOST_SUM c_MOST_FOLK (by decide) Dq1 Dq3 P0
 have P1:=dd qq4 (iR (by intros; rfl)) fun _ F=>gC F B c_FEWEST_PARTS c_MOST_PARTS (by decide) Dq1 W1
 have W2:=dd qq5 (iR (by intros; rfl)) fun _ F=>cZ F B c_MOST_STEP c_MOST_SUM c_MOST_FOLK (by decide) Dq1 Dq3 P1
 have P2:=dd qq4 (iR (by intros; rfl)) fun _ F=>gC F B c_FEWEST_PARTS c_MOST_PARTS (by decide) Dq1 W2
 have W3:=dd qq5 (iR (by intros; rfl)) fun _ F=>cZ F B c_MOST_STEP c_MOST_SUM c_MOST_FOLK (by decide) Dq1 Dq3 P2
 have P3:=dd qq4 (iR (by intros; rfl)) fun _ F=>gC F B c_FEWEST_PARTS c_MOST_PARTS (by decide) Dq1 W3
 have W4:=dd qq5 (iR (by intros; rfl)) fun _ F=>cZ F B c_MOST_STEP c_MOST_SUM c_MOST_FOLK (by decide) Dq1 Dq3 P3
 have Dq6:=dd qq6 (cO (by intros; rfl)) fun _ F=>Cv F B c_MOST_DEPTH W4
 have M0:Df l.prog w K mg base "mentions" 0 ["term"] (pA 0):=dd qq10 (bind1 (by intros; rfl)) fun _ _=>Fg
 have M1:=dd qq10 (bind1 (by intros; rfl)) fun _ F=>iW F B M0
 have M2:=dd qq10 (bind1 (by intros; rfl)) fun _ F=>iW F B M1
 have M3:=dd qq10 (bind1 (by intros; rfl)) fun _ F=>iW F B M2
 have M4:=dd qq10 (bind1 (by intros; rfl)) fun _ F=>iW F B M3
 have Dq11:=dd qq11 (bind1 (by intros; rfl)) fun _ F=>Kv F B M4
 have Dq12:=dd qq12 (yS (by intros; rfl)) fun _ F=>DG F B c_MOST_STEP (by decide) Dq1 Dq6 Dq11
 have Dq13:=dd qq13 (iR (by intros; rfl)) fun _ F=>vX F B c_MOST_RUNGS (by decide) Dq1 Dq12
 have Dq2:=dd qq2 (iR (by intros; rfl)) fun _ F=>Ge F B
 have Dq28:=dd qq28 (yS (by intros; rfl)) fun _ F=>wW F B Dq14
 have Dq29:=dd qq29 (iR (by intros; rfl)) fun _ F=>Qd F B Dq28
 have Dq30:=dd qq30 (cO (by intros; rfl)) fun _ F=>HX F B
 have Dq31:=dd qq31 (yS (by intros; rfl)) fun _ F=>El F B Dq30 Dq2 Dq29
 have Dq32:=dd qq32 (cO (by intros; rfl)) fun _ F=>KY (by decide) F B Dq26 Dq27 Dq31 Dq30
 have Dq51:=dd qq51 (cO (by intros; rfl)) fun _ F=>wD F B Dq48
 have Dw8:=q_Stand_init.dk (P:=l.prog) (w:=w) (base:=base) (ps:=["self","green","gone","standing","coming"]) qw8 X G (fun _ F=>F.binds fun _ _ _ _ _ _ us hl=>by obtain⟨x0,x1,x2,x3,x4,rfl⟩:=T9 hl; rfl) fun _ F=>uQ F S
 have Dw9:=q_Boon_init.dk (P:=l.prog) (w:=w) (base:=base) (ps:=["self"]) qw9 X G (fun _ F=>F.binds fun _ _ _ _ _ _ us hl=>by obtain⟨x0,rfl⟩:=T5 hl; rfl) fun _ F=>xN F T Dw8
 have D_Boon_go_on:=dm (ps:=["self","stand"]) q_Boon_go_on qw9 (fun _ F=>F.binds fun _ _ _ _ _ _ us hl=>by obtain⟨x0,x1,rfl⟩:=S7 hl; rfl) fun _ F=>tU F T
 have D_Boon_come:=dm (ps:=["self"]) q_Boon_come qw9 (fun _ F=>F.binds fun _ _ _ _ _ _ us hl=>by obtain⟨x0,rfl⟩:=T5 hl; rfl) fun _ F=>xU ne F B S T c_MOST_FOLK Dw8 D_Boon_go_on
 have Dq16:=dd qq16 (cO (by intros; rfl)) fun _ F=>rK F B S Dq1
 have Dq19:=dd qq19 (iR (by intros; rfl)) fun _ F=>qU F B S Dq13
 have D_Boon_pledge:=dm (ps:=["self","one","pledge"]) q_Boon_pledge qw9 (fun _ F=>F.binds fun _ _ _ _ _ _ us hl=>by obtain⟨x0,x1,x2,rfl⟩:=Tq hl; rfl) fun _ F=>rJ (by decide) ne F B S T c_MOST_PLEDGES Dq16 Dq19 Dw8 D_Boon_go_on
 have Dq17:=dd qq17 (iR (by intros; rfl)) fun _ F=>DR F B Dq14
 have Dq18:=dd qq18 (cO (by intros; rfl)) fun _ F=>uW F B S Dq1
 have Dq20:=dd qq20 (iR (by intros; rfl)) fun _ F=>o5 (by decide) F B S Dq17 Dw8
 have D_Boon_change:=dm (ps:=["self","number","pledge"]) q_Boon_change qw9 (fun _ F=>F.binds fun _ _ _ _ _ _ us hl=>by obtain⟨x0,x1,x2,rfl⟩:=Tq hl; rfl) fun _ F=>rM (by decide) (by decide) ne F B S T Dq18 Dq19 Dq20 D_Boon_go_on
 have D_Boon_withdraw:=dm (ps:=["self","number"]) q_Boon_withdraw qw9 (fun _ F=>F.binds fun _ _ _ _ _ _ us hl=>by obtain⟨x0,x1,rfl⟩:=S7 hl; rfl) fun _ F=>nP (by decide) ne F B S T Dq18 Dq20 D_Boon_go_on
 have D_Boon_leave:=dm (ps:=["self","one"]) q_Boon_leave qw9 (fun _ F=>F.binds fun _ _ _ _ _ _ us hl=>by obtain⟨x0,x1,rfl⟩:=S7 hl; rfl) fun _ F=>uX ne F B S T Dq16 Dw8 D_Boon_go_on
 have Dq33:=dd qq33 (bind1 (by intros; rfl)) fun _ F=>O7 F B S T
 have Dq34:=dd qq34 (bind1 (by intros; rfl)) fun _ F=>Lh F B S T
 have Dq35:=dd qq35 (bind1 (by intros; rfl)) fun _ F=>Ed F B S T Dq33
 have Dq36:=dd qq36 (bind1 (by intros; rfl)) fun _ F=>O6 (by decide) F B Dq26 Dq35 Dq34
 have Dq37:=dd qq37 (bind1 (by intros; rfl)) fun _ F=>JK (by decide) F B Dq27 Dq35 Dq34
 have Dq38:=dd qq38 (bind1 (by intros; rfl)) fun _ F=>uK (by decide) F B Dq32 Dq35 Dq34
 have Dq49:=dd qq49 (bind1 (by intros; rfl)) fun _ F=>zc F B Dw9 D_Boon_come
 have Dq50:=dd qq50 (bind1 (by intros; rfl)) fun _ F=>zz (by decide) F B Dq36 Dq37 Dq38
 exact RG ne Fq52 B Dq40 Dq39 Dq41 Dq46 Dq49 Dq51 Dq50 S4 D_Boon_pledge D_Boon_leave D_Boon_change D_Boon_withdraw
theorem walk {l:W.OpenLaw} {q:Vy} {loose:List V9} {XP:(V9->Option Value)->Wb->Prop} {YP:V3->Wb->Prop} {d:DefRec} {K:Params->VB} (hn:l.most=some 63) (hdf:d.params.defaults=[])
  (hY:∀ (w:V3) (h:Wb),YP w h->(K w.params).In h)
  (F:∀ (w:V3) (mg:V9->Option Value) (fa:Addr) (h:Wb),(K w.params).In h->h.Ns VJ mg->mg d.name=some (.ref fa) →
   ∃ fd:X5,(∀ (s:Vc) (u:Value),abk s fd ⟨[u],[]⟩ [("_law_script",u)])/\∀ base:Wb,(K w.params).In base->base.Ns VJ mg->cG l.prog w (K w.params) mg base CX0 17 fa fd ["_law_script"] (Ky (K w.params))) :
  W.WalkO q loose XP YP l.row.toRowW d [] (fun f vs=>PySem.call f vs) :=
 L2.Pu (n:=63) (k:=17) (x:="_law_script") (CX:=fun _=>CX0) (sp:=fun w=>Ky (K w.params)) hn (by decide) hdf ⟨rfl,by decide,by decide⟩ hY F (fun _ _ a ns hl _ hS=>⟨a,ns,rfl,hS,hl,fun _=>rfl⟩) fun _ _ _ _ _ z=>z
end My
end
open PySem PySem.W PyProof.Rows
namespace PySem.Challenge.cw_loveboon_k44_whole_pledges_in_any_order_holds
theorem tw2125436450505429653:True:=trivial
theorem tw8743844130729635707:True:=trivial
theorem tw2722762552041573900:True:=trivial
theorem tw17096986859333792792:True:=trivial
theorem tw13920525649454130557:True:=trivial
theorem tw11853278660661511259:True:=trivial
theorem tw12743369105165551358:True:=trivial
theorem tw15371522375842183134:True:=trivial
theorem tw7318715599132301828:True:=trivial
theorem tw10172233321049170585:True:=trivial
theorem tw11322089932515237765:True:=trivial
theorem tw3079290386907407836:True:=trivial
theorem tw4304097118661521044:True:=trivial
theorem tw14717402010093904539:True:=trivial
theorem tw1629461980669448731:True:=trivial
theorem tw18050286965509304408:True:=trivial
theorem tw8581533635310704890:True:=trivial
theorem tw16767501850445075618:True:=trivial
theorem tw5353910486235519968:True:=trivial
theorem tw17109381260640482180:True:=trivial
theorem tw10958514782507206576:True:=trivial
theorem tw9795057396478420339:True:=trivial
theorem tw3165428510185791463:True:=trivial
theorem tw8166035403419057126:True:=trivial
theorem tw13984747603883166466:True:=trivial
theorem tw9895937765360016613:True:=trivial
theorem tw5119189104956131586:True:=trivial
theorem tw17763937934007685922:True:=trivial
theorem tw15401975802812704318:True:=trivial
theorem tw16337727737431945452:True:=trivial
theorem tw585306540304717914:True:=trivial
theorem tw4635595373466188556:True:=trivial
theorem tw7296390105241193730:True:=trivial
theorem tw15446344192678723670:True:=trivial
theorem tw16902655794057156110:True:=trivial
theorem tw16881577954180607253:True:=trivial
theorem tw17944644425038765316:True:=trivial
theorem tw9531935642075857532:True:=trivial
theorem tw11595176352529792929:True:=trivial
theorem tw13832185124167241496:True:=trivial
end PySem.Challenge.cw_loveboon_k44_whole_pledges_in_any_order_holds
set_option maxRecDepth 100000 in
set_option maxHeartbeats 0 in
theorem PySem.Challenge.cw_loveboon_k44_whole_pledges_in_any_order_holds : PySem.Challenge.rw_loveboon_k44_whole_pledges_in_any_order.Holds := by
 w_on; o_law; k_head; (case hw=>w_witness2)
 k_fill
 refine My.walk (l:=PySem.Challenge.rw_loveboon_k44_whole_pledges_in_any_order) rfl rfl (fun w h Y=>W.kIn_of Y) ?F
 case F =>
  intro w mg fa h KX G hmg
  refine' My.all_mk KX G hmg ?qw8 ?n_Stand_green ?n_Stand_gone ?n_Stand_standing ?n_Stand_coming ?q_Stand_init ?qw9 ?n_Boon_now ?n_Boon_behind ?n_Boon_ahead ?q_Boon_init ?q_Boon_go_on ?q_Boon_come ?q_Boon_leave ?q_Boon_pledge ?q_Boon_change ?q_Boon_withdraw ?ne_Boonw8 ?qq1 ?qq2 ?qq3 ?qq4 ?qq5 ?qq6 ?qq7 ?qq8 ?qq9 ?qq10 ?qq11 ?qq12 ?qq13 ?qq14 ?qq15 ?qq16 ?qq17 ?qq18 ?qq19 ?qq20 ?qq21 ?qq22 ?qq23 ?qq24 ?qq25 ?qq26 ?qq27 ?qq28 ?qq29 ?qq30 ?qq31 ?qq32 ?qq33 ?qq34 ?qq35 ?qq36 ?qq37 ?qq38 ?qq39 ?qq40 ?qq41 ?qq42 ?qq43 ?qq44 ?qq45 ?qq46 ?qq47 ?qq48 ?qq49 ?qq50 ?qq51 ?qq52 ?v_MOST_FOLK ?v_MOST_STEP ?v_MOST_SUM ?v_MOST_DEPTH ?v_FEWEST_PARTS ?v_MOST_PARTS ?v_MOST_RUNGS ?v_MOST_PLEDGES ?z_len ?z_range ?z_all ?z_isinstance ?z_int ?z_bool ?z_str ?z_list ?z_tuple ?z_abs ?z_max ?z_min ?z_sum ?z_sorted ?z_zip ?z_reversed ?z_divmod ?z_set ?z_any ?z_enumerate
  (case qw8=>apply L2.jM.mk <;> k_is)
  (case n_Stand_green|n_Stand_gone|n_Stand_standing|n_Stand_coming=>k_is)
  (case q_Stand_init=>apply L2.dh.mk <;> k_is)
  (case qw9=>apply L2.jM.mk <;> k_is)
  (case n_Boon_now|n_Boon_behind|n_Boon_ahead=>k_is)
  (case q_Boon_init|q_Boon_go_on|q_Boon_come|q_Boon_leave|q_Boon_pledge|q_Boon_change|q_Boon_withdraw=>apply L2.dh.mk <;> k_is)
  (case ne_Boonw8=>decide)
  (case qq1|qq2|qq3|qq4|qq5|qq6|qq7|qq8|qq9|qq10|qq11|qq12|qq13|qq14|qq15|qq16|qq17|qq18|qq19|qq20|qq21|qq22|qq23|qq24|qq25|qq26|qq27|qq28|qq29|qq30|qq31|qq32|qq33|qq34|qq35|qq36|qq37|qq38|qq39|qq40|qq41|qq42|qq43|qq44|qq45|qq46|qq47|qq48|qq49|qq50|qq51|qq52=>apply L2.HasDef.mk <;> k_is)
  (case v_MOST_FOLK|v_MOST_STEP|v_MOST_SUM|v_MOST_DEPTH|v_FEWEST_PARTS|v_MOST_PARTS|v_MOST_RUNGS|v_MOST_PLEDGES|z_len|z_range|z_all|z_isinstance|z_int|z_bool|z_str|z_list|z_tuple|z_abs|z_max|z_min|z_sum|z_sorted|z_zip|z_reversed|z_divmod|z_set|z_any|z_enumerate=>k_is)
