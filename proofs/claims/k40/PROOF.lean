import PyProof.Rows.All
import Wide.All
import OpenK.AllK
import Wide.FinOn
import Lean
import PyProof.EqAt
import PyProof.EqKinds
import PyProof.TupleCall
import PyProof.NeKinds
import PySem.Challenge.RW_loveboon_k40_whole_one_by_one_in_any_ord
noncomputable section
def U {α : Sort _}{a : α} : a = a := rfl
open Array renaming getElem?_eq_getElem→Wr,length_toList→W5,getElem?_toList→Xq,getD_eq_getD_getElem?→YM,getElem?_eq_none→Zw,append_assoc→aci
open Bool renaming false_ne_true→VR,and_eq_true→Xl,true_and→ZC,false_and→Z1,or_true→Z9,or_eq_true→aan,and_false→aaw,eq_iff_iff→aaQ,false_or→abl,false_eq_true→ach,decide_and→ac8
open False renaming elim→XD
open ForInStep renaming yield→aam
open Int renaming toNat_natCast→Wl,emod_lt_of_pos→Wu,emod_nonneg→WN,eq_ofNat_of_zero_le→Xu,le_refl→Yq,zero_add→YD,le_trans→acB
open List renaming length_map→VH,getElem?_eq_getElem→VN,map_append→VV,mem_cons_self→V0,take_length→V1,getD_eq_getElem?_getD→V3,length_append→V6,mem_cons_of_mem→V7,length_take→Wa,length_cons→Wc,size_toArray→Wd,getElem?_map→Wf,take_add_one→Wj,mem_of_getElem?→Wk,mem_append_right→Wq,take_zero→WD,replicate→WK,length_range→WQ,map_cons→WR,length_filter_le→WW,lookup_cons→W8,foldl_cons→W9,range→Xb,append_nil→Xy,length_zipWith→X6,length_replicate→X7,getElem?_eq_none→X8,mem_cons→Ye,pairwise_cons→Yl,mem_singleton→Ym,filter_cons_of_pos→Yo,filter_cons_of_neg→Yp,getElem?_append_right→Yw,getElem_of_mem→Yy,contains_cons→YC,replicate_succ→YJ,filterMap_cons→YK,getElem_mem→YW,filter_append→YX,sum_cons→Zb,take_succ_cons→Zc,getElem?_range→Zd,filter_cons→Zj,eq_nil_of_length_eq_zero→Zo,zipWith→Zv,any_cons→Zz,pairwise_map→ZL,append_assoc→ZM,lookup→ZZ,not_mem_nil→Z7,length_drop→Z8,drop_eq_getElem_cons→aaa,range_succ→aak,find?_cons→aal,getElem?_replicate→aaq,range_succ_eq_map→aau,flatten_cons→aav,pairwise_append→aaH,mem_append_left→aaI,getElem_toArray→aaJ,mem_append→aaO,length_set→aaP,map_congr_left→aaS,map_map→aaT,sum→aa6,getElem?_append_left→aa8,reverse_cons→abb,all_cons→abj,getElem_map→abq,take_of_length_le→abA,getElem?_set_self→abB,getElem?_toArray→abH,length→abP,getElem?_set_ne→abQ,forIn_nil→abR,mem_map_of_mem→ab3,filterMap_map→acf,nodup_append→acz,all_map→acA,getElem_inj→acO,drop_length→acP,cons_append→acQ,getLast?_eq_some_getLast→acX,of_mem_zip→ac3,nil_append→ac4,forIn_cons→ac5,dropLast_concat_getLast→ac6
open List.Pairwise renaming nil→abd
open Nat renaming le_refl→VP,lt_of_lt_of_le→V4,ne_of_lt→Wh,le_trans→Wn,zero_le→Wz,lt_succ_of_lt→WX,lt_irrefl→Xa,le_succ→Xx,lt_succ_self→XS,ne_of_gt→X5,le_of_lt→Yi,succ_ne_zero→Zi,le_of_succ_le→ZK,not_lt_zero→aaj,lt_trans→aat,lt_of_succ_lt_succ→abz,lt_of_le_of_lt→acd,eq_zero_or_pos→ace,succ_pos→acw,min_self→acx,lt_or_ge→acy,succ_le_succ→acM,le_of_not_lt→acN
open Ne renaming symm→XQ
open Option renaming isSome_map→acv
open Option.some renaming inj→WL
open Or renaming inr→aao,inl→aas
open PyProof.Rows renaming IntsAre→Xm,step_dedup→Xz,callWith_type1→X3,seqObj→aaN,AllBare→abe,subscriptTail→ab7,slot_tuple_getitem→acF,callWith_builtin1→acL,entry_list_sort→ac0
open PyProof.Rows.F renaming plain_set_update_loop→abr
open PySem renaming wpAny_bind→VG,Shared→VL,wpAny_pure→VM,wpAny→V2,model→Wb,starEach→Wg,Program→Wi,mainGlobals→Wm,Str→Wt,wpAny_newObj_type→Wx,World→Wy,Around→WM,Heap→WT,bootBuiltins→W6,wpAny_mono→W7,wpAny_call_entry→Xd,wpAny_field→Xh,mem_of_lookup→Xi,FuncData→Xp,wpAny_callSpecial?_slot→Xr,eval→Xw,rawInt→XF,codeAny→XJ,wpAny_setField→XM,wpAny_holding→XR,wpAny_loadPart_at→XX,wpAny_seqItems→X4,codeAny_builtin→Yg,wpAny_Call_Name_kw→Yj,backTo→Yk,compareOp→Yn,wpAny_truthy_bool→Ys,foldedSetIterable→Yt,Obj→YB,wpAny_of_eq→YF,wpAny_isSubtype_exc→YG,Scope→YH,wpAny_standAt→YQ,builtinLookup_eq_fast→YZ,pyNext→Y0,letOwnedTupleGo→Y5,sliceBounds→Y7,plainId_quiet→Y8,Builtin→Ze,wpAny_askSetting→Zf,isSubtype_type→Zg,firstArgMember→Zh,keywordEach→Zm,excClassObj→Zn,wpAny_setField_rec→Zq,codeAny_mono→Zr,wpAny_passesOwn→Zx,wpAny_attempt→Zy,wpAny_setState_of→ZD,wpAny_pyIter_list→ZF,standAt→ZG,wpAny_rule→ZQ,sysModules→ZR,SetTable→ZW,Pos→ZX,wpAny_isInstance→Z2,intKind→Z3,holding→Z4,checkBuiltinCall→Z5,IsPair→aac,wpAny_comprehension_free→aad,compPost→aae,binaryOp→aaf,behindInMarks→aag,typeLookup_type→aai,getMethod→aap,pickOrder→aaz,assignEach→aaA,attributeBase→aaC,wpAny_letGo→aaE,codeAny_call_builtin→aaF,backToKw→aaG,wpAny_updateSeq→aaK,wpAny_specialOf→aaL,wpAny_execs_nil→aaM,wpAny_setEntries_of→aaR,swapsWith→aaV,noteFrame→aaW,wpAny_tryCatch→aaX,wpAny_call→aaY,tupleKind_room_in1→aaZ,newFunctionEnv→aa0,compEnvC→aa1,argsOk→aa2,NameKind→aa5,wpAny_onRaise→abf,Result→abg,slicePick→abm,seqItems?→abn,callWith→abo,typeLookup→abu,codeAny_compStart_list→abv,assign→abw,wpAny_ite_false→abC,codeAny_of_tree→abD,IsZip→abF,wpAny_updateSeq_pair→abI,pyIter→abJ,isSubtype_stop→abK,bindArgs→abL,valueAt→abS,getItem→abT,cellsFrom→abU,BindsTo→abX,wpAny_newList→ab5,wpAny_handled→ab6,signature?_of→ab8,wpAny_typeOf→acj,wpAny_pyIter_slot→ack,relayAll→acn,callerA→aco,GenState→acC,plainObj_wpAny_Assign_Attribute→acE,tupleKind→acG,seqIndex?→acH,noFill_tuple_add→acI,newExc→acJ,IsPart→acR,wpAny_throw→acT,subscripted→acU,Model→acW,wpAny_ite_split→acY,theTreesLotGoes→acZ,setNext→ac9,newList→ada
open PySem.Around renaming under_plainId→Yr
open PySem.Builtin.Builtins renaming bindParams→aaU
open PySem.Builtin.List renaming listExtendWith→ZP,listTooLong→abk,listLengthHint→adf
open PySem.Builtin.Slice renaming slicePlaces→aab,sliceAdjust→aba
open PySem.Builtin.SmallTypes renaming nextOf→XH,ownedTupleIsFree→YS,ownedTupleHandOut→ab4,newClass→ade
open PySem.Builtin.Tuple renaming tupleExact→aah
open PySem.Calls renaming call_function_entry→aa9,spliced_cons→acg,spliced_nil→acD
open PySem.Code renaming quiet_builtin→aa7
open PySem.F renaming plainAttrs_list→Xg,type_list_append→Xj,slot_list_append→Xk,plain_max_loop→Zk,slot_tuple_iterator_next→Z0,args_tuple_add_2→abi,entry_tuple_add→abp,slot_tuple_add→aby,slot_zip_next→abG,entry_max_loop→acS,args_tuple_iterator_next_1→ac7,entry_tuple_iterator_next→adb
open PySem.Heap renaming get?_push_of_some→VJ,get?_push_size→V5,lt_size→V9,get?_update_other→Wo,get?_update_self→Ws,size_push→WY,SameBut→Yx
open PySem.Heap.SameBut renaming update→Xv
open PySem.NameKind renaming free→Yd,cell→aaD
open PySem.Obj renaming mapFields→Yc,mapSeq→Zt,data_mapFields→Zu,isFreed_of_fields→aay,putSet→acb
open PySem.PassesOwn renaming never→Wv
open PySem.SeqAt.EqAt renaming int_int→aca
open PySem.SetTable renaming below→XN,grown→ZV
open PySem.SetTable.below renaming go→aar
open PySem.SetTable.probe renaming go→acq
open PySem.Str renaming ofString→YL
open PySem.Value renaming ref→We,none→Xn,int→YT,type→Y9,bool→abx,str→abW
open PySem.W renaming Frag→V8,Frag→Ww,mg_none_of→Xe,findIn→Xo,keepIn→Yb,kia_one→Yh,nsIn→Yu,emptyDict→Yv,instObj→Y6,hasDictIn→ZJ,findIn→ZS,fnOf→Z6,methodCall_KW→aax,plainGet→aaB,codeIn→aa3,callWith_K→aa4,mg_of→abh,takerIn→abE,looks_findIn→abN,lookIn→abO,mg_of→abV,plainGet_of→abY,looks_clsIn→abZ,callWith_K0→ab0,plainOver→acr,methodObj→acs,isFn→acu,handedIn→acK,makesIn→ac1,hideAll→ac2
open PySem.W.Looks renaming here→Yz
open PySem.Walks renaming list→ab9
open Sum renaming inl→Xf,inr→acp
open Sum.inl renaming inj→abM
open True renaming intro→Za
open PySem
abbrev C8 := Option (Value->Sem Unit)
abbrev C9 := Option (Value × Nat)
abbrev Da := Option (Int × Tok)
abbrev Db := List (Wt × Value)
abbrev Do := List (Addr × YB)
abbrev DA := List (Wt × Addr)
abbrev DB := List (Int × Int)
abbrev DC := Value->VL->Prop
abbrev DD := List (List Int)
abbrev DE := Option Value
abbrev DF := List Keyword
abbrev DH := Option Addr
abbrev DI := Option Bool
abbrev DJ := List Value
abbrev DL := Option Int
abbrev DM := List Addr
abbrev DO := List Expr
abbrev DS := List Stmt
abbrev DT := List Env
abbrev DU := List Int
abbrev DV := List Nat
abbrev DZ := List Str
abbrev D0 := List Wt
set_option Elab.async false
set_option linter.all false
set_option maxRecDepth 100000
namespace L2
open PySem PySem.Spec PyProof.Rows
abbrev Key:=Sum Int Wt
def z9:Key->Value->Bool
 | .inl k,v=>Value.isInt k v
 | .inr x,v=>Value.isStrOf x v
def Vm (w:Wy):Key->Int
 | .inl k=>hashInt k
 | .inr x=>hashStr w x
theorem cD:∀ {k:Key} {v:Value},z9 k v=true->(∃ i t,k=Xf i/\v=YT i t)∨(∃ x t,k=acp x/\v=abW x t)
 | .inl i,v,h=>by
  obtain⟨t,e⟩:=Value.isInt_shape (k:=i) (v:=v) h;exact .inl ⟨i,t,U,e⟩
 | .inr x,v,h=>by
  obtain⟨t,e⟩:=Value.isStrOf_shape (x:=x) (v:=v) h;exact .inr ⟨x,t,U,e⟩
def Fq (i:Int)(t:Tok):z9 (.inl i) (.int i t)=true:=by simp [z9,Value.isInt]
def Gf (x:Wt)(t:Tok):z9 (.inr x) (.str x t)=true:=by simp [z9,Value.isStrOf]
def Tn (a b:Int):decide ((Xf a:Key)=Xf b)=(a == b):=by
 by_cases e:a=b;{subst e;simp};{have h:¬ (Xf a:Key)=Xf b:=fun q=>e (abM q);rw[decide_eq_false h];exact (beq_eq_false_iff_ne.mpr e).symm}
def Rv (a b:Wt):decide ((acp a:Key)=acp b)=decide (a=b):=by
 by_cases e:a=b;{subst e;simp};{have h:¬ (acp a:Key)=acp b:=fun q=>e (Sum.inr.inj q);rw[decide_eq_false h,decide_eq_false e]}
def Ss (a:Int)(b:Wt):decide ((Xf a:Key)=acp b)=false:=decide_eq_false (fun q=>nomatch q)
def RB (a:Wt)(b:Int):decide ((acp a:Key)=Xf b)=false:=decide_eq_false (fun q=>nomatch q)
def dH (prog:Wi)(w:Wy):PySem.KeyKind prog w Key where
 is:=z9
 hash:=Vm w
 inj:=fun v a b ha hb=>by
  rcases cD ha with⟨i,t,rfl,rfl⟩ | ⟨x,t,rfl,rfl⟩
  ·rcases cD hb with⟨j,u,rfl,e⟩ | ⟨y,u,rfl,e⟩;{injection e with e1 _;rw[e1]};{exact nomatch e}
  ·rcases cD hb with⟨j,u,rfl,e⟩ | ⟨y,u,rfl,e⟩;{exact nomatch e};{injection e with e1 _;rw[e1]}
 byValue:=fun k v h=>by
  rcases cD h with⟨i,t,rfl,rfl⟩ | ⟨x,t,rfl,rfl⟩ <;> rfl
 pyHash:=fun hv h=>by
  rcases cD hv with⟨i,t,rfl,rfl⟩ | ⟨x,t,rfl,rfl⟩;{exact wpAny_pyHash_int h};{exact wpAny_pyHash_str h}
 eqBool:=fun hu hv h=>by
  rcases cD hu with⟨i,t,rfl,rfl⟩ | ⟨x,t,rfl,rfl⟩
  ·rcases cD hv with⟨j,u,rfl,rfl⟩ | ⟨y,u,rfl,rfl⟩;{rw[Tn] at h;exact wpAny_eqBool_int h};{rw[Ss] at h;exact SeqAt.EqAt.int_str i t y u _ _ _ _ h}
  ·rcases cD hv with⟨j,u,rfl,rfl⟩ | ⟨y,u,rfl,rfl⟩;{rw[RB] at h;exact SeqAt.EqAt.str_int x t j u _ _ _ _ h};{rw[Rv] at h;exact wpAny_eqBool_str h}
 «strs»:=fun k x t v h=>by
  rcases cD h with⟨i,u,rfl,e⟩ | ⟨y,u,rfl,e⟩;{exact nomatch e};{injection e with e1 _;subst e1;cases v <;> rfl}
def Ah (prog:Wi)(w:Wy)(i:Int)(t:Tok):(dH prog w).is (.inl i) (.int i t)=true:=Fq i t
def zy (prog:Wi)(w:Wy)(x:Wt)(t:Tok):(dH prog w).is (.inr x) (.str x t)=true:=Gf x t
inductive V where
 | non | bl (b:Bool) | int (i:Int) | str (x:Wt) | byt (b:Array UInt8) | flt (b:UInt64) | ref (a:Addr) | ty (n:String)
 deriving DecidableEq
def RelV:V->Value->Prop
 | .non,u=>u=Xn
 | .bl b,u=>u=abx b
 | .int i,u=>∃ t,u=YT i t
 | .str x,u=>∃ t,u=abW x t
 | .byt b,u=>∃ t,u=Value.bytes b t
 | .flt b,u=>∃ t,u=Value.float b t
 | .ref a,u=>u=We a
 | .ty n,u=>u=Y9 n
abbrev Vals:List V->DJ->Prop:=Paired RelV
def Vals.length {xs:List V}{us:DJ}(r:Vals xs us):xs.length=us.length:=Paired.length r
theorem Vals.get:∀ {xs:List V} {us:DJ} {i:Nat} {x:V},Vals xs us->xs[i]? = some x->∃ u,us[i]? = some u/\RelV x u
 | _,_,_,_,.nil,e=>by simp at e
 | _,_,0,_,.cons r _,e=>by simp at e;subst e;exact⟨_,U,r⟩
 | _,_,i+1,x,.cons _ t,e=>by
  obtain⟨u,h1,h2⟩:=Vals.get (i:=i) (x:=x) t (by simpa using e);exact⟨u,by simpa using h1,h2⟩
theorem Vals.set {x:V}{u:Value}(r:RelV x u):∀ {xs:List V} {us:DJ} (i:Nat),Vals xs us->Vals (xs.set i x) (us.set i u)
 | _,_,_,.nil=>.nil
 | _,_,0,.cons _ t=>.cons r t
 | _,_,i+1,.cons q t=>.cons q (Vals.set r i t)
theorem Vals.append:∀ {xs ys:List V} {us ws:DJ},Vals xs us->Vals ys ws->Vals (xs++ys) (us++ws)
 | _,_,_,_,.nil,s=>s
 | _,_,_,_,.cons r t,s=>.cons r (Vals.append t s)
theorem Vals.take:∀ {xs:List V} {us:DJ} (n:Nat),Vals xs us->Vals (xs.take n) (us.take n)
 | _,_,0,_=>.nil
 | _,_,_+1,.nil=>.nil
 | _,_,n+1,.cons r t=>.cons r (Vals.take n t)
theorem Vals.drop:∀ {xs:List V} {us:DJ} (n:Nat),Vals xs us->Vals (xs.drop n) (us.drop n)
 | _,_,0,r=>r
 | _,_,_+1,.nil=>.nil
 | _,_,n+1,.cons _ t=>Vals.drop n t
def vC:Option V->DE->Prop
 | some v,some u=>RelV v u
 | none,none=>True
 | _,_=>False
def KV {κ:Type}:List (κ × V)->List (κ × Value)->Prop:=Paired fun (p:κ × V) (q:κ × Value)=>p.1=q.1/\RelV p.2 q.2
def kV:Key->V
 | .inl i=>.int i
 | .inr x=>.str x
inductive HO where
 /-- a list -/
 | lst (xs:List V)
 /-- a tuple (never changes) -/
 | tup (xs:List V)
 /-- a dict whose keys are ints and texts;one whose keys are tuples of ints and texts (the empty one is both) -/
 | dK (kvs:List (Key × V)) | dT (kvs:List (List Key × V))
 /-- a set of ints: its members,its size -/
 | set (S:Int->Bool) (n:Nat)
 /-- an instance of the class at C,its dict at dx,its attributes -/
 | ins (C dx:Addr) (fs:List (Wt × V))
 /-- the dict of the instance at x -/
 | own (x:Addr)
 /-- the dict of an exception -/
 | xd (fs:List (Wt × V))
 /-- a bound method,f of x -/
 | met (f x:Addr)
 /-- a range object lo,lo+1,.. below hi -/
 | rng (lo hi:Int)
 /-- a thing that is known to the object (the script;a dict while a loop walks it): read,never written while it is so -/
 | frz (o:YB) (u:HO)
 /-- a code object's table -/
 | tbl (ps:Array Value)
 /-- any other thing,by what is true of its one object (a def of one's own: SetO a S n:=HO.ext fun h=>..) -/
 | ext (φ:WT->Prop)
abbrev Hp:=Addr->Option HO
def upd (H:Hp)(a:Addr)(o:HO):Hp:=fun b=>if b=a then some o else H b
def aa {H:Hp}{a:Addr}{o:HO}:upd H a o a=some o:=by unfold upd;rw[if_pos U]
def aL {H:Hp}{a b:Addr}{o:HO}(h:b≠a):upd H a o b=H b:=by unfold upd;rw[if_neg h]
def uQ {H:Hp}{a:Addr}{o u:HO}:upd (upd H a o) a u=upd H a u:=by
 funext b;unfold upd;split <;> rfl
def Ub {H:Hp}{a b:Addr}{o u:HO}(h:H a=some o)(h':H b=some u)(d:o≠u):a≠b:=by
 intro e;subst e;rw[h] at h';exact d (WL h')
def cT {H:Hp}{a b:Addr}{o:HO}(h:H a=some o)(h':H b=none):a≠b:=by
 intro e;subst e;rw[h] at h';cases h'
section
variable (P:Wi)(w:Wy)
def dU (H:Hp)(h:WT)(a:Addr):HO->Prop
 | .lst xs=>xs.length<=sizeLine/\∃ (its:DJ) (n:Nat),Vals xs its/\h.get? a=some { cls:=.type "list",data:=.seq its.toArray n }
 | .tup xs=>xs.length<=sizeLine/\∃ its:DJ,Vals xs its/\IsTup h a its.toArray
 | .dK kvs=>kvs.length<=sizeLine/\(a == ZR)=false/\∃ vs,KV kvs vs/\h.DictOf (dH P w) a vs
 | .dT kvs=>kvs.length<=sizeLine/\(a == ZR)=false/\∃ xs:List (List Key × Addr × Value),
   Paired (fun (p:List Key × V) (q:List Key × Addr × Value)=>p.1=q.1/\H q.2.1=some (.tup (p.1.map kV))/\RelV p.2 q.2.2) kvs xs ∧
   ∃ o es ep,h.get? a=some o/\o.ExactDict/\o.data = .dict es ep/\es.toList=xs.map (entryOfKey (acG (dH P w)))/\(xs.map (·.1)).Nodup
 | .set S n=>h.SetOf (Z3 P w) a S n
 | .ins C dx fs=>H dx=some (.own a)/\fs.length<=1000/\dx≠a/\h.get? a=some (Y6 C dx) ∧
   ∃ mA,h.Ns1 dx mA/\(∀ f,vC (fs.lookup f) (mA f))/\PySem.Within mA (fs.map (·.1))
 | .own _=>∃ o,h.get? a=some o
 | .xd fs=>∃ mA,h.Ns1 a mA/\∀ f,vC (fs.lookup f) (mA f)
 | .rng lo hi=>∃ t u v,h.get? a=some { cls:=.type "range",data:=.fields #[.int lo t,.int hi u,.int 1 v] }
 | .frz o u=>h.get? a=some o/\dU H h a u
 | .tbl ps=>h.get? a=some { cls:=.none,data:=.fields ps }
 | .met f x=>h.get? a=some (acs (.ref f) (.ref x))
 | .ext φ=>φ h/\(∃ o,h.get? a=some o)/\∀ h1 h2:WT,φ h1->(∀ o,h1.get? a=some o->h2.get? a=some o)->φ h2
def HOk (H:Hp)(h:WT):Prop:=∀ a o,H a=some o->dU P w H h a o
end
section
variable {P:Wi}{w:Wy}{H H':Hp}{h h':WT}{a:Addr}{o:HO}
def dU.lt (x:dU P w H h a o):a < h.objs.size:=by
 cases o with
 | lst xs=>obtain⟨_,_,_,_,e⟩:=x;exact V9 e
 | tup xs=>obtain⟨_,_,_,p⟩:=x;exact p.lt
 | dK kvs=>obtain⟨_,_,_,_,o,_,_,e,_⟩:=x;exact V9 e
 | dT kvs=>obtain⟨_,_,_,_,o,_,_,e,_⟩:=x;exact V9 e
 | set S n=>obtain⟨o,_,_,_,e,_⟩:=x;exact V9 e
 | ins C dx fs=>obtain⟨_,_,_,e,_⟩:=x;exact V9 e
 | own y=>obtain⟨_,e⟩:=x;exact V9 e
 | xd fs=>obtain⟨_,⟨_,_,_,e,_⟩,_⟩:=x;exact V9 e
 | rng lo hi=>obtain⟨_,_,_,e⟩:=x;exact V9 e
 | frz ob u=>obtain⟨e,_⟩:=x;exact V9 e
 | tbl ps=>exact V9 (show h.get? a=some _ from x)
 | met f y=>exact V9 (show h.get? a=some _ from x)
 | ext φ=>obtain⟨_,⟨_,e⟩,_⟩:=x;exact V9 e
theorem Paired.T4 {α β:Type}{F G:α->β->Prop}:∀ {l₁:List α} {l₂:List β},Paired F l₁ l₂->(∀ a b,F a b->G a b)->Paired G l₁ l₂
 | _,_,.nil,_=>.nil
 | _,_,.cons r t,f=>.cons (f _ _ r) (Paired.T4 t f)
def dU.stay (x:dU P w H h a o)(k:∀ b u,(b=a∨H b=some (.own a))->h.get? b=some u->h'.get? b=some u)
  (ho:∀ b,H b=some (.own a)->H' b=some (.own a)) (ht:∀ b xs,H b=some (.tup xs)->H' b=some (.tup xs)):dU P w H' h' a o:=by
 induction o with
 | lst xs=>obtain⟨z,its,n,r,e⟩:=x;exact⟨z,its,n,r,k _ _ (.inl U) e⟩
 | tup xs=>obtain⟨z,its,r,ob,e,c⟩:=x;exact⟨z,its,r,ob,k _ _ (.inl U) e,c⟩
 | dK kvs=>obtain⟨z,y,vs,r,ob,es,ep,e,c⟩:=x;exact⟨z,y,vs,r,ob,es,ep,k _ _ (.inl U) e,c⟩
 | dT kvs =>
  obtain⟨z,y,xs,r,ob,es,ep,e,c⟩:=x;exact⟨z,y,xs,Paired.T4 r fun p q z=>⟨z.1,ht _ _ z.2.1,z.2.2⟩,ob,es,ep,k _ _ (.inl U) e,c⟩
 | set S n=>obtain⟨ob,es,ep,t,e,c⟩:=x;exact⟨ob,es,ep,t,k _ _ (.inl U) e,c⟩
 | ins C dx fs =>
  obtain⟨d,z,ne,e,mA,⟨od,es,ep,e2,c⟩,r⟩:=x;exact⟨ho _ d,z,ne,k _ _ (.inl U) e,mA,⟨od,es,ep,k _ _ (.inr d) e2,c⟩,r⟩
 | own y=>obtain⟨ob,e⟩:=x;exact⟨ob,k _ _ (.inl U) e⟩
 | xd fs=>obtain⟨mA,⟨od,es,ep,e,c⟩,r⟩:=x;exact⟨mA,⟨od,es,ep,k _ _ (.inl U) e,c⟩,r⟩
 | rng lo hi=>obtain⟨t,u,v,e⟩:=x;exact⟨t,u,v,k _ _ (.inl U) e⟩
 | frz ob u ih=>obtain⟨e,q⟩:=x;exact⟨k _ _ (.inl U) e,ih q⟩
 | tbl ps =>
  have e:h.get? a=some { cls:=.none,data:=.fields ps }:=x;show h'.get? a=some { cls:=.none,data:=.fields ps };exact k a _ (.inl U) e
 | met f y =>
  have e:h.get? a=some (acs (.ref f) (.ref y)):=x;show h'.get? a=some (acs (.ref f) (.ref y));exact k a _ (.inl U) e
 | ext φ=>obtain⟨p,⟨o,e⟩,st⟩:=x;exact⟨st _ _ p fun o q=>k _ _ (.inl U) q,⟨o,k _ _ (.inl U) e⟩,st⟩
def HOk.lt (x:HOk P w H h)(e:H a=some o):a < h.objs.size:=(x a o e).lt
def HOk.fresh (x:HOk P w H h)(e:h.objs.size<=a):H a=none:=by
 cases q:H a with
 | none=>rfl
 | some u=>exact absurd (V4 (x.lt q) e) (Xa _)
def HOk.kept (x:HOk P w H h)(k:∀ b u,h.get? b=some u->h'.get? b=some u):HOk P w H h':=fun a o e =>
 (x a o e).stay (fun b u _ q=>k b u q) (fun _ q=>q) fun _ _ q=>q
def HOk.laid (x:HOk P w H h)(k:∀ b u,h.get? b=some u->h'.get? b=some u)(hp:h.objs.size<=a)(new:dU P w (upd H a o) h' a o):HOk P w (upd H a o) h':=fun b u e=>by
 have hn:=x.fresh hp;by_cases hb:b=a;{subst hb;rw[aa] at e;cases e;exact new};{rw[aL hb] at e;exact (x b u e).stay (fun c v _ q=>k c v q) (fun c q=>by rw[aL (cT q hn)];exact q) fun c xs q=>by rw[aL (cT q hn)];exact q}
end
def Rd (H:Hp)(a:Addr)(u:HO):Prop:=H a=some u∨∃ o,H a=some (.frz o u)
def Rd.ok {P:Wi}{w:Wy}{H:Hp}{h:WT}{a:Addr}{u:HO}(r:Rd H a u)(x:HOk P w H h):dU P w H h a u:=by
 rcases r with r | ⟨o,r⟩;{exact x a u r};{obtain⟨_,q⟩:=x a _ r;exact q}
def Mut:Option HO->Prop
 | some (.lst _)=>True
 | some (.dK _)=>True
 | some (.dT _)=>True
 | some (.set _ _)=>True
 | some (.ins _ _ _)=>True
 | some (.ext _)=>True
 | _=>False
section
variable {P:Wi}{w:Wy}{H:Hp}{h h':WT}{x e:Addr}{o':HO}
def HOk.write (ok:HOk P w H h)(mu:Mut (H x))(he:e=x∨H e=some (.own x))(k:∀ b u,b≠e->h.get? b=some u->h'.get? b=some u)(heo:∃ u,h'.get? e=some u)
  (new:dU P w (upd H x o') h' x o'):HOk P w (upd H x o') h':=fun b u q=>by
 have nown:∀ c y,H c=some (.own y)->c≠x:=fun c y r z=>by subst z;rw[r] at mu;exact mu
 have ntup:∀ c xs,H c=some (.tup xs)->c≠x:=fun c xs r z=>by subst z;rw[r] at mu;exact mu
 by_cases hb:b=x;{subst hb;rw[aa] at q;cases q;exact new}
 ·rw[aL hb] at q;by_cases hbe:b=e
  ·have q':H b=some (.own x):=by
    rcases he with z | z;{exact absurd (hbe.trans z) hb};{rw[hbe];exact z}
   rw[q] at q';cases q';obtain⟨v,hv⟩:=heo;exact⟨v,by rw[hbe];exact hv⟩
  ·refine (ok b u q).stay (fun c v hc r=>k c v ?_ r) (fun c r=>by rw[aL (nown c b r)];exact r) fun c xs r=>by rw[aL (ntup c xs r)];exact r
   rcases hc with rfl | hc;{exact hbe}
   ·rintro rfl;rcases he with z | z;{exact nown c b hc z};{rw[hc] at z;cases z;exact hb U}
end
structure Un (fs ex:DM)(H H':Hp)(h h':WT):Prop where
 keep:∀ b o,h.get? b=some o->H b=none->b ∉ fs->b ∉ ex->h'.get? b=some o
 slot:∀ b o,h.get? b=some o->H b=none->b∈fs->b ∉ ex->∃ sl,h'.get? b=some { o with slots:=sl }
 free:∀ b o,h.get? b=some o->H b=none->b ∉ ex->H' b=none
 there:∀ b o,h.get? b=some o->b ∉ ex->∃ o',h'.get? b=some o'
 tups:∀ b xs,H b=some (.tup xs)->H' b=some (.tup xs)
 frzs:∀ b o u,H b=some (.frz o u)->H' b=some (.frz o u)
 tbls:∀ b ps,H b=some (.tbl ps)->∃ more,H' b=some (.tbl (ps++more))
section
variable {fs fs' ex ex':DM}{H H1 H2:Hp}{h h1 h2 h':WT}{a x e:Addr}{o:HO}
def Un.any (u:Un fs ex H H1 h h1){b:Addr}{ob:YB}(q:h.get? b=some ob)(n:H b=none)(hx:b ∉ ex):∃ sl,h1.get? b=some { ob with slots:=sl }:=by
 by_cases hb:b∈fs;{exact u.slot b ob q n hb hx};{exact⟨ob.slots,u.keep b ob q n hb hx⟩}
def Un.trans (a:Un fs ex H H1 h h1)(b:Un fs ex H1 H2 h1 h2):Un fs ex H H2 h h2 where
 keep:=fun c ob q n hc hx=>b.keep c ob (a.keep c ob q n hc hx) (a.free c ob q n hx) hc hx
 slot:=fun c ob q n hc hx=>by
  obtain⟨sl,e1⟩:=a.slot c ob q n hc hx;obtain⟨sl',e2⟩:=b.slot c _ e1 (a.free c ob q n hx) hc hx;exact⟨sl',e2⟩
 free:=fun c ob q n hx=>by
  obtain⟨o',e1⟩:=a.there c ob q hx;exact b.free c o' e1 (a.free c ob q n hx) hx
 there:=fun c ob q hx=>by
  obtain⟨o',e1⟩:=a.there c ob q hx;exact b.there c o' e1 hx
 tups:=fun c xs q=>b.tups c xs (a.tups c xs q)
 frzs:=fun c ob xs q=>b.frzs c ob xs (a.frzs c ob xs q)
 tbls:=fun c ps q=>by
  obtain⟨m1,e1⟩:=a.tbls c ps q;obtain⟨m2,e2⟩:=b.tbls c _ e1;exact⟨m1++m2,by rw[e2,aci]⟩
def Un.kept (k:∀ b u,h.get? b=some u->h'.get? b=some u):Un fs ex H H h h' :=
 ⟨fun b ob q _ _ _=>k b ob q,fun b ob q _ _ _=>⟨ob.slots,k b ob q⟩,fun _ _ _ n _=>n,fun b ob q _=>⟨ob,k b ob q⟩,fun _ _ q=>q,fun _ _ _ q=>q,fun _ ps q=>⟨#[],by rw[q];simp⟩⟩
def Un.refl:Un fs ex H H h h:=Un.kept fun _ _ q=>q
def Un.laid (k:∀ b u,h.get? b=some u->h'.get? b=some u)(hp:h.objs.size<=a)(hn:H a=none):Un fs ex H (upd H a o) h h' where
 keep:=fun b u q _ _ _=>k b u q
 slot:=fun b u q _ _ _=>⟨u.slots,k b u q⟩
 free:=fun b u q n _=>by rw[aL (Wh (V4 (V9 q) hp))];exact n
 there:=fun b u q _=>⟨u,k b u q⟩
 tups:=fun b xs q=>by rw[aL (cT q hn)];exact q
 frzs:=fun b u xs q=>by rw[aL (cT q hn)];exact q
 tbls:=fun b ps q=>⟨#[],by rw[aL (cT q hn),q];simp⟩
def Un.write (mu:Mut (H x))(he:e=x∨H e=some (.own x))(k:∀ b u,b≠e->h.get? b=some u->h'.get? b=some u)(heo:∃ u,h'.get? e=some u):Un fs ex H (upd H x o) h h':=by
 have hx:∀ b,H b=none->b≠x:=fun b n z=>by subst z;rw[n] at mu;exact mu
 have hb:∀ b,H b=none->b≠e:=fun b n z=>by
  subst z;rcases he with r | r;{exact hx b n r};{rw[n] at r;cases r}
 have hm:∀ b u,H b=some u->¬ Mut (some u)->b≠x:=fun b u q nm z=>by subst z;rw[q] at mu;exact nm mu
 refine⟨fun b u q n _ _=>k b u (hb b n) q,fun b u q n _ _=>⟨u.slots,k b u (hb b n) q⟩,fun b u q n _=>by rw[aL (hx b n)];exact n,fun b u q _=>?_,
  fun b xs q=>by rw[aL (hm b _ q fun z=>z)];exact q,fun b u xs q=>by rw[aL (hm b _ q fun z=>z)];exact q,fun b ps q=>⟨#[],by rw[aL (hm b _ q fun z=>z),q];simp⟩⟩
 by_cases hbe:b=e;{subst hbe;exact heo};{exact⟨u,k b u hbe q⟩}
end
def trk (h:WT)(H:Hp):DM:=(Xb h.objs.size).filter fun a=>(H a).isSome
def K9 (h:WT)(H:Hp):WT:=ac2 h (trk h H)
def HY (h:WT)(H:Hp):(K9 h H).objs.size=h.objs.size:=PySem.W.hideAll_size _ _
def JX {h:WT}{H:Hp}{b:Addr}{o:YB}(e:h.get? b=some o)(n:H b=none):(K9 h H).get? b=some o :=
 PySem.W.hideAll_get _ e fun hm=>by
  have q:(H b).isSome=true:=(List.mem_filter.mp hm).2;rw[n] at q;simp at q
def Oe {h:WT}{H:Hp}{b:Addr}{o:YB}(e:(K9 h H).get? b=some o):h.get? b=some o/\H b=none:=by
 have e':h.get? b=some o:=PySem.W.of_hideAll (trk h H) e;refine⟨e',?_⟩;cases q:H b with
 | none=>rfl
 | some x =>
  have hm:b∈trk h H:=List.mem_filter.mpr ⟨List.mem_range.mpr (V9 e'),by simp [q]⟩;have z:(K9 h H).get? b=none:=PySem.W.hideAll_none (trk h H) hm;rw[z] at e;cases e
def Oq (g h:WT)(L:Addr):Do:=(Xb h.objs.size).filterMap fun a=>if a=L∨(g.get? a).isSome=true then none else (h.get? a).map fun o=>(a,o)
def rest (g h:WT)(L d:Addr):Do:=(Oq g h L).filter fun p=>decide (p.1≠d)
structure Mod (K:V8)(mg:Wt->DE)(base:WT):Prop where
 kin:K.In base
 glob:base.Ns Wm mg
 blt:∃ mb,base.Ns builtinsNs mb/\∀ x:Wt,x≠"__name__"->mb x=W6 x
 nolimit:base.NoLimit
structure Cx where
 prog:Wi
 w:Wy
 K:V8
 mg:Wt->DE
 base:WT
 A:WM
 N:D0
 s₀:VL
 H₀:Hp
 env:Env
 outer:DT
 stack:DT
 ex:DM
 fn:Wt->Bool
 calm:Bool
 pn:Do
 xe:DC
def frs (l:DT):DM:=l.filterMap (·.frame)
abbrev Cx.fs (X:Cx):DM:=frs X.outer
def Vis (sc:YH)(x:Wt):Prop:=sc.names.lookup x=some .local∨sc.names.lookup x=some .cell∨sc.names.lookup x=some .free
def Loc (sc:YH)(x:Wt):Prop:=sc.names.lookup x=some .local∨sc.names.lookup x=some .cell
def Look (env:Env)(h:WT)(m:Wt->DE)(x:Wt)(u:Value):Prop :=
 (env.kindOf x=some .local/\m x=some u)∨((env.kindOf x=some .cell∨env.kindOf x=some .free)/\∃ c,env.cells.lookup x=some c/\h.IsCell c (some u))
structure Cx.Ok (X:Cx):Prop where
 mod:Mod X.K X.mg X.base
 kind:X.env.scope.kind = .function
 glob:X.env.globals=Wm
 blt:X.env.builtins=builtinsNs
 above:X.s₀.heap.objs.size<=X.env.locals
 inj:∀ x y c,X.env.cells.lookup x=some c->X.env.cells.lookup y=some c->x=y
 has:∀ x,(X.env.kindOf x=some .cell∨X.env.kindOf x=some .free)->∃ c,X.env.cells.lookup x=some c
 cab:∀ x c,X.fn x=true->X.env.cells.lookup x=some c->X.s₀.heap.objs.size<=c
 hd:X.calm=true->X.A.handled=none
 frames:X.A.frames=some X.stack
 stk:X.stack=X.outer∨(X.stack=X.env::X.outer/\X.env.frame=some X.env.locals)
 exf:∀ b∈X.ex,b≠X.env.locals/\∀ x c,X.env.cells.lookup x=some c->c≠b
 bs:∀ b o,X.base.get? b=some o->X.s₀.heap.get? b=some o/\X.H₀ b=none
 bsz:X.base.objs.size<=X.s₀.heap.objs.size
 noex:∀ b o,X.base.get? b=some o->b ∉ X.ex
 exfs:∀ b∈X.ex,b ∉ X.fs
 wM:X.s₀.heap.FunFrames X.base X.outer
 frf:∀ b∈X.fs,X.H₀ b=none
structure Inv (X:Cx)(ZY:Do)(σ:List (Option V))(H:Hp)(s:VL):Prop where
 ok:X.Ok
 os:s.os=X.s₀.os
 bare:abe s.gens
 base:Un X.fs X.ex X.H₀ H X.s₀.heap s.heap
 loc:∃ m,s.heap.Ns X.env.locals m/\∀ (i:Nat) (x:Wt) (v:V),X.N[i]? = some x->σ[i]? = some (some v)->Vis X.env.scope x->∃ u,RelV v u/\Look X.env s.heap m x u
 cell:∀ x c,X.env.cells.lookup x=some c->∃ v,s.heap.IsCell c v
 free:H X.env.locals=none
 freeC:∀ x c,X.env.cells.lookup x=some c->H c=none
 pin:∀ p∈X.pn++ZY,s.heap.get? p.1=some p.2/\H p.1=none/\p.1≠X.env.locals/\p.1 ∉ X.fs/\∀ v,p.2.data≠.cell v
 hok:HOk X.prog X.w H s.heap
 len:σ.length=X.N.length
section
variable {X:Cx}{ZY:Do}{σ:List (Option V)}{H H':Hp}{s:VL}{h':WT}
def Cx.Ok.Vn (ok:X.Ok){b:Addr}{o:YB}(e:X.base.get? b=some o):b ∉ X.fs:=fun hb=>by
 have:=(ok.wM.mem hb).1;rw[e] at this;cases this
def Inv.bs (I:Inv X ZY σ H s):∀ b o,X.base.get? b=some o->s.heap.get? b=some o/\H b=none:=fun b o e =>
 ⟨I.base.keep b o (I.ok.bs b o e).1 (I.ok.bs b o e).2 (I.ok.Vn e) (I.ok.noex b o e),I.base.free b o (I.ok.bs b o e).1 (I.ok.bs b o e).2 (I.ok.noex b o e)⟩
def Inv.bk (I:Inv X ZY σ H s):∀ b o,X.base.get? b=some o->s.heap.get? b=some o:=fun b o e=>(I.bs b o e).1
def Inv.mod (I:Inv X ZY σ H s):Mod X.K X.mg X.base:=I.ok.mod
def Inv.kIn (I:Inv X ZY σ H s):X.K.In s.heap:=I.ok.mod.kin.keeps I.bk
def Inv.fr (I:Inv X ZY σ H s):∃ m,Fr X.base X.env.locals s.heap m :=
 let ⟨m,hn,_⟩:=I.loc
 ⟨m,hn,I.bk,Wn I.ok.bsz I.ok.above⟩
def Inv.lt (I:Inv X ZY σ H s):X.env.locals < s.heap.objs.size:=let ⟨_,hn,_⟩:=I.loc;hn.lt
def Inv.sz (I:Inv X ZY σ H s):X.s₀.heap.objs.size<=s.heap.objs.size:=Wn I.ok.above (Yi I.lt)
def Inv.VF (I:Inv X ZY σ H s){a:Addr}(h:s.heap.objs.size<=a):a ∉ X.fs:=fun hb=>by
 obtain⟨_,o,ho,_⟩:=I.ok.wM.mem hb;exact absurd (V4 (V9 ho) (Wn I.sz h)) (Xa _)
def Inv.cne (I:Inv X ZY σ H s):∀ x c,X.env.cells.lookup x=some c->c≠X.env.locals:=fun x c e z=>by
 obtain⟨v,o,ho,hd⟩:=I.cell x c e;obtain⟨m,⟨o',es,ep,ho',hd',_⟩,_⟩:=I.loc;rw[z,ho'] at ho;cases ho;rw[hd'] at hd;cases hd
def Inv.wM (I:Inv X ZY σ H s):s.heap.FunFrames X.base X.outer:=by
 have all:∀ (l:DT),(∀ b∈frs l,b∈X.fs)->X.s₀.heap.FunFrames X.base l->s.heap.FunFrames X.base l:=by
  intro l
  induction l with
  | nil=>intro _ _;trivial
  | cons env r ih =>
   intro hs hl;obtain⟨hk,⟨L,o,hf,hn,ho,hd⟩,hr⟩:=hl;have hL:L∈X.fs:=hs L (by unfold frs;rw[YK,hf];exact V0);obtain⟨sl,e⟩:=I.base.slot L o ho (I.ok.frf L hL) hL fun z=>I.ok.exfs L z hL;exact⟨hk,⟨L,_,hf,hn,e,hd⟩,ih (fun b hb=>hs b (by unfold frs;rw[YK,hf];exact V7 _ hb)) hr⟩
 exact all X.outer (fun _ hb=>hb) I.ok.wM
def Inv.stack (I:Inv X ZY σ H s):s.heap.FunFrames X.base X.stack:=by
 rcases I.ok.stk with e | ⟨e,hf⟩;{rw[e];exact I.wM};{rw[e];obtain⟨m,hn,_⟩:=I.loc;refine .cons (by rw[I.ok.kind];decide) hf hn ?_ I.wM;exact Heap.get?_none_of_le (Wn I.ok.bsz I.ok.above)}
def Inv.yG (I:Inv X ZY σ H s):∀ b∈frs X.stack,b∈X.env.locals::X.fs:=fun b hb=>by
 rcases I.ok.stk with e | ⟨e,hf⟩;{rw[e] at hb;exact V7 _ hb};{rw[e] at hb;unfold frs at hb;rw[YK,hf] at hb;exact hb}
def Inv.vQ (I:Inv X ZY σ H s):∀ b∈frs X.stack,H b=none:=fun b hb=>by
 rcases List.mem_cons.mp (I.yG b hb) with e | hb;{rw[e];exact I.free};{obtain⟨_,o,ho,_⟩:=I.ok.wM.mem hb;exact I.base.free b o ho (I.ok.frf b hb) fun z=>I.ok.exfs b z hb}
def Inv.step {g':Array acC}{t':Nat}{d':Drawn}{ch:DM}(I:Inv X ZY σ H s)
  (hch:∀ b∈ch,(b∈X.ex∨X.s₀.heap.objs.size<=b)/\b≠X.env.locals/\(∀ x c,X.env.cells.lookup x=some c->c≠b)/\∀ p∈X.pn++ZY,p.1≠b)
  (keep:∀ b o,b≠X.env.locals->b ∉ X.fs->b ∉ ch->s.heap.get? b=some o->H b=none->h'.get? b=some o)
  (slot:∀ b o,b≠X.env.locals->b∈X.fs->b ∉ ch->s.heap.get? b=some o->H b=none->∃ sl,h'.get? b=some { o with slots:=sl }) (free:∀ b o,b ∉ ch->s.heap.get? b=some o->H b=none->H' b=none)
  (there:∀ b o,b ∉ ch->s.heap.get? b=some o->∃ o',h'.get? b=some o')
  (tups:∀ b xs,H b=some (.tup xs)->H' b=some (.tup xs)) (frzs:∀ b o u,H b=some (.frz o u)->H' b=some (.frz o u)) (tbls:∀ b ps,H b=some (.tbl ps)->∃ more,H' b=some (.tbl (ps++more)))
  (ns:∀ m,s.heap.Ns X.env.locals m->h'.Ns X.env.locals m) (hok:HOk X.prog X.w H' h') (hg:abe g') :
  Inv X ZY σ H' { s with heap:=h',gens:=g',drawn:=d',toks:=t' }:=by
 have neL:∀ b o,X.s₀.heap.get? b=some o->b≠X.env.locals:=fun b o e=>Wh (V4 (V9 e) I.ok.above);have neC:∀ b o,X.s₀.heap.get? b=some o->b ∉ X.ex->b ∉ ch:=fun b o e hx hb=>by
  rcases (hch b hb).1 with z | z;{exact hx z};{exact absurd (V4 (V9 e) z) (Xa _)}
 have cellK:∀ x c,X.env.cells.lookup x=some c->∀ v,s.heap.IsCell c v->h'.IsCell c v:=fun x c e v ⟨o,ho,hd⟩=>by
  have nch:c ∉ ch:=fun z=>(hch c z).2.2.1 x c e U;by_cases hc:c∈X.fs;{obtain⟨sl,q⟩:=slot c o (I.cne x c e) hc nch ho (I.freeC x c e);exact⟨_,q,hd⟩};{exact⟨o,keep c o (I.cne x c e) hc nch ho (I.freeC x c e),hd⟩}
 refine⟨I.ok,I.os,hg,⟨fun b o e n hb hx=>?_,fun b o e n hb hx=>?_,fun b o e n hx=>?_,fun b o e hx=>?_,fun b xs e=>tups b xs (I.base.tups b xs e),fun b o xs e=>frzs b o xs (I.base.frzs b o xs e),fun b ps e=>?_⟩,?_,fun x c e=>?_,?_,fun x c e=>?_,fun p hp=>?_,hok,I.len⟩;{exact keep b o (neL b o e) hb (neC b o e hx) (I.base.keep b o e n hb hx) (I.base.free b o e n hx)};{obtain⟨sl,e1⟩:=I.base.slot b o e n hb hx;obtain⟨sl',e2⟩:=slot b _ (neL b o e) hb (neC b o e hx) e1 (I.base.free b o e n hx);exact⟨sl',e2⟩};{obtain⟨o',e1⟩:=I.base.there b o e hx;exact free b o' (neC b o e hx) e1 (I.base.free b o e n hx)};{obtain⟨o',e1⟩:=I.base.there b o e hx;exact there b o' (neC b o e hx) e1};{obtain⟨m1,e1⟩:=I.base.tbls b ps e;obtain⟨m2,e2⟩:=tbls b _ e1;exact⟨m1++m2,by rw[e2,aci]⟩}
 ·obtain⟨m,hn,hl⟩:=I.loc;refine⟨m,ns m hn,fun i x v e1 e2 e3=>?_⟩;obtain⟨u,r,l⟩:=hl i x v e1 e2 e3;refine⟨u,r,?_⟩;rcases l with l | ⟨k,c,e,z⟩;{exact .inl l};{exact .inr ⟨k,c,e,cellK x c e _ z⟩}
 ·obtain⟨v,z⟩:=I.cell x c e;exact⟨v,cellK x c e v z⟩
 ·obtain⟨m,⟨o,_,_,ho,_⟩,_⟩:=I.loc;exact free _ o (fun z=>(hch _ z).2.1 U) ho I.free
 ·obtain⟨v,o,ho,hd⟩:=I.cell x c e;exact free c o (fun z=>(hch c z).2.2.1 x c e U) ho (I.freeC x c e)
 ·obtain⟨e,n,ne,nf,d⟩:=I.pin p hp;have nch:p.1 ∉ ch:=fun z=>(hch p.1 z).2.2.2 p hp U;exact⟨keep p.1 p.2 ne nf nch e n,free p.1 p.2 nch e n,ne,nf,d⟩
def Inv.un {t':Nat}(I:Inv X ZY σ H s)(u:Un X.fs [] H H' s.heap h')(hok:HOk X.prog X.w H' h'):Inv X ZY σ H' { s with heap:=h',toks:=t' }:=by
 obtain⟨m,⟨o,es,ep,ho,r⟩,_⟩:=id I.loc;obtain⟨sl,hL⟩:=u.any ho I.free (by simp)
 exact I.step (g':=s.gens) (d':=s.drawn) (ch:=[]) (fun _ z=>nomatch z) (fun b o _ hb _ e n=>u.keep b o e n hb (by simp)) (fun b o _ hb _ e n=>u.slot b o e n hb (by simp)) (fun b o _ e n=>u.free b o e n (by simp)) (fun b o _ e=>u.there b o e (by simp)) u.tups u.frzs u.tbls (fun m' hm=>by
  obtain⟨o',es',ep',ho',r'⟩:=hm;rw[ho] at ho';cases ho'
  exact⟨_,es',ep',hL,r'⟩) hok I.bare
def Inv.call {g':Array acC}{t':Nat}{d':Drawn}{ch:DM}(I:Inv X ZY σ H s)(u:Un (frs X.stack) ch H H' s.heap h')(hok:HOk X.prog X.w H' h')(hg:abe g')
  (hch:∀ b∈ch,(b∈X.ex∨X.s₀.heap.objs.size<=b)/\b≠X.env.locals/\(∀ x c,X.env.cells.lookup x=some c->c≠b)/\∀ p∈X.pn++ZY,p.1≠b) :
  Inv X ZY σ H' { s with heap:=h',gens:=g',drawn:=d',toks:=t' }:=by
 obtain⟨m,⟨o,es,ep,ho,r⟩,_⟩:=id I.loc;obtain⟨sl,hL⟩:=u.any ho I.free fun z=>(hch _ z).2.1 U
 exact I.step (ch:=ch) hch (fun b o hL hb hc e n=>u.keep b o e n (fun z=>(List.mem_cons.mp (I.yG b z)).elim hL hb) hc) (fun b o _ _ hc e n=>u.any e n hc) (fun b o hc e n=>u.free b o e n hc) (fun b o hc e=>u.there b o e hc) u.tups u.frzs u.tbls (fun m' hm=>by
  obtain⟨o',es',ep',ho',r'⟩:=hm;rw[ho] at ho';cases ho'
  exact⟨_,es',ep',hL,r'⟩) hok hg
def Inv.turned {t':Nat}{it:Addr}(I:Inv X ZY σ H s)(k:∀ b o,b≠it->s.heap.get? b=some o->h'.get? b=some o)(hn:H it=none)(hL:it≠X.env.locals)
  (h1:it∈X.ex∨X.s₀.heap.objs.size<=it) (h2:∀ x c,X.env.cells.lookup x=some c->c≠it) (h3:∀ p∈X.pn++ZY,p.1≠it):Inv X ZY σ H { s with heap:=h',toks:=t' }:=by
 have nit:∀ b u,H b=some u->b≠it:=fun b u e z=>by rw[z,hn] at e;cases e
 refine I.step (g':=s.gens) (d':=s.drawn) (ch:=[it]) (fun b hb=>?_) (fun b o _ _ hc e _=>k b o (fun z=>hc (by simp [z])) e) (fun b o _ _ hc e _=>⟨o.slots,k b o (fun z=>hc (by simp [z])) e⟩) (fun _ _ _ _ n=>n)
  (fun b o hc e=>⟨o,k b o (fun z=>hc (by simp [z])) e⟩) (fun _ _ e=>e) (fun _ _ _ e=>e) (fun b ps e=>⟨#[],by rw[e];simp⟩) (fun m hm=>?_) (fun b u e=>?_) I.bare
 ·have e:b=it:=by simpa using hb
  subst e;exact⟨h1,hL,h2,h3⟩
 ·obtain⟨o,es,ep,ho,r⟩:=hm;exact⟨o,es,ep,k _ o (XQ hL) ho,r⟩
 ·refine (I.hok b u e).stay (fun c v hc q=>k c v ?_ q) (fun _ q=>q) fun _ _ q=>q;rcases hc with z | z;{rw[z];exact nit b u e};{exact nit c _ z}
def Inv.tok (I:Inv X ZY σ H s)(t:Nat):Inv X ZY σ H { s with toks:=t }:=I.un (h':=s.heap) (t':=t) Un.refl I.hok
def Inv.kept {t':Nat}(I:Inv X ZY σ H s)(k:∀ b u,s.heap.get? b=some u->h'.get? b=some u):Inv X ZY σ H { s with heap:=h',toks:=t' }:=I.un (Un.kept k) (I.hok.kept k)
def Inv.laid {a:Addr}{o:HO}{t':Nat}(I:Inv X ZY σ H s)(k:∀ b u,s.heap.get? b=some u->h'.get? b=some u)(hp:s.heap.objs.size<=a)(new:dU X.prog X.w (upd H a o) h' a o) :
  Inv X ZY σ (upd H a o) { s with heap:=h',toks:=t' }:=I.un (Un.laid k hp (I.hok.fresh hp)) (I.hok.laid k hp new)
def Inv.write {x e:Addr}{o:HO}{t':Nat}(I:Inv X ZY σ H s)(mu:Mut (H x))(he:e=x∨H e=some (.own x))(k:∀ b u,b≠e->s.heap.get? b=some u->h'.get? b=some u)(heo:∃ u,h'.get? e=some u)
  (new:dU X.prog X.w (upd H x o) h' x o):Inv X ZY σ (upd H x o) { s with heap:=h',toks:=t' }:=I.un (Un.write mu he k heo) (I.hok.write mu he k heo new)
def Inv.Je {ZY':Do}(I:Inv X ZY σ H s)(h:∀ p∈ZY',s.heap.get? p.1=some p.2/\H p.1=none/\p.1≠X.env.locals/\p.1 ∉ X.fs/\∀ v,p.2.data≠.cell v):Inv X ZY' σ H s :=
 ⟨I.ok,I.os,I.bare,I.base,I.loc,I.cell,I.free,I.freeC,fun p hp=>(List.mem_append.mp hp).elim (fun z=>I.pin p (aaI _ z)) (h p),I.hok,I.len⟩
def Bh {N:D0}(hN:N.Nodup){i j:Nat}{x:Wt}(a:N[i]? = some x)(b:N[j]? = some x):i=j:=by
 obtain⟨h1,e1⟩:=List.getElem?_eq_some_iff.mp a;obtain⟨h2,e2⟩:=List.getElem?_eq_some_iff.mp b;exact (acO hN).mp (e1.trans e2.symm)
def zc {M:acW}{A:WM}{E:DC}{i:Nat}{x:Wt}{v:V}{u:Value}{Q:Unit->VL->Prop}(I:Inv X ZY σ H s)(hN:X.N.Nodup)(hi:X.N[i]? = some x)(hx:Loc X.env.scope x)(r:RelV v u)
  (h:∀ s',Inv X ZY (σ.set i (some v)) H s'->(∃ a,Yx a s.heap s'.heap/\(a=X.env.locals∨X.env.cells.lookup x=some a))->Q () s') (hf:X.fn x=true∨X.env.scope.names.lookup x=some .local:=by first | exact .inl rfl | exact .inr rfl | assumption):V2 M A (storeName X.env x u) Q E s:=by
 obtain⟨m,hn,hl⟩:=id I.loc;have hcls:(X.env.scope.kind == .class || (X.env.scope.kind == .module && X.env.locals != X.env.globals))=false:=by rw[I.ok.kind];rfl
 have hiσ:i < σ.length:=by rw[I.len];exact (List.getElem?_eq_some_iff.mp hi).1
 have cne:=I.cne;have tracked:∀ {a:Addr} {h':WT},(∃ o,s.heap.get? a=some o/\H a=none)->Yx a s.heap h'->HOk X.prog X.w H h':=fun {a h'} ha hs b ob e=>by
  obtain⟨_,_,hfree⟩:=ha;refine (I.hok b ob e).stay (fun c w' hc q=>(hs.2 c ?_).trans q) (fun _ q=>q) fun _ _ q=>q;rintro rfl;rcases hc with rfl | hc;{rw[hfree] at e;cases e};{rw[hfree] at hc;cases hc}
 rcases hx with hk | hk
 ·refine wpAny_storeName_local hk hn (fun h' hn' hs=>?_) hcls;obtain⟨oL,_,_,hoL,_⟩:=id hn;refine h _ ⟨I.ok,I.os,I.bare,⟨fun b o e n hb hx=>?_,fun b o e n hb hx=>?_,I.base.free,fun b o e hx=>?_,I.base.tups,I.base.frzs,I.base.tbls⟩,⟨_,hn',fun j y v' e1 e2 e3=>?_⟩,fun y c e=>?_,I.free,I.freeC,fun p hp=>?_,tracked ⟨oL,hoL,I.free⟩ hs,by simpa using I.len⟩ ⟨_,hs,.inl U⟩;{exact (hs.2 b (Wh (V4 (V9 e) I.ok.above))).trans (I.base.keep b o e n hb hx)};{obtain⟨sl,e1⟩:=I.base.slot b o e n hb hx;exact⟨sl,(hs.2 b (Wh (V4 (V9 e) I.ok.above))).trans e1⟩};{obtain⟨o',e1⟩:=I.base.there b o e hx;exact⟨o',(hs.2 b (Wh (V4 (V9 e) I.ok.above))).trans e1⟩}
  ·by_cases hj:j=i;{subst hj;rw[hi] at e1;cases e1;rw[abB hiσ] at e2;cases e2;exact⟨u,r,.inl ⟨hk,by simp⟩⟩}
   ·rw[abQ (XQ hj)] at e2;obtain⟨u',r',q⟩:=hl j y v' e1 e2 e3;refine⟨u',r',?_⟩;rcases q with⟨k,e⟩ | ⟨k,c,e,z⟩;{refine .inl ⟨k,?_⟩;have:y≠x:=fun e=>hj (Bh hN e1 (e▸hi));simp [this,e]};{exact .inr ⟨k,c,e,z.sameBut hs (cne y c e)⟩}
  ·obtain⟨w',z⟩:=I.cell y c e;exact⟨w',z.sameBut hs (cne y c e)⟩
  ·obtain⟨e,n,ne,nf,d⟩:=I.pin p hp;exact⟨(hs.2 p.1 ne).trans e,n,ne,nf,d⟩
 ·have hfn:X.fn x=true:=by
   rcases hf with z | z;{exact z};{rw[z] at hk;cases hk}
  obtain⟨c,hc⟩:=I.ok.has x (.inl hk);obtain⟨w',z⟩:=I.cell x c hc;refine wpAny_storeName_cell I.ok.kind hk hc z (fun h' hc' hs=>?_);obtain⟨oc,hoc,hocd⟩:=id z;refine h { s with heap:=h' } ⟨I.ok,I.os,I.bare,⟨fun b o e n hb hx=>?_,fun b o e n hb hx=>?_,I.base.free,fun b o e hx=>?_,I.base.tups,I.base.frzs,I.base.tbls⟩,⟨m,hn.sameBut hs (XQ (cne x c hc)),fun j y v' e1 e2 e3=>?_⟩,fun y c' e=>?_,I.free,I.freeC,fun p hp=>?_,tracked ⟨oc,hoc,I.freeC x c hc⟩ hs,by simpa using I.len⟩ ⟨c,hs,.inr hc⟩;{exact (hs.2 b (Wh (V4 (V9 e) (I.ok.cab x c hfn hc)))).trans (I.base.keep b o e n hb hx)};{obtain⟨sl,e1⟩:=I.base.slot b o e n hb hx;exact⟨sl,(hs.2 b (Wh (V4 (V9 e) (I.ok.cab x c hfn hc)))).trans e1⟩};{obtain⟨o',e1⟩:=I.base.there b o e hx;exact⟨o',(hs.2 b (Wh (V4 (V9 e) (I.ok.cab x c hfn hc)))).trans e1⟩}
  ·by_cases hj:j=i;{subst hj;rw[hi] at e1;cases e1;rw[abB hiσ] at e2;cases e2;exact⟨u,r,.inr ⟨.inl hk,c,hc,hc'⟩⟩}
   ·rw[abQ (XQ hj)] at e2;obtain⟨u',r',q⟩:=hl j y v' e1 e2 e3;refine⟨u',r',?_⟩;rcases q with q | ⟨k,c',e,z'⟩;{exact .inl q};{refine .inr ⟨k,c',e,z'.sameBut hs ?_⟩;rintro rfl;exact hj (Bh hN e1 (I.ok.inj _ _ _ e hc▸hi))}
  ·by_cases hcc:c'=c;{subst hcc;exact⟨_,hc'⟩};{obtain⟨w2,z2⟩:=I.cell y c' e;exact⟨w2,z2.sameBut hs hcc⟩}
  ·obtain⟨e,n,ne,nf,d⟩:=I.pin p hp;refine⟨(hs.2 p.1 ?_).trans e,n,ne,nf,d⟩;intro q;rw[q,hoc] at e;have q':oc=p.2:=WL e;exact d w' (by rw[← q'];exact hocd)
def Dh {M:acW}{A:WM}{E:DC}{i:Nat}{x:Wt}{v:V}{u:Value}{Q:Unit->VL->Prop}(I:Inv X ZY σ H s)(hN:X.N.Nodup)(hi:X.N[i]? = some x)(hx:Loc X.env.scope x)(r:RelV v u)
  (h:∀ s',Inv X ZY (σ.set i (some v)) H s'->Q () s') (hf:X.fn x=true∨X.env.scope.names.lookup x=some .local:=by first | exact .inl rfl | exact .inr rfl | assumption):V2 M A (storeName X.env x u) Q E s :=
 zc I hN hi hx r (fun s' I' _=>h s' I') hf
def Inv.call' {s':VL}{ch:DM}(I:Inv X ZY σ H s)(ho:s'.os=s.os)(u:Un (frs X.stack) ch H H' s.heap s'.heap)(hok:HOk X.prog X.w H' s'.heap)(hg:abe s'.gens)
  (hch:∀ b∈ch,(b∈X.ex∨X.s₀.heap.objs.size<=b)/\b≠X.env.locals/\(∀ x c,X.env.cells.lookup x=some c->c≠b)/\∀ p∈X.pn++ZY,p.1≠b):Inv X ZY σ H' s':=by
 obtain⟨h',g',d',t',o'⟩:=s';have e:o'=s.os:=ho;subst e;exact I.call (g':=g') (t':=t') (d':=d') u hok hg hch
end
abbrev XK:=Value->DH->Hp->Prop
abbrev St:=List (Option V)
abbrev VK:=V->Hp->Prop
abbrev TE:=St->Hp->VK->Prop
abbrev TT:=St->Hp->(Bool->Hp->Prop)->Prop
abbrev TA:=St->Hp->(List V->Hp->Prop)->Prop
structure Ends where
 nx:St->Hp->Prop
 rt:VK
 bk:St->Hp->Prop:=fun _ _=>False
 ct:St->Hp->Prop:=fun _ _=>False
abbrev TS:=Ends->St->Hp->Prop
inductive EP (X:Cx)(ZY:Do)(σ:St)(Q:VK)(u:Value)(s':VL):Prop where
 | mk (v:V) (H':Hp) (z0:Inv X ZY σ H' s') (z1:RelV v u) (z2:Q v H'):EP X ZY σ Q u s'
def TP (X:Cx)(ZY:Do)(σ:St)(Q:Bool->Hp->Prop)(b:Bool)(s':VL):Prop:=∃ H',Inv X ZY σ H' s'/\Q b H'
inductive AP (X:Cx)(ZY:Do)(σ:St)(Q:List V->Hp->Prop)(us:DJ)(s':VL):Prop where
 | mk (vs:List V) (H':Hp) (z0:Inv X ZY σ H' s') (z1:Vals vs us) (z2:Q vs H'):AP X ZY σ Q us s'
def SP (X:Cx)(ZY:Do)(D:Ends)(f:Flow)(s':VL):Prop :=
 match f with
 | .next=>∃ σ' H',Inv X ZY σ' H' s'/\D.nx σ' H'
 | .brk=>∃ σ' H',Inv X ZY σ' H' s'/\D.bk σ' H'
 | .cont=>∃ σ' H',Inv X ZY σ' H' s'/\D.ct σ' H'
 | .ret u=>∃ v σ' H',Inv X ZY σ' H' s'/\RelV v u/\D.rt v H'
def PE (X:Cx)(e:Expr)(t:TE):Prop :=
 ∀ (ZY:Do) (s:VL) (σ:St) (H:Hp) (Q:VK),Inv X ZY σ H s->t σ H Q->V2 (Wb X.prog X.w) X.A (Xw e X.env) (EP X ZY σ Q) X.xe s
def PT (X:Cx)(e:Expr)(t:TT):Prop :=
 ∀ (ZY:Do) (s:VL) (σ:St) (H:Hp) (Q:Bool->Hp->Prop),Inv X ZY σ H s->t σ H Q->V2 (Wb X.prog X.w) X.A (isTrue e X.env (Xw e X.env)) (TP X ZY σ Q) X.xe s
def PW (X:Cx)(e:Expr)(t:TT):Prop :=
 ∀ (whole:Sem Value) (ZY:Do) (s:VL) (σ:St) (H:Hp) (Q:Bool->Hp->Prop),Inv X ZY σ H s->t σ H Q->V2 (Wb X.prog X.w) X.A (isTrue e X.env whole) (TP X ZY σ Q) X.xe s
def PW.pt {X:Cx}{e:Expr}{t:TT}(h:PW X e t):PT X e t:=h _
def PA (X:Cx)(es:DO)(t:TA):Prop :=
 ∀ (pos:ZX) (ZY:Do) (s:VL) (σ:St) (H:Hp) (Q:List V->Hp->Prop),Inv X ZY σ H s->t σ H Q->V2 (Wb X.prog X.w) X.A (spliced (Yk pos (Wg es X.env))) (AP X ZY σ Q) X.xe s
def PS (X:Cx)(st:Stmt)(t:TS):Prop :=
 ∀ (ZY:Do) (s:VL) (σ:St) (H:Hp) (D:Ends),Inv X ZY σ H s->t D σ H->V2 (Wb X.prog X.w) X.A (exec st X.env) (SP X ZY D) X.xe s
def PSs (X:Cx)(st:DS)(t:TS):Prop :=
 ∀ (ZY:Do) (s:VL) (σ:St) (H:Hp) (D:Ends),Inv X ZY σ H s->t D σ H->V2 (Wb X.prog X.w) X.A (execs st X.env) (SP X ZY D) X.xe s
def thn {α:Type}{t:Sem α}{Q Q':α->VL->Prop}{M:acW}{A:WM}{E:DC}{s:VL}(h:V2 M A t Q E s)(hQ:∀ a s,Q a s->Q' a s):V2 M A t Q' E s:=W7 h hQ fun _ _ x=>x
section
variable {X:Cx}
inductive ExB (x:V)(P:Bool->Prop):Prop where
 | mk (c:Bool) (z0:x = .bl c) (z1:P c):ExB x P
inductive yU (i:Nat)(σ:St)(H:Hp)(Q:VK):Prop where
 | mk (v:V) (_:σ[i]? = some (some v)) (_:Q v H)
def tC (v:V):TE:=fun _ H Q=>Q v H
def Ro {i:Nat} {x:Wt} {pos:ZX} (hN:X.N[i]? = some x) (hv:Vis X.env.scope x) (hd:(x == ("__debug__" : Wt))=false:=by decide) (hcd:(x == ("__classdict__" : Wt))=false:=by decide):PE X (.Name x pos) (yU i):=by
 intro ZY s σ H Q I h;obtain⟨v,e,h⟩:=h;obtain⟨m,hn,hl⟩:=I.loc;obtain⟨u,r,l⟩:=hl i x v hN e hv;have fin:EP X ZY σ Q u s:=⟨v,H,I,r,h⟩;rcases l with⟨hk,hm⟩ | ⟨hk,c,hc,hcell⟩;{exact wpAny_Name (wpAny_loadName_local I.ok.kind hk hn hm fin) hd}
 ·rcases hk with hk | hk;{exact wpAny_Name (wpAny_loadName_cell I.ok.kind hk hc hcell fin) hd};{exact wpAny_Name (wpAny_loadName_free I.ok.kind hk hc hcell fin hcd) hd}
def ao {i j pos}:PE X (.Constant (.int i) j pos) (tC (.int i)):=fun _ _ _ H _ I h=>wpAny_Constant_int ⟨.int i,H,I.tok _,⟨_,U⟩,h⟩
def dR {b j pos}:PE X (.Constant (.bool b) j pos) (tC (.bl b)):=fun _ _ _ H _ I h=>Constant_bool ⟨.bl b,H,I,U,h⟩
def aJ {x j pos}:PE X (.Constant (.str x) j pos) (tC (.str x)):=fun _ _ _ H _ I h=>Calls.Constant_str ⟨.str x,H,I.tok _,⟨_,U⟩,h⟩
def Gl (X:Cx)(x:Wt):Prop:=X.env.kindOf x=some .globalImplicit
def lH {E:DC}{ZY:Do}{s:VL}{σ:St}{H:Hp}{x:Wt}{u:Value}{pos:ZX}{Q:DC}(I:Inv X ZY σ H s)(hg:Gl X x)(hm:X.mg x=some u)(h:Q u s)
  (hd:(x == ("__debug__" : Wt))=false:=by decide):V2 (Wb X.prog X.w) X.A (Xw (.Name x pos) X.env) Q E s :=
 Calls.Name_function_global I.ok.kind hg (Calls.loadGlobal_global (by rw[I.ok.glob];exact I.mod.glob.keeps I.bk) hm h) hd
def jH {E:DC}{ZY:Do}{s:VL}{σ:St}{H:Hp}{x:Wt}{u:Value}{pos:ZX}{Q:DC}(I:Inv X ZY σ H s)(hg:Gl X x)(hm:X.mg x=none)(hv:W6 x=some u)(h:Q u s)
  (hn:x≠"__name__":=by decide) (hd:(x == ("__debug__" : Wt))=false:=by decide):V2 (Wb X.prog X.w) X.A (Xw (.Name x pos) X.env) Q E s:=by
 obtain⟨mb,h1,h2⟩:=I.mod.blt;exact Calls.Name_function_global I.ok.kind hg (Calls.loadGlobal_builtin (by rw[I.ok.glob];exact I.mod.glob.keeps I.bk) hm (by rw[I.ok.blt];exact h1.keeps I.bk) ((h2 x hn).trans hv) h) hd
def O3 {x:Wt} {v:V} {u:Value} {pos:ZX} (hg:Gl X x) (hm:X.mg x=some u) (r:RelV v u) (hd:(x == ("__debug__" : Wt))=false:=by decide):PE X (.Name x pos) (tC v) :=
 fun _ _ _ H _ I h=>lH I hg hm ⟨v,H,I,r,h⟩ hd
def Qz {x:Wt} {v:V} {u:Value} {pos:ZX} (hg:Gl X x) (hm:X.mg x=none) (hv:W6 x=some u) (r:RelV v u) (hn:x≠"__name__":=by decide) (hd:(x == ("__debug__" : Wt))=false:=by decide):PE X (.Name x pos) (tC v) :=
 fun _ _ _ H _ I h=>jH I hg hm hv ⟨v,H,I,r,h⟩ hn hd
variable {a b:Expr}{ta tb:TE}{pos:ZX}
def PC (X:Cx)(op:CmpOp)(a b:Expr)(t:TE):Prop :=
 ∀ (ZY:Do) (s:VL) (σ:St) (H:Hp) (Q:VK),Inv X ZY σ H s->t σ H Q →
  V2 (Wb X.prog X.w) X.A (Xw a X.env) (fun v s₁=>V2 (Wb X.prog X.w) X.A (Xw b X.env) (fun u s₂=>V2 (Wb X.prog X.w) X.A (Yn op v u) (EP X ZY σ Q) X.xe s₂) X.xe s₁) X.xe s
def tB (t:TE):TT:=fun σ H Q=>t σ H fun x H1=>ExB x fun c=>Q c H1
def Nu {op:CmpOp}{t:TE}(h:PC X op a b t)(h1:aag op b=false:=by first | exact nobehind _ (by decide) (by decide) | rfl):PT X (.Compare a [op] [b] pos) (tB t):=by
 intro ZY s σ H Q I hw;refine wpAny_isTrue_Compare1 (thn (h ZY s σ H _ I hw) fun v s1 h1=>thn h1 fun u s2 h2=>thn h2 fun c s3 ⟨x,H1,I1,r1,q1⟩=>?_) h1;obtain⟨d,rfl,q⟩:=q1;cases r1;exact Ys ⟨H1,I1,q⟩
def cu {e:Expr}{t:TE}(h:PE X e t)(he:∀ whole,isTrue e X.env whole=(do let v ← whole;ZG e.pos;Z4 [v] (truthy v)):=by intro _;rfl):PT X e (tB t):=by
 intro ZY s σ H Q I hw;refine isTrue_plain (thn (h ZY s σ H _ I hw) fun v s1 ⟨x,H1,I1,r1,q1⟩=>?_) (he _);obtain⟨d,rfl,q⟩:=q1;cases r1;exact Ys ⟨H1,I1,q⟩
variable {tA tB':TT}{rest:DO}
def U8 (t u:TT):TT:=fun σ H Q=>t σ H fun c H1=>if c=true then u σ H1 Q else Q false H1
def tOr (t u:TT):TT:=fun σ H Q=>t σ H fun c H1=>if c=true then Q true H1 else u σ H1 Q
def Vf (t:TT):TT:=fun σ H Q=>t σ H fun c H1=>Q (!c) H1
def fO (ha:PT X a tA):PW X (.BoolOp .And [a] pos) tA:=by
 intro wh ZY s σ H Q I h;refine isTrue_and (thn (ha ZY s σ H Q I h) fun c s1 e=>?_);cases c with
 | true=>exact isTrue_and_nil e
 | false=>exact e
def eV (ha:PT X a tA):PW X (.BoolOp .Or [a] pos) tA:=by
 intro wh ZY s σ H Q I h;refine isTrue_or (thn (ha ZY s σ H Q I h) fun c s1 e=>?_);cases c with
 | false=>exact isTrue_or_nil e
 | true=>exact e
def jW (ha:PT X a tA)(hb:PW X (.BoolOp .And (b::rest) pos) tB'):PW X (.BoolOp .And (a::b::rest) pos) (U8 tA tB'):=by
 intro wh ZY s σ H Q I h;refine isTrue_and (thn (ha ZY s σ H _ I h) fun c s1 ⟨H1,I1,q1⟩=>?_);cases c with
 | true=>exact hb wh ZY s1 σ H1 Q I1 q1
 | false=>exact⟨H1,I1,q1⟩
def iB (ha:PT X a tA)(hb:PW X (.BoolOp .Or (b::rest) pos) tB'):PW X (.BoolOp .Or (a::b::rest) pos) (tOr tA tB'):=by
 intro wh ZY s σ H Q I h;refine isTrue_or (thn (ha ZY s σ H _ I h) fun c s1 ⟨H1,I1,q1⟩=>?_);cases c with
 | true=>exact⟨H1,I1,q1⟩
 | false=>exact hb wh ZY s1 σ H1 Q I1 q1
def dM (ha:PT X a tA):PT X (.UnaryOp .Not a pos) (Vf tA):=by
 intro ZY s σ H Q I h;exact isTrue_not (ha ZY s σ H (fun c H1=>Q (!c) H1) I h)
def TV (ta tb:TE):TE:=fun σ H Q=>ta σ H fun x H1=>ExB x fun c=>if c=true then tb σ H1 Q else Q (.bl false) H1
def Vw (ta tb:TE):TE:=fun σ H Q=>ta σ H fun x H1=>ExB x fun c=>if c=true then Q (.bl true) H1 else tb σ H1 Q
def TF (ta:TE):TE:=fun σ H Q=>ta σ H fun x H1=>ExB x fun c=>Q (.bl (!c)) H1
def ni {op}{t:TE}(h:PE X a t):PE X (.BoolOp op [a] pos) t:=fun ZY s σ H Q I hw=>BoolOp_one (h ZY s σ H Q I hw)
def iC (ha:PE X a ta)(hb:PE X (.BoolOp .And (b::rest) pos) tb):PE X (.BoolOp .And (a::b::rest) pos) (TV ta tb):=by
 intro ZY s σ H Q I h;refine BoolOp_and (thn (ha ZY s σ H _ I h) fun v s1 ⟨x,H1,I1,r1,q1⟩=>?_);obtain⟨c,rfl,q1⟩:=q1;cases r1;refine Ys ?_;cases c with
 | true=>exact hb ZY s1 σ H1 Q I1 q1
 | false=>exact⟨.bl false,H1,I1,U,q1⟩
def UG (ha:PE X a ta)(hb:PE X (.BoolOp .Or (b::rest) pos) tb):PE X (.BoolOp .Or (a::b::rest) pos) (Vw ta tb):=by
 intro ZY s σ H Q I h;refine BoolOp_or (thn (ha ZY s σ H _ I h) fun v s1 ⟨x,H1,I1,r1,q1⟩=>?_);obtain⟨c,rfl,q1⟩:=q1;cases r1;refine Ys ?_;cases c with
 | false=>exact hb ZY s1 σ H1 Q I1 q1
 | true=>exact⟨.bl true,H1,I1,U,q1⟩
def RZ (ha:PE X a ta):PE X (.UnaryOp .Not a pos) (TF ta):=by
 intro ZY s σ H Q I h;refine UnaryOp_ (thn (ha ZY s σ H _ I h) fun v s1 ⟨x,H1,I1,r1,q1⟩=>?_);obtain⟨c,rfl,q1⟩:=q1;cases r1;exact not_of (Ys ⟨.bl (!c),H1,I1,U,q1⟩)
def tIf (t:TT)(ta tb:TE):TE:=fun σ H Q=>t σ H fun c H1=>if c=true then ta σ H1 Q else tb σ H1 Q
def m5 {c:Expr}(hc:PT X c tA)(ha:PE X a ta)(hb:PE X b tb):PE X (.IfExp c a b pos) (tIf tA ta tb):=by
 intro ZY s σ H Q I h;refine wpAny_IfExp (thn (hc ZY s σ H _ I h) fun d s1 ⟨H1,I1,q1⟩=>?_);cases d with
 | true=>exact ha ZY s1 σ H1 Q I1 q1
 | false=>exact hb ZY s1 σ H1 Q I1 q1
end
def SqL (K:V8)(H:Hp)(a:Addr)(xs:List V):Prop :=
 Rd H a (.lst xs) ∨
  ∃ (o:YB) (its:Array Value) (n:Nat),K.lookup a=some o/\o.cls = .type "list"/\o.dict=none/\o.data = .seq its n/\its.size<=sizeLine/\Vals xs its.toList
def SqT (K:V8)(H:Hp)(a:Addr)(xs:List V):Prop :=
 Rd H a (.tup xs) ∨
  ∃ (o:YB) (its:Array Value) (n:Nat),K.lookup a=some o/\o.cls = .type "tuple"/\o.data = .seq its n/\its.size<=sizeLine/\Vals xs its.toList
def Vo:Value->Option V
 | .none=>some .non
 | .bool b=>some (.bl b)
 | .int i _=>some (.int i)
 | .str x _=>some (.str x)
 | .bytes b _=>some (.byt b)
 | .float b _=>some (.flt b)
 | .ref a=>some (.ref a)
 | .type n=>some (.ty n)
 | _=>none
def RelV.abs {x:V}{u:Value}(r:RelV x u):Vo u=some x:=by
 cases x with
 | non=>cases r;rfl
 | bl _=>cases r;rfl
 | int _=>obtain⟨t,rfl⟩:=r;rfl
 | str _=>obtain⟨t,rfl⟩:=r;rfl
 | byt _=>obtain⟨t,rfl⟩:=r;rfl
 | flt _=>obtain⟨t,rfl⟩:=r;rfl
 | ref _=>cases r;rfl
 | ty _=>cases r;rfl
def RelV.inj {x y:V}{u:Value}(r:RelV x u)(q:RelV y u):x=y:=WL (r.abs.symm.trans q.abs)
theorem Vals.inj:∀ {xs ys:List V} {us:DJ},Vals xs us->Vals ys us->xs=ys
 | _,_,_,.nil,.nil=>rfl
 | _,_,_,.cons r t,.cons r' t'=>by rw[r.inj r',Vals.inj t t']
section
variable {X:Cx}{ZY:Do}{σ:St}{H:Hp}{s:VL}{a:Addr}{xs ys:List V}
def SqL.of {K:V8}(h:H a=some (.lst xs)):SqL K H a xs:=.inl (.inl h)
def SqT.of {K:V8}(h:H a=some (.tup xs)):SqT K H a xs:=.inl (.inl h)
def Inv.list (I:Inv X ZY σ H s)(h:SqL X.K H a xs):∃ its:DJ,Vals xs its/\PlainL s.heap a its.toArray/\xs.length<=sizeLine:=by
 rcases h with h | ⟨o,its,n,hk,hc,hd,hs,hz,r⟩;{obtain⟨z,its,n,r,e⟩:=h.ok I.hok;exact⟨its,r,⟨_,n,e,U,U,U⟩,z⟩};{refine⟨its.toList,r,⟨o,n,I.kIn a o hk,hc,hd,by simpa using hs⟩,?_⟩;have e:=r.length;simp only[W5] at e;lia}
def Inv.tuple (I:Inv X ZY σ H s)(h:SqT X.K H a xs):∃ its:DJ,Vals xs its/\IsTup s.heap a its.toArray/\xs.length<=sizeLine:=by
 rcases h with h | ⟨o,its,n,hk,hc,hs,hz,r⟩;{obtain⟨z,its,r,p⟩:=h.ok I.hok;exact⟨its,r,p,z⟩};{refine⟨its.toList,r,⟨o,I.kIn a o hk,hc,n,by simpa using hs⟩,?_⟩;have e:=r.length;simp only[W5] at e;lia}
def Inv.wz (I:Inv X ZY σ H s)(h:SqL X.K H a xs)(h':SqL X.K H a ys):xs=ys:=by
 obtain⟨its,r,⟨o,n,e,_,_,d⟩,_⟩:=I.list h;obtain⟨its',r',⟨o',n',e',_,_,d'⟩,_⟩:=I.list h';rw[e] at e';cases e';rw[d] at d';injection d' with d1 _;have:its=its':=by simpa using congrArg Array.toList d1
 subst this;exact r.inj r'
def Inv.sX (I:Inv X ZY σ H s)(h:SqT X.K H a xs)(h':SqT X.K H a ys):xs=ys:=by
 obtain⟨its,r,⟨o,e,_,n,d⟩,_⟩:=I.tuple h;obtain⟨its',r',⟨o',e',_,n',d'⟩,_⟩:=I.tuple h';rw[e] at e';cases e';rw[d] at d';injection d' with d1 _;have:its=its':=by simpa using congrArg Array.toList d1
 subst this;exact r.inj r'
end
abbrev Cx.wish (X:Cx)(E:DC):Cx:={ X with xe:=E }
abbrev Cx.nox (X:Cx):Cx:=X.wish fun _ _=>False
def Cx.Ok.wish {X:Cx}(ok:X.Ok)(E:DC):(X.wish E).Ok :=
 ⟨ok.mod,ok.kind,ok.glob,ok.blt,ok.above,ok.inj,ok.has,ok.cab,ok.hd,ok.frames,ok.stk,ok.exf,ok.bs,ok.bsz,ok.noex,ok.exfs,ok.wM,ok.frf⟩
def Cx.Ok.nR {X:Cx}{E:DC}(ok:(X.wish E).Ok):X.Ok :=
 ⟨ok.mod,ok.kind,ok.glob,ok.blt,ok.above,ok.inj,ok.has,ok.cab,ok.hd,ok.frames,ok.stk,ok.exf,ok.bs,ok.bsz,ok.noex,ok.exfs,ok.wM,ok.frf⟩
section
variable {X:Cx}{ZY:Do}{σ:St}{H:Hp}{s:VL}{E:DC}
def Inv.wish (I:Inv X ZY σ H s)(E:DC):Inv (X.wish E) ZY σ H s:=⟨I.ok.wish E,I.os,I.bare,I.base,I.loc,I.cell,I.free,I.freeC,I.pin,I.hok,I.len⟩
def Inv.nR (I:Inv (X.wish E) ZY σ H s):Inv X ZY σ H s:=⟨I.ok.nR,I.os,I.bare,I.base,I.loc,I.cell,I.free,I.freeC,I.pin,I.hok,I.len⟩
def SP.nR {D:Ends}{f:Flow}{s':VL}(h:SP (X.wish E) ZY D f s'):SP X ZY D f s':=by
 cases f with
 | next=>obtain⟨σ',H',I,q⟩:=h;exact⟨σ',H',I.nR,q⟩
 | brk=>obtain⟨σ',H',I,q⟩:=h;exact⟨σ',H',I.nR,q⟩
 | cont=>obtain⟨σ',H',I,q⟩:=h;exact⟨σ',H',I.nR,q⟩
 | ret u=>obtain⟨v,σ',H',I,r,q⟩:=h;exact⟨v,σ',H',I.nR,r,q⟩
def PSs.nox {st:DS}{t:TS}(h:PSs X.nox st t):PSs X st t:=fun ZY s σ H D I hw =>
 W7 (h ZY s σ H D (I.wish _) hw) (fun _ _ q=>q.nR) fun _ _ z=>XD z
end
section
variable {X:Cx}{st:Stmt}{rest:DS}{t u:TS}{e:Expr}{te:TE}{pos:ZX}
def Ly:TS:=fun D σ H=>D.nx σ H
def JG (t u:TS):TS:=fun D σ H=>t { D with nx:=u D } σ H
def aX:PSs X [] Ly:=fun _ _ σ H _ I h=>aaM ⟨σ,H,I,h⟩
def aj (h1:PS X st t)(h2:PSs X rest u):PSs X (st::rest) (JG t u):=by
 intro ZY s σ H D I h;refine wpAny_execs_cons (thn (h1 ZY s σ H { D with nx:=u D } I h) fun f s1 q=>?_);cases f with
 | next =>
  obtain⟨σ',H',I',q⟩:=q;exact h2 ZY s1 σ' H' D I' q
 | ret v=>exact q
 | brk=>exact q
 | cont=>exact q
def aF (h1:PS X st t):PSs X [st] t:=by
 intro ZY s σ H D I h;refine wpAny_execs_cons (thn (h1 ZY s σ H D I h) fun f s1 q=>?_);cases f with
 | next=>exact aaM q
 | ret v=>exact q
 | brk=>exact q
 | cont=>exact q
def Inv.quiet {ZY:Do}{σ:St}{H:Hp}{s:VL}(I:Inv X ZY σ H s):interactive X.env=false:=by simp [interactive,I.ok.kind]
def TY (te:TE):TS:=fun D σ H=>te σ H fun _ H1=>D.nx σ H1
def aW (he:PE X e te)(hs:aaV e none pos.line X.env=pure false:=by rfl):PS X (.Expr e pos) (TY te):=by
 intro ZY s σ H D I h;exact wpAny_Expr_any (thn (he ZY s σ H _ I h) fun v s1 ⟨x,H1,I1,r1,q1⟩=>⟨σ,H1,I1,q1⟩) I.quiet hs
def Tq (te:TE):TS:=fun D σ H=>te σ H D.rt
def NB (he:PE X e te):PS X (.Return (some e) pos) (Tq te):=by
 intro ZY s σ H D I h;exact wpAny_Return_some (thn (he ZY s σ H _ I h) fun v s1 ⟨x,H1,I1,r1,q1⟩=>⟨x,σ,H1,I1,r1,q1⟩)
def JK (c:TT)(t u:TS):TS:=fun D σ H=>c σ H fun b H1=>if b=true then t D σ H1 else u D σ H1
def cP {c:Expr}{a b:DS}{tc:TT}(hc:PT X c tc)(ha:PSs X a t)(hb:PSs X b u):PS X (.If c a b pos) (JK tc t u):=by
 intro ZY s σ H D I h;refine wpAny_If (thn (hc ZY s σ H _ I h) fun d s1 ⟨H1,I1,q1⟩=>?_);cases d with
 | true=>exact ha ZY s1 σ H1 D I1 q1
 | false=>exact hb ZY s1 σ H1 D I1 q1
def Rf:TS:=fun _ _ _=>False
def qG:PS X st Rf:=fun _ _ _ _ _ _ h=>h.elim
end
abbrev TG:=V->St->Hp->(St->Hp->Prop)->Prop
abbrev TGs:=List V->St->Hp->(St->Hp->Prop)->Prop
def PG (X:Cx)(target:Expr)(t:TG):Prop :=
 ∀ (ZY:Do) (s:VL) (σ:St) (H:Hp) (v:V) (u:Value) (Q:St->Hp->Prop),Inv X ZY σ H s->RelV v u->t v σ H Q →
  V2 (Wb X.prog X.w) X.A (abw target X.env u) (fun _ s'=>∃ σ' H',Inv X ZY σ' H' s'/\Q σ' H') X.xe s
def PGs (X:Cx)(ts:DO)(t:TGs):Prop :=
 ∀ (ZY:Do) (s:VL) (σ:St) (H:Hp) (vs:List V) (us:DJ) (Q:St->Hp->Prop),Inv X ZY σ H s->Vals vs us->t vs σ H Q →
  V2 (Wb X.prog X.w) X.A (assignInOrder ((aaA ts X.env).map (·.2)) us) (fun _ s'=>∃ σ' H',Inv X ZY σ' H' s'/\Q σ' H') X.xe s
abbrev Ue:=V->V->V->Hp->(Hp->Prop)->Prop
def U0 (X:Cx)(t:Ue):Prop :=
 ∀ (ZY:Do) (s:VL) (σ:St) (H:Hp) (o i v:V) (ov iv u:Value) (Q:Hp->Prop),Inv X ZY σ H s->RelV o ov->RelV i iv->RelV v u->t o i v H Q →
  V2 (Wb X.prog X.w) X.A (setItem ov iv u) (fun _ s'=>∃ H',Inv X ZY σ H' s'/\Q H') X.xe s
section
variable {X:Cx}{pos:ZX}
def rK (i:Nat):TG:=fun v σ H Q=>Q (σ.set i (some v)) H
def v7 {i:Nat}{x:Wt}(hN:X.N.Nodup)(hi:X.N[i]? = some x)(hx:Loc X.env.scope x)(hf:X.fn x=true∨X.env.scope.names.lookup x=some .local:=by first | exact .inl rfl | exact .inr rfl | assumption):PG X (.Name x pos) (rK i):=by
 intro ZY s σ H v u Q I r h;exact wpAny_assign_Name (Dh I hN hi hx r (fun s' I'=>⟨_,H,I',h⟩) hf)
def Vq:TGs:=fun vs σ H Q=>vs=[]/\Q σ H
inductive Ug (t:TG)(u:TGs)(vs:List V)(σ:St)(H:Hp)(Q:St->Hp->Prop):Prop where
 | mk (v:V) (r:List V) (_:vs=v::r) (_:t v σ H fun σ' H'=>u r σ' H' Q)
def cY:PGs X [] Vq:=by
 intro ZY s σ H vs us Q I r h;obtain⟨e,h⟩:=h;subst e;cases r;exact assignInOrder_nil ⟨σ,H,I,h⟩
def aP {e:Expr}{es:DO}{t:TG}{u:TGs}(h1:PG X e t)(h2:PGs X es u)
  (hs:(aaA (e::es) X.env).map (·.2)=abw e X.env::(aaA es X.env).map (·.2):=by rfl):PGs X (e::es) (Ug t u):=by
 intro ZY s σ H vs us Q I r h;obtain⟨v,vr,e1,h⟩:=h;subst e1;cases r with
 | cons r rr =>
  rw[hs];refine assignInOrder_cons (thn (h1 ZY s σ H _ _ _ I r h) fun _ s1 ⟨σ1,H1,I1,q1⟩=>?_);exact h2 ZY s1 σ1 H1 _ _ Q I1 rr q1
inductive Vb (K:V8)(n:Nat)(t:TGs)(v:V)(σ:St)(H:Hp)(Q:St->Hp->Prop):Prop where
 | mk (a:Addr) (xs:List V) (_:v = .ref a) (_:SqT K H a xs) (_:xs.length=n) (_:t xs σ H Q)
def RD {es:DO}{k:Nat}{t:TGs}{n:Nat}(hc:X.calm=true)(h:PGs X es t)
  (hn:(aaA es X.env).length=n:=by rfl) (hst:(aaA es X.env).findIdx? (·.1)=none:=by rfl):PG X (.Tuple es k pos) (Vb X.K n t):=by
 intro ZY s σ H v u Q I r hw;obtain⟨a,xs,e1,hq,hl,hw⟩:=hw;subst e1;cases r;obtain⟨its,rv,ht,hz⟩:=I.tuple hq;refine assign_Tuple_tuple (I.ok.hd hc) ht (by simp [hn,← hl,rv.length]) hst fun h' hx=>?_;have I1:Inv X ZY σ H { s with heap:=h' }:=I.kept (t':=s.toks) fun b o e=>hx b o (Wh (V9 e)) e;exact h ZY _ σ H xs _ Q I1 (by simpa using rv) hw
def Vp (to ti:TE)(t:Ue):TG:=fun v σ H Q=>to σ H fun o H1=>ti σ H1 fun i H2=>t o i v H2 fun H3=>Q σ H3
def NP {o i:Expr}{to ti:TE}{t:Ue}(ho:PE X o to)(hi:PE X i ti)(hs:U0 X t)
  (ha:∀ v,abw (.Subscript o i pos) X.env v=(do
   let ov ← Z4 [v] (Xw o X.env)
   let iv ← Z4 [v,ov] (Xw i X.env)
   ZG pos
   Z4 [v,ov,iv] (setItem ov iv v)
   release [v,ov,iv] []):=by intro _;rfl):PG X (.Subscript o i pos) (Vp to ti t):=by
 intro ZY s σ H v u Q I r h;rw[ha];refine VG (XR (thn (ho ZY s σ H _ I h) fun ov s1 ⟨x,H1,I1,r1,q1⟩=>?_));refine VG (XR (thn (hi ZY s1 σ H1 _ I1 q1) fun iv s2 ⟨y,H2,I2,r2,q2⟩=>?_));refine VG (YQ (VG (XR (thn (hs ZY s2 σ H2 x y v ov iv u _ I2 r1 r2 r q2) fun _ s3 ⟨H3,I3,q3⟩=>?_))));exact wpAny_release ⟨σ,H3,I3,q3⟩
def Tr (te:TE)(g:TG):TS:=fun D σ H=>te σ H fun x H1=>g x σ H1 D.nx
def ym {tg e:Expr}{te:TE}{g:TG}(he:PE X e te)(hg:PG X tg g)(hs:swapsWithSole [tg] e pos.line X.env=pure false:=by rfl)(hw:swappedStores [tg] e X.env=pure none:=by rfl)
  (h1:(aaA [tg] X.env).map (·.2)=[abw tg X.env]:=by rfl):PS X (.Assign [tg] e pos) (Tr te g):=by
 intro ZY s σ H D I h;refine wpAny_Assign_stores (thn (he ZY s σ H _ I h) fun v s1 ⟨x,H1,I1,r1,q1⟩=>?_) hs hw;rw[h1];exact thn (hg ZY s1 σ H1 x v _ I1 r1 q1) fun _ s2 q=>q
def MK {i:Nat}{x:Wt}{e:Expr}{te:TE}{pos':ZX}(hN:X.N.Nodup)(hi:X.N[i]? = some x)(hx:Loc X.env.scope x)(he:PE X e te)(hs:aaV e (some (.Name x pos')) pos.line X.env=pure false:=by rfl)(hf:X.fn x=true∨X.env.scope.names.lookup x=some .local:=by first | exact .inl rfl | exact .inr rfl | assumption) :
  PS X (.Assign [.Name x pos'] e pos) (Tr te (rK i)):=by
 intro ZY s σ H D I h;refine wpAny_Assign_Name (thn (he ZY s σ H _ I h) fun v s1 ⟨y,H1,I1,r1,q1⟩=>?_) hs;exact Dh I1 hN hi hx r1 (fun s2 I2=>⟨_,H1,I2,q1⟩) hf
end
section
variable {X:Cx}{pos:ZX}
def Ni (c:TT)(tb:TS):TS:=fun D σ H=>∃ W:Nat->St->Hp->Prop,(∃ m,W m σ H)/\∀ m σ H,W m σ H →
 c σ H fun b H1=>if b=true then ∃ N:St->Hp->Prop,(∀ σ' H',N σ' H'->∃ m',m' < m/\W m' σ' H')/\tb { D with nx:=N,ct:=N,bk:=D.nx } σ H1 else D.nx σ H1
def LC {c:Expr}{body:DS}{tc:TT}{tb:TS}(hp:PassesOwn (Wb X.prog X.w) X.A X.env X.xe)(hc:PT X c tc)(hb:PSs X body tb):PS X (.While c body [] pos) (Ni tc tb):=by
 intro ZY s σ H D I h;obtain⟨W,⟨m0,w0⟩,turn⟩:=h;refine wpAny_While (codeAny_whileLoop (fun n s'=>∃ σ' H',Inv X ZY σ' H' s'/\W n σ' H') ?_ m0 ⟨σ,H,I,w0⟩);rintro n s1 ⟨σ1,H1,I1,w1⟩;refine Zx hp (thn (hc ZY s1 σ1 H1 _ I1 (turn n σ1 H1 w1)) fun b s2 ⟨H2,I2,q2⟩=>?_);cases b with
 | true =>
  obtain⟨N,hN,q2⟩:=q2;rw[if_pos U];refine Zx hp (thn (hb ZY s2 σ1 H2 _ I2 q2) fun f s3 q3=>?_);cases f with
  | next =>
   obtain⟨σ3,H3,I3,n3⟩:=q3;obtain⟨m',hm,w3⟩:=hN σ3 H3 n3;exact⟨m',hm,σ3,H3,I3,w3⟩
  | cont =>
   obtain⟨σ3,H3,I3,n3⟩:=q3;obtain⟨m',hm,w3⟩:=hN σ3 H3 n3;exact⟨m',hm,σ3,H3,I3,w3⟩
  | brk=>exact q3
  | ret v=>exact q3
 | false =>
  rw[if_neg VR];exact aaM ⟨σ1,H2,I2,q2⟩
end
structure It where
 go:Nat->Hp->Prop
 yld:Nat->Hp->V->Hp->Prop
 stop:Nat->Hp->Prop
def uv (X:Cx)(ZY:Do)(H:Hp)(b:Addr):Prop :=
 H b=none/\b≠X.env.locals/\b ∉ X.fs/\(b∈X.ex∨X.s₀.heap.objs.size<=b)/\(∀ x c,X.env.cells.lookup x=some c->c≠b)/\∀ p∈X.pn++ZY,p.1≠b
def Inv.Mw {X:Cx}{ZY:Do}{σ:St}{H H':Hp}{s:VL}{b:Addr}(I:Inv X ZY σ H s)(hb:s.heap.objs.size<=b)(hn:H' b=none):uv X ZY H' b:=by
 refine⟨hn,X5 (V4 I.lt hb),I.VF hb,.inr (Wn I.sz hb),fun x c e z=>?_,fun p hp z=>?_⟩;{obtain⟨v,q⟩:=I.cell x c e;exact absurd (V4 q.lt (by rw[z];exact hb)) (Xa _)};{exact absurd (V4 (V9 (I.pin p hp).1) (by rw[z];exact hb)) (Xa _)}
structure Turn (P:Wi)(w:Wy)(K:V8)(tg:Expr)(J:It)(fp:DM)(it:Addr)(tn:Nat->WT->Prop):Prop where
 mem:it∈fp
 obj:∀ i h,tn i h->∀ b∈fp,∃ o,h.get? b=some o/\∀ v,o.data≠.cell v
 keep:∀ i h h',tn i h->(∀ b∈fp,∀ o,h.get? b=some o->h'.get? b=some o)->tn i h'
 item:∀ (X:Cx),X.prog=P->X.w=w->X.K=K->X.calm=true->∀ (i:Nat) (ZY:Do) (s:VL) (σ:St) (H:Hp) (E:DC),Inv X ZY σ H s->(∀ b∈fp,uv X ZY H b)->tn i s.heap->J.go i H →
  V2 (Wb P w) X.A (Y0 (.ref it)) (fun r s1=>∃ u,r=some u ∧
   V2 (Wb P w) X.A (Y5 tg (.ref it) u) (fun _ s2=>∃ x H',Inv X ZY σ H' s2/\RelV x u/\J.yld i H x H'/\tn (i+1) s2.heap/\∀ b∈fp,H' b=none) E s1) E s
 done:∀ (X:Cx),X.prog=P->X.w=w->X.K=K->X.calm=true->∀ (i:Nat) (ZY:Do) (s:VL) (σ:St) (H:Hp) (E:DC),Inv X ZY σ H s->(∀ b∈fp,uv X ZY H b)->tn i s.heap->J.stop i H →
  V2 (Wb P w) X.A (Y0 (.ref it)) (fun r s1=>r=none/\Inv X ZY σ H s1) E s
 self:∀ (A:WM) (i:Nat) (s:VL) (Q:DC) (E:DC),tn i s.heap->Q (.ref it) s->V2 (Wb P w) A (abJ (.ref it)) Q E s
abbrev TI:=St->Hp->(It->Hp->Prop)->Prop
def PIE (X:Cx)(ZY:Do)(σ:St)(tg:Expr)(R:It->Hp->Prop)(itv:Value)(s2:VL):Prop :=
 ∃ (it:Addr) (fp:DM) (tn:Nat->WT->Prop) (J:It) (H':Hp),itv = .ref it/\Inv X ZY σ H' s2/\Turn X.prog X.w X.K tg J fp it tn/\tn 0 s2.heap/\(∀ b∈fp,uv X ZY H' b)/\R J H'
def PI (X:Cx)(tg iter:Expr)(wi:TI):Prop :=
 ∀ (ZY:Do) (s:VL) (σ:St) (H:Hp) (R:It->Hp->Prop),Inv X ZY σ H s->wi σ H R →
  V2 (Wb X.prog X.w) X.A (Xw iter X.env) (fun v s1=>V2 (Wb X.prog X.w) X.A (abJ v) (PIE X ZY σ tg R) X.xe s1) X.xe s
def Mj {M : acW}{A : WM}{E : Value → VL → Prop}{s : VL}{tg : Expr}{it : Addr}{u : Value}{o : YB}{n : String}{vs : Array Value}{Q : Unit → VL → Prop}(ho : s.heap.get? it = some o)(hc : o.cls = .type n)(hd : o.data = .fields vs)
    (hn : ["enumerate", "zip", "dict_itemiterator", "dict_reverseitemiterator", "odict_iterator", "itertools.zip_longest", "itertools.pairwise"].contains n = false) (hQ : Q () s) : V2 M A (Y5 tg (.ref it) u) Q E s := by
  unfold Y5;cases tg <;> first
    | exact VM hQ
    | (cases u <;> first
        | exact VM hQ
        | (refine VG (wpAny_load ho ?_)
           rw [hc, hd];show V2 M A (if (["enumerate", "zip", "dict_itemiterator", "dict_reverseitemiterator", "odict_iterator", "itertools.zip_longest", "itertools.pairwise"].contains n && vs[0]? == some (XF _)) = true then _ else _) Q E s
           rw [if_neg (by intro h;rw [hn, Z1] at h;cases h)]
           exact VM hQ))
def Itl (K:V8)(a:Addr):It :=
 ⟨fun i H=>∃ xs x,SqL K H a xs/\xs[i]? = some x,fun i H x H'=>H'=H/\∀ xs,SqL K H a xs->xs[i]? = some x,fun i H=>∃ xs,SqL K H a xs/\xs.length<=i⟩
def Itt (K:V8)(a:Addr):It :=
 ⟨fun i H=>∃ xs x,SqT K H a xs/\xs[i]? = some x,fun i H x H'=>H'=H/\∀ xs,SqT K H a xs->xs[i]? = some x,fun i H=>∃ xs,SqT K H a xs/\xs.length<=i⟩
def Itr (lo:Int)(n:Nat):It:=⟨fun i _=>i < n,fun i H x H'=>H'=H/\x = .int (lo+i),fun i _=>n<=i⟩
def Ir {P:Wi}{w:Wy}{K:V8}{tg:Expr}(a it:Addr):Turn P w K tg (Itl K a) [it] it (fun i h=>h.IsListIter it a i) where
 mem:=by simp
 obj:=fun i h st b hb=>by
  have e:b=it:=by simpa using hb
  subst e;obtain⟨o,e,c,d⟩:=st;exact⟨o,e,fun v z=>by rw[d] at z;cases z⟩
 keep:=fun i h h' st k=>st.at fun o e=>k it (by simp) o e
 item:=by
  intro X hP hw hK hc i ZY s σ H E I hf st hg;subst hP hw hK;obtain⟨xs,x,hq,hx⟩:=hg;obtain⟨its,rv,p,hz⟩:=I.list hq;obtain⟨u,hu,ru⟩:=rv.get hx;obtain⟨f0,f1,f2,f3,f4,f5⟩:=hf it (by simp);refine wpAny_pyNext_list_item st p.isList (x:=u) (by simpa using hu) fun h' st' sb=>?_;have I1:Inv X ZY σ H { s with heap:=h' }:=I.turned (t':=s.toks) (fun b o hb e=>(sb.2 b hb).trans e) f0 f1 f3 f4 f5;obtain⟨o,e,c,d⟩:=id st';exact⟨u,U,Mj (s:={ s with heap:=h' }) e c d (by decide) ⟨x,H,I1,ru,⟨U,fun ys hy=>by rw[I.wz hy hq];exact hx⟩,st',fun b hb=>(hf b hb).1⟩⟩
 done:=by
  intro X hP hw hK hc i ZY s σ H E I hf st hg;subst hP hw hK;obtain⟨xs,hq,hx⟩:=hg;obtain⟨its,rv,p,hz⟩:=I.list hq;obtain⟨f0,f1,f2,f3,f4,f5⟩:=hf it (by simp);have hl:=rv.length;exact wpAny_pyNext_list_end (I.ok.hd hc) st p.isList (by simp;lia) fun h' eb=>⟨U,I.turned (t':=s.toks) (fun b o hb e=>eb b o hb e) f0 f1 f3 f4 f5⟩
 self:=fun _ _ _ _ _ st h=>wpAny_pyIter_listiter st h
def Dz {P:Wi}{w:Wy}{K:V8}{tg:Expr}(a it:Addr):Turn P w K tg (Itt K a) [it] it (fun i h=>h.IsTupleIter it a i) where
 mem:=by simp
 obj:=fun i h st b hb=>by
  have e:b=it:=by simpa using hb
  subst e;obtain⟨o,e,c,d⟩:=st;exact⟨o,e,fun v z=>by rw[d] at z;cases z⟩
 keep:=fun i h h' st k=>st.at fun o e=>k it (by simp) o e
 item:=by
  intro X hP hw hK hc i ZY s σ H E I hf st hg;subst hP hw hK;obtain⟨xs,x,hq,hx⟩:=hg;obtain⟨its,rv,p,hz⟩:=I.tuple hq;obtain⟨u,hu,ru⟩:=rv.get hx;obtain⟨f0,f1,f2,f3,f4,f5⟩:=hf it (by simp);refine wpAny_pyNext_tuple_item st (show s.heap.IsTuple a its.toArray from p) (x:=u) (by simpa using hu) fun h' st' sb=>?_;have I1:Inv X ZY σ H { s with heap:=h' }:=I.turned (t':=s.toks) (fun b o hb e=>(sb.2 b hb).trans e) f0 f1 f3 f4 f5;obtain⟨o,e,c,d⟩:=id st';exact⟨u,U,Mj (s:={ s with heap:=h' }) e c d (by decide) ⟨x,H,I1,ru,⟨U,fun ys hy=>by rw[I.sX hy hq];exact hx⟩,st',fun b hb=>(hf b hb).1⟩⟩
 done:=by
  intro X hP hw hK hc i ZY s σ H E I hf st hg;subst hP hw hK;obtain⟨xs,hq,hx⟩:=hg;obtain⟨its,rv,p,hz⟩:=I.tuple hq;obtain⟨f0,f1,f2,f3,f4,f5⟩:=hf it (by simp);have hl:=rv.length;exact wpAny_pyNext_tuple_end (I.ok.hd hc) st (show s.heap.IsTuple a its.toArray from p) (by simp;lia) fun h' eb=>⟨U,I.turned (t':=s.toks) (fun b o hb e=>eb b o hb e) f0 f1 f3 f4 f5⟩
 self:=fun _ _ _ _ _ st h=>wpAny_pyIter_tupleiter st h
def Ds {P:Wi}{w:Wy}{K:V8}{tg:Expr}(it:Addr)(lo:Int)(n:Nat):Turn P w K tg (Itr lo n) [it] it (fun i h=>IsRangeIter h it (lo+(i:Nat) * 1) ((n:Int) - (i:Nat)) 1) where
 mem:=by simp
 obj:=fun i h st b hb=>by
  have e:b=it:=by simpa using hb
  subst e
  exact⟨_,st,fun v z=>by
   have z':Data.fields _=Data.cell v:=z
   cases z'⟩
 keep:=fun i h h' st k=>k it (by simp) _ st
 item:=by
  intro X hP hw hK hc i ZY s σ H E I hf st hg;subst hP hw hK;obtain⟨f0,f1,f2,f3,f4,f5⟩:=hf it (by simp);have W:=Walks.range (prog:=X.prog) (w:=X.w) (I.ok.hd hc) it lo 1 n;refine W.item i s _ _ hg st fun v h' tk hv st' kk=>?_;obtain⟨t,rfl⟩:=hv;have I1:Inv X ZY σ H { s with heap:=h',toks:=tk }:=I.turned (fun b o hb e=>kk b o (by simpa using hb) e) f0 f1 f3 f4 f5;refine⟨_,U,Mj (s:={ s with heap:=h',toks:=tk }) (n:="range_iterator") st' U U (by decide) ⟨.int (lo+i),H,I1,⟨t,?_⟩,⟨U,U⟩,st',fun b hb=>(hf b hb).1⟩⟩;rw[Int.mul_one]
 done:=by
  intro X hP hw hK hc i ZY s σ H E I hf st hg;subst hP hw hK;obtain⟨f0,f1,f2,f3,f4,f5⟩:=hf it (by simp);exact wpAny_pyNext_range_end (I.ok.hd hc) st (by have:n<=i:=hg;lia) fun h' eb=>⟨U,I.turned (t':=s.toks) (fun b o hb e=>eb b o hb e) f0 f1 f3 f4 f5⟩
 self:=fun _ _ _ _ _ st h=>wpAny_pyIter_rangeiter st h
section
variable {X:Cx}{tg:Expr}
def O7 (K:V8)(tl:TE):TI:=fun σ H R=>tl σ H fun x H1=>∃ a,x = .ref a/\(∃ xs,SqL K H1 a xs)/\R (Itl K a) H1
def U9 (K:V8)(tl:TE):TI:=fun σ H R=>tl σ H fun x H1=>∃ a,x = .ref a/\(∃ xs,SqT K H1 a xs)/\R (Itt K a) H1
def cW {l:Expr}{tl:TE}(hl:PE X l tl):PI X tg l (O7 X.K tl):=by
 intro ZY s σ H R I h;refine thn (hl ZY s σ H _ I h) fun v s1 ⟨x,H1,I1,r1,q1⟩=>?_;obtain⟨a,e,⟨xs,hq⟩,q⟩:=q1;subst e;cases r1;obtain⟨its,rv,p,hz⟩:=I1.list hq;refine ZF p.isList ?_;refine⟨s1.heap.objs.size,[s1.heap.objs.size],_,_,H1,U,I1.kept (t':=s1.toks) fun b o e=>VJ _ e,Ir a _,⟨_,V5 _ U,U,U⟩,fun b hb=>?_,q⟩;have e:b=s1.heap.objs.size:=by simpa using hb
 subst e;exact I1.Mw (VP _) (I1.hok.fresh (VP _))
def cH {l:Expr}{tl:TE}(hl:PE X l tl):PI X tg l (U9 X.K tl):=by
 intro ZY s σ H R I h;refine thn (hl ZY s σ H _ I h) fun v s1 ⟨x,H1,I1,r1,q1⟩=>?_;obtain⟨a,e,⟨xs,hq⟩,q⟩:=q1;subst e;cases r1;obtain⟨its,rv,p,hz⟩:=I1.tuple hq;refine wpAny_pyIter_tuple (show s1.heap.IsTuple a its.toArray from p) ?_;refine⟨s1.heap.objs.size,[s1.heap.objs.size],_,_,H1,U,I1.kept (t':=s1.toks) fun b o e=>VJ _ e,Dz a _,⟨_,V5 _ U,U,U⟩,fun b hb=>?_,q⟩;have e:b=s1.heap.objs.size:=by simpa using hb
 subst e;exact I1.Mw (VP _) (I1.hok.fresh (VP _))
def Br {ZY:Do}{σ:St}{H:Hp}{s:VL}{R:It->Hp->Prop}{E:DC}{lo hi:Int}{t u v:Tok}{tk:Nat}(I:Inv X ZY σ H s)(h1 : -(2 ^ 62)<=lo)(h2:lo < 2 ^ 62)(h3 : -(2 ^ 62)<=hi)(h4:hi < 2 ^ 62)
  (q:R (Itr lo (hi - lo).toNat) H):V2 (Wb X.prog X.w) X.A (abJ (.ref s.heap.objs.size)) (PIE X ZY σ tg R) E { s with heap:=s.heap.push { cls:=.type "range",data:=.fields #[.int lo t,.int hi u,.int 1 v] },toks:=tk }:=by
 refine wpAny_pyIter_range (IsRange.new ..) (small_one h1 h2 h3 h4) ?_;have I1:Inv X ZY σ H { s with heap:=s.heap.push { cls:=.type "range",data:=.fields #[.int lo t,.int hi u,.int 1 v] },toks:=tk }:=I.kept fun b o e=>VJ _ e
 refine⟨(s.heap.push { cls:=.type "range",data:=.fields #[.int lo t,.int hi u,.int 1 v] }).objs.size,[(s.heap.push { cls:=.type "range",data:=.fields #[.int lo t,.int hi u,.int 1 v] }).objs.size],_,_,H,U,
  I1.kept (t':=tk) fun b o e=>VJ _ e,Ds _ lo (hi - lo).toNat,?_,fun b hb=>?_,q⟩
 ·have e1:lo+((0:Nat):Int) * 1=lo:=by simp
  have e2:(((hi - lo).toNat:Nat):Int) - ((0:Nat):Int)=Builtin.Range.rangeSize lo hi 1:=by rw[rangeSize_one];split <;> lia
  show IsRangeIter _ _ (lo+((0:Nat):Int) * 1) ((((hi - lo).toNat:Nat):Int) - ((0:Nat):Int)) 1;rw[e1,e2];exact V5 _ U
 ·have e:b=(s.heap.push { cls:=.type "range",data:=.fields #[.int lo t,.int hi u,.int 1 v] }).objs.size:=by simpa using hb
  subst e;exact I1.Mw (VP _) (I1.hok.fresh (VP _))
def Ud (ta:TA):TI:=fun σ H R=>ta σ H fun vs H1=>∃ j:Int,vs=[.int j]/\-(2 ^ 62)<=j/\j < 2 ^ 62/\R (Itr 0 j.toNat) H1
def Uu (ta:TA):TI:=fun σ H R=>ta σ H fun vs H1=>∃ i j:Int,vs=[.int i,.int j]/\(-(2 ^ 62)<=i/\i < 2 ^ 62/\-(2 ^ 62)<=j/\j < 2 ^ 62)/\R (Itr i (j - i).toNat) H1
def bQ {a:Expr} {ta:TA} {p pos:ZX} (hg:Gl X "range") (hm:X.mg "range" = none) (ha:PA X [a] ta) (hs:Wg [a] X.env=[(false,Xw a X.env)]:=by rfl):PI X tg (.Call (.Name "range" p) [a] [] pos) (Ud ta):=by
 intro ZY s σ H R I h;refine Call_ (jH I hg hm boot_range (X3 (thn (ha pos ZY s σ H _ I h) fun us s1 ⟨vs,H1,I1,r1,q1⟩=>?_) hs U));obtain⟨j,e,q1,q2,q⟩:=q1;subst e;cases r1 with
 | cons r rr =>
  cases rr;obtain⟨t,rfl⟩:=r;exact call_range_1 (Br I1 (by lia) (by lia) q1 q2 (by simpa using q))
def Jv {a b:Expr} {ta:TA} {p pos:ZX} (hg:Gl X "range") (hm:X.mg "range" = none) (ha:PA X [a,b] ta) (hs:Wg [a,b] X.env=[(false,Xw a X.env),(false,Xw b X.env)]:=by rfl) (hs2:Wg [b] X.env=[(false,Xw b X.env)]:=by rfl) :
  PI X tg (.Call (.Name "range" p) [a,b] [] pos) (Uu ta):=by
 intro ZY s σ H R I h;refine Call_ (jH I hg hm boot_range (X3 (thn (ha pos ZY s σ H _ I h) fun us s1 ⟨vs,H1,I1,r1,q1⟩=>?_) (by rw[hs,hs2]) (by rw[hs2];rfl)));obtain⟨i,j,e,⟨q1,q2,q3,q4⟩,q⟩:=q1;subst e;cases r1 with
 | cons r rr =>
  cases rr with
  | cons r' rr =>
   cases rr;obtain⟨t,rfl⟩:=r;obtain⟨t',rfl⟩:=r';exact call_range_2 (Br I1 q1 q2 q3 q4 q)
def Vj (wi:TI)(g:TG)(tb:TS):TS:=fun D σ H=>wi σ H fun J H1=>∃ W:Nat->Nat->St->Hp->Prop,(∃ m,W 0 m σ H1)/\∀ i m σ H,W i m σ H →
 (J.stop i H/\D.nx σ H)∨(J.go i H/\∃ N:St->Hp->Prop,(∀ σ' H',N σ' H'->∃ m',m' < m/\W (i+1) m' σ' H')/\∀ x H',J.yld i H x H'->g x σ H' fun σ2 H2=>tb { D with nx:=N,ct:=N,bk:=D.nx } σ2 H2)
def nQ (fp:DM)(h:WT):Do:=fp.filterMap fun b=>(h.get? b).map fun o=>(b,o)
def cQ {fp:DM}{h:WT}{b:Addr}{o:YB}(hb:b∈fp)(e:h.get? b=some o):(b,o)∈nQ fp h:=List.mem_filterMap.mpr ⟨b,hb,by rw[e];rfl⟩
def Jy {fp:DM}{h:WT}{p:Addr × YB}(hp:p∈nQ fp h):p.1∈fp/\h.get? p.1=some p.2:=by
 obtain⟨b,hb,e⟩:=List.mem_filterMap.mp hp;cases q:h.get? b with
 | none=>rw[q] at e;cases e
 | some o =>
  rw[q] at e;have e':(b,o)=p:=WL e;subst e';exact⟨hb,q⟩
def Inv.pinned {ZY:Do}{σ:St}{H:Hp}{s:VL}{fp:DM}(I:Inv X ZY σ H s)(hf:∀ b∈fp,uv X ZY H b)(ho:∀ b∈fp,∃ o,s.heap.get? b=some o/\∀ v,o.data≠.cell v):Inv X (ZY++nQ fp s.heap) σ H s :=
 I.Je fun p hp=>(List.mem_append.mp hp).elim (fun z=>I.pin p (Wq _ z)) fun z=>by
  obtain⟨hb,e⟩:=Jy z;obtain⟨f0,f1,f2,_⟩:=hf p.1 hb;obtain⟨o,e',d⟩:=ho p.1 hb;rw[e] at e';cases e';exact⟨e,f0,f1,f2,d⟩
def Inv.jy {ZY pl:Do}{σ:St}{H:Hp}{s:VL}(I:Inv X (ZY++pl) σ H s):Inv X ZY σ H s:=I.Je fun p hp=>I.pin p (Wq _ (aaI _ hp))
def bW {iter:Expr}{body:DS}{wi:TI}{g:TG}{tb:TS}{pos:ZX}(hp:PassesOwn (Wb X.prog X.w) X.A X.env X.xe)(hc:X.calm=true)(hi:PI X tg iter wi)(hg:PG X tg g)(hb:PSs X body tb)
  (hs:∀ x,Yt iter X.env x=pure x:=by intro _;rfl):PS X (.For tg iter body [] pos) (Vj wi g tb):=by
 intro ZY s σ H D I h;refine wpAny_For (thn (hi ZY s σ H _ I h) fun v s1 h1=>thn h1 fun itv s2 h2=>?_) hs;obtain⟨it,fp,tn,J,H2,e,I2,T,st2,f2,W,⟨m0,w0⟩,turn⟩:=h2;subst e;have stat:∀ {H':Hp},(∀ b∈fp,H' b=none)->∀ b∈fp,uv X ZY H' b:=fun hn b hb=>⟨hn b hb,(f2 b hb).2⟩;refine codeAny_forLoop_any (fun n s'=>∃ i σ' H',Inv X ZY σ' H' s'/\tn i s'.heap/\(∀ b∈fp,H' b=none)/\W i n σ' H') ?_ m0 ⟨0,σ,H2,I2,st2,fun b hb=>(f2 b hb).1,w0⟩;rintro n s3 ⟨i,σ3,H3,I3,st3,fr3,w3⟩;rcases turn i n σ3 H3 w3 with⟨stop,qn⟩ | ⟨go,N,hN,step⟩;{refine Zx hp (thn (T.done X U U U hc i ZY s3 σ3 H3 X.xe I3 (stat fr3) st3 stop) fun r s4 ⟨hr,I4⟩=>?_);subst hr;exact aaM ⟨σ3,H3,I4,qn⟩}
 ·refine Zx hp (thn (T.item X U U U hc i ZY s3 σ3 H3 X.xe I3 (stat fr3) st3 go) fun r s4 ⟨u,hr,h4⟩=>?_);subst hr;refine Zx hp (thn h4 fun _ s5 ⟨x,H5,I5,r5,y5,st5,fr5⟩=>?_);have I5':=I5.pinned (stat fr5) (T.obj _ _ st5);refine Zx hp (thn (hg _ s5 σ3 H5 x u _ I5' r5 (step x H5 y5)) fun _ s6 ⟨σ6,H6,I6,q6⟩=>?_);refine Zx hp (thn (hb _ s6 σ6 H6 _ I6 q6) fun f s7 q7=>?_);have again:∀ {σ7:St} {H7:Hp},Inv X (ZY++nQ fp s5.heap) σ7 H7 s7->N σ7 H7->∃ m,m < n/\∃ i σ' H',Inv X ZY σ' H' s7/\tn i s7.heap/\(∀ b∈fp,H' b=none)/\W i m σ' H':=fun {σ7 H7} I7 n7=>by
   obtain⟨m',hm,w7⟩:=hN σ7 H7 n7;refine⟨m',hm,i+1,σ7,H7,I7.jy,T.keep _ _ _ st5 fun b hb o e=>(I7.pin (b,o) (Wq _ (Wq _ (cQ hb e)))).1,fun b hb=>?_,w7⟩;obtain⟨o,e,d⟩:=T.obj _ _ st5 b hb;exact (I7.pin (b,o) (Wq _ (Wq _ (cQ hb e)))).2.1
  cases f with
  | next=>obtain⟨σ7,H7,I7,n7⟩:=q7;exact again I7 n7
  | cont=>obtain⟨σ7,H7,I7,n7⟩:=q7;exact again I7 n7
  | brk=>obtain⟨σ7,H7,I7,q7⟩:=q7;exact⟨σ7,H7,I7.jy,q7⟩
  | ret v=>obtain⟨x7,σ7,H7,I7,r7,q7⟩:=q7;exact⟨x7,σ7,H7,I7.jy,r7,q7⟩
end
def dB {K:V8}{a:Addr}{xs:List V}{g:TG}{tb:TS}{D:Ends}{σ:St}{H:Hp}(Pv:Nat->St->Hp->Prop)(h0:Pv 0 σ H)(hl:∀ i σ H,i<=xs.length->Pv i σ H->SqL K H a xs)
  (hs:∀ i x σ H,xs[i]? = some x->Pv i σ H->g x σ H fun σ2 H2=>tb { D with nx:=Pv (i+1),ct:=Pv (i+1),bk:=D.nx } σ2 H2) (hd:∀ σ H,Pv xs.length σ H->D.nx σ H) :
  ∃ W:Nat->Nat->St->Hp->Prop,(∃ m,W 0 m σ H)/\∀ i m σ H,W i m σ H →
   ((Itl K a).stop i H/\D.nx σ H)∨((Itl K a).go i H/\∃ N:St->Hp->Prop,(∀ σ' H',N σ' H'->∃ m',m' < m/\W (i+1) m' σ' H')/\∀ x H',(Itl K a).yld i H x H'->g x σ H' fun σ2 H2=>tb { D with nx:=N,ct:=N,bk:=D.nx } σ2 H2):=by
 refine⟨fun i m σ H=>m=xs.length - i/\i<=xs.length/\Pv i σ H,⟨xs.length,by simp,Wz _,h0⟩,?_⟩;rintro i m σ H ⟨rfl,hi,p⟩;have q:=hl i σ H hi p;by_cases hlt:i < xs.length;{refine .inr ⟨⟨xs,xs[i],q,by simp [hlt]⟩,Pv (i+1),fun σ' H' p'=>⟨xs.length - (i+1),by lia,U,hlt,p'⟩,fun x H' y=>?_⟩;obtain⟨e,y⟩:=y;subst e;exact hs i x σ _ (y xs q) p}
 ·have e:i=xs.length:=by lia
  subst e;exact .inl ⟨⟨xs,q,VP _⟩,hd σ H p⟩
def dY {K:V8}{a:Addr}{xs:List V}{g:TG}{tb:TS}{D:Ends}{σ:St}{H:Hp}(Pv:Nat->St->Hp->Prop)(h0:Pv 0 σ H)(hl:∀ i σ H,i<=xs.length->Pv i σ H->SqT K H a xs)
  (hs:∀ i x σ H,xs[i]? = some x->Pv i σ H->g x σ H fun σ2 H2=>tb { D with nx:=Pv (i+1),ct:=Pv (i+1),bk:=D.nx } σ2 H2) (hd:∀ σ H,Pv xs.length σ H->D.nx σ H) :
  ∃ W:Nat->Nat->St->Hp->Prop,(∃ m,W 0 m σ H)/\∀ i m σ H,W i m σ H →
   ((Itt K a).stop i H/\D.nx σ H)∨((Itt K a).go i H/\∃ N:St->Hp->Prop,(∀ σ' H',N σ' H'->∃ m',m' < m/\W (i+1) m' σ' H')/\∀ x H',(Itt K a).yld i H x H'->g x σ H' fun σ2 H2=>tb { D with nx:=N,ct:=N,bk:=D.nx } σ2 H2):=by
 refine⟨fun i m σ H=>m=xs.length - i/\i<=xs.length/\Pv i σ H,⟨xs.length,by simp,Wz _,h0⟩,?_⟩;rintro i m σ H ⟨rfl,hi,p⟩;have q:=hl i σ H hi p;by_cases hlt:i < xs.length;{refine .inr ⟨⟨xs,xs[i],q,by simp [hlt]⟩,Pv (i+1),fun σ' H' p'=>⟨xs.length - (i+1),by lia,U,hlt,p'⟩,fun x H' y=>?_⟩;obtain⟨e,y⟩:=y;subst e;exact hs i x σ _ (y xs q) p}
 ·have e:i=xs.length:=by lia
  subst e;exact .inl ⟨⟨xs,q,VP _⟩,hd σ H p⟩
def iz {lo:Int}{n:Nat}{g:TG}{tb:TS}{D:Ends}{σ:St}{H:Hp}(Pv:Nat->St->Hp->Prop)(h0:Pv 0 σ H)
  (hs:∀ i σ H,i < n->Pv i σ H->g (.int (lo+i)) σ H fun σ2 H2=>tb { D with nx:=Pv (i+1),ct:=Pv (i+1),bk:=D.nx } σ2 H2) (hd:∀ σ H,Pv n σ H->D.nx σ H) :
  ∃ W:Nat->Nat->St->Hp->Prop,(∃ m,W 0 m σ H)/\∀ i m σ H,W i m σ H →
   ((Itr lo n).stop i H/\D.nx σ H)∨((Itr lo n).go i H/\∃ N:St->Hp->Prop,(∀ σ' H',N σ' H'->∃ m',m' < m/\W (i+1) m' σ' H')/\∀ x H',(Itr lo n).yld i H x H'->g x σ H' fun σ2 H2=>tb { D with nx:=N,ct:=N,bk:=D.nx } σ2 H2):=by
 refine⟨fun i m σ H=>m=n - i/\i<=n/\Pv i σ H,⟨n,by simp,Wz _,h0⟩,?_⟩;rintro i m σ H ⟨rfl,hi,p⟩;by_cases hlt:i < n;{refine .inr ⟨hlt,Pv (i+1),fun σ' H' p'=>⟨n - (i+1),by lia,U,hlt,p'⟩,fun x H' y=>?_⟩;obtain⟨e,y⟩:=y;subst e y;exact hs i σ _ hlt p}
 ·have e:i=n:=by lia
  subst e;exact .inl ⟨VP _,hd σ H p⟩
def KY {c:TT}{tb:TS}{D:Ends}{σ:St}{H:Hp}(Pv:St->Hp->Prop)(μ:St->Hp->Nat)(h0:Pv σ H)
  (hs:∀ σ H,Pv σ H->c σ H fun b H1=>if b=true then tb { D with nx:=fun σ' H'=>Pv σ' H'/\μ σ' H' < μ σ H,ct:=fun σ' H'=>Pv σ' H'/\μ σ' H' < μ σ H,bk:=D.nx } σ H1 else D.nx σ H1)
  (mono:∀ σ H Q Q',(∀ b H1,Q b H1->Q' b H1)->c σ H Q->c σ H Q'):Ni c tb D σ H:=by
 refine⟨fun m σ H=>m=μ σ H/\Pv σ H,⟨_,U,h0⟩,?_⟩;rintro m σ H ⟨rfl,p⟩;refine mono σ H _ _ (fun b H1 q=>?_) (hs σ H p);cases b with
 | true=>exact⟨_,fun σ' H' ⟨p',l⟩=>⟨_,l,U,p'⟩,q⟩
 | false=>exact q
abbrev R2:=V->V->Hp->VK->Prop
def OpR (X:Cx)(f:Value->Value->Sem Value)(r:R2):Prop :=
 ∀ (ZY:Do) (s:VL) (σ:St) (H:Hp) (x y:V) (v u:Value) (Q:VK),Inv X ZY σ H s->RelV x v->RelV y u->r x y H Q →
  V2 (Wb X.prog X.w) X.A (f v u) (EP X ZY σ Q) X.xe s
def UnR (X:Cx)(f:Value->Sem Value)(r:V->Hp->VK->Prop):Prop :=
 ∀ (ZY:Do) (s:VL) (σ:St) (H:Hp) (x:V) (v:Value) (Q:VK),Inv X ZY σ H s->RelV x v->r x H Q →
  V2 (Wb X.prog X.w) X.A (f v) (EP X ZY σ Q) X.xe s
def gj (X:Cx)(f:Value)(r:List V->Hp->VK->Prop):Prop :=
 ∀ (ZY:Do) (s:VL) (σ:St) (H:Hp) (xs:List V) (us:DJ) (Q:VK),Inv X ZY σ H s->Vals xs us->r xs H Q →
  V2 (Wb X.prog X.w) X.A (call f us) (EP X ZY σ Q) X.xe s
def tOp (r:R2)(ta tb:TE):TE:=fun σ H Q=>ta σ H fun x H1=>tb σ H1 fun y H2=>r x y H2 Q
def tUn (r:V->Hp->VK->Prop)(ta:TE):TE:=fun σ H Q=>ta σ H fun x H1=>r x H1 Q
inductive rI (C:Int->Int->Prop)(g:Int->Int->V)(x:V)(y:V)(H:Hp)(Q:VK):Prop where
 | mk (i:Int) (j:Int) (_:x = .int i) (_:y = .int j) (_:C i j) (_:Q (g i j) H)
inductive rI0 (g:Int->Int->V)(x:V)(y:V)(H:Hp)(Q:VK):Prop where
 | mk (i:Int) (j:Int) (_:x = .int i) (_:y = .int j) (_:Q (g i j) H)
inductive rU (g:Int->V)(x:V)(H:Hp)(Q:VK):Prop where
 | mk (i:Int) (_:x = .int i) (_:Q (g i) H)
section
variable {X:Cx}{a b c:Expr}{ta tb tc:TE}{pos:ZX}
def TQ (ha:PE X a ta)(hb:PE X b tb){ZY:Do}{s:VL}{σ:St}{H:Hp}{R:V->V->Hp->Prop}(I:Inv X ZY σ H s)
  (h:ta σ H fun x H1=>tb σ H1 fun y H2=>R x y H2) {Q:DC} {f:Value->Value->Sem Value}
  (hf:∀ v u s2 x y H2,Inv X ZY σ H2 s2->RelV x v->RelV y u->R x y H2->V2 (Wb X.prog X.w) X.A (f v u) Q X.xe s2) :
  V2 (Wb X.prog X.w) X.A (Xw a X.env) (fun v s₁=>V2 (Wb X.prog X.w) X.A (Xw b X.env) (fun u s₂=>V2 (Wb X.prog X.w) X.A (f v u) Q X.xe s₂) X.xe s₁) X.xe s:=by
 refine thn (ha ZY s σ H _ I h) fun v s1 ⟨x,H1,I1,r1,q1⟩=>?_;refine thn (hb ZY s1 σ H1 _ I1 q1) fun u s2 ⟨y,H2,I2,r2,q2⟩=>?_;exact hf v u s2 x y H2 I2 r1 r2 q2
def aN {op:Operator}{r:R2}(ho:OpR X (aaf op) r)(ha:PE X a ta)(hb:PE X b tb):PE X (.BinOp a op b pos) (tOp r ta tb):=by
 intro ZY s σ H Q I h;exact wpAny_BinOp (TQ ha hb I h fun v u s2 x y H2 I2 rx ry q=>ho ZY s2 σ H2 x y v u Q I2 rx ry q)
def vX {op:UnaryOp}{r:V->Hp->VK->Prop}(ho:UnR X (unaryOp op) r)(ha:PE X a ta):PE X (.UnaryOp op a pos) (tUn r ta):=by
 intro ZY s σ H Q I h;exact UnaryOp_ (thn (ha ZY s σ H _ I h) fun v s1 ⟨x,H1,I1,r1,q1⟩=>ho ZY s1 σ H1 x v Q I1 r1 q1)
def opI {f:Value->Value->Sem Value}{C:Int->Int->Prop}{g:Int->Int->Int}
  (rule:∀ (i j:Int) (t u:Tok) (s:VL) (Q:DC) (E:DC),C i j->Q (.int (g i j) s.toks) { s with toks:=s.toks+1 }->V2 (Wb X.prog X.w) X.A (f (.int i t) (.int j u)) Q E s) :
  OpR X f (rI C fun i j=>.int (g i j)):=by
 intro ZY s σ H x y v u Q I rx ry h;obtain⟨i,j,rfl,rfl,hc,q⟩:=h;obtain⟨t,rfl⟩:=rx;obtain⟨t',rfl⟩:=ry;exact rule i j t t' s _ _ hc ⟨.int (g i j),H,I.tok _,⟨_,U⟩,q⟩
def Ve {f:Value->Value->Sem Value}{g:Int->Int->Int}
  (rule:∀ (i j:Int) (t u:Tok) (s:VL) (Q:DC) (E:DC),Q (.int (g i j) s.toks) { s with toks:=s.toks+1 }->V2 (Wb X.prog X.w) X.A (f (.int i t) (.int j u)) Q E s) :
  OpR X f (rI0 fun i j=>.int (g i j)):=by
 intro ZY s σ H x y v u Q I rx ry h;obtain⟨i,j,rfl,rfl,q⟩:=h;obtain⟨t,rfl⟩:=rx;obtain⟨t',rfl⟩:=ry;exact rule i j t t' s _ _ ⟨.int (g i j),H,I.tok _,⟨_,U⟩,q⟩
def Tp {f:Value->Value->Sem Value}{g:Int->Int->Bool}
  (rule:∀ (i j:Int) (t u:Tok) (s:VL) (Q:DC) (E:DC),Q (.bool (g i j)) s->V2 (Wb X.prog X.w) X.A (f (.int i t) (.int j u)) Q E s) :
  OpR X f (rI0 fun i j=>.bl (g i j)):=by
 intro ZY s σ H x y v u Q I rx ry h;obtain⟨i,j,rfl,rfl,q⟩:=h;obtain⟨t,rfl⟩:=rx;obtain⟨t',rfl⟩:=ry;exact rule i j t t' s _ _ ⟨.bl (g i j),H,I,U,q⟩
def Vy (i j:Int):Prop:=0 < j/\j < 1073741824
def Vt (i j:Int):Prop:=0<=j/\j<=1000000/\i.natAbs < 2 ^ 64
def T7 (i j:Int):Prop:=(-(2 ^ 64) < i/\i < 2 ^ 64)∨(-(2 ^ 64) < j/\j < 2 ^ 64)
def T7.ok {i j:Int}(h:T7 i j):IntMulOk i j:=by
 rcases h with⟨h1,h2⟩ | ⟨h1,h2⟩;{exact .of_left (intBits_le_64 h1 h2)};{exact .of_right (intBits_le_64 h1 h2)}
def bF:OpR X (aaf .Add) (rI0 fun i j=>.int (i+j)):=Ve fun _ _ _ _ _ _ _ q=>add_int q
def eQ:OpR X (aaf .Sub) (rI0 fun i j=>.int (i - j)):=Ve fun _ _ _ _ _ _ _ q=>sub_int q
def gm:OpR X (aaf .Mult) (rI T7 fun i j=>.int (i * j)):=opI fun _ _ _ _ _ _ _ hc q=>mul_int q hc.ok
def vm:OpR X (aaf .FloorDiv) (rI Vy fun i j=>.int (i / j)):=opI fun i j _ _ _ _ _ hc q=>by
 have h1:(0:Int) < j:=hc.1;have h2:j < 1073741824:=hc.2;exact floordiv_int (by lia) (by rw[Int.fdiv_eq_ediv_of_nonneg i (by lia)];exact q) (.inl (PyProof.noPylong_small (by lia)))
def bM:OpR X (aaf .Mod) (rI (fun _ j=>0 < j) fun i j=>.int (i % j)):=opI fun i j _ _ _ _ _ hc q=>by
 have h1:(0:Int) < j:=hc;exact mod_int' (by lia) (by rw[Int.fmod_eq_emod_of_nonneg i (by lia)];exact q)
def qT:OpR X (aaf .Pow) (rI Vt fun i j=>.int (i ^ j.toNat)):=opI fun _ _ _ _ _ _ _ hc q=>pow_int_small hc.1 hc.2.1 hc.2.2 q
def unI {f:Value->Sem Value}{g:Int->Int}
  (rule:∀ (i:Int) (t:Tok) (s:VL) (Q:DC) (E:DC),Q (.int (g i) s.toks) { s with toks:=s.toks+1 }->V2 (Wb X.prog X.w) X.A (f (.int i t)) Q E s) :
  UnR X f (rU fun i=>.int (g i)):=by
 intro ZY s σ H x v Q I rx h;obtain⟨i,rfl,q⟩:=h;obtain⟨t,rfl⟩:=rx;exact rule i t s _ _ ⟨.int (g i),H,I.tok _,⟨_,U⟩,q⟩
def nM:UnR X (unaryOp .USub) (rU fun i=>.int (-i)):=unI fun _ _ _ _ _ q=>neg_int q
end
def Vd:V->V->Bool
 | .non,.non=>true | .non,.int _=>true | .int _,.non=>true | .non,.bl _=>true | .bl _,.non=>true | .non,.str _=>true | .str _,.non=>true
 | .int _,.int _=>true | .bl _,.bl _=>true | .str _,.str _=>true | .byt _,.byt _=>true
 | .int _,.str _=>true | .str _,.int _=>true | .bl _,.str _=>true | .str _,.bl _=>true
 | _,_=>false
def rEq:R2:=fun x y H Q=>Vd x y=true/\Q (.bl (decide (x=y))) H
def rNe:R2:=fun x y H Q=>Vd x y=true/\Q (.bl (!decide (x=y))) H
def Hi {i j:Int}:decide (V.int i=V.int j)=(i == j):=by
 rw[aaQ];simp
def NK {i j:Bool}:decide (V.bl i=V.bl j)=(i == j):=by
 rw[aaQ];simp
def Jc {i j:Wt}:decide (V.str i=V.str j)=(i == j):=by
 rw[aaQ];simp
def Jt {i j:Array UInt8}:decide (V.byt i=V.byt j)=(i.toList == j.toList):=by
 rw[aaQ];cases i;cases j;simp
section
variable {X:Cx}{a b c:Expr}{ta tb tc:TE}{pos:ZX}
def bV {ZY:Do}{σ:St}{H:Hp}{s:VL}{Q:VK}{k k':Bool}(I:Inv X ZY σ H s)(q:Q (.bl k) H)(e:k=k'):EP X ZY σ Q (.bool k') s:=by
 subst e;exact⟨.bl k,H,I,U,q⟩
def bc:OpR X (Yn .Eq) rEq:=by
 intro ZY s σ H x y v u Q I rx ry h;obtain⟨hs,q⟩:=h;cases x with
 | non =>
  cases rx;cases y with
  | non=>cases ry;exact PySem.EqNone.eq_none_none (bV I q (by simp))
  | bl j=>cases ry;exact PySem.EqNone.eq_none_bool (bV I q (by simp))
  | int j=>obtain⟨t',rfl⟩:=ry;exact PySem.EqNone.eq_none_int (bV I q (by simp))
  | str j=>obtain⟨t',rfl⟩:=ry;exact PySem.EqNone.eq_none_str (bV I q (by simp))
  | _=>exact absurd (show false=true from hs) VR
 | bl i =>
  cases rx;cases y with
  | non=>cases ry;exact PySem.EqNone.eq_bool_none (bV I q (by simp))
  | bl j=>cases ry;exact eq_bool (bV I q NK)
  | str j=>obtain⟨t',rfl⟩:=ry;exact PySem.EqMixed.eq_bool_str (bV I q (by simp))
  | _=>exact absurd (show false=true from hs) VR
 | int i =>
  obtain⟨t,rfl⟩:=rx;cases y with
  | non=>cases ry;exact PySem.EqNone.eq_int_none (bV I q (by simp))
  | int j=>obtain⟨t',rfl⟩:=ry;exact eq_int (bV I q Hi)
  | str j=>obtain⟨t',rfl⟩:=ry;exact PySem.EqMixed.eq_int_str (bV I q (by simp))
  | _=>exact absurd (show false=true from hs) VR
 | str i =>
  obtain⟨t,rfl⟩:=rx;cases y with
  | non=>cases ry;exact PySem.EqNone.eq_str_none (bV I q (by simp))
  | bl j=>cases ry;exact PySem.EqMixed.eq_str_bool (bV I q (by simp))
  | int j=>obtain⟨t',rfl⟩:=ry;exact PySem.EqMixed.eq_str_int (bV I q (by simp))
  | str j=>obtain⟨t',rfl⟩:=ry;exact eq_str (bV I q Jc)
  | _=>exact absurd (show false=true from hs) VR
 | byt i =>
  obtain⟨t,rfl⟩:=rx;cases y with
  | byt j=>obtain⟨t',rfl⟩:=ry;exact PySem.W.eq_bytes (bV I q Jt)
  | _=>exact absurd (show false=true from hs) VR
 | _=>cases y <;> exact absurd (show false=true from hs) VR
def zQ:OpR X (Yn .NotEq) rNe:=by
 intro ZY s σ H x y v u Q I rx ry h;obtain⟨hs,q⟩:=h;cases x with
 | non =>
  cases rx;cases y with
  | non=>cases ry;exact PySem.EqNone.ne_none_none (bV I q (by simp))
  | bl j=>cases ry;exact PySem.EqNone.ne_none_bool (bV I q (by simp))
  | int j=>obtain⟨t',rfl⟩:=ry;exact PySem.EqNone.ne_none_int (bV I q (by simp))
  | str j=>obtain⟨t',rfl⟩:=ry;exact PySem.EqNone.ne_none_str (bV I q (by simp))
  | _=>exact absurd (show false=true from hs) VR
 | bl i =>
  cases rx;cases y with
  | non=>cases ry;exact PySem.EqNone.ne_bool_none (bV I q (by simp))
  | bl j=>cases ry;exact ne_bool (bV I q (congrArg not NK))
  | str j=>obtain⟨t',rfl⟩:=ry;exact PySem.EqMixed.ne_bool_str (bV I q (by simp))
  | _=>exact absurd (show false=true from hs) VR
 | int i =>
  obtain⟨t,rfl⟩:=rx;cases y with
  | non=>cases ry;exact PySem.EqNone.ne_int_none (bV I q (by simp))
  | int j=>obtain⟨t',rfl⟩:=ry;exact ne_int (bV I q (congrArg not Hi))
  | str j=>obtain⟨t',rfl⟩:=ry;exact PySem.EqMixed.ne_int_str (bV I q (by simp))
  | _=>exact absurd (show false=true from hs) VR
 | str i =>
  obtain⟨t,rfl⟩:=rx;cases y with
  | non=>cases ry;exact PySem.EqNone.ne_str_none (bV I q (by simp))
  | bl j=>cases ry;exact PySem.EqMixed.ne_str_bool (bV I q (by simp))
  | int j=>obtain⟨t',rfl⟩:=ry;exact PySem.EqMixed.ne_str_int (bV I q (by simp))
  | str j=>obtain⟨t',rfl⟩:=ry;exact ne_str (bV I q (congrArg not Jc))
  | _=>exact absurd (show false=true from hs) VR
 | byt i =>
  obtain⟨t,rfl⟩:=rx;cases y with
  | byt j=>obtain⟨t',rfl⟩:=ry;exact PySem.W.ne_bytes (bV I q (congrArg not Jt))
  | _=>exact absurd (show false=true from hs) VR
 | _=>cases y <;> exact absurd (show false=true from hs) VR
def rZ:OpR X (Yn .Lt) (rI0 fun i j=>.bl (decide (i < j))):=Tp fun _ _ _ _ _ _ _ q=>lt_int q
def QK:OpR X (Yn .LtE) (rI0 fun i j=>.bl (decide (i<=j))):=Tp fun _ _ _ _ _ _ _ q=>le_int q
def mG:OpR X (Yn .Gt) (rI0 fun i j=>.bl (decide (j < i))):=Tp fun _ _ _ _ _ _ _ q=>gt_int q
def kY:OpR X (Yn .GtE) (rI0 fun i j=>.bl (decide (j<=i))):=Tp fun _ _ _ _ _ _ _ q=>ge_int q
def NQ (b:Expr){op:CmpOp}(h:op≠.In:=by decide)(h2:op≠.NotIn:=by decide):aag op b=false:=by
 have e1:(op == CmpOp.In)=false:=by cases op <;> first | rfl | exact absurd rfl h
 have e2:(op == CmpOp.NotIn)=false:=by cases op <;> first | rfl | exact absurd rfl h2
 cases b <;> simp [aag,e1,e2]
def Gp {op:CmpOp}{r:R2}(ho:OpR X (Yn op) r)(ha:PE X a ta)(hb:PE X b tb)(hm:aag op b=false):PE X (.Compare a [op] [b] pos) (tOp r ta tb):=by
 intro ZY s σ H Q I h;exact wpAny_Compare1 (TQ ha hb I h fun v u s2 x y H2 I2 rx ry q=>ho ZY s2 σ H2 x y v u Q I2 rx ry q) hm
def RV (t:TE):TT:=fun σ H Q=>t σ H fun x H'=>ExB x fun k=>Q k H'
def fj {op:CmpOp}{r:R2}(ho:OpR X (Yn op) r)(ha:PE X a ta)(hb:PE X b tb)(hm:aag op b=false):PT X (.Compare a [op] [b] pos) (RV (tOp r ta tb)):=by
 intro ZY s σ H Q I h
 refine wpAny_isTrue_Compare1 (thn (ha ZY s σ H _ I h) fun v s1 ⟨x,H1,I1,r1,q1⟩=>thn (hb ZY s1 σ H1 _ I1 q1) fun u s2 ⟨y,H2,I2,r2,q2⟩ =>
  thn (ho ZY s2 σ H2 x y v u _ I2 r1 r2 q2) fun c s3 ⟨z,H3,I3,r3,k,e,q3⟩=>?_) hm
 subst e;cases r3;exact Ys ⟨H3,I3,q3⟩
def yl:(sizeLine:Nat) < 2 ^ 63:=by rw[sizeLine_eq];decide
def vals1 {x:V}{us:DJ}(r:Vals [x] us):∃ u,us=[u]/\RelV x u:=by
 cases r with
 | cons r1 r2=>cases r2;exact⟨_,U,r1⟩
def vals2 {x y:V}{us:DJ}(r:Vals [x,y] us):∃ u w',us=[u,w']/\RelV x u/\RelV y w':=by
 cases r with
 | cons r1 r2 =>
  cases r2 with
  | cons r3 r4=>cases r4;exact⟨_,_,U,r1,r3⟩
def nJ:gj X (.builtin "abs") (fun xs H Q=>∃ i,xs=[.int i]/\Q (.int (if i < 0 then -i else i)) H):=by
 intro ZY s σ H xs us Q I r h;obtain⟨i,rfl,q⟩:=h;obtain⟨u,rfl,t,rfl⟩:=vals1 r;exact call_abs_int fun u tk=>⟨.int (if i < 0 then -i else i),H,I.tok _,⟨_,U⟩,q⟩
def mZ (hc:X.calm=true):gj X (.builtin "max") (fun xs H Q=>∃ i j,xs=[.int i,.int j]/\Q (.int (if j > i then j else i)) H):=by
 intro ZY s σ H xs us Q I r h;obtain⟨i,j,rfl,q⟩:=h;obtain⟨u,w',rfl,⟨t,rfl⟩,⟨t',rfl⟩⟩:=vals2 r;refine max_two_ints (I.ok.hd hc) fun h' tk k=>⟨_,H,I.kept k,?_,q⟩;by_cases hj:j > i;{rw[if_pos hj,if_pos hj];exact⟨_,U⟩};{rw[if_neg hj,if_neg hj];exact⟨_,U⟩}
def Fx (hc:X.calm=true):gj X (.builtin "min") (fun xs H Q=>∃ i j,xs=[.int i,.int j]/\Q (.int (if j < i then j else i)) H):=by
 intro ZY s σ H xs us Q I r h;obtain⟨i,j,rfl,q⟩:=h;obtain⟨u,w',rfl,⟨t,rfl⟩,⟨t',rfl⟩⟩:=vals2 r;refine min_two_ints (I.ok.hd hc) fun h' tk k=>⟨_,H,I.kept k,?_,q⟩;by_cases hj:j < i;{rw[if_pos hj,if_pos hj];exact⟨_,U⟩};{rw[if_neg hj,if_neg hj];exact⟨_,U⟩}
def tG:gj X (.type "int") (fun xs H Q=>(∃ i,xs=[.int i]/\Q (.int i) H)∨∃ k,xs=[.bl k]/\Q (.int (if k then 1 else 0)) H):=by
 intro ZY s σ H xs us Q I r h;rcases h with⟨i,rfl,q⟩ | ⟨k,rfl,q⟩;{obtain⟨u,rfl,t,rfl⟩:=vals1 r;exact call_int_int ⟨.int i,H,I,⟨_,U⟩,q⟩};{obtain⟨u,rfl,r1⟩:=vals1 r;cases r1;exact call_int_bool ⟨.int (if k then 1 else 0),H,I.tok _,⟨_,U⟩,q⟩}
end
structure OD (h:WT)(x dx C:Addr)(mA:Wt->DE):Prop where
 obj:h.get? x=some (Y6 C dx)
 ns:h.Ns1 dx mA
 ne:dx≠x
def HW {h:WT}{dx:Addr}{mA:Wt->DE}(n:h.Ns1 dx mA):∃ od,h.get? dx=some od/\∀ name,abO name od=some (mA name):=by
 obtain⟨o,es,ep,ho,hd,hk,_,hm⟩:=n;refine⟨o,ho,fun name=>?_⟩;have e:=hm name;unfold nsFind findBy at e;rw[← Array.find?_toList] at e;unfold abO;rw[hd];dsimp only;split;{rename_i y q;rw[q] at e;exact congrArg some e}
 ·rename_i q;rw[q] at e;have a:es.toList.any (·.refKey)=false:=by
   rw[List.any_eq_false];intro y hy;obtain⟨z,t,hkey⟩:=hk y (Array.mem_toList_iff.mp hy);simp [DictEntry.refKey,hkey]
  have a':¬ es.toList.any (·.refKey)=true:=by rw[a];exact VR
  rw[if_neg a'];exact congrArg some e
def OD.look {h:WT}{x dx C:Addr}{mA:Wt->DE}(I:OD h x dx C mA):∃ od,PySem.W.InstAt h x (Y6 C dx) C (some od)/\∀ name,abO name od=some (mA name) :=
 let ⟨od,ho,hl⟩:=HW I.ns
 ⟨od,⟨I.obj,U,U,ho⟩,hl⟩
section
variable {prog:Wi}{w:Wy}{A:WM}{E:DC}{s:VL}{K:V8}{x dx C f:Addr}{mA:Wt->DE}{name:Wt}{v:Value}
def get_map {expr:Bool}{Q:DC}(X:K.In s.heap)(I:OD s.heap x dx C mA)(hg:aaB K C name=true)(hh:ZJ K C=true)
  (ha:Xo K (.ref C) name=some none) (hv:mA name=some v) (hv':acK v=true) (h:Q v { s with toks:=s.toks+1 }) :
  V2 (Wb prog w) A (getAttr (.ref x) name expr) Q E s:=by
 obtain⟨od,J,hl⟩:=I.look;exact PySem.W.get_value X J (abY hg).1 (PySem.W.findObj_own hh ha U (by rw[hl,hv])) hv' h
def JT {pl:Sem Bool}{Q:Value × DJ->VL->Prop}(X:K.In s.heap)(I:OD s.heap x dx C mA)(hg:aaB K C name=true)
  (hf:Xo K (.ref C) name=some (some (.ref f))) (ht:acu K (.ref f)=true) (hv:mA name=none) (h:Q (.ref f,[.ref x]) s) :
  V2 (Wb prog w) A (aap (.ref x) name pl) Q E s:=by
 obtain⟨od,J,hl⟩:=I.look;exact PySem.W.method_fn X J (abY hg).1 (abY hg).2 hf (beq_iff_eq.mp ht) (by show (abO name od).map (·.isSome)=some false;rw[hl,hv];rfl) h
def QS {ns:D0}{Q:Unit->VL->Prop}(X:K.In s.heap)(I:OD s.heap x dx C mA)
  (hs:Xo K (.ref C) "__setattr__" = some (some (.builtin "object.__setattr__"))) (hp:acr K C=true) (ht:abE K C name=some none) (hh:ZJ K C=true)
  (hw:PySem.Within mA ns) (hsz:ns.length<=sizeLine)
  (h:∀ h',OD h' x dx C (fun y=>if y=name then some v else mA y)->Yx dx s.heap h'->Q () { s with heap:=h',toks:=s.toks+2 }) :
  V2 (Wb prog w) A (setAttr (.ref x) name v) Q E s:=by
 obtain⟨od,J,hl⟩:=I.look;refine PySem.W.set_plain X J hs (PySem.W.osa_open (s:={ s with toks:=s.toks+1 }) (r:=none) X J hp ht fun b=>?_);obtain⟨cd,hc,hd'⟩:=PySem.W.any_some hh;have hx:s.heap.get? x=some ⟨.ref C,some dx,.plain,#[]⟩:=I.obj;refine VG (VM (VG (VG (wpAny_loadPart hx (VG (Yz (s:={ s with toks:=s.toks+1 }) (abZ X hc) ?_))))));rw[hd'];refine VM (a:=some dx) (VG (VM (VG ?_)));refine wpAny_nsSet1 (s:={ s with toks:=s.toks+1 }) I.ns fun h' hn2 hs2=>?_;obtain⟨oD,esD,epD,hoD,hdD,hcD⟩:=hn2.count (PySem.Within.cons name v hw);refine VG (wpAny_lookBehind hoD (by rw[hdD];exact pastItsLine_dict (Wn hcD (by rw[Wc];lia))) ?_);exact VM (h _ ⟨(hs2.2 _ (XQ I.ne)).trans I.obj,hn2,I.ne⟩ hs2)
def Lq {R:abg->VL->Prop}{vs:DJ}{kw:Db}(X:K.In s.heap)(hm:ac1 K C=true)
  (hi:Xo K (.ref C) "__init__" = some (some (.ref f))) (hf:PySem.W.typeIn K (.ref f)=some (.type "function"))
  (h:XJ (Wb prog w) (A.under (.builtin "type.__call__" ⟨.ref C::vs,kw⟩)) (.call (.ref f) ⟨.ref (s.heap.objs.size+1)::vs,kw⟩) (PySem.W.InitBack (s.heap.objs.size+1) R)
   {s with heap:=(s.heap.push Yv).push (Y6 C s.heap.objs.size) }) :
  XJ (Wb prog w) A (.call (.ref C) ⟨vs,kw⟩) R s:=by
 obtain⟨hh,g,d,t,os⟩:=s;exact PySem.W.make_core (PySem.W.makes_of X hm) (abN X hi) (fun self=>PySem.W.bind_fn X self hf) (.inl U) h
end
def tR (f:Wt)(v:V):List (Wt × V)->List (Wt × V)
 | []=>[(f,v)]
 | (g,x)::r=>if g=f then (g,v)::r else (g,x)::tR f v r
theorem rT (f g:Wt)(v:V):∀ fs:List (Wt × V),(tR f v fs).lookup g=if g=f then some v else fs.lookup g
 | []=>by
  show ZZ g [(f,v)]=_;by_cases h:g=f;{have hb:(g == f)=true:=beq_iff_eq.mpr h;simp only[ZZ,hb,if_pos h]};{have hb:(g == f)=false:=beq_eq_false_iff_ne.mpr h;simp only[ZZ,hb,if_neg h]}
 | (k,x)::r=>by
  have ih:=rT f g v r;rw[show tR f v ((k,x)::r)=(if k=f then (k,v)::r else (k,x)::tR f v r) from U]
  by_cases hk:k=f
  ·rw[if_pos hk];by_cases h:g=k;{have hb:(g == k)=true:=beq_iff_eq.mpr h;simp only[ZZ,hb,if_pos (h.trans hk)]};{have hb:(g == k)=false:=beq_eq_false_iff_ne.mpr h;simp only[ZZ,hb,if_neg (fun e:g=f=>h (e.trans hk.symm))]}
  ·rw[if_neg hk];by_cases h:g=k;{have hb:(g == k)=true:=beq_iff_eq.mpr h;simp only[ZZ,hb,if_neg (fun e:g=f=>hk (h.symm.trans e))]};{have hb:(g == k)=false:=beq_eq_false_iff_ne.mpr h;simp only[ZZ,hb];exact ih}
theorem sG (f:Wt)(v:V):∀ fs:List (Wt × V),f∈(tR f v fs).map (·.1)/\∀ g,g∈fs.map (·.1)->g∈(tR f v fs).map (·.1)
 | []=>⟨by simp [tR],fun g h=>by simp at h⟩
 | (k,x)::r=>by
  obtain⟨i1,i2⟩:=sG f v r;rw[show tR f v ((k,x)::r)=(if k=f then (k,v)::r else (k,x)::tR f v r) from U]
  by_cases hk:k=f;{rw[if_pos hk];subst hk;exact⟨by simp,fun g h=>by simpa using h⟩}
  ·rw[if_neg hk];refine⟨?_,fun g h=>?_⟩;{rw[WR];exact V7 _ i1}
   ·rw[WR] at h ⊢;rcases List.mem_cons.mp h with e | e;{exact List.mem_cons.mpr (.inl e)};{exact V7 _ (i2 g e)}
theorem qP (f:Wt)(v:V):∀ fs:List (Wt × V),(tR f v fs).length<=fs.length+1
 | []=>by simp [tR]
 | (k,x)::r=>by
  have ih:=qP f v r;rw[show tR f v ((k,x)::r)=(if k=f then (k,v)::r else (k,x)::tR f v r) from U]
  by_cases hk:k=f;{rw[if_pos hk,Wc,Wc];lia};{rw[if_neg hk,Wc,Wc];lia}
def vC.some_of {v:V}{o:DE}(r:vC (some v) o):∃ u,o=some u/\RelV v u:=by
 cases o with
 | none=>exact (show False from r).elim
 | some u=>exact⟨u,U,r⟩
def vC.none_of {o:DE}(r:vC none o):o=none:=by
 cases o with
 | none=>rfl
 | some u=>exact (show False from r).elim
def Ge {v:V}{u:Value}(r:RelV v u):acK u=true:=by
 cases v with
 | non=>cases (show u=Xn from r);rfl
 | bl b=>cases (show u=abx b from r);rfl
 | int i=>obtain⟨t,e⟩:=(show ∃ t,u=YT i t from r);cases e;rfl
 | str x=>obtain⟨t,e⟩:=(show ∃ t,u=abW x t from r);cases e;rfl
 | byt b=>obtain⟨t,e⟩:=(show ∃ t,u=Value.bytes b t from r);cases e;rfl
 | flt b=>obtain⟨t,e⟩:=(show ∃ t,u=Value.float b t from r);cases e;rfl
 | ref a=>cases (show u=We a from r);rfl
 | ty n=>cases (show u=Y9 n from r);rfl
section
variable {P:Wi}{w:Wy}{H H':Hp}{h h':WT}{a C dx:Addr}{fs fs':List (Wt × V)}
def vZ (hok:HOk P w H h)(e:H a=some (.ins C dx fs)):∃ mA,OD h a dx C mA/\(∀ f,vC (fs.lookup f) (mA f))/\PySem.Within mA (fs.map (·.1))/\fs.length<=1000/\H dx=some (.own a):=by
 obtain⟨d,z,ne,ob,mA,n,r,q⟩:=(show dU P w H h a (.ins C dx fs) from hok a _ e);exact⟨mA,⟨ob,n,ne⟩,r,q,z,d⟩
end
structure Cls (K:V8)(C:Addr):Prop where
 pg:aaB K C Str.empty=true
 hd:ZJ K C=true
 po:acr K C=true
 sa:Xo K (.ref C) "__setattr__" = some (some (.builtin "object.__setattr__"))
def Cls.get {K:V8}{C:Addr}(c:Cls K C)(f:Wt):aaB K C f=true:=c.pg
def iQ (K:V8)(C:Addr)(f:Wt):Prop:=Xo K (.ref C) f=some none
def iQ.taker {K:V8}{C:Addr}{f:Wt}(n:iQ K C f):abE K C f=some none:=by
 unfold abE;rw[show Xo K (.ref C) f=some none from n];rfl
structure Meth (K:V8)(C:Addr)(m:Wt)(f:Addr):Prop where
 at_:Xo K (.ref C) m=some (some (.ref f))
 fn:acu K (.ref f)=true
 kp:Yb K (.ref f)=true
section
variable {X:Cx}{ZY:Do}{σ:St}{H:Hp}{s:VL}{a C dx:Addr}{fs:List (Wt × V)}{f:Wt}{v:V}{A:WM}{E:DC}
def DN {b:Bool}{Q:DC}(I:Inv X ZY σ H s)(e:H a=some (.ins C dx fs))(c:Cls X.K C)(n:iQ X.K C f)(l:fs.lookup f=some v)
  (h:∀ u s',Inv X ZY σ H s'->RelV v u->Q u s'):V2 (Wb X.prog X.w) A (getAttr (.ref a) f b) Q E s:=by
 obtain⟨mA,O,r,_,_,_⟩:=vZ I.hok e;obtain⟨u,hu,ru⟩:=vC.some_of (v:=v) (o:=mA f) (by rw[← l];exact r f);exact get_map I.kIn O (c.get f) c.hd n hu (Ge ru) (h u _ (I.tok _) ru)
def uy {m:Wt}{g:Addr}{pl:Sem Bool}{Q:Value × DJ->VL->Prop}(I:Inv X ZY σ H s)(e:H a=some (.ins C dx fs))(c:Cls X.K C)(k:Meth X.K C m g)(l:fs.lookup m=none)
  (h:Q (.ref g,[.ref a]) s):V2 (Wb X.prog X.w) A (aap (.ref a) m pl) Q E s:=by
 obtain⟨mA,O,r,_,_,_⟩:=vZ I.hok e;have hn:mA m=none:=vC.none_of (by rw[← l];exact r m);exact JT I.kIn O (c.get m) k.at_ k.fn hn h
def Dw {y:V}{u:Value}{Q:Unit->VL->Prop}(I:Inv X ZY σ H s)(e:H a=some (.ins C dx fs))(c:Cls X.K C)(n:iQ X.K C f)(hl:fs.length < 1000)(ry:RelV y u)
  (h:∀ s',Inv X ZY σ (upd H a (.ins C dx (tR f y fs))) s'->Q () s'):V2 (Wb X.prog X.w) A (setAttr (.ref a) f u) Q E s:=by
 obtain⟨mA,O,r,wi,_,ho⟩:=vZ I.hok e;have hz:(fs.map (·.1)).length<=sizeLine:=by rw[VH,sizeLine_eq];lia
 refine QS I.kIn O c.sa c.po n.taker c.hd wi hz fun h' O' sb=>h _ ?_;have hd:∃ o,h'.get? dx=some o:=let ⟨o,_,_,e',_⟩:=O'.ns;⟨o,e'⟩;refine I.write (x:=a) (e:=dx) (by rw[e];exact Za) (.inr ho) (fun b q hb z=>(sb.2 b hb).trans z) hd ?_;refine⟨by rw[aL O.ne];exact ho,?_,O.ne,O'.obj,_,O'.ns,fun g=>?_,fun g hg=>?_⟩;{have:=qP f y fs;lia}
 ·show vC ((tR f y fs).lookup g) (if g=f then some u else mA g)
  rw[rT];by_cases q:g=f;{rw[if_pos q,if_pos q];exact ry};{rw[if_neg q,if_neg q];exact r g}
 ·by_cases q:g=f;{rw[q];exact (sG f y fs).1}
  ·refine (sG f y fs).2 g (wi g fun z=>hg ?_);show (if g=f then some u else mA g)=none
   rw[if_neg q];exact z
def Inv.made (I:Inv X ZY σ H s):Inv X ZY σ (upd (upd H s.heap.objs.size (.own (s.heap.objs.size+1))) (s.heap.objs.size+1) (.ins C s.heap.objs.size []))
  {s with heap:=(s.heap.push Yv).push (Y6 C s.heap.objs.size) }:=by
 have e1:(s.heap.push Yv).get? s.heap.objs.size=some Yv:=V5 s.heap U;have e2:((s.heap.push Yv).push (Y6 C s.heap.objs.size)).get? (s.heap.objs.size+1)=some (Y6 C s.heap.objs.size):=by
  have:=V5 (s.heap.push Yv) (o:=Y6 C s.heap.objs.size) U;rwa [WY] at this
 have e3:(s.heap.push Yv).Ns s.heap.objs.size (fun _=>none):=⟨Yv,#[],_,e1,U,(fun e he=>absurd he (by simp)),fun _=>U⟩;have I1:=I.laid (a:=s.heap.objs.size) (o:=.own (s.heap.objs.size+1)) (h':=s.heap.push Yv) (t':=s.toks) (fun b u q=>VJ _ q) (VP _) ⟨_,e1⟩;refine I1.laid (a:=s.heap.objs.size+1) (o:=.ins C s.heap.objs.size []) (t':=s.toks) (fun b u q=>VJ _ q) (Nat.le_of_eq (WY _ _)) ?_;have ne:s.heap.objs.size≠s.heap.objs.size+1:=Wh (XS _);refine⟨by rw[aL ne,aa],Wz _,ne,e2,fun _=>none,(Heap.Ns1.of_empty e3).at fun o q=>VJ _ q,fun _=>Za,fun y hy=>absurd U hy⟩
def Qc {prog:Wi}{w:Wy}{env:Env}{e:Expr}{f:Wt}{pos:ZX}{s:VL}{Q:DC}(hb:aaC e f env (Xw e env)=Xw e env)
  (h:V2 (Wb prog w) A (Xw e env) (fun o s₁=>V2 (Wb prog w) A (getAttr o f true) Q E s₁) E s):V2 (Wb prog w) A (Xw (.Attribute e f pos) env) Q E s :=
 Attribute_any_ h (by rw[arm_eval_Attribute,hb])
end
def Us (K:V8)(ta:TE)(f:Wt):TE:=fun σ H Q=>ta σ H fun x H1=>∃ a C dx fs v,x = .ref a/\H1 a=some (.ins C dx fs)/\Cls K C/\iQ K C f/\fs.lookup f=some v/\Q v H1
def Vr (K:V8)(ta tv:TE)(f:Wt):TS:=fun D σ H=>tv σ H fun y H1=>ta σ H1 fun x H2=>∃ a C dx fs,x = .ref a/\H2 a=some (.ins C dx fs)/\Cls K C/\iQ K C f/\fs.length < 1000 ∧
 D.nx σ (upd H2 a (.ins C dx (tR f y fs)))
section
variable {X:Cx}{o e value:Expr}{f:Wt}{pos pos' tpos:ZX}{ta tv:TE}
def Sw (he:PE X e ta)(hb:aaC e f X.env (Xw e X.env)=Xw e X.env):PE X (.Attribute e f pos) (Us X.K ta f):=by
 intro ZY s σ H Q I h;refine Qc hb (thn (he ZY s σ H _ I h) fun u s1 ⟨x,H1,I1,rx,a,C,dx,fs,v,ex,ea,c,n,l,q⟩=>?_);subst ex;obtain rfl:u=We a:=rx;exact DN I1 ea c n l fun u' s2 I2 ru=>⟨v,H1,I2,ru,q⟩
def jJ (ha:PE X o ta)(hv:PE X value tv)(hs:aaV value (some (.Attribute o f pos')) pos.line X.env=pure false):PS X (.Assign [.Attribute o f pos'] value pos) (Vr X.K ta tv f):=by
 intro ZY s σ H D I h;refine acE (thn (hv ZY s σ H _ I h) fun u s1 ⟨y,H1,I1,ry,q⟩=>thn (ha ZY s1 σ H1 _ I1 q) fun ov s2 ⟨x,H2,I2,rx,a,C,dx,fs,ex,ea,c,n,l,q2⟩=>?_) hs;subst ex;obtain rfl:ov=We a:=rx;exact Dw I2 ea c n l ry fun s3 I3=>⟨σ,_,I3,q2⟩
end
section
variable {X:Cx}{ZY:Do}{σ:St}{H:Hp}{s:VL}{A:WM}{E:DC}{Q:DC}{c:Value}{b:Bool}
inductive Ex (K:V8)(H:Hp):V->Value->Prop where
 | non:Ex K H .non (.type "NoneType")
 | bl (x:Bool):Ex K H (.bl x) (.type "bool")
 | int (i:Int):Ex K H (.int i) (.type "int")
 | str (x:Wt):Ex K H (.str x) (.type "str")
 | flt (x:UInt64):Ex K H (.flt x) (.type "float")
 | lst {a:Addr} {xs:List V} (e:H a=some (.lst xs)):Ex K H (.ref a) (.type "list")
 | frz {a:Addr} {o:YB} {xs:List V} (e:H a=some (.frz o (.lst xs))):Ex K H (.ref a) (.type "list")
 | tup {a:Addr} {xs:List V} (e:H a=some (.tup xs)):Ex K H (.ref a) (.type "tuple")
 | dK {a:Addr} {kvs:List (Key × V)} (e:H a=some (.dK kvs)):Ex K H (.ref a) (.type "dict")
 | dT {a:Addr} {kvs:List (List Key × V)} (e:H a=some (.dT kvs)):Ex K H (.ref a) (.type "dict")
 | ins {a C dx:Addr} {fs:List (Wt × V)} (e:H a=some (.ins C dx fs)) (cl:Cls K C) (ha:Xo K (.ref C) "__class__" = some (some (.builtin "object.__class__")))
   (hn:PySem.W.specialIn K (.builtin "object.__class__") "__get__" = some (some (.builtin "getset_descriptor.__get__"))) (htk:PySem.W.takesIn K (.builtin "object.__class__")=some true)
   (hm:PySem.W.mroIn K C (.type "object")=some true):Ex K H (.ref a) (.ref C)
def Jk {x:V}{u t:Value}(I:Inv X ZY σ H s)(rx:RelV x u)(ty:Ex X.K H x t)(e:PySem.W.kitOne X.K t c=some b)(h:∀ tk,Q (.bool b) { s with toks:=tk }) :
  V2 (Wb X.prog X.w) A (call (.builtin "isinstance") [u,c]) Q E s:=by
 cases ty with
 | non=>cases (show u=Xn from rx);exact Yh PySem.W.kitx_none I.kIn Za e (fun z=>nomatch z) h
 | bl y=>cases (show u=abx y from rx);exact Yh PySem.W.kitx_bool I.kIn Za e (fun z=>nomatch z) h
 | int i=>obtain⟨t,q⟩:=(show ∃ t,u=YT i t from rx);cases q;exact Yh PySem.W.kitx_int I.kIn Za e (fun z=>nomatch z) h
 | str y=>obtain⟨t,q⟩:=(show ∃ t,u=abW y t from rx);cases q;exact Yh PySem.W.kitx_str I.kIn Za e (fun z=>nomatch z) h
 | flt y=>obtain⟨t,q⟩:=(show ∃ t,u=Value.float y t from rx);cases q;exact Yh PySem.W.kitx_float I.kIn Za e (fun z=>nomatch z) h
 | @lst a xs ea =>
  cases (show u=We a from rx);obtain⟨_,_,n,_,h1⟩:=(show dU X.prog X.w H s.heap a (.lst xs) from I.hok a _ ea);exact Yh PySem.W.kitx_list I.kIn ⟨_,h1,U⟩ e (fun z=>nomatch z) h
 | @frz a ob xs ea =>
  cases (show u=We a from rx);obtain⟨_,_,_,n,_,h1⟩:=(show dU X.prog X.w H s.heap a (.frz ob (.lst xs)) from I.hok a _ ea);exact Yh PySem.W.kitx_list I.kIn ⟨_,h1,U⟩ e (fun z=>nomatch z) h
 | @tup a xs ea =>
  cases (show u=We a from rx);obtain⟨_,_,_,p⟩:=(show dU X.prog X.w H s.heap a (.tup xs) from I.hok a _ ea);obtain⟨o,h1,h2,_⟩:=p;exact Yh PySem.W.kitx_tuple I.kIn ⟨o,h1,h2⟩ e (fun z=>nomatch z) h
 | @dK a kvs ea =>
  cases (show u=We a from rx);obtain⟨_,_,vs,_,p⟩:=(show dU X.prog X.w H s.heap a (.dK kvs) from I.hok a _ ea);obtain⟨o,es,ep,h1,h2,_⟩:=p;exact Yh PySem.W.kitx_dict I.kIn ⟨o,h1,h2.1⟩ e (fun z=>nomatch z) h
 | @dT a kvs ea =>
  cases (show u=We a from rx);obtain⟨_,_,xs,_,o,es,ep,h1,h2,_⟩:=(show dU X.prog X.w H s.heap a (.dT kvs) from I.hok a _ ea);exact Yh PySem.W.kitx_dict I.kIn ⟨o,h1,h2.1⟩ e (fun z=>nomatch z) h
 | @ins a C dx fs ea cl ha hn htk hm =>
  cases (show u=We a from rx);obtain⟨mA,O,_⟩:=vZ I.hok ea;obtain⟨od,J,_⟩:=O.look;exact Yh (PySem.W.kitx_own (cl.get _) cl.hd ha hn htk hm) I.kIn J e (fun z=>nomatch z) h
end
structure iD (k:Nat)(A:WM):Prop where
 hd:A.handled=none
 dp:A.depth+3 * k+5 < recursionLimit
 un:A.units+16 * k+200 < cLine
def iD.mono {j k:Nat}{A:WM}(r:iD k A)(h:j<=k):iD j A:=⟨r.hd,by have:=r.dp;lia,by have:=r.un;lia⟩
def iD.deeper {k:Nat}{A:WM}(r:iD (k+1) A)(env:Env):iD k (A.deeper env) :=
 ⟨r.hd,by have:=r.dp;show A.depth+1+3 * k+5 < _;lia,by have:=r.un;show A.units+3+16 * k+200 < _;lia⟩
def Ef {A:WM} {C:Addr} {us:DJ} {kw:Db}:(A.under (.builtin "type.__call__" ⟨.ref C::us,kw⟩)).depth=A.depth+1:=by
 first | rfl | simp [Around.under,Code.weight,Code.isCreation,Code.isGuard,Code.isCaller,Code.frames,Code.isFrame,guardIds]
def Er {A:WM} {C:Addr} {us:DJ} {kw:Db}:(A.under (.builtin "type.__call__" ⟨.ref C::us,kw⟩)).units=A.units+1:=by
 first | rfl | simp [Around.under,Code.cUnits,Code.frames,Code.isFrame]
def iD.make {k:Nat} {A:WM} (r:iD (k+1) A) (C:Addr) (us:DJ) (kw:Db):iD k (A.under (.builtin "type.__call__" ⟨.ref C::us,kw⟩)) :=
 ⟨r.hd,by have:=r.dp;rw[Ef];lia,by have:=r.un;rw[Er];lia⟩
def iD.depth {k:Nat}{A:WM}(r:iD k A):A.depth < recursionLimit:=by have:=r.dp;lia
def iD.iJ {k:Nat}{A:WM}(r:iD k A):A.units < cLine:=by have:=r.un;lia
def Di:TA:=fun _ H Q=>Q [] H
def ue (ta:TE)(tr:TA):TA:=fun σ H Q=>ta σ H fun x H1=>tr σ H1 fun xs H2=>Q (x::xs) H2
section
variable {X:Cx}{e:Expr}{es:DO}{te:TE}{t:TA}{pos:ZX}
def cL:PA X [] Di:=fun _ _ _ _ H Q I h=>acD ⟨[],H,I,.nil,h⟩
def aq (ha:PE X e te)(hr:PA X es t)(hs:Wg (e::es) X.env=(false,Xw e X.env)::Wg es X.env:=by rfl):PA X (e::es) (ue te t):=by
 intro pos ZY s σ H Q I h;rw[hs];show V2 _ _ (spliced ((false,Xw e X.env)::Yk pos (Wg es X.env))) _ _ s;refine acg (thn (ha ZY s σ H _ I h) fun u s1 ⟨x,H1,I1,r1,q1⟩=>?_);exact thn (hr pos ZY s1 σ H1 _ I1 q1) fun us s2 ⟨xs,H2,I2,r2,q2⟩=>⟨x::xs,H2,I2,.cons r1 r2,q2⟩
def Va (t:TA):TE:=fun σ H Q=>t σ H fun xs H1=>xs.length<=sizeLine/\∀ p,H1 p=none->Q (.ref p) (upd H1 p (.tup xs))
def Vi (t:TA):TE:=fun σ H Q=>t σ H fun xs H1=>xs.length<=sizeLine/\∀ p,H1 p=none->Q (.ref p) (upd H1 p (.lst xs))
def aU {x1}(h:PA X es t):PE X (.Tuple es x1 pos) (Va t):=by
 intro ZY s σ H Q I hq;refine wpAny_Tuple_spliced (thn (h pos ZY s σ H _ I hq) fun us s1 ⟨xs,H1,I1,r,z,q⟩=>⟨by rw[← r.length];exact z,?_⟩);have hf:H1 s1.heap.objs.size=none:=I1.hok.fresh (VP _);refine⟨.ref s1.heap.objs.size,upd H1 s1.heap.objs.size (.tup xs),I1.laid (t':=s1.toks) (fun b u e=>VJ _ e) (VP _) ?_,U,q _ hf⟩;exact⟨z,us,r,⟨_,V5 _ U,U,_,U⟩⟩
def aV (h:PA X es t):PE X (.List es pos) (Vi t):=by
 intro ZY s σ H Q I hq;refine wpAny_List_spliced (thn (h pos ZY s σ H _ I hq) fun us s1 ⟨xs,H1,I1,r,z,q⟩=>⟨by rw[← r.length];exact z,?_⟩);have hf:H1 s1.heap.objs.size=none:=I1.hok.fresh (VP _);refine⟨.ref s1.heap.objs.size,upd H1 s1.heap.objs.size (.lst xs),I1.laid (t':=s1.toks) (fun b u e=>VJ _ e) (VP _) ?_,U,q _ hf⟩;exact⟨z,us,0,r,V5 _ U⟩
end
abbrev Sp:=List V->Hp->VK->XK->Prop
abbrev CXT:=DT->Hp->VL->XK->DC
structure QG (P:Wi)(w:Wy)(K:V8)(mg:Wt->DE)(base:WT)(A:WM)(outer:DT)(s:VL)(H:Hp):Prop where
 frames:A.frames=some outer
 mod:Mod K mg base
 bs:∀ b o,base.get? b=some o->s.heap.get? b=some o/\H b=none
 bsz:base.objs.size<=s.heap.objs.size
 wM:s.heap.FunFrames base outer
 frf:∀ b∈frs outer,H b=none
 hok:HOk P w H s.heap
 bare:abe s.gens
def CE (outer:DT)(P:Wi)(w:Wy)(H:Hp)(s:VL)(Q:VK)(u:Value)(s':VL):Prop :=
 ∃ v H',s'.os=s.os/\abe s'.gens/\Un (frs outer) [] H H' s.heap s'.heap/\HOk P w H' s'.heap/\RelV v u/\Q v H'
def CR (CX:CXT)(outer:DT)(P:Wi)(w:Wy)(H:Hp)(s:VL)(Q:VK)(E:XK)(r:abg)(s':VL):Prop :=
 match r with
 | .ok (.ret u)=>CE outer P w H s Q u s'
 | .ok _=>False
 | .error e=>CX outer H s E e s'
structure bh (P:Wi)(w:Wy)(K:V8)(mg:Wt->DE)(base:WT)(CX:CXT)(k:Nat)(f:Addr)(fd:Xp)(ps:D0)(sp:Sp):Prop where
 len:∀ vs H Q E,sp vs H Q E->vs.length=ps.length
 run:∀ (A:WM) (outer:DT) (s:VL) (H:Hp) (args:Args) (us:DJ) (vs:List V) (Q:VK) (E:XK),iD k A->QG P w K mg base A outer s H->abX s fd args (ps.zip us)->Vals vs us->sp vs H Q E →
  XJ (Wb P w) A (.call (.ref f) args) (CR CX outer P w H s Q E) s
def bh.mono {P:Wi}{w:Wy}{K:V8}{mg:Wt->DE}{base:WT}{CX:CXT}{j k:Nat}{f:Addr}{fd:Xp}{ps:D0}{sp:Sp}(F:bh P w K mg base CX j f fd ps sp)(h:j<=k) :
  bh P w K mg base CX k f fd ps sp:=⟨F.len,fun A outer s H args us vs Q E hr=>F.run A outer s H args us vs Q E (hr.mono h)⟩
def QG.make {P:Wi}{w:Wy}{K:V8}{mg:Wt->DE}{base:WT}{A:WM}{outer:DT}{s:VL}{H:Hp}(e:QG P w K mg base A outer s H)(C:Addr)(us:DJ)(kw:Db) :
  QG P w K mg base (A.under (.builtin "type.__call__" ⟨.ref C::us,kw⟩)) outer s H:=⟨by first | exact e.frames | (simpa [Around.under,Code.envs,Code.isFrame,pushEnvs] using e.frames),e.mod,e.bs,e.bsz,e.wM,e.frf,e.hok,e.bare⟩
section
variable {X:Cx}{ZY:Do}{σ:St}{H:Hp}{s s':VL}
def Inv.env0 (I:Inv X ZY σ H s):QG X.prog X.w X.K X.mg X.base X.A X.stack s H :=
 ⟨I.ok.frames,I.ok.mod,I.bs,Wn I.ok.bsz I.sz,I.stack,I.vQ,I.hok,I.bare⟩
def Inv.after {Q:VK}{u:Value}(I:Inv X ZY σ H s)(h:CE X.stack X.prog X.w H s Q u s'):EP X ZY σ Q u s':=by
 obtain⟨v,H',os,bare,un,hok,r,q⟩:=h;obtain⟨hh,g,d,t,os'⟩:=s';obtain rfl:os'=s.os:=os;exact⟨v,H',I.call (h':=hh) (g':=g) (d':=d) (t':=t) (ch:=[]) un hok bare (fun b z=>absurd z (by simp)),r,q⟩
end
def Ja (sp:Sp)(dvs:List V)(E:XK)(t:TA):TE:=fun σ H Q=>t σ H fun vs H1=>sp (vs++dvs) H1 Q E
def DK (C:Addr)(m:Wt)(sp:Sp)(dvs:List V)(E:XK)(ta:TE)(t:TA):TE:=fun σ H Q=>ta σ H fun x H1=>∃ a dx fs,x = .ref a/\H1 a=some (.ins C dx fs)/\fs.lookup m=none ∧
 t σ H1 fun vs H2=>sp (x::(vs++dvs)) H2 Q E
def Lj (C:Addr)(sp:Sp)(dvs:List V)(E:XK)(t:TA):TE:=fun σ H Q=>t σ H fun vs H1=>∀ x dx,H1 x=none->H1 dx=none->dx≠x →
 sp (.ref x::(vs++dvs)) (upd (upd H1 dx (.own x)) x (.ins C dx [])) (fun v H2=>v = .non/\Q (.ref x) H2) E
def Binds (K:V8)(fd:Xp)(ps:D0)(ds:DJ):Prop :=
 ∀ (s:VL) (us:DJ),K.In s.heap->(us++ds).length=ps.length->abX s fd ⟨us,[]⟩ (ps.zip (us++ds))
def Binds.all {K:V8}{fd:Xp}{ps:D0}(h:∀ us:DJ,us.length=ps.length->abL fd ⟨us,[]⟩=pure (ps.zip us)):Binds K fd ps []:=fun s us _ hl=>by
 rw[Xy] at hl ⊢;exact .of_eq (h us hl)
def Passes (CX:CXT)(X:Cx)(E:XK):Prop:=∀ (ZY:Do) (σ:St) (H:Hp) (s:VL) (e:Value) (s':VL),Inv X ZY σ H s->CX X.stack H s E e s'->X.xe e s'
section
variable {X:Cx}{CX:CXT}{k:Nat}{f C:Addr}{fd:Xp}{ps:D0}{sp:Sp}{dvs:List V}{ds:DJ}{E:XK}{x m:Wt}{p pos apos:ZX}{e o:Expr}{es:DO}{ta:TE}{t:TA}
def Cd {ZY:Do}{σ:St}{H:Hp}{s:VL}{Q:VK}{us:DJ}{vs:List V}(F:bh X.prog X.w X.K X.mg X.base CX k f fd ps sp)(hr:iD k X.A)(hb:Binds X.K fd ps ds)(hd:Vals dvs ds)(hx:Passes CX X E)
  (I:Inv X ZY σ H s) (r:Vals vs us) (h:sp (vs++dvs) H Q E):V2 (Wb X.prog X.w) X.A (call (.ref f) us) (EP X ZY σ Q) X.xe s:=by
 have r2:Vals (vs++dvs) (us++ds):=r.append hd;have hl:(us++ds).length=ps.length:=by rw[← r2.length];exact F.len _ _ _ _ h
 refine aaY (Zr (F.run X.A X.stack s H ⟨us,[]⟩ (us++ds) (vs++dvs) Q E hr I.env0 (hb s us I.kIn hl) r2 h) fun r s' hq=>?_);cases r with
 | error e=>exact hx ZY σ H s e s' I hq
 | ok fl =>
  cases fl with
  | ret u=>exact I.after hq
  | next=>exact XD hq
  | brk=>exact XD hq
  | cont=>exact XD hq
def IV (F:bh X.prog X.w X.K X.mg X.base CX k f fd ps sp)(hr:iD k X.A)(hg:Gl X x)(hm:X.mg x=some (.ref f))(hk:Yb X.K (.ref f)=true)(hb:Binds X.K fd ps ds)(hd:Vals dvs ds)(hx:Passes CX X E)
  (ha:PA X (e::es) t) (hdb:(x == ("__debug__" : Wt))=false:=by decide) (he:Wg (e::es) X.env=(false,Xw e X.env)::Wg es X.env:=by rfl) (hpl:(Yk pos (Wg es X.env)).any (·.1)=false:=by rfl) :
  PE X (.Call (.Name x p) (e::es) [] pos) (Ja sp dvs E t):=by
 intro ZY s σ H Q I h;refine Yj (lH I hg hm ?_ hdb);refine aa4 (h₀:=X.base) I.ok.mod.kin hk (thn (ha pos ZY s σ H _ I h) fun us s1 ⟨vs,H1,I1,r,q⟩=>⟨I1.kIn,?_⟩) he hpl;exact Cd F hr hb hd hx I1 r q
def Js {pl:Sem Bool}(he:PE X o ta)(c:Cls X.K C)(hm:Meth X.K C m f)(F:bh X.prog X.w X.K X.mg X.base CX k f fd ps sp)(hr:iD k X.A)(hb:Binds X.K fd ps ds)(hd:Vals dvs ds)(hx:Passes CX X E)(ha:PA X (e::es) t)
  (hst:Wg (e::es) X.env=(false,Xw e X.env)::Wg es X.env:=by rfl) (hpl:(Yk pos (Wg es X.env)).any (·.1)=false:=by rfl)
  (ht:Xw (.Call (.Attribute o m apos) (e::es) [] pos) X.env=(do
   let ov ← Xw o X.env
   ZG apos.atName
   let (f,first) ← Z4 [ov] (aap ov m pl)
   abo pos f first (Yk pos (Wg (e::es) X.env)) (aaG pos (Zm [] X.env))):=by rfl) :
  PE X (.Call (.Attribute o m apos) (e::es) [] pos) (DK C m sp dvs E ta t):=by
 intro ZY s σ H Q I h;refine aax (pl:=pl) (thn (he ZY s σ H _ I h) fun u s1 ⟨x,H1,I1,rx,a,dx,fs,ex,ea,l,q⟩=>?_) ht;subst ex;obtain rfl:u=We a:=rx;refine uy I1 ea c hm l ?_;refine aa4 (first:=[.ref a]) (h₀:=X.base) I.ok.mod.kin hm.kp (thn (ha pos ZY s1 σ H1 _ I1 q) fun us s2 ⟨vs,H2,I2,r,q2⟩=>⟨I2.kIn,?_⟩) hst hpl;exact Cd (us:=.ref a::us) (vs:=.ref a::vs) F hr hb hd hx I2 (.cons U r) q2
def Dd {pl:Sem Bool}(he:PE X o ta)(c:Cls X.K C)(hm:Meth X.K C m f)(F:bh X.prog X.w X.K X.mg X.base CX k f fd ps sp)(hr:iD k X.A)(hb:Binds X.K fd ps ds)(hd:Vals dvs ds)(hx:Passes CX X E)
  (ht:Xw (.Call (.Attribute o m apos) [] [] pos) X.env=(do
   let ov ← Xw o X.env
   ZG apos.atName
   let (f,first) ← Z4 [ov] (aap ov m pl)
   abo pos f first (Yk pos (Wg [] X.env)) (aaG pos (Zm [] X.env))):=by rfl) :
  PE X (.Call (.Attribute o m apos) [] [] pos) (DK C m sp dvs E ta Di):=by
 intro ZY s σ H Q I h;refine aax (pl:=pl) (thn (he ZY s σ H _ I h) fun u s1 ⟨x,H1,I1,rx,a,dx,fs,ex,ea,l,q⟩=>?_) ht;subst ex;obtain rfl:u=We a:=rx;refine uy I1 ea c hm l ?_;exact ab0 (first:=[.ref a]) I1.kIn hm.kp (Cd (us:=[.ref a]) (vs:=[.ref a]) F hr hb hd hx I1 (.cons U .nil) q)
structure Mk (K:V8)(C f:Addr):Prop where
 makes:ac1 K C=true
 init:Xo K (.ref C) "__init__" = some (some (.ref f))
 fn:acu K (.ref f)=true
 kp:Yb K (.ref C)=true
def Dk {ZY:Do}{σ:St}{H:Hp}{s:VL}{Q:VK}{us:DJ}{vs:List V}(M:Mk X.K C f)(F:bh X.prog X.w X.K X.mg X.base CX k f fd ps sp)(hr:iD (k+1) X.A)(hb:Binds X.K fd ps ds)(hd:Vals dvs ds)
  (hx:Passes CX X E) (I:Inv X ZY σ H s) (r:Vals vs us)
  (h:∀ x dx,H x=none->H dx=none->dx≠x->sp (.ref x::(vs++dvs)) (upd (upd H dx (.own x)) x (.ins C dx [])) (fun v H2=>v = .non/\Q (.ref x) H2) E) :
  V2 (Wb X.prog X.w) X.A (call (.ref C) us) (EP X ZY σ Q) X.xe s:=by
 have hq:=h (s.heap.objs.size+1) s.heap.objs.size (I.hok.fresh (Xx _)) (I.hok.fresh (VP _)) (Wh (XS _));have I2:=Inv.made (C:=C) I;have r2:Vals (V.ref (s.heap.objs.size+1)::(vs++dvs)) (We (s.heap.objs.size+1)::(us++ds)):=.cons U (r.append hd);have hl:(We (s.heap.objs.size+1)::us++ds).length=ps.length:=by
  have e:=r2.length;rw[F.len _ _ _ _ hq] at e;exact e.symm
 refine aaY (Lq (f:=f) I.kIn M.makes M.init (beq_iff_eq.mp M.fn) (Zr (F.run _ X.stack _ _ ⟨We (s.heap.objs.size+1)::us,[]⟩ (We (s.heap.objs.size+1)::(us++ds)) _ _ E (hr.make C us [])
  (I2.env0.make C us []) (hb _ (We (s.heap.objs.size+1)::us) I2.kIn hl) r2 hq) fun r s' hq'=>?_))
 cases r with
 | error e=>exact hx ZY σ _ _ e s' I2 hq'
 | ok fl =>
  cases fl with
  | ret u =>
   obtain⟨v,H',I3,rv,ev,q3⟩:=I2.after hq';subst ev;exact⟨rv,⟨V.ref (s.heap.objs.size+1),H',I3,U,q3⟩⟩
  | next=>exact XD hq'
  | brk=>exact XD hq'
  | cont=>exact XD hq'
def QJ (M:Mk X.K C f)(F:bh X.prog X.w X.K X.mg X.base CX k f fd ps sp)(hr:iD (k+1) X.A)(hg:Gl X x)(hm:X.mg x=some (.ref C))(hb:Binds X.K fd ps ds)(hd:Vals dvs ds)(hx:Passes CX X E)
  (ha:PA X (e::es) t) (hdb:(x == ("__debug__" : Wt))=false:=by decide) (he:Wg (e::es) X.env=(false,Xw e X.env)::Wg es X.env:=by rfl) (hpl:(Yk pos (Wg es X.env)).any (·.1)=false:=by rfl) :
  PE X (.Call (.Name x p) (e::es) [] pos) (Lj C sp dvs E t):=by
 intro ZY s σ H Q I h;refine Yj (lH I hg hm ?_ hdb);refine aa4 (h₀:=X.base) I.ok.mod.kin M.kp (thn (ha pos ZY s σ H _ I h) fun us s1 ⟨vs,H1,I1,r,q⟩=>⟨I1.kIn,?_⟩) he hpl;exact Dk M F hr hb hd hx I1 r q
def JV (M:Mk X.K C f)(F:bh X.prog X.w X.K X.mg X.base CX k f fd ps sp)(hr:iD (k+1) X.A)(hg:Gl X x)(hm:X.mg x=some (.ref C))(hb:Binds X.K fd ps ds)(hd:Vals dvs ds)(hx:Passes CX X E)
  (hdb:(x == ("__debug__" : Wt))=false:=by decide):PE X (.Call (.Name x p) [] [] pos) (Lj C sp dvs E Di):=by
 intro ZY s σ H Q I h;refine Yj (lH I hg hm ?_ hdb);exact ab0 I.kIn M.kp (Dk (us:=[]) M F hr hb hd hx I .nil h)
end
section
variable {X:Cx}{CX:CXT}{k:Nat}{f C:Addr}{fd:Xp}{ps ks:D0}{sp:Sp}{E:XK}{x m:Wt}{p pos apos kpos:ZX}{e o:Expr}{es:DO}{kws:DF}{te ta:TE}{t tk:TA}{nm:Option Wt}
variable {g:DJ->DJ->DJ}{gV:List V->List V->List V}
end
structure aB (N P:D0)(sc:YH):Prop where
 kind:sc.kind = .function
 co:sc.isCoroutine=false
 gen:sc.isGenerator=false
 nd:N.Nodup
 pre:N.take P.length=P
 par:∀ x∈P,sc.names.lookup x=some .local∨sc.names.lookup x=some .cell
 nofree:∀ y∈sc.names,y.2≠.free
theorem wX {kindOf:Wt->Option aa5}{x:Wt}:∀ {binds:Db} {m:Wt->DE},(∀ v,(x,v) ∉ binds)->bindL kindOf binds m x=m x
 | [],_,_=>rfl
 | (n,v)::r,m,h=>by
  unfold bindL;rw[wX fun w hw=>h w (V7 _ hw)];split
  ·have:x≠n:=by rintro rfl;exact h v V0
   simp [this]
  ·rfl
theorem yc {kindOf:Wt->Option aa5}{x:Wt}:∀ {binds:Db} {m:Wt->DE},(∀ v,(x,v) ∉ binds)->bindC kindOf binds m x=m x
 | [],_,_=>rfl
 | (n,v)::r,m,h=>by
  unfold bindC;rw[yc fun w hw=>h w (V7 _ hw)];split;{rfl}
  ·have:x≠n:=by rintro rfl;exact h v V0
   simp [this]
theorem xW {kindOf:Wt->Option aa5}{x:Wt}{v:Value}:∀ {P:D0} {vs:DJ} {i:Nat} {m:Wt->DE},P.Nodup->P[i]? = some x->vs[i]? = some v->kindOf x=some .local →
  bindL kindOf (P.zip vs) m x=some v
 | [],_,_,_,_,h,_,_=>by simp at h
 | _::_,[],_,_,_,_,h,_=>by simp at h
 | p::P,w::vs,0,m,nd,h1,h2,hk=>by
  simp at h1 h2;subst h1;subst h2;show bindL kindOf ((p,w)::P.zip vs) m p=_;unfold bindL;rw[wX fun v hv=>(List.nodup_cons.mp nd).1 (ac3 hv).1,if_pos hk];simp
 | p::P,w::vs,i+1,m,nd,h1,h2,hk=>by
  show bindL kindOf ((p,w)::P.zip vs) m x=_;unfold bindL;exact xW (i:=i) (List.nodup_cons.mp nd).2 (by simpa using h1) (by simpa using h2) hk
theorem yJ {kindOf:Wt->Option aa5}{x:Wt}{v:Value}:∀ {P:D0} {vs:DJ} {i:Nat} {m:Wt->DE},P.Nodup->P[i]? = some x->vs[i]? = some v->kindOf x≠some .local →
  bindC kindOf (P.zip vs) m x=some v
 | [],_,_,_,_,h,_,_=>by simp at h
 | _::_,[],_,_,_,_,h,_=>by simp at h
 | p::P,w::vs,0,m,nd,h1,h2,hk=>by
  simp at h1 h2;subst h1;subst h2;show bindC kindOf ((p,w)::P.zip vs) m p=_;unfold bindC;rw[yc fun v hv=>(List.nodup_cons.mp nd).1 (ac3 hv).1,if_neg hk];simp
 | p::P,w::vs,i+1,m,nd,h1,h2,hk=>by
  show bindC kindOf ((p,w)::P.zip vs) m x=_;unfold bindC;exact yJ (i:=i) (List.nodup_cons.mp nd).2 (by simpa using h1) (by simpa using h2) hk
def start (N:D0)(vs:List V):St:=vs.map some++WK (N.length - vs.length) none
def Gy (CX:CXT)(P:Wi)(w:Wy)(K:V8)(mg:Wt->DE)(base:WT)(N:D0)(qual:Wt)(scope:YH)(f:Addr)(cd:Value)(A:WM)(outer:DT)(s:VL)(H:Hp)(E:XK):Cx where
 prog:=P
 w:=w
 K:=K
 mg:=mg
 base:=base
 A:=A.deeper (envOfC qual scope s.heap.objs.size f cd)
 N:=N
 s₀:=s
 H₀:=H
 env:=envOfC qual scope s.heap.objs.size f cd
 outer:=outer
 stack:=envOfC qual scope s.heap.objs.size f cd::outer
 ex:=[]
 calm:=true
 fn:=fun _=>true
 pn:=[]
 xe:=fun e s'=>V2 (Wb P w) (A.deeper (envOfC qual scope s.heap.objs.size f cd)) (leaving (envOfC qual scope s.heap.objs.size f cd) e) (fun _ s''=>CX outer H s E e s'') (fun e' s''=>CX outer H s E e' s'') s'
def CQ {sc:YH}{n:Nat}{x:Wt}(h:sc.names.lookup x=some .cell):∃ c,(abU n sc.names []).lookup x=some c:=by
 have q:=PySem.W.cellsFrom_some sc.names n [] (.inl h);exact Option.isSome_iff_exists.mp q
def Iu {CX:CXT}{P:Wi}{w:Wy}{K:V8}{mg:Wt->DE}{base:WT}{N ps:D0}{qual:Wt}{scope:YH}{f:Addr}{cd:Value}{A:WM}{outer:DT}{s s1:VL}{H:Hp}{E:XK}{us:DJ}{vs:List V}
  (S:aB N ps scope) (hd:A.handled=none) (e0:QG P w K mg base A outer s H) (hl:vs.length=ps.length) (r:Vals vs us)
  (x:InCallC s s.heap.objs.size (bindL (envOfC qual scope s.heap.objs.size f cd).kindOf (ps.zip us) fun _=>none) (abU (s.heap.objs.size+1) scope.names []) (bindC (envOfC qual scope s.heap.objs.size f cd).kindOf (ps.zip us) fun _=>none) s1) :
  Inv (Gy CX P w K mg base N qual scope f cd A outer s H E) [] (start N vs) H s1:=by
 have hpl:ps.length<=N.length:=by have:=congrArg abP S.pre;rw[Wa] at this;lia
 obtain⟨h1,tk,rfl,hk⟩:=x.done;have noA:∀ b:Addr,b ∉ (Gy CX P w K mg base N qual scope f cd A outer s H E).ex:=fun b z=>absurd (show b∈([]:DM) from z) (by simp)
 refine⟨⟨e0.mod,S.kind,U,U,VP _,fun y z c h1 h2=>?_,fun y hy=>?_,fun y c _ h=>?_,fun _=>hd,Around.frames_deeper e0.frames,.inr ⟨U,U⟩,fun b z=>absurd z (noA b),e0.bs,e0.bsz,fun b _ _=>noA b,fun b z=>absurd z (noA b),e0.wM,e0.frf⟩,
  rfl,e0.bare,Un.kept hk,⟨_,x.toInCall.ns,fun i y v h1 h2 h3=>?_⟩,fun y c h=>⟨_,x.cell y c h⟩,e0.hok.fresh (VP _),fun y c h=>?_,fun p hp=>absurd (show p∈([]:Do) from hp) (by simp),e0.hok.kept hk,?_⟩
 ·exact name_of_addr x.apart (Xi h1) (Xi h2)
 ·have hy:scope.names.lookup y=some .cell∨scope.names.lookup y=some .free:=hy;rcases hy with hy | hy;{exact CQ hy};{exact absurd U (S.nofree _ (Xi hy))}
 ·exact Yi (x.above y c (Xi h))
 ·have hi:i < vs.length:=by
   unfold start at h2;by_cases hi:i < vs.length;{exact hi};{rw[Yw (by simpa using hi)] at h2;rw[aaq] at h2;split at h2 <;> cases h2}
  have ha:vs[i]? = some v:=by
   unfold start at h2;rw[aa8 (by simpa using hi),Wf] at h2;cases e:vs[i]? with
   | none=>rw[e] at h2;cases h2
   | some a=>rw[e] at h2;cases h2;rfl
  obtain⟨u,hu,rv⟩:=r.get ha;have hp:ps[i]? = some y:=by
   rw[← S.pre,List.getElem?_take_of_lt (by lia)];exact h1
  have ndP:ps.Nodup:=by rw[← S.pre];exact S.nd.sublist (List.take_sublist _ _)
  refine⟨u,rv,?_⟩;rcases S.par y (Wk hp) with k | k;{exact .inl ⟨k,xW ndP hp hu k⟩};{obtain⟨c,e⟩:=CQ (n:=s.heap.objs.size+1) k;refine .inr ⟨.inl k,c,e,?_⟩;have q:=x.cell y c e;rw[yJ ndP hp hu (by show scope.names.lookup y≠_;rw[k];decide)] at q;exact q}
 ·exact e0.hok.fresh (Yi (x.above y c (Xi h)))
 ·unfold start;show _=N.length;rw[V6,VH,X7];lia
def S6 {CX:CXT}{P:Wi}{w:Wy}{K:V8}{mg:Wt->DE}{base:WT}{k:Nat}{f:Addr}{name qual:Wt}{params:Arguments}{body:DS}{scope:YH}{dV kV doc pm cdv ct oc:Value}{an od:DH}
  {osl:Array (DE)} {N ps:D0} {sp:Sp} (lk:K.lookup f=some ⟨oc,od,.func (Z6 name qual params body scope dV kV doc pm an cdv ct),osl⟩) (hcd:aa3 K cdv qual=true) (S:aB N ps scope)
  (len:∀ vs H Q E,sp vs H Q E->vs.length=ps.length)
  (hbody:∀ (A:WM) (outer:DT) (s:VL) (H:Hp) (vs:List V) (Q:VK) (E:XK),iD k (A.deeper (envOfC qual scope s.heap.objs.size f cdv))->sp vs H Q E →
   ∃ t,PSs (Gy CX P w K mg base N qual scope f cdv A outer s H E) body t/\t { nx:=fun _ H'=>Q .non H',rt:=Q } (start N vs) H) :
  bh P w K mg base CX (k+1) f (Z6 name qual params body scope dV kV doc pm an cdv ct) ps sp:=by
 refine⟨len,fun A outer s H args us vs Q E hr e0 hb r hsp=>?_⟩;have hl:=len _ _ _ _ hsp;have KX:K.In s.heap:=e0.mod.kin.keeps fun b o e=>(e0.bs b o e).1;have lim:s.heap.NoLimit:=e0.mod.nolimit.keeps fun b o e=>(e0.bs b o e).1;have hkind:∀ y∈ps.zip us,scope.names.lookup y.1=some .local∨(scope.names.lookup y.1=some .cell/\((abU (s.heap.objs.size+1) scope.names []).lookup y.1).isSome=true):=fun⟨n,v⟩ hy=>by
  rcases S.par n (ac3 hy).1 with q | q;{exact .inl q};{exact .inr ⟨q,PySem.W.cellsFrom_some _ _ _ (.inl q)⟩}
 refine codeAny_call_function hr.depth (KX _ _ lk) U S.co S.gen U (PySem.W.codeRec_of KX hcd) (hb _ _ _ _ ?_);refine wpAny_newFunctionEnv_cells S.kind hkind fun env he s1 x=>?_;subst he;refine⟨lim.keeps x.toInCall.keep,codeAny_func ?_⟩;obtain⟨t,ht,hq⟩:=hbody A outer s H vs Q E (hr.deeper _) hsp;have I:Inv (Gy CX P w K mg base N qual scope f cdv A outer s H E) [] (start N vs) H s1:=Iu S hr.hd e0 hl r x;refine W7 (ht [] s1 (start N vs) H _ I hq) (fun fl s' hs=>?_) fun e s' hs=>hs;have fin:∀ {σ':St} {H':Hp} {v:V} {u:Value},Inv (Gy CX P w K mg base N qual scope f cdv A outer s H E) [] σ' H' s'->RelV v u->Q v H'->CE outer P w H s Q u s' :=
  fun {σ' H' v u} J rv q=>⟨v,H',J.os,J.bare,J.base,J.hok,rv,q⟩
 cases fl with
 | ret u =>
  obtain⟨v,σ',H',J,rv,q⟩:=hs;exact fin J rv q
 | next =>
  obtain⟨σ',H',J,q⟩:=hs;exact fin (v:=V.non) (u:=Xn) J U q
 | brk =>
  obtain⟨_,_,_,q⟩:=hs;exact XD q
 | cont =>
  obtain⟨_,_,_,q⟩:=hs;exact XD q
section
variable {X:Cx}{x:Wt}{p pos:ZX}{e:Expr}{es:DO}{t:TA}{id T:String}{r:List V->Hp->VK->Prop}
def tCB (r:List V->Hp->VK->Prop)(t:TA):TE:=fun σ H Q=>t σ H fun vs H1=>r vs H1 Q
def aQ (hc:gj X (.builtin id) r) (hg:Gl X x) (hm:X.mg x=none) (hv:W6 x=some (.builtin id)) (ha:PA X (e::es) t) (hn:x≠"__name__":=by decide) (hdb:(x == ("__debug__" : Wt))=false:=by decide)
  (he:Wg (e::es) X.env=(false,Xw e X.env)::Wg es X.env:=by rfl) (hpl:(Yk pos (Wg es X.env)).any (·.1)=false:=by rfl):PE X (.Call (.Name x p) (e::es) [] pos) (tCB r t):=by
 intro ZY s σ H Q I h;refine Yj (jH I hg hm hv ?_ hn hdb);exact acL (thn (ha pos ZY s σ H _ I h) fun us s1 ⟨vs,H1,I1,r1,q1⟩=>hc ZY s1 σ H1 vs us Q I1 r1 q1) he hpl
def aR (hc:gj X (.type T) r) (hg:Gl X x) (hm:X.mg x=none) (hv:W6 x=some (.type T)) (ha:PA X (e::es) t) (hn:x≠"__name__":=by decide) (hdb:(x == ("__debug__" : Wt))=false:=by decide)
  (he:Wg (e::es) X.env=(false,Xw e X.env)::Wg es X.env:=by rfl) (hpl:(Yk pos (Wg es X.env)).any (·.1)=false:=by rfl):PE X (.Call (.Name x p) (e::es) [] pos) (tCB r t):=by
 intro ZY s σ H Q I h;refine Yj (jH I hg hm hv ?_ hn hdb);exact X3 (thn (ha pos ZY s σ H _ I h) fun us s1 ⟨vs,H1,I1,r1,q1⟩=>hc ZY s1 σ H1 vs us Q I1 r1 q1) he hpl
end
end L2
namespace HT
open PySem PyProof.Rows
section
open PySem.SeqAt
open PySem.AutoSeq1 (wpAny_loadPart')
open PySem.MeetsSeq PySem.MeetsSeq2 PySem.MeetsSeq3
end
section
variable {prog:Wi}{w:Wy}{A:WM}{E:DC}{s:VL}
def QT {t b:Addr}{vs ws:DJ}{Q:DC}(ht:IsTup s.heap t vs.toArray)(hb:IsTup s.heap b ws.toArray)(hv:vs≠[])
  (h1:ws=[]->Q (.ref t) s) (h2:ws≠[]->Q (.ref s.heap.objs.size) { s with heap:=s.heap.push { cls:=.type "tuple",data:=.seq (vs++ws).toArray } })
  (hsz:vs.length+ws.length<=sizeLine):V2 (Wb prog w) A (aaf .Add (.ref t) (.ref b)) Q E s:=by
 obtain⟨⟨cls,dd,data,sl⟩,ho,hc,n,hd⟩:=id ht;obtain⟨⟨cls2,dd2,data2,sl2⟩,ho2,hc2,n2,hd2⟩:=id hb;simp only at hc hd hc2 hd2;subst hc hd hc2 hd2;have e:vs.toArray++ws.toArray=(vs++ws).toArray:=by simp
 by_cases hw:ws=[]
 ·exact concat_meets ⟨_,ho,U⟩ ⟨_,ho2,U⟩ acI seq_tuple_add aby abp (abi _ _)
   (tuple_addW1 t b vs.toArray ws.toArray n n2 dd dd2 sl sl2 (by simpa using hv) (by simp [hw])) ⟨ho,ho2,h1 hw⟩
 ·refine concat_meets ⟨_,ho,U⟩ ⟨_,ho2,U⟩ acI seq_tuple_add aby abp (abi _ _)
   (tuple_addW2 t b vs.toArray ws.toArray n n2 dd dd2 sl sl2 (by simpa using hv) (by simpa using hw) (by rw[Wd,Wd];exact hsz)) ⟨ho,ho2,?_⟩
  rw[e];exact h2 hw
def sIx (n d:Nat):DL->Nat
 | none=>d
 | some v=>if v < 0 then (v+(n:Int)).toNat else min v.toNat n
def CJ (n d:Nat):sIx n d none=d:=rfl
def uU (n d k:Nat):sIx n d (some (k:Int))=min k n:=by
 show (if (k:Int) < 0 then ((k:Int)+(n:Int)).toNat else min (k:Int).toNat n)=min k n
 rw[if_neg (by lia),Wl]
def Ti (n d:Nat)(hd:d<=n)(o:DL):sIx n d o<=n:=by
 cases o with
 | none=>exact hd
 | some v =>
  show (if v < 0 then (v+(n:Int)).toNat else min v.toNat n)<=n
  by_cases hv:v < 0;{rw[if_pos hv];lia};{rw[if_neg hv];exact Nat.min_le_right _ _}
def FJ (v:Int)(n d:Nat):(if v < 0 then max (v+(n:Int)) 0 else min v (n:Int))=((sIx n d (some v):Nat):Int):=by
 show (if v < 0 then max (v+(n:Int)) 0 else min v (n:Int))=(((if v < 0 then (v+(n:Int)).toNat else min v.toNat n):Nat):Int)
 by_cases hv:v < 0;{simp only[if_pos hv];lia};{simp only[if_neg hv];lia}
def Dv (lo hi:DL)(n:Nat):aba lo hi 1 (n:Int)=(((sIx n 0 lo:Nat):Int),((sIx n n hi:Nat):Int)):=by
 have h1:¬ ((1:Int) < 0):=by lia
 unfold aba;simp only[h1,if_false];refine Prod.ext ?_ ?_
 ·cases lo with
  | none=>rfl
  | some v=>exact FJ v n 0
 ·cases hi with
  | none=>rfl
  | some v=>exact FJ v n n
def Em (i j:Nat):aab (i:Int) (j:Int) 1=j - i:=by
 unfold aab;have h1:(1:Int) > 0:=by lia
 simp only[h1,if_true,Int.ediv_one];split <;> lia
def uL {v:Value}{o:DL}{Q:DL->VL->Prop}(p:acR v o)(h:Q o s):V2 (Wb prog w) A (Builtin.Slice.slicePartIndex v) Q E s:=by
 cases p with
 | none=>exact slicePart_none h
 | int i t=>exact slicePart_int h
def qd {sl:Addr}{vl vu:Value}{lo hi:DL}{n:Nat}{Q:Int × Int × Nat->VL->Prop}(hs:s.heap.IsSliceOf sl vl vu .none)(pl:acR vl lo)(pu:acR vu hi)
  (h:Q (((sIx n 0 lo:Nat):Int),1,sIx n n hi - sIx n 0 lo) s):V2 (Wb prog w) A (Builtin.Slice.sliceApplied (.ref sl) (pure (n:Int))) Q E s:=by
 obtain⟨os,hos,hcs,hds⟩:=id hs;unfold Builtin.Slice.sliceApplied Builtin.Slice.sliceFields;refine VG (VG (Xh hos hds (x:=vl) U (VG (Xh hos hds (x:=vu) U (VG (Xh hos hds (x:=.none) U (VM ?_)))))));refine VG (slicePart_none ?_);show V2 _ _ (if ((1:Int) == 0)=true then _ else _) _ _ s
 rw[if_neg (by decide)];refine VG (uL pl (VG (uL pu (VG (VM ?_)))));show V2 _ _ (match aba lo hi 1 (n:Int) with | (lo,hi)=>pure (lo,(1:Int),aab lo hi 1)) _ _ s
 rw[Dv lo hi n];show V2 _ _ (pure (((sIx n 0 lo:Nat):Int),(1:Int),aab ((sIx n 0 lo:Nat):Int) ((sIx n n hi:Nat):Int) 1)) _ _ s;rw[Em];exact VM h
def K3 (xs:Array Value)(i k:Nat):((Xb k).filterMap fun (m:Nat)=>xs[((i:Int)+(m:Int) * 1).toNat]?).toArray=((xs.toList.drop i).take k).toArray:=by
 have e:(fun (m:Nat)=>xs[((i:Int)+(m:Int) * 1).toNat]?)=fun m=>xs[i+m]?:=by
  funext m;have:((i:Int)+(m:Int) * 1).toNat=i+m:=by lia
  rw[this]
 rw[e];have:=pick_run xs i k;rw[acf] at this;have e2:((fun x=>xs[x]?) ∘ fun x=>i+x)=fun m=>xs[i+m]?:=rfl;rw[e2] at this;rw[this]
def oK {t sl:Addr}{items:Array Value}{vl vu:Value}{lo hi:DL}{Q:DC}(ht:IsTup s.heap t items)(hs:s.heap.IsSliceOf sl vl vu .none)(pl:acR vl lo)(pu:acR vu hi)
  (hw:¬ (sIx items.size 0 lo=0/\sIx items.size items.size hi=items.size))
  (h:Q (.ref s.heap.objs.size) { s with heap:=s.heap.push { cls:=.type "tuple",data:=.seq ((items.toList.drop (sIx items.size 0 lo)).take (sIx items.size items.size hi - sIx items.size 0 lo)).toArray } })
  (hsz:items.size<=sizeLine):V2 (Wb prog w) A (abT (.ref t) (.ref sl)) Q E s:=by
 have htake:sizeOk (.seq ((items.toList.drop (sIx items.size 0 lo)).take (sIx items.size items.size hi - sIx items.size 0 lo)).toArray):=by
  show ((items.toList.drop (sIx items.size 0 lo)).take (sIx items.size items.size hi - sIx items.size 0 lo)).toArray.size<=sizeLine;rw[Wd,Wa,Z8,W5];lia
 have hj:sIx items.size items.size hi<=items.size:=Ti _ _ (VP _) hi;obtain⟨os,hos,hcs,hds⟩:=id hs;have hTs:s.TypeIs (.ref sl) "slice":=⟨os,hos,hcs⟩;unfold abT
 try with_reducible refine XR ?_
 first | refine VG (VM ?_) | skip
 refine VG (wpAny_sequenceKey ht.typeIs (by decide) ?_)
 refine VG (Xr (name:=YL "__getitem__") ht.typeIs acF
  (Xd acF ht.typeIs entry_tuple_getitem ?_ (args_tuple_getitem _ _)))
 show V2 _ _ (Builtin.Tuple.tupleItemsOf (.ref t) >>= _) _ _ s;refine VG (tupleItemsOf_ ht ?_);refine VG (acj hTs ?_);rw[if_pos (by decide)];refine VG (qd hs pl pu ?_);have hno:¬ ((((sIx items.size 0 lo:Nat):Int) == 0 && (1:Int) == 1 && (sIx items.size items.size hi - sIx items.size 0 lo) == items.size)=true):=by
  intro q;rw[Xl,Xl] at q;have q1:((sIx items.size 0 lo:Nat):Int)=0:=eq_of_beq q.1.1;have q2:sIx items.size items.size hi - sIx items.size 0 lo=items.size:=eq_of_beq q.2;exact hw ⟨by lia,by lia⟩
 show V2 _ _ (if (((sIx items.size 0 lo:Nat):Int) == 0 && (1:Int) == 1 && (sIx items.size items.size hi - sIx items.size 0 lo) == items.size)=true then _ else _) _ _ s
 rw[if_neg hno,K3]
 first
  | exact VG (m:=aah _) (Wx (VM ⟨_,rfl,VM h⟩) htake)
  | exact VG (m:=aah _) (Wx (VG (VM (VM ⟨_,rfl,VM h⟩))) htake)
  | exact VG (VG (m:=aah _) (Wx (VM (VM ⟨_,rfl,VM h⟩)) htake))
  | exact VG (VG (m:=aah _) (Wx (VM ⟨_,rfl,VM h⟩) htake))
end
end HT
namespace L2
open PySem PySem.Spec PyProof.Rows
abbrev TO:=St->Hp->(DL->Hp->Prop)->Prop
def PO (X:Cx)(e:Option Expr)(t:TO):Prop :=
 ∀ (ZY:Do) (s:VL) (σ:St) (H:Hp) (Q:DL->Hp->Prop),Inv X ZY σ H s->t σ H Q →
  V2 (Wb X.prog X.w) X.A (evalPart e X.env) (fun u s'=>∃ o H',Inv X ZY σ H' s'/\acR u o/\Q o H') X.xe s
def qW:TO:=fun _ H Q=>Q none H
def G5 (t:TE):TO:=fun σ H Q=>t σ H fun x H1=>∃ i,x = .int i/\Q (some i) H1
def intsAre_of {ns:DU}:∀ {us:DJ},Vals (ns.map V.int) us->Xm us ns:=by
 induction ns with
 | nil=>intro us r;rw[List.map_nil] at r;cases r;exact .nil
 | cons n ns ih =>
  intro us r;rw[WR] at r;cases r with
  | cons r1 r2 =>
   obtain⟨t,e⟩:=r1;subst e;exact .cons n t (ih r2)
section
variable {X:Cx}{e:Expr}{te:TE}{lo hi:Option Expr}{tl th:TO}{pos p2:ZX}
def oJ:PO X none qW:=by
 intro ZY s σ H Q I h;rw[evalPart_none];exact VM ⟨none,H,I,.none,h⟩
def jN (h:PE X e te):PO X (some e) (G5 te):=by
 intro ZY s σ H Q I hw;rw[evalPart_some];refine thn (h ZY s σ H _ I hw) fun u s1 ⟨x,H1,I1,r1,q1⟩=>?_;obtain⟨i,rfl,q⟩:=q1;obtain⟨t,rfl⟩:=r1;exact⟨some i,H1,I1,.int i t,q⟩
def SlR (X:Cx)(r:V->DL->DL->Hp->VK->Prop):Prop :=
 ∀ (ZY:Do) (s:VL) (σ:St) (H:Hp) (x:V) (v vl vu:Value) (lo hi:DL) (sl:Addr) (Q:VK),Inv X ZY σ H s->RelV x v->s.heap.IsSliceOf sl vl vu .none->acR vl lo->acR vu hi->r x lo hi H Q →
  ∃ T id,abu (.type T) "__getitem__" = pure (some (.builtin id))/\s.TypeIs v T/\V2 (Wb X.prog X.w) X.A (abT v (.ref sl)) (EP X ZY σ Q) X.xe s
def tSl (r:V->DL->DL->Hp->VK->Prop)(te:TE)(tl th:TO):TE:=fun σ H Q=>te σ H fun x H1=>tl σ H1 fun l H2=>th σ H2 fun u H3=>r x l u H3 Q
def j6 {r:V->DL->DL->Hp->VK->Prop}(hr:SlR X r)(he:PE X e te)(hl:PO X lo tl)(hu:PO X hi th):PE X (.Subscript e (.Slice lo hi none p2) pos) (tSl r te tl th):=by
 intro ZY s σ H Q I h;refine Subscript_ (thn (he ZY s σ H _ I h) fun v s1 ⟨x,H1,I1,r1,q1⟩=>?_);refine wpAny_Slice (thn (hl ZY s1 σ H1 _ I1 q1) fun vl s2 ⟨l,H2,I2,pl,q2⟩=>thn (hu ZY s2 σ H2 _ I2 q2) fun vu s3 ⟨u,H3,I3,pu,q3⟩=>?_);rw[evalPart_none];refine VM ?_;have I4:Inv X ZY σ H3 { s3 with heap:=s3.heap.push { cls:=.type "slice",data:=.fields #[vl,vu,.none] } }:=I3.kept (t':=s3.toks) fun b ob q=>VJ _ q;obtain⟨T,id,hT,ht,hg⟩:=hr ZY { s3 with heap:=s3.heap.push { cls:=.type "slice",data:=.fields #[vl,vu,.none] } } σ H3 x v vl vu l u s3.heap.objs.size Q I4 r1 (Heap.IsSliceOf.new ..) pl pu q3;show V2 (Wb X.prog X.w) X.A (ab7 e (.Slice lo hi none p2) v (.ref s3.heap.objs.size)) (EP X ZY σ Q) X.xe { s3 with heap:=s3.heap.push { cls:=.type "slice",data:=.fields #[vl,vu,.none] } };exact tail_any (ops:=[.ref s3.heap.objs.size,v]) ht hT hg (by with_unfolding_all rfl)
def wj (xs:List V)(lo hi:DL):List V:=(xs.drop (HT.sIx xs.length 0 lo)).take (HT.sIx xs.length xs.length hi - HT.sIx xs.length 0 lo)
def rR (xs:List V)(lo hi:DL):(wj xs lo hi).length<=xs.length:=by
 unfold wj;rw[Wa,Z8];lia
inductive J5 (K:V8)(x:V)(lo:DL)(hi:DL)(H:Hp)(Q:VK):Prop where
 | mk (a:Addr) (xs:List V) (_:x = .ref a) (_:SqT K H a xs) (_:¬ (HT.sIx xs.length 0 lo=0/\HT.sIx xs.length xs.length hi=xs.length)) (_:∀ p,H p=none->Q (.ref p) (upd H p (.tup (wj xs lo hi))))
def Bl:SlR X (J5 X.K):=by
 intro ZY s σ H x v vl vu lo hi sl Q I rx hs pl pu h;obtain⟨a,xs,rfl,hx,hw,q⟩:=h;cases rx;obtain⟨its,r,ht,hz⟩:=I.tuple hx;have hlen:its.toArray.size=xs.length:=by rw[Wd];exact r.length.symm
 refine⟨"tuple",_,PyProof.Rows.slot_tuple_getitem.lookup,ht.typeIs,?_⟩;refine HT.oK ht hs pl pu (by rw[hlen];exact hw) ?_ (by rw[hlen];exact hz);rw[hlen];refine⟨.ref s.heap.objs.size,_,I.laid (t':=s.toks) (o:=.tup (wj xs lo hi)) (fun b ob q=>VJ _ q) (VP _) ?_,U,q _ (I.hok.fresh (VP _))⟩;exact⟨Wn (rR xs lo hi) hz,_,(r.drop (HT.sIx xs.length 0 lo)).take (HT.sIx xs.length xs.length hi - HT.sIx xs.length 0 lo),IsTup.new _ _⟩
def Uh (K:V8):R2:=fun x y H Q=>∃ a b xs ys,x = .ref a/\y = .ref b/\SqT K H a xs/\SqT K H b ys/\xs≠[]/\xs.length+ys.length<=sizeLine ∧
 (ys=[]->Q (.ref a) H)/\(ys≠[]->∀ p,H p=none->Q (.ref p) (upd H p (.tup (xs++ys))))
def Vals.Bc {xs:List V}{us:DJ}(r:Vals xs us):us=[] ↔ xs=[]:=by
 cases r with
 | nil=>simp
 | cons _ _=>simp
def O1:OpR X (aaf .Add) (Uh X.K):=by
 intro ZY s σ H x y v u Q I rx ry h;obtain⟨a,b,xs,ys,rfl,rfl,ha,hb,hx,hz,q1,q2⟩:=h;cases rx;cases ry;obtain⟨its,r1,p1,_⟩:=I.tuple ha;obtain⟨its2,r2,p2,_⟩:=I.tuple hb;refine HT.QT p1 p2 (fun z=>hx (r1.Bc.mp z)) (fun z=>⟨.ref a,H,I,U,q1 (r2.Bc.mp z)⟩) (fun z=>?_) (by rw[← r1.length,← r2.length];exact hz);refine⟨.ref s.heap.objs.size,_,I.laid (t':=s.toks) (o:=.tup (xs++ys)) (fun b ob q=>VJ _ q) (VP _) ?_,U,q2 (fun w=>z (r2.Bc.mpr w)) _ (I.hok.fresh (VP _))⟩;exact⟨by rw[V6];exact hz,_,r1.append r2,IsTup.new _ _⟩
end
def ixN (n:Nat)(i:Int):Option Nat:=if 0<=i then (if i < n then some i.toNat else none) else if -(n:Int)<=i then some (i+n).toNat else none
def atI {α:Type}(xs:List α)(i:Int):Option α:=(ixN xs.length i).bind fun j=>xs[j]?
def Hw {n:Nat}{i:Int}{j:Nat}(h:ixN n i=some j):acH i n=some j/\j < n/\-(n:Int)<=i/\i < n:=by
 unfold ixN at h;by_cases h0:0<=i
 ·rw[if_pos h0] at h;by_cases h1:i < n;{rw[if_pos h1] at h;have e:i.toNat=j:=WL h;exact⟨by rw[seqIndex_of h0 h1,e],by lia,by lia,h1⟩};{rw[if_neg h1] at h;cases h}
 ·rw[if_neg h0] at h;by_cases h1 : -(n:Int)<=i;{rw[if_pos h1] at h;have e:(i+n).toNat=j:=WL h;exact⟨by rw[seqIndex_neg (by lia) h1,e],by lia,h1,by lia⟩};{rw[if_neg h1] at h;cases h}
def Hm {α:Type}{xs:List α}{i:Int}{v:α}(h:atI xs i=some v):∃ j,acH i xs.length=some j/\xs[j]? = some v/\j < xs.length/\-(xs.length:Int)<=i/\i < xs.length:=by
 unfold atI at h;cases e:ixN xs.length i with
 | none=>rw[e] at h;cases h
 | some j =>
  rw[e] at h;obtain⟨h1,h2,h3,h4⟩:=Hw e;exact⟨j,h1,h,h2,h3,h4⟩
def eE {α:Type}{xs:List α}{j:Nat}{v:α}(h:xs[j]? = some v):atI xs (j:Int)=some v:=by
 have hj:j < xs.length:=(List.getElem?_eq_some_iff.mp h).1;have e:ixN xs.length (j:Int)=some j:=by
  unfold ixN;rw[if_pos (by lia),if_pos (by lia)];simp
 unfold atI;rw[e];exact h
def KZ {α:Type}(xs:List α)(v:α):atI (xs++[v]) (-1)=some v:=by
 have hl:(xs++[v]).length=xs.length+1:=by simp
 have e:ixN (xs++[v]).length (-1)=some xs.length:=by
  unfold ixN;rw[hl,if_neg (by decide),if_pos (by lia)];congr 1;lia
 unfold atI;rw[e];show (xs++[v])[xs.length]? = some v;simp
def zM (b:Expr):Prop:=∀ o i,acU b false o i=operate [o,i] (abT o i)
def IxR (X:Cx)(r:R2):Prop :=
 ∀ (value slice:Expr) (ZY:Do) (s:VL) (σ:St) (H:Hp) (x y:V) (v u:Value) (Q:VK),Inv X ZY σ H s->RelV x v->RelV y u->r x y H Q →
  acU slice false v u=operate [v,u] (abT v u)->V2 (Wb X.prog X.w) X.A (ab7 value slice v u) (EP X ZY σ Q) X.xe s
def MtR (X:Cx)(id:String)(r:V->List V->Hp->VK->Prop):Prop :=
 ∀ (ZY:Do) (s:VL) (σ:St) (H:Hp) (x:V) (xs:List V) (v:Value) (us:DJ) (Q:VK),Inv X ZY σ H s->RelV x v->Vals xs us->r x xs H Q →
  V2 (Wb X.prog X.w) X.A (call (.builtin id) (v::us)) (EP X ZY σ Q) X.xe s
section
variable {X:Cx}{a b:Expr}{ta tb:TE}{pos:ZX}
def S7 {r:R2}(hr:IxR X r)(ha:PE X a ta)(hb:PE X b tb)(hs:zM b):PE X (.Subscript a b pos) (tOp r ta tb):=by
 intro ZY s σ H Q I h;exact Subscript_ (TQ ha hb I h fun v u s2 x y H2 I2 rx ry q=>hr a b ZY s2 σ H2 x y v u Q I2 rx ry q (hs _ _))
inductive Vc (K:V8)(x:V)(y:V)(H:Hp)(Q:VK):Prop where
 | mk (p:Addr) (xs:List V) (i:Int) (v:V) (_:x = .ref p) (_:y = .int i) (_:SqL K H p xs) (_:atI xs i=some v) (_:Q v H)
inductive UL (K:V8)(x:V)(y:V)(H:Hp)(Q:VK):Prop where
 | mk (p:Addr) (xs:List V) (i:Int) (v:V) (_:x = .ref p) (_:y = .int i) (_:SqT K H p xs) (_:atI xs i=some v) (_:Q v H)
def Pj:IxR X (Vc X.K):=by
 intro value slice ZY s σ H x y v u Q I rx ry h hs;obtain⟨p,xs,i,z,rfl,rfl,hq,he,q⟩:=h;cases rx;obtain⟨t,rfl⟩:=ry;obtain⟨its,r,pl,hz⟩:=I.list hq;obtain⟨j,h1,h2,h3,h4,h5⟩:=Hm he;obtain⟨w,ew,rw'⟩:=r.get h2;have hl:=r.length;have hn:=yl;have fin:EP X ZY σ Q w s:=⟨z,H,I,rw',q⟩;by_cases h0:0<=i
 ·have hj:i.toNat=j:=by
   rw[seqIndex_of h0 h5] at h1;exact WL h1
  exact item_listR pl.isList h0 (by lia) (by rw[hj];simpa using ew) fin hs
 ·have hj:(i+(its.toArray.size:Int)).toNat=j:=by
   rw[seqIndex_neg (by lia) h4] at h1;rw[Wd,← hl];exact WL h1
  exact subscriptTail_builtinR (x:=w) pl.isList.typeIs slot_list_getitem.lookup
   (wpAny_getItem_list_neg (Q:=fun r s'=>r=w/\EP X ZY σ Q r s') pl.isList (by lia) (by rw[Wd] <;> lia) (by lia) (by rw[hj];simpa using ew) ⟨U,fin⟩) hs
def Sx:IxR X (UL X.K):=by
 intro value slice ZY s σ H x y v u Q I rx ry h hs;obtain⟨p,xs,i,z,rfl,rfl,hq,he,q⟩:=h;cases rx;obtain⟨t,rfl⟩:=ry;obtain⟨its,r,pl,hz⟩:=I.tuple hq;obtain⟨j,h1,h2,h3,h4,h5⟩:=Hm he;obtain⟨w,ew,rw'⟩:=r.get h2;have hl:=r.length;have hn:=yl;have fin:EP X ZY σ Q w s:=⟨z,H,I,rw',q⟩;exact subscriptTail_builtinR (x:=w) pl.typeIs slot_tuple_getitem.lookup
  (getItem_tuple (j:=j) (Q:=fun r s'=>r=w/\EP X ZY σ Q r s') pl (by lia) (by lia) (by rw[Wd,← hl];exact h1) (by simpa using ew) ⟨U,fin⟩) hs
def Eb (its:DJ)(n j:Nat)(u:Value):Zt (·.setIfInBounds j u) { cls:=.type "list",data:=.seq its.toArray n }={ cls:=.type "list",data:=.seq (its.set j u).toArray n }:=by
 simp [Zt]
def Inv.lst {ZY:Do}{σ:St}{H:Hp}{s:VL}{p:Addr}{xs:List V}(I:Inv X ZY σ H s)(h:H p=some (.lst xs)) :
  ∃ (its:DJ) (n:Nat),Vals xs its/\s.heap.get? p=some { cls:=.type "list",data:=.seq its.toArray n }/\xs.length<=sizeLine:=by
 obtain⟨z,its,n,r,e⟩:=I.hok p _ h;exact⟨its,n,r,e,z⟩
def Inv.Tj {ZY:Do}{σ:St}{H:Hp}{s:VL}{p:Addr}{xs ys:List V}{its its':DJ}{n n':Nat}{f:YB->YB}(I:Inv X ZY σ H s)(h:H p=some (.lst xs))
  (ho:s.heap.get? p=some { cls:=.type "list",data:=.seq its.toArray n }) (hf:f { cls:=.type "list",data:=.seq its.toArray n }={ cls:=.type "list",data:=.seq its'.toArray n' }) (r:Vals ys its') (hz:ys.length<=sizeLine) (t:Nat) :
  Inv X ZY σ (upd H p (.lst ys)) { s with heap:=s.heap.update p f,toks:=t }:=by
 have e:(s.heap.update p f).get? p=some { cls:=.type "list",data:=.seq its'.toArray n' }:=by
  rw[Ws f ho (by rw[hf] <;> rfl),hf]
 refine I.write (x:=p) (e:=p) (by rw[h];trivial) (.inl U) (fun b u hb q=>(Wo _ _ (XQ hb)).trans q) ⟨_,e⟩ ?_;exact⟨hz,its',n',r,e⟩
def T8:V->V->V->Hp->(Hp->Prop)->Prop:=fun o i v H Q=>∃ p xs k j,o = .ref p/\i = .int k/\H p=some (.lst xs)/\ixN xs.length k=some j/\Q (upd H p (.lst (xs.set j v)))
def set_list:U0 X T8:=by
 intro ZY s σ H o i v ov iv u Q I ro ri rv h;obtain⟨p,xs,k,j,rfl,rfl,hp,hj,q⟩:=h;cases ro;obtain⟨t,rfl⟩:=ri;obtain⟨its,n,r,ho,hz⟩:=I.lst hp;obtain⟨h1,h2,h3,h4⟩:=Hw hj;have hl:=r.length;have hn:=yl;have I':Inv X ZY σ (upd H p (.lst (xs.set j v))) { s with heap:=s.heap.update p (Zt (·.setIfInBounds j u)) } :=
  I.Tj hp ho (Eb its n j u) (r.set rv j) (by rw[aaP];exact hz) s.toks
 by_cases h0:0<=k
 ·have hk:k.toNat=j:=by
   rw[seqIndex_of h0 h4] at h1;exact WL h1
  exact PySem.W.ki_setAt ho h0 (by lia) (by rw[Wd,← hl];exact h4) (by rw[hk];exact⟨_,I',q⟩)
 ·have hk:(k+(its.toArray.size:Int)).toNat=j:=by
   rw[seqIndex_neg (by lia) h3] at h1;rw[Wd,← hl];exact WL h1
  exact PySem.W.ki_setBack ho (by lia) (by rw[Wd,← hl];exact h3) (by lia) (by rw[hk];exact⟨_,I',q⟩)
def xY (lo hi:DL)(n:Nat):(Y7 lo hi none n).1=((HT.sIx n 0 lo:Nat):Int)/\(Y7 lo hi none n).2.1=((HT.sIx n n hi:Nat):Int)/\(Y7 lo hi none n).2.2=1:=by
 refine⟨?_,?_,U⟩
 ·cases lo with
  | none=>simp [Y7,HT.sIx]
  | some i =>
   simp only[Y7,HT.sIx,Option.getD_none,show (1:Int) > 0 by decide,if_true];by_cases h:i < 0;{simp only[h,if_true] <;> lia}
   ·simp only[h,if_false] <;> lia
 ·cases hi with
  | none=>simp [Y7,HT.sIx]
  | some i =>
   simp only[Y7,HT.sIx,Option.getD_none,show (1:Int) > 0 by decide,if_true];by_cases h:i < 0;{simp only[h,if_true] <;> lia}
   ·simp only[h,if_false] <;> lia
def uW (its:DJ)(lo hi:DL):abm its.toArray lo hi none=((its.drop (HT.sIx its.length 0 lo)).take (HT.sIx its.length its.length hi - HT.sIx its.length 0 lo)).toArray:=by
 obtain⟨h1,h2,h3⟩:=xY lo hi its.toArray.size;unfold abm;rw[h1,h2,h3];simp only[sliceRange_one,pick_run,Wd] <;> rfl
inductive Uk (K:V8)(x:V)(lo:DL)(hi:DL)(H:Hp)(Q:VK):Prop where
 | mk (a:Addr) (xs:List V) (_:x = .ref a) (_:SqL K H a xs) (_:∀ p,H p=none->Q (.ref p) (upd H p (.lst (wj xs lo hi))))
def Jb:SlR X (Uk X.K):=by
 intro ZY s σ H x v vl vu lo hi sl Q I rx hs pl pu h;obtain⟨a,xs,rfl,hx,q⟩:=h;cases rx;obtain⟨its,r,ht,hz⟩:=I.list hx;have hlen:=r.length;refine⟨"list",_,slot_list_getitem.lookup,ht.isList.typeIs,?_⟩;refine wpAny_getItem_list_slice ht.isList hs pl pu .none (by simp) ?_ (by rw[Wd] <;> lia)
 rw[uW,← hlen];refine⟨.ref s.heap.objs.size,_,I.laid (t':=s.toks) (o:=.lst (wj xs lo hi)) (fun b ob q=>VJ _ q) (VP _) ?_,U,q _ (I.hok.fresh (VP _))⟩;exact⟨Wn (rR xs lo hi) hz,_,0,(r.drop (HT.sIx xs.length 0 lo)).take (HT.sIx xs.length xs.length hi - HT.sIx xs.length 0 lo),V5 _ U⟩
def t6:V->Bool
 | .non=>true
 | .bl _=>true
 | .int _=>true
 | .str _=>true
 | _=>false
def eqV:V->V->Bool
 | .non,.non=>true
 | .bl a,.bl b=>a == b
 | .bl a,.int b=>(if a then 1 else 0) == b
 | .int a,.bl b=>a == (if b then 1 else 0)
 | .int a,.int b=>a == b
 | .str a,.str b=>a == b
 | _,_=>false
def Tc {A:WM}{s:VL}{y x:V}{u v:Value}(ry:RelV y u)(rx:RelV x v)(fy:t6 y=true)(fx:t6 x=true):SeqAt.EqAt A s u v (eqV y x):=by
 cases y with
 | non =>
  cases ry;cases x with
  | non=>cases rx;exact SeqAt.EqAt.same _
  | bl b=>cases rx;exact SeqAt.EqAt.none_bool b
  | int b=>obtain⟨t,rfl⟩:=rx;exact SeqAt.EqAt.none_int b t
  | str b=>obtain⟨t,rfl⟩:=rx;exact SeqAt.EqAt.none_str b t
  | _=>exact absurd (show false=true from fx) VR
 | bl a =>
  cases ry;cases x with
  | non=>cases rx;exact SeqAt.EqAt.bool_none a
  | bl b=>cases rx;exact SeqAt.EqAt.bool_bool a b
  | int b=>obtain⟨t,rfl⟩:=rx;exact SeqAt.EqAt.bool_int a b t
  | str b=>obtain⟨t,rfl⟩:=rx;exact SeqAt.EqAt.bool_str a b t
  | _=>exact absurd (show false=true from fx) VR
 | int a =>
  obtain⟨t',rfl⟩:=ry;cases x with
  | non=>cases rx;exact SeqAt.EqAt.int_none a t'
  | bl b=>cases rx;exact SeqAt.EqAt.int_bool a t' b
  | int b=>obtain⟨t,rfl⟩:=rx;exact aca a t' b t
  | str b=>obtain⟨t,rfl⟩:=rx;exact SeqAt.EqAt.int_str a t' b t
  | _=>exact absurd (show false=true from fx) VR
 | str a =>
  obtain⟨t',rfl⟩:=ry;cases x with
  | non=>cases rx;exact SeqAt.EqAt.str_none a t'
  | bl b=>cases rx;exact SeqAt.EqAt.str_bool a t' b
  | int b=>obtain⟨t,rfl⟩:=rx;exact SeqAt.EqAt.str_int a t' b t
  | str b=>obtain⟨t,rfl⟩:=rx;exact SeqAt.EqAt.str_str a t' b t
  | _=>exact absurd (show false=true from fx) VR
 | _=>exact absurd (show false=true from fy) VR
def eqU (x:V)(u:Value):Bool:=match u with
 | .none=>eqV .non x
 | .bool b=>eqV (.bl b) x
 | .int i _=>eqV (.int i) x
 | .str z _=>eqV (.str z) x
 | _=>false
def Ng {x y:V}{u:Value}(r:RelV y u)(f:t6 y=true):eqU x u=eqV y x:=by
 cases y with
 | non=>cases r;rfl
 | bl b=>cases r;rfl
 | int i=>obtain⟨t,rfl⟩:=r;rfl
 | str z=>obtain⟨t,rfl⟩:=r;rfl
 | _=>exact absurd (show false=true from f) VR
theorem tO {x:V}:∀ {xs:List V} {us:DJ},Vals xs us->xs.all t6=true->us.any (eqU x)=xs.any fun y=>eqV y x
 | _,_,.nil,_=>rfl
 | y::xs,u::us,.cons r t,f=>by
  rw[abj,Xl] at f;rw[Zz,Zz,Ng r f.1,tO t f.2]
theorem nH {A:WM}{s:VL}{x:V}{v:Value}(rx:RelV x v)(fx:t6 x=true):∀ {xs:List V} {us:DJ},Vals xs us->xs.all t6=true->∀ u∈us,SeqAt.EqAt A s u v (eqU x u)
 | _,_,.nil,_=>fun u hu=>by cases hu
 | y::xs,u::us,.cons r t,f=>fun u' hu=>by
  rw[abj,Xl] at f;rcases List.mem_cons.mp hu with rfl | hu;{rw[Ng r f.1];exact Tc r rx f.1 fx};{exact nH rx fx t f.2 u' hu}
def inV (x:V)(xs:List V):Bool:=xs.any fun y=>eqV y x
inductive rIn (K:V8)(neg:Bool)(x:V)(y:V)(H:Hp)(Q:VK):Prop where
 | mk (p:Addr) (xs:List V) (_:y = .ref p) (_:(SqL K H p xs∨SqT K H p xs)) (_:t6 x=true) (_:xs.all t6=true) (_:Q (.bl (if neg then !inV x xs else inV x xs)) H)
def dq:OpR X (Yn .In) (rIn X.K false):=by
 intro ZY s σ H x y v u Q I rx ry h;obtain⟨p,xs,rfl,hq,fx,fs,q⟩:=h;cases ry;rcases hq with hq | hq;{obtain⟨its,r,pl,hz⟩:=I.list hq;refine SeqAt.in_listAt (eqU x) pl.isList (fun w hw=>nH rx fx r fs w (by simpa using hw)) ⟨.bl _,H,I,U,?_⟩;rw[show its.toArray.any (eqU x)=its.any (eqU x) by simp,tO r fs];exact q};{obtain⟨its,r,pl,hz⟩:=I.tuple hq;refine SeqAt.in_tupleAt (eqU x) pl (fun w hw=>nH rx fx r fs w (by simpa using hw)) ⟨.bl _,H,I,U,?_⟩;rw[show its.toArray.any (eqU x)=its.any (eqU x) by simp,tO r fs];exact q}
def pK:OpR X (Yn .NotIn) (rIn X.K true):=by
 intro ZY s σ H x y v u Q I rx ry h;obtain⟨p,xs,rfl,hq,fx,fs,q⟩:=h;cases ry;rcases hq with hq | hq;{obtain⟨its,r,pl,hz⟩:=I.list hq;refine SeqAt.notIn_listAt (eqU x) pl.isList (fun w hw=>nH rx fx r fs w (by simpa using hw)) ⟨.bl _,H,I,U,?_⟩;rw[show its.toArray.any (eqU x)=its.any (eqU x) by simp,tO r fs];exact q};{obtain⟨its,r,pl,hz⟩:=I.tuple hq;refine SeqAt.notIn_tupleAt (eqU x) pl (fun w hw=>nH rx fx r fs w (by simpa using hw)) ⟨.bl _,H,I,U,?_⟩;rw[show its.toArray.any (eqU x)=its.any (eqU x) by simp,tO r fs];exact q}
def yV:gj X (.builtin "len") (fun xs H Q=>∃ p ys,xs=[.ref p]/\(SqL X.K H p ys∨SqT X.K H p ys)/\Q (.int ys.length) H):=by
 intro ZY s σ H xs us Q I r h;obtain⟨p,ys,rfl,hq,q⟩:=h;obtain⟨u,rfl,rx⟩:=vals1 r;cases rx;have hn:=yl;rcases hq with hq | hq;{obtain⟨its,r',pl,hz⟩:=I.list hq;have hlen:=r'.length;exact Calls.call_len_list pl.isList (by simp only[Wd] <;> lia) ⟨.int ys.length,H,I.tok _,⟨s.toks+1,by rw[Wd,hlen]⟩,q⟩}
 ·obtain⟨its,r',pl,hz⟩:=I.tuple hq;have hlen:=r'.length;exact len_tuple pl (by simp only[Wd] <;> lia) ⟨.int ys.length,H,I.tok _,⟨s.toks+1,by rw[Wd,hlen]⟩,q⟩
def yt:gj X (.type "list") (fun xs H Q=>∃ p ys,xs=[.ref p]/\(SqL X.K H p ys∨SqT X.K H p ys)/\∀ l,H l=none->Q (.ref l) (upd H l (.lst ys))):=by
 intro ZY s σ H xs us Q I r h;obtain⟨p,ys,rfl,hq,q⟩:=h;obtain⟨u,rfl,rx⟩:=vals1 r;cases rx;have fin:∀ (its:DJ),Vals ys its->ys.length<=sizeLine->∀ (h':WT) (c':Nat),(∀ b o',s.heap.get? b=some o'->h'.get? b=some o') →
   h'.get? s.heap.objs.size=some { cls:=.type "list",dict:=none,data:=.seq its.toArray c',slots:=#[] }->EP X ZY σ Q (.ref s.heap.objs.size) { s with heap:=h' }:=fun its r' hz h' c' kp e =>
  ⟨.ref s.heap.objs.size,_,I.laid (t':=s.toks) kp (VP _) (show dU X.prog X.w _ h' _ (.lst ys) from ⟨hz,its,c',r',e⟩),U,q _ (I.hok.fresh (VP _))⟩
 rcases hq with hq | hq;{obtain⟨its,r',pl,hz⟩:=I.list hq;have hlen:=r'.length;obtain⟨o,ho,hc,n,hd⟩:=pl.isList;exact call_list_seq p (.inl U) ho hc hd (fun h' c' kp e=>fin its r' hz h' c' kp e) (by simp only[Wd] <;> lia)}
 ·obtain⟨its,r',pl,hz⟩:=I.tuple hq;have hlen:=r'.length;obtain⟨o,ho,hc,n,hd⟩:=pl;exact call_list_seq p (.inr U) ho hc hd (fun h' c' kp e=>fin its r' hz h' c' kp e) (by simp only[Wd] <;> lia)
def vK:gj X (.type "tuple") (fun xs H Q=>∃ p ys,xs=[.ref p]/\((SqL X.K H p ys/\∀ l,H l=none->Q (.ref l) (upd H l (.tup ys)))∨(SqT X.K H p ys/\Q (.ref p) H))):=by
 intro ZY s σ H xs us Q I r h;obtain⟨p,ys,rfl,h⟩:=h;obtain⟨u,rfl,rx⟩:=vals1 r;cases rx;rcases h with⟨hq,q⟩ | ⟨hq,q⟩
 ·obtain⟨its,r',pl,hz⟩:=I.list hq;have hlen:=r'.length;refine call_tuple_list pl.isList (fun h' kp=>?_) (by simp only[Wd] <;> lia)
  have I1:Inv X ZY σ H { s with heap:=h' }:=I.kept (t':=s.toks) kp;have I2:Inv X ZY σ (upd H h'.objs.size (.tup ys)) { s with heap:=h'.push { cls:=.type "tuple",data:=.seq its.toArray } } :=
   I1.laid (t':=s.toks) (fun b o e=>VJ _ e) (VP _) (show dU X.prog X.w _ _ _ (.tup ys) from ⟨hz,its,r',IsTup.new _ _⟩)
  exact⟨.ref h'.objs.size,_,I2,U,q _ (I1.hok.fresh (VP _))⟩
 ·obtain⟨its,r',pl,hz⟩:=I.tuple hq;exact call_tuple_same pl ⟨.ref p,H,I,U,q⟩
def tyV (K:V8)(T:String)(x:V)(H:Hp):Prop:=match x with
 | .str _=>T = "str"
 | .int _=>T = "int"
 | .ref p=>(T = "list"/\∃ xs,SqL K H p xs)∨(T = "tuple"/\∃ o,K.lookup p=some o/\o.cls = .type "tuple"/\o.dict=none) ∨
   (T = "dict"/\((∃ kvs,H p=some (.dK kvs))∨∃ kvs,H p=some (.dT kvs)))∨(T = "set"/\∃ S n,H p=some (.set S n))
 | _=>False
def Sg {ZY:Do}{σ:St}{H:Hp}{s:VL}{T:String}{x:V}{v:Value}(I:Inv X ZY σ H s)(r:RelV x v)(ty:tyV X.K T x H) :
  s.TypeIs v T/\∀ a,v = .ref a->∃ ob,s.heap.get? a=some ob/\ob.dict=none:=by
 cases x with
 | str z =>
  obtain⟨t,rfl⟩:=r;cases (show T = "str" from ty);exact⟨typeIs_str s z t,fun _ e=>nomatch e⟩
 | int i =>
  obtain⟨t,rfl⟩:=r;cases (show T = "int" from ty);exact⟨typeIs_int s i t,fun _ e=>nomatch e⟩
 | ref p =>
  cases r;rcases ty with⟨rfl,xs,hq⟩ | ⟨rfl,o,hk,hc,hd⟩ | ⟨rfl,hk⟩ | ⟨rfl,S,n,hk⟩;{obtain⟨its,_,pl,_⟩:=I.list hq;refine⟨pl.isList.typeIs,fun a e=>?_⟩;cases e;obtain⟨o,n,e,c,hd,_⟩:=pl;exact⟨o,e,hd⟩};{refine⟨⟨o,I.kIn p o hk,hc⟩,fun a e=>?_⟩;cases e;exact⟨o,I.kIn _ o hk,hd⟩}
  ·have z:∃ o,s.heap.get? p=some o/\o.ExactDict:=by
    rcases hk with⟨kvs,hk⟩ | ⟨kvs,hk⟩;{obtain⟨_,_,_,_,o,_,_,e,ex,_⟩:=I.hok p _ hk;exact⟨o,e,ex⟩};{obtain⟨_,_,_,_,o,_,_,e,ex,_⟩:=I.hok p _ hk;exact⟨o,e,ex⟩}
   obtain⟨o,e,ex⟩:=z;refine⟨⟨o,e,ex.1⟩,fun a e2=>?_⟩;cases e2;exact⟨o,e,ex.2.1⟩
  ·obtain⟨o,_,_,_,e,ex,_⟩:=I.hok p _ hk;refine⟨⟨o,e,ex.1⟩,fun a e2=>?_⟩;cases e2;exact⟨o,e,ex.2.1⟩
 | _=>exact XD ty
def tBM (K:V8)(T:String)(r:V->List V->Hp->VK->Prop)(to:TE)(t:TA):TE:=fun σ H Q=>to σ H fun x H1=>tyV K T x H1/\t σ H1 fun xs H2=>r x xs H2 Q
variable {o e:Expr}{es:DO}{to:TE}{t:TA}{name:Wt}{apos cpos:ZX}{T id:String}{r:V->List V->Hp->VK->Prop}
def rO (pa:PlainAttrs T) (slot:Slot T name id) (hty:typeOf (.builtin id)=pure (.type "method_descriptor")) (hm:MtR X id r) (ho:PE X o to) (ha:PA X (e::es) t)
  (hbase:aaC o name X.env (Xw o X.env)=Xw o X.env:=by rfl)
  (hfew:((Yk cpos (Wg (e::es) X.env)).all (fun x=>!x.1) && (aaG cpos (Zm [] X.env)).all (fun x=>x.1.isSome)
   && decide ((e::es).length+([]:DF).length+(if ([]:DF).isEmpty then 0 else 1) < 30))=true:=by rfl)
  (hline:(apos.endLine == cpos.line)=true:=by rfl) (hs:Wg (e::es) X.env=(false,Xw e X.env)::Wg es X.env:=by rfl) (hplain:(Yk cpos (Wg es X.env)).any (·.1)=false:=by rfl) :
  PE X (.Call (.Attribute o name apos) (e::es) [] cpos) (tBM X.K T r to t):=by
 intro ZY s σ H Q I h;refine wpAny_Call_method_late hbase hfew hline U (thn (ho ZY s σ H _ I h) fun v s1 ⟨x,H1,I1,r1,ty,q1⟩=>?_);obtain⟨h1,h2⟩:=Sg I1 r1 ty;refine⟨T,id,pa,slot,hty,h1,h2,?_⟩;have hA:=ha cpos ZY s1 σ H1 _ I1 q1;rw[hs] at hA ⊢;refine Calls.callWith_builtin (by show (false || (Yk cpos (Wg es X.env)).any (·.1))=false;rw[hplain] <;> rfl) (Calls.evalArgs_plain ?_)
 exact thn hA fun us s2 ⟨vs,H2,I2,r2,q2⟩=>hm ZY s2 σ H2 x vs v us Q I2 r1 r2 q2
/- xs.append(e),list.index on a module's tuple .. are MtR facts of 06m -/
end
def MtM (X:Cx)(id:String)(r:V->List V->Hp->VK->Prop):Prop :=
 ∀ (ZY:Do) (s:VL) (σ:St) (H:Hp) (x:V) (xs:List V) (v:Value) (us:DJ) (Q:VK),Inv X ZY σ H s->RelV x v->Vals xs us->r x xs H Q →
  V2 (Wb X.prog X.w) X.A (call (.builtin id) (v::us)) (EP X ZY σ Q) X.xe s
theorem Vals.one:∀ {x:V} {us:DJ},Vals [x] us->∃ u,us=[u]/\RelV x u
 | _,_,.cons r .nil=>⟨_,U,r⟩
theorem Vals.two:∀ {x y:V} {us:DJ},Vals [x,y] us->∃ u v,us=[u,v]/\RelV x u/\RelV y v
 | _,_,_,.cons r (.cons q .nil)=>⟨_,_,U,r,q⟩
theorem Vals.eraseIdx:∀ {xs:List V} {us:DJ} (i:Nat),Vals xs us->Vals (xs.eraseIdx i) (us.eraseIdx i)
 | _,_,_,.nil=>.nil
 | _,_,0,.cons _ t=>t
 | _,_,i+1,.cons r t=>.cons r (Vals.eraseIdx i t)
def Vals.reverse {xs:List V}{us:DJ}(h:Vals xs us):Vals xs.reverse us.reverse:=by
 induction h with
 | nil=>exact .nil
 | cons r t ih=>rw[abb,abb];exact Vals.append ih (.cons r .nil)
theorem Vals.rep {xs:List V}{us:DJ}(h:Vals xs us):∀ k:Nat,Vals (WK k xs).flatten (WK k us).flatten
 | 0=>.nil
 | k+1=>by
  rw[YJ,YJ,aav,aav];exact Vals.append h (Vals.rep h k)
theorem xU {α:Type}:∀ (l:List α) (i:Nat),(l.eraseIdx i).length<=l.length
 | [],_=>VP _
 | _::_,0=>Xx _
 | _::r,i+1=>acM (xU r i)
theorem foldl_rep (its:DJ):∀ (k:Nat) (acc:DJ),
  List.foldl (fun x1 x2=>x1++x2) acc.toArray (WK k its.toArray)=(acc++(WK k its).flatten).toArray
 | 0,acc=>by simp
 | k+1,acc=>by
  have e:acc.toArray++its.toArray=(acc++its).toArray:=by simp
  have e2:(acc++its)++(WK k its).flatten=acc++(WK (k+1) its).flatten:=by
   rw[YJ,aav,ZM]
  rw[← e2,← foldl_rep its k (acc++its),← e,YJ,W9]
section
variable {X:Cx}{ZY:Do}{σ:St}{H:Hp}{s:VL}{l b:Addr}{xs ys zs:List V}
def Inv.U4 {its its':DJ}{n:Nat}{f:Array Value->Array Value}{t':Nat}(I:Inv X ZY σ H s)(hH:H l=some (.lst xs))
  (e:s.heap.get? l=some { cls:=.type "list",data:=.seq its.toArray n }) (hf:f its.toArray=its'.toArray) (hv:Vals ys its') (hz:ys.length<=sizeLine) :
  Inv X ZY σ (upd H l (.lst ys)) { s with heap:=s.heap.update l (Zt f),toks:=t' }:=by
 have q:=PySem.IsL.update e f;rw[hf] at q;refine I.write (x:=l) (e:=l) (by rw[hH];exact trivial) (.inl U) (fun b' u hb hu=>(Wo s.heap (Zt f) (XQ hb)).trans hu) ⟨_,q⟩ ?_;exact⟨hz,its',_,hv,q⟩
def Inv.Su {its:DJ}{t':Nat}(I:Inv X ZY σ H s)(hv:Vals ys its)(hz:ys.length<=sizeLine) :
  Inv X ZY σ (upd H s.heap.objs.size (.lst ys)) { s with heap:=s.heap.push { cls:=.type "list",data:=.seq its.toArray },toks:=t' } :=
 I.laid (fun _ _ q=>VJ _ q) (VP _) ⟨hz,its,0,hv,V5 _ U⟩
def Inv.fresh (I:Inv X ZY σ H s):H s.heap.objs.size=none:=I.hok.fresh (VP _)
def Inv.S8 (I:Inv X ZY σ H s)(hH:H l=some (.lst xs)):xs.length<=sizeLine/\∃ (its:DJ) (n:Nat),Vals xs its/\xs.length=its.length/\s.heap.get? l=some { cls:=.type "list",data:=.seq its.toArray n }:=by
 obtain⟨z,its,n,r,e⟩:=I.hok l _ hH;exact⟨z,its,n,r,r.length,e⟩
def Kr {n:Nat}(h:n<=sizeLine):abk n=false:=by
 unfold abk;exact decide_eq_false (by lia)
end
section
variable {X:Cx}
inductive Oo (x:V)(vs:List V)(H:Hp)(Q:VK):Prop where
 | mk (l:Addr) (xs:List V) (y:V) (_:x = .ref l) (_:vs=[y]) (_:H l=some (.lst xs)) (_:xs.length < sizeLine) (_:Q .non (upd H l (.lst (xs++[y]))))
def cI:MtM X "list.append" Oo:=by
 intro ZY s σ H x vs v us Q I rx rv h;obtain⟨l,xs,y,rfl,rfl,hH,hz,q⟩:=h;cases rx;obtain⟨u,rfl,ru⟩:=rv.one;obtain⟨z,its,n,r,hl,e⟩:=I.S8 hH;refine call_meets F.slot_list_append ⟨_,e,U⟩ F.entry_list_append (F.args_list_append_2 _ _) (PySem.list_append l its.toArray n u (by rw[Wd];lia)) ⟨e,?_⟩;refine⟨.non,_,I.U4 (its':=its++[u]) hH e (by simp) (r.append (.cons ru .nil)) ?_,U,q⟩;rw[V6,List.length_singleton];lia
def Nj:V->List V->Hp->VK->Prop:=fun x vs H Q=>∃ l xs i k y,x = .ref l/\vs=[.int i]/\H l=some (.lst xs)/\-(2 ^ 63)<=i/\i < 2 ^ 63/\acH i xs.length=some k/\xs[k]? = some y/\Q y (upd H l (.lst (xs.eraseIdx k)))
def Km:MtM X "list.pop" Nj:=by
 intro ZY s σ H x vs v us Q I rx rv h;obtain⟨l,xs,i,k,y,rfl,rfl,hH,h1,h2,hk,hy,q⟩:=h;cases rx;obtain⟨u,rfl,ru⟩:=rv.one;obtain⟨t,rfl⟩:=ru;obtain⟨z,its,n,r,hl,e⟩:=I.S8 hH;obtain⟨w,hw,rw'⟩:=r.get hy;refine call_meets F.slot_list_pop ⟨_,e,U⟩ F.entry_list_pop (F.args_list_pop_2 _ _)
  (MeetsSeq.list_pop_at l its.toArray n i t k w (fitsIndex_both h1 h2) (by rw[Wd,← hl];exact hk) (by rw[← Xq];exact hw) (by rw[Wd];lia)) ⟨e,?_⟩
 refine⟨y,_,I.U4 (its':=its.eraseIdx k) hH e ?_ (r.eraseIdx k) ?_,rw',q⟩;{show its.toArray.eraseIdxIfInBounds k=(its.eraseIdx k).toArray;rw[List.eraseIdxIfInBounds_toArray]};{have:=xU xs k;lia}
inductive Vk (x:V)(y:V)(H:Hp)(Q:VK):Prop where
 | mk (l:Addr) (b:Addr) (xs:List V) (zs:List V) (_:x = .ref l) (_:y = .ref b) (_:H l=some (.lst xs)) (_:H b=some (.lst zs)) (_:xs.length+zs.length<=sizeLine) (_:∀ p,H p=none->Q (.ref p) (upd H p (.lst (xs++zs))))
def pQ:OpR X (aaf .Add) Vk:=by
 intro ZY s σ H x y v u Q I rx ry h;obtain⟨l,b,xs,zs,rfl,rfl,hH,hB,hz,q⟩:=h;cases rx;cases ry;obtain⟨z,its,n,r,hl,e⟩:=I.S8 hH;obtain⟨z2,its2,n2,r2,hl2,e2⟩:=I.S8 hB;refine PySem.P.add_list e e2 ?_ (by rw[Wd,Wd];lia);have ea:its.toArray++its2.toArray=(its++its2).toArray:=by simp
 rw[ea];exact⟨.ref _,_,I.Su (t':=s.toks) (r.append r2) (by rw[V6];lia),U,q _ I.fresh⟩
def Vx:R2:=fun x y H Q=>∃ l k xs,x = .ref l/\y = .int k/\H l=some (.lst xs)/\-(2 ^ 63)<=k/\k < 2 ^ 63/\xs.length * k.toNat<=sizeLine ∧
 ∀ p,H p=none->Q (.ref p) (upd H p (.lst (WK k.toNat xs).flatten))
def len_rep {α:Type}(xs:List α)(k:Nat):(WK k xs).flatten.length=k * xs.length:=by
 induction k with
 | zero=>simp
 | succ k ih=>rw[YJ,aav,V6,ih,Nat.succ_mul,Nat.add_comm]
def R4:OpR X (aaf .Mult) Vx:=by
 intro ZY s σ H x y v u Q I rx ry h;obtain⟨l,k,xs,rfl,rfl,hH,h1,h2,hz,q⟩:=h;cases rx;obtain⟨t,rfl⟩:=ry;obtain⟨z,its,n,r,hl,e⟩:=I.S8 hH;have hlen:its.toArray.size * k.toNat<=sizeLine:=by rw[Wd,← hl];exact hz
 have hcap:¬ its.toArray.size * k.toNat > (2 ^ 63 - 1) / 8:=by
  have:(sizeLine:Nat)<=(2 ^ 63 - 1) / 8:=by decide
  lia
 have hfit:¬ (!Builtin.List.listFitsIndex k)=true:=by
  rw[fitsIndex_both h1 h2];exact VR
 have hlong:¬ abk (its.toArray.size * k.toNat)=true:=by
  rw[Kr hlen];exact VR
 have hnew:List.foldl (fun x1 x2=>x1++x2) #[] (WK (if its.toArray.isEmpty=true then 0 else k.toNat) its.toArray)=(WK k.toNat its).flatten.toArray:=by
  have f0:∀ m:Nat,List.foldl (fun x1 x2=>x1++x2) #[] (WK m its.toArray)=(WK m its).flatten.toArray:=fun m=>by
   have:=foldl_rep its m [];rw[ac4] at this;exact this
  rw[f0];cases its with
  | nil=>simp
  | cons a r'=>rw[if_neg (by simp)]
 refine wpAny_binaryOp_repeat_ref (T:="list") (U:="int") (by decide) ⟨_,e,U⟩ (fun s'=>typeIs_int s' k t) noFill_list_mul F.fills_int_mul F.slot_int_rmul repeat_list F.slot_int_index.lookup
  (call_meets F.slot_int_rmul (typeIs_int s k t) F.entry_int_rmul (F.args_int_rmul_2 _ _) (int___rmul___int_list k t l its.toArray n)
   ⟨e,U,⟨_,e,U⟩,call_meets F.slot_list_mul ⟨_,e,U⟩ F.entry_list_mul (F.args_list_mul_2 _ _) (AutoListH.list___mul___list_int_3 l its.toArray n k t hfit hcap hlong) ⟨e,?_⟩⟩)
 rw[hnew];exact⟨.ref _,_,I.Su (t':=s.toks) (r.rep k.toNat) (by rw[len_rep,Nat.mul_comm];exact hz),U,q _ I.fresh⟩
end
section
variable {prog:Wi}{w:Wy}{A:WM}{E:DC}{s:VL}
set_option maxRecDepth 100000 in
end
section
variable {X:Cx}
end
end L2
namespace Att
open PySem PySem.W PySem.Calls PyProof.Rows
def rP {P:Params}{h:WT}:∀ (ns:DU) (vs:DJ),WellAll P h vs (ns.map WData.int)->Xm vs ns:=by
 intro ns
 induction ns with
 | nil =>
  intro vs w;rw[List.map_nil] at w;cases w;exact .nil
 | cons n ns ih =>
  intro vs w;rw[WR] at w;cases w with
  | cons a b =>
   cases a;exact .cons _ _ (ih _ b)
def Gz {l:OpenLaw}{n:Nat}(hn:l.most=some n){P:Params}{h:WT}{args:List WData}{vals:DJ}
  (hpre:l.row.toRowW.claim.pre args=true) (hwl:WellAll P h vals args) :
  ∃ a vs ns,vals=[We a]/\args=[WData.list (ns.map WData.int)]/\h.get? a=some { cls:=.type "list",data:=.seq vs.toArray }/\Xm vs ns/\ns.length<=n:=by
 have hsh:WShape.hasAll [] args [.list .int]=true:=(pre_splitW hpre).1;have hc:l.pre.holds [] { args:=args }=true:=(pre_splitW hpre).2;obtain⟨d,r,rfl,h1,h2⟩:=hasAllW_cons hsh;obtain rfl:=hasAllW_nil h2;obtain⟨xs,rfl,h3⟩:=hasW_list h1;obtain⟨ns,rfl⟩:=items_int h3;have hlen:ns.length<=n:=by
  unfold OpenLaw.pre at hc;have h4:(WTm.not (.lt (.lit (.int (n:Int))) (.len (.arg 0)))).holds [] { args:=[.list (ns.map .int)] }=true:=by
   have h4:=(holds_andW hc).1;rw[hn] at h4;exact h4
  have h5:=condW_of h4 (w_not (w_lt w_lit (w_len_list (w_arg U))));rw[VH] at h5;refine acN fun q=>?_;have q':(n:Int) < ((ns.length:Nat):Int):=by lia
  first
   | (rw[decide_eq_true q'] at h5;exact absurd h5 (by decide))
   | (simp at h5;lia)
 cases hwl with
 | cons w1 w2 =>
  cases w2;cases w1 with
  | list ho hall=>exact⟨_,_,ns,U,U,ho,rP ns _ hall,hlen⟩
def GJ (l:OpenLaw)(args:List WData):l.row.toRowW.claim.post args (.bool true) args=true :=
 postW_of (r:=l.row.toRowW) (X:=(true == true))
  (show WShape.has [] (.bool true) .bool=true by first | rfl | decide | simp [WShape.has,WShape.arms,WShape.armsAll])
  (show (WTm.eq .res (.lit (.bool true))).value [] { args:=args,res:=some (.bool true),after:=args }=some (.bool (true == true)) from w_eq_bool (w_res U) w_lit) U
def Al {l:OpenLaw}{n:Nat}{q:Wi}{loose:D0}{XP:(Wt->DE)->WT->Prop}{YP:Wy->WT->Prop}{d:DefRec}
  (hn:l.most=some n) (hdf:d.params.defaults=[])
  (call:∀ (w:Wy) (s₀ s₁:VL) (mg mb:Wt->DE) (fa:Addr) (o:YB) (pm cd doc:Value) (a:Addr) (vs:DJ) (ns:DU),
   Ground q loose [] XP w s₀ mg mb s₁.heap->YP w s₁.heap →
   s₁.heap.get? fa=some o->o.data = .func (docDef d.name d.params d.body d.scope pm cd doc)->s₁.heap.CodeRec cd d.name->mg d.name=some (.ref fa) →
   s₁.heap.get? a=some { cls:=.type "list",data:=.seq vs.toArray }->Xm vs ns->ns.length<=n->s₁.gens = #[] →
   XJ (Wb l.prog w) aco (.call (.ref fa) ⟨[.ref a],[]⟩) (fun r s'=>r = .ok (.ret (.bool true))/\OldK s₁.heap s'.heap/\s'.os=s₁.os/\abe s'.gens) s₁) :
  WalkO q loose XP YP l.row.toRowW d [] (fun f vs=>PySem.call f vs):=by
 intro w s₀ s₁ mg mb G Y fa o pm cd doc dV kV ho hd hcd hD hmg hg args vals as hpre hlay hrd hwl hlo;obtain rfl:dV = .none:=Dflts.none hD hdf;obtain rfl:kV = .none:=Dflts.noKw hD;obtain⟨a,vs,ns,rfl,rfl,hobj,hints,hlen⟩:=Gz hn hpre hwl;refine enter_call (Zr (call w s₀ s₁ mg mb fa o pm cd doc a vs ns G Y ho (fd_plain hd) hcd hmg hobj hints hlen hg) fun r s' hq=>?_);obtain⟨rfl,h2,h3,h4⟩:=hq;exact⟨.inl ⟨.bool true,.bool true,[],U,fun _=>U,.bool true,GJ l _,fun _=>⟨abd,fun _ hm=>(nomatch hm)⟩⟩,h2,h3,h4⟩
section
variable {prog:Wi}{w:Wy}{A:WM}{E:DC}{s:VL}{K:Frag}
end
end Att
namespace L2
open PySem PySem.Spec PyProof.Rows
theorem iM:∀ {vs:DJ} {ns:DU},Xm vs ns->Vals (ns.map V.int) vs
 | _,_,.nil=>.nil
 | _,_,.cons n t h=>.cons ⟨t,U⟩ (iM h)
def Only (H:Hp):Prop:=∀ b,H b=none∨∃ o xs,H b=some (.frz o (.lst xs))
def Ms {P:Wi}{w:Wy}{K:V8}{mg mb:Wt->DE}{CX:CXT}{k:Nat}{fa a:Addr}{fd:Xp}{x:Wt}{sp:Sp}{s₁:VL}{vs:DJ}{ns:DU}
  (KX:K.In s₁.heap) (hns:s₁.heap.Ns Wm mg) (hb:s₁.heap.Ns builtinsNs mb) (hbb:∀ x:Wt,x≠"__name__"->mb x=W6 x) (hlim:s₁.heap.NoLimit) (hg:s₁.gens = #[])
  (ha:s₁.heap.get? a=some { cls:=.type "list",data:=.seq vs.toArray }) (hi:Xm vs ns) (hl:ns.length<=sizeLine) (hr:iD k aco)
  (F:∀ base:WT,K.In base->base.Ns Wm mg->bh P w K mg base CX k fa fd [x] sp) (hbind:∀ (s:VL) (u:Value),abX s fd ⟨[u],[]⟩ [(x,u)])
  (hsp:∀ H:Hp,Only H->SqL K H a (ns.map V.int)->sp [.ref a] H (fun v _=>v = .bl true) fun _ _ _=>False)
  (hCX:∀ H e s',CX [] H s₁ (fun _ _ _=>False) e s'->False) :
  XJ (Wb P w) aco (.call (.ref fa) ⟨[.ref a],[]⟩) (fun r s'=>r = .ok (.ret (.bool true))/\OldK s₁.heap s'.heap/\s'.os=s₁.os/\abe s'.gens) s₁:=by
 have rv:=iM hi;have lenV:=hi.length;have core:∀ H:Hp,Only H->SqL K H a (ns.map V.int)->HOk P w H s₁.heap->(∀ b,H b≠none->b=a)->(H a≠none->K.lookup a=none) →
   XJ (Wb P w) aco (.call (.ref fa) ⟨[.ref a],[]⟩) (fun r s'=>r = .ok (.ret (.bool true))/\OldK s₁.heap s'.heap/\s'.os=s₁.os/\abe s'.gens) s₁:=by
  intro H hO hS hok hA hK;have base_of:∀ {b:Addr} {o:YB},s₁.heap.get? b=some o->H b=none->(K9 s₁.heap H).get? b=some o:=fun e n=>JX e n;have noA:∀ {b:Addr} {o:YB} {es:Array DictEntry} {ep:Nat},s₁.heap.get? b=some o->o.data = .dict es ep->H b=none:=fun {b o es ep} e d=>by
   cases q:H b with
   | none=>rfl
   | some u =>
    have e':b=a:=hA b (by rw[q];simp);subst e';rw[ha] at e;cases e;have d':Data.seq vs.toArray _=Data.dict es ep:=d;cases d'
  have nsK:∀ {b:Addr} {m:Wt->DE},s₁.heap.Ns b m->(K9 s₁.heap H).Ns b m:=fun {b m} ⟨o,es,ep,e,d,r⟩=>⟨o,es,ep,base_of e (noA e d),d,r⟩
  have hKb:K.In (K9 s₁.heap H):=fun b o e=>base_of (KX b o e) (by
   cases q:H b with
   | none=>rfl
   | some u =>
    have e':b=a:=hA b (by rw[q];simp);subst e'
    rw[hK (by rw[q];simp)] at e;cases e)
  have hM:Mod K mg (K9 s₁.heap H):=⟨hKb,nsK hns,⟨mb,nsK hb,hbb⟩,let ⟨mc,h1,h2⟩:=hlim;⟨mc,nsK h1,h2⟩⟩;have e0:QG P w K mg (K9 s₁.heap H) aco [] s₁ H:=⟨U,hM,fun b o e=>Oe e,Nat.le_of_eq (HY _ _),trivial,fun b hb=>absurd (show b∈([]:DM) from hb) (by simp),hok,.of_eq hg⟩;refine Zr ((F _ hKb (nsK hns)).run aco [] s₁ H ⟨[.ref a],[]⟩ [.ref a] [.ref a] _ _ hr e0 (hbind s₁ (.ref a)) (.cons U .nil) (hsp H hO hS)) fun r s' h=>?_;cases r with
  | error e=>exact (hCX H e s' h).elim
  | ok fl =>
   cases fl with
   | next=>exact XD h
   | brk=>exact XD h
   | cont=>exact XD h
   | ret u =>
    obtain⟨v,H',os,bare,un,hok',r',q⟩:=h;have q':v = .bl true:=q;subst q';obtain rfl:u=abx true:=r';refine⟨U,OldK.of_keep fun b o e=>?_,os,bare⟩;cases q:H b with
    | none=>exact un.keep b o e q (by intro z;exact absurd (show b∈([]:DM) from z) (by simp)) (by simp)
    | some u =>
     rcases hO b with z | ⟨ob,xs,z⟩;{rw[q] at z;cases z};{have z2:=un.frzs b ob _ z;obtain⟨e1,_⟩:=hok b _ z;obtain⟨e2,_⟩:=hok' b _ z2;rw[e] at e1;cases e1;exact e2}
 cases hk:K.lookup a with
 | some o =>
  have e:=KX a o hk;rw[ha] at e;cases e;refine core (fun _=>none) (fun _=>.inl U) (.inr ⟨_,vs.toArray,_,hk,U,U,U,by rw[Wd,lenV];exact hl,by simpa using rv⟩) (fun b u z=>by have z':(none:Option HO)=some u:=z;cases z') (fun b z=>absurd rfl z) fun z=>absurd rfl z
 | none =>
  refine core (fun b=>if b=a then some (.frz { cls:=.type "list",data:=.seq vs.toArray } (.lst (ns.map V.int))) else none) (fun b=>?_) (.inl (.inr ⟨{ cls:=.type "list",data:=.seq vs.toArray },if_pos U⟩)) (fun b u z=>?_) (fun b z=>?_) fun _=>hk
  ·by_cases hb:b=a;{exact .inr ⟨_,_,if_pos hb⟩};{exact .inl (if_neg hb)}
  ·by_cases hb:b=a;{have z':=(if_pos hb).symm.trans z;cases z';subst hb;exact⟨ha,by rw[VH];exact hl,vs,_,rv,ha⟩};{have z':=(if_neg hb).symm.trans z;cases z'}
  ·by_cases hb:b=a;{exact hb};{exact absurd (if_neg hb) z}
def O9 {l:PySem.W.OpenLaw}{n k:Nat}{q:Wi}{loose:D0}{XP:(Wt->DE)->WT->Prop}{YP:Wy->WT->Prop}{d:DefRec}{K:Params->V8}{CX:Wy->CXT}{sp:Wy->Sp}{x:Wt}
  (hn:l.most=some n) (hn2:n<=sizeLine) (hdf:d.params.defaults=[]) (hr:iD k aco)
  (hY:∀ (w:Wy) (h:WT),YP w h->(K w.params).In h)
  (F:∀ (w:Wy) (mg:Wt->DE) (fa:Addr) (h:WT),(K w.params).In h->h.Ns Wm mg->mg d.name=some (.ref fa) →
   ∃ fd:Xp,(∀ (s:VL) (u:Value),abX s fd ⟨[u],[]⟩ [(x,u)]) ∧
    ∀ base:WT,(K w.params).In base->base.Ns Wm mg->bh l.prog w (K w.params) mg base (CX w) k fa fd [x] (sp w))
  (hsp:∀ (w:Wy) (H:Hp) (a:Addr) (ns:DU),ns.length<=n->Only H->SqL (K w.params) H a (ns.map V.int)->sp w [.ref a] H (fun v _=>v = .bl true) fun _ _ _=>False)
  (hCX:∀ (w:Wy) (H:Hp) (s:VL) (e:Value) (s':VL),CX w [] H s (fun _ _ _=>False) e s'->False) :
  PySem.W.WalkO q loose XP YP l.row.toRowW d [] (fun f vs=>PySem.call f vs):=by
 refine Att.Al hn hdf fun w s₀ s₁ mg mb fa o pm cd doc a vs ns G Y ho hd hcd hmg hobj hints hlen hg=>?_;have KX:=hY w _ Y;obtain⟨fd,hb,hF⟩:=F w mg fa _ KX G.T.g hmg;exact Ms KX G.T.g G.T.b G.T.builtins G.T.nolimit hg hobj hints (Wn hlen hn2) hr hF hb (fun H hO hS=>hsp w H a ns hlen hO hS) fun H e s'=>hCX w H s₁ e s'
def inClass (s:Stmt)(j:Nat):Stmt:=match s with
 | .ClassDef _ _ _ body _ _ _ _ _ _ _=>body.getD j (.Pass ⟨0,0,0,0⟩)
 | _=>.Pass ⟨0,0,0,0⟩
def d7 (s:Stmt):Arguments:=match s with
 | .FunctionDef _ a _ _ _ _ _ _ _ _=>a
 | _=>{ posonlyargs:=[],args:=[],vararg:=none,kwonlyargs:=[],kw_defaults:=[],kwarg:=none,defaults:=[] }
def cZ (s:Stmt):DS:=match s with
 | .FunctionDef _ _ b _ _ _ _ _ _ _=>b
 | _=>[]
def aA (s:Stmt):YH:=match s with
 | .FunctionDef _ _ _ _ _ _ sc _ _ _=>sc
 | _=>{ kind:=.function,names:=[],isGenerator:=false,isCoroutine:=false }
abbrev CX0:CXT:=fun _ _ _ _ _ _=>False
abbrev E0:XK:=fun _ _ _=>False
def nF {X:Cx}:Passes CX0 X E0:=fun _ _ _ _ _ _ _ h=>h.elim
structure Fun (K:V8)(x qual:Wt)(st:Stmt)(f:Addr)(fd:Xp):Prop where
 ex:∃ (oc:Value) (od:DH) (kV doc pm:Value) (an:DH) (cdv ct:Value) (osl:Array (DE)),
  fd=Z6 x qual (d7 st) (cZ st) (aA st) .none kV doc pm an cdv ct/\K.lookup f=some ⟨oc,od,.func fd,osl⟩/\aa3 K cdv qual=true
 kp:Yb K (.ref f)=true
section
variable {P:Wi}{w:Wy}{K:V8}{mg:Wt->Option Value}{base:WT}
def Fun.ok {x qual:Wt}{st:Stmt}{f:Addr}{fd:Xp}{N ps:D0}{k:Nat}{sp:Sp}(F:Fun K x qual st f fd)(S:aB N ps (aA st))(len:∀ vs H Q E,sp vs H Q E->vs.length=ps.length)
  (hbody:∀ (cdv:Value) (A:WM) (outer:DT) (s:VL) (H:Hp) (vs:List V) (Q:VK) (E:XK),iD k (A.deeper (envOfC qual (aA st) s.heap.objs.size f cdv))->sp vs H Q E →
   ∃ t,PSs (Gy CX0 P w K mg base N qual (aA st) f cdv A outer s H E).nox (cZ st) t/\t { nx:=fun _ H'=>Q .non H',rt:=Q } (start N vs) H):bh P w K mg base CX0 (k+1) f fd ps sp:=by
 obtain⟨oc,od,kV,doc,pm,an,cdv,ct,osl,rfl,lk,hcd⟩:=F.ex;refine S6 lk hcd S len fun A outer s H vs Q E hr hsp=>?_;obtain⟨t,h,q⟩:=hbody cdv A outer s H vs Q E hr hsp;exact⟨t,h.nox,q⟩
def Fun.binds {x qual:Wt}{st:Stmt}{f:Addr}{fd:Xp}{ps:D0}(F:Fun K x qual st f fd)
  (h:∀ (kV doc pm:Value) (an:DH) (cdv ct:Value) (us:DJ),us.length=ps.length->abL (Z6 x qual (d7 st) (cZ st) (aA st) .none kV doc pm an cdv ct) ⟨us,[]⟩=pure (ps.zip us)):Binds K fd ps []:=by
 obtain⟨oc,od,kV,doc,pm,an,cdv,ct,osl,rfl,lk,hcd⟩:=F.ex;exact .all (h kV doc pm an cdv ct)
def sU {x qual:Wt}{st:Stmt}{f:Addr}{oc:Value}{od an:DH}{osl:Array (DE)}{kV doc pm cdv ct:Value}(l:K.lookup f=some ⟨oc,od,.func (Z6 x qual (d7 st) (cZ st) (aA st) .none kV doc pm an cdv ct),osl⟩)
  (c:aa3 K cdv qual=true) (k:Yb K (.ref f)=true):Fun K x qual st f (Z6 x qual (d7 st) (cZ st) (aA st) .none kV doc pm an cdv ct):=⟨⟨oc,od,kV,doc,pm,an,cdv,ct,osl,U,l,c⟩,k⟩
end
def aH {n:Nat}(h:n<=1000):n < sizeLine:=acd h (by decide)
section
variable {X:Cx}
def pv (i:Nat){x:Wt}{pos:ZX}(hN:X.N[i]? = some x:=by rfl)(hv:Vis X.env.scope x:=by first | exact aas rfl | exact aao (aas rfl) | exact aao (aao rfl))(hd:(x == ("__debug__" : Wt))=false:=by decide)
  (hcd:(x == ("__classdict__" : Wt))=false:=by decide):PE X (.Name x pos) (yU i):=Ro hN hv hd hcd
end
def bU {A B:Prop}(h:B):if false=true then A else B:=by
 rw[if_neg VR];exact h
def dh {A B:Prop}(h:A):if true=true then A else B:=by
 rw[if_pos U];exact h
def kI {c A B:Prop}[Decidable c](h1:c->A)(h2:¬ c->B):if c then A else B:=by
 by_cases h:c;{rw[if_pos h];exact h1 h};{rw[if_neg h];exact h2 h}
def aG (H H':Hp):Prop:=∀ b o,H b=some o->H' b=some o
def aG.refl (H:Hp):aG H H:=fun _ _ h=>h
def aG.trans {H H1 H2:Hp}(a:aG H H1)(b:aG H1 H2):aG H H2:=fun c o h=>b c o (a c o h)
def aG.free {H H':Hp}(e:aG H H'){l:Addr}(h:H' l=Option.none):H l=Option.none:=by
 cases q:H l with
 | none=>rfl
 | some o =>
  rw[e l o q] at h;cases h
def aG.seq {K:V8}{H H':Hp}{a:Addr}{xs:List V}(e:aG H H')(h:SqL K H a xs):SqL K H' a xs:=by
 rcases h with (h | ⟨o,h⟩) | h;{exact .inl (.inl (e _ _ h))};{exact .inl (.inr ⟨o,e _ _ h⟩)};{exact .inr h}
end L2
set_option maxHeartbeats 4000000
namespace L2
open PySem PySem.Spec PyProof.Rows
theorem Ay {env:Env}:∀ {names:List (Wt × aa5)} {x:Wt},names.lookup x=some .free →
  (names.map fun (n,k)=>if (k == Yd && env.scope.kind == .function && env.kindOf n == some .cell) then (n,aaD) else (n,k)).lookup x=some .cell ∨
  (names.map fun (n,k)=>if (k == Yd && env.scope.kind == .function && env.kindOf n == some .cell) then (n,aaD) else (n,k)).lookup x=some .free
 | [],_,h=>by simp at h
 | (n,k)::r,x,h=>by
  have ih:=@Ay env r x;rw[WR];cases hx:x == n with
  | true =>
   rw[W8,hx] at h;cases h;by_cases hc:(Yd == Yd && env.scope.kind == .function && env.kindOf n == some .cell)=true;{refine .inl ?_;dsimp only;rw[if_pos hc,W8,hx]};{refine .inr ?_;dsimp only;rw[if_neg hc,W8,hx]}
  | false =>
   rw[W8,hx] at h;dsimp only;by_cases hc:(k == Yd && env.scope.kind == .function && env.kindOf n == some .cell)=true;{rw[if_pos hc,W8,hx];exact ih h};{rw[if_neg hc,W8,hx];exact ih h}
theorem sY {env:Env}:∀ {names:List (Wt × aa5)} {x:Wt} {k':aa5},
  (names.map fun (n,k)=>if (k == Yd && env.scope.kind == .function && env.kindOf n == some .cell) then (n,aaD) else (n,k)).lookup x=some k'->names.lookup x=some k'∨names.lookup x=some .free
 | [],_,_,h=>by simp at h
 | (n,k)::r,x,k',h=>by
  have ih:=@sY env r x k';rw[WR] at h;dsimp only at h;cases hx:x == n with
  | true =>
   rw[W8,hx];by_cases hc:(k == Yd && env.scope.kind == .function && env.kindOf n == some .cell)=true
   ·have hk:k = .free:=by
     rw[Xl,Xl] at hc;exact eq_of_beq hc.1.1
    exact .inr (by rw[hk])
   ·rw[if_neg hc,W8,hx] at h;exact .inl h
  | false =>
   rw[W8,hx];by_cases hc:(k == Yd && env.scope.kind == .function && env.kindOf n == some .cell)=true;{rw[if_pos hc,W8,hx] at h;exact ih h};{rw[if_neg hc,W8,hx] at h;exact ih h}
theorem zX {env:Env}:∀ (names:List (Wt × aa5)) (acc:DA),(∀ y∈names,y.2 = .free->∃ c,env.cells.lookup y.1=some c)->(∀ n c,acc.lookup n=some c->env.cells.lookup n=some c) →
  ∃ cl,(forIn names acc (fun (x:Wt × aa5) (r:DA)=>(match x with | (name,kind)=>if (kind == Yd)=true then (do let c ← cellOf env name;pure (aam ((name,c)::r))) else pure (aam r):Sem (ForInStep (DA)))))=pure cl ∧
   (∀ n c,cl.lookup n=some c->env.cells.lookup n=some c)/\(∀ n c,acc.lookup n=some c->∃ c',cl.lookup n=some c')/\∀ y∈names,y.2 = .free->∃ c,cl.lookup y.1=some c
 | [],acc,_,h=>⟨acc,by rw[abR],h,fun _ c e=>⟨c,e⟩,fun y hy=>by simp at hy⟩
 | (n,k)::r,acc,hf,h=>by
  rw[ac5];dsimp only;by_cases hk:(k == Yd)=true
  ·rw[if_pos hk];have hk':k = .free:=eq_of_beq hk;obtain⟨c,hc⟩:=hf (n,k) V0 hk';have hc:env.cells.lookup n=some c:=hc;have ec:cellOf env n=pure c:=by unfold cellOf;rw[hc]
   have h2:∀ m d,((n,c)::acc).lookup m=some d->env.cells.lookup m=some d:=fun m d e=>by
    rw[W8] at e;cases hx:m == n with
    | true=>rw[hx] at e;cases e;rw[eq_of_beq hx];exact hc
    | false=>rw[hx] at e;exact h m d e
   obtain⟨cl,e1,e2,e3,e4⟩:=zX r ((n,c)::acc) (fun y hy=>hf y (V7 _ hy)) h2;refine⟨cl,by rw[ec,pure_bind,pure_bind];exact e1,e2,fun m d e=>?_,fun y hy hyf=>?_⟩;{refine (match hx:m == n with | true=>e3 m c (by rw[W8,hx]) | false=>e3 m d (by rw[W8,hx];exact e))}
   ·rcases List.mem_cons.mp hy with rfl | hy;{exact e3 n c (by rw[W8,beq_self_eq_true])};{exact e4 y hy hyf}
  ·rw[if_neg hk];obtain⟨cl,e1,e2,e3,e4⟩:=zX r acc (fun y hy=>hf y (V7 _ hy)) h;refine⟨cl,by rw[pure_bind];exact e1,e2,e3,fun y hy hyf=>?_⟩;rcases List.mem_cons.mp hy with rfl | hy;{exact absurd (by rw[show k=Yd from hyf];rfl) hk};{exact e4 y hy hyf}
def vz {scope:YH}{env:Env}(h:∀ y∈scope.names,y.2 = .free->∃ c,env.cells.lookup y.1=some c) :
  ∃ cl,closureFor scope env=pure cl/\(∀ n c,cl.lookup n=some c->env.cells.lookup n=some c)/\∀ y∈scope.names,y.2 = .free->∃ c,cl.lookup y.1=some c:=by
 obtain⟨cl,e1,e2,_,e4⟩:=zX scope.names [] h (fun _ _ e=>by simp at e);refine⟨cl,?_,e2,e4⟩;unfold closureFor
 first
  | exact e1
  | (rw[← bind_pure (x:=pure cl),← e1];rfl)
  | (simp only[bind_pure];exact e1)
def bD (X:Cx)(scope:YH)(cl:DA)(C:Addr)(N:D0)(s:VL)(H:Hp)(fp:DM):Cx :=
 {X with N:=N,s₀:=s,H₀:=H,env:=aa1 scope cl C X.env,outer:=X.stack,ex:=fp,fn:=fun _=>false,pn:=[],xe:=fun _ _=>False }
structure sH (X:Cx)(scope:YH)(F:D0)(cap:DV):Prop where
 kind:scope.kind = .function
 cell:∀ y∈scope.names,y.2≠.cell
 nms:∀ y∈scope.names,y.2 = .local->scope.names.lookup y.1=some .local
 fr:∀ y∈scope.names,y.2 = .free->X.env.kindOf y.1=some .cell∨X.env.kindOf y.1=some .free
 len:cap.length=F.length
 at':∀ (k:Nat) (x:Wt),F[k]? = some x->∃ i,cap[k]? = some i/\X.N[i]? = some x/\scope.names.lookup x=some .free
def PTs (X:Cx)(ifs:DO)(t:TT):Prop :=
 ∀ (ZY:Do) (s:VL) (σ:St) (H:Hp) (Q:Bool->Hp->Prop),Inv X ZY σ H s->t σ H Q →
  V2 (Wb X.prog X.w) X.A (forIn ifs true fun c r=>if r=true then do let ok ← isTrue c X.env (Xw c X.env);pure (aam ok) else pure (aam r)) (TP X ZY σ Q) X.xe s
def JS:TT:=fun _ H Q=>Q true H
def bI {X:Cx}:PTs X [] JS:=fun _ _ _ H _ I h=>wpAny_tests_nil ⟨H,I,h⟩
def jk {X:Cx}{c:Expr}{t:TT}(hc:PT X c t):PTs X [c] t:=fun ZY s σ H Q I h=>wpAny_tests_one (hc ZY s σ H Q I h)
def uJ {prog:Wi}{w:Wy}{A:WM}{R:abg->VL->Prop}{s:VL}{elt target iter:Expr}{ifs:DO}{scope:YH}{pos:ZX}{it acc:Value}{env:Env}(I:Nat->VL->Prop)
  (turn:∀ n s,I n s->V2 (Wb prog w) A (Y0 it) (fun r s₁=>match r with
   | none=>R (.ok .next) s₁
   | some v=>V2 (Wb prog w) A (Y5 target it v) (fun _ s₀=>V2 (Wb prog w) A (abw target env v) (fun _ s₂ =>
     V2 (Wb prog w) A (forIn ifs true fun c r=>if r=true then do let ok ← isTrue c env (Xw c env);pure (aam ok) else pure (aam r)) (fun ok s₃ =>
      if ok=true then V2 (Wb prog w) A (Xw elt env) (fun x s₄=>V2 (Wb prog w) A (call (.builtin "list.append") [acc,x]) (fun _ s₅=>∃ m,m < n/\I m s₅) (fun _ _=>False) s₄) (fun _ _=>False) s₃
      else ∃ m,m < n/\I m s₃) (fun _ _=>False) s₂) (fun _ _=>False) s₀) (fun _ _=>False) s₁) (fun _ _=>False) s)
  (n:Nat) (h:I n s):XJ (Wb prog w) A (.compLoop (.ListComp elt [⟨target,iter,ifs,0⟩] scope pos) 0 it acc env) R s:=by
 have no:∀ {E:DC} (x:Value) (s':VL),(fun (_:Value) (_:VL)=>False) x s'->E x s':=fun _ _ z=>z.elim;refine codeAny_loop U I (fun n s hI=>?_) n h;refine (show V2 (Wb prog w) A ((compTurn (.ListComp elt [⟨target,iter,ifs,0⟩] scope pos) 0 it acc env).onRaise (fun x=>do aaW x env;acZ x)) _ _ s from wpAny_noted ?_);rw[compTurn_list];refine VG (YQ (VG (W7 (turn n s hI) (fun r s₁ h₁=>?_) no)));cases r with
 | none=>exact VM h₁
 | some v =>
  refine VG (W7 h₁ (fun _ s₀ h₀=>VG (W7 h₀ (fun _ s₂ h₂=>VG (W7 h₂ (fun ok s₃ h₃=>?_) no)) no)) no);cases ok with
  | false=>exact VM ⟨U,h₃⟩
  | true=>exact VG (VG (W7 h₃ (fun x s₄ h₄=>VG (W7 h₄ (fun _ s₅ h₅=>VM (VM ⟨U,h₅⟩)) no)) no))
def iU (D:Addr)(σ0:St)(J:It)(g:TG)(tt:TT)(te:TE)(H1:Hp)(Q:Hp->Prop):Prop :=
 ∃ W:Nat->Nat->List V->St->Hp->Prop,(∃ m,W 0 m [] σ0 (upd H1 D (.lst []))) ∧
  ∀ i m ys σ' H',W i m ys σ' H'->H' D=some (.lst ys)/\((J.stop i H'/\Q H')∨(J.go i H'/\∃ N:List V->St->Hp->Prop,(∀ zs σ2 H2,N zs σ2 H2->∃ m',m' < m/\W (i+1) m' zs σ2 H2) ∧
   ∀ x H2,J.yld i H' x H2->g x σ' H2 fun σ3 H3=>tt σ3 H3 fun b H4=>if b=true then te σ3 H4 fun y H5=>H5 D=some (.lst ys)/\ys.length < sizeLine/\N (ys++[y]) σ3 (upd H5 D (.lst (ys++[y]))) else N ys σ3 H4))
def HJ (n:Nat)(cap:DV)(σ:St):St:=WK n none++cap.map fun i=>(σ[i]?).join
def Rb (n:Nat)(cap:DV)(wi:TI)(g:TG)(tt:TT)(te:TE):TE:=fun σ H Q=>wi σ H fun J H1=>∀ D,H1 D=none->iU D (HJ n cap σ) J g tt te H1 fun H2=>Q (.ref D) H2
section
variable {X:Cx}{elt tg iter:Expr}{ifs:DO}{scope:YH}{pos:ZX}{L F:D0}{cap:DV}{wi:TI}{g:TG}{tt:TT}{te:TE}
def su {ZY:Do}{σ:St}{H:Hp}{s:VL}(I:Inv X ZY σ H s){b:Addr}(h1:b≠X.env.locals)(h2:b ∉ X.fs):b ∉ frs X.stack:=fun z=>(List.mem_cons.mp (I.yG b z)).elim h1 h2
def uO {cl:DA}{ZY:Do}{σ:St}{H:Hp}{s:VL}{fp:DM}{h₁:WT}{tk:Nat}(ok:sH X scope F cap)(I:Inv X ZY σ H s)(hfp:∀ b∈fp,uv X ZY H b/\b < s.heap.objs.size)
  (sub:∀ n c,cl.lookup n=some c->X.env.cells.lookup n=some c) (all:∀ y∈scope.names,y.2 = .free->∃ c,cl.lookup y.1=some c)
  (ns:h₁.Ns s.heap.objs.size fun _=>none) (kp:∀ b o,s.heap.get? b=some o->h₁.get? b=some o) :
  Inv (bD X scope cl s.heap.objs.size (L++F) s H fp) [] (HJ L.length cap σ) H { s with heap:=h₁,toks:=tk }:=by
 have frk:∀ x,scope.names.lookup x=some .free->X.env.kindOf x=some .cell∨X.env.kindOf x=some .free:=fun x e=>ok.fr (x,.free) (Xi e) U;have okX:(bD X scope cl s.heap.objs.size (L++F) s H fp).Ok:=by
  refine⟨I.ok.mod,ok.kind,I.ok.glob,I.ok.blt,VP _,fun x y c e1 e2=>I.ok.inj x y c (sub x c e1) (sub y c e2),fun x hx=>?_,fun x c hx _=>?_,I.ok.hd,I.ok.frames,.inl U,fun b hb=>?_,I.bs,Wn I.ok.bsz I.sz,fun b o e hb=>?_,fun b hb=>?_,I.stack,I.vQ⟩
  ·have e:scope.names.lookup x=some .free:=by
    rcases hx with hx | hx
    ·rcases sY (env:=X.env) (show _=some aaD from hx) with e | e;{exact absurd U (ok.cell _ (Xi e))};{exact e}
    ·rcases sY (env:=X.env) (show _=some Yd from hx) with e | e <;> exact e
   exact all (x,.free) (Xi e) U
  ·exact absurd (show false=true from hx) VR
  ·exact⟨Wh (hfp b hb).2,fun x c e=>(hfp b hb).1.2.2.2.2.1 x c (sub x c e)⟩
  ·obtain⟨_,_,_,f3,_⟩:=(hfp b hb).1;rcases f3 with z | z;{exact I.ok.noex b o e z};{exact absurd (V4 (V9 e) (Wn I.ok.bsz z)) (Xa _)}
  ·obtain⟨_,f1,f2,_⟩:=(hfp b hb).1;exact su I f1 f2
 refine⟨okX,U,I.bare,Un.kept kp,⟨_,ns,fun i x v e1 e2 e3=>?_⟩,fun x c e=>?_,I.hok.fresh (VP _),fun x c e=>I.freeC x c (sub x c e),fun p hp=>absurd (show p∈([]:Do) from hp) (by simp),I.hok.kept kp,?_⟩
 ·have e1:(L++F)[i]? = some x:=e1;have e2:(WK L.length none++cap.map fun i=>(σ[i]?).join)[i]? = some (some v):=e2;have hL:¬ i < L.length:=fun hi=>by
   rw[aa8 (by simpa using hi),aaq] at e2;split at e2 <;> cases e2
  have hi:L.length<=i:=acN hL;rw[Yw hi] at e1;rw[Yw (by simpa using hi),X7,Wf] at e2;obtain⟨j,hj,hN,hk⟩:=ok.at' _ _ e1;rw[hj] at e2;have e4:(σ[j]?).join=some v:=by simpa using e2
  have e5:σ[j]? = some (some v):=by
   cases q:σ[j]? with
   | none=>rw[q] at e4;cases e4
   | some a=>rw[q] at e4;exact congrArg some e4
  obtain⟨m,hn,hl⟩:=I.loc;have kd:=frk x hk;obtain⟨u,r,lk⟩:=hl j x v hN e5 (kd.elim (fun z=>.inr (.inl z)) fun z=>.inr (.inr z));obtain⟨c,hc,hcell⟩:∃ c,X.env.cells.lookup x=some c/\s.heap.IsCell c (some u):=by
   rcases lk with⟨z,_⟩ | ⟨_,c,z1,z2⟩;{rcases kd with y | y <;> (rw[y] at z;cases z)}
   ·exact⟨c,z1,z2⟩
  obtain⟨c',hc'⟩:=all (x,.free) (Xi hk) U;have ec:c'=c:=by
   have:=sub x c' hc';rw[hc] at this;exact (WL this).symm
  subst ec;obtain⟨o,ho,hd⟩:=hcell;exact⟨u,r,.inr ⟨(Ay (env:=X.env) hk),c',hc',o,kp _ _ ho,hd⟩⟩
 ·obtain⟨v,o,ho,hd⟩:=I.cell x c (sub x c e);exact⟨v,o,kp _ _ ho,hd⟩
 ·show (WK L.length (none:Option V)++cap.map fun i=>(σ[i]?).join).length=(L++F).length;rw[V6,V6,X7,VH,ok.len]
def BJ {cl:DA}{ZY:Do}{σ:St}{s2:VL}{H2:Hp}{it:Addr}{fp:DM}{tn:Nat->WT->Prop}{J:It}{use:C8}{QQ:DC}{Z:Hp->Prop}{E:DC}
  (hc:X.calm=true) (ok:sH X scope F cap)
  (sub:∀ n c,cl.lookup n=some c->X.env.cells.lookup n=some c) (all:∀ y∈scope.names,y.2 = .free->∃ c,cl.lookup y.1=some c)
  (hg:∀ cl C s H fp,PG (bD X scope cl C (L++F) s H fp) tg g) (ht:∀ cl C s H fp,PTs (bD X scope cl C (L++F) s H fp) ifs tt) (he:∀ cl C s H fp,PE (bD X scope cl C (L++F) s H fp) elt te)
  (I2:Inv X ZY σ H2 s2) (T:Turn X.prog X.w X.K tg J fp it tn) (st2:tn 0 s2.heap) (f2:∀ b∈fp,uv X ZY H2 b)
  (q2:iU s2.heap.objs.size (HJ L.length cap σ) J g tt te H2 Z)
  (fin:∀ (C:Addr) (s':VL) (H':Hp),Z H'->Inv X ZY σ H' s'->(∃ m,s'.heap.Ns C m)->H' C=none->C≠X.env.locals->X.s₀.heap.objs.size<=C->(∀ x c,X.env.cells.lookup x=some c->c≠C)->(∀ p∈X.pn++ZY,p.1≠C) →
   aae (Wb X.prog X.w) X.A E use QQ (.ref s2.heap.objs.size) C (.ok .next) s') :
  V2 (Wb X.prog X.w) X.A (ada []) (fun acc s₃=>V2 (Wb X.prog X.w) X.A (aa0 scope X.env.globals cl [] X.env.qual none .none (some X.env)) (fun cenv s₄ =>
   XJ (Wb X.prog X.w) X.A (.compStart (.ListComp elt [⟨tg,iter,ifs,0⟩] scope pos) 0 (.ref it) acc { cenv with scope:=relabel scope X.env }) (aae (Wb X.prog X.w) X.A E use QQ acc cenv.locals) s₄) E s₃) E s2:=by
 have hD:H2 s2.heap.objs.size=none:=I2.fresh;refine Wx (wpAny_newFunctionEnv ok.cell (by intro y hy;simp at hy) (fun h₁ hns₁ hsb₁=>?_) ok.kind);dsimp only at hns₁ hsb₁ ⊢;have I3:Inv X ZY σ (upd H2 s2.heap.objs.size (.lst [])) { s2 with heap:=s2.heap.push { cls:=.type "list",data:=.seq ([]:DJ).toArray } }:=I2.Su (t':=s2.toks) (ys:=[]) (its:=[]) .nil (Wz _);have blt:∀ b∈fp,b < s2.heap.objs.size:=fun b hb=>let ⟨_,e,_⟩:=T.obj 0 _ st2 b hb;V9 e;have szC:(s2.heap.push { cls:=.type "list",data:=.seq ([]:DJ).toArray }).objs.size=s2.heap.objs.size+1:=WY _ _;generalize hs3:({ s2 with heap:=s2.heap.push { cls:=.type "list",data:=.seq ([]:DJ).toArray } }:VL)=s3 at I3;have es3:s3.heap=s2.heap.push { cls:=.type "list",data:=.seq ([]:DJ).toArray }:=by rw[← hs3]
 have eos:s3.os=s2.os:=by rw[← hs3]
 have fok:∀ b∈fp,uv X ZY (upd H2 s2.heap.objs.size (.lst [])) b/\b < s3.heap.objs.size:=fun b hb=>by
  obtain⟨f0,fr⟩:=f2 b hb;refine⟨⟨by rw[aL (Wh (blt b hb))];exact f0,fr⟩,?_⟩;rw[es3,szC];exact WX (blt b hb)
 have hkp:∀ b o,s3.heap.get? b=some o->h₁.get? b=some o:=fun b o e=>by
  have e':b < s3.heap.objs.size:=V9 e;rw[es3] at e e';exact (hsb₁.2 b (Wh e')).trans (VJ _ e)
 have hns:h₁.Ns s3.heap.objs.size fun _=>none:=by
  rw[es3];exact hns₁
 have I4:∀ tk,Inv (bD X scope cl s3.heap.objs.size (L++F) s3 (upd H2 s2.heap.objs.size (.lst [])) fp) [] (HJ L.length cap σ) (upd H2 s2.heap.objs.size (.lst [])) { s3 with heap:=h₁,toks:=tk }:=fun tk =>
  uO (L:=L) ok I3 fok sub all hns hkp
 have stat:∀ {H':Hp},(∀ b∈fp,H' b=none)->∀ b∈fp,uv (bD X scope cl s3.heap.objs.size (L++F) s3 (upd H2 s2.heap.objs.size (.lst [])) fp) [] H' b:=fun {H'} hn b hb=>by
  obtain⟨⟨_,g1,g2,g3,g4,g5⟩,g6⟩:=fok b hb;exact⟨hn b hb,Wh g6,su I3 g1 g2,.inl hb,fun x c e=>g4 x c (sub x c e),fun p hp=>absurd (show p∈([]:Do) from hp) (by simp)⟩
 have loop:∀ tk,XJ (Wb X.prog X.w) X.A (.compLoop (.ListComp elt [⟨tg,iter,ifs,0⟩] scope pos) 0 (.ref it) (.ref s2.heap.objs.size) (aa1 scope cl s3.heap.objs.size X.env))
   (aae (Wb X.prog X.w) X.A E use QQ (.ref s2.heap.objs.size) s3.heap.objs.size) { s3 with heap:=h₁,toks:=tk }:=fun tk=>by
  obtain⟨W,⟨m0,w0⟩,turn⟩:=q2;have st3:tn 0 h₁:=T.keep 0 _ _ st2 fun b hb o e=>hkp b o (by rw[es3];exact VJ _ e);refine uJ (fun n s'=>∃ i ys σ' H',Inv (bD X scope cl s3.heap.objs.size (L++F) s3 (upd H2 s2.heap.objs.size (.lst [])) fp) [] σ' H' s'/\tn i s'.heap/\(∀ b∈fp,H' b=none)/\W i n ys σ' H') ?_ m0
   ⟨0,[],_,_,I4 tk,st3,fun b hb=>(fok b hb).1.1,w0⟩
  rintro n s5 ⟨i,ys,σ5,H5,I5,st5,fr5,w5⟩;obtain⟨hDl,alt⟩:=turn i n ys σ5 H5 w5;rcases alt with⟨stop,qz⟩ | ⟨go,N,hN,step⟩
  ·refine thn (T.done (bD X scope cl s3.heap.objs.size (L++F) s3 (upd H2 s2.heap.objs.size (.lst [])) fp) U U U hc i [] s5 σ5 H5 _ I5 (stat fr5) st5 stop) fun r s6 ⟨hr,I6⟩=>?_;subst hr;have un:Un (frs X.stack) fp H2 H5 s2.heap s6.heap:=by
    have u1:Un (frs X.stack) fp H2 (upd H2 s2.heap.objs.size (.lst [])) s2.heap s3.heap:=by
     rw[es3];exact Un.laid (fun _ _ q=>VJ _ q) (VP _) hD
    exact u1.trans I6.base
   have J1:Inv X ZY σ H5 s6:=I2.call' (I6.os.trans eos) un I6.hok I6.bare fun b hb=>by
    obtain⟨_,g1,_,g3,g4,g5⟩:=f2 b hb;exact⟨g3,g1,g4,g5⟩
   have hC:s2.heap.objs.size<=s3.heap.objs.size:=by rw[es3,szC];exact Xx _
   obtain⟨m,hm,_⟩:=I6.loc;refine fin s3.heap.objs.size s6 H5 qz J1 ⟨m,hm⟩ I6.free (X5 (V4 I2.lt hC)) (Wn I2.sz hC) (fun x c e z=>?_) (fun p hp z=>?_);{obtain⟨v,q⟩:=I2.cell x c e;exact absurd (V4 q.lt (by rw[z];exact hC)) (Xa _)};{exact absurd (V4 (V9 (I2.pin p hp).1) (by rw[z];exact hC)) (Xa _)}
  ·refine thn (T.item (bD X scope cl s3.heap.objs.size (L++F) s3 (upd H2 s2.heap.objs.size (.lst [])) fp) U U U hc i [] s5 σ5 H5 _ I5 (stat fr5) st5 go) fun r s6 ⟨u,hr,h6⟩=>?_;subst hr;refine thn h6 fun _ s7 ⟨x,H7,I7,r7,y7,st7,fr7⟩=>?_;have I7':=I7.pinned (stat fr7) (T.obj _ _ st7);refine thn (hg _ _ _ _ _ _ s7 σ5 H7 x u _ I7' r7 (step x H7 y7)) fun _ s8 ⟨σ8,H8,I8,q8⟩=>?_;have again:∀ {σ9:St} {H9:Hp} {s9:VL} {zs:List V},Inv (bD X scope cl s3.heap.objs.size (L++F) s3 (upd H2 s2.heap.objs.size (.lst [])) fp) ([]++nQ fp s7.heap) σ9 H9 s9->N zs σ9 H9 →
     ∃ m,m < n/\∃ i ys σ' H',Inv (bD X scope cl s3.heap.objs.size (L++F) s3 (upd H2 s2.heap.objs.size (.lst [])) fp) [] σ' H' s9/\tn i s9.heap/\(∀ b∈fp,H' b=none)/\W i m ys σ' H':=fun {σ9 H9 s9 zs} I9 n9=>by
    obtain⟨m',hm,w9⟩:=hN zs σ9 H9 n9;refine⟨m',hm,i+1,zs,σ9,H9,I9.jy,T.keep _ _ _ st7 fun b hb o e=>(I9.pin (b,o) (Wq _ (Wq _ (cQ hb e)))).1,fun b hb=>?_,w9⟩;obtain⟨o,e,d⟩:=T.obj _ _ st7 b hb;exact (I9.pin (b,o) (Wq _ (Wq _ (cQ hb e)))).2.1
   refine thn (ht _ _ _ _ _ _ s8 σ8 H8 _ I8 q8) fun okb s9 ⟨H9,I9,q9⟩=>?_;cases okb with
   | false =>
    rw[if_neg VR] at q9 ⊢;exact again I9 q9
   | true =>
    rw[if_pos U] at q9 ⊢;refine thn (he _ _ _ _ _ _ s9 σ8 H9 _ I9 q9) fun y s10 ⟨yv,H10,I10,r10,e10,z10,n10⟩=>?_;refine thn (cI _ s10 σ8 H10 (.ref s2.heap.objs.size) [yv] (.ref s2.heap.objs.size) [y] (fun _ H'=>N (ys++[yv]) σ8 H') I10 U (.cons r10 .nil) ⟨_,ys,yv,U,U,e10,z10,n10⟩) fun _ s11 ⟨_,H11,I11,_,n11⟩=>?_;exact again I11 n11
 have eC:(s2.heap.push { cls:=.type "list",data:=.seq ([]:DJ).toArray }).objs.size=s3.heap.objs.size:=by rw[es3]
 have goal:∀ tk,XJ (Wb X.prog X.w) X.A (.compStart (.ListComp elt [⟨tg,iter,ifs,0⟩] scope pos) 0 (.ref it) (.ref s2.heap.objs.size) (aa1 scope cl s3.heap.objs.size X.env))
   (aae (Wb X.prog X.w) X.A E use QQ (.ref s2.heap.objs.size) s3.heap.objs.size) { s3 with heap:=h₁,toks:=tk }:=fun tk =>
  abv (loop tk) (T.self _ 0 _ _ _ (T.keep 0 _ _ st2 fun b hb o e=>hkp b o (by rw[es3];exact VJ _ e)) (loop tk))
 have g0:=goal (s2.toks+([]:Db).length);subst hs3;exact g0
def bC (hc:X.calm=true)(ok:sH X scope F cap)(hi:PI X tg iter wi)
  (hg:∀ cl C s H fp,PG (bD X scope cl C (L++F) s H fp) tg g) (ht:∀ cl C s H fp,PTs (bD X scope cl C (L++F) s H fp) ifs tt) (he:∀ cl C s H fp,PE (bD X scope cl C (L++F) s H fp) elt te)
  (hs:∀ x,Yt iter X.env x=pure x:=by intro _;rfl):PE X (.ListComp elt [⟨tg,iter,ifs,0⟩] scope pos) (Rb L.length cap wi g tt te):=by
 intro ZY s σ H Q I h;obtain⟨cl,e1,e2,e3⟩:=vz (scope:=scope) (env:=X.env) (fun y hy hf=>I.ok.has _ (ok.fr y hy hf));rw[eval_ListComp];refine aad (use:=none) U hs e1 ok.kind ok.nms (thn (hi ZY s σ H _ I h) fun v s1 h1=>thn h1 fun itv s2 h2=>?_);obtain⟨it,fp,tn,J,H2,e,I2,T,st2,f2,q2⟩:=h2;subst e;refine BJ (Z:=fun H'=>Q (.ref s2.heap.objs.size) H') hc ok e2 e3 hg ht he I2 T st2 f2 (q2 _ I2.fresh) fun C s' H' z J m hCf hCl hCs hCc hCp=>?_;{obtain⟨m,hm⟩:=m;exact⟨m,hm,fun h' hs'=>⟨.ref _,H',J.turned (t':=s'.toks) (fun b o hb e=>(hs'.2 b hb).trans e) hCf hCl (.inr hCs) hCc hCp,U,z⟩⟩}
def Sy (n:Nat)(cap:DV)(wi:TI)(g:TG)(tt:TT)(te:TE)(j:Nat):TS:=fun D σ H=>wi σ H fun J H1=>∀ d,H1 d=none->iU d (HJ n cap σ) J g tt te H1 fun H2=>D.nx (σ.set j (some (.ref d))) H2
def qZ {j:Nat}{y:Wt}{py spos:ZX}(hN:X.N.Nodup)(hj:X.N[j]? = some y)(hy:Loc X.env.scope y)(hc:X.calm=true)(ok:sH X scope F cap)(hi:PI X tg iter wi)
  (hg:∀ cl C s H fp,PG (bD X scope cl C (L++F) s H fp) tg g) (ht:∀ cl C s H fp,PTs (bD X scope cl C (L++F) s H fp) ifs tt) (he:∀ cl C s H fp,PE (bD X scope cl C (L++F) s H fp) elt te)
  (hsw:aaV (.ListComp elt [⟨tg,iter,ifs,0⟩] scope pos) (some (.Name y py)) spos.line X.env=pure true:=by rfl)
  (hs:∀ x,Yt iter X.env x=pure x:=by intro _;rfl) (hf:X.fn y=true∨X.env.scope.names.lookup y=some .local:=by first | exact .inl rfl | exact .inr rfl | assumption) :
  PS X (.Assign [.Name y py] (.ListComp elt [⟨tg,iter,ifs,0⟩] scope pos) spos) (Sy L.length cap wi g tt te j):=by
 intro ZY s σ H D I h;obtain⟨cl,e1,e2,e3⟩:=vz (scope:=scope) (env:=X.env) (fun y hy hf=>I.ok.has _ (ok.fr y hy hf));rw[exec_Assign_Name_used _ _ _ _ hsw];refine VG (YQ (VG ?_));show V2 (Wb X.prog X.w) X.A (do let _ ← comprehension (.ListComp elt [⟨tg,iter,ifs,0⟩] scope pos) scope X.env _ (ada []) false (Xw iter X.env) (some (abw (.Name y py) X.env))) _ _ s
 refine VG (W7 (aad (use:=some (abw (.Name y py) X.env)) (Q:=fun _ s'=>SP X ZY D .next s') U hs e1 ok.kind ok.nms
  (thn (hi ZY s σ H _ I h) fun v s1 h1=>thn h1 fun itv s2 h2=>?_)) (fun _ s' hq=>VM (VM hq)) fun _ _ e=>e)
 obtain⟨it,fp,tn,J,H2,e,I2,T,st2,f2,q2⟩:=h2;subst e;refine BJ (Z:=fun H'=>D.nx (σ.set j (some (.ref s2.heap.objs.size))) H') hc ok e2 e3 hg ht he I2 T st2 f2 (q2 _ I2.fresh) fun C s' H' z J m hCf hCl hCs hCc hCp=>?_;obtain⟨m,hm⟩:=m;refine wpAny_assign_Name (zc J hN hj hy (v:=.ref s2.heap.objs.size) U (fun s5 I5 hs5=>?_) hf);obtain⟨a,sb,ha⟩:=hs5;have hne:C≠a:=by
  rcases ha with rfl | ha;{exact hCl};{exact XQ (hCc y a ha)}
 exact⟨m,hm.sameBut sb hne,fun h' hs'=>⟨_,H',I5.turned (t':=s5.toks) (fun b o hb e=>(hs'.2 b hb).trans e) hCf hCl (.inr hCs) hCc hCp,z⟩⟩
end
structure Df (P:Wi)(w:Wy)(K:V8)(mg:Wt->DE)(base:WT)(x:Wt)(k:Nat)(ps:D0)(sp:Sp):Prop where
 ex:∃ (f:Addr) (fd:Xp),bh P w K mg base CX0 k f fd ps sp/\mg x=some (.ref f)/\Yb K (.ref f)=true/\Binds K fd ps []
section
variable {X:Cx}{k j:Nat}{x:Wt}{ps:D0}{sp:Sp}{p pos:ZX}{e:Expr}{es:DO}{t:TA}
def aM (D:Df X.prog X.w X.K X.mg X.base x k ps sp)(hr:iD j X.A)(ha:PA X (e::es) t)(hk:k<=j:=by first | decide | exact VP _ | lia)(hg:Gl X x:=by rfl)
  (hdb:(x == ("__debug__" : Wt))=false:=by decide) (he:Wg (e::es) X.env=(false,Xw e X.env)::Wg es X.env:=by rfl) (hpl:(Yk pos (Wg es X.env)).any (·.1)=false:=by rfl) :
  PE X (.Call (.Name x p) (e::es) [] pos) (Ja sp [] E0 t):=by
 obtain⟨f,fd,F,hm,hkp,hb⟩:=D.ex;exact IV F (hr.mono hk) hg hm hkp hb .nil nF ha hdb he hpl
def ql {i:Int}{tk:Tok}(hm:X.mg x=some (.int i tk))(hg:Gl X x:=by rfl)(hd:(x == ("__debug__" : Wt))=false:=by decide):PE X (.Name x pos) (tC (.int i)):=O3 hg hm ⟨_,U⟩ hd
def Aa {T:String}(hm:X.mg x=none)(hv:W6 x=some (.type T))(hg:Gl X x:=by rfl)(hn:x≠"__name__":=by decide)(hd:(x == ("__debug__" : Wt))=false:=by decide):PE X (.Name x pos) (tC (.ty T)):=Qz hg hm hv U hn hd
inductive Mu (K:Ww)(xs:List V)(H:Hp)(Q:VK):Prop where
 | mk (x:V) (T:String) (t:Value) (b:Bool) (_:xs=[x,.ty T]) (_:Ex K H x t) (_:W.kitOne K t (.type T)=some b) (_:Q (.bl b) H)
def iZ:gj X (.builtin "isinstance") (Mu X.K):=by
 intro ZY s σ H xs us Q I r h;obtain⟨x,T,t,b,rfl,ty,e,q⟩:=h;obtain⟨u,v,rfl,ru,rv⟩:=vals2 r;cases (show v=Y9 T from rv);exact Jk I ru ty e fun tk=>⟨.bl b,H,I.tok tk,U,q⟩
def U6 (K:Ww):List V->Hp->VK->Prop:=fun xs H Q=>∃ (p:Addr) (ys:List V),xs=[.ref p]/\(SqL K H p ys∨SqT K H p ys)/\Q (.int ys.length) H
def GZ:gj X (.builtin "len") (U6 X.K):=yV
def jZ (K:Ww):List V->Hp->VK->Prop:=fun xs H Q=>∃ (p:Addr) (ys:List V),xs=[.ref p]/\(SqL K H p ys∨SqT K H p ys)/\∀ l,H l=none->Q (.ref l) (upd H l (.lst ys))
def d9:gj X (.type "list") (jZ X.K):=yt
def eY (K:Ww):List V->Hp->VK->Prop:=fun xs H Q=>∃ (p:Addr) (ys:List V),xs=[.ref p]/\((SqL K H p ys/\∀ l,H l=none->Q (.ref l) (upd H l (.tup ys)))∨(SqT K H p ys/\Q (.ref p) H))
def bj:gj X (.type "tuple") (eY X.K):=vK
theorem lr:∀ bs:List Bool,(Xb bs.length).all (fun i=>bs.getD i true)=bs.all fun b=>b
 | []=>rfl
 | b::r=>by
  have ih:=lr r;rw[Wc,aau,abj,acA,abj,← ih];rfl
inductive Oi (K:Ww)(xs:List V)(H:Hp)(Q:VK):Prop where
 | mk (p:Addr) (bs:List Bool) (_:xs=[.ref p]) (_:SqL K H p (bs.map V.bl)) (_:Q (.bl (bs.all fun b=>b)) H)
def yW (hc:X.calm=true):gj X (.builtin "all") (Oi X.K):=by
 intro ZY s σ H xs us Q I r h;obtain⟨p,bs,rfl,hq,q⟩:=h;obtain⟨u,rfl,ru⟩:=vals1 r;cases ru;obtain⟨its,rv,pl,hz⟩:=I.list hq;have hlen:bs.length=its.length:=by simpa using rv.length
 refine call_all_walk (ZF pl.isList ?_);have I1:Inv X ZY σ H { s with heap:=s.heap.push { cls:=.type "list_iterator",data:=.fields #[.ref p,.int 0 0] } }:=I.kept (t':=s.toks) fun b o e=>VJ _ e;have hne:p≠s.heap.objs.size:=by
  obtain⟨o,ho,_⟩:=pl.isList;exact Wh (V9 ho)
 refine⟨s.heap.objs.size,_,_,_,_,_,fun i=>bs.getD i true,U,ab9 (A:=X.A.in1) (I.ok.hd hc) s.heap.objs.size p hne its.toArray,⟨⟨_,V5 _ U,U,U⟩,?_⟩,?_,fun h' tk hk=>?_⟩;{obtain⟨o,ho,hr⟩:=pl.isList;exact⟨o,VJ _ ho,hr⟩}
 ·intro i v s' Q' E' hP hQ;have hP:its[i]? = some v:=by simpa using hP
  have hi:i < bs.length:=by
   rw[hlen];exact (List.getElem?_eq_some_iff.mp hP).1
  obtain⟨u',hu',ru'⟩:=rv.get (i:=i) (x:=V.bl bs[i]) (by rw[Wf,VN hi];rfl);rw[hP] at hu';cases hu';cases (show v=abx bs[i] from ru');refine Ys ?_;have eg:bs.getD i true=bs[i]:=by rw[V3,VN hi];rfl
  have hQ':Q' (bs.getD i true) s':=hQ;rw[eg] at hQ';exact hQ'
 ·have f:=I.Mw (b:=s.heap.objs.size) (H':=H) (VP _) I.fresh;have eall:(Xb its.toArray.size).all (fun i=>bs.getD i true)=bs.all fun b=>b:=by
   have el:its.toArray.size=bs.length:=by rw[Wd,hlen]
   rw[el];exact lr bs
  rw[eall];exact⟨.bl _,H,I1.turned (t':=tk) (it:=s.heap.objs.size) (fun b o hb e=>hk b o (by simpa using hb) e) f.1 f.2.1 f.2.2.2.1 f.2.2.2.2.1 f.2.2.2.2.2,U,q⟩
end
def Ii (osc:YH)(oN:D0)(sc:YH)(F:D0)(cap:DV):Bool :=
 decide (sc.kind = .function) && sc.names.all (fun y=>!decide (y.2 = .cell)) && sc.names.all (fun y=>!decide (y.2 = .local) || decide (sc.names.lookup y.1=some .local)) &&
 sc.names.all (fun y=>!decide (y.2 = .free) || decide (osc.names.lookup y.1=some .cell) || decide (osc.names.lookup y.1=some .free)) && decide (cap.length=F.length) &&
 (Xb F.length).all fun k=>(decide (F[k]? = none) || decide ((cap[k]?.bind fun i=>oN[i]?)=F[k]?)) && decide ((F[k]?.bind fun x=>sc.names.lookup x)=some .free)
def aY {X:Cx}{osc sc:YH}{oN F:D0}{cap:DV}(ho:X.env.scope=osc)(hN:X.N=oN)(h:Ii osc oN sc F cap=true):sH X sc F cap:=by
 unfold Ii at h;simp only[Xl] at h;obtain⟨⟨⟨⟨⟨h1,h2⟩,h3⟩,h4⟩,h5⟩,h6⟩:=h;refine⟨of_decide_eq_true h1,fun y hy e=>?_,fun y hy e=>?_,fun y hy e=>?_,of_decide_eq_true h5,fun k x e=>?_⟩;{have:=List.all_eq_true.mp h2 y hy;rw[e] at this;exact absurd this (by decide)};{have:=List.all_eq_true.mp h3 y hy;rw[decide_eq_true e] at this;exact of_decide_eq_true (by simpa using this)}
 ·have:=List.all_eq_true.mp h4 y hy;rw[decide_eq_true e] at this;have z:decide (osc.names.lookup y.1=some .cell)=true∨decide (osc.names.lookup y.1=some .free)=true:=by
   rw[Bool.not_true,abl,aan] at this;exact this
  show X.env.scope.names.lookup y.1=_∨X.env.scope.names.lookup y.1=_;rw[ho];exact z.elim (fun q=>.inl (of_decide_eq_true q)) fun q=>.inr (of_decide_eq_true q)
 ·have hk:k < F.length:=(List.getElem?_eq_some_iff.mp e).1;have q:=List.all_eq_true.mp h6 k (List.mem_range.mpr hk);rw[e,Xl] at q;obtain⟨q1,q2⟩:=q;have q1:(cap[k]?.bind fun i=>oN[i]?)=some x:=by
   rw[aan] at q1;rcases q1 with z | z;{exact absurd (of_decide_eq_true z) (by simp)};{exact of_decide_eq_true z}
  have q2:sc.names.lookup x=some .free:=of_decide_eq_true q2;cases hc:cap[k]? with
  | none=>rw[hc] at q1;cases q1
  | some i =>
   rw[hc] at q1;exact⟨i,U,by rw[hN];exact q1,q2⟩
def Ox {X:Cx}{scope:YH}{cl:DA}{C:Addr}{N:D0}{s:VL}{H:Hp}{fp:DM}(h:N.Nodup):(bD X scope cl C N s H fp).N.Nodup:=h
section
variable {K:Ww}{a D:Addr}{xs:List V}{g:TG}{tt:TT}{te:TE}{H1:Hp}{Q:Hp->Prop}{σ0:St}
def cj (Pv:Nat->List V->St->Hp->Prop)(h0:Pv 0 [] σ0 (upd H1 D (.lst [])))(hl:∀ i ys σ H,i<=xs.length->Pv i ys σ H->SqT K H a xs/\H D=some (.lst ys))
  (hs:∀ i ys x σ H,xs[i]? = some x->Pv i ys σ H->g x σ H fun σ3 H3=>tt σ3 H3 fun b H4=>if b=true then te σ3 H4 fun y H5=>H5 D=some (.lst ys)/\ys.length < sizeLine/\Pv (i+1) (ys++[y]) σ3 (upd H5 D (.lst (ys++[y]))) else Pv (i+1) ys σ3 H4)
  (hd:∀ ys σ H,Pv xs.length ys σ H->Q H):iU D σ0 (Itt K a) g tt te H1 Q:=by
 refine⟨fun i m ys σ H=>m=xs.length - i/\i<=xs.length/\Pv i ys σ H,⟨xs.length,by simp,Wz _,h0⟩,?_⟩;rintro i m ys σ H ⟨rfl,hi,p⟩;obtain⟨q,qD⟩:=hl i ys σ H hi p;refine⟨qD,?_⟩;by_cases hlt:i < xs.length;{refine .inr ⟨⟨xs,xs[i],q,by simp [hlt]⟩,Pv (i+1),fun zs σ' H' p'=>⟨xs.length - (i+1),by lia,U,hlt,p'⟩,fun x H' y=>?_⟩;obtain⟨e,y⟩:=y;subst e;exact hs i ys x σ _ (y xs q) p}
 ·have e:i=xs.length:=by lia
  subst e;exact .inl ⟨⟨xs,q,VP _⟩,hd ys σ H p⟩
def fY (Pv:Nat->List V->St->Hp->Prop)(h0:Pv 0 [] σ0 (upd H1 D (.lst [])))(hl:∀ i ys σ H,i<=xs.length->Pv i ys σ H->SqL K H a xs/\H D=some (.lst ys))
  (hs:∀ i ys x σ H,xs[i]? = some x->Pv i ys σ H->g x σ H fun σ3 H3=>tt σ3 H3 fun b H4=>if b=true then te σ3 H4 fun y H5=>H5 D=some (.lst ys)/\ys.length < sizeLine/\Pv (i+1) (ys++[y]) σ3 (upd H5 D (.lst (ys++[y]))) else Pv (i+1) ys σ3 H4)
  (hd:∀ ys σ H,Pv xs.length ys σ H->Q H):iU D σ0 (Itl K a) g tt te H1 Q:=by
 refine⟨fun i m ys σ H=>m=xs.length - i/\i<=xs.length/\Pv i ys σ H,⟨xs.length,by simp,Wz _,h0⟩,?_⟩;rintro i m ys σ H ⟨rfl,hi,p⟩;obtain⟨q,qD⟩:=hl i ys σ H hi p;refine⟨qD,?_⟩;by_cases hlt:i < xs.length;{refine .inr ⟨⟨xs,xs[i],q,by simp [hlt]⟩,Pv (i+1),fun zs σ' H' p'=>⟨xs.length - (i+1),by lia,U,hlt,p'⟩,fun x H' y=>?_⟩;obtain⟨e,y⟩:=y;subst e;exact hs i ys x σ _ (y xs q) p}
 ·have e:i=xs.length:=by lia
  subst e;exact .inl ⟨⟨xs,q,VP _⟩,hd ys σ H p⟩
def cR {lo:Int}{n:Nat}(Pv:Nat->List V->St->Hp->Prop)(h0:Pv 0 [] σ0 (upd H1 D (.lst [])))(hl:∀ i ys σ H,i<=n->Pv i ys σ H->H D=some (.lst ys))
  (hs:∀ i ys σ H,i < n->Pv i ys σ H->g (.int (lo+i)) σ H fun σ3 H3=>tt σ3 H3 fun b H4=>if b=true then te σ3 H4 fun y H5=>H5 D=some (.lst ys)/\ys.length < sizeLine/\Pv (i+1) (ys++[y]) σ3 (upd H5 D (.lst (ys++[y]))) else Pv (i+1) ys σ3 H4)
  (hd:∀ ys σ H,Pv n ys σ H->Q H):iU D σ0 (Itr lo n) g tt te H1 Q:=by
 refine⟨fun i m ys σ H=>m=n - i/\i<=n/\Pv i ys σ H,⟨n,by simp,Wz _,h0⟩,?_⟩;rintro i m ys σ H ⟨rfl,hi,p⟩;refine⟨hl i ys σ H hi p,?_⟩;by_cases hlt:i < n;{refine .inr ⟨hlt,Pv (i+1),fun zs σ' H' p'=>⟨n - (i+1),by lia,U,hlt,p'⟩,fun x H' y=>?_⟩;obtain⟨e,y⟩:=y;subst e y;exact hs i ys σ _ hlt p}
 ·have e:i=n:=by lia
  subst e;exact .inl ⟨VP _,hd ys σ H p⟩
end
structure Bt (mg:Wt->DE):Prop where
 len_:mg "len" = none
 range_:mg "range" = none
 all_:mg "all" = none
 isinstance_:mg "isinstance" = none
 int_:mg "int" = none
 bool_:mg "bool" = none
 str_:mg "str" = none
 list_:mg "list" = none
 tuple_:mg "tuple" = none
 abs_:mg "abs" = none
 max_:mg "max" = none
 min_:mg "min" = none
 sum_:mg "sum" = none
 sorted_:mg "sorted" = none
 zip_:mg "zip" = none
 reversed_:mg "reversed" = none
 divmod_:mg "divmod" = none
 set_:mg "set" = none
 any_:mg "any" = none
 enumerate_:mg "enumerate" = none
def Nq:W6 "len" = some (.builtin "len"):=PySem.boot_len
def Mv:W6 "all" = some (.builtin "all"):=by decide+kernel
def cM:W6 "isinstance" = some (.builtin "isinstance"):=by decide+kernel
def wQ:W6 "abs" = some (.builtin "abs"):=by decide+kernel
def nj:W6 "max" = some (.builtin "max"):=by decide+kernel
def Sh:W6 "min" = some (.builtin "min"):=by decide+kernel
def HH:W6 "sum" = some (.builtin "sum"):=by decide+kernel
def Bq:W6 "int" = some (.type "int"):=by decide+kernel
def PN:W6 "bool" = some (.type "bool"):=by decide+kernel
def mj:W6 "list" = some (.type "list"):=by decide+kernel
def bH:W6 "tuple" = some (.type "tuple"):=by decide+kernel
def km (K:Ww)(T:String):W.kitOne K (.type T) (.type T)=some true:=by
 unfold PySem.W.kitOne;rw[if_pos (beq_self_eq_true _)]
def Be (K:Ww):W.kitOne K (.type "int") (.type "bool")=some false:=by kernel_rfl
def Dr (K:Ww):W.kitOne K (.type "str") (.type "int")=some false:=by kernel_rfl
section
variable {X:Cx}
inductive Rp (K:Ww)(x:V)(y:V)(H:Hp)(Q:VK):Prop where
 | mk (a b:Addr) (xs:List V) (_:x = .ref a) (_:y = .ref b) (_:SqL K H a xs) (_:SqL K H b []) (_:Q (.bl xs.isEmpty) H)
def Bx (hu:X.A.units < cLine):OpR X (Yn .Eq) (Rp X.K):=by
 intro ZY s σ H x y v u Q I rx ry h;obtain⟨a,b,xs,rfl,rfl,ha,hb,q⟩:=h;cases rx;cases ry;obtain⟨its,r1,p1,_⟩:=I.list ha;obtain⟨its2,r2,p2,_⟩:=I.list hb;cases r2;cases r1 with
 | nil=>exact SeqAt.eq_listAt (e:=fun _=>true) p1.isList p2.isList U hu (fun j h1 _=>absurd h1 (by simp)) ⟨.bl true,H,I,U,q⟩
 | cons r t=>exact SeqAt.eq_list_lengthsAt p1.isList p2.isList (by simp) hu ⟨.bl false,H,I,U,q⟩
inductive Tu (K:Ww)(x:V)(y:V)(H:Hp)(Q:VK):Prop where
 | mk (a b:Addr) (xs:List V) (_:x = .ref a) (_:y = .ref b) (_:SqL K H a xs) (_:SqL K H b []) (_:Q (.bl (!xs.isEmpty)) H)
def JC (hu:X.A.units < cLine):OpR X (Yn .NotEq) (Tu X.K):=by
 intro ZY s σ H x y v u Q I rx ry h;obtain⟨a,b,xs,rfl,rfl,ha,hb,q⟩:=h;cases rx;cases ry;obtain⟨its,r1,p1,_⟩:=I.list ha;obtain⟨its2,r2,p2,_⟩:=I.list hb;cases r2;cases r1 with
 | nil=>exact SeqAt.RcNeAt.lists (e:=fun _=>true) p1.isList p2.isList U hu (fun j h1 _=>absurd h1 (by simp)) X.prog X.w X.xe _ ⟨.bl false,H,I,U,q⟩
 | cons r t=>exact SeqAt.RcNeAt.lists_lengths p1.isList p2.isList (by simp) hu X.prog X.w X.xe _ ⟨.bl true,H,I,U,q⟩
end
section
variable {prog:Wi}{w:Wy}{A:WM}{E:DC}{s:VL}
def GK {it t:Addr}{i:Nat}{its:Array Value}{x:Value}{Q:DC}(j:s.heap.IsTupleIter it t i)(ht:s.heap.IsTuple t its)(hx:its[i]? = some x)
  (k:∀ h',h'.IsTupleIter it t (i+1)->Yx it s.heap h'->Q x { s with heap:=h' }):V2 (Wb prog w) A (XH (.ref it)) Q E s:=by
 obtain⟨o,e1,c1,d1⟩:=id j;obtain⟨o2,e2,_,n2,d2⟩:=ht;unfold XH;refine VG (Xr (name:=YL "__next__") j.typeIs Z0 (Xd Z0 j.typeIs adb ?_ (ac7 _)));show V2 _ _ (field (.ref it) 0 >>= _) _ _ s;refine VG (Xh e1 d1 (x:=.ref t) U ?_);show V2 _ _ (if (We t == Xn)=true then _ else _) _ _ s;rw[if_neg (show ¬ ((We t == Xn)=true) from VR)]
 show V2 _ _ (field (.ref it) 1 >>= _) _ _ s;refine VG (Xh e1 d1 (x:=.int i 0) U ?_);show V2 _ _ (abn (.ref t) >>= _) _ _ s;refine VG (X4 e2 d2 ?_);simp only[Wl,hx];refine VG (XM e1 d1 (by simp) (VM ⟨x,U,VM (k _ ?_ (Xv ..))⟩));exact⟨_,Ws _ e1 (aay (Zu d1 _)),(Obj.cls_mapFields ..).trans c1,by rw[Zu d1];simp [XF]⟩
def Ru {it t:Addr}{i:Nat}{its:Array Value}{Q:DC}(hh:A.handled=none)(j:s.heap.IsTupleIter it t i)(ht:s.heap.IsTuple t its)(hx:its[i]? = none)
  (k:∀ h' e,Heap.ExtBut it s.heap h'->(∃ o,h'.get? e=some o/\o.cls = .type "StopIteration")->E (.ref e) { s with heap:=h' }):V2 (Wb prog w) A (XH (.ref it)) Q E s:=by
 obtain⟨o,e1,c1,d1⟩:=id j;obtain⟨o2,e2,_,n2,d2⟩:=ht;unfold XH;refine VG (Xr (name:=YL "__next__") j.typeIs Z0 (Xd Z0 j.typeIs adb ?_ (ac7 _)));show V2 _ _ (field (.ref it) 0 >>= _) _ _ s;refine VG (Xh e1 d1 (x:=.ref t) U ?_);show V2 _ _ (if (We t == Xn)=true then _ else _) _ _ s;rw[if_neg (show ¬ ((We t == Xn)=true) from VR)]
 show V2 _ _ (field (.ref it) 1 >>= _) _ _ s;refine VG (Xh e1 d1 (x:=.int i 0) U ?_);show V2 _ _ (abn (.ref t) >>= _) _ _ s;refine VG (X4 e2 d2 ?_);simp only[Wl,hx];refine VG (ZQ (VG (XM e1 d1 (by simp) ?_)));show V2 _ _ (acJ (.type "StopIteration") [] >>= _) _ _ _;refine VG ?_;simp only[acJ,newTuple];refine VG (Wx ?_ (by size_fits));refine VG (m:=Zh _ _) (YF (a:=Xn) (by first | rfl | (simp only[Zh];rfl)) ?_);refine Wx ?_ (by size_fits);simp only[raiseNew];refine VG (ab6 ?_);first | rw[show A.in1.handled=none from hh] | rw[hh]
 refine VG (VM (acT ?_));exact k _ _ (((Xv ..).extBut.push _).push _) ⟨_,V5 _ U,U⟩
structure Zap (z p q i1 i2 l1 l2:Addr):Prop where
 pz:p≠z
 qz:q≠z
 az:i1≠z
 bz:i2≠z
 pq:p≠q
 pa:p≠i1
 pb:p≠i2
 qa:q≠i1
 qb:q≠i2
 ab:i1≠i2
 xz:l1≠z
 xq:l1≠q
 xa:l1≠i1
 xb:l1≠i2
 yz:l2≠z
 yq:l2≠q
 ya:l2≠i1
 yb:l2≠i2
def Ho {h h':WT}{a t:Addr}{its:Array Value}(ht:h.IsTuple t its)(sb:Yx a h h')(ne:t≠a):h'.IsTuple t its:=by
 obtain⟨o,e,r⟩:=ht;exact⟨o,(sb.2 t ne).trans e,r⟩
def sV {h h':WT}{a it t:Addr}{i:Nat}(ht:h.IsTupleIter it t i)(sb:Yx a h h')(ne:it≠a):h'.IsTupleIter it t i:=by
 obtain⟨o,e,r⟩:=ht;exact⟨o,(sb.2 it ne).trans e,r⟩
abbrev zA (h:WT)(t:Addr):WT:=h.push { cls:=.type "tuple_iterator",data:=.fields #[.ref t,.int 0 0] }
end
def Inv.vW {X:Cx}{ZY:Do}{σ:St}{H:Hp}{s:VL}{h':WT}{t':Nat}{ch:DM}(I:Inv X ZY σ H s)(k:∀ b o,b ∉ ch->s.heap.get? b=some o->h'.get? b=some o)(hf:∀ b∈ch,uv X ZY H b) :
  Inv X ZY σ H { s with heap:=h',toks:=t' }:=by
 have nit:∀ b u,H b=some u->b ∉ ch:=fun b u e z=>by
  have:=(hf b z).1;rw[this] at e;cases e
 refine I.step (g':=s.gens) (d':=s.drawn) (ch:=ch) (fun b hb=>let ⟨_,f1,_,f3,f4,f5⟩:=hf b hb;⟨f3,f1,f4,f5⟩) (fun b o _ _ hc e _=>k b o hc e) (fun b o _ _ hc e _=>⟨o.slots,k b o hc e⟩) (fun _ _ _ _ n=>n)
  (fun b o hc e=>⟨o,k b o hc e⟩) (fun _ _ e=>e) (fun _ _ _ e=>e) (fun b ps e=>⟨#[],by rw[e];simp⟩) (fun m hm=>?_) (fun b u e=>?_) I.bare
 ·obtain⟨o,es,ep,ho,r⟩:=hm;exact⟨o,es,ep,k _ o (fun z=>(hf _ z).2.1 U) ho,r⟩
 ·refine (I.hok b u e).stay (fun c v hc q=>k c v ?_ q) (fun _ q=>q) fun _ _ q=>q;rcases hc with z | z;{rw[z];exact nit b u e};{exact nit c _ z}
def Pu {n c d:Nat}(hc:c < n)(hd:d < n):Zap (n+4) (n+2) (n+3) n (n+1) c d:=by
 constructor <;> (refine (fun (h:¬ @Eq Nat _ _)=>h) ?_) <;> lia
theorem sI:∀ ns ms:DU,((Xb (min ns.length ms.length)).all (fun j=>ns.getD j 0 == ms.getD j 0) && ns.length == ms.length)=decide (ns=ms)
 | [],[]=>rfl
 | [],m::ms=>by rw[decide_eq_false (by simp)];rfl
 | n::ns,[]=>by rw[decide_eq_false (by simp)];rfl
 | n::ns,m::ms=>by
  have ih:=sI ns ms;have e:min (n::ns).length (m::ms).length=min ns.length ms.length+1:=by rw[Wc,Wc];lia
  have el:((n::ns).length == (m::ms).length)=(ns.length == ms.length):=by simp
  have e3:decide (n::ns=m::ms)=(n == m && decide (ns=ms)):=by
   by_cases h1:n=m
   ·subst h1;by_cases h2:ns=ms;{subst h2;simp};{simp [h2]}
   ·simp [h1]
  rw[e,aau,abj,acA,el,e3,← ih,Bool.and_assoc];rfl
def c7 {X:Cx}{pos:ZX}{K:Ww}{es:DO}{k:Nat}{t:TGs}(n:Nat)(hK:X.K=K)(hc:X.calm=true)(h:PGs X es t)
  (hn:(aaA es X.env).length=n:=by rfl) (hst:(aaA es X.env).findIdx? (·.1)=none:=by rfl):PG X (.Tuple es k pos) (Vb K n t):=by
 subst hK;exact RD hc h hn hst
section
variable {X:Cx}
inductive NT (K:Ww)(x:V)(y:V)(H:Hp)(Q:VK):Prop where
 | mk (a b:Addr) (ns ms:DU) (_:x = .ref a) (_:y = .ref b) (_:SqT K H a (ns.map V.int)) (_:SqT K H b (ms.map V.int)) (_:Q (.bl (decide (ns=ms))) H)
def ints_get {ns:DU}{its:DJ}(i:Xm its ns){j:Nat}(h:j < its.length):∃ t,its[j] = .int (ns.getD j 0) t:=by
 induction i generalizing j with
 | nil=>exact absurd h (aaj _)
 | cons n t r ih =>
  cases j with
  | zero=>exact⟨t,U⟩
  | succ j =>
   obtain⟨u,e⟩:=ih (j:=j) (abz h);exact⟨u,by simpa using e⟩
def GQ (hu:X.A.units < cLine):OpR X (Yn .Eq) (NT X.K):=by
 intro ZY s σ H x y v u Q I rx ry h;obtain⟨a,b,ns,ms,rfl,rfl,ha,hb,q⟩:=h;cases rx;cases ry;obtain⟨its,r1,p1,_⟩:=I.tuple ha;obtain⟨its2,r2,p2,_⟩:=I.tuple hb;have i1:Xm its ns:=intsAre_of r1;have i2:Xm its2 ms:=intsAre_of r2;have l1:=i1.length;have l2:=i2.length;refine SeqAt.eq_tupleAt (e:=fun j=>ns.getD j 0 == ms.getD j 0) (show s.heap.IsTuple a its.toArray from p1) (show s.heap.IsTuple b its2.toArray from p2) hu (fun j h1 h2=>?_) ?_;{obtain⟨t,e1⟩:=ints_get i1 (j:=j) (by simpa using h1);obtain⟨t',e2⟩:=ints_get i2 (j:=j) (by simpa using h2);rw[aaJ,aaJ,e1,e2];exact aca _ _ _ _}
 ·refine⟨.bl _,H,I,?_,q⟩;have e:=sI ns ms;have s1:its.toArray.size=ns.length:=by rw[Wd];exact l1
  have s2:its2.toArray.size=ms.length:=by rw[Wd];exact l2
  rw[s1,s2,e];rfl
inductive jK (K:Ww)(x:V)(y:V)(H:Hp)(Q:VK):Prop where
 | mk (a b:Addr) (xs ys:List V) (_:x = .ref a) (_:y = .ref b) (_:SqT K H a xs) (_:SqT K H b ys) (_:xs.length+ys.length<=sizeLine) (_:(xs=[]->Q (.ref b) H)) (_:(xs≠[]->ys=[]->Q (.ref a) H)) (_:(xs≠[]->ys≠[]->∀ p,H p=none->Q (.ref p) (upd H p (.tup (xs++ys)))))
def iY:OpR X (aaf .Add) (jK X.K):=by
 intro ZY s σ H x y v u Q I rx ry h;obtain⟨a,b,xs,ys,rfl,rfl,ha,hb,hz,q0,q1,q2⟩:=h;by_cases hx:xs=[];{subst hx;cases rx;cases ry;obtain⟨its,r1,p1,_⟩:=I.tuple ha;obtain⟨its2,r2,p2,_⟩:=I.tuple hb;cases r1;obtain⟨⟨c1,d1,dt1,sl1⟩,ho,hc,n,hd⟩:=id p1;obtain⟨⟨c2,d2,dt2,sl2⟩,ho2,hc2,n2,hd2⟩:=id p2;simp only at hc hd hc2 hd2;subst hc hd hc2 hd2;exact concat_meets ⟨_,ho,U⟩ ⟨_,ho2,U⟩ acI seq_tuple_add aby abp (abi _ _) (tuple_addW0 a b _ _ n n2 d1 d2 sl1 sl2 U) ⟨ho,ho2,⟨.ref b,H,I,U,q0 U⟩⟩};{exact O1 ZY s σ H _ _ v u Q I rx ry ⟨a,b,xs,ys,U,U,ha,hb,hx,hz,q1 hx,q2 hx⟩}
end
theorem lq:∀ bs:List Bool,(Xb bs.length).any (fun i=>bs.getD i false)=bs.any fun b=>b
 | []=>rfl
 | b::r=>by
  have ih:=lq r;rw[Wc,aau,Zz,List.any_map,Zz,← ih];rfl
section
variable {X:Cx}
inductive Ml (K:Ww)(xs:List V)(H:Hp)(Q:VK):Prop where
 | mk (p:Addr) (ns:DU) (_:xs=[.ref p]) (_:SqL K H p (ns.map V.int)) (_:Q (.int ns.sum) H)
def rm (hc:X.calm=true):gj X (.builtin "sum") (Ml X.K):=by
 intro ZY s σ H xs us Q I r h;obtain⟨p,ns,rfl,hq,q⟩:=h;obtain⟨u,rfl,ru⟩:=vals1 r;cases ru;obtain⟨its,rv,pl,hz⟩:=I.list hq;have hi:Xm its ns:=intsAre_of rv;obtain⟨zs,hx⟩:=hi.allInts.items;have hl':s.heap.IsList p (intItems zs):=hx▸pl.isList;refine sum_intListG (I.ok.hd hc) hl' fun h' tk t' hk=>?_;have e1:ns=zs.toList.map (·.1):=by
  rw[← nums_intItems,← hx];exact (show numsOf its.toArray.toList=ns from hi.numsOf).symm
 have e2:preSum (numAt zs) zs.size=ns.sum:=by
  rw[preSum_eq,abA (by simp),e1]
 rw[e2];exact⟨.int _,H,I.kept (t':=tk) hk,⟨_,U⟩,q⟩
inductive RC (K:Ww)(xs:List V)(H:Hp)(Q:VK):Prop where
 | mk (p:Addr) (bs:List Bool) (_:xs=[.ref p]) (_:SqL K H p (bs.map V.bl)) (_:Q (.bl (bs.any fun b=>b)) H)
def Jq (hc:X.calm=true):gj X (.builtin "any") (RC X.K):=by
 intro ZY s σ H xs us Q I r h;obtain⟨p,bs,rfl,hq,q⟩:=h;obtain⟨u,rfl,ru⟩:=vals1 r;cases ru;obtain⟨its,rv,pl,hz⟩:=I.list hq;have hlen:bs.length=its.length:=by simpa using rv.length
 refine call_any_walk (ZF pl.isList ?_);have I1:Inv X ZY σ H { s with heap:=s.heap.push { cls:=.type "list_iterator",data:=.fields #[.ref p,.int 0 0] } }:=I.kept (t':=s.toks) fun b o e=>VJ _ e;have hne:p≠s.heap.objs.size:=by
  obtain⟨o,ho,_⟩:=pl.isList;exact Wh (V9 ho)
 refine⟨s.heap.objs.size,_,_,_,_,_,fun i=>bs.getD i false,U,ab9 (A:=X.A.in1) (I.ok.hd hc) s.heap.objs.size p hne its.toArray,⟨⟨_,V5 _ U,U,U⟩,?_⟩,?_,fun h' tk hk=>?_⟩;{obtain⟨o,ho,hr⟩:=pl.isList;exact⟨o,VJ _ ho,hr⟩}
 ·intro i v s' Q' E' hP hQ;have hP:its[i]? = some v:=by simpa using hP
  have hi:i < bs.length:=by
   rw[hlen];exact (List.getElem?_eq_some_iff.mp hP).1
  obtain⟨u',hu',ru'⟩:=rv.get (i:=i) (x:=V.bl bs[i]) (by rw[Wf,VN hi];rfl);rw[hP] at hu';cases hu';cases (show v=abx bs[i] from ru');refine Ys ?_;have eg:bs.getD i false=bs[i]:=by rw[V3,VN hi];rfl
  have hQ':Q' (bs.getD i false) s':=hQ;rw[eg] at hQ';exact hQ'
 ·have f:=I.Mw (b:=s.heap.objs.size) (H':=H) (VP _) I.fresh;have eany:(Xb its.toArray.size).any (fun i=>bs.getD i false)=bs.any fun b=>b:=by
   have el:its.toArray.size=bs.length:=by rw[Wd,hlen]
   rw[el];exact lq bs
  rw[eany];exact⟨.bl _,H,I1.turned (t':=tk) (it:=s.heap.objs.size) (fun b o hb e=>hk b o (by simpa using hb) e) f.1 f.2.1 f.2.2.2.1 f.2.2.2.2.1 f.2.2.2.2.2,U,q⟩
end
def SX:W6 "any" = some (.builtin "any"):=by decide+kernel
def Oa:List V->Hp->VK->Prop:=fun xs H Q=>(∃ i,xs=[.int i]/\Q (.int i) H)∨∃ k,xs=[.bl k]/\Q (.int (if k then 1 else 0)) H
end L2
namespace L2
open PySem
def Ris (xs:Array Nat):Prop:=xs.toList.Pairwise (· < ·)
def Ck {xs:Array Nat}(h:Ris xs){i j x y:Nat}(hij:i < j)(hi:xs[i]? = some x)(hj:xs[j]? = some y):x < y:=by
 rw[← Xq] at hi hj;obtain⟨li,ei⟩:=List.getElem?_eq_some_iff.mp hi;obtain⟨lj,ej⟩:=List.getElem?_eq_some_iff.mp hj;have:=List.pairwise_iff_getElem.mp h i j li lj hij;rw[ei,ej] at this;exact this
theorem vo {xs:Array Nat}(h:Ris xs)(j:Nat):∀ (fuel lo hi:Nat),hi - lo<=fuel->lo<=hi->hi<=xs.size->(∀ i x,i < lo->xs[i]? = some x->x < j)->(∀ i x,hi<=i->xs[i]? = some x->j<=x) →
  aar xs j fuel lo hi<=xs.size/\(∀ i x,i < aar xs j fuel lo hi->xs[i]? = some x->x < j)/\(∀ i x,aar xs j fuel lo hi<=i->xs[i]? = some x->j<=x)
 | 0,lo,hi,hf,hl,hs,h1,h2=>by
  rw[aar];have e:lo=hi:=by lia
  subst e;exact⟨hs,h1,h2⟩
 | fuel+1,lo,hi,hf,hl,hs,h1,h2=>by
  rw[aar];by_cases hlt:lo < hi
  ·rw[if_pos hlt];dsimp only;have hm1:lo<=(lo+hi) / 2:=by lia
   have hm2:(lo+hi) / 2 < hi:=by lia
   have hms:(lo+hi) / 2 < xs.size:=by lia
   generalize (lo+hi) / 2=m at *;have eg:xs[m]? = some xs[m]:=Wr hms;have ed:xs.getD m j=xs[m]:=by rw[YM,eg];rfl
   rw[ed];by_cases hc:xs[m] < j
   ·rw[if_pos hc];refine vo h j fuel (m+1) hi (by lia) (by lia) hs (fun i x hi' e=>?_) h2;by_cases hm:i=m;{subst hm;rw[eg] at e;cases e;exact hc};{exact aat (Ck h (show i < m by lia) e eg) hc}
   ·rw[if_neg hc];refine vo h j fuel lo m (by lia) hm1 (by lia) h1 (fun i x hi' e=>?_);by_cases hm:i=m;{subst hm;rw[eg] at e;cases e;lia};{have:=Ck h (show m < i by lia) eg e;lia}
  ·rw[if_neg hlt];have e:lo=hi:=by lia
   subst e;exact⟨hs,h1,h2⟩
def vf {xs:Array Nat}(h:Ris xs)(j:Nat):XN xs j<=xs.size/\(∀ i x,i < XN xs j->xs[i]? = some x->x < j)/\(∀ i x,XN xs j<=i->xs[i]? = some x->j<=x):=by
 unfold XN;refine vo h j xs.size 0 xs.size (by lia) (Wz _) (VP _) (fun i x hi=>absurd hi (aaj _)) fun i x hi e=>?_;rw[Zw hi] at e;cases e
def below_at {xs:Array Nat}(h:Ris xs){i x:Nat}(e:xs[i]? = some x):XN xs (x+1)=i+1:=by
 obtain⟨h1,h2,h3⟩:=vf h (x+1);have hi:i < xs.size:=(Array.getElem?_eq_some_iff.mp e).1;generalize XN xs (x+1)=p at *;rcases Nat.lt_trichotomy p (i+1) with hp | hp | hp;{have:=h3 i x (by lia) e;lia};{exact hp}
 ·have hs:i+1 < xs.size:=by lia
  have:=Ck h (XS i) e (Wr hs);have:=h2 (i+1) _ hp (Wr hs);lia
def DY {xs:Array Nat}(h:Ris xs):XN xs 0=0:=by
 obtain⟨h1,h2,h3⟩:=vf h 0;generalize XN xs 0=p at *;rcases ace p with hp | hp;{exact hp}
 ·have hs:0 < xs.size:=by lia
  have:=h2 0 _ hp (Wr hs);lia
def Qx {xs:Array Nat}(h:Ris xs){j:Nat}(hj:xs[XN xs j]?≠some j):Ris (SetTable.insertAt xs (XN xs j) j):=by
 obtain⟨h1,h2,h3⟩:=vf h j;unfold Ris;rw[SetTable.toList_insertAt];generalize hp:XN xs j=p at *;have hh:xs.toList.Pairwise (· < ·):=h;have hlt:∀ x∈xs.toList.take p,x < j:=fun x hx=>by
  obtain⟨i,hi,e⟩:=Yy hx;rw[Wa] at hi;rw[List.getElem_take] at e;exact h2 i x (by lia) (by rw[← Xq,VN (by lia),e])
 have hgt:∀ x∈xs.toList.drop p,j < x:=fun x hx=>by
  obtain⟨i,hi,e⟩:=Yy hx;rw[Z8] at hi;rw[List.getElem_drop] at e;have ex:xs[p+i]? = some x:=by rw[← Xq,VN (by lia),e]
  have:=h3 (p+i) x (by lia) ex;rcases acy j x with q | q;{exact q}
  ·have ejx:x=j:=by lia
   subst ejx;by_cases hi0:i=0;{subst hi0;exact absurd ex hj}
   ·have hps:p < xs.size:=by
     have:=(Array.getElem?_eq_some_iff.mp ex).1;lia
    have:=Ck h (show p < p+i by lia) (Wr hps) ex;have:=h3 p _ (VP _) (Wr hps);lia
 rw[aaH];refine⟨hh.sublist (List.take_sublist _ _),List.pairwise_cons.mpr ⟨hgt,hh.sublist (List.drop_sublist _ _)⟩,fun a ha b hb=>?_⟩;rcases List.mem_cons.mp hb with rfl | hb;{exact hlt a ha};{exact aat (hlt a ha) (hgt b hb)}
def sZ (t:ZW)(j:Nat):Prop:=t.place[XN t.place j]?≠some j
def uN {t:ZW}{j:Nat}(h:t.slot j = .empty∨t.slot j = .dummy):sZ t j:=by
 intro e;unfold SetTable.slot at h;dsimp only at h;rw[e,if_pos (by exact beq_self_eq_true _)] at h;rcases h with h | h <;> cases h
theorem oh {t:ZW}{f:Nat->Int}{h:Int}:∀ (fuel:Nat) (p:SetTable.Probe) {j:Nat} {d:Option Nat},(∀ x,p.dummy=some x->sZ t x)->acq t f h fuel p=some (.empty j d)->sZ t j/\∀ x,d=some x->sZ t x
 | 0,_,_,_,_,e=>by rw[acq] at e;cases e
 | fuel+1,p,j,d,hd,e=>by
  rw[acq] at e;have adv:∀ q:SetTable.Probe,(t.advance q).dummy=q.dummy:=fun q=>by
   unfold SetTable.advance;split <;> rfl
  cases hs:t.slot p.j with
  | empty =>
   rw[hs] at e;cases e;exact⟨uN (.inl hs),hd⟩
  | dummy =>
   rw[hs] at e;dsimp only at e;refine oh fuel _ (fun x hx=>?_) e;rw[adv] at hx;cases hx;exact uN (.inr hs)
  | live i =>
   rw[hs] at e;dsimp only at e;by_cases hc:(f i == h)=true;{rw[if_pos hc] at e;cases e};{rw[if_neg hc] at e;exact oh fuel _ (fun x hx=>by rw[adv] at hx;exact hd x hx) e}
def zW {t:ZW}{h:Int}{j:Nat}{b:Bool}(e:t.freeSlot h=some (j,b)):sZ t j:=by
 unfold SetTable.freeSlot SetTable.probe at e;split at e
 ·rename_i j' d hp;obtain⟨h1,h2⟩:=oh _ _ (fun x hx=>by cases hx) hp;cases e;cases d with
  | none=>exact h1
  | some x=>exact h2 x U
 ·cases e
structure TOk (b:Bool)(t:ZW):Prop where
 led:t.led=b
 ris:t.plain=true->Ris t.place
def Jz (b:Bool):TOk b (.fresh 0 0 b):=⟨U,fun _=>abd⟩
def jf {b:Bool}{t:ZW}(h:TOk b t)(n:Nat):TOk b (t.standIn n):=⟨h.led,fun z=>by cases z⟩
def Ed {b:Bool}{t:ZW}(h:TOk b t)(es:Array (Int × Value))(k:Int)(x:Value):TOk b (layNew t es k x).2.1:=by
 unfold layNew;split
 ·rename_i slot wd e;dsimp only;unfold SetTable.orStandIn;have ht:TOk b (t.put slot).1:=⟨h.led,fun z=>Qx (h.ris z) (zW e)⟩;split;{exact ht};{exact jf ht _}
 ·exact jf h _
def KH (owner:Array (Option Nat)):∀ l:DV,l.Pairwise (· < ·)->((l.filterMap fun j=>(owner.getD j none).map (j,·)).map (·.1)).Pairwise (· < ·):=fun l hl=>by
 have hs:List.Sublist ((l.filterMap fun j=>(owner.getD j none).map (j,·)).map (·.1)) l:=by
  induction l with
  | nil=>exact List.Sublist.slnil
  | cons a r ih =>
   have ih:=ih (List.pairwise_cons.mp hl).2;rw[YK];cases e:owner.getD a none with
   | none=>exact ih.cons _
   | some k=>exact ih.cons₂ _
 exact hl.sublist hs
def xm {b:Bool}{t:ZW}(h:TOk b t)(es:Array (Int × Value))(m:Nat):TOk b (acn t es m).2.1:=by
 unfold acn;split
 ·rename_i t' order e;dsimp only;split
  ·unfold SetTable.relaid SetTable.laid at e;cases ho:SetTable.layClean (SetTable.sizeAbove m - 1) (es.map (·.1)) with
   | none=>rw[ho] at e;cases e
   | some owner =>
    rw[ho] at e;cases e;exact⟨h.led,fun _=>KH owner _ List.pairwise_lt_range⟩
  ·exact jf h _
 ·exact jf h _
end L2
namespace L2
open PySem PySem.Spec PyProof.Rows
section
variable {P:Wi}{w:Wy}{A:WM}{E:Value->VL->Prop}{s:VL}
def nZ (P:Wi)(w:Wy)(b:Bool)(h:WT)(a:Addr)(ks:DU):Prop :=
 ∃ o es ep t,h.get? a=some o/\o.ExactSet/\o.data = .set es ep t/\ElemsOf (Z3 P w) es.toList/\t.fits es.size=true/\TOk b t/\∃ ns,Xm (es.toList.map (·.2)) ns/\ns.Perm ks
def gG {l l':DJ}(p:l.Perm l'):∀ {ns:DU},Xm l ns->∃ ms,Xm l' ms/\ms.Perm ns:=by
 induction p with
 | nil=>intro ns h;exact⟨ns,h,.refl _⟩
 | cons x p ih =>
  intro ns h;cases h with
  | cons n t r =>
   obtain⟨ms,h1,h2⟩:=ih r;exact⟨n::ms,.cons n t h1,h2.cons n⟩
 | swap x y l =>
  intro ns h;cases h with
  | cons n t r =>
   cases r with
   | cons m u r=>exact⟨m::n::_,.cons m u (.cons n t r),.swap _ _ _⟩
 | trans p q ih1 ih2 =>
  intro ns h;obtain⟨ms,h1,h2⟩:=ih1 h;obtain⟨ks,h3,h4⟩:=ih2 h1;exact⟨ks,h3,h4.trans h2⟩
theorem pW {k:Int}{t:Tok}:∀ {l:DJ} {ns:DU},Xm l ns->Xm (l++[.int k t]) (ns++[k])
 | _,_,.nil=>.cons k t .nil
 | _,_,.cons n u r=>.cons n u (pW r)
theorem sE {k:Int}:∀ {l:DJ} {ns:DU},Xm l ns->(k∈ns ↔ ∃ v∈l,(Z3 P w).is k v=true)
 | _,_,.nil=>by simp
 | _,_,.cons n t r=>by
  have ih:=sE (k:=k) r;have e:(Z3 P w).is k (.int n t)=decide (k=n):=KeyKind.is_eq_decide (intKind_is _ _ _ _) k;rw[Ye,ih];constructor
  ·rintro (h | ⟨v,hv,q⟩);{exact⟨_,V0,by rw[e];exact decide_eq_true h⟩};{exact⟨v,V7 _ hv,q⟩}
  ·rintro⟨v,hv,q⟩;rcases List.mem_cons.mp hv with rfl | hv;{rw[e] at q;exact .inl (of_decide_eq_true q)};{exact .inr ⟨v,hv,q⟩}
def pN {b:Bool}{h:WT}{a:Addr}{o:YB}{es es':Array (Int × Value)}{ep:Nat}{t t':ZW}{ks:DU}(ho:h.get? a=some o)(hx:o.ExactSet)(hd:o.data = .set es ep t)
  (hel:ElemsOf (Z3 P w) es'.toList) (hf:t'.fits es'.size=true) (tk:TOk b t') (hn:∃ ns,Xm (es'.toList.map (·.2)) ns/\ns.Perm ks) :
  (h.update a (acb es' t')).get? a=some { o with data:=.set es' (ep+1) t' }/\nZ P w b (h.update a (acb es' t')) a ks:=by
 have g:(h.update a (acb es' t')).get? a=some { o with data:=.set es' (ep+1) t' }:=by
  have q:=Ws (acb es' t') ho (by rw[putSet_of es' t' hd];rfl);rwa [putSet_of es' t' hd] at q
 exact⟨g,_,es',ep+1,t',g,hx,U,hel,hf,tk,hn⟩
def Ql {b:Bool}{a:Addr}{ks:DU}{k:Int}{t0:Tok}{Q:Bool->VL->Prop}(hS:nZ P w b s.heap a ks)(hroom:ks.length+1 < scanBound)
  (h:∀ h' r,Yx a s.heap h'->nZ P w b h' a (step_dedup ks k)->Q r { s with heap:=h' }):V2 (Wb P w) A (setAddHashed a (.int k t0) ((Z3 P w).hash k)) Q E s:=by
 obtain⟨o,es,ep,t,ho,hx,hd,hel,hf,tk,ns,hi,hp⟩:=hS;have key:(Z3 P w).is k (.int k t0)=true:=intKind_is _ _ _ _;have hlen:es.size=ks.length:=by
  rw[← hp.length_eq,← hi.length,VH,W5]
 have hb:es.size < scanBound:=by lia
 have hm:=sE (P:=P) (w:=w) (k:=k) hi;unfold setAddHashed setAddHashedIn;refine XR (VG (ZD ho hd hf ?_));dsimp only;rw[byScan_of U hb hel];simp only[↓reduceIte];unfold setAddByScan;refine VG (VG (ZQ (VG (wpAny_setScan_of key ho hd hf hel ?_))));cases hr:es.toList.findIdx? (fun e=>(Z3 P w).is k e.2) with
 | some j =>
  dsimp only;obtain⟨hj,q,_⟩:=List.findIdx?_eq_some_iff_getElem.mp hr;have hk:k∈ks:=hp.mem_iff.mp (hm.mpr ⟨es.toList[j].2,List.mem_map.mpr ⟨_,YW hj,U⟩,q⟩);have es0:step_dedup ks k=ks:=by
   unfold step_dedup;have hany:(ks.any fun x=>x == k)=true:=List.any_eq_true.mpr ⟨k,hk,beq_self_eq_true k⟩;rw[if_pos hany]
  have q':=h s.heap false (Heap.SameBut.refl a s.heap) (by rw[es0];exact⟨o,es,ep,t,ho,hx,hd,hel,hf,tk,ns,hi,hp⟩);exact VM (VM q')
 | none =>
  dsimp only;have hk:k ∉ ks:=fun z=>by
   obtain⟨v,hv,q⟩:=hm.mp (hp.mem_iff.mpr z);obtain⟨e,he,rfl⟩:=List.mem_map.mp hv;rw[List.findIdx?_eq_none_iff.mp hr e he] at q;cases q
  have es0:step_dedup ks k=ks++[k]:=by
   unfold step_dedup;rw[if_neg];intro z;obtain⟨x,hx',e⟩:=List.any_eq_true.mp z;exact hk (by rw[← eq_of_beq e];exact hx')
  rw[es0] at h;have pm:=layNew_perm t es ((Z3 P w).hash k) (.int k t0);have ft:=layNew_fits t es ((Z3 P w).hash k) (.int k t0);have tk1:=Ed tk es ((Z3 P w).hash k) (.int k t0);generalize layNew t es ((Z3 P w).hash k) (.int k t0)=L at pm ft tk1 ⊢;obtain⟨es1,t1,wd,gv⟩:=L;dsimp only at pm ft tk1 ⊢;rw[Array.toList_push] at pm;have hel1:ElemsOf (Z3 P w) es1.toList:=(hel.push key U).perm pm;have hn1:∃ ns,Xm (es1.toList.map (·.2)) ns/\ns.Perm (ks++[k]):=by
   have i1:Xm ((es.toList++[((Z3 P w).hash k,YT k t0)]).map (·.2)) (ns++[k]):=by
    rw[VV];exact pW hi
   obtain⟨ms,h1,h2⟩:=gG (pm.symm.map (·.2)) i1;exact⟨ms,h1,h2.trans (hp.append (.refl _))⟩
  have hs1:es1.size<=sizeLine:=by
   have:es1.size=es.size+1:=by rw[← W5,pm.length_eq,V6,W5];rfl
   exact fits_of_scanBound (by lia)
  have gw:∀ (b:Bool) {s₁:VL} {Q':Unit->VL->Prop},Q' () s₁->V2 (Wb P w) A (match b with | true=>rule "set.scan.the-table-gave-way" | false=>pure ()) Q' E s₁:=fun b s₁ Q' hq=>by
   cases b;{exact VM hq};{exact ZQ hq}
  have tail:∀ (g:Bool->Sem Unit) (R:DI->VL->Prop) (t2:ZW),(∀ (b:Bool) (s₁:VL) (Q':Unit->VL->Prop),Q' () s₁->V2 (Wb P w) A (g b) Q' E s₁)->t2.fits es1.size=true->TOk b t2 →
    (∀ h',Yx a s.heap h'->nZ P w b h' a (ks++[k])->R (some true) { s with heap:=h' })->V2 (Wb P w) A (do
    storeSet a es1 t2
    if (!wd && t2.tooFull)=true then do
      g (acn t2 es1 (ZV es1.size)).2.2
      storeSet a (acn t2 es1 (ZV es1.size)).1 (acn t2 es1 (ZV es1.size)).2.1
      pure (some true)
     else pure (some true)) R E s:=fun g R t2 hg f2 k2 hR=>by
   refine VG (wpAny_storeSet_of ho hd ?_ hs1);obtain⟨ho1,hS1⟩:=pN (P:=P) (w:=w) ho hx hd hel1 f2 k2 hn1;have sb1:=Xv s.heap a (acb es1 t2);split
   ·have pr:=relayAll_perm t2 es1 (ZV es1.size);have fr:=relayAll_fits t2 es1 (ZV es1.size);have tr:=xm k2 es1 (ZV es1.size);generalize acn t2 es1 (ZV es1.size)=R at pr fr tr ⊢;obtain⟨es2,t3,g2⟩:=R;dsimp only at pr fr tr ⊢;have hn2:∃ ns,Xm (es2.toList.map (·.2)) ns/\ns.Perm (ks++[k]):=by
     obtain⟨ns1,i1,p1⟩:=hn1;obtain⟨ms,h1,h2⟩:=gG (pr.symm.map (·.2)) i1;exact⟨ms,h1,h2.trans p1⟩
    have hs2:es2.size<=sizeLine:=by
     have:es2.size=es1.size:=by rw[← W5,pr.length_eq,W5]
     lia
    refine VG (hg _ _ _ (VG (wpAny_storeSet_of ho1 U ?_ hs2)));obtain⟨_,hS2⟩:=pN (P:=P) (w:=w) ho1 hx U (hel1.perm pr) fr tr hn2;exact VM (hR _ (sb1.trans (Xv _ a _)) hS2)
   ·exact VM (hR _ sb1 hS1)
  refine VG (gw _ ?_);split
  ·refine VG ?_;rw[hashByValue_scannable 8 U];refine VM (tail _ _ _ (fun b s₁ Q' hq=>gw b hq) ?_ ?_ fun h' sb hS=>VM (h h' true sb hS));{exact ft};{exact tk1}
  ·exact VG (VM (tail _ _ _ (fun b s₁ Q' hq=>gw b hq) ft tk1 fun h' sb hS=>VM (h h' true sb hS)))
end
def nW {P:Wi}{w:Wy}{b:Bool}{h h':WT}{a:Addr}{ks:DU}(hk:∀ o,h.get? a=some o->h'.get? a=some o)(hS:nZ P w b h a ks):nZ P w b h' a ks:=by
 obtain⟨o,es,ep,t,ho,r⟩:=hS;exact⟨o,es,ep,t,hk o ho,r⟩
section
variable {P:Wi}{w:Wy}{A:WM}{R:abg->VL->Prop}{I:Addr}{fp wr:List Addr}{G:Array acC->Array acC->Prop}{n:Nat}{Pv:Nat->Value->Prop}{St:Nat->VL->Prop}{b:Bool}
def LQ (W:WalksS P w A.in1 I fp wr G n Pv St)(S:Addr)(hS:S ∉ fp)(val:Nat->Int)(hv:∀ i v,Pv i v->∃ t,v = .int (val i) t)(hb:n+1 < scanBound) :
  ∀ (k i:Nat) (s:VL),n - i=k->i<=n->St i s->nZ P w b s.heap S (firstMet val i)->(∀ s',Moved (S::wr) G s s'->nZ P w b s'.heap S (firstMet val n)->R (.ok (.ret .none)) s') →
   XJ (Wb P w) A (.builtin "set.update.loop" ⟨[.ref S,.ref I],[]⟩) R s:=by
 have nw:S ∉ wr:=fun z=>hS (W.sub _ z);have sub:∀ x∈wr,x∈S::wr:=fun x hx=>V7 _ hx;intro k
 induction k with
 | zero =>
  intro i s hk hi st hs hR;obtain rfl:i=n:=by lia
  refine Yg F.entry_set_update_loop ?_;rw[Yr abr _];refine (show V2 _ A.in1 (Y0 (.ref I) >>= _) _ _ s from VG (W.done s _ _ st fun s' hm=>?_));exact (show V2 _ A.in1 (ret Xn) _ _ s' from VM (hR s' (hm.mono sub) (nW (fun o e=>hm.heap S o nw e) hs)))
 | succ k ih =>
  intro i s hk hi st hs hR;have lt:i < n:=by lia
  refine Yg F.entry_set_update_loop ?_;rw[Yr abr _];refine (show V2 _ A.in1 (Y0 (.ref I) >>= _) _ _ s from VG (W.item i s _ _ lt st fun v s' hP st' hm=>?_));obtain⟨t,rfl⟩:=hv i v hP;have hs':=nW (h':=s'.heap) (fun o e=>hm.heap S o nw e) hs;have room:(firstMet val i).length+1 < scanBound:=by
   have:=firstMet_length_le val i;lia
  refine (show V2 _ A.in1 (Z4 [YT (val i) t] (setAdd S (.int (val i) t)) >>= _) _ _ s' from VG (XR ?_));unfold setAdd;refine XR (VG ((Z3 P w).pyHash (k:=val i) (intKind_is _ _ _ _) ?_));refine Ql (s:={ s' with toks:=s'.toks+1 }) hs' room fun h' r sb hn=>?_;rw[← firstMet_succ] at hn;refine VM ⟨Y8 abr _,ih (i+1) _ (by lia) lt (W.frame _ s' _ _ st' (Xx _) fun x hx o e=>?_) hn fun s'' hm'' hs''=>?_⟩;{rw[sb.2 x (fun z:x=S=>hS (by rw[← z];exact hx))];exact e};{refine hR s'' (Moved.trans W.gtrans ((hm.mono sub).then_heap (Xx _) fun x o hx e=>?_) hm'') hs'';rw[sb.2 x (fun z:x=S=>hx (by rw[z];exact V0))];exact e}
end
section
variable {P:Wi}{w:Wy}{A:WM}{E:Value->VL->Prop}{s:VL}
def Mg (w:Wy):Bool:=!w.params.followText "set-order"
def newS (w:Wy):YB:={ cls:=.type "set",dict:=none,data:=.set #[] 0 (.fresh 0 0 (Mg w)) }
def Qg (a:Value){Q₁:DC}(h:Q₁ (.ref s.heap.objs.size) { s with heap:=s.heap.push (newS w) }) :
  XJ (Wb P w) A (.call (.builtin "set.__new__") ⟨[.type "set",a],[]⟩) (wants Q₁ E) s:=by
 refine abD (show V2 _ A.in1 (do Z5 "set.__new__" ⟨[.type "set",a],[]⟩;again (.builtin "set.__new__" ⟨[.type "set",a],[]⟩)) _ _ s from ?_);refine VG (YF (PySem.F.newCall_set_1 a) (VM ⟨Y8 PySem.F.plain_set_new _,Yg PySem.F.entry_set_new ?_⟩));rw[Yr PySem.F.plain_set_new _];unfold Ze.«set.__new__» Builtin.Frozenset.newClass;have hsub:=sub_set_self;obtain⟨hp,g,d,tk,os⟩:=s;dsimp only
 wp_walk
 refine Zf (VM ?_);dsimp only;simp only[newObj];refine VG (wpAny_alloc (VM ?_));exact VM h
end
section
variable {P:Wi}{w:Wy}{A:WM}{E:Value->VL->Prop}{s:VL}
set_option maxRecDepth 100000 in
set_option maxHeartbeats 3200000 in
def zJ {l:Addr}{items:Array Value}{ns:DU}{Q:DC}(hh:A.handled=none)(hl:s.heap.IsList l items)(hi:Xm items.toList ns)(hb:items.size+1 < scanBound)
  (h:∀ (h':WT) (tk:Nat),nZ P w (Mg w) h' s.heap.objs.size (firstMet (fun i=>ns.getD i 0) items.size)->(∀ b o,b < s.heap.objs.size->s.heap.get? b=some o->h'.get? b=some o)->Q (.ref s.heap.objs.size) { s with heap:=h',toks:=tk }) :
  V2 (Wb P w) A (call (.type "set") [.ref l]) Q E s:=by
 obtain⟨c,tl,hmro⟩:=PySem.F.called_set.mro;have hmade:=PySem.F.called_set.made;have hsub:=PySem.F.called_set.sub;refine aaY (abD (show V2 _ _ (callAny (.type "set") _) _ _ _ from VM ⟨aa7 _ (by decide+kernel),Yg PySem.F.entry_type_call ?_⟩));rw[Around.under_plain (weight_type_call_type "set" [.ref l] []) U];have h1:=PySem.F.called_set.notType;have h2:=PySem.F.called_set.canCreate;have hct:=PySem.F.typeCall_set_1 (.ref l)
 repeat (any_goals (first | assumption | wp_step))
 refine Zr (Qg (.ref l) (E:=E) (Q₁:=fun obj s₁=>obj = .ref s.heap.objs.size/\s₁={ s with heap:=s.heap.push (newS w) }) ⟨U,U⟩) fun r s₁ hr=>?_;cases r with
 | error e=>exact hr
 | ok fl =>
  cases fl with
  | ret obj =>
   obtain⟨rfl,rfl⟩:=hr;have gS:(s.heap.push (newS w)).get? s.heap.objs.size=some (newS w):=V5 _ U;have hT:Shared.TypeIs { s with heap:=s.heap.push (newS w) } (.ref s.heap.objs.size) "set":=⟨_,gS,U⟩;have hli:=PySem.F.called_set.init.lookup;have hbi:=PySem.F.called_set.init.bind (.ref s.heap.objs.size)
   repeat (any_goals (first | assumption | wp_step))
   refine Zr (aaF (R:=wants (fun r s₂=>r = .none/\∃ h' tk,s₂={ s with heap:=h',toks:=tk }/\nZ P w (Mg w) h' s.heap.objs.size (firstMet (fun i=>ns.getD i 0) items.size) ∧
     (∀ b o,b < s.heap.objs.size->s.heap.get? b=some o->h'.get? b=some o)) E) PySem.F.called_set.init.plain PySem.F.entry_set_init (check_set_init_1 hT ?_)) fun r₂ s₂ hr₂=>?_
   ·obtain⟨ol,hol,hcl,nl,hdl⟩:=hl;obtain⟨ocls,odict,odata,oslots⟩:=ol;simp only at hcl hdl;subst hcl hdl;have hol':(s.heap.push (newS w)).get? l=some { cls:=.type "list",dict:=odict,data:=.seq items nl,slots:=oslots }:=VJ _ hol;have hsls:=PySem.F.sub_list_set;have hslf:=PySem.F.sub_list_frozenset;have hne:(Y9 "list" == Y9 "dict")=false:=by decide
    have hl1:(s.heap.push (newS w)).IsList l items:=⟨_,hol',U,nl,U⟩;have gS':(s.heap.push (newS w)).get? s.heap.objs.size=some { cls:=.type "set",dict:=none,data:=.set #[] 0 (.fresh 0 0 (Mg w)) }:=gS;unfold Ze.«set.__init__» noKeywords Builtin.Frozenset.updateFrom;generalize hPI:abJ=PI
    wp_walk
    subst hPI;refine ZF hl1 (VG (wpAny_runValue ?_));have hlS:l < s.heap.objs.size:=V9 hol;have hh3:A.in1.in1.in1.handled=none:=by simp [hh]
    have hneI:l≠(s.heap.push (newS w)).objs.size:=by
     rw[WY];exact Wh (WX hlS)
    have hSf:s.heap.objs.size ∉ [(s.heap.push (newS w)).objs.size,l]:=by
     rw[WY,Ye,Ym];rintro (z | z);{exact absurd z (Wh (XS _))};{exact absurd z (X5 hlS)}
    refine LQ (b:=Mg w) ((ab9 hh3 _ l hneI items).toS) s.heap.objs.size hSf (fun i=>ns.getD i 0) (fun i v hv=>IntsAre.int_at hi i v (by rw[Xq];exact hv)) hb (items.size - 0) 0 _ (by lia) (Wz _)
     ⟨⟨_,V5 _ U,U,U⟩,(hl1.push _)⟩ ?hS0 ?hR
    case hS0=>exact⟨newS w,#[],0,_,VJ _ gS,⟨U,U,U⟩,U,(fun e he=>by simp at he),U,Jz _,[],.nil,.refl _⟩
    case hR =>
     intro s' hm hS';obtain⟨h',g',d',tk',os'⟩:=s';obtain rfl:g'=s.gens:=hm.gens;obtain rfl:d'=s.drawn:=hm.drawn;obtain rfl:os'=s.os:=hm.os;refine (show V2 _ _ _ _ _ _ from VM (show V2 _ _ (ret Xn) _ _ _ from VM ⟨U,h',tk',U,hS',fun b o hb e=>?_⟩));refine hm.heap b o ?_ (VJ _ (VJ _ e));rw[Ye,Ym,WY];rintro (z | z);{exact absurd z (Wh hb)};{exact absurd z (Wh (WX hb))}
   ·cases r₂ with
    | error e=>exact hr₂
    | ok fl₂ =>
     cases fl₂ with
     | ret r =>
      obtain⟨rfl,h',tk,rfl,hS',hk'⟩:=hr₂
      repeat (any_goals (first | assumption | wp_step))
      exact h h' tk hS' hk'
     | _=>exact hr₂.elim
  | _=>exact hr.elim
end
def yw:Manifest.owners.lookup (String.ofList ['r','o','t','a','r','e','t','i','_','t','e','s'].reverse)=some Manifest.sig_set_iterator:=by kernel_rfl
def bA:Slot "set_iterator" "__next__" "set_iterator.__next__" :=
 .of (owner:="set_iterator") (n:="__next__") (by rw[aai,YZ];kernel_rfl) (by decide+kernel) (by decide+kernel) (by decide+kernel) (by first | exact .inl (by decide+kernel) | exact .inr (by decide+kernel)) (by rw[Zg];kernel_rfl)
def fG:entryFor table "set_iterator.__next__" = some Ze.«set_iterator.__next__»:=entryFor_of_tree (by kernel_rfl)
def f9 (a:Value):aa2 "set_iterator.__next__" ⟨[a],[]⟩:=by
 unfold aa2;rw[ab8 (id:="set_iterator.__next__") (n:=['_','_','t','x','e','n','_','_']) (o:=['r','o','t','a','r','e','t','i','_','t','e','s']) (by kernel_rfl) yw]
 kernel_rfl
def jL:Slot "set_iterator" "__iter__" "set_iterator.__iter__" :=
 .of (owner:="set_iterator") (n:="__iter__") (by rw[aai,YZ];kernel_rfl) (by decide+kernel) (by decide+kernel) (by decide+kernel) (by first | exact .inl (by decide+kernel) | exact .inr (by decide+kernel)) (by rw[Zg];kernel_rfl)
def qp:entryFor table "set_iterator.__iter__" = some Ze.«dict_keyiterator.__iter__»:=entryFor_alias (id':="dict_keyiterator.__iter__") (by kernel_rfl) U (by decide+kernel) (by kernel_rfl)
def tD (a:Value):aa2 "set_iterator.__iter__" ⟨[a],[]⟩:=by
 unfold aa2;rw[ab8 (id:="set_iterator.__iter__") (n:=['_','_','r','e','t','i','_','_']) (o:=['r','o','t','a','r','e','t','i','_','t','e','s']) (by kernel_rfl) yw]
 kernel_rfl
def sO:entryFor table "set.__iter__" = some Ze.«frozenset.__iter__»:=entryFor_alias (id':="frozenset.__iter__") (by kernel_rfl) U (by decide+kernel) (by kernel_rfl)
theorem ph {α:Type}:∀ (l:List α) (j:Nat) (h:j < l.length),(l[j]::l.eraseIdx j).Perm l
 | a::r,0,_=>.refl _
 | a::r,j+1,h=>by
  have ih:=ph r j (abz h);rw[List.getElem_cons_succ,List.eraseIdx_cons_succ];exact (List.Perm.swap _ _ _).trans (ih.cons a)
theorem xX {α:Type}(nx:Nat->Nat):∀ (fuel k:Nat) (left:List α) (out:Array α),left.length<=fuel->(pickOrder.go nx fuel k left out).toList.Perm (out.toList++left)
 | 0,k,left,out,h=>by
  rw[pickOrder.go];have e:left=[]:=Zo (by lia);subst e;rw[Xy]
 | fuel+1,k,left,out,h=>by
  rw[pickOrder.go];cases hl:left with
  | nil =>
   simp
  | cons a r =>
   have hlen:nx k % (a::r).length < (a::r).length:=Nat.mod_lt _ (by simp);rw[VN hlen];dsimp only;generalize nx k % (a::r).length=j at hlen ⊢;have ih:=xX nx fuel (k+1) ((a::r).eraseIdx j) (out.push (a::r)[j]) (by rw[List.length_eraseIdx_of_lt hlen,← hl];lia);refine ih.trans ?_;rw[Array.toList_push,ZM];refine List.Perm.append (.refl _) ?_;show ((a::r)[j]::(a::r).eraseIdx j).Perm (a::r);exact ph _ j hlen
def rB {α:Type}(nx:Nat->Nat)(xs:Array α):(aaz nx xs).toList.Perm xs.toList:=by
 unfold aaz;have:=xX nx xs.size 0 xs.toList #[] (by rw[W5];exact VP _);simpa using this
section
variable {P:Wi}{w:Wy}{A:WM}{E:Value->VL->Prop}{s:VL}
theorem xf {α:Type}{Q:List α->VL->Prop}:∀ (n:Nat) (xs:List α) (s:VL),xs.length=n->(∀ ys d,ys.Perm xs->Q ys { s with drawn:=d })->V2 (Wb P w) A (drawOrder n xs) Q E s
 | 0,xs,s,h,hq=>by
  rw[drawOrder];have e:xs=[]:=Zo h;subst e;exact VM (hq [] s.drawn (.refl _))
 | n+1,[],s,h,hq=>by cases h
 | n+1,x::xs,s,h,hq=>by
  rw[drawOrder];{refine VG (fun Γ p hΓ=>?_);show Sem.wp _ _ (.choose .order (x::xs).length .pure) _ _ _ _;rw[Sem.wp_choose];refine⟨by simp,?_⟩;rw[Sem.wp_pure];generalize (Wb P w).w.draws .order (s.drawn.get .order)=z;have hlen:z % (x::xs).length < (x::xs).length:=Nat.mod_lt _ (by simp);generalize z % (x::xs).length=j at hlen ⊢;show V2 _ _ _ _ _ _;rw[VN hlen];dsimp only;refine VG (xf n ((x::xs).eraseIdx j) _ (by rw[List.length_eraseIdx_of_lt hlen];rw[Wc] at h ⊢;lia) fun ys d p=>VM ?_);exact hq _ d ((p.cons _).trans (ph _ j hlen))};{simp}
end
def SIt (h:WT)(I S:Addr)(f:Value)(i n ep:Nat):Prop:=h.get? I=some { cls:=.type "set_iterator",dict:=none,data:=.fields #[f,.int i 0,.ref S,.int n 0,.int ep 0],slots:=#[] }
section
variable {P:Wi}{w:Wy}{A:WM}{E:Value->VL->Prop}{s:VL}{I S:Addr}{o:YB}{es:Array (Int × Value)}{ep:Nat}{t:ZW}
def wD {sl:Int}{tk:Tok}{i:Nat}{Q:DE->VL->Prop}{r:C9}(hh:A.handled=none)(hI:SIt s.heap I S (.int sl tk) i es.size ep)(hS:s.heap.get? S=some o)(hd:o.data = .set es ep t)(hf:t.fits es.size=true)
  (hn:∀ (A:WM) (E:DC) (Q:C9->VL->Prop),Q r s->V2 (Wb P w) A (ac9 S sl.toNat i ep) Q E s)
  (hs:∀ x j h',r=some (x,j)->SIt h' I S (.int (j:Nat) 0) (i+1) es.size ep->Yx I s.heap h'->Q (some x) { s with heap:=h' }) (he:∀ h',r=none->Heap.ExtBut I s.heap h'->Q none { s with heap:=h' }):V2 (Wb P w) A (Y0 (.ref I)) Q E s:=by
 have hT:s.TypeIs (.ref I) "set_iterator":=⟨_,hI,U⟩;unfold Y0;refine VG (Zy (Xr (name:=YL "__next__") hT bA (Xd bA hT fG ?_ (f9 _))));refine (show V2 _ _ (fieldsOf (.ref I) >>= _) _ _ s from VG (wpAny_fieldsOf hI U ?_));refine (show V2 _ _ (setEntries S >>= _) _ _ s from VG (aaR hS hd hf ?_));rw[if_neg (by simp)];refine (show V2 _ _ (ac9 S sl.toNat (i:Int).toNat (ep:Int).toNat >>= _) _ _ s from VG ?_);rw[Wl,Wl];refine hn _ _ _ ?_;cases hr:r with
 | some xj =>
  obtain⟨x,j⟩:=xj;dsimp only;refine VG (XM hI U (by simp) ?_);have g1:=Ws (Yc (·.setIfInBounds 0 (XF (j:Int)))) hI U;refine VG (XM g1 U (by simp) ?_);have g2:=Ws (Yc (·.setIfInBounds 1 (XF ((i:Int)+1)))) g1 U;refine VM ⟨x,U,VM (hs x j _ hr ?_ ((Xv ..).trans (Xv ..)))⟩;exact g2
 | none =>
  dsimp only;refine VG (XM hI U (by simp) ?_);refine (show V2 _ _ (acJ (.type "StopIteration") [] >>= _) _ _ _ from VG ?_);simp only[acJ,newTuple];refine VG (Wx ?_ (by size_fits));refine VG (m:=Zh _ _) (YF (a:=Xn) (by first | rfl | (simp only[Zh];rfl)) (Wx ?_ (by size_fits)));simp only[raiseNew];refine VG (ab6 ?_)
  first | rw[show A.in1.handled=none from hh] | rw[hh]
  refine VG (VM (acT ?_));refine VG (Z2 (T:="StopIteration") (b:=true) ⟨_,V5 _ U,U⟩ abK (VM ?_));exact he _ hr (((Xv ..).extBut.push _).push _)
end
section
variable {P:Wi}{w:Wy}{A:WM}{E:Value->VL->Prop}{s:VL}{I S:Addr}{o:YB}{es:Array (Int × Value)}{ep:Nat}{t:ZW}
def xJ {sl i:Nat} {Q:C9->VL->Prop} (hb:w.params.followText "set-order" = true) (hS:s.heap.get? S=some o) (hd:o.data = .set es ep t) (hf:t.fits es.size=true)
  (h:Q (((aaz (w.params.setOrder S ep) es)[i]?).map fun e=>(e.2,sl)) s):V2 (Wb P w) A (ac9 S sl i ep) Q E s:=by
 unfold ac9;refine VG (ZD hS hd hf ?_);dsimp only;unfold setsByText;refine VG (VG (Zf (VM ?_)));rw[if_pos (show (Wb P w).w.params.followText "set-order" = true from hb),if_neg (by simp)];unfold setWalk;refine VG (VG (ZD hS hd hf ?_));dsimp only;unfold setsByText;refine VG (VG (Zf (VM ?_)));rw[if_pos (show (Wb P w).w.params.followText "set-order" = true from hb)];exact VG (Zf (VM (VM h)))
def uI {sl i:Nat} {Q:C9->VL->Prop} (hb:w.params.followText "set-order" = false) (hS:s.heap.get? S=some o) (hd:o.data = .set es ep t) (hf:t.fits es.size=true) (hl:t.led=true)
  (hp:t.plain=true∨es.size<=1) (hi:XN t.place sl=i)
  (h:Q (match es[i]?,t.place[i]? with | some (_,x),some j=>some (x,j+1) | _,_=>none) s):V2 (Wb P w) A (ac9 S sl i ep) Q E s:=by
 unfold ac9;refine VG (ZD hS hd hf ?_);dsimp only;unfold setsByText;refine VG (VG (Zf (VM ?_)));rw[if_neg (show ¬ (Wb P w).w.params.followText "set-order" = true by rw[show (Wb P w).w.params.followText "set-order" = false from hb];exact VR)];have hdr:(!t.plain && decide (es.size > 1))=false:=by
  rcases hp with q | q;{rw[q];rfl};{rw[decide_eq_false (by lia),aaw]}
 refine abC (show decide ((!t.plain && decide (es.size > 1))=true)=false from decide_eq_false (by rw[hdr];exact VR)) ?_;refine VG (show V2 _ _ (if (!t.led && !es.isEmpty)=true then unsupported "set:maker-not-led" else pure ()) _ _ _ from ?_)
 rw[hl];refine abC (decide_eq_false (by simp)) (VM (VM ?_));rw[hi];exact h
def uY {f:Value}{i n:Nat}{Q:DC}(hI:SIt s.heap I S f i n ep)(h:Q (.ref I) s):V2 (Wb P w) A (abJ (.ref I)) Q E s:=by
 have hT:s.TypeIs (.ref I) "set_iterator":=⟨_,hI,U⟩;refine ack hT jL (Xd jL hT qp (show V2 _ _ (ret (.ref I)) _ _ s from ?_) (tD _));exact VM ⟨_,U,"set_iterator",_,hT,bA.lookup,h⟩
def Hj (hh:A.handled=none) (hne:S≠I) (hb:w.params.followText "set-order" = true) (hd:o.data = .set es ep t) (hf:t.fits es.size=true) :
  Walks P w A I [I,S] [I] es.size (fun i v=>((aaz (w.params.setOrder S ep) es).toList.map (·.2))[i]? = some v) (fun i h=>(∃ (sl:Nat) (tk:Tok),SIt h I S (.int (sl:Int) tk) i es.size ep)/\h.get? S=some o) where
 sub:=fun b hb=>by simp at hb;simp [hb]
 frame:=fun i h h' st hk=>by
  obtain⟨⟨sl,tk,hI⟩,hS⟩:=st;exact⟨⟨sl,tk,hk I (by simp) _ hI⟩,hk S (by simp) _ hS⟩
 item:=fun i s Q E hi st hQ=>by
  obtain⟨⟨sl,tk,hI⟩,hS⟩:=st;have pl:(aaz (w.params.setOrder S ep) es).size=es.size:=by
   have:=(rB (w.params.setOrder S ep) es).length_eq;simpa using this
  have hx:(aaz (w.params.setOrder S ep) es)[i]? = some ((aaz (w.params.setOrder S ep) es)[i]'(by lia)):=Wr _;generalize (aaz (w.params.setOrder S ep) es)[i]'(by lia)=x at hx;refine wD (r:=some (x.2,sl)) hh hI hS hd hf (fun A E Q q=>?_) (fun v j h' hr hI' sb=>?_) (fun h' hr _=>by cases hr);{refine xJ hb hS hd hf ?_;rw[Wl,hx];exact q}
  ·cases hr;refine hQ _ h' s.toks ?_ ⟨⟨sl,0,hI'⟩,sb.2 S hne▸hS⟩ fun b o' hb' e=>?_;{rw[Wf,Xq,hx];rfl};{rw[sb.2 b (fun z=>hb' (by rw[z];exact List.mem_singleton.mpr U))];exact e}
 done:=fun s Q E st hQ=>by
  obtain⟨⟨sl,tk,hI⟩,hS⟩:=st;have pl:(aaz (w.params.setOrder S ep) es).size=es.size:=by
   have:=(rB (w.params.setOrder S ep) es).length_eq;simpa using this
  refine wD (r:=none) hh hI hS hd hf (fun A E Q q=>?_) (fun v j h' hr=>by cases hr) (fun h' _ hx=>?_);{refine xJ hb hS hd hf ?_;rw[Zw (by lia)];exact q};{exact hQ h' s.toks fun b o' hb' e=>hx b o' (fun z=>hb' (by rw[z];exact List.mem_singleton.mpr U)) e}
 self:=fun i s Q E st hQ=>by
  obtain⟨⟨sl,tk,hI⟩,_⟩:=st;exact uY hI hQ
def slotAt (pl:Array Nat):Nat->Nat
 | 0=>0
 | i+1=>pl.getD i 0+1
theorem pU {pl:Array Nat}(h:Ris pl):∀ {i:Nat},i<=pl.size->XN pl (slotAt pl i)=i
 | 0,_=>DY h
 | i+1,hi=>by
  have e:pl[i]? = some (pl.getD i 0):=by
   rw[Wr (by lia),YM,Wr (by lia)];rfl
  exact below_at h e
def Dm (hh:A.handled=none) (hne:S≠I) (hb:w.params.followText "set-order" = false) (hd:o.data = .set es ep t) (hf:t.fits es.size=true) (hl:t.led=true) (hp:t.plain=true∨es.size<=1) (hr:Ris t.place) :
  Walks P w A I [I,S] [I] es.size (fun i v=>(es.toList.map (·.2))[i]? = some v) (fun i h=>(∃ tk:Tok,SIt h I S (.int (slotAt t.place i:Nat) tk) i es.size ep)/\h.get? S=some o) where
 sub:=fun b hb=>by simp at hb;simp [hb]
 frame:=fun i h h' st hk=>by
  obtain⟨⟨tk,hI⟩,hS⟩:=st;exact⟨⟨tk,hk I (by simp) _ hI⟩,hk S (by simp) _ hS⟩
 item:=fun i s Q E hi st hQ=>by
  obtain⟨⟨tk,hI⟩,hS⟩:=st;have ps:t.place.size=es.size:=by
   simp only[SetTable.fits,Xl,beq_iff_eq] at hf;exact hf.1
  have hx:es[i]? = some es[i]:=Wr hi;have hj:t.place[i]? = some (t.place.getD i 0):=by
   rw[Wr (by lia),YM,Wr (by lia)];rfl
  generalize es[i]=x at hx;obtain⟨k,v⟩:=x;refine wD (r:=some (v,t.place.getD i 0+1)) hh hI hS hd hf (fun A E Q q=>?_) (fun u j h' hr hI' sb=>?_) (fun h' hr _=>by cases hr);{refine uI hb hS hd hf hl hp (i:=i) (by rw[Wl];exact pU hr (by lia)) ?_;rw[hx,hj];exact q}
  ·cases hr;refine hQ _ h' s.toks ?_ ⟨⟨0,hI'⟩,sb.2 S hne▸hS⟩ fun b o' hb' e=>?_;{rw[Wf,Xq,hx];rfl};{rw[sb.2 b (fun z=>hb' (by rw[z];exact List.mem_singleton.mpr U))];exact e}
 done:=fun s Q E st hQ=>by
  obtain⟨⟨tk,hI⟩,hS⟩:=st;have ps:t.place.size=es.size:=by
   simp only[SetTable.fits,Xl,beq_iff_eq] at hf;exact hf.1
  refine wD (r:=none) hh hI hS hd hf (fun A E Q q=>?_) (fun v j h' hr=>by cases hr) (fun h' _ hx=>?_);{refine uI hb hS hd hf hl hp (i:=es.size) (by rw[Wl];exact pU hr (by lia)) ?_;rw[Zw (VP _)];exact q};{exact hQ h' s.toks fun b o' hb' e=>hx b o' (fun z=>hb' (by rw[z];exact List.mem_singleton.mpr U)) e}
 self:=fun i s Q E st hQ=>by
  obtain⟨⟨tk,hI⟩,_⟩:=st;exact uY hI hQ
end
section
variable {P:Wi}{w:Wy}{A:WM}{E:Value->VL->Prop}{s:VL}{I S T:Addr}{o:YB}{es:Array (Int × Value)}{ep:Nat}{t:ZW}
def dG (pl:DV):DJ:=pl.map fun j:Nat=>XF (j:Int)
def Fg {pl:DV}(hh:A.handled=none)(hne:S≠I)(hnt:T≠I)(hd:o.data = .set es ep t)(hf:t.fits es.size=true)(hp:pl.Perm (Xb es.size)) :
  Walks P w A I [I,S,T] [I] es.size (fun i v=>(pl.map fun j=>(es.getD j (0,.none)).2)[i]? = some v) (fun i h=>SIt h I S (.ref T) i es.size ep/\h.get? S=some o/\h.IsTuple T (dG pl).toArray) where
 sub:=fun b hb=>by simp at hb;simp [hb]
 frame:=fun i h h' st hk=>by
  obtain⟨hI,hS,o',ho',r⟩:=st;exact⟨hk I (by simp) _ hI,hk S (by simp) _ hS,o',hk T (by simp) _ ho',r⟩
 item:=fun i s Q E hi st hQ=>by
  obtain⟨hI,hS,hT⟩:=st;have lp:pl.length=es.size:=by rw[hp.length_eq,WQ]
  have hT0:s.TypeIs (.ref I) "set_iterator":=⟨_,hI,U⟩;obtain⟨j,hj⟩:∃ j,pl[i]? = some j:=⟨pl[i],VN (by lia)⟩;have hj2:j < es.size:=List.mem_range.mp (hp.mem_iff.mp (Wk hj));have hx:es[j]? = some (es.getD j (0,.none)):=by
   rw[Wr hj2,YM,Wr hj2];rfl
  obtain⟨ot,hot,hct,nt,hdt⟩:=id hT;unfold Y0;refine VG (Zy (Xr (name:=YL "__next__") hT0 bA (Xd bA hT0 fG ?_ (f9 _))));refine (show V2 _ _ (fieldsOf (.ref I) >>= _) _ _ s from VG (wpAny_fieldsOf hI U ?_));refine (show V2 _ _ (setEntries S >>= _) _ _ s from VG (aaR hS hd hf ?_));rw[if_neg (by simp)];refine (show V2 _ _ (abn (.ref T) >>= _) _ _ s from VG (X4 hot hdt ?_));have hpl:(dG pl).toArray[(i:Int).toNat]? = some (.int (j:Int) 0):=by
   rw[Wl,abH];show (pl.map fun j:Nat=>XF (j:Int))[i]? = _;rw[Wf,hj];rfl
  dsimp only;rw[hpl];dsimp only;refine VG (show V2 _ _ (setNextDrawn S (j:Int).toNat (ep:Int).toNat) _ _ _ from ?_);unfold setNextDrawn;refine VG (ZD hS hd hf ?_);dsimp only;rw[Wl,Wl,if_neg (by simp),hx];refine VM (VG (XM hI U (by simp) ?_));have g1:=Ws (Yc (·.setIfInBounds 1 (XF ((i:Int)+1)))) hI U;refine VM ⟨_,U,VM (hQ _ _ s.toks ?_ ⟨g1,?_,?_⟩ fun b o' hb' e=>?_)⟩;{rw[Wf,hj];rfl};{rw[Wo _ _ (XQ hne)];exact hS};{exact⟨ot,by rw[Wo _ _ (XQ hnt)];exact hot,hct,nt,hdt⟩};{rw[Wo _ _ (fun z:I=b=>hb' (by rw[z];exact List.mem_singleton.mpr U))];exact e}
 done:=fun s Q E st hQ=>by
  obtain⟨hI,hS,hT⟩:=st;have lp:pl.length=es.size:=by rw[hp.length_eq,WQ]
  have hT0:s.TypeIs (.ref I) "set_iterator":=⟨_,hI,U⟩;obtain⟨ot,hot,hct,nt,hdt⟩:=id hT;unfold Y0;refine VG (Zy (Xr (name:=YL "__next__") hT0 bA (Xd bA hT0 fG ?_ (f9 _))));refine (show V2 _ _ (fieldsOf (.ref I) >>= _) _ _ s from VG (wpAny_fieldsOf hI U ?_));refine (show V2 _ _ (setEntries S >>= _) _ _ s from VG (aaR hS hd hf ?_));rw[if_neg (by simp)];refine (show V2 _ _ (abn (.ref T) >>= _) _ _ s from VG (X4 hot hdt ?_));have hpl:(dG pl).toArray[(es.size:Int).toNat]? = none:=by
   rw[Wl,abH];show (pl.map fun j:Nat=>XF (j:Int))[es.size]? = _;rw[Wf,X8 (by lia)];rfl
  dsimp only;rw[hpl];dsimp only;refine VG (XM hI U (by simp) ?_);have g1:=Ws (Yc (·.setIfInBounds 0 (XF 0))) hI U;refine VG (XM g1 U (by simp) ?_);refine (show V2 _ _ (acJ (.type "StopIteration") [] >>= _) _ _ _ from VG ?_);simp only[acJ,newTuple];refine VG (Wx ?_ (by size_fits));refine VG (m:=Zh _ _) (YF (a:=Xn) (by first | rfl | (simp only[Zh];rfl)) (Wx ?_ (by size_fits)));simp only[raiseNew];refine VG (ab6 ?_)
  first | rw[show A.in1.handled=none from hh] | rw[hh]
  refine VG (VM (acT ?_));refine VG (Z2 (T:="StopIteration") (b:=true) ⟨_,V5 _ U,U⟩ abK (VM ?_));refine hQ _ s.toks fun b o' hb' e=>?_;have hbI:b≠I:=fun z=>hb' (by rw[z];exact List.mem_singleton.mpr U);exact ((((Xv ..).trans (Xv ..)).extBut.push _).push _) b o' hbI e
 self:=fun i s Q E st hQ=>uY st.1 hQ
end
section
variable {P:Wi}{w:Wy}{A:WM}{E:Value->VL->Prop}{s:VL}{S:Addr}
def J9 {Q:Bool->VL->Prop} (hT:s.TypeIs (.ref S) "set") (h:Q false s):V2 (Wb P w) A (adf (.ref S)) Q E s:=by
 unfold adf;refine VG (aaL hT PySem.F.slot_set_len.lookup ?_);generalize hid:("set.__len__" : String)=id0
 wp_delta
 rw[show splitId id0=some ("set","__len__") from by subst hid;decide+kernel];subst hid;refine VG (Z2 (T:="set") (b:=true) hT (by rw[Zg];kernel_rfl) ?_);refine acY (fun z=>absurd z (by decide)) (fun _=>acY (fun _=>?_) (fun z=>absurd (by decide+kernel) z));exact VG (acj hT (VM h))
def KC {b:Bool}{ks:DU}{Q:DC}(hh:A.handled=none)(hb:b=Mg w)(hS:nZ P w b s.heap S ks)(hz:ks.length<=sizeLine)
  (h:∀ (I:Addr) (fp:DM) (n:Nat) (vs:DJ) (ns:DU) (St:Nat->WT->Prop) (s':VL),Walks P w A I fp [I] n (fun i v=>vs[i]? = some v) St->St 0 s'.heap->Xm vs ns->ns.Perm ks->vs.length=n->(∀ x∈fp,x=S∨s.heap.objs.size<=x)->s.heap.objs.size<=I →
   s'.os=s.os->s'.gens=s.gens->(∀ b o,s.heap.get? b=some o->s'.heap.get? b=some o)->Q (.ref I) s'):V2 (Wb P w) A (abJ (.ref S)) Q E s:=by
 obtain⟨o,es,ep,t,ho,hx,hd,hel,hf,tk,ns,hi,hp⟩:=hS;have hT:s.TypeIs (.ref S) "set":=⟨o,ho,hx.1⟩;have hlt:S < s.heap.objs.size:=V9 ho;refine ack hT PySem.F.slot_set_iter (Xd PySem.F.slot_set_iter hT sO ?_ (PySem.F.args_set_iter_1 _));refine (show V2 _ _ (Builtin.Frozenset.sizeOf S >>= _) _ _ s from ?_);unfold Builtin.Frozenset.sizeOf;refine VG (VG (aaR ho hd hf (VM ?_)));unfold setDrawn setsByText;refine VG (VG (ZD ho hd hf ?_));dsimp only;refine VG (VG (Zf (VM (VM ?_))));have hps:t.place.size=es.size:=by
  simp only[SetTable.fits,Xl,beq_iff_eq] at hf;exact hf.1
 have hlen:(es.toList.map (·.2)).length=es.size:=by rw[VH,W5]
 have hez:es.size<=sizeLine:=by
  have h1:=hi.length;have h2:=hp.length_eq;lia
 have start:∀ (vs:DJ) (ns':DU) (St:Nat->WT->Prop),Walks P w A s.heap.objs.size [s.heap.objs.size,S] [s.heap.objs.size] es.size (fun i v=>vs[i]? = some v) St->(∀ h,SIt h s.heap.objs.size S (.int (0:Nat) 0) 0 es.size ep->h.get? S=some o->St 0 h) →
   Xm vs ns'->ns'.Perm ks->vs.length=es.size->V2 (Wb P w) A.in1 (do
    let first ← pure (XF 0)
    let e ← setEpoch S
    let r ← newFields "set_iterator" [first,XF 0,We S,XF (es.size:Int),XF (e:Int)]
    ret r) (fun fin s'=>∃ v,fin=Fin.done (Flow.ret v)/\∃ T' r,s'.TypeIs v T'/\abu (Y9 T') (YL "__next__")=pure (some r)/\Q v s') E s:=fun vs ns' St W hst hi' hp' hl'=>by
  refine VG (VM (VG (wpAny_setEpoch_of ho hd hf (VG (Wx (VM ?_))))));have g:(s.heap.push { cls:=.type "set_iterator",data:=.fields [XF 0,XF 0,We S,XF (es.size:Int),XF (ep:Int)].toArray }).get? s.heap.objs.size=some { cls:=.type "set_iterator",data:=.fields [XF 0,XF 0,We S,XF (es.size:Int),XF (ep:Int)].toArray }:=V5 _ U;refine⟨_,U,"set_iterator",_,⟨_,g,U⟩,bA.lookup,?_⟩;refine h s.heap.objs.size [s.heap.objs.size,S] es.size vs ns' St _ W (hst _ g (VJ _ ho)) hi' hp' hl' (fun x hx'=>?_) (VP _) U U fun b' o' e=>VJ _ e;rcases List.mem_cons.mp hx' with rfl | hx';{exact .inr (VP _)};{exact .inl (List.mem_singleton.mp hx')}
 have hne:S≠s.heap.objs.size:=Wh hlt;cases hB:w.params.followText "set-order" with
 | true =>
  refine abC (decide_eq_false (show ¬ (!w.params.followText "set-order" && (!t.plain && decide (es.size > 1)))=true by rw[hB];exact VR)) ?_;have pp:=rB (w.params.setOrder S ep) es;obtain⟨ms,h1,h2⟩:=gG (pp.symm.map (·.2)) hi;exact start _ ms _ (Hj hh hne hB hd hf) (fun h' q1 q2=>⟨⟨0,0,q1⟩,q2⟩) h1 (h2.trans hp) (by rw[VH,pp.length_eq,W5])
 | false =>
  have hled:t.led=true:=by
   rw[tk.led,hb];unfold Mg;rw[hB];rfl
  cases hD:(!t.plain && decide (es.size > 1)) with
  | false =>
   refine abC (decide_eq_false (show ¬ (!w.params.followText "set-order" && (!t.plain && decide (es.size > 1)))=true by rw[hD,aaw];exact VR)) ?_;have hpl:t.plain=true∨es.size<=1:=by
    rw[Bool.and_eq_false_iff] at hD;rcases hD with q | q;{exact .inl (by simpa using q)};{exact .inr (by have:=of_decide_eq_false q;lia)}
   have hris:Ris t.place:=by
    rcases hpl with q | q;{exact tk.ris q}
    ·unfold Ris;have hl1:t.place.toList.length<=1:=by rw[W5];lia
     generalize t.place.toList=l at hl1
     match l,hl1 with
     | [],_=>exact abd
     | [x],_=>exact List.pairwise_singleton _ _
   exact start _ ns _ (Dm hh hne hB hd hf hled hpl hris) (fun h' q1 q2=>⟨⟨0,q1⟩,q2⟩) hi hp hlen
  | true =>
   refine wpAny_ite_true (decide_eq_true (show (!w.params.followText "set-order" && (!t.plain && decide (es.size > 1)))=true by rw[hD,hB];rfl)) ?_;refine VG (xf es.size (Xb es.size) s WQ fun pl d pp=>?_);simp only[newTuple];have lp:pl.length=es.size:=by rw[pp.length_eq,WQ]
   refine VG (Wx ?_ (show (dG pl).toArray.size<=sizeLine by unfold dG;rw[Wd,VH];lia));have sz1:(s.heap.push { cls:=.type "tuple",data:=.seq (dG pl).toArray }).objs.size=s.heap.objs.size+1:=WY _ _;have gT:(s.heap.push { cls:=.type "tuple",data:=.seq (dG pl).toArray }).get? s.heap.objs.size=some { cls:=.type "tuple",data:=.seq (dG pl).toArray }:=V5 _ U;have ho1:(s.heap.push { cls:=.type "tuple",data:=.seq (dG pl).toArray }).get? S=some o:=VJ _ ho;refine VG (wpAny_setEpoch_of (o:=o) (es:=es) (t:=t) ho1 hd hf (VG (Wx (VM ?_))));have g:((s.heap.push { cls:=.type "tuple",data:=.seq (dG pl).toArray }).push { cls:=.type "set_iterator",data:=.fields [We s.heap.objs.size,XF 0,We S,XF (es.size:Int),XF (ep:Int)].toArray }).get? (s.heap.push { cls:=.type "tuple",data:=.seq (dG pl).toArray }).objs.size=some { cls:=.type "set_iterator",data:=.fields [We s.heap.objs.size,XF 0,We S,XF (es.size:Int),XF (ep:Int)].toArray }:=V5 _ U;refine⟨_,U,"set_iterator",_,⟨_,g,U⟩,bA.lookup,?_⟩;have hne1:S≠(s.heap.push { cls:=.type "tuple",data:=.seq (dG pl).toArray }).objs.size:=by
    rw[sz1];exact Wh (WX hlt)
   have hne2:s.heap.objs.size≠(s.heap.push { cls:=.type "tuple",data:=.seq (dG pl).toArray }).objs.size:=by
    rw[sz1];exact Wh (XS _)
   have hv:(pl.map fun j=>(es.getD j (0,.none)).2).Perm (es.toList.map (·.2)):=by
    refine (pp.map _).trans ?_;have e:(Xb es.size).map (fun j=>(es.getD j (0,Xn)).2)=es.toList.map (·.2):=by
     apply List.ext_getElem?;intro i;have ea:es.toList[i]? = es[i]?:=Xq;rw[Wf,Wf,ea];by_cases hi':i < es.size;{rw[Zd hi',Wr hi'];simp [YM,Wr hi']};{have er:(Xb es.size)[i]? = none:=X8 (by rw[WQ];lia);rw[er,Zw (by lia)];rfl}
    rw[e]
   have le1:s.heap.objs.size<=(s.heap.push { cls:=.type "tuple",data:=.seq (dG pl).toArray }).objs.size:=by
    rw[sz1];exact Xx _
   obtain⟨ms,h1,h2⟩:=gG hv.symm hi;refine h _ [(s.heap.push { cls:=.type "tuple",data:=.seq (dG pl).toArray }).objs.size,S,s.heap.objs.size] es.size _ ms _ _ (Fg (T:=s.heap.objs.size) hh hne1 hne2 hd hf pp) ⟨g,VJ _ ho1,_,VJ _ gT,U,0,U⟩ h1 (h2.trans hp) (by rw[VH];exact lp) (fun x hx'=>?_) le1 U U fun b' o' e=>VJ _ (VJ _ e);rcases List.mem_cons.mp hx' with rfl | hx';{exact .inr le1}
   ·rcases List.mem_cons.mp hx' with rfl | hx';{exact .inl U};{exact .inr (by rw[List.mem_singleton.mp hx'];exact VP _)}
def zV {ks:DU}{Q:DJ->VL->Prop}(hh:A.handled=none)(hS:nZ P w (Mg w) s.heap S ks)(hz:ks.length<=sizeLine)
  (h:∀ (vs:DJ) (ns:DU) (s':VL),Xm vs ns->ns.Perm ks->s.heap.objs.size<=s'.heap.objs.size->s'.os=s.os->s'.gens=s.gens->(∀ b o,s.heap.get? b=some o->s'.heap.get? b=some o)->Q vs s'):V2 (Wb P w) A (collect (.ref S)) Q E s:=by
 obtain⟨o,es,ep,t,ho,hx,_⟩:=id hS;have hlt:S < s.heap.objs.size:=V9 ho;have hSl:s.heap.objs.size≠S:=X5 hlt;unfold collect;refine VG (wpAny_runValue (Yg PySem.F.entry_proto_collect ?_));rw[Yr PySem.F.plain_proto_collect _];refine (show V2 _ A.in1 (ada [] >>= fun l=>again (.builtin "list.__iadd__" ⟨[l,.ref S],[]⟩)) _ _ s from VG (Wx ?_));refine VM ⟨Y8 PySem.F.plain_list_iadd _,Yg PySem.F.entry_list_iadd ?_⟩;rw[Yr PySem.F.plain_list_iadd _];generalize hN:s.heap.push { cls:=.type "list",data:=.seq ([]:DJ).toArray }=h1;have gL:h1.get? s.heap.objs.size=some { cls:=.type "list",data:=.seq ([]:DJ).toArray }:=by rw[← hN];exact V5 _ U
 have k1:∀ b o,s.heap.get? b=some o->h1.get? b=some o:=fun b o e=>by rw[← hN];exact VJ _ e
 have sz1:h1.objs.size=s.heap.objs.size+1:=by rw[← hN];exact WY _ _
 have hT:Shared.TypeIs { s with heap:=h1 } (.ref S) "set":=⟨o,k1 _ _ ho,hx.1⟩;refine (show V2 _ A.in1 (ZP (.ref s.heap.objs.size) (.ref S) (.ref s.heap.objs.size)) _ _ { s with heap:=h1 } from ?_);unfold ZP;refine VG (acj hT ?_);have q1:Builtin.List.listSameRef (.ref s.heap.objs.size) (.ref S)=false:=by simp [Builtin.List.listSameRef,hSl]
 have q2:(Y9 "set" == Y9 "list")=false:=by decide
 have q3:(Y9 "set" == Y9 "tuple")=false:=by decide
 simp only[q1,q2,q3,Bool.or_false,ach,if_false];refine VG (KC (s:={ s with heap:=h1 }) hh U (nW (fun o e=>k1 S o e) hS) hz fun I fp n vs ns St s2 W st hi hp hl hfp hI os2 gs2 k2=>?_);have gL2:=k2 _ _ gL;have hTs:s2.TypeIs (.ref S) "set":=⟨o,k2 _ _ (k1 _ _ ho),hx.1⟩;have hLf:s.heap.objs.size ∉ fp:=fun z=>by
  rcases hfp _ z with q | q;{exact hSl q};{have q':h1.objs.size<=s.heap.objs.size:=q;rw[sz1] at q';exact absurd q' (Nat.not_succ_le_self _)}
 have hz':n<=sizeLine:=by
  have e1:=hi.length;have e2:=hp.length_eq;lia
 have key:∀ (R:abg->VL->Prop),(∀ (s':VL) (c':Nat),s'.heap.get? s.heap.objs.size=some { cls:=.type "list",dict:=none,data:=.seq vs.toArray c',slots:=#[] }->s'.os=s.os->s'.gens=s.gens->(∀ b o,s.heap.get? b=some o->s'.heap.get? b=some o)->R (.ok (.ret (.ref s.heap.objs.size))) s') →
   ∀ (h':WT) (c tk:Nat),St 0 h'->(∀ b o,b≠s.heap.objs.size->s2.heap.get? b=some o->h'.get? b=some o)->h'.get? s.heap.objs.size=some { cls:=.type "list",data:=.seq #[] c } →
   XJ (Wb P w) A (.builtin "list.extend.loop" ⟨[.ref s.heap.objs.size,.ref I,.ref s.heap.objs.size],[]⟩) R { s2 with heap:=h',toks:=tk }:=fun R hR h' c tk st' kp gl=>by
  refine codeAny_extend_loopS W.toS hz' s.heap.objs.size hLf _ n 0 _ #[] c U (Wz _) st' gl (ItemsOf.nil _) fun s' acc' c' hm gL' hacc=>?_;have eacc:acc'=vs.toArray:=by
   apply Array.ext_getElem?;intro j;have ev:vs.toArray[j]? = vs[j]?:=abH;rw[ev];by_cases hj:j < acc'.size;{have e:=hacc.2 j acc'[j] (Wr hj);rw[Wr hj];exact e.symm};{rw[Zw (by lia),X8 (by have:=hacc.1;lia)]}
  rw[eacc] at gL';refine hR s' c' gL' (hm.os.trans os2) (hm.gens.trans gs2) fun b o' e=>?_;have hbl:b < s.heap.objs.size:=V9 e;refine hm.heap b o' ?_ (kp b o' (Wh hbl) (k2 _ _ (k1 _ _ e)));rw[Ye,Ym];rintro (z | z);{exact absurd z (Wh hbl)};{have q:h1.objs.size<=I:=hI;rw[sz1,← z] at q;exact absurd (V4 hbl (ZK q)) (Xa _)}
 refine VG (XR (J9 hTs ?_));have fin:∀ (s':VL) (c':Nat),s'.heap.get? s.heap.objs.size=some { cls:=.type "list",dict:=none,data:=.seq vs.toArray c',slots:=#[] }->s'.os=s.os->s'.gens=s.gens->(∀ b o,s.heap.get? b=some o->s'.heap.get? b=some o) →
   V2 (Wb P w) A (load s.heap.objs.size >>= fun o=>match o.data with | .seq xs _=>pure xs.toList | _=>unsupported "internal:collect") Q E s':=fun s' c' g e1 e2 e3=>VG (wpAny_load g (VM (h vs ns s' hi hp (Yi (V9 g)) e1 e2 e3)))
 refine acY (fun _=>?_) (fun _=>VM ⟨Y8 PySem.F.plain_extend_loop _,key _ (fun s' c' g e1 e2 e3=>fin s' c' g e1 e2 e3) s2.heap _ s2.toks st (fun b o _ e=>e) gL2⟩);refine VG (ZQ (VG (show V2 _ _ (updateSeq s.heap.objs.size (·.push .none) >>= fun _=>updateSeq s.heap.objs.size (·.pop)) _ _ _ from ?_)));refine VG (aaK gL2 U ?_);have g3:=Ws (Zt (·.push Xn)) gL2 U;refine aaK (hz:=by seq_fits) g3 U ?_;have g4:=Ws (Zt (·.pop)) g3 U;have oth:∀ b o',b≠s.heap.objs.size->s2.heap.get? b=some o'->((s2.heap.update s.heap.objs.size (Zt (·.push Xn))).update s.heap.objs.size (Zt (·.pop))).get? b=some o':=fun b o' hb e=>by
  rw[Wo _ _ (XQ hb),Wo _ _ (XQ hb)];exact e
 exact VM ⟨Y8 PySem.F.plain_extend_loop _,key _ (fun s' c' g e1 e2 e3=>fin s' c' g e1 e2 e3) _ _ s2.toks (W.frame 0 _ _ st fun b hb o' e=>oth b o' (fun z=>hLf (by rw[← z];exact hb)) e) oth g4⟩
end
section
variable {P:Wi}{w:Wy}{A:WM}{E:Value->VL->Prop}{s:VL}{S:Addr}
def Fb {ks:DU}{Q:DC}(hh:A.handled=none)(hS:nZ P w (Mg w) s.heap S ks)(h64:ks.length < 64)
  (h:∀ (l:Addr) (vs:DJ) (ns:DU) (c:Nat) (s':VL),Xm vs ns->ns.Perm ks->ns.Pairwise (·<=·)->s'.heap.get? l=some { cls:=.type "list",data:=.seq vs.toArray c }->s.heap.objs.size<=l->s'.os=s.os->s'.gens=s.gens →
   (∀ b o,s.heap.get? b=some o->s'.heap.get? b=some o)->Q (.ref l) s'):V2 (Wb P w) A (call (.builtin "sorted") [.ref S]) Q E s:=by
 refine aa9 kind_sorted plain_sorted entry_sorted (args_sorted1 _) ?_;unfold Ze.«sorted»;refine VG (m:=checkCount "sorted" 1 1 _) (VM ?_);refine VG (zV hh hS (Yi (V4 h64 (by decide))) fun vs ns s1 hi hp hsz os1 gs1 k1=>?_);have hl:vs.length < 64:=by
  have e1:=hi.length;have e2:=hp.length_eq;lia
 refine VG (ab5 ?_);have g1:(s1.heap.push (aaN "list" vs.toArray 0)).get? s1.heap.objs.size=some (aaN "list" vs.toArray 0):=V5 _ U;refine VG (XR (Xd slot_list_sort ⟨_,g1,U⟩ ac0 (list_sort_tree g1 hi hl fun out ns' a1 a2 a3=>⟨_,U,?_⟩) (args_list_sort _)));obtain⟨c,hc⟩:=sortedHeap_at (out:=out) g1;refine VM ⟨_,U,h s1.heap.objs.size out.toList ns' c _ a1 (a2.trans hp) a3 ?_ hsz os1 gs1 fun b o e=>?_⟩;{exact hc};{have e1:=k1 b o e;have lt:=V9 e1;rw[sortedHeap_old (Wh lt) (by rw[WY];exact WX lt)];exact VJ _ e1}
end
def ddI (ns:DU):DU:=firstMet (fun i=>ns.getD i 0) ns.length
def Inv.JN {X:Cx}{ZY:Do}{σ:St}{H:Hp}{s s':VL}{l:Addr}{ys:List V}{its:DJ}{c:Nat}(I:Inv X ZY σ H s)(ho:s'.os=s.os)(hg:s'.gens=s.gens)(k:∀ b u,s.heap.get? b=some u->s'.heap.get? b=some u)
  (hl:s.heap.objs.size<=l) (hv:Vals ys its) (hz:ys.length<=sizeLine) (g:s'.heap.get? l=some { cls:=.type "list",data:=.seq its.toArray c }):Inv X ZY σ (upd H l (.lst ys)) s':=by
 have J:=I.laid (t':=s.toks) (o:=.lst ys) k hl ⟨hz,its,c,hv,g⟩;exact⟨J.ok,ho.trans I.os,by rw[hg];exact I.bare,J.base,J.loc,J.cell,J.free,J.freeC,J.pin,J.hok,J.len⟩
def tSS (K:Ww)(te:TA):TE:=fun σ H Q=>te σ H fun xs H1=>∃ (a:Addr) (ns:DU),xs=[.ref a]/\SqL K H1 a (ns.map V.int)/\ns.length<=4000/\(ddI ns).length < 64/\∀ ms:DU,ms.Perm (ddI ns)->ms.Pairwise (·<=·)->∀ l,H1 l=none->Q (.ref l) (upd H1 l (.lst (ms.map V.int)))
def pH {X:Cx} {e:Expr} {te:TA} {p1 p2 q1 q2:ZX} (hc:X.calm=true) (hg1:Gl X "sorted") (hm1:X.mg "sorted" = none) (hg2:Gl X "set") (hm2:X.mg "set" = none) (ha:PA X [e] te)
  (hb1:W6 "sorted" = some (.builtin "sorted"):=by decide+kernel) (hb2:W6 "set" = some (.type "set"):=by decide+kernel)
  (he1:Wg [.Call (.Name "set" p2) [e] [] q2] X.env=(false,Xw (.Call (.Name "set" p2) [e] [] q2) X.env)::Wg [] X.env:=by rfl) (hp1:(Yk q1 (Wg [] X.env)).any (·.1)=false:=by rfl)
  (he2:Wg [e] X.env=(false,Xw e X.env)::Wg [] X.env:=by rfl) (hp2:(Yk q2 (Wg [] X.env)).any (·.1)=false:=by rfl) :
  PE X (.Call (.Name "sorted" p1) [.Call (.Name "set" p2) [e] [] q2] [] q1) (tSS X.K te):=by
 intro ZY s σ H Q I h;refine Yj (jH I hg1 hm1 hb1 ?_ (by decide) (by decide));refine acL ?_ he1 hp1;rw[he1];refine (show V2 _ _ (spliced ((false,Xw (.Call (.Name "set" p2) [e] [] q2) X.env)::Yk q1 (Wg [] X.env))) _ _ s from acg ?_);refine Yj (jH I hg2 hm2 hb2 ?_ (by decide) (by decide));refine X3 (thn (ha q2 ZY s σ H _ I h) fun us s1 ⟨vs,H1,I1,r1,q⟩=>?_) he2 hp2;obtain⟨a,ns,rfl,hq,hl,h64,hQ⟩:=q;obtain⟨u,rfl,ru⟩:=vals1 r1;cases ru;obtain⟨its,rv,pl,_⟩:=I1.list hq;have hi:Xm its ns:=intsAre_of rv;have hsz:its.toArray.size=ns.length:=by rw[Wd];exact hi.length
 refine zJ (I1.ok.hd hc) pl.isList hi (by rw[hsz];exact acd (acM hl) (by decide)) fun h' tk hS hk=>?_;rw[hsz] at hS;have I2:Inv X ZY σ H1 { s1 with heap:=h',toks:=tk }:=I1.kept (t':=tk) fun b o e=>hk b o (V9 e) e;refine (show V2 _ _ (spliced []) _ _ _ from acD ?_);refine Fb (I1.ok.hd hc) hS h64 fun l vs ms c s3 hi3 hp3 hw3 g3 hl3 os3 gs3 k3=>?_;have hml:(ms.map V.int).length<=sizeLine:=by
  rw[VH,hp3.length_eq];exact Yi (V4 h64 (by decide))
 exact⟨.ref l,_,I2.JN os3 gs3 k3 hl3 (iM hi3) hml g3,U,hQ ms hp3 hw3 l (I2.hok.fresh hl3)⟩
section
variable {X:Cx}{ZY:Do}{s:VL}{σ:St}{H:Hp}
end
section
variable {X:Cx}{k:Nat}
end
section
variable {X:Cx}{k:Nat}
end
def mxD (d:Int):DU->Int
 | []=>d
 | a::r=>r.foldl max a
theorem gK:∀ (r:DU) (a:Int),a<=r.foldl max a/\∀ b∈r,b<=r.foldl max a
 | [],a=>⟨Yq _,by simp⟩
 | c::r,a=>by
  obtain⟨h1,h2⟩:=gK r (max a c);rw[W9];refine⟨by lia,fun b hb=>?_⟩;rcases List.mem_cons.mp hb with rfl | hb;{lia};{exact h2 b hb}
theorem wH {n:Int}:∀ {l:DJ} {ns:DU} {j:Nat},Xm l ns->ns[j]? = some n->∃ t,l[j]? = some (.int n t)
 | _,_,j,.nil,h=>by simp at h
 | _,_,0,.cons _ _ _,h=>by
  cases (show some _=some n from h);exact⟨_,U⟩
 | _,_,j+1,.cons _ _ r,h=>by
  obtain⟨t,e⟩:=wH (j:=j) r (by simpa using h);exact⟨t,by simpa using e⟩
def dkw (dk:Da):Db:=dk.toList.map fun d=>(("default" : Wt),YT d.1 d.2)
section
variable {prog:Wi}{w:Wy}{A:WM}{R:abg->VL->Prop}{E:DC}{s:VL}
def G8 {it l S:Addr}{items:Array Value}{ns:DU}(hh:A.handled=none)(hi:Xm items.toList ns)(hne:l≠it)(hS1:S≠it)(hS2:S≠l)(kw:Db) :
  ∀ (k j:Nat) (s:VL) (b:Int) (t:Tok) (c:Nat),ns.length - j=k->j<=ns.length->s.heap.IsListIter it l j->s.heap.IsList l items →
   s.heap.get? S=some { cls:=.type "list",dict:=none,data:=.seq #[.int b t,.int b t] c,slots:=#[] } →
   (∀ t' h' tk,(∀ a o,a≠it->a≠S->s.heap.get? a=some o->h'.get? a=some o)->R (.ok (.ret (.int ((ns.drop j).foldl max b) t'))) { s with heap:=h',toks:=tk }) →
   XJ (Wb prog w) A (.builtin "max.loop" ⟨[.ref it,.none,.ref S],kw⟩) R s:=by
 have W:=ab9 (prog:=prog) (w:=w) (A:=A.in1) hh it l hne items;have hname:(toString "max"++toString ".loop" : String) = "max.loop":=by decide
 have hsz:items.size=ns.length:=by rw[← W5];exact hi.length
 intro k
 induction k with
 | zero =>
  intro j s b t c hk hj h1 h2 hS hR;refine Yg acS ?_;rw[Yr Zk _];show V2 _ A.in1 (abn (.ref S) >>= _) _ _ s;refine VG (X4 hS U ?_);have ej:j=items.size:=by lia
  show V2 _ A.in1 (tryCatch (Y0 (.ref it)) _ >>= _) _ _ s;refine VG (aaX (W.done s _ _ (by rw[← ej];exact⟨h1,h2⟩) fun h' tk hm=>?_));have hS':=hm S _ (by simpa using hS1) hS;show V2 _ A.in1 (updateSeq S (fun _=>#[]) >>= _) _ _ _;refine VG (aaK hS' U (VG (aaE (VM ?_))));rw[List.drop_of_length_le (by lia)] at hR;exact hR t _ tk fun a o ha hb e=>(Wo _ _ (XQ hb)).trans (hm a o (by simpa using ha) e)
 | succ k ih =>
  intro j s b t c hk hj h1 h2 hS hR;refine Yg acS ?_;rw[Yr Zk _];show V2 _ A.in1 (abn (.ref S) >>= _) _ _ s;refine VG (X4 hS U ?_);have hlt:j < ns.length:=by lia
  obtain⟨u,hu⟩:=wH hi (VN hlt);have ed:ns.drop j=ns[j]::ns.drop (j+1):=aaa hlt;show V2 _ A.in1 (tryCatch (Y0 (.ref it)) _ >>= _) _ _ s;refine VG (aaX (W.item j s _ _ (by lia) ⟨h1,h2⟩ fun v h' tk hP st hm=>?_));obtain⟨g1,g2⟩:=st;have ev:v = .int ns[j] u:=by
   have e:items[j]? = some v:=hP;rw[← Xq,hu] at e;exact (WL e).symm
  subst ev;have hS':=hm S _ (by simpa using hS1) hS;show V2 _ A.in1 (tryCatch (Z4 [YT ns[j] u,YT ns[j] u] (richCompare .Gt (.int ns[j] u) (.int b t) >>= _)) _ >>= _) _ _ _;refine VG (aaX (XR (VG ((CmpOf.ints_gt (P:=fun i v=>∃ t,v = .int (if i=0 then ns[j] else b) t) (fun i=>if i=0 then ns[j] else b) (fun _ _ h=>h)) 0 1 _ _ _ _ _ ⟨u,U⟩ ⟨t,U⟩ ?_))))
  refine VG (XR (Ys (VG (aaE (VM ?_)))));show V2 _ A.in1 (if decide (ns[j] > b)=true then _ else _) _ _ _
  by_cases hb:ns[j] > b
  ·rw[if_pos (decide_eq_true hb)];refine VG (aaK hS' U (VG (aaE ?_)));rw[hname];refine VM ⟨Y8 Zk _,ih (j+1) _ ns[j] u _ (by lia) hlt ?_ ?_ (Ws _ hS' U) fun t' h2 tk2 k2=>?_⟩;{exact g1.at fun o e=>(Wo _ _ hS1).trans e};{exact g2.at fun o e=>(Wo _ _ hS2).trans e};{have q:=hR t' h2 tk2 fun a o ha hb e=>k2 a o ha hb ((Wo _ _ (XQ hb)).trans (hm a o (by simpa using ha) e));rw[ed,W9,show max b ns[j]=ns[j] by lia] at q;exact q}
  ·rw[if_neg (by simpa using hb)];refine VG (aaE ?_);rw[hname];refine VM ⟨Y8 Zk _,ih (j+1) _ b t c (by lia) hlt g1 g2 hS' fun t' h2 tk2 k2=>?_⟩;have q:=hR t' h2 tk2 fun a o ha hb e=>k2 a o ha hb (hm a o (by simpa using ha) e);rw[ed,W9,show max b ns[j]=b by lia] at q;exact q
def Ey {it l S:Addr}{items:Array Value}{ns:DU}{c:Nat}(hh:A.handled=none)(hi:Xm items.toList ns)(hne:l≠it)(hS1:S≠it)(hS2:S≠l)(dk:Da)(hd:ns=[]->dk≠none)
  (h1:s.heap.IsListIter it l 0) (h2:s.heap.IsList l items) (hS:s.heap.get? S=some { cls:=.type "list",dict:=none,data:=.seq #[] c,slots:=#[] })
  (hR:∀ t' h' tk,(∀ a o,a≠it->a≠S->s.heap.get? a=some o->h'.get? a=some o)->R (.ok (.ret (.int (mxD ((dk.map (·.1)).getD 0) ns) t'))) { s with heap:=h',toks:=tk }) :
  XJ (Wb prog w) A (.builtin "max.loop" ⟨[.ref it,.none,.ref S],dkw dk⟩) R s:=by
 have W:=ab9 (prog:=prog) (w:=w) (A:=A.in1) hh it l hne items;have hname:(toString "max"++toString ".loop" : String) = "max.loop":=by decide
 have hsz:items.size=ns.length:=by rw[← W5];exact hi.length
 refine Yg acS ?_;rw[Yr Zk _];show V2 _ A.in1 (abn (.ref S) >>= _) _ _ s;refine VG (X4 hS U ?_);show V2 _ A.in1 (tryCatch (Y0 (.ref it)) _ >>= _) _ _ s;cases ns with
 | nil =>
  have e0:items.size=0:=hsz;refine VG (aaX (W.done s _ _ (by rw[e0];exact⟨h1,h2⟩) fun h' tk hm=>?_));cases dk with
  | none=>exact absurd U (hd U)
  | some d =>
   refine VG (ZQ ?_);exact VM (hR d.2 h' tk fun a o ha hb e=>hm a o (by simpa using ha) e)
 | cons n r =>
  obtain⟨u,hu⟩:=wH (n:=n) (j:=0) hi U;refine VG (aaX (W.item 0 s _ _ (by rw[hsz];exact acw _) ⟨h1,h2⟩ fun v h' tk hP st hm=>?_));obtain⟨g1,g2⟩:=st;have ev:v = .int n u:=by
   have e:items[0]? = some v:=hP;rw[← Xq,hu] at e;exact (WL e).symm
  subst ev;have hS':=hm S _ (by simpa using hS1) hS;show V2 _ A.in1 (updateSeq S (fun _=>#[YT n u,YT n u]) >>= _) _ _ _;refine VG (aaK hS' U ?_);rw[hname];refine VM ⟨Y8 Zk _,G8 hh hi hne hS1 hS2 _ _ 1 _ n u _ U (acM (Wz _)) ?_ ?_ (Ws _ hS' U) fun t' h2 tk2 k2=>?_⟩;{exact g1.at fun o e=>(Wo _ _ hS1).trans e};{exact g2.at fun o e=>(Wo _ _ hS2).trans e};{exact hR t' h2 tk2 fun a o ha hb e=>k2 a o ha hb ((Wo _ _ (XQ hb)).trans (hm a o (by simpa using ha) e))}
def Hg (a v:Value):aa2 "max" ⟨[a],[("default",v)]⟩:=by unfold aa2;kernel_rfl
def GC (v:Value):aaU "max" ["key","default"] 0 ⟨[],[("default",v)]⟩=pure [none,some v]:=by kernel_rfl
def Nk {l:Addr}{items:Array Value}{ns:DU}{Q:DC}(hh:A.handled=none)(hl:s.heap.IsList l items)(hi:Xm items.toList ns)(dk:Da)(hd:ns=[]->dk≠none)
  (h:∀ t h' tk,(∀ a o,s.heap.get? a=some o->h'.get? a=some o)->Q (.int (mxD ((dk.map (·.1)).getD 0) ns) t) { s with heap:=h',toks:=tk }) :
  V2 (Wb prog w) A (call (.builtin "max") [.ref l] (dkw dk)) Q E s:=by
 have ha:aa2 "max" ⟨[.ref l],dkw dk⟩:=by
  cases dk with
  | none=>exact F.args_max1 _
  | some d=>exact Hg _ _
 have hb:aaU "max" ["key","default"] 0 ⟨[],dkw dk⟩=pure [none,dk.map fun d=>.int d.1 d.2]:=by
  cases dk with
  | none=>rfl
  | some d=>exact GC _
 have hname:(toString "max"++toString ".loop" : String) = "max.loop":=by decide
 refine aaY (aaF F.plain_max F.entry_max ?_)
 have main:V2 (Wb prog w) A.in1 (Ze.«max» ⟨[.ref l],dkw dk⟩) (fun fin s'=>match fin with
   | .done f=>(match (Except.ok f:abg) with | .ok (.ret v)=>Q v s' | .ok _=>False | .error e=>E e s')
   | .again c'=>c'.quiet=true/\XJ (Wb prog w) A c' (fun r s'=>match r with | .ok (.ret v)=>Q v s' | .ok _=>False | .error e=>E e s') s') E s:=by
  show V2 _ A.in1 (aaU "max" ["key","default"] 0 ⟨[],dkw dk⟩ >>= _) _ _ s;refine VG (YF hb (VG (VM ?_)));refine VG (ZF hl (VG (Wx ?_)));have lt:l < s.heap.objs.size:=by obtain⟨o,e,_⟩:=hl;exact V9 e
  have hs1:(s.heap.push { cls:=.type "list_iterator",data:=.fields #[.ref l,.int 0 0] }).objs.size=s.heap.objs.size+1:=WY ..;rw[hname];have ek:(dk.map fun d=>YT d.1 d.2).toList.map (fun d=>(("default" : Wt),d))=dkw dk:=by cases dk <;> rfl
  refine VM ⟨Y8 Zk _,?_⟩;show XJ _ A (.builtin "max.loop" ⟨[.ref s.heap.objs.size,.none,_],(dk.map fun d=>YT d.1 d.2).toList.map (fun d=>(("default" : Wt),d))⟩) _ _;rw[ek];refine Ey hh hi (Wh lt) (by rw[hs1];exact X5 (XS _)) (by rw[hs1];exact X5 (WX lt)) dk hd
   ⟨_,VJ _ (V5 _ U),U,U⟩ ((hl.push _).push _) (V5 _ U) fun t h' tk k=>?_
  exact h t h' tk fun a o e=>k a o (Wh (V9 e)) (by rw[hs1];exact Wh (WX (V9 e))) (VJ _ (VJ _ e))
 simp only[Z5,F.kind_max];cases hsig:Manifest.signature? "max" with
 | none=>exact VM main
 | some sig =>
  have ha':Bind.checkArgs "max" sig ⟨[.ref l],dkw dk⟩=pure ():=by simpa only [aa2,hsig] using ha
  simp only[ha'];exact VM main
end
section
variable {X:Cx}
inductive Nt (K:Ww)(xs:List V)(H:Hp)(Q:VK):Prop where
 | mk (p:Addr) (ns:DU) (_:xs=[.ref p]) (_:SqL K H p (ns.map V.int)) (_:ns.length < 64) (_:∀ ms:DU,ms.Perm ns->ms.Pairwise (·<=·)->∀ l,H l=none->Q (.ref l) (upd H l (.lst (ms.map V.int))))
def Fe:gj X (.builtin "sorted") (Nt X.K):=by
 intro ZY s σ H xs us Q I r h;obtain⟨p,ns,rfl,hq,h64,q⟩:=h;obtain⟨u,rfl,ru⟩:=vals1 r;cases ru;obtain⟨its,rv,pl,hz⟩:=I.list hq;have hi:Xm its ns:=intsAre_of rv;refine sorted_ints pl.isList hi (by have:=hi.length;lia) fun out ns' a1 a2 a3=>?_;obtain⟨e,he⟩:=sortedAll_at s.heap its out;have hml:(ns'.map V.int).length<=sizeLine:=by
  rw[VH,a2.length_eq];exact Yi (V4 h64 (by decide))
 exact⟨.ref _,_,I.JN U U (fun _ _=>sortedAll_old) (Xx _) (iM a1) hml he,U,q ns' a2 a3 _ (I.hok.fresh (Xx _))⟩
inductive Dt (K:Ww)(xs:List V)(H:Hp)(Q:VK):Prop where
 | mk (p:Addr) (ns:DU) (_:xs=[.ref p]) (_:SqL K H p (ns.map V.int)) (_:ns≠[]) (_:Q (.int (mxD 0 ns)) H)
def jT (hc:X.calm=true):gj X (.builtin "max") (Dt X.K):=by
 intro ZY s σ H xs us Q I r h;obtain⟨p,ns,rfl,hq,hne,q⟩:=h;obtain⟨u,rfl,ru⟩:=vals1 r;cases ru;obtain⟨its,rv,pl,hz⟩:=I.list hq;exact Nk (I.ok.hd hc) pl.isList (show Xm its.toArray.toList ns from intsAre_of rv) none (fun e=>absurd e hne) fun t h' tk k=>⟨.int _,H,I.kept (t':=tk) k,⟨_,U⟩,q⟩
def T9 (K:Ww)(d:Int)(te:TA):TE:=fun σ H Q=>te σ H fun xs H1=>∃ (p:Addr) (ns:DU),xs=[.ref p]/\SqL K H1 p (ns.map V.int)/\Q (.int (mxD d ns)) H1
def Gw {e:Expr} {te:TA} {d:Int} {j} {p pos kp cp:ZX} (hc:X.calm=true) (hg:Gl X "max") (hm:X.mg "max" = none) (ha:PA X [e] te)
  (hb:W6 "max" = some (.builtin "max"):=by decide+kernel)
  (he:Yk pos (Wg [e] X.env)=(false,Xw e X.env)::Yk pos (Wg [] X.env):=by rfl) (hp:(Yk pos (Wg [e] X.env)).any (·.1)=false:=by rfl) :
  PE X (.Call (.Name "max" p) [e] [⟨some "default",.Constant (.int d) j cp,kp⟩] pos) (T9 X.K d te):=by
 intro ZY s σ H Q I h;refine Yj (jH I hg hm hb ?_ (by decide) (by decide));refine callWith_kw (thn (ha pos ZY s σ H _ I h) fun us s1 ⟨vs,H1,I1,r1,q⟩=>?_) he hp;obtain⟨a,ns,rfl,hq,q⟩:=q;obtain⟨u,rfl,ru⟩:=vals1 r1;cases ru;refine kws_cons (wpAny_Constant_int (kws_nil ?_));have I2:Inv X ZY σ H1 { s1 with toks:=s1.toks+1 }:=I1.tok _;obtain⟨its,rv,pl,hz⟩:=I2.list hq;exact Nk (I.ok.hd hc) pl.isList (show Xm its.toArray.toList ns from intsAre_of rv) (some (d,_)) (fun _ z=>nomatch z) fun t h' tk k=>⟨.int _,H1,I2.kept (t':=tk) k,⟨_,U⟩,q⟩
end
def G4:Manifest.owners.lookup (String.ofList ['d','e','s','r','e','v','e','r'].reverse)=some Manifest.sig_reversed:=by kernel_rfl
def dZ:Slot "reversed" "__next__" "reversed.__next__" :=
 .of (owner:="reversed") (n:="__next__") (by rw[aai,YZ];kernel_rfl) (by decide+kernel) (by decide+kernel) (by decide+kernel) (by first | exact .inl (by decide+kernel) | exact .inr (by decide+kernel)) (by rw[Zg];kernel_rfl)
def vV:Slot "reversed" "__init__" "object.__init__" :=
 .of (owner:="object") (n:="__init__") (by rw[aai,YZ];kernel_rfl) (by decide+kernel) (by decide+kernel) (by decide+kernel) (by first | exact .inl (by decide+kernel) | exact .inr (by decide+kernel)) (by rw[Zg];kernel_rfl)
def lA:entryFor table "reversed.__next__" = some Ze.«reversed.__next__»:=entryFor_of_tree (by kernel_rfl)
def nO (a:Value):aa2 "reversed.__next__" ⟨[a],[]⟩:=by
 unfold aa2;rw[ab8 (id:="reversed.__next__") (n:=['_','_','t','x','e','n','_','_']) (o:=['d','e','s','r','e','v','e','r']) (by kernel_rfl) G4]
 kernel_rfl
def mY:Slot "reversed" "__iter__" "reversed.__iter__" :=
 .of (owner:="reversed") (n:="__iter__") (by rw[aai,YZ];kernel_rfl) (by decide+kernel) (by decide+kernel) (by decide+kernel) (by first | exact .inl (by decide+kernel) | exact .inr (by decide+kernel)) (by rw[Zg];kernel_rfl)
def tZ:entryFor table "reversed.__iter__" = some Ze.«dict_keyiterator.__iter__»:=entryFor_alias (id':="dict_keyiterator.__iter__") (by kernel_rfl) U (by decide+kernel) (by kernel_rfl)
def vU (a:Value):aa2 "reversed.__iter__" ⟨[a],[]⟩:=by
 unfold aa2;rw[ab8 (id:="reversed.__iter__") (n:=['_','_','r','e','t','i','_','_']) (o:=['d','e','s','r','e','v','e','r']) (by kernel_rfl) G4]
 kernel_rfl
def EY:TypeCalled "reversed" "reversed.__new__" "object.__init__" :=
 ⟨by decide+kernel,by decide+kernel,⟨_,_,F.mro_reversed⟩,F.made_reversed,by decide+kernel,by rw[Zg];kernel_rfl,vV⟩
def xG:abu (.type "tuple") "__reversed__" = pure none:=by rw[aai,YZ];kernel_rfl
def yh:isSubtype (.type "tuple") (.type "dict")=pure false:=by rw[Zg];kernel_rfl
def RIt (h:WT)(I t:Addr)(i:Int):Prop:=h.get? I=some { cls:=.type "reversed",dict:=none,data:=.fields #[.ref t,.int i 0],slots:=#[] }
def K1 (a:Value):ade "reversed" ⟨[.type "reversed",a],[]⟩=pure (.type "reversed",[a]):=by
 unfold ade;simp only[isType,F.sub_reversed_self,pure_bind,Bool.not_true,ach,if_false]
def Mp (t:Addr)(items:Array Value)(hf:(items.size:Int) < 2 ^ 63) :
  Meets (Ze.«reversed.__new__» ⟨[.type "reversed",.ref t],[]⟩) (fun _ R s=>IsTup s.heap t items/\R (.ok (.ret (.ref s.heap.objs.size))) { s with heap:=s.heap.push { cls:=.type "reversed",data:=.fields #[.ref t,.int ((items.size:Int) - 1) 0] },toks:=s.toks+1+1 }) :=
 .of_wp fun prog w A R s h=>by
  obtain⟨ht,h⟩:=h;unfold Ze.«reversed.__new__»;refine VG (YF (K1 _) ?_)
  try dsimp only
  refine VG (YF (a:=()) (by first | rfl | kernel_rfl) (VG (YF (a:=()) (by first | rfl | kernel_rfl) ?_)))
  try dsimp only
  refine VG (aaL ht.typeIs xG ?_)
  try dsimp only
  refine (show V2 _ _ ((isInstance (.ref t) (.type "dict") >>= _) >>= _) _ _ s from VG (VG (Z2 ht.typeIs yh ?_)));rw[if_neg VR];refine VG (aaL ht.typeIs slot_tuple_getitem.lookup ?_);dsimp only;rw[if_pos (by decide+kernel)];refine VM ?_;rw[if_neg (by simp)];refine VG (len_tuple ht hf ?_);refine VG (YF (a:=some ((items.size:Nat):Int)) U ?_);dsimp only;refine VG ?_;refine (show V2 _ _ (newObj (.type "reversed") (.fields #[.ref t,XF ((items.size:Int) - 1)])) _ _ _ from Wx ?_);exact VM ⟨_,U,h⟩
section
variable {prog:Wi}{w:Wy}{A:WM}{E:DC}{s:VL}
def Gr {t:Addr}{items:Array Value}{Q:DC}(ht:IsTup s.heap t items)(hf:(items.size:Int) < 2 ^ 63)
  (h:Q (.ref s.heap.objs.size) { s with heap:=s.heap.push { cls:=.type "reversed",data:=.fields #[.ref t,.int ((items.size:Int) - 1) 0] },toks:=s.toks+1+1 }):V2 (Wb prog w) A (call (.type "reversed") [.ref t]) Q E s:=by
 refine callType_new EY (by decide) (F.typeCall_reversed_1 _) (F.newCall_reversed_1 _) (fun obj=>F.args_object_init_2 obj _) F.entry_reversed_new (Mp t items hf) ⟨ht,?_⟩;exact⟨⟨_,V5 _ U,U⟩,h⟩
def Ko {it t:Addr}{i:Nat}{items:Array Value}{x:Value}{Q:DE->VL->Prop}(hit:RIt s.heap it t (i:Int))(ht:IsTup s.heap t items)(hi:(i:Int) < 2 ^ 63)(hx:items[i]? = some x)
  (hQ:∀ h',RIt h' it t ((i:Int) - 1)->Yx it s.heap h'->Q (some x) { s with heap:=h',toks:=s.toks+1 }):V2 (Wb prog w) A (Y0 (.ref it)) Q E s:=by
 have hT:s.TypeIs (.ref it) "reversed":=⟨_,hit,U⟩;unfold Y0;refine VG (Zy (Xr (name:=YL "__next__") hT dZ (Xd dZ hT lA ?_ (nO _))));unfold Ze.«reversed.__next__»;refine VG (YF (a:=(We it,[])) U ?_);dsimp only;refine VG (Xh hit U (x:=.ref t) U (VG (Xh hit U (x:=.int (i:Int) 0) U ?_)));dsimp only;rw[if_neg (by lia)];refine VG (aaL ht.typeIs slot_tuple_getitem.lookup ?_);rw[if_neg (by simp)];refine VG (wpAny_mkInt ?_);have hsz:i < items.size:=(Array.getElem?_eq_some_iff.mp hx).1;have hk:acH (i:Int) items.size=some i:=by
  have e0:¬ ((i:Int) < 0):=by lia
  unfold acH;simp only[if_neg e0];simp [hsz]
 refine VG (Zy (getItem_tuple (s:={ s with toks:=s.toks+1 }) (show IsTup s.heap t items from ht) (by lia) hi hk hx ?_));dsimp only;refine VG (Xh (s:={ s with toks:=s.toks+1 }) hit U (x:=.int (i:Int) 0) U ?_);dsimp only;refine VG (XM (s:={ s with toks:=s.toks+1 }) hit U (by simp) ?_);refine VM ⟨x,U,VM (hQ _ ?_ (Xv ..))⟩;exact Ws (Yc (·.setIfInBounds 1 (XF ((i:Int) - 1)))) hit U
def Qp {it t:Addr}{Q:DE->VL->Prop}(hh:A.handled=none)(hit:RIt s.heap it t (-1))(hQ:∀ h',Heap.ExtBut it s.heap h'->Q none { s with heap:=h' }):V2 (Wb prog w) A (Y0 (.ref it)) Q E s:=by
 have hT:s.TypeIs (.ref it) "reversed":=⟨_,hit,U⟩;unfold Y0;refine VG (Zy (Xr (name:=YL "__next__") hT dZ (Xd dZ hT lA ?_ (nO _))));unfold Ze.«reversed.__next__»;refine VG (YF (a:=(We it,[])) U ?_);dsimp only;refine VG (Xh hit U (x:=.ref t) U (VG (Xh hit U (x:=.int (-1) 0) U ?_)));dsimp only;rw[if_pos (by decide)];refine VG (ZQ ?_);refine VG ?_;refine (show V2 _ _ (setField (.ref it) 1 (XF (-1)) >>= _) _ _ s from VG (XM hit U (by simp) ?_));have g1:=Ws (Yc (·.setIfInBounds 1 (XF (-1)))) hit U;refine XM g1 U (by simp) ?_;refine VG ?_;refine (show V2 _ _ (acJ (.type "StopIteration") [] >>= _) _ _ _ from VG ?_);simp only[acJ,newTuple];refine VG (Wx ?_ (by size_fits));refine VG (m:=Zh _ _) (YF (a:=Xn) (by first | rfl | (simp only[Zh];rfl)) (Wx ?_ (by size_fits)));simp only[raiseNew];refine VG (ab6 ?_)
 first | rw[show A.in1.handled=none from hh] | rw[hh]
 refine VG (VM (acT ?_));refine VG (Z2 (T:="StopIteration") (b:=true) ⟨_,V5 _ U,U⟩ abK (VM ?_));exact hQ _ ((((Xv ..).trans (Xv ..)).extBut.push _).push _)
def BK {it t:Addr}{i:Int}{Q:DC}(hI:RIt s.heap it t i)(h:Q (.ref it) s):V2 (Wb prog w) A (abJ (.ref it)) Q E s:=by
 have hT:s.TypeIs (.ref it) "reversed":=⟨_,hI,U⟩;refine ack hT mY (Xd mY hT tZ (show V2 _ _ (ret (.ref it)) _ _ s from ?_) (vU _));exact VM ⟨_,U,"reversed",_,hT,dZ.lookup,h⟩
end
def Itv (K:Ww)(a:Addr)(n:Nat):It :=
 ⟨fun i H=>i < n/\∃ xs x,SqT K H a xs/\xs.length=n/\xs[n - 1 - i]? = some x,fun i H x H'=>H'=H/\∀ xs,SqT K H a xs->xs[n - 1 - i]? = some x,fun i _=>i=n⟩
def LK {P:Wi}{w:Wy}{K:Ww}{tg:Expr}(a it:Addr)(n:Nat)(hn:(n:Int) < 2 ^ 63):Turn P w K tg (Itv K a n) [it] it (fun i h=>RIt h it a ((n:Int) - 1 - (i:Int))) where
 mem:=by simp
 obj:=fun i h st b hb=>by
  have e:b=it:=by simpa using hb
  subst e;exact⟨_,st,fun v z=>by cases (show Data.fields _=Data.cell v from z)⟩
 keep:=fun i h h' st k=>k it (by simp) _ st
 item:=by
  intro X hP hw hK hc i ZY s σ H E I hf st hg;subst hP hw hK;obtain⟨hin,xs,x,hq,hlen,hx⟩:=hg;obtain⟨its,rv,p,hz⟩:=I.tuple hq;obtain⟨u,hu,ru⟩:=rv.get hx;obtain⟨f0,f1,f2,f3,f4,f5⟩:=hf it (by simp);have e:(n:Int) - 1 - (i:Int)=((n - 1 - i:Nat):Int):=by lia
  have st':RIt s.heap it a ((n - 1 - i:Nat):Int):=by rw[← e];exact st
  refine Ko st' p (by lia) (x:=u) (by simpa using hu) fun h' st2 sb=>?_;have e2:((n - 1 - i:Nat):Int) - 1=(n:Int) - 1 - ((i+1:Nat):Int):=by lia
  rw[e2] at st2;have I1:Inv X ZY σ H { s with heap:=h',toks:=s.toks+1 }:=I.turned (t':=s.toks+1) (fun b o hb e=>(sb.2 b hb).trans e) f0 f1 f3 f4 f5;exact⟨u,U,Mj (s:={ s with heap:=h',toks:=s.toks+1 }) st2 U U (by decide) ⟨x,H,I1,ru,⟨U,fun ys hy=>by rw[I.sX hy hq];exact hx⟩,st2,fun b hb=>(hf b hb).1⟩⟩
 done:=by
  intro X hP hw hK hc i ZY s σ H E I hf st hg;subst hP hw hK;cases (show i=n from hg);obtain⟨f0,f1,f2,f3,f4,f5⟩:=hf it (by simp);have st':RIt s.heap it a (-1):=by
   have e:(n:Int) - 1 - (n:Int) = -1:=by lia
   rw[← e];exact st
  exact Qp (I.ok.hd hc) st' fun h' eb=>⟨U,I.turned (t':=s.toks) (fun b o hb e=>eb b o hb e) f0 f1 f3 f4 f5⟩
 self:=fun _ _ _ _ _ st h=>BK st h
def Vz (K:Ww)(ta:TA):TI:=fun σ H R=>ta σ H fun vs H1=>∃ a xs,vs=[.ref a]/\SqT K H1 a xs/\R (Itv K a xs.length) H1
def RN {X:Cx} {tg:Expr} {a:Expr} {ta:TA} {p pos:ZX} (hg:Gl X "reversed") (hm:X.mg "reversed" = none) (ha:PA X [a] ta) (hs:Wg [a] X.env=[(false,Xw a X.env)]:=by rfl) :
  PI X tg (.Call (.Name "reversed" p) [a] [] pos) (Vz X.K ta):=by
 intro ZY s σ H R I h;refine Call_ (jH I hg hm boot_reversed (X3 (thn (ha pos ZY s σ H _ I h) fun us s1 ⟨vs,H1,I1,r1,q1⟩=>?_) hs U));obtain⟨c,xs,e,hx,q⟩:=q1;subst e;obtain⟨u1,rfl,ru1⟩:=vals1 r1;cases ru1;obtain⟨its,rv,tp,hz⟩:=I1.tuple hx;have hl:=rv.length;have hn:=yl;have hsz:((its.toArray.size:Nat):Int) < 2 ^ 63:=by rw[Wd,← hl];lia
 refine Gr tp hsz ?_;have g:RIt (s1.heap.push { cls:=.type "reversed",data:=.fields #[.ref c,.int ((its.toArray.size:Int) - 1) 0] }) s1.heap.objs.size c ((xs.length:Int) - 1 - ((0:Nat):Int)):=by
  have e:((xs.length:Int) - 1 - ((0:Nat):Int))=(its.toArray.size:Int) - 1:=by rw[Wd,← hl];lia
  rw[e];exact V5 _ U
 refine BK g ⟨s1.heap.objs.size,[s1.heap.objs.size],_,_,H1,U,I1.kept (t':=s1.toks+1+1) fun b o e=>VJ _ e,LK c _ xs.length (by lia),g,fun b hb=>?_,q⟩;have e:b=s1.heap.objs.size:=by simpa using hb
 subst e;exact I1.Mw (VP _) (I1.hok.fresh (VP _))
def Ob {K:Ww}{a:Addr}{xs:List V}{g:TG}{tb:TS}{D:Ends}{σ:St}{H:Hp}(Pv:Nat->St->Hp->Prop)(h0:Pv 0 σ H)(hl:∀ i σ H,i<=xs.length->Pv i σ H->SqT K H a xs)
  (hs:∀ i x σ H,i < xs.length->xs[xs.length - 1 - i]? = some x->Pv i σ H->g x σ H fun σ2 H2=>tb { D with nx:=Pv (i+1),ct:=Pv (i+1),bk:=D.nx } σ2 H2) (hd:∀ σ H,Pv xs.length σ H->D.nx σ H) :
  ∃ W:Nat->Nat->St->Hp->Prop,(∃ m,W 0 m σ H)/\∀ i m σ H,W i m σ H →
   ((Itv K a xs.length).stop i H/\D.nx σ H)∨((Itv K a xs.length).go i H/\∃ N:St->Hp->Prop,(∀ σ' H',N σ' H'->∃ m',m' < m/\W (i+1) m' σ' H')/\∀ x H',(Itv K a xs.length).yld i H x H'->g x σ H' fun σ2 H2=>tb { D with nx:=N,ct:=N,bk:=D.nx } σ2 H2):=by
 refine⟨fun i m σ H=>m=xs.length - i/\i<=xs.length/\Pv i σ H,⟨xs.length,by simp,Wz _,h0⟩,?_⟩;rintro i m σ H ⟨rfl,hi,p⟩;have q1:=hl i σ H hi p;by_cases hlt:i < xs.length;{refine .inr ⟨⟨hlt,xs,xs[xs.length - 1 - i],q1,U,VN (by lia)⟩,Pv (i+1),fun σ' H' p'=>⟨xs.length - (i+1),by lia,U,hlt,p'⟩,fun v H' y=>?_⟩;obtain⟨rfl,hx⟩:=y;exact hs i v σ _ hlt (hx xs q1) p}
 ·have e:i=xs.length:=by lia
  subst e;exact .inl ⟨U,hd σ H p⟩
section
variable {prog:Wi}{w:Wy}{A:WM}{E:DC}{s:VL}
def uH {h h':WT}{a t:Addr}{its:Array Value}(ht:h.IsList t its)(sb:Yx a h h')(ne:t≠a):h'.IsList t its:=by
 obtain⟨o,e,r⟩:=ht;exact⟨o,(sb.2 t ne).trans e,r⟩
def jX {h h':WT}{a it t:Addr}{i:Nat}(ht:h.IsListIter it t i)(sb:Yx a h h')(ne:it≠a):h'.IsListIter it t i:=by
 obtain⟨o,e,r⟩:=ht;exact⟨o,(sb.2 it ne).trans e,r⟩
def Qh {z p q i1 i2 l1 l2:Addr}{k:Nat}{xs ys:Array Value}{x y a b:Value}{Q:DE->VL->Prop}(D:Zap z p q i1 i2 l1 l2)
  (hz:abF s.heap z p q .none) (hp:aac s.heap p (.ref i1) (.ref i2)) (hq:aac s.heap q a b) (j1:s.heap.IsTupleIter i1 l1 k) (j2:s.heap.IsListIter i2 l2 k) (t1:s.heap.IsTuple l1 xs) (t2:s.heap.IsList l2 ys)
  (hx:xs[k]? = some x) (hy:ys[k]? = some y)
  (hQ:∀ h',abF h' z p q (XF s.heap.objs.size)->aac h' q x y->h'.IsTupleIter i1 l1 (k+1)->h'.IsListIter i2 l2 (k+1)->aac h' s.heap.objs.size x y->h'.objs.size=s.heap.objs.size+1 →
   (∀ c o,c≠z->c≠q->c≠i1->c≠i2->s.heap.get? c=some o->h'.get? c=some o)->Q (some (.ref s.heap.objs.size)) { s with heap:=h' }):V2 (Wb prog w) A (Y0 (.ref z)) Q E s:=by
 have hT:s.TypeIs (.ref z) "zip":=⟨_,hz,U⟩;unfold Y0;refine VG (Zy (Xr (name:=YL "__next__") hT abG (Xd abG hT F.entry_zip_next ?_ (F.args_zip_next_1 _))));show V2 _ _ (field (.ref z) 2 >>= _) _ _ _;refine VG (Xh hz U (x:=.bool false) U ?_);show V2 _ _ (field (.ref z) 3 >>= _) _ _ _;refine VG (Xh hz U (x:=.ref p) U ?_);refine VG (X4 hp U ?_);show V2 _ _ (YS (.ref z) >>= _) _ _ _;refine VG ?_;unfold YS;refine VG (Xh hz U (x:=.none) U (VM ?_));simp only[if_true];refine VG (ZQ ?_);refine VG (Xh hz U (x:=.ref q) U ?_);refine VG (Zq hz (by simp) fun h1 z1 b1=>?_);replace z1:abF h1 z p q .ellipsis:=z1;refine VG ?_;simp only[List.zipIdx_cons,List.zipIdx_nil,ac5,abR];refine VG (VG (abf ?_));show V2 _ _ (XH (.ref i1) >>= _) _ _ _;refine VG (GK (sV j1 b1 D.az) (Ho t1 b1 D.xz) hx fun h2 u1 b2=>VM ?_);have q2:aac h2 q a b:=(b2.2 _ D.qa).trans ((b1.2 _ D.qz).trans hq);refine VG (X4 q2 U ?_);refine VG (abI q2 fun h3 q3 b3=>?_);replace q3:aac h3 q x b:=q3;refine VG (aaE (VM ?_));refine VG (VG (abf ?_));show V2 _ _ (XH (.ref i2) >>= _) _ _ _;refine VG (wpAny_nextOf_list_item (jX (jX (jX j2 b1 D.bz) b2 D.ab.symm) b3 D.qb.symm) (uH (uH (uH t2 b1 D.yz) b2 D.ya) b3 D.yq) hy fun h4 u2 b4=>VM ?_);have q4:aac h4 q x b:=(b4.2 _ D.qb).trans q3;refine VG (X4 q4 U ?_);refine VG (abI q4 fun h5 q5 b5=>?_);replace q5:aac h5 q x y:=q5;refine VG (aaE (VM (VM ?_)));refine VG (X4 q5 U ?_);refine VG (wpAny_newTuple ?_);have sz:h5.objs.size=s.heap.objs.size:=by rw[b5.1,b4.1,b3.1,b2.1,b1.1]
 have z5:abF h5 z p q .ellipsis:=(b5.2 _ D.qz.symm).trans ((b4.2 _ D.bz.symm).trans ((b3.2 _ D.qz.symm).trans ((b2.2 _ D.az.symm).trans z1)));have kp:∀ c o,c≠z->c≠q->c≠i1->c≠i2->s.heap.get? c=some o->h5.get? c=some o:=fun c o c1 c2 c3 c4 e=>(b5.2 c c2).trans ((b4.2 c c4).trans ((b3.2 c c2).trans ((b2.2 c c3).trans ((b1.2 c c1).trans e))));have u15:h5.IsTupleIter i1 l1 (k+1):=sV (sV (sV u1 b3 D.qa.symm) b4 D.ab) b5 D.qa.symm;have u25:h5.IsListIter i2 l2 (k+1):=jX u2 b5 D.qb.symm;have zl:z < h5.objs.size:=V9 z5;show V2 _ _ (ab4 (.ref z) (.ref h5.objs.size) >>= _) _ _ _;refine VG ?_;unfold ab4;have z6:abF (h5.push { cls:=.type "tuple",data:=.seq #[x,y] }) z p q .ellipsis:=VJ _ z5;refine VG (Zq z6 (by simp) fun h7 z7 b7=>?_);replace z7:abF h7 z p q (XF h5.objs.size):=z7;refine Zq z7 (by simp) fun h8 z8 b8=>?_;replace z8:abF h8 z p q (XF h5.objs.size):=z8;have up:∀ c o,c≠z->h5.get? c=some o->h8.get? c=some o:=fun c o c1 e=>(b8.2 c c1).trans ((b7.2 c c1).trans (VJ _ e));have t8:aac h8 h5.objs.size x y:=(b8.2 _ (X5 zl)).trans ((b7.2 _ (X5 zl)).trans (V5 _ U));have s8:h8.objs.size=h5.objs.size+1:=by rw[b8.1,b7.1,WY]
 rw[sz] at z8 t8 s8;refine VM ⟨_,U,?_⟩;show V2 _ _ _ _ _ _;rw[sz];exact VM (hQ h8 z8 (up _ _ D.qz q5) (by obtain⟨o,e,r⟩:=u15;exact⟨o,up _ o D.az e,r⟩) (by obtain⟨o,e,r⟩:=u25;exact⟨o,up _ o D.bz e,r⟩) t8 s8 fun c o c1 c2 c3 c4 e=>up c o c1 (kp c o c1 c2 c3 c4 e))
def QD {z p q i1 i2 l1 l2:Addr}{k:Nat}{xs ys:Array Value}{a b:Value}{Q:Fin->VL->Prop}(hh:A.handled=none)(D:Zap z p q i1 i2 l1 l2)
  (hz:abF s.heap z p q .none) (hp:aac s.heap p (.ref i1) (.ref i2)) (hq:aac s.heap q a b) (j1:s.heap.IsTupleIter i1 l1 k) (j2:s.heap.IsListIter i2 l2 k) (t1:s.heap.IsTuple l1 xs) (t2:s.heap.IsList l2 ys)
  (hend:xs[k]? = none∨ys[k]? = none) (hE:∀ h' e,(∀ c o,c≠z->c≠q->c≠i1->c≠i2->s.heap.get? c=some o->h'.get? c=some o)->(∃ o,h'.get? e=some o/\o.cls = .type "StopIteration")->E (.ref e) { s with heap:=h' }) :
  V2 (Wb prog w) A (Ze.«zip.__next__» ⟨[.ref z],[]⟩) Q E s:=by
 show V2 _ _ (field (.ref z) 2 >>= _) _ _ _;refine VG (Xh hz U (x:=.bool false) U ?_);show V2 _ _ (field (.ref z) 3 >>= _) _ _ _;refine VG (Xh hz U (x:=.ref p) U ?_);refine VG (X4 hp U ?_);show V2 _ _ (YS (.ref z) >>= _) _ _ _;refine VG ?_;unfold YS;refine VG (Xh hz U (x:=.none) U (VM ?_));simp only[if_true];refine VG (ZQ ?_);refine VG (Xh hz U (x:=.ref q) U ?_);refine VG (Zq hz (by simp) fun h1 z1 b1=>?_);replace z1:abF h1 z p q .ellipsis:=z1;refine VG ?_;simp only[List.zipIdx_cons,List.zipIdx_nil,ac5,abR];refine VG (VG (abf ?_));show V2 _ _ (XH (.ref i1) >>= _) _ _ _;cases hx:xs[k]? with
 | none =>
  refine VG (Ru hh (sV j1 b1 D.az) (Ho t1 b1 D.xz) hx fun h2 e b2 he=>?_);obtain⟨oe,ho,hc⟩:=he;have z2:abF h2 z p q .ellipsis:=b2 _ _ D.az.symm z1;have ez:e≠z:=fun u=>by subst u;rw[z2] at ho;cases ho;simp at hc
  exact Zq z2 (by simp) fun h3 _ b3=>hE h3 e (fun c o c1 _ c3 _ u=>(b3.2 c c1).trans (b2 _ _ c3 ((b1.2 c c1).trans u))) ⟨oe,(b3.2 e ez).trans ho,hc⟩
 | some x =>
  have hy:ys[k]? = none:=hend.elim (fun u=>by rw[hx] at u;cases u) id;refine VG (GK (sV j1 b1 D.az) (Ho t1 b1 D.xz) hx fun h2 u1 b2=>VM ?_);have q2:aac h2 q a b:=(b2.2 _ D.qa).trans ((b1.2 _ D.qz).trans hq);refine VG (X4 q2 U ?_);refine VG (abI q2 fun h3 q3 b3=>?_);refine VG (aaE (VM ?_));refine VG (VG (abf ?_));show V2 _ _ (XH (.ref i2) >>= _) _ _ _;refine VG (wpAny_nextOf_list_end hh (jX (jX (jX j2 b1 D.bz) b2 D.ab.symm) b3 D.qb.symm) (uH (uH (uH t2 b1 D.yz) b2 D.ya) b3 D.yq) hy fun h4 e b4 he=>?_);obtain⟨oe,ho,hc⟩:=he;have z4:abF h4 z p q .ellipsis:=b4 _ _ D.bz.symm ((b3.2 _ D.qz.symm).trans ((b2.2 _ D.az.symm).trans z1));have ez:e≠z:=fun u=>by subst u;rw[z4] at ho;cases ho;simp at hc
  exact Zq z4 (by simp) fun h5 _ b5=>hE h5 e (fun c o c1 c2 c3 c4 u=>(b5.2 c c1).trans (b4 _ _ c4 ((b3.2 c c2).trans ((b2.2 c c3).trans ((b1.2 c c1).trans u))))) ⟨oe,(b5.2 e ez).trans ho,hc⟩
def Ry {z p q i1 i2 l1 l2:Addr}{k:Nat}{xs ys:Array Value}{a b:Value}{Q:DE->VL->Prop}(hh:A.handled=none)(D:Zap z p q i1 i2 l1 l2)
  (hz:abF s.heap z p q .none) (hp:aac s.heap p (.ref i1) (.ref i2)) (hq:aac s.heap q a b) (j1:s.heap.IsTupleIter i1 l1 k) (j2:s.heap.IsListIter i2 l2 k) (t1:s.heap.IsTuple l1 xs) (t2:s.heap.IsList l2 ys)
  (hend:xs[k]? = none∨ys[k]? = none) (hQ:∀ h',(∀ c o,c≠z->c≠q->c≠i1->c≠i2->s.heap.get? c=some o->h'.get? c=some o)->Q none { s with heap:=h' }):V2 (Wb prog w) A (Y0 (.ref z)) Q E s:=by
 have hT:s.TypeIs (.ref z) "zip":=⟨_,hz,U⟩;unfold Y0;refine VG (Zy (Xr (name:=YL "__next__") hT abG (Xd abG hT F.entry_zip_next (QD hh D hz hp hq j1 j2 t1 t2 hend fun h' e kp he=>?_) (F.args_zip_next_1 _))));obtain⟨o,ho,hc⟩:=he;exact VG (Z2 (T:="StopIteration") (b:=true) ⟨o,ho,hc⟩ abK (VM (hQ _ kp)))
abbrev uB (h:WT)(t:Addr):WT:=h.push { cls:=.type "list_iterator",data:=.fields #[.ref t,.int 0 0] }
abbrev uC (h:WT)(t u:Addr):WT:=(uB (zA h t) u).push { cls:=.type "tuple",data:=.seq #[.ref h.objs.size,.ref (zA h t).objs.size] }
abbrev uD (h:WT)(t u:Addr):WT:=(uC h t u).push { cls:=.type "tuple",data:=.seq #[.none,.none] }
abbrev uE (h:WT)(t u:Addr):WT:=(uD h t u).push { cls:=.type "zip",data:=.fields #[.none,.bool false,.bool false,.ref (uB (zA h t) u).objs.size,.ref (uC h t u).objs.size] }
def Ri (l1 l2:Addr)(xs ys:Array Value) :
  Meets (Ze.«zip.__new__» ⟨[.type "zip",.ref l1,.ref l2],[]⟩) (fun _ R s=>s.heap.IsTuple l1 xs/\s.heap.IsList l2 ys/\R (.ok (.ret (.ref (uD s.heap l1 l2).objs.size))) { s with heap:=uE s.heap l1 l2 }) :=
 .of_wp fun prog w A R s h=>by
  obtain⟨hp,g,d,tk,os⟩:=s;obtain⟨a1,a2,h⟩:=h;have hsub:=sub_zip;have T1:Heap.IsTuple (Shared.heap ⟨hp,g,d,tk,os⟩) l1 xs:=a1;have T2:Heap.IsList (Shared.heap ⟨hp.push { cls:=.type "tuple_iterator",data:=.fields #[.ref l1,.int 0 0] },g,d,tk,os⟩) l2 ys:=by
   obtain⟨o,e,r⟩:=a2;exact⟨o,VJ _ e,r⟩
  wp_walk using wpAny_pyIter_tuple T1,ZF T2
  exact⟨_,U,h⟩
def Pg {l1 l2:Addr}{xs ys:Array Value}{Q:DC}(t1:s.heap.IsTuple l1 xs)(t2:s.heap.IsList l2 ys)
  (h:∀ h',abF h' (s.heap.objs.size+4) (s.heap.objs.size+2) (s.heap.objs.size+3) .none->aac h' (s.heap.objs.size+2) (.ref s.heap.objs.size) (.ref (s.heap.objs.size+1))->aac h' (s.heap.objs.size+3) .none .none →
   h'.IsTupleIter s.heap.objs.size l1 0->h'.IsListIter (s.heap.objs.size+1) l2 0->(∀ c o,s.heap.get? c=some o->h'.get? c=some o)->Q (.ref (s.heap.objs.size+4)) { s with heap:=h' }) :
  V2 (Wb prog w) A (call (.type "zip") [.ref l1,.ref l2]) Q E s:=by
 refine callType_new F.called_zip (by decide) (F.typeCall_zip_2 _ _) (F.newCall_zip_2 _ _) (fun obj=>F.args_object_init_3 obj _ _) F.entry_zip_new (Ri l1 l2 xs ys) ⟨t1,t2,?_⟩;have y1:(zA s.heap l1).objs.size=s.heap.objs.size+1:=WY ..;have y2:(uB (zA s.heap l1) l2).objs.size=s.heap.objs.size+2:=by rw[WY,y1]
 have y3:(uC s.heap l1 l2).objs.size=s.heap.objs.size+3:=by rw[WY,y2]
 have y4:(uD s.heap l1 l2).objs.size=s.heap.objs.size+4:=by rw[WY,y3]
 have w5:(uE s.heap l1 l2).get? (uD s.heap l1 l2).objs.size=some _:=V5 _ U;have w4:(uE s.heap l1 l2).get? (uC s.heap l1 l2).objs.size=some _:=VJ _ (V5 _ U);have w3:(uE s.heap l1 l2).get? (uB (zA s.heap l1) l2).objs.size=some _:=VJ _ (VJ _ (V5 _ U));have w2:(uE s.heap l1 l2).get? (zA s.heap l1).objs.size=some _:=VJ _ (VJ _ (VJ _ (V5 _ U)));have w1:(uE s.heap l1 l2).get? s.heap.objs.size=some _:=VJ _ (VJ _ (VJ _ (VJ _ (V5 _ U))));show _/\_;rw[y2,y3,y4] at w5;rw[y1,y2] at w3;rw[y3] at w4;rw[y1] at w2;rw[y4];exact⟨⟨_,w5,U⟩,h _ w5 w3 w4 ⟨_,w1,U,U⟩ ⟨_,w2,U,U⟩ fun c o u=>VJ _ (VJ _ (VJ _ (VJ _ (VJ _ u))))⟩
end
def Itu (K : Ww)(a b : Addr) : It :=
  ⟨fun i H => ∃ xs ys x y, SqT K H a xs ∧ SqL K H b ys ∧ xs[i]? = some x ∧ ys[i]? = some y,
   fun i H v H' => ∃ p x y, H p = none ∧ v = .ref p ∧ (∀ xs, SqT K H a xs → xs[i]? = some x) ∧ (∀ ys, SqL K H b ys → ys[i]? = some y) ∧ H' = upd H p (.tup [x, y]),
   fun i H => ∃ xs ys, SqT K H a xs ∧ SqL K H b ys ∧ (xs.length ≤ i ∨ ys.length ≤ i)⟩
def tnU (z p q i1 i2 a b:Addr)(i:Nat)(h:WT):Prop:=abF h z p q .none/\aac h p (.ref i1) (.ref i2)/\(∃ u v,aac h q u v)/\h.IsTupleIter i1 a i/\h.IsListIter i2 b i
def Kg {P:Wi}{w:Wy}{K:Ww}{elts:DO}{x1}{pos:ZX}{z p q i1 i2 a b:Addr}(D:Zap z p q i1 i2 a b) :
  Turn P w K (.Tuple elts x1 pos) (Itu K a b) [z,p,q,i1,i2] z (tnU z p q i1 i2 a b) where
 mem:=by simp
 obj:=fun i h st c hc=>by
  obtain⟨hz,hp,⟨u,v,hq⟩,⟨o1,e1,_,d1⟩,⟨o2,e2,_,d2⟩⟩:=st;simp only[Ye,Z7,or_false] at hc;rcases hc with rfl | rfl | rfl | rfl | rfl;{exact⟨_,hz,fun v z=>by cases z⟩};{exact⟨_,hp,fun v z=>by cases z⟩};{exact⟨_,hq,fun v z=>by cases z⟩};{exact⟨_,e1,fun v z=>by rw[d1] at z;cases z⟩};{exact⟨_,e2,fun v z=>by rw[d2] at z;cases z⟩}
 keep:=fun i h h' st k=>by
  obtain⟨hz,hp,⟨u,v,hq⟩,⟨o1,e1,r1⟩,⟨o2,e2,r2⟩⟩:=st;exact⟨k z (by simp) _ hz,k p (by simp) _ hp,⟨u,v,k q (by simp) _ hq⟩,⟨o1,k i1 (by simp) _ e1,r1⟩,⟨o2,k i2 (by simp) _ e2,r2⟩⟩
 item:=by
  intro X hP hw hK hc i ZY s σ H E I hf st hg;subst hP hw hK;obtain⟨xs,ys,x,y,hx,hy,ex,ey⟩:=hg;obtain⟨hz,hp,⟨u,v,hq⟩,j1,j2⟩:=st;obtain⟨its,rv,tp,_⟩:=I.tuple hx;obtain⟨its2,rv2,tp2,_⟩:=I.list hy;obtain⟨xu,hxu,rx⟩:=rv.get ex;obtain⟨yu,hyu,ry⟩:=rv2.get ey;refine Qh D hz hp hq j1 j2 (show s.heap.IsTuple a its.toArray from tp) (show s.heap.IsList b its2.toArray from tp2.isList) (x:=xu) (y:=yu) (by simpa using hxu) (by simpa using hyu) fun h' z' q' u1 u2 t' _ kp=>⟨_,U,?_⟩;refine wpAny_letOwnedTupleGo_zip z' fun h2 z2 b2=>?_;have lt:∀ {c o},s.heap.get? c=some o->c < s.heap.objs.size:=fun e=>V9 e;have zne:s.heap.objs.size≠z:=X5 (lt hz);have hfr:H s.heap.objs.size=none:=I.fresh;have I1:Inv X ZY σ (upd H s.heap.objs.size (.tup [x,y])) { s with heap:=s.heap.push { cls:=.type "tuple",data:=.seq #[xu,yu] } } :=
   I.laid (t':=s.toks) (fun _ _ e=>VJ _ e) (VP _) ⟨by show 2<=sizeLine;decide,[xu,yu],.cons rx (.cons ry .nil),⟨_,V5 _ U,U,_,U⟩⟩
  have blt:∀ c∈[z,p,q,i1,i2],c < s.heap.objs.size:=fun c hc=>by
   obtain⟨_,e1,_⟩:=j1;obtain⟨_,e2,_⟩:=j2;simp only[Ye,Z7,or_false] at hc;rcases hc with rfl | rfl | rfl | rfl | rfl;{exact lt hz};{exact lt hp};{exact lt hq};{exact lt e1};{exact lt e2}
  have ff:∀ c∈[z,p,q,i1,i2],uv X ZY (upd H s.heap.objs.size (.tup [x,y])) c:=fun c hc=>by
   obtain⟨f0,fr⟩:=hf c hc;exact⟨by rw[aL (Wh (blt c hc))];exact f0,fr⟩
  have kk:∀ c o,c ∉ [z,q,i1,i2]->(s.heap.push { cls:=.type "tuple",data:=.seq #[xu,yu] }).get? c=some o->h2.get? c=some o:=fun c o hc e=>by
   have c1:c≠z:=fun h=>hc (by simp [h]);refine (b2.2 c c1).trans ?_;rcases Heap.get?_push_cases e with⟨ec,eo⟩ | e';{subst ec;subst eo;exact t'};{exact kp c o c1 (fun h=>hc (by simp [h])) (fun h=>hc (by simp [h])) (fun h=>hc (by simp [h])) e'}
  have I2:Inv X ZY σ (upd H s.heap.objs.size (.tup [x,y])) { s with heap:=h2 } :=
   Inv.vW (s:={ s with heap:=s.heap.push { cls:=.type "tuple",data:=.seq #[xu,yu] } }) (h':=h2) (t':=s.toks) (ch:=[z,q,i1,i2]) I1 kk fun c hc=>ff c (by
    simp only[Ye] at hc ⊢;rcases hc with h | h | h | h;{exact .inl h};{exact .inr (.inr (.inl h))};{exact .inr (.inr (.inr (.inl h)))}
    ·exact .inr (.inr (.inr (.inr h))))
  refine⟨.ref s.heap.objs.size,_,I2,U,⟨_,x,y,hfr,U,fun zs hzs=>?_,fun zs hzs=>?_,U⟩,⟨z2,(b2.2 _ D.pz).trans (kp _ _ D.pz D.pq D.pa D.pb hp),⟨_,_,(b2.2 _ D.qz).trans q'⟩,sV u1 b2 D.az,jX u2 b2 D.bz⟩,fun c hc=>(ff c hc).1⟩;{rw[I.sX hzs hx];exact ex};{rw[I.wz hzs hy];exact ey}
 done:=by
  intro X hP hw hK hc i ZY s σ H E I hf st hg;subst hP hw hK;obtain⟨xs,ys,hx,hy,hend⟩:=hg;obtain⟨hz,hp,⟨u,v,hq⟩,j1,j2⟩:=st;obtain⟨its,rv,tp,_⟩:=I.tuple hx;obtain⟨its2,rv2,tp2,_⟩:=I.list hy;have l1:=rv.length;have l2:=rv2.length;refine Ry (I.ok.hd hc) D hz hp hq j1 j2 (show s.heap.IsTuple a its.toArray from tp) (show s.heap.IsList b its2.toArray from tp2.isList) (hend.imp (fun h=>by simp;lia) fun h=>by simp;lia) fun h' kp=>⟨U,?_⟩;exact I.vW (t':=s.toks) (ch:=[z,q,i1,i2]) (fun c o hc e=>kp c o (fun h=>hc (by simp [h])) (fun h=>hc (by simp [h])) (fun h=>hc (by simp [h])) (fun h=>hc (by simp [h])) e)
   fun c hc=>hf c (by simp only[Ye] at hc ⊢;rcases hc with h | h | h | h;exact .inl h;exact .inr (.inr (.inl h));exact .inr (.inr (.inr (.inl h)));exact .inr (.inr (.inr (.inr h))))
 self:=fun _ _ _ _ _ st h=>wpAny_pyIter_zip st.1 h
def Vh (K:Ww)(ta:TA):TI:=fun σ H R=>ta σ H fun vs H1=>∃ a b xs ys,vs=[.ref a,.ref b]/\SqT K H1 a xs/\SqL K H1 b ys/\R (Itu K a b) H1
def MJ {X:Cx} {elts:DO} {x1} {tpos:ZX} {a b:Expr} {ta:TA} {p pos:ZX} (hg:Gl X "zip") (hm:X.mg "zip" = none) (ha:PA X [a,b] ta) (hs:Wg [a,b] X.env=[(false,Xw a X.env),(false,Xw b X.env)]:=by rfl) (hs2:Wg [b] X.env=[(false,Xw b X.env)]:=by rfl) :
  PI X (.Tuple elts x1 tpos) (.Call (.Name "zip" p) [a,b] [] pos) (Vh X.K ta):=by
 intro ZY s σ H R I h;refine Call_ (jH I hg hm boot_zip (X3 (thn (ha pos ZY s σ H _ I h) fun us s1 ⟨vs,H1,I1,r1,q1⟩=>?_) (by rw[hs,hs2]) (by rw[hs2];rfl)));obtain⟨c,d,xs,ys,e,hx,hy,q⟩:=q1;subst e;obtain⟨u1,u2,rfl,ru1,ru2⟩:=vals2 r1;cases ru1;cases ru2;obtain⟨its,_,tp,_⟩:=I1.tuple hx;obtain⟨its2,_,tp2,_⟩:=I1.list hy;refine Pg (show s1.heap.IsTuple c its.toArray from tp) (show s1.heap.IsList d its2.toArray from tp2.isList) fun h' z' p' q' j1 j2 kp=>?_;have lc:c < s1.heap.objs.size:=by obtain⟨o,e,_⟩:=tp;exact V9 e
 have ld:d < s1.heap.objs.size:=by obtain⟨o,e,_⟩:=tp2.isList;exact V9 e
 have D:Zap (s1.heap.objs.size+4) (s1.heap.objs.size+2) (s1.heap.objs.size+3) s1.heap.objs.size (s1.heap.objs.size+1) c d:=Pu lc ld;refine wpAny_pyIter_zip z' ⟨_,_,_,_,H1,U,I1.kept (t':=s1.toks) kp,Kg D,⟨z',p',⟨_,_,q'⟩,j1,j2⟩,fun e he=>?_,q⟩;have hle:s1.heap.objs.size<=e:=by
  simp only[Ye,Z7,or_false] at he;rcases he with rfl | rfl | rfl | rfl | rfl <;> lia
 exact I1.Mw hle (I1.hok.fresh hle)
def Ce {K:Ww}{a b D:Addr}{xs ys:List V}{g:TG}{tt:TT}{te:TE}{H1:Hp}{Q:Hp->Prop}{σ0:St}(hlen:xs.length=ys.length)(Pv:Nat->List V->St->Hp->Prop)(h0:Pv 0 [] σ0 (upd H1 D (.lst [])))
  (hl:∀ i zs σ H,i<=xs.length->Pv i zs σ H->SqT K H a xs/\SqL K H b ys/\H D=some (.lst zs))
  (hs:∀ i zs x y p σ H,xs[i]? = some x->ys[i]? = some y->H p=none->Pv i zs σ H->g (.ref p) σ (upd H p (.tup [x,y])) fun σ3 H3=>tt σ3 H3 fun c H4=>if c=true then te σ3 H4 fun v H5=>H5 D=some (.lst zs)/\zs.length < sizeLine/\Pv (i+1) (zs++[v]) σ3 (upd H5 D (.lst (zs++[v]))) else Pv (i+1) zs σ3 H4)
  (hd:∀ zs σ H,Pv xs.length zs σ H->Q H):iU D σ0 (Itu K a b) g tt te H1 Q:=by
 refine⟨fun i m zs σ H=>m=xs.length - i/\i<=xs.length/\Pv i zs σ H,⟨xs.length,by simp,Wz _,h0⟩,?_⟩;rintro i m zs σ H ⟨rfl,hi,p⟩;obtain⟨q1,q2,qD⟩:=hl i zs σ H hi p;refine⟨qD,?_⟩;by_cases hlt:i < xs.length
 ·have hlt2:i < ys.length:=by lia
  refine .inr ⟨⟨xs,ys,xs[i],ys[i],q1,q2,by simp [hlt],by simp [hlt2]⟩,Pv (i+1),fun zs' σ' H' p'=>⟨xs.length - (i+1),by lia,U,hlt,p'⟩,fun v H' y=>?_⟩;obtain⟨pp,x,y,hp,rfl,hx,hy,rfl⟩:=y;exact hs i zs x y pp σ _ (hx xs q1) (hy ys q2) hp p
 ·have e:i=xs.length:=by lia
  subst e;exact .inl ⟨⟨xs,ys,q1,q2,.inl (VP _)⟩,hd zs σ H p⟩
def Itn (K : Ww)(a : Addr) : It :=
  ⟨fun i H => ∃ xs x, SqL K H a xs ∧ xs[i]? = some x,
   fun i H v H' => ∃ p x, H p = none ∧ v = .ref p ∧ (∀ xs, SqL K H a xs → xs[i]? = some x) ∧ H' = upd H p (.tup [.int (i : Int), x]),
   fun i H => ∃ xs, SqL K H a xs ∧ xs.length ≤ i⟩
def tnN (e it a:Addr)(i:Nat)(h:WT):Prop:=(∃ old,IsEnum h e it (i:Int) old)/\h.IsListIter it a i
def Iz {P:Wi}{w:Wy}{K:Ww}{elts:DO}{x1}{pos:ZX}{e it a:Addr}(hne:e≠it) :
  Turn P w K (.Tuple elts x1 pos) (Itn K a) [e,it] e (tnN e it a) where
 mem:=by simp
 obj:=fun i h st c hc=>by
  obtain⟨⟨old,he⟩,⟨o,ho,_,d⟩⟩:=st;simp only[Ye,Z7,or_false] at hc;rcases hc with rfl | rfl;{exact⟨_,he,fun v z=>by cases z⟩};{exact⟨_,ho,fun v z=>by rw[d] at z;cases z⟩}
 keep:=fun i h h' st k=>by
  obtain⟨⟨old,he⟩,j⟩:=st;exact⟨⟨old,k e (by simp) _ he⟩,j.at fun o q=>k it (by simp) o q⟩
 item:=by
  intro X hP hw hK hc i ZY s σ H E I hf st hg;subst hP hw hK;obtain⟨xs,x,hx,ex⟩:=hg;obtain⟨⟨old,he⟩,j⟩:=st;obtain⟨its,rv,pl,_⟩:=I.list hx;obtain⟨xu,hxu,rx⟩:=rv.get ex;refine wpAny_pyNext_enum_item he j pl.isList (x:=xu) (by simpa using hxu) hne fun h' e1 j1 t1 z1 kp=>⟨_,U,?_⟩;refine wpAny_letOwnedTupleGo_enum e1 fun h2 e2 b2=>?_;have el:e < s.heap.objs.size:=V9 he;have il:it < s.heap.objs.size:=by obtain⟨o,q,_⟩:=j;exact V9 q
  have I1:Inv X ZY σ (upd H s.heap.objs.size (.tup [.int (i:Int),x])) { s with heap:=s.heap.push { cls:=.type "tuple",data:=.seq #[.int i s.toks,xu] },toks:=s.toks+1 } :=
   I.laid (t':=s.toks+1) (fun _ _ q=>VJ _ q) (VP _) ⟨by show 2<=sizeLine;decide,[.int i s.toks,xu],.cons ⟨_,U⟩ (.cons rx .nil),⟨_,V5 _ U,U,_,U⟩⟩
  have ff:∀ c∈[e,it],uv X ZY (upd H s.heap.objs.size (.tup [.int (i:Int),x])) c:=fun c hc=>by
   obtain⟨f0,fr⟩:=hf c hc;have cl:c < s.heap.objs.size:=by
    simp only[Ye,Z7,or_false] at hc;rcases hc with rfl | rfl;{exact el};{exact il}
   exact⟨by rw[aL (Wh cl)];exact f0,fr⟩
  have kk:∀ c o,c ∉ [e,it]->(s.heap.push { cls:=.type "tuple",data:=.seq #[.int i s.toks,xu] }).get? c=some o->h2.get? c=some o:=fun c o hc q=>by
   have c1:c≠e:=fun h=>hc (by simp [h]);have c2:c≠it:=fun h=>hc (by simp [h]);refine (b2.2 c c1).trans ?_;rcases Heap.get?_push_cases q with⟨ec,eo⟩ | q';{subst ec;subst eo;exact t1};{exact kp c o c1 c2 q'}
  have I2:Inv X ZY σ (upd H s.heap.objs.size (.tup [.int (i:Int),x])) { s with heap:=h2,toks:=s.toks+1 } :=
   Inv.vW (s:={ s with heap:=s.heap.push { cls:=.type "tuple",data:=.seq #[.int i s.toks,xu] },toks:=s.toks+1 }) (h':=h2) (t':=s.toks+1) (ch:=[e,it]) I1 kk ff
  refine⟨.ref s.heap.objs.size,_,I2,U,⟨_,x,I.fresh,U,fun zs hzs=>?_,U⟩,⟨⟨_,e2⟩,j1.at fun o q=>(b2.2 it (XQ hne)).trans q⟩,fun c hc=>(ff c hc).1⟩;rw[I.wz hzs hx];exact ex
 done:=by
  intro X hP hw hK hc i ZY s σ H E I hf st hg;subst hP hw hK;obtain⟨xs,hx,hend⟩:=hg;obtain⟨⟨old,he⟩,j⟩:=st;obtain⟨its,rv,pl,_⟩:=I.list hx;have l1:=rv.length;refine wpAny_pyNext_enum_end (I.ok.hd hc) he j pl.isList (by simp;lia) fun h' eb=>⟨U,?_⟩;exact I.vW (t':=s.toks) (ch:=[e,it]) (fun c o hc q=>eb c o (fun h=>hc (by simp [h])) q) hf
 self:=fun _ _ _ _ _ st h=>by
  obtain⟨⟨old,he⟩,_⟩:=st;exact wpAny_pyIter_enum he h
def Uc (K:Ww)(ta:TA):TI:=fun σ H R=>ta σ H fun vs H1=>∃ a xs,vs=[.ref a]/\H1 a=some (.lst xs)/\R (Itn K a) H1
def PQ {X:Cx} {elts:DO} {x1} {tpos:ZX} {a:Expr} {ta:TA} {p pos:ZX} (hg:Gl X "enumerate") (hm:X.mg "enumerate" = none) (ha:PA X [a] ta) (hs:Wg [a] X.env=[(false,Xw a X.env)]:=by rfl) :
  PI X (.Tuple elts x1 tpos) (.Call (.Name "enumerate" p) [a] [] pos) (Uc X.K ta):=by
 intro ZY s σ H R I h;refine Call_ (jH I hg hm boot_enumerate (X3 (thn (ha pos ZY s σ H _ I h) fun us s1 ⟨vs,H1,I1,r1,q1⟩=>?_) hs U));obtain⟨c,xs,e,hx,q⟩:=q1;subst e;obtain⟨u1,rfl,ru1⟩:=vals1 r1;cases ru1;obtain⟨z,its,n,rv,ho⟩:=I1.hok c _ hx;refine call_enumerate_1 ho fun h' e1 j1 _ kp=>?_;have en:s1.heap.objs.size+1≠s1.heap.objs.size:=X5 (XS _);refine wpAny_pyIter_enum e1 ⟨_,_,_,_,H1,U,I1.kept (t':=s1.toks) kp,Iz (a:=c) en,⟨⟨_,e1⟩,j1⟩,fun b hb=>?_,q⟩;have hle:s1.heap.objs.size<=b:=by
  simp only[Ye,Z7,or_false] at hb;rcases hb with rfl | rfl;{exact Xx _};{exact VP _}
 exact I1.Mw hle (I1.hok.fresh hle)
def KR {K:Ww}{a:Addr}{xs:List V}{g:TG}{tb:TS}{D:Ends}{σ:St}{H:Hp}(Pv:Nat->St->Hp->Prop)(h0:Pv 0 σ H)(hl:∀ i σ H,i<=xs.length->Pv i σ H->SqL K H a xs)
  (hs:∀ i x p σ H,xs[i]? = some x->H p=none->Pv i σ H->g (.ref p) σ (upd H p (.tup [.int (i:Int),x])) fun σ2 H2=>tb { D with nx:=Pv (i+1),ct:=Pv (i+1),bk:=D.nx } σ2 H2) (hd:∀ σ H,Pv xs.length σ H->D.nx σ H) :
  ∃ W:Nat->Nat->St->Hp->Prop,(∃ m,W 0 m σ H)/\∀ i m σ H,W i m σ H →
   ((Itn K a).stop i H/\D.nx σ H)∨((Itn K a).go i H/\∃ N:St->Hp->Prop,(∀ σ' H',N σ' H'->∃ m',m' < m/\W (i+1) m' σ' H')/\∀ x H',(Itn K a).yld i H x H'->g x σ H' fun σ2 H2=>tb { D with nx:=N,ct:=N,bk:=D.nx } σ2 H2):=by
 refine⟨fun i m σ H=>m=xs.length - i/\i<=xs.length/\Pv i σ H,⟨xs.length,by simp,Wz _,h0⟩,?_⟩;rintro i m σ H ⟨rfl,hi,p⟩;have q1:=hl i σ H hi p;by_cases hlt:i < xs.length;{refine .inr ⟨⟨xs,xs[i],q1,by simp [hlt]⟩,Pv (i+1),fun σ' H' p'=>⟨xs.length - (i+1),by lia,U,hlt,p'⟩,fun v H' y=>?_⟩;obtain⟨pp,x,hp,rfl,hx,rfl⟩:=y;exact hs i x pp σ _ (hx xs q1) hp p}
 ·have e:i=xs.length:=by lia
  subst e;exact .inl ⟨⟨xs,q1,VP _⟩,hd σ H p⟩
section
variable {X:Cx}{k:Nat}
inductive Gg (K:Ww)(x:V)(y:V)(H:Hp)(Q:VK):Prop where
 | mk (a b:Addr) (ns ms:DU) (_:x = .ref a) (_:y = .ref b) (_:SqT K H a (ns.map V.int)) (_:SqT K H b (ms.map V.int)) (_:Q (.bl (!decide (ns=ms))) H)
def wK (hu:X.A.units < cLine):OpR X (Yn .NotEq) (Gg X.K):=by
 intro ZY s σ H x y v u Q I rx ry h;obtain⟨a,b,ns,ms,rfl,rfl,ha,hb,q⟩:=h;cases rx;cases ry;obtain⟨its,r1,p1,_⟩:=I.tuple ha;obtain⟨its2,r2,p2,_⟩:=I.tuple hb;have i1:Xm its ns:=intsAre_of r1;have i2:Xm its2 ms:=intsAre_of r2;have l1:=i1.length;have l2:=i2.length;have r:=SeqAt.RcNeAt.tuples (e:=fun j=>ns.getD j 0 == ms.getD j 0) (show s.heap.IsTuple a its.toArray from p1) (show s.heap.IsTuple b its2.toArray from p2) hu fun j h1 h2=>by
  obtain⟨t,e1⟩:=ints_get i1 (j:=j) (by simpa using h1);obtain⟨t',e2⟩:=ints_get i2 (j:=j) (by simpa using h2);rw[aaJ,aaJ,e1,e2];exact aca _ _ _ _
 have e:=sI ns ms;have s1:its.toArray.size=ns.length:=by rw[Wd];exact l1
 have s2:its2.toArray.size=ms.length:=by rw[Wd];exact l2
 rw[s1,s2,e] at r;exact r X.prog X.w X.xe _ ⟨.bl _,H,I,U,q⟩
end
def vh {X:Cx}{tg l:Expr}{tl:TE}(K:Ww)(hK:X.K=K)(hl:PE X l tl):PI X tg l (O7 K tl):=by
 subst hK;exact cW hl
def Qo {X:Cx}{tg l:Expr}{tl:TE}(K:Ww)(hK:X.K=K)(hl:PE X l tl):PI X tg l (U9 K tl):=by
 subst hK;exact cH hl
section
variable {prog:Wi}{w:Wy}{A:WM}{E:DC}{s:VL}
end
section
variable {X:Cx}
end
theorem Dg {α β:Type}{f g:α->Option β}:∀ {l:List α},(∀ a∈l,f a=g a)->l.filterMap f=l.filterMap g
 | [],_=>rfl
 | a::l,h=>by rw[YK,YK,h a V0,Dg (fun b hb=>h b (V7 _ hb))]
def Lw {α:Type}(l:List α):((Xb l.length).map fun k=>l.length - 1 - k).filterMap (fun i=>l[i]?)=l.reverse:=by
 rw[acf];have h:∀ k∈Xb l.length,((fun i=>l[i]?) ∘ fun k=>l.length - 1 - k) k=(fun k=>l.reverse[k]?) k:=fun k hk=>by
  have:=List.mem_range.mp hk;show l[l.length - 1 - k]? = l.reverse[k]?;rw[List.getElem?_reverse this]
 rw[Dg h];have e:l.length=l.reverse.length:=List.length_reverse.symm;rw[e];generalize l.reverse=r;clear h e
 induction r with
 | nil=>rfl
 | cons a r ih =>
  rw[Wc,aau,YK];show a::_=a::r;congr 1;rw[acf];exact ih
def Ka (its:DJ):abm its.toArray none none (some (-1))=its.reverse.toArray:=by
 unfold abm;congr 1;rw[← Lw its];have hb:Y7 none none (some (-1)) its.toArray.size=((its.length:Int) - 1,-1,-1):=by
  unfold Y7;simp
 rw[hb];have hr:sliceRange ((its.length:Int) - 1) (-1) (-1)=(Xb its.length).map fun k=>its.length - 1 - k:=by
  unfold sliceRange;have hc:(if (-1:Int) > 0 then (if (its.length:Int) - 1 < -1 then (-1 - ((its.length:Int) - 1) + -1 - 1) / -1 else 0) else (if (its.length:Int) - 1 > -1 then ((its.length:Int) - 1 - -1 - -1 - 1) / (- -1) else 0)).toNat=its.length:=by
   rw[if_neg (by decide)];split;{rw[show (- -1:Int)=1 by decide,Int.ediv_one];lia};{lia}
  dsimp only;rw[hc];refine aaS fun k hk=>?_;have:=List.mem_range.mp hk;lia
 dsimp only;rw[hr];simp
section
variable {X:Cx}
end
def Ag (elt t0 i0 t1 i1:Expr)(scope:YH)(pos:ZX)(it acc:Value)(env:Env) :
  compTurn (.ListComp elt [⟨t0,i0,[],0⟩,⟨t1,i1,[],0⟩] scope pos) 0 it acc env=(do
   ZG i0.pos
   match ← Y0 it with
   | none=>pure (.done .next)
   | some v =>
    Y5 t0 it v
    abw t0 env v
    let x ← Xw i1 env
    ZG i1.pos
    let x ← Yt i1 env x
    let _ ← runOwn (.compStart (.ListComp elt [⟨t0,i0,[],0⟩,⟨t1,i1,[],0⟩] scope pos) 1 (← Z4 [x] (abJ x)) acc env) env
    again (.compLoop (.ListComp elt [⟨t0,i0,[],0⟩,⟨t1,i1,[],0⟩] scope pos) 0 it acc env)):=by rfl
def zN (elt t0 i0 t1 i1:Expr)(scope:YH)(pos:ZX)(it acc:Value)(env:Env) :
  compTurn (.ListComp elt [⟨t0,i0,[],0⟩,⟨t1,i1,[],0⟩] scope pos) 1 it acc env=(ZG i1.pos >>= fun _=>Y0 it >>= fun r=>match r with
   | none=>pure (.done .next)
   | some v=>Y5 t1 it v >>= fun _=>abw t1 env v >>= fun _ =>
    (Xw elt env >>= fun x=>call (.builtin "list.append") [acc,x] >>= fun _=>pure ()) >>= fun _ =>
     again (.compLoop (.ListComp elt [⟨t0,i0,[],0⟩,⟨t1,i1,[],0⟩] scope pos) 1 it acc env)):=by rfl
section
variable {prog:Wi}{w:Wy}{A:WM}{R:abg->VL->Prop}{s:VL}{elt t0 i0 t1 i1:Expr}{scope:YH}{pos:ZX}{it acc:Value}{env:Env}
def yp (h0:XJ (Wb prog w) A (.compLoop (.ListComp elt [⟨t0,i0,[],0⟩,⟨t1,i1,[],0⟩] scope pos) 1 it acc env) R s)
  (h:V2 (Wb prog w) A (abJ it) (fun it' s'=>XJ (Wb prog w) A (.compLoop (.ListComp elt [⟨t0,i0,[],0⟩,⟨t1,i1,[],0⟩] scope pos) 1 it' acc env) R s') (notedBy (Wb prog w) A env fun x s'=>R (.error x) s') s) :
  XJ (Wb prog w) A (.compStart (.ListComp elt [⟨t0,i0,[],0⟩,⟨t1,i1,[],0⟩] scope pos) 1 it acc env) R s:=by
 refine abD ?_;show V2 _ _ ((compStart (.ListComp elt [⟨t0,i0,[],0⟩,⟨t1,i1,[],0⟩] scope pos) 1 it acc env).onRaise (fun x=>do aaW x env;ZG theWindowsPlace)) _ _ s;refine wpAny_notedAt ?_;unfold compStart;show V2 _ _ (ask >>= _) _ _ s;refine VG (Zf (wpAny_ite ?_));split
 ·first
   | exact VG (VM (VM (And.intro rfl h0)))
   | exact VM (And.intro rfl h0)
 ·first
   | exact VG (ZQ (VG (YQ (VG (W7 h (fun it' s' h'=>VM (And.intro rfl h')) fun _ _ x=>x)))))
   | (refine VG (ZQ ?_);show V2 _ _ (ZG i1.pos >>= _) _ _ s;exact VG (YQ (VG (W7 h (fun it' s' h'=>VM (And.intro rfl h')) fun _ _ x=>x))))
abbrev noX:DC:=fun _ _=>False
def ig {E:DC}(x:Value)(s':VL)(z:noX x s'):E x s':=z.elim
def zb (hs1:∀ x,Yt i1 env x=pure x)(I:Nat->VL->Prop)
  (turn:∀ n s,I n s->V2 (Wb prog w) A (Y0 it) (fun r s₁=>match r with
   | none=>R (.ok .next) s₁
   | some v=>V2 (Wb prog w) A (Y5 t0 it v) (fun _ s₀=>V2 (Wb prog w) A (abw t0 env v) (fun _ s₂=>V2 (Wb prog w) A (Xw i1 env) (fun x s₃=>V2 (Wb prog w) A (abJ x) (fun it1 s₄ =>
     XJ (Wb prog w) A (.compStart (.ListComp elt [⟨t0,i0,[],0⟩,⟨t1,i1,[],0⟩] scope pos) 1 it1 acc env) (fun r s'=>match r with | .ok _=>∃ m,m < n/\I m s' | .error _=>False) s₄) noX s₃) noX s₂) noX s₀) noX s₁) noX s)
  (n:Nat) (h:I n s):XJ (Wb prog w) A (.compLoop (.ListComp elt [⟨t0,i0,[],0⟩,⟨t1,i1,[],0⟩] scope pos) 0 it acc env) R s:=by
 refine codeAny_loop U I (fun n s hI=>?_) n h;refine (show V2 (Wb prog w) A ((compTurn (.ListComp elt [⟨t0,i0,[],0⟩,⟨t1,i1,[],0⟩] scope pos) 0 it acc env).onRaise (fun x=>do aaW x env;acZ x)) _ _ s from wpAny_noted ?_);rw[Ag];refine VG (YQ (VG (W7 (turn n s hI) (fun r s₁ h₁=>?_) ig)));cases r with
 | none=>exact VM h₁
 | some v =>
  refine VG (W7 h₁ (fun _ s₀ h₀=>VG (W7 h₀ (fun _ s₂ h₂=>VG (W7 h₂ (fun x s₃ h₃=>VG (YQ (VG (YF (hs1 x) (VG (XR (W7 h₃ (fun it1 s₄ h₄=>?_) ig))))))) ig)) ig)) ig);refine VG (wpAny_runOwn (Zr h₄ fun r s' hr=>?_));cases r with
  | ok f=>exact VM ⟨U,hr⟩
  | error e=>exact hr.elim
def wZ (I:Nat->VL->Prop)
  (turn:∀ n s,I n s->V2 (Wb prog w) A (Y0 it) (fun r s₁=>match r with
   | none=>R (.ok .next) s₁
   | some v=>V2 (Wb prog w) A (Y5 t1 it v) (fun _ s₀=>V2 (Wb prog w) A (abw t1 env v) (fun _ s₂=>V2 (Wb prog w) A (Xw elt env) (fun x s₄=>V2 (Wb prog w) A (call (.builtin "list.append") [acc,x]) (fun _ s₅=>∃ m,m < n/\I m s₅) noX s₄) noX s₂) noX s₀) noX s₁) noX s)
  (n:Nat) (h:I n s):XJ (Wb prog w) A (.compLoop (.ListComp elt [⟨t0,i0,[],0⟩,⟨t1,i1,[],0⟩] scope pos) 1 it acc env) R s:=by
 refine codeAny_loop U I (fun n s hI=>?_) n h;refine (show V2 (Wb prog w) A ((compTurn (.ListComp elt [⟨t0,i0,[],0⟩,⟨t1,i1,[],0⟩] scope pos) 1 it acc env).onRaise (fun x=>do aaW x env;acZ x)) _ _ s from wpAny_noted ?_);rw[zN];refine VG (YQ (VG (W7 (turn n s hI) (fun r s₁ h₁=>?_) ig)));cases r with
 | none=>exact VM h₁
 | some v =>
  refine VG (W7 h₁ (fun _ s₀ h₀=>VG (W7 h₀ (fun _ s₂ h₂=>VG (VG (W7 h₂ (fun x s₄ h₄=>VG (W7 h₄ (fun _ s₅ h₅=>VM (VM ⟨U,h₅⟩)) ig)) ig))) ig)) ig)
end
def qw (D:Addr)(σ0:St)(J:It)(g:TG)(wi1:TI)(g1:TG)(te:TE)(H1:Hp)(Q:Hp->Prop):Prop :=
 ∃ W:Nat->Nat->List V->St->Hp->Prop,(∃ m,W 0 m [] σ0 (upd H1 D (.lst []))) ∧
  ∀ i m ys σ' H',W i m ys σ' H'->((J.stop i H'/\Q H')∨(J.go i H'/\∃ N:List V->St->Hp->Prop,(∀ zs σ2 H2,N zs σ2 H2->∃ m',m' < m/\W (i+1) m' zs σ2 H2) ∧
   ∀ x H2,J.yld i H' x H2->g x σ' H2 fun σ3 H3=>wi1 σ3 H3 fun J1 H4 =>
    ∃ Y:Nat->Nat->List V->St->Hp->Prop,(∃ m,Y 0 m ys σ3 H4) ∧
     ∀ j m zs σ5 H5,Y j m zs σ5 H5->((J1.stop j H5/\N zs σ5 H5)∨(J1.go j H5/\∃ M:List V->St->Hp->Prop,(∀ zs σ6 H6,M zs σ6 H6->∃ m',m' < m/\Y (j+1) m' zs σ6 H6) ∧
      ∀ y H6,J1.yld j H5 y H6->g1 y σ5 H6 fun σ7 H7=>te σ7 H7 fun v H8=>H8 D=some (.lst zs)/\zs.length < sizeLine/\M (zs++[v]) σ7 (upd H8 D (.lst (zs++[v])))))))
def SN (n:Nat)(cap:DV)(wi:TI)(g:TG)(wi1:TI)(g1:TG)(te:TE):TE:=fun σ H Q=>wi σ H fun J H1=>∀ D,H1 D=none->qw D (HJ n cap σ) J g wi1 g1 te H1 fun H2=>Q (.ref D) H2
section
variable {X:Cx}{elt t0 i0 t1 i1:Expr}{scope:YH}{pos:ZX}{L F:D0}{cap:DV}{wi wi1:TI}{g g1:TG}{te:TE}
def Gk {cl:DA}{ZY:Do}{σ:St}{s2:VL}{H2:Hp}{it:Addr}{fp:DM}{tn:Nat->WT->Prop}{J:It}{use:C8}{QQ:DC}{Z:Hp->Prop}{E:DC}
  (hc:X.calm=true) (ok:sH X scope F cap)
  (sub:∀ n c,cl.lookup n=some c->X.env.cells.lookup n=some c) (all:∀ y∈scope.names,y.2 = .free->∃ c,cl.lookup y.1=some c)
  (hg:∀ cl C s H fp,PG (bD X scope cl C (L++F) s H fp) t0 g) (hi1:∀ cl C s H fp,PI (bD X scope cl C (L++F) s H fp) t1 i1 wi1) (hg1:∀ cl C s H fp,PG (bD X scope cl C (L++F) s H fp) t1 g1) (he:∀ cl C s H fp,PE (bD X scope cl C (L++F) s H fp) elt te)
  (hs1:∀ (env:Env) x,Yt i1 env x=pure x)
  (I2:Inv X ZY σ H2 s2) (T:Turn X.prog X.w X.K t0 J fp it tn) (st2:tn 0 s2.heap) (f2:∀ b∈fp,uv X ZY H2 b)
  (q2:qw s2.heap.objs.size (HJ L.length cap σ) J g wi1 g1 te H2 Z)
  (fin:∀ (C:Addr) (s':VL) (H':Hp),Z H'->Inv X ZY σ H' s'->(∃ m,s'.heap.Ns C m)->H' C=none->C≠X.env.locals->X.s₀.heap.objs.size<=C->(∀ x c,X.env.cells.lookup x=some c->c≠C)->(∀ p∈X.pn++ZY,p.1≠C) →
   aae (Wb X.prog X.w) X.A E use QQ (.ref s2.heap.objs.size) C (.ok .next) s') :
  V2 (Wb X.prog X.w) X.A (ada []) (fun acc s₃=>V2 (Wb X.prog X.w) X.A (aa0 scope X.env.globals cl [] X.env.qual none .none (some X.env)) (fun cenv s₄ =>
   XJ (Wb X.prog X.w) X.A (.compStart (.ListComp elt [⟨t0,i0,[],0⟩,⟨t1,i1,[],0⟩] scope pos) 0 (.ref it) acc { cenv with scope:=relabel scope X.env }) (aae (Wb X.prog X.w) X.A E use QQ acc cenv.locals) s₄) E s₃) E s2:=by
 have hD:H2 s2.heap.objs.size=none:=I2.fresh;refine Wx (wpAny_newFunctionEnv ok.cell (by intro y hy;simp at hy) (fun h₁ hns₁ hsb₁=>?_) ok.kind);dsimp only at hns₁ hsb₁ ⊢;have I3:Inv X ZY σ (upd H2 s2.heap.objs.size (.lst [])) { s2 with heap:=s2.heap.push { cls:=.type "list",data:=.seq ([]:DJ).toArray } }:=I2.Su (t':=s2.toks) (ys:=[]) (its:=[]) .nil (Wz _);have blt:∀ b∈fp,b < s2.heap.objs.size:=fun b hb=>let ⟨_,e,_⟩:=T.obj 0 _ st2 b hb;V9 e;have szC:(s2.heap.push { cls:=.type "list",data:=.seq ([]:DJ).toArray }).objs.size=s2.heap.objs.size+1:=WY _ _;generalize hs3:({ s2 with heap:=s2.heap.push { cls:=.type "list",data:=.seq ([]:DJ).toArray } }:VL)=s3 at I3;have es3:s3.heap=s2.heap.push { cls:=.type "list",data:=.seq ([]:DJ).toArray }:=by rw[← hs3]
 have eos:s3.os=s2.os:=by rw[← hs3]
 have fok:∀ b∈fp,uv X ZY (upd H2 s2.heap.objs.size (.lst [])) b/\b < s3.heap.objs.size:=fun b hb=>by
  obtain⟨f0,fr⟩:=f2 b hb;refine⟨⟨by rw[aL (Wh (blt b hb))];exact f0,fr⟩,?_⟩;rw[es3,szC];exact WX (blt b hb)
 have hkp:∀ b o,s3.heap.get? b=some o->h₁.get? b=some o:=fun b o e=>by
  have e':b < s3.heap.objs.size:=V9 e;rw[es3] at e e';exact (hsb₁.2 b (Wh e')).trans (VJ _ e)
 have hns:h₁.Ns s3.heap.objs.size fun _=>none:=by
  rw[es3];exact hns₁
 have I4:∀ tk,Inv (bD X scope cl s3.heap.objs.size (L++F) s3 (upd H2 s2.heap.objs.size (.lst [])) fp) [] (HJ L.length cap σ) (upd H2 s2.heap.objs.size (.lst [])) { s3 with heap:=h₁,toks:=tk }:=fun tk =>
  uO (L:=L) ok I3 fok sub all hns hkp
 have stat:∀ {H':Hp},(∀ b∈fp,H' b=none)->∀ b∈fp,uv (bD X scope cl s3.heap.objs.size (L++F) s3 (upd H2 s2.heap.objs.size (.lst [])) fp) [] H' b:=fun {H'} hn b hb=>by
  obtain⟨⟨_,g1,g2,g3,g4,g5⟩,g6⟩:=fok b hb;exact⟨hn b hb,Wh g6,su I3 g1 g2,.inl hb,fun x c e=>g4 x c (sub x c e),fun p hp=>absurd (show p∈([]:Do) from hp) (by simp)⟩
 have loop:∀ tk,XJ (Wb X.prog X.w) X.A (.compLoop (.ListComp elt [⟨t0,i0,[],0⟩,⟨t1,i1,[],0⟩] scope pos) 0 (.ref it) (.ref s2.heap.objs.size) (aa1 scope cl s3.heap.objs.size X.env))
   (aae (Wb X.prog X.w) X.A E use QQ (.ref s2.heap.objs.size) s3.heap.objs.size) { s3 with heap:=h₁,toks:=tk }:=fun tk=>by
  obtain⟨W,⟨m0,w0⟩,turn⟩:=q2;have st3:tn 0 h₁:=T.keep 0 _ _ st2 fun b hb o e=>hkp b o (by rw[es3];exact VJ _ e);refine zb (hs1 _) (fun n s'=>∃ i ys σ' H',Inv (bD X scope cl s3.heap.objs.size (L++F) s3 (upd H2 s2.heap.objs.size (.lst [])) fp) [] σ' H' s'/\tn i s'.heap/\(∀ b∈fp,H' b=none)/\W i n ys σ' H') ?_ m0
   ⟨0,[],_,_,I4 tk,st3,fun b hb=>(fok b hb).1.1,w0⟩
  rintro n s5 ⟨i,ys,σ5,H5,I5,st5,fr5,w5⟩;rcases turn i n ys σ5 H5 w5 with⟨stop,qz⟩ | ⟨go,N,hN,step⟩
  ·refine thn (T.done (bD X scope cl s3.heap.objs.size (L++F) s3 (upd H2 s2.heap.objs.size (.lst [])) fp) U U U hc i [] s5 σ5 H5 _ I5 (stat fr5) st5 stop) fun r s6 ⟨hr,I6⟩=>?_;subst hr;have un:Un (frs X.stack) fp H2 H5 s2.heap s6.heap:=by
    have u1:Un (frs X.stack) fp H2 (upd H2 s2.heap.objs.size (.lst [])) s2.heap s3.heap:=by
     rw[es3];exact Un.laid (fun _ _ q=>VJ _ q) (VP _) hD
    exact u1.trans I6.base
   have J1:Inv X ZY σ H5 s6:=I2.call' (I6.os.trans eos) un I6.hok I6.bare fun b hb=>by
    obtain⟨_,g1,_,g3,g4,g5⟩:=f2 b hb;exact⟨g3,g1,g4,g5⟩
   have hC:s2.heap.objs.size<=s3.heap.objs.size:=by rw[es3,szC];exact Xx _
   obtain⟨m,hm,_⟩:=I6.loc;refine fin s3.heap.objs.size s6 H5 qz J1 ⟨m,hm⟩ I6.free (X5 (V4 I2.lt hC)) (Wn I2.sz hC) (fun x c e z=>?_) (fun p hp z=>?_);{obtain⟨v,q⟩:=I2.cell x c e;exact absurd (V4 q.lt (by rw[z];exact hC)) (Xa _)};{exact absurd (V4 (V9 (I2.pin p hp).1) (by rw[z];exact hC)) (Xa _)}
  ·refine thn (T.item (bD X scope cl s3.heap.objs.size (L++F) s3 (upd H2 s2.heap.objs.size (.lst [])) fp) U U U hc i [] s5 σ5 H5 _ I5 (stat fr5) st5 go) fun r s6 ⟨u,hr,h6⟩=>?_;subst hr;refine thn h6 fun _ s7 ⟨x,H7,I7,r7,y7,st7,fr7⟩=>?_;have I7':=I7.pinned (stat fr7) (T.obj _ _ st7);refine thn (hg _ _ _ _ _ _ s7 σ5 H7 x u _ I7' r7 (step x H7 y7)) fun _ s8 ⟨σ8,H8,I8,q8⟩=>?_;have again:∀ {σ9:St} {H9:Hp} {s9:VL} {zs:List V},Inv (bD X scope cl s3.heap.objs.size (L++F) s3 (upd H2 s2.heap.objs.size (.lst [])) fp) ([]++nQ fp s7.heap) σ9 H9 s9->N zs σ9 H9 →
     ∃ m,m < n/\∃ i ys σ' H',Inv (bD X scope cl s3.heap.objs.size (L++F) s3 (upd H2 s2.heap.objs.size (.lst [])) fp) [] σ' H' s9/\tn i s9.heap/\(∀ b∈fp,H' b=none)/\W i m ys σ' H':=fun {σ9 H9 s9 zs} I9 n9=>by
    obtain⟨m',hm,w9⟩:=hN zs σ9 H9 n9;refine⟨m',hm,i+1,zs,σ9,H9,I9.jy,T.keep _ _ _ st7 fun b hb o e=>(I9.pin (b,o) (Wq _ (Wq _ (cQ hb e)))).1,fun b hb=>?_,w9⟩;obtain⟨o,e,d⟩:=T.obj _ _ st7 b hb;exact (I9.pin (b,o) (Wq _ (Wq _ (cQ hb e)))).2.1
   refine thn (hi1 _ _ _ _ _ _ s8 σ8 H8 _ I8 q8) fun v1 s9 h9=>thn h9 fun itv s10 h10=>?_;obtain⟨it1,fp1,tn1,J1,H10,e,I10,T1,st10,f10,Y,⟨m1,y0⟩,turn1⟩:=h10;subst e;have stat1:∀ {H':Hp},(∀ b∈fp1,H' b=none)->∀ b∈fp1,uv (bD X scope cl s3.heap.objs.size (L++F) s3 (upd H2 s2.heap.objs.size (.lst [])) fp) ([]++nQ fp s7.heap) H' b:=fun hn b hb=>⟨hn b hb,(f10 b hb).2⟩;have loop1:XJ (Wb X.prog X.w) X.A (.compLoop (.ListComp elt [⟨t0,i0,[],0⟩,⟨t1,i1,[],0⟩] scope pos) 1 (.ref it1) (.ref s2.heap.objs.size) (aa1 scope cl s3.heap.objs.size X.env))
     (fun r s'=>match r with | .ok _=>∃ m,m < n/\∃ i ys σ' H',Inv (bD X scope cl s3.heap.objs.size (L++F) s3 (upd H2 s2.heap.objs.size (.lst [])) fp) [] σ' H' s'/\tn i s'.heap/\(∀ b∈fp,H' b=none)/\W i m ys σ' H' | .error _=>False) s10:=by
    refine wZ (fun k s'=>∃ j zs σ' H',Inv (bD X scope cl s3.heap.objs.size (L++F) s3 (upd H2 s2.heap.objs.size (.lst [])) fp) ([]++nQ fp s7.heap) σ' H' s'/\tn1 j s'.heap/\(∀ b∈fp1,H' b=none)/\Y j k zs σ' H') ?_ m1
     ⟨0,ys,_,_,I10,st10,fun b hb=>(f10 b hb).1,y0⟩
    rintro k s11 ⟨j,zs,σ11,H11,I11,st11,fr11,w11⟩;rcases turn1 j k zs σ11 H11 w11 with⟨stop1,n1⟩ | ⟨go1,M,hM,step1⟩;{refine thn (T1.done (bD X scope cl s3.heap.objs.size (L++F) s3 (upd H2 s2.heap.objs.size (.lst [])) fp) U U U hc j _ s11 σ11 H11 _ I11 (stat1 fr11) st11 stop1) fun r s12 ⟨hr,I12⟩=>?_;subst hr;exact again I12 n1};{refine thn (T1.item (bD X scope cl s3.heap.objs.size (L++F) s3 (upd H2 s2.heap.objs.size (.lst [])) fp) U U U hc j _ s11 σ11 H11 _ I11 (stat1 fr11) st11 go1) fun r s12 ⟨u1,hr,h12⟩=>?_;subst hr;refine thn h12 fun _ s13 ⟨x1,H13,I13,r13,y13,st13,fr13⟩=>?_;have I13':=I13.pinned (stat1 fr13) (T1.obj _ _ st13);refine thn (hg1 _ _ _ _ _ _ s13 σ11 H13 x1 u1 _ I13' r13 (step1 x1 H13 y13)) fun _ s14 ⟨σ14,H14,I14,q14⟩=>?_;refine thn (he _ _ _ _ _ _ s14 σ14 H14 _ I14 q14) fun y s15 ⟨yv,H15,I15,r15,e15,z15,n15⟩=>?_;refine thn (cI _ s15 σ14 H15 (.ref s2.heap.objs.size) [yv] (.ref s2.heap.objs.size) [y] (fun _ H'=>M (zs++[yv]) σ14 H') I15 U (.cons r15 .nil) ⟨_,zs,yv,U,U,e15,z15,n15⟩) fun _ s16 ⟨_,H16,I16,_,n16⟩=>?_;obtain⟨m',hm,w16⟩:=hM _ _ _ n16;refine⟨m',hm,j+1,_,σ14,H16,I16.jy,T1.keep _ _ _ st13 fun b hb o e=>(I16.pin (b,o) (Wq _ (Wq _ (cQ hb e)))).1,fun b hb=>?_,w16⟩;obtain⟨o,e,d⟩:=T1.obj _ _ st13 b hb;exact (I16.pin (b,o) (Wq _ (Wq _ (cQ hb e)))).2.1}
   exact yp loop1 (T1.self _ 0 _ _ _ st10 loop1)
 have eC:(s2.heap.push { cls:=.type "list",data:=.seq ([]:DJ).toArray }).objs.size=s3.heap.objs.size:=by rw[es3]
 have goal:∀ tk,XJ (Wb X.prog X.w) X.A (.compStart (.ListComp elt [⟨t0,i0,[],0⟩,⟨t1,i1,[],0⟩] scope pos) 0 (.ref it) (.ref s2.heap.objs.size) (aa1 scope cl s3.heap.objs.size X.env))
   (aae (Wb X.prog X.w) X.A E use QQ (.ref s2.heap.objs.size) s3.heap.objs.size) { s3 with heap:=h₁,toks:=tk }:=fun tk =>
  abv (loop tk) (T.self _ 0 _ _ _ (T.keep 0 _ _ st2 fun b hb o e=>hkp b o (by rw[es3];exact VJ _ e)) (loop tk))
 have g0:=goal (s2.toks+([]:Db).length);subst hs3;exact g0
def Mh (hc:X.calm=true)(ok:sH X scope F cap)(hi:PI X t0 i0 wi)
  (hg:∀ cl C s H fp,PG (bD X scope cl C (L++F) s H fp) t0 g) (hi1:∀ cl C s H fp,PI (bD X scope cl C (L++F) s H fp) t1 i1 wi1) (hg1:∀ cl C s H fp,PG (bD X scope cl C (L++F) s H fp) t1 g1) (he:∀ cl C s H fp,PE (bD X scope cl C (L++F) s H fp) elt te)
  (hs:∀ x,Yt i0 X.env x=pure x:=by intro _;rfl) (hs1:∀ (env:Env) x,Yt i1 env x=pure x:=by intro _ _;rfl):PE X (.ListComp elt [⟨t0,i0,[],0⟩,⟨t1,i1,[],0⟩] scope pos) (SN L.length cap wi g wi1 g1 te):=by
 intro ZY s σ H Q I h;obtain⟨cl,e1,e2,e3⟩:=vz (scope:=scope) (env:=X.env) (fun y hy hf=>I.ok.has _ (ok.fr y hy hf));rw[eval_ListComp];refine aad (use:=none) U hs e1 ok.kind ok.nms (thn (hi ZY s σ H _ I h) fun v s1 h1=>thn h1 fun itv s2 h2=>?_);obtain⟨it,fp,tn,J,H2,e,I2,T,st2,f2,q2⟩:=h2;subst e;refine Gk (Z:=fun H'=>Q (.ref s2.heap.objs.size) H') hc ok e2 e3 hg hi1 hg1 he hs1 I2 T st2 f2 (q2 _ I2.fresh) fun C s' H' z J m hCf hCl hCs hCc hCp=>?_;obtain⟨m,hm⟩:=m;exact⟨m,hm,fun h' hs'=>⟨.ref _,H',J.turned (t':=s'.toks) (fun b o hb e=>(hs'.2 b hb).trans e) hCf hCl (.inr hCs) hCc hCp,U,z⟩⟩
end
section
variable {X:Cx}
end
def In2 (D:Addr)(J1:It)(g1:TG)(te:TE)(N:List V->St->Hp->Prop)(ys:List V)(σ3:St)(H4:Hp):Prop :=
 ∃ Y:Nat->Nat->List V->St->Hp->Prop,(∃ m,Y 0 m ys σ3 H4) ∧
  ∀ j m zs σ5 H5,Y j m zs σ5 H5->((J1.stop j H5/\N zs σ5 H5)∨(J1.go j H5/\∃ M:List V->St->Hp->Prop,(∀ zs σ6 H6,M zs σ6 H6->∃ m',m' < m/\Y (j+1) m' zs σ6 H6) ∧
   ∀ y H6,J1.yld j H5 y H6->g1 y σ5 H6 fun σ7 H7=>te σ7 H7 fun v H8=>H8 D=some (.lst zs)/\zs.length < sizeLine/\M (zs++[v]) σ7 (upd H8 D (.lst (zs++[v])))))
def FT {K:Ww}{a D:Addr}{xs:List V}{g:TG}{wi1:TI}{g1:TG}{te:TE}{H1:Hp}{Q:Hp->Prop}{σ0:St}(Pv:Nat->List V->St->Hp->Prop)(h0:Pv 0 [] σ0 (upd H1 D (.lst [])))
  (hl:∀ i ys σ H,i<=xs.length->Pv i ys σ H->SqT K H a xs)
  (hs:∀ i ys x σ H,xs[i]? = some x->Pv i ys σ H->g x σ H fun σ3 H3=>wi1 σ3 H3 fun J1 H4=>In2 D J1 g1 te (Pv (i+1)) ys σ3 H4)
  (hd:∀ ys σ H,Pv xs.length ys σ H->Q H):qw D σ0 (Itt K a) g wi1 g1 te H1 Q:=by
 refine⟨fun i m ys σ H=>m=xs.length - i/\i<=xs.length/\Pv i ys σ H,⟨xs.length,by simp,Wz _,h0⟩,?_⟩;rintro i m ys σ H ⟨rfl,hi,p⟩;have q:=hl i ys σ H hi p;by_cases hlt:i < xs.length;{refine .inr ⟨⟨xs,xs[i],q,by simp [hlt]⟩,Pv (i+1),fun zs σ' H' p'=>⟨xs.length - (i+1),by lia,U,hlt,p'⟩,fun x H' y=>?_⟩;obtain⟨e,y⟩:=y;subst e;exact hs i ys x σ _ (y xs q) p}
 ·have e:i=xs.length:=by lia
  subst e;exact .inl ⟨⟨xs,q,VP _⟩,hd ys σ H p⟩
def JP {K:Ww}{b D:Addr}{ws:List V}{g1:TG}{te:TE}{N:List V->St->Hp->Prop}{ys:List V}{σ3:St}{H4:Hp}(Pw:Nat->List V->St->Hp->Prop)(h0:Pw 0 ys σ3 H4)
  (hl:∀ j zs σ H,j<=ws.length->Pw j zs σ H->SqL K H b ws)
  (hs:∀ j zs y σ H,ws[j]? = some y->Pw j zs σ H->g1 y σ H fun σ7 H7=>te σ7 H7 fun v H8=>H8 D=some (.lst zs)/\zs.length < sizeLine/\Pw (j+1) (zs++[v]) σ7 (upd H8 D (.lst (zs++[v]))))
  (hd:∀ zs σ H,Pw ws.length zs σ H->N zs σ H):In2 D (Itl K b) g1 te N ys σ3 H4:=by
 refine⟨fun j m zs σ H=>m=ws.length - j/\j<=ws.length/\Pw j zs σ H,⟨ws.length,by simp,Wz _,h0⟩,?_⟩;rintro j m zs σ H ⟨rfl,hj,p⟩;have q:=hl j zs σ H hj p;by_cases hlt:j < ws.length;{refine .inr ⟨⟨ws,ws[j],q,by simp [hlt]⟩,Pw (j+1),fun zs' σ' H' p'=>⟨ws.length - (j+1),by lia,U,hlt,p'⟩,fun y H' z=>?_⟩;obtain⟨e,z⟩:=z;subst e;exact hs j zs y σ _ (z ws q) p}
 ·have e:j=ws.length:=by lia
  subst e;exact .inl ⟨⟨ws,q,VP _⟩,hd zs σ H p⟩
section
variable {prog:Wi}{w:Wy}{A:WM}{E:DC}{s:VL}
end
section
variable {X:Cx}
end
section
variable {X:Cx}{elt t0 i0 t1 i1:Expr}{scope:YH}{pos:ZX}{L F:D0}{cap:DV}{wi wi1:TI}{g g1:TG}{te:TE}
end
section
variable {X:Cx}{tg:Expr}
end
def dj (X:Cx)(scope:YH)(cl:DA)(C:Addr)(x0:Wt)(N:D0)(s:VL)(H:Hp)(fp:DM):Cx :=
 {X with N:=N,s₀:=s,H₀:=H,env:=aa1 scope ((x0,C+1)::cl) C X.env,outer:=X.stack,ex:=fp,fn:=fun y=>y == x0,pn:=[],xe:=fun _ _=>False }
structure u9 (X:Cx)(scope:YH)(x0:Wt)(F:D0)(cap:DV):Prop where
 kind:scope.kind = .function
 cf:∀ (n:Nat) (acc:DA),abU n scope.names acc=(x0,n)::acc
 pc:∀ h:WT,pushCells h scope.names=h.push { cls:=.type "cell",data:=.cell none }
 own:∀ x,scope.names.lookup x=some .cell->x=x0
 own0:scope.names.lookup x0=some .cell
 nms:∀ y∈scope.names,y.2 = .local->scope.names.lookup y.1=some .local
 fr:∀ y∈scope.names,y.2 = .free->X.env.kindOf y.1=some .cell∨X.env.kindOf y.1=some .free
 len:cap.length=F.length
 at':∀ (k:Nat) (x:Wt),F[k]? = some x->∃ i,cap[k]? = some i/\X.N[i]? = some x/\scope.names.lookup x=some .free
def lkK {x0 x:Wt}{c0 c:Addr}{cl:DA}(h:((x0,c0)::cl).lookup x=some c):(x=x0/\c=c0)∨(x≠x0/\cl.lookup x=some c):=by
 by_cases e:x=x0;{subst e;rw[List.lookup_cons_self] at h;exact .inl ⟨U,(WL h).symm⟩};{refine .inr ⟨e,?_⟩;rw[W8] at h;have:(x == x0)=false:=beq_eq_false_iff_ne.mpr e;rw[this] at h;exact h}
def Jh {x0 x:Wt}{c0 c:Addr}{cl:DA}(e:x≠x0)(h:cl.lookup x=some c):((x0,c0)::cl).lookup x=some c:=by
 rw[W8];have:(x == x0)=false:=beq_eq_false_iff_ne.mpr e;rw[this];exact h
def Ol {M:acW}{A:WM}{E:DC}{s:VL}{scope:YH}{globals:Addr}{cl:DA}{qual:Wt}{outer:Env}{Q:Env->VL->Prop}
  (hQ:Q (newEnv scope s.heap.objs.size globals (abU (s.heap.objs.size+1) scope.names cl) qual none .none (some outer) builtinsNs) { s with heap:=pushCells (s.heap.push { cls:=.type "dict",data:=.dict #[] }) scope.names }) :
  V2 M A (aa0 scope globals cl [] qual none .none (some outer)) Q E s:=by
 simp only[aa0,Option.isSome_some,if_true];refine VG (wpAny_alloc ?_);refine VG (wpAny_layCells _ (fun name kind cells=>by cases hkc:kind == aaD <;> simp [hkc]) _ _ _ _ ?_)
 rw[show ({ s with heap:=s.heap.push { cls:=.type "dict",data:=.dict #[] } }:VL).heap.objs.size=s.heap.objs.size+1 from WY ..];refine VG ?_;rw[abR];exact VM (VM hQ)
section
variable {X:Cx}{elt tg iter:Expr}{ifs:DO}{scope:YH}{pos:ZX}{x0:Wt}{L F:D0}{cap:DV}{wi:TI}{g:TG}{tt:TT}{te:TE}
def Ak {cl:DA}{ZY:Do}{σ:St}{H:Hp}{s:VL}{fp:DM}{h₁:WT}{tk:Nat}(ok:u9 X scope x0 F cap)(I:Inv X ZY σ H s)(hfp:∀ b∈fp,uv X ZY H b/\b < s.heap.objs.size)
  (sub:∀ n c,cl.lookup n=some c->X.env.cells.lookup n=some c) (all:∀ y∈scope.names,y.2 = .free->∃ c,cl.lookup y.1=some c)
  (ns:h₁.Ns s.heap.objs.size fun _=>none) (kp:∀ b o,s.heap.get? b=some o->h₁.get? b=some o) (nc:h₁.IsCell (s.heap.objs.size+1) none) :
  Inv (dj X scope cl s.heap.objs.size x0 (L++F) s H fp) [] (HJ L.length cap σ) H { s with heap:=h₁,toks:=tk }:=by
 have frk:∀ x,scope.names.lookup x=some .free->X.env.kindOf x=some .cell∨X.env.kindOf x=some .free:=fun x e=>ok.fr (x,.free) (Xi e) U;have old:∀ x c,cl.lookup x=some c->c < s.heap.objs.size:=fun x c e=>let ⟨_,q⟩:=I.cell x c (sub x c e);q.lt;have okX:(dj X scope cl s.heap.objs.size x0 (L++F) s H fp).Ok:=by
  refine⟨I.ok.mod,ok.kind,I.ok.glob,I.ok.blt,VP _,fun x y c e1 e2=>?_,fun x hx=>?_,fun x c hx e=>?_,I.ok.hd,I.ok.frames,.inl U,fun b hb=>⟨Wh (hfp b hb).2,fun x c e=>?_⟩,I.bs,Wn I.ok.bsz I.sz,fun b o e hb=>?_,fun b hb=>?_,I.stack,I.vQ⟩
  ·rcases lkK e1 with⟨f1,f2⟩ | ⟨f1,f2⟩ <;> rcases lkK e2 with⟨f3,f4⟩ | ⟨f3,f4⟩
   ·rw[f1,f3]
   ·have:=old _ _ f4;rw[f2] at this;exact absurd (aat (XS _) this) (Xa _)
   ·have:=old _ _ f2;rw[f4] at this;exact absurd (aat (XS _) this) (Xa _)
   ·exact I.ok.inj x y c (sub x c f2) (sub y c f4)
  ·by_cases hx0:x=x0;{exact⟨s.heap.objs.size+1,by rw[hx0];exact List.lookup_cons_self⟩}
   ·have e:scope.names.lookup x=some .free:=by
     rcases hx with hx | hx
     ·rcases sY (env:=X.env) (show _=some aaD from hx) with e | e;{exact absurd (ok.own _ e) hx0};{exact e}
     ·rcases sY (env:=X.env) (show _=some Yd from hx) with e | e <;> exact e
    obtain⟨c,hc⟩:=all (x,.free) (Xi e) U;exact⟨c,Jh hx0 hc⟩
  ·have hx:(x == x0)=true:=hx;rcases lkK e with⟨_,f2⟩ | ⟨f1,_⟩;{rw[f2];exact Xx _};{exact absurd (eq_of_beq hx) f1}
  ·rcases lkK e with⟨_,f2⟩ | ⟨_,f2⟩;{rw[f2];exact X5 (WX (hfp b hb).2)};{exact (hfp b hb).1.2.2.2.2.1 x c (sub x c f2)}
  ·obtain⟨_,_,_,f3,_⟩:=(hfp b hb).1;rcases f3 with z | z;{exact I.ok.noex b o e z};{exact absurd (V4 (V9 e) (Wn I.ok.bsz z)) (Xa _)}
  ·obtain⟨_,f1,f2,_⟩:=(hfp b hb).1;exact su I f1 f2
 refine⟨okX,U,I.bare,Un.kept kp,⟨_,ns,fun i x v e1 e2 e3=>?_⟩,fun x c e=>?_,I.hok.fresh (VP _),fun x c e=>?_,fun p hp=>absurd (show p∈([]:Do) from hp) (by simp),I.hok.kept kp,?_⟩
 ·have e1:(L++F)[i]? = some x:=e1;have e2:(WK L.length none++cap.map fun i=>(σ[i]?).join)[i]? = some (some v):=e2;have hL:¬ i < L.length:=fun hi=>by
   rw[aa8 (by simpa using hi),aaq] at e2;split at e2 <;> cases e2
  have hi:L.length<=i:=acN hL;rw[Yw hi] at e1;rw[Yw (by simpa using hi),X7,Wf] at e2;obtain⟨j,hj,hN,hk⟩:=ok.at' _ _ e1;rw[hj] at e2;have e4:(σ[j]?).join=some v:=by simpa using e2
  have e5:σ[j]? = some (some v):=by
   cases q:σ[j]? with
   | none=>rw[q] at e4;cases e4
   | some a=>rw[q] at e4;exact congrArg some e4
  obtain⟨m,hn,hl⟩:=I.loc;have kd:=frk x hk;have hx0:x≠x0:=fun z=>by rw[z,ok.own0] at hk;cases hk
  obtain⟨u,r,lk⟩:=hl j x v hN e5 (kd.elim (fun z=>.inr (.inl z)) fun z=>.inr (.inr z));obtain⟨c,hc,hcell⟩:∃ c,X.env.cells.lookup x=some c/\s.heap.IsCell c (some u):=by
   rcases lk with⟨z,_⟩ | ⟨_,c,z1,z2⟩;{rcases kd with y | y <;> (rw[y] at z;cases z)}
   ·exact⟨c,z1,z2⟩
  obtain⟨c',hc'⟩:=all (x,.free) (Xi hk) U;have ec:c'=c:=by
   have:=sub x c' hc';rw[hc] at this;exact (WL this).symm
  subst ec;obtain⟨o,ho,hd⟩:=hcell;exact⟨u,r,.inr ⟨(Ay (env:=X.env) hk),c',Jh hx0 hc',o,kp _ _ ho,hd⟩⟩
 ·rcases lkK e with⟨_,f2⟩ | ⟨_,f2⟩;{rw[f2];exact⟨none,nc⟩};{obtain⟨v,o,ho,hd⟩:=I.cell x c (sub x c f2);exact⟨v,o,kp _ _ ho,hd⟩}
 ·rcases lkK e with⟨_,f2⟩ | ⟨_,f2⟩;{rw[f2];exact I.hok.fresh (Xx _)};{exact I.freeC x c (sub x c f2)}
 ·show (WK L.length (none:Option V)++cap.map fun i=>(σ[i]?).join).length=(L++F).length;rw[V6,V6,X7,VH,ok.len]
def IW {cl:DA}{ZY:Do}{σ:St}{s2:VL}{H2:Hp}{it:Addr}{fp:DM}{tn:Nat->WT->Prop}{J:It}{use:C8}{QQ:DC}{Z:Hp->Prop}{E:DC}
  (hc:X.calm=true) (ok:u9 X scope x0 F cap)
  (sub:∀ n c,cl.lookup n=some c->X.env.cells.lookup n=some c) (all:∀ y∈scope.names,y.2 = .free->∃ c,cl.lookup y.1=some c)
  (hg:∀ cl C s H fp,PG (dj X scope cl C x0 (L++F) s H fp) tg g) (ht:∀ cl C s H fp,PTs (dj X scope cl C x0 (L++F) s H fp) ifs tt) (he:∀ cl C s H fp,PE (dj X scope cl C x0 (L++F) s H fp) elt te)
  (I2:Inv X ZY σ H2 s2) (T:Turn X.prog X.w X.K tg J fp it tn) (st2:tn 0 s2.heap) (f2:∀ b∈fp,uv X ZY H2 b)
  (q2:iU s2.heap.objs.size (HJ L.length cap σ) J g tt te H2 Z)
  (fin:∀ (C:Addr) (s':VL) (H':Hp),Z H'->Inv X ZY σ H' s'->(∃ m,s'.heap.Ns C m)->H' C=none->C≠X.env.locals->X.s₀.heap.objs.size<=C->(∀ x c,X.env.cells.lookup x=some c->c≠C)->(∀ p∈X.pn++ZY,p.1≠C) →
   aae (Wb X.prog X.w) X.A E use QQ (.ref s2.heap.objs.size) C (.ok .next) s') :
  V2 (Wb X.prog X.w) X.A (ada []) (fun acc s₃=>V2 (Wb X.prog X.w) X.A (aa0 scope X.env.globals cl [] X.env.qual none .none (some X.env)) (fun cenv s₄ =>
   XJ (Wb X.prog X.w) X.A (.compStart (.ListComp elt [⟨tg,iter,ifs,0⟩] scope pos) 0 (.ref it) acc { cenv with scope:=relabel scope X.env }) (aae (Wb X.prog X.w) X.A E use QQ acc cenv.locals) s₄) E s₃) E s2:=by
 have hD:H2 s2.heap.objs.size=none:=I2.fresh;refine Wx (Ol ?_);rw[ok.cf,ok.pc];have I3:Inv X ZY σ (upd H2 s2.heap.objs.size (.lst [])) { s2 with heap:=s2.heap.push { cls:=.type "list",data:=.seq ([]:DJ).toArray } }:=I2.Su (t':=s2.toks) (ys:=[]) (its:=[]) .nil (Wz _);have blt:∀ b∈fp,b < s2.heap.objs.size:=fun b hb=>let ⟨_,e,_⟩:=T.obj 0 _ st2 b hb;V9 e;have szC:(s2.heap.push { cls:=.type "list",data:=.seq ([]:DJ).toArray }).objs.size=s2.heap.objs.size+1:=WY _ _;generalize hs3:({ s2 with heap:=s2.heap.push { cls:=.type "list",data:=.seq ([]:DJ).toArray } }:VL)=s3 at I3;have es3:s3.heap=s2.heap.push { cls:=.type "list",data:=.seq ([]:DJ).toArray }:=by rw[← hs3]
 have eos:s3.os=s2.os:=by rw[← hs3]
 have fok:∀ b∈fp,uv X ZY (upd H2 s2.heap.objs.size (.lst [])) b/\b < s3.heap.objs.size:=fun b hb=>by
  obtain⟨f0,fr⟩:=f2 b hb;refine⟨⟨by rw[aL (Wh (blt b hb))];exact f0,fr⟩,?_⟩;rw[es3,szC];exact WX (blt b hb)
 obtain⟨h₁,eh₁⟩:∃ h₁:WT,h₁=(s3.heap.push { cls:=.type "dict",data:=.dict #[] }).push { cls:=.type "cell",data:=.cell none }:=⟨_,U⟩;have hkp:∀ b o,s3.heap.get? b=some o->h₁.get? b=some o:=fun b o e=>by
  rw[eh₁];exact VJ _ (VJ _ e)
 have hns:h₁.Ns s3.heap.objs.size fun _=>none:=by
  rw[eh₁];exact (Heap.Ns.new s3.heap (.type "dict")).keeps fun b o e=>VJ _ e
 have hnc:h₁.IsCell (s3.heap.objs.size+1) none:=by
  rw[eh₁,← WY s3.heap { cls:=.type "dict",data:=.dict #[] }];exact⟨_,V5 _ U,U⟩
 have I4:∀ tk,Inv (dj X scope cl s3.heap.objs.size x0 (L++F) s3 (upd H2 s2.heap.objs.size (.lst [])) fp) [] (HJ L.length cap σ) (upd H2 s2.heap.objs.size (.lst [])) { s3 with heap:=h₁,toks:=tk }:=fun tk =>
  Ak (L:=L) ok I3 fok sub all hns hkp hnc
 have stat:∀ {H':Hp},(∀ b∈fp,H' b=none)->∀ b∈fp,uv (dj X scope cl s3.heap.objs.size x0 (L++F) s3 (upd H2 s2.heap.objs.size (.lst [])) fp) [] H' b:=fun {H'} hn b hb=>by
  obtain⟨⟨_,g1,g2,g3,g4,g5⟩,g6⟩:=fok b hb;exact⟨hn b hb,Wh g6,su I3 g1 g2,.inl hb,fun x c e=>(lkK e).elim (fun z=>by rw[z.2];exact X5 (WX g6)) (fun z=>g4 x c (sub x c z.2)),fun p hp=>absurd (show p∈([]:Do) from hp) (by simp)⟩
 have loop:∀ tk,XJ (Wb X.prog X.w) X.A (.compLoop (.ListComp elt [⟨tg,iter,ifs,0⟩] scope pos) 0 (.ref it) (.ref s2.heap.objs.size) (aa1 scope ((x0,s3.heap.objs.size+1)::cl) s3.heap.objs.size X.env))
   (aae (Wb X.prog X.w) X.A E use QQ (.ref s2.heap.objs.size) s3.heap.objs.size) { s3 with heap:=h₁,toks:=tk }:=fun tk=>by
  obtain⟨W,⟨m0,w0⟩,turn⟩:=q2;have st3:tn 0 h₁:=T.keep 0 _ _ st2 fun b hb o e=>hkp b o (by rw[es3];exact VJ _ e);refine uJ (fun n s'=>∃ i ys σ' H',Inv (dj X scope cl s3.heap.objs.size x0 (L++F) s3 (upd H2 s2.heap.objs.size (.lst [])) fp) [] σ' H' s'/\tn i s'.heap/\(∀ b∈fp,H' b=none)/\W i n ys σ' H') ?_ m0
   ⟨0,[],_,_,I4 tk,st3,fun b hb=>(fok b hb).1.1,w0⟩
  rintro n s5 ⟨i,ys,σ5,H5,I5,st5,fr5,w5⟩;obtain⟨hDl,alt⟩:=turn i n ys σ5 H5 w5;rcases alt with⟨stop,qz⟩ | ⟨go,N,hN,step⟩
  ·refine thn (T.done (dj X scope cl s3.heap.objs.size x0 (L++F) s3 (upd H2 s2.heap.objs.size (.lst [])) fp) U U U hc i [] s5 σ5 H5 _ I5 (stat fr5) st5 stop) fun r s6 ⟨hr,I6⟩=>?_;subst hr;have un:Un (frs X.stack) fp H2 H5 s2.heap s6.heap:=by
    have u1:Un (frs X.stack) fp H2 (upd H2 s2.heap.objs.size (.lst [])) s2.heap s3.heap:=by
     rw[es3];exact Un.laid (fun _ _ q=>VJ _ q) (VP _) hD
    exact u1.trans I6.base
   have J1:Inv X ZY σ H5 s6:=I2.call' (I6.os.trans eos) un I6.hok I6.bare fun b hb=>by
    obtain⟨_,g1,_,g3,g4,g5⟩:=f2 b hb;exact⟨g3,g1,g4,g5⟩
   have hC:s2.heap.objs.size<=s3.heap.objs.size:=by rw[es3,szC];exact Xx _
   obtain⟨m,hm,_⟩:=I6.loc;refine fin s3.heap.objs.size s6 H5 qz J1 ⟨m,hm⟩ I6.free (X5 (V4 I2.lt hC)) (Wn I2.sz hC) (fun x c e z=>?_) (fun p hp z=>?_);{obtain⟨v,q⟩:=I2.cell x c e;exact absurd (V4 q.lt (by rw[z];exact hC)) (Xa _)};{exact absurd (V4 (V9 (I2.pin p hp).1) (by rw[z];exact hC)) (Xa _)}
  ·refine thn (T.item (dj X scope cl s3.heap.objs.size x0 (L++F) s3 (upd H2 s2.heap.objs.size (.lst [])) fp) U U U hc i [] s5 σ5 H5 _ I5 (stat fr5) st5 go) fun r s6 ⟨u,hr,h6⟩=>?_;subst hr;refine thn h6 fun _ s7 ⟨x,H7,I7,r7,y7,st7,fr7⟩=>?_;have I7':=I7.pinned (stat fr7) (T.obj _ _ st7);refine thn (hg _ _ _ _ _ _ s7 σ5 H7 x u _ I7' r7 (step x H7 y7)) fun _ s8 ⟨σ8,H8,I8,q8⟩=>?_;have again:∀ {σ9:St} {H9:Hp} {s9:VL} {zs:List V},Inv (dj X scope cl s3.heap.objs.size x0 (L++F) s3 (upd H2 s2.heap.objs.size (.lst [])) fp) ([]++nQ fp s7.heap) σ9 H9 s9->N zs σ9 H9 →
     ∃ m,m < n/\∃ i ys σ' H',Inv (dj X scope cl s3.heap.objs.size x0 (L++F) s3 (upd H2 s2.heap.objs.size (.lst [])) fp) [] σ' H' s9/\tn i s9.heap/\(∀ b∈fp,H' b=none)/\W i m ys σ' H':=fun {σ9 H9 s9 zs} I9 n9=>by
    obtain⟨m',hm,w9⟩:=hN zs σ9 H9 n9;refine⟨m',hm,i+1,zs,σ9,H9,I9.jy,T.keep _ _ _ st7 fun b hb o e=>(I9.pin (b,o) (Wq _ (Wq _ (cQ hb e)))).1,fun b hb=>?_,w9⟩;obtain⟨o,e,d⟩:=T.obj _ _ st7 b hb;exact (I9.pin (b,o) (Wq _ (Wq _ (cQ hb e)))).2.1
   refine thn (ht _ _ _ _ _ _ s8 σ8 H8 _ I8 q8) fun okb s9 ⟨H9,I9,q9⟩=>?_;cases okb with
   | false =>
    rw[if_neg VR] at q9 ⊢;exact again I9 q9
   | true =>
    rw[if_pos U] at q9 ⊢;refine thn (he _ _ _ _ _ _ s9 σ8 H9 _ I9 q9) fun y s10 ⟨yv,H10,I10,r10,e10,z10,n10⟩=>?_;refine thn (cI _ s10 σ8 H10 (.ref s2.heap.objs.size) [yv] (.ref s2.heap.objs.size) [y] (fun _ H'=>N (ys++[yv]) σ8 H') I10 U (.cons r10 .nil) ⟨_,ys,yv,U,U,e10,z10,n10⟩) fun _ s11 ⟨_,H11,I11,_,n11⟩=>?_;exact again I11 n11
 have eC:(s2.heap.push { cls:=.type "list",data:=.seq ([]:DJ).toArray }).objs.size=s3.heap.objs.size:=by rw[es3]
 have goal:∀ tk,XJ (Wb X.prog X.w) X.A (.compStart (.ListComp elt [⟨tg,iter,ifs,0⟩] scope pos) 0 (.ref it) (.ref s2.heap.objs.size) (aa1 scope ((x0,s3.heap.objs.size+1)::cl) s3.heap.objs.size X.env))
   (aae (Wb X.prog X.w) X.A E use QQ (.ref s2.heap.objs.size) s3.heap.objs.size) { s3 with heap:=h₁,toks:=tk }:=fun tk =>
  abv (loop tk) (T.self _ 0 _ _ _ (T.keep 0 _ _ st2 fun b hb o e=>hkp b o (by rw[es3];exact VJ _ e)) (loop tk))
 have g0:=goal s2.toks;subst hs3;rw[eh₁] at g0;exact g0
def JW (hc:X.calm=true)(ok:u9 X scope x0 F cap)(hi:PI X tg iter wi)
  (hg:∀ cl C s H fp,PG (dj X scope cl C x0 (L++F) s H fp) tg g) (ht:∀ cl C s H fp,PTs (dj X scope cl C x0 (L++F) s H fp) ifs tt) (he:∀ cl C s H fp,PE (dj X scope cl C x0 (L++F) s H fp) elt te)
  (hs:∀ x,Yt iter X.env x=pure x:=by intro _;rfl):PE X (.ListComp elt [⟨tg,iter,ifs,0⟩] scope pos) (Rb L.length cap wi g tt te):=by
 intro ZY s σ H Q I h;obtain⟨cl,e1,e2,e3⟩:=vz (scope:=scope) (env:=X.env) (fun y hy hf=>I.ok.has _ (ok.fr y hy hf));rw[eval_ListComp];refine aad (use:=none) U hs e1 ok.kind ok.nms (thn (hi ZY s σ H _ I h) fun v s1 h1=>thn h1 fun itv s2 h2=>?_);obtain⟨it,fp,tn,J,H2,e,I2,T,st2,f2,q2⟩:=h2;subst e;refine IW (Z:=fun H'=>Q (.ref s2.heap.objs.size) H') hc ok e2 e3 hg ht he I2 T st2 f2 (q2 _ I2.fresh) fun C s' H' z J m hCf hCl hCs hCc hCp=>?_;{obtain⟨m,hm⟩:=m;exact⟨m,hm,fun h' hs'=>⟨.ref _,H',J.turned (t':=s'.toks) (fun b o hb e=>(hs'.2 b hb).trans e) hCf hCl (.inr hCs) hCc hCp,U,z⟩⟩}
end
def Cj (osc:YH)(oN:D0)(sc:YH)(x0:Wt)(F:D0)(cap:DV):Bool :=
 decide (sc.kind = .function) && sc.names.all (fun y=>!decide (y.2 = .cell) || decide (y.1=x0)) && decide (sc.names.lookup x0=some .cell) && sc.names.all (fun y=>!decide (y.2 = .local) || decide (sc.names.lookup y.1=some .local)) &&
 sc.names.all (fun y=>!decide (y.2 = .free) || decide (osc.names.lookup y.1=some .cell) || decide (osc.names.lookup y.1=some .free)) && decide (cap.length=F.length) &&
 (Xb F.length).all fun k=>(decide (F[k]? = none) || decide ((cap[k]?.bind fun i=>oN[i]?)=F[k]?)) && decide ((F[k]?.bind fun x=>sc.names.lookup x)=some .free)
def K4 {X:Cx}{osc sc:YH}{x0:Wt}{oN F:D0}{cap:DV}(ho:X.env.scope=osc)(hN:X.N=oN)(h:Cj osc oN sc x0 F cap=true)
  (cf:∀ (n:Nat) (acc:DA),abU n sc.names acc=(x0,n)::acc) (pc:∀ h:WT,pushCells h sc.names=h.push { cls:=.type "cell",data:=.cell none }):u9 X sc x0 F cap:=by
 unfold Cj at h;simp only[Xl] at h;obtain⟨⟨⟨⟨⟨⟨h1,h2⟩,h0⟩,h3⟩,h4⟩,h5⟩,h6⟩:=h;refine⟨of_decide_eq_true h1,cf,pc,fun x e=>?_,of_decide_eq_true h0,fun y hy e=>?_,fun y hy e=>?_,of_decide_eq_true h5,fun k x e=>?_⟩;{have:=List.all_eq_true.mp h2 _ (Xi e);exact of_decide_eq_true (by simpa using this)};{have:=List.all_eq_true.mp h3 y hy;rw[decide_eq_true e] at this;exact of_decide_eq_true (by simpa using this)}
 ·have:=List.all_eq_true.mp h4 y hy;rw[decide_eq_true e] at this;have z:decide (osc.names.lookup y.1=some .cell)=true∨decide (osc.names.lookup y.1=some .free)=true:=by
   rw[Bool.not_true,abl,aan] at this;exact this
  show X.env.scope.names.lookup y.1=_∨X.env.scope.names.lookup y.1=_;rw[ho];exact z.elim (fun q=>.inl (of_decide_eq_true q)) fun q=>.inr (of_decide_eq_true q)
 ·have hk:k < F.length:=(List.getElem?_eq_some_iff.mp e).1;have q:=List.all_eq_true.mp h6 k (List.mem_range.mpr hk);rw[e,Xl] at q;obtain⟨q1,q2⟩:=q;have q1:(cap[k]?.bind fun i=>oN[i]?)=some x:=by
   rw[aan] at q1;rcases q1 with z | z;{exact absurd (of_decide_eq_true z) (by simp)};{exact of_decide_eq_true z}
  have q2:sc.names.lookup x=some .free:=of_decide_eq_true q2;cases hc:cap[k]? with
  | none=>rw[hc] at q1;cases q1
  | some i =>
   rw[hc] at q1;exact⟨i,U,by rw[hN];exact q1,q2⟩
def Mq {X:Cx}{scope:YH}{cl:DA}{C:Addr}{x0:Wt}{N:D0}{s:VL}{H:Hp}{fp:DM}(h:N.Nodup):(dj X scope cl C x0 N s H fp).N.Nodup:=h
section
variable {X:Cx}
end
section
variable {X:Cx}{CX:CXT}{k:Nat}{f C:Addr}{fd:Xp}{ps:D0}{sp:Sp}{dvs:List V}{ds:DJ}{E:XK}{c m:Wt}{p pos apos:ZX}{e:Expr}{es:DO}{t:TA}{mc:Value}
structure ug (K:V8)(C:Addr)(mc:Value)(m:Wt)(f:Addr):Prop where
 ga:PySem.W.specialIn K (.ref C) "__getattribute__" = some (some (.builtin "type.__getattribute__"))
 rd:PySem.W.readsIn K C mc=true
 fd:PySem.W.findCls K (.ref C) mc m=some (.val (.ref f))
 kp:Yb K (.ref f)=true
 hd:acK (.ref f)=true
def dJ {pl:Sem Bool}(hg:Gl X c)(hm:X.mg c=some (.ref C))(O:ug X.K C mc m f)(F:bh X.prog X.w X.K X.mg X.base CX k f fd ps sp)(hr:iD k X.A)(hb:Binds X.K fd ps ds)(hd:Vals dvs ds)(hx:Passes CX X E)(ha:PA X (e::es) t)
  (hdb:(c == ("__debug__" : Wt))=false:=by decide) (hst:Wg (e::es) X.env=(false,Xw e X.env)::Wg es X.env:=by rfl) (hpl:(Yk pos (Wg es X.env)).any (·.1)=false:=by rfl)
  (ht:Xw (.Call (.Attribute (.Name c p) m apos) (e::es) [] pos) X.env=(do
   let ov ← Xw (.Name c p) X.env
   ZG apos.atName
   let (g,first) ← Z4 [ov] (aap ov m pl)
   abo pos g first (Yk pos (Wg (e::es) X.env)) (aaG pos (Zm [] X.env))):=by rfl) :
  PE X (.Call (.Attribute (.Name c p) m apos) (e::es) [] pos) (Ja sp dvs E t):=by
 intro ZY s σ H Q I h;refine aax (pl:=pl) (lH I hg hm ?_ hdb) ht;refine PySem.W.method_cls I.kIn O.ga (PySem.W.cls_value I.kIn O.rd O.fd O.hd ?_);have I1:=I.tok (s.toks+1);refine aa4 (first:=[]) (h₀:=X.base) I.ok.mod.kin O.kp (thn (ha pos ZY _ σ H _ I1 h) fun us s1 ⟨vs,H1,I2,r,q⟩=>⟨I2.kIn,?_⟩) hst hpl;exact Cd F hr hb hd hx I2 r q
end
section
variable {P:Wi}{w:Wy}{A:WM}{E:Value->VL->Prop}{hp:WT}{g:Array acC}{d:Drawn}{tk:Nat}{os:OsState}
variable {nm q:Wt}{C N:Addr}{bs bm:DJ}{hdct:Bool}{sn:D0}{sub:DJ}{ab:Bool}{col:DI}{dd:DH}{k0 k1 k2 k3 k5:DE}{newId:String}
abbrev qm (C t:Addr)(D:DH):YB:={ cls:=.ref C,dict:=D,data:=.fields #[.ref t,.none,.none,.none,.bool false,.none] }
def Iw {M:acW} {x t:Addr} {D:DH} {ys:DJ} {Q:Unit->VL->Prop} (hC:hp.get? C=some (Zn nm q C N bs bm hdct sn sub ab col dd k0 k1 k2 k3 k5 newId)) (hv:bm.contains (.type "ValueError")=true)
  (hx:hp.get? x=some (qm C t D)) (hq:Q () ⟨hp,g,d,tk,os⟩):V2 M A (Z5 "ValueError.__init__" ⟨.ref x::ys,[]⟩) Q E ⟨hp,g,d,tk,os⟩:=by
 have hv':(We C::bm).contains (.type "ValueError")=true:=by rw[YC,hv,Z9]
 have F:=PySem.F.excCall_ValueError;have hns:=F.noStar;simp only[Z5,F.initSplit,F.initKind,F.initRow]
 repeat (first | (with_reducible refine XX hx ?_) | (with_reducible refine XX hC ?_) | (with_reducible refine YG hC ?_;rw[hv']) | wp_step)
 refine abf ?_;rw[show ∀ (a b:String) (n:Nat),Bind.check ⟨.positional,"*","ValueError",.self,[⟨"args",.varPos,false⟩]⟩ a b n (List.map (fun z=>z.fst) ({ pos:=We x::ys }:Args).kw)=pure () from fun a b n=>check_star_args _ _ _ _ _ _];exact VM hq
def Dq {x t:Addr} {D:DH} {y:Value} {Q:DC} (hC:hp.get? C=some (Zn nm q C N bs bm hdct sn sub ab col dd k0 k1 k2 k3 k5 newId)) (hv:bm.contains (.type "ValueError")=true)
  (hx:hp.get? x=some (qm C t D)) (h:∀ h',(∀ b o,b≠x->hp.get? b=some o->h'.get? b=some o)->h'.get? x=some (qm C hp.objs.size D)->Q .none ⟨h',g,d,tk,os⟩) :
  V2 (Wb P w) A (call (.builtin "ValueError.__init__") [.ref x,y]) Q E ⟨hp,g,d,tk,os⟩:=by
 have F:=PySem.F.excCall_ValueError;refine aaY (aaF F.init.plain F.initEntry (Iw hC hv hx ?_));have hx1:=VJ { cls:=.type "tuple",data:=.seq #[y] } hx
 wp_walk
 refine h _ (fun b o hb e=>?_) ?_;{rw[Wo _ _ (XQ hb)];exact VJ _ e};{rw[Ws _ hx1 U];rfl}
end
section
variable {P:Wi}{w:Wy}{A:WM}{hp:WT}{g:Array acC}{d:Drawn}{tk:Nat}{os:OsState}
variable {nm q:Wt}{C N:Addr}{bs bm:DJ}{hdct:Bool}{sn:D0}{sub:DJ}{ab:Bool}{col:DI}{dd:DH}{k0 k1 k2 k3 k5:DE}
structure Td (bm:DJ):Prop where
 v:bm.contains (.type "ValueError")=true
 b:bm.contains (.type "BaseException")=true
 a:bm.contains (.type "AttributeError")=false
 n:bm.contains (.type "NameError")=false
def new_exc {R:abg->VL->Prop} (V:Td bm) (hC:hp.get? C=some (Zn nm q C N bs bm hdct sn sub ab col dd k0 k1 k2 k3 k5 "ValueError.__new__"))
  (hq:R (.ok (.ret (.ref (hp.objs.size+1)))) ⟨(hp.push { cls:=.type "tuple",data:=.seq #[] }).push (qm C hp.objs.size none),g,d,tk,os⟩) :
  XJ (Wb P w) A (.builtin "ValueError.__new__" ⟨[.ref C],[]⟩) R ⟨hp,g,d,tk,os⟩:=by
 have F:=PySem.F.excBase_ValueError;have he:=F.ends;have c1:(We C::bm).contains (.type "ValueError")=true:=by rw[YC,V.v,Z9]
 have c2:(We C::bm).contains (.type "AttributeError")=false:=by rw[YC,V.a];rfl
 have c3:(We C::bm).contains (.type "NameError")=false:=by rw[YC,V.n];rfl
 refine codeAny_builtinAt F.entry ?_;unfold Ze.«BaseException.__new__»;refine PySem.wpAt_bind ?_;show PySem.wpAt _ _ _ (stack >>= _) _ _ _;refine PySem.wpAt_bind (PySem.wpAt_stack fun p below=>PySem.wpAt_of_wpAny ?_)
 wp_walk
 refine PySem.wpAt_of_wpAny ?_;rw[F.owner]
 repeat (first | with_reducible refine wpAny_madeHere_exc F.canon hC ?_ | with_reducible refine XX hC ?_ | (with_reducible refine YG hC ?_;first | rw[c1] | rw[c2] | rw[c3]) | wp_step)
 show R _ _;rw[WY];exact hq
def OJ {M:acW} {E:DC} {Q:Unit->VL->Prop} (V:Td bm) (hC:hp.get? C=some (Zn nm q C N bs bm hdct sn sub ab col dd k0 k1 k2 k3 k5 "ValueError.__new__")) (hq:Q () ⟨hp,g,d,tk,os⟩) :
  V2 M A (Z5 "ValueError.__new__" ⟨[.ref C],[]⟩) Q E ⟨hp,g,d,tk,os⟩:=by
 have F:=PySem.F.excBase_ValueError;have c1:(We C::bm).contains (.type "ValueError")=true:=by rw[YC,V.v,Z9]
 have hs:=F.noStar;simp only[Z5,F.newSplit,F.newKind,F.newRow]
 repeat (first | (refine YG hC ?_;rw[c1]) | refine XX hC ?_ | refine wpAny_madeBy_exc hC ?_ | refine wpAny_staticBase_exc hC ?_ | simp only[bne_self_eq_false,ach,if_false] | wp_step)
 exact hq
def Ky {f:Addr} {R:abg->VL->Prop} (V:Td bm) (hC:hp.get? C=some (Zn nm q C N bs bm hdct sn sub ab col dd k0 k1 k2 k3 k5 "ValueError.__new__"))
  (hl:∀ h',(∀ b o,hp.get? b=some o->h'.get? b=some o)->W.Looks (Wb P w) h' (abu (.ref C) "__init__") (some (.ref f))) (hb:∀ h' self,(∀ b o,hp.get? b=some o->h'.get? b=some o)->W.Looks (Wb P w) h' (bindSpecial (.ref f) self) (.ref f,[self]))
  (hq:XJ (Wb P w) (A.under (.builtin "type.__call__" ⟨[.ref C],[]⟩)) (.call (.ref f) ⟨[.ref (hp.objs.size+1)],[]⟩) (W.InitBack (hp.objs.size+1) R) ⟨(hp.push { cls:=.type "tuple",data:=.seq #[] }).push (qm C hp.objs.size none),g,d,tk,os⟩) :
  XJ (Wb P w) A (.call (.ref C) ⟨[],[]⟩) R ⟨hp,g,d,tk,os⟩:=by
 have f1:=tc_lookup;have f2:=tc_bind (.ref C);have hT:(⟨hp,g,d,tk,os⟩:VL).TypeIs (.ref C) "type":=⟨_,hC,U⟩;refine abD ?_;show V2 _ _ (callAny (.ref C) _) _ _ _
 repeat (any_goals (first | assumption | with_reducible refine XX hC ?_ | wp_step))
 refine⟨U,?_⟩;refine codeAny_call_builtin_at (aa7 _ (by decide+kernel)) entry_typeCall (wpAny_check_type_call_sub hC ?_)
 repeat (first | with_reducible refine XX hC ?_ | with_reducible refine wpAny_madeBy_exc hC ?_ | wp_step)
 refine codeAny_call_builtin_code (aa7 _ PySem.F.excBase_ValueError.quiet) (OJ V hC ?_);refine new_exc V hC ?_;show V2 _ _ _ _ _ _;have k1:∀ b o,hp.get? b=some o->((hp.push { cls:=.type "tuple",data:=.seq #[] }).push (qm C hp.objs.size none)).get? b=some o:=fun b o e=>VJ _ (VJ _ e);have hC1:=k1 _ _ hC;have hx:((hp.push { cls:=.type "tuple",data:=.seq #[] }).push (qm C hp.objs.size none)).get? (hp.objs.size+1)=some (qm C hp.objs.size none):=by heap_get
 have cC:(We C::bm).contains (.ref C)=true:=by simp
 unfold isInstance
 repeat (first | with_reducible refine XX hx ?_ | (with_reducible refine YG hC1 ?_;rw[cC]) | wp_step)
 show V2 _ _ (abu (.ref C) _) _ _ _;refine Yz (hl _ k1) ?_;refine XR (VG ((hb _ _ k1).here ?_));refine VG (aaY (Zr hq fun r s' z=>?_));cases r with
 | error e=>exact z
 | ok fl =>
  cases fl with
  | ret v =>
   obtain⟨ev,z⟩:=z;subst ev;exact VM (VM z)
  | next=>exact XD z
  | brk=>exact XD z
  | cont=>exact XD z
end
def K5 (self:Value):PySem.refuseLoop self "__setattr__" [.type "ValueError",.type "Exception",.type "BaseException",.type "object"]=pure ():=by kernel_rfl
section
variable {P:Wi}{w:Wy}{A:WM}{E:Value->VL->Prop}{K:Ww}{s:VL}
variable {nm q:Wt}{C N x t:Addr}{bs bm:DJ}{hdct:Bool}{sn:D0}{sub:DJ}{ab:Bool}{col:DI}{dd:DH}{k0 k1 k2 k3 k5:DE}{newId:String}
def wI:DJ->Bool
 | []=>false
 | a::r=>match a with
  | .ref _=>wI r
  | _=>a::r == [.type "ValueError",.type "Exception",.type "BaseException",.type "object"]
def tH {a:Value} {r:DJ} (h:wI (a::r)=true):(∃ c,a = .ref c/\wI r=true)∨a::r=[.type "ValueError",.type "Exception",.type "BaseException",.type "object"]:=by
 cases a <;> first | exact .inl ⟨_,rfl,h⟩ | exact .inr (eq_of_beq h)
theorem pR (self:Value):∀ {l:DJ},wI l=true->PySem.refuseLoop self "__setattr__" l=pure ()
 | [],h=>by cases h
 | a::r,h=>by
  rcases tH h with⟨c,rfl,h'⟩ | e;{rw[refuseLoop_ref];exact pR self h'};{rw[e];exact K5 self}
theorem xN:∀ {l:DJ},wI l=true->l.contains (.type "object")=true
 | [],h=>by cases h
 | a::r,h=>by
  rcases tH h with⟨c,rfl,h'⟩ | e;{rw[YC,xN h',Z9]};{rw[e];rfl}
def Qf {name:Wt} {v:Value} {cd:ClassData} {Q:Unit->VL->Prop} (X:K.In s.heap) (hx:s.heap.get? x=some (qm C t none)) (hs:ZS K (.ref C) "__setattr__" = some (some (.builtin "object.__setattr__")))
  (hc:W.clsIn K C=some cd) (hu:wI cd.mro=true) (hdc:cd.hasDict=true) (hf:W.takerIn K C name=some none)
  (h:∀ h',(∀ b o,b≠x->s.heap.get? b=some o->h'.get? b=some o)->h'.get? x=some (qm C t (some s.heap.objs.size))->(∃ o,h'.get? s.heap.objs.size=some o)->h'.Ns1 s.heap.objs.size (fun y=>if y=name then some v else none)->∀ tk,Q () { s with heap:=h',toks:=tk }) :
  V2 (Wb P w) A (setAttr (.ref x) name v) Q E s:=by
 have J:PySem.W.InstAt s.heap x (qm C t none) C none:=⟨hx,U,U,trivial⟩;have SF:=PySem.F.store_object;have ne:cd.mro.isEmpty=false:=by cases q:cd.mro with | nil=>rw[q] at hu;cases hu | cons _ _=>rfl
 refine PySem.W.set_plain X J hs ?_;have sub:PySem.W.Looks (Wb P w) s.heap (isInstance (.ref x) (.type "object")) true:=J.type.andThen (PySem.W.looks_mroIn X (by unfold PySem.W.mroIn;rw[hc,Option.bind_some,if_neg (by rw[ne];decide),xN hu]));refine aaF SF.slot.plain SF.entry (@PySem.W.check_slot (Wb P w) _ _ { s with toks:=s.toks+1 } "object.__setattr__" "object" "__setattr__" (.ref x) [.str name s.toks,v] [] _ SF.kind SF.split sub (SF.args (.ref x) (.str name s.toks) v) ?_);obtain⟨attr,ha,hr⟩:=Option.bind_eq_some_iff.mp hf;have hm:PySem.W.Looks (Wb P w) s.heap (mroOf (.ref C)) cd.mro:=(abZ X hc).andThen .now;have L3:PySem.W.Looks (Wb P w) s.heap (Builtin.ObjectAttr.storeTaker? attr) none:=by
  cases attr with
  | none=>exact .now
  | some a =>
   obtain⟨b,hb,e⟩:=Option.map_eq_some_iff.mp hr;refine (PySem.W.looks_takesIn X hb).andThen ?_;cases b;{exact .now};{cases e}
 rw[PySem.W.osa_eq,refuse_eq];obtain⟨hp,g,d,tk,os⟩:=s;refine VG (VG (Yz (s:=⟨hp,g,d,tk+1,os⟩) J.type (VG (Yz (s:=⟨hp,g,d,tk+1,os⟩) hm ?_))));rw[pR _ hu];refine VM (VG (Yz (s:=⟨hp,g,d,tk+1,os⟩) J.type (VG (Yz (s:=⟨hp,g,d,tk+1,os⟩) (abN X ha) (VG (Yz (s:=⟨hp,g,d,tk+1,os⟩) L3 ?_))))));dsimp only;unfold Builtin.ObjectAttr.storeInOwnDict;refine VG (VM ?_);unfold Builtin.ObjectAttr.ownDictForStores instanceDict;refine VG (VG (wpAny_loadPart hx (VG (Yz (s:=⟨hp,g,d,tk+1,os⟩) (abZ X hc) ?_))));rw[hdc,if_neg (by decide)];have hx1:(hp.push { cls:=.type "dict",data:=.dict #[] }).get? x=some (qm C t none):=VJ _ hx;have hne:x≠hp.objs.size:=Wh (V9 hx);show V2 _ _ (do let d ← alloc { cls:=.type "dict",data:=.dict #[] };update x fun o=>{ o with dict:=some d };dictMade (.ref C) x d) _ _ _;refine VG (wpAny_alloc (VG (wpAny_update hx1 ?_)))
 wp_step
 refine VM ?_;dsimp only;generalize eh:(hp.push { cls:=.type "dict",data:=.dict #[] }).update x (fun o=>{ o with dict:=some hp.objs.size })=h2;have n2:h2.Ns1 hp.objs.size (fun _=>none):=by
  refine Heap.Ns1.at (Heap.Ns1.of_empty (Heap.Ns.new hp (.type "dict"))) fun o e=>?_;rw[← eh,Wo _ _ hne];exact e
 have k2:∀ b o,b≠x->hp.get? b=some o->h2.get? b=some o:=fun b o hb e=>by
  rw[← eh,Wo _ _ (XQ hb)];exact VJ _ e
 have x2:h2.get? x=some (qm C t (some hp.objs.size)):=by
  rw[← eh,Ws _ hx1 U]
 unfold Builtin.ObjectAttr.storeInDict;refine VG (VM ?_);refine VG (wpAny_nsSet1 (s:=⟨h2,g,d,tk+1,os⟩) n2 fun h' hn2 hs2=>?_);obtain⟨oD,esD,epD,hoD,hdD,hcD⟩:=hn2.count (PySem.Within.cons name v PySem.Within.nil);refine VG (wpAny_lookBehind hoD (by rw[hdD];exact pastItsLine_dict (Wn hcD (by show 1<=sizeLine+1;lia))) ?_);refine VM (h _ (fun b o hb e=>?_) ((hs2.2 _ hne).trans x2) ⟨oD,hoD⟩ hn2 _);have hbn:b≠hp.objs.size:=Wh (V9 e);exact (hs2.2 _ hbn).trans (k2 b o hb e)
end
def Om (K:Ww):W.findCls K (.type "ValueError") (.type "type") "__init__" = some (.val (.builtin "ValueError.__init__")):=by kernel_rfl
def Pn:W6 "ValueError" = some (.type "ValueError"):=by decide+kernel
def Qm:typeOf (.type "ValueError")=pure (.type "type"):=by kernel_rfl
def Qi:Manifest.isStub "ValueError" = false:=by decide+kernel
def N7:W.handedIn (.builtin "ValueError.__init__")=true:=by decide+kernel
def xO (x C:Addr)(D:DH):HO:=.ext fun h=>∃ t,h.get? x=some (qm C t D)
def QR {P:Wi}{w:Wy}{H:Hp}{h:WT}{x C t:Addr}{D:DH}(e:h.get? x=some (qm C t D)):dU P w H h x (xO x C D) :=
 ⟨⟨t,e⟩,⟨_,e⟩,fun h1 h2 ⟨t',e'⟩ k=>⟨t',k _ e'⟩⟩
structure J0 (K:V8)(C f:Addr)(name:Wt):Prop where
 obj:∃ nm q N bs bm hdct sn sub ab col dd k0 k1 k2 k3 k5,K.lookup C=some (Zn nm q C N bs bm hdct sn sub ab col dd k0 k1 k2 k3 k5 "ValueError.__new__")/\Td bm
 init:Xo K (.ref C) "__init__" = some (some (.ref f))
 fn:PySem.W.typeIn K (.ref f)=some (.type "function")
 kp:Yb K (.ref C)=true
 set:Xo K (.ref C) "__setattr__" = some (some (.builtin "object.__setattr__"))
 cls:∃ cd,PySem.W.clsIn K C=some cd/\wI cd.mro=true/\cd.hasDict=true
 tak:abE K C name=some none
section
variable {X:Cx}{p pos apos:ZX}{e:Expr}{es:DO}{t:TA}{f C:Addr}
def Q5 (K:Ww)(t:TA):TE:=fun σ H Q=>t σ H fun vs H1=>∃ (x C f:Addr) (n:Wt) (D:DH) (y:V),vs=[.ref x,y]/\H1 x=some (xO x C D)/\J0 K C f n/\Q .non (upd H1 x (xO x C D))
def Kc {pl:Sem Bool} (hg:Gl X "ValueError") (hm:X.mg "ValueError" = none) (ha:PA X (e::es) t)
  (hst:Wg (e::es) X.env=(false,Xw e X.env)::Wg es X.env:=by rfl) (hpl:(Yk pos (Wg es X.env)).any (·.1)=false:=by rfl)
  (ht:Xw (.Call (.Attribute (.Name "ValueError" p) "__init__" apos) (e::es) [] pos) X.env=(do
   let ov ← Xw (.Name "ValueError" p) X.env
   ZG apos.atName
   let (g,first) ← Z4 [ov] (aap ov "__init__" pl)
   abo pos g first (Yk pos (Wg (e::es) X.env)) (aaG pos (Zm [] X.env))):=by rfl) :
  PE X (.Call (.Attribute (.Name "ValueError" p) "__init__" apos) (e::es) [] pos) (Q5 X.K t):=by
 intro ZY s σ H Q I h;refine aax (pl:=pl) (jH I hg hm Pn ?_) ht;obtain⟨m,F⟩:=I.fr;refine PySem.W.method_type F I.ok.mod.kin Qm Qi (Om X.K) N7 ?_;have I1:=I.tok (s.toks+1);refine callWith_builtin1 (thn (ha pos ZY _ σ H _ I1 h) fun us s1 ⟨vs,H1,I2,r,x,C,f,n,D,y,ev,hx,XC,q⟩=>?_) hst hpl;subst ev;obtain⟨u,v,rfl,ru,rv⟩:=r.two;obtain rfl:u=We x:=ru;obtain⟨⟨t0,e0⟩,_⟩:=I2.hok x _ hx;obtain⟨nm,q1,N,bs,bm,hdct,sn,sub,ab,col,dd,k0,k1,k2,k3,k5,lk,V⟩:=XC.obj;obtain⟨hp,g,d,tk,os⟩:=s1;refine Dq (I2.kIn _ _ lk) V.v e0 fun h' k' e'=>?_;exact⟨.non,_,I2.write (x:=x) (e:=x) (by rw[hx];trivial) (.inl U) k' ⟨_,e'⟩ (QR e'),U,q⟩
end
section
variable {X:Cx}{pos pos':ZX}{o value:Expr}{ta tv:TE}{f:Wt}
def Uj (K:Ww)(ta tv:TE)(f:Wt):TS:=fun D σ H=>tv σ H fun y H1=>ta σ H1 fun x H2=>∃ (a C fI:Addr),x = .ref a/\H2 a=some (xO a C none)/\J0 K C fI f/\∀ dx,H2 dx=none->D.nx σ (upd (upd H2 dx (.xd [(f,y)])) a (xO a C (some dx)))
def Qw (ha:PE X o ta)(hv:PE X value tv)(hs:aaV value (some (.Attribute o f pos')) pos.line X.env=pure false):PS X (.Assign [.Attribute o f pos'] value pos) (Uj X.K ta tv f):=by
 intro ZY s σ H D I h;refine acE (thn (hv ZY s σ H _ I h) fun u s1 ⟨y,H1,I1,ry,q⟩=>thn (ha ZY s1 σ H1 _ I1 q) fun ov s2 ⟨x,H2,I2,rx,a,C,fI,ex,ea,XC,q2⟩=>?_) hs;subst ex;obtain rfl:ov=We a:=rx;obtain⟨⟨t0,e0⟩,_⟩:=I2.hok a _ ea;obtain⟨cd,hc,hu,hd⟩:=XC.cls;refine Qf I2.kIn e0 XC.set hc hu hd XC.tak fun h' k' e' ho hn tk=>?_;have fr:=I2.fresh;have hne:a≠s2.heap.objs.size:=Wh (V9 e0);have e1:(h'.update a fun _=>qm C t0 none).get? a=some (qm C t0 none):=Ws _ e' U;have o1:∀ b,b≠a->(h'.update a fun _=>qm C t0 none).get? b=h'.get? b:=fun b hb=>Wo _ _ (XQ hb)
 have I3:=I2.laid (a:=s2.heap.objs.size) (o:=.xd [(f,y)]) (h':=h'.update a fun _=>qm C t0 none) (t':=tk) (fun b u' q'=>by
  by_cases hb:b=a;{subst hb;rw[e0] at q';rw[e1];exact q'}
  ·rw[o1 b hb]
   exact k' b u' hb q') (VP _) ⟨_,hn.at (fun o z=>by rw[o1 _ (XQ hne)];exact z),fun g=>by
    by_cases hg:g=f;{subst hg;simp [ZZ,vC];exact ry}
    ·have:(g == f)=false:=beq_false_of_ne hg
     simp [ZZ,this,hg,vC]⟩
 have I4:=I3.write (x:=a) (e:=a) (h':=h') (o:=xO a C (some s2.heap.objs.size)) (t':=tk) (by rw[aL hne,ea];trivial) (.inl U) (fun b u' hb q'=>by rw[o1 b hb] at q';exact q') ⟨_,e'⟩ (QR e');exact⟨σ,_,I4,q2 _ fr⟩
end
section
variable {M:acW}{A:WM}{E:DC}{env:Env}
def HD {s:VL}{z:Sem Value}{Q:Flow->VL->Prop}(hh:A.handled=none)
  (h:V2 M A z (fun v s1=>∃ (e t C:Addr) (D:DH) (nm q:Wt) (N:Addr) (bs bm:DJ) (hdct:Bool) (sn:D0) (sub:DJ) (ab:Bool) (col:DI) (dd:DH) (k0 k1 k2 k3 k5:DE) (newId:String),v = .ref e/\s1.heap.get? C=some (Zn nm q C N bs bm hdct sn sub ab col dd k0 k1 k2 k3 k5 newId)/\bm.contains (.type "BaseException")=true/\s1.heap.get? e=some (qm C t D)/\E (.ref e) s1) E s):V2 M A (raiseStmt env (some z) none) Q E s:=by
 unfold raiseStmt;refine VG (W7 h (fun v s1 h1=>?_) fun _ _ y=>y);obtain⟨e,t,C,D,nm,q,N,bs,bm,hdct,sn,sub,ab,col,dd,k0,k1,k2,k3,k5,newId,rfl,hC,hb,he,hE⟩:=h1;have c1:(We C::bm).contains (.type "BaseException")=true:=by rw[YC,hb,Z9]
 obtain⟨hp,g,d,tk,os⟩:=s1
 repeat (first | with_reducible refine XX he ?_ | with_reducible refine XX hC ?_ | (with_reducible refine YG hC ?_;rw[c1]) | wp_step)
 exact wpAny_raiseNew_none hh hE
end
section
variable {X:Cx}{CX:CXT}{k:Nat}{f C:Addr}{fd:Xp}{ps:D0}{sp:Sp}{c n:Wt}{p pos:ZX}{e:Expr}{te:TE}{E:XK}
def Sq (C:Addr)(sp:Sp)(E:XK):TE:=fun _ H Q=>∀ x,H x=none->sp [.ref x] (upd H x (xO x C none)) (fun v H2=>v = .non/\Q (.ref x) H2) E
def Lk (XC:J0 X.K C f n)(F:bh X.prog X.w X.K X.mg X.base CX k f fd ps sp)(hr:iD (k+1) X.A)(hg:Gl X c)(hm:X.mg c=some (.ref C))(hb:Binds X.K fd ps [])(hx:Passes CX X E)
  (hdb:(c == ("__debug__" : Wt))=false:=by decide):PE X (.Call (.Name c p) [] [] pos) (Sq C sp E):=by
 intro ZY s σ H Q I h;refine Yj (lH I hg hm ?_ hdb);refine ab0 I.kIn XC.kp ?_;obtain⟨nm,q1,N,bs,bm,hdct,sn,sub,ab,col,dd,k0,k1,k2,k3,k5,lk,VE⟩:=XC.obj;have hq:=h (s.heap.objs.size+1) (I.hok.fresh (Xx _));have kk:∀ b o,s.heap.get? b=some o->((s.heap.push { cls:=.type "tuple",data:=.seq #[] }).push (qm C s.heap.objs.size none)).get? b=some o:=fun b o z=>VJ _ (VJ _ z);have ex:((s.heap.push { cls:=.type "tuple",data:=.seq #[] }).push (qm C s.heap.objs.size none)).get? (s.heap.objs.size+1)=some (qm C s.heap.objs.size none):=by
  have:=V5 (s.heap.push { cls:=.type "tuple",data:=.seq #[] }) (o:=qm C s.heap.objs.size none) U;rwa [WY] at this
 have I2:=I.laid (a:=s.heap.objs.size+1) (o:=xO (s.heap.objs.size+1) C none) (t':=s.toks) kk (Xx _) (QR ex);have r2:Vals [V.ref (s.heap.objs.size+1)] [We (s.heap.objs.size+1)]:=.cons U .nil;have hl:([We (s.heap.objs.size+1)]++[]).length=ps.length:=by
  have z:=r2.length;rw[F.len _ _ _ _ hq] at z;exact z.symm
 have hk:=I.kIn;refine aaY ?_;have mk:=Ky (P:=X.prog) (w:=X.w) (A:=X.A) (hp:=s.heap) (g:=s.gens) (d:=s.drawn) (tk:=s.toks) (os:=s.os) (f:=f) (R:=fun r s'=>match r with | .ok (.ret v)=>EP X ZY σ Q v s' | .ok _=>False | .error e=>X.xe e s') VE (hk _ _ lk) (fun h' k'=>abN (hk.keeps k') XC.init) (fun h' self k'=>PySem.W.bind_fn (hk.keeps k') self XC.fn)
 refine mk (Zr (F.run _ X.stack _ _ ⟨[We (s.heap.objs.size+1)],[]⟩ [We (s.heap.objs.size+1)] _ _ E (hr.make C [] []) (I2.env0.make C [] []) (hb _ [We (s.heap.objs.size+1)] I2.kIn hl) r2 hq) fun r s' hq'=>?_);cases r with
 | error e=>exact hx ZY σ _ _ e s' I2 hq'
 | ok fl =>
  cases fl with
  | ret u =>
   obtain⟨v,H',I3,rv,ev,q3⟩:=I2.after hq';subst ev;exact⟨rv,⟨V.ref (s.heap.objs.size+1),H',I3,U,q3⟩⟩
  | next=>exact XD hq'
  | brk=>exact XD hq'
  | cont=>exact XD hq'
def Throws (X:Cx)(W:Addr->Addr->Addr->Hp->Prop):Prop:=∀ (ZY:Do) (σ:St) (H:Hp) (s:VL) (x C dx:Addr),Inv X ZY σ H s->H x=some (xO x C (some dx))->W x C dx H->X.xe (.ref x) s
def SJ (K:Ww)(W:Addr->Addr->Addr->Hp->Prop)(te:TE):TS:=fun _ σ H=>te σ H fun v H1=>∃ (x C f dx:Addr) (n:Wt),v = .ref x/\H1 x=some (xO x C (some dx))/\J0 K C f n/\W x C dx H1
def KQ {W:Addr->Addr->Addr->Hp->Prop}(hc:X.calm=true)(he:PE X e te)(hw:Throws X W):PS X (.Raise (some e) none pos) (SJ X.K W te):=by
 intro ZY s σ H D I h;rw[arm_exec_Raise];refine VG (YQ ?_);have go:V2 (Wb X.prog X.w) X.A (Xw e X.env) (fun v s1=>∃ x C f dx n H1,v=We x/\Inv X ZY σ H1 s1/\H1 x=some (xO x C (some dx))/\J0 X.K C f n/\W x C dx H1) X.xe s:=thn (he ZY s σ H _ I h) fun u s1 ⟨v,H1,I1,r,x,C,f,dx,n,ev,hx,XC,hW⟩=>by
  subst ev;exact⟨x,C,f,dx,n,H1,r,I1,hx,XC,hW⟩
 show V2 _ _ (raiseStmt X.env (some (do let v ← Xw e X.env;ZG pos;pure v)) none) _ _ _;refine HD (I.ok.hd hc) (VG (thn go fun v s1 ⟨x,C,f,dx,n,H1,ev,I1,hx,XC,hW⟩=>VG (YQ (VM ?_))));obtain⟨⟨t0,e0⟩,_⟩:=I1.hok x _ hx;obtain⟨nm,q1,N,bs,bm,hdct,sn,sub,ab,col,dd,k0,k1,k2,k3,k5,lk,VE⟩:=XC.obj;exact⟨x,t0,C,some dx,nm,q1,N,bs,bm,hdct,sn,sub,ab,col,dd,k0,k1,k2,k3,k5,_,ev,I1.kIn _ _ lk,VE.b,e0,hw ZY σ H1 s1 x C dx I1 hx hW⟩
end
structure Fly (B:WT)(l:DT)(x C dx:Addr)(fl:Value)(h:WT):Prop where
 stay:B.StaysIn h
 bx:B.get? x=none
 frs:h.FunFrames B l
 tr:∃ vs T oT ts sl,h.get? x=some { cls:=.ref C,dict:=some dx,data:=.fields vs,slots:=sl }/\vs[1]? = some (.ref T)/\B.get? T=none/\T≠x/\h.get? T=some oT/\oT.data = .fields ts/\ts[3]? = some fl
structure Up (h h':WT):Prop where
 sl:h.UpToSlots h'
 th:∀ b o,h.get? b=some o->∃ o',h'.get? b=some o'
def Up.trans {h h1 h2:WT}(a:Up h h1)(b:Up h1 h2):Up h h2:=⟨a.sl.trans b.sl,fun c o e=>let ⟨o1,e1⟩:=a.th c o e;b.th c o1 e1⟩
section
variable {M:acW}{A:WM}{E:DC}{s:VL}{B:WT}{env:Env}{outer:DT}{L x C dx:Addr}{Q:Unit->VL->Prop}
def wO {vs:Array Value}{sl:Array (DE)}{head:Value}{hadNext:Bool}(hfr:A.frames=some (env::outer))(hl:s.heap.FunFrames B (env::outer))(hf:env.frame=some L)
  (ex:s.heap.get? x=some { cls:=.ref C,dict:=some dx,data:=.fields vs,slots:=sl }) (st:B.StaysIn s.heap) (bx:B.get? x=none) (sz:1 < vs.size)
  (h:∀ h',Fly B (env::outer) x C dx (XF L) h'->Up s.heap h'->Q () { s with heap:=h' }) :
  V2 M A (do let a ← frameOf env;let pl ← entryPlaceOf L hadNext;let b ← EntryCells.newEntry head a .none (XF L) .none pl;setField (.ref x) 1 b) Q E s:=by
 have nx:x ∉ (env::outer).filterMap (·.frame):=fun hm=>by
  obtain⟨_,o,ho,nf⟩:=hl.mem hm;rw[ex] at ho;cases ho;exact nf vs U
 refine VG (wpAny_frameOf_fun hfr hl hf fun h1 s1=>VG (wpAny_entryPlaceOf fun pl hpl=>?_));unfold EntryCells.newEntry newFields;refine VG (Wx ?_ (hpl.sizeOk5 _ _ _ _ _));have e1:h1.get? x=_:=(s1.2.1 x nx).trans ex;have st1:B.StaysIn h1:=fun b o z=>(s1.2.1 b fun hm=>by rw[(hl.mem hm).1] at z;cases z).trans (st b o z);generalize eo:({ cls:=.type "traceback",dict:=none,data:=.fields ([head,.ref L,.none,XF L,.none]++(if pl.isEmpty then WK 6 Xn else pl)).toArray }:YB)=oT
 have dT:oT.data = .fields ([head,.ref L,.none,XF L,.none]++(if pl.isEmpty then WK 6 Xn else pl)).toArray:=by rw[← eo]
 have e2:=VJ oT e1;refine XM e2 U sz (h _ ?_ ?_)
 all_goals
  have hTx:h1.objs.size≠x:=X5 (V9 e1);have keep:∀ b o,b≠x->h1.get? b=some o->((h1.push oT).update x (Yc (·.setIfInBounds 1 (We h1.objs.size)))).get? b=some o:=fun b o hb z=>by
   rw[Wo _ _ (XQ hb)];exact VJ _ z
  have nrec:∀ b o,s.heap.get? b=some o->(∀ vs,o.data≠.fields vs)->b≠x:=fun b o z nf q=>by
   rw[q,ex] at z;cases z;exact nf vs U
 ·refine⟨fun b o z=>keep b o (fun q=>by rw[q,bx] at z;cases z) (st1 b o z),bx,hl.of_keeps fun b o z nf=>?_,?_⟩;{obtain⟨sl',hs⟩:=s1.2.2 b o z;exact⟨_,keep b _ (nrec b o z nf) hs,U⟩}
  ·have e3:=Ws (Yc (·.setIfInBounds 1 (We h1.objs.size))) e2 U;have hT:((h1.push oT).update x (Yc (·.setIfInBounds 1 (We h1.objs.size)))).get? h1.objs.size=some oT:=by
    rw[Wo _ _ (XQ hTx)];exact V5 h1 (by rw[← eo];rfl)
   refine⟨vs.setIfInBounds 1 (.ref h1.objs.size),h1.objs.size,oT,_,sl,e3,by simp [sz],st1.fresh,hTx,hT,dT,?_⟩;rcases hpl with rfl | ⟨_,_,_,_,_,_,_,rfl⟩ <;> simp
 ·refine⟨fun b o z nf=>?_,fun b o z=>?_⟩;{obtain⟨sl',hs⟩:=s1.2.2 b o z;exact⟨sl',keep b _ (nrec b o z nf) hs⟩}
  ·by_cases hb:b=x;{subst hb;exact⟨_,Ws (Yc (·.setIfInBounds 1 (We h1.objs.size))) e2 U⟩};{obtain⟨sl',hs⟩:=s1.2.2 b o z;exact⟨_,keep b _ hb hs⟩}
def qK {fl:Value}{l:DT}(F:Fly B l x C dx fl s.heap)(h:∀ h',Fly B l x C dx .none h'->Up s.heap h'->Q () { s with heap:=h' }):V2 M A (setFlight (.ref x) none) Q E s:=by
 obtain⟨st,bx,fr,vs,T,oT,ts,sl,ex,v1,bT,hTx,hT,dT,t3⟩:=F;unfold setFlight;refine VG (Xh ex U v1 ?_);rw[if_pos (show (We T != Xn)=true by simp)];have s3:3 < ts.size:=(Array.getElem?_eq_some_iff.mp t3).1;refine XM hT dT s3 (h _ ?_ ?_)
 all_goals
  have keep:∀ b o,b≠T->s.heap.get? b=some o->(s.heap.update T (Yc (·.setIfInBounds 3 ((none:DH).elim Xn fun f=>XF f)))).get? b=some o:=fun b o hb z=>(Wo _ _ (XQ hb)).trans z;have nrec:∀ b o,s.heap.get? b=some o->(∀ vs,o.data≠.fields vs)->b≠T:=fun b o z nf q=>by
   rw[q,hT] at z;cases z;exact nf ts dT
 ·refine⟨fun b o z=>keep b o (fun q=>by rw[q,bT] at z;cases z) (st b o z),bx,fr.of_keeps fun b o z nf=>⟨o,keep b o (nrec b o z nf) z,rfl⟩,vs,T,_,ts.setIfInBounds 3 .none,sl,keep x _ (XQ hTx) ex,v1,bT,hTx,Ws _ hT (aay (Zu dT _)),Zu dT _,by simp [s3]⟩
 ·refine⟨fun b o z nf=>⟨o.slots,keep b o (nrec b o z nf) z⟩,fun b o z=>?_⟩;by_cases hb:b=T;{subst hb;exact⟨_,Ws _ hT (aay (Zu dT _))⟩};{exact⟨o,keep b o hb z⟩}
def Il {t:Addr}(hfr:A.frames=some (env::outer))(hl:s.heap.FunFrames B (env::outer))(hf:env.frame=some L)(ex:s.heap.get? x=some (qm C t (some dx)))(st:B.StaysIn s.heap)(bx:B.get? x=none)
  (h:∀ h',Fly B (env::outer) x C dx .none h'->Up s.heap h'->Q () { s with heap:=h' }):V2 M A (leaving env (.ref x)) Q E s:=by
 unfold leaving aaW;simp only[hf];refine VG (VG (Xh ex U (x:=.none) U ?_));rw[if_neg (by decide)];refine wO hfr hl hf ex st bx (by show 1 < 6;decide) fun h1 F1 u1=>?_;exact qK (s:={ s with heap:=h1 }) F1 fun h2 F2 u2=>h h2 F2 (u1.trans u2)
def Bm (hfr:A.frames=some (env::outer))(hf:env.frame=some L)(F:Fly B (env::outer) x C dx .none s.heap)
  (h:∀ h',Fly B (env::outer) x C dx (XF L) h'->Up s.heap h'->Q () { s with heap:=h' }):V2 M A (aaW (.ref x) env) Q E s:=by
 obtain⟨st,bx,fr,vs,T,oT,ts,sl,ex,v1,bT,hTx,hT,dT,t3⟩:=F;unfold aaW;simp only[hf];refine VG (Xh ex U v1 ?_);rw[if_pos (show (We T != Xn)=true by simp)];refine VG (Xh hT dT t3 ?_);rw[if_neg (show ¬ ((Xn == XF L)=true) by simp [XF])];refine VG (XM hT dT (Array.getElem?_eq_some_iff.mp t3).1 ?_);have keep:∀ b o,b≠T->s.heap.get? b=some o->(s.heap.update T (Yc (·.setIfInBounds 3 Xn))).get? b=some o:=fun b o hb z=>(Wo _ _ (XQ hb)).trans z;have nrec:∀ b o,s.heap.get? b=some o->(∀ vs,o.data≠.fields vs)->b≠T:=fun b o z nf q=>by
  rw[q,hT] at z;cases z;exact nf ts dT
 refine wO (s:={ s with heap:=s.heap.update T (Yc (·.setIfInBounds 3 Xn)) }) hfr (fr.of_keeps fun b o z nf=>⟨o,keep b o (nrec b o z nf) z,U⟩) hf (keep x _ (XQ hTx) ex) (fun b o z=>keep b o (fun q=>by rw[q,bT] at z;cases z) (st b o z)) bx (Array.getElem?_eq_some_iff.mp v1).1 fun h1 F1 u1=>h h1 F1 ?_;refine Up.trans ⟨fun b o z nf=>⟨o.slots,keep b o (nrec b o z nf) z⟩,fun b o z=>?_⟩ u1;by_cases hb:b=T;{subst hb;exact⟨_,Ws _ hT (aay (Zu dT _))⟩};{exact⟨o,keep b o hb z⟩}
def Mi (hfr:A.frames=some (env::outer))(hf:env.frame=some L)(F:Fly B (env::outer) x C dx .none s.heap)
  (h:∀ h',Fly B (env::outer) x C dx .none h'->Up s.heap h'->Q () { s with heap:=h' }):V2 M A (leaving env (.ref x)) Q E s:=by
 unfold leaving;refine VG (Bm hfr hf F fun h1 F1 u1=>?_);exact qK (s:={ s with heap:=h1 }) F1 fun h2 F2 u2=>h h2 F2 (u1.trans u2)
end
structure Lie (P:Wi)(w:Wy)(outer:DT)(H:Hp)(s:VL)(x C dx:Addr)(H':Hp)(B:WT)(s':VL):Prop where
 os:s'.os=s.os
 bare:abe s'.gens
 fly:Fly B outer x C dx .none s'.heap
 un:Un (frs outer) [] H H' s.heap s'.heap
 hok:HOk P w H' s'.heap
 kb:∀ b o,s.heap.get? b=some o->H b=none->b ∉ frs outer->B.get? b=some o
 hb:∀ b u,H' b=some u->∃ o,s'.heap.get? b=some o/\B.get? b=some o
 xn:H' x=none
def XL (P:Wi)(w:Wy):CXT:=fun outer H s E e s'=>∃ (x C dx:Addr) (H':Hp) (B:WT),e = .ref x/\Lie P w outer H s x C dx H' B s'/\E (.ref C) (some dx) H'
def off (H:Hp)(x:Addr):Hp:=fun b=>if b=x then none else H b
def off_ne {H:Hp}{x b:Addr}(h:b≠x):off H x b=H b:=if_neg h
def vH {H:Hp}{x b:Addr}{u:HO}(h:off H x b=some u):b≠x/\H b=some u:=by
 unfold off at h;split at h;{cases h};{rename_i z;exact⟨z,h⟩}
def vD {P:Wi}{w:Wy}{H H':Hp}{h h':WT}(k:HOk P w H h)(sub:∀ b u,H' b=some u->H b=some u)(ow:∀ b a,H b=some (.own a)->H' b=some (.own a))(tp:∀ b xs,H b=some (.tup xs)->H' b=some (.tup xs))(keep:∀ b u o,H' b=some u->h.get? b=some o->h'.get? b=some o):HOk P w H' h':=fun b u e =>
 (k b u (sub b u e)).stay (fun c o hc q=>by
  rcases hc with rfl | hc;{exact keep c u o e q}
  ·exact keep c _ o (ow c b hc) q) (fun c q=>ow c b q) tp
def vR {P:Wi}{w:Wy}{H:Hp}{h:WT}{a:Addr}{u:HO}(x:dU P w H h a u):∃ o,h.get? a=some o:=by
 cases u with
 | lst xs=>obtain⟨_,_,_,_,e⟩:=x;exact⟨_,e⟩
 | tup xs=>obtain⟨_,_,_,ob,e,_⟩:=x;exact⟨_,e⟩
 | dK kvs=>obtain⟨_,_,_,_,ob,_,_,e,_⟩:=x;exact⟨_,e⟩
 | dT kvs=>obtain⟨_,_,_,_,ob,_,_,e,_⟩:=x;exact⟨_,e⟩
 | set S n=>obtain⟨ob,_,_,_,e,_⟩:=x;exact⟨_,e⟩
 | ins C dx fs=>obtain⟨_,_,_,e,_⟩:=x;exact⟨_,e⟩
 | own y=>exact x
 | xd fs=>obtain⟨_,⟨od,_,_,e,_⟩,_⟩:=x;exact⟨_,e⟩
 | rng lo hi=>obtain⟨_,_,_,e⟩:=x;exact⟨_,e⟩
 | frz ob u=>exact⟨_,x.1⟩
 | tbl ps=>exact⟨_,x⟩
 | met f y=>exact⟨_,x⟩
 | ext φ=>exact x.2.1
section
variable {P:Wi}{w:Wy}{K:Ww}{mg:Wt->Option Value}{base:WT}{N:List Wt}{qual:Wt}{scope:YH}{f:Addr}{cd:Value}{A:WM}{outer:List Env}{s₀:VL}{H₀:Hp}{E:XK}
def dz:Throws (Gy (XL P w) P w K mg base N qual scope f cd A outer s₀ H₀ E) fun x C dx H=>E (.ref C) (some dx) (off H x):=by
 intro ZY σ H s x C dx I hx hE;obtain⟨⟨t,ex⟩,_⟩:=I.hok x _ hx;have stk:=I.stack;have fre:=I.vQ;have xs:x ∉ frs (envOfC qual scope s₀.heap.objs.size f cd::outer):=fun z=>by rw[fre x z] at hx;cases hx
 have hin:∀ env∈(envOfC qual scope s₀.heap.objs.size f cd::outer),∀ b,env.frame=some b->b∈x::frs (envOfC qual scope s₀.heap.objs.size f cd::outer):=fun env he b hb=>V7 _ (List.mem_filterMap.mpr ⟨env,he,hb⟩);have F:=PySem.W.funFrames_hide stk hin;show V2 (Wb P w) _ (leaving _ (.ref x)) _ _ s;refine Il (B:=ac2 s.heap (x::frs (envOfC qual scope s₀.heap.objs.size f cd::outer))) (outer:=outer) (L:=s₀.heap.objs.size) I.ok.frames F U ex (fun b o e=>PySem.W.of_hideAll _ e) (PySem.W.hideAll_none _ V0) fun h' F' u'=>?_;have inB:∀ b o,s.heap.get? b=some o->b≠x->b ∉ frs (envOfC qual scope s₀.heap.objs.size f cd::outer)->(ac2 s.heap (x::frs (envOfC qual scope s₀.heap.objs.size f cd::outer))).get? b=some o:=fun b o e h1 h2=>PySem.W.hideAll_get _ e fun z=>(List.mem_cons.mp z).elim h1 h2;have tk:∀ b u,H b=some u->b ∉ frs (envOfC qual scope s₀.heap.objs.size f cd::outer):=fun b u e z=>by rw[fre b z] at e;cases e
 have old:∀ b o,s₀.heap.get? b=some o->H₀ b=none->b ∉ frs outer->s.heap.get? b=some o/\H b=none/\b ∉ frs (envOfC qual scope s₀.heap.objs.size f cd::outer):=fun b o e n hb=>by
  refine⟨I.base.keep b o e n hb (fun z=>nomatch z),I.base.free b o e n (fun z=>nomatch z),fun z=>?_⟩;rcases List.mem_cons.mp (I.yG b z) with z | z;{have:=V4 (V9 e) I.ok.above;rw[z] at this;exact Xa _ this};{exact hb z}
 have nx:∀ b u,H b=some u->u≠xO x C (some dx)->b≠x:=fun b u e ne z=>by
  subst z;rw[hx] at e;exact ne (WL e).symm
 refine⟨x,C,dx,off H x,_,U,⟨I.os,I.bare,⟨F'.stay,F'.bx,F'.frs.2.2,F'.tr⟩,⟨fun b o e n hb _=>?_,fun b o e n hb _=>?_,fun b o e n _=>?_,fun b o e _=>?_,fun b xs' e=>?_,fun b o u e=>?_,fun b ps e=>?_⟩,?_,fun b o e n hb=>?_,fun b u e=>?_,if_pos U⟩,hE⟩;{obtain⟨e1,e2,e3⟩:=old b o e n hb;exact F'.stay b o (inB b o e1 (fun z=>by rw[z,hx] at e2;cases e2) e3)};{obtain⟨sl,e1⟩:=I.base.slot b o e n hb (fun z=>nomatch z);obtain⟨_,o',ho',nf⟩:=I.ok.wM.mem hb;have z:some o=some o':=e.symm.trans ho';cases z;obtain⟨sl',e2⟩:=u'.sl b _ e1 nf;exact⟨sl',e2⟩}
 ·have z:=I.base.free b o e n (fun z=>nomatch z);unfold off;split;{rfl};{exact z}
 ·obtain⟨o1,e1⟩:=I.base.there b o e (fun z=>nomatch z);exact u'.th b o1 e1
 ·have z:=I.base.tups b xs' e;rw[off_ne (nx b _ z (fun q=>nomatch q))];exact z
 ·have z:=I.base.frzs b o u e;rw[off_ne (nx b _ z (fun q=>nomatch q))];exact z
 ·obtain⟨more,z⟩:=I.base.tbls b ps e;exact⟨more,by rw[off_ne (nx b _ z (fun q=>nomatch q))];exact z⟩
 ·refine vD I.hok (fun b u e=>(vH e).2) (fun b a e=>by rw[off_ne (nx b _ e (fun q=>nomatch q))];exact e) (fun b xs' e=>by rw[off_ne (nx b _ e (fun q=>nomatch q))];exact e) fun b u o e q=>?_;obtain⟨h1,h2⟩:=vH e;exact F'.stay b o (inB b o q h1 (tk b u h2))
 ·obtain⟨e1,e2,e3⟩:=old b o e n hb;exact inB b o e1 (fun z=>by rw[z,hx] at e2;cases e2) e3
 ·obtain⟨h1,h2⟩:=vH e;obtain⟨o,e1⟩:=vR (I.hok b u h2);have e2:=inB b o e1 h1 (tk b u h2);exact⟨o,F'.stay b o e2,e2⟩
end
section
variable {P:Wi}{w:Wy}{K:Ww}{mg:Wt->Option Value}{base:WT}{N:List Wt}{qual:Wt}{scope:YH}{f:Addr}{cd:Value}{A:WM}{outer:List Env}{s₀:VL}{H₀:Hp}{E:XK}
def bK:Passes (XL P w) (Gy (XL P w) P w K mg base N qual scope f cd A outer s₀ H₀ E) E:=by
 intro ZY σ H s e s' I hl;obtain⟨x,C,dx,H',B,rfl,Li,hE⟩:=hl;show V2 (Wb P w) _ (leaving _ (.ref x)) _ _ s';refine Mi (outer:=outer) (L:=s₀.heap.objs.size) I.ok.frames U Li.fly fun h' F' u'=>?_;have old:∀ b o,s₀.heap.get? b=some o->H₀ b=none->b ∉ frs outer->s.heap.get? b=some o/\H b=none/\b ∉ frs (envOfC qual scope s₀.heap.objs.size f cd::outer):=fun b o e n hb=>by
  refine⟨I.base.keep b o e n hb (fun z=>nomatch z),I.base.free b o e n (fun z=>nomatch z),fun z=>?_⟩;rcases List.mem_cons.mp (I.yG b z) with z | z;{have:=V4 (V9 e) I.ok.above;rw[z] at this;exact Xa _ this};{exact hb z}
 have inS:∀ b,b∈frs outer->b∈frs (envOfC qual scope s₀.heap.objs.size f cd::outer):=fun b hb=>by
  obtain⟨en,h1,h2⟩:=List.mem_filterMap.mp hb;exact List.mem_filterMap.mpr ⟨en,V7 _ h1,h2⟩
 refine⟨x,C,dx,H',B,U,⟨Li.os.trans I.os,Li.bare,⟨F'.stay,F'.bx,F'.frs.2.2,F'.tr⟩,⟨fun b o e n hb _=>?_,fun b o e n hb _=>?_,fun b o e n _=>?_,fun b o e _=>?_,fun b xs' e=>Li.un.tups b xs' (I.base.tups b xs' e),fun b o u e=>Li.un.frzs b o u (I.base.frzs b o u e),fun b ps e=>?_⟩,?_,fun b o e n hb=>?_,fun b u e=>?_,Li.xn⟩,hE⟩;{obtain⟨e1,e2,e3⟩:=old b o e n hb;exact F'.stay b o (Li.kb b o e1 e2 e3)};{obtain⟨sl,e1⟩:=I.base.slot b o e n hb (fun z=>nomatch z);have n1:=I.base.free b o e n (fun z=>nomatch z);obtain⟨_,o',ho',nf⟩:=I.ok.wM.mem hb;have z:some o=some o':=e.symm.trans ho';cases z;obtain⟨sl1,e2⟩:=Li.un.slot b _ e1 n1 (inS b hb) (fun z=>nomatch z);obtain⟨sl2,e3⟩:=u'.sl b _ e2 nf;exact⟨sl2,e3⟩};{have n1:=I.base.free b o e n (fun z=>nomatch z);obtain⟨o1,e1⟩:=I.base.there b o e (fun z=>nomatch z);exact Li.un.free b o1 e1 n1 (fun z=>nomatch z)};{obtain⟨o1,e1⟩:=I.base.there b o e (fun z=>nomatch z);obtain⟨o2,e2⟩:=Li.un.there b o1 e1 (fun z=>nomatch z);exact u'.th b o2 e2};{obtain⟨m1,z⟩:=I.base.tbls b ps e;obtain⟨m2,z2⟩:=Li.un.tbls b _ z;exact⟨m1++m2,by rw[z2,aci]⟩};{refine vD Li.hok (fun _ _ e=>e) (fun _ _ e=>e) (fun _ _ e=>e) fun b u o e q=>?_;obtain⟨o',e1,e2⟩:=Li.hb b u e;rw[e1] at q;cases q;exact F'.stay b _ e2};{obtain⟨e1,e2,e3⟩:=old b o e n hb;exact Li.kb b o e1 e2 e3};{obtain⟨o',e1,e2⟩:=Li.hb b u e;exact⟨o',F'.stay b _ e2,e2⟩}
end
def Lie.on {P:Wi}{w:Wy}{l:DT}{H H':Hp}{s s':VL}{x C dx:Addr}{B B0 h':WT}(Li:Lie P w l H s x C dx H' B s')(F':Fly B l x C dx .none h')(u':Up s'.heap h')(ff:s.heap.FunFrames B0 l) :
  Lie P w l H s x C dx H' B { s' with heap:=h' }:=by
 refine⟨Li.os,Li.bare,F',⟨fun b o e n hb _=>F'.stay b o (Li.kb b o e n hb),fun b o e n hb _=>?_,fun b o e n _=>Li.un.free b o e n (fun z=>nomatch z),fun b o e _=>?_,Li.un.tups,Li.un.frzs,Li.un.tbls⟩,?_,Li.kb,fun b u e=>?_,Li.xn⟩;{obtain⟨sl,e2⟩:=Li.un.slot b o e n hb (fun z=>nomatch z);obtain⟨_,o',ho',nf⟩:=ff.mem hb;have z:some o=some o':=e.symm.trans ho';cases z;obtain⟨sl2,e3⟩:=u'.sl b _ e2 nf;exact⟨sl2,e3⟩};{obtain⟨o2,e2⟩:=Li.un.there b o e (fun z=>nomatch z);exact u'.th b o2 e2};{refine vD Li.hok (fun _ _ e=>e) (fun _ _ e=>e) (fun _ _ e=>e) fun b u o e q=>?_;obtain⟨o',e1,e2⟩:=Li.hb b u e;rw[e1] at q;cases q;exact F'.stay b _ e2};{obtain⟨o',e1,e2⟩:=Li.hb b u e;exact⟨o',F'.stay b _ e2,e2⟩}
def cO (x C dx:Addr):HO:=.ext fun h=>∃ vs sl,h.get? x=some { cls:=.ref C,dict:=some dx,data:=.fields vs,slots:=sl }
def Uz {P:Wi}{w:Wy}{H:Hp}{h:WT}{x C dx:Addr}{vs:Array Value}{sl:Array (DE)}(e:h.get? x=some { cls:=.ref C,dict:=some dx,data:=.fields vs,slots:=sl }):dU P w H h x (cO x C dx) :=
 ⟨⟨vs,sl,e⟩,⟨_,e⟩,fun h1 h2 ⟨vs',sl',e'⟩ k=>⟨vs',sl',k _ e'⟩⟩
abbrev Cx.marked (X:Cx)(x:Addr):Cx:={ X with A:=X.A.mark (some (.ref x)),calm:=false,xe:=fun _ _=>False }
def Cx.Ok.marked {X:Cx}(ok:X.Ok)(x:Addr):(X.marked x).Ok :=
 ⟨ok.mod,ok.kind,ok.glob,ok.blt,ok.above,ok.inj,ok.has,ok.cab,(fun z=>nomatch z),ok.frames,ok.stk,ok.exf,ok.bs,ok.bsz,ok.noex,ok.exfs,ok.wM,ok.frf⟩
def Cx.Ok.unmarked {X:Cx}{x:Addr}(hd:X.calm=true->X.A.handled=none)(ok:(X.marked x).Ok):X.Ok :=
 ⟨ok.mod,ok.kind,ok.glob,ok.blt,ok.above,ok.inj,ok.has,ok.cab,hd,ok.frames,ok.stk,ok.exf,ok.bs,ok.bsz,ok.noex,ok.exfs,ok.wM,ok.frf⟩
section
variable {X:Cx}{ZY:Do}{σ:St}{H H':Hp}{s s':VL}{x C dx:Addr}{B:WT}
def Inv.marked (I:Inv X ZY σ H s)(x:Addr):Inv (X.marked x) ZY σ H s:=⟨I.ok.marked x,I.os,I.bare,I.base,I.loc,I.cell,I.free,I.freeC,I.pin,I.hok,I.len⟩
def Inv.unmarked (I:Inv (X.marked x) ZY σ H s)(hd:X.calm=true->X.A.handled=none):Inv X ZY σ H s:=⟨I.ok.unmarked hd,I.os,I.bare,I.base,I.loc,I.cell,I.free,I.freeC,I.pin,I.hok,I.len⟩
def Lie.back (I:Inv X ZY σ H s)(Li:Lie X.prog X.w X.stack H s x C dx H' B s'):Inv X ZY σ (upd H' x (cO x C dx)) s':=by
 have J:=I.call' (s':=s') (ch:=[]) Li.os Li.un Li.hok Li.bare (fun b z=>nomatch z);obtain⟨vs,T,oT,ts,sl,ex,_⟩:=Li.fly.tr;have xs:x ∉ frs X.stack:=fun z=>by
  obtain⟨_,o,ho,nf⟩:=Li.fly.frs.mem z;rw[ex] at ho;cases ho;exact nf vs U
 have xl:x≠X.env.locals:=fun z=>by
  obtain⟨m,⟨o,es,ep,e,d,_⟩,_⟩:=J.loc;rw[← z,ex] at e;cases e;cases d
 have out:∀ b o,s.heap.get? b=some o->H b=none->b≠x:=fun b o e n z=>by
  subst z;have:=Li.kb b o e n xs;rw[Li.fly.bx] at this;cases this
 have hne:∀ b u,H' b=some u->b≠x:=fun b u e z=>by
  rw[z,Li.xn] at e;cases e
 refine⟨J.ok,J.os,J.bare,⟨J.base.keep,J.base.slot,fun b o e n he=>?_,J.base.there,fun b xs' e=>?_,fun b o u e=>?_,fun b ps e=>?_⟩,J.loc,J.cell,?_,fun y c e=>?_,fun p hp=>?_,?_,J.len⟩;{have n1:=I.base.free b o e n he;obtain⟨o1,e1⟩:=I.base.there b o e he;rw[aL (out b o1 e1 n1)];exact J.base.free b o e n he};{have z:=J.base.tups b xs' e;rw[aL (hne b _ z)];exact z};{have z:=J.base.frzs b o u e;rw[aL (hne b _ z)];exact z};{obtain⟨m,z⟩:=J.base.tbls b ps e;exact⟨m,by rw[aL (hne b _ z)];exact z⟩};{rw[aL (XQ xl)];exact J.free}
 ·obtain⟨v,o,ho,hd⟩:=J.cell y c e;have:c≠x:=fun z=>by
   rw[z,ex] at ho;cases ho;cases hd
  rw[aL this];exact J.freeC y c e
 ·obtain⟨e1,e2,e3⟩:=J.pin p hp;obtain⟨i1,i2,i3⟩:=I.pin p hp;refine⟨e1,?_,e3⟩;rw[aL (out _ _ i1 i2)];exact e2
 ·intro b u e;by_cases hb:b=x;{subst hb;rw[aa] at e;cases e;exact Uz ex}
  ·rw[aL hb] at e;refine (J.hok b u e).stay (fun _ _ _ q=>q) (fun c q=>?_) fun c xs' q=>?_;{rw[aL (hne c _ q)];exact q};{rw[aL (hne c _ q)];exact q}
end
structure XRd (K:V8)(C G:Addr)(f:Wt):Prop where
 obj:∃ nm q N bs bm hdct sn sub ab col dd k0 k1 k2 k3 k5 id,K.lookup C=some (Zn nm q C N bs bm hdct sn sub ab col dd k0 k1 k2 k3 k5 id)/\(We C::bm).contains (.ref G)=true
 top:∃ nm q N bs bm hdct sn sub ab col dd k0 k1 k2 k3 k5 id,K.lookup G=some (Zn nm q G N bs bm hdct sn sub ab col dd k0 k1 k2 k3 k5 id)/\bm.contains (.type "BaseException")=true
 ga:Xo K (.ref C) "__getattribute__" = some (some (.builtin "BaseException.__getattribute__"))
 gh:Xo K (.ref C) "__getattr__" = some none
 up:∃ cd,PySem.W.clsIn K C=some cd/\wI cd.mro=true
 hd:ZJ K C=true
 no:Xo K (.ref C) f=some none
section
variable {M:acW}{A:WM}{E:DC}{K:Ww}{s:VL}{C G x dx:Addr}{f:Wt}{vs:Array Value}{sl:Array (DE)}
def Jg {Q:Bool->VL->Prop}(X:K.In s.heap)(R:XRd K C G f)(he:s.heap.get? x=some { cls:=.ref C,dict:=some dx,data:=.fields vs,slots:=sl })(hq:Q true s):V2 M A (excMatches (.ref x) (.ref G)) Q E s:=by
 obtain⟨n1,q1,N1,bs1,bm1,hd1,sn1,sub1,ab1,col1,dd1,a0,a1,a2,a3,a5,id1,l1,c1⟩:=R.obj;obtain⟨n2,q2,N2,bs2,bm2,hd2,sn2,sub2,ab2,col2,dd2,b0,b1,b2,b3,b5,id2,l2,c2⟩:=R.top;have h1:=X _ _ l1;have h2:=X _ _ l2;have cB:(We G::bm2).contains (.type "BaseException")=true:=by rw[YC,c2,Z9]
 have nt:=tc_notTuple;obtain⟨hp,g,d,tk,os⟩:=s;unfold excMatches
 repeat (first | with_reducible refine XX he ?_ | with_reducible refine XX h2 ?_ | (with_reducible refine YG h2 ?_;rw[cB]) | (with_reducible refine YG h1 ?_;rw[c1]) | wp_step)
 exact hq
end
section
variable {prog:Wi}{w:Wy}{A:WM}{E:DC}{K:Ww}{s:VL}{C G x:Addr}{ox:YB}{od:Option YB}{f:Wt}{expr:Bool}{v:Value}
end
section
variable {X:Cx}{e:Expr}{f:Wt}{pos:ZX}{ta:TE}
end
section
variable {X:Cx}{ZY:Do}{σ:St}{H H':Hp}{s s':VL}{x C G dx:Addr}{B:WT}{c n f:Wt}{p p1 p2 p3 p4 pos:ZX}{k:Nat}{i:Nat}{D:Ends}{fs:List (Wt × V)}{v:V}
end
abbrev Cx.held (X:Cx)(pn:Do)(E:DC):Cx:={ X with pn:=pn,xe:=E }
section
variable {X:Cx}{ZY ps qs:Do}{σ:St}{H:Hp}{s:VL}{E:DC}
def Inv.hold (I:Inv X ZY σ H s):Inv (X.held (X.pn++ZY) E) [] σ H s :=
 ⟨⟨I.ok.mod,I.ok.kind,I.ok.glob,I.ok.blt,I.ok.above,I.ok.inj,I.ok.has,I.ok.cab,I.ok.hd,I.ok.frames,I.ok.stk,I.ok.exf,I.ok.bs,I.ok.bsz,I.ok.noex,I.ok.exfs,I.ok.wM,I.ok.frf⟩,I.os,I.bare,I.base,I.loc,I.cell,I.free,I.freeC,fun p hp=>I.pin p (by simpa using hp),I.hok,I.len⟩
def Inv.rQ (I:Inv (X.held (X.pn++ZY) E) qs σ H s):Inv X ZY σ H s :=
 ⟨⟨I.ok.mod,I.ok.kind,I.ok.glob,I.ok.blt,I.ok.above,I.ok.inj,I.ok.has,I.ok.cab,I.ok.hd,I.ok.frames,I.ok.stk,I.ok.exf,I.ok.bs,I.ok.bsz,I.ok.noex,I.ok.exfs,I.ok.wM,I.ok.frf⟩,I.os,I.bare,I.base,I.loc,I.cell,I.free,I.freeC,fun p hp=>I.pin p (aaI _ hp),I.hok,I.len⟩
def SP.rQ {D:Ends}{f:Flow}(h:SP (X.held (X.pn++ZY) E) qs D f s):SP X ZY D f s:=by
 cases f with
 | next=>obtain⟨a,b,I,q⟩:=h;exact⟨a,b,I.rQ,q⟩
 | brk=>obtain⟨a,b,I,q⟩:=h;exact⟨a,b,I.rQ,q⟩
 | cont=>obtain⟨a,b,I,q⟩:=h;exact⟨a,b,I.rQ,q⟩
 | ret u=>obtain⟨v,a,b,I,r,q⟩:=h;exact⟨v,a,b,I.rQ,r,q⟩
end
section
variable {X:Cx}{G:Addr}{c n f:Wt}{p p1 p2 p3 p4 pos pos':ZX}{k:Nat}{body:DS}{t:XK->TS}
end
section
variable {CX:CXT}{P:Wi}{w:Wy}{K:Ww}{mg:Wt->DE}{base:WT}{k:Nat}
end
section
variable {X:Cx}{CX:CXT}{k:Nat}{f:Addr}{sp:Hp->VK->XK->Prop}{E:XK}{x:Wt}{p pos:ZX}{te:TE}
end
def Ke (H H1:Hp):Prop:=∀ b o,(∀ ps,o≠.tbl ps)->H b=some o->H1 b=some o
def aG.t {H H1:Hp}(a:aG H H1):Ke H H1:=fun c o _ e=>a c o e
section
variable {X:Cx}{ZY:Do}{σ:St}{H:Hp}{s:VL}{c P:Addr}{params:Arguments}{body:Expr}{scope:YH}{lpos:ZX}{E:DC}{Q:DC}
end
section
variable {X:Cx}{c P fW:Addr}{x qual n:Wt}{st:Stmt}{fd:Xp}{N NL:D0}{cap:DV}{k:Nat}{params:Arguments}{body:Expr}{scope:YH}{lpos p pos:ZX}{te:XK->TE}{tw:Addr->(Hp->VK->XK->Prop)->VK->Hp->Prop}
end
def RP {X:Cx}{st:Stmt}{t:TS}(h:PS X.nox st t):PS X st t:=fun ZY s σ H D I z =>
 W7 (h ZY s σ H D (I.wish _) z) (fun _ _ q=>q.nR) fun _ _ y=>y.elim
structure Dx (P:Wi)(w:Wy)(K:V8)(mg:Wt->DE)(base:WT)(x:Wt)(k:Nat)(ps:D0)(sp:Sp):Prop where
 ex:∃ (f:Addr) (fd:Xp),bh P w K mg base (XL P w) k f fd ps sp/\mg x=some (.ref f)/\Yb K (.ref f)=true/\Binds K fd ps []
def yI {P:Wi}{w:Wy}{X:Cx}:Passes (XL P w) X E0:=fun _ _ _ _ _ _ _ ⟨_,_,_,_,_,_,_,z⟩=>z.elim
section
variable {X:Cx}{k j:Nat}{x:Wt}{ps:D0}{sp:Sp}{p pos:ZX}{e:Expr}{es:DO}{t:TA}{E:XK}
def qi (D:Dx X.prog X.w X.K X.mg X.base x k ps sp)(hr:iD j X.A)(hx:Passes (XL X.prog X.w) X E)(ha:PA X (e::es) t)(hk:k<=j:=by first | decide | exact VP _ | lia)(hg:Gl X x:=by rfl)
  (hdb:(x == ("__debug__" : Wt))=false:=by decide) (he:Wg (e::es) X.env=(false,Xw e X.env)::Wg es X.env:=by rfl) (hpl:(Yk pos (Wg es X.env)).any (·.1)=false:=by rfl) :
  PE X (.Call (.Name x p) (e::es) [] pos) (Ja sp [] E t):=by
 obtain⟨f,fd,F,hm,hkp,hb⟩:=D.ex;exact IV F (hr.mono hk) hg hm hkp hb .nil hx ha hdb he hpl
end
section
variable {P:Wi}{w:Wy}{K:Ww}{mg:Wt->Option Value}{base:WT}
def Fun.okX {x qual:Wt}{st:Stmt}{f:Addr}{fd:Xp}{N ps:D0}{k:Nat}{sp:Sp}(F:Fun K x qual st f fd)(S:aB N ps (aA st))(len:∀ vs H Q E,sp vs H Q E->vs.length=ps.length)
  (hb:∀ (cdv:Value) (A:WM) (outer:DT) (s:VL) (H:Hp) (vs:List V) (Q:VK) (E:XK),iD k (A.deeper (envOfC qual (aA st) s.heap.objs.size f cdv))->sp vs H Q E →
   ∃ t,PSs (Gy (XL P w) P w K mg base N qual (aA st) f cdv A outer s H E) (cZ st) t/\t { nx:=fun _ H2=>Q .non H2,rt:=Q } (start N vs) H):bh P w K mg base (XL P w) (k+1) f fd ps sp:=by
 obtain⟨oc,od,kV,doc,pm,an,cdv,ct,osl,rfl,lk,hc⟩:=F.ex;exact S6 lk hc S len fun A outer s H vs Q E hr hs=>hb cdv A outer s H vs Q E hr hs
end
section
variable {prog:Wi}{w:Wy}{A:WM}{R:abg->VL->Prop}{E:DC}{s:VL}
end
section
variable {X:Cx}{k:Nat}
end
end L2
namespace L2
open PySem PySem.Spec PyProof.Rows PySem.W
section
variable {prog:Wi}{w:Wy}{A:WM}{E:DC}{κ:SortKind}{it:Array Keyed}{s:VL}
end
section
variable {X:Cx}
end
end L2
namespace L2
open PySem PySem.Spec PyProof.Rows
section
variable {X:Cx}{k:Nat}
end
section
variable {prog:Wi}{w:Wy}{A:WM}{R:abg->VL->Prop}{E:DC}{s:VL}
end
section
variable {X:Cx}
end
section
variable {κ:Type}[DecidableEq κ]
def tQ (kvs:List (κ × V))(k:κ):Option V:=(kvs.find? fun kv=>decide (kv.1=k)).map (·.2)
def putK (kvs:List (κ × V))(k:κ)(v:V):List (κ × V) :=
 if (kvs.any fun kv=>decide (kv.1=k))=true then kvs.map (fun kv=>if kv.1=k then (kv.1,v) else kv) else kvs++[(k,v)]
def Ar (kvs:List (κ × V))(k:κ):List (κ × V):=kvs.filter fun kv=>decide (kv.1≠k)
def qF {p:κ × V}{r:List (κ × V)}{k:κ}(e:p.1=k):tQ (p::r) k=some p.2:=by simp [tQ,aal,e]
def m6 {p:κ × V}{r:List (κ × V)}{k:κ}(e:¬ p.1=k):tQ (p::r) k=tQ r k:=by simp [tQ,aal,e]
theorem qC (k:κ):∀ kvs:List (κ × V),(kvs.any fun kv=>decide (kv.1=k))=(tQ kvs k).isSome
 | []=>rfl
 | p::r=>by
  rw[Zz];by_cases e:p.1=k;{simp only[qF e,decide_eq_true e,Bool.true_or,Option.isSome_some]};{rw[m6 e,decide_eq_false e,abl];exact qC k r}
def rE (kvs:List (κ × V))(k:κ)(v:V):(putK kvs k v).length<=kvs.length+1:=by
 unfold putK;split;{rw[VH];lia};{rw[V6,Wc,List.length_nil];lia}
def BX {kvs:List (κ × V)}{k:κ}(v:V)(h:tQ kvs k=none):putK kvs k v=kvs++[(k,v)]:=by
 unfold putK;rw[qC,h];exact if_neg (by decide)
def vC.jM {o:Option V}{u:DE}(r:vC o u):o.isSome=u.isSome:=by
 cases o with
 | none=>cases u with
  | none=>rfl
  | some _=>exact (show False from r).elim
 | some _=>cases u with
  | none=>exact (show False from r).elim
  | some _=>rfl
def KV.val {kvs:List (κ × V)}{vs:List (κ × Value)}(r:KV kvs vs)(k:κ):vC (tQ kvs k) (abS vs k):=by
 unfold KV at r
 induction r with
 | nil=>exact Za
 | @cons p q ps qs h t ih =>
  obtain⟨h1,h2⟩:=h;by_cases e:p.1=k
  ·have e':q.1=k:=h1.symm.trans e;have b:abS (q::qs) k=some q.2:=by simp [abS,aal,e']
   rw[qF e,b];exact h2
  ·have e':¬ q.1=k:=fun z=>e (h1.trans z);have b:abS (q::qs) k=abS qs k:=by simp [abS,aal,e']
   rw[m6 e,b];exact ih
def KV.any {kvs:List (κ × V)}{vs:List (κ × Value)}(r:KV kvs vs)(k:κ):(kvs.any fun kv=>decide (kv.1=k))=vs.any fun kv=>decide (kv.1=k):=by
 unfold KV at r
 induction r with
 | nil=>rfl
 | cons h t ih=>rw[Zz,Zz,ih,h.1]
def KV.repl {kvs:List (κ × V)}{vs:List (κ × Value)}(r:KV kvs vs)(k:κ){y:V}{u:Value}(ry:RelV y u) :
  KV (kvs.map fun kv=>if kv.1=k then (kv.1,y) else kv) (vs.map fun kv=>if kv.1=k then (kv.1,u) else kv):=by
 unfold KV at r ⊢
 induction r with
 | nil=>exact .nil
 | @cons p q ps qs h t ih =>
  rw[WR,WR];refine .cons ?_ ih;obtain⟨h1,h2⟩:=h;by_cases e:p.1=k;{rw[if_pos e,if_pos (h1.symm.trans e)];exact⟨h1,ry⟩};{rw[if_neg e,if_neg (fun z=>e (h1.trans z))];exact⟨h1,h2⟩}
def KV.put {kvs:List (κ × V)}{vs:List (κ × Value)}(r:KV kvs vs)(k:κ){y:V}{u:Value}(ry:RelV y u):KV (putK kvs k y) (stored vs k u):=by
 unfold putK stored;rw[r.any k];by_cases e:(vs.any fun kv=>decide (kv.1=k))=true;{rw[if_pos e,if_pos e];exact r.repl k ry};{rw[if_neg e,if_neg e];exact Paired.snoc r ⟨U,ry⟩}
def KV.drop {kvs:List (κ × V)}{vs:List (κ × Value)}(r:KV kvs vs)(k:κ):KV (Ar kvs k) (without vs k):=by
 unfold KV at r ⊢;unfold Ar without
 induction r with
 | nil=>exact .nil
 | @cons p q ps qs h t ih =>
  obtain⟨h1,h2⟩:=h;rw[Zj,Zj];by_cases e:p.1=k
  ·have a:¬ decide (p.1≠k)=true:=by simp [e]
   have b:¬ decide (q.1≠k)=true:=by simp [h1.symm.trans e]
   rw[if_neg a,if_neg b];exact ih
  ·have e':¬ q.1=k:=fun z=>e (h1.trans z);have a:decide (p.1≠k)=true:=by simp [e]
   have b:decide (q.1≠k)=true:=by simp [e']
   rw[if_pos a,if_pos b];exact .cons ⟨h1,h2⟩ ih
def KV.length {kvs:List (κ × V)}{vs:List (κ × Value)}(r:KV kvs vs):kvs.length=vs.length:=Paired.length r
def Ls (kvs:List (κ × V))(k:κ):(Ar kvs k).length<=kvs.length:=WW _ _
end
def Ff {P:Wi}{w:Wy}{k:Key}{u:Value}(r:RelV (kV k) u):(dH P w).is k u=true:=by
 cases k with
 | inl i=>obtain⟨t,e⟩:=(show ∃ t,u=YT i t from r);subst e;exact Ah P w i t
 | inr x=>obtain⟨t,e⟩:=(show ∃ t,u=abW x t from r);subst e;exact zy P w x t
theorem yH {P:Wi}{w:Wy}:∀ {ks:List Key} {us:DJ},Vals (ks.map kV) us->ItemsAre (dH P w) ks us
 | [],_,r=>by rw[List.map_nil] at r;cases r;exact .nil
 | k::ks,_,r=>by
  rw[WR] at r;cases r with
  | cons h t=>exact .cons (Ff h) (yH t)
abbrev KT (H:Hp):List (List Key × V)->List (List Key × Addr × Value)->Prop:=Paired fun p q=>p.1=q.1/\H q.2.1=some (.tup (p.1.map kV))/\RelV p.2 q.2.2
def KT.val {H:Hp}{kvs:List (List Key × V)}{xs:List (List Key × Addr × Value)}(r:KT H kvs xs)(k:List Key):vC (tQ kvs k) ((atKey xs k).map (·.2)):=by
 induction r with
 | nil=>exact Za
 | @cons p q ps qs h t ih =>
  obtain⟨h1,_,h2⟩:=h;by_cases e:p.1=k
  ·have e':q.1=k:=h1.symm.trans e;have b:atKey (q::qs) k=some q.2:=by simp [atKey,aal,e']
   rw[qF e,b];exact h2
  ·have e':¬ q.1=k:=fun z=>e (h1.trans z);have b:atKey (q::qs) k=atKey qs k:=by simp [atKey,aal,e']
   rw[m6 e,b];exact ih
def KT.repl {H:Hp}{kvs:List (List Key × V)}{xs:List (List Key × Addr × Value)}(r:KT H kvs xs)(k:List Key){y:V}{u:Value}(ry:RelV y u) :
  KT H (kvs.map fun kv=>if kv.1=k then (kv.1,y) else kv) (xs.map (putAt k u)):=by
 induction r with
 | nil=>exact .nil
 | @cons p q ps qs h t ih =>
  rw[WR,WR];refine .cons ?_ ih;obtain⟨h1,h2,h3⟩:=h;unfold putAt;by_cases e:p.1=k;{rw[if_pos e,if_pos (h1.symm.trans e)];exact⟨h1,h2,ry⟩};{rw[if_neg e,if_neg (fun z=>e (h1.trans z))];exact⟨h1,h2,h3⟩}
def KT.put {H:Hp}{kvs:List (List Key × V)}{xs:List (List Key × Addr × Value)}(r:KT H kvs xs)(k:List Key){b:Addr}{y:V}{u:Value}(hb:H b=some (.tup (k.map kV)))(ry:RelV y u) :
  KT H (putK kvs k y) (storedH xs k b u):=by
 have e:(kvs.any fun kv=>decide (kv.1=k))=(atKey xs k).isSome:=by
  rw[qC,(r.val k).jM,acv]
 unfold putK storedH;rw[e];by_cases q:(atKey xs k).isSome=true;{rw[if_pos q,if_pos q];exact r.repl k ry};{rw[if_neg q,if_neg q];exact Paired.snoc r ⟨U,hb,ry⟩}
def KT.keeps {H H':Hp}{kvs:List (List Key × V)}{xs:List (List Key × Addr × Value)}(r:KT H kvs xs)(ht:∀ b ys,H b=some (.tup ys)->H' b=some (.tup ys)):KT H' kvs xs :=
 Paired.T4 r fun _ _ z=>⟨z.1,ht _ _ z.2.1,z.2.2⟩
section
variable {P:Wi}{w:Wy}{H:Hp}{h:WT}{a:Addr}
def Tg {u:HO}(ok:HOk P w H h)(e:Rd H a u):dU P w H h a u:=e.ok ok
def yx {kvs:List (Key × V)}(ok:HOk P w H h)(e:Rd H a (.dK kvs)):kvs.length<=sizeLine/\(a == ZR)=false/\∃ vs,KV kvs vs/\h.DictOf (dH P w) a vs :=
 show dU P w H h a (.dK kvs) from Tg ok e
def PK {kvs:List (Key × V)}(ok:HOk P w H h)(e:H a=some (.dK kvs)):kvs.length<=sizeLine/\(a == ZR)=false/\∃ vs,KV kvs vs/\h.DictOf (dH P w) a vs:=yx ok (.inl e)
def za {ks:List Key}(ok:HOk P w H h)(e:H a=some (.tup (ks.map kV))):(acG (dH P w)).is h ks a:=by
 obtain⟨_,its,r,o,h1,h2,n,h3⟩:=(show dU P w H h a (.tup (ks.map kV)) from ok a _ e);exact⟨o,its.toArray,n,h1,h2,h3,by simpa using yH r⟩
def Ep {kvs:List (List Key × V)}(ok:HOk P w H h)(e:Rd H a (.dT kvs)):kvs.length<=sizeLine/\(a == ZR)=false ∧
  ∃ xs,KT H kvs xs/\h.DictOfH (acG (dH P w)) a xs:=by
 obtain⟨z,y,xs,r,o,es,ep,h1,h2,h3,h4,h5⟩:=(show dU P w H h a (.dT kvs) from Tg ok e);refine⟨z,y,xs,r,o,es,ep,h1,h2,h3,h4,fun x hx=>?_,h5⟩;have all:∀ {l:List (List Key × V)} {m:List (List Key × Addr × Value)},KT H l m->∀ x∈m,(acG (dH P w)).is h x.1 x.2.1:=by
  intro l m q
  induction q with
  | nil=>intro x hx;exact nomatch hx
  | @cons p q ps qs hq t ih =>
   intro x hx;rcases List.mem_cons.mp hx with e | hx;{subst e;exact za ok (by rw[← hq.1];exact hq.2.1)};{exact ih x hx}
 exact all r x hx
def Ul {kvs:List (List Key × V)}(ok:HOk P w H h)(e:H a=some (.dT kvs)):kvs.length<=sizeLine/\(a == ZR)=false ∧
  ∃ xs,KT H kvs xs/\h.DictOfH (acG (dH P w)) a xs:=Ep ok (.inl e)
end
def uf (H:Hp)(a:Addr)(y:V)(r:Option V):Prop :=
 (∃ kvs k,Rd H a (.dK kvs)/\y=kV k/\r=tQ kvs k)∨∃ kvs k b,Rd H a (.dT kvs)/\y = .ref b/\H b=some (.tup (k.map kV))/\r=tQ kvs k
def Ph (H:Hp)(a:Addr)(y v:V)(H':Hp):Prop :=
 (∃ kvs k,H a=some (.dK kvs)/\y=kV k/\kvs.length < sizeLine/\H'=upd H a (.dK (putK kvs k v))) ∨
 ∃ kvs k b,H a=some (.dT kvs)/\y = .ref b/\H b=some (.tup (k.map kV))/\kvs.length < sizeLine/\H'=upd H a (.dT (putK kvs k v))
theorem uf.k {H:Hp}{a:Addr}{kvs:List (Key × V)}{k:Key}(e:H a=some (.dK kvs)):uf H a (kV k) (tQ kvs k):=.inl ⟨kvs,k,.inl e,U,U⟩
theorem Ph.k {H:Hp}{a:Addr}{kvs:List (Key × V)}{k:Key}{v:V}(e:H a=some (.dK kvs))(hl:kvs.length < sizeLine):Ph H a (kV k) v (upd H a (.dK (putK kvs k v))):=.inl ⟨kvs,k,e,U,hl,U⟩
section
variable {X:Cx}{ZY:Do}{σ:St}{H:Hp}{s:VL}{a:Addr}{y v:V}{u r:Value}{o:Option V}{A:WM}{E:DC}
def Inv.big (I:Inv X ZY σ H s):ZR < s.heap.objs.size:=by
 have h:Wm < s.heap.objs.size:=(I.mod.glob.keeps I.bk).lt;exact aat (by decide) h
def Gh {Q:DC}(hu:A.units+1 < cLine)(I:Inv X ZY σ H s)(g:uf H a y (some v))(ry:RelV y u)(h:∀ w' s',Inv X ZY σ H s'->RelV v w'->Q w' s') :
  V2 (Wb X.prog X.w) A (abT (.ref a) u) Q E s:=by
 rcases g with⟨kvs,k,e,ey,l⟩ | ⟨kvs,k,b,e,ey,eb,l⟩;{subst ey;obtain⟨z,hd,vs,rel,dd⟩:=yx I.hok e;obtain⟨w',hw,rw'⟩:=vC.some_of (v:=v) (o:=abS vs k) (by rw[l];exact rel.val k);exact wpAny_getItem_of (Ff ry) dd.mapOf hw (h w' _ (I.tok _) rw')};{subst ey;cases (show u=We b from ry);obtain⟨z,hd,xs,rel,dd⟩:=Ep I.hok e;obtain⟨w',hw,rw'⟩:=vC.some_of (v:=v) (o:=(atKey xs k).map (·.2)) (by rw[l];exact rel.val k);obtain⟨p,hp,hp2⟩:=Option.map_eq_some_iff.mp hw;refine wpAny_getItem_heap (aaZ hu) (za I.hok eb) dd hp ?_;rw[hp2];exact h w' _ (I.tok _) rw'}
def VB {Q:DC}(hu:A.units+1 < cLine)(I:Inv X ZY σ H s)(g:uf H a y o)(ry:RelV y u)(h:∀ s',Inv X ZY σ H s'->Q (.bool o.isSome) s') :
  V2 (Wb X.prog X.w) A (Yn .In u (.ref a)) Q E s:=by
 rcases g with⟨kvs,k,e,ey,l⟩ | ⟨kvs,k,b,e,ey,eb,l⟩;{subst ey;obtain⟨z,hd,vs,rel,dd⟩:=yx I.hok e;refine wpAny_in_of (Ff ry) hd dd.mapOf ?_;rw[← (rel.val k).jM,← l];exact h _ (I.tok _)};{subst ey;cases (show u=We b from ry);obtain⟨z,hd,xs,rel,dd⟩:=Ep I.hok e;refine wpAny_in_heap (aaZ hu) (za I.hok eb) hd dd ?_;have q:=(rel.val k).jM;rw[acv] at q;rw[← q,← l];exact h _ (I.tok _)}
def Qj {Q:DC}(hu:A.units+1 < cLine)(I:Inv X ZY σ H s)(g:uf H a y o)(ry:RelV y u)(h:∀ s',Inv X ZY σ H s'->Q (.bool (!o.isSome)) s') :
  V2 (Wb X.prog X.w) A (Yn .NotIn u (.ref a)) Q E s:=by
 rcases g with⟨kvs,k,e,ey,l⟩ | ⟨kvs,k,b,e,ey,eb,l⟩;{subst ey;obtain⟨z,hd,vs,rel,dd⟩:=yx I.hok e;refine wpAny_notIn_of (Ff ry) hd dd.mapOf ?_;rw[← (rel.val k).jM,← l];exact h _ (I.tok _)};{subst ey;cases (show u=We b from ry);obtain⟨z,hd,xs,rel,dd⟩:=Ep I.hok e;refine wpAny_notIn_heap (aaZ hu) (za I.hok eb) hd dd ?_;have q:=(rel.val k).jM;rw[acv] at q;rw[← q,← l];exact h _ (I.tok _)}
def zH {h':WT}{t':Nat}{ob:HO}(I:Inv X ZY σ H s)(mu:Mut (H a))(hs:Yx a s.heap h')(he:∃ q,h'.get? a=some q)(new:dU X.prog X.w (upd H a ob) h' a ob) :
  Inv X ZY σ (upd H a ob) { s with heap:=h',toks:=t' } :=
 I.write (x:=a) (e:=a) mu (.inl U) (fun b q hb z=>(hs.2 b hb).trans z) he new
def G3 {P:Wi}{w:Wy}{H':Hp}{h':WT}{kvs:List (Key × V)}{vs:List (Key × Value)}(z:kvs.length<=sizeLine)(hd:(a == ZR)=false)(rel:KV kvs vs)(dd:h'.DictOf (dH P w) a vs) :
  dU P w H' h' a (.dK kvs):=⟨z,hd,vs,rel,dd⟩
def Jr {H':Hp}{Q:Unit->VL->Prop}(hu:A.units+1 < cLine)(I:Inv X ZY σ H s)(g:Ph H a y v H')(ry:RelV y u)(rv:RelV v r)(h:∀ s',Inv X ZY σ H' s'->Q () s') :
  V2 (Wb X.prog X.w) A (setItem (.ref a) u r) Q E s:=by
 rcases g with⟨kvs,k,e,ey,l,eH⟩ | ⟨kvs,k,b,e,ey,eb,l,eH⟩
 ·subst ey eH;obtain⟨z,hd,vs,rel,dd⟩:=PK I.hok e;have hz:vs.length<=sizeLine:=by rw[← rel.length];exact z
  have hl:(putK kvs k v).length<=sizeLine:=by have:=rE kvs k v;lia
  refine wpAny_setItem_pairs (hsz:=hz) (Ff ry) dd fun h' dd' hs=>h _ ?_;have he:∃ q,h'.get? a=some q:=let ⟨q,_,_,hq,_⟩:=dd';⟨q,hq⟩;exact zH I (by rw[e];exact Za) hs he (G3 hl hd (rel.put k rv) dd')
 ·subst ey eH;cases (show u=We b from ry);obtain⟨z,hd,xs,rel,dd⟩:=Ul I.hok e;have hz:xs.length<=sizeLine:=by rw[← Paired.length rel];exact z
  have hl:(putK kvs k v).length<=sizeLine:=by have:=rE kvs k v;lia
  refine wpAny_setItem_heap (hsz:=hz) (aaZ hu) (za I.hok eb) dd fun h' dd' hs=>h _ ?_;obtain⟨q,es,ep,hq,h2,h3,h4,_,h5⟩:=dd';refine zH I (by rw[e];exact Za) hs ⟨q,hq⟩ ⟨hl,hd,_,(rel.put k eb rv).keeps fun c ys ec=>?_,q,es,ep,hq,h2,h3,h4,h5⟩;rw[aL (Ub ec e (fun z=>nomatch z))];exact ec
end
section
variable {X:Cx}{ZY:Do}{σ:St}{H:Hp}{s:VL}{a:Addr}{kvs:List (Key × V)}{k:Key}{u:Value}{A:WM}{E:DC}
def Uo {v:V}{more:DJ}{Q:DC}(I:Inv X ZY σ H s)(e:H a=some (.dK kvs))(ry:RelV (kV k) u)(l:tQ kvs k=some v)(hm:more=[]∨∃ x,more=[x])
  (h:∀ w' s',Inv X ZY σ (upd H a (.dK (Ar kvs k))) s'->RelV v w'->Q w' s'):V2 (Wb X.prog X.w) A (call (.builtin "dict.pop") (.ref a::u::more)) Q E s:=by
 obtain⟨z,hd,vs,rel,dd⟩:=PK I.hok e;obtain⟨w',hw,rw'⟩:=vC.some_of (v:=v) (o:=abS vs k) (by rw[← l];exact rel.val k);have hp:(keyPart u).isSome=true:=by
  cases k with
  | inl i=>obtain⟨t,q⟩:=(show ∃ t,u=YT i t from ry);subst q;rfl
  | inr x=>obtain⟨t,q⟩:=(show ∃ t,u=abW x t from ry);subst q;rfl
 have ha:aa2 "dict.pop" ⟨.ref a::u::more,[]⟩:=by
  rcases hm with q | ⟨x,q⟩;{subst q;exact PySem.F.args_dict_pop_2 _ _};{subst q;exact PySem.F.args_dict_pop_3 _ _ _}
 refine call_meetsIn PySem.F.slot_dict_pop dd.typeIs PySem.F.entry_dict_pop ha (meets_dict_pop_there (dH X.prog X.w) a (Ff ry) more hm hp)
  ⟨vs,w',dd,by rw[← rel.length];exact z,hw,fun h' dd' hs=>h w' _ ?_ rw'⟩
 have he:∃ q,h'.get? a=some q:=let ⟨q,_,_,hq,_⟩:=dd';⟨q,hq⟩;exact zH I (by rw[e];exact Za) hs he (G3 (Wn (Ls kvs k) z) hd (rel.drop k) dd')
def TX {Q:DC} (I:Inv X ZY σ H s) (e:Rd H a (.dK kvs)) (h:∀ t s',Inv X ZY σ H s'->Q (.int kvs.length t) s'):V2 (Wb X.prog X.w) A (call (.builtin "len") [.ref a]) Q E s:=by
 obtain⟨z,hd,vs,rel,dd⟩:=yx I.hok e;refine call_len_dict hd dd (by rw[← rel.length];rw[sizeLine_eq] at z;lia) ?_;rw[← rel.length];exact h _ _ (I.tok _)
end
def UJ (i:Expr):Prop:=∀ ov iv,acU i false ov iv=operate [ov,iv] (abT ov iv)
def Qv {prog:Wi}{w:Wy}{A:WM}{E:DC}{s:VL}{env:Env}{value slice:Expr}{pos:ZX}{T id:String}{Q:DC}
  (hl:abu (.type T) "__getitem__" = pure (some (.builtin id))) (hs:UJ slice)
  (h:V2 (Wb prog w) A (Xw value env) (fun o s₁=>V2 (Wb prog w) A (Xw slice env) (fun i s₂=>s₂.TypeIs o T/\V2 (Wb prog w) A (abT o i) Q E s₂) E s₁) E s) :
  V2 (Wb prog w) A (Xw (.Subscript value slice pos) env) Q E s:=by
 refine Subscript_ (W7 h (fun o s₁ h₁=>W7 h₁ (fun i s₂ h₂=>?_) fun _ _ x=>x) fun _ _ x=>x);obtain⟨hT,h₂⟩:=h₂;unfold ab7;refine VG ?_;rw[getitemInPython_of_ne hT.not_modules];refine VG (aaL hT hl ?_);have fin:V2 (Wb prog w) A (acU slice false o i) (fun r s₃=>V2 (Wb prog w) A (letTemporaryGo value o r >>= fun _=>pure r) Q E s₃) E s₂:=by
  rw[hs o i];exact wpAny_operating (W7 h₂ (fun r s₃ h₃=>VG (wpAny_letTemporaryGo (VM h₃))) fun _ _ x=>x)
 first
  | exact VM (VG fin)
  | exact VG (VM (VG fin))
  | exact VG fin
def zO {X:Cx} {ZY:Do} {σ:St} {H:Hp} {s:VL} {a:Addr} {y:V} {o:Option V} (I:Inv X ZY σ H s) (g:uf H a y o):s.TypeIs (.ref a) "dict":=by
 rcases g with⟨kvs,k,e,_,_⟩ | ⟨kvs,k,b,e,_,_,_⟩;{obtain⟨_,_,vs,_,dd⟩:=yx I.hok e;exact dd.typeIs};{obtain⟨_,_,xs,_,dd⟩:=Ep I.hok e;exact dd.typeIs}
def Ut (td ty:TE):TE:=fun σ H Q=>td σ H fun x H1=>ty σ H1 fun y H2=>∃ a v,x = .ref a/\uf H2 a y (some v)/\Q v H2
def Vg (ty td:TE):TE:=fun σ H Q=>ty σ H fun y H1=>td σ H1 fun x H2=>∃ a o,x = .ref a/\uf H2 a y o/\Q (.bl o.isSome) H2
def Ot (ty td:TE):TE:=fun σ H Q=>ty σ H fun y H1=>td σ H1 fun x H2=>∃ a o,x = .ref a/\uf H2 a y o/\Q (.bl (!o.isSome)) H2
def Uq (td ty tv:TE):TS:=fun D σ H=>tv σ H fun v H1=>td σ H1 fun x H2=>ty σ H2 fun y H3=>∃ a H4,x = .ref a/\Ph H3 a y v H4/\D.nx σ H4
section
variable {X:Cx}{o i e value:Expr}{pos pos' tpos:ZX}{td ty tv:TE}
def lC (hu:X.A.units+1 < cLine)(ho:PE X o td)(hi:PE X i ty)(hs:UJ i):PE X (.Subscript o i pos) (Ut td ty):=by
 intro ZY s σ H Q I h;refine Qv PySem.F.slot_dict_getitem.lookup hs (thn (ho ZY s σ H _ I h) fun u s1 ⟨x,H1,I1,rx,q1⟩=>thn (hi ZY s1 σ H1 _ I1 q1) fun iv s2 ⟨y,H2,I2,ry,a,v,ex,g,q2⟩=>?_);subst ex;obtain rfl:u=We a:=rx;exact⟨zO I2 g,Gh hu I2 g ry fun w' s3 I3 rw'=>⟨v,H2,I3,rw',q2⟩⟩
def R7 (hu:X.A.units+1 < cLine)(hi:PE X i ty)(ho:PE X o td):PC X .In i o (Vg ty td):=by
 intro ZY s σ H Q I h;refine thn (hi ZY s σ H _ I h) fun iv s1 ⟨y,H1,I1,ry,q1⟩=>thn (ho ZY s1 σ H1 _ I1 q1) fun u s2 ⟨x,H2,I2,rx,a,ov,ex,g,q2⟩=>?_;subst ex;obtain rfl:u=We a:=rx;exact VB hu I2 g ry fun s3 I3=>⟨.bl ov.isSome,H2,I3,U,q2⟩
def HN (hu:X.A.units+1 < cLine)(hi:PE X i ty)(ho:PE X o td):PC X .NotIn i o (Ot ty td):=by
 intro ZY s σ H Q I h;refine thn (hi ZY s σ H _ I h) fun iv s1 ⟨y,H1,I1,ry,q1⟩=>thn (ho ZY s1 σ H1 _ I1 q1) fun u s2 ⟨x,H2,I2,rx,a,ov,ex,g,q2⟩=>?_;subst ex;obtain rfl:u=We a:=rx;exact Qj hu I2 g ry fun s3 I3=>⟨.bl (!ov.isSome),H2,I3,U,q2⟩
def Ae (hu:X.A.units+1 < cLine)(ho:PE X o td)(hi:PE X i ty)(hv:PE X value tv)(hs:aaV value (some (.Subscript o i pos')) pos.line X.env=pure false) :
  PS X (.Assign [.Subscript o i pos'] value pos) (Uq td ty tv):=by
 intro ZY s σ H D I h;refine wpAny_Assign_Subscript (thn (hv ZY s σ H _ I h) fun r s1 ⟨v,H1,I1,rv,q1⟩=>thn (ho ZY s1 σ H1 _ I1 q1) fun u s2 ⟨x,H2,I2,rx,q2⟩=>thn (hi ZY s2 σ H2 _ I2 q2) fun iv s3 ⟨y,H3,I3,ry,a,H4,ex,g,q3⟩=>?_) hs;subst ex;obtain rfl:u=We a:=rx;exact Jr hu I3 g ry rv fun s4 I4=>⟨σ,H4,I4,q3⟩
end
def Kd {P:Wi}{w:Wy}{H:Hp}(h:WT)(hb:ZR < h.objs.size):dU P w H (h.push { cls:=.type "dict",data:=.dict #[] }) h.objs.size (.dK []) :=
 ⟨Wz _,beq_eq_false_iff_ne.mpr (XQ (Wh hb)),[],.nil,Heap.DictOf.new h⟩
def RQ:TE:=fun _ H Q=>∀ p,H p=none->Q (.ref p) (upd H p (.dK []))
section
variable {X:Cx}{pos:ZX}
def Cr:PE X (.Dict [] [] pos) RQ:=fun ZY s σ H Q I h =>
 wpAny_Dict_empty ⟨.ref s.heap.objs.size,_,I.laid (a:=s.heap.objs.size) (o:=.dK []) (t':=s.toks) (fun _ _ q=>VJ _ q) (VP _) (Kd s.heap I.big),U,h _ (I.hok.fresh (VP _))⟩
end
structure M1 (X:Cx)(o:Expr)(m:Wt)(apos:ZX)(e:Expr)(cpos:ZX):Prop where
 base:aaC o m X.env (Xw o X.env)=Xw o X.env
 few:((Yk cpos (Wg [e] X.env)).all (fun x=>!x.1) && (aaG cpos (Zm [] X.env)).all (fun x=>x.1.isSome)
  && decide (([e]:DO).length+([]:DF).length+(if ([]:DF).isEmpty then 0 else 1) < 30))=true
 line:(apos.endLine == cpos.line)=true
 trees:Yk cpos (Wg [e] X.env)=[(false,Xw e X.env)]
def IsD (H:Hp)(a:Addr):Prop:=(∃ kvs,Rd H a (.dK kvs))∨∃ kvs,Rd H a (.dT kvs)
def SQ {X:Cx}{ZY:Do}{σ:St}{H:Hp}{s:VL}{a:Addr}(I:Inv X ZY σ H s)(d:IsD H a) :
  s.TypeIs (.ref a) "dict"/\(∀ b,We a = .ref b->∃ ob,s.heap.get? b=some ob/\ob.dict=none)/\(a == ZR)=false:=by
 rcases d with⟨kvs,e⟩ | ⟨kvs,e⟩;{obtain⟨_,hd,vs,_,dd⟩:=yx I.hok e;refine⟨dd.typeIs,fun b q=>?_,hd⟩;cases q;obtain⟨ob,_,_,h1,h2,_⟩:=dd;exact⟨ob,h1,h2.2.1⟩};{obtain⟨_,hd,xs,_,dd⟩:=Ep I.hok e;refine⟨dd.typeIs,fun b q=>?_,hd⟩;cases q;obtain⟨ob,_,_,h1,h2,_⟩:=dd;exact⟨ob,h1,h2.2.1⟩}
section
variable {X:Cx}{ZY:Do}{σ:St}{H:Hp}{s:VL}{a:Addr}{y d:V}{u r:Value}{o:Option V}{A:WM}{E:DC}
end
def Rj (td ty:TE):TE:=fun σ H Q=>td σ H fun x H1=>∃ a,x = .ref a/\IsD H1 a/\ty σ H1 fun y H2=>∃ kvs k v,H2 a=some (.dK kvs)/\y=kV k/\tQ kvs k=some v/\Q v (upd H2 a (.dK (Ar kvs k)))
section
variable {X:Cx}{o e f:Expr}{apos cpos:ZX}{td ty tx:TE}
def JM (ho:PE X o td) (he:PE X e ty) (m:M1 X o "pop" apos e cpos):PE X (.Call (.Attribute o "pop" apos) [e] [] cpos) (Rj td ty):=by
 intro ZY s σ H Q I h;refine wpAny_Call_method m.base m.few m.line PySem.F.plainAttrs_dict PySem.F.slot_dict_pop PySem.F.type_dict_pop (thn (ho ZY s σ H _ I h) fun u s1 ⟨x,H1,I1,rx,a,ex,d,q1⟩=>?_);subst ex;obtain rfl:u=We a:=rx;obtain⟨t1,t2,_⟩:=SQ I1 d;refine⟨t1,t2,?_⟩;rw[m.trees];refine Calls.callWith_builtin U (Calls.evalArgs_plain (acg (thn (he ZY s1 σ H1 _ I1 q1) fun iv s2 ⟨y,H2,I2,ry,kvs,k,v,ea,ey,l,q2⟩=>acD ?_)));subst ey;exact Uo I2 ea ry l (.inl U) fun w' s3 I3 rw'=>⟨v,_,I3,rw',q2⟩
end
section
variable {X:Cx}{ZY:Do}{σ:St}{H:Hp}{s:VL}{a:Addr}{kvs:List (Key × V)}{A:WM}{E:DC}
def J4 {Q:DC} (I:Inv X ZY σ H s) (e:Rd H a (.dK kvs)) (h:∀ p s',H p=none->Inv X ZY σ (upd H p (.dK kvs)) s'->Q (.ref p) s'):V2 (Wb X.prog X.w) A (call (.type "dict") [.ref a]) Q E s:=by
 obtain⟨z,hd,vs,rel,dd⟩:=yx I.hok e;refine kt_call_dict hd dd (by rw[← rel.length];exact z) fun h' dd' hs=>?_;refine h _ _ (I.hok.fresh (VP _)) (I.laid (a:=s.heap.objs.size) (o:=.dK kvs) (t':=s.toks) (fun b q hq=>?_) (VP _) (G3 z (beq_eq_false_iff_ne.mpr (XQ (Wh I.big))) rel dd'));exact (hs.2 b (Wh (V9 hq))).trans (VJ _ hq)
end
section
variable {X:Cx}{ZY:Do}{σ:St}{H:Hp}{s:VL}{a:Addr}{y:V}{u:Value}{A:WM}{E:DC}
end
def iD.jF {k:Nat}{A:WM}(r:iD k A):A.units+1 < cLine:=by have:=r.un;lia
section
variable {X:Cx}{ZY:Do}{σ:St}{H:Hp}{s:VL}{a b:Addr}{v:V}{r:Value}{A:WM}{E:DC}
end
inductive HasDef (K:V8)(x:Wt)(st:Stmt)(f:Addr):Prop where
 | mk {od an:DH} {sl:Array (DE)} {oc kV dc pm cd ct:Value} (a:PySem.W.nsIn K Wm x=some (some (.ref f))) (l:K.lookup f=some ⟨oc,od,.func (Z6 x x (d7 st) (cZ st) (aA st) .none kV dc pm an cd ct),sl⟩) (c:aa3 K cd x=true) (k:Yb K (.ref f)=true):HasDef K x st f
section
variable {P:Wi}{w:Wy}{K:Ww}{mg:Wt->Option Value}{base h:WT}{x:Wt}{st:Stmt}{f:Addr}{ps:List Wt}{sp:Sp}{k:Nat}
def HasDef.name (q:HasDef K x st f)(X:K.In h)(G:h.Ns Wm mg):mg x=some (.ref f):=by
 obtain⟨a,l,c,k⟩:=q;exact abh X G a
def HasDef.df (q:HasDef K x st f)(X:K.In h)(G:h.Ns Wm mg)(hb:∀ fd,Fun K x x st f fd->Binds K fd ps [])(ok:∀ fd,Fun K x x st f fd->bh P w K mg base CX0 k f fd ps sp):Df P w K mg base x k ps sp:=by
 obtain⟨a,l,c,k⟩:=q;have F:=sU l c k;exact⟨⟨_,_,ok _ F,abh X G a,k,hb _ F⟩⟩
def HasDef.law {y:Wt}(q:HasDef K x st f)(hb:∀ (kV dc pm:Value) (an:DH) (cd ct:Value) (s:VL) (v:Value),abX s (W.fnOf x x (d7 st) (cZ st) (aA st) .none kV dc pm an cd ct) ⟨[v],[]⟩ [(y,v)]):∃ fd,Fun K x x st f fd/\∀ (s:VL) (v:Value),abX s fd ⟨[v],[]⟩ [(y,v)]:=by
 obtain⟨a,l,c,k⟩:=q;exact⟨_,sU l c k,hb _ _ _ _ _ _⟩
theorem Fl {α:Type}:∀ {us:List α},us.length=1->∃ x0,us=[x0]
 | [x0],_=>⟨x0,U⟩
theorem QX {α:Type}:∀ {us:List α},us.length=2->∃ x0 x1,us=[x0,x1]
 | [x0,x1],_=>⟨x0,x1,U⟩
theorem Ux {α:Type}:∀ {us:List α},us.length=3->∃ x0 x1 x2,us=[x0,x1,x2]
 | [x0,x1,x2],_=>⟨x0,x1,x2,U⟩
theorem Vu {α:Type}:∀ {us:List α},us.length=4->∃ x0 x1 x2 x3,us=[x0,x1,x2,x3]
 | [x0,x1,x2,x3],_=>⟨x0,x1,x2,x3,U⟩
theorem U3 {α:Type}:∀ {us:List α},us.length=5->∃ x0 x1 x2 x3 x4,us=[x0,x1,x2,x3,x4]
 | [x0,x1,x2,x3,x4],_=>⟨x0,x1,x2,x3,x4,U⟩
def bind1 {q a0:Wt}(h:∀ (kV doc pm:Value) (an:DH) (cdv ct x0:Value),abL (W.fnOf x q (d7 st) (cZ st) (aA st) .none kV doc pm an cdv ct) ⟨[x0],[]⟩=pure [(a0,x0)]:=by intros;rfl):∀ fd,Fun K x q st f fd->Binds K fd [a0] []:=fun _ F=>F.binds fun kV doc pm an cdv ct us hl=>by
 obtain⟨x0,rfl⟩:=Fl hl;exact h kV doc pm an cdv ct x0
def bG {q a0 a1:Wt}(h:∀ (kV doc pm:Value) (an:DH) (cdv ct x0 x1:Value),abL (W.fnOf x q (d7 st) (cZ st) (aA st) .none kV doc pm an cdv ct) ⟨[x0,x1],[]⟩=pure [(a0,x0),(a1,x1)]:=by intros;rfl):∀ fd,Fun K x q st f fd->Binds K fd [a0,a1] []:=fun _ F=>F.binds fun kV doc pm an cdv ct us hl=>by
 obtain⟨x0,x1,rfl⟩:=QX hl;exact h kV doc pm an cdv ct x0 x1
def fJ {q a0 a1 a2:Wt}(h:∀ (kV doc pm:Value) (an:DH) (cdv ct x0 x1 x2:Value),abL (W.fnOf x q (d7 st) (cZ st) (aA st) .none kV doc pm an cdv ct) ⟨[x0,x1,x2],[]⟩=pure [(a0,x0),(a1,x1),(a2,x2)]:=by intros;rfl):∀ fd,Fun K x q st f fd->Binds K fd [a0,a1,a2] []:=fun _ F=>F.binds fun kV doc pm an cdv ct us hl=>by
 obtain⟨x0,x1,x2,rfl⟩:=Ux hl;exact h kV doc pm an cdv ct x0 x1 x2
def Jf {q a0 a1 a2 a3:Wt}(h:∀ (kV doc pm:Value) (an:DH) (cdv ct x0 x1 x2 x3:Value),abL (W.fnOf x q (d7 st) (cZ st) (aA st) .none kV doc pm an cdv ct) ⟨[x0,x1,x2,x3],[]⟩=pure [(a0,x0),(a1,x1),(a2,x2),(a3,x3)]:=by intros;rfl):∀ fd,Fun K x q st f fd->Binds K fd [a0,a1,a2,a3] []:=fun _ F=>F.binds fun kV doc pm an cdv ct us hl=>by
 obtain⟨x0,x1,x2,x3,rfl⟩:=Vu hl;exact h kV doc pm an cdv ct x0 x1 x2 x3
def Rk {q a0 a1 a2 a3 a4:Wt}(h:∀ (kV doc pm:Value) (an:DH) (cdv ct x0 x1 x2 x3 x4:Value),abL (W.fnOf x q (d7 st) (cZ st) (aA st) .none kV doc pm an cdv ct) ⟨[x0,x1,x2,x3,x4],[]⟩=pure [(a0,x0),(a1,x1),(a2,x2),(a3,x3),(a4,x4)]:=by intros;rfl):∀ fd,Fun K x q st f fd->Binds K fd [a0,a1,a2,a3,a4] []:=fun _ F=>F.binds fun kV doc pm an cdv ct us hl=>by
 obtain⟨x0,x1,x2,x3,x4,rfl⟩:=U3 hl;exact h kV doc pm an cdv ct x0 x1 x2 x3 x4
end
structure Dm2 (P:Wi)(w:Wy)(K:V8)(mg:Wt->DE)(base:WT)(C:Addr)(m:Wt)(k:Nat)(ps:D0)(sp:Sp):Prop where
 ex:∃ (f:Addr) (fd:Xp),bh P w K mg base CX0 k f fd ps sp/\Cls K C/\Meth K C m f/\Binds K fd ps []
structure Dk2 (P:Wi)(w:Wy)(K:V8)(mg:Wt->DE)(base:WT)(x:Wt)(C:Addr)(k:Nat)(ps:D0)(sp:Sp):Prop where
 ex:∃ (f:Addr) (fd:Xp),bh P w K mg base CX0 k f fd ps sp/\Mk K C f/\mg x=some (.ref C)/\Binds K fd ps []
section
variable {X:Cx}{k j:Nat}{x m:Wt}{C:Addr}{ps:D0}{sp:Sp}{p pos apos:ZX}{o e:Expr}{es:DO}{to:TE}{t:TA}{f:Wt}
def Dl {pl:Sem Bool}(D:Dm2 X.prog X.w X.K X.mg X.base C m k ps sp)(hr:iD j X.A)(ho:PE X o to)(ha:PA X (e::es) t)(hk:k<=j:=by first | decide | exact VP _ | lia)
  (hst:Wg (e::es) X.env=(false,Xw e X.env)::Wg es X.env:=by rfl) (hpl:(Yk pos (Wg es X.env)).any (·.1)=false:=by rfl)
  (ht:Xw (.Call (.Attribute o m apos) (e::es) [] pos) X.env=(do
   let ov ← Xw o X.env
   ZG apos.atName
   let (f,first) ← Z4 [ov] (aap ov m pl)
   abo pos f first (Yk pos (Wg (e::es) X.env)) (aaG pos (Zm [] X.env))):=by rfl) :
  PE X (.Call (.Attribute o m apos) (e::es) [] pos) (DK C m sp [] E0 to t):=by
 obtain⟨f,fd,F,c,hm,hb⟩:=D.ex;exact Js ho c hm F (hr.mono hk) hb .nil nF ha hst hpl ht
def RT {pl:Sem Bool}(D:Dm2 X.prog X.w X.K X.mg X.base C m k ps sp)(hr:iD j X.A)(ho:PE X o to)(hk:k<=j:=by first | decide | exact VP _ | lia)
  (ht:Xw (.Call (.Attribute o m apos) [] [] pos) X.env=(do
   let ov ← Xw o X.env
   ZG apos.atName
   let (f,first) ← Z4 [ov] (aap ov m pl)
   abo pos f first (Yk pos (Wg [] X.env)) (aaG pos (Zm [] X.env))):=by rfl) :
  PE X (.Call (.Attribute o m apos) [] [] pos) (DK C m sp [] E0 to Di):=by
 obtain⟨f,fd,F,c,hm,hb⟩:=D.ex;exact Dd ho c hm F (hr.mono hk) hb .nil nF ht
def En (D:Dk2 X.prog X.w X.K X.mg X.base x C k ps sp)(hr:iD j X.A)(ha:PA X (e::es) t)(hk:k+1<=j:=by first | decide | exact VP _ | lia)(hg:Gl X x:=by rfl)
  (hdb:(x == ("__debug__" : Wt))=false:=by decide) (he:Wg (e::es) X.env=(false,Xw e X.env)::Wg es X.env:=by rfl) (hpl:(Yk pos (Wg es X.env)).any (·.1)=false:=by rfl) :
  PE X (.Call (.Name x p) (e::es) [] pos) (Lj C sp [] E0 t):=by
 obtain⟨f,fd,F,M,hm,hb⟩:=D.ex;exact QJ M F (hr.mono hk) hg hm hb .nil nF ha hdb he hpl
def MN (D:Dk2 X.prog X.w X.K X.mg X.base x C k ps sp)(hr:iD j X.A)(hk:k+1<=j:=by first | decide | exact VP _ | lia)(hg:Gl X x:=by rfl)
  (hdb:(x == ("__debug__" : Wt))=false:=by decide):PE X (.Call (.Name x p) [] [] pos) (Lj C sp [] E0 Di):=by
 obtain⟨f,fd,F,M,hm,hb⟩:=D.ex;exact JV M F (hr.mono hk) hg hm hb .nil nF hdb
def o9 (K:Ww)(hK:X.K=K)(he:PE X e to)(hb:aaC e f X.env (Xw e X.env)=Xw e X.env:=by rfl):PE X (.Attribute e f pos) (Us K to f):=by
 subst hK;exact Sw he hb
end
section
variable {prog:Wi}{w:Wy}{A:WM}{E:DC}{s:VL}
def Lz {t:Addr}{zs:DJ}{R:DJ->VL->Prop}(ht:s.heap.IsTuple t zs.toArray)(hz:zs.length<=sizeLine)
  (k:R zs { s with heap:=(s.heap.push (aaN "list" #[] 0)).update s.heap.objs.size (Zt (·++zs.toArray)) }):V2 (Wb prog w) A (collect (.ref t)) R E s:=by
 obtain⟨o,ho,hc,m,hd⟩:=id ht;have old:(s.heap.push (aaN "list" #[] 0)).get? t=some o:=VJ _ ho;have new:(s.heap.push (aaN "list" #[] 0)).get? s.heap.objs.size=some (aaN "list" #[] 0):=V5 _ U;unfold collect;apply VG;apply wpAny_runValue;apply Yg entry_proto_collect';apply VG (m:=ada []);refine ab5 ?_;apply VM;refine⟨aa7 _ (by decide+kernel),?_⟩;apply Yg entry_list_iadd';show V2 _ _ (ZP _ _ _) _ _ _;unfold ZP;apply VG;refine acj (T:="tuple") ⟨o,old,hc⟩ ?_;rw[if_pos (by rw[show (Y9 "tuple" == Y9 "tuple")=true from U];simp)];apply VG;apply listItems_at old hd;apply VG;apply listItems_at (xs:=#[]) (n:=0) new U;rw[if_neg (by simp)];apply VG;refine listUpdate_at (xs:=#[]) (n:=0) new U ?_ (Wz _) ?_
 ·apply VM;apply VG (m:=load s.heap.objs.size);apply wpAny_load (get?_update_seq new _);show V2 _ _ (pure ((#[]:Array Value)++zs.toArray).toList) R E _;have e:((#[]:Array Value)++zs.toArray).toList=zs:=by simp
  rw[e];exact VM k
 ·have e:((#[]:Array Value)++zs.toArray).size=zs.length:=by simp
  show ((#[]:Array Value)++zs.toArray).size<=sizeLine+1;rw[e];exact Nat.le_succ_of_le hz
def Du {t:Addr}{zs:DJ}{ns:DU}{R:DC}(ht:s.heap.IsTuple t zs.toArray)(hi:Xm zs ns)(h64:zs.length < 64)
  (k:∀ (out:Array Value) (ms:DU),Xm out.toList ms->ms.Perm ns->ms.Pairwise (·<=·)->R (.ref (s.heap.objs.size+1)) { s with heap:=sortedAll s.heap zs out }):V2 (Wb prog w) A (call (.builtin "sorted") [.ref t]) R E s:=by
 apply aa9 kind_sorted plain_sorted entry_sorted (args_sorted1 _);unfold Ze.«sorted»;apply VG (m:=checkCount "sorted" 1 1 _);apply VM;apply VG;apply Lz ht (Yi (aat h64 (by decide)));apply VG;refine ab5 ?_ (hsz:=Yi (aat h64 (by decide)));generalize eg:(s.heap.push (aaN "list" #[] 0)).update s.heap.objs.size (Zt (·++zs.toArray))=g;have hg:g.objs.size=s.heap.objs.size+1:=by rw[← eg,Heap.size_update,size_push']
 have top:(g.push (aaN "list" zs.toArray 0)).get? (s.heap.objs.size+1)=some (aaN "list" zs.toArray 0):=by
  rw[← hg];exact V5 _ U
 show V2 _ _ _ _ _ { s with heap:=g.push (aaN "list" zs.toArray 0) };rw[hg];apply VG;apply XR;refine Xd slot_list_sort ⟨_,top,U⟩ ac0 ?_ (args_list_sort _);{refine list_sort_tree top hi h64 fun out ms a1 a2 a3=>⟨_,U,?_⟩;have:=k out ms a1 a2 a3;unfold sortedAll at this;rw[eg] at this;exact VM ⟨_,U,this⟩}
end
section
variable {X:Cx}
inductive M8 (K:Ww)(xs:List V)(H:Hp)(Q:VK):Prop where
 | mk (p:Addr) (ns:DU) (_:xs=[.ref p]) (_:SqT K H p (ns.map V.int)) (_:ns.length < 64) (_:∀ ms:DU,ms.Perm ns->ms.Pairwise (·<=·)->∀ l,H l=none->Q (.ref l) (upd H l (.lst (ms.map V.int))))
def Ei:gj X (.builtin "sorted") (M8 X.K):=by
 intro ZY s σ H xs us Q I r h;obtain⟨p,ns,rfl,hq,h64,q⟩:=h;obtain⟨u,rfl,ru⟩:=vals1 r;cases ru;obtain⟨its,rv,pl,hz⟩:=I.tuple hq;have hi:Xm its ns:=intsAre_of rv;refine Du pl hi (by have:=hi.length;lia) fun out ns' a1 a2 a3=>?_;obtain⟨e,he⟩:=sortedAll_at s.heap its out;have hml:(ns'.map V.int).length<=sizeLine:=by
  rw[VH,a2.length_eq];exact Yi (V4 h64 (by decide))
 exact⟨.ref _,_,I.JN U U (fun _ _=>sortedAll_old) (Xx _) (iM a1) hml he,U,q ns' a2 a3 _ (I.hok.fresh (Xx _))⟩
end
inductive jE (K:V8)(x:Wt)(C:Addr):Prop where
 | mk (a:PySem.W.nsIn K Wm x=some (some (.ref C))) (pg:aaB K C Str.empty=true) (hd:ZJ K C=true) (po:acr K C=true) (sa:Xo K (.ref C) "__setattr__" = some (some (.builtin "object.__setattr__"))) (ms:ac1 K C=true) (kp:Yb K (.ref C)=true):jE K x C
inductive cF (K:V8)(C:Addr)(m q:Wt)(st:Stmt)(f:Addr):Prop where
 | mk {od an:DH} {sl:Array (DE)} {oc kV dc pm cd ct:Value} (a:Xo K (.ref C) m=some (some (.ref f))) (fn:acu K (.ref f)=true) (l:K.lookup f=some ⟨oc,od,.func (Z6 m q (d7 st) (cZ st) (aA st) .none kV dc pm an cd ct),sl⟩) (c:aa3 K cd q=true) (k:Yb K (.ref f)=true):cF K C m q st f
section
variable {P:Wi}{w:Wy}{K:Ww}{mg:Wt->Option Value}{base h:WT}{x m q:Wt}{st:Stmt}{C f:Addr}{ps:List Wt}{sp:Sp}{k:Nat}
def jE.cl (c:jE K x C):Cls K C:=by
 obtain⟨_,pg,hd,po,sa,_,_⟩:=c;exact⟨pg,hd,po,sa⟩
def cF.dm (o:cF K C m q st f)(c:jE K x C)(hb:∀ fd,Fun K m q st f fd->Binds K fd ps [])(ok:∀ fd,Fun K m q st f fd->bh P w K mg base CX0 k f fd ps sp):Dm2 P w K mg base C m k ps sp:=by
 obtain⟨a,fn,l,cd,k⟩:=o;have F:=sU l cd k;exact⟨⟨_,_,ok _ F,c.cl,⟨a,fn,k⟩,hb _ F⟩⟩
def cF.dk (o:cF K C "__init__" q st f) (c:jE K x C) (X:K.In h) (G:h.Ns Wm mg) (hb:∀ fd,Fun K "__init__" q st f fd->Binds K fd ps []) (ok:∀ fd,Fun K "__init__" q st f fd->bh P w K mg base CX0 k f fd ps sp):Dk2 P w K mg base x C k ps sp:=by
 obtain⟨a,fn,l,cd,k⟩:=o;obtain⟨n,_,_,_,_,ms,kp⟩:=c;have F:=sU l cd k;exact⟨⟨_,_,ok _ F,⟨ms,a,fn,kp⟩,abh X G n,hb _ F⟩⟩
end
structure Dmx (P:Wi)(w:Wy)(K:V8)(mg:Wt->DE)(base:WT)(C:Addr)(m:Wt)(k:Nat)(ps:D0)(sp:Sp):Prop where
 ex:∃ (f:Addr) (fd:Xp),bh P w K mg base (XL P w) k f fd ps sp/\Cls K C/\Meth K C m f/\Binds K fd ps []
section
variable {X:Cx}{k j:Nat}{m:Wt}{C:Addr}{ps:D0}{sp:Sp}{pos apos:ZX}{o e:Expr}{es:DO}{to:TE}{t:TA}{E:XK}
def uP {pl:Sem Bool}(D:Dmx X.prog X.w X.K X.mg X.base C m k ps sp)(hr:iD j X.A)(hx:Passes (XL X.prog X.w) X E)(ho:PE X o to)(ha:PA X (e::es) t)(hk:k<=j:=by first | decide | exact VP _ | lia)
  (hst:Wg (e::es) X.env=(false,Xw e X.env)::Wg es X.env:=by rfl) (hpl:(Yk pos (Wg es X.env)).any (·.1)=false:=by rfl)
  (ht:Xw (.Call (.Attribute o m apos) (e::es) [] pos) X.env=(do
   let ov ← Xw o X.env
   ZG apos.atName
   let (f,first) ← Z4 [ov] (aap ov m pl)
   abo pos f first (Yk pos (Wg (e::es) X.env)) (aaG pos (Zm [] X.env))):=by rfl) :
  PE X (.Call (.Attribute o m apos) (e::es) [] pos) (DK C m sp [] E to t):=by
 obtain⟨f,fd,F,c,hm,hb⟩:=D.ex;exact Js ho c hm F (hr.mono hk) hb .nil hx ha hst hpl ht
def Og {pl:Sem Bool}(D:Dmx X.prog X.w X.K X.mg X.base C m k ps sp)(hr:iD j X.A)(hx:Passes (XL X.prog X.w) X E)(ho:PE X o to)(hk:k<=j:=by first | decide | exact VP _ | lia)
  (ht:Xw (.Call (.Attribute o m apos) [] [] pos) X.env=(do
   let ov ← Xw o X.env
   ZG apos.atName
   let (f,first) ← Z4 [ov] (aap ov m pl)
   abo pos f first (Yk pos (Wg [] X.env)) (aaG pos (Zm [] X.env))):=by rfl) :
  PE X (.Call (.Attribute o m apos) [] [] pos) (DK C m sp [] E to Di):=by
 obtain⟨f,fd,F,c,hm,hb⟩:=D.ex;exact Dd ho c hm F (hr.mono hk) hb .nil hx ht
end
section
variable {P:Wi}{w:Wy}{K:Ww}{mg:Wt->Option Value}{base h:WT}{x m q:Wt}{st:Stmt}{C f:Addr}{ps:List Wt}{sp:Sp}{k:Nat}
def cF.dmx (o:cF K C m q st f)(c:jE K x C)(hb:∀ fd,Fun K m q st f fd->Binds K fd ps [])(ok:∀ fd,Fun K m q st f fd->bh P w K mg base (XL P w) k f fd ps sp):Dmx P w K mg base C m k ps sp:=by
 obtain⟨a,fn,l,cd,k⟩:=o;have F:=sU l cd k;exact⟨⟨_,_,ok _ F,c.cl,⟨a,fn,k⟩,hb _ F⟩⟩
def HasDef.dx (q:HasDef K x st f)(X:K.In h)(G:h.Ns Wm mg)(hb:∀ fd,Fun K x x st f fd->Binds K fd ps [])(ok:∀ fd,Fun K x x st f fd->bh P w K mg base (XL P w) k f fd ps sp):Dx P w K mg base x k ps sp:=by
 obtain⟨a,l,c,k⟩:=q;have F:=sU l c k;exact⟨⟨_,_,ok _ F,abh X G a,k,hb _ F⟩⟩
end
section
variable {X:Cx}
end
inductive dN (K:V8)(x q:Wt)(C fi:Addr)(st:Stmt)(bm:DJ):Prop where
 | mk {nm qn:Wt} {N:Addr} {bs sub:DJ} {hdct ab:Bool} {sn:D0} {col:DI} {dd odi ani:DH} {k0 k1 k2 k3 k5:DE} {cd:ClassData} {sli:Array (DE)} {oci kVi dci pmi cdi cti:Value}
  (ac:Yu K Wm x=some (some (.ref C))) (oc:K.lookup C=some (Zn nm qn C N bs bm hdct sn sub ab col dd k0 k1 k2 k3 k5 "ValueError.__new__")) (ve:Td bm) (ic:ZS K (.ref C) "__init__" = some (some (.ref fi))) (tc:W.typeIn K (.ref fi)=some (.type "function")) (pc:W.keepIn K (.ref C)=true)
  (sc:ZS K (.ref C) "__setattr__" = some (some (.builtin "object.__setattr__"))) (dc:W.clsIn K C=some cd) (uc:wI cd.mro=true) (hc:cd.hasDict=true) (kc:W.takerIn K C "word" = some none) (gc:ZS K (.ref C) "__getattribute__" = some (some (.builtin "BaseException.__getattribute__")))
  (gh:ZS K (.ref C) "__getattr__" = some none) (nc:ZS K (.ref C) "word" = some none) (li:K.lookup fi=some ⟨oci,odi,.func (W.fnOf "__init__" q (d7 st) (cZ st) (aA st) .none kVi dci pmi ani cdi cti),sli⟩) (ci:W.codeIn K cdi q=true) (ki:W.keepIn K (.ref fi)=true):dN K x q C fi st bm
section
variable {K:Ww}{mg:Wt->DE}{h:WT}{x q x' q':Wt}{C fi C' fi' f c T:Addr}{st st':Stmt}{bm bm':DJ}
def dN.name (o:dN K x q C fi st bm)(X:K.In h)(G:h.Ns Wm mg):mg x=some (.ref C):=by
 obtain⟨ac⟩:=o;exact abh X G ac
def dN.Np (o:dN K x q C fi st bm):J0 K C fi "word":=by
 obtain⟨ac,oc,ve,ic,tc,pc,sc,dc,uc,hc,kc⟩:=o;exact⟨⟨_,_,_,_,_,_,_,_,_,_,_,_,_,_,_,_,oc,ve⟩,ic,tc,pc,sc,⟨_,dc,uc,hc⟩,kc⟩
def dN.fn (o:dN K x q C fi st bm):∃ fd,Fun K "__init__" q st fi fd:=by
 obtain⟨_,_,_,_,_,_,_,_,_,_,_,_,_,_,li,ci,ki⟩:=o;exact⟨_,sU li ci ki⟩
def dN.kp (o:dN K x q C fi st bm):W.keepIn K (.ref fi)=true:=by
 obtain⟨_,_,_,_,_,_,_,_,_,_,_,_,_,_,_,_,ki⟩:=o;exact ki
def dN.xrd (o:dN K x q C fi st bm) (b:dN K x' q' C' fi' st' bm') (mr:(We C::bm).contains (.ref C')=true):XRd K C C' "word":=by
 obtain⟨_,oc,_,_,_,_,_,dc,uc,hc,_,gc,gh,nc⟩:=o;obtain⟨_,oc',ve'⟩:=b;exact⟨⟨_,_,_,_,_,_,_,_,_,_,_,_,_,_,_,_,_,oc,mr⟩,⟨_,_,_,_,_,_,_,_,_,_,_,_,_,_,_,_,_,oc',ve'.b⟩,gc,gh,⟨_,dc,uc⟩,by unfold ZJ;rw[dc];exact hc,nc⟩
end
section
variable {X:Cx}
def Um {kvs:List (Key × V)}{vs:List (Key × Value)}(r:KV kvs vs):kvs.map (·.1)=vs.map (·.1):=by
 induction r with
 | nil=>rfl
 | cons h _ ih =>
  rw[WR,WR,ih,h.1]
def Ji {ks:DU}{acc:DJ}(hl:acc.length=ks.length)(h:∀ (j:Nat) (v:Value),acc[j]? = some v->∃ i:Int,ks[j]? = some i/\∃ t,v = .int i t):Xm acc ks:=by
 induction ks generalizing acc with
 | nil =>
  cases acc with
  | nil=>exact .nil
  | cons _ _=>cases hl
 | cons k ks ih =>
  cases acc with
  | nil=>cases hl
  | cons a acc =>
   obtain⟨i,e,t,rfl⟩:=h 0 a U;cases (show some k=some i from e);exact .cons _ _ (ih (Nat.succ.inj hl) fun j v e=>h (j+1) v e)
inductive Bo (xs:List V)(H:Hp)(Q:VK):Prop where
 | mk (p:Addr) (kvs:List (Key × V)) (ns:DU) (_:xs=[.ref p]) (_:H p=some (.dK kvs)) (_:kvs.map (·.1)=ns.map Xf) (_:ns.length < 64) (_:∀ ms:DU,ms.Perm ns->ms.Pairwise (·<=·)->∀ l,H l=none->Q (.ref l) (upd H l (.lst (ms.map V.int))))
def oU (hc:X.calm=true):gj X (.builtin "sorted") Bo:=by
 intro ZY s σ H xs us Q I r h;obtain⟨p,kvs,ns,rfl,hp,hk,h64,q⟩:=h;obtain⟨u,rfl,ru⟩:=vals1 r;cases ru;obtain⟨z,hd,vs,rel,dd⟩:=PK I.hok hp;obtain⟨ep,hat⟩:=dd.dictAt;have ek:=(Um rel).symm.trans hk;have lv:vs.length=ns.length:=by
  have:=congrArg abP ek;rwa [VH,VH] at this
 refine aa9 kind_sorted plain_sorted entry_sorted (args_sorted1 _) ?_;unfold Ze.«sorted»;refine VG (m:=checkCount "sorted" 1 1 _) (VM ?_);refine VG (PySem.W.kdu_collect (A:=X.A.in1) (PySem.W.kdl_dict (knd:=dH X.prog X.w) (kvs:=vs) (ep:=ep) hd) (I.ok.hd hc) hat (by rw[lv];exact Yi (V4 h64 (by decide))) fun h' tk acc hkp hacc=>?_);have I1:Inv X ZY σ H { s with heap:=h',toks:=tk }:=I.kept (t':=tk) hkp;have la:acc.toList.length=ns.length:=by rw[W5];exact hacc.1.trans lv
 have hi:Xm acc.toList ns:=Ji la fun j v e=>by
  obtain⟨k,x,hx,hkv⟩:=hacc.2 j v (by rw[← Xq];exact e);have e1:(vs.map (·.1))[j]? = some k:=by rw[Wf,hx];rfl
  rw[ek,Wf] at e1;cases z:ns[j]? with
  | none=>rw[z] at e1;cases e1
  | some i =>
   rw[z] at e1;cases e1;rcases cD (show z9 (Xf i) v=true from hkv) with⟨i',t,e2,e3⟩ | ⟨x',t,e2,_⟩;{cases e2;exact⟨i,U,t,e3⟩};{cases e2}
 refine VG (ab5 ?_ (by rw[la];exact Yi (V4 h64 (by decide))));have top:(h'.push (aaN "list" acc.toList.toArray 0)).get? h'.objs.size=some (aaN "list" acc.toList.toArray 0):=V5 _ U;show V2 _ _ _ _ _ { s with heap:=h'.push (aaN "list" acc.toList.toArray 0),toks:=tk };apply VG;apply XR;refine Xd slot_list_sort ⟨_,top,U⟩ ac0 ?_ (args_list_sort _);refine list_sort_tree top hi (by rw[la];exact h64) fun out ms a1 a2 a3=>⟨_,U,VM ⟨_,U,?_⟩⟩;obtain⟨e,he⟩:=sortedHeap_at (out:=out) top;have hml:(ms.map V.int).length<=sizeLine:=by
  rw[VH,a2.length_eq];exact Yi (V4 h64 (by decide))
 have old:∀ b o,h'.get? b=some o->(sortedHeap (h'.push (aaN "list" acc.toList.toArray 0)) h'.objs.size acc.toList out).get? b=some o:=fun b o hb=>by
  have hlt:=V9 hb;rw[sortedHeap_old (Wh hlt) (by rw[size_push'];exact WX hlt),Heap.get?_push_ne _ _ _ (Wh hlt)];exact hb
 exact⟨.ref _,_,I1.JN U U old (VP _) (iM a1) hml he,U,q ms a2 a3 _ (I1.hok.fresh (VP _))⟩
inductive Te (xs:List V)(H:Hp)(Q:VK):Prop where
 | mk (a:Addr) (kvs:List (Key × V)) (_:xs=[.ref a]) (_:H a=some (.dK kvs)) (_:Q (.int kvs.length) H)
def DR:gj X (.builtin "len") Te:=by
 intro ZY s σ H xs us Q I r h;obtain⟨a,kvs,rfl,ha,q⟩:=h;obtain⟨u,rfl,ru⟩:=vals1 r;cases ru;exact TX I (.inl ha) fun t s' I'=>⟨.int kvs.length,H,I',⟨t,U⟩,q⟩
inductive Af (xs:List V)(H:Hp)(Q:VK):Prop where
 | mk (a:Addr) (kvs:List (Key × V)) (_:xs=[.ref a]) (_:H a=some (.dK kvs)) (_:∀ p,H p=none->Q (.ref p) (upd H p (.dK kvs)))
def tu:gj X (.type "dict") Af:=by
 intro ZY s σ H xs us Q I r h;obtain⟨a,kvs,rfl,ha,q⟩:=h;obtain⟨u,rfl,ru⟩:=vals1 r;cases ru;exact J4 I (.inl ha) fun p s' hp I'=>⟨.ref p,_,I',U,q p hp⟩
def JF:W6 "dict" = some (.type "dict"):=by decide+kernel
end
def JR (its:DJ):abm its.toArray none none (some 1)=its.toArray:=by
 have h:Y7 none none (some 1) its.toArray.size=(((0:Nat):Int),((its.length:Nat):Int),1):=by
  unfold Y7;simp
 unfold abm;rw[h];simp only[sliceRange_one,pick_run];simp
def zg {α:Type}(s:Int)(xs:List α):List α:=if s=1 then xs else xs.reverse
def rn {α:Type}(s:Int)(xs:List α):(zg s xs).length=xs.length:=by
 unfold zg;split;{rfl};{exact List.length_reverse}
def J8 {s:Int}(h:s=1∨s = -1)(its:DJ):abm its.toArray none none (some s)=(zg s its).toArray:=by
 rcases h with rfl | rfl;{exact JR its};{exact Ka its}
def Vs (K:Ww)(te:TE)(ts:TO):TE:=fun σ H Q=>te σ H fun x H1=>ts σ H1 fun o H2=>∃ (s:Int) (a:Addr) (xs:List V),o=some s/\(s=1∨s = -1)/\x = .ref a/\SqL K H2 a xs/\∀ p,H2 p=none->Q (.ref p) (upd H2 p (.lst (zg s xs)))
def Mr {s:Int}{xs:List V}{us:DJ}(r:Vals xs us):Vals (zg s xs) (zg s us):=by
 unfold zg;split;{exact r};{exact r.reverse}
section
variable {X:Cx}
def Ci {e es:Expr}{te:TE}{ts:TO}{p2 pos:ZX}(he:PE X e te)(hs:PO X (some es) ts):PE X (.Subscript e (.Slice none none (some es) p2) pos) (Vs X.K te ts):=by
 intro ZY s σ H Q I h;refine Subscript_ (thn (he ZY s σ H _ I h) fun v s1 ⟨x,H1,I1,r1,q1⟩=>?_);refine wpAny_Slice ?_;rw[evalPart_none];refine VM (VM ?_);refine thn (hs ZY s1 σ H1 _ I1 q1) fun vs s3 ⟨o,H3,I3,ps,st,a,xs,eo,hst,ex,hx,q⟩=>?_;subst eo ex;have I4:Inv X ZY σ H3 { s3 with heap:=s3.heap.push { cls:=.type "slice",data:=.fields #[.none,.none,vs] } }:=I3.kept (t':=s3.toks) fun b ob q=>VJ _ q;cases r1;obtain⟨its,r,ht,hz⟩:=I4.list hx;have hlen:=r.length;show V2 (Wb X.prog X.w) X.A (ab7 e (.Slice none none (some es) p2) (.ref a) (.ref s3.heap.objs.size)) (EP X ZY σ Q) X.xe { s3 with heap:=s3.heap.push { cls:=.type "slice",data:=.fields #[.none,.none,vs] } };refine tail_any (ops:=[.ref a,.ref s3.heap.objs.size]) ht.isList.typeIs slot_list_getitem.lookup ?_ (by with_unfolding_all rfl);refine wpAny_getItem_list_slice ht.isList (Heap.IsSliceOf.new ..) .none .none ps (by rcases hst with rfl | rfl <;> simp) ?_ (by rw[Wd];lia)
 rw[J8 hst];refine⟨.ref _,_,I4.laid (t':=s3.toks) (o:=.lst (zg st xs)) (fun b ob q=>VJ _ q) (VP _) ?_,U,q _ (I4.hok.fresh (VP _))⟩;exact⟨by rw[rn];exact hz,_,0,Mr r,V5 _ U⟩
end
section
variable {X:Cx}{ZY:Do}{σ:St}{H H':Hp}{s s':VL}{x C G dx:Addr}{B:WT}{c f:Wt}{p p1 p4 pos:ZX}{k:Nat}{D:Ends}{b:Bool}
def Mt (I:Inv X ZY σ H s)(Li:Lie X.prog X.w X.stack H s x C dx H' B s')(stk:X.stack=X.env::X.outer/\X.env.frame=some X.env.locals)(R:XRd X.K C G f)(hg:Gl X c)(hm:X.mg c=some (.ref G))
  (q:∀ (u:HO),D.rt (.bl b) (upd H' x u)) (hd:(c == ("__debug__" : Wt))=false:=by decide) :
  V2 (Wb X.prog X.w) X.A (aaW (.ref x) X.env) (fun _ s2=>V2 (Wb X.prog X.w) X.A (setFlight (.ref x) none) (fun _ s3 =>
   V2 (Wb X.prog X.w) X.A (handleBy (.ref x) X.env [.ExceptHandler (some (.Name c p)) none [.Return (some (.Constant (.bool b) k p1)) p4] pos]) (SP X ZY D) X.xe s3) X.xe s2) X.xe s':=by
 have fr:X.A.frames=some (X.env::X.outer):=by rw[I.ok.frames,stk.1]
 have fl0:Fly B (X.env::X.outer) x C dx .none s'.heap:=stk.1▸Li.fly;refine Bm fr stk.2 fl0 fun h1 F1 u1=>?_;refine qK (s:={ s' with heap:=h1 }) F1 fun h2 F2 u2=>?_;have fl2:Fly B X.stack x C dx .none h2:=stk.1.symm▸F2;have L2:=Li.on fl2 (u1.trans u2) I.stack;have I2:=(L2.back I).marked x;obtain⟨vs,T,oT,ts,sl,ex2,_⟩:=F2.tr;refine wpAny_handleBy_cons (codeAny_handlers_test ?_) (by intro q;cases q);refine lH I2 hg hm ?_ hd;refine Jg I2.kIn R ex2 ?_;rw[if_pos U];refine codeAny_handlers_suite ?_;refine qK (s:={ s' with heap:=h2 }) F2 fun h3 F3 u3=>?_;have fl3:Fly B X.stack x C dx .none h3:=stk.1.symm▸F3;have L3:=Li.on fl3 ((u1.trans u2).trans u3) I.stack;have I3:=(L3.back I).marked x;have P:PSs (X.marked x) [.Return (some (.Constant (.bool b) k p1)) p4] (Tq (tC (.bl b))):=aF (NB dR);refine W7 (P ZY _ σ _ { nx:=fun _ _=>False,rt:=D.rt } I3 (q _)) (fun fl s5 h5=>?_) fun _ _ z=>z.elim;cases fl with
 | next=>obtain⟨_,_,_,z⟩:=h5;exact XD z
 | brk=>obtain⟨_,_,_,z⟩:=h5;exact XD z
 | cont=>obtain⟨_,_,_,z⟩:=h5;exact XD z
 | ret u =>
  obtain⟨v5,σ5,H5,I5,r5,q5⟩:=h5;exact⟨v5,_,H5,I5.unmarked I.ok.hd,r5,q5⟩
end
def XB (K:Ww)(G:Addr)(f:Wt)(b:Bool)(R:VK):XK:=fun Cv dx' H=>∃ C dx,Cv = .ref C/\dx'=some dx/\XRd K C G f/\∀ (x:Addr) (u:HO),H x=none->R (.bl b) (upd H x u)
def T5 (K:Ww)(G:Addr)(f:Wt)(b:Bool)(t:XK->TS):TS:=fun D σ H=>t (XB K G f b D.rt) D σ H
section
variable {X:Cx}{G:Addr}{c f:Wt}{p p1 p4 pos pos':ZX}{k:Nat}{body:DS}{t:XK->TS}{b:Bool}
def Pr (stk:X.stack=X.env::X.outer/\X.env.frame=some X.env.locals)(hg:Gl X c)(hm:X.mg c=some (.ref G))
  (hb:∀ (pn:Do) (E:DC) (W:XK),Passes (XL X.prog X.w) (X.held pn E) W->PSs (X.held pn E) body (t W))
  (hd:(c == ("__debug__" : Wt))=false:=by decide) :
  PS X (.Try body [.ExceptHandler (some (.Name c p)) none [.Return (some (.Constant (.bool b) k p1)) p4] pos] [] [] pos') (T5 X.K G f b t):=by
 intro ZY s σ H D I h;refine wpAny_Try_except ?_
 let E:DC:=fun e s'=>∃ (ZY':Do) (σ':St) (H1:Hp) (s1:VL),Inv X ZY σ' H1 s1/\XL X.prog X.w X.stack H1 s1 (XB X.K G f b D.rt) e s'
 have P:Passes (XL X.prog X.w) (X.held (X.pn++ZY) E) (XB X.K G f b D.rt):=fun ZY' σ' H1 s1 e s' J q=>⟨ZY',σ',H1,s1,J.rQ,q⟩;refine W7 (hb _ E _ P [] s σ H D I.hold h) (fun fl s1 q=>?_) fun e s1 q=>?_
 ·have q':=q.rQ;cases fl with
  | next=>exact aaM q'
  | brk=>exact q'
  | cont=>exact q'
  | ret u=>exact q'
 ·obtain⟨_,σ',H1,s0,J,x,C,dx,H',B,rfl,Li,C',dx',e1,e2,R,w⟩:=q;cases e1;cases e2;exact Mt J Li stk R hg hm (fun u=>w x u Li.xn) hd
end
section
variable {X:Cx}
end
end L2
namespace My
open PySem L2
abbrev E6 := List (Key × V)
abbrev E7 := List (Wt × V)
abbrev E8 := Option V
abbrev Fk := List V
abbrev VS : DZ := ["_law_cell_here","_law_n","_law_one","_law_deep","_law_most"]
abbrev VT : DZ := ["_law_cell_here","_law_n","_law_deep","_law_most"]
abbrev VU : DZ := ["_law_boon_here","_law_picks_here","_law_greedy"]
abbrev VW : DZ := ["_law_state","_law_one","_law_pledge_here"]
abbrev VX : DZ := ["self","green","gone","standing","coming"]
abbrev VY : DZ := ["_law_cell_here","_law_state","_law_most"]
abbrev VZ : DZ := ["_law_boon_here","_law_cells","_law_most"]
abbrev Wp : DZ := ["_law_book","_law_floor","_law_giving"]
abbrev WA : DZ := ["_law_state","_law_one","_law_table"]
abbrev WB : DZ := ["many","one","thing","lowest_step"]
abbrev WC : DZ := ["_law_boon_here","_law_deed_here"]
abbrev WE : DZ := ["_law_pledge_here","_law_giving"]
abbrev WF : DZ := ["_law_term_here","_law_giving"]
abbrev WG : DZ := ["_law_state","_law_rises_here"]
abbrev WH : DZ := ["_law_cell_here","_law_parts"]
abbrev WI : DZ := ["_law_state","_law_deed_here"]
abbrev WJ : DZ := ["_law_cell_here","_law_state"]
abbrev WO : DZ := ["_law_cell_here","_law_many"]
abbrev WP : DZ := ["_law_term_here","_law_row"]
abbrev WS : DZ := ["_law_cell_here","_law_k"]
abbrev WU : DZ := ["_law_some","_law_giving"]
abbrev WV : DZ := ["standing","one","giving"]
abbrev WZ : DZ := ["stand","one","standing"]
abbrev Xs : DZ := ["self","number","pledge"]
abbrev Xt : DZ := ["_law_book","_law_floor"]
abbrev XE : DZ := ["book","floor","giving"]
abbrev XG : DZ := ["many","thing","fewest"]
abbrev XI : DZ := ["_law_state","_law_one"]
abbrev XO : DZ := ["_law_table","_law_one"]
abbrev XT : DZ := ["_law_script","_law_k"]
abbrev XU : DZ := ["_law_number","_law_n"]
abbrev XV : DZ := ["stand","one","pledge"]
abbrev XW : DZ := ["many","thing","deep"]
abbrev XY : DZ := ["self","one","pledge"]
abbrev XZ : DZ := ["thing","low","high"]
abbrev X0 : DZ := ["many","one","thing"]
abbrev X1 : DZ := ["_law_pick","_law_n"]
abbrev X2 : DZ := ["pledge","giving"]
abbrev X9 : DZ := ["parts","giving"]
abbrev Ya : DZ := ["_law_term_here"]
abbrev Yf : DZ := ["stand","number"]
abbrev YA : DZ := ["_law_boon_here"]
abbrev YE : DZ := ["term","giving"]
abbrev YI : DZ := ["stand","rises"]
abbrev YN : DZ := ["self","number"]
abbrev YO : DZ := ["book","floor"]
abbrev YR : DZ := ["self","stand"]
abbrev YU : DZ := ["self","rises"]
abbrev YV : DZ := ["boon","rises"]
abbrev YY : DZ := ["self","word"]
abbrev Zl : DZ := ["many","term"]
abbrev Zp : DZ := ["_law_giving"]
abbrev Zs : DZ := ["stand","one"]
abbrev ZA : DZ := ["_law_script"]
abbrev ZB : DZ := ["self","one"]
abbrev ZE : DZ := ["boon","one"]
abbrev ZH : DZ := ["_law_state"]
abbrev ZI : DZ := ["_law_one"]
abbrev ZN : DZ := ["pledge"]
abbrev ZO : DZ := ["self"]
abbrev ZT : DZ := ["term"]
abbrev ZU : DZ := ["boon"]
variable {P:Wi}{w:Wy}{K:Ww}{mg:Wt->Option Value}{base:WT}{f:Addr}{fd:Xp}
def top (i:Nat):Stmt:=PySem.Challenge.pw_loveboon_k40_whole_one_by_one_in_any_ord.main.body.getD i (.Pass ⟨0,0,0,0⟩)
def au {H:Hp}{p:Addr}(h:H p=none)(o:HO):aG H (upd H p o):=fun b u q=>by rw[aL (cT q h)];exact q
def aK {H H':Hp}{p:Addr}(s:aG H H')(h:H p=none)(o:HO):aG H (upd H' p o):=fun b u q=>by rw[aL (cT q h)];exact s b u q
def fM {K:Ww}{H H':Hp}{a:Addr}{xs:Fk}(e:aG H H')(h:SqT K H a xs):SqT K H' a xs:=by
 rcases h with (h | ⟨o,h⟩) | h;{exact .inl (.inl (e _ _ h))};{exact .inl (.inr ⟨o,e _ _ h⟩)};{exact .inr h}
def Hr {H:Hp}{p:Addr}{o o':HO}:upd (upd H p o) p o'=upd H p o':=by
 funext b;unfold upd;by_cases e:b=p;{rw[if_pos e,if_pos e]};{rw[if_neg e,if_neg e,if_neg e]}
def small {n:Nat}(h:n<=1000):n<=sizeLine:=Yi (aH h)
def int_at {ns:DU}{i:Nat}{x:V}(h:(ns.map V.int)[i]? = some x):∃ n,ns[i]? = some n/\x = .int n:=by
 rw[Wf] at h;cases e:ns[i]? with
 | none=>rw[e] at h;cases h
 | some n=>rw[e] at h;exact⟨n,U,(WL h).symm⟩
def vP {α β:Type}(f:α->β){xs:List α}{i:Nat}{x:α}(h:xs[i]? = some x):(xs.take i).map f++[f x]=(xs.take (i+1)).map f:=by
 rw[Wj,h,VV];rfl
def jG {ns:DU}{i:Nat}(h:i < ns.length):atI (ns.map V.int) (i:Int)=some (.int ns[i]):=eE (by rw[Wf,VN h];rfl)
def gT {i:Nat}{x:V}{σ:St}{H:Hp}{A B:St->Hp->Prop}(h:A (σ.set i (some x)) H):rK i x σ H (fun σ3 H3=>JS σ3 H3 (fun b H4=>if b=true then A σ3 H4 else B σ3 H4)):=by
 show if true=true then A (σ.set i (some x)) H else B (σ.set i (some x)) H
 rw[if_pos U];exact h
def aC {H H1:Hp}{p:Addr}{o:HO}(e:upd H p o=H1)(h:H p=none):aG H H1/\H1 p=some o:=by
 subst e;exact⟨au h _,aa⟩
def dw {xs:Fk}{k:Nat}{v:V}(h:xs[k]? = some v):atI xs (k:Int)=some v:=eE h
def gW {ns:DU}{k:Nat}{n:Int}(h:ns[k]? = some n):(ns.map V.int)[k]? = some (.int n):=by rw[Wf,h];rfl
def tT {σ:St}{H:Hp}{A B:Hp->Prop}(h:A H):JS σ H (fun b H4=>if b=true then A H4 else B H4):=by
 show if true=true then A H else B H
 rw[if_pos U];exact h
def vN (i:Nat):V:=.int (i:Int)
def jq (c:DV):c.map vN=(c.map fun i:Nat=>(i:Int)).map V.int:=by rw[aaT];rfl
def uV {c:DV}{j:Nat}{x:V}(h:(c.map vN)[j]? = some x):∃ i,c[j]? = some i/\x=vN i:=by
 rw[Wf] at h;cases e:c[j]? with
 | none=>rw[e] at h;cases h
 | some i=>rw[e] at h;exact⟨i,U,(WL h).symm⟩
def bR {H:Hp}{D:Addr}{zs zs':Fk}(h:H D=some (.lst zs)):∀ a xs,H a=some (HO.tup xs)->upd H D (.lst zs') a=some (HO.tup xs):=fun a xs q=>by
 rw[aL (fun z=>by rw[z,h] at q;cases q)];exact q
def JB {α:Type}{xs:List α}{v:α}(h:xs[xs.length - 1]? = some v):atI xs (-1)=some v:=by
 have hl:xs.length - 1 < xs.length:=(List.getElem?_eq_some_iff.mp h).1;have hne:xs≠[]:=fun z=>by rw[z] at hl;exact absurd hl (Xa _)
 have e:xs=xs.dropLast++[v]:=by
  rw[← List.getLast?_eq_getElem?,acX hne] at h;rw[← WL h];exact (ac6 hne).symm
 rw[e];exact KZ _ _
def bZ {N P:D0}{sc:YH}(h1:sc.kind = .function:=by rfl)(h2:sc.isCoroutine=false:=by rfl)(h3:sc.isGenerator=false:=by rfl)(h4:N.Nodup:=by decide+kernel)(h5:N.take P.length=P:=by rfl)(h6:∀ x∈P,sc.names.lookup x=some .local∨sc.names.lookup x=some .cell:=by decide+kernel)(h7:∀ y∈sc.names,y.2≠.free:=by decide+kernel):aB N P sc:=⟨h1,h2,h3,h4,h5,h6,h7⟩
def smN (n:Nat)(h:n<=1000:=by decide):n<=sizeLine:=small h
def gt0 {x:V}{r:Fk}:atI (x::r) 0=some x:=dw (k:=0) U
def gt1 {x y:V}{r:Fk}:atI (y::x::r) 1=some x:=dw (k:=1) U
def gt2 {x y z:V}{r:Fk}:atI (z::y::x::r) 2=some x:=dw (k:=2) U
local macro_rules|`(⟨$xs,*⟩)=>do
 let r←xs.getElems.mapM fun x=>(match x.raw.getId with
  |`O=>do return #[←`(_),←`(rfl)]
  |`M=>do return #[←`(_),←`(_),←`(rfl),←`(rfl)]
  |`Y=>do return #[←`(_),←`(_),←`(_),←`(rfl),←`(rfl)]
  |`J=>do return #[←`(gt0),←`(rfl),←`(_),←`(rfl)]
  |`R=>do return #[←`(_),←`(rfl),←`(_),←`(rfl)]
  |`T=>do return #[←`(_),←`(rfl),←`(rfl),←`(_),←`(rfl)]
  |`N=>do return #[←`(_),←`(_),←`(rfl)]
  |_=>return #[x]:Lean.MacroM (Array (Lean.TSyntax `term)))
 if r.all (·.size==1) then Lean.Macro.throwUnsupported
 let r:=r.flatten
 `(⟨$r,*⟩)
def dcT {p:Prop}[Decidable p](h:p):decide p=true:=decide_eq_true h
def dcF {p:Prop}[Decidable p](h:¬ p):decide p=false:=decide_eq_false h
def sqT {K:Ww}{H:Hp}{a:Addr}{xs:Fk}(h:H a=some (.tup xs)):SqT K H a xs:=SqT.of h
def sqL {K:Ww}{H:Hp}{a:Addr}{xs:Fk}(h:H a=some (.lst xs)):SqL K H a xs:=SqL.of h
def geS {α:Type}{l:List α}{i:Nat}{a:α}(h:l[i]? = some a):∃ h:i < l.length,l[i]=a:=List.getElem?_eq_some_iff.mp h
def iPo {c:Prop}{h:Decidable c}(hc:c){α:Sort u}{t e:α}:@ite α c h t e=t:=if_pos hc
def iNe {c:Prop}{h:Decidable c}(hc:¬ c){α:Sort u}{t e:α}:@ite α c h t e=e:=if_neg hc
abbrev oR (a:Addr):E8:=some (.ref a)
abbrev oI (i:Int):E8:=some (.int i)
section
variable {X:Cx}{a b:Expr}{ta tb:TE}{pos:ZX}{op:CmpOp}{r:R2}
def du (ho:OpR X (Yn op) r)(ha:PE X a ta)(hb:PE X b tb)(hm:aag op b=false:=by exact NQ _):PE X (.Compare a [op] [b] pos) (tOp r ta tb):=Gp ho ha hb hm
def aD (ho:OpR X (Yn op) r)(ha:PE X a ta)(hb:PE X b tb)(hm:aag op b=false:=by exact NQ _):PT X (.Compare a [op] [b] pos) (RV (tOp r ta tb)):=fj ho ha hb hm
end
section
variable {x qual:Wt}{st:Stmt}{N ps:D0}{k:Nat}{sp:Sp}
def okA (F:Fun K x qual st f fd)(S:aB N ps (aA st))
  (hb:∀ {cdv:Value} {A:WM} {outer:DT} {s:VL} {vs:Fk} (H:Hp) (Q:VK) (E:XK),iD k (A.deeper (PyProof.Rows.envOfC qual (aA st) s.heap.objs.size f cdv))->sp vs H Q E →
   ∃ t,PSs (Gy CX0 P w K mg base N qual (aA st) f cdv A outer s H E).nox (cZ st) t/\t { nx:=fun _ H2=>Q .non H2,rt:=Q } (start N vs) H)
  (len:∀ vs H Q E,sp vs H Q E->vs.length=ps.length:=by intro _ _ _ _ h;first | (cases h;subst_vars;rfl) | ((repeat obtain⟨_,h⟩:=h) <;> subst_vars <;> rfl)):bh P w K mg base CX0 (k+1) f fd ps sp:=F.ok S len fun _ _ _ _ H _ Q E hr h=>hb H Q E hr h
def Fo (F:Fun K x qual st f fd)(S:aB N ps (aA st))
  (hb:∀ {cdv:Value} {A:WM} {outer:DT} {s:VL} {vs:Fk} (H:Hp) (Q:VK) (E:XK),iD k (A.deeper (PyProof.Rows.envOfC qual (aA st) s.heap.objs.size f cdv))->sp vs H Q E →
   ∃ t,PSs (Gy (XL P w) P w K mg base N qual (aA st) f cdv A outer s H E) (cZ st) t/\t { nx:=fun _ H2=>Q .non H2,rt:=Q } (start N vs) H)
  (len:∀ vs H Q E,sp vs H Q E->vs.length=ps.length:=by intro _ _ _ _ h;first | (cases h;subst_vars;rfl) | ((repeat obtain⟨_,h⟩:=h) <;> subst_vars <;> rfl)):bh P w K mg base (XL P w) (k+1) f fd ps sp:=F.okX S len fun _ _ _ _ H _ Q E hr h=>hb H Q E hr h
end
section
variable {X:Cx}{a b:Expr}{ta tb:TE}{pos:ZX}
def pxL (K:Ww)(ha:PE X a ta)(hb:PE X b tb)(hs:zM b:=by exact fun _ _=>U)(hK:X.K=K:=by rfl):PE X (.Subscript a b pos) (tOp (Vc K) ta tb):=S7 (hK▸Pj) ha hb hs
def pxT (K:Ww)(ha:PE X a ta)(hb:PE X b tb)(hs:zM b:=by exact fun _ _=>U)(hK:X.K=K:=by rfl):PE X (.Subscript a b pos) (tOp (UL K) ta tb):=S7 (hK▸Sx) ha hb hs
end
section
variable {X:Cx}{a b c:Expr}{ta tb tc:TE}{pos:ZX}{x y z:Wt}{p q r:ZX}
def a1 (ha:PE X a ta)(hs:Wg [a] X.env=(false,Xw a X.env)::Wg [] X.env:=by rfl):PA X [a] (ue ta Di):=aq ha cL hs
def a2 (ha:PE X a ta)(hb:PE X b tb)(hs:Wg [a,b] X.env=(false,Xw a X.env)::Wg [b] X.env:=by rfl)(ht:Wg [b] X.env=(false,Xw b X.env)::Wg [] X.env:=by rfl):PA X [a,b] (ue ta (ue tb Di)):=aq ha (a1 hb ht) hs
def v1 (i:Nat)(hN:X.N[i]? = some x:=by rfl)(hv:Vis X.env.scope x:=by first | exact aas rfl | exact aao (aas rfl) | exact aao (aao rfl))(hd:(x == ("__debug__" : Wt))=false:=by decide)(hc:(x == ("__classdict__" : Wt))=false:=by decide):PA X [.Name x p] (ue (yU i) Di):=a1 (pv i hN hv hd hc) rfl
def v2 (i j:Nat)(hN:X.N[i]? = some x:=by rfl)(hv:Vis X.env.scope x:=by first | exact aas rfl | exact aao (aas rfl) | exact aao (aao rfl))(hM:X.N[j]? = some y:=by rfl)(hw:Vis X.env.scope y:=by first | exact aas rfl | exact aao (aas rfl) | exact aao (aao rfl))(hd:(x == ("__debug__" : Wt))=false:=by decide)(hc:(x == ("__classdict__" : Wt))=false:=by decide)(he:(y == ("__debug__" : Wt))=false:=by decide)(hf:(y == ("__classdict__" : Wt))=false:=by decide):PA X [.Name x p,.Name y q] (ue (yU i) (ue (yU j) Di)):=a2 (pv i hN hv hd hc) (pv j hM hw he hf) rfl rfl
def sR (h:PE X a ta):PSs X [.Return (some a) pos] (Tq ta):=aF (NB h)
def ifR {tt:TT}(ht:PT X a tt)(h:PE X b tb):PS X (.If a [.Return (some b) p] [] pos) (JK tt (Tq tb) Ly):=cP ht (sR h) aX
def sT (i:Nat)(hN:X.N.Nodup)(he:PE X a ta)(hi:X.N[i]? = some x:=by rfl)(hx:X.env.scope.names.lookup x=some .local:=by rfl)(hs:aaV a (some (.Name x p)) pos.line X.env=pure false:=by rfl):PS X (.Assign [.Name x p] a pos) (Tr ta (rK i)):=MK hN hi (.inl hx) he hs (.inr hx)
def pgN (i:Nat)(hN:X.N.Nodup)(hi:X.N[i]? = some x:=by rfl)(hx:X.env.scope.names.lookup x=some .local:=by rfl):PG X (.Name x pos) (rK i):=v7 hN hi (.inl hx) (.inr hx)
def sTc (i:Nat)(hN:X.N.Nodup)(he:PE X a ta)(hi:X.N[i]? = some x:=by rfl)(hx:X.env.scope.names.lookup x=some .cell:=by rfl)(hs:aaV a (some (.Name x p)) pos.line X.env=pure false:=by rfl)(hf:X.fn x=true∨X.env.scope.names.lookup x=some .local:=by first | exact .inl rfl | exact .inr rfl | assumption):PS X (.Assign [.Name x p] a pos) (Tr ta (rK i)):=MK hN hi (.inr hx) he hs hf
def pgC (i:Nat)(hN:X.N.Nodup:=by exact Ox (by decide+kernel))(hi:X.N[i]? = some x:=by rfl)(hx:Loc X.env.scope x:=by exact aas U)(hf:X.fn x=true∨X.env.scope.names.lookup x=some .local:=by first | exact .inl rfl | exact .inr rfl | assumption):PG X (.Name x pos) (rK i):=v7 hN hi hx hf
def pln (K:Ww) (hm:X.mg "len" = none) (he:PE X a ta) (hg:Gl X "len":=by rfl) (hs:Wg [a] X.env=(false,Xw a X.env)::Wg [] X.env:=by rfl) (hK:X.K=K:=by rfl):PE X (.Call (.Name "len" p) [a] [] pos) (tCB (U6 K) (ue ta Di)):=by
 subst hK;exact aQ GZ hg hm Nq (a1 he hs) (by decide) (by decide) hs
def pfd {f:Wt}(K:Ww)(i:Nat)(hN:X.N[i]? = some x:=by rfl)(hv:Vis X.env.scope x:=by first | exact aas rfl | exact aao (aas rfl) | exact aao (aao rfl))(hb:aaC (.Name x p) f X.env (Xw (.Name x p) X.env)=Xw (.Name x p) X.env:=by rfl)(hd:(x == ("__debug__" : Wt))=false:=by decide)(hc:(x == ("__classdict__" : Wt))=false:=by decide)(hK:X.K=K:=by rfl):PE X (.Attribute (.Name x p) f pos) (Us K (yU i) f):=o9 K hK (pv i hN hv hd hc) hb
end
abbrev lU:Stmt:=top 66
def cz:aB ["_law_cell_here","_law_parts","_law_one","_law_two","_law_six","_law_found","_law_part"] WH (aA lU):=bZ
def uX (c:Int):Int:=(c * 48271+11) % 2147483647
def KJ (c:Int):Int:=(uX c * uX c+40692 * uX c+c) % 2147483399
def T6 (c:Int):Int:=(KJ c * 16807+uX c) % 1000000007
def qJ (c:Int):Int:=if decide ((if c < 0 then -c else c) < 10 ^ (18:Int).toNat)=true then KJ c+2147483399 * (T6 c+1000000007 * uX c) else (if c < 0 then -c else c) - 10 ^ (18:Int).toNat
def zf:Int->DU->DU
 | _,[]=>[]
 | c,p::ps=>c % p::zf (c / p) ps
def divC:Int->DU->Int
 | c,[]=>c
 | c,p::ps=>divC (c / p) ps
theorem rN (p:Int):∀ (ps:DU) (c:Int),zf c (ps++[p])=zf c ps++[divC c ps % p]
 | [],_=>rfl
 | q::ps,c=>by
  show c % q::zf (c / q) (ps++[p])=c % q::(zf (c / q) ps++[divC (c / q) ps % p]);rw[rN p ps]
theorem nP (p:Int):∀ (ps:DU) (c:Int),divC c (ps++[p])=divC c ps / p
 | [],_=>rfl
 | q::ps,c=>nP p ps (c / q)
theorem fU:∀ (ps:DU) (c:Int),(zf c ps).length=ps.length
 | [],_=>rfl
 | _::ps,_=>congrArg Nat.succ (fU ps _)
theorem cN:∀ {ps:DU} {c:Int} {i:Nat} {p:Int},(∀ q∈ps,0 < q)->ps[i]? = some p->∃ v,(zf c ps)[i]? = some v/\0<=v/\v < p
 | [],_,_,_,_,h=>by simp at h
 | q::ps,c,0,p,hp,h=>by
  cases (show some q=some p from h);exact⟨c % q,U,WN _ (by have:=hp q V0;lia),Wu _ (hp q V0)⟩
 | q::ps,c,i+1,p,hp,h=>by
  obtain⟨v,e,r⟩:=cN (ps:=ps) (c:=c / q) (i:=i) (fun z hz=>hp z (V7 _ hz)) (by simpa using h);exact⟨v,by simpa [zf] using e,r⟩
def HB (c:Int)(ps:DU):DU:=zf (qJ c) ps
def Qq (c:Int):0<=uX c/\uX c < 2147483647:=⟨WN _ (by decide),Wu _ (by decide)⟩
def Qt (c:Int):0<=KJ c/\KJ c < 2147483399:=⟨WN _ (by decide),Wu _ (by decide)⟩
inductive oF (K:Ww)(vs:Fk)(H:Hp)(Q:VK)(e3:XK):Prop where
 | mk (c:Int) (p:Addr) (ps:DU) (_:vs=[.int c,.ref p]) (_:SqL K H p (ps.map V.int)) (_:(∀ q∈ps,0 < q/\q < 1073741824)) (_:ps.length<=1000) (_:∀ r,H r=none->Q (.ref r) (upd H r (.lst ((HB c ps).map V.int))))
def xT (F:Fun K "_law_draws" "_law_draws" lU f fd) (B:Bt mg) :
  bh P w K mg base CX0 1 f fd WH (oF K):=by
 refine okA F cz fun H Q E hr h=>?_;obtain⟨c,p,ps,rfl,hS,hp,hl,q⟩:=h
 refine⟨_,(aj (cP (aD rZ (aQ nJ U B.abs_ wQ (v1 0)) (aN qT ao ao)) (aj (sT 2 cz.nd (aN bM (aN bF (aN gm (pv 0) ao) ao) ao))
 (aj (sT 3 cz.nd (aN bM (aN bF (aN bF (aN gm (pv 2) (pv 2)) (aN gm ao (pv 2))) (pv 0)) ao))
 (aj (sT 4 cz.nd (aN bM (aN bF (aN gm (pv 3) ao) (pv 2)) ao))
 (aF (sT 0 cz.nd (aN bF (pv 3) (aN gm ao (aN bF (pv 4) (aN gm ao (pv 2)))))))))) (aF (sT 0 cz.nd (aN eQ (aQ nJ U B.abs_ wQ (v1 0)) (aN qT ao ao)))))
 (aj (sT 5 cz.nd (aV cL))
 (aj (bW Wv U (cW (pv 1)) (pgN 6 cz.nd) (aj (aW (rO Xg Xk Xj cI (pv 5) (a1 (aN bM (pv 0) (pv 6)))))
 (aF (sT 0 cz.nd (aN vm (pv 0) (pv 6))))))
 (sR (pv 5))))),?_⟩
 have b1:=Qq c;have b2:=Qt c;refine⟨R,M,⟨by decide,by decide,by decide⟩,_,_,U,U,_,U,?_⟩;refine kI (fun h=>?_) (fun h=>?_)
 ·refine⟨O,M,.inr ⟨by decide,by decide⟩,_,_,U,U,_,_,U,U,(by show (0:Int) < 2147483647;decide),_,U,_,U,_,_,U,U,.inl (show -(2 ^ 64) < uX c/\uX c < 2 ^ 64 from ⟨by lia,by lia⟩),_,U,_,_,U,U,.inl ⟨by decide,by decide⟩,_,_,U,U,_,U,_,_,U,U,_,_,U,U,(by show (0:Int) < 2147483399;decide),_,U,_,_,U,U,.inr ⟨by decide,by decide⟩,_,U,_,_,U,U,_,_,U,U,(by show (0:Int) < 1000000007;decide),_,U,_,U,_,U,_,_,U,U,.inl ⟨by decide,by decide⟩,_,_,U,U,_,_,U,U,.inl ⟨by decide,by decide⟩,_,_,U,U,small (Wz _),fun r hr0=>?_⟩
  refine⟨O,p,U,⟨_,(au hr0 _).seq hS⟩,dB (K:=K) (a:=p) (xs:=ps.map V.int) (fun i σ H2=>∃ (z:Int) (o t u v:E8),z=divC (qJ c) (ps.take i)/\σ=[oI z,oR p,o,t,u,oR r,v] ∧
   H2=upd H r (.lst ((zf (qJ c) (ps.take i)).map V.int))) ⟨_,_,_,_,_,(iPo h).symm,U,U⟩ ?_ ?_ ?_⟩
  ·rintro i σ H2 hi ⟨z,o,t,u,v,_,_,e⟩;subst e;exact (au hr0 _).seq hS
  ·rintro i x σ H2 hx ⟨z,o,t,u,v,ez,rfl,rfl⟩;obtain⟨d,hd,rfl⟩:=int_at hx;obtain⟨h1,h2⟩:=hp d (Wk hd);have et:ps.take (i+1)=ps.take i++[d]:=by rw[Wj,hd];rfl
   refine⟨O,.inl ⟨U,_,sqL aa⟩,R,M,h1,r,M,aa,?_,R,M,⟨h1,h2⟩,_,_,_,_,_,?_,U,?_⟩;{rw[VH,fU,Wa];exact aH (by lia)};{rw[et,nP,ez]};{rw[Hr,et,rN,VV,ez];rfl}
  ·rintro σ H2 ⟨z,o,t,u,v,_,rfl,rfl⟩;refine⟨O,?_⟩;have q':=q r hr0;rw[VH,V1];exact q'
 ·refine⟨R,M,⟨by decide,by decide,by decide⟩,_,_,U,U,small (Wz _),fun r hr0=>?_⟩
  refine⟨O,p,U,⟨_,(au hr0 _).seq hS⟩,dB (K:=K) (a:=p) (xs:=ps.map V.int) (fun i σ H2=>∃ (z:Int) (o t u v:E8),z=divC (qJ c) (ps.take i)/\σ=[oI z,oR p,o,t,u,oR r,v] ∧
   H2=upd H r (.lst ((zf (qJ c) (ps.take i)).map V.int))) ⟨_,_,_,_,_,(iNe h).symm,U,U⟩ ?_ ?_ ?_⟩
  ·rintro i σ H2 hi ⟨z,o,t,u,v,_,_,e⟩;subst e;exact (au hr0 _).seq hS
  ·rintro i x σ H2 hx ⟨z,o,t,u,v,ez,rfl,rfl⟩;obtain⟨d,hd,rfl⟩:=int_at hx;obtain⟨h1,h2⟩:=hp d (Wk hd);have et:ps.take (i+1)=ps.take i++[d]:=by rw[Wj,hd];rfl
   refine⟨O,.inl ⟨U,_,sqL aa⟩,R,M,h1,r,M,aa,?_,R,M,⟨h1,h2⟩,_,_,_,_,_,?_,U,?_⟩;{rw[VH,fU,Wa];exact aH (by lia)};{rw[et,nP,ez]};{rw[Hr,et,rN,VV,ez];rfl}
  ·rintro σ H2 ⟨z,o,t,u,v,_,rfl,rfl⟩;refine⟨O,?_⟩;have q':=q r hr0;rw[VH,V1];exact q'
abbrev o6:Stmt:=top 65
def Aw:aB XT XT (aA o6):=bZ
inductive Nf (K:Ww)(vs:Fk)(H:Hp)(Q:VK)(e3:XK):Prop where
 | mk (a:Addr) (ns:DU) (k:Nat) (_:vs=[.ref a,.int (k:Int)]) (_:SqL K H a (ns.map V.int)) (_:Q (.int (ns.getD k 0)) H)
def zx (F:Fun K "_law_cell" "_law_cell" o6 f fd) (B:Bt mg) :
  bh P w K mg base CX0 1 f fd XT (Nf K):=by
 refine okA F Aw fun H Q E hr h=>?_;obtain⟨a,ns,k,rfl,hS,q⟩:=h
 refine⟨_,(aj (ifR (aD rZ (pv 1) (pln K B.len_ (pv 0))) (pxL K (pv 0) (pv 1)))
 (sR ao)),?_⟩
 refine⟨R,a,O,.inl hS,M,O,?_⟩;have el:(((ns.map V.int).length:Nat):Int)=(ns.length:Int):=by rw[VH]
 rw[el];refine kI (fun c=>?_) (fun c=>?_)
 ·have c':(k:Int) < (ns.length:Int):=of_decide_eq_true c;have hk:k < ns.length:=by lia
  refine⟨R,a,Y,hS,jG hk,?_⟩;rw[V3,VN hk] at q;exact q
 ·have c':¬ (k:Int) < (ns.length:Int):=fun z=>c (dcT z);have hk:ns.length<=k:=by lia
  rw[V3,X8 hk] at q;exact q
abbrev mK:Stmt:=top 67
def gq:aB ["_law_cell_here","_law_k","_law_rest","_law_turn"] WS (aA mK):=bZ
def Oc (c:Int)(k:Nat):Int:=if decide ((if c < 0 then -c else c) < 10 ^ (18:Int).toNat)=true then (c * 48271+7919 * (k:Int)+13) % 2147483647 else 10 ^ (18:Int).toNat+divC ((if c < 0 then -c else c) - 10 ^ (18:Int).toNat) (WK (k+1) (10 ^ (9:Int).toNat))
inductive vy (vs:Fk)(H:Hp)(Q:VK)(e3:XK):Prop where
 | mk (c:Int) (k:Nat) (_:vs=[.int c,.int (k:Int)]) (_:k<=1000) (_:Q (.int (Oc c k)) H)
def wV (F:Fun K "_law_under" "_law_under" mK f fd) (B:Bt mg) :
  bh P w K mg base CX0 1 f fd WS vy:=by
 refine okA F gq fun H Q E hr h=>?_;obtain⟨c,k,rfl,hk,q⟩:=h
 refine⟨_,(aj (ifR (aD rZ (aQ nJ U B.abs_ wQ (v1 0)) (aN qT ao ao)) (aN bM (aN bF (aN bF (aN gm (pv 0) ao) (aN gm ao (pv 1))) ao) ao))
 (aj (sT 2 gq.nd (aN eQ (aQ nJ U B.abs_ wQ (v1 0)) (aN qT ao ao)))
 (aj (bW Wv U (bQ U B.range_ (a1 (aN bF (pv 1) ao))) (pgN 3 gq.nd) (aF (sT 2 gq.nd (aN vm (pv 2) (aN qT ao ao)))))
 (sR (aN bF (aN qT ao ao) (pv 2)))))),?_⟩
 refine⟨R,M,⟨by decide,by decide,by decide⟩,_,_,U,U,_,U,?_⟩;refine kI (fun h=>?_) (fun h=>?_);{refine⟨O,M,.inr ⟨by decide,by decide⟩,_,U,_,_,U,U,.inl ⟨by decide,by decide⟩,_,_,U,U,_,_,U,U,_,_,U,U,(by show (0:Int) < 2147483647;decide),?_⟩;unfold Oc at q;rw[iPo h] at q;exact q}
 ·unfold Oc at q;rw[iNe h] at q;refine⟨R,M,⟨by decide,by decide,by decide⟩,_,_,U,U,?_⟩;have ek:((k:Int)+1).toNat=k+1:=by lia
  refine⟨O,M,O,by lia,by lia,iz (lo:=0) (n:=((k:Int)+1).toNat) (fun i σ H2=>(∃ t:E8,σ=[oI c,some (.int (k:Int)),some (.int (divC ((if c < 0 then -c else c) - 10 ^ (18:Int).toNat) (WK i (10 ^ (9:Int).toNat)))),t])/\H2=H) ⟨⟨O⟩,U⟩ ?_ ?_⟩
  ·rintro i σ H2 hi ⟨⟨t,rfl⟩,rfl⟩;refine⟨O,M,⟨by decide,by decide,by decide⟩,_,_,U,U,⟨by show (0:Int) < 10 ^ 9;decide,by show (10 ^ 9:Int) < 1073741824;decide⟩,⟨some (.int (0+(i:Int))),?_⟩,U⟩;rw[List.replicate_succ',nP];rfl
  ·rintro σ H2 ⟨⟨t,rfl⟩,rfl⟩;refine⟨M,⟨by decide,by decide,by decide⟩,_,U,_,_,U,U,?_⟩;rw[ek];exact q
abbrev lQ:Stmt:=top 68
def gD:aB ["_law_number","_law_n","_law_found","_law_one"] XU (aA lQ):=bZ
inductive Aj (vs:Fk)(H:Hp)(Q:VK)(e3:XK):Prop where
 | mk (m:Int) (n:Nat) (_:vs=[.int m,.int (n:Int)]) (_:n<=100) (_:∀ (c:DV) (r:Addr) (H':Hp),(∀ i∈c,i < n)->c.Pairwise (· < ·)->c.length<=n->aG H H'->H r=none->H' r=some (.tup (c.map vN))->Q (.ref r) H')
def yE (F:Fun K "_law_crowd" "_law_crowd" lQ f fd) (B:Bt mg) :
  bh P w K mg base CX0 1 f fd XU Aj:=by
 refine okA F gD fun H Q E hr h=>?_;obtain⟨m,n,rfl,hn,q⟩:=h
 refine⟨_,(aj (sT 2 gD.nd (aV cL))
 (aj (bW Wv U (bQ U B.range_ (v1 1)) (pgN 3 gD.nd) (aj (cP (aD bc (aN bM (pv 0) ao) ao) (aF (aW (rO Xg Xk Xj cI (pv 2) (v1 3)))) aX)
 (aF (sT 0 gD.nd (aN vm (pv 0) ao)))))
 (sR (aR (r:=eY K) bj U B.tuple_ bH (v1 2))))),?_⟩
 refine⟨smN 0,fun r hr0=>?_⟩;have en:((n:Int)).toNat=n:=Wl n
 refine⟨R,by lia,by lia,iz (lo:=0) (n:=((n:Int)).toNat) (fun i σ H2=>∃ (z:Int) (t:E8) (c:DV),σ=[oI z,some (.int (n:Int)),oR r,t]/\H2=upd H r (.lst (c.map vN))/\(∀ j∈c,j < i)/\c.Pairwise (· < ·)/\c.length<=i)
  ⟨_,_,[],U,U,by simp,by simp,VP _⟩ ?_ ?_⟩
 ·rintro i σ H2 hi ⟨z,t,c,rfl,rfl,hc,hp,hl⟩;refine⟨O,M,(by show (0:Int) < 2;decide),U,_,U,?_⟩;refine kI (fun _=>?_) (fun _=>?_)
  ·refine⟨O,.inl ⟨U,_,sqL aa⟩,O,r,M,aa,?_,O,M,⟨by decide,by decide⟩,_,_,c++[i],U,?_,?_,?_,?_⟩;{rw[VH];exact aH (by lia)};{rw[Hr,VV,YD];rfl}
   ·intro j hj;rcases List.mem_append.mp hj with h | h;{have:=hc j h;lia};{have:=List.mem_singleton.mp h;lia}
   ·rw[aaH];refine⟨hp,by simp,fun a ha b hb=>?_⟩;rw[List.mem_singleton.mp hb];exact hc a ha
   ·rw[V6];show c.length+1<=i+1;lia
  ·refine⟨O,M,⟨by decide,by decide⟩,_,_,c,U,U,fun j hj=>WX (hc j hj),hp,by lia⟩
 ·rintro σ H2 ⟨z,t,c,rfl,rfl,hc,hp,hl⟩;refine⟨O,r,O,.inl ⟨sqL aa,fun l hl'=>?_⟩⟩;rw[en] at hc hl;exact q c l _ hc hp hl ((au hr0 _).trans (au hl' _)) ((au hr0 _).free hl') aa
inductive Tm where
 | free | never | gives (i:Nat) (k:Int) | sum (c:DV) (k:Int) | crowd (c:DV) (k m:Int) | all (ts:List Tm) | any (ts:List Tm)
mutual
def Tm.dep:Tm->Nat
 | .all ts=>tdL ts+1
 | .any ts=>tdL ts+1
 | _=>1
def tdL:List Tm->Nat
 | []=>0
 | t::r=>max t.dep (tdL r)
end
mutual
def hF (g:DU):Tm->Bool
 | .free=>true
 | .never=>false
 | .gives i k=>decide (k<=g.getD i 0)
 | .sum c k=>decide (k<=(c.map fun i=>g.getD i 0).sum)
 | .crowd c k m=>decide (m<=((c.filter fun i=>decide (k<=g.getD i 0)).length:Int))
 | .all ts=>pL g ts
 | .any ts=>pJ g ts
def pL (g:DU):List Tm->Bool
 | []=>true
 | t::r=>hF g t && pL g r
def pJ (g:DU):List Tm->Bool
 | []=>false
 | t::r=>hF g t || pJ g r
end
mutual
inductive jx (n:Nat)(H:Hp):V->Tm->Prop where
 | free {a:Addr}:H a=some (.tup [.str "free"])->jx n H (.ref a) .free
 | never {a:Addr}:H a=some (.tup [.str "never"])->jx n H (.ref a) .never
 | gives {a:Addr} {i:Nat} {k:Int}:H a=some (.tup [.str "gives",vN i,.int k])->i < n->1<=k->k<=9->jx n H (.ref a) (.gives i k)
 | sum {a b:Addr} {c:DV} {k:Int}:H a=some (.tup [.str "sum",.ref b,.int k])->H b=some (.tup (c.map vN))->(∀ i∈c,i < n)->c.Pairwise (· < ·)->c.length<=20->2<=c.length->1<=k->k<=99->jx n H (.ref a) (.sum c k)
 | crowd {a b:Addr} {c:DV} {k m:Int}:H a=some (.tup [.str "crowd",.ref b,.int k,.int m])->H b=some (.tup (c.map vN))->(∀ i∈c,i < n)->c.Pairwise (· < ·)->c.length<=20->1<=c.length->1<=k->k<=9->1<=m->m<=12->jx n H (.ref a) (.crowd c k m)
 | all {a b:Addr} {vs:Fk} {ts:List Tm}:H a=some (.tup [.str "all",.ref b])->H b=some (.tup vs)->2<=vs.length->vs.length<=6->cJ n H vs ts->jx n H (.ref a) (.all ts)
 | any {a b:Addr} {vs:Fk} {ts:List Tm}:H a=some (.tup [.str "any",.ref b])->H b=some (.tup vs)->2<=vs.length->vs.length<=6->cJ n H vs ts->jx n H (.ref a) (.any ts)
inductive cJ (n:Nat)(H:Hp):Fk->List Tm->Prop where
 | nil:cJ n H [] []
 | cons {v:V} {t:Tm} {vs:Fk} {ts:List Tm}:jx n H v t->cJ n H vs ts->cJ n H (v::vs) (t::ts)
end
mutual
theorem jx.aO {n:Nat}{H H':Hp}(e:∀ a xs,H a=some (HO.tup xs)->H' a=some (HO.tup xs)):∀ {v:V} {t:Tm},jx n H v t->jx n H' v t
 | _,_,.free h=>.free (e _ _ h)
 | _,_,.never h=>.never (e _ _ h)
 | _,_,.gives h a b c=>.gives (e _ _ h) a b c
 | _,_,.sum h h2 a b c d f g=>.sum (e _ _ h) (e _ _ h2) a b c d f g
 | _,_,.crowd h h2 a b c d f g i j=>.crowd (e _ _ h) (e _ _ h2) a b c d f g i j
 | _,_,.all h h2 a b r=>.all (e _ _ h) (e _ _ h2) a b (cJ.aO e r)
 | _,_,.any h h2 a b r=>.any (e _ _ h) (e _ _ h2) a b (cJ.aO e r)
theorem cJ.aO {n:Nat}{H H':Hp}(e:∀ a xs,H a=some (HO.tup xs)->H' a=some (HO.tup xs)):∀ {vs:Fk} {ts:List Tm},cJ n H vs ts->cJ n H' vs ts
 | _,_,.nil=>.nil
 | _,_,.cons h r=>.cons (jx.aO e h) (cJ.aO e r)
end
def jx.mono {n:Nat}{H H':Hp}(e:aG H H'){v:V}{t:Tm}(h:jx n H v t):jx n H' v t:=h.aO fun a xs q=>e a _ q
def cJ.mono {n:Nat}{H H':Hp}(e:aG H H'){vs:Fk}{ts:List Tm}(h:cJ n H vs ts):cJ n H' vs ts:=h.aO fun a xs q=>e a _ q
theorem cJ.length {n:Nat}{H:Hp}:∀ {vs:Fk} {ts:List Tm},cJ n H vs ts->vs.length=ts.length
 | _,_,.nil=>rfl
 | _,_,.cons _ r=>by rw[Wc,Wc,cJ.length r]
theorem cJ.get {n:Nat}{H:Hp}:∀ {vs:Fk} {ts:List Tm} {i:Nat} {v:V},cJ n H vs ts->vs[i]? = some v->∃ t,ts[i]? = some t/\jx n H v t
 | _,_,_,_,.nil,h=>by simp at h
 | _,_,0,_,.cons h _,e=>by
  cases (show some _=some _ from e);exact⟨O,h⟩
 | _,_,i+1,_,.cons _ r,e=>by
  obtain⟨t,e1,e2⟩:=cJ.get (i:=i) r (by simpa using e);exact⟨t,by simpa using e1,e2⟩
theorem cJ.snoc {n:Nat}{H:Hp}:∀ {vs:Fk} {ts:List Tm} {v:V} {t:Tm},cJ n H vs ts->jx n H v t->cJ n H (vs++[v]) (ts++[t])
 | _,_,_,_,.nil,h=>.cons h .nil
 | _,_,_,_,.cons a r,h=>.cons a (cJ.snoc r h)
theorem iw:∀ {ts:List Tm} {i:Nat} {t:Tm},ts[i]? = some t->t.dep<=tdL ts
 | [],_,_,h=>by simp at h
 | d::r,0,_,h=>by
  cases (show some d=some _ from h);rw[tdL];exact Nat.le_max_left _ _
 | d::r,i+1,_,h=>by
  rw[tdL];exact Wn (iw (i:=i) (ts:=r) (by simpa using h)) (Nat.le_max_right _ _)
theorem Bp {m:Nat}{t:Tm}(h:t.dep<=m):∀ {ts:List Tm},tdL ts<=m->tdL (ts++[t])<=m
 | [],_=>by simp only[ac4,tdL];lia
 | d::r,h2=>by
  rw[tdL] at h2;rw[acQ,tdL];have:=Bp (m:=m) h (ts:=r) (by lia);lia
theorem Tm.oA:∀ t:Tm,1<=t.dep
 | .free | .never | .gives .. | .sum .. | .crowd ..=>VP 1
 | .all ts=>by rw[Tm.dep];lia
 | .any ts=>by rw[Tm.dep];lia
theorem xZ:∀ {g:DU} {ts:List Tm} {i:Nat} {t:Tm},ts[i]? = some t->pL g (ts.take (i+1))=(pL g (ts.take i) && hF g t)
 | _,[],_,_,h=>by simp at h
 | g,d::r,0,t,h=>by
  cases (show some d=some _ from h);rw[Zc,pL,WD,WD,pL,Bool.and_true,ZC]
 | g,d::r,i+1,t,h=>by
  rw[Zc,pL,xZ (i:=i) (ts:=r) (by simpa using h),Zc,pL,Bool.and_assoc]
theorem yQ:∀ {g:DU} {ts:List Tm} {i:Nat} {t:Tm},ts[i]? = some t->pJ g (ts.take (i+1))=(pJ g (ts.take i) || hF g t)
 | _,[],_,_,h=>by simp at h
 | g,d::r,0,t,h=>by
  cases (show some d=some _ from h);rw[Zc,pJ,WD,WD,pJ,Bool.or_false,abl]
 | g,d::r,i+1,t,h=>by
  rw[Zc,pJ,yQ (i:=i) (ts:=r) (by simpa using h),Zc,pJ,Bool.or_assoc]
theorem uG:∀ {g:DU} {ts:List Tm} {i:Nat} {t:Tm},ts[i]? = some t->hF g t=false->pL g ts=false
 | _,[],_,_,h,_=>by simp at h
 | g,d::r,0,t,h,e=>by
  cases (show some d=some _ from h);rw[pL,e,Z1]
 | g,d::r,i+1,t,h,e=>by rw[pL,uG (i:=i) (ts:=r) (by simpa using h) e,aaw]
theorem ye:∀ {g:DU} {ts:List Tm} {i:Nat} {t:Tm},ts[i]? = some t->hF g t=true->pJ g ts=true
 | _,[],_,_,h,_=>by simp at h
 | g,d::r,0,t,h,e=>by
  cases (show some d=some _ from h);rw[pJ,e,Bool.true_or]
 | g,d::r,i+1,t,h,e=>by rw[pJ,ye (i:=i) (ts:=r) (by simpa using h) e,Z9]
def LeG (g g':DU):Prop:=∀ i,g.getD i 0<=g'.getD i 0
theorem uz (f f':Nat->Int)(h:∀ i,f i<=f' i):∀ c:DV,(c.map f).sum<=(c.map f').sum
 | []=>Yq _
 | i::c=>by
  have:=uz f f' h c;have:=h i;simp only[WR,Zb];lia
theorem filter_le (f f':Nat->Bool)(h:∀ i,f i=true->f' i=true):∀ c:DV,(c.filter f).length<=(c.filter f').length
 | []=>VP _
 | i::c=>by
  have ih:=filter_le f f' h c;rw[Zj,Zj];by_cases e:f i=true;{rw[iPo e,iPo (h i e),Wc,Wc];lia}
  ·rw[iNe e];split;{rw[Wc];lia};{exact ih}
mutual
theorem Bd {g g':DU}(l:LeG g g'):∀ t:Tm,hF g t=true->hF g' t=true
 | .free,_=>by rw[hF]
 | .never,h=>by rw[hF] at h;cases h
 | .gives i k,h=>by
  rw[hF] at h ⊢;have:=of_decide_eq_true h;have:=l i;exact dcT (by lia)
 | .sum c k,h=>by
  rw[hF] at h ⊢;have:=of_decide_eq_true h;have:=uz _ _ l c;exact dcT (by lia)
 | .crowd c k m,h=>by
  rw[hF] at h ⊢;have:=of_decide_eq_true h;have:=filter_le (fun i=>decide (k<=g.getD i 0)) (fun i=>decide (k<=g'.getD i 0)) (fun i e=>dcT (acB (of_decide_eq_true e) (l i))) c;exact dcT (by lia)
 | .all ts,h=>by
  rw[hF] at h ⊢;exact xr l ts h
 | .any ts,h=>by
  rw[hF] at h ⊢;exact yR l ts h
theorem xr {g g':DU}(l:LeG g g'):∀ ts:List Tm,pL g ts=true->pL g' ts=true
 | [],_=>by rw[pL]
 | t::r,h=>by
  rw[pL,Xl] at h;rw[pL,Bd l t h.1,xr l r h.2];rfl
theorem yR {g g':DU}(l:LeG g g'):∀ ts:List Tm,pJ g ts=true->pJ g' ts=true
 | [],h=>by rw[pJ] at h;cases h
 | t::r,h=>by
  rw[pJ,aan] at h;rw[pJ];rcases h with h | h;{rw[Bd l t h,Bool.true_or]};{rw[yR l r h,Z9]}
end
def aZ {c A B:Prop}[Decidable c](hc:¬ c)(h:B):if decide c=true then A else B:=by
 rw[dcF hc];exact bU h
def gU {c A B:Prop}[Decidable c](hc:c)(h:A):if decide c=true then A else B:=by
 rw[dcT hc];exact dh h
def Jo {a b:Wt}(h:a≠b):¬ V.str a=V.str b:=fun z=>h (by cases z;rfl)
def bf {a b:Wt}(h:a≠b:=by decide):¬ V.str a=V.str b:=Jo h
def atD {g:DU}{i:Nat}(h:i < g.length):atI (g.map V.int) (i:Int)=some (.int (g.getD i 0)):=by
 rw[jG h,V3,VN h];rfl
abbrev nY:Stmt:=top 25
abbrev lZ:Stmt:=top 26
abbrev zr:Stmt:=top 27
def qU:aB ["parts","giving","part"] X9 (aA nY):=bZ
def pM:aB ["parts","giving","part"] X9 (aA lZ):=bZ
def Cz:aB ["term","giving","kind"] YE (aA zr):=bZ
inductive eG (K:Ww)(d:Nat)(vs:Fk)(H:Hp)(Q:VK)(e3:XK):Prop where
 | mk (v:V) (g:Addr) (n:Nat) (t:Tm) (ns:DU) (_:vs=[v,.ref g]) (_:jx n H v t) (_:t.dep<=d) (_:SqT K H g (ns.map V.int)) (_:n<=ns.length) (_:∀ H',aG H H'->Q (.bl (hF ns t)) H')
inductive Mx (K:Ww)(d:Nat)(vs:Fk)(H:Hp)(Q:VK)(e3:XK):Prop where
 | mk (b g:Addr) (n:Nat) (us:Fk) (ts:List Tm) (ns:DU) (_:vs=[.ref b,.ref g]) (_:H b=some (.tup us)) (_:cJ n H us ts) (_:tdL ts<=d) (_:SqT K H g (ns.map V.int)) (_:n<=ns.length) (_:∀ H',aG H H'->Q (.bl (pL ns ts)) H')
inductive Nz (K:Ww)(d:Nat)(vs:Fk)(H:Hp)(Q:VK)(e3:XK):Prop where
 | mk (b g:Addr) (n:Nat) (us:Fk) (ts:List Tm) (ns:DU) (_:vs=[.ref b,.ref g]) (_:H b=some (.tup us)) (_:cJ n H us ts) (_:tdL ts<=d) (_:SqT K H g (ns.map V.int)) (_:n<=ns.length) (_:∀ H',aG H H'->Q (.bl (pJ ns ts)) H')
def DW:bh P w K mg base CX0 0 f fd YE (eG K 0):=by
 have no:∀ vs H Q E,¬ eG K 0 vs H Q E:=fun vs H Q E h=>by
  obtain⟨v,g,n,t,ns,_,_,h1,_⟩:=h;have:=t.oA;lia
 exact⟨fun vs H Q E h=>absurd h (no vs H Q E),fun A outer s H args us vs Q E _ _ _ _ h=>absurd h (no vs H Q E)⟩
def jA {d k:Nat} (F:Fun K "all_hold" "all_hold" nY f fd) (B:Bt mg)
  (PP:Df P w K mg base "holds" k YE (eG K d)):bh P w K mg base CX0 (k+1) f fd X9 (Mx K d):=by
 refine okA F qU fun H Q E hr h=>?_;obtain⟨b,g,n,us,ts,ns,rfl,hb,rp,hd,hg,hn,q⟩:=h
 refine⟨_,(aj (bW Wv U (cH (pv 0)) (pgN 2 qU.nd) (aF (ifR (dM (cu (aM PP hr (v2 2 1)))) dR)))
 (sR dR)),?_⟩
 have el:=rp.length;refine⟨O,b,U,⟨_,sqT hb⟩,dY (K:=K) (a:=b) (xs:=us) (fun i σ H2=>(∃ u,σ=[oR b,oR g,u])/\aG H H2/\pL ns (ts.take i)=true) ⟨⟨O⟩,aG.refl H,by rw[WD,pL]⟩ (fun i σ H2 _ h=>fM h.2.1 (sqT hb)) ?_ ?_⟩
 ·rintro i x σ H2 hx ⟨⟨u,rfl⟩,sm,ab⟩;obtain⟨t,ht,rt⟩:=rp.get hx;refine⟨R,x,g,n,t,ns,U,rt.mono sm,Wn (iw ht) hd,fM sm hg,hn,fun H3 s3=>⟨O,?_⟩⟩;cases e:hF ns t with
  | false =>
   have q':=q H3 (sm.trans s3);rw[uG ht e] at q';exact dh q'
  | true=>exact bU ⟨⟨O⟩,sm.trans s3,by rw[xZ ht,ab,e];rfl⟩
 ·rintro σ H2 ⟨⟨u,rfl⟩,sm,ab⟩;have q':=q H2 sm;rw[el,V1] at ab;rw[ab] at q';exact q'
def gF {d k:Nat} (F:Fun K "any_holds" "any_holds" lZ f fd) (B:Bt mg)
  (PP:Df P w K mg base "holds" k YE (eG K d)):bh P w K mg base CX0 (k+1) f fd X9 (Nz K d):=by
 refine okA F pM fun H Q E hr h=>?_;obtain⟨b,g,n,us,ts,ns,rfl,hb,rp,hd,hg,hn,q⟩:=h
 refine⟨_,(aj (bW Wv U (cH (pv 0)) (pgN 2 pM.nd) (aF (ifR (cu (aM PP hr (v2 2 1))) dR)))
 (sR dR)),?_⟩
 have el:=rp.length;refine⟨O,b,U,⟨_,sqT hb⟩,dY (K:=K) (a:=b) (xs:=us) (fun i σ H2=>(∃ u,σ=[oR b,oR g,u])/\aG H H2/\pJ ns (ts.take i)=false) ⟨⟨O⟩,aG.refl H,by rw[WD,pJ]⟩ (fun i σ H2 _ h=>fM h.2.1 (sqT hb)) ?_ ?_⟩
 ·rintro i x σ H2 hx ⟨⟨u,rfl⟩,sm,ab⟩;obtain⟨t,ht,rt⟩:=rp.get hx;refine⟨R,x,g,n,t,ns,U,rt.mono sm,Wn (iw ht) hd,fM sm hg,hn,fun H3 s3=>⟨O,?_⟩⟩;cases e:hF ns t with
  | true =>
   have q':=q H3 (sm.trans s3);rw[ye ht e] at q';exact dh q'
  | false=>exact bU ⟨⟨O⟩,sm.trans s3,by rw[yQ ht,ab,e];rfl⟩
 ·rintro σ H2 ⟨⟨u,rfl⟩,sm,ab⟩;have q':=q H2 sm;rw[el,V1] at ab;rw[ab] at q';exact q'
def qL {d k:Nat} (F:Fun K "holds" "holds" zr f fd) (B:Bt mg)
  (Pe:Df P w K mg base "all_hold" k X9 (Mx K d)) (Pf:Df P w K mg base "any_holds" k X9 (Nz K d)):bh P w K mg base CX0 (k+1) f fd YE (eG K (d+1)):=by
 refine okA F Cz fun H Q E hr h=>?_;obtain⟨v,g,n,t,ns,rfl,rt,hd,hg,hn,q⟩:=h
 refine⟨_,(aj (sT 2 Cz.nd (pxT K (pv 0) ao))
 (aj (ifR (aD bc (pv 2) aJ) (du kY (pxT K (pv 1) (pxT K (pv 0) ao)) (pxT K (pv 0) ao)))
 (aj (ifR (aD bc (pv 2) aJ) (du kY (aQ (r:=Ml K) (rm U) U B.sum_ HH (a1 (bC (L:=["one"]) (F:=["giving"]) (cap:=[1]) U (aY U U (by kernel_rfl)) (cH (pxT K (pv 0) ao)) (fun _ _ _ _ _=>(pgC 0)) (fun _ _ _ _ _=>bI) (fun _ _ _ _ _=>(pxT K (pv 1) (pv 0)))))) (pxT K (pv 0) ao)))
 (aj (ifR (aD bc (pv 2) aJ) (du kY (pln K B.len_ (bC (L:=["one"]) (F:=["giving","term"]) (cap:=[1,0]) U (aY U U (by kernel_rfl)) (cH (pxT K (pv 0) ao)) (fun _ _ _ _ _=>(pgC 0)) (fun _ _ _ _ _=>(jk (aD kY (pxT K (pv 1) (pv 0)) (pxT K (pv 2) ao)))) (fun _ _ _ _ _=>(pv 0)))) (pxT K (pv 0) ao)))
 (aj (ifR (aD bc (pv 2) aJ) (aM Pe hr (aq (pxT K (pv 0) ao) (v1 1))))
 (aj (ifR (aD bc (pv 2) aJ) (aM Pf hr (aq (pxT K (pv 0) ao) (v1 1))))
 (sR (du bc (pv 2) aJ)))))))),?_⟩
 cases rt with
 | @free a ha =>
  refine⟨O,a,Y,sqT ha,gt0,T,aZ bf ⟨T,aZ bf ⟨T,aZ bf ⟨T,aZ bf ⟨T,aZ bf ⟨O,U,?_⟩⟩⟩⟩⟩⟩;have q':=q H (aG.refl H);rw[hF] at q';rw[dcT U];exact q'
 | @never a ha =>
  refine⟨O,a,Y,sqT ha,gt0,T,aZ bf ⟨T,aZ bf ⟨T,aZ bf ⟨T,aZ bf ⟨T,aZ bf ⟨O,U,?_⟩⟩⟩⟩⟩⟩;have q':=q H (aG.refl H);rw[hF] at q';rw[dcF bf];exact q'
 | @gives a i k ha hi _ _ =>
  refine⟨O,a,Y,sqT ha,gt0,T,gU U ⟨R,a,Y,sqT ha,gt1,g,Y,hg,atD (by lia),O,a,Y,sqT ha,gt2,M,?_⟩⟩;have q':=q H (aG.refl H);rw[hF] at q';exact q'
 | @sum a b c k ha hb hc _ hl _ _ _ =>
  refine⟨O,a,Y,sqT ha,gt0,T,aZ bf ⟨T,gU U ?_⟩⟩
  refine⟨O,a,Y,sqT ha,gt1,b,U,⟨_,sqT hb⟩,fun D hD=>cj (K:=K) (a:=b) (xs:=c.map vN) (fun i zs σ' H2=>(∃ u,σ'=[u,oR g])/\zs=((c.take i).map fun i=>ns.getD i 0).map V.int/\aG H H2/\H2 D=some (.lst zs))
   ⟨⟨O⟩,U,au hD _,aa⟩ (fun i zs σ' H2 _ h=>⟨fM h.2.2.1 (sqT hb),h.2.2.2⟩) ?_ ?_⟩
  ·rintro j zs x σ' H2 hx ⟨⟨u,rfl⟩,e1,sm,hDl⟩;obtain⟨i,hi,rfl⟩:=uV hx;have hin:i < n:=hc i (Wk hi);refine gT ?_;refine⟨R,g,Y,fM sm hg,atD (by lia),hDl,?_,⟨O⟩,?_,aK sm hD _,aa⟩;{rw[e1,VH,VH,Wa];exact aH (by lia)};{rw[e1,Wj,hi,VV,VV];rfl}
  ·rintro zs σ' H2 ⟨⟨u,rfl⟩,e1,sm,hDl⟩;rw[VH,V1] at e1;refine⟨D,O,sqL (by rw[hDl,e1]),O,a,Y,sqT (sm _ _ ha),gt2,M,?_⟩;have q':=q H2 sm;rw[hF] at q';exact q'
 | @crowd a b c k m ha hb hc _ hl _ _ _ _ _ =>
  refine⟨O,a,Y,sqT ha,gt0,T,aZ bf ⟨T,aZ bf ⟨T,gU U ?_⟩⟩⟩
  refine⟨O,a,Y,sqT ha,gt1,b,U,⟨_,sqT hb⟩,fun D hD=>cj (K:=K) (a:=b) (xs:=c.map vN) (fun i zs σ' H2=>(∃ u,σ'=[u,oR g,oR a])/\zs=((c.take i).filter fun i=>decide (k<=ns.getD i 0)).map vN/\aG H H2/\H2 D=some (.lst zs))
   ⟨⟨O⟩,U,au hD _,aa⟩ (fun i zs σ' H2 _ h=>⟨fM h.2.2.1 (sqT hb),h.2.2.2⟩) ?_ ?_⟩
  ·rintro j zs x σ' H2 hx ⟨⟨u,rfl⟩,e1,sm,hDl⟩;obtain⟨i,hi,rfl⟩:=uV hx;have hin:i < n:=hc i (Wk hi);have et:c.take (j+1)=c.take j++[i]:=by rw[Wj,hi];rfl
   refine⟨R,g,Y,fM sm hg,atD (by lia),O,a,Y,sqT (sm _ _ ha),gt2,M,O,?_⟩;refine kI (fun cc=>?_) (fun cc=>?_)
   ·refine⟨O,hDl,?_,⟨O⟩,?_,aK sm hD _,aa⟩;{rw[e1,VH];have:=WW (fun i=>decide (k<=ns.getD i 0)) (c.take j);rw[Wa] at this;exact aH (by lia)};{rw[e1,et,YX,VV,Zj,iPo cc];rfl}
   ·refine⟨⟨O⟩,?_,sm,hDl⟩;rw[e1,et,YX,Zj,iNe cc];simp
  ·rintro zs σ' H2 ⟨⟨u,rfl⟩,e1,sm,hDl⟩;rw[VH,V1] at e1;refine⟨D,O,.inl (sqL (by rw[hDl,e1])),O,a,Y,sqT (sm _ _ ha),dw (k:=3) U,M,?_⟩;have q':=q H2 sm;rw[hF] at q';rw[VH];exact q'
 | @all a b us ts ha hb _ _ rl =>
  refine⟨O,a,Y,sqT ha,gt0,T,aZ bf ⟨T,aZ bf ⟨T,aZ bf ⟨T,gU U ⟨O,a,Y,sqT ha,gt1,O,b,g,n,us,ts,ns,U,hb,rl,?_,hg,hn,fun H' s'=>?_⟩⟩⟩⟩⟩;{rw[Tm.dep] at hd;lia};{have q':=q H' s';rw[hF] at q';exact q'}
 | @any a b us ts ha hb _ _ rl =>
  refine⟨O,a,Y,sqT ha,gt0,T,aZ bf ⟨T,aZ bf ⟨T,aZ bf ⟨T,aZ bf ⟨T,gU U ⟨O,a,Y,sqT ha,gt1,O,b,g,n,us,ts,ns,U,hb,rl,?_,hg,hn,fun H' s'=>?_⟩⟩⟩⟩⟩⟩;{rw[Tm.dep] at hd;lia};{have q':=q H' s';rw[hF] at q';exact q'}
def n8 {t u:TS}{D:Ends}{σ:St}{H:Hp}(P:St->Hp->Prop)(h2:∀ σ H,P σ H->u D σ H)(h1:∀ N:St->Hp->Prop,(∀ σ H,P σ H->N σ H)->t { D with nx:=N } σ H):JG t u D σ H:=h1 (u D) h2
def vG {A B:TT}{t u:TS}{D:Ends}{σ:St}{H:Hp}(b1 b2:Bool)(R:Hp->Prop)(hA:∀ Q:Bool->Hp->Prop,(∀ H1,R H1->Q b1 H1)->A σ H Q)(hB:∀ H1,R H1->∀ Q:Bool->Hp->Prop,Q b2 H1->B σ H1 Q)
  (ht:∀ H1,R H1->b1=true->b2=true->t D σ H1) (hu:∀ H1,R H1->(b1=true->b2=false)->u D σ H1):JK (U8 A B) t u D σ H:=by
 refine hA _ fun H1 r1=>?_;show if b1=true then B σ H1 (fun b H2=>if b=true then t D σ H2 else u D σ H2) else (if false=true then t D σ H1 else u D σ H1)
 cases b1 with
 | false=>exact bU (bU (hu H1 r1 fun z=>by cases z))
 | true =>
  refine dh (hB H1 r1 _ ?_);cases b2 with
  | false=>exact bU (hu H1 r1 fun _=>U)
  | true=>exact dh (ht H1 r1 U U)
def gN {i:Nat}{x:V}{σ:St}{H:Hp}{P:St->Hp->Prop}(h:P (σ.set i (some x)) H):rK i x σ H P:=h
def nN {D:Ends}{σ:St}{H:Hp}(h:D.nx σ H):Ly D σ H:=h
abbrev o5:Stmt:=top 69
def fX:aB ["_law_cell_here","_law_n","_law_deep","_law_most","_law_drawn","_law_parts","_law_crowd_here"] VT (aA o5):=bZ
inductive uM (d:Nat)(vs:Fk)(H:Hp)(Q:VK)(e3:XK):Prop where
 | mk (c:Int) (n:Nat) (deep most:Int) (_:vs=[.int c,.int (n:Int),.int deep,.int most]) (_:1<=n) (_:n<=12) (_:1<=deep) (_:deep<=(d:Int)) (_:1<=most) (_:most<=9) (_:∀ (v:V) (t:Tm) (H':Hp),aG H H'->jx n H' v t->(t.dep:Int)<=deep->Q v H')
def term_none:bh P w K mg base CX0 1 f fd VT (uM 0):=by
 have no:∀ vs H Q E,¬ uM 0 vs H Q E:=fun vs H Q E h=>by
  obtain⟨c,n,deep,most,_,_,_,h1,h2,_⟩:=h;lia
 exact⟨fun vs H Q E h=>absurd h (no vs H Q E),fun A outer s H args us vs Q E _ _ _ _ h=>absurd h (no vs H Q E)⟩
def mD {d:Nat} (F:Fun K "_law_term" "_law_term" o5 f fd) (B:Bt mg)
  (QN:Df P w K mg base "_law_draws" 1 WH (oF K)) (Si:Df P w K mg base "_law_under" 1 WS vy) (QA:Df P w K mg base "_law_crowd" 1 XU Aj)
  (Se:Df P w K mg base "_law_term" (d+1) VT (uM d)):bh P w K mg base CX0 (d+2) f fd VT (uM (d+1)):=by
 refine okA F fX fun H Q E hr h=>?_;obtain⟨c,n,deep,most,rfl,n1,n12,de1,ded,m1,m9,q⟩:=h
 refine⟨_,(aj (sT 4 fX.nd (aM QN hr (aq (pv 0) (a1 (aV (aq ao (aq ao (aq ao (aq ao (a1 ao))))))))))
 (aj (cP (PW.pt (jW (aD rZ (pxL K (pv 4) ao) ao) (fO (aD mG (pv 2) ao)))) (aj (qZ (L:=["_law_k"]) (F:=["_law_n","_law_most","_law_cell_here","_law_deep"]) (cap:=[1,3,0,2]) (j:=5) fX.nd U (aas U) U (aY U U (by kernel_rfl)) (bQ U B.range_ (a1 (aN bF ao (aN bM (pxL K (pv 4) ao) ao)))) (fun _ _ _ _ _=>(pgC 0)) (fun _ _ _ _ _=>bI) (fun _ _ _ _ _=>(aM Se hr (aq (aM Si hr (v2 3 0)) (aq (pv 1) (aq (aN eQ (pv 4) ao) (v1 2)))))))
 (sR (aU (aq (pxL K (aV (aq aJ (a1 aJ))) (pxL K (pv 4) ao)) (a1 (aR (r:=eY K) bj U B.tuple_ bH (v1 5))))))) aX)
 (aj (sT 6 fX.nd (aM QA hr (aq (pxL K (pv 4) ao) (v1 1))))
 (aj (cP (aD (r:=NT K) (GQ hr.iJ) (pv 6) (aU cL)) (aF (sT 6 fX.nd (aU (a1 (aN bM (pxL K (pv 4) ao) (pv 1)))))) aX)
 (aj (ifR (PW.pt (jW (fj (r:=rIn K false) dq (pxL K (pv 4) ao) (aU (aq ao (a1 ao))) U) (fO (aD mG (pln K B.len_ (pv 6)) ao)))) (aU (aq aJ (aq (pv 6) (a1 (aN bF ao (aN bM (aN bF (aN gm ao (pxL K (pv 4) ao)) (pxL K (pv 4) ao)) (aQ (Fx U) U B.min_ Sh (aq ao (a1 (aN gm (pv 3) (pln K B.len_ (pv 6)))))))))))))
 (aj (ifR (aD bc (pxL K (pv 4) ao) ao) (aU (aq aJ (aq (pv 6) (aq (aN bF ao (aN bM (pxL K (pv 4) ao) (pv 3))) (a1 (aN bF ao (aN bM (pxL K (pv 4) ao) (pln K B.len_ (pv 6))))))))))
 (aj (ifR (aD bc (pxL K (pv 4) ao) ao) (aU (a1 (pxL K (aV (aq aJ (aq aJ (a1 aJ)))) (aN bM (pxL K (pv 4) ao) ao)))))
 (sR (aU (aq aJ (aq (aN bM (pxL K (pv 4) ao) (pv 1)) (a1 (aN bF ao (aN bM (pxL K (pv 4) ao) (pv 3))))))))))))))),?_⟩
 refine⟨O,smN 5,fun p1 h1=>?_⟩;generalize eH1:upd H p1 _=H1;obtain⟨g1,e1⟩:=aC eH1 h1;refine⟨c,p1,[9,12,9,4096,12],U,sqL e1,by decide,by decide,fun p2 h2=>?_⟩;generalize eH2:upd H1 p2 _=H2;obtain⟨g2,e2⟩:=aC eH2 h2;have hps:∀ q∈([9,12,9,4096,12]:DU),0 < q:=by decide
 obtain⟨d0,k0,b0⟩:=cN (c:=qJ c) (i:=0) hps U;obtain⟨d1,k1,b1⟩:=cN (c:=qJ c) (i:=1) hps U;obtain⟨d2,k2,b2⟩:=cN (c:=qJ c) (i:=2) hps U;obtain⟨d3,k3,b3⟩:=cN (c:=qJ c) (i:=3) hps U;obtain⟨d4,k4,b4⟩:=cN (c:=qJ c) (i:=4) hps U;have a0:=dw (gW k0);have a1:=dw (gW k1);have a2:=dw (gW k2);have a3:=dw (gW k3);have a4:=dw (gW k4);change _=some (HO.lst ((zf (qJ c) [9,12,9,4096,12]).map V.int)) at e2;generalize zf (qJ c) [9,12,9,4096,12]=ds at *;have gH:aG H H2:=g1.trans g2;refine gN ?_;dsimp only;show JG (JK _ _ _) _ _ _ _;refine n8 (fun σ H3=>σ=[oI c,some (.int (n:Int)),oI deep,oI most,oR p2,none,none]/\H2=H3) ?rest (fun _ R=>?_)
 case rest =>
  rintro σ H3 ⟨rfl,rfl⟩;refine⟨O,p2,Y,sqL e2,a3,O,d3,n,U,by lia,fun cs r3 H3 hc hp hl s3 f3 e3=>?_⟩;refine gN ?_;dsimp only;show JG (JK _ _ _) _ _ _ _;refine n8 (fun σ H5=>∃ (rc:Addr) (cs:DV),σ=[oI c,some (.int (n:Int)),oI deep,oI most,oR p2,none,oR rc]/\aG H2 H5/\H5 rc=some (.tup (cs.map vN))/\(∀ i∈cs,i < n)/\cs.Pairwise (· < ·)/\cs.length<=n/\1<=cs.length) ?rest2 (fun _ R=>?_)
  case rest2 =>
   rintro σ H5 ⟨rc,cs,rfl,s5,e5,hc,hp,hl,h1l⟩;have e2':=s5 _ _ e2;have lenr:((cs.map vN).length:Int)=(cs.length:Int):=by rw[VH]
   show JG (JK _ _ _) _ _ _ _;refine n8 (fun σ H6=>σ=[oI c,some (.int (n:Int)),oI deep,oI most,oR p2,none,oR rc]/\aG H5 H6) ?rest3 (fun _ R=>?_)
   case rest3 =>
    rintro σ H6 ⟨rfl,s6⟩;have e2':=s6 _ _ e2';have e5:=s6 _ _ e5;have s56:aG H H6:=gH.trans (s5.trans s6);refine⟨O,p2,Y,sqL e2',a0,U,O,?_⟩;refine kI (fun _=>?_) (fun _=>?_)
    ·refine⟨R,p2,Y,sqL e2',a2,O,M,(by show (0:Int) < most;lia),_,_,U,U,_,U,p2,_,_,_,U,U,sqL e2',a4,_,U,rc,_,U,.inr (sqT e5),_,_,U,U,?_,_,_,U,U,smN 4,fun p7 h7=>?_⟩;{rw[lenr];lia}
     ·have u1:0<=d2 % most:=WN _ (by lia);have u2:d2 % most < most:=Wu _ (by lia);have u3:0<=d4 % ((cs.map vN).length:Int):=WN _ (by rw[lenr];lia);have u4:d4 % ((cs.map vN).length:Int) < (cs.length:Int):=by
       have:=Wu d4 (b:=((cs.map vN).length:Int)) (by rw[lenr];lia);rw[lenr] at this ⊢;exact this
      refine q (.ref p7) (.crowd cs (1+d2 % most) (1+d4 % ((cs.map vN).length:Int))) _ (s56.trans (au h7 _)) (.crowd aa (au h7 _ _ _ e5) hc hp (by lia) h1l (by lia) (by lia) (by lia) (by lia)) ?_;exact de1
    ·refine⟨O,p2,Y,sqL e2',a0,U,O,?_⟩;refine kI (fun _=>?_) (fun _=>?_)
     ·refine⟨smN 3,fun p7 h7=>?_⟩;generalize eH7:upd H6 p7 _=H7;obtain⟨g7,e7⟩:=aC eH7 h7;have u1:0<=d1 % 3:=WN _ (by lia);have u2:d1 % 3 < 3:=Wu _ (by lia);have fin:∀ p8 (x:Wt),H7 p8=none->(x = "free"∨x = "never")->Q (.ref p8) (upd H7 p8 (.tup [.str x])):=fun p8 x h8 hx=>by
       rcases hx with rfl | rfl;{refine q (.ref p8) .free _ (s56.trans (g7.trans (au h8 _))) (.free aa) ?_;exact de1};{refine q (.ref p8) .never _ (s56.trans (g7.trans (au h8 _))) (.never aa) ?_;exact de1}
      refine⟨O,p2,Y,sqL (g7 _ _ e2'),a1,M,(by show (0:Int) < 3;decide),?_⟩;rcases (show d1 % 3=0∨d1 % 3=1∨d1 % 3=2 by lia) with z | z | z;{exact⟨p7,Y,sqL e7,by rw[z];rfl,smN 1,fun p8 h8=>fin p8 _ h8 (.inl U)⟩};{exact⟨p7,Y,sqL e7,by rw[z];rfl,smN 1,fun p8 h8=>fin p8 _ h8 (.inl U)⟩};{exact⟨p7,Y,sqL e7,by rw[z];rfl,smN 1,fun p8 h8=>fin p8 _ h8 (.inr U)⟩}
     ·have u1:0<=d1 % (n:Int):=WN _ (by lia);have u2:d1 % (n:Int) < (n:Int):=Wu _ (by lia);have u3:0<=d2 % most:=WN _ (by lia);have u4:d2 % most < most:=Wu _ (by lia);refine⟨O,p2,Y,sqL e2',a1,O,M,(by show (0:Int) < (n:Int);lia),_,U,p2,_,_,_,U,U,sqL e2',a2,_,U,_,_,U,U,(by show (0:Int) < most;lia),_,_,U,U,smN 3,fun p7 h7=>?_⟩;obtain⟨i,hi⟩:=Xu u1;rw[hi] at u2;refine q (.ref p7) (.gives i (1+d2 % most)) _ (s56.trans (au h7 _)) (.gives (aa.trans (by show some (HO.tup [V.str "gives",V.int (d1 % (n:Int)),V.int (1+d2 % most)])=some (HO.tup [V.str "gives",V.int (i:Int),V.int (1+d2 % most)]);rw[hi])) (by lia) (by lia) (by lia)) ?_;exact de1
   ·refine vG (inV (.int d0) [.int 3,.int 4]) (decide (1 < (cs.length:Int))) (fun H6=>aG H5 H6) (fun Q' hQ=>?_) (fun H6 s6 Q' hQ=>?_) (fun H6 s6 _ hl2=>?_) (fun H6 s6 _=>R _ _ ⟨U,s6⟩);{refine⟨O,p2,Y,sqL e2',a0,smN 2,fun p6 h6=>⟨p6,O,.inr (sqT aa),U,U,O,hQ _ (au h6 _)⟩⟩};{refine⟨O,rc,O,.inr (sqT (s6 _ _ e5)),M,O,?_⟩;rw[lenr];exact hQ}
    ·have e2':=s6 _ _ e2';have e5:=s6 _ _ e5;have s56:aG H H6:=gH.trans (s5.trans s6);have hl3:(1:Int) < (cs.length:Int):=of_decide_eq_true hl2;refine⟨R,p2,Y,sqL e2',a1,M,.inl ⟨by decide,by decide⟩,_,U,p2,_,_,_,U,U,sqL e2',a2,_,_,U,U,_,U,_,U,rc,_,U,.inr (sqT e5),_,_,U,U,.inl ⟨by lia,by lia⟩,_,_,U,?_⟩;have pz:0 < most * ((cs.map vN).length:Int):=by
      rw[lenr];exact Int.mul_pos (by lia) (by lia)
     generalize hz:(if most * ((cs.map vN).length:Int) < 99 then most * ((cs.map vN).length:Int) else 99)=z
     have z1:0 < z:=by
      rw[← hz];split <;> lia
     have z2:z<=99:=by
      rw[← hz];split <;> lia
     have u3:0<=(9 * d1+d2) % z:=WN _ (by lia);have u4:(9 * d1+d2) % z < z:=Wu _ z1;refine⟨M,z1,M,smN 3,fun p7 h7=>?_⟩;refine q (.ref p7) (.sum cs (1+(9 * d1+d2) % z)) _ (s56.trans (au h7 _)) (.sum aa (au h7 _ _ _ e5) hc hp (by lia) (by lia) (by lia) (by lia)) ?_;exact de1
  ·refine⟨O,smN 0,fun p4 h4=>?_⟩;have e3':SqT K H3 r3 ((cs.map fun i:Nat=>(i:Int)).map V.int):=by rw[← jq];exact sqT e3
   have g4:aG H3 (upd H3 p4 (.tup [])):=au h4 _;refine⟨r3,p4,cs.map (fun i:Nat=>(i:Int)),[],U,U,fM g4 e3',sqT aa,_,U,?_⟩;refine kI (fun ce=>?_) (fun ce=>?_);{have u1:0<=d4 % (n:Int):=WN _ (by lia);have u2:d4 % (n:Int) < (n:Int):=Wu _ (by lia);refine⟨O,p2,Y,sqL (g4 _ _ (s3 _ _ e2)),a4,O,M,(by show (0:Int) < (n:Int);lia),smN 1,fun p5 h5=>?_⟩;obtain⟨i,hi⟩:=Xu u1;rw[hi] at u2;refine R _ _ ⟨p5,[i],U,s3.trans (g4.trans (au h5 _)),aa.trans (by show some (HO.tup [V.int (d4 % (n:Int))])=some (HO.tup [V.int (i:Int)]);rw[hi]),?_,by simp,n1,VP _⟩;intro j hj;rw[Ym] at hj;lia}
   ·refine R _ _ ⟨r3,cs,U,s3.trans g4,g4 _ _ e3,hc,hp,hl,?_⟩;cases cs with
    | nil=>exact absurd (dcT U) ce
    | cons x xs=>rw[Wc];lia
 ·refine vG (decide (d0 < 2)) (decide (1 < deep)) (fun H3=>H2=H3) (fun Q' hQ=>?_) (fun H3 e Q' hQ=>?_) (fun H3 e c1 c2=>?_) (fun H3 e _=>R _ _ ⟨U,e⟩);{exact⟨O,p2,Y,sqL e2,a0,M,O,hQ _ U⟩};{exact⟨O,M,O,hQ⟩}
  ·subst e;have c1:d0 < 2:=of_decide_eq_true c1;have c2:1 < deep:=of_decide_eq_true c2;have u1:0<=d4 % 5:=WN _ (by lia);have u2:d4 % 5 < 5:=Wu _ (by lia)
   refine⟨O,p2,Y,sqL e2,a4,M,(by show (0:Int) < 5;decide),_,_,U,U,_,U,by lia,by lia,fun D hD=>cR (lo:=0) (n:=(2+d4 % 5).toNat)
    (fun i zs σ' H5=>(∃ u,σ'=[u,some (.int (n:Int)),oI most,oI c,oI deep])/\aG H2 H5/\H5 D=some (.lst zs)/\zs.length=i/\∃ ts,cJ n H5 zs ts/\(tdL ts:Int)<=deep - 1)
    ⟨⟨O⟩,au hD _,aa,U,[],.nil,by rw[tdL];lia⟩ (fun i zs σ' H5 _ h=>h.2.2.1) ?_ ?_⟩
   ·rintro i zs σ' H5 hi ⟨⟨u,rfl⟩,s5,eD,lz,ts,rt,td⟩;refine gT ?_;refine⟨R,c,i,by rw[YD];rfl,by lia,_,U,_,U,_,_,U,U,_,U,Oc c i,n,deep - 1,most,U,n1,n12,by lia,by lia,m1,m9,fun v t H6 s6 r6 d6=>?_⟩;refine⟨s6 _ _ eD,?_,⟨O⟩,aK (s5.trans s6) hD _,aa,?_,ts++[t],?_,?_⟩;{exact aH (by lia)};{rw[V6,lz];rfl};{have s7:=bR (zs':=zs++[v]) (s6 _ _ eD);exact ((rt.mono s6).aO s7).snoc (r6.aO s7)};{have:=Bp (m:=(deep - 1).toNat) (t:=t) (by lia) (ts:=ts) (by lia);lia}
   ·rintro zs σ' H5 ⟨⟨u,rfl⟩,s5,eD,lz,ts,rt,td⟩;refine⟨smN 2,fun p6 h6=>?_⟩;generalize eH6:upd H5 p6 _=H6;obtain⟨g6,e6⟩:=aC eH6 h6;refine⟨O,p2,Y,sqL (g6 _ _ (s5 _ _ e2)),a0,?_⟩;rcases (show d0=0∨d0=1 by lia) with z | z;{subst z;refine⟨p6,Y,sqL e6,U,O,D,O,.inl ⟨sqL (g6 _ _ eD),fun p7 h7=>?_⟩⟩;generalize eH7:upd H6 p7 _=H7;obtain⟨g7,e7⟩:=aC eH7 h7;refine⟨smN 2,fun p8 h8=>?_⟩;refine q (.ref p8) (.all ts) _ (gH.trans (s5.trans (g6.trans (g7.trans (au h8 _))))) (.all aa (au h8 _ _ _ e7) (by lia) (by lia) (rt.mono (g6.trans (g7.trans (au h8 _))))) ?_;rw[Tm.dep];lia};{subst z;refine⟨p6,Y,sqL e6,U,O,D,O,.inl ⟨sqL (g6 _ _ eD),fun p7 h7=>?_⟩⟩;generalize eH7:upd H6 p7 _=H7;obtain⟨g7,e7⟩:=aC eH7 h7;refine⟨smN 2,fun p8 h8=>?_⟩;refine q (.ref p8) (.any ts) _ (gH.trans (s5.trans (g6.trans (g7.trans (au h8 _))))) (.any aa (au h8 _ _ _ e7) (by lia) (by lia) (rt.mono (g6.trans (g7.trans (au h8 _))))) ?_;rw[Tm.dep];lia}
def Bv (ns:DU)(lo hi:DL):∃ ks:DU,wj (ns.map V.int) lo hi=ks.map V.int/\ks.length<=ns.length:=by
 unfold wj;generalize HT.sIx _ _ lo=x;generalize HT.sIx _ _ hi=y;refine⟨(ns.drop x).take (y - x),by rw[List.map_take,List.map_drop],?_⟩;rw[Wa,Z8];lia
theorem vY:∀ (ns acc:DU),acc.Nodup->(ns.foldl Xz acc).Nodup
 | [],acc,h=>h
 | n::r,acc,h=>by
  rw[W9];refine vY r _ ?_;unfold Xz;split;{exact h};{rename_i z;rw[acz];refine⟨h,by simp,fun a ha b hb e=>?_⟩;rw[Ym] at hb;subst hb;subst e;exact z (List.any_eq_true.mpr ⟨a,ha,beq_self_eq_true a⟩)}
theorem GF:∀ (ns acc:DU),(ns.foldl Xz acc).length<=acc.length+ns.length
 | [],acc=>by simp
 | n::r,acc=>by
  rw[W9];refine Wn (GF r _) ?_;unfold Xz;split;{rw[Wc];lia};{simp only[V6,Wc,List.length_nil];lia}
def CK (ns:DU):ddI ns=ns.foldl Xz []:=by
 unfold ddI PyProof.Rows.firstMet;congr 1;apply List.ext_getElem?;intro i;rw[Wf];by_cases h:i < ns.length;{rw[Zd h,VN h];simp [V3,VN h]};{have e1:(Xb ns.length)[i]? = none:=X8 (by rw[WQ];lia);rw[e1,X8 (by lia)];rfl}
theorem j8:∀ {a b:DU},a.Perm b->a.Pairwise (·<=·)->b.Pairwise (·<=·)->a=b
 | [],b,p,_,_=>(List.Perm.nil_eq p)
 | x::a,[],p,_,_=>absurd p.length_eq (by simp)
 | x::a,y::b,p,ha,hb=>by
  rw[Yl] at ha hb;have h1:x<=y:=by
   rcases List.mem_cons.mp (p.mem_iff.mpr V0) with h | h;{lia};{exact ha.1 y h}
  have h2:y<=x:=by
   rcases List.mem_cons.mp (p.mem_iff.mp V0) with h | h;{lia};{exact hb.1 x h}
  have e:x=y:=by lia
  subst e;rw[j8 (List.Perm.cons_inv p) ha.2 hb.2]
abbrev Pl:=List (Int × Tm)
inductive dF (n:Nat)(H:Hp):Fk->Pl->Prop where
 | nil:dF n H [] []
 | cons {r:Addr} {k:Int} {v:V} {t:Tm} {vs:Fk} {ps:Pl}:H r=some (.tup [.int k,v])->jx n H v t->dF n H vs ps->dF n H (.ref r::vs) ((k,t)::ps)
theorem dF.aO {n:Nat}{H H':Hp}(e:∀ a xs,H a=some (HO.tup xs)->H' a=some (HO.tup xs)):∀ {vs:Fk} {ps:Pl},dF n H vs ps->dF n H' vs ps
 | _,_,.nil=>.nil
 | _,_,.cons h t r=>.cons (e _ _ h) (t.aO e) (dF.aO e r)
theorem dF.length {n:Nat}{H:Hp}:∀ {vs:Fk} {ps:Pl},dF n H vs ps->vs.length=ps.length
 | _,_,.nil=>rfl
 | _,_,.cons _ _ r=>by rw[Wc,Wc,dF.length r]
theorem dF.get {n:Nat}{H:Hp}:∀ {vs:Fk} {ps:Pl} {i:Nat} {v:V},dF n H vs ps->vs[i]? = some v->∃ r k u t,v = .ref r/\H r=some (.tup [.int k,u])/\jx n H u t/\ps[i]? = some (k,t)
 | _,_,_,_,.nil,h=>by simp at h
 | _,_,0,_,.cons h t _,e=>by
  cases (show some _=some _ from e);exact⟨_,_,N,h,t,U⟩
 | _,_,i+1,_,.cons _ _ r,e=>by
  obtain⟨a,k,u,t,h1,h2,h3,h4⟩:=dF.get (i:=i) r (by simpa using e);exact⟨a,k,u,t,h1,h2,h3,by simpa using h4⟩
theorem dF.snoc {n:Nat}{H:Hp}{r:Addr}{k:Int}{v:V}{t:Tm}(h:H r=some (.tup [.int k,v]))(ht:jx n H v t):∀ {vs:Fk} {ps:Pl},dF n H vs ps->dF n H (vs++[.ref r]) (ps++[(k,t)])
 | _,_,.nil=>.cons h ht .nil
 | _,_,.cons a b c=>.cons a b (dF.snoc h ht c)
def okP (p:Pl):Prop:=p≠[]/\p.length<=9/\(p.map (·.1)).Pairwise (· < ·)/\∀ x∈p,1<=x.1/\x.1<=9/\x.2.dep<=4
def mH (n:Nat)(H:Hp)(a:Addr)(p:Pl):Prop:=okP p/\∃ vs,H a=some (.tup vs)/\dF n H vs p
def mH.aO {n:Nat}{H H':Hp}{a:Addr}{p:Pl}(e:∀ a xs,H a=some (HO.tup xs)->H' a=some (HO.tup xs))(h:mH n H a p):mH n H' a p:=by
 obtain⟨ok,vs,h1,h2⟩:=h;exact⟨ok,vs,e _ _ h1,h2.aO e⟩
def mH.mono {n:Nat}{H H':Hp}{a:Addr}{p:Pl}(e:aG H H')(h:mH n H a p):mH n H' a p:=h.aO fun a xs q=>e a _ q
inductive d8 (n:Nat)(H:Hp):DM->List Pl->Prop where
 | nil:d8 n H [] []
 | cons {a:Addr} {p:Pl} {as:DM} {ps:List Pl}:mH n H a p->d8 n H as ps->d8 n H (a::as) (p::ps)
theorem d8.aO {n:Nat}{H H':Hp}(e:∀ a xs,H a=some (HO.tup xs)->H' a=some (HO.tup xs)):∀ {as:DM} {ps:List Pl},d8 n H as ps->d8 n H' as ps
 | _,_,.nil=>.nil
 | _,_,.cons h r=>.cons (h.aO e) (d8.aO e r)
theorem d8.length {n:Nat}{H:Hp}:∀ {as:DM} {ps:List Pl},d8 n H as ps->as.length=ps.length
 | _,_,.nil=>rfl
 | _,_,.cons _ r=>by rw[Wc,Wc,d8.length r]
theorem d8.get {n:Nat}{H:Hp}:∀ {as:DM} {ps:List Pl} {i:Nat} {a:Addr},d8 n H as ps->as[i]? = some a->∃ p,ps[i]? = some p/\mH n H a p
 | _,_,_,_,.nil,h=>by simp at h
 | _,_,0,_,.cons h _,e=>by
  cases (show some _=some _ from e);exact⟨O,h⟩
 | _,_,i+1,_,.cons _ r,e=>by
  obtain⟨p,h1,h2⟩:=d8.get (i:=i) r (by simpa using e);exact⟨p,by simpa using h1,h2⟩
theorem d8.snoc {n:Nat}{H:Hp}{a:Addr}{p:Pl}(h:mH n H a p):∀ {as:DM} {ps:List Pl},d8 n H as ps->d8 n H (as++[a]) (ps++[p])
 | _,_,.nil=>.cons h .nil
 | _,_,.cons x r=>.cons x (d8.snoc h r)
inductive dX (n:Nat)(H:Hp):Fk->List (List Pl)->Prop where
 | nil:dX n H [] []
 | cons {c:Addr} {as:DM} {ps:List Pl} {us:Fk} {bs:List (List Pl)}:H c=some (.lst (as.map V.ref))->as.length<=100->d8 n H as ps->dX n H us bs->dX n H (.ref c::us) (ps::bs)
theorem dX.mono {n:Nat}{H H':Hp}(e:aG H H'):∀ {us:Fk} {bs:List (List Pl)},dX n H us bs->dX n H' us bs
 | _,_,.nil=>.nil
 | _,_,.cons h l p r=>.cons (e _ _ h) l (p.aO fun a xs q=>e a _ q) (dX.mono e r)
theorem dX.length {n:Nat}{H:Hp}:∀ {us:Fk} {bs:List (List Pl)},dX n H us bs->us.length=bs.length
 | _,_,.nil=>rfl
 | _,_,.cons _ _ _ r=>by rw[Wc,Wc,dX.length r]
theorem dX.get {n:Nat}{H:Hp}:∀ {us:Fk} {bs:List (List Pl)} {i:Nat} {u:V},dX n H us bs->us[i]? = some u->∃ c as ps,u = .ref c/\bs[i]? = some ps/\H c=some (.lst (as.map V.ref))/\as.length<=100/\d8 n H as ps
 | _,_,_,_,.nil,h=>by simp at h
 | _,_,0,_,.cons h l p _,e=>by
  cases (show some _=some _ from e);exact⟨Y,h,l,p⟩
 | _,_,i+1,_,.cons _ _ _ r,e=>by
  obtain⟨c,as,ps,h1,h2,h3⟩:=dX.get (i:=i) r (by simpa using e);exact⟨c,as,ps,h1,by simpa using h2,h3⟩
theorem dX.snoc {n:Nat}{H:Hp}{c:Addr}{as:DM}{ps:List Pl}(h:H c=some (.lst (as.map V.ref)))(hl:as.length<=100)(hp:d8 n H as ps):∀ {us:Fk} {bs:List (List Pl)},dX n H us bs->dX n H (us++[.ref c]) (bs++[ps])
 | _,_,.nil=>.cons h hl hp .nil
 | _,_,.cons x y z r=>.cons x y z (dX.snoc h hl hp r)
def Dj (n:Nat)(H:Hp)(b:Addr)(bk:List (List Pl)):Prop:=∃ us,H b=some (.lst us)/\dX n H us bk/\bk.length<=12
def Dj.mono {n:Nat}{H H':Hp}{b:Addr}{bk:List (List Pl)}(e:aG H H')(h:Dj n H b bk):Dj n H' b bk:=by
 obtain⟨us,h1,h2,h3⟩:=h;exact⟨us,e _ _ h1,h2.mono e,h3⟩
def owS (g:DU)(f:Int)(x:Int × Tm):Int:=if hF g x.2=true then x.1 else f
def owF (g:DU)(p:Pl):Int:=p.foldl (owS g) 0
def Bj {g:DU}{p:Pl}{i:Nat}{x:Int × Tm}(h:p[i]? = some x):owF g (p.take (i+1))=if hF g x.2=true then x.1 else owF g (p.take i):=by
 unfold owF;rw[Wj,h];show ((p.take i)++[x]).foldl (owS g) 0=_;rw[List.foldl_append];rfl
def lsF (p:Pl):Int:=mxD 0 (p.map (·.1))
theorem pG:∀ (l:DU) (a x:Int),(∀ y∈l,y<=x)->a<=x->(l++[x]).foldl max a=x
 | [],a,x,_,h=>by show max a x=x;lia
 | y::l,a,x,hl,h=>by
  rw[acQ,W9];exact pG l (max a y) x (fun z hz=>hl z (V7 _ hz)) (by have:=hl y V0;lia)
def zE {l:DU}{x:Int}(h:(l++[x]).Pairwise (· < ·)):∀ y∈l,y<=x:=fun y hy=>by
 rw[aaH] at h;have:=h.2.2 y hy x V0;lia
def KN {q:Pl}{x:Int × Tm}(h:((q++[x]).map (·.1)).Pairwise (· < ·)):lsF (q++[x])=x.1:=by
 rw[VV] at h;have hl:=zE (l:=q.map (·.1)) (x:=x.1) h;unfold lsF;rw[VV];cases q with
 | nil=>rfl
 | cons y q =>
  show ((q.map (·.1))++[x.1]).foldl max y.1=x.1;exact pG _ _ _ (fun z hz=>hl z (V7 _ hz)) (hl y.1 V0)
theorem m8:∀ (l:DU) (a b:Int),l.foldl max (max a b)=max a (l.foldl max b)
 | [],a,b=>rfl
 | y::l,a,b=>by
  rw[W9,W9,show max (max a b) y=max a (max b y) by lia];exact m8 l a (max b y)
def duF (g:DU)(f:Int)(ps:List Pl):Int:=(ps.map (owF g)).foldl max f
def Kq (g:DU){f:Int}(hf:0<=f)(ps:List Pl):duF g f ps=max f (duF g 0 ps):=by
 unfold duF;rw[← m8,show max f 0=f by lia]
def iT (g:DU)(fl:DU)(bk:List (List Pl)):DU:=Zv (duF g) fl bk
def rfS (f:Int)(ps:List Pl):Int:=(ps.map lsF).foldl max f
def rfF (fl:DU)(bk:List (List Pl)):DU:=Zv rfS fl bk
def vI {α β γ:Type}(f:α->β->γ){xs:List α}{ys:List β}{i:Nat}{x:α}{y:β}(h1:xs[i]? = some x)(h2:ys[i]? = some y):Zv f (xs.take (i+1)) (ys.take (i+1))=Zv f (xs.take i) (ys.take i)++[f x y]:=by
 have l1:i < xs.length:=(geS h1).1;have l2:i < ys.length:=(geS h2).1;rw[Wj,Wj,h1,h2];show Zv f (xs.take i++[x]) (ys.take i++[y])=_;rw[List.zipWith_append (by rw[Wa,Wa];lia)];rfl
def BV {as:DM}{i:Nat}{x:V}(h:(as.map V.ref)[i]? = some x):∃ a,as[i]? = some a/\x = .ref a:=by
 rw[Wf] at h;cases e:as[i]? with
 | none=>rw[e] at h;cases h
 | some a=>rw[e] at h;exact⟨a,U,(WL h).symm⟩
def take_snoc {α β:Type}(f:α->β){xs:List α}{i:Nat}{x:α}(h:xs[i]? = some x):(xs.take (i+1)).map f=(xs.take i).map f++[f x]:=(vP f h).symm
abbrev Ju:Stmt:=top 34
def zq:aB ["pledge","giving","step","term"] X2 (aA Ju):=bZ
inductive xQ (K:Ww)(vs:Fk)(H:Hp)(Q:VK)(e3:XK):Prop where
 | mk (a g:Addr) (n:Nat) (p:Pl) (ns:DU) (_:vs=[.ref a,.ref g]) (_:mH n H a p) (_:SqT K H g (ns.map V.int)) (_:n<=ns.length) (_:∀ H',aG H H'->Q (.int (owF ns p)) H')
def Pb {k:Nat} (F:Fun K "owes" "owes" Ju f fd) (B:Bt mg)
  (PP:Df P w K mg base "holds" k YE (eG K 4)):bh P w K mg base CX0 (k+1) f fd X2 (xQ K):=by
 refine okA F zq fun H Q E hr h=>?_;obtain⟨a,g,n,p,ns,rfl,⟨ok,vs,ha,rp⟩,hg,hn,q⟩:=h
 refine⟨_,(aj (bW Wv U (RN U B.reversed_ (v1 0)) (c7 (K:=K) 2 U U (aP (pgN 2 zq.nd) (aP (pgN 3 zq.nd) cY))) (aF (ifR (cu (aM PP hr (v2 3 1))) (pv 2))))
 (sR ao)),?_⟩
 have el:=rp.length
 refine⟨O,a,vs,U,sqT ha,Ob (K:=K) (a:=a) (xs:=vs) (fun i σ H2=>(∃ u v,σ=[oR a,oR g,u,v])/\aG H H2/\owF ns p=owF ns (p.take (p.length - i)))
  ⟨⟨N⟩,aG.refl H,by rw[Nat.sub_zero,V1]⟩ (fun i σ H2 _ h=>sqT (h.2.1 _ _ ha)) ?_ ?_⟩
 ·rintro i x σ H2 hi hx ⟨⟨u,v,rfl⟩,sm,ow⟩;obtain⟨r,k0,y,t,rfl,hr0,rt,hp⟩:=rp.get hx;have hm:=Wk hp;have e1:p.length - i=vs.length - 1 - i+1:=by lia
  have e2:p.length - (i+1)=vs.length - 1 - i:=by lia
  rw[e1,Bj hp] at ow;refine⟨r,O,sqT (sm _ _ hr0),U,N,M,R,y,g,n,t,ns,U,rt.mono sm,(ok.2.2.2 _ hm).2.2,fM sm hg,hn,fun H3 s3=>⟨O,?_⟩⟩;cases e:hF ns t with
  | true =>
   refine dh ⟨O,?_⟩;rw[iPo e] at ow;have q':=q H3 (sm.trans s3);rw[ow] at q';exact q'
  | false =>
   refine bU ⟨⟨N⟩,sm.trans s3,?_⟩;rw[iNe (by rw[e];exact VR)] at ow;rw[e2];exact ow
 ·rintro σ H2 ⟨⟨u,v,rfl⟩,sm,ow⟩;rw[el,Nat.sub_self,WD] at ow;have q':=q H2 sm;rw[ow] at q';exact q'
abbrev lM:Stmt:=top 35
def wW:aB ZN ZN (aA lM):=bZ
inductive M5 (vs:Fk)(H:Hp)(Q:VK)(e3:XK):Prop where
 | mk (a:Addr) (n:Nat) (p:Pl) (_:vs=[.ref a]) (_:mH n H a p) (_:∀ H',aG H H'->Q (.int (lsF p)) H')
def yM (F:Fun K "last_step" "last_step" lM f fd) (B:Bt mg) :
  bh P w K mg base CX0 1 f fd ZN M5:=by
 refine okA F wW fun H Q E hr h=>?_;obtain⟨a,n,p,rfl,⟨ok,vs,ha,rp⟩,q⟩:=h;refine⟨_,(sR (Gw U U B.max_ (a1 (bC (L:=["step","term"]) (F:=[]) (cap:=[]) U (aY U U (by kernel_rfl)) (cH (pv 0)) (fun _ _ _ _ _=>(c7 (K:=K) 2 U U (aP (pgC 0) (aP (pgC 1) cY)))) (fun _ _ _ _ _=>bI) (fun _ _ _ _ _=>(pv 0)))))),?_⟩;have el:=rp.length;have l9:=ok.2.1
 refine⟨O,a,U,⟨_,sqT ha⟩,fun D hD=>cj (K:=K) (a:=a) (xs:=vs) (fun i zs σ' H2=>(∃ u v,σ'=[u,v])/\zs=((p.take i).map (·.1)).map V.int/\aG H H2/\H2 D=some (.lst zs))
  ⟨⟨N⟩,U,au hD _,aa⟩ (fun i zs σ' H2 _ h=>⟨sqT (h.2.2.1 _ _ ha),h.2.2.2⟩) ?_ ?_⟩
 ·rintro j zs x σ' H2 hx ⟨⟨u,v,rfl⟩,e1,sm,hDl⟩;obtain⟨r,k0,y,t,rfl,hr0,rt,hp⟩:=rp.get hx;refine⟨r,O,sqT (sm _ _ hr0),U,N,M,?_⟩;refine tT ?_;refine⟨O,hDl,?_,⟨N⟩,?_,aK sm hD _,aa⟩;{rw[e1,VH,VH,Wa];exact aH (by lia)};{rw[e1,take_snoc (·.1) hp,VV];rfl}
 ·rintro zs σ' H2 ⟨_,e1,sm,hDl⟩;rw[el,V1] at e1;refine⟨D,p.map (·.1),U,sqL (by rw[hDl,e1]),?_⟩;exact q H2 sm
abbrev jc:Stmt:=top 48
def um:aB XE XE (aA jc):=bZ
inductive Q7 (K:Ww)(vs:Fk)(H:Hp)(Q:VK)(e3:XK):Prop where
 | mk (b f g:Addr) (n:Nat) (bk:List (List Pl)) (fl ns:DU) (_:vs=[.ref b,.ref f,.ref g]) (_:Dj n H b bk) (_:SqT K H f (fl.map V.int)) (_:SqT K H g (ns.map V.int)) (_:fl.length=bk.length) (_:n<=ns.length) (_:(∀ x∈fl,0<=x)) (_:∀ (r:Addr) (H':Hp),aG H H'->H' r=some (.tup ((iT ns fl bk).map V.int))->Q (.ref r) H')
def ur {k:Nat} (F:Fun K "what_is_due" "what_is_due" jc f fd) (B:Bt mg)
  (SA:Df P w K mg base "owes" k X2 (xQ K)):bh P w K mg base CX0 (k+1) f fd XE (Q7 K):=by
 refine okA F um fun H Q E hr h=>?_;obtain⟨b,f,g,n,bk,fl,ns,rfl,⟨us,hb,rb,l12⟩,hf,hg,hl,hn,h0,q⟩:=h;refine⟨_,(sR (aR (r:=eY K) bj U B.tuple_ bH (a1 (bC (L:=["step","pledges"]) (F:=["giving"]) (cap:=[2]) U (aY U U (by kernel_rfl)) (MJ U B.zip_ (v2 1 0)) (fun _ _ _ _ _=>(c7 (K:=K) 2 U U (aP (pgC 0) (aP (pgC 1) cY)))) (fun _ _ _ _ _=>bI) (fun _ _ _ _ _=>(aQ (r:=Dt K) (jT U) U B.max_ nj (a1 (aN pQ (aV (v1 0)) (bC (L:=ZN) (F:=["giving"]) (cap:=[2]) U (aY U U (by kernel_rfl)) (vh K U (pv 1)) (fun _ _ _ _ _=>(pgC 0)) (fun _ _ _ _ _=>bI) (fun _ _ _ _ _=>(aM SA hr (v2 0 1)))))))))))),?_⟩;have el:=rb.length
 refine⟨R,f,b,N,hf,sqL hb,fun D hD=>Ce (K:=K) (a:=f) (b:=b) (xs:=fl.map V.int) (ys:=us) (by rw[VH];lia)
  (fun i zs σ H2=>(∃ u v,σ=[u,v,oR g])/\zs=(Zv (duF ns) (fl.take i) (bk.take i)).map V.int/\aG H H2/\H2 D=some (.lst zs)) ⟨⟨N⟩,U,au hD _,aa⟩ (fun i zs σ H2 _ h=>⟨fM h.2.2.1 hf,sqL (h.2.2.1 _ _ hb),h.2.2.2⟩) ?_ ?_⟩
 ·rintro i zs x y p σ H2 hx hy hp ⟨⟨u,v,rfl⟩,e1,sm,hDl⟩;obtain⟨m,hm,rfl⟩:=int_at hx;obtain⟨c,as,ps,rfl,hps,hc,l100,rps⟩:=rb.get hy;have ell:=rps.length;generalize eH3:upd H2 p _=H3;obtain⟨g3,e3⟩:=aC eH3 hp;refine⟨p,O,sqT e3,U,N,M,?_⟩;refine tT ?_;refine⟨O,smN 1,fun p4 h4=>?_⟩;generalize eH4:upd H3 p4 _=H4;obtain⟨g4,e4⟩:=aC eH4 h4;have s4:aG H H4:=sm.trans (g3.trans g4)
  refine⟨O,c,U,⟨_,sqL (s4 _ _ hc)⟩,fun D2 hD2=>fY (K:=K) (a:=c) (xs:=as.map V.ref) (fun j ws σ' H5=>(∃ u,σ'=[u,oR g])/\ws=((ps.take j).map (owF ns)).map V.int/\aG H4 H5/\H5 D2=some (.lst ws))
   ⟨⟨O⟩,U,au hD2 _,aa⟩ (fun j ws σ' H5 _ h=>⟨sqL (h.2.2.1 _ _ (s4 _ _ hc)),h.2.2.2⟩) ?_ ?_⟩
  ·rintro j ws x σ' H5 hx ⟨⟨u,rfl⟩,e5,s5,hD5⟩;obtain⟨a,ha,rfl⟩:=BV hx;obtain⟨pl,hpl,rpl⟩:=rps.get ha;refine gT ?_;refine⟨R,a,g,n,pl,ns,U,rpl.mono (s4.trans s5),fM (s4.trans s5) hg,hn,fun H6 s6=>⟨s6 _ _ hD5,?_,⟨O⟩,?_,aK (s5.trans s6) hD2 _,aa⟩⟩;{rw[e5,VH,VH,Wa];exact aH (by lia)};{rw[e5,take_snoc (owF ns) hpl,VV];rfl}
  ·rintro ws σ' H5 ⟨_,e5,s5,hD5⟩;rw[VH,ell,V1] at e5;subst e5;refine⟨p4,D2,M,s5 _ _ e4,hD5,small ?_,fun p6 h6=>?_⟩;{rw[VH,VH];show 1+ps.length<=1000;lia};generalize eH6:upd H5 p6 _=H6;obtain⟨g6,e6⟩:=aC eH6 h6;have sall:aG H2 H6:=g3.trans (g4.trans (s5.trans g6));refine⟨p6,m::ps.map (owF ns),U,sqL e6,by simp,sall _ _ hDl,?_,⟨N⟩,?_,aK (sm.trans sall) hD _,aa⟩;{rw[e1,VH,X6,Wa];exact aH (by lia)};{rw[e1,vI (duF ns) hm hps,VV];rfl}
 ·rintro zs σ H2 ⟨_,e1,sm,hDl⟩;refine⟨D,O,.inl ⟨sqL hDl,fun l hl'=>?_⟩⟩;refine q l _ (sm.trans (au hl' _)) ?_;rw[aa,e1,VH,V1,hl,V1];rfl
def Am {g fl:DU}{bk:List (List Pl)}(h:fl.length=bk.length):(iT g fl bk).length=bk.length:=by
 unfold iT;rw[X6];lia
abbrev Gd:Stmt:=top 49
def PX:aB YO YO (aA Gd):=bZ
inductive Bu (K:Ww)(vs:Fk)(H:Hp)(Q:VK)(e3:XK):Prop where
 | mk (b f:Addr) (n:Nat) (bk:List (List Pl)) (fl:DU) (_:vs=[.ref b,.ref f]) (_:Dj n H b bk) (_:SqT K H f (fl.map V.int)) (_:fl.length=bk.length) (_:∀ (r:Addr) (H':Hp),aG H H'->H' r=some (.tup ((rfF fl bk).map V.int))->Q (.ref r) H')
def Pk (F:Fun K "roof" "roof" Gd f fd) (B:Bt mg)
  (P6:Df P w K mg base "last_step" 1 ZN M5):bh P w K mg base CX0 2 f fd YO (Bu K):=by
 refine okA F PX fun H Q E hr h=>?_;obtain⟨b,f,n,bk,fl,rfl,⟨us,hb,rb,l12⟩,hf,hl,q⟩:=h;refine⟨_,(sR (aR (r:=eY K) bj U B.tuple_ bH (a1 (bC (L:=["step","pledges"]) (F:=[]) (cap:=[]) U (aY U U (by kernel_rfl)) (MJ U B.zip_ (v2 1 0)) (fun _ _ _ _ _=>(c7 (K:=K) 2 U U (aP (pgC 0) (aP (pgC 1) cY)))) (fun _ _ _ _ _=>bI) (fun _ _ _ _ _=>(aQ (r:=Dt K) (jT U) U B.max_ nj (a1 (aN pQ (aV (v1 0)) (bC (L:=ZN) (F:=[]) (cap:=[]) U (aY U U (by kernel_rfl)) (vh K U (pv 1)) (fun _ _ _ _ _=>(pgC 0)) (fun _ _ _ _ _=>bI) (fun _ _ _ _ _=>(aM P6 hr (v1 0)))))))))))),?_⟩;have el:=rb.length
 refine⟨R,f,b,N,hf,sqL hb,fun D hD=>Ce (K:=K) (a:=f) (b:=b) (xs:=fl.map V.int) (ys:=us) (by rw[VH];lia)
  (fun i zs σ H2=>(∃ u v,σ=[u,v])/\zs=(Zv rfS (fl.take i) (bk.take i)).map V.int/\aG H H2/\H2 D=some (.lst zs)) ⟨⟨N⟩,U,au hD _,aa⟩ (fun i zs σ H2 _ h=>⟨fM h.2.2.1 hf,sqL (h.2.2.1 _ _ hb),h.2.2.2⟩) ?_ ?_⟩
 ·rintro i zs x y p σ H2 hx hy hp ⟨⟨u,v,rfl⟩,e1,sm,hDl⟩;obtain⟨m,hm,rfl⟩:=int_at hx;obtain⟨c,as,ps,rfl,hps,hc,l100,rps⟩:=rb.get hy;have ell:=rps.length;generalize eH3:upd H2 p _=H3;obtain⟨g3,e3⟩:=aC eH3 hp;refine⟨p,O,sqT e3,U,N,M,?_⟩;refine tT ?_;refine⟨O,smN 1,fun p4 h4=>?_⟩;generalize eH4:upd H3 p4 _=H4;obtain⟨g4,e4⟩:=aC eH4 h4;have s4:aG H H4:=sm.trans (g3.trans g4)
  refine⟨O,c,U,⟨_,sqL (s4 _ _ hc)⟩,fun D2 hD2=>fY (K:=K) (a:=c) (xs:=as.map V.ref) (fun j ws σ' H5=>(∃ u,σ'=[u])/\ws=((ps.take j).map lsF).map V.int/\aG H4 H5/\H5 D2=some (.lst ws))
   ⟨⟨O⟩,U,au hD2 _,aa⟩ (fun j ws σ' H5 _ h=>⟨sqL (h.2.2.1 _ _ (s4 _ _ hc)),h.2.2.2⟩) ?_ ?_⟩
  ·rintro j ws x σ' H5 hx ⟨⟨u,rfl⟩,e5,s5,hD5⟩;obtain⟨a,ha,rfl⟩:=BV hx;obtain⟨pl,hpl,rpl⟩:=rps.get ha;refine gT ?_;refine⟨O,a,n,pl,U,rpl.mono (s4.trans s5),fun H6 s6=>⟨s6 _ _ hD5,?_,⟨O⟩,?_,aK (s5.trans s6) hD2 _,aa⟩⟩;{rw[e5,VH,VH,Wa];exact aH (by lia)};{rw[e5,take_snoc lsF hpl,VV];rfl}
  ·rintro ws σ' H5 ⟨_,e5,s5,hD5⟩;rw[VH,ell,V1] at e5;subst e5;refine⟨p4,D2,M,s5 _ _ e4,hD5,small ?_,fun p6 h6=>?_⟩;{rw[VH,VH];show 1+ps.length<=1000;lia};generalize eH6:upd H5 p6 _=H6;obtain⟨g6,e6⟩:=aC eH6 h6;have sall:aG H2 H6:=g3.trans (g4.trans (s5.trans g6));refine⟨p6,m::ps.map lsF,U,sqL e6,by simp,sall _ _ hDl,?_,⟨N⟩,?_,aK (sm.trans sall) hD _,aa⟩;{rw[e1,VH,X6,Wa];exact aH (by lia)};{rw[e1,vI rfS hm hps,VV];rfl}
 ·rintro zs σ H2 ⟨_,e1,sm,hDl⟩;refine⟨D,O,.inl ⟨sqL hDl,fun l hl'=>?_⟩⟩;refine q l _ (sm.trans (au hl' _)) ?_;rw[aa,e1,VH,V1,hl,V1];rfl
def itF (f:DU->DU)(x:DU):Nat->DU
 | 0=>x
 | k+1=>f (itF f x k)
def Stops (f:DU->DU)(x:DU)(m:Nat):Prop:=f (itF f x m)=itF f x m/\∀ j < m,f (itF f x j)≠itF f x j
def pX (f:DU->DU)(x:DU)(m:Nat):DD:=(Xb (m+1)).map (itF f x)
def pP (f:DU->DU)(x:DU)(m:Nat):(pX f x m).length=m+1:=by
 unfold pX;rw[VH,WQ]
def Fi (f:DU->DU)(x:DU)(m:Nat):pX f x (m+1)=pX f x m++[itF f x (m+1)]:=by
 unfold pX;rw[aak,VV];rfl
def Eh (f:DU->DU)(x:DU)(m:Nat):(pX f x m)[(pX f x m).length - 1]? = some (itF f x m):=by
 rw[pP,Nat.add_sub_cancel];unfold pX;rw[Wf,Zd (XS m)];rfl
def CV {f:DU->DU}{x:DU}(φ:DU->Int)(N:Nat)(b0:∀ k,0<=φ (itF f x k))(bN:∀ k,φ (itF f x k)<=(N:Int))(up:∀ k,f (itF f x k)≠itF f x k->φ (itF f x k) < φ (itF f x (k+1))):∃ m,m<=N/\Stops f x m:=by
 have key:∀ k,(∃ m,m < k/\Stops f x m)∨((∀ j < k,f (itF f x j)≠itF f x j)/\(k:Int)<=φ (itF f x k)):=by
  intro k
  induction k with
  | zero=>exact .inr ⟨fun j h=>absurd h (aaj _),by simpa using b0 0⟩
  | succ k ih =>
   rcases ih with⟨m,h1,h2⟩ | ⟨h1,h2⟩;{exact .inl ⟨m,by lia,h2⟩}
   ·by_cases e:f (itF f x k)=itF f x k;{exact .inl ⟨k,XS k,e,h1⟩}
    ·refine .inr ⟨fun j hj=>?_,by have:=up k e;lia⟩;rcases acy j k with z | z;{exact h1 j z}
     ·have:j=k:=by lia
      subst this;exact e
 rcases key (N+1) with⟨m,h1,h2⟩ | ⟨_,h2⟩;{exact⟨m,by lia,h2⟩};{have:=bN (N+1);lia}
def Cu {g g':DU}(hl:g.length=g'.length)(h:∀ i,i < g.length->g.getD i 0<=g'.getD i 0):LeG g g':=fun i=>by
 by_cases hi:i < g.length;{exact h i hi};{rw[V3,X8 (by lia),V3,X8 (by lia)];exact Yq _}
def uA {g:DU}{p:Pl}(h:∀ x∈p,0<=x.1):0<=owF g p:=by
 have key:∀ (p:Pl) (f:Int),0<=f->(∀ x∈p,0<=x.1)->0<=p.foldl (owS g) f:=by
  intro p
  induction p with
  | nil=>intro f hf _;exact hf
  | cons x r ih =>
   intro f hf hx;rw[W9];refine ih _ ?_ fun y hy=>hx y (V7 _ hy);unfold owS;split;{exact hx x V0};{exact hf}
 exact key p 0 (Yq _) h
def HS {g:DU}{p:Pl}{b:Int}(h0:0<=b)(h:∀ x∈p,x.1<=b):owF g p<=b:=by
 have key:∀ (p:Pl) (f:Int),f<=b->(∀ x∈p,x.1<=b)->p.foldl (owS g) f<=b:=by
  intro p
  induction p with
  | nil=>intro f hf _;exact hf
  | cons x r ih =>
   intro f hf hx;rw[W9];refine ih _ ?_ fun y hy=>hx y (V7 _ hy);unfold owS;split;{exact hx x V0};{exact hf}
 exact key p 0 h0 h
def Ln {g g':DU}(l:LeG g g'){p:Pl}(ok:okP p):owF g p<=owF g' p:=by
 have key:∀ (p:Pl) (f f':Int),f<=f'->(∀ x∈p,f' < x.1)->(p.map (·.1)).Pairwise (· < ·)->p.foldl (owS g) f<=p.foldl (owS g') f':=by
  intro p
  induction p with
  | nil=>intro f f' hf _ _;exact hf
  | cons x r ih =>
   intro f f' hf hx hp;rw[WR,Yl] at hp;rw[W9,W9];have hr:∀ y∈r,x.1 < y.1:=fun y hy=>hp.1 y.1 (List.mem_map.mpr ⟨y,hy,U⟩);have hx0:=hx x V0;have hfr:∀ y∈r,f' < y.1:=fun y hy=>by have:=hr y hy;lia
   unfold owS;by_cases c:hF g x.2=true;{rw[iPo c,iPo (Bd l _ c)];exact ih _ _ (Yq _) hr hp.2}
   ·rw[iNe c];by_cases c':hF g' x.2=true;{rw[iPo c'];exact ih _ _ (by lia) hr hp.2};{rw[iNe c'];exact ih _ _ hf hfr hp.2}
 exact key p 0 0 (Yq _) (fun x hx=>by have:=(ok.2.2.2 x hx).1;lia) ok.2.2.1
theorem gO {b:Int}:∀ (l:DU) (a:Int),a<=b->(∀ x∈l,x<=b)->l.foldl max a<=b
 | [],a,h,_=>h
 | y::l,a,h,hl=>by
  rw[W9];exact gO l _ (by have:=hl y V0;lia) fun x hx=>hl x (V7 _ hx)
theorem ir {α:Type}(u v:α->Int):∀ (l:List α) (a b:Int),a<=b->(∀ x∈l,u x<=v x)->(l.map u).foldl max a<=(l.map v).foldl max b
 | [],a,b,h,_=>h
 | y::l,a,b,h,hl=>by
  rw[WR,WR,W9,W9];exact ir u v l _ _ (by have:=hl y V0;lia) fun x hx=>hl x (V7 _ hx)
def okB (bk:List (List Pl)):Prop:=∀ ps∈bk,∀ p∈ps,okP p
def CT {g g':DU}(l:LeG g g'){ps:List Pl}(ok:∀ p∈ps,okP p){f f':Int}(h:f<=f'):duF g f ps<=duF g' f' ps:=ir _ _ ps f f' h fun p hp=>Ln l (ok p hp)
def MF (g:DU)(f:Int)(ps:List Pl):f<=duF g f ps:=(gK _ f).1
def PB (g:DU){f:Int}(h:f<=9){ps:List Pl}(ok:∀ p∈ps,okP p):duF g f ps<=9:=by
 refine gO _ f h fun x hx=>?_;obtain⟨p,hp,rfl⟩:=List.mem_map.mp hx;exact HS (by decide) fun y hy=>((ok p hp).2.2.2 y hy).2.1
def Nv {p:Pl}{x:Int × Tm}(h:x∈p):x.1<=lsF p:=by
 unfold lsF;cases p with
 | nil=>cases h
 | cons y r =>
  show x.1<=(r.map (·.1)).foldl max y.1;obtain⟨h1,h2⟩:=gK (r.map (·.1)) y.1;rcases List.mem_cons.mp h with rfl | h;{exact h1};{exact h2 x.1 (List.mem_map.mpr ⟨x,h,U⟩)}
def Px {g:DU}{p:Pl}(ok:okP p):owF g p<=lsF p:=by
 have hne:=ok.1;refine HS ?_ fun x hx=>Nv hx;cases p with
 | nil=>exact absurd U hne
 | cons y r =>
  have:=Nv (p:=y::r) (x:=y) V0;have:=(ok.2.2.2 y V0).1;lia
def Qk (g:DU)(f:Int){ps:List Pl}(ok:∀ p∈ps,okP p):duF g f ps<=rfS f ps:=ir _ _ ps f f (Yq _) fun p hp=>Px (ok p hp)
def Qy {p:Pl}(ok:okP p):lsF p<=9:=by
 cases p with
 | nil=>exact absurd U ok.1
 | cons y r =>
  show (r.map (·.1)).foldl max y.1<=9;refine gO _ _ (ok.2.2.2 y V0).2.1 fun x hx=>?_;obtain⟨z,hz,rfl⟩:=List.mem_map.mp hx;exact (ok.2.2.2 z (V7 _ hz)).2.1
def QC {f:Int}(h:f<=9){ps:List Pl}(ok:∀ p∈ps,okP p):rfS f ps<=9:=by
 refine gO _ f h fun x hx=>?_;obtain⟨p,hp,rfl⟩:=List.mem_map.mp hx;exact Qy (ok p hp)
def Rn (f:Int)(ps:List Pl):f<=rfS f ps:=(gK _ f).1
def jB {α:Type}(f:Int->α->Int){xs:DU}{ys:List α}{i:Nat}(h1:i < xs.length)(h2:i < ys.length):(Zv f xs ys).getD i 0=f (xs.getD i 0) ys[i]:=by
 rw[V3,List.getElem?_zipWith,VN h1,VN h2,V3,VN h1];rfl
theorem j4:∀ {g g':DU},g.length=g'.length->(∀ i,i < g.length->g.getD i 0<=g'.getD i 0)->g.sum<=g'.sum/\(g.sum=g'.sum->g=g')
 | [],[],_,_=>⟨Yq _,fun _=>U⟩
 | a::g,b::g',hl,h=>by
  have h0:a<=b:=h 0 (acw _);obtain⟨h1,h2⟩:=j4 (g:=g) (g':=g') (by simpa using hl) fun i hi=>by
   have:=h (i+1) (by rw[Wc];lia);simpa using this
  rw[Zb,Zb];refine⟨by lia,fun e=>?_⟩;have e1:a=b:=by lia
  have e2:g.sum=g'.sum:=by lia
  rw[e1,h2 e2]
def sum_bound {g:DU}(h:∀ x∈g,0<=x/\x<=9):0<=g.sum/\g.sum<=9 * (g.length:Int):=by
 induction g with
 | nil=>exact⟨Yq _,by simp⟩
 | cons a g ih =>
  have:=h a V0;have:=ih fun x hx=>h x (V7 _ hx);rw[Zb,Wc];lia
def okG (n:Nat)(g:DU):Prop:=g.length=n/\∀ x∈g,0<=x/\x<=9
def iV {n:Nat}{g:DU}(h:okG n g){i:Nat}(hi:i < n):0<=g.getD i 0/\g.getD i 0<=9:=by
 have hi':i < g.length:=by rw[h.1];exact hi
 rw[V3,VN hi'];exact h.2 _ (YW hi')
def Nr {n:Nat}{g:DU}(hl:g.length=n)(h:∀ i,i < n->0<=g.getD i 0/\g.getD i 0<=9):okG n g:=by
 refine⟨hl,fun x hx=>?_⟩;obtain⟨i,hi,e⟩:=Yy hx;have:=h i (by lia);rw[V3,VN hi,e] at this;exact this
section
variable {n:Nat}{fl:DU}{bk:List (List Pl)}
def tK (hb:bk.length=n)(ok:okB bk)(hf:okG n fl)(g:DU):okG n (iT g fl bk):=by
 refine Nr (by rw[Am (by rw[hf.1,hb])];exact hb) fun i hi=>?_;have h1:i < fl.length:=by rw[hf.1];exact hi
 have h2:i < bk.length:=by lia
 unfold iT;rw[jB (duF g) h1 h2];have:=iV hf hi;have:=MF g (fl.getD i 0) bk[i];have:=PB g (f:=fl.getD i 0) (by lia) (ok bk[i] (YW h2));lia
def qI (hb:bk.length=n)(ok:okB bk)(hf:okG n fl){g g':DU}(l:LeG g g'):LeG (iT g fl bk) (iT g' fl bk):=by
 have l1:=(tK hb ok hf g).1;have l2:=(tK hb ok hf g').1;refine Cu (by lia) fun i hi=>?_;have h1:i < fl.length:=by rw[hf.1];lia
 have h2:i < bk.length:=by lia
 unfold iT;rw[jB (duF g) h1 h2,jB (duF g') h1 h2];exact CT l (ok bk[i] (YW h2)) (Yq _)
def nC (hb:bk.length=n)(ok:okB bk)(hf:okG n fl)(g:DU):LeG fl (iT g fl bk):=by
 have l1:=(tK hb ok hf g).1;refine Cu (by rw[hf.1];lia) fun i hi=>?_;have h2:i < bk.length:=by rw[hf.1] at hi;lia
 unfold iT;rw[jB (duF g) hi h2];exact MF _ _ _
def qt (hb:bk.length=n)(ok:okB bk)(hf:okG n fl):okG n (rfF fl bk):=by
 have hl:(rfF fl bk).length=n:=by
  unfold rfF;rw[X6,hf.1,hb,acx]
 refine Nr hl fun i hi=>?_;have h1:i < fl.length:=by rw[hf.1];exact hi
 have h2:i < bk.length:=by lia
 unfold rfF;rw[jB rfS h1 h2];have:=iV hf hi;have:=Rn (fl.getD i 0) bk[i];have:=QC (f:=fl.getD i 0) (by lia) (ok bk[i] (YW h2));lia
def CW (hb:bk.length=n)(ok:okB bk)(hf:okG n fl)(g:DU):LeG (iT g fl bk) (rfF fl bk):=by
 have l1:=(tK hb ok hf g).1;have l2:=(qt hb ok hf).1;refine Cu (by lia) fun i hi=>?_;have h1:i < fl.length:=by rw[hf.1];lia
 have h2:i < bk.length:=by lia
 unfold iT rfF;rw[jB (duF g) h1 h2,jB rfS h1 h2];exact Qk g _ (ok bk[i] (YW h2))
theorem iI (hb:bk.length=n)(ok:okB bk)(hf:okG n fl){x:DU}(hx:okG n x):∀ k,okG n (itF (fun g=>iT g fl bk) x k)
 | 0=>hx
 | k+1=>tK hb ok hf _
theorem Q6 (hb:bk.length=n)(ok:okB bk)(hf:okG n fl){x:DU}(h:LeG x (iT x fl bk)):∀ k,LeG (itF (fun g=>iT g fl bk) x k) (itF (fun g=>iT g fl bk) x (k+1))
 | 0=>h
 | k+1=>qI hb ok hf (Q6 hb ok hf h k)
theorem HX (hb:bk.length=n)(ok:okB bk)(hf:okG n fl){x:DU}(h:LeG (iT x fl bk) x):∀ k,LeG (itF (fun g=>iT g fl bk) x (k+1)) (itF (fun g=>iT g fl bk) x k)
 | 0=>h
 | k+1=>qI hb ok hf (HX hb ok hf h k)
def Mm (hb:bk.length=n)(ok:okB bk)(hf:okG n fl){x:DU}(hx:okG n x)(h:LeG x (iT x fl bk)):∃ m,m<=9 * n/\Stops (fun g=>iT g fl bk) x m:=by
 refine CV aa6 (9 * n) (fun k=>(sum_bound (iI hb ok hf hx k).2).1) (fun k=>?_) (fun k ne=>?_);{have:=(sum_bound (iI hb ok hf hx k).2).2;rw[(iI hb ok hf hx k).1] at this;lia};{obtain⟨h1,h2⟩:=j4 ((iI hb ok hf hx k).1.trans (iI hb ok hf hx (k+1)).1.symm) fun i _=>Q6 hb ok hf h k i;have:aa6 (itF (fun g=>iT g fl bk) x k)≠aa6 (itF (fun g=>iT g fl bk) x (k+1)):=fun e=>ne (h2 e).symm;lia}
def Dn (hb:bk.length=n)(ok:okB bk)(hf:okG n fl){x:DU}(hx:okG n x)(h:LeG (iT x fl bk) x):∃ m,m<=9 * n/\Stops (fun g=>iT g fl bk) x m:=by
 refine CV (fun g=>9 * (n:Int) - g.sum) (9 * n) (fun k=>?_) (fun k=>?_) (fun k ne=>?_);{have:=(sum_bound (iI hb ok hf hx k).2).2;rw[(iI hb ok hf hx k).1] at this;show 0<=9 * (n:Int) - aa6 _;lia};{have:=(sum_bound (iI hb ok hf hx k).2).1;show 9 * (n:Int) - aa6 _<=_;lia};{obtain⟨h1,h2⟩:=j4 ((iI hb ok hf hx (k+1)).1.trans (iI hb ok hf hx k).1.symm) fun i _=>HX hb ok hf h k i;have:aa6 (itF (fun g=>iT g fl bk) x (k+1))≠aa6 (itF (fun g=>iT g fl bk) x k):=fun e=>ne (h2 e);show 9 * (n:Int) - aa6 _ < 9 * (n:Int) - aa6 _;lia}
end
inductive qy (H:Hp):Fk->DD->Prop where
 | nil:qy H [] []
 | cons {a:Addr} {g:DU} {us:Fk} {gs:DD}:H a=some (.tup (g.map V.int))->g.length<=1000->qy H us gs->qy H (.ref a::us) (g::gs)
theorem qy.aO {H H':Hp}(e:∀ a xs,H a=some (HO.tup xs)->H' a=some (HO.tup xs)):∀ {us:Fk} {gs:DD},qy H us gs->qy H' us gs
 | _,_,.nil=>.nil
 | _,_,.cons h l r=>.cons (e _ _ h) l (qy.aO e r)
def qy.mono {H H':Hp}(e:aG H H'){us:Fk}{gs:DD}(h:qy H us gs):qy H' us gs:=h.aO fun a xs q=>e a _ q
theorem qy.length {H:Hp}:∀ {us:Fk} {gs:DD},qy H us gs->us.length=gs.length
 | _,_,.nil=>rfl
 | _,_,.cons _ _ r=>by rw[Wc,Wc,qy.length r]
theorem qy.get {H:Hp}:∀ {us:Fk} {gs:DD} {i:Nat} {g:DU},qy H us gs->gs[i]? = some g->∃ a,us[i]? = some (.ref a)/\H a=some (.tup (g.map V.int))
 | _,_,_,_,.nil,h=>by simp at h
 | _,_,0,_,.cons h _ _,e=>by
  cases (show some _=some _ from e);exact⟨O,h⟩
 | _,_,i+1,_,.cons _ _ r,e=>by
  obtain⟨a,h1,h2⟩:=qy.get (i:=i) r (by simpa using e);exact⟨a,by simpa using h1,h2⟩
theorem qy.snoc {H:Hp}{a:Addr}{g:DU}(h:H a=some (.tup (g.map V.int)))(hl:g.length<=1000):∀ {us:Fk} {gs:DD},qy H us gs->qy H (us++[.ref a]) (gs++[g])
 | _,_,.nil=>.cons h hl .nil
 | _,_,.cons x y r=>.cons x y (qy.snoc h hl r)
theorem dX.okB {n:Nat}{H:Hp}:∀ {us:Fk} {bk:List (List Pl)},dX n H us bk->okB bk
 | _,_,.nil=>fun ps h=>by cases h
 | _,_,.cons _ _ p r=>fun ps h q hq=>by
  rcases List.mem_cons.mp h with rfl | h;{obtain⟨i,hi,e⟩:=Yy hq;have hlen:=p.length;obtain⟨q',e1,e2⟩:=p.get (i:=i) (VN (by lia));rw[VN hi,e] at e1;cases e1;exact e2.1};{exact dX.okB r ps h q hq}
theorem Dj.okB {n:Nat}{H:Hp}{b:Addr}{bk:List (List Pl)}(h:Dj n H b bk):okB bk:=by
 obtain⟨us,_,h2,_⟩:=h;exact h2.okB
abbrev Fd (fl:DU)(bk:List (List Pl)):DU->DU:=fun g=>iT g fl bk
abbrev tL:Stmt:=top 50
def kj:aB ["book","floor","giving","row","due"] XE (aA tL):=bZ
inductive qY (K:Ww)(vs:Fk)(H:Hp)(Q:VK)(e3:XK):Prop where
 | mk (b f g:Addr) (n:Nat) (bk:List (List Pl)) (fl x:DU) (m:Nat) (_:vs=[.ref b,.ref f,.ref g]) (_:Dj n H b bk) (_:bk.length=n) (_:H f=some (.tup (fl.map V.int))) (_:okG n fl) (_:H g=some (.tup (x.map V.int))) (_:okG n x) (_:m<=9 * n) (_:Stops (Fd fl bk) x m) (_:∀ (r:Addr) (us:Fk) (H':Hp),aG H H'->H r=none->H' r=some (.lst us)->qy H' us (pX (Fd fl bk) x m)->Q (.ref r) H')
def vO {H:Hp}{us:Fk}{F:DU->DU}{x:DU}{j:Nat}(h:qy H us (pX F x j)):∃ a,atI us (-1)=some (.ref a)/\H a=some (.tup ((itF F x j).map V.int)):=by
 have hl:=h.length;obtain⟨a,h1,h2⟩:=h.get (Eh F x j);rw[← hl] at h1;exact⟨a,JB h1,h2⟩
def FP (H:Hp)(r:Addr):Nat:=match H r with
 | some (.lst us)=>us.length
 | _=>0
def Ca {H:Hp}{r:Addr}{us:Fk}(h:H r=some (.lst us)):FP H r=us.length:=by unfold FP;rw[h]
def Es {k:Nat} (F:Fun K "settled" "settled" tL f fd) (B:Bt mg)
  (SK:Df P w K mg base "what_is_due" k XE (Q7 K)):bh P w K mg base CX0 (k+1) f fd XE (qY K):=by
 refine okA F kj fun H Q E hr h=>?_;obtain⟨b,f,g,n,bk,fl,x,m,rfl,hb,lb,hf,of,hg,ox,hm,st,q⟩:=h
 refine⟨_,(aj (sT 3 kj.nd (aV (v1 2)))
 (aj (sT 4 kj.nd (aM SK hr (aq (pv 0) (v2 1 2))))
 (aj (LC Wv (aD (r:=Gg K) (wK hr.iJ) (pv 4) (pxL K (pv 3) (vX nM ao))) (aj (aW (rO Xg Xk Xj cI (pv 3) (v1 4)))
 (aF (sT 4 kj.nd (aM SK hr (aq (pv 0) (v2 1 4)))))))
 (sR (pv 3))))),?_⟩
 have okb:=hb.okB;have b12:n<=12:=by obtain⟨_,_,_,h⟩:=hb;lia
 have og:∀ j,okG n (itF (Fd fl bk) x j):=iI lb okb of ox;have f0:∀ y∈fl,0<=y:=fun y hy=>(of.2 y hy).1;have hlb:fl.length=bk.length:=by rw[of.1,lb]
 refine⟨O,smN 1,fun r hr0=>?_⟩;generalize eH1:upd H r _=H1;obtain⟨g1,e1⟩:=aC eH1 hr0;refine⟨R,O,b,f,g,n,bk,fl,x,U,hb.mono g1,sqT (g1 _ _ hf),sqT (g1 _ _ hg),hlb,by rw[ox.1];lia,f0,fun r1 H2 s2 er1=>?_⟩;refine gN ?_;refine KY (fun σ H3=>∃ (j:Nat) (us:Fk) (d:Addr),j<=m/\σ=[oR b,oR f,oR g,oR r,oR d]/\aG H H3/\H3 r=some (.lst us)/\qy H3 us (pX (Fd fl bk) x j)/\H3 d=some (.tup ((itF (Fd fl bk) x (j+1)).map V.int)))
  (fun _ H3=>m+2 - FP H3 r) ⟨0,[.ref g],r1,Wz _,U,g1.trans s2,s2 _ _ e1,.cons (s2 _ _ (g1 _ _ hg)) (by rw[(og 0).1];lia) .nil,er1⟩ ?_ ?_
 ·rintro σ H3 ⟨j,us,d,hj,rfl,s3,er,gr,ed⟩;obtain⟨a,ha,ea⟩:=vO gr;have lu:=gr.length;rw[pP] at lu;refine⟨R,O,r,Y,sqL er,ha,d,a,M,sqT ed,sqT ea,O,?_⟩;by_cases e:itF (Fd fl bk) x (j+1)=itF (Fd fl bk) x j
  ·rw[dcT e];refine bU ?_;have ej:j=m:=by
    rcases acy j m with z | z;{exact absurd e (st.2 j z)};{lia}
   subst ej;exact⟨O,q r us H3 s3 hr0 er gr⟩
  ·rw[dcF e];refine dh ?_;have hjm:j < m:=by
    rcases acy j m with z | z;{exact z}
    ·have:j=m:=by lia
     subst this;exact absurd st.1 e
   refine⟨O,.inl ⟨U,_,sqL er⟩,O,r,M,er,aH (by lia),?_⟩;have tk:=bR (zs':=us++[.ref d]) er;have s4:aG H (upd H3 r (.lst (us++[.ref d]))):=aK s3 hr0 _;refine⟨R,O,b,f,d,n,bk,fl,O,hb.mono s4,sqT (s4 _ _ hf),sqT (tk _ _ ed),hlb,by rw[(og (j+1)).1];lia,f0,fun r5 H5 s5 er5=>?_⟩;have er':H5 r=some (.lst (us++[.ref d])):=s5 _ _ aa;refine⟨⟨j+1,us++[.ref d],r5,hjm,U,s4.trans s5,er',?_,er5⟩,?_⟩;{rw[Fi];exact ((gr.aO tk).snoc (tk _ _ ed) (by rw[(og (j+1)).1];lia)).mono s5};{show m+2 - FP H5 r < m+2 - FP H3 r;rw[Ca er',Ca er,V6];show m+2 - (us.length+1) < m+2 - us.length;lia}
 ·rintro σ H3 Q1 Q2 hQ ⟨v1,h1,v2,h2,i0,h3,p,xs,i,z,h4,h5,h6,h7,a1,a2,ns,ms,h8,h9,h10,h11,c,h12,qq⟩;exact⟨v1,h1,v2,h2,i0,h3,p,xs,i,z,h4,h5,h6,h7,a1,a2,ns,ms,h8,h9,h10,h11,c,h12,hQ _ _ qq⟩
def vL (st:DU->List (List Pl)->DU):Sp:=fun vs H Q _=>∃ (b f:Addr) (n:Nat) (bk:List (List Pl)) (fl:DU),vs=[.ref b,.ref f]/\Dj n H b bk/\bk.length=n/\H f=some (.tup (fl.map V.int))/\okG n fl ∧
 ∀ (m:Nat) (r:Addr) (us:Fk) (H':Hp),m<=9 * n->Stops (Fd fl bk) (st fl bk) m->aG H H'->H r=none->H' r=some (.lst us)->qy H' us (pX (Fd fl bk) (st fl bk) m)->Q (.ref r) H'
def LR (st:DU->List (List Pl)->DU):Sp:=fun vs H Q _=>∃ (b f:Addr) (n:Nat) (bk:List (List Pl)) (fl:DU),vs=[.ref b,.ref f]/\Dj n H b bk/\bk.length=n/\H f=some (.tup (fl.map V.int))/\okG n fl ∧
 ∀ (m:Nat) (a:Addr) (H':Hp),m<=9 * n->Stops (Fd fl bk) (st fl bk) m->aG H H'->H' a=some (.tup ((itF (Fd fl bk) (st fl bk) m).map V.int))->Q (.ref a) H'
abbrev Tw:DU->List (List Pl)->DU:=fun fl _=>fl
def Eo {n:Nat}{fl:DU}{bk:List (List Pl)}(hb:bk.length=n)(ok:okB bk)(hf:okG n fl):∃ m,m<=9 * n/\Stops (Fd fl bk) fl m:=Mm hb ok hf hf (nC hb ok hf fl)
def Ez {n:Nat}{fl:DU}{bk:List (List Pl)}(hb:bk.length=n)(ok:okB bk)(hf:okG n fl):∃ m,m<=9 * n/\Stops (Fd fl bk) (rfF fl bk) m:=Dn hb ok hf (qt hb ok hf) (CW hb ok hf _)
abbrev Iv:Stmt:=top 51
abbrev zz:Stmt:=top 53
def Pq:aB YO YO (aA Iv):=bZ
def K6:aB YO YO (aA zz):=bZ
def O5 {k:Nat} (F:Fun K "rise" "rise" Iv f fd) (B:Bt mg)
  (SG:Df P w K mg base "settled" k XE (qY K)):bh P w K mg base CX0 (k+1) f fd YO (vL Tw):=by
 refine okA F Pq fun H Q E hr h=>?_;obtain⟨b,f,n,bk,fl,rfl,hb,lb,hf,of,q⟩:=h;refine⟨_,(sR (aM SG hr (aq (pv 0) (v2 1 1)))),?_⟩;obtain⟨m,hm,st⟩:=Eo lb hb.okB of;exact⟨R,O,b,f,f,n,bk,fl,fl,m,U,hb,lb,hf,of,hf,of,hm,st,fun r us H' s1 fr er gr=>q m r us H' hm st s1 fr er gr⟩
def Kh {k:Nat} (F:Fun K "least" "least" zz f fd) (B:Bt mg)
  (SD:Df P w K mg base "rise" k YO (vL Tw)):bh P w K mg base CX0 (k+1) f fd YO (LR Tw):=by
 refine okA F K6 fun H Q E hr h=>?_;obtain⟨b,f,n,bk,fl,rfl,hb,lb,hf,of,q⟩:=h;refine⟨_,(sR (pxL K (aM SD hr (v2 0 1)) (vX nM ao))),R,b,f,n,bk,fl,U,hb,lb,hf,of,fun m r us H' hm st s1 fr er gr=>?_⟩;obtain⟨a,ha,ea⟩:=vO gr;exact⟨O,r,Y,sqL er,ha,q m a H' hm st s1 ea⟩
abbrev Ie:Stmt:=top 52
abbrev pC:Stmt:=top 54
def PJ:aB YO YO (aA Ie):=bZ
def Ax:aB YO YO (aA pC):=bZ
def QL {k:Nat} (hk:2<=k) (F:Fun K "fall" "fall" Ie f fd) (B:Bt mg)
  (SG:Df P w K mg base "settled" k XE (qY K)) (SE:Df P w K mg base "roof" 2 YO (Bu K)):bh P w K mg base CX0 (k+1) f fd YO (vL rfF):=by
 refine okA F PJ fun H Q E hr h=>?_;obtain⟨b,f,n,bk,fl,rfl,hb,lb,hf,of,q⟩:=h;refine⟨_,(sR (aM SG hr (aq (pv 0) (aq (pv 1) (a1 (aM SE hr (v2 0 1))))))),?_⟩;obtain⟨m,hm,st⟩:=Ez lb hb.okB of;exact⟨R,R,b,f,n,bk,fl,U,hb,sqT hf,by rw[of.1,lb],fun r1 H1 s1 e1=>⟨b,f,r1,n,bk,fl,rfF fl bk,m,U,hb.mono s1,lb,s1 _ _ hf,of,e1,qt lb hb.okB of,hm,st,fun r us H' s2 fr er gr=>q m r us H' hm st (s1.trans s2) (s1.free fr) er gr⟩⟩
def Ac {k:Nat} (F:Fun K "greatest" "greatest" pC f fd) (B:Bt mg)
  (Pt:Df P w K mg base "fall" k YO (vL rfF)):bh P w K mg base CX0 (k+1) f fd YO (LR rfF):=by
 refine okA F Ax fun H Q E hr h=>?_;obtain⟨b,f,n,bk,fl,rfl,hb,lb,hf,of,q⟩:=h;refine⟨_,(sR (pxL K (aM Pt hr (v2 0 1)) (vX nM ao))),R,b,f,n,bk,fl,U,hb,lb,hf,of,fun m r us H' hm st s1 fr er gr=>?_⟩;obtain⟨a,ha,ea⟩:=vO gr;exact⟨O,r,Y,sqL er,ha,q m a H' hm st s1 ea⟩
def LeG.trans {a b c:DU}(h:LeG a b)(k:LeG b c):LeG a c:=fun i=>acB (h i) (k i)
section
variable {n:Nat}{fl:DU}{bk:List (List Pl)}
theorem yf (hb:bk.length=n)(ok:okB bk)(hf:okG n fl){g:DU}(h:LeG (iT g fl bk) g):∀ k,LeG (itF (Fd fl bk) fl k) g
 | 0=>(nC hb ok hf g).trans h
 | k+1=>(qI hb ok hf (yf hb ok hf h k)).trans h
theorem xV (hb:bk.length=n)(ok:okB bk)(hf:okG n fl){g:DU}(h:LeG g (iT g fl bk)):∀ k,LeG g (itF (Fd fl bk) (rfF fl bk) k)
 | 0=>h.trans (CW hb ok hf g)
 | k+1=>h.trans (qI hb ok hf (xV hb ok hf h k))
end
def O8 {p:Pl}{x:Int × Tm}(ok:okP p)(h:p[p.length - 1]? = some x):lsF p=x.1:=by
 have hne:=ok.1;have e:p=p.dropLast++[x]:=by
  rw[← List.getLast?_eq_getElem?,acX hne] at h;rw[← WL h];exact (ac6 hne).symm
 have hp:=ok.2.2.1;rw[e] at hp ⊢;exact KN hp
def U5 {K:Ww}{a b:Addr}{xs ys:Fk}{H:Hp}{Q:V->Hp->Prop}(ha:H a=some (.tup xs))(hb:H b=some (.tup ys))(hz:xs.length+ys.length<=1000)(h:∀ p H',aG H H'->H' p=some (.tup (xs++ys))->Q (.ref p) H'):jK K (.ref a) (.ref b) H Q :=
 ⟨a,b,xs,ys,U,U,sqT ha,sqT hb,small hz,fun e=>h b H (aG.refl H) (by rw[e,ac4];exact hb),fun _ e=>h a H (aG.refl H) (by rw[e,Xy];exact ha),fun _ _ p hp=>h p _ (au hp _) aa⟩
def Vl {xs:Fk}{k:Nat}(h:k<=xs.length):wj xs none (some (k:Int))=xs.take k:=by
 unfold wj;rw[HT.CJ,HT.uU,List.drop_zero,Nat.sub_zero,Nat.min_eq_left h]
def Ui {xs:Fk}{k:Nat}(h:k<=xs.length):wj xs (some (k:Int)) none=xs.drop k:=by
 unfold wj;rw[HT.CJ,HT.uU,Nat.min_eq_left h,abA (by rw[Z8];lia)]
section
variable {K:Ww}{σ:St}{H:Hp}{Q:V->Hp->Prop}{i j:Nat}{a:Addr}{k:Nat}{xs:Fk}
def slT (hi:σ[i]? = some (some (.ref a)))(hj:σ[j]? = some (some (.int (k:Int))))(ha:H a=some (.tup xs))(hk:k < xs.length)(h:∀ p H',aG H H'->H' p=some (.tup (xs.take k))->Q (.ref p) H'):tSl (J5 K) (yU i) qW (G5 (yU j)) σ H Q:=by
 refine⟨_,hi,_,hj,O,a,xs,U,sqT ha,?_,fun p hp=>?_⟩;{rintro⟨_,z⟩;have z':HT.sIx xs.length xs.length (some (k:Int))=xs.length:=z;rw[HT.uU] at z';lia};{refine h p _ (au hp _) ?_;rw[aa,Vl (by lia)]}
def slD (hi:σ[i]? = some (some (.ref a)))(hj:σ[j]? = some (some (.int (k:Int))))(ha:H a=some (.tup xs))(hk:k < xs.length)(h:∀ p H',aG H H'->H' p=some (.tup (xs.drop (k+1)))->Q (.ref p) H') :
  tSl (J5 K) (yU i) (G5 (tOp (rI0 fun i j=>.int (i+j)) (yU j) (tC (.int 1)))) qW σ H Q:=by
 refine⟨_,hi,_,hj,M,O,a,xs,U,sqT ha,?_,fun p hp=>?_⟩;{rintro⟨z,_⟩;have z':HT.sIx xs.length 0 (some ((k:Int)+1))=0:=z;rw[show (k:Int)+1=((k+1:Nat):Int) by lia,HT.uU] at z';lia};{refine h p _ (au hp _) ?_;rw[aa,show wj xs (some ((k:Int)+1)) none=xs.drop (k+1) by rw[show (k:Int)+1=((k+1:Nat):Int) by lia];exact Ui (by lia)]}
def VD {l:Nat}{v:V}(hi:σ[i]? = some (some (.ref a)))(hj:σ[j]? = some (some (.int (k:Int))))(hv:σ[l]? = some (some v))(ha:H a=some (.tup xs))(hk:k < xs.length)(hl:xs.length<=40)(h:∀ p H',aG H H'->H' p=some (.tup (xs.set k v))->Q (.ref p) H') :
  tOp (jK K) (tOp (jK K) (tSl (J5 K) (yU i) qW (G5 (yU j))) (Va (ue (yU l) Di))) (tSl (J5 K) (yU i) (G5 (tOp (rI0 fun i j=>.int (i+j)) (yU j) (tC (.int 1)))) qW) σ H Q:=by
 refine slT hi hj ha hk fun p1 H1 s1 e1=>?_;refine⟨_,hv,smN 1,fun p2 h2=>?_⟩;generalize eH3:upd H1 p2 _=H3;obtain⟨g3,e3⟩:=aC eH3 h2;refine U5 (g3 _ _ e1) e3 (by rw[Wa];show min k xs.length+1<=1000;lia) fun p4 H4 s4 e4=>?_;have s14:aG H H4:=s1.trans (g3.trans s4);refine slD hi hj (s14 _ _ ha) hk fun p5 H5 s5 e5=>?_;refine U5 (s5 _ _ e4) e5 (by rw[V6,Wa,Z8];show min k xs.length+1+(xs.length - (k+1))<=1000;lia) fun p6 H6 s6 e6=>?_;refine h p6 H6 (s14.trans (s5.trans s6)) ?_;rw[e6,List.set_eq_take_append_cons_drop,iPo hk,ZM];rfl
end
section
variable {n:Nat}{fl:DU}{bk:List (List Pl)}
def vq {g g':DU}(hl:g.length=g'.length)(h:LeG g g')(h':LeG g' g):g=g':=by
 have e1:=j4 hl fun i _=>h i;have e2:=j4 hl.symm fun i _=>h' i;exact e1.2 (by lia)
end
section
variable {n:Nat}{fl fl':DU}{bk:List (List Pl)}
def Mf {g g':DU}(hg:g.length=n)(hg':g'.length=n)(h:∀ i < n,g.getD i 0<=g'.getD i 0):LeG g g':=Cu (by lia) fun i hi=>h i (by lia)
end
def Ov (x:Nat):DV->DV
 | []=>[x]
 | y::r=>if x<=y then x::y::r else y::Ov x r
def mX:DV->DV
 | []=>[]
 | x::r=>Ov x (mX r)
theorem rJ (x:Nat):∀ l:DV,(Ov x l).Perm (x::l)
 | []=>.refl _
 | y::r=>by
  rw[Ov];split;{exact .refl _};{exact ((rJ x r).cons y).trans (.swap x y r)}
theorem fZ:∀ l:DV,(mX l).Perm l
 | []=>.refl _
 | x::r=>(rJ x _).trans ((fZ r).cons x)
theorem rD (x:Nat):∀ {l:DV},l.Pairwise (·<=·)->(Ov x l).Pairwise (·<=·)
 | [],_=>by rw[Ov];simp
 | y::r,h=>by
  rw[Ov];rw[Yl] at h;split
  ·rw[Yl,Yl];refine⟨fun z hz=>?_,h⟩;rcases List.mem_cons.mp hz with rfl | hz;{assumption};{have:=h.1 z hz;lia}
  ·rw[Yl];refine⟨fun z hz=>?_,rD x h.2⟩;rcases List.mem_cons.mp ((rJ x r).mem_iff.mp hz) with rfl | hz;{lia};{exact h.1 z hz}
theorem mq:∀ l:DV,(mX l).Pairwise (·<=·)
 | []=>by rw[mX];simp
 | x::r=>rD x (mq r)
def zj {l:DV}{ms:DU}(p:ms.Perm (l.map fun i:Nat=>(i:Int)))(h:ms.Pairwise (·<=·)):ms=(mX l).map fun i:Nat=>(i:Int):=by
 refine j8 (p.trans ((fZ l).map _).symm) h ?_;rw[ZL];exact (mq l).imp fun h=>by lia
mutual
def ren (f:Nat->Nat):Tm->Tm
 | .free=>.free
 | .never=>.never
 | .gives i k=>.gives (f i) k
 | .sum c k=>.sum (mX (c.map f)) k
 | .crowd c k m=>.crowd (mX (c.map f)) k m
 | .all ts=>.all (Ec f ts)
 | .any ts=>.any (Ec f ts)
def Ec (f:Nat->Nat):List Tm->List Tm
 | []=>[]
 | t::r=>ren f t::Ec f r
end
theorem m7 (f:Nat->Nat):∀ ts:List Tm,Ec f ts=ts.map (ren f)
 | []=>by rw[Ec];rfl
 | t::r=>by rw[Ec,m7 f r];rfl
mutual
theorem Gj (f:Nat->Nat):∀ t:Tm,(ren f t).dep=t.dep
 | .free=>by rw[ren]
 | .never=>by rw[ren]
 | .gives i k=>by rw[ren,Tm.dep,Tm.dep] <;> simp
 | .sum c k=>by rw[ren,Tm.dep,Tm.dep] <;> simp
 | .crowd c k m=>by rw[ren,Tm.dep,Tm.dep] <;> simp
 | .all ts=>by rw[ren,Tm.dep,Tm.dep,wu f ts]
 | .any ts=>by rw[ren,Tm.dep,Tm.dep,wu f ts]
theorem wu (f:Nat->Nat):∀ ts:List Tm,tdL (Ec f ts)=tdL ts
 | []=>by rw[Ec]
 | t::r=>by rw[Ec,tdL,tdL,Gj f t,wu f r]
end
def qg (rs:DV)(i:Nat):Nat:=rs.getD i 0
def BL {rs:DV}{i:Nat}(h:i < rs.length):qg rs i∈rs:=by
 unfold qg;rw[V3,VN h];exact YW h
def KD {rs:DV}(nd:rs.Nodup){i j:Nat}(hi:i < rs.length)(hj:j < rs.length)(hij:i < j):qg rs i≠qg rs j:=by
 unfold qg;rw[V3,VN hi,V3,VN hj];exact List.pairwise_iff_getElem.mp nd i j hi hj hij
def yo {rs c:DV}{m n:Nat}(nd:rs.Nodup)(hm:m<=rs.length)(hv:∀ x∈rs,x < n)(hc:∀ i∈c,i < m)(hp:c.Pairwise (· < ·)) :
  (∀ i∈mX (c.map (qg rs)),i < n)/\(mX (c.map (qg rs))).Pairwise (· < ·)/\(mX (c.map (qg rs))).length=c.length:=by
 have pm:=fZ (c.map (qg rs));refine⟨fun i hi=>?_,?_,by rw[pm.length_eq,VH]⟩;{obtain⟨j,hj,rfl⟩:=List.mem_map.mp (pm.mem_iff.mp hi);exact hv _ (BL (V4 (hc j hj) hm))}
 ·have nd2:(c.map (qg rs)).Nodup:=by
   show (c.map (qg rs)).Pairwise (·≠·);rw[ZL];exact List.Pairwise.imp_of_mem (fun {a b} ha hb h=>KD nd (V4 (hc a ha) hm) (V4 (hc b hb) hm) h) hp
  have nd3:(mX (c.map (qg rs))).Nodup:=pm.nodup_iff.mpr nd2;exact ((mq _).and nd3).imp fun h=>by lia
def Ib {rs:DV}{i:Nat}(h:i < rs.length):atI (rs.map vN) (i:Int)=some (vN (qg rs i)):=by
 refine eE ?_;unfold qg;rw[Wf,V3,VN h];rfl
def Kw {b:Bool}{A B:Prop}(h:b=true)(a:A):if b=true then A else B:=by rw[iPo h];exact a
def kO {b:Bool}{A B:Prop}(h:b=false)(a:B):if b=true then A else B:=by rw[iNe (by rw[h];exact VR)];exact a
abbrev jC:Stmt:=top 70
def uw:aB WP WP (aA jC):=bZ
inductive Ew (K:Ww)(d:Nat)(vs:Fk)(H:Hp)(Q:VK)(e3:XK):Prop where
 | mk (v:V) (row:Addr) (m n:Nat) (t:Tm) (rs:DV) (_:vs=[v,.ref row]) (_:jx m H v t) (_:t.dep<=d) (_:SqL K H row (rs.map vN)) (_:m<=rs.length) (_:rs.Nodup) (_:(∀ x∈rs,x < n)) (_:∀ (v':V) (H':Hp),aG H H'->jx n H' v' (ren (qg rs) t)->Q v' H')
def J2:bh P w K mg base CX0 0 f fd WP (Ew K 0):=by
 have no:∀ vs H Q E,¬ Ew K 0 vs H Q E:=fun vs H Q E h=>by
  obtain⟨v,row,m,n,t,rs,_,_,h1,_⟩:=h;have:=t.oA;lia
 exact⟨fun vs H Q E h=>absurd h (no vs H Q E),fun A outer s H args us vs Q E _ _ _ _ h=>absurd h (no vs H Q E)⟩
def Lp {K:Ww}{H H':Hp}{a:Addr}{xs:Fk}(e:aG H H')(h:SqL K H a xs):SqL K H' a xs:=e.seq h
def iu {d:Nat} (F:Fun K "_law_renamed" "_law_renamed" jC f fd) (B:Bt mg)
  (RS:Df P w K mg base "_law_renamed" d WP (Ew K d)):bh P w K mg base CX0 (d+1) f fd WP (Ew K (d+1)):=by
 refine okA F uw fun H Q E hr h=>?_;obtain⟨v,row,m,n,t,rs,rfl,rt,hd,hR,hm,nd,hv,q⟩:=h
 refine⟨_,(aj (ifR (aD bc (pxT K (pv 0) ao) aJ) (aU (aq aJ (aq (pxL K (pv 1) (pxT K (pv 0) ao)) (a1 (pxT K (pv 0) ao))))))
 (aj (ifR (fj (r:=rIn K false) dq (pxT K (pv 0) ao) (aU (aq aJ (a1 aJ))) U) (aN (r:=jK K) iY (aU (aq (pxT K (pv 0) ao) (a1 (aR (r:=eY K) bj U B.tuple_ bH (a1 (aQ (r:=Nt K) Fe U B.sorted_ (by decide+kernel) (a1 (bC (L:=ZI) (F:=["_law_row"]) (cap:=[1]) U (aY U U (by kernel_rfl)) (cH (pxT K (pv 0) ao)) (fun _ _ _ _ _=>(pgC 0)) (fun _ _ _ _ _=>bI) (fun _ _ _ _ _=>(pxL K (pv 1) (pv 0))))))))))) (j6 (r:=J5 K) Bl (pv 0) (jN ao) oJ)))
 (aj (ifR (fj (r:=rIn K false) dq (pxT K (pv 0) ao) (aU (aq aJ (a1 aJ))) U) (aU (aq (pxT K (pv 0) ao) (a1 (aR (r:=eY K) bj U B.tuple_ bH (a1 (bC (L:=["_law_part"]) (F:=["_law_row"]) (cap:=[1]) U (aY U U (by kernel_rfl)) (cH (pxT K (pv 0) ao)) (fun _ _ _ _ _=>(pgC 0)) (fun _ _ _ _ _=>bI) (fun _ _ _ _ _=>(aM RS hr (v2 0 1))))))))))
 (sR (pv 0))))),?_⟩
 cases rt with
 | @free a ha =>
  refine⟨O,a,Y,sqT ha,J,aZ bf ⟨O,a,Y,sqT ha,gt0,smN 2,fun p1 h1=>⟨p1,O,.inr (sqT aa),U,U,O,kO (by decide+kernel) ?_⟩⟩⟩;generalize eH1:upd H p1 _=H1;obtain⟨g1,_⟩:=aC eH1 h1;refine⟨O,a,Y,sqT (g1 _ _ ha),gt0,smN 2,fun p2 h2=>⟨p2,O,.inr (sqT aa),U,U,O,kO (by decide+kernel) ?_⟩⟩;generalize eH2:upd H1 p2 _=H2;obtain⟨g2,_⟩:=aC eH2 h2;refine⟨O,?_⟩;have q':=q (.ref a) H2 (g1.trans g2) (by rw[ren];exact .free (g2 _ _ (g1 _ _ ha)));exact q'
 | @never a ha =>
  refine⟨O,a,Y,sqT ha,J,aZ bf ⟨O,a,Y,sqT ha,gt0,smN 2,fun p1 h1=>⟨p1,O,.inr (sqT aa),U,U,O,kO (by decide+kernel) ?_⟩⟩⟩;generalize eH1:upd H p1 _=H1;obtain⟨g1,_⟩:=aC eH1 h1;refine⟨O,a,Y,sqT (g1 _ _ ha),gt0,smN 2,fun p2 h2=>⟨p2,O,.inr (sqT aa),U,U,O,kO (by decide+kernel) ?_⟩⟩;generalize eH2:upd H1 p2 _=H2;obtain⟨g2,_⟩:=aC eH2 h2;refine⟨O,?_⟩;have q':=q (.ref a) H2 (g1.trans g2) (by rw[ren];exact .never (g2 _ _ (g1 _ _ ha)));exact q'
 | @gives a i k ha hi k1 k9 =>
  refine⟨O,a,Y,sqT ha,J,gU U ⟨R,a,Y,sqT ha,gt1,row,Y,hR,Ib (by lia),O,a,Y,sqT ha,gt2,smN 3,fun p1 h1=>?_⟩⟩;refine q (.ref p1) _ (au h1 _) ?_;rw[ren];exact .gives aa (hv _ (BL (by lia))) k1 k9
 | @sum a b c k ha hb hc hp l20 l2 k1 k99 =>
  obtain⟨x1,x2,x3⟩:=yo nd hm hv hc hp;refine⟨O,a,Y,sqT ha,J,aZ bf ⟨O,a,Y,sqT ha,gt0,smN 2,fun p1 h1=>⟨p1,O,.inr (sqT aa),U,U,O,Kw (by decide+kernel) ?_⟩⟩⟩;generalize eH1:upd H p1 _=H1;obtain⟨g1,_⟩:=aC eH1 h1;refine⟨O,a,Y,sqT (g1 _ _ ha),gt0,?_⟩
  refine⟨O,a,Y,sqT (g1 _ _ ha),gt1,b,U,⟨_,sqT (g1 _ _ hb)⟩,fun D hD=>cj (K:=K) (a:=b) (xs:=c.map vN) (fun i zs σ' H2=>(∃ u,σ'=[u,oR row])/\zs=((c.take i).map (qg rs)).map vN/\aG H1 H2/\H2 D=some (.lst zs))
   ⟨⟨O⟩,U,au hD _,aa⟩ (fun i zs σ' H2 _ h=>⟨sqT (h.2.2.1 _ _ (g1 _ _ hb)),h.2.2.2⟩) ?_ ?_⟩
  ·rintro j zs x σ' H2 hx ⟨⟨u,rfl⟩,e1,sm,hDl⟩;obtain⟨i,hi,rfl⟩:=uV hx;have him:=hc i (Wk hi);refine gT ?_;refine⟨R,row,Y,Lp (g1.trans sm) hR,Ib (by lia),hDl,?_,⟨O⟩,?_,aK sm hD _,aa⟩;{rw[e1,VH,VH,Wa];exact aH (by lia)};{rw[e1,take_snoc (qg rs) hi,VV];rfl}
  ·rintro zs σ' H2 ⟨_,e1,sm,hDl⟩;rw[VH,V1] at e1;refine⟨D,(c.map (qg rs)).map fun i:Nat=>(i:Int),U,sqL (by rw[hDl,e1,jq]),by rw[VH,VH];lia,fun ms pm so l hl=>?_⟩;rw[zj pm so,← jq];generalize eH3:upd H2 l _=H3;obtain⟨g3,e3⟩:=aC eH3 hl;refine⟨l,O,.inl ⟨sqL e3,fun p4 h4=>?_⟩⟩;generalize eH4:upd H3 p4 _=H4;obtain⟨g4,e4⟩:=aC eH4 h4;refine⟨smN 2,fun p5 h5=>?_⟩;generalize eH5:upd H4 p5 _=H5;obtain⟨g5,e5⟩:=aC eH5 h5;have s5:aG H H5:=g1.trans (sm.trans (g3.trans (g4.trans g5)));refine⟨R,a,O,sqT (s5 _ _ ha),(by show ¬ (HT.sIx 3 0 (some 2)=0/\HT.sIx 3 3 none=3);decide),fun p6 h6=>?_⟩;have ec:wj [V.str "sum",.ref b,.int k] (some 2) none=[.int k]:=rfl;rw[ec];generalize eH6:upd H5 p6 _=H6;obtain⟨g6,e6⟩:=aC eH6 h6;refine⟨p5,p6,M,sqT (g6 _ _ e5),sqT e6,smN 3,fun z=>(by cases z),fun _ z=>(by cases z),fun _ _ p7 h7=>?_⟩;refine q (.ref p7) _ (s5.trans (g6.trans (au h7 _))) ?_;rw[ren];exact .sum aa (au h7 _ _ _ (g6 _ _ (g5 _ _ e4))) x1 x2 (by lia) (by lia) k1 k99
 | @crowd a b c k mm ha hb hc hp l20 l1 k1 k9 m1 m12 =>
  obtain⟨x1,x2,x3⟩:=yo nd hm hv hc hp;refine⟨O,a,Y,sqT ha,J,aZ bf ⟨O,a,Y,sqT ha,gt0,smN 2,fun p1 h1=>⟨p1,O,.inr (sqT aa),U,U,O,Kw (by decide+kernel) ?_⟩⟩⟩;generalize eH1:upd H p1 _=H1;obtain⟨g1,_⟩:=aC eH1 h1;refine⟨O,a,Y,sqT (g1 _ _ ha),gt0,?_⟩
  refine⟨O,a,Y,sqT (g1 _ _ ha),gt1,b,U,⟨_,sqT (g1 _ _ hb)⟩,fun D hD=>cj (K:=K) (a:=b) (xs:=c.map vN) (fun i zs σ' H2=>(∃ u,σ'=[u,oR row])/\zs=((c.take i).map (qg rs)).map vN/\aG H1 H2/\H2 D=some (.lst zs))
   ⟨⟨O⟩,U,au hD _,aa⟩ (fun i zs σ' H2 _ h=>⟨sqT (h.2.2.1 _ _ (g1 _ _ hb)),h.2.2.2⟩) ?_ ?_⟩
  ·rintro j zs x σ' H2 hx ⟨⟨u,rfl⟩,e1,sm,hDl⟩;obtain⟨i,hi,rfl⟩:=uV hx;have him:=hc i (Wk hi);refine gT ?_;refine⟨R,row,Y,Lp (g1.trans sm) hR,Ib (by lia),hDl,?_,⟨O⟩,?_,aK sm hD _,aa⟩;{rw[e1,VH,VH,Wa];exact aH (by lia)};{rw[e1,take_snoc (qg rs) hi,VV];rfl}
  ·rintro zs σ' H2 ⟨_,e1,sm,hDl⟩;rw[VH,V1] at e1;refine⟨D,(c.map (qg rs)).map fun i:Nat=>(i:Int),U,sqL (by rw[hDl,e1,jq]),by rw[VH,VH];lia,fun ms pm so l hl=>?_⟩;rw[zj pm so,← jq];generalize eH3:upd H2 l _=H3;obtain⟨g3,e3⟩:=aC eH3 hl;refine⟨l,O,.inl ⟨sqL e3,fun p4 h4=>?_⟩⟩;generalize eH4:upd H3 p4 _=H4;obtain⟨g4,e4⟩:=aC eH4 h4;refine⟨smN 2,fun p5 h5=>?_⟩;generalize eH5:upd H4 p5 _=H5;obtain⟨g5,e5⟩:=aC eH5 h5;have s5:aG H H5:=g1.trans (sm.trans (g3.trans (g4.trans g5)));refine⟨R,a,O,sqT (s5 _ _ ha),(by show ¬ (HT.sIx 4 0 (some 2)=0/\HT.sIx 4 4 none=4);decide),fun p6 h6=>?_⟩;have ec:wj [V.str "crowd",.ref b,.int k,.int mm] (some 2) none=[.int k,.int mm]:=rfl;rw[ec];generalize eH6:upd H5 p6 _=H6;obtain⟨g6,e6⟩:=aC eH6 h6;refine⟨p5,p6,M,sqT (g6 _ _ e5),sqT e6,smN 4,fun z=>(by cases z),fun _ z=>(by cases z),fun _ _ p7 h7=>?_⟩;refine q (.ref p7) _ (s5.trans (g6.trans (au h7 _))) ?_;rw[ren];exact .crowd aa (au h7 _ _ _ (g6 _ _ (g5 _ _ e4))) x1 x2 (by lia) (by lia) k1 k9 m1 m12
 | @all a b us ts ha hb l2 l6 rl =>
  have hdl:tdL ts<=d:=by rw[Tm.dep] at hd;lia
  have el:=rl.length;refine⟨O,a,Y,sqT ha,J,aZ bf ⟨O,a,Y,sqT ha,gt0,smN 2,fun p1 h1=>⟨p1,O,.inr (sqT aa),U,U,O,kO (by decide+kernel) ?_⟩⟩⟩;generalize eH1:upd H p1 _=H1;obtain⟨g1,_⟩:=aC eH1 h1;refine⟨O,a,Y,sqT (g1 _ _ ha),gt0,smN 2,fun p2 h2=>⟨p2,O,.inr (sqT aa),U,U,O,Kw (by decide+kernel) ?_⟩⟩;generalize eH2:upd H1 p2 _=H2;obtain⟨g2,_⟩:=aC eH2 h2;have s2:aG H H2:=g1.trans g2;refine⟨O,a,Y,sqT (s2 _ _ ha),gt0,?_⟩
  refine⟨O,a,Y,sqT (s2 _ _ ha),gt1,b,U,⟨_,sqT (s2 _ _ hb)⟩,fun D hD=>cj (K:=K) (a:=b) (xs:=us) (fun i zs σ' H3=>(∃ u,σ'=[u,oR row])/\zs.length=i/\aG H2 H3/\H3 D=some (.lst zs)/\cJ n H3 zs (Ec (qg rs) (ts.take i)))
   ⟨⟨O⟩,U,au hD _,aa,by rw[WD,Ec];exact .nil⟩ (fun i zs σ' H3 _ h=>⟨sqT (h.2.2.1 _ _ (s2 _ _ hb)),h.2.2.2.1⟩) ?_ ?_⟩
  ·rintro j zs x σ' H3 hx ⟨⟨u,rfl⟩,lz,sm,hDl,rz⟩;obtain⟨t,ht,rt⟩:=rl.get hx;have hj:=(geS hx).1;refine gT ?_;refine⟨R,x,row,m,n,t,rs,U,rt.mono (s2.trans sm),Wn (iw ht) hdl,Lp (s2.trans sm) hR,hm,nd,hv,fun v' H4 s4 r4=>?_⟩;have s7:=bR (zs':=zs++[v']) (s4 _ _ hDl);refine⟨s4 _ _ hDl,aH (by lia),⟨O⟩,by rw[V6,lz];rfl,aK (sm.trans s4) hD _,aa,?_⟩;rw[m7,take_snoc (ren (qg rs)) ht,← m7];exact ((rz.mono s4).aO s7).snoc (r4.aO s7)
  ·rintro zs σ' H3 ⟨_,lz,sm,hDl,rz⟩;rw[el,V1] at rz;refine⟨D,O,.inl ⟨sqL hDl,fun p4 h4=>?_⟩⟩;generalize eH4:upd H3 p4 _=H4;obtain⟨g4,e4⟩:=aC eH4 h4;refine⟨smN 2,fun p5 h5=>?_⟩;refine q (.ref p5) _ (s2.trans (sm.trans (g4.trans (au h5 _)))) ?_;rw[ren];exact .all aa (au h5 _ _ _ e4) (by lia) (by lia) (rz.mono (g4.trans (au h5 _)))
 | @any a b us ts ha hb l2 l6 rl =>
  have hdl:tdL ts<=d:=by rw[Tm.dep] at hd;lia
  have el:=rl.length;refine⟨O,a,Y,sqT ha,J,aZ bf ⟨O,a,Y,sqT ha,gt0,smN 2,fun p1 h1=>⟨p1,O,.inr (sqT aa),U,U,O,kO (by decide+kernel) ?_⟩⟩⟩;generalize eH1:upd H p1 _=H1;obtain⟨g1,_⟩:=aC eH1 h1;refine⟨O,a,Y,sqT (g1 _ _ ha),gt0,smN 2,fun p2 h2=>⟨p2,O,.inr (sqT aa),U,U,O,Kw (by decide+kernel) ?_⟩⟩;generalize eH2:upd H1 p2 _=H2;obtain⟨g2,_⟩:=aC eH2 h2;have s2:aG H H2:=g1.trans g2;refine⟨O,a,Y,sqT (s2 _ _ ha),gt0,?_⟩
  refine⟨O,a,Y,sqT (s2 _ _ ha),gt1,b,U,⟨_,sqT (s2 _ _ hb)⟩,fun D hD=>cj (K:=K) (a:=b) (xs:=us) (fun i zs σ' H3=>(∃ u,σ'=[u,oR row])/\zs.length=i/\aG H2 H3/\H3 D=some (.lst zs)/\cJ n H3 zs (Ec (qg rs) (ts.take i)))
   ⟨⟨O⟩,U,au hD _,aa,by rw[WD,Ec];exact .nil⟩ (fun i zs σ' H3 _ h=>⟨sqT (h.2.2.1 _ _ (s2 _ _ hb)),h.2.2.2.1⟩) ?_ ?_⟩
  ·rintro j zs x σ' H3 hx ⟨⟨u,rfl⟩,lz,sm,hDl,rz⟩;obtain⟨t,ht,rt⟩:=rl.get hx;have hj:=(geS hx).1;refine gT ?_;refine⟨R,x,row,m,n,t,rs,U,rt.mono (s2.trans sm),Wn (iw ht) hdl,Lp (s2.trans sm) hR,hm,nd,hv,fun v' H4 s4 r4=>?_⟩;have s7:=bR (zs':=zs++[v']) (s4 _ _ hDl);refine⟨s4 _ _ hDl,aH (by lia),⟨O⟩,by rw[V6,lz];rfl,aK (sm.trans s4) hD _,aa,?_⟩;rw[m7,take_snoc (ren (qg rs)) ht,← m7];exact ((rz.mono s4).aO s7).snoc (r4.aO s7)
  ·rintro zs σ' H3 ⟨_,lz,sm,hDl,rz⟩;rw[el,V1] at rz;refine⟨D,O,.inl ⟨sqL hDl,fun p4 h4=>?_⟩⟩;generalize eH4:upd H3 p4 _=H4;obtain⟨g4,e4⟩:=aC eH4 h4;refine⟨smN 2,fun p5 h5=>?_⟩;refine q (.ref p5) _ (s2.trans (sm.trans (g4.trans (au h5 _)))) ?_;rw[ren];exact .any aa (au h5 _ _ _ e4) (by lia) (by lia) (rz.mono (g4.trans (au h5 _)))
def shN (one k:Nat):Nat:=k+if one<=k then 1 else 0
def shR (one m:Nat):DV:=(Xb m).map (shN one)
def Hh (one m:Nat):(shR one m).Nodup:=by
 unfold shR;show ((Xb m).map (shN one)).Pairwise (·≠·);rw[ZL];refine List.pairwise_lt_range.imp fun {a b} h=>?_;unfold shN;split <;> split <;> lia
def Q4 {one m:Nat}:∀ x∈shR one m,x < m+1:=fun x hx=>by
 unfold shR at hx;obtain⟨k,hk,rfl⟩:=List.mem_map.mp hx;have:=List.mem_range.mp hk;unfold shN;split <;> lia
abbrev oH:Stmt:=top 71
def zL:aB VS VS (aA oH):=bZ
inductive MT (vs:Fk)(H:Hp)(Q:VK)(e3:XK):Prop where
 | mk (c:Int) (n one:Nat) (deep:Int) (mo:Nat) (_:vs=[.int c,.int (n:Int),.int (one:Int),.int deep,.int (mo:Int)]) (_:1<=n) (_:n<=12) (_:one < n) (_:1<=deep) (_:deep<=3) (_:1<=mo) (_:mo<=9) (_:∀ (v:V) (t:Tm) (H':Hp),aG H H'->jx n H' v t->t.dep<=3->Q v H')
def Ao (F:Fun K "_law_mine" "_law_mine" oH f fd) (B:Bt mg)
  (Se:Df P w K mg base "_law_term" 4 VT (uM 3)) (RS:Df P w K mg base "_law_renamed" 3 WP (Ew K 3)):bh P w K mg base CX0 5 f fd VS MT:=by
 refine okA F zL fun H Q E hr h=>?_;obtain⟨c,n,one,deep,mo,rfl,n1,n12,hone,de1,de3,m1,m9,q⟩:=h
 refine⟨_,(aj (ifR (aD bc (pv 1) ao) (aU (a1 (pxL K (aV (aq aJ (aq aJ (a1 aJ)))) (aN bM (pv 0) ao)))))
 (sR (aM RS hr (aq (aM Se hr (aq (pv 0) (aq (aN eQ (pv 1) ao) (v2 3 4)))) (a1 (bC (L:=["_law_k"]) (F:=ZI) (cap:=[2]) U (aY U U (by kernel_rfl)) (bQ U B.range_ (a1 (aN eQ (pv 1) ao))) (fun _ _ _ _ _=>(pgC 0)) (fun _ _ _ _ _=>bI) (fun _ _ _ _ _=>(aN bF (pv 0) (aR (r:=Oa) tG U B.int_ Bq (a1 (du kY (pv 0) (pv 1)))))))))))),?_⟩
 refine⟨T,?_⟩;refine kI (fun c1=>?_) (fun c1=>?_)
 ·have en:n=1:=by
   have:=of_decide_eq_true c1;cases n with
   | zero=>lia
   | succ n=>injection this with z;lia
  subst en;refine⟨smN 3,fun p7 h7=>?_⟩;generalize eH7:upd H p7 _=H7;obtain⟨g7,e7⟩:=aC eH7 h7;have fin:∀ p8 (x:Wt),H7 p8=none->(x = "free"∨x = "never")->Q (.ref p8) (upd H7 p8 (.tup [.str x])):=fun p8 x h8 hx=>by
   rcases hx with rfl | rfl;{exact q (.ref p8) .free _ (g7.trans (au h8 _)) (.free aa) (by decide)};{exact q (.ref p8) .never _ (g7.trans (au h8 _)) (.never aa) (by decide)}
  refine⟨O,M,(by show (0:Int) < 3;decide),?_⟩;have u1:0<=c % 3:=WN _ (by lia);have u2:c % 3 < 3:=Wu _ (by lia);rcases (show c % 3=0∨c % 3=1∨c % 3=2 by lia) with z | z | z;{exact⟨p7,Y,sqL e7,by rw[z];rfl,smN 1,fun p8 h8=>fin p8 _ h8 (.inl U)⟩};{exact⟨p7,Y,sqL e7,by rw[z];rfl,smN 1,fun p8 h8=>fin p8 _ h8 (.inr U)⟩};{exact⟨p7,Y,sqL e7,by rw[z];rfl,smN 1,fun p8 h8=>fin p8 _ h8 (.inl U)⟩}
 ·have en:n≠1:=fun z=>c1 (dcT (by rw[z];rfl));obtain⟨m,rfl⟩:∃ m,n=m+1:=⟨n - 1,by lia⟩;have em:((m+1:Nat):Int) - 1=(m:Int):=by lia
  have et:(((m+1:Nat):Int) - 1).toNat=m:=by lia
  refine⟨R,M,R,c,m,deep,(mo:Int),(by show[V.int c,V.int (((m+1:Nat):Int) - 1),V.int deep,V.int (mo:Int)]=_;rw[em]),by lia,by lia,de1,by lia,by lia,by lia,fun v t H1 s1 rt td=>?_⟩
  refine⟨O,M,O,by lia,by lia,fun D hD=>cR (lo:=0) (n:=(((m+1:Nat):Int) - 1).toNat) (fun i zs σ' H2=>(∃ u,σ'=[u,some (.int (one:Int))])/\zs=((Xb i).map (shN one)).map vN/\aG H1 H2/\H2 D=some (.lst zs))
   ⟨⟨O⟩,U,au hD _,aa⟩ (fun i zs σ' H2 _ h=>h.2.2.2) ?_ ?_⟩
  ·rintro i zs σ' H2 hi ⟨⟨u,rfl⟩,e1,sm,hDl⟩;refine gT ?_;refine⟨R,O,M,.inr ⟨O,M,hDl,?_,⟨O⟩,?_,aK sm hD _,aa⟩⟩;{rw[e1,VH,VH,WQ];exact aH (by lia)}
   ·rw[e1,aak,VV,VV];congr 1;show[V.int (0+(i:Int)+_)]=[V.int ((shN one i:Nat):Int)];congr 2;unfold shN;by_cases hc:one<=i;{rw[dcT (by lia),iPo hc];simp};{rw[dcF (by lia),iNe hc];simp}
  ·rintro zs σ' H2 ⟨_,e1,sm,hDl⟩;rw[et] at e1;refine⟨v,D,m,m+1,t,shR one m,U,rt.mono sm,by lia,sqL (by rw[hDl,e1];rfl),by unfold shR;rw[VH,WQ];lia,Hh one m,Q4,fun v' H3 s3 r3=>?_⟩;exact q v' _ H3 (s1.trans (sm.trans s3)) r3 (by rw[Gj];lia)
theorem JD {x:Int}:∀ (ns acc:DU),x∈ns.foldl Xz acc ↔ x∈acc∨x∈ns
 | [],acc=>by simp
 | n::r,acc=>by
  rw[W9,JD r _];unfold Xz;split
  ·rename_i h;obtain⟨y,hy,ey⟩:=List.any_eq_true.mp h;have e:=eq_of_beq ey;constructor
   ·rintro (h | h);{exact .inl h};{exact .inr (V7 _ h)}
   ·rintro (h | h);{exact .inl h}
    ·rcases List.mem_cons.mp h with rfl | h;{exact .inl (by rw[← e];exact hy)};{exact .inr h}
  ·constructor
   ·rintro (h | h)
    ·rcases List.mem_append.mp h with h | h;{exact .inl h};{exact .inr (by rw[List.mem_singleton.mp h];exact V0)}
    ·exact .inr (V7 _ h)
   ·rintro (h | h);{exact .inl (aaI _ h)}
    ·rcases List.mem_cons.mp h with rfl | h;{exact .inl (Wq _ V0)};{exact .inr h}
def okS (ms:DU):Prop:=ms≠[]/\ms.length<=9/\ms.Pairwise (· < ·)/\∀ x∈ms,1<=x/\x<=9
def SM {ns ms:DU}(p:ms.Perm (ddI ns))(so:ms.Pairwise (·<=·))(h0:ns≠[])(h9:ns.length<=9)(hb:∀ x∈ns,1<=x/\x<=9):okS ms:=by
 rw[CK] at p;have mem:∀ x,x∈ms ↔ x∈ns:=fun x=>by rw[p.mem_iff,JD];simp
 refine⟨fun z=>?_,?_,?_,fun x hx=>hb x ((mem x).mp hx)⟩
 ·cases ns with
  | nil=>exact h0 U
  | cons a r =>
   have:=(mem a).mpr V0;rw[z] at this;cases this
 ·have:=GF ns [];rw[p.length_eq];simp at this;lia
 ·have nd:ms.Nodup:=p.nodup_iff.mpr (vY ns [] (by simp));exact (so.and nd).imp fun h=>by lia
def Hu {ms:DU}(h:okS ms){p:Pl}(e:p.map (·.1)=ms)(hd:∀ x∈p,x.2.dep<=4):okP p:=by
 refine⟨fun z=>?_,?_,by rw[e];exact h.2.2.1,fun x hx=>?_⟩;{subst z;exact h.1 e.symm};{have:=congrArg abP e;rw[VH] at this;have:=h.2.1;lia}
 ·have hm:x.1∈ms:=by rw[← e];exact List.mem_map.mpr ⟨x,hx,U⟩
  exact⟨(h.2.2.2 _ hm).1,(h.2.2.2 _ hm).2,hd x hx⟩
abbrev j0:Stmt:=top 72
def bL:aB ["_law_cell_here","_law_n","_law_one","_law_deep","_law_most","_law_drawn","_law_steps","_law_other_one","_law_found","_law_k","_law_step"] VS (aA j0):=bZ
inductive BZ (vs:Fk)(H:Hp)(Q:VK)(e3:XK):Prop where
 | mk (c:Int) (n one:Nat) (deep:Int) (mo:Nat) (_:vs=[.int c,.int (n:Int),.int (one:Int),.int deep,.int (mo:Int)]) (_:1<=n) (_:n<=12) (_:one < n) (_:1<=deep) (_:deep<=3) (_:1<=mo) (_:mo<=9) (_:∀ (a:Addr) (p:Pl) (H':Hp),aG H H'->mH n H' a p->Q (.ref a) H')
def wJ (F:Fun K "_law_pledge" "_law_pledge" j0 f fd) (B:Bt mg)
  (QN:Df P w K mg base "_law_draws" 1 WH (oF K)) (Si:Df P w K mg base "_law_under" 1 WS vy) (QA:Df P w K mg base "_law_crowd" 1 XU Aj)
  (Rl:Df P w K mg base "_law_mine" 5 VS MT):bh P w K mg base CX0 6 f fd VS BZ:=by
 refine okA F bL fun H Q E hr h=>?_;obtain⟨c,n,one,deep,mo,rfl,n1,n12,hone,de1,de3,m1,m9,q⟩:=h
 refine⟨_,(aj (sTc 5 bL.nd (aM QN hr (aq (pv 0) (a1 (aV (aq ao (aq ao (aq ao (aq ao (aq ao (a1 ao)))))))))))
 (aj (sT 6 bL.nd (pH U U B.sorted_ U B.set_ (a1 (bC (L:=["_law_k"]) (F:=["_law_most","_law_drawn"]) (cap:=[4,5]) U (aY U U (by kernel_rfl)) (bQ U B.range_ (a1 (aN bF ao (aN bM (pxL K (pv 5) ao) ao)))) (fun _ _ _ _ _=>(pgC 0)) (fun _ _ _ _ _=>bI) (fun _ _ _ _ _=>(aN bF ao (aN bM (pxL K (pv 2) (aN bF ao (pv 0))) (pv 1))))))))
 (aj (cP (aD bc (pxL K (pv 5) ao) ao) (aj (qZ (L:=["_law_step"]) (F:=[]) (cap:=[]) (j:=6) bL.nd U (aas U) U (aY U U (by kernel_rfl)) (cH (aM QA hr (aq (pxL K (pv 5) ao) (v1 4)))) (fun _ _ _ _ _=>(pgC 0)) (fun _ _ _ _ _=>bI) (fun _ _ _ _ _=>(aN bF ao (pv 0))))
 (aF (cP (aD (r:=Rp K) (Bx hr.iJ) (pv 6) (aV cL)) (aF (sT 6 bL.nd (aV (v1 4)))) aX))) aX)
 (aj (ifR (PW.pt (jW (aD bc (pxL K (pv 5) ao) ao) (fO (aD mG (pv 1) ao)))) (aR (r:=eY K) bj U B.tuple_ bH (a1 (bC (L:=["_law_step"]) (F:=["_law_n","_law_one"]) (cap:=[1,2]) U (aY U U (by kernel_rfl)) (cW (pv 6)) (fun _ _ _ _ _=>(pgC 0)) (fun _ _ _ _ _=>bI) (fun _ _ _ _ _=>(aU (aq (pv 0) (a1 (aU (aq aJ (aq (aN bM (aN bF (pv 2) ao) (pv 1)) (v1 0))))))))))))
 (aj (cP (PW.pt (jW (aD bc (pxL K (pv 5) ao) ao) (fO (aD mG (pv 1) ao)))) (aj (sTc 7 bL.nd (aN bM (aN bF (aN bF (pv 2) ao) (aN bM (pxL K (pv 5) ao) (aN eQ (pv 1) ao))) (pv 1)))
 (sR (aR (r:=eY K) bj U B.tuple_ bH (a1 (bC (L:=["_law_step"]) (F:=["_law_other_one"]) (cap:=[7]) U (aY U U (by kernel_rfl)) (cW (pv 6)) (fun _ _ _ _ _=>(pgC 0)) (fun _ _ _ _ _=>bI) (fun _ _ _ _ _=>(aU (aq (pv 0) (a1 (aU (aq aJ (aq (pv 1) (a1 (aQ (mZ U) U B.max_ nj (aq ao (a1 (aN eQ (pv 0) ao))))))))))))))))) aX)
 (aj (sT 8 bL.nd (aV cL))
 (aj (bW Wv U (PQ U B.enumerate_ (v1 6)) (c7 (K:=K) 2 U U (aP (pgN 9 bL.nd) (aP (pgN 10 bL.nd) cY))) (aF (aW (rO Xg Xk Xj cI (pv 8) (a1 (aU (aq (pv 10) (a1 (aM Rl hr (aq (aM Si hr (v2 0 9)) (aq (pv 1) (aq (pv 2) (v2 3 4)))))))))))))
 (sR (aR (r:=eY K) bj U B.tuple_ bH (v1 8)))))))))),?_⟩
 refine⟨O,smN 6,fun p1 h1=>?_⟩;generalize eH1:upd H p1 _=H1;obtain⟨g1,e1⟩:=aC eH1 h1;refine⟨c,p1,[7,9,9,9,12,512],U,sqL e1,by decide,by decide,fun p2 h2=>?_⟩;generalize eH2:upd H1 p2 _=H2;obtain⟨g2,e2⟩:=aC eH2 h2;have hps:∀ q∈([7,9,9,9,12,512]:DU),0 < q:=by decide
 obtain⟨d0,k0,b0⟩:=cN (c:=qJ c) (i:=0) hps U;obtain⟨d1,k1,b1⟩:=cN (c:=qJ c) (i:=1) hps U;obtain⟨d2,k2,b2⟩:=cN (c:=qJ c) (i:=2) hps U;obtain⟨d3,k3,b3⟩:=cN (c:=qJ c) (i:=3) hps U;obtain⟨d4,k4,b4⟩:=cN (c:=qJ c) (i:=4) hps U;obtain⟨d5,k5,b5⟩:=cN (c:=qJ c) (i:=5) hps U;have a0:=dw (gW k0);have a4:=dw (gW k4);have a5:=dw (gW k5);have kk:∀ k:Nat,k < 3->∃ d,(zf (qJ c) [7,9,9,9,12,512])[1+k]? = some d:=fun k hk=>by
  match k,hk with
  | 0,_=>exact⟨_,k1⟩
  | 1,_=>exact⟨_,k2⟩
  | 2,_=>exact⟨_,k3⟩
 change _=some (HO.lst ((zf (qJ c) [7,9,9,9,12,512]).map V.int)) at e2;generalize zf (qJ c) [7,9,9,9,12,512]=ds at *;have gH:aG H H2:=g1.trans g2;have u1:0<=d0 % 3:=WN _ (by lia);have u2:d0 % 3 < 3:=Wu _ (by lia)
 refine⟨O,p2,Y,sqL e2,a0,M,(by show (0:Int) < 3;decide),_,_,U,U,_,U,by lia,by lia,fun D hD=>cR (lo:=0) (n:=(1+d0 % 3).toNat)
  (fun i zs σ' H3=>(∃ u,σ'=[u,some (.int (mo:Int)),oR p2])/\aG H2 H3/\H3 D=some (.lst zs)/\∃ ns:DU,zs=ns.map V.int/\ns.length=i/\∀ x∈ns,1<=x/\x<=9)
  ⟨⟨O⟩,au hD _,aa,[],U,U,by simp⟩ (fun i zs σ' H3 _ h=>h.2.2.1) ?_ ?_⟩
 ·rintro i zs σ' H3 hi ⟨⟨u,rfl⟩,s3,eD,ns,e3,ln,hb⟩;obtain⟨dk,hk⟩:=kk i (by lia);have ak:atI (ds.map V.int) (1+(0+(i:Int)))=some (.int dk):=by
   rw[show (1:Int)+(0+(i:Int))=((1+i:Nat):Int) by lia];exact dw (gW hk)
  have v1:0<=dk % (mo:Int):=WN _ (by lia);have v2:dk % (mo:Int) < (mo:Int):=Wu _ (by lia);refine gT ?_;refine⟨R,M,p2,Y,sqL (s3 _ _ e2),ak,O,M,(by show (0:Int) < (mo:Int);lia),_,_,U,U,eD,?_,⟨O⟩,aK s3 hD _,aa,ns++[1+dk % (mo:Int)],?_,?_,?_⟩;{rw[e3,VH];exact aH (by lia)};{rw[e3,VV];rfl};{rw[V6,ln];rfl}
  ·intro x hx;rcases List.mem_append.mp hx with h | h;{exact hb x h};{rw[List.mem_singleton.mp h];lia}
 ·rintro zs σ' H3 ⟨_,s3,eD,ns,e3,ln,hb⟩;have ln3:1<=ns.length/\ns.length<=3:=by lia
  have dl:(ddI ns).length<=ns.length:=by
   have:=GF ns [];rw[CK];simpa using this
  refine⟨D,ns,U,sqL (by rw[eD,e3]),by lia,by lia,fun ms pm so l hl=>?_⟩;have okm:okS ms:=SM pm so (fun z=>by rw[z] at ln3;simp at ln3) (by lia) hb;generalize eH4:upd H3 l _=H4;obtain⟨g4,e4⟩:=aC eH4 hl;have s4:aG H2 H4:=s3.trans g4;refine gN ?_;dsimp only;show JG (JK _ _ _) _ _ _ _;refine n8 (fun σ H5=>∃ (l:Addr) (ms:DU),σ=[oI c,some (.int (n:Int)),some (.int (one:Int)),oI deep,some (.int (mo:Int)),oR p2,oR l,none,none,none,none]/\aG H2 H5/\H5 l=some (.lst (ms.map V.int))/\okS ms) ?rest (fun _ R=>?_)
  case rest =>
   clear e4 hl so pm okm eH4 g4 s4 H4 l ms;rintro σ H5 ⟨l,ms,rfl,s5,e5,okm⟩;have l9:=okm.2.1;have e2':=s5 _ _ e2;have sH5:aG H H5:=gH.trans s5;show JG (JK _ _ _) _ _ _ _;refine n8 (fun σ H6=>σ=[oI c,some (.int (n:Int)),some (.int (one:Int)),oI deep,some (.int (mo:Int)),oR p2,oR l,none,none,none,none]/\H5=H6) ?rest2 (fun _ R=>?_)
   case rest2 =>
    rintro σ H6 ⟨rfl,rfl⟩;show JG (JK _ _ _) _ _ _ _;refine n8 (fun σ H6=>σ=[oI c,some (.int (n:Int)),some (.int (one:Int)),oI deep,some (.int (mo:Int)),oR p2,oR l,none,none,none,none]/\H5=H6) ?rest3 (fun _ R=>?_)
    case rest3 =>
     rintro σ H6 ⟨rfl,rfl⟩;refine⟨small (Wz _),fun r hr0=>?_⟩;generalize eH6:upd H5 r _=H6;obtain⟨g6,e6⟩:=aC eH6 hr0
     refine⟨O,l,O,g6 _ _ e5,KR (K:=K) (a:=l) (xs:=ms.map V.int) (fun i σ H7=>(∃ u v,σ=[oI c,some (.int (n:Int)),some (.int (one:Int)),oI deep,some (.int (mo:Int)),oR p2,oR l,none,oR r,u,v])/\aG H5 H7 ∧
      ∃ (vs:Fk) (p:Pl),H7 r=some (.lst vs)/\dF n H7 vs p/\p.map (·.1)=ms.take i/\∀ x∈p,x.2.dep<=4) ⟨⟨N⟩,g6,[],[],e6,.nil,U,by simp⟩ (fun i σ H7 _ h=>sqL (h.2.1 _ _ e5)) ?_ ?_⟩
     ·rintro i x pp σ H7 hx hpp ⟨⟨u,v,rfl⟩,s7,vs,p,er,rp,ep,hd⟩;obtain⟨st,hst,rfl⟩:=int_at hx;have hi:i < ms.length:=(geS hst).1;generalize eH8:upd H7 pp _=H8;obtain⟨g8,e8⟩:=aC eH8 hpp;refine⟨pp,O,sqT e8,U,N,M,O,.inl ⟨U,_,sqL (g8 _ _ er)⟩,R,O,c,i,U,by lia,_,U,_,U,_,U,_,U,Oc c i,n,one,deep,mo,U,n1,n12,hone,de1,de3,m1,m9,fun v' t H9 s9 rt td=>?_⟩;refine⟨smN 2,fun pa ha=>?_⟩;generalize eHa:upd H9 pa _=Ha;obtain⟨ga,ea⟩:=aC eHa ha;have s8a:aG H7 Ha:=g8.trans (s9.trans ga);have lv:=rp.length;have lp:p.length<=ms.length:=by
       have:=congrArg abP ep;rw[VH,Wa] at this;lia
      have tk:=bR (zs':=vs++[.ref pa]) (s8a _ _ er);refine⟨r,M,s8a _ _ er,aH (by lia),⟨N⟩,aK (s7.trans s8a) hr0 _,vs++[.ref pa],p++[(st,t)],aa,?_,?_,?_⟩;{exact dF.snoc (tk _ _ ea) ((rt.mono ga).aO tk) ((rp.aO fun a xs q=>s8a a _ q).aO tk)};{rw[VV,ep,Wj,hst];rfl}
      ·intro x hx;rcases List.mem_append.mp hx with h | h;{exact hd x h};{rw[List.mem_singleton.mp h];show t.dep<=4;lia}
     ·rintro σ H7 ⟨⟨u,v,rfl⟩,s7,vs,p,er,rp,ep,hd⟩;rw[VH,V1] at ep;refine⟨O,r,O,.inl ⟨sqL er,fun pa ha=>?_⟩⟩;have sn:=au ha (.tup vs);exact q pa p _ (sH5.trans (s7.trans sn)) ⟨Hu okm ep hd,vs,aa,rp.aO fun a xs q=>sn a _ q⟩
    ·refine vG (decide (V.int d0=V.int 5)) (decide (1 < (n:Int))) (fun H6=>H5=H6) (fun Q' hQ=>?_) (fun H6 e Q' hQ=>?_) (fun H6 e c1 c2=>?_) (fun H6 e _=>R _ _ ⟨U,e⟩);{exact⟨O,p2,Y,sqL e2',a0,U,O,hQ _ U⟩};{subst e;exact⟨O,M,O,hQ⟩}
     ·subst e;have c2:1 < (n:Int):=of_decide_eq_true c2;have w1:0<=((one:Int)+1+d4 % ((n:Int) - 1)) % (n:Int):=WN _ (by lia);have w2:((one:Int)+1+d4 % ((n:Int) - 1)) % (n:Int) < (n:Int):=Wu _ (by lia);obtain⟨j,hj⟩:=Xu w1;refine⟨O,M,O,p2,Y,sqL e2',a4,O,M,M,(by show (0:Int) < (n:Int) - 1;lia),_,_,U,U,_,U,_,_,U,U,(by show (0:Int) < (n:Int);lia),?_⟩;refine gN ?_;have es:(fun i j:Int=>V.int (i % j)) ((one:Int)+1+d4 % ((n:Int) - 1)) (n:Int)=V.int (j:Int):=by
       show V.int (((one:Int)+1+d4 % ((n:Int) - 1)) % (n:Int))=_;rw[hj]
      refine⟨O,l,U,⟨_,sqL e5⟩,fun D hD=>fY (K:=K) (a:=l) (xs:=ms.map V.int) (fun i zs σ' H7=>(∃ u,σ'=[u,some (.int (j:Int))])/\aG H5 H7/\H7 D=some (.lst zs) ∧
       dF n H7 zs ((ms.take i).map fun st=>(st,Tm.gives j (if st - 1 > 1 then st - 1 else 1)))) ⟨⟨none,?_⟩,au hD _,aa,.nil⟩ (fun i zs σ' H7 _ h=>⟨sqL (h.2.1 _ _ e5),h.2.2.1⟩) ?_ ?_⟩
      ·rw[← es];rfl
      ·rintro i zs x σ' H7 hx ⟨⟨u,rfl⟩,s7,er,rp⟩;obtain⟨st,hst,rfl⟩:=int_at hx;have hb:=okm.2.2.2 st (Wk hst);have lv:=rp.length;rw[VH,Wa] at lv;refine gT ?_;refine⟨R,O,M,N,smN 3,fun pa ha=>?_⟩;generalize eHa:upd H7 pa _=Ha;obtain⟨ga,ea⟩:=aC eHa ha;refine⟨smN 2,fun pb hb'=>?_⟩;generalize eHb:upd Ha pb _=Hb;obtain⟨gb,eb⟩:=aC eHb hb';have s7b:aG H7 Hb:=ga.trans gb;have tk:=bR (zs':=zs++[.ref pb]) (s7b _ _ er);refine⟨s7b _ _ er,aH (by lia),⟨O⟩,aK (s7.trans s7b) hD _,aa,?_⟩;rw[take_snoc (fun st=>(st,Tm.gives j (if st - 1 > 1 then st - 1 else 1))) hst]
       exact dF.snoc (tk _ _ eb) (.gives (tk _ _ (gb _ _ ea)) (by lia) (by split <;> lia) (by split <;> lia)) ((rp.aO fun a xs q=>s7b a _ q).aO tk)
      ·rintro zs σ' H7 ⟨_,s7,er,rp⟩;rw[VH,V1] at rp;refine⟨D,O,.inl ⟨sqL er,fun pa ha=>?_⟩⟩;have sn:=au ha (.tup zs);refine q pa _ _ (sH5.trans (s7.trans sn)) ⟨Hu okm ?_ ?_,zs,aa,rp.aO fun a xs q=>sn a _ q⟩;{rw[aaT];exact List.map_id' ms};{intro x hx;obtain⟨st,_,rfl⟩:=List.mem_map.mp hx;show (1:Nat)<=4;decide}
   ·refine vG (decide (V.int d0=V.int 6)) (decide (1 < (n:Int))) (fun H6=>H5=H6) (fun Q' hQ=>?_) (fun H6 e Q' hQ=>?_) (fun H6 e c1 c2=>?_) (fun H6 e _=>R _ _ ⟨U,e⟩);{exact⟨O,p2,Y,sqL e2',a0,U,O,hQ _ U⟩};{subst e;exact⟨O,M,O,hQ⟩}
    ·subst e;have w1:0<=((one:Int)+1) % (n:Int):=WN _ (by lia);have w2:((one:Int)+1) % (n:Int) < (n:Int):=Wu _ (by lia);obtain⟨j,hj⟩:=Xu w1
     refine⟨O,l,U,⟨_,sqL e5⟩,fun D hD=>fY (K:=K) (a:=l) (xs:=ms.map V.int) (fun i zs σ' H7=>(∃ u,σ'=[u,some (.int (n:Int)),some (.int (one:Int))])/\aG H5 H7/\H7 D=some (.lst zs) ∧
      dF n H7 zs ((ms.take i).map fun st=>(st,Tm.gives j st))) ⟨⟨O⟩,au hD _,aa,.nil⟩ (fun i zs σ' H7 _ h=>⟨sqL (h.2.1 _ _ e5),h.2.2.1⟩) ?_ ?_⟩
     ·rintro i zs x σ' H7 hx ⟨⟨u,rfl⟩,s7,er,rp⟩;obtain⟨st,hst,rfl⟩:=int_at hx;have hb:=okm.2.2.2 st (Wk hst);have lv:=rp.length;rw[VH,Wa] at lv;refine gT ?_;refine⟨R,M,O,M,(by show (0:Int) < (n:Int);lia),_,U,smN 3,fun pa ha=>?_⟩;generalize eHa:upd H7 pa _=Ha;obtain⟨ga,ea⟩:=aC eHa ha;have ea:Ha pa=some (.tup [.str "gives",vN j,.int st]):=by
       rw[ea];show some (HO.tup [V.str "gives",V.int (((one:Int)+1) % (n:Int)),V.int st])=some (HO.tup [V.str "gives",V.int (j:Int),V.int st]);rw[hj]
      refine⟨smN 2,fun pb hb'=>?_⟩;generalize eHb:upd Ha pb _=Hb;obtain⟨gb,eb⟩:=aC eHb hb';have s7b:aG H7 Hb:=ga.trans gb;have tk:=bR (zs':=zs++[.ref pb]) (s7b _ _ er);refine⟨s7b _ _ er,aH (by lia),⟨O⟩,aK (s7.trans s7b) hD _,aa,?_⟩;rw[take_snoc (fun st=>(st,Tm.gives j st)) hst];exact dF.snoc (tk _ _ eb) (.gives (tk _ _ (gb _ _ ea)) (by lia) (by lia) (by lia)) ((rp.aO fun a xs q=>s7b a _ q).aO tk)
     ·rintro zs σ' H7 ⟨_,s7,er,rp⟩;rw[VH,V1] at rp;refine⟨D,O,.inl ⟨sqL er,fun pa ha=>?_⟩⟩;have sn:=au ha (.tup zs);refine q pa _ _ (sH5.trans (s7.trans sn)) ⟨Hu okm ?_ ?_,zs,aa,rp.aO fun a xs q=>sn a _ q⟩;{rw[aaT];exact List.map_id' ms};{intro x hx;obtain⟨st,_,rfl⟩:=List.mem_map.mp hx;show (1:Nat)<=4;decide}
  ·refine⟨O,p2,Y,sqL (s4 _ _ e2),a0,U,O,?_⟩;refine kI (fun _=>?_) (fun _=>R _ _ ⟨l,ms,U,s4,e4,okm⟩);refine⟨O,p2,Y,sqL (s4 _ _ e2),a5,O,d5,mo,U,by lia,fun cs r3 H5 hc hp hl5 s5 f5 e5=>?_⟩
   refine⟨r3,U,⟨_,sqT e5⟩,fun D5 hD5=>cj (K:=K) (a:=r3) (xs:=cs.map vN) (fun i zs σ' H6=>(∃ u,σ'=[u])/\zs=((cs.take i).map fun j:Nat=>(1:Int)+(j:Int)).map V.int/\aG H5 H6/\H6 D5=some (.lst zs))
    ⟨⟨O⟩,U,au hD5 _,aa⟩ (fun i zs σ' H6 _ h=>⟨sqT (h.2.2.1 _ _ e5),h.2.2.2⟩) ?_ ?_⟩
   ·rintro i zs x σ' H6 hx ⟨⟨u,rfl⟩,e6,s6,eD6⟩;obtain⟨j,hj,rfl⟩:=uV hx;refine gT ?_;refine⟨O,M,eD6,?_,⟨O⟩,?_,aK s6 hD5 _,aa⟩;{rw[e6,VH,VH,Wa];exact aH (by lia)};{rw[e6,take_snoc (fun j:Nat=>(1:Int)+(j:Int)) hj,VV];rfl}
   ·rintro zs σ' H6 ⟨_,e6,s6,eD6⟩;rw[VH,V1] at e6;rw[e6] at eD6;have s46:aG H2 H6:=s4.trans (s5.trans s6);refine⟨O,smN 0,fun p7 h7=>?_⟩;have g7:aG H6 (upd H6 p7 (.lst [])):=au h7 _;refine⟨D5,p7,O,U,sqL (g7 _ _ eD6),sqL aa,O,?_⟩;refine kI (fun ce=>?_) (fun ce=>?_);{refine⟨O,smN 1,fun p8 h8=>?_⟩;refine R _ _ ⟨p8,[(mo:Int)],U,s46.trans (g7.trans (au h8 _)),aa,by simp,by show 1<=9;decide,by simp,?_⟩;intro x hx;rw[List.mem_singleton.mp hx];lia}
    ·refine R _ _ ⟨D5,cs.map fun j:Nat=>(1:Int)+(j:Int),U,s46.trans g7,g7 _ _ eD6,?_,?_,?_,?_⟩;{intro z;apply ce;rw[z];rfl};{rw[VH];lia};{rw[ZL];exact hp.imp fun h=>by lia};{intro x hx;obtain⟨j,hj,rfl⟩:=List.mem_map.mp hx;have:=hc j hj;lia}
mutual
def nn (one:Nat):Tm->Bool
 | .free=>true
 | .never=>true
 | .gives i _=>decide (i≠one)
 | .sum c _=>decide (one ∉ c)
 | .crowd c _ _=>decide (one ∉ c)
 | .all ts=>nnL one ts
 | .any ts=>nnL one ts
def nnL (one:Nat):List Tm->Bool
 | []=>true
 | t::r=>nn one t && nnL one r
end
section
variable {one:Nat}{g g':DU}(ag:∀ j,j≠one->g.getD j 0=g'.getD j 0)
include ag
def Rr {c:DV}(h:one ∉ c):(c.map fun i=>g.getD i 0)=c.map fun i=>g'.getD i 0:=aaS fun i hi=>ag i fun z=>h (z▸hi)
mutual
theorem O6:∀ t:Tm,nn one t=true->hF g t=hF g' t
 | .free,_=>by simp only[hF]
 | .never,_=>by simp only[hF]
 | .gives i k,h=>by
  have:=of_decide_eq_true (show decide (i≠one)=true by simpa [nn] using h);simp only[hF];rw[ag i this]
 | .sum c k,h=>by
  have hc:one ∉ c:=by simpa [nn] using h
  simp only[hF];rw[Rr ag hc]
 | .crowd c k m,h=>by
  have hc:one ∉ c:=by simpa [nn] using h
  simp only[hF];have:∀ i∈c,g.getD i 0=g'.getD i 0:=fun i hi=>ag i fun z=>hc (z▸hi);rw[show (c.filter fun i=>decide (g.getD i 0 ≥ k))=c.filter fun i=>decide (g'.getD i 0 ≥ k) from List.filter_congr fun i hi=>by rw[this i hi]]
 | .all ts,h=>by
  simp only[hF];exact Io ts (by simpa [nn] using h)
 | .any ts,h=>by
  simp only[hF];exact Hz ts (by simpa [nn] using h)
theorem Io:∀ ts:List Tm,nnL one ts=true->pL g ts=pL g' ts
 | [],_=>by simp only[pL]
 | t::r,h=>by
  have h':nn one t=true/\nnL one r=true:=by simpa [nnL] using h
  simp only[pL];rw[O6 t h'.1,Io r h'.2]
theorem Hz:∀ ts:List Tm,nnL one ts=true->pJ g ts=pJ g' ts
 | [],_=>by simp only[pJ]
 | t::r,h=>by
  have h':nn one t=true/\nnL one r=true:=by simpa [nnL] using h
  simp only[pJ];rw[O6 t h'.1,Hz r h'.2]
end
end
theorem Jd {one:Nat}{g g':DU}(ag:∀ j,j≠one->g.getD j 0=g'.getD j 0):∀ (p:Pl) (f:Int),(∀ x∈p,nn one x.2=true)->p.foldl (owS g) f=p.foldl (owS g') f
 | [],_,_=>rfl
 | x::p,f,h=>by
  show p.foldl (owS g) (owS g f x)=p.foldl (owS g') (owS g' f x);have e:owS g f x=owS g' f x:=by
   unfold owS;rw[O6 ag x.2 (h x V0)]
  rw[e];exact Jd ag p _ fun y hy=>h y (V7 _ hy)
def bO {t u:TS}{D:Ends}{σ:St}{H:Hp}(P:St->Hp->Prop)(h1:∀ N:St->Hp->Prop,(∀ σ H,P σ H->N σ H)->t { D with nx:=N } σ H)(h2:∀ σ H,P σ H->u D σ H):JG t u D σ H:=h1 (u D) h2
def Ku (z:Int)(n:Nat):(WK n [V.int z]).flatten=(WK n z).map V.int:=by
 induction n with
 | zero=>rfl
 | succ n ih=>rw[YJ,aav,ih,YJ];rfl
abbrev lJ:Stmt:=top 2
def Rz (H:Hp)(x C dx:Addr)(w:Wt):Hp:=upd (upd (upd H x (xO x C none)) dx (.xd [("word",.str w)])) x (xO x C (some dx))
def Rx {H:Hp}{x C dx:Addr}{w:Wt}:Rz H x C dx w x=some (xO x C (some dx)):=aa
def Rh {H:Hp} {x C dx:Addr} {w:Wt} (h:dx≠x):Rz H x C dx w dx=some (.xd [("word",.str w)]):=(aL h).trans aa
def Lx:aB YY YY (aA (inClass lJ 0)):=bZ
inductive jD (K:Ww)(vs:Fk)(H:Hp)(Q:VK)(e3:XK):Prop where
 | mk (x C f:Addr) (w:Wt) (_:vs=[.ref x,.str w]) (_:H x=some (xO x C none)) (_:J0 K C f "word") (_:∀ dx,dx≠x->H dx=none->Q .non (Rz H x C dx w))
def Le (F:Fun K "__init__" "BoonError.__init__" (inClass lJ 0) f fd) (hv:mg "ValueError" = none):bh P w K mg base CX0 1 f fd YY (jD K):=by
 refine okA F Lx fun H Q E hr h=>?_;obtain⟨x,C,f,w,rfl,hx,XC,q⟩:=h;refine⟨_,aj (aW (Kc U hv (v2 0 1))) (aF (Qw (pv 0) (pv 1) U)),R,x,C,f,"word",none,O,hx,XC,R,x,C,f,U,aa,XC,fun dx hd=>?_⟩;have n:dx≠x:=fun z=>by rw[z,aa] at hd;cases hd
 rw[aL n] at hd;exact q dx n hd
inductive jt (K:Ww)(w:Wt)(vs:Fk)(H:Hp)(Q:VK)(e3:XK):Prop where
 | mk (x C f:Addr) (_:vs=[.ref x]) (_:H x=some (xO x C none)) (_:J0 K C f "word") (_:∀ dx,dx≠x->H dx=none->Q .non (Rz H x C dx w))
structure Xc (P:Wi)(w:Wy)(K:Ww)(mg:Wt->DE)(base:WT)(c:Wt)(C:Addr)(wd:Wt):Prop where
 ex:∃ (f:Addr) (fd:Xp),bh P w K mg base CX0 2 f fd ZO (jt K wd)/\mg c=some (.ref C)/\J0 K C f "word"/\Binds K fd ZO []
def thrown (C:Addr)(w:Wt)(H:Hp)(E:XK):Prop:=∀ dx H1,aG H H1->H1 dx=some (.xd [("word",.str w)])->E (.ref C) (some dx) H1
section
variable {X:Cx}{c wd:Wt}{C:Addr}{p pos pos':ZX}{E:XK}{j:Nat}
def RJ (C:Addr)(w:Wt)(E:XK):TS:=fun _ _ H=>thrown C w H E
def eN (D:Xc X.prog X.w X.K X.mg X.base c C wd)(hr:iD j X.A)(hc:X.calm=true)(hw:Throws X fun x C dx H=>E (.ref C) (some dx) (off H x))(hk:3<=j:=by decide)(hg:Gl X c:=by rfl)(hdb:(c == ("__debug__" : Wt))=false:=by decide) :
  PS X (.Raise (some (.Call (.Name c p) [] [] pos)) none pos') (RJ C wd E):=by
 obtain⟨f,fd,F,hm,XC,hb⟩:=D.ex;intro ZY s σ H De I h;refine KQ (W:=fun x C dx H=>E (.ref C) (some dx) (off H x)) hc (Lk XC F (hr.mono hk) hg hm hb nF hdb) hw ZY s σ H De I fun x hx=>?_;refine⟨x,C,f,U,aa,XC,fun dx n hd=>⟨U,x,C,f,dx,"word",U,Rx,XC,?_⟩⟩;rw[aL n] at hd;refine h dx _ (fun b u e=>?_) ?_
 ·have e1:upd H x (xO x C none) b=some u:=by rw[aL (cT e hx)];exact e
  have n1:b≠x:=cT e hx;have n2:b≠dx:=cT e hd;rw[off_ne n1];unfold Rz;rw[aL n1,aL n2,aL n1];exact e1
 ·rw[off_ne n];exact Rh n
end
section
variable {fB CB:Addr} {mc:Value} {fdB:Xp} (hB:mg "BoonError" = some (.ref CB)) (O:ug K CB mc "__init__" fB) (FB:bh P w K mg base CX0 1 fB fdB YY (jD K)) (bB:Binds K fdB YY [])
abbrev lD:Stmt:=top 3
def Jp:aB ZO ZO (aA (inClass lD 0)):=bZ
def Fp (F:Fun K "__init__" "BadPledge.__init__" (inClass lD 0) f fd):bh P w K mg base CX0 2 f fd ZO (jt K "bad pledge"):=by
 refine okA F Jp fun H Q E hr h=>?_;obtain⟨x,C,f,rfl,hx,XC,q⟩:=h;exact⟨_,aF (aW (dJ U hB O FB hr bB .nil nF (aq (pv 0) (a1 aJ)))),O,x,C,f,O,hx,XC,fun dx n hd=>q dx n hd⟩
abbrev wF:Stmt:=top 4
def Gs:aB ZO ZO (aA (inClass wF 0)):=bZ
def Jl (F:Fun K "__init__" "NoFolk.__init__" (inClass wF 0) f fd):bh P w K mg base CX0 2 f fd ZO (jt K "no folk"):=by
 refine okA F Gs fun H Q E hr h=>?_;obtain⟨x,C,f,rfl,hx,XC,q⟩:=h;exact⟨_,aF (aW (dJ U hB O FB hr bB .nil nF (aq (pv 0) (a1 aJ)))),O,x,C,f,O,hx,XC,fun dx n hd=>q dx n hd⟩
abbrev G6:Stmt:=top 5
def Gx:aB ZO ZO (aA (inClass G6 0)):=bZ
def GP (F:Fun K "__init__" "Gone.__init__" (inClass G6 0) f fd):bh P w K mg base CX0 2 f fd ZO (jt K "gone"):=by
 refine okA F Gx fun H Q E hr h=>?_;obtain⟨x,C,f,rfl,hx,XC,q⟩:=h;exact⟨_,aF (aW (dJ U hB O FB hr bB .nil nF (aq (pv 0) (a1 aJ)))),O,x,C,f,O,hx,XC,fun dx n hd=>q dx n hd⟩
abbrev oG:Stmt:=top 6
def Ik:aB ZO ZO (aA (inClass oG 0)):=bZ
def Fw (F:Fun K "__init__" "NoPledge.__init__" (inClass oG 0) f fd):bh P w K mg base CX0 2 f fd ZO (jt K "no pledge"):=by
 refine okA F Ik fun H Q E hr h=>?_;obtain⟨x,C,f,rfl,hx,XC,q⟩:=h;exact⟨_,aF (aW (dJ U hB O FB hr bB .nil nF (aq (pv 0) (a1 aJ)))),O,x,C,f,O,hx,XC,fun dx n hd=>q dx n hd⟩
abbrev Ad:Stmt:=top 7
def Gb:aB ZO ZO (aA (inClass Ad 0)):=bZ
def Hs (F:Fun K "__init__" "Bound.__init__" (inClass Ad 0) f fd):bh P w K mg base CX0 2 f fd ZO (jt K "bound"):=by
 refine okA F Gb fun H Q E hr h=>?_;obtain⟨x,C,f,rfl,hx,XC,q⟩:=h;exact⟨_,aF (aW (dJ U hB O FB hr bB .nil nF (aq (pv 0) (a1 aJ)))),O,x,C,f,O,hx,XC,fun dx n hd=>q dx n hd⟩
abbrev FQ:Stmt:=top 10
def Hk:aB ZO ZO (aA (inClass FQ 0)):=bZ
def Jm (F:Fun K "__init__" "Full.__init__" (inClass FQ 0) f fd):bh P w K mg base CX0 2 f fd ZO (jt K "full"):=by
 refine okA F Hk fun H Q E hr h=>?_;obtain⟨x,C,f,rfl,hx,XC,q⟩:=h;exact⟨_,aF (aW (dJ U hB O FB hr bB .nil nF (aq (pv 0) (a1 aJ)))),O,x,C,f,O,hx,XC,fun dx n hd=>q dx n hd⟩
abbrev qQ:Stmt:=top 9
def Fv:aB ZO ZO (aA (inClass qQ 0)):=bZ
def Gn (F:Fun K "__init__" "BadRise.__init__" (inClass qQ 0) f fd):bh P w K mg base CX0 2 f fd ZO (jt K "bad rise"):=by
 refine okA F Fv fun H Q E hr h=>?_;obtain⟨x,C,f,rfl,hx,XC,q⟩:=h;exact⟨_,aF (aW (dJ U hB O FB hr bB .nil nF (aq (pv 0) (a1 aJ)))),O,x,C,f,O,hx,XC,fun dx n hd=>q dx n hd⟩
abbrev wC:Stmt:=top 8
def GD:aB ZO ZO (aA (inClass wC 0)):=bZ
def Hl (F:Fun K "__init__" "NotDue.__init__" (inClass wC 0) f fd):bh P w K mg base CX0 2 f fd ZO (jt K "not due"):=by
 refine okA F GD fun H Q E hr h=>?_;obtain⟨x,C,f,rfl,hx,XC,q⟩:=h;exact⟨_,aF (aW (dJ U hB O FB hr bB .nil nF (aq (pv 0) (a1 aJ)))),O,x,C,f,O,hx,XC,fun dx n hd=>q dx n hd⟩
end
mutual
def mnF:Tm->DV
 | .free=>[]
 | .never=>[]
 | .gives i _=>[i]
 | .sum c _=>c
 | .crowd c _ _=>c
 | .all ts=>mnL ts
 | .any ts=>mnL ts
def mnL:List Tm->DV
 | []=>[]
 | t::r=>mnF t++mnL r
end
theorem oY:∀ (ts us:List Tm),mnL (ts++us)=mnL ts++mnL us
 | [],us=>by rw[mnL];rfl
 | t::r,us=>by rw[acQ,mnL,mnL,oY r us,ZM]
def kh {ts:List Tm}{i:Nat}{t:Tm}(h:ts[i]? = some t):mnL (ts.take (i+1))=mnL (ts.take i)++mnF t:=by
 rw[Wj,h,oY];show _++mnL [t]=_;rw[mnL,mnL,Xy]
def Bw:∀ {c:DV} {n:Nat},c.Pairwise (· < ·)->(∀ i∈c,i < n)->c.length<=n:=by
 have key:∀ (c:DV) (a n:Nat),c.Pairwise (· < ·)->(∀ i∈c,a<=i/\i < n)->c.length<=n - a:=by
  intro c
  induction c with
  | nil=>intro a n _ _;exact Wz _
  | cons x r ih =>
   intro a n hp hb;rw[Yl] at hp;have hx:=hb x V0;have:=ih (x+1) n hp.2 fun i hi=>⟨hp.1 i hi,(hb i (V7 _ hi)).2⟩;rw[Wc];lia
 intro c n hp hb;have:=key c 0 n hp fun i hi=>⟨Wz _,hb i hi⟩;lia
mutual
theorem Nx {n:Nat}{H:Hp}(hn:n<=12):∀ (d:Nat) {v:V} {t:Tm},jx n H v t->t.dep<=d+1->(mnF t).length<=12 * 6 ^ d
 | d,_,_,.free _,_=>by rw[mnF];exact Wz _
 | d,_,_,.never _,_=>by rw[mnF];exact Wz _
 | d,_,_,.gives _ _ _ _,_=>by
  rw[mnF];have:0 < 6 ^ d:=Nat.pow_pos (by decide);show 1<=_;lia
 | d,_,_,.sum _ _ hc hp _ _ _ _,_=>by
  rw[mnF];have:=Bw hp hc;have:0 < 6 ^ d:=Nat.pow_pos (by decide);lia
 | d,_,_,.crowd _ _ hc hp _ _ _ _ _ _,_=>by
  rw[mnF];have:=Bw hp hc;have:0 < 6 ^ d:=Nat.pow_pos (by decide);lia
 | 0,_,_,.all (vs:=vs) (ts:=ts) _ _ l2 _ rl,hd=>by
  have:=vd rl l2;rw[Tm.dep] at hd;lia
 | d+1,_,_,.all (ts:=ts) _ _ _ l6 rl,hd=>by
  rw[mnF];rw[Tm.dep] at hd;have h1:=zP hn d rl (by lia);have h2:=rl.length;have h3:ts.length * (12 * 6 ^ d)<=6 * (12 * 6 ^ d):=Nat.mul_le_mul_right _ (by lia);rw[Nat.pow_succ];lia
 | 0,_,_,.any (vs:=vs) (ts:=ts) _ _ l2 _ rl,hd=>by
  have:=vd rl l2;rw[Tm.dep] at hd;lia
 | d+1,_,_,.any (ts:=ts) _ _ _ l6 rl,hd=>by
  rw[mnF];rw[Tm.dep] at hd;have h1:=zP hn d rl (by lia);have h2:=rl.length;have h3:ts.length * (12 * 6 ^ d)<=6 * (12 * 6 ^ d):=Nat.mul_le_mul_right _ (by lia);rw[Nat.pow_succ];lia
theorem zP {n:Nat}{H:Hp}(hn:n<=12):∀ (d:Nat) {vs:Fk} {ts:List Tm},cJ n H vs ts->tdL ts<=d+1->(mnL ts).length<=ts.length * (12 * 6 ^ d)
 | d,_,_,.nil,_=>by rw[mnL];exact Wz _
 | d,_,_,.cons (ts:=ts) h r,hd=>by
  rw[tdL] at hd;have h1:=Nx hn d h (by lia);have h2:=zP hn d r (by lia);rw[mnL,V6,Wc,Nat.add_mul,Nat.one_mul];lia
theorem vd {n:Nat}{H:Hp}:∀ {vs:Fk} {ts:List Tm},cJ n H vs ts->2<=vs.length->1<=tdL ts
 | _,_,.nil,h=>by simp at h
 | _,_,.cons (t:=t) _ _,_=>by
  rw[tdL];have:=t.oA;lia
end
mutual
theorem JQ {n:Nat}{H:Hp}:∀ {v:V} {t:Tm},jx n H v t->∀ i∈mnF t,i < n
 | _,_,.free _=>fun i hi=>by rw[mnF] at hi;cases hi
 | _,_,.never _=>fun i hi=>by rw[mnF] at hi;cases hi
 | _,_,.gives _ h _ _=>fun i hi=>by rw[mnF] at hi;rw[List.mem_singleton.mp hi];exact h
 | _,_,.sum _ _ hc _ _ _ _ _=>fun i hi=>by rw[mnF] at hi;exact hc i hi
 | _,_,.crowd _ _ hc _ _ _ _ _ _ _=>fun i hi=>by rw[mnF] at hi;exact hc i hi
 | _,_,.all _ _ _ _ rl=>fun i hi=>by rw[mnF] at hi;exact Ht rl i hi
 | _,_,.any _ _ _ _ rl=>fun i hi=>by rw[mnF] at hi;exact Ht rl i hi
theorem Ht {n:Nat}{H:Hp}:∀ {vs:Fk} {ts:List Tm},cJ n H vs ts->∀ i∈mnL ts,i < n
 | _,_,.nil=>fun i hi=>by rw[mnL] at hi;cases hi
 | _,_,.cons h r=>fun i hi=>by
  rw[mnL] at hi;rcases List.mem_append.mp hi with z | z;{exact JQ h i z};{exact Ht r i z}
end
def Vv {d:Nat}(h:d<=4):12 * 6 ^ (d - 1)<=2592:=by
 have:6 ^ (d - 1)<=6 ^ 3:=Nat.pow_le_pow_right (by decide) (by lia);have:(6:Nat) ^ 3=216:=by decide
 lia
def qu {n d:Nat}{H:Hp}{v:V}{t:Tm}(hn:n<=12)(h4:d<=4)(r:jx n H v t)(hd:t.dep<=d):(mnF t).length<=2592:=by
 have:=t.oA;exact Wn (Nx hn (d - 1) r (by lia)) (Vv h4)
def FZ {ts:List Tm}(i:Nat):(mnL (ts.take i)).length<=(mnL ts).length:=by
 have:=congrArg abP (oY (ts.take i) (ts.drop i));rw[List.take_append_drop,V6] at this;lia
inductive jU (d:Nat)(vs:Fk)(H:Hp)(Q:VK)(e3:XK):Prop where
 | mk (v:V) (n:Nat) (t:Tm) (_:vs=[v]) (_:jx n H v t) (_:t.dep<=d) (_:d<=4) (_:n<=12) (_:∀ (r:Addr) (H':Hp),aG H H'->H r=none->H' r=some (.lst ((mnF t).map vN))->Q (.ref r) H')
def xF {ps:D0}:bh P w K mg base CX0 0 f fd ps (jU 0):=by
 have no:∀ vs H Q E,¬ jU 0 vs H Q E:=fun vs H Q E h=>by
  obtain⟨v,n,t,_,_,h1,_⟩:=h;have:=t.oA;lia
 exact⟨fun vs H Q E h=>absurd h (no vs H Q E),fun A outer s H args us vs Q E _ _ _ _ h=>absurd h (no vs H Q E)⟩
abbrev oM:Stmt:=top 28
def rH:aB ["term","kind"] ZT (aA oM):=bZ
def iW {d:Nat} (F:Fun K "mentions" "mentions" oM f fd) (B:Bt mg)
  (Sm:Df P w K mg base "mentions" d ZT (jU d)):bh P w K mg base CX0 (d+1) f fd ZT (jU (d+1)):=by
 refine okA F rH fun H Q E hr h=>?_;obtain⟨v,n,t,rfl,rt,hd,h4,hn,q⟩:=h
 refine⟨_,(aj (sT 1 rH.nd (pxT K (pv 0) ao))
 (aj (ifR (aD bc (pv 1) aJ) (aV (a1 (pxT K (pv 0) ao))))
 (aj (ifR (PW.pt (iB (aD bc (pv 1) aJ) (eV (aD bc (pv 1) aJ)))) (aR (r:=jZ K) d9 U B.list_ mj (a1 (pxT K (pv 0) ao))))
 (aj (ifR (PW.pt (iB (aD bc (pv 1) aJ) (eV (aD bc (pv 1) aJ)))) (Mh (L:=["part","one"]) (F:=[]) (cap:=[]) U (aY U U (by kernel_rfl)) (cH (pxT K (pv 0) ao)) (fun _ _ _ _ _=>(pgC 0)) (fun _ _ _ _ _=>(vh K U (aM Sm hr (v1 0)))) (fun _ _ _ _ _=>(pgC 1)) (fun _ _ _ _ _=>(pv 1))))
 (sR (aV cL)))))),?_⟩
 have small':=qu hn h4 rt hd;have parts:∀ {b:Addr} {us:Fk} {ts:List Tm},H b=some (.tup us)->cJ n H us ts->tdL ts<=d->(mnL ts).length<=2592->∀ {σ':St} {D:Addr},H D=none->(∀ H2,aG H H2->H2 D=some (.lst ((mnL ts).map vN))->Q (.ref D) H2) →
   qw D [none,none] (Itt K b) (rK 0) (O7 K (Ja (jU d) [] E0 (ue (yU 0) Di))) (rK 1) (yU 1) H (fun H2=>Q (.ref D) H2):=by
  intro b us ts hb rl hdl lm σ' D hD hq;have el:=rl.length;refine FT (K:=K) (a:=b) (xs:=us) (fun i zs σ' H2=>(∃ u v,σ'=[u,v])/\aG H H2/\H2 D=some (.lst zs)/\zs=(mnL (ts.take i)).map vN) ⟨⟨N⟩,au hD _,aa,by rw[WD,mnL];rfl⟩ (fun i zs σ' H2 _ h=>sqT (h.2.1 _ _ hb)) ?_ ?_
  ·rintro i zs x σ' H2 hx ⟨⟨u,v,rfl⟩,sm,eD,ez⟩;obtain⟨t',ht,rt'⟩:=rl.get hx;refine⟨O,x,n,t',U,rt'.mono sm,Wn (iw ht) hdl,by lia,hn,fun r H3 s3 fr er=>?_⟩;have hrD:r≠D:=fun z=>by rw[z,eD] at fr;cases fr
   refine⟨r,U,⟨_,sqL er⟩,JP (K:=K) (b:=r) (ws:=(mnF t').map vN) (fun j ws σ' H4=>(∃ u,σ'=[some x,u])/\aG H H4/\H4 r=some (.lst ((mnF t').map vN))/\H4 D=some (.lst ws)/\ws=(mnL (ts.take i)++(mnF t').take j).map vN)
    ⟨⟨O⟩,sm.trans s3,er,s3 _ _ eD,by rw[WD,Xy];exact ez⟩ (fun j ws σ' H4 _ h=>sqL h.2.2.1) ?_ ?_⟩
   ·rintro j ws y σ' H4 hy ⟨⟨u,rfl⟩,s4,er4,eD4,ew⟩;obtain⟨m,hm,rfl⟩:=uV hy;have hlen:ws.length<=2592:=by
     have h1:=FZ (ts:=ts) (i+1);rw[kh ht,V6] at h1;rw[ew,VH,V6,Wa];lia
    refine⟨O,eD4,acd hlen (by decide),⟨O⟩,aK s4 hD _,?_,aa,?_⟩;{rw[aL hrD];exact er4};{rw[ew,Wj,hm,← ZM];show _=List.map vN ((mnL (ts.take i)++(mnF t').take j)++[m]);rw[VV (l₁:=mnL (ts.take i)++(mnF t').take j)];rfl}
   ·rintro ws σ' H4 ⟨⟨u,rfl⟩,s4,er4,eD4,ew⟩;rw[VH,V1,← kh ht] at ew;exact⟨⟨N⟩,s4,eD4,ew⟩
  ·rintro zs σ' H2 ⟨_,sm,eD,ez⟩;rw[el,V1] at ez;exact hq H2 sm (by rw[eD,ez])
 cases rt with
 | @free a ha =>
  exact⟨O,a,Y,sqT ha,gt0,T,aZ bf ⟨T,aZ bf ⟨T,aZ bf ⟨T,aZ bf ⟨T,aZ bf ⟨smN 0,fun r h0=>q r _ (au h0 _) h0 (by rw[aa,mnF];rfl)⟩⟩⟩⟩⟩⟩
 | @never a ha =>
  exact⟨O,a,Y,sqT ha,gt0,T,aZ bf ⟨T,aZ bf ⟨T,aZ bf ⟨T,aZ bf ⟨T,aZ bf ⟨smN 0,fun r h0=>q r _ (au h0 _) h0 (by rw[aa,mnF];rfl)⟩⟩⟩⟩⟩⟩
 | @gives a i k ha hi k1 k9 =>
  exact⟨O,a,Y,sqT ha,gt0,T,gU U ⟨O,a,Y,sqT ha,gt1,smN 1,fun r h0=>q r _ (au h0 _) h0 (by rw[aa,mnF];rfl)⟩⟩
 | @sum a b c k ha hb hc hp l20 l2 k1 k99 =>
  exact⟨O,a,Y,sqT ha,gt0,T,aZ bf ⟨T,gU U (dh ⟨O,a,Y,sqT ha,gt1,b,O,.inr (sqT hb),fun r h0=>q r _ (au h0 _) h0 (by rw[aa,mnF])⟩)⟩⟩
 | @crowd a b c k mm ha hb hc hp l20 l1 k1 k9 m1 m12 =>
  exact⟨O,a,Y,sqT ha,gt0,T,aZ bf ⟨T,aZ bf ⟨T,gU U ⟨O,a,Y,sqT ha,gt1,b,O,.inr (sqT hb),fun r h0=>q r _ (au h0 _) h0 (by rw[aa,mnF])⟩⟩⟩⟩
 | @all a b us ts ha hb l2 l6 rl =>
  have hdl:tdL ts<=d:=by rw[Tm.dep] at hd;lia
  rw[mnF] at small';exact⟨O,a,Y,sqT ha,gt0,T,aZ bf ⟨T,aZ bf ⟨T,aZ bf ⟨T,gU U (dh ⟨O,a,Y,sqT ha,gt1,b,U,⟨_,sqT hb⟩,fun D hD=>parts (σ':=[]) hb rl hdl small' hD fun H2 sm eD=>q D H2 sm hD (by rw[eD,mnF])⟩)⟩⟩⟩⟩
 | @any a b us ts ha hb l2 l6 rl =>
  have hdl:tdL ts<=d:=by rw[Tm.dep] at hd;lia
  rw[mnF] at small';exact⟨O,a,Y,sqT ha,gt0,T,aZ bf ⟨T,aZ bf ⟨T,aZ bf ⟨T,aZ bf ⟨T,gU U ⟨O,a,Y,sqT ha,gt1,b,U,⟨_,sqT hb⟩,fun D hD=>parts (σ':=[]) hb rl hdl small' hD fun H2 sm eD=>q D H2 sm hD (by rw[eD,mnF])⟩⟩⟩⟩⟩⟩
def nmI (c:DV)(ms:DU):Prop:=ms.Perm (ddI (c.map fun i:Nat=>(i:Int)))/\ms.Pairwise (·<=·)
theorem GX:∀ (ns acc:DU) (x:Int),x∈ns.foldl Xz acc->x∈acc∨x∈ns
 | [],acc,x,h=>.inl h
 | n::r,acc,x,h=>by
  rw[W9] at h;rcases GX r _ x h with z | z
  ·unfold Xz at z;split at z;{exact .inl z}
   ·rcases List.mem_append.mp z with y | y;{exact .inl y};{rw[List.mem_singleton.mp y];exact .inr V0}
  ·exact .inr (V7 _ z)
theorem yd:∀ (n:Nat) (l:DU),l.Nodup->(∀ x∈l,0<=x/\x < (n:Int))->l.length<=n
 | 0,l,_,h=>by
  cases l with
  | nil=>exact Wz _
  | cons x r =>
   have:=h x V0;lia
 | n+1,l,nd,h=>by
  have h1:=yd n (l.erase (n:Int)) (nd.erase _) fun x hx=>by
   have hx':=List.mem_of_mem_erase hx;have b:=h x hx';have ne:x≠(n:Int):=fun z=>by
    rw[z] at hx;exact (List.Nodup.mem_erase_iff nd).mp hx |>.1 rfl
   lia
  have h2:l.length<=(l.erase (n:Int)).length+1:=by
   rw[List.length_erase];split <;> lia
  lia
def S5 {c:DV}{n:Nat}(h:∀ i∈c,i < n):(ddI (c.map fun i:Nat=>(i:Int))).length<=n:=by
 rw[CK];refine yd n _ (vY _ [] List.nodup_nil) fun x hx=>?_;rcases GX _ [] x hx with z | z;{cases z};{obtain⟨i,hi,rfl⟩:=List.mem_map.mp z;have:=h i hi;lia}
abbrev zm:Stmt:=top 29
def K7:aB ZT ZT (aA zm):=bZ
inductive G9 (vs:Fk)(H:Hp)(Q:VK)(e3:XK):Prop where
 | mk (v:V) (n:Nat) (t:Tm) (_:vs=[v]) (_:jx n H v t) (_:t.dep<=4) (_:n<=12) (_:∀ (r:Addr) (ms:DU) (H':Hp),aG H H'->H r=none->nmI (mnF t) ms->H' r=some (.lst (ms.map V.int))->Q (.ref r) H')
def Kv {k:Nat} (F:Fun K "named" "named" zm f fd) (B:Bt mg)
  (Sm:Df P w K mg base "mentions" k ZT (jU 4)):bh P w K mg base CX0 (k+1) f fd ZT G9:=by
 refine okA F K7 fun H Q E hr h=>?_;obtain⟨v,n,t,rfl,rt,hd,hn,q⟩:=h;refine⟨_,(sR (pH U U B.sorted_ U B.set_ (a1 (aM Sm hr (v1 0))))),O,v,n,t,U,rt,hd,by decide,hn,fun r H1 s1 fr er=>?_⟩;have lm:=qu hn (VP 4) rt hd;have ld:=S5 (JQ rt);refine⟨r,(mnF t).map fun i:Nat=>(i:Int),U,sqL (by rw[er,jq]),by rw[VH];lia,by lia,fun ms pm so l hl=>?_⟩;exact q l ms _ (s1.trans (au hl _)) (s1.free hl) ⟨pm,so⟩ aa
abbrev mV:Stmt:=top 15
abbrev pD:Stmt:=top 21
abbrev lK:Stmt:=top 22
abbrev eZ:Stmt:=top 23
abbrev tM:Stmt:=top 24
def wY:aB XZ XZ (aA mV):=bZ
def jb:aB ["many","thing","fewest","lowest_left","one"] XG (aA pD):=bZ
def yX:aB XW XW (aA lK):=bZ
def iR:aB ["many","thing","deep","kind"] XW (aA eZ):=bZ
def DX:aB Zl Zl (aA tM):=bZ
def isNum:V->Int->Int->Bool
 | .int i,lo,hi=>decide (lo<=i) && decide (i<=hi)
 | _,_,_=>false
inductive NV:V->Prop where
 | int (i:Int):NV (.int i)
 | str (x:Wt):NV (.str x)
inductive gR (vs:Fk)(H:Hp)(Q:VK)(e3:XK):Prop where
 | mk (x:V) (lo hi:Int) (_:vs=[x,.int lo,.int hi]) (_:NV x) (_:Q (.bl (isNum x lo hi)) H)
def xx (F:Fun K "is_number" "is_number" mV f fd) (B:Bt mg) :
  bh P w K mg base CX0 1 f fd XZ gR:=by
 refine okA F wY fun H Q E hr h=>?_;obtain⟨x,lo,hi,rfl,pl,q⟩:=h;refine⟨_,(sR (iC (aQ (r:=Mu K) iZ U B.isinstance_ cM (aq (pv 0) (a1 (Aa B.int_ Bq)))) (iC (RZ (aQ (r:=Mu K) iZ U B.isinstance_ cM (aq (pv 0) (a1 (Aa B.bool_ PN))))) (iC (du QK (pv 1) (pv 0)) (ni (du QK (pv 0) (pv 2))))))),?_⟩;cases pl with
 | int i =>
  refine⟨O,_,_,N,.int i,km _ _,O,dh ⟨O,_,_,N,.int i,Be _,R,dh ⟨R,M,O,?_⟩⟩⟩;have e:isNum (.int i) lo hi=(decide (lo<=i) && decide (i<=hi)):=rfl;rw[e] at q;cases c:decide (lo<=i) with
  | true =>
   rw[c] at q;exact dh ⟨R,M,q⟩
  | false =>
   rw[c] at q;exact bU q
 | str y=>exact⟨O,_,_,N,.str y,Dr _,O,bU q⟩
def jP {k lo hi:Int}(h1:lo<=k)(h2:k<=hi):isNum (.int k) lo hi=true:=by
 show (decide (lo<=k) && decide (k<=hi))=true;rw[dcT h1,dcT h2];rfl
def Cw {i m:Nat}{lo:Int}(h:lo<=(i:Int)):isNum (.int (i:Int)) lo ((m:Int) - 1)=decide (i < m):=by
 show (decide (lo<=(i:Int)) && decide ((i:Int)<=(m:Int) - 1))=decide (i < m);rw[dcT h,ZC];exact decide_eq_decide.mpr ⟨fun z=>by lia,fun z=>by lia⟩
def ltF (m:Nat)(c:DV):Bool:=c.all fun i=>decide (i < m)
def Jw (m:Nat)(a b:DV):ltF m (a++b)=(ltF m a && ltF m b):=List.all_append
def G7 {m:Nat}{c:DV}:ltF m c=true ↔ ∀ i∈c,i < m:=by
 unfold ltF;rw[List.all_eq_true];exact⟨fun h i hi=>of_decide_eq_true (h i hi),fun h i hi=>dcT (h i hi)⟩
def RL {m i:Nat}{c:DV}(h:i∈c)(hm:¬ i < m):ltF m c=false:=by
 cases e:ltF m c with
 | false=>rfl
 | true=>exact absurd (G7.mp e i h) hm
inductive MP (vs:Fk)(H:Hp)(Q:VK)(e3:XK):Prop where
 | mk (b:Addr) (c:DV) (m:Nat) (few:Int) (_:vs=[.int (m:Int),.ref b,.int few]) (_:H b=some (.tup (c.map vN))) (_:c.Pairwise (· < ·)) (_:few<=(c.length:Int)) (_:Q (.bl (ltF m c)) H)
def zT (F:Fun K "is_crowd" "is_crowd" pD f fd) (B:Bt mg)
  (PV:Df P w K mg base "is_number" 1 XZ gR):bh P w K mg base CX0 2 f fd XG MP:=by
 refine okA F jb fun H Q E hr h=>?_;obtain⟨b,c,m,few,rfl,hb,hp,hf,q⟩:=h
 refine⟨_,(aj (ifR (PW.pt (iB (dM (cu (aQ (r:=Mu K) iZ U B.isinstance_ cM (aq (pv 1) (a1 (Aa B.tuple_ bH)))))) (eV (aD rZ (pln K B.len_ (pv 1)) (pv 2))))) dR)
 (aj (sT 3 jb.nd ao)
 (aj (bW Wv U (cH (pv 1)) (pgN 4 jb.nd) (aj (ifR (dM (cu (aM PV hr (aq (pv 4) (aq (pv 3) (a1 (aN eQ (pv 0) ao))))))) dR)
 (aF (sT 3 jb.nd (aN bF (pv 4) ao)))))
 (sR dR)))),?_⟩
 refine⟨O,_,_,N,.tup hb,km _ _,O,bU ⟨O,b,O,.inr (sqT hb),O,M,O,?_⟩⟩;refine aZ (by rw[VH];lia) ?_;refine⟨O,b,U,⟨_,sqT hb⟩,dY (K:=K) (a:=b) (xs:=c.map vN) (fun i σ H2=>H2=H/\∃ (lo:Int) (u:E8),σ=[some (.int (m:Int)),oR b,oI few,oI lo,u]/\(∀ x∈c.drop i,lo<=((x:Nat):Int))/\ltF m (c.take i)=true) ⟨U,0,O,fun x _=>by lia,by rw[WD];rfl⟩ (fun i σ H2 _ h2=>by rw[h2.1];exact sqT hb) ?_ ?_⟩
 ·rintro i x σ H2 hx ⟨rfl,lo,u,rfl,hlo,hlt⟩;obtain⟨y,hy,rfl⟩:=uV hx;have hi:i < c.length:=(geS hy).1;have ey:c[i]=y:=(geS hy).2;have ed:c.drop i=y::c.drop (i+1):=by rw[aaa hi,ey]
  have hl:=hlo y (by rw[ed];exact V0);refine⟨R,O,M,vN y,lo,(m:Int) - 1,U,.int _,O,?_⟩;rw[show vN y=V.int (y:Int) from U,Cw hl];by_cases hm:y < m
  ·rw[dcT hm];refine bU ⟨O,M,U,(y:Int)+1,O,fun x hx=>?_,?_⟩;{have h1:=hp.drop (i:=i);rw[ed,Yl] at h1;have:=h1.1 x hx;lia};{rw[Wj,hy,Jw,hlt,ZC];show (decide (y < m) && true)=true;rw[dcT hm];rfl}
  ·rw[dcF hm];refine dh ?_;rw[RL (Wk hy) hm] at q;exact q
 ·rintro σ H2 ⟨rfl,lo,u,rfl,hlo,hlt⟩;rw[VH,V1] at hlt;rw[hlt] at q;exact q
def ne0 {n:Nat}(h:n≠0):¬ V.int (n:Int)=V.int 0:=fun z=>h (by injection z with z;lia)
inductive j7 (k:Nat)(vs:Fk)(H:Hp)(Q:VK)(e3:XK):Prop where
 | mk (v:V) (m dp:Nat) (_:vs=[.int (m:Int),v,.int (dp:Int)]) (_:1<=dp) (_:dp<=k) (_:((∃ (n:Nat) (t:Tm),jx n H v t/\t.dep<=dp/\∀ H',aG H H'->Q (.bl (ltF m (mnF t))) H')∨(∃ e:Addr,v = .ref e/\H e=some (.tup [])/\Q (.bl false) H)))
inductive HR (k:Nat)(vs:Fk)(H:Hp)(Q:VK)(e3:XK):Prop where
 | mk (b:Addr) (us:Fk) (ts:List Tm) (n m dp:Nat) (_:vs=[.int (m:Int),.ref b,.int (dp:Int)]) (_:dp<=k) (_:H b=some (.tup us)) (_:2<=us.length) (_:us.length<=6) (_:cJ n H us ts) (_:tdL ts<=dp) (_:1<=dp) (_:∀ H',aG H H'->Q (.bl (ltF m (mnL ts))) H')
theorem GR (m:Nat):∀ ts:List Tm,(ts.map fun t=>ltF m (mnF t)).all (fun b=>b)=ltF m (mnL ts)
 | []=>by rw[mnL];rfl
 | t::r=>by
  have ih:=GR m r;rw[mnL,Jw,← ih];rfl
def gk {n k:Nat} {t1 t2:Tok} (F:Fun K "are_parts" "are_parts" lK f fd) (B:Bt mg) (Ts:mg "FEWEST_PARTS" = some (.int 2 t1)) (TB:mg "MOST_PARTS" = some (.int 6 t2))
  (hk:1<=k) (PV:Df P w K mg base "is_number" 1 XZ gR) (P5:Df P w K mg base "is_term_within" k XW (j7 n)):bh P w K mg base CX0 (k+1) f fd XW (HR n):=by
 refine okA F yX fun H Q E hr h=>?_;obtain⟨b,us,ts,n0,m,dp,rfl,hdp,hb,l2,l6,rl,hd,d1,q⟩:=h
 refine⟨_,(aj (ifR (PW.pt (iB (dM (cu (aQ (r:=Mu K) iZ U B.isinstance_ cM (aq (pv 1) (a1 (Aa B.tuple_ bH)))))) (eV (dM (cu (aM PV hr (aq (pln K B.len_ (pv 1)) (aq (ql Ts) (a1 (ql TB)))))))))) dR)
 (sR (aQ (r:=Oi K) (yW U) U B.all_ Mv (a1 (bC (L:=["part"]) (F:=["many","deep"]) (cap:=[0,2]) U (aY U U (by kernel_rfl)) (cH (pv 1)) (fun _ _ _ _ _=>(pgC 0)) (fun _ _ _ _ _=>bI) (fun _ _ _ _ _=>(aM P5 hr (aq (pv 1) (v2 0 2))))))))),?_⟩
 have el:=rl.length;refine⟨O,_,_,N,.tup hb,km _ _,O,bU ⟨O,b,O,.inr (sqT hb),.int (us.length:Int),2,6,U,.int _,O,?_⟩⟩;rw[jP (by lia) (by lia)]
 refine bU ⟨O,b,U,⟨_,sqT hb⟩,fun D hD=>cj (K:=K) (a:=b) (xs:=us) (fun i zs σ' H2=>(∃ u,σ'=[u,some (.int (m:Int)),some (.int (dp:Int))])/\zs=((ts.take i).map fun t=>ltF m (mnF t)).map V.bl/\aG H H2/\H2 D=some (.lst zs))
  ⟨⟨O⟩,U,au hD _,aa⟩ (fun i zs σ' H2 _ h2=>⟨fM h2.2.2.1 (sqT hb),h2.2.2.2⟩) ?_ ?_⟩
 ·rintro i zs x σ' H2 hx ⟨⟨u,rfl⟩,e1,sm,hDl⟩;have hi:i < us.length:=(geS hx).1;obtain⟨t,ht,rt⟩:=rl.get hx;refine gT ?_;refine⟨R,O,x,m,dp,U,d1,hdp,.inl ⟨n0,t,rt.mono sm,Wn (iw ht) hd,fun H3 s3=>⟨s3 _ _ hDl,?_,⟨O⟩,?_,aK (sm.trans s3) hD _,aa⟩⟩⟩;{rw[e1,VH,VH,Wa];exact aH (by lia)};{rw[e1,Wj,ht,VV,VV];rfl}
 ·rintro zs σ' H2 ⟨_,e1,sm,hDl⟩;rw[el,V1] at e1;refine⟨D,ts.map fun t=>ltF m (mnF t),U,sqL (by rw[hDl,e1]),?_⟩;rw[GR];exact q H2 sm
def zG:bh P w K mg base CX0 1 f fd XW (j7 0):=by
 have no:∀ vs H Q E,¬ j7 0 vs H Q E:=fun vs H Q E h=>by
  obtain⟨v,m,dp,_,h1,h2,_⟩:=h;lia
 exact⟨fun vs H Q E h=>absurd h (no vs H Q E),fun A outer s H args us vs Q E _ _ _ _ h=>absurd h (no vs H Q E)⟩
def di {n k:Nat} {t1 t2 t3:Tok} (F:Fun K "is_term_within" "is_term_within" eZ f fd) (B:Bt mg)
  (TH:mg "MOST_STEP" = some (.int 9 t1)) (TK:mg "MOST_SUM" = some (.int 99 t2)) (Ty:mg "MOST_FOLK" = some (.int 12 t3)) (hk:2<=k) (PV:Df P w K mg base "is_number" 1 XZ gR) (PU:Df P w K mg base "is_crowd" 2 XG MP)
  (Pi:Df P w K mg base "are_parts" k XW (HR n)):bh P w K mg base CX0 (k+1) f fd XW (j7 (n+1)):=by
 refine okA F iR fun H Q E hr h=>?_;obtain⟨v,m,dp,rfl,d1,dk,h⟩:=h
 refine⟨_,(aj (ifR (PW.pt (iB (aD rZ (pv 2) ao) (iB (dM (cu (aQ (r:=Mu K) iZ U B.isinstance_ cM (aq (pv 1) (a1 (Aa B.tuple_ bH)))))) (eV (aD bc (pln K B.len_ (pv 1)) ao))))) dR)
 (aj (sT 3 iR.nd (pxT K (pv 1) ao))
 (aj (ifR (PW.pt (iB (aD bc (pv 3) aJ) (eV (aD bc (pv 3) aJ)))) (du bc (pln K B.len_ (pv 1)) ao))
 (aj (ifR (aD bc (pv 3) aJ) (iC (du bc (pln K B.len_ (pv 1)) ao) (iC (aM PV hr (aq (pxT K (pv 1) ao) (aq ao (a1 (aN eQ (pv 0) ao))))) (ni (aM PV hr (aq (pxT K (pv 1) ao) (aq ao (a1 (ql TH)))))))))
 (aj (ifR (aD bc (pv 3) aJ) (iC (du bc (pln K B.len_ (pv 1)) ao) (iC (aM PU hr (aq (pv 0) (aq (pxT K (pv 1) ao) (a1 ao)))) (ni (aM PV hr (aq (pxT K (pv 1) ao) (aq ao (a1 (ql TK)))))))))
 (aj (cP (aD bc (pv 3) aJ) (aj (ifR (PW.pt (iB (aD zQ (pln K B.len_ (pv 1)) ao) (eV (dM (cu (aM PU hr (aq (pv 0) (aq (pxT K (pv 1) ao) (a1 ao))))))))) dR)
 (sR (iC (aM PV hr (aq (pxT K (pv 1) ao) (aq ao (a1 (ql TH))))) (ni (aM PV hr (aq (pxT K (pv 1) ao) (aq ao (a1 (ql Ty))))))))) aX)
 (aj (ifR (PW.pt (iB (aD bc (pv 3) aJ) (eV (aD bc (pv 3) aJ)))) (iC (du bc (pln K B.len_ (pv 1)) ao) (ni (aM Pi hr (aq (pv 0) (aq (pxT K (pv 1) ao) (a1 (aN eQ (pv 2) ao))))))))
 (sR dR)))))))),?_⟩
 refine⟨O,M,O,aZ (by lia) ?_⟩;rcases h with⟨n0,t,rt,hd,q⟩ | ⟨e,rfl,he,q⟩
 ·have q0:=q H (aG.refl H);cases rt with
  | @free a ha =>
   refine⟨O,_,_,N,.tup ha,km _ _,O,bU ⟨O,a,O,.inr (sqT ha),U,O,aZ (ne0 (Zi _)) ⟨O,a,Y,sqT ha,gt0,⟨T,gU U (dh ?_)⟩⟩⟩⟩;rw[mnF] at q0;exact⟨O,a,O,.inr (sqT ha),U,q0⟩
  | @never a ha =>
   refine⟨O,_,_,N,.tup ha,km _ _,O,bU ⟨O,a,O,.inr (sqT ha),U,O,aZ (ne0 (Zi _)) ⟨O,a,Y,sqT ha,gt0,⟨T,aZ bf ⟨T,gU U ?_⟩⟩⟩⟩⟩;rw[mnF] at q0;exact⟨O,a,O,.inr (sqT ha),U,q0⟩
  | @gives a i kk ha hi k1 k9 =>
   refine⟨O,_,_,N,.tup ha,km _ _,O,bU ⟨O,a,O,.inr (sqT ha),U,O,aZ (ne0 (Zi _)) ⟨O,a,Y,sqT ha,gt0,⟨T,aZ bf ⟨T,aZ bf ⟨T,gU U ⟨O,a,O,.inr (sqT ha),U,O,gU U ⟨O,a,Y,sqT ha,gt1,O,M,vN i,0,(m:Int) - 1,U,.int _,O,?_⟩⟩⟩⟩⟩⟩⟩⟩;rw[show vN i=V.int (i:Int) from U,Cw (by lia)];rw[mnF] at q0;have e:ltF m [i]=decide (i < m):=by
    show (decide (i < m) && true)=_;rw[Bool.and_true]
   rw[e] at q0;refine kI (fun c=>?_) (fun c=>?_);{rw[c] at q0;refine⟨O,a,Y,sqT ha,gt2,.int kk,1,9,U,.int _,?_⟩;rw[jP k1 k9];exact q0};{rw[Bool.eq_false_iff.mpr c] at q0;exact q0}
  | @sum a b c kk ha hb hc hp l20 l2 k1 k99 =>
   refine⟨O,_,_,N,.tup ha,km _ _,O,bU ⟨O,a,O,.inr (sqT ha),U,O,aZ (ne0 (Zi _)) ⟨O,a,Y,sqT ha,gt0,⟨T,aZ bf ⟨T,aZ bf ⟨T,aZ bf ⟨T,gU U ⟨O,a,O,.inr (sqT ha),U,O,gU U ⟨R,a,Y,sqT ha,gt1,b,c,m,2,U,hb,hp,by lia,_,U,?_⟩⟩⟩⟩⟩⟩⟩⟩⟩;rw[mnF] at q0;refine kI (fun c=>?_) (fun c=>?_);{rw[c] at q0;refine⟨O,a,Y,sqT ha,gt2,.int kk,1,99,U,.int _,?_⟩;rw[jP k1 k99];exact q0};{rw[Bool.eq_false_iff.mpr c] at q0;exact q0}
  | @crowd a b c kk mm ha hb hc hp l20 l1 k1 k9 m1 m12 =>
   refine⟨O,_,_,N,.tup ha,km _ _,O,bU ⟨O,a,O,.inr (sqT ha),U,O,aZ (ne0 (Zi _)) ⟨O,a,Y,sqT ha,gt0,⟨T,aZ bf ⟨T,aZ bf ⟨T,aZ bf ⟨T,aZ bf ⟨T,gU U ⟨O,a,O,.inr (sqT ha),U,O,kO U ⟨R,a,Y,sqT ha,gt1,b,c,m,1,U,hb,hp,by lia,_,U,?_⟩⟩⟩⟩⟩⟩⟩⟩⟩⟩;rw[mnF] at q0;cases z:ltF m c with
   | false =>
    rw[z] at q0;exact dh q0
   | true =>
    rw[z] at q0;refine bU ⟨O,a,Y,sqT ha,gt2,.int kk,1,9,U,.int _,O,?_⟩;rw[jP k1 k9];refine dh ⟨O,a,Y,sqT ha,dw (k:=3) U,.int mm,1,12,U,.int _,?_⟩;rw[jP m1 m12];exact q0
  | @all a b us ts ha hb l2 l6 rl =>
   have hdl:tdL ts+1<=dp:=by rw[Tm.dep] at hd;exact hd
   have t1:=vd rl l2;refine⟨O,_,_,N,.tup ha,km _ _,O,bU ⟨O,a,O,.inr (sqT ha),U,O,aZ (ne0 (Zi _)) ⟨O,a,Y,sqT ha,gt0,⟨T,aZ bf ⟨T,aZ bf ⟨T,aZ bf ⟨T,aZ bf ⟨T,aZ bf ⟨T,gU U (dh ⟨O,a,O,.inr (sqT ha),U,O,gU U ⟨R,a,Y,sqT ha,gt1,O,M,b,us,ts,n0,m,dp - 1,?_,by lia,hb,l2,l6,rl,by lia,by lia,fun H' s'=>?_⟩⟩)⟩⟩⟩⟩⟩⟩⟩⟩⟩;{rw[show ((dp - 1:Nat):Int)=(dp:Int) - 1 by lia];rfl};{have q1:=q H' s';rw[mnF] at q1;exact q1}
  | @any a b us ts ha hb l2 l6 rl =>
   have hdl:tdL ts+1<=dp:=by rw[Tm.dep] at hd;exact hd
   have t1:=vd rl l2;refine⟨O,_,_,N,.tup ha,km _ _,O,bU ⟨O,a,O,.inr (sqT ha),U,O,aZ (ne0 (Zi _)) ⟨O,a,Y,sqT ha,gt0,⟨T,aZ bf ⟨T,aZ bf ⟨T,aZ bf ⟨T,aZ bf ⟨T,aZ bf ⟨T,aZ bf ⟨T,gU U ⟨O,a,O,.inr (sqT ha),U,O,gU U ⟨R,a,Y,sqT ha,gt1,O,M,b,us,ts,n0,m,dp - 1,?_,by lia,hb,l2,l6,rl,by lia,by lia,fun H' s'=>?_⟩⟩⟩⟩⟩⟩⟩⟩⟩⟩⟩⟩;{rw[show ((dp - 1:Nat):Int)=(dp:Int) - 1 by lia];rfl};{have q1:=q H' s';rw[mnF] at q1;exact q1}
 ·refine⟨O,_,_,N,.tup he,km _ _,O,bU ⟨O,e,O,.inr (sqT he),U,O,gU U q⟩⟩
inductive BP (vs:Fk)(H:Hp)(Q:VK)(e3:XK):Prop where
 | mk (v:V) (m:Nat) (_:vs=[.int (m:Int),v]) (_:((∃ (n:Nat) (t:Tm),jx n H v t/\t.dep<=4/\∀ H',aG H H'->Q (.bl (ltF m (mnF t))) H')∨(∃ e:Addr,v = .ref e/\H e=some (.tup [])/\Q (.bl false) H)))
def Eu {k:Nat} {t1:Tok} (F:Fun K "is_term" "is_term" tM f fd) (B:Bt mg) (Tx:mg "MOST_DEPTH" = some (.int 4 t1))
  (P5:Df P w K mg base "is_term_within" k XW (j7 4)):bh P w K mg base CX0 (k+1) f fd Zl BP:=by
 refine okA F DX fun H Q E hr h=>?_;obtain⟨v,m,rfl,h⟩:=h;exact⟨_,(sR (aM P5 hr (aq (pv 0) (aq (pv 1) (a1 (ql Tx)))))),R,v,m,4,U,by decide,by decide,h⟩
inductive Rg where
 | rung (k:Int) (t:Tm) | bad
inductive mz (n:Nat)(H:Hp):V->Rg->Prop where
 | rung {r:Addr} {k:Int} {v:V} {t:Tm}:H r=some (.tup [.int k,v])->jx n H v t->t.dep<=4->mz n H (.ref r) (.rung k t)
 | odd {r:Addr} {xs:Fk}:H r=some (.tup xs)->xs.length≠2->mz n H (.ref r) .bad
 | text {r:Addr} {x:Wt} {v:V}:H r=some (.tup [.str x,v])->mz n H (.ref r) .bad
 | hollow {r e:Addr} {k:Int}:H r=some (.tup [.int k,.ref e])->H e=some (.tup [])->mz n H (.ref r) .bad
theorem mz.aO {n:Nat}{H H':Hp}{v:V}{g:Rg}(e:∀ a xs,H a=some (HO.tup xs)->H' a=some (HO.tup xs)):mz n H v g->mz n H' v g
 | .rung h t d=>.rung (e _ _ h) (t.aO e) d
 | .odd h l=>.odd (e _ _ h) l
 | .text h=>.text (e _ _ h)
 | .hollow h h2=>.hollow (e _ _ h) (e _ _ h2)
def mz.mono {n:Nat}{H H':Hp}{v:V}{g:Rg}(e:aG H H')(h:mz n H v g):mz n H' v g:=h.aO fun a xs q=>e a _ q
inductive mJ (n:Nat)(H:Hp):Fk->List Rg->Prop where
 | nil:mJ n H [] []
 | cons {v:V} {g:Rg} {vs:Fk} {gs:List Rg}:mz n H v g->mJ n H vs gs->mJ n H (v::vs) (g::gs)
theorem mJ.aO {n:Nat}{H H':Hp}(e:∀ a xs,H a=some (HO.tup xs)->H' a=some (HO.tup xs)):∀ {vs:Fk} {gs:List Rg},mJ n H vs gs->mJ n H' vs gs
 | _,_,.nil=>.nil
 | _,_,.cons h r=>.cons (h.aO e) (mJ.aO e r)
theorem mJ.length {n:Nat}{H:Hp}:∀ {vs:Fk} {gs:List Rg},mJ n H vs gs->vs.length=gs.length
 | _,_,.nil=>rfl
 | _,_,.cons _ r=>by rw[Wc,Wc,mJ.length r]
theorem mJ.get {n:Nat}{H:Hp}:∀ {vs:Fk} {gs:List Rg} {i:Nat} {v:V},mJ n H vs gs->vs[i]? = some v->∃ g,gs[i]? = some g/\mz n H v g
 | _,_,_,_,.nil,h=>by simp at h
 | _,_,0,_,.cons h _,e=>by
  cases (show some _=some _ from e);exact⟨O,h⟩
 | _,_,i+1,_,.cons _ r,e=>by
  obtain⟨g,e1,e2⟩:=mJ.get (i:=i) r (by simpa using e);exact⟨g,by simpa using e1,e2⟩
def rgF (m who:Nat)(lo:Int):Rg->Bool
 | .rung k t=>(decide (lo<=k) && decide (k<=9)) && (ltF m (mnF t) && !decide (who∈mnF t))
 | .bad=>false
def rgK:Rg->Int
 | .rung k _=>k
 | .bad=>0
def plF (m who:Nat):Int->List Rg->Bool
 | _,[]=>true
 | lo,g::r=>rgF m who lo g && plF m who (rgK g+1) r
def QW (m who:Nat)(gs:List Rg):Bool:=(decide (1<=gs.length) && decide (gs.length<=9)) && plF m who 1 gs
theorem CZ (x:Int):∀ ns:DU,inV (.int x) (ns.map V.int)=decide (x∈ns)
 | []=>by rw[dcF (by simp)];rfl
 | n::r=>by
  have ih:=CZ x r;show (eqV (.int n) (.int x) || inV (.int x) (r.map V.int))=_;rw[ih];have e:eqV (.int n) (.int x)=(n == x):=rfl;rw[e,aaQ];simp only[aan,decide_eq_true_eq,Ye,beq_iff_eq];exact⟨fun h=>h.elim (fun z=>.inl z.symm) .inr,fun h=>h.elim (fun z=>.inl z.symm) .inr⟩
def QZ {c:DV}{ms:DU}(h:nmI c ms)(x:Nat):(x:Int)∈ms ↔ x∈c:=by
 obtain⟨p,_⟩:=h;rw[p.mem_iff,CK,JD];constructor
 ·rintro (h | h);{cases h}
  ·obtain⟨y,hy,e⟩:=List.mem_map.mp h;have:x=y:=by lia
   rw[this];exact hy
 ·exact fun h=>.inr (List.mem_map.mpr ⟨x,h,U⟩)
def Lf (ns:DU):(ns.map V.int).all t6=true:=by
 rw[acA];exact List.all_eq_true.mpr fun _ _=>U
abbrev rC:Stmt:=top 32
abbrev mU:Stmt:=top 33
def oO:aB ["many","one","thing","lowest_step","step","term"] WB (aA rC):=bZ
def gA:aB ["many","one","thing","lowest_step","rung"] X0 (aA mU):=bZ
inductive Bk (vs:Fk)(H:Hp)(Q:VK)(e3:XK):Prop where
 | mk (v:V) (g:Rg) (n m who:Nat) (lo:Int) (_:vs=[.int (m:Int),.int (who:Int),v,.int lo]) (_:mz n H v g) (_:n<=12) (_:∀ H',aG H H'->Q (.bl (rgF m who lo g)) H')
def ne2 {n:Nat}(h:n≠2):(!decide (V.int (n:Int)=V.int 2))=true:=by
 rw[dcF fun z=>h (by injection z with z;lia)];rfl
def DQ {k:Nat} {t1:Tok} (F:Fun K "is_rung" "is_rung" rC f fd) (B:Bt mg) (TH:mg "MOST_STEP" = some (.int 9 t1)) (hk:5<=k)
  (PV:Df P w K mg base "is_number" 1 XZ gR) (P4:Df P w K mg base "is_term" k Zl BP) (Sn:Df P w K mg base "named" 5 ZT G9):bh P w K mg base CX0 (k+1) f fd WB Bk:=by
 refine okA F oO fun H Q E hr h=>?_;obtain⟨v,g,n,m,who,lo,rfl,rg,hn,q⟩:=h
 refine⟨_,(aj (ifR (PW.pt (iB (dM (cu (aQ (r:=Mu K) iZ U B.isinstance_ cM (aq (pv 2) (a1 (Aa B.tuple_ bH)))))) (eV (aD zQ (pln K B.len_ (pv 2)) ao)))) dR)
 (aj (ym (pv 2) (c7 (K:=K) 2 U U (aP (pgN 4 oO.nd) (aP (pgN 5 oO.nd) cY))))
 (sR (iC (aM PV hr (aq (pv 4) (aq (pv 3) (a1 (ql TH))))) (iC (aM P4 hr (v2 0 5)) (ni (Gp (r:=rIn K true) pK (pv 1) (aM Sn hr (v1 5)) U))))))),?_⟩
 have q0:=q H (aG.refl H);cases rg with
 | @rung r kk u t hr0 rt hd =>
  refine⟨O,_,_,N,.tup hr0,km _ _,O,bU ⟨O,r,O,.inr (sqT hr0),U,O,kO U ⟨O,r,O,sqT hr0,U,N,M,⟨R,.int kk,lo,9,U,.int _,O,?_⟩⟩⟩⟩;have er:rgF m who lo (.rung kk t)=(isNum (.int kk) lo 9 && (ltF m (mnF t) && !decide (who∈mnF t))):=rfl;rw[er] at q q0;refine kI (fun c=>?_) (fun c=>?_)
  ·rw[c,ZC] at q;refine⟨R,u,m,U,.inl ⟨n,t,rt,hd,fun H1 s1=>⟨O,?_⟩⟩⟩;refine kI (fun c2=>?_) (fun c2=>?_);{rw[c2,ZC] at q;refine⟨R,u,n,t,U,rt.mono s1,hd,hn,fun r1 ms H2 s2 f2 nm e2=>⟨r1,O,.inl (sqL e2),U,Lf ms,?_⟩⟩;have q':=q H2 (s1.trans s2);rw[show (decide (who∈mnF t))=inV (.int (who:Int)) (ms.map V.int) by rw[CZ];exact decide_eq_decide.mpr (QZ nm who).symm] at q';exact q'};{have q':=q H1 s1;rw[Bool.eq_false_iff.mpr c2,Z1] at q';exact q'}
  ·rw[Bool.eq_false_iff.mpr c,Z1] at q0;exact q0
 | @odd r xs hr0 hl =>
  exact⟨O,_,_,N,.tup hr0,km _ _,O,bU ⟨O,r,O,.inr (sqT hr0),U,O,Kw (ne2 hl) q0⟩⟩
 | @text r x u hr0 =>
  exact⟨O,_,_,N,.tup hr0,km _ _,O,bU ⟨O,r,O,.inr (sqT hr0),U,O,kO U ⟨O,r,O,sqT hr0,U,N,M,⟨R,.str x,lo,9,U,.str _,O,bU q0⟩⟩⟩⟩
 | @hollow r e kk hr0 he =>
  refine⟨O,_,_,N,.tup hr0,km _ _,O,bU ⟨O,r,O,.inr (sqT hr0),U,O,kO U ⟨O,r,O,sqT hr0,U,N,M,⟨R,.int kk,lo,9,U,.int _,O,?_⟩⟩⟩⟩;refine kI (fun c=>?_) (fun c=>?_);{exact⟨R,.ref e,m,U,.inr ⟨e,U,he,O,bU q0⟩⟩};{exact q0}
inductive uK (vs:Fk)(H:Hp)(Q:VK)(e3:XK):Prop where
 | mk (a:Addr) (us:Fk) (gs:List Rg) (n m who:Nat) (_:vs=[.int (m:Int),.int (who:Int),.ref a]) (_:H a=some (.tup us)) (_:mJ n H us gs) (_:n<=12) (_:us.length<=20) (_:1<=m) (_:∀ H',aG H H'->Q (.bl (QW m who gs)) H')
def mz.good {n:Nat}{H:Hp}{v:V}{g:Rg}{m who:Nat}{lo:Int}(h:mz n H v g)(e:rgF m who lo g=true):∃ r kk u t,v = .ref r/\H r=some (.tup [.int kk,u])/\jx n H u t/\t.dep<=4/\g = .rung kk t:=by
 cases h with
 | rung h1 h2 h3=>exact⟨_,_,N,h1,h2,h3,U⟩
 | odd=>cases e
 | text=>cases e
 | hollow=>cases e
def yj {k:Nat} {t1:Tok} (F:Fun K "is_pledge" "is_pledge" mU f fd) (B:Bt mg) (TD:mg "MOST_RUNGS" = some (.int 9 t1)) (hk:1<=k)
  (PV:Df P w K mg base "is_number" 1 XZ gR) (PZ:Df P w K mg base "is_rung" k WB Bk):bh P w K mg base CX0 (k+1) f fd X0 uK:=by
 refine okA F gA fun H Q E hr h=>?_;obtain⟨a,us,gs,n,m,who,rfl,ha,rg,hn,l20,hm,q⟩:=h
 refine⟨_,(aj (ifR (PW.pt (iB (dM (cu (aQ (r:=Mu K) iZ U B.isinstance_ cM (aq (pv 2) (a1 (Aa B.tuple_ bH)))))) (eV (dM (cu (aM PV hr (aq (pln K B.len_ (pv 2)) (aq ao (a1 (ql TD)))))))))) dR)
 (aj (sT 3 gA.nd ao)
 (aj (bW Wv U (cH (pv 2)) (pgN 4 gA.nd) (aj (ifR (dM (cu (aM PZ hr (aq (pv 0) (aq (pv 1) (v2 4 3)))))) dR)
 (aF (sT 3 gA.nd (aN bF (pxT K (pv 4) ao) ao)))))
 (sR dR)))),?_⟩
 have el:=rg.length;have q0:=q H (aG.refl H);refine⟨O,_,_,N,.tup ha,km _ _,O,bU ⟨O,a,O,.inr (sqT ha),.int (us.length:Int),1,9,U,.int _,O,?_⟩⟩;have en:isNum (.int (us.length:Int)) 1 9=(decide (1<=gs.length) && decide (gs.length<=9)):=by
  show (decide ((1:Int)<=(us.length:Int)) && decide ((us.length:Int)<=9))=_;rw[el];congr 1;{exact decide_eq_decide.mpr ⟨fun z=>by lia,fun z=>by lia⟩};{exact decide_eq_decide.mpr ⟨fun z=>by lia,fun z=>by lia⟩}
 rw[en];unfold QW at q q0;cases hc:(decide (1<=gs.length) && decide (gs.length<=9)) with
 | false =>
  rw[hc,Z1] at q0;exact dh q0
 | true =>
  rw[hc,ZC] at q
  refine bU ⟨O,a,U,⟨_,sqT ha⟩,dY (K:=K) (a:=a) (xs:=us) (fun i σ H2=>aG H H2/\∃ (lo:Int) (u:E8),σ=[some (.int (m:Int)),some (.int (who:Int)),oR a,oI lo,u]/\plF m who lo (gs.drop i)=plF m who 1 gs)
   ⟨aG.refl H,1,O,by rw[List.drop_zero]⟩ (fun i σ H2 _ h=>sqT (h.1 _ _ ha)) ?_ ?_⟩
  ·rintro i x σ H2 hx ⟨sm,lo,u,rfl,er⟩;obtain⟨g,hg,rx⟩:=rg.get hx;have hi:i < gs.length:=(geS hg).1;have eg:gs[i]=g:=(geS hg).2;have ed:gs.drop i=g::gs.drop (i+1):=by rw[aaa hi,eg]
   rw[ed,plF] at er;refine⟨R,R,x,g,n,m,who,lo,U,rx.mono sm,hn,fun H3 s3=>⟨O,?_⟩⟩;cases e:rgF m who lo g with
   | false =>
    rw[e,Z1] at er;have q':=q H3 (sm.trans s3);rw[← er] at q';exact dh q'
   | true =>
    rw[e,ZC] at er;obtain⟨r,kk,y,t,rfl,h1,_,_,rfl⟩:=rx.good e;refine bU ⟨O,r,Y,sqT (s3 _ _ (sm _ _ h1)),gt0,M,sm.trans s3,kk+1,O,er⟩
  ·rintro σ H2 ⟨sm,lo,u,rfl,er⟩;rw[el,acP,plF] at er;have q':=q H2 sm;rw[← er] at q';exact q'
abbrev mW:Stmt:=top 74
def xK:aB WF WF (aA mW):=bZ
theorem Ij (g:DU):∀ ts:List Tm,(ts.map (hF g)).all (fun b=>b)=pL g ts
 | []=>by rw[pL];rfl
 | t::r=>by rw[pL,← Ij g r];rfl
theorem Hq (g:DU):∀ ts:List Tm,(ts.map (hF g)).any (fun b=>b)=pJ g ts
 | []=>by rw[pJ];rfl
 | t::r=>by rw[pJ,← Hq g r];rfl
theorem Cp (f:Nat->Bool):∀ c:DV,(c.map fun i=>if f i=true then (1:Int) else 0).sum=((c.filter f).length:Int)
 | []=>rfl
 | i::c=>by
  have ih:=Cp f c;rw[WR,Zb,ih,Zj];split;{rw[Wc];lia};{lia}
def Av:bh P w K mg base CX0 0 f fd WF (eG K 0):=by
 have no:∀ vs H Q E,¬ eG K 0 vs H Q E:=fun vs H Q E h=>by
  obtain⟨v,g,n,t,ns,_,_,h1,_⟩:=h;have:=t.oA;lia
 exact⟨fun vs H Q E h=>absurd h (no vs H Q E),fun A outer s H args us vs Q E _ _ _ _ h=>absurd h (no vs H Q E)⟩
def gM {d:Nat} (F:Fun K "_law_holds" "_law_holds" mW f fd) (B:Bt mg)
  (QY:Df P w K mg base "_law_holds" d WF (eG K d)):bh P w K mg base CX0 (d+1) f fd WF (eG K (d+1)):=by
 refine okA F xK fun H Q E hr h=>?_;obtain⟨v,g,n,t,ns,rfl,rt,hd,hg,hn,q⟩:=h
 refine⟨_,(aj (ifR (aD bc (pxT K (pv 0) ao) aJ) (du kY (pxT K (pv 1) (pxT K (pv 0) ao)) (pxT K (pv 0) ao)))
 (aj (ifR (aD bc (pxT K (pv 0) ao) aJ) (du kY (aQ (r:=Ml K) (rm U) U B.sum_ HH (a1 (bC (L:=ZI) (F:=Zp) (cap:=[1]) U (aY U U (by kernel_rfl)) (cH (pxT K (pv 0) ao)) (fun _ _ _ _ _=>(pgC 0)) (fun _ _ _ _ _=>bI) (fun _ _ _ _ _=>(pxT K (pv 1) (pv 0)))))) (pxT K (pv 0) ao)))
 (aj (ifR (aD bc (pxT K (pv 0) ao) aJ) (du kY (aQ (r:=Ml K) (rm U) U B.sum_ HH (a1 (bC (L:=ZI) (F:=["_law_giving","_law_term_here"]) (cap:=[1,0]) U (aY U U (by kernel_rfl)) (cH (pxT K (pv 0) ao)) (fun _ _ _ _ _=>(pgC 0)) (fun _ _ _ _ _=>bI) (fun _ _ _ _ _=>(aR (r:=Oa) tG U B.int_ Bq (a1 (du kY (pxT K (pv 1) (pv 0)) (pxT K (pv 2) ao)))))))) (pxT K (pv 0) ao)))
 (aj (ifR (aD bc (pxT K (pv 0) ao) aJ) (aQ (r:=Oi K) (yW U) U B.all_ Mv (a1 (bC (L:=["_law_part"]) (F:=Zp) (cap:=[1]) U (aY U U (by kernel_rfl)) (cH (pxT K (pv 0) ao)) (fun _ _ _ _ _=>(pgC 0)) (fun _ _ _ _ _=>bI) (fun _ _ _ _ _=>(aM QY hr (v2 0 1)))))))
 (sR (UG (du bc (pxT K (pv 0) ao) aJ) (ni (iC (du bc (pxT K (pv 0) ao) aJ) (ni (aQ (r:=RC K) (Jq U) U B.any_ SX (a1 (bC (L:=["_law_part"]) (F:=Zp) (cap:=[1]) U (aY U U (by kernel_rfl)) (cH (pxT K (pv 0) ao)) (fun _ _ _ _ _=>(pgC 0)) (fun _ _ _ _ _=>bI) (fun _ _ _ _ _=>(aM QY hr (v2 0 1))))))))))))))),?_⟩
 have parts:∀ (D:Addr),H D=none->∀ (b:Addr) (us:Fk) (ts:List Tm) (Z:Hp->Prop) (te:TE),us.length<=6->H b=some (.tup us)->cJ n H us ts->tdL ts<=d →
   (∀ (x:V) (t:Tm) (σ':St) (H2:Hp) (R:V->Hp->Prop),jx n H2 x t->aG H H2->t.dep<=d->σ'=[some x,oR g]->(∀ H3,aG H2 H3->R (.bl (hF ns t)) H3)->te σ' H2 R) →
   (∀ H2:Hp,aG H H2->H2 D=some (.lst ((ts.map (hF ns)).map V.bl))->Z H2)->iU D [none,some (.ref g)] (Itt K b) (rK 0) JS te H Z:=fun D hD b us ts Z te lu hb rl td hte hQ=>by
  have el:=rl.length;refine cj (K:=K) (a:=b) (xs:=us) (fun i zs σ' H2=>(∃ u,σ'=[u,oR g])/\zs=((ts.take i).map (hF ns)).map V.bl/\aG H H2/\H2 D=some (.lst zs))
   ⟨⟨O⟩,U,au hD _,aa⟩ (fun i zs σ' H2 _ h=>⟨fM h.2.2.1 (sqT hb),h.2.2.2⟩) ?_ ?_
  ·rintro j zs x σ' H2 hx ⟨⟨u,rfl⟩,e1,sm,hDl⟩;obtain⟨t,ht,rt⟩:=rl.get hx;have hj:j < us.length:=(geS hx).1;refine gT ?_;refine hte x t _ H2 _ (rt.mono sm) sm (Wn (iw ht) td) U fun H3 s3=>⟨s3 _ _ hDl,?_,⟨O⟩,?_,aK (sm.trans s3) hD _,aa⟩;{rw[e1,VH,VH,Wa];exact aH (by lia)};{rw[e1,Wj,ht,VV,VV];rfl}
  ·rintro zs σ' H2 ⟨⟨u,rfl⟩,e1,sm,hDl⟩;rw[el,V1] at e1;exact hQ H2 sm (by rw[hDl,e1])
 cases rt with
 | @free a ha =>
  refine⟨O,a,Y,sqT ha,J,aZ bf ⟨O,a,Y,sqT ha,J,aZ bf ⟨O,a,Y,sqT ha,J,aZ bf ⟨O,a,Y,sqT ha,J,aZ bf ⟨O,a,Y,sqT ha,J,gU U ?_⟩⟩⟩⟩⟩;have q':=q H (aG.refl H);rw[hF] at q';exact q'
 | @never a ha =>
  refine⟨O,a,Y,sqT ha,J,aZ bf ⟨O,a,Y,sqT ha,J,aZ bf ⟨O,a,Y,sqT ha,J,aZ bf ⟨O,a,Y,sqT ha,J,aZ bf ⟨O,a,Y,sqT ha,J,aZ bf ⟨O,a,Y,sqT ha,J,aZ bf ?_⟩⟩⟩⟩⟩⟩;have q':=q H (aG.refl H);rw[hF] at q';exact q'
 | @gives a i k ha hi _ _ =>
  refine⟨O,a,Y,sqT ha,J,gU U ⟨R,a,Y,sqT ha,gt1,g,Y,hg,atD (by lia),O,a,Y,sqT ha,gt2,M,?_⟩⟩;have q':=q H (aG.refl H);rw[hF] at q';exact q'
 | @sum a b c k ha hb hc _ hl _ _ _ =>
  refine⟨O,a,Y,sqT ha,J,aZ bf ⟨O,a,Y,sqT ha,J,gU U ?_⟩⟩
  refine⟨O,a,Y,sqT ha,gt1,b,U,⟨_,sqT hb⟩,fun D hD=>cj (K:=K) (a:=b) (xs:=c.map vN) (fun i zs σ' H2=>(∃ u,σ'=[u,oR g])/\zs=((c.take i).map fun i=>ns.getD i 0).map V.int/\aG H H2/\H2 D=some (.lst zs))
   ⟨⟨O⟩,U,au hD _,aa⟩ (fun i zs σ' H2 _ h=>⟨fM h.2.2.1 (sqT hb),h.2.2.2⟩) ?_ ?_⟩
  ·rintro j zs x σ' H2 hx ⟨⟨u,rfl⟩,e1,sm,hDl⟩;obtain⟨i,hi,rfl⟩:=uV hx;have hin:i < n:=hc i (Wk hi);refine gT ?_;refine⟨R,g,Y,fM sm hg,atD (by lia),hDl,?_,⟨O⟩,?_,aK sm hD _,aa⟩;{rw[e1,VH,VH,Wa];exact aH (by lia)};{rw[e1,Wj,hi,VV,VV];rfl}
  ·rintro zs σ' H2 ⟨⟨u,rfl⟩,e1,sm,hDl⟩;rw[VH,V1] at e1;refine⟨D,O,sqL (by rw[hDl,e1]),O,a,Y,sqT (sm _ _ ha),gt2,M,?_⟩;have q':=q H2 sm;rw[hF] at q';exact q'
 | @crowd a b c k m ha hb hc _ hl _ _ _ _ _ =>
  refine⟨O,a,Y,sqT ha,J,aZ bf ⟨O,a,Y,sqT ha,J,aZ bf ⟨O,a,Y,sqT ha,J,gU U ?_⟩⟩⟩
  refine⟨O,a,Y,sqT ha,gt1,b,U,⟨_,sqT hb⟩,fun D hD=>cj (K:=K) (a:=b) (xs:=c.map vN) (fun i zs σ' H2=>(∃ u,σ'=[u,oR g,oR a])/\zs=((c.take i).map fun i=>if decide (k<=ns.getD i 0)=true then (1:Int) else 0).map V.int/\aG H H2/\H2 D=some (.lst zs))
   ⟨⟨O⟩,U,au hD _,aa⟩ (fun i zs σ' H2 _ h=>⟨fM h.2.2.1 (sqT hb),h.2.2.2⟩) ?_ ?_⟩
  ·rintro j zs x σ' H2 hx ⟨⟨u,rfl⟩,e1,sm,hDl⟩;obtain⟨i,hi,rfl⟩:=uV hx;have hin:i < n:=hc i (Wk hi);refine gT ?_;refine⟨R,g,Y,fM sm hg,atD (by lia),O,a,Y,sqT (sm _ _ ha),gt2,M,.inr ⟨O,hDl,?_,⟨O⟩,?_,aK sm hD _,aa⟩⟩;{rw[e1,VH,VH,Wa];exact aH (by lia)};{rw[e1,Wj,hi,VV,VV];rfl}
  ·rintro zs σ' H2 ⟨⟨u,rfl⟩,e1,sm,hDl⟩;rw[VH,V1] at e1;refine⟨D,O,sqL (by rw[hDl,e1]),O,a,Y,sqT (sm _ _ ha),dw (k:=3) U,M,?_⟩;have q':=q H2 sm;rw[hF] at q';rw[Cp];exact q'
 | @all a b us ts ha hb _ lu rl =>
  refine⟨O,a,Y,sqT ha,J,aZ bf ⟨O,a,Y,sqT ha,J,aZ bf ⟨O,a,Y,sqT ha,J,aZ bf ⟨O,a,Y,sqT ha,J,gU U ⟨O,a,Y,sqT ha,gt1,b,U,⟨_,sqT hb⟩,fun D hD=>parts D hD b us ts _ _ lu hb rl (by rw[Tm.dep] at hd;lia) (fun x t σ' H2 R rt sm dt eσ hR=>?_) fun H2 sm hDl=>?_⟩⟩⟩⟩⟩;{subst eσ;exact⟨R,x,g,n,t,ns,U,rt,dt,fM sm hg,hn,hR⟩};{refine⟨D,O,sqL hDl,?_⟩;rw[Ij];have q':=q H2 sm;rw[hF] at q';exact q'}
 | @any a b us ts ha hb _ lu rl =>
  refine⟨O,a,Y,sqT ha,J,aZ bf ⟨O,a,Y,sqT ha,J,aZ bf ⟨O,a,Y,sqT ha,J,aZ bf ⟨O,a,Y,sqT ha,J,aZ bf ⟨O,a,Y,sqT ha,J,aZ bf ⟨O,a,Y,sqT ha,J,gU U ⟨O,a,Y,sqT ha,gt1,b,U,⟨_,sqT hb⟩,fun D hD=>parts D hD b us ts _ _ lu hb rl (by rw[Tm.dep] at hd;lia) (fun x t σ' H2 R rt sm dt eσ hR=>?_) fun H2 sm hDl=>?_⟩⟩⟩⟩⟩⟩⟩;{subst eσ;exact⟨R,x,g,n,t,ns,U,rt,dt,fM sm hg,hn,hR⟩};{refine⟨D,O,sqL hDl,?_⟩;rw[Hq];have q':=q H2 sm;rw[hF] at q';exact q'}
abbrev pF:Stmt:=top 75
def fQ:aB ["_law_pledge_here","_law_giving","_law_found","_law_step","_law_term_here"] WE (aA pF):=bZ
def Aq {k:Nat} (F:Fun K "_law_owes" "_law_owes" pF f fd) (B:Bt mg)
  (QY:Df P w K mg base "_law_holds" k WF (eG K 4)):bh P w K mg base CX0 (k+1) f fd WE (xQ K):=by
 refine okA F fQ fun H Q E hr h=>?_;obtain⟨a,g,n,p,ns,rfl,⟨ok,vs,ha,rp⟩,hg,hn,q⟩:=h
 refine⟨_,(aj (sT 2 fQ.nd ao)
 (aj (bW Wv U (cH (pv 0)) (c7 (K:=K) 2 U U (aP (pgN 3 fQ.nd) (aP (pgN 4 fQ.nd) cY))) (aF (cP (cu (aM QY hr (v2 4 1))) (aF (sT 2 fQ.nd (pv 3))) aX)))
 (sR (pv 2)))),?_⟩
 have el:=rp.length
 refine⟨O,a,U,⟨_,sqT ha⟩,dY (K:=K) (a:=a) (xs:=vs) (fun i σ H2=>(∃ u v,σ=[oR a,oR g,some (.int (owF ns (p.take i))),u,v])/\aG H H2)
  ⟨⟨N⟩,aG.refl H⟩ (fun i σ H2 _ h=>sqT (h.2 _ _ ha)) ?_ ?_⟩
 ·rintro i x σ H2 hx ⟨⟨u,v,rfl⟩,sm⟩;obtain⟨r,k0,y,t,rfl,hr0,rt,hp⟩:=rp.get hx;have hm:=Wk hp;have ow:=Bj (g:=ns) hp;refine⟨r,O,sqT (sm _ _ hr0),U,N,M,R,y,g,n,t,ns,U,rt.mono sm,(ok.2.2.2 _ hm).2.2,fM sm hg,hn,fun H3 s3=>⟨O,?_⟩⟩;cases e:hF ns t with
  | true =>
   rw[iPo e] at ow;refine dh ⟨O,⟨some (.int k0),some y,?_⟩,sm.trans s3⟩;rw[ow];rfl
  | false =>
   rw[iNe (by rw[e];exact VR)] at ow;refine bU ⟨⟨some (.int k0),some y,?_⟩,sm.trans s3⟩;rw[ow];rfl
 ·rintro σ H2 ⟨⟨u,v,rfl⟩,sm⟩;have q':=q H2 sm;refine⟨O,?_⟩;rw[el,V1];exact q'
abbrev oX:Stmt:=top 76
def zU:aB WU WU (aA oX):=bZ
inductive xH (K:Ww)(vs:Fk)(H:Hp)(Q:VK)(e3:XK):Prop where
 | mk (c g:Addr) (n:Nat) (as:DM) (ps:List Pl) (ns:DU) (_:vs=[.ref c,.ref g]) (_:H c=some (.lst (as.map V.ref))) (_:as.length<=100) (_:d8 n H as ps) (_:SqT K H g (ns.map V.int)) (_:n<=ns.length) (_:∀ H',aG H H'->Q (.int (duF ns 0 ps)) H')
def Ba {k:Nat} (F:Fun K "_law_owed" "_law_owed" oX f fd) (B:Bt mg)
  (RH:Df P w K mg base "_law_owes" k WE (xQ K)):bh P w K mg base CX0 (k+1) f fd WU (xH K):=by
 refine okA F zU fun H Q E hr h=>?_;obtain⟨c,g,n,as,ps,ns,rfl,hc,l100,rps,hg,hn,q⟩:=h;refine⟨_,(sR (aQ (r:=Dt K) (jT U) U B.max_ nj (a1 (aN pQ (aV (a1 ao)) (bC (L:=["_law_pledge_here"]) (F:=Zp) (cap:=[1]) U (aY U U (by kernel_rfl)) (cW (pv 0)) (fun _ _ _ _ _=>(pgC 0)) (fun _ _ _ _ _=>bI) (fun _ _ _ _ _=>(aM RH hr (v2 0 1)))))))),?_⟩;have ell:=rps.length;refine⟨smN 1,fun p4 h4=>?_⟩;generalize eH4:upd H p4 _=H4;obtain⟨g4,e4⟩:=aC eH4 h4
 refine⟨O,c,U,⟨_,sqL (g4 _ _ hc)⟩,fun D2 hD2=>fY (K:=K) (a:=c) (xs:=as.map V.ref) (fun j ws σ' H5=>(∃ u,σ'=[u,oR g])/\ws=((ps.take j).map (owF ns)).map V.int/\aG H4 H5/\H5 D2=some (.lst ws))
  ⟨⟨O⟩,U,au hD2 _,aa⟩ (fun j ws σ' H5 _ h=>⟨sqL (h.2.2.1 _ _ (g4 _ _ hc)),h.2.2.2⟩) ?_ ?_⟩
 ·rintro j ws x σ' H5 hx ⟨⟨u,rfl⟩,e5,s5,hD5⟩;obtain⟨a,ha,rfl⟩:=BV hx;obtain⟨pl,hpl,rpl⟩:=rps.get ha;refine gT ?_;refine⟨R,a,g,n,pl,ns,U,rpl.mono (g4.trans s5),fM (g4.trans s5) hg,hn,fun H6 s6=>⟨s6 _ _ hD5,?_,⟨O⟩,?_,aK (s5.trans s6) hD2 _,aa⟩⟩;{rw[e5,VH,VH,Wa];exact aH (by lia)};{rw[e5,take_snoc (owF ns) hpl,VV];rfl}
 ·rintro ws σ' H5 ⟨_,e5,s5,hD5⟩;rw[VH,ell,V1] at e5;subst e5;refine⟨p4,D2,M,s5 _ _ e4,hD5,small ?_,fun p6 h6=>?_⟩;{rw[VH,VH];show 1+ps.length<=1000;lia};generalize eH6:upd H5 p6 _=H6;obtain⟨g6,e6⟩:=aC eH6 h6;refine⟨p6,0::ps.map (owF ns),U,sqL e6,by simp,?_⟩;exact q H6 (g4.trans (s5.trans g6))
abbrev lF:Stmt:=top 73
def eX:aB ["_law_term_here","_law_found","_law_parts","_law_one"] Ya (aA lF):=bZ
def gC {d:Nat} (F:Fun K "_law_named" "_law_named" lF f fd) (B:Bt mg)
  (Rw:Df P w K mg base "_law_named" d Ya (jU d)):bh P w K mg base CX0 (d+1) f fd Ya (jU (d+1)):=by
 refine okA F eX fun H Q E hr h=>?_;obtain⟨v,n,t,rfl,rt,hd,h4,hn,q⟩:=h
 refine⟨_,(aj (ifR (aD bc (pxT K (pv 0) ao) aJ) (aV (a1 (pxT K (pv 0) ao))))
 (aj (ifR (fj (r:=rIn K false) dq (pxT K (pv 0) ao) (aU (aq aJ (a1 aJ))) U) (aR (r:=jZ K) d9 U B.list_ mj (a1 (pxT K (pv 0) ao))))
 (aj (sT 1 eX.nd (aV cL))
 (aj (bW Wv U (cH (j6 (r:=J5 K) Bl (pv 0) (jN ao) oJ)) (pgN 2 eX.nd) (aF (bW Wv U (cH (pv 2)) (pgN 3 eX.nd) (aF (sT 1 eX.nd (aN pQ (pv 1) (aM Rw hr (v1 3))))))))
 (sR (pv 1)))))),?_⟩
 have small':=qu hn h4 rt hd;cases rt with
 | @free a ha =>
  refine⟨O,a,Y,sqT ha,J,aZ bf ⟨O,a,Y,sqT ha,gt0,smN 2,fun p1 h1=>⟨p1,O,.inr (sqT aa),U,U,O,kO (by decide+kernel) ?_⟩⟩⟩;generalize eH1:upd H p1 _=H1;obtain⟨g1,_⟩:=aC eH1 h1;refine⟨smN 0,fun r h0=>?_⟩;generalize eH2:upd H1 r _=H2;obtain⟨g2,e2⟩:=aC eH2 h0;refine⟨R,a,O,sqT (g2 _ _ (g1 _ _ ha)),(by show ¬ (HT.sIx 1 0 (some 1)=0/\HT.sIx 1 1 none=1);decide),fun p3 h3=>?_⟩;have ec:wj [V.str "free"] (some 1) none=[]:=rfl;rw[ec];generalize eH3:upd H2 p3 _=H3;obtain⟨g3,e3⟩:=aC eH3 h3;refine⟨p3,U,⟨_,sqT e3⟩,dY (K:=K) (a:=p3) (xs:=[]) (fun _ σ H4=>σ=[oR a,oR r,none,none]/\H3=H4) ⟨U,U⟩ (fun i σ H4 _ h=>by obtain⟨_,rfl⟩:=h;exact sqT e3) (fun i x σ H4 hx=>by simp at hx) ?_⟩;rintro σ H4 ⟨rfl,rfl⟩;exact⟨O,q r H3 (g1.trans (g2.trans g3)) (g1.free h0) (by rw[g3 _ _ e2,mnF];rfl)⟩
 | @never a ha =>
  refine⟨O,a,Y,sqT ha,J,aZ bf ⟨O,a,Y,sqT ha,gt0,smN 2,fun p1 h1=>⟨p1,O,.inr (sqT aa),U,U,O,kO (by decide+kernel) ?_⟩⟩⟩;generalize eH1:upd H p1 _=H1;obtain⟨g1,_⟩:=aC eH1 h1;refine⟨smN 0,fun r h0=>?_⟩;generalize eH2:upd H1 r _=H2;obtain⟨g2,e2⟩:=aC eH2 h0;refine⟨R,a,O,sqT (g2 _ _ (g1 _ _ ha)),(by show ¬ (HT.sIx 1 0 (some 1)=0/\HT.sIx 1 1 none=1);decide),fun p3 h3=>?_⟩;have ec:wj [V.str "never"] (some 1) none=[]:=rfl;rw[ec];generalize eH3:upd H2 p3 _=H3;obtain⟨g3,e3⟩:=aC eH3 h3;refine⟨p3,U,⟨_,sqT e3⟩,dY (K:=K) (a:=p3) (xs:=[]) (fun _ σ H4=>σ=[oR a,oR r,none,none]/\H3=H4) ⟨U,U⟩ (fun i σ H4 _ h=>by obtain⟨_,rfl⟩:=h;exact sqT e3) (fun i x σ H4 hx=>by simp at hx) ?_⟩;rintro σ H4 ⟨rfl,rfl⟩;exact⟨O,q r H3 (g1.trans (g2.trans g3)) (g1.free h0) (by rw[g3 _ _ e2,mnF];rfl)⟩
 | @gives a i k ha hi k1 k9 =>
  exact⟨O,a,Y,sqT ha,J,gU U ⟨O,a,Y,sqT ha,gt1,smN 1,fun r h0=>q r _ (au h0 _) h0 (by rw[aa,mnF];rfl)⟩⟩
 | @sum a b c k ha hb hc hp l20 l2 k1 k99 =>
  refine⟨O,a,Y,sqT ha,J,aZ bf ⟨O,a,Y,sqT ha,gt0,smN 2,fun p1 h1=>⟨p1,O,.inr (sqT aa),U,U,O,Kw (by decide+kernel) ?_⟩⟩⟩;generalize eH1:upd H p1 _=H1;obtain⟨g1,_⟩:=aC eH1 h1;exact⟨O,a,Y,sqT (g1 _ _ ha),gt1,b,O,.inr (sqT (g1 _ _ hb)),fun r h0=>q r _ (g1.trans (au h0 _)) (g1.free h0) (by rw[aa,mnF])⟩
 | @crowd a b c k mm ha hb hc hp l20 l1 k1 k9 m1 m12 =>
  refine⟨O,a,Y,sqT ha,J,aZ bf ⟨O,a,Y,sqT ha,gt0,smN 2,fun p1 h1=>⟨p1,O,.inr (sqT aa),U,U,O,Kw (by decide+kernel) ?_⟩⟩⟩;generalize eH1:upd H p1 _=H1;obtain⟨g1,_⟩:=aC eH1 h1;exact⟨O,a,Y,sqT (g1 _ _ ha),gt1,b,O,.inr (sqT (g1 _ _ hb)),fun r h0=>q r _ (g1.trans (au h0 _)) (g1.free h0) (by rw[aa,mnF])⟩
 | @all a b us ts ha hb l2 l6 rl =>
  have hdl:tdL ts<=d:=by rw[Tm.dep] at hd;lia
  rw[mnF] at small';have el:=rl.length;refine⟨O,a,Y,sqT ha,J,aZ bf ⟨O,a,Y,sqT ha,gt0,smN 2,fun p1 h1=>⟨p1,O,.inr (sqT aa),U,U,O,kO (by decide+kernel) ?_⟩⟩⟩;generalize eH1:upd H p1 _=H1;obtain⟨g1,_⟩:=aC eH1 h1;refine⟨smN 0,fun r h0=>?_⟩;generalize eH2:upd H1 r _=H2;obtain⟨g2,e2⟩:=aC eH2 h0;refine⟨R,a,O,sqT (g2 _ _ (g1 _ _ ha)),(by show ¬ (HT.sIx 2 0 (some 1)=0/\HT.sIx 2 2 none=2);decide),fun p3 h3=>?_⟩;have ec:wj [V.str "all",.ref b] (some 1) none=[.ref b]:=rfl;rw[ec];generalize eH3:upd H2 p3 _=H3;obtain⟨g3,e3⟩:=aC eH3 h3;have s3:aG H H3:=g1.trans (g2.trans g3);refine⟨p3,U,⟨_,sqT e3⟩,dY (K:=K) (a:=p3) (xs:=[.ref b]) (fun i σ H4=>∃ (l:Addr) (u v:E8),σ=[oR a,oR l,u,v]/\aG H3 H4/\H l=none/\H4 l=some (.lst ((if i=0 then [] else mnL ts).map vN))) ⟨r,N,aG.refl _,g1.free h0,g3 _ _ e2⟩ (fun i σ H4 _ h=>by obtain⟨_,_,_,_,z,_⟩:=h;exact sqT (z _ _ e3)) ?_ ?_⟩
  ·rintro i x σ H4 hx ⟨l,u,v,rfl,s4,fl,el4⟩;have hi0:i=0:=by
    have:=(geS hx).1;simpa using this
   subst hi0;cases hx;rw[iPo U] at el4;have s04:aG H H4:=s3.trans s4;refine⟨O,b,U,⟨_,sqT (s04 _ _ hb)⟩,dY (K:=K) (a:=b) (xs:=us) (fun j σ H5=>∃ (l:Addr) (u:E8),σ=[oR a,oR l,oR b,u]/\aG H4 H5/\H l=none/\H5 l=some (.lst ((mnL (ts.take j)).map vN))) ⟨l,O,aG.refl _,fl,by rw[WD,mnL];exact el4⟩ (fun j σ H5 _ h=>by obtain⟨_,_,_,z,_⟩:=h;exact sqT (z _ _ (s04 _ _ hb))) ?_ ?_⟩
   ·rintro j y σ H5 hy ⟨l',u',rfl,s5,fl',el5⟩;obtain⟨t',ht,rt'⟩:=rl.get hy;have s05:aG H H5:=s04.trans s5;refine⟨R,y,n,t',U,rt'.mono s05,Wn (iw ht) hdl,by lia,hn,fun r' H6 s6 fr er=>?_⟩;have hlen:(mnL (ts.take j)).length+(mnF t').length<=2592:=by
     have h1:=FZ (ts:=ts) (j+1);rw[kh ht,V6] at h1;lia
    refine⟨l',r',M,s6 _ _ el5,er,by rw[VH,VH];exact Wn hlen (by decide),fun p h=>?_⟩;have sn:=au h (.lst ((mnL (ts.take j)).map vN++(mnF t').map vN));exact⟨p,O,s5.trans (s6.trans sn),(s05.trans s6).free h,by rw[aa,kh ht,VV]⟩
   ·rintro σ H5 ⟨l',u',rfl,s5,fl',el5⟩;rw[el,V1] at el5;exact⟨l',N,s4.trans s5,fl',by rw[iNe (by decide)];exact el5⟩
  ·rintro σ H4 ⟨l,u,v,rfl,s4,fl,el4⟩;exact⟨O,q l H4 (s3.trans s4) fl (by rw[el4,mnF];rfl)⟩
 | @any a b us ts ha hb l2 l6 rl =>
  have hdl:tdL ts<=d:=by rw[Tm.dep] at hd;lia
  rw[mnF] at small';have el:=rl.length;refine⟨O,a,Y,sqT ha,J,aZ bf ⟨O,a,Y,sqT ha,gt0,smN 2,fun p1 h1=>⟨p1,O,.inr (sqT aa),U,U,O,kO (by decide+kernel) ?_⟩⟩⟩;generalize eH1:upd H p1 _=H1;obtain⟨g1,_⟩:=aC eH1 h1;refine⟨smN 0,fun r h0=>?_⟩;generalize eH2:upd H1 r _=H2;obtain⟨g2,e2⟩:=aC eH2 h0;refine⟨R,a,O,sqT (g2 _ _ (g1 _ _ ha)),(by show ¬ (HT.sIx 2 0 (some 1)=0/\HT.sIx 2 2 none=2);decide),fun p3 h3=>?_⟩;have ec:wj [V.str "any",.ref b] (some 1) none=[.ref b]:=rfl;rw[ec];generalize eH3:upd H2 p3 _=H3;obtain⟨g3,e3⟩:=aC eH3 h3;have s3:aG H H3:=g1.trans (g2.trans g3);refine⟨p3,U,⟨_,sqT e3⟩,dY (K:=K) (a:=p3) (xs:=[.ref b]) (fun i σ H4=>∃ (l:Addr) (u v:E8),σ=[oR a,oR l,u,v]/\aG H3 H4/\H l=none/\H4 l=some (.lst ((if i=0 then [] else mnL ts).map vN))) ⟨r,N,aG.refl _,g1.free h0,g3 _ _ e2⟩ (fun i σ H4 _ h=>by obtain⟨_,_,_,_,z,_⟩:=h;exact sqT (z _ _ e3)) ?_ ?_⟩
  ·rintro i x σ H4 hx ⟨l,u,v,rfl,s4,fl,el4⟩;have hi0:i=0:=by
    have:=(geS hx).1;simpa using this
   subst hi0;cases hx;rw[iPo U] at el4;have s04:aG H H4:=s3.trans s4;refine⟨O,b,U,⟨_,sqT (s04 _ _ hb)⟩,dY (K:=K) (a:=b) (xs:=us) (fun j σ H5=>∃ (l:Addr) (u:E8),σ=[oR a,oR l,oR b,u]/\aG H4 H5/\H l=none/\H5 l=some (.lst ((mnL (ts.take j)).map vN))) ⟨l,O,aG.refl _,fl,by rw[WD,mnL];exact el4⟩ (fun j σ H5 _ h=>by obtain⟨_,_,_,z,_⟩:=h;exact sqT (z _ _ (s04 _ _ hb))) ?_ ?_⟩
   ·rintro j y σ H5 hy ⟨l',u',rfl,s5,fl',el5⟩;obtain⟨t',ht,rt'⟩:=rl.get hy;have s05:aG H H5:=s04.trans s5;refine⟨R,y,n,t',U,rt'.mono s05,Wn (iw ht) hdl,by lia,hn,fun r' H6 s6 fr er=>?_⟩;have hlen:(mnL (ts.take j)).length+(mnF t').length<=2592:=by
     have h1:=FZ (ts:=ts) (j+1);rw[kh ht,V6] at h1;lia
    refine⟨l',r',M,s6 _ _ el5,er,by rw[VH,VH];exact Wn hlen (by decide),fun p h=>?_⟩;have sn:=au h (.lst ((mnL (ts.take j)).map vN++(mnF t').map vN));exact⟨p,O,s5.trans (s6.trans sn),(s05.trans s6).free h,by rw[aa,kh ht,VV]⟩
   ·rintro σ H5 ⟨l',u',rfl,s5,fl',el5⟩;rw[el,V1] at el5;exact⟨l',N,s4.trans s5,fl',by rw[iNe (by decide)];exact el5⟩
  ·rintro σ H4 ⟨l,u,v,rfl,s4,fl,el4⟩;exact⟨O,q l H4 (s3.trans s4) fl (by rw[el4,mnF];rfl)⟩
abbrev Ent:=Nat × Nat × Pl
inductive cG (n:Nat)(H:Hp):Fk->List Ent->Prop where
 | nil:cG n H [] []
 | cons {e p:Addr} {num one:Nat} {pl:Pl} {us:Fk} {es:List Ent}:H e=some (.tup [vN num,vN one,.ref p])->mH n H p pl->cG n H us es->cG n H (.ref e::us) ((num,one,pl)::es)
theorem cG.aO {n:Nat}{H H':Hp}(e:∀ a xs,H a=some (HO.tup xs)->H' a=some (HO.tup xs)):∀ {us:Fk} {es:List Ent},cG n H us es->cG n H' us es
 | _,_,.nil=>.nil
 | _,_,.cons h p r=>.cons (e _ _ h) (p.aO e) (cG.aO e r)
theorem cG.length {n:Nat}{H:Hp}:∀ {us:Fk} {es:List Ent},cG n H us es->us.length=es.length
 | _,_,.nil=>rfl
 | _,_,.cons _ _ r=>by rw[Wc,Wc,cG.length r]
theorem cG.get {n:Nat}{H:Hp}:∀ {us:Fk} {es:List Ent} {i:Nat} {u:V},cG n H us es->us[i]? = some u->∃ (e p:Addr) (num one:Nat) (pl:Pl),u = .ref e/\es[i]? = some (num,one,pl)/\H e=some (.tup [vN num,vN one,.ref p])/\mH n H p pl
 | _,_,_,_,.nil,h=>by simp at h
 | _,_,0,_,.cons h p _,e=>by
  cases (show some _=some _ from e);exact⟨_,_,Y,h,p⟩
 | _,_,i+1,_,.cons _ _ r,e=>by
  obtain⟨a,p,x,y,z,h1,h2,h3⟩:=cG.get (i:=i) r (by simpa using e);exact⟨a,p,x,y,z,h1,by simpa using h2,h3⟩
theorem cG.snoc {n:Nat}{H:Hp}{e p:Addr}{num one:Nat}{pl:Pl}(h:H e=some (.tup [vN num,vN one,.ref p]))(hp:mH n H p pl):∀ {us:Fk} {es:List Ent},cG n H us es->cG n H (us++[.ref e]) (es++[(num,one,pl)])
 | _,_,.nil=>.cons h hp .nil
 | _,_,.cons a b r=>.cons a b (cG.snoc h hp r)
def Ks (CS:Addr)(H H':Hp):Prop:=(∀ a xs,H a=some (HO.tup xs)->H' a=some (HO.tup xs))/\∀ a dx fs,H a=some (HO.ins CS dx fs)->H' a=some (HO.ins CS dx fs)
def ksS {CS:Addr}{H H':Hp}(s:aG H H'):Ks CS H H':=⟨fun a xs h=>s a _ h,fun a dx fs h=>s a _ h⟩
def stF (ga goa sa:Addr)(co:Nat):E7:=[("green",.ref ga),("gone",.ref goa),("standing",.ref sa),("coming",vN co)]
def fH (CS:Addr)(n:Nat)(H:Hp)(a:Addr)(g:DU)(go:DV)(es:List Ent)(co:Nat):Prop :=
 ∃ (dx ga goa sa:Addr) (us:Fk),H a=some (.ins CS dx (stF ga goa sa co))/\H ga=some (.tup (g.map V.int))/\H goa=some (.tup (go.map vN))/\H sa=some (.tup us)/\cG n H us es
def fH.ks {CS:Addr}{n:Nat}{H H':Hp}{a:Addr}{g:DU}{go:DV}{es:List Ent}{co:Nat}(k:Ks CS H H')(h:fH CS n H a g go es co):fH CS n H' a g go es co:=by
 obtain⟨dx,ga,goa,sa,us,h1,h2,h3,h4,h5⟩:=h;exact⟨dx,ga,goa,sa,us,k.2 _ _ _ h1,k.1 _ _ h2,k.1 _ _ h3,k.1 _ _ h4,h5.aO k.1⟩
def bnF (nw be ah:Addr):E7:=[("now",.ref nw),("behind",.ref be),("ahead",.ref ah)]
def kW (CS CB:Addr)(n:Nat)(H:Hp)(b be:Addr)(d:Nat)(g:DU)(go:DV)(es:List Ent)(co:Nat):Prop :=
 ∃ (dx nw ah:Addr) (xs:Fk),H b=some (.ins CB dx (bnF nw be ah))/\H be=some (.lst xs)/\xs.length=d/\fH CS n H nw g go es co
def But (b be:Addr)(H H':Hp):Prop:=∀ a o,a≠b->a≠be->H a=some o->H' a=some o
def But.ks {CS CB b be dx:Addr}{fs:E7}{xs:Fk}{H H':Hp}(h:But b be H H')(ne:CB≠CS)(hb:H b=some (.ins CB dx fs))(hl:H be=some (.lst xs)):Ks CS H H':=by
 refine⟨fun a ys q=>h a _ (fun z=>?_) (fun z=>?_) q,fun a dx' fs' q=>h a _ (fun z=>?_) (fun z=>?_) q⟩;{rw[z,hb] at q;cases q};{rw[z,hl] at q;cases q};{rw[z,hb] at q;injection q with q;injection q with q1;exact ne q1};{rw[z,hl] at q;cases q}
def JH {b be:Addr}{H H':Hp}(s:aG H H'):But b be H H':=fun a o _ _ q=>s a o q
def But.trans {b be:Addr}{H H1 H2:Hp}(h:But b be H H1)(k:But b be H1 H2):But b be H H2:=fun a o x y q=>k a o x y (h a o x y q)
def kW.same {CS CB:Addr}{n:Nat}{H H':Hp}{b be:Addr}{d:Nat}{g:DU}{go:DV}{es:List Ent}{co:Nat}(s:aG H H')(h:kW CS CB n H b be d g go es co):kW CS CB n H' b be d g go es co:=by
 obtain⟨dx,nw,ah,xs,h1,h2,h3,h4⟩:=h;exact⟨dx,nw,ah,xs,s _ _ h1,s _ _ h2,h3,h4.ks (ksS s)⟩
structure wN (K:Ww)(CS:Addr):Prop where
 cl:Cls K CS
 green:iQ K CS "green"
 gone:iQ K CS "gone"
 standing:iQ K CS "standing"
 coming:iQ K CS "coming"
structure yO (K:Ww)(CB:Addr):Prop where
 cl:Cls K CB
 now:iQ K CB "now"
 behind:iQ K CB "behind"
 ahead:iQ K CB "ahead"
abbrev jY:Stmt:=inClass (top 38) 0
def ou:aB VX VX (aA jY):=bZ
inductive gJ (CS:Addr)(vs:Fk)(H:Hp)(Q:VK)(e3:XK):Prop where
 | mk (x dx:Addr) (g go sd co:V) (_:vs=[.ref x,g,go,sd,co]) (_:H x=some (.ins CS dx [])) (_:Q .non (upd H x (.ins CS dx [("green",g),("gone",go),("standing",sd),("coming",co)])))
def v8 {CS:Addr} (F:Fun K "__init__" "Stand.__init__" jY f fd) (S:wN K CS):bh P w K mg base CX0 1 f fd VX (gJ CS):=by
 refine okA F ou fun H Q E hr h=>?_;obtain⟨x,dx,g,go,sd,co,rfl,hx,q⟩:=h
 refine⟨_,(aj (jJ (pv 0) (pv 1) U)
 (aj (jJ (pv 0) (pv 2) U)
 (aj (jJ (pv 0) (pv 3) U)
 (aF (jJ (pv 0) (pv 4) U))))),?_⟩
 refine⟨R,x,CS,dx,O,hx,S.cl,S.green,by show 0 < 1000;decide,?_⟩;refine⟨R,x,CS,dx,O,aa,S.cl,S.gone,by show 1 < 1000;decide,?_⟩;refine⟨R,x,CS,dx,O,aa,S.cl,S.standing,by show 2 < 1000;decide,?_⟩;refine⟨R,x,CS,dx,O,aa,S.cl,S.coming,by show 3 < 1000;decide,?_⟩;rw[uQ,uQ,uQ];exact q
abbrev lR:Stmt:=inClass (top 45) 0
def qj:aB ZO ZO (aA lR):=bZ
abbrev jO:Stmt:=inClass (top 45) 1
def vJ:aB YR YR (aA jO):=bZ
def Tt {K:Ww}{H:Hp}{a b:Addr}{xs ys:Fk}{Q:VK}(ha:H a=some (.tup xs))(hb:H b=some (.tup ys))(hl:xs.length+ys.length<=1000)(q:∀ (p:Addr) (H':Hp),aG H H'->H' p=some (.tup (xs++ys))->Q (.ref p) H'):jK K (.ref a) (.ref b) H Q:=by
 refine⟨a,b,xs,ys,U,U,sqT ha,sqT hb,small hl,fun e=>?_,fun _ e=>?_,fun _ _ p hp=>q p _ (au hp _) aa⟩;{subst e;exact q b H (aG.refl _) hb};{subst e;exact q a H (aG.refl _) (by rw[Xy];exact ha)}
def j9 {CS x dx:Addr} {H:Hp} {g go sd co:V} {Q:VK} {E:XK} (hx:H x=none) (hdx:H dx=none) (hne:dx≠x) (q:∀ H',aG H H'->H' x=some (.ins CS dx [("green",g),("gone",go),("standing",sd),("coming",co)])->Q .non H') :
  gJ CS [.ref x,g,go,sd,co] (upd (upd H dx (.own x)) x (.ins CS dx [])) Q E:=by
 refine⟨x,dx,g,go,sd,co,U,aa,?_⟩;rw[uQ];exact q _ ((au hdx _).trans (au (by rw[aL hne.symm];exact hx) _)) aa
abbrev lE:Stmt:=inClass (top 45) 2
def pI:aB ["self","now"] ZO (aA lE):=bZ
theorem jl (x:Nat):∀ c:DV,inV (.int (x:Int)) (c.map vN)=decide (x∈c)
 | []=>rfl
 | y::c=>by
  have ih:=jl x c;unfold inV at ih ⊢;rw[WR,Zz,ih];by_cases e:x=y;{subst e;rw[dcT V0];simp [vN,eqV]}
  ·have:eqV (vN y) (.int (x:Int))=false:=by
    simp [vN,eqV];lia
   rw[this,abl];exact decide_eq_decide.mpr (by simp [e])
def iG (c:DV):(c.map vN).all t6=true:=by
 rw[acA,List.all_eq_true];intro x _;rfl
mutual
theorem Od {one:Nat}:∀ t:Tm,nn one t=true->one ∉ mnF t
 | .free,_=>by simp [mnF]
 | .never,_=>by simp [mnF]
 | .gives i k,h=>by
  have:=of_decide_eq_true (show decide (i≠one)=true by simpa [nn] using h);simp only[mnF];exact fun z=>this (List.mem_singleton.mp z).symm
 | .sum c k,h=>by simpa [nn,mnF] using h
 | .crowd c k m,h=>by simpa [nn,mnF] using h
 | .all ts,h=>by
  simp only[mnF];exact Gq ts (by simpa [nn] using h)
 | .any ts,h=>by
  simp only[mnF];exact Gq ts (by simpa [nn] using h)
theorem Gq {one:Nat}:∀ ts:List Tm,nnL one ts=true->one ∉ mnL ts
 | [],_=>by simp [mnL]
 | t::r,h=>by
  have h':nn one t=true/\nnL one r=true:=by simpa [nnL] using h
  rw[mnL,aaO];rintro (z | z);{exact Od t h'.1 z};{exact Gq r h'.2 z}
end
theorem Ra {n:Nat}{H:Hp}:∀ {us:Fk} {p:Pl},dF n H us p->(∀ x∈p,x.2.dep<=4)->mJ n H us (p.map fun x=>Rg.rung x.1 x.2)
 | _,_,.nil,_=>.nil
 | _,_,.cons h t r,d=>.cons (.rung h t (d _ V0)) (Ra r fun x hx=>d x (V7 _ hx))
theorem M7 {n who:Nat}{H:Hp}:∀ {us:Fk} {p:Pl} {lo:Int},dF n H us p->(p.map (·.1)).Pairwise (· < ·)->(∀ x∈p,lo<=x.1/\x.1<=9)->(∀ x∈p,nn who x.2=true)->plF n who lo (p.map fun x=>Rg.rung x.1 x.2)=true
 | _,_,_,.nil,_,_,_=>rfl
 | _,_,lo,.cons (k:=k) (t:=t) (ps:=ps) h tr r,pw,hb,hn=>by
  rw[WR,Yl] at pw;show (rgF n who lo (.rung k t) && plF n who (k+1) (ps.map fun x=>Rg.rung x.1 x.2))=true;have h1:=hb (k,t) V0;have h2:=Od t (hn (k,t) V0);rw[Xl];refine⟨?_,M7 r pw.2 (fun x hx=>⟨?_,(hb x (V7 _ hx)).2⟩) fun x hx=>hn x (V7 _ hx)⟩;{show ((decide (lo<=k) && decide (k<=9)) && (ltF n (mnF t) && !decide (who∈mnF t)))=true;rw[dcT h1.1,dcT h1.2,G7.mpr (JQ tr),dcF h2];rfl};{have:=pw.1 x.1 (ab3 hx);lia}
def Pz {n who:Nat}{H:Hp}{us:Fk}{p:Pl}(ok:okP p)(r:dF n H us p)(hn:∀ x∈p,nn who x.2=true):QW n who (p.map fun x=>Rg.rung x.1 x.2)=true:=by
 obtain⟨h1,h2,h3,h4⟩:=ok;have l:1<=p.length:=by
  cases p with
  | nil=>exact absurd U h1
  | cons _ _=>rw[Wc];lia
 unfold QW;rw[VH,dcT l,dcT h2,M7 r h3 (fun x hx=>⟨(h4 x hx).1,(h4 x hx).2.1⟩) hn];rfl
abbrev fL:Stmt:=top 39
abbrev gY:Stmt:=top 42
def kZ:aB Zs Zs (aA fL):=bZ
def rF:aB XV XV (aA gY):=bZ
inductive Gi (CS:Addr)(vs:Fk)(H:Hp)(Q:VK)(e3:XK):Prop where
 | mk (st:Addr) (one n co:Nat) (g:DU) (go:DV) (es:List Ent) (_:vs=[.ref st,vN one]) (_:fH CS n H st g go es co) (_:one < g.length) (_:one ∉ go) (_:Q .non H)
def tU {CS:Addr} (F:Fun K "check_there" "check_there" fL f fd) (B:Bt mg) (S:wN K CS) (PV:Df P w K mg base "is_number" 1 XZ gR) :
  bh P w K mg base CX0 2 f fd Zs (Gi CS):=by
 refine okA F kZ fun H Q E hr h=>?_;obtain⟨st,one,n,co,g,go,es,rfl,⟨dx,ga,goa,sa,us,hs,hga,hgo,hsa,hes⟩,lo,hg,q⟩:=h
 refine⟨_,(aj (cP (dM (cu (aM PV hr (aq (pv 1) (aq ao (a1 (aN eQ (pln K B.len_ (pfd K 0)) ao))))))) (aF qG) aX)
 (aF (cP (fj (r:=rIn K false) dq (pv 1) (pfd K 0) U) (aF qG) aX))),?_⟩
 refine bO (fun σ H1=>σ=[oR st,some (vN one)]/\H1=H) ?_ ?_
 ·intro N Rc;refine⟨R,st,CS,dx,N,hs,S.cl,S.green,U,ga,O,.inr (sqT hga),M,vN one,0,O,.int _,O,?_⟩
  rw[show isNum (vN one) 0 ((((g.map V.int).length:Nat):Int) - 1)=true by
   show (decide ((0:Int)<=(one:Int)) && decide ((one:Int)<=(((g.map V.int).length:Nat):Int) - 1))=true;rw[VH,dcT (by lia),dcT (by lia)]
   rfl]
  exact bU (Rc _ _ ⟨U,U⟩)
 rintro σ H1 ⟨rfl,rfl⟩;refine⟨R,st,CS,dx,N,hs,S.cl,S.gone,U,goa,O,.inr (sqT hgo),U,iG go,O,?_⟩;have e:inV (vN one) (go.map vN)=false:=by
  rw[show vN one=V.int (one:Int) from U,jl];exact dcF hg
 rw[iNe (show ¬ false=true from VR),e];exact bU q
abbrev jz:Stmt:=inClass (top 45) 4
def lB:aB ["self","one","pledge","now"] XY (aA jz):=bZ
abbrev rG:Stmt:=top 40
def Ej:aB WV WV (aA rG):=bZ
def owL (es:List Ent)(one:Nat)(g:DU):DU:=(es.filter fun e=>decide (e.2.1=one)).map fun e=>owF g e.2.2
def Lg {es:List Ent}{one:Nat}{g:DU}{e:Ent}:owL (es++[e]) one g=owL es one g++if e.2.1=one then [owF g e.2.2] else []:=by
 unfold owL;rw[YX,VV];congr 1;by_cases h:e.2.1=one;{rw[iPo h,Yo (by exact dcT h)];rfl};{rw[iNe h,Yp (by rw[dcF h];exact VR)];rfl}
inductive qx (vs:Fk)(H:Hp)(Q:VK)(e3:XK):Prop where
 | mk (sa ga:Addr) (one n:Nat) (us:Fk) (es:List Ent) (g:DU) (_:vs=[.ref sa,vN one,.ref ga]) (_:H sa=some (.tup us)) (_:cG n H us es) (_:es.length<=100) (_:H ga=some (.tup (g.map V.int))) (_:g.length=n) (_:∀ H',aG H H'->Q (.int (mxD 0 (owL es one g))) H')
def Dy {k:Nat} (F:Fun K "owed_of" "owed_of" rG f fd) (B:Bt mg) (SA:Df P w K mg base "owes" k X2 (xQ K)) :
  bh P w K mg base CX0 (k+1) f fd WV qx:=by
 refine okA F Ej fun H Q E hr h=>?_;obtain⟨sa,ga,one,n,us,es,g,rfl,hsa,hes,l100,hga,lg,q⟩:=h;refine⟨_,(sR (Gw U U B.max_ (a1 (bC (L:=["number","other","pledge"]) (F:=["giving","one"]) (cap:=[2,1]) U (aY U U (by kernel_rfl)) (cH (pv 0)) (fun _ _ _ _ _=>(c7 (K:=K) 3 U U (aP (pgC 0) (aP (pgC 1) (aP (pgC 2) cY))))) (fun _ _ _ _ _=>(jk (aD bc (pv 1) (pv 4)))) (fun _ _ _ _ _=>(aM SA hr (v2 2 3))))))),?_⟩;have les:=hes.length
 refine⟨O,sa,U,⟨_,sqT hsa⟩,fun D hD=>cj (K:=K) (a:=sa) (xs:=us) (fun i zs σ' H2=>(∃ u v w,σ'=[u,v,w,oR ga,some (vN one)])/\aG H H2/\H2 D=some (.lst zs)/\zs=(owL (es.take i) one g).map V.int)
  ⟨⟨_,N⟩,au hD _,aa,by rw[WD];rfl⟩ (fun i zs σ' H2 _ h=>⟨sqT (h.2.1 _ _ hsa),h.2.2.1⟩) ?_ ?_⟩
 ·rintro i zs x σ' H2 hx ⟨⟨u,v,w,rfl⟩,sm,eD,rfl⟩;obtain⟨e,p,num,o2,pl,rfl,he,hent,hpr⟩:=hes.get hx;have nx:owL (es.take (i+1)) one g=owL (es.take i) one g++if o2=one then [owF g pl] else []:=by
   rw[Wj,he];exact Lg
  have ll:(owL (es.take i) one g).length<=100:=by
   unfold owL;rw[VH];refine Wn (WW _ _) ?_;rw[Wa];lia
  refine⟨e,O,sqT (sm _ _ hent),U,N,N,M,R,U,O,?_⟩;by_cases z:o2=one;{rw[dcT (show vN o2=vN one by rw[z])];refine dh ⟨R,p,ga,n,pl,g,U,hpr.aO (fun a xs q=>sm a _ q),sqT (sm _ _ hga),by lia,fun H3 s3=>?_⟩;refine⟨s3 _ _ eD,aH (by rw[VH];lia),⟨_,N⟩,aK (sm.trans s3) hD _,aa,?_⟩;rw[nx,iPo z,VV];rfl};{rw[dcF (show ¬ vN o2=vN one from fun y=>z (by injection y with y;lia))];refine bU ⟨⟨_,N⟩,sm,eD,?_⟩;rw[nx,iNe z,Xy]}
 ·rintro zs σ' H2 ⟨_,sm,eD,rfl⟩;rw[les,V1] at eD;exact⟨D,O,sqL eD,q H2 sm⟩
theorem cG.ok {n:Nat}{H:Hp}:∀ {us:Fk} {es:List Ent},cG n H us es->∀ e∈es,okP e.2.2
 | _,_,.nil,e,h=>by cases h
 | _,_,.cons _ p r,e,h=>by
  rcases List.mem_cons.mp h with z | z;{rw[z];exact p.1};{exact cG.ok r e z}
def cG.Uy {n:Nat}{p:Ent->Bool}{e:Ent}{es:List Ent}{i:Nat}(h:es[i]? = some e):(es.take (i+1)).filter p=(es.take i).filter p++if p e=true then [e] else []:=by
 rw[Wj,h,YX];congr 1;show List.filter p [e]=_;by_cases z:p e=true;{rw[iPo z,Yo z];rfl};{rw[iNe z,Yp z];rfl}
def stT {H H1:Hp}{a:Addr}{xs:Fk}(s:Ke H H1)(h:H a=some (.tup xs)):H1 a=some (.tup xs):=s a (.tup xs) (fun _ z=>nomatch z) h
def stL {H H1:Hp}{a:Addr}{xs:Fk}(s:Ke H H1)(h:H a=some (.lst xs)):H1 a=some (.lst xs):=s a (.lst xs) (fun _ z=>nomatch z) h
def thrown.mono {C:Addr}{w:Wt}{H H1:Hp}{E:XK}(s:aG H H1)(h:thrown C w H E):thrown C w H1 E:=fun dx H2 s2 e=>h dx H2 (s.trans s2) e
inductive nq (CS CN CG:Addr)(vs:Fk)(H:Hp)(Q:VK)(E:XK):Prop where
 | mk (st:Addr) (one:Int) (n co:Nat) (g:DU) (go:DV) (es:List Ent) (_:vs=[.ref st,.int one]) (_:fH CS n H st g go es co) (_:((one < 0∨(g.length:Int)<=one)->thrown CN "no folk" H E)) (_:(∀ i:Nat,one=i->i < g.length->i∈go->thrown CG "gone" H E)) (_:(∀ i:Nat,one=i->i < g.length->i ∉ go->Q .non H))
def qe {CS CN CG:Addr} (F:Fun K "check_there" "check_there" fL f fd) (B:Bt mg) (S:wN K CS) (PV:Df P w K mg base "is_number" 1 XZ gR)
  (Tk:Xc P w K mg base "NoFolk" CN "no folk") (Tb:Xc P w K mg base "Gone" CG "gone"):bh P w K mg base (XL P w) 4 f fd Zs (nq CS CN CG):=by
 refine Fo F kZ fun H Q E hr h=>?_;obtain⟨st,one,n,co,g,go,es,rfl,⟨dx,ga,goa,sa,us,hs,hga,hgo,hsa,hes⟩,hN,hG,q⟩:=h
 refine⟨_,(aj (cP (dM (cu (aM PV hr (aq (pv 1) (aq ao (a1 (aN eQ (pln K B.len_ (pfd K 0)) ao))))))) (aF (eN Tk hr U dz)) aX)
 (aF (cP (fj (r:=rIn K false) dq (pv 1) (pfd K 0) U) (aF (eN Tb hr U dz)) aX))),?_⟩
 refine bO (fun σ H1=>∃ i:Nat,one=i/\i < g.length/\σ=[oR st,some (vN i)]/\H1=H) ?_ ?_
 ·intro N Rc;refine⟨R,st,CS,dx,N,hs,S.cl,S.green,U,ga,O,.inr (sqT hga),M,.int one,0,O,.int _,O,?_⟩;by_cases hz:0<=one/\one < g.length
  ·rw[show isNum (.int one) 0 ((((g.map V.int).length:Nat):Int) - 1)=true by
    show (decide ((0:Int)<=one) && decide (one<=(((g.map V.int).length:Nat):Int) - 1))=true;rw[VH,dcT (by lia),dcT (by lia)]
    rfl]
   refine bU (Rc _ _ ⟨one.toNat,by lia,by lia,?_,U⟩);show[some (V.ref st),some (V.int one)]=[some (.ref st),some (.int (one.toNat:Int))];rw[Int.toNat_of_nonneg hz.1]
  ·rw[show isNum (.int one) 0 ((((g.map V.int).length:Nat):Int) - 1)=false by
    show (decide ((0:Int)<=one) && decide (one<=(((g.map V.int).length:Nat):Int) - 1))=false;rw[VH];by_cases h0:0<=one;{rw[dcF (show ¬ one<=(g.length:Int) - 1 by lia),aaw]}
    ·rw[dcF h0,Z1]]
   exact dh (hN (by lia))
 rintro σ H1 ⟨i,rfl,hi,rfl,rfl⟩;refine⟨R,st,CS,dx,N,hs,S.cl,S.gone,U,goa,O,.inr (sqT hgo),U,iG go,O,?_⟩;have e:inV (vN i) (go.map vN)=decide (i∈go):=by
  rw[show vN i=V.int (i:Int) from U,jl]
 rw[iNe (show ¬ false=true from VR),e];by_cases z:i∈go;{rw[dcT z];exact dh (hG i U hi z)};{rw[dcF z];exact bU (q i U hi z)}
mutual
theorem O2 {one:Nat}:∀ t:Tm,one ∉ mnF t->nn one t=true
 | .free,_=>by simp [nn]
 | .never,_=>by simp [nn]
 | .gives i k,h=>by
  simp only[mnF] at h;simp only[nn];exact dcT fun z=>h (by rw[z];exact List.mem_singleton.mpr U)
 | .sum c k,h=>by simpa [nn,mnF] using h
 | .crowd c k m,h=>by simpa [nn,mnF] using h
 | .all ts,h=>by
  simp only[mnF] at h;simp only[nn];exact FN ts h
 | .any ts,h=>by
  simp only[mnF] at h;simp only[nn];exact FN ts h
theorem FN {one:Nat}:∀ ts:List Tm,one ∉ mnL ts->nnL one ts=true
 | [],_=>by simp [nnL]
 | t::r,h=>by
  rw[mnL,aaO,not_or] at h;rw[nnL,O2 t h.1,FN r h.2];rfl
end
theorem Gm {n who:Nat}{x:Int × Tm}:∀ {p:Pl} {lo:Int},x∈p->nn who x.2=false->plF n who lo (p.map fun x=>Rg.rung x.1 x.2)=false
 | [],_,h,_=>by cases h
 | y::r,lo,h,e=>by
  show (rgF n who lo (.rung y.1 y.2) && plF n who (y.1+1) (r.map fun x=>Rg.rung x.1 x.2))=false;rcases List.mem_cons.mp h with z | z
  ·have hm:who∈mnF y.2:=Classical.byContradiction fun q=>by
    rw[← z,O2 x.2 (by rw[z];exact q)] at *;cases e
   show (((decide (lo<=y.1) && decide (y.1<=9)) && (ltF n (mnF y.2) && !decide (who∈mnF y.2))) && _)=false;rw[dcT hm];simp
  ·rw[Gm z e,aaw]
def Q0 {n who:Nat}{x:Int × Tm}{p:Pl}(h:x∈p)(e:nn who x.2=false):QW n who (p.map fun x=>Rg.rung x.1 x.2)=false:=by
 unfold QW;rw[Gm h e,aaw]
inductive Bb (CS CP:Addr)(vs:Fk)(H:Hp)(Q:VK)(E:XK):Prop where
 | mk (st p:Addr) (one n co:Nat) (g:DU) (go:DV) (es:List Ent) (pl:Pl) (_:vs=[.ref st,vN one,.ref p]) (_:fH CS n H st g go es co) (_:g.length=n) (_:1<=n) (_:n<=12) (_:mH n H p pl) (_:((∃ x∈pl,nn one x.2=false)->thrown CP "bad pledge" H E)) (_:((∀ x∈pl,nn one x.2=true)->∀ H',aG H H'->Q .non H'))
def nU {CS CP:Addr} {k:Nat} (hk:3<=k) (F:Fun K "check_pledge" "check_pledge" gY f fd) (B:Bt mg) (S:wN K CS) (PY:Df P w K mg base "is_pledge" k X0 uK)
  (S2:Xc P w K mg base "BadPledge" CP "bad pledge"):bh P w K mg base (XL P w) (k+1) f fd XV (Bb CS CP):=by
 refine Fo F rF fun H Q E hr h=>?_;obtain⟨st,p,one,n,co,g,go,es,pl,rfl,⟨dx,ga,goa,sa,us,hs,hga,hgo,hsa,hes⟩,lg,n1,n12,⟨okp,vs0,hp,rv⟩,hbad,q⟩:=h;refine⟨_,(aF (cP (dM (cu (aM PY hr (aq (pln K B.len_ (pfd K 0)) (v2 1 2))))) (aF (eN S2 hr U dz (hk:=hk))) aX)),?_⟩;have lv:=rv.length;have p9:=okp.2.1;refine⟨O,st,CS,dx,N,hs,S.cl,S.green,U,ga,O,.inr (sqT hga),R,p,vs0,_,n,n,one,?_,hp,Ra rv fun x hx=>(okp.2.2.2 x hx).2.2,n12,by lia,n1,fun H1 s1=>?_⟩;{show[V.int (((g.map V.int).length:Nat):Int),vN one,V.ref p]=_;rw[VH,lg];rfl}
 ·by_cases hn:∀ x∈pl,nn one x.2=true;{rw[Pz okp rv hn];exact⟨O,bU (q hn H1 s1)⟩}
  ·obtain⟨x,hx,e⟩:∃ x∈pl,nn one x.2=false:=Classical.byContradiction fun z=>hn fun x hx=>by
    cases e:nn one x.2 with
    | true=>rfl
    | false=>exact absurd ⟨x,hx,e⟩ z
   rw[Q0 hx e];exact⟨O,dh ((hbad ⟨x,hx,e⟩).mono s1)⟩
theorem yD:∀ (n:Nat) (go:DV),go.Nodup->(∀ x∈go,x < n)->go.length<=n
 | 0,go,_,h=>by
  cases go with
  | nil=>exact VP _
  | cons a r=>exact absurd (h a V0) (aaj _)
 | n+1,go,nd,h=>by
  have:=yD n (go.filter fun x=>decide (x≠n)) (nd.filter _) fun x hx=>by
   have h1:=List.mem_filter.mp hx;have h2:=h x h1.1;have h3:x≠n:=of_decide_eq_true h1.2;lia
  have c:=List.length_eq_countP_add_countP (p:=fun x=>decide (x≠n)) (l:=go);rw[List.countP_eq_length_filter] at c;have c2:List.countP (fun a=>decide ¬decide (a≠n)=true) go<=1:=by
   have:=List.nodup_iff_count.mp nd n;refine Wn (Nat.le_of_eq ?_) this;unfold List.count;congr 1;funext x;by_cases z:x=n <;> simp [z]
  lia
def mQ {T:TT}{a b:TS}{D:Ends}{σ:St}{H:Hp}(R:Bool->Hp->Prop)(hT:∀ Q:Bool->Hp->Prop,(∀ c H1,R c H1->Q c H1)->T σ H Q)(ha:∀ H1,R true H1->a D σ H1)(hb:∀ H1,R false H1->b D σ H1):JK T a b D σ H:=by
 refine hT _ fun c H1 r=>?_;cases c;{exact hb _ r};{exact ha _ r}
mutual
theorem jx.le {n m:Nat}{H:Hp}(h:n<=m):∀ {v:V} {t:Tm},jx n H v t->jx m H v t
 | _,_,.free e=>.free e
 | _,_,.never e=>.never e
 | _,_,.gives e a b c=>.gives e (V4 a h) b c
 | _,_,.sum e e2 a b c d f g=>.sum e e2 (fun i hi=>V4 (a i hi) h) b c d f g
 | _,_,.crowd e e2 a b c d f g i j=>.crowd e e2 (fun i hi=>V4 (a i hi) h) b c d f g i j
 | _,_,.all e e2 a b r=>.all e e2 a b (cJ.le h r)
 | _,_,.any e e2 a b r=>.any e e2 a b (cJ.le h r)
theorem cJ.le {n m:Nat}{H:Hp}(h:n<=m):∀ {vs:Fk} {ts:List Tm},cJ n H vs ts->cJ m H vs ts
 | _,_,.nil=>.nil
 | _,_,.cons a r=>.cons (jx.le h a) (cJ.le h r)
end
theorem dF.le {n m:Nat}{H:Hp}(h:n<=m):∀ {vs:Fk} {p:Pl},dF n H vs p->dF m H vs p
 | _,_,.nil=>.nil
 | _,_,.cons a t r=>.cons a (t.le h) (dF.le h r)
def mH.le {n m:Nat}{H:Hp}{a:Addr}{p:Pl}(h:n<=m)(r:mH n H a p):mH m H a p:=⟨r.1,r.2.choose,r.2.choose_spec.1,r.2.choose_spec.2.le h⟩
theorem cG.le {n m:Nat}{H:Hp}(h:n<=m):∀ {us:Fk} {es:List Ent},cG n H us es->cG m H us es
 | _,_,.nil=>.nil
 | _,_,.cons a p r=>.cons a (p.le h) (cG.le h r)
structure Bn (CS CB:Addr)(n:Nat)(H:Hp)(b be ah dx nw:Addr)(xs zs:Fk)(g:DU)(go:DV)(es:List Ent)(co:Nat):Prop where
 hb:H b=some (.ins CB dx (bnF nw be ah))
 hbe:H be=some (.lst xs)
 hah:H ah=some (.lst zs)
 st:fH CS n H nw g go es co
 nb:be≠ah
 lg:g.length=n
 n12:n<=12
 l40:es.length<=40
 gn:go.Nodup
 gl:∀ x∈go,x < n
section
variable {CS CB:Addr}{n:Nat}{H H':Hp}{b be ah dx nw:Addr}{xs zs:Fk}{g:DU}{go:DV}{es:List Ent}{co:Nat}
def Bn.same (B:Bn CS CB n H b be ah dx nw xs zs g go es co)(s:aG H H'):Bn CS CB n H' b be ah dx nw xs zs g go es co :=
 ⟨s _ _ B.hb,s _ _ B.hbe,s _ _ B.hah,B.st.ks (ksS s),B.nb,B.lg,B.n12,B.l40,B.gn,B.gl⟩
def Bn.Kf (B:Bn CS CB n H b be ah dx nw xs zs g go es co):kW CS CB n H b be xs.length g go es co:=⟨dx,nw,ah,xs,B.hb,B.hbe,U,B.st⟩
def Bn.few (B:Bn CS CB n H b be ah dx nw xs zs g go es co):go.length<=12:=Wn (yD n go B.gn B.gl) B.n12
end
inductive jR (CB:Addr)(vs:Fk)(H:Hp)(Q:VK)(e3:XK):Prop where
 | mk (b be st dx nw ah:Addr) (xs:Fk) (_:vs=[.ref b,.ref st]) (_:H b=some (.ins CB dx (bnF nw be ah))) (_:H be=some (.lst xs)) (_:xs.length<=900) (_:∀ (ah':Addr) (H':Hp),H ah'=none->H' b=some (.ins CB dx (bnF st be ah'))->H' be=some (.lst (xs++[.ref nw]))->H' ah'=some (.lst [])->But b be H H'->Q .non H')
def tX {CB:Addr} (F:Fun K "go_on" "Boon.go_on" jO f fd) (S:yO K CB):bh P w K mg base CX0 1 f fd YR (jR CB):=by
 refine okA F vJ fun H Q E hr h=>?_;obtain⟨b,be,st,dx,nw,ah,xs,rfl,hb,hbe,l9,q⟩:=h
 refine⟨_,(aj (aW (rO Xg Xk Xj cI (pfd K 0) (a1 (pfd K 0))))
 (aj (jJ (pv 0) (aV cL) U)
 (aF (jJ (pv 0) (pv 1) U)))),?_⟩
 have bb:be≠b:=fun z=>by rw[z,hb] at hbe;cases hbe
 refine⟨O,b,CB,dx,N,hb,S.cl,S.behind,U,.inl ⟨U,_,sqL hbe⟩,O,b,CB,dx,N,hb,S.cl,S.now,U,be,M,hbe,aH (by lia),?_⟩;have k1:But b be H (upd H be (.lst (xs++[.ref nw]))):=fun a o _ h z=>by rw[aL h];exact z
 generalize eH1:upd H be _=H1 at k1;have e1:H1 be=some (.lst (xs++[.ref nw])):=by rw[← eH1];exact aa
 have e1b:H1 b=some (.ins CB dx (bnF nw be ah)):=by rw[← eH1,aL bb.symm];exact hb
 refine⟨smN 0,fun a2 h2=>?_⟩;have n2:a2≠be:=fun z=>by rw[z,e1] at h2;cases h2
 have n2b:a2≠b:=fun z=>by rw[z,e1b] at h2;cases h2
 have fr:H a2=none:=by rw[← eH1,aL n2] at h2;exact h2
 generalize eH2:upd H1 a2 _=H2;obtain⟨g2,e2⟩:=aC eH2 h2;refine⟨O,b,CB,dx,O,g2 _ _ e1b,S.cl,S.ahead,by show 3 < 1000;decide,?_⟩;have k3:∀ a o,a≠b->H2 a=some o->upd H2 b (.ins CB dx (tR "ahead" (.ref a2) (bnF nw be ah))) a=some o:=fun a o h z=>by rw[aL h];exact z
 generalize eH3:upd H2 b _=H3 at k3;have e3:H3 b=some (.ins CB dx (bnF nw be a2)):=by rw[← eH3];exact aa
 refine⟨R,b,CB,dx,O,e3,S.cl,S.now,by show 3 < 1000;decide,?_⟩;refine q a2 _ fr aa (by rw[aL bb];exact k3 _ _ bb (g2 _ _ e1)) (by rw[aL n2b];exact k3 _ _ n2b e2) fun a o h h' z=>?_;rw[aL h];exact k3 _ _ h (g2 _ _ (k1 a o h h' z))
def Dp {CS CB:Addr}{n n':Nat}{H H1:Hp}{b be ah dx nw x:Addr}{xs zs:Fk}{g g':DU}{go go':DV}{es es':List Ent}{co co':Nat}{Q:VK}(B:Bn CS CB n H b be ah dx nw xs zs g go es co)(ne:CB≠CS)(l9:xs.length<=900)(s:aG H H1)(st:fH CS n' H1 x g' go' es' co')
  (lg:g'.length=n') (n12:n'<=12) (l40:es'.length<=40) (gn:go'.Nodup) (gl:∀ x∈go',x < n') (q:∀ (H':Hp) (ah':Addr),But b be H H'->H ah'=none->Bn CS CB n' H' b be ah' dx x (xs++[.ref nw]) [] g' go' es' co'->Q .non H'):jR CB [.ref b,.ref x] H1 Q E0:=by
 refine⟨b,be,x,dx,nw,ah,xs,U,s _ _ B.hb,s _ _ B.hbe,l9,fun ah' H' fa e1 e2 e3 bt=>?_⟩;refine q H' ah' ((JH s).trans bt) (s.free fa) ⟨e1,e2,e3,st.ks (bt.ks ne (s _ _ B.hb) (s _ _ B.hbe)),fun z=>?_,lg,n12,l40,gn,gl⟩;rw[← z,s _ _ B.hbe] at fa;cases fa
inductive wg (CS CB:Addr)(vs:Fk)(H:Hp)(Q:VK)(e3:XK):Prop where
 | mk (b dx:Addr) (_:vs=[.ref b]) (_:H b=some (.ins CB dx [])) (_:∀ (be ah nw:Addr) (H':Hp),H be=none->H ah=none->(∀ a o,a≠b->H a=some o->H' a=some o)->Bn CS CB 0 H' b be ah dx nw [] [] [] [] [] 0->Q .non H')
def vp {CS CB:Addr} (F:Fun K "__init__" "Boon.__init__" lR f fd) (S:yO K CB) (Pd:Dk2 P w K mg base "Stand" CS 1 VX (gJ CS)) :
  bh P w K mg base CX0 3 f fd ZO (wg CS CB):=by
 refine okA F qj fun H Q E hr h=>?_;obtain⟨b,dx,rfl,hb,q⟩:=h
 refine⟨_,(aj (jJ (pv 0) (En Pd hr (aq (aU cL) (aq (aU cL) (aq (aU cL) (a1 ao))))) U)
 (aj (jJ (pv 0) (aV cL) U)
 (aF (jJ (pv 0) (aV cL) U)))),?_⟩
 refine⟨smN 0,fun p1 h1=>?_⟩;generalize eH1:upd H p1 _=H1;obtain⟨g1,e1⟩:=aC eH1 h1;refine⟨smN 0,fun p2 h2=>?_⟩;generalize eH2:upd H1 p2 _=H2;obtain⟨g2,e2⟩:=aC eH2 h2;refine⟨smN 0,fun p3 h3=>?_⟩;generalize eH3:upd H2 p3 _=H3;obtain⟨g3,e3⟩:=aC eH3 h3;have s3:=g1.trans (g2.trans g3);intro x dx2 hx hdx hne;refine j9 hx hdx hne fun H4 sB e4=>⟨U,?_⟩;have s4:=s3.trans sB;refine⟨O,b,CB,dx,O,s4 _ _ hb,S.cl,S.now,by show 0 < 1000;decide,?_⟩;have k1:∀ a o,a≠b->H4 a=some o->upd H4 b (.ins CB dx (tR "now" (.ref x) [])) a=some o:=fun a o h z=>by rw[aL h];exact z
 generalize eH5:upd H4 b _=H5 at k1;have e5:H5 b=some (.ins CB dx [("now",.ref x)]):=by rw[← eH5];exact aa
 refine⟨smN 0,fun be hbe=>?_⟩;generalize eH6:upd H5 be _=H6;obtain⟨g6,e6⟩:=aC eH6 hbe;refine⟨O,b,CB,dx,O,g6 _ _ e5,S.cl,S.behind,by show 1 < 1000;decide,?_⟩;have bb:be≠b:=fun z=>by rw[z,e5] at hbe;cases hbe
 have k2:∀ a o,a≠b->H6 a=some o->upd H6 b (.ins CB dx (tR "behind" (.ref be) [("now",.ref x)])) a=some o:=fun a o h z=>by rw[aL h];exact z
 generalize eH7:upd H6 b _=H7 at k2;have e7:H7 b=some (.ins CB dx [("now",.ref x),("behind",.ref be)]):=by rw[← eH7];exact aa
 refine⟨smN 0,fun ah hah=>?_⟩;have ab:ah≠b:=fun z=>by rw[z,e7] at hah;cases hah
 generalize eH8:upd H7 ah _=H8;obtain⟨g8,e8⟩:=aC eH8 hah;refine⟨O,b,CB,dx,O,g8 _ _ e7,S.cl,S.ahead,by show 2 < 1000;decide,?_⟩;have k3:∀ a o,a≠b->H8 a=some o->upd H8 b (.ins CB dx (tR "ahead" (.ref ah) [("now",.ref x),("behind",.ref be)])) a=some o:=fun a o h z=>by rw[aL h];exact z
 generalize eH9:upd H8 b _=H9 at k3;have e9:H9 b=some (.ins CB dx (bnF x be ah)):=by rw[← eH9];exact aa
 have all:∀ a o,a≠b->H4 a=some o->H9 a=some o:=fun a o h z=>k3 a o h (g8 _ _ (k2 a o h (g6 _ _ (k1 a o h z))));have tp:∀ (p:Addr) (xs:Fk),H4 p=some (HO.tup xs)->H9 p=some (HO.tup xs):=fun p xs z=>all p _ (fun y=>by rw[y,s4 _ _ hb] at z;cases z) z;have xb:x≠b:=fun z=>by rw[z] at hx;rw[s3 _ _ hb] at hx;cases hx
 have e6':H7 be=some (.lst []):=k2 _ _ bb e6;have old:∀ a,a≠b->H5 a=none->H a=none:=fun a hn h=>by
  cases hq:H a with
  | none=>rfl
  | some o =>
   have:=k1 a o hn (s4 _ _ hq);rw[h] at this;cases this
 refine q be ah x H9 (old be bb hbe) ?_ (fun a o h z=>all a o h (s4 _ _ z)) ⟨e9,k3 _ _ bb (g8 _ _ e6'),k3 _ _ ab e8,⟨dx2,p1,p2,p3,[],all _ _ xb e4,tp _ _ (sB _ _ (g3 _ _ (g2 _ _ e1))),tp _ _ (sB _ _ (g3 _ _ e2)),tp _ _ (sB _ _ e3),.nil⟩,fun z=>?_,U,by decide,by decide,.nil,by simp⟩
 ·refine old ah ab ?_;cases hq:H5 ah with
  | none=>rfl
  | some o =>
   have:=k2 ah o ab (g6 _ _ hq);rw[hah] at this;cases this
 ·rw[← z,e6'] at hah;cases hah
inductive Fz (CS CB CF:Addr)(vs:Fk)(H:Hp)(Q:VK)(E:XK):Prop where
 | mk (b be ah dx nw:Addr) (n co:Nat) (xs zs:Fk) (g:DU) (go:DV) (es:List Ent) (_:vs=[.ref b]) (_:Bn CS CB n H b be ah dx nw xs zs g go es co) (_:xs.length<=900) (_:(12<=n->thrown CF "full" H E)) (_:(n < 12->∀ (H':Hp) (nw' ah':Addr),But b be H H'->H ah'=none->Bn CS CB (n+1) H' b be ah' dx nw' (xs++[.ref nw]) [] (g++[0]) go es co->Q (vN n) H'))
def ux {CS CB CF:Addr} {t1:Tok} (ne:CB≠CS) (F:Fun K "come" "Boon.come" lE f fd) (B:Bt mg) (S:wN K CS) (T:yO K CB) (Ty:mg "MOST_FOLK" = some (.int 12 t1))
  (Pd:Dk2 P w K mg base "Stand" CS 1 VX (gJ CS)) (O0:Dm2 P w K mg base CB "go_on" 1 YR (jR CB)) (Ta:Xc P w K mg base "Full" CF "full") :
  bh P w K mg base (XL P w) 4 f fd ZO (Fz CS CB CF):=by
 refine Fo F pI fun H Q E hr h=>?_;obtain⟨b,be,ah,dx,nw,n,co,xs,zs,g,go,es,rfl,hB,l9,hF,q⟩:=h
 refine⟨_,(aj (sT 1 pI.nd (pfd K 0))
 (aj (cP (aD kY (pln K B.len_ (pfd K 1)) (ql Ty)) (aF (eN Ta hr U dz)) aX)
 (aj (aW (Dl O0 hr (pv 0) (a1 (En Pd hr (aq (aN (r:=jK K) iY (pfd K 1) (aU (a1 ao))) (aq (pfd K 1) (aq (pfd K 1) (a1 (pfd K 1)))))))))
 (sR (pln K B.len_ (pfd K 1)))))),?_⟩
 have hb:=hB.hb;have lg:=hB.lg;obtain⟨dx2,ga,goa,sa,us,hs,hga,hgoa,hsa,hes⟩:=id hB.st;refine bO (fun σ H1=>σ=[oR b,oR nw]/\H1=H) ?_ ?_;{intro N Rc;exact⟨O,b,CB,dx,N,hb,T.cl,T.now,U,Rc _ _ ⟨U,U⟩⟩};rintro σ H0 ⟨rfl,rfl⟩;refine bO (fun σ H1=>σ=[oR b,oR nw]/\H1=H0/\n < 12) ?_ ?_
 ·intro N Rc;refine⟨O,nw,CS,dx2,N,hs,S.cl,S.green,U,ga,O,.inr (sqT hga),M,O,?_⟩;by_cases z:12<=n;{rw[dcT (show ((12:Int)<=(((g.map V.int).length:Nat):Int)) by rw[VH];lia)];exact dh (hF z)};{rw[dcF (show ¬ ((12:Int)<=(((g.map V.int).length:Nat):Int)) by rw[VH];lia)];exact bU (Rc _ _ ⟨U,U,by lia⟩)}
 rintro σ H1 ⟨rfl,rfl,h12⟩;replace q:=q h12;refine bO (fun σ H2=>∃ (nw' ah':Addr),σ=[oR b,oR nw]/\But b be H1 H2/\H1 ah'=none/\Bn CS CB (n+1) H2 b be ah' dx nw' (xs++[.ref nw]) [] (g++[0]) go es co) ?_ ?_
 ·intro N Rc;refine⟨O,b,dx,O,hb,U,O,nw,CS,dx2,N,hs,S.cl,S.green,U,smN 1,fun p1 h1=>?_⟩;generalize eH2:upd H1 p1 _=H2;obtain⟨g2,e2⟩:=aC eH2 h1;refine Tt (g2 _ _ hga) e2 (by rw[VH];show g.length+1<=1000;lia) fun p H3 s3 e3=>?_;have s13:=g2.trans s3;have e3:H3 p=some (.tup ((g++[0]).map V.int)):=by rw[e3,VV];rfl
  have hs3:=s13 _ _ hs;refine⟨O,nw,CS,dx2,N,hs3,S.cl,S.gone,U,O,nw,CS,dx2,N,hs3,S.cl,S.standing,U,O,nw,CS,dx2,N,hs3,S.cl,S.coming,U,fun x dx3 hx hdx hne=>?_⟩;refine j9 hx hdx hne fun H4 s4 e4=>⟨U,?_⟩;have s14:=s13.trans s4;exact Dp (Q:=fun _ H1=>N [some (.ref b),some (.ref nw)] H1) hB ne l9 s14 ⟨dx3,p,goa,sa,us,e4,s4 _ _ e3,s14 _ _ hgoa,s14 _ _ hsa,(hes.aO fun a ys z=>s14 _ _ z).le (Xx n)⟩ (by rw[V6,lg];rfl) (by lia) hB.l40 hB.gn (fun x hx=>WX (hB.gl x hx)) fun H' ah' bt fa hB'=>Rc _ _ ⟨_,ah',U,bt,fa,hB'⟩
 rintro σ H2 ⟨nw',ah',rfl,bt,fa,hB'⟩;have ks:=bt.ks ne hb hB.hbe;refine⟨O,nw,CS,dx2,N,ks.2 _ _ _ hs,S.cl,S.green,U,ga,O,.inr (sqT (ks.1 _ _ hga)),?_⟩;rw[VH,lg];exact q H2 nw' ah' bt fa hB'
structure XA where
 nf:Addr
 go:Addr
 bp:Addr
 fu:Addr
 np:Addr
 bd:Addr
 nd:Addr
 br:Addr
 nl:Addr
def XA.of (x:XA)(w:Wt):Addr:=if w = "no folk" then x.nf else if w = "gone" then x.go else if w = "bad pledge" then x.bp else if w = "full" then x.fu else if w = "no pledge" then x.np else if w = "bound" then x.bd else if w = "not due" then x.nd else if w = "bad rise" then x.br else x.nl
def Th (x:XA)(w:Wt)(H:Hp)(E:XK):Prop:=thrown (x.of w) w H E
def Th.mono {x:XA}{w:Wt}{H H1:Hp}{E:XK}(s:aG H H1)(h:Th x w H E):Th x w H1 E:=thrown.mono s h
section
variable {x:XA}
def Ur:x.of "no folk" = x.nf:=by unfold XA.of;rw[iPo U]
def Uw:x.of "gone" = x.go:=by unfold XA.of;rw[iNe (by decide),iPo U]
def Sd:x.of "bad pledge" = x.bp:=by unfold XA.of;rw[iNe (by decide),iNe (by decide),iPo U]
def RK:x.of "full" = x.fu:=by unfold XA.of;rw[iNe (by decide),iNe (by decide),iNe (by decide),iPo U]
def Ua:x.of "not due" = x.nd:=by unfold XA.of;rw[iNe (by decide),iNe (by decide),iNe (by decide),iNe (by decide),iNe (by decide),iNe (by decide),iPo U]
def Q9:x.of "bad rise" = x.br:=by unfold XA.of;rw[iNe (by decide),iNe (by decide),iNe (by decide),iNe (by decide),iNe (by decide),iNe (by decide),iNe (by decide),iPo U]
end
def miW (n:Nat)(go:DV)(o:Int):Wt:=if o < 0∨(n:Int)<=o then "no folk" else if o.toNat∈go then "gone" else ""
def yN (n:Nat) (go:DV) (o:Int):(miW n go o = "no folk"/\(o < 0∨(n:Int)<=o))∨(∃ i:Nat,o=i/\i < n/\((i∈go/\miW n go o = "gone")∨(i ∉ go/\miW n go o = ""))):=by
 unfold miW;by_cases h:o < 0∨(n:Int)<=o;{exact .inl ⟨iPo h,h⟩}
 ·refine .inr ⟨o.toNat,by lia,by lia,?_⟩;rw[iNe h];by_cases g:o.toNat∈go;{exact .inl ⟨g,iPo g⟩};{exact .inr ⟨g,iNe g⟩}
def yZ {n:Nat} {go:DV} {o:Int} (h:miW n go o = ""):∃ i:Nat,o=i/\i < n/\i ∉ go:=by
 rcases yN n go o with⟨e,_⟩ | ⟨i,e,hi,⟨_,e2⟩ | ⟨g,_⟩⟩;{rw[e] at h;exact absurd h (by decide)};{rw[e2] at h;exact absurd h (by decide)};{exact⟨i,e,hi,g⟩}
def mL {n i:Nat} {go:DV} (hi:i < n):miW n go (i:Int)=if i∈go then ("gone" : Wt) else "":=by
 unfold miW;rw[iNe (by lia),Wl]
def oE {CS:Addr} {x:XA} {st:Addr} {one:Int} {n co:Nat} {g:DU} {go:DV} {es:List Ent} {H:Hp} {Q:VK} {E:XK} (hst:fH CS n H st g go es co) (lg:g.length=n) (hw:miW n go one≠""->Th x (miW n go one) H E) (q:∀ i:Nat,one=i->i < n->i ∉ go->Q .non H):nq CS x.nf x.go [.ref st,.int one] H Q E:=by
 refine⟨st,one,n,co,g,go,es,U,hst,fun z=>?_,fun i e hi hg=>?_,fun i e hi hg=>q i e (by lia) hg⟩
 ·have e:miW n go one = "no folk":=by unfold miW;rw[iPo (by lia)]
  have:=hw (by rw[e];decide);unfold Th at this;rw[e,Ur] at this;exact this
 ·have e:miW n go one = "gone":=by rw[e,mL (by lia),iPo hg]
  have:=hw (by rw[e];decide);unfold Th at this;rw[e,Uw] at this;exact this
def plW (n:Nat)(go:DV)(es:List Ent)(o:Int)(pl:Pl):Wt:=if miW n go o≠"" then miW n go o else if ∃ x∈pl,nn o.toNat x.2=false then "bad pledge" else if 40<=es.length then "full" else ""
inductive w6 (CS CB:Addr)(x:XA)(vs:Fk)(H:Hp)(Q:VK)(E:XK):Prop where
 | mk (b be ah dx nw p:Addr) (one:Int) (n co:Nat) (xs zs:Fk) (g:DU) (go:DV) (es:List Ent) (pl:Pl) (_:vs=[.ref b,.int one,.ref p]) (_:Bn CS CB n H b be ah dx nw xs zs g go es co) (_:mH n H p pl) (_:xs.length<=900) (_:(plW n go es one pl≠""->Th x (plW n go es one pl) H E)) (_:(plW n go es one pl = ""->∀ (H':Hp) (nw' ah':Addr),But b be H H'->H ah'=none->Bn CS CB n H' b be ah' dx nw' (xs++[.ref nw]) [] g go (es++[(co,one.toNat,pl)]) (co+1)->Q (vN co) H'))
def pZ {CS CB:Addr} {x:XA} {t1:Tok} {k:Nat} (hk:4<=k) (ne:CB≠CS) (F:Fun K "pledge" "Boon.pledge" jz f fd) (B:Bt mg) (S:wN K CS) (T:yO K CB) (TC:mg "MOST_PLEDGES" = some (.int 40 t1))
  (Ps:Dx P w K mg base "check_there" 4 Zs (nq CS x.nf x.go)) (Pp:Dx P w K mg base "check_pledge" k XV (Bb CS x.bp))
  (Pd:Dk2 P w K mg base "Stand" CS 1 VX (gJ CS)) (O0:Dm2 P w K mg base CB "go_on" 1 YR (jR CB)) (Ta:Xc P w K mg base "Full" x.fu "full") :
  bh P w K mg base (XL P w) (k+1) f fd XY (w6 CS CB x):=by
 refine Fo F lB fun H Q E hr h=>?_;obtain⟨b,be,ah,dx,nw,p,one,n,co,xs,zs,g,go,es,pl,rfl,hB,hp,l9,hw,q⟩:=h
 refine⟨_,(aj (sT 3 lB.nd (pfd K 0))
 (aj (aW (qi Ps hr bK (v2 3 1)))
 (aj (aW (qi Pp hr bK (aq (pv 3) (v2 1 2))))
 (aj (cP (aD kY (pln K B.len_ (pfd K 3)) (ql TC)) (aF (eN Ta hr U dz (hk:=(ZK hk)))) aX)
 (aj (aW (Dl O0 hr (pv 0) (a1 (En Pd hr (aq (pfd K 3) (aq (pfd K 3) (aq (aN (r:=jK K) iY (pfd K 3) (aU (a1 (aU (aq (pfd K 3) (v2 1 2)))))) (a1 (aN bF (pfd K 3) ao)))))))))
 (sR (pfd K 3))))))),?_⟩
 have hb:=hB.hb;have hst:=hB.st;refine bO (fun σ H1=>σ=[oR b,oI one,oR p,oR nw]/\H1=H) ?_ ?_;{intro N Rc;exact⟨O,b,CB,dx,N,hb,T.cl,T.now,U,Rc _ _ ⟨U,U⟩⟩};rintro σ H0 ⟨rfl,rfl⟩;refine bO (fun σ H1=>∃ i:Nat,one=i/\i < n/\i ∉ go/\σ=[oR b,some (vN i),oR p,oR nw]/\H1=H0) ?_ ?_
 ·intro N Rc;refine⟨R,oE (Q:=fun _ H1=>N [some (.ref b),some (.int one),some (.ref p),some (.ref nw)] H1) hst hB.lg (fun z=>?_) fun i e hi hg=>Rc _ _ ⟨i,e,hi,hg,by rw[e];rfl,U⟩⟩;have e:plW n go es one pl=miW n go one:=by unfold plW;rw[iPo z]
  rw[← e];exact hw (by rw[e];exact z)
 rintro σ H1 ⟨i,rfl,hone,hgo,rfl,rfl⟩;have e0:plW n go es (i:Int) pl=if ∃ x∈pl,nn i x.2=false then ("bad pledge" : Wt) else if 40<=es.length then "full" else "":=by
  unfold plW;rw[mL hone,iNe hgo,iNe (fun z=>z U),Wl]
 rw[e0] at hw q;rw[Wl] at q;refine bO (fun σ H2=>σ=[oR b,some (vN i),oR p,oR nw]/\aG H1 H2/\∀ x∈pl,nn i x.2=true) ?_ ?_;{intro N Rc;refine⟨R,O,nw,p,i,n,co,g,go,es,pl,U,hst,hB.lg,by lia,hB.n12,hp,fun z=>?_,fun hn H2 s2=>Rc _ _ ⟨U,s2,hn⟩⟩;rw[iPo z] at hw;have:=hw (by decide);unfold Th at this;rw[Sd] at this;exact this};rintro σ H2 ⟨rfl,s2,hn⟩;rw[iNe (fun⟨y,hy,z⟩=>by rw[hn y hy] at z;cases z)] at hw q;replace hB:=hB.same s2;obtain⟨dx2,ga,goa,sa,us,hs,hga,hgoa,hsa,hes⟩:=id hB.st;have les:=hes.length;refine bO (fun σ H3=>σ=[oR b,some (vN i),oR p,oR nw]/\H3=H2/\es.length < 40) ?_ ?_
 ·intro N Rc;refine⟨O,nw,CS,dx2,N,hs,S.cl,S.standing,U,sa,O,.inr (sqT hsa),M,O,?_⟩;by_cases z:40<=es.length;{rw[dcT (show ((40:Int)<=((us.length:Nat):Int)) by lia)];rw[iPo z] at hw;have:=hw (by decide);unfold Th at this;rw[RK] at this;exact dh (this.mono s2)};{rw[dcF (show ¬ ((40:Int)<=((us.length:Nat):Int)) by lia)];exact bU (Rc _ _ ⟨U,U,by lia⟩)}
 rintro σ H3 ⟨rfl,rfl,l40'⟩;rw[iNe (by lia)] at q;replace q:=q U;have hb3:=hB.hb;refine bO (fun σ H4=>∃ (nw' ah':Addr),σ=[oR b,some (vN i),oR p,oR nw]/\But b be H3 H4/\H3 ah'=none/\Bn CS CB n H4 b be ah' dx nw' (xs++[.ref nw]) [] g go (es++[(co,i,pl)]) (co+1)) ?_ ?_;{intro N Rc;refine⟨O,b,dx,O,hb3,U,O,nw,CS,dx2,N,hs,S.cl,S.green,U,O,nw,CS,dx2,N,hs,S.cl,S.gone,U,O,nw,CS,dx2,N,hs,S.cl,S.standing,U,O,nw,CS,dx2,N,hs,S.cl,S.coming,U,R,smN 3,fun p1 h1=>?_⟩;generalize eH5:upd H3 p1 _=H5;obtain⟨g5,e5⟩:=aC eH5 h1;refine⟨smN 1,fun p2 h2=>?_⟩;generalize eH6:upd H5 p2 _=H6;obtain⟨g6,e6⟩:=aC eH6 h2;have s36:=g5.trans g6;refine Tt (s36 _ _ hsa) e6 (by show us.length+1<=1000;lia) fun p3 H7 s7 e7=>?_;have s37:=s36.trans s7;refine⟨O,nw,CS,dx2,N,s37 _ _ hs,S.cl,S.coming,U,M,fun y dx3 hx hdx hne=>?_⟩;refine j9 hx hdx hne fun H8 s8 e8=>⟨U,?_⟩;have s38:=s37.trans s8;have t38:∀ a ys,H3 a=some (HO.tup ys)->H8 a=some (HO.tup ys):=fun a ys q=>s38 a _ q;exact Dp (Q:=fun _ H1=>N [some (.ref b),some (vN i),some (.ref p),some (.ref nw)] H1) hB ne l9 s38 ⟨dx3,ga,goa,p3,us++[.ref p1],e8,s38 _ _ hga,s38 _ _ hgoa,s8 _ _ e7,cG.snoc (s8 _ _ (s7 _ _ (g6 _ _ e5))) ((hp.aO fun a ys q=>s2 a _ q).aO t38) (hes.aO t38)⟩ hB.lg hB.n12 (by rw[V6];show es.length+1<=40;lia) hB.gn hB.gl fun H' ah' bt fa hB'=>Rc _ _ ⟨_,ah',U,bt,fa,hB'⟩};rintro σ H4 ⟨nw',ah',rfl,bt,fa,hB4⟩;have ks:=bt.ks ne hb3 hB.hbe;exact⟨O,nw,CS,dx2,N,ks.2 _ _ _ hs,S.cl,S.coming,U,q H4 nw' ah' ((JH s2).trans bt) (s2.free fa) hB4⟩
inductive Bs (CS CB:Addr)(x:XA)(vs:Fk)(H:Hp)(Q:VK)(E:XK):Prop where
 | mk (b be ah dx nw:Addr) (one:Int) (n co:Nat) (xs zs:Fk) (g:DU) (go:DV) (es:List Ent) (_:vs=[.ref b,.int one]) (_:Bn CS CB n H b be ah dx nw xs zs g go es co) (_:xs.length<=900) (_:(miW n go one≠""->Th x (miW n go one) H E)) (_:(miW n go one = ""->∀ (H':Hp) (nw' ah':Addr),But b be H H'->H ah'=none->Bn CS CB n H' b be ah' dx nw' (xs++[.ref nw]) [] g (mX (go++[one.toNat])) (es.filter fun e=>decide (e.2.1≠one.toNat)) co->Q .non H'))
abbrev jQ:Stmt:=inClass (top 45) 3
def jm:aB ["self","one","now","left"] ZB (aA jQ):=bZ
def tE {CS CB:Addr} {x:XA} (ne:CB≠CS) (F:Fun K "leave" "Boon.leave" jQ f fd) (B:Bt mg) (S:wN K CS) (T:yO K CB)
  (Ps:Dx P w K mg base "check_there" 4 Zs (nq CS x.nf x.go)) (Pd:Dk2 P w K mg base "Stand" CS 1 VX (gJ CS)) (O0:Dm2 P w K mg base CB "go_on" 1 YR (jR CB)) :
  bh P w K mg base (XL P w) 5 f fd ZB (Bs CS CB x):=by
 refine Fo F jm fun H Q E hr h=>?_;obtain⟨b,be,ah,dx,nw,one,n,co,xs,zs,g,go,es,rfl,hB,l9,hw,q⟩:=h
 refine⟨_,(aj (sT 2 jm.nd (pfd K 0))
 (aj (aW (qi Ps hr bK (v2 2 1)))
 (aj (sT 3 jm.nd (aR (r:=eY K) bj U B.tuple_ bH (a1 (bC (L:=["entry"]) (F:=["one"]) (cap:=[1]) U (aY U U (by kernel_rfl)) (cH (pfd K 2)) (fun _ _ _ _ _=>(pgC 0)) (fun _ _ _ _ _=>(jk (aD zQ (pxT K (pv 0) ao) (pv 1)))) (fun _ _ _ _ _=>(pv 0))))))
 (aF (aW (Dl O0 hr (pv 0) (a1 (En Pd hr (aq (pfd K 2) (aq (aR (r:=eY K) bj U B.tuple_ bH (a1 (aQ (r:=M8 K) Ei U B.sorted_ (by decide+kernel) (a1 (aN (r:=jK K) iY (pfd K 2) (aU (v1 1))))))) (aq (pv 3) (a1 (pfd K 2))))))))))))),?_⟩
 have hb:=hB.hb;have lgo:=hB.few;have l40:=hB.l40;obtain⟨dx2,ga,goa,sa,us,hs,hga,hgoa,hsa,hes⟩:=id hB.st;have les:=hes.length;refine bO (fun σ H1=>σ=[oR b,oI one,oR nw,none]/\H1=H) ?_ ?_;{intro N Rc;exact⟨O,b,CB,dx,N,hb,T.cl,T.now,U,Rc _ _ ⟨U,U⟩⟩};rintro σ H0 ⟨rfl,rfl⟩;refine bO (fun σ H1=>∃ i:Nat,one=i/\i < n/\i ∉ go/\σ=[oR b,some (vN i),oR nw,none]/\H1=H0) ?_ ?_;{intro N Rc;exact⟨R,oE (Q:=fun _ H1=>N [some (.ref b),some (.int one),some (.ref nw),none] H1) hB.st hB.lg hw fun i e hi hg=>Rc _ _ ⟨i,e,hi,hg,by rw[e];rfl,U⟩⟩};rintro σ H2 ⟨i,rfl,hone,hgo,rfl,rfl⟩;rw[mL hone,iNe hgo,Wl] at q;replace q:=q U;refine bO (fun σ H3=>∃ (ch:Addr) (us':Fk),σ=[oR b,some (vN i),oR nw,oR ch]/\aG H2 H3/\H3 ch=some (.tup us')/\cG n H3 us' (es.filter fun e=>decide (e.2.1≠i))) ?_ ?_
 ·intro N Rc
  refine⟨O,nw,CS,dx2,N,hs,S.cl,S.standing,U,sa,U,⟨_,sqT hsa⟩,fun D hD=>cj (K:=K) (a:=sa) (xs:=us) (fun j zs σ' H3=>(∃ u,σ'=[u,some (vN i)])/\aG H2 H3/\H3 D=some (.lst zs)/\cG n H3 zs ((es.take j).filter fun e=>decide (e.2.1≠i)))
   ⟨⟨O⟩,au hD _,aa,by rw[WD];exact .nil⟩ (fun j zs σ' H3 _ h=>⟨sqT (h.2.1 _ _ hsa),h.2.2.1⟩) ?_ ?_⟩
  ·rintro j zs y σ' H3 hx ⟨⟨u,rfl⟩,sm,eD,ez⟩;obtain⟨e,p2,nu,o2,pl2,rfl,he,hent,hpr⟩:=hes.get hx;have lz:=ez.length;have lf:=WW (fun e:Ent=>decide (e.2.1≠i)) (es.take j);rw[Wa] at lf;have nx:=cG.Uy (n:=n) (p:=fun e:Ent=>decide (e.2.1≠i)) he;refine⟨O,e,Y,sqT (sm _ _ hent),U,T,?_⟩;by_cases z:o2=i
   ·rw[show decide (vN o2=vN i)=true from dcT (by rw[z])];show if (!true)=true then _ else _
    refine bU ⟨⟨O⟩,sm,eD,?_⟩;rw[nx,iNe (by rw[dcF (not_not_intro z)];exact VR),Xy];exact ez
   ·rw[show decide (vN o2=vN i)=false from dcF fun y=>z (by injection y with y;lia)];show if (!false)=true then _ else _
    have tk:=bR (zs':=zs++[.ref e]) eD;refine dh ⟨O,eD,aH (by lia),⟨O⟩,aK sm hD _,aa,?_⟩;rw[nx,iPo (dcT z)];exact cG.snoc (tk _ _ (sm _ _ hent)) ((hpr.aO fun a ys q=>sm a _ q).aO tk) (ez.aO tk)
  ·rintro zs σ' H3 ⟨_,sm,eD,ez⟩;rw[les,V1] at ez;refine⟨D,O,.inl ⟨sqL eD,fun a ha=>?_⟩⟩;have sn:=au ha (.tup zs);exact Rc _ _ ⟨a,zs,U,sm.trans sn,aa,ez.aO fun a ys q=>sn a _ q⟩
 rintro σ H3 ⟨ch,us',rfl,s3,ech,ees⟩;have hs3:=s3 _ _ hs;refine⟨O,b,dx,O,s3 _ _ hb,U,O,nw,CS,dx2,N,hs3,S.cl,S.green,U,O,nw,CS,dx2,N,hs3,S.cl,S.gone,U,O,smN 1,fun p1 h1=>?_⟩;generalize eH4:upd H3 p1 _=H4;obtain⟨g4,e4⟩:=aC eH4 h1;refine Tt (g4 _ _ (s3 _ _ hgoa)) e4 (by rw[VH];show go.length+1<=1000;lia) fun p2 H5 s5 e5=>?_;have e5:H5 p2=some (.tup ((go++[i]).map vN)):=by rw[e5,VV];rfl
 have ep:SqT K H5 p2 (((go++[i]).map fun i:Nat=>(i:Int)).map V.int):=sqT (e5.trans (by rw[jq]));refine⟨p2,O,ep,by rw[VH,V6];show go.length+1 < 64;lia,fun ms pms so l hl=>?_⟩;have ems:=zj pms so;subst ems;generalize eH6:upd H5 l _=H6;obtain⟨g6,e6⟩:=aC eH6 hl;refine⟨l,O,.inl ⟨sqL e6,fun tt htt=>?_⟩⟩;generalize eH7:upd H6 tt _=H7;obtain⟨g7,e7⟩:=aC eH7 htt;have s37:=g4.trans (s5.trans (g6.trans g7));have s27:=s3.trans s37;refine⟨R,nw,CS,dx2,N,s37 _ _ hs3,S.cl,S.coming,U,fun y dx3 hx hdx hne=>?_⟩;refine j9 hx hdx hne fun H8 s8 e8=>⟨U,?_⟩;have s28:=s27.trans s8;have mem:∀ y,y∈mX (go++[i]) ↔ y∈go∨y=i:=fun y=>by rw[(fZ _).mem_iff,aaO,Ym]
 refine Dp hB ne l9 s28 ⟨dx3,ga,tt,ch,us',e8,s28 _ _ hga,s8 _ _ (e7.trans (by rw[jq])),(s37.trans s8) _ _ ech,ees.aO fun a ys q=>(s37.trans s8) a _ q⟩ hB.lg hB.n12 (Wn (WW _ _) l40) ?_ (fun y hy=>?_) fun H' ah' bt fa hB'=>q H' _ ah' bt fa hB';{refine (fZ _).nodup_iff.mpr ?_;rw[acz];refine⟨hB.gn,by simp,fun y hy z hz e=>hgo ?_⟩;rw[Ym] at hz;rw[← hz,← e];exact hy}
 ·rcases (mem y).mp hy with z | z;{exact hB.gl y z};{rw[z];exact hone}
abbrev my:Stmt:=top 44
abbrev lW:Stmt:=inClass (top 45) 7
def cX:aB ["stand","rises","steps","crowd","one","step","green"] YI (aA my):=bZ
def xP:aB YU YU (aA lW):=bZ
inductive RiI (H:Hp):Fk->DB->Prop where
 | nil:RiI H [] []
 | cons {us:Fk} {ps:DB} {e:Addr} {o s:Int} (h:H e=some (.tup [.int o,.int s])) (r:RiI H us ps):RiI H (.ref e::us) ((o,s)::ps)
theorem RiI.aO {H H':Hp}(t:∀ a xs,H a=some (HO.tup xs)->H' a=some (HO.tup xs)):∀ {us:Fk} {ps:DB},RiI H us ps->RiI H' us ps
 | _,_,.nil=>.nil
 | _,_,.cons h r=>.cons (t _ _ h) (r.aO t)
theorem RiI.length {H:Hp}:∀ {us:Fk} {ps:DB},RiI H us ps->us.length=ps.length
 | _,_,.nil=>rfl
 | _,_,.cons _ r=>congrArg (· + 1) r.length
theorem RiI.get {H:Hp}:∀ {us:Fk} {ps:DB} {i:Nat} {u:V},RiI H us ps->us[i]? = some u->∃ (e:Addr) (o s:Int),u = .ref e/\ps[i]? = some (o,s)/\H e=some (.tup [.int o,.int s])
 | _,_,0,_,.cons h _,q=>by
  cases q;exact⟨Y,h⟩
 | _,_,i+1,_,.cons _ r,q=>r.get (i:=i) q
def seI (g:DU)(ps:DB):DU:=ps.foldl (fun g x=>g.set x.1.toNat x.2) g
def pB (ps:DB):∀ g:DU,(seI g ps).length=g.length:=by
 induction ps with
 | nil=>intro g;rfl
 | cons x r ih =>
  intro g;show (seI (g.set x.1.toNat x.2) r).length=_;rw[ih,aaP]
def Cy (g:DU)(ps:DB)(x:Int × Int):seI g (ps++[x])=(seI g ps).set x.1.toNat x.2:=by
 unfold seI;rw[List.foldl_append];rfl
def Gv {ps:DB}{j:Nat}:∀ {g:DU},(∀ x∈ps,x.1.toNat≠j)->(seI g ps).getD j 0=g.getD j 0:=by
 induction ps with
 | nil=>intro g _;rfl
 | cons x r ih =>
  intro g h;show (seI (g.set x.1.toNat x.2) r).getD j 0=_;rw[ih fun y hy=>h y (V7 _ hy),V3,abQ (h x V0),← V3]
def S9 {ps:DB}:∀ {g:DU} {x:Int × Int},(ps.map (·.1.toNat)).Nodup->x∈ps->x.1.toNat < g.length->(seI g ps).getD x.1.toNat 0=x.2:=by
 induction ps with
 | nil=>intro g x _ h;cases h
 | cons y r ih =>
  intro g x nd h hl;rw[WR,List.nodup_cons] at nd;show (seI (g.set y.1.toNat y.2) r).getD x.1.toNat 0=_;rcases List.mem_cons.mp h with z | z;{rw[z] at hl ⊢;rw[Gv fun w hw e=>nd.1 (by rw[← e];exact ab3 hw),V3,abB hl];rfl};{exact ih nd.2 z (by rw[aaP];exact hl)}
def riW (n:Nat)(g:DU)(go:DV):DV->DB->Wt
 | _,[]=>""
 | seen,x::r=>if miW n go x.1≠"" then miW n go x.1 else if x.1.toNat∈seen∨¬ (g.getD x.1.toNat 0 < x.2/\x.2<=9) then "bad rise" else riW n g go (seen++[x.1.toNat]) r
def haW (n:Nat)(g:DU)(go:DV)(es:List Ent)(ps:DB):Wt:=if ps=[] then "bad rise" else if riW n g go [] ps≠"" then riW n g go [] ps else if ∃ x∈ps,mxD 0 (owL es x.1.toNat (seI g ps)) < x.2 then "not due" else ""
structure Ig (n:Nat)(g:DU)(go:DV)(ps:DB)(i:Nat):Prop where
 on:riW n g go ((ps.take i).map (·.1.toNat)) (ps.drop i)=riW n g go [] ps
 nd:((ps.take i).map (·.1.toNat)).Nodup
 al:∀ x∈ps.take i,∃ j:Nat,x.1=j/\j < n/\j ∉ go/\g.getD j 0 < x.2/\x.2<=9
def Ig.zero (n:Nat)(g:DU)(go:DV)(ps:DB):Ig n g go ps 0:=⟨U,abd,fun x hx=>by rw[WD] at hx;cases hx⟩
section
variable {n:Nat}{g:DU}{go:DV}{ps:DB}{i:Nat}{o s:Int}
def Ig.word (h:Ig n g go ps i) (hp:ps[i]? = some (o,s)):riW n g go [] ps=if miW n go o≠"" then miW n go o else if o.toNat∈(ps.take i).map (·.1.toNat)∨¬ (g.getD o.toNat 0 < s/\s<=9) then ("bad rise" : Wt) else riW n g go ((ps.take i).map (·.1.toNat)++[o.toNat]) (ps.drop (i+1)):=by
 have ip:=(geS hp).1;rw[← h.on,aaa ip,(geS hp).2];rfl
def Ig.step (h:Ig n g go ps i)(hp:ps[i]? = some (o,s)){j:Nat}(ej:o=j)(hj:j < n)(hg:j ∉ go)(hs:j ∉ (ps.take i).map (·.1.toNat))(h1:g.getD j 0 < s)(h9:s<=9):Ig n g go ps (i+1):=by
 have nx:ps.take (i+1)=ps.take i++[(o,s)]:=by rw[Wj,hp];rfl
 have w:=h.word hp;rw[ej,mL hj,iNe hg,iNe (fun z=>z U),Wl,iNe (fun z=>z.elim hs fun z=>z ⟨h1,h9⟩)] at w;refine⟨?_,?_,fun x hx=>?_⟩;{rw[w,nx,VV,ej];rfl}
 ·rw[nx,VV,acz];refine⟨h.nd,by simp,fun x hx y hy z=>hs ?_⟩;have hy':y=j:=by
   rw[ej] at hy;simpa using hy
  rw[← hy',← z];exact hx
 ·rw[nx] at hx;rcases List.mem_append.mp hx with z | z;{exact h.al x z};{rw[List.mem_singleton.mp z];exact⟨j,ej,hj,hg,h1,h9⟩}
end
inductive rM (CS:Addr)(x:XA)(vs:Fk)(H:Hp)(Q:VK)(E:XK):Prop where
 | mk (st ra:Addr) (n co:Nat) (g:DU) (go:DV) (es:List Ent) (us:Fk) (ps:DB) (_:vs=[.ref st,.ref ra]) (_:fH CS n H st g go es co) (_:g.length=n) (_:es.length<=40) (_:H ra=some (.lst us)) (_:RiI H us ps) (_:ps.length<=100) (_:(haW n g go es ps≠""->Th x (haW n g go es ps) H E)) (_:(haW n g go es ps = ""->∀ (st':Addr) (H':Hp),aG H H'->fH CS n H' st' (seI g ps) go es co->Q (.ref st') H'))
def uo {CS:Addr} {x:XA} {t1:Tok} {k:Nat} (hk:4<=k) (F:Fun K "handed_in" "handed_in" my f fd) (B:Bt mg) (S:wN K CS) (TH:mg "MOST_STEP" = some (.int 9 t1))
  (Ps:Dx P w K mg base "check_there" 4 Zs (nq CS x.nf x.go)) (PV:Df P w K mg base "is_number" 1 XZ gR) (Sz:Df P w K mg base "owed_of" k WV qx) (Pd:Dk2 P w K mg base "Stand" CS 1 VX (gJ CS))
  (S3:Xc P w K mg base "BadRise" x.br "bad rise") (To:Xc P w K mg base "NotDue" x.nd "not due") :
  bh P w K mg base (XL P w) (k+1) f fd YI (rM CS x):=by
 refine Fo F cX fun H Q E hr h=>?_;obtain⟨st,ra,n,co,g,go,es,us,ps,rfl,hst,lg,l40,hra,hri,p100,hw,q⟩:=h
 refine⟨_,(aj (cP (aD bc (pln K B.len_ (pv 1)) ao) (aF (eN S3 hr U dz (hk:=(ZK hk)))) aX)
 (aj (sT 2 cX.nd (aR (r:=jZ K) d9 U B.list_ mj (a1 (pfd K 0))))
 (aj (sT 3 cX.nd (aV cL))
 (aj (bW PassesOwn.leaving U (cW (pv 1)) (c7 (K:=K) 2 U U (aP (pgN 4 cX.nd) (aP (pgN 5 cX.nd) cY))) (aj (aW (qi Ps hr bK (v2 0 4)))
 (aj (cP (PW.pt (iB (fj (r:=rIn K false) dq (pv 4) (pv 3) U) (eV (dM (cu (aM PV hr (aq (pv 5) (aq (aN bF (pxL K (pv 2) (pv 4)) ao) (a1 (ql TH)))))))))) (aF (eN S3 hr U dz (hk:=(ZK hk)))) aX)
 (aj (ym (pv 5) (NP (pv 2) (pv 4) set_list))
 (aF (aW (rO Xg Xk Xj cI (pv 3) (v1 4))))))))
 (aj (sT 6 cX.nd (aR (r:=eY K) bj U B.tuple_ bH (v1 2)))
 (aj (bW PassesOwn.leaving U (cW (pv 3)) (pgN 4 cX.nd) (aF (cP (aD mG (pxT K (pv 6) (pv 4)) (aM Sz hr (aq (pfd K 0) (v2 4 6)))) (aF (eN To hr U dz (hk:=(ZK hk)))) aX)))
 (sR (En Pd hr (aq (pv 6) (aq (pfd K 0) (aq (pfd K 0) (a1 (pfd K 0))))))))))))),?_⟩
 obtain⟨dx,ga,goa,sa,es0,hs,hga,hgoa,hsa,hes⟩:=id hst;have lus:=hri.length;refine bO (fun σ H1=>σ=[oR st,oR ra,none,none,none,none,none]/\H1=H/\ps≠[]) ?_ ?_
 ·intro N Rc;refine⟨O,ra,O,.inl (sqL hra),U,O,?_⟩;by_cases z:ps=[]
  ·rw[show decide (V.int ((us.length:Nat):Int)=V.int 0)=true from dcT (by rw[lus,z];rfl)];have e:haW n g go es ps = "bad rise":=by unfold haW;rw[iPo z]
   rw[e] at hw;have:=hw (by decide);unfold Th at this;rw[Q9] at this;exact dh this
  ·have p0:0 < ps.length:=List.length_pos_iff.mpr z;rw[show decide (V.int ((us.length:Nat):Int)=V.int 0)=false from dcF fun y=>by injection y with y;lia];exact bU (Rc _ _ ⟨U,U,z⟩)
 rintro σ H1 ⟨rfl,rfl,pne⟩;have eha:haW n g go es ps=if riW n g go [] ps≠"" then riW n g go [] ps else if ∃ x∈ps,mxD 0 (owL es x.1.toNat (seI g ps)) < x.2 then ("not due" : Wt) else "":=by unfold haW;rw[iNe pne]
 rw[eha] at hw q;refine bO (fun σ F1=>∃ a1:Addr,σ=[oR st,oR ra,oR a1,none,none,none,none]/\aG H1 F1/\F1 a1=some (.lst (g.map V.int))/\H1 a1=none) ?_ ?_;{intro N Rc;exact⟨O,st,CS,dx,N,hs,S.cl,S.green,U,ga,O,.inr (sqT hga),fun a1 h1=>Rc _ _ ⟨a1,U,au h1 _,aa,h1⟩⟩};rintro σ F1 ⟨a1,rfl,gf1,ef1,h1⟩;refine bO (fun σ F2=>∃ a2:Addr,σ=[oR st,oR ra,oR a1,oR a2,none,none,none]/\aG F1 F2/\F2 a2=some (.lst [])/\F1 a2=none) ?_ ?_;{intro N Rc;exact⟨smN 0,fun a2 h2=>Rc _ _ ⟨a2,U,au h2 _,aa,h2⟩⟩};rintro σ F2 ⟨a2,rfl,gf2,ef2,h2⟩;have n12':a1≠a2:=fun z=>by rw[z,h2] at ef1;cases ef1
 have ef1':=gf2 _ _ ef1;have h2':H1 a2=none:=gf1.free h2;refine bO (fun σ H3=>∃ (u v:E8),σ=[oR st,oR ra,oR a1,oR a2,u,v,none]/\aG H1 H3/\H3 a1=some (.lst ((seI g ps).map V.int))/\H3 a2=some (.lst ((ps.map (·.1.toNat)).map vN))/\Ig n g go ps ps.length) ?_ ?_
 ·intro N Rc
  refine⟨O,ra,U,⟨_,sqL ((gf1.trans gf2) _ _ hra)⟩,dB (K:=K) (a:=ra) (xs:=us) (fun i σ H3=>∃ (u v:E8),σ=[oR st,oR ra,oR a1,oR a2,u,v,none]/\aG H1 H3/\H3 a1=some (.lst ((seI g (ps.take i)).map V.int))/\H3 a2=some (.lst (((ps.take i).map (·.1.toNat)).map vN))/\Ig n g go ps i)
   ⟨N,gf1.trans gf2,ef1',ef2,.zero n g go ps⟩ (fun i σ H3 _ h=>by obtain⟨_,_,_,z,_⟩:=h;exact sqL (z _ _ hra)) ?_ ?_⟩
  ·rintro i y σ H3 hx ⟨u,v,rfl,sm,e1,e2,ok⟩;obtain⟨e,o,sp,rfl,hp,hent⟩:=hri.get hx;have ip:=(geS hp).1;have nx:ps.take (i+1)=ps.take i++[(o,sp)]:=by rw[Wj,hp];rfl
   have wd:=ok.word hp;refine⟨e,O,sqT (sm _ _ hent),U,N,M,?_⟩;refine bO (fun σ H4=>∃ j:Nat,o=j/\j < n/\j ∉ go/\σ=[oR st,oR ra,oR a1,oR a2,some (vN j),oI sp,none]/\H4=H3) ?_ ?_;{intro N' Rc';refine⟨R,oE (Q:=fun _ H1=>N' [some (.ref st),some (.ref ra),some (.ref a1),some (.ref a2),some (.int o),some (.int sp),none] H1) (hst.ks (ksS sm)) lg (fun z=>?_) fun j ej hj hg=>Rc' _ _ ⟨j,ej,hj,hg,by rw[ej];rfl,U⟩⟩;rw[iPo z] at wd;rw[iPo (by rw[wd];exact z),wd] at hw;exact (hw z).mono sm};rintro σ H4 ⟨j,rfl,hj,hg,rfl,rfl⟩;rw[mL hj,iNe hg,iNe (fun z=>z U),Wl] at wd;have hol:j < (seI g (ps.take i)).length:=by rw[pB];lia
   have bad:(j∈(ps.take i).map (·.1.toNat)∨¬ (g.getD j 0 < sp/\sp<=9))->thrown x.br "bad rise" H4 E:=fun z=>by
    rw[iPo z] at wd;rw[iPo (by rw[wd];decide),wd] at hw;have:=hw (by decide);unfold Th at this;rw[Q9] at this;exact this.mono sm
   refine bO (fun σ H5=>σ=[oR st,oR ra,oR a1,oR a2,some (vN j),oI sp,none]/\H5=H4/\j ∉ (ps.take i).map (·.1.toNat)/\g.getD j 0 < sp/\sp<=9) ?_ ?_
   ·intro N' Rc';refine⟨R,a2,O,.inl (sqL e2),U,iG _,O,?_⟩;rw[show vN j=V.int (j:Int) from U,jl];by_cases z:j∈(ps.take i).map (·.1.toNat);{rw[iNe (show ¬ false=true from VR),dcT z];exact dh (bad (.inl z))}
    ·rw[iNe (show ¬ false=true from VR),dcF z];have ge:(seI g (ps.take i)).getD j 0=g.getD j 0:=Gv fun y hy e=>z (by rw[← e];exact ab3 hy);have gei:(seI g (ps.take i)).getD j 0=(seI g (ps.take i))[j]:=by rw[V3,VN hol];rfl
     refine bU ?_;refine⟨R,O,a1,Y,sqL e1,jG hol,M,.int sp,_,9,U,.int _,O,?_⟩
     rw[show isNum (.int sp) ((seI g (ps.take i))[j]+1) 9=decide (g.getD j 0 < sp/\sp<=9) by
      show (decide ((seI g (ps.take i))[j]+1<=sp) && decide (sp<=9))=_;rw[← gei,ge,ac8]
      rfl]
     by_cases y:g.getD j 0 < sp/\sp<=9;{rw[dcT y];exact bU (Rc' _ _ ⟨U,U,z,y⟩)};{rw[dcF y];exact dh (bad (.inr y))}
   rintro σ H5 ⟨rfl,rfl,nin,h1',h9'⟩;refine⟨R,O,a1,_,_,j,U,U,e1,?_,?_⟩;{unfold ixN;rw[iPo (by lia),iPo (by rw[VH];lia)];rfl}
   ·generalize eU:upd _ a1 _=H6;have e16:H6 a1=some (.lst ((seI g (ps.take (i+1))).map V.int)):=by
     rw[← eU,aa,nx,Cy,List.map_set];rfl
    have e26:H6 a2=some (.lst (((ps.take i).map (·.1.toNat)).map vN)):=by
     rw[← eU,aL n12'.symm];exact e2
    have s6:aG H1 H6:=by
     rw[← eU];exact aK sm h1 _
    refine⟨O,.inl ⟨U,_,sqL e26⟩,O,a2,M,e26,aH (by rw[VH,VH,Wa];lia),N,aK s6 h2' _,?_,?_,ok.step hp U hj hg nin h1' h9'⟩;{rw[aL n12'];exact e16};{rw[aa,nx,VV,VV];rfl}
  ·rintro σ H3 ⟨u,v,rfl,sm,e1,e2,ok⟩;rw[lus] at ok;rw[lus,V1] at e1 e2;exact Rc _ _ ⟨u,v,U,sm,e1,e2,ok⟩
 rintro σ H3 ⟨u,v,rfl,sm,e1,e2,ok⟩;have ri:riW n g go [] ps = "":=by
  rw[← ok.on,acP];rfl
 have al:=ok.al;have ndu:=ok.nd;rw[V1] at al ndu;rw[iNe (by rw[ri];decide)] at hw q;refine bO (fun σ H4=>∃ gr:Addr,σ=[oR st,oR ra,oR a1,oR a2,u,v,oR gr]/\aG H3 H4/\H4 gr=some (.tup ((seI g ps).map V.int))) ?_ ?_;{intro N Rc;refine⟨O,a1,O,.inl ⟨sqL e1,fun l hl=>Rc _ _ ⟨l,U,au hl _,?_⟩⟩⟩;rw[aa]};rintro σ H4 ⟨gr,rfl,s4,egr⟩;have sm4:=sm.trans s4;have sl:(seI g ps).length=n:=by rw[pB];exact lg
 refine bO (fun σ H5=>∃ u:E8,σ=[oR st,oR ra,oR a1,oR a2,u,v,oR gr]/\aG H4 H5/\∀ x∈ps,¬ mxD 0 (owL es x.1.toNat (seI g ps)) < x.2) ?_ ?_
 ·intro N Rc
  refine⟨O,a2,U,⟨_,sqL (s4 _ _ e2)⟩,dB (K:=K) (a:=a2) (xs:=(ps.map (·.1.toNat)).map vN) (fun i σ H5=>∃ u:E8,σ=[oR st,oR ra,oR a1,oR a2,u,v,oR gr]/\aG H4 H5/\∀ x∈ps.take i,¬ mxD 0 (owL es x.1.toNat (seI g ps)) < x.2)
   ⟨O,aG.refl _,fun x hx=>by rw[WD] at hx;cases hx⟩ (fun i σ H5 _ h=>by obtain⟨_,_,z,_⟩:=h;exact sqL (z _ _ (s4 _ _ e2))) ?_ ?_⟩
  ·rintro i y σ H5 hx ⟨u,rfl,s5,hno⟩;rw[Wf,Wf] at hx;obtain⟨z,hz,rfl⟩:∃ z,ps[i]? = some z/\y=vN z.1.toNat:=by
    cases w:ps[i]? with
    | none=>rw[w] at hx;cases hx
    | some z=>rw[w] at hx;cases hx;exact⟨z,U,U⟩
   have hm:=Wk hz;obtain⟨j,ej,hj,_⟩:=al z hm;have ejn:z.1.toNat=j:=by lia
   have hol:z.1.toNat < (seI g ps).length:=by rw[sl,ejn];exact hj
   have gei:(seI g ps)[z.1.toNat]=z.2:=by
    have h1:=S9 ndu hm (by rw[lg,ejn];exact hj);rw[V3,VN hol] at h1;exact h1
   have sm5:=sm4.trans s5;refine⟨R,gr,Y,sqT (s5 _ _ egr),jG hol,O,st,CS,dx,N,sm5 _ _ hs,S.cl,S.standing,U,R,sa,gr,z.1.toNat,n,es0,es,O,sm5 _ _ hsa,hes.aO fun a xs q=>sm5 a _ q,by lia,s5 _ _ egr,sl,fun H6 s6=>?_⟩;refine⟨M,O,?_⟩;rw[gei];by_cases y:mxD 0 (owL es z.1.toNat (seI g ps)) < z.2;{rw[dcT y];rw[iPo ⟨z,hm,y⟩] at hw;have:=hw (by decide);unfold Th at this;rw[Ua] at this;exact dh (this.mono (sm5.trans s6))}
   ·rw[dcF y];refine bU ⟨O,s5.trans s6,fun x hx=>?_⟩;rw[Wj,hz] at hx;rcases List.mem_append.mp hx with w | w;{exact hno x w};{rw[List.mem_singleton.mp w];exact y}
  ·rintro σ H5 ⟨u,rfl,s5,hno⟩;rw[VH,VH,V1] at hno;exact Rc _ _ ⟨u,U,s5,hno⟩
 rintro σ H5 ⟨u,rfl,s5,hno⟩;rw[iNe fun⟨x,hx,z⟩=>hno x hx z] at q;have sm5:=sm4.trans s5;have hs5:=sm5 _ _ hs;refine⟨R,st,CS,dx,N,hs5,S.cl,S.gone,U,O,st,CS,dx,N,hs5,S.cl,S.standing,U,O,st,CS,dx,N,hs5,S.cl,S.coming,U,fun y dx3 hx hdx hne=>?_⟩;refine j9 hx hdx hne fun H6 s6 e6=>⟨U,?_⟩;have s16:=sm5.trans s6;exact q U y H6 s16 ⟨dx3,gr,goa,sa,es0,e6,s6 _ _ (s5 _ _ egr),s16 _ _ hgoa,s16 _ _ hsa,hes.aO fun a xs q=>s16 a _ q⟩
inductive Ab (CS CB:Addr)(x:XA)(vs:Fk)(H:Hp)(Q:VK)(E:XK):Prop where
 | mk (b be ah dx nw ra:Addr) (n co:Nat) (xs zs us:Fk) (g:DU) (go:DV) (es:List Ent) (ps:DB) (_:vs=[.ref b,.ref ra]) (_:Bn CS CB n H b be ah dx nw xs zs g go es co) (_:xs.length<=900) (_:H ra=some (.lst us)) (_:RiI H us ps) (_:ps.length<=100) (_:(haW n g go es ps≠""->Th x (haW n g go es ps) H E)) (_:(haW n g go es ps = ""->∀ (H':Hp) (nw' ah':Addr),But b be H H'->H ah'=none->Bn CS CB n H' b be ah' dx nw' (xs++[.ref nw]) [] (seI g ps) go es co->Q .non H'))
def tV {CS CB:Addr} {x:XA} {k:Nat} (hk:2<=k) (ne:CB≠CS) (F:Fun K "hand" "Boon.hand" lW f fd) (B:Bt mg) (T:yO K CB)
  (PM:Dx P w K mg base "handed_in" k YI (rM CS x)) (O0:Dm2 P w K mg base CB "go_on" 1 YR (jR CB)):bh P w K mg base (XL P w) (k+1) f fd YU (Ab CS CB x):=by
 refine Fo F xP fun H Q E hr h=>?_;obtain⟨b,be,ah,dx,nw,ra,n,co,xs,zs,us,g,go,es,ps,rfl,hB,l9,hra,hri,p100,hw,q⟩:=h;refine⟨_,(aF (aW (Dl O0 hr (pv 0) (a1 (qi PM hr bK (aq (pfd K 0) (v1 1))))))),O,b,dx,O,hB.hb,U,O,b,CB,dx,N,hB.hb,T.cl,T.now,U,O,nw,ra,n,co,g,go,es,us,ps,U,hB.st,hB.lg,hB.l40,hra,hri,p100,hw,fun z st' H1 s1 hst1=>?_⟩;exact Dp hB ne l9 s1 hst1 (by rw[pB];exact hB.lg) hB.n12 hB.l40 hB.gn hB.gl fun H' ah' bt fa hB'=>q z H' _ ah' bt fa hB'
abbrev j5:Stmt:=top 41
abbrev gZ:Stmt:=top 43
abbrev jr:Stmt:=inClass (top 45) 5
abbrev fP:Stmt:=inClass (top 45) 6
def fK:aB ["stand","number","found","one","pledge"] Yf (aA j5):=bZ
def qR:aB WZ WZ (aA gZ):=bZ
def eO:aB ["self","number","pledge","now","one","changed"] Xs (aA jr):=bZ
def dC:aB ["self","number","now","one","left"] YN (aA fP):=bZ
section
variable {x:XA}
def RG:x.of "no pledge" = x.np:=by unfold XA.of;rw[iNe (by decide),iNe (by decide),iNe (by decide),iNe (by decide),iPo U]
def Uv:x.of "bound" = x.bd:=by unfold XA.of;rw[iNe (by decide),iNe (by decide),iNe (by decide),iNe (by decide),iNe (by decide),iPo U]
end
def fnE (es:List Ent)(k:Int):Option Ent:=es.find? fun e=>decide ((e.1:Int)=k)
def chE (es:List Ent)(k:Int)(pl:Pl):List Ent:=es.map fun e=>if (e.1:Int)=k then (e.1,e.2.1,pl) else e
def wiE (es:List Ent)(k:Int):List Ent:=es.filter fun e=>decide ((e.1:Int)≠k)
def bdW (g:DU)(es:List Ent)(one:Nat):Wt:=if mxD 0 (owL es one g) < g.getD one 0 then "bound" else ""
def chW (g:DU)(es:List Ent)(k:Int)(pl:Pl):Wt:=match fnE es k with
 | none=>"no pledge"
 | some e=>if ∃ x∈pl,nn e.2.1 x.2=false then "bad pledge" else bdW g (chE es k pl) e.2.1
def wiW (g:DU)(es:List Ent)(k:Int):Wt:=match fnE es k with
 | none=>"no pledge"
 | some e=>bdW g (wiE es k) e.2.1
def jw {es:List Ent}{k:Int}{e:Ent}(h:fnE es k=some e):e∈es/\(e.1:Int)=k:=⟨List.mem_of_find?_eq_some h,by simpa using List.find?_some h⟩
def wB {es:List Ent}{k:Int}(h:fnE es k=none):∀ e∈es,(e.1:Int)≠k:=fun e he=>by simpa using List.find?_eq_none.mp h e he
def Ld {es:List Ent}{i:Nat}{e:Ent}{k:Int}(he:es[i]? = some e)(h:fnE (es.take i) k=none):fnE (es.take (i+1)) k=if (e.1:Int)=k then some e else none:=by
 unfold fnE at h ⊢;rw[Wj,he,List.find?_append,h,Option.none_or];show List.find? _ [e]=_;by_cases z:(e.1:Int)=k;{rw[iPo z,List.find?_cons_of_pos (by exact dcT z)]};{rw[iNe z,List.find?_cons_of_neg (by rw[dcF z];exact VR)];rfl}
def Lb {es:List Ent}{i:Nat}{e:Ent}{k:Int}(h:fnE (es.take i) k=some e):fnE es k=some e:=by
 unfold fnE at h ⊢;rw[← List.take_append_drop i es,List.find?_append,h];rfl
inductive nT (CS:Addr)(x:XA)(vs:Fk)(H:Hp)(Q:VK)(E:XK):Prop where
 | mk (st:Addr) (num:Int) (n co:Nat) (g:DU) (go:DV) (es:List Ent) (_:vs=[.ref st,.int num]) (_:fH CS n H st g go es co) (_:(∀ e∈es,e.1 < co)) (_:(fnE es num=none->thrown x.np "no pledge" H E)) (_:∀ e,fnE es num=some e->Q (vN e.2.1) H)
def sJ {CS:Addr} {x:XA} (F:Fun K "pledger_of" "pledger_of" j5 f fd) (B:Bt mg) (S:wN K CS) (PV:Df P w K mg base "is_number" 1 XZ gR) (Tl:Xc P w K mg base "NoPledge" x.np "no pledge") :
  bh P w K mg base (XL P w) 4 f fd Yf (nT CS x):=by
 refine Fo F fK fun H Q E hr h=>?_;obtain⟨st,num,n,co,g,go,es,rfl,⟨dx,ga,goa,sa,us,hs,hga,hgo,hsa,hes⟩,hco,hN,q⟩:=h
 refine⟨_,(aj (cP (cu (aM PV hr (aq (pv 1) (aq ao (a1 (aN eQ (pfd K 0) ao)))))) (aF (RP (bW Wv U (cH (pfd K 0)) (c7 (K:=K) 3 U U (aP (pgN 2 fK.nd) (aP (pgN 3 fK.nd) (aP (pgN 4 fK.nd) cY)))) (aF (ifR (aD bc (pv 2) (pv 1)) (pv 3)))))) aX)
 (aF (eN Tl hr U dz))),?_⟩
 refine n8 (fun σ H1=>H1=H/\fnE es num=none) (fun σ H1 z=>by obtain⟨rfl,z⟩:=z;exact hN z) fun N Rc=>?_;refine⟨R,st,CS,dx,N,hs,S.cl,S.coming,U,M,.int num,0,O,.int _,O,?_⟩;have ei:isNum (.int num) 0 ((co:Int) - 1)=decide (0<=num/\num < co):=by
  show (decide ((0:Int)<=num) && decide (num<=(co:Int) - 1))=_;rw[← ac8];exact decide_eq_decide.mpr ⟨fun h=>⟨h.1,by lia⟩,fun h=>⟨h.1,by lia⟩⟩
 rw[ei];by_cases z:0<=num/\num < co
 ·rw[dcT z];refine dh ?_
  refine⟨O,st,CS,dx,N,hs,S.cl,S.standing,U,sa,U,⟨_,sqT hsa⟩,dY (K:=K) (a:=sa) (xs:=us) (fun i σ H2=>(∃ u v w,σ=[oR st,oI num,u,v,w])/\H2=H/\fnE (es.take i) num=none) ⟨⟨_,N⟩,U,U⟩
   (fun i σ H2 _ h=>by rw[h.2.1];exact sqT hsa) ?_ ?_⟩
  ·rintro i y σ H2 hx ⟨⟨u,v,w,rfl⟩,rfl,hno⟩;obtain⟨e,p,nu,o2,pl2,rfl,he,hent,hpr⟩:=hes.get hx;have nx:=Ld he hno;refine⟨e,O,sqT hent,U,N,N,M,R,U,O,?_⟩;by_cases y:(nu:Int)=num;{rw[dcT (show vN nu=V.int num by rw[← y];rfl)];rw[iPo y] at nx;exact dh ⟨O,q _ (Lb nx)⟩};{rw[dcF (show ¬ vN nu=V.int num from fun t=>y (by injection t))];rw[iNe y] at nx;exact bU ⟨⟨_,N⟩,U,nx⟩}
  ·rintro σ H2 ⟨_,rfl,hno⟩;rw[hes.length,V1] at hno;exact Rc _ _ ⟨U,hno⟩
 ·rw[dcF z];refine bU (Rc _ _ ⟨U,?_⟩);unfold fnE;refine List.find?_eq_none.mpr fun e he=>?_;have:=hco e he;simp;lia
inductive zR (CS:Addr)(x:XA)(vs:Fk)(H:Hp)(Q:VK)(E:XK):Prop where
 | mk (st sa:Addr) (one n co:Nat) (g:DU) (go:DV) (es es':List Ent) (us':Fk) (_:vs=[.ref st,vN one,.ref sa]) (_:fH CS n H st g go es co) (_:g.length=n) (_:one < n) (_:H sa=some (.tup us')) (_:cG n H us' es') (_:es'.length<=100) (_:(bdW g es' one≠""->Th x (bdW g es' one) H E)) (_:(bdW g es' one = ""->∀ (st':Addr) (H':Hp),aG H H'->fH CS n H' st' g go es' co->Q (.ref st') H'))
def iK {CS:Addr} {x:XA} {k:Nat} (hk:4<=k) (F:Fun K "pledged_anew" "pledged_anew" gZ f fd) (B:Bt mg) (S:wN K CS) (Sz:Df P w K mg base "owed_of" k WV qx)
  (Pd:Dk2 P w K mg base "Stand" CS 1 VX (gJ CS)) (S4:Xc P w K mg base "Bound" x.bd "bound"):bh P w K mg base (XL P w) (k+1) f fd WZ (zR CS x):=by
 refine Fo F qR fun H Q E hr h=>?_;obtain⟨st,sa,one,n,co,g,go,es,es',us',rfl,⟨dx,ga,goa,sa0,us,hs,hga,hgo,hsa0,hes⟩,lg,hone,hsa,hes',l100,hw,q⟩:=h
 refine⟨_,(aj (cP (aD mG (pxT K (pfd K 0) (pv 1)) (aM Sz hr (aq (pv 2) (aq (pv 1) (a1 (pfd K 0)))))) (aF (eN S4 hr U dz (hk:=(ZK hk)))) aX)
 (sR (En Pd hr (aq (pfd K 0) (aq (pfd K 0) (aq (pv 2) (a1 (pfd K 0)))))))),?_⟩
 have h1:one < g.length:=by lia
 have gei:g.getD one 0=g[one]:=by rw[V3,VN h1];rfl
 refine bO (fun σ H1=>σ=[oR st,some (vN one),oR sa]/\aG H H1/\bdW g es' one = "") ?_ ?_
 ·intro N Rc;refine⟨O,st,CS,dx,N,hs,S.cl,S.green,U,O,ga,Y,sqT hga,jG h1,R,O,st,CS,dx,N,hs,S.cl,S.green,U,sa,ga,one,n,us',es',g,U,hsa,hes',l100,hga,lg,fun H1 s1=>⟨M,O,?_⟩⟩;by_cases z:mxD 0 (owL es' one g) < g[one]
  ·rw[dcT z];have e:bdW g es' one = "bound":=by unfold bdW;rw[iPo (by rw[gei];exact z)]
   rw[e] at hw;have:=hw (by decide);unfold Th at this;rw[Uv] at this;exact dh (this.mono s1)
  ·rw[dcF z];exact bU (Rc _ _ ⟨U,s1,by unfold bdW;rw[iNe (by rw[gei];exact z)]⟩)
 rintro σ H1 ⟨rfl,s1,hbd⟩;have hs1:=s1 _ _ hs;refine⟨O,st,CS,dx,N,hs1,S.cl,S.green,U,O,st,CS,dx,N,hs1,S.cl,S.gone,U,R,st,CS,dx,N,hs1,S.cl,S.coming,U,fun y dx3 hx hdx hne=>?_⟩;refine j9 hx hdx hne fun H2 s2 e2=>⟨U,?_⟩;have s12:=s1.trans s2;exact q hbd y H2 s12 ⟨dx3,ga,goa,sa,us',e2,s12 _ _ hga,s12 _ _ hgo,s12 _ _ hsa,hes'.aO fun a xs q=>s12 a _ q⟩
inductive qN (CS CB:Addr)(x:XA)(vs:Fk)(H:Hp)(Q:VK)(E:XK):Prop where
 | mk (b be ah dx nw:Addr) (num:Int) (n co:Nat) (xs zs:Fk) (g:DU) (go:DV) (es:List Ent) (_:vs=[.ref b,.int num]) (_:Bn CS CB n H b be ah dx nw xs zs g go es co) (_:(∀ e∈es,e.1 < co/\e.2.1 < n)) (_:xs.length<=900) (_:(wiW g es num≠""->Th x (wiW g es num) H E)) (_:(wiW g es num = ""->∀ (H':Hp) (nw' ah':Addr),But b be H H'->H ah'=none->Bn CS CB n H' b be ah' dx nw' (xs++[.ref nw]) [] g go (wiE es num) co->Q .non H'))
def nG {CS CB:Addr} {x:XA} {k:Nat} (hk:4<=k) (ne:CB≠CS) (F:Fun K "withdraw" "Boon.withdraw" fP f fd) (B:Bt mg) (S:wN K CS) (T:yO K CB)
  (SC:Dx P w K mg base "pledger_of" 4 Yf (nT CS x)) (SB:Dx P w K mg base "pledged_anew" k WZ (zR CS x)) (O0:Dm2 P w K mg base CB "go_on" 1 YR (jR CB)) :
  bh P w K mg base (XL P w) (k+1) f fd YN (qN CS CB x):=by
 refine Fo F dC fun H Q E hr h=>?_;obtain⟨b,be,ah,dx,nw,num,n,co,xs,zs,g,go,es,rfl,hB,hlt,l9,hw,q⟩:=h
 refine⟨_,(aj (sT 2 dC.nd (pfd K 0))
 (aj (sT 3 dC.nd (qi SC hr bK (v2 2 1)))
 (aj (sT 4 dC.nd (aR (r:=eY K) bj U B.tuple_ bH (a1 (bC (L:=["entry"]) (F:=["number"]) (cap:=[1]) U (aY U U (by kernel_rfl)) (cH (pfd K 2)) (fun _ _ _ _ _=>(pgC 0)) (fun _ _ _ _ _=>(jk (aD zQ (pxT K (pv 0) ao) (pv 1)))) (fun _ _ _ _ _=>(pv 0))))))
 (aF (aW (Dl O0 hr (pv 0) (a1 (qi SB hr bK (aq (pv 2) (v2 3 4)))))))))),?_⟩
 have hb:=hB.hb;have l40:=hB.l40;obtain⟨dx2,ga,goa,sa,us,hs,hga,hgoa,hsa,hes⟩:=id hB.st;have les:=hes.length;refine bO (fun σ H1=>σ=[oR b,oI num,oR nw,none,none]/\H1=H) ?_ ?_;{intro N Rc;exact⟨O,b,CB,dx,N,hb,T.cl,T.now,U,Rc _ _ ⟨U,U⟩⟩};rintro σ H0 ⟨rfl,rfl⟩;refine bO (fun σ H1=>∃ e:Ent,fnE es num=some e/\σ=[oR b,oI num,oR nw,some (vN e.2.1),none]/\H1=H0) ?_ ?_
 ·intro N Rc;refine⟨R,nw,num,n,co,g,go,es,U,hB.st,fun e he=>(hlt e he).1,fun z=>?_,fun e z=>Rc _ _ ⟨e,z,U,U⟩⟩;have e:wiW g es num = "no pledge":=by unfold wiW;rw[z]
  rw[e] at hw;have:=hw (by decide);unfold Th at this;rw[RG] at this;exact this
 rintro σ H2 ⟨e0,hf,rfl,rfl⟩;obtain⟨m0,k0⟩:=jw hf;have ew:wiW g es num=bdW g (wiE es num) e0.2.1:=by unfold wiW;rw[hf]
 rw[ew] at hw q;refine bO (fun σ H3=>∃ (ch:Addr) (us':Fk),σ=[oR b,oI num,oR nw,some (vN e0.2.1),oR ch]/\aG H2 H3/\H3 ch=some (.tup us')/\cG n H3 us' (wiE es num)) ?_ ?_
 ·intro N Rc
  refine⟨O,nw,CS,dx2,N,hs,S.cl,S.standing,U,sa,U,⟨_,sqT hsa⟩,fun D hD=>cj (K:=K) (a:=sa) (xs:=us) (fun i zs σ' H3=>(∃ u,σ'=[u,oI num])/\aG H2 H3/\H3 D=some (.lst zs)/\cG n H3 zs (wiE (es.take i) num))
   ⟨⟨O⟩,au hD _,aa,by rw[WD];exact .nil⟩ (fun i zs σ' H3 _ h=>⟨sqT (h.2.1 _ _ hsa),h.2.2.1⟩) ?_ ?_⟩
  ·rintro i zs y σ' H3 hx ⟨⟨u,rfl⟩,sm,eD,ez⟩;obtain⟨e,p2,nu,o2,pl2,rfl,he,hent,hpr⟩:=hes.get hx;have lz:=ez.length;have lf:=WW (fun e:Ent=>decide ((e.1:Int)≠num)) (es.take i);rw[Wa] at lf;have lz':(wiE (es.take i) num).length<=min i es.length:=lf;have nx:wiE (es.take (i+1)) num=wiE (es.take i) num++if decide ((nu:Int)≠num)=true then [(nu,o2,pl2)] else []:=cG.Uy (n:=n) (p:=fun e:Ent=>decide ((e.1:Int)≠num)) he
   refine⟨O,e,Y,sqT (sm _ _ hent),U,T,?_⟩;by_cases z:(nu:Int)=num
   ·rw[show decide (vN nu=V.int num)=true from dcT (by rw[← z];rfl)];show if (!true)=true then _ else _
    refine bU ⟨⟨O⟩,sm,eD,?_⟩;rw[nx,iNe (by rw[dcF (not_not_intro z)];exact VR),Xy];exact ez
   ·rw[show decide (vN nu=V.int num)=false from dcF fun y=>z (by injection y)];show if (!false)=true then _ else _
    have tk:=bR (zs':=zs++[.ref e]) eD;refine dh ⟨O,eD,aH (by lia),⟨O⟩,aK sm hD _,aa,?_⟩;rw[nx,iPo (dcT z)];exact cG.snoc (tk _ _ (sm _ _ hent)) ((hpr.aO fun a ys q=>sm a _ q).aO tk) (ez.aO tk)
  ·rintro zs σ' H3 ⟨_,sm,eD,ez⟩;rw[les,V1] at ez;refine⟨D,O,.inl ⟨sqL eD,fun a ha=>?_⟩⟩;have sn:=au ha (.tup zs);exact Rc _ _ ⟨a,zs,U,sm.trans sn,aa,ez.aO fun a ys q=>sn a _ q⟩
 rintro σ H3 ⟨ch,us',rfl,s3,ech,ees⟩;have lw:=WW (fun e:Ent=>decide ((e.1:Int)≠num)) es;have lw':(wiE es num).length<=es.length:=lw;refine⟨O,b,dx,O,s3 _ _ hb,U,R,O,nw,ch,e0.2.1,n,co,g,go,es,_,us',U,hB.st.ks (ksS s3),hB.lg,(hlt e0 m0).2,ech,ees,by lia,fun z=>(hw z).mono s3,fun z st' H4 s4 hst4=>?_⟩;exact Dp hB ne l9 (s3.trans s4) hst4 hB.lg hB.n12 (by lia) hB.gn hB.gl fun H' ah' bt fa hB'=>q z H' _ ah' bt fa hB'
def zK {es:List Ent}(nd:(es.map (·.1)).Nodup){e e':Ent}(h:e∈es)(h':e'∈es)(z:e.1=e'.1):e=e':=by
 obtain⟨i,hi,rfl⟩:=Yy h;obtain⟨j,hj,rfl⟩:=Yy h';have e1:(es.map (·.1))[i]'(by rw[VH];exact hi)=(es.map (·.1))[j]'(by rw[VH];exact hj):=by rw[abq,abq,z]
 have:=(acO nd).mp e1;subst this;rfl
inductive yr (CS CB:Addr)(x:XA)(vs:Fk)(H:Hp)(Q:VK)(E:XK):Prop where
 | mk (b be ah dx nw p:Addr) (num:Int) (n co:Nat) (xs zs:Fk) (g:DU) (go:DV) (es:List Ent) (pl:Pl) (_:vs=[.ref b,.int num,.ref p]) (_:Bn CS CB n H b be ah dx nw xs zs g go es co) (_:(∀ e∈es,e.1 < co/\e.2.1 < n)) (_:(es.map (·.1)).Nodup) (_:mH n H p pl) (_:xs.length<=900) (_:(chW g es num pl≠""->Th x (chW g es num pl) H E)) (_:(chW g es num pl = ""->∀ (H':Hp) (nw' ah':Addr),But b be H H'->H ah'=none->Bn CS CB n H' b be ah' dx nw' (xs++[.ref nw]) [] g go (chE es num pl) co->Q .non H'))
def pY {CS CB:Addr} {x:XA} {k:Nat} (hk:4<=k) (ne:CB≠CS) (F:Fun K "change" "Boon.change" jr f fd) (B:Bt mg) (S:wN K CS) (T:yO K CB)
  (SC:Dx P w K mg base "pledger_of" 4 Yf (nT CS x)) (Pp:Dx P w K mg base "check_pledge" k XV (Bb CS x.bp)) (SB:Dx P w K mg base "pledged_anew" k WZ (zR CS x)) (O0:Dm2 P w K mg base CB "go_on" 1 YR (jR CB)) :
  bh P w K mg base (XL P w) (k+1) f fd Xs (yr CS CB x):=by
 refine Fo F eO fun H Q E hr h=>?_;obtain⟨b,be,ah,dx,nw,p,num,n,co,xs,zs,g,go,es,pl,rfl,hB,hlt,nd,hp,l9,hw,q⟩:=h
 refine⟨_,(aj (sT 3 eO.nd (pfd K 0))
 (aj (sTc 4 eO.nd (qi SC hr bK (v2 3 1)))
 (aj (aW (qi Pp hr bK (aq (pv 3) (v2 4 2))))
 (aj (sT 5 eO.nd (aR (r:=eY K) bj U B.tuple_ bH (a1 (bC (L:=["entry"]) (F:=["number","one","pledge"]) (cap:=[1,4,2]) U (aY U U (by kernel_rfl)) (cH (pfd K 3)) (fun _ _ _ _ _=>(pgC 0)) (fun _ _ _ _ _=>bI) (fun _ _ _ _ _=>(m5 (aD bc (pxT K (pv 0) ao) (pv 1)) (aU (aq (pv 1) (v2 2 3))) (pv 0)))))))
 (aF (aW (Dl O0 hr (pv 0) (a1 (qi SB hr bK (aq (pv 3) (v2 4 5))))))))))),?_⟩
 have hb:=hB.hb;have l40:=hB.l40;refine bO (fun σ H1=>σ=[oR b,oI num,oR p,oR nw,none,none]/\H1=H) ?_ ?_;{intro N Rc;exact⟨O,b,CB,dx,N,hb,T.cl,T.now,U,Rc _ _ ⟨U,U⟩⟩};rintro σ H0 ⟨rfl,rfl⟩;refine bO (fun σ H1=>∃ e:Ent,fnE es num=some e/\σ=[oR b,oI num,oR p,oR nw,some (vN e.2.1),none]/\H1=H0) ?_ ?_
 ·intro N Rc;refine⟨R,nw,num,n,co,g,go,es,U,hB.st,fun e he=>(hlt e he).1,fun z=>?_,fun e z=>Rc _ _ ⟨e,z,U,U⟩⟩;have e:chW g es num pl = "no pledge":=by unfold chW;rw[z]
  rw[e] at hw;have:=hw (by decide);unfold Th at this;rw[RG] at this;exact this
 rintro σ H2 ⟨e0,hf,rfl,rfl⟩;obtain⟨m0,k0⟩:=jw hf;have n12:=hB.n12;have o0:=(hlt e0 m0).2;have ew:chW g es num pl=if ∃ x∈pl,nn e0.2.1 x.2=false then ("bad pledge" : Wt) else bdW g (chE es num pl) e0.2.1:=by unfold chW;rw[hf]
 rw[ew] at hw q;refine bO (fun σ H3=>σ=[oR b,oI num,oR p,oR nw,some (vN e0.2.1),none]/\aG H2 H3/\∀ x∈pl,nn e0.2.1 x.2=true) ?_ ?_;{intro N Rc;refine⟨R,O,nw,p,e0.2.1,n,co,g,go,es,pl,U,hB.st,hB.lg,by lia,n12,hp,fun z=>?_,fun hn H3 s3=>Rc _ _ ⟨U,s3,hn⟩⟩;rw[iPo z] at hw;have:=hw (by decide);unfold Th at this;rw[Sd] at this;exact this};rintro σ H3 ⟨rfl,s3,hn⟩;rw[iNe (fun⟨y,hy,z⟩=>by rw[hn y hy] at z;cases z)] at hw q;have hB3:=hB.same s3;have hp3:=hp.mono s3;obtain⟨dx2,ga,goa,sa,us,hs,hga,hgoa,hsa,hes⟩:=id hB3.st;have les:=hes.length;refine bO (fun σ H4=>∃ (ch:Addr) (us':Fk),σ=[oR b,oI num,oR p,oR nw,some (vN e0.2.1),oR ch]/\aG H3 H4/\H4 ch=some (.tup us')/\cG n H4 us' (chE es num pl)) ?_ ?_
 ·intro N Rc
  refine⟨O,nw,CS,dx2,N,hs,S.cl,S.standing,U,sa,U,⟨_,sqT hsa⟩,fun D hD=>cj (K:=K) (a:=sa) (xs:=us) (fun i zs σ' H4=>(∃ u,σ'=[u,oI num,some (vN e0.2.1),oR p])/\aG H3 H4/\H4 D=some (.lst zs)/\cG n H4 zs (chE (es.take i) num pl))
   ⟨⟨O⟩,au hD _,aa,by rw[WD];exact .nil⟩ (fun i zs σ' H4 _ h=>⟨sqT (h.2.1 _ _ hsa),h.2.2.1⟩) ?_ ?_⟩
  ·rintro i zs y σ' H4 hx ⟨⟨u,rfl⟩,sm,eD,ez⟩;obtain⟨e,p2,nu,o2,pl2,rfl,he,hent,hpr⟩:=hes.get hx;have lz:=ez.length;have il:=(geS he).1;unfold chE at lz;rw[VH,Wa] at lz;have nx:∀ y:Ent,(if (nu:Int)=num then (nu,o2,pl) else (nu,o2,pl2))=y->chE (es.take (i+1)) num pl=chE (es.take i) num pl++[y]:=fun y hy=>by
    rw[Wj,he];unfold chE;rw[VV,← hy];rfl
   refine gT ?_;refine⟨O,e,Y,sqT (sm _ _ hent),U,T,?_⟩;by_cases z:(nu:Int)=num
   ·rw[dcT (show vN nu=V.int num by rw[← z];rfl)];have eo:(nu,o2,pl2)=e0:=zK nd (Wk he) m0 (by show nu=e0.1;lia);have eo2:e0.2.1=o2:=by rw[← eo]
    refine dh ⟨R,O,smN 3,fun pb hb'=>?_⟩;generalize eHb:upd H4 pb _=Hb;obtain⟨gb,eb⟩:=aC eHb hb';rw[← z,eo2] at eb;have tk:=bR (zs':=zs++[.ref pb]) (gb _ _ eD);refine⟨gb _ _ eD,aH (by lia),⟨O⟩,aK (sm.trans gb) hD _,aa,?_⟩;rw[nx _ (iPo z)];exact cG.snoc (tk _ _ eb) ((hp3.aO fun a ys q=>(sm.trans gb) a _ q).aO tk) ((ez.aO fun a ys q=>gb a _ q).aO tk)
   ·rw[dcF (show ¬ vN nu=V.int num from fun y=>z (by injection y))];have tk:=bR (zs':=zs++[.ref e]) eD;refine bU ⟨O,eD,aH (by lia),⟨O⟩,aK sm hD _,aa,?_⟩;rw[nx _ (iNe z)];exact cG.snoc (tk _ _ (sm _ _ hent)) ((hpr.aO fun a ys q=>sm a _ q).aO tk) (ez.aO tk)
  ·rintro zs σ' H4 ⟨_,sm,eD,ez⟩;rw[les,V1] at ez;refine⟨D,O,.inl ⟨sqL eD,fun a ha=>?_⟩⟩;have sn:=au ha (.tup zs);exact Rc _ _ ⟨a,zs,U,sm.trans sn,aa,ez.aO fun a ys q=>sn a _ q⟩
 rintro σ H4 ⟨ch,us',rfl,s4,ech,ees⟩;have lw:(chE es num pl).length=es.length:=VH _;refine⟨O,b,dx,O,(s3.trans s4) _ _ hb,U,R,O,nw,ch,e0.2.1,n,co,g,go,es,_,us',U,hB3.st.ks (ksS s4),hB.lg,o0,ech,ees,by lia,fun z=>(hw z).mono (s3.trans s4),fun z st' H5 s5 hst5=>?_⟩;exact Dp hB ne l9 (s3.trans (s4.trans s5)) hst5 hB.lg hB.n12 (by lia) hB.gn hB.gl fun H' ah' bt fa hB'=>q z H' _ ah' bt fa hB'
def prF (n:Nat)(go:DV):Fk:=(Xb n).map fun i=>.bl (decide (i ∉ go))
def dD (n:Nat)(go:DV):(prF n go).length=n:=by unfold prF;rw[VH,WQ]
def Nh {n i:Nat}{go:DV}(h:i < n):(prF n go)[i]? = some (.bl (decide (i ∉ go))):=by
 unfold prF;rw[Wf,Zd h];rfl
inductive TbR (n:Nat)(H:Hp):E6->List Ent->Prop where
 | nil:TbR n H [] []
 | cons {t p:Addr} {num one:Nat} {pl:Pl} {kvs:E6} {es:List Ent} (h:H t=some (.tup [vN one,.ref p])) (q:mH n H p pl) (r:TbR n H kvs es):TbR n H ((Xf (num:Int),.ref t)::kvs) ((num,one,pl)::es)
section
variable {n m:Nat}{H H':Hp}
theorem TbR.aO (e:∀ a xs,H a=some (HO.tup xs)->H' a=some (HO.tup xs)):∀ {kvs:E6} {es:List Ent},TbR n H kvs es->TbR n H' kvs es
 | _,_,.nil=>.nil
 | _,_,.cons h q r=>.cons (e _ _ h) (q.aO e) (TbR.aO e r)
theorem TbR.le (h:n<=m):∀ {kvs:E6} {es:List Ent},TbR n H kvs es->TbR m H kvs es
 | _,_,.nil=>.nil
 | _,_,.cons a q r=>.cons a (q.le h) (TbR.le h r)
theorem TbR.length:∀ {kvs:E6} {es:List Ent},TbR n H kvs es->kvs.length=es.length
 | _,_,.nil=>rfl
 | _,_,.cons _ _ r=>congrArg (· + 1) (TbR.length r)
theorem TbR.keys:∀ {kvs:E6} {es:List Ent},TbR n H kvs es->kvs.map (·.1)=(es.map fun e=>(e.1:Int)).map Xf
 | _,_,.nil=>rfl
 | _,_,.cons _ _ r=>congrArg (_::·) (TbR.keys r)
theorem TbR.snoc {t p:Addr}{num one:Nat}{pl:Pl}(h:H t=some (.tup [vN one,.ref p]))(q:mH n H p pl):∀ {kvs:E6} {es:List Ent},TbR n H kvs es->TbR n H (kvs++[(Xf (num:Int),.ref t)]) (es++[(num,one,pl)])
 | _,_,.nil=>.cons h q .nil
 | _,_,.cons a b r=>.cons a b (TbR.snoc h q r)
theorem TbR.val {i:Nat}{e:Ent}:∀ {kvs:E6} {es:List Ent},TbR n H kvs es->(es.map (·.1)).Nodup->es[i]? = some e->∃ (t p:Addr),tQ kvs (Xf (e.1:Int))=some (.ref t)/\H t=some (.tup [vN e.2.1,.ref p])/\mH n H p e.2.2
 | _,_,.nil,_,h=>by simp at h
 | _,_,.cons (num:=num) (es:=es) h q r,nd,he=>by
  rw[WR,List.nodup_cons] at nd;cases i with
  | zero =>
   cases (show some _=some _ from he);exact⟨_,_,qF U,h,q⟩
  | succ i =>
   have he':es[i]? = some e:=by simpa using he
   obtain⟨t,p,h1,h2,h3⟩:=TbR.val (i:=i) r nd.2 he';refine⟨t,p,?_,h2,h3⟩;rw[m6 fun z=>nd.1 ?_];{exact h1};{have:(num:Int)=(e.1:Int):=abM z;rw[show num=e.1 by lia];exact List.mem_map.mpr ⟨e,Wk he',U⟩}
theorem TbR.none {k:Int}:∀ {kvs:E6} {es:List Ent},TbR n H kvs es->(∀ e∈es,(e.1:Int)≠k)->tQ kvs (Xf k)=none
 | _,_,.nil,_=>rfl
 | _,_,.cons _ _ r,h=>by
  rw[m6 fun z=>h _ V0 (abM z)];exact TbR.none r fun e he=>h e (V7 _ he)
end
structure EsU (n:Nat)(go:DV)(es:List Ent)(co:Nat):Prop where
 up:(es.map (·.1)).Pairwise (· < ·)
 lt:∀ e∈es,e.1 < co/\e.2.1 < n/\e.2.1 ∉ go
section
variable {n:Nat}{go:DV}{es:List Ent}{co:Nat}
def EsU.nd (h:EsU n go es co):(es.map (·.1)).Nodup:=h.up.imp fun z=>Wh z
def EsU.sort (h:EsU n go es co){ms:DU}(p:ms.Perm (es.map fun e=>(e.1:Int)))(so:ms.Pairwise (·<=·)):ms=es.map fun e=>(e.1:Int):=by
 refine j8 p so ?_;have:=h.up;rw[ZL] at this ⊢;exact this.imp fun z=>by lia
end
def StR (be:Addr)(n:Nat)(H:Hp)(a:Addr)(g:DU)(go:DV)(es:List Ent)(co:Nat):Prop :=
 ∃ (pa ga ta:Addr) (kvs:E6),H a=some (.tup [.ref pa,.ref ga,.ref ta,vN co])/\H pa=some (.lst (prF n go))/\H ga=some (.tup (g.map V.int))/\H ta=some (.dK kvs)/\TbR n H kvs es/\pa≠be
def StR.same {be:Addr}{n:Nat}{H H':Hp}{a:Addr}{g:DU}{go:DV}{es:List Ent}{co:Nat}(s:aG H H')(h:StR be n H a g go es co):StR be n H' a g go es co:=by
 obtain⟨pa,ga,ta,kvs,h1,h2,h3,h4,h5,h6⟩:=h;exact⟨pa,ga,ta,kvs,s _ _ h1,s _ _ h2,s _ _ h3,s _ _ h4,h5.aO fun a xs z=>s _ _ z,h6⟩
def StR.but {CB:Addr}{be b dx:Addr}{fs:E7}{xs:Fk}{n:Nat}{H H':Hp}{a:Addr}{g:DU}{go:DV}{es:List Ent}{co:Nat}(hb:H b=some (.ins CB dx fs))(hbe:H be=some (.lst xs))(s:But b be H H')(h:StR be n H a g go es co):StR be n H' a g go es co:=by
 obtain⟨pa,ga,ta,kvs,h1,h2,h3,h4,h5,h6⟩:=h;have tp:∀ a ys,H a=some (HO.tup ys)->H' a=some (HO.tup ys):=fun a ys q=>s a _ (fun z=>by rw[z,hb] at q;cases q) (fun z=>by rw[z,hbe] at q;cases q) q;exact⟨pa,ga,ta,kvs,tp _ _ h1,s _ _ (fun z=>by rw[z,hb] at h2;cases h2) h6 h2,tp _ _ h3,s _ _ (fun z=>by rw[z,hb] at h4;cases h4) (fun z=>by rw[z,hbe] at h4;cases h4) h4,h5.aO tp,h6⟩
abbrev jo:Stmt:=top 78
def ud:aB XI XI (aA jo):=bZ
inductive rY (vs:Fk)(H:Hp)(Q:VK)(e3:XK):Prop where
 | mk (be a:Addr) (o:Int) (n:Nat) (g:DU) (go:DV) (es:List Ent) (co:Nat) (_:vs=[.ref a,.int o]) (_:StR be n H a g go es co) (_:Q (.str (miW n go o)) H)
def tW (F:Fun K "_law_missing" "_law_missing" jo f fd) (B:Bt mg):bh P w K mg base CX0 1 f fd XI rY:=by
 refine okA F ud fun H Q E hr h=>?_;obtain⟨be,a,o,n,g,go,es,co,rfl,⟨pa,ga,ta,kvs,h1,h2,h3,h4,h5,h6⟩,q⟩:=h
 refine⟨_,(aj (ifR (PW.pt (iB (aD rZ (pv 1) ao) (eV (aD kY (pv 1) (pln K B.len_ (pxT K (pv 0) ao)))))) aJ)
 (sR (m5 (cu (pxL K (pxT K (pv 0) ao) (pv 1))) aJ aJ))),?_⟩
 refine bO (fun σ H1=>σ=[oR a,oI o]/\H1=H/\¬ (o < 0∨(n:Int)<=o)) ?_ ?_
 ·intro N Rc;have e1:(o < 0∨(n:Int)<=o)->Q (.str "no folk") H:=fun z=>by
   have:miW n go o = "no folk":=by unfold miW;rw[iPo z]
   rw[← this];exact q
  refine⟨O,M,O,?_⟩;refine kI (fun z=>dh (e1 (.inl (of_decide_eq_true z)))) (fun z=>?_);refine⟨R,a,Y,sqT h1,gt0,pa,O,.inl (sqL h2),M,O,?_⟩;rw[dD];refine kI (fun y=>e1 (.inr (of_decide_eq_true y))) (fun y=>Rc _ _ ⟨U,U,fun x=>x.elim (fun v=>z (dcT v)) (fun v=>y (dcT v))⟩)
 rintro σ H1 ⟨rfl,rfl,hn⟩;have hi:o.toNat < n:=by lia
 have eo:o=((o.toNat:Nat):Int):=by lia
 have em:miW n go o=if o.toNat∈go then ("gone" : Wt) else "":=by unfold miW;rw[iNe hn]
 rw[em] at q;refine⟨O,a,Y,sqT h1,gt0,O,pa,_,_,.bl (decide (o.toNat ∉ go)),U,U,sqL h2,?_,O,?_⟩;{rw[eo];exact eE (by rw[Wl];exact Nh hi)}
 ·by_cases z:o.toNat∈go;{rw[dcF (not_not_intro z)];rw[iPo z] at q;exact bU q};{rw[dcT z];rw[iNe z] at q;exact dh q}
abbrev jV:Stmt:=top 77
def vg:aB XO XO (aA jV):=bZ
def miP (es:List Ent)(o:Int):List Pl:=(es.filter fun e=>decide ((e.2.1:Int)=o)).map fun e=>e.2.2
inductive qH (vs:Fk)(H:Hp)(Q:VK)(e3:XK):Prop where
 | mk (ta:Addr) (o:Int) (n:Nat) (kvs:E6) (es:List Ent) (_:vs=[.ref ta,.int o]) (_:H ta=some (.dK kvs)) (_:TbR n H kvs es) (_:(es.map (·.1)).Pairwise (· < ·)) (_:es.length<=40) (_:∀ (l:Addr) (as:DM) (H':Hp),aG H H'->H l=none->H' l=some (.lst (as.map V.ref))->as.length<=40->d8 n H' as (miP es o)->Q (.ref l) H')
def uR (F:Fun K "_law_listed" "_law_listed" jV f fd) (B:Bt mg):bh P w K mg base CX0 2 f fd XO qH:=by
 refine okA F vg fun H Q E hr h=>?_;obtain⟨ta,o,n,kvs,es,rfl,hta,tb,up,l40,q⟩:=h;refine⟨_,(sR (bC (L:=["_law_number"]) (F:=XO) (cap:=[0,1]) U (aY U U (by kernel_rfl)) (cW (aQ (r:=Bo) (oU U) U B.sorted_ (by decide+kernel) (v1 0))) (fun _ _ _ _ _=>(pgC 0)) (fun _ _ _ _ _=>(jk (aD bc (pxT K (lC hr.jF (pv 1) (pv 0) (fun _ _=>U)) ao) (pv 2)))) (fun _ _ _ _ _=>(pxT K (lC hr.jF (pv 1) (pv 0) (fun _ _=>U)) ao)))),?_⟩;have nd:(es.map (·.1)).Nodup:=up.imp fun z=>Wh z;refine⟨O,ta,kvs,es.map fun e=>(e.1:Int),U,hta,tb.keys,by rw[VH];lia,fun ms pm so l hl=>?_⟩;have em:ms=es.map fun e=>(e.1:Int):=j8 pm so (by rw[ZL] at up ⊢;exact up.imp fun z=>by lia);subst em;generalize eH1:upd H l _=H1;obtain⟨s1,e1⟩:=aC eH1 hl
 refine⟨l,U,⟨_,sqL e1⟩,fun D hD=>fY (K:=K) (a:=l) (xs:=(es.map fun e=>(e.1:Int)).map V.int) (fun i zs σ' H2=>(∃ u,σ'=[u,oR ta,oI o])/\aG H1 H2/\H2 D=some (.lst zs)/\∃ as:DM,zs=as.map V.ref/\as.length<=i/\d8 n H2 as (miP (es.take i) o))
  ⟨⟨O⟩,au hD _,aa,[],U,VP _,by rw[WD];exact .nil⟩ (fun i zs σ' H2 _ h=>⟨sqL (h.2.1 _ _ e1),h.2.2.1⟩) ?_ ?_⟩
 ·rintro i zs x σ' H2 hx ⟨⟨u,rfl⟩,sm,eD,as,rfl,las,ps⟩;rw[Wf,Wf] at hx;obtain⟨e,he,rfl⟩:∃ e,es[i]? = some e/\x = .int (e.1:Int):=by
   cases z:es[i]? with
   | none=>rw[z] at hx;cases hx
   | some e=>rw[z] at hx;cases hx;exact⟨e,U,U⟩
  have ie:=(geS he).1;have s02:=s1.trans sm;obtain⟨t,p,hv,ht,hp⟩:=tb.val nd he;have nx:miP (es.take (i+1)) o=miP (es.take i) o++if (e.2.1:Int)=o then [e.2.2] else []:=by
   unfold miP;rw[Wj,he,YX,VV];congr 1;by_cases z:(e.2.1:Int)=o;{rw[iPo z,show (Option.toList (some e))=[e] from U,Yo (by exact dcT z)];rfl};{rw[iNe z,show (Option.toList (some e))=[e] from U,Yp (by rw[dcF z];exact VR)];rfl}
  have dg:uf H2 ta (.int (e.1:Int)) (some (.ref t)):=by
   rw[← hv];exact uf.k (k:=Xf (e.1:Int)) (s02 _ _ hta)
  refine⟨R,ta,O,dg,t,Y,sqT (s02 _ _ ht),gt0,T,?_⟩;by_cases z:(e.2.1:Int)=o
  ·rw[show decide (vN e.2.1=V.int o)=true from dcT (by rw[← z];rfl)];refine dh ⟨R,ta,O,dg,t,Y,sqT (s02 _ _ ht),gt1,eD,aH (by rw[VH];lia),⟨O⟩,aK sm hD _,aa,as++[p],?_,?_,?_⟩;{rw[VV];rfl};{rw[V6];show as.length+1<=_;lia};{rw[nx,iPo z];have tk:=bR (zs':=as.map V.ref++[.ref p]) eD;exact d8.snoc ((hp.aO fun a xs w=>s02 _ _ w).aO tk) (ps.aO tk)}
  ·rw[show decide (vN e.2.1=V.int o)=false from dcF fun y=>z (by injection y)];refine bU ⟨⟨O⟩,sm,eD,as,U,by lia,?_⟩;rw[nx,iNe z,Xy];exact ps
 ·rintro zs σ' H2 ⟨_,sm,eD,as,rfl,las,ps⟩;rw[VH,VH] at las ps;rw[V1] at ps;exact q D as H2 (s1.trans sm) (s1.free hD) eD (by lia) ps
def Rt {es:List Ent}(ok:∀ e∈es,okP e.2.2)(one:Nat)(g:DU):duF g 0 (miP es (one:Int))=mxD 0 (owL es one g):=by
 have e:owL es one g=(miP es (one:Int)).map (owF g):=by
  unfold owL miP;rw[aaT];have:(fun e:Ent=>decide (e.2.1=one))=fun e:Ent=>decide ((e.2.1:Int)=(one:Int)):=by
   funext e;exact decide_eq_decide.mpr ⟨fun h=>by rw[h],fun h=>by lia⟩
  rw[this];rfl
 unfold duF;rw[← e];have all:∀ x∈owL es one g,0<=x:=fun x hx=>by
  obtain⟨e,he,rfl⟩:=List.mem_map.mp hx;exact uA fun y hy=>by have:=((ok e (List.mem_filter.mp he).1).2.2.2 y hy).1;lia
 cases h:owL es one g with
 | nil=>rfl
 | cons a r =>
  have:=all a (by rw[h];exact V0);show r.foldl max (max 0 a)=r.foldl max a;rw[show max 0 a=a by lia]
theorem TbR.ok {n:Nat}{H:Hp}:∀ {kvs:E6} {es:List Ent},TbR n H kvs es->∀ e∈es,okP e.2.2
 | _,_,.nil,e,h=>by cases h
 | _,_,.cons _ p r,e,h=>by
  rcases List.mem_cons.mp h with z | z;{rw[z];exact p.1};{exact TbR.ok r e z}
abbrev oZ:Stmt:=top 79
def ju:aB ["_law_state","_law_one","_law_pledge_here","_law_step","_law_term_here","_law_names"] VW (aA oZ):=bZ
inductive Nb (vs:Fk)(H:Hp)(Q:VK)(e3:XK):Prop where
 | mk (be a p:Addr) (i n:Nat) (g:DU) (go:DV) (es:List Ent) (co:Nat) (pl:Pl) (_:vs=[.ref a,vN i,.ref p]) (_:StR be n H a g go es co) (_:mH n H p pl) (_:1<=n) (_:n<=12) (_:((∃ x∈pl,nn i x.2=false)->∀ H',aG H H'->Q (.bl false) H')) (_:((¬ ∃ x∈pl,nn i x.2=false)->∀ H',aG H H'->Q (.bl true) H'))
def Rm {n:Nat}{c:DV}(hn:1<=n)(h:∀ i∈c,i < n):mxD 0 (0::c.map fun i:Nat=>(i:Int)) < (n:Int):=by
 show (c.map fun i:Nat=>(i:Int)).foldl max 0 < (n:Int);have:∀ (l:DV) (a:Int),a < n->(∀ i∈l,i < n)->(l.map fun i:Nat=>(i:Int)).foldl max a < (n:Int):=by
  intro l
  induction l with
  | nil=>intro a ha _;exact ha
  | cons b r ih =>
   intro a ha hl;refine ih _ ?_ fun i hi=>hl i (V7 _ hi);have:=hl b V0;show max a (b:Int) < (n:Int);lia
 exact this c 0 (by lia) h
def zZ (F:Fun K "_law_good" "_law_good" oZ f fd) (B:Bt mg) (Rw:Df P w K mg base "_law_named" 4 Ya (jU 4)):bh P w K mg base CX0 5 f fd VW Nb:=by
 refine okA F ju fun H Q E hr h=>?_;obtain⟨be,a,p,i,n,g,go,es,co,pl,rfl,⟨pa,ga,ta,kvs,h1,h2,h3,h4,h5,h6⟩,⟨okp,vs,hp,rv⟩,n1,n12,q0,q1⟩:=h
 refine⟨_,(aj (bW Wv U (cH (pv 2)) (c7 (K:=K) 2 U U (aP (pgN 3 ju.nd) (aP (pgN 4 ju.nd) cY))) (aj (sT 5 ju.nd (aM Rw hr (v1 4)))
 (aF (ifR (PW.pt (iB (fj (r:=rIn K false) dq (pv 1) (pv 5) U) (eV (aD kY (aQ (r:=Dt K) (jT U) U B.max_ nj (a1 (aN pQ (aV (a1 ao)) (pv 5)))) (aQ (mZ U) U B.max_ nj (aq ao (a1 (pln K B.len_ (pxT K (pv 0) ao))))))))) dR))))
 (sR dR)),?_⟩
 have lv:=rv.length;refine n8 (fun σ H1=>aG H H1/\¬ ∃ x∈pl,nn i x.2=false) (fun σ H1 z=>q1 z.2 H1 z.1) fun N Rc=>?_;refine⟨O,p,U,⟨_,sqT hp⟩,dY (K:=K) (a:=p) (xs:=vs) (fun k σ H1=>(∃ u v w,σ=[oR a,some (vN i),oR p,u,v,w])/\aG H H1/\∀ x∈pl.take k,nn i x.2=true) ⟨⟨_,N⟩,aG.refl _,fun x hx=>by rw[WD] at hx;cases hx⟩ (fun k σ H1 _ z=>sqT (z.2.1 _ _ hp)) ?_ ?_⟩
 ·rintro k x σ H1 hx ⟨⟨u,v,w',rfl⟩,s1,hno⟩;obtain⟨r,st,y,t,rfl,hr',tr,hk⟩:=rv.get hx;have hm:=Wk hk;have hd:=(okp.2.2.2 _ hm).2.2;refine⟨r,O,sqT (s1 _ _ hr'),U,N,M,?_⟩;refine bO (fun σ H2=>∃ l:Addr,σ=[oR a,some (vN i),oR p,oI st,some y,oR l]/\aG H1 H2/\H2 l=some (.lst ((mnF t).map vN))) ?_ ?_;{intro N' Rc';exact⟨O,y,n,t,U,tr.mono s1,hd,by decide,n12,fun l H2 s2 _ e2=>Rc' _ _ ⟨l,U,s2,e2⟩⟩};rintro σ H2 ⟨l,rfl,s2,el⟩;have s12:=s1.trans s2;refine⟨R,l,O,.inl (sqL el),U,iG _,O,?_⟩;rw[iNe (show ¬ false=true from VR),show vN i=V.int (i:Int) from U,jl];by_cases z:i∈mnF t
  ·rw[dcT z];refine dh (dh (q0 ⟨_,hm,?_⟩ H2 s12));cases e:nn i t with
   | false=>rfl
   | true=>exact absurd z (Od t e)
  ·rw[dcF z];refine bU ⟨smN 1,fun p4 hp4=>?_⟩;generalize eH4:upd H2 p4 _=H4;obtain⟨g4,e4⟩:=aC eH4 hp4;have sml:=qu n12 (VP 4) tr hd;refine⟨O,p4,l,M,e4,g4 _ _ el,?_,fun p6 hp6=>?_⟩;{rw[VH];exact Wn (show 1+(mnF t).length<=100000 by lia) (by decide)};generalize eH6:upd H4 p6 _=H6;obtain⟨g6,e6⟩:=aC eH6 hp6;have s26:=g4.trans g6;refine⟨p6,0::(mnF t).map (fun i:Nat=>(i:Int)),U,sqL (e6.trans (by rw[WR,← jq];rfl)),by simp,?_⟩;refine⟨O,a,Y,sqT ((s12.trans s26) _ _ h1),gt0,pa,O,.inl (sqL ((s12.trans s26) _ _ h2)),N,?_⟩;rw[dD];have lt:=Rm n1 (JQ tr);refine⟨M,O,?_⟩;rw[dcF (by split <;> lia)]
   refine bU ⟨⟨_,N⟩,s12.trans s26,fun x hx'=>?_⟩;rw[Wj,hk] at hx';rcases List.mem_append.mp hx' with w | w;{exact hno x w};{rw[List.mem_singleton.mp w];exact O2 t z}
 ·rintro σ H1 ⟨⟨u,v,w',rfl⟩,s1,hno⟩;rw[lv,V1] at hno;exact Rc _ _ ⟨s1,fun⟨x,hx,z⟩=>by rw[hno x hx] at z;cases z⟩
abbrev lO:Stmt:=top 81
def gB:aB ["_law_state","_law_rises_here","_law_green_there","_law_one","_law_step"] WG (aA lO):=bZ
inductive wL (vs:Fk)(H:Hp)(Q:VK)(e3:XK):Prop where
 | mk (be a ra:Addr) (n:Nat) (g:DU) (go:DV) (es:List Ent) (co:Nat) (us:Fk) (ps:DB) (_:vs=[.ref a,.ref ra]) (_:StR be n H a g go es co) (_:g.length=n) (_:H ra=some (.lst us)) (_:RiI H us ps) (_:(∀ x∈ps,∃ j:Nat,x.1=j/\j < n)) (_:∀ (r:Addr) (H':Hp),aG H H'->H' r=some (.tup ((seI g ps).map V.int))->Q (.ref r) H')
def yP (F:Fun K "_law_green" "_law_green" lO f fd) (B:Bt mg):bh P w K mg base CX0 1 f fd WG wL:=by
 refine okA F gB fun H Q E hr h=>?_;obtain⟨be,a,ra,n,g,go,es,co,us,ps,rfl,⟨pa,ga,ta,kvs,h1,h2,h3,h4,h5,h6⟩,lg,hra,hri,hin,q⟩:=h
 refine⟨_,(aj (sT 2 gB.nd (aR (r:=jZ K) d9 U B.list_ mj (a1 (pxT K (pv 0) ao))))
 (aj (bW Wv U (cW (pv 1)) (c7 (K:=K) 2 U U (aP (pgN 3 gB.nd) (aP (pgN 4 gB.nd) cY))) (aF (ym (pv 4) (NP (pv 2) (pv 3) set_list))))
 (sR (aR (r:=eY K) bj U B.tuple_ bH (v1 2))))),?_⟩
 have lus:=hri.length;refine bO (fun σ F1=>∃ a1:Addr,σ=[oR a,oR ra,oR a1,none,none]/\aG H F1/\F1 a1=some (.lst (g.map V.int))/\H a1=none) ?_ ?_;{intro N Rc;exact⟨O,a,Y,sqT h1,gt1,ga,O,.inr (sqT h3),fun a1 hn=>Rc _ _ ⟨a1,U,au hn _,aa,hn⟩⟩};rintro σ F1 ⟨a1,rfl,gf1,ef1,hn1⟩;refine bO (fun σ H3=>∃ (u v:E8),σ=[oR a,oR ra,oR a1,u,v]/\aG H H3/\H3 a1=some (.lst ((seI g ps).map V.int))) ?_ ?_
 ·intro N Rc
  refine⟨O,ra,U,⟨_,sqL (gf1 _ _ hra)⟩,dB (K:=K) (a:=ra) (xs:=us) (fun i σ H3=>∃ (u v:E8),σ=[oR a,oR ra,oR a1,u,v]/\aG H H3/\H3 a1=some (.lst ((seI g (ps.take i)).map V.int)))
   ⟨N,gf1,ef1⟩ (fun i σ H3 _ h=>by obtain⟨_,_,_,z,_⟩:=h;exact sqL (z _ _ hra)) ?_ ?_⟩
  ·rintro i y σ H3 hx ⟨u,v,rfl,sm,e1⟩;obtain⟨e,o,sp,rfl,hp,hent⟩:=hri.get hx;obtain⟨j,ej,hj⟩:=hin _ (Wk hp);have ej:o=j:=ej;have nx:ps.take (i+1)=ps.take i++[(o,sp)]:=by rw[Wj,hp];rfl
   refine⟨e,O,sqT (sm _ _ hent),U,N,M,R,O,a1,_,_,j,U,U,e1,?_,N,aK sm hn1 _,?_⟩;{unfold ixN;rw[iPo (by lia),iPo (by rw[VH,pB];lia),ej];rfl};{rw[aa,nx,Cy,List.map_set];show _=some (HO.lst ((List.map V.int (seI g (ps.take i))).set o.toNat (.int sp)));rw[ej,Wl]}
  ·rintro σ H3 ⟨u,v,rfl,sm,e1⟩;rw[lus,V1] at e1;exact Rc _ _ ⟨u,v,U,sm,e1⟩
 rintro σ H3 ⟨u,v,rfl,sm,e1⟩;exact⟨O,a1,O,.inl ⟨sqL e1,fun l hl=>q l _ (sm.trans (au hl _)) aa⟩⟩
abbrev dI:Stmt:=top 82
def bu:aB ["_law_state","_law_rises_here","_law_seen","_law_one","_law_step","_law_behind_them"] WG (aA dI):=bZ
inductive Dc (vs:Fk)(H:Hp)(Q:VK)(e3:XK):Prop where
 | mk (be a ra:Addr) (n:Nat) (g:DU) (go:DV) (es:List Ent) (co:Nat) (us:Fk) (ps:DB) (_:vs=[.ref a,.ref ra]) (_:StR be n H a g go es co) (_:g.length=n) (_:EsU n go es co) (_:es.length<=40) (_:H ra=some (.lst us)) (_:RiI H us ps) (_:ps.length<=100) (_:∀ H',aG H H'->Q (.str (haW n g go es ps)) H')
def kJ {k:Nat} (hk:2<=k) (F:Fun K "_law_rises_refusal" "_law_rises_refusal" dI f fd) (B:Bt mg) (Rs:Df P w K mg base "_law_missing" 1 XI rY) (QP:Df P w K mg base "_law_green" 1 WG wL)
  (Re:Df P w K mg base "_law_listed" 2 XO qH) (RF:Df P w K mg base "_law_owed" k WU (xH K)):bh P w K mg base CX0 (k+1) f fd WG Dc:=by
 refine okA F bu fun H Q E hr h=>?_;obtain⟨be,a,ra,n,g,go,es,co,us,ps,rfl,hst,lg,eu,l40,hra,hri,p100,q⟩:=h
 refine⟨_,(aj (sT 2 bu.nd (aV cL))
 (aj (bW Wv U (cW (pv 1)) (c7 (K:=K) 2 U U (aP (pgN 3 bu.nd) (aP (pgN 4 bu.nd) cY))) (aj (ifR (aD zQ (aM Rs hr (v2 0 3)) aJ) (aM Rs hr (v2 0 3)))
 (aj (ifR (PW.pt (iB (fj (r:=rIn K false) dq (pv 3) (pv 2) U) (iB (aD QK (pv 4) (pxT K (pxT K (pv 0) ao) (pv 3))) (eV (aD mG (pv 4) ao))))) aJ)
 (aF (aW (rO Xg Xk Xj cI (pv 2) (v1 3)))))))
 (aj (ifR (aD (r:=Rp K) (Bx hr.iJ) (pv 1) (aV cL)) aJ)
 (aj (sT 5 bu.nd (aM QP hr (v2 0 1)))
 (aj (bW Wv U (cW (pv 1)) (c7 (K:=K) 2 U U (aP (pgN 3 bu.nd) (aP (pgN 4 bu.nd) cY))) (aF (ifR (aD mG (pv 4) (aM RF hr (aq (aM Re hr (aq (pxT K (pv 0) ao) (v1 3))) (v1 5)))) aJ)))
 (sR aJ)))))),?_⟩
 have lus:=hri.length;have st_:∀ {H':Hp},aG H H'->∃ (pa ga ta:Addr) (kvs:E6),H' a=some (.tup [.ref pa,.ref ga,.ref ta,vN co])/\H' ga=some (.tup (g.map V.int))/\H' ta=some (.dK kvs)/\TbR n H' kvs es:=fun s=>by
  obtain⟨pa,ga,ta,kvs,h1,h2,h3,h4,h5,h6⟩:=hst.same s;exact⟨pa,ga,ta,kvs,h1,h3,h4,h5⟩
 refine bO (fun σ F2=>∃ a2:Addr,σ=[oR a,oR ra,oR a2,none,none,none]/\aG H F2/\F2 a2=some (.lst [])/\H a2=none) ?_ ?_;{intro N Rc;exact⟨smN 0,fun a2 h2=>Rc _ _ ⟨a2,U,au h2 _,aa,h2⟩⟩};rintro σ F2 ⟨a2,rfl,gf2,ef2,h2⟩;refine bO (fun σ H3=>∃ (u v:E8),σ=[oR a,oR ra,oR a2,u,v,none]/\aG H H3/\Ig n g go ps ps.length) ?_ ?_
 ·intro N Rc
  refine⟨O,ra,U,⟨_,sqL (gf2 _ _ hra)⟩,dB (K:=K) (a:=ra) (xs:=us) (fun i σ H3=>∃ (u v:E8),σ=[oR a,oR ra,oR a2,u,v,none]/\aG H H3/\H3 a2=some (.lst (((ps.take i).map (·.1.toNat)).map vN))/\Ig n g go ps i)
   ⟨N,gf2,ef2,.zero n g go ps⟩ (fun i σ H3 _ h=>by obtain⟨_,_,_,z,_⟩:=h;exact sqL (z _ _ hra)) ?_ ?_⟩
  ·rintro i y σ H3 hx ⟨u,v,rfl,sm,e2,ok⟩;obtain⟨e,o,sp,rfl,hp,hent⟩:=hri.get hx;have ip:=(geS hp).1;have pne:ps≠[]:=fun z=>by rw[z] at ip;exact absurd ip (aaj _)
   have eha:riW n g go [] ps≠""->haW n g go es ps=riW n g go [] ps:=fun z=>by unfold haW;rw[iNe pne,iPo z]
   have nx:ps.take (i+1)=ps.take i++[(o,sp)]:=by rw[Wj,hp];rfl
   have wd:=ok.word hp;have hst3:=hst.same sm;refine⟨e,O,sqT (sm _ _ hent),U,N,M,?_⟩;refine bO (fun σ H4=>∃ j:Nat,o=j/\j < n/\j ∉ go/\σ=[oR a,oR ra,oR a2,some (vN j),oI sp,none]/\H4=H3) ?_ ?_
   ·intro N' Rc';refine⟨R,be,a,o,n,g,go,es,co,U,hst3,U,O,?_⟩;rcases yN n go o with⟨em,_⟩ | ⟨j,ej,hj,⟨hg,em⟩ | ⟨hg,em⟩⟩;{rw[em,show decide (V.str "no folk" = V.str "")=false from dcF bf];refine dh ⟨R,be,a,o,n,g,go,es,co,U,hst3,?_⟩;rw[iPo (by rw[em];decide)] at wd;rw[← wd,← eha (by rw[wd,em];decide)];exact q H3 sm};{rw[em,show decide (V.str "gone" = V.str "")=false from dcF bf];refine dh ⟨R,be,a,o,n,g,go,es,co,U,hst3,?_⟩;rw[iPo (by rw[em];decide)] at wd;rw[← wd,← eha (by rw[wd,em];decide)];exact q H3 sm};{rw[em,show decide (V.str "" = V.str "")=true from dcT U];exact bU (Rc' _ _ ⟨j,ej,hj,hg,by rw[ej];rfl,U⟩)}
   rintro σ H4 ⟨j,rfl,hj,hg,rfl,rfl⟩;rw[mL hj,iNe hg,iNe (fun z=>z U),Wl] at wd;obtain⟨pa,ga,ta,kvs,h1',h3',h4',h5'⟩:=st_ sm;have hjg:j < g.length:=by lia
   have gei:g.getD j 0=g[j]:=by rw[V3,VN hjg];rfl
   have bad:(j∈(ps.take i).map (·.1.toNat)∨¬ (g.getD j 0 < sp/\sp<=9))->Q (.str "bad rise") H4:=fun z=>by
    rw[iPo z] at wd;rw[← wd,← eha (by rw[wd];decide)];exact q H4 sm
   refine bO (fun σ H5=>σ=[oR a,oR ra,oR a2,some (vN j),oI sp,none]/\H5=H4/\j ∉ (ps.take i).map (·.1.toNat)/\g.getD j 0 < sp/\sp<=9) ?_ ?_
   ·intro N' Rc';refine⟨R,a2,O,.inl (sqL e2),U,iG _,O,?_⟩;rw[iNe (show ¬ false=true from VR),show vN j=V.int (j:Int) from U,jl];by_cases z:j∈(ps.take i).map (·.1.toNat);{rw[dcT z];exact dh (dh (bad (.inl z)))}
    ·rw[dcF z];refine bU ⟨R,a,Y,sqT h1',gt1,O,ga,Y,sqT h3',jG hjg,M,O,?_⟩;by_cases y:sp<=g[j];{rw[dcT y];exact dh (dh (bad (.inr (by rw[gei];lia))))}
     ·rw[dcF y];refine bU ⟨O,M,O,?_⟩;by_cases y9:9 < sp;{rw[dcT y9];exact dh (bad (.inr (by lia)))};{rw[dcF y9];exact bU (Rc' _ _ ⟨U,U,z,by rw[gei];lia,by lia⟩)}
   rintro σ H5 ⟨rfl,rfl,nin,h1'',h9''⟩;refine⟨O,.inl ⟨U,_,sqL e2⟩,O,a2,M,e2,aH (by rw[VH,VH,Wa];lia),N,aK sm h2 _,?_,ok.step hp U hj hg nin h1'' h9''⟩;rw[aa,nx,VV,VV];rfl
  ·rintro σ H3 ⟨u,v,rfl,sm,e2,ok⟩;rw[lus] at ok;exact Rc _ _ ⟨u,v,U,sm,ok⟩
 rintro σ H3 ⟨u,v,rfl,sm,ok⟩;have ri:riW n g go [] ps = "":=by
  rw[← ok.on,acP];rfl
 have al:=ok.al;rw[V1] at al;refine bO (fun σ H4=>σ=[oR a,oR ra,oR a2,u,v,none]/\aG H H4/\ps≠[]) ?_ ?_
 ·intro N Rc;refine⟨O,smN 0,fun pe he=>?_⟩;have sn:=au he (.lst []);refine⟨ra,pe,us,U,U,sqL (sn _ _ (sm _ _ hra)),sqL aa,O,?_⟩;by_cases z:ps=[]
  ·have:us=[]:=Zo (by rw[lus,z];rfl);rw[this];have e:haW n g go es ps = "bad rise":=by unfold haW;rw[iPo z]
   rw[e] at q;exact dh (q _ (sm.trans sn))
  ·have:us.isEmpty=false:=by
    cases us with
    | nil=>exact absurd (Zo lus.symm) z
    | cons _ _=>rfl
   rw[this];exact bU (Rc _ _ ⟨U,sm.trans sn,z⟩)
 rintro σ H4 ⟨rfl,s4,pne⟩;have eha:haW n g go es ps=if ∃ x∈ps,mxD 0 (owL es x.1.toNat (seI g ps)) < x.2 then ("not due" : Wt) else "":=by unfold haW;rw[iNe pne,iNe (by rw[ri];decide)]
 rw[eha] at q;refine bO (fun σ H5=>∃ gr:Addr,σ=[oR a,oR ra,oR a2,u,v,oR gr]/\aG H H5/\H5 gr=some (.tup ((seI g ps).map V.int))) ?_ ?_;{intro N Rc;exact⟨R,be,a,ra,n,g,go,es,co,us,ps,U,hst.same s4,lg,s4 _ _ hra,hri.aO fun a xs z=>s4 _ _ z,fun x hx=>by obtain⟨j,ej,hj,_⟩:=al x hx;exact⟨j,ej,hj⟩,fun gr H5 s5 e5=>Rc _ _ ⟨gr,U,s4.trans s5,e5⟩⟩};rintro σ H5 ⟨gr,rfl,s5,egr⟩;have sl:(seI g ps).length=n:=by rw[pB];exact lg
 refine n8 (fun σ H6=>aG H H6/\∀ x∈ps,¬ mxD 0 (owL es x.1.toNat (seI g ps)) < x.2) ?q4 ?t4
 case q4 =>
  rintro σ H6 ⟨s6,hno⟩;rw[iNe fun⟨x,hx,z⟩=>hno x hx z] at q;exact q H6 s6
 case t4 =>
 intro N Rc
 refine⟨O,ra,U,⟨_,sqL (s5 _ _ hra)⟩,dB (K:=K) (a:=ra) (xs:=us) (fun i σ H6=>(∃ u v:E8,σ=[oR a,oR ra,oR a2,u,v,oR gr])/\aG H5 H6/\∀ x∈ps.take i,¬ mxD 0 (owL es x.1.toNat (seI g ps)) < x.2)
  ⟨⟨N⟩,aG.refl _,fun x hx=>by rw[WD] at hx;cases hx⟩ (fun i σ H6 _ h=>sqL (h.2.1 _ _ (s5 _ _ hra))) ?_ ?_⟩
 ·rintro i y σ H6 hx ⟨⟨u,v,rfl⟩,s6,hno⟩;obtain⟨e,o,sp,rfl,hp,hent⟩:=hri.get hx;have hm:=Wk hp;obtain⟨j,ej,hj,_⟩:=al _ hm;have ej:o=j:=ej;subst ej;have s06:=s5.trans s6;obtain⟨pa,ga,ta,kvs,h1',h3',h4',h5'⟩:=st_ s06;refine⟨e,O,sqT (s06 _ _ hent),U,N,M,R,a,Y,sqT h1',gt2,O,ta,(j:Int),n,kvs,es,U,h4',h5',eu.up,l40,fun l as H7 s7 _ e7 las ps7=>⟨O,l,gr,n,as,N,e7,by lia,ps7,sqT (s7 _ _ (s6 _ _ egr)),by lia,fun H8 s8=>?_⟩⟩;refine⟨M,O,?_⟩;rw[Rt h5'.ok];by_cases z:mxD 0 (owL es j (seI g ps)) < sp;{rw[dcT z];rw[iPo ⟨_,hm,by rw[Wl];exact z⟩] at q;exact dh (q _ (s06.trans (s7.trans s8)))}
  ·rw[dcF z];refine bU ⟨⟨N⟩,s6.trans (s7.trans s8),fun x hx'=>?_⟩;rw[Wj,hp] at hx';rcases List.mem_append.mp hx' with w | w;{exact hno x w};{rw[List.mem_singleton.mp w,Wl];exact z}
 ·rintro σ H6 ⟨_,s6,hno⟩;rw[lus,V1] at hno;exact Rc _ _ ⟨s5.trans s6,hno⟩
structure Sa where
 n:Nat
 g:DU
 go:DV
 es:List Ent
 co:Nat
inductive vM where
 | come
 | leave (o:Int)
 | pledge (o:Int) (pl:Pl)
 | hand (ps:DB)
 | change (k:Int) (pl:Pl)
 | withdraw (k:Int)
def Sa.aft (A:Sa):vM->Sa
 | .come=>⟨A.n+1,A.g++[0],A.go,A.es,A.co⟩
 | .leave o=>⟨A.n,A.g,mX (A.go++[o.toNat]),A.es.filter fun e=>decide (e.2.1≠o.toNat),A.co⟩
 | .pledge o pl=>⟨A.n,A.g,A.go,A.es++[(A.co,o.toNat,pl)],A.co+1⟩
 | .hand ps=>⟨A.n,seI A.g ps,A.go,A.es,A.co⟩
 | .change k pl=>⟨A.n,A.g,A.go,chE A.es k pl,A.co⟩
 | .withdraw k=>⟨A.n,A.g,A.go,wiE A.es k,A.co⟩
def reW (A:Sa):vM->Wt
 | .come=>if 12<=A.n then "full" else ""
 | .leave o=>miW A.n A.go o
 | .pledge o pl=>plW A.n A.go A.es o pl
 | .hand ps=>haW A.n A.g A.go A.es ps
 | .change k pl=>chW A.g A.es k pl
 | .withdraw k=>wiW A.g A.es k
def vaV (A:Sa):vM->V
 | .come=>vN A.n
 | .pledge _ _=>vN A.co
 | _=>.non
inductive DeR (n:Nat)(H:Hp)(a:Addr):vM->Prop where
 | come (h:H a=some (.tup [.str "come"])):DeR n H a .come
 | leave {o:Int} (h:H a=some (.tup [.str "leave",.int o])):DeR n H a (.leave o)
 | pledge {o:Int} {p:Addr} {pl:Pl} (h:H a=some (.tup [.str "pledge",.int o,.ref p])) (q:mH n H p pl):DeR n H a (.pledge o pl)
 | hand {r:Addr} {us:Fk} {ps:DB} (h:H a=some (.tup [.str "hand",.ref r])) (hr:H r=some (.lst us)) (q:RiI H us ps) (l:ps.length<=100):DeR n H a (.hand ps)
 | change {k:Int} {p:Addr} {pl:Pl} (h:H a=some (.tup [.str "change",.int k,.ref p])) (q:mH n H p pl):DeR n H a (.change k pl)
 | withdraw {k:Int} (h:H a=some (.tup [.str "withdraw",.int k])):DeR n H a (.withdraw k)
def DeR.kp {be:Addr} {n:Nat} {H H':Hp} {a:Addr} {d:vM} (tp:∀ a ys,H a=some (HO.tup ys)->H' a=some (HO.tup ys)) (lp:∀ a ys,a≠be->H a=some (HO.lst ys)->H' a=some (HO.lst ys)) (nr:∀ r,H a=some (.tup [.str "hand",.ref r])->r≠be) (h:DeR n H a d):DeR n H' a d:=by
 cases h with
 | come h=>exact .come (tp _ _ h)
 | leave h=>exact .leave (tp _ _ h)
 | pledge h q=>exact .pledge (tp _ _ h) (q.aO tp)
 | hand h hr q l=>exact .hand (tp _ _ h) (lp _ _ (nr _ h) hr) (q.aO tp) l
 | change h q=>exact .change (tp _ _ h) (q.aO tp)
 | withdraw h=>exact .withdraw (tp _ _ h)
def DeR.sT {n:Nat}{H H':Hp}{a:Addr}{d:vM}(s:Ke H H')(h:DeR n H a d):DeR n H' a d:=by
 cases h with
 | come h=>exact .come (stT s h)
 | leave h=>exact .leave (stT s h)
 | pledge h q=>exact .pledge (stT s h) (q.aO fun a xs z=>stT s z)
 | hand h hr q l=>exact .hand (stT s h) (stL s hr) (q.aO fun a xs z=>stT s z) l
 | change h q=>exact .change (stT s h) (q.aO fun a xs z=>stT s z)
 | withdraw h=>exact .withdraw (stT s h)
def DeR.same {n:Nat}{H H':Hp}{a:Addr}{d:vM}(s:aG H H')(h:DeR n H a d):DeR n H' a d:=h.sT s.t
def DeR.live {n:Nat}{H:Hp}{a:Addr}{d:vM}(h:DeR n H a d):∃ ys,H a=some (.tup ys):=by
 cases h <;> exact⟨_,by assumption⟩
structure AOk (A:Sa):Prop where
 lg:A.g.length=A.n
 n12:A.n<=12
 l40:A.es.length<=40
 eu:EsU A.n A.go A.es A.co
 gl:∀ x∈A.go,x < A.n
def Mz {n:Nat} {go:DV} {es:List Ent} {o:Int} {pl:Pl} (h:plW n go es o pl = ""):∃ i:Nat,o=i/\i < n/\i ∉ go/\es.length < 40:=by
 unfold plW at h;by_cases z:miW n go o≠"";{rw[iPo z] at h;exact absurd h z}
 ·rw[iNe z] at h;obtain⟨i,e,hi,hg⟩:=yZ (Classical.not_not.mp z);refine⟨i,e,hi,hg,?_⟩;by_cases y:∃ x∈pl,nn o.toNat x.2=false;{rw[iPo y] at h;exact absurd h (by decide)}
  ·rw[iNe y] at h;by_cases q:40<=es.length;{rw[iPo q] at h;exact absurd h (by decide)};{lia}
def Cq (es:List Ent)(k:Int)(pl:Pl):(chE es k pl).map (·.1)=es.map (·.1):=by
 unfold chE;rw[aaT];refine aaS fun e _=>?_;show (if (e.1:Int)=k then (e.1,e.2.1,pl) else e).1=e.1
 split <;> rfl
def QM {es:List Ent}{k:Int}{pl:Pl}{e:Ent}(h:e∈chE es k pl):∃ e'∈es,e.1=e'.1/\e.2.1=e'.2.1:=by
 obtain⟨e',he',rfl⟩:=List.mem_map.mp h;refine⟨e',he',?_⟩;show (if (e'.1:Int)=k then (e'.1,e'.2.1,pl) else e').1=e'.1/\(if (e'.1:Int)=k then (e'.1,e'.2.1,pl) else e').2.1=e'.2.1
 split <;> exact⟨U,U⟩
def AOk.aft {A:Sa} {d:vM} (k:AOk A) (h:reW A d = ""):AOk (A.aft d):=by
 cases d with
 | come =>
  have h12:¬ 12<=A.n:=fun z=>by
   have e:reW A .come = "full":=iPo z;rw[e] at h;exact absurd h (by decide)
  exact⟨by show (A.g++[0]).length=A.n+1;rw[V6,k.lg];rfl,by show A.n+1<=12;lia,k.l40,⟨k.eu.up,fun e he=>by have:=k.eu.lt e he;exact⟨this.1,WX this.2.1,this.2.2⟩⟩,fun x hx=>WX (k.gl x hx)⟩
 | leave o =>
  obtain⟨i,e,hi,hg⟩:=yZ (show miW A.n A.go o = "" from h);have eo:o.toNat=i:=by lia
  have mem:∀ y,y∈mX (A.go++[o.toNat]) ↔ y∈A.go∨y=i:=fun y=>by rw[(fZ _).mem_iff,aaO,Ym,eo]
  refine⟨k.lg,k.n12,Wn (WW _ _) k.l40,⟨k.eu.up.sublist (List.filter_sublist.map _),fun e he=>?_⟩,fun x hx=>?_⟩;{have h1:=List.mem_filter.mp he;have h2:=k.eu.lt e h1.1;have h3:e.2.1≠o.toNat:=of_decide_eq_true h1.2;exact⟨h2.1,h2.2.1,fun z=>((mem _).mp z).elim h2.2.2 fun y=>h3 (by lia)⟩}
  ·rcases (mem x).mp hx with z | z;{exact k.gl x z};{rw[z];exact hi}
 | pledge o pl =>
  obtain⟨i,e,hi,hg,hl⟩:=Mz (show plW A.n A.go A.es o pl = "" from h);have eo:o.toNat=i:=by lia
  refine⟨k.lg,k.n12,by show (A.es++[_]).length<=40;rw[V6];show A.es.length+1<=40;lia,⟨?_,fun e he=>?_⟩,k.gl⟩
  ·show (List.map _ (A.es++[(A.co,o.toNat,pl)])).Pairwise _;rw[VV,aaH];refine⟨k.eu.up,by simp,fun x hx y hy=>?_⟩;obtain⟨e,he,rfl⟩:=List.mem_map.mp hx;have hy':y=A.co:=by simpa using hy
   rw[hy'];exact (k.eu.lt e he).1
  ·rcases List.mem_append.mp he with z | z;{have:=k.eu.lt e z;exact⟨WX this.1,this.2⟩};{rw[List.mem_singleton.mp z];exact⟨XS _,by rw[eo];exact hi,by rw[eo];exact hg⟩}
 | hand ps=>exact⟨by show (seI A.g ps).length=A.n;rw[pB];exact k.lg,k.n12,k.l40,k.eu,k.gl⟩
 | change j pl =>
  refine⟨k.lg,k.n12,by show (chE A.es j pl).length<=40;unfold chE;rw[VH];exact k.l40,⟨by show ((chE A.es j pl).map _).Pairwise _;rw[Cq];exact k.eu.up,fun e he=>?_⟩,k.gl⟩;obtain⟨e',h1,h2,h3⟩:=QM he;rw[h2,h3];exact k.eu.lt e' h1
 | withdraw j=>exact⟨k.lg,k.n12,Wn (WW _ _) k.l40,⟨k.eu.up.sublist (List.filter_sublist.map _),fun e he=>k.eu.lt e (List.mem_filter.mp he).1⟩,k.gl⟩
section
variable {n:Nat}{H:Hp}
theorem TbR.drop {k:Int}:∀ {kvs:E6} {es:List Ent},TbR n H kvs es->TbR n H (Ar kvs (Xf k)) (wiE es k)
 | _,_,.nil=>.nil
 | _,_,.cons (num:=num) h q r=>by
  unfold Ar wiE;by_cases z:(num:Int)=k;{rw[Yp (by rw[z];simp),Yp (by rw[z];simp)];exact TbR.drop r};{rw[Yo (by exact dcT fun y=>z (abM y)),Yo (by exact dcT z)];exact .cons h q (TbR.drop r)}
theorem TbR.put {k:Int}{t p:Addr}{one:Nat}{pl:Pl}(ht:H t=some (.tup [vN one,.ref p]))(hp:mH n H p pl):∀ {kvs:E6} {es:List Ent},TbR n H kvs es->(∀ e∈es,(e.1:Int)=k->e.2.1=one)->TbR n H (kvs.map fun kv=>if kv.1=Xf k then (kv.1,.ref t) else kv) (chE es k pl)
 | _,_,.nil,_=>.nil
 | _,_,.cons (num:=num) (one:=o2) (pl:=pl2) (es:=es) h q r,he=>by
  have ih:=TbR.put (k:=k) ht hp r fun e hm=>he e (V7 _ hm);unfold chE at ih ⊢;rw[WR,WR];by_cases z:(num:Int)=k;{rw[iPo (show (Xf (num:Int):Key)=Xf k by rw[z]),iPo (show ((num,o2,pl2):Ent).1=(k:Int) from z)];have eo:o2=one:=he _ V0 z;exact .cons (by rw[eo];exact ht) hp ih};{rw[iNe (show ¬ (Xf (num:Int):Key)=Xf k from fun y=>z (abM y)),iNe (show ¬ ((num,o2,pl2):Ent).1=(k:Int) from z)];exact .cons h q ih}
def TbR.find {k:Int}{e:Ent}{kvs:E6}{es:List Ent}(r:TbR n H kvs es)(nd:(es.map (·.1)).Nodup)(h:fnE es k=some e):∃ (t p:Addr),tQ kvs (Xf k)=some (.ref t)/\H t=some (.tup [vN e.2.1,.ref p])/\mH n H p e.2.2:=by
 obtain⟨hm,hk⟩:=jw h;obtain⟨i,hi⟩:=List.getElem?_of_mem hm;obtain⟨t,p,h1,h2,h3⟩:=r.val nd hi;rw[hk] at h1;exact⟨t,p,h1,h2,h3⟩
end
abbrev lY:Stmt:=top 80
def xg:aB WA WA (aA lY):=bZ
inductive Cm (vs:Fk)(H:Hp)(Q:VK)(e3:XK):Prop where
 | mk (be a ta:Addr) (one n:Nat) (g:DU) (go:DV) (es:List Ent) (co:Nat) (kv:E6) (es':List Ent) (_:vs=[.ref a,vN one,.ref ta]) (_:StR be n H a g go es co) (_:g.length=n) (_:one < n) (_:H ta=some (.dK kv)) (_:TbR n H kv es') (_:(es'.map (·.1)).Pairwise (· < ·)) (_:es'.length<=40) (_:∀ (c:Bool) (H':Hp),aG H H'->(c=true ↔ bdW g es' one≠"")->Q (.bl c) H')
def yS {k:Nat} (hk:2<=k) (F:Fun K "_law_bound" "_law_bound" lY f fd) (B:Bt mg) (Re:Df P w K mg base "_law_listed" 2 XO qH) (RF:Df P w K mg base "_law_owed" k WU (xH K)):bh P w K mg base CX0 (k+1) f fd WA Cm:=by
 refine okA F xg fun H Q E hr h=>?_;obtain⟨be,a,ta,one,n,g,go,es,co,kv,es',rfl,hst,lg,hone,hta,tb,up,l40,q⟩:=h;refine⟨_,(sR (du mG (pxT K (pxT K (pv 0) ao) (pv 1)) (aM RF hr (aq (aM Re hr (v2 2 1)) (a1 (pxT K (pv 0) ao)))))),?_⟩;obtain⟨pa,ga,ta0,kvs,h1,h2,h3,h4,h5,h6⟩:=hst;have hol:one < g.length:=by lia
 have gei:g.getD one 0=g[one]:=by rw[V3,VN hol];rfl
 refine⟨O,a,Y,sqT h1,gt1,O,ga,Y,sqT h3,jG hol,R,ta,(one:Int),n,kv,es',U,hta,tb,up,l40,fun l as H1 s1 _ e1 las ps=>⟨O,a,Y,sqT (s1 _ _ h1),gt1,l,ga,n,as,N,e1,by lia,ps,sqT (s1 _ _ h3),by lia,fun H2 s2=>?_⟩⟩;refine⟨M,q _ _ (s1.trans s2) ?_⟩;rw[Rt tb.ok];unfold bdW;rw[gei];by_cases z:mxD 0 (owL es' one g) < g[one];{rw[iPo z,dcT z];exact⟨fun _=>by decide,fun _=>U⟩};{rw[iNe z,dcF z];exact⟨fun y=>(by cases y),fun y=>absurd rfl y⟩}
abbrev fc:Stmt:=top 83
def iH:aB ["_law_state","_law_deed_here","_law_table"] WI (aA fc):=bZ
def twE (es:List Ent):vM->List Ent
 | .change k pl=>chE es k pl
 | .withdraw k=>wiE es k
 | _=>es
def twK:vM->DL
 | .change k _=>some k
 | .withdraw k=>some k
 | _=>none
inductive zB (vs:Fk)(H:Hp)(Q:VK)(e3:XK):Prop where
 | mk (be a da:Addr) (A:Sa) (d:vM) (k:Int) (e:Ent) (_:vs=[.ref a,.ref da]) (_:StR be A.n H a A.g A.go A.es A.co) (_:AOk A) (_:DeR A.n H da d) (_:twK d=some k) (_:fnE A.es k=some e) (_:∀ (ta:Addr) (kv:E6) (H':Hp),aG H H'->H' ta=some (.dK kv)->TbR A.n H' kv (twE A.es d)->Q (.ref ta) H')
def pA (F:Fun K "_law_table_with" "_law_table_with" fc f fd) (B:Bt mg) (OY:mg "dict" = none):bh P w K mg base CX0 1 f fd WI zB:=by
 refine okA F iH fun H Q E hr h=>?_;obtain⟨be,a,da,S,d,k,e,rfl,hst,ok,hd,hk,hf,q⟩:=h
 refine⟨_,(aj (sT 2 iH.nd (aR (r:=Af) tu U OY JF (a1 (pxT K (pv 0) ao))))
 (aj (cP (aD bc (pxT K (pv 1) ao) aJ) (aF (Ae hr.jF (pv 2) (pxT K (pv 1) ao) (aU (aq (pxT K (lC hr.jF (pv 2) (pxT K (pv 1) ao) (fun _ _=>U)) ao) (a1 (pxT K (pv 1) ao)))) U)) (aF (aW (JM (pv 2) (pxT K (pv 1) ao) ⟨U,U,U,U⟩))))
 (sR (pv 2)))),?_⟩
 obtain⟨pa,ga,ta,kvs,h1,h2,h3,h4,h5,h6⟩:=hst;have nd:=ok.eu.nd;have l40:=ok.l40;have lk:=h5.length;obtain⟨t,p0,hv,ht,hp0⟩:=h5.find nd hf;obtain⟨hm,hek⟩:=jw hf;refine bO (fun σ H1=>∃ tb:Addr,σ=[oR a,oR da,oR tb]/\aG H H1/\H tb=none/\H1 tb=some (.dK kvs)) ?_ ?_;{intro N Rc;exact⟨O,a,Y,sqT h1,gt2,ta,kvs,U,h4,fun tb htb=>Rc _ _ ⟨tb,U,au htb _,htb,aa⟩⟩};rintro σ H1 ⟨tb,rfl,s1,ftb,etb⟩;refine n8 (fun σ H2=>∃ kv:E6,σ=[oR a,oR da,oR tb]/\aG H H2/\H2 tb=some (.dK kv)/\TbR S.n H2 kv (twE S.es d)) ?q1 ?t1
 case q1 =>
  rintro σ H2 ⟨kv,rfl,s2,e2,r2⟩;exact⟨O,q tb kv H2 s2 e2 r2⟩
 case t1 =>
 intro N Rc;cases hd with
 | come h=>cases hk
 | leave h=>cases hk
 | pledge h _=>cases hk
 | hand h _ _ _=>cases hk
 | change hda hp =>
  rename_i k' p pl;obtain rfl:k'=k:=WL hk;refine⟨O,da,Y,sqT (s1 _ _ hda),J,?_⟩;rw[show decide (V.str "change" = V.str "change")=true from dcT U];have dg:uf H1 tb (.int k') (some (.ref t)):=by
   rw[← hv];exact uf.k (k:=Xf k') etb
  refine dh ⟨R,da,Y,sqT (s1 _ _ hda),gt1,tb,O,dg,t,Y,sqT (s1 _ _ ht),gt0,O,da,Y,sqT (s1 _ _ hda),gt2,smN 2,fun t2 ht2=>?_⟩;have sn:=au ht2 (.tup [vN e.2.1,.ref p]);have etb':=sn _ _ etb;have ntt:tb≠t2:=fun z=>by rw[z,ht2] at etb;cases etb
  have tk:∀ b ys,upd H1 t2 (.tup [vN e.2.1,.ref p]) b=some (HO.tup ys)->upd (upd H1 t2 (.tup [vN e.2.1,.ref p])) tb (.dK (putK kvs (Xf k') (.ref t2))) b=some (HO.tup ys):=fun b ys hb=>by rw[aL fun y=>by rw[y,etb'] at hb;cases hb];exact hb
  have eput:putK kvs (Xf k') (.ref t2)=kvs.map fun kv=>if kv.1=Xf k' then (kv.1,.ref t2) else kv:=by
   unfold putK;rw[iPo (by rw[qC,hv];rfl)]
  refine⟨R,da,Y,sqT (sn _ _ (s1 _ _ hda)),gt1,tb,O,Ph.k (k:=Xf k') etb' (V4 (show kvs.length < 1000 by lia) (by decide)),Rc _ _ ⟨O,aK (s1.trans sn) ftb _,aa,?_⟩⟩;have mono:∀ b ys,H b=some (HO.tup ys)->upd (upd H1 t2 (.tup [vN e.2.1,.ref p])) tb (.dK (putK kvs (Xf k') (.ref t2))) b=some (HO.tup ys):=fun b ys hb=>tk _ _ (sn _ _ (s1 _ _ hb));have r1:TbR S.n (upd (upd H1 t2 (.tup [vN e.2.1,.ref p])) tb (.dK (putK kvs (Xf k') (.ref t2)))) kvs S.es:=h5.aO mono;rw[eput] at r1 mono tk ⊢;exact TbR.put (k:=k') (tk _ _ aa) (hp.aO mono) r1 fun e' he' z=>by rw[zK nd he' hm (by lia)]
 | withdraw hda =>
  rename_i k';obtain rfl:k'=k:=WL hk;refine⟨O,da,Y,sqT (s1 _ _ hda),J,?_⟩;rw[show decide (V.str "withdraw" = V.str "change")=false from dcF bf];refine bU ⟨O,tb,U,?_,O,da,Y,sqT (s1 _ _ hda),gt1,kvs,Xf k',_,etb,U,hv,Rc _ _ ⟨O,aK s1 ftb _,aa,?_⟩⟩;{exact .inl ⟨kvs,.inl etb⟩};{refine TbR.drop (h5.aO fun b ys hb=>?_);have hb1:=s1 _ _ hb;rw[aL fun y=>by rw[y,etb] at hb1;cases hb1];exact hb1}
def nNx {N:St->Hp->Prop}{r:V->Hp->Prop}{σ:St}{H:Hp}(h:N σ H):Ly { nx:=N,rt:=r } σ H:=h
abbrev jj:Stmt:=top 84
def gQ:aB ["_law_state","_law_deed_here","_law_word","_law_one"] WI (aA jj):=bZ
inductive yg (vs:Fk)(H:Hp)(Q:VK)(e3:XK):Prop where
 | mk (be a da:Addr) (A:Sa) (d:vM) (_:vs=[.ref a,.ref da]) (_:StR be A.n H a A.g A.go A.es A.co) (_:AOk A) (_:DeR A.n H da d) (_:∀ H',aG H H'->Q (.str (reW A d)) H')
def uq {k:Nat} (hk:5<=k) (F:Fun K "_law_refusal" "_law_refusal" jj f fd) (B:Bt mg) (Rs:Df P w K mg base "_law_missing" 1 XI rY) (QO:Df P w K mg base "_law_good" 5 VW Nb)
  (RW:Df P w K mg base "_law_rises_refusal" k WG Dc) (P9:Df P w K mg base "_law_bound" k WA Cm) (Sc:Df P w K mg base "_law_table_with" 1 WI zB):bh P w K mg base CX0 (k+1) f fd WI yg:=by
 refine okA F gQ fun H Q E hr h=>?_;obtain⟨be,a,da,S,d,rfl,hst,ok,hd,q⟩:=h
 refine⟨_,(aj (ifR (aD bc (pxT K (pv 1) ao) aJ) (m5 (aD kY (pln K B.len_ (pxT K (pv 0) ao)) ao) aJ aJ))
 (aj (ifR (aD bc (pxT K (pv 1) ao) aJ) (aM RW hr (aq (pv 0) (a1 (pxT K (pv 1) ao)))))
 (aj (cP (fj (r:=rIn K false) dq (pxT K (pv 1) ao) (aU (aq aJ (a1 aJ))) U) (aj (sT 2 gQ.nd (aM Rs hr (aq (pv 0) (a1 (pxT K (pv 1) ao)))))
 (aj (cP (PW.pt (jW (aD bc (pv 2) aJ) (fO (aD bc (pxT K (pv 1) ao) aJ)))) (aj (ifR (dM (cu (aM QO hr (aq (pv 0) (aq (pxT K (pv 1) ao) (a1 (pxT K (pv 1) ao))))))) aJ)
 (sR (m5 (aD kY (aQ (r:=Te) DR U B.len_ Nq (a1 (pxT K (pv 0) ao))) ao) aJ aJ))) aX)
 (sR (pv 2)))) aX)
 (aj (ifR (Nu (HN hr.jF (pxT K (pv 1) ao) (pxT K (pv 0) ao))) aJ)
 (aj (sT 3 gQ.nd (pxT K (lC hr.jF (pxT K (pv 0) ao) (pxT K (pv 1) ao) (fun _ _=>U)) ao))
 (aj (ifR (PW.pt (jW (aD bc (pxT K (pv 1) ao) aJ) (fO (dM (cu (aM QO hr (aq (pv 0) (aq (pv 3) (a1 (pxT K (pv 1) ao)))))))))) aJ)
 (sR (m5 (cu (aM P9 hr (aq (pv 0) (aq (pv 3) (a1 (aM Sc hr (v2 0 1))))))) aJ aJ)))))))),?_⟩
 obtain⟨pa,ga,ta,kvs,h1,h2,h3,h4,h5,h6⟩:=id hst;cases hd with
 | come hda =>
  refine⟨O,da,Y,sqT hda,J,gU U ⟨O,a,Y,sqT h1,gt0,pa,O,.inl (sqL h2),M,O,?_⟩⟩;rw[dD];have qq:=q H (aG.refl H);by_cases z:12<=S.n;{rw[dcT (by lia)];rw[show reW S .come = "full" from iPo z] at qq;exact dh qq};{rw[dcF (by lia)];rw[show reW S .come = "" from iNe z] at qq;exact bU qq}
 | leave hda =>
  rename_i o;refine⟨O,da,Y,sqT hda,J,aZ bf (nN ⟨O,da,Y,sqT hda,J,aZ bf (nN ⟨O,da,Y,sqT hda,gt0,smN 2,fun p1 hp1=>?_⟩)⟩)⟩;have sn:=au hp1 (.tup [.str "leave",.str "pledge"]);refine⟨p1,O,.inr (sqT aa),U,U,O,Kw (by decide+kernel) ?_⟩;refine bO (fun σ H1=>σ=[oR a,oR da,some (.str (miW S.n S.go o)),none]/\H1=upd H p1 (.tup [.str "leave",.str "pledge"])) ?_ ?_;{intro N Rc;exact⟨R,da,Y,sqT (sn _ _ hda),gt1,be,a,o,S.n,S.g,S.go,S.es,S.co,U,hst.same sn,Rc _ _ ⟨U,U⟩⟩};rintro σ H1 ⟨rfl,rfl⟩;refine n8 (fun σ H1=>σ=[oR a,oR da,some (.str (miW S.n S.go o)),none]/\H1=upd H p1 (.tup [.str "leave",.str "pledge"])) (fun σ H1 z=>by obtain⟨rfl,rfl⟩:=z;exact⟨O,q _ sn⟩) fun N Rc=>?_;refine mQ (fun c H1=>c=false/\H1=upd H p1 (.tup [.str "leave",.str "pledge"])) (fun Q' Rq=>?_) (fun H1 z=>by cases z.1) (fun H1 z=>by obtain⟨-,rfl⟩:=z;exact Rc _ _ ⟨U,U⟩);refine⟨T,?_⟩;refine kI (fun _=>?_) (fun z=>Rq _ _ ⟨U,U⟩);refine⟨O,da,Y,sqT (sn _ _ hda),J,?_⟩;rw[show decide (V.str "leave" = V.str "pledge")=false from dcF bf];exact Rq _ _ ⟨U,U⟩
 | pledge hda hp =>
  rename_i o p pl;refine⟨O,da,Y,sqT hda,J,aZ bf (nN ⟨O,da,Y,sqT hda,J,aZ bf (nN ⟨O,da,Y,sqT hda,gt0,smN 2,fun p1 hp1=>?_⟩)⟩)⟩;have sn:=au hp1 (.tup [.str "leave",.str "pledge"]);refine⟨p1,O,.inr (sqT aa),U,U,O,Kw (by decide+kernel) ?_⟩;refine n8 (fun σ H1=>σ=[oR a,oR da,some (.str (miW S.n S.go o)),none]/\H1=upd H p1 (.tup [.str "leave",.str "pledge"])) ?qP0 ?tP0
  case tP0 =>
   intro N Rc;exact⟨R,da,Y,sqT (sn _ _ hda),gt1,be,a,o,S.n,S.g,S.go,S.es,S.co,U,hst.same sn,Rc _ _ ⟨U,U⟩⟩
  case qP0 =>
  rintro σ H1 ⟨rfl,rfl⟩;refine n8 (fun σ H1=>σ=[oR a,oR da,some (.str (miW S.n S.go o)),none]/\H1=upd H p1 (.tup [.str "leave",.str "pledge"])/\¬ miW S.n S.go o = "") ?qP1 ?tP1
  case qP1 =>
   rintro σ H1 ⟨rfl,rfl,z⟩;have e:reW S (.pledge o pl)=miW S.n S.go o:=by
    show plW _ _ _ _ _=_;unfold plW;rw[iPo z]
   rw[e] at q;exact⟨O,q _ sn⟩
  case tP1 =>
  intro N Rc;refine mQ (fun c H1=>H1=upd H p1 (.tup [.str "leave",.str "pledge"])/\c=decide (miW S.n S.go o = "")) (fun Q' Rq=>?_) ?pl (fun H1 z=>by obtain⟨rfl,y⟩:=z;exact Rc _ _ ⟨U,U,of_decide_eq_false y.symm⟩)
  ·refine⟨T,?_⟩;by_cases z:miW S.n S.go o = "";{rw[show decide (V.str (miW S.n S.go o)=V.str "")=true from dcT (by rw[z])];refine dh ⟨O,da,Y,sqT (sn _ _ hda),J,?_⟩;rw[show decide (V.str "pledge" = V.str "pledge")=true from dcT U];exact Rq _ _ ⟨U,(dcT z).symm⟩};{rw[show decide (V.str (miW S.n S.go o)=V.str "")=false from dcF (Jo z)];exact bU (Rq _ _ ⟨U,(dcF z).symm⟩)}
  case pl =>
   rintro H1 ⟨rfl,z⟩;have z:=of_decide_eq_true z.symm;obtain⟨i,rfl,hi,hg⟩:=yZ z;have e0:reW S (.pledge (i:Int) pl)=if ∃ x∈pl,nn i x.2=false then ("bad pledge" : Wt) else if 40<=S.es.length then "full" else "":=by
    show plW _ _ _ _ _=_;unfold plW;rw[z,iNe (fun y=>y U),Wl]
   rw[e0] at q;have n12:=ok.n12;refine bO (fun σ H2=>σ=[oR a,oR da,some (.str (miW S.n S.go (i:Int))),none]/\aG H H2/\¬ ∃ x∈pl,nn i x.2=false) ?_ ?_
   ·intro N Rc;refine⟨R,da,Y,sqT (sn _ _ hda),gt1,O,da,Y,sqT (sn _ _ hda),gt2,be,a,p,i,S.n,S.g,S.go,S.es,S.co,pl,U,hst.same sn,hp.mono sn,by lia,n12,fun y H2 s2=>?_,fun y H2 s2=>?_⟩
    ·refine⟨false,U,?_⟩;show if (!false)=true then _ else _
     rw[iPo y] at q;exact dh (q _ (sn.trans s2))
    ·refine⟨true,U,?_⟩;show if (!true)=true then _ else _
     exact bU (Rc _ _ ⟨U,sn.trans s2,y⟩)
   rintro σ H2 ⟨rfl,s2,hn⟩;rw[iNe hn] at q;refine⟨O,a,Y,sqT (s2 _ _ h1),gt2,ta,kvs,U,s2 _ _ h4,M,O,?_⟩;rw[h5.length];by_cases y:40<=S.es.length;{rw[dcT (by lia)];rw[iPo y] at q;exact dh (q _ s2)};{rw[dcF (by lia)];rw[iNe y] at q;exact bU (q _ s2)}
 | hand hda hr' hri lp =>
  rename_i r us ps;exact⟨O,da,Y,sqT hda,J,aZ bf (nN ⟨O,da,Y,sqT hda,J,gU U ⟨R,da,Y,sqT hda,gt1,be,a,r,S.n,S.g,S.go,S.es,S.co,us,ps,U,hst,ok.lg,ok.eu,ok.l40,hr',hri,lp,q⟩⟩)⟩
 | change hda hp =>
  rename_i k' p pl;refine⟨O,da,Y,sqT hda,J,aZ bf (nN ⟨O,da,Y,sqT hda,J,aZ bf (nN ⟨O,da,Y,sqT hda,gt0,smN 2,fun p1 hp1=>?_⟩)⟩)⟩;have sn:=au hp1 (.tup [.str "leave",.str "pledge"]);refine⟨p1,O,.inr (sqT aa),U,U,O,kO (by decide+kernel) (nN ?_)⟩;generalize eH1:upd H p1 _=H1 at sn ⊢;have ew:reW S (.change k' pl)=chW S.g S.es k' pl:=rfl;rw[ew] at q;have dg:∀ (o:E8),tQ kvs (Xf k')=o->uf H1 ta (.int k') o:=fun o ho=>by
   rw[← ho];exact uf.k (k:=Xf k') (sn _ _ h4)
  cases hf:fnE S.es k' with
  | none =>
   have e0:chW S.g S.es k' pl = "no pledge":=by unfold chW;rw[hf]
   rw[e0] at q;exact⟨O,da,Y,sqT (sn _ _ hda),gt1,O,a,Y,sqT (sn _ _ h1),gt2,ta,none,U,dg none (h5.none (wB hf)),O,dh (q _ sn)⟩
  | some e =>
   obtain⟨t,p0,hv,ht,hp0⟩:=h5.find ok.eu.nd hf;obtain⟨hm,hek⟩:=jw hf;have hlt:=ok.eu.lt e hm;have n12:=ok.n12;refine⟨O,da,Y,sqT (sn _ _ hda),gt1,O,a,Y,sqT (sn _ _ h1),gt2,ta,some (.ref t),U,dg _ hv,O,bU (nNx ?_)⟩;refine bO (fun σ H2=>σ=[oR a,oR da,none,some (vN e.2.1)]/\H2=H1) ?_ ?_;{intro N Rc;exact⟨O,a,Y,sqT (sn _ _ h1),gt2,O,da,Y,sqT (sn _ _ hda),gt1,ta,O,dg _ hv,t,Y,sqT (sn _ _ ht),gt0,Rc _ _ ⟨U,U⟩⟩};rintro σ H2 ⟨rfl,rfl⟩;have e0:chW S.g S.es k' pl=if ∃ x∈pl,nn e.2.1 x.2=false then ("bad pledge" : Wt) else bdW S.g (chE S.es k' pl) e.2.1:=by unfold chW;rw[hf]
   rw[e0] at q;refine bO (fun σ H3=>σ=[oR a,oR da,none,some (vN e.2.1)]/\aG H2 H3/\¬ ∃ x∈pl,nn e.2.1 x.2=false) ?_ ?_
   ·intro N Rc;refine⟨O,da,Y,sqT (sn _ _ hda),J,gU U ⟨R,O,da,Y,sqT (sn _ _ hda),gt2,be,a,p,(e.2.1:Nat),S.n,S.g,S.go,S.es,S.co,pl,U,hst.same sn,hp.mono sn,by lia,n12,fun y H3 s3=>?_,fun y H3 s3=>?_⟩⟩
    ·refine⟨false,U,?_⟩;show if (!false)=true then _ else _
     rw[iPo y] at q;exact dh (q _ (sn.trans s3))
    ·refine⟨true,U,?_⟩;show if (!true)=true then _ else _
     exact bU (Rc _ _ ⟨U,s3,y⟩)
   rintro σ H3 ⟨rfl,s3,hn⟩;rw[iNe hn] at q;have s03:=sn.trans s3;refine⟨R,R,be,a,da,S,(.change k' pl),k',e,U,hst.same s03,ok,.change (s03 _ _ hda) (hp.mono s03),U,hf,fun tb kv H4 s4 e4 r4=>⟨be,a,tb,e.2.1,S.n,S.g,S.go,S.es,S.co,kv,O,hst.same (s03.trans s4),ok.lg,hlt.2.1,e4,r4,?_,?_,fun c H5 s5 hc=>⟨c,U,?_⟩⟩⟩;{show ((chE S.es k' pl).map _).Pairwise _;rw[Cq];exact ok.eu.up};{show (chE S.es k' pl).length<=40;unfold chE;rw[VH];exact ok.l40}
   ·have hb:bdW S.g (chE S.es k' pl) e.2.1=if mxD 0 (owL (chE S.es k' pl) e.2.1 S.g) < S.g.getD e.2.1 0 then ("bound" : Wt) else "":=rfl
    by_cases y:mxD 0 (owL (chE S.es k' pl) e.2.1 S.g) < S.g.getD e.2.1 0;{rw[iPo y] at hb;rw[hb] at q;have:c=true:=hc.mpr (by show bdW S.g (chE S.es k' pl) e.2.1≠"";rw[hb];decide);rw[this];exact dh (q _ (s03.trans (s4.trans s5)))}
    ·rw[iNe y] at hb;rw[hb] at q;have:c=false:=by
      cases c with
      | false=>rfl
      | true=>exact absurd hb (hc.mp U)
     rw[this];exact bU (q _ (s03.trans (s4.trans s5)))
 | withdraw hda =>
  rename_i k';refine⟨O,da,Y,sqT hda,J,aZ bf (nN ⟨O,da,Y,sqT hda,J,aZ bf (nN ⟨O,da,Y,sqT hda,gt0,smN 2,fun p1 hp1=>?_⟩)⟩)⟩;have sn:=au hp1 (.tup [.str "leave",.str "pledge"]);refine⟨p1,O,.inr (sqT aa),U,U,O,kO (by decide+kernel) (nN ?_)⟩;generalize eH1:upd H p1 _=H1 at sn ⊢;have ew:reW S (.withdraw k')=wiW S.g S.es k':=rfl;rw[ew] at q;have dg:∀ (o:E8),tQ kvs (Xf k')=o->uf H1 ta (.int k') o:=fun o ho=>by
   rw[← ho];exact uf.k (k:=Xf k') (sn _ _ h4)
  cases hf:fnE S.es k' with
  | none =>
   have e0:wiW S.g S.es k' = "no pledge":=by unfold wiW;rw[hf]
   rw[e0] at q;exact⟨O,da,Y,sqT (sn _ _ hda),gt1,O,a,Y,sqT (sn _ _ h1),gt2,ta,none,U,dg none (h5.none (wB hf)),O,dh (q _ sn)⟩
  | some e =>
   obtain⟨t,p0,hv,ht,hp0⟩:=h5.find ok.eu.nd hf;obtain⟨hm,hek⟩:=jw hf;have hlt:=ok.eu.lt e hm;have n12:=ok.n12;refine⟨O,da,Y,sqT (sn _ _ hda),gt1,O,a,Y,sqT (sn _ _ h1),gt2,ta,some (.ref t),U,dg _ hv,O,bU (nNx ?_)⟩;refine bO (fun σ H2=>σ=[oR a,oR da,none,some (vN e.2.1)]/\H2=H1) ?_ ?_;{intro N Rc;exact⟨O,a,Y,sqT (sn _ _ h1),gt2,O,da,Y,sqT (sn _ _ hda),gt1,ta,O,dg _ hv,t,Y,sqT (sn _ _ ht),gt0,Rc _ _ ⟨U,U⟩⟩};rintro σ H2 ⟨rfl,rfl⟩;have e0:wiW S.g S.es k'=bdW S.g (wiE S.es k') e.2.1:=by unfold wiW;rw[hf]
   rw[e0] at q;refine bO (fun σ H3=>σ=[oR a,oR da,none,some (vN e.2.1)]/\aG H2 H3) ?_ ?_;{intro N Rc;refine⟨O,da,Y,sqT (sn _ _ hda),J,?_⟩;rw[show decide (V.str "withdraw" = V.str "change")=false from dcF bf];exact bU (bU (Rc _ _ ⟨U,aG.refl _⟩))};rintro σ H3 ⟨rfl,s3⟩;have s03:=sn.trans s3;refine⟨R,R,be,a,da,S,(.withdraw k'),k',e,U,hst.same s03,ok,.withdraw (s03 _ _ hda),U,hf,fun tb kv H4 s4 e4 r4=>⟨be,a,tb,e.2.1,S.n,S.g,S.go,S.es,S.co,kv,O,hst.same (s03.trans s4),ok.lg,hlt.2.1,e4,r4,?_,?_,fun c H5 s5 hc=>⟨c,U,?_⟩⟩⟩;{exact ok.eu.up.sublist (List.filter_sublist.map _)};{exact Wn (WW _ _) ok.l40}
   ·have hb:bdW S.g (wiE S.es k') e.2.1=if mxD 0 (owL (wiE S.es k') e.2.1 S.g) < S.g.getD e.2.1 0 then ("bound" : Wt) else "":=rfl
    by_cases y:mxD 0 (owL (wiE S.es k') e.2.1 S.g) < S.g.getD e.2.1 0;{rw[iPo y] at hb;rw[hb] at q;have:c=true:=hc.mpr (by show bdW S.g (wiE S.es k') e.2.1≠"";rw[hb];decide);rw[this];exact dh (q _ (s03.trans (s4.trans s5)))}
    ·rw[iNe y] at hb;rw[hb] at q;have:c=false:=by
      cases c with
      | false=>rfl
      | true=>exact absurd hb (hc.mp U)
     rw[this];exact bU (q _ (s03.trans (s4.trans s5)))
abbrev lV:Stmt:=top 85
def cA:aB ["_law_state","_law_deed_here","_law_present","_law_green_there","_law_table","_law_coming_number","_law_left","_law_some","_law_number"] WI (aA lV):=bZ
inductive IK (vs:Fk)(H:Hp)(Q:VK)(e3:XK):Prop where
 | mk (be a da:Addr) (A:Sa) (d:vM) (o:HO) (_:vs=[.ref a,.ref da]) (_:StR be A.n H a A.g A.go A.es A.co) (_:H be=some o) (_:AOk A) (_:DeR A.n H da d) (_:reW A d = "") (_:∀ (a':Addr) (H':Hp),aG H H'->StR be (A.aft d).n H' a' (A.aft d).g (A.aft d).go (A.aft d).es (A.aft d).co->Q (.ref a') H')
def Lh {n:Nat}{go:DV}(h:∀ x∈go,x < n):prF (n+1) go=prF n go++[.bl true]:=by
 unfold prF;rw[aak,VV];congr 1;show[V.bl (decide (n ∉ go))]=_;rw[dcT (show n ∉ go from fun z=>Xa _ (h n z))]
theorem Fy {n:Nat} {g:DU} {go:DV}:∀ {ps:DB} {seen:DV},riW n g go seen ps = ""->∀ x∈ps,∃ j:Nat,x.1=j/\j < n
 | [],_,_,x,hx=>by cases hx
 | y::r,seen,h,x,hx=>by
  rw[riW] at h;by_cases z:miW n go y.1≠"";{rw[iPo z] at h;exact absurd h z}
  ·rw[iNe z] at h;split at h;{exact absurd h (by decide)}
   ·rcases List.mem_cons.mp hx with e | e;{obtain⟨j,ej,hj,_⟩:=yZ (Classical.not_not.mp z);rw[e];exact⟨j,ej,hj⟩};{exact Fy h x e}
def QF {n:Nat} {g:DU} {go:DV} {es:List Ent} {ps:DB} (h:haW n g go es ps = ""):∀ x∈ps,∃ j:Nat,x.1=j/\j < n:=by
 unfold haW at h;by_cases z:ps=[];{rw[iPo z] at h;exact absurd h (by decide)}
 ·rw[iNe z] at h;by_cases y:riW n g go [] ps≠"";{rw[iPo y] at h;exact absurd h y};{exact Fy (Classical.not_not.mp y)}
def xR (F:Fun K "_law_after" "_law_after" lV f fd) (B:Bt mg) (OY:mg "dict" = none) (QP:Df P w K mg base "_law_green" 1 WG wL) (Sc:Df P w K mg base "_law_table_with" 1 WI zB):bh P w K mg base CX0 2 f fd WI IK:=by
 refine okA F cA fun H Q E hr h=>?_;obtain⟨be,a,da,S,d,ob,rfl,hst,hbe,ok,hd,hw,q⟩:=h
 refine⟨_,(aj (ym (pv 0) (c7 (K:=K) 4 U U (aP (v7 (i:=2) cA.nd U (aao U)) (aP (pgN 3 cA.nd) (aP (pgN 4 cA.nd) (aP (pgN 5 cA.nd) cY))))))
 (aj (ifR (aD bc (pxT K (pv 1) ao) aJ) (aU (aq (aN pQ (pv 2) (aV (a1 dR))) (aq (aN (r:=jK K) iY (pv 3) (aU (a1 ao))) (v2 4 5)))))
 (aj (cP (aD bc (pxT K (pv 1) ao) aJ) (aj (qZ (L:=["_law_at"]) (F:=["_law_present","_law_deed_here"]) (cap:=[2,1]) (j:=6) cA.nd U (aas U) U (aY U U (by kernel_rfl)) (bQ U B.range_ (a1 (pln K B.len_ (pv 2)))) (fun _ _ _ _ _=>(pgC 0)) (fun _ _ _ _ _=>bI) (fun _ _ _ _ _=>(iC (pxL K (pv 1) (pv 0)) (ni (du zQ (pv 0) (pxT K (pv 2) ao))))))
 (aj (sT 7 cA.nd Cr)
 (aj (bW Wv U (cW (aQ (r:=Bo) (oU U) U B.sorted_ (by decide+kernel) (v1 4))) (pgN 8 cA.nd) (aF (cP (aD zQ (pxT K (lC hr.jF (pv 4) (pv 8) (fun _ _=>U)) ao) (pxT K (pv 1) ao)) (aF (Ae hr.jF (pv 7) (pv 8) (lC hr.jF (pv 4) (pv 8) (fun _ _=>U)) U)) aX)))
 (sR (aU (aq (pv 6) (aq (pv 3) (v2 7 5)))))))) aX)
 (aj (cP (aD bc (pxT K (pv 1) ao) aJ) (aj (sT 7 cA.nd (aR (r:=Af) tu U OY JF (v1 4)))
 (aj (Ae hr.jF (pv 7) (pv 5) (aU (aq (pxT K (pv 1) ao) (a1 (pxT K (pv 1) ao)))) U)
 (sR (aU (aq (pv 2) (aq (pv 3) (aq (pv 7) (a1 (aN bF (pv 5) ao))))))))) aX)
 (aj (ifR (aD bc (pxT K (pv 1) ao) aJ) (aU (aq (pv 2) (aq (aM QP hr (aq (pv 0) (a1 (pxT K (pv 1) ao)))) (v2 4 5)))))
 (sR (aU (aq (pv 2) (aq (pv 3) (aq (aM Sc hr (v2 0 1)) (v1 5))))))))))),?_⟩
 obtain⟨pa,ga,ta,kvs,h1,h2,h3,h4,h5,h6⟩:=id hst;have new:∀ {H1:Hp} {l:Addr},aG H H1->H1 l=none->l≠be:=fun s hl z=>by rw[z,s _ _ hbe] at hl;cases hl
 have l40:=ok.l40;refine bO (fun σ H1=>σ=[oR a,oR da,oR pa,oR ga,oR ta,some (vN S.co),none,none,none]/\H1=H) ?_ ?_;{intro N Rc;exact⟨O,a,O,sqT h1,U,N,N,N,M,Rc _ _ ⟨U,U⟩⟩};rintro σ H1 ⟨rfl,rfl⟩;cases hd with
 | come hda =>
  refine⟨O,da,Y,sqT hda,J,gU U ⟨O,smN 1,fun p1 hp1=>?_⟩⟩;generalize eF1:upd H1 p1 _=F1;obtain⟨gf1,ef1⟩:=aC eF1 hp1;have n12:=ok.n12;have lg:=ok.lg;refine⟨pa,p1,M,gf1 _ _ h2,ef1,small (by rw[dD];show S.n+1<=1000;lia),fun p2 hp2=>?_⟩;generalize eF2:upd F1 p2 _=F2;obtain⟨gf2,ef2⟩:=aC eF2 hp2;rw[← Lh ok.gl] at ef2;refine⟨O,smN 1,fun p3 hp3=>?_⟩;generalize eF3:upd F2 p3 _=F3;obtain⟨gf3,ef3⟩:=aC eF3 hp3;have s13:=gf1.trans (gf2.trans gf3);refine Tt (s13 _ _ h3) ef3 (by rw[VH];show S.g.length+1<=1000;lia) fun p4 F4 s4 e4=>?_;refine⟨R,smN 4,fun p5 hp5=>?_⟩;generalize eF5:upd F4 p5 _=F5;obtain⟨gf5,ef5⟩:=aC eF5 hp5;have s15:=s13.trans (s4.trans gf5);refine q p5 F5 s15 ⟨p2,p4,ta,kvs,ef5,(gf3.trans (s4.trans gf5)) _ _ ef2,gf5 _ _ (e4.trans (by show _=some (HO.tup ((S.g++[0]).map V.int));rw[VV];rfl)),s15 _ _ h4,(h5.aO fun a xs z=>s15 _ _ z).le (Xx _),new gf1 hp2⟩
 | leave hda =>
  rename_i o;obtain⟨i,rfl,hi,hg⟩:=yZ (show miW S.n S.go o = "" from hw);refine⟨O,da,Y,sqT hda,J,aZ bf (nN ⟨O,da,Y,sqT hda,J,gU U ?_⟩)⟩;refine ?_;have n12:=ok.n12;refine bO (fun σ H2=>∃ pl:Addr,σ=[oR a,oR da,oR pa,oR ga,oR ta,some (vN S.co),oR pl,none,none]/\aG H1 H2/\H1 pl=none/\H2 pl=some (.lst (prF S.n (mX (S.go++[i]))))) ?_ ?_
  ·intro N Rc
   refine⟨O,pa,O,.inl (sqL h2),O,by rw[dD];lia,by rw[dD];lia,fun D hD=>cR (lo:=0) (n:=(((prF S.n S.go).length:Nat):Int).toNat) (fun j zs σ' H2=>(∃ u,σ'=[u,oR pa,oR da])/\aG H1 H2/\H2 D=some (.lst zs)/\zs=prF j (mX (S.go++[i])))
    ⟨⟨O⟩,au hD _,aa,U⟩ (fun j zs σ' H2 _ h=>h.2.2.1) ?_ ?_⟩
   ·rintro j zs σ' H2 hj ⟨⟨u,rfl⟩,sm,eD,rfl⟩;rw[dD] at hj;have hj':j < S.n:=by lia
    rw[YD];have nx:prF (j+1) (mX (S.go++[i]))=prF j (mX (S.go++[i]))++[.bl (decide (j ∉ S.go) && decide (j≠i))]:=by
     unfold prF;rw[aak,VV];congr 1;show[V.bl (decide (j ∉ mX (S.go++[i])))]=_;rw[← ac8];congr 2;refine decide_eq_decide.mpr ?_;rw[(fZ _).mem_iff,aaO,Ym];exact⟨fun h=>⟨fun z=>h (.inl z),fun z=>h (.inr z)⟩,fun h z=>z.elim h.1 h.2⟩
    refine gT ?_;refine⟨R,pa,_,_,.bl (decide (j ∉ S.go)),U,U,sqL (sm _ _ h2),eE (Nh hj'),?_⟩;have fin:∀ c:Bool,c=(decide (j ∉ S.go) && decide (j≠i))->H2 D=some (.lst (prF j (mX (S.go++[i]))))/\(prF j (mX (S.go++[i]))).length < sizeLine/\(∃ u:E8,[some (V.int (j:Int)),some (V.ref pa),some (V.ref da)]=[u,some (V.ref pa),some (V.ref da)])/\aG H1 (upd H2 D (.lst (prF j (mX (S.go++[i]))++[.bl c])))/\upd H2 D (.lst (prF j (mX (S.go++[i]))++[.bl c])) D=some (.lst (prF j (mX (S.go++[i]))++[.bl c]))/\prF j (mX (S.go++[i]))++[.bl c]=prF (j+1) (mX (S.go++[i])):=fun c hc =>
     ⟨eD,aH (by rw[dD];lia),⟨O⟩,aK sm hD _,aa,by rw[nx,hc]⟩
    by_cases z:j∈S.go;{rw[dcF (not_not_intro z)] at fin ⊢;exact⟨false,U,bU (fin false U)⟩}
    ·rw[dcT z] at fin ⊢;refine⟨true,U,dh ⟨R,da,Y,sqT (sm _ _ hda),gt1,U,fin _ ?_⟩⟩;rw[ZC];by_cases y:j=i;{rw[dcT (show V.int (j:Int)=V.int (i:Int) by rw[y]),dcF (not_not_intro y)];rfl};{rw[dcF (show ¬ V.int (j:Int)=V.int (i:Int) from fun x=>y (by injection x with x;lia)),dcT y];rfl}
   ·rintro zs σ' H2 ⟨_,sm,eD,rfl⟩;have e:(((prF S.n S.go).length:Nat):Int).toNat=S.n:=by rw[dD];lia
    rw[e] at eD;exact Rc _ _ ⟨D,U,sm,hD,eD⟩
  rintro σ H2 ⟨pl,rfl,s2,fpl,epl⟩;have up:=ok.eu.up;have nd:=ok.eu.nd;refine bO (fun σ H3=>∃ so:Addr,σ=[oR a,oR da,oR pa,oR ga,oR ta,some (vN S.co),oR pl,oR so,none]/\aG H2 H3/\H2 so=none/\H3 so=some (.dK [])) ?_ ?_;{intro N Rc so hso;exact Rc _ _ ⟨so,U,au hso _,hso,aa⟩};rintro σ H3 ⟨so,rfl,s3,fso,eso⟩;have s13:=s2.trans s3;have fso1:=s2.free fso;refine bO (fun σ H4=>∃ (u:E8) (kv:E6),σ=[oR a,oR da,oR pa,oR ga,oR ta,some (vN S.co),oR pl,oR so,u]/\aG H1 H4/\H4 pl=some (.lst (prF S.n (mX (S.go++[i]))))/\H4 so=some (.dK kv)/\TbR S.n H4 kv (S.es.filter fun e=>decide (e.2.1≠i))) ?_ ?_
  ·intro N Rc;refine⟨O,ta,kvs,S.es.map fun e=>(e.1:Int),U,s13 _ _ h4,h5.keys,by rw[VH];lia,fun ms pm sr l hl=>?_⟩;have em:=ok.eu.sort pm sr;subst em;generalize eH4:upd H3 l _=H4;obtain⟨s4,e4⟩:=aC eH4 hl;have nsl:so≠l:=fun z=>by rw[z,hl] at eso;cases eso
   have eso4:=s4 _ _ eso;have s14:=s13.trans s4
   refine⟨l,U,⟨_,sqL e4⟩,dB (K:=K) (a:=l) (xs:=(S.es.map fun e=>(e.1:Int)).map V.int) (fun j σ H5=>∃ (u:E8) (kv:E6),σ=[oR a,oR da,oR pa,oR ga,oR ta,some (vN S.co),oR pl,oR so,u]/\aG H1 H5/\H5 pl=some (.lst (prF S.n (mX (S.go++[i]))))/\H5 l=some (.lst ((S.es.map fun e=>(e.1:Int)).map V.int))/\H5 so=some (.dK kv)/\TbR S.n H5 kv ((S.es.take j).filter fun e=>decide (e.2.1≠i)))
    ⟨_,[],U,s14,s4 _ _ (s3 _ _ epl),e4,eso4,by rw[WD];exact .nil⟩ (fun j σ H5 _ z=>by obtain⟨_,_,_,_,_,y,_⟩:=z;exact sqL y) ?_ ?_⟩
   ·rintro j x σ H5 hx ⟨u,kv,rfl,s5,epl5,el5,eso5,tb5⟩;rw[Wf,Wf] at hx;obtain⟨e,he,rfl⟩:∃ e,S.es[j]? = some e/\x = .int (e.1:Int):=by
     cases z:S.es[j]? with
     | none=>rw[z] at hx;cases hx
     | some e=>rw[z] at hx;cases hx;exact⟨e,U,U⟩
    obtain⟨t,p,hv,ht,hpp⟩:=h5.val nd he;have nx:=cG.Uy (n:=S.n) (p:=fun e:Ent=>decide (e.2.1≠i)) he;have dg:uf H5 ta (.int (e.1:Int)) (some (.ref t)):=by
     rw[← hv];exact uf.k (k:=Xf (e.1:Int)) (s5 _ _ h4)
    have lkv:=tb5.length;have lf:=WW (fun e:Ent=>decide (e.2.1≠i)) (S.es.take j);rw[Wa] at lf;refine gN ?_;refine⟨R,ta,O,dg,t,Y,sqT (s5 _ _ ht),gt0,O,da,Y,sqT (s5 _ _ hda),gt1,U,O,?_⟩;by_cases z:e.2.1=i
    ·rw[show decide (vN e.2.1=V.int (i:Int))=true from dcT (by rw[z];rfl)];show if (!true)=true then _ else _
     refine bU (nN ⟨_,kv,U,s5,epl5,el5,eso5,?_⟩);rw[nx,iNe (by rw[dcF (not_not_intro z)];exact VR),Xy];exact tb5
    ·rw[show decide (vN e.2.1=V.int (i:Int))=false from dcF fun y=>z (by injection y with y;lia)];show if (!false)=true then _ else _
     have hno:tQ kv (Xf (e.1:Int))=none:=tb5.none fun e' he' y=>by
      have m1:=List.mem_filter.mp he';obtain⟨k',hk',ek'⟩:=Yy m1.1;rw[Wa] at hk';rw[List.getElem_take] at ek';have je:=List.getElem?_eq_some_iff.mp he;have e1:(S.es.map (·.1))[k']'(by rw[VH];lia)=(S.es.map (·.1))[j]'(by rw[VH];exact je.1):=by
       rw[abq,abq,ek',je.2];lia
      have:=(acO nd).mp e1;lia
     refine dh ⟨R,ta,O,dg,R,so,O,Ph.k (k:=Xf (e.1:Int)) eso5 (V4 (show kv.length < 1000 by lia) (by decide)),?_⟩;have tk:∀ b ys,H5 b=some (HO.tup ys)->upd H5 so (.dK (putK kv (Xf (e.1:Int)) (.ref t))) b=some (HO.tup ys):=fun b ys hb=>by rw[aL fun y=>by rw[y,eso5] at hb;cases hb];exact hb
     refine⟨N,aK s5 fso1 _,?_,?_,aa,?_⟩;{rw[aL fun y=>by rw[y,eso5] at epl5;cases epl5];exact epl5};{rw[aL nsl.symm];exact el5};{rw[BX _ hno,nx,iPo (dcT z)] at *;exact TbR.snoc (num:=e.1) (one:=e.2.1) (pl:=e.2.2) (tk _ _ (s5 _ _ ht)) ((hpp.aO fun a xs y=>s5 _ _ y).aO tk) (tb5.aO tk)}
   ·rintro σ H5 ⟨u,kv,rfl,s5,epl5,_,eso5,tb5⟩;rw[VH,VH,V1] at tb5;exact Rc _ _ ⟨u,kv,U,s5,epl5,eso5,tb5⟩
  rintro σ H4 ⟨u,kv,rfl,s4,epl4,eso4,tb4⟩;refine⟨R,R,smN 4,fun p5 hp5=>?_⟩;have sn:=au hp5 (.tup [.ref pl,.ref ga,.ref so,vN S.co]);have s5:=s4.trans sn;refine q p5 _ s5 ⟨pl,ga,so,kv,aa,?_,s5 _ _ h3,sn _ _ eso4,?_,new (aG.refl _) fpl⟩;{show _=some (HO.lst (prF S.n (mX (S.go++[((i:Nat):Int).toNat]))));rw[Wl];exact sn _ _ epl4};{show TbR S.n _ kv (S.es.filter fun e=>decide (e.2.1≠((i:Nat):Int).toNat));rw[Wl];exact tb4.aO fun a xs y=>sn _ _ y}
 | pledge hda hp =>
  rename_i o p pl;obtain⟨i,rfl,hi,hg,hl⟩:=Mz (show plW S.n S.go S.es o pl = "" from hw);refine⟨O,da,Y,sqT hda,J,aZ bf (nN ⟨O,da,Y,sqT hda,J,aZ bf (nN ⟨O,da,Y,sqT hda,J,gU U ?_⟩)⟩)⟩;refine ?_;refine bO (fun σ H2=>∃ so:Addr,σ=[oR a,oR da,oR pa,oR ga,oR ta,some (vN S.co),none,oR so,none]/\aG H1 H2/\H1 so=none/\H2 so=some (.dK kvs)) ?_ ?_;{intro N Rc;exact⟨O,ta,kvs,U,h4,fun so hso=>Rc _ _ ⟨so,U,au hso _,hso,aa⟩⟩};rintro σ H2 ⟨so,rfl,s2,fso,eso⟩;have lk:=h5.length;have hno:tQ kvs (Xf (S.co:Int))=none:=h5.none fun e he=>by have:=(ok.eu.lt e he).1;lia
  refine bO (fun σ H3=>∃ t:Addr,σ=[oR a,oR da,oR pa,oR ga,oR ta,some (vN S.co),none,oR so,none]/\aG H1 H3/\H3 so=some (.dK (kvs++[(Xf (S.co:Int),.ref t)]))/\H3 t=some (.tup [vN i,.ref p])) ?_ ?_
  ·intro N Rc;refine⟨O,da,Y,sqT (s2 _ _ hda),gt1,O,da,Y,sqT (s2 _ _ hda),gt2,smN 2,fun t ht=>?_⟩;have sn:=au ht (.tup [.int (i:Int),.ref p]);have eso':=sn _ _ eso;have nst:so≠t:=fun z=>by rw[z,ht] at eso;cases eso
   refine⟨R,so,O,Ph.k (k:=Xf (S.co:Int)) eso' (V4 (show kvs.length < 1000 by lia) (by decide)),Rc _ _ ⟨t,U,aK (s2.trans sn) fso _,?_,?_⟩⟩;{rw[aa,BX _ hno]};{rw[aL nst.symm];exact aa}
  rintro σ H3 ⟨t,rfl,s3,eso3,et⟩;refine⟨R,R,M,smN 4,fun p5 hp5=>?_⟩;have sn:=au hp5 (.tup [.ref pa,.ref ga,.ref so,.int ((S.co:Int)+1)]);have s4:=s3.trans sn;refine q p5 _ s4 ⟨pa,ga,so,_,aa,s4 _ _ h2,s4 _ _ h3,sn _ _ eso3,?_,h6⟩;show TbR S.n _ _ (S.es++[(S.co,((i:Nat):Int).toNat,pl)]);rw[Wl];exact TbR.snoc (sn _ _ et) (hp.aO fun a xs z=>s4 _ _ z) (h5.aO fun a xs z=>s4 _ _ z)
 | hand hda hr' hri lp =>
  rename_i r us ps;refine⟨O,da,Y,sqT hda,J,aZ bf (nN ⟨O,da,Y,sqT hda,J,aZ bf (nN ⟨O,da,Y,sqT hda,J,aZ bf (nN ⟨O,da,Y,sqT hda,J,gU U ⟨R,O,da,Y,sqT hda,gt1,be,a,r,S.n,S.g,S.go,S.es,S.co,us,ps,U,hst,ok.lg,hr',hri,QF (show haW S.n S.g S.go S.es ps = "" from hw),fun r2 H2 s2 e2=>⟨R,smN 4,fun p5 hp5=>?_⟩⟩⟩)⟩)⟩)⟩;have sn:=au hp5 (.tup [.ref pa,.ref r2,.ref ta,vN S.co]);have s5:=s2.trans sn;exact q p5 _ s5 ⟨pa,r2,ta,kvs,aa,s5 _ _ h2,sn _ _ e2,s5 _ _ h4,h5.aO fun a xs y=>s5 _ _ y,h6⟩
 | change hda hp =>
  rename_i k' p pl;refine⟨O,da,Y,sqT hda,J,aZ bf (nN ⟨O,da,Y,sqT hda,J,aZ bf (nN ⟨O,da,Y,sqT hda,J,aZ bf (nN ⟨O,da,Y,sqT hda,J,aZ bf (nN ?_)⟩)⟩)⟩)⟩;cases hf:fnE S.es k' with
  | none =>
   rw[show reW S (.change k' pl) = "no pledge" by show chW _ _ _ _=_;unfold chW;rw[hf]] at hw;exact absurd hw (by decide)
  | some e =>
   refine⟨R,R,be,a,da,S,(.change k' pl),k',e,U,hst,ok,.change hda hp,U,hf,fun tb kv H2 s2 e2 r2=>⟨O,smN 4,fun p5 hp5=>?_⟩⟩;have sn:=au hp5 (.tup [.ref pa,.ref ga,.ref tb,vN S.co]);have s5:=s2.trans sn;exact q p5 _ s5 ⟨pa,ga,tb,kv,aa,s5 _ _ h2,s5 _ _ h3,sn _ _ e2,r2.aO fun a xs y=>sn _ _ y,h6⟩
 | withdraw hda =>
  rename_i k';refine⟨O,da,Y,sqT hda,J,aZ bf (nN ⟨O,da,Y,sqT hda,J,aZ bf (nN ⟨O,da,Y,sqT hda,J,aZ bf (nN ⟨O,da,Y,sqT hda,J,aZ bf (nN ?_)⟩)⟩)⟩)⟩;cases hf:fnE S.es k' with
  | none =>
   rw[show reW S (.withdraw k') = "no pledge" by show wiW _ _ _=_;unfold wiW;rw[hf]] at hw;exact absurd hw (by decide)
  | some e =>
   refine⟨R,R,be,a,da,S,(.withdraw k'),k',e,U,hst,ok,.withdraw hda,U,hf,fun tb kv H2 s2 e2 r2=>⟨O,smN 4,fun p5 hp5=>?_⟩⟩;have sn:=au hp5 (.tup [.ref pa,.ref ga,.ref tb,vN S.co]);have s5:=s2.trans sn;exact q p5 _ s5 ⟨pa,ga,tb,kv,aa,s5 _ _ h2,s5 _ _ h3,sn _ _ e2,r2.aO fun a xs y=>sn _ _ y,h6⟩
def Low (n:Nat)(fl:DU)(bk:List (List Pl))(lo:DU):Prop:=okG n lo/\iT lo fl bk=lo/\∀ g,LeG (iT g fl bk) g->LeG lo g
section
variable {n:Nat}{fl:DU}{bk:List (List Pl)}
def La (g:DU):LeG g g:=fun i=>Yq _
def yK (hb:bk.length=n)(ok:okB bk)(hf:okG n fl){m:Nat}(st:Stops (Fd fl bk) fl m):Low n fl bk (itF (Fd fl bk) fl m) :=
 ⟨iI hb ok hf hf m,st.1,fun _ h=>yf hb ok hf h m⟩
def sW (hb:bk.length=n)(ok:okB bk)(hf:okG n fl){lo:DU}(h:Low n fl bk lo):LeG fl lo:=by
 have:=nC hb ok hf lo;rw[h.2.1] at this;exact this
end
def QV (n:Nat)(fl:DU)(bk:List (List Pl))(hi:DU):Prop:=okG n hi/\iT hi fl bk=hi/\∀ g,LeG g (iT g fl bk)->LeG g hi
open Classical in
def cl (n:Nat)(bk:List (List Pl))(x:DU):DU:=if h:∃ y,Low n x bk y then Classical.choose h else []
section
variable {n:Nat}{fl hi:DU}{bk:List (List Pl)}
def vB (hb:bk.length=n)(ok:okB bk)(hf:okG n fl){m:Nat}(st:Stops (Fd fl bk) (rfF fl bk) m):QV n fl bk (itF (Fd fl bk) (rfF fl bk) m) :=
 ⟨iI hb ok hf (qt hb ok hf) m,st.1,fun _ h=>xV hb ok hf h m⟩
def Ek (hb:bk.length=n)(ok:okB bk)(hf:okG n fl)(h:QV n fl bk hi):LeG fl hi:=by
 have:=nC hb ok hf hi;rw[h.2.1] at this;exact this
end
theorem dX.QH {n:Nat}{H:Hp}{D:Addr}{zs zs':Fk}(hD:H D=some (.lst zs)):∀ {us:Fk} {bs:List (List Pl)},dX n H us bs->(∀ u∈us,u≠.ref D)->dX n (upd H D (.lst zs')) us bs
 | _,_,.nil,_=>.nil
 | _,_,.cons h l p r,hne=>.cons (by rw[aL fun z=>hne _ V0 (by rw[z])];exact h) l (p.aO (bR hD)) (dX.QH hD r fun u hu=>hne u (V7 _ hu))
abbrev Hv:Stmt:=top 56
abbrev zY:Stmt:=top 58
abbrev rA:Stmt:=top 59
def Ou:aB ZU ZU (aA Hv):=bZ
def Kz:aB ZU ZU (aA zY):=bZ
def Ea:aB ZU ZU (aA rA):=bZ
inductive Hn (CS CB:Addr)(vs:Fk)(H:Hp)(Q:VK)(e3:XK):Prop where
 | mk (b be:Addr) (n d co:Nat) (g:DU) (go:DV) (es:List Ent) (_:vs=[.ref b]) (_:kW CS CB n H b be d g go es co) (_:Q (.int (g.length:Int)) H)
inductive mR (CS CB:Addr)(vs:Fk)(H:Hp)(Q:VK)(e3:XK):Prop where
 | mk (b be:Addr) (n d co:Nat) (g:DU) (go:DV) (es:List Ent) (_:vs=[.ref b]) (_:kW CS CB n H b be d g go es co) (_:∀ a,H a=some (.tup (g.map V.int))->Q (.ref a) H)
def PL {CS CB:Addr} (F:Fun K "folk" "folk" Hv f fd) (B:Bt mg) (S:wN K CS) (T:yO K CB):bh P w K mg base CX0 1 f fd ZU (Hn CS CB):=by
 refine okA F Ou fun H Q E hr h=>?_;obtain⟨b,be,n,d,co,g,go,es,rfl,⟨dx,nw,ah,xs,hb,hbe,lx,dx2,ga,goa,sa,us,hs,hga,hgoa,hsa,hes⟩,q⟩:=h;refine⟨_,(sR (pln K B.len_ (o9 K U (pfd K 0)))),O,b,CB,dx,N,hb,T.cl,T.now,U,nw,CS,dx2,N,hs,S.cl,S.green,U,ga,O,.inr (sqT hga),?_⟩;rw[VH];exact q
def Kl {CS CB:Addr} (F:Fun K "green" "green" zY f fd) (B:Bt mg) (S:wN K CS) (T:yO K CB):bh P w K mg base CX0 1 f fd ZU (mR CS CB):=by
 refine okA F Kz fun H Q E hr h=>?_;obtain⟨b,be,n,d,co,g,go,es,rfl,⟨dx,nw,ah,xs,hb,hbe,lx,dx2,ga,goa,sa,us,hs,hga,hgoa,hsa,hes⟩,q⟩:=h;exact⟨_,(sR (o9 K U (pfd K 0))),O,b,CB,dx,N,hb,T.cl,T.now,U,nw,CS,dx2,N,hs,S.cl,S.green,U,q ga hga⟩
def kE (es:List Ent)(i:Nat):List Pl:=(es.filter fun e=>decide (e.2.1=i)).map fun e=>e.2.2
def fC (n:Nat)(es:List Ent):List (List Pl):=(Xb n).map (kE es)
def Fj {es:List Ent}{i:Nat}{e:Ent}:kE (es++[e]) i=kE es i++if e.2.1=i then [e.2.2] else []:=by
 unfold kE;rw[YX,VV];congr 1;by_cases h:e.2.1=i;{rw[iPo h,Yo (by exact dcT h)];rfl};{rw[iNe h,Yp (by rw[dcF h];exact VR)];rfl}
inductive uT (CS CB:Addr)(vs:Fk)(H:Hp)(Q:VK)(e3:XK):Prop where
 | mk (b be:Addr) (n d co:Nat) (g:DU) (go:DV) (es:List Ent) (_:vs=[.ref b]) (_:kW CS CB n H b be d g go es co) (_:g.length=n) (_:n<=12) (_:es.length<=40) (_:∀ (a:Addr) (H':Hp),aG H H'->Dj n H' a (fC n es)->Q (.ref a) H')
def DP {CS CB:Addr} (F:Fun K "book_of" "book_of" rA f fd) (B:Bt mg) (S:wN K CS) (T:yO K CB) (PD:Df P w K mg base "folk" 1 ZU (Hn CS CB)):bh P w K mg base CX0 2 f fd ZU (uT CS CB):=by
 refine okA F Ea fun H Q E hr h=>?_;obtain⟨b,be,n,d,co,g,go,es,rfl,hB,lg,n12,l40,q⟩:=h;refine⟨_,(sR (JW (x0:="one") (L:=["one"]) (F:=ZU) (cap:=[0]) U (K4 U U (by kernel_rfl) (fun _ _=>U) (fun _=>U)) (bQ U B.range_ (a1 (aM PD hr (v1 0)))) (fun _ _ _ _ _=>(v7 (i:=0) (Mq (by decide+kernel)) U (aao U))) (fun _ _ _ _ _=>bI) (fun _ _ _ _ _=>(bC (L:=["number","other","pledge"]) (F:=["one"]) (cap:=[0]) U (aY U U (by kernel_rfl)) (Qo K U (o9 K U (pfd K 1))) (fun _ _ _ _ _=>(c7 (K:=K) 3 U U (aP (pgC 0) (aP (pgC 1) (aP (pgC 2) cY))))) (fun _ _ _ _ _=>(jk (aD bc (pv 1) (pv 3)))) (fun _ _ _ _ _=>(pv 2)))))),?_⟩;obtain⟨dx,nw,ah,xs,hb,hbe,lx,dx2,ga,goa,sa,us,hs,hga,hgoa,hsa,hes⟩:=id hB;have les:=hes.length
 refine⟨O,b,be,n,d,co,g,go,es,U,hB,O,by lia,by lia,fun D hD=>cR (lo:=0) (n:=((g.length:Int)).toNat) (fun i zs σ' H2=>(∃ u,σ'=[u,oR b])/\aG H H2/\H2 D=some (.lst zs)/\dX n H2 zs ((Xb i).map (kE es))/\∀ u∈zs,u≠.ref D)
  ⟨⟨O⟩,au hD _,aa,.nil,by simp⟩ (fun i zs σ' H2 _ h=>h.2.2.1) ?_ ?_⟩
 ·rintro i zs σ' H2 hi ⟨⟨u,rfl⟩,sm,eD,rb,hne⟩;have lz:=rb.length;rw[VH,WQ] at lz;rw[YD];refine gT ?_;have hb2:=sm _ _ hb;have hs2:=sm _ _ hs;have hsa2:=sm _ _ hsa;have hes2:=hes.aO fun a ys q=>sm a _ q
  refine⟨O,b,CB,dx,N,hb2,T.cl,T.now,U,nw,CS,dx2,N,hs2,S.cl,S.standing,U,sa,U,⟨_,sqT hsa2⟩,fun D2 hD2=>cj (K:=K) (a:=sa) (xs:=us) (fun j ys σ' H3=>(∃ u v w,σ'=[u,v,w,some (vN i)])/\aG H2 H3/\H3 D2=some (.lst ys)/\∃ as:DM,ys=as.map V.ref/\d8 n H3 as (kE (es.take j) i))
   ⟨⟨_,N⟩,au hD2 _,aa,[],U,by rw[WD];exact .nil⟩ (fun j ys σ' H3 _ h=>⟨sqT (h.2.1 _ _ hsa2),h.2.2.1⟩) ?_ ?_⟩
  ·rintro j ys x σ' H3 hx ⟨⟨u,v,w,rfl⟩,s3,eD2,as,rfl,ra⟩;obtain⟨e,p,num,o2,pl,rfl,he,hent,hpr⟩:=hes2.get hx;have la:=ra.length;have ll:(kE (es.take j) i).length<=40:=by
    unfold kE;rw[VH];refine Wn (WW _ _) ?_;rw[Wa];lia
   have nx:kE (es.take (j+1)) i=kE (es.take j) i++if o2=i then [pl] else []:=by
    rw[Wj,he];exact Fj
   refine⟨e,O,sqT (s3 _ _ hent),U,N,N,M,R,U,O,?_⟩;by_cases z:o2=i;{rw[show decide (vN o2=vN i)=true from dcT (by rw[z])];have tk:=bR (zs':=as.map V.ref++[.ref p]) eD2;refine dh ⟨O,eD2,aH (by rw[VH];lia),⟨_,N⟩,aK s3 hD2 _,aa,as++[p],by rw[VV];rfl,?_⟩;rw[nx,iPo z];exact d8.snoc ((hpr.aO fun a ys q=>s3 a _ q).aO tk) (ra.aO tk)};{rw[show decide (vN o2=vN i)=false from dcF fun y=>z (by injection y with y;lia)];refine bU ⟨⟨_,N⟩,s3,eD2,as,U,?_⟩;rw[nx,iNe z,Xy];exact ra}
  ·rintro ys σ' H3 ⟨_,s3,eD2,as,rfl,ra⟩;rw[les,V1] at ra;have la:=ra.length;have ll:(kE es i).length<=40:=by
    unfold kE;rw[VH];exact Wn (WW _ _) l40
   have dd:D2≠D:=fun z=>by rw[z,eD] at hD2;cases hD2
   have eD3:=s3 _ _ eD;refine⟨eD3,aH (by lia),⟨O⟩,aK (sm.trans s3) hD _,aa,?_,fun u hu=>?_⟩
   ·rw[aak,VV];refine (dX.snoc eD2 (by lia) ra (rb.mono s3)).QH eD3 fun u hu=>?_;rcases List.mem_append.mp hu with h | h;{exact hne u h};{rw[List.mem_singleton.mp h];exact fun z=>dd (by cases z;rfl)}
   ·rcases List.mem_append.mp hu with h | h;{exact hne u h};{rw[List.mem_singleton.mp h];exact fun z=>dd (by cases z;rfl)}
 ·rintro zs σ' H2 ⟨_,sm,eD,rb,hne⟩;have e:((g.length:Int)).toNat=n:=by lia
  rw[e] at rb;exact q D H2 sm ⟨zs,eD,rb,by unfold fC;rw[VH,WQ];lia⟩
abbrev Ft:Stmt:=top 60
abbrev An:Stmt:=top 61
def Oj:aB ZU ZU (aA Ft):=bZ
def Lr:aB ZU ZU (aA An):=bZ
def nA (n:Nat)(es:List Ent):(fC n es).length=n:=by unfold fC;rw[VH,WQ]
inductive M6 (CS CB:Addr)(vs:Fk)(H:Hp)(Q:VK)(e3:XK):Prop where
 | mk (b be:Addr) (n d co:Nat) (g:DU) (go:DV) (es:List Ent) (_:vs=[.ref b]) (_:kW CS CB n H b be d g go es co) (_:okG n g) (_:n<=12) (_:es.length<=40) (_:∀ (a:Addr) (lo:DU) (H':Hp),aG H H'->Low n g (fC n es) lo->H' a=some (.tup (lo.map V.int))->Q (.ref a) H')
inductive HF (CS CB:Addr)(vs:Fk)(H:Hp)(Q:VK)(e3:XK):Prop where
 | mk (b be:Addr) (n d co:Nat) (g:DU) (go:DV) (es:List Ent) (_:vs=[.ref b]) (_:kW CS CB n H b be d g go es co) (_:okG n g) (_:n<=12) (_:es.length<=40) (_:∀ (a:Addr) (hi:DU) (H':Hp),aG H H'->QV n g (fC n es) hi->H' a=some (.tup (hi.map V.int))->Q (.ref a) H')
def Qu {CS CB:Addr} {k:Nat} (hk:2<=k) (F:Fun K "sure" "sure" Ft f fd) (B:Bt mg) (Sk:Df P w K mg base "least" k YO (LR Tw)) (Pm:Df P w K mg base "book_of" 2 ZU (uT CS CB)) (PH:Df P w K mg base "green" 1 ZU (mR CS CB)) :
  bh P w K mg base CX0 (k+1) f fd ZU (M6 CS CB):=by
 refine okA F Oj fun H Q E hr h=>?_;obtain⟨b,be,n,d,co,g,go,es,rfl,hB,og,n12,l40,q⟩:=h;exact⟨_,(sR (aM Sk hr (aq (aM Pm hr (v1 0)) (a1 (aM PH hr (v1 0)))))),O,b,be,n,d,co,g,go,es,U,hB,og.1,n12,l40,fun a H1 s1 hBk=>⟨O,b,be,n,d,co,g,go,es,U,hB.same s1,fun ga hga=>⟨a,ga,n,_,g,U,hBk,nA n es,hga,og,fun m a1 H2 _ st s2 e2=>q a1 _ H2 (s1.trans s2) (yK (nA n es) hBk.okB og st) e2⟩⟩⟩
def J6 {CS CB:Addr} {k:Nat} (hk:2<=k) (F:Fun K "hoped" "hoped" An f fd) (B:Bt mg) (PF:Df P w K mg base "greatest" k YO (LR rfF)) (Pm:Df P w K mg base "book_of" 2 ZU (uT CS CB)) (PH:Df P w K mg base "green" 1 ZU (mR CS CB)) :
  bh P w K mg base CX0 (k+1) f fd ZU (HF CS CB):=by
 refine okA F Lr fun H Q E hr h=>?_;obtain⟨b,be,n,d,co,g,go,es,rfl,hB,og,n12,l40,q⟩:=h;exact⟨_,(sR (aM PF hr (aq (aM Pm hr (v1 0)) (a1 (aM PH hr (v1 0)))))),O,b,be,n,d,co,g,go,es,U,hB,og.1,n12,l40,fun a H1 s1 hBk=>⟨O,b,be,n,d,co,g,go,es,U,hB.same s1,fun ga hga=>⟨a,ga,n,_,g,U,hBk,nA n es,hga,og,fun m a1 H2 _ st s2 e2=>q a1 _ H2 (s1.trans s2) (vB (nA n es) hBk.okB og st) e2⟩⟩⟩
abbrev zu:Stmt:=top 57
def JL:aB ZU ZU (aA zu):=bZ
def thF (n:Nat)(go:DV):DV:=(Xb n).filter fun i=>decide (i ∉ go)
def Kp (n:Nat)(go:DV):thF (n+1) go=thF n go++if n∈go then [] else [n]:=by
 unfold thF;rw[aak,YX];congr 1;by_cases h:n∈go;{rw[iPo h,Yp (by rw[dcF (fun y=>y h)];exact VR)];rfl};{rw[iNe h,Yo (by exact dcT h)];rfl}
def Gu (n:Nat)(go:DV):(thF n go).length<=n:=by
 have:=WW (fun i=>decide (i ∉ go)) (Xb n);rw[WQ] at this;exact this
def wA {n i:Nat}{go:DV}(h:i∈thF n go):i < n/\i ∉ go:=by
 have:=List.mem_filter.mp h;exact⟨List.mem_range.mp this.1,of_decide_eq_true this.2⟩
inductive uZ (CS CB:Addr)(vs:Fk)(H:Hp)(Q:VK)(e3:XK):Prop where
 | mk (b be:Addr) (n d co:Nat) (g:DU) (go:DV) (es:List Ent) (_:vs=[.ref b]) (_:kW CS CB n H b be d g go es co) (_:g.length<=12) (_:∀ (a:Addr) (H':Hp),aG H H'->H a=none->H' a=some (.lst ((thF g.length go).map vN))->Q (.ref a) H')
def vR {CS CB:Addr} (F:Fun K "there" "there" zu f fd) (B:Bt mg) (S:wN K CS) (T:yO K CB) (PD:Df P w K mg base "folk" 1 ZU (Hn CS CB)):bh P w K mg base CX0 2 f fd ZU (uZ CS CB):=by
 refine okA F JL fun H Q E hr h=>?_;obtain⟨b,be,n,d,co,g,go,es,rfl,hB,n12,q⟩:=h;refine⟨_,(sR (bC (L:=["one"]) (F:=ZU) (cap:=[0]) U (aY U U (by kernel_rfl)) (bQ U B.range_ (a1 (aM PD hr (v1 0)))) (fun _ _ _ _ _=>(pgC 0)) (fun _ _ _ _ _=>(jk (fj (r:=rIn K true) pK (pv 0) (o9 K U (pfd K 1)) U))) (fun _ _ _ _ _=>(pv 0)))),?_⟩;obtain⟨dx,nw,ah,xs,hb,hbe,lx,dx2,ga,goa,sa,us,hs,hga,hgoa,hsa,hes⟩:=id hB
 refine⟨O,b,be,n,d,co,g,go,es,U,hB,O,by lia,by lia,fun D hD=>cR (lo:=0) (n:=((g.length:Int)).toNat) (fun i zs σ' H2=>(∃ u,σ'=[u,oR b])/\aG H H2/\H2 D=some (.lst zs)/\zs=(thF i go).map vN)
  ⟨⟨O⟩,au hD _,aa,U⟩ (fun i zs σ' H2 _ h=>h.2.2.1) ?_ ?_⟩
 ·rintro i zs σ' H2 hi ⟨⟨u,rfl⟩,sm,eD,rfl⟩;rw[YD];have li:=Gu i go;have nx:=Kp i go;refine⟨R,b,CB,dx,N,sm _ _ hb,T.cl,T.now,U,nw,CS,dx2,N,sm _ _ hs,S.cl,S.gone,U,goa,O,.inr (sqT (sm _ _ hgoa)),U,iG go,O,?_⟩;have e:inV (.int (i:Int)) (go.map vN)=decide (i∈go):=jl i go;rw[iPo U,e];by_cases z:i∈go;{rw[dcT z];refine bU ⟨⟨O⟩,sm,eD,?_⟩;rw[nx,iPo z,Xy]};{rw[dcF z];refine dh ⟨O,eD,aH (by rw[VH];lia),⟨O⟩,aK sm hD _,aa,?_⟩;rw[nx,iNe z,VV];rfl}
 ·rintro zs σ' H2 ⟨_,sm,eD,rfl⟩;exact q D H2 sm hD eD
abbrev Ga:Stmt:=top 62
def Pa:aB ZE ZE (aA Ga):=bZ
inductive vA (CS CB:Addr)(vs:Fk)(H:Hp)(Q:VK)(e3:XK):Prop where
 | mk (b be:Addr) (one n d co:Nat) (g:DU) (go:DV) (es:List Ent) (_:vs=[.ref b,vN one]) (_:kW CS CB n H b be d g go es co) (_:g.length=n) (_:one < n) (_:one ∉ go) (_:es.length<=40) (_:∀ H',aG H H'->Q (.int (mxD 0 (owL es one g))) H')
def Ia {CS CB:Addr} {k:Nat} (hk:2<=k) (F:Fun K "owed" "owed" Ga f fd) (B:Bt mg) (S:wN K CS) (T:yO K CB) (Ps:Df P w K mg base "check_there" 2 Zs (Gi CS)) (Sz:Df P w K mg base "owed_of" k WV qx) (PH:Df P w K mg base "green" 1 ZU (mR CS CB)) :
  bh P w K mg base CX0 (k+1) f fd ZE (vA CS CB):=by
 refine okA F Pa fun H Q E hr h=>?_;obtain⟨b,be,one,n,d,co,g,go,es,rfl,hB,lg,hone,hgo,l40,q⟩:=h
 refine⟨_,(aj (aW (aM Ps hr (aq (pfd K 0) (v1 1))))
 (sR (aM Sz hr (aq (o9 K U (pfd K 0)) (aq (pv 1) (a1 (aM PH hr (v1 0)))))))),?_⟩
 obtain⟨dx,nw,ah,xs,hb,hbe,lx,hst⟩:=id hB;obtain⟨dx2,ga,goa,sa,us,hs,hga,hgoa,hsa,hes⟩:=id hst;refine⟨O,b,CB,dx,N,hb,T.cl,T.now,U,O,nw,one,n,co,g,go,es,U,hst,by lia,hgo,?_⟩;exact⟨O,b,CB,dx,N,hb,T.cl,T.now,U,nw,CS,dx2,N,hs,S.cl,S.standing,U,R,b,be,n,d,co,g,go,es,U,hB,fun ga' hga'=>⟨sa,ga',one,n,us,es,g,U,hsa,hes,by lia,hga',lg,q⟩⟩
def J7 {es:List Ent}(ok:∀ e∈es,okP e.2.2)(one:Nat)(g:DU):mxD 0 (owL es one g)=duF g 0 (kE es one):=by
 have e:owL es one g=(kE es one).map (owF g):=by
  unfold owL kE;rw[aaT];rfl
 unfold duF;rw[← e];have all:∀ x∈owL es one g,0<=x:=fun x hx=>by
  obtain⟨e,he,rfl⟩:=List.mem_map.mp hx;exact uA fun y hy=>by have:=((ok e (List.mem_filter.mp he).1).2.2.2 y hy).1;lia
 cases h:owL es one g with
 | nil=>rfl
 | cons a r =>
  have:=all a (by rw[h];exact V0);show r.foldl max a=r.foldl max (max 0 a);rw[show max 0 a=a by lia]
abbrev wk:Stmt:=top 92
def Jj:aB WC WC (aA wk):=bZ
inductive U7 (CS CB:Addr)(x:XA)(vs:Fk)(H:Hp)(Q:VK)(E:XK):Prop where
 | mk (b be ah dx nw da:Addr) (xs zs:Fk) (A:Sa) (d:vM) (_:vs=[.ref b,.ref da]) (_:Bn CS CB A.n H b be ah dx nw xs zs A.g A.go A.es A.co) (_:xs.length<=900) (_:EsU A.n A.go A.es A.co) (_:DeR A.n H da d) (_:(reW A d≠""->Th x (reW A d) H E)) (_:(reW A d = ""->∀ (H':Hp) (nw' ah':Addr),But b be H H'->H ah'=none->Bn CS CB (A.aft d).n H' b be ah' dx nw' (xs++[.ref nw]) [] (A.aft d).g (A.aft d).go (A.aft d).es (A.aft d).co->Q (vaV A d) H'))
def Ih {CS CB:Addr} {x:XA} {k:Nat} (hk:5<=k) (F:Fun K "_law_do" "_law_do" wk f fd) (B:Bt mg) (SW:Dmx P w K mg base CB "come" 4 ZO (Fz CS CB x.fu)) (SZ:Dmx P w K mg base CB "leave" 5 ZB (Bs CS CB x))
  (S0:Dmx P w K mg base CB "pledge" k XY (w6 CS CB x)) (SV:Dmx P w K mg base CB "change" k Xs (yr CS CB x)) (S1:Dmx P w K mg base CB "withdraw" k YN (qN CS CB x)) (SY:Dmx P w K mg base CB "hand" k YU (Ab CS CB x)):bh P w K mg base (XL P w) (k+1) f fd WC (U7 CS CB x):=by
 refine Fo F Jj fun H Q E hr h=>?_;obtain⟨b,be,ah,dx,nw,da,xs,zs,S,d,rfl,hB,l9,eu,hd,hw,q⟩:=h
 refine⟨_,(aj (ifR (aD bc (pxT K (pv 1) ao) aJ) (Og SW hr bK (pv 0)))
 (aj (ifR (aD bc (pxT K (pv 1) ao) aJ) (uP SZ hr bK (pv 0) (a1 (pxT K (pv 1) ao))))
 (aj (ifR (aD bc (pxT K (pv 1) ao) aJ) (uP S0 hr bK (pv 0) (aq (pxT K (pv 1) ao) (a1 (pxT K (pv 1) ao)))))
 (aj (ifR (aD bc (pxT K (pv 1) ao) aJ) (uP SV hr bK (pv 0) (aq (pxT K (pv 1) ao) (a1 (pxT K (pv 1) ao)))))
 (aj (ifR (aD bc (pxT K (pv 1) ao) aJ) (uP S1 hr bK (pv 0) (a1 (pxT K (pv 1) ao))))
 (aj (ifR (aD bc (pxT K (pv 1) ao) aJ) (uP SY hr bK (pv 0) (a1 (aR (r:=jZ K) d9 U B.list_ mj (a1 (pxT K (pv 1) ao))))))
 (aj (cP (aD bc (pxT K (pv 1) ao) aJ) (aF qG) aX)
 (aF qG)))))))),?_⟩
 have hb:=hB.hb;cases hd with
 | come hda =>
  refine⟨O,da,Y,sqT hda,J,gU U ⟨O,b,dx,O,hb,U,b,be,ah,dx,nw,S.n,S.co,xs,zs,S.g,S.go,S.es,U,hB,l9,fun z=>?_,fun z=>q (iNe (by lia))⟩⟩;rw[show reW S .come = "full" from iPo z] at hw;have:=hw (by decide);unfold Th at this;rw[RK] at this;exact this
 | leave hda =>
  rename_i o;exact⟨O,da,Y,sqT hda,J,aZ bf (nN ⟨O,da,Y,sqT hda,J,gU U ⟨O,b,dx,O,hb,U,O,da,Y,sqT hda,gt1,b,be,ah,dx,nw,o,S.n,S.co,xs,zs,S.g,S.go,S.es,U,hB,l9,hw,q⟩⟩)⟩
 | pledge hda hp =>
  rename_i o p pl;exact⟨O,da,Y,sqT hda,J,aZ bf (nN ⟨O,da,Y,sqT hda,J,aZ bf (nN ⟨O,da,Y,sqT hda,J,gU U ⟨O,b,dx,O,hb,U,O,da,Y,sqT hda,gt1,O,da,Y,sqT hda,gt2,b,be,ah,dx,nw,p,o,S.n,S.co,xs,zs,S.g,S.go,S.es,pl,U,hB,hp,l9,hw,q⟩⟩)⟩)⟩
 | hand hda hr' hri lp =>
  rename_i r us ps;refine⟨O,da,Y,sqT hda,J,aZ bf (nN ⟨O,da,Y,sqT hda,J,aZ bf (nN ⟨O,da,Y,sqT hda,J,aZ bf (nN ⟨O,da,Y,sqT hda,J,aZ bf (nN ⟨O,da,Y,sqT hda,J,aZ bf (nN ⟨O,da,Y,sqT hda,J,gU U ⟨O,b,dx,O,hb,U,O,da,Y,sqT hda,gt1,r,O,.inl (sqL hr'),fun r2 h2=>?_⟩⟩)⟩)⟩)⟩)⟩)⟩;have sn:=au h2 (.lst us);exact⟨b,be,ah,dx,nw,r2,S.n,S.co,xs,zs,us,S.g,S.go,S.es,ps,U,hB.same sn,l9,aa,hri.aO fun a xs z=>sn _ _ z,lp,fun z=>(hw z).mono sn,fun z H' nw' ah' bt fa hB'=>q z H' nw' ah' ((JH sn).trans bt) (sn.free fa) hB'⟩
 | change hda hp =>
  rename_i k' p pl;exact⟨O,da,Y,sqT hda,J,aZ bf (nN ⟨O,da,Y,sqT hda,J,aZ bf (nN ⟨O,da,Y,sqT hda,J,aZ bf (nN ⟨O,da,Y,sqT hda,J,gU U ⟨O,b,dx,O,hb,U,O,da,Y,sqT hda,gt1,O,da,Y,sqT hda,gt2,b,be,ah,dx,nw,p,k',S.n,S.co,xs,zs,S.g,S.go,S.es,pl,U,hB,fun e he=>⟨(eu.lt e he).1,(eu.lt e he).2.1⟩,eu.nd,hp,l9,hw,q⟩⟩)⟩)⟩)⟩
 | withdraw hda =>
  rename_i k';exact⟨O,da,Y,sqT hda,J,aZ bf (nN ⟨O,da,Y,sqT hda,J,aZ bf (nN ⟨O,da,Y,sqT hda,J,aZ bf (nN ⟨O,da,Y,sqT hda,J,aZ bf (nN ⟨O,da,Y,sqT hda,J,gU U ⟨O,b,dx,O,hb,U,O,da,Y,sqT hda,gt1,b,be,ah,dx,nw,k',S.n,S.co,xs,zs,S.g,S.go,S.es,U,hB,fun e he=>⟨(eu.lt e he).1,(eu.lt e he).2.1⟩,l9,hw,q⟩⟩)⟩)⟩)⟩)⟩
abbrev qO:Stmt:=top 88
def El:aB X1 X1 (aA qO):=bZ
inductive Qa (vs:Fk)(H:Hp)(Q:VK)(e3:XK):Prop where
 | mk (c n:Int) (_:vs=[.int c,.int n]) (_:0 < n) (_:∀ (z:Int) (H':Hp),aG H H'->Q (.int z) H')
def Eg (F:Fun K "_law_who" "_law_who" qO f fd) (B:Bt mg):bh P w K mg base CX0 1 f fd X1 Qa:=by
 refine okA F El fun H Q E hr h=>?_;obtain⟨c,n,rfl,hn,q⟩:=h;refine⟨_,(sR (pxL K (aV (aq (aN bM (pv 0) (pv 1)) (aq (aN bM (pv 0) (pv 1)) (aq (aN bM (pv 0) (pv 1)) (aq (pv 1) (aq (vX nM ao) (a1 (aN bM (pv 0) (pv 1))))))))) (aN bM (aN vm (pv 0) ao) ao))),R,M,hn,R,M,hn,R,M,hn,R,R,M,hn,smN 6,fun p hp=>?_⟩;have sn:=au hp (.lst [.int (c % n),.int (c % n),.int (c % n),.int n,.int (-1),.int (c % n)]);obtain⟨k,ek⟩:=Xu (WN (c / 7) (show (6:Int)≠0 by decide));have k6:k < 6:=by have:=Wu (c / 7) (show (0:Int) < 6 by decide);lia
 have hz:∃ z:Int,([.int (c % n),.int (c % n),.int (c % n),.int n,.int (-1),.int (c % n)]:Fk)[k]? = some (.int z):=by
  match k,k6 with
  | 0,_=>exact⟨O⟩
  | 1,_=>exact⟨O⟩
  | 2,_=>exact⟨O⟩
  | 3,_=>exact⟨O⟩
  | 4,_=>exact⟨O⟩
  | 5,_=>exact⟨O⟩
 obtain⟨z,hz⟩:=hz;refine⟨O,M,⟨by decide,by decide⟩,_,_,U,U,(by show (0:Int) < 6;decide),p,_,_,_,U,U,sqL aa,?_,q z _ sn⟩;show atI _ (c / 7 % 6)=_;rw[ek];exact eE hz
abbrev jh:Stmt:=top 89
def t7:aB ZH ZH (aA jh):=bZ
inductive Q3 (vs:Fk)(H:Hp)(Q:VK)(e3:XK):Prop where
 | mk (be a:Addr) (A:Sa) (_:vs=[.ref a]) (_:StR be A.n H a A.g A.go A.es A.co) (_:AOk A) (_:∀ (b:Addr) (bk:List (List Pl)) (H':Hp),aG H H'->Dj A.n H' b bk->bk.length=A.n->Q (.ref b) H')
def uh (F:Fun K "_law_book_of" "_law_book_of" jh f fd) (B:Bt mg) (Re:Df P w K mg base "_law_listed" 2 XO qH):bh P w K mg base CX0 3 f fd ZH Q3:=by
 refine okA F t7 fun H Q E hr h=>?_;obtain⟨be,a,S,rfl,⟨pa,ga,ta,kvs,h1,h2,h3,h4,h5,h6⟩,ok,q⟩:=h;refine⟨_,(sR (bC (L:=ZI) (F:=ZH) (cap:=[0]) U (aY U U (by kernel_rfl)) (bQ U B.range_ (a1 (pln K B.len_ (pxT K (pv 0) ao)))) (fun _ _ _ _ _=>(pgC 0)) (fun _ _ _ _ _=>bI) (fun _ _ _ _ _=>(aM Re hr (aq (pxT K (pv 1) ao) (v1 0)))))),?_⟩;have n12:=ok.n12;have l40:=ok.l40
 refine⟨O,a,Y,sqT h1,gt0,pa,O,.inl (sqL h2),O,by rw[dD];lia,by rw[dD];lia,fun D hD=>cR (lo:=0) (n:=(((prF S.n S.go).length:Nat):Int).toNat) (fun j zs σ' H2=>(∃ u,σ'=[u,oR a])/\aG H H2/\H2 D=some (.lst zs)/\(∀ u∈zs,u≠.ref D)/\∃ bs,dX S.n H2 zs bs/\bs.length=j)
  ⟨⟨O⟩,au hD _,aa,by simp,[],.nil,U⟩ (fun j zs σ' H2 _ h=>h.2.2.1) ?_ ?_⟩
 ·rintro j zs σ' H2 hj ⟨⟨u,rfl⟩,sm,eD,nD,bs,hb,lb⟩;rw[dD] at hj;refine gT ?_;refine⟨O,a,Y,sqT (sm _ _ h1),gt2,O,ta,_,S.n,kvs,S.es,U,sm _ _ h4,h5.aO fun a xs y=>sm _ _ y,ok.eu.up,l40,fun l as H3 s3 fl el las ps=>?_⟩;have eD3:=s3 _ _ eD;have hz:=hb.length;have nl:l≠D:=fun z=>by rw[z,eD] at fl;cases fl
  refine⟨eD3,aH (by lia),⟨O⟩,aK (sm.trans s3) hD _,aa,?_,bs++[miP S.es (0+(j:Int))],?_,by rw[V6,lb];rfl⟩
  ·intro u hu;rcases List.mem_append.mp hu with y | y;{exact nD u y};{rw[List.mem_singleton.mp y];exact fun x=>nl (by injection x)}
  ·refine dX.snoc ?_ (by lia) (ps.aO (bR eD3)) ((hb.mono s3).QH eD3 nD);rw[aL nl];exact el
 ·rintro zs σ' H2 ⟨_,sm,eD,_,bs,hb,lb⟩;have e:(((prF S.n S.go).length:Nat):Int).toNat=S.n:=by rw[dD];lia
  rw[e] at lb;exact q D bs H2 sm ⟨zs,eD,hb,by lia⟩ lb
abbrev dW:Stmt:=top 86
def bw:aB ["_law_book","_law_floor","_law_giving","_law_here","_law_turn","_law_ahead","_law_one","_law_step"] Wp (aA dW):=bZ
inductive BR (vs:Fk)(H:Hp)(Q:VK)(e3:XK):Prop where
 | mk (b f g:Addr) (n:Nat) (bk:List (List Pl)) (fl x:DU) (_:vs=[.ref b,.ref f,.ref g]) (_:Dj n H b bk) (_:bk.length=n) (_:H f=some (.tup (fl.map V.int))) (_:fl.length=n) (_:H g=some (.tup (x.map V.int))) (_:x.length=n) (_:∀ (r:Addr) (z:DU) (H':Hp),aG H H'->H' r=some (.tup (z.map V.int))->z.length=n->Q (.ref r) H')
def lL {k:Nat} (F:Fun K "_law_step_by_step" "_law_step_by_step" dW f fd) (B:Bt mg)
  (RF:Df P w K mg base "_law_owed" k WU (xH K)):bh P w K mg base CX0 (k+1) f fd Wp BR:=by
 refine okA F bw fun H Q E hr h=>?_;obtain⟨b,f,g,n,bk,fl,x,rfl,hB,lb,hf,lf,hg,lx,q⟩:=h
 refine⟨_,(aj (sT 3 bw.nd (pv 2))
 (aj (bW Wv U (bQ U B.range_ (a1 (aN bF (aN gm ao (pln K B.len_ (pv 0))) ao))) (pgN 4 bw.nd) (aj (sT 5 bw.nd (pv 3))
 (aj (bW Wv U (bQ U B.range_ (a1 (pln K B.len_ (pv 0)))) (pgN 6 bw.nd) (aj (sT 7 bw.nd (aQ (mZ U) U B.max_ nj (aq (pxT K (pv 1) (pv 6)) (a1 (aM RF hr (aq (pxL K (pv 0) (pv 6)) (v1 3)))))))
 (aF (sT 3 bw.nd (aN (r:=jK K) iY (aN (r:=jK K) iY (j6 (r:=J5 K) Bl (pv 3) oJ (jN (pv 6))) (aU (v1 7))) (j6 (r:=J5 K) Bl (pv 3) (jN (aN bF (pv 6) ao)) oJ))))))
 (aF (ifR (aD (r:=NT K) (GQ hr.iJ) (pv 3) (pv 5)) (pv 3))))))
 (sR (pv 3)))),?_⟩
 obtain⟨us0,hb,rb,l12⟩:=id hB;have lu0:=rb.length
 refine⟨R,b,O,.inl (sqL hb),M,.inl ⟨by decide,by decide⟩,_,_,U,U,_,U,by lia,by lia,iz (lo:=0) (n:=(9 * (us0.length:Int)+1).toNat) (fun t σ H3=>∃ (hh:Addr) (u0 u1 u2 u3:E8) (z:DU),σ=[oR b,oR f,oR g,oR hh,u0,u1,u2,u3]/\aG H H3/\H3 hh=some (.tup (z.map V.int))/\z.length=n)
  ⟨g,_,_,_,_,x,U,aG.refl _,hg,lx⟩ ?_ ?_⟩
 ·rintro t σ H3 ht ⟨hh,u0,u1,u2,u3,z,rfl,s3,eh,lz⟩;refine⟨O,?_⟩
  refine⟨O,b,O,.inl (sqL (s3 _ _ hb)),O,by lia,by lia,iz (lo:=0) (n:=us0.length) (fun i σ H4=>∃ (h2:Addr) (v0 v1:E8) (gs:DU),σ=[oR b,oR f,oR g,oR h2,some (.int (0+(t:Int))),oR hh,v0,v1]/\aG H3 H4/\H4 h2=some (.tup (gs.map V.int))/\gs.length=n)
   ⟨hh,_,_,z,U,aG.refl _,eh,lz⟩ ?_ ?_⟩
  ·rintro i σ H4 hi ⟨h2,v0,v1,gs,rfl,s4,e2,lg⟩;have hfi:i < fl.length:=by lia
   have at1:atI (fl.map V.int) (0+(i:Int))=some (.int fl[i]):=by rw[YD];exact jG hfi
   have hy:us0[i]? = some us0[i]:=VN hi;obtain⟨c,as,ps,ec,hps,hc,l100,rps⟩:=rb.get hy;have at2:atI us0 (0+(i:Int))=some (.ref c):=by rw[YD,← ec];exact eE hy
   have s34:aG H H4:=s3.trans s4;refine⟨R,f,Y,sqT (s34 _ _ hf),at1,R,b,Y,sqL (s34 _ _ hb),at2,O,c,h2,n,as,ps,gs,U,s34 _ _ hc,l100,rps.aO (fun a xs q=>s34 a _ q),sqT e2,by lia,fun H5 s5=>?_⟩;refine⟨N,?_⟩;generalize (if duF gs 0 ps > fl[i] then duF gs 0 ps else fl[i])=y
   refine gN ?_;dsimp only;refine VD (k:=i) (v:=.int y) U (by rw[YD (i:Int)];rfl) U (s5 _ _ e2) (by rw[VH];lia) (by rw[VH];lia) fun p6 H6 s6 e6=>?_;refine⟨p6,_,_,gs.set i y,U,s4.trans (s5.trans s6),?_,by rw[aaP];exact lg⟩;rw[e6,List.map_set]
  ·rintro σ H4 ⟨h2,v0,v1,gs,rfl,s4,e2,lg⟩;refine⟨R,h2,hh,M,sqT e2,sqT (s4 _ _ eh),O,?_⟩;exact kI (fun _=>⟨O,q h2 gs H4 (s3.trans s4) e2 lg⟩) (fun _=>⟨h2,_,_,_,_,gs,U,s3.trans s4,e2,lg⟩)
 ·rintro σ H3 ⟨hh,u0,u1,u2,u3,z,rfl,s3,eh,lz⟩;exact⟨O,q hh z H3 s3 eh lz⟩
abbrev o7:Stmt:=top 87
def mO:aB ["_law_book","_law_floor","_law_found","_law_at"] Xt (aA o7):=bZ
def zF (F:Fun K "_law_roof" "_law_roof" o7 f fd) (B:Bt mg) :
  bh P w K mg base CX0 1 f fd Xt (Bu K):=by
 refine okA F mO fun H Q E hr h=>?_;obtain⟨b,f,n,bk,fl,rfl,⟨us,hb,rb,l12⟩,hf,hl,q⟩:=h
 refine⟨_,(aj (sT 2 mO.nd (aV cL))
 (aj (bW Wv U (bQ U B.range_ (a1 (pln K B.len_ (pv 0)))) (pgN 3 mO.nd) (aF (aW (rO Xg Xk Xj cI (pv 2) (a1 (aQ (r:=Dt K) (jT U) U B.max_ nj (a1 (aN pQ (aV (a1 (pxT K (pv 1) (pv 3)))) (bC (L:=["_law_pledge_here"]) (F:=[]) (cap:=[]) U (aY U U (by kernel_rfl)) (cW (pxL K (pv 0) (pv 3))) (fun _ _ _ _ _=>(pgC 0)) (fun _ _ _ _ _=>bI) (fun _ _ _ _ _=>(pxT K (pxT K (pv 0) (vX nM ao)) ao)))))))))))
 (sR (aR (r:=eY K) bj U B.tuple_ bH (v1 2))))),?_⟩
 have el:=rb.length;refine⟨small (Wz _),fun r hr0=>?_⟩;generalize eH1:upd H r _=H1;obtain⟨g1,e1⟩:=aC eH1 hr0
 refine⟨O,b,O,.inl (sqL (g1 _ _ hb)),O,by lia,by lia,iz (lo:=0) (n:=us.length) (fun i σ H2=>(∃ u,σ=[oR b,oR f,oR r,u])/\aG H H2/\H2 r=some (.lst ((Zv rfS (fl.take i) (bk.take i)).map V.int)))
  ⟨⟨O⟩,g1,e1⟩ ?_ ?_⟩
 ·rintro i σ H2 hi ⟨⟨u,rfl⟩,sm,hr2⟩;have jn:i < fl.length:=by lia
  have at1:atI (fl.map V.int) (0+(i:Int))=some (.int fl[i]):=by rw[YD];exact jG jn
  have hy:us[i]? = some us[i]:=VN hi;obtain⟨c,as,ps,ec,hps,hc,l100,rps⟩:=rb.get hy;have ell:=rps.length;have at2:atI us (0+(i:Int))=some (.ref c):=by rw[YD,← ec];exact eE hy
  refine⟨O,.inl ⟨U,_,sqL hr2⟩,R,f,Y,fM sm hf,at1,smN 1,fun p4 h4=>?_⟩;generalize eH4:upd H2 p4 _=H4;obtain⟨g4,e4⟩:=aC eH4 h4;have s4:aG H H4:=sm.trans g4
  refine⟨R,b,Y,sqL (s4 _ _ hb),at2,c,U,⟨_,sqL (s4 _ _ hc)⟩,fun D2 hD2=>fY (K:=K) (a:=c) (xs:=as.map V.ref) (fun j ws σ' H5=>(∃ u,σ'=[u])/\ws=((ps.take j).map lsF).map V.int/\aG H4 H5/\H5 D2=some (.lst ws))
   ⟨⟨O⟩,U,au hD2 _,aa⟩ (fun j ws σ' H5 _ h=>⟨sqL (h.2.2.1 _ _ (s4 _ _ hc)),h.2.2.2⟩) ?_ ?_⟩
  ·rintro j ws x σ' H5 hx ⟨⟨u,rfl⟩,e5,s5,hD5⟩;obtain⟨a,ha,rfl⟩:=BV hx;obtain⟨pl,hpl,ok,vs,hav,rv⟩:=rps.get ha;have lv:=rv.length;have lne:0 < pl.length:=List.length_pos_iff.mpr ok.1;have hlast:vs[vs.length - 1]? = some (vs[vs.length - 1]'(by lia)):=VN (by lia);obtain⟨r0,k0,y,t,er,hr0',rt,hp⟩:=rv.get hlast;rw[er] at hlast;rw[lv] at hp;have s45:=s4.trans s5;refine gT ?_;refine⟨R,a,Y,sqT (s45 _ _ hav),JB hlast,r0,Y,sqT (s45 _ _ hr0'),gt0,hD5,?_,⟨O⟩,?_,aK s5 hD2 _,aa⟩;{rw[e5,VH,VH,Wa];exact aH (by lia)};{rw[e5,take_snoc lsF hpl,VV,O8 ok hp];rfl}
  ·rintro ws σ' H5 ⟨_,e5,s5,hD5⟩;rw[VH,ell,V1] at e5;subst e5;refine⟨p4,D2,M,s5 _ _ e4,hD5,small ?_,fun p6 h6=>?_⟩;{rw[VH,VH];show 1+ps.length<=1000;lia};generalize eH6:upd H5 p6 _=H6;obtain⟨g6,e6⟩:=aC eH6 h6;have sall:aG H2 H6:=g4.trans (s5.trans g6);refine⟨p6,fl[i]::ps.map lsF,U,sqL e6,by simp,r,_,_,U,U,sall _ _ hr2,?_,⟨O⟩,aK (sm.trans sall) hr0 _,?_⟩;{rw[VH,X6,Wa];exact aH (by lia)};{rw[aa,vI rfS (VN jn) hps,VV];rfl}
 ·rintro σ H2 ⟨⟨u,rfl⟩,sm,hr2⟩;refine⟨O,r,O,.inl ⟨sqL hr2,fun l hl'=>?_⟩⟩;refine q l _ (sm.trans (au hl' _)) ?_;rw[aa,el,V1,← hl,V1];rfl
def J3 {l:Addr}{xs:Fk}{k:Nat}{y:V}{H:Hp}{Q:VK}(hl:H l=some (.lst xs))(hk:k < xs.length)(h5:xs.length<=100)(hy:xs[k]? = some y)(q:Q y (upd H l (.lst (xs.eraseIdx k)))):Nj (.ref l) [.int (k:Int)] H Q:=by
 refine⟨l,xs,(k:Int),k,y,U,U,hl,by lia,by lia,?_,hy,q⟩;have hj:(if (k:Int) < 0 then (k:Int)+(xs.length:Int) else (k:Int))=(k:Int):=iNe (by lia)
 have hd:((decide (0<=(k:Int)) && decide ((k:Int) < (xs.length:Int)))=true):=by
  rw[dcT (by lia),dcT (by lia)];rfl
 show (if (decide (0<=if (k:Int) < 0 then (k:Int)+(xs.length:Int) else (k:Int)) && decide ((if (k:Int) < 0 then (k:Int)+(xs.length:Int) else (k:Int)) < (xs.length:Int)))=true then some (if (k:Int) < 0 then (k:Int)+(xs.length:Int) else (k:Int)).toNat else none)=some k
 rw[hj,iPo hd,Wl]
abbrev lX:Stmt:=top 90
def cg:aB ["_law_cell_here","_law_state","_law_drawn","_law_n","_law_book","_law_some","_law_one","_law_high","_law_first"] WJ (aA lX):=bZ
theorem RiI.snoc {H:Hp}{e:Addr}{o s:Int}(h:H e=some (.tup [.int o,.int s])):∀ {us:Fk} {ps:DB},RiI H us ps->RiI H (us++[.ref e]) (ps++[(o,s)])
 | _,_,.nil=>.cons h .nil
 | _,_,.cons h' r=>.cons h' (RiI.snoc h r)
theorem RiI.erase {H:Hp}:∀ {us:Fk} {ps:DB} (k:Nat),RiI H us ps->RiI H (us.eraseIdx k) (ps.eraseIdx k)
 | _,_,_,.nil=>.nil
 | _,_,0,.cons _ r=>r
 | _,_,k+1,.cons h r=>.cons h (RiI.erase k r)
theorem RiI.rev {H:Hp}:∀ {us:Fk} {ps:DB},RiI H us ps->RiI H us.reverse ps.reverse
 | _,_,.nil=>.nil
 | _,_,.cons h r=>by
  rw[abb,abb];exact RiI.snoc h (RiI.rev r)
def RiI.way {H:Hp}{us:Fk}{ps:DB}(s:Int)(h:RiI H us ps):RiI H (zg s us) (zg s ps):=by
 unfold zg;split;{exact h};{exact h.rev}
inductive Bg (vs:Fk)(H:Hp)(Q:VK)(e3:XK):Prop where
 | mk (c:Int) (be a:Addr) (A:Sa) (_:vs=[.int c,.ref a]) (_:StR be A.n H a A.g A.go A.es A.co) (_:AOk A) (_:1<=A.n) (_:∀ (r:Addr) (us:Fk) (ps:DB) (H':Hp),aG H H'->H r=none->H' r=some (.lst us)->RiI H' us ps->ps.length<=50->Q (.ref r) H')
def xM {k:Nat} (hk:3<=k) (F:Fun K "_law_rises" "_law_rises" lX f fd) (B:Bt mg) (QN:Df P w K mg base "_law_draws" 1 WH (oF K)) (P8:Df P w K mg base "_law_book_of" 3 ZH Q3) (RF:Df P w K mg base "_law_owed" k WU (xH K))
  (Sb:Df P w K mg base "_law_step_by_step" (k+1) Wp BR) (RY:Df P w K mg base "_law_roof" 1 Xt (Bu K)) (Sj:Df P w K mg base "_law_who" 1 X1 Qa):bh P w K mg base CX0 (k+2) f fd WJ Bg:=by
 refine okA F cg fun H Q E hr h=>?_;obtain⟨c,be,a,S,rfl,hst,ok,n1,q⟩:=h
 refine⟨_,(aj (sT 2 cg.nd (aM QN hr (aq (aN bF (pv 0) ao) (a1 (aV (aq ao (aq ao (aq ao (aq ao (a1 ao))))))))))
 (aj (sT 3 cg.nd (pln K B.len_ (pxT K (pv 1) ao)))
 (aj (sTc 4 cg.nd (aM P8 hr (v1 1)))
 (aj (cP (aD rZ (pxL K (pv 2) ao) ao) (aj (qZ (L:=ZI) (F:=["_law_book","_law_state"]) (cap:=[4,1]) (j:=5) cg.nd U (aas U) U (aY U U (by kernel_rfl)) (bQ U B.range_ (v1 3)) (fun _ _ _ _ _=>(pgC 0)) (fun _ _ _ _ _=>(jk (aD mG (aM RF hr (aq (pxL K (pv 1) (pv 0)) (a1 (pxT K (pv 2) ao)))) (pxT K (pxT K (pv 2) ao) (pv 0))))) (fun _ _ _ _ _=>(pv 0)))
 (aF (cP (aD (r:=Tu K) (JC hr.iJ) (pv 5) (aV cL)) (aj (sT 6 cg.nd (pxL K (pv 5) (aN bM (pxL K (pv 2) ao) (pln K B.len_ (pv 5)))))
 (sR (aV (a1 (aU (aq (pv 6) (a1 (aM RF hr (aq (pxL K (pv 4) (pv 6)) (a1 (pxT K (pv 1) ao))))))))))) aX))) aX)
 (aj (cP (aD rZ (pxL K (pv 2) ao) ao) (aj (sTc 7 cg.nd (aM Sb hr (aq (pv 4) (aq (pxT K (pv 1) ao) (a1 (aM RY hr (aq (pv 4) (a1 (pxT K (pv 1) ao)))))))))
 (aj (qZ (L:=ZI) (F:=["_law_high","_law_state"]) (cap:=[7,1]) (j:=5) cg.nd U (aas U) U (aY U U (by kernel_rfl)) (bQ U B.range_ (v1 3)) (fun _ _ _ _ _=>(pgC 0)) (fun _ _ _ _ _=>(jk (aD mG (pxT K (pv 1) (pv 0)) (pxT K (pxT K (pv 2) ao) (pv 0))))) (fun _ _ _ _ _=>(aU (aq (pv 0) (a1 (pxT K (pv 1) (pv 0)))))))
 (aj (cP (PW.pt (jW (aD bc (pxL K (pv 2) ao) ao) (fO (aD (r:=Tu K) (JC hr.iJ) (pv 5) (aV cL))))) (aF (aW (rO Xg PySem.F.slot_list_pop PySem.F.type_list_pop Km (pv 5) (a1 (aN bM (pxL K (pv 2) ao) (pln K B.len_ (pv 5))))))) aX)
 (sR (Ci (pv 5) (jN (aN eQ ao (aN gm ao (aN bM (pxL K (pv 2) ao) ao))))))))) aX)
 (aj (sT 8 cg.nd (aU (aq (aM Sj hr (aq (pxL K (pv 2) ao) (v1 3))) (a1 (pxL K (pv 2) ao)))))
 (sR (pxL K (aV (aq (aV (v1 8)) (a1 (aV (aq (pv 8) (a1 (aU (aq (aM Sj hr (aq (pxL K (pv 2) ao) (v1 3))) (a1 (pxL K (pv 2) ao)))))))))) (aN eQ (pxL K (pv 2) ao) ao))))))))),?_⟩
 obtain⟨pa,ga,ta,kvs,h1,h2,h3,h4,h5,h6⟩:=id hst;have n12:=ok.n12;have lg:=ok.lg;have hps:∀ q∈([8,997,997,10,10]:DU),0 < q:=by decide
 refine bO (fun σ H1=>∃ (dr:Addr) (d0 d1 d2 d3 d4:Int),σ=[oI c,oR a,oR dr,none,none,none,none,none,none]/\aG H H1/\H1 dr=some (.lst [.int d0,.int d1,.int d2,.int d3,.int d4])/\0<=d0/\d0 < 8) ?_ ?_;{intro N Rc;refine⟨O,M,smN 5,fun p1 hp1=>⟨_,p1,[8,997,997,10,10],U,sqL aa,by decide,by decide,fun p2 hp2=>?_⟩⟩;obtain⟨d0,k0,b0⟩:=cN (c:=qJ (c+3)) (i:=0) hps U;cases k0;exact Rc _ _ ⟨p2,_,_,_,N,(au hp1 _).trans (au hp2 _),aa,b0.1,b0.2⟩};rintro σ H1 ⟨dr,d0,d1,d2,d3,d4,rfl,s1,e1,b0,b8⟩;refine bO (fun σ H2=>σ=[oI c,oR a,oR dr,some (vN S.n),none,none,none,none,none]/\H2=H1) ?_ ?_;{intro N Rc;refine⟨O,a,Y,sqT (s1 _ _ h1),gt0,pa,O,.inl (sqL (s1 _ _ h2)),Rc _ _ ⟨?_,U⟩⟩;rw[dD];rfl};rintro σ H2 ⟨rfl,rfl⟩;refine bO (fun σ H3=>∃ (b:Addr) (bk:List (List Pl)),σ=[oI c,oR a,oR dr,some (vN S.n),oR b,none,none,none,none]/\aG H2 H3/\Dj S.n H3 b bk/\bk.length=S.n) ?_ ?_;{intro N Rc;exact⟨O,be,a,S,U,hst.same s1,ok,fun b bk H3 s3 hb lb=>Rc _ _ ⟨b,bk,U,s3,hb,lb⟩⟩};rintro σ H3 ⟨b,bk,rfl,s3,hB,lb⟩;have e3:=s3 _ _ e1;have s03:=s1.trans s3;obtain⟨us0,hb,rb,l12⟩:=id hB;have lu0:=rb.length;have hst3:=hst.same s03;have bat:∀ j:Nat,j < S.n->∃ (c:Addr) (as:DM) (ps:List Pl),us0[j]? = some (.ref c)/\H3 c=some (.lst (as.map V.ref))/\as.length<=100/\d8 S.n H3 as ps:=fun j hj=>by
  have hy:us0[j]? = some us0[j]:=VN (by lia);obtain⟨cc,as,ps,ec,hps,hc,l100,rps⟩:=rb.get hy;exact⟨cc,as,ps,by rw[hy,ec],hc,l100,rps⟩
 have gat:∀ j:Nat,j < S.n->∃ z:Int,atI (S.g.map V.int) (j:Int)=some (.int z):=fun j hj=>⟨_,jG (by lia)⟩;refine bO (fun σ H4=>∃ (u:E8),σ=[oI c,oR a,oR dr,some (vN S.n),oR b,u,none,none,none]/\aG H3 H4) ?_ ?_
 ·intro N Rc;refine⟨O,dr,Y,sqL e3,gt0,M,O,kI (fun _=>?_) (fun _=>Rc _ _ ⟨O,aG.refl _⟩)⟩;refine bO (fun σ H4=>∃ (D:Addr) (ms:DV),σ=[oI c,oR a,oR dr,some (vN S.n),oR b,oR D,none,none,none]/\aG H3 H4/\H4 D=some (.lst (ms.map vN))/\ms.length<=S.n/\∀ x∈ms,x < S.n) ?_ ?_
  ·intro N5 R5
   refine⟨R,by lia,by lia,fun D hD=>cR (lo:=0) (n:=((S.n:Nat):Int).toNat) (fun j zs σ' H5=>(∃ u,σ'=[u,oR b,oR a])/\aG H3 H5/\H5 D=some (.lst zs)/\∃ ms:DV,zs=ms.map vN/\ms.length<=j/\∀ x∈ms,x < S.n)
    ⟨⟨O⟩,au hD _,aa,[],U,VP _,by simp⟩ (fun j zs σ' H5 _ h=>h.2.2.1) ?_ ?_⟩
   ·rintro j zs σ' H5 hj ⟨⟨u,rfl⟩,sm,eD,ms,rfl,lm,hm⟩;have hj':j < S.n:=by lia
    rw[YD];obtain⟨cc,as,ps,hcc,hc,l100,rps⟩:=bat j hj';obtain⟨z,hz⟩:=gat j hj';refine⟨R,b,Y,sqL (sm _ _ hb),eE hcc,O,a,Y,sqT ((s03.trans sm) _ _ h1),gt1,cc,ga,S.n,as,ps,S.g,U,sm _ _ hc,l100,rps.aO (fun a xs y=>sm _ _ y),sqT ((s03.trans sm) _ _ h3),by lia,fun H6 s6=>?_⟩;have s36:=s03.trans (sm.trans s6);refine⟨O,a,Y,sqT (s36 _ _ h1),gt1,O,ga,Y,sqT (s36 _ _ h3),hz,M,O,?_⟩;refine kI (fun _=>?_) (fun _=>⟨⟨O⟩,sm.trans s6,s6 _ _ eD,ms,U,by lia,hm⟩);refine⟨O,s6 _ _ eD,aH (by rw[VH];lia),⟨O⟩,aK (sm.trans s6) hD _,aa,ms++[j],?_,by rw[V6];show ms.length+1<=j+1;lia,?_⟩;{rw[VV];rfl}
    ·intro x hx;rcases List.mem_append.mp hx with y | y;{exact hm x y};{rw[List.mem_singleton.mp y];exact hj'}
   ·rintro zs σ' H5 ⟨_,sm,eD,ms,rfl,lm,hm⟩;exact R5 _ _ ⟨D,ms,U,sm,eD,by lia,hm⟩
  rintro σ H4 ⟨D,ms,rfl,s4,eD,lm,hm⟩;have e4:=s4 _ _ e3;refine⟨O,small (Wz _),fun p hp=>?_⟩;generalize eH5:upd H4 p _=H5;obtain⟨g5,e5⟩:=aC eH5 hp;have s5:=s4.trans g5;refine⟨D,p,O,U,sqL (g5 _ _ eD),sqL e5,O,?_⟩;cases ms with
  | nil=>exact bU (nN (Rc _ _ ⟨O,s5⟩))
  | cons m0 mr =>
   refine dh ?_;have lp:0 < (((m0::mr).map vN).length:Int):=by rw[VH,Wc];lia
   obtain⟨kk,ek⟩:=Xu (WN d1 (show (((m0::mr).map vN).length:Int)≠0 by lia));have hkk:kk < (m0::mr).length:=by have:=Wu d1 lp;rw[VH] at this ek;lia
   have hm0:=hm (m0::mr)[kk] (YW hkk);obtain⟨cc,as,ps,hcc,hc,l100,rps⟩:=bat _ hm0;refine bO (fun σ H6=>σ=[oI c,oR a,oR dr,some (vN S.n),oR b,oR D,some (vN (m0::mr)[kk]),none,none]/\H6=H5) ?_ ?_;{intro N6 R6;refine⟨R,dr,Y,sqL (g5 _ _ e4),gt1,O,D,O,.inl (sqL (g5 _ _ eD)),M,lp,D,Y,sqL (g5 _ _ eD),?_,R6 _ _ ⟨U,U⟩⟩;show atI _ (d1 % (((m0::mr).map vN).length:Int))=_;rw[ek];refine eE ?_;rw[Wf,VN hkk];rfl};rintro σ H6 ⟨rfl,rfl⟩;have s06:=s03.trans s5;refine⟨R,O,b,Y,sqL (s5 _ _ hb),eE hcc,O,a,Y,sqT (s06 _ _ h1),gt1,cc,ga,S.n,as,ps,S.g,U,s5 _ _ hc,l100,rps.aO (fun a xs y=>s5 _ _ y),sqT (s06 _ _ h3),by lia,fun H7 s7=>?_⟩;refine⟨smN 2,fun t ht=>⟨smN 1,fun r hr0=>?_⟩⟩;have st:=au ht (.tup [vN (m0::mr)[kk],.int (duF S.g 0 ps)]);have s67:=s7.trans st;refine q r _ [((m0::mr)[kk],duF S.g 0 ps)] _ (s06.trans (s67.trans (au hr0 _))) ((s06.trans s67).free hr0) aa (.cons ?_ .nil) (by show 1<=50;decide);exact au hr0 _ _ _ aa
 rintro σ H4 ⟨u,rfl,s4⟩;have e4:=s4 _ _ e3;have s04:=s03.trans s4;refine bO (fun σ H5=>σ=[oI c,oR a,oR dr,some (vN S.n),oR b,u,none,none,none]/\H5=H4/\6<=d0) ?_ ?_
 ·intro N Rc;refine⟨O,dr,Y,sqL e4,gt0,M,O,?_⟩;by_cases z6:d0 < 6
  case neg =>
   rw[dcF z6];exact bU (nN (Rc _ _ ⟨U,U,by lia⟩))
  rw[dcT z6];refine dh ?_;refine bO (fun σ H5=>∃ (hi:Addr) (z:DU),σ=[oI c,oR a,oR dr,some (vN S.n),oR b,u,none,oR hi,none]/\aG H4 H5/\H5 hi=some (.tup (z.map V.int))/\z.length=S.n) ?_ ?_;{intro N8 R8;refine⟨R,a,Y,sqT (s04 _ _ h1),gt1,R,a,Y,sqT (s04 _ _ h1),gt1,b,ga,S.n,bk,S.g,U,hB.mono s4,sqT (s04 _ _ h3),by lia,fun r5 H5 s5 e5=>?_⟩;exact⟨b,ga,r5,S.n,bk,S.g,rfF S.g bk,U,hB.mono (s4.trans s5),lb,(s04.trans s5) _ _ h3,lg,e5,by unfold rfF;rw[X6];lia,fun r6 z H6 s6 e6 lz=>R8 _ _ ⟨r6,z,U,s5.trans s6,e6,lz⟩⟩};rintro σ H5 ⟨hi,z,rfl,s5,ehi,lz⟩;have zat:∀ j:Nat,j < S.n->∃ y:Int,atI (z.map V.int) (j:Int)=some (.int y):=fun j hj=>⟨_,jG (by lia)⟩;have s05:=s04.trans s5;refine bO (fun σ H6=>∃ (D:Addr) (us:Fk) (ps:DB),σ=[oI c,oR a,oR dr,some (vN S.n),oR b,oR D,none,oR hi,none]/\aG H5 H6/\H5 D=none/\H6 D=some (.lst us)/\RiI H6 us ps/\ps.length<=S.n) ?_ ?_
  ·intro N9 R9
   refine⟨R,by lia,by lia,fun D hD=>cR (lo:=0) (n:=((S.n:Nat):Int).toNat) (fun j zs σ' H6=>(∃ u,σ'=[u,oR hi,oR a])/\aG H5 H6/\H6 D=some (.lst zs)/\∃ ps:DB,RiI H6 zs ps/\ps.length<=j)
    ⟨⟨O⟩,au hD _,aa,[],.nil,VP _⟩ (fun j zs σ' H6 _ h=>h.2.2.1) ?_ ?_⟩
   ·rintro j zs σ' H6 hj ⟨⟨u,rfl⟩,sm,eD,ps,hri,lm⟩;have hj':j < S.n:=by lia
    rw[YD];obtain⟨y,hy⟩:=zat j hj';obtain⟨y2,hy2⟩:=gat j hj';have s06:=s05.trans sm;refine⟨R,hi,Y,sqT (sm _ _ ehi),hy,O,a,Y,sqT (s06 _ _ h1),gt1,O,ga,Y,sqT (s06 _ _ h3),hy2,M,O,?_⟩;refine kI (fun _=>?_) (fun _=>⟨⟨O⟩,sm,eD,ps,hri,by lia⟩);refine⟨R,O,hi,Y,sqT (sm _ _ ehi),hy,smN 2,fun t ht=>?_⟩;have st:=au ht (.tup [.int (j:Int),.int y]);have eDt:=st _ _ eD;have tk:=bR (zs':=zs++[.ref t]) eDt;have lz':=hri.length;refine⟨eDt,aH (by lia),⟨O⟩,aK (sm.trans st) hD _,aa,ps++[((j:Int),y)],RiI.snoc (tk _ _ aa) ((hri.aO fun a xs q=>st _ _ q).aO tk),by rw[V6];show ps.length+1<=j+1;lia⟩
   ·rintro zs σ' H6 ⟨_,sm,eD,ps,hri,lm⟩;exact R9 _ _ ⟨D,zs,ps,U,sm,hD,eD,hri,by lia⟩
  rintro σ H6 ⟨D,us,ps,rfl,s6,fD,eD,hri,lps⟩;have fD4:=s5.free fD;have lus:=hri.length;have e6:=(s5.trans s6) _ _ e4;refine bO (fun σ H7=>∃ (us:Fk) (ps:DB),σ=[oI c,oR a,oR dr,some (vN S.n),oR b,oR D,none,oR hi,none]/\aG H4 H7/\H7 D=some (.lst us)/\RiI H7 us ps/\ps.length<=S.n) ?_ ?_
  ·intro NA RA;have out:∀ H7,aG H6 H7->NA [some (.int c),some (.ref a),some (.ref dr),some (vN S.n),some (.ref b),some (.ref D),none,some (.ref hi),none] H7:=fun H7 s7=>RA _ _ ⟨us,ps,U,s5.trans (s6.trans s7),s7 _ _ eD,hri.aO (fun a xs y=>s7 _ _ y),lps⟩;refine mQ (fun cc H7=>aG H6 H7/\(cc=true->us≠[])) (fun Q' Rq=>?_) ?pp (fun H7 z=>out H7 z.1);{refine⟨O,dr,Y,sqL e6,J,?_⟩;refine kI (fun _=>?_) (fun _=>Rq _ _ ⟨aG.refl _,fun z=>by cases z⟩);refine⟨O,small (Wz _),fun p hp=>?_⟩;generalize eH7:upd H6 p _=H7;obtain⟨g7,e7⟩:=aC eH7 hp;refine⟨D,p,O,U,sqL (g7 _ _ eD),sqL e7,O,Rq _ _ ⟨g7,fun y x=>?_⟩⟩;rw[x] at y;cases y}
   case pp =>
    rintro H7 ⟨s7,hne⟩;have hne:=hne U;have eD7:=s7 _ _ eD;have lpo:0 < us.length:=List.length_pos_iff.mpr hne;obtain⟨kk,ek⟩:=Xu (WN d1 (show ((us.length:Nat):Int)≠0 by lia));have hkk:kk < us.length:=by have:=Wu d1 (show (0:Int) < ((us.length:Nat):Int) by lia);lia
    refine⟨O,.inl ⟨U,_,sqL eD7⟩,O,dr,Y,sqL (s7 _ _ e6),gt1,O,D,us,U,.inl (sqL eD7),M,(show (0:Int) < ((us.length:Nat):Int) by lia),?_⟩;dsimp only [Di];rw[ek];refine J3 eD7 hkk (by lia) (VN hkk) ?_;refine RA _ _ ⟨us.eraseIdx kk,ps.eraseIdx kk,U,aK (s5.trans (s6.trans s7)) fD4 _,aa,((hri.aO fun a xs y=>s7 _ _ y).aO (bR eD7)).erase kk,?_⟩;have:=List.length_eraseIdx_le ps kk;lia
  rintro σ H7 ⟨us,ps,rfl,s7,eD7,hri,lps⟩;have wy:(1:Int) - 2 * (d2 % 2)=1∨(1:Int) - 2 * (d2 % 2) = -1:=by lia
  have s07:=s04.trans s7;refine⟨R,dr,Y,sqL (s7 _ _ e4),gt2,M,(show (0:Int) < 2 by decide),_,_,U,U,.inl ⟨by decide,by decide⟩,_,_,U,U,_,U,_,D,us,U,wy,U,sqL eD7,fun r hr0=>?_⟩;have sr:=au hr0 (.lst (zg (1 - 2 * (d2 % 2)) us));refine q r _ (zg (1 - 2 * (d2 % 2)) ps) _ (s07.trans sr) (s07.free hr0) aa ((hri.aO fun a xs y=>sr _ _ y).way _) (by rw[rn];lia)
 rintro σ H5 ⟨rfl,rfl,b6⟩;refine bO (fun σ H6=>∃ (fi:Addr) (o0:Int),σ=[oI c,oR a,oR dr,some (vN S.n),oR b,u,none,none,oR fi]/\aG H5 H6/\H6 fi=some (.tup [.int o0,.int d3])) ?_ ?_;{intro N Rc;refine⟨O,dr,Y,sqL e4,gt1,O,d1,O,(show (0:Int) < ((S.n:Nat):Int) by lia),fun z H6 s6=>⟨O,dr,Y,sqL (s6 _ _ e4),dw (k:=3) U,smN 2,fun t ht=>Rc _ _ ⟨t,z,U,s6.trans (au ht _),aa⟩⟩⟩};rintro σ H6 ⟨fi,o0,rfl,s6,efi⟩;refine⟨O,smN 1,fun l1 hl1=>?_⟩;generalize eF1:upd H6 l1 _=F1;obtain⟨g1,f1⟩:=aC eF1 hl1;have s61:=s6.trans g1;refine⟨R,dr,Y,sqL (s61 _ _ e4),gt2,O,d2,O,(show (0:Int) < ((S.n:Nat):Int) by lia),fun z F2 g2=>⟨O,dr,Y,sqL ((s61.trans g2) _ _ e4),dw (k:=4) U,smN 2,fun t ht=>?_⟩⟩;generalize eF3:upd F2 t _=F3;obtain⟨g3,f3⟩:=aC eF3 ht;refine⟨smN 2,fun l2 hl2=>?_⟩;generalize eF4:upd F3 l2 _=F4;obtain⟨g4,f4⟩:=aC eF4 hl2;refine⟨smN 2,fun l3 hl3=>?_⟩;generalize eF5:upd F4 l3 _=F5;obtain⟨g5,f5⟩:=aC eF5 hl3;have s15:=g2.trans (g3.trans (g4.trans g5));have sall:=s04.trans (s61.trans s15);have hl:∃ (r:Addr) (us:Fk) (ps:DB),([.ref l1,.ref l2]:Fk)[(d0 - 6).toNat]? = some (.ref r)/\H r=none/\F5 r=some (.lst us)/\RiI F5 us ps/\ps.length<=2:=by
  have efi5:=(g1.trans s15) _ _ efi;rcases (show d0=6∨d0=7 by lia) with rfl | rfl;{exact⟨l1,_,[(o0,d3)],U,(s04.trans s6).free hl1,s15 _ _ f1,.cons efi5 .nil,(by show 1<=2;decide)⟩};{exact⟨l2,_,[(o0,d3),(z,d4)],U,(s04.trans (s61.trans (g2.trans g3))).free hl2,g5 _ _ f4,.cons efi5 (.cons ((g4.trans g5) _ _ f3) .nil),VP 2⟩}
 obtain⟨r,us,ps,hr1,fr,er,hri,lps⟩:=hl;refine⟨O,dr,Y,sqL ((s61.trans s15) _ _ e4),gt0,M,l3,Y,sqL f5,?_,q r us ps F5 sall fr er hri (by lia)⟩;show atI _ (d0 - 6)=_;rw[show d0 - 6=(((d0 - 6).toNat:Nat):Int) by lia];exact eE hr1
abbrev o8:Stmt:=top 91
def bJ:aB ["_law_cell_here","_law_state","_law_most","_law_drawn","_law_n","_law_one","_law_numbers","_law_number","_law_who_here","_law_pledge_here"] VY (aA o8):=bZ
inductive Ny (vs:Fk)(H:Hp)(Q:VK)(e3:XK):Prop where
 | mk (c:Int) (mo:Nat) (be a:Addr) (A:Sa) (_:vs=[.int c,.ref a,.int (mo:Int)]) (_:1<=mo) (_:mo<=9) (_:StR be A.n H a A.g A.go A.es A.co) (_:AOk A) (_:∀ (da:Addr) (d:vM) (H':Hp),aG H H'->DeR A.n H' da d->(∀ r,H' da=some (.tup [.str "hand",.ref r])->H r=none)->(A.n=0->d = .come)->Q (.ref da) H')
def Ai {k:Nat} (hk:6<=k) (F:Fun K "_law_deed" "_law_deed" o8 f fd) (B:Bt mg) (QN:Df P w K mg base "_law_draws" 1 WH (oF K)) (Sj:Df P w K mg base "_law_who" 1 X1 Qa) (RU:Df P w K mg base "_law_rises" k WJ Bg)
  (Si:Df P w K mg base "_law_under" 1 WS vy) (RO:Df P w K mg base "_law_pledge" 6 VS BZ):bh P w K mg base CX0 (k+1) f fd VY Ny:=by
 refine okA F bJ fun H Q E hr h=>?_;obtain⟨c,mo,be,a,S,rfl,m1,m9,hst,ok,q⟩:=h
 refine⟨_,(aj (sT 3 bJ.nd (aM QN hr (aq (pv 0) (a1 (aV (aq ao (aq ao (aq ao (aq ao (a1 ao))))))))))
 (aj (sT 4 bJ.nd (pln K B.len_ (pxT K (pv 1) ao)))
 (aj (ifR (PW.pt (iB (aD bc (pv 4) ao) (eV (aD rZ (pxL K (pv 3) ao) (aN eQ ao (aN gm ao (aR (r:=Oa) tG U B.int_ Bq (a1 (du mG (pv 4) ao))))))))) (aU (a1 aJ)))
 (aj (sT 5 bJ.nd (aM Sj hr (aq (pxL K (pv 3) ao) (v1 4))))
 (aj (sT 6 bJ.nd (aQ (r:=Bo) (oU U) U B.sorted_ (by decide+kernel) (a1 (pxT K (pv 1) ao))))
 (aj (sT 7 bJ.nd (aN eQ (pxL K (pv 3) ao) ao))
 (aj (cP (PW.pt (jW (aD (r:=Tu K) (JC hr.iJ) (pv 6) (aV cL)) (fO (aD mG (pxL K (pv 3) ao) ao)))) (aF (sT 7 bJ.nd (pxL K (pv 6) (aN bM (pxL K (pv 3) ao) (pln K B.len_ (pv 6)))))) aX)
 (aj (ifR (aD bc (pxL K (pv 3) ao) ao) (aU (aq aJ (v1 5))))
 (aj (ifR (aD mG (pxL K (pv 3) ao) ao) (aU (aq aJ (a1 (aM RU hr (v2 0 1))))))
 (aj (ifR (aD bc (pxL K (pv 3) ao) ao) (aU (aq aJ (v1 7))))
 (aj (sT 8 bJ.nd (pv 5))
 (aj (cP (PW.pt (jW (aD bc (pxL K (pv 3) ao) ao) (fO (Nu (R7 hr.jF (pv 7) (pxT K (pv 1) ao)))))) (aF (sT 8 bJ.nd (pxT K (lC hr.jF (pxT K (pv 1) ao) (pv 7) (fun _ _=>U)) ao))) aX)
 (aj (sT 8 bJ.nd (aN bM (pv 8) (pv 4)))
 (aj (sT 9 bJ.nd (aM RO hr (aq (aM Si hr (aq (pv 0) (a1 ao))) (aq (pv 4) (aq (pv 8) (aq ao (v1 2)))))))
 (aj (cP (PW.pt (jW (aD bc (pxL K (pv 3) ao) ao) (fO (aD mG (pv 4) ao)))) (aF (sT 9 bJ.nd (aM RO hr (aq (aM Si hr (aq (pv 0) (a1 ao))) (aq (pv 4) (aq (aN bM (aN bF (pv 8) ao) (pv 4)) (aq ao (v1 2)))))))) aX)
 (aj (ifR (aD bc (pxL K (pv 3) ao) ao) (aU (aq aJ (v2 7 9))))
 (sR (aU (aq aJ (v2 5 9)))))))))))))))))))),?_⟩
 obtain⟨pa,ga,ta,kvs,h1,h2,h3,h4,h5,h6⟩:=id hst;have n12:=ok.n12;have l40:=ok.l40;have hps:∀ q∈([18,997,40,12,9]:DU),0 < q:=by decide
 refine bO (fun σ H1=>∃ (dr:Addr) (d0 d1 d2 d3 d4:Int),σ=[oI c,oR a,some (.int (mo:Int)),oR dr,none,none,none,none,none,none]/\aG H H1/\H1 dr=some (.lst [.int d0,.int d1,.int d2,.int d3,.int d4])) ?_ ?_;{intro N Rc;refine⟨O,smN 5,fun p1 hp1=>⟨_,p1,[18,997,40,12,9],U,sqL aa,by decide,by decide,fun p2 hp2=>?_⟩⟩;exact Rc _ _ ⟨p2,_,_,_,N,(au hp1 _).trans (au hp2 _),aa⟩};rintro σ H1 ⟨dr,d0,d1,d2,d3,d4,rfl,s1,e1⟩;refine bO (fun σ H2=>σ=[oI c,oR a,some (.int (mo:Int)),oR dr,some (vN S.n),none,none,none,none,none]/\H2=H1) ?_ ?_;{intro N Rc;refine⟨O,a,Y,sqT (s1 _ _ h1),gt0,pa,O,.inl (sqL (s1 _ _ h2)),Rc _ _ ⟨?_,U⟩⟩;rw[dD];rfl};rintro σ H2 ⟨rfl,rfl⟩;refine bO (fun σ H3=>σ=[oI c,oR a,some (.int (mo:Int)),oR dr,some (vN S.n),none,none,none,none,none]/\H3=H2/\1<=S.n) ?_ ?_
 ·intro N Rc;refine mQ (fun cc H3=>H3=H2/\(cc=false->1<=S.n)) (fun Q' Rq=>?_) (fun H3 z=>?_) (fun H3 z=>nN (Rc _ _ ⟨U,z.1,z.2 U⟩));{refine⟨T,kI (fun _=>Rq _ _ ⟨U,fun z=>by cases z⟩) (fun y=>?_)⟩;have n1:1<=S.n:=Nat.pos_of_ne_zero fun x=>y (dcT (by rw[x];rfl));exact⟨O,dr,Y,sqL e1,gt0,O,M,.inr ⟨O,M,.inl ⟨by decide,by decide⟩,_,_,U,U,_,_,U,U,_,U,Rq _ _ ⟨U,fun _=>n1⟩⟩⟩};{obtain⟨rfl,_⟩:=z;refine⟨smN 1,fun p hp=>?_⟩;have sn:=au hp (.tup [.str "come"]);refine q p .come _ (s1.trans sn) (.come aa) (fun r hr0=>?_) fun _=>U;rw[aa] at hr0;cases hr0}
 rintro σ H3 ⟨rfl,rfl,n1⟩;refine bO (fun σ H4=>∃ z1:Int,σ=[oI c,oR a,some (.int (mo:Int)),oR dr,some (vN S.n),oI z1,none,none,none,none]/\aG H3 H4) ?_ ?_;{intro N Rc;exact⟨O,dr,Y,sqL e1,gt1,O,d1,O,(show (0:Int) < ((S.n:Nat):Int) by lia),fun z H6 s6=>Rc _ _ ⟨z,U,s6⟩⟩};rintro σ H4 ⟨z1,rfl,s4⟩;have s04:=s1.trans s4;refine bO (fun σ H5=>∃ (l:Addr) (ms:DU),σ=[oI c,oR a,some (.int (mo:Int)),oR dr,some (vN S.n),oI z1,oR l,none,none,none]/\aG H4 H5/\H5 l=some (.lst (ms.map V.int))) ?_ ?_;{intro N Rc;exact⟨O,a,Y,sqT (s04 _ _ h1),gt2,ta,kvs,S.es.map fun e=>(e.1:Int),U,s04 _ _ h4,h5.keys,by rw[VH];lia,fun ms pm sr l hl=>Rc _ _ ⟨l,ms,U,au hl _,aa⟩⟩};rintro σ H5 ⟨l,ms,rfl,s5,el⟩;have s05:=s04.trans s5;have e5:=(s4.trans s5) _ _ e1;refine bO (fun σ H6=>∃ z2:Int,σ=[oI c,oR a,some (.int (mo:Int)),oR dr,some (vN S.n),oI z1,oR l,oI z2,none,none]/\H6=H5) ?_ ?_;{intro N Rc;exact⟨O,dr,Y,sqL e5,gt2,M,Rc _ _ ⟨O,U⟩⟩};rintro σ H6 ⟨z2,rfl,rfl⟩;refine bO (fun σ H7=>∃ z3:Int,σ=[oI c,oR a,some (.int (mo:Int)),oR dr,some (vN S.n),oI z1,oR l,oI z3,none,none]/\aG H6 H7) ?_ ?_
 ·intro N Rc;refine mQ (fun cc H7=>aG H6 H7/\(cc=true->ms≠[])) (fun Q' Rq=>?_) ?pp (fun H7 z=>nN (Rc _ _ ⟨O,z.1⟩));{refine⟨O,small (Wz _),fun p hp=>?_⟩;generalize eH7:upd H6 p _=H7;obtain⟨g7,e7⟩:=aC eH7 hp;refine⟨l,p,O,U,sqL (g7 _ _ el),sqL e7,O,?_⟩;refine kI (fun y=>?_) (fun _=>Rq _ _ ⟨g7,fun z=>by cases z⟩);exact⟨O,dr,Y,sqL (g7 _ _ e5),dw (k:=3) U,M,O,Rq _ _ ⟨g7,fun _ x=>by rw[x] at y;cases y⟩⟩}
  case pp =>
   rintro H7 ⟨s7,hne⟩;have hne:=hne U;have lpo:0 < ms.length:=List.length_pos_iff.mpr hne;have lp:(0:Int) < (((ms.map V.int).length:Nat):Int):=by rw[VH];lia
   obtain⟨kk,ek⟩:=Xu (WN d2 (show (((ms.map V.int).length:Nat):Int)≠0 by lia));have hkk:kk < ms.length:=by have:=Wu d2 lp;rw[VH] at this ek;lia
   refine⟨R,dr,Y,sqL (s7 _ _ e5),gt2,O,l,O,.inl (sqL (s7 _ _ el)),M,lp,l,Y,sqL (s7 _ _ el),?_,Rc _ _ ⟨ms[kk],U,s7⟩⟩;show atI _ (d2 % (((ms.map V.int).length:Nat):Int))=_;rw[ek];refine eE ?_;rw[Wf,VN hkk];rfl
 rintro σ H7 ⟨z3,rfl,s7⟩;have s07:=s05.trans s7;have e7:=s7 _ _ e5;have hst7:=hst.same s07;refine bO (fun σ H8=>σ=[oI c,oR a,some (.int (mo:Int)),oR dr,some (vN S.n),oI z1,oR l,oI z3,none,none]/\H8=H7) ?_ ?_
 ·intro N Rc;refine⟨O,dr,Y,sqL e7,J,kI (fun _=>⟨O,smN 2,fun p hp=>?_⟩) (fun _=>Rc _ _ ⟨U,U⟩)⟩;have sn:=au hp (.tup [.str "leave",.int z1]);refine q p _ _ (s07.trans sn) (.leave aa) (fun r hr0=>?_) fun z=>by lia
  rw[aa] at hr0;cases hr0
 rintro σ H8 ⟨rfl,rfl⟩;refine bO (fun σ H9=>σ=[oI c,oR a,some (.int (mo:Int)),oR dr,some (vN S.n),oI z1,oR l,oI z3,none,none]/\H9=H8) ?_ ?_
 ·intro N Rc;refine⟨O,dr,Y,sqL e7,gt0,M,O,kI (fun _=>⟨R,c,be,a,S,U,hst7,ok,n1,fun r us ps H9 s9 fr er hri lps=>⟨smN 2,fun p hp=>?_⟩⟩) (fun _=>Rc _ _ ⟨U,U⟩)⟩;have sn:=au hp (.tup [.str "hand",.ref r]);refine q p _ _ (s07.trans (s9.trans sn)) (.hand aa (sn _ _ er) (hri.aO fun a xs y=>sn _ _ y) (by lia)) (fun r' hr0=>?_) fun z=>by lia
  rw[aa] at hr0;cases hr0;exact s07.free fr
 rintro σ H9 ⟨rfl,rfl⟩;refine bO (fun σ H10=>σ=[oI c,oR a,some (.int (mo:Int)),oR dr,some (vN S.n),oI z1,oR l,oI z3,none,none]/\H10=H9) ?_ ?_
 ·intro N Rc;refine⟨O,dr,Y,sqL e7,J,kI (fun _=>⟨O,smN 2,fun p hp=>?_⟩) (fun _=>Rc _ _ ⟨U,U⟩)⟩;have sn:=au hp (.tup [.str "withdraw",.int z3]);refine q p _ _ (s07.trans sn) (.withdraw aa) (fun r hr0=>?_) fun z=>by lia
  rw[aa] at hr0;cases hr0
 rintro σ H10 ⟨rfl,rfl⟩;refine bO (fun σ H11=>∃ z4:Int,σ=[oI c,oR a,some (.int (mo:Int)),oR dr,some (vN S.n),oI z1,oR l,oI z3,oI z4,none]/\H11=H10) ?_ ?_;{intro N Rc;exact⟨O,Rc _ _ ⟨z1,U,U⟩⟩};rintro σ H11 ⟨z4,rfl,rfl⟩;have h4':=s07 _ _ h4;have dg:∀ (o:E8),tQ kvs (Xf z3)=o->uf H11 ta (.int z3) o:=fun o ho=>by
  rw[← ho];exact uf.k (k:=Xf z3) h4'
 refine bO (fun σ H12=>∃ z5:Int,σ=[oI c,oR a,some (.int (mo:Int)),oR dr,some (vN S.n),oI z1,oR l,oI z3,oI z5,none]/\H12=H11) ?_ ?_
 ·intro N Rc;refine mQ (fun cc H12=>H12=H11/\(cc=true->∃ e,fnE S.es z3=some e)) (fun Q' Rq=>?_) ?pq (fun H12 z=>nN (Rc _ _ ⟨O,z.1⟩))
  ·refine⟨O,dr,Y,sqL e7,J,kI (fun _=>?_) (fun _=>Rq _ _ ⟨U,fun z=>by cases z⟩)⟩;cases hf:fnE S.es z3 with
   | none=>exact⟨R,a,Y,sqT (s07 _ _ h1),gt2,ta,none,U,dg none (h5.none (wB hf)),O,Rq _ _ ⟨U,fun z=>by cases z⟩⟩
   | some e =>
    obtain⟨t,p0,hv,ht,hp0⟩:=h5.find ok.eu.nd hf;exact⟨R,a,Y,sqT (s07 _ _ h1),gt2,ta,O,dg _ hv,O,Rq _ _ ⟨U,fun _=>⟨e,hf⟩⟩⟩
  case pq =>
   rintro H12 ⟨rfl,hf⟩;obtain⟨e,hf⟩:=hf U;obtain⟨t,p0,hv,ht,hp0⟩:=h5.find ok.eu.nd hf;exact⟨O,a,Y,sqT (s07 _ _ h1),gt2,O,ta,O,dg _ hv,t,Y,sqT (s07 _ _ ht),gt0,Rc _ _ ⟨O,U⟩⟩
 rintro σ H12 ⟨z5,rfl,rfl⟩;refine bO (fun σ H13=>∃ i:Nat,σ=[oI c,oR a,some (.int (mo:Int)),oR dr,some (vN S.n),oI z1,oR l,oI z3,some (vN i),none]/\H13=H12/\i < S.n) ?_ ?_
 ·intro N Rc;obtain⟨i,ei⟩:=Xu (WN z5 (show ((S.n:Nat):Int)≠0 by lia));have hi:i < S.n:=by have:=Wu z5 (show (0:Int) < ((S.n:Nat):Int) by lia);lia
  refine⟨R,M,(show (0:Int) < ((S.n:Nat):Int) by lia),Rc _ _ ⟨i,?_,U,hi⟩⟩;show[some (.int c),some (.ref a),some (.int (mo:Int)),some (.ref dr),some (vN S.n),some (.int z1),some (.ref l),some (.int z3),some (.int (z5 % ((S.n:Nat):Int))),none]=_;rw[ei];rfl
 rintro σ H13 ⟨i,rfl,rfl,hi⟩;refine bO (fun σ H14=>∃ (pd:Addr) (pl:Pl),σ=[oI c,oR a,some (.int (mo:Int)),oR dr,some (vN S.n),oI z1,oR l,oI z3,some (vN i),oR pd]/\aG H13 H14/\mH S.n H14 pd pl) ?_ ?_;{intro N Rc;refine⟨O,c,1,U,by decide,_,U,_,U,_,U,_,S.n,i,2,mo,U,n1,n12,hi,by decide,by decide,m1,m9,fun pd pl H14 s14 hp=>Rc _ _ ⟨pd,pl,U,s14,hp⟩⟩};rintro σ H14 ⟨pd,pl,rfl,s14,hpd⟩;have e14:=s14 _ _ e7;refine bO (fun σ H15=>∃ (pd:Addr) (pl:Pl),σ=[oI c,oR a,some (.int (mo:Int)),oR dr,some (vN S.n),oI z1,oR l,oI z3,some (vN i),oR pd]/\aG H13 H15/\mH S.n H15 pd pl) ?_ ?_
 ·intro N Rc;refine mQ (fun cc H15=>H15=H14) (fun Q' Rq=>?_) ?pr (fun H15 z=>nN (Rc _ _ ⟨pd,pl,U,by rw[z];exact s14,by rw[z];exact hpd⟩));{exact⟨O,dr,Y,sqL e14,dw (k:=4) U,U,O,kI (fun _=>⟨O,M,O,Rq _ _ U⟩) (fun _=>Rq _ _ U)⟩}
  case pr =>
   rintro H15 rfl;obtain⟨i2,ei⟩:=Xu (WN ((i:Int)+1) (show ((S.n:Nat):Int)≠0 by lia));have hi2:i2 < S.n:=by have:=Wu ((i:Int)+1) (show (0:Int) < ((S.n:Nat):Int) by lia);lia
   refine⟨O,c,1,U,by decide,_,U,_,U,_,_,U,U,_,U,_,_,U,U,(show (0:Int) < ((S.n:Nat):Int) by lia),_,U,Oc c 1,S.n,i2,2,mo,?_,n1,n12,hi2,by decide,by decide,m1,m9,fun pd pl H16 s16 hp=>Rc _ _ ⟨pd,pl,U,s14.trans s16,hp⟩⟩;show[V.int (Oc c 1),V.int (S.n:Int),V.int (((i:Int)+1) % ((S.n:Nat):Int)),V.int 2,V.int (mo:Int)]=_;rw[ei]
 rintro σ H15 ⟨pd,pl,rfl,s15,hpd⟩;have e15:=s15 _ _ e7;have s015:=s07.trans s15;refine bO (fun σ H16=>σ=[oI c,oR a,some (.int (mo:Int)),oR dr,some (vN S.n),oI z1,oR l,oI z3,some (vN i),oR pd]/\H16=H15) ?_ ?_
 ·intro N Rc;refine⟨O,dr,Y,sqL e15,J,kI (fun _=>⟨R,smN 3,fun p hp=>?_⟩) (fun _=>Rc _ _ ⟨U,U⟩)⟩;have sn:=au hp (.tup [.str "change",.int z3,.ref pd]);refine q p _ _ (s015.trans sn) (.change aa (hpd.mono sn)) (fun r hr0=>?_) fun z=>by lia
  rw[aa] at hr0;cases hr0
 rintro σ H16 ⟨rfl,rfl⟩;refine⟨R,smN 3,fun p hp=>?_⟩;have sn:=au hp (.tup [.str "pledge",.int z1,.ref pd]);refine q p _ _ (s015.trans sn) (.pledge aa (hpd.mono sn)) (fun r hr0=>?_) fun z=>by lia
 rw[aa] at hr0;cases hr0
abbrev oW:Stmt:=top 63
def Bf:aB YV YV (aA oW):=bZ
inductive Qe (CS CB:Addr)(vs:Fk)(H:Hp)(Q:VK)(e3:XK):Prop where
 | mk (b be ah dx nw ra:Addr) (n co:Nat) (xs zs us:Fk) (g:DU) (go:DV) (es:List Ent) (ps:DB) (_:vs=[.ref b,.ref ra]) (_:Bn CS CB n H b be ah dx nw xs zs g go es co) (_:H ra=some (.lst us)) (_:RiI H us ps) (_:ps.length<=100) (_:∀ H',aG H H'->Q (.bl (decide (haW n g go es ps = ""))) H')
def zp {CS CB G:Addr} {x:XA} {k:Nat} (F:Fun K "may_hand" "may_hand" oW f fd) (T:yO K CB) (UC:mg "BoonError" = some (.ref G)) (RX:∀ w:Wt,XRd K (x.of w) G "word") (PM:Dx P w K mg base "handed_in" k YI (rM CS x)):bh P w K mg base CX0 (k+1) f fd YV (Qe CS CB):=by
 refine okA F Bf fun H Q E hr h=>?_;obtain⟨b,be,ah,dx,nw,ra,n,co,xs,zs,us,g,go,es,ps,rfl,hB,hra,hri,p100,q⟩:=h;refine⟨_,aj (Pr (G:=G) (f:="word") ⟨U,U⟩ U UC fun pn E W hx=>aF (aW (qi PM hr hx (aq (pfd K 0) (v1 1))))) (sR dR),_,U,b,CB,dx,_,_,U,hB.hb,T.cl,T.now,U,_,U,nw,ra,n,co,g,go,es,us,ps,U,hB.st,hB.lg,hB.l40,hra,hri,p100,fun z dx' H1 s1 e1=>⟨_,dx',U,U,RX _,fun x u hx=>?_⟩,fun z st' H1 s1 hst1=>?_⟩;{have:=q (upd H1 x u) (s1.trans (au hx u));rw[dcF z] at this;exact this};{have:=q H1 s1;rw[dcT z] at this;exact this}
section
variable {CS CB:Addr}{n:Nat}{H:Hp}{b be ah dx nw l st:Addr}{xs zs us vs:Fk}{g:DU}{go:DV}{es:List Ent}{co:Nat}
def UT (h:H l=some (.lst us)):Ks CS H (upd H l (.lst vs)):=⟨fun a _ q=>by rw[aL (fun z=>by rw[z,h] at q;cases q)];exact q,fun a _ _ q=>by rw[aL (fun z=>by rw[z,h] at q;cases q)];exact q⟩
def Bn.TJ (B:Bn CS CB n H b be ah dx nw xs zs g go es co)(h:H l=some (.lst us))(n1:l≠be)(n2:l≠ah):Bn CS CB n (upd H l (.lst vs)) b be ah dx nw xs zs g go es co:=by
 have hb:=B.hb;exact⟨by rw[aL (fun z=>by rw[z,h] at hb;cases hb)];exact hb,by rw[aL n1.symm];exact B.hbe,by rw[aL n2.symm];exact B.hah,B.st.ks (UT h),B.nb,B.lg,B.n12,B.l40,B.gn,B.gl⟩
def StR.TJ (B:StR be n H st g go es co)(h:H l=some (.lst us))(ne:us≠prF n go):StR be n (upd H l (.lst vs)) st g go es co:=by
 obtain⟨pa,ga,ta,kvs,h1,h2,h3,h4,h5,h6⟩:=B;have k:=UT (CS:=0) (vs:=vs) h;exact⟨pa,ga,ta,kvs,k.1 _ _ h1,by rw[aL (fun z=>by rw[z,h] at h2;cases h2;exact ne U)];exact h2,k.1 _ _ h3,by rw[aL (fun z=>by rw[z,h] at h4;cases h4)];exact h4,h5.aO k.1,h6⟩
def NZ {ws:Fk}{z:Addr}:ws++[V.ref z]≠prF n go:=fun e=>by
 have:V.ref z∈prF n go:=by rw[← e];simp
 obtain⟨i,_,y⟩:=List.mem_map.mp this;cases y
end
def Tz {A:Sa}{d:vM}:A.n<=(A.aft d).n:=by
 cases d with
 | come=>exact Xx _
 | leave=>exact VP _
 | pledge=>exact VP _
 | hand=>exact VP _
 | change=>exact VP _
 | withdraw=>exact VP _
structure Ow (A:Sa):Prop where
 okg:∀ x∈A.g,0<=x/\x<=9
 own:∀ e∈A.es,∀ x∈e.2.2,nn e.2.1 x.2=true
theorem UW {n:Nat} {g:DU} {go:DV}:∀ {ps:DB} {seen:DV},riW n g go seen ps = ""->∀ x∈ps,g.getD x.1.toNat 0 < x.2/\x.2<=9
 | [],_,_,x,hx=>nomatch hx
 | y::r,seen,h,x,hx=>by
  unfold riW at h;by_cases z:miW n go y.1≠"";{rw[iPo z] at h;exact absurd h z};rw[iNe z] at h;by_cases w:y.1.toNat∈seen∨¬ (g.getD y.1.toNat 0 < y.2/\y.2<=9);{rw[iPo w] at h;exact absurd h (by decide)};rw[iNe w] at h;rcases List.mem_cons.mp hx with rfl | hx;{exact Classical.not_not.mp fun q=>w (.inr q)};{exact UW h x hx}
def Oz {ps:DB}:∀ {g:DU} {x:Int},x∈seI g ps->x∈g∨∃ p∈ps,x=p.2:=by
 induction ps with
 | nil=>exact fun h=>.inl h
 | cons y r ih =>
  intro g x h;rcases ih (g:=g.set y.1.toNat y.2) h with z | ⟨p,hp,e⟩
  ·rcases List.mem_or_eq_of_mem_set z with w | w;{exact .inl w};{exact .inr ⟨y,V0,w⟩}
  ·exact .inr ⟨p,V7 _ hp,e⟩
def Q8 {n:Nat} {g:DU} {go:DV} {es:List Ent} {ps:DB} (h:haW n g go es ps = ""):riW n g go [] ps = "":=by
 unfold haW at h;by_cases z:ps=[];{rw[iPo z] at h;exact absurd h (by decide)};rw[iNe z] at h;by_cases w:riW n g go [] ps≠"";{rw[iPo w] at h;exact absurd h w};{exact Classical.not_not.mp w}
def Ow.aft {A:Sa} {d:vM} (o:Ow A) (k:AOk A) (h:reW A d = ""):Ow (A.aft d):=by
 cases d with
 | come =>
  refine⟨fun x hx=>?_,o.own⟩;rcases List.mem_append.mp (show x∈A.g++[0] from hx) with z | z;{exact o.okg x z};{rw[List.mem_singleton.mp z];decide}
 | leave p=>exact⟨o.okg,fun e he=>o.own e (List.mem_filter.mp he).1⟩
 | pledge p pl =>
  refine⟨o.okg,fun e he=>?_⟩;rcases List.mem_append.mp (show e∈A.es++[(A.co,p.toNat,pl)] from he) with z | z;{exact o.own e z}
  ·rw[List.mem_singleton.mp z];intro x hx;have h:plW A.n A.go A.es p pl = "":=h;unfold plW at h;by_cases y:miW A.n A.go p≠"";{rw[iPo y] at h;exact absurd h y};rw[iNe y] at h;by_cases y:∃ x∈pl,nn p.toNat x.2=false;{rw[iPo y] at h;exact absurd h (by decide)};{exact Bool.of_not_eq_false fun w=>y ⟨x,hx,w⟩}
 | hand ps =>
  refine⟨fun x hx=>?_,o.own⟩;have al:=UW (Q8 (show haW A.n A.g A.go A.es ps = "" from h));rcases Oz (show x∈seI A.g ps from hx) with z | ⟨p,hp,rfl⟩;{exact o.okg x z}
  ·have:=al p hp;refine⟨?_,this.2⟩;have g0:0<=A.g.getD p.1.toNat 0:=by
    rw[V3];cases q:A.g[p.1.toNat]? with
    | none=>exact Yq _
    | some y=>exact (o.okg y (Wk q)).1
   lia
 | change j pl =>
  refine⟨o.okg,fun e he x hx=>?_⟩;have h:chW A.g A.es j pl = "":=h;unfold chW at h;cases f:fnE A.es j with
  | none =>
   rw[f] at h;exact absurd (show ("no pledge" : Wt) = "" from h) (by decide)
  | some e0 =>
   rw[f] at h;obtain⟨m0,k0⟩:=jw f;have h:(if ∃ x∈pl,nn e0.2.1 x.2=false then ("bad pledge" : Wt) else bdW A.g (chE A.es j pl) e0.2.1) = "":=h
   by_cases y:∃ x∈pl,nn e0.2.1 x.2=false;{rw[iPo y] at h;exact absurd h (by decide)};obtain⟨e',he',rfl⟩:=List.mem_map.mp (show e∈A.es.map _ from he);by_cases w:(e'.1:Int)=j;{rw[iPo w] at hx ⊢;rw[zK k.eu.nd he' m0 (by lia)];exact Bool.of_not_eq_false fun w=>y ⟨x,hx,w⟩};{rw[iNe w] at hx ⊢;exact o.own e' he' x hx}
 | withdraw j=>exact⟨o.okg,fun e he=>o.own e (List.mem_filter.mp he).1⟩
abbrev mF:Stmt:=top 93
def gP:aB ["_law_boon_here","_law_cells","_law_most","_law_past","_law_cell_here","_law_deed_here"] VZ (aA mF):=bZ
inductive HQ (CS CB:Addr)(vs:Fk)(H:Hp)(Q:VK)(e3:XK):Prop where
 | mk (b be ah dx nw l:Addr) (mo:Nat) (cs:DU) (_:vs=[.ref b,.ref l,.int (mo:Int)]) (_:1<=mo) (_:mo<=9) (_:Bn CS CB 0 H b be ah dx nw [] [] [] [] [] 0) (_:H l=some (.lst (cs.map V.int))) (_:l≠be) (_:0 < cs.length) (_:cs.length<=200) (_:∀ (pl st ah nw:Addr) (ws xs zs:Fk) (A:Sa) (H':Hp),But b be H H'->H' pl=some (.lst (ws++[.ref st]))->Bn CS CB A.n H' b be ah dx nw xs zs A.g A.go A.es A.co->xs.length<=cs.length->StR be A.n H' st A.g A.go A.es A.co->AOk A->Ow A->1<=A.n->Q (.ref pl) H')
def yC {CS CB:Addr} {x:XA} {k:Nat} (hk:10<=k) (F:Fun K "_law_grown" "_law_grown" mF f fd) (B:Bt mg) (QE:Df P w K mg base "_law_deed" 9 VY Ny) (RR:Df P w K mg base "_law_refusal" 8 WI yg)
  (QI:Dx P w K mg base "_law_do" k WC (U7 CS CB x)) (P7:Df P w K mg base "_law_after" 2 WI IK):bh P w K mg base CX0 (k+1) f fd VZ (HQ CS CB):=by
 refine okA F gP fun H Q E hr h=>?_;obtain⟨b,be,ah,dx,nw,l,mo,cs,rfl,m1,m9,hB,hl,nl,c0,c2,q⟩:=h
 refine⟨_,(aj (sT 3 gP.nd (aV (a1 (aU (aq (aV cL) (aq (aU cL) (aq Cr (a1 ao))))))))
 (aj (bW Wv U (cW (pv 1)) (pgN 4 gP.nd) (aj (sT 5 gP.nd (aM QE hr (aq (pv 4) (aq (pxL K (pv 3) (vX nM ao)) (v1 2)))))
 (aF (cP (aD bc (aM RR hr (aq (pxL K (pv 3) (vX nM ao)) (v1 5))) aJ) (aj (aW (qi QI hr yI (v2 0 5)))
 (aF (aW (rO Xg Xk Xj cI (pv 3) (a1 (aM P7 hr (aq (pxL K (pv 3) (vX nM ao)) (v1 5)))))))) aX))))
 (sR (pv 3)))),?_⟩
 refine bO (fun σ H1=>∃ (pt st:Addr),σ=[oR b,oR l,some (.int (mo:Int)),oR pt,none,none]/\aG H H1/\H pt=none/\H1 pt=some (.lst [.ref st])/\StR be 0 H1 st [] [] [] 0) ?_ ?_;{intro N Rc;refine⟨smN 0,fun a1 h1=>?_⟩;generalize eF1:upd H a1 _=F1;obtain⟨gf1,ef1⟩:=aC eF1 h1;refine⟨smN 0,fun a2 h2=>?_⟩;generalize eF2:upd F1 a2 _=F2;obtain⟨gf2,ef2⟩:=aC eF2 h2;intro a3 h3;generalize eF3:upd F2 a3 _=F3;obtain⟨gf3,ef3⟩:=aC eF3 h3;refine⟨smN 4,fun st hst=>?_⟩;generalize eF4:upd F3 st _=F4;obtain⟨gf4,ef4⟩:=aC eF4 hst;refine⟨smN 1,fun pt hpt=>?_⟩;generalize eF5:upd F4 pt _=F5;obtain⟨gf5,ef5⟩:=aC eF5 hpt;have s14:=gf2.trans (gf3.trans gf4);refine Rc _ _ ⟨pt,st,U,gf1.trans (s14.trans gf5),(gf1.trans s14).free hpt,ef5,⟨a1,a2,a3,[],gf5 _ _ ef4,(s14.trans gf5) _ _ ef1,(gf3.trans (gf4.trans gf5)) _ _ ef2,(gf4.trans gf5) _ _ ef3,.nil,fun z=>?_⟩⟩;rw[z,hB.hbe] at h1;cases h1};rintro σ H1 ⟨pt,st,rfl,s1,fpt,ept,hst⟩;have npl:pt≠l:=fun z=>by rw[z,hl] at fpt;cases fpt
 have npb:pt≠b:=fun z=>by rw[z,hB.hb] at fpt;cases fpt
 have npe:pt≠be:=fun z=>by rw[z,hB.hbe] at fpt;cases fpt
 have nlb:l≠b:=fun z=>by rw[z,hB.hb] at hl;cases hl
 refine n8 (fun σ Hx=>∃ (u4 u5:E8) (st ah nw:Addr) (ws xs zs:Fk) (S:Sa),σ=[oR b,oR l,some (.int (mo:Int)),oR pt,u4,u5]/\But b be H Hx/\Hx pt=some (.lst (ws++[.ref st]))/\Bn CS CB S.n Hx b be ah dx nw xs zs S.g S.go S.es S.co/\xs.length<=cs.length/\StR be S.n Hx st S.g S.go S.es S.co/\AOk S/\Ow S/\1<=S.n) ?q2 ?t2
 case q2 =>
  rintro σ Hx ⟨u4,u5,st,ah,nw,ws,xs,zs,S,rfl,bt,ep,hBx,lx,hs,ok,ow,n1⟩;exact⟨O,q pt st ah nw ws xs zs S Hx bt ep hBx lx hs ok ow n1⟩
 case t2 =>
 intro N Rc
 refine⟨O,l,U,⟨_,sqL (s1 _ _ hl)⟩,dB (K:=K) (a:=l) (xs:=cs.map V.int) (fun i σ Hx=>∃ (u4 u5:E8) (st ah nw:Addr) (ws xs zs:Fk) (S:Sa),σ=[oR b,oR l,some (.int (mo:Int)),oR pt,u4,u5]/\But b be H Hx/\Hx pt=some (.lst (ws++[.ref st]))/\ws.length<=i/\Bn CS CB S.n Hx b be ah dx nw xs zs S.g S.go S.es S.co/\xs.length<=i/\StR be S.n Hx st S.g S.go S.es S.co/\AOk S/\Ow S/\(0 < i->1<=S.n))
  ⟨_,_,st,ah,nw,[],[],[],⟨0,[],[],[],0⟩,U,JH s1,ept,VP _,hB.same s1,VP _,hst,⟨U,by decide,by decide,⟨.nil,by simp⟩,by simp⟩,⟨by simp,by simp⟩,fun z=>absurd z (Xa _)⟩
  (fun i σ Hx _ h=>by obtain⟨_,_,_,_,_,_,_,_,_,_,bt,_⟩:=h;exact sqL (bt _ _ nlb nl hl)) ?_ ?_⟩
 ·clear hst hB;rintro i y σ Hx hx ⟨u4,u5,st,ah,nw,ws,xs,zs,S,rfl,bt,ep,lw,hBx,lx,hs,ok,ow,n1⟩;obtain⟨cv,hcv,rfl⟩:=int_at hx;have il:=(geS hcv).1;refine gN ?_;have m1':∀ {Hy:Hp},Hy pt=some (.lst (ws++[.ref st]))->atI (ws++[V.ref st]) (-1)=some (.ref st):=fun _=>JB (by rw[V6];show (ws++[V.ref st])[ws.length+1 - 1]? = _;rw[Nat.add_sub_cancel,Yw (VP _),Nat.sub_self];rfl);have am:=m1' ep;refine n8 (fun σ H5=>∃ (da:Addr) (d:vM),σ=[oR b,oR l,some (.int (mo:Int)),oR pt,oI cv,oR da]/\aG Hx H5/\DeR S.n H5 da d/\(∀ r,H5 da=some (.tup [.str "hand",.ref r])->r≠be)/\(S.n=0->d = .come)) ?q9 ?t9
  case t9 =>
   intro N Rc;exact⟨R,O,pt,Y,sqL ep,am,O,cv,mo,be,st,S,U,m1,m9,hs,ok,fun da d H5 s5 hd nr nz=>Rc _ _ ⟨da,d,U,s5,hd,(fun r z y=>by have:=nr r z;rw[y,hBx.hbe] at this;cases this),nz⟩⟩
  case q9 =>
  rintro σ H5 ⟨da,d,rfl,s5,hd,nr,nz⟩;have ep5:=s5 _ _ ep;refine⟨R,pt,Y,sqL ep5,am,O,be,st,da,S,d,U,hs.same s5,ok,hd,fun H6 s6=>?_⟩;have s56:=s5.trans s6;refine⟨U,O,?_⟩;by_cases z:reW S d = ""
  case neg =>
   rw[show decide (V.str (reW S d)=V.str "")=false from dcF (Jo z)];refine bU ⟨_,_,st,ah,nw,ws,xs,zs,S,U,bt.trans (JH s56),s56 _ _ ep,by lia,hBx.same s56,by lia,hs.same s56,ok,ow,fun _=>?_⟩;rcases ace S.n with y | y;{refine absurd ?_ z;rw[nz y];exact iNe (by lia)};{exact y}
  rw[show decide (V.str (reW S d)=V.str "")=true from dcT (by rw[z])];refine dh ?_;have hB6:=hBx.same s56;have hd6:=hd.same s6
  have nr6:∀ r,H6 da=some (.tup [.str "hand",.ref r])->r≠be:=fun r y=>nr r (by
   obtain⟨ys,hy⟩:=hd.live;rw[s6 _ _ hy] at y;rw[hy]
   exact y)
  refine⟨R,b,be,ah,dx,nw,da,xs,zs,S,d,U,hB6,by lia,ok.eu,hd6,fun y=>absurd z y,fun _ H7 nw' ah' bt7 fa hB7=>?_⟩;have tp:∀ a ys,H6 a=some (HO.tup ys)->H7 a=some (HO.tup ys):=fun a ys y=>bt7 a _ (fun w=>by rw[w] at y;rw[hB6.hb] at y;cases y) (fun w=>by rw[w] at y;rw[hB6.hbe] at y;cases y) y;have lp:∀ a ys,a≠be->H6 a=some (HO.lst ys)->H7 a=some (HO.lst ys):=fun a ys hn y=>bt7 a _ (fun w=>by rw[w] at y;rw[hB6.hb] at y;cases y) hn y;have ep7:=lp _ _ npe (s56 _ _ ep);have bt07:=bt.trans ((JH s56).trans bt7);refine⟨O,.inl ⟨U,_,sqL ep7⟩,R,pt,Y,sqL ep7,am,O,be,st,da,S,d,O,StR.but hB6.hb hB6.hbe bt7 (hs.same s56),hB7.hbe,ok,hd6.kp tp lp nr6,z,fun st' H8 s8 hst'=>?_⟩;have ep8:=s8 _ _ ep7;have na:pt≠ah':=fun y=>by rw[← y,s56 _ _ ep] at fa;cases fa
  refine⟨pt,M,ep8,aH (by rw[V6];show ws.length+1<=1000;lia),_,_,st',ah',nw',ws++[.ref st],_,_,S.aft d,U,fun a o ab ae y=>?_,aa,by rw[V6];show ws.length+1<=_;lia,(hB7.same s8).TJ ep8 npe na,by rw[V6];show xs.length+1<=_;lia,hst'.TJ ep8 NZ,ok.aft z,ow.aft ok z,fun _=>?_⟩;{rw[aL (fun w=>by rw[w,fpt] at y;cases y)];exact s8 _ _ (bt07 a o ab ae y)}
  ·have:=Tz (A:=S) (d:=d);rcases ace S.n with y | y;{rw[nz y];exact acw _};{lia}
 ·rintro σ Hx ⟨u4,u5,st,ah,nw,ws,xs,zs,S,rfl,bt,ep,lw,hBx,lx,hs,ok,ow,n1⟩;rw[VH] at lx n1;exact Rc _ _ ⟨u4,u5,st,ah,nw,ws,xs,zs,S,U,bt,ep,hBx,lx,hs,ok,ow,n1 c0⟩
structure O4 (n:Nat)(g:DU)(go:DV)(es:List Ent):Prop where
 okg:okG n g
 okp:∀ e∈es,okP e.2.2
 own:∀ e∈es,∀ x∈e.2.2,nn e.2.1 x.2=true
 gone:∀ e∈es,e.2.1 ∉ go
def ow (es:List Ent)(i:Nat)(g:DU):Int:=mxD 0 (owL es i g)
section
variable {n:Nat}{g lo hi z z':DU}{go:DV}{es:List Ent}
def Tv (ok:∀ e∈es,okP e.2.2):okB (fC n es):=fun ps hps p hp=>by
 obtain⟨i,_,rfl⟩:=List.mem_map.mp hps;obtain⟨e,he,rfl⟩:=List.mem_map.mp hp;exact ok e (List.mem_filter.mp he).1
def ok4 (ok:∀ e∈es,okP e.2.2)(i:Nat):∀ p∈kE es i,okP p:=fun p hp=>by
 obtain⟨e,he,rfl⟩:=List.mem_map.mp hp;exact ok e (List.mem_filter.mp he).1
def JZ (ok:∀ e∈es,okP e.2.2)(hg:okG n g){i:Nat}(hi:i < n):(iT z g (fC n es)).getD i 0=max (g.getD i 0) (ow es i z):=by
 have lg:=hg.1;unfold ow;rw[J7 ok,← Kq _ (iV hg hi).1];unfold iT fC;rw[V3,List.getElem?_zipWith,Wf,Zd hi,V3,VN (by lia)];rfl
def Im (ok:∀ e∈es,okP e.2.2)(l:LeG z z')(i:Nat):ow es i z<=ow es i z':=by
 unfold ow;rw[J7 ok,J7 ok];exact CT l (ok4 ok i) (Yq _)
def K8 (ok:∀ e∈es,okP e.2.2)(i:Nat)(g:DU):0<=ow es i g/\ow es i g<=9:=by
 unfold ow;rw[J7 ok];have h0:∀ (l:DU) (f:Int),0<=f->f<=9->(∀ x∈l,x<=9)->0<=l.foldl max f/\l.foldl max f<=9:=fun l=>by
  induction l with
  | nil=>exact fun f a b _=>⟨a,b⟩
  | cons x r ih=>exact fun f a b c=>ih (max f x) (by lia) (by have:=c x V0;lia) fun y hy=>c y (V7 _ hy)
 unfold duF;refine h0 _ 0 (Yq _) (by decide) fun x hx=>?_;obtain⟨p,hp,rfl⟩:=List.mem_map.mp hx;exact HS (by decide) fun y hy=>((ok4 ok i p hp).2.2.2 y hy).2.1
def wG {l:DU}{i j:Nat}{s:Int}(h:i < l.length):(l.set i s).getD j 0=if j=i then s else l.getD j 0:=by
 rw[V3,List.getElem?_set,V3];by_cases e:i=j;{rw[iPo e,iPo h,iPo e.symm];rfl};{rw[iNe e,iNe fun y=>e y.symm]}
def Tf (o:O4 n g go es){i:Nat}(hi:i < n)(s:Int):ow es i (g.set i s)=ow es i g:=by
 unfold ow owL;congr 1;refine aaS fun e he=>?_;obtain⟨h1,h2⟩:=List.mem_filter.mp he;have h2:e.2.1=i:=of_decide_eq_true h2;exact Jd (one:=i) (fun j hj=>by rw[wG (by rw[o.okg.1];exact hi),iNe hj]) _ _ (h2▸o.own e h1)
def O4.set (o:O4 n g go es){i:Nat}(hi:i < n){s:Int}(h1:g.getD i 0 < s)(h9:s<=9):O4 n (g.set i s) go es:=by
 refine⟨⟨by rw[aaP];exact o.okg.1,fun x hx=>?_⟩,o.okp,o.own,o.gone⟩;rcases List.mem_or_eq_of_mem_set hx with z | z;{exact o.okg.2 x z};{have:=(iV o.okg hi).1;rw[z];lia}
def ha4 (o:O4 n g go es) {i:Nat} (hi:i < n) (hg:i ∉ go) {s:Int} (h1:g.getD i 0 < s) (h9:s<=9):haW n g go es [((i:Int),s)]=if ow es i g < s then "not due" else "":=by
 have r:riW n g go [] [((i:Int),s)] = "":=by
  unfold riW;rw[mL hi,iNe hg,iNe (fun z=>z U),Wl,iNe (fun z=>z.elim (fun y=>by simp at y) fun y=>y ⟨h1,h9⟩)];rfl
 unfold haW;rw[iNe (by simp),r,iNe (fun z=>z U)];have e:(∃ x∈[((i:Int),s)],mxD 0 (owL es x.1.toNat (seI g [((i:Int),s)])) < x.2) ↔ ow es i g < s:=by
  have q:mxD 0 (owL es i (g.set i s))=ow es i g:=Tf o hi s;constructor;{rintro⟨x,hx,y⟩;rw[List.mem_singleton.mp hx] at y;have y:mxD 0 (owL es i (g.set i s)) < s:=y;rwa [q] at y};{intro y;refine⟨_,List.mem_singleton.mpr U,?_⟩;show mxD 0 (owL es i (g.set i s)) < s;rw[q];exact y}
 by_cases y:ow es i g < s;{rw[iPo (e.mpr y),iPo y]};{rw[iNe (fun w=>y (e.mp w)),iNe y]}
def Qs (o:O4 n g go es){i:Nat}(h:i∈go)(z:DU):ow es i z=0:=by
 unfold ow owL
 rw[List.filter_eq_nil_iff.mpr fun e he=>by
  have:=o.gone e he;simp;intro w;rw[w] at this
  exact this h]
 rfl
def Mid (n:Nat)(go:DV)(es:List Ent)(lo z:DU):Prop:=O4 n z go es/\LeG z lo
def Qd (ok:∀ e∈es,okP e.2.2)(hg:okG n g)(hl:Low n g (fC n es) lo)(m:Mid n go es lo z){i:Nat}(hi:i < n){s:Int}(h1:z.getD i 0 < s)(h2:s<=ow es i z):Mid n go es lo (z.set i s):=by
 refine⟨m.1.set hi h1 (acB h2 (K8 ok i z).2),fun j=>?_⟩;rw[wG (by rw[m.1.okg.1];exact hi)];by_cases e:j=i;{rw[iPo e,e];have:=JZ (z:=lo) ok hg hi;rw[hl.2.1] at this;have:=Im ok m.2 i;lia};{rw[iNe e];exact m.2 j}
def Oh (ok:∀ e∈es,okP e.2.2)(hg:okG n g)(hl:Low n g (fC n es) lo)(m:Mid n go es lo z)(f:LeG g z)(h:∀ i < n,i ∉ go->ow es i z<=z.getD i 0):z=lo:=by
 refine vq (by rw[m.1.okg.1,hl.1.1]) m.2 (hl.2.2 z (Mf (n:=n) ?_ m.1.okg.1 fun i hi=>?_));{unfold iT fC;rw[X6,VH,WQ,hg.1,acx]}
 ·rw[JZ ok hg hi];have h0:=(iV m.1.okg hi).1;have h1:=f i;by_cases y:i∈go;{rw[Qs m.1 y];lia};{have:=h i hi y;lia}
def bk4:(fC n es).length=n:=by unfold fC;rw[VH,WQ]
def Ip (ok:∀ e∈es,okP e.2.2)(hg:okG n g)(hl:Low n g (fC n es) lo)(h':Low n lo (fC n es) z):z=lo:=by
 refine vq (by rw[h'.1.1,hl.1.1]) (h'.2.2 lo (Mf (n:=n) ?_ hl.1.1 fun i hi=>?_)) (sW bk4 (Tv ok) hl.1 h');{unfold iT fC;rw[X6,VH,WQ,hl.1.1,acx]};{rw[JZ ok hl.1 hi];have:=JZ (z:=lo) ok hg hi;rw[hl.2.1] at this;lia}
def Et (ok:∀ e∈es,okP e.2.2)(hg:okG n g)(hl:Low n g (fC n es) lo)(hh:QV n g (fC n es) hi)(h':QV n lo (fC n es) z):z=hi:=by
 have fl:=sW bk4 (Tv ok) hg hl;have lz:=Ek bk4 (Tv ok) hl.1 h';have ln:∀ (a b:DU),okG n b->(iT a b (fC n es)).length=n:=fun a b hb=>by
  unfold iT fC;rw[X6,VH,WQ,hb.1,acx]
 refine vq (by rw[h'.1.1,hh.1.1]) (hh.2.2 z (Mf (n:=n) h'.1.1 (ln _ _ hg) fun i hi=>?_)) (h'.2.2 hi (Mf (n:=n) hh.1.1 (ln _ _ hl.1) fun i hi'=>?_));{rw[JZ ok hg hi];have h1:=JZ (z:=z) ok hl.1 hi;rw[h'.2.1] at h1;have h2:=JZ (z:=lo) ok hg hi;rw[hl.2.1] at h2;have:=Im ok lz i;lia};{rw[JZ ok hl.1 hi'];have h1:=JZ (z:=hi) ok hg hi';rw[hh.2.1] at h1;have:=fl i;lia}
theorem sum_set:∀ {l:DU} {i:Nat} {s:Int},i < l.length->l.getD i 0 < s->l.sum < (l.set i s).sum
 | [],_,_,h,_=>absurd h (aaj _)
 | x::r,0,s,_,h=>by
  have h:x < s:=h;show (x::r).sum < (s::r).sum;rw[Zb,Zb];lia
 | x::r,i+1,s,hl,h=>by
  have:=sum_set (l:=r) (i:=i) (s:=s) (abz hl) h;show (x::r).sum < (x::r.set i s).sum;rw[Zb,Zb];lia
def opL (g:DU)(es:List Ent)(i:Nat):DB:=(Xb (ow es i g - g.getD i 0).toNat).map fun (k:Nat)=>((i:Int),g.getD i 0+1+(k:Int))
def opF (n:Nat)(g:DU)(go:DV)(es:List Ent):DB:=(thF n go).flatMap (opL g es)
def FW (ok:∀ e∈es,okP e.2.2)(hg:okG n g){i:Nat}(hi:i < n):(opL g es i).length<=9:=by
 unfold opL;rw[VH,WQ];have:=K8 ok i g;have:=iV hg hi;lia
def Py {x:Int × Int}(h:x∈opF n g go es):∃ i:Nat,x.1=i/\i < n/\i ∉ go/\g.getD i 0 < x.2/\x.2<=ow es i g:=by
 obtain⟨i,hi,hx⟩:=List.mem_flatMap.mp h;obtain⟨k,hk,rfl⟩:=List.mem_map.mp hx;have hk:=List.mem_range.mp hk;have:=wA hi;refine⟨i,U,this.1,this.2,?_,?_⟩;{show g.getD i 0 < g.getD i 0+1+(k:Int);lia};{show g.getD i 0+1+(k:Int)<=_;lia}
def QB (h:opF n g go es=[]){i:Nat}(hi:i < n)(hg:i ∉ go):ow es i g<=g.getD i 0:=by
 refine Int.not_lt.mp fun y=>?_;have hm:((i:Int),g.getD i 0+1+((0:Nat):Int))∈opF n g go es:=List.mem_flatMap.mpr ⟨i,List.mem_filter.mpr ⟨List.mem_range.mpr hi,dcT hg⟩,List.mem_map.mpr ⟨0,List.mem_range.mpr (by lia),U⟩⟩;rw[h] at hm;cases hm
end
abbrev qX:Stmt:=top 46
abbrev lG:Stmt:=inClass (top 45) 12
def uF:aB ["stand","boon"] ["stand"] (aA qX):=bZ
def pO:aB ["self","other"] ZO (aA lG):=bZ
inductive BW (CS CB:Addr)(vs:Fk)(H:Hp)(Q:VK)(e3:XK):Prop where
 | mk (st:Addr) (n co:Nat) (g:DU) (go:DV) (es:List Ent) (_:vs=[.ref st]) (_:fH CS n H st g go es co) (_:g.length=n) (_:n<=12) (_:es.length<=40) (_:go.Nodup) (_:(∀ x∈go,x < n)) (_:∀ (b be ah dx:Addr) (H':Hp),aG H H'->H b=none->Bn CS CB n H' b be ah dx st [] [] g go es co->Q (.ref b) H')
def DG {CS CB:Addr} (ne:CB≠CS) (F:Fun K "boon_of" "boon_of" qX f fd) (T:yO K CB) (OZ:Dk2 P w K mg base "Boon" CB 3 ZO (wg CS CB)):bh P w K mg base CX0 5 f fd ["stand"] (BW CS CB):=by
 refine okA F uF fun H Q E hr h=>?_;obtain⟨st,n,co,g,go,es,rfl,hst,lg,n12,l40,gn,gl,q⟩:=h
 refine⟨_,(aj (sT 1 uF.nd (MN OZ hr))
 (aj (jJ (pv 1) (pv 0) U)
 (sR (pv 1)))),?_⟩
 refine bO (fun σ H2=>∃ (b be ah dx nw:Addr),σ=[oR st,oR b]/\aG H H2/\H b=none/\Bn CS CB 0 H2 b be ah dx nw [] [] [] [] [] 0) ?_ ?_;{intro N Rc x dx hx hdx hne;have fr0:∀ c,H c≠none->c≠x/\c≠dx:=fun c h=>⟨fun z=>h (by rw[z];exact hx),fun z=>h (by rw[z];exact hdx)⟩;refine⟨x,dx,U,aa,fun be ah nw H4 fbe fah fr hB=>⟨U,Rc _ _ ⟨x,be,ah,dx,nw,U,fun a o h=>?_,hx,hB⟩⟩⟩;obtain⟨ax,ad⟩:=fr0 a (by rw[h];simp);exact fr a o ax (by rw[aL ax,aL ad];exact h)};rintro σ H2 ⟨b,be,ah,dx,nw,rfl,s2,fb,hB⟩;have bb:be≠b:=fun z=>by have:=hB.hbe;rw[z,hB.hb] at this;cases this
 have ab:ah≠b:=fun z=>by have:=hB.hah;rw[z,hB.hb] at this;cases this
 refine⟨R,b,CB,dx,O,hB.hb,T.cl,T.now,by show 3 < 1000;decide,?_⟩;have bt:But b be H2 (upd H2 b (.ins CB dx (tR "now" (.ref st) (bnF nw be ah)))):=fun a o h _ z=>by rw[aL h];exact z
 exact⟨O,q b be ah dx _ (aK s2 fb _) fb ⟨aa,by rw[aL bb];exact hB.hbe,by rw[aL ab];exact hB.hah,(hst.ks (ksS s2)).ks (bt.ks ne hB.hb hB.hbe),hB.nb,lg,n12,l40,gn,gl⟩⟩
inductive M9 (CS CB:Addr)(vs:Fk)(H:Hp)(Q:VK)(e3:XK):Prop where
 | mk (b be ah dx nw:Addr) (n co:Nat) (xs zs:Fk) (g:DU) (go:DV) (es:List Ent) (_:vs=[.ref b]) (_:Bn CS CB n H b be ah dx nw xs zs g go es co) (_:∀ (b2 be2 ah2 dx2:Addr) (H':Hp),aG H H'->H b2=none->H be2=none->H ah2=none->Bn CS CB n H' b2 be2 ah2 dx2 nw xs zs g go es co->Q (.ref b2) H')
def yF {CS CB:Addr} (ne:CB≠CS) (F:Fun K "twin" "Boon.twin" lG f fd) (B:Bt mg) (T:yO K CB) (Po:Df P w K mg base "boon_of" 5 ["stand"] (BW CS CB)):bh P w K mg base CX0 6 f fd ZO (M9 CS CB):=by
 refine okA F pO fun H Q E hr h=>?_;obtain⟨b,be,ah,dx,nw,n,co,xs,zs,g,go,es,rfl,hB,q⟩:=h
 refine⟨_,(aj (sT 1 pO.nd (aM Po hr (a1 (pfd K 0))))
 (aj (jJ (pv 1) (aR (r:=jZ K) d9 U B.list_ mj (a1 (pfd K 0))) U)
 (aj (jJ (pv 1) (aR (r:=jZ K) d9 U B.list_ mj (a1 (pfd K 0))) U)
 (sR (pv 1))))),?_⟩
 refine bO (fun σ H1=>∃ (b2 be2 ah2 dx2:Addr),σ=[oR b,oR b2]/\aG H H1/\H b2=none/\Bn CS CB n H1 b2 be2 ah2 dx2 nw [] [] g go es co) ?_ ?_;{intro N Rc;exact⟨O,b,CB,dx,N,hB.hb,T.cl,T.now,U,nw,n,co,g,go,es,U,hB.st,hB.lg,hB.n12,hB.l40,hB.gn,hB.gl,fun b2 be2 ah2 dx2 H1 s1 f1 hB1=>Rc _ _ ⟨b2,be2,ah2,dx2,U,s1,f1,hB1⟩⟩};rintro σ H1 ⟨b2,be2,ah2,dx2,rfl,s1,f1,hB1⟩;have nb:b≠b2:=fun z=>by rw[← z,hB.hb] at f1;cases f1
 refine bO (fun σ H3=>∃ l:Addr,σ=[oR b,oR b2]/\aG H H3/\H l=none/\l≠b2/\H3 b2=some (.ins CB dx2 (bnF nw l ah2))/\H3 l=some (.lst xs)) ?_ ?_
 ·intro N Rc;refine⟨O,b,CB,dx,N,s1 _ _ hB.hb,T.cl,T.behind,U,be,xs,U,.inl (sqL (s1 _ _ hB.hbe)),fun l hl=>?_⟩;generalize eF:upd H1 l _=F1;obtain⟨gf,ef⟩:=aC eF hl;have lb:l≠b2:=fun z=>by rw[z,hB1.hb] at hl;cases hl
  exact⟨O,b2,CB,dx2,O,gf _ _ hB1.hb,T.cl,T.behind,by show 3 < 1000;decide,Rc _ _ ⟨l,U,aK (s1.trans gf) f1 _,s1.free hl,lb,aa,by rw[aL lb];exact ef⟩⟩
 rintro σ H3 ⟨l,rfl,s3,fl,lb,e3,el⟩;refine⟨O,b,CB,dx,N,s3 _ _ hB.hb,T.cl,T.ahead,U,ah,zs,U,.inl (sqL (s3 _ _ hB.hah)),fun l2 hl2=>?_⟩;generalize eF:upd H3 l2 _=F1;obtain⟨gf,ef⟩:=aC eF hl2;have lb2:l2≠b2:=fun z=>by rw[z,e3] at hl2;cases hl2
 have ll:l≠l2:=fun z=>by rw[← z,el] at hl2;cases hl2
 refine⟨O,b2,CB,dx2,O,gf _ _ e3,T.cl,T.ahead,by show 3 < 1000;decide,?_⟩;have s5:=aK (s3.trans gf) f1 (.ins CB dx2 (tR "ahead" (.ref l2) (bnF nw l ah2)));exact⟨O,q b2 l l2 dx2 _ s5 f1 fl (s3.free hl2) ⟨aa,by rw[aL lb];exact gf _ _ el,by rw[aL lb2];exact ef,hB.st.ks (ksS s5),ll,hB.lg,hB.n12,hB.l40,hB.gn,hB.gl⟩⟩
abbrev oV:Stmt:=top 95
abbrev iy:Stmt:=top 96
def ji:aB ["_law_boon_here","_law_found","_law_one","_law_step"] YA (aA oV):=bZ
def fV:aB ["_law_boon_here","_law_one","_law_most"] YA (aA iy):=bZ
def atG {g:DU}{n i:Nat}(h:g.length=n)(hi:i < n):atI (g.map V.int) (i:Int)=some (.int (g.getD i 0)):=by
 have hl:i < g.length:=by lia
 rw[V3,VN hl];exact jG hl
theorem Sv {f:Nat->DB}:∀ {l:DV},(∀ i∈l,(f i).length<=9)->(l.flatMap f).length<=9 * l.length
 | [],_=>VP _
 | x::r,h=>by
  have h1:=h x V0;have h2:=Sv (l:=r) fun i hi=>h i (V7 _ hi);rw[List.flatMap_cons,V6,Wc];lia
inductive Nm (CS CB:Addr)(vs:Fk)(H:Hp)(Q:VK)(e3:XK):Prop where
 | mk (b be:Addr) (n d co:Nat) (g:DU) (go:DV) (es:List Ent) (_:vs=[.ref b]) (_:kW CS CB n H b be d g go es co) (_:O4 n g go es) (_:n<=12) (_:es.length<=40) (_:∀ (a:Addr) (us:Fk) (H':Hp),aG H H'->H a=none->H' a=some (.lst us)->RiI H' us (opF n g go es)->Q (.ref a) H')
def Az {CS CB:Addr} {k:Nat} (hk:2<=k) (F:Fun K "_law_open" "_law_open" oV f fd) (B:Bt mg) (SI:Df P w K mg base "there" 2 ZU (uZ CS CB)) (PH:Df P w K mg base "green" 1 ZU (mR CS CB)) (So:Df P w K mg base "owed" k ZE (vA CS CB)) :
  bh P w K mg base CX0 (k+1) f fd YA (Nm CS CB):=by
 refine okA F ji fun H Q E hr h=>?_;obtain⟨b,be,n,d,co,g,go,es,rfl,hB,o4,n12,l40,q⟩:=h;have lg:=o4.okg.1
 refine⟨_,(aj (sT 1 ji.nd (aV cL))
 (aj (bW Wv U (cW (aM SI hr (v1 0))) (pgN 2 ji.nd) (aF (bW Wv U (Jv U B.range_ (aq (aN bF (pxT K (aM PH hr (v1 0)) (pv 2)) ao) (a1 (aN bF (aM So hr (v2 0 2)) ao)))) (pgN 3 ji.nd) (aF (aW (rO Xg Xk Xj cI (pv 1) (a1 (aU (v2 2 3)))))))))
 (sR (pv 1)))),?_⟩
 refine bO (fun σ H1=>∃ fo:Addr,σ=[oR b,oR fo,none,none]/\aG H H1/\H fo=none/\H1 fo=some (.lst [])) ?_ ?_;{intro N Rc;exact⟨smN 0,fun fo hfo=>Rc _ _ ⟨fo,U,au hfo _,hfo,aa⟩⟩};rintro σ H1 ⟨fo,rfl,s1,ffo,efo⟩;refine n8 (fun σ H2=>∃ (u2 u3:E8) (us:Fk),σ=[oR b,oR fo,u2,u3]/\aG H H2/\H2 fo=some (.lst us)/\RiI H2 us (opF n g go es)) ?q2 ?t2
 case q2 =>
  rintro σ H2 ⟨u2,u3,us,rfl,s2,e2,ri⟩;exact⟨O,q fo us H2 s2 ffo e2 ri⟩
 case t2 =>
 intro N Rc;have hBs:∀ {Hx:Hp},aG H Hx->kW CS CB n Hx b be d g go es co:=fun s=>hB.same s;refine⟨O,b,be,n,_,co,g,go,es,U,hBs s1,by lia,fun th H2 s2 fth eth=>?_⟩;rw[lg] at eth;have nth:fo≠th:=fun z=>by rw[z,fth] at efo;cases efo
 refine⟨th,U,⟨_,sqL eth⟩,dB (K:=K) (a:=th) (xs:=(thF n go).map vN) (fun i σ Hx=>∃ (u2 u3:E8) (us:Fk),σ=[oR b,oR fo,u2,u3]/\aG H Hx/\Hx th=some (.lst ((thF n go).map vN))/\Hx fo=some (.lst us)/\RiI Hx us (((thF n go).take i).flatMap (opL g es)))
  ⟨_,_,[],U,s1.trans s2,eth,s2 _ _ efo,.nil⟩ (fun i σ Hx _ h=>by obtain⟨_,_,_,_,_,z,_⟩:=h;exact sqL z) ?_ ?_⟩
 ·rintro i y σ Hx hx ⟨u2,u3,us,rfl,sx,et,ef,ri⟩;rw[Wf] at hx;obtain⟨o,ho,rfl⟩:=Option.map_eq_some_iff.mp hx;have il:=(geS ho).1;have ln:=Gu n go;obtain⟨on,og⟩:=wA (Wk ho);have al:∀ j∈(thF n go).take i,(opL g es j).length<=9:=fun j hj=>FW o4.okp o4.okg (wA (List.mem_of_mem_take hj)).1;have fl:=Sv al;rw[Wa] at fl;have lu:=ri.length;have ow9:=K8 o4.okp o g;have g9:=iV o4.okg on;have lo9:=FW o4.okp o4.okg on;refine gN ?_;refine⟨O,b,be,n,_,co,g,go,es,U,hBs sx,fun ga hga=>⟨O,ga,Y,sqT hga,atG lg on,M,⟨R,b,be,o,n,_,co,g,go,es,U,hBs sx,lg,on,og,l40,fun H3 s3=>⟨M,g.getD o 0+1,ow es o g+1,U,⟨by lia,by lia,by lia,by lia⟩,?_⟩⟩⟩⟩;refine iz (lo:=g.getD o 0+1) (n:=(ow es o g+1 - (g.getD o 0+1)).toNat) (fun j σ Hx=>∃ (u3:E8) (us:Fk),σ=[oR b,oR fo,some (vN o),u3]/\aG H Hx/\Hx th=some (.lst ((thF n go).map vN))/\Hx fo=some (.lst us)/\RiI Hx us (((thF n go).take i).flatMap (opL g es)++(opL g es o).take j))
   ⟨_,us,U,sx.trans s3,s3 _ _ et,s3 _ _ ef,by rw[WD,Xy];exact ri.aO fun a xs z=>s3 _ _ z⟩ ?_ ?_
  ·rintro j σ Hy hj ⟨u3,us,rfl,sy,et,ef,ri⟩;have lu:=ri.length;rw[V6,Wa] at lu;have hj':(opL g es o)[j]? = some ((o:Int),g.getD o 0+1+(j:Int)):=by
    unfold opL;rw[Wf,Zd (by lia)];rfl
   refine gN ?_;refine⟨O,.inl ⟨U,_,sqL ef⟩,R,smN 2,fun p hp=>?_⟩;generalize eF:upd Hy p _=F1;obtain⟨gf,ep⟩:=aC eF hp;have tk:=bR (zs':=us++[.ref p]) (gf _ _ ef);refine⟨fo,M,gf _ _ ef,aH (by lia),_,us++[.ref p],U,aK (sy.trans gf) ffo _,by rw[aL (XQ nth)];exact gf _ _ et,aa,?_⟩;rw[Wj,hj'];show RiI _ _ (_++(_++[_]));rw[← ZM];exact RiI.snoc (tk _ _ ep) ((ri.aO fun a xs z=>gf _ _ z).aO tk)
  ·rintro σ Hy ⟨u3,us,rfl,sy,et,ef,ri⟩;refine⟨_,u3,us,U,sy,et,ef,?_⟩;have e1:(opL g es o).take (ow es o g+1 - (g.getD o 0+1)).toNat=opL g es o:=by
    refine abA ?_;unfold opL;rw[VH,WQ];lia
   rw[e1] at ri;rw[Wj,ho];show RiI _ _ (List.flatMap _ (_++[o]));rw[List.flatMap_append,List.flatMap_singleton];exact ri
 ·rintro σ Hx ⟨u2,u3,us,rfl,sx,et,ef,ri⟩;rw[VH,V1] at ri;exact Rc _ _ ⟨u2,u3,us,U,sx,ef,ri⟩
inductive yL (CS CB:Addr)(vs:Fk)(H:Hp)(Q:VK)(e3:XK):Prop where
 | mk (b be ah dx nw:Addr) (n co:Nat) (xs zs:Fk) (g:DU) (go:DV) (es:List Ent) (_:vs=[.ref b]) (_:Bn CS CB n H b be ah dx nw xs zs g go es co) (_:O4 n g go es) (_:∀ H',aG H H'->Q (.bl false) H')
def qM {CS CB:Addr} {k:Nat} (hk:2<=k) (F:Fun K "_law_too_much" "_law_too_much" iy f fd) (B:Bt mg) (SI:Df P w K mg base "there" 2 ZU (uZ CS CB)) (PH:Df P w K mg base "green" 1 ZU (mR CS CB)) (So:Df P w K mg base "owed" k ZE (vA CS CB)) (Sl:Df P w K mg base "may_hand" k YV (Qe CS CB)) :
  bh P w K mg base CX0 (k+1) f fd YA (yL CS CB):=by
 refine okA F fV fun H Q E hr h=>?_;obtain⟨b,be,ah,dx,nw,n,co,xs,zs,g,go,es,rfl,hB,o4,q⟩:=h;have lg:=hB.lg;have n12:=hB.n12
 refine⟨_,(aj (bW Wv U (cW (aM SI hr (v1 0))) (pgN 1 fV.nd) (aj (sT 2 fV.nd (aQ (mZ U) U B.max_ nj (aq (aM So hr (v2 0 1)) (a1 (pxT K (aM PH hr (v1 0)) (pv 1))))))
 (aF (ifR (PW.pt (jW (aD rZ (pv 2) ao) (fO (cu (aM Sl hr (aq (pv 0) (a1 (aV (a1 (aU (aq (pv 1) (a1 (aN bF (pv 2) ao))))))))))))) dR))))
 (sR dR)),?_⟩
 refine n8 (fun σ H2=>aG H H2) (fun σ H2 s2=>q H2 s2) fun N Rc=>?_;refine⟨O,b,be,n,_,co,g,go,es,U,hB.Kf,by lia,fun th H2 s2 fth eth=>?_⟩;rw[lg] at eth
 refine⟨th,U,⟨_,sqL eth⟩,dB (K:=K) (a:=th) (xs:=(thF n go).map vN) (fun i σ Hx=>∃ (u1 u2:E8),σ=[oR b,u1,u2]/\aG H2 Hx)
  ⟨N,aG.refl _⟩ (fun i σ Hx _ h=>by obtain⟨_,_,_,z⟩:=h;exact sqL (z _ _ eth)) ?_ (fun σ Hx ⟨_,_,_,z⟩=>Rc _ _ (s2.trans z))⟩
 rintro i y σ Hx hx ⟨u1,u2,rfl,sx⟩;rw[Wf] at hx;obtain⟨o,ho,rfl⟩:=Option.map_eq_some_iff.mp hx;obtain⟨on,og⟩:=wA (Wk ho);have hBx:=hB.same (s2.trans sx);refine gN ?_;refine n8 (fun σ Hy=>σ=[oR b,some (vN o),some (.int (max (ow es o g) (g.getD o 0)))]/\aG H2 Hy) ?q3 ?t3
 case t3 =>
  intro N Rc;refine⟨R,b,be,o,n,_,co,g,go,es,U,hBx.Kf,lg,on,og,hB.l40,fun H3 s3=>⟨O,b,be,n,_,co,g,go,es,U,(hBx.same s3).Kf,fun ga hga=>⟨O,ga,Y,sqT hga,atG lg on,N,?_⟩⟩⟩;have e:(if g.getD o 0 > mxD 0 (owL es o g) then g.getD o 0 else mxD 0 (owL es o g))=max (ow es o g) (g.getD o 0):=by
   show (if g.getD o 0 > ow es o g then g.getD o 0 else ow es o g)=_
   lia
  rw[e];exact Rc _ _ ⟨U,sx.trans s3⟩
 case q3 =>
 rintro σ Hy ⟨rfl,sy⟩;have hBy:=hB.same (s2.trans sy);generalize em:max (ow es o g) (g.getD o 0)=m;refine⟨O,M,O,?_⟩;by_cases z:m < 9
 case neg =>
  rw[dcF z];exact bU (bU ⟨N,sy⟩)
 rw[dcT z];refine dh ⟨R,O,M,smN 2,fun t1 h1=>?_⟩;generalize eF1:upd Hy t1 _=F1;obtain⟨g1,f1⟩:=aC eF1 h1;refine⟨smN 1,fun t2 h2=>?_⟩;generalize eF2:upd F1 t2 _=F2;obtain⟨g2,f2⟩:=aC eF2 h2;have s12:=g1.trans g2;refine⟨b,be,ah,dx,nw,t2,n,co,xs,zs,_,g,go,es,[((o:Int),m+1)],U,hBy.same s12,f2,.cons (g2 _ _ f1) .nil,by show 1<=100;decide,fun H' s'=>?_⟩;have hw:haW n g go es [((o:Int),m+1)] = "not due":=by
  rw[ha4 o4 on og (by lia) (by lia),iPo (by lia)]
 rw[hw,show decide (("not due" : Wt) = "")=false from by decide];exact⟨O,bU ⟨N,(sy.trans s12).trans s'⟩⟩
abbrev jd:Stmt:=top 97
def cU:aB ["_law_boon_here","_law_picks_here","_law_greedy","_law_pick","_law_some","_law_one","_law_step"] VU (aA jd):=bZ
inductive Cg (CS CB:Addr)(vs:Fk)(H:Hp)(Q:VK)(e3:XK):Prop where
 | mk (b be ah dx nw l:Addr) (gr:Bool) (n co:Nat) (xs zs:Fk) (g lo ps:DU) (go:DV) (es:List Ent) (_:vs=[.ref b,.ref l,.bl gr]) (_:Bn CS CB n H b be ah dx nw xs zs g go es co) (_:O4 n g go es) (_:H l=some (.lst (ps.map V.int))) (_:l≠be) (_:ps.length=109) (_:xs.length<=300) (_:Low n g (fC n es) lo) (_:∀ (ah' nw':Addr) (xs' zs':Fk) (H':Hp),But b be H H'->(ah'=ah∨H ah'=none)->Bn CS CB n H' b be ah' dx nw' xs' zs' lo go es co->Q (.bl true) H')
def But.free {b be a:Addr}{H H':Hp}(bt:But b be H H')(h1:H' b≠none)(h2:H' be≠none)(h:H' a=none):H a=none:=by
 cases e:H a with
 | none=>rfl
 | some o =>
  rw[bt a o (fun z=>h1 (by rw[← z];exact h)) (fun z=>h2 (by rw[← z];exact h)) e] at h;cases h
def tY {CS CB:Addr} {x:XA} {k:Nat} (hk:13<=k) (F:Fun K "_law_come_to" "_law_come_to" jd f fd) (B:Bt mg) (RE:Df P w K mg base "_law_open" 12 YA (Nm CS CB)) (Sf:Df P w K mg base "_law_too_much" 13 YA (yL CS CB)) (So:Df P w K mg base "owed" 11 ZE (vA CS CB)) (Sl:Df P w K mg base "may_hand" 12 YV (Qe CS CB)) (SY:Dmx P w K mg base CB "hand" k YU (Ab CS CB x)) :
  bh P w K mg base CX0 (k+1) f fd VU (Cg CS CB):=by
 refine okA F cU fun H Q E hr h=>?_;obtain⟨b,be,ah,dx,nw,l,gr,n,co,xs,zs,g,lo,ps,go,es,rfl,hB,o4,hl,nl,lps,lx,low,q⟩:=h
 refine⟨_,(aj (bW Wv U (cW (pv 1)) (pgN 3 cU.nd) (aj (sT 4 cU.nd (aM RE hr (v1 0)))
 (aj (ifR (cu (aM Sf hr (v1 0))) dR)
 (aj (ifR (aD (r:=Rp K) (Bx hr.iJ) (pv 4) (aV cL)) dR)
 (aj (ym (pxL K (pv 4) (aN bM (pv 3) (pln K B.len_ (pv 4)))) (c7 (K:=K) 2 U U (aP (pgN 5 cU.nd) (aP (pgN 6 cU.nd) cY))))
 (aj (cP (cu (pv 2)) (aF (sT 6 cU.nd (aM So hr (v2 0 5)))) aX)
 (aj (ifR (dM (cu (aM Sl hr (aq (pv 0) (a1 (aV (a1 (aU (v2 5 6))))))))) dR)
 (aF (aW (uP SY hr yI (pv 0) (a1 (aV (a1 (aU (v2 5 6)))))))))))))))
 (sR (du (r:=Rp K) (Bx hr.iJ) (aM RE hr (v1 0)) (aV cL)))),?_⟩
 refine n8 (fun _ _=>False) (fun _ _ h=>h.elim) fun N Rc=>?_;have lb:l≠b:=fun z=>by rw[z,hB.hb] at hl;cases hl
 have okp:=o4.okp;have n12:=hB.n12
 refine⟨O,l,U,⟨_,sqL hl⟩,dB (K:=K) (a:=l) (xs:=ps.map V.int) (fun i σ Hx=>∃ (u3 u4 u5 u6:E8) (ah1 nw:Addr) (xs zs:Fk) (z:DU),σ=[oR b,oR l,some (.bl gr),u3,u4,u5,u6]/\But b be H Hx/\(ah1=ah∨H ah1=none)/\Bn CS CB n Hx b be ah1 dx nw xs zs z go es co/\Mid n go es lo z/\LeG g z/\(i:Int)<=z.sum/\xs.length<=300+i)
  ⟨_,_,_,_,ah,nw,xs,zs,g,U,JH (aG.refl _),.inl U,hB,⟨o4,sW bk4 (Tv okp) o4.okg low⟩,La g,(sum_bound o4.okg.2).1,lx⟩ (fun i σ Hx _ h=>by obtain⟨_,_,_,_,_,_,_,_,_,_,z,_⟩:=h;exact sqL (z _ _ lb nl hl)) ?_ ?_⟩
 case refine_2 =>
  rintro σ Hx ⟨u3,u4,u5,u6,ah1,nw,xs,zs,z,rfl,_,_,hBx,m,_,sz,_⟩;rw[VH,lps] at sz;have:=(sum_bound m.1.okg.2).2;rw[m.1.okg.1] at this;have sz:(109:Int)<=z.sum:=sz;lia
 clear Rc hB lx;rintro i y σ Hx hx ⟨u3,u4,u5,u6,ah1,nw,xs,zs,z,rfl,bt,ah0,hBx,m,gz,sz,lx⟩;obtain⟨cv,hcv,rfl⟩:=int_at hx;have il:=(geS hcv).1;refine gN ?_;refine bO (fun σ Ha=>∃ (so:Addr) (us:Fk),σ=[oR b,oR l,some (.bl gr),oI cv,oR so,u5,u6]/\aG Hx Ha/\Ha so=some (.lst us)/\RiI Ha us (opF n z go es)) ?_ ?_;{intro N Rc;exact⟨O,b,be,n,_,co,z,go,es,U,hBx.Kf,m.1,n12,hBx.l40,fun so us H' s' _ e' ri=>Rc _ _ ⟨so,us,U,s',e',ri⟩⟩};rintro σ Ha ⟨so,us,rfl,sa,eso,ri⟩;refine bO (fun σ Hb=>σ=[oR b,oR l,some (.bl gr),oI cv,oR so,u5,u6]/\aG Ha Hb) ?_ ?_;{intro N Rc;exact⟨O,b,be,ah1,dx,nw,n,co,xs,zs,z,go,es,U,hBx.same sa,m.1,fun H' s'=>⟨O,bU (Rc _ _ ⟨U,s'⟩)⟩⟩};rintro σ Hb ⟨rfl,sb⟩;have lus:=ri.length;refine bO (fun σ Hc=>σ=[oR b,oR l,some (.bl gr),oI cv,oR so,u5,u6]/\aG Ha Hc/\0 < us.length) ?_ ?_
 ·intro N Rc;refine⟨O,smN 0,fun e0 he0=>?_⟩;have sn:=au he0 (.lst []);refine⟨so,e0,O,U,sqL ((sb.trans sn) _ _ eso),sqL aa,O,?_⟩;cases us with
  | nil =>
   refine dh ?_;have on:opF n z go es=[]:=List.length_eq_zero_iff.mp (by rw[← lus];rfl);have e:=Oh okp o4.okg low m gz fun j hj hg=>QB on hj hg;have st:=sa.trans (sb.trans sn);rw[e] at hBx;exact q ah1 nw xs zs _ (bt.trans (JH st)) ah0 (hBx.same st)
  | cons u r=>exact bU (Rc _ _ ⟨U,sb.trans sn,acw _⟩)
 clear sb;rintro σ Hc ⟨rfl,sc,l0⟩;have b1:0<=cv % (us.length:Int)/\cv % (us.length:Int) < us.length:=⟨WN _ (by lia),Wu _ (by lia)⟩;have ik:(cv % (us.length:Int)).toNat < us.length:=by lia
 obtain⟨e,o,sp,eu,hp,hent⟩:=ri.get (VN ik);obtain⟨j,ej,jn,jg,s1,s2⟩:=Py (Wk hp);have ej:o=(j:Int):=ej;have s1:z.getD j 0 < sp:=s1;have s2:sp<=ow es j z:=s2;have hat:=dw (VN ik);rw[Int.toNat_of_nonneg b1.1,eu] at hat;rw[ej] at hent;refine bO (fun σ Hd=>σ=[oR b,oR l,some (.bl gr),oI cv,oR so,some (vN j),oI sp]/\Hd=Hc) ?_ ?_;{intro N Rc;exact⟨R,O,so,O,.inl (sqL (sc _ _ eso)),M,by lia,so,_,_,_,U,U,sqL (sc _ _ eso),hat,e,_,U,sqT (sc _ _ hent),U,_,_,U,_,_,U,U,Rc _ _ ⟨U,U⟩⟩};rintro σ Hd ⟨rfl,rfl⟩;have hBd:=hBx.same (sa.trans sc);have btd:=bt.trans (JH (sa.trans sc));clear hBx sa sc eso hent hat ri bt;refine bO (fun σ He=>∃ v:Int,σ=[oR b,oR l,some (.bl gr),oI cv,oR so,some (vN j),oI v]/\aG Hd He/\z.getD j 0 < v/\v<=ow es j z) ?_ ?_
 ·intro N Rc;refine⟨R,?_⟩;cases gr with
  | false=>exact bU (Rc _ _ ⟨sp,U,aG.refl _,s1,s2⟩)
  | true=>exact dh ⟨R,b,be,j,n,_,co,z,go,es,U,hBd.Kf,hBd.lg,jn,jg,hBd.l40,fun H' s'=>Rc _ _ ⟨ow es j z,U,s',by lia,Yq _⟩⟩
 clear s1 s2;rintro σ He ⟨v,rfl,se,v1,v2⟩;have v9:=acB v2 (K8 okp j z).2;have hw:haW n z go es [((j:Int),v)] = "":=by rw[ha4 m.1 jn jg v1 v9,iNe (by lia)]
 refine bO (fun σ Hf=>σ=[oR b,oR l,some (.bl gr),oI cv,oR so,some (vN j),oI v]/\aG Hd Hf) ?_ ?_
 ·intro N Rc;refine⟨R,O,smN 2,fun t1 h1=>?_⟩;generalize eF1:upd He t1 _=F1;obtain⟨g1,f1⟩:=aC eF1 h1;refine⟨smN 1,fun t2 h2=>?_⟩;generalize eF2:upd F1 t2 _=F2;obtain⟨g2,f2⟩:=aC eF2 h2;have s12:=se.trans (g1.trans g2);refine⟨b,be,ah1,dx,nw,t2,n,co,xs,zs,_,z,go,es,[((j:Int),v)],U,hBd.same s12,f2,.cons (g2 _ _ f1) .nil,by show 1<=100;decide,fun H' s'=>?_⟩;rw[dcT hw];refine⟨true,U,?_⟩;show if (!true)=true then _ else _
  exact bU (Rc _ _ ⟨U,s12.trans s'⟩)
 clear se;rintro σ Hf ⟨rfl,sf⟩;have hBf:=hBd.same sf;refine⟨O,b,dx,O,hBf.hb,U,R,smN 2,fun t1 h1=>?_⟩;generalize eF1:upd Hf t1 _=F1;obtain⟨g1,f1⟩:=aC eF1 h1;refine⟨smN 1,fun t2 h2=>?_⟩;generalize eF2:upd F1 t2 _=F2;obtain⟨g2,f2⟩:=aC eF2 h2;have s12:=g1.trans g2;have zl:j < z.length:=by rw[m.1.okg.1];exact jn
 have us':=sum_set zl v1;refine⟨b,be,ah1,dx,nw,t2,n,co,xs,zs,_,z,go,es,[((j:Int),v)],U,hBf.same s12,by lia,f2,.cons (g2 _ _ f1) .nil,by show 1<=100;decide,fun y=>absurd hw y,fun _ H' nw' ah' bt' fa hB'=>⟨_,_,_,_,ah',nw',_,_,z.set j v,U,btd.trans ((JH (sf.trans s12)).trans bt'),.inr (btd.free (by rw[hBd.hb];simp) (by rw[hBd.hbe];simp) ((sf.trans s12).free fa)),hB',Qd okp o4.okg low m jn v1 v2,fun a=>?_,by lia,by rw[V6];show xs.length+1<=_;lia⟩⟩;rw[wG zl];have:=gz a;by_cases y:a=j;{rw[iPo y];rw[y] at this ⊢;lia};{rw[iNe y];exact this}
abbrev mC:Stmt:=top 94
def wR:aB WO WO (aA mC):=bZ
inductive Jx (vs:Fk)(H:Hp)(Q:VK)(e3:XK):Prop where
 | mk (c:Int) (m:Nat) (_:vs=[.int c,.int (m:Int)]) (_:m<=200) (_:∀ (r:Addr) (ns:DU) (H':Hp),aG H H'->H r=none->ns.length=m->(∀ x∈ns,0<=x)->H' r=some (.lst (ns.map V.int))->Q (.ref r) H')
def wU (F:Fun K "_law_picks" "_law_picks" mC f fd) (B:Bt mg)
  (QN:Df P w K mg base "_law_draws" 1 WH (oF K)):bh P w K mg base CX0 2 f fd WO Jx:=by
 refine okA F wR fun H Q E hr h=>?_;obtain⟨c,m,rfl,hm,q⟩:=h
 refine⟨_,(aj (ifR (aD kY (aQ nJ U B.abs_ wQ (v1 0)) (aN qT ao ao)) (aM QN hr (aq (pv 0) (a1 (aN R4 (aV (a1 ao)) (pv 1))))))
 (sR (bC (L:=["_law_k"]) (F:=["_law_cell_here"]) (cap:=[0]) U (aY U U (by kernel_rfl)) (bQ U B.range_ (v1 1)) (fun _ _ _ _ _=>(pgC 0)) (fun _ _ _ _ _=>bI) (fun _ _ _ _ _=>(pxL K (aM QN hr (aq (aN bF (pv 1) (aN gm ao (pv 0))) (a1 (aV (a1 ao))))) ao))))),?_⟩
 have em:((m:Int)).toNat=m:=Wl m;refine⟨R,M,⟨by decide,by decide,by decide⟩,_,_,U,U,_,U,?_⟩;refine kI (fun h=>?_) (fun h=>?_)
 ·refine⟨O,smN 1,fun p1 h1=>?_⟩;generalize eH1:upd H p1 _=H1;obtain⟨g1,e1⟩:=aC eH1 h1;refine⟨O,p1,M,e1,by lia,by lia,small (by show 1 * ((m:Int)).toNat<=1000;lia),fun p2 h2=>?_⟩;rw[Ku,em];generalize eH2:upd H1 p2 _=H2;obtain⟨g2,e2⟩:=aC eH2 h2;refine⟨c,p2,WK m 27720,U,sqL e2,fun x hx=>by rw[(List.mem_replicate.mp hx).2];decide,by rw[X7];lia,fun r h3=>?_⟩;have s12:aG H H2:=g1.trans g2;refine q r _ _ (s12.trans (au h3 _)) (s12.free h3) ?_ ?_ aa;{unfold HB;rw[fU,X7]}
  ·intro x hx;obtain⟨i,hi,rfl⟩:=Yy hx;unfold HB at hi ⊢;have hi':i < m:=by rw[fU,X7] at hi;exact hi
   obtain⟨v,e,b0,_⟩:=cN (c:=qJ c) (i:=i) (ps:=WK m 27720) (p:=27720) (fun x hx=>by rw[(List.mem_replicate.mp hx).2];decide) (by rw[aaq,iPo hi']);rw[VN hi] at e;rw[WL e];exact b0
 ·refine nN ?_;dsimp only
  refine⟨R,by lia,by lia,fun D hD=>cR (lo:=0) (n:=((m:Int)).toNat) (fun i zs σ' H2=>(∃ u,σ'=[u,oI c])/\aG H H2/\H2 D=some (.lst zs)/\∃ ns:DU,zs=ns.map V.int/\ns.length=i/\∀ x∈ns,0<=x)
   ⟨⟨O⟩,au hD _,aa,[],U,U,by simp⟩ (fun i zs σ' H2 _ h=>h.2.2.1) ?_ ?_⟩
  ·rintro i zs σ' H2 hi ⟨⟨u,rfl⟩,sm,eD,ns,ez,ln,hns⟩;refine gT ?_;refine⟨R,M,.inl ⟨by decide,by decide⟩,_,_,U,U,smN 1,fun p1 h1=>?_⟩;generalize eH3:upd H2 p1 _=H3;obtain⟨g3,e3⟩:=aC eH3 h1;refine⟨_,p1,[27720],U,sqL e3,by decide,by decide,fun r h4=>?_⟩;generalize eH4:upd H3 r _=H4;obtain⟨g4,e4⟩:=aC eH4 h4;obtain⟨d0,k0,b0⟩:=cN (c:=qJ (c+101 * (0+(i:Int)))) (i:=0) (ps:=[27720]) (by decide) U;have a0:=dw (gW k0);have s24:aG H2 H4:=g3.trans g4;refine⟨r,Y,sqL e4,a0,s24 _ _ eD,aH (by rw[ez,VH];lia),⟨O⟩,aK (sm.trans s24) hD _,aa,ns++[d0],?_,?_,?_⟩;{rw[ez,VV];rfl};{rw[V6,ln];rfl}
   ·intro x hx;rcases List.mem_append.mp hx with z | z;{exact hns x z};{rw[List.mem_singleton.mp z];exact b0.1}
  ·rintro zs σ' H2 ⟨_,sm,eD,ns,ez,ln,hns⟩;exact q D ns H2 sm hD (by lia) hns (by rw[eD,ez])
def Bn.other {CS CB:Addr}{n:Nat}{H H':Hp}{b be b2 be2 ah2 dx dx2 nw:Addr}{fs:E7}{ys xs zs:Fk}{g:DU}{go:DV}{es:List Ent}{co:Nat}(B:Bn CS CB n H b2 be2 ah2 dx2 nw xs zs g go es co)(ne:CB≠CS)(hb:H b=some (.ins CB dx fs))(hbe:H be=some (.lst ys))(bt:But b be H H')(n1:b2≠b)(n2:be2≠be)(n3:ah2≠be):Bn CS CB n H' b2 be2 ah2 dx2 nw xs zs g go es co :=
 ⟨bt _ _ n1 (fun z=>by have:=B.hb;rw[z,hbe] at this;cases this) B.hb,bt _ _ (fun z=>by have:=B.hbe;rw[z,hb] at this;cases this) n2 B.hbe,bt _ _ (fun z=>by have:=B.hah;rw[z,hb] at this;cases this) n3 B.hah,B.st.ks (bt.ks ne hb hbe),B.nb,B.lg,B.n12,B.l40,B.gn,B.gl⟩
def O4.of {CS CB:Addr}{H:Hp}{b be ah dx nw:Addr}{xs zs:Fk}{A:Sa}(B:Bn CS CB A.n H b be ah dx nw xs zs A.g A.go A.es A.co)(ok:AOk A)(ow:Ow A):O4 A.n A.g A.go A.es:=by
 obtain⟨dx2,ga,goa,sa,us,hs,hga,hgoa,hsa,hes⟩:=B.st;exact⟨⟨ok.lg,ow.okg⟩,hes.ok,ow.own,fun e he=>(ok.eu.lt e he).2.2⟩
abbrev Qn:Stmt:=top 98
def sS:aB ["_law_script","_law_boon_here","_law_ends","_law_other","_law_picks_here","_law_one"] ZA (aA Qn):=bZ
inductive Ma (K:Ww)(vs:Fk)(H:Hp)(Q:VK)(e3:XK):Prop where
 | mk (a:Addr) (ns:DU) (_:vs=[.ref a]) (_:SqL K H a (ns.map V.int)) (_:ns.length<=63) (_:∀ H',Q (.bl true) H')
def RM {f CS CB:Addr} {fd:Xp} (ne:CB≠CS) (F:Fun K "law" "law" Qn f fd) (B:Bt mg) (Qb:Df P w K mg base "_law_cell" 1 XT (Nf K)) (RI:Df P w K mg base "_law_picks" 2 WO Jx) (OZ:Dk2 P w K mg base "Boon" CB 3 ZO (wg CS CB)) (QU:Df P w K mg base "_law_grown" 16 VZ (HQ CS CB))
  (Pc:Dm2 P w K mg base CB "twin" 6 ZO (M9 CS CB)) (Qr:Df P w K mg base "_law_come_to" 15 VU (Cg CS CB)) (PH:Df P w K mg base "green" 1 ZU (mR CS CB)) (SH:Df P w K mg base "sure" 14 ZU (M6 CS CB)) (PR:Df P w K mg base "hoped" 14 ZU (HF CS CB)) :
  bh P w K mg base CX0 17 f fd ZA (Ma K):=by
 refine okA F sS fun H Q E hr h=>?_;obtain⟨a,ns0,rfl,hS,lN,q⟩:=h
 refine⟨_,(aj (sT 0 sS.nd (j6 (r:=Uk K) Jb (pv 0) oJ (jN ao)))
 (aj (sT 1 sS.nd (MN OZ hr))
 (aj (aW (aM QU hr (aq (pv 1) (aq (aN pQ (j6 (r:=Uk K) Jb (pv 0) oJ (jN ao)) (aV (aq ao (aq ao (a1 ao))))) (a1 ao)))))
 (aj (sT 2 sS.nd (aV (aq (aM SH hr (v1 1)) (a1 (aM PR hr (v1 1))))))
 (aj (sT 3 sS.nd (RT Pc hr (pv 1)))
 (aj (sT 4 sS.nd (aM RI hr (aq (aM Qb hr (aq (pv 0) (a1 ao))) (a1 ao))))
 (aj (ifR (PW.pt (iB (dM (cu (aM Qr hr (aq (pv 1) (aq (pv 4) (a1 dR)))))) (eV (dM (cu (aM Qr hr (aq (pv 3) (aq (Ci (pv 4) (jN (vX nM ao))) (a1 dR))))))))) dR)
 (aj (bW Wv U (cH (aU (v2 1 3))) (pgN 5 sS.nd) (aF (ifR (PW.pt (iB (aD (r:=Gg K) (wK hr.iJ) (aM PH hr (v1 5)) (pxL K (pv 2) ao)) (iB (aD (r:=Gg K) (wK hr.iJ) (aM SH hr (v1 5)) (pxL K (pv 2) ao)) (eV (aD (r:=Gg K) (wK hr.iJ) (aM PR hr (v1 5)) (pxL K (pv 2) ao)))))) dR)))
 (sR dR))))))))),?_⟩
 refine bO (fun σ H1=>∃ (p1:Addr) (ss:DU),σ=[oR p1,none,none,none,none,none]/\H1 p1=some (.lst (ss.map V.int))/\ss.length<=63) ?_ ?_;{intro N Rc;refine⟨R,a,O,hS,fun p1 h1=>?_⟩;obtain⟨ss,es,ls⟩:=Bv ns0 none (some 63);rw[es];exact Rc _ _ ⟨p1,ss,U,aa,by lia⟩};rintro σ H1 ⟨p1,ss,rfl,e1,ls⟩;refine bO (fun σ H2=>∃ (b be ah dx nw:Addr),σ=[oR p1,oR b,none,none,none,none]/\aG H1 H2/\H1 be=none/\Bn CS CB 0 H2 b be ah dx nw [] [] [] [] [] 0) ?_ ?_
 ·intro N Rc x dx hx hdx hne;have fr0:∀ c,H1 c≠none->c≠x/\c≠dx:=fun c h=>⟨fun z=>h (by rw[z];exact hx),fun z=>h (by rw[z];exact hdx)⟩;refine⟨x,dx,U,aa,fun be ah nw H4 fbe fah fr hB=>⟨U,Rc _ _ ⟨x,be,ah,dx,nw,U,fun a o h=>?_,?_,hB⟩⟩⟩;{obtain⟨ax,ad⟩:=fr0 a (by rw[h];simp);exact fr a o ax (by rw[aL ax,aL ad];exact h)}
  ·cases hq:H1 be with
   | none=>rfl
   | some o =>
    obtain⟨ax,ad⟩:=fr0 be (by rw[hq];simp);rw[aL ax,aL ad,hq] at fbe;cases fbe
 rintro σ H2 ⟨b,be,ah,dx,nw,rfl,s2,fbe,hB⟩;have p1b:p1≠be:=fun z=>by rw[z,fbe] at e1;cases e1
 refine bO (fun σ H3=>∃ (ah nw:Addr) (xs zs:Fk) (A:Sa),σ=[oR p1,oR b,none,none,none,none]/\H3 p1=some (.lst (ss.map V.int))/\Bn CS CB A.n H3 b be ah dx nw xs zs A.g A.go A.es A.co/\xs.length<=100/\AOk A/\Ow A) ?_ ?_
 ·intro N Rc;refine⟨R,O,p1,O,sqL (s2 _ _ e1),fun p4 h4=>?_⟩;obtain⟨ks,ek,lk⟩:=Bv ss none (some 30);rw[ek];generalize eH7:upd H2 p4 _=H7;obtain⟨g7,e7⟩:=aC eH7 h4;refine⟨smN 3,fun p5 h5=>?_⟩;generalize eH8:upd H7 p5 _=H8;obtain⟨g8,e8⟩:=aC eH8 h5;refine⟨p4,p5,M,g8 _ _ e7,e8,small (by rw[VH];show ks.length+3<=1000;lia),fun p6 h6=>?_⟩;have ec:ks.map V.int++[V.int 0,V.int 1,V.int 2]=(ks++[0,1,2]).map V.int:=by rw[VV];rfl
  rw[ec];generalize eH9:upd H8 p6 _=H9;obtain⟨g9,e9⟩:=aC eH9 h6;have s79:=(g7.trans g8).trans g9;have n6:p6≠be:=fun z=>by rw[z,(g7.trans g8) _ _ hB.hbe] at h6;cases h6
  have lk3:(ks++[0,1,2]).length=ks.length+3:=V6;refine⟨b,be,ah,dx,nw,p6,3,O,by decide,by decide,hB.same s79,e9,n6,by lia,by lia,fun pl st ah nw ws xs zs A H' bt ep hB' lx hst ok ow n1=>Rc _ _ ⟨ah,nw,xs,zs,A,U,?_,hB',by lia,ok,ow⟩⟩;exact bt _ _ (fun z=>by have:=hB.hb;rw[← z,s2 _ _ e1] at this;cases this) p1b (s79 _ _ (s2 _ _ e1))
 clear hB s2;rintro σ H3 ⟨ah,nw,xs,zs,A,rfl,e1',hB,lx,ok,ow⟩;have o4:=O4.of hB ok ow;obtain⟨n,g,go,es,co⟩:=A;have hB:Bn CS CB n H3 b be ah dx nw xs zs g go es co:=hB;have o4:O4 n g go es:=o4;have n12:=hB.n12;have l40:=hB.l40;refine bO (fun σ H4=>∃ (en la ha:Addr) (lo hi:DU),σ=[oR p1,oR b,oR en,none,none,none]/\aG H3 H4/\H3 en=none/\H4 en=some (.lst [.ref la,.ref ha])/\H4 la=some (.tup (lo.map V.int))/\H4 ha=some (.tup (hi.map V.int))/\Low n g (fC n es) lo/\QV n g (fC n es) hi) ?_ ?_;{intro N Rc;refine⟨O,b,be,n,_,co,g,go,es,U,hB.Kf,o4.okg,hB.n12,hB.l40,fun la lo F1 f1 hlo e1=>⟨O,b,be,n,_,co,g,go,es,U,(hB.same f1).Kf,o4.okg,hB.n12,hB.l40,fun ha hi F2 f2 hhi e2=>⟨smN 2,fun en hen=>?_⟩⟩⟩;have sn:=au hen (.lst [.ref la,.ref ha]);exact Rc _ _ ⟨en,la,ha,lo,hi,U,f1.trans (f2.trans sn),(f1.trans f2).free hen,aa,sn _ _ (f2 _ _ e1),sn _ _ e2,hlo,hhi⟩};rintro σ H4 ⟨en,la,ha,lo,hi,rfl,s4,fen,een,ela,eha,hlo,hhi⟩;refine bO (fun σ H5=>∃ (b2 be2 ah2 dx2:Addr),σ=[oR p1,oR b,oR en,oR b2,none,none]/\aG H4 H5/\H4 b2=none/\H4 be2=none/\H4 ah2=none/\Bn CS CB n H5 b2 be2 ah2 dx2 nw xs zs g go es co) ?_ ?_;{intro N Rc;exact⟨O,b,dx,O,s4 _ _ hB.hb,U,b,be,ah,dx,nw,n,co,xs,zs,g,go,es,U,hB.same s4,fun b2 be2 ah2 dx2 H5 s5 f1 f2 f3 hB5=>Rc _ _ ⟨b2,be2,ah2,dx2,U,s5,f1,f2,f3,hB5⟩⟩};rintro σ H5 ⟨b2,be2,ah2,dx2,rfl,s5,f1,f2,f3,hB2⟩;have hB4:=hB.same s4;have nb:b2≠b:=fun z=>by rw[z,hB4.hb] at f1;cases f1
 have nbe:be2≠be:=fun z=>by rw[z,hB4.hbe] at f2;cases f2
 have nah:ah2≠be:=fun z=>by rw[z,hB4.hbe] at f3;cases f3
 have neb:be≠be2:=XQ nbe;have nea:ah≠be2:=fun z=>by rw[← z,hB4.hah] at f2;cases f2
 have en1:en≠be:=fun z=>by rw[z,hB.hbe] at fen;cases fen
 have en2:en≠be2:=fun z=>by rw[← z,een] at f2;cases f2
 have p12:p1≠be2:=fun z=>by rw[← z,s4 _ _ e1'] at f2;cases f2
 refine bO (fun σ H6=>∃ (pk:Addr) (ps:DU),σ=[oR p1,oR b,oR en,oR b2,oR pk,none]/\aG H5 H6/\H5 pk=none/\H6 pk=some (.lst (ps.map V.int))/\ps.length=109) ?_ ?_;{intro N Rc;exact⟨O,p1,ss,30,U,sqL (s5 _ _ (s4 _ _ e1')),_,109,U,by decide,fun r ns H' s' fr ln _ er=>Rc _ _ ⟨r,ns,U,s',fr,er,ln⟩⟩};rintro σ H6 ⟨pk,ps,rfl,s6,fpk,epk,lps⟩;have s46:=s5.trans s6;have pk1:pk≠be:=fun z=>by rw[z,s5 _ _ hB4.hbe] at fpk;cases fpk
 have pk2:pk≠be2:=fun z=>by rw[z,hB2.hbe] at fpk;cases fpk
 refine bO (fun σ H7=>σ=[oR p1,oR b,oR en,oR b2,oR pk,none]/\H7 en=some (.lst [.ref la,.ref ha])/\H7 la=some (.tup (lo.map V.int))/\H7 ha=some (.tup (hi.map V.int))/\(∃ d,kW CS CB n H7 b be d lo go es co)/\∃ d,kW CS CB n H7 b2 be2 d lo go es co) ?_ ?_
 ·intro N Rc;have hB6:=hB4.same s46;have hC6:=hB2.same s6;refine⟨R,b,be,ah,dx,nw,pk,false,n,co,xs,zs,g,lo,ps,go,es,U,hB6,o4,epk,pk1,lps,by lia,hlo,fun ah' nw' xs' zs' H7 bt ah0 hB7=>⟨true,U,?_⟩⟩;show if (!true)=true then _ else _
  have kp:∀ {a o},a≠be->H6 a=some o->(∀ fs,o≠HO.ins CB dx fs)->H7 a=some o:=fun {a o} h1 h2 h3=>bt _ _ (fun z=>by rw[z,hB6.hb] at h2;cases h2;exact h3 _ U) h1 h2;have hC7:=hC6.other ne hB6.hb hB6.hbe bt nb nbe nah;have ep7:=kp pk1 epk (fun _ z=>nomatch z);have ee7:=kp en1 (s46 _ _ een) (fun _ z=>nomatch z);have la1:la≠be:=fun z=>by rw[z,hB4.hbe] at ela;cases ela
  have ha1:ha≠be:=fun z=>by rw[z,hB4.hbe] at eha;cases eha
  have el7:=kp la1 (s46 _ _ ela) (fun _ z=>nomatch z);have eh7:=kp ha1 (s46 _ _ eha) (fun _ z=>nomatch z);refine bU ⟨R,R,-1,pk,O,.inr U,U,sqL ep7,fun pw hpw=>?_⟩;have sw:=au hpw (.lst (zg (-1) (ps.map V.int)));have wl:zg (-1) (ps.map V.int)=ps.reverse.map V.int:=by
   unfold zg;rw[iNe (by decide),List.map_reverse]
  have pw2:pw≠be2:=fun z=>by rw[z,hC7.hbe] at hpw;cases hpw
  refine⟨b2,be2,ah2,dx2,nw,pw,true,n,co,xs,zs,g,lo,ps.reverse,go,es,U,hC7.same sw,o4,by rw[aa,wl],pw2,by rw[List.length_reverse];exact lps,by lia,hlo,fun ah3 nw3 xs3 zs3 H8 bt8 _ hB8=>⟨true,U,?_⟩⟩;show if (!true)=true then _ else _
  have hCw:=hC7.same sw;have kp8:∀ {a o},a≠be2->H7 a=some o->(∀ fs,o≠HO.ins CB dx2 fs)->H8 a=some o:=fun {a o} h1 h2 h3=>bt8 _ _ (fun z=>by rw[z,hC7.hb] at h2;cases h2;exact h3 _ U) h1 (sw _ _ h2);have la2:la≠be2:=fun z=>by rw[← z,ela] at f2;cases f2
  have ha2:ha≠be2:=fun z=>by rw[← z,eha] at f2;cases f2
  have hD:=(hB7.same sw).other ne hCw.hb hCw.hbe bt8 (XQ nb) neb (fun z=>ah0.elim (fun y=>nea (y.symm.trans z)) fun y=>by rw[z,hC6.hbe] at y;cases y);exact bU (Rc _ _ ⟨U,kp8 en2 ee7 (fun _ z=>nomatch z),kp8 la2 el7 (fun _ z=>nomatch z),kp8 ha2 eh7 (fun _ z=>nomatch z),⟨_,hD.Kf⟩,_,hB8.Kf⟩)
 rintro σ H7 ⟨rfl,een,ela,eha,⟨d1,hB1⟩,d2,hB2⟩;refine n8 (fun _ _=>True) (fun _ _ _=>q _) fun N Rc=>?_;refine⟨R,smN 2,fun tp htp=>?_⟩;generalize eF:upd H7 tp _=F1;obtain⟨gf,ef⟩:=aC eF htp;refine⟨tp,U,⟨_,sqT ef⟩,dY (K:=K) (a:=tp) (xs:=[.ref b,.ref b2]) (fun i σ Hx=>∃ u5:E8,σ=[oR p1,oR b,oR en,oR b2,oR pk,u5]/\aG F1 Hx) ⟨O,aG.refl _⟩ (fun i σ Hx _ h=>by obtain⟨_,_,z⟩:=h;exact sqT (z _ _ ef)) ?_ (fun _ _ _=>Rc _ _ trivial)⟩;rintro i y σ Hx hx ⟨u5,rfl,sx⟩;obtain⟨c,be3,d3,rfl,hC⟩:∃ (c be3:Addr) (d3:Nat),y = .ref c/\kW CS CB n H7 c be3 d3 lo go es co:=by
  rcases List.mem_cons.mp (Wk hx) with z | z;{exact⟨b,be,d1,z,hB1⟩};{exact⟨b2,be2,d2,List.mem_singleton.mp z,hB2⟩}
 have sx':=gf.trans sx;replace hC:=hC.same sx';replace een:=sx' _ _ een;replace ela:=sx' _ _ ela;replace eha:=sx' _ _ eha;refine gN ?_;refine⟨O,c,be3,n,d3,co,lo,go,es,U,hC,fun ga hga=>⟨O,en,Y,sqL een,gt0,ga,la,lo,lo,U,U,sqT hga,sqT ela,O,?_⟩⟩;rw[dcT U];show if (!true)=true then _ else _
 refine bU ⟨O,c,be3,n,d3,co,lo,go,es,U,hC,hlo.1,n12,l40,fun a3 lo3 H8 s8 hlo3 e3=>?_⟩;rw[Ip o4.okp o4.okg hlo hlo3] at e3;refine⟨O,en,Y,sqL (s8 _ _ een),gt0,a3,la,lo,lo,U,U,sqT e3,sqT (s8 _ _ ela),O,?_⟩;rw[dcT U];show if (!true)=true then _ else _
 refine bU ⟨O,c,be3,n,d3,co,lo,go,es,U,hC.same s8,hlo.1,n12,l40,fun a4 hi4 H9 s9 hhi4 e4=>?_⟩;rw[Et o4.okp o4.okg hlo hhi hhi4] at e4;have s89:=s8.trans s9;refine⟨O,en,Y,sqL (s89 _ _ een),gt1,a4,ha,hi,hi,U,U,sqT e4,sqT (s89 _ _ eha),O,?_⟩;rw[dcT U];show if (!true)=true then _ else _
 exact bU ⟨O,sx.trans s89⟩
def all_mk {l:W.OpenLaw} {w:Wy} {K:Ww} {h:WT} {mg:Wt->DE} {fa fq1 fq2 fq3 fq4 fq5 fq6 fq7 fq8 fq9 fq10 fq11 fq12 fq13 fq14 fq15 fq16 fq17 fq18 fq19 fq20 fq21 fq22 fq23 fq24 fq25 fq26 fq27 fq28 fq29 fq30 fq31 fq32 fq33 fq34 fq35 fq36 fq37 fq38 fq39 fq40 fq41 fq42 fq43 fq44 fq45 fq46 fq47 fq48 fq49 fq50 fq51 fq52 fq53 fq54 fq55 fq56 fq57 fq58 fq59 fq60 fq61 fq62 fq63 fq64 fq65 fq66 fq67 fq68 fq69 fq70:Addr} (X:K.In h) (G:h.Ns Wm mg) (hfa:mg "law" = some (.ref fa)) {kMFO kMST kMSU kMDE kFPA kMPA kMRU kMPL:Tok} {Cw10 Cw11:Addr} {UB TU TN TM TW TZ TL UA TR Uf:Addr} {Cw0 fiw0 Cw1 fiw1 Cw2 fiw2 Cw3 fiw3 Cw4 fiw4 Cw5 fiw5 Cw8 fiw8 Cw7 fiw7 Cw6 fiw6:Addr} {bmw0 bmw1 bmw2 bmw3 bmw4 bmw5 bmw8 bmw7 bmw6:DJ} {mc:Value}
  (qw0:dN K "BoonError" "BoonError.__init__" Cw0 fiw0 (inClass lJ 0) bmw0)
  (xga:W.specialIn K (.ref Cw0) "__getattribute__" = some (some (.builtin "type.__getattribute__")))
  (xty:W.typeIn K (.ref Cw0)=some mc)
  (xrd:W.readsIn K Cw0 mc=true)
  (xfd:W.findCls K (.ref Cw0) mc "__init__" = some (.val (.ref fiw0)))
  (qw1:dN K "BadPledge" "BadPledge.__init__" Cw1 fiw1 (inClass lD 0) bmw1)
  (mrw1:(We Cw1::bmw1).contains (.ref Cw0)=true)
  (qw2:dN K "NoFolk" "NoFolk.__init__" Cw2 fiw2 (inClass wF 0) bmw2)
  (mrw2:(We Cw2::bmw2).contains (.ref Cw0)=true)
  (qw3:dN K "Gone" "Gone.__init__" Cw3 fiw3 (inClass G6 0) bmw3)
  (mrw3:(We Cw3::bmw3).contains (.ref Cw0)=true)
  (qw4:dN K "NoPledge" "NoPledge.__init__" Cw4 fiw4 (inClass oG 0) bmw4)
  (mrw4:(We Cw4::bmw4).contains (.ref Cw0)=true)
  (qw5:dN K "Bound" "Bound.__init__" Cw5 fiw5 (inClass Ad 0) bmw5)
  (mrw5:(We Cw5::bmw5).contains (.ref Cw0)=true)
  (qw8:dN K "Full" "Full.__init__" Cw8 fiw8 (inClass FQ 0) bmw8)
  (mrw8:(We Cw8::bmw8).contains (.ref Cw0)=true)
  (qw7:dN K "BadRise" "BadRise.__init__" Cw7 fiw7 (inClass qQ 0) bmw7)
  (mrw7:(We Cw7::bmw7).contains (.ref Cw0)=true)
  (qw6:dN K "NotDue" "NotDue.__init__" Cw6 fiw6 (inClass wC 0) bmw6)
  (mrw6:(We Cw6::bmw6).contains (.ref Cw0)=true)
  (qw10:jE K "Stand" Cw10)
  (UK:ZS K (.ref Cw10) "green" = some none)
  (UI:ZS K (.ref Cw10) "gone" = some none)
  (UM:ZS K (.ref Cw10) "standing" = some none)
  (UH:ZS K (.ref Cw10) "coming" = some none)
  (UY:cF K Cw10 "__init__" "Stand.__init__" jY UB)
  (qw11:jE K "Boon" Cw11)
  (UF:ZS K (.ref Cw11) "now" = some none)
  (UE:ZS K (.ref Cw11) "behind" = some none)
  (UD:ZS K (.ref Cw11) "ahead" = some none)
  (UR:cF K Cw11 "__init__" "Boon.__init__" lR TU)
  (UP:cF K Cw11 "go_on" "Boon.go_on" jO TN)
  (UO:cF K Cw11 "come" "Boon.come" lE TM)
  (US:cF K Cw11 "leave" "Boon.leave" jQ TW)
  (UU:cF K Cw11 "pledge" "Boon.pledge" jz TZ)
  (UN:cF K Cw11 "change" "Boon.change" jr TL)
  (UX:cF K Cw11 "withdraw" "Boon.withdraw" fP UA)
  (UQ:cF K Cw11 "hand" "Boon.hand" lW TR)
  (UV:cF K Cw11 "twin" "Boon.twin" lG Uf)
  (ne_Boonw10:Cw11≠Cw10)
  (qq1:HasDef K "is_number" mV fq1)
  (qq2:HasDef K "is_crowd" pD fq2)
  (qq3:HasDef K "are_parts" lK fq3)
  (qq4:HasDef K "is_term_within" eZ fq4)
  (qq5:HasDef K "is_term" tM fq5)
  (qq6:HasDef K "all_hold" nY fq6)
  (qq7:HasDef K "any_holds" lZ fq7)
  (qq8:HasDef K "holds" zr fq8)
  (qq9:HasDef K "mentions" oM fq9)
  (qq10:HasDef K "named" zm fq10)
  (qq11:HasDef K "is_rung" rC fq11)
  (qq12:HasDef K "is_pledge" mU fq12)
  (qq13:HasDef K "owes" Ju fq13)
  (qq14:HasDef K "last_step" lM fq14)
  (qq15:HasDef K "check_there" fL fq15)
  (qq16:HasDef K "owed_of" rG fq16)
  (qq17:HasDef K "pledger_of" j5 fq17)
  (qq18:HasDef K "check_pledge" gY fq18)
  (qq19:HasDef K "pledged_anew" gZ fq19)
  (qq20:HasDef K "handed_in" my fq20)
  (qq21:HasDef K "boon_of" qX fq21)
  (qq22:HasDef K "what_is_due" jc fq22)
  (qq23:HasDef K "roof" Gd fq23)
  (qq24:HasDef K "settled" tL fq24)
  (qq25:HasDef K "rise" Iv fq25)
  (qq26:HasDef K "fall" Ie fq26)
  (qq27:HasDef K "least" zz fq27)
  (qq28:HasDef K "greatest" pC fq28)
  (qq29:HasDef K "folk" Hv fq29)
  (qq30:HasDef K "there" zu fq30)
  (qq31:HasDef K "green" zY fq31)
  (qq32:HasDef K "book_of" rA fq32)
  (qq33:HasDef K "sure" Ft fq33)
  (qq34:HasDef K "hoped" An fq34)
  (qq35:HasDef K "owed" Ga fq35)
  (qq36:HasDef K "may_hand" oW fq36)
  (qq37:HasDef K "_law_cell" o6 fq37)
  (qq38:HasDef K "_law_draws" lU fq38)
  (qq39:HasDef K "_law_under" mK fq39)
  (qq40:HasDef K "_law_crowd" lQ fq40)
  (qq41:HasDef K "_law_term" o5 fq41)
  (qq42:HasDef K "_law_renamed" jC fq42)
  (qq43:HasDef K "_law_mine" oH fq43)
  (qq44:HasDef K "_law_pledge" j0 fq44)
  (qq45:HasDef K "_law_named" lF fq45)
  (qq46:HasDef K "_law_holds" mW fq46)
  (qq47:HasDef K "_law_owes" pF fq47)
  (qq48:HasDef K "_law_owed" oX fq48)
  (qq49:HasDef K "_law_listed" jV fq49)
  (qq50:HasDef K "_law_missing" jo fq50)
  (qq51:HasDef K "_law_good" oZ fq51)
  (qq52:HasDef K "_law_bound" lY fq52)
  (qq53:HasDef K "_law_green" lO fq53)
  (qq54:HasDef K "_law_rises_refusal" dI fq54)
  (qq55:HasDef K "_law_table_with" fc fq55)
  (qq56:HasDef K "_law_refusal" jj fq56)
  (qq57:HasDef K "_law_after" lV fq57)
  (qq58:HasDef K "_law_step_by_step" dW fq58)
  (qq59:HasDef K "_law_roof" o7 fq59)
  (qq60:HasDef K "_law_who" qO fq60)
  (qq61:HasDef K "_law_book_of" jh fq61)
  (qq62:HasDef K "_law_rises" lX fq62)
  (qq63:HasDef K "_law_deed" o8 fq63)
  (qq64:HasDef K "_law_do" wk fq64)
  (qq65:HasDef K "_law_grown" mF fq65)
  (qq66:HasDef K "_law_picks" mC fq66)
  (qq67:HasDef K "_law_open" oV fq67)
  (qq68:HasDef K "_law_too_much" iy fq68)
  (qq69:HasDef K "_law_come_to" jd fq69)
  (qq70:HasDef K "law" Qn fq70)
  (U2:Yu K Wm "MOST_FOLK" = some (some (.int 12 kMFO)))
  (VO:Yu K Wm "MOST_STEP" = some (some (.int 9 kMST)))
  (VQ:Yu K Wm "MOST_SUM" = some (some (.int 99 kMSU)))
  (U1:Yu K Wm "MOST_DEPTH" = some (some (.int 4 kMDE)))
  (UZ:Yu K Wm "FEWEST_PARTS" = some (some (.int 2 kFPA)))
  (VA:Yu K Wm "MOST_PARTS" = some (some (.int 6 kMPA)))
  (VI:Yu K Wm "MOST_RUNGS" = some (some (.int 9 kMRU)))
  (VC:Yu K Wm "MOST_PLEDGES" = some (some (.int 40 kMPL)))
  (z_len:Yu K Wm "len" = some none)
  (z_range:Yu K Wm "range" = some none)
  (z_all:Yu K Wm "all" = some none)
  (z_isinstance:Yu K Wm "isinstance" = some none)
  (z_int:Yu K Wm "int" = some none)
  (z_bool:Yu K Wm "bool" = some none)
  (z_str:Yu K Wm "str" = some none)
  (z_list:Yu K Wm "list" = some none)
  (z_tuple:Yu K Wm "tuple" = some none)
  (z_abs:Yu K Wm "abs" = some none)
  (z_max:Yu K Wm "max" = some none)
  (z_min:Yu K Wm "min" = some none)
  (z_sum:Yu K Wm "sum" = some none)
  (z_sorted:Yu K Wm "sorted" = some none)
  (z_zip:Yu K Wm "zip" = some none)
  (z_reversed:Yu K Wm "reversed" = some none)
  (z_divmod:Yu K Wm "divmod" = some none)
  (z_set:Yu K Wm "set" = some none)
  (z_any:Yu K Wm "any" = some none)
  (z_enumerate:Yu K Wm "enumerate" = some none)
  (z_ValueError:Yu K Wm "ValueError" = some none)
  (z_dict:Yu K Wm "dict" = some none)
  : ∃ fd:Xp,(∀ (s:VL) (v:Value),abX s fd ⟨[v],[]⟩ [("_law_script",v)])/\∀ base:WT,K.In base->base.Ns Wm mg->bh l.prog w K mg base CX0 17 fa fd ZA (Ma K):=by
 have e:=hfa.symm.trans (qq70.name X G);cases e;have B:Bt mg:=⟨Xe X G z_len,Xe X G z_range,Xe X G z_all,Xe X G z_isinstance,Xe X G z_int,Xe X G z_bool,Xe X G z_str,Xe X G z_list,Xe X G z_tuple,Xe X G z_abs,Xe X G z_max,Xe X G z_min,Xe X G z_sum,Xe X G z_sorted,Xe X G z_zip,Xe X G z_reversed,Xe X G z_divmod,Xe X G z_set,Xe X G z_any,Xe X G z_enumerate⟩;have Ty:=abV X G U2;have TH:=abV X G VO;have TK:=abV X G VQ;have Tx:=abV X G U1;have Ts:=abV X G UZ;have TB:=abV X G VA;have TD:=abV X G VI;have TC:=abV X G VC;have c_dict:=Xe X G z_dict;obtain⟨_,Fq70,bq70⟩:=qq70.law (y:="_law_script") fun _ _ _ _ _ _ s v=>.of_eq U;refine⟨_,bq70,fun base _ _=>?_⟩;have mw0:=qw0.name X G;obtain⟨_,Fiw0⟩:=qw0.fn;have biw0:=Fiw0.binds (ps:=YY) fun _ _ _ _ _ _ us hl=>by obtain⟨x0,x1,rfl⟩:=QX hl;rfl
 have z_V:=Xe X G z_ValueError;have Ow0:ug K Cw0 mc "__init__" fiw0:=⟨xga,xrd,xfd,qw0.kp,U⟩;have FB:=Le (P:=l.prog) (w:=w) (mg:=mg) (base:=base) Fiw0 z_V;have mw1:=qw1.name X G;obtain⟨_,Fiw1⟩:=qw1.fn;have biw1:=Fiw1.binds (ps:=ZO) fun _ _ _ _ _ _ us hl=>by obtain⟨x0,rfl⟩:=Fl hl;rfl
 have Rw1:=qw1.xrd qw0 mrw1;have Xw1:Xc l.prog w K mg base "BadPledge" Cw1 "bad pledge":=⟨⟨_,_,Fp mw0 Ow0 FB biw0 Fiw1,mw1,qw1.Np,biw1⟩⟩;have mw2:=qw2.name X G;obtain⟨_,Fiw2⟩:=qw2.fn;have biw2:=Fiw2.binds (ps:=ZO) fun _ _ _ _ _ _ us hl=>by obtain⟨x0,rfl⟩:=Fl hl;rfl
 have Rw2:=qw2.xrd qw0 mrw2;have Xw2:Xc l.prog w K mg base "NoFolk" Cw2 "no folk":=⟨⟨_,_,Jl mw0 Ow0 FB biw0 Fiw2,mw2,qw2.Np,biw2⟩⟩;have mw3:=qw3.name X G;obtain⟨_,Fiw3⟩:=qw3.fn;have biw3:=Fiw3.binds (ps:=ZO) fun _ _ _ _ _ _ us hl=>by obtain⟨x0,rfl⟩:=Fl hl;rfl
 have Rw3:=qw3.xrd qw0 mrw3;have Xw3:Xc l.prog w K mg base "Gone" Cw3 "gone":=⟨⟨_,_,GP mw0 Ow0 FB biw0 Fiw3,mw3,qw3.Np,biw3⟩⟩;have mw4:=qw4.name X G;obtain⟨_,Fiw4⟩:=qw4.fn;have biw4:=Fiw4.binds (ps:=ZO) fun _ _ _ _ _ _ us hl=>by obtain⟨x0,rfl⟩:=Fl hl;rfl
 have Rw4:=qw4.xrd qw0 mrw4;have Xw4:Xc l.prog w K mg base "NoPledge" Cw4 "no pledge":=⟨⟨_,_,Fw mw0 Ow0 FB biw0 Fiw4,mw4,qw4.Np,biw4⟩⟩;have mw5:=qw5.name X G;obtain⟨_,Fiw5⟩:=qw5.fn;have biw5:=Fiw5.binds (ps:=ZO) fun _ _ _ _ _ _ us hl=>by obtain⟨x0,rfl⟩:=Fl hl;rfl
 have Rw5:=qw5.xrd qw0 mrw5;have Xw5:Xc l.prog w K mg base "Bound" Cw5 "bound":=⟨⟨_,_,Hs mw0 Ow0 FB biw0 Fiw5,mw5,qw5.Np,biw5⟩⟩;have mw8:=qw8.name X G;obtain⟨_,Fiw8⟩:=qw8.fn;have biw8:=Fiw8.binds (ps:=ZO) fun _ _ _ _ _ _ us hl=>by obtain⟨x0,rfl⟩:=Fl hl;rfl
 have Rw8:=qw8.xrd qw0 mrw8;have Xw8:Xc l.prog w K mg base "Full" Cw8 "full":=⟨⟨_,_,Jm mw0 Ow0 FB biw0 Fiw8,mw8,qw8.Np,biw8⟩⟩;have mw7:=qw7.name X G;obtain⟨_,Fiw7⟩:=qw7.fn;have biw7:=Fiw7.binds (ps:=ZO) fun _ _ _ _ _ _ us hl=>by obtain⟨x0,rfl⟩:=Fl hl;rfl
 have Rw7:=qw7.xrd qw0 mrw7;have Xw7:Xc l.prog w K mg base "BadRise" Cw7 "bad rise":=⟨⟨_,_,Gn mw0 Ow0 FB biw0 Fiw7,mw7,qw7.Np,biw7⟩⟩;have mw6:=qw6.name X G;obtain⟨_,Fiw6⟩:=qw6.fn;have biw6:=Fiw6.binds (ps:=ZO) fun _ _ _ _ _ _ us hl=>by obtain⟨x0,rfl⟩:=Fl hl;rfl
 have Rw6:=qw6.xrd qw0 mrw6;have Xw6:Xc l.prog w K mg base "NotDue" Cw6 "not due":=⟨⟨_,_,Hl mw0 Ow0 FB biw0 Fiw6,mw6,qw6.Np,biw6⟩⟩;have dd:=fun {x:Wt} {st:Stmt} {f:Addr} {ps:D0} {sp:Sp} {k:Nat} (q:HasDef K x st f)=>q.df (P:=l.prog) (w:=w) (mg:=mg) (base:=base) (ps:=ps) (sp:=sp) (k:=k) X G;have dx:=fun {x:Wt} {st:Stmt} {f:Addr} {ps:D0} {sp:Sp} {k:Nat} (q:HasDef K x st f)=>q.dx (P:=l.prog) (w:=w) (mg:=mg) (base:=base) (ps:=ps) (sp:=sp) (k:=k) X G;have dmx:=fun {x m q:Wt} {C:Addr} {st:Stmt} {f:Addr} {ps:D0} {sp:Sp} {k:Nat} (o:cF K C m q st f) (c:jE K x C)=>o.dmx (P:=l.prog) (w:=w) (mg:=mg) (base:=base) (ps:=ps) (sp:=sp) (k:=k) c;have dm:=fun {x m q:Wt} {C:Addr} {st:Stmt} {f:Addr} {ps:D0} {sp:Sp} {k:Nat} (o:cF K C m q st f) (c:jE K x C)=>o.dm (P:=l.prog) (w:=w) (mg:=mg) (base:=base) (ps:=ps) (sp:=sp) (k:=k) c;have Dq37:=dd qq37 bG fun _ F=>zx F B;have Dq38:=dd qq38 bG fun _ F=>xT F B;have Dq39:=dd qq39 bG fun _ F=>wV F B;have Dq40:=dd qq40 bG fun _ F=>yE F B;have T0:Df l.prog w K mg base "_law_term" 1 VT (uM 0):=dd qq41 Jf fun _ _=>term_none;have T1:=dd qq41 Jf fun _ F=>mD F B Dq38 Dq39 Dq40 T0;have T2:=dd qq41 Jf fun _ F=>mD F B Dq38 Dq39 Dq40 T1;have T3:=dd qq41 Jf fun _ F=>mD F B Dq38 Dq39 Dq40 T2;have R0:Df l.prog w K mg base "_law_renamed" 0 WP (Ew K 0):=dd qq42 bG fun _ _=>J2;have R1:=dd qq42 bG fun _ F=>iu F B R0;have R2:=dd qq42 bG fun _ F=>iu F B R1;have R3:=dd qq42 bG fun _ F=>iu F B R2;have Dq43:=dd qq43 Rk fun _ F=>Ao F B T3 R3;have Dq44:=dd qq44 Rk fun _ F=>wJ F B Dq38 Dq39 Dq40 Dq43;have L0:Df l.prog w K mg base "_law_holds" 0 WF (eG K 0):=dd qq46 bG fun _ _=>Av;have L1:=dd qq46 bG fun _ F=>gM F B L0;have L2:=dd qq46 bG fun _ F=>gM F B L1;have L3:=dd qq46 bG fun _ F=>gM F B L2;have L4:=dd qq46 bG fun _ F=>gM F B L3;have Dq47:=dd qq47 bG fun _ F=>Aq F B L4;have Dq48:=dd qq48 bG fun _ F=>Ba F B Dq47;have Dq59:=dd qq59 bG fun _ F=>zF F B;have H0:Df l.prog w K mg base "holds" 0 YE (eG K 0):=dd qq8 bG fun _ _=>DW;have A1:=dd qq6 bG fun _ F=>jA F B H0;have Y1:=dd qq7 bG fun _ F=>gF F B H0;have H1:=dd qq8 bG fun _ F=>qL F B A1 Y1;have A2:=dd qq6 bG fun _ F=>jA F B H1;have Y2:=dd qq7 bG fun _ F=>gF F B H1;have H2:=dd qq8 bG fun _ F=>qL F B A2 Y2;have A3:=dd qq6 bG fun _ F=>jA F B H2;have Y3:=dd qq7 bG fun _ F=>gF F B H2;have H3:=dd qq8 bG fun _ F=>qL F B A3 Y3;have A4:=dd qq6 bG fun _ F=>jA F B H3;have Y4:=dd qq7 bG fun _ F=>gF F B H3;have H4:=dd qq8 bG fun _ F=>qL F B A4 Y4;have Dq13:=dd qq13 bG fun _ F=>Pb F B H4;have Dq14:=dd qq14 bind1 fun _ F=>yM F B;have Dq22:=dd qq22 fJ fun _ F=>ur F B Dq13;have Dq23:=dd qq23 bG fun _ F=>Pk F B Dq14;have Dq24:=dd qq24 fJ fun _ F=>Es F B Dq22;have Dq25:=dd qq25 bG fun _ F=>O5 F B Dq24;have Dq26:=dd qq26 bG fun _ F=>QL (by decide) F B Dq24 Dq23;have Dq27:=dd qq27 bG fun _ F=>Kh F B Dq25;have Dq28:=dd qq28 bG fun _ F=>Ac F B Dq26;have Dq66:=dd qq66 bG fun _ F=>wU F B Dq38;have S:wN K Cw10:=⟨qw10.cl,UK,UI,UM,UH⟩;have T:yO K Cw11:=⟨qw11.cl,UF,UE,UD⟩;have ne:=ne_Boonw10
 let xa:XA:=⟨Cw2,Cw3,Cw1,Cw8,Cw4,Cw5,Cw6,Cw7,Cw2⟩
 have RX:∀ w:Wt,XRd K (xa.of w) Cw0 "word":=fun w=>by unfold XA.of;(repeat' split) <;> first | exact Rw2 | exact Rw3 | exact Rw1 | exact Rw8 | exact Rw6 | exact Rw7 | exact Rw4 | exact Rw5
 have Dq1:=dd qq1 fJ fun _ F=>xx F B;have Dq2:=dd qq2 fJ fun _ F=>zT F B Dq1;have W0:Df l.prog w K mg base "is_term_within" 1 XW (j7 0):=dd qq4 fJ fun _ _=>zG;have P0:=dd qq3 fJ fun _ F=>gk F B Ts TB (by decide) Dq1 W0;have W1:=dd qq4 fJ fun _ F=>di F B TH TK Ty (by decide) Dq1 Dq2 P0;have P1:=dd qq3 fJ fun _ F=>gk F B Ts TB (by decide) Dq1 W1;have W2:=dd qq4 fJ fun _ F=>di F B TH TK Ty (by decide) Dq1 Dq2 P1;have P2:=dd qq3 fJ fun _ F=>gk F B Ts TB (by decide) Dq1 W2;have W3:=dd qq4 fJ fun _ F=>di F B TH TK Ty (by decide) Dq1 Dq2 P2;have P3:=dd qq3 fJ fun _ F=>gk F B Ts TB (by decide) Dq1 W3;have W4:=dd qq4 fJ fun _ F=>di F B TH TK Ty (by decide) Dq1 Dq2 P3;have Dq5:=dd qq5 bG fun _ F=>Eu F B Tx W4;have M0:Df l.prog w K mg base "mentions" 0 ZT (jU 0):=dd qq9 bind1 fun _ _=>xF;have M1:=dd qq9 bind1 fun _ F=>iW F B M0;have M2:=dd qq9 bind1 fun _ F=>iW F B M1;have M3:=dd qq9 bind1 fun _ F=>iW F B M2;have M4:=dd qq9 bind1 fun _ F=>iW F B M3;have Dq10:=dd qq10 bind1 fun _ F=>Kv F B M4;have N0:Df l.prog w K mg base "_law_named" 0 Ya (jU 0):=dd qq45 bind1 fun _ _=>xF;have N1:=dd qq45 bind1 fun _ F=>gC F B N0;have N2:=dd qq45 bind1 fun _ F=>gC F B N1;have N3:=dd qq45 bind1 fun _ F=>gC F B N2;have N4:=dd qq45 bind1 fun _ F=>gC F B N3;have Dq11:=dd qq11 Jf fun _ F=>DQ F B TH (by decide) Dq1 Dq5 Dq10;have Dq12:=dd qq12 fJ fun _ F=>yj F B TD (by decide) Dq1 Dq11;have Dw10:=UY.dk (P:=l.prog) (w:=w) (base:=base) (ps:=VX) qw10 X G (fun _ F=>F.binds fun _ _ _ _ _ _ us hl=>by obtain⟨x0,x1,x2,x3,x4,rfl⟩:=U3 hl;rfl) fun _ F=>v8 F S;have Dw11:=UR.dk (P:=l.prog) (w:=w) (base:=base) (ps:=ZO) qw11 X G (fun _ F=>F.binds fun _ _ _ _ _ _ us hl=>by obtain⟨x0,rfl⟩:=Fl hl;rfl) fun _ F=>vp F T Dw10;have O0:=dm (ps:=YR) UP qw11 (fun _ F=>F.binds fun _ _ _ _ _ _ us hl=>by obtain⟨x0,x1,rfl⟩:=QX hl;rfl) fun _ F=>tX F T;have SW:=dmx (ps:=ZO) UO qw11 (fun _ F=>F.binds fun _ _ _ _ _ _ us hl=>by obtain⟨x0,rfl⟩:=Fl hl;rfl) fun _ F=>ux ne F B S T Ty Dw10 O0 Xw8;have SR:=dx qq15 bG fun _ F=>qe F B S Dq1 Xw2 Xw3;have SO:=dx qq18 fJ fun _ F=>nU (by decide) F B S Dq12 Xw1;have S0:=dmx (ps:=XY) UU qw11 (fun _ F=>F.binds fun _ _ _ _ _ _ us hl=>by obtain⟨x0,x1,x2,rfl⟩:=Ux hl;rfl) fun _ F=>pZ (x:=xa) (by decide) ne F B S T TC SR SO Dw10 O0 Xw8;have SZ:=dmx (ps:=ZB) US qw11 (fun _ F=>F.binds fun _ _ _ _ _ _ us hl=>by obtain⟨x0,x1,rfl⟩:=QX hl;rfl) fun _ F=>tE (x:=xa) ne F B S T SR Dw10 O0;have Dq16:=dd qq16 fJ fun _ F=>Dy F B Dq13;have SU:=dx qq17 bG fun _ F=>sJ (x:=xa) F B S Dq1 Xw4;have ST:=dx qq19 fJ fun _ F=>iK (x:=xa) (by decide) F B S Dq16 Dw10 Xw5;have SL:=dx qq19 fJ fun _ F=>(iK (x:=xa) (by decide) F B S Dq16 Dw10 Xw5).mono (show 11<=13 by decide);have SV:=dmx (ps:=Xs) UN qw11 (fun _ F=>F.binds fun _ _ _ _ _ _ us hl=>by obtain⟨x0,x1,x2,rfl⟩:=Ux hl;rfl) fun _ F=>pY (x:=xa) (by decide) ne F B S T SU SO SL O0;have S1:=dmx (ps:=YN) UX qw11 (fun _ F=>F.binds fun _ _ _ _ _ _ us hl=>by obtain⟨x0,x1,rfl⟩:=QX hl;rfl) fun _ F=>(nG (x:=xa) (by decide) ne F B S T SU ST O0).mono (show 12<=14 by decide);have SS:=dx qq20 bG fun _ F=>uo (x:=xa) (by decide) F B S TH SR Dq1 Dq16 Dw10 Xw7 Xw6;have SY:=dmx (ps:=YU) UQ qw11 (fun _ F=>F.binds fun _ _ _ _ _ _ us hl=>by obtain⟨x0,x1,rfl⟩:=QX hl;rfl) fun _ F=>(tV (x:=xa) (by decide) ne F B T SS O0).mono (show 12<=14 by decide);have Dq50:=dd qq50 bG fun _ F=>tW F B;have Dq49:=dd qq49 bG fun _ F=>uR F B;have Dq51:=dd qq51 fJ fun _ F=>zZ F B N4;have Dq53:=dd qq53 bG fun _ F=>yP F B;have Dq54:=dd qq54 bG fun _ F=>kJ (by decide) F B Dq50 Dq53 Dq49 Dq48;have Dq52:=dd qq52 fJ fun _ F=>yS (by decide) F B Dq49 Dq48;have Dq55:=dd qq55 bG fun _ F=>pA F B c_dict;have Dq56:=dd qq56 bG fun _ F=>uq (by decide) F B Dq50 Dq51 Dq54 Dq52 Dq55;have Dq57:=dd qq57 bG fun _ F=>xR F B c_dict Dq53 Dq55;have Dq64:=dx qq64 bG fun _ F=>Ih (x:=xa) (by decide) F B SW SZ S0 SV S1 SY;have Dq60:=dd qq60 bG fun _ F=>Eg F B;have Dq61:=dd qq61 bind1 fun _ F=>uh F B Dq49;have Dq58:=dd qq58 fJ fun _ F=>lL F B Dq48;have Dq62:=dd qq62 bG fun _ F=>xM (by decide) F B Dq38 Dq61 Dq48 Dq58 Dq59 Dq60;have Dq63:=dd qq63 fJ fun _ F=>Ai (by decide) F B Dq38 Dq60 Dq62 Dq39 Dq44;have Dq65:=dd qq65 fJ fun _ F=>yC (x:=xa) (by decide) F B Dq63 Dq56 Dq64 Dq57;have Dq36:=dd qq36 bG fun _ F=>zp (x:=xa) F T mw0 RX SS;have Dq29:=dd qq29 bind1 fun _ F=>PL F B S T;have Dq31:=dd qq31 bind1 fun _ F=>Kl F B S T;have Dq30:=dd qq30 bind1 fun _ F=>vR F B S T Dq29;have Dq15:=dd qq15 bG fun _ F=>tU F B S Dq1;have Dq35:=dd qq35 bG fun _ F=>Ia (by decide) F B S T Dq15 Dq16 Dq31;have Sr:=dd qq35 bG fun _ F=>(Ia (by decide) F B S T Dq15 Dq16 Dq31).mono (show 11<=12 by decide);have Dq32:=dd qq32 bind1 fun _ F=>DP F B S T Dq29;have Dq33:=dd qq33 bind1 fun _ F=>Qu (by decide) F B Dq27 Dq32 Dq31;have Dq34:=dd qq34 bind1 fun _ F=>J6 (by decide) F B Dq28 Dq32 Dq31;have Dq21:=dd qq21 bind1 fun _ F=>DG ne F T Dw11;have Pc:=dm (ps:=ZO) UV qw11 (fun _ F=>F.binds fun _ _ _ _ _ _ us hl=>by obtain⟨x0,rfl⟩:=Fl hl;rfl) fun _ F=>yF ne F B T Dq21;have Dq67:=dd qq67 bind1 fun _ F=>Az (by decide) F B Dq30 Dq31 Dq35;have Dq68:=dd qq68 bind1 fun _ F=>qM (by decide) F B Dq30 Dq31 Sr Dq36;have Dq69:=dd qq69 fJ fun _ F=>tY (x:=xa) (by decide) F B Dq67 Dq68 Dq35 Dq36 SY;exact RM ne Fq70 B Dq37 Dq66 Dw11 Dq65 Pc Dq69 Dq31 Dq33 Dq34
def walk {l:W.OpenLaw}{q:Wi}{loose:D0}{XP:(Wt->DE)->WT->Prop}{YP:Wy->WT->Prop}{d:DefRec}{K:Params->Ww}(hn:l.most=some 63)(hdf:d.params.defaults=[])
  (hY:∀ (w:Wy) (h:WT),YP w h->(K w.params).In h)
  (F:∀ (w:Wy) (mg:Wt->DE) (fa:Addr) (h:WT),(K w.params).In h->h.Ns Wm mg->mg d.name=some (.ref fa) →
   ∃ fd:Xp,(∀ (s:VL) (u:Value),abX s fd ⟨[u],[]⟩ [("_law_script",u)])/\∀ base:WT,(K w.params).In base->base.Ns Wm mg->bh l.prog w (K w.params) mg base CX0 17 fa fd ZA (Ma (K w.params))) :
  W.WalkO q loose XP YP l.row.toRowW d [] (fun f vs=>PySem.call f vs) :=
 L2.O9 (n:=63) (k:=17) (x:="_law_script") (CX:=fun _=>CX0) (sp:=fun w=>Ma (K w.params)) hn (by decide) hdf ⟨U,by decide,by decide⟩ hY F (fun _ _ a ns hl _ hS=>⟨a,ns,U,hS,hl,fun _=>U⟩) fun _ _ _ _ _ z=>z
end My
end
open PySem PySem.W PyProof.Rows
namespace PySem.Challenge.cw_loveboon_k40_whole_one_by_one_in_any_ord_holds
def X:=trivial
def tw17054610258617019070:=X
def tw15540355367180972550:=X
def tw11741878977409211476:=X
def tw18364453733315784837:=X
def tw4870182319910617284:=X
def tw14506184837234858637:=X
def tw16410391053782224457:=X
def tw16255936359200593325:=X
def tw13200799737465730468:=X
def tw4537847315676940660:=X
def tw6031710445626747584:=X
def tw3426946100849891749:=X
def tw18023324395606946781:=X
def tw3055046019116055915:=X
def tw7757283886328191428:=X
def tw14531210715813331776:=X
def tw14394420361411347032:=X
def tw18265829124500298299:=X
def tw8252365406853628282:=X
def tw5144669905162598920:=X
def tw7120686869203157161:=X
def tw7042087490767041253:=X
def tw5484531981171646668:=X
def tw4089419852278667840:=X
def tw1859608975605734104:=X
def tw11989552429178581900:=X
def tw6041822571537264540:=X
def tw5763911313996848142:=X
def tw8044748891317041327:=X
def tw13907034750591336346:=X
def tw11824041892751538690:=X
def tw6983439507253218487:=X
def tw13231090761724202641:=X
def tw12109057946910918168:=X
def tw4095179432219640219:=X
def tw8705264724456465117:=X
def tw16446104283518904393:=X
def tw9643242862447102921:=X
def tw7210671400589615025:=X
def tw16983745914399907474:=X
def tw5677598442270528119:=X
def tw14911700907749797283:=X
def tw15342014311479689610:=X
def tw17241576341544325566:=X
def tw11816520934460919524:=X
def tw5536764416692183636:=X
def tw10213621529850942817:=X
def tw14724785204394215253:=X
def tw11397933693836374511:=X
def tw5137365573898782349:=X
def tw10243891997531652606:=X
def tw17856398803901089286:=X
def tw16174533290133803967:=X
def tw7359690473779723076:=X
def tw6390574958633007786:=X
def tw14821375822632868707:=X
def tw17713140896291904184:=X
def tw1094941669599602657:=X
def tw1168273807869228999:=X
def tw10757851286027008983:=X
def tw11215704184819037891:=X
def tw1757051162360166966:=X
def tw7899155765224304841:=X
def tw4597743654666284759:=X
def tw14715472637071829039:=X
def tw1362777270576247080:=X
def tw3437887089687283278:=X
def tw873104930240408186:=X
def tw7898678721479198700:=X
def tw543323934040784803:=X
def tw7458440857737922949:=X
def tw5869930822224631393:=X
def tw9448617528681819206:=X
def tw14881015886972977376:=X
def tw3017997701940162253:=X
def tw10733986577769977851:=X
def tw5688512444565650309:=X
def tw1638684188027231753:=X
def tw813084564491943420:=X
def tw3989577531375565070:=X
def tw10927557431457881595:=X
def tw16525669879072257550:=X
def tw16374655769104227231:=X
def tw5826690241862074252:=X
def tw16013477799299411334:=X
def tw6617318368692541330:=X
def tw4651026173342852067:=X
def tw11828125462115534932:=X
def tw11037844100799954146:=X
def tw15277864439946331615:=X
def tw11200375182570178797:=X
def tw9607293390818726410:=X
def tw3125449798621286494:=X
def tw14591048914018170179:=X
def tw5493318113143530626:=X
def tw3505706365634511457:=X
def tw15219272137987845288:=X
def tw7551844129116284439:=X
def tw9858097513138177906:=X
def tw13983254270951572803:=X
def tw10999959218393206858:=X
def tw14588208969317454661:=X
def tw16751570027726246586:=X
def tw5733552741280897351:=X
def tw12483896193862697458:=X
def tw11580360002078190159:=X
def tw14788826242638615823:=X
def tw10113425396505633095:=X
def tw17119109268228893832:=X
def tw9412364011723186053:=X
def tw13834403628607184218:=X
def tw17367881632135421787:=X
def tw5900469128680692904:=X
def tw1112712496328984528:=X
def tw7647545110923663037:=X
def tw7018258463868600861:=X
def tw8913743038694033449:=X
def tw18273994896227454530:=X
def tw4991901010280508732:=X
def tw4495923416168179905:=X
def tw17336902692273309552:=X
def tw18111850861432931442:=X
def tw4452198449632367375:=X
def tw1182833470466117753:=X
def tw7681223229299830653:=X
def tw11166029260860634874:=X
def tw2153157877258450085:=X
def tw9568693026610656697:=X
def tw15030430731707252095:=X
def tw6482298290973986676:=X
def tw6276434060919417461:=X
def tw5949353887309788925:=X
def tw10702685843525000864:=X
def tw702047824560575411:=X
def tw18260697825669362837:=X
def tw14143788355366144651:=X
def tw8451372601645747966:=X
def tw5708567837077492306:=X
def tw12714696251823750061:=X
def tw6297542267121797646:=X
def tw7062638470684539755:=X
def tw3715757208255205680:=X
def tw6295771303677659507:=X
def tw10876870063209053557:=X
def tw4865378916205721682:=X
def tw7686525294346292608:=X
def tw6915200764130180012:=X
def tw6485092446110765590:=X
def tw9046687818064548303:=X
def tw114223664247146707:=X
def tw3349333802613083993:=X
def tw1439063051310690566:=X
def tw3294460043510698790:=X
def tw5393220333205365573:=X
def tw14551001112968720872:=X
def tw4621715499728776719:=X
def tw10252106729614225956:=X
def tw9494120801077687850:=X
def tw2956763051626645844:=X
def tw14751767298356722675:=X
def tw2950053162852686584:=X
def tw11949580235723522594:=X
def tw12690247946976655980:=X
def tw6705087045758108278:=X
def tw3140942495149194019:=X
def tw17811328713521566181:=X
def tw13212462911541566178:=X
def tw6731300590511916733:=X
def tw2998437887485142206:=X
end PySem.Challenge.cw_loveboon_k40_whole_one_by_one_in_any_ord_holds
set_option maxRecDepth 100000 in
set_option maxHeartbeats 0 in
theorem PySem.Challenge.cw_loveboon_k40_whole_one_by_one_in_any_ord_holds : PySem.Challenge.rw_loveboon_k40_whole_one_by_one_in_any_ord.Holds := by
 w_on;o_law;k_head;(case hw=>w_witness2)
 k_fill
 refine My.walk (l:=PySem.Challenge.rw_loveboon_k40_whole_one_by_one_in_any_ord) U U (fun w h Y=>W.kIn_of Y) ?F
 case F =>
  intro w mg fa h KX G hmg
  refine' My.all_mk KX G hmg ?qw0 ?xga ?xty ?xrd ?xfd ?qw1 ?mrw1 ?qw2 ?mrw2 ?qw3 ?mrw3 ?qw4 ?mrw4 ?qw5 ?mrw5 ?qw8 ?mrw8 ?qw7 ?mrw7 ?qw6 ?mrw6 ?qw10 ?UK ?UI ?UM ?UH ?UY ?qw11 ?UF ?UE ?UD ?UR ?UP ?UO ?US ?UU ?UN ?UX ?UQ ?UV ?ne_Boonw10 ?qq1 ?qq2 ?qq3 ?qq4 ?qq5 ?qq6 ?qq7 ?qq8 ?qq9 ?qq10 ?qq11 ?qq12 ?qq13 ?qq14 ?qq15 ?qq16 ?qq17 ?qq18 ?qq19 ?qq20 ?qq21 ?qq22 ?qq23 ?qq24 ?qq25 ?qq26 ?qq27 ?qq28 ?qq29 ?qq30 ?qq31 ?qq32 ?qq33 ?qq34 ?qq35 ?qq36 ?qq37 ?qq38 ?qq39 ?qq40 ?qq41 ?qq42 ?qq43 ?qq44 ?qq45 ?qq46 ?qq47 ?qq48 ?qq49 ?qq50 ?qq51 ?qq52 ?qq53 ?qq54 ?qq55 ?qq56 ?qq57 ?qq58 ?qq59 ?qq60 ?qq61 ?qq62 ?qq63 ?qq64 ?qq65 ?qq66 ?qq67 ?qq68 ?qq69 ?qq70 ?U2 ?VO ?VQ ?U1 ?UZ ?VA ?VI ?VC ?z_len ?z_range ?z_all ?z_isinstance ?z_int ?z_bool ?z_str ?z_list ?z_tuple ?z_abs ?z_max ?z_min ?z_sum ?z_sorted ?z_zip ?z_reversed ?z_divmod ?z_set ?z_any ?z_enumerate ?z_ValueError ?z_dict
  (case qw0|qw1|qw2|qw3|qw4|qw5|qw8|qw7|qw6=>apply L2.dN.mk <;> first | exact⟨rfl,rfl,rfl,rfl⟩ | k_is | rfl)
  (case xga|xty|xrd|xfd=>k_is)
  (case mrw1|mrw2|mrw3|mrw4|mrw5|mrw8|mrw7|mrw6=>rfl)
  (case qw10=>apply L2.jE.mk <;> k_is)
  (case UK|UI|UM|UH=>k_is)
  (case UY=>apply L2.cF.mk <;> k_is)
  (case qw11=>apply L2.jE.mk <;> k_is)
  (case UF|UE|UD=>k_is)
  (case UR|UP|UO|US|UU|UN|UX|UQ|UV=>apply L2.cF.mk <;> k_is)
  (case ne_Boonw10=>decide)
  (case qq1|qq2|qq3|qq4|qq5|qq6|qq7|qq8|qq9|qq10|qq11|qq12|qq13|qq14|qq15|qq16|qq17|qq18|qq19|qq20|qq21|qq22|qq23|qq24|qq25|qq26|qq27|qq28|qq29|qq30|qq31|qq32|qq33|qq34|qq35|qq36|qq37|qq38|qq39|qq40|qq41|qq42|qq43|qq44|qq45|qq46|qq47|qq48|qq49|qq50|qq51|qq52|qq53|qq54|qq55|qq56|qq57|qq58|qq59|qq60|qq61|qq62|qq63|qq64|qq65|qq66|qq67|qq68|qq69|qq70=>apply L2.HasDef.mk <;> k_is)
  (case U2|VO|VQ|U1|UZ|VA|VI|VC|z_len|z_range|z_all|z_isinstance|z_int|z_bool|z_str|z_list|z_tuple|z_abs|z_max|z_min|z_sum|z_sorted|z_zip|z_reversed|z_divmod|z_set|z_any|z_enumerate|z_ValueError|z_dict=>k_is)
