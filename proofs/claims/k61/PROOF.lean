import PyProof.Rows.All
import KE.KSortTup
import KE.KPar
import KE.IntBitsLaws
import KE.KxBytes
import Wide.FinOn
import KE.KRevSl
import KE.KRevIter
import KE.RegKTryMore
import KE.KMinBuiltin
import KE.RegKIsAll
import KE.KIntText
import KE.IntTextText
import PySem.Challenge.RW_roundglass_k61_desk_for_ever
noncomputable section
open PySem.Str renaming ofString->a1B,empty->a3o,ofString_eq_toList->a3I
open PySem.W renaming Frag->a1C
open PySem renaming wpAny_bind->a1D,wpAny_pure->a1Q
open PySem.Heap renaming get?_push_of_some->a1E,lt_size->a1L,get?_push_size->a1P,get?_update_other->a2h,get?_update_self->a2s,size_push->a2D,get?_none_of_le->a3U,get?_update_ne->a39,get?_push_ne->a5m
open Nat renaming lt_of_lt_of_le->a1F,le_trans->a1N,lt_of_le_of_lt->a1R,le_refl->a1U,pow_le_pow_right->a1X,ne_of_lt->a14,zero_le->a2e,ne_of_gt->a2f,gcd->a2i,lt_irrefl->a2y,le_of_lt->a2M,mul_le_mul_right->a2W,pow_add->a2Y,div_le_self->a2Z,mul_lt_mul_of_lt_of_le->a23,lt_succ_self->a24,mul_lt_mul''->a26,pow_lt_pow_right->a3a,lt_or_ge->a3f,mul_comm->a3p,length_toDigits_le_iff->a3t,gcd_pos_of_pos_right->a3z,eq_zero_or_pos->a3A,le_mul_self->a3E,mul_le_mul->a3K,div_le_of_le_mul->a3X,mul_le_mul_left->a34,two_pow_pos->a35,min_eq_left->a38,gcd_comm->a4g,pow_succ->a4h,max_le->a4l,lt_trichotomy->a4m,dvd_lcm_right->a4o,gcd_dvd_right->a4r,log2_lt->a4u,pow_pos->a4w,mul_pos->a4x,lcm_pos->a4y,dvd_trans->a4z,mul_div_cancel_left->a4A,le_max_right->a4E,min_le_right->a4F,dvd_lcm_left->a4H,min_eq_right->a4I,le_of_eq->a4P,le_max_left->a4R,mul_ne_zero->a4T,zero_add->a4V,mod_lt->a40,le_succ->a46,pos_iff_ne_zero->a47,one_mul->a5c,le_of_dvd->a5e,mul_assoc->a5g,le_succ_of_le->a5o,add_zero->a5t,lcm->a5E
open Int renaming natAbs_natCast->a1G,natCast_inj->a1J,natAbs_mul->a2j,natAbs_neg->a2u,toNat_natCast->a2z,natCast_nonneg->a2J,mul_ne_zero->a20,emod_lt_of_pos->a3C,natCast_mul->a3F,mul_nonneg->a3L,mul_le_mul_of_nonneg_right->a3N,mul_le_mul_of_nonneg_left->a3S,emod_nonneg->a33,mul_eq_zero->a37,fmod_eq_emod_of_nonneg->a4c,sign_eq_neg_one_of_neg->a4d,fdiv_eq_ediv_of_nonneg->a4e,natAbs_ediv_le_natAbs->a4i,mul_ediv_cancel_left->a4n,natAbs_sub_le->a4p,toNat->a4q,eq_ofNat_of_zero_le->a4B,sign_eq_one_of_pos->a4K,neg_ediv_of_dvd->a49,mul_pos->a5b,natAbs_add_le->a5k,lt_or_le->a5q,le_of_lt->a5r,zero_mul->a5s,zero_sub->a5v,mul_neg->a5B
open List renaming length_map->a1H,getElem?_eq_some_iff->a1I,mem_of_getElem?->a1K,mem_cons_self->a1M,mem_cons_of_mem->a1O,getElem?_map->a1S,getElem?_eq_getElem->a1T,length_append->a1V,mem_cons->a1Y,map_cons->a1Z,mem_append->a10,map_append->a11,mem_singleton->a13,length_cons->a15,replicate->a16,mem_map->a17,size_toArray->a18,getD_eq_getElem?_getD->a2a,mem_append_right->a2b,range->a2c,append_nil->a2g,map_map->a2k,take_length->a2l,filter_cons_of_pos->a2m,length_reverse->a2n,take_succ_eq_append_getElem->a2p,length_take->a2q,mem_range->a2t,length_filter_le->a2w,not_mem_nil->a2x,take_add_one->a2B,getElem?_of_mem->a2C,length_drop->a2F,replicate_succ->a2G,append_assoc->a2H,getElem?_replicate->a2I,filter_append->a2K,mem_of_mem_take->a2L,takeWhile_cons_of_pos->a2N,take_of_length_le->a2O,getElem?_append_left->a2P,mem_filter->a2Q,map_nil->a2R,pairwise_cons->a2U,mem_append_left->a2V,filter_cons_of_neg->a2X,getElem?_append_right->a22,length_replicate->a28,length_zipIdx->a29,flatten_cons->a3b,foldl_append->a3d,length_range->a3e,map->a3g,eq_nil_of_length_eq_zero->a3i,mem_filterMap->a3k,map_inj_right->a3l,mem_zipIdx_iff_getElem?->a3m,getElem?_toArray->a3q,reverse_cons->a3r,dropWhile_cons_of_pos->a3u,zipIdx_cons->a3v,map_reverse->a3w,filterMap_cons->a3x,forIn_cons->a3B,length_nil->a3D,getElem?_set_self->a3G,length->a3J,getElem?_zipWith->a3M,ext_getElem->a3P,getElem_mem->a3Q,mem_reverse->a3R,cons_append->a3T,getElem?_set_ne->a3V,getElem?_append->a3W,mem_of_mem_drop->a3Y,nodup_cons->a3Z,of_mem_zip->a30,foldl_cons->a31,take_succ_cons->a32,zip_eq_zipWith->a36,map_congr_left->a4a,reverse_append->a4b,zip_cons_cons->a4f,forIn_nil->a4j,any_eq_false->a4k,all_cons->a4s,any_cons->a4t,sum_cons->a4C,map_take->a4D,map_zipWith->a4G,all_eq_true->a4J,range_succ_eq_map->a4L,drop_of_length_le->a4N,dropWhile_sublist->a4O,length_singleton->a4Q,sum_append->a4U,length_zip->a4W,find?_cons->a4X,mem_iff_getElem?->a4Y,getElem?_eq_none->a4Z,getElem?_mapIdx->a41,reverse_reverse->a42,drop_zero->a44,filter->a5a,getElem?_drop->a5h,forIn_toArray->a5i,getElem?_take->a5j,getElem?_set->a5n,sum_nil->a5u,lookup_cons->a5x,filter_cons->a5y,isEmpty_iff->a5z,map_id->a5C,foldl->a5D
open Rat renaming intCast_mul->a1W,intCast_natCast->a19,mul_nonneg->a2o,divInt->a2r,intCast_sub->a2E,natCast_mul->a21,intCast_add->a3c,mul_pos->a3h,divInt_eq_div->a3s,intCast_lt_intCast->a3H,mul_le_mul_of_nonneg_right->a3O,intCast_le_intCast->a4M,num_eq_zero->a4S,num_nonneg->a45,neg_num->a48,sub_eq_add_neg->a5d,mul_div_cancel->a5f,lt_iff->a5l,neg_den->a5A
open Bool renaming false_ne_true->a12,or_eq_true->a2S,false_eq_true->a2T,and_eq_true->a25,noConfusion->a27,and_false->a3j,eq_iff_iff->a3n,true_and->a4v,false_and->a43,not_eq_true'->a5p
open Option renaming map_eq_some_iff->a2d,isSome_iff_exists->a3y,getD_none->a5w
open Classical renaming byContradiction->a2v,propDecidable->a2A
set_option compiler.extract_closed false
set_option Elab.async false
set_option linter.all false
set_option maxRecDepth 100000
set_option bootstrap.genMatcherCode false
local macro_rules|`(tactic| rw[0])=>`(tactic| decide +kernel)
local macro_rules|`(tactic| omega)=>`(tactic| lia)
def AP.r(h:True:=by rfl):True:=h
def AP.d(h:True:=by decide):True:=h
open Lean.Parser.Command in
local macro_rules|`(command|$m:declModifiers $d:definition)=>do
 unless (m.raw.getArgs.all λx=>x.isNone) do Lean.Macro.throwUnsupported
 let e:Lean.Syntax:=d.raw.rewriteBottomUp λs=>let t:=s[3][0][2][0][0];let k:=t[0].getKind;let r:=k==``Lean.Parser.Tactic.tacticRfl;if s.isOfKind ``Lean.Parser.Term.explicitBinder&&t.getNumArgs==1&&(r||k==``Lean.Parser.Tactic.decide)then(s.setArg 3 Lean.mkNullNode).setArg 2 (s[2].setArg 1 (Lean.Syntax.mkApp (Lean.mkIdent `autoParam) #[⟨s[2][1]⟩,Lean.mkIdent (if r then `AP.r._auto_1 else `AP.d._auto_1)]))else s
 `(noncomputable $(⟨e⟩):definition)
local macro_rules|`(tactic| rw[10])=>`(tactic| first|exact .inl rfl|exact .inr rfl|assumption)
def Eq.inv{a b:α}(h:some a=some b):a=b:=Option.some.inj h
def PySem.Paired.inv{F:α->β->Prop}:Paired F xs us->match xs with|[]=>us=[]|x :: xs=>∃ u vs,us=u :: vs/\F x u/\Paired F xs vs
 | .nil=>rfl
 | .cons a b=>⟨_,_,rfl,a,b⟩
set_option hygiene false in
local macro_rules|`(tactic| cases $x:ident)=>`(tactic| first|obtain rfl:=$x|(have w:=($x).inv;clear $x;obtain rfl:=w))
set_option hygiene false in
local macro_rules|`(tactic| cases $x:ident with|$_:ident $a:ident $b:ident=>$t:tacticSeq)=>`(tactic| (have w:=($x).inv;clear $x;obtain⟨_,_,rfl,$a,$b⟩:=w;($t)))
local macro_rules|`(term| fun $ps*=>$e)=>do
 let k:=λ(s:String) (a:Array Lean.Syntax)=>Lean.Syntax.node .none ("Lean.Parser.Tactic."++s).toName a
 let n:=λ(s:Lean.Syntax)=>s.isOfKind ``Lean.Parser.Term.anonymousCtor
 unless ps.any (λp=>n p.raw)&&ps.all (λp=>(p.raw.find? λs=>!(s.isIdent||s.isAtom||n s||s.isOfKind `null||s.isOfKind ``Lean.Parser.Term.hole)).isNone)&&(e.raw.find? (·.isOfKind ``Lean.Parser.Term.syntheticHole)).isNone do Lean.Macro.throwUnsupported
 let c:=λ(s:Lean.Syntax)=>if s.isIdent then k "rcasesPat.one" #[s]else if n s then k "rcasesPat.tuple" #[s[0],Lean.mkNullNode (s[1].getArgs.map λx=>if x.isAtom then x else k "rcasesPatLo" #[k "rcasesPatMed" #[Lean.mkNullNode #[x]],Lean.mkNullNode]),s[2]]else if s.isOfKind ``Lean.Parser.Term.hole then k "rcasesPat.ignore" #[s[0]]else s
 let qs:=ps.map (λp=>(⟨k "rintroPat.one" #[p.raw.rewriteBottomUp c]⟩:Lean.TSyntax `rintroPat))
 `(by rintro $qs*;exact $e)
local macro_rules|`(command|#print $s:str)=>do
 let l:=s.getString.splitOn " "
 return Lean.mkNullNode (<- l.tail.toArray.mapM λi=>do
  let n:=Lean.mkIdent s!"tw{(s!"TP.{l.head!}_{i}").toName.hash}".toName
  return (<- `(command|theorem $n : True:=⟨⟩)).raw)
namespace PySem.W.Fast
def te5243831512834556789:True:=trivial
def tw17537275925052569232:True:=⟨⟩
#print "tree 47 63 78 93 108 123 138 153 168 221 302 382 467 538 622 698 775 803 843 929 987 1053"
#print "heap 46 1054"
#print "view 39"
#print "o 43 45 46 49 51 52 53 54 56 57 58 59 60 61 62 63 64 66 67 68 69 70 72 73 74 75 76 77 78 79 81 82 83 84 85 87 88 89 90 91 92 93 94 96 97 98 99 100 102 103 104 105 106 107 108 109 111 112 113 114 115 117 118 119 120 121 122 123 124 126 127 128 129 130 132 133 134 135 136 137 138 139 141 142 143 144 145 147 148 149 150 151 152 153 154 156 157 158 159 160 162 163 164 165 166 167 168 169 171 172 173 174 175 177 178 179 180 181 182 183 184 185 186 188 189 190 191 192 193 195 196 197 198 199 200 202 203 204 205 206 207 208 210 211 212 213 214 215 217 218 219 220 221 222 224 226 227 228 229 230 231 233 234 235 236 237 238 240 241 242 243 244 245 247 248 249 250 251 252 254 255 256 257 258 259 261 262 263 264 265 266 268 269 270 271 273 274 275 276 277 278 280 281 282 283 284 285 287 288 289 290 291 292 293 294 295 296 297 298 299 300 301 302 303 305 307 308 309 310 311 312 314 315 316 317 318 319 321 322 323 324 325 326 328 329 330 331 332 333 335 336 337 338 339 340 342 343 344 345 346 347 349 350 351 352 353 354 356 357 358 359 360 361 363 364 365 366 367 368 370 371 372 373 374 375 377 378 379 380 381 382 383 385 386 388 389 390 391 392 393 395 396 397 398 399 400 402 403 404 405 406 407 409 410 411 412 414 415 416 417 418 419 421 422 423 424 425 426 428 429 430 431 432 433 435 436 437 438 439 440 442 443 444 445 446 447 449 450 451 452 453 454 456 457 458 459 460 461 463 464 465 466 467 468 470 472 473 474 475 476 477 479 480 481 482 483 484 486 487 488 489 491 492 493 494 496 497 498 499 500 501 503 504 505 506 508 509 510 511 512 513 515 516 517 518 519 520 522 523 524 525 527 528 529 530 531 532 534 535 536 537 538 539 541 543 544 545 546 547 548 550 551 552 553 554 555 557 558 559 560 562 563 564 565 566 567 569 570 571 572 573 574 576 577 578 579 580 581 583 584 585 586 587 588 590 591 592 593 594 595 597 598 599 600 601 602 604 605 606 607 608 609 611 612 613 614 615 616 618 619 620 621 622 623 625 627 628 629 630 631 632 634 635 636 637 639 640 641 642 644 645 646 647 648 649 651 652 653 654 655 656 658 659 660 661 663 664 665 666 668 669 670 671 672 673 675 676 677 678 679 680 682 683 684 685 687 688 689 690 691 692 694 695 696 697 698 699 701 703 704 705 706 707 708 710 711 712 713 714 715 717 718 719 720 721 722 724 725 726 727 728 729 731 732 733 734 735 736 738 739 740 741 742 743 745 746 747 748 749 750 752 753 754 755 756 757 759 760 761 762 763 764 766 767 768 769 771 772 773 774 775 776 778 780 781 782 783 785 786 787 788 789 790 792 793 794 795 796 797 799 800 801 802 803 804 806 807 808 809 810 811 812 813 814 815 816 817 818 819 820 821 822 823 824 825 827 828 829 830 831 832 834 835 836 837 838 839 841 842 843 846 848 850 851 852 853 854 855 857 858 859 860 861 862 864 865 866 867 868 869 871 872 873 874 875 876 878 879 880 881 882 883 885 886 887 888 890 891 892 893 894 895 897 898 899 900 901 902 904 905 906 907 908 909 911 912 913 914 915 916 918 919 920 921 922 923 925 926 927 928 929 930 932 933 934 935 937 938 939 941 942 943 944 945 946 948 949 950 951 952 953 955 956 957 958 959 960 961 962 963 964 965 966 967 969 970 971 972 973 974 976 977 978 979 980 981 983 984 985 986 987 988 990 992 993 994 995 996 997 999 1000 1001 1002 1003 1004 1006 1007 1008 1009 1010 1011 1013 1014 1015 1016 1017 1018 1020 1021 1022 1023 1025 1026 1027 1028 1029 1030 1032 1033 1034 1035 1036 1037 1039 1040 1041 1042 1043 1044 1046 1047 1048 1049 1051 1052 1053"
#print "env 41"
#print "sts 49 64 79 94 109 124 139 154 169 222 303 383 468 539 623 699 776 804 846 930 988"
end PySem.W.Fast
section
open PySem PySem.W PyProof.Rows
set_option maxHeartbeats 0 in
open_top TP for PySem.Challenge.rw_roundglass_k61_desk_for_ever
end
namespace L2
open PySem PySem.Spec PyProof.Rows
abbrev Key:=Sum Int Str
def RA:Key->Value->Bool
 | .inl k,v=>Value.isInt k v
 | .inr x,v=>Value.isStrOf x v
def Zv(w:World):Key->Int
 | .inl k=>hashInt k
 | .inr x=>hashStr w x
def y4:∀{k:Key} {v:Value},RA k v=true->(∃ i t,k=Sum.inl i/\v=Value.int i t)\/(∃ x t,k=Sum.inr x/\v=Value.str x t)
 | .inl i,v,h=>by obtain⟨t,e⟩:=Value.isInt_shape h;exact .inl ⟨i,t,rfl,e⟩
 | .inr x,v,h=>by obtain⟨t,e⟩:=Value.isStrOf_shape h;exact .inr ⟨x,t,rfl,e⟩
def UC(a b:Int):decide ((Sum.inl a:Key)=Sum.inl b)=(a == b):=by grind
def Uz(a b:Str):decide ((Sum.inr a:Key)=Sum.inr b)=decide (a=b):=by simp
def UB(a:Int)(b:Str):decide ((Sum.inl a:Key)=Sum.inr b)=false:=decide_eq_false λq=>nomatch q
def UA(a:Str)(b:Int):decide ((Sum.inr a:Key)=Sum.inl b)=false:=decide_eq_false λq=>nomatch q
def Ox(prog:Program)(w:World):PySem.KeyKind prog w Key where
 is:=RA
 hash:=Zv w
 inj:=λv a b ha hb=>by
  rcases y4 ha with⟨i,t,rfl,rfl⟩|⟨x,t,rfl,rfl⟩
  ·rcases y4 hb with⟨j,u,rfl,e⟩|⟨y,u,rfl,e⟩
   ·injection e with e1 _;rw[e1]
   ·exact nomatch e
  ·rcases y4 hb with⟨j,u,rfl,e⟩|⟨y,u,rfl,e⟩
   ·exact nomatch e
   ·injection e with e1 _;rw[e1]
 byValue:=λk v h=>by rcases y4 h with⟨i,t,rfl,rfl⟩|⟨x,t,rfl,rfl⟩<;>rfl
 pyHash:=λhv h=>by
  rcases y4 hv with⟨i,t,rfl,rfl⟩|⟨x,t,rfl,rfl⟩
  ·exact wpAny_pyHash_int h
  ·exact wpAny_pyHash_str h
 eqBool:=λhu hv h=>by
  rcases y4 hu with⟨i,t,rfl,rfl⟩|⟨x,t,rfl,rfl⟩
  ·rcases y4 hv with⟨j,u,rfl,rfl⟩|⟨y,u,rfl,rfl⟩
   ·rw[UC]at h;exact wpAny_eqBool_int h
   ·rw[UB]at h;exact SeqAt.EqAt.int_str i t y u _ _ _ _ h
  ·rcases y4 hv with⟨j,u,rfl,rfl⟩|⟨y,u,rfl,rfl⟩
   ·rw[UA]at h;exact SeqAt.EqAt.str_int x t j u _ _ _ _ h
   ·rw[Uz]at h;exact wpAny_eqBool_str h
 «strs»:=λk x t v h=>by
  rcases y4 h with⟨i,u,rfl,e⟩|⟨y,u,rfl,e⟩
  ·exact nomatch e
  ·injection e with e1 _
   subst e1;cases v<;>rfl
inductive V where
 | non|bl (b:Bool)|int (i:Int)|str (x:Str)|byt (b:Array UInt8)|flt (b:UInt64)|ref (a:Addr)|ty (n:String)
 deriving DecidableEq
def l8:V->Value->Prop
 | .non,u=>u=Value.none
 | .bl b,u=>u=Value.bool b
 | .int i,u=>∃ t,u=Value.int i t
 | .str x,u=>∃ t,u=Value.str x t
 | .byt b,u=>∃ t,u=Value.bytes b t
 | .flt b,u=>∃ t,u=Value.float b t
 | .ref a,u=>u=Value.ref a
 | .ty n,u=>u=Value.type n
abbrev j8:List V->List Value->Prop:=Paired l8
theorem j8.length(r:j8 xs us):xs.length=us.length:=Paired.length r
theorem j8.get:∀{xs:List V} {us:List Value} {i:Nat} {x:V},j8 xs us->xs[i]? = some x->∃ u,us[i]? = some u/\l8 x u
 | _,_,_,_,.nil,e=>by simp at e
 | _,_,0,_,.cons r _,e=>by simp at e;subst e;exact⟨_,rfl,r⟩
 | _,_,i+1,x,.cons _ t,e=>by obtain⟨u,h1,h2⟩:=j8.get t (by simpa using e);exact⟨u,by simpa using h1,h2⟩
theorem j8.set(r:l8 x u):∀{xs:List V} {us:List Value} (i:Nat),j8 xs us->j8 (xs.set i x) (us.set i u)
 | _,_,_,.nil=>.nil
 | _,_,0,.cons _ t=>.cons r t
 | _,_,i+1,.cons q t=>.cons q<|j8.set r i t
theorem j8.append:∀{xs ys:List V} {us ws:List Value},j8 xs us->j8 ys ws->j8 (xs++ys) (us++ws)
 | _,_,_,_,.nil,s=>s
 | _,_,_,_,.cons r t,s=>.cons r<|j8.append t s
theorem j8.take:∀{xs:List V} {us:List Value} n,j8 xs us->j8 (xs.take n) (us.take n)
 | _,_,0,_=>.nil
 | _,_,_+1,.nil=>.nil
 | _,_,n+1,.cons r t=>.cons r<|j8.take n t
theorem j8.drop:∀{xs:List V} {us:List Value} n,j8 xs us->j8 (xs.drop n) (us.drop n)
 | _,_,0,r=>r
 | _,_,_+1,.nil=>.nil
 | _,_,n+1,.cons _ t=>j8.drop n t
def pb:Option V->Option Value->Prop
 | some v,some u=>l8 v u
 | none,none=>True
 | _,_=>False
def KV:List (κ × V)->List (κ × Value)->Prop:=Paired λ(p:κ × V) (q:κ × Value)=>p.1=q.1/\l8 p.2 q.2
inductive HO where
 | lst (xs:List V)
 | tup (xs:List V)
 | dK (kvs:List (Key × V))|dT (hs:(List Int × List Int->Int) × Option Nat) (kvs:List ((List Int × List Int) × Addr × V))
 | set (S:Int->Bool) (n:Nat)
 | ins (C dx:Addr) (fs:List (Str × V))
 | own (x:Addr)
 | xd (fs:List (Str × V))
 | met (f x:Addr)
 | rng (lo hi:Int)
 | frz (o:Obj) (u:HO)
 | tbl (ps:Array Value)
 | ext (φ:Heap->Prop)
abbrev Hp:=Addr->Option HO
def upd(H:Hp)(a:Addr)(o:HO):Hp:=λb=>if b=a then some o else H b
def i5:upd H a o a=some o:=by simp[if_pos,upd]
theorem g8(h:b≠a):upd H a o b=H b:=by unfold upd;rw[if_neg h]
def cZ:upd (upd H a o) a u=upd H a u:=by funext b;unfold upd;split<;>rfl
def C4{H:Hp}{a b:Addr}{o:HO}(h:H a=some o)(h':H b=none):a≠b:=by intro e;subst e;rw[h]at h';cases h'
section
variable (P:Program) (w:World)
def D5(H:Hp)(h:Heap)(a:Addr):HO->Prop
 | .lst xs=>xs.length<=sizeLine/\∃(its:List Value) (n:Nat),j8 xs its/\h.get? a=some { cls:=.type "list",data:=.seq its.toArray n }
 | .tup xs=>xs.length<=sizeLine/\∃ its:List Value,j8 xs its/\IsTup h a its.toArray
 | .dK kvs=>kvs.length<=sizeLine/\(a == sysModules)=false/\∃ vs,KV kvs vs/\h.DictOf (Ox P w) a vs
 | .dT hs kvs=>kvs.length<=sizeLine/\(a == sysModules)=false/\∃ xs:List ((List Int × List Int) × Addr × Value),
   Paired (λ(p:(List Int × List Int) × Addr × V) (q:(List Int × List Int) × Addr × Value)=>p.1=q.1/\p.2.1=q.2.1/\l8 p.2.2 q.2.2) kvs xs /\
   ∃ o es ep,h.get? a=some o/\o.ExactDict/\o.data = .dict es ep/\es.toList=xs.map (λx=>(⟨hs.1 x.1,.ref x.2.1,x.2.2⟩:DictEntry))/\(xs.map (·.1)).Nodup/\∀ n,hs.2=some n->n=ep
 | .set S n=>h.SetOf (intKind P w) a S n
 | .ins C dx fs=>H dx=some (.own a)/\fs.length<=1000/\dx≠a/\h.get? a=some (PySem.W.instObj C dx) /\
   ∃ mA,h.Ns1 dx mA/\(∀ f,pb (fs.lookup f)<|mA f)/\PySem.Within mA (fs.map (·.1))
 | .own _=>∃ o,h.get? a=some o
 | .xd fs=>∃ mA,h.Ns1 a mA/\∀ f,pb (fs.lookup f)<|mA f
 | .rng lo hi=>∃ t u v,h.get? a=some { cls:=.type "range",data:=.fields #[.int lo t,.int hi u,.int 1 v] }
 | .frz o u=>h.get? a=some o/\D5 H h a u
 | .tbl ps=>h.get? a=some { cls:=.none,data:=.fields ps }
 | .met f x=>h.get? a=some (PySem.W.methodObj (.ref f)<|.ref x)
 | .ext φ=>φ h/\(∃ o,h.get? a=some o)/\∀ h1 h2:Heap,φ h1->(∀ o,h1.get? a=some o->h2.get? a=some o)->φ h2
def HOk(H:Hp)(h:Heap):Prop:=∀ a o,H a=some o->D5 P w H h a o
end
def D5.lt(x:D5 P w H h a o):a<h.objs.size:=by
 cases o with
 | lst xs=>obtain⟨_,_,_,_,e⟩:=x;exact a1L e
 | tup xs=>obtain⟨_,_,_,p⟩:=x;exact p.lt
 | dK kvs=>obtain⟨_,_,_,_,o,_,_,e,_⟩:=x;exact a1L e
 | dT hs kvs=>obtain⟨_,_,_,_,o,_,_,e,_⟩:=x;exact a1L e
 | set S n=>obtain⟨o,_,_,_,e,_⟩:=x;exact a1L e
 | ins C dx fs=>obtain⟨_,_,_,e,_⟩:=x;exact a1L e
 | own y=>obtain⟨_,e⟩:=x;exact a1L e
 | xd fs=>obtain⟨_,⟨_,_,_,e,_⟩,_⟩:=x;exact a1L e
 | rng lo hi=>obtain⟨_,_,_,e⟩:=x;exact a1L e
 | frz ob u=>obtain⟨e,_⟩:=x;exact a1L e
 | tbl ps=>exact a1L<|x
 | met f y=>exact a1L<|x
 | ext φ=>obtain⟨_,⟨_,e⟩,_⟩:=x;exact a1L e
def D5.stay(x:D5 P w H h a o)(k:∀ b u,(b=a\/H b=some (.own a))->h.get? b=some u->h'.get? b=some u)
  (ho:∀ b,H b=some (.own a)->H' b=some (.own a)) (ht:∀ b xs,H b=some (.tup xs)->H' b=some (.tup xs)):D5 P w H' h' a o:=by
 induction o with
 | lst xs=>obtain⟨z,its,n,r,e⟩:=x;exact⟨z,its,n,r,k _ _ (.inl rfl) e⟩
 | tup xs=>obtain⟨z,its,r,ob,e,c⟩:=x;exact⟨z,its,r,ob,k _ _ (.inl rfl) e,c⟩
 | dK kvs=>obtain⟨z,y,vs,r,ob,es,ep,e,c⟩:=x;exact⟨z,y,vs,r,ob,es,ep,k _ _ (.inl rfl) e,c⟩
 | dT hs kvs =>
  obtain⟨z,y,xs,r,ob,es,ep,e,c⟩:=x
  exact⟨z,y,xs,r,ob,es,ep,k _ _ (.inl rfl) e,c⟩
 | set S n=>obtain⟨ob,es,ep,t,e,c⟩:=x;exact⟨ob,es,ep,t,k _ _ (.inl rfl) e,c⟩
 | ins C dx fs =>
  obtain⟨d,z,ne,e,mA,⟨od,es,ep,e2,c⟩,r⟩:=x
  exact⟨ho _ d,z,ne,k _ _ (.inl rfl) e,mA,⟨od,es,ep,k _ _ (.inr d) e2,c⟩,r⟩
 | own y=>obtain⟨ob,e⟩:=x;exact⟨ob,k _ _ (.inl rfl) e⟩
 | xd fs=>obtain⟨mA,⟨od,es,ep,e,c⟩,r⟩:=x;exact⟨mA,⟨od,es,ep,k _ _ (.inl rfl) e,c⟩,r⟩
 | rng lo hi=>obtain⟨t,u,v,e⟩:=x;exact⟨t,u,v,k _ _ (.inl rfl) e⟩
 | frz ob u ih=>obtain⟨e,q⟩:=x;exact⟨k _ _ (.inl rfl) e,ih q⟩
 | tbl ps =>
  have e:=x
  show h'.get? a=some { cls:=.none,data:=.fields ps }
  exact k a _ (.inl rfl) e
 | met f y =>
  have e:=x
  show h'.get? a=some (PySem.W.methodObj (.ref f)<|.ref y)
  exact k a _ (.inl rfl) e
 | ext φ=>obtain⟨p,⟨o,e⟩,st⟩:=x;exact⟨st _ _ p λo q=>k _ _ (.inl rfl) q,⟨o,k _ _ (.inl rfl) e⟩,st⟩
def HOk.lt(x:HOk P w H h)(e:H a=some o):a<h.objs.size:=(x a o e).lt
def HOk.fresh(x:HOk P w H h)(e:h.objs.size<=a):H a=none:=by
 cases q:H a with
 | none=>rfl
 | some u=>exact absurd (a1F (x.lt q) e)<|a2y _
def HOk.kept(x:HOk P w H h)(k:∀ b u,h.get? b=some u->h'.get? b=some u):HOk P w H h':=λa o e =>
 (x a o e).stay (λb u _ q=>k b u q) (λ_ q=>q) λ_ _ q=>q
def HOk.laid(x:HOk P w H h)(k:∀ b u,h.get? b=some u->h'.get? b=some u)(hp:h.objs.size<=a)(new:D5 P w (upd H a o) h' a o):HOk P w (upd H a o) h':=λb u e=>by
 have hn:=x.fresh hp;by_cases hb:b=a
 ·simp_all [i5]
 ·rw[g8 hb]at e;exact(x b u e).stay (λc v _ q=>k c v q) (λc q=>by rw[g8<|C4 q hn];exact q) λc xs q=>by rw[g8<|C4 q hn];exact q
def Rd(H:Hp)(a:Addr)(u:HO):Prop:=H a=some u \/ ∃ o,H a=some (.frz o u)
def Rd.of(h:H a=some u):Rd H a u:=.inl h
def Rd.ok(r:Rd H a u)(x:HOk P w H h):D5 P w H h a u:=by
 rcases r with r|⟨o,r⟩
 ·exact x a u r
 ·obtain⟨_,q⟩:=x a _ r;exact q
def Mut:Option HO->Prop
 | some (.lst _)=>True
 | some (.dK _)=>True
 | some (.dT _ _)=>True
 | some (.set _ _)=>True
 | some (.ins _ _ _)=>True
 | some (.ext _)=>True
 | _=>False
def HOk.write(ok:HOk P w H h)(mu:Mut (H x))(he:e=x\/H e=some (.own x))(k:∀ b u,b≠e->h.get? b=some u->h'.get? b=some u)(heo:∃ u,h'.get? e=some u)
  (new:D5 P w (upd H x o') h' x o'):HOk P w (upd H x o') h':=λb u q=>by
 have nown:∀ c y,H c=some (.own y)->c≠x:=λc y r z=>by subst z;rw[r]at mu;exact mu
 have ntup:∀ c xs,H c=some (.tup xs)->c≠x:=λc xs r z=>by subst z;rw[r]at mu;exact mu
 by_cases hb:b=x
 ·subst hb;rw[i5]at q;cases q;exact new
 ·rw[g8 hb]at q
  by_cases hbe:b=e
  ·have q':H b=some (.own x):=by
    rcases he with z|z
    ·exact absurd (hbe.trans z) hb
    ·rw[hbe];exact z
   rw[q]at q';cases q'
   obtain⟨v,hv⟩:=heo
   exact⟨v,by rw[hbe];exact hv⟩
  ·refine(ok b u q).stay (λc v hc r=>k c v ?_ r) (λc r=>by rw[g8<|nown c b r];exact r) λc xs r=>by rw[g8<|ntup c xs r];exact r
   rcases hc with rfl|hc
   ·exact hbe
   ·rintro rfl
    rcases he with z|z
    ·exact nown c b hc z
    ·rw[hc]at z;cases z;exact hb rfl
structure Un(fs ex:List Addr)(H H':Hp)(h h':Heap):Prop where
 keep:∀ b o,h.get? b=some o->H b=none->b∉fs->b∉ex->h'.get? b=some o
 slot:∀ b o,h.get? b=some o->H b=none->b∈fs->b∉ex->∃ sl,h'.get? b=some { o with slots:=sl }
 free:∀ b o,h.get? b=some o->H b=none->b∉ex->H' b=none
 there:∀ b o,h.get? b=some o->b∉ex->∃ o',h'.get? b=some o'
 tups:∀ b xs,H b=some (.tup xs)->H' b=some (.tup xs)
 frzs:∀ b o u,H b=some (.frz o u)->H' b=some (.frz o u)
 tbls:∀ b ps,H b=some (.tbl ps)->∃ more,H' b=some (.tbl (ps++more))
def Un.any(u:Un fs ex H H1 h h1)(q:h.get? b=some ob)(n:H b=none)(hx:b∉ex):∃ sl,h1.get? b=some { ob with slots:=sl }:=by
 by_cases hb:b∈fs
 ·exact u.slot b ob q n hb hx
 ·exact⟨ob.slots,u.keep b ob q n hb hx⟩
def Un.kept(k:∀ b u,h.get? b=some u->h'.get? b=some u):Un fs ex H H h h' :=
 ⟨λb ob q _ _ _=>k b ob q,λb ob q _ _ _=>⟨ob.slots,k b ob q⟩,λ_ _ _ n _=>n,λb ob q _=>⟨ob,k b ob q⟩,λ_ _ q=>q,λ_ _ _ q=>q,λ_ ps q=>⟨#[],by rw[q];simp⟩⟩
def Un.refl:Un fs ex H H h h:=Un.kept λ_ _ q=>q
def Un.laid(k:∀ b u,h.get? b=some u->h'.get? b=some u)(hp:h.objs.size<=a)(hn:H a=none):Un fs ex H (upd H a o) h h' where
 keep:=λb u q _ _ _=>k b u q
 slot:=λb u q _ _ _=>⟨u.slots,k b u q⟩
 free:=λb u q n _=>by rw[g8<|a14<|a1F (a1L q) hp];exact n
 there:=λb u q _=>⟨u,k b u q⟩
 tups:=λb xs q=>by rw[g8<|C4 q hn];exact q
 frzs:=λb u xs q=>by rw[g8<|C4 q hn];exact q
 tbls:=λb ps q=>⟨#[],by rw[g8<|C4 q hn,q];simp⟩
def Un.write(mu:Mut (H x))(he:e=x\/H e=some (.own x))(k:∀ b u,b≠e->h.get? b=some u->h'.get? b=some u)(heo:∃ u,h'.get? e=some u):Un fs ex H (upd H x o) h h':=by
 have hx:∀ b,H b=none->b≠x:=λb n z=>by subst z;rw[n]at mu;exact mu
 have hb:∀ b,H b=none->b≠e:=λb n z=>by
  subst z;rcases he with r|r
  ·exact hx b n r
  ·rw[n]at r;cases r
 have hm:∀ b u,H b=some u->¬ Mut (some u)->b≠x:=λb u q nm z=>by subst z;rw[q]at mu;exact nm mu
 refine⟨λb u q n _ _=>k b u (hb b n) q,λb u q n _ _=>⟨u.slots,k b u (hb b n) q⟩,λb u q n _=>by rw[g8<|hx b n];exact n,λb u q _=>?_,
  λb xs q=>by rw[g8<|hm b _ q λz=>z];exact q,λb u xs q=>by rw[g8<|hm b _ q λz=>z];exact q,λb ps q=>⟨#[],by rw[g8<|hm b _ q λz=>z,q];simp⟩⟩
 by_cases hbe:b=e
 ·subst hbe;exact heo
 ·exact⟨u,k b u hbe q⟩
def trk(h:Heap)(H:Hp):List Addr:=(a2c h.objs.size).filter λa=>(H a).isSome
def sZ(h:Heap)(H:Hp):Heap:=PySem.W.hideAll h<|trk h H
def DX(h:Heap)(H:Hp):(sZ h H).objs.size=h.objs.size:=PySem.W.hideAll_size _ _
def Jv(e:h.get? b=some o)(n:H b=none):(sZ h H).get? b=some o :=
 PySem.W.hideAll_get _ e λhm=>by have q:=(a2Q.mp hm).2;rw[n]at q;simp at q
def Om(e:(sZ h H).get? b=some o):h.get? b=some o/\H b=none:=by
 have e':=PySem.W.of_hideAll (trk h H) e;refine⟨e',?_⟩;cases q:H b with
 | none=>rfl
 | some x =>have hm:b∈trk h H:=a2Q.mpr ⟨a2t.mpr<|a1L e',by simp[q]⟩;have z:(sZ h H).get? b=none:=PySem.W.hideAll_none (trk h H) hm;rw[z]at e;cases e
def tV(g h:Heap)(L:Addr):List (Addr × Obj):=(a2c h.objs.size).filterMap λa=>if a=L\/(g.get? a).isSome=true then none else(h.get? a).map λo=>(a,o)
def ak(h1:a≠L)(h2:g.get? a=none)(h3:h.get? a=some o):(a,o)∈tV g h L :=
 a3k.mpr ⟨a,a2t.mpr<|a1L h3,by simp[h1,h2,h3]⟩
def mH(hp:p∈tV g h L):p.1≠L/\g.get? p.1=none/\h.get? p.1=some p.2:=by
 obtain⟨b,_,e⟩:=a3k.mp hp;split at e
 ·cases e
 ·rename_i hn
  cases q:h.get? b with
  | none=>rw[q]at e;simp at e
  | some u =>rw[q]at e;simp at e;subst e;simp_all
def IW:News g L h (tV g h L):=λp hp=>let ⟨a,b,c⟩:=mH hp;⟨c,a,b⟩
structure Mod(K:a1C)(mg:Str->Option Value)(base:Heap):Prop where
 kin:K.In base
 glob:base.Ns mainGlobals mg
 blt:∃ mb,base.Ns builtinsNs mb/\∀ x:Str,x ≠ "__name__" -> mb x=bootBuiltins x
 nolimit:base.NoLimit
structure Cx where
 prog:Program
 w:World
 K:a1C
 mg:Str->Option Value
 base:Heap
 A:Around
 N:List Str
 s₀:Shared
 H₀:Hp
 env:Env
 outer:List Env
 stack:List Env
 ex:List Addr
 fn:Str->Bool
 calm:Bool
 pn:List (Addr × Obj)
 xe:Value->Shared->Prop
def frs(l:List Env):List Addr:=l.filterMap (·.frame)
abbrev Cx.fs(X:Cx):List Addr:=frs X.outer
def Vis(sc:Scope)(x:Str):Prop:=sc.names.lookup x=some .local\/sc.names.lookup x=some .cell\/sc.names.lookup x=some .free
def Loc(sc:Scope)(x:Str):Prop:=sc.names.lookup x=some .local\/sc.names.lookup x=some .cell
def ZJ(env:Env)(h:Heap)(m:Str->Option Value)(x:Str)(u:Value):Prop :=
 (env.kindOf x=some .local/\m x=some u)\/((env.kindOf x=some .cell\/env.kindOf x=some .free)/\∃ c,env.cells.lookup x=some c/\h.IsCell c (some u))
structure Cx.Ok(X:Cx):Prop where
 mod:Mod X.K X.mg X.base
 kind:X.env.scope.kind = .function
 glob:X.env.globals=mainGlobals
 blt:X.env.builtins=builtinsNs
 above:X.s₀.heap.objs.size<=X.env.locals
 inj:∀ x y c,X.env.cells.lookup x=some c->X.env.cells.lookup y=some c->x=y
 has:∀ x,(X.env.kindOf x=some .cell\/X.env.kindOf x=some .free)->∃ c,X.env.cells.lookup x=some c
 cab:∀ x c,X.fn x=true->X.env.cells.lookup x=some c->X.s₀.heap.objs.size<=c
 hd:X.calm=true->X.A.handled=none
 frames:X.A.frames=some X.stack
 stk:X.stack=X.outer\/(X.stack=X.env :: X.outer/\X.env.frame=some X.env.locals)
 exf:∀ b∈X.ex,b≠X.env.locals/\∀ x c,X.env.cells.lookup x=some c->c≠b
 bs:∀ b o,X.base.get? b=some o->X.s₀.heap.get? b=some o/\X.H₀ b=none
 bsz:X.base.objs.size<=X.s₀.heap.objs.size
 noex:∀ b o,X.base.get? b=some o->b∉X.ex
 exfs:∀ b∈X.ex,b∉X.fs
 funs:X.s₀.heap.FunFrames X.base X.outer
 frf:∀ b∈X.fs,X.H₀ b=none
structure Inv(X:Cx)(pins:List (Addr × Obj))(σ:List (Option V))(H:Hp)(s:Shared):Prop where
 ok:X.Ok
 os:s.os=X.s₀.os
 bare:AllBare s.gens
 base:Un X.fs X.ex X.H₀ H X.s₀.heap s.heap
 loc:∃ m,s.heap.Ns X.env.locals m/\∀(i:Nat) (x:Str) (v:V),X.N[i]? = some x->σ[i]? = some (some v)->Vis X.env.scope x->∃ u,l8 v u/\ZJ X.env s.heap m x u
 cell:∀ x c,X.env.cells.lookup x=some c->∃ v,s.heap.IsCell c v
 free:H X.env.locals=none
 freeC:∀ x c,X.env.cells.lookup x=some c->H c=none
 pin:∀ p∈X.pn++pins,s.heap.get? p.1=some p.2/\H p.1=none/\p.1≠X.env.locals/\p.1∉X.fs/\∀ v,p.2.data ≠ .cell v
 hok:HOk X.prog X.w H s.heap
 len:σ.length=X.N.length
section
variable {X:Cx} {pins:List (Addr × Obj)} {σ:List (Option V)} {H H':Hp} {s:Shared}
def Cx.Ok.nofr(ok:X.Ok)(e:X.base.get? b=some o):b∉X.fs:=λhb=>by have:=(ok.funs.mem hb).1;rw[e]at this;cases this
def Inv.bs(I:Inv X pins σ H s):∀ b o,X.base.get? b=some o->s.heap.get? b=some o/\H b=none:=λb o e =>
 ⟨I.base.keep b o (I.ok.bs b o e).1 (I.ok.bs b o e).2 (I.ok.nofr e)<|I.ok.noex b o e,I.base.free b o (I.ok.bs b o e).1 (I.ok.bs b o e).2<|I.ok.noex b o e⟩
def Inv.bk(I:Inv X pins σ H s):∀ b o,X.base.get? b=some o->s.heap.get? b=some o:=λb o e=>(I.bs b o e).1
def Inv.mod(I:Inv X pins σ H s):Mod X.K X.mg X.base:=I.ok.mod
def Inv.kIn(I:Inv X pins σ H s):X.K.In s.heap:=I.ok.mod.kin.keeps I.bk
def Inv.fr(I:Inv X pins σ H s):∃ m,Fr X.base X.env.locals s.heap m :=
 let ⟨m,hn,_⟩:=I.loc
 ⟨m,hn,I.bk,a1N I.ok.bsz I.ok.above⟩
def Inv.lt(I:Inv X pins σ H s):X.env.locals<s.heap.objs.size:=let ⟨_,hn,_⟩:=I.loc;hn.lt
theorem Inv.sz(I:Inv X pins σ H s):X.s₀.heap.objs.size<=s.heap.objs.size:=a1N I.ok.above<|a2M I.lt
def Inv.nofs(I:Inv X pins σ H s)(h:s.heap.objs.size<=a):a∉X.fs:=λhb=>by obtain⟨_,o,ho,_⟩:=I.ok.funs.mem hb;exact absurd (a1F (a1L ho)<|a1N I.sz h)<|a2y _
def Inv.cne(I:Inv X pins σ H s):∀ x c,X.env.cells.lookup x=some c->c≠X.env.locals:=λx c e z=>by obtain⟨v,o,ho,hd⟩:=I.cell x c e;obtain⟨m,⟨o',es,ep,ho',hd',_⟩,_⟩:=I.loc;rw[z,ho']at ho;cases ho;rw[hd']at hd;cases hd
def Inv.funs(I:Inv X pins σ H s):s.heap.FunFrames X.base X.outer:=by
 have all:∀ l,(∀ b∈frs l,b∈X.fs)->X.s₀.heap.FunFrames X.base l->s.heap.FunFrames X.base l:=by
  intro l;induction l with
  | nil=>intro _ _;trivial
  | cons env r ih =>intro hs hl;obtain⟨hk,⟨L,o,hf,hn,ho,hd⟩,hr⟩:=hl;have hL:=hs L (by unfold frs;rw[a3x,hf];exact a1M);obtain⟨sl,e⟩:=I.base.slot L o ho (I.ok.frf L hL) hL λz=>I.ok.exfs L z hL;exact⟨hk,⟨L,_,hf,hn,e,hd⟩,ih (λb hb=>hs b<|by unfold frs;rw[a3x,hf];exact a1O _ hb) hr⟩
 exact all X.outer (λ_ hb=>hb) I.ok.funs
def Inv.stack(I:Inv X pins σ H s):s.heap.FunFrames X.base X.stack:=by
 rcases I.ok.stk with e|⟨e,hf⟩
 ·rw[e];exact I.funs
 ·rw[e];obtain⟨m,hn,_⟩:=I.loc;refine .cons (by rw[I.ok.kind];decide) hf hn ?_ I.funs;exact a3U<|a1N I.ok.bsz I.ok.above
def Inv.stkSub(I:Inv X pins σ H s):∀ b∈frs X.stack,b∈X.env.locals :: X.fs:=λb hb=>by rcases I.ok.stk with e|⟨e,hf⟩;all_goals simp_all [a1O,a3x,frs]
def Inv.stkFree(I:Inv X pins σ H s):∀ b∈frs X.stack,H b=none:=λb hb=>by
 rcases a1Y.mp (I.stkSub b hb)with e|hb
 ·rw[e];exact I.free
 ·obtain⟨_,o,ho,_⟩:=I.ok.funs.mem hb;exact I.base.free b o ho (I.ok.frf b hb) λz=>I.ok.exfs b z hb
def Inv.step{g':Array GenState}{t':Nat}{d':Drawn}{ch:List Addr}(I:Inv X pins σ H s)
  (hch:∀ b∈ch,(b∈X.ex\/X.s₀.heap.objs.size<=b)/\b≠X.env.locals/\(∀ x c,X.env.cells.lookup x=some c->c≠b)/\∀ p∈X.pn++pins,p.1≠b)
  (keep:∀ b o,b≠X.env.locals->b∉X.fs->b∉ch->s.heap.get? b=some o->H b=none->h'.get? b=some o)
  (slot:∀ b o,b≠X.env.locals->b∈X.fs->b∉ch->s.heap.get? b=some o->H b=none->∃ sl,h'.get? b=some { o with slots:=sl }) (free:∀ b o,b∉ch->s.heap.get? b=some o->H b=none->H' b=none)
  (there:∀ b o,b∉ch->s.heap.get? b=some o->∃ o',h'.get? b=some o')
  (tups:∀ b xs,H b=some (.tup xs)->H' b=some (.tup xs)) (frzs:∀ b o u,H b=some (.frz o u)->H' b=some (.frz o u)) (tbls:∀ b ps,H b=some (.tbl ps)->∃ more,H' b=some (.tbl<|ps++more))
  (ns:∀ m,s.heap.Ns X.env.locals m->h'.Ns X.env.locals m) (hok:HOk X.prog X.w H' h') (hg:AllBare g') :
  Inv X pins σ H' { s with heap:=h',gens:=g',drawn:=d',toks:=t' }:=by
 have neL:∀ b o,X.s₀.heap.get? b=some o->b≠X.env.locals:=λb o e=>a14<|a1F (a1L e) I.ok.above
 have neC:∀ b o,X.s₀.heap.get? b=some o->b∉X.ex->b∉ch:=λb o e hx hb=>by
  rcases(hch b hb).1 with z|z
  ·exact hx z
  ·exact absurd (a1F (a1L e) z)<|a2y _
 have cellK:∀ x c,X.env.cells.lookup x=some c->∀ v,s.heap.IsCell c v->h'.IsCell c v:=λx c e v zz=>by
  obtain⟨o,ho,hd⟩:=zz;have nch:c∉ch:=λz=>(hch c z).2.2.1 x c e rfl;by_cases hc:c∈X.fs
  ·obtain⟨sl,q⟩:=slot c o (I.cne x c e) hc nch ho<|I.freeC x c e;exact⟨_,q,hd⟩
  ·exact⟨o,keep c o (I.cne x c e) hc nch ho<|I.freeC x c e,hd⟩
 refine⟨I.ok,I.os,hg,⟨λb o e n hb hx=>?_,λb o e n hb hx=>?_,λb o e n hx=>?_,λb o e hx=>?_,λb xs e=>tups b xs<|I.base.tups b xs e,λb o xs e=>frzs b o xs<|I.base.frzs b o xs e,λb ps e=>?_⟩,?_,λx c e=>?_,?_,λx c e=>?_,λp hp=>?_,hok,I.len⟩
 ·exact keep b o (neL b o e) hb (neC b o e hx) (I.base.keep b o e n hb hx)<|I.base.free b o e n hx
 ·obtain⟨sl,e1⟩:=I.base.slot b o e n hb hx
  obtain⟨sl',e2⟩:=slot b _ (neL b o e) hb (neC b o e hx) e1<|I.base.free b o e n hx
  exact⟨sl',e2⟩
 ·obtain⟨o',e1⟩:=I.base.there b o e hx
  exact free b o' (neC b o e hx) e1<|I.base.free b o e n hx
 ·obtain⟨o',e1⟩:=I.base.there b o e hx
  exact there b o' (neC b o e hx) e1
 ·obtain⟨m1,e1⟩:=I.base.tbls b ps e
  obtain⟨m2,e2⟩:=tbls b _ e1
  exact⟨m1++m2,by rw[e2,Array.append_assoc]⟩
 ·obtain⟨m,hn,hl⟩:=I.loc
  refine⟨m,ns m hn,λi x v e1 e2 e3=>?_⟩
  obtain⟨u,r,l⟩:=hl i x v e1 e2 e3
  refine⟨u,r,?_⟩
  rcases l with l|⟨k,c,e,z⟩
  ·exact .inl l
  ·exact .inr ⟨k,c,e,cellK x c e _ z⟩
 ·obtain⟨v,z⟩:=I.cell x c e
  exact⟨v,cellK x c e v z⟩
 ·obtain⟨m,⟨o,_,_,ho,_⟩,_⟩:=I.loc
  exact free _ o (λz=>(hch _ z).2.1 rfl) ho I.free
 ·obtain⟨v,o,ho,hd⟩:=I.cell x c e
  exact free c o (λz=>(hch c z).2.2.1 x c e rfl) ho<|I.freeC x c e
 ·obtain⟨e,n,ne,nf,d⟩:=I.pin p hp
  have nch:p.1∉ch:=λz=>(hch p.1 z).2.2.2 p hp rfl
  exact⟨keep p.1 p.2 ne nf nch e n,free p.1 p.2 nch e n,ne,nf,d⟩
def Inv.un{t':Nat}(I:Inv X pins σ H s)(u:Un X.fs [] H H' s.heap h')(hok:HOk X.prog X.w H' h'):Inv X pins σ H' { s with heap:=h',toks:=t' }:=by obtain⟨m,⟨o,es,ep,ho,r⟩,_⟩:=id I.loc;obtain⟨sl,hL⟩:=u.any ho I.free (by simp);exact I.step (g':=s.gens) (d':=s.drawn) (ch:=[]) (λ_ z=>nomatch z) (λb o _ hb _ e n=>u.keep b o e n hb<|by simp) (λb o _ hb _ e n=>u.slot b o e n hb<|by simp) (λb o _ e n=>u.free b o e n<|by simp) (λb o _ e=>u.there b o e<|by simp) u.tups u.frzs u.tbls (λm' hm=>by obtain⟨o',es',ep',ho',r'⟩:=hm;rw[ho]at ho';cases ho';exact⟨_,es',ep',hL,r'⟩) hok I.bare
def Inv.call{g':Array GenState}{t':Nat}{d':Drawn}{ch:List Addr}(I:Inv X pins σ H s)(u:Un (frs X.stack) ch H H' s.heap h')(hok:HOk X.prog X.w H' h')(hg:AllBare g')
  (hch:∀ b∈ch,(b∈X.ex\/X.s₀.heap.objs.size<=b)/\b≠X.env.locals/\(∀ x c,X.env.cells.lookup x=some c->c≠b)/\∀ p∈X.pn++pins,p.1≠b) :
  Inv X pins σ H' { s with heap:=h',gens:=g',drawn:=d',toks:=t' }:=by
 obtain⟨m,⟨o,es,ep,ho,r⟩,_⟩:=id I.loc
 obtain⟨sl,hL⟩:=u.any ho I.free λz=>(hch _ z).2.1 rfl
 exact I.step hch (λb o hL hb hc e n=>u.keep b o e n (λz=>(a1Y.mp<|I.stkSub b z).elim hL hb) hc) (λb o _ _ hc e n=>u.any e n hc) (λb o hc e n=>u.free b o e n hc) (λb o hc e=>u.there b o e hc) u.tups u.frzs u.tbls (λm' hm=>by obtain⟨o',es',ep',ho',r'⟩:=hm;rw[ho]at ho';cases ho';exact⟨_,es',ep',hL,r'⟩) hok hg
def Inv.turned{t':Nat}{it:Addr}(I:Inv X pins σ H s)(k:∀ b o,b≠it->s.heap.get? b=some o->h'.get? b=some o)(hn:H it=none)(hL:it≠X.env.locals)
  (h1:it∈X.ex\/X.s₀.heap.objs.size<=it) (h2:∀ x c,X.env.cells.lookup x=some c->c≠it) (h3:∀ p∈X.pn++pins,p.1≠it):Inv X pins σ H { s with heap:=h',toks:=t' }:=by
 have nit:∀ b u,H b=some u->b≠it:=λb u e z=>by rw[z,hn]at e;cases e
 refine I.step (g':=s.gens) (d':=s.drawn) (ch:=[it]) (λb hb=>?_) (λb o _ _ hc e _=>k b o (λz=>hc<|by simp[z]) e) (λb o _ _ hc e _=>⟨o.slots,k b o (λz=>hc<|by simp[z]) e⟩) (λ_ _ _ _ n=>n)
  (λb o hc e=>⟨o,k b o (λz=>hc<|by simp[z]) e⟩) (λ_ _ e=>e) (λ_ _ _ e=>e) (λb ps e=>⟨#[],by rw[e];simp⟩) (λm hm=>?_) (λb u e=>?_) I.bare
 ·have e:b=it:=by simpa using hb
  subst e
  exact⟨h1,hL,h2,h3⟩
 ·obtain⟨o,es,ep,ho,r⟩:=hm
  exact⟨o,es,ep,k _ o (Ne.symm hL) ho,r⟩
 ·refine(I.hok b u e).stay (λc v hc q=>k c v ?_ q) (λ_ q=>q) λ_ _ q=>q
  rcases hc with z|z
  ·rw[z];exact nit b u e
  ·exact nit c _ z
def Inv.tok(I:Inv X pins σ H s)(t:Nat):Inv X pins σ H { s with toks:=t }:=I.un (h':=s.heap) (t':=t) Un.refl I.hok
def Inv.kept(I:Inv X pins σ H s)(k:∀ b u,s.heap.get? b=some u->h'.get? b=some u):Inv X pins σ H { s with heap:=h',toks:=t' }:=I.un (Un.kept k)<|I.hok.kept k
def Inv.laid(I:Inv X pins σ H s)(k:∀ b u,s.heap.get? b=some u->h'.get? b=some u)(hp:s.heap.objs.size<=a)(new:D5 X.prog X.w (upd H a o) h' a o) :
  Inv X pins σ (upd H a o) { s with heap:=h',toks:=t' }:=I.un (Un.laid k hp<|I.hok.fresh hp)<|I.hok.laid k hp new
def Inv.write(I:Inv X pins σ H s)(mu:Mut (H x))(he:e=x\/H e=some (.own x))(k:∀ b u,b≠e->s.heap.get? b=some u->h'.get? b=some u)(heo:∃ u,h'.get? e=some u)
  (new:D5 X.prog X.w (upd H x o) h' x o):Inv X pins σ (upd H x o) { s with heap:=h',toks:=t' }:=I.un (Un.write mu he k heo)<|I.hok.write mu he k heo new
def Inv.weak(I:Inv X pins σ H s)(hl:σ'.length=σ.length)(w:∀(i:Nat) v,σ'[i]? = some (some v)->σ[i]? = some (some v)):Inv X pins σ' H s :=
 ⟨I.ok,I.os,I.bare,I.base,let ⟨m,hn,hl'⟩:=I.loc;⟨m,hn,λi x v e1 e2 e3=>hl' i x v e1 (w i v e2) e3⟩,I.cell,I.free,I.freeC,I.pin,I.hok,hl.trans I.len⟩
def Inv.pins_of(I:Inv X pins σ H s)(h:∀ p∈pins',s.heap.get? p.1=some p.2/\H p.1=none/\p.1≠X.env.locals/\p.1∉X.fs/\∀ v,p.2.data ≠ .cell v):Inv X pins' σ H s :=
 ⟨I.ok,I.os,I.bare,I.base,I.loc,I.cell,I.free,I.freeC,λp hp=>(a10.mp hp).elim (λz=>I.pin p<|a2V _ z)<|h p,I.hok,I.len⟩
def mL{N:List Str}(hN:N.Nodup){i j:Nat}{x:Str}(a:N[i]? = some x)(b:N[j]? = some x):i=j:=by obtain⟨h1,e1⟩:=a1I.mp a;obtain⟨h2,e2⟩:=a1I.mp b;exact(List.getElem_inj hN).mp (e1.trans e2.symm)
def pU{M:Model}{A:Around}{E:Value->Shared->Prop}{i:Nat}{x:Str}{v:V}{u:Value}{Q:Unit->Shared->Prop}(I:Inv X pins σ H s)(hN:X.N.Nodup)(hi:X.N[i]? = some x)(hx:Loc X.env.scope x)(r:l8 v u)
  (h:∀ s',Inv X pins (σ.set i<|some v) H s'->(∃ a,Heap.SameBut a s.heap s'.heap/\(a=X.env.locals\/X.env.cells.lookup x=some a))->Q () s') (hf:X.fn x=true\/X.env.scope.names.lookup x=some .local:=by rw[10]):wpAny M A (storeName X.env x u) Q E s:=by
 obtain⟨m,hn,hl⟩:=id I.loc
 have hcls:(X.env.scope.kind == .class || (X.env.scope.kind == .module && X.env.locals != X.env.globals))=false:=by rw[I.ok.kind];rfl
 have hiσ:i<σ.length:=by rw[I.len];exact(a1I.mp hi).1
 have cne:=I.cne
 have tracked:∀{a:Addr} {h':Heap},(∃ o,s.heap.get? a=some o/\H a=none)->Heap.SameBut a s.heap h'->HOk X.prog X.w H h':=λ{a h'} ha hs b ob e=>by
  obtain⟨_,_,hfree⟩:=ha;refine(I.hok b ob e).stay (λc w' hc q=>(hs.2 c ?_).trans q) (λ_ q=>q) λ_ _ q=>q;rintro rfl;rcases hc with rfl|hc
  ·rw[hfree]at e;cases e
  ·rw[hfree]at hc;cases hc
 rcases hx with hk|hk
 ·refine wpAny_storeName_local hk hn (λh' hn' hs=>?_) hcls
  obtain⟨oL,_,_,hoL,_⟩:=id hn
  refine h _ ⟨I.ok,I.os,I.bare,⟨λb o e n hb hx=>?_,λb o e n hb hx=>?_,I.base.free,λb o e hx=>?_,I.base.tups,I.base.frzs,I.base.tbls⟩,⟨_,hn',λj y v' e1 e2 e3=>?_⟩,λy c e=>?_,I.free,I.freeC,λp hp=>?_,tracked ⟨oL,hoL,I.free⟩ hs,by simpa using I.len⟩ ⟨_,hs,.inl rfl⟩
  ·exact(hs.2 b<|a14<|a1F (a1L e) I.ok.above).trans (I.base.keep b o e n hb hx)
  ·obtain⟨sl,e1⟩:=I.base.slot b o e n hb hx
   exact⟨sl,(hs.2 b<|a14<|a1F (a1L e) I.ok.above).trans e1⟩
  ·obtain⟨o',e1⟩:=I.base.there b o e hx
   exact⟨o',(hs.2 b<|a14<|a1F (a1L e) I.ok.above).trans e1⟩
  ·by_cases hj:j=i
   ·subst hj
    rw[hi]at e1;cases e1
    rw[a3G hiσ]at e2
    cases e2
    exact⟨u,r,.inl ⟨hk,by simp⟩⟩
   ·rw[a3V<|Ne.symm hj]at e2
    obtain⟨u',r',q⟩:=hl j y v' e1 e2 e3
    refine⟨u',r',?_⟩
    rcases q with⟨k,e⟩|⟨k,c,e,z⟩
    ·refine .inl ⟨k,?_⟩
     have:y≠x:=λe=>hj<|mL hN e1<|e▸hi
     simp[this,e]
    ·exact .inr ⟨k,c,e,z.sameBut hs<|cne y c e⟩
  ·obtain⟨w',z⟩:=I.cell y c e
   exact⟨w',z.sameBut hs<|cne y c e⟩
  ·obtain⟨e,n,ne,nf,d⟩:=I.pin p hp
   exact⟨(hs.2 p.1 ne).trans e,n,ne,nf,d⟩
 ·have hfn:X.fn x=true:=by
   rcases hf with z|z
   ·exact z
   ·rw[z]at hk;cases hk
  obtain⟨c,hc⟩:=I.ok.has x<|.inl hk
  obtain⟨w',z⟩:=I.cell x c hc
  refine wpAny_storeName_cell I.ok.kind hk hc z λh' hc' hs=>?_
  obtain⟨oc,hoc,hocd⟩:=id z
  refine h { s with heap:=h' } ⟨I.ok,I.os,I.bare,⟨λb o e n hb hx=>?_,λb o e n hb hx=>?_,I.base.free,λb o e hx=>?_,I.base.tups,I.base.frzs,I.base.tbls⟩,⟨m,hn.sameBut hs<|Ne.symm<|cne x c hc,λj y v' e1 e2 e3=>?_⟩,λy c' e=>?_,I.free,I.freeC,λp hp=>?_,tracked ⟨oc,hoc,I.freeC x c hc⟩ hs,by simpa using I.len⟩ ⟨c,hs,.inr hc⟩
  ·exact(hs.2 b<|a14<|a1F (a1L e)<|I.ok.cab x c hfn hc).trans (I.base.keep b o e n hb hx)
  ·obtain⟨sl,e1⟩:=I.base.slot b o e n hb hx;exact⟨sl,(hs.2 b<|a14<|a1F (a1L e)<|I.ok.cab x c hfn hc).trans e1⟩
  ·obtain⟨o',e1⟩:=I.base.there b o e hx;exact⟨o',(hs.2 b<|a14<|a1F (a1L e)<|I.ok.cab x c hfn hc).trans e1⟩
  ·by_cases hj:j=i
   ·subst hj;rw[hi]at e1;cases e1;rw[a3G hiσ]at e2;cases e2;exact⟨u,r,.inr ⟨.inl hk,c,hc,hc'⟩⟩
   ·rw[a3V<|Ne.symm hj]at e2
    obtain⟨u',r',q⟩:=hl j y v' e1 e2 e3;refine⟨u',r',?_⟩;rcases q with q|⟨k,c',e,z'⟩
    ·exact .inl q
    ·refine .inr ⟨k,c',e,z'.sameBut hs ?_⟩;rintro rfl;exact hj<|mL hN e1<|I.ok.inj _ _ _ e hc▸hi
  ·by_cases hcc:c'=c
   ·subst hcc;exact⟨_,hc'⟩
   ·obtain⟨w2,z2⟩:=I.cell y c' e;exact⟨w2,z2.sameBut hs hcc⟩
  ·obtain⟨e,n,ne,nf,d⟩:=I.pin p hp;refine⟨(hs.2 p.1 ?_).trans e,n,ne,nf,d⟩;intro q;rw[q,hoc]at e;have q':=Option.some.inj e;exact d w'<|by rw[<- q'];exact hocd
def S6(I:Inv X pins σ H s)(hN:X.N.Nodup)(hi:X.N[i]? = some x)(hx:Loc X.env.scope x)(r:l8 v u)
  (h:∀ s',Inv X pins (σ.set i<|some v) H s'->Q () s') (hf:X.fn x=true\/X.env.scope.names.lookup x=some .local:=by rw[10]):wpAny M A (storeName X.env x u) Q E s :=
 pU I hN hi hx r (λs' I' _=>h s' I') hf
def Inv.call'(I:Inv X pins σ H s)(ho:s'.os=s.os)(u:Un (frs X.stack) ch H H' s.heap s'.heap)(hok:HOk X.prog X.w H' s'.heap)(hg:AllBare s'.gens)
  (hch:∀ b∈ch,(b∈X.ex\/X.s₀.heap.objs.size<=b)/\b≠X.env.locals/\(∀ x c,X.env.cells.lookup x=some c->c≠b)/\∀ p∈X.pn++pins,p.1≠b):Inv X pins σ H' s':=by
 obtain⟨h',g',d',t',o'⟩:=s'
 have e:=ho
 subst e
 exact I.call (g':=g') (t':=t') (d':=d') u hok hg hch
end
abbrev XK:=Value->Option Addr->Hp->Prop
abbrev St:=List<|Option V
abbrev VK:=V->Hp->Prop
abbrev TE:=St->Hp->VK->Prop
abbrev TT:=St->Hp->(Bool->Hp->Prop)->Prop
abbrev TA:=St->Hp->(List V->Hp->Prop)->Prop
structure ip where
 nx:St->Hp->Prop
 rt:VK
 bk:St->Hp->Prop:=λ_ _=>False
 ct:St->Hp->Prop:=λ_ _=>False
abbrev TS:=ip->St->Hp->Prop
def EP(X:Cx)(pins:List (Addr × Obj))(σ:St)(Q:VK)(u:Value)(s':Shared):Prop:=∃ v H',Inv X pins σ H' s'/\l8 v u/\Q v H'
def TP(X:Cx)(pins:List (Addr × Obj))(σ:St)(Q:Bool->Hp->Prop)(b:Bool)(s':Shared):Prop:=∃ H',Inv X pins σ H' s'/\Q b H'
def AP(X:Cx)(pins:List (Addr × Obj))(σ:St)(Q:List V->Hp->Prop)(us:List Value)(s':Shared):Prop:=∃ vs H',Inv X pins σ H' s'/\j8 vs us/\Q vs H'
def SP(X:Cx)(pins:List (Addr × Obj))(D:ip)(f:Flow)(s':Shared):Prop :=
 match f with
 | .next=>∃ σ' H',Inv X pins σ' H' s'/\D.nx σ' H'
 | .brk=>∃ σ' H',Inv X pins σ' H' s'/\D.bk σ' H'
 | .cont=>∃ σ' H',Inv X pins σ' H' s'/\D.ct σ' H'
 | .ret u=>∃ v σ' H',Inv X pins σ' H' s'/\l8 v u/\D.rt v H'
def PE(X:Cx)(e:Expr)(t:TE):Prop :=
 ∀(pins:List (Addr × Obj)) (s:Shared) (σ:St) (H:Hp) (Q:VK),Inv X pins σ H s->t σ H Q->wpAny (model X.prog X.w) X.A (eval e X.env) (EP X pins σ Q) X.xe s
def PT(X:Cx)(e:Expr)(t:TT):Prop :=
 ∀(pins:List (Addr × Obj)) (s:Shared) (σ:St) (H:Hp) (Q:Bool->Hp->Prop),Inv X pins σ H s->t σ H Q->wpAny (model X.prog X.w) X.A (isTrue e X.env<|eval e X.env) (TP X pins σ Q) X.xe s
def PW(X:Cx)(e:Expr)(t:TT):Prop :=
 ∀(whole:Sem Value) (pins:List (Addr × Obj)) (s:Shared) (σ:St) (H:Hp) (Q:Bool->Hp->Prop),Inv X pins σ H s->t σ H Q->wpAny (model X.prog X.w) X.A (isTrue e X.env whole) (TP X pins σ Q) X.xe s
def PW.pt(h:PW X e t):PT X e t:=h _
def PA(X:Cx)(es:List Expr)(t:TA):Prop :=
 ∀(pos:Pos) (pins:List (Addr × Obj)) (s:Shared) (σ:St) (H:Hp) (Q:List V->Hp->Prop),Inv X pins σ H s->t σ H Q->wpAny (model X.prog X.w) X.A (spliced<|backTo pos<|starEach es X.env) (AP X pins σ Q) X.xe s
def PS(X:Cx)(st:Stmt)(t:TS):Prop :=
 ∀(pins:List (Addr × Obj)) (s:Shared) (σ:St) (H:Hp) (D:ip),Inv X pins σ H s->t D σ H->wpAny (model X.prog X.w) X.A (exec st X.env) (SP X pins D) X.xe s
def PSs(X:Cx)(st:List Stmt)(t:TS):Prop :=
 ∀(pins:List (Addr × Obj)) (s:Shared) (σ:St) (H:Hp) (D:ip),Inv X pins σ H s->t D σ H->wpAny (model X.prog X.w) X.A (execs st X.env) (SP X pins D) X.xe s
def thn(h:wpAny M A t Q E s)(hQ:∀ a s,Q a s->Q' a s):wpAny M A t Q' E s:=wpAny_mono h hQ λ_ _ x=>x
def YT(i:Nat):TE:=λσ H Q=>∃ v,σ[i]? = some (some v)/\Q v H
def tC(v:V):TE:=λ_ H Q=>Q v H
def TR(hN:X.N[i]? = some x)(hv:Vis X.env.scope x)(hd:(x == ("__debug__" : Str))=false:=by decide)(hcd:(x == ("__classdict__" : Str))=false:=by decide):PE X (.Name x pos) (YT i):=by
 intro pins s σ H Q I h;obtain⟨v,e,h⟩:=h;obtain⟨m,hn,hl⟩:=I.loc;obtain⟨u,r,l⟩:=hl i x v hN e hv;have fin:EP X pins σ Q u s:=⟨v,H,I,r,h⟩;rcases l with⟨hk,hm⟩|⟨hk,c,hc,hcell⟩
 ·exact wpAny_Name (wpAny_loadName_local I.ok.kind hk hn hm fin) hd
 ·rcases hk with hk|hk
  ·exact wpAny_Name (wpAny_loadName_cell I.ok.kind hk hc hcell fin) hd
  ·exact wpAny_Name (wpAny_loadName_free I.ok.kind hk hc hcell fin hcd) hd
def TZ{i j pos}:PE X (.Constant (.int i) j pos) (tC<|.int i):=λ_ _ _ H _ I h=>wpAny_Constant_int ⟨.int i,H,I.tok _,⟨_,rfl⟩,h⟩
def XB{b j pos}:PE X (.Constant (.bool b) j pos) (tC<|.bl b):=λ_ _ _ H _ I h=>Constant_bool ⟨.bl b,H,I,rfl,h⟩
def TY{j pos}:PE X (.Constant .none j pos) (tC .non):=λ_ _ _ H _ I h=>Constant_none ⟨.non,H,I,rfl,h⟩
def TU{x j pos}:PE X (.Constant (.str x) j pos) (tC<|.str x):=λ_ _ _ H _ I h=>Calls.Constant_str ⟨.str x,H,I.tok _,⟨_,rfl⟩,h⟩
def Gl(X:Cx)(x:Str):Prop:=X.env.kindOf x=some .globalImplicit
def bo(I:Inv X pins σ H s)(hg:Gl X x)(hm:X.mg x=some u)(h:Q u s)
  (hd:(x == ("__debug__" : Str))=false:=by decide):wpAny (model X.prog X.w) X.A (eval (.Name x pos) X.env) Q E s :=
 Calls.Name_function_global I.ok.kind hg (Calls.loadGlobal_global (by rw[I.ok.glob];exact I.mod.glob.keeps I.bk) hm h) hd
def K7(I:Inv X pins σ H s)(hg:Gl X x)(hm:X.mg x=none)(hv:bootBuiltins x=some u)(h:Q u s)
  (hn:x ≠ "__name__" := by decide) (hd:(x == ("__debug__" : Str))=false:=by decide):wpAny (model X.prog X.w) X.A (eval (.Name x pos) X.env) Q E s:=by
 obtain⟨mb,h1,h2⟩:=I.mod.blt
 exact Calls.Name_function_global I.ok.kind hg (Calls.loadGlobal_builtin (by rw[I.ok.glob];exact I.mod.glob.keeps I.bk) hm (by rw[I.ok.blt];exact h1.keeps I.bk) ((h2 x hn).trans hv) h) hd
def rZ(hg:Gl X x)(hm:X.mg x=some u)(r:l8 v u)(hd:(x == ("__debug__" : Str))=false:=by decide):PE X (.Name x pos) (tC v) :=
 λ_ _ _ H _ I h=>bo I hg hm ⟨v,H,I,r,h⟩ hd
def BU(hg:Gl X x)(hm:X.mg x=none)(hv:bootBuiltins x=some u)(r:l8 v u)(hn:x ≠ "__name__" := by decide)(hd:(x == ("__debug__" : Str))=false:=by decide):PE X (.Name x pos) (tC v) :=
 λ_ _ _ H _ I h=>K7 I hg hm hv ⟨v,H,I,r,h⟩ hn hd
def l8.none_iff(r:l8 x v):(v == Value.none)=decide (x = .non):=by
 cases x with
 | non=>cases r;rfl
 | bl _=>cases r;rfl
 | int _=>obtain⟨t,rfl⟩:=r;rfl
 | str _=>obtain⟨t,rfl⟩:=r;rfl
 | byt _=>obtain⟨t,rfl⟩:=r;rfl
 | flt _=>obtain⟨t,rfl⟩:=r;rfl
 | ref _=>cases r;rfl
 | ty _=>cases r;rfl
def tB(t:TE):TT:=λσ H Q=>t σ H λx H1=>∃ c,x = .bl c/\Q c H1
def Ts(h:PE X e t)(he:∀ whole,isTrue e X.env whole=(do let v <- whole;standAt e.pos;holding [v] (truthy v)):=by rfl):PT X e (tB t):=by intro pins s σ H Q I hw;refine isTrue_plain (thn (h pins s σ H _ I hw) ?_)<|he _;rintro v s1 ⟨x,H1,I1,r1,q1⟩;obtain⟨d,rfl,q⟩:=q1;cases r1;exact wpAny_truthy_bool ⟨H1,I1,q⟩
def Zg(t u:TT):TT:=λσ H Q=>t σ H λc H1=>if c=true then u σ H1 Q else Q false H1
def tOr(t u:TT):TT:=λσ H Q=>t σ H λc H1=>if c=true then Q true H1 else u σ H1 Q
def YZ(t:TT):TT:=λσ H Q=>t σ H λc H1=>Q (!c) H1
def NC(ha:PT X a tA):PW X (.BoolOp .And [a] pos) tA:=by
 intro wh pins s σ H Q I h;refine isTrue_and<|thn (ha pins s σ H Q I h) λc s1 e=>?_;cases c with
 | true=>exact isTrue_and_nil e
 | false=>exact e
def Tp(ha:PT X a tA):PW X (.BoolOp .Or [a] pos) tA:=by
 intro wh pins s σ H Q I h;refine isTrue_or<|thn (ha pins s σ H Q I h) λc s1 e=>?_;cases c with
 | false=>exact isTrue_or_nil e
 | true=>exact e
def Tq(ha:PT X a tA)(hb:PW X (.BoolOp .And (b :: rest) pos) tB'):PW X (.BoolOp .And (a :: b :: rest) pos) (Zg tA tB'):=by
 intro wh pins s σ H Q I h;refine isTrue_and<|thn (ha pins s σ H _ I h) λc s1 zz=>?_;obtain⟨H1,I1,q1⟩:=zz;cases c with
 | true=>exact hb wh pins s1 σ H1 Q I1 q1
 | false=>exact⟨H1,I1,q1⟩
def Xw(ha:PT X a tA)(hb:PW X (.BoolOp .Or (b :: rest) pos) tB'):PW X (.BoolOp .Or (a :: b :: rest) pos) (tOr tA tB'):=by
 intro wh pins s σ H Q I h;refine isTrue_or<|thn (ha pins s σ H _ I h) λc s1 zz=>?_;obtain⟨H1,I1,q1⟩:=zz;cases c with
 | true=>exact⟨H1,I1,q1⟩
 | false=>exact hb wh pins s1 σ H1 Q I1 q1
def Tt(ha:PT X a tA):PT X (.UnaryOp .Not a pos) (YZ tA):=by intro pins s σ H Q I h;exact isTrue_not<|ha pins s σ H (λc H1=>Q (!c) H1) I h
def WU(ta tb:TE):TE:=λσ H Q=>ta σ H λx H1=>∃ c,x = .bl c/\if c=true then tb σ H1 Q else Q (.bl false) H1
def YY(ta tb:TE):TE:=λσ H Q=>ta σ H λx H1=>∃ c,x = .bl c/\if c=true then Q (.bl true) H1 else tb σ H1 Q
def WJ(ta:TE):TE:=λσ H Q=>ta σ H λx H1=>∃ c,x = .bl c/\Q (.bl<|!c) H1
def TV{op}(h:PE X a t):PE X (.BoolOp op [a] pos) t:=λpins s σ H Q I hw=>BoolOp_one<|h pins s σ H Q I hw
def Uc(ha:PE X a ta)(hb:PE X (.BoolOp .And (b :: rest) pos) tb):PE X (.BoolOp .And (a :: b :: rest) pos) (WU ta tb):=by
 intro pins s σ H Q I h;refine BoolOp_and<|thn (ha pins s σ H _ I h) λv s1 zz=>?_;obtain⟨x,H1,I1,r1,q1⟩:=zz;obtain⟨c,rfl,q1⟩:=q1;cases r1;refine wpAny_truthy_bool ?_;cases c with
 | true=>exact hb pins s1 σ H1 Q I1 q1
 | false=>exact⟨.bl false,H1,I1,rfl,q1⟩
def Xz(ha:PE X a ta)(hb:PE X (.BoolOp .Or (b :: rest) pos) tb):PE X (.BoolOp .Or (a :: b :: rest) pos) (YY ta tb):=by
 intro pins s σ H Q I h;refine BoolOp_or<|thn (ha pins s σ H _ I h) λv s1 zz=>?_;obtain⟨x,H1,I1,r1,q1⟩:=zz;obtain⟨c,rfl,q1⟩:=q1;cases r1;refine wpAny_truthy_bool ?_;cases c with
 | false=>exact hb pins s1 σ H1 Q I1 q1
 | true=>exact⟨.bl true,H1,I1,rfl,q1⟩
def TX(ha:PE X a ta):PE X (.UnaryOp .Not a pos) (WJ ta):=by intro pins s σ H Q I h;refine UnaryOp_<|thn (ha pins s σ H _ I h) λv s1 zz=>?_;obtain⟨x,H1,I1,r1,q1⟩:=zz;obtain⟨c,rfl,q1⟩:=q1;cases r1;exact not_of<|wpAny_truthy_bool ⟨.bl<|!c,H1,I1,rfl,q1⟩
def tIf(t:TT)(ta tb:TE):TE:=λσ H Q=>t σ H λc H1=>if c=true then ta σ H1 Q else tb σ H1 Q
def Iz(hc:PT X c tA)(ha:PE X a ta)(hb:PE X b tb):PE X (.IfExp c a b pos) (tIf tA ta tb):=by
 intro pins s σ H Q I h;refine wpAny_IfExp<|thn (hc pins s σ H _ I h) λd s1 zz=>?_;obtain⟨H1,I1,q1⟩:=zz;cases d with
 | true=>exact ha pins s1 σ H1 Q I1 q1
 | false=>exact hb pins s1 σ H1 Q I1 q1
def SqL(K:a1C)(H:Hp)(a:Addr)(xs:List V):Prop :=
 Rd H a (.lst xs) \/
  ∃(o:Obj) (its:Array Value) (n:Nat),K.lookup a=some o/\o.cls = .type "list" /\ o.dict=none/\o.data = .seq its n/\its.size<=sizeLine/\j8 xs its.toList
def SqT(K:a1C)(H:Hp)(a:Addr)(xs:List V):Prop :=
 Rd H a (.tup xs) \/
  ∃(o:Obj) (its:Array Value) (n:Nat),K.lookup a=some o/\o.cls = .type "tuple" /\ o.data = .seq its n/\its.size<=sizeLine/\j8 xs its.toList
def ZI:Value->Option V
 | .none=>some .non
 | .bool b=>some<|.bl b
 | .int i _=>some<|.int i
 | .str x _=>some<|.str x
 | .bytes b _=>some<|.byt b
 | .float b _=>some<|.flt b
 | .ref a=>some<|.ref a
 | .type n=>some<|.ty n
 | _=>none
def l8.abs(r:l8 x u):ZI u=some x:=by
 cases x with
 | non=>cases r;rfl
 | bl _=>cases r;rfl
 | int _=>obtain⟨t,rfl⟩:=r;rfl
 | str _=>obtain⟨t,rfl⟩:=r;rfl
 | byt _=>obtain⟨t,rfl⟩:=r;rfl
 | flt _=>obtain⟨t,rfl⟩:=r;rfl
 | ref _=>cases r;rfl
 | ty _=>cases r;rfl
def l8.inj(r:l8 x u)(q:l8 y u):x=y:=Option.some.inj<|r.abs.symm.trans q.abs
def j8.inj:∀{xs ys:List V} {us:List Value},j8 xs us->j8 ys us->xs=ys
 | _,_,_,.nil,.nil=>rfl
 | _,_,_,.cons r t,.cons r' t'=>by rw[r.inj r',j8.inj t t']
def SqL.of{K:a1C}(h:H a=some (.lst xs)):SqL K H a xs:=.inl<|.inl h
def SqT.of{K:a1C}(h:H a=some (.tup xs)):SqT K H a xs:=.inl<|.inl h
def Inv.list(I:Inv X pins σ H s)(h:SqL X.K H a xs):∃ its,j8 xs its/\PlainL s.heap a its.toArray/\xs.length<=sizeLine:=by
 rcases h with h|⟨o,its,n,hk,hc,hd,hs,hz,r⟩
 ·obtain⟨z,its,n,r,e⟩:=h.ok I.hok;exact⟨its,r,⟨_,n,e,rfl,rfl,rfl⟩,z⟩
 ·refine⟨its.toList,r,⟨o,n,I.kIn a o hk,hc,hd,by simpa using hs⟩,?_⟩;have e:=r.length;simp at e;omega
def Inv.tuple(I:Inv X pins σ H s)(h:SqT X.K H a xs):∃ its,j8 xs its/\IsTup s.heap a its.toArray/\xs.length<=sizeLine:=by
 rcases h with h|⟨o,its,n,hk,hc,hs,hz,r⟩
 ·obtain⟨z,its,r,p⟩:=h.ok I.hok;exact⟨its,r,p,z⟩
 ·refine⟨its.toList,r,⟨o,I.kIn a o hk,hc,n,by simpa using hs⟩,?_⟩;have e:=r.length;simp at e;omega
def Inv.list_inj(I:Inv X pins σ H s)(h:SqL X.K H a xs)(h':SqL X.K H a ys):xs=ys:=by
 obtain⟨its,r,⟨o,n,e,_,_,d⟩,_⟩:=I.list h;obtain⟨its',r',⟨o',n',e',_,_,d'⟩,_⟩:=I.list h';rw[e]at e';cases e';rw[d]at d';injection d' with d1 _
 have:its=its':=by simpa using congrArg Array.toList d1
 subst this;exact r.inj r'
def Inv.tuple_inj(I:Inv X pins σ H s)(h:SqT X.K H a xs)(h':SqT X.K H a ys):xs=ys:=by
 obtain⟨its,r,⟨o,e,_,n,d⟩,_⟩:=I.tuple h;obtain⟨its',r',⟨o',e',_,n',d'⟩,_⟩:=I.tuple h';rw[e]at e';cases e';rw[d]at d';injection d' with d1 _
 have:its=its':=by simpa using congrArg Array.toList d1
 subst this;exact r.inj r'
abbrev Cx.wish(X:Cx)(E:Value->Shared->Prop):Cx:={ X with xe:=E }
abbrev Cx.nox(X:Cx):Cx:=X.wish λ_ _=>False
def Cx.Ok.wish{X:Cx}(ok:X.Ok)(E:Value->Shared->Prop):(X.wish E).Ok :=
 ⟨ok.mod,ok.kind,ok.glob,ok.blt,ok.above,ok.inj,ok.has,ok.cab,ok.hd,ok.frames,ok.stk,ok.exf,ok.bs,ok.bsz,ok.noex,ok.exfs,ok.funs,ok.frf⟩
def Cx.Ok.unwish{X:Cx}{E:Value->Shared->Prop}(ok:(X.wish E).Ok):X.Ok :=
 ⟨ok.mod,ok.kind,ok.glob,ok.blt,ok.above,ok.inj,ok.has,ok.cab,ok.hd,ok.frames,ok.stk,ok.exf,ok.bs,ok.bsz,ok.noex,ok.exfs,ok.funs,ok.frf⟩
def Inv.wish(I:Inv X pins σ H s)(E:Value->Shared->Prop):Inv (X.wish E) pins σ H s:=⟨I.ok.wish E,I.os,I.bare,I.base,I.loc,I.cell,I.free,I.freeC,I.pin,I.hok,I.len⟩
def Inv.unwish(I:Inv (X.wish E) pins σ H s):Inv X pins σ H s:=⟨I.ok.unwish,I.os,I.bare,I.base,I.loc,I.cell,I.free,I.freeC,I.pin,I.hok,I.len⟩
def SP.unwish(h:SP (X.wish E) pins D f s'):SP X pins D f s':=by
 cases f with
 | next=>obtain⟨σ',H',I,q⟩:=h;exact⟨σ',H',I.unwish,q⟩
 | brk=>obtain⟨σ',H',I,q⟩:=h;exact⟨σ',H',I.unwish,q⟩
 | cont=>obtain⟨σ',H',I,q⟩:=h;exact⟨σ',H',I.unwish,q⟩
 | ret u=>obtain⟨v,σ',H',I,r,q⟩:=h;exact⟨v,σ',H',I.unwish,r,q⟩
def PSs.nox{st:List Stmt}{t:TS}(h:PSs X.nox st t):PSs X st t:=λpins s σ H D I hw =>
 wpAny_mono (h pins s σ H D (I.wish _) hw) (λ_ _ q=>q.unwish) λ_ _ z=>False.elim z
section
variable {X:Cx} {st:Stmt} {rest:List Stmt} {t u:TS}
def WL:TS:=λD σ H=>D.nx σ H
def YV(t u:TS):TS:=λD σ H=>t { D with nx:=u D } σ H
def BR:PSs X [] WL:=λ_ _ σ H _ I h=>wpAny_execs_nil ⟨σ,H,I,h⟩
def mq(h1:PS X st t)(h2:PSs X rest u):PSs X (st :: rest) (YV t u):=by
 intro pins s σ H D I h;refine wpAny_execs_cons<|thn (h1 pins s σ H { D with nx:=u D } I h) λf s1 q=>?_;cases f with
 | next =>obtain⟨σ',H',I',q⟩:=q;exact h2 pins s1 σ' H' D I' q
 | ret v=>exact q
 | brk=>exact q
 | cont=>exact q
def BQ(h1:PS X st t):PSs X [st] t:=by
 intro pins s σ H D I h;refine wpAny_execs_cons<|thn (h1 pins s σ H D I h) λf s1 q=>?_;cases f with
 | next=>exact wpAny_execs_nil q
 | ret v=>exact q
 | brk=>exact q
 | cont=>exact q
def Inv.quiet(I:Inv X pins σ H s):interactive X.env=false:=by simp[interactive,I.ok.kind]
def WQ(te:TE):TS:=λD σ H=>te σ H λ_ H1=>D.nx σ H1
def NF(he:PE X e te)(hs:swapsWith e none pos.line X.env=pure false:=by rfl):PS X (.Expr e pos) (WQ te):=by intro pins s σ H D I h;exact wpAny_Expr_any (thn (he pins s σ H _ I h) λv s1 ⟨x,H1,I1,r1,q1⟩=>⟨σ,H1,I1,q1⟩) I.quiet hs
def YW(te:TE):TS:=λD σ H=>te σ H D.rt
def Ik(he:PE X e te):PS X (.Return (some e) pos) (YW te):=by intro pins s σ H D I h;exact wpAny_Return_some<|thn (he pins s σ H _ I h) λv s1 ⟨x,H1,I1,r1,q1⟩=>⟨x,σ,H1,I1,r1,q1⟩
def Zb(c:TT)(t u:TS):TS:=λD σ H=>c σ H λb H1=>if b=true then t D σ H1 else u D σ H1
def Im(hc:PT X c tc)(ha:PSs X a t)(hb:PSs X b u):PS X (.If c a b pos) (Zb tc t u):=by
 intro pins s σ H D I h;refine wpAny_If<|thn (hc pins s σ H _ I h) λd s1 zz=>?_;obtain⟨H1,I1,q1⟩:=zz;cases d with
 | true=>exact ha pins s1 σ H1 D I1 q1
 | false=>exact hb pins s1 σ H1 D I1 q1
def SQ:TS:=λ_ _ _=>False
def Il:PS X st SQ:=λ_ _ _ _ _ _ h=>h.elim
end
abbrev TG:=V->St->Hp->(St->Hp->Prop)->Prop
abbrev TGs:=List V->St->Hp->(St->Hp->Prop)->Prop
def PG(X:Cx)(target:Expr)(t:TG):Prop :=
 ∀(pins:List (Addr × Obj)) (s:Shared) (σ:St) (H:Hp) (v:V) (u:Value) (Q:St->Hp->Prop),Inv X pins σ H s->l8 v u->t v σ H Q ->
  wpAny (model X.prog X.w) X.A (assign target X.env u) (λ_ s'=>∃ σ' H',Inv X pins σ' H' s'/\Q σ' H') X.xe s
def PGs(X:Cx)(ts:List Expr)(t:TGs):Prop :=
 ∀(pins:List (Addr × Obj)) (s:Shared) (σ:St) (H:Hp) (vs:List V) (us:List Value) (Q:St->Hp->Prop),Inv X pins σ H s->j8 vs us->t vs σ H Q ->
  wpAny (model X.prog X.w) X.A (assignInOrder ((assignEach ts X.env).map (·.2)) us) (λ_ s'=>∃ σ' H',Inv X pins σ' H' s'/\Q σ' H') X.xe s
abbrev YF:=V->V->V->Hp->(Hp->Prop)->Prop
def YK(X:Cx)(t:YF):Prop :=
 ∀(pins:List (Addr × Obj)) (s:Shared) (σ:St) (H:Hp) (o i v:V) (ov iv u:Value) (Q:Hp->Prop),Inv X pins σ H s->l8 o ov->l8 i iv->l8 v u->t o i v H Q ->
  wpAny (model X.prog X.w) X.A (setItem ov iv u) (λ_ s'=>∃ H',Inv X pins σ H' s'/\Q H') X.xe s
def JJ(i:Nat):TG:=λv σ H Q=>Q (σ.set i<|some v) H
def NM(hN:X.N.Nodup)(hi:X.N[i]? = some x)(hx:Loc X.env.scope x)(hf:X.fn x=true\/X.env.scope.names.lookup x=some .local:=by rw[10]):PG X (.Name x pos) (JJ i):=by intro pins s σ H v u Q I r h;exact wpAny_assign_Name<|S6 I hN hi hx r (λs' I'=>⟨_,H,I',h⟩) hf
def ZE:TGs:=λvs σ H Q=>vs=[]/\Q σ H
def XZ(t:TG)(u:TGs):TGs:=λvs σ H Q=>∃ v r,vs=v :: r/\t v σ H λσ' H'=>u r σ' H' Q
def NK:PGs X [] ZE:=by intro pins s σ H vs us Q I r h;obtain⟨e,h⟩:=h;subst e;cases r;exact assignInOrder_nil ⟨σ,H,I,h⟩
def Ir(h1:PG X e t)(h2:PGs X es u)
  (hs:(assignEach (e :: es) X.env).map (·.2)=assign e X.env :: (assignEach es X.env).map (·.2):=by rfl):PGs X (e :: es) (XZ t u):=by
 intro pins s σ H vs us Q I r h
 obtain⟨v,vr,e1,h⟩:=h
 subst e1
 cases r with
 | cons r rr =>
  rw[hs]
  refine assignInOrder_cons<|thn (h1 pins s σ H _ _ _ I r h) λ_ s1 zz=>?_
  obtain⟨σ1,H1,I1,q1⟩:=zz
  exact h2 pins s1 σ1 H1 _ _ Q I1 rr q1
def ZA(K:a1C)(n:Nat)(t:TGs):TG:=λv σ H Q=>∃ a xs,v = .ref a/\SqT K H a xs/\xs.length=n/\t xs σ H Q
def TK(hc:X.calm=true)(h:PGs X es t)
  (hn:(assignEach es X.env).length=n:=by rfl) (hst:(assignEach es X.env).findIdx? (·.1)=none:=by rfl):PG X (.Tuple es k pos) (ZA X.K n t):=by
 intro pins s σ H v u Q I r hw
 obtain⟨a,xs,e1,hq,hl,hw⟩:=hw
 subst e1
 cases r
 obtain⟨its,rv,ht,hz⟩:=I.tuple hq
 refine assign_Tuple_tuple (I.ok.hd hc) ht (by simp[hn,<- hl,rv.length]) hst λh' hx=>?_
 have I1:Inv X pins σ H { s with heap:=h' }:=I.kept (t':=s.toks) λb o e=>hx b o (a14<|a1L e) e
 exact h pins _ σ H xs _ Q I1 (by simpa using rv) hw
def ZC(to ti:TE)(t:YF):TG:=λv σ H Q=>to σ H λo H1=>ti σ H1 λi H2=>t o i v H2 λH3=>Q σ H3
def TL(ho:PE X o to)(hi:PE X i ti)(hs:YK X t)
  (ha:∀ v,assign (.Subscript o i pos) X.env v=(do
   let ov <- holding [v] (eval o X.env)
   let iv <- holding [v,ov] (eval i X.env)
   standAt pos
   holding [v,ov,iv] (setItem ov iv v)
   release [v,ov,iv] []):=by intro _;rfl):PG X (.Subscript o i pos) (ZC to ti t):=by
 intro pins s σ H v u Q I r h
 rw[ha]
 refine a1D<|wpAny_holding<|thn (ho pins s σ H _ I h) λov s1 zz=>?_
 obtain⟨x,H1,I1,r1,q1⟩:=zz
 refine a1D<|wpAny_holding<|thn (hi pins s1 σ H1 _ I1 q1) λiv s2 zz=>?_
 obtain⟨y,H2,I2,r2,q2⟩:=zz
 refine a1D<|wpAny_standAt<|a1D<|wpAny_holding<|thn (hs pins s2 σ H2 x y v ov iv u _ I2 r1 r2 r q2) λ_ s3 zz=>?_
 obtain⟨H3,I3,q3⟩:=zz
 exact wpAny_release ⟨σ,H3,I3,q3⟩
def SR(te:TE)(g:TG):TS:=λD σ H=>te σ H λx H1=>g x σ H1 D.nx
def Tz(he:PE X e te)(hg:PG X tg g)(hs:swapsWithSole [tg] e pos.line X.env=pure false:=by rfl)(hw:swappedStores [tg] e X.env=pure none:=by rfl)
  (h1:(assignEach [tg] X.env).map (·.2)=[assign tg X.env]:=by rfl):PS X (.Assign [tg] e pos) (SR te g):=by
 intro pins s σ H D I h
 refine wpAny_Assign_stores (thn (he pins s σ H _ I h) ?_) hs hw
 rintro v s1 ⟨x,H1,I1,r1,q1⟩
 rw[h1]
 exact thn (hg pins s1 σ H1 x v _ I1 r1 q1) λ_ s2 q=>q
def Tu(hN:X.N.Nodup)(hi:X.N[i]? = some x)(hx:Loc X.env.scope x)(he:PE X e te)(hs:swapsWith e (some<|.Name x pos') pos.line X.env=pure false:=by rfl)(hf:X.fn x=true\/X.env.scope.names.lookup x=some .local:=by rw[10]) :
  PS X (.Assign [.Name x pos'] e pos) (SR te<|JJ i):=by
 intro pins s σ H D I h
 refine wpAny_Assign_Name (thn (he pins s σ H _ I h) ?_) hs
 rintro v s1 ⟨y,H1,I1,r1,q1⟩
 exact S6 I1 hN hi hx r1 (λs2 I2=>⟨_,H1,I2,q1⟩) hf
def YX(i j:Nat)(ta:TA):TS:=λD σ H=>ta σ H λvs H1=>∃ v w,vs=[v,w]/\D.nx ((σ.set i<|some v).set j<|some w) H1
def Tv{kt k2 pt2}(hc:X.calm=true)(hN:X.N.Nodup)(hi:X.N[i]? = some x)(hj:X.N[j]? = some y)(hij:i≠j)
  (hx:X.env.scope.names.lookup x=some .local) (hy:X.env.scope.names.lookup y=some .local) (ha:PA X [a,b] ta)
  (hw:swappedStores [.Tuple [.Name x px,.Name y py] kt pt] (.Tuple [a,b] k2 pt2) X.env=pure (some [x,y]))
  (hs:swapsWithSole [.Tuple [.Name x px,.Name y py] kt pt] (.Tuple [a,b] k2 pt2) pos.line X.env=pure false:=by rfl) :
  PS X (.Assign [.Tuple [.Name x px,.Name y py] kt pt] (.Tuple [a,b] k2 pt2) pos) (YX i j ta):=by
 intro pins s σ H D I h
 rw[exec_Assign_arm]
 refine a1D<|wpAny_standAt ?_
 rw[hs]
 refine a1D<|a1Q ?_
 rw[if_neg<|by decide]
 refine a1D<|Tuple_<|thn (ha _ pins s σ H _ I h) λus s1 zz=>?_
 obtain⟨vs,H1,I1,r1,q1⟩:=zz
 obtain⟨v,w,e1,q1⟩:=q1
 subst e1
 obtain⟨u1,u2,rfl,rv,rw'⟩:∃ u1 u2,us=[u1,u2]/\l8 v u1/\l8 w u2:=by
  cases r1 with
  | cons p q =>
   cases q with
   | cons p' q' =>cases q';exact⟨_,_,rfl,p,p'⟩
 refine wpAny_newObj_type ?_ (by show 2<=sizeLine;decide)
 have I2:Inv X pins σ H1 { s1 with heap:=s1.heap.push { cls:=.type "tuple",data:=.seq [u1,u2].toArray } }:=I1.kept (t':=s1.toks) λb o e=>a1E _ e
 rw[hw]
 refine a1D<|a1Q ?_
 show wpAny (model X.prog X.w) X.A (do rule "assign.swapped-stores";let items <- unpackItems (.ref s1.heap.objs.size) 2 none;assignInOrder [λv=>bindName X.env y v,λv=>bindName X.env x v] items.reverse;pure Flow.next) _ _ _
 refine a1D<|wpAny_rule<|a1D<|unpackItems_tuple (items:=#[u1,u2]) (I.ok.hd hc) (IsTup.new s1.heap _) λh' hx'=>?_
 have I3:=I2.kept (h':=h') (t':=s1.toks) λb o e=>hx' b o (a14<|a1L e) e
 show wpAny _ _ (assignInOrder [λv=>bindName X.env y v,λv=>bindName X.env x v] [u2,u1] >>= λ_=>pure Flow.next) _ _ _
 refine a1D<|assignInOrder_cons<|wpAny_bindName<|S6 I3 hN hj (.inl hy) rw' (λs2 I4=>?_)<|.inr hy
 refine assignInOrder_cons<|wpAny_bindName<|S6 I4 hN hi (.inl hx) rv (λs3 I5=>assignInOrder_nil<|a1Q ?_)<|.inr hx
 rw[List.set_comm _ _<|Ne.symm hij]at I5
 exact⟨_,H1,I5,q1⟩
def SO(c:TT)(tb:TS):TS:=λD σ H=>∃ W:Nat->St->Hp->Prop,(∃ m,W m σ H)/\∀ m σ H,W m σ H ->
 c σ H λb H1=>if b=true then ∃ N:St->Hp->Prop,(∀ σ' H',N σ' H'->∃ m',m'<m/\W m' σ' H')/\tb { D with nx:=N,ct:=N,bk:=D.nx } σ H1 else D.nx σ H1
def Ij(hp:PassesOwn (model X.prog X.w) X.A X.env X.xe)(hc:PT X c tc)(hb:PSs X body tb):PS X (.While c body [] pos) (SO tc tb):=by
 intro pins s σ H D I h;obtain⟨W,⟨m0,w0⟩,turn⟩:=h;refine wpAny_While<|codeAny_whileLoop (λn s'=>∃ σ' H',Inv X pins σ' H' s'/\W n σ' H') ?_ m0 ⟨σ,H,I,w0⟩;rintro n s1 ⟨σ1,H1,I1,w1⟩;refine wpAny_passesOwn hp<|thn (hc pins s1 σ1 H1 _ I1<|turn n σ1 H1 w1) λb s2 zz=>?_;obtain⟨H2,I2,q2⟩:=zz;cases b with
 | true =>
  obtain⟨N,hN,q2⟩:=q2;rw[if_pos rfl];refine wpAny_passesOwn hp<|thn (hb pins s2 σ1 H2 _ I2 q2) λf s3 q3=>?_;cases f with
  | next =>obtain⟨σ3,H3,I3,n3⟩:=q3;obtain⟨m',hm,w3⟩:=hN σ3 H3 n3;exact⟨m',hm,σ3,H3,I3,w3⟩
  | cont =>obtain⟨σ3,H3,I3,n3⟩:=q3;obtain⟨m',hm,w3⟩:=hN σ3 H3 n3;exact⟨m',hm,σ3,H3,I3,w3⟩
  | brk=>exact q3
  | ret v=>exact q3
 | false =>rw[if_neg a12];exact wpAny_execs_nil ⟨σ1,H2,I2,q2⟩
structure It where
 go:Nat->Hp->Prop
 yld:Nat->Hp->V->Hp->Prop
 stop:Nat->Hp->Prop
def bH(X:Cx)(pins:List (Addr × Obj))(H:Hp)(b:Addr):Prop :=
 H b=none/\b≠X.env.locals/\b∉X.fs/\(b∈X.ex\/X.s₀.heap.objs.size<=b)/\(∀ x c,X.env.cells.lookup x=some c->c≠b)/\∀ p∈X.pn++pins,p.1≠b
def Inv.fpOk(I:Inv X pins σ H s)(hb:s.heap.objs.size<=b)(hn:H' b=none):bH X pins H' b:=by
 refine⟨hn,a2f<|a1F I.lt hb,I.nofs hb,.inr<|a1N I.sz hb,λx c e z=>?_,λp hp z=>?_⟩
 ·obtain⟨v,q⟩:=I.cell x c e;exact absurd (a1F q.lt<|by rw[z];exact hb)<|a2y _
 ·exact absurd (a1F (a1L (I.pin p hp).1)<|by rw[z];exact hb)<|a2y _
structure tX(P:Program)(w:World)(K:a1C)(tg:Expr)(J:It)(fp:List Addr)(it:Addr)(tn:Nat->Heap->Prop):Prop where
 mem:it∈fp
 obj:∀ i h,tn i h->∀ b∈fp,∃ o,h.get? b=some o/\∀ v,o.data ≠ .cell v
 keep:∀ i h h',tn i h->(∀ b∈fp,∀ o,h.get? b=some o->h'.get? b=some o)->tn i h'
 item:∀(X:Cx),X.prog=P->X.w=w->X.K=K->X.calm=true->∀(i:Nat) (pins:List (Addr × Obj)) (s:Shared) (σ:St) (H:Hp) (E:Value->Shared->Prop),Inv X pins σ H s->(∀ b∈fp,bH X pins H b)->tn i s.heap->J.go i H ->
  wpAny (model P w) X.A (pyNext (.ref it)) (λr s1=>∃ u,r=some u /\
   wpAny (model P w) X.A (letOwnedTupleGo tg (.ref it) u) (λ_ s2=>∃ x H',Inv X pins σ H' s2/\l8 x u/\J.yld i H x H'/\tn (i+1) s2.heap/\∀ b∈fp,H' b=none) E s1) E s
 done:∀(X:Cx),X.prog=P->X.w=w->X.K=K->X.calm=true->∀(i:Nat) (pins:List (Addr × Obj)) (s:Shared) (σ:St) (H:Hp) (E:Value->Shared->Prop),Inv X pins σ H s->(∀ b∈fp,bH X pins H b)->tn i s.heap->J.stop i H ->
  wpAny (model P w) X.A (pyNext (.ref it)) (λr s1=>r=none/\Inv X pins σ H s1) E s
 self:∀(A:Around) (i:Nat) (s:Shared) (Q:Value->Shared->Prop) (E:Value->Shared->Prop),tn i s.heap->Q (.ref it) s->wpAny (model P w) A (pyIter (.ref it)) Q E s
abbrev TI:=St->Hp->(It->Hp->Prop)->Prop
def PIE(X:Cx)(pins:List (Addr × Obj))(σ:St)(tg:Expr)(R:It->Hp->Prop)(itv:Value)(s2:Shared):Prop :=
 ∃(it:Addr) (fp:List Addr) (tn:Nat->Heap->Prop) (J:It) (H':Hp),itv = .ref it/\Inv X pins σ H' s2/\tX X.prog X.w X.K tg J fp it tn/\tn 0 s2.heap/\(∀ b∈fp,bH X pins H' b)/\R J H'
def PI(X:Cx)(tg iter:Expr)(wi:TI):Prop :=
 ∀(pins:List (Addr × Obj)) (s:Shared) (σ:St) (H:Hp) (R:It->Hp->Prop),Inv X pins σ H s->wi σ H R ->
  wpAny (model X.prog X.w) X.A (eval iter X.env) (λv s1=>wpAny (model X.prog X.w) X.A (pyIter v) (PIE X pins σ tg R) X.xe s1) X.xe s
def xm(ho:s.heap.get? it=some o)(hc:o.cls = .type n)(hd:o.data = .fields vs)
  (hn:["enumerate","zip","dict_itemiterator","dict_reverseitemiterator","odict_iterator","itertools.zip_longest","itertools.pairwise"].contains n=false) (hQ:Q () s):wpAny M A (letOwnedTupleGo tg (.ref it) u) Q E s:=by
 unfold letOwnedTupleGo
 cases tg<;>first
  | exact a1Q hQ
  | (cases u<;>first
    | exact a1Q hQ
    | (refine a1D<|wpAny_load ho ?_;rw[hc,hd];show wpAny M A (if (["enumerate","zip","dict_itemiterator","dict_reverseitemiterator","odict_iterator","itertools.zip_longest","itertools.pairwise"].contains n && vs[0]? == some (rawInt _))=true then _ else _) Q E s;rw[if_neg<|by intro h;rw[hn,a43]at h;cases h];exact a1Q hQ))
def Itl(K:a1C)(a:Addr):It :=
 ⟨λi H=>∃ xs x,SqL K H a xs/\xs[i]? = some x,λi H x H'=>H'=H/\∀ xs,SqL K H a xs->xs[i]? = some x,λi H=>∃ xs,SqL K H a xs/\xs.length<=i⟩
def Itt(K:a1C)(a:Addr):It :=
 ⟨λi H=>∃ xs x,SqT K H a xs/\xs[i]? = some x,λi H x H'=>H'=H/\∀ xs,SqT K H a xs->xs[i]? = some x,λi H=>∃ xs,SqT K H a xs/\xs.length<=i⟩
def Itr(lo:Int)(n:Nat):It:=⟨λi _=>i<n,λi H x H'=>H'=H/\x = .int (lo+i),λi _=>n<=i⟩
def Dp{P:Program}{w:World}{K:a1C}{tg:Expr}(a it:Addr):tX P w K tg (Itl K a) [it] it (λi h=>h.IsListIter it a i) where
 mem:=by simp
 obj:=λi h st b hb=>by
  have e:b=it:=by simpa using hb
  subst e;obtain⟨o,e,c,d⟩:=st;exact⟨o,e,λv z=>by rw[d]at z;cases z⟩
 keep:=λi h h' st k=>st.at λo e=>k it (by simp) o e
 item:=by intro X hP hw hK hc i pins s σ H E I hf st hg;subst hP hw hK;obtain⟨xs,x,hq,hx⟩:=hg;obtain⟨its,rv,p,hz⟩:=I.list hq;obtain⟨u,hu,ru⟩:=rv.get hx;obtain⟨f0,f1,f2,f3,f4,f5⟩:=hf it (by simp);refine wpAny_pyNext_list_item st p.isList (by simpa using hu) λh' st' sb=>?_;have I1:=I.turned (t':=s.toks) (λb o hb e=>(sb.2 b hb).trans e) f0 f1 f3 f4 f5;obtain⟨o,e,c,d⟩:=id st';exact⟨u,rfl,xm e c d (by decide) ⟨x,H,I1,ru,⟨rfl,λys hy=>by rw[I.list_inj hy hq];exact hx⟩,st',λb hb=>(hf b hb).1⟩⟩
 done:=by intro X hP hw hK hc i pins s σ H E I hf st hg;subst hP hw hK;obtain⟨xs,hq,hx⟩:=hg;obtain⟨its,rv,p,hz⟩:=I.list hq;obtain⟨f0,f1,f2,f3,f4,f5⟩:=hf it (by simp);have hl:=rv.length;exact wpAny_pyNext_list_end (I.ok.hd hc) st p.isList (by simp;omega) λh' eb=>⟨rfl,I.turned (t':=s.toks) (λb o hb e=>eb b o hb e) f0 f1 f3 f4 f5⟩
 self:=λ_ _ _ _ _ st h=>wpAny_pyIter_listiter st h
def xY{P:Program}{w:World}{K:a1C}{tg:Expr}(a it:Addr):tX P w K tg (Itt K a) [it] it (λi h=>h.IsTupleIter it a i) where
 mem:=by simp
 obj:=λi h st b hb=>by
  have e:b=it:=by simpa using hb
  subst e;obtain⟨o,e,c,d⟩:=st;exact⟨o,e,λv z=>by rw[d]at z;cases z⟩
 keep:=λi h h' st k=>st.at λo e=>k it (by simp) o e
 item:=by intro X hP hw hK hc i pins s σ H E I hf st hg;subst hP hw hK;obtain⟨xs,x,hq,hx⟩:=hg;obtain⟨its,rv,p,hz⟩:=I.tuple hq;obtain⟨u,hu,ru⟩:=rv.get hx;obtain⟨f0,f1,f2,f3,f4,f5⟩:=hf it (by simp);refine wpAny_pyNext_tuple_item st (p) (by simpa using hu) λh' st' sb=>?_;have I1:=I.turned (t':=s.toks) (λb o hb e=>(sb.2 b hb).trans e) f0 f1 f3 f4 f5;obtain⟨o,e,c,d⟩:=id st';exact⟨u,rfl,xm e c d (by decide) ⟨x,H,I1,ru,⟨rfl,λys hy=>by rw[I.tuple_inj hy hq];exact hx⟩,st',λb hb=>(hf b hb).1⟩⟩
 done:=by intro X hP hw hK hc i pins s σ H E I hf st hg;subst hP hw hK;obtain⟨xs,hq,hx⟩:=hg;obtain⟨its,rv,p,hz⟩:=I.tuple hq;obtain⟨f0,f1,f2,f3,f4,f5⟩:=hf it (by simp);have hl:=rv.length;exact wpAny_pyNext_tuple_end (I.ok.hd hc) st (p) (by simp;omega) λh' eb=>⟨rfl,I.turned (t':=s.toks) (λb o hb e=>eb b o hb e) f0 f1 f3 f4 f5⟩
 self:=λ_ _ _ _ _ st h=>wpAny_pyIter_tupleiter st h
def xZ{P:Program}{w:World}{K:a1C}{tg:Expr}(it:Addr)(lo:Int)(n:Nat):tX P w K tg (Itr lo n) [it] it (λi h=>IsRangeIter h it (lo+(i:Nat)*1) ((n:Int) - (i:Nat)) 1) where
 mem:=by simp
 obj:=λi h st b hb=>by grind
 keep:=λi h h' st k=>k it (by simp) _ st
 item:=by intro X hP hw hK hc i pins s σ H E I hf st hg;subst hP hw hK;obtain⟨f0,f1,f2,f3,f4,f5⟩:=hf it (by simp);have W:=Walks.range (prog:=X.prog) (w:=X.w) (I.ok.hd hc) it lo 1 n;refine W.item i s _ _ hg st λv h' tk hv st' kk=>?_;obtain⟨t,rfl⟩:=hv;have I1:Inv X pins σ H { s with heap:=h',toks:=tk }:=I.turned (λb o hb e=>kk b o (by simpa using hb) e) f0 f1 f3 f4 f5;refine⟨_,rfl,xm st' rfl rfl (by decide) ⟨.int<|lo+i,H,I1,⟨t,?_⟩,⟨rfl,rfl⟩,st',λb hb=>(hf b hb).1⟩⟩;simp
 done:=by intro X hP hw hK hc i pins s σ H E I hf st hg;obtain⟨f0,f1,f2,f3,f4,f5⟩:=hf it (by simp);exact wpAny_pyNext_range_end (I.ok.hd hc) st (by have:n<=i:=hg;omega) λh' eb=>⟨rfl,I.turned (t':=s.toks) (λb o hb e=>eb b o hb e) f0 f1 f3 f4 f5⟩
 self:=λ_ _ _ _ _ st h=>wpAny_pyIter_rangeiter st h
def Ie{pins:List (Addr × Obj)}{σ:St}{H:Hp}{s:Shared}{R:It->Hp->Prop}{E:Value->Shared->Prop}{lo hi:Int}{t u v:Tok}{tk:Nat}(I:Inv X pins σ H s)(h1:-(2 ^ 62)<=lo)(h2:lo<2 ^ 62)(h3:-(2 ^ 62)<=hi)(h4:hi<2 ^ 62)
  (q:R (Itr lo (hi - lo).toNat) H):wpAny (model X.prog X.w) X.A (pyIter<|.ref s.heap.objs.size) (PIE X pins σ tg R) E { s with heap:=s.heap.push { cls:=.type "range",data:=.fields #[.int lo t,.int hi u,.int 1 v] },toks:=tk }:=by
 refine wpAny_pyIter_range (IsRange.new ..) (small_one h1 h2 h3 h4) ?_
 have I1:Inv X pins σ H { s with heap:=s.heap.push { cls:=.type "range",data:=.fields #[.int lo t,.int hi u,.int 1 v] },toks:=tk }:=I.kept λb o e=>a1E _ e
 refine⟨(s.heap.push { cls:=.type "range",data:=.fields #[.int lo t,.int hi u,.int 1 v] }).objs.size,[(s.heap.push { cls:=.type "range",data:=.fields #[.int lo t,.int hi u,.int 1 v] }).objs.size],_,_,H,rfl,
  I1.kept (t':=tk) λb o e=>a1E _ e,xZ _ lo (hi - lo).toNat,?_,λb hb=>?_,q⟩
 ·have e1:lo+((0:Nat):Int)*1=lo:=by simp
  have e2:(((hi - lo).toNat:Nat):Int) - ((0:Nat):Int)=Builtin.Range.rangeSize lo hi 1:=by rw[rangeSize_one];split<;>omega
  show IsRangeIter _ _ (lo+((0:Nat))*1) ((((hi - lo).toNat):Int) - ((0:Nat))) 1
  rw[e1,e2]
  exact a1P _ rfl
 ·have e:b=(s.heap.push { cls:=.type "range",data:=.fields #[.int lo t,.int hi u,.int 1 v] }).objs.size:=by simpa using hb
  subst e
  exact I1.fpOk (a1U _)<|I1.hok.fresh<|a1U _
def XS(ta:TA):TI:=λσ H R=>ta σ H λvs H1=>∃ j:Int,vs=[.int j]/\-(2 ^ 62)<=j/\j<2 ^ 62/\R (Itr 0 j.toNat) H1
def DG{a:Expr}{ta:TA}{p pos:Pos}(hg:Gl X "range")(hm:X.mg "range" = none)(ha:PA X [a] ta)(hs:starEach [a] X.env=[(false,eval a X.env)]:=by rfl):PI X tg (.Call (.Name "range" p) [a] [] pos) (XS ta):=by
 intro pins s σ H R I h;refine Call_<|K7 I hg hm boot_range<|PyProof.Rows.callWith_type1 (thn (ha pos pins s σ H _ I h) ?_) hs rfl;rintro us s1 ⟨vs,H1,I1,r1,q1⟩;obtain⟨j,e,q1,q2,q⟩:=q1;subst e;cases r1 with
 | cons r rr =>cases rr;obtain⟨t,rfl⟩:=r;exact call_range_1<|Ie I1 (by omega) (by omega) q1 q2<|by simpa using q
def Zc(wi:TI)(g:TG)(tb:TS):TS:=λD σ H=>wi σ H λJ H1=>∃ W:Nat->Nat->St->Hp->Prop,(∃ m,W 0 m σ H1)/\∀ i m σ H,W i m σ H ->
 (J.stop i H/\D.nx σ H)\/(J.go i H/\∃ N:St->Hp->Prop,(∀ σ' H',N σ' H'->∃ m',m'<m/\W (i+1) m' σ' H')/\∀ x H',J.yld i H x H'->g x σ H' λσ2 H2=>tb { D with nx:=N,ct:=N,bk:=D.nx } σ2 H2)
def rV(fp:List Addr)(h:Heap):List (Addr × Obj):=fp.filterMap λb=>(h.get? b).map λo=>(b,o)
def G7(hb:b∈fp)(e:h.get? b=some o):(b,o)∈rV fp h:=a3k.mpr ⟨b,hb,by rw[e];rfl⟩
def DO(hp:p∈rV fp h):p.1∈fp/\h.get? p.1=some p.2:=by
 obtain⟨b,hb,e⟩:=a3k.mp hp;cases q:h.get? b with
 | none=>rw[q]at e;cases e
 | some o =>rw[q]at e;have e':=Option.some.inj e;subst e';exact⟨hb,q⟩
def Inv.pinned(I:Inv X pins σ H s)(hf:∀ b∈fp,bH X pins H b)(ho:∀ b∈fp,∃ o,s.heap.get? b=some o/\∀ v,o.data ≠ .cell v):Inv X (pins++rV fp s.heap) σ H s :=
 I.pins_of λp hp=>(a10.mp hp).elim (λz=>I.pin p<|a2b _ z) λz=>by obtain⟨hb,e⟩:=DO z;obtain⟨f0,f1,f2,_⟩:=hf p.1 hb;obtain⟨o,e',d⟩:=ho p.1 hb;rw[e]at e';cases e';exact⟨e,f0,f1,f2,d⟩
def Inv.unpinned(I:Inv X (pins++pl) σ H s):Inv X pins σ H s:=I.pins_of λp hp=>I.pin p<|a2b _<|a2V _ hp
def Tw(hp:PassesOwn (model X.prog X.w) X.A X.env X.xe)(hc:X.calm=true)(hi:PI X tg iter wi)(hg:PG X tg g)(hb:PSs X body tb)
  (hs:∀ x,foldedSetIterable iter X.env x=pure x:=by intro _;rfl):PS X (.For tg iter body [] pos) (Zc wi g tb):=by
 intro pins s σ H D I h
 refine wpAny_For (thn (hi pins s σ H _ I h) λv s1 h1=>thn h1 λitv s2 h2=>?_) hs
 obtain⟨it,fp,tn,J,H2,e,I2,T,st2,f2,W,⟨m0,w0⟩,turn⟩:=h2
 subst e
 have stat:∀{H':Hp},(∀ b∈fp,H' b=none)->∀ b∈fp,bH X pins H' b:=λhn b hb=>⟨hn b hb,(f2 b hb).2⟩
 refine codeAny_forLoop_any (λn s'=>∃ i σ' H',Inv X pins σ' H' s'/\tn i s'.heap/\(∀ b∈fp,H' b=none)/\W i n σ' H') ?_ m0 ⟨0,σ,H2,I2,st2,λb hb=>(f2 b hb).1,w0⟩
 rintro n s3 ⟨i,σ3,H3,I3,st3,fr3,w3⟩
 rcases turn i n σ3 H3 w3 with⟨stop,qn⟩|⟨go,N,hN,step⟩
 ·refine wpAny_passesOwn hp (thn (T.done X rfl rfl rfl hc i pins s3 σ3 H3 X.xe I3 (stat fr3) st3 stop) λr s4 zz=>?_)
  obtain⟨hr,I4⟩:=zz
  subst hr
  exact wpAny_execs_nil ⟨σ3,H3,I4,qn⟩
 ·refine wpAny_passesOwn hp (thn (T.item X rfl rfl rfl hc i pins s3 σ3 H3 X.xe I3 (stat fr3) st3 go) λr s4 zz=>?_)
  obtain⟨u,hr,h4⟩:=zz
  subst hr
  refine wpAny_passesOwn hp<|thn h4 λ_ s5 zz=>?_
  obtain⟨x,H5,I5,r5,y5,st5,fr5⟩:=zz
  have I5':=I5.pinned (stat fr5)<|T.obj _ _ st5
  refine wpAny_passesOwn hp<|thn (hg _ s5 σ3 H5 x u _ I5' r5<|step x H5 y5) λ_ s6 zz=>?_
  obtain⟨σ6,H6,I6,q6⟩:=zz
  refine wpAny_passesOwn hp<|thn (hb _ s6 σ6 H6 _ I6 q6) λf s7 q7=>?_
  have again:∀{σ7:St} {H7:Hp},Inv X (pins++rV fp s5.heap) σ7 H7 s7->N σ7 H7->∃ m,m<n/\∃ i σ' H',Inv X pins σ' H' s7/\tn i s7.heap/\(∀ b∈fp,H' b=none)/\W i m σ' H':=λ{σ7 H7} I7 n7=>by obtain⟨m',hm,w7⟩:=hN σ7 H7 n7;refine⟨m',hm,i+1,σ7,H7,I7.unpinned,T.keep _ _ _ st5 λb hb o e=>(I7.pin (b,o)<|a2b _<|a2b _<|G7 hb e).1,λb hb=>?_,w7⟩;obtain⟨o,e,d⟩:=T.obj _ _ st5 b hb;exact(I7.pin (b,o)<|a2b _<|a2b _<|G7 hb e).2.1
  cases f with
  | next=>obtain⟨σ7,H7,I7,n7⟩:=q7;exact again I7 n7
  | cont=>obtain⟨σ7,H7,I7,n7⟩:=q7;exact again I7 n7
  | brk=>obtain⟨σ7,H7,I7,q7⟩:=q7;exact⟨σ7,H7,I7.unpinned,q7⟩
  | ret v=>obtain⟨x7,σ7,H7,I7,r7,q7⟩:=q7;exact⟨x7,σ7,H7,I7.unpinned,r7,q7⟩
abbrev R2:=V->V->Hp->VK->Prop
def OpR(X:Cx)(f:Value->Value->Sem Value)(r:R2):Prop :=
 ∀(pins:List (Addr × Obj)) (s:Shared) (σ:St) (H:Hp) (x y:V) (v u:Value) (Q:VK),Inv X pins σ H s->l8 x v->l8 y u->r x y H Q ->
  wpAny (model X.prog X.w) X.A (f v u) (EP X pins σ Q) X.xe s
def UnR(X:Cx)(f:Value->Sem Value)(r:V->Hp->VK->Prop):Prop :=
 ∀(pins:List (Addr × Obj)) (s:Shared) (σ:St) (H:Hp) (x:V) (v:Value) (Q:VK),Inv X pins σ H s->l8 x v->r x H Q ->
  wpAny (model X.prog X.w) X.A (f v) (EP X pins σ Q) X.xe s
def p9(X:Cx)(f:Value)(r:List V->Hp->VK->Prop):Prop :=
 ∀(pins:List (Addr × Obj)) (s:Shared) (σ:St) (H:Hp) (xs:List V) (us:List Value) (Q:VK),Inv X pins σ H s->j8 xs us->r xs H Q ->
  wpAny (model X.prog X.w) X.A (call f us) (EP X pins σ Q) X.xe s
def tOp(r:R2)(ta tb:TE):TE:=λσ H Q=>ta σ H λx H1=>tb σ H1 λy H2=>r x y H2 Q
def tUn(r:V->Hp->VK->Prop)(ta:TE):TE:=λσ H Q=>ta σ H λx H1=>r x H1 Q
def rI(C:Int->Int->Prop)(g:Int->Int->V):R2:=λx y H Q=>∃ i j,x = .int i/\y = .int j/\C i j/\Q (g i j) H
def rI0(g:Int->Int->V):R2:=λx y H Q=>∃ i j,x = .int i/\y = .int j/\Q (g i j) H
def rU(g:Int->V):V->Hp->VK->Prop:=λx H Q=>∃ i,x = .int i/\Q (g i) H
def Pq(ha:PE X a ta)(hb:PE X b tb){pins:List (Addr × Obj)}{s:Shared}{σ:St}{H:Hp}{R:V->V->Hp->Prop}(I:Inv X pins σ H s)
  (h:ta σ H λx H1=>tb σ H1 λy H2=>R x y H2) {Q:Value->Shared->Prop} {f:Value->Value->Sem Value}
  (hf:∀ v u s2 x y H2,Inv X pins σ H2 s2->l8 x v->l8 y u->R x y H2->wpAny (model X.prog X.w) X.A (f v u) Q X.xe s2) :
  wpAny (model X.prog X.w) X.A (eval a X.env) (λv s₁=>wpAny (model X.prog X.w) X.A (eval b X.env) (λu s₂=>wpAny (model X.prog X.w) X.A (f v u) Q X.xe s₂) X.xe s₁) X.xe s:=by
 refine thn (ha pins s σ H _ I h) λv s1 zz=>?_
 obtain⟨x,H1,I1,r1,q1⟩:=zz
 refine thn (hb pins s1 σ H1 _ I1 q1) λu s2 zz=>?_
 obtain⟨y,H2,I2,r2,q2⟩:=zz
 exact hf v u s2 x y H2 I2 r1 r2 q2
def Rw{op:Operator}{r:R2}(ho:OpR X (binaryOp op) r)(ha:PE X a ta)(hb:PE X b tb):PE X (.BinOp a op b pos) (tOp r ta tb):=by intro pins s σ H Q I h;exact wpAny_BinOp<|Pq ha hb I h λv u s2 x y H2 I2 rx ry q=>ho pins s2 σ H2 x y v u Q I2 rx ry q
def Xy(ho:UnR X (unaryOp op) r)(ha:PE X a ta):PE X (.UnaryOp op a pos) (tUn r ta):=by intro pins s σ H Q I h;exact UnaryOp_<|thn (ha pins s σ H _ I h) λv s1 ⟨x,H1,I1,r1,q1⟩=>ho pins s1 σ H1 x v Q I1 r1 q1
def opI{f:Value->Value->Sem Value}{C:Int->Int->Prop}{g:Int->Int->Int}
  (rule:∀ i j (t u:Tok) (s:Shared) (Q:Value->Shared->Prop) (E:Value->Shared->Prop),C i j->Q (.int (g i j) s.toks) { s with toks:=s.toks+1 }->wpAny (model X.prog X.w) X.A (f (.int i t)<|.int j u) Q E s) :
  OpR X f (rI C λi j=>.int<|g i j):=by
 intro pins s σ H x y v u Q I rx ry h
 obtain⟨i,j,rfl,rfl,hc,q⟩:=h
 obtain⟨t,rfl⟩:=rx
 obtain⟨t',rfl⟩:=ry
 exact rule i j t t' s _ _ hc ⟨.int<|g i j,H,I.tok _,⟨_,rfl⟩,q⟩
def XF{f:Value->Value->Sem Value}{g:Int->Int->Int}
  (rule:∀ i j (t u:Tok) (s:Shared) (Q:Value->Shared->Prop) (E:Value->Shared->Prop),Q (.int (g i j) s.toks) { s with toks:=s.toks+1 }->wpAny (model X.prog X.w) X.A (f (.int i t)<|.int j u) Q E s) :
  OpR X f (rI0 λi j=>.int<|g i j):=by
 intro pins s σ H x y v u Q I rx ry h
 obtain⟨i,j,rfl,rfl,q⟩:=h
 obtain⟨t,rfl⟩:=rx
 obtain⟨t',rfl⟩:=ry
 exact rule i j t t' s _ _ ⟨.int<|g i j,H,I.tok _,⟨_,rfl⟩,q⟩
def Uj{f:Value->Value->Sem Value}{g:Int->Int->Bool}
  (rule:∀ i j (t u:Tok) (s:Shared) (Q:Value->Shared->Prop) (E:Value->Shared->Prop),Q (.bool<|g i j) s->wpAny (model X.prog X.w) X.A (f (.int i t)<|.int j u) Q E s) :
  OpR X f (rI0 λi j=>.bl<|g i j):=by
 intro pins s σ H x y v u Q I rx ry h
 obtain⟨i,j,rfl,rfl,q⟩:=h
 obtain⟨t,rfl⟩:=rx
 obtain⟨t',rfl⟩:=ry
 exact rule i j t t' s _ _ ⟨.bl<|g i j,H,I,rfl,q⟩
def VG(i j:Int):Prop:=0<=j/\j<=1000000/\i.natAbs<2 ^ 64
def Ui:OpR X (binaryOp .Add) (rI0 λi j=>.int<|i+j):=XF λ_ _ _ _ _ _ _ q=>add_int q
def Ud:OpR X (binaryOp .Sub) (rI0 λi j=>.int<|i - j):=XF λ_ _ _ _ _ _ _ q=>sub_int q
def Uh:OpR X (binaryOp .Mod) (rI (λ_ j=>0<j) λi j=>.int<|i % j):=opI λi j _ _ _ _ _ hc q=>by have h1:=hc;exact mod_int' (by omega)<|by rw[a4c i<|by omega];exact q
def Ug:OpR X (binaryOp .Pow) (rI VG λi j=>.int<|i ^ j.toNat):=opI λ_ _ _ _ _ _ _ hc q=>pow_int_small hc.1 hc.2.1 hc.2.2 q
def unI{f:Value->Sem Value}{g:Int->Int}
  (rule:∀ i (t:Tok) (s:Shared) (Q:Value->Shared->Prop) (E:Value->Shared->Prop),Q (.int (g i) s.toks) { s with toks:=s.toks+1 }->wpAny (model X.prog X.w) X.A (f<|.int i t) Q E s) :
  UnR X f (rU λi=>.int<|g i):=by
 intro pins s σ H x v Q I rx h
 obtain⟨i,rfl,q⟩:=h
 obtain⟨t,rfl⟩:=rx
 exact rule i t s _ _ ⟨.int<|g i,H,I.tok _,⟨_,rfl⟩,q⟩
def SH:UnR X (unaryOp .USub) (rU λi=>.int (-i)):=unI λ_ _ _ _ _ q=>neg_int q
def WY:V->V->Bool
 | .non,.non=>true|.non,.int _=>true|.int _,.non=>true|.non,.bl _=>true|.bl _,.non=>true|.non,.str _=>true|.str _,.non=>true
 | .int _,.int _=>true|.bl _,.bl _=>true|.str _,.str _=>true|.byt _,.byt _=>true
 | .int _,.str _=>true|.str _,.int _=>true|.bl _,.str _=>true|.str _,.bl _=>true
 | _,_=>false
def rEq:R2:=λx y H Q=>WY x y=true/\Q (.bl<|decide (x=y)) H
def rNe:R2:=λx y H Q=>WY x y=true/\Q (.bl<|!decide (x=y)) H
def CL:decide (V.int i=V.int j)=(i == j):=by rw[a3n];simp
def Kq:decide (V.bl i=V.bl j)=(i == j):=by rw[a3n];simp
def CK:decide (V.str i=V.str j)=(i == j):=by rw[a3n];simp
def CM:decide (V.byt i=V.byt j)=(i.toList == j.toList):=by rw[a3n];simp
def o6(I:Inv X pins σ H s)(q:Q (.bl k) H)(e:k=k'):EP X pins σ Q (.bool k') s:=by subst e;exact⟨.bl k,H,I,rfl,q⟩
def Ry:OpR X (compareOp .Eq) rEq:=by
 intro pins s σ H x y v u Q I rx ry h;obtain⟨hs,q⟩:=h;cases x with
 | non =>
  cases rx;cases y with
  | non=>cases ry;exact PySem.EqNone.eq_none_none<|o6 I q<|by simp
  | bl j=>cases ry;exact PySem.EqNone.eq_none_bool<|o6 I q<|by simp
  | int j=>obtain⟨t',rfl⟩:=ry;exact PySem.EqNone.eq_none_int<|o6 I q<|by simp
  | str j=>obtain⟨t',rfl⟩:=ry;exact PySem.EqNone.eq_none_str<|o6 I q<|by simp
  | _=>exact absurd (hs) a12
 | bl i =>
  cases rx;cases y with
  | non=>cases ry;exact PySem.EqNone.eq_bool_none<|o6 I q<|by simp
  | bl j=>cases ry;exact eq_bool<|o6 I q Kq
  | str j=>obtain⟨t',rfl⟩:=ry;exact PySem.EqMixed.eq_bool_str<|o6 I q<|by simp
  | _=>exact absurd (hs) a12
 | int i =>
  obtain⟨t,rfl⟩:=rx;cases y with
  | non=>cases ry;exact PySem.EqNone.eq_int_none<|o6 I q<|by simp
  | int j=>obtain⟨t',rfl⟩:=ry;exact eq_int<|o6 I q CL
  | str j=>obtain⟨t',rfl⟩:=ry;exact PySem.EqMixed.eq_int_str<|o6 I q<|by simp
  | _=>exact absurd (hs) a12
 | str i =>
  obtain⟨t,rfl⟩:=rx;cases y with
  | non=>cases ry;exact PySem.EqNone.eq_str_none<|o6 I q<|by simp
  | bl j=>cases ry;exact PySem.EqMixed.eq_str_bool<|o6 I q<|by simp
  | int j=>obtain⟨t',rfl⟩:=ry;exact PySem.EqMixed.eq_str_int<|o6 I q<|by simp
  | str j=>obtain⟨t',rfl⟩:=ry;exact eq_str<|o6 I q CK
  | _=>exact absurd (hs) a12
 | byt i =>
  obtain⟨t,rfl⟩:=rx;cases y with
  | byt j=>obtain⟨t',rfl⟩:=ry;exact PySem.W.eq_bytes<|o6 I q CM
  | _=>exact absurd (hs) a12
 | _=>cases y<;>exact absurd (hs) a12
def Rx:OpR X (compareOp .NotEq) rNe:=by
 intro pins s σ H x y v u Q I rx ry h;obtain⟨hs,q⟩:=h;cases x with
 | non =>
  cases rx;cases y with
  | non=>cases ry;exact PySem.EqNone.ne_none_none<|o6 I q<|by simp
  | bl j=>cases ry;exact PySem.EqNone.ne_none_bool<|o6 I q<|by simp
  | int j=>obtain⟨t',rfl⟩:=ry;exact PySem.EqNone.ne_none_int<|o6 I q<|by simp
  | str j=>obtain⟨t',rfl⟩:=ry;exact PySem.EqNone.ne_none_str<|o6 I q<|by simp
  | _=>exact absurd (hs) a12
 | bl i =>
  cases rx;cases y with
  | non=>cases ry;exact PySem.EqNone.ne_bool_none<|o6 I q<|by simp
  | bl j=>cases ry;exact ne_bool<|o6 I q<|congrArg not Kq
  | str j=>obtain⟨t',rfl⟩:=ry;exact PySem.EqMixed.ne_bool_str<|o6 I q<|by simp
  | _=>exact absurd (hs) a12
 | int i =>
  obtain⟨t,rfl⟩:=rx;cases y with
  | non=>cases ry;exact PySem.EqNone.ne_int_none<|o6 I q<|by simp
  | int j=>obtain⟨t',rfl⟩:=ry;exact ne_int<|o6 I q<|congrArg not CL
  | str j=>obtain⟨t',rfl⟩:=ry;exact PySem.EqMixed.ne_int_str<|o6 I q<|by simp
  | _=>exact absurd (hs) a12
 | str i =>
  obtain⟨t,rfl⟩:=rx;cases y with
  | non=>cases ry;exact PySem.EqNone.ne_str_none<|o6 I q<|by simp
  | bl j=>cases ry;exact PySem.EqMixed.ne_str_bool<|o6 I q<|by simp
  | int j=>obtain⟨t',rfl⟩:=ry;exact PySem.EqMixed.ne_str_int<|o6 I q<|by simp
  | str j=>obtain⟨t',rfl⟩:=ry;exact ne_str<|o6 I q<|congrArg not CK
  | _=>exact absurd (hs) a12
 | byt i =>
  obtain⟨t,rfl⟩:=rx;cases y with
  | byt j=>obtain⟨t',rfl⟩:=ry;exact PySem.W.ne_bytes<|o6 I q<|congrArg not CM
  | _=>exact absurd (hs) a12
 | _=>cases y<;>exact absurd (hs) a12
def XC:OpR X (compareOp .Lt) (rI0 λi j=>.bl<|decide (i<j)):=Uj λ_ _ _ _ _ _ _ q=>lt_int q
def XD:OpR X (compareOp .Gt) (rI0 λi j=>.bl<|decide (j<i)):=Uj λ_ _ _ _ _ _ _ q=>gt_int q
def XE:OpR X (compareOp .GtE) (rI0 λi j=>.bl<|decide (j<=i)):=Uj λ_ _ _ _ _ _ _ q=>ge_int q
def si:OpR X (compareOp .NotIn) (λx y H Q=>∃ i j,x = .str i/\y = .str j/\Q (.bl<|!(!(Builtin.Str.occurrences j i 0 j.length 1).isEmpty)) H):=by intro pins s σ H x y v u Q I rx ry h;obtain⟨i,j,rfl,rfl,q⟩:=h;obtain⟨t,rfl⟩:=rx;obtain⟨t',rfl⟩:=ry;exact notIn_str<|o6 I q rfl
def IU(b:Expr)(h:op ≠ .In:=by decide)(h2:op ≠ .NotIn:=by decide):behindInMarks op b=false:=by
 have e1:(op == CmpOp.In)=false:=by cases op<;>first|rfl|exact absurd rfl h
 have e2:(op == CmpOp.NotIn)=false:=by cases op<;>first|rfl|exact absurd rfl h2
 cases b<;>simp[behindInMarks,e1,e2]
def NQ{op:CmpOp}{r:R2}(ho:OpR X (compareOp op) r)(ha:PE X a ta)(hb:PE X b tb)(hm:behindInMarks op b=false):PE X (.Compare a [op] [b] pos) (tOp r ta tb):=by intro pins s σ H Q I h;exact wpAny_Compare1 (Pq ha hb I h λv u s2 x y H2 I2 rx ry q=>ho pins s2 σ H2 x y v u Q I2 rx ry q) hm
def WH(t:TE):TT:=λσ H Q=>t σ H λx H'=>∃ k,x = .bl k/\Q k H'
def rT(ho:OpR X (compareOp op) r)(ha:PE X a ta)(hb:PE X b tb)(hm:behindInMarks op b=false):PT X (.Compare a [op] [b] pos) (WH<|tOp r ta tb):=by
 intro pins s σ H Q I h;refine wpAny_isTrue_Compare1 (thn (ha pins s σ H _ I h) λv s1 ⟨x,H1,I1,r1,q1⟩=>thn (hb pins s1 σ H1 _ I1 q1) λu s2 ⟨y,H2,I2,r2,q2⟩ =>
  thn (ho pins s2 σ H2 x y v u _ I2 r1 r2 q2) λc s3 ⟨z,H3,I3,r3,k,e,q3⟩=>?_) hm
 subst e;cases r3;exact wpAny_truthy_bool ⟨H3,I3,q3⟩
def mP:(sizeLine:Nat)<2 ^ 63:=by rw[sizeLine_eq];decide
def yw:OpR X (binaryOp .Add) (λx y H Q=>∃ i j,x = .str i/\y = .str j/\i.length+j.length<=sizeLine/\Q (.str<|i++j) H):=by intro pins s σ H x y v u Q I rx ry h;obtain⟨i,j,rfl,rfl,hz,q⟩:=h;obtain⟨t,rfl⟩:=rx;obtain⟨t',rfl⟩:=ry;exact add_str (λt' tk=>⟨.str<|i++j,H,I.tok _,⟨_,rfl⟩,q⟩) hz
def xM(b:Expr):Prop:=∀ o i,subscripted b false o i=operate [o,i] (getItem o i)
def we(ha:PE X a ta)(hb:PE X b tb)(hs:xM b) :
  PE X (.Subscript a b pos) (tOp (λx y H Q=>∃ z i c,x = .str z/\y = .int i/\0<=i/\i<2 ^ 63/\i<z.length/\z.cps[i.toNat]? = some c/\Q (.str ⟨#[c]⟩) H) ta tb):=by
 intro pins s σ H Q I h
 refine Subscript_<|Pq ha hb I h λv u s2 x y H2 I2 rx ry q=>?_
 obtain⟨z,i,c,rfl,rfl,h0,h63,h1,hc,q⟩:=q
 obtain⟨t,rfl⟩:=rx
 obtain⟨t',rfl⟩:=ry
 have e:=PySem.StrLaws.seqIndex_nonneg h0 h1
 exact tail_any (typeIs_str s2 z t) slot_str_getitem.lookup (getItem_str (by have e1:decide (i < -(2 ^ 63:Int))=false:=decide_eq_false (by omega);have e2:decide (i>=2 ^ 63)=false:=decide_eq_false (by omega);rw[e1,e2]<;>rfl) (by rw[e];exact hc) ⟨.str ⟨#[c]⟩,H2,I2.tok _,⟨_,rfl⟩,q⟩)<|hs _ _
def L5(r:j8 [x] us):∃ u,us=[u]/\l8 x u:=by
 cases r with
 | cons r1 r2=>cases r2;exact⟨_,rfl,r1⟩
def Gi(r:j8 [x,y] us):∃ u w',us=[u,w']/\l8 x u/\l8 y w':=by
 cases r with
 | cons r1 r2 =>
  cases r2 with
  | cons r3 r4=>cases r4;exact⟨_,_,rfl,r1,r3⟩
def KS:p9 X (.builtin "abs") (λxs H Q=>∃ i,xs=[.int i]/\Q (.int (if i<0 then -i else i)) H):=by intro pins s σ H xs us Q I r h;obtain⟨i,rfl,q⟩:=h;obtain⟨u,rfl,t,rfl⟩:=L5 r;exact call_abs_int λu tk=>⟨.int (if i<0 then -i else i),H,I.tok _,⟨_,rfl⟩,q⟩
def Eo(hc:X.calm=true):p9 X (.builtin "max") (λxs H Q=>∃ i j,xs=[.int i,.int j]/\Q (.int (if j > i then j else i)) H):=by
 intro pins s σ H xs us Q I r h;obtain⟨i,j,rfl,q⟩:=h;obtain⟨u,w',rfl,⟨t,rfl⟩,⟨t',rfl⟩⟩:=Gi r;refine max_two_ints (I.ok.hd hc) λh' tk k=>⟨_,H,I.kept k,?_,q⟩;by_cases hj:j > i
 ·rw[if_pos hj,if_pos hj];exact⟨_,rfl⟩
 ·rw[if_neg hj,if_neg hj];exact⟨_,rfl⟩
structure zJ(h:Heap)(x dx C:Addr)(mA:Str->Option Value):Prop where
 obj:h.get? x=some (PySem.W.instObj C dx)
 ns:h.Ns1 dx mA
 ne:dx≠x
def DT{h:Heap}{dx:Addr}{mA:Str->Option Value}(n:h.Ns1 dx mA):∃ od,h.get? dx=some od/\∀ name,PySem.W.lookIn name od=some (mA name):=by
 obtain⟨o,es,ep,ho,hd,hk,_,hm⟩:=n;refine⟨o,ho,λname=>?_⟩;have e:=hm name;unfold nsFind findBy at e;rw[<- Array.find?_toList]at e;unfold PySem.W.lookIn;rw[hd];dsimp only;split
 ·rename_i y q;rw[q]at e;exact congrArg some e
 ·rename_i q
  rw[q]at e;have a:es.toList.any (·.refKey)=false:=by rw[a4k];intro y hy;obtain⟨z,t,hkey⟩:=hk y<|Array.mem_toList_iff.mp hy;simp[DictEntry.refKey,hkey]
  grind
def zJ.look(I:zJ h x dx C mA):∃ od,PySem.W.InstAt h x (PySem.W.instObj C dx) C (some od)/\∀ name,PySem.W.lookIn name od=some (mA name) :=
 let ⟨od,ho,hl⟩:=DT I.ns
 ⟨od,⟨I.obj,rfl,rfl,ho⟩,hl⟩
section
variable {prog:Program} {w:World} {A:Around} {E:Value->Shared->Prop} {s:Shared} {K:a1C} {x dx C f:Addr} {mA:Str->Option Value} {name:Str} {v:Value}
def OR(X:K.In s.heap)(I:zJ s.heap x dx C mA)(hg:PySem.W.plainGet K C name=true)(hh:PySem.W.hasDictIn K C=true)
  (ha:PySem.W.findIn K (.ref C) name=some none) (hv:mA name=some v) (hv':PySem.W.handedIn v=true) (h:Q v { s with toks:=s.toks+1 }) :
  wpAny (model prog w) A (getAttr (.ref x) name expr) Q E s:=by
 obtain⟨od,J,hl⟩:=I.look
 exact PySem.W.get_value X J (PySem.W.plainGet_of hg).1 (PySem.W.findObj_own hh ha rfl<|by rw[hl,hv]) hv' h
def JB(X:K.In s.heap)(I:zJ s.heap x dx C mA)(hg:PySem.W.plainGet K C name=true)
  (hf:PySem.W.findIn K (.ref C) name=some (some<|.ref f)) (ht:PySem.W.isFn K (.ref f)=true) (hv:mA name=none) (h:Q (.ref f,[.ref x]) s) :
  wpAny (model prog w) A (getMethod (.ref x) name pl) Q E s:=by
 obtain⟨od,J,hl⟩:=I.look
 exact PySem.W.method_fn X J (PySem.W.plainGet_of hg).1 (PySem.W.plainGet_of hg).2 hf (beq_iff_eq.mp ht) (by show(PySem.W.lookIn name od).map (·.isSome)=some false;rw[hl,hv];rfl) h
def MY(X:K.In s.heap)(I:zJ s.heap x dx C mA)
  (hs:PySem.W.findIn K (.ref C) "__setattr__" = some (some<|.builtin "object.__setattr__")) (hp:PySem.W.plainOver K C=true) (ht:PySem.W.takerIn K C name=some none) (hh:PySem.W.hasDictIn K C=true)
  (hw:PySem.Within mA ns) (hsz:ns.length<=sizeLine)
  (h:∀ h',zJ h' x dx C (λy=>if y=name then some v else mA y)->Heap.SameBut dx s.heap h'->Q () { s with heap:=h',toks:=s.toks+2 }) :
  wpAny (model prog w) A (setAttr (.ref x) name v) Q E s:=by
 obtain⟨od,J,hl⟩:=I.look
 refine PySem.W.set_plain X J hs<|PySem.W.osa_open X J hp ht λb=>?_
 obtain⟨cd,hc,hd'⟩:=PySem.W.any_some hh
 have hx:=I.obj
 refine a1D<|a1Q<|a1D<|a1D<|wpAny_loadPart hx<|a1D<|PySem.W.Looks.here (PySem.W.looks_clsIn X hc) ?_
 rw[hd']
 refine a1Q<|a1D<|a1Q<|a1D ?_
 refine wpAny_nsSet1 I.ns λh' hn2 hs2=>?_
 obtain⟨oD,esD,epD,hoD,hdD,hcD⟩:=hn2.count<|PySem.Within.cons name v hw
 refine a1D<|wpAny_lookBehind hoD (by rw[hdD];exact pastItsLine_dict<|a1N hcD<|by rw[a15];omega) ?_
 exact a1Q<|h _ ⟨(hs2.2 _<|Ne.symm I.ne).trans I.obj,hn2,I.ne⟩ hs2
def Jb(X:K.In s.heap)(hm:PySem.W.makesIn K C=true)
  (hi:PySem.W.findIn K (.ref C) "__init__" = some (some<|.ref f)) (hf:PySem.W.typeIn K (.ref f)=some (.type "function"))
  (h:codeAny (model prog w) (A.under<|.builtin "type.__call__" ⟨.ref C :: vs,kw⟩) (.call (.ref f) ⟨.ref (s.heap.objs.size+1) :: vs,kw⟩) (PySem.W.InitBack (s.heap.objs.size+1) R)
   { s with heap:=(s.heap.push PySem.W.emptyDict).push (PySem.W.instObj C s.heap.objs.size) }) :
  codeAny (model prog w) A (.call (.ref C) ⟨vs,kw⟩) R s:=by
 obtain⟨hh,g,d,t,os⟩:=s
 exact PySem.W.make_core (PySem.W.makes_of X hm) (PySem.W.looks_findIn X hi) (λself=>PySem.W.bind_fn X self hf) (.inl rfl) h
end
def bE(f:Str)(v:V):List (Str × V)->List (Str × V)
 | []=>[(f,v)]
 | (g,x) :: r=>if g=f then(g,v) :: r else(g,x) :: bE f v r
theorem iZ(f g:Str)(v:V):∀ fs,(bE f v fs).lookup g=if g=f then some v else fs.lookup g
 | []=>by show List.lookup g [(f,v)]=_;grind
 | (k,x) :: r=>by have ih:=iZ f g v r;grind[bE,List.lookup]
theorem gQ(f:Str)(v:V):∀ fs,f∈(bE f v fs).map (·.1)/\∀ g,g∈fs.map (·.1)->g∈(bE f v fs).map (·.1)
 | []=>⟨by simp[bE],λg h=>by simp at h⟩
 | (k,x) :: r=>by obtain⟨i1,i2⟩:=gQ f v r;grind[bE]
theorem ja(f:Str)(v:V):∀ fs,(bE f v fs).length<=fs.length+1
 | []=>by simp[bE]
 | (k,x) :: r=>by have ih:=ja f v r;grind[bE]
def pb.some_of(r:pb (some v) o):∃ u,o=some u/\l8 v u:=by
 cases o with
 | none=>exact(r).elim
 | some u=>exact⟨u,rfl,r⟩
def pb.none_of(r:pb none o):o=none:=by
 cases o with
 | none=>rfl
 | some u=>exact(r).elim
def DY(r:l8 v u):PySem.W.handedIn u=true:=by
 cases v with
 | non=>cases(r);rfl
 | bl b=>cases(r);rfl
 | int i=>obtain⟨t,e⟩:=(r);cases e;rfl
 | str x=>obtain⟨t,e⟩:=(r);cases e;rfl
 | byt b=>obtain⟨t,e⟩:=(r);cases e;rfl
 | flt b=>obtain⟨t,e⟩:=(r);cases e;rfl
 | ref a=>cases(r);rfl
 | ty n=>cases(r);rfl
def kD(hok:HOk P w H h)(e:H a=some (.ins C dx fs)):∃ mA,zJ h a dx C mA/\(∀ f,pb (fs.lookup f)<|mA f)/\PySem.Within mA (fs.map (·.1))/\fs.length<=1000/\H dx=some (.own a):=by obtain⟨d,z,ne,ob,mA,n,r,q⟩:=(hok a _ e);exact⟨mA,⟨ob,n,ne⟩,r,q,z,d⟩
structure Cls(K:a1C)(C:Addr):Prop where
 pg:PySem.W.plainGet K C a3o=true
 hd:PySem.W.hasDictIn K C=true
 po:PySem.W.plainOver K C=true
 sa:PySem.W.findIn K (.ref C) "__setattr__" = some (some (.builtin "object.__setattr__"))
theorem Cls.get{K:a1C}{C:Addr}(c:Cls K C)(f:Str):PySem.W.plainGet K C f=true:=c.pg
def cR(K:a1C)(C:Addr)(f:Str):Prop:=PySem.W.findIn K (.ref C) f=some none
def cR.taker{K:a1C}{C:Addr}{f:Str}(n:cR K C f):PySem.W.takerIn K C f=some none:=by unfold PySem.W.takerIn;rw[n];rfl
structure Lo(K:a1C)(C:Addr)(m:Str)(f:Addr):Prop where
 at_:PySem.W.findIn K (.ref C) m=some (some (.ref f))
 fn:PySem.W.isFn K (.ref f)=true
 kp:PySem.W.keepIn K (.ref f)=true
def yU(I:Inv X pins σ H s)(e:H a=some (.ins C dx fs))(c:Cls X.K C)(n:cR X.K C f)(l:fs.lookup f=some v)
  (h:∀ u s',Inv X pins σ H s'->l8 v u->Q u s'):wpAny (model X.prog X.w) A (getAttr (.ref a) f b) Q E s:=by
 obtain⟨mA,O,r,_,_,_⟩:=kD I.hok e
 obtain⟨u,hu,ru⟩:=pb.some_of<|by rw[<- l];exact r f
 exact OR I.kIn O (c.get f) c.hd n hu (DY ru)<|h u _ (I.tok _) ru
def mZ(I:Inv X pins σ H s)(e:H a=some (.ins C dx fs))(c:Cls X.K C)(k:Lo X.K C m g)(l:fs.lookup m=none)
  (h:Q (.ref g,[.ref a]) s):wpAny (model X.prog X.w) A (getMethod (.ref a) m pl) Q E s:=by
 obtain⟨mA,O,r,_,_,_⟩:=kD I.hok e
 have hn:=pb.none_of<|by rw[<- l];exact r m
 exact JB I.kIn O (c.get m) k.at_ k.fn hn h
def yh(I:Inv X pins σ H s)(e:H a=some (.ins C dx fs))(c:Cls X.K C)(n:cR X.K C f)(hl:fs.length<1000)(ry:l8 y u)
  (h:∀ s',Inv X pins σ (upd H a<|.ins C dx<|bE f y fs) s'->Q () s'):wpAny (model X.prog X.w) A (setAttr (.ref a) f u) Q E s:=by
 obtain⟨mA,O,r,wi,_,ho⟩:=kD I.hok e
 have hz:(fs.map (·.1)).length<=sizeLine:=by rw[a1H,sizeLine_eq];omega
 refine MY I.kIn O c.sa c.po n.taker c.hd wi hz λh' O' sb=>h _ ?_
 have hd:∃ o,h'.get? dx=some o:=let ⟨o,_,_,e',_⟩:=O'.ns;⟨o,e'⟩
 refine I.write (by rw[e];exact True.intro) (.inr ho) (λb q hb z=>(sb.2 b hb).trans z) hd ?_
 refine⟨by rw[g8 O.ne];exact ho,?_,O.ne,O'.obj,_,O'.ns,λg=>?_,λg hg=>?_⟩
 ·have:=ja f y fs;omega
 ·show pb ((bE f y fs).lookup g) (if g=f then some u else mA g)
  rw[iZ]
  by_cases q:g=f
  ·rw[if_pos q,if_pos q];exact ry
  ·rw[if_neg q,if_neg q];exact r g
 ·by_cases q:g=f
  ·rw[q];exact(gQ f y fs).1
  ·refine(gQ f y fs).2 g (wi g λz=>hg ?_)
   show(if g=f then some u else mA g)=none
   rw[if_neg q];exact z
def Inv.made(I:Inv X pins σ H s):Inv X pins σ (upd (upd H s.heap.objs.size<|.own<|s.heap.objs.size+1) (s.heap.objs.size+1)<|.ins C s.heap.objs.size [])
  { s with heap:=(s.heap.push PySem.W.emptyDict).push (PySem.W.instObj C s.heap.objs.size) }:=by
 have e1:(s.heap.push PySem.W.emptyDict).get? s.heap.objs.size=some PySem.W.emptyDict:=a1P s.heap rfl
 have e2:((s.heap.push PySem.W.emptyDict).push<|PySem.W.instObj C s.heap.objs.size).get? (s.heap.objs.size+1)=some (PySem.W.instObj C s.heap.objs.size):=by have:=a1P (s.heap.push PySem.W.emptyDict) (o:=PySem.W.instObj C s.heap.objs.size) rfl;simp_all
 have e3:(s.heap.push PySem.W.emptyDict).Ns s.heap.objs.size (λ_=>none):=⟨PySem.W.emptyDict,#[],_,e1,rfl,(λe he=>absurd he<|by simp),λ_=>rfl⟩
 have I1:=I.laid (o:=.own<|s.heap.objs.size+1) (h':=s.heap.push PySem.W.emptyDict) (t':=s.toks) (λb u q=>a1E _ q) (a1U _) ⟨_,e1⟩
 refine I1.laid (t':=s.toks) (λb u q=>a1E _ q) (a4P<|a2D _ _) ?_
 have ne:s.heap.objs.size≠s.heap.objs.size+1:=a14<|a24 _
 refine⟨by rw[g8 ne,i5],a2e _,ne,e2,λ_=>none,(Heap.Ns1.of_empty e3).at λo q=>a1E _ q,λ_=>True.intro,λy hy=>absurd rfl hy⟩
def Pt(hb:attributeBase e f env (eval e env)=eval e env)
  (h:wpAny (model prog w) A (eval e env) (λo s₁=>wpAny (model prog w) A (getAttr o f true) Q E s₁) E s):wpAny (model prog w) A (eval (.Attribute e f pos) env) Q E s :=
 Attribute_any_ h (by rw[arm_eval_Attribute,hb])
def Zd(K:a1C)(ta:TE)(f:Str):TE:=λσ H Q=>ta σ H λx H1=>∃ a C dx fs v,x = .ref a/\H1 a=some (.ins C dx fs)/\Cls K C/\cR K C f/\fs.lookup f=some v/\Q v H1
def Zh(K:a1C)(ta tv:TE)(f:Str):TS:=λD σ H=>tv σ H λy H1=>ta σ H1 λx H2=>∃ a C dx fs,x = .ref a/\H2 a=some (.ins C dx fs)/\Cls K C/\cR K C f/\fs.length<1000 /\
 D.nx σ (upd H2 a<|.ins C dx<|bE f y fs)
def Ua(he:PE X e ta)(hb:attributeBase e f X.env (eval e X.env)=eval e X.env):PE X (.Attribute e f pos) (Zd X.K ta f):=by intro pins s σ H Q I h;refine Pt hb<|thn (he pins s σ H _ I h) λu s1 zz=>?_;obtain⟨x,H1,I1,rx,a,C,dx,fs,v,ex,ea,c,n,l,q⟩:=zz;subst ex;obtain rfl:u=Value.ref a:=rx;exact yU I1 ea c n l λu' s2 I2 ru=>⟨v,H1,I2,ru,q⟩
def Tx(ha:PE X o ta)(hv:PE X value tv)(hs:swapsWith value (some<|.Attribute o f pos') pos.line X.env=pure false):PS X (.Assign [.Attribute o f pos'] value pos) (Zh X.K ta tv f):=by intro pins s σ H D I h;refine plainObj_wpAny_Assign_Attribute (thn (hv pins s σ H _ I h) λu s1 ⟨y,H1,I1,ry,q⟩=>thn (ha pins s1 σ H1 _ I1 q) ?_) hs;rintro ov s2 ⟨x,H2,I2,rx,a,C,dx,fs,ex,ea,c,n,l,q2⟩;subst ex;obtain rfl:ov=Value.ref a:=rx;exact yh I2 ea c n l ry λs3 I3=>⟨σ,_,I3,q2⟩
inductive jG (K:a1C) (H:Hp):V->Value->Prop where
 | non:jG K H .non (.type "NoneType")
 | bl (x:Bool):jG K H (.bl x) (.type "bool")
 | int (i:Int):jG K H (.int i) (.type "int")
 | str (x:Str):jG K H (.str x) (.type "str")
 | flt (x:UInt64):jG K H (.flt x) (.type "float")
 | lst {a:Addr} {xs:List V} (e:H a=some (.lst xs)):jG K H (.ref a) (.type "list")
 | frz {a:Addr} {o:Obj} {xs:List V} (e:H a=some (.frz o (.lst xs))):jG K H (.ref a) (.type "list")
 | tup {a:Addr} {xs:List V} (e:H a=some (.tup xs)):jG K H (.ref a) (.type "tuple")
 | dK {a:Addr} {kvs:List (Key × V)} (e:H a=some (.dK kvs)):jG K H (.ref a) (.type "dict")
 | dT {a:Addr} {hs:(List Int × List Int->Int) × Option Nat} {kvs:List ((List Int × List Int) × Addr × V)} (e:H a=some (.dT hs kvs)):jG K H (.ref a) (.type "dict")
 | ins {a C dx:Addr} {fs:List (Str × V)} (e:H a=some (.ins C dx fs)) (cl:Cls K C) (ha:PySem.W.findIn K (.ref C) "__class__" = some (some (.builtin "object.__class__")))
   (hn:PySem.W.specialIn K (.builtin "object.__class__") "__get__" = some (some (.builtin "getset_descriptor.__get__"))) (htk:PySem.W.takesIn K (.builtin "object.__class__")=some true)
   (hm:PySem.W.mroIn K C (.type "object")=some true):jG K H (.ref a) (.ref C)
def T9(I:Inv X pins σ H s)(rx:l8 x u)(ty:jG X.K H x t)(e:PySem.W.kitOne X.K t c=some b)(h:∀ tk,Q (.bool b) { s with toks:=tk }) :
  wpAny (model X.prog X.w) A (call (.builtin "isinstance") [u,c]) Q E s:=by
 cases ty with
 | non=>cases(rx);exact PySem.W.kia_one PySem.W.kitx_none I.kIn True.intro e (λz=>nomatch z) h
 | bl y=>cases(rx);exact PySem.W.kia_one PySem.W.kitx_bool I.kIn True.intro e (λz=>nomatch z) h
 | int i=>obtain⟨t,q⟩:=(rx);cases q;exact PySem.W.kia_one PySem.W.kitx_int I.kIn True.intro e (λz=>nomatch z) h
 | str y=>obtain⟨t,q⟩:=(rx);cases q;exact PySem.W.kia_one PySem.W.kitx_str I.kIn True.intro e (λz=>nomatch z) h
 | flt y=>obtain⟨t,q⟩:=(rx);cases q;exact PySem.W.kia_one PySem.W.kitx_float I.kIn True.intro e (λz=>nomatch z) h
 | @lst a xs ea =>
  cases(rx)
  obtain⟨_,_,n,_,h1⟩:=(I.hok a _ ea)
  exact PySem.W.kia_one PySem.W.kitx_list I.kIn ⟨_,h1,rfl⟩ e (λz=>nomatch z) h
 | @frz a ob xs ea =>
  cases(rx)
  obtain⟨_,_,_,n,_,h1⟩:=(I.hok a _ ea)
  exact PySem.W.kia_one PySem.W.kitx_list I.kIn ⟨_,h1,rfl⟩ e (λz=>nomatch z) h
 | @tup a xs ea =>
  cases(rx)
  obtain⟨_,_,_,p⟩:=(I.hok a _ ea)
  obtain⟨o,h1,h2,_⟩:=p
  exact PySem.W.kia_one PySem.W.kitx_tuple I.kIn ⟨o,h1,h2⟩ e (λz=>nomatch z) h
 | @dK a kvs ea =>
  cases(rx)
  obtain⟨_,_,vs,_,p⟩:=(I.hok a _ ea)
  obtain⟨o,es,ep,h1,h2,_⟩:=p
  exact PySem.W.kia_one PySem.W.kitx_dict I.kIn ⟨o,h1,h2.1⟩ e (λz=>nomatch z) h
 | @dT a hs kvs ea =>
  cases(rx)
  obtain⟨_,_,xs,_,o,es,ep,h1,h2,_⟩:=(I.hok a _ ea)
  exact PySem.W.kia_one PySem.W.kitx_dict I.kIn ⟨o,h1,h2.1⟩ e (λz=>nomatch z) h
 | @ins a C dx fs ea cl ha hn htk hm =>
  cases(rx)
  obtain⟨mA,O,_⟩:=kD I.hok ea
  obtain⟨od,J,_⟩:=O.look
  exact PySem.W.kia_one (PySem.W.kitx_own (cl.get _) cl.hd ha hn htk hm) I.kIn J e (λz=>nomatch z) h
structure C3(k:Nat)(A:Around):Prop where
 hd:A.handled=none
 dp:A.depth+3*k+5<recursionLimit
 un:A.units+16*k+200<cLine
def C3.mono(r:C3 k A)(h:j<=k):C3 j A:=⟨r.hd,by have:=r.dp;omega,by have:=r.un;omega⟩
def C3.deeper(r:C3 (k+1) A)(env:Env):C3 k (A.deeper env) :=
 ⟨r.hd,by have:=r.dp;show A.depth+1+3*k+5<_;omega,by have:=r.un;show A.units+3+16*k+200<_;omega⟩
def yJ{A:Around}{C:Addr}{us:List Value}{kw:List (Str × Value)}:(A.under<|.builtin "type.__call__" ⟨.ref C :: us,kw⟩).depth=A.depth+1:=by rfl
def yI{A:Around}{C:Addr}{us:List Value}{kw:List (Str × Value)}:(A.under<|.builtin "type.__call__" ⟨.ref C :: us,kw⟩).units=A.units+1:=by rfl
def C3.make(r:C3 (k+1) A)(C:Addr)(us:List Value)(kw:List (Str × Value)):C3 k (A.under<|.builtin "type.__call__" ⟨.ref C :: us,kw⟩) :=
 ⟨r.hd,by have:=r.dp;rw[yJ];omega,by have:=r.un;rw[yI];omega⟩
def C3.depth(r:C3 k A):A.depth<recursionLimit:=by have:=r.dp;omega
def C3.units(r:C3 k A):A.units+64<cLine:=by have:=r.un;omega
def WK:TA:=λ_ H Q=>Q [] H
def WR(ta:TE)(tr:TA):TA:=λσ H Q=>ta σ H λx H1=>tr σ H1 λxs H2=>Q (x :: xs) H2
def Q7:PA X [] WK:=λ_ _ _ _ H Q I h=>Calls.spliced_nil ⟨[],H,I,.nil,h⟩
def C5(ha:PE X e te)(hr:PA X es t)(hs:starEach (e :: es) X.env=(false,eval e X.env) :: starEach es X.env:=by rfl):PA X (e :: es) (WR te t):=by intro pos pins s σ H Q I h;rw[hs];show wpAny _ _ (spliced ((false,eval e X.env) :: backTo pos (starEach es X.env))) _ _ s;refine Calls.spliced_cons<|thn (ha pins s σ H _ I h) λu s1 zz=>?_;obtain⟨x,H1,I1,r1,q1⟩:=zz;exact thn (hr pos pins s1 σ H1 _ I1 q1) λus s2 ⟨xs,H2,I2,r2,q2⟩=>⟨x :: xs,H2,I2,.cons r1 r2,q2⟩
def YU(t:TA):TE:=λσ H Q=>t σ H λxs H1=>xs.length<=sizeLine/\∀ p,H1 p=none->Q (.ref p) (upd H1 p<|.tup xs)
def Za(t:TA):TE:=λσ H Q=>t σ H λxs H1=>xs.length<=sizeLine/\∀ p,H1 p=none->Q (.ref p) (upd H1 p<|.lst xs)
def Iu{x1}(h:PA X es t):PE X (.Tuple es x1 pos) (YU t):=by intro pins s σ H Q I hq;refine wpAny_Tuple_spliced (thn (h pos pins s σ H _ I hq) λus s1 ⟨xs,H1,I1,r,z,q⟩=>⟨by rw[<- r.length];exact z,?_⟩);have hf:=I1.hok.fresh<|a1U _;refine⟨.ref s1.heap.objs.size,upd H1 s1.heap.objs.size<|.tup xs,I1.laid (t':=s1.toks) (λb u e=>a1E _ e) (a1U _) ?_,rfl,q _ hf⟩;exact⟨z,us,r,⟨_,a1P _ rfl,rfl,_,rfl⟩⟩
def Iw(h:PA X es t):PE X (.List es pos) (Za t):=by intro pins s σ H Q I hq;refine wpAny_List_spliced (thn (h pos pins s σ H _ I hq) λus s1 ⟨xs,H1,I1,r,z,q⟩=>⟨by rw[<- r.length];exact z,?_⟩);have hf:=I1.hok.fresh<|a1U _;refine⟨.ref s1.heap.objs.size,upd H1 s1.heap.objs.size<|.lst xs,I1.laid (t':=s1.toks) (λb u e=>a1E _ e) (a1U _) ?_,rfl,q _ hf⟩;exact⟨z,us,0,r,a1P _ rfl⟩
abbrev Sp:=List V->Hp->VK->XK->Prop
abbrev CXT:=List Env->Hp->Shared->XK->Value->Shared->Prop
structure zQ(P:Program)(w:World)(K:a1C)(mg:Str->Option Value)(base:Heap)(A:Around)(outer:List Env)(s:Shared)(H:Hp):Prop where
 frames:A.frames=some outer
 mod:Mod K mg base
 bs:∀ b o,base.get? b=some o->s.heap.get? b=some o/\H b=none
 bsz:base.objs.size<=s.heap.objs.size
 funs:s.heap.FunFrames base outer
 frf:∀ b∈frs outer,H b=none
 hok:HOk P w H s.heap
 bare:AllBare s.gens
def CE(outer:List Env)(P:Program)(w:World)(H:Hp)(s:Shared)(Q:VK)(u:Value)(s':Shared):Prop :=
 ∃ v H',s'.os=s.os/\AllBare s'.gens/\Un (frs outer) [] H H' s.heap s'.heap/\HOk P w H' s'.heap/\l8 v u/\Q v H'
def CR(CX:CXT)(outer:List Env)(P:Program)(w:World)(H:Hp)(s:Shared)(Q:VK)(E:XK)(r:Result)(s':Shared):Prop :=
 match r with
 | .ok (.ret u)=>CE outer P w H s Q u s'
 | .ok _=>False
 | .error e=>CX outer H s E e s'
structure X7(P:Program)(w:World)(K:a1C)(mg:Str->Option Value)(base:Heap)(CX:CXT)(k:Nat)(f:Addr)(fd:FuncData)(ps:List Str)(sp:Sp):Prop where
 len:∀ vs H Q E,sp vs H Q E->vs.length=ps.length
 run:∀(A:Around) (outer:List Env) (s:Shared) (H:Hp) (args:Args) (us:List Value) (vs:List V) (Q:VK) (E:XK),C3 k A->zQ P w K mg base A outer s H->BindsTo s fd args (ps.zip us)->j8 vs us->sp vs H Q E ->
  codeAny (model P w) A (.call (.ref f) args) (CR CX outer P w H s Q E) s
def zQ.make{P:Program}{w:World}{K:a1C}{mg:Str->Option Value}{base:Heap}{A:Around}{outer:List Env}{s:Shared}{H:Hp}(e:zQ P w K mg base A outer s H)(C:Addr)(us:List Value)(kw:List (Str × Value)) :
  zQ P w K mg base (A.under<|.builtin "type.__call__" ⟨.ref C :: us,kw⟩) outer s H:=⟨by first|exact e.frames|(simpa[Around.under,Code.envs,Code.isFrame,pushEnvs]using e.frames),e.mod,e.bs,e.bsz,e.funs,e.frf,e.hok,e.bare⟩
def Inv.env0(I:Inv X pins σ H s):zQ X.prog X.w X.K X.mg X.base X.A X.stack s H :=
 ⟨I.ok.frames,I.ok.mod,I.bs,a1N I.ok.bsz I.sz,I.stack,I.stkFree,I.hok,I.bare⟩
def Inv.after(I:Inv X pins σ H s)(h:CE X.stack X.prog X.w H s Q u s'):EP X pins σ Q u s':=by obtain⟨v,H',os,bare,un,hok,r,q⟩:=h;obtain⟨hh,g,d,t,os'⟩:=s';obtain rfl:os'=s.os:=os;exact⟨v,H',I.call (h':=hh) (g':=g) (d':=d) (t':=t) un hok bare λb z=>absurd z<|by simp,r,q⟩
def WT(sp:Sp)(dvs:List V)(E:XK)(t:TA):TE:=λσ H Q=>t σ H λvs H1=>sp (vs++dvs) H1 Q E
def QP(C:Addr)(m:Str)(sp:Sp)(dvs:List V)(E:XK)(ta:TE)(t:TA):TE:=λσ H Q=>ta σ H λx H1=>∃ a dx fs,x = .ref a/\H1 a=some (.ins C dx fs)/\fs.lookup m=none /\
 t σ H1 λvs H2=>sp (x :: (vs++dvs)) H2 Q E
def WM(C:Addr)(sp:Sp)(dvs:List V)(E:XK)(t:TA):TE:=λσ H Q=>t σ H λvs H1=>∀ x dx,H1 x=none->H1 dx=none->dx≠x ->
 sp (.ref x :: (vs++dvs)) (upd (upd H1 dx<|.own x) x<|.ins C dx []) (λv H2=>v = .non/\Q (.ref x) H2) E
def P9(K:a1C)(fd:FuncData)(ps:List Str)(ds:List Value):Prop :=
 ∀(s:Shared) (us:List Value),K.In s.heap->(us++ds).length=ps.length->BindsTo s fd ⟨us,[]⟩ (ps.zip<|us++ds)
def P9.all{K:a1C}{fd:FuncData}{ps:List Str}(h:∀ us,us.length=ps.length->bindArgs fd ⟨us,[]⟩=pure (ps.zip us)):P9 K fd ps []:=λs us _ hl=>by rw[a2g]at hl ⊢;exact .of_eq<|h us hl
def aK(CX:CXT)(X:Cx)(E:XK):Prop:=∀(pins:List (Addr × Obj)) (σ:St) (H:Hp) (s:Shared) (e:Value) (s':Shared),Inv X pins σ H s->CX X.stack H s E e s'->X.xe e s'
def HP(F:X7 X.prog X.w X.K X.mg X.base CX k f fd ps sp)(hr:C3 k X.A)(hb:P9 X.K fd ps ds)(hd:j8 dvs ds)(hx:aK CX X E)
  (I:Inv X pins σ H s) (r:j8 vs us) (h:sp (vs++dvs) H Q E):wpAny (model X.prog X.w) X.A (call (.ref f) us) (EP X pins σ Q) X.xe s:=by
 have r2:=r.append hd
 have hl:(us++ds).length=ps.length:=by rw[<- r2.length];exact F.len _ _ _ _ h
 refine wpAny_call<|codeAny_mono (F.run X.A X.stack s H ⟨us,[]⟩ (us++ds) (vs++dvs) Q E hr I.env0 (hb s us I.kIn hl) r2 h) λr s' hq=>?_
 cases r with
 | error e=>exact hx pins σ H s e s' I hq
 | ok fl =>
  cases fl with
  | ret u=>exact I.after hq
  | next=>exact False.elim hq
  | brk=>exact False.elim hq
  | cont=>exact False.elim hq
def BS(F:X7 X.prog X.w X.K X.mg X.base CX k f fd ps sp)(hr:C3 k X.A)(hg:Gl X x)(hm:X.mg x=some (.ref f))(hk:PySem.W.keepIn X.K (.ref f)=true)(hb:P9 X.K fd ps ds)(hd:j8 dvs ds)(hx:aK CX X E)
  (ha:PA X (e :: es) t) (hdb:(x == ("__debug__" : Str))=false:=by decide) (he:starEach (e :: es) X.env=(false,eval e X.env) :: starEach es X.env:=by rfl) (hpl:(backTo pos<|starEach es X.env).any (·.1)=false:=by rfl) :
  PE X (.Call (.Name x p) (e :: es) [] pos) (WT sp dvs E t):=by
 intro pins s σ H Q I h
 refine wpAny_Call_Name_kw<|bo I hg hm ?_ hdb
 refine PySem.W.callWith_K I.ok.mod.kin hk (thn (ha pos pins s σ H _ I h) λus s1 ⟨vs,H1,I1,r,q⟩=>⟨I1.kIn,?_⟩) he hpl
 exact HP F hr hb hd hx I1 r q
def NO(he:PE X o ta)(c:Cls X.K C)(hm:Lo X.K C m f)(F:X7 X.prog X.w X.K X.mg X.base CX k f fd ps sp)(hr:C3 k X.A)(hb:P9 X.K fd ps ds)(hd:j8 dvs ds)(hx:aK CX X E)(ha:PA X (e :: es) t)
  (hst:starEach (e :: es) X.env=(false,eval e X.env) :: starEach es X.env:=by rfl) (hpl:(backTo pos<|starEach es X.env).any (·.1)=false:=by rfl)
  (ht:eval (.Call (.Attribute o m apos) (e :: es) [] pos) X.env=(do
   let ov <- eval o X.env
   standAt apos.atName
   let (f,first) <- holding [ov] (getMethod ov m pl)
   callWith pos f first (backTo pos<|starEach (e :: es) X.env) (backToKw pos<|keywordEach [] X.env)):=by rfl) :
  PE X (.Call (.Attribute o m apos) (e :: es) [] pos) (QP C m sp dvs E ta t):=by
 intro pins s σ H Q I h
 refine PySem.W.methodCall_KW (thn (he pins s σ H _ I h) ?_) ht
 rintro u s1 ⟨x,H1,I1,rx,a,dx,fs,ex,ea,l,q⟩
 subst ex
 obtain rfl:u=Value.ref a:=rx
 refine mZ I1 ea c hm l ?_
 refine PySem.W.callWith_K I.ok.mod.kin hm.kp (thn (ha pos pins s1 σ H1 _ I1 q) λus s2 ⟨vs,H2,I2,r,q2⟩=>⟨I2.kIn,?_⟩) hst hpl
 exact HP (vs:=.ref a :: vs) F hr hb hd hx I2 (.cons rfl r) q2
structure Mk(K:a1C)(C f:Addr):Prop where
 makes:PySem.W.makesIn K C=true
 init:PySem.W.findIn K (.ref C) "__init__" = some (some (.ref f))
 fn:PySem.W.isFn K (.ref f)=true
 kp:PySem.W.keepIn K (.ref C)=true
def HN(M:Mk X.K C f)(F:X7 X.prog X.w X.K X.mg X.base CX k f fd ps sp)(hr:C3 (k+1) X.A)(hb:P9 X.K fd ps ds)(hd:j8 dvs ds)
  (hx:aK CX X E) (I:Inv X pins σ H s) (r:j8 vs us)
  (h:∀ x dx,H x=none->H dx=none->dx≠x->sp (.ref x :: (vs++dvs)) (upd (upd H dx<|.own x) x<|.ins C dx []) (λv H2=>v = .non/\Q (.ref x) H2) E) :
  wpAny (model X.prog X.w) X.A (call (.ref C) us) (EP X pins σ Q) X.xe s:=by
 have hq:=h (s.heap.objs.size+1) s.heap.objs.size (I.hok.fresh<|a46 _) (I.hok.fresh<|a1U _)<|a14<|a24 _
 have I2:=Inv.made (C:=C) I
 have r2:j8 (V.ref (s.heap.objs.size+1) :: (vs++dvs)) (Value.ref (s.heap.objs.size+1) :: (us++ds)):=.cons rfl<|r.append hd
 have hl:(Value.ref (s.heap.objs.size+1) :: us++ds).length=ps.length:=by have e:=r2.length;rw[F.len _ _ _ _ hq]at e;exact e.symm
 refine wpAny_call (Jb I.kIn M.makes M.init (beq_iff_eq.mp M.fn) (codeAny_mono (F.run _ X.stack _ _ ⟨Value.ref (s.heap.objs.size+1) :: us,[]⟩ (Value.ref (s.heap.objs.size+1) :: (us++ds)) _ _ E (hr.make C us [])
  (I2.env0.make C us []) (hb _ (Value.ref (s.heap.objs.size+1) :: us) I2.kIn hl) r2 hq) λr s' hq'=>?_))
 cases r with
 | error e=>exact hx pins σ _ _ e s' I2 hq'
 | ok fl =>
  cases fl with
  | ret u =>
   obtain⟨v,H',I3,rv,ev,q3⟩:=I2.after hq'
   subst ev
   exact⟨rv,⟨V.ref<|s.heap.objs.size+1,H',I3,rfl,q3⟩⟩
  | next=>exact False.elim hq'
  | brk=>exact False.elim hq'
  | cont=>exact False.elim hq'
def Iv(M:Mk X.K C f)(F:X7 X.prog X.w X.K X.mg X.base CX k f fd ps sp)(hr:C3 (k+1) X.A)(hg:Gl X x)(hm:X.mg x=some (.ref C))(hb:P9 X.K fd ps ds)(hd:j8 dvs ds)(hx:aK CX X E)
  (hdb:(x == ("__debug__" : Str))=false:=by decide):PE X (.Call (.Name x p) [] [] pos) (WM C sp dvs E WK):=by
 intro pins s σ H Q I h
 refine wpAny_Call_Name_kw<|bo I hg hm ?_ hdb
 exact PySem.W.callWith_K0 I.kIn M.kp<|HN M F hr hb hd hx I .nil h
structure d9(N P:List Str)(sc:Scope):Prop where
 kind:sc.kind = .function
 co:sc.isCoroutine=false
 gen:sc.isGenerator=false
 nd:N.Nodup
 pre:N.take P.length=P
 par:∀ x∈P,sc.names.lookup x=some .local\/sc.names.lookup x=some .cell
 nofree:∀ y∈sc.names,y.2 ≠ .free
theorem qx{kindOf:Str->Option NameKind}{x:Str}:∀{binds:List (Str × Value)} {m:Str->Option Value},(∀ v,(x,v)∉binds)->bindL kindOf binds m x=m x
 | [],_,_=>rfl
 | (n,v) :: r,m,h=>by
  unfold bindL;rw[qx λw hw=>h w<|a1O _ hw];split
  ·have:x≠n:=by rintro rfl;exact h v a1M
   simp[this]
  ·rfl
theorem qz{kindOf:Str->Option NameKind}{x:Str}:∀{binds:List (Str × Value)} {m:Str->Option Value},(∀ v,(x,v)∉binds)->bindC kindOf binds m x=m x
 | [],_,_=>rfl
 | (n,v) :: r,m,h=>by
  unfold bindC;rw[qz λw hw=>h w<|a1O _ hw];split
  ·rfl
  ·have:x≠n:=by rintro rfl;exact h v a1M
   simp[this]
theorem qy{kindOf:Str->Option NameKind}{x:Str}{v:Value}:∀{P:List Str} {vs:List Value} {i:Nat} {m:Str->Option Value},P.Nodup->P[i]? = some x->vs[i]? = some v->kindOf x=some .local ->
  bindL kindOf (P.zip vs) m x=some v
 | [],_,_,_,_,h,_,_=>by simp at h
 | _ :: _,[],_,_,_,_,h,_=>by simp at h
 | p :: P,w :: vs,0,m,nd,h1,h2,hk=>by simp at h1 h2;subst h1;subst h2;show bindL kindOf ((p,w) :: P.zip vs) m p=_;unfold bindL;rw[qx λv hv=>(a3Z.mp nd).1 (a30 hv).1,if_pos hk];simp
 | p :: P,w :: vs,i+1,m,nd,h1,h2,hk=>by show bindL kindOf ((p,w) :: P.zip vs) m x=_;unfold bindL;exact qy (a3Z.mp nd).2 (by simpa using h1) (by simpa using h2) hk
theorem qA{kindOf:Str->Option NameKind}{x:Str}{v:Value}:∀{P:List Str} {vs:List Value} {i:Nat} {m:Str->Option Value},P.Nodup->P[i]? = some x->vs[i]? = some v->kindOf x≠some .local ->
  bindC kindOf (P.zip vs) m x=some v
 | [],_,_,_,_,h,_,_=>by simp at h
 | _ :: _,[],_,_,_,_,h,_=>by simp at h
 | p :: P,w :: vs,0,m,nd,h1,h2,hk=>by simp at h1 h2;subst h1;subst h2;show bindC kindOf ((p,w) :: P.zip vs) m p=_;unfold bindC;rw[qz λv hv=>(a3Z.mp nd).1 (a30 hv).1,if_neg hk];simp
 | p :: P,w :: vs,i+1,m,nd,h1,h2,hk=>by show bindC kindOf ((p,w) :: P.zip vs) m x=_;unfold bindC;exact qA (a3Z.mp nd).2 (by simpa using h1) (by simpa using h2) hk
def start(N:List Str)(vs:List V):St:=vs.map some++a16 (N.length - vs.length) none
def K1(CX:CXT)(P:Program)(w:World)(K:a1C)(mg:Str->Option Value)(base:Heap)(N:List Str)(qual:Str)(scope:Scope)(f:Addr)(cd:Value)(A:Around)(outer:List Env)(s:Shared)(H:Hp)(E:XK):Cx where
 prog:=P
 w:=w
 K:=K
 mg:=mg
 base:=base
 A:=A.deeper<|envOfC qual scope s.heap.objs.size f cd
 N:=N
 s₀:=s
 H₀:=H
 env:=envOfC qual scope s.heap.objs.size f cd
 outer:=outer
 stack:=envOfC qual scope s.heap.objs.size f cd :: outer
 ex:=[]
 calm:=true
 fn:=λ_=>true
 pn:=[]
 xe:=λe s'=>wpAny (model P w) (A.deeper<|envOfC qual scope s.heap.objs.size f cd) (leaving (envOfC qual scope s.heap.objs.size f cd) e) (λ_ s''=>CX outer H s E e s'') (λe' s''=>CX outer H s E e' s'') s'
def xB{sc:Scope}{n:Nat}{x:Str}(h:sc.names.lookup x=some .cell):∃ c,(cellsFrom n sc.names []).lookup x=some c:=by have q:=PySem.W.cellsFrom_some sc.names n []<|.inl h;exact a3y.mp q
def DV{CX:CXT}{P:Program}{w:World}{K:a1C}{mg:Str->Option Value}{base:Heap}{N ps:List Str}{qual:Str}{scope:Scope}{f:Addr}{cd:Value}{A:Around}{outer:List Env}{s s1:Shared}{H:Hp}{E:XK}{us:List Value}{vs:List V}
  (S:d9 N ps scope) (hd:A.handled=none) (e0:zQ P w K mg base A outer s H) (hl:vs.length=ps.length) (r:j8 vs us)
  (x:InCallC s s.heap.objs.size (bindL (envOfC qual scope s.heap.objs.size f cd).kindOf (ps.zip us) λ_=>none) (cellsFrom (s.heap.objs.size+1) scope.names []) (bindC (envOfC qual scope s.heap.objs.size f cd).kindOf (ps.zip us) λ_=>none) s1) :
  Inv (K1 CX P w K mg base N qual scope f cd A outer s H E) [] (start N vs) H s1:=by
 have hpl:ps.length<=N.length:=by have:=congrArg a3J S.pre;rw[a2q]at this;omega
 obtain⟨h1,tk,rfl,hk⟩:=x.done
 have noA:∀ b,b∉(K1 CX P w K mg base N qual scope f cd A outer s H E).ex:=λb z=>absurd (show b∈([])from z)<|by simp
 refine⟨⟨e0.mod,S.kind,rfl,rfl,a1U _,λy z c h1 h2=>?_,λy hy=>?_,λy c _ h=>?_,λ_=>hd,Around.frames_deeper e0.frames,.inr ⟨rfl,rfl⟩,λb z=>absurd z<|noA b,e0.bs,e0.bsz,λb _ _=>noA b,λb z=>absurd z<|noA b,e0.funs,e0.frf⟩,
  rfl,e0.bare,Un.kept hk,⟨_,x.toInCall.ns,λi y v h1 h2 h3=>?_⟩,λy c h=>⟨_,x.cell y c h⟩,e0.hok.fresh<|a1U _,λy c h=>?_,λp hp=>absurd (show p∈([]:List (Addr × Obj))from hp)<|by simp,e0.hok.kept hk,?_⟩
 ·exact name_of_addr x.apart (PySem.mem_of_lookup h1)<|PySem.mem_of_lookup h2
 ·have hy:=hy
  rcases hy with hy|hy
  ·exact xB hy
  ·exact absurd rfl<|S.nofree _<|PySem.mem_of_lookup hy
 ·exact a2M<|x.above y c<|PySem.mem_of_lookup h
 ·have hi:i<vs.length:=by
   unfold start at h2
   by_cases hi:i<vs.length
   ·exact hi
   ·rw[a22<|by simpa using hi]at h2;rw[a2I]at h2;split at h2<;>cases h2
  have ha:vs[i]? = some v:=by simp_all [a2P,a1S,start]
  obtain⟨u,hu,rv⟩:=r.get ha
  have hp:ps[i]? = some y:=by rw[<- S.pre,List.getElem?_take_of_lt<|by omega];exact h1
  have ndP:ps.Nodup:=by rw[<- S.pre];exact S.nd.sublist<|List.take_sublist _ _
  refine⟨u,rv,?_⟩
  rcases S.par y (a1K hp)with k|k
  ·exact .inl ⟨k,qy ndP hp hu k⟩
  ·obtain⟨c,e⟩:=xB k;refine .inr ⟨.inl k,c,e,?_⟩;have q:=x.cell y c e;rw[qA ndP hp hu<|by show scope.names.lookup y≠_;rw[k];decide]at q;exact q
 ·exact e0.hok.fresh<|a2M<|x.above y c<|PySem.mem_of_lookup h
 ·unfold start
  show _=N.length
  rw[a1V,a1H,a28]
  omega
def Cy{CX:CXT}{P:Program}{w:World}{K:a1C}{mg:Str->Option Value}{base:Heap}{k:Nat}{f:Addr}{name qual:Str}{params:Arguments}{body:List Stmt}{scope:Scope}{dV kV doc pm cdv ct oc:Value}{an od:Option Addr}
  {osl:Array (Option Value)} {N ps:List Str} {sp:Sp} (lk:K.lookup f=some ⟨oc,od,.func<|PySem.W.fnOf name qual params body scope dV kV doc pm an cdv ct,osl⟩) (hcd:PySem.W.codeIn K cdv qual=true) (S:d9 N ps scope)
  (len:∀ vs H Q E,sp vs H Q E->vs.length=ps.length)
  (hbody:∀ A (outer:List Env) (s:Shared) (H:Hp) (vs:List V) (Q:VK) (E:XK),C3 k (A.deeper<|envOfC qual scope s.heap.objs.size f cdv)->sp vs H Q E ->
   ∃ t,PSs (K1 CX P w K mg base N qual scope f cdv A outer s H E) body t/\t { nx:=λ_ H'=>Q .non H',rt:=Q } (start N vs) H) :
  X7 P w K mg base CX (k+1) f (PySem.W.fnOf name qual params body scope dV kV doc pm an cdv ct) ps sp:=by
 refine⟨len,λA outer s H args us vs Q E hr e0 hb r hsp=>?_⟩
 have hl:=len _ _ _ _ hsp
 have KX:=e0.mod.kin.keeps λb o e=>(e0.bs b o e).1
 have lim:=e0.mod.nolimit.keeps λb o e=>(e0.bs b o e).1
 have hkind:∀ y∈ps.zip us,scope.names.lookup y.1=some .local\/(scope.names.lookup y.1=some .cell/\((cellsFrom (s.heap.objs.size+1) scope.names []).lookup y.1).isSome=true):=λ⟨n,v⟩ hy=>by
  rcases S.par n (a30 hy).1 with q|q
  ·exact .inl q
  ·exact .inr ⟨q,PySem.W.cellsFrom_some _ _ _<|.inl q⟩
 refine codeAny_call_function hr.depth (KX _ _ lk) rfl S.co S.gen rfl (PySem.W.codeRec_of KX hcd)<|hb _ _ _ _ ?_
 refine wpAny_newFunctionEnv_cells S.kind hkind λenv he s1 x=>?_
 subst he
 refine⟨lim.keeps x.toInCall.keep,codeAny_func ?_⟩
 obtain⟨t,ht,hq⟩:=hbody A outer s H vs Q E (hr.deeper _) hsp
 have I:Inv (K1 CX P w K mg base N qual scope f cdv A outer s H E) [] (start N vs) H s1:=DV S hr.hd e0 hl r x
 refine wpAny_mono (ht [] s1 (start N vs) H _ I hq) (λfl s' hs=>?_) λe s' hs=>hs
 have fin:∀{σ':St} {H':Hp} {v:V} {u:Value},Inv (K1 CX P w K mg base N qual scope f cdv A outer s H E) [] σ' H' s'->l8 v u->Q v H'->CE outer P w H s Q u s' :=
  λ{σ' H' v u} J rv q=>⟨v,H',J.os,J.bare,J.base,J.hok,rv,q⟩
 cases fl with
 | ret u =>
  obtain⟨v,σ',H',J,rv,q⟩:=hs
  exact fin J rv q
 | next =>
  obtain⟨σ',H',J,q⟩:=hs
  exact fin (v:=V.non) J rfl q
 | brk =>
  obtain⟨_,_,_,q⟩:=hs
  exact False.elim q
 | cont =>
  obtain⟨_,_,_,q⟩:=hs
  exact False.elim q
section
variable {X:Cx} {x:Str} {p pos:Pos} {e:Expr} {es:List Expr} {t:TA} {id T:String} {r:List V->Hp->VK->Prop}
def tCB(r:List V->Hp->VK->Prop)(t:TA):TE:=λσ H Q=>t σ H λvs H1=>r vs H1 Q
def eY(hc:p9 X (.builtin id) r)(hg:Gl X x)(hm:X.mg x=none)(hv:bootBuiltins x=some (.builtin id))(ha:PA X (e :: es) t)(hn:x ≠ "__name__" := by decide)(hdb:(x == ("__debug__" : Str))=false:=by decide)
  (he:starEach (e :: es) X.env=(false,eval e X.env) :: starEach es X.env:=by rfl) (hpl:(backTo pos<|starEach es X.env).any (·.1)=false:=by rfl):PE X (.Call (.Name x p) (e :: es) [] pos) (tCB r t):=by
 intro pins s σ H Q I h
 refine wpAny_Call_Name_kw<|K7 I hg hm hv ?_ hn hdb
 exact PyProof.Rows.callWith_builtin1 (thn (ha pos pins s σ H _ I h) λus s1 ⟨vs,H1,I1,r1,q1⟩=>hc pins s1 σ H1 vs us Q I1 r1 q1) he hpl
def T0(hc:p9 X (.type T) r)(hg:Gl X x)(hm:X.mg x=none)(hv:bootBuiltins x=some (.type T))(ha:PA X (e :: es) t)(hn:x ≠ "__name__" := by decide)(hdb:(x == ("__debug__" : Str))=false:=by decide)
  (he:starEach (e :: es) X.env=(false,eval e X.env) :: starEach es X.env:=by rfl) (hpl:(backTo pos<|starEach es X.env).any (·.1)=false:=by rfl):PE X (.Call (.Name x p) (e :: es) [] pos) (tCB r t):=by
 intro pins s σ H Q I h
 refine wpAny_Call_Name_kw<|K7 I hg hm hv ?_ hn hdb
 exact PyProof.Rows.callWith_type1 (thn (ha pos pins s σ H _ I h) λus s1 ⟨vs,H1,I1,r1,q1⟩=>hc pins s1 σ H1 vs us Q I1 r1 q1) he hpl
end
end L2
namespace HT
open PySem PyProof.Rows
def E5:List Int->List Int->Bool
 | [],[]=>false
 | [],_ :: _=>true
 | _ :: _,[]=>false
 | x :: xs,y :: ys=>if x=y then E5 xs ys else decide (x<y)
def cH(x y:Int)(xs ys:List Int):E5 (x :: xs) (y :: ys)=if x=y then E5 xs ys else decide (x<y):=rfl
def bR:E5 [] []=false:=rfl
def mQ(y:Int)(ys:List Int):E5 [] (y :: ys)=true:=rfl
def mR(x:Int)(xs:List Int):E5 (x :: xs) []=false:=rfl
def Ka(A:Around)(s:Shared)(a:Int)(t:Tok)(c:Int)(u:Tok):∃ e,SeqAt.EqAt A s (.int a t) (.int c u) e/\(e=true↔a=c) :=
 ⟨(a == c),SeqAt.EqAt.int_int a t c u,by simp⟩
def Ib(A:Around)(s:Shared)(a:Int)(t:Tok)(c:Int)(u:Tok)(prog:Program)(w:World)(E:Value->Shared->Prop)(Q:Value->Shared->Prop)(h:Q (.bool<|decide (a<c)) s) :
  wpAny (model prog w) A (richCompare .Lt (.int a t)<|.int c u) Q E s :=
 (PyProof.Rows.lt_int h:wpAny (model prog w) A (compareOp .Lt (.int a t)<|.int c u) Q E s)
section
open PySem.SeqAt
open PySem.AutoSeq1 (wpAny_loadPart')
open PySem.MeetsSeq PySem.MeetsSeq2 PySem.MeetsSeq3
def nI(l b:Addr)(items items2:Array Value)(n n2:Nat)(dd dd2:Option Addr)(sl sl2:Array (Option Value))(ns ms:List Int)(hi:IntsAre items.toList ns)(hj:IntsAre items2.toList ms) :
  Meets (Builtin.«tuple.__lt__» ⟨[.ref l,.ref b],[]⟩)
   (λ_ R s=>s.heap.get? l=some { cls:=.type "tuple",dict:=dd,data:=.seq items n,slots:=sl }/\s.heap.get? b=some { cls:=.type "tuple",dict:=dd2,data:=.seq items2 n2,slots:=sl2 } /\
    R (.ok<|.ret<|.bool<|E5 ns ms) s) :=
 .of_wp λprog w A R s h=>by
  obtain⟨hp,g,d,tk,os⟩:=s;obtain⟨hl,hb,h⟩:=h;have f2:=AutoSeq1.sub_tuple_tuple;have z1:items.size=ns.length:=by rw[<- hi.length];simp
  have z2:items2.size=ms.length:=by rw[<- hj.length];simp
  wp_walk using wpAny_loadPart' hl,wpAny_loadPart' hb,wpAny_forIn_list _ (λrest b s'=>b.1=none/\s' = ⟨hp,g,d,tk,os⟩/\∃(vs ws:List Value) (ns' ms':List Int),rest=vs.zip ws /\
   IntsAre vs ns'/\IntsAre ws ms'/\ns'.length+items2.size=ms'.length+items.size/\R (.ok<|.ret<|.bool<|E5 ns' ms') ⟨hp,g,d,tk,os⟩) _
  case turn =>
   rintro⟨y,x⟩ rest b s' ⟨hb',rfl,vs,ws,ns',ms',hz,hvi,hwi,hlen,hR⟩
   cases hvi with
   | nil=>rw[List.zip_nil_left]at hz;cases hz
   | cons a t hvi' =>
    cases hwi with
    | nil=>rw[List.zip_nil_right]at hz;cases hz
    | cons c u hwi' =>
     rw[a4f]at hz
     injection hz with hyx hrest
     injection hyx with hy hx
     subst hy hx
     rw[cH]at hR
     simp at hlen
     obtain⟨e,he,hiff⟩:=Ka A.in1 ⟨hp,g,d,tk,os⟩ a t c u
     refine a1D<|he prog w _ _ ?_
     cases e with
     | true =>
      rw[if_pos<|hiff.mp rfl]at hR
      wp_walk
      exact⟨rfl,rfl,_,_,_,_,hrest,hvi',hwi',by omega,hR⟩
     | false =>
      rw[if_neg λq=>absurd (hiff.mpr q) a12]at hR
      have hri:=Ib A.in1 ⟨hp,g,d,tk,os⟩ a t c u prog w
      wp_walk using hri
      exact⟨_,rfl,by simpa using hR⟩
  case fin =>
   rintro⟨b1,b2⟩ s' ⟨hb',rfl,vs,ws,ns',ms',hz,hvi,hwi,hlen,hR⟩
   simp only at hb'
   subst hb'
   have hv:E5 ns' ms'=decide (items.size<items2.size):=by
    cases hvi with
    | nil =>
     cases hwi with
     | nil =>simp at hlen;rw[bR];exact(decide_eq_false<|by omega).symm
     | cons c u hw =>simp at hlen;rw[mQ];exact(decide_eq_true<|by omega).symm
    | cons a t hv =>
     cases hwi with
     | nil =>simp at hlen;rw[mR];exact(decide_eq_false<|by omega).symm
     | cons c u hw =>rw[a4f]at hz;cases hz
   rw[hv]at hR
   wp_walk
   exact⟨_,rfl,by simpa[Builtin.Tuple.tupleCompareSizes]using hR⟩
  case h =>
   exact⟨rfl,rfl,items.toList,items2.toList,ns,ms,rfl,hi,hj,by omega,h⟩
end
def yK(hl:IsTup s.heap l items)(hb:IsTup s.heap b items2)(hi:IntsAre items.toList ns)(hj:IntsAre items2.toList ms)
  (hu:A.units<cLine) (h:Q (.bool<|E5 ns ms) s):wpAny (model prog w) A (compareOp .Lt (.ref l)<|.ref b) Q E s:=by
 obtain⟨⟨cls,dd,data,sl⟩,ho,hc,n,hd⟩:=id hl
 obtain⟨⟨cls2,dd2,data2,sl2⟩,ho2,hc2,n2,hd2⟩:=id hb
 simp only at hc hd hc2 hd2
 subst hc hd hc2 hd2
 exact richCompare_meets_room (op:=.Lt) ⟨_,ho,rfl⟩ ⟨_,ho2,rfl⟩ PySem.F.slot_tuple_lt PySem.F.entry_tuple_lt (PySem.F.args_tuple_lt_2 _ _) (nI l b items items2 n n2 dd dd2 sl sl2 ns ms hi hj)
  ⟨ho,ho2,⟨(λx=>nomatch x),h⟩⟩ hu
def sIx(n d:Nat):Option Int->Nat
 | none=>d
 | some v=>if v<0 then(v+(n:Int)).toNat else min v.toNat n
def HB(n d:Nat):sIx n d none=d:=rfl
def Nj(n d k:Nat):sIx n d (some (k:Int))=min k n:=by rfl
end HT
namespace L2
open PySem PySem.Spec PyProof.Rows
abbrev TO:=St->Hp->(Option Int->Hp->Prop)->Prop
def PO(X:Cx)(e:Option Expr)(t:TO):Prop :=
 ∀(pins:List (Addr × Obj)) (s:Shared) (σ:St) (H:Hp) (Q:Option Int->Hp->Prop),Inv X pins σ H s->t σ H Q ->
  wpAny (model X.prog X.w) X.A (evalPart e X.env) (λu s'=>∃ o H',Inv X pins σ H' s'/\IsPart u o/\Q o H') X.xe s
def MT:TO:=λ_ H Q=>Q none H
def WI(t:TE):TO:=λσ H Q=>t σ H λx H1=>∃ i,x = .int i/\Q (some i) H1
def yS:∀{us:List Value},j8 (ns.map V.int) us->IntsAre us ns:=by
 induction ns with
 | nil=>intro us r;rw[a2R]at r;cases r;exact .nil
 | cons n ns ih =>
  intro us r;rw[a1Z]at r;cases r with
  | cons r1 r2 =>obtain⟨t,e⟩:=r1;subst e;exact .cons n t<|ih r2
section
variable {X:Cx} {e:Expr} {te:TE} {lo hi:Option Expr} {tl th:TO} {pos p2:Pos}
def NH:PO X none MT:=by intro pins s σ H Q I h;rw[evalPart_none];exact a1Q ⟨none,H,I,.none,h⟩
def NG(h:PE X e te):PO X (some e) (WI te):=by intro pins s σ H Q I hw;rw[evalPart_some];refine thn (h pins s σ H _ I hw) λu s1 zz=>?_;obtain⟨x,H1,I1,r1,q1⟩:=zz;obtain⟨i,rfl,q⟩:=q1;obtain⟨t,rfl⟩:=r1;exact⟨some i,H1,I1,.int i t,q⟩
def SlR(X:Cx)(r:V->Option Int->Option Int->Hp->VK->Prop):Prop :=
 ∀(pins:List (Addr × Obj)) (s:Shared) (σ:St) (H:Hp) (x:V) (v vl vu:Value) (lo hi:Option Int) (sl:Addr) (Q:VK),Inv X pins σ H s->l8 x v->s.heap.IsSliceOf sl vl vu .none->IsPart vl lo->IsPart vu hi->r x lo hi H Q ->
  ∃ T id,typeLookup (.type T) "__getitem__" = pure (some<|.builtin id)/\s.TypeIs v T/\wpAny (model X.prog X.w) X.A (getItem v<|.ref sl) (EP X pins σ Q) X.xe s
def tSl(r:V->Option Int->Option Int->Hp->VK->Prop)(te:TE)(tl th:TO):TE:=λσ H Q=>te σ H λx H1=>tl σ H1 λl H2=>th σ H2 λu H3=>r x l u H3 Q
def wc(hr:SlR X r)(he:PE X e te)(hl:PO X lo tl)(hu:PO X hi th):PE X (.Subscript e (.Slice lo hi none p2) pos) (tSl r te tl th):=by intro pins s σ H Q I h;refine Subscript_<|thn (he pins s σ H _ I h) λv s1 zz=>?_;obtain⟨x,H1,I1,r1,q1⟩:=zz;refine wpAny_Slice<|thn (hl pins s1 σ H1 _ I1 q1) λvl s2 ⟨l,H2,I2,pl,q2⟩=>thn (hu pins s2 σ H2 _ I2 q2) λvu s3 zz=>?_;obtain⟨u,H3,I3,pu,q3⟩:=zz;rw[evalPart_none];refine a1Q ?_;have I4:Inv X pins σ H3 { s3 with heap:=s3.heap.push { cls:=.type "slice",data:=.fields #[vl,vu,.none] } }:=I3.kept (t':=s3.toks) λb ob q=>a1E _ q;obtain⟨T,id,hT,ht,hg⟩:=hr pins { s3 with heap:=s3.heap.push { cls:=.type "slice",data:=.fields #[vl,vu,.none] } } σ H3 x v vl vu l u s3.heap.objs.size Q I4 r1 (Heap.IsSliceOf.new ..) pl pu q3;show wpAny (model X.prog X.w) X.A (subscriptTail e (.Slice lo hi none p2) v<|.ref s3.heap.objs.size) (EP X pins σ Q) X.xe { s3 with heap:=s3.heap.push { cls:=.type "slice",data:=.fields #[vl,vu,.none] } };exact tail_any ht hT hg<|by rfl
def KG(xs:List V)(lo hi:Option Int):List V:=(xs.drop<|HT.sIx xs.length 0 lo).take<|HT.sIx xs.length xs.length hi - HT.sIx xs.length 0 lo
def xv(xs:List V)(lo hi:Option Int):(KG xs lo hi).length<=xs.length:=by unfold KG;rw[a2q,a2F];omega
end
def ixN(n:Nat)(i:Int):Option Nat:=if 0<=i then(if i<n then some i.toNat else none)else if -(n:Int)<=i then some (i+n).toNat else none
def atI(xs:List α)(i:Int):Option α:=(ixN xs.length i).bind λj=>xs[j]?
def Cg(h:ixN n i=some j):seqIndex? i n=some j/\j<n/\-(n:Int)<=i/\i<n:=by
 unfold ixN at h;by_cases h0:0<=i
 ·rw[if_pos h0]at h
  by_cases h1:i<n
  ·rw[if_pos h1]at h;have e:=Option.some.inj h;exact⟨by rw[seqIndex_of h0 h1,e],by omega,by omega,h1⟩
  ·rw[if_neg h1]at h;cases h
 ·rw[if_neg h0]at h
  by_cases h1:-n<=i
  ·rw[if_pos h1]at h;have e:=Option.some.inj h;exact⟨by rw[seqIndex_neg (by omega) h1,e],by omega,h1,by omega⟩
  ·rw[if_neg h1]at h;cases h
def CV(h:atI xs i=some v):∃ j,seqIndex? i xs.length=some j/\xs[j]? = some v/\j<xs.length/\-(xs.length:Int)<=i/\i<xs.length:=by
 unfold atI at h;cases e:ixN xs.length i with
 | none=>rw[e]at h;cases h
 | some j =>rw[e]at h;obtain⟨h1,h2,h3,h4⟩:=Cg e;exact⟨j,h1,h,h2,h3,h4⟩
def fT{α:Type}{xs:List α}{j:Nat}{v:α}(h:xs[j]? = some v):atI xs (j:Int)=some v:=by
 have hj:j<xs.length:=(a1I.mp h).1;have e:ixN xs.length (j:Int)=some j:=by unfold ixN;rw[if_pos<|by omega,if_pos<|by omega];simp
 unfold atI;rw[e];exact h
def gf(b:Expr):Prop:=∀ o i,subscripted b false o i=operate [o,i] (getItem o i)
def IxR(X:Cx)(r:R2):Prop :=
 ∀(value slice:Expr) (pins:List (Addr × Obj)) (s:Shared) (σ:St) (H:Hp) (x y:V) (v u:Value) (Q:VK),Inv X pins σ H s->l8 x v->l8 y u->r x y H Q ->
  subscripted slice false v u=operate [v,u] (getItem v u)->wpAny (model X.prog X.w) X.A (subscriptTail value slice v u) (EP X pins σ Q) X.xe s
def MtR(X:Cx)(id:String)(r:V->List V->Hp->VK->Prop):Prop :=
 ∀(pins:List (Addr × Obj)) (s:Shared) (σ:St) (H:Hp) (x:V) (xs:List V) (v:Value) (us:List Value) (Q:VK),Inv X pins σ H s->l8 x v->j8 xs us->r x xs H Q ->
  wpAny (model X.prog X.w) X.A (call (.builtin id) (v :: us)) (EP X pins σ Q) X.xe s
section
variable {X:Cx} {a b:Expr}
def IxR.or(h:IxR X r)(h':IxR X r'):IxR X (λx y H Q=>r x y H Q\/r' x y H Q):=by
 intro value slice pins s σ H x y v u Q I rx ry q hs;rcases q with q|q
 ·exact h value slice pins s σ H x y v u Q I rx ry q hs
 ·exact h' value slice pins s σ H x y v u Q I rx ry q hs
def Iy(hr:IxR X r)(ha:PE X a ta)(hb:PE X b tb)(hs:gf b):PE X (.Subscript a b pos) (tOp r ta tb):=by intro pins s σ H Q I h;exact Subscript_<|Pq ha hb I h λv u s2 x y H2 I2 rx ry q=>hr a b pins s2 σ H2 x y v u Q I2 rx ry q<|hs _ _
def Zl(K:a1C):R2:=λx y H Q=>∃ p xs i v,x = .ref p/\y = .int i/\SqL K H p xs/\atI xs i=some v/\Q v H
def Zk(K:a1C):R2:=λx y H Q=>∃ p xs i v,x = .ref p/\y = .int i/\SqT K H p xs/\atI xs i=some v/\Q v H
def ON:IxR X (Zl X.K):=by
 intro value slice pins s σ H x y v u Q I rx ry h hs;obtain⟨p,xs,i,z,rfl,rfl,hq,he,q⟩:=h;cases rx;obtain⟨t,rfl⟩:=ry;obtain⟨its,r,pl,hz⟩:=I.list hq;obtain⟨j,h1,h2,h3,h4,h5⟩:=CV he;obtain⟨w,ew,rw'⟩:=r.get h2;have hl:=r.length;have hn:=mP;have fin:EP X pins σ Q w s:=⟨z,H,I,rw',q⟩;by_cases h0:0<=i
 ·have hj:i.toNat=j:=by
   rw[seqIndex_of h0 h5]at h1
   exact Option.some.inj h1
  exact item_listR pl.isList h0 (by omega) (by rw[hj];simpa using ew) fin hs
 ·have hj:(i+(its.toArray.size:Int)).toNat=j:=by
   rw[seqIndex_neg (by omega) h4]at h1
   rw[a18,<- hl]
   exact Option.some.inj h1
  exact subscriptTail_builtinR pl.isList.typeIs slot_list_getitem.lookup
   (wpAny_getItem_list_neg pl.isList (by omega) (by rw[a18]<;>omega) (by omega) (by rw[hj];simpa using ew) ⟨rfl,fin⟩) hs
def UJ:IxR X (Zk X.K):=by
 intro value slice pins s σ H x y v u Q I rx ry h hs;obtain⟨p,xs,i,z,rfl,rfl,hq,he,q⟩:=h;cases rx;obtain⟨t,rfl⟩:=ry;obtain⟨its,r,pl,hz⟩:=I.tuple hq;obtain⟨j,h1,h2,h3,h4,h5⟩:=CV he;obtain⟨w,ew,rw'⟩:=r.get h2;have hl:=r.length;have hn:=mP;have fin:EP X pins σ Q w s:=⟨z,H,I,rw',q⟩;exact subscriptTail_builtinR pl.typeIs slot_tuple_getitem.lookup
  (getItem_tuple pl (by omega) (by omega) (by rw[a18,<- hl];exact h1) (by simpa using ew) ⟨rfl,fin⟩) hs
def yH(its:List Value)(n j:Nat)(u:Value):Obj.mapSeq (·.setIfInBounds j u) { cls:=.type "list",data:=.seq its.toArray n } = { cls:=.type "list",data:=.seq (its.set j u).toArray n }:=by simp[Obj.mapSeq]
def Inv.lst(I:Inv X pins σ H s)(h:H p=some (.lst xs)) :
  ∃(its:List Value) (n:Nat),j8 xs its/\s.heap.get? p=some { cls:=.type "list",data:=.seq its.toArray n }/\xs.length<=sizeLine:=by
 obtain⟨z,its,n,r,e⟩:=I.hok p _ h
 exact⟨its,n,r,e,z⟩
def Inv.lstUpd{pins:List (Addr × Obj)}{σ:St}{H:Hp}{s:Shared}{p:Addr}{xs ys:List V}{its its':List Value}{n n':Nat}{f:Obj->Obj}(I:Inv X pins σ H s)(h:H p=some (.lst xs))
  (ho:s.heap.get? p=some { cls:=.type "list",data:=.seq its.toArray n }) (hf:f { cls:=.type "list",data:=.seq its.toArray n } = { cls:=.type "list",data:=.seq its'.toArray n' }) (r:j8 ys its') (hz:ys.length<=sizeLine) (t:Nat) :
  Inv X pins σ (upd H p<|.lst ys) { s with heap:=s.heap.update p f,toks:=t }:=by
 have e:(s.heap.update p f).get? p=some { cls:=.type "list",data:=.seq its'.toArray n' }:=by rw[a2s f ho<|by rw[hf]<;>rfl,hf]
 refine I.write (by rw[h];trivial) (.inl rfl) (λb u hb q=>(a2h _ _<|Ne.symm hb).trans q) ⟨_,e⟩ ?_
 exact⟨hz,its',n',r,e⟩
def Xu:V->V->V->Hp->(Hp->Prop)->Prop:=λo i v H Q=>∃ p xs k j,o = .ref p/\i = .int k/\H p=some (.lst xs)/\ixN xs.length k=some j/\Q (upd H p<|.lst<|xs.set j v)
def GS:YK X Xu:=by
 intro pins s σ H o i v ov iv u Q I ro ri rv h;obtain⟨p,xs,k,j,rfl,rfl,hp,hj,q⟩:=h;cases ro;obtain⟨t,rfl⟩:=ri;obtain⟨its,n,r,ho,hz⟩:=I.lst hp;obtain⟨h1,h2,h3,h4⟩:=Cg hj;have hl:=r.length;have hn:=mP;have I':Inv X pins σ (upd H p<|.lst<|xs.set j v) { s with heap:=s.heap.update p (Obj.mapSeq (·.setIfInBounds j u)) } :=
  I.lstUpd hp ho (yH its n j u) (r.set rv j) (by rw[List.length_set];exact hz) s.toks
 by_cases h0:0<=k
 ·have hk:k.toNat=j:=by
   rw[seqIndex_of h0 h4]at h1
   exact Option.some.inj h1
  exact PySem.W.ki_setAt ho h0 (by omega) (by rw[a18,<- hl];exact h4)<|by rw[hk];exact⟨_,I',q⟩
 ·have hk:(k+(its.toArray.size:Int)).toNat=j:=by
   rw[seqIndex_neg (by omega) h3]at h1
   rw[a18,<- hl]
   exact Option.some.inj h1
  exact PySem.W.ki_setBack ho (by omega) (by rw[a18,<- hl];exact h3) (by omega)<|by rw[hk];exact⟨_,I',q⟩
def qL(lo hi:Option Int)(n:Nat):(sliceBounds lo hi none n).1=((HT.sIx n 0 lo:Nat):Int)/\(sliceBounds lo hi none n).2.1=((HT.sIx n n hi:Nat):Int)/\(sliceBounds lo hi none n).2.2=1:=by
 refine⟨?_,?_,rfl⟩
 ·cases lo with
  | none=>simp[sliceBounds,HT.sIx]
  | some i =>
   simp only[sliceBounds,HT.sIx,a5w,show(1:Int) > 0 by decide,if_true];by_cases h:i<0
   ·simp only[h,if_true]<;>omega
   ·simp only[h,if_false]<;>omega
 ·cases hi with
  | none=>simp[sliceBounds,HT.sIx]
  | some i =>
   simp only[sliceBounds,HT.sIx,a5w,show(1:Int) > 0 by decide,if_true];by_cases h:i<0
   ·simp only[h,if_true]<;>omega
   ·simp only[h,if_false]<;>omega
def nK(its:List Value)(lo hi:Option Int):slicePick its.toArray lo hi none=((its.drop<|HT.sIx its.length 0 lo).take<|HT.sIx its.length its.length hi - HT.sIx its.length 0 lo).toArray:=by obtain⟨h1,h2,h3⟩:=qL lo hi its.toArray.size;unfold slicePick;rw[h1,h2,h3];simp only[sliceRange_one,pick_run]<;>rfl
def Zi(K:a1C):V->Option Int->Option Int->Hp->VK->Prop:=λx lo hi H Q=>∃ a xs,x = .ref a/\SqL K H a xs/\∀ p,H p=none->Q (.ref p) (upd H p<|.lst<|KG xs lo hi)
def MW:SlR X (Zi X.K):=by intro pins s σ H x v vl vu lo hi sl Q I rx hs pl pu h;obtain⟨a,xs,rfl,hx,q⟩:=h;cases rx;obtain⟨its,r,ht,hz⟩:=I.list hx;have hlen:=r.length;refine⟨"list",_,slot_list_getitem.lookup,ht.isList.typeIs,?_⟩;refine wpAny_getItem_list_slice ht.isList hs pl pu .none (by simp) ?_ (by rw[a18]<;>omega);rw[nK,<- hlen];refine⟨.ref s.heap.objs.size,_,I.laid (t':=s.toks) (λb ob q=>a1E _ q) (a1U _) ?_,rfl,q _<|I.hok.fresh<|a1U _⟩;exact⟨a1N (xv xs lo hi) hz,_,0,(r.drop<|HT.sIx xs.length 0 lo).take<|HT.sIx xs.length xs.length hi - HT.sIx xs.length 0 lo,a1P _ rfl⟩
def cy:V->Bool
 | .non=>true
 | .bl _=>true
 | .int _=>true
 | .str _=>true
 | _=>false
def eqV:V->V->Bool
 | .non,.non=>true
 | .bl a,.bl b=>a == b
 | .bl a,.int b=>(if a then 1 else 0) == b
 | .int a,.bl b=>a == (if b then 1 else 0)
 | .int a,.int b=>a == b
 | .str a,.str b=>a == b
 | _,_=>false
def Va(ry:l8 y u)(rx:l8 x v)(fy:cy y=true)(fx:cy x=true):SeqAt.EqAt A s u v (eqV y x):=by
 cases y with
 | non =>
  cases ry;cases x with
  | non=>cases rx;exact SeqAt.EqAt.same _
  | bl b=>cases rx;exact SeqAt.EqAt.none_bool b
  | int b=>obtain⟨t,rfl⟩:=rx;exact SeqAt.EqAt.none_int b t
  | str b=>obtain⟨t,rfl⟩:=rx;exact SeqAt.EqAt.none_str b t
  | _=>exact absurd (fx) a12
 | bl a =>
  cases ry;cases x with
  | non=>cases rx;exact SeqAt.EqAt.bool_none a
  | bl b=>cases rx;exact SeqAt.EqAt.bool_bool a b
  | int b=>obtain⟨t,rfl⟩:=rx;exact SeqAt.EqAt.bool_int a b t
  | str b=>obtain⟨t,rfl⟩:=rx;exact SeqAt.EqAt.bool_str a b t
  | _=>exact absurd (fx) a12
 | int a =>
  obtain⟨t',rfl⟩:=ry;cases x with
  | non=>cases rx;exact SeqAt.EqAt.int_none a t'
  | bl b=>cases rx;exact SeqAt.EqAt.int_bool a t' b
  | int b=>obtain⟨t,rfl⟩:=rx;exact SeqAt.EqAt.int_int a t' b t
  | str b=>obtain⟨t,rfl⟩:=rx;exact SeqAt.EqAt.int_str a t' b t
  | _=>exact absurd (fx) a12
 | str a =>
  obtain⟨t',rfl⟩:=ry;cases x with
  | non=>cases rx;exact SeqAt.EqAt.str_none a t'
  | bl b=>cases rx;exact SeqAt.EqAt.str_bool a t' b
  | int b=>obtain⟨t,rfl⟩:=rx;exact SeqAt.EqAt.str_int a t' b t
  | str b=>obtain⟨t,rfl⟩:=rx;exact SeqAt.EqAt.str_str a t' b t
  | _=>exact absurd (fx) a12
 | _=>exact absurd (fy) a12
def eqU(x:V)(u:Value):Bool:=match u with
 | .none=>eqV .non x
 | .bool b=>eqV (.bl b) x
 | .int i _=>eqV (.int i) x
 | .str z _=>eqV (.str z) x
 | _=>false
def JZ(r:l8 y u)(f:cy y=true):eqU x u=eqV y x:=by
 cases y with
 | non=>cases r;rfl
 | bl b=>cases r;rfl
 | int i=>obtain⟨t,rfl⟩:=r;rfl
 | str z=>obtain⟨t,rfl⟩:=r;rfl
 | _=>exact absurd (f) a12
theorem fV:∀{xs:List V} {us:List Value},j8 xs us->xs.all cy=true->us.any (eqU x)=xs.any λy=>eqV y x
 | _,_,.nil,_=>rfl
 | y :: xs,u :: us,.cons r t,f=>by rw[a4s,a25]at f;rw[a4t,a4t,JZ r f.1,fV t f.2]
theorem aj(rx:l8 x v)(fx:cy x=true):∀{xs:List V} {us:List Value},j8 xs us->xs.all cy=true->∀ u∈us,SeqAt.EqAt A s u v<|eqU x u
 | _,_,.nil,_=>λu hu=>by cases hu
 | y :: xs,u :: us,.cons r t,f=>λu' hu=>by
  rw[a4s,a25]at f;rcases a1Y.mp hu with rfl|hu
  ·rw[JZ r f.1];exact Va r rx f.1 fx
  ·exact aj rx fx t f.2 u' hu
def inV(x:V)(xs:List V):Bool:=xs.any λy=>eqV y x
def rIn(K:a1C)(neg:Bool):R2:=λx y H Q=>∃ p xs,y = .ref p/\(SqL K H p xs\/SqT K H p xs)/\cy x=true/\xs.all cy=true/\Q (.bl (if neg then !inV x xs else inV x xs)) H
def DH:OpR X (compareOp .In) (rIn X.K false):=by
 intro pins s σ H x y v u Q I rx ry h;obtain⟨p,xs,rfl,hq,fx,fs,q⟩:=h;cases ry;rcases hq with hq|hq
 ·obtain⟨its,r,pl,hz⟩:=I.list hq;refine SeqAt.in_listAt (eqU x) pl.isList (λw hw=>aj rx fx r fs w<|by simpa using hw) ⟨.bl _,H,I,rfl,?_⟩;rw[show its.toArray.any (eqU x)=its.any (eqU x)by simp,fV r fs];exact q
 ·obtain⟨its,r,pl,hz⟩:=I.tuple hq;refine SeqAt.in_tupleAt (eqU x) pl (λw hw=>aj rx fx r fs w<|by simpa using hw) ⟨.bl _,H,I,rfl,?_⟩;rw[show its.toArray.any (eqU x)=its.any (eqU x)by simp,fV r fs];exact q
def sj:OpR X (compareOp .NotIn) (rIn X.K true):=by
 intro pins s σ H x y v u Q I rx ry h;obtain⟨p,xs,rfl,hq,fx,fs,q⟩:=h;cases ry;rcases hq with hq|hq
 ·obtain⟨its,r,pl,hz⟩:=I.list hq;refine SeqAt.notIn_listAt (eqU x) pl.isList (λw hw=>aj rx fx r fs w<|by simpa using hw) ⟨.bl _,H,I,rfl,?_⟩;rw[show its.toArray.any (eqU x)=its.any (eqU x)by simp,fV r fs];exact q
 ·obtain⟨its,r,pl,hz⟩:=I.tuple hq;refine SeqAt.notIn_tupleAt (eqU x) pl (λw hw=>aj rx fx r fs w<|by simpa using hw) ⟨.bl _,H,I,rfl,?_⟩;rw[show its.toArray.any (eqU x)=its.any (eqU x)by simp,fV r fs];exact q
def tU:p9 X (.builtin "len") (λxs H Q=>∃ p ys,xs=[.ref p]/\(SqL X.K H p ys\/SqT X.K H p ys)/\Q (.int ys.length) H):=by
 intro pins s σ H xs us Q I r h;obtain⟨p,ys,rfl,hq,q⟩:=h;obtain⟨u,rfl,rx⟩:=L5 r;cases rx;have hn:=mP;rcases hq with hq|hq
 ·obtain⟨its,r',pl,hz⟩:=I.list hq;have hlen:=r'.length;exact Calls.call_len_list pl.isList (by simp<;>omega) ⟨.int ys.length,H,I.tok _,⟨s.toks+1,by rw[a18,hlen]⟩,q⟩
 ·obtain⟨its,r',pl,hz⟩:=I.tuple hq;have hlen:=r'.length;exact len_tuple pl (by simp<;>omega) ⟨.int ys.length,H,I.tok _,⟨s.toks+1,by rw[a18,hlen]⟩,q⟩
def tT:p9 X (.builtin "len") (λxs H Q=>∃ z,xs=[.str z]/\z.length<=sizeLine/\Q (.int z.length) H):=by intro pins s σ H xs us Q I r h;obtain⟨z,rfl,hz,q⟩:=h;obtain⟨u,rfl,t,rfl⟩:=L5 r;have hn:=mP;exact len_str (by omega) ⟨.int z.length,H,I.tok _,⟨_,rfl⟩,q⟩
def p9.or(h:p9 X f r)(h':p9 X f r'):p9 X f (λxs H Q=>r xs H Q\/r' xs H Q):=by
 intro pins s σ H xs us Q I rs q;rcases q with q|q
 ·exact h pins s σ H xs us Q I rs q
 ·exact h' pins s σ H xs us Q I rs q
def tS:p9 X (.type "list") (λxs H Q=>∃ p ys,xs=[.ref p]/\(SqL X.K H p ys\/SqT X.K H p ys)/\∀ l,H l=none->Q (.ref l) (upd H l<|.lst ys)):=by
 intro pins s σ H xs us Q I r h;obtain⟨p,ys,rfl,hq,q⟩:=h;obtain⟨u,rfl,rx⟩:=L5 r;cases rx;have fin:∀(its:List Value),j8 ys its->ys.length<=sizeLine->∀(h':Heap) (c':Nat),(∀ b o',s.heap.get? b=some o'->h'.get? b=some o') ->
   h'.get? s.heap.objs.size=some { cls:=.type "list",dict:=none,data:=.seq its.toArray c',slots:=#[] }->EP X pins σ Q (.ref s.heap.objs.size) { s with heap:=h' }:=λits r' hz h' c' kp e =>
  ⟨.ref s.heap.objs.size,_,I.laid (t':=s.toks) kp (a1U _) (show D5 X.prog X.w _ h' _ (.lst ys)from⟨hz,its,c',r',e⟩),rfl,q _<|I.hok.fresh<|a1U _⟩
 rcases hq with hq|hq
 ·obtain⟨its,r',pl,hz⟩:=I.list hq;have hlen:=r'.length;obtain⟨o,ho,hc,n,hd⟩:=pl.isList;exact call_list_seq p (.inl rfl) ho hc hd (λh' c' kp e=>fin its r' hz h' c' kp e)<|by simp only[a18]<;>omega
 ·obtain⟨its,r',pl,hz⟩:=I.tuple hq;have hlen:=r'.length;obtain⟨o,ho,hc,n,hd⟩:=pl;exact call_list_seq p (.inr rfl) ho hc hd (λh' c' kp e=>fin its r' hz h' c' kp e)<|by simp only[a18]<;>omega
def oR:p9 X (.type "tuple") (λxs H Q=>∃ p ys,xs=[.ref p]/\((SqL X.K H p ys/\∀ l,H l=none->Q (.ref l) (upd H l<|.tup ys))\/(SqT X.K H p ys/\Q (.ref p) H))):=by
 intro pins s σ H xs us Q I r h;obtain⟨p,ys,rfl,h⟩:=h;obtain⟨u,rfl,rx⟩:=L5 r;cases rx;rcases h with⟨hq,q⟩|⟨hq,q⟩
 ·obtain⟨its,r',pl,hz⟩:=I.list hq
  have hlen:=r'.length;refine call_tuple_list pl.isList (λh' kp=>?_) (by simp only[a18]<;>omega);have I1:Inv X pins σ H { s with heap:=h' }:=I.kept (t':=s.toks) kp;have I2:Inv X pins σ (upd H h'.objs.size<|.tup ys) { s with heap:=h'.push { cls:=.type "tuple",data:=.seq its.toArray } } :=
   I1.laid (t':=s.toks) (λb o e=>a1E _ e) (a1U _) (show D5 X.prog X.w _ _ _ (.tup ys)from⟨hz,its,r',IsTup.new _ _⟩)
  exact⟨.ref h'.objs.size,_,I2,rfl,q _<|I1.hok.fresh<|a1U _⟩
 ·obtain⟨its,r',pl,hz⟩:=I.tuple hq;exact call_tuple_same pl ⟨.ref p,H,I,rfl,q⟩
def tyV(K:a1C)(T:String)(x:V)(H:Hp):Prop:=match x with
 | .str _=>T = "str"
 | .int _=>T = "int"
 | .ref p=>(T = "list" /\ ∃ xs,SqL K H p xs)\/(T = "tuple" /\ ∃ o,K.lookup p=some o/\o.cls = .type "tuple" /\ o.dict=none) \/
   (T = "dict" /\ ((∃ kvs,H p=some (.dK kvs)) \/ ∃ hs kvs,H p=some (.dT hs kvs)))\/(T = "set" /\ ∃ S n,H p=some (.set S n))
 | _=>False
def Gj(I:Inv X pins σ H s)(r:l8 x v)(ty:tyV X.K T x H) :
  s.TypeIs v T/\∀ a,v = .ref a->∃ ob,s.heap.get? a=some ob/\ob.dict=none:=by
 cases x with
 | str z =>
  obtain⟨t,rfl⟩:=r
  cases(ty)
  exact⟨typeIs_str s z t,λ_ e=>nomatch e⟩
 | int i =>
  obtain⟨t,rfl⟩:=r
  cases(ty)
  exact⟨typeIs_int s i t,λ_ e=>nomatch e⟩
 | ref p =>
  cases r
  rcases ty with⟨rfl,xs,hq⟩|⟨rfl,o,hk,hc,hd⟩|⟨rfl,hk⟩|⟨rfl,S,n,hk⟩
  ·obtain⟨its,_,pl,_⟩:=I.list hq
   refine⟨pl.isList.typeIs,λa e=>?_⟩
   cases e
   obtain⟨o,n,e,c,hd,_⟩:=pl
   exact⟨o,e,hd⟩
  ·refine⟨⟨o,I.kIn p o hk,hc⟩,λa e=>?_⟩
   cases e
   exact⟨o,I.kIn _ o hk,hd⟩
  ·have z:∃ o,s.heap.get? p=some o/\o.ExactDict:=by
    rcases hk with⟨kvs,hk⟩|⟨hs,kvs,hk⟩
    ·obtain⟨_,_,_,_,o,_,_,e,ex,_⟩:=I.hok p _ hk;exact⟨o,e,ex⟩
    ·obtain⟨_,_,_,_,o,_,_,e,ex,_⟩:=I.hok p _ hk;exact⟨o,e,ex⟩
   obtain⟨o,e,ex⟩:=z
   refine⟨⟨o,e,ex.1⟩,λa e2=>?_⟩
   cases e2
   exact⟨o,e,ex.2.1⟩
  ·obtain⟨o,_,_,_,e,ex,_⟩:=I.hok p _ hk
   refine⟨⟨o,e,ex.1⟩,λa e2=>?_⟩
   cases e2
   exact⟨o,e,ex.2.1⟩
 | _=>exact False.elim ty
def Zf(K:a1C)(T:String)(r:V->List V->Hp->VK->Prop)(to:TE):TE:=λσ H Q=>to σ H λx H1=>tyV K T x H1/\r x [] H1 Q
def tBM(K:a1C)(T:String)(r:V->List V->Hp->VK->Prop)(to:TE)(t:TA):TE:=λσ H Q=>to σ H λx H1=>tyV K T x H1/\t σ H1 λxs H2=>r x xs H2 Q
variable {o e:Expr} {es:List Expr} {to:TE} {t:TA} {name:Str} {apos cpos:Pos} {T id:String} {r:V->List V->Hp->VK->Prop}
def Ub(pa:PlainAttrs T)(slot:Slot T name id)(hty:typeOf (.builtin id)=pure (.type "method_descriptor"))(hm:MtR X id r)(ho:PE X o to)
  (hbase:attributeBase o name X.env (eval o X.env)=eval o X.env:=by rfl) (hline:(apos.endLine == cpos.line)=true:=by rfl):PE X (.Call (.Attribute o name apos) [] [] cpos) (Zf X.K T r to):=by
 intro pins s σ H Q I h
 refine wpAny_Call_method0_late hbase hline<|thn (ho pins s σ H _ I h) λv s1 zz=>?_
 obtain⟨x,H1,I1,r1,ty,q1⟩:=zz
 obtain⟨h1,h2⟩:=Gj I1 r1 ty
 exact⟨T,id,pa,slot,hty,h1,h2,Calls.callWith_builtin rfl<|PySem.evalArgs_none<|hm pins s1 σ H1 x [] v [] Q I1 r1 .nil q1⟩
def wj(pa:PlainAttrs T)(slot:Slot T name id)(hty:typeOf (.builtin id)=pure (.type "method_descriptor"))(hm:MtR X id r)(ho:PE X o to)(ha:PA X (e :: es) t)
  (hbase:attributeBase o name X.env (eval o X.env)=eval o X.env:=by rfl)
  (hfew:((backTo cpos<|starEach (e :: es) X.env).all (λx=>!x.1) && (backToKw cpos<|keywordEach [] X.env).all (λx=>x.1.isSome)
   && decide ((e :: es).length+([]:List Keyword).length+(if ([]:List Keyword).isEmpty then 0 else 1)<30))=true:=by rfl)
  (hline:(apos.endLine == cpos.line)=true:=by rfl) (hs:starEach (e :: es) X.env=(false,eval e X.env) :: starEach es X.env:=by rfl) (hplain:(backTo cpos<|starEach es X.env).any (·.1)=false:=by rfl) :
  PE X (.Call (.Attribute o name apos) (e :: es) [] cpos) (tBM X.K T r to t):=by
 intro pins s σ H Q I h
 refine wpAny_Call_method_late hbase hfew hline rfl<|thn (ho pins s σ H _ I h) λv s1 zz=>?_
 obtain⟨x,H1,I1,r1,ty,q1⟩:=zz
 obtain⟨h1,h2⟩:=Gj I1 r1 ty
 refine⟨T,id,pa,slot,hty,h1,h2,?_⟩
 have hA:=ha cpos pins s1 σ H1 _ I1 q1
 rw[hs]at hA ⊢
 refine Calls.callWith_builtin (by assumption)<|Calls.evalArgs_plain ?_
 exact thn hA λus s2 ⟨vs,H2,I2,r2,q2⟩=>hm pins s2 σ H2 x vs v us Q I2 r1 r2 q2
end
def MtM(X:Cx)(id:String)(r:V->List V->Hp->VK->Prop):Prop :=
 ∀(pins:List (Addr × Obj)) (s:Shared) (σ:St) (H:Hp) (x:V) (xs:List V) (v:Value) (us:List Value) (Q:VK),Inv X pins σ H s->l8 x v->j8 xs us->r x xs H Q ->
  wpAny (model X.prog X.w) X.A (call (.builtin id) (v :: us)) (EP X pins σ Q) X.xe s
def j8.one(h:j8 [x] us):∃ u,us=[u]/\l8 x u:=by cases h with|cons r t=>cases t;exact⟨_,rfl,r⟩
def j8.two(h:j8 [x,y] us):∃ u v,us=[u,v]/\l8 x u/\l8 y v:=by cases h with|cons r t=>cases t with|cons q t2=>cases t2;exact⟨_,_,rfl,r,q⟩
def j8.reverse(h:j8 xs us):j8 xs.reverse us.reverse:=by
 induction h with
 | nil=>exact .nil
 | cons r t ih=>rw[a3r,a3r];exact j8.append ih<|.cons r .nil
theorem j8.rep(h:j8 xs us):∀ k:Nat,j8 (a16 k xs).flatten (a16 k us).flatten
 | 0=>.nil
 | k+1=>by rw[a2G,a2G,a3b,a3b];exact j8.append h<|j8.rep h k
theorem qq(its:List Value):∀ k (acc:List Value),
  a5D (λx1 x2=>x1++x2) acc.toArray (a16 k its.toArray)=(acc++(a16 k its).flatten).toArray
 | 0,acc=>by simp
 | k+1,acc=>by
  have e:acc.toArray++its.toArray=(acc++its).toArray:=by simp
  have e2:(acc++its)++(a16 k its).flatten=acc++(a16 (k+1) its).flatten:=by rw[a2G,a3b,a2H]
  rw[<- e2,<- qq its k (acc++its),<- e,a2G,a31]
def Inv.lset{its its':List Value}{n:Nat}{f:Array Value->Array Value}{t':Nat}(I:Inv X pins σ H s)(hH:H l=some (.lst xs))
  (e:s.heap.get? l=some { cls:=.type "list",data:=.seq its.toArray n }) (hf:f its.toArray=its'.toArray) (hv:j8 ys its') (hz:ys.length<=sizeLine) :
  Inv X pins σ (upd H l<|.lst ys) { s with heap:=s.heap.update l<|Obj.mapSeq f,toks:=t' }:=by
 have q:=PySem.IsL.update e f
 rw[hf]at q
 refine I.write (by rw[hH];exact trivial) (.inl rfl) (λb' u hb hu=>(a2h s.heap (Obj.mapSeq f)<|Ne.symm hb).trans hu) ⟨_,q⟩ ?_
 exact⟨hz,its',_,hv,q⟩
def Inv.lnew(I:Inv X pins σ H s)(hv:j8 ys its)(hz:ys.length<=sizeLine) :
  Inv X pins σ (upd H s.heap.objs.size<|.lst ys) { s with heap:=s.heap.push { cls:=.type "list",data:=.seq its.toArray },toks:=t' } :=
 I.laid (λ_ _ q=>a1E _ q) (a1U _) ⟨hz,its,0,hv,a1P _ rfl⟩
def Inv.fresh(I:Inv X pins σ H s):H s.heap.objs.size=none:=I.hok.fresh<|a1U _
def Inv.lstM(I:Inv X pins σ H s)(hH:H l=some (.lst xs)):xs.length<=sizeLine/\∃(its:List Value) (n:Nat),j8 xs its/\xs.length=its.length/\s.heap.get? l=some { cls:=.type "list",data:=.seq its.toArray n }:=by obtain⟨z,its,n,r,e⟩:=I.hok l _ hH;exact⟨z,its,n,r,r.length,e⟩
def wU(h:n<=sizeLine):Builtin.List.listTooLong n=false:=by simp_all [decide_eq_false,Builtin.List.listTooLong]
def NB:V->List V->Hp->VK->Prop:=λx vs H Q=>∃ l xs y,x = .ref l/\vs=[y]/\H l=some (.lst xs)/\xs.length<sizeLine/\Q .non (upd H l<|.lst<|xs++[y])
def qi:MtM X "list.append" NB:=by intro pins s σ H x vs v us Q I rx rv h;obtain⟨l,xs,y,rfl,rfl,hH,hz,q⟩:=h;cases rx;obtain⟨u,rfl,ru⟩:=rv.one;obtain⟨z,its,n,r,hl,e⟩:=I.lstM hH;refine call_meets F.slot_list_append ⟨_,e,rfl⟩ F.entry_list_append (F.args_list_append_2 _ _) (PySem.list_append l its.toArray n u<|by rw[a18];omega) ⟨e,?_⟩;refine⟨.non,_,I.lset (its':=its++[u]) hH e (by simp) (r.append<|.cons ru .nil) ?_,rfl,q⟩;rw[a1V,a4Q];omega
def NA:V->List V->Hp->VK->Prop:=λx vs H Q=>∃ l b xs zs,x = .ref l/\vs=[.ref b]/\H l=some (.lst xs)/\H b=some (.lst zs)/\xs.length+zs.length<=sizeLine/\Q .non (upd H l<|.lst<|xs++zs)
def DQ:MtM X "list.extend" NA:=by
 intro pins s σ H x vs v us Q I rx rv h;obtain⟨l,b,xs,zs,rfl,rfl,hH,hB,hz,q⟩:=h;cases rx;obtain⟨u,rfl,ru⟩:=rv.one;cases ru;obtain⟨z,its,n,r,hl,e⟩:=I.lstM hH;obtain⟨z2,its2,n2,r2,hl2,e2⟩:=I.lstM hB;have hsz:its.toArray.size+its2.toArray.size<=sizeLine:=by rw[a18,a18];omega
 have hlong:¬ (!its.toArray.isEmpty && Builtin.List.listTooLong (its.toArray.size+its2.toArray.size))=true:=by rw[wU hsz,a3j];exact a12
 refine call_meets F.slot_list_extend ⟨_,e,rfl⟩ F.entry_list_extend (F.args_list_extend_2 _ _)
  (AutoSeq1.list_extend_list_list_0 l its.toArray n b its2.toArray n2 hlong (by omega)<|by omega) ⟨e,e2,?_⟩
 refine⟨.non,_,I.lset (its':=its++its2) hH e (by simp) (r.append r2) ?_,rfl,q⟩;rw[a1V];omega
def Zj:R2:=λx y H Q=>∃ l k xs,x = .ref l/\y = .int k/\H l=some (.lst xs)/\-(2 ^ 63)<=k/\k<2 ^ 63/\xs.length*k.toNat<=sizeLine /\
 ∀ p,H p=none->Q (.ref p) (upd H p<|.lst (a16 k.toNat xs).flatten)
def Oz(xs:List α)(k:Nat):(a16 k xs).flatten.length=k*xs.length:=by simp
def Ue:OpR X (binaryOp .Mult) Zj:=by
 intro pins s σ H x y v u Q I rx ry h;obtain⟨l,k,xs,rfl,rfl,hH,h1,h2,hz,q⟩:=h;cases rx;obtain⟨t,rfl⟩:=ry;obtain⟨z,its,n,r,hl,e⟩:=I.lstM hH;have hlen:its.toArray.size*k.toNat<=sizeLine:=by rw[a18,<- hl];exact hz
 have hcap:¬ its.toArray.size*k.toNat > (2 ^ 63 - 1) / 8:=by
  have:(sizeLine:Nat)<=(2 ^ 63 - 1) / 8:=by decide
  omega
 have hfit:¬ (!Builtin.List.listFitsIndex k)=true:=by simp_all [fitsIndex_both,a12]
 have hlong:¬ Builtin.List.listTooLong (its.toArray.size*k.toNat)=true:=by simp_all [wU,a12]
 have hnew:a5D (λx1 x2=>x1++x2) #[] (a16 (if its.toArray.isEmpty=true then 0 else k.toNat) its.toArray)=(a16 k.toNat its).flatten.toArray:=by
  have f0:∀ m,a5D (λx1 x2=>x1++x2) #[] (a16 m its.toArray)=(a16 m its).flatten.toArray:=λm=>by simp[qq,List.nil_append]
  rw[f0];cases its with
  | nil=>simp
  | cons a r'=>rw[if_neg<|by simp]
 refine wpAny_binaryOp_repeat_ref (by decide) ⟨_,e,rfl⟩ (λs'=>typeIs_int s' k t) noFill_list_mul F.fills_int_mul F.slot_int_rmul repeat_list F.slot_int_index.lookup
  (call_meets F.slot_int_rmul (typeIs_int s k t) F.entry_int_rmul (F.args_int_rmul_2 _ _) (int___rmul___int_list k t l its.toArray n)
   ⟨e,rfl,⟨_,e,rfl⟩,call_meets F.slot_list_mul ⟨_,e,rfl⟩ F.entry_list_mul (F.args_list_mul_2 _ _) (AutoListH.list___mul___list_int_3 l its.toArray n k t hfit hcap hlong) ⟨e,?_⟩⟩)
 rw[hnew];exact⟨.ref _,_,I.lnew (t':=s.toks) (r.rep k.toNat)<|by rw[Oz,a3p];exact hz,rfl,q _ I.fresh⟩
end L2
namespace Att
open PySem PySem.W PySem.Calls PyProof.Rows
def jE:∀ ns (vs:List Value),WellAll P h vs (ns.map WData.int)->IntsAre vs ns:=by
 intro ns;induction ns with
 | nil =>intro vs w;rw[a2R]at w;cases w;exact .nil
 | cons n ns ih =>
  intro vs w;rw[a1Z]at w;cases w with
  | cons a b =>cases a;exact .cons _ _<|ih _ b
def Dx{l:OpenLaw}{n:Nat}(hn:l.most=some n){P:Params}{h:Heap}{args:List WData}{vals:List Value}
  (hpre:l.row.toRowW.claim.pre args=true) (hwl:WellAll P h vals args) :
  ∃ a vs ns,vals=[Value.ref a]/\args=[WData.list<|ns.map WData.int]/\h.get? a=some { cls:=.type "list",data:=.seq vs.toArray }/\IntsAre vs ns/\ns.length<=n:=by
 have hsh:=(pre_splitW hpre).1
 have hc:l.pre.holds [] { args:=args } = true:=(pre_splitW hpre).2
 obtain⟨d,r,rfl,h1,h2⟩:=hasAllW_cons hsh
 obtain rfl:=hasAllW_nil h2
 obtain⟨xs,rfl,h3⟩:=hasW_list h1
 obtain⟨ns,rfl⟩:=items_int h3
 have hlen:ns.length<=n:=by
  unfold OpenLaw.pre at hc;have h4:(WTm.not<|.lt (.lit<|.int (n:Int))<|.len<|.arg 0).holds [] { args:=[.list<|ns.map .int] } = true:=by have h4:=(holds_andW hc).1;rw[hn]at h4;exact h4
  have h5:=condW_of h4<|w_not<|w_lt w_lit<|w_len_list<|w_arg rfl;grind
 cases hwl with
 | cons w1 w2 =>
  cases w2
  cases w1 with
  | list ho hall=>exact⟨_,_,ns,rfl,rfl,ho,jE ns _ hall,hlen⟩
def DF(l:OpenLaw)(args:List WData):l.row.toRowW.claim.post args (.bool true) args=true :=
 postW_of
  (show WShape.has [] (.bool true) .bool=true by first|rfl|decide|simp[WShape.has,WShape.arms,WShape.armsAll])
  (w_eq_bool (w_res rfl) w_lit) rfl
def xF{l:OpenLaw}{n:Nat}{q:Program}{loose:List Str}{XP:(Str->Option Value)->Heap->Prop}{YP:World->Heap->Prop}{d:DefRec}
  (hn:l.most=some n) (hdf:d.params.defaults=[])
  (call:∀ w (s₀ s₁:Shared) (mg mb:Str->Option Value) (fa:Addr) (o:Obj) (pm cd doc:Value) (a:Addr) (vs:List Value) (ns:List Int),
   Ground q loose [] XP w s₀ mg mb s₁.heap->YP w s₁.heap ->
   s₁.heap.get? fa=some o->o.data = .func (docDef d.name d.params d.body d.scope pm cd doc)->s₁.heap.CodeRec cd d.name->mg d.name=some (.ref fa) ->
   s₁.heap.get? a=some { cls:=.type "list",data:=.seq vs.toArray }->IntsAre vs ns->ns.length<=n->s₁.gens = #[] ->
   codeAny (model l.prog w) callerA (.call (.ref fa) ⟨[.ref a],[]⟩) (λr s'=>r = .ok (.ret<|.bool true)/\OldK s₁.heap s'.heap/\s'.os=s₁.os/\AllBare s'.gens) s₁) :
  WalkO q loose XP YP l.row.toRowW d [] (λf vs=>PySem.call f vs):=by
 intro w s₀ s₁ mg mb G Y fa o pm cd doc dV kV ho hd hcd hD hmg hg args vals as hpre hlay hrd hwl hlo
 obtain rfl:dV = .none:=Dflts.none hD hdf
 obtain rfl:kV = .none:=Dflts.noKw hD
 obtain⟨a,vs,ns,rfl,rfl,hobj,hints,hlen⟩:=Dx hn hpre hwl
 refine enter_call<|codeAny_mono (call w s₀ s₁ mg mb fa o pm cd doc a vs ns G Y ho (fd_plain hd) hcd hmg hobj hints hlen hg) λr s' hq=>?_
 obtain⟨rfl,h2,h3,h4⟩:=hq
 exact⟨.inl ⟨.bool true,.bool true,[],rfl,λ_=>rfl,.bool true,DF l _,λ_=>⟨List.Pairwise.nil,λ_ hm=>(nomatch hm)⟩⟩,h2,h3,h4⟩
end Att
namespace L2
open PySem PySem.Spec PyProof.Rows
theorem pR:∀{vs:List Value} {ns:List Int},IntsAre vs ns->j8 (ns.map V.int) vs
 | _,_,.nil=>.nil
 | _,_,.cons n t h=>.cons ⟨t,rfl⟩<|pR h
def Ex(H:Hp):Prop:=∀ b,H b=none \/ ∃ o xs,H b=some (.frz o<|.lst xs)
def Jf{P:Program}{w:World}{K:a1C}{mg mb:Str->Option Value}{CX:CXT}{k:Nat}{fa a:Addr}{fd:FuncData}{x:Str}{sp:Sp}{s₁:Shared}{vs:List Value}{ns:List Int}
  (KX:K.In s₁.heap) (hns:s₁.heap.Ns mainGlobals mg) (hb:s₁.heap.Ns builtinsNs mb) (hbb:∀ x:Str,x ≠ "__name__" -> mb x=bootBuiltins x) (hlim:s₁.heap.NoLimit) (hg:s₁.gens = #[])
  (ha:s₁.heap.get? a=some { cls:=.type "list",data:=.seq vs.toArray }) (hi:IntsAre vs ns) (hl:ns.length<=sizeLine) (hr:C3 k callerA)
  (F:∀ base,K.In base->base.Ns mainGlobals mg->X7 P w K mg base CX k fa fd [x] sp) (hbind:∀ s (u:Value),BindsTo s fd ⟨[u],[]⟩ [(x,u)])
  (hsp:∀ H,Ex H->SqL K H a (ns.map V.int)->sp [.ref a] H (λv _=>v = .bl true) λ_ _ _=>False)
  (hCX:∀ H e s',CX [] H s₁ (λ_ _ _=>False) e s'->False) :
  codeAny (model P w) callerA (.call (.ref fa) ⟨[.ref a],[]⟩) (λr s'=>r = .ok (.ret<|.bool true)/\OldK s₁.heap s'.heap/\s'.os=s₁.os/\AllBare s'.gens) s₁:=by
 have rv:=pR hi
 have lenV:=hi.length
 have core:∀ H,Ex H->SqL K H a (ns.map V.int)->HOk P w H s₁.heap->(∀ b,H b≠none->b=a)->(H a≠none->K.lookup a=none) ->
   codeAny (model P w) callerA (.call (.ref fa) ⟨[.ref a],[]⟩) (λr s'=>r = .ok (.ret<|.bool true)/\OldK s₁.heap s'.heap/\s'.os=s₁.os/\AllBare s'.gens) s₁:=by
  intro H hO hS hok hA hK
  have base_of:∀{b:Addr} {o:Obj},s₁.heap.get? b=some o->H b=none->(sZ s₁.heap H).get? b=some o:=λe n=>Jv e n
  have noA:∀{b:Addr} {o:Obj} {es:Array DictEntry} {ep:Nat},s₁.heap.get? b=some o->o.data = .dict es ep->H b=none:=λ{b o es ep} e d=>by grind
  have nsK:∀{b:Addr} {m:Str->Option Value},s₁.heap.Ns b m->(sZ s₁.heap H).Ns b m:=λ{b m} ⟨o,es,ep,e,d,r⟩=>⟨o,es,ep,base_of e<|noA e d,d,r⟩
  have hKb:K.In (sZ s₁.heap H):=λb o e=>base_of (KX b o e)<|by grind
  have hM:Mod K mg (sZ s₁.heap H):=⟨hKb,nsK hns,⟨mb,nsK hb,hbb⟩,let ⟨mc,h1,h2⟩:=hlim;⟨mc,nsK h1,h2⟩⟩
  have e0:zQ P w K mg (sZ s₁.heap H) callerA [] s₁ H:=⟨rfl,hM,λb o e=>Om e,a4P<|DX _ _,trivial,λb hb=>absurd (show b∈([])from hb)<|by simp,hok,.of_eq hg⟩
  refine codeAny_mono ((F _ hKb<|nsK hns).run callerA [] s₁ H ⟨[.ref a],[]⟩ [.ref a] [.ref a] _ _ hr e0 (hbind s₁<|.ref a) (.cons rfl .nil)<|hsp H hO hS) λr s' h=>?_
  cases r with
  | error e=>exact(hCX H e s' h).elim
  | ok fl =>
   cases fl with
   | next=>exact False.elim h
   | brk=>exact False.elim h
   | cont=>exact False.elim h
   | ret u =>
    obtain⟨v,H',os,bare,un,hok',r',q⟩:=h
    have q':=q
    subst q'
    obtain rfl:u=Value.bool true:=r'
    refine⟨rfl,OldK.of_keep λb o e=>?_,os,bare⟩
    cases q:H b with
    | none=>exact un.keep b o e q (by intro z;exact absurd (show b∈([]:List Addr)from z)<|by simp)<|by simp
    | some u =>
     rcases hO b with z|⟨ob,xs,z⟩
     ·rw[q]at z;cases z
     ·have z2:=un.frzs b ob _ z
      obtain⟨e1,_⟩:=hok b _ z
      obtain⟨e2,_⟩:=hok' b _ z2
      rw[e]at e1;cases e1
      exact e2
 cases hk:K.lookup a with
 | some o =>
  have e:=KX a o hk
  rw[ha]at e
  cases e
  refine core (λ_=>none) (λ_=>.inl rfl) (.inr ⟨_,vs.toArray,_,hk,rfl,rfl,rfl,by rw[a18,lenV];exact hl,by simpa using rv⟩) (λb u z=>by have z':=z;cases z') (λb z=>absurd rfl z) λz=>absurd rfl z
 | none =>
  refine core (λb=>if b=a then some (.frz { cls:=.type "list",data:=.seq vs.toArray }<|.lst<|ns.map V.int)else none) (λb=>?_) (.inl<|.inr ⟨{ cls:=.type "list",data:=.seq vs.toArray },if_pos rfl⟩) (λb u z=>?_) (λb z=>?_) λ_=>hk
  ·by_cases hb:b=a
   ·exact .inr ⟨_,_,if_pos hb⟩
   ·exact .inl<|if_neg hb
  ·by_cases hb:b=a
   ·have z':=(if_pos hb).symm.trans z
    cases z'
    subst hb
    exact⟨ha,by rw[a1H];exact hl,vs,_,rv,ha⟩
   ·have z':=(if_neg hb).symm.trans z
    cases z'
  ·by_cases hb:b=a
   ·exact hb
   ·exact absurd (if_neg hb) z
def MJ{l:PySem.W.OpenLaw}{n k:Nat}{q:Program}{loose:List Str}{XP:(Str->Option Value)->Heap->Prop}{YP:World->Heap->Prop}{d:DefRec}{K:Params->a1C}{CX:World->CXT}{sp:World->Sp}{x:Str}
  (hn:l.most=some n) (hn2:n<=sizeLine) (hdf:d.params.defaults=[]) (hr:C3 k callerA)
  (hY:∀ w (h:Heap),YP w h->(K w.params).In h)
  (F:∀ w (mg:Str->Option Value) (fa:Addr) (h:Heap),(K w.params).In h->h.Ns mainGlobals mg->mg d.name=some (.ref fa) ->
   ∃ fd,(∀ s (u:Value),BindsTo s fd ⟨[u],[]⟩ [(x,u)]) /\
    ∀ base,(K w.params).In base->base.Ns mainGlobals mg->X7 l.prog w (K w.params) mg base (CX w) k fa fd [x] (sp w))
  (hsp:∀ w (H:Hp) (a:Addr) (ns:List Int),ns.length<=n->Ex H->SqL (K w.params) H a (ns.map V.int)->sp w [.ref a] H (λv _=>v = .bl true) λ_ _ _=>False)
  (hCX:∀ w (H:Hp) (s:Shared) (e:Value) (s':Shared),CX w [] H s (λ_ _ _=>False) e s'->False) :
  PySem.W.WalkO q loose XP YP l.row.toRowW d [] (λf vs=>PySem.call f vs):=by
 refine Att.xF hn hdf λw s₀ s₁ mg mb fa o pm cd doc a vs ns G Y ho hd hcd hmg hobj hints hlen hg=>?_
 have KX:=hY w _ Y
 obtain⟨fd,hb,hF⟩:=F w mg fa _ KX G.T.g hmg
 exact Jf KX G.T.g G.T.b G.T.builtins G.T.nolimit hg hobj hints (a1N hlen hn2) hr hF hb (λH hO hS=>hsp w H a ns hlen hO hS) λH e s'=>hCX w H s₁ e s'
def Gf{l:PySem.W.OpenLaw}{n k:Nat}{q:Program}{loose:List Str}{XP:(Str->Option Value)->Heap->Prop}{YP:World->Heap->Prop}{d:DefRec}{K:Params->a1C}{CX:CXT}{sp:a1C->Sp}{x:Str}
  (hn:l.most=some n) (hn2:n<=sizeLine) (hdf:d.params.defaults=[]) (hr:C3 k callerA)
  (hY:∀ w (h:Heap),YP w h->(K w.params).In h)
  (F:∀ w (mg:Str->Option Value) (fa:Addr) (h:Heap),(K w.params).In h->h.Ns mainGlobals mg->mg d.name=some (.ref fa) ->
   ∃ fd,(∀ s (u:Value),BindsTo s fd ⟨[u],[]⟩ [(x,u)]) /\
    ∀ base,(K w.params).In base->base.Ns mainGlobals mg->X7 l.prog w (K w.params) mg base CX k fa fd [x] (sp<|K w.params))
  (hsp:∀ K (H:Hp) (a:Addr) (ns:List Int),ns.length<=n->Ex H->SqL K H a (ns.map V.int)->sp K [.ref a] H (λv _=>v = .bl true) λ_ _ _=>False)
  (hCX:∀ H (s:Shared) (e:Value) (s':Shared),CX [] H s (λ_ _ _=>False) e s'->False) :
  PySem.W.WalkO q loose XP YP l.row.toRowW d [] (λf vs=>PySem.call f vs) :=
 MJ hn hn2 hdf hr hY F (λw H a ns h1 h2 h3=>hsp (K w.params) H a ns h1 h2 h3) λ_ H s e s'=>hCX H s e s'
def Cm(s:Stmt)(j:Nat):Stmt:=match s with
 | .ClassDef _ _ _ body _ _ _ _ _ _ _=>body.getD j<|.Pass ⟨0,0,0,0⟩
 | _=>.Pass ⟨0,0,0,0⟩
def J4(s:Stmt):Arguments:=match s with
 | .FunctionDef _ a _ _ _ _ _ _ _ _=>a
 | _=>{ posonlyargs:=[],args:=[],vararg:=none,kwonlyargs:=[],kw_defaults:=[],kwarg:=none,defaults:=[] }
def B1(s:Stmt):List Stmt:=match s with
 | .FunctionDef _ _ b _ _ _ _ _ _ _=>b
 | _=>[]
def c9(s:Stmt):Scope:=match s with
 | .FunctionDef _ _ _ _ _ _ sc _ _ _=>sc
 | _=>{ kind:=.function,names:=[],isGenerator:=false,isCoroutine:=false }
abbrev CX0:CXT:=λ_ _ _ _ _ _=>False
abbrev E0:XK:=λ_ _ _=>False
def IC:aK CX0 X E0:=λ_ _ _ _ _ _ _ h=>h.elim
end L2
namespace RM
open Rat
def bl(n:Nat):Nat:=n.log2+1
def fi(n:Nat):n<2 ^ bl n:=Nat.lt_log2_self
def ny(h:n<2 ^ k)(hk:0<k):bl n<=k:=by
 unfold bl;rcases a3A n with h0|h0
 ·subst h0;rw[Nat.log2_zero];omega
 ·have:=(a4u<|a47.mp h0).mpr h;omega
def Lc(n:Nat):0<bl n:=Nat.succ_pos _
def fR(h:m<=n):bl m<=bl n:=ny (a1R h<|fi n)<|Lc n
theorem hZ(m n:Nat):bl (m*n)<=bl m+bl n:=by refine ny ?_ (Nat.add_pos_left (Lc m) _);rw[a2Y];exact a26 (fi m)<|fi n
def Vr(m n:Nat):bl (m+n)<=max (bl m) (bl n)+1:=by refine ny ?_ (Nat.succ_pos _);have h1:=fi m;have h2:=fi n;have e1:2 ^ bl m<=2 ^ max (bl m) (bl n):=a1X (by decide)<|a4R _ _;have e2:2 ^ bl n<=2 ^ max (bl m) (bl n):=a1X (by decide)<|a4E _ _;omega
def sz(q:Rat):Nat:=max (bl q.num.natAbs)<|bl q.den
theorem aa(q:Rat):bl q.num.natAbs<=sz q:=a4R _ _
theorem Q5(q:Rat):bl q.den<=sz q:=a4E _ _
def QQ(h1:bl q.num.natAbs<=n)(h2:bl q.den<=n):sz q<=n:=a4l.mpr ⟨h1,h2⟩
def Us(a b:Int):(divInt a b).num.natAbs<=a.natAbs:=by
 rw[num_divInt];rcases Int.lt_trichotomy b 0 with h|h|h
 ·rw[a4d h];refine a1N (a4i _ _) ?_;simp
 all_goals simp_all [a4K,Int.one_mul,a4i]
def Ve(a b:Int)(hb:b≠0):(divInt a b).den<=b.natAbs:=by rw[den_divInt,if_neg hb];exact a2Z _ _
theorem S4(a b:Int)(hb:b≠0):sz (divInt a b)<=max (bl a.natAbs) (bl b.natAbs) :=
 QQ (a1N (fR<|Us a b)<|a4R _ _) (a1N (fR<|Ve a b hb)<|a4E _ _)
theorem K8(q:Rat):(q.den:Int)≠0:=by have:=q.den_nz;omega
def Lh(q r:Rat):q+r=divInt (q.num*r.den+r.num*q.den) (q.den*r.den):=by
 conv=>lhs;rw[<- num_divInt_den q,<- num_divInt_den r]
 rw[divInt_add_divInt _ _ (K8 q)<|K8 r]
def IX(q r:Rat):q*r=divInt (q.num*r.num) (q.den*r.den):=by
 conv=>lhs;rw[<- num_divInt_den q,<- num_divInt_den r]
 rw[divInt_mul_divInt]
def Kj(q r:Rat):q / r=divInt (q.num*r.den) (q.den*r.num):=by
 rw[div_def];conv=>lhs;rw[<- num_divInt_den q,<- num_divInt_den r]
 rw[inv_divInt,divInt_mul_divInt]
def mM(a b:Int):(a+b).natAbs<=a.natAbs+b.natAbs:=a5k a b
theorem ae(q r:Rat):sz (q+r)<=sz q+sz r+1:=by
 rw[Lh];have hb:=a20 (K8 q)<|K8 r;refine a1N (S4 _ _ hb)<|a4l.mpr ⟨?_,?_⟩
 ·refine a1N (fR<|mM _ _)<|a1N (Vr _ _) ?_;grind[a2j,hZ,aa,Q5,a1G]
 grind[a2j,hZ,Q5,a1G]
theorem A0(q r:Rat):sz (q*r)<=sz q+sz r:=by rw[IX];grind[a20,K8,a1N,S4,a4l,a2j,hZ,aa,Q5,a1G]
theorem Q1(q:Rat):sz (-q)=sz q:=by simp[a48,a5A,a2u,sz]
theorem U9(q r:Rat):sz (q - r)<=sz q+sz r+1:=by rw[a5d];have:=ae q (-r);rw[Q1]at this;exact this
theorem Q3(q r:Rat)(hr:r≠0):sz (q / r)<=sz q+sz r:=by rw[Kj];grind[a4S,a20,K8,a1N,S4,a4l,a2j,hZ,aa,Q5,a1G]
theorem U8:sz 0=1:=by decide
theorem GB:sz 1=1:=by decide
def xo(a b:Nat)(h:b≠0):a2i a b=a2i b (a % b):=by rw[a4g,Nat.gcd_rec,a4g]
def W8{a g:Int}(h:g ∣ a):a.fdiv g=a / g:=by grind
def Ux(a b:Int)(hb:b≠0)(share:Int)(hs:share=if b<0 then -((a2i a.natAbs b.natAbs:Nat):Int)else((a2i a.natAbs b.natAbs:Nat):Int)) :
  a.fdiv share=(divInt a b).num/\b.fdiv share=((divInt a b).den:Int):=by
 have hg:a2i a.natAbs b.natAbs=Int.gcd b a:=by simp[a4g,Int.gcd]
 have da:=Int.gcd_dvd_right b a
 have db:=Int.gcd_dvd_left b a
 rw[hg]at hs
 rw[num_divInt,den_divInt,if_neg hb]
 by_cases h:b<0
 ·rw[if_pos h]at hs
  subst hs
  rw[W8<|Int.neg_dvd.mpr da,W8<|Int.neg_dvd.mpr db,a4d h]
  refine⟨?_,?_⟩
  ·rw[Int.ediv_neg,Int.neg_one_mul,a49 da]
  ·rw[Int.ediv_neg,<- a49 db]
   have e:-b=((b.natAbs:Nat)):=by omega
   rw[e]
   norm_cast
 ·rw[if_neg h]at hs
  subst hs
  have hp:0<b:=by omega
  rw[W8 da,W8 db,a4K hp,Int.one_mul]
  refine⟨rfl,?_⟩
  have e:b=((b.natAbs:Nat)):=by omega
  conv=>lhs;rw[e]
  norm_cast
def XM(q r:Rat):decide (q.num*(r.den:Int)<r.num*(q.den:Int))=decide (q<r):=by simp[decide_eq_true,a5l,decide_eq_false]
end RM
namespace L2
open PySem PySem.Spec PyProof.Rows
def Bc(ifs:List Expr)(env:Env):Sem Bool:=forIn ifs true λc r=>if r=true then do let ok <- isTrue c env (eval c env);pure (ForInStep.yield ok)else pure (ForInStep.yield r)
def tL(I:Nat->Shared->Prop)
  (turn:∀ n s,I n s->wpAny (model prog w) A (pyNext it) (λr s₁=>match r with
   | none=>R (.ok .next) s₁
   | some v=>wpAny (model prog w) A (letOwnedTupleGo target it v) (λ_ s₁'=>wpAny (model prog w) A (assign target env v) (λ_ s₂=>wpAny (model prog w) A (Bc ifs env) (λok s₂'=>if ok=true then wpAny (model prog w) A (eval elt env) (λx s₃ =>
     wpAny (model prog w) A (call (.builtin "list.append") [acc,x]) (λ_ s₄=>∃ m,m<n/\I m s₄) (notedBy (model prog w) A env λe s'=>R (.error e) s') s₃)
     (notedBy (model prog w) A env λe s'=>R (.error e) s') s₂' else ∃ m,m<n/\I m s₂') (notedBy (model prog w) A env λe s'=>R (.error e) s') s₂) (notedBy (model prog w) A env λe s'=>R (.error e) s') s₁') (notedBy (model prog w) A env λe s'=>R (.error e) s') s₁) (notedBy (model prog w) A env λe s'=>R (.error e) s') s)
  (n:Nat) (h:I n s) :
  codeAny (model prog w) A (.compLoop (.ListComp elt [⟨target,iter,ifs,0⟩] scope pos) 0 it acc env) R s:=by
 refine codeAny_loop rfl I (λn s hI=>?_) n h
 show wpAny _ _ ((compTurn (.ListComp elt [⟨target,iter,ifs,0⟩] scope pos) 0 it acc env).onRaise λx=>do noteFrame x env;theTreesLotGoes x) _ _ s
 refine wpAny_noted ?_
 rw[compTurn_list]
 refine a1D<|wpAny_standAt<|a1D<|wpAny_mono (turn n s hI) (λr s₁ h₁=>?_) λ_ _ h'=>h'
 cases r with
 | none=>exact a1Q h₁
 | some v =>
  refine a1D<|wpAny_mono h₁ (λ_ s₁' h₁'=>?_) λ_ _ h'=>h'
  refine a1D<|wpAny_mono h₁' (λ_ s₂ h₂=>a1D<|wpAny_mono h₂ (λok s₂' h₃=>?_) λ_ _ h'=>h') λ_ _ h'=>h'
  cases ok with
  | true =>
   refine a1D<|a1D<|wpAny_mono h₃ (λx s₃ h₄=>a1D<|wpAny_mono h₄ (λ_ s₄ h₅=>a1Q<|a1Q ⟨rfl,h₅⟩) λ_ _ h'=>h') λ_ _ h'=>h'
  | false=>exact a1D<|a1Q<|a1Q ⟨rfl,h₃⟩
def ig(X:Cx)(ifs:List Expr)(t:TT):Prop :=
 ∀(pins:List (Addr × Obj)) (s:Shared) (σ:St) (H:Hp) (Q:Bool->Hp->Prop),Inv X pins σ H s->t σ H Q->wpAny (model X.prog X.w) X.A (Bc ifs X.env) (TP X pins σ Q) X.xe s
def YS:TT:=λ_ H Q=>Q true H
def Iq:ig X [] YS:=λpins s σ H Q I q=>a1Q ⟨H,I,q⟩
def Io(h:PT X c t):ig X [c] t:=λpins s σ H Q I q=>wpAny_tests_one<|h pins s σ H Q I q
def aH(cells:List (Str × Addr)):List (Str × NameKind)->List (Str × Addr)->List (Str × Addr)
 | [],acc=>acc
 | (n,k) :: r,acc=>if k == .free then aH cells r ((n,(cells.lookup n).getD 0) :: acc)else aH cells r acc
theorem cN:∀ names (acc:List (Str × Addr)),(∀ n,(n,NameKind.free)∈names->∃ c,env.cells.lookup n=some c) ->
  (forIn names acc (λx cs=>if (x.2 == NameKind.free)=true then(do let a <- cellOf env x.1;pure (ForInStep.yield ((x.1,a) :: cs)))else pure (ForInStep.yield cs)):Sem (List<|Str × Addr))=pure (aH env.cells names acc)
 | [],acc,_=>rfl
 | (n,k) :: r,acc,h=>by
  rw[a3B];unfold aH;by_cases hk:(k == NameKind.free)=true
  ·have e:k = .free:=by cases k<;>first|rfl|(exact absurd hk<|by decide)
   subst e;obtain⟨c,hc⟩:=h n a1M;rw[if_pos hk,if_pos hk];have e1:cellOf env n=pure c:=by unfold cellOf;rw[hc]
   rw[e1,pure_bind,pure_bind,hc];exact cN r _ λm hm=>h m<|a1O _ hm
  ·rw[if_neg hk,if_neg hk,pure_bind];exact cN r _ λm hm=>h m<|a1O _ hm
def xA(h:∀ n,(n,NameKind.free)∈scope.names->∃ c,env.cells.lookup n=some c):closureFor scope env=pure (aH env.cells scope.names []):=by grind[cN,bind_pure,pure_bind,closureFor]
theorem X3:∀ names (acc:List (Str × Addr)),(∀ n,(n,NameKind.free)∈names->∃ c,cells.lookup n=some c)->(∀ y d,acc.lookup y=some d->cells.lookup y=some d)->(aH cells names acc).lookup x=some c->cells.lookup x=some c
 | [],acc,_,ha,h=>ha x c h
 | (n,k) :: r,acc,hn,ha,h=>by
  unfold aH at h;by_cases hk:(k == NameKind.free)=true
  ·rw[if_pos hk]at h
   have e:k = .free:=by cases k<;>first|rfl|(exact absurd hk<|by decide)
   subst e;obtain⟨d,hd⟩:=hn n a1M;refine X3 r _ (λm hm=>hn m<|a1O _ hm) (λy e hy=>?_) h;grind
  ·rw[if_neg hk]at h;exact X3 r _ (λm hm=>hn m<|a1O _ hm) ha h
theorem bC:∀ names acc,((x,NameKind.free)∈names \/ ∃ c,acc.lookup x=some c)->∃ c,(aH cells names acc).lookup x=some c
 | [],acc,h=>by
  rcases h with h|h
  ·cases h
  ·exact h
 | (n,k) :: r,acc,h=>by
  unfold aH;by_cases hk:(k == NameKind.free)=true
  ·rw[if_pos hk]
   refine bC r _ ?_;by_cases hx:x=n
   ·simp_all
   grind
  ·rw[if_neg hk];refine bC r _ ?_;grind
def iW(h:(relabel scope env).names.lookup x=some k)(hk:k = .cell\/k = .free)(hcell:∀ y∈scope.names,y.2 ≠ .cell):(x,NameKind.free)∈scope.names:=by
 have go:∀(l:List (Str × NameKind)),(∀ y∈l,y.2 ≠ .cell)->(l.map λ(n,k)=>if (k == NameKind.free && env.scope.kind == .function && env.kindOf n == some .cell)=true then(n,NameKind.cell)else(n,k)).lookup x=some k->(x,NameKind.free)∈l:=by
  intro l;induction l with
  | nil=>intro _ h;cases h
  | cons p r ih =>
   intro hl h;obtain⟨n,j⟩:=p;rw[a1Z,a5x]at h;by_cases hj:j = .free
   ·subst hj
    by_cases hx:x=n
    ·subst hx;exact a1M
    ·refine a1O _ (ih (λy hy=>hl y<|a1O _ hy) ?_)
     have e:∀ b,(x == (if b=true then(n,NameKind.cell)else(n,NameKind.free)).1)=false:=λb=>by cases b<;>simpa using hx
     dsimp only at h;rw[e]at h;exact h
   ·have e:(j == NameKind.free)=false:=by simpa using hj
    have hc:=hl (n,j) a1M;dsimp only at h;rw[e]at h;simp only[a43,a2T,if_false]at h;by_cases hx:x=n
    ·have:(x == n)=true:=by simpa using hx
     rw[this]at h;have h':j=k:=by simpa using h
     subst h';rcases hk with z|z
     ·exact absurd z hc
     ·exact absurd z hj
    ·have:(x == n)=false:=by simpa using hx
     rw[this]at h;exact a1O _<|ih (λy hy=>hl y<|a1O _ hy) h
 exact go scope.names hcell h
def cxF(X:Cx)(scope:Scope)(cl:List (Str × Addr))(N':List Str)(s3:Shared)(H3:Hp)(C:Addr)(fp:List Addr)(pins:List (Addr × Obj)):Cx :=
 { X with N:=N',s₀:=s3,H₀:=H3,env:=compEnvC scope cl C X.env,outer:=X.stack,ex:=fp,fn:=λ_=>false,pn:=X.pn++pins,xe:=λ_ _=>False }
def tR(n:Nat)(caps:List Nat)(σ:St):St:=a16 n none++caps.map λi=>(σ[i]?).getD none
def ya(n:Nat)(caps:List Nat)(wi:TI)(g:TG)(tc:TT)(te:TE):TE:=λσ H Q=>wi σ H λJ H1=>∀ D,H1 D=none->∃ W:Nat->Nat->Hp->Prop,(∃ m,W 0 m (upd H1 D<|.lst []))/\∀ i m H,W i m H ->
 (J.stop i H/\Q (.ref D) H)\/(J.go i H/\∀ x H',J.yld i H x H'->g x (tR n caps σ) H' λσ2 H2=>tc σ2 H2 λb H2'=>if b=true then te σ2 H2' λv H3=>∃ ys,H3 D=some (.lst ys)/\ys.length<sizeLine/\∃ m',m'<m/\W (i+1) m' (upd H3 D<|.lst<|ys++[v])else ∃ m',m'<m/\W (i+1) m' H2')
def Lz(s3:Shared)(H3:Hp)(fp:List Addr)(cl:List (Str × Addr))(x:Str)(v:V):Prop :=
 ∃(u:Value) (c:Addr) (o:Obj),l8 v u/\cl.lookup x=some c/\s3.heap.get? c=some o/\o.data = .cell (some u)/\H3 c=none/\c∉fp
def Inv.reset(I:Inv (cxF X scope cl (tgs++cps) s3 H3 C fp pins) pins' σ' H' s')
  (hsc:∀ x∈cps,(relabel scope X.env).names.lookup x=some .cell\/(relabel scope X.env).names.lookup x=some .free) (hl:caps.length=cps.length)
  (hc:∀(j:Nat) (x:Str) (v:V),cps[j]? = some x->(caps.map λi=>(σ0[i]?).getD none)[j]? = some (some v)->Lz s3 H3 fp cl x v) :
  Inv (cxF X scope cl (tgs++cps) s3 H3 C fp pins) pins' (tR tgs.length caps σ0) H' s':=by
 obtain⟨m,hn,_⟩:=I.loc
 refine⟨I.ok,I.os,I.bare,I.base,⟨m,hn,λi x v e1 e2 e3=>?_⟩,I.cell,I.free,I.freeC,I.pin,I.hok,by simp[tR,cxF,hl]⟩
 have e1:(tgs++cps)[i]? = some x:=e1
 unfold tR at e2
 rw[a3W]at e1 e2
 rw[a28]at e2
 by_cases hi:i<tgs.length
 ·rw[if_pos hi]at e2
  rw[a2I]at e2
  split at e2<;>cases e2
 ·rw[if_neg hi]at e1 e2
  obtain⟨u,c,o,r,h1,h2,h3,h4,h5⟩:=hc (i - tgs.length) x v e1 e2
  obtain⟨sl,k⟩:=I.base.any h2 h4 h5
  refine⟨u,r,.inr ⟨?_,c,h1,_,k,h3⟩⟩
  rcases hsc x (a1K e1)with z|z
  ·exact .inl z
  ·exact .inr z
def xx{pins:List (Addr × Obj)}{σ0:St}{σ:St}{H3:Hp}{s3:Shared}{fp:List Addr}{it D C:Addr}{tn:Nat->Heap->Prop}{J:It}{h₁:Heap}{tk:Nat}{m:Str->Option Value}{R:Result->Shared->Prop}{Qd:Hp->Prop}
  (hc:X.calm=true) (hcell:∀ x∈scope.names,x.2 ≠ .cell) (hkind:scope.kind = .function)
  (hcl:∀ x c,cl.lookup x=some c->X.env.cells.lookup x=some c) (hhas:∀ x,(x,NameKind.free)∈scope.names->∃ c,cl.lookup x=some c)
  (hsc:∀ x∈cps,(relabel scope X.env).names.lookup x=some .cell\/(relabel scope X.env).names.lookup x=some .free) (hl:caps.length=cps.length)
  (hcap:∀(j:Nat) (x:Str) (v:V),cps[j]? = some x->(caps.map λi=>(σ0[i]?).getD none)[j]? = some (some v)->Lz s3 H3 fp cl x v)
  (hg:∀ cl s3 H3 C fp pins,PG (cxF X scope cl (tgs++cps) s3 H3 C fp pins) tg g) (hq:∀ cl s3 H3 C fp pins,ig (cxF X scope cl (tgs++cps) s3 H3 C fp pins) ifs tc) (he:∀ cl s3 H3 C fp pins,PE (cxF X scope cl (tgs++cps) s3 H3 C fp pins) elt te)
  (I3:Inv X pins σ H3 s3) (T:tX X.prog X.w X.K tg J fp it tn) (st3:tn 0 s3.heap) (f3:∀ b∈fp,bH X pins H3 b) (hC:C=s3.heap.objs.size) (hn:h₁.Ns C m) (hk:∀ b o,s3.heap.get? b=some o->h₁.get? b=some o)
  (W:Nat->Nat->Hp->Prop) (m0:Nat) (w0:W 0 m0 H3)
  (turn:∀ i m H,W i m H->(J.stop i H/\Qd H)\/(J.go i H/\∀ x H',J.yld i H x H'->g x (tR tgs.length caps σ0) H' λσ2 H2=>tc σ2 H2 λb H2'=>if b=true then te σ2 H2' λv H3=>∃ ys,H3 D=some (.lst ys)/\ys.length<sizeLine/\∃ m',m'<m/\W (i+1) m' (upd H3 D<|.lst<|ys++[v])else ∃ m',m'<m/\W (i+1) m' H2'))
  (hR:∀ s' H' σ',Inv (cxF X scope cl (tgs++cps) s3 H3 C fp pins) [] σ' H' s'->Qd H'->R (.ok .next) s') :
  codeAny (model X.prog X.w) X.A (.compStart (.ListComp elt [⟨tg,iter,ifs,0⟩] scope pos) 0 (.ref it) (.ref D) (compEnvC scope cl C X.env)) R { s3 with heap:=h₁,toks:=tk }:=by
 have lt3:∀ b∈fp,b<s3.heap.objs.size:=λb hb=>by obtain⟨o,e,_⟩:=T.obj 0 _ st3 b hb;exact a1L e
 have ok':(cxF X scope cl (tgs++cps) s3 H3 C fp pins).Ok:={
  mod:=I3.ok.mod
  kind:=hkind
  glob:=I3.ok.glob
  blt:=I3.ok.blt
  above:=a4P hC.symm
  inj:=λx y c e e'=>I3.ok.inj x y c (hcl x c e)<|hcl y c e'
  has:=λx h=>by
   rcases h with h|h
   ·exact hhas x<|iW h (.inl rfl) hcell
   ·exact hhas x<|iW h (.inr rfl) hcell
  cab:=λx c h=>by cases h
  hd:=λ_=>I3.ok.hd hc
  frames:=I3.ok.frames
  stk:=.inl rfl
  exf:=λb hb=>⟨λz=>by have z':=z;have h1:=lt3 b hb;rw[z',hC]at h1;exact a2y _ h1,λx c e=>(f3 b hb).2.2.2.2.1 x c<|hcl x c e⟩
  bs:=λb o e=>I3.bs b o e
  bsz:=a1N I3.ok.bsz I3.sz
  noex:=λb o e hb=>by
   obtain⟨_,_,_,q,_⟩:=f3 b hb;rcases q with q|q
   ·exact I3.ok.noex b o e q
   ·have h1:=a1L e;exact absurd (a1F (a1F h1 I3.ok.bsz) q)<|a2y _
  exfs:=λb hb z=>by
   obtain⟨_,q1,q2,_⟩:=f3 b hb;rcases a1Y.mp (I3.stkSub b z)with y|y
   ·exact q1 y
   ·exact q2 y
  funs:=I3.stack
  frf:=I3.stkFree }
 have J0:Inv (cxF X scope cl (tgs++cps) s3 H3 C fp pins) [] (a16 (tgs++cps).length none) H3 { s3 with heap:=h₁,toks:=tk }:={
  ok:=ok'
  os:=rfl
  bare:=I3.bare
  base:=Un.kept hk
  loc:=⟨m,hn,λi x v _ e _=>by rw[a2I]at e;split at e<;>cases e⟩
  cell:=λx c e=>by obtain⟨v,o,ho,hd⟩:=I3.cell x c<|hcl x c e;exact⟨v,o,hk c o ho,hd⟩
  free:=I3.hok.fresh<|a4P hC.symm
  freeC:=λx c e=>I3.freeC x c<|hcl x c e
  pin:=λp hp=>by
   have hp':p∈X.pn++pins:=by simpa[cxF]using hp
   obtain⟨a1,a2,a3,a4,a5⟩:=I3.pin p hp';refine⟨hk _ _ a1,a2,λz=>?_,λz=>?_,a5⟩
   ·have z':=z;have h1:=a1L a1;rw[z',hC]at h1;exact a2y _ h1
   ·rcases a1Y.mp (I3.stkSub _ z)with y|y
    ·exact a3 y
    ·exact a4 y
  hok:=I3.hok.kept hk
  len:=by simp[cxF] }
 have stat:∀{H':Hp},(∀ b∈fp,H' b=none)->∀ b∈fp,bH (cxF X scope cl (tgs++cps) s3 H3 C fp pins) [] H' b:=λhn b hb=>by obtain⟨_,_,_,_,_,q⟩:=f3 b hb;exact⟨hn b hb,(ok'.exf b hb).1,ok'.exfs b hb,.inl hb,(ok'.exf b hb).2,λp hp=>q p<|by simpa[cxF]using hp⟩
 have loop:codeAny (model X.prog X.w) X.A (.compLoop (.ListComp elt [⟨tg,iter,ifs,0⟩] scope pos) 0 (.ref it) (.ref D) (compEnvC scope cl C X.env)) R { s3 with heap:=h₁,toks:=tk }:=by
  refine tL (λn s'=>∃ i σ' H',Inv (cxF X scope cl (tgs++cps) s3 H3 C fp pins) [] σ' H' s'/\tn i s'.heap/\(∀ b∈fp,H' b=none)/\W i n H') ?_ m0
   ⟨0,_,H3,J0,T.keep _ _ _ st3 λb hb o e=>hk b o e,λb hb=>(f3 b hb).1,w0⟩
  rintro n s4 ⟨i,σ4,H4,I4,st4,fr4,w4⟩;rcases turn i n H4 w4 with⟨stop,qn⟩|⟨go,step⟩
  ·refine thn (T.done (cxF X scope cl (tgs++cps) s3 H3 C fp pins) rfl rfl rfl hc i [] s4 σ4 H4 _ I4 (stat fr4) st4 stop) λr s5 zz=>?_;obtain⟨hr,I5⟩:=zz;subst hr;exact hR s5 H4 σ4 I5 qn
  ·refine thn (T.item (cxF X scope cl (tgs++cps) s3 H3 C fp pins) rfl rfl rfl hc i [] s4 σ4 H4 _ I4 (stat fr4) st4 go) λr s5 zz=>?_
   obtain⟨u,hr,h5⟩:=zz;subst hr;refine thn h5 λ_ s6 zz=>?_;obtain⟨x,H6,I6,r6,y6,st6,fr6⟩:=zz;have I6w:=I6.reset hsc hl hcap;have I6':=I6w.pinned (stat fr6)<|T.obj _ _ st6;refine wpAny_mono (hg cl s3 H3 C fp pins _ s6 _ H6 x u _ I6' r6<|step x H6 y6) ?_ λ_ _ z=>z.elim;rintro _ s7 ⟨σ7,H7,I7,q7⟩;refine wpAny_mono (hq cl s3 H3 C fp pins _ s7 σ7 H7 _ I7 q7) ?_ λ_ _ z=>z.elim;rintro b s7' ⟨H7',I7',q7'⟩;cases b with
   | false =>obtain⟨m',hm,w8⟩:=q7';refine⟨m',hm,i+1,σ7,H7',I7'.unpinned,T.keep _ _ _ st6 λb hb o e=>(I7'.pin (b,o)<|a2b _<|a2b _<|G7 hb e).1,λb hb=>?_,w8⟩;obtain⟨o,e,d⟩:=T.obj _ _ st6 b hb;exact(I7'.pin (b,o)<|a2b _<|a2b _<|G7 hb e).2.1
   | true =>refine wpAny_mono (he cl s3 H3 C fp pins _ s7' σ7 H7' _ I7' q7') ?_ λ_ _ z=>z.elim;rintro v s8 ⟨y,H8,I8,r8,q8⟩;obtain⟨ys,hy,hz,m',hm,w8⟩:=q8;refine wpAny_mono (qi (X:=cxF X scope cl (tgs++cps) s3 H3 C fp pins) _ s8 σ7 H8 (.ref D) [y] (.ref D) [v] (λ_ H9=>W (i+1) m' H9) I8 rfl (.cons r8 .nil) ⟨D,ys,y,rfl,rfl,hy,hz,w8⟩) ?_ λ_ _ z=>z.elim;rintro _ s9 ⟨_,H9,I9,_,w9⟩;refine⟨m',hm,i+1,σ7,H9,I9.unpinned,T.keep _ _ _ st6 λb hb o e=>(I9.pin (b,o)<|a2b _<|a2b _<|G7 hb e).1,λb hb=>?_,w9⟩;obtain⟨o,e,d⟩:=T.obj _ _ st6 b hb;exact(I9.pin (b,o)<|a2b _<|a2b _<|G7 hb e).2.1
 exact codeAny_compStart_list loop<|T.self _ 0 _ _ _ (T.keep _ _ _ st3 λb hb o e=>hk b o e) loop
def qw(hc:X.calm=true)(hcell:∀ x∈scope.names,x.2 ≠ .cell)(hkind:scope.kind = .function)(hnames:∀ x∈scope.names,x.2 = .local->scope.names.lookup x.1=some .local)
  (hfr:∀ x∈scope.names,x.2 = .free->x.1∈cps) (hN:caps.map (λi=>X.N[i]?)=cps.map some) (hX:∀ x∈cps,X.env.scope.names.lookup x=some .cell/\scope.names.lookup x=some .free)
  (hsc:∀ x∈cps,(relabel scope X.env).names.lookup x=some .cell\/(relabel scope X.env).names.lookup x=some .free)
  (hi:PI X tg iter wi) (hg:∀ cl s3 H3 C fp pins,PG (cxF X scope cl (tgs++cps) s3 H3 C fp pins) tg g) (hq:∀ cl s3 H3 C fp pins,ig (cxF X scope cl (tgs++cps) s3 H3 C fp pins) ifs tc) (he:∀ cl s3 H3 C fp pins,PE (cxF X scope cl (tgs++cps) s3 H3 C fp pins) elt te)
  (hs:∀ x,foldedSetIterable iter X.env x=pure x) (I:Inv X pins σ H s) (h:ya tgs.length caps wi g tc te σ H Q)
  (hU:∀(D C:Addr) (s':Shared) (H4:Hp) (m4:Str->Option Value),s'.heap.Ns C m4->bH X pins H4 C->(∀ h',Heap.SameBut C s'.heap h'->Inv X pins σ H4 { s' with heap:=h' })->Q (.ref D) H4->compPost (model X.prog X.w) X.A X.xe use Qf (.ref D) C (.ok .next) s') :
  wpAny (model X.prog X.w) X.A (comprehension (.ListComp elt [⟨tg,iter,ifs,0⟩] scope pos) scope X.env (firstIterPos [⟨tg,iter,ifs,0⟩] pos) (newList []) false (eval iter X.env) use) Qf X.xe s:=by
 have hl:caps.length=cps.length:=by have:=congrArg a3J hN;simpa using this
 have hcells:∀ n,(n,NameKind.free)∈scope.names->∃ c,X.env.cells.lookup n=some c:=λn hn=>I.ok.has n<|.inl (hX n<|hfr _ hn rfl).1
 refine wpAny_comprehension_free (use:=use) rfl hs (xA hcells) hkind hnames<|thn (hi pins s σ H _ I h) λv s1 h1=>thn h1 λitv s2 h2=>?_
 obtain⟨it,fp,tn,J,H',e,I2,T,st2,f2,hW⟩:=h2
 subst e
 refine wpAny_newObj_type (hd:=by size_fits)<|wpAny_newFunctionEnv hcell (by intro y hy;simp at hy) (λh₁ hns₁ hsb₁=>?_) hkind
 dsimp only at hns₁ hsb₁ ⊢
 have I3:=I2.lnew (ys:=[]) (its:=[]) (t':=s2.toks) .nil<|a2e _
 obtain⟨W,⟨m0,w0⟩,turn⟩:=hW _ I2.fresh
 have st3:tn 0 (s2.heap.push { cls:=.type "list",data:=.seq ([]:List Value).toArray }):=T.keep _ _ _ st2 λb hb o e=>a1E _ e
 have f3:∀ b∈fp,bH X pins (upd H' s2.heap.objs.size<|.lst []) b:=λb hb=>by obtain⟨q0,q⟩:=f2 b hb;obtain⟨o,e,_⟩:=T.obj 0 _ st2 b hb;exact⟨by rw[g8<|a14<|a1L e];exact q0,q⟩
 have old:∀ b o,(s2.heap.push { cls:=.type "list",data:=.seq ([]:List Value).toArray }).get? b=some o->h₁.get? b=some o:=λb o e =>
  hsb₁.extBut b o (a14<|a1L e) (a1E _ e)
 have hcap:∀(j:Nat) (x:Str) (v:V),cps[j]? = some x->(caps.map λi=>(σ[i]?).getD none)[j]? = some (some v) ->
   Lz { s2 with heap:=s2.heap.push { cls:=.type "list",data:=.seq ([]:List Value).toArray },toks:=s2.toks } (upd H' s2.heap.objs.size<|.lst []) fp (aH X.env.cells scope.names []) x v:=λj x v ex ev=>by
  have hx:=hX x<|a1K ex
  have hj:(caps.map λi=>X.N[i]?)[j]? = some (some x):=by rw[hN,a1S,ex];rfl
  rw[a1S]at ev hj
  cases hcj:caps[j]? with
  | none=>rw[hcj]at ev;cases ev
  | some i =>
   rw[hcj]at ev hj
   have ev':(σ[i]?).getD none=some v:=by simpa using ev
   have hj':X.N[i]? = some x:=by simpa using hj
   have es:σ[i]? = some (some v):=by
    cases q:σ[i]? with
    | none=>rw[q]at ev';cases ev'
    | some w=>rw[q]at ev';rw[show w=some v by simpa using ev']
   obtain⟨m,hn,hlook⟩:=I3.loc
   obtain⟨u,ru,lk⟩:=hlook i x v hj' es<|.inr<|.inl hx.1
   rcases lk with⟨k1,_⟩|⟨_,c,hc1,o,ho,hd⟩
   ·have k1':X.env.scope.names.lookup x=some .local:=k1
    rw[hx.1]at k1';cases k1'
   ·have hmem:(x,NameKind.free)∈scope.names:=by
     have hlk:=hx.2
     have go:∀ l:List (Str × NameKind),l.lookup x=some .free->(x,NameKind.free)∈l:=by
      intro l;induction l with
      | nil=>intro z;cases z
      | cons p r ih =>
       intro z;obtain⟨n,k⟩:=p;rw[a5x]at z;split at z
       ·rename_i q;have q':x=n:=by simpa using q
        have z':k = .free:=by simpa using z
        rw[q',z'];exact a1M
       ·exact a1O _<|ih z
     exact go _ hlk
    obtain⟨c',hc'⟩:=bC (cells:=X.env.cells) scope.names []<|.inl hmem
    have:=X3 scope.names [] hcells (λy d z=>by cases z) hc'
    rw[hc1]at this
    cases this
    refine⟨u,c,o,ru,hc',ho,hd,I3.freeC x c hc1,λhb=>?_⟩
    exact(f3 c hb).2.2.2.2.1 x c hc1 rfl
 refine xx (s3:={ s2 with heap:=s2.heap.push { cls:=.type "list",data:=.seq ([]:List Value).toArray },toks:=s2.toks }) (Qd:=λH=>Q (.ref s2.heap.objs.size) H) (tk:=s2.toks+([]:List (Str × Value)).length) (cl:=aH X.env.cells scope.names [])
  hc hcell hkind (λx c z=>X3 scope.names [] hcells (λy d z=>by cases z) z) (λx z=>bC scope.names []<|.inl z) hsc hl hcap hg hq he I3 T st3 f3 rfl hns₁ old W m0 w0 turn λs' H4 σ4 I4 q4=>?_
 obtain⟨m4,hn4,_⟩:=I4.loc
 have hCfree:H4 _=none:=I4.free
 have nC:∀ b u,H4 b=some u->b≠(s2.heap.push { cls:=.type "list",data:=.seq ([]:List Value).toArray }).objs.size:=λb u e z=>by rw[z]at e;have:=e.symm.trans hCfree;cases this
 have lt:∀ b o,(s2.heap.push { cls:=.type "list",data:=.seq ([]:List Value).toArray }).get? b=some o->b≠(s2.heap.push { cls:=.type "list",data:=.seq ([]:List Value).toArray }).objs.size:=λb o e=>a14<|a1L e
 have ub:=I4.base
 have fC:bH X pins H4 (s2.heap.push { cls:=.type "list",data:=.seq ([]:List Value).toArray }).objs.size:=I3.fpOk (a1U _) hCfree
 refine hU _ _ s' H4 m4 hn4 fC (λh' hsb=>?_) q4
 have un:Un (frs X.stack) fp (upd H' s2.heap.objs.size<|.lst []) H4 (s2.heap.push { cls:=.type "list",data:=.seq ([]:List Value).toArray }) h':={
  keep:=λb o e n x y=>(hsb.2 b<|lt b o e).trans<|ub.keep b o e n x y
  slot:=λb o e n x y=>let ⟨q,z⟩:=ub.slot b o e n x y;⟨q,(hsb.2 b<|lt b o e).trans z⟩
  free:=ub.free
  there:=λb o e y=>let ⟨q,z⟩:=ub.there b o e y;⟨q,(hsb.2 b<|lt b o e).trans z⟩
  tups:=ub.tups
  frzs:=ub.frzs
  tbls:=ub.tbls }
 refine I3.call' (s':={ s' with heap:=h' }) I4.os un (λb u e=>?_) I4.bare λb hb=>?_
 ·refine(I4.hok b u e).stay (λc v hcv q=>(hsb.2 c ?_).trans q) (λ_ q=>q) λ_ _ q=>q
  rcases hcv with z|z
  ·rw[z];exact nC b u e
  ·exact nC c _ z
 ·obtain⟨q0,q1,q2,q3,q4,q5⟩:=f3 b hb
  exact⟨q3,q1,q4,q5⟩
def wg(hc:X.calm=true)(hcell:∀ x∈scope.names,x.2 ≠ .cell)(hkind:scope.kind = .function)(hnames:∀ x∈scope.names,x.2 = .local->scope.names.lookup x.1=some .local)
  (hfr:∀ x∈scope.names,x.2 = .free->x.1∈cps) (hN:caps.map (λi=>X.N[i]?)=cps.map some) (hX:∀ x∈cps,X.env.scope.names.lookup x=some .cell/\scope.names.lookup x=some .free)
  (hsc:∀ x∈cps,(relabel scope X.env).names.lookup x=some .cell\/(relabel scope X.env).names.lookup x=some .free)
  (hi:PI X tg iter wi) (hg:∀ cl s3 H3 C fp pins,PG (cxF X scope cl (tgs++cps) s3 H3 C fp pins) tg g) (hq:∀ cl s3 H3 C fp pins,ig (cxF X scope cl (tgs++cps) s3 H3 C fp pins) ifs tc) (he:∀ cl s3 H3 C fp pins,PE (cxF X scope cl (tgs++cps) s3 H3 C fp pins) elt te)
  (hs:∀ x,foldedSetIterable iter X.env x=pure x:=by intro _;rfl):PE X (.ListComp elt [⟨tg,iter,ifs,0⟩] scope pos) (ya tgs.length caps wi g tc te):=by
 intro pins s σ H Q I h
 rw[eval_ListComp]
 exact qw hc hcell hkind hnames hfr hN hX hsc hi hg hq he hs I h λD C s' H4 m4 hn4 fC hI q4=>⟨m4,hn4,λh' hsb=>⟨.ref D,H4,hI h' hsb,rfl,q4⟩⟩
def PU(X:Cx)(i:Nat)(x:Str)(pos':Pos)(e:Expr)(te:TE):Prop:=∀(pins:List (Addr × Obj)) (s:Shared) (σ:St) (H:Hp) (Q:VK),Inv X pins σ H s->te σ H Q ->
 wpAny (model X.prog X.w) X.A (evalThenUse e X.env<|assign (.Name x pos') X.env) (λ_ s'=>∃ v H',Inv X pins (σ.set i<|some v) H' s'/\Q v H') X.xe s
def ND(h:PU X i x pos' e te)(hs:swapsWith e (some<|.Name x pos') pos.line X.env=pure true):PS X (.Assign [.Name x pos'] e pos) (SR te<|JJ i):=by intro pins s σ H D I q;rw[exec_Assign_Name_used _ _ _ _ hs];refine a1D<|wpAny_standAt<|a1D<|thn (h pins s σ H _ I q) λ_ s1 ⟨v,H1,I1,q1⟩=>a1Q ?_;exact⟨_,H1,I1,q1⟩
def Ii(hc:X.calm=true)(hcell:∀ x∈scope.names,x.2 ≠ .cell)(hkind:scope.kind = .function)(hnames:∀ x∈scope.names,x.2 = .local->scope.names.lookup x.1=some .local)
  (hfr:∀ x∈scope.names,x.2 = .free->x.1∈cps) (hN:caps.map (λi=>X.N[i]?)=cps.map some) (hX:∀ x∈cps,X.env.scope.names.lookup x=some .cell/\scope.names.lookup x=some .free)
  (hsc:∀ x∈cps,(relabel scope X.env).names.lookup x=some .cell\/(relabel scope X.env).names.lookup x=some .free)
  (hi:PI X tg iter wi) (hg:∀ cl s3 H3 C fp pins,PG (cxF X scope cl (tgs++cps) s3 H3 C fp pins) tg g) (hq:∀ cl s3 H3 C fp pins,ig (cxF X scope cl (tgs++cps) s3 H3 C fp pins) ifs tc) (he:∀ cl s3 H3 C fp pins,PE (cxF X scope cl (tgs++cps) s3 H3 C fp pins) elt te)
 (hNd:X.N.Nodup) (hxi:X.N[i]? = some x) (hx:Loc X.env.scope x) (hf:X.fn x=true\/X.env.scope.names.lookup x=some .local)
  (hs:∀ x,foldedSetIterable iter X.env x=pure x:=by intro _;rfl):PU X i x pos' (.ListComp elt [⟨tg,iter,ifs,0⟩] scope pos) (ya tgs.length caps wi g tc te):=by
 intro pins s σ H Q I h
 refine a1D<|thn (qw hc hcell hkind hnames hfr hN hX hsc hi hg hq he hs I h λD C s' H4 m4 hn4 fC hI q4=>?_) λ_ s1 z=>a1Q z
 have I4:=hI s'.heap<|Heap.SameBut.refl _ _
 show wpAny _ _ (assign (.Name x pos') X.env<|.ref D) _ _ s'
 refine wpAny_assign_Name<|pU (v:=.ref D) I4 hNd hxi hx rfl ?_ hf
 rintro s2 I2 ⟨a,hsb,ha⟩
 have hac:C≠a:=by
  rcases ha with ha|ha
  ·rw[ha];exact fC.2.1
  ·exact Ne.symm<|fC.2.2.2.2.1 x a ha
 refine⟨m4,hn4.sameBut hsb hac,λh' hs'=>⟨.ref D,H4,?_,q4⟩⟩
 exact I2.turned (t':=s2.toks) (λb o hb e=>hs'.extBut b o hb e) fC.1 fC.2.1 fC.2.2.2.1 fC.2.2.2.2.1 fC.2.2.2.2.2
end L2
open PySem
namespace L2
def SI:Bool->Heap->Addr->Addr->Nat->Prop
 | true,h,it,a,i=>h.IsListIter it a i
 | false,h,it,a,i=>h.IsTupleIter it a i
def SS:Bool->Heap->Addr->Array Value->Prop
 | true,h,a,xs=>h.IsList a xs
 | false,h,a,xs=>h.IsTuple a xs
def SI.at(x:SI k h it a i)(f:∀ o,h.get? it=some o->h'.get? it=some o):SI k h' it a i:=by cases k<;>(obtain⟨o,e,r⟩:=x;exact⟨o,f o e,r⟩)
def SS.at(x:SS k h a xs)(f:∀ o,h.get? a=some o->h'.get? a=some o):SS k h' a xs:=by cases k<;>(obtain⟨o,e,r⟩:=x;exact⟨o,f o e,r⟩)
def SI.obj(x:SI k h it a i):∃ o,h.get? it=some o/\∀ v,o.data ≠ .cell v:=by cases k<;>(obtain⟨o,e,c,d⟩:=x;exact⟨o,e,λv z=>by rw[d]at z;cases z⟩)
def SS.obj(x:SS k h a xs):∃ o,h.get? a=some o:=by cases k<;>(obtain⟨o,e,_⟩:=x;exact⟨o,e⟩)
def Ds(hp:s.heap.IsTupleIter p t n)(ht:s.heap.IsTuple t xs)(hv:xs[n]? = some v)
  (q:∀ h',h'.IsTupleIter p t (n+1)->Heap.SameBut p s.heap h'->Q v { s with heap:=h' }):wpAny (model prog w) A (Builtin.SmallTypes.nextOf<|.ref p) Q E s:=by
 obtain⟨ob,e1,e2,e3⟩:=id hp
 obtain⟨ot,f1,_,cap,f2⟩:=ht
 unfold Builtin.SmallTypes.nextOf
 refine a1D<|wpAny_callSpecial?_slot hp.typeIs F.slot_tuple_iterator_next<|wpAny_call_entry F.slot_tuple_iterator_next hp.typeIs F.entry_tuple_iterator_next ?_ (F.args_tuple_iterator_next_1 _)
 show wpAny _ _ (field (.ref p) 0 >>= _) _ _ s
 refine a1D<|wpAny_field e1 e3 rfl ?_
 show wpAny _ _ (if (Value.ref t == Value.none)=true then _ else _) _ _ s
 rw[if_neg (λz:(Value.ref t == Value.none)=true=>nomatch z)]
 show wpAny _ _ (field (.ref p) 1 >>= _) _ _ s
 refine a1D<|wpAny_field e1 e3 rfl ?_
 show wpAny _ _ (seqItems? (.ref t) >>= _) _ _ s
 refine a1D<|wpAny_seqItems f1 f2 ?_
 simp only[a2z,hv]
 refine a1D<|wpAny_setField e1 e3 (by simp)<|a1Q ⟨v,rfl,a1Q<|q _ ⟨_,a2s _ e1<|Obj.isFreed_of_fields<|Obj.data_mapFields e3 _,(Obj.cls_mapFields ..).trans e2,?_⟩<|Heap.SameBut.update ..⟩
 rw[Obj.data_mapFields e3];simp[rawInt]
def Gp(hA:A.handled=none)(hp:s.heap.IsTupleIter p t n)(ht:s.heap.IsTuple t xs)(hv:xs[n]? = none)
  (q:∀ h' e,Heap.ExtBut p s.heap h'->(∃ o,h'.get? e=some o/\o.cls = .type "StopIteration")->E (.ref e) { s with heap:=h' }):wpAny (model prog w) A (Builtin.SmallTypes.nextOf<|.ref p) Q E s:=by
 obtain⟨ob,e1,e2,e3⟩:=id hp
 obtain⟨ot,f1,_,cap,f2⟩:=ht
 unfold Builtin.SmallTypes.nextOf
 refine a1D<|wpAny_callSpecial?_slot hp.typeIs F.slot_tuple_iterator_next<|wpAny_call_entry F.slot_tuple_iterator_next hp.typeIs F.entry_tuple_iterator_next ?_ (F.args_tuple_iterator_next_1 _)
 show wpAny _ _ (field (.ref p) 0 >>= _) _ _ s
 refine a1D<|wpAny_field e1 e3 rfl ?_
 show wpAny _ _ (if (Value.ref t == Value.none)=true then _ else _) _ _ s
 rw[if_neg (λz:(Value.ref t == Value.none)=true=>nomatch z)]
 show wpAny _ _ (field (.ref p) 1 >>= _) _ _ s
 refine a1D<|wpAny_field e1 e3 rfl ?_
 show wpAny _ _ (seqItems? (.ref t) >>= _) _ _ s
 refine a1D<|wpAny_seqItems f1 f2 ?_
 simp only[a2z,hv]
 refine a1D<|wpAny_rule<|a1D<|wpAny_setField e1 e3 (by simp) ?_
 show wpAny _ _ (newExc (.type "StopIteration") [] >>= _) _ _ _
 refine a1D ?_;simp only[newExc,newTuple]
 refine a1D (wpAny_newObj_type ?_ (by size_fits));refine a1D<|wpAny_of_eq (by rfl) ?_
 refine wpAny_newObj_type ?_ (by size_fits);simp only[raiseNew];refine a1D<|wpAny_handled ?_
 first|rw[hA]|rw[hA]
 refine a1D<|a1Q<|wpAny_throw<|q _ _ (((Heap.SameBut.update ..).extBut.push _).push _) ⟨_,a1P _ rfl,rfl⟩
def V0(hp:SI k s.heap p a n)(ha:SS k s.heap a xs)(hv:xs[n]? = some v)
  (q:∀ h',SI k h' p a (n+1)->Heap.SameBut p s.heap h'->Q v { s with heap:=h' }):wpAny (model prog w) A (Builtin.SmallTypes.nextOf<|.ref p) Q E s:=by
 cases k with
 | true=>exact wpAny_nextOf_list_item hp ha hv q
 | false=>exact Ds hp ha hv q
def lB(hA:A.handled=none)(hp:SI k s.heap p a n)(ha:SS k s.heap a xs)(hv:xs[n]? = none)
  (q:∀ h' e,Heap.ExtBut p s.heap h'->(∃ o,h'.get? e=some o/\o.cls = .type "StopIteration")->E (.ref e) { s with heap:=h' }):wpAny (model prog w) A (Builtin.SmallTypes.nextOf<|.ref p) Q E s:=by
 cases k with
 | true=>exact wpAny_nextOf_list_end hA hp ha hv q
 | false=>exact Gp hA hp ha hv q
def SI.but(x:SI k h it a i)(e:Heap.ExtBut b h h')(n:it≠b):SI k h' it a i:=x.at λo z=>e it o n z
def SS.but(x:SS k h a xs)(e:Heap.ExtBut b h h')(n:a≠b):SS k h' a xs:=x.at λo z=>e a o n z
def zU{z TI TO p1 p2 l1 l2:Addr}{c1 c2:Bool}{n1 n2:Nat}{xs ys:Array Value}{v1 v2 u1 u2:Value}{Q:Option Value->Shared->Prop}(D:ZipApart z TI TO p1 p2 l1 l2)
  (iz:IsZip s.heap z TI TO .none) (iI:IsPair s.heap TI (.ref p1) (.ref p2)) (iO:IsPair s.heap TO u1 u2) (g1:SI c1 s.heap p1 l1 n1) (g2:SI c2 s.heap p2 l2 n2) (m1:SS c1 s.heap l1 xs) (m2:SS c2 s.heap l2 ys) (w1:xs[n1]? = some v1) (w2:ys[n2]? = some v2)
  (q:∀ h',IsZip h' z TI TO (rawInt s.heap.objs.size)->IsPair h' TO v1 v2->SI c1 h' p1 l1 (n1+1)->SI c2 h' p2 l2 (n2+1)->IsPair h' s.heap.objs.size v1 v2->h'.objs.size=s.heap.objs.size+1 ->
   (∀ b o,b≠z->b≠TO->b≠p1->b≠p2->s.heap.get? b=some o->h'.get? b=some o)->Q (some<|.ref s.heap.objs.size) { s with heap:=h' }):wpAny (model prog w) A (pyNext<|.ref z) Q E s:=by
 have ty:s.TypeIs (.ref z) "zip" := ⟨_,iz,rfl⟩
 unfold pyNext
 refine a1D<|wpAny_attempt<|wpAny_callSpecial?_slot ty F.slot_zip_next<|wpAny_call_entry F.slot_zip_next ty F.entry_zip_next ?_ (F.args_zip_next_1 _)
 show wpAny _ _ (field (.ref z) 2 >>= _) _ _ _
 refine a1D<|wpAny_field iz rfl rfl ?_
 show wpAny _ _ (field (.ref z) 3 >>= _) _ _ _
 refine a1D<|wpAny_field iz rfl rfl<|a1D<|wpAny_seqItems iI rfl ?_
 show wpAny _ _ (Builtin.SmallTypes.ownedTupleIsFree (.ref z) >>= _) _ _ _
 refine a1D ?_;unfold Builtin.SmallTypes.ownedTupleIsFree
 refine a1D<|wpAny_field iz rfl rfl<|a1Q ?_;simp only[if_true]
 refine a1D<|wpAny_rule<|a1D<|wpAny_field iz rfl rfl<|a1D<|wpAny_setField_rec iz (by simp) λha za sa=>?_
 replace za:IsZip ha z TI TO .ellipsis:=za
 refine a1D ?_;simp only[a3v,List.zipIdx_nil,a3B,a4j]
 refine a1D<|a1D<|wpAny_onRaise ?_
 show wpAny _ _ (Builtin.SmallTypes.nextOf (.ref p1) >>= _) _ _ _
 refine a1D<|V0 (g1.but sa.extBut D.i1z) (m1.but sa.extBut D.l1z) w1 λhb gb sb=>a1Q ?_
 have oB:=sb.extBut _ _ D.TOi1<|sa.extBut _ _ D.TOz iO
 refine a1D<|wpAny_seqItems oB rfl<|a1D<|wpAny_updateSeq_pair oB λhc oC sc=>?_
 replace oC:IsPair hc TO v1 u2:=oC
 refine a1D<|wpAny_letGo<|a1Q<|a1D<|a1D<|wpAny_onRaise ?_
 show wpAny _ _ (Builtin.SmallTypes.nextOf (.ref p2) >>= _) _ _ _
 refine a1D<|V0 (((g2.but sa.extBut D.i2z).but sb.extBut D.i12.symm).but sc.extBut D.TOi2.symm) (((m2.but sa.extBut D.l2z).but sb.extBut D.l2i1).but sc.extBut D.l2TO) w2 λhd gd sd=>a1Q ?_
 have oD:=sd.extBut _ _ D.TOi2 oC
 refine a1D<|wpAny_seqItems oD rfl<|a1D<|wpAny_updateSeq_pair oD λhe oE se=>?_
 replace oE:IsPair he TO v1 v2:=oE
 refine a1D<|wpAny_letGo<|a1Q<|a1Q<|a1D<|wpAny_seqItems oE rfl<|a1D<|wpAny_newTuple ?_
 have zs:he.objs.size=s.heap.objs.size:=by rw[se.1,sd.1,sc.1,sb.1,sa.1]
 have zE:=se.extBut _ _ D.TOz.symm<|sd.extBut _ _ D.i2z.symm<|sc.extBut _ _ D.TOz.symm<|sb.extBut _ _ D.i1z.symm za
 have kE:∀ b o,b≠z->b≠TO->b≠p1->b≠p2->s.heap.get? b=some o->he.get? b=some o:=λb o b1 b2 b3 b4 e=>se.extBut _ _ b2<|sd.extBut _ _ b4<|sc.extBut _ _ b2<|sb.extBut _ _ b3<|sa.extBut _ _ b1 e
 have gE1:=((gb.but sc.extBut D.TOi1.symm).but sd.extBut D.i12).but se.extBut D.TOi1.symm
 have gE2:=gd.but se.extBut D.TOi2.symm
 have ltz:=a1L zE
 show wpAny _ _ (Builtin.SmallTypes.ownedTupleHandOut (.ref z) (.ref he.objs.size) >>= _) _ _ _
 refine a1D ?_;unfold Builtin.SmallTypes.ownedTupleHandOut
 refine a1D<|wpAny_setField_rec (a1E _ zE) (by simp) λhf zf sf=>?_
 replace zf:IsZip hf z TI TO (rawInt he.objs.size):=zf
 refine wpAny_setField_rec zf (by simp) λhg zg sg=>?_
 replace zg:IsZip hg z TI TO (rawInt he.objs.size):=zg
 have lift:∀ b o,b≠z->he.get? b=some o->hg.get? b=some o:=λb o b1 e=>sg.extBut _ _ b1<|sf.extBut _ _ b1<|a1E _ e
 have tG:=sg.extBut _ _ (a2f ltz)<|sf.extBut _ _ (a2f ltz)<|a1P _ rfl
 have zz:hg.objs.size=he.objs.size+1:=by rw[sg.1,sf.1,a2D]
 rw[zs]at zg tG zz
 refine a1Q ⟨_,rfl,a1Q ?_⟩
 show Q (some<|.ref he.objs.size) _
 rw[zs]
 exact q hg zg (lift _ _ D.TOz oE) (gE1.at λo e=>lift _ o D.i1z e) (gE2.at λo e=>lift _ o D.i2z e) tG zz λb o b1 b2 b3 b4 e=>lift b o b1<|kE b o b1 b2 b3 b4 e
def EB{z TI TO p1 p2 l1 l2:Addr}{c1 c2:Bool}{n1 n2:Nat}{xs ys:Array Value}{u1 u2:Value}{Q:Option Value->Shared->Prop}(hA:A.handled=none)(D:ZipApart z TI TO p1 p2 l1 l2)
  (iz:IsZip s.heap z TI TO .none) (iI:IsPair s.heap TI (.ref p1) (.ref p2)) (iO:IsPair s.heap TO u1 u2) (g1:SI c1 s.heap p1 l1 n1) (g2:SI c2 s.heap p2 l2 n2) (m1:SS c1 s.heap l1 xs) (m2:SS c2 s.heap l2 ys) (fin:xs[n1]? = none\/ys[n2]? = none)
  (q:∀ h',(∀ b o,b≠z->b≠TO->b≠p1->b≠p2->s.heap.get? b=some o->h'.get? b=some o)->Q none { s with heap:=h' }):wpAny (model prog w) A (pyNext<|.ref z) Q E s:=by
 have ty:s.TypeIs (.ref z) "zip" := ⟨_,iz,rfl⟩
 unfold pyNext
 have out:∀ h' e,(∀ b o,b≠z->b≠TO->b≠p1->b≠p2->s.heap.get? b=some o->h'.get? b=some o)->(∃ o,h'.get? e=some o/\o.cls = .type "StopIteration") ->
   wpAny (model prog w) A (do if <- isInstance (.ref e) (.type "StopIteration")then pure none else throw (.ref e):Sem (Option Value)) Q E { s with heap:=h' }:=λh' e k ⟨o,e1,e2⟩ =>
  a1D (wpAny_isInstance ⟨o,e1,e2⟩ isSubtype_stop<|a1Q<|q h' k)
 refine a1D<|wpAny_attempt<|wpAny_callSpecial?_slot ty F.slot_zip_next<|wpAny_call_entry F.slot_zip_next ty F.entry_zip_next ?_ (F.args_zip_next_1 _)
 show wpAny _ _ (field (.ref z) 2 >>= _) _ _ _
 refine a1D<|wpAny_field iz rfl rfl ?_
 show wpAny _ _ (field (.ref z) 3 >>= _) _ _ _
 refine a1D<|wpAny_field iz rfl rfl<|a1D<|wpAny_seqItems iI rfl ?_
 show wpAny _ _ (Builtin.SmallTypes.ownedTupleIsFree (.ref z) >>= _) _ _ _
 refine a1D ?_;unfold Builtin.SmallTypes.ownedTupleIsFree
 refine a1D<|wpAny_field iz rfl rfl<|a1Q ?_;simp only[if_true]
 refine a1D<|wpAny_rule<|a1D<|wpAny_field iz rfl rfl<|a1D<|wpAny_setField_rec iz (by simp) λha za sa=>?_
 replace za:IsZip ha z TI TO .ellipsis:=za
 refine a1D ?_;simp only[a3v,List.zipIdx_nil,a3B,a4j]
 refine a1D<|a1D<|wpAny_onRaise ?_
 show wpAny _ _ (Builtin.SmallTypes.nextOf (.ref p1) >>= _) _ _ _
 cases w1:xs[n1]? with
 | none =>
  refine a1D<|lB hA (g1.but sa.extBut D.i1z) (m1.but sa.extBut D.l1z) w1 λhb e sb zz=>?_
  obtain⟨oe,oe1,oe2⟩:=zz
  have zb:=sb _ _ D.i1z.symm za
  have nz:e≠z:=λy=>by subst y;rw[zb]at oe1;cases oe1;simp at oe2
  refine wpAny_setField_rec zb (by simp) λhc _ sc=>out hc e (λb o b1 _ b3 _ y=>sc.extBut _ _ b1<|sb _ _ b3<|sa.extBut _ _ b1 y) ⟨oe,sc.extBut _ _ nz oe1,oe2⟩
 | some v1 =>
  have w2:=fin.resolve_left<|by rw[w1];exact λy=>nomatch y
  refine a1D<|V0 (g1.but sa.extBut D.i1z) (m1.but sa.extBut D.l1z) w1 λhb gb sb=>a1Q ?_
  have oB:=sb.extBut _ _ D.TOi1<|sa.extBut _ _ D.TOz iO
  refine a1D<|wpAny_seqItems oB rfl<|a1D<|wpAny_updateSeq_pair oB λhc oC sc=>?_
  refine a1D<|wpAny_letGo<|a1Q<|a1D<|a1D<|wpAny_onRaise ?_
  show wpAny _ _ (Builtin.SmallTypes.nextOf (.ref p2) >>= _) _ _ _
  refine a1D<|lB hA (((g2.but sa.extBut D.i2z).but sb.extBut D.i12.symm).but sc.extBut D.TOi2.symm) (((m2.but sa.extBut D.l2z).but sb.extBut D.l2i1).but sc.extBut D.l2TO) w2 λhd e sd zz=>?_
  obtain⟨oe,oe1,oe2⟩:=zz
  have zd:=sd _ _ D.i2z.symm<|sc.extBut _ _ D.TOz.symm<|sb.extBut _ _ D.i1z.symm za
  have nz:e≠z:=λy=>by subst y;rw[zd]at oe1;cases oe1;simp at oe2
  refine wpAny_setField_rec zd (by simp) λhe _ se=>out he e (λb o b1 b2 b3 b4 y=>se.extBut _ _ b1<|sd _ _ b4<|sc.extBut _ _ b2<|sb.extBut _ _ b3<|sa.extBut _ _ b1 y) ⟨oe,se.extBut _ _ nz oe1,oe2⟩
abbrev itO(k:Bool)(a:Addr):Obj:={ cls:=.type (if k then "list_iterator" else "tuple_iterator"),data:=.fields #[.ref a,.int 0 0] }
abbrev zA(k1:Bool)(h:Heap)(l1:Addr):Heap:=h.push<|itO k1 l1
abbrev zB(k1 k2:Bool)(h:Heap)(l1 l2:Addr):Heap:=(zA k1 h l1).push<|itO k2 l2
abbrev zC(k1 k2:Bool)(h:Heap)(l1 l2:Addr):Heap:=(zB k1 k2 h l1 l2).push { cls:=.type "tuple",data:=.seq #[.ref h.objs.size,.ref (zA k1 h l1).objs.size] }
abbrev zD(k1 k2:Bool)(h:Heap)(l1 l2:Addr):Heap:=(zC k1 k2 h l1 l2).push { cls:=.type "tuple",data:=.seq #[.none,.none] }
abbrev zE(k1 k2:Bool)(h:Heap)(l1 l2:Addr):Heap:=(zD k1 k2 h l1 l2).push { cls:=.type "zip",data:=.fields #[.none,.bool false,.bool false,.ref (zB k1 k2 h l1 l2).objs.size,.ref (zC k1 k2 h l1 l2).objs.size] }
set_option maxHeartbeats 2000000 in
def SA(k1 k2:Bool)(l1 l2:Addr)(xs ys:Array Value) :
  Meets (Builtin.«zip.__new__» ⟨[.type "zip",.ref l1,.ref l2],[]⟩) (λ_ R s=>SS k1 s.heap l1 xs/\SS k2 s.heap l2 ys/\R (.ok<|.ret<|.ref (zD k1 k2 s.heap l1 l2).objs.size) { s with heap:=zE k1 k2 s.heap l1 l2 }) :=
 .of_wp λprog w A R s h=>by
  obtain⟨hp,g,d,tk,os⟩:=s;obtain⟨ha,hb,h⟩:=h;have hsub:=sub_zip;cases k1 with
  | true =>
   have a1:Heap.IsList (Shared.heap ⟨hp,g,d,tk,os⟩) l1 xs:=ha;cases k2 with
   | true =>have a2:Heap.IsList (Shared.heap ⟨hp.push { cls:=.type "list_iterator",data:=.fields #[.ref l1,.int 0 0] },g,d,tk,os⟩) l2 ys:=Heap.IsList.push hb _;wp_walk using wpAny_pyIter_list a1,wpAny_pyIter_list a2;exact⟨_,rfl,h⟩
   | false =>have a2:Heap.IsTuple (Shared.heap ⟨hp.push { cls:=.type "list_iterator",data:=.fields #[.ref l1,.int 0 0] },g,d,tk,os⟩) l2 ys:=Heap.IsTuple.push hb _;wp_walk using wpAny_pyIter_list a1,wpAny_pyIter_tuple a2;exact⟨_,rfl,h⟩
  | false =>
   have a1:Heap.IsTuple (Shared.heap ⟨hp,g,d,tk,os⟩) l1 xs:=ha;cases k2 with
   | true =>have a2:Heap.IsList (Shared.heap ⟨hp.push { cls:=.type "tuple_iterator",data:=.fields #[.ref l1,.int 0 0] },g,d,tk,os⟩) l2 ys:=Heap.IsList.push hb _;wp_walk using wpAny_pyIter_tuple a1,wpAny_pyIter_list a2;exact⟨_,rfl,h⟩
   | false =>have a2:Heap.IsTuple (Shared.heap ⟨hp.push { cls:=.type "tuple_iterator",data:=.fields #[.ref l1,.int 0 0] },g,d,tk,os⟩) l2 ys:=Heap.IsTuple.push hb _;wp_walk using wpAny_pyIter_tuple a1,wpAny_pyIter_tuple a2;exact⟨_,rfl,h⟩
def CU(ha:SS k1 s.heap l1 xs)(hb:SS k2 s.heap l2 ys)
  (q:∀ h',IsZip h' (s.heap.objs.size+4) (s.heap.objs.size+2) (s.heap.objs.size+3) .none->IsPair h' (s.heap.objs.size+2) (.ref s.heap.objs.size) (.ref<|s.heap.objs.size+1)->IsPair h' (s.heap.objs.size+3) .none .none ->
   SI k1 h' s.heap.objs.size l1 0->SI k2 h' (s.heap.objs.size+1) l2 0->h'.objs.size=s.heap.objs.size+5->(∀ b o,s.heap.get? b=some o->h'.get? b=some o)->Q (.ref<|s.heap.objs.size+4) { s with heap:=h' }) :
  wpAny (model prog w) A (call (.type "zip") [.ref l1,.ref l2]) Q E s:=by
 refine callType_new F.called_zip (by decide) (F.typeCall_zip_2 _ _) (F.newCall_zip_2 _ _) (λobj=>F.args_object_init_3 obj _ _) F.entry_zip_new (SA k1 k2 l1 l2 xs ys) ⟨ha,hb,?_⟩
 have s1:(zA k1 s.heap l1).objs.size=s.heap.objs.size+1:=a2D ..
 have s2:(zB k1 k2 s.heap l1 l2).objs.size=s.heap.objs.size+2:=(a2D ..).trans<|by rw[s1]
 have s3:(zC k1 k2 s.heap l1 l2).objs.size=s.heap.objs.size+3:=(a2D ..).trans<|by rw[s2]
 have s4:(zD k1 k2 s.heap l1 l2).objs.size=s.heap.objs.size+4:=(a2D ..).trans<|by rw[s3]
 have s5:(zE k1 k2 s.heap l1 l2).objs.size=s.heap.objs.size+5:=(a2D ..).trans<|by rw[s4]
 have o5:(zE k1 k2 s.heap l1 l2).get? (zD k1 k2 s.heap l1 l2).objs.size=some _:=a1P _ rfl
 have up1:∀ b o,(zD k1 k2 s.heap l1 l2).get? b=some o->(zE k1 k2 s.heap l1 l2).get? b=some o:=λb o e=>a1E _ e
 have o4:=up1 _ _<|a1P _ rfl
 have up2:∀ b o,(zC k1 k2 s.heap l1 l2).get? b=some o->(zE k1 k2 s.heap l1 l2).get? b=some o:=λb o e=>up1 b o<|a1E _ e
 have o3:=up2 _ _<|a1P _ rfl
 have up3:∀ b o,(zB k1 k2 s.heap l1 l2).get? b=some o->(zE k1 k2 s.heap l1 l2).get? b=some o:=λb o e=>up2 b o<|a1E _ e
 have o2:=up3 _ _<|a1P _ rfl
 have up4:∀ b o,(zA k1 s.heap l1).get? b=some o->(zE k1 k2 s.heap l1 l2).get? b=some o:=λb o e=>up3 b o<|a1E _ e
 have o1:=up4 _ _<|a1P _ rfl
 have mk:∀ k b a,(zE k1 k2 s.heap l1 l2).get? b=some (itO k a)->SI k (zE k1 k2 s.heap l1 l2) b a 0:=λk b a e=>by cases k<;>exact⟨_,e,rfl,rfl⟩
 show _/\_
 rw[s2,s3,s4]at o5
 rw[s1,s2]at o3
 rw[s3]at o4
 rw[s1]at o2
 rw[s4]
 exact⟨⟨_,o5,rfl⟩,q _ o5 o3 o4 (mk _ _ _ o1) (mk _ _ _ o2) s5 λb o e=>up4 b o<|a1E _ e⟩
open PySem PySem.Spec PyProof.Rows
def Inv.turnedN{t':Nat}{ch:List Addr}(I:Inv X pins σ H s)(k:∀ b o,b∉ch->s.heap.get? b=some o->h'.get? b=some o)(hf:∀ b∈ch,bH X pins H b):Inv X pins σ H { s with heap:=h',toks:=t' }:=by
 have nit:∀ b u,H b=some u->b∉ch:=λb u e z=>by rw[(hf b z).1]at e;cases e
 refine I.step (g':=s.gens) (d':=s.drawn) (λb hb=>?_) (λb o _ _ hc e _=>k b o hc e) (λb o _ _ hc e _=>⟨o.slots,k b o hc e⟩) (λ_ _ _ _ n=>n)
  (λb o hc e=>⟨o,k b o hc e⟩) (λ_ _ e=>e) (λ_ _ _ e=>e) (λb ps e=>⟨#[],by rw[e];simp⟩) (λm hm=>?_) (λb u e=>?_) I.bare
 ·obtain⟨_,q1,_,q3,q4,q5⟩:=hf b hb;exact⟨q3,q1,q4,q5⟩
 ·obtain⟨o,es,ep,ho,r⟩:=hm;exact⟨o,es,ep,k _ o (λz=>(hf _ z).2.1 rfl) ho,r⟩
 ·refine(I.hok b u e).stay (λc v hc q=>k c v ?_ q) (λ_ q=>q) λ_ _ q=>q
  rcases hc with z|z
  ·rw[z];exact nit b u e
  ·exact nit c _ z
def SqK(K:a1C)(k:Bool)(H:Hp)(a:Addr)(xs:List V):Prop:=if k=true then SqL K H a xs else SqT K H a xs
def Inv.sqk(I:Inv X pins σ H s)(h:SqK X.K k H a xs):∃ its,j8 xs its/\SS k s.heap a its.toArray:=by
 cases k with
 | true =>obtain⟨its,r,p,_⟩:=I.list<|h;exact⟨its,r,p.isList⟩
 | false =>obtain⟨its,r,p,_⟩:=I.tuple<|h;exact⟨its,r,p⟩
def Inv.sqk_inj(I:Inv X pins σ H s)(h:SqK X.K k H a xs)(h2:SqK X.K k H a ys):xs=ys:=by
 cases k with
 | true=>exact I.list_inj (h)<|h2
 | false=>exact I.tuple_inj (h)<|h2
def Itz(K:a1C)(k1 k2:Bool)(l1 l2:Addr):It :=
 ⟨λi H=>∃ xs ys x y,SqK K k1 H l1 xs/\SqK K k2 H l2 ys/\xs[i]? = some x/\ys[i]? = some y,
  λi H v H'=>∃ T x y,H T=none/\v = .ref T/\H'=upd H T (.tup [x,y])/\(∀ xs,SqK K k1 H l1 xs->xs[i]? = some x)/\∀ ys,SqK K k2 H l2 ys->ys[i]? = some y,
  λi H=>∃ xs ys,SqK K k1 H l1 xs/\SqK K k2 H l2 ys/\(xs.length<=i\/ys.length<=i)⟩
def YE(k1 k2:Bool)(z TI TO p1 p2 l1 l2:Addr)(i:Nat)(h:Heap):Prop:=IsZip h z TI TO .none/\IsPair h TI (.ref p1) (.ref p2)/\(∃ a b,IsPair h TO a b)/\SI k1 h p1 l1 i/\SI k2 h p2 l2 i
def Gn{P:Program}{w:World}{K:a1C}{elts:List Expr}{kx:Nat}{tp:Pos}{k1 k2:Bool}{z TI TO p1 p2 l1 l2:Addr}(D:ZipApart z TI TO p1 p2 l1 l2) :
  tX P w K (.Tuple elts kx tp) (Itz K k1 k2 l1 l2) [z,TI,TO,p1,p2] z (YE k1 k2 z TI TO p1 p2 l1 l2) where
 mem:=by simp
 obj:=λi h ⟨iz,iI,⟨a,b,iO⟩,g1,g2⟩ c hc=>by
  simp at hc;rcases hc with rfl|rfl|rfl|rfl|rfl
  ·exact⟨_,iz,λv e=>by cases e⟩
  ·exact⟨_,iI,λv e=>by cases e⟩
  ·exact⟨_,iO,λv e=>by cases e⟩
  ·exact g1.obj
  ·exact g2.obj
 keep:=λi h h' ⟨iz,iI,⟨a,b,iO⟩,g1,g2⟩ k=>⟨k z (by simp) _ iz,k TI (by simp) _ iI,⟨a,b,k TO (by simp) _ iO⟩,g1.at λo e=>k p1 (by simp) o e,g2.at λo e=>k p2 (by simp) o e⟩
 item:=by
  intro X hP hw hK hc i pins s σ H E I hf st hg;subst hP hw hK;obtain⟨iz,iI,⟨a,b,iO⟩,g1,g2⟩:=st;obtain⟨xs,ys,x,y,q1,q2,hx,hy⟩:=hg;obtain⟨is1,r1,m1⟩:=I.sqk q1;obtain⟨is2,r2,m2⟩:=I.sqk q2;obtain⟨u1,hu1,ru1⟩:=r1.get hx;obtain⟨u2,hu2,ru2⟩:=r2.get hy;refine zU D iz iI iO g1 g2 m1 m2 (by simpa using hu1) (by simpa using hu2) λh' a1 a2 a3 a4 a5 a6 kk=>?_;refine⟨_,rfl,?_⟩;refine wpAny_letOwnedTupleGo_zip a1 λh2 b1 b2=>?_;have lt:∀{c o},s.heap.get? c=some o->c≠s.heap.objs.size:=λe=>a14<|a1L e;have nz:=Ne.symm<|lt iz;have I1:Inv X pins σ (upd H s.heap.objs.size<|.tup [x,y]) { s with heap:=s.heap.push { cls:=.type "tuple",data:=.seq #[u1,u2] },toks:=s.toks } :=
   I.laid (λb ob q=>a1E _ q) (a1U _) ⟨(show 2<=sizeLine by decide),[u1,u2],.cons ru1<|.cons ru2 .nil,IsTup.new _ _⟩
  have nfp:∀ c∈[z,TI,TO,p1,p2],c≠s.heap.objs.size:=λc hc=>by
   simp at hc;rcases hc with rfl|rfl|rfl|rfl|rfl
   ·exact lt iz
   ·exact lt iI
   ·exact lt iO
   ·obtain⟨o,e,_⟩:=g1.obj;exact lt e
   ·obtain⟨o,e,_⟩:=g2.obj;exact lt e
  have hf':∀ c∈[z,TI,TO,p1,p2],bH X pins (upd H s.heap.objs.size<|.tup [x,y]) c:=λc hc=>by obtain⟨f0,f1⟩:=hf c hc;exact⟨by rw[g8<|nfp c hc];exact f0,f1⟩
  have I2:Inv X pins σ (upd H s.heap.objs.size<|.tup [x,y]) { s with heap:=h2,toks:=s.toks }:=by
   refine Inv.turnedN (s:={ s with heap:=s.heap.push { cls:=.type "tuple",data:=.seq #[u1,u2] },toks:=s.toks }) (t':=s.toks) (h':=h2) I1 (λc o hcn e=>?_) hf';simp at hcn;obtain⟨n1,n2,n3,n4,n5⟩:=hcn;refine b2.extBut c o n1 ?_;by_cases hcs:c=s.heap.objs.size
   ·subst hcs;have e':=e;rw[a1P _ rfl]at e';cases e';exact a5
   simp_all [a1L,a2D,Nat.lt_of_le_of_ne,Nat.le_of_lt_succ,a5m,a1E]
  refine⟨.ref s.heap.objs.size,_,I2,rfl,⟨_,x,y,I.hok.fresh<|a1U _,rfl,rfl,λzs hz=>by rw[I.sqk_inj hz q1];exact hx,λzs hz=>by rw[I.sqk_inj hz q2];exact hy⟩,?_,λc hc=>(hf' c hc).1⟩;have lift:∀ c o,c≠z->h'.get? c=some o->h2.get? c=some o:=λc o n e=>b2.extBut c o n e;exact⟨b1,lift _ _ D.TIz<|kk _ _ D.TIz D.TITO D.TIi1 D.TIi2 iI,⟨_,_,lift _ _ D.TOz a2⟩,a3.at λo e=>lift _ o D.i1z e,a4.at λo e=>lift _ o D.i2z e⟩
 done:=by intro X hP hw hK hc i pins s σ H E I hf st hg;subst hP hw hK;obtain⟨iz,iI,⟨a,b,iO⟩,g1,g2⟩:=st;obtain⟨xs,ys,q1,q2,hx⟩:=hg;obtain⟨is1,r1,m1⟩:=I.sqk q1;obtain⟨is2,r2,m2⟩:=I.sqk q2;have e1:=r1.length;have e2:=r2.length;refine EB (I.ok.hd hc) D iz iI iO g1 g2 m1 m2 (hx.elim (λh=>.inl<|by simp;omega) λh=>.inr<|by simp;omega) λh' kk=>⟨rfl,?_⟩;refine I.turnedN (t':=s.toks) (λc o hcn e=>?_) hf;grind
 self:=λ_ _ _ _ _ st h=>wpAny_pyIter_zip st.1 h
def Zw(K:a1C)(ta:TA):TI:=λσ H R=>ta σ H λvs H1=>∃ k1 k2 l1 l2,vs=[.ref l1,.ref l2]/\(∃ xs,SqK K k1 H1 l1 xs)/\(∃ ys,SqK K k2 H1 l2 ys)/\R (Itz K k1 k2 l1 l2) H1
def TC{X:Cx}{elts:List Expr}{kx:Nat}{tp:Pos}{a b:Expr}{ta:TA}{p pos:Pos}(hg:Gl X "zip")(hm:X.mg "zip" = none)(ha:PA X [a,b] ta)
  (hs:starEach [a,b] X.env=[(false,eval a X.env),(false,eval b X.env)]:=by rfl) (hs2:starEach [b] X.env=[(false,eval b X.env)]:=by rfl):PI X (.Tuple elts kx tp) (.Call (.Name "zip" p) [a,b] [] pos) (Zw X.K ta):=by
 intro pins s σ H R I h
 refine Call_<|K7 I hg hm PyProof.Rows.boot_zip<|PyProof.Rows.callWith_type1 (thn (ha pos pins s σ H _ I h) λus s1 ⟨vs,H1,I1,r1,q1⟩=>?_) (by rw[hs,hs2])<|by rw[hs2];rfl
 obtain⟨k1,k2,l1,l2,e,⟨xs,q2⟩,⟨ys,q3⟩,q⟩:=q1
 subst e
 cases r1 with
 | cons r rr =>
  cases rr with
  | cons r' rr =>
   cases rr
   cases r
   cases r'
   obtain⟨is1,_,m1⟩:=I1.sqk q2
   obtain⟨is2,_,m2⟩:=I1.sqk q3
   have lt1:l1<s1.heap.objs.size:=by obtain⟨o,e⟩:=m1.obj;exact a1L e
   have lt2:l2<s1.heap.objs.size:=by obtain⟨o,e⟩:=m2.obj;exact a1L e
   refine CU m1 m2 λh' a1 a2 a3 a4 a5 a6 kk=>?_
   refine wpAny_pyIter_zip a1 ?_
   have D:=PyProof.Rows.zipApart_new lt1 lt2
   refine⟨s1.heap.objs.size+4,_,_,_,H1,rfl,I1.kept (t':=s1.toks) kk,Gn D,⟨a1,a2,⟨_,_,a3⟩,a4,a5⟩,λc hc=>?_,q⟩
   have hge:s1.heap.objs.size<=c:=by grind
   exact I1.fpOk hge<|I1.hok.fresh hge
def Inv.swap(I:Inv X pins σ H s)(hp:H p=some a)(ha:(∀ x,a ≠ .own x)/\∀ xs,a ≠ .tup xs)(h1:∀ xs,X.H₀ p≠some (.tup xs))(h2:∀ o u,X.H₀ p≠some (.frz o u))(h3:∀ ps,X.H₀ p≠some (.tbl ps))
  (new:D5 X.prog X.w H s.heap p b):Inv X pins σ (upd H p b) s:=by
 have ne:∀{c:Addr},H c=none->c≠p:=λ{c} q z=>by subst z;rw[hp]at q;cases q
 have st:∀{c:Addr} {o:HO},D5 X.prog X.w H s.heap c o->D5 X.prog X.w (upd H p b) s.heap c o:=λ{c o} x =>
  x.stay (λ_ _ _ q=>q) (λd q=>by
   have:d≠p:=by intro z;subst z;rw[hp]at q;cases q;exact ha.1 _ rfl
   rw[g8 this];exact q) λd xs q=>by
   have:d≠p:=by intro z;subst z;rw[hp]at q;cases q;exact ha.2 _ rfl
   rw[g8 this];exact q
 refine⟨I.ok,I.os,I.bare,⟨I.base.keep,I.base.slot,λc o e n x=>?_,I.base.there,λc xs q=>?_,λc o u q=>?_,λc ps q=>?_⟩,I.loc,I.cell,?_,λx c e=>?_,λq hq=>?_,λc o q=>?_,I.len⟩
 ·have:=I.base.free c o e n x
  rw[g8<|ne this];exact this
 ·have:c≠p:=by intro z;subst z;exact h1 xs q
  rw[g8 this];exact I.base.tups c xs q
 ·have:c≠p:=by intro z;subst z;exact h2 o u q
  rw[g8 this];exact I.base.frzs c o u q
 ·have:c≠p:=by intro z;subst z;exact h3 ps q
  rw[g8 this];exact I.base.tbls c ps q
 ·rw[g8<|ne I.free];exact I.free
 ·rw[g8<|ne<|I.freeC x c e];exact I.freeC x c e
 ·obtain⟨a1,a2,a3,a4,a5⟩:=I.pin q hq
  exact⟨a1,by rw[g8<|ne a2];exact a2,a3,a4,a5⟩
 ·by_cases z:c=p
  ·subst z;rw[i5]at q;cases q;exact st new
  ·rw[g8 z]at q;exact st<|I.hok c o q
def Inv.freeze(I:Inv X pins σ H s)(hp:H p=some (.lst xs)):∃ o,Inv X pins σ (upd H p<|.frz o<|.lst xs) s:=by
 have k:=I.hok p _ hp;obtain⟨z,its,n,r,e⟩:=id k;refine⟨_,I.swap hp ⟨λ_ q=>(nomatch q),λ_ q=>(nomatch q)⟩ (λys q=>?_) (λo u q=>?_) (λps q=>?_) ⟨e,k⟩⟩
 ·rw[I.base.tups p ys q]at hp;cases hp
 ·rw[I.base.frzs p o u q]at hp;cases hp
 ·obtain⟨more,q⟩:=I.base.tbls p ps q;rw[q]at hp;cases hp
structure Su(X:Cx)(p:Addr):Prop where
 t:∀ xs,X.H₀ p≠some (.tup xs)
 f:∀ o u,X.H₀ p≠some (.frz o u)
 b:∀ ps,X.H₀ p≠some (.tbl ps)
def Inv.loose(I:Inv X pins σ H s)(hp:H p=some (.lst xs)):Su X p :=
 ⟨λys q=>(by rw[I.base.tups p ys q]at hp;cases hp),λo u q=>(by rw[I.base.frzs p o u q]at hp;cases hp),λps q=>(by obtain⟨more,q⟩:=I.base.tbls p ps q;rw[q]at hp;cases hp)⟩
def WO(t:TE):TE:=λσ H Q=>t σ H λv H1=>∃ p xs,v = .ref p/\H1 p=some (.lst xs)/\∀ o,Q v<|upd H1 p<|.frz o<|.lst xs
def W1(h:PE X x t):PE X x (WO t):=λpins s σ H Q I q =>
 wpAny_mono (h pins s σ H _ I q) (λu s1 zz=>by obtain⟨v,H1,I1,r,p,xs,e,hp,q1⟩:=zz;obtain⟨o,I2⟩:=I1.freeze hp;exact⟨v,_,I2,r,q1 o⟩) λ_ _ z=>z
def Tr(h:PU X i y pos' x t):PU X i y pos' x (WO t):=λpins s σ H Q I q =>
 wpAny_mono (h pins s σ H _ I q) (λu s1 zz=>by obtain⟨v,H1,I1,p,xs,e,hp,q1⟩:=zz;obtain⟨o,I2⟩:=I1.freeze hp;exact⟨v,_,I2,q1 o⟩) λ_ _ z=>z
def WN(t:TE):TE:=λσ H Q=>t σ H λv H1=>(∃ p xs,v = .ref p/\H1 p=some (.lst xs)/\∀ o,Q v<|upd H1 p<|.frz o<|.lst xs)\/Q v H1
def NP(h:PE X x t):PE X x (WN t):=λpins s σ H Q I q =>
 wpAny_mono (h pins s σ H _ I q) (λu s1 zz=>by
  obtain⟨v,H1,I1,r,z⟩:=zz;rcases z with⟨p,xs,e,hp,q1⟩|q1
  ·obtain⟨o,I2⟩:=I1.freeze hp;exact⟨v,_,I2,r,q1 o⟩
  ·exact⟨v,H1,I1,r,q1⟩) λ_ _ z=>z
def mY(p:Addr)(xs:List V):HO:=.ext λh=>xs.length<=sizeLine/\∃(its:List Value) (n:Nat),j8 xs its/\h.get? p=some { cls:=.type "list",data:=.seq its.toArray n }
def Inv.hide(I:Inv X pins σ H s)(hp:H p=some (.lst xs)):Inv X pins σ (upd H p<|mY p xs) s:=by have k:=I.hok p _ hp;have l:=I.loose hp;obtain⟨z,its,n,r,e⟩:=id k;exact I.swap hp ⟨λ_ q=>(nomatch q),λ_ q=>(nomatch q)⟩ l.t l.f l.b ⟨⟨z,its,n,r,e⟩,⟨_,e⟩,λh1 h2 ⟨z,its,n,r,e⟩ k=>⟨z,its,n,r,k _ e⟩⟩
def Inv.show'(I:Inv X pins σ H s)(l:Su X p)(hp:H p=some (mY p xs)):Inv X pins σ (upd H p<|.lst xs) s:=by obtain⟨k,_,_⟩:=I.hok p _ hp;exact I.swap hp ⟨λ_ q=>(nomatch q),λ_ q=>(nomatch q)⟩ l.t l.f l.b k
def Gz(p:Addr)(t:TE):TE:=λσ H Q=>∃ xs,H p=some (.lst xs)/\t σ (upd H p<|mY p xs) λv H1=>H1 p=some (mY p xs)/\Q v (upd H1 p<|.lst xs)
def rY(h:PE X x t):PE X x λσ H Q=>∃ p,Gz p t σ H Q:=λpins s σ H Q I ⟨p,xs,hp,q⟩ =>
 wpAny_mono (h pins s σ _ _ (I.hide hp) q) (λu s1 ⟨v,H1,I2,r,hp1,q1⟩=>⟨v,_,I2.show' (I.loose hp) hp1,r,q1⟩) λ_ _ z=>z
def Gx(p:Addr)(t:TT):TT:=λσ H Q=>∃ xs,H p=some (.lst xs)/\t σ (upd H p<|mY p xs) λv H1=>H1 p=some (mY p xs)/\Q v (upd H1 p<|.lst xs)
def gA(h:ig X ifs t):ig X ifs λσ H Q=>∃ p,Gx p t σ H Q:=λpins s σ H Q I ⟨p,xs,hp,q⟩ =>
 wpAny_mono (h pins s σ _ _ (I.hide hp) q) (λu s1 ⟨H1,I2,hp1,q1⟩=>⟨_,I2.show' (I.loose hp) hp1,q1⟩) λ_ _ z=>z
def Gy(p:Addr)(g:TG):TG:=λv σ H Q=>∃ xs,H p=some (.lst xs)/\g v σ (upd H p<|mY p xs) λσ1 H1=>H1 p=some (mY p xs)/\Q σ1 (upd H1 p<|.lst xs)
def rW(h:PG X tg g):PG X tg λv σ H Q=>∃ p,Gy p g v σ H Q:=λpins s σ H v u Q I r ⟨p,xs,hp,q⟩ =>
 wpAny_mono (h pins s σ _ v u _ (I.hide hp) r q) (λu s1 ⟨σ1,H1,I2,hp1,q1⟩=>⟨σ1,_,I2.show' (I.loose hp) hp1,q1⟩) λ_ _ z=>z
def DS:typeLookup (.type "list_reverseiterator") "__len__" = pure none:=by kernel_rfl
def yL:typeLookup (.type "list_reverseiterator") "__length_hint__" = pure (some<|.builtin "list_reverseiterator.__length_hint__"):=by kernel_rfl
def vZ(hit:s.heap.IsRevIter it l i)(h:Q false s):wpAny (model prog w) A (Builtin.List.listLengthHint<|.ref it) Q E s:=by have hT:=hit.typeIs;unfold Builtin.List.listLengthHint;refine a1D<|wpAny_specialOf hT DS ?_;show wpAny _ A (specialOf (Value.ref it) (a1B "__length_hint__") >>= _) Q E s;refine a1D<|wpAny_specialOf hT yL ?_;generalize hv:("list_reverseiterator.__length_hint__")=nm;wp_delta;rw[show splitId nm=some ("list_reverseiterator","__length_hint__")by subst hv;rw[0]];subst hv;refine a1D (wpAny_isInstance hT (by rfl) ?_);refine wpAny_ite_split (λz=>absurd z<|by decide) λ_=>?_;refine wpAny_ite_split (λ_=>?_) (λz=>absurd (by rfl) z);simp_all [wpAny_ite_split,a1Q]
abbrev nB(items:Array Value):Nat->Value->Prop:=λj x=>items[items.size - 1 - j]? = some x
abbrev tZ(prog:Program)(w:World)(A:Around)(R:Result->Shared->Prop):Fin->Shared->Prop:=λz s'=>match z with|.done f=>R (.ok f) s'|.again c'=>c'.quiet=true/\codeAny (model prog w) A c' R s'
def yr(hh:A.handled=none)(hit:s.heap.IsRevIter it l ((items.size:Int) - 1))(hl:s.heap.IsList l items)(hne:l≠it)(hi:S≠it)(hj:S≠l)(hz:items.size<=sizeLine)
  (hS:s.heap.get? S=some { cls:=.type "list",data:=.seq #[] c₀ })
  (fin:∀ h' tk acc c1,(∀ b o,b≠S->b≠it->s.heap.get? b=some o->h'.get? b=some o)->h'.get? S=some { cls:=.type "list",dict:=none,data:=.seq acc c1,slots:=#[] }->ItemsOf (nB items) acc items.size->R (.ok<|.ret .none) { s with heap:=h',toks:=tk }) :
  wpAny (model prog w) A.in1 (Builtin.List.listExtendWith (.ref S) (.ref it) .none) (tZ prog w A R) (λe s'=>R (.error e) s') s:=by
 have V:=(Walks.listRev (prog:=prog) (w:=w) (A:=A.in1) hh it l hne items).toS
 have nf:S∉[it,l]:=λq=>by
  rcases a1Y.mp q with q|q
  ·exact hi q
  ·exact hj<|a13.mp q
 unfold Builtin.List.listExtendWith
 refine a1D<|wpAny_typeOf hit.typeIs ?_
 have n1:Builtin.List.listSameRef (.ref S) (.ref it)=false:=by simp[Builtin.List.listSameRef,hi]
 have n2:(Value.type "list_reverseiterator" == Value.type "list")=false:=by decide
 have n3:(Value.type "list_reverseiterator" == Value.type "tuple")=false:=by decide
 simp only[n1,n2,n3,Bool.or_false,a2T,if_false]
 refine a1D<|wpAny_pyIter_revIter hit<|a1D<|wpAny_holding<|vZ hit ?_
 refine wpAny_ite_split (λz=>absurd z<|by rw[0]) λ_=>?_
 refine a1Q ⟨plainId_quiet F.plain_extend_loop _,?_⟩
 have h0:((items.size:Int) - 1 - ((0:Nat):Int))=items.size - 1:=by omega
 refine codeAny_extend_loopS V hz S nf .none items.size 0 s #[] c₀ rfl (a2e _) ⟨a2e _,by rw[h0];exact hit,hl⟩ hS (ItemsOf.nil _) λs2 acc c1 mv g1 g2=>?_
 rw[Moved.eq_with mv]
 exact fin s2.heap s2.toks acc c1 (λb o q1 q2 q3=>mv.heap b o (λq=>(a1Y.mp q).elim q1 λq'=>q2<|a13.mp q') q3) g1 g2
def HW(hh:A.handled=none)(hit:s.heap.IsRevIter it l ((items.size:Int) - 1))(hl:s.heap.IsList l items)(hne:l≠it)(hi:S≠it)(hj:S≠l)(hz:items.size<=sizeLine)
  (hS:s.heap.get? S=some { cls:=.type "list",data:=.seq #[] })
  (fin:∀ h' tk acc c1,(∀ b o,b≠S->b≠it->s.heap.get? b=some o->h'.get? b=some o)->h'.get? S=some { cls:=.type "list",dict:=none,data:=.seq acc c1,slots:=#[] }->ItemsOf (nB items) acc items.size->R (.ok<|.ret .none) { s with heap:=h',toks:=tk }) :
  wpAny (model prog w) A.in1 (Builtin.«list.__init__» ⟨[.ref S,.ref it],[]⟩) (tZ prog w A R) (λe s'=>R (.error e) s') s:=by
 show wpAny _ A.in1 (Builtin.List.listItems (.ref S) >>= λwas=>Builtin.List.listUpdate (.ref S) (λ_=>#[]) >>= λ_=>letGo was.toList.reverse >>= λ_=>Builtin.List.listExtendWith (.ref S) (.ref it) .none) (tZ prog w A R) (λe s'=>R (.error e) s') s
 unfold Builtin.List.listItems
 refine a1D<|a1D<|wpAny_seqItems hS rfl<|a1Q ?_
 show wpAny _ A.in1 (updateSeq S (λ_=>#[]) >>= λ_=>letGo (#[]).toList.reverse >>= λ_=>Builtin.List.listExtendWith (.ref S) (.ref it) .none) (tZ prog w A R) (λe s'=>R (.error e) s') s
 refine a1D<|wpAny_updateSeq hS rfl<|a1D<|wpAny_letGo ?_
 have g:=a2s (Obj.mapSeq λ_=>(#[])) hS rfl
 have oth:∀ b o,b≠S->s.heap.get? b=some o->(s.heap.update S<|Obj.mapSeq λ_=>(#[])).get? b=some o:=λb o q1 q2=>(a2h _ _<|Ne.symm q1).trans q2
 refine yr hh (hit.at λo e=>oth it o (Ne.symm hi) e) (hl.at λo e=>oth l o (Ne.symm hj) e) hne hi hj hz g λh' tk acc c1 q1 q2 q3=>?_
 exact fin h' tk acc c1 (λb o b1 b2 e=>q1 b o b1 b2<|oth b o b1 e) q2 q3
def oU(hh:A.handled=none)(hit:s.heap.IsRevIter it l ((items.size:Int) - 1))(hl:s.heap.IsList l items)(hne:l≠it)(hz:items.size<=sizeLine)
  (fin:∀ h' tk acc c1,(∀ b o,b≠it->s.heap.get? b=some o->h'.get? b=some o)->h'.get? s.heap.objs.size=some { cls:=.type "list",dict:=none,data:=.seq acc c1,slots:=#[] }->ItemsOf (nB items) acc items.size->Q (.ref s.heap.objs.size) { s with heap:=h',toks:=tk }) :
  wpAny (model prog w) A (call (.type "list") [.ref it]) Q E s:=by
 obtain⟨oi,hoi,_⟩:=id hit
 obtain⟨ol,hol,_⟩:=id hl
 have i1:=a2f<|a1L hoi
 have i2:=a2f<|a1L hol
 let h1:=s.heap.push { cls:=.type "list",data:=.seq #[] }
 have up:∀ b o,s.heap.get? b=some o->h1.get? b=some o:=λb o e=>a1E _ e
 have gS:h1.get? s.heap.objs.size=some { cls:=.type "list",data:=.seq #[] }:=a1P _ rfl
 refine callType_codes (Q₁:=λx s1=>x = .ref s.heap.objs.size/\s1 = { s with heap:=h1 }) F.called_list (F.typeCall_list_1 _) F.entry_list_init (code_list_new _ ⟨rfl,rfl⟩) ?_
 rintro x s1 ⟨rfl,rfl⟩
 refine⟨⟨_,gS,rfl⟩,F.args_list_init_2 _ _,HW hh (hit.at λo e=>up it o e) (hl.at λo e=>up l o e) hne i1 i2 hz gS λh' tk acc c1 q1 q2 q3=>?_⟩
 exact⟨rfl,fin h' tk acc c1 (λb o b1 e=>q1 b o (a14<|a1L e) b1<|up b o e) q2 q3⟩
def HU(p a:Addr)(n:Nat):Heap->Prop:=λh=>h.get? p=some (revObj a<|(n:Int) - 1)
def aG(H:Hp)(a:Addr):Hp:=λb=>if b=a then none else H b
theorem D4(h:b≠a):aG H a b=H b:=if_neg h
theorem X1:aG H a a=none:=if_pos rfl
def jk:p9 X (.type "reversed") (λxs H Q=>∃ a ys,xs=[.ref a]/\SqL X.K H a ys/\∀ p,H p=none->p≠a->X.s₀.heap.objs.size<=p->Q (.ref p) (upd H p<|.ext<|HU p a ys.length)):=by
 intro pins s σ H xs us Q I rv h;obtain⟨a,ys,rfl,sq,q⟩:=h;obtain⟨u,rfl,ru⟩:=rv.one;cases ru;obtain⟨its,r,ht,hz⟩:=I.list sq;have hl:=r.length;obtain⟨o,ho,_⟩:=id ht.isList;refine call_reversed_list ht.isList ⟨.ref s.heap.objs.size,_,I.laid (t':=s.toks) (λb u e=>a1E _ e) (a1U _) ?_,rfl,q _ I.fresh (a2f<|a1L ho) I.sz⟩;have e:(s.heap.push<|revObj a<|(its.toArray.size:Int) - 1).get? s.heap.objs.size=some (revObj a<|ys.length - 1):=by rw[a1P _ rfl,hl];rfl
 exact⟨e,⟨_,e⟩,λh1 h2 z k=>k _ z⟩
def qe(h:ItemsOf (nB items) acc items.size):acc.toList=items.toList.reverse:=by
 obtain⟨h1,h2⟩:=h;apply a3P
 ·rw[a2n,Array.length_toList,Array.length_toList,h1]
 ·intro j g1 g2;rw[Array.length_toList]at g1;have e:=h2 j acc[j] (Array.getElem?_eq_getElem g1);grind
def zk(hc:X.calm=true):p9 X (.type "list") (λxs H Q=>∃ it a ys,xs=[.ref it]/\H it=some (.ext<|HU it a ys.length)/\SqL X.K H a ys/\a≠it/\X.s₀.heap.objs.size<=it/\∀ p,H p=none->Q (.ref p) (aG (upd H p<|.lst ys.reverse) it)):=by
 intro pins s σ H xs us Q I rv h;obtain⟨it,a,ys,rfl,hit,sq,hne,hge,q⟩:=h;obtain⟨u,rfl,ru⟩:=rv.one;cases ru;obtain⟨its,r,ht,hz⟩:=I.list sq;have hl:=r.length;have hob:=(I.hok it _ hit).1;have hsz:its.toArray.size=ys.length:=by exact hl.symm
 refine oU (I.ok.hd hc) ⟨_,hob,rfl,by rw[hsz];rfl⟩ ht.isList hne (by omega) λh' tk acc c1 k1 k2 k3=>?_;have hacc:=qe k3;have fr:=I.fresh;have ex:∀{b o},s.heap.get? b=some o->b≠s.heap.objs.size:=λe=>a14<|a1L e;have old:∀{b u},H b=some u->b≠s.heap.objs.size:=λ{b u} e z=>by rw[z,fr]at e;cases e
 have nit:∀{b u},H b=some u->u ≠ .ext (HU it a ys.length)->b≠it:=λ{b u} e n z=>by rw[z,hit]at e;exact n (Option.some.inj e).symm
 have here:∀{b},b≠s.heap.objs.size->b≠it->aG (upd H s.heap.objs.size<|.lst ys.reverse) it b=H b:=λb1 b2=>by rw[D4 b2,g8 b1]
 have un:Un (frs X.stack) [it] H (aG (upd H s.heap.objs.size<|.lst ys.reverse) it) s.heap h':={
  keep:=λb o e n _ hx=>k1 b o (λz=>hx<|by simp[z]) e
  slot:=λb o e n _ hx=>⟨o.slots,k1 b o (λz=>hx<|by simp[z]) e⟩
  free:=λb o e n hx=>by rw[here (ex e) λz=>hx<|by simp[z]];exact n
  there:=λb o e hx=>⟨o,k1 b o (λz=>hx<|by simp[z]) e⟩
  tups:=λb xs e=>by rw[here (old e)<|nit e<|by simp];exact e
  frzs:=λb o u e=>by rw[here (old e)<|nit e<|by simp];exact e
  tbls:=λb ps e=>⟨#[],by rw[here (old e)<|nit e<|by simp];simpa using e⟩ }
 have ok:HOk X.prog X.w (aG (upd H s.heap.objs.size<|.lst ys.reverse) it) h':=λb u e=>by
  have b2:b≠it:=λz=>by simp_all [X1]
  rw[D4 b2]at e;by_cases b1:b=s.heap.objs.size
  ·subst b1;rw[i5]at e;cases e;exact⟨by rw[a2n];exact hz,acc.toList,c1,by rw[hacc];exact r.reverse,k2⟩
  ·rw[g8 b1]at e;refine(I.hok b u e).stay (λc v hcv z=>k1 c v ?_ z) (λc z=>?_) λc xs z=>?_;all_goals grind
 refine⟨.ref s.heap.objs.size,_,I.call (g':=s.gens) (d':=s.drawn) (t':=tk) un ok I.bare λb hb=>?_,rfl,q _ fr⟩;obtain rfl:b=it:=by simpa using hb
 refine⟨.inr hge,λz=>?_,λx c e z=>?_,λp hp z=>?_⟩
 ·rw[z,I.free]at hit;cases hit
 ·rw[<- z,I.freeC x c e]at hit;cases hit
 ·rw[<- z,(I.pin p hp).2.1]at hit;cases hit
def Ca(x:h.IsList a its)(hs:Heap.ExtBut b h h2)(ne:a≠b):h2.IsList a its:=x.at λo e=>hs a o ne e
theorem xq(hne:l≠it):∀ n i (s:Shared) (Q:List Value->Shared->Prop),s.heap.IsListIter it l i->s.heap.IsList l its->i+n<=its.size ->
  (∀ h2,h2.IsListIter it l (i+n)->Heap.SameBut it s.heap h2->Q ((its.toList.drop i).take n) { s with heap:=h2 })->wpAny (model prog w) A (draw (.ref it) n) Q E s
 | 0,i,s,Q,hi,_,_,k=>by show wpAny _ _ (pure []) Q E s;simp_all [a1Q,Heap.SameBut.refl]
 | n+1,i,s,Q,hi,hl,hle,k=>by
  have lt:i<its.size:=by omega
  show wpAny _ _ (pyNext (.ref it) >>= _) Q E s;refine a1D (wpAny_pyNext_list_item hi hl (x:=its[i]) (by simp[lt]) λh1 hi1 hs1=>a1D<|wpAny_holding ?_);refine xq hne n (i+1) _ _ hi1 (Ca hl hs1.extBut hne) (by omega) λh2 hi2 hs2=>a1Q ?_;have e:its.toList.drop i=its[i] :: its.toList.drop (i+1):=by simp[List.drop_eq_getElem_cons,lt]
  have z:=k h2 (by rw[show i+(n+1)=i+1+n by omega];exact hi2)<|hs1.trans hs2;rw[e,a32]at z;exact z
def xX(hh:A.handled=none)(hl:s.heap.IsList l its)(hn:ts.length=its.size)(hst:ts.findIdx? (·.1)=none)
  (k:∀ h2,Heap.ExtBut s.heap.objs.size s.heap h2->wpAny (model prog w) A (assignInOrder (ts.map (·.2)) its.toList) Q E { s with heap:=h2 }):wpAny (model prog w) A (unpack (.ref l) ts) Q E s:=by
 have ne:l≠s.heap.objs.size:=by obtain⟨o,ho,_⟩:=hl;exact a14<|a1L ho
 unfold unpack
 rw[hn,hst]
 refine a1D<|wpAny_holding ?_
 unfold unpackItems
 refine a1D ?_
 unfold notIterableAtAll
 refine a1D<|wpAny_specialOf hl.typeIs F.slot_list_iter.lookup<|a1Q ?_
 simp
 refine a1D<|wpAny_holding<|wpAny_pyIter_list hl ?_
 refine a1D<|wpAny_holding<|xq ne its.size 0 _ _ ⟨_,a1P _ rfl,rfl,rfl⟩ (hl.at λo e=>a1E _ e) (by omega) λh1 hi1 hs1=>?_
 have all:List.take its.size (List.drop 0 its.toList)=its.toList:=by simp[a44,a2O]
 rw[all,if_neg<|by simp]
 have hl1:=Ca (hl.at λo e=>a1E _ e) hs1.extBut ne
 refine a1D<|wpAny_holding<|wpAny_pyNext_list_end hh hi1 hl1 (by simp) λh2 he=>?_
 simp
 exact a1Q<|k h2 λb o hb e=>he b o hb<|hs1.extBut b o hb<|a1E _ e
def UO(K:a1C)(n:Nat)(t:TGs):TG:=λv σ H Q=>∃ a xs,v = .ref a/\SqL K H a xs/\xs.length=n/\t xs σ H Q
def NL(hc:X.calm=true)(h:PGs X es t)(hn:(assignEach es X.env).length=n:=by rfl)
  (hst:(assignEach es X.env).findIdx? (·.1)=none:=by rfl):PG X (.Tuple es k pos) (UO X.K n t):=by
 intro pins s σ H v u Q I r hw
 obtain⟨a,xs,e1,hq,hl,hw⟩:=hw
 subst e1
 cases r
 obtain⟨its,rv,ht,hz⟩:=I.list hq
 rw[assign_Tuple]
 refine a1D<|wpAny_standAt<|xX (I.ok.hd hc) ht.isList (by simp[hn,<- hl,rv.length]) hst λh2 hx=>?_
 have I1:Inv X pins σ H { s with heap:=h2 }:=I.kept (t':=s.toks) λb o e=>hx b o (a14<|a1L e) e
 exact h pins _ σ H xs _ Q I1 (by simpa using rv) hw
def Itb(K:a1C)(a:Addr)(n:Nat):It :=
 ⟨λi H=>i<n/\∃ xs x,SqL K H a xs/\xs[n - 1 - i]? = some x,λi H x H'=>H'=H/\∀ xs,SqL K H a xs->xs[n - 1 - i]? = some x,λi _=>n<=i⟩
def Dr{P:Program}{w:World}{K:a1C}{tg:Expr}(a it:Addr)(n:Nat):tX P w K tg (Itb K a n) [it] it (λi h=>i<=n/\h.IsRevIter it a ((n:Int) - 1 - (i:Int))) where
 mem:=by simp
 obj:=λi h st b hb=>by
  obtain rfl:b=it:=by simpa using hb
  obtain⟨_,o,e,c,d⟩:=st;exact⟨o,e,λv z=>by rw[d]at z;cases z⟩
 keep:=λi h h2 st k=>⟨st.1,st.2.at λo e=>k it (by simp) o e⟩
 item:=by
  intro X hP hw hK hc i pins s σ H E I hf st hg;subst hP hw hK;obtain⟨hi,xs,x,hq,hx⟩:=hg;obtain⟨its,rv,p,hz⟩:=I.list hq;obtain⟨u,hu,ru⟩:=rv.get hx;obtain⟨f0,f1,f2,f3,f4,f5⟩:=hf it (by simp);have e:(n:Int) - 1 - (i:Int)=((n - 1 - i:Nat):Int):=by omega
  have st2:=st.2;rw[e]at st2;refine wpAny_pyNext_rev_item st2 p.isList (x:=u) (by simpa using hu) λh2 st3 sb=>?_;have I1:Inv X pins σ H { s with heap:=h2 }:=I.turned (t':=s.toks) (λb o hb e=>(sb.2 b hb).trans e) f0 f1 f3 f4 f5;have e2:((n - 1 - i:Nat):Int) - 1=(n:Int) - 1 - ((i+1:Nat):Int):=by omega
  rw[e2]at st3;obtain⟨o,e3,c,d⟩:=id st3;exact⟨u,rfl,xm (s:={ s with heap:=h2 }) e3 c d (by decide) ⟨x,H,I1,ru,⟨rfl,λys hy=>by rw[I.list_inj hy hq];exact hx⟩,⟨by omega,st3⟩,λb hb=>(hf b hb).1⟩⟩
 done:=by intro X hP hw hK hc i pins s σ H E I hf st hg;subst hP hw hK;have hi:i=n:=Nat.le_antisymm st.1 hg;obtain⟨f0,f1,f2,f3,f4,f5⟩:=hf it (by simp);have st2:=st.2;rw[hi,show(n:Int) - 1 - (n:Int) = -1 by omega]at st2;refine wpAny_pyNext_rev_end (I.ok.hd hc) st2 λh2 he=>?_;exact⟨rfl,I.turned (t':=s.toks) (λb o hb e=>he b o hb e) f0 f1 f3 f4 f5⟩
 self:=λA i s Q E st k=>wpAny_pyIter_revIter st.2 k
def XU(K:a1C)(ta:TA):TI:=λσ H R=>ta σ H λvs H1=>∃ a xs,vs=[.ref a]/\SqL K H1 a xs/\R (Itb K a xs.length) H1
def NJ{tg e:Expr}{ta:TA}{p pos:Pos}(hg:Gl X "reversed")(hm:X.mg "reversed" = none)(hv:bootBuiltins "reversed" = some (.type "reversed"))(ha:PA X [e] ta)
  (hs:starEach [e] X.env=[(false,eval e X.env)]:=by rfl):PI X tg (.Call (.Name "reversed" p) [e] [] pos) (XU X.K ta):=by
 intro pins s σ H R I h
 refine Call_<|K7 I hg hm hv<|PyProof.Rows.callWith_type1 (thn (ha pos pins s σ H _ I h) λus s1 zz=>?_) hs rfl
 ·obtain⟨vs,H1,I1,r1,a,xs,rfl,hq,q⟩:=zz
  obtain⟨u,rfl,ru⟩:=L5 r1
  cases ru
  obtain⟨its,rv,pl,hz⟩:=I1.list hq
  have hl:=rv.length
  refine call_reversed_list pl.isList ?_
  have I2:Inv X pins σ H1 { s1 with heap:=s1.heap.push (revObj a<|(its.toArray.size:Int) - 1) }:=I1.kept (t':=s1.toks) λb o e=>a1E _ e
  have st:(s1.heap.push<|revObj a<|(its.toArray.size:Int) - 1).IsRevIter s1.heap.objs.size a ((xs.length:Int) - 1 - ((0:Nat):Int)):=by refine⟨_,a1P _ rfl,rfl,?_⟩;rw[a18,<- hl];show Data.fields _=_;simp
  refine wpAny_pyIter_revIter st ⟨s1.heap.objs.size,[s1.heap.objs.size],_,_,H1,rfl,I2,Dr a _ xs.length,⟨a2e _,st⟩,λb hb=>?_,q⟩
  obtain rfl:b=s1.heap.objs.size:=by simpa using hb
  exact I1.fpOk (a1U _)<|I1.hok.fresh<|a1U _
end L2
namespace L2
def Kb{k:Bool}{e p l:Addr}{n:Nat}{xs:Array Value}{v old:Value}{Q:Option Value->Shared->Prop}(ie:IsEnum s.heap e p n old)(g:SI k s.heap p l n)(m:SS k s.heap l xs)(hv:xs[n]? = some v)(hne:e≠p)
  (q:∀ h',IsEnumOut h' e p ((n:Int)+1) v s.heap.objs.size->SI k h' p l (n+1)->h'.get? s.heap.objs.size=some { cls:=.type "tuple",data:=.seq #[.int n s.toks,v] }->h'.objs.size=s.heap.objs.size+1 ->
   (∀ b o,b≠e->b≠p->s.heap.get? b=some o->h'.get? b=some o)->Q (some<|.ref s.heap.objs.size) { s with heap:=h',toks:=s.toks+1 }):wpAny (model prog w) A (pyNext<|.ref e) Q E s:=by
 have ty:s.TypeIs (.ref e) "enumerate" := ⟨_,ie,rfl⟩
 unfold pyNext
 refine a1D<|wpAny_attempt<|wpAny_callSpecial?_slot ty F.slot_enumerate_next<|wpAny_call_entry F.slot_enumerate_next ty F.entry_enumerate_next ?_ (F.args_enumerate_next_1 _)
 obtain⟨hp,gs,dr,tk,os⟩:=s
 show wpAny _ _ (field (.ref e) 2 >>= _) _ _ _
 refine a1D<|wpAny_field ie rfl rfl<|a1D<|V0 g m hv λha ga sa=>?_
 replace sa:Heap.SameBut p hp ha:=sa
 have ea:=(sa.2 e hne).trans ie
 show wpAny _ _ (field (.ref e) 3 >>= _) _ _ ⟨ha,gs,dr,tk,os⟩
 refine a1D<|wpAny_field ea rfl rfl ?_
 show wpAny _ _ (field (.ref e) 4 >>= _) _ _ ⟨ha,gs,dr,tk,os⟩
 refine a1D<|wpAny_field ea rfl rfl ?_
 show wpAny _ _ (mkInt n >>= _) _ _ ⟨ha,gs,dr,tk,os⟩
 refine a1D<|wpAny_mkInt ?_
 show wpAny _ _ (setField (.ref e) 3 (rawInt<|n+1) >>= _) _ _ ⟨ha,gs,dr,tk+1,os⟩
 refine a1D<|wpAny_setField_rec ea (by simp) λhb eb sb=>?_
 replace sb:Heap.SameBut e ha hb:=sb
 replace eb:IsEnum hb e p (n+1) old:=eb
 show wpAny _ _ (setField (.ref e) 4 .none >>= _) _ _ ⟨hb,gs,dr,tk+1,os⟩
 refine a1D<|wpAny_setField_rec eb (by simp) λhc ec sc=>?_
 replace sc:Heap.SameBut e hb hc:=sc
 replace ec:IsEnum hc e p (n+1) old:=ec
 show wpAny _ _ (newTuple [.int n tk,v] >>= _) _ _ ⟨hc,gs,dr,tk+1,os⟩
 refine a1D<|wpAny_newTuple ?_
 have zc:hc.objs.size=hp.objs.size:=by rw[sc.1,sb.1,sa.1]
 have ltE:=a1L ie
 obtain⟨hd,hhd⟩:∃ hd,hd=hc.push { cls:=.type "tuple",data:=.seq #[.int n tk,v] }:=⟨_,rfl⟩
 have ed:IsEnum hd e p ((n:Int)+1) old:=by rw[hhd];exact a1E _ ec
 have td:hd.get? hp.objs.size=some { cls:=.type "tuple",data:=.seq #[.int n tk,v] }:=by rw[hhd,<- zc];exact a1P _ rfl
 have zd:hd.objs.size=hp.objs.size+1:=by simp_all
 have kd:∀ b o,b≠e->b≠p->hp.get? b=some o->hd.get? b=some o:=λb o b1 b2 z=>by rw[hhd];exact a1E _<|sc.extBut b o b1<|sb.extBut b o b1<|sa.extBut b o b2 z
 have gd:SI k hd p l (n+1):=((ga.but sb.extBut<|Ne.symm hne).but sc.extBut<|Ne.symm hne).at λo z=>by simp_all [a1E]
 show wpAny _ _ (Builtin.SmallTypes.ownedTupleIsFree (.ref e) >>= _) _ _ ⟨hc.push { cls:=.type "tuple",data:=.seq #[.int n tk,v] },gs,dr,tk+1,os⟩
 rw[<- hhd,zc]
 refine a1D ?_;unfold Builtin.SmallTypes.ownedTupleIsFree
 refine a1D<|wpAny_field ed rfl rfl<|a1Q ?_;simp
 refine a1D<|wpAny_rule<|a1D<|wpAny_field ed rfl rfl<|a1D<|wpAny_setField_rec ed (by simp) λhf ef sf=>?_
 replace sf:Heap.SameBut e hd hf:=sf
 replace ef:IsEnum hf e p (n+1) v:=ef
 show wpAny _ _ (Builtin.SmallTypes.ownedTupleHandOut (.ref e) (.ref hp.objs.size) >>= _) _ _ ⟨hf,gs,dr,tk+1,os⟩
 refine a1D ?_;unfold Builtin.SmallTypes.ownedTupleHandOut
 refine a1D<|wpAny_setField_rec ef (by simp) λhg eg sg=>?_
 replace sg:Heap.SameBut e hf hg:=sg
 replace eg:IsEnumOut hg e p (n+1) v hp.objs.size:=eg
 refine wpAny_setField_rec eg (by simp) λhh eh sh=>?_
 replace sh:Heap.SameBut e hg hh:=sh
 replace eh:IsEnumOut hh e p (n+1) v hp.objs.size:=eh
 refine a1D<|wpAny_letGo<|a1Q ⟨_,rfl,a1Q<|q hh eh ?_ ?_ ?_ ?_⟩
 ·exact((gd.but sf.extBut<|Ne.symm hne).but sg.extBut<|Ne.symm hne).but sh.extBut (Ne.symm hne)
 ·exact sh.extBut _ _ (a2f ltE)<|sg.extBut _ _ (a2f ltE)<|sf.extBut _ _ (a2f ltE) td
 ·show hh.objs.size=hp.objs.size+1
  rw[sh.1,sg.1,sf.1,zd]
 ·exact λb o b1 b2 z=>sh.extBut b o b1<|sg.extBut b o b1<|sf.extBut b o b1<|kd b o b1 b2 z
def Pc{k:Bool}{e p l:Addr}{n:Nat}{xs:Array Value}{old:Value}{Q:Option Value->Shared->Prop}(hA:A.handled=none)(ie:IsEnum s.heap e p n old)(g:SI k s.heap p l n)(m:SS k s.heap l xs)(hv:xs[n]? = none)
  (q:∀ h',Heap.ExtBut p s.heap h'->Q none { s with heap:=h' }):wpAny (model prog w) A (pyNext<|.ref e) Q E s:=by
 have ty:s.TypeIs (.ref e) "enumerate" := ⟨_,ie,rfl⟩
 unfold pyNext
 refine a1D<|wpAny_attempt<|wpAny_callSpecial?_slot ty F.slot_enumerate_next<|wpAny_call_entry F.slot_enumerate_next ty F.entry_enumerate_next ?_ (F.args_enumerate_next_1 _)
 show wpAny _ _ (field (.ref e) 2 >>= _) _ _ _
 refine a1D<|wpAny_field ie rfl rfl<|a1D<|lB hA g m hv λh' x he' zz=>?_
 obtain⟨o,ho,hc⟩:=zz
 exact a1D<|wpAny_isInstance ⟨o,ho,hc⟩ isSubtype_stop<|a1Q<|q _ he'
set_option maxHeartbeats 2000000 in
def Kc(l:Addr)(xs:Array Value)(n:Nat)(dct:Option Addr)(sl:Array (Option Value)) :
  Meets (Builtin.«enumerate.__new__» ⟨[.type "enumerate",.ref l],[]⟩) (λ_ R s=>s.heap.get? l=some { cls:=.type "tuple",dict:=dct,data:=.seq xs n,slots:=sl } /\
   R (.ok<|.ret<|.ref (zA false s.heap l).objs.size) { s with heap:=(zA false s.heap l).push { cls:=.type "enumerate",data:=.fields #[.none,.bool false,.ref s.heap.objs.size,rawInt 0,.none,.none] } }) :=
 .of_wp λprog w A R s h=>by
  obtain⟨hp,g,d,tk,os⟩:=s;obtain⟨hl,h⟩:=h;have hsub:=sub_enumerate;have hT:Heap.IsTuple (Shared.heap ⟨hp,g,d,tk,os⟩) l xs:=⟨_,hl,rfl,n,rfl⟩;wp_walk using AutoSeq1.wpAny_loadPart' hl;refine wpAny_stack_any λst=>a1Q ?_;split
  ·rename_i c _ _ _ _ _
   cases(c == Value.type "enumerate")
   ·wp_walk using AutoSeq1.wpAny_loadPart' hl,wpAny_pyIter_tuple hT;exact⟨_,rfl,h⟩
   ·wp_walk using AutoSeq1.wpAny_loadPart' hl,wpAny_pyIter_tuple hT;exact⟨_,rfl,h⟩
  ·wp_walk using AutoSeq1.wpAny_loadPart' hl,wpAny_pyIter_tuple hT;exact⟨_,rfl,h⟩
def KU(m:SS k s.heap l xs)
  (q:∀ h',IsEnum h' (s.heap.objs.size+1) s.heap.objs.size 0 .none->SI k h' s.heap.objs.size l 0->h'.objs.size=s.heap.objs.size+2->(∀ b o,s.heap.get? b=some o->h'.get? b=some o)->Q (.ref<|s.heap.objs.size+1) { s with heap:=h' }) :
  wpAny (model prog w) A (call (.type "enumerate") [.ref l]) Q E s:=by
 cases k with
 | true=>exact call_enumerate_list m q
 | false =>
  obtain⟨⟨c,dct,dt,sl⟩,hl,hc,n,hd⟩:=m
  simp only at hc hd
  subst hc;subst hd
  refine callType_new F.called_enumerate (by decide) (F.typeCall_enumerate_1 _) (F.newCall_enumerate_1 _) (λobj=>F.args_object_init_2 obj _) F.entry_enumerate_new (Kc l xs n dct sl) ⟨hl,?_⟩
  have s1:(zA false s.heap l).objs.size=s.heap.objs.size+1:=a2D ..
  have o1:((zA false s.heap l).push { cls:=.type "enumerate",data:=.fields #[.none,.bool false,.ref s.heap.objs.size,rawInt 0,.none,.none] }).get? (zA false s.heap l).objs.size=some _:=a1P _ rfl
  show _/\_
  rw[s1]at o1 ⊢
  exact⟨⟨_,o1,rfl⟩,q _ o1 ⟨_,a1E _<|a1P _ rfl,rfl,rfl⟩ (by simp) λb o e=>a1E _<|a1E _ e⟩
open PySem PySem.Spec PyProof.Rows
def Ite(K:a1C)(k:Bool)(l:Addr):It :=
 ⟨λi H=>∃ xs x,SqK K k H l xs/\xs[i]? = some x,
  λi H v H'=>∃ T x,H T=none/\v = .ref T/\H'=upd H T (.tup [.int i,x])/\∀ xs,SqK K k H l xs->xs[i]? = some x,
  λi H=>∃ xs,SqK K k H l xs/\xs.length<=i⟩
def VD(k:Bool)(e p l:Addr)(i:Nat)(h:Heap):Prop:=(∃ old,IsEnum h e p i old)/\SI k h p l i
def Dq{P:Program}{w:World}{K:a1C}{elts:List Expr}{kx:Nat}{tp:Pos}{k:Bool}{e p l:Addr}(hne:e≠p):tX P w K (.Tuple elts kx tp) (Ite K k l) [e,p] e (VD k e p l) where
 mem:=by simp
 obj:=λi h ⟨⟨old,ie⟩,g⟩ c hc=>by
  simp at hc;rcases hc with rfl|rfl
  ·exact⟨_,ie,λv z=>by cases z⟩
  ·exact g.obj
 keep:=λi h h' ⟨⟨old,ie⟩,g⟩ kk=>⟨⟨old,kk e (by simp) _ ie⟩,g.at λo z=>kk p (by simp) o z⟩
 item:=by
  intro X hP hw hK hc i pins s σ H E I hf st hg;subst hP hw hK;obtain⟨⟨old,ie⟩,g⟩:=st;obtain⟨xs,x,q1,hx⟩:=hg;obtain⟨is1,r1,m1⟩:=I.sqk q1;obtain⟨u1,hu1,ru1⟩:=r1.get hx;refine Kb ie g m1 (by simpa using hu1) hne λh' a1 a2 a3 a4 kk=>?_;refine⟨_,rfl,?_⟩;refine wpAny_letOwnedTupleGo_enum a1 λh2 b1 b2=>?_;have lt:∀{c o},s.heap.get? c=some o->c≠s.heap.objs.size:=λz=>a14<|a1L z;have I1:Inv X pins σ (upd H s.heap.objs.size<|.tup [.int i,x]) { s with heap:=s.heap.push { cls:=.type "tuple",data:=.seq #[.int i s.toks,u1] },toks:=s.toks+1 } :=
   I.laid (λb ob q=>a1E _ q) (a1U _) ⟨(show 2<=sizeLine by decide),[.int i s.toks,u1],.cons ⟨_,rfl⟩<|.cons ru1 .nil,IsTup.new _ _⟩
  have nfp:∀ c∈[e,p],c≠s.heap.objs.size:=λc hc=>by
   simp at hc;rcases hc with rfl|rfl
   ·exact lt ie
   ·obtain⟨o,z,_⟩:=g.obj;exact lt z
  have hf':∀ c∈[e,p],bH X pins (upd H s.heap.objs.size<|.tup [.int i,x]) c:=λc hc=>by obtain⟨f0,f1⟩:=hf c hc;exact⟨by rw[g8<|nfp c hc];exact f0,f1⟩
  have I2:Inv X pins σ (upd H s.heap.objs.size<|.tup [.int i,x]) { s with heap:=h2,toks:=s.toks+1 }:=by
   refine Inv.turnedN (s:={ s with heap:=s.heap.push { cls:=.type "tuple",data:=.seq #[.int i s.toks,u1] },toks:=s.toks+1 }) (t':=s.toks+1) (h':=h2) I1 (λc o hcn z=>?_) hf';simp at hcn;obtain⟨n1,n2⟩:=hcn;refine b2.extBut c o n1 ?_;have z':=z;by_cases hcs:c=s.heap.objs.size
   ·subst hcs;rw[a1P _ rfl]at z';cases z';exact a3
   simp_all [a5m]
  refine⟨.ref s.heap.objs.size,_,I2,rfl,⟨_,x,I.hok.fresh<|a1U _,rfl,rfl,λzs hz=>by rw[I.sqk_inj hz q1];exact hx⟩,?_,λc hc=>(hf' c hc).1⟩;have ec:((i+1:Nat):Int)=i+1:=by omega
  exact⟨⟨u1,by exact b1⟩,a2.at λo z=>b2.extBut p o (Ne.symm hne) z⟩
 done:=by intro X hP hw hK hc i pins s σ H E I hf st hg;subst hP hw hK;obtain⟨⟨old,ie⟩,g⟩:=st;obtain⟨xs,q1,hx⟩:=hg;obtain⟨is1,r1,m1⟩:=I.sqk q1;have e1:=r1.length;refine Pc (I.ok.hd hc) ie g m1 (by simp;omega) λh' kk=>⟨rfl,?_⟩;refine I.turnedN (t':=s.toks) (λc o hcn z=>?_) hf;simp at hcn;exact kk c o hcn.2 z
 self:=λ_ _ _ _ _ st h=>let ⟨⟨_,ie⟩,_⟩:=st;wpAny_pyIter_enum ie h
def XT(K:a1C)(ta:TA):TI:=λσ H R=>ta σ H λvs H1=>∃ k l,vs=[.ref l]/\(∃ xs,SqK K k H1 l xs)/\R (Ite K k l) H1
def NI{X:Cx}{elts:List Expr}{kx:Nat}{tp:Pos}{a:Expr}{ta:TA}{p pos:Pos}(hg:Gl X "enumerate")(hm:X.mg "enumerate" = none)(ha:PA X [a] ta)(hs:starEach [a] X.env=[(false,eval a X.env)]:=by rfl) :
  PI X (.Tuple elts kx tp) (.Call (.Name "enumerate" p) [a] [] pos) (XT X.K ta):=by
 intro pins s σ H R I h
 refine Call_<|K7 I hg hm PyProof.Rows.boot_enumerate<|PyProof.Rows.callWith_type1 (thn (ha pos pins s σ H _ I h) ?_) hs rfl
 rintro us s1 ⟨vs,H1,I1,r1,q1⟩
 obtain⟨k,l,e,⟨xs,q2⟩,q⟩:=q1
 subst e
 cases r1 with
 | cons r rr =>
  cases rr
  cases r
  obtain⟨is1,_,m1⟩:=I1.sqk q2
  refine KU m1 λh' a1 a2 a3 kk=>?_
  refine wpAny_pyIter_enum a1 ?_
  refine⟨s1.heap.objs.size+1,_,_,_,H1,rfl,I1.kept (t':=s1.toks) kk,Dq<|Nat.succ_ne_self _,⟨⟨_,a1⟩,a2⟩,λc hc=>?_,q⟩
  have hge:s1.heap.objs.size<=c:=by grind
  exact I1.fpOk hge<|I1.hok.fresh hge
end L2
namespace L2
def PE.imp(h:PE X x t)(i:∀ σ H Q,t' σ H Q->t σ H Q):PE X x t':=λpins s σ H Q I q=>h pins s σ H Q I<|i σ H Q q
def PT.imp(h:PT X x t)(i:∀ σ H Q,t' σ H Q->t σ H Q):PT X x t':=λpins s σ H Q I q=>h pins s σ H Q I<|i σ H Q q
def PW.imp(h:PW X x t)(i:∀ σ H Q,t' σ H Q->t σ H Q):PW X x t':=λwh pins s σ H Q I q=>h wh pins s σ H Q I<|i σ H Q q
def PA.imp(h:PA X x t)(i:∀ σ H Q,t' σ H Q->t σ H Q):PA X x t':=λpos pins s σ H Q I q=>h pos pins s σ H Q I<|i σ H Q q
def PS.imp(h:PS X x t)(i:∀ E σ H,t' E σ H->t E σ H):PS X x t':=λpins s σ H D I q=>h pins s σ H D I<|i D σ H q
def PSs.imp(h:PSs X x t)(i:∀ E σ H,t' E σ H->t E σ H):PSs X x t':=λpins s σ H D I q=>h pins s σ H D I<|i D σ H q
def OpR.imp(h:OpR X f r)(i:∀ x y H Q,r' x y H Q->r x y H Q):OpR X f r':=λpins s σ H x y v u Q I rx ry q=>h pins s σ H x y v u Q I rx ry<|i x y H Q q
def IxR.imp(h:IxR X r)(i:∀ x y H Q,r' x y H Q->r x y H Q):IxR X r':=λva sl pins s σ H x y v u Q I rx ry q=>h va sl pins s σ H x y v u Q I rx ry<|i x y H Q q
def PG.imp(h:PG X x t)(i:∀ v σ H Q,t' v σ H Q->t v σ H Q):PG X x t':=λpins s σ H v u Q I r q=>h pins s σ H v u Q I r<|i v σ H Q q
def PGs.imp(h:PGs X x t)(i:∀ v σ H Q,t' v σ H Q->t v σ H Q):PGs X x t':=λpins s σ H v u Q I r q=>h pins s σ H v u Q I r<|i v σ H Q q
end L2
open PySem.Spec L2
namespace DL
open PyProof.Rows hiding St
inductive D where
 | non|bl (b:Bool)|int (i:Int)|str (x:Str)|ref (a:Addr)|tup (ds:List D)|vl (ds:List D)|ty (n:String)|dic|exc (c:Str)
def KL(K:a1C)(a:Addr)(xs:List V):Prop:=∀ H:Hp,SqL K H a xs
mutual
inductive Has (K:a1C) (H:Hp):V->D->Prop
 | non:Has K H .non .non
 | bl (b:Bool):Has K H (.bl b) (.bl b)
 | int (i:Int):Has K H (.int i) (.int i)
 | str (x:Str):Has K H (.str x) (.str x)
 | ref (a:Addr):Has K H (.ref a) (.ref a)
 | ty (n:String):Has K H (.ty n) (.ty n)
 | tup {a:Addr} {xs:List V} {ds:List D}:SqT K H a xs->HasL K H xs ds->Has K H (.ref a) (.tup ds)
 | vl {a:Addr} {xs:List V} {ds:List D}:((∃ o,H a=some (.frz o (.lst xs)))\/KL K a xs)->HasL K H xs ds->Has K H (.ref a) (.vl ds)
 | dic {a:Addr}:(∃ o:Obj,H a=some (.frz o (.own 0))/\o.cls = .type "dict")->Has K H (.ref a) .dic
 | exc {a:Addr} {c:Str}:(∃(o:Obj) (C:Addr),H a=some (.frz o (.own 0))/\o.cls = .ref C/\PySem.W.nsIn K mainGlobals c=some (some (.ref C)))->Has K H (.ref a) (.exc c)
inductive HasL (K:a1C) (H:Hp):List V->List D->Prop
 | nil:HasL K H [] []
 | cons {v:V} {d:D} {vs:List V} {ds:List D}:Has K H v d->HasL K H vs ds->HasL K H (v :: vs) (d :: ds)
end
def ZK(K:a1C)(H:Hp)(v:V):D->Prop
 | .tup ds=>∃ a xs,v = .ref a/\SqT K H a xs/\HasL K H xs ds
 | .non=>v = .non
 | .bl b=>v = .bl b
 | .int i=>v = .int i
 | .str x=>v = .str x
 | .ref a=>v = .ref a
 | .ty n=>v = .ty n
 | _=>True
def Has.inv{K:a1C}{H:Hp}(h:Has K H v d):ZK K H v d:=by cases h<;>first|rfl|trivial|exact⟨_,_,rfl,‹_›,‹_›⟩
def HasL.inv{K:a1C}{H:Hp}(h:HasL K H xs ds):match ds with|[]=>xs=[]|d :: ds=>∃ v vs,xs=v :: vs/\Has K H v d/\HasL K H vs ds:=by cases h<;>first|rfl|exact⟨_,_,rfl,‹_›,‹_›⟩
def by1{F:List α->Prop}(h:∀ a,F [a]):∀ us,us.length=1->F us
 | [_],_=>h _
def by2{F:List α->Prop}(h:∀ a b,F [a,b]):∀ us,us.length=2->F us
 | [_,_],_=>h _ _
def by3{F:List α->Prop}(h:∀ a b c,F [a,b,c]):∀ us,us.length=3->F us
 | [_,_,_],_=>h _ _ _
def by4{F:List α->Prop}(h:∀ a b c d,F [a,b,c,d]):∀ us,us.length=4->F us
 | [_,_,_,_],_=>h _ _ _ _
def by5{F:List α->Prop}(h:∀ a b c d e,F [a,b,c,d,e]):∀ us,us.length=5->F us
 | [_,_,_,_,_],_=>h _ _ _ _ _
structure KT0(H H':Hp):Prop where
 tp:∀ a xs,Rd H a (.tup xs)->Rd H' a (.tup xs)
 fz:∀ a o u,H a=some (.frz o u)->H' a=some (.frz o u)
structure KT(H H':Hp):Prop extends KT0 H H' where
 ex:∀ a φ,H a=some (.ext φ)->H' a=some (.ext φ)
def KT.refl(H:Hp):KT H H:=⟨⟨λ_ _ h=>h,λ_ _ _ h=>h⟩,λ_ _ h=>h⟩
def KT.trans(a:KT H H1)(b:KT H1 H2):KT H H2:=⟨⟨λp xs h=>b.tp p xs<|a.tp p xs h,λp o xs h=>b.fz p o xs<|a.fz p o xs h⟩,λp φ h=>b.ex p φ<|a.ex p φ h⟩
def KT0.sq{K:a1C}{H H':Hp}(k:KT0 H H'){a:Addr}{xs:List V}(h:SqT K H a xs):SqT K H' a xs:=h.elim (λz=>.inl<|k.tp a xs z) .inr
def KT.sq{K:a1C}{H H':Hp}(k:KT H H'){a:Addr}{xs:List V}(h:SqT K H a xs):SqT K H' a xs:=k.toKT0.sq h
def KT0.at(h1:∀ xs,¬ Rd H p (.tup xs))(h2:∀ q u,H p≠some (.frz q u)):KT0 H (upd H p o) where
 tp:=λa xs r=>by
  have hn:a≠p:=by intro e;subst e;exact h1 xs r
  rcases r with r|⟨q,r⟩
  ·exact .inl<|by rw[g8 hn];exact r
  ·exact .inr ⟨q,by rw[g8 hn];exact r⟩
 fz:=λa q xs r=>by
  have hn:a≠p:=by intro e;subst e;exact h2 q xs r
  rw[g8 hn];exact r
def KT.at(h1:∀ xs,¬ Rd H p (.tup xs))(h2:∀ q u,H p≠some (.frz q u))(h3:∀ φ,H p≠some (.ext φ)):KT H (upd H p o):=⟨KT0.at h1 h2,λa φ r=>by
  have hn:a≠p:=by intro e;subst e;exact h3 φ r
  rw[g8 hn];exact r⟩
def KT.alloc(h:H p=none):KT H (upd H p o):=KT.at (λxs r=>by rcases r with r|⟨_,r⟩<;>(rw[h]at r;cases r)) (λq xs r=>by rw[h]at r;cases r) λφ r=>by rw[h]at r;cases r
def KT.any(h:H p=some (.lst xs)):KT H (upd H p o):=KT.at (λxs r=>by rcases r with r|⟨_,r⟩<;>(rw[h]at r;cases r)) (λq xs r=>by rw[h]at r;cases r) λφ r=>by rw[h]at r;cases r
def KT.write(h:H p=some (.lst xs)):KT H (upd H p<|.lst ys):=KT.any h
theorem KT0.ext(h:H p=some (.ext φ)):KT0 H (upd H p o):=KT0.at (λxs r=>by rcases r with r|⟨_,r⟩<;>(rw[h]at r;cases r)) λq xs r=>by rw[h]at r;cases r
def KT.new(k:KT H H')(h:H p=none):KT H (upd H' p o) where
 tp:=λa xs r=>by
  have hn:a≠p:=by intro e;subst e;rcases r with r|⟨_,r⟩<;>(rw[h]at r;cases r)
  rcases k.tp a xs r with r|⟨q,r⟩
  ·exact .inl<|by rw[g8 hn];exact r
  ·exact .inr ⟨q,by rw[g8 hn];exact r⟩
 fz:=λa q xs r=>by
  have hn:a≠p:=by intro e;subst e;rw[h]at r;cases r
  rw[g8 hn];exact k.fz a q xs r
 ex:=λa φ r=>by
  have hn:a≠p:=by intro e;subst e;rw[h]at r;cases r
  rw[g8 hn];exact k.ex a φ r
mutual
theorem Has.mono0{K:a1C}{H H':Hp}(k:KT0 H H'):∀{v:V} {d:D},Has K H v d->Has K H' v d
 | _,_,.non=>.non
 | _,_,.bl b=>.bl b
 | _,_,.int i=>.int i
 | _,_,.str x=>.str x
 | _,_,.ref a=>.ref a
 | _,_,.ty n=>.ty n
 | _,_,.tup s l=>.tup (k.sq s)<|HasL.mono0 k l
 | _,_,.vl h l=>.vl (h.elim (λ⟨o,e⟩=>.inl ⟨o,k.fz _ _ _ e⟩) .inr)<|HasL.mono0 k l
 | _,_,.dic h=>.dic (let ⟨o,e,c⟩:=h;⟨o,k.fz _ _ _ e,c⟩)
 | _,_,.exc h=>.exc (let ⟨o,C,e,c⟩:=h;⟨o,C,k.fz _ _ _ e,c⟩)
theorem HasL.mono0{K:a1C}{H H':Hp}(k:KT0 H H'):∀{v:List V} {d:List D},HasL K H v d->HasL K H' v d
 | _,_,.nil=>.nil
 | _,_,.cons a b=>.cons (Has.mono0 k a)<|HasL.mono0 k b
end
def Has.mono{K:a1C}{H H':Hp}(k:KT H H'){v:V}{d:D}(h:Has K H v d):Has K H' v d:=h.mono0 k.toKT0
def HasL.mono{K:a1C}{H H':Hp}(k:KT H H'){v:List V}{d:List D}(h:HasL K H v d):HasL K H' v d:=h.mono0 k.toKT0
section
variable {K:a1C} {H H':Hp}
theorem HasL.length:∀{vs:List V} {ds:List D},HasL K H vs ds->vs.length=ds.length
 | _,_,.nil=>rfl
 | _,_,.cons _ b=>congrArg Nat.succ<|HasL.length b
theorem HasL.get:∀{vs:List V} {ds:List D} {i:Nat} {d:D},HasL K H vs ds->ds[i]? = some d->∃ v,vs[i]? = some v/\Has K H v d
 | _,_,_,_,.nil,e=>by simp at e
 | _,_,0,_,.cons a _,e=>by simp at e;subst e;exact⟨_,rfl,a⟩
 | _,_,i+1,d,.cons _ b,e=>by obtain⟨v,h1,h2⟩:=HasL.get b (by simpa using e);exact⟨v,by simpa using h1,h2⟩
theorem HasL.getV:∀{vs:List V} {ds:List D} {i:Nat} {v:V},HasL K H vs ds->vs[i]? = some v->∃ d,ds[i]? = some d/\Has K H v d
 | _,_,_,_,.nil,e=>by simp at e
 | _,_,0,_,.cons a _,e=>by simp at e;subst e;exact⟨_,rfl,a⟩
 | _,_,i+1,d,.cons _ b,e=>by obtain⟨v,h1,h2⟩:=HasL.getV b (by simpa using e);exact⟨v,by simpa using h1,h2⟩
theorem HasL.set(r:Has K H v d):∀{vs:List V} {ds:List D} (i:Nat),HasL K H vs ds->HasL K H (vs.set i v) (ds.set i d)
 | _,_,_,.nil=>.nil
 | _,_,0,.cons _ t=>.cons r t
 | _,_,i+1,.cons q t=>.cons q<|HasL.set r i t
theorem HasL.append:∀{xs ys:List V} {us ws:List D},HasL K H xs us->HasL K H ys ws->HasL K H (xs++ys) (us++ws)
 | _,_,_,_,.nil,s=>s
 | _,_,_,_,.cons r t,s=>.cons r<|HasL.append t s
theorem HasL.take:∀{xs:List V} {us:List D} n,HasL K H xs us->HasL K H (xs.take n) (us.take n)
 | _,_,0,_=>.nil
 | _,_,_+1,.nil=>.nil
 | _,_,n+1,.cons r t=>.cons r<|HasL.take n t
theorem HasL.drop:∀{xs:List V} {us:List D} n,HasL K H xs us->HasL K H (xs.drop n) (us.drop n)
 | _,_,0,r=>r
 | _,_,_+1,.nil=>.nil
 | _,_,n+1,.cons _ t=>HasL.drop n t
theorem HasL.ints:∀(ns:List Int),HasL K H (ns.map V.int)<|ns.map D.int
 | []=>.nil
 | n :: r=>.cons (.int n)<|HasL.ints r
end
inductive MO where
 | lst (ds:List D)
 | ins (c:Str) (fs:List (Str × D))
 | dic (hs:(List Int × List Int->Int) × Option Nat) (kvs:List ((List Int × List Int) × D × D))
abbrev Mem:=Addr->Option MO
def l9(M:Mem)(a:Addr)(o:MO):Mem:=λb=>if b=a then some o else M b
theorem f7:l9 M a o a=some o:=by simp[if_pos,l9]
theorem i7(h:b≠a):l9 M a o b=M b:=by unfold l9;rw[if_neg h]
def O1:l9 (l9 M a o) a u=l9 M a u:=by funext b;unfold l9;by_cases h:b=a<;>simp[h]
structure X6(K:a1C)(H:Hp)(ys:List (Str × V))(fs:List (Str × D)):Prop where
 names:ys.map (·.1)=fs.map (·.1)
 has:HasL K H (ys.map (·.2)) (fs.map (·.2))
def X6.mono{K:a1C}{H H':Hp}(k:KT H H'){ys:List (Str × V)}{fs:List (Str × D)}(h:X6 K H ys fs):X6 K H' ys fs:=⟨h.names,h.has.mono k⟩
theorem X6.mono0{K:a1C}{H H':Hp}(k:KT0 H H'){ys:List (Str × V)}{fs:List (Str × D)}(h:X6 K H ys fs):X6 K H' ys fs:=⟨h.names,h.has.mono0 k⟩
structure zN(K:a1C)(H:Hp)(xs:List ((List Int × List Int) × Addr × V))(kvs:List ((List Int × List Int) × D × D)):Prop where
 keys:xs.map (·.1)=kvs.map (·.1)
 kd:HasL K H (xs.map λx=>V.ref x.2.1) (kvs.map (·.2.1))
 vd:HasL K H (xs.map (·.2.2)) (kvs.map (·.2.2))
def zN.mono{K:a1C}{H H':Hp}(k:KT H H'){xs:List ((List Int × List Int) × Addr × V)}{kvs:List ((List Int × List Int) × D × D)}(h:zN K H xs kvs):zN K H' xs kvs:=⟨h.keys,h.kd.mono k,h.vd.mono k⟩
theorem zN.mono0{K:a1C}{H H':Hp}(k:KT0 H H'){xs:List ((List Int × List Int) × Addr × V)}{kvs:List ((List Int × List Int) × D × D)}(h:zN K H xs kvs):zN K H' xs kvs:=⟨h.keys,h.kd.mono0 k,h.vd.mono0 k⟩
def MOk(K:a1C)(H:Hp)(a:Addr):MO->Prop
 | .lst ds=>∃ xs,H a=some (.lst xs)/\HasL K H xs ds
 | .ins c fs=>∃ C dx ys,H a=some (.ins C dx ys)/\X6 K H ys fs/\PySem.W.nsIn K mainGlobals c=some (some<|.ref C)
 | .dic hs kvs=>∃ xs,H a=some (.dT hs xs)/\zN K H xs kvs
def l7(K:a1C)(H:Hp)(M:Mem):Prop:=∀ a o,M a=some o->MOk K H a o
section
variable {K:a1C} {H H':Hp} {M:Mem}
def l7.fresh(h:l7 K H M)(e:H p=none):M p=none:=by
 cases q:M p with
 | none=>rfl
 | some o =>
  cases o with
  | lst ds=>obtain⟨xs,z,_⟩:=h p _ q;rw[e]at z;cases z
  | ins C fs=>obtain⟨_,dx,ys,z,_⟩:=h p _ q;rw[e]at z;cases z
  | dic hs kvs=>obtain⟨xs,z,_⟩:=h p _ q;rw[e]at z;cases z
def l7.alloc(h:l7 K H M)(e:H p=none):l7 K (upd H p u) M:=λa o m=>by
 have k:KT H (upd H p u):=KT.alloc e;cases o with
 | lst ds =>obtain⟨xs,z,l⟩:=h a _ m;have hn:=C4 z e;exact⟨xs,by rw[g8 hn];exact z,l.mono k⟩
 | ins C fs =>obtain⟨C0,dx,ys,z,l,hc⟩:=h a _ m;have hn:=C4 z e;exact⟨C0,dx,ys,by rw[g8 hn];exact z,l.mono k,hc⟩
 | dic hs kvs =>obtain⟨xs,z,l⟩:=h a _ m;have hn:=C4 z e;exact⟨xs,by rw[g8 hn];exact z,l.mono k⟩
def l7.new(h:l7 K H M)(e:H p=none)(l:HasL K H xs ds):l7 K (upd H p<|.lst xs) (l9 M p<|.lst ds):=λa o m=>by
 by_cases q:a=p
 ·subst q;rw[f7]at m;cases m;exact⟨xs,i5,l.mono<|KT.alloc e⟩
 ·rw[i7 q]at m;exact h.alloc e a o m
def l7.write(h:l7 K H M)(e:H p=some (.lst xs))(l:HasL K H ys ds):l7 K (upd H p<|.lst ys) (l9 M p<|.lst ds):=λa o m=>by
 have k:KT H (upd H p<|.lst ys):=KT.write e;by_cases q:a=p
 ·subst q;rw[f7]at m;cases m;exact⟨ys,i5,l.mono k⟩
 ·rw[i7 q]at m
  cases o with
  | lst es =>obtain⟨zs,z,l⟩:=h a _ m;exact⟨zs,by rw[g8 q];exact z,l.mono k⟩
  | ins C fs =>obtain⟨C0,dx,zs,z,l,hc⟩:=h a _ m;exact⟨C0,dx,zs,by rw[g8 q];exact z,l.mono k,hc⟩
  | dic hs kvs =>obtain⟨zs,z,l⟩:=h a _ m;exact⟨zs,by rw[g8 q];exact z,l.mono k⟩
def l7.lst(h:l7 K H M)(m:M a=some (.lst ds)):∃ xs,H a=some (.lst xs)/\HasL K H xs ds:=h a _ m
end
abbrev Ev:=List<|Option D
structure u6(K:a1C)(H:Hp)(σ:St)(e:Ev):Prop where
 len:σ.length=e.length
 has:∀(i:Nat) (d:D),e[i]? = some (some d)->∃ v,σ[i]? = some (some v)/\Has K H v d
section
variable {K:a1C} {H H':Hp} {σ:St} {e:Ev}
def u6.mono(k:KT H H')(h:u6 K H σ e):u6 K H' σ e:=⟨h.len,λi d z=>let ⟨v,a,b⟩:=h.has i d z;⟨v,a,b.mono k⟩⟩
theorem u6.set(h:u6 K H σ e)(r:Has K H v d)(i:Nat):u6 K H (σ.set i<|some v) (e.set i<|some d):=by
 refine⟨by simp[h.len],λj x z=>?_⟩;rw[a5n]at z ⊢;by_cases q:i=j
 ·subst q
  rw[if_pos rfl]at z ⊢;by_cases l:i<e.length
  ·rw[if_pos l]at z;rw[if_pos<|by rw[h.len];exact l];cases z;exact⟨v,rfl,r⟩
  ·rw[if_neg l]at z;cases z
 ·rw[if_neg q]at z ⊢;exact h.has j x z
end
def A4:List Str->List D->Ev
 | [],ds=>ds.map some
 | _ :: N,d :: ds=>some d :: A4 N ds
 | _ :: N,[]=>none :: A4 N []
theorem gY:∀ N ds,A4 N ds=ds.map some++a16 (N.length - ds.length) none
 | [],ds=>by simp[A4]
 | a :: N,d :: ds=>by rw[A4,gY N ds];simp
 | a :: N,[]=>by rw[A4,gY N []];simp[a2G]
def u6.start0{K:a1C}{H:Hp}{N:List Str}{vs:List V}{ds:List D}(h:HasL K H vs ds):u6 K H (L2.start N vs) (A4 N ds):=by
 have hl:=h.length;rw[gY];refine⟨by simp[L2.start,hl],λi d z=>?_⟩;unfold L2.start;rw[a3W]at z ⊢;simp only[a1H]at z ⊢;rw[hl];by_cases q:i<ds.length
 ·rw[if_pos q]at z ⊢
  rw[a1S]at z ⊢;cases e:ds[i]? with
  | none=>rw[e]at z;cases z
  | some x =>
   rw[e]at z;have z':x=d:=by simpa using z
   subst z';obtain⟨v,a,b⟩:=h.get e;exact⟨v,by rw[a];rfl,b⟩
 ·rw[if_neg q]at z;rw[a2I]at z;split at z<;>cases z
abbrev DK:=D->Mem->Prop
abbrev DTE:=Ev->Mem->DK->Prop
abbrev DTT:=Ev->Mem->(Bool->Mem->Prop)->Prop
abbrev DTA:=Ev->Mem->(List D->Mem->Prop)->Prop
structure gg where
 nx:Ev->Mem->Prop
 rt:DK
 bk:Ev->Mem->Prop:=λ_ _=>False
 ct:Ev->Mem->Prop:=λ_ _=>False
abbrev DTS:=gg->Ev->Mem->Prop
def ik(K:a1C)(H:Hp)(R:DK)(Q:VK):Prop:=∀ d M',R d M'->∀ v H',KT H H'->l7 K H' M'->Has K H' v d->Q v H'
def Lw(K:a1C)(H:Hp)(R:Bool->Mem->Prop)(Q:Bool->Hp->Prop):Prop:=∀ b M',R b M'->∀ H',KT H H'->l7 K H' M'->Q b H'
def ZM(K:a1C)(H:Hp)(R:List D->Mem->Prop)(Q:List V->Hp->Prop):Prop:=∀ ds M',R ds M'->∀ vs H',KT H H'->l7 K H' M'->HasL K H' vs ds->Q vs H'
def xQ(K:a1C)(H:Hp)(R:Ev->Mem->Prop)(Q:St->Hp->Prop):Prop:=∀ e M',R e M'->∀ σ H',KT H H'->l7 K H' M'->u6 K H' σ e->Q σ H'
structure Fit(K:a1C)(H:Hp)(F:gg)(E:ip):Prop where
 nx:xQ K H F.nx E.nx
 rt:ik K H F.rt E.rt
 bk:xQ K H F.bk E.bk
 ct:xQ K H F.ct E.ct
section
variable {K:a1C} {H H':Hp}
def ik.mono(h:ik K H R Q)(k:KT H H'):ik K H' R Q:=λd M r v H2 k2 a b=>h d M r v H2 (k.trans k2) a b
def Lw.mono(h:Lw K H R Q)(k:KT H H'):Lw K H' R Q:=λd M r H2 k2 a=>h d M r H2 (k.trans k2) a
def xQ.mono(h:xQ K H R Q)(k:KT H H'):xQ K H' R Q:=λd M r v H2 k2 a b=>h d M r v H2 (k.trans k2) a b
def Fit.mono(h:Fit K H F E)(k:KT H H'):Fit K H' F E:=⟨h.nx.mono k,h.rt.mono k,h.bk.mono k,h.ct.mono k⟩
end
def up(K:a1C)(t:DTE):TE:=λσ H Q=>∃ e M R,u6 K H σ e/\l7 K H M/\t e M R/\ik K H R Q
def upT(K:a1C)(t:DTT):TT:=λσ H Q=>∃ e M R,u6 K H σ e/\l7 K H M/\t e M R/\Lw K H R Q
def upA(K:a1C)(t:DTA):TA:=λσ H Q=>∃ e M R,u6 K H σ e/\l7 K H M/\t e M R/\ZM K H R Q
def upS(K:a1C)(t:DTS):TS:=λE σ H=>∃ e M F,u6 K H σ e/\l7 K H M/\t F e M/\Fit K H F E
abbrev DPE(X:Cx)(x:Expr)(t:DTE):Prop:=PE X x<|up X.K t
abbrev DPT(X:Cx)(x:Expr)(t:DTT):Prop:=PT X x<|upT X.K t
abbrev DPW(X:Cx)(x:Expr)(t:DTT):Prop:=PW X x<|upT X.K t
abbrev DPA(X:Cx)(x:List Expr)(t:DTA):Prop:=PA X x<|upA X.K t
abbrev DPS(X:Cx)(x:Stmt)(t:DTS):Prop:=PS X x<|upS X.K t
abbrev ZO(X:Cx)(x:List Stmt)(t:DTS):Prop:=PSs X x<|upS X.K t
structure JE(X:Cx)(x:Expr)(t:DTE):Prop where
 out:DPE X x t
structure JT(X:Cx)(x:Expr)(t:DTT):Prop where
 out:DPT X x t
structure JW(X:Cx)(x:Expr)(t:DTT):Prop where
 out:DPW X x t
structure JA(X:Cx)(x:List Expr)(t:DTA):Prop where
 out:DPA X x t
structure JS(X:Cx)(x:Stmt)(t:DTS):Prop where
 out:DPS X x t
structure JSs(X:Cx)(x:List Stmt)(t:DTS):Prop where
 out:ZO X x t
section
variable {X:Cx} {ta tb tc:DTE} {pos:Pos}
def oo:Option (Option α)->(α->Prop)->Prop
 | some (some a),k=>k a
 | _,_=>False
def XG(h:oo o k):∃ a,o=some (some a)/\k a:=by
 rcases o with _|_|a
 ·exact h.elim
 ·exact h.elim
 ·exact⟨a,rfl,h⟩
def ox:Option α->(α->Prop)->Prop
 | some a,k=>k a
 | none,_=>False
def wm(h:ox o k):∃ a,o=some a/\k a:=by
 cases o with
 | some a=>exact⟨a,rfl,h⟩
 | none=>exact h.elim
def BlK(x:D)(M:Mem)(Q:Bool->Mem->Prop):Prop:=match x with
 | .bl k=>Q k M
 | _=>False
def BlK.ex(h:BlK x M Q):∃ k,x = .bl k/\Q k M:=by
 cases x with
 | bl k=>exact⟨k,rfl,h⟩
 | _=>exact h.elim
def IfK(c:Bool)(A B:Prop):Prop:=(c=true->A)/\(c=false->B)
def fP(i:Nat):DTE:=λe M R=>oo e[i]? λd=>R d M
def dC(d:D):DTE:=λ_ M R=>R d M
def b7(i:Nat)(hN:X.N[i]? = some x:=by rfl)(hv:Vis X.env.scope x:=by first|exact Or.inl rfl|exact Or.inr (Or.inl rfl)|exact Or.inr<|Or.inr rfl)(hd:(x == ("__debug__" : Str))=false:=by decide)
  (hcd:(x == ("__classdict__" : Str))=false:=by decide):JE X (.Name x pos) (fP i):=⟨(TR hN hv hd hcd).imp (by
  rintro σ H Q ⟨e,M,R,ok,am,t,f⟩
  obtain⟨d,z,r⟩:=XG t
  obtain⟨v,h1,h2⟩:=ok.has i d z
  exact⟨v,h1,f d M r v H (KT.refl H) am h2⟩)⟩
def bz(h:PE X a (tC v))(r:∀ H,Has X.K H v d):DPE X a (dC d) :=
 h.imp (by rintro σ H Q ⟨e,M,R,ok,am,z,f⟩;exact f d M z v H (KT.refl H) am<|r H)
def c5{i j pos}:JE X (.Constant (.int i) j pos) (dC<|.int i):=⟨bz TZ λ_=>.int i⟩
def jb{b j pos}:JE X (.Constant (.bool b) j pos) (dC<|.bl b):=⟨bz XB λ_=>.bl b⟩
def A8{j pos}:JE X (.Constant .none j pos) (dC .non):=⟨bz TY λ_=>.non⟩
def f9{x j pos}:JE X (.Constant (.str x) j pos) (dC<|.str x):=⟨bz TU λ_=>.str x⟩
def Vz(K:a1C)(v:V)(d:D):Prop:=∀ H,Has K H v d
def Vf(hg:Gl X x)(hm:X.mg x=some u)(r:l8 v u)(hk:Vz X.K v d)(hd:(x == ("__debug__" : Str))=false:=by decide):DPE X (.Name x pos) (dC d) :=
 bz (rZ hg hm r hd) hk
abbrev DR2:=D->D->Mem->DK->Prop
def upR(K:a1C)(g:DR2):R2:=λx y H Q=>∃ dx dy M R,Has K H x dx/\Has K H y dy/\l7 K H M/\g dx dy M R/\ik K H R Q
def DOp(X:Cx)(f:Value->Value->Sem Value)(g:DR2):Prop:=OpR X f<|upR X.K g
def dOp(g:DR2)(ta tb:DTE):DTE:=λe M R=>ta e M λx M1=>tb e M1 λy M2=>g x y M2 R
def qF(h:up X.K (dOp g ta tb) σ H Q):tOp (upR X.K g) (up X.K ta) (up X.K tb) σ H Q:=by obtain⟨e,M,R,ok,am,t,f⟩:=h;refine⟨e,M,_,ok,am,t,λx M1 h1 v H1 k1 a1 r1=>?_⟩;refine⟨e,M1,_,ok.mono k1,a1,h1,λy M2 h2 u H2 k2 a2 r2=>?_⟩;exact⟨x,y,M2,R,r1.mono k2,r2,a2,h2,f.mono<|k1.trans k2⟩
def e6(ho:DOp X (binaryOp op) g)(ha:JE X a ta)(hb:JE X b tb):JE X (.BinOp a op b pos) (dOp g ta tb):=⟨have ha:=ha.out;have hb:=hb.out;(Rw ho ha hb).imp λ_ _ _ h=>qF h⟩
def UI(ho:DOp X (compareOp op) g)(ha:JE X a ta)(hb:JE X b tb)(hm:behindInMarks op b=false):JE X (.Compare a [op] [b] pos) (dOp g ta tb):=⟨have ha:=ha.out;have hb:=hb.out;(NQ ho ha hb hm).imp λ_ _ _ h=>qF h⟩
def qv(t:DTE):DTT:=λe M R=>t e M λx M'=>BlK x M' R
def dc{K:a1C}{H:Hp}{R:Bool->Mem->Prop}{Q:Bool->Hp->Prop}(f:Lw K H R Q):ik K H (λx M'=>BlK x M' R) (λx H'=>∃ k,x = .bl k/\Q k H'):=by intro d M' h0 v H' kt am h;obtain⟨k,rfl,r⟩:=h0.ex;cases h;exact⟨k,rfl,f k M' r H' kt am⟩
def OJ(ho:DOp X (compareOp op) g)(ha:JE X a ta)(hb:JE X b tb)(hm:behindInMarks op b=false):JT X (.Compare a [op] [b] pos) (qv<|dOp g ta tb):=⟨have ha:=ha.out;have hb:=hb.out;(rT ho ha hb hm).imp (by rintro σ H Q ⟨e,M,R,ok,am,t,f⟩;exact qF ⟨e,M,_,ok,am,t,dc f⟩)⟩
def p7(h:JE X x t)(he:∀ whole,isTrue x X.env whole=(do let v <- whole;standAt x.pos;holding [v] (truthy v)):=by intro _;rfl):JT X x (qv t):=⟨have h:=h.out;(Ts h he).imp (by rintro σ H Q ⟨e,M,R,ok,am,t,f⟩;exact⟨e,M,_,ok,am,t,dc f⟩)⟩
def fI(f:Int->Int->D):D->D->Option D
 | .int i,.int j=>some<|f i j
 | _,_=>none
def gF(f:D->D->Option D):DR2:=λx y M R=>ox (f x y) λz=>R z M
def gI(C:Int->Int->Prop)(f:Int->Int->D):DR2:=λx y M R=>match x,y with
 | .int i,.int j=>C i j/\R (f i j) M
 | _,_=>False
def tH(h:fI f x y=some z):∃ i j,x = .int i/\y = .int j/\z=f i j:=by
 cases x with
 | int i =>
  cases y with
  | int j=>exact⟨i,j,rfl,rfl,(Option.some.inj h).symm⟩
  | _=>cases h
 | _=>cases h
def CJ(h:OpR X f (rI C g))(hg:∀ i j H,Has X.K H (g i j)<|g' i j):DOp X f (gI C g') :=
 OpR.imp h (by
  rintro x y H Q ⟨dx,dy,M,R,hx,hy,am,t,f⟩;cases dx with
  | int i =>
   cases dy with
   | int j=>cases hx;cases hy;exact⟨i,j,rfl,rfl,t.1,f _ M t.2 _ H (KT.refl H) am<|hg i j H⟩
   | _=>exact t.elim
  | _=>exact t.elim)
def nr(h:OpR X f (rI0 g))(hg:∀ i j H,Has X.K H (g i j)<|g' i j):DOp X f (gF<|fI g') :=
 OpR.imp h (by rintro x y H Q ⟨dx,dy,M,R,hx,hy,am,t,f⟩;obtain⟨z,e,r⟩:=wm t;obtain⟨i,j,e1,e2,e3⟩:=tH e;subst e1;subst e2;subst e3;cases hx;cases hy;exact⟨i,j,rfl,rfl,f _ M r _ H (KT.refl H) am<|hg i j H⟩)
def F0:DOp X (binaryOp .Add) (gF<|fI λi j=>.int<|i+j):=nr Ui λ_ _ _=>.int _
def J7:DOp X (binaryOp .Sub) (gF<|fI λi j=>.int<|i - j):=nr Ud λ_ _ _=>.int _
def gO:DOp X (compareOp .Lt) (gF<|fI λi j=>.bl<|decide (i<j)):=nr XC λ_ _ _=>.bl _
def cE:DOp X (compareOp .Gt) (gF<|fI λi j=>.bl<|decide (j<i)):=nr XD λ_ _ _=>.bl _
def IP:DOp X (compareOp .GtE) (gF<|fI λi j=>.bl<|decide (j<=i)):=nr XE λ_ _ _=>.bl _
def iX:DOp X (binaryOp .Mod) (gI (λ_ j=>0<j) λi j=>.int<|i % j):=CJ Uh λ_ _ _=>.int _
def qh:DOp X (binaryOp .Pow) (gI VG λi j=>.int<|i ^ j.toNat):=CJ Ug λ_ _ _=>.int _
def gU(f:Int->D):D->Mem->DK->Prop:=λx M R=>match x with
 | .int i=>R (f i) M
 | _=>False
def dUn(g:D->Mem->DK->Prop)(ta:DTE):DTE:=λe M R=>ta e M λx M1=>g x M1 R
def R0(ha:JE X a ta):JE X (.UnaryOp .USub a pos) (dUn (gU λi=>.int (-i)) ta):=⟨have ha:=ha.out;(Xy SH ha).imp (by rintro σ H Q ⟨e,M,R,ok,am,t,f⟩;exact⟨e,M,_,ok,am,t,λx M1 r v H1 k1 a1 r1=>by
  cases x with
  | int i=>cases r1;exact⟨i,rfl,f _ M1 r _ H1 k1 a1<|.int _⟩
  | _=>exact r.elim⟩)⟩
def Yv(t u:DTT):DTT:=λe M R=>t e M λc M1=>IfK c (u e M1 R)<|R false M1
def dOr(t u:DTT):DTT:=λe M R=>t e M λc M1=>IfK c (R true M1)<|u e M1 R
def Ym(t:DTT):DTT:=λe M R=>t e M λc M1=>R (!c) M1
def N0(ha:JT X a tA):JW X (.BoolOp .And [a] pos) tA:=⟨have ha:=ha.out;NC ha⟩
def Q9(ha:JT X a tA):JW X (.BoolOp .Or [a] pos) tA:=⟨have ha:=ha.out;Tp ha⟩
def R3(ha:JT X a tA)(hb:JW X (.BoolOp .And (b :: rest) pos) tB'):JW X (.BoolOp .And (a :: b :: rest) pos) (Yv tA tB'):=⟨have ha:=ha.out;have hb:=hb.out;(Tq ha hb).imp (by rintro σ H Q ⟨e,M,R,ok,am,t,f⟩;exact⟨e,M,_,ok,am,t,λk M1 h1 H1 k1 a1=>by
  cases k with
  | true=>exact⟨e,M1,R,ok.mono k1,a1,h1.1 rfl,f.mono k1⟩
  | false=>exact f false M1 (h1.2 rfl) H1 k1 a1⟩)⟩
def T8(ha:JT X a tA)(hb:JW X (.BoolOp .Or (b :: rest) pos) tB'):JW X (.BoolOp .Or (a :: b :: rest) pos) (dOr tA tB'):=⟨have ha:=ha.out;have hb:=hb.out;(Xw ha hb).imp (by rintro σ H Q ⟨e,M,R,ok,am,t,f⟩;exact⟨e,M,_,ok,am,t,λk M1 h1 H1 k1 a1=>by
  cases k with
  | true=>exact f true M1 (h1.1 rfl) H1 k1 a1
  | false=>exact⟨e,M1,R,ok.mono k1,a1,h1.2 rfl,f.mono k1⟩⟩)⟩
def O4(ha:JT X a tA):JT X (.UnaryOp .Not a pos) (Ym tA):=⟨have ha:=ha.out;(Tt ha).imp (by rintro σ H Q ⟨e,M,R,ok,am,t,f⟩;exact⟨e,M,_,ok,am,t,λk M1 h1 H1 k1 a1=>f (!k) M1 h1 H1 k1 a1⟩)⟩
def F5(h:JW X x t):JT X x t:=⟨have h:=h.out;PW.pt h⟩
def Sk(ta tb:DTE):DTE:=λe M R=>ta e M λx M1=>BlK x M1 λc M1=>IfK c (tb e M1 R)<|R (.bl false) M1
def Yl(ta tb:DTE):DTE:=λe M R=>ta e M λx M1=>BlK x M1 λc M1=>IfK c (R (.bl true) M1)<|tb e M1 R
def Se(ta:DTE):DTE:=λe M R=>ta e M λx M1=>BlK x M1 λc M1=>R (.bl<|!c) M1
def kC{op}(h:JE X a t):JE X (.BoolOp op [a] pos) t:=⟨have h:=h.out;TV h⟩
def Cf(ha:JE X a ta)(hb:JE X (.BoolOp .And (b :: rest) pos) tb):JE X (.BoolOp .And (a :: b :: rest) pos) (Sk ta tb):=⟨have ha:=ha.out;have hb:=hb.out;(Uc ha hb).imp (by rintro σ H Q ⟨e,M,R,ok,am,t,f⟩;exact⟨e,M,_,ok,am,t,λx M1 h0 v H1 k1 a1 r1=>by
  obtain⟨k,rfl,h1⟩:=h0.ex;cases r1;refine⟨k,rfl,?_⟩;cases k with
  | true=>exact⟨e,M1,R,ok.mono k1,a1,h1.1 rfl,f.mono k1⟩
  | false=>exact f _ M1 (h1.2 rfl) _ H1 k1 a1<|.bl _⟩)⟩
def Jm(ha:JE X a ta)(hb:JE X (.BoolOp .Or (b :: rest) pos) tb):JE X (.BoolOp .Or (a :: b :: rest) pos) (Yl ta tb):=⟨have ha:=ha.out;have hb:=hb.out;(Xz ha hb).imp (by rintro σ H Q ⟨e,M,R,ok,am,t,f⟩;exact⟨e,M,_,ok,am,t,λx M1 h0 v H1 k1 a1 r1=>by
  obtain⟨k,rfl,h1⟩:=h0.ex;cases r1;refine⟨k,rfl,?_⟩;cases k with
  | true=>exact f _ M1 (h1.1 rfl) _ H1 k1 a1<|.bl _
  | false=>exact⟨e,M1,R,ok.mono k1,a1,h1.2 rfl,f.mono k1⟩⟩)⟩
def OI(ha:JE X a ta):JE X (.UnaryOp .Not a pos) (Se ta):=⟨have ha:=ha.out;(TX ha).imp (by rintro σ H Q ⟨e,M,R,ok,am,t,f⟩;exact⟨e,M,_,ok,am,t,λx M1 h0 v H1 k1 a1 r1=>by obtain⟨k,rfl,h1⟩:=h0.ex;cases r1;exact⟨k,rfl,f _ M1 h1 _ H1 k1 a1<|.bl _⟩⟩)⟩
def dIf(t:DTT)(ta tb:DTE):DTE:=λe M R=>t e M λc M1=>IfK c (ta e M1 R)<|tb e M1 R
def F7(hc:JT X c tA)(ha:JE X a ta)(hb:JE X b tb):JE X (.IfExp c a b pos) (dIf tA ta tb):=⟨have hc:=hc.out;have ha:=ha.out;have hb:=hb.out;(Iz hc ha hb).imp (by rintro σ H Q ⟨e,M,R,ok,am,t,f⟩;exact⟨e,M,_,ok,am,t,λk M1 h1 H1 k1 a1=>by
  cases k with
  | true=>exact⟨e,M1,R,ok.mono k1,a1,h1.1 rfl,f.mono k1⟩
  | false=>exact⟨e,M1,R,ok.mono k1,a1,h1.2 rfl,f.mono k1⟩⟩)⟩
def Yn:DTA:=λ_ M R=>R [] M
def Si(ta:DTE)(tr:DTA):DTA:=λe M R=>ta e M λx M1=>tr e M1 λxs M2=>R (x :: xs) M2
variable {es:List Expr} {tr:DTA}
def b8:JA X [] Yn:=⟨Q7.imp<|by rintro σ H Q ⟨e,M,R,ok,am,t,f⟩;exact f [] M t [] H (KT.refl H) am .nil⟩
def a9(ha:JE X a ta)(hr:JA X es tr)(hs:starEach (a :: es) X.env=(false,eval a X.env) :: starEach es X.env:=by rfl):JA X (a :: es) (Si ta tr):=⟨have ha:=ha.out;have hr:=hr.out;(C5 ha hr hs).imp (by rintro σ H Q ⟨e,M,R,ok,am,t,f⟩;exact⟨e,M,_,ok,am,t,λx M1 h1 v H1 k1 a1 r1 =>
  ⟨e,M1,_,ok.mono k1,a1,h1,λxs M2 h2 vs H2 k2 a2 r2=>f _ M2 h2 _ H2 (k1.trans k2) a2<|.cons (r1.mono k2) r2⟩⟩)⟩
def Yg(t:DTA):DTE:=λe M R=>t e M λds M1=>ds.length<=sizeLine/\R (.tup ds) M1
def Yo(t:DTA):DTE:=λe M R=>t e M λds M1=>ds.length<=sizeLine/\∀ p,M1 p=none->R (.ref p) (l9 M1 p<|.lst ds)
def g6{x1}(h:JA X es tr):JE X (.Tuple es x1 pos) (Yg tr):=⟨have h:=h.out;(Iu h).imp (by rintro σ H Q ⟨e,M,R,ok,am,t,f⟩;exact⟨e,M,_,ok,am,t,λds M1 ⟨hz,h1⟩ vs H1 k1 a1 r1=>by refine⟨by rw[r1.length];exact hz,λp hp=>?_⟩;have k2:KT H1 (upd H1 p<|.tup vs):=KT.alloc hp;exact f _ M1 h1 _ _ (k1.trans k2) (a1.alloc hp)<|.tup (SqT.of i5)<|r1.mono k2⟩)⟩
def F6(h:JA X es tr):JE X (.List es pos) (Yo tr):=⟨have h:=h.out;(Iw h).imp (by rintro σ H Q ⟨e,M,R,ok,am,t,f⟩;exact⟨e,M,_,ok,am,t,λds M1 ⟨hz,h1⟩ vs H1 k1 a1 r1=>by refine⟨by rw[r1.length];exact hz,λp hp=>?_⟩;have k2:KT H1 (upd H1 p<|.lst vs):=KT.alloc hp;exact f _ _ (h1 p<|a1.fresh hp) _ _ (k1.trans k2) (a1.new hp r1)<|.ref p⟩)⟩
def HasL.at{K:a1C}{H:Hp}{vs:List V}{ds:List D}(h:HasL K H vs ds){i:Int}{z:D}(e:atI ds i=some z):∃ v,atI vs i=some v/\Has K H v z:=by
 unfold atI at e ⊢;rw[h.length];cases q:ixN ds.length i with
 | none=>rw[q]at e;cases e
 | some j =>rw[q]at e;exact h.get e
def DIx(X:Cx)(g:DR2):Prop:=IxR X<|upR X.K g
def XR(hr:DIx X g)(ha:JE X a ta)(hb:JE X b tb)(hs:gf b):JE X (.Subscript a b pos) (dOp g ta tb):=⟨have ha:=ha.out;have hb:=hb.out;(Iy hr ha hb hs).imp λ_ _ _ h=>qF h⟩
abbrev DXK:=Value->Mem->Prop
abbrev DSp:=List D->Mem->DK->DXK->Prop
def VB(K:a1C)(H:Hp)(Y:DXK)(E:XK):Prop:=∀ c M',Y c M'->∀ o H',KT H H'->l7 K H' M'->E c o H'
def nG(K:a1C)(sp:DSp):Sp:=λvs H Q E=>∃ ds M R Y,HasL K H vs ds/\l7 K H M/\sp ds M R Y/\ik K H R Q/\VB K H Y E
def CP(sp:DSp)(dds:List D)(Y:DXK)(t:DTA):DTE:=λe M R=>t e M λds M1=>sp (ds++dds) M1 R Y
end
def Vg(F:X7 X.prog X.w X.K X.mg X.base CX k f fd ps (nG X.K sp))(hr:C3 k X.A)(hg:Gl X x)(hm:X.mg x=some (.ref f))(hk:PySem.W.keepIn X.K (.ref f)=true)(hb:P9 X.K fd ps ds)(hd:j8 dvs ds)(hdd:∀ H,HasL X.K H dvs dds)(hx:aK CX X E)(hY:∀ H,VB X.K H Y E)
  (ha:DPA X (e :: es) t) (hdb:(x == ("__debug__" : Str))=false:=by decide) (he:starEach (e :: es) X.env=(false,eval e X.env) :: starEach es X.env:=by rfl) (hpl:(backTo pos<|starEach es X.env).any (·.1)=false:=by rfl) :
  DPE X (.Call (.Name x p) (e :: es) [] pos) (CP sp dds Y t) :=
 (BS F hr hg hm hk hb hd hx ha hdb he hpl).imp (by rintro σ H Q ⟨e,M,R,ok,am,t,f⟩;exact⟨e,M,_,ok,am,t,λxs M1 h1 vs H1 k1 a1 r1 =>
  ⟨xs++dds,M1,R,Y,r1.append<|hdd H1,a1,h1,f.mono k1,hY H1⟩⟩)
section
variable {X:Cx} {st:Stmt} {rest:List Stmt} {t u:DTS} {e:Expr}
def Ku:DTS:=λF e M=>F.nx e M
def Vh(t u:DTS):DTS:=λF e M=>t { F with nx:=u F } e M
def f6:JSs X [] Ku:=⟨BR.imp<|by rintro E σ H ⟨e,M,F,ok,am,t,f⟩;exact f.nx e M t σ H (KT.refl H) am ok⟩
def b9(h1:JS X st t)(h2:JSs X rest u):JSs X (st :: rest) (Vh t u):=⟨have h1:=h1.out;have h2:=h2.out;(mq h1 h2).imp (by rintro E σ H ⟨e,M,F,ok,am,t,f⟩;exact⟨e,M,{ F with nx:=u F },ok,am,t,⟨λe' M' h σ' H' k a o=>⟨e',M',F,o,a,h,f.mono k⟩,f.rt,f.bk,f.ct⟩⟩)⟩
def c6(h1:JS X st t):JSs X [st] t:=⟨have h1:=h1.out;BQ h1⟩
def Sh(te:DTE):DTS:=λF e M=>te e M λ_ M1=>F.nx e M1
def v9(he:JE X e te)(hs:swapsWith e none pos.line X.env=pure false:=by rfl):JS X (.Expr e pos) (Sh te):=⟨have he:=he.out;(NF he hs).imp (by rintro E σ H ⟨e,M,F,ok,am,t,f⟩;exact⟨e,M,_,ok,am,t,λd M1 h1 v H1 k1 a1 r1=>f.nx e M1 h1 σ H1 k1 a1<|ok.mono k1⟩)⟩
def Vi(te:DTE):DTS:=λF e M=>te e M F.rt
def c8(he:JE X e te):JS X (.Return (some e) pos) (Vi te):=⟨have he:=he.out;(Ik he).imp (by rintro E σ H ⟨e,M,F,ok,am,t,f⟩;exact⟨e,M,_,ok,am,t,f.rt⟩)⟩
def Pf(c:DTT)(t u:DTS):DTS:=λF e M=>c e M λb M1=>IfK b (t F e M1)<|u F e M1
def g7(hc:JT X c tc)(ha:JSs X a t)(hb:JSs X b u):JS X (.If c a b pos) (Pf tc t u):=⟨have hc:=hc.out;have ha:=ha.out;have hb:=hb.out;(Im hc ha hb).imp (by rintro E σ H ⟨e,M,F,ok,am,t,f⟩;exact⟨e,M,_,ok,am,t,λk M1 h1 H1 k1 a1=>by
  cases k with
  | true=>exact⟨e,M1,F,ok.mono k1,a1,h1.1 rfl,f.mono k1⟩
  | false=>exact⟨e,M1,F,ok.mono k1,a1,h1.2 rfl,f.mono k1⟩⟩)⟩
def Kv:DTS:=λ_ _ _=>False
def m6:JS X st Kv:=⟨Il.imp<|by rintro E σ H ⟨_,_,_,_,_,t,_⟩;exact t⟩
abbrev DTG:=D->Ev->Mem->(Ev->Mem->Prop)->Prop
abbrev pe:=List D->Ev->Mem->(Ev->Mem->Prop)->Prop
def upG(K:a1C)(g:DTG):TG:=λv σ H Q=>∃ d e M R,Has K H v d/\u6 K H σ e/\l7 K H M/\g d e M R/\xQ K H R Q
def YR(K:a1C)(g:pe):TGs:=λvs σ H Q=>∃ ds e M R,HasL K H vs ds/\u6 K H σ e/\l7 K H M/\g ds e M R/\xQ K H R Q
abbrev DPG(X:Cx)(x:Expr)(g:DTG):Prop:=PG X x<|upG X.K g
abbrev ZP(X:Cx)(x:List Expr)(g:pe):Prop:=PGs X x<|YR X.K g
structure JG(X:Cx)(x:Expr)(g:DTG):Prop where
 out:DPG X x g
structure JGs(X:Cx)(x:List Expr)(g:pe):Prop where
 out:ZP X x g
def gZ(i:Nat):DTG:=λd e M R=>R (e.set i<|some d) M
def Jl(hN:X.N.Nodup)(hi:X.N[i]? = some x)(hx:Loc X.env.scope x)(hf:X.fn x=true\/X.env.scope.names.lookup x=some .local:=by rw[10]):JG X (.Name x pos) (gZ i):=⟨PG.imp (NM hN hi hx hf)<|by rintro v σ H Q ⟨d,e,M,R,r,ok,am,g,f⟩;exact f _ M g _ H (KT.refl H) am<|ok.set r i⟩
def RV:pe:=λds e M R=>match ds with
 | []=>R e M
 | _=>False
def Ko(t:DTG)(u:pe):pe:=λds e M R=>match ds with
 | d :: r=>t d e M λe' M'=>u r e' M' R
 | []=>False
def g9:JGs X [] RV:=⟨PGs.imp NK (by
 rintro v σ H Q ⟨ds,e,M,R,r,ok,am,g,f⟩;cases r with
 | nil=>exact⟨rfl,f e M g σ H (KT.refl H) am ok⟩
 | cons _ _=>exact g.elim)⟩
end
section
variable {X:Cx} {t u:DTS} {e:Expr} {pos:Pos}
def c7{x:Expr}{xs:List Expr}{t:DTG}{u:pe}(h1:JG X x t)(h2:JGs X xs u)
  (hs:(assignEach (x :: xs) X.env).map (·.2)=assign x X.env :: (assignEach xs X.env).map (·.2):=by rfl):JGs X (x :: xs) (Ko t u):=⟨have h1:=h1.out;have h2:=h2.out;PGs.imp (Ir h1 h2 hs) (by
  rintro vs σ H Q ⟨ds,e,M,R,r,ok,am,g,f⟩
  cases r with
  | nil=>exact g.elim
  | cons r rr=>exact⟨_,_,rfl,_,e,M,_,r,ok,am,g,λe1 M1 h1 σ1 H1 k1 a1 ok1=>⟨_,e1,M1,R,rr.mono k1,ok1,a1,h1,f.mono k1⟩⟩)⟩
def jj(n:Nat)(t:pe):DTG:=λd e M R=>match d with
 | .tup ds=>bif ds.length == n then t ds e M R else False
 | _=>False
def i6{xs:List Expr}{k:Nat}{t:pe}{n:Nat}(hc:X.calm=true)(h:JGs X xs t)
  (hn:(assignEach xs X.env).length=n:=by rfl) (hst:(assignEach xs X.env).findIdx? (·.1)=none:=by rfl):JG X (.Tuple xs k pos) (jj n t):=⟨have h:=h.out;PG.imp (TK hc h hn hst) (by
  rintro v σ H Q ⟨d,e,M,R,r,ok,am,g,f⟩
  cases d with
  | tup ds =>
   have hl:ds.length=n/\t ds e M R:=by
    have g:(bif ds.length == n then t ds e M R else False):=g;cases q:ds.length == n with
    | true=>rw[q]at g;exact⟨eq_of_beq q,g⟩
    | false=>rw[q]at g;exact g.elim
   cases r with
   | tup s l=>exact⟨_,_,rfl,s,by rw[l.length];exact hl.1,ds,e,M,R,l,ok,am,hl.2,f⟩
  | _=>exact g.elim)⟩
abbrev Sw:=D->D->D->Mem->(Mem->Prop)->Prop
def RH:Sw:=λo i v M R=>∃ p ds k j,o = .ref p/\i = .int k/\M p=some (.lst ds)/\ixN ds.length k=some j/\R (l9 M p<|.lst<|ds.set j v)
def RU(to ti:DTE)(t:Sw):DTG:=λd e M R=>to e M λo M1=>ti e M1 λi M2=>t o i d M2 λM3=>R e M3
def Ce(ho:JE X o to)(hi:JE X i ti)
  (ha:∀ v,assign (.Subscript o i pos) X.env v=(do
   let ov <- holding [v] (eval o X.env)
   let iv <- holding [v,ov] (eval i X.env)
   standAt pos
   holding [v,ov,iv] (setItem ov iv v)
   release [v,ov,iv] []):=by intro _;rfl):JG X (.Subscript o i pos) (RU to ti RH):=⟨have ho:=ho.out;have hi:=hi.out;PG.imp (TL ho hi GS ha) λv σ H Q ⟨d,e,M,R,r,ok,am,g,f⟩ =>
  ⟨e,M,_,ok,am,g,λx M1 h1 vo H1 k1 a1 r1=>⟨e,M1,_,ok.mono k1,a1,h1,λy M2 ⟨p,ds,k,j,e1,e2,e3,e4,h2⟩ vi H2 k2 a2 r2=>by subst e1;subst e2;cases r1;cases r2;obtain⟨xs,hx,l⟩:=a2.lst e3;have kt:=k1.trans k2;have kw:KT H2 (upd H2 p<|.lst<|xs.set j v):=KT.write hx;exact⟨p,xs,k,j,rfl,rfl,hx,by rw[l.length];exact e4,f e _ h2 σ _ (kt.trans kw) (a2.write hx<|l.set (r.mono kt) j)<|(ok.mono kt).mono kw⟩⟩⟩⟩
def KC(te:DTE)(g:DTG):DTS:=λF e M=>te e M λx M1=>g x e M1 F.nx
def j7(he:JE X x tx)(hg:JG X tg g)(hs:swapsWithSole [tg] x pos.line X.env=pure false:=by rfl)(hw:swappedStores [tg] x X.env=pure none:=by rfl)
  (h1:(assignEach [tg] X.env).map (·.2)=[assign tg X.env]:=by rfl):JS X (.Assign [tg] x pos) (KC tx g):=⟨have he:=he.out;have hg:=hg.out;(Tz he hg hs hw h1).imp (by rintro E σ H ⟨e,M,F,ok,am,t,f⟩;exact⟨e,M,_,ok,am,t,λd M1 h1 v H1 k1 a1 r1=>⟨d,e,M1,F.nx,r1,ok.mono k1,a1,h1,f.nx.mono k1⟩⟩)⟩
def OH(hN:X.N.Nodup)(hi:X.N[i]? = some x)(hx:Loc X.env.scope x)(he:JE X e tx)(hs:swapsWith e (some<|.Name x pos') pos.line X.env=pure false:=by rfl)(hf:X.fn x=true\/X.env.scope.names.lookup x=some .local:=by rw[10]):JS X (.Assign [.Name x pos'] e pos) (KC tx<|gZ i):=⟨have he:=he.out;(Tu hN hi hx he hs hf).imp (by rintro E σ H ⟨e,M,F,ok,am,t,f⟩;exact⟨e,M,_,ok,am,t,λd M1 h1 v H1 k1 a1 r1=>f.nx _ M1 h1 _ H1 k1 a1<|(ok.mono k1).set r1 i⟩)⟩
def Yk(i j:Nat)(ta:DTA):DTS:=λF e M=>ta e M λds M1=>∃ x y,ds=[x,y]/\F.nx ((e.set i<|some x).set j<|some y) M1
def kB{kt k2 pt2}(hc:X.calm=true)(hN:X.N.Nodup)(hi:X.N[i]? = some x)(hj:X.N[j]? = some y)(hij:i≠j)
  (hx:X.env.scope.names.lookup x=some .local) (hy:X.env.scope.names.lookup y=some .local) (ha:JA X [a,b] ta)
  (hw:swappedStores [.Tuple [.Name x px,.Name y py] kt pt] (.Tuple [a,b] k2 pt2) X.env=pure (some [x,y]):=by rfl)
  (hs:swapsWithSole [.Tuple [.Name x px,.Name y py] kt pt] (.Tuple [a,b] k2 pt2) pos.line X.env=pure false:=by rfl):JS X (.Assign [.Tuple [.Name x px,.Name y py] kt pt] (.Tuple [a,b] k2 pt2) pos) (Yk i j ta):=⟨have ha:=ha.out;(Tv hc hN hi hj hij hx hy ha hw hs).imp (by rintro E σ H ⟨e,M,F,ok,am,t,f⟩;exact⟨e,M,_,ok,am,t,λds M1 ⟨x,y,z,h1⟩ vs H1 k1 a1 r1=>by
  subst z
  cases r1 with
  | cons r1 rr =>
   cases rr with
   | cons r2 rr =>
    cases rr
    exact⟨_,_,rfl,f.nx _ M1 h1 _ H1 k1 a1<|((ok.mono k1).set r1 i).set r2 j⟩⟩)⟩
def Kr(c:DTT)(tb:DTS):DTS:=λF e M=>∃ W:Nat->Ev->Mem->Prop,(∃ m,W m e M)/\∀ m e M,W m e M ->
 c e M λb M1=>IfK b (tb { F with nx:=λe' M'=>∃ m',m'<m/\W m' e' M',ct:=λe' M'=>∃ m',m'<m/\W m' e' M',bk:=F.nx } e M1)<|F.nx e M1
def T6(hp:PassesOwn (model X.prog X.w) X.A X.env X.xe)(hc:JT X c tc)(hb:JSs X body tb):JS X (.While c body [] pos) (Kr tc tb):=⟨have hc:=hc.out;have hb:=hb.out;(Ij hp hc hb).imp (by
  rintro E σ H ⟨e,M,F,ok,am,⟨W,⟨m0,w0⟩,turn⟩,f⟩;refine⟨λm σ' H'=>∃ e' M',KT H H'/\u6 X.K H' σ' e'/\l7 X.K H' M'/\W m e' M',⟨m0,e,M,KT.refl H,ok,am,w0⟩,?_⟩;rintro m σ1 H1 ⟨e1,M1,k1,ok1,a1,w1⟩;refine⟨e1,M1,_,ok1,a1,turn m e1 M1 w1,λb M2 h2 H2 k2 a2=>?_⟩;cases b with
  | false=>exact f.nx e1 M2 (h2.2 rfl) σ1 H2 (k1.trans k2) a2<|ok1.mono k2
  | true =>refine⟨λσ' H'=>∃ m',m'<m/\∃ e' M',KT H H'/\u6 X.K H' σ' e'/\l7 X.K H' M'/\W m' e' M',λσ' H' h=>h,e1,M2,_,ok1.mono k2,a2,h2.1 rfl,?_⟩;have kk:=k1.trans k2;exact⟨λe' M' ⟨m',l,w⟩ σ' H' k' a' o'=>⟨m',l,e',M',kk.trans k',o',a',w⟩,f.rt.mono kk,f.nx.mono kk,λe' M' ⟨m',l,w⟩ σ' H' k' a' o'=>⟨m',l,e',M',kk.trans k',o',a',w⟩⟩)⟩
abbrev DTI:=Ev->Mem->(List D->(Mem->Prop)->Mem->Prop)->Prop
def Ys(ti:DTI)(g:DTG)(tb:DTS):DTS:=λF e M=>ti e M λds stay M1=>∃ W:Nat->Ev->Mem->Prop,W 0 e M1/\(∀ i e M,i<=ds.length->W i e M->stay M) /\
 (∀(i:Nat) (d:D) e M,ds[i]? = some d->W i e M->g d e M λe2 M2=>tb { F with nx:=W<|i+1,ct:=W<|i+1,bk:=F.nx } e2 M2)/\∀ e M,W ds.length e M->F.nx e M
def G6(lo:Int)(n:Nat):List D:=(a2c n).map λ(i:Nat)=>D.int<|lo+(i:Int)
def A2(lo:Int)(n:Nat):(G6 lo n).length=n:=by simp[G6]
def ml{lo:Int}{n i:Nat}(h:i<n):(G6 lo n)[i]? = some (D.int<|lo+(i:Int)):=by simp[G6,h]
def DE{lo:Int}{n i:Nat}{d:D}(h:(G6 lo n)[i]? = some d):i<n/\d=D.int (lo+(i:Int)):=by
 have hl:i<n:=by have:=(a1I.mp h).1;rw[A2]at this;exact this
 rw[ml hl]at h;exact⟨hl,(Option.some.inj h).symm⟩
def RT(ta:DTA):DTI:=λe M R=>ta e M λds M1=>∃ j:Int,ds=[.int j]/\-(2 ^ 62)<=j/\j<2 ^ 62/\R (G6 0 j.toNat) (λ_=>True) M1
def JN{K:a1C}{H H1 H2:Hp}{F:gg}{E:ip}{W:Nat->Ev->Mem->Prop}{g:DTG}{tb:DTS}{i:Nat}{x:V}{d:D}{σ2:St}{e2:Ev}{M2:Mem}(f:Fit K H F E)(k1:KT H H1)(k2:KT H1 H2)(ok2:u6 K H2 σ2 e2)(a2:l7 K H2 M2)(r:Has K H2 x d)
  (h:g d e2 M2 λe3 M3=>tb { F with nx:=W<|i+1,ct:=W<|i+1,bk:=F.nx } e3 M3) :
  upG K g x σ2 H2 λσ3 H3=>upS K tb { E with nx:=λσ' H'=>∃ e' M',KT H1 H'/\u6 K H' σ' e'/\l7 K H' M'/\W (i+1) e' M',ct:=λσ' H'=>∃ e' M',KT H1 H'/\u6 K H' σ' e'/\l7 K H' M'/\W (i+1) e' M',bk:=E.nx } σ3 H3:=by
 refine⟨d,e2,M2,_,r,ok2,a2,h,λe3 M3 h3 σ3 H3 k3 a3 ok3=>⟨e3,M3,_,ok3,a3,h3,?_⟩⟩
 have kk:=k1.trans<|k2.trans k3
 exact⟨λe' M' w σ' H' k' a' o'=>⟨e',M',k2.trans<|k3.trans k',o',a',w⟩,f.rt.mono kk,f.nx.mono kk,λe' M' w σ' H' k' a' o'=>⟨e',M',k2.trans<|k3.trans k',o',a',w⟩⟩
def Has.il{K:a1C}{H:Hp}{v:V}{ds:List D}(h:Has K H v (.vl ds)):∃ a xs,v = .ref a/\SqL K H a xs/\HasL K H xs ds:=by
 cases h with
 | vl h l=>exact⟨_,_,rfl,h.elim (λ⟨o,e⟩=>.inl<|.inr ⟨o,e⟩) λk=>k H,l⟩
end
section
variable {X:Cx} {p pos:Pos} {e:Expr} {es:List Expr} {t:DTA}
abbrev DRC:=List D->Mem->DK->Prop
def upC(K:a1C)(g:DRC):List V->Hp->VK->Prop:=λxs H Q=>∃ ds M R,HasL K H xs ds/\l7 K H M/\g ds M R/\ik K H R Q
def U7(X:Cx)(f:Value)(g:DRC):Prop:=p9 X f<|upC X.K g
def dCB(g:DRC)(t:DTA):DTE:=λe M R=>t e M λds M1=>g ds M1 R
def Sm(h:up X.K (dCB g t) σ H Q):tCB (upC X.K g) (upA X.K t) σ H Q:=by obtain⟨e,M,R,ok,am,t,f⟩:=h;exact⟨e,M,_,ok,am,t,λds M1 h1 vs H1 k1 a1 r1=>⟨ds,M1,R,r1,a1,h1,f.mono k1⟩⟩
def p9.imp(h:p9 X f r)(i:∀ xs H Q,r' xs H Q->r xs H Q):p9 X f r':=λpins s σ H xs us Q I rv q=>h pins s σ H xs us Q I rv<|i xs H Q q
def HasL.one{K:a1C}{H:Hp}{vs:List V}{d:D}(h:HasL K H vs [d]):∃ v,vs=[v]/\Has K H v d:=by
 cases h with
 | cons r rr=>cases rr;exact⟨_,rfl,r⟩
def HasL.two{K:a1C}{H:Hp}{vs:List V}{d d':D}(h:HasL K H vs [d,d']):∃ v v',vs=[v,v']/\Has K H v d/\Has K H v' d':=by
 cases h with
 | cons r rr=>cases rr with|cons r2 rr=>cases rr;exact⟨_,_,rfl,r,r2⟩
def Yb:DRC:=λds M R=>∃ i:Int,ds=[.int i]/\R (.int (i.natAbs:Int)) M
def cz:U7 X (.builtin "abs") Yb:=p9.imp KS (by
 rintro xs H Q ⟨ds,M,R,hl,am,⟨i,z,r⟩,f⟩;subst z;obtain⟨v,rfl,h⟩:=hl.one;cases h;have e:(if i<0 then -i else i)=i.natAbs:=by omega
 exact⟨i,rfl,by rw[e];exact f _ M r _ H (KT.refl H) am<|.int _⟩)
def XX:DRC:=λds M R=>∃ i j:Int,ds=[.int i,.int j]/\R (.int<|max i j) M
def So(hc:X.calm=true):U7 X (.builtin "max") XX:=p9.imp (Eo hc) (by
 rintro xs H Q ⟨ds,M,R,hl,am,⟨i,j,z,r⟩,f⟩;subst z;obtain⟨v,v',rfl,h,h'⟩:=hl.two;cases h;cases h';have e:(if j > i then j else i)=max i j:=by omega
 exact⟨i,j,rfl,by rw[e];exact f _ M r _ H (KT.refl H) am<|.int _⟩)
def Je(M:Mem):D->Option Nat
 | .tup ds=>some ds.length
 | .ref p=>match M p with
  | some (.lst ds)=>some ds.length
  | _=>none
 | .vl ds=>some ds.length
 | _=>none
def OT:DRC:=λds M R=>∃ d n,ds=[d]/\Je M d=some n/\R (.int (n:Int)) M
def K2:U7 X (.builtin "len") OT:=p9.imp tU (by
 rintro xs H Q ⟨ds,M,R,hl,am,⟨d,n,z,hn,r⟩,f⟩;subst z;obtain⟨v,rfl,h⟩:=hl.one;cases d with
 | tup es =>
  cases h with
  | tup s l =>cases hn;exact⟨_,_,rfl,.inr s,by rw[l.length];exact f _ M r _ H (KT.refl H) am<|.int _⟩
 | ref p =>
  cases h;unfold Je at hn;cases q:M p with
  | none=>simp[q]at hn
  | some o =>
   cases o with
   | lst es =>simp only[q]at hn;cases hn;obtain⟨ys,hy,l⟩:=am.lst q;exact⟨p,ys,rfl,.inl<|SqL.of hy,by rw[l.length];exact f _ M r _ H (KT.refl H) am<|.int _⟩
   | ins C fs=>simp[q]at hn
   | dic hs kvs=>simp[q]at hn
 | vl es =>cases hn;obtain⟨a,xs,rfl,sq,l⟩:=h.il;exact⟨a,_,rfl,.inl sq,by rw[l.length];exact f _ M r _ H (KT.refl H) am<|.int _⟩
 | _=>cases hn)
end
def R7:bootBuiltins "abs" = some (.builtin "abs"):=by rw[0]
def Lb:bootBuiltins "max" = some (.builtin "max"):=by rw[0]
def Vn:bootBuiltins "min" = some (.builtin "min"):=by rw[0]
def B3:bootBuiltins "len" = some (.builtin "len"):=by rw[0]
def m8:bootBuiltins "isinstance" = some (.builtin "isinstance"):=by rw[0]
def zy:bootBuiltins "int" = some (.type "int"):=by rw[0]
def Po:bootBuiltins "bool" = some (.type "bool"):=by rw[0]
def xE:bootBuiltins "tuple" = some (.type "tuple"):=by rw[0]
def X5:bootBuiltins "list" = some (.type "list"):=by rw[0]
def aI:bootBuiltins "reversed" = some (.type "reversed"):=by rw[0]
def O7:bootBuiltins "str" = some (.type "str"):=by rw[0]
def NW:OpR X (binaryOp .Mult) (rI IntMulOk λi j=>.int<|i*j):=opI λ_ _ _ _ _ _ _ hc q=>mul_int q hc
def CFd(i j:Int):Prop:=j≠0/\j.natAbs.log2<9000
def ID:OpR X (binaryOp .FloorDiv) (rI CFd λi j=>.int<|i.fdiv j):=opI λ_ _ _ _ _ _ _ hc q=>floordiv_int hc.1 q<|.inl<|PyProof.noPylong_of_log2 hc.2
def j0:DOp X (binaryOp .Mult) (gI IntMulOk λi j=>.int<|i*j):=CJ NW λ_ _ _=>.int _
def B7:DOp X (binaryOp .FloorDiv) (gI CFd λi j=>.int<|i.fdiv j):=CJ ID λ_ _ _=>.int _
def ixD(M:Mem):D->D->Option D
 | .tup ds,.int i=>atI ds i
 | .ref p,.int i=>match M p with
  | some (.lst ds)=>atI ds i
  | _=>none
 | .vl ds,.int i=>atI ds i
 | _,_=>none
def gIx:DR2:=λx y M R=>∃ z,ixD M x y=some z/\R z M
def IxR.or'(h:IxR X r)(h':IxR X r')(i:∀ x y H Q,g x y H Q->r x y H Q\/r' x y H Q):IxR X g:=IxR.imp (IxR.or h h') i
def RE:DIx X gIx:=IxR.or' UJ ON (by
 rintro x y H Q ⟨dx,dy,M,R,hx,hy,am,⟨z,e,r⟩,f⟩;cases dy with
 | int i =>
  cases hy;cases dx with
  | tup ds =>
   cases hx with
   | tup s l =>obtain⟨v,h1,h2⟩:=l.at<|e;exact .inl ⟨_,_,i,v,rfl,rfl,s,h1,f z M r v H (KT.refl H) am h2⟩
  | ref p =>
   cases hx;unfold ixD at e;cases q:M p with
   | none=>simp[q]at e
   | some o =>
    cases o with
    | lst ds =>simp only[q]at e;obtain⟨xs,h1,h2⟩:=am.lst q;obtain⟨v,h3,h4⟩:=h2.at e;exact .inr ⟨_,_,i,v,rfl,rfl,SqL.of h1,h3,f z M r v H (KT.refl H) am h4⟩
    | ins C fs=>simp[q]at e
    | dic hs kvs=>simp[q]at e
  | vl ds =>obtain⟨a,xs,rfl,sq,l⟩:=hx.il;obtain⟨v,h1,h2⟩:=l.at<|e;exact .inr ⟨_,_,i,v,rfl,rfl,sq,h1,f z M r v H (KT.refl H) am h2⟩
  | _=>simp[ixD]at e
 | _=>cases dx<;>simp[ixD]at e)
def W2(m:M p=some (.lst ds))(h:atI ds i=some z):ixD M (.ref p) (.int i)=some z:=by simp_all [ixD]
def isD:D->D->Option Bool
 | .bl a,.bl b=>some<|a == b
 | .non,.non=>some true
 | .bl _,.non=>some false
 | .int _,.non=>some false
 | .str _,.non=>some false
 | .ref _,.non=>some false
 | .tup _,.non=>some false
 | .vl _,.non=>some false
 | .exc _,.non=>some false
 | _,_=>none
def qm{x y:D}{b:Bool}(h:isD x y=some b):(∃ p q,x = .bl p/\y = .bl q/\b=(p == q))\/(y = .non/\((x = .non/\b=true)\/(x ≠ .non/\b=false))):=by cases x<;>cases y<;>simp[isD]at h<;>simp[h]
def Ci{K:a1C}{H:Hp}{v:V}{x:D}(h:Has K H v x)(n:x ≠ .non):v ≠ .non:=by intro e;subst e;cases h;exact n rfl
def gIs(neg:Bool):DR2:=λx y M R=>∃ b,isD x y=some b/\R (.bl<|neg.xor b) M
def XH:DOp X (compareOp .Is) (gIs false):=by
 intro pins s σ H x y v u Q I rx ry h;obtain⟨dx,dy,M,R,hx,hy,am,⟨b,e,r⟩,f⟩:=h;have fin:EP X pins σ Q (.bool b) s:=⟨.bl b,H,I,rfl,by have:=f _ M r (.bl b) H (KT.refl H) am (by simpa using Has.bl b);exact this⟩;rcases qm e with⟨p,q,rfl,rfl,rfl⟩|⟨rfl,hx'⟩
 ·cases hx;cases hy;cases rx;cases ry;exact is_bool fin
 ·cases hy;cases ry
  refine is_none_gen ?_;rw[l8.none_iff rx];rcases hx' with⟨rfl,rfl⟩|⟨n,rfl⟩
  ·cases hx;exact fin
  ·rw[decide_eq_false<|Ci hx n];exact fin
def fh:DOp X (compareOp .IsNot) (gIs true):=by
 intro pins s σ H x y v u Q I rx ry h;obtain⟨dx,dy,M,R,hx,hy,am,⟨b,e,r⟩,f⟩:=h;have fin:EP X pins σ Q (.bool<|!b) s:=⟨.bl<|!b,H,I,rfl,by have:=f _ M r (.bl<|!b) H (KT.refl H) am (by simpa using Has.bl (!b));exact this⟩;rcases qm e with⟨p,q,rfl,rfl,rfl⟩|⟨rfl,hx'⟩
 ·cases hx;cases hy;cases rx;cases ry;exact isnot_bool fin
 ·cases hy;cases ry
  refine isnot_none_gen ?_;rw[l8.none_iff rx];rcases hx' with⟨rfl,rfl⟩|⟨n,rfl⟩
  ·cases hx;exact fin
  ·rw[decide_eq_false<|Ci hx n];exact fin
mutual
inductive PyR (M:Mem):D->PyData->Prop
 | non:PyR M .non .none
 | bl (b:Bool):PyR M (.bl b) (.bool b)
 | int (i:Int):PyR M (.int i) (.int i)
 | str (x:Str):PyR M (.str x) (.str x)
 | tup {ds:List D} {ps:List PyData}:PyRL M ds ps->PyR M (.tup ds) (.tuple ps)
 | lst {p:Addr} {ds:List D} {ps:List PyData}:M p=some (.lst ds)->PyRL M ds ps->PyR M (.ref p) (.list ps)
 | vl {ds:List D} {ps:List PyData}:PyRL M ds ps->PyR M (.vl ds) (.list ps)
inductive PyRL (M:Mem):List D->List PyData->Prop
 | nil:PyRL M [] []
 | cons {d:D} {p:PyData} {ds:List D} {ps:List PyData}:PyR M d p->PyRL M ds ps->PyRL M (d :: ds) (p :: ps)
end
mutual
theorem J6{pins:List (Addr × Obj)}{s:Shared}{σ:St}{H:Hp}{M:Mem}(I:Inv X pins σ H s)(am:l7 X.K H M):∀{d:D} {p:PyData},PyR M d p->∀{v:V} {u:Value},Has X.K H v d->l8 v u->∃ as,Reads s.heap u p as
 | _,_,.non,_,_,h,r=>by cases h;cases r;exact⟨_,.none⟩
 | _,_,.bl b,_,_,h,r=>by cases h;cases r;exact⟨_,.bool b⟩
 | _,_,.int i,_,_,h,r=>by cases h;obtain⟨t,rfl⟩:=r;exact⟨_,.int i t⟩
 | _,_,.str x,_,_,h,r=>by cases h;obtain⟨t,rfl⟩:=r;exact⟨_,.str x t⟩
 | _,_,.tup l,_,_,h,r=>by
  cases h with
  | tup s' hl =>cases r;obtain⟨its,rv,⟨o,e,hc,n,hd⟩,_⟩:=I.tuple s';obtain⟨as,ra⟩:=readsL_of I am l hl rv;exact⟨as,.tuple e hc hd<|by simpa using ra⟩
 | _,_,.lst m l,_,_,h,r=>by cases h;cases r;obtain⟨xs,hx,hl⟩:=am.lst m;obtain⟨its,rv,⟨o,n,e,hc,_,hd⟩,_⟩:=I.list<|SqL.of hx;obtain⟨as,ra⟩:=readsL_of I am l hl rv;exact⟨_,.list e hc hd<|by simpa using ra⟩
 | _,_,.vl l,_,_,h,r=>by obtain⟨a,xs,rfl,sq,hl⟩:=h.il;cases r;obtain⟨its,rv,⟨o,n,e,hc,_,hd⟩,_⟩:=I.list sq;obtain⟨as,ra⟩:=readsL_of I am l hl rv;exact⟨_,.list e hc hd<|by simpa using ra⟩
theorem readsL_of{pins:List (Addr × Obj)}{s:Shared}{σ:St}{H:Hp}{M:Mem}(I:Inv X pins σ H s)(am:l7 X.K H M):∀{ds:List D} {ps:List PyData},PyRL M ds ps->∀{vs:List V} {us:List Value},HasL X.K H vs ds->j8 vs us->∃ as,ReadsAll s.heap us ps as
 | _,_,.nil,_,_,h,r=>by cases h;cases r;exact⟨_,.nil⟩
 | _,_,.cons a l,_,_,h,r=>by
  cases h with
  | cons h hl =>
   cases r with
   | cons r rl =>obtain⟨as,q⟩:=J6 I am a h r;obtain⟨bs,q2⟩:=readsL_of I am l hl rl;exact⟨_,.cons q q2⟩
end
def gEq(neg:Bool):DR2:=λx y M R=>∃ px py,PyR M x px/\PyR M y py/\SeqAt.shaped px=true/\SeqAt.shaped py=true/\R (.bl<|neg.xor<|PyData.eqv px py) M
def Zq(hu:X.A.units+64<cLine):DOp X (compareOp .Eq) (gEq false):=by intro pins s σ H x y v u Q I rx ry h;obtain⟨dx,dy,M,R,hx,hy,am,⟨px,py,p1,p2,s1,s2,r⟩,f⟩:=h;obtain⟨as,r1⟩:=J6 I am p1 hx rx;obtain⟨bs,r2⟩:=J6 I am p2 hy ry;exact eq_dataH r1 r2 s1 s2 hu ⟨.bl _,H,I,rfl,by have:=f _ M r _ H (KT.refl H) am<|.bl _;simpa using this⟩
def Zp(hu:X.A.units+64<cLine):DOp X (compareOp .NotEq) (gEq true):=by intro pins s σ H x y v u Q I rx ry h;obtain⟨dx,dy,M,R,hx,hy,am,⟨px,py,p1,p2,s1,s2,r⟩,f⟩:=h;obtain⟨as,r1⟩:=J6 I am p1 hx rx;obtain⟨bs,r2⟩:=J6 I am p2 hy ry;exact ne_dataH r1 r2 s1 s2 hu ⟨.bl _,H,I,rfl,by have:=f _ M r _ H (KT.refl H) am<|.bl _;simpa using this⟩
mutual
def pyD:D->PyData
 | .int i=>.int i
 | .str x=>.str x
 | .bl b=>.bool b
 | .tup ds=>.tuple<|pyDL ds
 | .vl ds=>.list<|pyDL ds
 | _=>.none
def pyDL:List D->List PyData
 | []=>[]
 | d :: r=>pyD d :: pyDL r
end
mutual
def cl:Nat->D->Bool
 | _,.int _=>true
 | _,.non=>true
 | _,.str x=>PyData.canLay0<|.str x
 | k+1,.tup ds=>clL k ds
 | k+1,.vl ds=>clL k ds
 | _,_=>false
def clL:Nat->List D->Bool
 | _,[]=>true
 | k,d :: r=>cl k d && clL k r
end
mutual
theorem nv{M:Mem}:∀{k:Nat} {d:D},cl k d=true->PyR M d (pyD d)/\(pyD d).canLay0=true/\(pyD d).depth<=k
 | _,.int i,_=>⟨.int i,rfl,a2e _⟩
 | _,.non,_=>⟨.non,rfl,a2e _⟩
 | 0,.tup ds,h=>by simp[cl]at h
 | k+1,.tup ds,h=>by obtain⟨a,b,c⟩:=clL_py (M:=M) (k:=k) (ds:=ds) (by simpa[cl]using h);exact⟨.tup a,by simpa[pyD,PyData.canLay0]using b,by simp only[pyD,PyData.depth];omega⟩
 | _,.str x,h=>⟨.str x,by simpa[cl,pyD]using h,a2e _⟩
 | _,.bl _,h=>by simp[cl]at h
 | _,.ref _,h=>by simp[cl]at h
 | 0,.vl ds,h=>by simp[cl]at h
 | k+1,.vl ds,h=>by obtain⟨a,b,c⟩:=clL_py (M:=M) (k:=k) (ds:=ds) (by simpa[cl]using h);exact⟨.vl a,by simpa[pyD,PyData.canLay0]using b,by simp only[pyD,PyData.depth];omega⟩
 | _,.ty _,h=>by simp[cl]at h
theorem clL_py{M:Mem}:∀{k:Nat} {ds:List D},clL k ds=true->PyRL M ds (pyDL ds)/\PyData.canLayAll0 (pyDL ds)=true/\PyData.depthAll (pyDL ds)<=k
 | _,[],_=>⟨.nil,rfl,a2e _⟩
 | k,d :: r,h=>by
  have h':cl k d=true/\clL k r=true:=by simpa[clL]using h
  obtain⟨a,b,c⟩:=nv (M:=M) h'.1;obtain⟨a2,b2,c2⟩:=clL_py (M:=M) h'.2;exact⟨.cons a a2,by simp[pyDL,PyData.canLayAll0,b,b2],by simp only[pyDL,PyData.depthAll];omega⟩
end
mutual
theorem tM:∀{k j:Nat} {x y:D},cl k x=true->cl j y=true->(PyData.eqv (pyD x) (pyD y)=true↔x=y)
 | _,_,.int i,.int j,_,_=>by simp[pyD,PyData.eqv]
 | _,_,.int i,.non,_,_=>by simp[pyD,PyData.eqv]
 | _,_,.non,.int i,_,_=>by simp[pyD,PyData.eqv]
 | _,_,.non,.non,_,_=>by simp[pyD,PyData.eqv]
 | _,_,.int i,.tup ds,_,_=>by simp[pyD,PyData.eqv]
 | _,_,.non,.tup ds,_,_=>by simp[pyD,PyData.eqv]
 | _,_,.tup ds,.int i,_,_=>by simp[pyD,PyData.eqv]
 | _,_,.tup ds,.non,_,_=>by simp[pyD,PyData.eqv]
 | k+1,j+1,.tup ds,.tup es,h,h'=>by have:=clL_eqv (k:=k) (j:=j) (xs:=ds) (ys:=es) (by simpa[cl]using h) (by simpa[cl]using h');simp only[pyD,PyData.eqv,D.tup.injEq];exact this
 | 0,_,.tup ds,.tup es,h,_=>by simp[cl]at h
 | _,0,.tup ds,.tup es,_,h=>by simp[cl]at h
 | _,_,.str x,.str y,_,_=>by simp[pyD,PyData.eqv]
 | _,_,.str x,.int i,_,_=>by simp[pyD,PyData.eqv]
 | _,_,.str x,.non,_,_=>by simp[pyD,PyData.eqv]
 | _,_,.str x,.tup ds,_,_=>by simp[pyD,PyData.eqv]
 | _,_,.int i,.str x,_,_=>by simp[pyD,PyData.eqv]
 | _,_,.non,.str x,_,_=>by simp[pyD,PyData.eqv]
 | _,_,.tup ds,.str x,_,_=>by simp[pyD,PyData.eqv]
 | k+1,j+1,.vl ds,.vl es,h,h'=>by have:=clL_eqv (k:=k) (j:=j) (xs:=ds) (ys:=es) (by simpa[cl]using h) (by simpa[cl]using h');simp only[pyD,PyData.eqv,D.vl.injEq];exact this
 | 0,_,.vl ds,.vl es,h,_=>by simp[cl]at h
 | _,0,.vl ds,.vl es,_,h=>by simp[cl]at h
 | _,_,.vl ds,.int i,_,_=>by simp[pyD,PyData.eqv]
 | _,_,.vl ds,.non,_,_=>by simp[pyD,PyData.eqv]
 | _,_,.vl ds,.str x,_,_=>by simp[pyD,PyData.eqv]
 | _,_,.vl ds,.tup es,_,_=>by simp[pyD,PyData.eqv]
 | _,_,.int i,.vl ds,_,_=>by simp[pyD,PyData.eqv]
 | _,_,.non,.vl ds,_,_=>by simp[pyD,PyData.eqv]
 | _,_,.str x,.vl ds,_,_=>by simp[pyD,PyData.eqv]
 | _,_,.tup es,.vl ds,_,_=>by simp[pyD,PyData.eqv]
 | _,_,.bl _,_,h,_=>by simp[cl]at h
 | _,_,.ref _,_,h,_=>by simp[cl]at h
 | _,_,.ty _,_,h,_=>by simp[cl]at h
 | _,_,_,.bl _,_,h=>by simp[cl]at h
 | _,_,_,.ref _,_,h=>by simp[cl]at h
 | _,_,_,.ty _,_,h=>by simp[cl]at h
theorem clL_eqv:∀{k j:Nat} {xs ys:List D},clL k xs=true->clL j ys=true->(PyData.eqvAll (pyDL xs) (pyDL ys)=true↔xs=ys)
 | _,_,[],[],_,_=>by simp[pyDL,PyData.eqvAll]
 | _,_,[],_ :: _,_,_=>by simp[pyDL,PyData.eqvAll]
 | _,_,_ :: _,[],_,_=>by simp[pyDL,PyData.eqvAll]
 | k,j,x :: xs,y :: ys,h,h'=>by
  have h1:cl k x=true/\clL k xs=true:=by simpa[clL]using h
  have h2:cl j y=true/\clL j ys=true:=by simpa[clL]using h'
  have e1:=tM h1.1 h2.1;have e2:=clL_eqv h1.2 h2.2;simp only[pyDL,PyData.eqvAll,a25,e1,e2,List.cons.injEq]
end
open Classical in
def JK(h:R (.bl<|neg.xor<|decide (x=y)) M)(hx:cl 60 x=true:=by rfl)(hy:cl 60 y=true:=by rfl):gEq neg x y M R:=by
 obtain⟨a,b,c⟩:=nv hx;obtain⟨a2,b2,c2⟩:=nv hy;refine⟨_,_,a,a2,?_,?_,?_⟩
 ·simp only[SeqAt.shaped,b,a4v];exact decide_eq_true<|by omega
 ·simp only[SeqAt.shaped,b2,a4v];exact decide_eq_true<|by omega
 grind[tM,decide_eq_true,decide_eq_false,PyData.eqv,pyD]
def tyD(M:Mem):D->Option String
 | .non=>some "NoneType"
 | .bl _=>some "bool"
 | .int _=>some "int"
 | .str _=>some "str"
 | .tup _=>some "tuple"
 | .ref p=>match M p with
  | some (.lst _)=>some "list"
  | _=>none
 | .vl _=>some "list"
 | .ty _=>none
 | .dic=>some "dict"
 | .exc _=>none
def MU(t T:String):Option Bool:=if t=T then some true else
 match t,T with
 | "bool","int" => some true
 | _,_=>if (t∈["NoneType","bool","int","str","tuple","list","dict"])/\(T∈["bool","int","str","tuple","list"])then some false else none
def Ll(K:a1C):Prop:=∀ t T b,MU t T=some b->PySem.W.kitOne K (.type t) (.type T)=some b
def xc(hg:Gl X x)(hm:X.mg x=none)(hv:bootBuiltins x=some (.type n))(hn:x ≠ "__name__" := by decide)(hd:(x == ("__debug__" : Str))=false:=by decide):JE X (.Name x pos) (dC<|.ty n):=⟨bz (v:=.ty n) (BU hg hm hv rfl hn hd) λ_=>.ty n⟩
def Ea:DRC:=λds M R=>∃ d t T b,ds=[d,.ty T]/\tyD M d=some t/\MU t T=some b/\R (.bl b) M
def xD(hk:Ll X.K):U7 X (.builtin "isinstance") Ea:=by
 intro pins s σ H xs us Q I rv h;obtain⟨ds,M,R,hl,am,⟨d,t,T,b,rfl,ht,hb,r⟩,f⟩:=h;obtain⟨v,v',rfl,h1,h2⟩:=hl.two;cases h2;obtain⟨u,w',rfl,r1,r2⟩:=Gi rv;cases(r2);have e:=hk t T b hb;have fin:∀ tk,EP X pins σ Q (.bool b) { s with toks:=tk }:=λtk=>⟨.bl b,H,I.tok tk,rfl,f _ M r _ H (KT.refl H) am<|.bl b⟩;cases h1 with
 | non=>cases ht;exact T9 I r1 .non e fin
 | bl q=>cases ht;exact T9 I r1 (.bl q) e fin
 | int q=>cases ht;exact T9 I r1 (.int q) e fin
 | str q=>cases ht;exact T9 I r1 (.str q) e fin
 | ty q=>cases ht
 | ref p =>
  unfold tyD at ht;cases q:M p with
  | none=>simp[q]at ht
  | some o =>
   cases o with
   | lst es =>simp only[q]at ht;cases ht;obtain⟨ys,hy,_⟩:=am.lst q;exact T9 I r1 (.lst hy) e fin
   | ins C fs=>simp[q]at ht
   | dic hs kvs=>simp[q]at ht
 | tup s' l =>cases ht;cases(r1);obtain⟨its,_,⟨o,h1,h2,_⟩,_⟩:=I.tuple s';exact PySem.W.kia_one PySem.W.kitx_tuple I.kIn ⟨o,h1,h2⟩ e (λz=>nomatch z) fin
 | vl hq hl' =>cases ht;cases(r1);obtain⟨_,_,ea,sq,_⟩:=Has.il<|.vl hq hl';cases ea;obtain⟨its,_,⟨o,n,h1,h2,_⟩,_⟩:=I.list sq;exact PySem.W.kia_one PySem.W.kitx_list I.kIn ⟨o,h1,h2⟩ e (λz=>nomatch z) fin
 | dic hq =>cases ht;cases(r1);obtain⟨o,g1,g2⟩:=hq;exact PySem.W.kia_one PySem.W.kitx_dict I.kIn ⟨o,(I.hok _ _ g1).1,g2⟩ e (λz=>nomatch z) fin
 | exc hq=>cases ht
def Ou:MtR X "int.bit_length" (λx xs H Q=>∃ i,x = .int i/\xs=[]/\Q (.int (Builtin.Int.intBits i:Nat)) H):=by intro pins s σ H x xs v us Q I rx rv h;obtain⟨i,rfl,rfl,q⟩:=h;cases rv;obtain⟨t,rfl⟩:=rx;exact call_int_bit_length ⟨.int _,H,I.tok _,⟨_,rfl⟩,q⟩
def Y0:DXK:=λ_ _=>False
def UX{K:a1C}{H:Hp}{E:XK}:VB K H Y0 E:=λ_ _ h=>h.elim
structure Ls(K:a1C)(x:Str)(st:Stmt)(f:Addr)(fd:FuncData):Prop where
 ex:∃(oc:Value) (od:Option Addr) (dV kV doc pm:Value) (an:Option Addr) (cdv ct:Value) (osl:Array (Option Value)),
  fd=PySem.W.fnOf x x (J4 st) (B1 st) (c9 st) dV kV doc pm an cdv ct/\K.lookup f=some ⟨oc,od,.func fd,osl⟩/\PySem.W.codeIn K cdv x=true
 kp:PySem.W.keepIn K (.ref f)=true
structure Df(K:a1C)(mg:Str->Option Value)(x:Str)(st:Stmt)(ps:List Str):Prop where
 ex:∃(f:Addr) (fd:FuncData),Ls K x st f fd/\mg x=some (.ref f)/\P9 K fd ps []
structure DfL(K:a1C)(mg:Str->Option Value)(x:Str)(st:Stmt)(ps:List Str):Prop where
 ex:∃(f:Addr) (fd:FuncData),Ls K x st f fd/\mg x=some (.ref f)/\∀ us:List Value,us.length=ps.length->bindArgs fd ⟨us,[]⟩=pure (ps.zip us)
structure Fn(P:Program)(w:World)(K:a1C)(mg:Str->Option Value)(base:Heap)(x:Str)(k:Nat)(ps:List Str)(sp:DSp):Prop where
 ex:∃(f:Addr) (fd:FuncData),X7 P w K mg base CX0 k f fd ps (nG K sp)/\mg x=some (.ref f)/\PySem.W.keepIn K (.ref f)=true/\P9 K fd ps []
def Jr(G:Fn X.prog X.w X.K X.mg X.base x j ps sp)(hr:C3 j X.A)(hg:Gl X x)(ha:JA X (e :: es) t)
  (hdb:(x == ("__debug__" : Str))=false:=by decide) (he:starEach (e :: es) X.env=(false,eval e X.env) :: starEach es X.env:=by rfl) (hpl:(backTo pos<|starEach es X.env).any (·.1)=false:=by rfl):JE X (.Call (.Name x p) (e :: es) [] pos) (CP sp [] Y0 t):=⟨have ha:=ha.out;by
 obtain⟨f,fd,F,hm,hk,hb⟩:=G.ex
 exact Vg F hr hg hm hk hb .nil (λ_=>.nil) IC (λ_=>UX) ha hdb he hpl⟩
section
variable {P:Program} {w:World} {K:a1C} {mg:Str->Option Value} {base:Heap}
def RP{x:Str}{st:Stmt}{f:Addr}{fd:FuncData}{N ps:List Str}{k:Nat}{sp:DSp}(F:Ls K x st f fd)(S:d9 N ps (c9 st))(len:∀ ds M R Y,sp ds M R Y->ds.length=ps.length)
  (hbody:∀ cdv (A:Around) (outer:List Env) (s:Shared) (H:Hp) (E:XK) (ds:List D) (M:Mem) (R:DK) (Y:DXK),C3 k (A.deeper<|envOfC x (c9 st) s.heap.objs.size f cdv)->sp ds M R Y ->
   ∃ t,JSs (K1 CX0 P w K mg base N x (c9 st) f cdv A outer s H E).nox (B1 st) t/\t { nx:=λ_ M'=>R .non M',rt:=R } (A4 N ds) M):X7 P w K mg base CX0 (k+1) f fd ps (nG K sp):=by
 obtain⟨oc,od,dV,kV,doc,pm,an,cdv,ct,osl,rfl,lk,hcd⟩:=F.ex
 refine Cy lk hcd S (λvs H Q E ⟨ds,M,R,Y,hl,_,hs,_,_⟩=>by rw[hl.length];exact len ds M R Y hs) λA outer s H vs Q E hr zz=>?_
 obtain⟨ds,M,R,Y,hl,am,hs,fv,fx⟩:=zz
 obtain⟨t,h1,h2⟩:=hbody cdv A outer s H E ds M R Y hr hs
 refine⟨_,h1.out.nox,A4 N ds,M,_,u6.start0 hl,am,h2,⟨?_,fv,λ_ _ h=>h.elim,λ_ _ h=>h.elim⟩⟩
 exact λe M' h σ' H' kt a o=>fv .non M' h .non H' kt a .non
def i3{x:Str}{st:Stmt}{N ps:List Str}{k:Nat}{sp:DSp}(d:Df K mg x st ps)(S:d9 N ps (c9 st))(len:∀ ds M R Y,sp ds M R Y->ds.length=ps.length)
  (hbody:∀ f (cdv:Value) (A:Around) (outer:List Env) (s:Shared) (H:Hp) (E:XK) (ds:List D) (M:Mem) (R:DK) (Y:DXK),C3 k (A.deeper<|envOfC x (c9 st) s.heap.objs.size f cdv)->sp ds M R Y ->
   ∃ t,JSs (K1 CX0 P w K mg base N x (c9 st) f cdv A outer s H E).nox (B1 st) t/\t { nx:=λ_ M'=>R .non M',rt:=R } (A4 N ds) M):Fn P w K mg base x (k+1) ps sp:=by
 obtain⟨f,fd,F,hm,hb⟩:=d.ex
 exact⟨f,fd,RP F S len<|hbody f,hm,F.kp,hb⟩
def xu{x:Str}{st:Stmt}{ps:List Str}{h:Heap}{f:Addr}{oc:Value}{od an:Option Addr}{osl:Array (Option Value)}{dV kV doc pm cdv ct:Value}(X:K.In h)(G:h.Ns mainGlobals mg)
  (n:PySem.W.nsIn K mainGlobals x=some (some<|.ref f))
  (l:K.lookup f=some ⟨oc,od,.func<|PySem.W.fnOf x x (J4 st) (B1 st) (c9 st) dV kV doc pm an cdv ct,osl⟩)
  (c:PySem.W.codeIn K cdv x=true) (k:PySem.W.keepIn K (.ref f)=true)
  (hb:∀ us,us.length=ps.length->bindArgs (PySem.W.fnOf x x (J4 st) (B1 st) (c9 st) dV kV doc pm an cdv ct) ⟨us,[]⟩=pure (ps.zip us)):Df K mg x st ps :=
 ⟨f,_,⟨⟨oc,od,dV,kV,doc,pm,an,cdv,ct,osl,rfl,l,c⟩,k⟩,PySem.W.mg_of X G n,.all hb⟩
def Vc{x:Str}{st:Stmt}{ps:List Str}{h:Heap}{f:Addr}{oc:Value}{od an:Option Addr}{osl:Array (Option Value)}{dV kV doc pm cdv ct:Value}(X:K.In h)(G:h.Ns mainGlobals mg)
  (n:PySem.W.nsIn K mainGlobals x=some (some<|.ref f))
  (l:K.lookup f=some ⟨oc,od,.func<|PySem.W.fnOf x x (J4 st) (B1 st) (c9 st) dV kV doc pm an cdv ct,osl⟩)
  (c:PySem.W.codeIn K cdv x=true) (k:PySem.W.keepIn K (.ref f)=true)
  (hb:∀ us,us.length=ps.length->bindArgs (PySem.W.fnOf x x (J4 st) (B1 st) (c9 st) dV kV doc pm an cdv ct) ⟨us,[]⟩=pure (ps.zip us)):DfL K mg x st ps :=
 ⟨f,_,⟨⟨oc,od,dV,kV,doc,pm,an,cdv,ct,osl,rfl,l,c⟩,k⟩,PySem.W.mg_of X G n,hb⟩
def Vd{x:Str}{st:Stmt}{ps:List Str}{h:Heap}{f:Addr}{oc:Value}{od an:Option Addr}{osl:Array (Option Value)}{dV kV doc pm cdv ct:Value}(X:K.In h)(G:h.Ns mainGlobals mg)
  (n:PySem.W.nsIn K mainGlobals x=some (some<|.ref f))
  (l:K.lookup f=some ⟨oc,od,.func<|PySem.W.fnOf x x (J4 st) (B1 st) (c9 st) dV kV doc pm an cdv ct,osl⟩)
  (c:PySem.W.codeIn K cdv x=true) (k:PySem.W.keepIn K (.ref f)=true)
  (hb:∀ us,us.length=ps.length->∀ S,PySem.W.peek K S (bindArgs (PySem.W.fnOf x x (J4 st) (B1 st) (c9 st) dV kV doc pm an cdv ct) ⟨us,[]⟩)=some (ps.zip us)):Df K mg x st ps :=
 ⟨f,_,⟨⟨oc,od,dV,kV,doc,pm,an,cdv,ct,osl,rfl,l,c⟩,k⟩,PySem.W.mg_of X G n,λs us X' hl=>by rw[a2g]at hl ⊢;exact PySem.W.kp_binds X'<|hb us hl⟩
end
section
variable {X:Cx} {x:Str} {p pos:Pos} {e:Expr} {es:List Expr} {t:DTA} {id T:String}
def l6(hc:U7 X (.builtin id) g)(hg:Gl X x)(hm:X.mg x=none)(hv:bootBuiltins x=some (.builtin id))(ha:JA X (e :: es) t)
  (hn:x ≠ "__name__" := by decide) (hdb:(x == ("__debug__" : Str))=false:=by decide) (he:starEach (e :: es) X.env=(false,eval e X.env) :: starEach es X.env:=by rfl) (hpl:(backTo pos<|starEach es X.env).any (·.1)=false:=by rfl):JE X (.Call (.Name x p) (e :: es) [] pos) (dCB g t):=⟨have ha:=ha.out;(eY hc hg hm hv ha hn hdb he hpl).imp λ_ _ _ h=>Sm h⟩
def D9(hc:U7 X (.type T) g)(hg:Gl X x)(hm:X.mg x=none)(hv:bootBuiltins x=some (.type T))(ha:JA X (e :: es) t)
  (hn:x ≠ "__name__" := by decide) (hdb:(x == ("__debug__" : Str))=false:=by decide) (he:starEach (e :: es) X.env=(false,eval e X.env) :: starEach es X.env:=by rfl) (hpl:(backTo pos<|starEach es X.env).any (·.1)=false:=by rfl):JE X (.Call (.Name x p) (e :: es) [] pos) (dCB g t):=⟨have ha:=ha.out;(T0 hc hg hm hv ha hn hdb he hpl).imp λ_ _ _ h=>Sm h⟩
def Ya:D->Mem->DK->Prop:=λx M R=>∃ i,x = .int i/\R (.int (Builtin.Int.intBits i:Nat)) M
def OL(ho:JE X o to)(hbase:attributeBase o "bit_length" X.env (eval o X.env)=eval o X.env:=by rfl)(hline:(apos.endLine == cpos.line)=true:=by rfl):JE X (.Call (.Attribute o "bit_length" apos) [] [] cpos) (dUn Ya to):=⟨have ho:=ho.out;(Ub PySem.F.plainAttrs_int PySem.F.slot_int_bit_length PySem.F.type_int_bit_length Ou ho hbase hline).imp (by rintro σ H Q ⟨e,M,R,ok,am,t,f⟩;exact⟨e,M,_,ok,am,t,λx M1 ⟨i,z,r⟩ v H1 k1 a1 r1=>by subst z;cases r1;exact⟨rfl,i,rfl,rfl,f _ M1 r _ H1 k1 a1<|.int _⟩⟩)⟩
def NX:OpR X (binaryOp .Add) (λx y H Q=>∃ l b xs zs,x = .ref l/\y = .ref b/\SqL X.K H l xs/\SqL X.K H b zs/\xs.length+zs.length<=sizeLine/\∀ p,H p=none->Q (.ref p) (upd H p<|.lst<|xs++zs)):=by
 intro pins s σ H x y v u Q I rx ry h;obtain⟨l,b,xs,zs,rfl,rfl,hH,hB,hz,q⟩:=h;cases rx;cases ry;obtain⟨its,r,pl,z1⟩:=I.list hH;obtain⟨its2,r2,pl2,z2⟩:=I.list hB;have hl:=r.length;have hl2:=r2.length;obtain⟨⟨cls,dd,data,sl⟩,ho,hc,n,hd⟩:=pl.isList;obtain⟨⟨cls2,dd2,data2,sl2⟩,ho2,hc2,n2,hd2⟩:=pl2.isList;simp only at hc hd hc2 hd2;subst hc hd hc2 hd2;have ea:its.toArray++its2.toArray=(its++its2).toArray:=by simp
 refine concat_meets ⟨_,ho,rfl⟩ ⟨_,ho2,rfl⟩ noFill_list_add seq_list_add PySem.F.slot_list_add PySem.F.entry_list_add (PySem.F.args_list_add_2 _ _) (list_addW l b its.toArray its2.toArray n n2 dd dd2 sl sl2<|by simp;omega) ⟨ho,ho2,?_⟩;rw[ea];exact⟨.ref _,_,I.lnew (t':=s.toks) (r.append r2)<|by rw[a1V];omega,rfl,q _ I.fresh⟩
def E4(M:Mem):D->Option (List D)
 | .ref p=>match M p with
  | some (.lst ds)=>some ds
  | _=>none
 | .vl ds=>some ds
 | _=>none
def A3{K:a1C}{H:Hp}{M:Mem}{v:V}{d:D}{ds:List D}(am:l7 K H M)(h:Has K H v d)(e:E4 M d=some ds):∃ a xs,v = .ref a/\SqL K H a xs/\HasL K H xs ds:=by
 cases h with
 | ref p =>
  unfold E4 at e;cases q:M p with
  | none=>simp[q]at e
  | some o =>
   cases o with
   | lst es =>simp only[q]at e;cases e;obtain⟨xs,hx,l⟩:=am.lst q;exact⟨p,xs,rfl,SqL.of hx,l⟩
   | ins C fs=>simp[q]at e
   | dic hs kvs=>simp[q]at e
 | vl hq hl =>cases e;exact Has.il<|.vl hq hl
 | _=>cases e
end
theorem sl(n:Nat)(h:n<=1000:=by decide):n<=sizeLine:=a1N h<|by decide
open Classical in
def UT(neg:Bool):DR2:=λx y M R=>cl 60 x=true/\cl 60 y=true/\R (.bl<|neg.xor<|decide (x=y)) M
def Y5(hu:X.A.units+64<cLine):DOp X (compareOp .Eq) (UT false):=OpR.imp (Zq hu)<|by rintro _ _ _ _ ⟨dx,dy,M,R,hx,hy,am,⟨h1,h2,h3⟩,f⟩;exact⟨dx,dy,M,R,hx,hy,am,JK h3 h1 h2,f⟩
def IM(hu:X.A.units+64<cLine):DOp X (compareOp .NotEq) (UT true):=OpR.imp (Zp hu)<|by rintro _ _ _ _ ⟨dx,dy,M,R,hx,hy,am,⟨h1,h2,h3⟩,f⟩;exact⟨dx,dy,M,R,hx,hy,am,JK h3 h1 h2,f⟩
def Y4:DOp X (compareOp .Eq) (gF<|fI λi j=>.bl<|decide (i=j)):=OpR.imp Ry (by
 rintro x y H Q ⟨dx,dy,M,R,hx,hy,am,t,f⟩;obtain⟨z,e,r⟩:=wm t;obtain⟨i,j,e1,e2,e3⟩:=tH e;subst e1;subst e2;subst e3;cases hx;cases hy;refine⟨rfl,?_⟩;have e:decide (V.int i=V.int j)=decide (i=j):=by simp
 rw[e];exact f _ M r _ H (KT.refl H) am<|.bl _)
def mI:DOp X (compareOp .NotEq) (gF<|fI λi j=>.bl<|!decide (i=j)):=OpR.imp Rx (by
 rintro x y H Q ⟨dx,dy,M,R,hx,hy,am,t,f⟩;obtain⟨z,e,r⟩:=wm t;obtain⟨i,j,e1,e2,e3⟩:=tH e;subst e1;subst e2;subst e3;cases hx;cases hy;refine⟨rfl,?_⟩;have e:decide (V.int i=V.int j)=decide (i=j):=by simp
 rw[e];exact f _ M r _ H (KT.refl H) am<|.bl _)
def v6(h:n<2 ^ k)(hk:0<k):n.log2<k:=by
 rcases a3A n with h0|h0
 ·subst h0;rw[Nat.log2_zero];exact hk
 ·exact(a4u<|a47.mp h0).mpr h
def j9(m n:Nat)(ha:a.natAbs<2 ^ m)(hb:b.natAbs<2 ^ n)(h:m+n<=100000):IntMulOk a b:=by
 have hx:∀ x k,x.natAbs<2 ^ k->Builtin.Int.intBits x<=k:=λx k hx=>by
  unfold Builtin.Int.intBits;split
  ·omega
  ·rename_i h0
   have:x.natAbs≠0:=by intro z;apply h0;first|exact(by simpa using Int.natAbs_eq_zero.mp z)|(simp;omega)
   have:=(a4u this).mpr hx;omega
 exact PySem.IntMulOk.of_le (hx a m ha) (hx b n hb)<|by omega
def Zu(t T:String):Option Bool:=if PySem.W.kitMeta T=true then(fastBuiltinMro t).map (·.contains (.type T))else none
def WV(K:a1C):Ll K:=by
 intro t T b h;unfold MU at h;by_cases e:t=T
 ·simp_all [if_pos,beq_self_eq_true,PySem.W.kitOne]
 ·rw[if_neg e]at h
  have hne:¬ (Value.type t == Value.type T)=true:=λz=>e (by have:=eq_of_beq z;injection this);unfold PySem.W.kitOne;rw[if_neg hne];show Zu t T=some b;split at h
  ·assumption
  ·split at h
   ·rename_i hh;obtain⟨ht,hT⟩:=hh;simp at ht hT;cases h;rcases ht with rfl|rfl|rfl|rfl|rfl|rfl|rfl<;>rcases hT with rfl|rfl|rfl|rfl|rfl<;>first|exact absurd rfl e|rw[0]|(exfalso;simp_all)
   ·cases h
def yT{K:a1C}{H:Hp}{a:Addr}{ns:List Int}(hO:Ex H)(hS:SqL K H a (ns.map V.int)):Has K H (.ref a) (.vl<|ns.map D.int):=by
 rcases hS with(h|⟨o,h⟩)|h
 ·rcases hO a with z|⟨o,xs,z⟩
  ·rw[z]at h;cases h
  ·rw[z]at h;cases h
 ·exact .vl (.inl ⟨o,h⟩)<|HasL.ints ns
 ·exact .vl (.inr λ_=>.inr h)<|HasL.ints ns
def Uy{K:a1C}{H:Hp}{a:Addr}{ns:List Int}{sp:DSp}(hO:Ex H)(hS:SqL K H a (ns.map V.int))(h:sp [.vl<|ns.map D.int] (λ_=>none) (λd _=>d = .bl true) Y0) :
  nG K sp [.ref a] H (λv _=>v = .bl true) (λ_ _ _=>False) :=
 ⟨[.vl<|ns.map D.int],λ_=>none,λd _=>d = .bl true,Y0,.cons (yT hO hS) .nil,λ_ _ z=>(by cases z),h,λd M' e v H' _ _ hv=>by subst e;cases hv;rfl,λ_ _ z=>z.elim⟩
section
variable {X:Cx} {o e:Expr} {es:List Expr} {to:DTE} {t:DTA} {name:Str} {apos cpos:Pos} {id:String}
abbrev DRM:=D->List D->Mem->DK->Prop
def upM(K:a1C)(g:DRM):V->List V->Hp->VK->Prop:=λx xs H Q=>∃ dx ds M R,Has K H x dx/\HasL K H xs ds/\l7 K H M/\g dx ds M R/\ik K H R Q
def DMt(X:Cx)(id:String)(g:DRM):Prop:=MtR X id<|upM X.K g
def MtR.imp(h:MtR X id r)(i:∀ x xs H Q,r' x xs H Q->r x xs H Q):MtR X id r':=λpins s σ H x xs v us Q I rx rv q=>h pins s σ H x xs v us Q I rx rv<|i x xs H Q q
def dLM(g:DRM)(to:DTE)(t:DTA):DTE:=λe M R=>to e M λx M1=>(∃ l ds,x = .ref l/\M1 l=some (.lst ds))/\t e M1 λxs M2=>g x xs M2 R
def Y8(slot:Slot "list" name id)(hty:typeOf (.builtin id)=pure (.type "method_descriptor"))(hm:DMt X id g)(ho:JE X o to)(ha:JA X (e :: es) t)
  (hbase:attributeBase o name X.env (eval o X.env)=eval o X.env:=by rfl)
  (hfew:((backTo cpos<|starEach (e :: es) X.env).all (λx=>!x.1) && (backToKw cpos<|keywordEach [] X.env).all (λx=>x.1.isSome)
   && decide ((e :: es).length+([]:List Keyword).length+(if ([]:List Keyword).isEmpty then 0 else 1)<30))=true:=by rfl)
  (hline:(apos.endLine == cpos.line)=true:=by rfl) (hs:starEach (e :: es) X.env=(false,eval e X.env) :: starEach es X.env:=by rfl) (hplain:(backTo cpos<|starEach es X.env).any (·.1)=false:=by rfl):JE X (.Call (.Attribute o name apos) (e :: es) [] cpos) (dLM g to t):=⟨have ho:=ho.out;have ha:=ha.out;(wj PySem.F.plainAttrs_list slot hty hm ho ha hbase hfew hline hs hplain).imp (by rintro σ H Q ⟨e,M,R,ok,am,t,f⟩;exact⟨e,M,_,ok,am,t,λx M1 ⟨⟨l,ds,z,hM⟩,h1⟩ v H1 k1 a1 r1=>by
  subst z
  have r1':=r1
  cases r1
  obtain⟨xs,hx,_⟩:=a1.lst hM
  refine⟨.inl ⟨rfl,xs,SqL.of hx⟩,e,M1,_,ok.mono k1,a1,h1,λzs M2 h2 vs H2 k2 a2 r2=>?_⟩
  exact⟨_,zs,M2,R,r1'.mono k2,r2,a2,h2,f.mono<|k1.trans k2⟩⟩)⟩
theorem kZ:∀{bs:List Bool} {us:List Value},j8 (bs.map V.bl) us->us=bs.map Value.bool
 | [],_,r=>by cases r;rfl
 | b :: bs,_,r=>by
  cases r with
  | cons r rr =>cases(r);rw[kZ rr];rfl
theorem HasL.bools{K:a1C}{H:Hp}:∀{bs:List Bool} {vs:List V},HasL K H vs (bs.map D.bl)->vs=bs.map V.bl
 | [],_,r=>by cases r;rfl
 | b :: bs,_,r=>by
  cases r with
  | cons r rr=>cases r;rw[HasL.bools rr];rfl
end
def RF:DRC:=λds M R=>∃ x ys,ds=[x]/\E4 M x=some ys/\R (.tup ys) M
def Vm:U7 X (.type "tuple") RF:=p9.imp oR<|by rintro xs H Q ⟨ds,M,R,hl,am,⟨x,ys,z,e,r⟩,f⟩;subst z;obtain⟨v,rfl,hv⟩:=hl.one;obtain⟨a,vs,rfl,s,l⟩:=A3 am hv e;exact⟨a,vs,rfl,.inl ⟨s,λp hp=>f _ M r _ _ (KT.alloc hp) (am.alloc hp)<|.tup (SqT.of i5)<|l.mono<|KT.alloc hp⟩⟩
section
variable {X:Cx} {st:Stmt} {rest:List Stmt} {t u:DTS}
def Ks(t u:DTS):DTS:=λF e M=>∃ P:Ev->Mem->Prop,t { F with nx:=P } e M/\∀ e' M',P e' M'->u F e' M'
def T7(h1:JS X st t)(h2:JSs X rest u):JSs X (st :: rest) (Ks t u):=⟨have h1:=h1.out;have h2:=h2.out;(mq h1 h2).imp (by rintro E σ H ⟨e,M,F,ok,am,⟨P,t,hP⟩,f⟩;exact⟨e,M,{ F with nx:=P },ok,am,t,⟨λe' M' h σ' H' k a o=>⟨e',M',F,o,a,hP e' M' h,f.mono k⟩,f.rt,f.bk,f.ct⟩⟩)⟩
end
def DD(bs:List Bool):(a2c bs.length).any (λi=>bs.getD i true)=bs.any id:=by
 have:(a2c bs.length).map (λi=>bs.getD i true)=bs:=by apply a3P (by simp);intro i h1 h2;simp[a2a,h2]
 conv=>rhs;rw[<- this]
 rw[List.any_map];rfl
def uY(bs:List Bool):TruthOf prog w A (λi v=>(bs.map Value.bool).toArray[i]? = some v) (λi=>bs.getD i true):=by
 intro i v s Q E h q;have h':(bs.map Value.bool)[i]? = some v:=by simpa using h
 rw[a1S]at h';cases e:bs[i]? with
 | none=>rw[e]at h';cases h'
 | some b =>
  rw[e]at h';cases h';have q':Q b s:=by simpa[a2a,e]using q
  exact wpAny_truthy_bool q'
def Ep(hc:X.calm=true):p9 X (.builtin "any") (λxs H Q=>∃(l:Addr) (bs:List Bool),xs=[.ref l]/\SqL X.K H l (bs.map V.bl)/\Q (.bl<|bs.any id) H):=by
 intro pins s σ H xs us Q I r h;obtain⟨l,bs,rfl,hS,q⟩:=h;obtain⟨u,rfl,ru⟩:=L5 r;cases ru;obtain⟨its,rv,p,_⟩:=I.list hS;have hb:=kZ rv;subst hb;have hl:=p.isList;have hne:l≠s.heap.objs.size:=by obtain⟨o,e,_⟩:=id hl;exact a14<|a1L e
 refine call_any_walk<|wpAny_pyIter_list hl ?_;refine⟨s.heap.objs.size,_,_,_,_,_,λi=>bs.getD i true,rfl,Walks.list (A:=X.A.in1) (I.ok.hd hc) s.heap.objs.size l hne (bs.map Value.bool).toArray,⟨⟨_,a1P _ rfl,rfl,rfl⟩,hl.at λo e=>a1E _ e⟩,uY bs,λh' tk kk=>?_⟩;have e:(a2c (bs.map Value.bool).toArray.size).any (λi=>bs.getD i true)=bs.any id:=by rw[show(bs.map Value.bool).toArray.size=bs.length by simp];exact DD bs
 rw[e];exact⟨.bl<|bs.any id,H,I.kept λb o z=>kk b o (by simp;exact a14<|a1L z)<|a1E _ z,rfl,q⟩
def UU:DRC:=λds M R=>∃(d:D) (bs:List Bool),ds=[d]/\E4 M d=some (bs.map D.bl)/\R (.bl<|bs.any id) M
def YC(hc:X.calm=true):U7 X (.builtin "any") UU:=p9.imp (Ep hc)<|by rintro xs H Q ⟨ds,M,R,hl,am,⟨d,bs,z,hM,r⟩,f⟩;subst z;obtain⟨v,rfl,hv⟩:=hl.one;obtain⟨a,vs,rfl,s,l⟩:=A3 am hv hM;rw[l.bools]at s;exact⟨a,bs,rfl,s,f _ M r _ H (KT.refl H) am<|.bl _⟩
def Vo:bootBuiltins "any" = some (.builtin "any"):=by rw[0]
structure GlD(K:a1C)(mg:Str->Option Value)(x:Str)(d:D):Prop where
 ex:∃(v:V) (u:Value),mg x=some u/\l8 v u/\Vz K v d
def i9(hg:Gl X x)(g:GlD X.K X.mg x d)(hd:(x == ("__debug__" : Str))=false:=by decide):JE X (.Name x pos) (dC d):=⟨by obtain⟨v,u,h1,h2,h3⟩:=g.ex;exact Vf hg h1 h2 h3 hd⟩
def kG{K:a1C}{mg:Str->Option Value}{h:Heap}{x:Str}{a:Addr}{od:Option Addr}{osl:Array (Option Value)}{i j:Int}{t u:Tok}{cap:Nat}(X:K.In h)(G:h.Ns mainGlobals mg)
  (n:PySem.W.nsIn K mainGlobals x=some (some<|.ref a)) (l:K.lookup a=some ⟨.type "tuple",od,.seq #[.int i t,.int j u] cap,osl⟩):GlD K mg x (.tup [.int i,.int j]) :=
 ⟨.ref a,.ref a,PySem.W.mg_of X G n,rfl,λH=>.tup (xs:=[.int i,.int j]) (.inr ⟨_,_,_,l,rfl,rfl,(show 2<=sizeLine by decide),.cons (show l8 (.int i) (.int i t)from⟨t,rfl⟩)<|.cons (show l8 (.int j) (.int j u)from⟨u,rfl⟩) .nil⟩)<|.cons (.int i)<|.cons (.int j) .nil⟩
def fS(f:Str->Str->D):D->D->Option D
 | .str i,.str j=>some<|f i j
 | _,_=>none
def CF(h:fS f x y=some z):∃ i j,x = .str i/\y = .str j/\z=f i j:=by
 cases x with
 | str i =>
  cases y with
  | str j=>exact⟨i,j,rfl,rfl,(Option.some.inj h).symm⟩
  | _=>cases h
 | _=>cases h
def n9:DOp X (compareOp .Eq) (gF<|fS λi j=>.bl<|decide (i=j)):=OpR.imp Ry (by
 rintro x y H Q ⟨dx,dy,M,R,hx,hy,am,t,f⟩;obtain⟨z,e,r⟩:=wm t;obtain⟨i,j,e1,e2,e3⟩:=CF e;subst e1;subst e2;subst e3;cases hx;cases hy;refine⟨rfl,?_⟩;have e:decide (V.str i=V.str j)=decide (i=j):=by simp
 rw[e];exact f _ M r _ H (KT.refl H) am<|.bl _)
def wQ:DOp X (compareOp .NotEq) (gF<|fS λi j=>.bl<|!decide (i=j)):=OpR.imp Rx (by
 rintro x y H Q ⟨dx,dy,M,R,hx,hy,am,t,f⟩;obtain⟨z,e,r⟩:=wm t;obtain⟨i,j,e1,e2,e3⟩:=CF e;subst e1;subst e2;subst e3;cases hx;cases hy;refine⟨rfl,?_⟩;have e:decide (V.str i=V.str j)=decide (i=j):=by simp
 rw[e];exact f _ M r _ H (KT.refl H) am<|.bl _)
structure oZ(K:a1C)(H1:Hp)(J:It)(ds:List D)(stay:Mem->Prop):Prop where
 go:∀ i H' M',i<ds.length->KT H1 H'->l7 K H' M'->stay M'->J.go i H'
 yld:∀ i H' M' x H'',i<ds.length->KT H1 H'->l7 K H' M'->stay M'->J.yld i H' x H''->∃ d,ds[i]? = some d/\KT H' H''/\l7 K H'' M'/\Has K H'' x d
 stop:∀ i H' M',ds.length<=i->KT H1 H'->l7 K H' M'->stay M'->J.stop i H'
 up:∀ M' p o,stay M'->M' p=none->stay (l9 M' p o)
def upI(K:a1C)(ti:DTI):TI:=λσ H R=>∃ e M R',u6 K H σ e/\l7 K H M/\ti e M R'/\∀ ds stay M1,R' ds stay M1->∀ H1,KT H H1->l7 K H1 M1->∀ J,oZ K H1 J ds stay->R J H1
def DPI(X:Cx)(tg iter:Expr)(ti:DTI):Prop:=PI X tg iter<|upI X.K ti
structure JI(X:Cx)(tg iter:Expr)(ti:DTI):Prop where
 out:DPI X tg iter ti
def PI.imp(h:PI X tg iter wi)(i:∀ σ H R,wi' σ H R->wi σ H R):PI X tg iter wi':=λpins s σ H R I q=>h pins s σ H R I<|i σ H R q
def Gb{K:a1C}{H1:Hp}{a:Addr}{xs:List V}{ds:List D}(s:SqT K H1 a xs)(l:HasL K H1 xs ds):oZ K H1 (Itt K a) ds (λ_=>True) where
 go:=λi H' M' hi k _ _=>⟨xs,_,k.sq s,a1T<|by rw[l.length];exact hi⟩
 yld:=λi H' M' x H'' hi k am _ zz=>by obtain⟨e,y⟩:=zz;subst e;obtain⟨d,hd,r⟩:=l.getV<|y xs<|k.sq s;exact⟨d,hd,KT.refl _,am,r.mono k⟩
 stop:=λi H' M' hi k _ _=>⟨xs,k.sq s,by rw[l.length];exact hi⟩
 up:=λ_ _ _ _ _=>trivial
def Gg{K:a1C}{H1:Hp}{p:Addr}{ds:List D}:oZ K H1 (Itl K p) ds (λM'=>M' p=some (.lst ds)) where
 go:=λi H' M' hi k am st=>by obtain⟨ys,hy,ly⟩:=am.lst st;exact⟨ys,_,SqL.of hy,a1T<|by rw[ly.length];exact hi⟩
 yld:=λi H' M' x H'' hi k am st zz=>by obtain⟨e,y⟩:=zz;subst e;obtain⟨ys,hy,ly⟩:=am.lst st;obtain⟨d,hd,r⟩:=ly.getV<|y ys<|SqL.of hy;exact⟨d,hd,KT.refl _,am,r⟩
 stop:=λi H' M' hi k am st=>by obtain⟨ys,hy,ly⟩:=am.lst st;exact⟨ys,SqL.of hy,by rw[ly.length];exact hi⟩
 up:=λM' q o st hq=>by rw[i7<|by intro e;subst e;rw[hq]at st;cases st];exact st
def Ge{K:a1C}{H1:Hp}{lo:Int}{n:Nat}:oZ K H1 (Itr lo n) (G6 lo n) (λ_=>True) where
 go:=λi H' M' hi k am st=>by rw[A2]at hi;exact hi
 yld:=λi H' M' x H'' hi k am st zz=>by obtain⟨e,y⟩:=zz;subst e;subst y;rw[A2]at hi;exact⟨_,ml hi,KT.refl _,am,.int _⟩
 stop:=λi H' M' hi k am st=>by rw[A2]at hi;exact hi
 up:=λ_ _ _ _ _=>trivial
def fk(hr:Gl X "range")(hm:X.mg "range" = none)(ha:JA X [a] ta)(hs0:starEach [a] X.env=[(false,eval a X.env)]:=by rfl):JI X tg (.Call (.Name "range" p) [a] [] p2) (RT ta):=⟨have ha:=ha.out;PI.imp (DG hr hm ha hs0) (by rintro σ H R ⟨e,M,R',ok,am,t,f⟩;exact⟨e,M,_,ok,am,t,λds M1 ⟨j,z,b1,b2,r⟩ vs H1 k1 a1 r1=>by subst z;obtain⟨v,rfl,hv⟩:=r1.one;cases hv;exact⟨j,rfl,b1,b2,f _ _ M1 r H1 k1 a1 _ Ge⟩⟩)⟩
def A1(M:Mem)(x:D)(ds:List D):Prop:=x = .tup ds\/(∃ p,x = .ref p/\M p=some (.lst ds))\/x = .vl ds
def mT:D->Bool
 | .tup _=>false
 | _=>true
def o8{K:a1C}{H:Hp}{M:Mem}{v:V}{x:D}{ds:List D}(h:A1 M x ds)(am:l7 K H M)(r:Has K H v x):∃ a xs,v = .ref a/\SqK K (mT x) H a xs/\HasL K H xs ds:=by
 rcases h with rfl|⟨p,rfl,m⟩|rfl;rotate_left 2
 ·obtain⟨a,xs,e,sq,l⟩:=r.il;exact⟨a,xs,e,sq,l⟩
 ·cases r with
  | tup s l=>exact⟨_,_,rfl,s,l⟩
 ·cases r;obtain⟨xs,hx,l⟩:=am.lst m;exact⟨p,xs,rfl,SqL.of hx,l⟩
def aP(h:A1 M x ds)(hq:M q=none):A1 (l9 M q o) x ds:=by
 rcases h with h|⟨p,e,h⟩|h
 ·exact .inl h
 ·exact .inr<|.inl ⟨p,e,by rw[i7<|by intro e;subst e;rw[hq]at h;cases h];exact h⟩
 ·exact .inr<|.inr h
def Q0(ds es:List D):List D:=List.zipWith (λa b=>.tup [a,b]) ds es
def Z8(ds es:List D):(Q0 ds es).length=min ds.length es.length:=by simp[Q0]
def EC{ds es:List D}{i:Nat}{a b:D}(h1:ds[i]? = some a)(h2:es[i]? = some b):(Q0 ds es)[i]? = some (.tup [a,b]):=by unfold Q0;rw[a3M,h1,h2]
def Ga{K:a1C}{H1:Hp}{x y:D}{l1 l2:Addr}{ds es:List D}(h1:Has K H1 (.ref l1) x)(h2:Has K H1 (.ref l2) y) :
  oZ K H1 (Itz K (mT x) (mT y) l1 l2) (Q0 ds es) (λM'=>A1 M' x ds/\A1 M' y es) where
 go:=λi H' M' hi k am zz=>by obtain⟨s1,s2⟩:=zz;rw[Z8]at hi;obtain⟨a,xs,e1,q1,m1⟩:=o8 s1 am<|h1.mono k;obtain⟨b,ys,e2,q2,m2⟩:=o8 s2 am<|h2.mono k;cases e1;cases e2;exact⟨xs,ys,_,_,q1,q2,a1T<|by rw[m1.length];omega,a1T<|by rw[m2.length];omega⟩
 yld:=λi H' M' v H'' hi k am ⟨s1,s2⟩ ⟨T,a,b,hT,ev,eH,u1,u2⟩=>by subst ev;subst eH;obtain⟨a',xs,e1,q1,m1⟩:=o8 s1 am<|h1.mono k;obtain⟨b',ys,e2,q2,m2⟩:=o8 s2 am<|h2.mono k;cases e1;cases e2;obtain⟨d1,g1,r1⟩:=m1.getV<|u1 xs q1;obtain⟨d2,g2,r2⟩:=m2.getV<|u2 ys q2;have kt:KT H' (upd H' T<|.tup [a,b]):=KT.alloc hT;exact⟨_,EC g1 g2,kt,am.alloc hT,.tup (SqT.of i5)<|.cons (r1.mono kt)<|.cons (r2.mono kt) .nil⟩
 stop:=λi H' M' hi k am zz=>by obtain⟨s1,s2⟩:=zz;rw[Z8]at hi;obtain⟨a,xs,e1,q1,m1⟩:=o8 s1 am<|h1.mono k;obtain⟨b,ys,e2,q2,m2⟩:=o8 s2 am<|h2.mono k;cases e1;cases e2;refine⟨xs,ys,q1,q2,?_⟩;rw[m1.length,m2.length];omega
 up:=λ_ _ _ st hq=>⟨aP st.1 hq,aP st.2 hq⟩
def RQ(ta:DTA):DTI:=λe M R=>ta e M λxs M1=>∃ x y ds es,xs=[x,y]/\A1 M1 x ds/\A1 M1 y es/\R (Q0 ds es) (λM'=>A1 M' x ds/\A1 M' y es) M1
def kA{elts:List Expr}{kx:Nat}{tp:Pos}{a b:Expr}{p pos:Pos}(hg:Gl X "zip")(hm:X.mg "zip" = none)(ha:JA X [a,b] ta)
  (hs:starEach [a,b] X.env=[(false,eval a X.env),(false,eval b X.env)]:=by rfl) (hs2:starEach [b] X.env=[(false,eval b X.env)]:=by rfl):JI X (.Tuple elts kx tp) (.Call (.Name "zip" p) [a,b] [] pos) (RQ ta):=⟨have ha:=ha.out;PI.imp (TC hg hm ha hs hs2) (by rintro σ H R ⟨e,M,R',ok,am,t,f⟩;exact⟨e,M,_,ok,am,t,λxs M1 ⟨x,y,ds,es,z,s1,s2,r⟩ vs H1 k1 a1 r1=>by
  subst z
  obtain⟨v,v',rfl,hv,hv'⟩:=r1.two
  obtain⟨a,zs,rfl,q1,m1⟩:=o8 s1 a1 hv
  obtain⟨b,ws,rfl,q2,m2⟩:=o8 s2 a1 hv'
  exact⟨_,_,a,b,rfl,⟨zs,q1⟩,⟨ws,q2⟩,f _ _ M1 r H1 k1 a1 _<|Ga hv hv'⟩⟩)⟩
def p8(hp:PassesOwn (model X.prog X.w) X.A X.env X.xe)(hc:X.calm=true)(hi:JI X tg iter ti)(hg:JG X tg g)(hb:JSs X body tb)
  (hs:∀ x,foldedSetIterable iter X.env x=pure x:=by intro _;rfl):JS X (.For tg iter body [] pos) (Ys ti g tb):=⟨have hi:=hi.out;have hg:=hg.out;have hb:=hb.out;(Tw hp hc hi hg hb hs).imp (by rintro E σ H ⟨e,M,F,ok,am,t,f⟩;exact⟨e,M,_,ok,am,t,λds stay M1 ⟨W,w0,hst,step,done⟩ H1 k1 a1 J wk=>by
  refine⟨λi m σ' H'=>m=ds.length - i/\i<=ds.length/\∃ e' M',KT H1 H'/\u6 X.K H' σ' e'/\l7 X.K H' M'/\W i e' M',⟨ds.length,by simp,a2e _,e,M1,KT.refl H1,ok.mono k1,a1,w0⟩,?_⟩
  rintro i m σ2 H2 ⟨rfl,hi,e2,M2,k2,ok2,a2,w2⟩
  have st:=hst i e2 M2 hi w2
  by_cases hlt:i<ds.length
  ·refine .inr ⟨wk.go i H2 M2 hlt k2 a2 st,λσ' H'=>∃ e' M',KT H1 H'/\u6 X.K H' σ' e'/\l7 X.K H' M'/\W (i+1) e' M',λσ' H' h=>⟨ds.length - (i+1),by omega,rfl,hlt,h⟩,λy H' yl=>?_⟩
   obtain⟨d,hd,k3,a3,r⟩:=wk.yld i H2 M2 y H' hlt k2 a2 st yl
   exact JN f k1 (k2.trans k3) (ok2.mono k3) a3 r<|step i d e2 M2 hd w2
  ·have e':i=ds.length:=by omega
   subst e'
   exact .inl ⟨wk.stop _ H2 M2 (a1U _) k2 a2 st,f.nx e2 M2 (done e2 M2 w2) σ2 H2 (k1.trans k2) a2 ok2⟩⟩)⟩
def hV(n:Nat)(caps:List Nat)(e:Ev):Ev:=a16 n none++caps.map λi=>(e[i]?).getD none
def Pa{K:a1C}{H:Hp}{σ:St}{e:Ev}(n:Nat)(caps:List Nat)(ok:u6 K H σ e):u6 K H (tR n caps σ) (hV n caps e):=by
 refine⟨by simp[tR,hV],λi d h=>?_⟩;unfold hV at h;unfold tR;rw[a3W]at h ⊢;rw[a28]at h ⊢;by_cases hi:i<n
 ·rw[if_pos hi]at h;rw[a2I]at h;split at h<;>cases h
 ·rw[if_neg hi]at h ⊢
  rw[a1S]at h ⊢;cases hj:caps[i - n]? with
  | none=>rw[hj]at h;cases h
  | some j =>
   rw[hj]at h;have h':(e[j]?).getD none=some d:=by simpa using h
   have he:e[j]? = some (some d):=by
    cases q:e[j]? with
    | none=>rw[q]at h';cases h'
    | some z=>rw[q]at h';rw[show z=some d by simpa using h']
   obtain⟨v,h1,h2⟩:=ok.has j d he;exact⟨v,by simp[h1],h2⟩
def N7{p:Str->Prop}{a:Str}(h:p a):∀ x∈[a],p x:=λx hx=>by simp at hx;subst hx;exact h
def Ew{p:Str->Prop}{a b:Str}(h:p a)(h2:p b):∀ x∈[a,b],p x:=λx hx=>by grind
def Zz(K:a1C)(tl:TE):TI:=λσ H R=>tl σ H λx H1=>∃(a:Addr) (k:Bool),x = .ref a/\(∃ xs,SqK K k H1 a xs)/\R (if k=true then Itl K a else Itt K a) H1
def TJ(hl:PE X l tl):PI X tg l (Zz X.K tl):=by
 intro pins s σ H R I h;refine thn (hl pins s σ H _ I h) λv s1 zz=>?_;obtain⟨x,H1,I1,r1,q1⟩:=zz;obtain⟨a,k,e,⟨xs,hq⟩,q⟩:=q1;subst e;cases r1;obtain⟨its,rv,p⟩:=I1.sqk hq;have nf:∀ b∈[s1.heap.objs.size],bH X pins H1 b:=λb hb=>by
  have e:b=s1.heap.objs.size:=by simpa using hb
  subst e;exact I1.fpOk (a1U _)<|I1.hok.fresh<|a1U _
 cases k with
 | true=>exact wpAny_pyIter_list p ⟨s1.heap.objs.size,[s1.heap.objs.size],_,_,H1,rfl,I1.kept (t':=s1.toks) λb o e=>a1E _ e,Dp a _,⟨_,a1P _ rfl,rfl,rfl⟩,nf,q⟩
 | false=>exact wpAny_pyIter_tuple p ⟨s1.heap.objs.size,[s1.heap.objs.size],_,_,H1,rfl,I1.kept (t':=s1.toks) λb o e=>a1E _ e,xY a _,⟨_,a1P _ rfl,rfl,rfl⟩,nf,q⟩
def RS(ti:DTE):DTI:=λe M R=>ti e M λx M1=>∃ ds,A1 M1 x ds/\R ds (λM'=>A1 M' x ds) M1
def n6{tg iter:Expr}{ti:DTE}(hi:JE X iter ti):JI X tg iter (RS ti):=⟨have hi:=hi.out;PI.imp (TJ hi) (by rintro σ H R ⟨e,M,R',ok,am,t,f⟩;exact⟨e,M,_,ok,am,t,λx M1 ⟨ds,sq,r⟩ v H1 k1 a1 r1=>by
 have sq':=sq;rcases sq with rfl|⟨p,rfl,hm⟩|rfl;rotate_left 2
 ·obtain⟨a,xs,rfl,sq,l⟩:=r1.il
  have wk:oZ X.K H1 (Itl X.K a) ds (λM'=>A1 M' (.vl ds) ds):=⟨λi H' M' hi k am _=>by
    obtain⟨a',ys,e,sq',l'⟩:=(r1.mono k).il
    cases e
    exact⟨ys,_,sq',a1T<|by rw[l'.length];exact hi⟩,
   λi H' M' x H'' hi k am _ zz=>by obtain⟨e,y⟩:=zz;subst e;obtain⟨a',ys,e,sq',l'⟩:=(r1.mono k).il;cases e;obtain⟨d,hd,r⟩:=l'.getV<|y ys sq';exact⟨d,hd,KT.refl _,am,r⟩,
   λi H' M' hi k am _=>by obtain⟨a',ys,e,sq',l'⟩:=(r1.mono k).il;cases e;exact⟨ys,sq',by rw[l'.length];exact hi⟩,λ_ _ _ st hq=>aP st hq⟩
  exact⟨a,true,rfl,⟨xs,sq⟩,f ds _ M1 r H1 k1 a1 _ wk⟩
 ·cases r1 with
  | tup s l =>refine⟨_,false,rfl,⟨_,s⟩,f ds _ M1 r H1 k1 a1 _ ?_⟩;have w:=Gb s l;exact⟨λi H' M' a b c _=>w.go i H' M' a b c trivial,λi H' M' y H2 a b c _ g=>w.yld i H' M' y H2 a b c trivial g,λi H' M' a b c _=>w.stop i H' M' a b c trivial,λ_ _ _ st hq=>aP st hq⟩
 ·cases r1
  obtain⟨xs,hx,l⟩:=a1.lst hm;refine⟨p,true,rfl,⟨xs,SqL.of hx⟩,f ds _ M1 r H1 k1 a1 _ ?_⟩;have w:=Gg (K:=X.K) (H1:=H1) (p:=p) (ds:=ds);have cv:∀{M':Mem},A1 M' (.ref p) ds->M' p=some (.lst ds):=λz=>by
   rcases z with z|⟨p',z,h⟩|z
   ·cases z
   ·cases z;exact h
   ·cases z
  exact⟨λi H' M' a b c z=>w.go i H' M' a b c<|cv z,λi H' M' y H2 a b c z g=>w.yld i H' M' y H2 a b c (cv z) g,λi H' M' a b c z=>w.stop i H' M' a b c<|cv z,λ_ _ _ st hq=>aP st hq⟩⟩)⟩
def Jz{K:a1C}{mg:Str->Option Value}{h:Heap}{x:Str}{a b c:Addr}{od od1 od2:Option Addr}{osl osl1 osl2:Array (Option Value)}{i j k l:Int}{t1 t2 t3 t4:Tok}{cap cap1 cap2:Nat}(X:K.In h)(G:h.Ns mainGlobals mg)
  (n:PySem.W.nsIn K mainGlobals x=some (some<|.ref a)) (l0:K.lookup a=some ⟨.type "tuple",od,.seq #[.ref b,.ref c] cap,osl⟩)
  (l1:K.lookup b=some ⟨.type "tuple",od1,.seq #[.int i t1,.int j t2] cap1,osl1⟩) (l2:K.lookup c=some ⟨.type "tuple",od2,.seq #[.int k t3,.int l t4] cap2,osl2⟩):GlD K mg x (.tup [.tup [.int i,.int j],.tup [.int k,.int l]]):=by
 have two:(2:Nat)<=sizeLine:=by decide
 have p1:∀ H:Hp,Has K H (.ref b) (.tup [.int i,.int j]):=λH=>.tup (xs:=[.int i,.int j]) (.inr ⟨_,_,_,l1,rfl,rfl,two,.cons (show l8 (.int i) (.int i t1)from⟨t1,rfl⟩)<|.cons (show l8 (.int j) (.int j t2)from⟨t2,rfl⟩) .nil⟩)<|.cons (.int i)<|.cons (.int j) .nil
 have p2:∀ H:Hp,Has K H (.ref c) (.tup [.int k,.int l]):=λH=>.tup (xs:=[.int k,.int l]) (.inr ⟨_,_,_,l2,rfl,rfl,two,.cons (show l8 (.int k) (.int k t3)from⟨t3,rfl⟩)<|.cons (show l8 (.int l) (.int l t4)from⟨t4,rfl⟩) .nil⟩)<|.cons (.int k)<|.cons (.int l) .nil
 exact⟨.ref a,.ref a,PySem.W.mg_of X G n,rfl,λH=>.tup (xs:=[.ref b,.ref c]) (.inr ⟨_,_,_,l0,rfl,rfl,two,.cons (show l8 (.ref b) (.ref b)from rfl)<|.cons (show l8 (.ref c) (.ref c)from rfl) .nil⟩)<|.cons (p1 H)<|.cons (p2 H) .nil⟩
def UN{K:a1C}{mg:Str->Option Value}{h:Heap}{x:Str}{a b c e g:Addr}{od od1 od2 od3 od4:Option Addr}{osl osl1 osl2 osl3 osl4:Array (Option Value)}{i j k l m n p q:Int}{t1 t2 t3 t4 t5 t6 t7 t8:Tok}{cap cap1 cap2 cap3 cap4:Nat}(X:K.In h)(G:h.Ns mainGlobals mg)
  (nn:PySem.W.nsIn K mainGlobals x=some (some<|.ref a)) (l0:K.lookup a=some ⟨.type "tuple",od,.seq #[.ref b,.ref c,.ref e,.ref g] cap,osl⟩)
  (l1:K.lookup b=some ⟨.type "tuple",od1,.seq #[.int i t1,.int j t2] cap1,osl1⟩) (l2:K.lookup c=some ⟨.type "tuple",od2,.seq #[.int k t3,.int l t4] cap2,osl2⟩)
  (l3:K.lookup e=some ⟨.type "tuple",od3,.seq #[.int m t5,.int n t6] cap3,osl3⟩) (l4:K.lookup g=some ⟨.type "tuple",od4,.seq #[.int p t7,.int q t8] cap4,osl4⟩):GlD K mg x (.tup [.tup [.int i,.int j],.tup [.int k,.int l],.tup [.int m,.int n],.tup [.int p,.int q]]):=by
 have two:(2:Nat)<=sizeLine:=by decide
 have four:(4:Nat)<=sizeLine:=by decide
 have one:∀{a:Addr} {i j:Int} {t1 t2:Tok} {od:Option Addr} {osl:Array (Option Value)} {cap:Nat},K.lookup a=some ⟨.type "tuple",od,.seq #[.int i t1,.int j t2] cap,osl⟩->∀ H:Hp,Has K H (.ref a) (.tup [.int i,.int j]):=λ{a i j t1 t2 od osl cap} l1 H=>.tup (xs:=[.int i,.int j]) (.inr ⟨_,_,_,l1,rfl,rfl,two,.cons (show l8 (.int i) (.int i t1)from⟨t1,rfl⟩)<|.cons (show l8 (.int j) (.int j t2)from⟨t2,rfl⟩) .nil⟩)<|.cons (.int i)<|.cons (.int j) .nil
 exact⟨.ref a,.ref a,PySem.W.mg_of X G nn,rfl,λH=>.tup (xs:=[.ref b,.ref c,.ref e,.ref g]) (.inr ⟨_,_,_,l0,rfl,rfl,four,.cons (show l8 (.ref b) (.ref b)from rfl)<|.cons (show l8 (.ref c) (.ref c)from rfl)<|.cons (show l8 (.ref e) (.ref e)from rfl)<|.cons (show l8 (.ref g) (.ref g)from rfl) .nil⟩)<|.cons (one l1 H)<|.cons (one l2 H)<|.cons (one l3 H)<|.cons (one l4 H) .nil⟩
def tj{K:a1C}{mg:Str->Option Value}{h:Heap}{x:Str}{i:Int}{t:Tok}(X:K.In h)(G:h.Ns mainGlobals mg)(n:PySem.W.nsIn K mainGlobals x=some (some<|.int i t)):GlD K mg x (.int i) :=
 ⟨.int i,.int i t,PySem.W.mg_of X G n,⟨t,rfl⟩,λ_=>.int i⟩
def Pu(h0:0<=r)(h1:r<ds.length):∃ d,atI ds r=some d/\d∈ds:=by simp_all [if_pos,a3Q,atI,ixN]
def tq:DRM:=λx xs M R=>∃ l ds v,x = .ref l/\xs=[v]/\M l=some (.lst ds)/\ds.length<sizeLine/\R .non (l9 M l<|.lst<|ds++[v])
def B6:DMt X "list.append" tq:=MtR.imp qi<|by rintro x xs H Q ⟨dx,ds,M,R,hx,hl,am,⟨l,es,v,e1,e2,hM,hz,r⟩,f⟩;subst e1;subst e2;cases hx;obtain⟨w,rfl,hw⟩:=hl.one;obtain⟨ys,hy,ly⟩:=am.lst hM;exact⟨l,ys,w,rfl,rfl,hy,by rw[ly.length];exact hz,f _ _ r _ _ (KT.write hy) (am.write hy<|ly.append<|.cons hw .nil) .non⟩
def Cr:DRM:=λx xs M R=>∃ l b ds es,x = .ref l/\xs=[.ref b]/\M l=some (.lst ds)/\M b=some (.lst es)/\ds.length+es.length<=sizeLine/\R .non (l9 M l<|.lst<|ds++es)
def qu:DMt X "list.extend" Cr:=MtR.imp DQ<|by rintro x xs H Q ⟨dx,ds,M,R,hx,hl,am,⟨l,b,es,vs,e1,e2,hM,hB,hz,r⟩,f⟩;subst e1;subst e2;cases hx;obtain⟨w,rfl,hw⟩:=hl.one;cases hw;obtain⟨ys,hy,ly⟩:=am.lst hM;obtain⟨zs,hz',lz⟩:=am.lst hB;exact⟨l,b,ys,zs,rfl,rfl,hy,hz',by rw[ly.length,lz.length];exact hz,f _ _ r _ _ (KT.write hy) (am.write hy<|ly.append lz) .non⟩
theorem HasL.rep{K:a1C}{H:Hp}{xs:List V}{ds:List D}(h:HasL K H xs ds):∀ k,HasL K H (a16 k xs).flatten (a16 k ds).flatten
 | 0=>.nil
 | k+1=>by rw[a2G,a2G,a3b,a3b];exact h.append<|HasL.rep h k
def ZD:DR2:=λx y M R=>∃ l k ds,x = .ref l/\y = .int k/\M l=some (.lst ds)/\0<=k/\k<2 ^ 62/\ds.length*k.toNat<=sizeLine/\∀ p,M p=none->R (.ref p) (l9 M p<|.lst (a16 k.toNat ds).flatten)
def Rz:DOp X (binaryOp .Mult) ZD:=OpR.imp Ue<|by rintro x y H Q ⟨dx,dy,M,R,hx,hy,am,⟨l,k,ds,e1,e2,hm,h0,h1,hz,r⟩,f⟩;subst e1;subst e2;cases hx;cases hy;obtain⟨xs,hx,lx⟩:=am.lst hm;exact⟨l,k,xs,rfl,rfl,hx,by omega,by omega,by rw[lx.length];exact hz,λp hp=>f _ _ (r p<|am.fresh hp) _ _ (KT.alloc hp) (am.new hp<|lx.rep _)<|.ref p⟩
abbrev DTO:=Ev->Mem->(Option Int->Mem->Prop)->Prop
def upO(K:a1C)(t:DTO):TO:=λσ H Q=>∃ e M R,u6 K H σ e/\l7 K H M/\t e M R/\∀ o M',R o M'->∀ H',KT H H'->l7 K H' M'->Q o H'
def DPO(X:Cx)(e:Option Expr)(t:DTO):Prop:=PO X e<|upO X.K t
structure JO(X:Cx)(e:Option Expr)(t:DTO):Prop where
 out:DPO X e t
def CN:DTO:=λ_ M R=>R none M
def Sb(t:DTE):DTO:=λe M R=>t e M λx M1=>∃ i,x = .int i/\R (some i) M1
def PO.imp(h:PO X e t)(i:∀ σ H Q,t' σ H Q->t σ H Q):PO X e t':=λpins s σ H Q I q=>h pins s σ H Q I<|i σ H Q q
def E6:JO X none CN:=⟨PO.imp NH<|by rintro σ H Q ⟨e,M,R,ok,am,t,f⟩;exact f none M t H (KT.refl H) am⟩
def B5(h:JE X e te):JO X (some e) (Sb te):=⟨have h:=h.out;PO.imp (NG h) (by rintro σ H Q ⟨e,M,R,ok,am,t,f⟩;exact⟨e,M,_,ok,am,t,λx M1 ⟨i,z,r⟩ v H1 k1 a1 r1=>by subst z;cases r1;exact⟨i,rfl,f (some i) M1 r H1 k1 a1⟩⟩)⟩
def X2(ds:List D)(lo hi:Option Int):List D:=(ds.drop<|HT.sIx ds.length 0 lo).take<|HT.sIx ds.length ds.length hi - HT.sIx ds.length 0 lo
def HasL.cut{K:a1C}{H:Hp}{xs:List V}{ds:List D}(h:HasL K H xs ds)(lo hi:Option Int):HasL K H (KG xs lo hi) (X2 ds lo hi):=by unfold KG X2;rw[h.length];exact(h.drop _).take _
def L8(ds:List D):List D:=ds.mapIdx λi d=>.tup [.int i,d]
def X0(ds:List D):(L8 ds).length=ds.length:=by simp[L8]
def Ee{ds:List D}{i:Nat}{d:D}(h:ds[i]? = some d):(L8 ds)[i]? = some (.tup [.int i,d]):=by simp_all [a41,L8]
def Kd{ds:List D}{i:Nat}{x:D}(h:(L8 ds)[i]? = some x):∃ d,ds[i]? = some d/\x = .tup [.int i,d]:=by
 unfold L8 at h;rw[a41]at h;cases e:ds[i]? with
 | none=>rw[e]at h;cases h
 | some d=>rw[e]at h;exact⟨d,rfl,(Option.some.inj h).symm⟩
def Dk{K:a1C}{H1:Hp}{x:D}{l:Addr}{ds:List D}(h1:Has K H1 (.ref l) x):oZ K H1 (Ite K (mT x) l) (L8 ds) (λM'=>A1 M' x ds) where
 go:=λi H' M' hi k am s1=>by rw[X0]at hi;obtain⟨a,xs,e1,q1,m1⟩:=o8 s1 am<|h1.mono k;cases e1;exact⟨xs,_,q1,a1T<|by rw[m1.length];omega⟩
 yld:=λi H' M' v H'' hi k am s1 zz=>by obtain⟨T,a,hT,ev,eH,u1⟩:=zz;subst ev;subst eH;obtain⟨a',xs,e1,q1,m1⟩:=o8 s1 am<|h1.mono k;cases e1;obtain⟨d1,g1,r1⟩:=m1.getV<|u1 xs q1;have kt:KT H' (upd H' T<|.tup [.int i,a]):=KT.alloc hT;exact⟨_,Ee g1,kt,am.alloc hT,.tup (SqT.of i5)<|.cons (.int _)<|.cons (r1.mono kt) .nil⟩
 stop:=λi H' M' hi k am s1=>by rw[X0]at hi;obtain⟨a,xs,e1,q1,m1⟩:=o8 s1 am<|h1.mono k;cases e1;exact⟨xs,q1,by rw[m1.length];exact hi⟩
 up:=λ_ _ _ st hq=>aP st hq
def Kl(ta:DTA):DTI:=λe M R=>ta e M λxs M1=>∃ x ds,xs=[x]/\A1 M1 x ds/\R (L8 ds) (λM'=>A1 M' x ds) M1
def ao(hg:Gl X "enumerate")(hm:X.mg "enumerate" = none)(ha:JA X [a] ta)(hs:starEach [a] X.env=[(false,eval a X.env)]:=by rfl):JI X (.Tuple elts kx tp) (.Call (.Name "enumerate" p) [a] [] pos) (Kl ta):=⟨have ha:=ha.out;PI.imp (NI hg hm ha hs) (by rintro σ H R ⟨e,M,R',ok,am,t,f⟩;exact⟨e,M,_,ok,am,t,λxs M1 ⟨x,ds,z,s1,r⟩ vs H1 k1 a1 r1=>by subst z;obtain⟨v,rfl,hv⟩:=r1.one;obtain⟨a,zs,rfl,q1,m1⟩:=o8 s1 a1 hv;exact⟨_,a,rfl,⟨zs,q1⟩,f _ _ M1 r H1 k1 a1 _<|Dk hv⟩⟩)⟩
def nu(M:Mem)(a:Addr):Mem:=λb=>if b=a then none else M b
def kI(h:b≠a):nu M a b=M b:=by unfold nu;rw[if_neg h]
def U5(h:M a=none):nu (l9 M a o) a=M:=by
 funext b;unfold nu l9;by_cases e:b=a
 ·rw[if_pos e,e,h]
 ·rw[if_neg e,if_neg e]
section
variable {K:a1C} {H:Hp} {M:Mem} {p:Addr}
def l7.at(h:l7 K H M)(k:KT0 H (upd H p o))(hp:M p=none):l7 K (upd H p o) M:=λa u m=>by
 cases u with
 | lst ds =>
  obtain⟨xs,z,l⟩:=h a _ m;have hn:a≠p:=by intro e;subst e;rw[hp]at m;cases m
  exact⟨xs,by rw[g8 hn];exact z,l.mono0 k⟩
 | ins C fs =>
  obtain⟨C0,dx,ys,z,l,hc⟩:=h a _ m;have hn:a≠p:=by intro e;subst e;rw[hp]at m;cases m
  exact⟨C0,dx,ys,by rw[g8 hn];exact z,l.mono0 k,hc⟩
 | dic hs kvs =>
  obtain⟨xs,z,l⟩:=h a _ m;have hn:a≠p:=by intro e;subst e;rw[hp]at m;cases m
  exact⟨xs,by rw[g8 hn];exact z,l.mono0 k⟩
def l7.del(h:l7 K H M):l7 K H (nu M p):=λa u m=>by
 by_cases e:a=p
 ·simp_all [if_pos,nu]
 ·rw[kI e]at m;exact h a u m
def Eg:nu M p p=none:=by simp[if_pos,nu]
def l7.none_ext(h:l7 K H M)(e:H p=some (.ext φ)):M p=none:=by
 cases q:M p with
 | none=>rfl
 | some o =>
  cases o with
  | lst ds=>obtain⟨xs,z,_⟩:=h p _ q;rw[e]at z;cases z
  | ins C fs=>obtain⟨_,dx,ys,z,_⟩:=h p _ q;rw[e]at z;cases z
  | dic hs kvs=>obtain⟨xs,z,_⟩:=h p _ q;rw[e]at z;cases z
end
def Yr(t:DTE):DTE:=λe M R=>t e M λx M1=>∃ p ds,x = .ref p/\M1 p=some (.lst ds)/\R (.vl ds) (nu M1 p)
def aq(h:JE X x t):JE X x (Yr t):=⟨have h:=h.out;(W1 h).imp (by rintro σ H Q ⟨e,M,R,ok,am,t,f⟩;exact⟨e,M,_,ok,am,t,λd M1 ⟨p,ds,z,hm,r⟩ v H1 k1 a1 r1=>by subst z;cases r1;obtain⟨xs,hx,lx⟩:=a1.lst hm;exact⟨p,xs,rfl,hx,λo=>f _ _ r _ _ (k1.trans<|KT.any hx) (a1.del.at (KT.any hx).toKT0 Eg)<|.vl (.inl ⟨o,i5⟩)<|lx.mono<|KT.any hx⟩⟩)⟩
def Yu(t:DTE):DTE:=λe M R=>t e M λx M1=>∃ M2:Mem,(∀ b o,M2 b=some o->M1 b=some o)/\R x M2
def ar(h:JE X x t):JE X x (Yu t):=⟨have h:=h.out;PE.imp h (by rintro σ H Q ⟨e,M,R,ok,am,t,f⟩;exact⟨e,M,_,ok,am,t,λd M1 ⟨M2,hs,r⟩ v H1 k1 a1 r1=>f d M2 r v H1 k1 (λa o q=>a1 a o<|hs a o q) r1⟩)⟩
def Sg(t:DTA):DTE:=λe M R=>t e M λds M1=>ds.length<=sizeLine/\R (.vl ds) M1
def P2{K:a1C}{H0 H:Hp}{M:Mem}{R:DK}{Q:VK}{vs:List V}{ds:List D}(f:ik K H0 R Q)(k:KT H0 H)(am:l7 K H M)(l:HasL K H vs ds)(r:R (.vl ds) M)(p:Addr)(hp:H p=none) :
  ∃ q xs,V.ref p = .ref q/\upd H p (.lst vs) q=some (.lst xs)/\∀ o,Q (.ref p) (upd (upd H p<|.lst vs) q<|.frz o<|.lst xs) :=
 ⟨p,vs,rfl,i5,λo=>by rw[cZ];exact f _ M r _ _ (k.trans<|KT.alloc hp) (am.alloc hp)<|.vl (.inl ⟨o,i5⟩)<|l.mono<|KT.alloc hp⟩
def u5(h:JA X es tr):JE X (.List es pos) (Sg tr):=⟨have h:=h.out;(W1<|Iw h).imp (by rintro σ H Q ⟨e,M,R,ok,am,t,f⟩;exact⟨e,M,_,ok,am,t,λds M1 ⟨hz,h1⟩ vs H1 k1 a1 r1=>⟨by rw[r1.length];exact hz,λp hp=>P2 f k1 a1 r1 h1 p hp⟩⟩)⟩
def JL(x y:D)(M:Mem)(R:DK):Prop:=∃ xs ys,E4 M x=some xs/\E4 M y=some ys/\xs.length+ys.length<=sizeLine/\R (.vl<|xs++ys) M
def Sj(ta tb:DTE):DTE:=λe M R=>ta e M λx M1=>tb e M1 λy M2=>JL x y M2 R
def D8(ha:JE X a ta)(hb:JE X b tb):JE X (.BinOp a .Add b pos) (Sj ta tb):=⟨have ha:=ha.out;have hb:=hb.out;(W1<|Rw NX ha hb).imp (by rintro σ H Q ⟨e,M,R,ok,am,t,f⟩;exact⟨e,M,_,ok,am,t,λx M1 h1 v H1 k1 a1 r1=>⟨e,M1,_,ok.mono k1,a1,h1,λy M2 ⟨xs,ys,e1,e2,hz,r⟩ u H2 k2 a2 r2=>by obtain⟨a,vs,rfl,s1,l1⟩:=A3 a2 (r1.mono k2) e1;obtain⟨b,ws,rfl,s2,l2⟩:=A3 a2 r2 e2;exact⟨a,b,vs,ws,rfl,rfl,s1,s2,by rw[l1.length,l2.length];exact hz,λp hp=>P2 f (k1.trans k2) a2 (l1.append l2) r p hp⟩⟩⟩)⟩
theorem HasL.rev{K:a1C}{H:Hp}:∀{xs:List V} {ds:List D},HasL K H xs ds->HasL K H xs.reverse ds.reverse
 | _,_,.nil=>.nil
 | _,_,.cons h t=>by rw[a3r,a3r];exact(HasL.rev t).append (.cons h .nil)
def JH(x:D)(M:Mem)(R:DK):Prop:=∃ ds,E4 M x=some ds/\R (.vl ds.reverse) M
def yV(ds:List D)(M:Mem)(R:DK):Prop:=∃ x ys,ds=[x]/\A1 M x ys/\R (.vl ys) M
def Kx(t:DTA):DTE:=λe M R=>t e M λds M1=>yV ds M1 R
def mU(hg:Gl X x)(hm:X.mg x=none)(hv:bootBuiltins x=some (.type "list"))(ha:JA X (e :: es) t)
  (hn:x ≠ "__name__" := by decide) (hdb:(x == ("__debug__" : Str))=false:=by decide) (he:starEach (e :: es) X.env=(false,eval e X.env) :: starEach es X.env:=by rfl) (hpl:(backTo pos<|starEach es X.env).any (·.1)=false:=by rfl):JE X (.Call (.Name x p) (e :: es) [] pos) (Kx t):=⟨have ha:=ha.out;(W1<|T0 tS hg hm hv ha hn hdb he hpl).imp (by rintro σ H Q ⟨e,M,R,ok,am,t,f⟩;exact⟨e,M,_,ok,am,t,λds M1 ⟨d,ys,z,sq,r⟩ vs H1 k1 a1 r1=>by
  subst z
  obtain⟨v,rfl,hv⟩:=r1.one
  obtain⟨a,xs,rfl,q1,m1⟩:=o8 sq a1 hv
  refine⟨a,xs,rfl,?_,λp hp=>P2 f k1 a1 m1 r p hp⟩
  cases hk:mT d with
  | true=>rw[hk]at q1;exact .inl q1
  | false=>rw[hk]at q1;exact .inr q1⟩)⟩
def CA:D->Option V
 | .non=>some .non
 | .bl b=>some<|.bl b
 | .int i=>some<|.int i
 | .str x=>some<|.str x
 | _=>none
def gW{K:a1C}{H:Hp}{v w:V}{d:D}(h:Has K H v d)(e:CA d=some w):v=w/\cy w=true:=by
 cases h with
 | non=>cases e;exact⟨rfl,rfl⟩
 | bl b=>cases e;exact⟨rfl,rfl⟩
 | int i=>cases e;exact⟨rfl,rfl⟩
 | str x=>cases e;exact⟨rfl,rfl⟩
 | _=>cases e
theorem gX{K:a1C}{H:Hp}:∀{vs ws:List V} {ds:List D},HasL K H vs ds->ds.map CA=ws.map some->vs=ws/\ws.all cy=true
 | _,[],_,.nil,_=>⟨rfl,rfl⟩
 | _,_ :: _,_,.nil,e=>by cases e
 | _,[],_,.cons _ _,e=>by cases e
 | _,w :: ws,_,.cons h t,e=>by
  rw[a1Z,a1Z]at e;injection e with e1 e2
  obtain⟨rfl,f⟩:=gW h e1;obtain⟨rfl,f2⟩:=gX t e2;exact⟨rfl,by rw[a4s,f,f2];rfl⟩
def gIn(neg:Bool):DR2:=λx y M R=>∃(v:V) (ds:List D) (ws:List V),CA x=some v/\A1 M y ds/\ds.map CA=ws.map some/\R (.bl (if neg then !inV v ws else inV v ws)) M
def Uq:DOp X (compareOp .In) (gIn false):=OpR.imp DH (by
 rintro x y H Q ⟨dx,dy,M,R,hx,hy,am,⟨v,ds,ws,e1,sq,e2,r⟩,f⟩;obtain⟨rfl,fv⟩:=gW hx e1;obtain⟨a,xs,rfl,q1,m1⟩:=o8 sq am hy;obtain⟨rfl,fs⟩:=gX m1 e2;refine⟨a,xs,rfl,?_,fv,fs,f _ M r _ H (KT.refl H) am<|.bl _⟩;cases hk:mT dy with
 | true=>rw[hk]at q1;exact .inl q1
 | false=>rw[hk]at q1;exact .inr q1)
def Oo:DOp X (compareOp .NotIn) (gIn true):=OpR.imp sj (by
 rintro x y H Q ⟨dx,dy,M,R,hx,hy,am,⟨v,ds,ws,e1,sq,e2,r⟩,f⟩;obtain⟨rfl,fv⟩:=gW hx e1;obtain⟨a,xs,rfl,q1,m1⟩:=o8 sq am hy;obtain⟨rfl,fs⟩:=gX m1 e2;refine⟨a,xs,rfl,?_,fv,fs,f _ M r _ H (KT.refl H) am<|.bl _⟩;cases hk:mT dy with
 | true=>rw[hk]at q1;exact .inl q1
 | false=>rw[hk]at q1;exact .inr q1)
def cD(h:Heap)(p:PyData)(y:Value):Bool:=@decide (∃ d as,Reads h y d as/\PyData.eqv d p=true) (a2A _)
def pY(c:d.canLay0=true)(r:Reads h y d as):cD h p y=PyData.eqv d p:=by grind[decide_eq_true,decide_eq_false,SeqAt.Reads.unique,cD,PyData.eqv,a2A]
theorem lK(I:Inv X pins σ H s)(am:l7 X.K H M)(hB:B.units+62<cLine)(cx:cl 60 x=true)(rx:Reads s.heap u (pyD x) bs) :
  ∀{ds:List D} {vs:List V} {us:List Value},clL 59 ds=true->HasL X.K H vs ds->j8 vs us->(∀ w∈us,SeqAt.EqAt B s w u<|cD s.heap (pyD x) w)/\us.any (cD s.heap<|pyD x) = @decide (x∈ds) (a2A _)
 | [],_,_,_,h,r=>by cases h;cases r;simp
 | d :: ds,_,_,c,h,r=>by
  cases h with
  | cons h hl =>
   cases r with
   | cons r rl =>
    have c':cl 59 d=true/\clL 59 ds=true:=by simpa[clL]using c
    obtain⟨ih1,ih2⟩:=lK I am hB cx rx c'.2 hl rl;obtain⟨p1,p2,p3⟩:=nv c'.1;obtain⟨q1,q2,q3⟩:=nv (M:=M) cx;obtain⟨as,rd⟩:=J6 I am p1 h r;have es:=pY (p:=pyD x) p2 rd;refine⟨λw hw=>?_,?_⟩
    ·rcases a1Y.mp hw with rfl|hw
     ·rw[es];exact SeqAt.eqAt_reads _ _ B s _ _ _ _ rd rx p2 q2<|by have:=Nat.min_le_left (pyD d).depth (pyD x).depth;omega
     ·exact ih1 w hw
    ·rw[a4t,es,ih2]
     have ev:=tM c'.1 cx;by_cases e:d=x
     ·rw[ev.mpr e];exact(@decide_eq_true _ (a2A _)<|by rw[e];exact a1M).symm
     ·have:PyData.eqv (pyD d) (pyD x)=false:=by
       cases z:PyData.eqv (pyD d) (pyD x)with
       | false=>rfl
       | true=>exact absurd (ev.mp z) e
      rw[this,Bool.false_or]
      congr 1
      refine propext ⟨λz=>a1O _ z,λz=>?_⟩
      rcases a1Y.mp z with z|z
      ·exact absurd z.symm e
      ·exact z
abbrev cA:=Ev->Mem->(Bool->Mem->Prop)->Prop
abbrev YM(X:Cx)(ifs:List Expr)(t:cA):Prop:=ig X ifs<|upT X.K t
structure Lq(X:Cx)(ifs:List Expr)(t:cA):Prop where
 out:YM X ifs t
def Eh:cA:=λ_ M R=>R true M
def ig.imp(h:ig X ifs t)(i:∀ σ H Q,t' σ H Q->t σ H Q):ig X ifs t':=λpins s σ H Q I q=>h pins s σ H Q I<|i σ H Q q
def n8:Lq X [] Eh:=⟨ig.imp Iq<|by rintro σ H Q ⟨e,M,R,ok,am,t,f⟩;exact f true M t H (KT.refl H) am⟩
def N9(h:JT X c t):Lq X [c] t:=⟨have h:=h.out;Io h⟩
structure jq(e0:Ev)(g:DTG)(tc:cA)(te:DTE)(ds:List D)(stay:Mem->Prop)(M1:Mem)(E:List D->Mem->Prop)(W:Nat->List D->Mem->Prop):Prop where
 start:W 0 [] M1
 stays:∀ i ys M,i<=ds.length->W i ys M->stay M
 turn:∀(i:Nat) (d:D) ys M,ds[i]? = some d->W i ys M->g d e0 M λe2 M2=>tc e2 M2 λb M3=>if b=true then te e2 M3 λv M4=>ys.length<sizeLine/\W (i+1) (ys++[v]) M4 else W (i+1) ys M3
 done:∀ ys M,W ds.length ys M->E ys M
def Sx(e0:Ev)(g:DTG)(tc:cA)(te:DTE)(ds:List D)(stay:Mem->Prop)(M1:Mem)(R:DK):Prop:=∃ W,jq e0 g tc te ds stay M1 (λys M=>R (.vl ys) M) W
def Sy(e0:Ev)(g:DTG)(tc:cA)(te:DTE)(ds:List D)(stay:Mem->Prop)(M1:Mem)(R:DK):Prop:=∃ W,jq e0 g tc te ds stay M1 (λys M=>∀ p,M p=none->R (.ref p) (l9 M p<|.lst ys)) W
def zh(n:Nat)(caps:List Nat)(ti:DTI)(g:DTG)(tc:cA)(te:DTE):DTE:=λe M R=>ti e M λds stay M1=>Sx (hV n caps e) g tc te ds stay M1 R
def Kz(n:Nat)(caps:List Nat)(ti:DTI)(g:DTG)(tc:cA)(te:DTE):DTE:=λe M R=>ti e M λds stay M1=>Sy (hV n caps e) g tc te ds stay M1 R
def CWH(K:a1C)(H1:Hp)(D0:Addr)(len:Nat)(W:Nat->List D->Mem->Prop)(i m:Nat)(H':Hp):Prop:=m=len - i/\i<=len/\∃ M' ys xs,KT H1 H'/\l7 K H' M'/\H' D0=some (.lst xs)/\M' D0=none/\HasL K H' xs ys/\W i ys M'
def hJ{K:a1C}{H1:Hp}{J:It}{ds:List D}{stay:Mem->Prop}{M1:Mem}{n:Nat}{caps:List Nat}{σ:St}{e:Ev}{E:List D->Mem->Prop}{W:Nat->List D->Mem->Prop}{D0:Addr}{Qd:Hp->Prop}(ok:u6 K H1 σ e)(a1:l7 K H1 M1)(wk:oZ K H1 J ds stay)(hD:H1 D0=none)
  (C:jq (hV n caps e) g tc te ds stay M1 E W) (fin:∀ ys M xs H',KT H1 H'->l7 K H' M->H' D0=some (.lst xs)->M D0=none->HasL K H' xs ys->E ys M->Qd H') (i m:Nat) (H2:Hp) (w:CWH K H1 D0 ds.length W i m H2) :
  (J.stop i H2/\Qd H2)\/(J.go i H2/\∀ x H',J.yld i H2 x H'->(∃ p,Gy p (upG K g) x (tR n caps σ) H' λσ2 H3=>∃ p,Gx p (upT K tc) σ2 H3 λb H3'=>if b=true then ∃ p,Gz p (up K te) σ2 H3' λv H4 =>
   ∃ ys,H4 D0=some (.lst ys)/\ys.length<sizeLine/\∃ m',m'<m/\CWH K H1 D0 ds.length W (i+1) m' (upd H4 D0<|.lst<|ys++[v])else ∃ m',m'<m/\CWH K H1 D0 ds.length W (i+1) m' H3')):=by
 obtain⟨rfl,hi,M2,ys,xs,k2,a2,hx,hM,lx,w2⟩:=w
 have a2':l7 K H2 (l9 M2 D0<|.lst ys):=λa o q=>by
  by_cases e:a=D0
  ·subst e;rw[f7]at q;cases q;exact⟨xs,hx,lx⟩
  ·rw[i7 e]at q;exact a2 a o q
 have st:=wk.up _ D0 (.lst ys) (C.stays i ys M2 hi w2) hM
 by_cases hlt:i<ds.length
 ·refine .inr ⟨wk.go i H2 _ hlt k2 a2' st,λy H' yl=>?_⟩
  obtain⟨d,hd,k3,a3',r⟩:=wk.yld i H2 _ y H' hlt k2 a2' st yl
  obtain⟨xs',hx',lx'⟩:=a3'.lst f7
  have a3:l7 K H' M2:=λa o q=>by
   have e:a≠D0:=by intro e;subst e;rw[hM]at q;cases q
   exact a3' a o<|by rw[i7 e];exact q
  have kh:KT H' (upd H' D0<|mY D0 xs'):=KT.any hx'
  have k1h:=(k2.trans k3).trans kh
  have same:∀{H3:Hp},H3 D0=some (mY D0 xs')->upd (upd H3 D0<|.lst xs') D0 (mY D0 xs')=H3:=λ{H3} q=>by rw[cZ];funext b;by_cases e:b=D0;all_goals simp_all [i5,g8]
  refine⟨D0,xs',hx',d,hV n caps e,M2,_,r.mono kh,Pa n caps<|ok.mono k1h,a3.at kh.toKT0 hM,C.turn i d ys M2 hd w2,λe3 M3 h3 σ3 H3 k4 a4 ok3=>?_⟩
  have q3:=k4.ex D0 _ i5
  refine⟨q3,D0,xs',i5,?_⟩
  rw[same q3]
  refine⟨e3,M3,_,ok3,a4,h3,λb M4 h4 H4 k5 a5=>?_⟩
  have q4:=k5.ex D0 _ q3
  refine⟨q4,?_⟩
  have kk:=k1h.trans<|k4.trans k5
  cases b with
  | false =>
   have h4':=h4
   show ∃ m',m'<ds.length - i/\CWH K H1 D0 ds.length W (i+1) m' (upd H4 D0<|.lst xs')
   exact⟨ds.length - (i+1),by omega,rfl,hlt,M4,ys,xs',kk.new hD,a5.at (KT0.ext q4)<|a5.none_ext q4,i5,a5.none_ext q4,(lx'.mono<|kh.trans<|k4.trans k5).mono0<|KT0.ext q4,h4'⟩
  | true =>
   show ∃ p,Gz p (up K te) σ3 (upd H4 D0<|.lst xs') _
   refine⟨D0,xs',i5,?_⟩
   rw[same q4]
   refine⟨e3,M4,_,ok3.mono k5,a5,h4,?_⟩
   rintro dv M5 ⟨hz,w5⟩ vv H5 k6 a6 r6
   have q5:=k6.ex D0 _ q4
   refine⟨q5,xs',i5,by rw[lx'.length];exact hz,ds.length - (i+1),by omega,rfl,hlt,M5,ys++[dv],xs'++[vv],?_,?_,i5,a6.none_ext q5,?_,w5⟩
   ·rw[cZ];exact(kk.trans k6).new hD
   ·rw[cZ];exact a6.at (KT0.ext q5)<|a6.none_ext q5
   ·rw[cZ];exact((lx'.mono<|kh.trans<|k4.trans<|k5.trans k6).mono0<|KT0.ext q5).append (.cons (r6.mono0<|KT0.ext q5) .nil)
 ·have e':i=ds.length:=by omega
  subst e'
  exact .inl ⟨wk.stop _ H2 _ (a1U _) k2 a2' st,fin ys M2 xs H2 k2 a2 hx hM lx<|C.done ys M2 w2⟩
def u3(caps:List Nat)(tgs cps:List Str)(hc:X.calm=true)(hcell:∀ x∈scope.names,x.2 ≠ .cell)(hkind:scope.kind = .function)(hnames:∀ x∈scope.names,x.2 = .local->scope.names.lookup x.1=some .local)
  (hfr:∀ x∈scope.names,x.2 = .free->x.1∈cps) (hN:caps.map (λi=>X.N[i]?)=cps.map some) (hX:∀ x∈cps,X.env.scope.names.lookup x=some .cell/\scope.names.lookup x=some .free)
  (hsc:∀ x∈cps,(relabel scope X.env).names.lookup x=some .cell\/(relabel scope X.env).names.lookup x=some .free)
  (hi:JI X tg iter ti) (hg:∀ cl s3 H3 C fp pins,JG (cxF X scope cl (tgs++cps) s3 H3 C fp pins) tg g) (hq:∀ cl s3 H3 C fp pins,Lq (cxF X scope cl (tgs++cps) s3 H3 C fp pins) ifs tc) (he:∀ cl s3 H3 C fp pins,JE (cxF X scope cl (tgs++cps) s3 H3 C fp pins) elt te)
  (hs:∀ x,foldedSetIterable iter X.env x=pure x:=by intro _;rfl):JE X (.ListComp elt [⟨tg,iter,ifs,0⟩] scope pos) (zh tgs.length caps ti g tc te):=⟨have hi:=hi.out;have hg:=λv0 v1 v2 v3 v4 v5=>(hg v0 v1 v2 v3 v4 v5).out;have hq:=λv0 v1 v2 v3 v4 v5=>(hq v0 v1 v2 v3 v4 v5).out;have he:=λv0 v1 v2 v3 v4 v5=>(he v0 v1 v2 v3 v4 v5).out;(W1<|wg hc hcell hkind hnames hfr hN hX hsc hi (λcl s3 H3 C fp pins=>rW<|hg cl s3 H3 C fp pins) (λcl s3 H3 C fp pins=>gA<|hq cl s3 H3 C fp pins) (λcl s3 H3 C fp pins=>rY<|he cl s3 H3 C fp pins) hs).imp (by rintro σ H Q ⟨e,M,R,ok,am,t,f⟩;exact⟨e,M,_,ok,am,t,λds stay M1 hW H1 k1 a1 J wk=>by
  intro D0 hD
  obtain⟨W,C⟩:=hW
  refine⟨λi m H'=>CWH X.K H1 D0 ds.length W i m H',⟨ds.length,by simp,a2e _,M1,[],[],KT.alloc hD,a1.alloc hD,i5,a1.fresh hD,.nil,C.start⟩,λi m H2 w=>hJ (Qd:=λH'=>∃ p xs,V.ref D0 = .ref p/\H' p=some (.lst xs)/\∀ o,Q (.ref D0)<|upd H' p<|.frz o<|.lst xs) (ok.mono k1) a1 wk hD C (λys M2 xs H' k2 a2 hx hM lx r=>?_) i m H2 w⟩
  exact⟨D0,xs,rfl,hx,λo=>f _ M2 r _ _ (k1.trans<|k2.trans<|KT.any hx) (a2.at (KT.any hx).toKT0 hM)<|.vl (.inl ⟨o,i5⟩)<|lx.mono<|KT.any hx⟩⟩)⟩
def xh(caps:List Nat)(tgs cps:List Str)(hc:X.calm=true)(hcell:∀ x∈scope.names,x.2 ≠ .cell)(hkind:scope.kind = .function)(hnames:∀ x∈scope.names,x.2 = .local->scope.names.lookup x.1=some .local)
  (hfr:∀ x∈scope.names,x.2 = .free->x.1∈cps) (hN:caps.map (λi=>X.N[i]?)=cps.map some) (hX:∀ x∈cps,X.env.scope.names.lookup x=some .cell/\scope.names.lookup x=some .free)
  (hsc:∀ x∈cps,(relabel scope X.env).names.lookup x=some .cell\/(relabel scope X.env).names.lookup x=some .free)
  (hi:JI X tg iter ti) (hg:∀ cl s3 H3 C fp pins,JG (cxF X scope cl (tgs++cps) s3 H3 C fp pins) tg g) (hq:∀ cl s3 H3 C fp pins,Lq (cxF X scope cl (tgs++cps) s3 H3 C fp pins) ifs tc) (he:∀ cl s3 H3 C fp pins,JE (cxF X scope cl (tgs++cps) s3 H3 C fp pins) elt te)
  (hs:∀ x,foldedSetIterable iter X.env x=pure x:=by intro _;rfl):JE X (.ListComp elt [⟨tg,iter,ifs,0⟩] scope pos) (Kz tgs.length caps ti g tc te):=⟨have hi:=hi.out;have hg:=λv0 v1 v2 v3 v4 v5=>(hg v0 v1 v2 v3 v4 v5).out;have hq:=λv0 v1 v2 v3 v4 v5=>(hq v0 v1 v2 v3 v4 v5).out;have he:=λv0 v1 v2 v3 v4 v5=>(he v0 v1 v2 v3 v4 v5).out;(wg hc hcell hkind hnames hfr hN hX hsc hi (λcl s3 H3 C fp pins=>rW<|hg cl s3 H3 C fp pins) (λcl s3 H3 C fp pins=>gA<|hq cl s3 H3 C fp pins) (λcl s3 H3 C fp pins=>rY<|he cl s3 H3 C fp pins) hs).imp (by rintro σ H Q ⟨e,M,R,ok,am,t,f⟩;exact⟨e,M,_,ok,am,t,λds stay M1 hW H1 k1 a1 J wk=>by
  intro D0 hD
  obtain⟨W,C⟩:=hW
  refine⟨λi m H'=>CWH X.K H1 D0 ds.length W i m H',⟨ds.length,by simp,a2e _,M1,[],[],KT.alloc hD,a1.alloc hD,i5,a1.fresh hD,.nil,C.start⟩,λi m H2 w=>hJ (ok.mono k1) a1 wk hD C (λys M2 xs H' k2 a2 hx hM lx r=>?_) i m H2 w⟩
  refine f _ _ (r D0 hM) _ _ (k1.trans k2) (λa o q=>?_)<|.ref D0
  by_cases e:a=D0
  ·subst e;rw[f7]at q;cases q;exact⟨xs,hx,lx⟩
  ·rw[i7 e]at q;exact a2 a o q⟩)⟩
def C7(caps:List Nat)(tgs cps:List Str)(hNd:X.N.Nodup)(hxi:X.N[i]? = some x)(hx:Loc X.env.scope x)(hc:X.calm=true)(hcell:∀ x∈scope.names,x.2 ≠ .cell)(hkind:scope.kind = .function)(hnames:∀ x∈scope.names,x.2 = .local->scope.names.lookup x.1=some .local)
  (hfr:∀ x∈scope.names,x.2 = .free->x.1∈cps) (hN:caps.map (λi=>X.N[i]?)=cps.map some) (hX:∀ x∈cps,X.env.scope.names.lookup x=some .cell/\scope.names.lookup x=some .free)
  (hsc:∀ x∈cps,(relabel scope X.env).names.lookup x=some .cell\/(relabel scope X.env).names.lookup x=some .free)
  (hi:JI X tg iter ti) (hg:∀ cl s3 H3 C fp pins,JG (cxF X scope cl (tgs++cps) s3 H3 C fp pins) tg g) (hq:∀ cl s3 H3 C fp pins,Lq (cxF X scope cl (tgs++cps) s3 H3 C fp pins) ifs tc) (he:∀ cl s3 H3 C fp pins,JE (cxF X scope cl (tgs++cps) s3 H3 C fp pins) elt te)
  (hsw:swapsWith (.ListComp elt [⟨tg,iter,ifs,0⟩] scope pos) (some<|.Name x pos') pos2.line X.env=pure true:=by rfl) (hs:∀ x,foldedSetIterable iter X.env x=pure x:=by intro _;rfl) (hf:X.fn x=true\/X.env.scope.names.lookup x=some .local:=by rw[10]):JS X (.Assign [.Name x pos'] (.ListComp elt [⟨tg,iter,ifs,0⟩] scope pos) pos2) (KC (zh tgs.length caps ti g tc te)<|gZ i):=⟨have hi:=hi.out;have hg:=λv0 v1 v2 v3 v4 v5=>(hg v0 v1 v2 v3 v4 v5).out;have hq:=λv0 v1 v2 v3 v4 v5=>(hq v0 v1 v2 v3 v4 v5).out;have he:=λv0 v1 v2 v3 v4 v5=>(he v0 v1 v2 v3 v4 v5).out;(ND (Tr<|Ii hc hcell hkind hnames hfr hN hX hsc hi (λcl s3 H3 C fp pins=>rW<|hg cl s3 H3 C fp pins) (λcl s3 H3 C fp pins=>gA<|hq cl s3 H3 C fp pins) (λcl s3 H3 C fp pins=>rY<|he cl s3 H3 C fp pins) hNd hxi hx hf hs) hsw).imp (by rintro E σ H ⟨e,M,F,ok,am,t,f⟩;exact⟨e,M,_,ok,am,t,λds stay M1 hW H1 k1 a1 J wk=>by
  intro D0 hD
  obtain⟨W,C⟩:=hW
  refine⟨λi m H'=>CWH X.K H1 D0 ds.length W i m H',⟨ds.length,by simp,a2e _,M1,[],[],KT.alloc hD,a1.alloc hD,i5,a1.fresh hD,.nil,C.start⟩,λj m H2 w=>hJ (Qd:=λH'=>∃ p xs,V.ref D0 = .ref p/\H' p=some (.lst xs)/\∀ o,E.nx (σ.set i<|some<|.ref D0)<|upd H' p<|.frz o<|.lst xs) (ok.mono k1) a1 wk hD C (λys M2 xs H' k2 a2 hx hM lx r=>?_) j m H2 w⟩
  exact⟨D0,xs,rfl,hx,λo=>f.nx _ M2 r _ _ (k1.trans<|k2.trans<|KT.any hx) (a2.at (KT.any hx).toKT0 hM)<|(ok.mono<|k1.trans<|k2.trans<|KT.any hx).set (.vl (.inl ⟨o,i5⟩)<|lx.mono<|KT.any hx) i⟩⟩)⟩
def SqL.upd{K:a1C}{H:Hp}{a it:Addr}{xs:List V}{o:HO}(h:SqL K H a xs)(ne:a≠it):SqL K (upd H it o) a xs:=h.elim (λz=>.inl<|by unfold Rd at z ⊢;rw[g8 ne];exact z) .inr
def RZ(te:DTE):DTE:=λe M R=>te e M λx M1=>JH x M1 R
def yP(hc:X.calm=true)(g1:Gl X "list")(m1:X.mg "list" = none)(v1:bootBuiltins "list" = some (.type "list"))(g2:Gl X "reversed")(m2:X.mg "reversed" = none)(v2:bootBuiltins "reversed" = some (.type "reversed"))(he:JE X e te)
  (h1:starEach [e] X.env=(false,eval e X.env) :: starEach [] X.env:=by rfl) (h2:starEach [.Call (.Name "reversed" p2) [e] [] pos2] X.env=(false,eval (.Call (.Name "reversed" p2) [e] [] pos2) X.env) :: starEach [] X.env:=by rfl):JE X (.Call (.Name "list" p1) [.Call (.Name "reversed" p2) [e] [] pos2] [] pos) (RZ te):=⟨have he:=he.out;(W1<|T0 (zk hc) g1 m1 v1 (C5 (T0 jk g2 m2 v2 (C5 he Q7 h1) (by decide) (by decide) h1) Q7 h2) (by decide) (by decide) h2).imp (by rintro σ H Q ⟨e,M,R,ok,am,t,f⟩;exact⟨e,M,_,ok,am,t,λx M1 ⟨ds,hi,r⟩ v H1 k1 a1 r1=>by
  obtain⟨a,xs,rfl,sq,lx⟩:=A3 a1 r1 hi
  refine⟨a,xs,rfl,sq,λit hit hne hge=>⟨it,a,xs,rfl,i5,SqL.upd sq<|Ne.symm hne,Ne.symm hne,hge,λp hp=>?_⟩⟩
  have q1:p≠it:=λz=>by simp_all [i5]
  rw[g8 q1]at hp
  have e1:∀ o u,aG (L2.upd (L2.upd H1 it o) p u) it=L2.upd H1 p u:=λo u=>by
   funext b;by_cases z:b=it
   ·subst z;rw[X1,g8<|Ne.symm q1,hit]
   ·rw[D4 z]
    by_cases y:b=p
    ·subst y;rw[i5,i5]
    ·rw[g8 y,g8 y,g8 z]
  rw[e1]
  exact P2 f k1 a1 lx.rev r p hp⟩)⟩
def Kn(n:Nat)(t:pe):DTG:=λd e M R=>∃ ds,E4 M d=some ds/\ds.length=n/\t ds e M R
def fm(hc:X.calm=true)(h:JGs X xs t)
  (hn:(assignEach xs X.env).length=n:=by rfl) (hst:(assignEach xs X.env).findIdx? (·.1)=none:=by rfl):JG X (.Tuple xs k pos) (Kn n t):=⟨have h:=h.out;PG.imp (NL hc h hn hst) (by
  rintro v σ H Q ⟨d,e,M,R,r,ok,am,⟨ds,hi,hl,g⟩,f⟩
  obtain⟨a,xs,e1,sq,lx⟩:=A3 am r hi
  exact⟨a,xs,e1,sq,by rw[lx.length];exact hl,ds,e,M,R,lx,ok,am,g,f⟩)⟩
def LB(ds:List D)(M:Mem)(Q:List D->(Mem->Prop)->Mem->Prop):Prop:=∃ xs,ds=[.vl xs]/\Q xs.reverse (λ_=>True) M
def Km(ta:DTA):DTI:=λe M Q=>ta e M λds M1=>LB ds M1 Q
def Dm{K:a1C}{H1:Hp}{a:Addr}{xs:List V}{ds:List D}(h:Has K H1 (.ref a) (.vl ds))(lx:HasL K H1 xs ds):oZ K H1 (Itb K a xs.length) ds.reverse (λ_=>True) where
 go:=λi H' M' hi k am _=>by
  rw[a2n,<- lx.length]at hi;obtain⟨a',ys,e,sq',l'⟩:=(h.mono k).il;cases e;have hy:ys.length=xs.length:=by rw[l'.length,lx.length]
  exact⟨hi,ys,_,sq',a1T<|by omega⟩
 yld:=λi H' M' x H'' hi k am _ q=>by obtain⟨e,y⟩:=q;subst e;rw[a2n,<- lx.length]at hi;obtain⟨a',ys,e,sq',l'⟩:=(h.mono k).il;cases e;obtain⟨d,hd,r⟩:=l'.getV<|y ys sq';refine⟨d,?_,KT.refl _,am,r⟩;rw[List.getElem?_reverse<|by rw[<- lx.length];exact hi,<- lx.length];exact hd
 stop:=λi H' M' hi k am _=>by rw[a2n,<- lx.length]at hi;exact hi
 up:=λ_ _ _ _ _=>trivial
def Jg(g1:Gl X "reversed")(m1:X.mg "reversed" = none)(v1:bootBuiltins "reversed" = some (.type "reversed"))(ha:JA X [a] ta)
  (hs:starEach [a] X.env=[(false,eval a X.env)]:=by rfl):JI X tg (.Call (.Name "reversed" p) [a] [] pos) (Km ta):=⟨have ha:=ha.out;PI.imp (NJ g1 m1 v1 ha hs) (by
  rintro σ H R ⟨e,M,R',ok,am,t,f⟩
  exact⟨e,M,_,ok,am,t,λds M1 z vs H1 k1 a1 r1=>by obtain⟨xs,rfl,r⟩:=z;obtain⟨v,rfl,hv⟩:=r1.one;obtain⟨a,ws,e1,sq,lx⟩:=hv.il;subst e1;exact⟨a,ws,rfl,sq,f _ _ M1 r H1 k1 a1 _<|Dm hv lx⟩⟩)⟩
end DL
namespace L2
open PySem PySem.Spec PyProof.Rows
end L2
namespace DL
open PyProof.Rows hiding St
structure xP(K:a1C)(u:Value)(d:D):Prop where
 ex:∃ v,l8 v u/\Vz K v d
inductive m7 (K:a1C):List Value->List D->Prop
 | nil:m7 K [] []
 | cons {u:Value} {d:D} {us:List Value} {ds:List D}:xP K u d->m7 K us ds->m7 K (u :: us) (d :: ds)
section
variable {K:a1C}
def u7:xP K (.str x t) (.str x):=⟨.str x,⟨t,rfl⟩,λ_=>.str x⟩
theorem m7.out:∀{us:List Value} {ds:List D},m7 K us ds->∃ vs,j8 vs us/\∀ H,HasL K H vs ds
 | _,_,.nil=>⟨[],.nil,λ_=>.nil⟩
 | _,_,.cons h t=>by obtain⟨v,r,k⟩:=h.ex;obtain⟨vs,rs,ks⟩:=m7.out t;exact⟨v :: vs,.cons r rs,λH=>.cons (k H)<|ks H⟩
def B9{a:Addr}{od:Option Addr}{osl:Array (Option Value)}{us:List Value}{ds:List D}{cap:Nat}(l:K.lookup a=some ⟨.type "tuple",od,.seq us.toArray cap,osl⟩)(n:decide (us.length<=1000)=true)(h:m7 K us ds):xP K (.ref a) (.tup ds):=by obtain⟨vs,r,k⟩:=h.out;have hn:vs.length<=sizeLine:=a1N (by rw[r.length];exact of_decide_eq_true n) (show 1000<=sizeLine by decide);exact⟨.ref a,rfl,λH=>.tup (.inr ⟨_,_,_,l,rfl,rfl,a1N (of_decide_eq_true n) (show 1000<=sizeLine by decide),r⟩)<|k H⟩
def tm(X:K.In h)(G:h.Ns mainGlobals mg)(n:PySem.W.nsIn K mainGlobals x=some (some u))(c:xP K u d):GlD K mg x d:=by obtain⟨v,r,k⟩:=c.ex;exact⟨v,u,PySem.W.mg_of X G n,r,k⟩
end
def gN(x:D5 P w H h a o):∃ u,h.get? a=some u:=by
 cases o with
 | lst _=>obtain⟨_,_,_,_,e⟩:=x;exact⟨_,e⟩
 | tup _=>obtain⟨_,_,_,o,e,_⟩:=x;exact⟨_,e⟩
 | dK _=>obtain⟨_,_,_,_,o,_,_,e,_⟩:=x;exact⟨_,e⟩
 | dT _ _=>obtain⟨_,_,_,_,o,_,_,e,_⟩:=x;exact⟨_,e⟩
 | set _ _=>obtain⟨o,_,_,_,e,_⟩:=x;exact⟨_,e⟩
 | ins _ _ _=>obtain⟨_,_,_,e,_⟩:=x;exact⟨_,e⟩
 | own _=>exact x
 | xd _=>obtain⟨_,⟨_,_,_,e,_⟩,_⟩:=x;exact⟨_,e⟩
 | rng _ _=>obtain⟨_,_,_,e⟩:=x;exact⟨_,e⟩
 | frz _ _=>exact⟨_,x.1⟩
 | tbl _=>exact⟨_,x⟩
 | met _ _=>exact⟨_,x⟩
 | ext _=>exact x.2.1
def BW(X:Cx):St:=a16 X.N.length none
def Jt(I:Inv X pins σ H s):Inv X [] (BW X) H s:=by
 refine(I.pins_of (pins':=[]) λp hp=>by cases hp).weak (by rw[BW,a28];exact I.len.symm) λi v h=>?_;rw[BW,a2I]at h;split at h
 ·exact absurd (Option.some.inj h)<|by intro z;cases z
 ·cases h
def Cov(B s0:Heap)(H':Hp)(fs:List Addr)(h:Heap):Prop:=∀ b o,h.get? b=some o->((∃ u,H' b=some u) \/ ∃ o0,s0.get? b=some o0)->b∉fs->B.get? b=some o
def CXr(P:Program)(w:World)(base:Heap):CXT:=λouter H s E e s'=>∃ a cls a0 H' B,e = .ref a/\s'.os=s.os/\AllBare s'.gens/\Un (frs outer) [] H H' s.heap s'.heap/\HOk P w H' s'.heap/\KT H H' /\
 base.StaysIn B/\Cov B s.heap H' (frs outer) s'.heap/\Heap.FlyingW B outer a cls a0 s'.heap/\E cls none H'
def Air(B:Heap)(l:List Env)(a:Addr)(cls a0:Value)(h:Heap):Prop:=Heap.FlyingW B l a cls a0 h \/ ∃ env l' L,l=env :: l'/\env.frame=some L/\Heap.HeldW B l a cls a0 L h
def Air.frames(x:Air B l a cls a0 h):h.FunFrames B l:=by
 rcases x with x|⟨_,_,_,_,_,x⟩
 ·exact x.2.2.1
 ·exact x.2.2.1
def Air.base(x:Air B l a cls a0 h):B.StaysIn h/\B.get? a=none:=by
 rcases x with x|⟨_,_,_,_,_,x⟩
 ·exact⟨x.1,x.2.1⟩
 ·exact⟨x.1,x.2.1⟩
def Air.data(x:Air B l a cls a0 h):∃ oe vs,h.get? a=some oe/\oe.data = .fields vs:=by rcases x with⟨_,_,_,oe,vs,_,_,_,h1,_,h2,_⟩|⟨_,_,_,_,_,_,_,_,oe,vs,_,_,_,h1,_,h2,_⟩<;>exact⟨oe,vs,h1,h2⟩
def Air.leaves(hfr:A.frames=some (env :: outer))(hf:env.frame=some L)(x:Air B (env :: outer) a cls a0 s.heap)
  (hQ:∀ h',Heap.FlyingW B outer a cls a0 h'->s.heap.UpToSlots h'->Q () { s with heap:=h' }):wpAny M A (leaving env<|.ref a) Q E s:=by
 rcases x with x|⟨_,_,_,e1,e2,x⟩
 ·exact wpAny_leaves_onW hfr hf x hQ
 ·injection e1 with e1 e3
  subst e1 e3
  obtain rfl:=Option.some.inj<|hf.symm.trans e2
  unfold leaving
  refine a1D<|wpAny_noteFrame_againW hf x.2.2.2 ?_
  refine wpAny_landsW x λh' hfl hu=>?_
  obtain⟨k1,k2,⟨_,_,k3⟩,k4⟩:=hfl
  exact hQ h' ⟨k1,k2,k3,k4⟩ hu
def qC(h:Heap):h.UpToSlots h:=λb o hb _=>⟨o.slots,hb⟩
def Air.looks(hfr:A.frames=some (env :: outer))(hf:env.frame=some L)(x:Air B (env :: outer) a cls a0 s.heap)
  (hQ:∀ h',Heap.HeldW B (env :: outer) a cls a0 L h'->s.heap.UpToSlots h'->Q () { s with heap:=h' }):wpAny M A (noteFrame (.ref a) env) Q E s:=by
 rcases x with x|⟨_,_,_,e1,e2,x⟩
 ·exact wpAny_looks_onW hfr hf x hQ
 ·injection e1 with e1 e3
  subst e1 e3
  obtain rfl:=Option.some.inj<|hf.symm.trans e2
  exact wpAny_noteFrame_againW hf x.2.2.2<|hQ s.heap x<|qC _
def XP(X:Cx)(mk:Bool)(EX:Value->Hp->Prop):Value->Shared->Prop:=λe s' =>
 (mk=true/\∃ a cls h vs H',e = .ref a/\EX cls H'/\Heap.MadeExcOf h s'.heap a cls vs/\Inv X [] (BW X) H' { s' with heap:=h }) \/
 (∃ pins σ Hc sc a cls a0 H' B,Inv X pins σ Hc sc/\e = .ref a/\s'.os=sc.os/\AllBare s'.gens/\Un (frs X.stack) [] Hc H' sc.heap s'.heap/\HOk X.prog X.w H' s'.heap /\
  X.base.StaysIn B/\Cov B sc.heap H' (frs X.stack) s'.heap/\Air B X.stack a cls a0 s'.heap/\EX cls H')
def IB{X:Cx}{mk:Bool}{EX:Value->Hp->Prop}:aK (CXr X.prog X.w X.base) (X.wish<|XP X mk EX) (λcls _ H'=>EX cls H'):=λpins σ H s e s' I h=>by obtain⟨a,cls,a0,H',B,rfl,ho,hg,un,hok,_,hB,cov,fl,hE⟩:=h;exact .inr ⟨pins,σ,H,s,a,cls,a0,H',B,I.unwish,rfl,ho,hg,un,hok,hB,cov,.inl fl,hE⟩
section
variable {P:Program} {w:World} {K:a1C} {mg:Str->Option Value} {base:Heap} {N:List Str} {qual:Str} {scope:Scope} {f:Addr} {cd:Value} {A:Around} {outer:List Env} {s:Shared} {H:Hp} {E:XK}
def JM(hf:env.frame=some L):frs (env :: outer)=L :: frs outer:=by unfold frs;rw[a3x,hf]
def Cb(hEX:∀ cls H',EX cls H'->KT H H'/\E cls none H')
  (h:XP (K1 (CXr P w base) P w K mg base N qual scope f cd A outer s H E) true EX e s'):(K1 (CXr P w base) P w K mg base N qual scope f cd A outer s H E).xe e s':=by
 have hfc:frs (K1 (CXr P w base) P w K mg base N qual scope f cd A outer s H E).stack=s.heap.objs.size :: frs outer:=JM rfl
 have noL:s.heap.get? s.heap.objs.size=none:=a3U<|a1U _
 show wpAny (model P w) (A.deeper<|envOfC qual scope s.heap.objs.size f cd) (leaving (envOfC qual scope s.heap.objs.size f cd) e) (λ_ s''=>CXr P w base outer H s E e s'') (λe' s''=>CXr P w base outer H s E e' s'') s'
 rcases h with⟨_,a,cls,h,vs,H',rfl,hE,mx,I⟩|⟨pins,σ,Hc,sc,a,cls,a0,H',B,I,rfl,ho,hg,un,hok,hB,cov,fl,hE⟩
 ·obtain⟨k0,eE⟩:=hEX cls H' hE
  have hst:=I.stack
  have fre:=I.stkFree
  have hfr:=I.ok.frames
  have inL:∀ b,b∉frs outer->b≠s.heap.objs.size->b∉frs (K1 (CXr P w base) P w K mg base N qual scope f cd A outer s H E).stack:=λb n1 n2 hm=>by
   rw[hfc]at hm;rcases a1Y.mp hm with z|z
   ·exact n2 z
   ·exact n1 z
  have inO:∀ b,b∈frs outer->b∈frs (K1 (CXr P w base) P w K mg base N qual scope f cd A outer s H E).stack:=λb hb=>by rw[hfc];exact a1O _ hb
  refine wpAny_leaves_madeW hfr rfl (λb o q=>PySem.W.of_hideAll _ q)
   (PySem.W.funFrames_hide hst λenv he b hb=>a3k.mpr ⟨env,he,hb⟩) mx λh'' t fl _ _ ups=>?_
  have keepB:∀ b o,h.get? b=some o->b∉frs (K1 (CXr P w base) P w K mg base N qual scope f cd A outer s H E).stack->h''.get? b=some o:=λb o q nm=>fl.1 b o<|PySem.W.hideAll_get _ q nm
  have slotB:∀ b o,h.get? b=some o->b∈frs (K1 (CXr P w base) P w K mg base N qual scope f cd A outer s H E).stack->∃ sl,h''.get? b=some { o with slots:=sl }:=λb o q hm=>by obtain⟨_,o',ho',hnf⟩:=hst.mem hm;have e:=Option.some.inj<|q.symm.trans ho';subst e;exact ups b o (mx.keeps b o q) hnf
  have trk:∀ b u,H' b=some u->b∉frs (K1 (CXr P w base) P w K mg base N qual scope f cd A outer s H E).stack:=λb u q hm=>by rw[fre b hm]at q;cases q
  refine⟨a,cls,.ref t,H',_,rfl,I.os,I.bare,⟨λb o q n hb _=>?_,λb o q n hb _=>?_,λb o q n hx=>I.base.free b o q n hx,λb o q hx=>?_,I.base.tups,I.base.frzs,I.base.tbls⟩,λb u q=>?_,k0,λb o q=>?_,λb o e1 e2 nb=>?_,fl,eE⟩
  ·have z:=I.base.keep b o q n hb (by assumption)
   exact keepB b o z<|inL b hb<|a14<|a1L q
  ·obtain⟨sl,z⟩:=I.base.slot b o q n hb (by assumption)
   obtain⟨sl2,z2⟩:=slotB b _ z<|inO b hb
   exact⟨sl2,z2⟩
  ·obtain⟨o1,z⟩:=I.base.there b o q hx
   by_cases hm:b∈frs (K1 (CXr P w base) P w K mg base N qual scope f cd A outer s H E).stack
   ·obtain⟨sl,z2⟩:=slotB b _ z hm;exact⟨_,z2⟩
   ·exact⟨_,keepB b _ z hm⟩
  ·refine(I.hok b u q).stay (λc v hc q2=>keepB c v q2 ?_) (λ_ q=>q) λ_ _ q=>q
   rcases hc with rfl|hc
   ·exact trk c u q
   ·exact trk c _ hc
  ·exact PySem.W.hideAll_get _ (I.bk b o q) λhm=>by have z:base.get? b=none:=(hst.mem hm).1;rw[z]at q;cases q
  ·have nL:b≠s.heap.objs.size:=λz=>by
    subst z
    rcases e2 with⟨u,e2⟩|⟨o0,e2⟩
    ·exact absurd (by rw[hfc];exact a1M)<|trk _ u e2
    ·rw[noL]at e2;cases e2
   have nm:=inL b nb nL
   obtain⟨o1,z⟩:∃ o1,h.get? b=some o1:=by
    rcases e2 with⟨u,e2⟩|⟨o0,e2⟩
    ·exact gN<|I.hok b u e2
    ·exact I.base.there b o0 e2<|by intro hz;cases hz
   have e3:=keepB b o1 z nm
   rw[e1]at e3
   cases e3
   exact PySem.W.hideAll_get _ z nm
 ·obtain⟨k0,eE⟩:=hEX cls H' hE
  have hfr:=I.ok.frames
  have fre:∀ b∈frs (K1 (CXr P w base) P w K mg base N qual scope f cd A outer s H E).stack,H' b=none:=λb hb=>by obtain⟨_,o,hob,_⟩:=I.stack.mem hb;exact un.free b o hob (I.stkFree b hb)<|by simp
  have inL:∀ b,b∉frs outer->b≠s.heap.objs.size->b∉frs (K1 (CXr P w base) P w K mg base N qual scope f cd A outer s H E).stack:=λb n1 n2 hm=>by
   rw[hfc]at hm;rcases a1Y.mp hm with z|z
   ·exact n2 z
   ·exact n1 z
  have inO:∀ b,b∈frs outer->b∈frs (K1 (CXr P w base) P w K mg base N qual scope f cd A outer s H E).stack:=λb hb=>by rw[hfc];exact a1O _ hb
  refine Air.leaves hfr rfl fl λh'' fl2 ups=>?_
  have pre:∀ b o,s.heap.get? b=some o->∃ o1,sc.heap.get? b=some o1:=λb o q=>I.base.there b o q<|by intro hz;cases hz
  have keepB:∀ b o,s'.heap.get? b=some o->((∃ u,H' b=some u) \/ ∃ o0,sc.heap.get? b=some o0)->b∉frs (K1 (CXr P w base) P w K mg base N qual scope f cd A outer s H E).stack->h''.get? b=some o:=λb o q c nm=>fl2.1 b o<|cov b o q c nm
  have slotB:∀ b o,s'.heap.get? b=some o->b∈frs (K1 (CXr P w base) P w K mg base N qual scope f cd A outer s H E).stack->∃ sl,h''.get? b=some { o with slots:=sl }:=λb o q hm=>by obtain⟨_,o',ho',hnf⟩:=fl.frames.mem hm;have e:=Option.some.inj<|q.symm.trans ho';subst e;exact ups b o q hnf
  have trk:∀ b u,H' b=some u->b∉frs (K1 (CXr P w base) P w K mg base N qual scope f cd A outer s H E).stack:=λb u q hm=>by rw[fre b hm]at q;cases q
  refine⟨a,cls,a0,H',B,rfl,ho.trans I.os,hg,⟨λb o q n hb _=>?_,λb o q n hb _=>?_,λb o q n hx=>?_,λb o q hx=>?_,λb xs q=>un.tups b xs<|I.base.tups b xs q,λb o u q=>un.frzs b o u<|I.base.frzs b o u q,λb ps q=>?_⟩,λb u q=>?_,k0,hB,λb o e1 e2 nb=>?_,fl2,eE⟩
  ·have z:=I.base.keep b o q n hb (by assumption)
   have nm:=inL b hb<|a14<|a1L q
   have z2:=un.keep b o z (I.base.free b o q n<|by assumption) nm<|by simp
   exact keepB b o z2 (.inr ⟨o,z⟩) nm
  ·obtain⟨sl,z⟩:=I.base.slot b o q n hb (by assumption)
   obtain⟨sl2,z2⟩:=un.slot b _ z (I.base.free b o q n<|by assumption) (inO b hb)<|by simp
   obtain⟨sl3,z3⟩:=slotB b _ z2<|inO b hb
   exact⟨sl3,z3⟩
  ·obtain⟨o1,z⟩:=pre b o q
   exact un.free b o1 z (I.base.free b o q n<|by assumption)<|by simp
  ·obtain⟨o1,z⟩:=pre b o q
   obtain⟨o2,z2⟩:=un.there b o1 z<|by simp
   by_cases hm:b∈frs (K1 (CXr P w base) P w K mg base N qual scope f cd A outer s H E).stack
   ·obtain⟨sl,z3⟩:=slotB b _ z2 hm;exact⟨_,z3⟩
   ·exact⟨_,keepB b _ z2 (.inr ⟨o1,z⟩) hm⟩
  ·obtain⟨m1,z1⟩:=I.base.tbls b ps q
   obtain⟨m2,z2⟩:=un.tbls b _ z1
   exact⟨m1++m2,by rw[z2,Array.append_assoc]⟩
  ·refine(hok b u q).stay (λc v hc q2=>?_) (λ_ q=>q) λ_ _ q=>q
   rcases hc with rfl|hc
   ·exact keepB c v q2 (.inl ⟨u,q⟩)<|trk c u q
   ·exact keepB c v q2 (.inl ⟨_,hc⟩)<|trk c _ hc
  ·have nL:b≠s.heap.objs.size:=λz=>by
    subst z
    rcases e2 with⟨u,e2⟩|⟨o0,e2⟩
    ·exact absurd (by rw[hfc];exact a1M)<|trk _ u e2
    ·rw[noL]at e2;cases e2
   have nm:=inL b nb nL
   have c2:=e2.imp id λ⟨o0,z⟩=>pre b o0 z
   obtain⟨o1,z⟩:∃ o1,s'.heap.get? b=some o1:=by
    rcases c2 with⟨u,c2⟩|⟨o0,c2⟩
    ·exact gN<|hok b u c2
    ·exact un.there b o0 c2<|by simp
   have e3:=keepB b o1 z c2 nm
   rw[e1]at e3
   cases e3
   exact cov b o z c2 nm
end
def xN(x:Str):Value:=.str x 0
def xS(X:Cx)(H₀:Hp)(Y:DXK):Value->Hp->Prop:=λc H'=>KT H₀ H'/\∃(x:Str) (C:Addr) (M':Mem),c = .ref C/\X.mg x=some (.ref C)/\l7 X.K H' M'/\Y (xN x) M'
abbrev Cx.ex'(X:Cx)(mk:Bool)(H₀:Hp)(Y:DXK):Cx:=X.wish<|XP X mk<|xS X H₀ Y
def MP(K:a1C)(H₀:Hp)(t:DTS):TS:=λE σ H=>KT H₀ H/\upS K t E σ H
structure JX(X:Cx)(mk:Bool)(H₀:Hp)(Y:DXK)(st:Stmt)(t:DTS):Prop where
 out:PS (Cx.ex' X mk H₀ Y) st (MP X.K H₀ t)
structure JXs(X:Cx)(mk:Bool)(H₀:Hp)(Y:DXK)(st:List Stmt)(t:DTS):Prop where
 out:PSs (Cx.ex' X mk H₀ Y) st (MP X.K H₀ t)
section
variable {X:Cx} {mk:Bool} {H₀:Hp} {Y:DXK} {st:Stmt} {rest:List Stmt} {t u:DTS} {pos:Pos}
def PC{pins:List (Addr × Obj)}{D:ip}{E:Value->Shared->Prop}{s':Shared}:∀{f:Flow},SP X pins D f s'->SP (X.wish E) pins D f s'
 | .next,⟨σ',H',I,q⟩=>⟨σ',H',I.wish _,q⟩
 | .brk,⟨σ',H',I,q⟩=>⟨σ',H',I.wish _,q⟩
 | .cont,⟨σ',H',I,q⟩=>⟨σ',H',I.wish _,q⟩
 | .ret _,⟨v,σ',H',I,r,q⟩=>⟨v,σ',H',I.wish _,r,q⟩
def MI{E:Value->Shared->Prop}{t:TS}(h:PS X.nox st t):PS (X.wish E) st t:=λpins s σ H D I hw =>
 wpAny_mono (h pins s σ H D (I.unwish.wish _) hw) (λ_ _ q=>PC q.unwish) λ_ _ z=>False.elim z
def MH{E:Value->Shared->Prop}{e:Expr}{t:TT}(h:PT X.nox e t):PT (X.wish E) e t:=λpins s σ H Q I hw =>
 wpAny_mono (h pins s σ H Q (I.unwish.wish _) hw) (λ_ _ ⟨H',I',q⟩=>⟨H',I'.unwish.wish _,q⟩) λ_ _ z=>False.elim z
def AW{E:Value->Shared->Prop}{es:List Expr}{t:TA}(h:PA X.nox es t):PA (X.wish E) es t:=λpos pins s σ H Q I hw =>
 wpAny_mono (h pos pins s σ H Q (I.unwish.wish _) hw) (λ_ _ ⟨v,H',I',r,q⟩=>⟨v,H',I'.unwish.wish _,r,q⟩) λ_ _ z=>False.elim z
def S2(h:JS X.nox st t):JX X mk H₀ Y st t:=⟨PS.imp (MI h.out) λ_ _ _ q=>q.2⟩
def uV:JXs X mk H₀ Y [] Ku:=⟨PSs.imp BR λE σ H ⟨k,e,M,F,ok,am,t,f⟩=>f.nx e M t σ H (KT.refl H) am ok⟩
def bI(h:JX X mk H₀ Y st t):JXs X mk H₀ Y [st] t:=⟨BQ h.out⟩
def E9(h1:JX X mk H₀ Y st t)(h2:JXs X mk H₀ Y rest u):JXs X mk H₀ Y (st :: rest) (Vh t u) :=
 ⟨PSs.imp (mq h1.out h2.out) λE σ H ⟨k,e,M,F,ok,am,tt,f⟩=>⟨k,e,M,_,ok,am,tt,⟨λe' M' h σ' H' kt a o=>⟨k.trans kt,e',M',F,o,a,h,f.mono kt⟩,f.rt,f.bk,f.ct⟩⟩⟩
def MF(hc:JT X.nox c tc)(ha:JXs X mk H₀ Y a t)(hb:JXs X mk H₀ Y b u):JX X mk H₀ Y (.If c a b pos) (Pf tc t u) :=
 ⟨PS.imp (Im (MH hc.out) ha.out hb.out) λE σ H ⟨k,e,M,F,ok,am,tt,f⟩=>⟨e,M,_,ok,am,tt,λbb M1 h1 H1 k1 a1=>by
  cases bb with
  | true=>exact⟨k.trans k1,e,M1,F,ok.mono k1,a1,h1.1 rfl,f.mono k1⟩
  | false=>exact⟨k.trans k1,e,M1,F,ok.mono k1,a1,h1.2 rfl,f.mono k1⟩⟩⟩
end
def ZN(K:a1C)(mg:Str->Option Value)(H:Hp)(Y:DXK)(E:XK):Prop:=∀(x:Str) (C:Addr) (M':Mem),mg x=some (.ref C)->Y (xN x) M'->∀ H',KT H H'->l7 K H' M'->E (.ref C) none H'
def QO(K:a1C)(mg:Str->Option Value)(sp:DSp):Sp:=λvs H Q E=>∃ ds M R Y,HasL K H vs ds/\l7 K H M/\sp ds M R Y/\ik K H R Q/\ZN K mg H Y E
structure FnX(P:Program)(w:World)(K:a1C)(mg:Str->Option Value)(base:Heap)(x:Str)(k:Nat)(ps:List Str)(sp:DSp):Prop where
 ex:∃(f:Addr) (fd:FuncData),X7 P w K mg base (CXr P w base) k f fd ps (QO K mg sp)/\mg x=some (.ref f)/\PySem.W.keepIn K (.ref f)=true/\P9 K fd ps []
section
variable {P:Program} {w:World} {K:a1C} {mg:Str->Option Value} {base:Heap}
def tF{x:Str}{st:Stmt}{N ps:List Str}{k:Nat}{sp:DSp}(d:Df K mg x st ps)(S:d9 N ps (c9 st))(len:∀ ds M R Y,sp ds M R Y->ds.length=ps.length)
  (hbody:∀ f (cdv:Value) (A:Around) (outer:List Env) (s:Shared) (H:Hp) (E:XK) (ds:List D) (M:Mem) (R:DK) (Y:DXK),C3 k (A.deeper<|envOfC x (c9 st) s.heap.objs.size f cdv)->sp ds M R Y ->
   ∃ t,JXs (K1 (CXr P w base) P w K mg base N x (c9 st) f cdv A outer s H E) true H Y (B1 st) t/\t { nx:=λ_ M'=>R .non M',rt:=R } (A4 N ds) M):FnX P w K mg base x (k+1) ps sp:=by
 obtain⟨f,fd,F,hm,hb⟩:=d.ex
 refine⟨f,fd,?_,hm,F.kp,hb⟩
 obtain⟨oc,od,dV,kV,doc,pm,an,cdv,ct,osl,rfl,lk,hcd⟩:=F.ex
 refine Cy lk hcd S (λvs H Q E ⟨ds,M,R,Y,hl,_,hs,_,_⟩=>by rw[hl.length];exact len ds M R Y hs) λA outer s H vs Q E hr ⟨ds,M,R,Y,hl,am,hs,fv,fx⟩=>?_
 obtain⟨t,h1,h2⟩:=hbody f cdv A outer s H E ds M R Y hr hs
 refine⟨MP K H t,λpins s1 σ H1 D I hw=>?_,KT.refl H,A4 N ds,M,_,u6.start0 hl,am,h2,⟨?_,fv,λ_ _ h=>h.elim,λ_ _ h=>h.elim⟩⟩
 ·refine wpAny_mono (h1.out pins s1 σ H1 D (I.wish _) hw) (λ_ _ q=>q.unwish) λe s2 hx=>Cb (λcls H' ⟨k1,x',C,M',e1,e2,e3,e4⟩=>⟨k1,by rw[e1];exact fx x' C M' e2 e4 H' k1 e3⟩) hx
 ·exact λe M' h σ' H' kt a o=>fv .non M' h .non H' kt a .non
end
section
variable {X:Cx} {mk:Bool} {H₀:Hp} {Y:DXK} {pos cpos:Pos} {x:Str} {j:Nat} {ps:List Str} {sp:DSp} {p:Pos} {e:Expr} {es:List Expr} {t:DTA}
def KA(sp:DSp)(Y:DXK)(t:DTA):DTE:=λe M R=>t e M λds M1=>sp (ds++[]) M1 R Y
structure JXE(X:Cx)(mk:Bool)(H₀:Hp)(Y:DXK)(e:Expr)(t:DTE):Prop where
 out:PE (Cx.ex' X mk H₀ Y) e (λσ H Q=>KT H₀ H/\up X.K t σ H Q)
def jJ(G:FnX X.prog X.w X.K X.mg X.base x j ps sp)(hr:C3 j X.A)(hg:Gl X x)(ha:JA X.nox (e :: es) t)
  (hdb:(x == ("__debug__" : Str))=false:=by decide) (he:starEach (e :: es) X.env=(false,eval e X.env) :: starEach es X.env:=by rfl) (hpl:(backTo cpos<|starEach es X.env).any (·.1)=false:=by rfl) :
  JXE X mk H₀ Y (.Call (.Name x p) (e :: es) [] cpos) (KA sp Y t):=by
 obtain⟨f,fd,F,hm,hk,hb⟩:=G.ex
 refine⟨PE.imp (BS F hr hg hm hk hb .nil IB (AW ha.out) hdb he hpl) ?_⟩
 rintro σ H Q ⟨k,e',M,R,ok,am,tt,ff⟩
 refine⟨e',M,_,ok,am,tt,λds M1 h1 vs H1 k1 a1 r1=>⟨ds++[],M1,R,Y,r1.append .nil,a1,h1,ff.mono k1,λy C M' hy z H' kt a=>⟨(k.trans k1).trans kt,y,C,M',rfl,hy,a,z⟩⟩⟩
def FX(h:JXE X mk H₀ Y e te):JX X mk H₀ Y (.Return (some e) pos) (Vi te) :=
 ⟨PS.imp (Ik h.out) λE σ H ⟨k,e',M,F,ok,am,tt,f⟩=>⟨k,e',M,_,ok,am,tt,f.rt⟩⟩
end
def bmV:List Value:=[.type "ValueError",.type "Exception",.type "BaseException",.type "object"]
structure ExD(K:a1C)(mg:Str->Option Value)(x:Str):Prop where
 ex:∃ C,mg x=some (.ref C)/\PySem.W.excIn K C bmV "ValueError.__new__" = true
def JV{K:a1C}{mg:Str->Option Value}{h:Heap}{x:Str}{C:Addr}(X:K.In h)(G:h.Ns mainGlobals mg)(n:PySem.W.nsIn K mainGlobals x=some (some<|.ref C))(q:PySem.W.excIn K C [.type "ValueError",.type "Exception",.type "BaseException",.type "object"] "ValueError.__new__" = true):ExD K mg x :=
 ⟨C,PySem.W.mg_of X G n,q⟩
def OZ{K:a1C}{h:Heap}{C:Addr}{bmB:List Value}{newId:String}(X:K.In h)(q:PySem.W.excIn K C bmB newId=true) :
  ∃ bm N nm qn bs hdct sn sub ab col dd k0 k1 k2 k3 k5 mN,h.get? C=some (excClassObj nm qn C N bs bm hdct sn sub ab col dd k0 k1 k2 k3 k5 newId)/\h.Ns N mN/\mN "__init__" = none/\OwnTail h bmB bm:=by
 unfold PySem.W.excIn at q
 cases lk:K.lookup C with
 | none=>rw[lk]at q;cases q
 | some ob =>
  obtain⟨oc,od,dt,sl⟩:=ob
  rw[lk]at q
  cases dt with
  | cls cd =>
   cases oc with
   | type tn =>
    by_cases ht:tn = "type"
    ·subst ht
     simp only at q
     split at q
     ·rename_i C' bm k0 k1 k2 k3 n k5 hm hs
      simp at q
      obtain⟨⟨⟨⟨⟨q1,q2⟩,q3⟩,q4⟩,q5⟩,q6⟩:=q
      subst q1
      subst q2
      obtain⟨nm,bs,mro,ns,qn,hd,sn,sub,ab,col,del⟩:=cd
      dsimp only at hm q3 q5 q6
      subst hm
      subst q3
      have es:sl = #[k0,k1,k2,k3,some<|.builtin n,k5]:=by
       cases sl with
       | mk l=>exact congrArg Array.mk hs
      subst es
      exact⟨bm,ns,nm,qn,bs,hd,sn,sub,ab,col,od,k0,k1,k2,k3,k5,_,X _ _ lk,.of_isNs<|PySem.W.isNs_of_in X q5,PySem.W.nsMap_none_of_in X q5 q6,PySem.W.tail_of_in X q4⟩
     ·cases q
    ·exfalso
     revert q
     split
     ·rename_i e;cases e;exact absurd rfl ht
     ·intro z;cases z
   | _=>exfalso;simp at q
  | _=>exfalso;revert q;split<;>(intro z;first|cases z|(rename_i e;cases e))
section
variable {X:Cx} {H₀:Hp} {Y:DXK} {pos cpos np:Pos} {x:Str} {e₀:Expr} {te:DTE}
def Kt(x:Str)(Y:DXK)(te:DTE):DTS:=λ_ e M=>te e M λ_ M1=>Y (xN x) M1
def qB(G:ExD X.K X.mg x)(hc:X.calm=true)(hg:Gl X x)(h0:JE X.nox e₀ te)(hdb:(x == ("__debug__" : Str))=false:=by decide)
  (he:starEach [e₀] X.env=(false,eval e₀ X.env) :: starEach [] X.env:=by rfl) (hp:(backTo cpos<|starEach [e₀] X.env).any (·.1)=false:=by rfl) :
  JX X true H₀ Y (.Raise (some<|.Call (.Name x np) [e₀] [] cpos) none pos) (Kt x Y te):=by
 refine⟨?_⟩
 rintro pins s σ H D I ⟨k,ev,M,F,ok,am,hy,f⟩
 obtain⟨C,hm,hq⟩:=G.ex
 have I0:=I.unwish
 obtain⟨bm,N,nm,qn,bs,hdct,sn,sub,ab,col,dd,k0,k1,k2,k3,k5,mN,hC,hN,hni,T⟩:=OZ I0.mod.kin hq
 refine wpAny_Raise_call_subT (nm:=nm) (q:=qn) (N:=N) (bs:=bs) (hdct:=hdct) (sn:=sn) (sub:=sub) (ab:=ab) (col:=col) (dd:=dd) (k0:=k0) (k1:=k1) (k2:=k2) (k3:=k3) (k5:=k5)
  PySem.F.excBase_ValueError (T.hasType<|by decide) (I0.ok.hd hc) hp hni (bo (X:=X) I0 hg hm ⟨rfl,?_⟩ hdb)
 have h1:wpAny (model X.prog X.w) X.A (spliced<|backTo cpos<|starEach [e₀] X.env) (AP (Cx.ex' X true H₀ Y) pins σ λvs H1=>vs.length=1/\xS X H₀ Y (.ref C) H1) (XP X true<|xS X H₀ Y) s :=
  (AW<|C5 h0.out Q7 he) cpos pins s σ H _ I ⟨ev,M,_,ok,am,hy,λd M1 y v H1 k1 a1 _=>⟨rfl,k.trans k1,x,C,M1,rfl,hm,a1,y⟩⟩
 rw[he]at h1 ⊢
 refine Calls.evalArgs_plain<|wpAny_mono h1 (λus s2 ⟨vs,H1,I1,r1,hv,q⟩=>⟨rfl,?_,I1.bk _ _ hC,hN.keeps I1.bk,T.keeps I1.bk,λh' e2 mx=>?_⟩) λ_ _ z=>z
 ·show us.length<=sizeLine
  rw[<- r1.length,hv];decide
 ·exact .inl ⟨rfl,e2,.ref C,s2.heap,us,H1,rfl,q,mx,Jt I1.unwish⟩
end
abbrev Cx.pinned(X:Cx)(pn:List (Addr × Obj)):Cx:={ X with pn:=pn }
abbrev Cx.hand(X:Cx)(a:Addr):Cx:={ X with A:=X.A.mark<|some<|.ref a,calm:=false }
def DJ(ok:X.Ok):(Cx.pinned X pn).Ok:=⟨ok.mod,ok.kind,ok.glob,ok.blt,ok.above,ok.inj,ok.has,ok.cab,ok.hd,ok.frames,ok.stk,ok.exf,ok.bs,ok.bsz,ok.noex,ok.exfs,ok.funs,ok.frf⟩
def wA(ok:(Cx.pinned X pn).Ok):X.Ok:=⟨ok.mod,ok.kind,ok.glob,ok.blt,ok.above,ok.inj,ok.has,ok.cab,ok.hd,ok.frames,ok.stk,ok.exf,ok.bs,ok.bsz,ok.noex,ok.exfs,ok.funs,ok.frf⟩
def cI(I:Inv X pins σ H s):Inv (Cx.pinned X<|X.pn++pins) [] σ H s:=⟨DJ I.ok,I.os,I.bare,I.base,I.loc,I.cell,I.free,I.freeC,λp hp=>I.pin p<|by rwa [a2g]at hp,I.hok,I.len⟩
def N3(I:Inv (Cx.pinned X<|X.pn++pins) ps σ H s):Inv X pins σ H s:=⟨wA I.ok,I.os,I.bare,I.base,I.loc,I.cell,I.free,I.freeC,λp hp=>I.pin p<|a2V _ hp,I.hok,I.len⟩
def vk{ps:List (Addr × Obj)}{D:ip}:∀{f:Flow},SP (Cx.pinned X<|X.pn++pins) ps D f s->SP X pins D f s
 | .next,⟨σ',H',I,q⟩=>⟨σ',H',N3 I,q⟩
 | .brk,⟨σ',H',I,q⟩=>⟨σ',H',N3 I,q⟩
 | .cont,⟨σ',H',I,q⟩=>⟨σ',H',N3 I,q⟩
 | .ret _,⟨v,σ',H',I,r,q⟩=>⟨v,σ',H',N3 I,r,q⟩
def Oi(ok:X.Ok):(Cx.hand X a).Ok:=⟨ok.mod,ok.kind,ok.glob,ok.blt,ok.above,ok.inj,ok.has,ok.cab,λz=>(by cases z),ok.frames,ok.stk,ok.exf,ok.bs,ok.bsz,ok.noex,ok.exfs,ok.funs,ok.frf⟩
def xi(I:Inv X pins σ H s):Inv (Cx.hand X a) pins σ H s:=⟨Oi I.ok,I.os,I.bare,I.base,I.loc,I.cell,I.free,I.freeC,I.pin,I.hok,I.len⟩
def W4(ok:X.Ok)(I:Inv (Cx.hand X a) pins σ H s):Inv X pins σ H s:=⟨ok,I.os,I.bare,I.base,I.loc,I.cell,I.free,I.freeC,I.pin,I.hok,I.len⟩
def Dv{a:Addr}{D:ip}(ok:X.Ok):∀{f:Flow},SP (Cx.hand X a) pins D f s->SP X pins D f s
 | .next,⟨σ',H',I,q⟩=>⟨σ',H',W4 ok I,q⟩
 | .brk,⟨σ',H',I,q⟩=>⟨σ',H',W4 ok I,q⟩
 | .cont,⟨σ',H',I,q⟩=>⟨σ',H',W4 ok I,q⟩
 | .ret _,⟨v,σ',H',I,r,q⟩=>⟨v,σ',H',W4 ok I,r,q⟩
def DW{Hc H':Hp}{sc s1:Shared}{B:Heap}{a:Addr}{cls a0:Value}{h':Heap}(I:Inv X pins σ Hc sc)(ho:s1.os=sc.os)(hg:AllBare s1.gens)(un:Un (frs X.stack) [] Hc H' sc.heap s1.heap)(hok:HOk X.prog X.w H' s1.heap)
  (cov:Cov B sc.heap H' (frs X.stack) s1.heap) (fl:Air B X.stack a cls a0 s1.heap) (st:B.StaysIn h') (ups:s1.heap.UpToSlots h'):Inv X pins σ H' { s1 with heap:=h' }:=by
 have fre:∀ b∈frs X.stack,H' b=none:=λb hb=>by obtain⟨_,o,hob,_⟩:=I.stack.mem hb;exact un.free b o hob (I.stkFree b hb)<|by simp
 have trk:∀ b u,H' b=some u->b∉frs X.stack:=λb u q hm=>by rw[fre b hm]at q;cases q
 have keepB:∀ b o,s1.heap.get? b=some o->((∃ u,H' b=some u) \/ ∃ o0,sc.heap.get? b=some o0)->b∉frs X.stack->h'.get? b=some o:=λb o q c nm=>st b o<|cov b o q c nm
 have slotB:∀ b o,s1.heap.get? b=some o->b∈frs X.stack->∃ sl,h'.get? b=some { o with slots:=sl }:=λb o q hm=>by obtain⟨_,o',ho',hnf⟩:=fl.frames.mem hm;have e:=Option.some.inj<|q.symm.trans ho';subst e;exact ups b o q hnf
 have un':Un (frs X.stack) [] Hc H' sc.heap h':=⟨λb o q n hb hx=>keepB b o (un.keep b o q n hb hx) (.inr ⟨o,q⟩) hb,λb o q n hb hx=>by
   obtain⟨sl,z⟩:=un.slot b o q n hb hx;obtain⟨sl2,z2⟩:=slotB b _ z hb;exact⟨sl2,z2⟩,un.free,λb o q hx=>by
   obtain⟨o1,z⟩:=un.there b o q hx;by_cases hm:b∈frs X.stack
   ·obtain⟨sl,z2⟩:=slotB b _ z hm;exact⟨_,z2⟩
   ·exact⟨_,keepB b _ z (.inr ⟨o,q⟩) hm⟩,un.tups,un.frzs,un.tbls⟩
 refine I.call' (s':={ s1 with heap:=h' }) ho un' (λb u q=>?_) hg λb hb=>by cases hb
 refine(hok b u q).stay (λc v hc q2=>?_) (λ_ q=>q) λ_ _ q=>q
 rcases hc with rfl|hc
 ·exact keepB c v q2 (.inl ⟨u,q⟩)<|trk c u q
 ·exact keepB c v q2 (.inl ⟨_,hc⟩)<|trk c _ hc
end DL
namespace DL
def IfB(c:Bool)(A B:Prop):Prop:=if c=true then A else B
def SzK(n:Nat)(A:Prop):Prop:=n<=sizeLine/\A
def aJ(e:Ev)(i:Nat)(d:D)(Q:Ev->Prop):Prop:=Q<|e.set i<|some d
def zv(cs:List Nat)(e:Ev):Ev:=cs.map λi=>(e[i]?).getD none
def geE(i:Nat)(e:Ev):Option D:=(e[i]?).getD none
def YJ(i j:Nat)(ds:List D)(F:gg)(e:Ev)(M:Mem):Prop:=∃ x y,ds=[x,y]/\F.nx ((e.set i<|some x).set j<|some y) M
def PB(x:D)(M:Mem)(Q:List D->(Mem->Prop)->Mem->Prop):Prop:=∃ ds,A1 M x ds/\Q ds (λM'=>A1 M' x ds) M
def Sv(xs:List D)(M:Mem)(Q:List D->(Mem->Prop)->Mem->Prop):Prop:=∃ x ds,xs=[x]/\A1 M x ds/\Q (L8 ds) (λM'=>A1 M' x ds) M
def Vt(xs:List D)(M:Mem)(Q:List D->(Mem->Prop)->Mem->Prop):Prop:=∃ x y ds es,xs=[x,y]/\A1 M x ds/\A1 M y es/\Q (Q0 ds es) (λM'=>A1 M' x ds/\A1 M' y es) M
def YI(xs:List D)(M:Mem)(Q:List D->(Mem->Prop)->Mem->Prop):Prop:=∃ j:Int,xs=[.int j]/\-(2 ^ 62)<=j/\j<2 ^ 62/\Q (G6 0 j.toNat) (λ_=>True) M
def R9(g:DTG)(tb:DTS)(F:gg)(ds:List D)(stay:Mem->Prop)(e:Ev)(M1:Mem):Prop:=∃ W:Nat->Ev->Mem->Prop,W 0 e M1/\(∀ i e M,i<=ds.length->W i e M->stay M) /\
 (∀(i:Nat) (d:D) e M,ds[i]? = some d->W i e M->g d e M λe2 M2=>tb { F with nx:=W<|i+1,ct:=W<|i+1,bk:=F.nx } e2 M2)/\∀ e M,W ds.length e M->F.nx e M
def Lv(x:D)(M1:Mem)(R:DK):Prop:=∃ p ds,x = .ref p/\M1 p=some (.lst ds)/\R (.vl ds) (nu M1 p)
def Ss(x:D)(M:Mem)(Q:Option Int->Mem->Prop):Prop:=∃ i,x = .int i/\Q (some i) M
def VC(x:D)(M1:Mem)(R:DK):Prop:=∃ M2:Mem,(∀ b o,M2 b=some o->M1 b=some o)/\R x M2
def LMK(x:D)(M:Mem)(A:Prop):Prop:=(∃ l ds,x = .ref l/\M l=some (.lst ds))/\A
open PyProof.Rows hiding St
section
variable {e:Ev} {M:Mem} {tA tB:DTT}
def z_C:dC d e M R=R d M:=rfl
def Wu:dOp g ta tb e M R=ta e M λx M1=>tb e M1 λy M2=>g x y M2 R:=rfl
def Ws:dUn g ta e M R=ta e M λx M1=>g x M1 R:=rfl
def Wj:gF (fI f) (.int i) (.int j) M R=R (f i j) M:=rfl
def Wi:gF (fS f) (.str i) (.str j) M R=R (f i j) M:=rfl
def Wh:gI C f (.int i) (.int j) M R=(C i j/\R (f i j) M):=rfl
def Wf:gU f (.int i) M R=R (f i) M:=rfl
def Fq:qv ta e M Q=ta e M λx M'=>BlK x M' Q:=rfl
def QJ:BlK (.bl b) M Q=Q b M:=rfl
def QL:Yv tA tB e M Q=tA e M λc M1=>IfK c (tB e M1 Q) (Q false M1):=rfl
def Wt:dOr tA tB e M Q=tA e M λc M1=>IfK c (Q true M1) (tB e M1 Q):=rfl
def Qr:Ym tA e M Q=tA e M λc M1=>Q (!c) M1:=rfl
def FW:Sk ta tb e M R=ta e M λx M1=>BlK x M1 λc M1=>IfK c (tb e M1 R) (R (.bl false) M1):=rfl
def Qq:Yl ta tb e M R=ta e M λx M1=>BlK x M1 λc M1=>IfK c (R (.bl true) M1) (tb e M1 R):=rfl
def FE:Se ta e M R=ta e M λx M1=>BlK x M1 λc M1=>R (.bl<|!c) M1:=rfl
def Wy:dIf tA ta tb e M R=tA e M λc M1=>IfK c (ta e M1 R) (tb e M1 R):=rfl
def QA:Pf tA t u F e M=tA e M λc M1=>IfK c (t F e M1) (u F e M1):=rfl
def Qs:Yn e M Q=Q [] M:=rfl
def FR:Si ta tr e M Q=ta e M λx M1=>tr e M1 λxs M2=>Q (x :: xs) M2:=rfl
def Qk:Yg tr e M R=tr e M λds M1=>SzK ds.length (R (.tup ds) M1):=rfl
def Qv:Yo tr e M R=tr e M λds M1=>SzK ds.length (∀ p,M1 p=none->R (.ref p) (l9 M1 p<|.lst ds)):=rfl
def jr(h:ixD M x y=some z):gIx x y M R=R z M:=propext ⟨λzz=>by obtain⟨_,h',r⟩:=zz;rw[h]at h';cases h';exact r,λr=>⟨_,h,r⟩⟩
def cW(h:isD x y=some b):gIs neg x y M R=R (.bl<|neg.xor b) M:=propext ⟨λzz=>by obtain⟨_,h',r⟩:=zz;rw[h]at h';cases h';exact r,λr=>⟨_,h,r⟩⟩
def QI:UT neg x y M R=(cl 60 x=true/\cl 60 y=true/\R (.bl<|neg.xor<|@decide (x=y) (a2A _)) M):=rfl
def FV:CP sp dds Y tr e M R=tr e M λds M1=>sp (ds++dds) M1 R Y:=rfl
def WB:dCB g tr e M R=tr e M λds M1=>g ds M1 R:=rfl
def FG:Ku F e M=F.nx e M:=rfl
def Qn:Vh t u F e M=t { F with nx:=u F } e M:=rfl
def FQ:Sh ta F e M=ta e M λ_ M1=>F.nx e M1:=rfl
def Qo:Vi ta F e M=ta e M F.rt:=rfl
def AJ:Kv F e M=False:=rfl
def Ay:gZ i d e M Q=aJ e i d λe'=>Q e' M:=rfl
def Fl:RV [] e M Q=Q e M:=rfl
def Az:Ko g gs (d :: ds) e M Q=g d e M λe' M'=>gs ds e' M' Q:=rfl
def uM(h:ds.length=n):Kn n gs (.vl ds) e M Q=gs ds e M Q:=propext ⟨λzz=>by obtain⟨_,h',_,r⟩:=zz;cases h';exact r,λr=>⟨_,rfl,h,r⟩⟩
def Qi:jj 2 gs (.tup [a,b]) e M Q=gs [a,b] e M Q:=rfl
def Qh:jj 3 gs (.tup [a,b,c]) e M Q=gs [a,b,c] e M Q:=rfl
def Qg:jj 4 gs (.tup [a,b,c,d]) e M Q=gs [a,b,c,d] e M Q:=rfl
def Qe:jj 5 gs (.tup [a,b,c,d,f]) e M Q=gs [a,b,c,d,f] e M Q:=rfl
def Fh:RU to ti ts d e M Q=to e M λo M1=>ti e M1 λi M2=>ts o i d M2 λM3=>Q e M3:=rfl
def QK:KC ta g F e M=ta e M λx M1=>g x e M1 F.nx:=rfl
def Qp:Yk i j tr F e M=tr e M λds M1=>YJ i j ds F e M1:=rfl
def FD:YJ i j [x,y] F e M=aJ e i x λe1=>aJ e1 j y λe2=>F.nx e2 M:=propext ⟨λzz=>by obtain⟨_,_,h,r⟩:=zz;cases h;exact r,λr=>⟨_,_,rfl,r⟩⟩
def QM:Yb [.int i] M R=R (.int (i.natAbs:Int)) M:=propext ⟨λzz=>by obtain⟨_,h,r⟩:=zz;cases h;exact r,λr=>⟨_,rfl,r⟩⟩
def Qu:XX [.int i,.int j] M R=R (.int<|max i j) M:=propext ⟨λzz=>by obtain⟨_,_,h,r⟩:=zz;cases h;exact r,λr=>⟨_,_,rfl,r⟩⟩
def Qw(h:Je M d=some n):OT [d] M R=R (.int (n:Int)) M:=propext ⟨λzz=>by obtain⟨_,_,h',h2,r⟩:=zz;cases h';rw[h]at h2;cases h2;exact r,λr=>⟨_,_,rfl,h,r⟩⟩
def AN(h1:tyD M d=some ty)(h2:MU ty T=some b):Ea [d,.ty T] M R=R (.bl b) M:=propext ⟨λzz=>by
 obtain⟨_,_,_,_,h,h1',h2',r⟩:=zz;injection h with h h';subst h;injection h' with h';injection h' with h';subst h'
 rw[h1]at h1';cases h1';rw[h2]at h2';cases h2';exact r,λr=>⟨_,_,_,_,rfl,h1,h2,r⟩⟩
def QB:IfK c A B=((c=true->A)/\(c=false->B)):=rfl
def QC:IfB c A B=((c=true->A)/\(c=false->B)):=by cases c<;>simp[IfB]
def S1(h:n<=1000):SzK n A=A:=propext ⟨λh=>h.2,λa=>⟨sl n h,a⟩⟩
def Wl:A4 (a :: N) (d :: ds)=some d :: A4 N ds:=rfl
def Wk:A4 (a :: N) []=none :: A4 N []:=rfl
def Wm:A4 [] []=[]:=rfl
def Wr:hV 1 cs e=none :: zv cs e:=rfl
def Wq:hV 2 cs e=none :: none :: zv cs e:=rfl
def Wo:hV 3 cs e=none :: none :: none :: zv cs e:=rfl
def Wn:hV 4 cs e=none :: none :: none :: none :: zv cs e:=rfl
def Wd:zv [] e=[]:=rfl
def Wc:zv (i :: cs) e=geE i e :: zv cs e:=rfl
def We:geE 0 (x :: r)=x:=rfl
def Wg:geE (n+1) (x :: r)=geE n r:=rfl
def VR:fP 0 (some d :: r) M R=R d M:=rfl
def Wb:aJ (y :: r) 0 d G=G (some d :: r):=rfl
def VQ:fP 1 (x0 :: some d :: r) M R=R d M:=rfl
def Wa:aJ (x0 :: y :: r) 1 d G=G (x0 :: some d :: r):=rfl
def VP:fP 2 (x0 :: x1 :: some d :: r) M R=R d M:=rfl
def VZ:aJ (x0 :: x1 :: y :: r) 2 d G=G (x0 :: x1 :: some d :: r):=rfl
def VO:fP 3 (x0 :: x1 :: x2 :: some d :: r) M R=R d M:=rfl
def VY:aJ (x0 :: x1 :: x2 :: y :: r) 3 d G=G (x0 :: x1 :: x2 :: some d :: r):=rfl
def VN:fP 4 (x0 :: x1 :: x2 :: x3 :: some d :: r) M R=R d M:=rfl
def VX:aJ (x0 :: x1 :: x2 :: x3 :: y :: r) 4 d G=G (x0 :: x1 :: x2 :: x3 :: some d :: r):=rfl
def VM:fP 5 (x0 :: x1 :: x2 :: x3 :: x4 :: some d :: r) M R=R d M:=rfl
def VW:aJ (x0 :: x1 :: x2 :: x3 :: x4 :: y :: r) 5 d G=G (x0 :: x1 :: x2 :: x3 :: x4 :: some d :: r):=rfl
def VL:fP 6 (x0 :: x1 :: x2 :: x3 :: x4 :: x5 :: some d :: r) M R=R d M:=rfl
def VV:aJ (x0 :: x1 :: x2 :: x3 :: x4 :: x5 :: y :: r) 6 d G=G (x0 :: x1 :: x2 :: x3 :: x4 :: x5 :: some d :: r):=rfl
def VJ:fP 7 (x0 :: x1 :: x2 :: x3 :: x4 :: x5 :: x6 :: some d :: r) M R=R d M:=rfl
def VU:aJ (x0 :: x1 :: x2 :: x3 :: x4 :: x5 :: x6 :: y :: r) 7 d G=G (x0 :: x1 :: x2 :: x3 :: x4 :: x5 :: x6 :: some d :: r):=rfl
def VI:fP 8 (x0 :: x1 :: x2 :: x3 :: x4 :: x5 :: x6 :: x7 :: some d :: r) M R=R d M:=rfl
def VT:aJ (x0 :: x1 :: x2 :: x3 :: x4 :: x5 :: x6 :: x7 :: y :: r) 8 d G=G (x0 :: x1 :: x2 :: x3 :: x4 :: x5 :: x6 :: x7 :: some d :: r):=rfl
def VH:fP 9 (x0 :: x1 :: x2 :: x3 :: x4 :: x5 :: x6 :: x7 :: x8 :: some d :: r) M R=R d M:=rfl
def VS:aJ (x0 :: x1 :: x2 :: x3 :: x4 :: x5 :: x6 :: x7 :: x8 :: y :: r) 9 d G=G (x0 :: x1 :: x2 :: x3 :: x4 :: x5 :: x6 :: x7 :: x8 :: some d :: r):=rfl
def PL:fP 10 (x0 :: x1 :: x2 :: x3 :: x4 :: x5 :: x6 :: x7 :: x8 :: x9 :: some d :: r) M R=R d M:=rfl
def Qb:aJ (x0 :: x1 :: x2 :: x3 :: x4 :: x5 :: x6 :: x7 :: x8 :: x9 :: y :: r) 10 d G=G (x0 :: x1 :: x2 :: x3 :: x4 :: x5 :: x6 :: x7 :: x8 :: x9 :: some d :: r):=rfl
def PK:fP 11 (x0 :: x1 :: x2 :: x3 :: x4 :: x5 :: x6 :: x7 :: x8 :: x9 :: x10 :: some d :: r) M R=R d M:=rfl
def Qa:aJ (x0 :: x1 :: x2 :: x3 :: x4 :: x5 :: x6 :: x7 :: x8 :: x9 :: x10 :: y :: r) 11 d G=G (x0 :: x1 :: x2 :: x3 :: x4 :: x5 :: x6 :: x7 :: x8 :: x9 :: x10 :: some d :: r):=rfl
def PJ:fP 12 (x0 :: x1 :: x2 :: x3 :: x4 :: x5 :: x6 :: x7 :: x8 :: x9 :: x10 :: x11 :: some d :: r) M R=R d M:=rfl
def PZ:aJ (x0 :: x1 :: x2 :: x3 :: x4 :: x5 :: x6 :: x7 :: x8 :: x9 :: x10 :: x11 :: y :: r) 12 d G=G (x0 :: x1 :: x2 :: x3 :: x4 :: x5 :: x6 :: x7 :: x8 :: x9 :: x10 :: x11 :: some d :: r):=rfl
def u9:A1 M (.tup ds) es=(es=ds):=by
 apply propext;constructor
 ·intro h;rcases h with h|⟨_,h,_⟩|h;all_goals grind
 ·intro h;exact .inl<|by rw[h]
def j5:A1 M (.vl ds) es=(es=ds):=by
 apply propext;constructor
 ·intro h;rcases h with h|⟨_,h,_⟩|h;all_goals grind
 ·intro h;exact .inr<|.inr<|by rw[h]
def E3{ds:List D}{n:Nat}{d:D}(h:ds[n]? = some d):atI ds (n:Int)=some d:=by obtain⟨hl,_⟩:=a1I.mp h;unfold atI ixN;rw[if_pos<|a2J n,if_pos<|by omega];simpa using h
def FJ:Sg tr e M R=tr e M λds M1=>SzK ds.length (R (.vl ds) M1):=rfl
def FU:Sj ta tb e M R=ta e M λx M1=>tb e M1 λy M2=>JL x y M2 R:=rfl
def uT{Q:Option Int->Mem->Prop}:CN e M Q=Q none M:=rfl
def FC{Q:Option Int->Mem->Prop}:Sb ta e M Q=ta e M λx M1=>Ss x M1 Q:=rfl
def AI{i:Int}{Q:Option Int->Mem->Prop}:Ss (.int i) M Q=Q (some i) M:=propext ⟨λzz=>by obtain⟨_,h,r⟩:=zz;cases h;exact r,λr=>⟨_,rfl,r⟩⟩
def AK:Kx tr e M R=tr e M λds M1=>yV ds M1 R:=rfl
def pO:yV [.vl ds] M R=R (.vl ds) M:=propext ⟨λzz=>by obtain⟨_,_,h,h2,r⟩:=zz;cases h;rw[j5]at h2;subst h2;exact r,λr=>⟨_,_,rfl,.inr<|.inr rfl,r⟩⟩
def uL:RF [.vl ds] M R=R (.tup ds) M:=propext ⟨λzz=>by obtain⟨_,_,h,h2,r⟩:=zz;cases h;cases h2;exact r,λr=>⟨_,_,rfl,rfl,r⟩⟩
def kX:JL (.vl xs) (.vl ys) M R=SzK (xs.length+ys.length) (R (.vl<|xs++ys) M):=propext ⟨λzz=>by obtain⟨_,_,h,h2,z,r⟩:=zz;cases h;cases h2;exact⟨z,r⟩,λ⟨z,r⟩=>⟨_,_,rfl,rfl,z,r⟩⟩
def Fz:RZ ta e M R=ta e M λx M1=>JH x M1 R:=rfl
def uO:JH (.vl xs) M R=R (.vl xs.reverse) M:=propext ⟨λzz=>by obtain⟨_,h,r⟩:=zz;cases h;exact r,λr=>⟨_,rfl,r⟩⟩
def QE:Yr ta e M R=ta e M λx M1=>Lv x M1 R:=rfl
def kY(h:M p=some (.lst ds)):Lv (.ref p) M R=R (.vl ds) (nu M p):=propext ⟨λzz=>by obtain⟨_,_,e,h',r⟩:=zz;cases e;rw[h]at h';cases h';exact r,λr=>⟨_,_,rfl,h,r⟩⟩
def AQ{n:Nat}{caps:List Nat}{ti:DTI}{g:DTG}{tc:cA}{te:DTE}:zh n caps ti g tc te e M R=ti e M λds stay M1=>Sx (hV n caps e) g tc te ds stay M1 R:=rfl
def AR{n:Nat}{caps:List Nat}{ti:DTI}{g:DTG}{tc:cA}{te:DTE}:Kz n caps ti g tc te e M R=ti e M λds stay M1=>Sy (hV n caps e) g tc te ds stay M1 R:=rfl
def Qj{Q:Bool->Mem->Prop}:Eh e M Q=Q true M:=rfl
def AD:RS ta e M Q=ta e M λx M1=>PB x M1 Q:=rfl
def Fx:PB (.tup ds) M Q=Q ds (λM'=>A1 M' (.tup ds) ds) M:=propext ⟨λzz=>by obtain⟨_,h,r⟩:=zz;rw[u9]at h;subst h;exact r,λr=>⟨_,.inl rfl,r⟩⟩
def Fw:PB (.vl ds) M Q=Q ds (λM'=>A1 M' (.vl ds) ds) M:=propext ⟨λzz=>by obtain⟨_,h,r⟩:=zz;rw[j5]at h;subst h;exact r,λr=>⟨_,.inr<|.inr rfl,r⟩⟩
def uP:Kl tr e M Q=tr e M λxs M1=>Sv xs M1 Q:=rfl
def AO:Sv [.vl ds] M Q=Q (L8 ds) (λM'=>A1 M' (.vl ds) ds) M:=propext ⟨λzz=>by obtain⟨_,_,h,h2,r⟩:=zz;cases h;rw[j5]at h2;subst h2;exact r,λr=>⟨_,_,rfl,.inr<|.inr rfl,r⟩⟩
def AA:RQ tr e M Q=tr e M λxs M1=>Vt xs M1 Q:=rfl
def AF:Vt [.vl ds,.vl es] M Q=Q (Q0 ds es) (λM'=>A1 M' (.vl ds) ds/\A1 M' (.vl es) es) M:=propext ⟨λzz=>by obtain⟨_,_,_,_,h,h2,h3,r⟩:=zz;cases h;rw[j5]at h2 h3;subst h2;subst h3;exact r,λr=>⟨_,_,_,_,rfl,.inr<|.inr rfl,.inr<|.inr rfl,r⟩⟩
def AG:Vt [.tup ds,.vl es] M Q=Q (Q0 ds es) (λM'=>A1 M' (.tup ds) ds/\A1 M' (.vl es) es) M:=propext ⟨λzz=>by obtain⟨_,_,_,_,h,h2,h3,r⟩:=zz;cases h;rw[u9]at h2;rw[j5]at h3;subst h2;subst h3;exact r,λr=>⟨_,_,_,_,rfl,.inl rfl,.inr<|.inr rfl,r⟩⟩
def AE:RT tr e M Q=tr e M λxs M1=>YI xs M1 Q:=rfl
def Fy:YI [.int j] M Q=((-(2 ^ 62)<=j/\j<2 ^ 62)/\Q (G6 0 j.toNat) (λ_=>True) M):=propext ⟨λzz=>by obtain⟨_,h,a,b,r⟩:=zz;cases h;exact⟨⟨a,b⟩,r⟩,λ⟨⟨a,b⟩,r⟩=>⟨_,rfl,a,b,r⟩⟩
def uQ:Km tr e M Q=tr e M λds M1=>LB ds M1 Q:=rfl
def AU:LB [.vl xs] M Q=Q xs.reverse (λ_=>True) M:=propext ⟨λzz=>by obtain⟨_,h,r⟩:=zz;cases h;exact r,λr=>⟨_,rfl,r⟩⟩
def QF:Ys ti g t F e M=ti e M λds stay M1=>R9 g t F ds stay e M1:=rfl
def R9.by(W:Nat->Ev->Mem->Prop)(w0:W 0 e M1)(st:∀ i e M,i<=ds.length->W i e M->stay M)
  (turn:∀ i (d:D) e M,ds[i]? = some d->W i e M->g d e M λe2 M2=>t { F with nx:=W<|i+1,ct:=W<|i+1,bk:=F.nx } e2 M2) (done:∀ e M,W ds.length e M->F.nx e M):R9 g t F ds stay e M1:=⟨W,w0,st,turn,done⟩
def fX(W:Nat->Ev->Mem->Prop)(m:Nat)(w0:W m e M)(turn:∀ m e M,W m e M->tA e M λb M1=>IfK b (t { F with nx:=λe' M'=>∃ m',m'<m/\W m' e' M',ct:=λe' M'=>∃ m',m'<m/\W m' e' M',bk:=F.nx } e M1)<|F.nx e M1):Kr tA t F e M:=⟨W,⟨m,w0⟩,turn⟩
def nD(P:Ev->Mem->Prop)(h1:t { F with nx:=P } e M)(h2:∀ e' M',P e' M'->u F e' M'):Ks t u F e M:=⟨P,h1,h2⟩
def Wx:dLM g ta tr e M R=ta e M λx M1=>LMK x M1 (tr e M1 λxs M2=>g x xs M2 R):=rfl
def kU{x0:D}{r:List D}:gIx (.tup (x0 :: r)) (.int 0) M R=R x0 M:=jr<|E3 rfl
def Ff{x0:D}{r:List D}:gIx (.vl (x0 :: r)) (.int 0) M R=R x0 M:=jr<|E3 rfl
def kT{x0 x1:D}{r:List D}:gIx (.tup (x0 :: x1 :: r)) (.int 1) M R=R x1 M:=jr<|E3 rfl
def Fe{x0 x1:D}{r:List D}:gIx (.vl (x0 :: x1 :: r)) (.int 1) M R=R x1 M:=jr<|E3 rfl
def xU{x0 x1 x2:D}{r:List D}:gIx (.tup (x0 :: x1 :: x2 :: r)) (.int 2) M R=R x2 M:=jr<|E3 rfl
def Fg{x0 x1 x2 x3:D}{r:List D}:gIx (.tup (x0 :: x1 :: x2 :: x3 :: r)) (.int 3) M R=R x3 M:=jr<|E3 rfl
def PX:SzK (0) A=A:=S1<|by decide
def PV:SzK (0+1) A=A:=S1<|by decide
def PR:SzK (0+1+1) A=A:=S1<|by decide
def PQ:SzK (0+1+1+1) A=A:=S1<|by decide
def PN:SzK (0+1+1+1+1) A=A:=S1<|by decide
def PM:SzK (0+1+1+1+1+1) A=A:=S1<|by decide
def My:cl 60 (.int i)=true:=rfl
def Ms:cl 60 .non=true:=rfl
def Mh:cl 60 (.tup ds)=clL 59 ds:=rfl
def LY:cl 60 (.vl ds)=clL 59 ds:=rfl
def LL:clL 59 []=true:=rfl
def LR:clL 59 (d :: r)=(cl 59 d && clL 59 r):=rfl
def Mz:cl 59 (.int i)=true:=rfl
def Mt:cl 59 .non=true:=rfl
def Mi:cl 59 (.tup ds)=clL 58 ds:=rfl
def LZ:cl 59 (.vl ds)=clL 58 ds:=rfl
def LM:clL 58 []=true:=rfl
def LS:clL 58 (d :: r)=(cl 58 d && clL 58 r):=rfl
def MA:cl 58 (.int i)=true:=rfl
def Mu:cl 58 .non=true:=rfl
def Mj:cl 58 (.tup ds)=clL 57 ds:=rfl
def Md:cl 58 (.vl ds)=clL 57 ds:=rfl
def LN:clL 57 []=true:=rfl
def LU:clL 57 (d :: r)=(cl 57 d && clL 57 r):=rfl
def MB:cl 57 (.int i)=true:=rfl
def Mv:cl 57 .non=true:=rfl
def Ml:cl 57 (.tup ds)=clL 56 ds:=rfl
def Me:cl 57 (.vl ds)=clL 56 ds:=rfl
def LO:clL 56 []=true:=rfl
def LV:clL 56 (d :: r)=(cl 56 d && clL 56 r):=rfl
def MC:cl 56 (.int i)=true:=rfl
def Mw:cl 56 .non=true:=rfl
def Mm:cl 56 (.tup ds)=clL 55 ds:=rfl
def Mf:cl 56 (.vl ds)=clL 55 ds:=rfl
def LP:clL 55 []=true:=rfl
def LW:clL 55 (d :: r)=(cl 55 d && clL 55 r):=rfl
def MD:cl 55 (.int i)=true:=rfl
def Mx:cl 55 .non=true:=rfl
def Mn:cl 55 (.tup ds)=clL 54 ds:=rfl
def Mg:cl 55 (.vl ds)=clL 54 ds:=rfl
def LQ:clL 54 []=true:=rfl
def LX:clL 54 (d :: r)=(cl 54 d && clL 54 r):=rfl
def FK:OT [.vl xs] M R=R (.int (xs.length:Int)) M:=Qw rfl
def FL:OT [.tup xs] M R=R (.int (xs.length:Int)) M:=Qw rfl
def xV{bs:List Bool}:UU [.vl<|bs.map D.bl] M R=R (.bl<|bs.any id) M:=propext ⟨λzz=>by obtain⟨_,bs',e,h,r⟩:=zz;cases e;have e2:=Option.some.inj h;have e3:=(a3l λa b z=>by injection z).mp e2;subst e3;exact r,λr=>⟨_,bs,rfl,rfl,r⟩⟩
def Vu(x:D)(A:Prop):Prop:=∃ sk,x = .str sk/\A
def Fu:Vu (.str x) A=A:=propext ⟨λ⟨_,_,a⟩=>a,λa=>⟨_,rfl,a⟩⟩
def iy:Ea [.tup ds,.ty "tuple"] M R=R (.bl true) M:=AN rfl rfl
def pN:Ea [.int i,.ty "int"] M R=R (.bl true) M:=AN rfl rfl
def kW:Ea [.int i,.ty "bool"] M R=R (.bl false) M:=AN rfl rfl
def pM:Ea [.str x,.ty "str"] M R=R (.bl true) M:=AN rfl rfl
def QH:Yu ta e M R=ta e M λx M1=>VC x M1 R:=rfl
def Dc{x:D}{ds:List D}{Q:List D->(Mem->Prop)->Mem->Prop}(h:A1 M x ds)(r:Q ds (λM'=>A1 M' x ds) M):PB x M Q:=⟨ds,h,r⟩
def K9(h:M l=some (.lst ds))(a:A):LMK (.ref l) M A:=⟨⟨l,ds,rfl,h⟩,a⟩
def aM(h:M l=some (.lst ds))(hz:ds.length<1000)(r:R .non (l9 M l<|.lst<|ds++[v])):tq (.ref l) [v] M R:=⟨l,ds,v,rfl,rfl,h,a1F hz<|by decide,r⟩
def CZ{p:Addr}{ds:List D}{j:Nat}{v:D}{Q:Mem->Prop}(h:M p=some (.lst ds))(hj:j<ds.length)(r:Q (l9 M p<|.lst<|ds.set j v)):RH (.ref p) (.int (j:Int)) v M Q:=⟨p,ds,j,j,rfl,rfl,h,by unfold ixN;rw[if_pos<|by omega,if_pos<|by omega];rfl,r⟩
def Lx(h:M l=some (.lst ds))(hb:M b=some (.lst es))(hz:ds.length+es.length<=1000)(r:R .non (l9 M l<|.lst<|ds++es)):Cr (.ref l) [.ref b] M R:=⟨l,b,ds,es,rfl,rfl,h,hb,a1N hz<|by decide,r⟩
def Lu(h:M p=none)(r:R (.vl ds) M):Lv (.ref p) (l9 M p<|.lst ds) R:=⟨p,ds,rfl,f7,by rw[U5 h];exact r⟩
def cT(h:∀ b o,M2 b=some o->M1 b=some o)(r:R x M2):VC x M1 R:=⟨M2,h,r⟩
def De(h:M l=some (.lst ds))(hz:ds.length<100000)(r:R .non (l9 M l<|.lst<|ds++[v])):tq (.ref l) [v] M R:=⟨l,ds,v,rfl,rfl,h,a1F hz (show 100000<=sizeLine by decide),r⟩
def AH:Kt x Y te F e M=te e M λ_ M1=>Y (xN x) M1:=rfl
def AS:KA sp Y tr e M R=tr e M λds M1=>sp (ds++[]) M1 R Y:=rfl
end
def O9{p:Str->Prop}:∀ x∈([]:List Str),p x:=λ_ h=>nomatch h
def o9{α:Type}{xs:List α}{enc:α->D}(f:α->D)(hn:xs.length<=1000)(hst:stay M1)(step:∀ x∈xs,∀ Q,Q (f x) M1->g (enc x) e0 M1 λe2 M2=>te e2 M2 Q)(h:E (xs.map f) M1):∃ W,jq e0 g Eh te (xs.map enc) stay M1 E W:=by
 refine⟨λi ys M=>M=M1/\ys=(xs.take i).map f,⟨⟨rfl,rfl⟩,λi ys M _ w=>by rw[w.1];exact hst,λi d ys M hd w=>?_,λys M w=>?_⟩⟩
 ·obtain⟨rfl,rfl⟩:=w
  rw[a1S]at hd;cases hx:xs[i]? with
  | none=>rw[hx]at hd;cases hd
  | some x =>
   rw[hx]at hd;obtain rfl:enc x=d:=by simpa using hd
   refine step x (a1K hx) _ ⟨?_,rfl,?_⟩
   ·rw[a1H,a2q];exact a1R (a1N (a4F _ _) hn)<|by decide
   ·obtain⟨hl,he⟩:=a1I.mp hx;rw[a2p hl,a11,he];rfl
 ·obtain⟨rfl,rfl⟩:=w;rw[a1H,a2l];exact h
def B2{α:Type}{xs:List α}{enc:α->D}(p:α->Bool)(f:α->D)(hn:xs.length<=1000)(hst:stay M1)
  (step:∀ x∈xs,∀ Q (N:Prop),(p x=true->Q (f x) M1)->(p x=false->N)->g (enc x) e0 M1 λe2 M2=>tc e2 M2 λb M3=>IfB b (te e2 M3 Q)<|M3=M1/\N) (h:E ((xs.filter p).map f) M1):∃ W,jq e0 g tc te (xs.map enc) stay M1 E W:=by
 refine⟨λi ys M=>M=M1/\ys=((xs.take i).filter p).map f,⟨⟨rfl,rfl⟩,λi ys M _ w=>by rw[w.1];exact hst,λi d ys M hd w=>?_,λys M w=>?_⟩⟩
 ·obtain⟨rfl,rfl⟩:=w
  rw[a1S]at hd
  cases hx:xs[i]? with
  | none=>rw[hx]at hd;cases hd
  | some x =>
   rw[hx]at hd
   obtain rfl:enc x=d:=by simpa using hd
   obtain⟨hl,he⟩:=a1I.mp hx
   have hle:(((xs.take i).filter p).map f).length<sizeLine:=by rw[a1H];have h1:=a2w p<|xs.take i;rw[a2q]at h1;exact a1R (a1N h1<|a1N (a4F _ _) hn)<|by decide
   have hs:=step x (a1K hx) (λv M4=>(((xs.take i).filter p).map f).length<sizeLine/\M4=M/\((xs.take i).filter p).map f++[v]=((xs.take<|i+1).filter p).map f) (((xs.take i).filter p).map f=((xs.take<|i+1).filter p).map f)
    (λhp=>⟨hle,rfl,by rw[a2p hl,a2K,a11,he];simp[hp]⟩)
    (λhp=>by rw[a2p hl,a2K,a11,he];simp[hp])
   exact hs
 ·obtain⟨rfl,rfl⟩:=w
  rw[a1H,a2l];exact h
def zp(enc:α->D)(ok:α->Prop)(St:Mem->Mem->Prop)(n:Nat)(hl:ds.length=n)(hn:n<=1000)(hst:∀ M,St M1 M->stay M)(s0:St M1 M1)
  (step:∀ d∈ds,∀ M,St M1 M->∀ Q,(∀ x M',ok x->St M1 M'->Q (enc x) M')->g d e0 M λe2 M2=>te e2 M2 Q) (h:∀(xs:List α) M,xs.length=n->(∀ x∈xs,ok x)->St M1 M->E (xs.map enc) M):∃ W,jq e0 g Eh te ds stay M1 E W:=by
 refine⟨λi ys M=>St M1 M/\∃ xs,xs.length=i/\(∀ x∈xs,ok x)/\ys=xs.map enc,⟨⟨s0,[],rfl,(λ_ z=>nomatch z),rfl⟩,λi ys M _ w=>hst M w.1,λi d ys M hd w=>?_,λys M w=>?_⟩⟩
 ·obtain⟨sM,xs,hl,hok,rfl⟩:=w
  have hi:=(a1I.mp hd).1
  refine step d (a1K hd) M sM _ λx M' hx sM'=>⟨?_,sM',xs++[x],by simp[hl],λz hz=>?_,by simp⟩
  ·rw[a1H,hl];exact a1F (a1F hi<|by omega) (show 1000<=sizeLine by decide)
  ·rcases a10.mp hz with z1|z1
   ·exact hok z z1
   ·rw[a13.mp z1];exact hx
 ·obtain⟨sM,xs,hl,hok,rfl⟩:=w
  exact h xs M (by omega) hok sM
def jc(G:Fn X.prog X.w X.K X.mg X.base x j ps sp)(hr:C3 k X.A)(ha:JA X (e :: es) t)(hk:j<=k:=by decide)(hg:Gl X x:=by rfl)
  (hdb:(x == ("__debug__" : Str))=false:=by decide) (he:starEach (e :: es) X.env=(false,eval e X.env) :: starEach es X.env:=by rfl) (hpl:(backTo pos<|starEach es X.env).any (·.1)=false:=by rfl):JE X (.Call (.Name x p) (e :: es) [] pos) (CP sp [] Y0 t):=Jr G (hr.mono hk) hg ha hdb he hpl
def jx(ha:JE X a ta)(hb:JE X b tb)(hs:gf b:=by exact λ_ _=>rfl):JE X (.Subscript a b pos) (dOp gIx ta tb):=XR RE ha hb hs
def jst(i:Nat)(hN:X.N.Nodup)(he:JE X e tx)(hi:X.N[i]? = some x:=by rfl)(hx:Loc X.env.scope x:=by first|exact .inl rfl|exact .inr rfl)(hs:swapsWith e (some<|.Name x q) pos.line X.env=pure false:=by rfl)
  (hf:X.fn x=true\/X.env.scope.names.lookup x=some .local:=by rw[10]):JS X (.Assign [.Name x q] e pos) (KC tx<|gZ i):=OH hN hi hx he hs hf
def jn(i:Nat)(hN:X.N.Nodup)(hi:X.N[i]? = some x:=by rfl)(hx:Loc X.env.scope x:=by first|exact .inl rfl|exact .inr rfl)(hf:X.fn x=true\/X.env.scope.names.lookup x=some .local:=by rw[10]):JG X (.Name x pos) (gZ i):=Jl hN hi hx hf
def jm(ho:DOp X (compareOp op) g)(ha:JE X a ta)(hb:JE X b tb)(hm:behindInMarks op b=false:=by first|exact IU _|with_unfolding_all rfl):JE X (.Compare a [op] [b] pos) (dOp g ta tb):=UI ho ha hb hm
def jtm(ho:DOp X (compareOp op) g)(ha:JE X a ta)(hb:JE X b tb)(hm:behindInMarks op b=false:=by first|exact IU _|with_unfolding_all rfl):JT X (.Compare a [op] [b] pos) (qv<|dOp g ta tb):=OJ ho ha hb hm
end DL
open DL
namespace GM
open PyProof.Rows hiding St
def d6(q:Rat):D:=.tup [.int q.num,.int (q.den:Int)]
theorem eX(h:d6 q=d6 r):q=r:=by grind[Rat.ext,d6]
def f8:d6 q=d6 r↔q=r:=⟨eX,λh=>by rw[h]⟩
structure R8(M:Mem)(p:Addr):Prop where
 ex:∃ x y z:Int,M p=some (.lst [.int x,.int y,.int z])
def MK(M M':Mem):Prop:=∀ b o,M b=some o->M' b=some o
def MK.new(h:M p=none):MK M (l9 M p o):=λb u e=>by
 have:b≠p:=by intro z;subst z;rw[h]at e;cases e
 rw[i7 this];exact e
structure K3(p:Addr)(M M':Mem):Prop where
 keep:∀ b o,b≠p->M b=some o->M' b=some o
 pool:R8 M' p
def K3.refl(h:R8 M p):K3 p M M:=⟨λ_ _ _ h=>h,h⟩
def K3.trans(a:K3 p M M1)(b:K3 p M1 M2):K3 p M M2:=⟨λc o n h=>b.keep c o n<|a.keep c o n h,b.pool⟩
def K3.upd(x y z:Int):K3 p M (l9 M p<|.lst [.int x,.int y,.int z]):=⟨λb o n h=>by rw[i7 n];exact h,⟨x,y,z,f7⟩⟩
def GL:DSp:=λds M R _=>∃ c:Int,ds=[.int c]/\∀ p M',M p=none->MK M M'->R8 M' p->R (.ref p) M'
def GP:DSp:=λds M R _=>∃(p:Addr) (b:Int),ds=[.ref p,.int b]/\R8 M p/\0<b/\b.natAbs.log2<9000/\∀(r:Int) M',0<=r->r<b->K3 p M M'->R (.int r) M'
def vm:DSp:=λds M R _=>∃ a b:Int,ds=[.int a,.int b]/\b≠0/\b.natAbs.log2<9000/\R (d6<|a2r a b) M
def vp:DSp:=λds M R _=>∃ n:Nat,ds=[.int n]/\n.log2<4000/\∀ s:Nat,s*s<=n->n<(s+1)*(s+1)->R (.int s) M
def Lm(q:Rat)(v:D):Prop:=(∃ r:Rat,0<=r/\r*r=q/\v=d6 r)\/((∀ r:Rat,r*r≠q)/\v = .non)
def GK:DSp:=λds M R _=>∃ q:Rat,ds=[d6 q]/\RM.sz q<=4000/\∀ v,Lm q v->R v M
def Yw:VG 10 18:=⟨by decide,by decide,by decide⟩
def Jc(h1:-(2 ^ 64)<a)(h2:a<2 ^ 64):IntMulOk a b:=.of_left<|intBits_le_64 h1 h2
def Zt(h1:-(2 ^ 64)<b)(h2:b<2 ^ 64):IntMulOk a b:=.of_right<|intBits_le_64 h1 h2
def Zs(hm:0<m)(hm2:m<2 ^ 60)(hk:0<=k)(hk2:k<2 ^ 60):IntMulOk (x % m+k) b:=by have h1:=a33 x (show m≠0 by omega);have h2:=a3C x hm;exact Jc (by omega)<|by omega
def XJ(hm:0<m)(hm2:m<2 ^ 60):IntMulOk (x % m) b:=by have h1:=a33 x (show m≠0 by omega);have h2:=a3C x hm;exact Jc (by omega)<|by omega
def ZG:CFd i 8:=⟨by decide,by decide⟩
def Vl:CFd i 2:=⟨by decide,by decide⟩
def E1{a b:Int}(ha:0<=a)(hb:0<=b):a.fdiv b=a / b:=a4e a hb
def Cp{a b:Int}(hb:b≠0)(h:b.natAbs.log2<9000):((a2i a.natAbs b.natAbs:Nat):Int).natAbs.log2<9000:=by have hp:=Int.natAbs_pos.mpr hb;have hle:a2i a.natAbs b.natAbs<=b.natAbs:=Nat.gcd_le_right _ hp;have h1:=(a4u<|by omega).mp h;exact v6 (a1R hle h1)<|by decide
def JC{a b:Int}(hb:b≠0):((a2i a.natAbs b.natAbs:Nat):Int)≠0:=by simp_all
def sV{a b s:Int}(hb:b≠0)(hs:s=if b<0 then -((a2i a.natAbs b.natAbs:Nat):Int)else((a2i a.natAbs b.natAbs:Nat):Int)){M:Mem}{R:DK}(k:R (d6<|a2r a b) M) :
  R (.tup [.int<|a.fdiv s,.int<|b.fdiv s]) M:=by
 obtain⟨h1,h2⟩:=RM.Ux a b hb s hs
 rw[h1,h2];exact k
def sU(hn:0<n)(h1:a.natAbs<2 ^ n)(h2:b.natAbs<2 ^ n)(hb:b≠0):RM.sz (a2r a b)<=n :=
 a1N (RM.S4 a b hb) (a4l.mpr ⟨RM.ny h1 hn,RM.ny h2 hn⟩)
def Ut(hg:0<g):n<((g+n / g) / 2+1)*((g+n / g) / 2+1):=by
 have h1:n<g*(n / g+1):=by simp_all [Nat.lt_mul_div_succ]
 have h2:g+(n / g+1)<=2*((g+n / g) / 2+1):=by omega
 generalize (g+n / g) / 2+1=b at h2 ⊢;generalize n / g+1=y at h1 h2;have h3:=a3K h2 h2;have h4:4*(g*y)<=(g+y)*(g+y):=by
  rcases Nat.le_total g y with h|h
  ·obtain⟨k,rfl⟩:=Nat.le.dest h
   have:(g+(g+k))*(g+(g+k))=4*(g*(g+k))+k*k:=by grind
   omega
  ·obtain⟨k,rfl⟩:=Nat.le.dest h
   have:(y+k+y)*(y+k+y)=4*((y+k)*y)+k*k:=by grind
   omega
 have h5:(2*b)*(2*b)=4*(b*b):=by grind
 omega
def yD(hg:0<g)(h:¬ (g+n / g) / 2<g):g*g<=n:=by
 have h1:g<=n / g:=by omega
 exact a1N (a34 g h1)<|Nat.mul_div_le n g
def pV(h1:s*s<=n)(h2:n<(s+1)*(s+1))(h3:t*t=n):t=s:=by
 rcases a4m t s with h|h|h
 ·have:(t+1)*(t+1)<=s*s:=a3K h h
  have e:(t+1)*(t+1)=t*t+2*t+1:=by grind
  omega
 ·exact h
 ·have:(s+1)*(s+1)<=t*t:=a3K h h;omega
def lq(r:Rat):(r*r).num=r.num*r.num/\(r*r).den=r.den*r.den:=by
 rw[Rat.mul_def];have hc:(r.num*r.num).natAbs.gcd (r.den*r.den)=1:=by rw[a2j];exact Nat.Coprime.mul_left (Nat.Coprime.mul_right r.reduced r.reduced)<|Nat.Coprime.mul_right r.reduced r.reduced
 simp_all
def DC{q:Rat}{s t:Nat}(h1:((s:Int))*(s:Int)=q.num)(h2:t*t=q.den):∃ r:Rat,0<=r/\r*r=q/\r.num=(s:Int)/\r.den=t:=by
 have ht:t≠0:=by intro e;subst e;have:=q.den_nz;omega
 have hcop:Nat.Coprime s t:=by
  have hq:=q.reduced;have e1:q.num.natAbs=s*s:=by rw[<- h1,a2j,a1G]
  rw[e1,<- h2]at hq;have a1:Nat.Coprime s (t*t):=Nat.Coprime.coprime_mul_left hq;exact Nat.Coprime.coprime_mul_left_right a1
 refine⟨⟨(s:Int),t,ht,by simpa using hcop⟩,?_,?_,rfl,rfl⟩
 ·rw[Rat.le_iff];simp
 ·have:=lq ⟨(s:Int),t,ht,by simpa using hcop⟩;exact Rat.ext (by rw[this.1];exact h1)<|by rw[this.2];exact h2
def mj{q r:Rat}(h:r*r=q):(∃ s:Nat,s*s=q.num.natAbs)/\(∃ t:Nat,t*t=q.den)/\0<=q.num:=by have:=lq r;rw[h]at this;refine⟨⟨r.num.natAbs,by rw[this.1,a2j]⟩,⟨r.den,this.2.symm⟩,?_⟩;rw[this.1];have:=Int.natAbs_mul_self (a:=r.num);rw[<- this];exact a2J _
def SV(h:RM.sz q<=n):q.num.natAbs.log2<n/\q.den.log2<n:=by have h1:=RM.aa q;have h2:=RM.Q5 q;unfold RM.bl at h1 h2;omega
def T1(h:n.log2<k):n<2 ^ k:=by
 rcases a3A n with h0|h0
 ·subst h0;exact a35 k
 ·exact(a4u<|by omega).mp h
def Bh:DSp:=λds M R _=>∃ n:Int,ds=[.int n]/\R (.bl true) M
end GM
namespace GM
structure Sml(g:Nat):Prop where
 log:g.log2<9000
def Sml.mono(h:Sml b)(l:a<=b):Sml a:=⟨v6 (a1R l<|T1 h.log)<|by decide⟩
def Sml.pow(h:k<9000):Sml (2 ^ k):=⟨v6 (a3a (by decide) h)<|by decide⟩
def vn:DSp:=λds _ R _=>∃ ns:List Int,ds=[.vl<|ns.map D.int]/\ns.length<=63/\∀ M',R (.bl true) M'
end GM
open RM (sz)
namespace GM
def pW:DSp:=λds M R _=>∃ a b:Nat,ds=[.int (a:Int),.int (b:Int)]/\R (.int ((a2i a b:Nat):Int)) M
def QR:DSp:=λds M R _=>∃ q:Rat,ds=[d6 q]/\R (d6 (-q)) M
def GN:DSp:=λds M R _=>∃ q r:Rat,ds=[d6 q,d6 r]/\sz q+sz r<=8900/\R (d6<|q+r) M
def Bj:DSp:=λds M R _=>∃ q r:Rat,ds=[d6 q,d6 r]/\sz q+sz r<=8900/\R (d6<|q - r) M
def Bi:DSp:=λds M R _=>∃ q r:Rat,ds=[d6 q,d6 r]/\sz q+sz r<=8900/\R (d6<|q*r) M
def GO:DSp:=λds M R _=>∃ q r:Rat,ds=[d6 q,d6 r]/\r≠0/\sz q+sz r<=8900/\R (d6<|q / r) M
def GQ:DSp:=λds M R _=>∃ q r:Rat,ds=[d6 q,d6 r]/\sz q+sz r<=8900/\R (.bl<|decide (q<r)) M
def A6(q:Rat):q.num.natAbs<2 ^ sz q:=a1F (RM.fi _)<|a1X (by decide)<|RM.aa q
def u8(q:Rat):((q.den:Int)).natAbs<2 ^ sz q:=by rw[a1G];exact a1F (RM.fi _)<|a1X (by decide)<|RM.Q5 q
def mNN(h:sz q+sz r<=8900):IntMulOk q.num r.num:=j9 _ _ (A6 q) (A6 r)<|by omega
def mND(h:sz q+sz r<=8900):IntMulOk q.num (r.den:Int):=j9 _ _ (A6 q) (u8 r)<|by omega
def mDD(h:sz q+sz r<=8900):IntMulOk (q.den:Int) (r.den:Int):=j9 _ _ (u8 q) (u8 r)<|by omega
def mDN(h:sz q+sz r<=8900):IntMulOk (q.den:Int) r.num:=j9 _ _ (u8 q) (A6 r)<|by omega
def lDD(h:sz q+sz r<=8900):((q.den:Int)*(r.den:Int)).natAbs.log2<9000:=by have h1:=RM.hZ q.den r.den;grind[RM.Q5,a2j,a1G,RM.bl]
def lDN(h:sz q+sz r<=8900):((q.den:Int)*r.num).natAbs.log2<9000:=by have h1:=RM.hZ q.den r.num.natAbs;grind[RM.Q5,RM.aa,a2j,a1G,RM.bl]
def Ur{r:Rat}(h:r≠0):r.num≠0:=λz=>h<|a4S.mp z
def k9(q:Rat):Rat:=if 0<=q then q else -q
def fW(q:Rat):0<=k9 q:=by
 unfold k9;split
 ·assumption
 ·grind
def tW(q:Rat):k9 q*k9 q=q*q:=by
 unfold k9;split
 ·rfl
 ·grind
def Vs(q:Rat):d6 (k9 q) = .tup [.int (q.num.natAbs:Int),.int (q.den:Int)]:=by grind[a45,a48,a5A,k9,d6]
def iY(t:Rat):t.num<0↔t<0:=by have:=a45 (q:=t);grind
def xC{a:Rat}{A:Int}{D S:Nat}(hS:0<S)(hD:D≠0)(hd:D<2 ^ S)(h:a*(D:Rat)=(A:Rat))(hA:A.natAbs<2 ^ S):sz a<=S:=by
 have hD':(D:Rat)≠0:=by intro z;exact hD<|by exact_mod_cast z
 have e:a=a2r A (D:Int):=by
  rw[a3s];have:a=(A:Rat) / (D:Rat):=by grind
  rw[this];rfl
 rw[e];exact a1N (RM.S4 A D<|by omega)<|a4l.mpr ⟨RM.ny hA hS,RM.ny (by rw[a1G];exact hd) hS⟩
structure CD(S:Nat)(a b c d:Rat):Prop where
 ex:∃(A B C E:Int) (D:Nat),D≠0/\D<2 ^ S/\(A.natAbs<2 ^ S/\B.natAbs<2 ^ S/\C.natAbs<2 ^ S/\E.natAbs<2 ^ S)/\a*(D:Rat)=(A:Rat)/\b*(D:Rat)=(B:Rat)/\c*(D:Rat)=(C:Rat)/\d*(D:Rat)=(E:Rat)
def u4(q:Rat)(h:sz q<=k):q.num.natAbs<2 ^ k:=a1F (RM.fi _)<|a1X (by decide)<|a1N (RM.aa q) h
def l5(q:Rat)(h:sz q<=k):q.den<2 ^ k:=a1F (RM.fi _)<|a1X (by decide)<|a1N (RM.Q5 q) h
def A5(q:Rat):q*(q.den:Rat)=(q.num:Rat):=by
 have h:(q.den:Rat)≠0:=by intro z;exact q.den_nz<|by simp_all
 grind[Rat.num_divInt_den,a3s,a19]
def r9(h1:a<2 ^ m)(h2:b<2 ^ n):a*b<2 ^ (m+n):=by rw[a2Y];exact a26 h1 h2
def h7{a b:Int}{m n:Nat}(h1:a.natAbs<2 ^ m)(h2:b.natAbs<2 ^ n):(a*b).natAbs<2 ^ (m+n):=by rw[a2j];exact r9 h1 h2
def A9{a b:Int}{m:Nat}(h1:a.natAbs<2 ^ m)(h2:b.natAbs<2 ^ m):(a+b).natAbs<2 ^ (m+1):=by have:=a5k a b;rw[a4h];omega
def D2(h:a<2 ^ m)(hn:m<=n):a<2 ^ n:=a1F h<|a1X (by decide) hn
def CD.one:CD 1 1 0 0 1:=⟨1,0,0,1,1,by decide,by decide,⟨by decide,by decide,by decide,by decide⟩,by grind,by grind,by grind,by grind⟩
def CD.swap(h:CD S a b c d):CD S c d a b:=by obtain⟨A,B,C,E,D,h0,hd,⟨h1,h2,h3,h4⟩,e1,e2,e3,e4⟩:=h.ex;exact⟨C,E,A,B,D,h0,hd,⟨h3,h4,h1,h2⟩,e3,e4,e1,e2⟩
def CD.step(h:CD S a b c d)(hq:sz q<=k):CD (S+k+1) (a+q*c) (b+q*d) c d:=by
 obtain⟨A,B,C,E,D,h0,hd,⟨h1,h2,h3,h4⟩,e1,e2,e3,e4⟩:=h.ex;have hn:=u4 q hq;have hm:=l5 q hq;have hm':(q.den:Int).natAbs<2 ^ k:=by exact hm
 have e:=A5 q;have z:∀{X:Int},X.natAbs<2 ^ S->(X*q.den).natAbs<2 ^ (S+k):=λh=>h7 h hm';have z2:∀{X:Int},X.natAbs<2 ^ S->(X*q.num).natAbs<2 ^ (S+k):=λh=>h7 h hn;refine⟨A*q.den+C*q.num,B*q.den+E*q.num,C*q.den,E*q.den,D*q.den,a4T h0 q.den_nz,D2 (r9 hd hm)<|by omega,
  ⟨A9 (z h1)<|z2 h3,A9 (z h2)<|z2 h4,D2 (z h3)<|by omega,D2 (z h4)<|by omega⟩,?_,?_,?_,?_⟩
 all_goals (simp only[a3c,a1W,a19];grind)
abbrev lh(a b c d:Rat):D:=.tup [d6 a,d6 b,d6 c,d6 d]
abbrev o7(y u:Rat):D:=.tup [d6 y,d6 u]
structure T4(S:Nat)(a b c d:Rat):Prop where
 a:sz a<=S
 b:sz b<=S
 c:sz c<=S
 d:sz d<=S
structure T2(S:Nat)(y u:Rat):Prop where
 y:sz y<=S
 u:sz u<=S
def CD.t4{S:Nat}{a b c d:Rat}(h:CD S a b c d)(hS:0<S:=by omega):T4 S a b c d:=by obtain⟨A,B,C,E,D,h0,hd,⟨h1,h2,h3,h4⟩,e1,e2,e3,e4⟩:=h.ex;exact⟨xC hS h0 hd e1 h1,xC hS h0 hd e2 h2,xC hS h0 hd e3 h3,xC hS h0 hd e4 h4⟩
def pX:DSp:=λds M R _=>∃ a b c d:Rat,ds=[o7 a c,o7 b d]/\R (lh a b c d) M
def CD.mono(h:CD S a b c d)(hs:S<=S'):CD S' a b c d:=by obtain⟨A,B,C,E,D,h0,hd,⟨h1,h2,h3,h4⟩,e1,e2,e3,e4⟩:=h.ex;exact⟨A,B,C,E,D,h0,D2 hd hs,⟨D2 h1 hs,D2 h2 hs,D2 h3 hs,D2 h4 hs⟩,e1,e2,e3,e4⟩
theorem Q6(q:Rat):sz (k9 q)=sz q:=by grind[RM.Q1,k9]
def Pz(h:q≠0):0<k9 q:=by
 unfold k9;split
 ·grind
 ·grind
def i8(x:Str × Rat):D:=.tup [.str x.1,d6 x.2]
structure cQ(x:Str × Rat):Prop where
 kind:(x.1 = "gap" /\ 0<=x.2)\/x.1 = "glass" \/ (x.1 = "stop" /\ 0<x.2)
 sz:RM.sz x.2<=41
def F3(x:Str × Rat)(y u:Rat):Rat × Rat:=if x.1 = "gap" then(y+x.2*u,u)else if x.1 = "glass" then(y,u - x.2*y)else(y,u)
def k8(bs:List (Str × Rat))(r:Rat × Rat):Rat × Rat:=bs.foldl (λr x=>F3 x r.1 r.2) r
def CD.t2(h:CD S y 0 u 0)(hS:0<S:=by omega):T2 S y u:=⟨h.t4.a,h.t4.c⟩
def eZ{bs:List (Str × Rat)}{i:Nat}{x:Str × Rat}(h:bs[i]? = some x)(r:Rat × Rat):k8 (bs.take<|i+1) r=F3 x (k8 (bs.take i) r).1 (k8 (bs.take i) r).2:=by obtain⟨hl,he⟩:=a1I.mp h;unfold k8;rw[a2p hl,a3d,he];rfl
theorem kr(bs:List (Str × Rat))(y u:Rat):(k8 bs (y,u)).1=(k8 bs (1,0)).1*y+(k8 bs (0,1)).1*u/\(k8 bs (y,u)).2=(k8 bs (1,0)).2*y+(k8 bs (0,1)).2*u:=by
 have gen:∀(bs:List (Str × Rat)) (y u a b c d z w:Rat),z=a*y+b*u->w=c*y+d*u ->
   (k8 bs (z,w)).1=(k8 bs (a,c)).1*y+(k8 bs (b,d)).1*u/\(k8 bs (z,w)).2=(k8 bs (a,c)).2*y+(k8 bs (b,d)).2*u:=by
  intro bs
  induction bs with
  | nil=>intro y u a b c d z w h1 h2;exact⟨h1,h2⟩
  | cons x r ih =>
   intro y u a b c d z w h1 h2
   refine ih y u (F3 x a c).1 (F3 x b d).1 (F3 x a c).2 (F3 x b d).2 (F3 x z w).1 (F3 x z w).2 ?_ ?_
   ·unfold F3;split
    ·grind
    ·split<;>grind
   ·unfold F3;split
    ·grind
    ·split<;>grind
 exact gen bs y u 1 0 0 1 y u (by grind) (by grind)
def gC{bs:List (Str × Rat)}{i:Nat}{d:D}(h:(bs.map i8)[i]? = some d):∃ x,bs[i]? = some x/\d=i8 x:=by
 rw[a1S]at h;cases e:bs[i]? with
 | none=>rw[e]at h;cases h
 | some x=>rw[e]at h;exact⟨x,rfl,(Option.some.inj h).symm⟩
def NS(bs:List (Str × Rat)):(k8 bs (1,0)).1*(k8 bs (0,1)).2 - (k8 bs (0,1)).1*(k8 bs (1,0)).2=1:=by
 have gen:∀ bs y u z w,(k8 bs (y,u)).1*(k8 bs (z,w)).2 - (k8 bs (z,w)).1*(k8 bs (y,u)).2=y*w - z*u:=by
  intro bs;induction bs with
  | nil=>intro y u z w;rfl
  | cons x r ih =>
   intro y u z w;have:=ih (F3 x y u).1 (F3 x y u).2 (F3 x z w).1 (F3 x z w).2;refine Eq.trans this ?_;unfold F3;split
   ·grind
   ·split<;>grind
 grind
def QS:DSp:=λds M R _=>∃ q:Rat,ds=[d6 q]/\R (d6<|k9 q) M
def qg(h:i8 x=i8 y):x=y:=by grind[Prod.ext,eX,i8]
def e7:i8 x=i8 y↔x=y:=⟨qg,λh=>by rw[h]⟩
def d7{xs ys:List (Str × Rat)}:xs.map i8=ys.map i8↔xs=ys:=a3l λ_ _ h=>qg h
def j4(l:Rat × Rat × Rat):D:=.tup [d6 l.1,d6 l.2.1,d6 l.2.2]
def qj(h:j4 x=j4 y):x=y:=by grind[Prod.ext,eX,j4]
def e8:j4 x=j4 y↔x=y:=⟨qj,λh=>by rw[h]⟩
def d8{xs ys:List (Rat × Rat × Rat)}:xs.map j4=ys.map j4↔xs=ys:=a3l λ_ _ h=>qj h
def Tj:D.tup [d6 p,d6 q,d6 r]=j4 (p,q,r):=rfl
def Aw:jj 3 gs (j4 l) e M Q=gs [d6 l.1,d6 l.2.1,d6 l.2.2] e M Q:=rfl
def Fb:gIx (d6 q) (.int 0) M R=R (.int q.num) M:=kU
def EZ:gIx (d6 q) (.int 1) M R=R (.int (q.den:Int)) M:=kT
def EY:jj 2 gs (d6 q) e M Q=gs [.int q.num,.int (q.den:Int)] e M Q:=rfl
def Av:gIx (i8 x) (.int 0) M R=R (.str x.1) M:=kU
def Au:gIx (i8 x) (.int 1) M R=R (d6 x.2) M:=kT
def As:jj 2 gs (i8 x) e M Q=gs [.str x.1,d6 x.2] e M Q:=rfl
def Mo:cl 60 (d6 q)=true:=rfl
def Mp:cl 59 (d6 q)=true:=rfl
def Mq:cl 58 (d6 q)=true:=rfl
def Mr:cl 57 (d6 q)=true:=rfl
def r0:D.tup [.int 0,.int 1]=d6 0:=rfl
def r1:D.tup [.int 1,.int 1]=d6 1:=rfl
def r2:D.tup [.int 2,.int 1]=d6 2:=rfl
def r4:D.tup [.int 4,.int 1]=d6 4:=rfl
def Ru:D.tup [.int (q.num.natAbs:Int),.int (q.den:Int)]=d6 (k9 q):=(Vs q).symm
def Xt:D.tup [.int (-q.num),.int (q.den:Int)]=d6 (-q):=by unfold d6;rw[a48,a5A]
def Ti:D.tup [.int q.num,.int (q.den:Int)]=d6 q:=rfl
def rm2:D.tup [.int (-2),.int 1]=d6 (-2):=rfl
def rm1:D.tup [.int (-1),.int 1]=d6 (-1):=rfl
end GM
local macro_rules|`(tactic| rw[11])=>`(tactic| (rename_i e h;simp only[List.cons.injEq,and_true,true_and,GM.f8,GM.e7,GM.d7,GM.e8,GM.d8,DL.D.tup.injEq,DL.D.ref.injEq,DL.D.int.injEq,DL.D.str.injEq,DL.D.bl.injEq,DL.D.vl.injEq,a1J,and_assoc]at e;(repeat(obtain⟨e1,e⟩:=e;subst e1));subst e;exact h))
local macro_rules|`(tactic| rw[3])=>`(tactic| exact propext ⟨λz=>by obtain⟨_,_,_⟩:=z;rw[11],λh=>⟨_,rfl,h⟩⟩)
local macro_rules|`(tactic| rw[4])=>`(tactic| exact propext ⟨λz=>by obtain⟨_,_,_,_⟩:=z;rw[11],λh=>⟨_,_,rfl,h⟩⟩)
local macro_rules|`(tactic| rw[9])=>`(tactic| exact propext ⟨λz=>by obtain⟨_,_,_,_,_,_⟩:=z;rw[11],λh=>⟨_,_,_,_,rfl,h⟩⟩)
open Lean.Parser.Command in
set_option hygiene false in
local macro_rules|`(command|$_:declModifiers $d:example)=>do
 let b:=d.raw[1][0].getArgs.toList
 let v:List (Lean.Ident × Lean.Term):=(b.drop 3).flatMap λx=>x[1].getArgs.toList.map λy=>(⟨y⟩,⟨x[2][1]⟩)
 let r:Lean.Term:=⟨d.raw[2][1]⟩
 if r.raw.isOfKind ``Lean.Parser.Term.byTactic then Lean.Macro.throwUnsupported
 match b with
 |x::y::z::_=>
  let i:=λ(x:Lean.Syntax)=>(⟨Lean.mkNode ``declId #[x,Lean.mkNullNode]⟩:Lean.TSyntax ``declId)
  let p:Lean.Term:=⟨x⟩
  let q:Lean.Term:=⟨y⟩
  let a:Lean.Term:=⟨d.raw[1][1][0][1]⟩
  let n:=(v.map (·.1)).toArray
  let t<-v.foldrM (λw b=>`(∀_:$(w.2),$b)) (<- `(Mem->DK->DXK->Prop))
  let g<-v.foldrM (λw b=>`(λ$(w.1):ident=>$b)) (<- `(λM R Y=>$r))
  let e<-v.foldrM (λw b=>`(∃$(w.1):ident:$(w.2),$b)) (<- `(ds=$a/\$p $n* M R Y))
  let h<-v.foldrM (λw b=>`(∀{$(w.1):ident:$(w.2)},$b)) (<- `(∀{M R Y},$q $a M R Y=($p $n* M R Y)))
  let o<-v.foldrM (λ_ b=>`(⟨_,$b⟩)) (<- `(⟨rfl,h⟩))
  let f<-v.foldrM (λ_ b=>`(tactic|(obtain⟨_,z⟩:=z;$b))) (<- `(tactic|(obtain⟨_,_⟩:=z;rw[11])))
  let c<-`(command|abbrev $(i x):declId:$t:term:=$g)
  let k<-`(command|def $(i y):declId:DSp:=λds M R Y=>$e)
  let s<-`(command|def $(i z):declId:$h:term:=by (intros;exact propext ⟨λz=>by $f:tactic,λh=>$o⟩))
  return Lean.mkNullNode #[c,k,s]
 |_=>Lean.Macro.throwUnsupported
namespace GM
def iq{a b:Nat}{M:Mem}{R:DK}{Y:DXK}:pW [.int (a:Int),.int (b:Int)] M R Y=(R (.int ((a2i a b:Nat):Int)) M):=by rw[4]
def zV{q:Rat}{M:Mem}{R:DK}{Y:DXK}:QR [d6 q] M R Y=(R (d6 (-q)) M):=by rw[3]
def uf{q r:Rat}{M:Mem}{R:DK}{Y:DXK}:GN [d6 q,d6 r] M R Y=(sz q+sz r<=8900/\R (d6<|q+r) M):=by rw[4]
def pj{q r:Rat}{M:Mem}{R:DK}{Y:DXK}:Bj [d6 q,d6 r] M R Y=(sz q+sz r<=8900/\R (d6<|q - r) M):=by rw[4]
def ph{q r:Rat}{M:Mem}{R:DK}{Y:DXK}:Bi [d6 q,d6 r] M R Y=(sz q+sz r<=8900/\R (d6<|q*r) M):=by rw[4]
def ug{q r:Rat}{M:Mem}{R:DK}{Y:DXK}:GO [d6 q,d6 r] M R Y=(r≠0/\sz q+sz r<=8900/\R (d6<|q / r) M):=by rw[4]
def ui{q r:Rat}{M:Mem}{R:DK}{Y:DXK}:GQ [d6 q,d6 r] M R Y=(sz q+sz r<=8900/\R (.bl<|decide (q<r)) M):=by rw[4]
def zW{a b:Int}{M:Mem}{R:DK}{Y:DXK}:vm [.int a,.int b] M R Y=(b≠0/\b.natAbs.log2<9000/\R (d6<|a2r a b) M):=by rw[4]
def ue{c:Int}{M:Mem}{R:DK}{Y:DXK}:GL [.int c] M R Y=(∀ p M',M p=none->MK M M'->R8 M' p->R (.ref p) M'):=by rw[3]
def uh{p:Addr}{b:Int}{M:Mem}{R:DK}{Y:DXK}:GP [.ref p,.int b] M R Y=(R8 M p/\0<b/\b.natAbs.log2<9000/\∀ r M',0<=r->r<b->K3 p M M'->R (.int r) M'):=by rw[4]
def zX{q:Rat}{M:Mem}{R:DK}{Y:DXK}:QS [d6 q] M R Y=(R (d6<|k9 q) M):=by rw[3]
def ud{q:Rat}{M:Mem}{R:DK}{Y:DXK}:GK [d6 q] M R Y=(RM.sz q<=4000/\∀ v,Lm q v->R v M):=by rw[3]
def iu{a b c d:Rat}{M:Mem}{R:DK}{Y:DXK}:pX [o7 a c,o7 b d] M R Y=(R (lh a b c d) M):=by rw[9]
abbrev rL(a b c d y u:Rat)(M:Mem)(R:DK)(Y:DXK):Prop:=sz a+sz y+(sz b+sz u)<=8900/\sz c+sz y+(sz d+sz u)<=8900/\R (o7 (a*y+b*u)<|c*y+d*u) M
def Xi:DSp:=λds M R Y=>∃(a b c d y u:Rat),ds=[lh a b c d,o7 y u]/\rL a b c d y u M R Y
def ER{a b c d y u:Rat}{M:Mem}{R:DK}{Y:DXK}:Xi [lh a b c d,o7 y u] M R Y=(rL a b c d y u M R Y):=by exact propext ⟨λz=>by obtain⟨_,_,_,_,_,_,_,_⟩:=z;rw[11],λh=>⟨_,_,_,_,_,_,rfl,h⟩⟩
example kc Rn Al(x:Str × Rat)(y u:Rat):[i8 x,o7 y u]:=sz x.2+sz y+sz u<=8900/\R (o7 (F3 x y u).1 (F3 x y u).2) M
theorem KP:∀{ds:List D},(∀ x∈ds,cl k x=true)->clL k ds=true
 | [],_=>rfl
 | d :: r,h=>by show(cl k d && clL k r)=true;rw[h d a1M,KP λx hx=>h x<|a1O _ hx];rfl
def tK{ds:List D}{n:Nat}:X2 ds none (some (n:Int))=ds.take n:=by simp[a44,Nat.sub_zero,if_neg,a2O,X2,HT.sIx]
def OU(h0:0<=r)(h1:r<xs.length)(h:∀ d∈xs,R d M):gIx (.vl xs) (.int r) M R:=by obtain⟨z,e,hz⟩:=Pu h0 h1;exact⟨z,e,h z hz⟩
end GM
set_option maxHeartbeats 1000000
namespace GM
def SM(p q y u:Rat):Int:=p.num*y.num*q.den*u.den+q.num*u.num*p.den*y.den
def zF(p q y u:Rat):Int:=p.den*y.den*q.den*u.den
def Y6{a b:Int}{m n:Nat}(h1:a.natAbs<2 ^ m)(h2:b.natAbs<2 ^ n):(a*b).natAbs<2 ^ (m+n):=by rw[a2j,a2Y];exact a23 h1 (a2M h2)<|a4w<|by decide
def Vq(p q y u:Rat):(zF p q y u).natAbs<2 ^ (sz p+sz q+sz y+sz u):=by unfold zF;have h1:=Y6 (Y6 (Y6 (u8 p)<|u8 y)<|u8 q)<|u8 u;rw[show sz p+sz y+sz q+sz u=sz p+sz q+sz y+sz u by omega]at h1;exact h1
def DU{ls:List (Rat × Rat × Rat)}{i:Nat}{d:D}(h:(ls.map j4)[i]? = some d):∃ l,ls[i]? = some l/\d=j4 l:=by
 rw[a1S]at h;cases e:ls[i]? with
 | none=>rw[e]at h;cases h
 | some l=>rw[e]at h;exact⟨l,rfl,(Option.some.inj h).symm⟩
def rD(r:Rat × Rat):D:=o7 r.1 r.2
abbrev Q4:=Rat × Rat × Rat × Rat
def K5(m:Q4):D:=lh m.1 m.2.1 m.2.2.1 m.2.2.2
def Uu(m k:Q4):Q4:=(m.1*k.1+m.2.1*k.2.2.1,m.1*k.2.1+m.2.1*k.2.2.2,m.2.2.1*k.1+m.2.2.2*k.2.2.1,m.2.2.1*k.2.1+m.2.2.2*k.2.2.2)
def Pd(m:Q4):Rat:=m.1*m.2.2.2 - m.2.1*m.2.2.1
def CDQ(S:Nat)(m:Q4):Prop:=CD S m.1 m.2.1 m.2.2.1 m.2.2.2
theorem ZF{m k:Q4}(h1:m.1=k.1)(h2:m.2.1=k.2.1)(h3:m.2.2.1=k.2.2.1)(h4:m.2.2.2=k.2.2.2):m=k:=Prod.ext h1<|Prod.ext h2<|Prod.ext h3 h4
def CD.mul(h:CDQ S m)(g:CDQ T k):CDQ (S+T+1) (Uu m k):=by obtain⟨A,B,C,E,D,h0,hd,⟨h1,h2,h3,h4⟩,e1,e2,e3,e4⟩:=h.ex;obtain⟨A',B',C',E',D',h0',hd',⟨h1',h2',h3',h4'⟩,e1',e2',e3',e4'⟩:=g.ex;refine⟨A*A'+B*C',A*B'+B*E',C*A'+E*C',C*B'+E*E',D*D',a4T h0 h0',D2 (r9 hd hd')<|by omega,⟨A9 (h7 h1 h1')<|h7 h2 h3',A9 (h7 h1 h2')<|h7 h2 h4',A9 (h7 h3 h1')<|h7 h4 h3',A9 (h7 h3 h2')<|h7 h4 h4'⟩,?_,?_,?_,?_⟩;all_goals (simp only[Uu,a21,a3c,a1W];grind)
def CD.tr(h:CD S a b c d):sz (a+d)<=S+1:=by obtain⟨A,B,C,E,D,h0,hd,⟨h1,h2,h3,h4⟩,e1,e2,e3,e4⟩:=h.ex;exact xC (by omega) h0 (D2 hd<|by omega) (by grind)<|A9 h1 h4
def pf:Bh [.int n] M R Y=R (.bl true) M:=propext ⟨λ⟨_,e,h⟩=>by cases e;exact h,λh=>⟨_,rfl,h⟩⟩
def Lj(x:Str × Rat):Bool:=x.1 == "gap" || x.1 == "glass"
def oX(bs:List (Str × Rat)):Nat:=(bs.filter Lj).length
def wY(h:Lj x=false)(y u:Rat):F3 x y u=(y,u):=by simp_all [Bool.or_eq_false_iff,if_neg,Lj,F3]
def CD.ledk(h:CD S y y' u u')(hx:sz x.2<=k):CD (S+(k+1)) (F3 x y u).1 (F3 x y' u').1 (F3 x y u).2 (F3 x y' u').2:=by
 unfold F3;split
 ·exact h.step hx
 ·split
  ·have:=(h.swap.step<|by rw[RM.Q1];exact hx).swap;grind
  ·exact h.mono<|by omega
def NT(bs:List (Str × Rat))(hb:∀ x∈bs,Lj x=true->sz x.2<=k):∀{S:Nat} {y u y' u':Rat},CD S y y' u u'->CD (S+(k+1)*oX bs) (k8 bs (y,u)).1 (k8 bs (y',u')).1 (k8 bs (y,u)).2 (k8 bs (y',u')).2:=by
 induction bs with
 | nil=>intro S y u y' u' h;exact h.mono<|by omega
 | cons x r ih =>
  intro S y u y' u' h;have hr:=λz hz=>hb z<|a1O _ hz;cases ha:Lj x with
  | false =>
   have e:oX (x :: r)=oX r:=by unfold oX;rw[a5y,ha];rfl
   rw[e];show CD _ (k8 r<|F3 x y u).1 (k8 r<|F3 x y' u').1 (k8 r<|F3 x y u).2 (k8 r<|F3 x y' u').2;rw[wY ha,wY ha];exact ih hr h
  | true =>
   have e:oX (x :: r)=oX r+1:=by unfold oX;rw[a5y,ha];rfl
   rw[e,show S+(k+1)*(oX r+1)=S+(k+1)+(k+1)*oX r by rw[Nat.mul_succ];omega];exact ih hr<|h.ledk<|hb x a1M ha
def tbQ(bs:List (Str × Rat)):Q4:=((k8 bs (1,0)).1,(k8 bs (0,1)).1,(k8 bs (1,0)).2,(k8 bs (0,1)).2)
def Gv(bs:List (Str × Rat)):Pd (tbQ bs)=1:=NS bs
def j3(near:Rat)(bs:List (Str × Rat))(far:Rat):List (Str × Rat):=bs++[(a1B "glass",far)]++bs.reverse++[(a1B "glass",near)]
theorem au(near far:Rat)(bs:List (Str × Rat)):(j3 near bs far).length=2*bs.length+2:=by unfold j3;simp only[a1V,a2n,a15,a3D];omega
def rS(h:CDQ S (tbQ xs))(g:CD T y 0 u 0):CD (S+T+1) (k8 xs (y,u)).1 0 (k8 xs (y,u)).2 0:=by have c:=CD.mul (k:=(y,0,u,0)) h g;grind[kr,CDQ,Uu,tbQ]
def IT{q:Rat}(h:0<q):0<q.num:=by simp_all [a5l]
def Ed(bs:List (Str × Rat)):L8 (bs.map i8)=bs.zipIdx.map λx=>D.tup [.int (x.2:Int),i8 x.1]:=by unfold L8;refine a3P (by simp) λi h1 h2=>?_;simp
def j6(near:Rat)(bs:List (Str × Rat))(far:Rat):List (D × D × (Str × Rat)):=(bs.zipIdx.map λx=>(D.str "forth",D.int (x.2:Int),x.1))++[(.non,.non,(a1B "glass",far))]++(bs.zipIdx.reverse.map λx=>(D.str "back",D.int (x.2:Int),x.1))++[(.non,.non,(a1B "glass",near))]
def Co(near far:Rat)(bs:List (Str × Rat)):j3 near bs far=(j6 near bs far).map λz=>z.2.2:=by
 unfold j3 j6;simp;have e1:∀ w,a3g ((λz:D × D × (Str × Rat)=>z.2.2) ∘ λx:(Str × Rat) × Nat=>(w,D.int x.2,x.1)) bs.zipIdx=bs:=λw=>by have:((λz:D × D × (Str × Rat)=>z.2.2) ∘ λx:(Str × Rat) × Nat=>(w,D.int x.2,x.1))=Prod.fst:=rfl;simp_all
 rw[e1,e1]
def uZ{m k:Q4}(h:K5 m=K5 k):m=k:=by unfold K5 lh at h;grind[ZF,eX]
def Be(h:r*r=q):sz r<=sz q:=by have e:=lq r;refine RM.QQ (a1N (RM.fR ?_)<|RM.aa q)<|a1N (RM.fR ?_)<|RM.Q5 q;all_goals simp_all [a2j,a3E]
def trQ(m:Q4):Rat:=m.1+m.2.2.2
def jw(m:Q4):D:=if m=(1,0,0,1)then .int 1 else if m=(-1,0,0,-1)then .int 2 else if trQ m = -1 then .int 3 else if trQ m=0 then .int 4 else if trQ m=1 then .int 6 else .non
abbrev G3(m:Q4):Prop:=m=(1,0,0,1)\/m=(-1,0,0,-1)\/trQ m = -1\/trQ m=0\/trQ m=1
def Nm(h:G3 m):∃ n,jw m = .int n:=by
 unfold jw;by_cases h1:m=(1,0,0,1)
 ·simp_all
 ·rw[if_neg h1]
  by_cases h2:m=(-1,0,0,-1)
  ·simp_all
  ·rw[if_neg h2]
   by_cases h3:trQ m = -1
   ·simp_all
   ·rw[if_neg h3]
    by_cases h4:trQ m=0
    ·simp_all
    ·rw[if_neg h4]
     by_cases h5:trQ m=1
     ·simp_all
     grind
def Nl(h:¬ G3 m):jw m = .non:=by simp_all [if_neg,G3,jw]
def kwS(m:Q4):Str:=if G3 m then "same" else if k9 (trQ m)=2 then "shear" else if k9 (trQ m)<2 then "turns" else "off"
def RO(m:Q4):D:=.tup [d6 m.2.2.1,d6<|m.2.2.2 - m.1,d6 (-m.2.1)]
def zG(m:Q4):D:=if m.2.1=0 then o7 0 1 else o7 m.2.1 (trQ m / 2 - m.1)
def fY(t:Rat)(v:D):Prop:=(∃ r:Rat,0<=r/\r*r=t*t - 4/\v=d6 ((t - (if t<0 then -r else r)) / 2))\/((∀ r:Rat,r*r≠t*t - 4)/\v = .non)
def zL(m:Q4)(v:D):Prop:=(kwS m = "same" /\ v=jw m)\/(kwS m = "turns" /\ v=RO m)\/(kwS m = "shear" /\ v=zG m)\/(kwS m = "off" /\ fY (trQ m) v)
example rz Xa EE(x:D):[x]:=∃ m:Q4,x=K5 m/\CDQ 230 m/\R (d6<|trQ m) M
example rE Xd EK(x:D):[x]:=∃ m:Q4,x=K5 m/\CDQ 230 m/\R (jw m) M
example BG sKw PY(x:D):[x]:=∃ m:Q4,x=K5 m/\CDQ 230 m/\R (.str<|kwS m) M
example bg BK pJ(x:D):[x]:=∃ m:Q4,x=K5 m/\CDQ 230 m/\R (RO m) M
example eW HJ uK(x:D):[x]:=∃ m:Q4,x=K5 m/\CDQ 230 m/\R (zG m) M
example rB Xc EG(t:Rat):[d6 t]:=sz t<=231/\∀ v,fY t v->R v M
def Lk(a b:Rat):k9 (a*b)=k9 a*k9 b:=by
 have h1:=fW<|a*b;have h2:=a2o (fW a)<|fW b;have h3:=tW<|a*b;have h4:=tW a;have h5:=tW b;have f:(k9 (a*b) - k9 a*k9 b)*(k9 (a*b)+k9 a*k9 b)=0:=by grind
 rcases Rat.mul_eq_zero.mp f with z|z<;>grind
theorem F4(m:Q4):(G3 m/\kwS m=a1B "same")\/(¬ G3 m/\k9 (trQ m)=2/\kwS m=a1B "shear")\/(¬ G3 m/\¬ k9 (trQ m)=2/\k9 (trQ m)<2/\kwS m=a1B "turns")\/(¬ G3 m/\¬ k9 (trQ m)=2/\¬ k9 (trQ m)<2/\kwS m=a1B "off"):=by
 unfold kwS;by_cases h1:G3 m
 ·exact .inl ⟨h1,if_pos h1⟩
 ·rw[if_neg h1]
  by_cases h2:k9 (trQ m)=2
  ·exact .inr<|.inl ⟨h1,h2,if_pos h2⟩
  ·rw[if_neg h2]
   by_cases h3:k9 (trQ m)<2
   ·exact .inr<|.inr<|.inl ⟨h1,h2,h3,if_pos h3⟩
   ·exact .inr<|.inr<|.inr ⟨h1,h2,h3,if_neg h3⟩
def rtN(m:Q4):Nat:=if m=(1,0,0,1)then 1 else if m=(-1,0,0,-1)then 2 else if trQ m = -1 then 3 else if trQ m=0 then 4 else if trQ m=1 then 6 else 0
def rR(m:Q4)(h:G3 m):jw m = .int (rtN m:Int):=by
 unfold jw rtN;by_cases h1:m=(1,0,0,1)
 ·rw[if_pos h1,if_pos h1];rfl
 ·rw[if_neg h1,if_neg h1]
  by_cases h2:m=(-1,0,0,-1)
  ·rw[if_pos h2,if_pos h2];rfl
  ·rw[if_neg h2,if_neg h2]
   by_cases h3:trQ m = -1
   ·rw[if_pos h3,if_pos h3];rfl
   ·rw[if_neg h3,if_neg h3]
    by_cases h4:trQ m=0
    ·rw[if_pos h4,if_pos h4];rfl
    ·rw[if_neg h4,if_neg h4]
     by_cases h5:trQ m=1
     ·rw[if_pos h5,if_pos h5];rfl
     ·rcases h with h|h|h|h|h<;>contradiction
def CW:k9 t<2 ↔ -2<t/\t<2:=by grind[k9]
def Ia(t x f:Rat):Rat:=4*(x*x - t*(x*f)+f*f) / (4 - t*t)
def WG{t:Rat}(h1:-2<t)(h2:t<2):0<4 - t*t:=by have:0<(2 - t)*(2+t):=a3h (by grind) (by grind);grind
def Ny{D V B n:Rat}(h1:n≠0)(h2:B≠0)(h3:D≠0):4*(n*V*B)*n / (B*(D*(n*n)))=4*V / D:=by grind
def J5{q:Rat}{b:Nat}(h:q.den ∣ b):((q.num*((b:Int).fdiv (q.den:Int)):Int):Rat)=q*(b:Rat)/\(q.num*((b:Int).fdiv (q.den:Int))).natAbs<=q.num.natAbs*b:=by
 obtain⟨k,rfl⟩:=h;have e:((q.den*k:Nat):Int).fdiv (q.den:Int)=k:=by rw[E1 (by omega)<|by omega,a3F];exact a4n _<|by have:=q.den_pos;omega
 rw[e];constructor
 ·rw[a1W,a21,<- A5 q,a19];grind
 ·rw[a2j,a1G];exact a34 _<|Nat.le_mul_of_pos_left k q.den_pos
def Li{a b:Int}{k:Nat}(h1:a.natAbs<2 ^ k)(h2:b.natAbs<2 ^ k):(a+b).natAbs<2 ^ (k+1):=A9 h1 h2
def de{a b:Int}{k:Nat}(h1:a.natAbs<2 ^ k)(h2:b.natAbs<2 ^ k):(a - b).natAbs<2 ^ (k+1):=by rw[Int.sub_eq_add_neg];exact A9 h1<|by rw[a2u];exact h2
def u0(h:n<2 ^ k)(hk:k<=l):n<2 ^ l:=a1F h<|a1X (by decide) hk
example eJ Hx uA(p q y u:Rat):[d6 p,d6 q,o7 y u]:=sz p+sz y+(sz q+sz u)<=8900/\R (d6<|p*y+q*u) M
def q9(L:List (Str × Rat)):Nat->List (Rat × Rat × Rat)
 | 0=>[]
 | i+1=>q9 L i++(match L[i]? with|some x=>if x.1 = "stop" then[((k8 (L.take i) (1,0)).1,(k8 (L.take i) (0,1)).1,x.2)]else[]|none=>[])
def G0(T:List (D × D × (Str × Rat))):Nat->List (D × D)
 | 0=>[]
 | i+1=>G0 T i++(match T[i]? with|some x=>if x.2.2.1 = "stop" then[(x.1,x.2.1)]else[]|none=>[])
def hlD(w:D × D)(l:Rat × Rat × Rat):D:=.tup [w.1,w.2,j4 l]
def hlN(T:List (D × D × (Str × Rat)))(i:Nat):List D:=List.zipWith hlD (G0 T i)<|q9 (T.map λz=>z.2.2) i
theorem aO(T:List (D × D × (Str × Rat))):∀ i,(G0 T i).length=(q9 (T.map λz=>z.2.2) i).length
 | 0=>rfl
 | i+1=>by
  have ih:=aO T i;unfold G0 q9;rw[a1V,a1V,ih,a1S];cases T[i]? with
  | none=>rfl
  | some x =>show _+(if x.2.2.1 = "stop" then[(x.1,x.2.1)]else[]).length=_+(if x.2.2.1 = "stop" then _ else[]).length;split<;>rfl
theorem S5(L:List (Str × Rat)):∀ i,(q9 L i).length<=i
 | 0=>a1U _
 | i+1=>by
  have ih:=S5 L i;unfold q9;rw[a1V];cases L[i]? with
  | none=>exact a5o ih
  | some x =>
   show _+(if x.1 = "stop" then _ else[]).length<=_;split
   ·exact Nat.succ_le_succ ih
   ·exact a5o ih
def Bg{L:List (Str × Rat)}{i:Nat}{x:Str × Rat}(h:L[i]? = some x):q9 L (i+1)=if x.1 = "stop" then q9 L i++[((k8 (L.take i) (1,0)).1,(k8 (L.take i) (0,1)).1,x.2)]else q9 L i:=by grind[a2g,q9,k8]
theorem iA(T:List (D × D × (Str × Rat))):∀ i,G0 T i=((T.take i).filter λz=>z.2.2.1 == a1B "stop").map λz=>(z.1,z.2.1)
 | 0=>rfl
 | i+1=>by have ih:=iA T i;unfold G0;rw[ih,a2B,a2K,a11];grind
def frW(bs:List (Str × Rat)):List ((Str × Rat) × Nat):=bs.zipIdx.filter λx=>x.1.1 == a1B "stop"
def pT(near far:Rat)(bs:List (Str × Rat)):G0 (j6 near bs far) (j6 near bs far).length=((frW bs).map λx=>(D.str "forth",D.int (x.2:Int)))++((frW bs).reverse.map λx=>(D.str "back",D.int (x.2:Int))):=by
 rw[iA,a2l];unfold j6 frW;rw[a2K,a2K,a2K,List.filter_map,List.filter_map,a11,a11,a11,a2k,a2k];have g:∀ q,a5a (λz:D × D × (Str × Rat)=>z.2.2.1 == a1B "stop") [(D.non,D.non,(a1B "glass",q))]=[]:=λq=>by rfl
 rw[g,g,a2R,a2g,a2g,List.filter_reverse];rfl
def W5(near far:Rat)(bs:List (Str × Rat)):(j6 near bs far).map (λz=>z.2.2)=j3 near bs far:=(Co near far bs).symm
def G8(near far:Rat)(bs:List (Str × Rat)):(j6 near bs far).length=(j3 near bs far).length:=by rw[Co,a1H]
def fwD(x:(Str × Rat) × Nat):D:=.tup [.str "forth",.int (x.2:Int)]
def bwD(x:(Str × Rat) × Nat):D:=.tup [.str "back",.int (x.2:Int)]
def prD(w:D × D):D:=.tup [w.1,w.2]
def UZ(near far:Rat)(bs:List (Str × Rat)):(frW bs).map fwD++(frW bs).reverse.map bwD=(G0 (j6 near bs far) (j6 near bs far).length).map prD:=by rw[pT,a11,a2k,a2k];rfl
def UM(near far:Rat)(bs:List (Str × Rat)):((G0 (j6 near bs far) (j6 near bs far).length).zip<|q9 (j3 near bs far) (j3 near bs far).length).map (λz=>hlD z.1 z.2)=hlN (j6 near bs far) (j6 near bs far).length:=by unfold hlN;rw[W5,G8,a36,a4G]
def Sz(ws:List (D × D))(ls:List (Rat × Rat × Rat)):Q0 (ws.map prD) (ls.map j4)=(ws.zip ls).map λz=>D.tup [prD z.1,j4 z.2]:=by simp[a36,a4G,List.zipWith_map,Q0]
def OW(bs:List (Str × Rat)):(frW bs).length<=bs.length:=by grind[a2w,a29,frW,a1B]
def Cn(near far:Rat)(bs:List (Str × Rat)):hlN (j6 near bs far) (j6 near bs far).length=((G0 (j6 near bs far) (j6 near bs far).length).zip<|q9 (j3 near bs far) (j6 near bs far).length).map (λz=>hlD z.1 z.2):=by unfold hlN;rw[W5,a36,a4G]
structure D6(near:Rat)(bs:List (Str × Rat))(far:Rat):Prop where
 cd:∀ i,CDQ 230 (tbQ ((j3 near bs far).take i))
 szs:∀ x∈j3 near bs far,sz x.2<=3000
 len:bs.length<=9
 part:∀ x∈bs,(x.1 = "gap" \/ x.1 = "glass")\/(x.1 = "stop" /\ 0<x.2)
def yp(h:∀ i,CDQ 230 (tbQ<|L.take i))(g:CD S y 0 u 0)(i:Nat):sz ((k8 (L.take i) (1,0)).1*y+(k8 (L.take i) (0,1)).1*u)<=231+S/\sz ((k8 (L.take i) (1,0)).1*(k8 L (y,u)).1+(k8 (L.take i) (0,1)).1*(k8 L (y,u)).2)<=462+S:=by have c1:=rS (h i) g;have cL:=h L.length;have c2:=rS cL g;have c3:=rS (h i) c2;have e1:=(kr (L.take i) y u).1;have e2:=(kr (L.take i) (k8 L (y,u)).1 (k8 L (y,u)).2).1;have t1:=c1.t2.y;have t3:=c3.t2.y;grind
theorem O2{L:List (Str × Rat)}:∀ i,∀ l∈q9 L i,∃(j:Nat) (x:Str × Rat),L[j]? = some x/\x.1 = "stop" /\ l=((k8 (L.take j) (1,0)).1,(k8 (L.take j) (0,1)).1,x.2)
 | 0,l,hl=>by cases hl
 | i+1,l,hl=>by
  cases e:L[i]? with
  | none =>
   have:q9 L (i+1)=q9 L i++[]:=by show q9 L i++_=_;rw[e]
   rw[this,a2g]at hl;exact O2 i l hl
  | some x =>
   rw[Bg e]at hl;by_cases hx:x.1 = "stop"
   ·rw[if_pos hx]at hl
    rcases a10.mp hl with hl|hl
    ·exact O2 i l hl
    ·exact⟨i,x,e,hx,a13.mp hl⟩
   ·rw[if_neg hx]at hl;exact O2 i l hl
def Jd(b0:0<B):q.num*B<T*(q.den:Int)↔q<a2r T B:=by
 have hB:(0:Rat)<(B:Rat):=by exact_mod_cast b0
 have hd:(0:Rat)<(q.den:Rat):=by have:=q.den_pos;exact_mod_cast this
 rw[a3s,Rat.lt_div_iff hB];have e:=A5 q;have e1:(q.num*B<T*(q.den:Int))↔((q.num:Rat)*B<T*q.den):=by rw[<- a1W,<- a19,<- a1W,a3H]
 rw[e1,<- e];constructor
 ·intro h;apply a2v;intro n;have h1:=a2o (a:=q*B - T) (b:=q.den) (by grind) (by grind);grind
 ·intro h;have h1:=a3h (a:=T - q*B) (by grind) hd;grind
def swQ(t x f:Rat):Rat:=x*x - t*(x*f)+f*f
def fj(m:Q4)(x f r:Rat):Bool :=
 if G3 m then false else if k9 (trQ m)<2 then decide (r*r<Ia (trQ m) x f)else if swQ (trQ m) x f≠0 then true else if k9 (trQ m)=2 then false else decide (k9 x<k9 f\/r<k9 x)
def CD.ray2(h1:sz y<=k)(h2:sz u<=l):CD (k+l) y 0 u 0:=by
 have n1:=u4 y h1;have d1:=l5 y h1;have n2:=u4 u h2;have d2:=l5 u h2;have d1':(y.den:Int).natAbs<2 ^ k:=by omega
 have d2':(u.den:Int).natAbs<2 ^ l:=by omega
 have e1:=A5 y;have e2:=A5 u;refine⟨y.num*u.den,0,u.num*y.den,0,y.den*u.den,a4T y.den_nz u.den_nz,r9 d1 d2,⟨h7 n1 d2',a35 _,by rw[Nat.add_comm k l];exact h7 n2 d1',a35 _⟩,?_,?_,?_,?_⟩
 ·rw[a21,a1W,a19,<- e1];grind
 ·simp
 ·rw[a21,a1W,a19,<- e2];grind
 simp
def D6.line(hw:D6 near bs far)(cd:CD 1000 y 0 u 0)(hl:l∈q9 (j3 near bs far) (j3 near bs far).length) :
  (sz l.1<=230/\sz l.2.1<=230)/\(sz l.2.2<=3000/\0<l.2.2)/\sz (l.1*y+l.2.1*u)<=1231/\sz (l.1*(k8 (j3 near bs far) (y,u)).1+l.2.1*(k8 (j3 near bs far) (y,u)).2)<=1462:=by
 obtain⟨j,px,hj,hpx,el⟩:=O2 _ l hl
 obtain⟨z1,z2⟩:=yp hw.cd cd j
 have hpz:=hw.szs px<|a1K hj
 have hp0:0<px.2:=by
  have hm:=a1K hj;have inb:px∈bs->0<px.2:=λh=>by
   rcases hw.part px h with h|h
   ·rw[hpx]at h;exact absurd h<|by decide
   ·exact h.2
  rcases a10.mp hm with hm|hm
  ·rcases a10.mp hm with hm|hm
   ·rcases a10.mp hm with hm|hm
    ·exact inb hm
    ·rw[a13.mp hm]at hpx;exact absurd hpx (show ¬ a1B "glass" = a1B "stop" by decide)
   ·exact inb<|a3R.mp hm
  ·rw[a13.mp hm]at hpx;exact absurd hpx (show ¬ a1B "glass" = a1B "stop" by decide)
 have lj:=CD.t4<|hw.cd j
 have lj1:=lj.a
 have lj2:=lj.b
 rw[el]
 exact⟨⟨lj1,lj2⟩,⟨hpz,hp0⟩,by omega,by omega⟩
example jR Ra Ac(bs:List (Str × Rat)):[.vl<|bs.map i8]:=(((∀ x∈bs,sz x.2<=3000)/\bs.length<=40)/\∀ i,CDQ 230 (tbQ<|bs.take i))/\R (K5<|tbQ bs) M
example aZ BE pG(bs:List (Str × Rat)):[.vl<|bs.map i8]:=(((∀ x∈bs,sz x.2<=3000)/\bs.length<=40)/\∀ i,CDQ 230 (tbQ<|bs.take i))/\R (.vl<|(q9 bs bs.length).map j4) M
example eK Hy uB(q:Rat)(T B:Int):[d6 q,.tup [.int T,.int B]]:=(0<B/\sz q<=9000/\B.natAbs<2 ^ 9000/\T.natAbs<2 ^ 20000)/\R (.bl<|decide (q<a2r T B)) M
end GM
namespace DL
def KN(out:β->D)(Rl:Nat->β->Prop)(hn:ds.length<=1000)(hst:stay M1)
  (step:∀ i d,ds[i]? = some d->∀ Q:DK,(∀ b,Rl i b->Q (out b) M1)->g d e0 M1 λe2 M2=>te e2 M2 Q) (h:∀ bs:List β,bs.length=ds.length->(∀ i b,bs[i]? = some b->Rl i b)->E (bs.map out) M1):∃ W,jq e0 g Eh te ds stay M1 E W:=by
 refine⟨λi ys M=>M=M1/\∃ bs,bs.length=i/\(∀ j b,bs[j]? = some b->Rl j b)/\ys=bs.map out,⟨⟨rfl,[],rfl,(λj b z=>by simp at z),rfl⟩,λi ys M _ w=>by rw[w.1];exact hst,λi d ys M hd w=>?_,λys M w=>?_⟩⟩
 ·obtain⟨rfl,bs,hl,hok,rfl⟩:=w
  have hi:=(a1I.mp hd).1
  refine step i d hd _ λb hb=>⟨?_,rfl,bs++[b],by simp[hl],λj c hc=>?_,by simp⟩
  ·rw[a1H,hl];exact a1F (a1F hi hn) (show 1000<=sizeLine by decide)
  ·rcases a3f j bs.length with z|z
   ·rw[a2P z]at hc;exact hok j c hc
   ·rw[a22 z]at hc
    have hj:j - bs.length=0:=by have:=(a1I.mp hc).1;simp at this;omega
    rw[hj]at hc
    have e:b=c:=by simpa using hc
    have ej:j=i:=by omega
    rw[ej,<- e];exact hb
 ·obtain⟨rfl,bs,hl,hok,rfl⟩:=w
  exact h bs hl hok
end DL
namespace GM
def stQ(t:Rat)(p:Rat × Rat):Nat->Rat × Rat
 | 0=>p
 | n+1=>((stQ t p n).2,t*(stQ t p n).2 - (stQ t p n).1)
def Et(t:Rat)(l:Rat × Rat × Rat)(n:Nat):Prop:=l.2.2<k9 (stQ t (l.1,l.2.1) n).1
instance YD(t:Rat)(l:Rat × Rat × Rat)(n:Nat):Decidable (Et t l n):=by unfold Et;infer_instance
def cP(t:Rat)(ls:List (Rat × Rat × Rat))(k n:Nat):Bool:=match ls[k]? with|some l=>decide (Et t l n)|none=>false
def dg(t:Rat)(ls:List (Rat × Rat × Rat))(ws:List Nat)(N:Nat):Option (Nat × Nat) :=
 match (a2c N).find? λn=>ws.any λk=>cP t ls k n with
 | none=>none
 | some n=>(ws.find? λk=>cP t ls k n).map λk=>(n,k)
def yc(h:∀ n,n<N->∀ k∈ws,cP t ls k n=false):dg t ls ws N=none:=by unfold dg;rw[List.find?_eq_none.mpr λn hn=>?_];rw[Bool.not_eq_true,a4k];exact λk hk=>by rw[h n (a2t.mp hn) k hk];decide
def yb{t:Rat}{ls:List (Rat × Rat × Rat)}{ws:List Nat}{N n i k:Nat}(hn:n<N)(hi:ws[i]? = some k)(hb:cP t ls k n=true)(h1:∀ j,j<n->∀ k∈ws,cP t ls k j=false)
  (h2:∀ j,j<i->∀ k',ws[j]? = some k'->cP t ls k' n=false):dg t ls ws N=some (n,k):=by
 unfold dg
 have hk:=a1K hi
 have e:(a2c N).find? (λn=>ws.any λk=>cP t ls k n)=some n:=by
  rw[List.find?_range_eq_some];refine⟨List.any_eq_true.mpr ⟨k,hk,hb⟩,a2t.mpr hn,λj hj=>?_⟩;have:(ws.any λk=>cP t ls k j)=false:=a4k.mpr λk hk=>by rw[h1 j hj k hk];decide
  rw[this];rfl
 rw[e]
 have hl:=(a1I.mp hi).1
 have e2:ws.find? (λk=>cP t ls k n)=some k:=by rw[List.find?_eq_some_iff_getElem];refine⟨hb,i,hl,(a1I.mp hi).2,λj hj=>?_⟩;rw[h2 j hj _<|a1T<|Nat.lt_trans hj hl];rfl
 show(ws.find? λk=>cP t ls k n).map (λk=>(n,k))=_
 rw[e2];rfl
def vh:Option (Nat × Nat)->D
 | none=>.non
 | some z=>.tup [.int (z.1:Int),.int (z.2:Int)]
def CY(a:Int):k9 (a:Rat)=((a.natAbs:Nat):Rat):=by
 rw[<- a19];unfold k9;split
 ·rename_i h
  have h:0<=a:=by exact_mod_cast h
  grind
 ·rename_i h;have h:¬ 0<=a:=λz=>h (by exact_mod_cast z);rw[show((a.natAbs:Nat)) = -a by omega,Rat.intCast_neg]
structure xJ(t:Rat)(l:Rat × Rat × Rat)(n:Nat)(s:Int × Int × Int):Prop where
 ex:∃ W:Nat,0<W/\(s.1:Rat)=(stQ t (l.1,l.2.1) n).1*(W:Rat)/\(s.2.1:Rat)=(stQ t (l.1,l.2.1) n).2*((W:Rat)*(t.den:Rat))/\(s.2.2:Rat)=l.2.2*(W:Rat)
 b1:s.1.natAbs<2 ^ (12000+470*n)
 b2:s.2.1.natAbs<2 ^ (12000+470*n)
 b3:s.2.2.natAbs<2 ^ (12000+470*n)
def stV(s:Int × Int × Int):D:=.tup [.int s.1,.int s.2.1,.int s.2.2]
def xJ.bey(h:xJ t l n s):(s.2.2<(s.1.natAbs:Int))↔Et t l n:=by
 obtain⟨W,W0,e1,_,e3⟩:=h.ex;have W0:(0:Rat)<(W:Rat):=by exact_mod_cast W0
 unfold Et;have e4:=CY s.1;rw[e1,Lk,show k9 W=W by unfold k9;rw[if_pos<|by grind]]at e4;generalize (stQ t (l.1,l.2.1) n).1=x at *
 have c:(s.2.2<(s.1.natAbs:Int))↔((s.2.2:Rat)<((s.1.natAbs:Nat):Rat)):=by rw[<- a19,a3H]
 generalize k9 x=a at *
 constructor
 ·intro z;apply a2v;intro nz;have:=a2o (a:=l.2.2 - a) (b:=W) (by grind) (by grind);grind
 ·intro z;have:=a3h (a:=a - l.2.2) (by grind) W0;grind
def xJ.next{t:Rat}{l:Rat × Rat × Rat}{n:Nat}{s:Int × Int × Int}(ht:sz t<=231)(h:xJ t l n s):xJ t l (n+1) (s.2.1,t.num*s.2.1 - (t.den:Int)*(t.den:Int)*s.1,s.2.2*(t.den:Int)):=by
 obtain⟨W,W0,e1,e2,e3⟩:=h.ex;have td:=l5 t ht;have tn:=u4 t ht;have td':(t.den:Int).natAbs<2 ^ 231:=by exact td
 have e:=A5 t;refine⟨⟨W*t.den,a4x W0 t.den_pos,?_,?_,?_⟩,?_,?_,?_⟩
 ·show s.2.1=(stQ t (l.1,l.2.1) n).2*((W*t.den:Nat));rw[e2,a21]
 ·show((t.num*s.2.1 - (t.den:Int)*(t.den:Int)*s.1:Int):Rat)=(t*(stQ t (l.1,l.2.1) n).2 - (stQ t (l.1,l.2.1) n).1)*(((W*t.den:Nat))*t.den);rw[a2E,a1W,a1W,a1W,a19,e1,e2,<- e,a21];grind
 ·show((s.2.2*(t.den:Int):Int):Rat)=l.2.2*((W*t.den:Nat));rw[a1W,e3,a19,a21];grind
 ·exact u0 h.b2<|by omega
 ·have m1:=h7 tn h.b2;have m2:=h7 (h7 td' td') h.b1;exact u0 (de (u0 m1 (show _<=462+(12000+470*n)by omega))<|u0 m2<|by omega)<|by omega
 ·exact u0 (h7 h.b3 td')<|by omega
def szs(qs:List Rat):Nat:=(qs.map sz).sum
def jK(h:q∈qs):sz q<=szs qs:=by
 induction qs with
 | nil=>cases h
 | cons a r ih =>
  show sz q<=sz a+szs r;rcases a1Y.mp h with rfl|h
  ·omega
  ·have:=ih h;omega
def GA{qs:List Rat}{i:Nat}{q:Rat}(h:qs[i]? = some q):szs (qs.take<|i+1)=szs (qs.take i)+sz q:=by rw[a2B,h];unfold szs;rw[a11,a4U];rfl
def SU(qs:List Rat)(i:Nat):szs (qs.take i)<=szs qs:=by have h:=congrArg szs<|List.take_append_drop i qs;grind[a11,a4U,szs]
example rP Xm EV(x:D):[x]:=∃ qs:List Rat,(x = .tup (qs.map d6)\/x = .vl (qs.map d6))/\szs qs<=8500/\∀ B:Nat,0<B->B<=2 ^ szs qs->(∀ q∈qs,q.den ∣ B)->B ∣ (qs.map λq:Rat=>q.den).prod->R (.int (B:Int)) M
example rA Xb EF(x:D)(b:Nat):[x,.int (b:Int)]:=∃ qs:List Rat,(x = .tup (qs.map d6)\/x = .vl (qs.map d6))/\(qs.length<=1000/\b<=2 ^ 8500/\0<b/\(∀ q∈qs,q.den ∣ b/\sz q<=8900))/\R (.vl<|qs.map λq=>.int<|q.num*(b:Int).fdiv (q.den:Int)) M
example V7 vT kQ(t x f r:Rat):[d6 t,d6 x,d6 f,d6 r]:=(sz t<=231/\sz x+sz f+sz r<=8400/\sz x<=3000/\sz f<=3000/\sz r<=3000)/\∀ s:Int × Int × Int,xJ t (x,f,r) 0 s->R (stV s) M
example aY BD pF(t:Rat)(x:D):[d6 t,x]:=∃ s:Int × Int × Int,x=stV s/\(sz t<=231/\∃ k,s.1.natAbs<2 ^ k/\s.2.1.natAbs<2 ^ k/\s.2.2.natAbs<2 ^ k/\k<=60000)/\R (stV (s.2.1,t.num*s.2.1 - (t.den:Int)*(t.den:Int)*s.1,s.2.2*(t.den:Int))) M
example aR Bw pq(t x f:Rat):[d6 t,d6 x,d6 f]:=(sz t<=231/\sz x+sz f<=4200)/\∀(T B:Int),0<B->B.natAbs<2 ^ 8402->T.natAbs<2 ^ 17100->(T:Rat)=t.den*(x*x - t*(x*f)+f*f)*B->R (.tup [.int T,.int B]) M
example jU Rf Af(t x f:Rat):[d6 t,d6 x,d6 f]:=(sz t<=231/\-2<t/\t<2/\sz x+sz f<=4200)/\∀(T B:Int),0<B->B.natAbs<2 ^ 8870->T.natAbs<2 ^ 17400->a2r T B=Ia t x f->R (.tup [.int T,.int B]) M
example aT By pA(w:D)(t x f r:Rat):[w,d6 t,d6 x,d6 f,d6 r]:=∃ m:Q4,w = .str (kwS m)/\t=trQ m/\(CDQ 230 m/\Pd m=1/\sz x+sz f<=4200/\sz r<=3000/\0<r)/\R (.bl<|fj m x f r) M
structure LnV(l:Rat × Rat × Rat):Prop where
 xf:sz l.1+sz l.2.1<=4200
 x:sz l.1<=3000
 f:sz l.2.1<=3000
 r:sz l.2.2<=3000
 p:0<l.2.2
example et Hq cU(t:Rat)(x y:D)(N:Nat):[d6 t,x,y,.int (N:Int)]:=∃(ls:List (Rat × Rat × Rat)) (ws:List Nat),x = .vl (ls.map j4)/\y = .vl (ws.map λk:Nat=>D.int (k:Int))/\(sz t<=231/\(ls.length<=40/\ws.length<=40)/\N<=60/\(∀ l∈ls,LnV l)/\∀ k∈ws,k<ls.length)/\R (vh<|dg t ls ws N) M
inductive En where
 | one (w:Str)
 | int (w:Str) (n:Int)
 | rat (w:Str) (q:Rat)
def enD:En->D
 | .one w=>.tup [.str w]
 | .int w n=>.tup [.str w,.int n]
 | .rat w q=>.tup [.str w,d6 q]
def sR(L:List (Str × Rat))(y u:Rat)(l:Rat × Rat × Rat):Rat × Rat × Rat:=(l.1*y+l.2.1*u,l.1*(k8 L (y,u)).1+l.2.1*(k8 L (y,u)).2,l.2.2)
def E7(near:Rat)(bs:List (Str × Rat))(far:Rat)(y u:Rat):List (Rat × Rat × Rat):=(q9 (j3 near bs far) (j3 near bs far).length).map<|sR (j3 near bs far) y u
def D6.ln(hw:D6 near bs far)(cd:CD S y 0 u 0)(hS:S<=1700)(hl:l∈q9 (j3 near bs far) (j3 near bs far).length):LnV (sR (j3 near bs far) y u l)/\sz l.1<=230/\sz l.2.1<=230:=by
 obtain⟨⟨a1,a2⟩,⟨a3,a4⟩,_,_⟩:=hw.line ((CD.ray2 (k:=1) (l:=1) (by rw[RM.U8];decide)<|by rw[RM.U8];decide).mono<|by decide) hl;obtain⟨j,px,hj,hpx,el⟩:=O2 _ l hl;obtain⟨z1,z2⟩:=yp hw.cd cd j;have e1:(k8 ((j3 near bs far).take j) (1,0)).1=l.1:=by rw[el]
 have e2:(k8 ((j3 near bs far).take j) (0,1)).1=l.2.1:=by rw[el]
 rw[e1,e2]at z1 z2;have w1:sz (sR (j3 near bs far) y u l).1<=231+S:=z1;have w2:sz (sR (j3 near bs far) y u l).2.1<=462+S:=z2;exact⟨⟨by omega,by omega,by omega,a3,a4⟩,a1,a2⟩
def Jw(hw:D6 near bs far)(cd:CD S y 0 u 0)(hS:S<=1700):∀ l∈E7 near bs far y u,LnV l:=λl hl=>by obtain⟨l0,h0,rfl⟩:=a17.mp hl;exact(hw.ln cd hS h0).1
def DZ(near far:Rat)(bs:List (Str × Rat))(y u:Rat):(E7 near bs far y u).length<=2*bs.length+2:=by grind[S5,au,a1H,j3,E7]
def Di(near far:Rat)(bs:List (Str × Rat)):(((G0 (j6 near bs far) (j6 near bs far).length).zip<|q9 (j3 near bs far) (j6 near bs far).length).map λz=>j4 z.2)=(q9 (j3 near bs far) (j3 near bs far).length).map j4:=by have h:=aO (j6 near bs far) (j6 near bs far).length;rw[W5]at h;rw[show(λz:(D × D) × (Rat × Rat × Rat)=>j4 z.2)=j4 ∘ Prod.snd from rfl,<- a2k,List.map_snd_zip<|by omega,G8]
example L9 me cV(x:D)(y u:Rat)(z:D):[x,o7 y u,z]:=∃(L:List (Str × Rat)) (ls:List (Rat × Rat × Rat)),x=K5 (tbQ L)/\z = .vl (ls.map j4)/\(∃ S,CDQ 230 (tbQ L)/\CD S y 0 u 0/\S<=1700/\ls.length<=40/\∀ l∈ls,sz l.1<=230/\sz l.2.1<=230)/\R (.vl<|(ls.map<|sR L y u).map j4) M
end GM
namespace L2
open PySem PySem.Spec PyProof.Rows
def Eu(a d:Value):argsOk "min" ⟨[a],[(a1B "default",d)]⟩:=by rfl
def C1(h0 h:Heap):Prop:=∀ b o,h0.get? b=some o->h.get? b=some o
def Dd(prog:Program)(w:World)(A:Around)(h0:Heap)(P:Nat->Value->Prop)(bt:Nat->Nat->Bool):Prop :=
 ∀ i j x y (s:Shared) (Q:Value->Shared->Prop) (E:Value->Shared->Prop),C1 h0 s.heap->P i x->P j y->Q (.bool<|bt i j) s->wpAny (model prog w) A (richCompare .Lt x y) Q E s
section
variable {prog:Program} {w:World} {A:Around} {R:Result->Shared->Prop} {I S:Addr} {fp wr:List Addr} {n:Nat} {P:Nat->Value->Prop} {St:Nat->Heap->Prop} {bt:Nat->Nat->Bool} {h0:Heap}
def BX:(toString "min" ++ toString ".loop" : String) = "min.loop" := by decide
abbrev dfl:List (Str × Value):=[(a1B "default",.none)]
def yF(W:Walks prog w A.in1 I fp wr n P St)(cmp:Dd prog w A.in1 h0 P bt)(nf:S∉fp)(n0:h0.get? S=none)(w0:∀ b∈wr,h0.get? b=none) :
  ∀(k j:Nat) (s:Shared) (x:Value) (c:Nat),j+1+k=n->C1 h0 s.heap->St (j+1) s.heap->P (argBest bt j) x->s.heap.get? S=some { cls:=.type "list",dict:=none,data:=.seq #[x,x] c,slots:=#[] } ->
  (∀ v h2 tk,P (argBest bt<|n - 1) v->C1 h0 h2->R (.ok<|.ret v) { s with heap:=h2,toks:=tk })->codeAny (model prog w) A (.builtin "min.loop" ⟨[.ref I,.none,.ref S],dfl⟩) R s:=by
 have nw:S∉wr:=λz=>nf<|W.sub _ z
 have onw:∀{h h2:Heap},C1 h0 h->(∀ b o,b∉wr->h.get? b=some o->h2.get? b=some o)->C1 h0 h2:=λst kp b o e=>kp b o (λz=>by rw[w0 b z]at e;cases e)<|st b o e
 have onS:∀{h:Heap} {g:Obj->Obj},C1 h0 h->C1 h0 (h.update S g):=λst b o e=>(a2h _ _ λz:S=b=>by rw[<- z,n0]at e;cases e).trans<|st b o e
 intro k
 induction k with
 | zero =>
  intro j s x c ej st hst px oS fin
  refine codeAny_builtin F.entry_min_loop ?_
  rw[Around.under_plainId F.plain_min_loop _]
  show wpAny _ A.in1 (seqItems? (.ref S) >>= _) _ _ s
  refine a1D<|wpAny_seqItems oS rfl ?_
  show wpAny _ A.in1 (tryCatch (pyNext<|.ref I) _ >>= _) _ _ s
  have ej:j+1=n:=by omega
  refine a1D<|wpAny_tryCatch<|W.done s _ _ (ej▸hst) λh2 tk kp=>?_
  have oS2:=kp S _ nw oS
  show wpAny _ A.in1 (updateSeq S (λ_=>#[]) >>= _) _ _ _
  refine a1D ?_
  refine wpAny_updateSeq oS2 rfl<|a1D<|wpAny_letGo<|a1Q ?_
  exact fin x _ tk (by rw[<- ej];exact px)<|onS<|onw st kp
 | succ k ih =>
  intro j s x c ej st hst px oS fin
  refine codeAny_builtin F.entry_min_loop ?_
  rw[Around.under_plainId F.plain_min_loop _]
  show wpAny _ A.in1 (seqItems? (.ref S) >>= _) _ _ s
  refine a1D<|wpAny_seqItems oS rfl ?_
  show wpAny _ A.in1 (tryCatch (pyNext<|.ref I) _ >>= _) _ _ s
  refine a1D<|wpAny_tryCatch<|W.item (j+1) s _ _ (by omega) hst λy h2 tk py hst2 kp=>?_
  have oS2:=kp S _ nw oS
  have st2:=onw st kp
  show wpAny _ A.in1 (tryCatch (holding [y,y]<|richCompare .Lt y x >>= _) _ >>= _) _ _ _
  refine a1D<|wpAny_tryCatch<|wpAny_holding<|a1D<|cmp (j+1) (argBest bt j) y x _ _ _ st2 py px ?_
  refine a1D<|wpAny_holding<|wpAny_truthy_bool ?_
  refine a1D<|wpAny_letGo<|a1Q ?_
  cases hb:bt (j+1) (argBest bt j)with
  | true =>
   simp only[if_true]
   refine a1D ?_
   refine wpAny_updateSeq oS2 rfl<|a1D<|wpAny_letGo ?_
   rw[BX]
   refine a1Q ⟨plainId_quiet F.plain_min_loop _,ih (j+1) _ y _ (by omega) (onS st2) (W.frame _ _ _ hst2 λb bf o e=>?_) (by simp only[argBest,hb,if_true];exact py) (a2s _ oS2 rfl) fin⟩
   exact(a2h _ _ (λz:S=b=>nf<|by rw[z];exact bf)).trans e
  | false =>
   simp only[a2T,if_false]
   refine a1D<|wpAny_letGo ?_
   rw[BX]
   exact a1Q ⟨plainId_quiet F.plain_min_loop _,ih (j+1) _ x c (by omega) st2 hst2 (by simp only[argBest,hb,a2T,if_false];exact px) oS2 fin⟩
def yG(W:Walks prog w A.in1 I fp wr n P St)(cmp:Dd prog w A.in1 h0 P bt)(nf:S∉fp)(n0:h0.get? S=none)(w0:∀ b∈wr,h0.get? b=none)(st:C1 h0 s.heap)(hst:St 0 s.heap)
  (oS:s.heap.get? S=some { cls:=.type "list",dict:=none,data:=.seq #[] c,slots:=#[] })
  (fin0:n=0->∀ h2 tk,C1 h0 h2->R (.ok<|.ret .none) { s with heap:=h2,toks:=tk })
  (fin:0<n->∀ v h2 tk,P (argBest bt<|n - 1) v->C1 h0 h2->R (.ok<|.ret v) { s with heap:=h2,toks:=tk }):codeAny (model prog w) A (.builtin "min.loop" ⟨[.ref I,.none,.ref S],dfl⟩) R s:=by
 have nw:S∉wr:=λz=>nf<|W.sub _ z
 have onw:∀{h h2:Heap},C1 h0 h->(∀ b o,b∉wr->h.get? b=some o->h2.get? b=some o)->C1 h0 h2:=λst kp b o e=>kp b o (λz=>by rw[w0 b z]at e;cases e)<|st b o e
 have onS:∀{h:Heap} {g:Obj->Obj},C1 h0 h->C1 h0 (h.update S g):=λst b o e=>(a2h _ _ λz:S=b=>by rw[<- z,n0]at e;cases e).trans<|st b o e
 refine codeAny_builtin F.entry_min_loop ?_
 rw[Around.under_plainId F.plain_min_loop _]
 show wpAny _ A.in1 (seqItems? (.ref S) >>= _) _ _ s
 refine a1D<|wpAny_seqItems oS rfl ?_
 show wpAny _ A.in1 (tryCatch (pyNext<|.ref I) _ >>= _) _ _ s
 rcases a3A n with z|z
 ·subst z
  refine a1D<|wpAny_tryCatch<|W.done s _ _ hst λh2 tk kp=>?_
  show wpAny _ A.in1 (rule _ >>= _) _ _ _
  exact a1D<|wpAny_rule<|a1Q<|fin0 rfl h2 tk<|onw st kp
 ·refine a1D (wpAny_tryCatch<|W.item 0 s _ _ z hst λy h2 tk py hst2 kp=>?_)
  have oS2:=kp S _ nw oS
  show wpAny _ A.in1 (updateSeq S (λ_=>#[y,y]) >>= _) _ _ _
  refine a1D ?_
  refine wpAny_updateSeq oS2 rfl ?_
  rw[BX]
  refine a1Q ⟨plainId_quiet F.plain_min_loop _,yF W cmp nf n0 w0 (n - 1) 0 _ y _ (by omega) (onS<|onw st kp) (W.frame _ _ _ hst2 λb bf o e=>?_) py (a2s _ oS2 rfl) (fin z)⟩
  exact(a2h _ _ (λz:S=b=>nf<|by grind)).trans e
def zw(hh:A.handled=none)(hl:s.heap.IsList l vs)(cmp:Dd prog w A.in1 s.heap (λi v=>vs[i]? = some v) bt)
  (fin0:vs.size=0->∀ h2 tk,C1 s.heap h2->Q .none { s with heap:=h2,toks:=tk })
  (fin:0<vs.size->∀ v h2 tk,vs[argBest bt<|vs.size - 1]? = some v->C1 s.heap h2->Q v { s with heap:=h2,toks:=tk }) :
  wpAny (model prog w) A (call (.builtin "min") [.ref l] dfl) Q E s:=by
 have lt:l<s.heap.objs.size:=by obtain⟨o,ho,_⟩:=hl;exact a1L ho
 refine kmb_tree F.kind_min F.plain_min F.entry_min (Eu _ _) ?_
 show wpAny _ A.in1 (Builtin.Builtins.bindParams "min" ["key","default"] 0 ⟨[],dfl⟩ >>= _) _ _ s
 refine a1D<|wpAny_of_eq rfl ?_
 refine a1D<|a1Q ?_
 refine a1D<|wpAny_pyIter_list hl ?_
 refine a1D<|wpAny_newObj_type ?_
 rw[BX]
 have z1:(s.heap.push { cls:=.type "list_iterator",data:=.fields #[.ref l,.int 0 0] }).objs.size=s.heap.objs.size+1:=a2D ..
 have fr:∀ b,s.heap.objs.size<=b->s.heap.get? b=none:=λb hb=>a3U hb
 refine a1Q ⟨plainId_quiet F.plain_min_loop _,?_⟩
 refine yG (Walks.list (A:=A.in1) hh s.heap.objs.size l (a14 lt) vs) cmp (λhm=>?_) (fr _<|by simp) (λb hb=>by rw[a13.mp hb];exact fr _<|a1U _) (λb o e=>a1E _<|a1E _ e) ⟨⟨_,a1E _<|a1P _ rfl,rfl,rfl⟩,(hl.push _).push _⟩ (a1P _ rfl) (λz h2 tk st=>fin0 z h2 tk st) λz v h2 tk pv st=>fin z v h2 tk pv st
 rcases a1Y.mp hm with hm|hm
 ·rw[z1]at hm;exact a2f (a24 _) hm
 ·have e:=a13.mp hm
  rw[z1]at e
  rw[<- e]at lt
  exact a2y _<|Nat.lt_of_succ_lt lt
end
def C1.tup(st:C1 h h2)(t:IsTup h a its):IsTup h2 a its:=by obtain⟨o,ho,r⟩:=t;exact⟨o,st a o ho,r⟩
def XO:HT.E5 [a,b] [c,d]=true↔a<c\/(a=c/\b<d):=by
 rw[HT.cH];by_cases h:a=c
 ·rw[if_pos h,HT.cH]
  by_cases h2:b=d
  ·rw[if_pos h2,HT.bR];simp;omega
  ·rw[if_neg h2,decide_eq_true_eq];omega
 grind
theorem Sr(p:Nat->Int × Int):∀ k,argBest (λi j=>HT.E5 [(p i).1,(p i).2] [(p j).1,(p j).2]) k<=k/\∀ j,j<=k->¬ HT.E5 [(p j).1,(p j).2] [(p<|argBest (λi j=>HT.E5 [(p i).1,(p i).2] [(p j).1,(p j).2]) k).1,(p<|argBest (λi j=>HT.E5 [(p i).1,(p i).2] [(p j).1,(p j).2]) k).2]=true
 | 0=>⟨a1U _,λj hj=>by
  obtain rfl:j=0:=by omega
  show ¬ HT.E5 [(p 0).1,(p 0).2] [(p 0).1,(p 0).2]=true;rw[XO];omega⟩
 | k+1=>by obtain⟨h1,h2⟩:=Sr p k;grind[argBest,HT.E5]
def Xv(K:a1C)(xs:List V)(H:Hp)(Q:VK):Prop:=∃(l:Addr) (as:List Addr) (ps:List (Int × Int)),xs=[.ref l]/\SqL K H l (as.map V.ref)/\as.length=ps.length/\(∀(i:Nat) (a:Addr) (p:Int × Int),as[i]? = some a->ps[i]? = some p->SqT K H a ([p.1,p.2].map V.int)) /\
 (ps=[]->Q .non H)/\∀(i:Nat) (a:Addr) (p:Int × Int),as[i]? = some a->ps[i]? = some p->(∀ q∈ps,¬ HT.E5 [q.1,q.2] [p.1,p.2]=true)->Q (.ref a) H
theorem uW:∀{as:List Addr} {us:List Value},j8 (as.map V.ref) us->us=as.map Value.ref
 | [],us,h=>by cases h;rfl
 | a :: as,us,h=>by
  cases h with
  | cons r t=>rw[uW t];cases r;rfl
def NN{kj kp kq}(hu:X.A.units+64<cLine)(hc:X.calm=true)(hg:Gl X "min")(hm:X.mg "min" = none)(hv:bootBuiltins "min" = some (.builtin "min"))(ha:PA X [e] t)(he:backTo pos (starEach [e] X.env)=(false,eval e X.env) :: backTo pos (starEach [] X.env):=by rfl)
  (hpl:(backTo pos<|starEach [e] X.env).any (·.1)=false:=by rfl):PE X (.Call (.Name "min" p) [e] [⟨some "default",.Constant .none kj kp,kq⟩] pos) (tCB (Xv X.K) t):=by
 intro pins s σ H Q I h
 refine wpAny_Call_Name_kw<|K7 I hg hm hv ?_ (by decide) (by decide)
 refine callWith_kw (thn (ha pos pins s σ H _ I h) λus s1 ⟨vs,H1,I1,r1,q1⟩=>kws_cons<|Constant_none<|kws_nil ?_) he hpl
 obtain⟨l,as,ps,rfl,hS,hlen,hT,q0,q⟩:=q1
 obtain⟨u,rfl,ru⟩:=L5 r1
 cases ru
 obtain⟨its,rv,pl,_⟩:=I1.list hS
 have ei:=uW rv
 subst ei
 have hl:s1.heap.IsList l (as.map Value.ref).toArray:=pl.isList
 have sz:(as.map Value.ref).toArray.size=ps.length:=by rw[a18,a1H,hlen]
 let pp:Nat->Int × Int:=λi=>ps.getD i (0,0)
 have cmp:Dd X.prog X.w X.A.in1 s1.heap (λi v=>(as.map Value.ref).toArray[i]? = some v) (λi j=>HT.E5 [(pp i).1,(pp i).2] [(pp j).1,(pp j).2]):=by
  intro i j x y s2 Q2 E2 st hx hy q2;have one:∀{i:Nat} {x:Value},(as.map Value.ref).toArray[i]? = some x->∃ a its,x = .ref a/\IsTup s2.heap a its/\IntsAre its.toList [(pp i).1,(pp i).2]:=λ{i x} hx=>by
   rw[a3q,a1S]at hx;obtain⟨a,hai,rfl⟩:=a2d.mp hx;have hi:i<ps.length:=by rw[<- hlen];exact(a1I.mp hai).1
   have hpi:=a1T hi;obtain⟨its,r2,p2,_⟩:=I1.tuple<|hT i a _ hai hpi;refine⟨a,its.toArray,rfl,st.tup p2,?_⟩;have:pp i=ps[i]:=by show ps.getD i (0,0)=_;rw[a2a,hpi];rfl
   rw[this];exact yS r2
  obtain⟨a,i1,rfl,t1,n1⟩:=one hx;obtain⟨b,i2,rfl,t2,n2⟩:=one hy;exact HT.yK t1 t2 n1 n2 (by show X.A.units+1<cLine;omega) q2
 refine zw (I1.ok.hd hc) hl cmp (λz h2 tk st=>?_) λz v h2 tk hv2 st=>?_
 ·rw[sz]at z
  exact⟨.non,H1,I1.kept st,rfl,q0<|a3i z⟩
 ·rw[sz]at z hv2
  obtain⟨b1,b2⟩:=Sr pp<|ps.length - 1
  generalize argBest (λi j=>HT.E5 [(pp i).1,(pp i).2] [(pp j).1,(pp j).2]) (ps.length - 1)=b at *
  rw[a3q,a1S]at hv2
  obtain⟨a,hab,rfl⟩:=a2d.mp hv2
  have hb:b<ps.length:=by omega
  have hpb:=a1T hb
  have eb:pp b=ps[b]:=by show ps.getD b (0,0)=_;rw[a2a,hpb];rfl
  rw[eb]at b2
  refine⟨.ref a,H1,I1.kept st,rfl,q b a _ hab hpb λr hr=>?_⟩
  obtain⟨j,hj⟩:=a2C hr
  have ej:pp j=r:=by show ps.getD j (0,0)=_;rw[a2a,hj];rfl
  have:=b2 j<|by have:=(a1I.mp hj).1;omega
  rw[ej]at this
  exact this
end L2
namespace DL
open PyProof.Rows hiding St
def mr(p:Int × Int):D:=.tup [.int p.1,.int p.2]
def RJ:DRC:=λds M R=>∃ ps:List (Int × Int),ds=[.vl<|ps.map mr]/\(ps=[]->R .non M)/\∀ p∈ps,(∀ q∈ps,¬ (q.1<p.1\/(q.1=p.1/\q.2<p.2)))->R (mr p) M
theorem HasL.prs2{K:a1C}{H:Hp}:∀{ps:List (Int × Int)} {xs:List V},HasL K H xs (ps.map mr)->∃ as:List Addr,xs=as.map V.ref/\as.length=ps.length/\∀(i:Nat) (a:Addr) (p:Int × Int),as[i]? = some a->ps[i]? = some p->SqT K H a ([p.1,p.2].map V.int)
 | [],xs,h=>by cases h;exact⟨[],rfl,rfl,λi a p h=>by simp at h⟩
 | p :: ps,xs,h=>by
  cases h with
  | cons h1 h2 =>
   obtain⟨as,rfl,hl,ht⟩:=HasL.prs2 h2;unfold mr at h1;cases h1 with
   | tup sq hi =>
    rename_i a xs;cases hi with
    | cons i1 hi=>cases hi with
     | cons i2 hi =>
      cases hi;cases i1;cases i2
      refine⟨a :: as,rfl,by rw[a15,a15,hl],λi b q hb hq=>?_⟩
      cases i with
      | zero=>cases hb;cases hq;exact sq
      | succ i=>exact ht i b q hb hq
def OK{kj kp kq}(hu:X.A.units+64<cLine)(hc:X.calm=true)(hg:Gl X "min")(hm:X.mg "min" = none)(hv:bootBuiltins "min" = some (.builtin "min"))(ha:JA X [e] t)(he:backTo pos (starEach [e] X.env)=(false,eval e X.env) :: backTo pos (starEach [] X.env):=by rfl)
  (hpl:(backTo pos<|starEach [e] X.env).any (·.1)=false:=by rfl):JE X (.Call (.Name "min" p) [e] [⟨some "default",.Constant .none kj kp,kq⟩] pos) (dCB RJ t):=by
 refine⟨(NN hu hc hg hm hv ha.out he hpl).imp λσ H Q ⟨e,M,R,ok,am,t,f⟩=>⟨e,M,_,ok,am,t,?_⟩⟩
 rintro ds M1 ⟨ps,z,r0,r⟩ vs H1 k1 a1 hl
 subst z
 obtain⟨v,rfl,hv⟩:=hl.one
 obtain⟨a,xs,rfl,hS,hL⟩:=A3 a1 hv (show E4 M1 (.vl<|ps.map mr)=some (ps.map mr)from rfl)
 obtain⟨as,rfl,hlen,hT⟩:=hL.prs2
 refine⟨a,as,ps,rfl,hS,hlen,hT,λz=>f _ _ (r0 z) _ _ k1 a1 .non,λi b q hb hq hm=>?_⟩
 refine f _ _ (r q (a1K hq) λx hx=>by rw[<- XO];exact hm x hx) _ _ k1 a1 ?_
 exact .tup (hT i b q hb hq)<|.cons (.int _)<|.cons (.int _) .nil
end DL
namespace DL
def SE:RJ [.vl<|ps.map mr] M R=((ps=[]->R .non M)/\∀ p∈ps,(∀ q∈ps,¬ (q.1<p.1\/(q.1=p.1/\q.2<p.2)))->R (mr p) M):=propext ⟨λ⟨qs,e,h⟩=>by
 have inj:∀{x y:Int × Int},mr x=mr y->x=y:=λ{x y} h=>by
  injection h with h;injection h with h1 h;injection h with h2 _
  injection h1 with h1;injection h2 with h2
  exact Prod.ext h1 h2
 have e:ps=qs:=by
  injection e with e _
  injection e with e
  exact(a3l λ_ _=>inj).mp e
 subst e;exact h,λh=>⟨_,rfl,h⟩⟩
end DL
namespace L2
open PySem PySem.Spec PyProof.Rows
def vY(n:Nat):List V:=(a2c n).map λi:Nat=>V.int (i:Int)
def tLr(ta:TA):TE:=λσ H Q=>ta σ H λvs H1=>∃ n:Nat,vs=[.int (n:Int)]/\n<=1000/\∀ l,H1 l=none->Q (.ref l) (upd H1 l<|.lst<|vY n)
def Dw(n:Nat):Builtin.Range.rangeSize 0 (n:Int) 1=n:=by simp_all [if_pos,Int.ediv_one,if_neg,Builtin.Range.rangeSize]
def Dn(h:ItemsOf (λi v=>∃ t,v=Value.int (0+(i:Int)*1) t) acc n):j8 (vY n) acc.toList:=by
 obtain⟨hs,hv⟩:=h;have key:∀ k us,(∀ j v,us[j]? = some v->∃ t,v=Value.int ((k+j:Nat)) t)->j8 ((a2c us.length).map λi:Nat=>V.int<|(k+i:Nat)) us:=by
  intro k us;induction us generalizing k with
  | nil=>intro _;exact .nil
  | cons u us ih =>
   intro h;rw[a15,a4L,a1Z,a2k];obtain⟨t,rfl⟩:=h 0 u rfl;refine .cons ⟨t,rfl⟩ ?_;have:=ih (k+1) λj v hj=>by obtain⟨t,e⟩:=h (j+1) v hj;exact⟨t,by rw[e];congr 1;omega⟩
   have e:((λi:Nat=>V.int<|(k+i:Nat)) ∘ Nat.succ)=λi:Nat=>V.int ((k+1+i:Nat)):=by funext i;show V.int ((k+(i+1):Nat):Int)=_;congr 1;omega
   rw[e];exact this
 have:=key 0 acc.toList λj v hj=>by rw[Array.getElem?_toList]at hj;obtain⟨t,e⟩:=hv j v hj;exact⟨t,by rw[e];congr 1;omega⟩
 rw[Array.length_toList,hs]at this;have e:vY n=(a2c n).map λi:Nat=>V.int ((0+i:Nat)):=by unfold vY;congr 1;funext i;congr 1;omega
 rw[e];exact this
def rX(hc:X.calm=true)(g1:Gl X "list")(n1:X.mg "list" = none)(v1:bootBuiltins "list" = some (.type "list"))(g2:Gl X "range")(n2:X.mg "range" = none)(ha:PA X [a] ta)
  (hs:starEach [a] X.env=[(false,eval a X.env)]:=by rfl) (hs3:starEach [.Call (.Name "range" p2) [a] [] pos2] X.env=[(false,eval (.Call (.Name "range" p2) [a] [] pos2) X.env)]:=by rfl) :
  PE X (.Call (.Name "list" p1) [.Call (.Name "range" p2) [a] [] pos2] [] pos1) (tLr ta):=by
 intro pins s σ H Q I h
 refine wpAny_Call_Name_kw<|K7 I g1 n1 v1 ?_ (by decide) (by decide)
 refine PyProof.Rows.callWith_type1 ?_ (by rfl) (by rfl)
 rw[hs3]
 show wpAny _ _ (spliced ((false,eval (.Call (.Name "range" p2) [a] [] pos2) X.env) :: backTo pos1 (starEach [] X.env))) _ _ s
 refine Calls.spliced_cons ?_
 refine wpAny_Call_Name_kw<|K7 I g2 n2 boot_range (PyProof.Rows.callWith_type1 (thn (ha pos2 pins s σ H _ I h) λus s1 ⟨vs,H1,I1,r1,q1⟩=>?_) (by rw[hs];rfl)<|by rfl) (by decide)<|by decide
 obtain⟨n,rfl,hn,q⟩:=q1
 obtain⟨u,rfl,ru⟩:=L5 r1
 obtain⟨t,rfl⟩:=ru
 refine call_range_1 ?_
 refine Calls.spliced_nil ?_
 refine call_list_range (n:=n) (I1.ok.hd hc) (a1P _ rfl) (small_one (by omega) (by omega) (by omega)<|by omega) (Dw n) (by omega) λh' tk acc c kk e2 e3=>?_
 have k0:∀ b o,s1.heap.get? b=some o->h'.get? b=some o:=λb o e=>kk b o<|a1E _ e
 have big:s1.heap.objs.size<=(s1.heap.push { cls:=.type "range",data:=.fields #[.int 0 s1.toks,.int (n:Int) t,.int 1 (s1.toks+1)] }).objs.size:=by simp
 refine⟨.ref _,_,I1.laid (t':=tk) (o:=.lst<|vY n) k0 big ?_,rfl,q _<|I1.hok.fresh big⟩
 refine⟨?_,acc.toList,c,Dn e3,?_⟩
 ·unfold vY
  rw[a1H,a3e]
  exact a1N hn<|by decide
 ·rw[Array.toArray_toList];exact e2
end L2
namespace DL
open PyProof.Rows hiding St
def dLr(ta:DTA):DTE:=λe M R=>ta e M λds M1=>∃ n:Nat,ds=[.int (n:Int)]/\n<=1000/\R (.vl ((a2c n).map λi:Nat=>D.int (i:Int))) M1
def Nr{K:a1C}{H:Hp}(n:Nat):HasL K H (vY n) ((a2c n).map λi:Nat=>D.int (i:Int)):=by
 unfold vY;induction (a2c n)with
 | nil=>exact .nil
 | cons i r ih=>exact .cons (.int _) ih
def fo(hc:X.calm=true)(g1:Gl X "list")(n1:X.mg "list" = none)(v1:bootBuiltins "list" = some (.type "list"))(g2:Gl X "range")(n2:X.mg "range" = none)(ha:JA X [a] ta)
  (hs:starEach [a] X.env=[(false,eval a X.env)]:=by rfl) (hs3:starEach [.Call (.Name "range" p2) [a] [] pos2] X.env=[(false,eval (.Call (.Name "range" p2) [a] [] pos2) X.env)]:=by rfl) :
  JE X (.Call (.Name "list" p1) [.Call (.Name "range" p2) [a] [] pos2] [] pos1) (dLr ta):=by
 refine⟨(W1<|rX hc g1 n1 v1 g2 n2 ha.out hs hs3).imp λσ H Q ⟨e,M,R,ok,am,t,f⟩=>⟨e,M,_,ok,am,t,?_⟩⟩
 rintro ds M1 ⟨n,z,hn,r⟩ vs H1 k1 a1 r1
 subst z
 obtain⟨v,rfl,hv⟩:=r1.one
 cases hv
 exact⟨n,rfl,hn,λp hp=>P2 f k1 a1 (Nr n) r p hp⟩
def Wv:dLr ta e M R=ta e M λds M1=>∃ n:Nat,ds=[.int (n:Int)]/\n<=1000/\R (.vl ((a2c n).map λi:Nat=>D.int (i:Int))) M1:=rfl
end DL
namespace GM
def D3(m:Q4)(ls:List (Rat × Rat × Rat)):List Nat:=((ls.zipIdx).filter λz=>fj m z.1.1 z.1.2.1 z.1.2.2).map Prod.snd
def mS:k∈D3 m ls ↔ ∃ l,ls[k]? = some l/\fj m l.1 l.2.1 l.2.2=true:=by simp[a17,a2Q,a3m,D3]
def yg(ht:k9 t=2)(h:swQ t x f≠0):(if 0<t then f else -f) - x≠0:=by grind[k9,swQ]
def CI(bs:List (Rat × Rat × Rat)):L8 (bs.map j4)=bs.zipIdx.map λx=>D.tup [.int (x.2:Int),j4 x.1]:=by unfold L8;refine a3P (by simp) λi h1 h2=>?_;simp
def AZ{q:Rat}{B P k l n:Nat}(h:q.den ∣ B)(hp:B ∣ q.den*P)(hq:q.num.natAbs<2 ^ k)(P0:0<P)(hP:P<2 ^ l)(hn:k+l<=n):(q.num*(B:Int).fdiv (q.den:Int)).natAbs<2 ^ n:=by
 obtain⟨c,rfl⟩:=h;have e:((q.den*c:Nat):Int).fdiv (q.den:Int)=c:=by rw[E1 (by omega)<|by omega,a3F];exact a4n _<|by have:=q.den_pos;omega
 rw[e,a2j,a1G];have hc:=Nat.dvd_of_mul_dvd_mul_left q.den_pos hp;exact u0 (a1R (a34 _<|a5e P0 hc)<|r9 hq hP) hn
example ba BF pH(x y:D):[x,y]:=∃(m:Q4) (ls:List (Rat × Rat × Rat)),x=K5 m/\y = .vl (ls.map j4)/\(CDQ 230 m/\Pd m=1/\ls.length<=40/\∀ l∈ls,LnV l)/\R (.vl ((D3 m ls).map λk:Nat=>D.int (k:Int))) M
def gm(m:Q4)(l:Rat × Rat × Rat):En:=if l.1=0/\l.2.1=0 then .one "nought" else if G3 m then .int "round" (rtN m:Int)else if k9 (trQ m)<2 then .rat "reach" (Ia (trQ m) l.1 l.2.1)else .rat "kept" (l.2.1 / l.1)
example V4 vQ kN(w x:D)(a f:Rat):[w,x,d6 a,d6 f]:=∃(m:Q4) (r:Rat),w = .str (kwS m)/\x=K5 m/\(CDQ 230 m/\Pd m=1/\LnV (a,f,r)/\(¬ G3 m->¬ k9 (trQ m)<2->a=0->f=0))/\R (enD<|gm m (a,f,r)) M
end GM
namespace DL
end DL
namespace GM
end GM
namespace DL
open PyProof.Rows hiding St
end DL
namespace GM
abbrev T3:=Rat × Rat × Rat
def ve(a b:T3):Rat:=a.1*b.2.1 - a.2.1*b.1
def tn(a b c:T3):Rat:=a.2.2*ve b c - b.2.2*ve a c+c.2.2*ve a b
def dt(a:T3)(z:Rat × Rat):Rat:=a.1*z.1+a.2.1*z.2
def ry(a b:T3):Rat × Rat:=((a.2.2*b.2.1 - b.2.2*a.2.1) / ve a b,(a.1*b.2.2 - b.1*a.2.2) / ve a b)
def ng(a:T3):T3:=(-a.1,-a.2.1,a.2.2)
def ngZ(z:Rat × Rat):Rat × Rat:=(-z.1,-z.2)
def Sup(ss:List T3)(z:Rat × Rat):Prop:=∀ s∈ss,dt s z<=s.2.2
structure VE(ss:List T3)(a b:T3):Prop where
 ve:0<ve a b
 mem:b∈ss
 hull:∀ s∈ss,0<GM.ve a s->0<=tn a b s
theorem Rt(h:ve a b≠0):ve a b*(ry a b).1=a.2.2*b.2.1 - b.2.2*a.2.1/\ve a b*(ry a b).2=a.1*b.2.2 - b.1*a.2.2:=by grind[Rat.mul_comm,Rat.div_mul_cancel,ry,ve]
def cF{x:Rat}(h:0<x):x≠0:=by grind
def XN{x:Rat}(h:0<x):0<=x:=by grind
def tot(x y:Rat):x<=y\/y<=x:=by grind
theorem wW{v x y:Rat}(hv:v≠0)(h:v*x=v*y):x=y:=by grind
theorem HK(h:ve a b≠0)(s:T3):ve a b*(s.2.2 - dt s (ry a b))=tn a b s:=by grind[Rt,dt,tn,ve,ry]
def Xr(h:ve a b≠0):dt a (ry a b)=a.2.2:=by grind[HK,tn,ve]
def Td(h:ve a b≠0):dt b (ry a b)=b.2.2:=by grind[HK,tn,ve]
def Nk{a b:T3}{z:Rat × Rat}(h:ve a b≠0)(h1:dt a z=a.2.2)(h2:dt b z=b.2.2):z=ry a b:=by grind[Rt,Prod.ext,wW,ve,ry,dt]
def Xp(a b:T3):ry (ng a) (ng b)=ngZ (ry a b):=by
 have e:ve (ng a) (ng b)=ve a b:=by unfold ve ng;grind
 unfold ry ngZ;rw[e];show((a.2.2*(-b.2.1) - b.2.2*(-a.2.1)) / ve a b,((-a.1)*b.2.2 - (-b.1)*a.2.2) / ve a b)=_;exact Prod.ext (by grind)<|by grind
def WE(a b s:T3)(z:Rat × Rat):tn a b s=(a.2.2 - dt a z)*ve b s - (b.2.2 - dt b z)*ve a s+(s.2.2 - dt s z)*ve a b:=by unfold tn ve dt;grind
def my{v x:Rat}(hv:0<v)(h:0<=v*x):0<=x:=by
 rcases tot 0 x with z|z
 ·exact z
 ·by_cases e:x=0
  ·grind
  ·have:0<v * -x:=a3h hv (by grind);grind
def SW{a b:T3}{ss:List T3}(h:0<ve a b)(ht:∀ s∈ss,0<=tn a b s):Sup ss (ry a b):=λs hs=>by have:=HK (cF h) s;have h2:=ht s hs;rw[<- this]at h2;have:=my h h2;grind
def vg(hz:Sup ss z)(ha:dt a z=a.2.2)(e:VE ss a b):Sup ss (ry a b):=by
 refine SW e.ve λs hs=>?_;by_cases h:0<ve a s
 ·exact e.hull s hs h
 ·rw[WE a b s z,ha];have h1:0<=(b.2.2 - dt b z)*(-ve a s):=a2o (by have:=hz b e.mem;grind) (by grind);have h2:0<=(s.2.2 - dt s z)*ve a b:=a2o (by have:=hz s hs;grind) (by have:=e.ve;grind);grind
def GC(sy:∀ s∈ss,ng s∈ss)(h:Sup ss z):Sup ss (ngZ z):=λs hs=>by
 have:=h _<|sy s hs;have e:dt (ng s) z=dt s (ngZ z):=by unfold dt ng ngZ;grind
 rw[<- e];exact this
def kJ(h:0<ve a b)(z:Rat × Rat):ve a b*dt w z=ve w b*dt a z+ve a w*dt b z:=by unfold ve dt;grind
theorem Gh:∀(x:T3) (l:List T3) (y:T3),0<=ve x w->0<ve w y->∃ ab∈(x :: l).zip (l++[y]),0<=ve ab.1 w/\0<ve w ab.2
 | x,[],y,h1,h2=>⟨(x,y),a1M,h1,h2⟩
 | x,x' :: l,y,h1,h2=>by
  by_cases h:0<ve w x'
  ·exact⟨(x,x'),a1M,h1,h⟩
  ·have e:ve x' w = -ve w x':=by unfold ve;grind
   obtain⟨ab,hm,q⟩:=Gh x' l y (by rw[e];grind) h2;exact⟨ab,a1O _ hm,q⟩
structure Rim(ss:List T3)(h0:T3)(l:List T3):Prop where
 ne:l≠[]
 sy:∀ s∈ss,ng s∈ss
 pos:∀ s∈ss,0<s.2.2
 all:∀ ab∈(h0 :: l).zip (l++[ng h0]),ab.1∈ss/\ab.2∈ss/\0<ve ab.1 ab.2/\Sup ss (ry ab.1 ab.2)
def Ke(h0:T3)(l:List T3):List (T3 × T3):=(h0 :: l).zip<|l++[ng h0]
theorem Z7(f:α->β):∀(l m:List α),(l.map f).zip (m.map f)=(l.zip m).map λp=>(f p.1,f p.2)
 | [],_=>rfl
 | _ :: _,[]=>rfl
 | a :: l,b :: m=>by rw[a1Z,a1Z,a4f,Z7 f l m];rfl
def XI(a:T3):ng (ng a)=a:=by simp[Rat.neg_neg,ng]
def Sl{ss:List T3}{h0 hm f:T3}{z0 z:Rat × Rat}(sy:∀ s∈ss,ng s∈ss)(m0:h0∈ss)(mm:hm∈ss)(s0:Sup ss z0)(t0:dt h0 z0=h0.2.2)(sz:Sup ss z)(tz:dt hm z=hm.2.2)(e:VE ss hm f)(h1:0<ve h0 hm)(h2:ve h0 f<=0) :
  Sup ss (ry hm<|ng h0):=by
 have sf:=vg sz tz e
 have v1:0<ve hm (ng h0):=by
  have:ve hm (ng h0)=ve h0 hm:=by unfold ve ng;grind
  rw[this];exact h1
 have v2:0<=ve (ng h0) f:=by
  have:ve (ng h0) f = -ve h0 f:=by unfold ve ng;grind
  rw[this];grind
 have tf:=Xr (a:=hm) (b:=f)<|cF e.ve
 have tg:=Td (a:=hm) (b:=f)<|cF e.ve
 have e1:=kJ (w:=ng h0) e.ve<|ngZ z0
 have e2:=kJ (w:=ng h0) e.ve<|ry hm f
 rw[tf,tg]at e2
 have sn:=GC sy s0
 have q1:=sn hm mm
 have q2:=sn f e.mem
 have g0:dt (ng h0) (ngZ z0)=(ng h0).2.2:=by
  have:dt (ng h0) (ngZ z0)=dt h0 z0:=by unfold dt ng ngZ;grind
  rw[this,t0];rfl
 rw[g0]at e1
 have q3:=sf (ng h0)<|sy h0 m0
 have p1:0<=ve (ng h0) f*(hm.2.2 - dt hm (ngZ z0)):=a2o v2<|by grind
 have p2:0<=ve hm (ng h0)*(f.2.2 - dt f (ngZ z0)):=a2o (by grind)<|by grind
 have p3:0<=ve hm f*(dt (ng h0) (ry hm f) - (ng h0).2.2):=by grind
 have p4:=my e.ve p3
 have t3:dt (ng h0) (ry hm f)=(ng h0).2.2:=by grind
 rw[<- Nk (a:=hm) (b:=ng h0) (cF v1) tf t3]
 exact sf
abbrev Sd:=Int × Int × Int × Int × Int
def sdD(s:Sd):D:=.tup [.int s.1,.int s.2.1,.int s.2.2.1,.int s.2.2.2.1,.int s.2.2.2.2]
def tri(s:Sd):T3:=((s.1:Rat),(s.2.1:Rat),(s.2.2.1:Rat))
def veZ(a b:Sd):Int:=a.1*b.2.1 - a.2.1*b.1
def tnZ(a b c:Sd):Int:=a.2.2.1*veZ b c - b.2.2.1*veZ a c+c.2.2.1*veZ a b
def m9(s:Sd):Sd:=(-s.1,-s.2.1,s.2.2.1,s.2.2.2.1,-s.2.2.2.2)
def T5(a b:Sd):Bool:=if a.1*b.2.2.1 - b.1*a.2.2.1=0 then decide (0<a.2.1*b.2.2.1 - b.2.1*a.2.2.1)else decide (0<a.1*b.2.2.1 - b.1*a.2.2.1)
def G1(ss:List Sd)(f:Sd):Sd:=ss.foldl (λf s=>if T5 s f=true then s else f) f
def Pr(h:Sd)(f:Option Sd)(s:Sd):Bool:=match f with
 | none=>true
 | some g=>decide (tnZ h g s<0) || (decide (tnZ h g s=0) && decide (0<veZ g s))
def Z5(h:Sd)(f:Option Sd)(s:Sd):Option Sd:=if 0<veZ h s then(if Pr h f s=true then some s else f)else f
def O8(h:Sd)(ss:List Sd):Option Sd:=ss.foldl (Z5 h) none
def Z4(h0:Sd)(ss:List Sd):Nat->Option Sd->List Sd
 | 0,_=>[]
 | _+1,none=>[]
 | k+1,some h=>if 0<veZ h0 h then h :: Z4 h0 ss k (O8 h ss)else[]
def C9:List Sd->List Sd
 | []=>[]
 | s :: r=>G1 (s :: r) s :: Z4 (G1 (s :: r) s) (s :: r) (s :: r).length (O8 (G1 (s :: r) s) (s :: r))
def G4(a b:Sd):ve (tri a) (tri b)=(veZ a b:Rat):=by simp[a2E,a1W,ve,tri,veZ]
def SN(a b c:Sd):tn (tri a) (tri b) (tri c)=(tnZ a b c:Rat):=by unfold tn tnZ;rw[G4,G4,G4,a3c,a2E,a1W,a1W,a1W];rfl
def P8{n:Int}:(0:Rat)<(n:Rat)↔0<n:=by have:=a3H (a:=0) (b:=n);rw[<- this];rfl
def CT{n:Int}:(0:Rat)<=(n:Rat)↔0<=n:=by have:=a4M (a:=0) (b:=n);rw[<- this];rfl
def Q8(s:Sd):tri (m9 s)=ng (tri s):=by rfl
def cG{a b:Int}(ha:0<a)(h:0<=a*b):0<=b:=by
 rcases a5q b 0 with z|z
 ·have:=Int.mul_lt_mul_of_pos_left z ha;omega
 ·exact z
def wV{a b:Int}(ha:0<a)(h:0<a*b):0<b:=by
 rcases a5q 0 b with z|z
 ·exact z
 ·have:=a3S z<|a5r ha;omega
def plu(h g s t:Sd):veZ h g*tnZ h s t=veZ h s*tnZ h g t - veZ h t*tnZ h g s:=by unfold tnZ veZ;grind
def Zn(h g s t:Sd):veZ h g*tnZ g s t=tnZ h g s*veZ t g - tnZ h g t*veZ s g:=by unfold tnZ veZ;grind
def Zm(o h g s:Sd):veZ o g*veZ h s=veZ o h*veZ g s+veZ o s*veZ h g:=by unfold veZ;grind
structure Ln(h:Sd)(pre:List Sd)(f:Option Sd):Prop where
 no:f=none->∀ s∈pre,¬ 0<veZ h s
 yes:∀ g,f=some g->g∈pre/\0<veZ h g/\∀ s∈pre,0<veZ h s->0<=tnZ h g s/\(tnZ h g s=0->veZ g s<=0)
def IQ{h:Sd}{pre:List Sd}{f:Option Sd}{s:Sd}(hp:∀ s∈pre,0<s.2.2.1)(hs:0<s.2.2.1)(I:Ln h pre f):Ln h (pre++[s]) (Z5 h f s):=by
 unfold Z5;by_cases c:0<veZ h s
 ·rw[if_pos c]
  by_cases b:Pr h f s=true
  ·rw[if_pos b]
   refine⟨λz=>(by cases z),λg e=>?_⟩;cases e;refine⟨by simp,c,λt ht hv=>?_⟩;have self:tnZ h s s=0/\veZ s s=0:=by unfold tnZ veZ;grind
   rcases a10.mp ht with ht|ht
   ·cases f with
    | none=>exact absurd hv<|I.no rfl t ht
    | some g =>
     obtain⟨g1,g2,g3⟩:=I.yes g rfl;obtain⟨k1,k2⟩:=g3 t ht hv;have b':tnZ h g s<0\/(tnZ h g s=0/\0<veZ g s):=by have b:(decide (tnZ h g s<0) || (decide (tnZ h g s=0) && decide (0<veZ g s)))=true:=b;simpa using b
     have pl:=plu h g s t;have n1:0<=veZ h s*tnZ h g t:=a3L (by omega) k1;have n2:0<=veZ h t * -tnZ h g s:=a3L (by omega) (by omega);rw[a5B]at n2;refine⟨cG g2<|by omega,λz=>?_⟩;rw[z,Int.mul_zero]at pl;have m1:veZ h s*tnZ h g t=0:=by omega
     have m2:veZ h t*tnZ h g s=0:=by omega
     have e1:=(a37.mp m1).resolve_left (by omega);have e2:=(a37.mp m2).resolve_left (by omega);have p2:=Zn h g s t;rw[e1,e2,a5s,a5s]at p2;have e3:=(a37.mp (by omega:veZ h g*tnZ g s t=0)).resolve_left (by omega);have e4:g.2.2.1*veZ s t - s.2.2.1*veZ g t+t.2.2.1*veZ g s=0:=e3;have rg:=hp g g1;have rt:=hp t ht;have q1:0<=s.2.2.1 * -veZ g t:=a3L (by omega) (by omega);have q2:0<=t.2.2.1*veZ g s:=a3L (by omega) (by omega);rw[a5B]at q1;have q3:0<=g.2.2.1 * -veZ s t:=by rw[a5B];omega
     have:=cG rg q3;omega
   ·rw[a13.mp ht,self.1,self.2];exact⟨Int.le_refl _,λ_=>Int.le_refl _⟩
  ·rw[if_neg b]
   cases f with
   | none=>exact absurd rfl b
   | some g =>
    obtain⟨g1,g2,g3⟩:=I.yes g rfl;refine⟨λz=>(by cases z),λg' e=>?_⟩;cases e;refine⟨a2V _ g1,g2,λt ht hv=>?_⟩;rcases a10.mp ht with ht|ht
    ·exact g3 t ht hv
    ·rw[a13.mp ht]
     have b':¬ (tnZ h g s<0\/(tnZ h g s=0/\0<veZ g s)):=by intro z;apply b;show(decide (tnZ h g s<0) || (decide (tnZ h g s=0) && decide (0<veZ g s)))=true;simpa using z
     exact⟨by omega,λz=>by omega⟩
 ·rw[if_neg c]
  refine⟨λz t ht=>?_,λg e=>?_⟩
  ·rcases a10.mp ht with ht|ht
   ·exact I.no z t ht
   ·rw[a13.mp ht];exact c
  ·obtain⟨g1,g2,g3⟩:=I.yes g e
   refine⟨a2V _ g1,g2,λt ht hv=>?_⟩;rcases a10.mp ht with ht|ht
   ·exact g3 t ht hv
   ·rw[a13.mp ht]at hv;exact absurd hv c
theorem wR:∀(l pre:List Sd) (f:Option Sd),(∀ s∈pre,0<s.2.2.1)->(∀ s∈l,0<s.2.2.1)->Ln h pre f->Ln h (pre++l) (l.foldl (Z5 h) f)
 | [],pre,f,_,_,I=>by rw[a2g];exact I
 | s :: l,pre,f,h1,h2,I=>by
  have h3:=h2 s a1M;have:=wR l (pre++[s]) (Z5 h f s) (λt ht=>by
   rcases a10.mp ht with ht|ht
   ·exact h1 t ht
   ·rw[a13.mp ht];exact h3) (λt ht=>h2 t<|a1O _ ht)<|IQ h1 h3 I
  rwa [a2H]at this
def ku(hp:∀ s∈ss,0<s.2.2.1):Ln h ss (O8 h ss):=by have:=wR (h:=h) ss [] none (λ_ z=>nomatch z) hp ⟨λ_ _ z=>(nomatch z),λ_ z=>(nomatch z)⟩;assumption
def N8{h f:Sd}{ss:List Sd}(hp:∀ s∈ss,0<s.2.2.1)(e:O8 h ss=some f):f∈ss/\0<veZ h f/\VE (ss.map tri) (tri h) (tri f):=by obtain⟨h1,h2,h3⟩:=(ku hp).yes f e;refine⟨h1,h2,by rw[G4];exact P8.mpr h2,a17.mpr ⟨f,h1,rfl⟩,λs hs hv=>?_⟩;obtain⟨t,ht,rfl⟩:=a17.mp hs;rw[G4]at hv;rw[SN];exact CT.mpr (h3 t ht<|P8.mp hv).1
theorem fb:∀ ss f,G1 ss f=f\/G1 ss f∈ss
 | [],f=>.inl rfl
 | s :: r,f=>by
  show G1 r (if T5 s f=true then s else f)=f\/_;rcases fb r (if T5 s f=true then s else f)with h|h
  ·rw[h]
   split
   ·rename_i c;right;show G1 r (if T5 s f=true then s else f)∈_;rw[h,if_pos c];exact a1M
   ·exact .inl rfl
  ·exact .inr<|a1O _ h
def OD(h:T5 s f=true):f.1*s.2.2.1<=s.1*f.2.2.1:=by grind[T5]
def OE(h:¬ T5 s f=true):s.1*f.2.2.1<=f.1*s.2.2.1:=by grind[decide_eq_true,T5]
def XQ{a b c x y z:Int}(hy:0<y)(hx:0<x)(hz:0<z)(h1:a*y<=b*x)(h2:b*z<=c*y):a*z<=c*x:=by
 have e1:=a3N h1<|a5r hz;have e2:=a3N h2<|a5r hx;have e3:0<=y*(c*x - a*z):=by grind
 have:=cG hy e3;omega
theorem BV:∀(ss:List Sd) (f:Sd) (t:Sd),(∀ s∈ss,0<s.2.2.1)->0<f.2.2.1->0<t.2.2.1->(t∈ss\/t.1*f.2.2.1<=f.1*t.2.2.1)->t.1*(G1 ss f).2.2.1<=(G1 ss f).1*t.2.2.1
 | [],f,t,_,_,_,h=>by
  rcases h with h|h
  ·cases h
  ·exact h
 | s :: r,f,t,hp,hf,ht,h=>by
  have hs:=hp s a1M;show t.1*(G1 r (if T5 s f=true then s else f)).2.2.1<=(G1 r (if T5 s f=true then s else f)).1*t.2.2.1;refine BV r _ t (λs hs=>hp s<|a1O _ hs) (by split<;>assumption) ht ?_;rcases h with h|h
  ·rcases a1Y.mp h with rfl|h
   ·right
    split
    ·omega
    ·rename_i c;exact OE c
   ·exact .inl h
  ·right
   split
   ·rename_i c;exact XQ hf ht hs h<|OD c
   ·exact h
theorem xw:∀{l:List α},(∀ y∈l,q y=true->p y=true)->x∈l->p x=true->q x=false->(l.filter q).length<(l.filter p).length
 | [],_,h,_,_=>nomatch h
 | y :: l,h1,h2,h3,h4=>by
  have le:∀(l:List α),(∀ y∈l,q y=true->p y=true)->(l.filter q).length<=(l.filter p).length:=λl=>by
   induction l with
   | nil=>intro _;exact a1U _
   | cons a l ih =>
    intro h;have:=ih λy hy=>h y<|a1O _ hy;by_cases qa:q a=true
    ·rw[a2m qa,a2m<|h a a1M qa,a15,a15];omega
    ·rw[a2X qa]
     by_cases pa:p a=true
     ·rw[a2m pa,a15];omega
     ·rw[a2X pa];exact this
  have hl:=le l λy hy=>h1 y<|a1O _ hy;rcases a1Y.mp h2 with rfl|h2
  ·grind
  ·have ih:=xw (λy hy=>h1 y<|a1O _ hy) h2 h3 h4;grind
def El(h0:Sd)(ss:List Sd)(h:Sd):Nat:=(ss.filter λs=>decide (0<veZ h s) && decide (0<veZ h0 s)).length
def KO(h0:Sd)(ss:List Sd)(h:Sd):El h0 ss h<=ss.length:=a2w _ _
def fQ{h0 h f:Sd}{ss:List Sd}(hp:∀ s∈ss,0<s.2.2.1)(e:O8 h ss=some f)(h1:h=h0\/0<veZ h0 h)(h2:0<veZ h0 f):El h0 ss f<El h0 ss h:=by
 obtain⟨m,v,_⟩:=N8 hp e;unfold El;refine xw (x:=f) (λs _ hq=>?_) m (by rw[decide_eq_true v,decide_eq_true h2];rfl) ?_
 ·rw[a25,decide_eq_true_eq,decide_eq_true_eq]at hq ⊢
  refine⟨?_,hq.2⟩;rcases h1 with rfl|h1
  ·exact hq.2
  ·have i:=Zm h0 h f s;have a1:=a5b h1 hq.1;have a2:=a5b hq.2 v;exact wV h2<|by omega
 ·have:veZ f f=0:=by unfold veZ;grind
  rw[this];rfl
def Nu{h0:Sd}{ss:List Sd}(hp:∀ s∈ss,0<s.2.2.1)(sy:∀ s∈ss,m9 s∈ss)(m0:h0∈ss){z0:Rat × Rat}(s0:Sup (ss.map tri) z0)(t0:dt (tri h0) z0=(tri h0).2.2):∀(k:Nat) (a:Sd) (z:Rat × Rat),a∈ss->Sup (ss.map tri) z->dt (tri a) z=(tri a).2.2 ->
  (a=h0\/0<veZ h0 a)->(a=h0->∃ f,O8 h0 ss=some f)->(∀ f,O8 a ss=some f->0<veZ h0 f->El h0 ss f<k) ->
  ∀ ab∈(a :: Z4 h0 ss k (O8 a ss)).zip (Z4 h0 ss k (O8 a ss)++[m9 h0]),ab.1∈ss/\ab.2∈ss/\0<veZ ab.1 ab.2/\Sup (ss.map tri) (ry (tri ab.1)<|tri ab.2):=by
 have syT:∀ s∈ss.map tri,ng s∈ss.map tri:=λs hs=>by obtain⟨t,ht,rfl⟩:=a17.mp hs;rw[<- Q8];exact a17.mpr ⟨_,sy t ht,rfl⟩
 intro k
 induction k with
 | zero =>
  intro a z ha hz ta h1 h2 h3 ab hab
  cases e:O8 a ss with
  | none =>
   exfalso
   rcases h1 with rfl|h1
   ·obtain⟨f,hf⟩:=h2 rfl;rw[e]at hf;cases hf
   ·have:=(ku (h:=a) hp).no e (m9 h0) (sy h0 m0)
    exact this<|by rw[show veZ a (m9 h0)=veZ h0 a by unfold veZ m9;grind];exact h1
  | some f =>
   obtain⟨mf,vf,ef⟩:=N8 hp e
   by_cases c:0<veZ h0 f
   ·exact absurd (h3 f e c)<|Nat.not_lt_zero _
   ·rw[e]at hab
    have hab:ab∈[(a,m9 h0)]:=hab
    rw[a13.mp hab]
    have hv:0<veZ h0 a:=by
     rcases h1 with rfl|h1
     ·exact absurd vf c
     ·exact h1
    have ev:veZ a (m9 h0)=veZ h0 a:=by unfold veZ m9;grind
    refine⟨ha,sy h0 m0,by show 0<veZ a (m9 h0);rw[ev];exact hv,?_⟩
    show Sup _ (ry (tri a)<|tri<|m9 h0)
    rw[Q8]
    exact Sl syT (a17.mpr ⟨h0,m0,rfl⟩) (a17.mpr ⟨a,ha,rfl⟩) s0 t0 hz ta ef (by rw[G4];exact P8.mpr hv)<|by rw[G4];have:=P8 (n:=veZ h0 f);grind
 | succ k ih =>
  intro a z ha hz ta h1 h2 h3 ab hab
  cases e:O8 a ss with
  | none =>
   exfalso
   rcases h1 with rfl|h1
   ·obtain⟨f,hf⟩:=h2 rfl;rw[e]at hf;cases hf
   ·have:=(ku (h:=a) hp).no e (m9 h0) (sy h0 m0)
    exact this<|by rw[show veZ a (m9 h0)=veZ h0 a by unfold veZ m9;grind];exact h1
  | some f =>
   obtain⟨mf,vf,ef⟩:=N8 hp e
   rw[e]at hab
   by_cases c:0<veZ h0 f
   ·have er:Z4 h0 ss (k+1) (some f)=f :: Z4 h0 ss k (O8 f ss):=if_pos c
    rw[er]at hab
    have sf:=vg hz ta ef
    rcases a1Y.mp hab with rfl|hab
    ·exact⟨ha,mf,vf,sf⟩
    ·refine ih f (ry (tri a)<|tri f) mf sf (Td<|cF ef.ve) (.inr c) (λz=>?_) (λg hg hc=>?_) ab hab
     ·subst z
      have:veZ f f=0:=by unfold veZ;grind
      omega
     ·have:=fQ hp hg (.inr c) hc
      have:=h3 f e c
      omega
   ·have er:Z4 h0 ss (k+1) (some f)=[]:=if_neg c
    rw[er]at hab
    have hab:ab∈[(a,m9 h0)]:=hab
    rw[a13.mp hab]
    have hv:0<veZ h0 a:=by
     rcases h1 with rfl|h1
     ·exact absurd vf c
     ·exact h1
    have ev:veZ a (m9 h0)=veZ h0 a:=by unfold veZ m9;grind
    refine⟨ha,sy h0 m0,by show 0<veZ a (m9 h0);rw[ev];exact hv,?_⟩
    show Sup _ (ry (tri a)<|tri<|m9 h0)
    rw[Q8]
    exact Sl syT (a17.mpr ⟨h0,m0,rfl⟩) (a17.mpr ⟨a,ha,rfl⟩) s0 t0 hz ta ef (by rw[G4];exact P8.mpr hv)<|by rw[G4];have:=P8 (n:=veZ h0 f);grind
def B8(c d:Nat):Nat:=c / a2i c d*d
def ky(c d:Nat):B8 c d=a5E c d:=by unfold B8 a5E;rw[a3p,<- Nat.mul_div_assoc _ (Nat.gcd_dvd_left c d),a3p]
def cbL(l:T3):Nat:=B8 (B8 (B8 1 l.1.den) l.2.1.den) l.2.2.den
theorem tP(l:T3):cbL l=a5E (a5E l.1.den l.2.1.den) l.2.2.den:=by simp[ky,Nat.lcm_one_left,cbL]
def Pn(l:T3):0<cbL l:=by rw[tP];exact a4y (a4y l.1.den_pos l.2.1.den_pos) l.2.2.den_pos
def Yz(l:T3):l.1.den ∣ cbL l:=by grind[tP,a4z,a4H]
def Yy(l:T3):l.2.1.den ∣ cbL l:=by rw[tP];exact a4z (a4o _ _)<|a4H _ _
def Yx(l:T3):l.2.2.den ∣ cbL l:=by simp[tP,a4o]
def cB(q:Rat)(c:Nat):Int:=q.num*((c / q.den:Nat):Int)
def qG(h:q.den ∣ c):(cB q c:Rat)=q*(c:Rat):=by obtain⟨k,rfl⟩:=h;unfold cB;rw[a4A _ q.den_pos,a1W,<- A5 q,a21,a19];grind
def v7(l:T3)(i:Nat):Sd:=(cB l.1<|cbL l,cB l.2.1<|cbL l,cB l.2.2<|cbL l,(i:Int),(cbL l:Int))
def Z3:Nat->List T3->List Sd
 | _,[]=>[]
 | i,l :: r=>v7 l i :: m9 (v7 l i) :: Z3 (i+1) r
abbrev i4(ls:List T3):List Sd:=Z3 0 ls
def Gq(l:T3)(i:Nat):tri (v7 l i)=(l.1*(cbL l:Rat),l.2.1*(cbL l:Rat),l.2.2*(cbL l:Rat)):=by simp[qG,Yz,Yy,Yx,tri,v7]
def CC(s:Sd):m9 (m9 s)=s:=by simp[Int.neg_neg,m9]
theorem dh:∀{ls:List T3} {i:Nat},s∈Z3 i ls->∃ l∈ls,∃ j,s=v7 l j\/s=m9 (v7 l j)
 | [],_,h=>nomatch h
 | l :: r,i,h=>by
  rcases a1Y.mp h with h|h
  ·exact⟨l,a1M,i,.inl h⟩
  ·rcases a1Y.mp h with h|h
   ·exact⟨l,a1M,i,.inr h⟩
   ·obtain⟨l',h1,j,h2⟩:=dh h;exact⟨l',a1O _ h1,j,h2⟩
theorem yf:∀{ls:List T3} {i:Nat},∀ s∈Z3 i ls,m9 s∈Z3 i ls
 | [],_,_,h=>nomatch h
 | l :: r,i,s,h=>by
  rcases a1Y.mp h with rfl|h
  ·exact a1O _ a1M
  ·rcases a1Y.mp h with rfl|h
   ·rw[CC];exact a1M
   ·exact a1O _<|a1O _<|yf s h
structure LineOk(l:T3):Prop where
 ne:¬ (l.1=0/\l.2.1=0)
 pos:0<l.2.2
def Pl(l:T3):(0:Rat)<(cbL l:Rat):=by exact Rat.natCast_pos.mpr<|Pn l
def Bk{ls:List T3}(h:∀ l∈ls,LineOk l){i:Nat}:∀ s∈Z3 i ls,0<s.2.2.1:=λs hs=>by
 obtain⟨l,hl,j,e⟩:=dh hs;have hr:s.2.2.1=(v7 l j).2.2.1:=by rcases e with rfl|rfl<;>rfl
 rw[hr];have e2:((v7 l j).2.2.1:Rat)=l.2.2*(cbL l):=congrArg (λt:T3=>t.2.2)<|Gq l j;refine P8.mp ?_;rw[e2];exact a3h (h l hl).pos<|Pl l
def bq{ls:List T3}(hok:∀ l∈ls,LineOk l)(hne:ls≠[]):∃ h0 l,C9 (i4 ls)=h0 :: l/\h0∈i4 ls /\
  ((l=[]/\∀ s∈i4 ls,veZ h0 s=0)\/(l≠[]/\Rim ((i4 ls).map tri) (tri h0) (l.map tri)/\∀ ab∈(h0 :: l).zip (l++[m9 h0]),ab.1∈i4 ls/\ab.2∈i4 ls/\0<veZ ab.1 ab.2)):=by
 have hp:∀ s∈i4 ls,0<s.2.2.1:=Bk hok (i:=0)
 have sy:∀ s∈i4 ls,m9 s∈i4 ls:=yf (ls:=ls) (i:=0)
 have nn:i4 ls≠[]:=by
  cases ls with
  | nil=>exact absurd rfl hne
  | cons a b=>exact λz=>nomatch z
 generalize i4 ls=ss at *
 obtain⟨s1,r,rfl⟩:∃ s1 r,ss=s1 :: r:=by
  cases ss with
  | nil=>exact absurd rfl nn
  | cons a b=>exact⟨_,_,rfl⟩
 refine⟨G1 (s1 :: r) s1,_,rfl,?_⟩
 have m0:G1 (s1 :: r) s1∈s1 :: r:=by grind[fb,a1M]
 have le:=λt ht=>BV (s1 :: r) s1 t hp (hp s1 a1M) (hp t ht)<|.inl ht
 generalize G1 (s1 :: r) s1=h0 at *
 generalize s1 :: r=ss at *
 refine⟨m0,?_⟩
 cases e:O8 h0 ss with
 | none =>
  left
  have no:=(ku (h:=h0) hp).no e
  refine⟨by cases ss.length<;>rfl,λs hs=>?_⟩
  have a1:=no s hs
  have a2:=no _<|sy s hs
  have:veZ h0 (m9 s) = -veZ h0 s:=by unfold veZ m9;grind
  omega
 | some f =>
  right
  obtain⟨mf,vf,ef⟩:=N8 hp e
  have hl:ss.length≠0:=λz=>by grind
  have r0:=hp h0 m0
  have p0:0<h0.1:=by
   rcases a5q 0 h0.1 with z|z
   ·exact z
   ·exfalso
    have O9:∀ s∈ss,s.1=0:=λs hs=>by have q1:=le s hs;have q2:=le _<|sy s hs;have rs:=hp s hs;have q2:-s.1*h0.2.2.1<=h0.1*s.2.2.1:=q2;have q3:0 <= -h0.1*s.2.2.1:=a3L (by omega) (by omega);rw[Int.neg_mul]at q2 q3;grind[a37]
    simp_all [O9,a5s,Int.mul_zero,veZ]
  have p0R:(0:Rat)<(h0.1:Rat):=P8.mpr p0
  have s0:Sup (ss.map tri) ((h0.2.2.1:Rat) / (h0.1:Rat),0):=λs hs=>by
   obtain⟨t,ht,rfl⟩:=a17.mp hs;have q:=le t ht;have q':((t.1*h0.2.2.1:Int):Rat)<=((h0.1*t.2.2.1:Int):Rat):=a4M.mpr q;rw[a1W,a1W]at q';unfold dt tri;show(t.1:Rat)*((h0.2.2.1:Rat) / (h0.1:Rat))+(t.2.1:Rat)*0<=(t.2.2.1:Rat);have e1:(h0.1:Rat)*((h0.2.2.1:Rat) / (h0.1:Rat))=(h0.2.2.1:Rat):=by grind
   have:0<=(h0.1:Rat)*((t.2.2.1:Rat) - (t.1:Rat)*((h0.2.2.1:Rat) / (h0.1:Rat))):=by
    generalize (h0.2.2.1:Rat) / (h0.1:Rat)=w at *
    generalize (h0.1:Rat)=A at *
    generalize (h0.2.2.1:Rat)=B at *
    generalize (t.1:Rat)=C at *
    generalize (t.2.2.1:Rat)=E at *
    subst e1;grind
   have:=my p0R this;grind
  have t0:dt (tri h0) ((h0.2.2.1:Rat) / (h0.1:Rat),0)=(tri h0).2.2:=by grind[dt,tri]
  have all:=Nu hp sy m0 s0 t0 ss.length h0 _ m0 s0 t0 (.inl rfl) (λ_=>⟨f,e⟩) λg hg hv=>a1F (fQ hp hg (.inl rfl) hv)<|KO h0 ss h0
  rw[e]at all
  refine⟨?_,⟨?_,λs hs=>?_,λs hs=>?_,λab hab=>?_⟩,λab hab=>?_⟩
  ·obtain⟨k,hk⟩:∃ k,ss.length=k+1:=⟨ss.length - 1,by omega⟩
   rw[hk]
   show(if 0<veZ h0 f then _ else _)≠[]
   rw[if_pos vf];exact λz=>nomatch z
  ·obtain⟨k,hk⟩:∃ k,ss.length=k+1:=⟨ss.length - 1,by omega⟩
   rw[hk]
   show(if 0<veZ h0 f then _ else _:List Sd).map tri≠[]
   rw[if_pos vf];exact λz=>nomatch z
  ·obtain⟨t,ht,rfl⟩:=a17.mp hs
   rw[<- Q8];exact a17.mpr ⟨_,sy t ht,rfl⟩
  ·obtain⟨t,ht,rfl⟩:=a17.mp hs
   exact P8.mpr<|hp t ht
  ·have em:ab∈((h0 :: Z4 h0 ss ss.length (some f)).map tri).zip ((Z4 h0 ss ss.length (some f)++[m9 h0]).map tri):=by
    rw[a11,a1Z,a1Z,a2R,Q8];exact hab
   rw[Z7]at em
   obtain⟨cd,hcd,rfl⟩:=a17.mp em
   obtain⟨q1,q2,q3,q4⟩:=all cd hcd
   exact⟨a17.mpr ⟨_,q1,rfl⟩,a17.mpr ⟨_,q2,rfl⟩,by show 0<ve (tri cd.1) (tri cd.2);rw[G4];exact P8.mpr q3,q4⟩
  ·obtain⟨q1,q2,q3,q4⟩:=all ab hab
   exact⟨q1,q2,q3⟩
def dm:sdD a=sdD b↔a=b:=by grind[Prod.ext,sdD]
def di{xs ys:List Sd}:xs.map sdD=ys.map sdD↔xs=ys:=a3l λ_ _ h=>dm.mp h
structure SzS(s:Sd):Prop where
 p:s.1.natAbs<2 ^ 1200
 q:s.2.1.natAbs<2 ^ 1200
 r:s.2.2.1.natAbs<2 ^ 1200
def wq:Option Sd->D
 | none=>.non
 | some s=>sdD s
structure LnOk(l:T3):Prop extends LineOk l where
 p:sz l.1<=1300
 q:sz l.2.1<=1300
 r:sz l.2.2<=1300
 s:SzS (v7 l 0)
def Lp(ls:List T3):Prop:=ls.length<=12/\∀ l∈ls,LnOk l
local macro_rules|`(tactic| rw[11])=>`(tactic| (rename_i e h;simp only[List.cons.injEq,GM.dm,GM.di,and_true,true_and,GM.f8,GM.e7,GM.d7,GM.e8,GM.d8,D.tup.injEq,D.ref.injEq,D.int.injEq,D.str.injEq,D.bl.injEq,D.vl.injEq,a1J,and_assoc]at e;(repeat(obtain⟨e1,e⟩:=e;subst e1));subst e;exact h))
example rN Xk ET(l:T3):[j4 l]:=LnOk l/\R (.int ((cbL l:Nat):Int)) M
example ee Hn um(l:T3)(c:Int):[j4 l,.int c]:=(LnOk l/\c=((cbL l:Nat):Int))/\R (.vl [.int (v7 l 0).1,.int (v7 l 0).2.1,.int (v7 l 0).2.2.1]) M
example rM Xj ES(a:Sd):[sdD a]:=R (sdD<|m9 a) M
example jN QW zY(a b:Sd):[sdD a,sdD b]:=(SzS a/\SzS b)/\R (.int<|veZ a b) M
example jP QY Aa(a b c:Sd):[sdD a,sdD b,sdD c]:=(SzS a/\SzS b/\SzS c)/\R (.int<|tnZ a b c) M
example ke Ro Am(a b:Sd):[sdD a,sdD b]:=(SzS a/\SzS b)/\R (.bl<|T5 a b) M
example jW Rh Ah(ss:List Sd):[.vl<|ss.map sdD]:=(∃ s r,ss=s :: r)/\(∀ s∈ss,SzS s)/\R (sdD<|G1 ss<|ss.headD (0,0,0,0,0)) M
example rH Xg EN(ss:List Sd)(g:Sd):[.vl<|ss.map sdD,sdD g]:=(SzS g/\∀ s∈ss,SzS s)/\R (wq<|O8 g ss) M
example rK Xh EO(a b:Sd):[sdD a,sdD b]:=(SzS a/\SzS b/\veZ a b≠0)/\R (rD<|ry (tri a)<|tri b) M
def EJ:gIx (sdD a) (.int 0) M R=R (.int a.1) M:=kU
def EI:gIx (sdD a) (.int 1) M R=R (.int a.2.1) M:=kT
def EH:gIx (sdD a) (.int 2) M R=R (.int a.2.2.1) M:=xU
theorem SzS.ve(ha:SzS a)(hb:SzS b):(veZ a b).natAbs<2 ^ 2401:=by have h1:=h7 ha.p hb.q;have h2:=h7 ha.q hb.p;unfold veZ;omega
def J2(c d:Nat):B8 c d<=c*d:=by unfold B8;exact a2W _<|a2Z _ _
theorem tN:∀(xs:List Rat) (c m:Nat),(∀ x∈xs,sz x<=1300)->c<2 ^ m->xs.foldl (λc q=>B8 c q.den) c<2 ^ (m+1300*xs.length)
 | [],c,m,_,h=>by simpa using h
 | x :: xs,c,m,hx,h=>by have h1:B8 c x.den<2 ^ (m+1300):=a1R (J2 c x.den)<|r9 h<|l5 x<|hx x a1M;have:=tN xs _ _ (λy hy=>hx y<|a1O _ hy) h1;rw[a31,a15];rwa [show m+1300*(xs.length+1)=m+1300+1300*xs.length by omega]
def LnOk.all(h:LnOk l):∀ x∈[l.1,l.2.1,l.2.2],sz x<=1300:=λx hx=>by
 simp at hx;rcases hx with rfl|rfl|rfl
 ·exact h.p
 ·exact h.q
 ·exact h.r
def LnOk.cb(h:LnOk l):cbL l<2 ^ 3901:=tN [l.1,l.2.1,l.2.2] 1 1 h.all (by decide)
def Dt(h:Lp ls):∀ s∈Z3 i ls,SzS s:=λs hs=>by
 obtain⟨l,hl,j,e⟩:=dh hs;obtain⟨a,b,c⟩:=(h.2 l hl).s;rcases e with rfl|rfl
 ·exact⟨a,b,c⟩
 ·exact⟨by show(-(v7 l j).1).natAbs<_;rw[a2u];exact a,by show(-(v7 l j).2.1).natAbs<_;rw[a2u];exact b,c⟩
theorem vt:∀(ls:List T3) (i j:Nat) (l:T3),ls[j]? = some l->Z3 i (ls.take<|j+1)=Z3 i (ls.take j)++[v7 l<|i+j,m9<|v7 l<|i+j]
 | [],_,_,_,h=>nomatch h
 | a :: r,i,0,l,h=>by obtain rfl:=Option.some.inj h;rfl
 | a :: r,i,j+1,l,h=>by have:=vt r (i+1) j l h;rw[a32,a32];show _ :: _ :: Z3 (i+1) (r.take<|j+1)=_ :: _ :: (Z3 (i+1) (r.take j)++_);rw[this,show i+1+j=i+(j+1)by omega]
theorem jL:∀ ls i,(Z3 i ls).length=2*ls.length
 | [],_=>rfl
 | a :: r,i=>by show(Z3 (i+1) r).length+1+1=2*(r.length+1);rw[jL r<|i+1];omega
def P7(a b:Int):a2r a b=(a:Rat) / (b:Rat):=a3s a b
def HM(a b:Sd):(a2r (a.2.2.1*b.2.1 - b.2.2.1*a.2.1)<|veZ a b,a2r (a.1*b.2.2.1 - b.1*a.2.2.1)<|veZ a b)=ry (tri a) (tri b):=by unfold ry;rw[G4,P7,P7,a2E,a2E,a1W,a1W,a1W,a1W];rfl
def Xo(ha:a.1.natAbs<2 ^ n/\a.2.1.natAbs<2 ^ n/\a.2.2.1.natAbs<2 ^ n)(hb:b.1.natAbs<2 ^ n/\b.2.1.natAbs<2 ^ n/\b.2.2.1.natAbs<2 ^ n)(hv:veZ a b≠0):sz (ry (tri a)<|tri b).1<=2*n+1/\sz (ry (tri a)<|tri b).2<=2*n+1:=by
 have sub:∀{x y z w:Int},x.natAbs<2 ^ n->y.natAbs<2 ^ n->z.natAbs<2 ^ n->w.natAbs<2 ^ n->(x*y - z*w).natAbs<2 ^ (2*n+1):=λ{x y z w} h1 h2 h3 h4=>by have e1:=h7 h1 h2;have e2:=h7 h3 h4;have:=a4p (x*y)<|z*w;rw[show 2*n+1=n+n+1 by omega,a4h];omega
 rw[<- HM];have hve:(veZ a b).natAbs<2 ^ (2*n+1):=sub ha.1 hb.2.1 ha.2.1 hb.1;exact⟨sU (by omega) (sub ha.2.2 hb.2.1 hb.2.2 ha.2.1) hve hv,sU (by omega) (sub ha.1 hb.2.2 hb.1 ha.2.2) hve hv⟩
def Jx(hok:∀ l∈ls,LineOk l):(C9<|i4 ls).length<=2*ls.length+1:=by
 have:∀ h0 ss k o,(Z4 h0 ss k o).length<=k:=λh0 ss k=>by
  induction k with
  | zero=>intro o;exact a1U _
  | succ k ih =>
   intro o;cases o with
   | none=>exact a2e _
   | some h =>
    show(if 0<veZ h0 h then h :: Z4 h0 ss k (O8 h ss)else[]).length<=k+1;split
    ·rw[a15];have:=ih<|O8 h ss;omega
    ·exact a2e _
 have e:=jL ls 0;unfold i4;cases es:Z3 0 ls with
 | nil=>exact a2e _
 | cons s r =>rw[es]at e;show(Z4 _ _ _ _).length+1<=_;have:=this (G1 (s :: r) s) (s :: r) (s :: r).length<|O8 (G1 (s :: r) s) (s :: r);omega
def Ph{ds:List D}{n:Nat}:DL.X2 ds (some (n:Int)) none=ds.drop n:=by
 unfold DL.X2 HT.sIx;have h1:¬ ((n:Int)<0):=by omega
 simp only[h1,if_false];simp[a38,a2O,a2F,a1U,a4I,a4N]
theorem Ey:∀(a b:List Sd),Q0 (a.map sdD) (b.map sdD)=(a.zip b).map λab=>D.tup [sdD ab.1,sdD ab.2]
 | [],_=>rfl
 | _ :: _,[]=>rfl
 | x :: a,y :: b=>by show D.tup [sdD x,sdD y] :: Q0 (a.map sdD) (b.map sdD)=_;rw[Ey a b];rfl
end GM
namespace GM
def LA(n:Nat)(s:Sd):Prop:=s.1.natAbs<2 ^ n/\s.2.1.natAbs<2 ^ n/\s.2.2.1.natAbs<2 ^ n
end GM
namespace L2
open PySem PySem.Spec PyProof.Rows
def Inv.keptL(I:Inv X pins σ H s)(k:∀ b o,b≠X.env.locals->s.heap.get? b=some o->h'.get? b=some o)(ns:∀ m,s.heap.Ns X.env.locals m->h'.Ns X.env.locals m):Inv X pins σ H { s with heap:=h',toks:=t' }:=by
 have ne:∀{b:Addr} {o:Obj},X.s₀.heap.get? b=some o->b≠X.env.locals:=λ{b o} e z=>by have h1:=a1L e;rw[z]at h1;exact absurd h1<|Nat.not_lt.mpr I.ok.above
 have nL:∀{b:Addr} {u:HO},H b=some u->b≠X.env.locals:=λ{b u} e z=>by rw[z,I.free]at e;cases e
 obtain⟨m,hn,hl⟩:=I.loc;have cel:∀{c:Addr} {v:Option Value},s.heap.IsCell c v->h'.IsCell c v:=λ{c v} d=>by obtain⟨o,e1,e2⟩:=d;refine⟨o,k c o (λz=>?_) e1,e2⟩;obtain⟨o2,es,ep,e3,e4,_⟩:=hn;rw[<- z,e1]at e3;cases e3;rw[e2]at e4;cases e4
 refine⟨I.ok,I.os,I.bare,⟨λb o q n hb hx=>k b o (ne q)<|I.base.keep b o q n hb hx,λb o q n hb hx=>?_,I.base.free,λb o q hx=>?_,I.base.tups,I.base.frzs,I.base.tbls⟩,⟨m,ns m hn,λi x v e1 e2 e3=>?_⟩,λx c e=>?_,I.free,I.freeC,λp hp=>?_,λb u e=>?_,I.len⟩
 ·obtain⟨sl,z⟩:=I.base.slot b o q n hb hx;exact⟨sl,k b _ (ne q) z⟩
 ·obtain⟨o',z⟩:=I.base.there b o q hx;exact⟨o',k b _ (ne q) z⟩
 ·obtain⟨u,r,lk⟩:=hl i x v e1 e2 e3;exact⟨u,r,lk.imp id λ⟨a,c,b,d⟩=>⟨a,c,b,cel d⟩⟩
 ·obtain⟨v,d⟩:=I.cell x c e;exact⟨v,cel d⟩
 ·obtain⟨a,b,c,d⟩:=I.pin p hp;exact⟨k _ _ c a,b,c,d⟩
 ·refine(I.hok b u e).stay (λc v hc q=>k c v ?_ q) (λ_ q=>q) λ_ _ q=>q
  rcases hc with rfl|hc
  ·exact nL e
  ·exact nL hc
def wO(x:D5 P w H h a o):∃ u,h.get? a=some u:=DL.gN x
def Inv.laidL(I:Inv X pins σ H s)(k:∀ b o,b≠X.env.locals->s.heap.get? b=some o->h'.get? b=some o)(ns:∀ m,s.heap.Ns X.env.locals m->h'.Ns X.env.locals m)(hn:s.heap.get? a=none)(hL:a≠X.env.locals)(nt:∀ xs,o ≠ .tup xs)(new:D5 X.prog X.w (upd H a o) h' a o):Inv X pins σ (upd H a o) { s with heap:=h',toks:=t' }:=by
 have J:=I.keptL (t':=t') k ns;have nH:H a=none:=by
  cases e:H a with
  | none=>rfl
  | some u=>obtain⟨x,hx⟩:=wO<|I.hok a u e;rw[hn]at hx;cases hx
 have ne:∀{b:Addr} {u:HO},H b=some u->b≠a:=λ{b u} e z=>by grind
 refine⟨J.ok,J.os,J.bare,⟨J.base.keep,J.base.slot,λb o' q n hx=>?_,J.base.there,λb xs q=>?_,λb o' u q=>?_,λb ps q=>?_⟩,J.loc,J.cell,?_,λx c e=>?_,λp hp=>?_,λb u e=>?_,J.len⟩
 ·have hb:b≠a:=λz=>by
   obtain⟨o2,e2⟩:=I.base.there b o' q hx
   rw[z,hn]at e2;cases e2
  rw[g8 hb];exact J.base.free b o' q n hx
 ·have:=J.base.tups b xs q;simp_all [g8]
 ·have:=J.base.frzs b o' u q;simp_all [g8]
 ·obtain⟨more,this⟩:=J.base.tbls b ps q;grind[g8]
 ·rw[g8<|Ne.symm hL];exact J.free
 ·have hb:c≠a:=λz=>by
   obtain⟨v,o2,e2,_⟩:=I.cell x c e
   rw[z,hn]at e2;cases e2
  rw[g8 hb];exact J.freeC x c e
 ·obtain⟨p1,p2,p3⟩:=J.pin p hp
  have hb:p.1≠a:=λz=>by have:=(I.pin p hp).1;grind
  simp_all [g8]
 ·by_cases hb:b=a
  ·simp_all [i5]
  ·rw[g8 hb]at e;refine(J.hok b u e).stay (λ_ _ _ q=>q) (λc q=>?_) λc xs q=>?_;all_goals simp_all [g8]
def OC(h:wpAny (model prog w) A (keyLt' κ (vs.getD 1 Value.none)<|vs.getD 0 Value.none) (λb s'=>(b=true->G #[1,0] s')/\(b=false->G #[0,1] s')) (λ_ _=>False) s) :
  (PySem.W.kas_sort 2).kasWp (PySem.W.kas_ask prog w A κ vs) G s:=by
 show PySem.W.kas_ask prog w A κ vs 1 0 (λb s'=>PySem.W.KasT.kasWp (PySem.W.kas_ask prog w A κ vs) _ G s') s
 unfold PySem.W.kas_ask
 refine wpAny_mono h (λb s' hb=>?_) λ_ _ z=>z
 cases b with
 | true=>exact hb.1 rfl
 | false=>exact hb.2 rfl
def zi:p9 X (.builtin "sorted") (λxs H Q=>∃ l a b i j xa xb,xs=[.ref l]/\SqL X.K H l [.ref a,.ref b]/\SqT X.K H a (.int i :: xa)/\SqT X.K H b (.int j :: xb)/\i≠j /\
  ∀ p,H p=none->Q (.ref p) (upd H p<|.lst (if j<i then[.ref b,.ref a]else[.ref a,.ref b]))):=by
 intro pins s σ H xs us Q I rv h
 obtain⟨l,a,b,i,j,xa,xb,rfl,hl,ha,hb,ne,q⟩:=h
 obtain⟨u,rfl,ru⟩:=j8.one rv
 obtain rfl:u=Value.ref l:=ru
 obtain⟨its,rl,isl,_⟩:=I.list hl
 obtain⟨ia,ra,⟨oa,ha1,ha2,na,ha3⟩,_⟩:=I.tuple ha
 obtain⟨ib,rb,⟨ob,hb1,hb2,nb,hb3⟩,_⟩:=I.tuple hb
 obtain rfl:its=[Value.ref a,Value.ref b]:=by obtain⟨u1,u2,e,r1,r2⟩:=j8.two rl;rw[e,show u1=Value.ref a from r1,show u2=Value.ref b from r2]
 cases ra with
 | cons ra1 ra2 =>
 cases rb with
 | cons rb1 rb2 =>
 obtain⟨ta,rfl⟩:=ra1
 obtain⟨tb,rfl⟩:=rb1
 rename_i va vb
 obtain⟨m,F⟩:=I.fr
 obtain⟨ol,nl,hl1,hl2,_,hl3⟩:=isl
 refine PySem.W.kat_sorted (vs:=[Value.ref a,Value.ref b]) F (IW (g:=X.base)) ⟨ol,hl1,hl2,nl,hl3⟩ (by show 2<=2;decide) (by show 2<64;decide) λDl e1 h1 F1 N1 lt1=>?_
 have keep:∀ c o,c≠X.env.locals->s.heap.get? c=some o->h1.get? c=some o:=λc o n e=>by
  cases q:X.base.get? c with
  | some u =>have:=I.bk c u q;rw[e]at this;cases this;exact F1.keep c _ q
  | none=>exact(N1 (c,o)<|.tail _<|ak n q e).1
 have nL:∀{c:Addr} {o:Obj},s.heap.get? c=some o->o.cls = .type "tuple" -> (∃ xs n,o.data = .seq xs n)->c≠X.env.locals:=λ{c o} e1 _ ⟨xs,n,e2⟩ z=>by obtain⟨o2,es,ep,e3,e4,_⟩:=F.ns;rw[<- z,e1]at e3;cases e3;rw[e2]at e4;cases e4
 have nLa:a≠X.env.locals:=nL ha1 ha2 ⟨_,_,ha3⟩
 have nLb:b≠X.env.locals:=nL hb1 hb2 ⟨_,_,hb3⟩
 have ha4:=keep a oa nLa ha1
 have hb4:=keep b ob nLb hb1
 refine PySem.W.kat_kind (fs:=[.int i ta,.int j tb]) (T:=.type "int") (.cons ha4 ha2 ha3 rfl<|.cons hb4 hb2 hb3 rfl .nil) (by show 0<2;decide) (λv hv=>?_) rfl ?_
 ·simp only[a1Y,a2x,or_false]at hv
  rcases hv with rfl|rfl
  ·exact .now
  ·exact .now
 ·refine OC (PySem.W.kat_lt hb4 hb3 ha4 ha3<|PySem.W.kat_cons<|wpAny_eqBool_int ?_)
  rw[show(j == i)=false from beq_eq_false_iff_ne.mpr<|Ne.symm ne]
  refine PySem.W.kat_no<|oneLt_int ?_
  have fin:∀(vs':List Value) (xs':List V),j8 xs' vs'->xs'=(if j<i then[V.ref b,V.ref a]else[V.ref a,V.ref b])->PySem.W.KasFin X.base X.env.locals m Dl e1 vs' (λs3=>EP X pins σ Q (Value.ref Dl) s3) { s with heap:=h1 }:=λvs' xs' rv' ex=>by
   have hD0:=N1 (Dl,seqObj "list" #[] e1)<|.head _;have hDn:s.heap.get? Dl=none:=by
    cases e:s.heap.get? Dl with
    | none=>rfl
    | some u=>exact absurd (lt1 (Dl,u)<|ak hD0.2.1 hD0.2.2 e)<|a2y _
   refine PySem.W.KasFin.intro F1 N1 (.head λp hp=>a14<|lt1 p hp) λh2 c2 F2 N2=>?_;have keep2:∀ c o,c≠X.env.locals->s.heap.get? c=some o->h2.get? c=some o:=λc o n e=>by
    cases q:X.base.get? c with
    | some u =>have:=I.bk c u q;rw[e]at this;cases this;exact F2.keep c _ q
    | none=>exact(N2 (c,o)<|.tail _<|ak n q e).1
   have hD2:=N2 (Dl,PySem.W.listOf (List.toArray vs') c2)<|.head _;have I2:Inv X pins σ (upd H Dl<|.lst xs') { s with heap:=h2,toks:=s.toks }:=I.laidL keep2 (λm' hm=>by obtain⟨o1,es1,ep1,a1,a2,_,a4⟩:=hm;obtain⟨o2,es2,ep2,b1,b2,_,b4⟩:=F.ns;rw[a1]at b1;cases b1;rw[a2]at b2;cases b2;have:m'=m:=funext λx=>(a4 x).symm.trans<|b4 x;rw[this];exact F2.ns) hDn hD0.2.1 (λ_ z=>nomatch z) ⟨?_,vs',c2,rv',hD2.1⟩
   ·refine⟨.ref Dl,_,I2,rfl,?_⟩
    rw[ex];exact q Dl (by
     cases e:H Dl with
     | none=>rfl
     | some u=>obtain⟨x,hx⟩:=wO<|I.hok Dl u e;rw[hDn]at hx;cases hx)
   ·have:xs'.length<=2:=by rw[ex];split<;>exact a1U _
    exact a1N this<|by decide
  refine⟨λz=>fin _ [V.ref b,V.ref a] (.cons rfl<|.cons rfl .nil)<|by rw[if_pos<|of_decide_eq_true z],λz=>fin _ [V.ref a,V.ref b] (.cons rfl<|.cons rfl .nil)<|by rw[if_neg<|of_decide_eq_false z]⟩
def GR(there:s.heap.get? a=some (seqObj "list" ws.toArray k))(few:ws.length<2)
  (go:P (.done<|.ret .none) { s with heap:=sortedHeap s.heap a ws ws.toArray }):wpAny (model prog w) A (Builtin.«list.sort» ⟨[.ref a],[]⟩) P E s:=by
 have inb:=a1L there
 obtain⟨ep,bare⟩:∃ ep,(s.heap.update a<|Obj.mapSeq λ_=>#[]).get? a=some (seqObj "list" #[] ep):=⟨_,get?_update_seq there _⟩
 have bare2:(((s.heap.update a<|Obj.mapSeq λ_=>#[]).push<|seqObj "tuple" ws.toArray 0).push<|seqObj "list" #[] 0).get? a=some (seqObj "list" #[] ep) :=
  a1E _ (a1E _ bare)
 have small:ws.toArray.size<2:=by omega
 have line:ws.length<=sizeLine:=a1N (a2M few)<|by decide
 rw[list_sort_plain]
 refine a1D (listItems_at there rfl
  (a1D (listUpdate_at there rfl
   (a1D (seqEpoch_at bare rfl
    (a1D (wpAny_newTuple
     (a1D (wpAny_newList
      (wpAny_holding ?_) (a2e _))) line)))) (by omega) (a2e _))))
 show wpAny (model prog w) A _ P E { s with heap:=((s.heap.update a<|Obj.mapSeq λ_=>#[]).push<|seqObj "tuple" ws.toArray 0).push (seqObj "list" #[] 0) }
 dsimp only
 rw[if_pos small]
 refine a1D<|a1Q ?_
 rw[if_pos small,StateT.run_pure]
 refine a1D<|a1Q ?_
 have same:Array.map (λx=>x.snd) (ws.toArray.zip ws.toArray)=ws.toArray:=by grind
 show wpAny (model prog w) A (do
  let __do_lift <- seqEpoch a
  Builtin.List.listUpdate (Value.ref a) λ_=>Array.map (λx=>x.snd)<|ws.toArray.zip ws.toArray
  if (__do_lift != ep)=true then _ else ret Value.none) P E _
 rw[same]
 refine a1D (seqEpoch_at bare2 rfl
  (a1D<|listUpdate_at bare2 rfl ?_ (a2e _) (by omega)))
 rw[bne_self_eq_false,if_neg a12]
 exact a1Q go
def ye(hl:s.heap.IsList l ws.toArray)(few:ws.length<2)
  (go:Q (.ref<|s.heap.objs.size+1) { s with heap:=sortedAll s.heap ws ws.toArray }):wpAny (model prog w) A (call (.builtin "sorted") [.ref l]) Q E s:=by
 have line:ws.length<=sizeLine:=a1N (a2M few)<|by decide
 refine Calls.call_function_entry kind_sorted plain_sorted entry_sorted (args_sorted1 _) ?_
 unfold Builtin.«sorted»
 refine a1D<|a1Q<|a1D<|collect_list hl (a1D<|wpAny_newList ?_ line) line
 have sz:((s.heap.push<|seqObj "list" #[] 0).update s.heap.objs.size<|Obj.mapSeq (· ++ ws.toArray)).objs.size=s.heap.objs.size+1:=by simp
 have at1:(((s.heap.push<|seqObj "list" #[] 0).update s.heap.objs.size<|Obj.mapSeq (· ++ ws.toArray)).push<|seqObj "list" ws.toArray 0).get? (s.heap.objs.size+1)=some (seqObj "list" ws.toArray 0):=by rw[<- sz];exact a1P _ rfl
 show wpAny _ _ _ _ _ { s with heap:=((s.heap.push<|seqObj "list" #[] 0).update s.heap.objs.size<|Obj.mapSeq (· ++ ws.toArray)).push (seqObj "list" ws.toArray 0) }
 rw[sz]
 exact a1D (wpAny_holding (wpAny_call_entry slot_list_sort ⟨_,at1,rfl⟩ entry_list_sort
  (GR at1 few ⟨_,rfl,a1Q ⟨_,rfl,go⟩⟩) (args_list_sort _)))
def js:∀ b o,h.get? b=some o->(sortedAll h ws out).get? b=some o:=λb o e=>by
 have hb:=a1L e;have sz:((h.push<|seqObj "list" #[] 0).update h.objs.size<|Obj.mapSeq (· ++ ws.toArray)).objs.size=h.objs.size+1:=by rw[Heap.size_update,size_push']
 have e1:(((h.push<|seqObj "list" #[] 0).update h.objs.size<|Obj.mapSeq (· ++ ws.toArray)).push<|seqObj "list" ws.toArray 0).get? b=some o :=
  a1E _ (by rw[a39 _ _ _ _<|a14 hb];exact a1E _ e)
 unfold sortedAll sortedHeap;have nb:b≠h.objs.size+1:=a14<|Nat.lt_succ_of_lt hb;rw[a39 _ _ _ _ nb];refine a1E _<|a1E _ ?_;rw[a39 _ _ _ _ nb];exact e1
def nJ:∃ n,(sortedAll h ws out).get? (h.objs.size+1)=some (seqObj "list" out n):=by
 have sz:((h.push<|seqObj "list" #[] 0).update h.objs.size<|Obj.mapSeq (· ++ ws.toArray)).objs.size=h.objs.size+1:=by simp
 have at1:(((h.push<|seqObj "list" #[] 0).update h.objs.size<|Obj.mapSeq (· ++ ws.toArray)).push<|seqObj "list" ws.toArray 0).get? (h.objs.size+1)=some (seqObj "list" ws.toArray 0):=by rw[<- sz];exact a1P _ rfl
 obtain⟨ep,bare⟩:∃ ep,((((h.push<|seqObj "list" #[] 0).update h.objs.size<|Obj.mapSeq (· ++ ws.toArray)).push<|seqObj "list" ws.toArray 0).update (h.objs.size+1)<|Obj.mapSeq λ_=>#[]).get? (h.objs.size+1)=some (seqObj "list" #[] ep):=⟨_,get?_update_seq at1 _⟩;exact⟨_,get?_update_seq (a1E _<|a1E _ bare) _⟩
def zj:p9 X (.builtin "sorted") (λxs H Q=>∃ l ys,xs=[.ref l]/\SqL X.K H l ys/\ys.length<2/\∀ p,H p=none->Q (.ref p) (upd H p<|.lst ys)):=by intro pins s σ H xs us Q I rv h;obtain⟨l,ys,rfl,hl,few,q⟩:=h;obtain⟨u,rfl,ru⟩:=j8.one rv;obtain rfl:u=Value.ref l:=ru;obtain⟨its,rl,⟨ol,nl,hl1,hl2,_,hl3⟩,hz⟩:=I.list hl;refine ye ⟨ol,hl1,hl2,nl,hl3⟩ (by rw[<- rl.length];exact few) ?_;obtain⟨n,hn⟩:=nJ;exact⟨.ref<|s.heap.objs.size+1,_,I.laid (t':=s.toks) (o:=.lst ys) js (a46 _) ⟨hz,its,n,rl,hn⟩,rfl,q _<|I.hok.fresh<|a46 _⟩
end L2
namespace DL
open PyProof.Rows hiding St
def XW:DRC:=λds M R=>∃ x xs,ds=[x]/\E4 M x=some xs/\((xs.length<2/\∀ p,M p=none->R (.ref p) (l9 M p<|.lst xs)) \/
 ∃ i j ra rb,xs=[.tup (.int i :: ra),.tup (.int j :: rb)]/\i≠j/\∀ p,M p=none->R (.ref p) (l9 M p<|.lst (if j<i then[.tup (.int j :: rb),.tup (.int i :: ra)]else[.tup (.int i :: ra),.tup (.int j :: rb)])))
def KW:U7 X (.builtin "sorted") XW:=p9.imp (p9.or zj zi) λxs H Q ⟨ds,M,R,hl,am,⟨x,ys,z,hi,h⟩,f⟩=>by
 subst z;obtain⟨v,rfl,hv⟩:=hl.one;obtain⟨a,us,rfl,sq,lx⟩:=A3 am hv hi;rcases h with⟨few,r⟩|⟨i,j,ra,rb,rfl,ne,r⟩
 ·refine .inl ⟨a,us,rfl,sq,by rw[lx.length];exact few,λp hp=>f _ _ (r p<|am.fresh hp) _ _ (KT.alloc hp) (am.new hp lx)<|.ref p⟩
 ·cases lx with
  | cons h1 t1 =>
  cases t1 with
  | cons h2 t2 =>
  cases t2;cases h1 with
  | tup s1 l1 =>
  cases h2 with
  | tup s2 l2 =>
  rename_i a1 x1 a2 x2;cases l1 with
  | cons g1 l1 =>
  cases l2 with
  | cons g2 l2 =>
  cases g1;cases g2;refine .inr ⟨a,a1,a2,i,j,_,_,rfl,sq,s1,s2,ne,λp hp=>?_⟩;have rr:=r p<|am.fresh hp;have t1:Has X.K H (.ref a1) (.tup (.int i :: ra)):=.tup s1<|.cons (.int i) l1;have t2:Has X.K H (.ref a2) (.tup (.int j :: rb)):=.tup s2<|.cons (.int j) l2;by_cases hji:j<i
  ·rw[if_pos hji]at rr ⊢;exact f _ _ rr _ _ (KT.alloc hp) (am.new hp<|.cons t2<|.cons t1 .nil)<|.ref p
  ·rw[if_neg hji]at rr ⊢;exact f _ _ rr _ _ (KT.alloc hp) (am.new hp<|.cons t1<|.cons t2 .nil)<|.ref p
def Er:bootBuiltins "sorted" = some (.builtin "sorted"):=by rfl
end DL
namespace GM
abbrev Zr:=Rat × Rat
def cb2(p q:Rat):Nat:=B8 (B8 1 p.den) q.den
def zu(p q:Rat):cb2 p q=a5E p.den q.den:=by simp[ky,Nat.lcm_comm,Nat.lcm_one_right,cb2]
def tQ(p q:Rat):0<cb2 p q:=by rw[zu];exact a4y p.den_pos q.den_pos
def YB(p q:Rat):p.den ∣ cb2 p q:=by simp[zu,a4H]
def YA(p q:Rat):q.den ∣ cb2 p q:=by simp[zu,a4o]
def wtF(p q:Rat):Int × Int:=(cB p<|cb2 p q,cB q<|cb2 p q)
def veW(a:Sd)(w:Int × Int):Int:=a.1*w.2 - a.2.1*w.1
def wVe(w:Int × Int)(b:Sd):Int:=w.1*b.2.1 - w.2*b.1
def jy(half:List Sd):List Sd:=half++half.map m9
def jF(xs:List Sd):List (Sd × Sd):=xs.zip<|xs.drop 1++xs.take 1
def fU(w:Int × Int)(f:Option (Sd × Sd))(ab:Sd × Sd):Option (Sd × Sd):=if 0<=veW ab.1 w/\0<wVe w ab.2 then some ab else f
def xH(half:List Sd)(w:Int × Int):Option (Sd × Sd):=(jF<|jy half).foldl (fU w) none
theorem xG:∀(l:List (Sd × Sd)) (f:Option (Sd × Sd)),(∀ ab,l.foldl (fU w) f=some ab->f=some ab\/(ab∈l/\0<=veW ab.1 w/\0<wVe w ab.2))/\((f≠none \/ ∃ ab∈l,0<=veW ab.1 w/\0<wVe w ab.2)->l.foldl (fU w) f≠none)
 | [],f=>⟨λab h=>.inl h,λh=>by
  rcases h with h|⟨ab,h,_⟩
  ·exact h
  ·cases h⟩
 | x :: l,f=>by
  obtain⟨i1,i2⟩:=xG (w:=w) l<|fU w f x;rw[a31];refine⟨λab h=>?_,λh=>i2 ?_⟩
  ·rcases i1 ab h with e|⟨m,c⟩
   ·unfold fU at e
    split at e
    ·rename_i c;cases e;exact .inr ⟨a1M,c⟩
    ·exact .inl e
   ·exact .inr ⟨a1O _ m,c⟩
  ·by_cases c:0<=veW x.1 w/\0<wVe w x.2
   ·left;unfold fU;rw[if_pos c];exact λz=>nomatch z
   ·rcases h with h|⟨ab,hm,hc⟩
    ·left;unfold fU;rw[if_neg c];exact h
    ·rcases a1Y.mp hm with rfl|hm
     ·exact absurd hc c
     ·exact .inr ⟨ab,hm,hc⟩
def Dj(l m:List Sd):(l.map m9).zip (m.map m9)=(l.zip m).map λab=>(m9 ab.1,m9 ab.2):=Z7 m9 l m
def CQ(h0:Sd)(l:List Sd):jF (jy (h0 :: l))=(h0 :: l).zip (l++[m9 h0])++((h0 :: l).zip<|l++[m9 h0]).map λab=>(m9 ab.1,m9 ab.2):=by
 unfold jF jy;have e1:(h0 :: l++(h0 :: l).map m9).drop 1++(h0 :: l++(h0 :: l).map m9).take 1=(l++[m9 h0])++(l++[m9 h0]).map m9:=by show(l++(m9 h0 :: l.map m9))++[h0]=_;rw[a11,a1Z,a2R,CC];simp
 rw[e1,List.zip_append<|by rw[a15,a1V];rfl,Dj]
def Rim.arnd{ss:List T3}{h0:T3}{l:List T3}(R:Rim ss h0 l)(w:T3)(hw:¬ (w.1=0/\w.2.1=0)) :
  ∃ ab∈Ke h0 l,(0<=ve ab.1 w/\0<ve w ab.2)\/(0<=ve (ng ab.1) w/\0<ve w (ng ab.2)):=by
 have e0:ve w (ng h0)=ve h0 w:=by unfold ve ng;grind
 have e1:ve (ng h0) w = -ve h0 w:=by unfold ve ng;grind
 by_cases c1:0<ve h0 w
 ·obtain⟨ab,hm,k1,k2⟩:=Gh h0 l (ng h0) (XN c1) (by grind)
  exact⟨ab,hm,.inl ⟨k1,k2⟩⟩
 by_cases c2:ve h0 w<0
 ·have e2:ve w h0 = -ve h0 w:=by unfold ve;grind
  obtain⟨ab,hm,k1,k2⟩:=Gh (w:=w) (ng h0) (l.map ng) h0 (by grind)<|by grind
  have em:ab∈((h0 :: l).map ng).zip ((l++[ng h0]).map ng):=by simp_all [a11,a1Z,a2R,XI]
  rw[Z7]at em
  obtain⟨cd,hcd,rfl⟩:=a17.mp em
  exact⟨cd,hcd,.inr ⟨k1,k2⟩⟩
 ·have c0:ve h0 w=0:=by grind
  cases l with
  | nil=>exact absurd rfl R.ne
  | cons x l =>
   have hm:(h0,x)∈Ke h0 (x :: l):=a1M
   obtain⟨q1,q2,q3,q4⟩:=R.all _ hm
   have q3:=q3
   by_cases k:0<ve w x
   ·exact⟨_,hm,.inl ⟨by rw[c0];exact Rat.le_refl,k⟩⟩
   ·refine⟨_,hm,.inr ⟨by rw[e1,c0];exact Rat.le_refl,?_⟩⟩
    show 0<ve w (ng x)
    have ex:ve w (ng x) = -ve w x:=by unfold ve ng;grind
    rw[ex]
    have hne:ve w x≠0:=λz=>hw<|by grind[ve]
    grind
def wT(w:Int × Int):T3:=((w.1:Rat),(w.2:Rat),0)
def MM(a:Sd)(w:Int × Int):ve (tri a) (wT w)=(veW a w:Rat):=by simp[a2E,a1W,ve,tri,wT,veW]
def ML(w:Int × Int)(b:Sd):ve (wT w) (tri b)=(wVe w b:Rat):=by simp[a2E,a1W,ve,tri,wT,wVe]
structure Arn(ls:List T3)(w:Int × Int)(a b:Sd):Prop where
 ma:a∈i4 ls
 mb:b∈i4 ls
 ve:0<veZ a b
 sup:Sup ((i4 ls).map tri) (ry (tri a) (tri b))
 ka:0<=veW a w
 kb:0<wVe w b
def nA(hok:∀ l∈ls,LineOk l)(e:C9 (i4 ls)=h0 :: x :: l)(hw:¬ (w.1=0/\w.2=0)):∃ a b,xH (h0 :: x :: l) w=some (a,b)/\Arn ls w a b:=by
 have sy:∀ s∈i4 ls,m9 s∈i4 ls:=yf (ls:=ls) (i:=0);have hne:ls≠[]:=λz=>by rw[z]at e;cases e
 obtain⟨g0,m,e',m0,h⟩:=bq hok hne;rw[e]at e';cases e';rcases h with⟨z,_⟩|⟨_,R,hE⟩
 ·cases z
 generalize x :: l=L at *
 have ed:Ke (tri h0) (L.map tri)=((h0 :: L).zip<|L++[m9 h0]).map λab=>(tri ab.1,tri ab.2):=by unfold Ke;rw[<- Z7,a1Z,a11,a1Z,a2R,Q8]
 have hw':¬ ((wT w).1=0/\(wT w).2.1=0):=λ⟨z1,z2⟩=>hw ⟨by have z1:(w.1:Rat)=0:=z1;exact_mod_cast z1,by have z2:(w.2:Rat)=0:=z2;exact_mod_cast z2⟩;obtain⟨i1,i2⟩:=xG (w:=w) (jF<|jy (h0 :: L)) none;have ex:∃ ab∈jF (jy (h0 :: L)),0<=veW ab.1 w/\0<wVe w ab.2:=by
  obtain⟨ab,hm,hc⟩:=R.arnd (wT w) hw';rw[ed]at hm;obtain⟨cd,hcd,rfl⟩:=a17.mp hm;rw[CQ];rcases hc with⟨k1,k2⟩|⟨k1,k2⟩
  ·refine⟨cd,a2V _ hcd,?_,?_⟩
   ·have k1:0<=ve (tri cd.1) (wT w):=k1;rw[MM]at k1;exact CT.mp k1
   ·have k2:0<ve (wT w) (tri cd.2):=k2;rw[ML]at k2;exact P8.mp k2
  ·refine⟨(m9 cd.1,m9 cd.2),a2b _<|a17.mpr ⟨cd,hcd,rfl⟩,?_,?_⟩
   ·have k1:0<=ve (ng<|tri cd.1) (wT w):=k1;rw[<- Q8,MM]at k1;exact CT.mp k1
   ·have k2:0<ve (wT w) (ng<|tri cd.2):=k2;rw[<- Q8,ML]at k2;exact P8.mp k2
 obtain⟨⟨a,b⟩,eab⟩:=Option.ne_none_iff_exists'.mp<|i2<|.inr ex;refine⟨a,b,eab,?_⟩;rcases i1 _ eab with z|⟨hm,k1,k2⟩
 ·cases z
 rw[CQ]at hm;have supE:∀ ab∈(h0 :: L).zip (L++[m9 h0]),Sup ((i4 ls).map tri) (ry (tri ab.1)<|tri ab.2):=λab h=>by
  have hm:(tri ab.1,tri ab.2)∈Ke (tri h0) (L.map tri):=by rw[ed];exact a17.mpr ⟨ab,h,rfl⟩
  exact(R.all _ hm).2.2.2
 clear i1 i2 eab ex;rcases a10.mp hm with hm|hm
 ·have q:=hE (a,b) hm;have sq:=supE (a,b) hm;exact⟨q.1,q.2.1,q.2.2,sq,k1,k2⟩
 ·obtain⟨cd,hcd,ec⟩:=a17.mp hm
  obtain⟨q1,q2,q3⟩:=hE _ hcd;have ea:a=m9 cd.1:=(congrArg Prod.fst ec).symm;have eb:b=m9 cd.2:=(congrArg Prod.snd ec).symm;subst ea eb;refine⟨sy _ q1,sy _ q2,?_,?_,k1,k2⟩
  ·have:veZ (m9 cd.1) (m9 cd.2)=veZ cd.1 cd.2:=by unfold veZ m9;grind
   rw[this];exact q3
  ·rw[Q8,Q8,Xp];exact GC R.sy<|supE _ hcd
inductive ij
 | free (z:Zr)
 | most (v:Rat) (z:Zr) (sh:List (Int × Rat))
def shD(s:Int × Rat):D:=.tup [.int s.1,d6 s.2]
def ij.toD:ij->D
 | .free z=>.tup [.str "free",rD z]
 | .most v z sh=>.tup [.str "most",d6 v,rD z,.vl<|sh.map shD]
def GH:List (Int × Rat)->List (Int × Rat)
 | [x,y]=>if y.1<x.1 then[y,x]else[x,y]
 | l=>l
def shF(a b:Sd)(w:Int × Int)(c:Nat):List (Int × Rat):=GH<|[(a.2.2.2.1,a2r (wVe w b*a.2.2.2.2)<|c*veZ a b),(b.2.2.2.1,a2r (veW a w*b.2.2.2.2)<|c*veZ a b)].filter λs=>decide (s.2≠0)
def vlF(a b:Sd)(w:Int × Int)(c:Nat):Rat:=a2r (wVe w b*a.2.2.1+veW a w*b.2.2.1)<|c*veZ a b
def jo(half:List Sd)(p q:Rat):ij:=match xH half (wtF p q)with
 | none=>.free (0,0)
 | some (a,b)=>.most (vlF a b (wtF p q)<|cb2 p q) (ry (tri a)<|tri b)<|shF a b (wtF p q)<|cb2 p q
def sqZ(p q:Rat):Rat:=p*p+q*q
def J1(l:T3)(n:Int)(p q:Rat):ij :=
 if l.1*q - p*l.2.1<0 then .free (l.2.1,-l.1)else if 0<l.1*q - p*l.2.1 then .free (-l.2.1,l.1)else
 .most (k9 (if l.1=0 then q / l.2.1 else p / l.1)*l.2.2) (p*(k9 (if l.1=0 then q / l.2.1 else p / l.1)*l.2.2 / sqZ p q),q*(k9 (if l.1=0 then q / l.2.1 else p / l.1)*l.2.2 / sqZ p q)) [(n,if l.1=0 then q / l.2.1 else p / l.1)]
def Y7(ls:List T3)(p q:Rat):ij:=if p=0/\q=0 then .most 0 (0,0) []else match C9 (i4 ls)with
 | []=>.free (p,q)
 | [h]=>J1 (ls.getD h.2.2.2.1.toNat (0,0,0)) h.2.2.2.1 p q
 | half=>jo half p q
theorem jM:∀{ls:List T3} {i:Nat},s∈Z3 i ls->∃ j l,ls[j]? = some l/\(s=v7 l (i+j)\/s=m9 (v7 l<|i+j))
 | [],_,h=>by cases h
 | a :: r,i,h=>by
  have h:=h;rcases a1Y.mp h with rfl|h
  ·exact⟨0,a,rfl,.inl rfl⟩
  ·rcases a1Y.mp h with rfl|h
   ·exact⟨0,a,rfl,.inr rfl⟩
   ·obtain⟨j,l,e,q⟩:=jM h;exact⟨j+1,l,e,by rw[show i+(j+1)=i+1+j by omega];exact q⟩
def Oq(ha:a∈i4 ls)(hb:b∈i4 ls)(hv:veZ a b≠0):a.2.2.2.1≠b.2.2.2.1:=λe=>by
 obtain⟨i,l,e1,h1⟩:=jM (i:=0) ha;obtain⟨j,m,e2,h2⟩:=jM (i:=0) hb;have n1:a.2.2.2.1=((0+i:Nat):Int):=by rcases h1 with h|h<;>rw[h]<;>rfl
 have n2:b.2.2.2.1=((0+j:Nat):Int):=by rcases h2 with h|h<;>rw[h]<;>rfl
 obtain rfl:i=j:=by omega
 rw[e1]at e2;cases e2;refine hv ?_;rcases h1 with h|h<;>rcases h2 with h'|h'<;>(rw[h,h'];unfold veZ;first|(unfold m9;grind)|grind)
def AV(p q:Rat):((wtF p q).1:Rat)=p*(cb2 p q:Rat)/\((wtF p q).2:Rat)=q*(cb2 p q:Rat):=⟨qG<|YB p q,qG<|YA p q⟩
def FZ(h:¬ (p=0/\q=0)):¬ ((wtF p q).1=0/\(wtF p q).2=0):=λ⟨z1,z2⟩=>by
 obtain⟨e1,e2⟩:=AV p q;have c:(0:Rat)<(cb2 p q:Rat):=by exact_mod_cast tQ p q
 rw[z1]at e1;rw[z2]at e2;grind
def Pw{ls:List T3}{p q:Rat}{a b:Sd}(A:Arn ls (wtF p q) a b) :
  vlF a b (wtF p q) (cb2 p q)=p*(ry (tri a)<|tri b).1+q*(ry (tri a)<|tri b).2/\∀ z,Sup ((i4 ls).map tri) z->p*z.1+q*z.2<=p*(ry (tri a)<|tri b).1+q*(ry (tri a)<|tri b).2:=by
 obtain⟨e1,e2⟩:=AV p q
 have c:(0:Rat)<(cb2 p q:Rat):=by exact_mod_cast tQ p q
 have V:(0:Rat)<ve (tri a) (tri b):=by rw[G4];exact P8.mpr A.ve
 have ka:(0:Rat)<=ve (tri a) (wT<|wtF p q):=by rw[MM];exact CT.mpr A.ka
 have kb:(0:Rat)<ve (wT<|wtF p q) (tri b):=by rw[ML];exact P8.mpr A.kb
 have dw:∀ z:Zr,dt (wT<|wtF p q) z=(p*z.1+q*z.2)*(cb2 p q:Rat):=λz=>by unfold dt wT;show((wtF p q).1:Rat)*z.1+((wtF p q).2:Rat)*z.2=_;rw[e1,e2];grind
 have bt:=kJ (w:=wT<|wtF p q) V<|ry (tri a)<|tri b
 rw[Xr<|cF V,Td<|cF V,dw]at bt
 constructor
 ·unfold vlF
  rw[P7,a3c,a1W,a1W,a1W,a19,<- G4,<- ML,<- MM]
  have r1:(tri a).2.2=(a.2.2.1:Rat):=rfl
  have r2:(tri b).2.2=(b.2.2.1:Rat):=rfl
  rw[<- r1,<- r2,<- bt]
  have hz:∀ v k m:Rat,0<v->0<k->v*(m*k) / (k*v)=m:=λv k m h1 h2=>by
   have:v*(m*k)=m*(k*v):=by grind
   rw[this,a5f<|cF<|a3h h2 h1]
  exact hz _ _ _ V c
 ·intro z hz
  have b2:=kJ (w:=wT<|wtF p q) V z
  rw[dw]at b2
  have s1:=hz (tri a)<|a17.mpr ⟨a,A.ma,rfl⟩
  have s2:=hz (tri b)<|a17.mpr ⟨b,A.mb,rfl⟩
  have p1:0<=ve (wT<|wtF p q) (tri b)*((tri a).2.2 - dt (tri a) z):=a2o (XN kb)<|by grind
  have p2:0<=ve (tri a) (wT<|wtF p q)*((tri b).2.2 - dt (tri b) z):=a2o ka<|by grind
  have p3:0<=ve (tri a) (tri b)*(((p*(ry (tri a)<|tri b).1+q*(ry (tri a)<|tri b).2) - (p*z.1+q*z.2))*(cb2 p q:Rat)):=by grind
  have p4:=my V p3
  have p5:=my c (x:=(p*(ry (tri a)<|tri b).1+q*(ry (tri a)<|tri b).2) - (p*z.1+q*z.2))<|by grind
  grind
def yd(h:¬ (p=0/\q=0)):0<sqZ p q:=by
 have s:∀ x:Rat,0<=x*x:=λx=>by
  rcases tot 0 x with h|h
  ·exact a2o h h
  ·have:=a2o (show 0 <= -x by grind) (show 0 <= -x by grind);grind
 have s1:=s p;have s2:=s q;unfold sqZ;by_cases c:p=0
 ·by_cases d:q=0
  ·exact absurd ⟨c,d⟩ h
  ·have:q*q≠0:=λz=>d (by grind);grind
 ·have:p*p≠0:=λz=>c (by grind);grind
def vq(hm:h∈i4 ls):∃(l:T3) (j:Nat),ls[j]? = some l/\h.2.2.2.1=(j:Int)/\(h=v7 l j\/h=m9 (v7 l j)):=by obtain⟨j,l,e,q⟩:=jM hm;rw[a4V]at q;exact⟨l,j,e,by rcases q with q|q<;>rw[q]<;>rfl,q⟩
structure L28(l:T3):Prop extends LnOk l where
 p6:sz l.1<=548
 q6:sz l.2.1<=548
 r6:sz l.2.2<=262
 b6:LA 800 (v7 l 0)
def Pp(h1:sz l.1<=m)(h2:sz l.2.1<=m)(h3:sz l.2.2<=m):LA (3*m) (v7 l 0):=by
 have e:cbL l<=l.1.den*l.2.1.den*l.2.2.den:=by have a:=J2 (B8 (B8 1 l.1.den) l.2.1.den) l.2.2.den;have b:=J2 (B8 1 l.1.den) l.2.1.den;have c:=J2 1 l.1.den;rw[a5c]at c;exact a1N a<|a2W _<|a1N b<|a2W _ c
 have d1:=l5 _ h1;have d2:=l5 _ h2;have d3:=l5 _ h3;have key:∀{q:Rat} {u v:Nat},sz q<=m->l.1.den*l.2.1.den*l.2.2.den=q.den*(u*v)->u<2 ^ m->v<2 ^ m->(cB q<|cbL l).natAbs<2 ^ (3*m):=λ{q u v} hq eq hu hv=>by
  unfold cB;have hd:cbL l / q.den<=u*v:=by rw[eq]at e;exact a3X e
  rw[a2j,a1G,show 3*m=m+(m+m)by omega,a2Y,a2Y];refine a23 (u4 q hq) (a1N hd<|a2M<|a26 hu hv)<|a4x (a4w<|by decide)<|a4w<|by decide
 exact⟨key h1 (a5g _ _ _) d2 d3,key h2 (by rw[a3p l.1.den,a5g]) d1 d3,key h3 (a3p _ _) d1 d2⟩
def Ld(h:LA n (v7 l 0))(hn:n<=1200):SzS (v7 l 0):=⟨D2 h.1 hn,D2 h.2.1 hn,D2 h.2.2 hn⟩
def L28.mk3(ok:LineOk l)(h1:sz l.1<=262)(h2:sz l.2.1<=262)(h3:sz l.2.2<=262):L28 l:=by have b:=Pp h1 h2 h3;have b6:LA 800 (v7 l 0):=⟨D2 b.1<|by decide,D2 b.2.1<|by decide,D2 b.2.2<|by decide⟩;exact{ ne:=ok.ne,pos:=ok.pos,p:=by omega,q:=by omega,r:=by omega,s:=Ld b6<|by decide,p6:=by omega,q6:=by omega,r6:=by omega,b6:=b6 }
def Z6(ls:List T3):Prop:=ls.length<=12/\∀ l∈ls,L28 l
def Z6.ok(h:Z6 ls):Lp ls:=⟨h.1,λl hl=>(h.2 l hl).toLnOk⟩
def Z6.lo(h:Z6 ls):∀ l∈ls,LineOk l:=λl hl=>(h.2 l hl).toLnOk.toLineOk
def Z6.bits(h:Z6 ls):∀ s∈i4 ls,LA 800 s:=λs hs=>by
 obtain⟨l,hl,j,e⟩:=dh hs;obtain⟨a,b,c⟩:=(h.2 l hl).b6;rcases e with rfl|rfl
 ·exact⟨a,b,c⟩
 ·exact⟨by show(-(v7 l j).1).natAbs<_;rw[a2u];exact a,by show(-(v7 l j).2.1).natAbs<_;rw[a2u];exact b,c⟩
theorem Z6.szs(h:Z6 ls):∀ s∈i4 ls,SzS s:=λs hs=>by obtain⟨a,b,c⟩:=h.bits s hs;exact⟨D2 a<|by decide,D2 b<|by decide,D2 c<|by decide⟩
def ZH(h:L28 l):cbL l<2 ^ 1400:=by
 have e:cbL l<=l.1.den*l.2.1.den*l.2.2.den:=by have a:=J2 (B8 (B8 1 l.1.den) l.2.1.den) l.2.2.den;have b:=J2 (B8 1 l.1.den) l.2.1.den;have c:=J2 1 l.1.den;rw[a5c]at c;exact a1N a<|a2W _<|a1N b<|a2W _ c
 have d1:=l5 _ h.p6;have d2:=l5 _ h.q6;have d3:=l5 _ h.r6;refine a1R e ?_;refine a1F (a26 (a26 d1 d2) d3) ?_;omega
def Z6.scale(h:Z6 ls):∀ s∈i4 ls,s.2.2.2.2.natAbs<2 ^ 1400:=λs hs=>by
 obtain⟨l,hl,j,e⟩:=dh hs;have:=ZH<|h.2 l hl;rcases e with rfl|rfl
 ·assumption
 ·show(-((cbL l:Nat):Int)).natAbs<_;rw[a2u,a1G];exact this
def Wz(x y:Int):Prop:=x.natAbs<2 ^ 2200/\y.natAbs<2 ^ 2200
def KR(p q:Rat):cb2 p q<=p.den*q.den:=by have b:=J2 (B8 1 p.den) q.den;have c:=J2 1 p.den;rw[a5c]at c;exact a1N b<|a2W _ c
def KQ(h1:sz p<=1100)(h2:sz q<=1100):cb2 p q<2 ^ 2200:=by refine a1R (KR p q) ?_;rw[show 2200=1100+1100 from rfl,a2Y];exact a26 (l5 _ h1)<|l5 _ h2
def YQ(h1:sz p<=1100)(h2:sz q<=1100):Wz (wtF p q).1 (wtF p q).2:=by
 have e:=KR p q;have d1:=l5 _ h1;have d2:=l5 _ h2;refine⟨?_,?_⟩
 ·show(cB p<|cb2 p q).natAbs<_;unfold cB;rw[a2j,a1G,show 2200=1100+1100 from rfl,a2Y];exact a23 (u4 p h1) (a1N (a3X e)<|a2M d2)<|a4w<|by decide
 ·show(cB q<|cb2 p q).natAbs<_;unfold cB;rw[a2j,a1G,show 2200=1100+1100 from rfl,a2Y];exact a23 (u4 q h2) (a1N (a3X<|by rw[a3p];exact e)<|a2M d1)<|a4w<|by decide
def NU:Option (Sd × Sd)->D
 | none=>.non
 | some ab=>.tup [sdD ab.1,sdD ab.2]
local macro_rules|`(tactic| rw[11])=>`(tactic| (rename_i e h;simp only[List.cons.injEq,GM.dm,GM.di,and_true,true_and,GM.f8,GM.e7,GM.d7,GM.e8,GM.d8,D.tup.injEq,D.ref.injEq,D.int.injEq,D.str.injEq,D.bl.injEq,D.vl.injEq,a1J,and_assoc]at e;(repeat(obtain⟨e1,e⟩:=e;subst e1));subst e;exact h))
example jO QX zZ(p q y u:Rat):[d6 p,d6 q,o7 y u]:=(sz p+sz q+sz y+sz u<=8000)/\R (d6<|p*y+q*u) M
example dZ Hm uk(a:Sd)(x y:Int):[sdD a,.vl [.int x,.int y]]:=(SzS a/\Wz x y)/\R (.int<|veW a (x,y)) M
example dY Hk uj(x y:Int)(b:Sd):[.vl [.int x,.int y],sdD b]:=(SzS b/\Wz x y)/\R (.int<|wVe (x,y) b) M
example rO Xl EU(p q:Rat):[o7 p q]:=(sz p<=1100/\sz q<=1100)/\R (.int ((cb2 p q:Nat):Int)) M
example eo Ho uo(p q:Rat)(c:Int):[o7 p q,.int c]:=((sz p<=1100/\sz q<=1100)/\c=((cb2 p q:Nat):Int))/\R (.vl [.int (wtF p q).1,.int (wtF p q).2]) M
example rQ Xn EW(half:List Sd)(x y:Int):[.vl<|half.map sdD,.vl [.int x,.int y]]:=(half.length<=30/\(∀ s∈half,SzS s)/\Wz x y)/\R (NU<|xH half (x,y)) M
example jX Rj Ai(half:List Sd)(p q:Rat):[.vl<|half.map sdD,d6 p,d6 q]:=((half.length<=30/\(∀ s∈half,SzS s))/\(sz p<=1100/\sz q<=1100)/\∃ a b,xH half (wtF p q)=some (a,b)/\(SzS a/\SzS b)/\0<veZ a b/\a.2.2.2.1≠b.2.2.2.1/\(a.2.2.2.2.natAbs<2 ^ 1400/\b.2.2.2.2.natAbs<2 ^ 1400))/\R (jo half p q).toD M
abbrev rJ(ls:List T3)(n:Int)(p q:Rat)(M:Mem)(R:DK)(Y:DXK):Prop:=(∃(l:T3) (j:Nat),n=(j:Int)/\ls[j]? = some l/\L28 l/\¬ (p=0/\q=0)/\(sz p<=1100/\sz q<=1100)/\R (J1 l n p q).toD M)
def Ri:DSp:=λds M R Y=>∃(ls:List T3) (n:Int) (p q:Rat),ds=[.vl<|ls.map j4,.int n,d6 p,d6 q]/\rJ ls n p q M R Y
example jY Rk Aj(ls:List T3)(p q:Rat):[.vl<|ls.map j4,d6 p,d6 q]:=(Z6 ls/\sz p<=1100/\sz q<=1100)/\R (Y7 ls p q).toD M
example eQ HF uG(y u k:Rat):[o7 y u,d6 k]:=(sz y+sz k<=8900/\sz u+sz k<=8900)/\R (o7 (y*k)<|u*k) M
example bj BM pL(y u z w:Rat):[o7 y u,o7 z w]:=(sz y+sz w+sz z+sz u<=8000)/\R (d6<|y*w - z*u) M
inductive xO
 | needed (z:Zr)
 | idle (sh:List (Int × Rat))
def xO.toD:xO->D
 | .needed z=>.tup [.str "needed",rD z]
 | .idle sh=>.tup [.str "idle",.vl<|sh.map shD]
def yv(ls:List T3)(k:Nat):List T3:=ls.take k++ls.drop (k+1)
def grZ(z:Zr)(k:Rat):Zr:=(z.1*k,z.2*k)
def xj(ls:List T3)(k:Nat)(l:T3):xO:=match Y7 (yv ls k) l.1 l.2.1 with
 | .free z=>.needed<|grZ z<|(l.2.2+l.2.2) / (l.1*z.1+l.2.1*z.2)
 | .most v z sh=>if l.2.2<v then .needed z else .idle (sh.map λs=>(if s.1<(k:Int)then s.1 else s.1+1,s.2))
example rG Xf EM(ls:List T3)(k:Nat):[.vl<|ls.map j4,.int (k:Int)]:=ls.length<=12/\R (.vl<|(yv ls k).map j4) M
example ki Rp Ao(ls:List T3)(k:Nat):[.vl<|ls.map j4,.int (k:Int)]:=(Z6 ls/\∃ l,ls[k]? = some l/\R (xj ls k l).toD M)
example aS Bx pw(p q y u:Rat):[d6 p,d6 q,o7 y u]:=(sz p+sz q+sz y+sz u<=20000)/\R (.tup [.int<|SM p q y u,.int<|zF p q y u]) M
def Vp(p q y u:Rat):zF p q y u≠0:=by grind[a20,RM.K8,zF]
def MS(p q y u:Rat):a2r (SM p q y u) (zF p q y u)=p*y+q*u:=by
 have e:∀ r:Rat,r=(r.num:Rat) / (r.den:Rat):=λr=>by have:=A5 r;have h0:(r.den:Rat)≠0:=λz=>a2f r.den_pos (by exact_mod_cast z);grind
 have h1:(p.den:Rat)≠0:=λz=>a2f p.den_pos (by exact_mod_cast z);have h2:(q.den:Rat)≠0:=λz=>a2f q.den_pos (by exact_mod_cast z);have h3:(y.den:Rat)≠0:=λz=>a2f y.den_pos (by exact_mod_cast z);have h4:(u.den:Rat)≠0:=λz=>a2f u.den_pos (by exact_mod_cast z);have e1:=A5 p;have e2:=A5 q;have e3:=A5 y;have e4:=A5 u;rw[P7];unfold SM zF;simp only[a3c,a1W,a19];rw[<- e1,<- e2,<- e3,<- e4];generalize (p.den:Rat)=a at *
 generalize (q.den:Rat)=b at *
 generalize (y.den:Rat)=c at *
 generalize (u.den:Rat)=d at *
 have hd:a*c*b*d≠0:=λz=>by grind
 have:p*a*(y*c)*b*d+q*b*(u*d)*a*c=(p*y+q*u)*(a*c*b*d):=by grind
 rw[this,a5f hd]
def LJ(h:i<l.length):((h0 :: l)[i]'(by rw[a15];omega),l[i])∈(h0 :: l).zip (l++[m9 h0]):=by
 have hz:i<((h0 :: l).zip<|l++[m9 h0]).length:=by rw[a4W,a15,a1V];show i<min _ (l.length+1);omega
 have e:((h0 :: l).zip<|l++[m9 h0])[i]=((h0 :: l)[i]'(by rw[a15];omega),l[i]):=by rw[List.getElem_zip,List.getElem_append_left h]
 rw[<- e];exact a3Q _
def OO(hok:∀ l∈ls,LineOk l):∀ s∈C9 (i4 ls),s∈i4 ls:=by
 by_cases hne:ls=[]
 ·subst hne;intro s hs;cases hs
 obtain⟨h0,l,e,m0,h⟩:=bq hok hne;rw[e];intro s hs;rcases a1Y.mp hs with rfl|hs
 ·exact m0
 ·rcases h with⟨rfl,_⟩|⟨_,_,hE⟩
  ·cases hs
  ·obtain⟨i,hi,rfl⟩:=List.mem_iff_getElem.mp hs;have:=hE _<|LJ hi;exact this.2.1
def IS{q:Rat}:0<q.num↔0<q:=by have h1:=iY (-q);grind[a48]
theorem uc k:∀(ls:List T3) n,k<n->((ls.zipIdx n).filter λx=>decide (x.2≠k)).map (·.1)=ls
 | [],_,_=>rfl
 | a :: r,n,h=>by rw[a3v,a2m<|by simp;omega,a1Z,uc k r (n+1)<|by omega]
theorem zS:∀(ls:List T3) (n k:Nat),((ls.zipIdx n).filter λx=>decide (x.2≠n+k)).map (·.1)=ls.take k++ls.drop (k+1)
 | [],_,_=>by simp
 | a :: r,n,0=>by rw[a3v,a2X<|by simp,a5t,uc n r (n+1)<|by omega];simp
 | a :: r,n,k+1=>by rw[a3v,a2m<|by simp,a1Z];have:=zS r (n+1) k;rw[show n+1+k=n+(k+1)by omega]at this;rw[this];simp
def Pb(ls:List T3):L8 (ls.map j4)=ls.zipIdx.map λx=>.tup [.int (x.2:Int),j4 x.1]:=by unfold L8;rw[List.mapIdx_eq_zipIdx_map,List.zipIdx_map,a2k];rfl
def Nt(half:List Sd):half.map sdD++(half.map m9).map sdD=(jy half).map sdD:=by unfold jy;rw[a11]
def Xq(h:Z6 ls)(ha:a∈i4 ls)(hb:b∈i4 ls)(hv:veZ a b≠0):sz (ry (tri a)<|tri b).1<=1601/\sz (ry (tri a)<|tri b).2<=1601:=Xo (h.bits a ha) (h.bits b hb) hv
def Ov(h:Z6 ls)(hp:sz p<=N)(hq:sz q<=N)(hN:600<=N)(hN2:N<=1100) :
  (∀ z,Y7 ls p q = .free z->sz z.1<=N/\sz z.2<=N)/\∀ v z sh,Y7 ls p q = .most v z sh->sz v<=5410/\(N<=600->sz z.1<=5000/\sz z.2<=5000):=by
 have s1:=RM.GB
 have s0:=RM.U8
 unfold Y7
 by_cases c:p=0/\q=0
 ·rw[if_pos c]
  refine⟨λz hz=>(by cases hz),λv z sh hz=>?_⟩
  cases hz
  exact⟨by omega,λ_=>⟨by show sz 0<=_;omega,by show sz 0<=_;omega⟩⟩
 rw[if_neg c]
 by_cases hne:ls=[]
 ·subst hne
  refine⟨λz hz=>?_,λv z sh hz=>by cases hz⟩
  cases hz
  exact⟨hp,hq⟩
 obtain⟨h0,l,e,m0,hh⟩:=bq h.lo hne
 rw[e]
 cases l with
 | nil =>
  obtain⟨m,j,em,en,eq⟩:=vq m0
  have hm:=h.2 m<|a1K em
  have z1:=hm.p6
  have z2:=hm.q6
  have z3:=hm.r6
  have mn:=hm.ne
  have e2:∀ o,(match [h0]with|[]=>ij.free (p,q)|[h]=>J1 (ls.getD h.2.2.2.1.toNat (0,0,0)) h.2.2.2.1 p q|half=>jo half p q)=o↔J1 m j p q=o:=λo=>by show J1 (ls.getD h0.2.2.2.1.toNat (0,0,0)) h0.2.2.2.1 p q=o↔_;rw[en,a2z,a2a,em];rfl
  refine⟨λz hz=>?_,λv z sh hz=>?_⟩
  ·have hz:=(e2 _).mp hz
   unfold J1 at hz
   split at hz
   ·cases hz
    exact⟨by show sz m.2.1<=_;omega,by rw[RM.Q1];omega⟩
   ·split at hz
    ·cases hz
     exact⟨by rw[RM.Q1];omega,by show sz m.1<=_;omega⟩
    ·cases hz
  ·have hz:=(e2 _).mp hz
   unfold J1 at hz
   split at hz
   ·cases hz
   ·split at hz
    ·cases hz
    ·have sh:sz (if m.1=0 then q / m.2.1 else p / m.1)<=N+600:=by
      split
      ·rename_i w;have:=RM.Q3 q m.2.1 λw2=>mn ⟨w,w2⟩;omega
      ·rename_i w;have:=RM.Q3 p m.1 w;omega
     generalize (if m.1=0 then q / m.2.1 else p / m.1)=s at *
     cases hz
     have a1:=Q6 s
     have a2:=RM.A0 (k9 s) m.2.2
     have sq:=yd c
     have a3:=RM.A0 p p
     have a4:=RM.A0 q q
     have a5:sz (sqZ p q)<=sz (p*p)+sz (q*q)+1:=RM.ae (p*p)<|q*q
     have a6:=RM.Q3 (k9 s*m.2.2) (sqZ p q)<|cF sq
     have a7:=RM.A0 p<|k9 s*m.2.2 / sqZ p q
     have a8:=RM.A0 q<|k9 s*m.2.2 / sqZ p q
     exact⟨by omega,λhN=>⟨by show sz (p*_)<=_;omega,by show sz (q*_)<=_;omega⟩⟩
 | cons x l =>
  obtain⟨a,b,ea,A⟩:=nA h.lo e<|FZ c
  obtain⟨v1,_⟩:=Pw A
  obtain⟨r1,r2⟩:=Xq h A.ma A.mb<|by have:=A.ve;omega
  have e2:∀ o,(match h0 :: x :: l with|[]=>ij.free (p,q)|[h]=>J1 (ls.getD h.2.2.2.1.toNat (0,0,0)) h.2.2.2.1 p q|half=>jo half p q)=o↔ij.most (vlF a b (wtF p q)<|cb2 p q) (ry (tri a)<|tri b) (shF a b (wtF p q)<|cb2 p q)=o:=λo=>by show(match xH (h0 :: x :: l) (wtF p q)with|none=>ij.free (0,0)|some (a,b)=>.most (vlF a b (wtF p q)<|cb2 p q) (ry (tri a)<|tri b)<|shF a b (wtF p q)<|cb2 p q)=o↔_;rw[ea]
  refine⟨λz hz=>(by have hz:=(e2 _).mp hz;cases hz),λv z sh hz=>?_⟩
  have hz:=(e2 _).mp hz
  cases hz
  rw[v1]
  have m1:=RM.A0 p (ry (tri a)<|tri b).1
  have m2:=RM.A0 q (ry (tri a)<|tri b).2
  have m3:=RM.ae (p*(ry (tri a)<|tri b).1)<|q*(ry (tri a)<|tri b).2
  exact⟨by omega,λ_=>⟨by omega,by omega⟩⟩
def Z6.oth(h:Z6 ls)(k:Nat):Z6 (yv ls k):=by
 refine⟨?_,λl hl=>?_⟩
 ·unfold yv;rw[a1V,a2q,a2F];have:=h.1;omega
 ·rcases a10.mp hl with hl|hl
  ·exact h.2 l<|a2L hl
  ·exact h.2 l<|a3Y hl
def GG(l:List (Int × Rat)):(GH l).length=l.length:=by
 unfold GH;split
 ·split<;>rfl
 ·rfl
def Ow(e:Y7 ls p q = .most v z sh):sh.length<=2:=by
 unfold Y7 at e;split at e
 ·cases e;exact a2e _
 ·split at e
  ·cases e
  ·unfold J1 at e
   split at e
   ·cases e
   ·split at e
    ·cases e
    ·cases e;show 1<=2;decide
  ·unfold jo at e
   split at e
   ·cases e
   ·cases e;unfold shF;rw[GG];exact a1N (a2w _ _)<|by show 2<=2;decide
end GM
namespace L2
open PySem PySem.Spec PySem.W PyProof.Rows
def nF(a C:Addr)(h:Heap):Prop:=∃ o,h.get? a=some o/\o.cls = .ref C
section
variable {prog:Program} {w:World} {A:Around} {E:Value->Shared->Prop} {s:Shared} {K:Frag} {a C:Addr}
def nF.type(I:nF a C h):Looks M h (typeOf<|.ref a) (.ref C):=by obtain⟨o,h1,h2⟩:=I;exact h2▸(Looks.ld h1).andThen .now
def JU(X:K.In h)(ha:findIn K (.ref C) "__class__" = some (some<|.builtin "object.__class__"))(hn:specialIn K (.builtin "object.__class__") "__get__" = some (some<|.builtin "getset_descriptor.__get__"))(ht:takesIn K (.builtin "object.__class__")=some true) :
  Looks M h (Builtin.ObjectAttr.find (.ref a) (.ref C) "__class__") (.bind (.builtin "getset_descriptor.__get__")<|.builtin "object.__class__"):=by
 have L3:=looks_takesIn (M:=M) X ht
 exact(looks_findIn X ha).andThen ((looks_specialIn X hn).andThen<|(show Looks M h (Builtin.ObjectAttr.dataDescriptor? (some<|.builtin "object.__class__")<|some<|.builtin "getset_descriptor.__get__") (some (.builtin "getset_descriptor.__get__",.builtin "object.__class__"))from L3.andThen .now).andThen<|Looks.tag .now)
def OS(X:K.In s.heap)(I:nF a C s.heap)(hm:mroIn K C (.type "object")=some true)
  (h:R (.ok<|.ret<|.ref C) s):codeAny (model prog w) A (.call (.builtin "getset_descriptor.__get__") ⟨[.builtin "object.__class__",.ref a,tp],[]⟩) R s:=by
 obtain⟨hh,g,dr,t,os⟩:=s
 have L0:=I.type (M:=model prog w)
 have L1:Looks (model prog w) hh (isSubtype (.ref C)<|.type<|".".intercalate ("object.__class__".cutAt '.').dropLast) true:=by
  have e0 : "object.__class__".cutAt '.'=["object","__class__"]:=by rfl
  exact looks_mroIn X hm
 refine codeAny_call_builtin F.slot_gs_get.plain F.entry_gs_get<|F.slot_gs_get.check _ _ _ _ _ _ _ _ F.typeOf_object_class (F.args_gs_get _ _ _) ?_
 repeat(any_goals (first|assumption|with_reducible refine L0.at ?_|with_reducible refine L1.at ?_|wp_step))
 refine⟨Code.quiet_builtin _<|by rw[0],codeAny_builtin F.entry_object_class ?_⟩
 repeat(any_goals (first|assumption|with_reducible refine L0.at ?_|wp_step))
def Eb(X:K.In s.heap)(I:nF a C s.heap)(ha:findIn K (.ref C) "__class__" = some (some<|.builtin "object.__class__"))(hn:specialIn K (.builtin "object.__class__") "__get__" = some (some<|.builtin "getset_descriptor.__get__"))(ht:takesIn K (.builtin "object.__class__")=some true)
  (hm:mroIn K C (.type "object")=some true) (h:Q (.done<|.ret<|.ref C) s):wpAny (model prog w) A (Builtin.«object.__getattribute__» ⟨[.ref a,.str "__class__" tk],[]⟩) Q E s:=by
 obtain⟨hh,g,d,t,os⟩:=s
 have L0:=I.type (M:=model prog w)
 have L2:=JU (M:=model prog w) (a:=a) X ha hn ht
 unfold Builtin.«object.__getattribute__»
 repeat(any_goals (first|assumption|with_reducible refine L0.at ?_|with_reducible refine L2.at ?_|wp_step))
 exact OS X I hm<|a1Q h
def Ec(X:K.In s.heap)(I:nF a C s.heap)(hb:mroIn K C (.type "BaseException")=some true)(h:Q () s):wpAny M A (checkBuiltinCall "BaseException.__getattribute__" ⟨[.ref a,nameV],[]⟩) Q E s:=by
 have hk:builtinKind "BaseException.__getattribute__" = some .slot:=by rfl
 have hsplit:splitId "BaseException.__getattribute__" = some ("BaseException","__getattribute__"):=by rfl
 have L0:=I.type (M:=M);have L3:=looks_mroIn (M:=M) X hb;simp only[checkBuiltinCall,hk,hsplit]
 ·unfold isInstance;repeat(any_goals (first|assumption|with_reducible refine L0.at ?_|with_reducible refine L3.at ?_|wp_step))
structure ExK(K:Frag)(C:Addr):Prop where
 cd:(clsIn K C).isSome=true
 ga:findIn K (.ref C) "__getattribute__" = some (some (.builtin "BaseException.__getattribute__"))
 gt:findIn K (.ref C) "__getattr__" = some none
 ca:findIn K (.ref C) "__class__" = some (some (.builtin "object.__class__"))
 cn:specialIn K (.builtin "object.__class__") "__get__" = some (some (.builtin "getset_descriptor.__get__"))
 ct:takesIn K (.builtin "object.__class__")=some true
 mo:mroIn K C (.type "object")=some true
 mb:mroIn K C (.type "BaseException")=some true
def JY(Z:ExK K C)(X:K.In s.heap)(I:nF a C s.heap)(h:Q (some<|.ref C) { s with toks:=s.toks+1 }):wpAny (model prog w) A (getAttr? (.ref a) "__class__") Q E s:=by
 obtain⟨hh,g,d,t,os⟩:=s;have L0:=I.type (M:=model prog w);have L1:=looks_findIn (M:=model prog w) X Z.ga;have L4:=looks_findIn (M:=model prog w) X Z.gt;have f3:=F.excAttr_ValueError.ga.bind<|.ref a;have hx1:(onTheHeap (Value.ref C) && Value.builtin "BaseException.__getattribute__" == Value.builtin "object.__getattribute__")=false:=by rfl
 refine a1D<|wpAny_mkText<|a1D<|wpAny_attempt<|wpAny_holding<|a1D<|L0.at<|a1D<|L1.at ?_;show wpAny _ _ (if (onTheHeap (Value.ref C) && Value.builtin "BaseException.__getattribute__" == Value.builtin "object.__getattribute__")=true then _ else getAttrByItsOwn _ _ _ _ _ _) _ _ _;repeat(any_goals (first|assumption|with_reducible refine L0.at ?_|with_reducible refine L4.at ?_|wp_step))
 refine codeAny_call_builtin F.excAttr_ValueError.ga.plain F.entry_bexc_ga<|Ec X I Z.mb<|Eb X I Z.ca Z.cn Z.ct Z.mo ?_;exact handed_on rfl<|a1Q h
def CH(Z:ExK K C):KitX K (.ref a) (.ref C) (nF a C) where
 ty:=λ_ _ _ I=>I.type
 it:=λ_ _ X _=>by
  obtain⟨cdD,hcD⟩:=a3y.mp Z.cd;unfold clsIn at hcD;split at hcD
  ·rename_i ho;intro A' Q' E' s' k q;exact a1D<|wpAny_loadPart (k _ _<|X _ _ ho)<|a1Q q
  grind
 ne:=λh tp dd its n sl X htp=>by
  obtain⟨cdD,hcD⟩:=a3y.mp Z.cd;refine Bool.eq_false_iff.mpr λq=>?_;obtain rfl:C=tp:=Value.ref.inj<|beq_iff_eq.mp q;unfold clsIn at hcD;split at hcD
  ·rename_i ho;have z:=(X _ _ ho).symm.trans htp;cases z
  grind
 ca:=λX I k=>JY Z X I k
end
end L2
namespace DL
open PyProof.Rows hiding St
def kF(I:Inv X pins σ H s)(hN:X.N.Nodup)(hi:X.N[i]? = some x)(hk:X.env.kindOf x=some .local)
  (h:∀ s',Inv X pins (σ.set i none) H s'->Q () s'):wpAny M A (do bindName X.env x .none;unbindBehindTheSuite X.env x pos) Q E s:=by
 obtain⟨m,hn,hl⟩:=id I.loc
 have hcls:(X.env.scope.kind == .class || (X.env.scope.kind == .module && X.env.locals != X.env.globals))=false:=by rw[I.ok.kind];rfl
 have hiσ:i<σ.length:=by rw[I.len];exact(a1I.mp hi).1
 have cne:=I.cne
 have tracked:∀{a:Addr} {h':Heap},(∃ o,s.heap.get? a=some o/\H a=none)->Heap.SameBut a s.heap h'->HOk X.prog X.w H h':=λ{a h'} ha hs b ob e=>by refine(I.hok b ob e).stay (λc w' hc q=>(hs.2 c ?_).trans q) (λ_ q=>q) λ_ _ q=>q;grind
 refine wpAny_nameGoes_keeps hk hn (by exact hcls) λh' v hn' hs=>?_
 obtain⟨oL,_,_,hoL,_⟩:=id hn
 refine h { s with heap:=h',toks:=s.toks+1 } ⟨I.ok,I.os,I.bare,⟨λb o e n hb hx=>?_,λb o e n hb hx=>?_,I.base.free,λb o e hx=>?_,I.base.tups,I.base.frzs,I.base.tbls⟩,⟨_,hn',λj y v' e1 e2 e3=>?_⟩,λy c e=>?_,I.free,I.freeC,λp hp=>?_,tracked ⟨oL,hoL,I.free⟩ hs,by simpa using I.len⟩
 ·exact(hs.2 b<|a14<|a1F (a1L e) I.ok.above).trans (I.base.keep b o e n hb hx)
 ·obtain⟨sl,e1⟩:=I.base.slot b o e n hb hx
  exact⟨sl,(hs.2 b<|a14<|a1F (a1L e) I.ok.above).trans e1⟩
 ·obtain⟨o',e1⟩:=I.base.there b o e hx
  exact⟨o',(hs.2 b<|a14<|a1F (a1L e) I.ok.above).trans e1⟩
 ·by_cases hj:j=i
  ·subst hj
   rw[a3G hiσ]at e2
   cases e2
  ·rw[a3V<|Ne.symm hj]at e2
   obtain⟨u',r',q⟩:=hl j y v' e1 e2 e3
   refine⟨u',r',?_⟩
   rcases q with⟨k,e⟩|⟨k,c,e,z⟩
   ·refine .inl ⟨k,?_⟩
    have:y≠x:=λe=>hj<|mL hN e1<|e▸hi
    simp[this,e]
   ·exact .inr ⟨k,c,e,z.sameBut hs<|cne y c e⟩
 ·obtain⟨w',z⟩:=I.cell y c e
  exact⟨w',z.sameBut hs<|cne y c e⟩
 ·obtain⟨e,n,ne,nf,d⟩:=I.pin p hp
  exact⟨(hs.2 p.1 ne).trans e,n,ne,nf,d⟩
def yR{Hc H':Hp}{sc s1:Shared}{B:Heap}{a:Addr}{cls a0:Value}{h':Heap}{ob:Obj}(I:Inv X pins σ Hc sc)(ho:s1.os=sc.os)(hg:AllBare s1.gens)(un:Un (frs X.stack) [] Hc H' sc.heap s1.heap)(hok:HOk X.prog X.w H' s1.heap)
  (cov:Cov B sc.heap H' (frs X.stack) s1.heap) (fl:Air B X.stack a cls a0 s1.heap) (st:B.StaysIn h') (ups:s1.heap.UpToSlots h') (hob:h'.get? a=some ob) :
  H' a=none/\Inv X pins σ (upd H' a<|.frz ob<|.own 0) { s1 with heap:=h' }:=by
 have fre:∀ b∈frs X.stack,H' b=none:=λb hb=>by obtain⟨_,o,hob,_⟩:=I.stack.mem hb;exact un.free b o hob (I.stkFree b hb)<|by simp
 have trk:∀ b u,H' b=some u->b∉frs X.stack:=λb u q hm=>by grind
 obtain⟨oa,vs,ha,hda⟩:=fl.data
 have nst:a∉frs X.stack:=λhm=>by obtain⟨_,o',ho',hnf⟩:=fl.frames.mem hm;grind
 have nH:H' a=none:=by
  cases e:H' a with
  | none=>rfl
  | some u =>have:=cov a oa ha (.inl ⟨u,e⟩) nst;rw[fl.base.2]at this;cases this
 have nsc:sc.heap.get? a=none:=by
  cases e:sc.heap.get? a with
  | none=>rfl
  | some u =>have:=cov a oa ha (.inr ⟨u,e⟩) nst;rw[fl.base.2]at this;cases this
 have keepB:∀ b o,s1.heap.get? b=some o->((∃ u,H' b=some u) \/ ∃ o0,sc.heap.get? b=some o0)->b∉frs X.stack->h'.get? b=some o:=λb o q c nm=>st b o<|cov b o q c nm
 have slotB:∀ b o,s1.heap.get? b=some o->b∈frs X.stack->∃ sl,h'.get? b=some { o with slots:=sl }:=λb o q hm=>by obtain⟨_,o',ho',hnf⟩:=fl.frames.mem hm;have e:=Option.some.inj<|q.symm.trans ho';subst e;exact ups b o q hnf
 have ne1:∀{b u},H' b=some u->b≠a:=λ{b u} e z=>by grind
 have ne2:∀{b o},sc.heap.get? b=some o->b≠a:=λ{b o} e z=>by grind
 have un':Un (frs X.stack) [] Hc (upd H' a<|.frz ob<|.own 0) sc.heap h':=⟨λb o q n hb hx=>keepB b o (un.keep b o q n hb hx) (.inr ⟨o,q⟩) hb,λb o q n hb hx=>by
   obtain⟨sl,z⟩:=un.slot b o q n hb hx;obtain⟨sl2,z2⟩:=slotB b _ z hb;exact⟨sl2,z2⟩,λb o q n hx=>by rw[g8<|ne2 q];exact un.free b o q n hx,λb o q hx=>by
   obtain⟨o1,z⟩:=un.there b o q hx;by_cases hm:b∈frs X.stack
   ·obtain⟨sl,z2⟩:=slotB b _ z hm;exact⟨_,z2⟩
   ·exact⟨_,keepB b _ z (.inr ⟨o,q⟩) hm⟩,λb xs e=>by have:=un.tups b xs e;rw[g8<|ne1 this];exact this,λb o u e=>by have:=un.frzs b o u e;rw[g8<|ne1 this];exact this,λb ps e=>by
   obtain⟨qs,this⟩:=un.tbls b ps e;exact⟨qs,by rw[g8<|ne1 this];exact this⟩⟩
 refine⟨nH,I.call' (s':={ s1 with heap:=h' }) ho un' (λb u q=>?_) hg λb hb=>by cases hb⟩
 by_cases hba:b=a
 ·subst hba
  rw[i5]at q
  cases q
  exact⟨hob,⟨_,hob⟩⟩
 ·rw[g8 hba]at q
  refine(hok b u q).stay (λc v hc q2=>?_) (λc z=>?_) λc xs z=>?_
  ·rcases hc with rfl|hc
   ·exact keepB c v q2 (.inl ⟨u,q⟩)<|trk c u q
   ·exact keepB c v q2 (.inl ⟨_,hc⟩)<|trk c _ hc
  ·rw[g8<|ne1 z];exact z
  ·rw[g8<|ne1 z];exact z
def tI{K:a1C}{H:Hp}{σ:St}{e:Ev}(h:u6 K H σ e)(i:Nat):u6 K H (σ.set i none) (e.set i none):=by
 refine⟨by simp[h.len],λj x z=>?_⟩;rw[a5n]at z ⊢;by_cases q:i=j
 ·grind
 ·rw[if_neg q]at z ⊢;exact h.has j x z
def IK(i:Nat)(F:gg):gg:={ nx:=λe M=>F.nx (e.set i none) M,rt:=F.rt,bk:=λe M=>F.bk (e.set i none) M,ct:=λe M=>F.ct (e.set i none) M }
def Uo(i:Nat)(D:ip):ip:={ nx:=λσ H=>D.nx (σ.set i none) H,rt:=D.rt,bk:=λσ H=>D.bk (σ.set i none) H,ct:=λσ H=>D.ct (σ.set i none) H }
def OY{K:a1C}{H:Hp}{F:gg}{D:ip}(h:Fit K H F D)(i:Nat):Fit K H (IK i F) (Uo i D) :=
 ⟨λ_ M r _ H2 k a b=>h.nx _ M r _ H2 k a<|tI b i,h.rt,λ_ M r _ H2 k a b=>h.bk _ M r _ H2 k a<|tI b i,λ_ M r _ H2 k a b=>h.ct _ M r _ H2 k a<|tI b i⟩
structure TkN(K:a1C)(mg:Str->Option Value)(c x:Str):Prop where
 ex:∃ Cc Cx,mg c=some (.ref Cc)/\mg x=some (.ref Cx)/\PySem.W.nsIn K mainGlobals x=some (some (.ref Cx))/\PySem.W.exmOne K (.ref Cx) (.ref Cc)=some true
def Gu{K:a1C}{mg:Str->Option Value}{h:Heap}{c x:Str}{Cc Cx:Addr}(X:K.In h)(G:h.Ns mainGlobals mg)(n:PySem.W.nsIn K mainGlobals c=some (some<|.ref Cc))(m:PySem.W.nsIn K mainGlobals x=some (some<|.ref Cx))(q:PySem.W.exmOne K (.ref Cx) (.ref Cc)=some true):TkN K mg c x :=
 ⟨Cc,Cx,PySem.W.mg_of X G n,PySem.W.mg_of X G m,m,q⟩
def OQ{pins:List (Addr × Obj)}{D:ip}{s:Shared}{M:Model}{A:Around}{E:Value->Shared->Prop}(hN:X.N.Nodup)(hi:X.N[i]? = some n)(hk:X.env.kindOf n=some .local):∀{f:Flow},SP X pins (Uo i D) f s->wpAny M A (do bindName X.env n .none;unbindBehindTheSuite X.env n hpos) (λ_ s'=>SP X pins D f s') E s
 | .next,⟨σ',H',I,q⟩=>kF I hN hi hk λ_ I'=>⟨_,H',I',q⟩
 | .brk,⟨σ',H',I,q⟩=>kF I hN hi hk λ_ I'=>⟨_,H',I',q⟩
 | .cont,⟨σ',H',I,q⟩=>kF I hN hi hk λ_ I'=>⟨_,H',I',q⟩
 | .ret _,⟨v,σ',H',I,r,q⟩=>kF I hN hi hk λ_ I'=>⟨v,_,H',I',r,q⟩
def Gs{K:a1C}{mg:Str->Option Value}{c:Str}:∀ x∈([]:List Str),TkN K mg c x:=λ_ h=>by cases h
def pS{K:a1C}{mg:Str->Option Value}{c y:Str}{ys:List Str}(h:TkN K mg c y)(hs:∀ x∈ys,TkN K mg c x):∀ x∈y :: ys,TkN K mg c x:=λx hx=>by grind
end DL
namespace L2
open PySem PySem.Spec PySem.W PyProof.Rows
def IsX(K:Frag)(u:Value)(tab:List (Str × Bool)):Prop:=∀ p∈tab,∃ C,nsIn K mainGlobals p.1=some (some<|.ref C)/\ExK K C/\kitOne K (.ref C) u=some p.2
def IsT(K:Frag)(us:List Value)(tab:List (Str × Bool)):Prop:=∀ p∈tab,∃ C,nsIn K mainGlobals p.1=some (some<|.ref C)/\ExK K C/\kitAny K (.ref C) us=some p.2
def Exc(K:Frag)(H:Hp)(a:Addr)(x:Str):Prop:=∃(o:Obj) (C:Addr),H a=some (.frz o<|.own 0)/\o.cls = .ref C/\nsIn K mainGlobals x=some (some<|.ref C)
def KJ(Z:IsX X.K u2 tab)(hv:∀ u,l8 v2 u->u=u2):p9 X (.builtin "isinstance") (λxs H Q=>∃ a x b,xs=[.ref a,v2]/\Exc X.K H a x/\(x,b)∈tab/\Q (.bl b) H):=by
 intro pins s σ H xs us Q I rv h;obtain⟨a,x,b,rfl,⟨o,C,hH,ho,hn⟩,ht,q⟩:=h;obtain⟨u,w,rfl,r1,r2⟩:=rv.two;cases r1;have:=hv w r2;subst this;obtain⟨C',hn',Zx,e⟩:=Z _ ht;have ec:C=C':=by grind
 subst ec;exact kia_one (CH Zx) I.kIn ⟨o,(I.hok _ _ hH).1,ho⟩ e (λz=>nomatch z) λtk=>⟨.bl b,H,I.tok tk,rfl,q⟩
def Vk(Z:IsT X.K us2 tab)(hv:∀ us,j8 vs us->us=us2):p9 X (.builtin "isinstance") (λxs H Q=>∃ a p x b,xs=[.ref a,.ref p]/\Exc X.K H a x/\H p=some (.tup vs)/\(x,b)∈tab/\Q (.bl b) H):=by
 intro pins s σ H xs us Q I rv h;obtain⟨a,p,x,b,rfl,⟨o,C,hH,ho,hn⟩,hp,ht,q⟩:=h;obtain⟨u,w,rfl,r1,r2⟩:=rv.two;cases r1;cases r2;obtain⟨C',hn',Zx,e⟩:=Z _ ht;have ec:C=C':=by grind
 subst ec;obtain⟨its,rs,⟨⟨cls,dd,data,sl⟩,hop,hcp,hdp⟩,_⟩:=I.tuple<|.inl<|.inl hp;have:=hv _ rs;subst this;obtain⟨n,hdp⟩:=hdp;simp only at hcp hdp;subst hcp hdp;exact kia_tup (CH Zx) I.kIn ⟨o,(I.hok _ _ hH).1,ho⟩ hop e (λz=>nomatch z) λtk=>⟨.bl b,H,I.tok tk,rfl,q⟩
def IA(hg:Gl X c)(hm:X.mg c=some (.ref C))(hd:(c == ("__debug__" : Str))=false:=by decide):PE X (.Name c pos) (tC<|.ref C):=λpins s σ H Q I h=>bo I hg hm ⟨.ref C,H,I,rfl,h⟩ hd
end L2
namespace DL
open PyProof.Rows hiding St
def oW:bootBuiltins "ValueError" = some (.type "ValueError"):=by rfl
structure Ly(K:a1C)(x:Str):Prop where
 ex:∃ C,PySem.W.nsIn K mainGlobals x=some (some (.ref C))/\L2.ExK K C
open PySem.W in
def CG{K:a1C}{x:Str}{C:Addr}(n:nsIn K mainGlobals x=some (some<|.ref C))(ga:findIn K (.ref C) "__getattribute__" = some (some<|.builtin "BaseException.__getattribute__"))(gt:findIn K (.ref C) "__getattr__" = some none)(ca:findIn K (.ref C) "__class__" = some (some<|.builtin "object.__class__"))
  (cn:specialIn K (.builtin "object.__class__") "__get__" = some (some<|.builtin "getset_descriptor.__get__")) (ct:takesIn K (.builtin "object.__class__")=some true) (mo:mroIn K C (.type "object")=some true) (mb:mroIn K C (.type "BaseException")=some true):Ly K x :=
 ⟨C,n,⟨by obtain⟨cd,a,b⟩:=Option.bind_eq_some_iff.mp mo;rw[a];rfl,ga,gt,ca,cn,ct,mo,mb⟩⟩
def xR(K:a1C)(tab:List (Str × Bool)):Prop:=∀ p∈tab,Ly K p.1
def W9{K:a1C}:xR K []:=λ_ h=>by cases h
def y9{K:a1C}{x:Str}{b:Bool}{tab:List (Str × Bool)}(h:Ly K x)(hs:xR K tab):xR K ((x,b) :: tab):=λp hp=>by
 rcases a1Y.mp hp with rfl|hp
 ·exact h
 ·exact hs p hp
def IsR(K:a1C)(us:List Value)(tab:List (Str × Bool)):Prop:=∀ p∈tab,∃ C,PySem.W.nsIn K mainGlobals p.1=some (some<|.ref C)/\PySem.W.kitAny K (.ref C) us=some p.2
def W3{K:a1C}{us:List Value}:IsR K us []:=λ_ h=>by cases h
def y7{K:a1C}{us:List Value}{x:Str}{b:Bool}{C:Addr}{tab:List (Str × Bool)}(n:PySem.W.nsIn K mainGlobals x=some (some<|.ref C))(q:PySem.W.kitAny K (.ref C) us=some b)(hs:IsR K us tab):IsR K us ((x,b) :: tab):=λp hp=>by
 rcases a1Y.mp hp with rfl|hp
 ·exact⟨C,n,q⟩
 ·exact hs p hp
def RD{K:a1C}{us:List Value}{tab:List (Str × Bool)}(h:IsR K us tab)(e:xR K tab):L2.IsT K us tab:=λp hp=>by obtain⟨C,n,q⟩:=h p hp;obtain⟨C',n',z⟩:=(e p hp).ex;grind
def OB{K:a1C}{t u:Value}{b:Bool}(h:PySem.W.kitAny K t [u]=some b):PySem.W.kitOne K t u=some b:=by grind[PySem.W.kitAny,PySem.W.kitOne]
def RC{K:a1C}{u:Value}{tab:List (Str × Bool)}(h:IsR K [u] tab)(e:xR K tab):L2.IsX K u tab:=λp hp=>by obtain⟨C,n,z,q⟩:=RD h e p hp;exact⟨C,n,z,OB q⟩
structure IsN(K:a1C)(mg:Str->Option Value)(cs:List Str)(tab:List (Str × Bool)):Prop where
 ex:∃ Cs:List Addr,cs.map mg=Cs.map (λC=>some (.ref C))/\IsR K (Cs.map .ref) tab
def gT{K:a1C}{mg:Str->Option Value}{cs:List Str}{Cs:List Addr}{tab:List (Str × Bool)}(h:cs.map mg=Cs.map (λC=>some<|.ref C))(r:IsR K (Cs.map .ref) tab):IsN K mg cs tab:=⟨Cs,h,r⟩
def bp{mg:Str->Option Value}:([]:List Str).map mg=([]:List Addr).map (λC=>some<|.ref C):=rfl
def J8{K:a1C}{mg:Str->Option Value}{h:Heap}{c:Str}{C:Addr}{cs:List Str}{Cs:List Addr}(X:K.In h)(G:h.Ns mainGlobals mg)(n:PySem.W.nsIn K mainGlobals c=some (some<|.ref C))(r:cs.map mg=Cs.map (λC=>some<|.ref C)):(c :: cs).map mg=(C :: Cs).map (λC=>some<|.ref C):=by rw[a1Z,a1Z,PySem.W.mg_of X G n,r]
structure JCs(X:Cx)(es:List Expr)(cs:List Str):Prop where
 out:∀ Cs:List Addr,cs.map X.mg=Cs.map (λC=>some (.ref C))->PA X es (λ_ H Q=>Q (Cs.map .ref) H)
def OM:JCs X [] []:=⟨λCs h=>by
 cases Cs with
 | nil=>exact Q7
 | cons C Cs=>cases h⟩
def mX(gc:Gl X c)(hr:JCs X es cs)(h1:starEach (.Name c p2 :: es) X.env=(false,eval (.Name c p2) X.env) :: starEach es X.env:=by rfl)(hd:(c == ("__debug__" : Str))=false:=by decide):JCs X (.Name c p2 :: es) (c :: cs):=⟨λCs h=>by
 cases Cs with
 | nil=>cases h
 | cons C Cs =>
  rw[a1Z,a1Z]at h;injection h with h0 h
  exact C5 (IA gc h0 hd) (hr.out Cs h) h1⟩
def Pe(tab:List (Str × Bool))(te:DTE):DTE:=λe M R=>te e M λx M1=>∃ s b,x = .exc s/\(s,b)∈tab/\R (.bl b) M1
def yQ{K:a1C}{H:Hp}{v:V}{s:Str}(h:Has K H v (.exc s)):∃ a,v = .ref a/\Exc K H a s:=by
 cases h with
 | exc q=>exact⟨_,rfl,q⟩
def mV(tab:List (Str × Bool)){c:Str}(gi:Gl X "isinstance")(mi:X.mg "isinstance" = none)(vi:bootBuiltins "isinstance" = some (.builtin "isinstance"))(gc:Gl X c)(Z:IsN X.K X.mg [c] tab)(Ze:xR X.K tab)(he:JE X e te)
  (h1:starEach [e,.Name c p2] X.env=(false,eval e X.env) :: starEach [.Name c p2] X.env:=by rfl) (h2:starEach [.Name c p2] X.env=(false,eval (.Name c p2) X.env) :: starEach [] X.env:=by rfl) (h3:(backTo pos<|starEach [.Name c p2] X.env).any (·.1)=false:=by rfl) (hd:(c == ("__debug__" : Str))=false:=by decide) :
  JE X (.Call (.Name "isinstance" p) [e,.Name c p2] [] pos) (Pe tab te):=by
 obtain⟨Cs,hm,Zr⟩:=Z.ex
 obtain⟨Cc,rfl⟩:∃ Cc,Cs=[Cc]:=by
  cases Cs with
  | nil=>cases hm
  | cons C Cs =>
   cases Cs with
   | nil=>exact⟨C,rfl⟩
   | cons C2 Cs=>simp at hm
 have mc:X.mg c=some (.ref Cc):=by grind
 exact⟨(eY (KJ (v2:=.ref Cc) (RC Zr Ze) λu r=>r) gi mi vi (C5 he.out (C5 (IA gc mc hd) Q7 h2) h1) (by decide) (by decide) h1 h3).imp λσ H Q ⟨e,M,R,ok,am,t,f⟩=>⟨e,M,_,ok,am,t,λx M1 ⟨s,b,z,ht,r⟩ v H1 k1 a1 r1=>by subst z;obtain⟨a,rfl,hx⟩:=yQ r1;exact⟨a,s,b,rfl,hx,ht,f _ M1 r _ H1 k1 a1<|.bl b⟩⟩⟩
def UH(tab:List (Str × Bool)){c:Str}{T:String}(gi:Gl X "isinstance")(mi:X.mg "isinstance" = none)(vi:bootBuiltins "isinstance" = some (.builtin "isinstance"))(gc:Gl X c)(mc:X.mg c=none)(vc:bootBuiltins c=some (.type T))(Zr:IsR X.K [.type T] tab)(Ze:xR X.K tab)(he:JE X e te)
  (h1:starEach [e,.Name c p2] X.env=(false,eval e X.env) :: starEach [.Name c p2] X.env:=by rfl) (h2:starEach [.Name c p2] X.env=(false,eval (.Name c p2) X.env) :: starEach [] X.env:=by rfl) (h3:(backTo pos<|starEach [.Name c p2] X.env).any (·.1)=false:=by rfl) (hn:c ≠ "__name__" := by decide) (hd:(c == ("__debug__" : Str))=false:=by decide) :
  JE X (.Call (.Name "isinstance" p) [e,.Name c p2] [] pos) (Pe tab te) :=
 ⟨(eY (KJ (v2:=.ty T) (RC Zr Ze) λu r=>r) gi mi vi (C5 he.out (C5 (BU (v:=.ty T) gc mc vc rfl hn hd) Q7 h2) h1) (by decide) (by decide) h1 h3).imp λσ H Q ⟨e,M,R,ok,am,t,f⟩=>⟨e,M,_,ok,am,t,λx M1 ⟨s,b,z,ht,r⟩ v H1 k1 a1 r1=>by subst z;obtain⟨a,rfl,hx⟩:=yQ r1;exact⟨a,s,b,rfl,hx,ht,f _ M1 r _ H1 k1 a1<|.bl b⟩⟩⟩
theorem aN{Cs:List Addr}{us:List Value}(h:j8 (Cs.map V.ref) us):us=Cs.map Value.ref:=by
 induction Cs generalizing us with
 | nil=>cases h;rfl
 | cons C Cs ih =>
  cases h with
  | cons r t=>cases r;rw[a1Z,ih t]
def UG(tab:List (Str × Bool)){x1}(gi:Gl X "isinstance")(mi:X.mg "isinstance" = none)(vi:bootBuiltins "isinstance" = some (.builtin "isinstance"))(Z:IsN X.K X.mg cs tab)(Ze:xR X.K tab)(hl:cs.length<=100)(he:JE X e te)(hc:JCs X es cs)
  (h1:starEach [e,.Tuple es x1 pos2] X.env=(false,eval e X.env) :: starEach [.Tuple es x1 pos2] X.env:=by rfl) (h2:starEach [.Tuple es x1 pos2] X.env=(false,eval (.Tuple es x1 pos2) X.env) :: starEach [] X.env:=by rfl) (h3:(backTo pos<|starEach [.Tuple es x1 pos2] X.env).any (·.1)=false:=by rfl) :
  JE X (.Call (.Name "isinstance" p) [e,.Tuple es x1 pos2] [] pos) (Pe tab te):=by
 obtain⟨Cs,hm,Zr⟩:=Z.ex
 have hlen:(Cs.map V.ref).length<=sizeLine:=by have:=congrArg a3J hm;rw[a1H,a1H]at this;rw[a1H,<- this];exact a1N hl<|by decide
 exact⟨(eY (Vk (vs:=Cs.map V.ref) (RD Zr Ze) λus r=>aN r) gi mi vi (C5 he.out (C5 (Iu<|hc.out Cs hm) Q7 h2) h1) (by decide) (by decide) h1 h3).imp λσ H Q ⟨e,M,R,ok,am,t,f⟩=>⟨e,M,_,ok,am,t,λx M1 ⟨s,b,z,ht,r⟩ v H1 k1 a1 r1=>by
  subst z;obtain⟨a,rfl,hx⟩:=yQ r1;refine⟨hlen,λq hq=>?_⟩;obtain⟨o,C,ha,ho,hn⟩:=hx;have ne:a≠q:=λe=>by grind
  exact⟨a,q,s,b,rfl,⟨o,C,by rw[g8 ne];exact ha,ho,hn⟩,i5,ht,f _ M1 r _ _ (k1.trans<|KT.alloc hq) (a1.alloc hq)<|.bl b⟩⟩⟩
def Qy{tab:List (Str × Bool)}{te:DTE}{e:Ev}{M:Mem}{R:DK}:Pe tab te e M R=te e M λx M1=>∃ s b,x = .exc s/\(s,b)∈tab/\R (.bl b) M1:=rfl
def Fc:(IK i F).rt=F.rt:=rfl
def Fd{i:Nat}{F:gg}{e:Ev}{M:Mem}:(IK i F).nx e M=F.nx (e.set i none) M:=rfl
end DL
namespace GM
def KD{ds:List D}{n:Nat}:X2 ds (some (n:Int)) none=ds.drop n:=by simp[HT.Nj,HT.HB,a38,a2O,a2F,a4I,List.drop_eq_nil_of_le,List.take_nil,X2]
end GM
namespace L2
open PySem PySem.Spec PyProof.Rows
def HV(hh:A.handled=none)(hit:s.heap.IsRevIter it l ((items.size:Int) - 1))(hl:s.heap.IsList l items)(hne:l≠it)(hi:S≠it)(hj:S≠l)(hz:items.size<=sizeLine)
  (hS:s.heap.get? S=some { cls:=.type "list",data:=.seq #[] c₀ })
  (fin:∀ h' tk acc c1,(∀ b o,b≠S->b≠it->s.heap.get? b=some o->h'.get? b=some o)->h'.get? S=some { cls:=.type "list",dict:=none,data:=.seq acc c1,slots:=#[] }->ItemsOf (nB items) acc items.size->R (.ok<|.ret rv) { s with heap:=h',toks:=tk }) :
  wpAny (model prog w) A.in1 (Builtin.List.listExtendWith (.ref S) (.ref it) rv) (tZ prog w A R) (λe s'=>R (.error e) s') s:=by
 have V:=(Walks.listRev (prog:=prog) (w:=w) (A:=A.in1) hh it l hne items).toS
 have nf:S∉[it,l]:=λq=>by grind
 unfold Builtin.List.listExtendWith
 refine a1D<|wpAny_typeOf hit.typeIs ?_
 have n1:Builtin.List.listSameRef (.ref S) (.ref it)=false:=by simp[Builtin.List.listSameRef,hi]
 have n2:(Value.type "list_reverseiterator" == Value.type "list")=false:=by decide
 have n3:(Value.type "list_reverseiterator" == Value.type "tuple")=false:=by decide
 simp only[n1,if_false]
 refine a1D<|wpAny_pyIter_revIter hit<|a1D<|wpAny_holding<|vZ hit ?_
 refine wpAny_ite_split (λz=>absurd z<|by rw[0]) λ_=>?_
 refine a1Q ⟨plainId_quiet F.plain_extend_loop _,?_⟩
 have h0:((items.size:Int) - 1 - ((0:Nat):Int))=items.size - 1:=by omega
 refine codeAny_extend_loopS V hz S nf rv items.size 0 s #[] c₀ rfl (a2e _) ⟨a2e _,by rw[h0];exact hit,hl⟩ hS (ItemsOf.nil _) λs2 acc c1 mv g1 g2=>?_
 rw[Moved.eq_with mv]
 exact fin s2.heap s2.toks acc c1 (λb o q1 q2 q3=>mv.heap b o (λq=>(a1Y.mp q).elim q1 λq'=>q2<|a13.mp q') q3) g1 g2
def Ju(hh:A.handled=none)(hit:s.heap.IsRevIter it l ((items.size:Int) - 1))(hl:s.heap.IsList l items)(hne:l≠it)(hi:S≠it)(hj:S≠l)(hz:items.size<=sizeLine)
  (hS:s.heap.get? S=some { cls:=.type "list",data:=.seq #[] c₀ })
  (fin:∀ h' tk acc c1,(∀ b o,b≠S->b≠it->s.heap.get? b=some o->h'.get? b=some o)->h'.get? S=some { cls:=.type "list",dict:=none,data:=.seq acc c1,slots:=#[] }->ItemsOf (nB items) acc items.size->R (.ok<|.ret<|.ref S) { s with heap:=h',toks:=tk }) :
  codeAny (model prog w) A (.builtin "list.__iadd__" ⟨[.ref S,.ref it],[]⟩) R s:=by
 refine codeAny_builtin F.entry_list_iadd ?_
 rw[Around.under_plainId F.plain_list_iadd _]
 exact HV hh hit hl hne hi hj hz hS fin
def xy(hh:A.handled=none)(hit:s.heap.IsRevIter it l ((items.size:Int) - 1))(hl:s.heap.IsList l items)(hne:l≠it)(hz:items.size<=sizeLine)
  (fin:∀ h' tk acc,(∀ b o,b≠it->s.heap.get? b=some o->h'.get? b=some o)->ItemsOf (nB items) acc items.size->Q acc.toList { s with heap:=h',toks:=tk }):wpAny (model prog w) A (collect<|.ref it) Q E s:=by
 obtain⟨oi,hoi,_⟩:=id hit
 obtain⟨ol,hol,_⟩:=id hl
 have i1:=a2f<|a1L hoi
 have i2:=a2f<|a1L hol
 unfold collect
 refine a1D<|wpAny_runValue<|codeAny_builtin F.entry_proto_collect ?_;rw[Around.under_plainId F.plain_proto_collect _]
 show wpAny _ A.in1 (newList [] >>= λS=>again<|.builtin "list.__iadd__" ⟨[S,.ref it],[]⟩) _ _ s
 have up:∀ b o,s.heap.get? b=some o->(s.heap.push { cls:=.type "list",data:=.seq ([]).toArray }).get? b=some o:=λb o e=>a1E _ e
 have gS:(s.heap.push { cls:=.type "list",data:=.seq ([]).toArray }).get? s.heap.objs.size=some { cls:=.type "list",data:=.seq #[] }:=a1P _ rfl
 refine a1D<|wpAny_newObj_type<|a1Q ⟨plainId_quiet F.plain_list_iadd _,Ju hh (hit.at λo e=>up it o e) (hl.at λo e=>up l o e) hne i1 i2 hz gS λh' tk acc c1 q1 q2 q3=>?_⟩
 show wpAny _ A (load s.heap.objs.size >>= _) _ _ _
 refine a1D<|wpAny_load q2<|a1Q<|fin h' tk acc (λb o b1 e=>q1 b o (a14<|a1L e) b1<|up b o e) q3
def oV(hh:A.handled=none)(hit:s.heap.IsRevIter it a (((strValues items).toArray.size:Int) - 1))(hl:s.heap.IsList a (strValues items).toArray)(hne:a≠it)(hz:(strValues items).toArray.size<=sizeLine)
  (hok:JoinOk x ((items.map (·.1)).reverse)=true)
  (hq:∀ h' t' k,(∀ b o,b≠it->s.heap.get? b=some o->h'.get? b=some o)->Q (.str (Txt.join x<|(items.map (·.1)).reverse) t') { s with heap:=h',toks:=k }) :
  wpAny (model prog w) A (call (.builtin "str.join") [.str x t,.ref it]) Q E s:=by
 refine wpAny_call<|codeAny_call_builtin F.slot_str_join.plain F.entry_str_join<|F.slot_str_join.check _ _ _ _ _ _ _ _ (typeIs_str _ _ _) (F.args_str_join_2 _ _) ?_;rw[join_tree_other]
 refine a1D<|wpAny_typeOf hit.typeIs ?_
 show wpAny _ A.in1 ((pyIter<|.ref it).tryCatch _ >>= λj=>collect j >>= λxs=>joinTail x xs) _ _ s
 refine a1D<|wpAny_tryCatch<|wpAny_pyIter_revIter hit ?_
 refine a1D<|xy hh hit hl hne hz λh' tk acc k1 k2=>?_
 have hacc:=qe k2
 rw[hacc,show(strValues items).reverse=strValues items.reverse from(a3w).symm]
 rw[<- a3w]at hok hq
 unfold JoinOk at hok
 rw[a5p]at hok
 have g:Gives (joinTail x<|strValues items.reverse) (joinMade x items.reverse):=by
  have g0:=gives_joinTail x items.reverse hok;generalize items.reverse=ii at *
  match ii with
  | []=>exact g0
  | [_]=>exact g0
  | _ :: _ :: _=>exact g0
 exact g prog w A (wants Q E) { s with heap:=h',toks:=tk }<|post_join items.reverse ⟨joinFit_length hok,λt' k=>hq h' t' k k1⟩
theorem pQ:∀{ys:List Str} {us:List Value},j8 (ys.map V.str) us->∃ l,strValues l=us/\l.map (·.1)=ys
 | [],_,h=>by cases h;exact⟨[],rfl,rfl⟩
 | y :: ys,_,h=>by
  cases h with
  | cons r t =>obtain⟨k,rfl⟩:=r;obtain⟨l,e1,e2⟩:=pQ t;exact⟨(y,k) :: l,by rw[<- e1];rfl,by rw[<- e2];rfl⟩
def tY(x:Str)(ys:List Str):Prop:=(ys.map (·.length)).sum+ys.length<=1048576/\x.length<=16
def yE(hc:X.calm=true):MtR X "str.join" (λx xs H Q=>∃(sep:Str) (it a:Addr) (ys:List Str),x = .str sep/\xs=[.ref it]/\H it=some (.ext<|HU it a ys.length)/\SqL X.K H a (ys.map V.str)/\a≠it/\X.s₀.heap.objs.size<=it/\tY sep ys.reverse/\Q (.str<|Txt.join sep ys.reverse) (aG H it)):=by
 intro pins s σ H x xs v us Q I rx rv h;obtain⟨sep,it,a,ys,rfl,rfl,hit,sq,hne,hge,⟨j1,j2⟩,q⟩:=h;obtain⟨t,rfl⟩:=rx;obtain⟨u,rfl,ru⟩:=L5 rv;cases ru;obtain⟨its,r,pl,hz⟩:=I.list sq;obtain⟨l,e1,e2⟩:=pQ r;have hl:its.length=ys.length:=by grind[a1H,strValues]
 have hob:=(I.hok it _ hit).1;have hsz:(strValues l).toArray.size=ys.length:=by grind
 rw[a1H]at hz;refine oV (I.ok.hd hc) ⟨_,hob,rfl,by rw[hsz];rfl⟩ (by rw[e1];exact pl.isList) hne (by omega) (by rw[e2];exact joinOk_of_weight j1 j2) λh' t' k k1=>?_;rw[e2];have nit:∀{b u},H b=some u->u ≠ .ext (HU it a ys.length)->b≠it:=λ{b u} e n z=>by grind
 have un:Un (frs X.stack) [it] H (aG H it) s.heap h':={
  keep:=λb o e n _ hx=>k1 b o (λz=>hx<|by simp[z]) e
  slot:=λb o e n _ hx=>⟨o.slots,k1 b o (λz=>hx<|by simp[z]) e⟩
  free:=λb o e n hx=>by simp_all [D4]
  there:=λb o e hx=>⟨o,k1 b o (λz=>hx<|by simp[z]) e⟩
  tups:=λb xs e=>by simp_all [D4]
  frzs:=λb o u e=>by simp_all [D4]
  tbls:=λb ps e=>⟨#[],by rw[D4<|nit e<|by simp];simpa using e⟩ }
 have ok:HOk X.prog X.w (aG H it) h':=λb u e=>by
  have b2:b≠it:=λz=>by simp_all [X1]
  rw[D4 b2]at e;refine(I.hok b u e).stay (λc v hcv z=>k1 c v ?_ z) (λc z=>?_) λc xs z=>?_;all_goals grind[D4]
 refine⟨.str _,_,I.call (g':=s.gens) (d':=s.drawn) (t':=k) un ok I.bare λb hb=>?_,⟨t',rfl⟩,q⟩;obtain rfl:b=it:=by grind
 refine⟨.inr hge,λz=>?_,λx c e z=>?_,λp hp z=>?_⟩
 ·rw[z,I.free]at hit;cases hit
 ·rw[<- z,I.freeC x c e]at hit;cases hit
 ·rw[<- z,(I.pin p hp).2.1]at hit;cases hit
def Ei:p9 X (.type "str") (λxs H Q=>∃ n,xs=[.int n]/\n.natAbs.log2<1920/\Q (.str<|toString n) H):=by intro pins s σ H xs us Q I rv h;obtain⟨n,rfl,hn,q⟩:=h;obtain⟨u,rfl,ru⟩:=L5 rv;obtain⟨t,rfl⟩:=ru;exact P.str_of_int hn ⟨.str _,H,I.tok _,⟨_,rfl⟩,q⟩
end L2
namespace DL
open PyProof.Rows hiding St
theorem xk{K:a1C}{H:Hp}:∀{ys:List Str} {vs:List V},HasL K H vs (ys.map D.str)->vs=ys.map V.str
 | [],_,r=>by cases r;rfl
 | b :: bs,_,r=>by
  cases r with
  | cons r rr=>cases r;rw[xk rr];rfl
def RG:DRC:=λds M R=>∃ n:Int,ds=[.int n]/\n.natAbs.log2<1920/\R (.str<|toString n) M
def X4:U7 X (.type "str") RG:=p9.imp Ei λxs H Q ⟨ds,M,R,hl,am,⟨n,z,hn,r⟩,f⟩=>by subst z;obtain⟨v,rfl,hv⟩:=hl.one;cases hv;exact⟨n,rfl,hn,f _ M r _ H (KT.refl H) am<|.str _⟩
def RN:DR2:=λx y M R=>∃ i j,x = .str i/\y = .str j/\i.length+j.length<=sizeLine/\R (.str<|i++j) M
def v8:DOp X (binaryOp .Add) RN:=by intro pins s σ H x y v u Q I rx ry h;obtain⟨dx,dy,M,R,hx,hy,am,⟨i,j,e1,e2,hl,r⟩,f⟩:=h;subst e1;subst e2;cases hx;cases hy;exact yw pins s σ H _ _ v u Q I rx ry ⟨i,j,rfl,rfl,hl,f _ M r _ H (KT.refl H) am<|.str _⟩
def ze(to te:DTE):DTE:=λe M R=>to e M λx M1=>(∃ sep,x = .str sep)/\te e M1 λa M2=>∃(sep:Str) (ys:List Str),x = .str sep/\E4 M2 a=some (ys.map D.str)/\tY sep ys.reverse/\R (.str<|Txt.join sep ys.reverse) M2
def Kh{H:Hp}{it:Addr}{o:HO}(h:H it=none):aG (L2.upd H it o) it=H:=by grind[X1,D4,g8]
def Jq(hc:X.calm=true)(g2:Gl X "reversed")(m2:X.mg "reversed" = none)(v2:bootBuiltins "reversed" = some (.type "reversed"))(ho:JE X o to)(he:JE X e te)
  (h1:starEach [e] X.env=(false,eval e X.env) :: starEach [] X.env:=by rfl) (h2:starEach [.Call (.Name "reversed" p2) [e] [] pos2] X.env=(false,eval (.Call (.Name "reversed" p2) [e] [] pos2) X.env) :: starEach [] X.env:=by rfl)
  (hbase:attributeBase o "join" X.env (eval o X.env)=eval o X.env:=by rfl)
  (hfew:((backTo cpos<|starEach [.Call (.Name "reversed" p2) [e] [] pos2] X.env).all (λx=>!x.1) && (backToKw cpos<|keywordEach [] X.env).all (λx=>x.1.isSome)
   && decide ([Expr.Call (.Name "reversed" p2) [e] [] pos2].length+([]:List Keyword).length+(if ([]:List Keyword).isEmpty then 0 else 1)<30))=true:=by rfl)
  (hline:(apos.endLine == cpos.line)=true:=by rfl) (hplain:(backTo cpos<|starEach [] X.env).any (·.1)=false:=by rfl) :
  JE X (.Call (.Attribute o "join" apos) [.Call (.Name "reversed" p2) [e] [] pos2] [] cpos) (ze to te) :=
 ⟨(wj PySem.F.plainAttrs_str PySem.F.slot_str_join PySem.F.type_str_join (yE hc) ho.out (C5 (T0 jk g2 m2 v2 (C5 he.out Q7 h1) (by decide) (by decide) h1) Q7 h2) hbase hfew hline h2 hplain).imp λσ H Q ⟨e,M,R,ok,am,t,f⟩=>⟨e,M,_,ok,am,t,λx M1 ⟨⟨sep,z⟩,h1⟩ v H1 k1 a1 r1=>by subst z;cases r1;refine⟨rfl,e,M1,_,ok.mono k1,a1,h1,λd M2 h2 v2 H2 k2 a2 r2=>?_⟩;obtain⟨sep2,ys,e1,hi,hj,r⟩:=h2;cases e1;obtain⟨a,xs,rfl,sq,lx⟩:=A3 a2 r2 hi;have:=xk lx;subst this;refine⟨a,_,rfl,sq,λit hit hne hge=>⟨sep,it,a,ys,rfl,rfl,by rw[a1H];exact i5,SqL.upd sq<|Ne.symm hne,Ne.symm hne,hge,hj,?_⟩⟩;rw[Kh hit];exact f _ M2 r _ H2 (k1.trans k2) a2<|.str _⟩⟩
def FT:RN (.str i) (.str j) M R=(i.length+j.length<=sizeLine/\R (.str<|i++j) M):=propext ⟨λ⟨_,_,a,b,c,r⟩=>by cases a;cases b;exact⟨c,r⟩,λ⟨c,r⟩=>⟨_,_,rfl,rfl,c,r⟩⟩
def Fv:RG [.int n] M R=(n.natAbs.log2<1920/\R (.str<|toString n) M):=propext ⟨λ⟨_,a,c,r⟩=>by cases a;exact⟨c,r⟩,λ⟨c,r⟩=>⟨_,rfl,c,r⟩⟩
def AL:ze to te e M R=to e M λx M1=>Vu x (te e M1 λa M2=>∃(sep:Str) (ys:List Str),x = .str sep/\E4 M2 a=some (ys.map D.str)/\tY sep ys.reverse/\R (.str<|Txt.join sep ys.reverse) M2):=by grind[ze,Vu]
def FY(h:JE X.nox e te):JXE X mk H₀ Y e te:=⟨λpins s σ H Q I ⟨k,hw⟩ =>
 wpAny_mono (h.out pins s σ H Q (I.unwish.wish _) hw) (λ_ _ ⟨v,H',I',r,q⟩=>⟨v,H',I'.unwish.wish _,r,q⟩) λ_ _ z=>False.elim z⟩
end DL
namespace L2
open PySem PySem.Spec PyProof.Rows
def Its(x:Str):It:=⟨λi _=>i<x.cps.size,λi H v H'=>H'=H/\∃ c,x.cps[i]? = some c/\v = .str ⟨#[c]⟩,λi _=>x.cps.size<=i⟩
def uX{P:Program}{w:World}{K:a1C}{tg:Expr}{x:Str}{t:Tok}(it:Addr)(nm:String)(hn:["enumerate","zip","dict_itemiterator","dict_reverseitemiterator","odict_iterator","itertools.zip_longest","itertools.pairwise"].contains nm=false)
  (hW:∀ A:Around,A.handled=none->Walks P w A it [it] [it] x.cps.size (SignAt x) (λi h=>h.IsStrIter it nm x t i)) (hS:∀(A:Around) (i:Nat) (s:Shared) (Q:Value->Shared->Prop) (E:Value->Shared->Prop),s.heap.IsStrIter it nm x t i->Q (.ref it) s->wpAny (model P w) A (pyIter<|.ref it) Q E s) :
  tX P w K tg (Its x) [it] it (λi h=>i<=x.cps.size/\h.IsStrIter it nm x t i) where
 mem:=by simp
 obj:=λi h st b hb=>by
  obtain rfl:b=it:=by simpa using hb
  obtain⟨_,o,e,c,d⟩:=st;exact⟨o,e,λv z=>by rw[d]at z;cases z⟩
 keep:=λi h h2 st k=>⟨st.1,by obtain⟨_,o,e,r⟩:=st;exact⟨o,k it (by simp) o e,r⟩⟩
 item:=by intro X hP hw hK hc i pins s σ H E I hf st hg;subst hP hw hK;obtain⟨f0,f1,f2,f3,f4,f5⟩:=hf it (by simp);refine(hW X.A<|I.ok.hd hc).item i s _ _ hg st.2 λv h2 tk hv st2 kk=>?_;obtain⟨c,u,hc1,rfl⟩:=hv;have I1:Inv X pins σ H { s with heap:=h2,toks:=tk }:=I.turned (λb o hb e=>kk b o (by simpa using hb) e) f0 f1 f3 f4 f5;obtain⟨o,e,hcl,hd⟩:=id st2;exact⟨_,rfl,xm (s:={ s with heap:=h2,toks:=tk }) e hcl hd hn ⟨.str ⟨#[c]⟩,H,I1,⟨u,rfl⟩,⟨rfl,c,hc1,rfl⟩,⟨hg,st2⟩,λb hb=>(hf b hb).1⟩⟩
 done:=by intro X hP hw hK hc i pins s σ H E I hf st hg;subst hP hw hK;obtain⟨f0,f1,f2,f3,f4,f5⟩:=hf it (by simp);have hi:i=x.cps.size:=Nat.le_antisymm st.1 hg;have st2:=st.2;rw[hi]at st2;exact(hW X.A<|I.ok.hd hc).done s _ _ st2 λh2 tk kk=>⟨rfl,I.turned (λb o hb e=>kk b o (by simpa using hb) e) f0 f1 f3 f4 f5⟩
 self:=λA i s Q E st h=>hS A i s Q E st.2 h
def Zy(tl:TE):TI:=λσ H R=>tl σ H λx H1=>∃ z,x = .str z/\R (Its z) H1
def TH{l:Expr}{tl:TE}(hl:PE X l tl):PI X tg l (Zy tl):=by
 intro pins s σ H R I h;refine thn (hl pins s σ H _ I h) ?_;rintro v s1 ⟨x,H1,I1,r1,q1⟩;obtain⟨z,e,q⟩:=q1;subst e;obtain⟨t,rfl⟩:=r1;have fin:∀ b∈[s1.heap.objs.size],bH X pins H1 b:=λb hb=>by
  obtain rfl:b=s1.heap.objs.size:=by simpa using hb
  exact I1.fpOk (a1U _)<|I1.hok.fresh<|a1U _
 cases ha:z.cps.all (· < 128)
 ·exact wpAny_pyIter_wide ha ⟨s1.heap.objs.size,[s1.heap.objs.size],_,_,H1,rfl,I1.kept (t':=s1.toks) λb o e=>a1E _ e,uX _ "str_iterator" (by decide) (λA hA=>Walks.strWide hA _ z t) λA i s Q E st k=>wpAny_pyIter_striter_wide st k,⟨a2e _,_,a1P _ rfl,rfl,rfl⟩,fin,q⟩
 ·exact wpAny_pyIter_ascii ha ⟨s1.heap.objs.size,[s1.heap.objs.size],_,_,H1,rfl,I1.kept (t':=s1.toks) λb o e=>a1E _ e,uX _ "str_ascii_iterator" (by decide) (λA hA=>Walks.strAscii hA _ z t) λA i s Q E st k=>wpAny_pyIter_striter_ascii st k,⟨a2e _,_,a1P _ rfl,rfl,rfl⟩,fin,q⟩
def SX:SlR X (λx lo hi H Q=>∃ z,x = .str z/\z.length<=sizeLine/\Q (.str<|Txt.slice z lo hi) H):=by
 intro pins s σ H x v vl vu lo hi sl Q I rx hs pl pu h;obtain⟨z,rfl,hz,q⟩:=h;obtain⟨t,rfl⟩:=rx;refine⟨"str",_,PySem.F.slot_str_getitem.lookup,typeIs_str _ _ _,?_⟩;have fin:∀ t2 k,EP X pins σ Q (.str (Txt.slice z lo hi) t2) { s with toks:=k }:=λt2 k=>⟨.str _,H,I.tok k,⟨t2,rfl⟩,q⟩;have le:=a1N (Txt.slice_le z lo hi) hz;cases pl with
 | none=>cases pu with
  | none=>exact wpAny_getItem_str_slice (l:=none) (u:=none) (st:=none) hs rfl<|post_val_or_str ⟨le,fin⟩
  | int j u=>exact wpAny_getItem_str_slice (l:=none) (u:=some (j,u)) (st:=none) hs rfl<|post_val_or_str ⟨le,fin⟩
 | int i u=>cases pu with
  | none=>exact wpAny_getItem_str_slice (l:=some (i,u)) (u:=none) (st:=none) hs rfl<|post_val_or_str ⟨le,fin⟩
  | int j u2=>exact wpAny_getItem_str_slice (l:=some (i,u)) (u:=some (j,u2)) (st:=none) hs rfl<|post_val_or_str ⟨le,fin⟩
def zo:p9 X (.type "int") (λxs H Q=>∃ z n,xs=[.str z]/\PySem.intText? z=some n/\z.length<=640/\Q (.int n) H):=by intro pins s σ H xs us Q I rv h;obtain⟨z,n,rfl,hn,hl,q⟩:=h;obtain⟨u,rfl,ru⟩:=L5 rv;obtain⟨t,rfl⟩:=ru;exact PySem.W.KIN.call_text hn hl ⟨.int n,H,I.tok _,⟨_,rfl⟩,q⟩
def QN:j8 [.str a,.str b,.str c] [.str a t,.str b u,.str c v]:=.cons ⟨t,rfl⟩<|.cons ⟨u,rfl⟩<|.cons ⟨v,rfl⟩ .nil
def sT:MtR X "str.partition" (λx xs H Q=>∃ z y,x = .str z/\xs=[.str y]/\(y.length == 0)=false/\z.length<=sizeLine /\
  ∀ p,H p=none->Q (.ref p) (upd H p<|.tup [.str (Txt.partition z y).1,.str (Txt.partition z y).2.1,.str (Txt.partition z y).2.2])):=by
 intro pins s σ H x xs v us Q I rx rv h
 obtain⟨z,y,rfl,rfl,hy,hz,q⟩:=h
 obtain⟨t,rfl⟩:=rx
 obtain⟨u,rfl,ru⟩:=L5 rv
 obtain⟨t2,rfl⟩:=ru
 refine call_meets F.slot_str_partition (typeIs_str _ _ _) F.entry_str_partition (F.args_str_partition_2 _ _) (meets_str_partition z y t t2 hy hz) ?_
 have q2:=q s.heap.objs.size<|I.hok.fresh<|a1U _
 unfold Txt.partition at q2
 revert q2
 cases Builtin.Str.occurrences z y 0 z.length 1 with
 | nil=>exact λq2=>⟨.ref s.heap.objs.size,_,I.laid (o:=.tup _) (λb ob q=>a1E _ q) (a1U _) ⟨by show 3<=sizeLine;decide,_,QN,IsTup.new _ _⟩,rfl,q2⟩
 | cons i r=>exact λq2=>⟨.ref s.heap.objs.size,_,I.laid (o:=.tup _) (λb ob q=>a1E _ q) (a1U _) ⟨by show 3<=sizeLine;decide,_,QN,IsTup.new _ _⟩,rfl,q2⟩
theorem cY:∀(l:List (Str × Tok)),j8 ((l.map (·.1)).map V.str)<|strValues l
 | []=>.nil
 | p :: r=>.cons ⟨p.2,rfl⟩<|cY r
def IY:MtR X "str.zfill" (λx xs H Q=>∃ z n,x = .str z/\xs=[.int n]/\PadOk n=true/\Q (.str<|Txt.zfill z n) H):=by intro pins s σ H x xs v us Q I rx rv h;obtain⟨z,n,rfl,rfl,hp,q⟩:=h;obtain⟨t,rfl⟩:=rx;obtain⟨u,rfl,ru⟩:=L5 rv;obtain⟨t2,rfl⟩:=ru;exact SC.zfill hp λt3 k=>⟨.str _,H,I.tok k,⟨t3,rfl⟩,q⟩
def Ej:p9 X (.builtin "divmod") (λxs H Q=>∃ a b:Int,xs=[.int a,.int b]/\b≠0/\b.natAbs.log2<9000/\∀ p,H p=none->Q (.ref p) (upd H p<|.tup [.int<|a.fdiv b,.int<|a.fmod b])):=by
 intro pins s σ H xs us Q I rv h;obtain⟨a,b,rfl,hb,hl,q⟩:=h;obtain⟨u,v,rfl,⟨t,rfl⟩,⟨t2,rfl⟩⟩:=Gi rv;refine divmod_int hb ?_ (.inl<|PyProof.noPylong_of_log2 hl)
 ·exact⟨.ref s.heap.objs.size,_,I.laid (o:=.tup [.int<|a.fdiv b,.int<|a.fmod b]) (λb ob q=>a1E _ q) (a1U _) ⟨by show 2<=sizeLine;decide,[.int (a.fdiv b) _,.int (a.fmod b) _],.cons ⟨_,rfl⟩<|.cons ⟨_,rfl⟩ .nil,IsTup.new _ _⟩,rfl,q _<|I.hok.fresh<|a1U _⟩
def IZ:MtR X "str.split" (λx xs H Q=>∃ z y,x = .str z/\xs=[.str y]/\(y.length == 0)=false/\z.length+2<=sizeLine/\∀ p,H p=none->Q (.ref p) (upd H p<|.lst<|(Txt.split z y).map V.str)):=by
 intro pins s σ H x xs v us Q I rx rv h;obtain⟨z,y,rfl,rfl,hy,hz,q⟩:=h;obtain⟨t,rfl⟩:=rx;obtain⟨u,rfl,ru⟩:=L5 rv;obtain⟨t2,rfl⟩:=ru;have q2:=q s.heap.objs.size<|I.hok.fresh<|a1U _;have few:(Builtin.Str.partsBetween z (Builtin.Str.occurrences z y 0 z.length (z.length+1)) y.length).length<=sizeLine:=by grind[length_partsBetween,StrLaws.occ_length_le]
 have few2:(Txt.split z y).length<=sizeLine:=by grind[a1N,Txt.split]
 have fin:∀(l:List (Str × Tok)) k,l.map (·.1)=Txt.split z y->wants (EP X pins σ Q) X.xe (.ok<|.ret<|.ref s.heap.objs.size) { s with heap:=s.heap.push { cls:=.type "list",data:=.seq (strValues l).toArray },toks:=k }:=λl k e=>by refine⟨.ref s.heap.objs.size,_,I.laid (o:=.lst<|(Txt.split z y).map V.str) (λb ob q=>a1E _ q) (a1U _) ⟨by rw[a1H];exact few2,strValues l,0,by rw[<- e];exact cY l,a1P _ rfl⟩,rfl,q2⟩
 cases h1:(decide (z.length<y.length) || decide (Builtin.Str.strKind z<Builtin.Str.strKind y))
 ·cases hf:(Builtin.Str.occurrences z y 0 z.length (z.length+1)).isEmpty
  ·refine call_meets F.slot_str_split (typeIs_str _ _ _) F.entry_str_split (F.args_str_split_2 _ _) (meets_str_split_sep z y t t2 h1 hy hf (by omega) few) ?_;simp_all [strsFrom_eq,numbered_texts,strsFrom,Builtin.Str.partsBetween,Builtin.Str.occurrences,numbered,Txt.split]
  ·exact call_meets F.slot_str_split (typeIs_str _ _ _) F.entry_str_split (F.args_str_split_2 _ _) (meets_str_split_not_found z y t t2 h1 hy hf)<|fin [(z,t)] s.toks<|by unfold Txt.split;rw[h1,hf];rfl
 ·exact call_meets F.slot_str_split (typeIs_str _ _ _) F.entry_str_split (F.args_str_split_2 _ _) (meets_str_split_cannot_occur z y t t2 h1)<|fin [(z,t)] s.toks<|by unfold Txt.split;rw[h1];rfl
end L2
namespace DL
open PyProof.Rows hiding St
def RK:DRC:=λds M R=>∃ s:Str,ds=[.str s]/\s.length<=sizeLine/\R (.int (s.length:Int)) M
def KY:U7 X (.builtin "len") RK:=p9.imp tT λxs H Q ⟨ds,M,R,hl,am,⟨n,z,hn,r⟩,f⟩=>by subst z;obtain⟨v,rfl,hv⟩:=hl.one;cases hv;exact⟨n,rfl,hn,f _ M r _ H (KT.refl H) am<|.int _⟩
def RL:DRC:=λds M R=>∃(s:Str) (n:Int),ds=[.str s]/\PySem.intText? s=some n/\s.length<=640/\R (.int n) M
def KZ:U7 X (.type "int") RL:=p9.imp zo λxs H Q ⟨ds,M,R,hl,am,⟨s,n,z,hn,hk,r⟩,f⟩=>by subst z;obtain⟨v,rfl,hv⟩:=hl.one;cases hv;exact⟨s,n,rfl,hn,hk,f _ M r _ H (KT.refl H) am<|.int _⟩
def inS(i j:Str):Bool:=!(Builtin.Str.occurrences j i 0 j.length 1).isEmpty
def XY(neg:Bool):DR2:=λx y M R=>∃ i j,x = .str i/\y = .str j/\R (.bl (if neg then !inS i j else inS i j)) M
def IL:DOp X (compareOp .NotIn) (XY true):=by intro pins s σ H x y v u Q I rx ry h;obtain⟨dx,dy,M,R,hx,hy,am,⟨i,j,e1,e2,r⟩,f⟩:=h;subst e1;subst e2;cases hx;cases hy;exact si pins s σ H _ _ v u Q I rx ry ⟨i,j,rfl,rfl,f _ M r _ H (KT.refl H) am<|.bl _⟩
def UR(x y:D)(M:Mem)(R:DK):Prop:=∃(z:Str) (i:Nat) (c:Nat),x = .str z/\y = .int (i:Int)/\i<2 ^ 62/\z.cps[i]? = some c/\R (.str ⟨#[c]⟩) M
def Yq(ta tb:DTE):DTE:=λe M R=>ta e M λx M1=>tb e M1 λy M2=>UR x y M2 R
def UE(ha:JE X a ta)(hb:JE X b tb)(hs:xM b:=by intro _ _;with_unfolding_all rfl):JE X (.Subscript a b pos) (Yq ta tb) :=
 ⟨(we ha.out hb.out hs).imp λσ H Q ⟨e,M,R,ok,am,t,f⟩=>⟨e,M,_,ok,am,t,λx M1 h1 v H1 k1 a1 r1=>⟨e,M1,_,ok.mono k1,a1,h1,λy M2 ⟨z,i,c,e1,e2,hi,hc,r⟩ u H2 k2 a2 r2=>by
  subst e1;subst e2;cases r1;cases r2;have hl:i<z.cps.size:=by grind
  exact⟨z,(i:Int),c,rfl,rfl,a2J _,by omega,by show(i:Int)<(z.cps.size:Int);omega,by rw[a2z];exact hc,f _ M2 r _ H2 (k1.trans k2) a2<|.str _⟩⟩⟩⟩
def UQ(x:D)(lo hi:Option Int)(M:Mem)(R:DK):Prop:=∃ z,x = .str z/\z.length<=sizeLine/\R (.str<|Txt.slice z lo hi) M
def Yj(te:DTE)(tl th:DTO):DTE:=λe M R=>te e M λx M1=>tl e M1 λl M2=>th e M2 λu M3=>UQ x l u M3 R
def yN{e:Expr}{te:DTE}{lo hi:Option Expr}{tl th:DTO}(he:JE X e te)(hl:JO X lo tl)(hu:JO X hi th):JE X (.Subscript e (.Slice lo hi none p2) pos) (Yj te tl th) :=
 ⟨(wc SX he.out hl.out hu.out).imp λσ H Q ⟨e,M,R,ok,am,t,f⟩=>⟨e,M,_,ok,am,t,λx M1 h1 v H1 k1 a1 r1=>⟨e,M1,_,ok.mono k1,a1,h1,λl M2 h2 H2 k2 a2=>⟨e,M2,_,(ok.mono k1).mono k2,a2,h2,λu M3 ⟨z,e1,hz,r⟩ H3 k3 a3=>by subst e1;cases r1;exact⟨z,rfl,hz,f _ M3 r _ H3 (k1.trans<|k2.trans k3) a3<|.str _⟩⟩⟩⟩⟩
def sgD(x:Str):List D:=x.cps.toList.map λc=>D.str ⟨#[c]⟩
def RR(ti:DTE):DTI:=λe M R=>ti e M λx M1=>∃ z,x = .str z/\R (sgD z) (λ_=>True) M1
def Gd{K:a1C}{H1:Hp}{z:Str}:oZ K H1 (Its z) (sgD z) (λ_=>True) where
 go:=λi H2 M2 hi k am st=>by unfold sgD at hi;rw[a1H,Array.length_toList]at hi;exact hi
 yld:=λi H2 M2 x H3 hi k am st ⟨e,c,hc,hx⟩=>by subst e;subst hx;exact⟨.str ⟨#[c]⟩,by unfold sgD;rw[a1S,Array.getElem?_toList,hc];rfl,KT.refl _,am,.str _⟩
 stop:=λi H2 M2 hi k am st=>by unfold sgD at hi;rw[a1H,Array.length_toList]at hi;exact hi
 up:=λ_ _ _ _ _=>trivial
def OF(hi:JE X iter ti):JI X tg iter (RR ti):=⟨PI.imp (TH hi.out) λσ H R ⟨e,M,R1,ok,am,t,f⟩=>⟨e,M,_,ok,am,t,λx M1 ⟨z,e1,r⟩ v H1 k1 a1 r1=>by subst e1;cases r1;exact⟨z,rfl,f _ _ M1 r H1 k1 a1 _ Gd⟩⟩⟩
def Vj(g:Str->List D->Mem->DK->Prop)(to:DTE)(t:DTA):DTE:=λe M R=>to e M λx M1=>∃ z,x = .str z/\t e M1 λxs M2=>g z xs M2 R
def RI(z:Str)(xs:List D)(M:Mem)(R:DK):Prop:=∃ y:Str,xs=[.str y]/\(y.length == 0)=false/\z.length<=sizeLine/\R (.tup [.str (Txt.partition z y).1,.str (Txt.partition z y).2.1,.str (Txt.partition z y).2.2]) M
def JD(z:Str)(xs:List D)(M:Mem)(R:DK):Prop:=∃ y:Str,xs=[.str y]/\(y.length == 0)=false/\z.length+2<=sizeLine/\R (.vl<|(Txt.split z y).map D.str) M
def Tn(r:V->List V->Hp->VK->Prop)(K:a1C)(g:Str->List D->Mem->DK->Prop):Prop:=∀(z:Str) (xs:List D) (M:Mem) (R:DK) (H H0:Hp) (Q:VK) (vs:List V),g z xs M R->l7 K H M->HasL K H vs xs->KT H0 H->ik K H0 R Q->r (.str z) vs H Q
def Jo{n:Str}{id:String}{r:V->List V->Hp->VK->Prop}{g:Str->List D->Mem->DK->Prop}(slot:PySem.Slot "str" n id)(hty:typeOf (.builtin id)=pure (.type "method_descriptor"))(hm:MtR X id r)(hg:Tn r X.K g)(ho:JE X o to)(ha:JA X [e] t)
  (hbase:attributeBase o n X.env (eval o X.env)=eval o X.env:=by rfl)
  (hfew:((backTo cpos<|starEach [e] X.env).all (λx=>!x.1) && (backToKw cpos<|keywordEach [] X.env).all (λx=>x.1.isSome)
   && decide ([e].length+([]:List Keyword).length+(if ([]:List Keyword).isEmpty then 0 else 1)<30))=true:=by rfl)
  (hline:(apos.endLine == cpos.line)=true:=by rfl) (hs:starEach [e] X.env=(false,eval e X.env) :: starEach [] X.env:=by rfl) (hplain:(backTo cpos<|starEach [] X.env).any (·.1)=false:=by rfl) :
  JE X (.Call (.Attribute o n apos) [e] [] cpos) (Vj g to t) :=
 ⟨(wj PySem.F.plainAttrs_str slot hty hm ho.out ha.out hbase hfew hline hs hplain).imp λσ H Q ⟨e,M,R,ok,am,t,f⟩=>⟨e,M,_,ok,am,t,λx M1 ⟨z,e1,h1⟩ v H1 k1 a1 r1=>by subst e1;cases r1;exact⟨rfl,e,M1,_,ok.mono k1,a1,h1,λzs M2 h2 vs H2 k2 a2 r2=>hg z zs M2 R H2 H Q vs h2 a2 r2 (k1.trans k2) f⟩⟩⟩
def wb{K:a1C}:Tn (λx xs H Q=>∃ z y,x = .str z/\xs=[.str y]/\(y.length == 0)=false/\z.length<=sizeLine /\
  ∀ p,H p=none->Q (.ref p) (L2.upd H p<|.tup [.str (Txt.partition z y).1,.str (Txt.partition z y).2.1,.str (Txt.partition z y).2.2])) K RI:=λz xs M R H H0 Q vs ⟨y,e,hy,hz,r⟩ am l k f=>by
 subst e
 obtain⟨v,rfl,hv⟩:=l.one
 cases hv
 exact⟨z,y,rfl,rfl,hy,hz,λp hp=>f _ M r _ _ (k.trans<|KT.alloc hp) (am.alloc hp)<|.tup (SqT.of i5)<|.cons (.str _)<|.cons (.str _)<|.cons (.str _) .nil⟩
theorem qo{K:a1C}{H:Hp}:∀(ys:List Str),HasL K H (ys.map V.str)<|ys.map D.str
 | []=>.nil
 | _ :: ys=>.cons (.str _)<|qo ys
def Jn(hn:n = "split")(slot:PySem.Slot "str" n "str.split")(ho:JE X o to)(ha:JA X [e] t)
  (hbase:attributeBase o n X.env (eval o X.env)=eval o X.env:=by rfl)
  (hfew:((backTo cpos<|starEach [e] X.env).all (λx=>!x.1) && (backToKw cpos<|keywordEach [] X.env).all (λx=>x.1.isSome)
   && decide ([e].length+([]:List Keyword).length+(if ([]:List Keyword).isEmpty then 0 else 1)<30))=true:=by rfl)
  (hline:(apos.endLine == cpos.line)=true:=by rfl) (hs:starEach [e] X.env=(false,eval e X.env) :: starEach [] X.env:=by rfl) (hplain:(backTo cpos<|starEach [] X.env).any (·.1)=false:=by rfl) :
  JE X (.Call (.Attribute o n apos) [e] [] cpos) (Vj JD to t) :=
 ⟨(W1<|wj PySem.F.plainAttrs_str slot PySem.F.type_str_split IZ ho.out ha.out hbase hfew hline hs hplain).imp λσ H Q ⟨e,M,R,ok,am,t,f⟩=>⟨e,M,_,ok,am,t,λx M1 ⟨z,e1,h1⟩ v H1 k1 a1 r1=>by subst e1;cases r1;refine⟨rfl,e,M1,_,ok.mono k1,a1,h1,?_⟩;rintro zs M2 ⟨y,e2,hy,hz,r⟩ vs H2 k2 a2 r2;subst e2;obtain⟨v,rfl,hv⟩:=r2.one;cases hv;exact⟨z,y,rfl,rfl,hy,hz,λp hp=>P2 f (k1.trans k2) a2 (qo _) r p hp⟩⟩⟩
def Nz{K:a1C}:Tn (λx xs H Q=>∃ z n,x = .str z/\xs=[.int n]/\PadOk n=true/\Q (.str<|Txt.zfill z n) H) K (λz xs M R=>∃ n,xs=[.int n]/\PadOk n=true/\R (.str<|Txt.zfill z n) M):=λz xs M R H H0 Q vs ⟨y,e,hp,r⟩ am l k f=>by subst e;obtain⟨v,rfl,hv⟩:=l.one;cases hv;exact⟨z,y,rfl,rfl,hp,f _ M r _ H k am<|.str _⟩
def Es:bootBuiltins "divmod" = some (.builtin "divmod"):=by rfl
def Ct:DRC:=λds M R=>∃ a b:Int,ds=[.int a,.int b]/\CFd a b/\R (.tup [.int<|a.fdiv b,.int<|a.fmod b]) M
def La:U7 X (.builtin "divmod") Ct:=p9.imp Ej λxs H Q ⟨ds,M,R,hl,am,⟨a,b,z,⟨h0,hn⟩,r⟩,f⟩=>by subst z;obtain⟨v,v2,rfl,hv,hv2⟩:=hl.two;cases hv;cases hv2;exact⟨a,b,rfl,h0,hn,λp hp=>f _ M r _ _ (KT.alloc hp) (am.alloc hp)<|.tup (SqT.of i5)<|.cons (.int _)<|.cons (.int _) .nil⟩
def FN:RK [.str s] M R=(s.length<=sizeLine/\R (.int (s.length:Int)) M):=propext ⟨λ⟨_,a,c,r⟩=>by cases a;exact⟨c,r⟩,λ⟨c,r⟩=>⟨_,rfl,c,r⟩⟩
def FO:RL [.str s] M R=(∃ n,PySem.intText? s=some n/\s.length<=640/\R (.int n) M):=propext ⟨λ⟨_,n,a,b,c,r⟩=>by cases a;exact⟨n,b,c,r⟩,λ⟨n,b,c,r⟩=>⟨_,n,rfl,b,c,r⟩⟩
def Qz:XY neg (.str i) (.str j) M R=R (.bl<|neg.xor<|inS i j) M:=propext ⟨λ⟨_,_,a,b,r⟩=>by cases a;cases b;cases neg<;>simpa using r,λr=>⟨_,_,rfl,rfl,by cases neg<;>simpa using r⟩⟩
def Qx:Yq ta tb e M R=ta e M λx M1=>tb e M1 λy M2=>UR x y M2 R:=rfl
def OV(h0:0<=i)(h1:i<1000000)(hc:z.cps[i.toNat]? = some c)(r:R (.str ⟨#[c]⟩) M):UR (.str z) (.int i) M R:=⟨z,i.toNat,c,rfl,by rw[Int.toNat_of_nonneg h0],by omega,hc,r⟩
def Qm:Yj ta tl th e M R=ta e M λx M1=>tl e M1 λl M2=>th e M2 λu M3=>UQ x l u M3 R:=rfl
def Fj{z:Str}{lo hi:Option Int}:UQ (.str z) lo hi M R=(z.length<=sizeLine/\R (.str<|Txt.slice z lo hi) M):=propext ⟨λ⟨_,a,c,r⟩=>by cases a;exact⟨c,r⟩,λ⟨c,r⟩=>⟨_,rfl,c,r⟩⟩
def YG(x:D)(M:Mem)(Q:List D->(Mem->Prop)->Mem->Prop):Prop:=∃ z,x = .str z/\Q (sgD z) (λ_=>True) M
def Fs:YG (.str z) M Q=Q (sgD z) (λ_=>True) M:=propext ⟨λ⟨_,a,r⟩=>by cases a;exact r,λr=>⟨_,rfl,r⟩⟩
def AB:RR ta e M Q=ta e M λx M1=>YG x M1 Q:=rfl
def YH(x:D)(P:Str->Prop):Prop:=∃ z,x = .str z/\P z
def Ft:YH (.str z) P=P z:=propext ⟨λ⟨_,a,r⟩=>by cases a;exact r,λr=>⟨_,rfl,r⟩⟩
def Qt:Vj g to t e M R=to e M λx M1=>YH x λz=>t e M1 λxs M2=>g z xs M2 R:=rfl
def Ax:RI z [.str y] M R=((y.length == 0)=false/\z.length<=sizeLine/\R (.tup [.str (Txt.partition z y).1,.str (Txt.partition z y).2.1,.str (Txt.partition z y).2.2]) M):=propext ⟨λ⟨_,a,r⟩=>by cases a;exact r,λr=>⟨_,rfl,r⟩⟩
def uN:JD z [.str y] M R=((y.length == 0)=false/\z.length+2<=sizeLine/\R (.vl<|(Txt.split z y).map D.str) M):=propext ⟨λ⟨_,a,r⟩=>by cases a;exact r,λr=>⟨_,rfl,r⟩⟩
def pP:Ct [.int a,.int b] M R=(CFd a b/\R (.tup [.int<|a.fdiv b,.int<|a.fmod b]) M):=propext ⟨λ⟨_,_,z,r⟩=>by cases z;exact r,λr=>⟨_,_,rfl,r⟩⟩
def noX(sp:DSp):DSp:=λds M R _=>sp ds M R λ_ _=>False
def Qc:noX sp ds M R Y=sp ds M R λ_ _=>False:=rfl
end DL
namespace GM
def Up(a b:String):a1B (a++b)=a1B a++a1B b:=by rw[a3I,a3I,a3I];show Str.mk _=Str.mk _;simp
def MV{a b:Str}(h:a.cps=b.cps):a=b:=by cases a;cases b;exact congrArg Str.mk h
def YN(a b:Str):(a++b).cps=a.cps++b.cps:=rfl
theorem w6(a b:Str):(a++b).length=a.length+b.length:=by show(a.cps++b.cps).size=_;rw[Array.size_append];rfl
def sS(a:Str):a1B "" ++ a=a:=MV<|by show #[]++a.cps=a.cps;simp
def tx(n:Int):Str:=a1B<|toString n
def K4(hk:0<k)(h:n.natAbs<10 ^ k):(tx n).length<=k+1:=by unfold tx;rw[ofString_length];exact int_text_length_le10 hk h
def qD(n:Int):(if n<0 then a1B "-" else a1B "")++tx (n.natAbs:Int)=tx n:=by
 cases n with
 | ofNat m =>rw[if_neg<|by show ¬ (m:Int)<0;omega,sS];rfl
 | negSucc m =>rw[if_pos<|Int.negSucc_lt_zero m];unfold tx;rw[<- Up];rfl
def rtx(q:Rat):Str:=if q.den=1 then tx q.num else tx q.num++a1B "/" ++ tx (q.den:Int)
def B4:1000000<=sizeLine:=by decide
open PySem.NumText
def isF(c:Nat):Bool:=decide (48<=c) && decide (c<=57)
def R6(cs:List Nat):Bool:=!cs.isEmpty && (cs.drop 300).isEmpty && cs.all isF && (decide (cs=[48]) || decide (cs.head? ≠ some 48))
def W7(cs:List Nat):R6 cs=(decide (cs.length≠0) && decide (cs.length<=300) && cs.all isF && (decide (cs=[48]) || decide (cs.head? ≠ some 48))):=by
 have h1:(!cs.isEmpty)=decide (cs.length≠0):=by cases cs<;>simp
 have h2:(cs.drop 300).isEmpty=decide (cs.length<=300):=by rw[a3n,a5z,List.drop_eq_nil_iff,decide_eq_true_eq]
 unfold R6;rw[h1,h2]
def rdW(cs:List Nat):Option Int:=if R6 cs then some (digitsVal cs:Nat)else match cs with
 | 45 :: r=>if R6 r && decide (r≠[48])then some (-((digitsVal r:Nat):Int))else none
 | _=>none
def Zo:Option Int->D
 | some n=>.int n
 | none=>.non
def G2(c:Nat)(cs:List Nat):List Nat × Bool × List Nat:=(cs.takeWhile (· != c),decide (c∈cs),(cs.dropWhile (· != c)).tail)
def Ba(cs:List Nat):Option (Int × Nat):=match rdW (G2 47 cs).1,(if (G2 47 cs).2.1 then rdW (G2 47 cs).2.2 else some 1)with
 | some n,some d=>if decide (1<=d) && decide (a2i n.natAbs d.natAbs=1) && decide ((G2 47 cs).2.2≠[49])then some (n,d.natAbs)else none
 | _,_=>none
def rdR(cs:List Nat):Option Rat:=(Ba cs).map λp=>mkRat p.1 p.2
abbrev sg(s:Str):List Nat:=s.cps.toList
def lA(h:sg s=sg t):s=t:=by cases s;simp_all
def QT(cs:List Nat):sg ⟨cs.toArray⟩=cs:=rfl
theorem A7(s:Str):(sg s).length=s.length:=Array.length_toList
def UY(c:Nat):inS ⟨#[c]⟩ (a1B "0123456789")=isF c:=by
 unfold inS;rw[StrLaws.found_one];rw[show(a1B "0123456789").cps.toList=[48,49,50,51,52,53,54,55,56,57]by rw[0]];unfold isF;rw[<- Bool.decide_and];refine decide_eq_decide.mpr ⟨λh=>?_,λh=>?_⟩
 ·simp at h;omega
 ·simp;omega
def kH(h:R6 cs=true):(0<cs.length/\cs.length<=300)/\AllDigits cs/\(cs=[48]\/cs.head? ≠ some 48):=by rw[W7]at h;simp only[a25,a2S,decide_eq_true_eq]at h;obtain⟨⟨⟨h1,h2⟩,h3⟩,h4⟩:=h;refine⟨⟨by omega,h2⟩,λc hc=>?_,h4⟩;simp_all [a4J,isF]
def CB(h:R6 (sg s)=true):PySem.intText? s=some ((digitsVal (sg s):Nat):Int):=by obtain⟨⟨h1,h2⟩,h3,_⟩:=kH h;exact intText_digits h3 (λe=>by rw[show sg s=[]from e]at h1;exact absurd h1<|by decide)<|by rw[<- A7];omega
def UL(j n:Nat):Builtin.Str.strSliceIndices none (some (j:Int)) 1 n=Builtin.Str.strSliceIndices none (some ((min j n:Nat):Int)) 1 n:=by grind[min,max,Builtin.Str.strSliceIndices]
def UK(i n:Nat):Builtin.Str.strSliceIndices (some (i:Int)) none 1 n=Builtin.Str.strSliceIndices (some ((min i n:Nat):Int)) none 1 n:=by grind[min,max,Builtin.Str.strSliceIndices]
def WW(s:Str)(j:Nat):sg (Txt.slice s none<|some (j:Int))=(sg s).take j:=by
 have e:Txt.slice s none (some (j:Int))=StrLaws.sliceText s none (some<|(min j s.length:Nat)):=by unfold Txt.slice StrLaws.sliceText;rw[UL]
 have hl:s.cps.toList.length=s.length:=A7 s;rw[e,StrLaws.sliceText_to ⟨by omega,by omega⟩,QT,a44,Int.sub_zero,a2z];grind
def MX(s:Str)(i:Nat):sg (Txt.slice s (some (i:Int)) none)=(sg s).drop i:=by
 have e:Txt.slice s (some (i:Int)) none=StrLaws.sliceText s (some<|(min i s.length:Nat)) none:=by unfold Txt.slice StrLaws.sliceText;rw[UK]
 have hl:s.cps.toList.length=s.length:=A7 s;rw[e,StrLaws.sliceText_from ⟨by omega,by omega⟩,QT,a2z];simp_all [a2O,a2F,A7,Nat.le_total,a38,a4I,a4N,a1U,sg]
def qH(h:n<=100000):n<=sizeLine:=by rw[sizeLine_eq];omega
def BP(h:R6 cs=true):rdW cs=some ((digitsVal cs:Nat):Int):=by unfold rdW;rw[if_pos h]
def Nv(h:R6 (45 :: r)=false):rdW (45 :: r)=if R6 r && decide (r≠[48])then some (-((digitsVal r:Nat):Int))else none:=by simp_all [if_neg,rdW]
def Tg(h:R6 cs=false)(h2:cs.take 1≠[45]):rdW cs=none:=by
 unfold rdW;rw[if_neg<|by rw[h];decide];split
 ·exact absurd rfl h2
 ·rfl
def WX:s=t↔sg s=sg t:=⟨λh=>by rw[h],lA⟩
def Gw:cs.take 1=[c] ↔ ∃ r,cs=c :: r:=by
 cases cs with
 | nil=>exact⟨λh=>(by cases h),λ⟨r,e⟩=>(by cases e)⟩
 | cons a r=>exact⟨λh=>⟨r,(by cases h;rfl)⟩,λ⟨r',e⟩=>(by cases e;rfl)⟩
example kn Rq Aq(s:Str):[.str s]:=s.length<=100000/\R (.bl<|R6<|sg s) M
example eC Ht uv(s:Str):[.str s]:=s.length<=100000/\R (Zo<|rdW<|sg s) M
theorem Bd:∀{l:List Nat} {i:Nat},l[i]? = some c->(∀ k,k<i->l[k]? ≠ some c)->l.takeWhile (· != c)=l.take i
 | [],i,h,_=>by simp at h
 | k :: r,0,h,_=>by simp_all
 | k :: r,i+1,h,hn=>by have h1:k≠c:=λe=>hn 0 (by omega) (by simp[e]);rw[a2N<|by simp[h1],Bd (by simpa using h) λj hj=>by have:=hn (j+1) (by omega);simpa using this];rfl
theorem gk:∀{l:List Nat},c∉l->l.takeWhile (· != c)=l
 | [],_=>rfl
 | k :: r,h=>by have h1:k≠c:=λe=>h<|e▸a1M ..;rw[a2N<|by simp[h1],gk λm=>h<|a1O _ m]
def NR(x:Str)(c:Nat):sg (Txt.partition x ⟨#[c]⟩).1=(G2 c<|sg x).1/\(Txt.partition x ⟨#[c]⟩).2.1=(if (G2 c<|sg x).2.1 then⟨#[c]⟩else a3o)/\sg (Txt.partition x ⟨#[c]⟩).2.2=(G2 c<|sg x).2.2:=by
 unfold Txt.partition G2;rcases StrLaws.occ_head x ⟨#[c]⟩ 1 (a1U 1)with⟨h0,hn⟩|⟨i,r,h0,hi,hn⟩
 ·have hfree:c∉sg x:=λhm=>by
   obtain⟨j,hj⟩:=a2C hm
   exact hn j<|(StrLaws.subAt_one x c j).mpr hj
  rw[h0]
  refine⟨(gk hfree).symm,?_,?_⟩
  ·show a3o=_;rw[if_neg<|by rw[decide_eq_true_eq];exact hfree]
  ·show[]=_;rw[PyProof.Rows.dropWhile_none hfree];rfl
 ·rw[h0]
  have hm:=(StrLaws.subAt_one x c i).mp hi;have hk:∀ k,k<i->(sg x)[k]? ≠ some c:=λk hk e=>hn k hk<|(StrLaws.subAt_one x c k).mpr e
  refine⟨?_,?_,?_⟩
  ·show(Builtin.Str.strSub x 0 i).cps.toList=_;rw[StrLaws.strSub_toList,Bd hm hk];rfl
  ·show(⟨#[c]⟩:Str)=_;rw[if_pos<|by rw[decide_eq_true_eq];exact a1K hm]
  ·show(Builtin.Str.strSub x (i+1) x.length).cps.toList=_;rw[StrLaws.strSub_toList,PyProof.Rows.dropWhile_at hm hk];show _=x.cps.toList.drop (i+1);exact a2O<|by simp[Str.length]
def Pj(c:Nat)(cs:List Nat):(G2 c cs).1.length<=cs.length/\(G2 c cs).2.2.length<=cs.length:=by refine⟨(List.takeWhile_sublist _).length_le,?_⟩;have:=(a4O (l:=cs) (· != c)).length_le;unfold G2;rw[List.length_tail];omega
def Th(h:(decide (1<=d) && decide (a2i n.natAbs d.natAbs=1))=true):D.tup [.int n,.int d]=d6 (mkRat n d.natAbs):=by rw[a25,decide_eq_true_eq,decide_eq_true_eq]at h;obtain⟨k,rfl⟩:=a4B (show 0<=d by omega);have h2:a2i n.natAbs k=1:=h.2;have e:mkRat n k = ⟨n,k,by omega,h2⟩:=Rat.mkRat_self ⟨n,k,by omega,h2⟩;show _=d6 (mkRat n k);rw[e];rfl
def wX(w:Str)(q:Rat):Bool:=if w=a1B "gap" then decide (0<=q.num)else if w=a1B "stop" then decide (0<q.num)else decide (w=a1B "glass")
def Exd(M M':Mem):Prop:=∀ a o,M a=some o->M' a=some o
example jZ Rm Ak(w:Str)(q:Rat):[.str w,d6 q]:=R (.bl<|wX w q) M
def iB(m:Nat):sg (tx (m:Int))=(Nat.toDigits 10 m).map Char.toNat:=PySem.W.KIN.signs_num m
def Z9(m:Nat):AllDigits (sg<|tx (m:Int)):=λc hc=>by rw[iB]at hc;obtain⟨ch,hch,e⟩:=a17.mp hc;have h:=Nat.isDigit_of_mem_toDigits (by decide) (by decide) hch;rw[<- e];simp only[Char.isDigit,a25,decide_eq_true_eq]at h;assumption
def nq:∀ b a,digitsVal (a++b)=digitsVal a*10 ^ b.length+digitsVal b
 | [],a=>by simp[a2g,digitsVal]
 | c :: b,a=>by have h1:=nq b<|a++[c];have h2:=nq b [c];grind[a2H,digitsVal_snoc,a1V,a2Y,digitsVal]
def Em:∀ x,x<58->(Char.ofNat x).toNat=x:=by decide
def cO(h:AllDigits cs):(cs.map Char.ofNat).map Char.toNat=cs:=by
 rw[a2k];conv=>rhs;rw[<- a5C cs]
 exact a4a λx hx=>Em x<|by have:=h x hx;omega
def yZ(k:Nat)(b:List Nat):digitsVal (a16 k 48++b)=digitsVal b:=by
 induction k with
 | zero=>rfl
 | succ k ih=>rw[a2G,a3T,digitsVal_zero,ih]
def bx(m:Nat):digitsVal (sg<|tx (m:Int))=m:=by simp[iB,PySem.W.KIN.val_back]
def qE{m:Nat}(h:0<m):∃ c r,sg (tx (m:Int))=c :: r/\49<=c:=by
 have h1:=toDigits_all _<|Z9 m;rw[bx]at h1;have h2:=iB m;rw[h1]at h2;cases hd:(sg<|tx m).dropWhile (· == 48)with
 | nil =>rw[hd]at h1;have e:=(PySem.W.KIN.val_back m).symm;rw[h1]at e;have:m=0:=e;omega
 | cons c r =>
  rw[hd]at h2;have hm:∀ x∈c :: r,48<=x/\x<=57:=λx hx=>Z9 m x ((a4O _).subset<|by rw[hd];exact hx);have e:=cO hm;refine⟨c,r,?_,?_⟩
  ·rw[h2];exact e
  ·have h3:=hm c a1M
   have h4:(c == 48)=false:=by have:=List.head?_dropWhile_not (p:=(· == 48))<|sg<|tx m;rw[hd]at this;simpa using this
   have:c≠48:=by simpa using h4
   omega
def Gm{r:Nat}(h:10 ^ 60<=r):tx (r:Int)=tx ((r / 10 ^ 60:Nat):Int)++Txt.zfill (tx ((r % 10 ^ 60:Nat):Int)) 60:=by
 have ha:0<r / 10 ^ 60:=Nat.div_pos h (by decide);have hb:r % 10 ^ 60<10 ^ 60:=a40 _ (by decide);generalize hA:r / 10 ^ 60=a at *
 generalize hB:r % 10 ^ 60=b at *
 have hr:r=a*10 ^ 60+b:=by rw[<- hA,<- hB];omega
 have lb:(sg<|tx (b:Int)).length<=60:=by rw[iB,a1H];exact(a3t (by decide)<|by decide).mpr hb
 have ez:sg (Txt.zfill (tx (b:Int)) 60)=a16 (60 - (sg<|tx (b:Int)).length) 48++sg (tx (b:Int)):=by
  unfold Txt.zfill;split
  ·rename_i hl
   have:(sg<|tx (b:Int)).length=60:=by rw[A7]at lb ⊢;omega
   rw[this];rfl
  ·unfold zfilled
   have n0:∀ c,(tx (b:Int)).cps[0]? = some c->c≠43/\c≠45:=λc hc=>by have:=Z9 b c (by rw[<- Array.getElem?_toList]at hc;exact a1K hc);omega
   split
   ·rename_i q;exact absurd rfl (n0 _ q).1
   ·rename_i q;exact absurd rfl (n0 _ q).2
   ·show(Array.replicate _ 48++(tx (b:Int)).cps++Array.replicate 0 48).toList=_;rw[Array.toList_append,Array.toList_append,A7];show(Array.replicate _ 48).toList++_++[]=_;rw[a2g,Array.toList_replicate];rfl
 have ad:AllDigits (sg (tx (a:Int))++(a16 (60 - (sg<|tx (b:Int)).length) 48++sg (tx (b:Int)))):=λc hc=>by
  rcases a10.mp hc with q|q
  ·exact Z9 a c q
  ·rcases a10.mp q with q|q
   ·rw[List.eq_of_mem_replicate q];decide
   ·exact Z9 b c q
 have dv:digitsVal (sg (tx (a:Int))++(a16 (60 - (sg<|tx (b:Int)).length) 48++sg (tx (b:Int))))=r:=by rw[nq,yZ,bx,bx,a1V,a28,Nat.sub_add_cancel lb,hr]
 obtain⟨c,rr,e1,e2⟩:=qE ha;refine lA ?_;rw[show sg (tx (a:Int)++Txt.zfill (tx (b:Int)) 60)=sg (tx (a:Int))++sg (Txt.zfill (tx (b:Int)) 60)from Array.toList_append,ez];generalize hcs:sg (tx (a:Int))++(a16 (60 - (sg<|tx (b:Int)).length) 48++sg (tx (b:Int)))=cs at *
 rw[iB,<- dv];have hl:∃ r2,cs=c :: r2:=⟨_,by rw[<- hcs,e1];rfl⟩;obtain⟨r2,h2⟩:=hl;rw[toDigits_digitsVal r2.length cs (by rw[h2];rfl) ad<|.inr ⟨c,r2,h2,e2⟩,cO ad]
theorem Cu:∀(xs:List Str) a,(xs.foldl (λacc p=>acc++(a1B "").cps++p.cps) a).toList=a.toList++(xs.map sg).flatten
 | [],a=>by simp
 | x :: xs,a=>by rw[a31,Cu xs,a1Z,a3b,Array.toList_append,Array.toList_append];show(a.toList++[]++_)++_=_;simp
def OG(xs:List Str):sg (Txt.join (a1B "") xs)=(xs.map sg).flatten:=by
 cases xs with
 | nil=>rfl
 | cons x xs=>exact Cu xs x.cps
def Jh{ps:List Str}(h:∀ y∈ps,y.length<=60):(ps.map (·.length)).sum<=60*ps.length:=by
 induction ps with
 | nil=>exact a2e _
 | cons x xs ih =>rw[a1Z,a4C,a15];have:=ih λy hy=>h y<|a1O _ hy;have:=h x a1M;omega
def Ye(r k:Nat):(r:Int).fdiv (k:Int)=((r / k:Nat):Int):=by rw[a4e _<|a2J k];rfl
def Yc(r k:Nat):(r:Int).fmod (k:Int)=((r % k:Nat):Int):=by rw[a4c _<|a2J k];rfl
def MQ:(10:Int) ^ a4q 60=((10 ^ 60:Nat):Int):=by rfl
def SD{r:Nat}(h:10 ^ 60<=r):(Txt.zfill (tx ((r % 10 ^ 60:Nat):Int)) 60).length+(tx ((r / 10 ^ 60:Nat):Int)).length=(tx (r:Int)).length/\(Txt.zfill (tx ((r % 10 ^ 60:Nat):Int)) 60).length=60:=by
 have e:=congrArg Str.length<|Gm h;rw[w6]at e;refine⟨by omega,?_⟩;have lb:(tx ((r % 10 ^ 60:Nat):Int)).length<=60:=by rw[<- A7,iB,a1H];exact(a3t (by decide)<|by decide).mpr (a40 _<|by decide)
 unfold Txt.zfill;split
 ·omega
 ·unfold zfilled
  have n0:∀ c,(tx ((r % 10 ^ 60:Nat):Int)).cps[0]? = some c->c≠43/\c≠45:=λc hc=>by have:=Z9 (r % 10 ^ 60) c (by rw[<- Array.getElem?_toList]at hc;exact a1K hc);omega
  split
  ·rename_i q;exact absurd rfl (n0 _ q).1
  ·rename_i q;exact absurd rfl (n0 _ q).2
  ·show(Array.replicate _ 48++(tx ((r % 10 ^ 60:Nat):Int)).cps++Array.replicate 0 48).size=60;rw[Array.size_append,Array.size_append,Array.size_replicate,Array.size_replicate];show(60 - (tx ((r % 10 ^ 60:Nat):Int)).length)+(tx ((r % 10 ^ 60:Nat):Int)).length+0=60;omega
example rq WZ ED(n:Int):[.int n]:=n.natAbs<10 ^ 5000/\R (.str<|tx n) M
example rF Xe EL(q:Rat):[d6 q]:=(q.num.natAbs<10 ^ 5000/\q.den<10 ^ 5000)/\R (.str<|rtx q) M
def cC(y:List Nat):Nat->List Nat->List Nat->List (List Nat)
 | 0,cs,acc=>[acc.reverse++cs]
 | n+1,cs,acc=>match cs with
  | []=>[acc.reverse]
  | c :: r=>if y.isPrefixOf (c :: r)then acc.reverse :: cC y n ((c :: r).drop y.length) []else cC y n r (c :: acc)
def mkS(cs:List Nat):Str:=⟨cs.toArray⟩
def qI(x:Str)(a b:Nat):sg (Builtin.Str.strSub x a b)=((sg x).drop a).take (b - a):=StrLaws.strSub_toList x a b
def Le(hy:1<=y.length):StrLaws.At x y x.length a↔(sg y).isPrefixOf ((sg x).drop a)=true:=by
 rw[List.isPrefixOf_iff_prefix,List.prefix_iff_eq_take];unfold StrLaws.At;have e:Builtin.Str.subAt x y a=true↔((sg x).drop a).take y.length=sg y:=by unfold Builtin.Str.subAt;rw[beq_iff_eq,<- Array.toList_inj,Array.toList_extract];simp
 rw[e,A7];refine⟨λh=>h.2.symm,λh=>⟨?_,h.symm⟩⟩;grind[A7,a2q,a2F]
theorem gB(hy:1<=y.length):∀(n a s:Nat) (cuts:List Nat) (f:Nat),s<=a->a<=x.length->x.length<a+n->StrLaws.ChainG x y x.length a cuts f->(∀ k,f<=k->¬ StrLaws.At x y x.length k) ->
  (match cuts with
   | []=>[((sg x).drop s).take<|x.length - s]
   | c :: r=>(((sg x).drop s).take<|c - s) :: (StrLaws.partsFrom x y.length (c+y.length) r).map sg)=cC (sg y) n ((sg x).drop a) (((sg x).drop s).take<|a - s).reverse
 | 0,a,s,cuts,f,h1,h2,h3,_,_=>by omega
 | n+1,a,s,cuts,f,h1,h2,h3,hc,hf=>by
  have hl:=A7 x;unfold cC;cases hcs:(sg x).drop a with
  | nil =>
   have ha:a=x.length:=by have:=congrArg a3J hcs;rw[a2F,hl]at this;simp only[a3D]at this;omega
   cases cuts with
   | nil=>rw[a42,ha]
   | cons c r =>have:=hc.2.1.1;have:=hc.1;omega
  | cons c0 r0 =>
   have ha:a<x.length:=by have:=congrArg a3J hcs;rw[a2F,hl]at this;simp only[a15]at this;omega
   have step:((sg x).drop s).take (a+1 - s)=((sg x).drop s).take (a - s)++[c0]:=by
    rw[show a+1 - s=(a - s)+1 by omega,a2B];congr 1;rw[a5h,show s+(a - s)=a by omega];have:(sg x)[a]? = ((sg x).drop a)[0]?:=by rw[a5h];rfl
    rw[this,hcs];rfl
   have nxt:r0=(sg x).drop (a+1):=by
    have:((sg x).drop a).drop 1=(sg x).drop (a+1):=by rw[List.drop_drop]
    rw[<- this,hcs];rfl
   show _=if (sg y).isPrefixOf (c0 :: r0)=true then _ else _
   by_cases hA:StrLaws.At x y x.length a
   ·have hp:=(Le hy).mp hA
    rw[hcs]at hp;rw[if_pos hp,a42];cases cuts with
    | nil =>have e:f=a:=hc;exact absurd hA<|hf a<|by omega
    | cons c r =>
     obtain⟨q1,q2,q3,q4⟩:=hc;have e:c=a:=by
      rcases a3f a c with z|z
      ·exact absurd hA<|q3 a (a1U _) z
      ·omega
     subst e;have hb:=q2.1;show _ :: _=_ :: _;congr 1;have ih:=gB hy n (c+y.length) (c+y.length) r f (a1U _) hb (by omega) q4 hf;rw[show c+y.length - (c+y.length)=0 by omega]at ih;rw[show(c0 :: r0).drop (sg y).length=(sg x).drop (c+y.length)by rw[<- hcs,List.drop_drop,A7]];rw[show([]:List Nat)=(List.take 0 ((sg x).drop<|c+y.length)).reverse by rfl,<- ih];cases r with
     | nil=>show[sg<|Builtin.Str.strSub x _ _]=_;rw[qI]
     | cons d r=>show sg (Builtin.Str.strSub x _ _) :: _=_;rw[qI]
   ·have hp:¬ (sg y).isPrefixOf (c0 :: r0)=true:=λz=>hA ((Le hy).mpr<|by rw[hcs];exact z)
    rw[if_neg hp];have ih:∀ hc2,_:=λhc2=>gB (x:=x) hy n (a+1) s cuts (match cuts with|[]=>a+1|_=>f) (by omega) (by omega) (by omega) hc2 (by
     cases cuts with
     | nil =>have e:f=a:=hc;exact λk hk=>hf k<|by have:a+1<=k:=hk;omega
     | cons c r=>exact hf)
    rw[<- nxt,step,a4b]at ih;refine ih ?_;cases cuts with
    | nil=>rfl
    | cons c r =>
     obtain⟨q1,q2,q3,q4⟩:=hc;refine⟨?_,q2,λk h5 h6=>q3 k (by omega) h6,q4⟩;rcases a3f a c with z|z
     ·omega
     ·have e:c=a:=by omega
      rw[e]at q2;exact absurd q2 hA
def GI(hy:1<=y.length)(hk:Builtin.Str.strKind y=1)(hN:x.length<N):(Txt.split x y).map sg=cC (sg y) N (sg x) []:=by
 obtain⟨f,hc,hf⟩:=StrLaws.occ_tight x y hy;have h:=gB hy N 0 0 _ f (a1U _) (a2e _) (by omega) hc hf;rw[show(sg x).drop 0=sg x by rfl,Nat.sub_self,List.take_zero]at h;rw[show([]:List Nat)=([]:List Nat).reverse from rfl,<- h];have one:([x].map sg)=[(sg x).take<|x.length - 0]:=by rw[Nat.sub_zero,<- A7,a2l];rfl
 have kx:1<=Builtin.Str.strKind x:=by
  unfold Builtin.Str.strKind;split
  ·decide
  ·split<;>decide
 unfold Txt.split;split
 ·rename_i q
  rw[hk,a2S,decide_eq_true_eq,decide_eq_true_eq]at q;have:Builtin.Str.occurrences x y 0 x.length (x.length+1)=[]:=by
   cases ho:Builtin.Str.occurrences x y 0 x.length (x.length+1)with
   | nil=>rfl
   | cons c r =>rw[ho]at hc;have:=hc.2.1.1;omega
  rw[this];exact one
 ·split
  ·rename_i q;rw[a5z]at q;rw[q];exact one
  ·rw[StrLaws.partsBetween_eq]
   cases Builtin.Str.occurrences x y 0 x.length (x.length+1)with
   | nil=>show[sg<|Builtin.Str.strSub x _ _]=_;rw[qI];rfl
   | cons c r=>show sg (Builtin.Str.strSub x _ _) :: _=_;rw[qI];rfl
def GJ(hy:1<=y.length)(hk:Builtin.Str.strKind y=1)(hN:x.length<N):Txt.split x y=(cC (sg y) N (sg x) []).map mkS:=by rw[<- GI hy hk hN,a2k];simp[a5C,a4a,Txt.split,mkS,sg]
end GM
namespace L2
open PySem PySem.Spec PyProof.Rows
end L2
namespace DL
open PyProof.Rows hiding St
end DL
namespace GM
open PySem.NumText
theorem O3(a b:Str):sg (a++b)=sg a++sg b:=Array.toList_append
def WD(h:AllDigits cs)(h2:∃ c r,cs=c :: r/\49<=c):sg (tx ((digitsVal cs:Nat):Int))=cs:=by obtain⟨c,r,e,h3⟩:=h2;rw[iB,toDigits_digitsVal r.length cs (by rw[e];rfl) h<|.inr ⟨c,r,e,h3⟩,cO h]
def SJ(h:R6 cs=true):sg (tx ((digitsVal cs:Nat):Int))=cs:=by
 obtain⟨⟨h1,h2⟩,h3,h4⟩:=kH h;rcases h4 with e|e
 ·rw[e];rw[0]
 ·cases cs with
  | nil=>exact absurd h1<|by decide
  | cons c r =>refine WD h3 ⟨c,r,rfl,?_⟩;have:=h3 c a1M;grind
end GM
namespace DL
open PyProof.Rows hiding St
end DL
namespace GM
open PySem.NumText
def Du(y:List Nat)(n c:Nat)(r acc:List Nat):cC y (n+1) (c :: r) acc=if y.isPrefixOf (c :: r)then acc.reverse :: cC y n ((c :: r).drop y.length) []else cC y n r (c :: acc):=rfl
theorem lu(c:Nat):∀(n:Nat) (cs acc:List Nat),cs.length<n->cC [c] n cs acc=if c∈cs then(acc.reverse++cs.takeWhile (· != c)) :: cC [c] (n - 1 - (cs.takeWhile (· != c)).length) (cs.dropWhile (· != c)).tail []else[acc.reverse++cs]
 | 0,cs,acc,h=>by omega
 | n+1,[],acc,h=>by unfold cC;simp
 | n+1,c0 :: r,acc,h=>by
  have hr:r.length<n:=by grind
  rw[Du];by_cases e:c=c0
  ·simp_all
  ·have hp:¬ [c].isPrefixOf (c0 :: r)=true:=by simp[e]
   have e2:(c0 != c)=true:=by grind
   rw[if_neg hp,lu c n r (c0 :: acc) hr,a2N (p:=(· != c)) e2,a3u (p:=(· != c)) e2,a3r,a2H,a15];grind
def lfW(cs:List Nat):Option Int:=if R6 cs then some ((digitsVal cs:Nat):Int)else none
def Kf(h:R6 r=true):digitsVal r=1↔r=[49]:=by refine⟨λz=>?_,λz=>by rw[z];rfl⟩;have e:=SJ h;rw[z]at e;exact e.symm.trans<|by rfl
def Ef{c:Nat}{cs:List Nat}(h:decide (c∈cs)=false):(cs.dropWhile (· != c)).tail=[]:=by rw[PyProof.Rows.dropWhile_none<|of_decide_eq_false h];rfl
def Nx{cs:List Nat}{n:Int}(hb:(G2 47 cs).2.1=false)(h:rdW (G2 47 cs).1=some n):rdR cs=some (mkRat n 1):=by simp_all [Ef,decide_eq_true,Nat.gcd_one_right,G2,rdR,Ba,Option.map,a2i]
def Nw(hb:(G2 47 cs).2.1=true)(h:rdW (G2 47 cs).1=some n):rdR cs=match lfW (G2 47 cs).2.2 with
  | some d=>if 2<=d/\a2i n.natAbs d.natAbs=1 then some (mkRat n d.natAbs)else none
  | none=>none:=by
 generalize hr:(G2 47 cs).2.2=r
 have hx:rdR cs=(match rdW r with
  | some d=>if (decide (1<=d) && decide (a2i n.natAbs d.natAbs=1) && decide (r≠[49]))=true then some (mkRat n d.natAbs)else none
  | none=>none):=by
  unfold rdR Ba
  rw[hb,if_pos rfl,h,hr]
  cases rdW r with
  | none=>rfl
  | some d =>
   show Option.map _ (if _ then _ else _)=if _ then _ else _
   split<;>rfl
 rw[hx]
 unfold lfW
 cases hf:R6 r with
 | true =>
  rw[BP hf]
  show(if _ then _ else _)=(if _ then _ else _)
  have d1:=Kf hf
  by_cases h1:r=[49]
  ·rw[decide_eq_false (show ¬ r≠[49]from λq=>q h1),a3j,if_neg<|by decide,if_neg λq=>by have:=d1.mpr h1;omega]
  ·rw[decide_eq_true (show r≠[49]from h1),Bool.and_true]
   have n1:digitsVal r≠1:=λz=>h1<|d1.mp z
   by_cases g:1<=((digitsVal r:Nat):Int)/\a2i n.natAbs ((digitsVal r:Nat):Int).natAbs=1
   ·rw[if_pos<|by rw[decide_eq_true g.1,decide_eq_true g.2];rfl,if_pos ⟨by omega,g.2⟩]
   ·rw[if_neg λq=>g<|by simpa using q,if_neg λq=>g ⟨by omega,q.2⟩]
 | false =>
  show _=none
  cases hw:rdW r with
  | none=>rfl
  | some d =>
   have hd:d<=0:=by
    unfold rdW at hw;rw[if_neg<|by rw[hf];decide]at hw;split at hw
    ·split at hw
     ·have:=Option.some.inj hw;omega
     ·cases hw
    ·cases hw
   show(if _ then _ else _)=none
   rw[decide_eq_false (show ¬ 1<=d by omega)];rfl
def cX(w:Str):Bool:=decide (w=a1B "gap") || decide (w=a1B "glass") || decide (w=a1B "stop")
end GM
namespace GM
open PySem PySem.Spec L2 DL PySem.NumText
def yX{m:Nat}(h:m<10 ^ 300):R6 (sg<|tx (m:Int))=true:=by
 have hl:(sg<|tx (m:Int)).length<=300:=by simp_all [iB,a1H,a3t]
 have ha:(sg<|tx (m:Int)).all isF=true:=a4J.mpr λc hc=>by have:=Z9 m c hc;simp_all [isF]
 rw[W7,ha,decide_eq_true hl];by_cases h0:m=0
 ·subst h0;rw[0]
 ·obtain⟨c,r,e,hc⟩:=qE (show 0<m by omega);rw[e];simp;omega
def MR{m:Nat}(h:0<m):sg (tx (-(m:Int)))=45 :: sg (tx (m:Int)):=by have e:=qD (-(m:Int));rw[if_pos<|by omega,a2u,a1G]at e;rw[<- e,O3];rfl
def HX{n:Int}(h:n.natAbs<10 ^ 300):rdW (sg<|tx n)=some n:=by
 rcases Int.eq_nat_or_neg n with⟨m,e|e⟩
 ·simp_all [a1G,if_pos,yX,bx,rdW]
 ·by_cases h0:m=0
  ·subst h0;subst e;rw[0]
  ·subst e
   rw[a2u,a1G]at h;have f45:R6 (45 :: sg (tx (m:Int)))=false:=by simp[W7,a4s,a3j,sg,tx,isF]
   have ne:sg (tx (m:Int))≠[48]:=λz=>by obtain⟨c,r,e,hc⟩:=qE (show 0<m by omega);grind
   rw[MR<|by omega];unfold rdW;rw[f45];show(if (R6 (sg<|tx (m:Int)) && decide (sg (tx (m:Int))≠[48]))=true then some (-((digitsVal (sg<|tx (m:Int)):Nat):Int))else none)=_;rw[yX h,decide_eq_true ne,bx];rfl
def la(n:Int):∀ c∈sg (tx n),c=45\/(48<=c/\c<=57):=λc hc=>by
 rw[<- qD n,O3]at hc;rcases a10.mp hc with q|q
 ·split at q
  ·exact .inl<|a13.mp q
  ·cases q
 ·exact .inr<|Z9 _ c q
def Pg(h:47∉a):G2 47 (a++47 :: b)=(a,true,b):=by
 have e1:∀ a:List Nat,47∉a->(a++47 :: b).takeWhile (· != 47)=a/\(a++47 :: b).dropWhile (· != 47)=47 :: b:=λa=>by
  induction a with
  | nil=>exact λ_=>⟨rfl,rfl⟩
  | cons x a ih =>intro hh;have hx:x≠47:=λe=>hh<|e▸a1M ..;obtain⟨i1,i2⟩:=ih λm=>hh<|a1O _ m;rw[a3T,a2N<|by simp[hx],a3u<|by simp[hx],i1,i2];exact⟨rfl,rfl⟩
 simp_all [decide_eq_true,G2]
def BY(q:Rat):mkRat q.num q.den=q:=Rat.mkRat_self q
def HY{q:Rat}(h1:q.num.natAbs<10 ^ 300)(h2:q.den<10 ^ 300):rdR (sg<|rtx q)=some q:=by
 have n47:∀ n:Int,47∉sg (tx n):=λn hm=>by have:=la n 47 hm;omega
 unfold rtx;split
 ·rename_i hd;have hc:(G2 47 (sg<|tx q.num)).1=sg (tx q.num):=gk<|n47 _;rw[Nx (decide_eq_false<|n47 _)<|by rw[hc];exact HX h1,<- hd,BY]
 ·rename_i hd
  have e:sg (tx q.num++a1B "/" ++ tx (q.den:Int))=sg (tx q.num)++47 :: sg (tx (q.den:Int)):=by rw[O3,O3,show sg (a1B "/")=[47]by rw[0],a2H];rfl
  rw[e];have c:=Pg (b:=sg<|tx (q.den:Int))<|n47 q.num;have lf:lfW (sg<|tx (q.den:Int))=some (q.den:Int):=by simp_all [if_pos,yX,bx,lfW]
  rw[Nw (n:=q.num) (by rw[c])<|by rw[c];exact HX h1,c];show(match lfW (sg<|tx (q.den:Int))with|some d=>_|none=>_)=_;rw[lf];have:=q.den_pos;have g:=q.reduced;show(if 2<=(q.den:Int)/\a2i q.num.natAbs (Int.natAbs (q.den:Int))=1 then some (mkRat q.num<|Int.natAbs (q.den:Int))else none)=_;rw[a1G,if_pos ⟨by omega,g⟩,BY]
def Gr(q:Rat):Prop:=q.num.natAbs<10 ^ 300/\q.den<10 ^ 300
def fq(h:sz q<=900):Gr q:=by
 have e:2 ^ 900<10 ^ 300:=by rw[0]
 exact⟨a1F (u4 q h)<|by rw[0],a1F (l5 q h)<|by rw[0]⟩
def OP(h:Gr q):q.num.natAbs<10 ^ 5000/\q.den<10 ^ 5000:=by have big:(10:Nat) ^ 300<=10 ^ 5000:=a1X (by decide) (by decide);exact⟨a1F h.1 big,a1F h.2 big⟩
def Jy(h:m<10 ^ 300):m.log2<1920:=a1F (v6 (k:=1000) (a1F h (show 10 ^ 300<=2 ^ 1000 by rw[0]))<|by decide)<|by decide
def D1(h:Gr q):(rtx q).length<=603:=by
 have h1:=K4 (by decide) h.1;have h2:=K4 (n:=(q.den:Int)) (k:=300) (by decide) (by rw[a1G];exact h.2);unfold rtx;split
 ·omega
 ·rw[w6,w6,show(a1B "/").length=1 by rw[0]];omega
end GM
namespace DL
open PyProof.Rows hiding St
structure VF(K:a1C)(c:Str)(C:Addr):Prop where
 nm:PySem.W.nsIn K mainGlobals c=some (some (.ref C))
 cl:Cls K C
structure PH(K:a1C)(c:Str):Prop where
 ex:∃ C,VF K c C
structure NoA(K:a1C)(c f:Str):Prop where
 ex:∃ C,PySem.W.nsIn K mainGlobals c=some (some (.ref C))/\cR K C f
def gP{K:a1C}{c:Str}{C C':Addr}(h:PySem.W.nsIn K mainGlobals c=some (some<|.ref C))(h':PySem.W.nsIn K mainGlobals c=some (some<|.ref C')):C=C':=by grind
def yt(f:Str)(v:D):List (Str × D)->List (Str × D)
 | []=>[(f,v)]
 | (g,x) :: r=>if g=f then(g,v) :: r else(g,x) :: yt f v r
def y3(f:Str):List (Str × D)->Option D
 | []=>none
 | (g,x) :: r=>if g=f then some x else y3 f r
section
variable {K:a1C} {H H':Hp}
def X6.nil:X6 K H [] []:=⟨rfl,.nil⟩
def X6.look(hf:X6 K H ys fs)(h:y3 f fs=some v):∃ y,ys.lookup f=some y/\Has K H y v:=by
 induction fs generalizing ys with
 | nil=>cases h
 | cons gx r ih =>
  obtain⟨g,x⟩:=gx;obtain⟨n,l⟩:=hf;cases ys with
  | nil=>cases n
  | cons q ys =>
   obtain⟨g',y⟩:=q;have n1:g'=g:=(List.cons.inj n).1;have n2:ys.map (·.1)=r.map (·.1):=(List.cons.inj n).2;cases l with
   | cons l1 l2 =>
    have h:(if g=f then some x else y3 f r)=some v:=h;by_cases e:g=f
    ·rw[if_pos e]at h;cases h;have hb:(f == g')=true:=beq_iff_eq.mpr<|e.symm.trans n1.symm;exact⟨y,(by show(match f == g' with|true=>some y|false=>ys.lookup f)=some y;rw[hb]),l1⟩
    ·rw[if_neg e]at h;have hb:(f == g')=false:=beq_eq_false_iff_ne.mpr λz=>e<|n1.symm.trans z.symm;obtain⟨w,e1,e2⟩:=ih (ys:=ys) ⟨n2,l2⟩ h;exact⟨w,(by show(match f == g' with|true=>some y|false=>ys.lookup f)=some w;rw[hb];exact e1),e2⟩
def X6.lookN(hf:X6 K H ys fs)(h:y3 f fs=none):ys.lookup f=none:=by
 induction fs generalizing ys with
 | nil =>
  cases ys with
  | nil=>rfl
  | cons q ys=>cases hf.names
 | cons gx r ih =>
  obtain⟨g,x⟩:=gx;obtain⟨n,l⟩:=hf;cases ys with
  | nil=>cases n
  | cons q ys =>
   obtain⟨g',y⟩:=q;have n1:g'=g:=(List.cons.inj n).1;have n2:ys.map (·.1)=r.map (·.1):=(List.cons.inj n).2;cases l with
   | cons l1 l2 =>
    have h:(if g=f then some x else y3 f r)=none:=h;by_cases e:g=f
    ·rw[if_pos e]at h;cases h
    ·rw[if_neg e]at h;have hb:(f == g')=false:=beq_eq_false_iff_ne.mpr λz=>e<|n1.symm.trans z.symm;show(match f == g' with|true=>some y|false=>ys.lookup f)=none;rw[hb];exact ih (ys:=ys) ⟨n2,l2⟩ h
def X6.put(hv:Has K H v d)(hf:X6 K H ys fs):X6 K H (bE f v ys) (yt f d fs):=by
 induction fs generalizing ys with
 | nil =>
  cases ys with
  | nil=>exact⟨rfl,.cons hv .nil⟩
  | cons q ys=>cases hf.names
 | cons gx r ih =>
  obtain⟨g,x⟩:=gx;obtain⟨n,l⟩:=hf;cases ys with
  | nil=>cases n
  | cons q ys =>
   obtain⟨g',y⟩:=q;obtain rfl:g'=g:=(List.cons.inj n).1;have n2:ys.map (·.1)=r.map (·.1):=(List.cons.inj n).2;cases l with
   | cons l1 l2 =>
    have ih:=ih (ys:=ys) ⟨n2,l2⟩;unfold bE yt;by_cases e:g'=f
    ·rw[if_pos e,if_pos e];exact⟨by rw[a1Z,a1Z,n2],.cons hv l2⟩
    ·rw[if_neg e,if_neg e];exact⟨by rw[a1Z,a1Z,ih.names],.cons l1 ih.has⟩
def X6.len(h:X6 K H ys fs):ys.length=fs.length:=by have:=congrArg a3J h.names;grind
def KT.ins(h:H p=some (.ins C dx ys)):KT H (upd H p<|.ins C dx zs):=KT.at (λxs r=>by rcases r with r|⟨_,r⟩<;>(rw[h]at r;cases r)) (λq xs r=>by rw[h]at r;cases r) λφ r=>by grind
def l7.put(h:l7 K H M)(e:H p=some (.ins C dx ys))(hc:PySem.W.nsIn K mainGlobals c=some (some<|.ref C))(l:X6 K H zs fs) :
  l7 K (upd H p<|.ins C dx zs) (l9 M p<|.ins c fs):=λa o m=>by
 have k:KT H (upd H p<|.ins C dx zs):=KT.ins e
 by_cases q:a=p
 ·subst q
  rw[f7]at m;cases m
  exact⟨C,dx,zs,i5,l.mono k,hc⟩
 ·rw[i7 q]at m
  cases o with
  | lst es =>
   obtain⟨xs,z,l⟩:=h a _ m
   exact⟨xs,by rw[g8 q];exact z,l.mono k⟩
  | ins c' fs' =>
   obtain⟨C0,dx',xs,z,l,hc'⟩:=h a _ m
   exact⟨C0,dx',xs,by rw[g8 q];exact z,l.mono k,hc'⟩
  | dic hs kvs =>
   obtain⟨xs,z,l⟩:=h a _ m
   exact⟨xs,by rw[g8 q];exact z,l.mono k⟩
end
section
variable {X:Cx} {o e value:Expr} {f c:Str} {pos pos':Pos} {ta tv:DTE}
def VA(c f:Str)(x:D)(M:Mem)(R:DK):Prop:=∃ p fs v,x = .ref p/\M p=some (.ins c fs)/\y3 f fs=some v/\R v M
def Yt(c f:Str)(ta:DTE):DTE:=λe M R=>ta e M λx M1=>VA c f x M1 R
def mW(T:PH X.K c)(N:NoA X.K c f)(he:JE X o ta)(hb:attributeBase o f X.env (eval o X.env)=eval o X.env:=by rfl):JE X (.Attribute o f pos) (Yt c f ta) :=
 ⟨PE.imp (Ua he.out hb) λσ H Q ⟨e,M,R,ok,am,t,ft⟩=>⟨e,M,_,ok,am,t,λd M1 ⟨p,fs,v,z,hm,hl,r⟩ v1 H1 k1 a1 r1=>by subst z;cases r1;obtain⟨C,dx,ys,h1,h2,h3⟩:=a1 p _ hm;obtain⟨C',hN,hA⟩:=N.ex;obtain rfl:=gP h3 hN;obtain⟨C'',hT⟩:=T.ex;obtain rfl:=gP h3 hT.nm;obtain⟨y,l1,l2⟩:=h2.look hl;exact⟨p,C,dx,ys,y,rfl,h1,hT.cl,hA,l1,ft _ _ r _ _ k1 a1 l2⟩⟩⟩
def Vv(c f:Str)(y x:D)(M:Mem)(P:Mem->Prop):Prop:=∃ p fs,x = .ref p/\M p=some (.ins c fs)/\fs.length<1000/\P (l9 M p<|.ins c<|yt f y fs)
def Sa(c f:Str)(ta tv:DTE):DTS:=λF e M=>tv e M λy M1=>ta e M1 λx M2=>Vv c f y x M2<|F.nx e
def sX(T:PH X.K c)(N:NoA X.K c f)(ha:JE X o ta)(hv:JE X value tv)(hs:swapsWith value (some<|.Attribute o f pos') pos.line X.env=pure false:=by rfl):JS X (.Assign [.Attribute o f pos'] value pos) (Sa c f ta tv) :=
 ⟨PS.imp (Tx ha.out hv.out hs) λE σ H ⟨e,M,F,ok,am,t,ft⟩=>⟨e,M,_,ok,am,t,λy M1 h1 v1 H1 k1 a1 r1=>⟨e,M1,_,ok.mono k1,a1,h1,λx M2 ⟨p,fs,z,hm,hl,r⟩ v2 H2 k2 a2 r2=>by subst z;cases r2;obtain⟨C,dx,ys,g1,g2,g3⟩:=a2 p _ hm;obtain⟨C',hN,hA⟩:=N.ex;obtain rfl:=gP g3 hN;obtain⟨C'',hT⟩:=T.ex;obtain rfl:=gP g3 hT.nm;have k3:KT H2 (upd H2 p<|.ins C dx<|bE f v1 ys):=KT.ins g1;exact⟨p,C,dx,ys,rfl,g1,hT.cl,hA,by rw[g2.len];exact hl,ft.nx _ _ r _ _ ((k1.trans k2).trans k3) (a2.put g1 g3<|g2.put<|r1.mono k2)<|(ok.mono<|k1.trans k2).mono k3⟩⟩⟩⟩
end
structure ZL(K:a1C)(x q:Str)(st:Stmt)(f:Addr)(fd:FuncData):Prop where
 ex:∃(oc:Value) (od:Option Addr) (dV kV doc pm:Value) (an:Option Addr) (cdv ct:Value) (osl:Array (Option Value)),
  fd=PySem.W.fnOf x q (J4 st) (B1 st) (c9 st) dV kV doc pm an cdv ct/\K.lookup f=some ⟨oc,od,.func fd,osl⟩/\PySem.W.codeIn K cdv q=true
structure DfM(K:a1C)(mg:Str->Option Value)(c x q:Str)(st:Stmt)(ps:List Str):Prop where
 ex:∃(C f:Addr) (fd:FuncData),ZL K x q st f fd/\mg c=some (.ref C)/\VF K c C/\Lo K C x f/\P9 K fd ps []
structure zP(P:Program)(w:World)(K:a1C)(mg:Str->Option Value)(base:Heap)(c x:Str)(k:Nat)(ps:List Str)(CX:CXT)(sp:Sp):Prop where
 ex:∃(C f:Addr) (fd:FuncData),X7 P w K mg base CX k f fd ps sp/\mg c=some (.ref C)/\VF K c C/\Lo K C x f/\P9 K fd ps []
abbrev FnM(P:Program)(w:World)(K:a1C)(mg:Str->Option Value)(base:Heap)(c x:Str)(k:Nat)(ps:List Str)(sp:DSp):Prop:=zP P w K mg base c x k ps CX0<|nG K sp
abbrev zO(P:Program)(w:World)(K:a1C)(mg:Str->Option Value)(base:Heap)(c x:Str)(k:Nat)(ps:List Str)(sp:DSp):Prop:=zP P w K mg base c x k ps (CXr P w base)<|QO K mg sp
section
variable {P:Program} {w:World} {K:a1C} {mg:Str->Option Value} {base:Heap}
def UW{c x q:Str}{st:Stmt}{N ps:List Str}{k:Nat}{sp:DSp}(d:DfM K mg c x q st ps)(S:d9 N ps (c9 st))(len:∀ ds M R Y,sp ds M R Y->ds.length=ps.length)
  (hbody:∀(f:Addr) (cdv:Value) (A:Around) (outer:List Env) (s:Shared) (H:Hp) (E:XK) (ds:List D) (M:Mem) (R:DK) (Y:DXK),C3 k (A.deeper<|envOfC q (c9 st) s.heap.objs.size f cdv)->sp ds M R Y ->
   ∃ t,JSs (K1 CX0 P w K mg base N q (c9 st) f cdv A outer s H E).nox (B1 st) t/\t { nx:=λ_ M'=>R .non M',rt:=R } (A4 N ds) M):FnM P w K mg base c x (k+1) ps sp:=by
 obtain⟨C,f,fd,F,hm,hc,hf,hb⟩:=d.ex
 refine⟨C,f,fd,?_,hm,hc,hf,hb⟩
 obtain⟨oc,od,dV,kV,doc,pm,an,cdv,ct,osl,rfl,lk,hcd⟩:=F.ex
 refine Cy lk hcd S (λvs H Q E ⟨ds,M,R,Y,hl,_,hs,_,_⟩=>by rw[hl.length];exact len ds M R Y hs) λA outer s H vs Q E hr ⟨ds,M,R,Y,hl,am,hs,fv,fx⟩=>?_
 obtain⟨t,h1,h2⟩:=hbody f cdv A outer s H E ds M R Y hr hs
 refine⟨_,h1.out.nox,A4 N ds,M,_,u6.start0 hl,am,h2,⟨?_,fv,λ_ _ h=>h.elim,λ_ _ h=>h.elim⟩⟩
 exact λe M' h σ' H' kt a o=>fv .non M' h .non H' kt a .non
def OX{c x q:Str}{st:Stmt}{N ps:List Str}{k:Nat}{sp:DSp}(d:DfM K mg c x q st ps)(S:d9 N ps (c9 st))(len:∀ ds M R Y,sp ds M R Y->ds.length=ps.length)
  (hbody:∀(f:Addr) (cdv:Value) (A:Around) (outer:List Env) (s:Shared) (H:Hp) (E:XK) (ds:List D) (M:Mem) (R:DK) (Y:DXK),C3 k (A.deeper<|envOfC q (c9 st) s.heap.objs.size f cdv)->sp ds M R Y ->
   ∃ t,JXs (K1 (CXr P w base) P w K mg base N q (c9 st) f cdv A outer s H E) true H Y (B1 st) t/\t { nx:=λ_ M'=>R .non M',rt:=R } (A4 N ds) M):zO P w K mg base c x (k+1) ps sp:=by
 obtain⟨C,f,fd,F,hm,hc,hf,hb⟩:=d.ex
 refine⟨C,f,fd,?_,hm,hc,hf,hb⟩
 obtain⟨oc,od,dV,kV,doc,pm,an,cdv,ct,osl,rfl,lk,hcd⟩:=F.ex
 refine Cy lk hcd S (λvs H Q E ⟨ds,M,R,Y,hl,_,hs,_,_⟩=>by rw[hl.length];exact len ds M R Y hs) λA outer s H vs Q E hr ⟨ds,M,R,Y,hl,am,hs,fv,fx⟩=>?_
 obtain⟨t,h1,h2⟩:=hbody f cdv A outer s H E ds M R Y hr hs
 refine⟨MP K H t,λpins s1 σ H1 D I hw=>?_,KT.refl H,A4 N ds,M,_,u6.start0 hl,am,h2,⟨?_,fv,λ_ _ h=>h.elim,λ_ _ h=>h.elim⟩⟩
 ·refine wpAny_mono (h1.out pins s1 σ H1 D (I.wish _) hw) (λ_ _ q=>q.unwish) λe s2 hx=>Cb (λcls H' ⟨k1,x',C,M',e1,e2,e3,e4⟩=>⟨k1,by rw[e1];exact fx x' C M' e2 e4 H' k1 e3⟩) hx
 ·exact λe M' h σ' H' kt a o=>fv .non M' h .non H' kt a .non
def zP.fn(G:zO P w K mg base c x k ps sp)(h:∀ ds M R Y,sp' ds M R Y->sp ds M R λ_ _=>False):FnM P w K mg base c x k ps sp':=by
 obtain⟨C,f,fd,F,h1,h2,h3,h4⟩:=G.ex;refine⟨C,f,fd,⟨λvs H Q E ⟨ds,M,R,Y,hl,am,hs,fv,_⟩=>F.len vs H Q (λ_ _ _=>False) ⟨ds,M,R,_,hl,am,h ds M R Y hs,fv,λ_ _ _ _ z=>z.elim⟩,?_⟩,h1,h2,h3,h4⟩;rintro A outer s H args us vs Q E hr he hb hv ⟨ds,M,R,Y,hl,am,hs,fv,_⟩;refine codeAny_mono (F.run A outer s H args us vs Q (λ_ _ _=>False) hr he hb hv ⟨ds,M,R,_,hl,am,h ds M R Y hs,fv,λ_ _ _ _ z=>z.elim⟩) λr s' q=>?_;cases r with
 | error e=>obtain⟨_,_,_,_,_,_,_,_,_,_,_,_,_,_,z⟩:=q;exact z.elim
 | ok fl=>cases fl<;>exact q
end
section
variable {Y:DXK} {o e:Expr} {c m:Str} {sp:DSp} {to:DTE} {t:DTA}
def Vw(c m:Str)(x:D)(M:Mem)(P:Prop):Prop:=(∃ p fs,x = .ref p/\M p=some (.ins c fs)/\y3 m fs=none)/\P
def CO(c m:Str)(sp:DSp)(Y:DXK)(to:DTE)(t:DTA):DTE:=λe M R=>to e M λx M1=>Vw c m x M1<|t e M1 λds M2=>sp (x :: ds) M2 R Y
def BZ{K:a1C}{C:Addr}{σ:St}{H:Hp}{Q:VK}{CXs:Sp}{E:XK}{e:Ev}{M:Mem}{R:DK}{dvs:List V}(hc:PySem.W.nsIn K mainGlobals c=some (some<|.ref C))(ok:u6 K H σ e)(am:l7 K H M)(tt:CO c m sp Y to t e M R)
  (fin:∀(x:D) (ds:List D) (M2:Mem),sp (x :: ds) M2 R Y->∀(v:V) (vs:List V) (H2:Hp),KT H H2->l7 K H2 M2->Has K H2 v x->HasL K H2 vs ds->CXs (v :: (vs++dvs)) H2 Q E) :
  up K to σ H λv H1=>∃ a dx fs,v = .ref a/\H1 a=some (.ins C dx fs)/\fs.lookup m=none/\upA K t σ H1 λvs H2=>CXs (v :: (vs++dvs)) H2 Q E:=by
 refine⟨e,M,_,ok,am,tt,?_⟩
 rintro x M1 ⟨⟨p,fs,z,hm,hn⟩,h1⟩ v H1 k1 a1 r1
 subst z
 cases r1
 obtain⟨C0,dx,ys,g1,g2,g3⟩:=a1 p _ hm
 obtain rfl:=gP g3 hc
 exact⟨p,dx,ys,rfl,g1,g2.lookN hn,e,M1,_,ok.mono k1,a1,h1,λds M2 h2 vs H2 k2 a2 r2=>fin _ ds M2 h2 _ vs H2 (k1.trans k2) a2 (.ref p) r2⟩
def sY(G:FnM X.prog X.w X.K X.mg X.base c m k ps sp)(hr:C3 k X.A)(ho:JE X o to)(ha:JA X (e :: es) t)
  (hst:starEach (e :: es) X.env=(false,eval e X.env) :: starEach es X.env:=by rfl) (hpl:(backTo pos<|starEach es X.env).any (·.1)=false:=by rfl)
  (ht:eval (.Call (.Attribute o m apos) (e :: es) [] pos) X.env=(do
   let ov <- eval o X.env
   standAt apos.atName
   let (f,fst0) <- holding [ov] (getMethod ov m pl)
   callWith pos f fst0 (backTo pos<|starEach (e :: es) X.env) (backToKw pos<|keywordEach [] X.env)):=by rfl) :
  JE X (.Call (.Attribute o m apos) (e :: es) [] pos) (CO c m sp Y0 to t):=by
 obtain⟨C,f,fd,F,h1,h2,h3,h4⟩:=G.ex
 exact⟨PE.imp (NO (ds:=[]) (dvs:=[]) ho.out h2.cl h3 F hr h4 .nil IC ha.out hst hpl ht) λσ H Q ⟨e,M,R,ok,am,tt,ff⟩=>BZ h2.nm ok am tt λx ds M2 h v vs H2 k a r1 r2=>⟨x :: ds,M2,R,Y0,by rw[a2g];exact .cons r1 r2,a,h,ff.mono k,UX⟩⟩
end
structure MkD(K:a1C)(c:Str):Prop where
 ex:∃ C f,PySem.W.nsIn K mainGlobals c=some (some (.ref C))/\Mk K C f
def Sf(c:Str)(sp:DSp):DTE:=λ_ M R=>∀ x,M x=none->sp [.ref x] (l9 M x<|.ins c []) (λd M2=>d = .non/\R (.ref x) M2) Y0
def Jp(G:FnM X.prog X.w X.K X.mg X.base c "__init__" k ps sp)(hk:MkD X.K c)(hr:C3 (k+1) X.A)(hg:Gl X c)(hdb:(c == ("__debug__" : Str))=false:=by decide):JE X (.Call (.Name c p) [] [] pos) (Sf c sp):=by
 obtain⟨C,f,fd,F,h1,h2,h3,h4⟩:=G.ex;obtain⟨C',f',hn,hM⟩:=hk.ex;obtain rfl:=gP h2.nm hn;obtain rfl:f=f':=by have e:=h3.at_;rw[hM.init]at e;grind
 refine⟨PE.imp (Iv (ds:=[]) (dvs:=[]) hM F hr hg h1 h4 .nil IC hdb) ?_⟩;rintro σ H Q ⟨e,M,R,ok,am,tt,ff⟩;intro x dx hx hdx hne;have kt:KT H (upd (upd H dx<|.own x) x<|.ins C dx []):=(KT.alloc hdx).trans (KT.alloc<|by rw[g8<|Ne.symm hne];exact hx);have a1:l7 X.K (upd (upd H dx<|.own x) x<|.ins C dx []) (l9 M x<|.ins c []):=λb o m=>by
  by_cases q:b=x
  ·subst q;rw[f7]at m;cases m;exact⟨C,dx,[],i5,.nil,hn⟩
  ·rw[i7 q]at m;exact(am.alloc hdx).alloc (by rw[g8<|Ne.symm hne];exact hx) b o m
 exact⟨[.ref x],_,_,Y0,.cons (.ref x) .nil,a1,tt x<|am.fresh hx,λd M' ⟨hd,r⟩ v H' k' a' r'=>by subst hd;cases r';exact⟨rfl,ff _ _ r _ _ (kt.trans k') a'<|.ref x⟩,UX⟩
end DL
namespace L2
open PySem PySem.Spec PyProof.Rows
def Oy
  (he:PE X o ta) (c:Cls X.K C) (hm:Lo X.K C m f) (F:X7 X.prog X.w X.K X.mg X.base CX k f fd ps sp) (hr:C3 k X.A) (hb:P9 X.K fd ps []) (hx:∀(H:Hp) (s:Shared) (e:Value) (s':Shared),Inv X pins σ H s->CX X.stack H s E e s'->X.xe e s') (ha:PA X (e :: es) t)
  (I:Inv X pins σ H s) (h:QP C m sp [] E ta t σ H Q)
  (hst:starEach (e :: es) X.env=(false,eval e X.env) :: starEach es X.env) (hpl:(backTo pos<|starEach es X.env).any (·.1)=false)
  (ht:eval (.Call (.Attribute o m apos) (e :: es) [] pos) X.env=(do
   let ov <- eval o X.env
   standAt apos.atName
   let (f,fst0) <- holding [ov] (getMethod ov m pl)
   callWith pos f fst0 (backTo pos<|starEach (e :: es) X.env) (backToKw pos<|keywordEach [] X.env))) :
  wpAny (model X.prog X.w) X.A (eval (.Call (.Attribute o m apos) (e :: es) [] pos) X.env) (EP X pins σ Q) X.xe s:=by
 refine PySem.W.methodCall_KW (pl:=pl) (thn (he pins s σ H _ I h) ?_) ht
 rintro u s1 ⟨x,H1,I1,rx,a,dx,fs,ex,ea,l,q⟩
 subst ex
 obtain rfl:u=Value.ref a:=rx
 refine mZ I1 ea c hm l ?_
 refine PySem.W.callWith_K (first:=[.ref a]) (h₀:=X.base) I.ok.mod.kin hm.kp (thn (ha pos pins s1 σ H1 _ I1 q) λus s2 ⟨vs,H2,I2,r,q2⟩=>⟨I2.kIn,?_⟩) hst hpl
 have q2:sp (.ref a :: (vs++[])) H2 Q E:=q2
 rw[a2g]at q2
 have r2:j8 (V.ref a :: vs) (Value.ref a :: us):=.cons rfl r
 have hl:(Value.ref a :: us++[]).length=ps.length:=by rw[a2g,<- r2.length];exact F.len _ _ _ _ q2
 refine wpAny_call<|codeAny_mono (F.run X.A X.stack s2 H2 ⟨Value.ref a :: us,[]⟩ (Value.ref a :: us) (V.ref a :: vs) Q E hr I2.env0 (by have:=hb s2 (Value.ref a :: us) I2.kIn hl;rwa [a2g]at this) r2 q2) λr s' hq=>?_
 cases r with
 | error e=>exact hx H2 s2 e s' I2 hq
 | ok fl =>
  cases fl with
  | ret u=>exact I2.after hq
  | next=>exact False.elim hq
  | brk=>exact False.elim hq
  | cont=>exact False.elim hq
end L2
namespace DL
open PyProof.Rows hiding St
section
variable {X:Cx} {suite:List Stmt} {b0:Stmt} {c n cl m y:Str} {np hpos pos py cpos apos spos:Pos} {ts:DTS} {i j:Nat} {o a0:Expr} {as:List Expr} {to:DTE} {t:DTA} {k:Nat} {ps:List Str} {sp:DSp}
def XPs(X:Cx)(pins:List (Addr × Obj))(σ:St)(EX:Value->Hp->Prop):Value->Shared->Prop:=λe s' =>
 ∃ Hc sc a cls a0 H' B,Inv X pins σ Hc sc/\e = .ref a/\s'.os=sc.os/\AllBare s'.gens/\Un (frs X.stack) [] Hc H' sc.heap s'.heap/\HOk X.prog X.w H' s'.heap /\
  X.base.StaysIn B/\Cov B sc.heap H' (frs X.stack) s'.heap/\Air B X.stack a cls a0 s'.heap/\EX cls H'
def Yh(i j:Nat)(xs:List Str)(tb:DXK->DTE)(ts:DTS):DTS:=λF e M=>∃ Y:DXK,tb Y e M (λd M1=>aJ e j d λe1=>F.nx e1 M1)/\∀ x M',Y (xN x) M'->x∈xs/\ts (IK i F) (e.set i<|some<|.exc x) M'
def Jj(xs:List Str)(hst:X.stack=X.env :: X.outer)(hfrm:X.env.frame=some X.env.locals)(hxe:X.xe=λ_ _=>False)(hg:Gl X c)(hc:∀ x∈xs,TkN X.K X.mg c x)(hN:X.N.Nodup)(hi:X.N[i]? = some n)(hk:X.env.kindOf n=some .local)(hlc:Loc X.env.scope n)
  (hj:X.N[j]? = some y) (hly:Loc X.env.scope y) (G:zO X.prog X.w X.K X.mg X.base cl m k ps sp) (hr:C3 k X.A) (ho:JE X o to) (ha:JA X (a0 :: as) t)
  (hs:∀ pn a,JSs (Cx.hand (Cx.pinned X pn) a) (b0 :: suite) ts)
  (hst2:starEach (a0 :: as) X.env=(false,eval a0 X.env) :: starEach as X.env:=by rfl) (hpl:(backTo cpos<|starEach as X.env).any (·.1)=false:=by rfl)
  (ht:eval (.Call (.Attribute o m apos) (a0 :: as) [] cpos) X.env=(do
   let ov <- eval o X.env
   standAt apos.atName
   let (f,fst0) <- holding [ov] (getMethod ov m pl)
   callWith cpos f fst0 (backTo cpos<|starEach (a0 :: as) X.env) (backToKw cpos<|keywordEach [] X.env)):=by rfl)
  (hsw:swapsWith (.Call (.Attribute o m apos) (a0 :: as) [] cpos) (some<|.Name y py) spos.line X.env=pure false:=by rfl)
  (hf:X.fn n=true\/X.env.scope.names.lookup n=some .local:=by rw[10]) (hfy:X.fn y=true\/X.env.scope.names.lookup y=some .local:=by rw[10]) (hdb:(c == ("__debug__" : Str))=false:=by decide) :
  JS X (.Try [.Assign [.Name y py] (.Call (.Attribute o m apos) (a0 :: as) [] cpos) spos] [.ExceptHandler (some<|.Name c np) (some n) (b0 :: suite) hpos] [] [] pos) (Yh i j xs (λY=>CO cl m sp Y to t) ts):=by
 refine⟨?_⟩
 rintro pins s σ H D I ⟨e,M,F,ok,am,⟨Y,h1,h2⟩,fit⟩
 rw[hxe]
 have Ip:=cI I
 refine wpAny_Try_except ?_
 obtain⟨C,f,fd,FF,g1,g2,g3,g4⟩:=G.ex
 have wo:PE (X.wish<|XPs X pins σ<|xS X H Y) o (up X.K to):=λpins' s' σ' H' Q' I' hw =>
  wpAny_mono (ho.out pins' s' σ' H' Q' I'.unwish hw) (λ_ _ ⟨v,H2,I2,r,q⟩=>⟨v,H2,I2.wish _,r,q⟩) λ_ _ z=>by grind
 have wa:PA (X.wish<|XPs X pins σ<|xS X H Y) (a0 :: as) (upA X.K t):=λpos' pins' s' σ' H' Q' I' hw =>
  wpAny_mono (ha.out pos' pins' s' σ' H' Q' I'.unwish hw) (λ_ _ ⟨v,H2,I2,r,q⟩=>⟨v,H2,I2.wish _,r,q⟩) λ_ _ z=>by grind
 have one:wpAny (model X.prog X.w) X.A (exec (.Assign [.Name y py] (.Call (.Attribute o m apos) (a0 :: as) [] cpos) spos) X.env) (λfl s1=>fl = .next/\SP X pins D .next s1) (XPs X pins σ<|xS X H Y) s:=by
  have mw:=Oy (X:=X.wish<|XPs X pins σ<|xS X H Y) (pins:=pins) (σ:=σ) (H:=H) (s:=s) (E:=λcls _ H'=>xS X H Y cls H') (Q:=λv H1=>D.nx (σ.set j<|some v) H1) wo g2.cl g3 FF hr g4
   (λHc sc e' s' Ic hq=>by obtain⟨a,cls,a0,H',B,rfl,ho,hg,un,hok,_,hB,cov,fl,hE⟩:=hq;exact⟨Hc,sc,a,cls,a0,H',B,Ic.unwish,rfl,ho,hg,un,hok,hB,cov,.inl fl,hE⟩) wa (I.wish _)
   (BZ g2.nm ok am h1 λx ds M2 h v vs H2 k a r1 r2=>⟨x :: ds,M2,_,Y,by rw[a2g];exact .cons r1 r2,a,h,λd M' hd v' H' k' a' r'=>fit.nx _ M' hd _ H' (k.trans k') a'<|(ok.mono<|k.trans k').set r' j,λy C M' hy z H' kt' a'=>⟨k.trans kt',y,C,M',rfl,hy,a',z⟩⟩) hst2 hpl ht
  refine wpAny_Assign_Name (wpAny_mono mw ?_ λ_ _ z=>z) hsw;rintro v s1 ⟨y,H1,I1,r1,q1⟩;exact S6 I1.unwish hN hj hly r1 (λs2 I2=>⟨rfl,_,H1,I2,q1⟩) hfy
 refine wpAny_mono (wpAny_execs_cons<|wpAny_mono one (λfl s1 ⟨e1,q⟩=>by subst e1;exact wpAny_execs_nil (Q:=λfl s1=>fl = .next/\SP X pins D .next s1) ⟨rfl,q⟩) λ_ _ z=>z) (λfl s1 q=>?_) λev s1 hx=>?_
 ·obtain⟨rfl,q⟩:=q
  exact wpAny_execs_nil q
 ·obtain⟨Hc,sc,a,cls,a0',H',B,Ic,rfl,ho',hgb,un,hok,hB,cov,fl,kt2,x,Cq,M',rfl,hmx,am',hy⟩:=hx
  obtain⟨xin,hts⟩:=h2 x M' hy
  obtain⟨Cc,Cq2,m1,m2,mns,hex⟩:=(hc x xin).ex
  have ecx:Cq=Cq2:=by grind
  subst ecx
  have fl':Air B (X.env :: X.outer) a (.ref Cq) a0' s1.heap:=by grind
  have hfr:X.A.frames=some (X.env :: X.outer):=by rw[<- hst];exact I.ok.frames
  refine Air.looks (L:=X.env.locals) hfr hfrm fl' λh4 held ups4=>?_
  refine wpAny_landsW held λh5 fl5 ups5=>?_
  have I5:=cI<|DW Ic ho' hgb un hok cov fl fl5.1<|ups4.trans ups5
  refine wpAny_handleBy_cons (codeAny_handlers_test ?_)<|by intro q;cases q
  refine bo (X:=Cx.hand (Cx.pinned X<|X.pn++pins) a) (xi I5) hg m1 ?_ hdb
  have lt:PySem.W.Looks (model X.prog X.w) h5 (typeOf<|.ref a) (.ref Cq):=by obtain⟨ob,hob,hoc⟩:=fl5.there;rw[<- hoc];exact(PySem.W.Looks.ld hob).andThen .now
  refine(PySem.W.exm_one (I5.kIn) lt hex).here ?_
  show codeAny _ _ _ _ _
  refine codeAny_handlers_suite_as ?_
  refine lands_againW fl5 λh6 fl6 ups6=>?_
  obtain⟨ob,hob,hoc⟩:=fl6.there
  obtain⟨nH,I6'⟩:=yR Ic ho' hgb un hok cov fl fl6.1 ((ups4.trans ups5).trans ups6) hob
  have I6:=cI I6'
  have hx6:Has X.K (upd H' a<|.frz ob<|.own 0) (.ref a) (.exc x):=.exc ⟨ob,Cq,i5,hoc,mns⟩
  have kt3:=kt2.trans<|KT.alloc (o:=.frz ob<|.own 0) nH
  refine S6 (X:=Cx.hand (Cx.pinned X<|X.pn++pins) a) (v:=.ref a) (xi I6) hN hi hlc rfl (λs7 I7=>?_) hf
  refine wpAny_mono ((hs (X.pn++pins) a).out [] s7 _ _ (Uo i D) I7 ⟨_,M',IK i F,(ok.mono kt3).set hx6 i,am'.alloc nH,hts,(OY fit i).mono kt3⟩) (λfl s2 q=>?_) λe2 s2 z=>?_
  ·exact OQ hN hi hk<|vk<|Dv I6.ok q
  ·have z:X.xe e2 s2:=z
   rw[hxe]at z
   exact z.elim
end
inductive jH (K:a1C):List DictEntry->List (Str × D)->Prop
 | nil:jH K [] []
 | cons {e:DictEntry} {x:Str} {t:Tok} {d:D} {es:List DictEntry} {fs:List (Str × D)}:e.key = .str x t->xP K e.val d->jH K es fs->jH K (e :: es) ((x,d) :: fs)
def t9{K:a1C}{x:Str}{t:Tok}{hs:Int}{u:Value}{d:D}{es:List DictEntry}{fs:List (Str × D)}(h:xP K u d)(r:jH K es fs):jH K ((⟨hs,.str x t,u⟩:DictEntry) :: es) ((x,d) :: fs):=.cons rfl h r
structure PD(K:a1C)(P:Params)(mg:Str->Option Value)(x:Str)(tab:List (Str × D)):Prop where
 ex:∃(a:Addr) (es:Array DictEntry) (n:Nat),mg x=some (.ref a)/\K.lookup a=some ⟨.type "dict",none,.dict es n,#[]⟩/\PySem.W.KeysLit P es.toList/\(a == sysModules)=false/\jH K es.toList tab
theorem xt{K:a1C}{s:Str}:∀{es:List DictEntry} {tab:List (Str × D)},jH K es tab ->
  (es.find? (·.key.isStr s)=none/\y3 s tab=none/\es.any (·.refKey)=false) \/ ∃ e d,es.find? (·.key.isStr s)=some e/\y3 s tab=some d/\xP K e.val d
 | _,_,.nil=>.inl ⟨rfl,rfl,rfl⟩
 | _,_,.cons (e:=e) (x:=x) (t:=t) (d:=d) (es:=es) (fs:=fs) hk hv r=>by
  by_cases h:x=s
  ·have h1:e.key.isStr s=true:=by rw[hk,h,PySem.W.isStr_of];show(s == s)=true;exact beq_self_eq_true s
   simp_all [a4X,if_pos,y3]
  ·have h1:e.key.isStr s=false:=by
    rw[hk,PySem.W.isStr_of]
    show(x == s)=false
    exact beq_eq_false_iff_ne.mpr h
   have h2:y3 s ((x,d) :: fs)=y3 s fs:=by simp_all [if_neg,y3]
   have h3:e.refKey=false:=by unfold DictEntry.refKey;rw[hk]
   rcases xt (s:=s) r with⟨a,b,c⟩|⟨e',d',a,b,c⟩
   ·exact .inl ⟨by rw[a4X,h1];exact a,by rw[h2];exact b,by rw[a4t,h3];exact c⟩
   ·exact .inr ⟨e',d',by rw[a4X,h1];exact a,by rw[h2];exact b,c⟩
def Kk{K:a1C}{a:Addr}{es:Array DictEntry}{n:Nat}{tab:List (Str × D)}{s:Str}(hl:K.lookup a=some ⟨.type "dict",none,.dict es n,#[]⟩)(hd:jH K es.toList tab) :
  (PySem.W.nsIn K a s=some none/\y3 s tab=none) \/ ∃ u d,PySem.W.nsIn K a s=some (some u)/\y3 s tab=some d/\xP K u d:=by
 unfold PySem.W.nsIn
 rw[hl]
 dsimp only
 rcases xt (s:=s) hd with⟨a1,b,c⟩|⟨e,d,a1,b,c⟩
 ·rw[a1]
  exact .inl ⟨by rw[c];rfl,b⟩
 ·rw[a1]
  exact .inr ⟨e.val,d,rfl,b,c⟩
section
variable {X:Cx} {tab:List (Str × D)} {ta:DTE}
def zK(tab:List (Str × D))(y:D)(M:Mem)(R:DK):Prop:=∃ s,y = .str s/\R (.bl (y3 s tab).isNone) M
def tJ(tab:List (Str × D))(ta:DTE):DTE:=λe M R=>ta e M λy M1=>zK tab y M1 R
def Rv(K:a1C)(q:Addr)(tab:List (Str × D)):R2:=λx y H Q=>∃ s,x = .str s/\y = .ref q/\Q (.bl (y3 s tab).isNone) H
def NV(hl:X.K.lookup q=some ⟨.type "dict",none,.dict es n,#[]⟩)(hk:PySem.W.KeysLit X.w.params es.toList)(lo:(q == sysModules)=false)(hd:jH X.K es.toList tab):OpR X (compareOp .NotIn) (Rv X.K q tab):=by
 intro pins s σ H x y v u Q I rx ry h;obtain⟨z,rfl,rfl,r⟩:=h;obtain⟨t,rfl⟩:=rx;obtain rfl:u=Value.ref q:=ry;have hm:=PySem.W.mapOf_K (prog:=X.prog) (w:=X.w) I.kIn hl hk;rcases Kk (s:=z) hl hd with⟨e1,e2⟩|⟨u',d,e1,e2,_⟩
 ·rw[e2]at r;exact wpAny_notIn_of (strKind_is X.prog X.w z t) lo hm<|by rw[PySem.W.find_K hl e1];exact⟨.bl true,H,I.tok _,rfl,r⟩
 ·rw[e2]at r;exact wpAny_notIn_of (strKind_is X.prog X.w z t) lo hm<|by rw[PySem.W.find_K hl e1];exact⟨.bl false,H,I.tok _,rfl,r⟩
def Ot(h:up X.K (tJ tab ta) σ H Q):tOp (Rv X.K q tab) (up X.K ta) (tC<|.ref q) σ H Q:=by obtain⟨e,M,R,ok,am,t,f⟩:=h;refine⟨e,M,_,ok,am,t,?_⟩;rintro y M1 ⟨s,z,r⟩ v H1 k1 a1 r1;subst z;cases r1;exact⟨s,rfl,rfl,f _ _ r _ _ k1 a1<|.bl _⟩
def yM(T:PD X.K X.w.params X.mg x tab)(hg:Gl X x)(ha:JE X a ta)(hdb:(x == ("__debug__" : Str))=false:=by decide):JT X (.Compare a [.NotIn] [.Name x p] pos) (qv<|tJ tab ta):=by obtain⟨q,es,n,hm,hl,hk,lo,hd⟩:=T.ex;exact⟨PT.imp (rT (NV hl hk lo hd) ha.out (rZ (v:=.ref q) hg hm rfl hdb) rfl) λσ H Q ⟨e,M,R,ok,am,t,f⟩=>Ot ⟨e,M,_,ok,am,t,dc f⟩⟩
def zM(tab:List (Str × D))(y:D)(M:Mem)(R:DK):Prop:=∃ s v,y = .str s/\y3 s tab=some v/\R v M
def Ky(tab:List (Str × D))(tb:DTE):DTE:=λe M R=>tb e M λy M1=>zM tab y M1 R
def To(K:a1C)(q:Addr)(tab:List (Str × D)):R2:=λx y H Q=>x = .ref q/\∃ s d,y = .str s/\y3 s tab=some d/\∀ v,(∀ H',Has K H' v d)->Q v H
def Js(hl:X.K.lookup q=some ⟨.type "dict",none,.dict es n,#[]⟩)(hk:PySem.W.KeysLit X.w.params es.toList)(hd:jH X.K es.toList tab):IxR X (To X.K q tab):=by
 intro value slice pins s σ H x y v u Q I rx ry h hs;obtain⟨rfl,z,d,rfl,e2,r⟩:=h;obtain⟨t,rfl⟩:=ry;obtain rfl:v=Value.ref q:=rx;obtain⟨m,F⟩:=I.fr;rcases Kk (s:=z) hl hd with⟨_,e3⟩|⟨u',d',e1,e3,hc⟩
 ·rw[e2]at e3;cases e3
 ·obtain rfl:d=d':=by rw[e2]at e3;exact Option.some.inj e3
  obtain⟨v',rv,hv⟩:=hc.ex;exact PySem.W.topItem_K F I.ok.mod.kin hl hk e1 ⟨v',H,I.tok _,rv,r v' hv⟩ hs
def xg(T:PD X.K X.w.params X.mg x tab)(hg:Gl X x)(hb:JE X b ta)(hs:gf b)(hdb:(x == ("__debug__" : Str))=false:=by decide):JE X (.Subscript (.Name x p) b pos) (Ky tab ta):=by obtain⟨q,es,n,hm,hl,hk,lo,hd⟩:=T.ex;exact⟨PE.imp (Iy (Js hl hk hd) (rZ (v:=.ref q) hg hm rfl hdb) hb.out hs) λσ H Q ⟨e,M,R,ok,am,t,f⟩=>⟨e,M,_,ok,am,t,λy M1 ⟨s,w,z,hw,r⟩ v H1 k1 a1 r1=>by subst z;cases r1;exact⟨rfl,s,w,rfl,hw,λv' hv'=>f _ _ r _ _ k1 a1<|hv' _⟩⟩⟩
end
def Vb{K:a1C}{P:Params}{mg:Str->Option Value}{h:Heap}{x:Str}{a:Addr}{es:List DictEntry}{n:Nat}{tab:List (Str × D)}(X:K.In h)(G:h.Ns mainGlobals mg)
  (nm:PySem.W.nsIn K mainGlobals x=some (some<|.ref a)) (l:K.lookup a=some ⟨.type "dict",none,.dict es.toArray n,#[]⟩) (k:PySem.W.KeysLit P es) (lo:(a == sysModules)=false) (hd:jH K es tab):PD K P mg x tab :=
 ⟨a,es.toArray,n,PySem.W.mg_of X G nm,l,k,lo,hd⟩
end DL
namespace DL
open PySem PySem.Spec L2 PySem.W
open PyProof.Rows hiding St
section
variable {K:a1C} {mg:Str->Option Value} {c x q f0:Str} {C f:Addr} {st:Stmt} {ps:List Str} {h:Heap}
def Pk(n:nsIn K mainGlobals c=some (some<|.ref C))(pg:plainGet K C a3o=true)(hd:hasDictIn K C=true)(po:plainOver K C=true)(sa:findIn K (.ref C) "__setattr__" = some (some<|.builtin "object.__setattr__")):PH K c:=⟨C,n,⟨pg,hd,po,sa⟩⟩
def IV(n:nsIn K mainGlobals c=some (some<|.ref C))(a:findIn K (.ref C) f0=some none):NoA K c f0:=⟨C,n,a⟩
def Uv(n:nsIn K mainGlobals c=some (some<|.ref C))(mk:makesIn K C=true)(i:findIn K (.ref C) "__init__" = some (some<|.ref f))(fn:isFn K (.ref f)=true)(kp:keepIn K (.ref C)=true):MkD K c:=⟨C,f,n,⟨mk,i,fn,kp⟩⟩
def Kp(X:K.In h)(G:h.Ns mainGlobals mg)(n:nsIn K mainGlobals c=some (some<|.ref C))(a:findIn K (.ref C) x=some (some<|.ref f))(i:isFn K (.ref f)=true)
  (l:K.lookup f=some ⟨oc,od,.func<|fnOf x q (J4 st) (B1 st) (c9 st) dV kV doc pm an cdv ct,osl⟩) (cd:codeIn K cdv q=true) (k:keepIn K (.ref f)=true)
  (pg:plainGet K C a3o=true) (hd:hasDictIn K C=true) (po:plainOver K C=true) (sa:findIn K (.ref C) "__setattr__" = some (some<|.builtin "object.__setattr__"))
  (hb:∀ us:List Value,us.length=ps.length->bindArgs (fnOf x q (J4 st) (B1 st) (c9 st) dV kV doc pm an cdv ct) ⟨us,[]⟩=pure (ps.zip us)):DfM K mg c x q st ps :=
 ⟨C,f,_,⟨⟨oc,od,dV,kV,doc,pm,an,cdv,ct,osl,rfl,l,cd⟩⟩,mg_of X G n,⟨n,⟨pg,hd,po,sa⟩⟩,⟨a,i,k⟩,.all hb⟩
end
def QG:Yt c f ta e M R=ta e M λx M1=>VA c f x M1 R:=rfl
def FA:Sa c f ta tv F e M=tv e M λy M1=>ta e M1 λx M2=>Vv c f y x M2 (F.nx e):=rfl
def FH:CO c m sp Y to t e M R=to e M λx M1=>Vw c m x M1 (t e M1 λds M2=>sp (x :: ds) M2 R Y):=rfl
def FI:Sf c sp e M R = ∀ x,M x=none->sp [.ref x] (l9 M x<|.ins c []) (λd M2=>d = .non/\R (.ref x) M2) Y0:=rfl
def uS:tJ tab ta e M R=ta e M λy M1=>zK tab y M1 R:=rfl
def uR:zK tab (.str s) M R=R (.bl (y3 s tab).isNone) M:=propext ⟨λ⟨_,z,r⟩=>by cases z;exact r,λr=>⟨s,rfl,r⟩⟩
def AM:Ky tab ta e M R=ta e M λy M1=>zM tab y M1 R:=rfl
def uU:zM tab (.str s) M R = ∃ v,y3 s tab=some v/\R v M:=propext ⟨λ⟨_,v,z,h,r⟩=>by cases z;exact⟨v,h,r⟩,λ⟨v,h,r⟩=>⟨s,v,rfl,h,r⟩⟩
def nE(h:M p=some (.ins c fs))(g:y3 f fs=some v)(r:R v M):VA c f (.ref p) M R:=⟨p,fs,v,rfl,h,g,r⟩
def zI(h:M p=some (.ins c fs))(hl:fs.length<1000)(r:P (l9 M p<|.ins c<|yt f y fs)):Vv c f y (.ref p) M P:=⟨p,fs,rfl,h,hl,r⟩
def kK(h:M p=some (.ins c fs))(g:y3 m fs=none)(r:P):Vw c m (.ref p) M P:=⟨⟨p,fs,rfl,h,g⟩,r⟩
end DL
namespace DL
open PyProof.Rows hiding St
def Jk(hxe:X.xe=λ_ _=>False)(hb:JSs X body t):JS X (.Try body [.ExceptHandler (some c) n suite hpos] [] [] pos) t:=by refine⟨λpins s σ H D I h=>?_⟩;refine wpAny_Try_except<|wpAny_mono (hb.out pins s σ H D I h) (λfl s1 q=>?_) λe s1 z=>?_;all_goals grind[wpAny_execs_nil,ret,False.elim]
def zP.noX{P:Program}{w:World}{K:a1C}{mg:Str->Option Value}{base:Heap}{c x:Str}{k:Nat}{ps:List Str}{sp:DSp}(G:zO P w K mg base c x k ps sp):FnM P w K mg base c x k ps (noX sp):=G.fn λ_ _ _ _ h=>h
end DL
namespace GM
open PySem PySem.Spec L2 DL PySem.NumText
def jnW:List (List Nat)->List Nat
 | []=>[]
 | [w]=>w
 | w :: r=>w++32 :: jnW r
def SK{c:Nat}{a b:List Nat}(h:c∉a):(a++c :: b).takeWhile (· != c)=a/\(a++c :: b).dropWhile (· != c)=c :: b:=by
 induction a with
 | nil=>exact⟨by simp,by simp⟩
 | cons x a ih =>have hx:x≠c:=λe=>h<|e▸a1M ..;obtain⟨i1,i2⟩:=ih λm=>h<|a1O _ m;rw[a3T,a2N<|by simp[hx],a3u<|by simp[hx],i1,i2];exact⟨rfl,rfl⟩
theorem lr:∀(ws:List (List Nat)) (N:Nat),ws≠[]->(∀ w∈ws,32∉w)->(jnW ws).length<N->cC [32] N (jnW ws) []=ws
 | [],_,h,_,_=>absurd rfl h
 | [w],N,_,hw,hN=>by simp_all [lu,if_neg,jnW]
 | w :: v :: r,N,_,hw,hN=>by have e:jnW (w :: v :: r)=w++32 :: jnW (v :: r):=rfl;have h1:=SK (c:=32) (a:=w) (b:=jnW (v :: r)) (hw w<|by simp);rw[e]at hN ⊢;rw[lu 32 N _ [] hN,if_pos<|by simp,h1.1,h1.2];rw[a1V,a15]at hN;show([]++w) :: cC [32] (N - 1 - w.length) (jnW (v :: r)) []=_;rw[lr (v :: r) (N - 1 - w.length) (by simp) (λx hx=>hw x<|a1O _ hx)<|by omega];rfl
def vj(h:sg s=jnW (ws.map sg))(hn:ws≠[])(hw:∀ w∈ws,32∉sg w):Txt.split s (a1B " ")=ws:=by
 have sp:a1B " " = ⟨#[32]⟩:=by rfl
 rw[sp,GJ (x:=s) (y:=⟨#[32]⟩) (a1U 1) (by rw[0])<|a24 s.length];show(cC [32] s.length.succ (sg s) []).map mkS=ws;rw[h,lr _ _ (by simp_all) (λx hx=>by obtain⟨w,hm,rfl⟩:=a17.mp hx;exact hw w hm)<|by rw[<- h,A7];exact a24 _,a2k];conv=>rhs;rw[<- a5C ws]
 rfl
def Gk(n:Int):32∉sg (tx n):=λh=>by have:=la n 32 h;omega
def HQ(q:Rat):32∉sg (rtx q):=by
 unfold rtx;split
 ·exact Gk _
 ·rw[O3,O3]
  intro h;rcases a10.mp h with h|h
  ·rcases a10.mp h with h|h
   ·exact Gk _ h
   ·exact absurd h<|by rw[0]
  ·exact Gk _ h
def Ja{x:Str × Rat}(h:(x.1 = "gap" /\ 0<=x.2)\/x.1 = "glass" \/ (x.1 = "stop" /\ 0<x.2)):wX x.1 x.2=true:=by
 have mb:wX x.1 x.2=if x.1=a1B "gap" then decide (0<=x.2.num)else if x.1=a1B "stop" then decide (0<x.2.num)else decide (x.1=a1B "glass"):=rfl
 rw[mb];rcases h with⟨e,h2⟩|e|⟨e,h2⟩
 ·simp_all
 ·rw[if_neg<|by rw[e];rw[0],if_neg<|by rw[e];rw[0],decide_eq_true_eq];exact e
 ·rw[if_neg<|by rw[e];rw[0],if_pos e,decide_eq_true_eq];simp_all [a5l]
abbrev Hl:=Rat × List (Str × Rat) × Rat
def qp(h:Hl):D:=.tup [d6 h.1,.vl<|h.2.1.map i8,d6 h.2.2]
def hl0:Hl:=(0,[],0)
structure aL(M:Mem)(d l:Addr)(h:Hl)(ps:List Hl):Prop where
 ob:M d=some (.ins (a1B "Desk") [(a1B "hall",qp h),(a1B "past",.ref l)])
 pa:M l=some (.lst (ps.map qp))
def BO(k:Nat):rtx (k:Rat)=tx (k:Int):=by rfl
def MG(h:cX w=true):32∉sg w:=by unfold cX at h;rw[a2S,a2S,decide_eq_true_eq,decide_eq_true_eq,decide_eq_true_eq]at h;rcases h with(h|h)|h<;>rw[h]<;>rw[0]
def gj(h:cX w=true):w.length<=5:=by unfold cX at h;rw[a2S,a2S,decide_eq_true_eq,decide_eq_true_eq,decide_eq_true_eq]at h;rcases h with(h|h)|h<;>rw[h]<;>rw[0]
def Oth(d l:Addr)(M M':Mem):Prop:=∀ b,b≠d->b≠l->M' b=M b
example kg HC An(d:Addr):[.ref d]:=M d=some (.ins (a1B "Desk") [])/\∀ l,M l=none->R .non (l9 (l9 M l<|.lst []) d<|.ins (a1B "Desk") [(a1B "hall",qp hl0),(a1B "past",.ref l)])
def CS(x:Str):Int:=if x=a1B "NoPart" then 1 else if x=a1B "NoNumber" then 2 else if x=a1B "TooMany" then 3 else 4
theorem Cj(w:Str):∀ ts:List Str,inV (.str w) (ts.map V.str)=ts.any (· == w)
 | []=>rfl
 | t :: ts=>by show((t == w) || inV (.str w) (ts.map V.str))=_;rw[Cj w ts];rfl
def vW:List (Str × D):=[("put",.tup [.str "word",.str "number"]),("set",.tup [.str "part",.str "number"]),("cut",.tup [.str "part"]),("near",.tup [.str "number"]),("far",.tup [.str "number"]),("back",.tup []),("bench",.tup []),("hall",.tup []),("table",.tup []),("image",.tup [.str "plane"]),("ray",.tup [.str "number",.str "number"]),("idle",.tup [.str "part"]),("round",.tup []),("ever",.tup [.str "number",.str "number"]),("glasses",.tup [])]
def fO(x y:D):y3 (a1B "hall") [(a1B "hall",x),(a1B "past",y)]=some x:=if_pos rfl
def JR(x y:D):y3 (a1B "past") [(a1B "hall",x),(a1B "past",y)]=some y:=by rfl
def Ih(x y z:D):yt (a1B "hall") z [(a1B "hall",x),(a1B "past",y)]=[(a1B "hall",z),(a1B "past",y)]:=if_pos rfl
def Ig(x y:D):yt (a1B "past") y [(a1B "hall",x)]=[(a1B "hall",x),(a1B "past",y)]:=by rfl
def kv(x y:D)(h1:¬ a1B "hall" = m)(h2:¬ a1B "past" = m):y3 m [(a1B "hall",x),(a1B "past",y)]=none:=by show(if a1B "hall" = m then _ else(if a1B "past" = m then _ else _))=_;rw[if_neg h1,if_neg h2];rfl
def aL.ne(x:aL M d l h ps):d≠l:=λe=>by have:=x.ob;rw[e,x.pa]at this;cases this
def LI(xs:List (Str × Str × D)):Q0 ((xs.map (·.1)).map D.str) ((xs.map (·.2.1)).map D.str)=xs.map λx=>.tup [.str x.1,.str x.2.1]:=by simp[a1Z,List.zipWith_cons_cons,Q0]
def MN(_h:b≠a):l9 (l9 (l9 M a x) b y) a z=l9 (l9 M b y) a z:=by funext c;grind[f7,i7]
def Lr(ts:List Str)(r:R (.bl (if neg then !(ts.any (· == w))else ts.any (· == w))) M):gIn neg (.str w) (.tup<|ts.map D.str) M R :=
 ⟨.str w,ts.map D.str,ts.map V.str,rfl,by simp only[u9],by rw[a2k,a2k];rfl,by rw[Cj];exact r⟩
def chT:List Str:=[a1B "put",a1B "set",a1B "cut",a1B "near",a1B "far"]
def qf(h:cQ x):cX x.1=true:=by
 unfold cX;rw[a2S,a2S,decide_eq_true_eq,decide_eq_true_eq,decide_eq_true_eq];rcases h.kind with⟨e,_⟩|e|⟨e,_⟩
 ·exact .inl<|.inl e
 ·exact .inl<|.inr e
 ·exact .inr e
end GM
namespace L2
open PySem PySem.Spec PyProof.Rows
abbrev TF:=Str->St->Hp->VK->Prop
def PF(X:Cx)(es:List Expr)(t:TF):Prop:=∀(pins:List (Addr × Obj)) (s:Shared) (σ:St) (H:Hp) (acc:Str) (Q:VK),Inv X pins σ H s->t acc σ H Q->wpAny (model X.prog X.w) X.A (joinParts acc<|evalEach es X.env) (EP X pins σ Q) X.xe s
def TQ:PF X [] (λacc _ H Q=>acc.length<=sizeLine/\Q (.str acc) H):=λpins s σ H acc Q I h =>
 joinParts_nil ⟨.str acc,H,I.tok _,⟨_,rfl⟩,h.2⟩ h.1
def TN{j}(hr:PF X es t):PF X (.Constant (.str x) j pos :: es) (λacc σ H Q=>(acc++x).length<=sizeLine/\t (acc++x) σ H Q):=λpins s σ H acc Q I h =>
 joinParts_cons (Calls.Constant_str ⟨h.1,hr pins _ σ H _ Q (I.tok _) h.2⟩)
def TM(he:PE X e te)(hr:PF X es t):PF X (.FormattedValue e (-1) none pos :: es) (λacc σ H Q=>te σ H λv H1=>(∃ z,v = .str z/\z.length<=sizeLine/\(acc++z).length<=sizeLine/\t (acc++z) σ H1 Q) \/
  ∃ n:Int,v = .int n/\n.natAbs.log2<1920/\(acc++a1B (toString n)).length<=sizeLine/\t (acc++a1B (toString n)) σ H1 Q):=λpins s σ H acc Q I h=>by
 refine joinParts_cons<|FormattedValue_plain<|wpAny_mono (he pins s σ H _ I h) ?_ λ_ _ z=>z
 rintro u s1 ⟨v,H1,I1,r,q⟩
 rcases q with⟨z,rfl,hz,hl,q⟩|⟨n,rfl,hn,hl,q⟩
 ·obtain⟨tk,rfl⟩:=r
  exact formatField_str (λt' tk'=>⟨hl,hr pins _ σ H1 _ Q (I1.tok _) q⟩) hz
 ·obtain⟨tk,rfl⟩:=r
  exact formatField_int_small hn ⟨hl,hr pins _ σ H1 _ Q (I1.tok _) q⟩
def XA(h:PF X (e :: e2 :: es) t):PE X (.JoinedStr (e :: e2 :: es) pos) (λσ H Q=>t a3o σ H Q):=λpins s σ H Q I q=>JoinedStr_many<|h pins s σ H a3o Q I q
end L2
namespace DL
open PyProof.Rows hiding St
abbrev DTF:=Str->DTE
def upF(K:a1C)(t:DTF):TF:=λacc=>up K<|t acc
structure JF(X:Cx)(es:List Expr)(t:DTF):Prop where
 out:PF X es (upF X.K t)
def PF.imp(h:PF X es t)(i:∀ acc σ H Q,t' acc σ H Q->t acc σ H Q):PF X es t':=λpins s σ H acc Q I q=>h pins s σ H acc Q I<|i acc σ H Q q
def RY:DTF:=λacc _ M R=>acc.length<=sizeLine/\R (.str acc) M
def RX(x:Str)(t:DTF):DTF:=λacc e M R=>acc.length+x.length<=sizeLine/\t (acc++x) e M R
def FvK(d:D)(acc:Str)(M:Mem)(P:Str->Mem->Prop):Prop:=(∃ z,d = .str z/\acc.length+z.length<=sizeLine/\P (acc++z) M) \/ ∃ n:Int,d = .int n/\n.natAbs.log2<1920/\acc.length+(a1B<|toString n).length<=sizeLine/\P (acc++a1B (toString n)) M
def RW(te:DTE)(t:DTF):DTF:=λacc e M R=>te e M λd M1=>FvK d acc M1 λz M2=>t z e M2 R
def yW(a b:Str):(a++b).length=a.length+b.length:=by show(a.cps++b.cps).size=_;rw[Array.size_append];rfl
def Ji:JF X [] RY:=⟨PF.imp TQ λacc σ H Q ⟨e,M,R,ok,am,⟨hl,r⟩,f⟩=>⟨hl,f _ M r _ H (KT.refl H) am<|.str _⟩⟩
def sW{j}(hr:JF X es t):JF X (.Constant (.str x) j pos :: es) (RX x t):=⟨PF.imp (TN hr.out) λacc σ H Q ⟨e,M,R,ok,am,⟨hl,r⟩,f⟩=>⟨by rw[yW];exact hl,e,M,R,ok,am,r,f⟩⟩
def gR(he:JE X e te)(hr:JF X es t):JF X (.FormattedValue e (-1) none pos :: es) (RW te t):=⟨PF.imp (TM he.out hr.out) λacc σ H Q ⟨e,M,R,ok,am,tt,f⟩=>⟨e,M,_,ok,am,tt,λd M1 h v H1 k1 a1 r1=>by
 rcases h with⟨z,rfl,hl,r⟩|⟨n,rfl,hn,hl,r⟩
 ·cases r1;exact .inl ⟨z,rfl,by omega,by rw[yW];exact hl,e,M1,R,ok.mono k1,a1,r,f.mono k1⟩
 ·cases r1;exact .inr ⟨n,rfl,hn,by rw[yW];exact hl,e,M1,R,ok.mono k1,a1,r,f.mono k1⟩⟩⟩
def dFs(t:DTF):DTE:=t a3o
def RB(h:JF X (e :: e2 :: es) t):JE X (.JoinedStr (e :: e2 :: es) pos) (dFs t):=⟨XA h.out⟩
def WA{e:Ev}{M:Mem}{R:DK}:dFs t e M R=t a3o e M R:=rfl
def Fp{acc:Str}{e:Ev}{M:Mem}{R:DK}:RY acc e M R=(acc.length<=sizeLine/\R (.str acc) M):=rfl
def Fo{x acc:Str}{e:Ev}{M:Mem}{R:DK}:RX x t acc e M R=(acc.length+x.length<=sizeLine/\t (acc++x) e M R):=rfl
def Fm{acc:Str}{e:Ev}{M:Mem}{R:DK}:RW te t acc e M R=te e M λd M1=>FvK d acc M1 λz M2=>t z e M2 R:=rfl
def QD:FvK (.str z) acc M P=(acc.length+z.length<=sizeLine/\P (acc++z) M):=propext ⟨λh=>(by
 rcases h with⟨_,e,h⟩|⟨_,e,_⟩
 ·cases e;exact h
 ·cases e),λh=>.inl ⟨z,rfl,h⟩⟩
def FP:FvK (.int n) acc M P=(n.natAbs.log2<1920/\acc.length+(a1B<|toString n).length<=sizeLine/\P (acc++a1B (toString n)) M):=propext ⟨λh=>(by
 rcases h with⟨_,e,h⟩|⟨_,e,h⟩
 ·cases e
 ·cases e;exact h),λh=>.inr ⟨n,rfl,h⟩⟩
section
variable {X:Cx} {o e:Expr} {es:List Expr} {to:DTE} {t:DTA} {name:Str} {apos cpos:Pos} {id:String}
def Yp(g:DRM)(to:DTE)(t:DTA):DTE:=λe M R=>to e M λx M1=>(∃ ds,x = .vl ds)/\t e M1 λxs M2=>g x xs M2 R
def UD(slot:Slot "list" name id)(hty:typeOf (.builtin id)=pure (.type "method_descriptor"))(hm:DMt X id g)(ho:JE X o to)(ha:JA X (e :: es) t)
  (hbase:attributeBase o name X.env (eval o X.env)=eval o X.env:=by rfl)
  (hfew:((backTo cpos<|starEach (e :: es) X.env).all (λx=>!x.1) && (backToKw cpos<|keywordEach [] X.env).all (λx=>x.1.isSome)
   && decide ((e :: es).length+([]:List Keyword).length+(if ([]:List Keyword).isEmpty then 0 else 1)<30))=true:=by rfl)
  (hline:(apos.endLine == cpos.line)=true:=by rfl) (hs:starEach (e :: es) X.env=(false,eval e X.env) :: starEach es X.env:=by rfl) (hplain:(backTo cpos<|starEach es X.env).any (·.1)=false:=by rfl) :
  JE X (.Call (.Attribute o name apos) (e :: es) [] cpos) (Yp g to t) :=
 ⟨(wj PySem.F.plainAttrs_list slot hty hm ho.out ha.out hbase hfew hline hs hplain).imp λσ H Q ⟨e,M,R,ok,am,t,f⟩=>⟨e,M,_,ok,am,t,λx M1 ⟨⟨ds,z⟩,h1⟩ v H1 k1 a1 r1=>by subst z;obtain⟨a,xs,rfl,q1,m1⟩:=o8 (j5.mpr rfl) a1 r1;exact⟨.inl ⟨rfl,xs,q1⟩,e,M1,_,ok.mono k1,a1,h1,λzs M2 h2 vs H2 k2 a2 r2=>⟨_,zs,M2,R,r1.mono k2,r2,a2,h2,f.mono<|k1.trans k2⟩⟩⟩⟩
theorem Bn(I:Inv X pins σ H s)(am:l7 X.K H M)(cx:cl 60 x=true) :
  ∀{ds:List D} {vs:List V} {us:List Value},clL 59 ds=true->HasL X.K H vs ds->j8 vs us->∀(i:Nat) d w,ds[i]? = some d->us[i]? = some w->(cD s.heap (pyD x) w=true↔d=x)
 | [],_,_,_,_,_=>λi d w h=>by simp at h
 | d0 :: ds,_,_,c,h,r=>by
  cases h with
  | cons h hl =>
   cases r with
   | cons r rl =>
    have c':cl 59 d0=true/\clL 59 ds=true:=by simpa[clL]using c
    intro i d w hd hw;cases i with
    | succ i=>exact Bn I am cx c'.2 hl rl i d w hd hw
    | zero =>obtain rfl:=Option.some.inj hd;obtain rfl:=Option.some.inj hw;obtain⟨p1,p2,p3⟩:=nv (M:=M) c'.1;obtain⟨as,rd⟩:=J6 I am p1 h r;rw[pY (p:=pyD x) p2 rd];exact tM c'.1 cx
def US:DRM:=λx xs M R=>∃(ds:List D) (v:D) (j:Nat),x = .vl ds/\xs=[v]/\(cl 60 v=true/\clL 59 ds=true/\ds.length<=1000/\ds[j]? = some v/\∀ i,i<j->ds[i]? ≠ some v)/\R (.int (j:Int)) M
def Ki(hu:X.A.units+64<cLine):DMt X "list.index" US:=by
 intro pins s σ H x xs v us Q I rx rv h;obtain⟨dx,ds0,M,R,hx,hl,am,⟨ds,d,j,rfl,rfl,⟨c1,c2,hn,hj,hno⟩,r⟩,f⟩:=h;obtain⟨a,ys,rfl,q1,m1⟩:=o8 (j5.mpr rfl) am hx;cases rx;obtain⟨v1,rfl,hv⟩:=hl.one;obtain⟨u,rfl,ru⟩:=L5 rv;obtain⟨bs,rd⟩:=J6 I am (nv (M:=M) c1).1 hv ru;obtain⟨its,rv,pl,hz⟩:=I.list q1;obtain⟨i1,_⟩:=lK (B:=X.A.in1) I am (by show X.A.units+1+62<cLine;omega) c1 rd c2 m1 rv;have ix:=Bn I am c1 c2 m1 rv;have el:its.length=ds.length:=by rw[<- rv.length,m1.length]
 have jl:=(a1I.mp hj).1;obtain⟨⟨cls,dd,data,sl⟩,ho,hc,n,hd⟩:=pl.isList;simp only at hc hd;subst hc hd;refine call_meets PySem.F.slot_list_index ⟨_,ho,rfl⟩ PySem.F.entry_list_index (PySem.F.args_list_index_2 _ _) (SeqAt.list_indexAt a its.toArray n dd sl u (cD s.heap<|pyD d) j (by show j<its.length;omega) (by omega) ?_ ?_) ⟨ho,λy hy=>i1 y<|by simpa using hy,?_⟩
 ·exact(ix j d _ hj<|by rw[a1T<|by omega];rfl).mpr rfl
 ·intro m hm hlt
  have hm':m<its.length:=hm;cases e5:cD s.heap (pyD d) its.toArray[m]with
  | false=>rfl
  | true =>have:=(ix m _ _ (a1T (l:=ds) (i:=m)<|by omega)<|a1T hm').mp e5;exact absurd (by rw[a1T<|by omega,this])<|hno m hlt
 ·exact⟨.int _,H,I.tok _,⟨_,rfl⟩,f _ M r _ H (KT.refl H) am<|.int _⟩
def Ww{g:DRM}{ta:DTE}{tr:DTA}{e:Ev}{M:Mem}{R:DK}:Yp g ta tr e M R=ta e M λx M1=>(∃ ds,x = .vl ds)/\tr e M1 λxs M2=>g x xs M2 R:=rfl
end
end DL
namespace L2
open PySem PySem.Spec PyProof.Rows
abbrev cS(h:Heap)(z TI TO a:Addr)(f:Bool):Prop :=
 h.get? z=some { cls:=.type "zip",dict:=none,data:=.fields #[rawInt a,.bool f,.bool false,.ref TI,.ref TO],slots:=#[] }
def Dh:typeLookup (.type "zip") "__len__" = pure none:=by rfl
def xT:typeLookup (.type "zip") "__length_hint__" = pure none:=by rfl
def Lg(ho:s.heap.get? a=some o)(h:Q (some o) s):wpAny (model prog w) A (loadIfAlive a) Q E s:=by
 have h':Q (s.heap.get? a) s:=by rw[ho];exact h
 exact λ_ _ _=>h'
def EA{z TI TO a:Addr}{f:Bool}{oa:Obj}{Q:Bool->Shared->Prop}(iz:cS s.heap z TI TO a f)(ha:s.heap.get? a=some oa)
  (q:∀ h',cS h' z TI TO a true->Heap.SameBut z s.heap h'->Q false { s with heap:=h' }):wpAny (model prog w) A (Builtin.SmallTypes.ownedTupleIsFree<|.ref z) Q E s:=by
 unfold Builtin.SmallTypes.ownedTupleIsFree
 refine a1D<|wpAny_field iz rfl (x:=rawInt a) rfl ?_
 show wpAny _ _ (loadIfAlive ((a:Int).toNat) >>= _) _ _ _
 rw[a2z]
 refine a1D<|Lg ha ?_
 show wpAny _ _ (field (.ref z) 1 >>= _) _ _ _
 refine a1D<|wpAny_field iz rfl (x:=.bool f) rfl ?_
 cases f with
 | true =>
  refine wpAny_ite_split (λy=>absurd y<|by decide) λ_=>?_
  refine a1Q<|q s.heap iz ?_
  exact⟨rfl,λ_ _=>rfl⟩
 | false =>
  refine wpAny_ite_split (λ_=>?_) λy=>absurd (by decide) y
  refine a1D<|wpAny_setField_rec iz (by simp) λh' e1 e2=>a1Q<|q h' e1 e2
def Ez{z TI TO p1 p2 l1 l2 a:Addr}{f:Bool}{oa:Obj}{c1 c2:Bool}{n1 n2:Nat}{xs ys:Array Value}{v1 v2:Value}{Q:Option Value->Shared->Prop}(D:ZipApart z TI TO p1 p2 l1 l2)
  (iz:cS s.heap z TI TO a f) (ha:s.heap.get? a=some oa) (iI:IsPair s.heap TI (.ref p1) (.ref p2)) (g1:SI c1 s.heap p1 l1 n1) (g2:SI c2 s.heap p2 l2 n2) (m1:SS c1 s.heap l1 xs) (m2:SS c2 s.heap l2 ys) (w1:xs[n1]? = some v1) (w2:ys[n2]? = some v2)
  (q:∀ h',cS h' z TI TO a true->SI c1 h' p1 l1 (n1+1)->SI c2 h' p2 l2 (n2+1)->IsPair h' s.heap.objs.size v1 v2->h'.objs.size=s.heap.objs.size+1 ->
   (∀ b o,b≠z->b≠p1->b≠p2->s.heap.get? b=some o->h'.get? b=some o)->Q (some<|.ref s.heap.objs.size) { s with heap:=h' }):wpAny (model prog w) A (pyNext<|.ref z) Q E s:=by
 have ty:s.TypeIs (.ref z) "zip" := ⟨_,iz,rfl⟩
 unfold pyNext
 refine a1D<|wpAny_attempt<|wpAny_callSpecial?_slot (name:=a1B "__next__") ty F.slot_zip_next<|wpAny_call_entry F.slot_zip_next ty F.entry_zip_next ?_ (F.args_zip_next_1 _)
 show wpAny _ _ (field (.ref z) 2 >>= _) _ _ _
 refine a1D<|wpAny_field iz rfl (x:=.bool false) rfl ?_
 show wpAny _ _ (field (.ref z) 3 >>= _) _ _ _
 refine a1D<|wpAny_field iz rfl (x:=.ref TI) rfl<|a1D<|wpAny_seqItems iI rfl ?_
 show wpAny _ _ (Builtin.SmallTypes.ownedTupleIsFree (.ref z) >>= _) _ _ _
 refine a1D<|EA iz ha λha' za sa=>?_
 simp only[a2T,if_false]
 refine a1D ?_
 simp only[a5i,a3B,a4j]
 refine a1D<|a1D<|wpAny_holding ?_
 show wpAny _ _ (Builtin.SmallTypes.nextOf (.ref p1) >>= _) _ _ _
 refine a1D<|V0 (g1.but sa.extBut D.i1z) (m1.but sa.extBut D.l1z) w1 λhb gb sb=>a1Q ?_
 refine a1Q<|a1D<|a1D<|wpAny_holding ?_
 show wpAny _ _ (Builtin.SmallTypes.nextOf (.ref p2) >>= _) _ _ _
 refine a1D<|V0 ((g2.but sa.extBut D.i2z).but sb.extBut D.i12.symm) ((m2.but sa.extBut D.l2z).but sb.extBut D.l2i1) w2 λhd gd sd=>a1Q ?_
 refine a1Q<|a1Q ?_
 refine a1D<|wpAny_newTuple (hsz:=show 2<=sizeLine by decide) ?_
 have zs:hd.objs.size=s.heap.objs.size:=by rw[sd.1,sb.1,sa.1]
 have kE:∀ b o,b≠z->b≠p1->b≠p2->s.heap.get? b=some o->hd.get? b=some o:=λb o b1 b3 b4 e=>sd.extBut _ _ b4<|sb.extBut _ _ b3<|sa.extBut _ _ b1 e
 refine a1Q ⟨_,rfl,a1Q ?_⟩
 show Q (some<|.ref hd.objs.size) _
 have gz:cS hd z TI TO a true:=sd.extBut _ _ D.i2z.symm<|sb.extBut _ _ D.i1z.symm za
 rw[zs]
 refine q _ (a1E _ gz) ((gb.but sd.extBut D.i12).at λo e=>a1E _ e) (gd.at λo e=>a1E _ e) ?_ (by rw[a2D,zs]) λb o b1 b3 b4 e=>a1E _<|kE b o b1 b3 b4 e
 have e9:(hd.push { cls:=.type "tuple",data:=.seq #[v1,v2] }).get? hd.objs.size=some { cls:=.type "tuple",data:=.seq #[v1,v2] }:=a1P _ rfl
 rw[zs]at e9
 exact e9
def LK{z TI TO p1 p2 l1 l2 a:Addr}{f:Bool}{oa:Obj}{c1 c2:Bool}{n1 n2:Nat}{xs ys:Array Value}{Q:Option Value->Shared->Prop}(hA:A.handled=none)(D:ZipApart z TI TO p1 p2 l1 l2)
  (iz:cS s.heap z TI TO a f) (ha:s.heap.get? a=some oa) (iI:IsPair s.heap TI (.ref p1) (.ref p2)) (g1:SI c1 s.heap p1 l1 n1) (g2:SI c2 s.heap p2 l2 n2) (m1:SS c1 s.heap l1 xs) (m2:SS c2 s.heap l2 ys) (fin:xs[n1]? = none\/ys[n2]? = none)
  (q:∀ h',(∀ b o,b≠z->b≠p1->b≠p2->s.heap.get? b=some o->h'.get? b=some o)->Q none { s with heap:=h' }):wpAny (model prog w) A (pyNext<|.ref z) Q E s:=by
 have ty:s.TypeIs (.ref z) "zip" := ⟨_,iz,rfl⟩
 unfold pyNext
 have out:∀(h':Heap) (e:Addr),(∀ b o,b≠z->b≠p1->b≠p2->s.heap.get? b=some o->h'.get? b=some o)->(∃ o,h'.get? e=some o/\o.cls = .type "StopIteration") ->
   wpAny (model prog w) A (do if <- isInstance (.ref e) (.type "StopIteration")then pure none else throw (.ref e):Sem (Option Value)) Q E { s with heap:=h' }:=λh' e k ⟨o,e1,e2⟩ =>
  a1D (wpAny_isInstance (T := "StopIteration") (b:=true) ⟨o,e1,e2⟩ isSubtype_stop<|a1Q<|q h' k)
 refine a1D<|wpAny_attempt<|wpAny_callSpecial?_slot (name:=a1B "__next__") ty F.slot_zip_next<|wpAny_call_entry F.slot_zip_next ty F.entry_zip_next ?_ (F.args_zip_next_1 _)
 show wpAny _ _ (field (.ref z) 2 >>= _) _ _ _
 refine a1D<|wpAny_field iz rfl (x:=.bool false) rfl ?_
 show wpAny _ _ (field (.ref z) 3 >>= _) _ _ _
 refine a1D<|wpAny_field iz rfl (x:=.ref TI) rfl<|a1D<|wpAny_seqItems iI rfl ?_
 show wpAny _ _ (Builtin.SmallTypes.ownedTupleIsFree (.ref z) >>= _) _ _ _
 refine a1D<|EA iz ha λha' za sa=>?_
 simp only[a2T,if_false]
 refine a1D ?_
 simp only[a5i,a3B,a4j]
 refine a1D<|a1D<|wpAny_holding ?_
 show wpAny _ _ (Builtin.SmallTypes.nextOf (.ref p1) >>= _) _ _ _
 cases w1:xs[n1]? with
 | none =>
  refine a1D<|lB hA (g1.but sa.extBut D.i1z) (m1.but sa.extBut D.l1z) w1 λhb e sb oe=>?_
  exact out hb e (λb o b1 b3 _ y=>sb _ _ b3<|sa.extBut _ _ b1 y) oe
 | some v1 =>
  have w2:ys[n2]? = none:=fin.resolve_left<|by rw[w1];exact λy=>nomatch y
  refine a1D<|V0 (g1.but sa.extBut D.i1z) (m1.but sa.extBut D.l1z) w1 λhb gb sb=>a1Q ?_
  refine a1Q<|a1D<|a1D<|wpAny_holding ?_
  show wpAny _ _ (Builtin.SmallTypes.nextOf (.ref p2) >>= _) _ _ _
  refine a1D<|lB hA ((g2.but sa.extBut D.i2z).but sb.extBut D.i12.symm) ((m2.but sa.extBut D.l2z).but sb.extBut D.l2i1) w2 λhd e sd oe=>?_
  exact out hd e (λb o b1 b3 b4 y=>sd _ _ b4<|sb.extBut _ _ b3<|sa.extBut _ _ b1 y) oe
structure oY(k1 k2:Bool)(h:Heap)(z TI TO p1 p2 l1 l2 S:Addr)(xs ys:Array Value)(i:Nat):Prop where
 zip:IsZip h z TI TO .none \/ ∃ a f oa,cS h z TI TO a f/\h.get? a=some oa/\a≠z/\a≠p1/\a≠p2/\a≠S
 ti:IsPair h TI (.ref p1) (.ref p2)
 tO:∃ a b,IsPair h TO a b
 s1:SI k1 h p1 l1 i
 s2:SI k2 h p2 l2 i
 m1:SS k1 h l1 xs
 m2:SS k2 h l2 ys
def oY.keep{k1 k2:Bool}{h h':Heap}{z TI TO p1 p2 l1 l2 S:Addr}{xs ys:Array Value}{i:Nat}(x:oY k1 k2 h z TI TO p1 p2 l1 l2 S xs ys i)(k:∀ b o,b≠S->h.get? b=some o->h'.get? b=some o)
  (n:z≠S/\TI≠S/\TO≠S/\p1≠S/\p2≠S/\l1≠S/\l2≠S):oY k1 k2 h' z TI TO p1 p2 l1 l2 S xs ys i where
 zip:=x.zip.elim (λy=>.inl<|k _ _ n.1 y) λ⟨a,f,oa,y,ha,a1,a2,a3,a4⟩=>.inr ⟨a,f,oa,k _ _ n.1 y,k _ _ a4 ha,a1,a2,a3,a4⟩
 ti:=k _ _ n.2.1 x.ti
 tO:=let ⟨a,b,y⟩:=x.tO;⟨a,b,k _ _ n.2.2.1 y⟩
 s1:=x.s1.at λo e=>k _ o n.2.2.2.1 e
 s2:=x.s2.at λo e=>k _ o n.2.2.2.2.1 e
 m1:=x.m1.at λo e=>k _ o n.2.2.2.2.2.1 e
 m2:=x.m2.at λo e=>k _ o n.2.2.2.2.2.2 e
def LD{k1 k2:Bool}{z TI TO p1 p2 l1 l2 S:Addr}{xs ys:Array Value}{i:Nat}{v1 v2:Value}{Q:Option Value->Shared->Prop}(D:ZipApart z TI TO p1 p2 l1 l2)(st:oY k1 k2 s.heap z TI TO p1 p2 l1 l2 S xs ys i)(hS:S<s.heap.objs.size)(w1:xs[i]? = some v1)(w2:ys[i]? = some v2)
  (q:∀ h',oY k1 k2 h' z TI TO p1 p2 l1 l2 S xs ys (i+1)->IsPair h' s.heap.objs.size v1 v2->h'.objs.size=s.heap.objs.size+1 ->
   (∀ b o,b≠z->b≠TO->b≠p1->b≠p2->s.heap.get? b=some o->h'.get? b=some o)->Q (some<|.ref s.heap.objs.size) { s with heap:=h' }):wpAny (model prog w) A (pyNext<|.ref z) Q E s:=by
 obtain⟨u1,u2,iO⟩:=st.tO
 have lt:∀{c o},s.heap.get? c=some o->s.heap.objs.size≠c:=λe=>a2f<|a1L e
 have np1:s.heap.objs.size≠p1:=by obtain⟨o,e,_⟩:=st.s1.obj;exact lt e
 have np2:s.heap.objs.size≠p2:=by obtain⟨o,e,_⟩:=st.s2.obj;exact lt e
 rcases st.zip with iz|⟨a,f,oa,iz,ha,a1,a2,a3,a4⟩
 ·refine zU D iz st.ti iO st.s1 st.s2 st.m1 st.m2 w1 w2 λh' b1 b2 b3 b4 b5 b6 kk=>q h' ⟨.inr ⟨_,false,_,b1,b5,lt iz,np1,np2,a2f hS⟩,kk _ _ D.TIz D.TITO D.TIi1 D.TIi2 st.ti,⟨_,_,b2⟩,b3,b4,st.m1.at λo e=>kk _ o D.l1z D.l1TO D.l1i1 D.l1i2 e,st.m2.at λo e=>kk _ o D.l2z D.l2TO D.l2i1 D.l2i2 e⟩ b5 b6 kk
 ·refine Ez D iz ha st.ti st.s1 st.s2 st.m1 st.m2 w1 w2 λh' b1 b3 b4 b5 b6 kk=>q h' ⟨.inr ⟨a,true,oa,b1,kk _ _ a1 a2 a3 ha,a1,a2,a3,a4⟩,kk _ _ D.TIz D.TIi1 D.TIi2 st.ti,⟨_,_,kk _ _ D.TOz D.TOi1 D.TOi2 iO⟩,b3,b4,st.m1.at λo e=>kk _ o D.l1z D.l1i1 D.l1i2 e,st.m2.at λo e=>kk _ o D.l2z D.l2i1 D.l2i2 e⟩ b5 b6 λb o c1 _ c3 c4 e=>kk b o c1 c3 c4 e
def LH{k1 k2:Bool}{z TI TO p1 p2 l1 l2 S:Addr}{xs ys:Array Value}{i:Nat}{Q:Option Value->Shared->Prop}(hA:A.handled=none)(D:ZipApart z TI TO p1 p2 l1 l2)(st:oY k1 k2 s.heap z TI TO p1 p2 l1 l2 S xs ys i)(fin:xs[i]? = none\/ys[i]? = none)
  (q:∀ h',(∀ b o,b≠z->b≠TO->b≠p1->b≠p2->s.heap.get? b=some o->h'.get? b=some o)->Q none { s with heap:=h' }):wpAny (model prog w) A (pyNext<|.ref z) Q E s:=by
 obtain⟨u1,u2,iO⟩:=st.tO
 rcases st.zip with iz|⟨a,f,oa,iz,ha,a1,a2,a3,a4⟩
 ·exact EB hA D iz st.ti iO st.s1 st.s2 st.m1 st.m2 fin q
 ·exact LK hA D iz ha st.ti st.s1 st.s2 st.m1 st.m2 fin λh' kk=>q h' λb o c1 _ c3 c4 e=>kk b o c1 c3 c4 e
structure ZlG(xs ys:Array Value)(lo:Addr)(h:Heap)(as:List Addr):Prop where
 rise:as.Pairwise (· < ·)
 above:∀ a∈as,lo<=a
 pairs:∀(j:Nat) (a:Addr),as[j]? = some a->∃ x y,xs[j]? = some x/\ys[j]? = some y/\IsPair h a x y
def ZlG.there{xs ys:Array Value}{lo:Addr}{h:Heap}{as:List Addr}(g:ZlG xs ys lo h as){a:Addr}(ha:a∈as):a<h.objs.size:=by obtain⟨j,hj⟩:=a4Y.mp ha;obtain⟨_,_,_,_,e⟩:=g.pairs j a hj;exact a1L e
def ZlG.keep{xs ys:Array Value}{lo:Addr}{h h':Heap}{as:List Addr}(g:ZlG xs ys lo h as)(k:∀ a∈as,∀ o,h.get? a=some o->h'.get? a=some o):ZlG xs ys lo h' as:=⟨g.rise,g.above,λj a hj=>by obtain⟨x,y,e1,e2,e3⟩:=g.pairs j a hj;exact⟨x,y,e1,e2,k a (a1K hj) _ e3⟩⟩
section
variable {prog:Program} {w:World} {A:Around} {s:Shared} {R:Result->Shared->Prop}
def LC{k1 k2:Bool}{z TI TO p1 p2 l1 l2 S lo:Addr}{xs ys:Array Value}(hh:A.handled=none)(D:ZipApart z TI TO p1 p2 l1 l2)(hS:z≠S/\TI≠S/\TO≠S/\p1≠S/\p2≠S/\l1≠S/\l2≠S)(hlo:z<lo/\TO<lo/\p1<lo/\p2<lo/\S<lo)
  (n:Nat) (hn:n=xs.size/\n=ys.size) (hz:n<=sizeLine) (res:Value) {h₁:Heap}
  (hR:∀ h' tk acc c as,(∀ b o,b≠S->b≠z->b≠TO->b≠p1->b≠p2->h₁.get? b=some o->h'.get? b=some o)->h'.get? S=some { cls:=.type "list",dict:=none,data:=.seq acc c,slots:=#[] }->as.length=n->ZlG xs ys lo h' as ->
   acc.toList=as.map Value.ref->R (.ok<|.ret res) { s with heap:=h',toks:=tk }) :
  ∀(k i:Nat) (h:Heap) (tk c:Nat) (acc:Array Value) (as:List Addr),n - i=k->i<=n->oY k1 k2 h z TI TO p1 p2 l1 l2 S xs ys i->(∀ b o,b≠S->b≠z->b≠TO->b≠p1->b≠p2->h₁.get? b=some o->h.get? b=some o) ->
   h.get? S=some { cls:=.type "list",dict:=none,data:=.seq acc c,slots:=#[] }->acc.toList=as.map Value.ref->as.length=i->ZlG xs ys lo h as->lo<=h.objs.size ->
   codeAny (model prog w) A (.builtin "list.extend.loop" ⟨[.ref S,.ref z,res],[]⟩) R { s with heap:=h,toks:=tk }:=by
 obtain⟨l1',l2',l3',l4',l5'⟩:=hlo
 intro k
 induction k with
 | zero =>
  intro i h tk c acc as hk hi hst hkeep hSo hacc hal hG hIs
  refine codeAny_builtin PySem.F.entry_extend_loop ?_
  rw[Around.under_plainId PySem.F.plain_extend_loop _]
  show wpAny _ A.in1 (pyNext (.ref z) >>= _) _ _ _
  refine a1D<|LH (s:={ s with heap:=h,toks:=tk }) (A:=A.in1) hh D hst (.inl<|by simp;omega) λh' he=>?_
  refine a1Q<|hR h' tk acc c as (λb o h0 h1 h2 h3 h4 e=>he b o h1 h2 h3 h4<|hkeep b o h0 h1 h2 h3 h4 e) (he S _ hS.1.symm hS.2.2.1.symm hS.2.2.2.1.symm hS.2.2.2.2.1.symm hSo) (by omega) (hG.keep λa ha o e=>?_) hacc
  have ne:∀{b:Addr},b<lo->a≠b:=λhb=>a2f<|a1F hb<|hG.above a ha
  exact he a o (ne l1') (ne l2') (ne l3') (ne l4') e
 | succ k ih =>
  intro i h tk c acc as hk hi hst hkeep hSo hacc hal hG hIs
  have hlt:i<n:=by omega
  obtain⟨v1,hx⟩:∃ p,xs[i]? = some p:=⟨xs[i],Array.getElem?_eq_getElem<|by omega⟩
  obtain⟨v2,hy⟩:∃ p,ys[i]? = some p:=⟨ys[i],Array.getElem?_eq_getElem<|by omega⟩
  have hsz:acc.size=i:=by rw[<- Array.length_toList,hacc,a1H,hal]
  have hSl:S<h.objs.size:=a1L hSo
  refine codeAny_builtin PySem.F.entry_extend_loop ?_
  rw[Around.under_plainId PySem.F.plain_extend_loop _]
  show wpAny _ A.in1 (pyNext (.ref z) >>= _) _ _ _
  refine a1D<|LD (s:={ s with heap:=h,toks:=tk }) (S:=S) D hst hSl hx hy λh' hst' ht hz' hkp=>?_
  dsimp only at ht hz' hkp ⊢
  have hS':=hkp S _ hS.1.symm hS.2.2.1.symm hS.2.2.2.1.symm hS.2.2.2.2.1.symm hSo
  have up:∀ b o,b≠S->h'.get? b=some o->(h'.update S<|Obj.mapSeq (·.push (Value.ref h.objs.size))).get? b=some o:=λb o hb e=>(a2h _ _<|Ne.symm hb).trans e
  have hG1:ZlG xs ys lo (h'.update S<|Obj.mapSeq (·.push (Value.ref h.objs.size))) as:=hG.keep λa ha o e=>by have ne:∀{b:Addr},b<lo->a≠b:=λhb=>a2f<|a1F hb<|hG.above a ha;exact up a o (ne l5')<|hkp a o (ne l1') (ne l2') (ne l3') (ne l4') e
  show wpAny _ A.in1 (updateSeq S (·.push (Value.ref h.objs.size)) >>= _) _ _ _
  refine a1D ?_
  refine wpAny_updateSeq hS' rfl (a1Q ⟨plainId_quiet PySem.F.plain_extend_loop _,ih (i+1) _ tk _ (acc.push<|Value.ref h.objs.size) (as++[h.objs.size]) (by omega) hlt (hst'.keep up hS)
   (λb o h0 h1 h2 h3 h4 e=>up b o h0<|hkp b o h1 h2 h3 h4<|hkeep b o h0 h1 h2 h3 h4 e) (a2s _ hS' rfl) (by rw[Array.toList_push,hacc,a11];rfl) (by rw[a1V,hal];rfl) ⟨?_,?_,?_⟩ ?_⟩) (by omega)<|by rw[Array.size_push,hsz];omega
  ·refine List.pairwise_append.mpr ⟨hG.rise,List.pairwise_singleton _ _,λa ha b hb=>?_⟩
   rw[a13.mp hb]
   exact hG.there ha
  ·intro a ha
   rcases a10.mp ha with ha|ha
   ·exact hG.above a ha
   ·rw[a13.mp ha];exact hIs
  ·intro j b hj
   rcases a4m j as.length with h1|h1|h1
   ·rw[a2P h1]at hj
    exact hG1.pairs j b hj
   ·subst h1
    have hb:h.objs.size=b:=by simpa using hj
    subst hb
    exact⟨v1,v2,by rw[hal];exact hx,by rw[hal];exact hy,up _ _ (a2f hSl) ht⟩
   ·have hnone:(as++[h.objs.size])[j]? = none:=a4Z (by rw[a1V,a4Q];omega)
    rw[hnone]at hj;cases hj
  ·have e:(h'.update S<|Obj.mapSeq (·.push (Value.ref h.objs.size))).get? h.objs.size=_:=up _ _ (a2f hSl) ht
   exact a1N hIs<|a2M<|a1L e
end
section
variable {prog:Program} {w:World} {A:Around} {s:Shared}
def LG(hT:s.TypeIs (.ref z) "zip")(h:Q true s):wpAny (model prog w) A (Builtin.List.listLengthHint<|.ref z) Q E s:=by refine a1D<|wpAny_specialOf hT Dh ?_;refine a1D<|wpAny_specialOf hT xT ?_;exact a1Q h
def Dg{R:Result->Shared->Prop}{k1 k2:Bool}{z TI TO p1 p2 l1 l2 S:Addr}{xs ys:Array Value}{c₀:Nat}(hh:A.handled=none)(D:ZipApart z TI TO p1 p2 l1 l2)(hS:z≠S/\TI≠S/\TO≠S/\p1≠S/\p2≠S/\l1≠S/\l2≠S)
  (st:oY k1 k2 s.heap z TI TO p1 p2 l1 l2 S xs ys 0) (iz:IsZip s.heap z TI TO .none) (n:Nat) (hn:n=xs.size/\n=ys.size) (hz:n<=sizeLine)
  (hSo:s.heap.get? S=some { cls:=.type "list",data:=.seq #[] c₀ })
  (hR:∀ h' tk acc c as,(∀ b o,b≠S->b≠z->b≠TO->b≠p1->b≠p2->s.heap.get? b=some o->h'.get? b=some o)->h'.get? S=some { cls:=.type "list",dict:=none,data:=.seq acc c,slots:=#[] }->as.length=n->ZlG xs ys s.heap.objs.size h' as ->
   acc.toList=as.map Value.ref->R (.ok<|.ret .none) { s with heap:=h',toks:=tk }) :
  wpAny (model prog w) A.in1 (Builtin.List.listExtendWith (.ref S) (.ref z) .none) (tZ prog w A R) (λe s'=>R (.error e) s') s:=by
 have ty:s.TypeIs (.ref z) "zip" := ⟨_,iz,rfl⟩
 obtain⟨u1,u2,iO⟩:=st.tO
 have q1:p1<s.heap.objs.size:=by obtain⟨o,e,_⟩:=st.s1.obj;exact a1L e
 have q2:p2<s.heap.objs.size:=by obtain⟨o,e,_⟩:=st.s2.obj;exact a1L e
 unfold Builtin.List.listExtendWith
 refine a1D<|wpAny_typeOf ty ?_
 have n1:Builtin.List.listSameRef (.ref S) (.ref z)=false:=by simp[Builtin.List.listSameRef,hS.1.symm]
 have n2:(Value.type "zip" == Value.type "list")=false:=by decide
 have n3:(Value.type "zip" == Value.type "tuple")=false:=by decide
 simp only[n1,if_false]
 refine a1D<|wpAny_pyIter_zip iz<|a1D<|wpAny_holding<|LG ty ?_
 refine wpAny_ite_split (λ_=>?_) λy=>absurd rfl y
 refine a1D<|wpAny_rule ?_
 refine a1D ?_
 show wpAny _ A.in1 (updateSeq S (·.push .none) >>= λ_=>updateSeq S (·.pop)) _ _ _
 refine a1D<|wpAny_updateSeq hSo rfl ?_
 have g2:=a2s (Obj.mapSeq (·.push Value.none)) hSo rfl
 refine wpAny_updateSeq (hz:=by seq_fits) g2 rfl ?_
 have g3:=a2s (Obj.mapSeq (·.pop)) g2 rfl
 have oth:∀ b o,b≠S->s.heap.get? b=some o->((s.heap.update S<|Obj.mapSeq (·.push Value.none)).update S<|Obj.mapSeq (·.pop)).get? b=some o :=
  λb o q1 q2=>(a2h _ _<|Ne.symm q1).trans<|(a2h _ _<|Ne.symm q1).trans q2
 refine a1Q ⟨plainId_quiet F.plain_extend_loop _,?_⟩
 refine LC (s:=s) (lo:=s.heap.objs.size) (h₁:=s.heap) hh D hS ⟨a1L iz,a1L iO,q1,q2,a1L hSo⟩ n hn hz .none (λh' tk acc c as k1 k2 k3 k4 k5=>hR h' tk acc c as k1 k2 k3 k4 k5) n 0 _ _ _ #[] [] (by omega) (a2e _) (st.keep oth hS) (λb o h0 _ _ _ _ e=>oth b o h0 e) g3 rfl rfl ⟨List.Pairwise.nil,(λ_ ha=>nomatch ha),(λj a hj=>by simp at hj)⟩ ?_
 have e1:(s.heap.update S<|Obj.mapSeq (·.push Value.none)).objs.size=s.heap.objs.size:=(Heap.SameBut.update ..).1
 have e2:((s.heap.update S<|Obj.mapSeq (·.push Value.none)).update S<|Obj.mapSeq (·.pop)).objs.size=(s.heap.update S<|Obj.mapSeq (·.push Value.none)).objs.size:=(Heap.SameBut.update ..).1
 rw[e2,e1]
 exact a1U _
def LF{R:Result->Shared->Prop}{k1 k2:Bool}{z TI TO p1 p2 l1 l2 S:Addr}{xs ys:Array Value}(hh:A.handled=none)(D:ZipApart z TI TO p1 p2 l1 l2)(hS:z≠S/\TI≠S/\TO≠S/\p1≠S/\p2≠S/\l1≠S/\l2≠S)
  (st:oY k1 k2 s.heap z TI TO p1 p2 l1 l2 S xs ys 0) (iz:IsZip s.heap z TI TO .none) (n:Nat) (hn:n=xs.size/\n=ys.size) (hz:n<=sizeLine)
  (hSo:s.heap.get? S=some { cls:=.type "list",data:=.seq #[] })
  (hR:∀ h' tk acc c as,(∀ b o,b≠S->b≠z->b≠TO->b≠p1->b≠p2->s.heap.get? b=some o->h'.get? b=some o)->h'.get? S=some { cls:=.type "list",dict:=none,data:=.seq acc c,slots:=#[] }->as.length=n->ZlG xs ys s.heap.objs.size h' as ->
   acc.toList=as.map Value.ref->R (.ok<|.ret .none) { s with heap:=h',toks:=tk }) :
  wpAny (model prog w) A.in1 (Builtin.«list.__init__» ⟨[.ref S,.ref z],[]⟩) (tZ prog w A R) (λe s'=>R (.error e) s') s:=by
 show wpAny _ A.in1 (Builtin.List.listItems (.ref S) >>= λwas=>Builtin.List.listUpdate (.ref S) (λ_=>#[]) >>= λ_=>letGo was.toList.reverse >>= λ_=>Builtin.List.listExtendWith (.ref S) (.ref z) .none) (tZ prog w A R) (λe s'=>R (.error e) s') s
 unfold Builtin.List.listItems
 refine a1D<|a1D<|wpAny_seqItems hSo rfl<|a1Q ?_
 show wpAny _ A.in1 (updateSeq S (λ_=>#[]) >>= λ_=>letGo (#[]:Array Value).toList.reverse >>= λ_=>Builtin.List.listExtendWith (.ref S) (.ref z) .none) (tZ prog w A R) (λe s'=>R (.error e) s') s
 refine a1D<|wpAny_updateSeq hSo rfl<|a1D<|wpAny_letGo ?_
 have g:=a2s (Obj.mapSeq λ_=>(#[]:Array Value)) hSo rfl
 have oth:∀ b o,b≠S->s.heap.get? b=some o->(s.heap.update S<|Obj.mapSeq λ_=>(#[]:Array Value)).get? b=some o:=λb o q1 q2=>(a2h _ _<|Ne.symm q1).trans q2
 have e1:(s.heap.update S<|Obj.mapSeq λ_=>(#[]:Array Value)).objs.size=s.heap.objs.size:=(Heap.SameBut.update ..).1
 refine Dg hh D hS (st.keep oth hS) (oth _ _ hS.1 iz) n hn hz g λh' tk acc c1 as q1 q2 q3 q4 q5=>?_
 exact hR h' tk acc c1 as (λb o h0 h1 h2 h3 h4 e=>q1 b o h0 h1 h2 h3 h4<|oth b o h0 e) q2 q3 ⟨q4.rise,λa ha=>by have:=q4.above a ha;rw[<- e1];exact this,q4.pairs⟩ q5
def oT{k1 k2:Bool}{z TI TO p1 p2 l1 l2:Addr}{xs ys:Array Value}{Q:Value->Shared->Prop}(hh:A.handled=none)(D:ZipApart z TI TO p1 p2 l1 l2)(iz:IsZip s.heap z TI TO .none)(iI:IsPair s.heap TI (.ref p1) (.ref p2))(iO:IsPair s.heap TO .none .none)
  (g1:SI k1 s.heap p1 l1 0) (g2:SI k2 s.heap p2 l2 0) (m1:SS k1 s.heap l1 xs) (m2:SS k2 s.heap l2 ys) (n:Nat) (hn:n=xs.size/\n=ys.size) (hz:n<=sizeLine)
  (fin:∀ h' tk acc c as,(∀ b o,b≠z->b≠TO->b≠p1->b≠p2->s.heap.get? b=some o->h'.get? b=some o)->h'.get? s.heap.objs.size=some { cls:=.type "list",dict:=none,data:=.seq acc c,slots:=#[] }->as.length=n->ZlG xs ys (s.heap.objs.size+1) h' as ->
   acc.toList=as.map Value.ref->Q (.ref s.heap.objs.size) { s with heap:=h',toks:=tk }) :
  wpAny (model prog w) A (call (.type "list") [.ref z]) Q E s:=by
 have lt:∀{c o},s.heap.get? c=some o->c≠s.heap.objs.size:=λe=>a14<|a1L e
 let h1:=s.heap.push { cls:=.type "list",data:=.seq #[] }
 have up:∀ b o,s.heap.get? b=some o->h1.get? b=some o:=λb o e=>a1E _ e
 have gS:h1.get? s.heap.objs.size=some { cls:=.type "list",data:=.seq #[] }:=a1P _ rfl
 have hS:z≠s.heap.objs.size/\TI≠s.heap.objs.size/\TO≠s.heap.objs.size/\p1≠s.heap.objs.size/\p2≠s.heap.objs.size/\l1≠s.heap.objs.size/\l2≠s.heap.objs.size :=
  ⟨lt iz,lt iI,lt iO,by obtain⟨o,e,_⟩:=g1.obj;exact lt e,by obtain⟨o,e,_⟩:=g2.obj;exact lt e,by obtain⟨o,e⟩:=m1.obj;exact lt e,by obtain⟨o,e⟩:=m2.obj;exact lt e⟩
 refine callType_codes (Q₁:=λx s1=>x = .ref s.heap.objs.size/\s1 = { s with heap:=h1 }) F.called_list (F.typeCall_list_1 _) F.entry_list_init (code_list_new _ ⟨rfl,rfl⟩) ?_
 rintro x s1 ⟨rfl,rfl⟩
 have st:oY k1 k2 h1 z TI TO p1 p2 l1 l2 s.heap.objs.size xs ys 0:=⟨.inl<|up _ _ iz,up _ _ iI,⟨_,_,up _ _ iO⟩,g1.at λo e=>up _ o e,g2.at λo e=>up _ o e,m1.at λo e=>up _ o e,m2.at λo e=>up _ o e⟩
 refine⟨⟨_,gS,rfl⟩,F.args_list_init_2 _ _,LF (A:=A.in1) hh D hS st (up _ _ iz) n hn hz gS λh' tk acc c1 as q1 q2 q3 q4 q5=>?_⟩
 exact⟨rfl,fin h' tk acc c1 as (λb o b1 b2 b3 b4 e=>q1 b o (lt e) b1 b2 b3 b4<|up b o e) q2 q3 ⟨q4.rise,λa ha=>by have:=q4.above a ha;rw[show h1.objs.size=s.heap.objs.size+1 from a2D ..]at this;exact this,q4.pairs⟩ q5⟩
end
def upds:Hp->List Addr->List V->List V->Hp
 | H,a :: as,x :: xs,y :: ys=>upds (upd H a<|.tup [x,y]) as xs ys
 | H,_,_,_=>H
theorem S3:∀{as:List Addr} {xs ys:List V} {H:Hp} {b:Addr},b∉as->upds H as xs ys b=H b
 | [],_,_,_,_,_=>rfl
 | _ :: _,[],_,_,_,_=>rfl
 | _ :: _,_ :: _,[],_,_,_=>rfl
 | a :: as,x :: xs,y :: ys,H,b,h=>by show upds (upd H a<|.tup [x,y]) as xs ys b=H b;rw[S3 λz=>h<|a1O _ z,g8 λz=>h<|by rw[z];exact a1M]
theorem AX:∀{as:List Addr} {xs ys:List V} {H:Hp} {j:Nat} {a:Addr} {x y:V},as.Pairwise (· < ·)->as[j]? = some a->xs[j]? = some x->ys[j]? = some y->upds H as xs ys a=some (.tup [x,y])
 | [],_,_,_,_,_,_,_,_,h,_,_=>by simp at h
 | _ :: _,[],_,_,_,_,_,_,_,_,h,_=>by simp at h
 | _ :: _,_ :: _,[],_,_,_,_,_,_,_,_,h=>by simp at h
 | c :: as,u :: xs,v :: ys,H,0,a,x,y,hp,h1,h2,h3=>by obtain rfl:c=a:=Option.some.inj h1;obtain rfl:u=x:=Option.some.inj h2;obtain rfl:v=y:=Option.some.inj h3;show upds (upd H c<|.tup [u,v]) as xs ys c=_;rw[S3 λz=>a2y _<|(a2U.mp hp).1 c z,i5]
 | c :: as,u :: xs,v :: ys,H,j+1,a,x,y,hp,h1,h2,h3=>by show upds (upd H c<|.tup [u,v]) as xs ys a=_;exact AX (a2U.mp hp).2 (by simpa using h1) (by simpa using h2)<|by simpa using h3
def Inv.laids(I:Inv X pins σ H s)(k:∀ b u,s.heap.get? b=some u->h'.get? b=some u)(same:∀ b,b<s.heap.objs.size->H' b=H b)(new:∀ b u,s.heap.objs.size<=b->H' b=some u->D5 X.prog X.w H' h' b u) :
  Inv X pins σ H' { s with heap:=h',toks:=t' }:=by
 have tr:∀{b u},H b=some u->H' b=some u:=λ{b u} e=>by rw[same b<|I.hok.lt e];exact e
 refine I.un (t':=t') (Un.mk (λb u q _ _ _=>k b u q) (λb u q _ _ _=>⟨u.slots,k b u q⟩) (λb u q n _=>by rw[same b<|a1L q];exact n) (λb u q _=>⟨u,k b u q⟩) (λb xs q=>tr q) (λb u xs q=>tr q) λb ps q=>⟨#[],by rw[tr q];simp⟩) λb u e=>?_
 rcases a3f b s.heap.objs.size with hb|hb
 ·rw[same b hb]at e
  exact(I.hok b u e).stay (λc v _ q=>k c v q) (λc q=>tr q) λc xs q=>tr q
 ·exact new b u hb e
def tLz(K:a1C)(ta:TA):TE:=λσ H Q=>ta σ H λvs H1=>∃ k1 k2 l1 l2 xs ys,vs=[.ref l1,.ref l2]/\SqK K k1 H1 l1 xs/\SqK K k2 H1 l2 ys/\xs.length=ys.length/\xs.length<=sizeLine /\
 ∀(as:List Addr) (S:Addr),as.length=xs.length->as.Pairwise (· < ·)->(∀ a∈as,H1 a=none)->S∉as->H1 S=none->Q (.ref S) (upd (upds H1 as xs ys) S<|.lst<|as.map V.ref)
theorem aN:∀(as:List Addr),j8 (as.map V.ref)<|as.map Value.ref
 | []=>.nil
 | a :: as=>.cons rfl<|aN as
def yu(hc:X.calm=true)(g1:Gl X "list")(n1:X.mg "list" = none)(v1:bootBuiltins "list" = some (.type "list"))(g2:Gl X "zip")(n2:X.mg "zip" = none)(ha:PA X [a,b] ta)
  (hs:starEach [a,b] X.env=[(false,eval a X.env),(false,eval b X.env)]:=by rfl) (hs2:starEach [b] X.env=[(false,eval b X.env)]:=by rfl) (hs3:starEach [.Call (.Name "zip" p2) [a,b] [] pos2] X.env=[(false,eval (.Call (.Name "zip" p2) [a,b] [] pos2) X.env)]:=by rfl) :
  PE X (.Call (.Name "list" p1) [.Call (.Name "zip" p2) [a,b] [] pos2] [] pos1) (tLz X.K ta):=by
 intro pins s σ H Q I h
 refine wpAny_Call_Name_kw<|K7 I g1 n1 v1 ?_ (by decide) (by decide)
 refine PyProof.Rows.callWith_type1 ?_ (by rw[hs3];rfl) (by rfl)
 rw[hs3]
 show wpAny _ _ (spliced ((false,eval (.Call (.Name "zip" p2) [a,b] [] pos2) X.env) :: backTo pos1 (starEach [] X.env))) _ _ s
 refine Calls.spliced_cons ?_
 refine wpAny_Call_Name_kw<|K7 I g2 n2 PyProof.Rows.boot_zip (PyProof.Rows.callWith_type1 (thn (ha pos2 pins s σ H _ I h) λus s1 ⟨vs,H1,I1,r1,q1⟩=>?_) (by rw[hs,hs2])<|by rw[hs2];rfl) (by decide)<|by decide
 obtain⟨k1,k2,l1,l2,xs,ys,rfl,q2,q3,hl,hz,q⟩:=q1
 cases r1 with
 | cons r rr =>
  cases rr with
  | cons r' rr =>
   cases rr
   cases r
   cases r'
   obtain⟨is1,w1,m1⟩:=I1.sqk q2
   obtain⟨is2,w2,m2⟩:=I1.sqk q3
   have lt1:l1<s1.heap.objs.size:=by obtain⟨o,e⟩:=m1.obj;exact a1L e
   have lt2:l2<s1.heap.objs.size:=by obtain⟨o,e⟩:=m2.obj;exact a1L e
   refine CU m1 m2 λh' a1 a2 a3 a4 a5 a6 kk=>?_
   refine Calls.spliced_nil ?_
   have D:ZipApart (s1.heap.objs.size+4) (s1.heap.objs.size+2) (s1.heap.objs.size+3) s1.heap.objs.size (s1.heap.objs.size+1) l1 l2:=PyProof.Rows.zipApart_new lt1 lt2
   refine oT (s:={ s1 with heap:=h' }) (I1.ok.hd hc) D a1 a2 a3 a4 a5 (m1.at λo e=>kk _ o e) (m2.at λo e=>kk _ o e) xs.length ⟨by rw[a18];exact w1.length,by rw[a18,hl];exact w2.length⟩ hz λh2 tk acc c as e1 e2 e3 e4 e5=>?_
   have e2':h2.get? h'.objs.size=some { cls:=.type "list",dict:=none,data:=.seq acc c,slots:=#[] }:=e2
   have e4':ZlG is1.toArray is2.toArray (h'.objs.size+1) h2 as:=e4
   have e1':∀ b o,s1.heap.get? b=some o->h2.get? b=some o:=λb o e=>by have lb:=a1L e;have ne:∀ k:Nat,b≠s1.heap.objs.size+k:=λk=>a14<|a1F lb<|Nat.le_add_right _ _;exact e1 b o (ne 4) (ne 3) (ne 0) (ne 1)<|kk b o e
   have hS:s1.heap.objs.size<=h'.objs.size:=by rw[a6];exact Nat.le_add_right _ _
   have hSa:h'.objs.size∉as:=λz=>a2y _<|a1F (a24 _)<|e4'.above _ z
   have hab:∀ a∈as,s1.heap.objs.size<=a:=λa ha=>a1N hS<|a1N (a46 _)<|e4'.above a ha
   refine⟨.ref h'.objs.size,_,I1.laids (H':=upd (upds H1 as xs ys) h'.objs.size<|.lst<|as.map V.ref) (t':=tk) e1' (λb hb=>?_) λb u hb e=>?_,rfl,q as h'.objs.size e3 e4'.rise (λa ha=>I1.hok.fresh<|hab a ha) hSa<|I1.hok.fresh hS⟩
   ·rw[g8<|a14<|a1F hb hS,S3 λz=>a2y _<|a1F hb<|hab b z]
   ·by_cases hbs:b=h'.objs.size
    ·subst hbs
     rw[i5]at e
     cases e
     refine⟨by rw[a1H,e3];exact hz,as.map Value.ref,c,aN as,?_⟩
     rw[e2',<- e5,Array.toArray_toList]
    ·rw[g8 hbs]at e
     by_cases hba:b∈as
     ·obtain⟨j,hj⟩:=a4Y.mp hba
      obtain⟨x,y,f1,f2,f3⟩:=e4'.pairs j b hj
      have jl:j<xs.length:=by have:=(a1I.mp hj).1;omega
      have hx:xs[j]? = some xs[j]:=a1T jl
      have hy:ys[j]? = some ys[j]:=a1T<|by omega
      obtain⟨u1,hu1,ru1⟩:=w1.get hx
      obtain⟨u2,hu2,ru2⟩:=w2.get hy
      rw[AX e4'.rise hj hx hy]at e
      cases e
      have g1:u1=x:=by rw[a3q,hu1]at f1;exact Option.some.inj f1
      have g2:u2=y:=by rw[a3q,hu2]at f2;exact Option.some.inj f2
      refine⟨show 2<=sizeLine by decide,[u1,u2],.cons ru1<|.cons ru2 .nil,?_⟩
      rw[g1,g2]
      exact⟨_,f3,rfl,_,rfl⟩
     ·rw[S3 hba,I1.hok.fresh hb]at e
      cases e
end L2
namespace DL
def mK(hp:(a :: as).Pairwise (· < ·))(h:∀ b∈a :: as,H b=none):∀ b∈as,L2.upd H a o b=none:=λb hb=>by rw[g8<|a2f<|(a2U.mp hp).1 b hb];exact h b<|a1O _ hb
theorem KT.upds:∀{as:List Addr} {xs ys:List V} {H:Hp},as.Pairwise (· < ·)->(∀ a∈as,H a=none)->KT H (L2.upds H as xs ys)
 | [],_,_,H,_,_=>KT.refl H
 | _ :: _,[],_,H,_,_=>KT.refl H
 | _ :: _,_ :: _,[],H,_,_=>KT.refl H
 | a :: as,x :: xs,y :: ys,H,hp,h=>(KT.alloc (o:=.tup [x,y])<|h a a1M).trans<|KT.upds (a2U.mp hp).2<|mK hp h
theorem l7.upds:∀{as:List Addr} {xs ys:List V} {H:Hp},as.Pairwise (· < ·)->(∀ a∈as,H a=none)->l7 K H M->l7 K (L2.upds H as xs ys) M
 | [],_,_,_,_,_,am=>am
 | _ :: _,[],_,_,_,_,am=>am
 | _ :: _,_ :: _,[],_,_,_,am=>am
 | a :: as,x :: xs,y :: ys,H,hp,h,am=>by show l7 K (L2.upds (L2.upd H a<|.tup [x,y]) as xs ys) M;exact l7.upds (a2U.mp hp).2 (mK hp h)<|am.alloc (u:=.tup [x,y])<|h a a1M
theorem HasL.pairs:∀{as:List Addr} {xs ys:List V} {ds es:List D} {H:Hp},as.Pairwise (· < ·)->(∀ a∈as,H a=none)->HasL K H xs ds->HasL K H ys es->as.length=xs.length->xs.length=ys.length->HasL K (L2.upds H as xs ys) (as.map V.ref) (Q0 ds es)
 | [],[],[],_,_,_,_,_,.nil,.nil,_,_=>.nil
 | [],_ :: _,_,_,_,_,_,_,_,_,h,_=>by simp at h
 | [],[],_ :: _,_,_,_,_,_,_,_,_,h=>by simp at h
 | _ :: _,[],_,_,_,_,_,_,_,_,h,_=>by simp at h
 | _ :: _,_ :: _,[],_,_,_,_,_,_,_,_,h=>by simp at h
 | a :: as,x :: xs,y :: ys,_,_,H,hp,h,.cons (d:=d) (ds:=ds) h1 t1,.cons (d:=e) (ds:=es) h2 t2,l1,l2=>by have k0:KT H (L2.upd H a<|.tup [x,y]):=KT.alloc<|h a a1M;have hp':=(a2U.mp hp).2;have nn:=mK (o:=.tup [x,y]) hp h;have k1:KT H (L2.upds (L2.upd H a<|.tup [x,y]) as xs ys):=k0.trans<|KT.upds hp' nn;show HasL K (L2.upds (L2.upd H a<|.tup [x,y]) as xs ys) (V.ref a :: as.map V.ref) (.tup [d,e] :: Q0 ds es);refine .cons (.tup (.inl<|Rd.of ?_)<|.cons (h1.mono k1)<|.cons (h2.mono k1) .nil) (HasL.pairs hp' nn (t1.mono k0) (t2.mono k0) (by simpa using l1)<|by simpa using l2);rw[S3 λz=>a2y _<|(a2U.mp hp).1 a z,i5]
def gLz(ds:List D)(M:Mem)(R:DK):Prop:=∃ x y xs ys,ds=[x,y]/\A1 M x xs/\A1 M y ys/\xs.length=ys.length/\xs.length<=sizeLine/\R (.vl<|Q0 xs ys) M
def Kw(ta:DTA):DTE:=λe M R=>ta e M λds M1=>gLz ds M1 R
def ME:Kw ta e M R=ta e M λds M1=>gLz ds M1 R:=rfl
def yO(hc:X.calm=true)(g1:Gl X "list")(n1:X.mg "list" = none)(v1:bootBuiltins "list" = some (.type "list"))(g2:Gl X "zip")(n2:X.mg "zip" = none)(h:JA X [a,b] ta)
  (hs:starEach [a,b] X.env=[(false,eval a X.env),(false,eval b X.env)]:=by rfl) (hs2:starEach [b] X.env=[(false,eval b X.env)]:=by rfl) (hs3:starEach [.Call (.Name "zip" p2) [a,b] [] pos2] X.env=[(false,eval (.Call (.Name "zip" p2) [a,b] [] pos2) X.env)]:=by rfl) :
  JE X (.Call (.Name "list" p1) [.Call (.Name "zip" p2) [a,b] [] pos2] [] pos1) (Kw ta):=⟨have h:=h.out;(W1<|yu hc g1 n1 v1 g2 n2 h hs hs2 hs3).imp λσ H Q ⟨e,M,R,ok,am,t,f⟩=>⟨e,M,_,ok,am,t,λds M1 ⟨x,y,xs,ys,hd,s1,s2,hl,hz,r⟩ vs H1 k1 a1 r1=>by
  subst hd
  cases r1 with
  | cons rx rr =>
   cases rr with
   | cons ry rr =>
    cases rr
    obtain⟨l1,us,rfl,q1,lx⟩:=o8 s1 a1 rx
    obtain⟨l2,ws,rfl,q2,ly⟩:=o8 s2 a1 ry
    have e1:=lx.length
    have e2:=ly.length
    refine⟨_,_,l1,l2,us,ws,rfl,q1,q2,by omega,by omega,λas S hlen hp hn hS hS2=>?_⟩
    exact P2 f (k1.trans<|KT.upds hp hn) (l7.upds hp hn a1) (HasL.pairs hp hn lx ly hlen<|by omega) r S<|by simp_all [S3]⟩⟩
open PyProof.Rows hiding St
section
variable {X:Cx} {H₀:Hp} {ta tb:DTE}
structure JXT(X:Cx)(mk:Bool)(H₀:Hp)(Y:DXK)(c:Expr)(t:DTT):Prop where
 out:PT (Cx.ex' X mk H₀ Y) c (λσ H Q=>KT H₀ H/\upT X.K t σ H Q)
def WC(hc:JXT X mk H₀ Y c tc)(ha:JXs X mk H₀ Y p t)(hb:JXs X mk H₀ Y q u):JX X mk H₀ Y (.If c p q pos) (Pf tc t u) :=
 ⟨PS.imp (Im hc.out ha.out hb.out) λE σ H ⟨k,e,M,F,ok,am,tt,f⟩=>⟨k,e,M,_,ok,am,tt,λbb M1 h1 H1 k1 a1=>by
  cases bb with
  | true=>exact⟨k.trans k1,e,M1,F,ok.mono k1,a1,h1.1 rfl,f.mono k1⟩
  | false=>exact⟨k.trans k1,e,M1,F,ok.mono k1,a1,h1.2 rfl,f.mono k1⟩⟩⟩
def AY(k:KT H₀ H)(h:up X.K (dOp g ta tb) σ H Q):tOp (upR X.K g) (λσ H Q=>KT H₀ H/\up X.K ta σ H Q) (λσ H Q=>KT H₀ H/\up X.K tb σ H Q) σ H Q:=by obtain⟨e,M,R,ok,am,h,f⟩:=h;refine⟨k,e,M,_,ok,am,h,λx M1 h1 v H1 k1 a1 r1=>⟨k.trans k1,e,M1,_,ok.mono k1,a1,h1,λy M2 h2 w H2 k2 a2 r2=>?_⟩⟩;exact⟨x,y,M2,R,r1.mono k2,r2,a2,h2,f.mono<|k1.trans k2⟩
def SF(ho:DOp (Cx.ex' X mk H₀ Y) (compareOp op) g)(ha:JXE X mk H₀ Y a ta)(hb:JXE X mk H₀ Y b tb)(hm:behindInMarks op b=false):JXT X mk H₀ Y (.Compare a [op] [b] pos) (qv<|dOp g ta tb) :=
 ⟨PT.imp (rT (X:=Cx.ex' X mk H₀ Y) ho ha.out hb.out hm) λσ H Q ⟨k,e,M,R,ok,am,t,f⟩=>AY (Q:=λx H'=>∃ k,x = .bl k/\Q k H') k ⟨e,M,_,ok,am,t,dc f⟩⟩
def YO(hr:DIx (Cx.ex' X mk H₀ Y) g)(ha:JXE X mk H₀ Y a ta)(hb:JXE X mk H₀ Y b tb)(hs:gf b):JXE X mk H₀ Y (.Subscript a b pos) (dOp g ta tb) :=
 ⟨PE.imp (Iy (X:=Cx.ex' X mk H₀ Y) hr ha.out hb.out hs) λσ H Q ⟨k,h⟩=>AY k h⟩
end
def UP(x:D)(lo hi:Option Int)(M:Mem)(R:DK):Prop:=∃ ds,E4 M x=some ds/\R (.vl<|X2 ds lo hi) M
def Yi(te:DTE)(tl th:DTO):DTE:=λe M R=>te e M λx M1=>tl e M1 λl M2=>th e M2 λu M3=>UP x l u M3 R
def Ql:Yi ta tl th e M R=ta e M λx M1=>tl e M1 λl M2=>th e M2 λu M3=>UP x l u M3 R:=rfl
def Fi{xs:List D}{lo hi:Option Int}{M:Mem}{R:DK}:UP (.vl xs) lo hi M R=R (.vl<|X2 xs lo hi) M:=propext ⟨λ⟨_,h,r⟩=>by cases h;exact r,λr=>⟨_,rfl,r⟩⟩
def O0{X:Cx}{pos:Pos}{e:Expr}{te:DTE}{lo hi:Option Expr}{tl th:DTO}{p2:Pos}(he:JE X e te)(hl:JO X lo tl)(hu:JO X hi th):JE X (.Subscript e (.Slice lo hi none p2) pos) (Yi te tl th) :=
 ⟨(NP<|wc MW he.out hl.out hu.out).imp λσ H Q ⟨e,M,R,ok,am,t,f⟩=>⟨e,M,_,ok,am,t,λx M1 h1 v H1 k1 a1 r1=>⟨e,M1,_,ok.mono k1,a1,h1,λl M2 h2 H2 k2 a2=>⟨e,M2,_,(ok.mono k1).mono k2,a2,h2,λu M3 h3 H3 k3 a3=>by obtain⟨ds,hi,r⟩:=h3;obtain⟨a,xs,rfl,sq,lx⟩:=A3 a3 ((r1.mono k2).mono k3) hi;exact⟨a,xs,rfl,sq,λp hp=>.inl<|P2 f (k1.trans<|k2.trans k3) a3 (lx.cut l u) r p hp⟩⟩⟩⟩⟩
end DL
namespace GM
open PySem PySem.Spec L2 DL PySem.NumText
def qJ(t:Rat)(l:Rat × Rat × Rat):Rat:=(if 0<t then l.2.1 else -l.2.1) - l.1
def xI(t:Rat)(l:Rat × Rat × Rat):Rat:=if 0<qJ t l then l.2.2 - l.1 else l.2.2+l.1
def ShN(t:Rat)(l:Rat × Rat × Rat)(N:Nat):Prop:=∃ n:Nat,N=n+1/\(n:Rat)*k9 (qJ t l)<=xI t l/\xI t l<((n:Rat)+1)*k9 (qJ t l)
def ShN.one(h:ShN t l N)(g:ShN t l N'):N=N':=by
 obtain⟨n,rfl,a1,a2⟩:=h;obtain⟨k,rfl,b1,b2⟩:=g;have nn:=fW<|qJ t l;generalize k9 (qJ t l)=d at *
 have key:∀ a b:Nat,(a:Rat)*d<=xI t l->xI t l<((b:Rat)+1)*d->a<=b:=λa b h1 h2=>by
  apply a2v;intro z;have:((b:Rat)+1)<=(a:Rat):=by exact_mod_cast (show b+1<=a by omega)
  have:=a3O this nn;grind
 have:=key n k a1 b2;have:=key k n b1 a2;omega
def ShF(t:Rat)(ls:List (Rat × Rat × Rat))(ws:List Nat)(o:Option (Nat × Nat)):Prop:=(ws=[]/\o=none) \/ ∃ N k l,k∈ws/\ls[k]? = some l/\ShN t l N/\o=some (N,k)/\∀ k'∈ws,∃ l' N',ls[k']? = some l'/\ShN t l' N'/\¬ (N'<N\/(N'=N/\k'<k))
def ShF.one(h:ShF t ls ws a)(g:ShF t ls ws b):a=b:=by
 rcases h with⟨e,rfl⟩|⟨N,k,l,h1,h2,h3,rfl,h5⟩
 ·rcases g with⟨_,rfl⟩|⟨N',k',l',g1,_⟩;all_goals grind
 ·rcases g with⟨e,rfl⟩|⟨N',k',l',g1,g2,g3,rfl,g5⟩
  ·grind
  ·obtain⟨l1,N1,e1,e2,e3⟩:=h5 k' g1;obtain⟨l2,N2,f1,f2,f3⟩:=g5 k h1;rw[g2]at e1;cases e1;rw[h2]at f1;cases f1;have:=e2.one g3;have:=f2.one h3;grind
def pd(m:Q4)(ls:List (Rat × Rat × Rat))(o:Option (Nat × Nat)):Prop :=
 (∃ k l,ls[k]? = some l/\l.2.2<k9 l.1/\(∀ j,j<k->∀ l',ls[j]? = some l'->¬ l'.2.2<k9 l'.1)/\o=some (0,k)) \/
 ((∀ l∈ls,¬ l.2.2<k9 l.1)/\if kwS m=a1B "same" then o=dg (trQ m) ls (a2c ls.length) (rtN m)else if kwS m=a1B "shear" then ShF (trQ m) ls (D3 m ls) o else o=dg (trQ m) ls (D3 m ls) 60)
def pd.one(h:pd m ls a)(g:pd m ls b):a=b:=by
 rcases h with⟨k,l,h1,h2,h3,rfl⟩|⟨h1,h2⟩
 ·rcases g with⟨k',l',g1,g2,g3,rfl⟩|⟨g1,_⟩
  ·rcases a4m k k' with z|z|z
   ·exact absurd h2<|g3 k z l h1
   ·rw[z]
   ·exact absurd g2<|h3 k' z l' g1
  ·exact absurd h2<|g1 l<|a1K h1
 ·rcases g with⟨k',l',g1,g2,_⟩|⟨_,g2⟩
  ·exact absurd g2<|h1 l'<|a1K g1
  ·by_cases c:kwS m=a1B "same"
   ·rw[if_pos c]at h2 g2;rw[h2,g2]
   ·rw[if_neg c]at h2 g2
    by_cases c2:kwS m=a1B "shear"
    ·rw[if_pos c2]at h2 g2;exact h2.one g2
    ·rw[if_neg c2]at h2 g2;rw[h2,g2]
def Cd(h:k∈D3 m ls):k<ls.length:=by obtain⟨l,e,_⟩:=mS.mp h;exact(a1I.mp e).1
def df(h:dg t ls ws N=some (n,k)):n<N/\k∈ws:=by grind[a2d,a2t,List.mem_of_find?_eq_some,dg,a2c,cP]
def Uw{n S T:Nat}{d a:Rat}(hd:0<d)(h:(n:Rat)*d<=a)(z1:sz a<=S)(z2:sz d<=T):n<2 ^ (S+T):=by
 have e1:=A5 d;have e2:=A5 a;have n0:(0:Rat)<=(n:Rat):=by grind
 have d1:(1:Rat)<=(a.den:Rat):=by exact_mod_cast a.den_pos
 have p1:0<d.num:=IT hd;have a0:0<=a:=Rat.le_trans (a2o n0<|Rat.le_of_lt hd) h;have h1:a<=(a.num:Rat):=by have:=a2o a0 (show(0:Rat)<=(a.den:Rat) - 1 by grind);grind
 have dd:(0:Rat)<=(d.den:Rat):=by grind
 have h2:=a3O (Rat.le_trans h h1) dd;have h3:(n:Rat)*(d.num:Rat)<=(a.num:Rat)*(d.den:Rat):=by rw[<- e1];grind
 have h4:(n:Int)*d.num<=a.num*(d.den:Int):=by exact_mod_cast h3
 have an:0<=a.num:=a45.mpr a0;have l1:=u4 a z1;have l2:=l5 d z2;have h5:(n:Int)<=a.num*(d.den:Int):=by have:(n:Int)*1<=(n:Int)*d.num:=a3S (by omega) (by omega);omega
 have h6:n<=a.num.natAbs*d.den:=by grind
 refine a1R h6 ?_;simp_all [a2Y,a26]
def ShN.lt{t:Rat}{l:Rat × Rat × Rat}{N S T:Nat}(h:ShN t l N)(z1:sz (xI t l)<=S)(z2:sz (qJ t l)<=T):N<2 ^ (S+T+1):=by
 obtain⟨n,rfl,h1,h2⟩:=h;have d0:0<k9 (qJ t l):=by grind
 have:=Uw d0 h1 z1 (by rw[Q6];exact z2);omega
def pd.in(h:pd m ls (some (n,k))):k<ls.length:=by
 rcases h with⟨k',l,h1,_,_,e⟩|⟨_,h⟩
 ·cases e;exact(a1I.mp h1).1
 ·by_cases c:kwS m=a1B "same"
  ·rw[if_pos c]at h;exact a2t.mp (df h.symm).2
  ·rw[if_neg c]at h
   by_cases c2:kwS m=a1B "shear"
   ·rw[if_pos c2]at h
    rcases h with⟨_,e⟩|⟨N,k',l,h1,h2,_,e,_⟩
    ·cases e
    ·cases e;exact(a1I.mp h2).1
   ·rw[if_neg c2]at h;exact Cd (df h.symm).2
def pd.num(h:pd m ls (some (n,k)))(hok:∀ l∈ls,sz l.1<=421/\sz l.2.1<=652/\sz l.2.2<=5):n<2 ^ 1600:=by
 have small:∀{n:Nat},n<60->n<2 ^ 1600:=λ{n} h=>a1F (show n<2 ^ 6 by omega) (a1X (by decide)<|by decide);rcases h with⟨k',l,h1,_,_,e⟩|⟨_,h⟩
 ·cases e;exact small<|by decide
 ·by_cases c:kwS m=a1B "same"
  ·rw[if_pos c]at h
   have:=(df h.symm).1;have rt6:rtN m<=6:=by
    unfold rtN;repeat' split
    all_goals decide
   exact small<|by omega
  ·rw[if_neg c]at h
   by_cases c2:kwS m=a1B "shear"
   ·rw[if_pos c2]at h
    rcases h with⟨_,e⟩|⟨N,k',l,h1,h2,h3,e,_⟩
    ·cases e
    ·cases e;obtain⟨zx,zf,zr⟩:=hok l<|a1K h2;have a1:=RM.U9 l.2.1 l.1;have a2:=RM.U9 (-l.2.1) l.1;have a3:=RM.Q1 l.2.1;have a4:=RM.U9 l.2.2 l.1;have a5:=RM.ae l.2.2 l.1;exact a1F (h3.lt (S:=427) (T:=1074) (by unfold xI;split<;>omega)<|by unfold qJ;split<;>omega)<|a1X (by decide)<|by decide
   ·rw[if_neg c2]at h;exact small (df h.symm).1
def yY(ws:List (D × D))(m:Q4)(ls:List (Rat × Rat × Rat)):Option (Nat × Nat)->D
 | some z=>.tup [.str "stopped",.int (z.1:Int),(ws.getD z.2 (.non,.non)).1,(ws.getD z.2 (.non,.non)).2]
 | none=>match D3 m ls with|a :: _=>.tup [.str "late",.int (a:Int)]|[]=>.tup [.str "never",.vl<|(ls.map<|gm m).map enD]
example V5 vR kO(t x f r:Rat):[d6 t,d6 x,d6 f,d6 r]:=(k9 t=2/\LnV (x,f,r)/\¬ r<k9 x/\swQ t x f≠0)/\∀ N:Nat,ShN t (x,f,r) N->R (.int (N:Int)) M
example eR HG uH(t:Rat)(x y:D):[d6 t,x,y]:=∃(ls:List (Rat × Rat × Rat)) (ws:List Nat),x = .vl (ls.map j4)/\y = .vl (ws.map λk:Nat=>D.int (k:Int))/\(k9 t=2/\(ls.length<=40/\ws.length<=40)/\(∀ l∈ls,LnV l/\¬ l.2.2<k9 l.1)/\∀ k∈ws,∃ l,ls[k]? = some l/\swQ t l.1 l.2.1≠0)/\∀ o,ShF t ls ws o->R (vh o) M
example V8 vU kR(x y z:D):[x,y,z]:=∃(m:Q4) (ls:List (Rat × Rat × Rat)),x=K5 m/\y = .vl (ls.map j4)/\z = .vl ((D3 m ls).map λk:Nat=>D.int (k:Int))/\(CDQ 230 m/\ls.length<=40/\∀ l∈ls,LnV l)/\∀ o,pd m ls o->R (vh o) M
example bh BL pK(near:Rat)(bs:List (Str × Rat))(far:Rat)(y u:Rat):[.tup [d6 near,.vl<|bs.map i8,d6 far],o7 y u]:=(D6 near bs far/\∃ S,CD S y 0 u 0/\S<=1700)/\∀ o,pd (tbQ<|j3 near bs far) (E7 near bs far y u) o->R (yY (G0 (j6 near bs far) (j6 near bs far).length) (tbQ<|j3 near bs far) (E7 near bs far y u) o) M
def fZ(x:Str × Str × D):Prop:=x.2.1.length<=100000/\((x.1=a1B "word" /\ cX x.2.1=true/\x.2.2 = .str x.2.1)\/(x.1=a1B "number" /\ ∃ q,rdR (sg x.2.1)=some q/\x.2.2=d6 q)\/(x.1=a1B "part" /\ ∃ k:Nat,rdR (sg x.2.1)=some (k:Rat)/\x.2.2 = .int (k:Int)))
structure U6(s w:Str)(xs:List (Str × Str × D)):Prop where
 sp:Txt.split s (a1B " ")=w :: xs.map (·.2.1)
 len:s.length<=100000
 rows:y3 w vW=some (.tup ((xs.map (·.1)).map D.str))
 few:xs.length<=2
 ok:∀ x∈xs,fZ x
def yq(hs:sg s=jnW (sg w :: xs.map λx=>sg x.2.1))(hw:32∉sg w)(hx:∀ x∈xs,32∉sg x.2.1/\fZ x)(hl:s.length<=100000)(hr:y3 w vW=some (.tup<|(xs.map (·.1)).map D.str))(hf:xs.length<=2):U6 s w xs :=
 ⟨vj (by rw[hs,a1Z,a2k];rfl) (by simp) (λv hv=>by
  rcases a1Y.mp hv with rfl|hv
  ·exact hw
  ·obtain⟨x,hm,rfl⟩:=a17.mp hv;exact(hx x hm).1),hl,hr,hf,λx hm=>(hx x hm).2⟩
def Te(hp:sg p=sg w++[32])(hw:32∉sg w)(hx:32∉sg t/\fZ (f,t,v))(hl:p.length+t.length<=100000)(hr:y3 w vW=some (.tup [.str f])):U6 (p++t) w [(f,t,v)] :=
 yq (by rw[O3,hp];show _=sg w++32 :: sg t;simp) hw (λx hm=>by rw[a13.mp hm];exact hx) (by rw[w6];exact hl) hr (by simp)
def Xs(hp:sg p=sg w++[32])(hw:32∉sg w)(hx:32∉sg a/\fZ (f,a,v))(hy:32∉sg b/\fZ (g,b,z))(hl:p.length+a.length+1+b.length<=100000)(hr:y3 w vW=some (.tup [.str f,.str g])):U6 (p++a++a1B " " ++ b) w [(f,a,v),(g,b,z)] :=
 yq (by
  have b1:sg (a1B " ")=[32]:=by rfl
  rw[O3,O3,O3,hp,b1];show _=sg w++32 :: (sg a++32 :: sg b);simp) hw (λx hm=>by
  simp only[a1Y,a2x,or_false]at hm;rcases hm with rfl|rfl
  ·exact hx
  ·exact hy) (by rw[w6,w6,w6,show(a1B " ").length=1 by rw[0]];exact hl) hr (a1U 2)
def DP(q:Rat):Str × Str × D:=(a1B "number",rtx q,d6 q)
def Xx(k:Nat):Str × Str × D:=(a1B "part",tx (k:Int),.int (k:Int))
def mJ(h:Gr q):32∉sg (rtx q)/\fZ (DP q):=⟨HQ q,by have:=D1 h;show(rtx q).length<=_;omega,.inr<|.inl ⟨rfl,q,HY h.1 h.2,rfl⟩⟩
def TB{k:Nat}(h:k<10 ^ 300):32∉sg (tx (k:Int))/\fZ (Xx k):=by have e:=BO k;have g:Gr (k:Rat):=⟨by show(k:Int).natAbs<_;rw[a1G];exact h,by show 1<_;rw[0]⟩;refine⟨by rw[<- e];exact HQ _,by show(tx k).length<=_;rw[<- e];have:=D1 g;omega,.inr<|.inr ⟨rfl,k,?_,rfl⟩⟩;show rdR (sg<|tx k)=_;rw[<- e];exact HY g.1 g.2
def SG(h:cX w=true):32∉sg w/\fZ (a1B "word",w,.str w):=⟨MG h,by have:=gj h;show w.length<=_;omega,.inl ⟨rfl,h,rfl⟩⟩
def Nn(hw:cX w=true)(h:Gr q):U6 (a1B "put " ++ w++a1B " " ++ rtx q) (a1B "put") [(a1B "word",w,.str w),DP q] :=
 Xs (by rfl) (by rw[0]) (SG hw) (mJ h) (by have:=D1 h;have:=gj hw;rw[show(a1B "put ").length=4 by rw[0]];omega) (by rfl)
def HR(h:Gr q):U6 (a1B "near " ++ rtx q) (a1B "near") [DP q] :=
 Te (by rfl) (by rw[0]) (mJ h) (by have:=D1 h;rw[show(a1B "near ").length=5 by rw[0]];omega) (by rfl)
def Np(h:Gr q):U6 (a1B "far " ++ rtx q) (a1B "far") [DP q] :=
 Te (by rfl) (by rw[0]) (mJ h) (by have:=D1 h;rw[show(a1B "far ").length=4 by rw[0]];omega) (by rfl)
def HS{k:Nat}(h:k<10 ^ 300):U6 (a1B "idle " ++ tx (k:Int)) (a1B "idle") [Xx k] :=
 Te (by rfl) (by rw[0]) (TB h) (by have:(tx (k:Int)).length<=100000 - 5:=(by have e:=BO k;rw[<- e];have:=D1 (q:=k) ⟨by show(k:Int).natAbs<_;rw[a1G];exact h,by show 1<_;rw[0]⟩;omega);rw[show(a1B "idle ").length=5 by rw[0]];omega) (by rfl)
def vX(h:Gr y)(g:Gr u):U6 (a1B "ever " ++ rtx y++a1B " " ++ rtx u) (a1B "ever") [DP y,DP u] :=
 Xs (by rfl) (by rw[0]) (mJ h) (mJ g) (by have:=D1 h;have:=D1 g;rw[show(a1B "ever ").length=5 by rw[0]];omega) (by rfl)
def DB:U6 (a1B "round") (a1B "round") []:=yq (by rfl) (by rw[0]) (λ_ h=>nomatch h) (by rw[0]) (by rfl)<|a2e _
structure H61(h:Hl):Prop where
 n:sz h.1<=5
 f:sz h.2.2<=5
 l:h.2.1.length<=12
 p:∀ x∈h.2.1,cQ x/\sz x.2<=5
def bD{L:List (Str × Rat)}(h:∀ x∈L,sz x.2<=5)(hl:L.length<=20)(i:Nat):CDQ 230 (tbQ<|L.take i):=by have c:=NT (L.take i) (λx hx _=>h x<|a2L hx) CD.one;have ha:oX (L.take i)<=20:=a1N (a2w _ _) (by grind);exact c.mono<|by omega
def D6.small{near far:Rat}{bs:List (Str × Rat)}(hl:bs.length<=8)(h:H61 (near,bs,far)):D6 near bs far:=by
 have sm:∀ x∈j3 near bs far,sz x.2<=5:=λx hx=>by
  unfold j3 at hx;simp only[a10,a13,a3R]at hx;rcases hx with((hx|rfl)|hx)|rfl
  ·exact(h.p x hx).2
  ·exact h.f
  ·exact(h.p x hx).2
  ·exact h.n
 have hl2:=au near far bs;refine⟨bD sm<|by omega,λx hx=>a1N (sm x hx)<|by decide,by omega,λx hx=>?_⟩;rcases(h.p x hx).1.kind with a|a|a
 ·exact .inl<|.inl a.1
 ·exact .inl<|.inr a
 ·exact .inr a
def DR(h:∀ l∈ls,LineOk l)(e:Y7 ls p q = .free z):0<p*z.1+q*z.2:=by
 unfold Y7 at e;by_cases c:p=0/\q=0
 ·rw[if_pos c]at e;cases e
 rw[if_neg c]at e;cases eh:C9 (i4 ls)with
 | nil =>rw[eh]at e;cases e;exact yd c
 | cons a r =>
  cases r with
  | nil =>
   rw[eh]at e;have e:J1 (ls.getD a.2.2.2.1.toNat (0,0,0)) a.2.2.2.1 p q = .free z:=e;generalize ls.getD a.2.2.2.1.toNat (0,0,0)=l at e;unfold J1 at e;by_cases c1:l.1*q - p*l.2.1<0
   ·rw[if_pos c1]at e;cases e;show 0<p*l.2.1+q * -l.1;grind
   ·rw[if_neg c1]at e
    by_cases c2:0<l.1*q - p*l.2.1
    ·rw[if_pos c2]at e;cases e;show 0<p * -l.2.1+q*l.1;grind
    ·rw[if_neg c2]at e;cases e
  | cons b r =>obtain⟨a1,b1,ea,_⟩:=nA h eh<|FZ c;rw[eh]at e;have e:jo (a :: b :: r) p q = .free z:=e;unfold jo at e;rw[ea]at e;cases e
def xO.word:xO->Str
 | .needed _ => "needed"
 | .idle _ => "idle"
def ic(bs:List (Str × Rat))(k:Nat):Except Str Str:=match bs[k]? with
 | none=>.error<|a1B "NoPart"
 | some x=>if x.1=a1B "stop" then .ok (xj (q9 bs bs.length) (q9 (bs.take k) (bs.take k).length).length<|(q9 bs bs.length).getD (q9 (bs.take k) (bs.take k).length).length (0,0,0)).word else .error (a1B "NoPart")
def zH(m:Q4)(t:Str):Prop:=(kwS m=a1B "same" /\ t=a1B "same " ++ tx (rtN m:Int))\/(kwS m=a1B "off" /\ ((∃ q,sz q<=2000/\fY (trQ m) (d6 q)/\t=a1B "off " ++ rtx q)\/(fY (trQ m) .non/\t=a1B "off")))\/((kwS m=a1B "shear" \/ kwS m=a1B "turns")/\t=kwS m)
def dS:D->Str
 | .str s=>s
 | _=>a3o
def dI:D->Int
 | .int i=>i
 | _=>0
def evT(ws:List (D × D))(m:Q4)(ls:List (Rat × Rat × Rat)):Option (Nat × Nat)->Str
 | some z=>a1B "stopped " ++ tx (z.1:Int)++a1B " " ++ dS (ws.getD z.2 (.non,.non)).1++a1B " " ++ tx (dI (ws.getD z.2 (.non,.non)).2)
 | none=>match D3 m ls with|_ :: _=>a1B "late" | []=>a1B "never"
def EvT(near:Rat)(bs:List (Str × Rat))(far y u:Rat)(t:Str):Prop:=∃ o,pd (tbQ<|j3 near bs far) (E7 near bs far y u) o/\t=evT (G0 (j6 near bs far) (j6 near bs far).length) (tbQ<|j3 near bs far) (E7 near bs far y u) o
def gh(h:Hl)(w:Str)(vs:List D)(r:Except Str Str):Prop:=(w=a1B "idle" /\ ∃ k:Nat,vs=[.int (k:Int)]/\r=ic h.2.1 k)\/(w=a1B "round" /\ if 8<h.2.1.length then r = .error (a1B "TooMany")else ∃ t,zH (tbQ<|j3 h.1 h.2.1 h.2.2) t/\r = .ok t)\/(w=a1B "ever" /\ ∃ y u,vs=[d6 y,d6 u]/\CD 190 y 0 u 0/\if 8<h.2.1.length then r = .error (a1B "TooMany")else ∃ t,EvT h.1 h.2.1 h.2.2 y u t/\r = .ok t)
def fY.one(h:fY t v)(g:fY t v'):v=v':=by
 rcases h with⟨r,a1,a2,rfl⟩|⟨a,rfl⟩
 ·rcases g with⟨r',b1,b2,rfl⟩|⟨b,_⟩
  ·have e:r=r':=by
    have:(r - r')*(r+r')=0:=by grind
    rcases Rat.mul_eq_zero.mp this with z|z<;>grind
   rw[e]
  ·exact absurd a2<|b r
 ·rcases g with⟨r',_,b2,_⟩|⟨_,rfl⟩
  ·exact absurd b2<|a r'
  ·rfl
def zH.one(h:zH m t)(g:zH m t'):t=t':=by
 have d1:¬ a1B "off" = a1B "same" := by rw[0]
 have d2:¬ a1B "shear" = a1B "same" := by rw[0]
 have d3:¬ a1B "turns" = a1B "same" := by rw[0]
 have d4:¬ a1B "shear" = a1B "off" := by rw[0]
 have d5:¬ a1B "turns" = a1B "off" := by rw[0]
 rcases h with⟨a,rfl⟩|⟨a,h⟩|⟨a,rfl⟩
 ·rcases g with⟨_,rfl⟩|⟨b,_⟩|⟨b,_⟩;all_goals grind
 ·rcases g with⟨b,_⟩|⟨_,g⟩|⟨b,_⟩
  ·grind
  ·rcases h with⟨q,_,h1,rfl⟩|⟨h1,rfl⟩
   ·rcases g with⟨q',_,g1,rfl⟩|⟨g1,_⟩
    ·rw[f8.mp<|h1.one g1]
    ·exact absurd (h1.one g1)<|by intro z;cases z
   ·rcases g with⟨q',_,g1,_⟩|⟨_,rfl⟩
    ·exact absurd (h1.one g1)<|by intro z;cases z
    ·rfl
  grind
 ·rcases g with⟨b,_⟩|⟨b,_⟩|⟨_,rfl⟩;all_goals grind
def EvT.one(h:EvT near bs far y u t)(g:EvT near bs far y u t'):t=t':=by obtain⟨o,h1,rfl⟩:=h;obtain⟨o',g1,rfl⟩:=g;rw[h1.one g1]
def zR(r:Except Str Str)(M:Mem)(R:DK)(Y:DXK):Prop:=match r with|.ok t=>R (.str t) M|.error x=>Y (xN x) M
def YL(h:Hl)(w:Str)(vs:List D)(g:Hl):Prop:=h.2.1.length<12/\((w=a1B "put" /\ ∃ v q,vs=[.str v,d6 q]/\wX v q=true/\g=(h.1,h.2.1++[(v,q)],h.2.2))\/(w=a1B "near" /\ ∃ q,vs=[d6 q]/\g=(q,h.2.1,h.2.2))\/(w=a1B "far" /\ ∃ q,vs=[d6 q]/\g=(h.1,h.2.1,q)))
def GD(h:bs[k]? = some x)(h1:x.1=a1B "stop"):∃ l,(q9 bs bs.length)[(q9 (bs.take k) (bs.take k).length).length]? = some l:=by
 have hk:=(a1I.mp h).1;have tk:∀ i,i<=k->q9 (bs.take k) i=q9 bs i:=λi=>by
  induction i with
  | zero=>intro _;rfl
  | succ i ih =>intro hi;unfold q9;rw[ih<|by omega,a5j,if_pos<|by omega,List.take_take,a38<|by omega]
 have pre:∀ n,∃ r,q9 bs (k+1+n)=q9 bs (k+1)++r:=λn=>by
  induction n with
  | zero=>exact⟨[],(a2g _).symm⟩
  | succ n ih =>obtain⟨r,e⟩:=ih;have e3:∃ w,q9 bs (k+1+n+1)=q9 bs (k+1+n)++w:=⟨_,rfl⟩;obtain⟨w,e3⟩:=e3;exact⟨r++w,by rw[show k+1+(n+1)=k+1+n+1 from rfl,e3,e,a2H]⟩
 obtain⟨r,e⟩:=pre<|bs.length - (k+1);rw[show k+1+(bs.length - (k+1))=bs.length by omega]at e;have e2:q9 bs (k+1)=q9 bs k++[((k8 (bs.take k) (1,0)).1,(k8 (bs.take k) (0,1)).1,x.2)]:=by simp_all [if_pos,q9,a1B]
 have lt:(bs.take k).length=k:=by grind
 simp_all
def mO(hl:bs.length<=12)(hp:∀ x∈bs,cQ x/\sz x.2<=5):Z6 (q9 bs bs.length):=by
 refine⟨a1N (S5 _ _) hl,λl h=>?_⟩;obtain⟨j,x,hj,h1,e⟩:=O2 _ l h;have cd:=bD (λx hx=>(hp x hx).2) (show bs.length<=20 by omega) j;have t4:=CD.t4 cd;have z1:=t4.a;have z2:=t4.b;have dt:(k8 (bs.take j) (1,0)).1*(k8 (bs.take j) (0,1)).2 - (k8 (bs.take j) (0,1)).1*(k8 (bs.take j) (1,0)).2=1:=Gv<|bs.take j;obtain⟨p1,p2⟩:=hp x<|a1K hj;have x0:0<x.2:=by
  rcases p1.kind with a|a|a
  ·rw[a.1]at h1;exact absurd h1<|by rw[0]
  ·rw[a]at h1;exact absurd h1<|by rw[0]
  grind
 subst e;refine L28.mk3 ⟨λz=>?_,x0⟩ (a1N z1<|by decide) (a1N z2<|by decide) (a1N p2<|by decide);grind
def xW(hl:bs.length<=9)(hk:k<(G0 (j6 near bs far) (j6 near bs far).length).length):∃(s:Str) (j:Nat),s.length<=5/\j<9/\(G0 (j6 near bs far) (j6 near bs far).length).getD k (.non,.non)=(.str s,.int (j:Int))/\cl 59 (.str s)=true:=by
 rw[a2a,a1T hk];have hm:=a3Q hk;generalize (G0 (j6 near bs far) (j6 near bs far).length)[k]=w at hm ⊢;rw[pT]at hm;have fr:∀ x∈frW bs,x.2<9:=λx hx=>by have:=a3m.mp (a2Q.mp hx).1;grind
 rcases a10.mp hm with h|h
 ·obtain⟨x,hx,rfl⟩:=a17.mp h;exact⟨_,_,by rw[0],fr x hx,rfl,by rw[0]⟩
 ·obtain⟨x,hx,rfl⟩:=a17.mp h;exact⟨_,_,by rw[0],fr x<|a3R.mp hx,rfl,by rw[0]⟩
def Sq(h:n<2 ^ 1600):n<10 ^ 5000:=a1F h<|a1N (a1X (by decide) (show 1600<=5000 by decide))<|Nat.pow_le_pow_left (by decide) 5000
def xl(hw:D6 near bs far)(hp:∀ x∈bs,sz x.2<=5)(cd:CD 190 y 0 u 0):∀ l∈E7 near bs far y u,sz l.1<=421/\sz l.2.1<=652/\sz l.2.2<=5:=λl hl=>by
 obtain⟨l0,h0,rfl⟩:=a17.mp hl;obtain⟨j,px,hj,h1,el⟩:=O2 _ l0 h0;obtain⟨z1,z2⟩:=yp hw.cd cd j;have e1:(k8 ((j3 near bs far).take j) (1,0)).1=l0.1:=by rw[el]
 have e2:(k8 ((j3 near bs far).take j) (0,1)).1=l0.2.1:=by rw[el]
 rw[e1,e2]at z1 z2;have hm:=a1K hj;have g:¬ a1B "glass" = a1B "stop" := by rw[0]
 have z3:sz px.2<=5:=by
  unfold j3 at hm;simp only[a10,a13,a3R]at hm;rcases hm with((hm|rfl)|hm)|rfl
  ·exact hp _ hm
  ·exact absurd h1 g
  ·exact hp _ hm
  ·exact absurd h1 g
 refine⟨z1,z2,?_⟩;have:(sR (j3 near bs far) y u l0).2.2=px.2:=by rw[el];rfl
 rw[this];exact z3
def qk(h:kwS m=a1B "same")(hv:zL m v):G3 m/\v=jw m:=by
 have hs:G3 m:=by
  rcases F4 m with⟨c1,_⟩|⟨_,_,e⟩|⟨_,_,_,e⟩|⟨_,_,_,e⟩
  ·exact c1
  ·rw[e]at h;exact absurd h<|by rw[0]
  ·rw[e]at h;exact absurd h<|by rw[0]
  ·rw[e]at h;exact absurd h<|by rw[0]
 refine⟨hs,?_⟩;rcases hv with⟨_,e⟩|⟨c,_⟩|⟨c,_⟩|⟨c,_⟩
 ·exact e
 ·exact absurd (h.symm.trans c)<|by rw[0]
 ·exact absurd (h.symm.trans c)<|by rw[0]
 ·exact absurd (h.symm.trans c)<|by rw[0]
def wZ(h:kwS m=a1B "off")(hv:zL m v)(zt:sz (trQ m)<=231):(∃ q,sz q<=900/\v=d6 q/\fY (trQ m) (d6 q))\/(v = .non/\fY (trQ m) .non):=by
 rcases hv with⟨c,_⟩|⟨c,_⟩|⟨c,_⟩|⟨_,hv⟩
 ·exact absurd (h.symm.trans c)<|by rw[0]
 ·exact absurd (h.symm.trans c)<|by rw[0]
 ·exact absurd (h.symm.trans c)<|by rw[0]
 ·have hv0:=hv
  rcases hv with⟨r,r0,r1,rfl⟩|⟨_,rfl⟩
  ·refine .inl ⟨_,?_,rfl,hv0⟩
   have z1:=RM.A0 (trQ m)<|trQ m;have z4:sz 4<=3:=by rw[0]
   have z5:=RM.U9 (trQ m*trQ m) 4;have zr:=a1N (Be r1) (by omega);have z2:sz 2<=2:=by rw[0]
   grind[RM.U9,RM.Q1,RM.Q3,trQ,sz]
  grind
example eO BH jI(a b:Int):[.tup [.int a,.int b]]:=R (.bl<|decide (1<=b) && decide (a2i a.natAbs b.natAbs=1)) M
def uE:BH [d6 q] M R Y=R (.bl true) M:=by rw[show d6 q = .tup [.int q.num,.int (q.den:Int)]from rfl,jI];have h1:=q.den_pos;have h2:a2i q.num.natAbs q.den=1:=q.reduced;show R (.bl<|decide _ && decide _) M=_;rw[a1G,decide_eq_true h2,decide_eq_true (show 1<=(q.den:Int)by omega)];rfl
def HZ(h:rdR cs=some q):∃ n d,rdW (G2 47 cs).1=some n/\(if (G2 47 cs).2.1 then rdW (G2 47 cs).2.2 else some 1)=some d/\(decide (1<=d) && decide (a2i n.natAbs d.natAbs=1))=true/\(G2 47 cs).2.2≠[49]/\q=mkRat n d.natAbs:=by grind[rdR,Ba,G2,rdW,a2i]
example eD Hu uw(s:Str):[.str s]:=∃ q,rdR (sg s)=some q/\s.length<=100000/\R (d6 q) M
example eF Hv ux(s:Str):[.str s]:=s.length<=100000/\∃ q,rdR (sg s)=some q/\R (d6 q) M
example aQ Bv pk(xs:List D):[.vl xs]:=R (.vl xs.reverse) M
example aW BB pD(near:Rat)(bs:List (Str × Rat))(far:Rat):[.tup [d6 near,.vl<|bs.map i8,d6 far]]:=bs.length<=9/\R (.vl<|(j3 near bs far).map i8) M
example eB Hs uu(near:Rat)(bs:List (Str × Rat))(far:Rat):[.tup [d6 near,.vl<|bs.map i8,d6 far]]:=D6 near bs far/\R (K5<|tbQ<|j3 near bs far) M
example eP HE uF(near:Rat)(bs:List (Str × Rat))(far:Rat):[.tup [d6 near,.vl<|bs.map i8,d6 far]]:=D6 near bs far/\∀ p,M p=none->R (.ref p) (l9 M p<|.lst<|hlN (j6 near bs far) (j6 near bs far).length)
example V3 vP kM(ls:List T3):[.vl<|ls.map j4]:=Lp ls/\R (.vl<|(i4 ls).map sdD) M
example bc BI pI(ls:List T3):[.vl<|ls.map j4]:=Lp ls/\R (.vl<|(C9<|i4 ls).map sdD) M
example eM HA uD(near:Rat)(bs:List (Str × Rat))(far:Rat):[.tup [d6 near,.vl<|bs.map i8,d6 far]]:=D6 near bs far/\∀ v,zL (tbQ<|j3 near bs far) v->R (.tup [.str<|kwS<|tbQ<|j3 near bs far,v]) M
example eI yo uz(bs:List (Str × Rat))(k:Nat):[.vl<|bs.map i8,.int (k:Int)]:=bs.length<=12/\(bs[k]? = none->Y (xN "NoPart") M)/\∀ x,bs[k]? = some x->R (i8 x) M
example jV Rg Ag(w:Str)(q:Rat):[.str w,d6 q]:=wX w q=true/\R (.tup [.str w,d6 q]) M
example eG Hw uy(bs:List (Str × Rat))(w:Str)(q:Rat):[.vl<|bs.map i8,.str w,d6 q]:=(bs.length<12/\wX w q=true)/\R (.vl<|(bs++[(w,q)]).map i8) M
example eV HI uJ(bs:List (Str × Rat))(w:Str)(q:Rat):[.vl<|bs.map i8,.str "put",.vl [.str w,d6 q]]:=(bs.length<12/\wX w q=true)/\R (.vl<|(bs++[(w,q)]).map i8) M
abbrev mh(near:Rat)(bs:List (Str × Rat))(far:Rat)(w:Str)(vs:List D)(M:Mem)(R:DK)(Y:DXK):Prop:=∃ g,YL (near,bs,far) w vs g/\R (qp g) M
def Tc:DSp:=λds M R Y=>∃(near:Rat) (bs:List (Str × Rat)) (far:Rat) (w:Str) (vs:List D),ds=[.tup [d6 near,.vl<|bs.map i8,d6 far],.str w,.vl vs]/\mh near bs far w vs M R Y
example km HD Ap(bs:List (Str × Rat))(k:Nat):[.vl<|bs.map i8,.int (k:Int)]:=(bs.length<=12/\∀ x∈bs,cQ x/\sz x.2<=5)/\zR (ic bs k) M R Y
example jS Rb Ad(near:Rat)(bs:List (Str × Rat))(far:Rat):[.tup [d6 near,.vl<|bs.map i8,d6 far]]:=D6 near bs far/\∀ t,zH (tbQ<|j3 near bs far) t->R (.str t) M
example ko Rr Ar(near:Rat)(bs:List (Str × Rat))(far:Rat)(y u:Rat):[.tup [d6 near,.vl<|bs.map i8,d6 far],o7 y u]:=(D6 near bs far/\(∀ x∈bs,sz x.2<=5)/\CD 190 y 0 u 0)/\∀ t,EvT near bs far y u t->R (.str t) M
abbrev gw(near:Rat)(bs:List (Str × Rat))(far:Rat)(w:Str)(vs:List D)(M:Mem)(R:DK)(Y:DXK):Prop:=(H61 (near,bs,far)/\w≠a1B "idle")/\∃ r,gh (near,bs,far) w vs r/\zR r M R Y
def BJ:DSp:=λds M R Y=>∃(near:Rat) (bs:List (Str × Rat)) (far:Rat) (w:Str) (vs:List D),ds=[.tup [d6 near,.vl<|bs.map i8,d6 far],.str w,.vl vs]/\gw near bs far w vs M R Y
abbrev gy(bs:List (Str × Rat))(w:Str)(vs:List D)(M:Mem)(R:DK)(Y:DXK):Prop:=w=a1B "idle" /\ ∃(k:Nat),vs=[.int (k:Int)]/\(bs.length<=12/\∀ x∈bs,cQ x/\sz x.2<=5)/\zR (ic bs k) M R Y
def BN:DSp:=λds M R Y=>∃(bs:List (Str × Rat)) (w:Str) (vs:List D),ds=[.vl<|bs.map i8,.str w,.vl vs]/\gy bs w vs M R Y
example jT Rc Ae(f t:Str):[.str f,.str t]:=∃ v,fZ (f,t,v)/\R v M
example aX BC pE(s:Str):[.str s]:=∃ w xs,U6 s w xs/\R (.tup [.str w,.vl<|xs.map (·.2.2)]) M
example eA rC ur(d:Addr)(s:Str):[.ref d,.str s]:=∃(w:Str) (xs:List (Str × Str × D)) (h:Hl) (ps:List Hl) (l:Addr),U6 s w xs/\ps.length<=1000/\aL M d l h ps/\((∃ g,YL h w (xs.map (·.2.2)) g/\∀ M',aL M' d l g (ps++[h])->Oth d l M M'->R (.str<|a1B "ok") M')\/(H61 h/\∃ r,gh h w (xs.map (·.2.2)) r/\zR r M R Y))
def er2:List Str:=[a1B "NoPart",a1B "TooMany"]
def flY(x:Str):List Bool:=[false,decide (x=a1B "NoPart"),false,decide (x=a1B "TooMany"),false]
def Yd(h:x∈er2):((a2c 5).filter λk:Nat=>(flY x)[k]?.getD false).map (λk:Nat=>D.int (k:Int))=[.int<|CS x]:=by
 simp only[er2,a1Y,a2x,or_false]at h;have key:∀ y,∀ l,flY y=l->((a2c 5).filter λk:Nat=>l[k]?.getD false).map (λk:Nat=>D.int k)=[.int<|CS y]->((a2c 5).filter λk:Nat=>(flY y)[k]?.getD false).map (λk:Nat=>D.int k)=[.int<|CS y]:=λy l e q=>by grind
 rcases h with rfl|rfl;all_goals rfl
def tm2(h:x∈er2)(e1:a=decide (a1B "NoPart" = n))(e2:b=decide (a1B "TooMany" = n)):(x,decide (x=n))∈[(a1B "NoPart",a),(a1B "TooMany",b)]:=by grind[er2]
def tb2(h:x∈er2):(x,a)∈[(a1B "NoPart",a),(a1B "TooMany",a)]:=by simp_all [a1Y,a2x,or_false,a1M,er2]
def Px(ha:gh h w vs (.error x)):x∈er2:=by
 rcases ha with⟨_,k,_,e⟩|⟨_,e⟩|⟨_,y,u,_,_,e⟩
 ·unfold ic at e
  cases ek:h.2.1[k]? with
  | none=>rw[ek]at e;cases e;exact a1M
  | some p =>
   rw[ek]at e;have e:Except.error x=if p.1=a1B "stop" then _ else _:=e
   by_cases c:p.1=a1B "stop"
   ·rw[if_pos c]at e;cases e
   ·rw[if_neg c]at e;cases e;exact a1M
 ·by_cases c:8<h.2.1.length
  ·rw[if_pos c]at e;cases e;exact .tail _ a1M
  ·rw[if_neg c]at e;obtain⟨_,_,e⟩:=e;cases e
 ·by_cases c:8<h.2.1.length
  ·rw[if_pos c]at e;cases e;exact .tail _ a1M
  ·rw[if_neg c]at e;obtain⟨_,_,e⟩:=e;cases e
theorem Ck(k:Int):∀ ns:List Int,inV (.int k) (ns.map V.int)=decide (k∈ns)
 | []=>rfl
 | n :: ns=>by
  have ih:=Ck k ns;rw[a1Z];have e:inV (.int k) (V.int n :: ns.map V.int)=((n == k) || inV (.int k) (ns.map V.int)):=by rfl
  grind
def Vy{k:Int}{ns:List Int}{M:Mem}{R:DK}(r:R (.bl<|decide (k∈ns)) M):gIn false (.int k) (.vl<|ns.map D.int) M R :=
 ⟨.int k,ns.map D.int,ns.map V.int,rfl,by simp only[j5],by rw[a2k,a2k];rfl,by rw[if_neg<|by decide,Ck];exact r⟩
def Nq(n:Nat):G6 0 n=(a2c n).map λi:Nat=>D.int (i:Int):=by simp[a4a,Int.zero_add,G6]
def Vx{k:Nat}{ns:List Nat}{M:Mem}{R:DK}(r:R (.bl<|decide (k∈ns)) M):gIn false (.int (k:Int)) (.vl (ns.map λi:Nat=>D.int (i:Int))) M R:=by
 have e:ns.map (λi:Nat=>D.int i)=(ns.map λi:Nat=>(i:Int)).map D.int:=by simp
 rw[e];refine Vy ?_;grind
def stB(bs:List (Str × Rat))(i:Nat):Bool:=match bs[i]? with|some x=>x.1 == a1B "stop" | none=>false
def K6(bs:List (Str × Rat)):List Nat:=(a2c bs.length).filter<|stB bs
def qK:stB bs i=true ↔ ∃ x,bs[i]? = some x/\x.1=a1B "stop" := by
 unfold stB;cases bs[i]? with
 | none=>simp
 | some x=>simp
theorem Bf(bs:List (Str × Rat)):∀ i,(q9 bs i).length=((a2c i).filter<|stB bs).length
 | 0=>rfl
 | i+1=>by have ih:=Bf bs i;unfold q9;rw[a1V,ih,List.range_succ,a2K,a1V];grind[stB,a1B]
def GF(h:k∈K6 bs):(K6 bs)[(q9 (bs.take k) (bs.take k).length).length]? = some k/\∀ i,i<(q9 (bs.take k) (bs.take k).length).length->(K6 bs)[i]? ≠ some k:=by
 have hk:=a2t.mp (a2Q.mp h).1;have hs:=(a2Q.mp h).2;have lt:(bs.take k).length=k:=by rw[a2q];omega
 have ec:(q9 (bs.take k) (bs.take k).length).length=((a2c k).filter<|stB bs).length:=by rw[Bf,lt];congr 1;refine List.filter_congr λi hi=>?_;have:=a2t.mp hi;unfold stB;rw[a5j,if_pos this]
 obtain⟨m,hm⟩:∃ m,bs.length=k+(m+1):=⟨bs.length - k - 1,by omega⟩;have es:∃ r,K6 bs=(a2c k).filter (stB bs)++k :: r:=by unfold K6;rw[hm,List.range_add,a2K,a4L,a1Z,a2m<|by rw[a5t];exact hs,a5t];exact⟨_,rfl⟩
 obtain⟨r,es⟩:=es;rw[ec,es];refine⟨by rw[a22<|a1U _,Nat.sub_self];rfl,λi hi e=>?_⟩;rw[a2P hi]at e;have:=a2t.mp (a2Q.mp<|a1K e).1;omega
def Py(h:¬ k∈K6 bs):ic bs k = .error (a1B "NoPart"):=by
 unfold ic;cases e:bs[k]? with
 | none=>rfl
 | some x =>
  show(if x.1=a1B "stop" then _ else _)=_;by_cases c:x.1=a1B "stop"
  ·exact absurd (a2Q.mpr ⟨a2t.mpr (a1I.mp e).1,qK.mpr ⟨x,e,c⟩⟩) h
  ·rw[if_neg c]
example eu Hr uq(p:Addr):[.ref p]:=R8 M p/\∀(q:Rat) M',sz q<=4->K3 p M M'->R (d6 q) M'
example eL Hz uC(q:Rat):[d6 q]:=Gr q/\R (.str<|rtx q) M
example V6 vS kP(p:Addr):[.ref p]:=R8 M p/\∀ x M',cQ x->sz x.2<=5->K3 p M M'->R (i8 x) M'
example jQ QZ Ab(p:Addr):[.ref p]:=R8 M p/\∀(q:Rat) M',sz q<=90->K3 p M M'->R (d6 q) M'
example V2 vO kL(d:Addr)(bs:List (Str × Rat))(near far:Rat):[.ref d,.vl<|bs.map i8,.vl [d6 near,d6 far]]:=(H61 (near,bs,far)/\bs.length<12)/\∃ l,aL M d l hl0 []/\∀ M' ps,ps.length<=20->aL M' d l (near,bs,far) ps->Oth d l M M'->R (.ref d) M'
def cM(r:Except Str Str):D:=match r with|.ok t=>.tup [.str t,.vl []]|.error x=>.tup [.non,.vl [.int<|CS x]]
example aU Bz pB(d:Addr)(s:Str):[.ref d,.str s]:=∃(w:Str) (xs:List (Str × Str × D)) (h:Hl) (ps:List Hl) (l:Addr),U6 s w xs/\H61 h/\ps.length<=1000/\aL M d l h ps/\∃ r,gh h w (xs.map (·.2.2)) r/\R (cM r) M
example aV BA pC(near:Rat)(bs:List (Str × Rat))(far:Rat):[.tup [d6 near,.vl<|bs.map i8,d6 far]]:=D6 near bs far/\∀ t,zH (tbQ<|j3 near bs far) t->R (.str t) M
example eU HH uI(near:Rat)(bs:List (Str × Rat))(far y u:Rat):[.tup [d6 near,.vl<|bs.map i8,d6 far],o7 y u]:=(D6 near bs far/\(∀ x∈bs,sz x.2<=5)/\CD 190 y 0 u 0)/\∀ t,EvT near bs far y u t->R (.str t) M
def xK(P:α->D->Prop):List α->List D->Prop
 | [],[]=>True
 | x :: xs,y :: ys=>P x y/\xK P xs ys
 | _,_=>False
theorem xK.snoc{α:Type}{P:α->D->Prop}{x:α}{y:D}(h:P x y):∀{xs:List α} {ys:List D},xK P xs ys->xK P (xs++[x]) (ys++[y])/\ys.length=xs.length
 | [],[],_=>⟨⟨h,trivial⟩,rfl⟩
 | _ :: _,_ :: _,r=>⟨⟨r.1,(r.2.snoc h).1⟩,congrArg (· + 1) (r.2.snoc h).2⟩
def xK.two:∀{ys:List D},xK P [a,b] ys->∃ x y,P a x/\P b y/\ys=[x,y]
 | [x,y],h=>⟨x,y,h.1,h.2.1,rfl⟩
 | [],h=>h.elim
 | [_],h=>h.2.elim
 | _ :: _ :: _ :: _,h=>h.2.2.elim
def Ek{e0:Ev}{g:DTG}{te:DTE}{stay:Mem->Prop}{M1:Mem}{E:List D->Mem->Prop}{α:Type}{xs:List α}{enc:α->D}(P:α->D->Prop)(hn:xs.length<=1000)(hst:stay M1)(step:∀ x∈xs,∀ Q,(∀ d,P x d->Q d M1)->g (enc x) e0 M1 λe2 M2=>te e2 M2 Q)(h:∀ ys,xK P xs ys->E ys M1):∃ W,jq e0 g Eh te (xs.map enc) stay M1 E W:=by
 refine⟨λi ys M=>M=M1/\xK P (xs.take i) ys,⟨⟨rfl,trivial⟩,λi ys M _ w=>by rw[w.1];exact hst,λi d ys M hd w=>?_,λys M w=>?_⟩⟩
 ·obtain⟨rfl,w⟩:=w
  rw[a1S]at hd;obtain⟨x,hx,rfl⟩:=a2d.mp hd;obtain⟨hl,he⟩:=a1I.mp hx;refine step x (a1K hx) _ λd hp=>?_;obtain⟨s1,s2⟩:=w.snoc hp;refine⟨?_,rfl,?_⟩
  ·rw[s2,a2q];exact a1R (a1N (a4F _ _) hn)<|by decide
  simp_all [a2p]
 grind
theorem C6:cl n (.str t)=true ↔ ∀ c∈sg t,c<1114112:=by
 have e:cl n (.str t)=t.cps.all (· < 0x110000):=by rfl
 rw[e,<- Array.all_toList,a4J];simp
def M0(h:cl n (.str a)=true)(g:cl n (.str b)=true):cl n (.str<|a++b)=true:=by grind[C6,O3,a10]
def gM(i:Int):cl n (.str<|tx i)=true:=C6.mpr λc h=>by have:=la i c h;omega
def Ol(q:Rat):cl n (.str<|rtx q)=true:=by
 unfold rtx;split
 ·exact gM _
 ·exact M0 (M0 (gM _)<|C6.mpr<|by rw[0])<|gM _
def Tf(h:zH m t):cl 59 (.str t)=true:=by
 have k0:∀{t:Str},(t=a1B "shear" \/ t=a1B "turns")->cl 59 (.str t)=true:=λh=>by rcases h with rfl|rfl<;>exact C6.mpr<|by rw[0]
 rcases h with⟨_,rfl⟩|⟨_,⟨q,_,_,rfl⟩|⟨_,rfl⟩⟩|⟨e,rfl⟩
 ·exact M0 (C6.mpr<|by rw[0])<|gM _
 ·exact M0 (C6.mpr<|by rw[0])<|Ol _
 ·exact C6.mpr<|by rw[0]
 ·exact k0 e
def Yf(hw:D6 near bs far)(h:EvT near bs far y u t):cl 59 (.str t)=true:=by
 obtain⟨o,ho,rfl⟩:=h;have lk:(E7 near bs far y u).length=(G0 (j6 near bs far) (j6 near bs far).length).length:=by unfold E7;rw[a1H,aO,W5,G8]
 cases o with
 | none =>show cl 59 (.str (match D3 _ _ with|_ :: _=>a1B "late" | []=>a1B "never"))=true;split<;>exact C6.mpr<|by rw[0]
 | some z =>obtain⟨n,j⟩:=z;obtain⟨s,i,_,_,h3,h4⟩:=xW hw.len (by rw[<- lk];exact ho.in);show cl 59 (.str<|a1B "stopped " ++ tx n++a1B " " ++ dS ((G0 (j6 near bs far) (j6 near bs far).length).getD j (.non,.non)).1++a1B " " ++ tx (dI ((G0 (j6 near bs far) (j6 near bs far).length).getD j (.non,.non)).2))=true;rw[h3];exact M0 (M0 (M0 (M0 (M0 (C6.mpr<|by rw[0])<|gM _)<|C6.mpr<|by rw[0]) h4)<|C6.mpr<|by rw[0])<|gM _
def Lf(hh:H61 h)(ha:gh h w vs r):cl 60 (cM r)=true:=by
 cases r with
 | error x=>rfl
 | ok t =>
  have key:cl 59 (.str t)=true->cl 60 (cM<|.ok t)=true:=λz=>by show(cl 59 (.str t) && true)=true;rw[z];rfl
  refine key ?_;rcases ha with⟨_,k,_,e⟩|⟨_,e⟩|⟨_,y,u,_,_,e⟩
  ·have wd:∀ z:xO,cl 59 (.str z.word)=true:=λz=>by
    have a1:cl 59 (.str<|a1B "needed")=true:=C6.mpr<|by rw[0]
    have a2:cl 59 (.str<|a1B "idle")=true:=C6.mpr<|by rw[0]
    cases z with
    | needed z=>exact a1
    | idle z=>exact a2
   unfold ic at e
   cases ek:h.2.1[k]? with
   | none=>rw[ek]at e;cases e
   | some p =>
    rw[ek]at e;have e:Except.ok t=if p.1=a1B "stop" then _ else _:=e
    by_cases c:p.1=a1B "stop"
    ·rw[if_pos c]at e;cases e;exact wd _
    ·rw[if_neg c]at e;cases e
  ·by_cases c:8<h.2.1.length
   ·rw[if_pos c]at e;cases e
   ·rw[if_neg c]at e;obtain⟨_,a,e⟩:=e;cases e;exact Tf a
  ·by_cases c:8<h.2.1.length
   ·rw[if_pos c]at e;cases e
   ·rw[if_neg c]at e;obtain⟨_,a,e⟩:=e;cases e;exact Yf (D6.small (Nat.le_of_not_lt c) hh) a
def KI:(X2 xs lo hi).length<=xs.length:=by unfold X2;rw[a2q,a2F];omega
def KH(h:d∈X2 xs lo hi):d∈xs:=a3Y<|a2L h
def Kg:cM (.error<|a1B "TooMany") = .tup [.non,.vl [.int 3]]:=by rfl
def ua(h:Hl)(d:D):Prop:=∃(s w:Str) (xs:List (Str × Str × D)) (r:Except Str Str),d = .tup [.str s,cM r]/\U6 s w xs/\gh h w (xs.map (·.2.2)) r
abbrev V9(bs:List (Str × Rat))(near far y1 u1 y2 u2:Rat)(M:Mem)(R:DK)(Y:DXK):Prop:=((H61 (near,bs,far)/\bs.length<=10)/\(sz y1<=90/\sz u1<=90)/\(sz y2<=90/\sz u2<=90))/\∀ ds:List D,ds.length<=30->(∀ d∈ds,ua (near,bs,far) d)->R (.vl ds) M
def vV:DSp:=λds M R Y=>∃(bs:List (Str × Rat)) (near far y1 u1 y2 u2:Rat),ds=[.vl<|bs.map i8,.vl [d6 near,d6 far],.vl [o7 y1 u1,o7 y2 u2]]/\V9 bs near far y1 u1 y2 u2 M R Y
def kS:vV [.vl<|bs.map i8,.vl [d6 near,d6 far],.vl [o7 y1 u1,o7 y2 u2]] M R Y=(V9 bs near far y1 u1 y2 u2 M R Y):=by exact propext ⟨λz=>by obtain⟨_,_,_,_,_,_,_,_,_⟩:=z;rw[11],λh=>⟨_,_,_,_,_,_,_,rfl,h⟩⟩
end GM
open GM
open Lean.Parser.Command in
set_option hygiene false in
local macro_rules|`(command|$_:declModifiers $d:example)=>do
 let b:=d.raw[1][0].getArgs.toList
 let s:=λ(x:Lean.Syntax)=>x.getId.toString false
 let q:=λ(x:Lean.Syntax)=>(Lean.Syntax.mkStrLit (s x):Lean.Term)
 let t:=d.raw[1][1][0][1]
 let i:=λ(x:Lean.Syntax)=>(⟨Lean.mkNode ``declId #[x,Lean.mkNullNode]⟩:Lean.TSyntax ``declId)
 match b.takeWhile (·.isIdent),t[1].getArgs.toList with
 |x::y::f::p,u::g::h=>
  let l:=Lean.Syntax.mkStrLit (" ".intercalate ((p++(b.dropWhile (·.isIdent)).drop 1).map s))
  let v:=(p.map q).toArray
  let f:=q f
  let c<-`(command|abbrev $(i x):declId:Prop:=Fn P w K U J $f $(⟨u⟩) [$v,*] $(⟨t[0]⟩))
  let w<-h.foldrM (λx b=>`($(⟨x⟩) P w K U J->$b)) (<- `($(⟨x⟩) P w K U J))
  let r<-h.foldrM (λx b=>`(λ$(⟨x⟩):ident=>$b)) (<- `(by rw[0,$l:str];($(⟨d.raw[2][1][1]⟩):tacticSeq)))
  let e<-`(command|def $(i y):declId:Txt K U w.params->Df K U $f (top $(⟨g⟩)) [$v,*]->$w:term:=λT d=>$r)
  return Lean.mkNullNode #[c,e]
 |_,_=>Lean.Macro.throwUnsupported
namespace K61
open PyProof.Rows hiding St
local macro_rules|`(tactic| rw[])=>do
 let f:=λ(b:Bool) (p:String) (s:String)=>((s.splitOn " ").mapM (λs=>(let i:=Lean.mkIdent (p++s).toName;if b then `(Lean.Parser.Tactic.simpLemma| ↓$i:ident)else `(Lean.Parser.Tactic.simpLemma| $i:ident))):Lean.MacroM _)
 let a := "z_C Wu Ws Wj Wi Wh Wf Fq QJ QL Wt Qr FW Qq FE Wy QA Qs FR Qk Qv FV WB FG Qn FQ Qo AJ Ay Fl Az uM QK Qp FD QM Qu QB QC Qi Qh Qg Qe FJ FU uT FC AI AK pO uL kX Fz uO uQ AU Fh QE QH AQ AR Qj AD Fx Fw uP AO AA AF AG AE Fy QF QI FK FL Wx xV Fu AH AS iy pN kW pM VR VQ VP VO VN VM VL VJ VI VH PL PK PJ Wb Wa VZ VY VX VW VV VU VT VS Qb Qa PZ kU kT xU Fg Ff Fe PX PV PR PQ PN PM FT Fv AL Qy Fc Fd FN FO Qz Qx Qm Fj Fs AB Ft Qt Ax uN pP Qc QG FA FH FI uS uR AM uU WA Fp Fo Fm QD FP Ql Fi"
 let b := "Fb EZ EY Av Au As Aw uK EW kS EV EU ET uJ pL uI pK Ar uH kR ES Aq kQ cV pJ uG uF kP pI Ap Ao An jI uE Am uD PY uC pH ER Al uB pG Ak EO Aj Ai pF uA EN EM Ah uz uy Ag Af ux uw pE Ae uv uu pD pC Ad EL EK pB ur EJ EI EH kO kN pA EG kM uq kL cU pw pq EF Ac Ab EE uo um Aa pk zZ zY uk uj ED zX iu iq ui zW pj uh zV ug uf ue ud ph pf eW rQ V9 gy rP rO rN eV mh bj eU bh ko eR V8 rM kn V7 L9 bg eQ gw eP V6 bc km ki kg eO ke eM BG eL ba kc rL eK aZ jZ rK jY jX rJ aY eJ rH rG jW eI eG jV jU eF eD aX jT eC eB aW aV jS rF rE aU eA V5 V4 aT rB V3 eu V2 et aS aR rA jR jQ rz eo ee aQ jP jO dZ dY jN rq"
 let xs:=((<- f true "DL." a)++(<- f true "GM." b)++(<- f false "GM." b)++(<- f false "DL." a)++(<- f false "" "DL.My DL.Ms DL.Mh DL.LY DL.Mz DL.Mt DL.Mi DL.LZ DL.MA DL.Mu DL.Mj DL.Md DL.MB DL.Mv DL.Ml DL.Me DL.MC DL.Mw DL.Mm DL.Mf DL.MD DL.Mx DL.Mn DL.Mg DL.LL DL.LR DL.LM DL.LS DL.LN DL.LU DL.LO DL.LV DL.LP DL.LW DL.LQ DL.LX GM.Mo GM.Mp GM.Mq GM.Mr Nat.reduceAdd Nat.reduceLT Nat.reduceLeDiff a4V Int.reduceLT Int.reduceLE Int.reduceEq eq_self decide_true decide_false D.int.injEq D.str.injEq beq_self_eq_true and_self true_and and_true not_true_eq_false not_false_eq_true false_implies true_implies forall_const DL.Wl DL.Wk DL.Wm DL.Wr DL.Wq DL.Wo DL.Wn DL.Wd DL.Wc DL.We DL.Wg a1Z a2R a3T List.nil_append a2g a15 a3D a16 List.getElem?_cons_zero List.getElem?_cons_succ Option.getD_some decide_eq_true_eq decide_eq_false_iff_not a5p Bool.not_eq_false' Bool.and_self a4v Bool.and_true Bool.xor_false Bool.false_xor Bool.true_xor Bool.not_true Bool.not_false a2T Bool.true_eq_false reduceIte GM.r0 GM.r1 GM.r2 GM.r4 GM.rm1 GM.rm2 GM.f8 GM.Tj GM.Ru GM.Xt GM.Ti")).toArray
 let ys:=(<- f false "DL." "Wl Wk Wm Wr Wq Wo Wn Wd Wc We Wg").toArray
 `(tactic| ((try dsimp only [$ys,*]);try simp only[$xs,*]))
local macro_rules|`(tactic| rw[8])=>do
 let i:=λ(s:String)=>Lean.mkIdent s.toName
 let x:=(("f cdv A outer s H E ds M R Y hr h".splitOn " ").map i).toArray
 `(tactic| (refine $(i "i3") $(i "d") $(i "sc") (by rw[12]) (fun $x*=>?_);have $(i "hu"):ident:=$(i "hr.units")))
def ScOf(N:List Str)(_:Df k u x s p)(S:d9 N p (c9 s)):d9 N p (c9 s):=S
local macro_rules|`(tactic| rw[0,$s:str])=>do
 let i:=λ(s:String)=>Lean.mkIdent s.toName
 let x:=(("f cdv A outer s H E ds M R Y hr h".splitOn " ").map i).toArray
 let l:=((s.getString.splitOn " ").map λz=>(⟨(Lean.Syntax.mkStrLit z).raw⟩:Lean.Term)).toArray
 `(tactic| (have $(i "sc"):ident:=$(i "ScOf") [$l,*] $(i "d") (by rw[7]);refine $(i "i3") $(i "d") $(i "sc") (by rw[12]) (fun $x*=>?_);have $(i "hu"):ident:=$(i "hr.units")))
local macro_rules|`(tactic| rw[12])=>`(tactic| (intro ds M R Y h;repeat(first|exact congrArg a3J h.1|(obtain⟨_,h⟩:=h))))
local macro_rules|`(tactic| rw[13])=>`(tactic| first|omega|grind only[RM.A0,RM.ae,RM.U9,RM.Q1,RM.GB,RM.U8,GM.Q6])
local macro_rules|`(tactic| rw[7])=>`(tactic| exact⟨rfl,rfl,rfl,by rw[0],rfl,by rw[0],by rw[0]⟩)
def top(i:Nat):Stmt:=PySem.Challenge.pw_roundglass_k61_desk_for_ever.main.body.getD i<|.Pass ⟨0,0,0,0⟩
abbrev rp:Stmt:=top 81
abbrev P1:Stmt:=top 24
abbrev D7:Stmt:=top 23
abbrev Bs:Stmt:=top 159
def Bm:d9 ["one","other"] ["one","other"] (c9<|top 25):=by rw[7]
def qM:d9 ["one","other"] ["one","other"] (c9 rp):=by rw[7]
def V1:d9 ["ratios","bottom"] ["ratios","bottom"] (c9 P1):=by rw[7]
def G5:d9 ["ratios","bottom","one"] ["ratios"] (c9 D7):=by rw[7]
def yi:d9 ["bench","k"] ["bench","k"] (c9<|top 133):=by rw[7]
def qX:d9 ["bench","k"] ["bench","k"] (c9<|top 140):=by rw[7]
def jv:d9 ["bench","question","values"] ["bench","question","values"] (c9<|top 144):=by rw[7]
def lH:d9 ["hall","question","values"] ["hall","question","values"] (c9<|top 143):=by rw[7]
def vK:d9 ["self","row","word","values","hall"] ["self","row"] (c9<|Cm (top 145) 1):=by rw[7]
def gv:d9 ["self"] ["self"] (c9<|Cm (top 145) 0):=by rw[7]
def Tb:d9 ["script","cell","pool","bench","mirrors","rays","desk","asked","row","due"] ["script"] (c9 Bs):=by rw[7]
structure Txt(K:a1C)(U:Str->Option Value)(Pm:Params):Prop where
 b_ValueError:U "ValueError" = none
 b_abs:U "abs" = none
 b_any:U "any" = none
 b_bool:U "bool" = none
 b_divmod:U "divmod" = none
 b_enumerate:U "enumerate" = none
 b_int:U "int" = none
 b_isinstance:U "isinstance" = none
 b_len:U "len" = none
 b_list:U "list" = none
 b_max:U "max" = none
 b_min:U "min" = none
 b_range:U "range" = none
 b_reversed:U "reversed" = none
 b_sorted:U "sorted" = none
 b_str:U "str" = none
 b_tuple:U "tuple" = none
 b_zip:U "zip" = none
 sub:Ll K
 o_Desk:PH K "Desk"
 n_Desk__hall:NoA K "Desk" "hall"
 n_Desk__past:NoA K "Desk" "past"
 m_Desk:MkD K "Desk"
 dc_ROWS:PD K Pm U "ROWS" [("put",(.tup [(.str "word"),(.str "number")])),("set",(.tup [(.str "part"),(.str "number")])),("cut",(.tup [(.str "part")])),("near",(.tup [(.str "number")])),("far",(.tup [(.str "number")])),("back",(.tup [])),("bench",(.tup [])),("hall",(.tup [])),("table",(.tup [])),("image",(.tup [(.str "plane")])),("ray",(.tup [(.str "number"),(.str "number")])),("idle",(.tup [(.str "part")])),("round",(.tup [])),("ever",(.tup [(.str "number"),(.str "number")])),("glasses",(.tup []))]
 c_AXIS_RAY:GlD K U "AXIS_RAY" (.tup [(.tup [(.int 0),(.int 1)]),(.tup [(.int 1),(.int 1)])])
 c_CHANGES:GlD K U "CHANGES" (.tup [(.str "put"),(.str "set"),(.str "cut"),(.str "near"),(.str "far")])
 c_FIGURES:GlD K U "FIGURES" (.str "0123456789")
 c_FIRST_ROUNDS:GlD K U "FIRST_ROUNDS" (.int 60)
 c_FOUR:GlD K U "FOUR" (.tup [(.int 4),(.int 1)])
 c_LEVEL_RAY:GlD K U "LEVEL_RAY" (.tup [(.tup [(.int 1),(.int 1)]),(.tup [(.int 0),(.int 1)])])
 c_MOST_BETWEEN:GlD K U "MOST_BETWEEN" (.int 8)
 c_MOST_FIGURES:GlD K U "MOST_FIGURES" (.int 300)
 c_MOST_PARTS:GlD K U "MOST_PARTS" (.int 12)
 c_NOUGHT:GlD K U "NOUGHT" (.tup [(.int 0),(.int 1)])
 c_OF_HALLS:GlD K U "OF_HALLS" (.tup [(.str "hall"),(.str "round"),(.str "ever")])
 c_ONE:GlD K U "ONE" (.tup [(.int 1),(.int 1)])
 c_PART_WORDS:GlD K U "PART_WORDS" (.tup [(.str "gap"),(.str "glass"),(.str "stop")])
 c_SELF:GlD K U "SELF" (.tup [(.tup [(.int 1),(.int 1)]),(.tup [(.int 0),(.int 1)]),(.tup [(.int 0),(.int 1)]),(.tup [(.int 1),(.int 1)])])
 c_TWO:GlD K U "TWO" (.tup [(.int 2),(.int 1)])
 x_NoPart:ExD K U "NoPart"
 x_TooMany:ExD K U "TooMany"
 kn_GlassError__NoPart:TkN K U "GlassError" "NoPart"
 kn_GlassError__TooMany:TkN K U "GlassError" "TooMany"
 ke_NoPart:Ly K "NoPart"
 ke_TooMany:Ly K "TooMany"
 ki_NoNumber__NoPart_TooMany:IsN K U ["NoNumber"] [("NoPart",false),("TooMany",false)]
 ki_NoPart__NoPart_TooMany:IsN K U ["NoPart"] [("NoPart",true),("TooMany",false)]
 ki_NoPast__NoPart_TooMany:IsN K U ["NoPast"] [("NoPart",false),("TooMany",false)]
 ki_NoRow__NoPart_TooMany:IsN K U ["NoRow"] [("NoPart",false),("TooMany",false)]
 ki_NoText_NoRatio_NoWhole__NoPart_TooMany:IsN K U ["NoText","NoRatio","NoWhole"] [("NoPart",false),("TooMany",false)]
 ki_TooMany__NoPart_TooMany:IsN K U ["TooMany"] [("NoPart",false),("TooMany",true)]
 kb_ValueError__NoPart_TooMany:IsR K [.type "ValueError"] [("NoPart",true),("TooMany",true)]
section
variable (P w K U J)
example jh wJ may_have word number:Rm 1 40:=by obtain⟨w,q,rfl,k⟩:=h;refine⟨_,(b9 (g7 (jtm n9 (b7 0) f9) (c6<|c8<|jm IP (jx (b7 1) c5) c5) f6)<|b9 (g7 (jtm n9 (b7 0) f9) (c6<|c8<|jm cE (jx (b7 1) c5) c5) f6)<|c6<|c8<|jm n9 (b7 0) f9),?_⟩;rw[];grind[wX]
example fB sA part_with word number:Rg 2 134 jh:=by obtain⟨w,q,rfl,hm,k⟩:=h;refine⟨_,(b9 (g7 (O4<|p7<|jc jh hr<|a9 (b7 0)<|a9 (b7 1) b8) (c6 m6) f6)<|c6<|c8<|g6<|a9 (b7 0)<|a9 (b7 1) b8),?_⟩;rw[];exact⟨λz=>a27<|z.symm.trans hm,λ_=>k⟩
example JP Uk put bench word number _ part:Hw 3 135 fB:=by obtain⟨bs,w,q,rfl,⟨hl,hm⟩,k⟩:=h;refine⟨_,(b9 (jst 3 sc.nd (jc fB hr<|a9 (b7 1)<|a9 (b7 2) b8))<|b9 (g7 (jtm IP (l6 K2 rfl T.b_len B3<|a9 (b7 0) b8)<|i9 rfl T.c_MOST_PARTS) (c6 m6) f6)<|c6<|c8<|D8 (b7 0)<|u5<|a9 (b7 3) b8),?_⟩;rw[];rw[a1H];refine⟨hm,λz=>by omega,λ_=>?_⟩;rw[S1<|by omega];rw[a11]at k;exact k
example U3 gJ changed_bench bench deed values _ k part instead:HI 4 136 JP:=by obtain⟨bs,w,q,rfl,hl,k⟩:=h;refine⟨_,(b9 (g7 (jtm n9 (b7 1) f9) (c6<|c8<|jc JP hr<|a9 (b7 0)<|a9 (jx (b7 2) c5)<|a9 (jx (b7 2) c5) b8) f6)<|b9 m6<|b9 m6<|b9 m6<|c6 m6),?_⟩;rw[];exact⟨hl,k⟩
example nk yC changed hall deed values _ near bench far:Tc 5 137 U3:=by
 obtain⟨near,bs,far,w,vs,rfl,g,hd,k⟩:=h;refine⟨_,(b9 (j7 (b7 0)<|i6 (n:=3) rfl<|c7 (jn 3 sc.nd)<|c7 (jn 4 sc.nd)<|c7 (jn 5 sc.nd) g9)<|b9 (g7 (jtm n9 (b7 1) f9) (c6<|c8<|g6<|a9 (jx (b7 2) c5)<|a9 (b7 4)<|a9 (b7 5) b8) f6)<|b9 (g7 (jtm n9 (b7 1) f9) (c6<|c8<|g6<|a9 (b7 3)<|a9 (b7 4)<|a9 (jx (b7 2) c5) b8) f6)<|c6<|c8<|g6<|a9 (b7 3)<|a9 (jc U3 hr<|a9 (b7 4)<|a9 (b7 1)<|a9 (b7 2) b8)<|a9 (b7 5) b8),?_⟩;rw[];have n1:¬ a1B "put" = a1B "near" := by rw[0]
 have n2:¬ a1B "put" = a1B "far" := by rw[0]
 have n3:¬ a1B "far" = a1B "near" := by rw[0]
 obtain⟨hl,⟨rfl,v,q,rfl,hm,rfl⟩|⟨rfl,q,rfl,rfl⟩|⟨rfl,q,rfl,rfl⟩⟩:=hd
 ·refine⟨λz=>absurd z n1,λ_=>⟨λz=>absurd z n2,λ_=>?_⟩⟩;rw[];exact⟨⟨hl,hm⟩,k⟩
 ·refine⟨λ_=>?_,λz=>absurd rfl z⟩;rw[];exact k
 ·refine⟨λz=>absurd z n3,λ_=>⟨λ_=>?_,λz=>absurd rfl z⟩⟩;rw[];exact k
example G9 yB divisor one other:pW 1 14:=by
 obtain⟨a,b,rfl,k⟩:=h;refine⟨_,(b9 (T6 PassesOwn.never (jtm mI (b7 1) c5)<|c6<|kB (i:=0) (j:=1) rfl sc.nd rfl rfl (by decide) rfl rfl<|a9 (b7 1)<|a9 (e6 iX (b7 0)<|b7 1) b8)<|c6<|c8<|b7 0),?_⟩;rw[];refine fX (λm e M'=>M'=M/\∃ u:Nat,e=[some<|.int u,some<|.int m]/\a2i u m=a2i a b) b ⟨rfl,a,rfl,rfl⟩ ?_;rintro v e M' ⟨rfl,u,rfl,hg⟩;rw[];refine⟨λh0=>⟨by omega,u % v,a40 _<|by omega,v,rfl,by rw[<- RM.xo u v (by omega)];exact hg⟩,λh0=>?_⟩;obtain rfl:v=0:=by omega
 rw[Nat.gcd_zero_right]at hg;subst hg;exact k
example aC wL is_whole thing:Bh 1 13:=by obtain⟨n,rfl,k⟩:=h;refine⟨_,(c6<|c8<|Cf (l6 (xD T.sub) rfl T.b_isinstance m8<|a9 (b7 0)<|a9 (xc rfl T.b_int zy) b8)<|kC<|OI<|l6 (xD T.sub) rfl T.b_isinstance m8<|a9 (b7 0)<|a9 (xc rfl T.b_bool Po) b8),?_⟩;rw[];exact k
example aD wM is_ratio thing _ top bottom:BH 2 15 G9 aC:=by
 obtain⟨a,b,rfl,k⟩:=h;have k:R (.bl<|decide (1<=b) && decide (a2i a.natAbs b.natAbs=1)) M:=k;refine⟨_,(b9 (g7 (F5<|T8 (O4<|p7<|l6 (xD T.sub) rfl T.b_isinstance m8<|a9 (b7 0)<|a9 (xc rfl T.b_tuple xE) b8)<|Q9<|jtm mI (l6 K2 rfl T.b_len B3<|a9 (b7 0) b8) c5) (c6<|c8 jb) f6)<|b9 (j7 (b7 0)<|i6 (n:=2) rfl<|c7 (jn 1 sc.nd)<|c7 (jn 2 sc.nd) g9)<|b9 (g7 (F5<|T8 (O4<|p7<|jc aC hr<|a9 (b7 1) b8)<|T8 (O4<|p7<|jc aC hr<|a9 (b7 2) b8)<|Q9<|jtm gO (b7 2) c5) (c6<|c8 jb) f6)<|c6<|c8<|jm Y4 (jc G9 hr<|a9 (l6 cz rfl T.b_abs R7<|a9 (b7 1) b8)<|a9 (b7 2) b8) c5),?_⟩;rw[];refine⟨λh=>absurd rfl h,λ_=>⟨λh=>?_,λh=>?_⟩⟩
 ·rw[decide_eq_false (show ¬ 1<=b by omega),a43]at k;exact k
 ·obtain⟨n,rfl⟩:=a4B (show 0<=b by omega);rw[decide_eq_true (show 1<=(n:Int)by omega),a4v]at k;have k:=k;refine⟨_,_,rfl,?_⟩;rw[];rw[show decide (((a2i a.natAbs n:Nat):Int)=1)=decide (a2i a.natAbs n=1)from decide_eq_decide.mpr<|by omega];exact k
example aF mG are_figures text:Rq 1 120:=by
 obtain⟨s,rfl,hs,k⟩:=h;refine⟨_,(b9 (g7 (F5<|T8 (jtm Y4 (l6 KY rfl T.b_len B3<|a9 (b7 0) b8) c5)<|T8 (jtm cE (l6 KY rfl T.b_len B3<|a9 (b7 0) b8)<|i9 rfl T.c_MOST_FIGURES)<|Q9<|p7<|l6 (YC rfl) rfl T.b_any Vo<|a9 (u3 [] ["sign"] [] rfl (by rw[0]) rfl (by rw[0]) (by rw[0]) rfl O9 O9 (OF<|b7 0) (λ_ _ _ _ _ _=>(jn 0 (show(["sign"]:List Str).Nodup by rw[0]))) (λ_ _ _ _ _ _=>n8) λ_ _ _ _ _ _=>(jm IL (b7 0)<|i9 rfl T.c_FIGURES)) b8) (c6<|c8 jb) f6)<|c6<|c8<|Jm (jm n9 (b7 0) f9)<|kC<|jm wQ (UE (b7 0) c5) f9),?_⟩;rw[];have hl:=A7 s;have sl:=qH hs;have no:∀ M',R6 (sg s)=false->M'=M->R (D.bl false) M':=λM' h e=>by rw[e,<- h];exact k
 refine⟨sl,λh0=>no M ?_ rfl,λh0=>⟨sl,λh1=>no M ?_ rfl,λh1=>?_⟩⟩
 ·simp_all [W7,decide_eq_false,sg]
 ·rw[W7];rw[decide_eq_false (show ¬ (sg s).length<=300 by omega),a3j];rfl
 refine o9 (xs:=sg s) (λc=>.bl<|!isF c) (by omega) trivial (λc hc Q hQ=>?_) ?_
 ·rw[];rw[UY];exact hQ
 have em:(sg s).map (λc=>D.bl<|!isF c)=((sg s).map λc=>!isF c).map D.bl:=by simp
 rw[em];show UU [_] M _;rw[xV];rw[];have ea:((sg s).map λc=>!isF c).any id = !(sg s).all isF:=by rw[List.any_map,List.all_eq_not_any_not,Bool.not_not];rfl
 have d1:decide ((sg s).length≠0)=true:=decide_eq_true (by omega);have d2:decide ((sg s).length<=300)=true:=decide_eq_true (by omega);refine⟨λh=>no M ?_ rfl,λh=>?_⟩
 ·simp_all [W7,a3j,sg,isF]
 ·have hf:(sg s).all isF=true:=by
   cases hc:(sg s).all isF with
   | true=>rfl
   | false=>(have h9:=h;rw[ea,hc]at h9;cases h9)
  have z0:sg (a1B "0")=[48]:=by rfl
  refine⟨λe=>?_,λe=>?_⟩
  ·have e2:sg s=[48]:=by rw[e];exact z0
   have:R6 (sg s)=true:=by rw[e2];decide
   rw[<- this];exact k
  ·have ne:sg s≠[48]:=λe2=>e (lA<|e2.trans z0.symm)
   cases hc:sg s with
   | nil=>rw[hc]at hl;exact absurd hl.symm<|by show ¬ s.length=0;omega
   | cons c r =>
    have g0:s.cps[(0:Int).toNat]? = some c:=by rw[<- Array.getElem?_toList];show(sg s)[0]? = _;rw[hc];rfl
    refine OV (by decide) (by decide) g0 ?_;rw[];have:R6 (sg s) = !decide ((⟨#[c]⟩)=a1B "0"):=by rw[W7];rw[d1,d2,hf,decide_eq_false ne,hc];simp_all [a1B,sg]
    rw[<- this];exact k
example bV oy read_whole text:Ht 2 121 aF:=by
 obtain⟨s,rfl,hs,k⟩:=h;refine⟨_,(b9 (g7 (p7<|jc aF hr<|a9 (b7 0) b8) (c6<|c8<|D9 KZ rfl T.b_int zy<|a9 (b7 0) b8) f6)<|b9 (g7 (F5<|R3 (jtm n9 (yN (b7 0) E6<|B5 c5) f9)<|R3 (p7<|jc aF hr<|a9 (yN (b7 0) (B5 c5) E6) b8)<|N0<|jtm wQ (b7 0) f9) (c6<|c8<|R0<|D9 KZ rfl T.b_int zy<|a9 (yN (b7 0) (B5 c5) E6) b8) f6)<|c6<|c8 A8),?_⟩;rw[];have sl:=qH hs;have m0:sg (a1B "-")=[45]:=by rfl
 have e1:sg (Txt.slice s none<|some 1)=(sg s).take 1:=WW s 1;have e2:sg (Txt.slice s (some 1) none)=(sg s).drop 1:=MX s 1;refine⟨hs,λh=>⟨_,CB h,by rw[<- A7];have:=(kH h).1;omega,by rw[BP h]at k;exact k⟩,λh=>⟨sl,λe=>?_,λe=>?_⟩⟩
 ·have e3:(sg s).take 1=[45]:=by rw[<- e1,e,m0]
  obtain⟨r,hr⟩:=Gw.mp e3;have e4:sg (Txt.slice s (some 1) none)=r:=by rw[e2,hr];rfl
  rw[hr]at h k;rw[Nv h]at k;refine⟨sl,a1N (Txt.slice_le s _ _) hs,?_⟩;have q0:s=a1B "-0" ↔ r=[48]:=by rw[WX,hr,show sg (a1B "-0")=[45,48]by rw[0]];simp
  refine⟨λh1=>⟨λh2=>⟨sl,_,CB h1,by rw[<- A7];have:=(kH h1).1;omega,?_⟩,λh2=>?_⟩,λh1=>?_⟩
  ·rw[e4]at h1 ⊢;rw[h1,decide_eq_true (show r≠[48]from λz=>h2<|q0.mpr z)]at k;exact k
  ·rw[decide_eq_false λz=>z<|q0.mp h2,a3j]at k;exact k
  ·rw[e4]at h1;rw[h1]at k;exact k
 ·rw[Tg h λz=>e<|lA<|by rw[e1,z,m0]]at k;exact k
example bW oz read_ratio text _ top_text slash bottom_text told:Hu 3 122 aD bV:=by
 obtain⟨s,rfl,q,hq,hs,k⟩:=h;refine⟨_,(b9 (g7 (O4<|p7<|l6 (xD T.sub) rfl T.b_isinstance m8<|a9 (b7 0)<|a9 (xc rfl T.b_str O7) b8) (c6 m6) f6)<|b9 (j7 (Jo PySem.F.slot_str_partition PySem.F.type_str_partition sT wb (b7 0)<|a9 f9 b8)<|i6 (n:=3) rfl<|c7 (jn 1 sc.nd)<|c7 (jn 2 sc.nd)<|c7 (jn 3 sc.nd) g9)<|b9 (jst 4 sc.nd (g6<|a9 (jc bV hr<|a9 (b7 1) b8)<|a9 (F7 (jtm n9 (b7 2) f9) (jc bV hr<|a9 (b7 3) b8) c5) b8))<|b9 (g7 (F5<|T8 (O4<|p7<|jc aD hr<|a9 (b7 4) b8)<|Q9<|jtm n9 (b7 3) f9) (c6 m6) f6)<|c6<|c8<|b7 4),?_⟩;rw[];have sl:a1B "/" = ⟨#[47]⟩:=by rfl
 rw[sl];obtain⟨p1,p2,p3⟩:=NR s 47;obtain⟨c1,c2⟩:=Pj 47 (sg s);rw[A7]at c1 c2;rw[p1,p2,p3];obtain⟨n,d,r1,r2,r3,r4,rfl⟩:=HZ hq;have ne:(Txt.partition s ⟨#[47]⟩).2.2=a1B "1" -> False:=λh=>r4 (by rw[<- p3,h];rw[0]);have fin:BH [D.tup [.int n,.int d]] M (λx M'=>BlK x M' λc M1=>(c=false->False)/\(c=true->((Txt.partition s ⟨#[47]⟩).2.2=a1B "1" -> False)/\(¬(Txt.partition s ⟨#[47]⟩).2.2=a1B "1" -> R (D.tup [.int n,.int d]) M1))) Y0:=by rw[jI];unfold eO;rw[r3,Th r3];rw[];exact⟨ne,λ_=>k⟩
 rw[r1];refine⟨by decide,qH hs,by rw[<- A7,p1];omega,λh=>⟨by rw[<- A7,p3];omega,?_⟩,λh=>?_⟩
 ·cases hb:(G2 47 (sg s)).2.1 with
  | true=>rw[hb,if_pos rfl]at r2;rw[r2];exact fin
  | false=>rw[hb]at h;exact absurd h<|by rw[0]
 ·cases hb:(G2 47 (sg s)).2.1 with
  | true=>rw[hb]at h;exact absurd rfl h
  | false=>rw[hb]at r2;cases r2;exact fin
example az mC read_number text:Hv 4 130 bW:=by obtain⟨t,rfl,hl,q,hq,k⟩:=h;refine⟨_,(c6<|Jk rfl<|c6<|c8<|jc bW hr<|a9 (b7 0) b8),?_⟩;rw[];exact⟨q,hq,hl,k⟩
example fw sv read_word form text _ number:Rc 5 131 az:=by
 obtain⟨f,t,rfl,v,⟨hl,k0⟩,k⟩:=h;refine⟨_,(b9 (g7 (jtm n9 (b7 0) f9) (b9 (g7 (jtm Oo (b7 1)<|i9 rfl T.c_PART_WORDS) (c6 m6) f6)<|c6<|c8<|b7 1) f6)<|b9 (g7 (F5<|R3 (jtm n9 (b7 0) f9)<|N0<|jtm n9 (b7 1) f9) (c6<|c8 A8) f6)<|b9 (jst 2 sc.nd (jc az hr<|a9 (b7 1) b8))<|b9 (g7 (jtm wQ (b7 0) f9) (c6<|c8<|b7 2) f6)<|b9 (g7 (F5<|T8 (jtm mI (jx (b7 2) c5) c5)<|Q9<|jtm gO (jx (b7 2) c5) c5) (c6 m6) f6)<|c6<|c8<|jx (b7 2) c5),?_⟩;rw[];have pn:¬ a1B "part" = a1B "number" := by rw[0]
 have wn:¬ a1B "number" = a1B "word" := by rw[0]
 have wp:¬ a1B "part" = a1B "word" := by rw[0]
 have wl:¬ a1B "plane" = a1B "word" := by rw[0]
 have ln:¬ a1B "number" = a1B "plane" := by rw[0]
 have lp:¬ a1B "part" = a1B "plane" := by rw[0]
 have hl:=hl;rcases k0 with⟨e1,hw,e3⟩|⟨e1,q,hq,e3⟩|⟨e1,n,hq,e3⟩
 ·obtain rfl:f=_:=e1
  have e3:v = .str t:=e3;subst e3;have hw:=hw;refine⟨λ_=>?_,λz=>absurd rfl z⟩;have iw:inV (.str t) [.str<|a1B "gap",.str<|a1B "glass",.str<|a1B "stop"]=true:=by
   have hb:∀ a,(a == t)=decide (t=a):=λa=>by rw[a3n,beq_iff_eq,decide_eq_true_eq];exact eq_comm
   show((a1B "gap" == t) || ((a1B "glass" == t) || ((a1B "stop" == t) || false)))=_;rw[hb,hb,hb,Bool.or_false,<- Bool.or_assoc];exact hw
  refine⟨.str t,[D.str<|a1B "gap",D.str<|a1B "glass",D.str<|a1B "stop"],[.str<|a1B "gap",.str<|a1B "glass",.str<|a1B "stop"],rfl,by simp only[u9],rfl,?_⟩;rw[iw];exact⟨λz=>a27 z,λ_=>k⟩
 ·obtain rfl:f=_:=e1;obtain rfl:v=_:=e3;exact⟨λz=>absurd z wn,λ_=>⟨λz=>absurd z ln,λ_=>⟨hl,q,hq,λ_=>k,λz=>absurd z.symm pn⟩⟩⟩
 ·obtain rfl:f=_:=e1;obtain rfl:v=_:=e3;refine⟨λz=>absurd z wp,λ_=>⟨λz=>absurd z lp,λ_=>⟨hl,n,hq,λz=>absurd rfl z,λ_=>⟨λz=>absurd (rfl) z,λ_=>⟨λz=>?_,λ_=>k⟩⟩⟩⟩⟩;have:((n:Rat)).num=n:=rfl;omega
example jg wG read_row row _ words:BC 6 132 fw:=by
 obtain⟨s,rfl,w,xs,row,k⟩:=h;refine⟨_,(b9 (g7 (O4<|p7<|l6 (xD T.sub) rfl T.b_isinstance m8<|a9 (b7 0)<|a9 (xc rfl T.b_str O7) b8) (c6 m6) f6)<|b9 (jst 1 sc.nd (Jn rfl PySem.F.slot_str_split (b7 0)<|a9 f9 b8))<|b9 (g7 (F5<|T8 (yM T.dc_ROWS rfl<|jx (b7 1) c5)<|Q9<|jtm mI (l6 K2 rfl T.b_len B3<|a9 (b7 1) b8)<|e6 F0 c5<|l6 K2 rfl T.b_len B3<|a9 (xg T.dc_ROWS rfl (jx (b7 1) c5) λ_ _=>rfl) b8) (c6 m6) f6)<|c6<|c8<|g6<|a9 (jx (b7 1) c5)<|a9 (u3 [] ["form","text"] [] rfl (by rw[0]) rfl (by rw[0]) (by rw[0]) rfl O9 O9 (kA rfl T.b_zip<|a9 (xg T.dc_ROWS rfl (jx (b7 1) c5) λ_ _=>rfl)<|a9 (O0 (b7 1) (B5 c5) E6) b8) (λ_ _ _ _ _ _=>(i6 (n:=2) rfl<|c7 (jn 0 (show(["form","text"]:List Str).Nodup by rw[0]))<|c7 (jn 1 (show(["form","text"]:List Str).Nodup by rw[0])) g9)) (λ_ _ _ _ _ _=>n8) λ_ _ _ _ _ _=>(jc fw hr<|a9 (b7 0)<|a9 (b7 1) b8)) b8),?_⟩;rw[];have sl:=B4;have hl:=row.len;refine⟨by rw[0],by omega,?_⟩;have hr:=row.rows;unfold vW at hr;rw[row.sp,a1Z];rw[];rw[hr];have tl:=row.few;have to:=row.ok;refine⟨λz=>a27 z,λ_=>⟨_,rfl,?_⟩⟩;rw[];rw[a1H,a1H,a1H,a1H];refine⟨λz=>absurd (by omega) z,λ_=>⟨_,rfl,?_⟩⟩;have ec:DL.X2 (D.str w :: a3g D.str (a3g (λx=>x.2.1) xs)) (some 1) none=a3g D.str (a3g (λx=>x.2.1) xs):=by rw[show(1:Int)=((1:Nat):Int)from rfl,KD];rfl
 rw[ec];rw[];rw[LI];refine o9 (λx=>x.2.2) (by omega) (by simp only[u9,j5,and_self]) (λx hx Q hQ=>?_) k;rw[];exact⟨_,to x hx,hQ⟩
abbrev bw:Prop:=Fn P w K U J "less" 1 ["one","other"] GQ
def Of(T:Txt K U w.params)(d:Df K U "less" (top 25) ["one","other"]):bw P w K U J:=by have sc:=Bm;rw[8];obtain⟨q,r,rfl,hz,k⟩:=h;refine⟨_,(c6<|c8<|jm gO (e6 j0 (jx (b7 0) c5)<|jx (b7 1) c5)<|e6 j0 (jx (b7 1) c5)<|jx (b7 0) c5),?_⟩;rw[];rw[<- RM.XM]at k;exact⟨mND hz,mND<|by omega,k⟩
example K0 IG ratio top bottom _ share:vm 2 16 G9 aC:=by
 obtain⟨a,b,rfl,hb,hl,k⟩:=h;refine⟨_,(b9 (g7 (F5<|T8 (O4<|p7<|jc aC hr<|a9 (b7 0) b8)<|T8 (O4<|p7<|jc aC hr<|a9 (b7 1) b8)<|Q9<|jtm Y4 (b7 1) c5) (c6 m6) f6)<|b9 (jst 2 sc.nd (jc G9 hr<|a9 (l6 cz rfl T.b_abs R7<|a9 (b7 0) b8)<|a9 (l6 cz rfl T.b_abs R7<|a9 (b7 1) b8) b8))<|b9 (g7 (jtm gO (b7 1) c5) (c6<|jst 2 sc.nd (R0<|b7 2)) f6)<|c6<|c8<|g6<|a9 (e6 B7 (b7 0)<|b7 2)<|a9 (e6 B7 (b7 1)<|b7 2) b8),?_⟩;rw[];have hn:=JC (a:=a) hb;have hlg:=Cp (a:=a) hb hl;refine⟨hb,λ_=>⟨λh1=>?_,λh1=>?_⟩⟩
 ·have c1:∀ i,CFd i (-((a2i a.natAbs b.natAbs:Nat))):=λi=>⟨by omega,by rw[a2u];exact hlg⟩;exact⟨c1 _,c1 _,sV hb (by rw[if_pos h1]) k⟩
 ·exact⟨⟨hn,hlg⟩,⟨hn,hlg⟩,sV hb (by rw[if_neg h1]) k⟩
example F8 IE times one other:Bi 3 21 K0:=by obtain⟨q,r,rfl,hz,k⟩:=h;refine⟨_,(c6<|c8<|jc K0 hr<|a9 (e6 j0 (jx (b7 0) c5)<|jx (b7 1) c5)<|a9 (e6 j0 (jx (b7 0) c5)<|jx (b7 1) c5) b8),?_⟩;rw[];rw[RM.IX]at k;exact⟨mNN hz,mDD hz,a20 (RM.K8 q)<|RM.K8 r,lDD hz,k⟩
example ni II grown ray share:HF 4 36 F8:=by obtain⟨y,u,g,rfl,⟨h1,h2⟩,k⟩:=h;refine⟨_,(c6<|c8<|g6<|a9 (jc F8 hr<|a9 (jx (b7 0) c5)<|a9 (b7 1) b8)<|a9 (jc F8 hr<|a9 (jx (b7 0) c5)<|a9 (b7 1) b8) b8),?_⟩;rw[];exact⟨by omega,by omega,k⟩
example bu Od over one other:GO 3 22 K0:=by obtain⟨q,r,rfl,h0,hz,k⟩:=h;refine⟨_,(c6<|c8<|jc K0 hr<|a9 (e6 j0 (jx (b7 0) c5)<|jx (b7 1) c5)<|a9 (e6 j0 (jx (b7 0) c5)<|jx (b7 1) c5) b8),?_⟩;rw[];rw[RM.Kj]at k;exact⟨mND hz,mDN hz,a20 (RM.K8 q)<|Ur h0,lDN hz,k⟩
example qr DI sum_by p q ray _ y u top:Bx 1 63:=by obtain⟨p,q,y,u,rfl,hz,k⟩:=h;refine⟨_,(b9 (j7 (b7 2)<|i6 (n:=2) rfl<|c7 (jn 3 sc.nd)<|c7 (jn 4 sc.nd) g9)<|b9 (jst 5 sc.nd (e6 F0 (e6 j0 (e6 j0 (e6 j0 (jx (b7 0) c5)<|jx (b7 3) c5)<|jx (b7 1) c5)<|jx (b7 4) c5)<|e6 j0 (e6 j0 (e6 j0 (jx (b7 1) c5)<|jx (b7 4) c5)<|jx (b7 0) c5)<|jx (b7 3) c5))<|c6<|c8<|g6<|a9 (b7 5)<|a9 (e6 j0 (e6 j0 (e6 j0 (jx (b7 0) c5)<|jx (b7 3) c5)<|jx (b7 1) c5)<|jx (b7 4) c5) b8),?_⟩;rw[];exact⟨j9 _ _ (A6 p) (A6 y)<|by omega,j9 _ _ (Y6 (A6 p)<|A6 y) (u8 q)<|by omega,j9 _ _ (Y6 (Y6 (A6 p)<|A6 y)<|u8 q) (u8 u)<|by omega,j9 _ _ (A6 q) (A6 u)<|by omega,j9 _ _ (Y6 (A6 q)<|A6 u) (u8 p)<|by omega,j9 _ _ (Y6 (Y6 (A6 q)<|A6 u)<|u8 p) (u8 y)<|by omega,j9 _ _ (u8 p) (u8 y)<|by omega,j9 _ _ (Y6 (u8 p)<|u8 y) (u8 q)<|by omega,j9 _ _ (Y6 (Y6 (u8 p)<|u8 y)<|u8 q) (u8 u)<|by omega,k⟩
example av wu value_of p q ray _ top bottom:QX 3 89 K0 qr:=by obtain⟨p,q,y,u,rfl,hz,k⟩:=h;refine⟨_,(b9 (j7 (jc qr hr<|a9 (b7 0)<|a9 (b7 1)<|a9 (b7 2) b8)<|i6 (n:=2) rfl<|c7 (jn 3 sc.nd)<|c7 (jn 4 sc.nd) g9)<|c6<|c8<|jc K0 hr<|a9 (b7 3)<|a9 (b7 4) b8),?_⟩;rw[];have b:=Vq p q y u;refine⟨by omega,Vp p q y u,a1F (v6 (D2 b (show _<=8001 by omega))<|by decide)<|by decide,?_⟩;rw[MS];exact k
example W6 Oc plus one other:GN 3 19 K0:=by obtain⟨q,r,rfl,hz,k⟩:=h;refine⟨_,(c6<|c8<|jc K0 hr<|a9 (e6 F0 (e6 j0 (jx (b7 0) c5)<|jx (b7 1) c5)<|e6 j0 (jx (b7 1) c5)<|jx (b7 0) c5)<|a9 (e6 j0 (jx (b7 0) c5)<|jx (b7 1) c5) b8),?_⟩;rw[];rw[RM.Lh]at k;exact⟨mND hz,mND<|by omega,mDD hz,a20 (RM.K8 q)<|RM.K8 r,lDD hz,k⟩
abbrev br:Prop:=Fn P w K U J "veer" 1 ["one","other"] QW
def NY(T:Txt K U w.params)(d:Df K U "veer" rp ["one","other"]):br P w K U J:=by have sc:=qM;rw[8];obtain⟨a,b,rfl,⟨ha,hb⟩,k⟩:=h;unfold sdD;refine⟨_,(c6<|c8<|e6 J7 (e6 j0 (jx (b7 0) c5)<|jx (b7 1) c5)<|e6 j0 (jx (b7 0) c5)<|jx (b7 1) c5),?_⟩;rw[];exact⟨j9 _ _ ha.p hb.q<|by decide,j9 _ _ ha.q hb.p<|by decide,k⟩
example qt DM met_at one other _ bottom y u:Xh 3 87 K0 br:=by obtain⟨a,b,rfl,⟨ha,hb,hv⟩,k⟩:=h;refine⟨_,(b9 (jst 2 sc.nd (jc br hr<|a9 (b7 0)<|a9 (b7 1) b8))<|b9 (jst 3 sc.nd (jc K0 hr<|a9 (e6 J7 (e6 j0 (jx (b7 0) c5)<|jx (b7 1) c5)<|e6 j0 (jx (b7 1) c5)<|jx (b7 0) c5)<|a9 (b7 2) b8))<|b9 (jst 4 sc.nd (jc K0 hr<|a9 (e6 J7 (e6 j0 (jx (b7 0) c5)<|jx (b7 1) c5)<|e6 j0 (jx (b7 1) c5)<|jx (b7 0) c5)<|a9 (b7 2) b8))<|c6<|c8<|g6<|a9 (b7 3)<|a9 (b7 4) b8),?_⟩;rw[];have lv:(veZ a b).natAbs.log2<9000:=a1F (v6 (ha.ve hb)<|by decide) (by decide);refine⟨⟨ha,hb⟩,j9 _ _ ha.r hb.q<|by decide,j9 _ _ hb.r ha.q<|by decide,hv,lv,j9 _ _ ha.p hb.r<|by decide,j9 _ _ hb.p ha.r<|by decide,hv,lv,?_⟩;rw[<- HM]at k;exact k
abbrev cK:Prop:=Fn P w K U J "veer" 1 ["one","other"] Hm
def yy(T:Txt K U w.params)(d:Df K U "veer" rp ["one","other"]):cK P w K U J:=by have sc:=qM;rw[8];obtain⟨a,x,y,rfl,⟨ha,hw⟩,k⟩:=h;unfold sdD;refine⟨_,(c6<|c8<|e6 J7 (e6 j0 (jx (b7 0) c5)<|jx (b7 1) c5)<|e6 j0 (jx (b7 0) c5)<|jx (b7 1) c5),?_⟩;rw[];exact⟨j9 _ _ ha.p hw.2<|by decide,j9 _ _ ha.q hw.1<|by decide,k⟩
abbrev cJ:Prop:=Fn P w K U J "veer" 1 ["one","other"] Hk
def yx(T:Txt K U w.params)(d:Df K U "veer" rp ["one","other"]):cJ P w K U J:=by have sc:=qM;rw[8];obtain⟨x,y,b,rfl,⟨hb,hw⟩,k⟩:=h;unfold sdD;refine⟨_,(c6<|c8<|e6 J7 (e6 j0 (jx (b7 0) c5)<|jx (b7 1) c5)<|e6 j0 (jx (b7 0) c5)<|jx (b7 1) c5),?_⟩;rw[];exact⟨j9 _ _ hw.1 hb.q<|by decide,j9 _ _ hw.2 hb.p<|by decide,k⟩
example gV DN facing side _ p q r number scale:Xj 1 79:=by obtain⟨a,rfl,k⟩:=h;unfold sdD;refine⟨_,(b9 (j7 (b7 0)<|i6 (n:=5) rfl<|c7 (jn 1 sc.nd)<|c7 (jn 2 sc.nd)<|c7 (jn 3 sc.nd)<|c7 (jn 4 sc.nd)<|c7 (jn 5 sc.nd) g9)<|c6<|c8<|g6<|a9 (R0<|b7 1)<|a9 (R0<|b7 2)<|a9 (b7 3)<|a9 (b7 4)<|a9 (R0<|b7 5) b8),?_⟩;rw[];exact k
example Z2 jD sides_around half wanted _ rim found one other:Xn 2 90 cJ cK gV:=by
 obtain⟨half,x,y,rfl,⟨hl,hs,hw⟩,k⟩:=h;refine⟨_,(b9 (jst 2 sc.nd (D8 (b7 0)<|u3 [] ["side"] [] rfl (by rw[0]) rfl (by rw[0]) (by rw[0]) rfl O9 O9 (n6<|b7 0) (λ_ _ _ _ _ _=>(jn 0 (show(["side"]:List Str).Nodup by rw[0]))) (λ_ _ _ _ _ _=>n8) λ_ _ _ _ _ _=>(jc gV hr<|a9 (b7 0) b8)))<|b9 (jst 3 sc.nd A8)<|b9 (p8 PassesOwn.never rfl (kA rfl T.b_zip<|a9 (b7 2)<|a9 (D8 (O0 (b7 2) (B5 c5) E6)<|O0 (b7 2) E6<|B5 c5) b8) (i6 (n:=2) rfl<|c7 (jn 4 sc.nd)<|c7 (jn 5 sc.nd) g9)<|c6<|g7 (F5<|R3 (jtm IP (jc cK hr<|a9 (b7 4)<|a9 (b7 1) b8) c5)<|N0<|jtm cE (jc cJ hr<|a9 (b7 1)<|a9 (b7 5) b8) c5) (c6<|jst 3 sc.nd (g6<|a9 (b7 4)<|a9 (b7 5) b8)) f6)<|c6<|c8<|b7 3),?_⟩;rw[];refine o9 (λs=>sdD<|m9 s) (by omega) (by simp only[j5]) (λs hm Q hQ=>?_) ?_
 ·rw[];exact hQ
 have em:half.map (λs=>sdD<|m9 s)=(half.map m9).map sdD:=by rw[a2k];rfl
 rw[em];rw[];have hrl:(jy half).length<=60:=by unfold jy;rw[a1V,a1H];omega
 have hrs:∀ s∈jy half,SzS s:=λs hm=>by
  rcases a10.mp hm with hm|hm
  ·exact hs s hm
  ·obtain⟨t,ht,rfl⟩:=a17.mp hm;obtain⟨a,b,c⟩:=hs t ht;exact⟨by show(-t.1).natAbs<_;rw[a2u];exact a,by show(-t.2.1).natAbs<_;rw[a2u];exact b,c⟩
 have l1:(a3g sdD half).length+(a3g sdD<|a3g m9 half).length<=60:=by rw[a1H,a1H,a1H];omega
 have k:R (NU<|(jF<|jy half).foldl (fU (x,y)) none) M:=k;rw[S1<|by omega,Nt];generalize jy half=rm at *
 have c1:DL.X2 (rm.map sdD) (some 1) none=(rm.drop 1).map sdD:=by rw[show(1:Int)=((1:Nat):Int)from rfl,Ph,List.map_drop]
 have c2:DL.X2 (rm.map sdD) none (some 1)=(rm.take 1).map sdD:=by rw[show(1:Int)=((1:Nat):Int)from rfl,tK,a4D]
 rw[c1,c2,S1<|by rw[a1H,a1H,a2F,a2q];omega,<- a11,Ey];have ez:rm.zip (rm.drop 1++rm.take 1)=jF rm:=rfl;rw[ez];refine R9.by (λi e M'=>M'=M/\∃ z4 z5:Option D,e=[some<|D.vl<|a3g sdD half,some<|D.vl [D.int x,D.int y],some<|D.vl<|rm.map sdD,some<|NU<|((jF rm).take i).foldl (fU (x,y)) none,z4,z5]) ⟨rfl,_,_,rfl⟩ (λi e M' _ _=>by simp only[j5,and_self]) ?_ ?_
 ·rintro i dd e M' hd ⟨rfl,z4,z5,rfl⟩
  rw[a1S]at hd;cases hq:(jF rm)[i]? with
  | none=>rw[hq]at hd;cases hd
  | some ab =>
   rw[hq]at hd;obtain rfl:=Option.some.inj hd;have e1:((jF rm).take<|i+1).foldl (fU (x,y)) none=fU (x,y) (((jF rm).take i).foldl (fU (x,y)) none) ab:=by rw[a2B,hq,a3d];rfl
   have hm:=a1K hq;obtain⟨ha,hb⟩:ab.1∈rm/\ab.2∈rm:=by
    have hz:=a30 (show(ab.1,ab.2)∈rm.zip (rm.drop 1++rm.take 1)from hm);refine⟨hz.1,?_⟩;rcases a10.mp hz.2 with h|h
    ·exact a3Y h
    ·exact a2L h
   rw[e1];generalize ((jF rm).take i).foldl (fU (x,y)) none=f at *
   rw[];unfold fU;refine⟨⟨hrs _ ha,hw⟩,λh1=>⟨⟨hrs _ hb,hw⟩,λh2=>⟨some<|sdD ab.1,some<|sdD ab.2,?_⟩,λh2=>⟨some<|sdD ab.1,some<|sdD ab.2,?_⟩⟩,λh1=>⟨some<|sdD ab.1,some<|sdD ab.2,?_⟩⟩
   ·rw[if_pos ⟨h1,h2⟩];rfl
   ·rw[if_neg λz=>h2 z.2]
   ·rw[if_neg λz=>h1 z.1]
 ·rw[a1H,a2l];rintro e M' ⟨rfl,z4,z5,rfl⟩;rw[];exact k
abbrev Z1:Prop:=Fn P w K U J "tops_over" 1 ["ratios","bottom"] Ho
def jC(T:Txt K U w.params)(d:Df K U "tops_over" P1 ["ratios","bottom"]):Z1 P w K U J:=by
 have sc:=V1;rw[8];obtain⟨p,q,c,rfl,⟨⟨h1,h2⟩,rfl⟩,k⟩:=h;refine⟨_,(c6<|c8<|u3 [1] ["one"] ["bottom"] rfl (by rw[0]) rfl (by rw[0]) (by rw[0]) rfl (N7 ⟨rfl,rfl⟩) (N7<|Or.inl rfl) (n6<|b7 0) (λ_ _ _ _ _ _=>(jn 0 (show(["one","bottom"]:List Str).Nodup by rw[0]))) (λ_ _ _ _ _ _=>n8) λ_ _ _ _ _ _=>(e6 j0 (jx (b7 0) c5)<|e6 B7 (b7 1)<|jx (b7 0) c5)),?_⟩;rw[];refine o9 (xs:=[p,q]) (λr=>.int<|cB r<|cb2 p q) (by simp) (by simp only[u9]) (λr hr Q hQ=>?_) k;have hrz:sz r<=1100:=by grind
 have d0:=r.den_pos;have hd:=l5 r hrz;have ef:((cb2 p q:Nat):Int).fdiv (r.den:Int)=((cb2 p q / r.den:Nat)):=by rw[E1 (by omega)<|by omega];rfl
 rw[];rw[ef];exact⟨⟨by omega,a1F (v6 (by assumption)<|by decide)<|by decide⟩,j9 1100 2200 (u4 r hrz) (by rw[a1G];exact a1R (a2Z _ _)<|KQ h1 h2) (by decide),hQ⟩
abbrev L7:Prop:=Fn P w K U J "common_bottom" 2 ["ratios"] Xl
def bG(T:Txt K U w.params)(d:Df K U "common_bottom" D7 ["ratios"])(ZZ:G9 P w K U J):L7 P w K U J:=by
 have sc:=G5;rw[8];obtain⟨p,q,rfl,⟨h1,h2⟩,k⟩:=h;refine⟨_,(b9 (jst 1 sc.nd c5)<|b9 (p8 PassesOwn.never rfl (n6<|b7 0) (jn 2 sc.nd)<|c6<|jst 1 sc.nd (e6 j0 (e6 B7 (b7 1)<|jc ZZ hr<|a9 (b7 1)<|a9 (jx (b7 2) c5) b8)<|jx (b7 2) c5))<|c6<|c8<|b7 1),?_⟩;rw[];refine R9.by (λi e M'=>M'=M/\∃ z:Option D,e=[some<|o7 p q,some<|.int ((([p,q].take i).foldl (λc q=>B8 c q.den) 1:Nat):Int),z]) ⟨rfl,_,rfl⟩ (λi e M' _ h=>by rw[h.1];simp only[u9]) ?_ ?_
 ·rintro i dd e M' hd ⟨rfl,z,rfl⟩
  obtain⟨r,hr,hrz,hi,rfl⟩:∃ r:Rat,[p,q][i]? = some r/\sz r<=1100/\i<2/\dd=d6 r:=by
   have hi:i<2:=(a1I.mp hd).1;rcases(show i=0\/i=1 by omega)with rfl|rfl
   ·cases hd;exact⟨p,rfl,h1,hi,rfl⟩
   ·cases hd;exact⟨q,rfl,h2,hi,rfl⟩
  have e1:([p,q].take<|i+1).foldl (λc q=>B8 c q.den) 1=B8 (([p,q].take i).foldl (λc q=>B8 c q.den) 1) r.den:=by rw[a2B,hr,a3d];rfl
  have hc:0<([p,q].take i).foldl (λc q=>B8 c q.den) 1/\([p,q].take i).foldl (λc q=>B8 c q.den) 1<2 ^ 1101:=by
   rcases(show i=0\/i=1 by omega)with rfl|rfl
   ·exact⟨Nat.one_pos,Nat.one_lt_two_pow<|by decide⟩
   ·refine⟨by show 0<B8 1 p.den;rw[ky];exact a4y (by decide) p.den_pos,?_⟩;show B8 1 p.den<_;have:=J2 1 p.den;exact a1R (by omega)<|D2 (l5 p h1)<|by decide
  have hd2:r.den<2 ^ 1100:=l5 r hrz;rw[e1];obtain⟨hc0,hb⟩:=hc;generalize ([p,q].take i).foldl (λc q=>B8 c q.den) 1=c at *
  have g0:0<a2i c r.den:=a3z _ r.den_pos;have g1:a2i c r.den<2 ^ 1100:=a1R (a5e r.den_pos<|a4r _ _) hd2;have ef:(c:Int).fdiv (a2i c r.den:Nat)=((c / a2i c r.den:Nat):Int):=by rw[E1 (by omega)<|by omega];rfl
  rw[];rw[ef];refine⟨⟨by omega,a1F (v6 (by rw[a1G];exact g1)<|by decide)<|by decide⟩,?_,some<|d6 r,?_⟩
  ·exact j9 1101 1100 (by rw[a1G];exact a1R (a2Z _ _) hb) (by rw[a1G];exact hd2) (by decide)
  ·unfold B8;rw[a3F]
 ·rintro e M' ⟨rfl,z,rfl⟩;rw[];exact k
example aB mD most_around half p q _ bottom wanted one other of_one of_other whole value shares:Rj 4 91 qt K0 br cK cJ Z2 Z1 L7:=by
 obtain⟨half,p,q,rfl,⟨⟨hl,hs⟩,⟨hp,hq⟩,a,b,ea,⟨sa,sb⟩,hv,hn,ca,cb⟩,k⟩:=h;have wz:=YQ hp hq;refine⟨_,(b9 (jst 3 sc.nd (jc L7 hr<|a9 (g6<|a9 (b7 1)<|a9 (b7 2) b8) b8))<|b9 (jst 4 sc.nd (jc Z1 hr<|a9 (g6<|a9 (b7 1)<|a9 (b7 2) b8)<|a9 (b7 3) b8))<|b9 (j7 (jc Z2 hr<|a9 (b7 0)<|a9 (b7 4) b8)<|i6 (n:=2) rfl<|c7 (jn 5 sc.nd)<|c7 (jn 6 sc.nd) g9)<|b9 (jst 7 sc.nd (jc cJ hr<|a9 (b7 4)<|a9 (b7 6) b8))<|b9 (jst 8 sc.nd (jc cK hr<|a9 (b7 5)<|a9 (b7 4) b8))<|b9 (jst 9 sc.nd (e6 j0 (b7 3)<|jc br hr<|a9 (b7 5)<|a9 (b7 6) b8))<|b9 (jst 10 sc.nd (jc K0 hr<|a9 (e6 F0 (e6 j0 (b7 7)<|jx (b7 5) c5)<|e6 j0 (b7 8)<|jx (b7 6) c5)<|a9 (b7 9) b8))<|b9 (jst 11 sc.nd (u5<|a9 (g6<|a9 (jx (b7 5) c5)<|a9 (jc K0 hr<|a9 (e6 j0 (b7 7)<|jx (b7 5) c5)<|a9 (b7 9) b8) b8)<|a9 (g6<|a9 (jx (b7 6) c5)<|a9 (jc K0 hr<|a9 (e6 j0 (b7 8)<|jx (b7 6) c5)<|a9 (b7 9) b8) b8) b8))<|c6<|c8<|g6<|a9 f9<|a9 (b7 10)<|a9 (jc qt hr<|a9 (b7 5)<|a9 (b7 6) b8)<|a9 (aq<|l6 KW rfl T.b_sorted Er<|a9 (u3 [] ["pair"] [] rfl (by rw[0]) rfl (by rw[0]) (by rw[0]) rfl O9 O9 (n6<|b7 11) (λ_ _ _ _ _ _=>(jn 0 (show(["pair"]:List Str).Nodup by rw[0]))) (λ_ _ _ _ _ _=>(N9<|jtm (IM hu) (jx (b7 0) c5)<|i9 rfl T.c_NOUGHT)) λ_ _ _ _ _ _=>(b7 0)) b8) b8),?_⟩;rw[];refine⟨⟨hp,hq⟩,⟨hp,hq⟩,⟨hl,hs,wz⟩,?_⟩;have ea':xH half ((wtF p q).1,(wtF p q).2)=some (a,b):=ea;rw[ea'];unfold NU;rw[];have k:R (match xH half (wtF p q)with|none=>ij.free (0,0)|some (a,b)=>.most (vlF a b (wtF p q)<|cb2 p q) (ry (tri a)<|tri b) (shF a b (wtF p q)<|cb2 p q):ij).toD M:=k;rw[ea]at k;have c0:=tQ p q;have cl:=KQ hp hq;have vl:=sa.ve sb;have w1:(wVe (wtF p q) b).natAbs<2 ^ 3401:=by have h1:=h7 wz.1 sb.q;have h2:=h7 wz.2 sb.p;unfold wVe;have:=a4p ((wtF p q).1*b.2.1)<|(wtF p q).2*b.1;rw[show 3401=2200+1200+1 from rfl,a4h];omega
 have w2:(veW a<|wtF p q).natAbs<2 ^ 3401:=by have h1:=h7 sa.p wz.2;have h2:=h7 sa.q wz.1;unfold veW;have:=a4p (a.1*(wtF p q).2)<|a.2.1*(wtF p q).1;rw[show 3401=1200+2200+1 from rfl,a4h];omega
 have wn:(((cb2 p q:Nat):Int)*veZ a b).natAbs<2 ^ 4601:=by have:=h7 (a:=((cb2 p q:Nat):Int)) (by rw[a1G];exact cl) vl;exact this
 have w0:((cb2 p q:Nat):Int)*veZ a b≠0:=a20 (by omega) (by omega);have wl:(((cb2 p q:Nat):Int)*veZ a b).natAbs.log2<9000:=a1F (v6 wn<|by decide) (by decide);refine⟨⟨sb,wz⟩,⟨sa,wz⟩,⟨sa,sb⟩,j9 2200 2401 (by rw[a1G];exact cl) vl (by decide),j9 _ _ w1 sa.r<|by decide,j9 _ _ w2 sb.r<|by decide,w0,wl,?_⟩;refine⟨.int a.2.2.2.1,rfl,.int a.2.2.2.2,rfl,j9 _ _ w1 ca<|by decide,?_⟩;show vm [.int<|wVe (wtF p q) b*a.2.2.2.2,.int<|((cb2 p q:Nat):Int)*veZ a b] M _ Y0;rw[];refine⟨w0,wl,.int b.2.2.2.1,rfl,.int b.2.2.2.2,rfl,j9 _ _ w2 cb<|by decide,?_⟩;show vm [.int<|veW a (wtF p q)*b.2.2.2.2,.int<|((cb2 p q:Nat):Int)*veZ a b] M _ Y0;rw[];refine⟨w0,wl,⟨sa,sb,by omega⟩,?_⟩;have eS:∀(n:Int) (r:Rat),D.tup [.int n,d6 r]=shD (n,r):=λ_ _=>rfl;refine B2 (xs:=[(a.2.2.2.1,a2r (wVe (wtF p q) b*a.2.2.2.2)<|((cb2 p q:Nat):Int)*veZ a b),(b.2.2.2.1,a2r (veW a (wtF p q)*b.2.2.2.2)<|((cb2 p q:Nat):Int)*veZ a b)]) (enc:=shD) (λs=>decide (s.2≠0)) shD (by show 2<=1000;decide) (by simp only[j5]) (λs hs Q N h1 h2=>?_) ?_
 ·unfold shD at h1 ⊢;rw[];exact⟨λh=>h1<|decide_eq_true h,λh=>h2<|decide_eq_false λz=>z h⟩
 ·have k:R (.tup [.str "most",d6<|vlF a b (wtF p q)<|cb2 p q,rD<|ry (tri a)<|tri b,.vl<|(shF a b (wtF p q)<|cb2 p q).map shD]) M:=k
  unfold shF at k;have two:∀ fs:List (Int × Rat),(fs.length<2 \/ ∃ x y,fs=[x,y]/\x.1≠y.1)->R (.tup [.str "most",d6<|vlF a b (wtF p q)<|cb2 p q,rD<|ry (tri a)<|tri b,.vl<|(GH fs).map shD]) M->XW [.vl<|fs.map shD] M λx M1=>Lv x M1 λx M1=>R (.tup [.str "most",d6<|vlF a b (wtF p q)<|cb2 p q,rD<|ry (tri a)<|tri b,x]) M1:=λfs hf kf=>by
   refine⟨_,fs.map shD,rfl,rfl,?_⟩;rcases hf with hf|⟨x,y,rfl,hne⟩
   ·have es:GH fs=fs:=by
     match fs,hf with
     | [],_=>rfl
     | [_],_=>rfl
    rw[es]at kf
    exact .inl ⟨by rw[a1H];exact hf,λad had=>Lu had kf⟩
   ·refine .inr ⟨x.1,y.1,[d6 x.2],[d6 y.2],rfl,hne,λad had=>Lu had ?_⟩
    have kf:R (.tup [.str "most",d6<|vlF a b (wtF p q)<|cb2 p q,rD<|ry (tri a)<|tri b,.vl<|(if y.1<x.1 then[y,x]else[x,y]).map shD]) M:=kf;by_cases c:y.1<x.1
    ·rw[if_pos c]at kf ⊢;exact kf
    ·rw[if_neg c]at kf ⊢;exact kf
  refine two _ ?_ k;generalize a2r (wVe (wtF p q) b*a.2.2.2.2) (((cb2 p q:Nat):Int)*veZ a b)=r1;generalize a2r (veW a (wtF p q)*b.2.2.2.2) (((cb2 p q:Nat):Int)*veZ a b)=r2;by_cases q1:r1=0
  ·left;rw[a2X<|by simp[q1]];exact a1R (a2w _ _)<|by show 1<2;decide
  ·by_cases q2:r2=0
   ·left;rw[a2m<|by simp[q1],a2X<|by simp[q2]];show 1<2;decide
   ·right;refine⟨(a.2.2.2.1,r1),(b.2.2.2.1,r2),?_,hn⟩;rw[a2m<|by simp[q1],a2m<|by simp[q2]];rfl
example J9 wx unsigned one:QS 1 18:=by obtain⟨q,rfl,k⟩:=h;refine⟨_,(c6<|c8<|g6<|a9 (l6 cz rfl T.b_abs R7<|a9 (jx (b7 0) c5) b8)<|a9 (jx (b7 0) c5) b8),?_⟩;rw[];exact k
example E8 wI opposite one:QR 1 17:=by obtain⟨q,rfl,k⟩:=h;refine⟨_,(c6<|c8<|g6<|a9 (R0<|jx (b7 0) c5)<|a9 (jx (b7 0) c5) b8),?_⟩;rw[];exact k
example U1 IH minus one other:Bj 4 20 W6 E8:=by obtain⟨q,r,rfl,hz,k⟩:=h;refine⟨_,(c6<|c8<|jc W6 hr<|a9 (b7 0)<|a9 (jc E8 hr<|a9 (b7 1) b8) b8),?_⟩;rw[];rw[a5d]at k;exact⟨by rw[RM.Q1];exact hz,k⟩
example xp IJ cross one other _ y u z w:BM 5 35 U1 F8:=by obtain⟨y,u,z,w,rfl,hz,k⟩:=h;refine⟨_,(b9 (j7 (b7 0)<|i6 (n:=2) rfl<|c7 (jn 2 sc.nd)<|c7 (jn 3 sc.nd) g9)<|b9 (j7 (b7 1)<|i6 (n:=2) rfl<|c7 (jn 4 sc.nd)<|c7 (jn 5 sc.nd) g9)<|c6<|c8<|jc U1 hr<|a9 (jc F8 hr<|a9 (b7 2)<|a9 (b7 5) b8)<|a9 (jc F8 hr<|a9 (b7 4)<|a9 (b7 3) b8) b8),?_⟩;rw[];have m1:=RM.A0 y w;have m2:=RM.A0 z u;exact⟨by omega,by omega,by omega,k⟩
example bZ oG most_along lines number p q _ own_p own_q r bend share value ray:Ri 6 92 ni bu av F8 J9 E8 xp:=by
 obtain⟨ls,n,p,q,rfl,l,j,rfl,hj,ok,hpq,⟨hp,hq⟩,k⟩:=h;have z1:=ok.p6;have z2:=ok.q6;have z3:=ok.r6;have r0:=ok.pos;have ne:=ok.ne;refine⟨_,(b9 (j7 (jx (b7 0)<|b7 1)<|i6 (n:=3) rfl<|c7 (jn 4 sc.nd)<|c7 (jn 5 sc.nd)<|c7 (jn 6 sc.nd) g9)<|b9 (jst 7 sc.nd (jc xp hr<|a9 (g6<|a9 (b7 4)<|a9 (b7 5) b8)<|a9 (g6<|a9 (b7 2)<|a9 (b7 3) b8) b8))<|b9 (g7 (jtm gO (jx (b7 7) c5) c5) (c6<|c8<|g6<|a9 f9<|a9 (g6<|a9 (b7 5)<|a9 (jc E8 hr<|a9 (b7 4) b8) b8) b8) f6)<|b9 (g7 (jtm cE (jx (b7 7) c5) c5) (c6<|c8<|g6<|a9 f9<|a9 (g6<|a9 (jc E8 hr<|a9 (b7 5) b8)<|a9 (b7 4) b8) b8) f6)<|b9 (jst 8 sc.nd (F7 (jtm (Y5 hu) (b7 4)<|i9 rfl T.c_NOUGHT) (jc bu hr<|a9 (b7 3)<|a9 (b7 5) b8)<|jc bu hr<|a9 (b7 2)<|a9 (b7 4) b8))<|b9 (jst 9 sc.nd (jc F8 hr<|a9 (jc J9 hr<|a9 (b7 8) b8)<|a9 (b7 6) b8))<|b9 (jst 10 sc.nd (jc ni hr<|a9 (g6<|a9 (b7 2)<|a9 (b7 3) b8)<|a9 (jc bu hr<|a9 (b7 9)<|a9 (jc av hr<|a9 (b7 2)<|a9 (b7 3)<|a9 (g6<|a9 (b7 2)<|a9 (b7 3) b8) b8) b8) b8))<|c6<|c8<|g6<|a9 f9<|a9 (b7 9)<|a9 (b7 10)<|a9 (u5<|a9 (g6<|a9 (b7 1)<|a9 (b7 8) b8) b8) b8),?_⟩;rw[];refine⟨j4 l,by show atI (ls.map j4) (j:Int)=_;rw[fT<|by rw[a1S,hj];rfl],?_⟩;rw[];have sq:=yd hpq;have a3:=RM.A0 p p;have a4:=RM.A0 q q;have a5:=RM.ae (p*p)<|q*q;rw[iY,IS];unfold J1 at k;refine⟨by omega,λc1=>?_,λc1=>⟨λc2=>?_,λc2=>⟨λc3=>?_,λc3=>?_⟩⟩⟩
 ·rw[if_pos c1]at k;exact k
 ·rw[if_neg c1,if_pos c2]at k;exact k
 ·have n2:l.2.1≠0:=λw=>ne ⟨c3,w⟩;have a1:=RM.Q3 q l.2.1 n2;have a2:=Q6<|q / l.2.1;have a6:=RM.A0 (k9<|q / l.2.1) l.2.2;have a7:=RM.Q3 (k9 (q / l.2.1)*l.2.2) (p*p+q*q)<|cF sq;rw[if_neg c1,if_neg c2,if_pos c3]at k;exact⟨n2,by omega,by omega,by omega,cF sq,by omega,⟨by omega,by omega⟩,k⟩
 ·have a1:=RM.Q3 p l.1 c3;have a2:=Q6<|p / l.1;have a6:=RM.A0 (k9<|p / l.1) l.2.2;have a7:=RM.Q3 (k9 (p / l.1)*l.2.2) (p*p+q*q)<|cF sq;rw[if_neg c1,if_neg c2,if_neg c3]at k;exact⟨c3,by omega,by omega,by omega,cF sq,by omega,⟨by omega,by omega⟩,k⟩
example Cv NZ turn one other third:QY 2 82 br:=by obtain⟨a,b,c,rfl,⟨ha,hb,hc⟩,k⟩:=h;refine⟨_,(c6<|c8<|e6 F0 (e6 J7 (e6 j0 (jx (b7 0) c5)<|jc br hr<|a9 (b7 1)<|a9 (b7 2) b8)<|e6 j0 (jx (b7 1) c5)<|jc br hr<|a9 (b7 0)<|a9 (b7 2) b8)<|e6 j0 (jx (b7 2) c5)<|jc br hr<|a9 (b7 0)<|a9 (b7 1) b8),?_⟩;rw[];have v1:=ha.ve hb;have v2:=ha.ve hc;have v3:=hb.ve hc;exact⟨⟨hb,hc⟩,j9 _ _ ha.r v3<|by decide,⟨ha,hc⟩,j9 _ _ hb.r v2<|by decide,⟨ha,hb⟩,j9 _ _ hc.r v1<|by decide,k⟩
example fG sF next_side sides here _ found side bend:Xg 3 85 br Cv:=by
 obtain⟨ss,g,rfl,⟨hg,hz⟩,k⟩:=h;refine⟨_,(b9 (jst 2 sc.nd A8)<|b9 (p8 PassesOwn.never rfl (n6<|b7 0) (jn 3 sc.nd)<|c6<|g7 (jtm cE (jc br hr<|a9 (b7 1)<|a9 (b7 3) b8) c5) (b9 (jst 4 sc.nd (F7 (jtm XH (b7 2) A8) (R0 c5)<|jc Cv hr<|a9 (b7 1)<|a9 (b7 2)<|a9 (b7 3) b8))<|c6<|g7 (F5<|T8 (jtm gO (b7 4) c5)<|Q9<|F5<|R3 (jtm Y4 (b7 4) c5)<|N0<|jtm cE (jc br hr<|a9 (b7 2)<|a9 (b7 3) b8) c5) (c6<|jst 2 sc.nd (b7 3)) f6) f6)<|c6<|c8<|b7 2),?_⟩;rw[];refine R9.by (λi e M'=>M'=M/\(∀ f,(ss.take i).foldl (Z5 g) none=some f->SzS f)/\∃ z3 z4:Option D,e=[some<|.vl<|ss.map sdD,some<|sdD g,some<|wq<|(ss.take i).foldl (Z5 g) none,z3,z4]) ⟨rfl,λf z=>(by cases z),_,_,rfl⟩ (λi e M' _ h=>by rw[h.1];simp only[j5]) ?_ ?_
 ·rintro i dd e M' hd ⟨rfl,hf,z3,z4,rfl⟩
  rw[a1S]at hd;cases hq:ss[i]? with
  | none=>rw[hq]at hd;cases hd
  | some t =>
   rw[hq]at hd;obtain rfl:=Option.some.inj hd;have ht:=hz t<|a1K hq;have e1:(ss.take<|i+1).foldl (Z5 g) none=Z5 g ((ss.take i).foldl (Z5 g) none) t:=by rw[a2B,hq,a3d];rfl
   rw[e1];generalize (ss.take i).foldl (Z5 g) none=f at *
   rw[];refine⟨⟨hg,ht⟩,λz=>?_,λz=>?_⟩
   ·cases f with
    | none =>
     have en:Z5 g none t=some t:=by unfold Z5;rw[if_pos z];rfl
     rw[en,show wq none=D.non from rfl,cW (b:=true) rfl];rw[];refine⟨λf' hf'=>by cases hf';exact ht,_,_,rfl⟩
    | some f =>
     have hff:=hf f rfl;rw[show wq (some f)=sdD f from rfl,cW (b:=false) rfl];rw[];refine⟨⟨hg,hff,ht⟩,?_⟩;have en:∀ b:Bool,Pr g (some f) t=b->Z5 g (some f) t=if b=true then some t else some f:=λb hb=>by unfold Z5;rw[if_pos z,hb]
     have done:∀ b:Bool,Pr g (some f) t=b->(∀ f',Z5 g (some f) t=some f'->SzS f')/\wq (Z5 g (some f) t)=if b=true then sdD t else sdD f:=λb hb=>by
      rw[en b hb];cases b with
      | true=>exact⟨λf' h=>by cases h;exact ht,rfl⟩
      | false=>exact⟨λf' h=>by cases h;exact hff,rfl⟩
     refine⟨λz1=>?_,λz1=>⟨λz2=>⟨⟨hff,ht⟩,λz3=>?_,λz3=>?_⟩,λz2=>?_⟩⟩
     ·obtain⟨q1,q2⟩:=done true (by show(decide _ || _)=true;rw[decide_eq_true z1];rfl);exact⟨q1,some<|sdD t,some<|.int<|tnZ g f t,by rw[q2];rfl⟩
     ·obtain⟨q1,q2⟩:=done true (by show(decide _ || (decide _ && decide _))=true;rw[decide_eq_true z2,decide_eq_true z3,a2S];exact .inr rfl);exact⟨q1,some<|sdD t,some<|.int<|tnZ g f t,by rw[q2];rfl⟩
     ·obtain⟨q1,q2⟩:=done false (by show(decide _ || (decide _ && decide _))=false;rw[decide_eq_false z1,decide_eq_false z3,a3j];rfl);exact⟨q1,some<|sdD t,some<|.int<|tnZ g f t,by rw[q2];rfl⟩
     ·obtain⟨q1,q2⟩:=done false (by show(decide _ || (decide _ && decide _))=false;rw[decide_eq_false z1,decide_eq_false z2];rfl);exact⟨q1,some<|sdD t,some<|.int<|tnZ g f t,by rw[q2];rfl⟩
   simp_all [if_neg,Z5]
 ·rintro e M' ⟨rfl,hf,z3,z4,rfl⟩;rw[];rw[a1H,a2l];exact k
example fH sH juts_more one other _ more:Ro 1 83:=by obtain⟨a,b,rfl,⟨ha,hb⟩,k⟩:=h;refine⟨_,(b9 (jst 2 sc.nd (e6 J7 (e6 j0 (jx (b7 0) c5)<|jx (b7 1) c5)<|e6 j0 (jx (b7 1) c5)<|jx (b7 0) c5))<|b9 (g7 (jtm Y4 (b7 2) c5) (c6<|jst 2 sc.nd (e6 J7 (e6 j0 (jx (b7 0) c5)<|jx (b7 1) c5)<|e6 j0 (jx (b7 1) c5)<|jx (b7 0) c5)) f6)<|c6<|c8<|jm cE (b7 2) c5),?_⟩;rw[];refine⟨j9 _ _ ha.p hb.r<|by decide,j9 _ _ hb.p ha.r<|by decide,λz=>⟨j9 _ _ ha.q hb.r<|by decide,j9 _ _ hb.q ha.r<|by decide,?_⟩,λz=>?_⟩;all_goals simp_all [if_pos,if_neg,T5]
example fD sC outermost sides _ found side:Rh 2 84 fH:=by
 obtain⟨ss,rfl,⟨s,r,e⟩,hz,k⟩:=h;have e0:ss.headD (0,0,0,0,0)=s:=by rw[e];rfl
 rw[e0]at k;refine⟨_,(b9 (jst 1 sc.nd (jx (b7 0) c5))<|b9 (p8 PassesOwn.never rfl (n6<|b7 0) (jn 2 sc.nd)<|c6<|g7 (p7<|jc fH hr<|a9 (b7 2)<|a9 (b7 1) b8) (c6<|jst 1 sc.nd (b7 2)) f6)<|c6<|c8<|b7 1),?_⟩;rw[];have ei:atI (ss.map sdD) 0=some (sdD s):=by rw[e];exact E3 (n:=0) rfl
 refine⟨_,ei,?_⟩;have hs:SzS s:=hz s (by rw[e];exact a1M);refine R9.by (λi e M'=>M'=M/\∃ z:Option D,e=[some<|.vl<|ss.map sdD,some<|sdD<|G1 (ss.take i) s,z]) ⟨rfl,_,rfl⟩ (λi e M' _ h=>by rw[h.1];simp only[j5]) ?_ ?_
 ·rintro i dd e M' hd ⟨rfl,z,rfl⟩
  rw[a1S]at hd;cases hq:ss[i]? with
  | none=>rw[hq]at hd;cases hd
  | some t =>
   rw[hq]at hd;obtain rfl:=Option.some.inj hd;have ht:=hz t<|a1K hq;have ho:SzS (G1 (ss.take i) s):=by
    rcases fb (ss.take i) s with h|h
    ·rw[h];exact hs
    ·exact hz _<|a2L h
   have e1:G1 (ss.take<|i+1) s=if T5 t (G1 (ss.take i) s)=true then t else G1 (ss.take i) s:=by unfold G1;rw[a2B,hq,a3d];rfl
   rw[e1];rw[];simp_all
 ·rintro e M' ⟨rfl,z,rfl⟩;rw[];rw[a1H,a2l];exact k
abbrev Z0:Prop:=Fn P w K U J "tops_over" 1 ["ratios","bottom"] Hn
def jB(T:Txt K U w.params)(d:Df K U "tops_over" P1 ["ratios","bottom"]):Z0 P w K U J:=by
 have sc:=V1;rw[8];obtain⟨l,c,rfl,⟨hl,rfl⟩,k⟩:=h;refine⟨_,(c6<|c8<|u3 [1] ["one"] ["bottom"] rfl (by rw[0]) rfl (by rw[0]) (by rw[0]) rfl (N7 ⟨rfl,rfl⟩) (N7<|Or.inl rfl) (n6<|b7 0) (λ_ _ _ _ _ _=>(jn 0 (show(["one","bottom"]:List Str).Nodup by rw[0]))) (λ_ _ _ _ _ _=>n8) λ_ _ _ _ _ _=>(e6 j0 (jx (b7 0) c5)<|e6 B7 (b7 1)<|jx (b7 0) c5)),?_⟩;rw[];refine Dc (ds:=[l.1,l.2.1,l.2.2].map d6) (by show A1 M (.tup _) _;rw[u9];rfl) ?_;refine o9 (xs:=[l.1,l.2.1,l.2.2]) (enc:=d6) (λq=>.int<|cB q<|cbL l) (by simp) (by show A1 M (.tup _) _;rw[u9];rfl) (λq hq Q hQ=>?_) k;have hqs:sz q<=1300:=by
  simp only[a1Y,a2x,or_false]at hq;rcases hq with rfl|rfl|rfl
  ·exact hl.p
  ·exact hl.q
  ·exact hl.r
 have d0:=q.den_pos;have hd:q.den<2 ^ 1300:=l5 q hqs;have ef:((cbL l:Nat):Int).fdiv (q.den:Int)=((cbL l / q.den:Nat):Int):=by rw[E1 (by omega)<|by omega];rfl
 rw[];rw[ef];refine⟨⟨by omega,a1F (v6 (by assumption)<|by decide)<|by decide⟩,j9 1300 3901 (u4 q hqs) (by rw[a1G];exact a1R (a2Z _ _) hl.cb) (by decide),hQ⟩
abbrev L6:Prop:=Fn P w K U J "common_bottom" 2 ["ratios"] Xk
def bF(T:Txt K U w.params)(d:Df K U "common_bottom" D7 ["ratios"])(ZZ:G9 P w K U J):L6 P w K U J:=by
 have sc:=G5;rw[8];obtain⟨l,rfl,hl,k⟩:=h;refine⟨_,(b9 (jst 1 sc.nd c5)<|b9 (p8 PassesOwn.never rfl (n6<|b7 0) (jn 2 sc.nd)<|c6<|jst 1 sc.nd (e6 j0 (e6 B7 (b7 1)<|jc ZZ hr<|a9 (b7 1)<|a9 (jx (b7 2) c5) b8)<|jx (b7 2) c5))<|c6<|c8<|b7 1),?_⟩;rw[];refine Dc (ds:=[l.1,l.2.1,l.2.2].map d6) (by show A1 M (.tup _) _;rw[u9];rfl) ?_;refine R9.by (λi e M'=>M'=M/\∃ z:Option D,e=[some<|j4 l,some<|.int ((([l.1,l.2.1,l.2.2].take i).foldl (λc q=>B8 c q.den) 1:Nat):Int),z]) ⟨rfl,_,rfl⟩ (λi e M' _ h=>by rw[h.1];show A1 M (.tup _) _;rw[u9];rfl) ?_ ?_
 ·rintro i dd e M' hd ⟨rfl,z,rfl⟩
  rw[a1S]at hd;cases hq:[l.1,l.2.1,l.2.2][i]? with
  | none=>rw[hq]at hd;cases hd
  | some q =>
   rw[hq]at hd;obtain rfl:=Option.some.inj hd;have e1:([l.1,l.2.1,l.2.2].take<|i+1).foldl (λc q=>B8 c q.den) 1=B8 (([l.1,l.2.1,l.2.2].take i).foldl (λc q=>B8 c q.den) 1) q.den:=by rw[a2B,hq,a3d];rfl
   have hi:=(a1I.mp hq).1;have hqs:sz q<=1300:=by
    have:=a1K hq;simp only[a1Y,a2x,or_false]at this;rcases this with rfl|rfl|rfl
    ·exact hl.p
    ·exact hl.q
    ·exact hl.r
   have hc:0<([l.1,l.2.1,l.2.2].take i).foldl (λc q=>B8 c q.den) 1:=by
    have:∀(xs:List Rat) (c:Nat),0<c->0<xs.foldl (λc q=>B8 c q.den) c:=λxs=>by
     induction xs with
     | nil=>exact λc h=>h
     | cons x xs ih=>exact λc h=>ih _<|by show 0<B8 c x.den;rw[ky];exact a4y h x.den_pos
    exact this _ _<|by decide
   have hd:q.den<2 ^ 1300:=l5 q hqs;rw[e1];have hb:([l.1,l.2.1,l.2.2].take i).foldl (λc q=>B8 c q.den) 1<2 ^ 4000:=by have:=tN ([l.1,l.2.1,l.2.2].take i) 1 1 (λx hx=>hl.all x<|a2L hx) (by decide);refine a1F this (a1X (by decide) ?_);grind
   generalize ([l.1,l.2.1,l.2.2].take i).foldl (λc q=>B8 c q.den) 1=c at *
   have g0:0<a2i c q.den:=a3z _ q.den_pos;have g1:a2i c q.den<2 ^ 1300:=a1R (a5e q.den_pos<|a4r _ _) hd;have ef:(c:Int).fdiv (a2i c q.den:Nat)=((c / a2i c q.den:Nat):Int):=by rw[E1 (by omega)<|by omega];rfl
   rw[];rw[ef];refine⟨⟨by omega,a1F (v6 (by assumption)<|by decide)<|by decide⟩,?_,some<|d6 q,?_⟩
   ·exact j9 4000 1300 (by rw[a1G];exact a1R (a2Z _ _) hb) (by rw[a1G];exact hd) (by decide)
   rfl
 ·rintro e M' ⟨rfl,z,rfl⟩;rw[];exact k
example je wC sides_of lines _ sides number line scale p q r side:vP 3 80 gV Z0 L6:=by
 obtain⟨ls,rfl,hok,k⟩:=h;refine⟨_,(b9 (jst 1 sc.nd (F6 b8))<|b9 (p8 PassesOwn.never rfl (ao rfl T.b_enumerate<|a9 (b7 0) b8) (i6 (n:=2) rfl<|c7 (jn 2 sc.nd)<|c7 (jn 3 sc.nd) g9)<|b9 (jst 4 sc.nd (jc L6 hr<|a9 (b7 3) b8))<|b9 (j7 (jc Z0 hr<|a9 (b7 3)<|a9 (b7 4) b8)<|fm (n:=3) rfl<|c7 (jn 5 sc.nd)<|c7 (jn 6 sc.nd)<|c7 (jn 7 sc.nd) g9)<|b9 (jst 8 sc.nd (g6<|a9 (b7 5)<|a9 (b7 6)<|a9 (b7 7)<|a9 (b7 2)<|a9 (b7 4) b8))<|b9 (v9<|Y8 PySem.F.slot_list_append PySem.F.type_list_append B6 (b7 1)<|a9 (b7 8) b8)<|c6<|v9<|Y8 PySem.F.slot_list_append PySem.F.type_list_append B6 (b7 1)<|a9 (jc gV hr<|a9 (b7 8) b8) b8)<|c6<|c8<|ar<|aq<|b7 1),?_⟩;rw[];intro p hp;refine R9.by (λi e M'=>M'=l9 M p (.lst<|(Z3 0 (ls.take i)).map sdD)/\∃ z0 z2 z3 z4 z5 z6 z7 z8:Option D,e=[z0,some<|.ref p,z2,z3,z4,z5,z6,z7,z8]) ⟨rfl,_,_,_,_,_,_,_,_,rfl⟩ (λi e M' _ _=>by simp only[j5]) ?_ ?_
 ·rintro i dd e M' hd ⟨rfl,z0,z2,z3,z4,z5,z6,z7,z8,rfl⟩
  obtain⟨d,hd2,rfl⟩:=Kd hd;obtain⟨l,hl,rfl⟩:=DU hd2;have hm:=hok.2 l<|a1K hl;have h12:=hok.1;have hi:=(a1I.mp hl).1;rw[];refine⟨hm,hm,?_⟩;have es:D.tup [.int (v7 l 0).1,.int (v7 l 0).2.1,.int (v7 l 0).2.2.1,.int (i:Int),.int ((cbL l:Nat):Int)]=sdD (v7 l i):=rfl;have hln:((Z3 0 (ls.take i)).map sdD).length<=24:=by rw[a1H,jL,a2q];omega
  rw[es];refine K9 f7 (aM f7 (by omega) ?_);rw[O1];refine K9 f7 ?_;rw[];refine aM f7 (by rw[a1V];show _+1<1000;omega) ⟨?_,_,_,_,_,_,_,_,_,rfl⟩;rw[O1,vt ls 0 i l hl,a4V,a11,a2H];rfl
 ·rintro e M' ⟨rfl,z0,z2,z3,z4,z5,z6,z7,z8,rfl⟩;rw[];rw[kY f7,U5 hp];rw[];rw[X0,a1H,a2l];exact⟨_,λ_ _ h=>h,k⟩
example ji wN half_rim lines _ sides half here:BI 4 86 br fG fD je:=by
 obtain⟨ls,rfl,hok,k⟩:=h;have hlo:∀ l∈ls,LineOk l:=λl hl=>(hok.2 l hl).toLineOk;refine⟨_,(b9 (g7 (jtm Y4 (l6 K2 rfl T.b_len B3<|a9 (b7 0) b8) c5) (c6<|c8<|ar<|u5 b8) f6)<|b9 (jst 1 sc.nd (jc je hr<|a9 (b7 0) b8))<|b9 (jst 2 sc.nd (F6<|a9 (jc fD hr<|a9 (b7 1) b8) b8))<|b9 (jst 3 sc.nd (jc fG hr<|a9 (b7 1)<|a9 (jx (b7 2) c5) b8))<|b9 (T6 PassesOwn.never (F5<|R3 (jtm fh (b7 3) A8)<|N0<|jtm cE (jc br hr<|a9 (jx (b7 2) c5)<|a9 (b7 3) b8) c5)<|b9 (v9<|Y8 PySem.F.slot_list_append PySem.F.type_list_append B6 (b7 2)<|a9 (b7 3) b8)<|c6<|jst 3 sc.nd (jc fG hr<|a9 (b7 1)<|a9 (b7 3) b8))<|c6<|c8<|ar<|aq<|b7 2),?_⟩;rw[];refine⟨λh0=>?_,λh0=>?_⟩
 ·have e:ls=[]:=by
   cases ls with
   | nil=>rfl
   | cons a b=>rw[a1H,a15]at h0;omega
  subst e
  exact cT (λ_ _ h=>h) k
 ·have hp:∀ s∈i4 ls,0<s.2.2.1:=Bk hlo (i:=0)
  have hz:∀ s∈i4 ls,SzS s:=Dt hok;have hln:=jL ls 0;have h12:=hok.1;obtain⟨s1,r,es⟩:∃ s r,i4 ls=s :: r:=by
   cases ls with
   | nil=>exact absurd rfl h0
   | cons a b=>exact⟨_,_,rfl⟩
  have hln:(i4 ls).length<=24:=by show(Z3 0 ls).length<=24;omega
  refine⟨hok,⟨s1,r,es⟩,hz,λp hpn=>?_⟩;have eh:(i4 ls).headD (0,0,0,0,0)=s1:=by rw[es];rfl
  rw[eh];have ek:C9 (i4 ls)=G1 (i4 ls) s1 :: Z4 (G1 (i4 ls) s1) (i4 ls) (i4 ls).length (O8 (G1 (i4 ls) s1)<|i4 ls):=by rw[es];rfl
  have m0:G1 (i4 ls) s1∈i4 ls:=by
   rcases fb (i4 ls) s1 with h|h
   ·rw[h,es];exact a1M
   ·exact h
  rw[ek]at k;generalize G1 (i4 ls) s1=h0 at *
  generalize i4 ls=ss at *
  refine⟨_,W2 f7 rfl,?_⟩;rw[];refine⟨⟨hz _ m0,hz⟩,?_⟩;refine fX (λm e M'=>∃(pre:List Sd) (o:Option Sd) (z0:Option D),e=[z0,some<|.vl<|ss.map sdD,some<|.ref p,some<|wq o]/\M'=l9 M p (.lst<|(h0 :: pre).map sdD)/\pre++Z4 h0 ss m o=Z4 h0 ss ss.length (O8 h0 ss)/\pre.length+m<=24/\(∀ f,o=some f->f∈ss)/\∀ f,o=some f->0<veZ h0 f->El h0 ss f<m) ss.length ⟨[],O8 h0 ss,_,rfl,rfl,rfl,by simpa using hln,λf hf=>(N8 hp hf).1,λf hf hv=>a1F (fQ hp hf (.inl rfl) hv)<|KO h0 ss h0⟩ ?_;rintro m e M' ⟨pre,o,z0,rfl,rfl,hr,hlm,ho,hc⟩;have fin:Z4 h0 ss m o=[]->Lv (D.ref p) (l9 M p<|.lst<|(h0 :: pre).map sdD) (λx M1=>VC x M1 R):=λhn=>by rw[hn,a2g]at hr;rw[kY f7,U5 hpn,hr];exact cT (λ_ _ h=>h) k
  cases o with
  | none =>rw[show wq none=D.non from rfl];rw[];rw[cW (b:=true) rfl];rw[];exact fin<|by cases m<;>rfl
  | some f =>
   have hf:=ho f rfl;rw[show wq (some f)=sdD f from rfl];rw[];rw[cW (b:=false) rfl];rw[];refine⟨_,W2 f7<|E3 (n:=0) rfl,?_⟩;rw[];refine⟨⟨hz _ m0,hz _ hf⟩,λhv=>?_,λhv=>?_⟩
   ·have hcm:=hc f rfl hv
    obtain⟨m,rfl⟩:∃ m',m=m'+1:=⟨m - 1,by omega⟩;have er:Z4 h0 ss (m+1) (some f)=f :: Z4 h0 ss m (O8 f ss):=if_pos hv;rw[er]at hr;refine K9 f7<|aM f7 (by rw[a15,a1H];omega) ⟨⟨hz _ hf,hz⟩,m,a24 _,pre++[f],O8 f ss,_,rfl,?_,by rw[a2H];exact hr,by rw[a1V];show pre.length+1+m<=24;omega,λg hg=>(N8 hp hg).1,λg hg hg2=>?_⟩
    ·simp[O1,a11]
    ·have:=fQ hp hg (.inr hv) hg2;omega
   ·refine fin ?_
    cases m with
    | zero=>rfl
    | succ m=>exact if_neg hv
example Cz Oe most lines p q _ half:Rk 7 93 aB bZ ji:=by
 obtain⟨ls,p,q,rfl,⟨hls,hp,hq⟩,k⟩:=h;have hlo:=hls.lo;have hsz:=hls.szs;have hsc:=hls.scale;have hlen:=Jx hlo;have h12:=hls.1;refine⟨_,(b9 (g7 (F5<|R3 (jtm (Y5 hu) (b7 1)<|i9 rfl T.c_NOUGHT)<|N0<|jtm (Y5 hu) (b7 2)<|i9 rfl T.c_NOUGHT) (c6<|c8<|g6<|a9 f9<|a9 (i9 rfl T.c_NOUGHT)<|a9 (g6<|a9 (i9 rfl T.c_NOUGHT)<|a9 (i9 rfl T.c_NOUGHT) b8)<|a9 (u5 b8) b8) f6)<|b9 (jst 3 sc.nd (jc ji hr<|a9 (b7 0) b8))<|b9 (g7 (jtm Y4 (l6 K2 rfl T.b_len B3<|a9 (b7 3) b8) c5) (c6<|c8<|g6<|a9 f9<|a9 (g6<|a9 (b7 1)<|a9 (b7 2) b8) b8) f6)<|b9 (g7 (jtm Y4 (l6 K2 rfl T.b_len B3<|a9 (b7 3) b8) c5) (c6<|c8<|jc bZ hr<|a9 (b7 0)<|a9 (jx (jx (b7 3) c5) c5)<|a9 (b7 1)<|a9 (b7 2) b8) f6)<|c6<|c8<|jc aB hr<|a9 (b7 3)<|a9 (b7 1)<|a9 (b7 2) b8),?_⟩;rw[];have kz:p=0/\q=0->R (D.tup [D.str "most",d6 0,D.tup [d6 0,d6 0],D.vl []]) M:=λc=>by have k:=k;unfold Y7 at k;rw[if_pos c]at k;exact k
 have fin:¬ (p=0/\q=0)->Lp ls/\(((C9<|i4 ls).map sdD).length=(0:Int)->R (D.tup [D.str "free",D.tup [d6 p,d6 q]]) M)/\(¬ ((((C9<|i4 ls).map sdD).length:Nat):Int)=0->(((((C9<|i4 ls).map sdD).length:Nat):Int)=1->gIx (D.vl<|a3g sdD<|C9<|i4 ls) (D.int 0) M λx M1=>gIx x (D.int 3) M1 λx M1=>Ri [D.vl<|a3g j4 ls,x,d6 p,d6 q] M1 R Y0)/\(¬ ((((C9<|i4 ls).map sdD).length:Nat):Int)=1->(((C9<|i4 ls).length<=30/\∀(s:Sd),s∈C9 (i4 ls)->SzS s)/\(sz p<=1100/\sz q<=1100)/\∃ a b,xH (C9<|i4 ls) (wtF p q)=some (a,b)/\(SzS a/\SzS b)/\0<veZ a b/\a.2.2.2.1≠b.2.2.2.1/\a.2.2.2.2.natAbs<2 ^ 1400/\b.2.2.2.2.natAbs<2 ^ 1400)/\R (jo (C9<|i4 ls) p q).toD M)):=λc=>by
  have k:=k;unfold Y7 at k;rw[if_neg c]at k;refine⟨hls.ok,λh0=>?_,λh0=>⟨λh1=>?_,λh1=>?_⟩⟩
  ·have e:C9 (i4 ls)=[]:=by
    rw[a1H]at h0
    exact a3i<|by omega
   rw[e]at k
   exact k
  ·obtain⟨h0',e⟩:∃ h,C9 (i4 ls)=[h]:=by
    rw[a1H]at h1
    exact List.length_eq_one_iff.mp<|by omega
   have hne:ls≠[]:=λz=>by rw[z]at e;cases e
   obtain⟨g0,m,e',m0,_⟩:=bq hlo hne
   rw[e]at e'
   cases e'
   obtain⟨l,j,el,en,_⟩:=vq m0
   rw[e]at k ⊢
   have k:R (J1 (ls.getD h0'.2.2.2.1.toNat (0,0,0)) h0'.2.2.2.1 p q).toD M:=k
   rw[en,a2z,a2a,el]at k
   refine⟨sdD h0',rfl,.int h0'.2.2.2.1,rfl,ls,h0'.2.2.2.1,p,q,rfl,l,j,en,el,hls.2 l<|a1K el,c,⟨hp,hq⟩,?_⟩
   rw[en];exact k
  ·obtain⟨h0',x,l,e⟩:∃ h0 x l,C9 (i4 ls)=h0 :: x :: l:=by
    cases e:C9 (i4 ls)with
    | nil=>rw[e]at h0;exact absurd rfl h0
    | cons a r =>
     cases r with
     | nil=>rw[e]at h1;exact absurd rfl h1
     | cons b r=>exact⟨a,b,r,rfl⟩
   obtain⟨a,b,ea,A⟩:=nA hlo e<|FZ c
   have hne:ls≠[]:=λz=>by rw[z]at e;cases e
   have hin:∀ s∈C9 (i4 ls),s∈i4 ls:=OO hlo
   rw[e]at k hlen hin ⊢
   refine⟨⟨⟨by omega,λs hs=>hsz s<|hin s hs⟩,⟨hp,hq⟩,a,b,ea,⟨hsz a A.ma,hsz b A.mb⟩,A.ve,Oq A.ma A.mb<|by have:=A.ve;omega,hsc a A.ma,hsc b A.mb⟩,k⟩
 exact⟨λc1=>⟨λc2=>kz ⟨c1,c2⟩,λc2=>fin λz=>c2 z.2⟩,λc1=>fin λz=>c1 z.1⟩
example fE sD others_of lines k:Xf 1 95:=by
 obtain⟨ls,kk,rfl,hl,k⟩:=h;refine⟨_,(c6<|c8<|u3 [1] ["number","line"] ["k"] rfl (by rw[0]) rfl (by rw[0]) (by rw[0]) rfl (N7 ⟨rfl,rfl⟩) (N7<|Or.inl rfl) (ao rfl T.b_enumerate<|a9 (b7 0) b8) (λ_ _ _ _ _ _=>(i6 (n:=2) rfl<|c7 (jn 0 (show(["number","line","k"]:List Str).Nodup by rw[0]))<|c7 (jn 1 (show(["number","line","k"]:List Str).Nodup by rw[0])) g9)) (λ_ _ _ _ _ _=>(N9<|jtm (IM hu) (b7 0)<|b7 2)) λ_ _ _ _ _ _=>(b7 1)),?_⟩;rw[];rw[Pb];refine B2 (λx:T3 × Nat=>decide (x.2≠kk)) (λx=>j4 x.1) (by rw[a29];omega) (by simp only[j5]) (λx hx Q N h1 h2=>?_) ?_
 ·rw[];exact⟨λh=>h1<|decide_eq_true λz=>h<|by rw[z],λh=>h2<|decide_eq_false λz=>z<|by omega⟩
 ·have e:=zS ls 0 kk
  rw[a4V]at e;have e2:(a5a (λx:T3 × Nat=>decide (x.2≠kk)) ls.zipIdx).map (λx=>j4 x.1)=(yv ls kk).map j4:=by unfold yv;rw[<- e,a2k];rfl
  rw[e2];exact k
example tD Oh idle lines k _ p q r told ray word value shares:Rp 8 96 bw ni bu av W6 Cz fE:=by
 obtain⟨ls,kk,rfl,hls,l,hk,k⟩:=h;have hm:=a1K hk;have ok:=hls.2 l hm;have z1:=ok.p6;have z2:=ok.q6;have z3:=ok.r6;have r0:=ok.pos;refine⟨_,(b9 (j7 (jx (b7 0)<|b7 1)<|i6 (n:=3) rfl<|c7 (jn 2 sc.nd)<|c7 (jn 3 sc.nd)<|c7 (jn 4 sc.nd) g9)<|b9 (jst 5 sc.nd (jc Cz hr<|a9 (jc fE hr<|a9 (b7 0)<|a9 (b7 1) b8)<|a9 (b7 2)<|a9 (b7 3) b8))<|b9 (g7 (jtm n9 (jx (b7 5) c5) f9) (b9 (jst 6 sc.nd (jx (b7 5) c5))<|c6<|c8<|g6<|a9 f9<|a9 (jc ni hr<|a9 (b7 6)<|a9 (jc bu hr<|a9 (jc W6 hr<|a9 (b7 4)<|a9 (b7 4) b8)<|a9 (jc av hr<|a9 (b7 2)<|a9 (b7 3)<|a9 (b7 6) b8) b8) b8) b8) f6)<|b9 (j7 (b7 5)<|i6 (n:=4) rfl<|c7 (jn 7 sc.nd)<|c7 (jn 8 sc.nd)<|c7 (jn 6 sc.nd)<|c7 (jn 9 sc.nd) g9)<|b9 (g7 (p7<|jc bw hr<|a9 (b7 4)<|a9 (b7 8) b8) (c6<|c8<|g6<|a9 f9<|a9 (b7 6) b8) f6)<|c6<|c8<|g6<|a9 f9<|a9 (u3 [1] ["number","share"] ["k"] rfl (by rw[0]) rfl (by rw[0]) (by rw[0]) rfl (N7 ⟨rfl,rfl⟩) (N7<|Or.inl rfl) (n6<|b7 9) (λ_ _ _ _ _ _=>(i6 (n:=2) rfl<|c7 (jn 0 (show(["number","share","k"]:List Str).Nodup by rw[0]))<|c7 (jn 1 (show(["number","share","k"]:List Str).Nodup by rw[0])) g9)) (λ_ _ _ _ _ _=>n8) λ_ _ _ _ _ _=>(g6<|a9 (F7 (jtm gO (b7 0)<|b7 2) (b7 0)<|e6 F0 (b7 0) c5)<|a9 (b7 1) b8)) b8),?_⟩;rw[];refine⟨j4 l,by show atI (ls.map j4) (kk:Int)=_;rw[fT<|by rw[a1S,hk];rfl],?_⟩;rw[];obtain⟨s1,s2⟩:=Ov (hls.oth kk) (p:=l.1) (q:=l.2.1) (N:=600) (by omega) (by omega) (a1U _) (by decide);refine⟨hls.1,⟨hls.oth kk,by omega,by omega⟩,?_⟩;unfold xj at k;cases e:Y7 (yv ls kk) l.1 l.2.1 with
 | free z =>rw[e]at k;obtain⟨y1,y2⟩:=s1 z e;have f4:=DR (hls.oth kk).lo e;have er:ij.toD (.free z) = .tup [.str "free",o7 z.1 z.2]:=rfl;rw[er];rw[];have m1:=RM.A0 l.1 z.1;have m2:=RM.A0 l.2.1 z.2;have m3:=RM.ae (l.1*z.1)<|l.2.1*z.2;have m4:=RM.ae l.2.2 l.2.2;have m5:=RM.Q3 (l.2.2+l.2.2) (l.1*z.1+l.2.1*z.2)<|cF f4;exact⟨by omega,by omega,cF f4,by omega,⟨by omega,by omega⟩,k⟩
 | most v z sh =>
  rw[e]at k;obtain⟨y1,y2⟩:=s2 v z sh e;have hsl:=Ow e;have er:ij.toD (.most v z sh) = .tup [.str "most",d6 v,rD z,.vl<|sh.map shD]:=rfl;rw[er];rw[];have k:R (if l.2.2<v then xO.needed z else .idle (sh.map λs=>(if s.1<(kk:Int)then s.1 else s.1+1,s.2))).toD M:=k;refine⟨λz=>absurd z<|by rw[0],λ_=>⟨by omega,λc=>?_,λc=>?_⟩⟩
  ·rw[if_pos c]at k;exact k
  ·rw[if_neg c]at k
   refine o9 (λs:Int × Rat=>shD (if s.1<(kk:Int)then s.1 else s.1+1,s.2)) (by omega) (by simp only[j5]) (λs hs Q hQ=>?_) ?_
   ·unfold shD at hQ ⊢
    rw[];by_cases c2:s.1<(kk:Int)
    ·rw[if_pos c2]at hQ;exact⟨λ_=>hQ,λz=>absurd c2 z⟩
    ·rw[if_neg c2]at hQ;exact⟨λz=>absurd z c2,λ_=>hQ⟩
   ·have k:R (.tup [.str "idle",.vl<|(sh.map λs=>(if s.1<(kk:Int)then s.1 else s.1+1,s.2)).map shD]) M:=k;rw[a2k]at k;exact k
example O6 mE led_by_part part ray _ word number y u:Rn 5 42 U1 F8 W6:=by
 obtain⟨x,y,u,rfl,hz,k⟩:=h;refine⟨_,(b9 (j7 (b7 0)<|i6 (n:=2) rfl<|c7 (jn 2 sc.nd)<|c7 (jn 3 sc.nd) g9)<|b9 (j7 (b7 1)<|i6 (n:=2) rfl<|c7 (jn 4 sc.nd)<|c7 (jn 5 sc.nd) g9)<|b9 (g7 (jtm n9 (b7 2) f9) (c6<|c8<|g6<|a9 (jc W6 hr<|a9 (b7 4)<|a9 (jc F8 hr<|a9 (b7 3)<|a9 (b7 5) b8) b8)<|a9 (b7 5) b8) f6)<|b9 (g7 (jtm n9 (b7 2) f9) (c6<|c8<|g6<|a9 (b7 4)<|a9 (jc U1 hr<|a9 (b7 5)<|a9 (jc F8 hr<|a9 (b7 3)<|a9 (b7 4) b8) b8) b8) f6)<|c6<|c8<|b7 1),?_⟩;rw[];unfold F3 at k;refine⟨λh1=>?_,λh1=>⟨λh2=>?_,λh2=>?_⟩⟩
 ·rw[if_pos h1]at k;exact⟨by omega,by rw[13],k⟩
 ·rw[if_neg h1,if_pos h2]at k;exact⟨by omega,by rw[13],k⟩
 ·rw[if_neg h1,if_neg h2]at k;exact k
example P4 wK lines_of bench _ lines level axis part:BE 6 62 O6:=by
 obtain⟨bs,rfl,⟨⟨hz,hl⟩,hc⟩,k⟩:=h;refine⟨_,(b9 (jst 1 sc.nd (F6 b8))<|b9 (jst 2 sc.nd (i9 rfl T.c_LEVEL_RAY))<|b9 (jst 3 sc.nd (i9 rfl T.c_AXIS_RAY))<|b9 (p8 PassesOwn.never rfl (n6<|b7 0) (jn 4 sc.nd)<|T7 (g7 (jtm n9 (jx (b7 4) c5) f9) (c6<|v9<|Y8 PySem.F.slot_list_append PySem.F.type_list_append B6 (b7 1)<|a9 (g6<|a9 (jx (b7 2) c5)<|a9 (jx (b7 3) c5)<|a9 (jx (b7 4) c5) b8) b8) f6)<|b9 (jst 2 sc.nd (jc O6 hr<|a9 (b7 4)<|a9 (b7 2) b8))<|c6<|jst 3 sc.nd (jc O6 hr<|a9 (b7 4)<|a9 (b7 3) b8))<|c6<|c8<|ar<|aq<|b7 1),?_⟩;rw[];intro p hp;refine R9.by (λi e M'=>(∃ y0 z,e=[y0,some<|.ref p,some<|o7 (k8 (bs.take i) (1,0)).1 (k8 (bs.take i) (1,0)).2,some<|o7 (k8 (bs.take i) (0,1)).1 (k8 (bs.take i) (0,1)).2,z])/\M'=l9 M p (.lst<|(q9 bs i).map j4)) ⟨⟨_,_,rfl⟩,rfl⟩ (λi e M' _ _=>by simp only[j5,u9]) ?_ ?_
 ·rintro i dd e M' hd ⟨⟨y0,z,rfl⟩,rfl⟩
  obtain⟨pt,hpt,rfl⟩:=gC hd;have t4:=CD.t4<|hc i;have a1:sz (k8 (bs.take i) (1,0)).1<=230:=t4.a;have a2:sz (k8 (bs.take i) (0,1)).1<=230:=t4.b;have b1:sz (k8 (bs.take i) (1,0)).2<=230:=t4.c;have b2:sz (k8 (bs.take i) (0,1)).2<=230:=t4.d;have q2:=hz pt<|a1K hpt;have o1:=eZ hpt (1,0);have o2:=eZ hpt (0,1);have hll:=S5 bs i;have hi:=(a1I.mp hpt).1;have on:=Bg hpt;rw[];refine nD (λe' M'=>e'=[y0,some<|.ref p,some<|o7 (k8 (bs.take i) (1,0)).1 (k8 (bs.take i) (1,0)).2,some<|o7 (k8 (bs.take i) (0,1)).1 (k8 (bs.take i) (0,1)).2,some<|i8 pt]/\M'=l9 M p (.lst<|(q9 bs<|i+1).map j4)) ?_ ?_
  ·rw[]
   refine⟨λh1=>K9 f7<|aM f7 (by rw[a1H];omega) ?_,λh1=>?_⟩
   ·rw[O1,on,if_pos h1,a11];rfl
   ·rw[on,if_neg h1]
  ·rintro e' M' ⟨rfl,rfl⟩;rw[];refine⟨by omega,by omega,⟨y0,some<|i8 pt,?_⟩⟩;rw[o1,o2]
 ·rintro e M' ⟨⟨y0,z,rfl⟩,rfl⟩;rw[];rw[kY f7,U5 hp];rw[];rw[a1H];exact⟨_,λ_ _ h=>h,k⟩
def wt(T:Txt K U w.params)(d:Df K U "part_of" (top 133) ["bench","k"]):FnX P w K U J "part_of" 1 ["bench","k"] yo:=by
 have sc:=yi;refine tF d sc (by rw[12]) λf cdv A outer s H E ds M R Y hr h=>?_;have hu:=hr.units;obtain⟨bs,k,rfl,hl,k1,k2⟩:=h;refine⟨_,(E9 (MF (jtm IP (b7 1)<|l6 K2 rfl T.b_len B3<|a9 (b7 0) b8) (bI<|qB T.x_NoPart rfl rfl f9) uV)<|bI<|S2<|c8<|jx (b7 0)<|b7 1),?_⟩;rw[];rw[a1H];refine⟨λh1=>k1<|a4Z<|by omega,λh1=>?_⟩;have hk:k<bs.length:=by omega
 have hx:=a1T hk;exact⟨_,by show atI (bs.map i8) k=_;rw[fT<|by rw[a1S,hx];rfl],k2 _ hx⟩
def om(T:Txt K U w.params)(d:Df K U "idle_text" (top 140) ["bench","k"])(a1n:tD P w K U J)(a0e:P4 P w K U J)(GX_part_of:FnX P w K U J "part_of" 1 ["bench","k"] yo):FnX P w K U J "idle_text" 9 ["bench","k"] HD:=by
 have sc:=qX;refine tF d sc (by rw[12]) λf cdv A outer s H E ds M R Y hr h=>?_;have hu:=hr.units;obtain⟨bs,k,rfl,⟨hl,hp⟩,kk⟩:=h;refine⟨_,(E9 (WC (SF wQ (YO RE (jJ GX_part_of (hr.mono<|by decide) rfl<|a9 (b7 0)<|a9 (b7 1) b8) (FY c5) λ_ _=>rfl) (FY f9) rfl) (bI<|qB T.x_NoPart rfl rfl f9) uV)<|bI<|S2<|c8<|jx (jc a1n hr<|a9 (jc a0e hr<|a9 (b7 0) b8)<|a9 (l6 K2 rfl T.b_len B3<|a9 (jc a0e hr<|a9 (O0 (b7 0) E6<|B5<|b7 1) b8) b8) b8) c5),?_⟩;rw[];have cq:=bD (λx hx=>(hp x hx).2) (by omega);have s3:∀ x∈bs,sz x.2<=3000:=λx hx=>by have:=(hp x hx).2;omega
 refine⟨hl,λh=>?_,λx h=>⟨λh1=>?_,λh1=>⟨⟨⟨s3,by omega⟩,cq⟩,?_⟩⟩⟩
 ·unfold ic at kk;rw[h]at kk;exact kk
 ·simp_all [if_neg,ic,zR,a1B]
 ·unfold ic at kk;rw[h]at kk
  have kk:zR (if x.1=a1B "stop" then _ else _) M R Y:=kk;rw[if_pos h1]at kk;rw[tK,<- a4D];have kl:=(a1I.mp h).1;rw[];refine⟨⟨⟨λx hx=>s3 x<|a2L hx,by rw[a2q];omega⟩,λi=>?_⟩,?_⟩
  ·rw[List.take_take];exact cq _
  rw[a1H];obtain⟨l,hl2⟩:=GD h h1;have e:(q9 bs bs.length).getD (q9 (bs.take k) (bs.take k).length).length (0,0,0)=l:=by rw[a2a,hl2];rfl
  rw[e]at kk;refine⟨mO hl hp,l,hl2,?_⟩;have wd:∀(z:xO),R (.str z.word) M->gIx z.toD (.int 0) M R:=λz r=>by
   cases z with
   | needed z=>exact⟨_,rfl,r⟩
   | idle z=>exact⟨_,rfl,r⟩
  exact wd _ kk
def gD(T:Txt K U w.params)(d:Df K U "bench_answer" (top 144) ["bench","question","values"])(GX_idle_text:FnX P w K U J "idle_text" 9 ["bench","k"] HD):FnX P w K U J "bench_answer" 10 ["bench","question","values"] BN:=by have sc:=jv;refine tF d sc (by rw[12]) λf cdv A outer s H E ds M R Y hr h=>?_;have hu:=hr.units;obtain⟨bs,w,vs,rfl,rfl,kk,rfl,hp,k⟩:=h;refine⟨_,(E9 (S2<|g7 (jtm n9 (b7 1) f9) (c6 m6) f6)<|E9 (S2<|g7 (jtm n9 (b7 1) f9) (c6 m6) f6)<|E9 (S2<|g7 (jtm n9 (b7 1) f9) (c6 m6) f6)<|E9 (S2<|g7 (jtm n9 (b7 1) f9) (c6 m6) f6)<|E9 (MF (jtm n9 (b7 1) f9) (bI<|FX<|jJ GX_idle_text (hr.mono<|by decide) rfl<|a9 (b7 0)<|a9 (jx (b7 2) c5) b8) uV)<|bI<|S2 m6),?_⟩;rw[];have n:∀ c,c≠a1B "idle" -> a1B "idle" = c->False:=λc h e=>h e.symm;exact⟨n _<|by rw[0],λ_=>⟨n _<|by rw[0],λ_=>⟨n _<|by rw[0],λ_=>⟨n _<|by rw[0],λ_=>⟨hp,k⟩⟩⟩⟩⟩
example R4 oq whole_text number _ unit rest pieces piece:WZ 1 115:=by
 obtain⟨n,rfl,hn,k⟩:=h;have sl:=B4;have tl:=K4 (n:=n.natAbs) (k:=5000) (by decide) (by omega);refine⟨_,(b9 (jst 1 sc.nd (e6 qh c5 c5))<|b9 (jst 2 sc.nd (l6 cz rfl T.b_abs R7<|a9 (b7 0) b8))<|b9 (jst 3 sc.nd (F6 b8))<|b9 (T6 PassesOwn.never (jtm IP (b7 2)<|b7 1)<|b9 (j7 (l6 La rfl T.b_divmod Es<|a9 (b7 2)<|a9 (b7 1) b8)<|i6 (n:=2) rfl<|c7 (jn 2 sc.nd)<|c7 (jn 4 sc.nd) g9)<|c6<|v9<|Y8 PySem.F.slot_list_append PySem.F.type_list_append B6 (b7 3)<|a9 (Jo PySem.F.slot_str_zfill PySem.F.type_str_zfill IY Nz (D9 X4 rfl T.b_str O7<|a9 (b7 4) b8)<|a9 c5 b8) b8)<|b9 (v9<|Y8 PySem.F.slot_list_append PySem.F.type_list_append B6 (b7 3)<|a9 (D9 X4 rfl T.b_str O7<|a9 (b7 2) b8) b8)<|c6<|c8<|ar<|e6 v8 (F7 (jtm gO (b7 0) c5) f9 f9)<|Jq rfl rfl T.b_reversed aI f9<|b7 3),?_⟩;rw[];refine⟨⟨by decide,by decide,by decide⟩,λp hp=>?_⟩;refine fX (λm e M'=>∃(r:Nat) (ps:List Str) (z:Option D),m=r/\e=[some<|D.int n,some<|D.int<|10 ^ a4q 60,some<|D.int r,some<|D.ref p,z]/\M'=l9 M p (.lst<|ps.map D.str)/\sg (tx n.natAbs)=sg (tx r)++(ps.reverse.map sg).flatten/\(∀ y∈ps,y.length<=60)/\60*ps.length+(tx r).length<=5001) n.natAbs ⟨n.natAbs,[],none,rfl,rfl,rfl,by simp,λy hy=>(by cases hy),by simpa using tl⟩ ?_;rintro m e M' ⟨r,ps,z,rfl,rfl,rfl,h1,h2,h3⟩;rw[];rw[MQ];have lg:∀ x:Nat,x<10 ^ 60->((x:Int)).natAbs.log2<1920:=λx hx=>by rw[a1G];exact v6 (a1F hx<|a1N (show 10 ^ 60<=2 ^ 200 by rw[0])<|a1X (by decide)<|by decide)<|by decide
 have hps:ps.length<=100:=by omega
 have md:m % 10 ^ 60<10 ^ 60:=a40 _ (by decide);rw[Ye,Yc];refine⟨λh=>⟨⟨by rw[0],by rw[0]⟩,K9 f7 ⟨lg _ md,60,rfl,by rw[0],aM f7 (by rw[a1H];omega) ?_⟩⟩,λh=>K9 f7 ⟨lg _ ?_,aM f7 (by rw[a1H];omega) ?_⟩⟩
 ·have hm:=Int.ofNat_le.mp h
  have hd:m / 10 ^ 60<m:=Nat.div_lt_self (a1F (by decide) hm) (by decide);obtain⟨l1,l2⟩:=SD hm;refine⟨m / 10 ^ 60,hd,m / 10 ^ 60,ps++[Txt.zfill (tx<|(m % 10 ^ 60:Nat)) 60],_,rfl,rfl,by rw[O1,a11];rfl,?_,?_,?_⟩
  ·rw[a4b,h1,Gm hm];show sg (_++_)++_=_++(sg _++(ps.reverse.map sg).flatten);rw[show ∀ a b,sg (a++b)=sg a++sg b from λa b=>Array.toList_append,a2H]
  ·grind
  ·rw[a1V];show 60*(ps.length+1)+_<=5001;omega
 ·omega
 ·have ks:=qD n
  have jn:Txt.join (a1B "") (ps++[tx (m:Int)]).reverse=tx n.natAbs:=lA (by rw[OG,a4b,h1];rfl);have it:E4 (l9 (l9 M p<|.lst<|ps.map D.str) p<|.lst<|ps.map D.str++[D.str<|tx m]) (D.ref p)=some ((ps++[tx m]).map D.str):=by simp only[E4,f7,a11];rfl
  have sm:tY (a1B "") ((ps++[tx (m:Int)]).reverse):=by refine⟨?_,by rw[0]⟩;have:=Jh h2;rw[a2n,a3w,List.sum_reverse,a11,a4U,a1V];show _+((tx m).length+0)+(ps.length+1)<=1048576;omega
  have kp:Exd M (l9 (l9 M p<|.lst<|ps.map D.str) p<|.lst<|ps.map D.str++[D.str<|tx m]):=λa o h=>by
   have ne:a≠p:=λe=>by rw[e,hp]at h;cases h
   simp_all [i7]
  refine⟨λhneg=>⟨_,_,rfl,it,sm,?_,cT kp ?_⟩,λhneg=>⟨_,_,rfl,it,sm,?_,cT kp ?_⟩⟩
  ·rw[jn,show(a1B "-").length=1 by rw[0]];omega
  ·rw[if_pos hneg]at ks;rw[jn,ks];exact k
  ·rw[jn,show(a1B "").length=0 by rw[0]];omega
  ·rw[if_neg hneg]at ks;rw[jn,ks];exact k
abbrev N4:Prop:=Fn P w K U J "tops_over" 1 ["ratios","bottom"] Xb
def sr(T:Txt K U w.params)(d:Df K U "tops_over" P1 ["ratios","bottom"]):N4 P w K U J:=by
 have sc:=V1;rw[8];obtain⟨x,b,rfl,qs,hx,⟨hl,hb,b0,hq⟩,k⟩:=h;have hb':b<2 ^ 8501:=a1R hb (a3a (by decide)<|by decide);have key:∀ s∈qs,IntMulOk s.num ((b:Int).fdiv s.den)/\CFd b s.den:=λs hs=>by
  obtain⟨_,hs⟩:=hq s hs;have e1:((b:Int).fdiv (s.den:Int))=((b / s.den:Nat)):=by rw[E1 (by omega)<|by omega];norm_cast
  refine⟨?_,?_⟩
  ·rw[e1];exact j9 8900 8501 (u4 s hs) (by rw[a1G];exact a1R (a2Z _ _) hb') (by decide)
  ·exact⟨by have:=s.den_pos;omega,by rw[a1G];exact a1F (v6 (l5 s hs)<|by decide)<|by decide⟩
 rcases hx with rfl|rfl;all_goals
  refine⟨_,(c6<|c8<|u3 [1] ["one"] ["bottom"] rfl (by rw[0]) rfl (by rw[0]) (by rw[0]) rfl (N7 ⟨rfl,rfl⟩) (N7<|Or.inl rfl) (n6<|b7 0) (λ_ _ _ _ _ _=>(jn 0 (show(["one","bottom"]:List Str).Nodup by rw[0]))) (λ_ _ _ _ _ _=>n8) λ_ _ _ _ _ _=>(e6 j0 (jx (b7 0) c5)<|e6 B7 (b7 1)<|jx (b7 0) c5)),?_⟩
  rw[]
  refine o9 (λs=>D.int<|s.num*(b:Int).fdiv s.den) hl (by simp only[u9,j5]) (λs hs Q hQ=>?_) k
  obtain⟨k1,k2⟩:=key s hs
  rw[]
  exact⟨k2,k1,hQ⟩
abbrev C8:Prop:=Fn P w K U J "common_bottom" 2 ["ratios"] Xm
def gH(T:Txt K U w.params)(d:Df K U "common_bottom" D7 ["ratios"])(ZZ:G9 P w K U J):C8 P w K U J:=by
 have sc:=G5;rw[8];obtain⟨x,rfl,qs,hx,hz,k⟩:=h;have key:∀ i b q,qs[i]? = some q->0<b->b<=2 ^ (szs<|qs.take i)->(∀ r∈qs.take i,r.den ∣ b)->CFd b ((a2i b q.den:Nat))/\IntMulOk ((b:Int).fdiv<|(a2i b q.den:Nat)) q.den/\((b:Int).fdiv<|(a2i b q.den:Nat))*q.den=((b / a2i b q.den*q.den:Nat))/\0<b / a2i b q.den*q.den/\b / a2i b q.den*q.den<=2 ^ (szs<|qs.take<|i+1)/\(∀ r∈qs.take (i+1),r.den ∣ b / a2i b q.den*q.den)/\(b ∣ ((qs.take i).map λq:Rat=>q.den).prod->b / a2i b q.den*q.den ∣ ((qs.take<|i+1).map λq:Rat=>q.den).prod):=λi b q hq b0 bl hd=>by
  have q0:=q.den_pos;have ql:=l5 q<|a1U _;have zt:=GA hq;have zl:=SU qs i;have zm:=jK<|a1K hq;have g0:=a3z b q0;have gl:=a1R (Nat.gcd_le_right b q0) ql;obtain⟨c,hc⟩:=Nat.gcd_dvd_left b q.den;have ec:b / a2i b q.den=c:=by
   conv=>lhs;lhs;rw[hc]
   exact a4A c g0
  have e1:((b:Int).fdiv ((a2i b q.den:Nat):Int))=c:=by rw[E1 (by omega)<|by omega,<- ec];norm_cast
  have cb:c<=b:=by rw[<- ec];exact a2Z _ _
  have c0:0<c:=Nat.pos_of_ne_zero λz=>by rw[z,Nat.mul_zero]at hc;omega
  rw[e1,ec];have bl3:b<2 ^ (szs (qs.take i)+1):=by omega
  refine⟨⟨by omega,by rw[a1G];exact a1F (v6 (u0 gl (show sz q<=8500 by omega))<|by decide)<|by decide⟩,j9 8501 8500 (by rw[a1G];exact u0 (a1R cb bl3)<|by omega) (by rw[a1G];exact u0 ql<|by omega) (by decide),by rw[a3F],a4x c0 q0,?_,λr hr=>?_,λhp=>?_⟩
  ·rw[zt,a2Y];exact a3K (a1N cb bl)<|a2M ql
  ·rw[a2B,hq]at hr
   rcases a10.mp hr with hr|hr
   ·obtain⟨e,he⟩:=hd r hr
    obtain⟨f',hf⟩:=a4r b q.den;refine a4z (hd r hr) ?_;rw[hf];refine⟨f',?_⟩;conv=>rhs;lhs;rw[hc]
    rw[a3p _ c,a5g]
   ·rw[a13.mp hr];exact Nat.dvd_mul_left _ _
  ·rw[a2B,hq,a11,List.prod_append];show c*q.den ∣ _*(q.den*1);rw[Nat.mul_one];exact Nat.mul_dvd_mul (a4z ⟨a2i b q.den,by rw[a3p];exact hc⟩ hp)<|Nat.dvd_refl _
 rcases hx with rfl|rfl;all_goals
  refine⟨_,(b9 (jst 1 sc.nd c5)<|b9 (p8 PassesOwn.never rfl (n6<|b7 0) (jn 2 sc.nd)<|c6<|jst 1 sc.nd (e6 j0 (e6 B7 (b7 1)<|jc ZZ hr<|a9 (b7 1)<|a9 (jx (b7 2) c5) b8)<|jx (b7 2) c5))<|c6<|c8<|b7 1),?_⟩
  rw[]
  refine R9.by (λi e M'=>M'=M/\∃(b:Nat) (z:Option D),e=[some _,some<|.int b,z]/\0<b/\b<=2 ^ (szs<|qs.take i)/\(∀ r∈qs.take i,r.den ∣ b)/\b ∣ ((qs.take i).map λq:Rat=>q.den).prod) ⟨rfl,1,_,rfl,by decide,by show 1<=2 ^ 0;decide,λr hr=>(by cases hr),Nat.dvd_refl _⟩ (λ_ _ _ _ _=>by simp only[u9,j5]) ?_ ?_
  ·rintro i dd e M' hd ⟨rfl,b,z,rfl,b0,bl,hdv,hdp⟩
   rw[a1S]at hd
   obtain⟨q,hq,rfl⟩:=a2d.mp hd
   obtain⟨k1,k2,k3,k4,k5,k6,k7⟩:=key i b q hq b0 bl hdv
   rw[]
   exact⟨k1,k2,_,some<|d6 q,by rw[k3],k4,k5,k6,k7 hdp⟩
  ·rintro e M' ⟨rfl,b,z,rfl,b0,bl,hdv,hdp⟩
   rw[a1H,a2l]at *
   rw[]
   exact k b b0 bl hdv hdp
example nc IF swing t x later _ bottom one other:Bw 3 59 N4 C8:=by
 obtain⟨t,x,f',rfl,⟨ht,hz⟩,k⟩:=h;have es:szs [x,f']=sz x+sz f':=by unfold szs;simp only[a1Z,a2R,a4C,a5u];omega
 have xn:=A6 x;have xd:=u8 x;have fn:=A6 f';have fd:=u8 f';rw[a1G]at xd fd;refine⟨_,(b9 (jst 3 sc.nd (jc C8 hr<|a9 (g6<|a9 (b7 1)<|a9 (b7 2) b8) b8))<|b9 (j7 (jc N4 hr<|a9 (g6<|a9 (b7 1)<|a9 (b7 2) b8)<|a9 (b7 3) b8)<|fm (n:=2) rfl<|c7 (jn 4 sc.nd)<|c7 (jn 5 sc.nd) g9)<|c6<|c8<|g6<|a9 (e6 J7 (e6 j0 (jx (b7 0) c5)<|e6 F0 (e6 j0 (b7 4)<|b7 4)<|e6 j0 (b7 5)<|b7 5)<|e6 j0 (e6 j0 (jx (b7 0) c5)<|b7 4)<|b7 5)<|a9 (e6 j0 (b7 3)<|b7 3) b8),?_⟩;rw[];refine⟨[x,f'],.inl rfl,by omega,λB B0 Bl hB _=>⟨[x,f'],.inl rfl,⟨by show 2<=1000;decide,a1N Bl<|a1X (by decide)<|by omega,B0,λq hq=>⟨hB q hq,?_⟩⟩,?_⟩⟩
 ·have:=jK hq;omega
 have cl1:B<2 ^ 4201:=a1R Bl (a3a (by decide)<|by omega);obtain⟨o1,o2⟩:=J5 (hB x<|by simp);obtain⟨p1,p2⟩:=J5 (hB f'<|by simp);have o3:(x.num*(B:Int).fdiv (x.den:Int)).natAbs<2 ^ 8401:=by refine a1R o2<|a1F (r9 xn cl1)<|a1X (by decide)<|by omega
 have p3:(f'.num*(B:Int).fdiv (f'.den:Int)).natAbs<2 ^ 8401:=by refine a1R p2<|a1F (r9 fn cl1)<|a1X (by decide)<|by omega
 rw[];generalize x.num*(B:Int).fdiv (x.den:Int)=O at *
 generalize f'.num*(B:Int).fdiv (f'.den:Int)=P at *
 have td:=l5 t ht;have tn:=u4 t ht;have td':(t.den:Int).natAbs<2 ^ 231:=by rw[a1G];exact td
 have B':(B:Int).natAbs<2 ^ 4201:=by rw[a1G];exact cl1
 have oo:=h7 o3 o3;have pp:=h7 p3 p3;have op:=Li oo pp;have tdo:=h7 td' op;have tno:=h7 tn o3;have tnop:=h7 tno p3;refine⟨j9 _ _ o3 o3<|by decide,j9 _ _ p3 p3<|by decide,j9 _ _ td' op<|by decide,j9 _ _ tn o3<|by decide,j9 _ _ tno p3<|by decide,j9 _ _ B' B'<|by decide,?_⟩;refine k _ _ ?_ ?_ ?_ ?_
 ·have:(0:Int)<(B:Int):=by omega
  exact a5b this this
 ·exact u0 (h7 B' B')<|by decide
 ·exact u0 (de (u0 tdo (show _<=17034 by decide))<|u0 tnop<|by decide)<|by decide
 ·have e:=A5 t;rw[a2E,a1W,a3c,a1W,a1W,a1W,a1W,a1W,a19,a19,o1,p1,<- e];grind
example aA wH reach_by t x later _ top bottom:Rf 4 60 nc:=by
 obtain⟨t,x,f',rfl,⟨ht,t1,t2,hz⟩,k⟩:=h;have td:=l5 t ht;have tn:=u4 t ht;have td':(t.den:Int).natAbs<2 ^ 231:=by rw[a1G];exact td
 have e:=A5 t;have d0:(0:Rat)<(t.den:Rat):=by have:=t.den_pos;exact_mod_cast this
 have h4:=WG t1 t2;refine⟨_,(b9 (j7 (jc nc hr<|a9 (b7 0)<|a9 (b7 1)<|a9 (b7 2) b8)<|i6 (n:=2) rfl<|c7 (jn 3 sc.nd)<|c7 (jn 4 sc.nd) g9)<|c6<|c8<|g6<|a9 (e6 j0 (e6 j0 c5<|b7 3)<|jx (b7 0) c5)<|a9 (e6 j0 (b7 4)<|e6 J7 (e6 j0 (e6 j0 c5<|jx (b7 0) c5)<|jx (b7 0) c5)<|e6 j0 (jx (b7 0) c5)<|jx (b7 0) c5) b8),?_⟩;rw[];refine⟨⟨ht,hz⟩,λT B b0 bB bT eT=>?_⟩;have t4d:(4*(t.den:Int)).natAbs<2 ^ (3+231):=h7 (show(4:Int).natAbs<2 ^ 3 by decide) td';have tdd:=h7 t4d td';have tnn:=h7 tn tn;have bd:=de tdd (u0 tnn<|by decide);have rat:(((4*(t.den:Int)*(t.den:Int) - t.num*t.num:Int)):Rat)=(4 - t*t)*((t.den:Rat)*(t.den:Rat)):=by rw[a2E,a1W,a1W,a1W,a19,<- e];rw[show(((4:Int)):Rat)=4 from rfl];grind
 have pos:0<4*(t.den:Int)*(t.den:Int) - t.num*t.num:=by
  have:(0:Rat)<((4*(t.den:Int)*(t.den:Int) - t.num*t.num:Int):Rat):=by rw[rat];exact a3h h4<|a3h d0 d0
  exact_mod_cast this
 have t4:=h7 (show(4:Int).natAbs<2 ^ 3 by decide) bT;have t4t:=h7 t4 td';refine⟨Jc (by decide)<|by decide,j9 _ _ t4 td'<|by decide,Jc (by decide)<|by decide,j9 _ _ t4d td'<|by decide,j9 _ _ tn tn<|by decide,j9 _ _ bB bd<|by decide,?_⟩;refine k _ _ (a5b b0 pos) (u0 (h7 bB bd)<|by decide) (u0 t4t<|by decide) ?_;have b0':(0:Rat)<(B:Rat):=by exact_mod_cast b0
 rw[a3s,a1W,a1W,a1W,rat,eT,a19];unfold Ia;rw[show(((4:Int)):Rat)=4 from rfl];exact Ny (λz=>by rw[z]at d0;exact absurd d0<|by decide) (λz=>by rw[z]at b0';exact absurd b0'<|by decide) λz=>by rw[z]at h4;exact absurd h4<|by decide
example P3 Oa t_of table:Xa 4 51 W6:=by obtain⟨x,rfl,⟨a,b,c,d⟩,hx,cd,k⟩:=h;have hx':x=lh a b c d:=hx;subst hx';have t4:=CD.t4 cd;have h1:sz a<=230:=t4.a;have h4:sz d<=230:=t4.d;refine⟨_,(c6<|c8<|jc W6 hr<|a9 (jx (b7 0) c5)<|a9 (jx (b7 0) c5) b8),?_⟩;rw[];exact⟨by omega,k⟩
example y8 fc rounds_to_self table _ t:Xd 5 52 E8 P3:=by
 obtain⟨x,rfl,⟨a,b,c,d⟩,hx,cd,k⟩:=h;have hx':x=lh a b c d:=hx;subst hx';refine⟨_,(b9 (g7 (jtm (Y5 hu) (b7 0)<|i9 rfl T.c_SELF) (c6<|c8 c5) f6)<|b9 (g7 (jtm (Y5 hu) (b7 0)<|D9 Vm rfl T.b_tuple xE<|a9 (u3 [] ["entry"] [] rfl (by rw[0]) rfl (by rw[0]) (by rw[0]) rfl O9 O9 (n6<|i9 rfl T.c_SELF) (λ_ _ _ _ _ _=>(jn 0 (show(["entry"]:List Str).Nodup by rw[0]))) (λ_ _ _ _ _ _=>n8) λ_ _ _ _ _ _=>(jc E8 hr<|a9 (b7 0) b8)) b8) (c6<|c8 c5) f6)<|b9 (jst 1 sc.nd (jc P3 hr<|a9 (b7 0) b8))<|b9 (g7 (jtm (Y5 hu) (b7 1)<|jc E8 hr<|a9 (i9 rfl T.c_ONE) b8) (c6<|c8 c5) f6)<|b9 (g7 (jtm (Y5 hu) (b7 1)<|i9 rfl T.c_NOUGHT) (c6<|c8 c5) f6)<|c6<|c8<|F7 (jtm (Y5 hu) (b7 1)<|i9 rfl T.c_ONE) c5 A8),?_⟩;rw[];refine⟨λe=>?_,λe=>?_⟩
 ·have e:=uZ (m:=(a,b,c,d)) (k:=(1,0,0,1))<|@of_decide_eq_true _ (a2A _) e;unfold jw at k;rw[if_pos e]at k;exact k
 ·have e1:¬ (a,b,c,d)=((1,0,0,1):Q4):=λz=>@of_decide_eq_false _ (a2A _) e (congrArg K5 z)
  refine o9 (xs:=[1,0,0,1]) (enc:=d6) (λq=>d6 (-q)) (by show 4<=1000;decide) (by simp only[u9]) (λq hq Q hQ=>?_) ?_
  ·rw[];exact hQ
  ·rw[]
   unfold jw at k;rw[if_neg e1]at k;refine⟨λe=>?_,λe=>⟨(a,b,c,d),rfl,cd,λe3=>?_,λe3=>⟨λe4=>?_,λe4=>⟨λe5=>?_,λe5=>?_⟩⟩⟩⟩
   ·have e:=uZ (m:=(a,b,c,d)) (k:=(-1,0,0,-1)) e;rw[if_pos e]at k;exact k
   ·have e2:¬ (a,b,c,d)=((-1,0,0,-1):Q4):=λz=>e<|congrArg K5 z;rw[if_neg e2,if_pos e3]at k;exact k
   ·have e2:¬ (a,b,c,d)=((-1,0,0,-1):Q4):=λz=>e<|congrArg K5 z;rw[if_neg e2,if_neg e3,if_pos e4]at k;exact k
   ·have e2:¬ (a,b,c,d)=((-1,0,0,-1):Q4):=λz=>e<|congrArg K5 z;rw[if_neg e2,if_neg e3,if_neg e4,if_pos e5]at k;exact k
   ·have e2:¬ (a,b,c,d)=((-1,0,0,-1):Q4):=λz=>e<|congrArg K5 z;rw[if_neg e2,if_neg e3,if_neg e4,if_neg e5]at k;exact k
example jf wD shown_by word table x later _ top bottom:vQ 6 76 bu K0 aA P3 y8:=by
 obtain⟨w',x,a,f',rfl,m,r,rfl,rfl,⟨cd,hd,hl,hx⟩,k⟩:=h;have zt:=CD.tr cd;have xf:sz a+sz f'<=4200:=hl.xf;have body:¬ (a=0/\f'=0)->(kwS m=a1B "same" -> ∃ m_1,K5 m=K5 m_1/\CDQ 230 m_1/\R (D.tup [D.str<|a1B "round",jw m_1]) M)/\(¬ kwS m=a1B "same" -> (kwS m=a1B "turns" -> ∃ m_1,K5 m=K5 m_1/\CDQ 230 m_1/\(sz (trQ m_1)<=231/\-2<trQ m_1/\trQ m_1<2/\sz a+sz f'<=4200)/\∀ T B,0<B->B.natAbs<2 ^ 8870->T.natAbs<2 ^ 17400->a2r T B=Ia (trQ m_1) a f'->B≠0/\B.natAbs.log2<9000/\R (D.tup [D.str<|a1B "reach",d6<|a2r T B]) M)/\(¬ kwS m=a1B "turns" -> a≠0/\sz f'+sz a<=8900/\R (D.tup [D.str<|a1B "kept",d6<|f' / a]) M)):=λh0=>by
  unfold gm at k;rw[if_neg<|h0]at k;rcases F4 m with⟨c1,e⟩|⟨c1,c2,e⟩|⟨c1,c2,c3,e⟩|⟨c1,c2,c3,e⟩
  ·rw[if_pos c1]at k;refine⟨λ_=>⟨m,rfl,cd,?_⟩,λh=>absurd e h⟩;rw[rR m c1];exact k
  ·have c3:¬ k9 (trQ m)<2:=by rw[c2];decide
   rw[if_neg c1,if_neg c3]at k;rw[e];refine⟨λh=>absurd h<|by decide,λ_=>⟨λh=>absurd h<|by decide,λ_=>⟨λz=>h0 ⟨z,hx c1 c3 z⟩,by omega,k⟩⟩⟩
  ·rw[if_neg c1,if_pos c3]at k;rw[e];obtain⟨t1,t2⟩:=CW.mp c3;refine⟨λh=>absurd h<|by decide,λ_=>⟨λ_=>⟨m,rfl,cd,⟨zt,t1,t2,xf⟩,λT B b0 bB bT eT=>⟨by omega,a1F (v6 bB<|by decide)<|by decide,?_⟩⟩,λh=>absurd rfl h⟩⟩;rw[eT];exact k
  ·rw[if_neg c1,if_neg c3]at k;rw[e];refine⟨λh=>absurd h<|by decide,λ_=>⟨λh=>absurd h<|by decide,λ_=>⟨λz=>h0 ⟨z,hx c1 c3 z⟩,by omega,k⟩⟩⟩
 refine⟨_,(b9 (g7 (F5<|R3 (jtm (Y5 hu) (b7 2)<|i9 rfl T.c_NOUGHT)<|N0<|jtm (Y5 hu) (b7 3)<|i9 rfl T.c_NOUGHT) (c6<|c8<|g6<|a9 f9 b8) f6)<|b9 (g7 (jtm n9 (b7 0) f9) (c6<|c8<|g6<|a9 f9<|a9 (jc y8 hr<|a9 (b7 1) b8) b8) f6)<|b9 (g7 (jtm n9 (b7 0) f9) (b9 (j7 (jc aA hr<|a9 (jc P3 hr<|a9 (b7 1) b8)<|a9 (b7 2)<|a9 (b7 3) b8)<|i6 (n:=2) rfl<|c7 (jn 4 sc.nd)<|c7 (jn 5 sc.nd) g9)<|c6<|c8<|g6<|a9 f9<|a9 (jc K0 hr<|a9 (b7 4)<|a9 (b7 5) b8) b8) f6)<|c6<|c8<|g6<|a9 f9<|a9 (jc bu hr<|a9 (b7 3)<|a9 (b7 2) b8) b8),?_⟩;rw[];refine⟨λh1=>⟨λh2=>?_,λh2=>body λz=>h2 z.2⟩,λh1=>body λz=>h1 z.1⟩;unfold gm at k;rw[if_pos<|⟨h1,h2⟩]at k;exact k
example F9 sG kind_word table _ size:sKw 6 53 bw J9 P3 y8:=by
 obtain⟨x,rfl,⟨a,b,c,d⟩,hx,cd,k⟩:=h;have hx':x=lh a b c d:=hx;subst hx';have ht:sz (trQ (a,b,c,d))<=231:=CD.tr cd;have hs:=GM.Q6<|trQ (a,b,c,d);have z2:sz 2<=2:=by rw[0]
 refine⟨_,(b9 (g7 (jtm fh (jc y8 hr<|a9 (b7 0) b8) A8) (c6<|c8 f9) f6)<|b9 (jst 1 sc.nd (jc J9 hr<|a9 (jc P3 hr<|a9 (b7 0) b8) b8))<|b9 (g7 (jtm (Y5 hu) (b7 1)<|i9 rfl T.c_TWO) (c6<|c8 f9) f6)<|c6<|c8<|F7 (p7<|jc bw hr<|a9 (b7 1)<|a9 (i9 rfl T.c_TWO) b8) f9 f9),?_⟩;rw[];refine⟨(a,b,c,d),rfl,cd,?_⟩;unfold kwS at k;by_cases h1:G3 (a,b,c,d)
 ·rw[if_pos h1]at k;obtain⟨n,e⟩:=Nm h1;rw[e,cW rfl];rw[];exact k
 ·rw[if_neg h1]at k
  rw[Nl h1,cW rfl];rw[];refine⟨(a,b,c,d),rfl,cd,λe=>?_,λe=>⟨by omega,λe2=>?_,λe2=>?_⟩⟩
  ·rw[if_pos e]at k;exact k
  ·rw[if_neg e,if_pos e2]at k;exact k
  ·rw[if_neg e,if_neg e2]at k;exact k
example bY oF next_state t state _ now «then» bound:BD 1 71:=by
 obtain⟨t,x,rfl,s,rfl,⟨ht,kk,b1,b2,b3,hk⟩,k⟩:=h;have td:=l5 t ht;have tn:=u4 t ht;have td':(t.den:Int).natAbs<2 ^ 231:=by rw[a1G];exact td
 unfold stV at *
 refine⟨_,(b9 (j7 (b7 1)<|i6 (n:=3) rfl<|c7 (jn 2 sc.nd)<|c7 (jn 3 sc.nd)<|c7 (jn 4 sc.nd) g9)<|c6<|c8<|g6<|a9 (b7 3)<|a9 (e6 J7 (e6 j0 (jx (b7 0) c5)<|b7 3)<|e6 j0 (e6 j0 (jx (b7 0) c5)<|jx (b7 0) c5)<|b7 2)<|a9 (e6 j0 (b7 4)<|jx (b7 0) c5) b8),?_⟩;rw[];exact⟨j9 _ _ tn b2<|by omega,j9 _ _ td' td'<|by decide,j9 _ _ (h7 td' td') b1<|by omega,j9 _ _ b3 td'<|by omega,k⟩
example aE mF first_state t x later r _ ratios now «then» bound:vT 3 70 N4 C8:=by
 obtain⟨t,x,f',r,rfl,⟨ht,hz,zx,zf,zr⟩,k⟩:=h;have es:szs [x,f',r]=sz x+sz f'+sz r:=by unfold szs;simp only[a1Z,a2R,a4C,a5u];omega
 have td:=l5 t ht;have td':(t.den:Int).natAbs<2 ^ 231:=by omega
 refine⟨_,(b9 (jst 4 sc.nd (g6<|a9 (b7 1)<|a9 (b7 2)<|a9 (b7 3) b8))<|b9 (j7 (jc N4 hr<|a9 (b7 4)<|a9 (jc C8 hr<|a9 (b7 4) b8) b8)<|fm (n:=3) rfl<|c7 (jn 5 sc.nd)<|c7 (jn 6 sc.nd)<|c7 (jn 7 sc.nd) g9)<|c6<|c8<|g6<|a9 (b7 5)<|a9 (e6 j0 (b7 6)<|jx (b7 0) c5)<|a9 (b7 7) b8),?_⟩;rw[];refine⟨[x,f',r],.inl rfl,by omega,λB B0 Bl hB _=>⟨[x,f',r],.inl rfl,⟨by show 3<=1000;decide,a1N Bl<|a1X (by decide)<|by omega,B0,λq hq=>⟨hB q hq,?_⟩⟩,?_⟩⟩
 ·have:=jK hq;omega
 have Bb:B<2 ^ 8501:=a1R Bl (a3a (by decide)<|by omega);obtain⟨o1,o2⟩:=J5 (hB x<|by simp);obtain⟨p1,p2⟩:=J5 (hB f'<|by simp);obtain⟨q1,q2⟩:=J5 (hB r<|by simp);have n1:=a1R o2<|r9 (u4 x zx) Bb;have n2:=a1R p2<|r9 (u4 f' zf) Bb;have n3:=a1R q2<|r9 (u4 r zr) Bb;rw[];generalize x.num*(B:Int).fdiv (x.den:Int)=a at *
 generalize f'.num*(B:Int).fdiv (f'.den:Int)=b at *
 generalize r.num*(B:Int).fdiv (r.den:Int)=c at *
 refine⟨j9 _ _ n2 td'<|by decide,?_⟩;refine k (a,b*(t.den:Int),c) ⟨⟨B,B0,o1,?_,q1⟩,u0 n1<|by decide,u0 (h7 n2 td')<|by decide,u0 n3<|by decide⟩;show((b*(t.den:Int):Int):Rat)=f'*((B:Rat)*(t.den:Rat));rw[a1W,p1,a19];grind
example aw mz stop_within t numbers watched rounds _ states passed k state:Hq 4 72 bY aE:=by
 obtain⟨t,x,y,N,rfl,ls,ws,rfl,rfl,⟨ht,⟨hl,hw⟩,hN,hok,hk⟩,k⟩:=h;have at':∀ j∈ws,∃ l,ls[j]? = some l/\ls.getD j (0,0,0)=l/\LnV l:=λj hj=>by have h1:=a1T<|hk j hj;exact⟨_,h1,by rw[a2a,h1];rfl,hok _<|a1K h1⟩
 have bA:∀ j∈ws,∀ n,cP t ls j n=decide (Et t (ls.getD j (0,0,0)) n):=λj hj n=>by obtain⟨l,h1,h2,_⟩:=at' j hj;unfold cP;rw[h1,h2]
 refine⟨_,(b9 (C7 (i:=4) [0] ["x","later","r"] ["t"] sc.nd rfl (Or.inl rfl) rfl (by rw[0]) rfl (by rw[0]) (by rw[0]) rfl (N7 ⟨rfl,rfl⟩) (N7<|Or.inl rfl) (n6<|u3 [1] ["k"] ["numbers"] rfl (by rw[0]) rfl (by rw[0]) (by rw[0]) rfl (N7 ⟨rfl,rfl⟩) (N7<|Or.inl rfl) (n6<|b7 2) (λ_ _ _ _ _ _=>(jn 0 (show(["k","numbers"]:List Str).Nodup by rw[0]))) (λ_ _ _ _ _ _=>n8) λ_ _ _ _ _ _=>(jx (b7 1)<|b7 0)) (λ_ _ _ _ _ _=>(i6 (n:=3) rfl<|c7 (jn 0 (show(["x","later","r","t"]:List Str).Nodup by rw[0]))<|c7 (jn 1 (show(["x","later","r","t"]:List Str).Nodup by rw[0]))<|c7 (jn 2 (show(["x","later","r","t"]:List Str).Nodup by rw[0])) g9)) (λ_ _ _ _ _ _=>n8) λ_ _ _ _ _ _=>(jc aE hr<|a9 (b7 3)<|a9 (b7 0)<|a9 (b7 1)<|a9 (b7 2) b8))<|b9 (p8 PassesOwn.never rfl (fk rfl T.b_range<|a9 (b7 3) b8) (jn 5 sc.nd)<|b9 (p8 PassesOwn.never rfl (kA rfl T.b_zip<|a9 (b7 2)<|a9 (b7 4) b8) (i6 (n:=2) rfl<|c7 (jn 6 sc.nd)<|c7 (jn 7 sc.nd) g9)<|c6<|g7 (jtm cE (l6 cz rfl T.b_abs R7<|a9 (jx (b7 7) c5) b8)<|jx (b7 7) c5) (c6<|c8<|g6<|a9 (b7 5)<|a9 (b7 6) b8) f6)<|c6<|C7 (i:=4) [0] ["state"] ["t"] sc.nd rfl (Or.inl rfl) rfl (by rw[0]) rfl (by rw[0]) (by rw[0]) rfl (N7 ⟨rfl,rfl⟩) (N7<|Or.inl rfl) (n6<|b7 4) (λ_ _ _ _ _ _=>(jn 0 (show(["state","t"]:List Str).Nodup by rw[0]))) (λ_ _ _ _ _ _=>n8) λ_ _ _ _ _ _=>(jc bY hr<|a9 (b7 1)<|a9 (b7 0) b8))<|c6<|c8 A8),?_⟩;rw[];refine o9 (xs:=ws) (enc:=λk:Nat=>D.int (k:Int)) (λk=>j4<|ls.getD k (0,0,0)) (by omega) (by simp only[j5]) (λj hj Q hQ=>?_) ?_
 ·obtain⟨l,h1,h2,_⟩:=at' j hj;rw[];exact⟨_,E3 (n:=j)<|by rw[a1S,h1,h2];rfl,hQ⟩
 rw[];refine KN stV (λi s=>∃ k,ws[i]? = some k/\xJ t (ls.getD k (0,0,0)) 0 s) (by rw[a1H];omega) (by simp only[j5]) (λi d hd Q hQ=>?_) λss hlen hss=>?_
 ·rw[a1S]at hd;obtain⟨j,hj,rfl⟩:=a2d.mp hd;obtain⟨l,h1,h2,h3⟩:=at' j<|a1K hj;rw[h2];rw[];have:=h3.xf;have:=h3.x;have:=h3.f;have:=h3.r;exact⟨⟨ht,by omega,by omega,by omega,by omega⟩,λs hs=>hQ s ⟨j,hj,by rw[h2];exact hs⟩⟩
 rw[a1H]at hlen;refine⟨⟨by omega,by omega⟩,?_⟩;rw[a2z];refine R9.by (λi e M'=>M'=M/\∃(ss:List (Int × Int × Int)) (z5 z6 z7:Option D),e=[some<|d6 t,some<|.vl<|ls.map j4,some<|.vl (ws.map λk:Nat=>D.int (k:Int)),some<|.int (N:Int),some<|.vl<|ss.map stV,z5,z6,z7]/\ss.length=ws.length/\(∀ j s,ss[j]? = some s->∃ k,ws[j]? = some k/\xJ t (ls.getD k (0,0,0)) i s)/\∀ n,n<i->∀ k∈ws,cP t ls k n=false) ⟨rfl,ss,_,_,_,rfl,hlen,hss,λn hn=>absurd hn<|by omega⟩ (λ_ _ _ _ _=>trivial) ?_ ?_
 ·rintro i dd e M' hd ⟨rfl,ss,z5,z6,z7,rfl,hlen,hss,hno⟩
  obtain⟨hi,rfl⟩:=DE hd;rw[show(0:Int)+(i:Int)=(i:Int)by omega];rw[];refine R9.by (λj e M''=>M''=M'/\∃(z6 z7:Option D),e=[some<|d6 t,some<|.vl<|ls.map j4,some<|.vl (ws.map λk:Nat=>D.int (k:Int)),some<|.int (N:Int),some<|.vl<|ss.map stV,some<|.int (i:Int),z6,z7]/\∀ j',j'<j->∀ k',ws[j']? = some k'->cP t ls k' i=false) ⟨rfl,_,_,rfl,λj hj=>absurd hj<|by omega⟩ (λ_ _ _ _ _=>by simp only[j5,and_self]) ?_ ?_
  ·rintro j dd e M'' hd2 ⟨rfl,z6,z7,rfl,hn2⟩
   obtain⟨k',s',rfl,hkj,hsj⟩:∃(k':Nat) (s':Int × Int × Int),dd = .tup [.int (k':Int),stV s']/\ws[j]? = some k'/\ss[j]? = some s':=by
    unfold Q0 at hd2;rw[a3M,a1S,a1S]at hd2;cases h1:ws[j]? with
    | none=>rw[h1]at hd2;simp at hd2
    | some a =>
     cases h2:ss[j]? with
     | none=>rw[h1,h2]at hd2;simp at hd2
     | some b=>rw[h1,h2]at hd2;exact⟨a,b,(Option.some.inj hd2).symm,rfl,rfl⟩
   obtain⟨k2,hk2,hst⟩:=hss j s' hsj;obtain rfl:k'=k2:=by rw[hkj]at hk2;exact Option.some.inj hk2
   have hb:=hst.bey;have hbA:=bA k' (a1K hkj) i;unfold stV;rw[];refine⟨λh1=>?_,λh1=>⟨_,_,rfl,λj' hj' k3 hk3=>?_⟩⟩
   ·rw[yb hi hkj (by rw[hbA];exact decide_eq_true<|hb.mp h1) hno hn2]at k;exact k
   ·rcases a3f j' j with z|z
    ·exact hn2 j' z k3 hk3
    ·have:j'=j:=by omega
     subst this;rw[hkj]at hk3;obtain rfl:=Option.some.inj hk3;rw[hbA];exact decide_eq_false λz=>h1<|hb.mpr z
  ·rintro e M'' ⟨rfl,z6,z7,rfl,hn2⟩
   have hzl:(Q0 (ws.map λk:Nat=>D.int (k:Int))<|ss.map stV).length=ws.length:=by rw[Z8,a1H,a1H];omega
   rw[hzl]at hn2;rw[];refine o9 (xs:=ss) (enc:=stV) (λs=>stV (s.2.1,t.num*s.2.1 - (t.den:Int)*(t.den:Int)*s.1,s.2.2*(t.den:Int))) (by omega) (by simp only[j5]) (λs hs Q hQ=>?_) ?_
   ·obtain⟨j,hj⟩:=a2C hs;obtain⟨k2,hk2,hst⟩:=hss j s hj;rw[];exact⟨s,rfl,⟨ht,12000+470*i,hst.b1,hst.b2,hst.b3,by omega⟩,hQ⟩
   ·rw[]
    refine⟨ss.map λs=>(s.2.1,t.num*s.2.1 - (t.den:Int)*(t.den:Int)*s.1,s.2.2*(t.den:Int)),some<|.int (i:Int),z6,z7,by rw[a2k];rfl,by rw[a1H];exact hlen,λj s hs=>?_,λn hn k3 hk3=>?_⟩
    ·rw[a1S]at hs;obtain⟨s0,hs0,rfl⟩:=a2d.mp hs;obtain⟨k2,hk2,hst⟩:=hss j s0 hs0;exact⟨k2,hk2,hst.next ht⟩
    ·rcases a3f n i with z|z
     ·exact hno n z k3 hk3
     ·have:n=i:=by omega
      subst this;obtain⟨j,hj⟩:=a2C hk3;exact hn2 j (a1I.mp hj).1 k3 hj
 ·rw[A2];rintro e M' ⟨rfl,ss,z5,z6,z7,rfl,hlen,hss,hno⟩;rw[];rw[yc hno]at k;exact k
example U0 gE sheared_round t x later r _ ratios now «then» bound step ahead:vR 3 73 N4 C8:=by
 obtain⟨t,x,f',r,rfl,⟨ht,hl,h0,hw⟩,k⟩:=h;have es:szs [x,f',r]=sz x+sz f'+sz r:=by unfold szs;simp only[a1Z,a2R,a4C,a5u];omega
 have zx:=hl.x;have zf:=hl.f;have zr:sz r<=3000:=hl.r;have xf:sz x+sz f'<=4200:=hl.xf;have tp:(0<t.num)↔0<t:=by simp[a5l,IT]
 refine⟨_,(b9 (jst 4 sc.nd (g6<|a9 (b7 1)<|a9 (b7 2)<|a9 (b7 3) b8))<|b9 (j7 (jc N4 hr<|a9 (b7 4)<|a9 (jc C8 hr<|a9 (b7 4) b8) b8)<|fm (n:=3) rfl<|c7 (jn 5 sc.nd)<|c7 (jn 6 sc.nd)<|c7 (jn 7 sc.nd) g9)<|b9 (jst 8 sc.nd (e6 J7 (F7 (jtm cE (jx (b7 0) c5) c5) (b7 6)<|R0<|b7 6)<|b7 5))<|b9 (jst 9 sc.nd (F7 (jtm cE (b7 8) c5) (e6 J7 (b7 7)<|b7 5)<|e6 F0 (b7 7)<|b7 5))<|c6<|c8<|e6 F0 (e6 B7 (b7 9)<|l6 cz rfl T.b_abs R7<|a9 (b7 8) b8) c5),?_⟩;rw[];refine⟨[x,f',r],.inl rfl,by omega,λB B0 Bl hB hBp=>⟨[x,f',r],.inl rfl,⟨by show 3<=1000;decide,a1N Bl<|a1X (by decide)<|by omega,B0,λq hq=>⟨hB q hq,?_⟩⟩,?_⟩⟩
 ·have:=jK hq;omega
 obtain⟨o1,o2⟩:=J5 (hB x<|by simp);obtain⟨p1,p2⟩:=J5 (hB f'<|by simp);obtain⟨q1,q2⟩:=J5 (hB r<|by simp);have hBp:B ∣ x.den*(f'.den*r.den):=by simpa using hBp
 have o3:(x.num*(B:Int).fdiv (x.den:Int)).natAbs<2 ^ 8000:=AZ (hB x<|by simp) hBp (A6 x) (a4x f'.den_pos r.den_pos) (r9 (l5 f'<|a1U _)<|l5 r<|a1U _) (by omega);have p3:(f'.num*(B:Int).fdiv (f'.den:Int)).natAbs<2 ^ 8000:=AZ (hB f'<|by simp) (by simp_all [Nat.mul_left_comm]) (A6 f') (a4x x.den_pos r.den_pos) (r9 (l5 x<|a1U _)<|l5 r<|a1U _) (by omega);have hdn:=yg ht hw;have B0':(0:Rat)<(B:Rat):=by exact_mod_cast B0
 rw[];generalize x.num*(B:Int).fdiv x.den=a at *
 generalize f'.num*(B:Int).fdiv f'.den=b at *
 generalize r.num*(B:Int).fdiv r.den=c at *
 have fin:∀ bb:Int,bb.natAbs<2 ^ 8000->bb=(if 0<t then f' else -f')*B->∀ g,g=(if 0<bb - a then c - a else c+a)->CFd g (((bb - a).natAbs):Int)/\R (.int<|g.fdiv (((bb - a).natAbs):Int)+1) M:=λbb hbb ebb g hg=>by
  generalize hd:(if 0<t then f' else -f') - x=d at *
  have es2:((bb - a:Int):Rat)=d*B:=by rw[a2E,ebb,o1,<- hd];grind
  have sp:(0<bb - a)↔0<d:=by
   have e1:(0<bb - a)↔(0:Rat)<((bb - a:Int):Rat):=by exact_mod_cast Iff.rfl
   rw[e1,es2];constructor
   ·intro z;apply a2v;intro nz;have:=a2o (a:=-d) (b:=B) (by grind) (by grind);grind
   simp_all [a3h]
  have sne:bb - a≠0:=λz=>by grind
  have sl:=de hbb o3;have sz1:(((bb - a).natAbs:Nat):Rat)=k9 d*B:=by rw[<- CY,es2,Lk,show k9 B=B by unfold k9;rw[if_pos<|by grind]]
  have hgq:(g:Rat)=(if 0<d then r - x else r+x)*B:=by
   rw[hg];by_cases h:0<d
   ·rw[if_pos<|sp.mpr h,if_pos h,a2E,q1,o1];grind
   ·rw[if_neg λz=>h<|sp.mp z,if_neg h,a3c,q1,o1];grind
  have xr:x<=r/\-r<=x:=by unfold k9 at h0;split at h0<;>exact⟨by grind,by grind⟩
  have g0:0<=g:=by
   have:(0:Rat)<=(g:Rat):=by rw[hgq];refine a2o ?_ (by grind);split<;>grind
   exact_mod_cast this
  obtain⟨G,rfl⟩:∃ G:Nat,g=G:=⟨g.toNat,by omega⟩;generalize hS:(bb - a).natAbs=Sn at *
  have S0:0<Sn:=by omega
  refine⟨⟨by omega,by rw[a1G];exact a1F (v6 sl<|by decide)<|by decide⟩,?_⟩;rw[E1 (by omega)<|by omega];have eN:((G:Int) / (Sn:Int))+1=((G / Sn+1:Nat)):=by rfl
  rw[eN];have d1:=Nat.div_mul_le_self G Sn;have d2:G<(G / Sn+1)*Sn:=by rw[Nat.add_mul,a5c];exact Nat.lt_div_mul_add S0
  generalize G / Sn=N at *
  have f1:(N:Rat)*(Sn:Rat)<=(G:Rat):=by exact_mod_cast d1
  have f2:(G:Rat)<((N:Rat)+1)*(Sn:Rat):=by exact_mod_cast d2
  have hgq:(G:Rat)=(if 0<d then r - x else r+x)*B:=hgq;rw[sz1,hgq]at f1 f2;have hsd:qJ t (x,f',r)=d:=hd;have hah:xI t (x,f',r)=if 0<d then r - x else r+x:=by unfold xI;rw[hsd]
  refine k _ ⟨N,rfl,?_,?_⟩
  ·rw[hsd,hah];apply a2v;intro nz;have:=a3h (a:=N*k9 d - (if 0<d then r - x else r+x)) (by grind) B0';grind
  ·rw[hsd,hah];apply a2v;intro nz;have:=a2o (a:=(if 0<d then r - x else r+x) - (N+1)*k9 d) (b:=B) (by grind) (by grind);grind
 refine⟨λh=>?_,λh=>?_⟩
 ·have:=fin b p3 (by rw[if_pos<|tp.mp h];exact p1);exact⟨λh2=>this _<|by rw[if_pos h2],λh2=>this _<|by rw[if_neg h2]⟩
 ·have:=fin (-b) (by rw[a2u];exact p3) (by rw[if_neg λz=>h<|tp.mpr z,Rat.intCast_neg,p1];grind);exact⟨λh2=>this _<|by rw[if_pos h2],λh2=>this _<|by rw[if_neg h2]⟩
example U2 gG first_sheared t numbers late _ stops k x later r:HG 4 74 U0:=by
 obtain⟨t,x,y,rfl,ls,ws,rfl,rfl,⟨ht,⟨hl,hwl⟩,hok,hk⟩,k⟩:=h;refine⟨_,(b9 (jst 3 sc.nd (F6 b8))<|b9 (p8 PassesOwn.never rfl (n6<|b7 2) (jn 4 sc.nd)<|b9 (j7 (jx (b7 1)<|b7 4)<|i6 (n:=3) rfl<|c7 (jn 5 sc.nd)<|c7 (jn 6 sc.nd)<|c7 (jn 7 sc.nd) g9)<|c6<|v9<|Y8 PySem.F.slot_list_append PySem.F.type_list_append B6 (b7 3)<|a9 (g6<|a9 (jc U0 hr<|a9 (b7 0)<|a9 (b7 5)<|a9 (b7 6)<|a9 (b7 7) b8)<|a9 (b7 4) b8) b8)<|c6<|c8<|ar<|OK hu rfl rfl T.b_min Vn<|a9 (aq<|b7 3) b8),?_⟩;rw[];intro p hp;refine R9.by (λi e M'=>∃(ps:List (Int × Int)) (z4 z5 z6 z7:Option D),e=[some<|d6 t,some<|D.vl<|ls.map j4,some<|D.vl (ws.map λk:Nat=>D.int (k:Int)),some<|.ref p,z4,z5,z6,z7]/\M'=l9 M p (.lst<|ps.map mr)/\ps.length=i/\∀(j:Nat) (q:Int × Int),ps[j]? = some q->∃(N k:Nat) (l:Rat × Rat × Rat),q=((N:Int),(k:Int))/\ws[j]? = some k/\ls[k]? = some l/\ShN t l N) ⟨[],_,_,_,_,rfl,rfl,rfl,λj q h=>by simp at h⟩ (λ_ _ _ _ _=>by simp only[j5]) ?_ ?_
 ·rintro i dd e M' hd ⟨ps,z4,z5,z6,z7,rfl,rfl,hpl,hps⟩
  rw[a1S]at hd;obtain⟨k1,hk1,rfl⟩:=a2d.mp hd;obtain⟨l,hl1,hsw⟩:=hk k1<|a1K hk1;obtain⟨ok,h0⟩:=hok l<|a1K hl1;have hi:=(a1I.mp hk1).1;rw[];refine⟨j4 l,E3 (n:=k1)<|by rw[a1S,hl1];rfl,?_⟩;rw[];refine K9 f7 ⟨⟨ht,ok,h0,hsw⟩,λN b1=>?_⟩;rw[];refine aM f7 (by rw[a1H];omega) ⟨ps++[((N:Int),(k1:Int))],_,_,_,_,rfl,?_,by rw[a1V,hpl];rfl,λj q hq=>?_⟩
  ·rw[O1,a11];rfl
  ·rcases a3f j ps.length with z|z
   ·rw[a2P z]at hq;exact hps j q hq
   ·rw[a22 z]at hq
    have hj:j - ps.length=0:=by have:=(a1I.mp hq).1;simp at this;omega
    rw[hj]at hq;have e5:q=((N:Int),(k1:Int)):=by simpa using hq.symm
    exact⟨N,k1,l,e5,by rw[show j=i by omega];exact hk1,hl1,b1⟩
 ·rintro e M' ⟨ps,z4,z5,z6,z7,rfl,rfl,hpl,hps⟩
  rw[a1H]at hpl;rw[];rw[kY f7,U5 hp];rw[];refine SE.mpr ⟨λz=>cT (M2:=M) (λ_ _ h=>h)<|k none<|.inl ⟨a3i<|by rw[z]at hpl;exact hpl.symm,rfl⟩,λq hq hm=>cT (M2:=M) (λ_ _ h=>h) ?_⟩;obtain⟨j,hj⟩:=a2C hq;obtain⟨N,k1,l,rfl,hw1,hl1,b1⟩:=hps j q hj;refine k (some (N,k1))<|.inr ⟨N,k1,l,a1K hw1,hl1,b1,rfl,λk' hk'=>?_⟩;obtain⟨j',hj'⟩:=a2C hk';have hlt:j'<ps.length:=by rw[hpl];exact(a1I.mp hj').1
  have hq':=a1T hlt;obtain⟨N',k2,l',e5,hw2,hl2,b4⟩:=hps j' _ hq';rw[hj']at hw2;obtain rfl:=Option.some.inj hw2;have:=hm _<|a3Q hlt;rw[e5]at this;exact⟨l',N',hl2,b4,λz=>this<|by omega⟩
example ck oK first_stop table numbers late _ k x later r t word:vU 7 75 aw U2 y8 F9 P3 bw J9:=by
 obtain⟨x,y,z,rfl,m,ls,rfl,rfl,rfl,⟨cd,hl,hok⟩,k⟩:=h;have zt:sz (trQ m)<=231:=CD.tr cd;refine⟨_,(b9 (p8 PassesOwn.never rfl (ao rfl T.b_enumerate<|a9 (b7 1) b8) (i6 (n:=2) rfl<|c7 (jn 3 sc.nd)<|c7 (i6 (n:=3) rfl<|c7 (jn 4 sc.nd)<|c7 (jn 5 sc.nd)<|c7 (jn 6 sc.nd) g9) g9)<|c6<|g7 (p7<|jc bw hr<|a9 (b7 6)<|a9 (jc J9 hr<|a9 (b7 4) b8) b8) (c6<|c8<|g6<|a9 c5<|a9 (b7 3) b8) f6)<|b9 (jst 7 sc.nd (jc P3 hr<|a9 (b7 0) b8))<|b9 (jst 8 sc.nd (jc F9 hr<|a9 (b7 0) b8))<|b9 (g7 (jtm n9 (b7 8) f9) (c6<|c8<|jc aw hr<|a9 (b7 7)<|a9 (b7 1)<|a9 (fo rfl rfl T.b_list X5 rfl T.b_range<|a9 (l6 K2 rfl T.b_len B3<|a9 (b7 1) b8) b8)<|a9 (jc y8 hr<|a9 (b7 0) b8) b8) f6)<|b9 (g7 (jtm n9 (b7 8) f9) (c6<|c8<|jc U2 hr<|a9 (b7 7)<|a9 (b7 1)<|a9 (b7 2) b8) f6)<|c6<|c8<|jc aw hr<|a9 (b7 7)<|a9 (b7 1)<|a9 (b7 2)<|a9 (i9 rfl T.c_FIRST_ROUNDS) b8),?_⟩;rw[];rw[CI];refine R9.by (λi e M'=>M'=M/\(∃ z3 z4 z5 z6 z7 z8:Option D,e=[some<|K5 m,some<|D.vl<|ls.map j4,some<|D.vl ((D3 m ls).map λk:Nat=>D.int (k:Int)),z3,z4,z5,z6,z7,z8])/\∀(j:Nat) l,j<i->ls[j]? = some l->¬ l.2.2<k9 l.1) ⟨rfl,⟨_,_,_,_,_,_,rfl⟩,λj l hj=>absurd hj<|by omega⟩ (λ_ _ _ _ _=>by simp only[j5]) ?_ ?_
 ·rintro i dd e M' hd2 ⟨rfl,⟨z3,z4,z5,z6,z7,z8,rfl⟩,hno⟩
  rw[a1S]at hd2;obtain⟨zz,hz,rfl⟩:=a2d.mp hd2;obtain⟨l,rfl,hli⟩:∃ l,zz=(l,i)/\ls[i]? = some l:=by rw[List.getElem?_zipIdx]at hz;obtain⟨l,hl1,e5⟩:=a2d.mp hz;exact⟨l,by rw[<- e5];simp,hl1⟩
  have ok:=hok l<|a1K hli;have:=ok.x;have:=ok.r;have ax:=Q6 l.1;rw[];refine⟨by omega,λh1=>k (some (0,i))<|.inl ⟨i,l,hli,h1,λj hj l'=>hno j l' hj,rfl⟩,λh1=>⟨⟨_,_,_,_,_,_,rfl⟩,λj l' hj hl'=>?_⟩⟩;rcases a3f j i with z|z
  ·exact hno j l' z hl'
  ·obtain rfl:j=i:=by omega
   rw[hli]at hl';obtain rfl:=Option.some.inj hl';exact h1
 ·rw[a1H,a29]
  rintro e M' ⟨rfl,⟨z3,z4,z5,z6,z7,z8,rfl⟩,hno⟩;have h0:∀ l∈ls,¬ l.2.2<k9 l.1:=λl hl=>by obtain⟨j,hj⟩:=a2C hl;exact hno j l (a1I.mp hj).1 hj
  have ll:(D3 m ls).length<=40:=by unfold D3;rw[a1H];have:=a2w (λz:(Rat × Rat × Rat) × Nat=>fj m z.1.1 z.1.2.1 z.1.2.2) ls.zipIdx;rw[a29]at this;omega
  rw[];refine⟨m,rfl,cd,m,rfl,cd,λhsm=>?_,λhsm=>⟨λhsh=>?_,λhsh=>?_⟩⟩
  ·have hs:G3 m:=by
    rcases F4 m with⟨c1,_⟩|⟨_,_,e⟩|⟨_,_,_,e⟩|⟨_,_,_,e⟩
    ·exact c1
    ·rw[e]at hsm;exact absurd hsm<|by decide
    ·rw[e]at hsm;exact absurd hsm<|by decide
    ·rw[e]at hsm;exact absurd hsm<|by decide
   have rt6:rtN m<=6:=by
    unfold rtN;repeat' split
    all_goals decide
   rw[Wv]
   rw[]
   refine⟨ls.length,by rw[a1H],by omega,m,rfl,cd,?_⟩
   rw[rR m hs]
   exact(cU (N:=rtN m)).mpr ⟨ls,a2c ls.length,rfl,rfl,⟨zt,⟨hl,by rw[a3e];exact hl⟩,by omega,hok,λj hj=>a2t.mp hj⟩,k _<|.inr ⟨h0,by rw[if_pos hsm]⟩⟩
  ·obtain⟨hs,h2⟩:¬ G3 m/\k9 (trQ m)=2:=by
    rcases F4 m with⟨_,e⟩|⟨c1,c2,_⟩|⟨_,_,_,e⟩|⟨_,_,_,e⟩
    ·exact absurd e hsm
    ·exact⟨c1,c2⟩
    ·rw[e]at hsh;exact absurd hsh<|by decide
    ·rw[e]at hsh;exact absurd hsh<|by decide
   have h3:¬ k9 (trQ m)<2:=by rw[h2];decide
   refine⟨ls,D3 m ls,rfl,rfl,⟨h2,⟨hl,ll⟩,λl h=>⟨hok l h,h0 l h⟩,λj hj=>?_⟩,λo ho=>k o<|.inr ⟨h0,by rw[if_neg hsm,if_pos hsh];exact ho⟩⟩
   obtain⟨l,e1,e2⟩:=mS.mp hj
   refine⟨l,e1,λz=>?_⟩
   unfold fj at e2
   rw[if_neg hs,if_neg h3,if_neg λw=>w z,if_pos h2]at e2
   cases e2
  ·exact(cU (N:=60)).mpr ⟨ls,D3 m ls,rfl,rfl,⟨zt,⟨hl,ll⟩,by decide,hok,λj hj=>Cd hj⟩,k _<|.inr ⟨h0,by rw[if_neg hsm,if_neg hsh]⟩⟩
abbrev nh:Prop:=Fn P w K U J "less" 1 ["one","other"] Hy
def yz(T:Txt K U w.params)(d:Df K U "less" (top 25) ["one","other"]):nh P w K U J:=by have sc:=Bm;rw[8];obtain⟨q,T',B,rfl,⟨b0,zq,zB,zT⟩,k⟩:=h;have e:decide (q<a2r T' B)=decide (q.num*B<T'*q.den):=decide_eq_decide.mpr (Jd b0).symm;rw[e]at k;refine⟨_,(c6<|c8<|jm gO (e6 j0 (jx (b7 0) c5)<|jx (b7 1) c5)<|e6 j0 (jx (b7 1) c5)<|jx (b7 0) c5),?_⟩;rw[];exact⟨j9 _ _ (u4 q zq) zB<|by decide,j9 _ _ zT (by rw[a1G];exact l5 q zq)<|by decide,k⟩
example bS ou shows_late word t x later r:By 5 68 bw J9 nc nh aA F8:=by
 obtain⟨w',t,x,f',r,rfl,m,rfl,rfl,⟨cd,hd,hz,hr',r0⟩,k⟩:=h;have zt:sz (trQ m)<=231:=CD.tr cd;have zr:=RM.A0 r r;have ax:=Q6 x;have af:=Q6 f';have dn:((trQ m).den:Rat)≠0:=by intro z;exact(trQ m).den_nz (by exact_mod_cast z)
 have tz:∀{T B:Int},0<B->(T:Rat)=(trQ m).den*(x*x - trQ m*(x*f')+f'*f')*B->(T=0↔swQ (trQ m) x f'=0):=λ{T B} b0 e=>by
  have hB:(B:Rat)≠0:=by intro z;exact absurd (show B=0 by exact_mod_cast z)<|by omega
  unfold swQ;generalize x*x - trQ m*(x*f')+f'*f'=v at *
  constructor
  ·intro z;rw[z]at e;have e:(0:Rat)=(trQ m).den*v*B:=e;grind
  ·intro z
   rw[z]at e;have:(T:Rat)=0:=by grind
   exact_mod_cast this
 unfold fj at k;refine⟨_,(b9 (g7 (jtm n9 (b7 0) f9) (c6<|c8 jb) f6)<|b9 (g7 (jtm n9 (b7 0) f9) (c6<|c8<|jc nh hr<|a9 (jc F8 hr<|a9 (b7 4)<|a9 (b7 4) b8)<|a9 (jc aA hr<|a9 (b7 1)<|a9 (b7 2)<|a9 (b7 3) b8) b8) f6)<|b9 (g7 (jtm mI (jx (jc nc hr<|a9 (b7 1)<|a9 (b7 2)<|a9 (b7 3) b8) c5) c5) (c6<|c8 jb) f6)<|c6<|c8<|Cf (jm n9 (b7 0) f9)<|kC<|Jm (jc bw hr<|a9 (jc J9 hr<|a9 (b7 2) b8)<|a9 (jc J9 hr<|a9 (b7 3) b8) b8)<|kC<|jc bw hr<|a9 (b7 4)<|a9 (jc J9 hr<|a9 (b7 2) b8) b8),?_⟩;rw[];rcases F4 m with⟨c1,e⟩|⟨c1,c2,e⟩|⟨c1,c2,c3,e⟩|⟨c1,c2,c3,e⟩
 ·rw[e];rw[if_pos c1]at k;exact⟨λ_=>k,λh=>absurd rfl h⟩
 ·have c3:¬ k9 (trQ m)<2:=by rw[c2];decide
  rw[if_neg c1,if_neg c3]at k;rw[e];refine⟨λh=>absurd h<|by decide,λ_=>⟨λh=>absurd h<|by decide,λ_=>⟨⟨zt,hz⟩,λT' B b0 bB bT eT=>⟨λh=>?_,λh=>⟨λh=>absurd h<|by decide,λ_=>?_⟩⟩⟩⟩⟩
  ·rw[if_pos λz=>h<|(tz b0 eT).mpr z]at k;exact k
  ·rw[if_neg λz=>z<|(tz b0 eT).mp h,if_pos c2]at k;exact k
 ·rw[if_neg c1,if_pos c3]at k;rw[e];obtain⟨t1,t2⟩:=CW.mp c3;refine⟨λh=>absurd h<|by decide,λ_=>⟨λ_=>⟨by omega,⟨zt,t1,t2,hz⟩,λT' B b0 bB bT eT=>⟨⟨b0,by omega,u0 bB<|by decide,u0 bT<|by decide⟩,?_⟩⟩,λh=>absurd rfl h⟩⟩;rw[eT];exact k
 ·rw[if_neg c1,if_neg c3]at k
  rw[e];refine⟨λh=>absurd h<|by decide,λ_=>⟨λh=>absurd h<|by decide,λ_=>⟨⟨zt,hz⟩,λT' B b0 bB bT eT=>⟨λh=>?_,λh=>⟨λ_=>⟨by omega,λh2=>?_,λh2=>⟨by omega,?_⟩⟩,λh=>absurd rfl h⟩⟩⟩⟩⟩
  ·rw[if_pos λz=>h<|(tz b0 eT).mpr z]at k;exact k
  ·rw[if_neg λz=>z<|(tz b0 eT).mp h,if_neg c2,decide_eq_true<|.inl h2]at k;exact k
  ·rw[if_neg λz=>z<|(tz b0 eT).mp h,if_neg c2]at k;rw[show decide (k9 x<k9 f'\/r<k9 x)=decide (r<k9 x)from decide_eq_decide.mpr ⟨λz=>z.resolve_left h2,.inr⟩]at k;exact k
example cc oH late_lines table numbers _ word t:BF 7 69 bS P3 F9:=by
 obtain⟨x,y,rfl,m,ls,rfl,rfl,⟨cd,hd,hl,hok⟩,k⟩:=h;refine⟨_,(b9 (jst 2 sc.nd (jc F9 hr<|a9 (b7 0) b8))<|b9 (jst 3 sc.nd (jc P3 hr<|a9 (b7 0) b8))<|c6<|c8<|u3 [2,3] ["k","x","later","r"] ["word","t"] rfl (by rw[0]) rfl (by rw[0]) (by rw[0]) rfl (Ew ⟨rfl,rfl⟩ ⟨rfl,rfl⟩) (Ew (Or.inl rfl)<|Or.inl rfl) (ao rfl T.b_enumerate<|a9 (b7 1) b8) (λ_ _ _ _ _ _=>(i6 (n:=2) rfl<|c7 (jn 0 (show(["k","x","later","r","word","t"]:List Str).Nodup by rw[0]))<|c7 (i6 (n:=3) rfl<|c7 (jn 1 (show(["k","x","later","r","word","t"]:List Str).Nodup by rw[0]))<|c7 (jn 2 (show(["k","x","later","r","word","t"]:List Str).Nodup by rw[0]))<|c7 (jn 3 (show(["k","x","later","r","word","t"]:List Str).Nodup by rw[0])) g9) g9)) (λ_ _ _ _ _ _=>(N9<|p7<|jc bS hr<|a9 (b7 4)<|a9 (b7 5)<|a9 (b7 1)<|a9 (b7 2)<|a9 (b7 3) b8)) λ_ _ _ _ _ _=>(b7 0)),?_⟩;rw[];refine⟨m,rfl,cd,m,rfl,cd,?_⟩;rw[CI];refine B2 (λz=>fj m z.1.1 z.1.2.1 z.1.2.2) (λz=>D.int (z.2:Int)) (by rw[a29];omega) (by simp only[j5]) (λz hz Q N h1 h2=>?_) ?_
 ·have ok:=hok z.1<|a1K<|a3m.mp hz;rw[];refine⟨m,rfl,rfl,⟨cd,hd,ok.xf,ok.r,ok.p⟩,?_⟩;rw[];exact⟨h1,h2⟩
 ·rw[show(ls.zipIdx.filter λz=>fj m z.1.1 z.1.2.1 z.1.2.2).map (λz=>D.int (z.2:Int))=(D3 m ls).map λk:Nat=>D.int (k:Int)by unfold D3;rw[a2k];rfl];exact k
example fF sE number_of p q ray:Hx 4 58 W6 F8:=by obtain⟨p,q,y,u,rfl,hz,k⟩:=h;have z1:=RM.A0 p y;have z2:=RM.A0 q u;refine⟨_,(c6<|c8<|jc W6 hr<|a9 (jc F8 hr<|a9 (b7 0)<|a9 (jx (b7 2) c5) b8)<|a9 (jc F8 hr<|a9 (b7 1)<|a9 (jx (b7 2) c5) b8) b8),?_⟩;rw[];exact⟨by omega,by omega,by omega,k⟩
example JQ Ul led table ray _ a b c d y u:Xi 4 32 W6 F8:=by obtain⟨a,b,c,d,y,u,rfl,h1,h2,k⟩:=h;refine⟨_,(b9 (j7 (b7 0)<|i6 (n:=4) rfl<|c7 (jn 2 sc.nd)<|c7 (jn 3 sc.nd)<|c7 (jn 4 sc.nd)<|c7 (jn 5 sc.nd) g9)<|b9 (j7 (b7 1)<|i6 (n:=2) rfl<|c7 (jn 6 sc.nd)<|c7 (jn 7 sc.nd) g9)<|c6<|c8<|g6<|a9 (jc W6 hr<|a9 (jc F8 hr<|a9 (b7 2)<|a9 (b7 6) b8)<|a9 (jc F8 hr<|a9 (b7 3)<|a9 (b7 7) b8) b8)<|a9 (jc W6 hr<|a9 (jc F8 hr<|a9 (b7 4)<|a9 (b7 6) b8)<|a9 (jc F8 hr<|a9 (b7 5)<|a9 (b7 7) b8) b8) b8),?_⟩;rw[];exact⟨by rw[13],by rw[13],by rw[13],by rw[13],by rw[13],by rw[13],k⟩
example fJ sI first_two table ray lines _ later:me 5 67 fF JQ:=by
 obtain⟨x,y,u,z,rfl,L,ls,rfl,rfl,⟨S,cL,cd0,hS,hl,hs⟩,k⟩:=h;have cd:CD 1700 y 0 u 0:=cd0.mono hS;have ol:=kr L y u;have ray:=(rS cL cd).t2;have r1:=ray.y;have r2:=ray.u;have ty:=cd.t2.y;have tu:=cd.t2.u;have o1:(k8 L (y,u)).1=(tbQ L).1*y+(tbQ L).2.1*u:=ol.1;have o2:(k8 L (y,u)).2=(tbQ L).2.2.1*y+(tbQ L).2.2.2*u:=ol.2;have t4:=CD.t4 cL;rw[o1]at r1;rw[o2]at r2;rw[a2k]at k;unfold K5;refine⟨_,(b9 (jst 3 sc.nd (jc JQ hr<|a9 (b7 0)<|a9 (b7 1) b8))<|c6<|c8<|u3 [1,3] ["p","q","r"] ["ray","later"] rfl (by rw[0]) rfl (by rw[0]) (by rw[0]) rfl (Ew ⟨rfl,rfl⟩ ⟨rfl,rfl⟩) (Ew (Or.inl rfl)<|Or.inl rfl) (n6<|b7 2) (λ_ _ _ _ _ _=>(i6 (n:=3) rfl<|c7 (jn 0 (show(["p","q","r","ray","later"]:List Str).Nodup by rw[0]))<|c7 (jn 1 (show(["p","q","r","ray","later"]:List Str).Nodup by rw[0]))<|c7 (jn 2 (show(["p","q","r","ray","later"]:List Str).Nodup by rw[0])) g9)) (λ_ _ _ _ _ _=>n8) λ_ _ _ _ _ _=>(g6<|a9 (jc fF hr<|a9 (b7 0)<|a9 (b7 1)<|a9 (b7 3) b8)<|a9 (jc fF hr<|a9 (b7 0)<|a9 (b7 1)<|a9 (b7 4) b8)<|a9 (b7 2) b8)),?_⟩;rw[];generalize tbQ L=m at *
 obtain⟨a,b,c,d⟩:=m;have z3:sz a<=230:=t4.a;have z4:sz b<=230:=t4.b;have z5:sz c<=230:=t4.c;have z6:sz d<=230:=t4.d;have r1:sz (a*y+b*u)<=230+1700+1:=r1;have r2:sz (c*y+d*u)<=230+1700+1:=r2;have o1:(k8 L (y,u)).1=a*y+b*u:=o1;have o2:(k8 L (y,u)).2=c*y+d*u:=o2;refine⟨by show sz a+sz y+(sz b+sz u)<=8900;omega,by show sz c+sz y+(sz d+sz u)<=8900;omega,?_⟩;refine o9 (xs:=ls) (enc:=j4) (λl=>j4<|sR L y u l) (by omega) (by simp only[j5]) (λl hl Q hQ=>?_) k;obtain⟨q1,q2⟩:=hs l hl;unfold j4 sR at *
 rw[o1,o2]at hQ;rw[];exact⟨by omega,by omega,hQ⟩
example Y9 jA turned_bench bench:Bv 1 44:=by obtain⟨xs,rfl,k⟩:=h;refine⟨_,(c6<|c8<|yP rfl rfl T.b_list X5 rfl T.b_reversed aI<|b7 0),?_⟩;rw[];exact k
example O5 mB round_bench hall _ near bench far:BB 2 49 Y9:=by
 obtain⟨near,bs,far,rfl,hl,k⟩:=h;refine⟨_,(b9 (j7 (b7 0)<|i6 (n:=3) rfl<|c7 (jn 1 sc.nd)<|c7 (jn 2 sc.nd)<|c7 (jn 3 sc.nd) g9)<|c6<|c8<|D8 (D8 (D8 (mU rfl T.b_list X5<|a9 (b7 2) b8)<|u5<|a9 (g6<|a9 f9<|a9 (b7 3) b8) b8)<|jc Y9 hr<|a9 (b7 2) b8)<|u5<|a9 (g6<|a9 f9<|a9 (b7 1) b8) b8),?_⟩;rw[];have l1:(bs.map i8).length=bs.length:=a1H ..;have hs:1000<=sizeLine:=by decide
 refine⟨by omega,by simp only[a1V,a2n,a15,a3D];omega,by simp only[a1V,a2n,a15,a3D];omega,?_⟩;rw[show j3 near bs far=bs++[(a1B "glass",far)]++bs.reverse++[(a1B "glass",near)]from rfl,a11,a11,a11,a3w]at k;exact k
example cg oI hall_lines hall _ forth back lines:HE 7 66 P4 O5:=by
 obtain⟨near,bs,far,rfl,hok,k⟩:=h;have hs:=hok.szs;have hc:=hok.cd;have hl:=hok.len;have hl2:=au near far bs;have fl:=OW bs;have sz1:1000<=sizeLine:=by decide
 refine⟨_,(b9 (C7 (i:=1) [] ["number","part"] [] sc.nd rfl (Or.inl rfl) rfl (by rw[0]) rfl (by rw[0]) (by rw[0]) rfl O9 O9 (ao rfl T.b_enumerate<|a9 (jx (b7 0) c5) b8) (λ_ _ _ _ _ _=>(i6 (n:=2) rfl<|c7 (jn 0 (show(["number","part"]:List Str).Nodup by rw[0]))<|c7 (jn 1 (show(["number","part"]:List Str).Nodup by rw[0])) g9)) (λ_ _ _ _ _ _=>(N9<|jtm n9 (jx (b7 1) c5) f9)) λ_ _ _ _ _ _=>(g6<|a9 f9<|a9 (b7 0) b8))<|b9 (C7 (i:=2) [] ["way","number"] [] sc.nd rfl (Or.inl rfl) rfl (by rw[0]) rfl (by rw[0]) (by rw[0]) rfl O9 O9 (Jg rfl T.b_reversed aI<|a9 (b7 1) b8) (λ_ _ _ _ _ _=>(i6 (n:=2) rfl<|c7 (jn 0 (show(["way","number"]:List Str).Nodup by rw[0]))<|c7 (jn 1 (show(["way","number"]:List Str).Nodup by rw[0])) g9)) (λ_ _ _ _ _ _=>n8) λ_ _ _ _ _ _=>(g6<|a9 f9<|a9 (b7 1) b8))<|b9 (jst 3 sc.nd (jc P4 hr<|a9 (jc O5 hr<|a9 (b7 0) b8) b8))<|c6<|c8<|xh [] ["line","way","number"] [] rfl (by rw[0]) rfl (by rw[0]) (by rw[0]) rfl O9 O9 (kA rfl T.b_zip<|a9 (D8 (b7 1)<|b7 2)<|a9 (b7 3) b8) (λ_ _ _ _ _ _=>(i6 (n:=2) rfl<|c7 (i6 (n:=2) rfl<|c7 (jn 1 (show(["line","way","number"]:List Str).Nodup by rw[0]))<|c7 (jn 2 (show(["line","way","number"]:List Str).Nodup by rw[0])) g9)<|c7 (jn 0 (show(["line","way","number"]:List Str).Nodup by rw[0])) g9)) (λ_ _ _ _ _ _=>n8) λ_ _ _ _ _ _=>(g6<|a9 (b7 1)<|a9 (b7 2)<|a9 (b7 0) b8)),?_⟩;rw[];rw[Ed];refine B2 (xs:=bs.zipIdx) (λx=>x.1.1 == a1B "stop") fwD (by rw[a29];omega) (by simp only[j5,u9]) (λx hx Q N h1 h2=>?_) ?_
 ·rw[];exact⟨λe=>h1<|by rw[e];exact beq_self_eq_true _,λe=>h2<|beq_eq_false_iff_ne.mpr e⟩
 ·rw[]
  rw[show a5a (λx:(Str × Rat) × Nat=>x.1.1 == a1B "stop") bs.zipIdx=frW bs from rfl,<- a3w];refine o9 (xs:=(frW bs).reverse) (enc:=fwD) bwD (by rw[a2n];omega) trivial (λx hx Q hQ=>?_) ?_
  ·unfold fwD;rw[];exact hQ
  ·rw[]
   refine⟨hl,⟨⟨hs,by omega⟩,hc⟩,a1N (by rw[a1H,a1H,a2n];omega) sz1,?_⟩;rw[UZ near far bs,Sz];have zl:=S5 (j3 near bs far) (j3 near bs far).length;refine o9 (λz=>hlD z.1 z.2) (by rw[a4W];omega) (by simp only[j5,and_self]) (λz hz Q hQ=>?_) ?_
   ·unfold prD;rw[];exact hQ
   ·rw[UM];exact k
example cp oM by_columns first second:pX 1 33:=by obtain⟨a,b,c,d,rfl,k⟩:=h;refine⟨_,(c6<|c8<|g6<|a9 (jx (b7 0) c5)<|a9 (jx (b7 1) c5)<|a9 (jx (b7 0) c5)<|a9 (jx (b7 1) c5) b8),?_⟩;rw[];exact k
example jd wB table_of bench _ first second part:Ra 6 43 cp O6:=by
 obtain⟨bs,rfl,⟨⟨hz,hl⟩,hc⟩,k⟩:=h;refine⟨_,(b9 (jst 1 sc.nd (i9 rfl T.c_LEVEL_RAY))<|b9 (jst 2 sc.nd (i9 rfl T.c_AXIS_RAY))<|b9 (p8 PassesOwn.never rfl (n6<|b7 0) (jn 3 sc.nd)<|b9 (jst 1 sc.nd (jc O6 hr<|a9 (b7 3)<|a9 (b7 1) b8))<|c6<|jst 2 sc.nd (jc O6 hr<|a9 (b7 3)<|a9 (b7 2) b8))<|c6<|c8<|jc cp hr<|a9 (b7 1)<|a9 (b7 2) b8),?_⟩;rw[];refine R9.by (λi e M'=>M'=M/\∃ z:Option D,e=[some _,some<|o7 (k8 (bs.take i) (1,0)).1 (k8 (bs.take i) (1,0)).2,some<|o7 (k8 (bs.take i) (0,1)).1 (k8 (bs.take i) (0,1)).2,z]) ⟨rfl,_,rfl⟩ (λi e M' _ _=>by simp only[j5]) ?_ ?_
 ·rintro i dd e M' hd ⟨rfl,z,rfl⟩;obtain⟨pt,hpt,rfl⟩:=gC hd;have t4:=CD.t4<|hc i;have a1:sz (k8 (bs.take i) (1,0)).1<=230:=t4.a;have a2:sz (k8 (bs.take i) (0,1)).1<=230:=t4.b;have b1:sz (k8 (bs.take i) (1,0)).2<=230:=t4.c;have b2:sz (k8 (bs.take i) (0,1)).2<=230:=t4.d;have q2:=hz pt<|a1K hpt;have o1:=eZ hpt (1,0);have o2:=eZ hpt (0,1);rw[];rw[<- o1,<- o2];exact⟨by omega,by omega,_,rfl⟩
 ·rw[a1H];rintro e M' ⟨rfl,z,rfl⟩;rw[a2l];rw[];exact k
example ay wF round_of hall:Hs 7 50 jd O5:=by obtain⟨near,bs,far,rfl,hok,k⟩:=h;have hs:=hok.szs;have hc:=hok.cd;have hl:=hok.len;have hl2:=au near far bs;refine⟨_,(c6<|c8<|jc jd hr<|a9 (jc O5 hr<|a9 (b7 0) b8) b8),?_⟩;rw[];exact⟨hl,⟨⟨hs,by omega⟩,hc⟩,k⟩
example tE Oj ever hall ray _ table met numbers late stop passed k word:BL 8 77 jf F9 ck cc fJ cg ay:=by
 obtain⟨near,bs,far,y,u,rfl,⟨hw,S,cd,hS⟩,k⟩:=h;have cL:=hw.cd (j3 near bs far).length;rw[a2l]at cL;have dL:=Gv<|j3 near bs far;have lsl:=S5 (j3 near bs far) (j3 near bs far).length;have hl2:=au near far bs;have hbl:=hw.len;have hN:=Jw hw cd hS;have hNl:=DZ near far bs y u;have hmet:∀ j l,(E7 near bs far y u)[j]? = some l->∃(w0:D × D) (l0:Rat × Rat × Rat),(hlN (j6 near bs far) (j6 near bs far).length)[j]? = some (hlD w0 l0)/\(G0 (j6 near bs far) (j6 near bs far).length).getD j (.non,.non)=w0:=λj l hj=>by
  unfold E7 at hj;rw[a1S]at hj;obtain⟨l0,hl0,rfl⟩:=a2d.mp hj;have h1:(q9 ((j6 near bs far).map λz=>z.2.2) (j6 near bs far).length)[j]? = some l0:=by rw[W5,G8];exact hl0
  have hj2:=(a1I.mp h1).1;rw[<- aO]at hj2;refine⟨(G0 (j6 near bs far) (j6 near bs far).length)[j],l0,?_,?_⟩;all_goals simp_all [a3M,a1T,a2a,hlN]
 refine⟨_,(b9 (jst 2 sc.nd (jc ay hr<|a9 (b7 0) b8))<|b9 (jst 3 sc.nd (aq<|jc cg hr<|a9 (b7 0) b8))<|b9 (jst 4 sc.nd (jc fJ hr<|a9 (b7 2)<|a9 (b7 1)<|a9 (u3 [] ["way","number","line"] [] rfl (by rw[0]) rfl (by rw[0]) (by rw[0]) rfl O9 O9 (n6<|b7 3) (λ_ _ _ _ _ _=>(i6 (n:=3) rfl<|c7 (jn 0 (show(["way","number","line"]:List Str).Nodup by rw[0]))<|c7 (jn 1 (show(["way","number","line"]:List Str).Nodup by rw[0]))<|c7 (jn 2 (show(["way","number","line"]:List Str).Nodup by rw[0])) g9)) (λ_ _ _ _ _ _=>n8) λ_ _ _ _ _ _=>(b7 2)) b8))<|b9 (jst 5 sc.nd (jc cc hr<|a9 (b7 2)<|a9 (b7 4) b8))<|b9 (jst 6 sc.nd (jc ck hr<|a9 (b7 2)<|a9 (b7 4)<|a9 (b7 5) b8))<|b9 (g7 (jtm fh (b7 6) A8) (b9 (j7 (b7 6)<|i6 (n:=2) rfl<|c7 (jn 7 sc.nd)<|c7 (jn 8 sc.nd) g9)<|c6<|c8<|g6<|a9 f9<|a9 (b7 7)<|a9 (jx (jx (b7 3)<|b7 8) c5)<|a9 (jx (jx (b7 3)<|b7 8) c5) b8) f6)<|b9 (g7 (jtm cE (l6 K2 rfl T.b_len B3<|a9 (b7 5) b8) c5) (c6<|c8<|g6<|a9 f9<|a9 (jx (b7 5) c5) b8) f6)<|b9 (jst 9 sc.nd (jc F9 hr<|a9 (b7 2) b8))<|c6<|c8<|g6<|a9 f9<|a9 (u3 [2,9] ["x","later","r"] ["table","word"] rfl (by rw[0]) rfl (by rw[0]) (by rw[0]) rfl (Ew ⟨rfl,rfl⟩ ⟨rfl,rfl⟩) (Ew (Or.inl rfl)<|Or.inl rfl) (n6<|b7 4) (λ_ _ _ _ _ _=>(i6 (n:=3) rfl<|c7 (jn 0 (show(["x","later","r","table","word"]:List Str).Nodup by rw[0]))<|c7 (jn 1 (show(["x","later","r","table","word"]:List Str).Nodup by rw[0]))<|c7 (jn 2 (show(["x","later","r","table","word"]:List Str).Nodup by rw[0])) g9)) (λ_ _ _ _ _ _=>n8) λ_ _ _ _ _ _=>(jc jf hr<|a9 (b7 4)<|a9 (b7 3)<|a9 (b7 0)<|a9 (b7 1) b8)) b8),?_⟩;rw[];refine⟨hw,hw,λp hp=>?_⟩;rw[kY f7,U5 hp];rw[];rw[Cn];refine o9 (λz=>j4 z.2) (by rw[a4W,G8];omega) (by simp only[j5]) (λz hz Q hQ=>?_) ?_
 ·unfold hlD;rw[];exact hQ
 rw[Di];refine⟨j3 near bs far,q9 (j3 near bs far) (j3 near bs far).length,rfl,rfl,⟨S,cL,cd,hS,by omega,λl hl=>(hw.ln cd hS hl).2⟩,?_⟩;rw[show a3g (sR (j3 near bs far) y u) (q9 (j3 near bs far) (j3 near bs far).length)=E7 near bs far y u from rfl,<- Cn];generalize E7 near bs far y u=ls at *
 generalize hlN (j6 near bs far) (j6 near bs far).length=HL at *
 generalize G0 (j6 near bs far) (j6 near bs far).length=WS at *
 refine⟨_,ls,rfl,rfl,⟨cL,dL,by omega,hN⟩,_,ls,rfl,rfl,rfl,⟨cL,by omega,hN⟩,λo ho=>?_⟩;generalize tbQ (j3 near bs far)=m at *
 cases o with
 | some z =>obtain⟨n,j⟩:=z;have hk:R (.tup [.str<|a1B "stopped",.int n,(WS.getD j (.non,.non)).1,(WS.getD j (.non,.non)).2]) M:=k (some (n,j)) ho;have hl5:=a1T ho.in;obtain⟨w0,l0,e1,e2⟩:=hmet j _ hl5;rw[e2]at hk;unfold vh;rw[cW rfl];rw[];refine⟨_,E3 (n:=j) e1,?_⟩;unfold hlD;rw[];refine⟨_,E3 (n:=j) e1,?_⟩;unfold hlD;rw[];exact hk
 | none =>
  unfold vh;rw[cW rfl];rw[];cases e:D3 m ls with
  | cons a rest =>have hk:=k none ho;unfold yY at hk;rw[e]at hk;have hk:R (.tup [.str<|a1B "late",.int a]) M:=hk;refine⟨λ_=>?_,λh=>absurd (by rw[a1Z,a15];omega) h⟩;rw[];exact hk
  | nil =>have hk:=k none ho;unfold yY at hk;rw[e]at hk;have hk:R (.tup [.str<|a1B "never",.vl<|(ls.map<|gm m).map enD]) M:=hk;refine⟨λh=>absurd h<|by decide,λ_=>⟨m,rfl,cL,?_⟩⟩;rw[a2k]at hk;refine o9 (xs:=ls) (enc:=j4) (λl=>enD<|gm m l) (by omega) (by simp only[j5]) (λl hl Q hQ=>?_) hk;rw[];refine⟨m,l.2.2,rfl,rfl,⟨cL,dL,hN l hl,λc1 c3 h0=>?_⟩,hQ⟩;apply a2v;intro hf;obtain⟨j,hj⟩:=a2C hl;have:j∈D3 m ls:=mS.mpr ⟨l,hj,by unfold fj;rw[if_neg c1,if_neg c3,if_pos<|by rw[h0];unfold swQ;grind]⟩;rw[e]at this;cases this
example fK sJ ever_text hall ray _ told word passed way k passed_text:Rr 9 142 R4 tE:=by
 obtain⟨near,bs,far,y,u,rfl,⟨hw,hp,cd⟩,k⟩:=h;have sl:=B4;have e0:∀ t,a3o++t=t:=sS;have s1:(a1B " ").length=1:=by rfl
 have s2:(a1B "stopped").length=7:=by rfl
 have hN:=xl hw hp cd;have lk:(E7 near bs far y u).length=(G0 (j6 near bs far) (j6 near bs far).length).length:=by unfold E7;rw[a1H,aO,W5,G8]
 refine⟨_,(b9 (jst 2 sc.nd (jc tE hr<|a9 (b7 0)<|a9 (b7 1) b8))<|b9 (g7 (jtm wQ (jx (b7 2) c5) f9) (c6<|c8<|jx (b7 2) c5) f6)<|b9 (j7 (b7 2)<|i6 (n:=4) rfl<|c7 (jn 3 sc.nd)<|c7 (jn 4 sc.nd)<|c7 (jn 5 sc.nd)<|c7 (jn 6 sc.nd) g9)<|b9 (jst 7 sc.nd (jc R4 hr<|a9 (b7 4) b8))<|c6<|c8<|RB<|gR (b7 3)<|sW<|gR (b7 7)<|sW<|gR (b7 5)<|sW<|gR (b7 6) Ji),?_⟩;rw[];refine⟨⟨hw,190,cd,by decide⟩,λo ho=>?_⟩;have k:=k _ ⟨o,ho,rfl⟩;have hl:=hw.len;have wy:=λj (hj:j<(G0 (j6 near bs far) (j6 near bs far).length).length)=>xW hl hj;generalize G0 (j6 near bs far) (j6 near bs far).length=ws at *
 generalize E7 near bs far y u=ls at *
 generalize tbQ (j3 near bs far)=m at *
 cases o with
 | none =>
  unfold yY;unfold evT at k;cases e:D3 m ls with
  | nil =>rw[e]at k;rw[];exact⟨λ_=>k,λz=>absurd z<|by rw[0]⟩
  | cons a r =>rw[e]at k;rw[];exact⟨λ_=>k,λz=>absurd z<|by rw[0]⟩
 | some z =>
  obtain⟨n,j⟩:=z;obtain⟨s,i,h1,h2,h3,_⟩:=wy j (by rw[<- lk];exact ho.in);have hb:=ho.num hN;have hn:=Sq hb;have k:R (.str<|a1B "stopped " ++ tx (n:Int)++a1B " " ++ dS (ws.getD j (.non,.non)).1++a1B " " ++ tx (dI (ws.getD j (.non,.non)).2)) M:=k;have g:yY ws m ls (some (n,j)) = .tup [.str "stopped",.int n,(ws.getD j (.non,.non)).1,(ws.getD j (.non,.non)).2]:=rfl;rw[g,h3];rw[h3]at k;rw[];have l1:=K4 (k:=5000) (by decide) (by rw[a1G];exact hn);have l2:=K4 (n:=i) (k:=1) (by decide) (by rw[a1G];omega);have l2:(a1B<|toString (i:Int)).length<=2:=l2;rw[e0,show a1B "stopped" ++ a1B " " = a1B "stopped " by rw[0]];simp only[w6];have s3:(a1B "stopped ").length=8:=by rw[0]
  have s4:Str.empty.length=0:=by rw[0]
  rw[a1G,a1G];exact⟨hn,by omega,by omega,by omega,by omega,by omega,by omega,v6 (a1F (show i<2 ^ 4 by omega)<|a1X (by decide)<|by decide)<|by decide,by omega,by omega,k⟩
example bX oA ratio_text one _ top bottom:Xe 3 116 R4 aD:=by
 obtain⟨q,rfl,⟨hn,hd⟩,k⟩:=h;have h1:=K4 (n:=q.num) (k:=5000) (by decide) hn;have h2:=K4 (n:=(q.den:Int)) (k:=5000) (by decide) (by rw[a1G];exact hd);have sl:=B4;have e1:(a1B "/").length=1:=by rw[0]
 unfold rtx at k;refine⟨_,(b9 (g7 (O4<|p7<|jc aD hr<|a9 (b7 0) b8) (c6 m6) f6)<|b9 (j7 (b7 0)<|i6 (n:=2) rfl<|c7 (jn 1 sc.nd)<|c7 (jn 2 sc.nd) g9)<|b9 (g7 (jtm Y4 (b7 2) c5) (c6<|c8<|jc R4 hr<|a9 (b7 1) b8) f6)<|c6<|c8<|e6 v8 (e6 v8 (jc R4 hr<|a9 (b7 1) b8) f9)<|jc R4 hr<|a9 (b7 2) b8),?_⟩;rw[];refine⟨λh=>⟨hn,?_⟩,λh=>⟨hn,by omega,by rw[a1G];exact hd,by rw[w6];omega,?_⟩⟩
 ·rw[if_pos<|by omega]at k;exact k
 ·rw[if_neg<|by omega]at k;exact k
example cj oJ floor_root number _ guess step better:vp 1 26:=by
 obtain⟨n,rfl,hl,k⟩:=h;refine⟨_,(b9 (g7 (jtm Y4 (b7 0) c5) (c6<|c8 c5) f6)<|b9 (jst 1 sc.nd c5)<|b9 (p8 PassesOwn.never rfl (fk rfl T.b_range<|a9 (e6 B7 (e6 F0 (OL<|b7 0) c5) c5) b8) (jn 2 sc.nd)<|c6<|jst 1 sc.nd (e6 j0 (b7 1) c5))<|b9 (jst 3 sc.nd (e6 B7 (e6 F0 (b7 1)<|e6 B7 (b7 0)<|b7 1) c5))<|b9 (T6 PassesOwn.never (jtm gO (b7 3)<|b7 1)<|b9 (jst 1 sc.nd (b7 3))<|c6<|jst 3 sc.nd (e6 B7 (e6 F0 (b7 1)<|e6 B7 (b7 0)<|b7 1) c5))<|c6<|c8<|b7 1),?_⟩;rw[];refine⟨λh0=>?_,λh0=>?_⟩
 ·obtain rfl:n=0:=by omega
  exact k 0 (by decide) (by decide)
 have hbe:Builtin.Int.intBits (n:Int)=n.log2+1:=by unfold Builtin.Int.intBits;rw[if_neg<|by first|omega|simp;omega];simp
 have e2:(((Builtin.Int.intBits (n:Int):Nat):Int)+1).fdiv 2=(((n.log2+2) / 2:Nat):Int):=by rw[hbe,E1 (by omega)<|by decide];omega
 refine⟨_,rfl,?_⟩;rw[];rw[e2];refine⟨Vl,by omega,R9.by (λi e M'=>M'=M/\∃ t,e=[some<|.int n,some<|.int<|(2 ^ i:Nat),t,none]) ⟨rfl,none,rfl⟩ (λ_ _ _ _ _=>trivial) ?_ ?_⟩
 ·rintro i dd e M' hd ⟨rfl,t,rfl⟩;rw[];exact⟨Zt (by decide)<|by decide,some dd,by rw[a4h,a3F];rfl⟩
 rw[A2,a2z];rintro e M' ⟨rfl,t,rfl⟩;have hgn:n<2 ^ ((n.log2+2) / 2)*2 ^ ((n.log2+2) / 2):=by rw[<- a2Y];exact a1F Nat.lt_log2_self<|a1X (by decide)<|by omega
 have hg0:=a35<|(n.log2+2) / 2;have hgs:Sml (2 ^ ((n.log2+2) / 2)):=Sml.pow (by omega);generalize 2 ^ ((n.log2+2) / 2)=g at hg0 hgn hgs;have cf:∀{g:Nat},0<g->Sml g->CFd n g:=λh1 h2=>⟨by omega,by rw[a1G];exact h2.log⟩;have ev:∀ g:Nat,(g+(n:Int).fdiv g).fdiv 2=(((g+n / g) / 2:Nat):Int):=λg=>by rw[E1 (a2J _)<|a2J _,E1 (by have:=a2J<|g+n / g;exact_mod_cast this)<|by decide];norm_cast
 rw[];refine⟨cf hg0 hgs,Vl,fX (λm e M''=>M''=M'/\∃ t,e=[some<|.int n,some<|.int m,t,some<|.int (((m+n / m) / 2:Nat):Int)]/\0<m/\Sml m/\n<(m+1)*(m+1)) g ⟨rfl,t,by rw[ev],hg0,hgs,by have:g*g<=(g+1)*(g+1):=a3K (by omega) (by omega);omega⟩ ?_⟩;rintro m e M'' ⟨rfl,t,rfl,hm0,hms,hmn⟩;rw[];refine⟨λh1=>?_,λh1=>k m (yD hm0 λz=>h1<|by exact_mod_cast z) hmn⟩;have hb:(m+n / m) / 2<m:=by exact_mod_cast h1
 have hb0:0<(m+n / m) / 2:=by
  rcases a3f 1 m with z|z
  ·generalize n / m=y;omega
  ·obtain rfl:m=1:=by omega
   rw[Nat.div_one];omega
 exact⟨cf hb0<|hms.mono<|a2M hb,Vl,_,hb,t,by rw[ev],hb0,hms.mono<|a2M hb,Ut hm0⟩
example Cw Ob root one _ top bottom:GK 2 27 cj:=by
 obtain⟨q,rfl,hz,k⟩:=h;obtain⟨hl1,hl2⟩:=SV hz;refine⟨_,(b9 (g7 (jtm gO (jx (b7 0) c5) c5) (c6<|c8 A8) f6)<|b9 (jst 1 sc.nd (jc cj hr<|a9 (jx (b7 0) c5) b8))<|b9 (jst 2 sc.nd (jc cj hr<|a9 (jx (b7 0) c5) b8))<|b9 (g7 (F5<|T8 (jtm mI (e6 j0 (b7 1)<|b7 1)<|jx (b7 0) c5)<|Q9<|jtm mI (e6 j0 (b7 2)<|b7 2)<|jx (b7 0) c5) (c6<|c8 A8) f6)<|c6<|c8<|g6<|a9 (b7 1)<|a9 (b7 2) b8),?_⟩;rw[];refine⟨λh0=>k .non<|.inr ⟨λr hr=>?_,rfl⟩,λh0=>?_⟩
 ·have:=(mj hr).2.2;omega
 have en:q.num=((q.num.natAbs:Nat):Int):=by omega
 refine⟨q.num.natAbs,by rw[<- en],hl1,λs h1 h2=>⟨q.den,rfl,hl2,λt h3 h4=>?_⟩⟩;have m1:IntMulOk (s:Int) (s:Int):=j9 4000 4000 (by rw[a1G];exact a1R (a1N (a3E s) h1)<|T1 hl1) (by rw[a1G];exact a1R (a1N (a3E s) h1)<|T1 hl1) (by decide);have m2:IntMulOk (t:Int) (t:Int):=j9 4000 4000 (by rw[a1G];exact a1R (a1N (a3E t) h3)<|T1 hl2) (by rw[a1G];exact a1R (a1N (a3E t) h3)<|T1 hl2) (by decide);have no:(¬ (s:Int)*(s:Int)=q.num \/ ¬ (t:Int)*(t:Int)=(q.den:Int))->R .non M:=λhno=>k .non (.inr ⟨λr hr=>by
  obtain⟨⟨a,ha⟩,⟨b,hb⟩,hq⟩:=mj hr;have e1:=pV h1 h2 ha;have e2:=pV h3 h4 hb;subst e1;subst e2;rcases hno with z|z
  ·apply z;rw[en,<- ha];norm_cast
  ·apply z;rw[<- hb];norm_cast,rfl⟩)
 rw[];refine⟨m1,λh5=>no<|.inl h5,λh5=>⟨m2,λh6=>no<|.inr h6,λh6=>?_⟩⟩;obtain⟨r,r0,r1,r2,r3⟩:=DC (q:=q) h5 (by exact_mod_cast h6);refine k _<|.inl ⟨r,r0,r1,?_⟩;unfold d6;rw[r2,r3]
example fu su shrinking t _ apart:Xc 5 56 bu U1 bw E8 Cw F8:=by
 obtain⟨t,rfl,ht,k⟩:=h;have z1:=RM.A0 t t;have z4:sz 4<=3:=by rw[0]
 have z5:=RM.U9 (t*t) 4;have z0:=RM.U8;refine⟨_,(b9 (jst 1 sc.nd (jc Cw hr<|a9 (jc U1 hr<|a9 (jc F8 hr<|a9 (b7 0)<|a9 (b7 0) b8)<|a9 (i9 rfl T.c_FOUR) b8) b8))<|b9 (g7 (jtm XH (b7 1) A8) (c6<|c8 A8) f6)<|b9 (g7 (p7<|jc bw hr<|a9 (b7 0)<|a9 (i9 rfl T.c_NOUGHT) b8) (c6<|jst 1 sc.nd (jc E8 hr<|a9 (b7 1) b8)) f6)<|c6<|c8<|jc bu hr<|a9 (jc U1 hr<|a9 (b7 0)<|a9 (b7 1) b8)<|a9 (i9 rfl T.c_TWO) b8),?_⟩;rw[];refine⟨by omega,by omega,by omega,?_⟩;rintro v (⟨r,r0,r1,rfl⟩|⟨r1,rfl⟩)
 ·have zr:=a1N (Be r1) (by omega)
  rw[cW rfl];have z2:sz 2<=2:=by rw[0]
  have z6:=RM.U9 t r;have z7:=RM.U9 t (-r);have z8:=RM.Q1 r;rw[];refine⟨by omega,λe=>⟨by omega,by decide,by omega,k _<|.inl ⟨r,r0,r1,?_⟩⟩,λe=>⟨by omega,by decide,by omega,k _<|.inl ⟨r,r0,r1,?_⟩⟩⟩
  ·rw[if_pos e]
  ·rw[if_neg e]
 ·rw[cW rfl];rw[];exact k _<|.inr ⟨r1,rfl⟩
example fA sx ray_along table _ a b c d:HJ 5 55 U1 bu P3:=by
 obtain⟨x,rfl,⟨a,b,c,d⟩,hx,cd,k⟩:=h;have hx':x=lh a b c d:=hx;subst hx';have t4:=CD.t4 cd;have h1:sz a<=230:=t4.a;have ht:sz (trQ (a,b,c,d))<=231:=CD.tr cd;have z2:sz 2<=2:=by rw[0]
 have z3:=RM.Q3 (trQ (a,b,c,d)) 2 (by decide);refine⟨_,(b9 (j7 (b7 0)<|i6 (n:=4) rfl<|c7 (jn 1 sc.nd)<|c7 (jn 2 sc.nd)<|c7 (jn 3 sc.nd)<|c7 (jn 4 sc.nd) g9)<|b9 (g7 (jtm (Y5 hu) (b7 2)<|i9 rfl T.c_NOUGHT) (c6<|c8<|i9 rfl T.c_AXIS_RAY) f6)<|c6<|c8<|g6<|a9 (b7 2)<|a9 (jc U1 hr<|a9 (jc bu hr<|a9 (jc P3 hr<|a9 (b7 0) b8)<|a9 (i9 rfl T.c_TWO) b8)<|a9 (b7 1) b8) b8),?_⟩;rw[];unfold zG at k;refine⟨λe=>?_,λe=>⟨(a,b,c,d),rfl,cd,by decide,by omega,by omega,?_⟩⟩
 ·rw[if_pos e]at k;exact k
 ·rw[if_neg e]at k;exact k
example nj yA form_of table _ a b c d:BK 5 54 E8 U1:=by obtain⟨x,rfl,⟨a,b,c,d⟩,hx,cd,k⟩:=h;have hx':x=lh a b c d:=hx;subst hx';have t4:=CD.t4 cd;have h1:sz a<=230:=t4.a;have h4:sz d<=230:=t4.d;refine⟨_,(b9 (j7 (b7 0)<|i6 (n:=4) rfl<|c7 (jn 1 sc.nd)<|c7 (jn 2 sc.nd)<|c7 (jn 3 sc.nd)<|c7 (jn 4 sc.nd) g9)<|c6<|c8<|g6<|a9 (b7 3)<|a9 (jc U1 hr<|a9 (b7 4)<|a9 (b7 1) b8)<|a9 (jc E8 hr<|a9 (b7 2) b8) b8),?_⟩;rw[];exact⟨by omega,k⟩
example tw Og kind hall _ table word:HA 8 57 fu P3 fA nj y8 F9 ay:=by
 obtain⟨near,bs,far,rfl,hok,k⟩:=h;have cd:=hok.cd (j3 near bs far).length;rw[a2l]at cd;refine⟨_,(b9 (jst 1 sc.nd (jc ay hr<|a9 (b7 0) b8))<|b9 (jst 2 sc.nd (jc F9 hr<|a9 (b7 1) b8))<|b9 (g7 (jtm n9 (b7 2) f9) (c6<|c8<|g6<|a9 (b7 2)<|a9 (jc y8 hr<|a9 (b7 1) b8) b8) f6)<|b9 (g7 (jtm n9 (b7 2) f9) (c6<|c8<|g6<|a9 (b7 2)<|a9 (jc nj hr<|a9 (b7 1) b8) b8) f6)<|b9 (g7 (jtm n9 (b7 2) f9) (c6<|c8<|g6<|a9 (b7 2)<|a9 (jc fA hr<|a9 (b7 1) b8) b8) f6)<|c6<|c8<|g6<|a9 (b7 2)<|a9 (jc fu hr<|a9 (jc P3 hr<|a9 (b7 1) b8) b8) b8),?_⟩;rw[];refine⟨hok,?_⟩;generalize tbQ (j3 near bs far)=m at *
 refine⟨m,rfl,cd,λe=>⟨m,rfl,cd,k _<|.inl ⟨e,rfl⟩⟩,λe=>⟨λe2=>⟨m,rfl,cd,k _<|.inr<|.inl ⟨e2,rfl⟩⟩,λe2=>⟨λe3=>⟨m,rfl,cd,k _<|.inr<|.inr<|.inl ⟨e3,rfl⟩⟩,λe3=>⟨m,rfl,cd,CD.tr cd,λv hv=>k v<|.inr<|.inr<|.inr ⟨?_,hv⟩⟩⟩⟩⟩;grind[F4]
example bU ow round_text hall _ word told:Rb 9 141 bX tw:=by
 obtain⟨near,bs,far,rfl,hw,k⟩:=h;refine⟨_,(b9 (j7 (jc tw hr<|a9 (b7 0) b8)<|i6 (n:=2) rfl<|c7 (jn 1 sc.nd)<|c7 (jn 2 sc.nd) g9)<|b9 (g7 (jtm n9 (b7 1) f9) (c6<|c8<|RB<|gR (b7 1)<|sW<|gR (b7 2) Ji) f6)<|b9 (g7 (F5<|R3 (jtm n9 (b7 1) f9)<|N0<|jtm fh (b7 2) A8) (c6<|c8<|e6 v8 (e6 v8 (b7 1) f9)<|jc bX hr<|a9 (b7 2) b8) f6)<|c6<|c8<|b7 1),?_⟩;rw[];have sl:=B4;have e0:∀ t,a3o++t=t:=sS;have w0:∀ m,(kwS m).length<=10:=λm=>by rcases F4 m with⟨_,c⟩|⟨_,_,c⟩|⟨_,_,_,c⟩|⟨_,_,_,c⟩<;>rw[c]<;>rw[0]
 have s1:(a1B " ").length=1:=by rfl
 have s2:(a1B "same ").length=5:=by rfl
 have s3:(a1B "off ").length=4:=by rfl
 have s4:Str.empty.length=0:=by rfl
 refine⟨hw,λv hv=>?_⟩;have cd:=hw.cd (j3 near bs far).length;rw[a2l]at cd;generalize tbQ (j3 near bs far)=m at *
 have:=w0 m;have zt:=CD.tr cd;rw[e0];refine⟨λh=>⟨by omega,by omega,?_⟩,λh=>⟨λh2=>?_,λh2=>?_⟩⟩
 ·obtain⟨hs,rfl⟩:=qk h hv
  have rt6:rtN m<=6:=by
   unfold rtN;repeat' split
   all_goals decide
  have l2:=K4 (n:=(rtN m)) (k:=1) (by decide) (by omega);rw[rR m hs,h,FP];rw[show a1B "same" ++ a1B " " = a1B "same " by rw[0],a1G];have k:=k _<|.inl ⟨h,rfl⟩;have l3:(a1B "same " ++ a1B (toString (rtN m:Int))).length=5+(tx<|rtN m).length:=by rw[w6,s2];rfl
  rw[l3,s2];have l4:(a1B<|toString (rtN m:Int)).length=(tx<|rtN m).length:=rfl;rw[l4];exact⟨v6 (a1F (show rtN m<2 ^ 4 by omega)<|a1X (by decide)<|by decide)<|by decide,by omega,by omega,k⟩
 ·have hv:=wZ h2 hv zt
  rw[h2];rw[h2]at this;rcases hv with⟨q,zq,rfl,hq⟩|⟨rfl,hq⟩
  ·rw[cW rfl]
   rw[];rw[show a1B "off" ++ a1B " " = a1B "off " by rw[0]];have k:=k _ (.inr<|.inl ⟨h2,.inl ⟨q,by omega,hq,rfl⟩⟩);have g:=fq zq;have gl:=D1 g;have s5:(a1B "off").length=3:=by rfl
   exact⟨by omega,OP g,by omega,k⟩
  ·rw[cW rfl];rw[];exact k _<|.inr<|.inl ⟨h2,.inr ⟨hq,rfl⟩⟩
 ·exact k _ (.inr (.inr ⟨by
   rcases F4 m with⟨_,c⟩|⟨_,_,c⟩|⟨_,_,_,c⟩|⟨_,_,_,c⟩
   ·exact absurd c h
   ·exact .inl c
   ·exact .inr c
   ·exact absurd c h2,rfl⟩))
def jz(T:Txt K U w.params)(d:Df K U "hall_answer" (top 143) ["hall","question","values"])(a1c:fK P w K U J)(a01:bU P w K U J):FnX P w K U J "hall_answer" 10 ["hall","question","values"] BJ:=by
 have sc:=lH;refine tF d sc (by rw[12]) λf cdv A outer s H E ds M R Y hr h=>?_;have hu:=hr.units;obtain⟨near,bs,far,w,vs,rfl,⟨hh,hw⟩,r,ha,k⟩:=h;refine⟨_,(E9 (MF (jtm cE (l6 K2 rfl T.b_len B3<|a9 (jx (b7 0) c5) b8)<|i9 rfl T.c_MOST_BETWEEN) (bI<|qB T.x_TooMany rfl rfl f9) uV)<|E9 (S2<|g7 (jtm n9 (b7 1) f9) (c6 m6) f6)<|E9 (S2<|g7 (jtm n9 (b7 1) f9) (c6<|c8<|jc a01 hr<|a9 (b7 0) b8) f6)<|bI<|S2<|c8<|jc a1c hr<|a9 (b7 0)<|a9 (g6<|a9 (jx (b7 2) c5)<|a9 (jx (b7 2) c5) b8) b8),?_⟩;rw[];have n1:¬ a1B "round" = a1B "hall" := by rw[0]
 have n2:¬ a1B "ever" = a1B "hall" := by rw[0]
 have n3:¬ a1B "ever" = a1B "round" := by rw[0]
 rw[a1H];rcases ha with⟨e,_⟩|⟨rfl,ha⟩|⟨rfl,y,u,rfl,cd,ha⟩
 ·exact absurd e hw
 ·have ha:=ha
  by_cases h8:8<bs.length
  ·rw[if_pos h8]at ha;subst ha;exact⟨λ_=>k,λz=>absurd (by omega) z⟩
  ·rw[if_neg h8]at ha;obtain⟨t,h1,rfl⟩:=ha;exact⟨λz=>absurd (by omega) h8,λ_=>⟨n1,λ_=>⟨λ_=>⟨D6.small (by omega) hh,λt' h2=>by rw[h2.one h1];exact k⟩,λz=>absurd rfl z⟩⟩⟩
 ·have ha:=ha
  by_cases h8:8<bs.length
  ·rw[if_pos h8]at ha;subst ha;exact⟨λ_=>k,λz=>absurd (by omega) z⟩
  ·rw[if_neg h8]at ha;obtain⟨t,h1,rfl⟩:=ha;refine⟨λz=>absurd (by omega) h8,λ_=>⟨n2,λ_=>⟨λz=>absurd z n3,λ_=>?_⟩⟩⟩;rw[];exact⟨⟨D6.small (by omega) hh,λx hx=>(hh.p x hx).2,cd⟩,λt' h2=>by rw[h2.one h1];exact k⟩
def so(T:Txt K U w.params)(d:DfM K U "Desk" "say" "Desk.say" (Cm (top 145) 1) ["self","row"])(a1s:nk P w K U J)(a1m:jg P w K U J)(GX_bench_answer:FnX P w K U J "bench_answer" 10 ["bench","question","values"] BN)(GX_hall_answer:FnX P w K U J "hall_answer" 10 ["hall","question","values"] BJ):zO P w K U J "Desk" "say" 11 ["self","row"] rC:=by
 have sc:=vK;refine OX d sc (by rw[12]) λf cdv A outer s H E ds M R Y hr h=>?_;have hu:=hr.units;obtain⟨d,s,rfl,w,xs,h,ps,l,row,hl,dk,k⟩:=h;refine⟨_,(E9 (S2<|j7 (jc a1m hr<|a9 (b7 1) b8)<|i6 (n:=2) rfl<|c7 (jn 2 sc.nd)<|c7 (jn 3 sc.nd) g9)<|E9 (S2<|g7 (jtm Uq (b7 2)<|i9 rfl T.c_CHANGES) (b9 (jst 4 sc.nd (jc a1s hr<|a9 (mW T.o_Desk T.n_Desk__hall<|b7 0)<|a9 (b7 2)<|a9 (b7 3) b8))<|b9 (v9<|Y8 PySem.F.slot_list_append PySem.F.type_list_append B6 (mW T.o_Desk T.n_Desk__past<|b7 0)<|a9 (mW T.o_Desk T.n_Desk__hall<|b7 0) b8)<|b9 (sX T.o_Desk T.n_Desk__hall (b7 0)<|b7 4)<|c6<|c8 f9) f6)<|E9 (S2<|g7 (jtm n9 (b7 2) f9) (c6 m6) f6)<|E9 (MF (jtm Uq (b7 2)<|i9 rfl T.c_OF_HALLS) (bI<|FX<|jJ GX_hall_answer (hr.mono<|by decide) rfl<|a9 (mW T.o_Desk T.n_Desk__hall<|b7 0)<|a9 (b7 2)<|a9 (b7 3) b8) uV)<|bI<|FX<|jJ GX_bench_answer (hr.mono<|by decide) rfl<|a9 (jx (mW T.o_Desk T.n_Desk__hall<|b7 0) c5)<|a9 (b7 2)<|a9 (b7 3) b8),?_⟩;rw[];have wd:(∃ c,a1B c=w/\(c = "put" \/ c = "near" \/ c = "far"))->(chT.any λx=>x == w)=true:=by rintro⟨c,rfl,rfl|rfl|rfl⟩<;>rw[0]
 refine⟨w,xs,row,?_⟩;refine Lr chT ?_;rw[if_neg<|by decide];rw[];rcases k with⟨g,hd,k⟩|⟨hh,r,ha,k⟩
 ·have z:=wd (by
   rcases hd.2 with⟨rfl,_⟩|⟨rfl,_⟩|⟨rfl,_⟩
   ·exact⟨_,rfl,.inl rfl⟩
   ·exact⟨_,rfl,.inr<|.inl rfl⟩
   ·exact⟨_,rfl,.inr<|.inr rfl⟩)
  refine⟨λ_=>?_,λz2=>absurd (z.symm.trans z2)<|by decide⟩
  refine nE dk.ob (fO _ _) ?_
  refine⟨h.1,h.2.1,h.2.2,w,_,rfl,g,hd,?_⟩
  refine nE dk.ob (JR _ _)<|K9 dk.pa<|nE dk.ob (fO _ _)<|De dk.pa (by rw[a1H];omega)<|zI (by rw[i7 dk.ne];exact dk.ob) (by show 2<1000;decide) ?_
  rw[Ih]
  rw[]
  exact k _ ⟨f7,by rw[i7<|Ne.symm dk.ne,f7,a11];rfl⟩ λb hb hl=>by rw[i7 hb,i7 hl]
 ·have z:(chT.any λx=>x == w)=false/\¬ w=a1B "back" /\ (w=a1B "idle" -> ([a1B "hall",a1B "round",a1B "ever"].any λx=>x == w)=false)/\(w≠a1B "idle" -> ([a1B "hall",a1B "round",a1B "ever"].any λx=>x == w)=true):=by
   rcases ha with⟨rfl,_⟩|⟨rfl,_⟩|⟨rfl,_⟩
   ·exact⟨by rw[0],by rw[0],λ_=>by rw[0],λh=>absurd rfl h⟩
   ·exact⟨by rw[0],by rw[0],λh=>absurd h<|by rw[0],λ_=>by rw[0]⟩
   ·exact⟨by rw[0],by rw[0],λh=>absurd h<|by rw[0],λ_=>by rw[0]⟩
  refine⟨λz2=>absurd (z.1.symm.trans z2)<|by decide,λ_=>⟨λz2=>absurd z2 z.2.1,λ_=>Lr [a1B "hall",a1B "round",a1B "ever"] ?_⟩⟩
  rw[if_neg<|by decide]
  by_cases hi:w=a1B "idle"
  ·rw[z.2.2.1 hi]
   refine⟨λz2=>a27 z2,λ_=>nE dk.ob (fO _ _) ?_⟩;rcases ha with⟨_,kk,e,rfl⟩|⟨e,_⟩|⟨e,_⟩
   ·exact⟨_,rfl,h.2.1,_,_,rfl,hi,kk,e,⟨hh.l,hh.p⟩,k⟩
   ·rw[hi]at e;exact absurd e<|by rw[0]
   ·rw[hi]at e;exact absurd e<|by rw[0]
  ·rw[z.2.2.2 hi];exact⟨λ_=>nE dk.ob (fO _ _) ⟨h.1,h.2.1,h.2.2,w,_,rfl,⟨hh,hi⟩,r,ha,k⟩,λz2=>a27 z2⟩
abbrev fM:Prop:=Fn P w K U J "_law_said" 12 ["desk","row"] Bz
def sO(T:Txt K U w.params)(d:Df K U "_law_said" (top 154) ["desk","row"])(GX_Desk_say:zO P w K U J "Desk" "say" 11 ["self","row"] rC):fM P w K U J:=by
 rw[0,"desk row found flags e"];obtain⟨d,s,rfl,w,xs,h,ps,l,row,hh,hl,dk,r,ha,k⟩:=h;refine⟨_,(b9 (jst 2 sc.nd A8)<|b9 (jst 3 sc.nd (F6 b8))<|b9 (Jj (i:=4) (j:=2) ["NoPart","TooMany"] rfl rfl rfl rfl (pS T.kn_GlassError__NoPart<|pS T.kn_GlassError__TooMany Gs) sc.nd rfl rfl (Or.inl rfl) rfl (Or.inl rfl) GX_Desk_say (hr.mono<|by decide) (b7 0) (a9 (b7 1) b8) λ_ _=>(b9 (jst 3 sc.nd (F6<|a9 (mV [("NoPart",false),("TooMany",false)] rfl T.b_isinstance m8 rfl T.ki_NoRow__NoPart_TooMany (y9 T.ke_NoPart<|y9 T.ke_TooMany W9)<|b7 4)<|a9 (mV [("NoPart",true),("TooMany",false)] rfl T.b_isinstance m8 rfl T.ki_NoPart__NoPart_TooMany (y9 T.ke_NoPart<|y9 T.ke_TooMany W9)<|b7 4) b8))<|b9 (v9<|Y8 PySem.F.slot_list_extend PySem.F.type_list_extend qu (b7 3)<|a9 (F6<|a9 (mV [("NoPart",false),("TooMany",false)] rfl T.b_isinstance m8 rfl T.ki_NoNumber__NoPart_TooMany (y9 T.ke_NoPart<|y9 T.ke_TooMany W9)<|b7 4)<|a9 (mV [("NoPart",false),("TooMany",true)] rfl T.b_isinstance m8 rfl T.ki_TooMany__NoPart_TooMany (y9 T.ke_NoPart<|y9 T.ke_TooMany W9)<|b7 4) b8) b8)<|b9 (v9<|Y8 PySem.F.slot_list_append PySem.F.type_list_append B6 (b7 3)<|a9 (mV [("NoPart",false),("TooMany",false)] rfl T.b_isinstance m8 rfl T.ki_NoPast__NoPart_TooMany (y9 T.ke_NoPart<|y9 T.ke_TooMany W9)<|b7 4) b8)<|c6<|g7 (F5<|T8 (O4<|p7<|UH [("NoPart",true),("TooMany",true)] rfl T.b_isinstance m8 rfl T.b_ValueError oW T.kb_ValueError__NoPart_TooMany (y9 T.ke_NoPart<|y9 T.ke_TooMany W9)<|b7 4)<|Q9<|p7<|UG [("NoPart",false),("TooMany",false)] rfl T.b_isinstance m8 T.ki_NoText_NoRatio_NoWhole__NoPart_TooMany (y9 T.ke_NoPart<|y9 T.ke_TooMany W9) (by decide) (b7 4)<|mX rfl<|mX rfl<|mX rfl OM) (c6<|jst 3 sc.nd (e6 Rz (F6<|a9 jb b8) c5)) f6))<|c6<|c8<|ar<|g6<|a9 (b7 2)<|a9 (u3 [3] ["k"] ["flags"] rfl (by rw[0]) rfl (by rw[0]) (by rw[0]) rfl (N7 ⟨rfl,rfl⟩) (N7<|Or.inl rfl) (fk rfl T.b_range<|a9 (l6 K2 rfl T.b_len B3<|a9 (b7 3) b8) b8) (λ_ _ _ _ _ _=>(jn 0 (show(["k","flags"]:List Str).Nodup by rw[0]))) (λ_ _ _ _ _ _=>(N9<|p7<|jx (b7 1)<|b7 0)) λ_ _ _ _ _ _=>(b7 0)) b8),?_⟩;rw[];refine λp hp=>?_;have nd:d≠p:=λe=>by rw[<- e,dk.ob]at hp;cases hp
 have nl:l≠p:=λe=>by rw[<- e,dk.pa]at hp;cases hp
 refine⟨λc0 M'=>∃ x,c0=xN x/\r = .error x/\M'=l9 M p (.lst []),?_,?_⟩
 ·rw[]
  refine kK (by rw[i7 nd];exact dk.ob) (kv _ _ (by rw[0])<|by rw[0]) ⟨w,xs,h,ps,l,row,hl,⟨by rw[i7 nd];exact dk.ob,by rw[i7 nl];exact dk.pa⟩,.inr ⟨hh,r,ha,?_⟩⟩;cases r with
  | error x=>exact⟨x,rfl,rfl,rfl⟩
  | ok t =>
   have k:=k;show _;unfold zR;rw[];refine⟨_,_,rfl,by simp only[Je,f7];rfl,?_⟩;rw[];refine⟨by decide,?_⟩;rw[show G6 0 (a4q<|(0:Nat))=([]).map (λi:Nat=>D.int i)from rfl];refine B2 (λ_=>false) (λi:Nat=>D.int i) (a2e _) trivial (λi hi=>nomatch hi) ?_;exact⟨M,λb o hb=>by
    have e0:b≠p:=λe=>by rw[e,hp]at hb;cases hb
    rw[i7 e0];exact hb,k⟩
 ·rintro x M' ⟨y,ey,rfl,rfl⟩
  obtain rfl:x=y:=by simp_all [xN]
  have hx:=Px ha;refine⟨hx,?_⟩;rw[];refine⟨x,false,rfl,tb2 hx,x,_,rfl,tm2 (n:=a1B "NoPart") hx (by rfl)<|by rfl,λp1 hp1=>K9 f7 ⟨x,false,rfl,tb2 hx,x,_,rfl,tm2 (n:=a1B "TooMany") hx (by rfl)<|by rfl,λp2 hp2=>?_⟩⟩;have n12:p1≠p2:=λe=>by simp_all [f7]
  refine Lx (by rw[i7 n12,f7]) f7 (by simp) ?_;refine K9 f7 ⟨x,false,rfl,tb2 hx,De f7 (by simp) ?_⟩;refine⟨x,true,rfl,tb2 hx,λz=>a27 z,λ_=>⟨x,false,rfl,tb2 hx,λz=>a27 z,λ_=>?_⟩⟩;rw[];generalize hM4:l9 (l9 _ p1 _) p1 _=M4;have mp1:M4 p1=some (.lst<|(flY x).map D.bl):=by rw[<- hM4,f7];rfl
  have sub:∀ b o,M b=some o->M4 b=some o:=λb o hb=>by
   have e0:b≠p:=λe=>by rw[e,hp]at hb;cases hb
   have e1:b≠p1:=λe=>by simp_all [i7]
   have e2:b≠p2:=λe=>by simp_all [i7]
   rw[<- hM4,i7 e1,i7 e1,i7 e2,i7 e1,i7 e0];exact hb
  clear hM4;refine⟨_,_,rfl,by simp only[Je,mp1];rfl,?_⟩;rw[];refine⟨by show -(2 ^ 62)<=((5:Nat):Int)/\((5:Nat):Int)<2 ^ 62;decide,?_⟩;rw[show G6 0 (a4q (((flY x).map D.bl).length:Int))=(a2c 5).map (λi:Nat=>D.int i)by show(a2c 5).map (λi:Nat=>D.int<|0+i)=_;simp];refine B2 (λk:Nat=>(flY x)[k]?.getD false) (λi:Nat=>D.int i) (by decide) trivial (λi hi Q N hQ hN=>?_) ?_
  ·rw[];have h5:i<(flY x).length:=a2t.mp hi;have hg:=a1T h5;rw[hg]at hQ hN;refine⟨_,W2 mp1<|fT<|by rw[a1S,hg];rfl,?_⟩;rw[];exact⟨hQ,hN⟩
  ·rw[Yd hx];exact⟨M,sub,k⟩
example N5 sN _law_text one:Hz 1 152:=by
 obtain⟨q,rfl,g,k⟩:=h;have sl:=B4;have h1:=D1 g;have n1:=Jy g.1;have n2:=Jy g.2;refine⟨_,(b9 (g7 (jtm Y4 (jx (b7 0) c5) c5) (c6<|c8<|D9 X4 rfl T.b_str O7<|a9 (jx (b7 0) c5) b8) f6)<|c6<|c8<|e6 v8 (e6 v8 (D9 X4 rfl T.b_str O7<|a9 (jx (b7 0) c5) b8) f9)<|D9 X4 rfl T.b_str O7<|a9 (jx (b7 0) c5) b8),?_⟩;rw[];refine⟨λe=>⟨n1,?_⟩,λe=>⟨n1,?_⟩⟩
 ·have:rtx q=tx q.num:=if_pos (by omega);rw[this]at k;exact k
 ·have e2:rtx q=tx q.num++a1B "/" ++ tx q.den:=if_neg (by omega);grind[w6,a1N,sl,a1G,tx,a1B]
example U4 gK _law_ever_due hall ray _ found:HH 9 157 tE:=by
 obtain⟨near,bs,far,y,u,rfl,⟨hw,hp,cd⟩,k⟩:=h;refine⟨_,(b9 (jst 2 sc.nd (jc tE hr<|a9 (b7 0)<|a9 (b7 1) b8))<|b9 (g7 (jtm n9 (jx (b7 2) c5) f9) (c6<|c8<|e6 v8 (e6 v8 (e6 v8 (e6 v8 (e6 v8 f9<|D9 X4 rfl T.b_str O7<|a9 (jx (b7 2) c5) b8) f9)<|jx (b7 2) c5) f9)<|D9 X4 rfl T.b_str O7<|a9 (jx (b7 2) c5) b8) f6)<|c6<|c8<|jx (b7 2) c5),?_⟩;rw[];have sl:=B4;have s1:(a1B " ").length=1:=by rfl
 have s2:(a1B "stopped ").length=8:=by rfl
 have hN:=xl hw hp cd;have lk:(E7 near bs far y u).length=(G0 (j6 near bs far) (j6 near bs far).length).length:=by unfold E7;rw[a1H,aO,W5,G8]
 refine⟨⟨hw,190,cd,by decide⟩,λo ho=>?_⟩;have k:=k _ ⟨o,ho,rfl⟩;have hl:=hw.len;have wy:=λj (hj:j<(G0 (j6 near bs far) (j6 near bs far).length).length)=>xW hl hj;generalize G0 (j6 near bs far) (j6 near bs far).length=ws at *
 generalize E7 near bs far y u=ls at *
 generalize tbQ (j3 near bs far)=m at *
 cases o with
 | none =>
  unfold yY;unfold evT at k;cases e:D3 m ls with
  | nil =>rw[e]at k;rw[];exact⟨λz=>absurd z<|by rw[0],λ_=>k⟩
  | cons a r =>rw[e]at k;rw[];exact⟨λz=>absurd z<|by rw[0],λ_=>k⟩
 | some z =>obtain⟨n,j⟩:=z;obtain⟨s,i,h1,h2,h3,_⟩:=wy j (by rw[<- lk];exact ho.in);have hb:=ho.num hN;have hn:=Sq hb;have k:R (.str<|a1B "stopped " ++ tx (n:Int)++a1B " " ++ dS (ws.getD j (.non,.non)).1++a1B " " ++ tx (dI (ws.getD j (.non,.non)).2)) M:=k;have g:yY ws m ls (some (n,j)) = .tup [.str "stopped",.int n,(ws.getD j (.non,.non)).1,(ws.getD j (.non,.non)).2]:=rfl;rw[g,h3];rw[h3]at k;rw[];have l1:=K4 (k:=5000) (by decide) (by rw[a1G];exact hn);have l2:=K4 (n:=i) (k:=1) (by decide) (by rw[a1G];omega);have l1:(a1B<|toString (n:Int)).length<=5001:=l1;have l2:(a1B<|toString (i:Int)).length<=2:=l2;simp only[w6];rw[a1G,a1G];exact⟨v6 (a1F hb<|a1X (by decide)<|by decide)<|by decide,by omega,by omega,by omega,by omega,v6 (a1F (show i<2 ^ 4 by omega)<|a1X (by decide)<|by decide)<|by decide,by omega,k⟩
example P5 fe _law_round_due hall _ found:BA 9 156 N5 tw:=by
 obtain⟨near,bs,far,rfl,hw,k⟩:=h;refine⟨_,(b9 (jst 1 sc.nd (jc tw hr<|a9 (b7 0) b8))<|b9 (g7 (jtm n9 (jx (b7 1) c5) f9) (c6<|c8<|e6 v8 f9<|D9 X4 rfl T.b_str O7<|a9 (jx (b7 1) c5) b8) f6)<|b9 (g7 (F5<|R3 (jtm n9 (jx (b7 1) c5) f9)<|N0<|jtm fh (jx (b7 1) c5) A8) (c6<|c8<|e6 v8 f9<|jc N5 hr<|a9 (jx (b7 1) c5) b8) f6)<|c6<|c8<|jx (b7 1) c5),?_⟩;rw[];refine⟨hw,λv hv=>?_⟩;have sl:=B4;have s2:(a1B "same ").length=5:=by rfl
 have s3:(a1B "off ").length=4:=by rfl
 have cd:=hw.cd (j3 near bs far).length;rw[a2l]at cd;generalize tbQ (j3 near bs far)=m at *
 have zt:=CD.tr cd;refine⟨λh=>?_,λh=>⟨λh2=>?_,λh2=>?_⟩⟩
 ·obtain⟨hs,rfl⟩:=qk h hv
  have rt6:rtN m<=6:=by
   unfold rtN;repeat' split
   all_goals decide
  have l2:=K4 (n:=(rtN m:Int)) (k:=1) (by decide) (by omega);rw[rR m hs];rw[];have k:=k _<|.inl ⟨h,rfl⟩;have l4:(a1B<|toString (rtN m:Int)).length=(tx (rtN m:Int)).length:=rfl;rw[a1G,l4];exact⟨v6 (k:=1920) (a1F (show rtN m<2 ^ 4 by omega)<|a1X (by decide)<|by decide)<|by decide,by omega,k⟩
 ·rcases wZ h2 hv zt with⟨q,zq,rfl,hq⟩|⟨rfl,hq⟩
  ·rw[cW (b:=false) rfl];have g:=fq zq;have gl:=D1 g;rw[];exact⟨g,by omega,k _<|.inr<|.inl ⟨h2,.inl ⟨q,by omega,hq,rfl⟩⟩⟩
  ·rw[cW (b:=true) rfl];rw[];rw[h2];exact k _<|.inr<|.inl ⟨h2,.inr ⟨hq,rfl⟩⟩
 ·exact k _ (.inr (.inr ⟨by
   rcases F4 m with⟨_,c⟩|⟨_,_,c⟩|⟨_,_,_,c⟩|⟨_,_,_,c⟩
   ·exact absurd c h
   ·exact .inl c
   ·exact .inr c
   ·exact absurd c h2,rfl⟩))
example cw oQ _law_asked bench mirrors rays _ found stops k due hall dues rows:vV 10 158 N5 U4 P5 tD P4:=by
 obtain⟨bs,near,far,y1,u1,y2,u2,rfl,⟨⟨hh,hl⟩,⟨a1,a2⟩,b1,b2⟩,k⟩:=h;refine⟨_,(b9 (jst 3 sc.nd (F6 b8))<|b9 (C7 (i:=4) [0] ["k"] ["bench"] sc.nd rfl (Or.inl rfl) rfl (by rw[0]) rfl (by rw[0]) (by rw[0]) rfl (N7 ⟨rfl,rfl⟩) (N7<|Or.inl rfl) (fk rfl T.b_range<|a9 (l6 K2 rfl T.b_len B3<|a9 (b7 0) b8) b8) (λ_ _ _ _ _ _=>(jn 0 (show(["k","bench"]:List Str).Nodup by rw[0]))) (λ_ _ _ _ _ _=>(N9<|jtm n9 (jx (jx (b7 1)<|b7 0) c5) f9)) λ_ _ _ _ _ _=>(b7 0))<|b9 (p8 PassesOwn.never rfl (n6<|D8 (fo rfl rfl T.b_list X5 rfl T.b_range<|a9 (e6 F0 (l6 K2 rfl T.b_len B3<|a9 (b7 0) b8) c5) b8)<|u5<|a9 (e6 qh c5 c5)<|a9 (e6 qh c5 c5) b8) (jn 5 sc.nd)<|b9 (jst 6 sc.nd (g6<|a9 A8<|a9 (u5<|a9 c5 b8) b8))<|T7 (g7 (jtm Uq (b7 5)<|b7 4) (c6<|jst 6 sc.nd (g6<|a9 (jx (jc tD hr<|a9 (jc P4 hr<|a9 (mU rfl T.b_list X5<|a9 (b7 0) b8) b8)<|a9 (UD PySem.F.slot_list_index PySem.F.type_list_index (Ki hu) (b7 4)<|a9 (b7 5) b8) b8) c5)<|a9 (u5 b8) b8)) f6)<|c6<|v9<|Y8 PySem.F.slot_list_append PySem.F.type_list_append B6 (b7 3)<|a9 (g6<|a9 (e6 v8 f9<|D9 X4 rfl T.b_str O7<|a9 (b7 5) b8)<|a9 (b7 6) b8) b8)<|b9 (jst 7 sc.nd (g6<|a9 (jx (b7 1) c5)<|a9 (mU rfl T.b_list X5<|a9 (b7 0) b8)<|a9 (jx (b7 1) c5) b8))<|b9 (jst 8 sc.nd (e6 Rz (F6<|a9 (g6<|a9 A8<|a9 (u5<|a9 c5 b8) b8) b8)<|e6 F0 c5<|l6 K2 rfl T.b_len B3<|a9 (b7 2) b8))<|T7 (g7 (jtm gO (l6 K2 rfl T.b_len B3<|a9 (b7 0) b8) c5) (b9 (jst 8 sc.nd (F6<|a9 (g6<|a9 (jc P5 hr<|a9 (b7 7) b8)<|a9 (u5 b8) b8) b8))<|c6<|v9<|Y8 PySem.F.slot_list_extend PySem.F.type_list_extend qu (b7 8)<|a9 (xh [7] ["ray"] ["hall"] rfl (by rw[0]) rfl (by rw[0]) (by rw[0]) rfl (N7 ⟨rfl,rfl⟩) (N7<|Or.inl rfl) (n6<|b7 2) (λ_ _ _ _ _ _=>(jn 0 (show(["ray","hall"]:List Str).Nodup by rw[0]))) (λ_ _ _ _ _ _=>n8) λ_ _ _ _ _ _=>(g6<|a9 (jc U4 hr<|a9 (b7 1)<|a9 (b7 0) b8)<|a9 (u5 b8) b8)) b8) f6)<|b9 (jst 9 sc.nd (D8 (u5<|a9 f9 b8)<|u3 [] ["ray"] [] rfl (by rw[0]) rfl (by rw[0]) (by rw[0]) rfl O9 O9 (n6<|b7 2) (λ_ _ _ _ _ _=>(jn 0 (show(["ray"]:List Str).Nodup by rw[0]))) (λ_ _ _ _ _ _=>n8) λ_ _ _ _ _ _=>(e6 v8 (e6 v8 (e6 v8 f9<|jc N5 hr<|a9 (jx (b7 0) c5) b8) f9)<|jc N5 hr<|a9 (jx (b7 0) c5) b8)))<|c6<|c8<|ar<|D8 (aq<|b7 3)<|yO rfl rfl T.b_list X5 rfl T.b_zip<|a9 (b7 9)<|a9 (aq<|b7 8) b8),?_⟩;rw[];intro p hp;have sl:=B4;have lm:(bs.map i8).length=bs.length:=a1H ..;rw[lm];refine⟨by omega,?_⟩;rw[show((bs.length:Nat):Int).toNat=bs.length from rfl,Nq];refine B2 (xs:=a2c bs.length) (stB bs) (λi:Nat=>D.int (i:Int)) (by rw[a3e];omega) trivial (λi hi Q N h1 h2=>?_) ?_
 ·have hi:=a2t.mp hi;have hx:=a1T hi;rw[];refine⟨i8 bs[i],by show atI (bs.map i8) (i:Int)=_;rw[fT<|by rw[a1S,hx];rfl],?_⟩;have px:i8 bs[i]=D.tup [D.str bs[i].1,d6 bs[i].2]:=rfl;rw[px];rw[];refine⟨λe=>h1<|qK.mpr ⟨_,hx,e⟩,λe=>h2 ?_⟩;unfold stB;rw[hx];exact beq_eq_false_iff_ne.mpr e
 rw[show a5a (stB bs) (a2c bs.length)=K6 bs from rfl];dsimp only;rw[Wv];rw[];rw[lm];refine⟨bs.length+1,by rw[Int.natCast_add];rfl,by omega,⟨by decide,by decide,by decide⟩,⟨by decide,by decide,by decide⟩,?_⟩;have e20:(10:Int) ^ a4q 20=((10 ^ 20:Nat):Int):=by rw[0]
 have e60:(10:Int) ^ a4q 60=((10 ^ 60:Nat):Int):=by rw[0]
 rw[e20,e60];have eks:(a2c<|bs.length+1).map (λi:Nat=>D.int (i:Int))++[D.int ((10 ^ 20:Nat):Int),D.int ((10 ^ 60:Nat):Int)]=(a2c (bs.length+1)++[10 ^ 20,10 ^ 60]).map λi:Nat=>D.int (i:Int):=by rw[a11];rfl
 rw[eks,S1<|by rw[a1H,a3e];show _+2<=_;omega];rw[];have hks:∀ k∈a2c (bs.length+1)++[10 ^ 20,10 ^ 60],k<=10 ^ 60:=λk hk=>by
  rcases a10.mp hk with h|h
  ·have:=a2t.mp h;exact a1N (show k<=100 by omega)<|by decide
  ·simp only[a1Y,a2x,or_false]at h;rcases h with rfl|rfl<;>decide
 have kl:(a2c (bs.length+1)++[10 ^ 20,10 ^ 60]).length=bs.length+3:=by rw[a1V,a3e];rfl
 generalize a2c (bs.length+1)++[10 ^ 20,10 ^ 60]=ks at *
 refine R9.by (λi e M'=>∃(fs:List D) (z5 z6 z7 z8 z9:Option D),e=[some<|D.vl<|bs.map i8,some<|D.vl [d6 near,d6 far],some<|D.vl [o7 y1 u1,o7 y2 u2],some<|.ref p,some<|.vl ((K6 bs).map λi:Nat=>D.int (i:Int)),z5,z6,z7,z8,z9]/\M'=l9 M p (.lst fs)/\fs.length=i/\∀ d∈fs,ua (near,bs,far) d) ⟨[],_,_,_,_,_,rfl,rfl,rfl,λ_ h=>nomatch h⟩ (λ_ _ _ _ _=>by simp only[j5]) ?_ ?_
 ·rintro i dd e M1 hd ⟨fs,z5,z6,z7,z8,z9,rfl,rfl,hfl,hfs⟩
  rw[a1S]at hd;obtain⟨k1,hk1,rfl⟩:=a2d.mp hd;have hkl:=hks k1<|a1K hk1;have hi:=(a1I.mp hk1).1;rw[];refine nD (λe' M'=>M'=l9 M p (.lst fs)/\e'=[some<|D.vl<|bs.map i8,some<|D.vl [d6 near,d6 far],some<|D.vl [o7 y1 u1,o7 y2 u2],some<|.ref p,some<|.vl ((K6 bs).map λi:Nat=>D.int (i:Int)),some<|.int (k1:Int),some<|cM<|ic bs k1,z7,z8,z9]) ?_ ?_
  ·rw[]
   refine Vx ⟨λhm=>?_,λhm=>?_⟩
   ·have hm:=of_decide_eq_true hm
    obtain⟨o1,o2⟩:=GF hm;obtain⟨x,hx,hx1⟩:=qK.mp (a2Q.mp hm).2;obtain⟨l,hl2⟩:=GD hx hx1;have hp12:=hh.l;rw[];refine⟨⟨⟨λx hx=>by have:=(hh.p x hx).2;omega,by omega⟩,bD (λx hx=>(hh.p x hx).2)<|by omega⟩,?_⟩;rw[Ww];rw[];refine⟨⟨_,rfl⟩,_,_,_,rfl,rfl,⟨rfl,KP λx hx=>(by obtain⟨l,hl,rfl⟩:=a17.mp hx;rfl),?_,by rw[a1S,o1];rfl,λi hi e=>?_⟩,?_⟩
    ·rw[a1H];have:=a2w (stB bs)<|a2c bs.length;rw[a3e]at this;show(K6 bs).length<=1000;unfold K6;omega
    ·rw[a1S]at e
     obtain⟨z,h1,h2⟩:=a2d.mp e;injection h2 with h2
     exact o2 i hi<|by rw[h1];exact congrArg some<|a1J.mp h2
    rw[];refine⟨mO hp12 hh.p,l,hl2,?_⟩;have ea:ic bs k1 = .ok (xj (q9 bs bs.length) (q9 (bs.take k1) (bs.take k1).length).length l).word:=by unfold ic;rw[hx];show(if x.1=a1B "stop" then _ else _)=_;rw[if_pos hx1,a2a,hl2];rfl
    rw[ea];generalize xj (q9 bs bs.length) (q9 (bs.take k1) (bs.take k1).length).length l=ir;cases ir with
    | needed z=>exact⟨_,rfl,rfl,rfl⟩
    | idle z=>exact⟨_,rfl,rfl,rfl⟩
   ·have hm:=of_decide_eq_false hm;rw[Py hm];exact⟨rfl,rfl⟩
  ·rintro e' M' ⟨rfl,rfl⟩
   have tl:(tx (k1:Int)).length<=62:=K4 (k:=61) (by decide) (by rw[a1G];exact a1R hkl<|by decide);have tl:(a1B<|toString (k1:Int)).length<=62:=tl;rw[];have s5:(a1B "idle ").length=5:=by rw[0]
   refine K9 f7 ⟨?_,by omega,aM f7 (by omega) ⟨fs++[_],_,_,_,_,_,rfl,by rw[O1],by rw[a1V,hfl];rfl,λd hd=>?_⟩⟩
   ·rw[a1G];exact v6 (k:=1920) (a1R hkl<|a1F (show 10 ^ 60<2 ^ 200 by decide)<|a1X (by decide)<|by decide)<|by decide
   ·rcases a10.mp hd with h|h
    ·exact hfs d h
    ·rw[a13.mp h];exact⟨_,_,_,_,rfl,HS<|a1R hkl<|a3a (by decide)<|by decide,.inl ⟨rfl,k1,rfl,rfl⟩⟩
 ·rintro e M1 ⟨fs,z5,z6,z7,z8,z9,rfl,rfl,hfl,hfs⟩
  rw[a1H]at hfl;rw[];intro q hq;have nqp:q≠p:=λe=>by rw[e,f7]at hq;cases hq
  have hq0:M q=none:=by rw[i7 nqp]at hq;exact hq
  refine⟨q,3,_,rfl,rfl,f7,by decide,by decide,by decide,λq2 hq2=>?_⟩;have n2q:q2≠q:=λe=>by rw[e,f7]at hq2;cases hq2
  have n2p:q2≠p:=λe=>by rw[i7 n2q,e,f7]at hq2;cases hq2
  have h20:M q2=none:=by rw[i7 n2q,i7 n2p]at hq2;exact hq2
  have mp2:(l9 (l9 (l9 M p<|.lst fs) q<|.lst [D.tup [D.non,D.vl [D.int 3]]]) q2<|.lst [D.tup [D.non,D.vl [D.int 3]],D.tup [D.non,D.vl [D.int 3]],D.tup [D.non,D.vl [D.int 3]]]) p=some (.lst fs):=by rw[i7<|Ne.symm n2p,i7<|Ne.symm nqp,f7]
  have ms:∀ b o,M b=some o->(l9 (l9 (l9 M p<|.lst fs) q<|.lst [D.tup [D.non,D.vl [D.int 3]]]) q2<|.lst [D.tup [D.non,D.vl [D.int 3]],D.tup [D.non,D.vl [D.int 3]],D.tup [D.non,D.vl [D.int 3]]]) b=some o:=λb o hb=>by
   have b0:b≠p:=λe=>by rw[e,hp]at hb;cases hb
   have b1:b≠q:=λe=>by rw[e,hq0]at hb;cases hb
   have b2:b≠q2:=λe=>by rw[e,h20]at hb;cases hb
   rw[i7 b2,i7 b1,i7 b0];exact hb
  show Ks _ _ _ _ (l9 (l9 (l9 M p<|.lst fs) q<|.lst [D.tup [D.non,D.vl [D.int 3]]]) q2<|.lst [D.tup [D.non,D.vl [D.int 3]],D.tup [D.non,D.vl [D.int 3]],D.tup [D.non,D.vl [D.int 3]]]);have mq2:(l9 (l9 (l9 M p<|.lst fs) q<|.lst [D.tup [D.non,D.vl [D.int 3]]]) q2<|.lst [D.tup [D.non,D.vl [D.int 3]],D.tup [D.non,D.vl [D.int 3]],D.tup [D.non,D.vl [D.int 3]]]) q2=some (.lst [D.tup [D.non,D.vl [D.int 3]],D.tup [D.non,D.vl [D.int 3]],D.tup [D.non,D.vl [D.int 3]]]):=f7;generalize l9 (l9 (l9 M p<|.lst fs) q<|.lst [D.tup [D.non,D.vl [D.int 3]]]) q2 (.lst [D.tup [D.non,D.vl [D.int 3]],D.tup [D.non,D.vl [D.int 3]],D.tup [D.non,D.vl [D.int 3]]])=M2 at *
  have g1:=fq (q:=y1) (by omega);have g2:=fq (q:=u1) (by omega);have g3:=fq (q:=y2) (by omega);have g4:=fq (q:=u2) (by omega);have c1:CD 190 y1 0 u1 0:=(CD.ray2 a1 a2).mono (by decide);have c2:CD 190 y2 0 u2 0:=(CD.ray2 b1 b2).mono (by decide);refine nD (λe' M'=>∃(q3:Addr) (r0 r1 r2:Except Str Str),e'=[some<|D.vl<|bs.map i8,some<|D.vl [d6 near,d6 far],some<|D.vl [o7 y1 u1,o7 y2 u2],some<|.ref p,some<|.vl ((K6 bs).map λi:Nat=>D.int (i:Int)),z5,z6,some<|D.tup [d6 near,D.vl<|bs.map i8,d6 far],some<|.ref q3,z9]/\M' q3=some (.lst [cM r0,cM r1,cM r2])/\M' p=some (.lst fs)/\M q3=none/\p≠q3/\(∀ b o,M b=some o->M' b=some o)/\gh (near,bs,far) (a1B "round") [] r0/\gh (near,bs,far) (a1B "ever") [d6 y1,d6 u1] r1/\gh (near,bs,far) (a1B "ever") [d6 y2,d6 u2] r2) ?_ ?_
  ·rw[]
   rw[lm];refine⟨λh9=>?_,λh9=>?_⟩
   ·have h8:¬ 8<bs.length:=by omega
    have hw:=D6.small (near:=near) (far:=far) (by omega) hh;have h5:∀ x∈bs,sz x.2<=5:=λx hx=>(hh.p x hx).2;refine⟨hw,λt0 ht0 q3 hq3=>K9 f7 ?_⟩;have nq3:p≠q3:=λe=>by rw[<- e,mp2]at hq3;cases hq3
    have m03:M q3=none:=by
     cases e:M q3 with
     | none=>rfl
     | some o=>have:=ms _ _ e;rw[hq3]at this;cases this
    refine Ek (xs:=[(y1,u1),(y2,u2)]) (enc:=λr=>o7 r.1 r.2) (λr d=>∃ t,EvT near bs far r.1 r.2 t/\d = .tup [.str t,.vl []]) (by show 2<=1000;decide) (by simp only[j5]) (λr hr Q hQ=>?_) λys hy=>?_
    ·rw[]
     refine⟨⟨hw,h5,?_⟩,λt ht=>hQ _ ⟨t,ht,rfl⟩⟩;simp only[a1Y,a2x,or_false]at hr;rcases hr with rfl|rfl
     ·exact c1
     ·exact c2
    ·obtain⟨_,_,⟨t1,e1,rfl⟩,⟨t2,e2,rfl⟩,rfl⟩:=hy.two
     intro q4 hq4;have n43:q4≠q3:=λe=>by rw[e,f7]at hq4;cases hq4
     have m4:M2 q4=none:=by rw[i7 n43]at hq4;exact hq4
     have n4p:p≠q4:=λe=>by rw[<- e,mp2]at m4;cases m4
     refine Lx (ds:=[D.tup [D.str t0,D.vl []]]) (by rw[i7<|Ne.symm n43,f7]) f7 (by show 1+2<=1000;decide) ⟨q3,.ok t0,.ok t1,.ok t2,rfl,f7,?_,m03,nq3,λb o hb=>?_,.inr<|.inl ⟨rfl,by rw[if_neg h8];exact⟨t0,ht0,rfl⟩⟩,.inr<|.inr ⟨rfl,_,_,rfl,c1,by rw[if_neg h8];exact⟨t1,e1,rfl⟩⟩,.inr<|.inr ⟨rfl,_,_,rfl,c2,by rw[if_neg h8];exact⟨t2,e2,rfl⟩⟩⟩
     ·rw[i7 nq3,i7 n4p,i7 nq3];exact mp2
     ·have b3:b≠q3:=λe=>by rw[e,m03]at hb;cases hb
      have b4:b≠q4:=λe=>by rw[ms _ _<|by rw[<- e];exact hb]at m4;cases m4
      rw[i7 b3,i7 b4,i7 b3];exact ms _ _ hb
   ·have h8:8<bs.length:=by omega
    refine⟨q2,.error<|a1B "TooMany",.error<|a1B "TooMany",.error<|a1B "TooMany",rfl,by rw[Kg];exact mq2,mp2,h20,Ne.symm n2p,ms,.inr<|.inl ⟨rfl,by rw[if_pos h8]⟩,.inr<|.inr ⟨rfl,_,_,rfl,c1,by rw[if_pos h8]⟩,.inr<|.inr ⟨rfl,_,_,rfl,c2,by rw[if_pos h8]⟩⟩
  ·rintro e' M3 ⟨q3,r0,r1,r2,rfl,m3,m3p,m0,npq,sub,w0,w1,w2⟩
   rw[];have sb:(a1B " ").length=1:=by rw[0]
   have s5:(a1B "ever ").length=5:=by rw[0]
   refine o9 (xs:=[(y1,u1),(y2,u2)]) (enc:=λr=>o7 r.1 r.2) (λr=>.str<|a1B "ever " ++ rtx r.1++a1B " " ++ rtx r.2) (by show 2<=1000;decide) (by simp only[j5]) (λr hr Q hQ=>?_) ?_
   ·have gr:Gr r.1/\Gr r.2:=by
     simp only[a1Y,a2x,or_false]at hr
     rcases hr with rfl|rfl
     ·exact⟨g1,g2⟩
     ·exact⟨g3,g4⟩
    have l1:=D1 gr.1
    have l2:=D1 gr.2
    rw[]
    exact⟨gr.1,by omega,by rw[w6];omega,gr.2,by rw[w6,w6];omega,hQ⟩
   rw[];refine⟨_,_,rfl,m3p,?_⟩;dsimp only;rw[ME];rw[];refine⟨_,_,rfl,by rw[kI<|Ne.symm npq];exact m3,?_⟩;refine⟨_,_,_,_,rfl,.inr<|.inr rfl,.inr<|.inr rfl,rfl,by show 3<=sizeLine;decide,?_⟩;have ez:Q0 [D.str<|a1B "round",D.str<|a1B "ever " ++ rtx y1++a1B " " ++ rtx u1,D.str<|a1B "ever " ++ rtx y2++a1B " " ++ rtx u2] [cM r0,cM r1,cM r2]=[.tup [D.str<|a1B "round",cM r0],.tup [D.str<|a1B "ever " ++ rtx y1++a1B " " ++ rtx u1,cM r1],.tup [D.str<|a1B "ever " ++ rtx y2++a1B " " ++ rtx u2,cM r2]]:=rfl;rw[ez];dsimp only;rw[kX,S1<|by show fs.length+3<=1000;omega];refine cT (M2:=M) (λb o hb=>?_)<|k _ (by rw[a1V];show fs.length+3<=_;omega) λd hd=>?_
   ·have b1:b≠p:=λe=>by rw[e,hp]at hb;cases hb
    have b2:b≠q3:=λe=>by rw[e,m0]at hb;cases hb
    rw[kI b2,kI b1];exact sub b o hb
   ·rcases a10.mp hd with h|h
    ·exact hfs d h
    ·simp only[a1Y,a2x,or_false]at h
     rcases h with rfl|rfl|rfl
     ·exact⟨_,_,_,_,rfl,DB,w0⟩
     ·exact⟨_,_,_,_,rfl,vX g1 g2,w1⟩
     ·exact⟨_,_,_,_,rfl,vX g3 g4,w2⟩
abbrev cu:Prop:=Fn P w K U J "_law_stood" 12 ["desk","bench","mirrors"] vO
def oN(T:Txt K U w.params)(d:Df K U "_law_stood" (top 153) ["desk","bench","mirrors"])(ZY:N5 P w K U J)(GX_Desk_say:zO P w K U J "Desk" "say" 11 ["self","row"] rC):cu P w K U J:=by
 rw[0,"desk bench mirrors part"];obtain⟨d,bs,near,far,rfl,⟨hh,hl⟩,l,dk,k⟩:=h;refine⟨_,(b9 (p8 PassesOwn.never rfl (n6<|b7 1) (jn 3 sc.nd)<|c6<|v9<|sY (zP.noX GX_Desk_say) (hr.mono<|by decide) (b7 0)<|a9 (e6 v8 (e6 v8 (e6 v8 f9<|jx (b7 3) c5) f9)<|jc ZY hr<|a9 (jx (b7 3) c5) b8) b8)<|b9 (v9<|sY (zP.noX GX_Desk_say) (hr.mono<|by decide) (b7 0)<|a9 (e6 v8 f9<|jc ZY hr<|a9 (jx (b7 2) c5) b8) b8)<|b9 (v9<|sY (zP.noX GX_Desk_say) (hr.mono<|by decide) (b7 0)<|a9 (e6 v8 f9<|jc ZY hr<|a9 (jx (b7 2) c5) b8) b8)<|c6<|c8<|b7 0),?_⟩;rw[];have sl:=B4;have s4:(a1B "put ").length=4:=by rfl
 have s1:(a1B " ").length=1:=by rfl
 have s5:(a1B "near ").length=5:=by rfl
 have s6:(a1B "far ").length=4:=by rfl
 refine R9.by (λi e M'=>∃(ps:List Hl) (z:Option D),aL M' d l (0,bs.take i,0) ps/\ps.length=i/\Oth d l M M'/\e=[some<|.ref d,some<|.vl<|bs.map i8,some<|.vl [d6 near,d6 far],z]) ⟨[],_,dk,rfl,λ_ _ _=>rfl,rfl⟩ (λi e M' _ _=>by simp only[j5]) ?_ ?_
 ·rintro i dd e M1 hd ⟨ps,z,dk1,hps,ot,rfl⟩
  obtain⟨pt,hpt,rfl⟩:=gC hd;have hm:=a1K hpt;have hi:=(a1I.mp hpt).1;obtain⟨pc,pz⟩:=hh.p pt hm;have wl:=gj<|qf pc;have gr:=fq (q:=pt.2) (by omega);have rl:=D1 gr;have tk:bs.take (i+1)=bs.take i++[pt]:=by rw[a2p hi,(a1I.mp hpt).2]
  have lt:(bs.take i).length=i:=by rw[a2q];omega
  have px:i8 pt=D.tup [D.str pt.1,d6 pt.2]:=rfl;rw[px];rw[];exact kK dk1.ob (kv _ _ (by rw[0])<|by rw[0]) ⟨by omega,by rw[w6];omega,gr,by rw[w6,w6];omega,_,_,(0,bs.take i,0),ps,l,Nn (qf pc) gr,by omega,dk1,.inl ⟨(0,bs.take i++[pt],0),⟨by show(bs.take i).length<12;omega,.inl ⟨rfl,pt.1,pt.2,rfl,(Ja pc.kind),rfl⟩⟩,λM' dk2 ot2=>⟨_,_,by rw[tk];exact dk2,by rw[a1V];show ps.length+1=_;omega,λb b1 b2=>by rw[ot2 b b1 b2,ot b b1 b2],rfl⟩⟩⟩
 ·rw[a1H];rintro e M1 ⟨ps,z,dk1,hps,ot,rfl⟩;rw[a2l]at dk1;rw[];have hn:sz near<=5:=hh.n;have hf:sz far<=5:=hh.f;have g1:=fq (q:=near) (by omega);have g2:=fq (q:=far) (by omega);have r1:=D1 g1;have r2:=D1 g2;refine kK dk1.ob (kv _ _ (by rw[0])<|by rw[0]) ⟨g1,by omega,_,_,(0,bs,0),ps,l,HR g1,by omega,dk1,.inl ⟨(near,bs,0),⟨hl,.inr<|.inl ⟨rfl,near,rfl,rfl⟩⟩,λM2 dk2 ot2=>?_⟩⟩;refine kK dk2.ob (kv _ _ (by rw[0])<|by rw[0]) ⟨g2,by omega,_,_,(near,bs,0),_,l,Np g2,by rw[a1V];show ps.length+1<=_;omega,dk2,.inl ⟨(near,bs,far),⟨hl,.inr<|.inr ⟨rfl,far,rfl,rfl⟩⟩,λM3 dk3 ot3=>?_⟩⟩;exact k M3 _ (by rw[a1V,a1V];show ps.length+1+1<=_;omega) dk3 λb b1 b2=>by rw[ot3 b b1 b2,ot2 b b1 b2,ot b b1 b2]
def gL(T:Txt K U w.params)(d:DfM K U "Desk" "__init__" "Desk.__init__" (Cm (top 145) 0) ["self"]):FnM P w K U J "Desk" "__init__" 1 ["self"] HC:=by
 have sc:=gv;refine UW d sc (by rw[12]) λf cdv A outer s H E ds M R Y hr h=>?_;have hu:=hr.units;obtain⟨d,rfl,hd,k⟩:=h;refine⟨_,(b9 (sX T.o_Desk T.n_Desk__hall (b7 0)<|g6<|a9 (i9 rfl T.c_NOUGHT)<|a9 (u5 b8)<|a9 (i9 rfl T.c_NOUGHT) b8)<|c6<|sX T.o_Desk T.n_Desk__past (b7 0)<|F6 b8),?_⟩;rw[];have r0:D.tup [d6 0,D.vl [],d6 0]=qp hl0:=rfl;refine zI hd (by decide) ?_;rw[r0];rw[];refine λl hl=>zI (fs:=[(a1B "hall",qp hl0)]) ?_ (by decide) ?_
 ·have ne:d≠l:=λe=>by rw[<- e,f7]at hl;cases hl
  rw[i7 ne,f7];rfl
 have ne:l≠d:=λe=>by rw[e,f7]at hl;cases hl
 rw[Ig,MN ne];exact k l<|by rw[i7 ne]at hl;exact hl
example N6 sQ _law_next pool base _ digit near stir:GP 1 148:=by
 obtain⟨p,b,rfl,⟨x,y,z,hM⟩,hb,hl,k⟩:=h;refine⟨_,(b9 (g7 (jtm cE (jx (b7 0) c5) c5) (b9 (jst 2 sc.nd (e6 iX (jx (b7 0) c5)<|b7 1))<|b9 (j7 (e6 B7 (jx (b7 0) c5)<|b7 1)<|Ce (b7 0) c5)<|c6<|c8<|b7 2) f6)<|b9 (j7 (e6 F0 (jx (b7 0) c5) c5)<|Ce (b7 0) c5)<|b9 (jst 3 sc.nd (e6 iX (e6 F0 (jx (b7 0) c5)<|e6 j0 c5<|jx (b7 0) c5) c5))<|b9 (jst 4 sc.nd (e6 iX (e6 j0 (e6 F0 (b7 3) c5)<|e6 F0 (b7 3) c5) c5))<|c6<|c8<|e6 iX (e6 B7 (e6 iX (e6 j0 (b7 4)<|b7 4) c5) c5)<|b7 1),?_⟩;rw[];have i0:ixD M (.ref p) (.int 0)=some (.int x):=W2 hM rfl;have i2:ixD M (.ref p) (.int 2)=some (.int z):=W2 hM rfl;rw[jr i0];rw[];rw[jr i0,jr i2];rw[];refine⟨λ_=>⟨hb,?_⟩,λ_=>CZ (j:=2) hM (by show 2<3;decide) ?_⟩
 ·rw[jr i0];rw[];exact⟨⟨by omega,hl⟩,CZ (j:=0) hM (by show 0<3;decide)<|k _ _ (a33 _<|by omega) (a3C _ hb)<|K3.upd _ _ _⟩
 ·rw[jr (W2 f7 rfl:_=some (.int y)),jr (W2 f7 rfl:_=some (.int<|z+1))];rw[];exact⟨Jc (by decide)<|by decide,Zs (by decide) (by decide) (by decide)<|by decide,XJ (by decide)<|by decide,ZG,hb,k _ _ (a33 _<|by omega) (a3C _ hb)<|K3.upd _ _ _⟩
example R5 oP _law_ratio top bottom _ one other:vm 1 149:=by
 obtain⟨a,b,rfl,hb,hl,k⟩:=h;refine⟨_,(T7 (g7 (jtm gO (b7 1) c5) (c6<|kB (i:=0) (j:=1) rfl sc.nd rfl rfl (by decide) rfl rfl<|a9 (e6 J7 c5<|b7 0)<|a9 (e6 J7 c5<|b7 1) b8) f6)<|b9 (kB (i:=2) (j:=3) rfl sc.nd rfl rfl (by decide) rfl rfl<|a9 (l6 cz rfl T.b_abs R7<|a9 (b7 0) b8)<|a9 (b7 1) b8)<|b9 (T6 PassesOwn.never (jtm cE (b7 2) c5)<|c6<|kB (i:=2) (j:=3) rfl sc.nd rfl rfl (by decide) rfl rfl<|a9 (e6 iX (b7 3)<|b7 2)<|a9 (b7 2) b8)<|c6<|c8<|g6<|a9 (e6 B7 (b7 0)<|b7 3)<|a9 (e6 B7 (b7 1)<|b7 3) b8),?_⟩;rw[];refine nD (λe' M'=>M'=M/\∃(t u:Int) (x1 x2:Option D),e'=[some<|.int t,some<|.int u,x1,x2]/\0<u/\u.natAbs.log2<9000/\a2r t u=a2r a b) ?_ ?_
 ·rw[];refine⟨λh1=>⟨_,_,_,_,rfl,by omega,by rw[a5v,a2u];exact hl,by rw[a5v,a5v,Rat.neg_divInt_neg]⟩,λh1=>⟨_,_,_,_,rfl,by omega,hl,rfl⟩⟩
 ·rintro e' M' ⟨rfl,t,u,x1,x2,rfl,hu0,hul,hq⟩
  rw[];refine fX (λm e M2=>M2=M'/\∃ v:Nat,e=[some<|.int t,some<|.int u,some<|.int (m:Int),some<|.int (v:Int)]/\a2i m v=a2i t.natAbs u.natAbs) t.natAbs ⟨rfl,u.natAbs,by rw[show((u.natAbs:Nat):Int)=u by omega],rfl⟩ ?_;rintro m e M2 ⟨rfl,v,rfl,hg⟩;rw[];refine⟨λh0=>⟨by omega,v % m,a40 _<|by omega,m,by rw[Int.natCast_emod],by rw[<- hg,a4g m v,RM.xo v m<|by omega,a4g]⟩,λh0=>?_⟩;have hm:m=0:=by omega
  subst hm;rw[Nat.gcd_zero_left]at hg;subst hg;have hn:=JC (a:=t) (b:=u) (by omega);have hlg:=Cp (a:=t) (b:=u) (by omega) hul;rw[<- hq]at k;exact⟨⟨hn,hlg⟩,⟨hn,hlg⟩,sV (by omega) (by rw[if_neg<|by omega]) k⟩
example J3 oO _law_small pool:Hr 2 150 R5 N6:=by obtain⟨p,rfl,hp,k⟩:=h;refine⟨_,(c6<|c8<|jc R5 hr<|a9 (e6 J7 (jc N6 hr<|a9 (b7 0)<|a9 c5 b8) c5)<|a9 (e6 F0 c5<|jc N6 hr<|a9 (b7 0)<|a9 c5 b8) b8),?_⟩;rw[];refine⟨hp,by decide,λr M1 r0 r1 s1=>⟨s1.pool,by decide,λt M2 t0 t1 s2=>⟨by omega,v6 (a1F (show(1+t).natAbs<2 ^ 4 by omega)<|a1X (by decide)<|by decide)<|by decide,?_⟩⟩⟩;exact k _ _ (sU (by decide) (by omega) (by omega)<|by omega)<|s1.trans s2
example fL sL _law_tiny pool _ top bottom:QZ 3 155 R5 J3:=by
 obtain⟨p,rfl,hp,k⟩:=h;refine⟨_,(b9 (j7 (jc J3 hr<|a9 (b7 0) b8)<|i6 (n:=2) rfl<|c7 (jn 1 sc.nd)<|c7 (jn 2 sc.nd) g9)<|c6<|c8<|jc R5 hr<|a9 (b7 1)<|a9 (e6 j0 (b7 2)<|e6 qh c5 c5) b8),?_⟩;rw[];refine⟨hp,λq M2 hq s2=>?_⟩;rw[];have d1:=l5 q hq;have n1:=u4 q hq;have e25:(10:Int) ^ a4q 25=10000000000000000000000000:=by rw[0]
 have dp:=q.den_pos;rw[e25];have m1:((q.den:Int)*10000000000000000000000000).natAbs<2 ^ 90:=by rw[a2j,a1G];exact a1F (Nat.mul_lt_mul_of_pos_right d1 (show 0<(10000000000000000000000000:Int).natAbs by decide))<|by decide
 have n0:(q.den:Int)*10000000000000000000000000≠0:=by omega
 exact⟨⟨by decide,by decide,by decide⟩,j9 4 90 (by rw[a1G];exact d1) (by decide) (by decide),n0,v6 (k:=9000) (a1F m1<|a1X (by decide)<|by decide)<|by decide,k _ _ (sU (by decide) (a1F n1<|by decide) m1 n0) s2⟩
example P6 fg _law_hall_part pool _ word top bottom:vS 3 151 J3 N6:=by
 obtain⟨p,rfl,hp,k⟩:=h;refine⟨_,(b9 (jst 1 sc.nd (jx (u5<|a9 f9<|a9 f9<|a9 f9<|a9 f9<|a9 f9 b8)<|jc N6 hr<|a9 (b7 0)<|a9 c5 b8))<|b9 (j7 (jc J3 hr<|a9 (b7 0) b8)<|i6 (n:=2) rfl<|c7 (jn 2 sc.nd)<|c7 (jn 3 sc.nd) g9)<|b9 (g7 (jtm n9 (b7 1) f9) (c6<|c8<|g6<|a9 (b7 1)<|a9 (g6<|a9 (b7 2)<|a9 (b7 3) b8) b8) f6)<|b9 (g7 (jtm n9 (b7 1) f9) (c6<|c8<|g6<|a9 (b7 1)<|a9 (g6<|a9 (l6 cz rfl T.b_abs R7<|a9 (b7 2) b8)<|a9 (b7 3) b8) b8) f6)<|c6<|c8<|g6<|a9 (b7 1)<|a9 (g6<|a9 (l6 (So rfl) rfl T.b_max Lb<|a9 c5<|a9 (l6 cz rfl T.b_abs R7<|a9 (b7 2) b8) b8)<|a9 (b7 3) b8) b8),?_⟩;rw[];refine⟨hp,by decide,λr M1 r0 r1 s1=>OU r0 (by omega) λd hd=>?_⟩;have hd':d = .str "gap" \/ d = .str "glass" \/ d = .str "stop" := by simp only[a1Y,a2x,or_false]at hd;grind
 rw[];refine⟨s1.pool,λq M2 hq s2=>?_⟩;have st:=s1.trans s2;have qa:sz (k9 q)<=4:=by rw[Q6];exact hq
 have ok:∀{x:Str × Rat},((x.1 = "gap" /\ 0<=x.2)\/x.1 = "glass" \/ (x.1 = "stop" /\ 0<x.2))->sz x.2<=4->R (i8 x) M2:=λ{x} h1 h2=>k x M2 ⟨h1,by omega⟩ (by omega) st;have n1:¬ a1B "gap" = a1B "glass" := by rw[0]
 have n2:¬ a1B "stop" = a1B "glass" := by rw[0]
 have n3:¬ a1B "stop" = a1B "gap" := by rw[0]
 rcases hd' with rfl|rfl|rfl
 ·rw[];exact⟨λz=>absurd z n1,λ_=>ok (x:=("gap",k9 q)) (.inl ⟨rfl,fW q⟩) qa⟩
 ·rw[];exact ok (x:=("glass",q)) (.inr<|.inl rfl) hq
 ·rw[]
  refine⟨λz=>absurd z n2,λ_=>⟨λz=>absurd z n3,λ_=>?_⟩⟩;by_cases h0:q=0
  ·subst h0;exact ok (x:=("stop",1)) (.inr<|.inr ⟨rfl,by decide⟩)<|by assumption
  ·have hn:q.num≠0:=λz=>h0<|a4S.mp z;rw[show max 1 (q.num.natAbs:Int)=(q.num.natAbs:Int)by omega,Ru];exact ok (x:=("stop",k9 q)) (.inr<|.inr ⟨rfl,Pz h0⟩) qa
example fN sP _law_pool cell:GL 1 147:=by obtain⟨c,rfl,k⟩:=h;refine⟨_,(c6<|c8<|F6<|a9 (l6 (So rfl) rfl T.b_max Lb<|a9 c5<|a9 (e6 J7 (b7 0)<|e6 qh c5 c5) b8)<|a9 (e6 iX (b7 0)<|e6 qh c5 c5)<|a9 c5 b8),?_⟩;rw[];exact⟨Yw,Yw,by decide,λp hp=>k p _ hp (MK.new hp) ⟨_,_,_,f7⟩⟩
def Um{f:Addr}{fd:FuncData}(T:Txt K U w.params)(d:Ls K "law" Bs f fd)(a1d:fM P w K U J)(a02:cw P w K U J)(a03:cu P w K U J)(a0D:FnM P w K U J "Desk" "__init__" 1 ["self"] HC)(a0a:N6 P w K U J)(a0y:fL P w K U J)(ZT:J3 P w K U J)(a0v:P6 P w K U J)(a1e:fN P w K U J):X7 P w K U J CX0 13 f fd ["script"] (nG K vn):=by
 have sc:=Tb;refine RP d sc (λds M R Y h=>by obtain⟨n,rfl,_⟩:=h;rfl) λcdv A outer s H E ds M R Y hr h=>?_;obtain⟨ns,rfl,hlen,k⟩:=h;have hu:=hr.units;refine⟨_,(b9 (p8 PassesOwn.never rfl (n6<|D8 (u5<|a9 c5 b8)<|O0 (b7 0) E6<|B5 c5) (jn 1 sc.nd)<|b9 (jst 2 sc.nd (jc a1e hr<|a9 (b7 1) b8))<|b9 (C7 (i:=3) [2] ["k"] ["pool"] sc.nd rfl (Or.inl rfl) rfl (by rw[0]) rfl (by rw[0]) (by rw[0]) rfl (N7 ⟨rfl,rfl⟩) (N7<|Or.inl rfl) (fk rfl T.b_range<|a9 (jc a0a hr<|a9 (b7 2)<|a9 c5 b8) b8) (λ_ _ _ _ _ _=>(jn 0 (show(["k","pool"]:List Str).Nodup by rw[0]))) (λ_ _ _ _ _ _=>n8) λ_ _ _ _ _ _=>(jc a0v hr<|a9 (b7 1) b8))<|b9 (jst 4 sc.nd (u5<|a9 (jc ZT hr<|a9 (b7 2) b8)<|a9 (jc ZT hr<|a9 (b7 2) b8) b8))<|b9 (jst 5 sc.nd (u5<|a9 (g6<|a9 (jc ZT hr<|a9 (b7 2) b8)<|a9 (jc ZT hr<|a9 (b7 2) b8) b8)<|a9 (g6<|a9 (g6<|a9 c5<|a9 c5 b8)<|a9 (jc ZT hr<|a9 (b7 2) b8) b8) b8))<|T7 (g7 (jtm Y4 (jc a0a hr<|a9 (b7 2)<|a9 c5 b8) c5) (c6<|jst 5 sc.nd (u5<|a9 (g6<|a9 (jc a0y hr<|a9 (b7 2) b8)<|a9 (jc a0y hr<|a9 (b7 2) b8) b8)<|a9 (g6<|a9 (jc a0y hr<|a9 (b7 2) b8)<|a9 (g6<|a9 c5<|a9 c5 b8) b8) b8)) f6)<|b9 (jst 6 sc.nd (jc a03 hr<|a9 (Jp a0D T.m_Desk (hr.mono<|by decide) rfl)<|a9 (b7 3)<|a9 (b7 4) b8))<|b9 (jst 7 sc.nd (jc a02 hr<|a9 (b7 3)<|a9 (b7 4)<|a9 (b7 5) b8))<|c6<|p8 PassesOwn.never rfl (n6<|D8 (b7 7)<|O0 (b7 7) (B5<|R0 c5)<|B5<|R0 c5) (i6 (n:=2) rfl<|c7 (jn 8 sc.nd)<|c7 (jn 9 sc.nd) g9)<|c6<|g7 (jtm (IM hu) (jc a1d hr<|a9 (b7 6)<|a9 (b7 8) b8)<|b7 9) (c6<|c8 jb) f6)<|c6<|c8 jb),?_⟩;rw[];rw[S1<|by have:=List.length_take_le 6 ns;rw[show DL.X2 (a3g D.int ns) none (some 6)=(ns.take 6).map D.int by rw[show(6:Int)=((6:Nat):Int)from rfl,tK,a4D],a1H];omega];rw[show DL.X2 (a3g D.int ns) none (some 6)=(ns.take 6).map D.int by rw[show(6:Int)=((6:Nat):Int)from rfl,tK,a4D]];refine R9.by (λi e M'=>∃ x1 x2 x3 x4 x5 x6 x7 x8 x9:Option D,e=[some<|.vl<|ns.map D.int,x1,x2,x3,x4,x5,x6,x7,x8,x9]) ⟨_,_,_,_,_,_,_,_,_,rfl⟩ (λi e M' _ _=>by simp only[j5]) ?_ ?_
 ·rintro i dd e M' hd ⟨x1,x2,x3,x4,x5,x6,x7,x8,x9,rfl⟩
  obtain⟨n,rfl⟩:∃ n:Int,dd = .int n:=by
   rcases a1Y.mp (a1K hd)with h|h
   ·exact⟨0,h⟩
   ·obtain⟨n,_,rfl⟩:=a17.mp h;exact⟨n,rfl⟩
  rw[];intro p M1 hp mk hP;refine⟨hP,by decide,λr M2 r0 r1 s2=>⟨by omega,?_⟩⟩;refine zp i8 (λx=>cQ x/\sz x.2<=5) (K3 p) r.toNat (A2 _ _) (by omega) (λ_ _=>trivial) (K3.refl s2.pool) (λd hd M3 s3 Q hQ=>?_) λbs M3 hbl hbo s3=>?_
  ·rw[];exact⟨s3.pool,λx M' hx hz s4=>hQ x M' ⟨hx,hz⟩<|s3.trans s4⟩
  refine⟨s3.pool,λnear M4 hn s4=>⟨s4.pool,λfar M5 hf s5=>⟨s5.pool,λy1 M6 h1 s6=>⟨s6.pool,λu1 M7 h2 s7=>⟨s7.pool,λu2 M8 h3 s8=>?_⟩⟩⟩⟩⟩;refine nD (λe' M'=>∃ y1 u1 y2 u2:Rat,e'=[some<|.vl<|ns.map D.int,some<|.int n,some<|.ref p,some<|.vl<|bs.map i8,some<|.vl [d6 near,d6 far],some<|.vl [o7 y1 u1,o7 y2 u2],x6,x7,x8,x9]/\((sz y1<=90/\sz u1<=90)/\sz y2<=90/\sz u2<=90)/\R8 M' p) ?_ ?_
  ·rw[];refine⟨s8.pool,by decide,λc M9 c0 c3 s9=>⟨λ_=>⟨s9.pool,λa1 Ma ha sa=>⟨sa.pool,λa2 Mb hb sb=>⟨sb.pool,λa3 Mc hc sc=>⟨a1,a2,a3,0,rfl,⟨⟨ha,hb⟩,hc,by rw[RM.U8];decide⟩,sc.pool⟩⟩⟩⟩,λ_=>⟨y1,u1,0,u2,rfl,⟨⟨by omega,by omega⟩,by rw[RM.U8];decide,by omega⟩,s9.pool⟩⟩⟩
  ·rintro e' M9 ⟨y1,u1,y2,u2,rfl,hz,pl⟩
   have hh:H61 (near,bs,far):=⟨by show sz near<=5;omega,by show sz far<=5;omega,by show bs.length<=12;omega,hbo⟩;rw[];intro d hd0;refine⟨f7,λl hl0=>?_⟩;have nld:l≠d:=λe=>by rw[e,f7]at hl0;cases hl0
   refine⟨⟨hh,by omega⟩,l,⟨f7,by rw[i7 nld,f7];rfl⟩,λM10 ps hps dk ot=>⟨⟨⟨hh,by omega⟩,hz⟩,λds hdl hda=>?_⟩⟩;have cm:∀ d∈ds++DL.X2 ds (some (-3)) (some (-1)),ua (near,bs,far) d:=λd hd=>by
    rcases a10.mp hd with h|h
    ·exact hda d h
    ·exact hda d<|KH h
   have cl:=KI (xs:=ds) (lo:=some (-3)) (hi:=some (-1));rw[S1<|by omega];refine R9.by (λj e M'=>M'=M10/\∃ z8 z9:Option D,e=[some<|D.vl<|a3g D.int ns,some<|D.int n,some<|D.ref p,some<|D.vl<|a3g i8 bs,some<|D.vl [d6 near,d6 far],some<|D.vl [o7 y1 u1,o7 y2 u2],some<|D.ref d,some<|D.vl ds,z8,z9]) ⟨rfl,_,_,rfl⟩ (λi e M' _ _=>by simp only[j5]) ?_ ?_
   ·rintro j dj e M11 hj ⟨rfl,z8,z9,rfl⟩;obtain⟨s,w,xs,r,rfl,row,an⟩:=cm _<|a1K hj;rw[];exact⟨w,xs,(near,bs,far),ps,l,row,hh,by omega,dk,r,an,Lf hh an,Lf hh an,λz=>absurd rfl z,λ_=>⟨_,_,rfl⟩⟩
   ·rintro e M11 ⟨rfl,z8,z9,rfl⟩;exact⟨_,_,_,_,_,_,_,_,_,rfl⟩
 ·rintro e M' ⟨x1,x2,x3,x4,x5,x6,x7,x8,x9,rfl⟩;rw[];exact k _
end
end K61
namespace K61
abbrev pg:Program:=PySem.Challenge.rw_roundglass_k61_desk_for_ever.prog
def tof{K:a1C}{mg:Str->Option Value}{w:World}{h:Heap}(_:K.In h)(t:Txt K mg w.params):Txt K mg w.params:=t
def OA{P:Program}{w:World}{K:a1C}{mg:Str->Option Value}{fa:Addr}(D:DfL K mg "law" Bs ["script"])(hfa:mg "law" = some (.ref fa))(h:∀(base:Heap) (fd:FuncData),Ls K "law" Bs fa fd->X7 P w K mg base CX0 13 fa fd ["script"] (nG K vn)) :
  ∃ fd:FuncData,(∀(s:Shared) (u:Value),BindsTo s fd ⟨[u],[]⟩ [("script",u)])/\∀ base:Heap,X7 P w K mg base CX0 13 fa fd ["script"] (nG K vn):=by
 obtain⟨f,fd,F,hm,hb⟩:=D.ex
 have e:f=fa:=by rw[hm]at hfa;injection hfa with z;injection z
 subst e
 exact⟨fd,λs u=>.of_eq<|hb [u] rfl,λbase=>h base fd F⟩
theorem Gh{l:PySem.W.OpenLaw}{q:Program}{loose:List Str}{XP:(Str->Option Value)->Heap->Prop}{YP:World->Heap->Prop}{d:DefRec}{K:Params->a1C}(hn:l.most=some 63)(hdf:d.params.defaults=[])
  (hY:∀(w:World) (h:Heap),YP w h->(K w.params).In h)
  (F:∀(w:World) (mg:Str->Option Value) (fa:Addr) (h:Heap),(K w.params).In h->h.Ns mainGlobals mg->mg d.name=some (.ref fa) ->
   ∃ fd:FuncData,(∀(s:Shared) (u:Value),BindsTo s fd ⟨[u],[]⟩ [("script",u)])/\∀ base:Heap,X7 l.prog w (K w.params) mg base CX0 13 fa fd ["script"] (nG (K w.params) vn)) :
  PySem.W.WalkO q loose XP YP l.row.toRowW d [] (λf vs=>PySem.call f vs) :=
 L2.Gf (n:=63) (k:=13) (x := "script") (CX:=CX0) (sp:=λK=>nG K vn) hn (by decide) hdf ⟨rfl,by decide,by decide⟩ hY (λw mg fa h a b c=>let ⟨fd,h1,h2⟩:=F w mg fa h a b c;⟨fd,h1,λbase _ _=>h2 base⟩)
  (λK H a ns hl hO hS=>Uy hO hS ⟨ns,rfl,hl,λ_=>rfl⟩) λ_ _ _ _ z=>z
end K61
open PySem PySem.W PyProof.Rows
local macro_rules|`(tactic| rw[1])=>`(tactic| (refine' DL.xu ‹_› ‹_› ?n ?l ?c ?k ?b;(case n=>k_is);(case l=>k_is);(case c=>k_is);(case k=>k_is);(case b=>first|exact DL.by1 λ_=>rfl|exact DL.by2 λ_ _=>rfl|exact DL.by3 λ_ _ _=>rfl|exact DL.by4 λ_ _ _ _=>rfl)))
set_option hygiene false in
local macro_rules|`(tactic| rw[99,$a:ident,$t:term])=>do
 let (f,h):=if t.raw.isIdent then(t.raw,#[])else(t.raw[0],t.raw[1].getArgs.map λx=>(⟨x⟩:Lean.Term))
 `(tactic| have $a:ident:=$(Lean.mkIdent (`K61++f.getId)) K61.pg w _ _ b T (by rw[1]) $h*)
set_option maxRecDepth 100000 in
set_option maxHeartbeats 0 in
theorem PySem.Challenge.cw_roundglass_k61_desk_for_ever_holds : PySem.Challenge.rw_roundglass_k61_desk_for_ever.Holds := by
 w_on;refine TP ?_
 k_fill
 refine K61.Gh (l:=PySem.Challenge.rw_roundglass_k61_desk_for_ever) rfl rfl (fun w h Y=>PySem.W.kIn_of Y) ?F
 intro w mg fa h KX G hmg
 have T:=K61.tof (w:=w) (mg:=mg) KX (by
  refine' ⟨mg_none_of KX G ?_,mg_none_of KX G ?_,mg_none_of KX G ?_,mg_none_of KX G ?_,mg_none_of KX G ?_,mg_none_of KX G ?_,mg_none_of KX G ?_,mg_none_of KX G ?_,mg_none_of KX G ?_,mg_none_of KX G ?_,mg_none_of KX G ?_,mg_none_of KX G ?_,mg_none_of KX G ?_,mg_none_of KX G ?_,mg_none_of KX G ?_,mg_none_of KX G ?_,mg_none_of KX G ?_,mg_none_of KX G ?_,DL.WV _,DL.Pk ?_ ?_ ?_ ?_ ?_,DL.IV ?_ ?_,DL.IV ?_ ?_,DL.Uv ?_ ?_ ?_ ?_ ?_,DL.Vb KX G ?_ ?_ ?_ ?_ (DL.t9 (DL.B9 ?_ rfl (DL.m7.cons DL.u7 (DL.m7.cons DL.u7 DL.m7.nil))) (DL.t9 (DL.B9 ?_ rfl (DL.m7.cons DL.u7 (DL.m7.cons DL.u7 DL.m7.nil))) (DL.t9 (DL.B9 ?_ rfl (DL.m7.cons DL.u7 DL.m7.nil)) (DL.t9 (DL.B9 ?_ rfl (DL.m7.cons DL.u7 DL.m7.nil)) (DL.t9 (DL.B9 ?_ rfl (DL.m7.cons DL.u7 DL.m7.nil)) (DL.t9 (DL.B9 ?_ rfl DL.m7.nil) (DL.t9 (DL.B9 ?_ rfl DL.m7.nil) (DL.t9 (DL.B9 ?_ rfl DL.m7.nil) (DL.t9 (DL.B9 ?_ rfl DL.m7.nil) (DL.t9 (DL.B9 ?_ rfl (DL.m7.cons DL.u7 DL.m7.nil)) (DL.t9 (DL.B9 ?_ rfl (DL.m7.cons DL.u7 (DL.m7.cons DL.u7 DL.m7.nil))) (DL.t9 (DL.B9 ?_ rfl (DL.m7.cons DL.u7 DL.m7.nil)) (DL.t9 (DL.B9 ?_ rfl DL.m7.nil) (DL.t9 (DL.B9 ?_ rfl (DL.m7.cons DL.u7 (DL.m7.cons DL.u7 DL.m7.nil))) (DL.t9 (DL.B9 ?_ rfl DL.m7.nil) DL.jH.nil))))))))))))))),DL.Jz KX G ?_ ?_ ?_ ?_,DL.tm KX G ?_ (DL.B9 ?_ rfl (DL.m7.cons DL.u7 (DL.m7.cons DL.u7 (DL.m7.cons DL.u7 (DL.m7.cons DL.u7 (DL.m7.cons DL.u7 DL.m7.nil)))))),DL.tm KX G ?_ DL.u7,DL.tj KX G ?_,DL.kG KX G ?_ ?_,DL.Jz KX G ?_ ?_ ?_ ?_,DL.tj KX G ?_,DL.tj KX G ?_,DL.tj KX G ?_,DL.kG KX G ?_ ?_,DL.tm KX G ?_ (DL.B9 ?_ rfl (DL.m7.cons DL.u7 (DL.m7.cons DL.u7 (DL.m7.cons DL.u7 DL.m7.nil)))),DL.kG KX G ?_ ?_,DL.tm KX G ?_ (DL.B9 ?_ rfl (DL.m7.cons DL.u7 (DL.m7.cons DL.u7 (DL.m7.cons DL.u7 DL.m7.nil)))),DL.UN KX G ?_ ?_ ?_ ?_ ?_ ?_,DL.kG KX G ?_ ?_,DL.JV KX G ?_ ?_,DL.JV KX G ?_ ?_,DL.Gu KX G ?_ ?_ ?_,DL.Gu KX G ?_ ?_ ?_,DL.CG ?_ ?_ ?_ ?_ ?_ ?_ ?_ ?_,DL.CG ?_ ?_ ?_ ?_ ?_ ?_ ?_ ?_,DL.gT (DL.J8 KX G ?_ DL.bp) (DL.y7 ?_ ?_ (DL.y7 ?_ ?_ DL.W3)),DL.gT (DL.J8 KX G ?_ DL.bp) (DL.y7 ?_ ?_ (DL.y7 ?_ ?_ DL.W3)),DL.gT (DL.J8 KX G ?_ DL.bp) (DL.y7 ?_ ?_ (DL.y7 ?_ ?_ DL.W3)),DL.gT (DL.J8 KX G ?_ DL.bp) (DL.y7 ?_ ?_ (DL.y7 ?_ ?_ DL.W3)),DL.gT (DL.J8 KX G ?_ (DL.J8 KX G ?_ (DL.J8 KX G ?_ DL.bp))) (DL.y7 ?_ ?_ (DL.y7 ?_ ?_ DL.W3)),DL.gT (DL.J8 KX G ?_ DL.bp) (DL.y7 ?_ ?_ (DL.y7 ?_ ?_ DL.W3)),(DL.y7 ?_ ?_ (DL.y7 ?_ ?_ DL.W3))⟩
  iterate 3 (all_goals try first|k_is|k_exc|kts_exm|k_keys)
  all_goals (try decide)
  all_goals (try simp only[a1Z,a2R])
  all_goals (try kit_is))
 refine K61.OA (by (refine' DL.Vc ‹_› ‹_› ?n ?l ?c ?k ?b;(case n=>k_is);(case l=>k_is);(case c=>k_is);(case k=>k_is);(case b=>exact DL.by1 λ_=>rfl))) hmg fun b f F=>?_
 rw[99,a1h,wJ]
 rw[99,a04,sA a1h]
 rw[99,a1z,Uk a04]
 rw[99,a0z,gJ a1z]
 rw[99,a1s,yC a0z]
 rw[99,ZZ,yB]
 rw[99,a0k,wL]
 rw[99,a0q,wM ZZ a0k]
 rw[99,a0w,mG]
 rw[99,a0E,oy a0w]
 rw[99,a0S,oz a0q a0E]
 rw[99,a0O,mC a0S]
 rw[99,a05,sv a0O]
 rw[99,a1m,wG a05]
 rw[99,a0n,Of]
 have ZV:=K61.IG K61.pg w _ _ b T (by (refine' DL.Vd ‹_› ‹_› ?n ?l ?c ?k ?b;(case n=>k_is);(case l=>k_is);(case c=>k_is);(case k=>k_is);(case b=>exact DL.by2 λ_ _ _=>rfl))) ZZ a0k
 rw[99,ZR,IE ZV]
 rw[99,a1f,II ZR]
 rw[99,a0l,Od ZV]
 rw[99,a1t,DI]
 rw[99,a0r,wu ZV a1t]
 rw[99,a0h,Oc ZV]
 rw[99,a0j,NY]
 rw[99,a1u,DM ZV a0j]
 rw[99,a0H,yy]
 rw[99,a0G,yx]
 rw[99,a0R,DN]
 rw[99,a0I,jD a0G a0H a0R]
 rw[99,a0J,jC]
 rw[99,a0o,bG ZZ]
 rw[99,a0P,mD a1u ZV a0j a0H a0G a0I a0J a0o]
 rw[99,ZW,wx]
 rw[99,ZS,wI]
 rw[99,a0g,IH a0h ZS]
 rw[99,a1v,IJ a0g ZR]
 rw[99,a0T,oG a1f a0l a0r ZR ZW ZS a1v]
 rw[99,a1w,NZ a0j]
 rw[99,a0M,sF a0j a1w]
 rw[99,a06,sH]
 rw[99,a07,sC a06]
 rw[99,a0K,jB]
 rw[99,a0p,bF ZZ]
 rw[99,a1i,wC a0R a0K a0p]
 rw[99,a1j,wN a0j a0M a07 a1i]
 rw[99,a1x,Oe a0P a0T a1j]
 rw[99,a08,sD]
 rw[99,a1n,Oh a0n a1f a0l a0r a0h a1x a08]
 rw[99,a0b,mE a0g ZR a0h]
 rw[99,a0e,wK a0b]
 rw[99,GX_part_of,wt]
 rw[99,GX_idle_text,om a1n a0e GX_part_of]
 rw[99,GX_bench_answer,gD GX_idle_text]
 rw[99,a0d,oq]
 rw[99,a0c,sr]
 rw[99,ZU,gH ZZ]
 rw[99,a1g,IF a0c ZU]
 rw[99,a0s,wH a1g]
 rw[99,a0f,Oa a0h]
 rw[99,ZQ,fc ZS a0f]
 rw[99,a1l,wD a0l ZV a0s a0f ZQ]
 rw[99,ZX,sG a0n ZW a0f ZQ]
 rw[99,a0U,oF]
 rw[99,a0Q,mF a0c ZU]
 rw[99,a0x,mz a0U a0Q]
 rw[99,a0A,gE a0c ZU]
 rw[99,a0B,gG a0A]
 rw[99,a0X,oK a0x a0B ZQ ZX a0f a0n ZW]
 rw[99,a1o,yz]
 have a0V:=K61.ou K61.pg w _ _ b T (by (refine' DL.xu ‹_› ‹_› ?n ?l ?c ?k ?b;(case n=>k_is);(case l=>k_is);(case c=>k_is);(case k=>k_is);(case b=>exact DL.by5 λ_ _ _ _ _=>rfl))) a0n ZW a1g a1o a0s ZR
 rw[99,a0Y,oH a0V a0f ZX]
 rw[99,a0N,sE a0h ZR]
 rw[99,a1A,Ul a0h ZR]
 rw[99,a09,sI a0N a1A]
 rw[99,a0L,jA]
 rw[99,a0i,mB a0L]
 rw[99,a0Z,oI a0e a0i]
 rw[99,a0W,oM]
 rw[99,a1k,wB a0W a0b]
 rw[99,a0t,wF a1k a0i]
 rw[99,a1p,Oj a1l ZX a0X a0Y a09 a0Z a0t]
 rw[99,a1c,sJ a0d a1p]
 rw[99,a00,oA a0d a0q]
 rw[99,a0F,oJ]
 rw[99,a1y,Ob a0F]
 rw[99,a1a,su a0l a0g a0n ZS a1y ZR]
 rw[99,a1b,sx a0g a0l a0f]
 rw[99,a1q,yA ZS a0g]
 rw[99,a1r,Og a1a a0f a1b a1q ZQ ZX a0t]
 rw[99,a01,ow a00 a1r]
 rw[99,GX_hall_answer,jz a1c a01]
 have GX_Desk_say:=K61.so K61.pg w _ _ b T (by (refine' DL.Kp ‹_› ‹_› ?n ?a ?i ?l ?c ?k ?pg ?hd ?po ?sa ?b;(case n=>k_is);(case a=>k_is);(case i=>k_is);(case l=>k_is);(case c=>k_is);(case k=>k_is);(case pg=>k_is);(case hd=>k_is);(case po=>k_is);(case sa=>k_is);(case b=>exact DL.by2 λ_ _=>rfl))) a1s a1m GX_bench_answer GX_hall_answer
 rw[99,a1d,sO GX_Desk_say]
 rw[99,ZY,sN]
 rw[99,a0C,gK a1p]
 rw[99,a0u,fe ZY a1r]
 rw[99,a02,oQ ZY a0C a0u a1n a0e]
 rw[99,a03,oN ZY GX_Desk_say]
 have a0D:=K61.gL K61.pg w _ _ b T (by (refine' DL.Kp ‹_› ‹_› ?n ?a ?i ?l ?c ?k ?pg ?hd ?po ?sa ?b;(case n=>k_is);(case a=>k_is);(case i=>k_is);(case l=>k_is);(case c=>k_is);(case k=>k_is);(case pg=>k_is);(case hd=>k_is);(case po=>k_is);(case sa=>k_is);(case b=>exact DL.by1 λ_=>rfl)))
 rw[99,a0a,sQ]
 rw[99,a0m,oP]
 rw[99,ZT,oO a0m a0a]
 rw[99,a0y,sL a0m ZT]
 rw[99,a0v,fg ZT a0a]
 rw[99,a1e,sP]
 exact K61.Um K61.pg w _ _ b T F a1d a02 a03 a0D a0a a0y ZT a0v a1e
end
